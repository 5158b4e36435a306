import PyProof.Rows.All
import Wide.All
import OpenK.AllK
import Wide.FinOn
import Lean
import PyProof.EqAt
import PyProof.EqKinds
import PyProof.TupleCall
import PyProof.ExcStrCall
import PyProof.ExcStrAll.ValueError
import PyProof.TupleOfStr
import PyProof.DictIter
import PyProof.DictWalks
import PyProof.Rows.SetFrom
import PyProof.CollectWalk
import PyProof.Rows.SortShell
import PyProof.Rows.SortWalk
import PyProof.ListRange
import PyProof.ZipIter
import PyProof.Draws
import PyProof.EnumMake
import PyProof.Rows.StrFirst
import PyProof.NeData
import PyProof.P3In
import PySem.Challenge.RW_bracketrows_k28_what_stands_there
set_option Elab.async false
set_option linter.all false
set_option maxRecDepth 100000
namespace L2
open PySem PySem.Spec PyProof.Rows
abbrev Key:=Sum Int Str
def keyIs:Key->Value->Bool
 | .inl k,v=>Value.isInt k v
 | .inr x,v=>Value.isStrOf x v
def keyH(w:World):Key->Int
 | .inl k=>hashInt k
 | .inr x=>hashStr w x
theorem zAc:∀ {k:Key} {v:Value},keyIs k v=true->(∃i t,k=Sum.inl i/\v=Value.int i t)\/(∃x t,k=Sum.inr x/\v=Value.str x t)
 | .inl i,v,h=>by
   obtain⟨t,e⟩:=Value.isInt_shape (k:=i) (v:=v) h
   exact .inl ⟨i,t,rfl,e⟩
 | .inr x,v,h=>by
   obtain⟨t,e⟩:=Value.isStrOf_shape (x:=x) (v:=v) h
   exact .inr ⟨x,t,rfl,e⟩
theorem zIF(i:Int)(t:Tok):keyIs (.inl i) (.int i t)=true:=by simp[keyIs,Value.isInt]
theorem zIE(x:Str)(t:Tok):keyIs (.inr x) (.str x t)=true:=by simp[keyIs,Value.isStrOf]
theorem zNG(a b:Int):decide ((Sum.inl a:Key)=Sum.inl b)=(a==b):=by
 by_cases e:a=b
 ·subst e;simp
 ·have h:¬ (Sum.inl a:Key)=Sum.inl b:=fun q=>e (Sum.inl.inj q)
  rw[decide_eq_false h]
  exact(beq_eq_false_iff_ne.mpr e).symm
theorem zND(a b:Str):decide ((Sum.inr a:Key)=Sum.inr b)=decide (a=b):=by
 by_cases e:a=b
 ·subst e;simp
 ·have h:¬ (Sum.inr a:Key)=Sum.inr b:=fun q=>e (Sum.inr.inj q)
  rw[decide_eq_false h,decide_eq_false e]
theorem zNF(a:Int)(b:Str):decide ((Sum.inl a:Key)=Sum.inr b)=false:=decide_eq_false (fun q=>nomatch q)
theorem zNE(a:Str)(b:Int):decide ((Sum.inr a:Key)=Sum.inl b)=false:=decide_eq_false (fun q=>nomatch q)
def mixKind(prog:Program)(w:World):PySem.KeyKind prog w Key where
 is:=keyIs
 hash:=keyH w
 inj:=fun v a b ha hb=>by
  rcases zAc ha with⟨i,t,rfl,rfl⟩|⟨x,t,rfl,rfl⟩
  ·rcases zAc hb with⟨j,u,rfl,e⟩|⟨y,u,rfl,e⟩
   ·injection e with e1 _;rw[e1]
   ·exact nomatch e
  ·rcases zAc hb with⟨j,u,rfl,e⟩|⟨y,u,rfl,e⟩
   ·exact nomatch e
   ·injection e with e1 _;rw[e1]
 byValue:=fun k v h=>by
  rcases zAc h with⟨i,t,rfl,rfl⟩|⟨x,t,rfl,rfl⟩<;>rfl
 pyHash:=fun hv h=>by
  rcases zAc hv with⟨i,t,rfl,rfl⟩|⟨x,t,rfl,rfl⟩
  ·exact wpAny_pyHash_int h
  ·exact wpAny_pyHash_str h
 eqBool:=fun hu hv h=>by
  rcases zAc hu with⟨i,t,rfl,rfl⟩|⟨x,t,rfl,rfl⟩
  ·rcases zAc hv with⟨j,u,rfl,rfl⟩|⟨y,u,rfl,rfl⟩
   ·rw[zNG]at h;exact wpAny_eqBool_int h
   ·rw[zNF]at h;exact SeqAt.EqAt.int_str i t y u _ _ _ _ h
  ·rcases zAc hv with⟨j,u,rfl,rfl⟩|⟨y,u,rfl,rfl⟩
   ·rw[zNE]at h;exact SeqAt.EqAt.str_int x t j u _ _ _ _ h
   ·rw[zND]at h;exact wpAny_eqBool_str h
 «strs»:=fun k x t v h=>by
  rcases zAc h with⟨i,u,rfl,e⟩|⟨y,u,rfl,e⟩
  ·exact nomatch e
  ·injection e with e1 _
   subst e1
   cases v<;>rfl
theorem zFm(prog:Program)(w:World)(i:Int)(t:Tok):(mixKind prog w).is (.inl i) (.int i t)=true:=zIF i t
theorem zFl(prog:Program)(w:World)(x:Str)(t:Tok):(mixKind prog w).is (.inr x) (.str x t)=true:=zIE x t
inductive V where
 |non|bl (b:Bool)|int (i:Int)|str (x:Str)|byt (b:Array UInt8)|flt (b:UInt64)|ref (a:Addr)|ty (n:String)
 deriving DecidableEq
def RelV:V->Value->Prop
 | .non,u=>u=Value.none
 | .bl b,u=>u=Value.bool b
 | .int i,u=>∃t,u=Value.int i t
 | .str x,u=>∃t,u=Value.str x t
 | .byt b,u=>∃t,u=Value.bytes b t
 | .flt b,u=>∃t,u=Value.float b t
 | .ref a,u=>u=Value.ref a
 | .ty n,u=>u=Value.type n
abbrev Vals:List V->List Value->Prop:=Paired RelV
theorem Vals.length{xs:List V}{us:List Value}(r:Vals xs us):xs.length=us.length:=Paired.length r
theorem Vals.get:∀ {xs:List V} {us:List Value} {i:Nat} {x:V},Vals xs us->xs[i]? =some x->∃u,us[i]? =some u/\RelV x u
 |_,_,_,_, .nil,e=>by simp at e
 |_,_,0,_, .cons r _,e=>by simp at e;subst e;exact⟨_,rfl,r⟩
 |_,_,i+1,x, .cons _ t,e=>by
  obtain⟨u,h1,h2⟩:=Vals.get (i:=i) (x:=x) t (by simpa using e)
  exact⟨u,by simpa using h1,h2⟩
theorem Vals.set{x:V}{u:Value}(r:RelV x u):∀ {xs:List V} {us:List Value} (i:Nat),Vals xs us->Vals (xs.set i x) (us.set i u)
 |_,_,_, .nil=> .nil
 |_,_,0, .cons _ t=> .cons r t
 |_,_,i+1, .cons q t=> .cons q (Vals.set r i t)
theorem Vals.append:∀ {xs ys:List V} {us ws:List Value},Vals xs us->Vals ys ws->Vals (xs++ys) (us++ws)
 |_,_,_,_, .nil,s=>s
 |_,_,_,_, .cons r t,s=> .cons r (Vals.append t s)
theorem Vals.take:∀ {xs:List V} {us:List Value} (n:Nat),Vals xs us->Vals (xs.take n) (us.take n)
 |_,_,0,_=> .nil
 |_,_,_+1, .nil=> .nil
 |_,_,n+1, .cons r t=> .cons r (Vals.take n t)
theorem Vals.drop:∀ {xs:List V} {us:List Value} (n:Nat),Vals xs us->Vals (xs.drop n) (us.drop n)
 |_,_,0,r=>r
 |_,_,_+1, .nil=> .nil
 |_,_,n+1, .cons _ t=>Vals.drop n t
def RelO:Option V->Option Value->Prop
 |some v,some u=>RelV v u
 |none,none=>True
 |_,_=>False
def KV{κ:Type}:List (κ×V)->List (κ×Value)->Prop:=Paired fun(p:κ×V) (q:κ×Value)=>p.1=q.1/\RelV p.2 q.2
def kV:Key->V
 | .inl i=> .int i
 | .inr x=> .str x
inductive HO where
 |lst (xs:List V)
 |tup (xs:List V)
 |dK (kvs:List (Key×V))|dT (kvs:List (List Key×V))
 |set (S:Int->Bool) (n:Nat)
 |ins (C dx:Addr) (fs:List (Str×V))
 |own (x:Addr)
 |xd (fs:List (Str×V))
 |met (f x:Addr)
 |rng (lo hi:Int)
 |frz (o:Obj) (u:HO)
 |tbl (ps:Array Value)
 |ext (φ:Heap->Prop)
abbrev Hp:=Addr->Option HO
def upd(H:Hp)(a:Addr)(o:HO):Hp:=fun b=>if b=a then some o else H b
theorem zAC{H:Hp}{a:Addr}{o:HO}:upd H a o a=some o:=by unfold upd;rw[if_pos rfl]
theorem zAG{H:Hp}{a b:Addr}{o:HO}(h:b≠a):upd H a o b=H b:=by unfold upd;rw[if_neg h]
theorem zBr{H:Hp}{a b:Addr}{o u:HO}(h:H a=some o)(h':H b=some u)(d:o≠u):a≠b:=by
 intro e;subst e;rw[h]at h';exact d (Option.some.inj h')
theorem zAE{H:Hp}{a b:Addr}{o:HO}(h:H a=some o)(h':H b=none):a≠b:=by
 intro e;subst e;rw[h]at h';cases h'
section
variable(P:Program)(w:World)
def ObjOk(H:Hp)(h:Heap)(a:Addr):HO->Prop
 | .lst xs=>xs.length<=sizeLine/\∃ (its:List Value) (n:Nat),Vals xs its/\h.get? a=some {cls:= .type "list",data:= .seq its.toArray n}
 | .tup xs=>xs.length<=sizeLine/\∃its:List Value,Vals xs its/\IsTup h a its.toArray
 | .dK kvs=>kvs.length<=sizeLine/\(a==sysModules)=false/\∃vs,KV kvs vs/\h.DictOf (mixKind P w) a vs
 | .dT kvs=>kvs.length<=sizeLine/\(a==sysModules)=false/\∃xs:List (List Key×Addr×Value),
     Paired (fun(p:List Key×V) (q:List Key×Addr×Value)=>p.1=q.1/\H q.2.1=some (.tup (p.1.map kV))/\RelV p.2 q.2.2) kvs xs/\
     ∃o es ep,h.get? a=some o/\o.ExactDict/\o.data= .dict es ep/\es.toList=xs.map (entryOfKey (tupleKind (mixKind P w)))/\(xs.map (·.1)).Nodup
 | .set S n=>h.SetOf (intKind P w) a S n
 | .ins C dx fs=>H dx=some (.own a)/\fs.length<=1000/\dx≠a/\h.get? a=some (PySem.W.instObj C dx)/\
     ∃mA,h.Ns1 dx mA/\(∀f,RelO (fs.lookup f) (mA f))/\PySem.Within mA (fs.map (·.1))
 | .own _=>∃o,h.get? a=some o
 | .xd fs=>∃mA,h.Ns1 a mA/\∀f,RelO (fs.lookup f) (mA f)
 | .rng lo hi=>∃t u v,h.get? a=some {cls:= .type "range",data:= .fields #[.int lo t, .int hi u, .int 1 v]}
 | .frz o u=>h.get? a=some o/\ObjOk H h a u
 | .tbl ps=>h.get? a=some {cls:= .none,data:= .fields ps}
 | .met f x=>h.get? a=some (PySem.W.methodObj (.ref f) (.ref x))
 | .ext φ=>φ h/\(∃o,h.get? a=some o)/\∀h1 h2:Heap,φ h1->(∀o,h1.get? a=some o->h2.get? a=some o)->φ h2
structure HOk (H:Hp) (h:Heap):Prop where
 all:∀a o,H a=some o->ObjOk P w H h a o
 sm:∀o,H sysModules=some o->∃ob u,o= .frz ob u
 bg:∃b o,1<b/\h.get? b=some o
instance (H:Hp) (h:Heap):CoeFun (HOk P w H h) fun _=>∀a o,H a=some o->ObjOk P w H h a o:=⟨HOk.all⟩
end
section
variable{P:Program}{w:World}{H H':Hp}{h h':Heap}{a:Addr}{o:HO}
theorem ObjOk.lt(x:ObjOk P w H h a o):a<h.objs.size:=by
 cases o with
 |lst xs=>obtain⟨_,_,_,_,e⟩:=x;exact Heap.lt_size e
 |tup xs=>obtain⟨_,_,_,p⟩:=x;exact p.lt
 |dK kvs=>obtain⟨_,_,_,_,o,_,_,e,_⟩:=x;exact Heap.lt_size e
 |dT kvs=>obtain⟨_,_,_,_,o,_,_,e,_⟩:=x;exact Heap.lt_size e
 |set S n=>obtain⟨o,_,_,_,e,_⟩:=x;exact Heap.lt_size e
 |ins C dx fs=>obtain⟨_,_,_,e,_⟩:=x;exact Heap.lt_size e
 |own y=>obtain⟨_,e⟩:=x;exact Heap.lt_size e
 |xd fs=>obtain⟨_,⟨_,_,_,e,_⟩,_⟩:=x;exact Heap.lt_size e
 |rng lo hi=>obtain⟨_,_,_,e⟩:=x;exact Heap.lt_size e
 |frz ob u=>obtain⟨e,_⟩:=x;exact Heap.lt_size e
 |tbl ps=>exact Heap.lt_size (show h.get? a=some _ from x)
 |met f y=>exact Heap.lt_size (show h.get? a=some _ from x)
 |ext φ=>obtain⟨_,⟨_,e⟩,_⟩:=x;exact Heap.lt_size e
theorem Paired.mapP{α β:Type}{F G:α->β->Prop}:∀ {l₁:List α} {l₂:List β},Paired F l₁ l₂->(∀a b,F a b->G a b)->Paired G l₁ l₂
 |_,_, .nil,_=> .nil
 |_,_, .cons r t,f=> .cons (f _ _ r) (Paired.mapP t f)
theorem ObjOk.stay(x:ObjOk P w H h a o)(k:∀b u,(b=a\/H b=some (.own a))->h.get? b=some u->h'.get? b=some u)
 (ho:∀b,H b=some (.own a)->H' b=some (.own a)) (ht:∀b xs,H b=some (.tup xs)->H' b=some (.tup xs)):ObjOk P w H' h' a o:=by
 induction o with
 |lst xs=>obtain⟨z,its,n,r,e⟩:=x;exact⟨z,its,n,r,k _ _ (.inl rfl) e⟩
 |tup xs=>obtain⟨z,its,r,ob,e,c⟩:=x;exact⟨z,its,r,ob,k _ _ (.inl rfl) e,c⟩
 |dK kvs=>obtain⟨z,y,vs,r,ob,es,ep,e,c⟩:=x;exact⟨z,y,vs,r,ob,es,ep,k _ _ (.inl rfl) e,c⟩
 |dT kvs=>
  obtain⟨z,y,xs,r,ob,es,ep,e,c⟩:=x
  exact⟨z,y,xs,Paired.mapP r fun p q z=>⟨z.1,ht _ _ z.2.1,z.2.2⟩,ob,es,ep,k _ _ (.inl rfl) e,c⟩
 |set S n=>obtain⟨ob,es,ep,t,e,c⟩:=x;exact⟨ob,es,ep,t,k _ _ (.inl rfl) e,c⟩
 |ins C dx fs=>
  obtain⟨d,z,ne,e,mA,⟨od,es,ep,e2,c⟩,r⟩:=x
  exact⟨ho _ d,z,ne,k _ _ (.inl rfl) e,mA,⟨od,es,ep,k _ _ (.inr d) e2,c⟩,r⟩
 |own y=>obtain⟨ob,e⟩:=x;exact⟨ob,k _ _ (.inl rfl) e⟩
 |xd fs=>obtain⟨mA,⟨od,es,ep,e,c⟩,r⟩:=x;exact⟨mA,⟨od,es,ep,k _ _ (.inl rfl) e,c⟩,r⟩
 |rng lo hi=>obtain⟨t,u,v,e⟩:=x;exact⟨t,u,v,k _ _ (.inl rfl) e⟩
 |frz ob u ih=>obtain⟨e,q⟩:=x;exact⟨k _ _ (.inl rfl) e,ih q⟩
 |tbl ps=>
  have e:h.get? a=some {cls:= .none,data:= .fields ps}:=x
  show h'.get? a=some {cls:= .none,data:= .fields ps}
  exact k a _ (.inl rfl) e
 |met f y=>
  have e:h.get? a=some (PySem.W.methodObj (.ref f) (.ref y)):=x
  show h'.get? a=some (PySem.W.methodObj (.ref f) (.ref y))
  exact k a _ (.inl rfl) e
 |ext φ=>obtain⟨p,⟨o,e⟩,st⟩:=x;exact⟨st _ _ p fun o q=>k _ _ (.inl rfl) q,⟨o,k _ _ (.inl rfl) e⟩,st⟩
theorem HOk.lt(x:HOk P w H h)(e:H a=some o):a<h.objs.size:=(x a o e).lt
theorem HOk.fresh(x:HOk P w H h)(e:h.objs.size<=a):H a=none:=by
 cases q:H a with
 |none=>rfl
 |some u=>exact absurd (Nat.lt_of_lt_of_le (x.lt q) e) (Nat.lt_irrefl _)
theorem HOk.kept(x:HOk P w H h)(k:∀b u,h.get? b=some u->h'.get? b=some u):HOk P w H h':=⟨fun a o e=>
 (x a o e).stay (fun b u _ q=>k b u q) (fun _ q=>q) fun _ _ q=>q,x.sm,let⟨b,o,l,e⟩:=x.bg;⟨b,o,l,k _ _ e⟩⟩
theorem HOk.laid(x:HOk P w H h)(k:∀b u,h.get? b=some u->h'.get? b=some u)(hp:h.objs.size<=a)(new:ObjOk P w (upd H a o) h' a o):HOk P w (upd H a o) h':=by
 refine⟨fun b u e=>?_,fun u e=>?_,let⟨b,o,l,e⟩:=x.bg;⟨b,o,l,k _ _ e⟩⟩
 rotate_left
 ·by_cases hb:sysModules=a
  ·obtain⟨b,o,l,q⟩:=x.bg
   exact absurd (Nat.lt_trans l (show b<sysModules from by rw[hb];exact Nat.lt_of_lt_of_le (Heap.lt_size q) hp)) (Nat.lt_irrefl 1)
  ·rw[zAG hb]at e;exact x.sm u e
 have hn:=x.fresh hp
 by_cases hb:b=a
 ·subst hb;rw[zAC]at e;cases e;exact new
 ·rw[zAG hb]at e
  exact(x b u e).stay (fun c v _ q=>k c v q) (fun c q=>by rw[zAG (zAE q hn)];exact q) fun c xs q=>by rw[zAG (zAE q hn)];exact q
end
def Rd(H:Hp)(a:Addr)(u:HO):Prop:=H a=some u\/∃o,H a=some (.frz o u)
theorem Rd.ok{P:Program}{w:World}{H:Hp}{h:Heap}{a:Addr}{u:HO}(r:Rd H a u)(x:HOk P w H h):ObjOk P w H h a u:=by
 rcases r with r|⟨o,r⟩
 ·exact x a u r
 ·obtain⟨_,q⟩:=x a _ r
  exact q
def Mut:Option HO->Prop
 |some (.lst _)=>True
 |some (.dK _)=>True
 |some (.dT _)=>True
 |some (.set _ _)=>True
 |some (.ins _ _ _)=>True
 |some (.ext _)=>True
 |_=>False
section
variable{P:Program}{w:World}{H:Hp}{h h':Heap}{x e:Addr}{o':HO}
theorem HOk.write(ok:HOk P w H h)(mu:Mut (H x))(he:e=x\/H e=some (.own x))(k:∀b u,b≠e->h.get? b=some u->h'.get? b=some u)(heo:∃u,h'.get? e=some u)
 (new:ObjOk P w (upd H x o') h' x o'):HOk P w (upd H x o') h':=by
 refine⟨fun b u q=>?_,fun u q=>?_,?_⟩
 rotate_left
 ·by_cases hb:sysModules=x
  ·exfalso
   subst hb
   cases z:H sysModules with
   |none=>rw[z]at mu;exact mu
   |some o=>
    obtain⟨ob,v,rfl⟩:=ok.sm o z
    rw[z]at mu;exact mu
  ·rw[zAG hb]at q;exact ok.sm u q
 ·obtain⟨b,o,l,z⟩:=ok.bg
  by_cases hb:b=e
  ·obtain⟨v,hv⟩:=heo
   exact⟨e,v,hb▸l,hv⟩
  ·exact⟨b,o,l,k b o hb z⟩
 have nown:∀c y,H c=some (.own y)->c≠x:=fun c y r z=>by subst z;rw[r]at mu;exact mu
 have ntup:∀c xs,H c=some (.tup xs)->c≠x:=fun c xs r z=>by subst z;rw[r]at mu;exact mu
 by_cases hb:b=x
 ·subst hb;rw[zAC]at q;cases q;exact new
 ·rw[zAG hb]at q
  by_cases hbe:b=e
  ·have q':H b=some (.own x):=by
    rcases he with z|z
    ·exact absurd (hbe.trans z) hb
    ·rw[hbe];exact z
   rw[q]at q';cases q'
   obtain⟨v,hv⟩:=heo
   exact⟨v,by rw[hbe];exact hv⟩
  ·refine(ok b u q).stay (fun c v hc r=>k c v ?_ r) (fun c r=>by rw[zAG (nown c b r)];exact r) fun c xs r=>by rw[zAG (ntup c xs r)];exact r
   rcases hc with rfl|hc
   ·exact hbe
   ·rintro rfl
    rcases he with z|z
    ·exact nown c b hc z
    ·rw[hc]at z;cases z;exact hb rfl
end
structure Un (fs ex:List Addr) (H H':Hp) (h h':Heap):Prop where
 keep:∀b o,h.get? b=some o->H b=none->b∉fs->b∉ex->h'.get? b=some o
 slot:∀b o,h.get? b=some o->H b=none->b∈fs->b∉ex->∃sl,h'.get? b=some {o with slots:=sl}
 free:∀b o,h.get? b=some o->H b=none->b∉ex->H' b=none
 there:∀b o,h.get? b=some o->b∉ex->∃o',h'.get? b=some o'
 tups:∀b xs,H b=some (.tup xs)->H' b=some (.tup xs)
 frzs:∀b o u,H b=some (.frz o u)->H' b=some (.frz o u)
 tbls:∀b ps,H b=some (.tbl ps)->∃more,H' b=some (.tbl (ps++more))
section
variable{fs fs' ex ex':List Addr}{H H1 H2:Hp}{h h1 h2 h':Heap}{a x e:Addr}{o:HO}
theorem Un.any(u:Un fs ex H H1 h h1){b:Addr}{ob:Obj}(q:h.get? b=some ob)(n:H b=none)(hx:b∉ex):∃sl,h1.get? b=some {ob with slots:=sl}:=by
 by_cases hb:b∈fs
 ·exact u.slot b ob q n hb hx
 ·exact⟨ob.slots,u.keep b ob q n hb hx⟩
theorem Un.trans(a:Un fs ex H H1 h h1)(b:Un fs ex H1 H2 h1 h2):Un fs ex H H2 h h2 where
 keep:=fun c ob q n hc hx=>b.keep c ob (a.keep c ob q n hc hx) (a.free c ob q n hx) hc hx
 slot:=fun c ob q n hc hx=>by
  obtain⟨sl,e1⟩:=a.slot c ob q n hc hx
  obtain⟨sl',e2⟩:=b.slot c _ e1 (a.free c ob q n hx) hc hx
  exact⟨sl',e2⟩
 free:=fun c ob q n hx=>by
  obtain⟨o',e1⟩:=a.there c ob q hx
  exact b.free c o' e1 (a.free c ob q n hx) hx
 there:=fun c ob q hx=>by
  obtain⟨o',e1⟩:=a.there c ob q hx
  exact b.there c o' e1 hx
 tups:=fun c xs q=>b.tups c xs (a.tups c xs q)
 frzs:=fun c ob xs q=>b.frzs c ob xs (a.frzs c ob xs q)
 tbls:=fun c ps q=>by
  obtain⟨m1,e1⟩:=a.tbls c ps q
  obtain⟨m2,e2⟩:=b.tbls c _ e1
  exact⟨m1++m2,by rw[e2,Array.append_assoc]⟩
theorem Un.kept(k:∀b u,h.get? b=some u->h'.get? b=some u):Un fs ex H H h h':=
 ⟨fun b ob q _ _ _=>k b ob q,fun b ob q _ _ _=>⟨ob.slots,k b ob q⟩,fun _ _ _ n _=>n,fun b ob q _=>⟨ob,k b ob q⟩,fun _ _ q=>q,fun _ _ _ q=>q,fun _ ps q=>⟨#[],by rw[q];simp⟩⟩
theorem Un.refl:Un fs ex H H h h:=Un.kept fun _ _ q=>q
theorem Un.laid(k:∀b u,h.get? b=some u->h'.get? b=some u)(hp:h.objs.size<=a)(hn:H a=none):Un fs ex H (upd H a o) h h' where
 keep:=fun b u q _ _ _=>k b u q
 slot:=fun b u q _ _ _=>⟨u.slots,k b u q⟩
 free:=fun b u q n _=>by rw[zAG (Nat.ne_of_lt (Nat.lt_of_lt_of_le (Heap.lt_size q) hp))];exact n
 there:=fun b u q _=>⟨u,k b u q⟩
 tups:=fun b xs q=>by rw[zAG (zAE q hn)];exact q
 frzs:=fun b u xs q=>by rw[zAG (zAE q hn)];exact q
 tbls:=fun b ps q=>⟨#[],by rw[zAG (zAE q hn),q];simp⟩
theorem Un.write(mu:Mut (H x))(he:e=x\/H e=some (.own x))(k:∀b u,b≠e->h.get? b=some u->h'.get? b=some u)(heo:∃u,h'.get? e=some u):Un fs ex H (upd H x o) h h':=by
 have hx:∀b,H b=none->b≠x:=fun b n z=>by subst z;rw[n]at mu;exact mu
 have hb:∀b,H b=none->b≠e:=fun b n z=>by
  subst z
  rcases he with r|r
  ·exact hx b n r
  ·rw[n]at r;cases r
 have hm:∀b u,H b=some u->¬Mut (some u)->b≠x:=fun b u q nm z=>by subst z;rw[q]at mu;exact nm mu
 refine⟨fun b u q n _ _=>k b u (hb b n) q,fun b u q n _ _=>⟨u.slots,k b u (hb b n) q⟩,fun b u q n _=>by rw[zAG (hx b n)];exact n,fun b u q _=>?_,
  fun b xs q=>by rw[zAG (hm b _ q fun z=>z)];exact q,fun b u xs q=>by rw[zAG (hm b _ q fun z=>z)];exact q,fun b ps q=>⟨#[],by rw[zAG (hm b _ q fun z=>z),q];simp⟩⟩
 by_cases hbe:b=e
 ·subst hbe;exact heo
 ·exact⟨u,k b u hbe q⟩
end
def trk(h:Heap)(H:Hp):List Addr:=(List.range h.objs.size).filter fun a=>(H a).isSome
def hidT(h:Heap)(H:Hp):Heap:=PySem.W.hideAll h (trk h H)
theorem zIN(h:Heap)(H:Hp):(hidT h H).objs.size=h.objs.size:=PySem.W.hideAll_size _ _
theorem zJm{h:Heap}{H:Hp}{b:Addr}{o:Obj}(e:h.get? b=some o)(n:H b=none):(hidT h H).get? b=some o:=
 PySem.W.hideAll_get _ e fun hm=>by
  have q:(H b).isSome=true:=(List.mem_filter.mp hm).2
  rw[n]at q;simp at q
theorem zLd{h:Heap}{H:Hp}{b:Addr}{o:Obj}(e:(hidT h H).get? b=some o):h.get? b=some o/\H b=none:=by
 have e':h.get? b=some o:=PySem.W.of_hideAll (trk h H) e
 refine⟨e',?_⟩
 cases q:H b with
 |none=>rfl
 |some x=>
  have hm:b∈trk h H:=List.mem_filter.mpr ⟨List.mem_range.mpr (Heap.lt_size e'),by simp[q]⟩
  have z:(hidT h H).get? b=none:=PySem.W.hideAll_none (trk h H) hm
  rw[z]at e;cases e
structure Mod (K:PySem.W.Frag) (mg:Str->Option Value) (base:Heap):Prop where
 kin:K.In base
 glob:base.Ns mainGlobals mg
 blt:∃mb,base.Ns builtinsNs mb/\∀x:Str,x≠"__name__"->mb x=bootBuiltins x
 nolimit:base.NoLimit
structure Cx where
 prog:Program
 w:World
 K:PySem.W.Frag
 mg:Str->Option Value
 base:Heap
 A:Around
 N:List Str
 s₀:Shared
 H₀:Hp
 env:Env
 outer:List Env
 stack:List Env
 ex:List Addr
 fn:Str->Bool
 calm:Bool
 pn:List (Addr×Obj)
 xe:Value->Shared->Prop
def frs(l:List Env):List Addr:=l.filterMap (·.frame)
abbrev Cx.fs(X:Cx):List Addr:=frs X.outer
def Vis(sc:Scope)(x:Str):Prop:=sc.names.lookup x=some .local\/sc.names.lookup x=some .cell\/sc.names.lookup x=some .free
def Loc(sc:Scope)(x:Str):Prop:=sc.names.lookup x=some .local\/sc.names.lookup x=some .cell
def Look(env:Env)(h:Heap)(m:Str->Option Value)(x:Str)(u:Value):Prop:=
 (env.kindOf x=some .local/\m x=some u)\/((env.kindOf x=some .cell\/env.kindOf x=some .free)/\∃c,env.cells.lookup x=some c/\h.IsCell c (some u))
structure Cx.Ok (X:Cx):Prop where
 mod:Mod X.K X.mg X.base
 kind:X.env.scope.kind= .function
 glob:X.env.globals=mainGlobals
 blt:X.env.builtins=builtinsNs
 above:X.s₀.heap.objs.size<=X.env.locals
 inj:∀x y c,X.env.cells.lookup x=some c->X.env.cells.lookup y=some c->x=y
 has:∀x,(X.env.kindOf x=some .cell\/X.env.kindOf x=some .free)->∃c,X.env.cells.lookup x=some c
 cab:∀x c,X.fn x=true->X.env.cells.lookup x=some c->X.s₀.heap.objs.size<=c
 hd:X.calm=true->X.A.handled=none
 frames:X.A.frames=some X.stack
 stk:X.stack=X.outer\/(X.stack=X.env::X.outer/\X.env.frame=some X.env.locals)
 exf:∀b∈X.ex,b≠X.env.locals/\∀x c,X.env.cells.lookup x=some c->c≠b
 bs:∀b o,X.base.get? b=some o->X.s₀.heap.get? b=some o/\X.H₀ b=none
 bsz:X.base.objs.size<=X.s₀.heap.objs.size
 noex:∀b o,X.base.get? b=some o->b∉X.ex
 exfs:∀b∈X.ex,b∉X.fs
 funs:X.s₀.heap.FunFrames X.base X.outer
 frf:∀b∈X.fs,X.H₀ b=none
structure Inv (X:Cx) (pins:List (Addr×Obj)) (σ:List (Option V)) (H:Hp) (s:Shared):Prop where
 ok:X.Ok
 os:s.os=X.s₀.os
 bare:AllBare s.gens
 base:Un X.fs X.ex X.H₀ H X.s₀.heap s.heap
 loc:∃m,s.heap.Ns X.env.locals m/\∀ (i:Nat) (x:Str) (v:V),X.N[i]? =some x->σ[i]? =some (some v)->Vis X.env.scope x->∃u,RelV v u/\Look X.env s.heap m x u
 cell:∀x c,X.env.cells.lookup x=some c->∃v,s.heap.IsCell c v
 free:H X.env.locals=none
 freeC:∀x c,X.env.cells.lookup x=some c->H c=none
 pin:∀p∈X.pn++pins,s.heap.get? p.1=some p.2/\H p.1=none/\p.1≠X.env.locals/\p.1∉X.fs/\∀v,p.2.data≠ .cell v
 hok:HOk X.prog X.w H s.heap
 len:σ.length=X.N.length
section
variable{X:Cx}{pins:List (Addr×Obj)}{σ:List (Option V)}{H H':Hp}{s:Shared}{h':Heap}
theorem Cx.Ok.nofr(ok:X.Ok){b:Addr}{o:Obj}(e:X.base.get? b=some o):b∉X.fs:=fun hb=>by
 have:=(ok.funs.mem hb).1
 rw[e]at this;cases this
theorem Inv.bs(I:Inv X pins σ H s):∀b o,X.base.get? b=some o->s.heap.get? b=some o/\H b=none:=fun b o e=>
 ⟨I.base.keep b o (I.ok.bs b o e).1 (I.ok.bs b o e).2 (I.ok.nofr e) (I.ok.noex b o e),I.base.free b o (I.ok.bs b o e).1 (I.ok.bs b o e).2 (I.ok.noex b o e)⟩
theorem Inv.bk(I:Inv X pins σ H s):∀b o,X.base.get? b=some o->s.heap.get? b=some o:=fun b o e=>(I.bs b o e).1
theorem Inv.mod(I:Inv X pins σ H s):Mod X.K X.mg X.base:=I.ok.mod
theorem Inv.kIn(I:Inv X pins σ H s):X.K.In s.heap:=I.ok.mod.kin.keeps I.bk
theorem Inv.fr(I:Inv X pins σ H s):∃m,Fr X.base X.env.locals s.heap m:=
 let⟨m,hn,_⟩:=I.loc
 ⟨m,hn,I.bk,Nat.le_trans I.ok.bsz I.ok.above⟩
theorem Inv.lt(I:Inv X pins σ H s):X.env.locals<s.heap.objs.size:=let⟨_,hn,_⟩:=I.loc;hn.lt
theorem Inv.sz(I:Inv X pins σ H s):X.s₀.heap.objs.size<=s.heap.objs.size:=Nat.le_trans I.ok.above (Nat.le_of_lt I.lt)
theorem Inv.nofs(I:Inv X pins σ H s){a:Addr}(h:s.heap.objs.size<=a):a∉X.fs:=fun hb=>by
 obtain⟨_,o,ho,_⟩:=I.ok.funs.mem hb
 exact absurd (Nat.lt_of_lt_of_le (Heap.lt_size ho) (Nat.le_trans I.sz h)) (Nat.lt_irrefl _)
theorem Inv.cne(I:Inv X pins σ H s):∀x c,X.env.cells.lookup x=some c->c≠X.env.locals:=fun x c e z=>by
 obtain⟨v,o,ho,hd⟩:=I.cell x c e
 obtain⟨m,⟨o',es,ep,ho',hd',_⟩,_⟩:=I.loc
 rw[z,ho']at ho;cases ho;rw[hd']at hd;cases hd
theorem Inv.funs(I:Inv X pins σ H s):s.heap.FunFrames X.base X.outer:=by
 have all:∀ (l:List Env),(∀b∈frs l,b∈X.fs)->X.s₀.heap.FunFrames X.base l->s.heap.FunFrames X.base l:=by
  intro l
  induction l with
  |nil=>intro _ _;trivial
  |cons env r ih=>
   intro hs hl
   obtain⟨hk,⟨L,o,hf,hn,ho,hd⟩,hr⟩:=hl
   have hL:L∈X.fs:=hs L (by unfold frs;rw[List.filterMap_cons,hf];exact List.mem_cons_self)
   obtain⟨sl,e⟩:=I.base.slot L o ho (I.ok.frf L hL) hL fun z=>I.ok.exfs L z hL
   exact⟨hk,⟨L,_,hf,hn,e,hd⟩,ih (fun b hb=>hs b (by unfold frs;rw[List.filterMap_cons,hf];exact List.mem_cons_of_mem _ hb)) hr⟩
 exact all X.outer (fun _ hb=>hb) I.ok.funs
theorem Inv.stack(I:Inv X pins σ H s):s.heap.FunFrames X.base X.stack:=by
 rcases I.ok.stk with e|⟨e,hf⟩
 ·rw[e];exact I.funs
 ·rw[e]
  obtain⟨m,hn,_⟩:=I.loc
  refine .cons (by rw[I.ok.kind];decide) hf hn ?_ I.funs
  exact Heap.get?_none_of_le (Nat.le_trans I.ok.bsz I.ok.above)
theorem Inv.stkSub(I:Inv X pins σ H s):∀b∈frs X.stack,b∈X.env.locals::X.fs:=fun b hb=>by
 rcases I.ok.stk with e|⟨e,hf⟩
 ·rw[e]at hb;exact List.mem_cons_of_mem _ hb
 ·rw[e]at hb
  unfold frs at hb
  rw[List.filterMap_cons,hf]at hb
  exact hb
theorem Inv.stkFree(I:Inv X pins σ H s):∀b∈frs X.stack,H b=none:=fun b hb=>by
 rcases List.mem_cons.mp (I.stkSub b hb)with e|hb
 ·rw[e];exact I.free
 ·obtain⟨_,o,ho,_⟩:=I.ok.funs.mem hb
  exact I.base.free b o ho (I.ok.frf b hb) fun z=>I.ok.exfs b z hb
theorem Inv.step{g':Array GenState}{t':Nat}{d':Drawn}{ch:List Addr}(I:Inv X pins σ H s)
 (hch:∀b∈ch,(b∈X.ex\/X.s₀.heap.objs.size<=b)/\b≠X.env.locals/\(∀x c,X.env.cells.lookup x=some c->c≠b)/\∀p∈X.pn++pins,p.1≠b)
 (keep:∀b o,b≠X.env.locals->b∉X.fs->b∉ch->s.heap.get? b=some o->H b=none->h'.get? b=some o)
 (slot:∀b o,b≠X.env.locals->b∈X.fs->b∉ch->s.heap.get? b=some o->H b=none->∃sl,h'.get? b=some {o with slots:=sl}) (free:∀b o,b∉ch->s.heap.get? b=some o->H b=none->H' b=none)
 (there:∀b o,b∉ch->s.heap.get? b=some o->∃o',h'.get? b=some o')
 (tups:∀b xs,H b=some (.tup xs)->H' b=some (.tup xs)) (frzs:∀b o u,H b=some (.frz o u)->H' b=some (.frz o u)) (tbls:∀b ps,H b=some (.tbl ps)->∃more,H' b=some (.tbl (ps++more)))
 (ns:∀m,s.heap.Ns X.env.locals m->h'.Ns X.env.locals m) (hok:HOk X.prog X.w H' h') (hg:AllBare g'):
 Inv X pins σ H' {s with heap:=h',gens:=g',drawn:=d',toks:=t'}:=by
 have neL:∀b o,X.s₀.heap.get? b=some o->b≠X.env.locals:=fun b o e=>Nat.ne_of_lt (Nat.lt_of_lt_of_le (Heap.lt_size e) I.ok.above)
 have neC:∀b o,X.s₀.heap.get? b=some o->b∉X.ex->b∉ch:=fun b o e hx hb=>by
  rcases(hch b hb).1 with z|z
  ·exact hx z
  ·exact absurd (Nat.lt_of_lt_of_le (Heap.lt_size e) z) (Nat.lt_irrefl _)
 have cellK:∀x c,X.env.cells.lookup x=some c->∀v,s.heap.IsCell c v->h'.IsCell c v:=fun x c e v ⟨o,ho,hd⟩=>by
  have nch:c∉ch:=fun z=>(hch c z).2.2.1 x c e rfl
  by_cases hc:c∈X.fs
  ·obtain⟨sl,q⟩:=slot c o (I.cne x c e) hc nch ho (I.freeC x c e)
   exact⟨_,q,hd⟩
  ·exact⟨o,keep c o (I.cne x c e) hc nch ho (I.freeC x c e),hd⟩
 refine⟨I.ok,I.os,hg,⟨fun b o e n hb hx=>?_,fun b o e n hb hx=>?_,fun b o e n hx=>?_,fun b o e hx=>?_,fun b xs e=>tups b xs (I.base.tups b xs e),fun b o xs e=>frzs b o xs (I.base.frzs b o xs e),fun b ps e=>?_⟩,?_,fun x c e=>?_,?_,fun x c e=>?_,fun p hp=>?_,hok,I.len⟩
 ·exact keep b o (neL b o e) hb (neC b o e hx) (I.base.keep b o e n hb hx) (I.base.free b o e n hx)
 ·obtain⟨sl,e1⟩:=I.base.slot b o e n hb hx
  obtain⟨sl',e2⟩:=slot b _ (neL b o e) hb (neC b o e hx) e1 (I.base.free b o e n hx)
  exact⟨sl',e2⟩
 ·obtain⟨o',e1⟩:=I.base.there b o e hx
  exact free b o' (neC b o e hx) e1 (I.base.free b o e n hx)
 ·obtain⟨o',e1⟩:=I.base.there b o e hx
  exact there b o' (neC b o e hx) e1
 ·obtain⟨m1,e1⟩:=I.base.tbls b ps e
  obtain⟨m2,e2⟩:=tbls b _ e1
  exact⟨m1++m2,by rw[e2,Array.append_assoc]⟩
 ·obtain⟨m,hn,hl⟩:=I.loc
  refine⟨m,ns m hn,fun i x v e1 e2 e3=>?_⟩
  obtain⟨u,r,l⟩:=hl i x v e1 e2 e3
  refine⟨u,r,?_⟩
  rcases l with l|⟨k,c,e,z⟩
  ·exact .inl l
  ·exact .inr ⟨k,c,e,cellK x c e _ z⟩
 ·obtain⟨v,z⟩:=I.cell x c e
  exact⟨v,cellK x c e v z⟩
 ·obtain⟨m,⟨o,_,_,ho,_⟩,_⟩:=I.loc
  exact free _ o (fun z=>(hch _ z).2.1 rfl) ho I.free
 ·obtain⟨v,o,ho,hd⟩:=I.cell x c e
  exact free c o (fun z=>(hch c z).2.2.1 x c e rfl) ho (I.freeC x c e)
 ·obtain⟨e,n,ne,nf,d⟩:=I.pin p hp
  have nch:p.1∉ch:=fun z=>(hch p.1 z).2.2.2 p hp rfl
  exact⟨keep p.1 p.2 ne nf nch e n,free p.1 p.2 nch e n,ne,nf,d⟩
theorem Inv.un{t':Nat}(I:Inv X pins σ H s)(u:Un X.fs [] H H' s.heap h')(hok:HOk X.prog X.w H' h'):Inv X pins σ H' {s with heap:=h',toks:=t'}:=by
 obtain⟨m,⟨o,es,ep,ho,r⟩,_⟩:=id I.loc
 obtain⟨sl,hL⟩:=u.any ho I.free (by simp)
 exact I.step (g':=s.gens) (d':=s.drawn) (ch:=[]) (fun _ z=>nomatch z) (fun b o _ hb _ e n=>u.keep b o e n hb (by simp)) (fun b o _ hb _ e n=>u.slot b o e n hb (by simp)) (fun b o _ e n=>u.free b o e n (by simp)) (fun b o _ e=>u.there b o e (by simp)) u.tups u.frzs u.tbls (fun m' hm=>by
  obtain⟨o',es',ep',ho',r'⟩:=hm
  rw[ho]at ho';cases ho'
  exact⟨_,es',ep',hL,r'⟩) hok I.bare
theorem Inv.call{g':Array GenState}{t':Nat}{d':Drawn}{ch:List Addr}(I:Inv X pins σ H s)(u:Un (frs X.stack) ch H H' s.heap h')(hok:HOk X.prog X.w H' h')(hg:AllBare g')
 (hch:∀b∈ch,(b∈X.ex\/X.s₀.heap.objs.size<=b)/\b≠X.env.locals/\(∀x c,X.env.cells.lookup x=some c->c≠b)/\∀p∈X.pn++pins,p.1≠b):
 Inv X pins σ H' {s with heap:=h',gens:=g',drawn:=d',toks:=t'}:=by
 obtain⟨m,⟨o,es,ep,ho,r⟩,_⟩:=id I.loc
 obtain⟨sl,hL⟩:=u.any ho I.free fun z=>(hch _ z).2.1 rfl
 exact I.step (ch:=ch) hch (fun b o hL hb hc e n=>u.keep b o e n (fun z=>(List.mem_cons.mp (I.stkSub b z)).elim hL hb) hc) (fun b o _ _ hc e n=>u.any e n hc) (fun b o hc e n=>u.free b o e n hc) (fun b o hc e=>u.there b o e hc) u.tups u.frzs u.tbls (fun m' hm=>by
  obtain⟨o',es',ep',ho',r'⟩:=hm
  rw[ho]at ho';cases ho'
  exact⟨_,es',ep',hL,r'⟩) hok hg
theorem Inv.turned{t':Nat}{it:Addr}(I:Inv X pins σ H s)(k:∀b o,b≠it->s.heap.get? b=some o->h'.get? b=some o)(hn:H it=none)(hL:it≠X.env.locals)
 (h1:it∈X.ex\/X.s₀.heap.objs.size<=it) (h2:∀x c,X.env.cells.lookup x=some c->c≠it) (h3:∀p∈X.pn++pins,p.1≠it):Inv X pins σ H {s with heap:=h',toks:=t'}:=by
 have nit:∀b u,H b=some u->b≠it:=fun b u e z=>by rw[z,hn]at e;cases e
 refine I.step (g':=s.gens) (d':=s.drawn) (ch:=[it]) (fun b hb=>?_) (fun b o _ _ hc e _=>k b o (fun z=>hc (by simp[z])) e) (fun b o _ _ hc e _=>⟨o.slots,k b o (fun z=>hc (by simp[z])) e⟩) (fun _ _ _ _ n=>n)
  (fun b o hc e=>⟨o,k b o (fun z=>hc (by simp[z])) e⟩) (fun _ _ e=>e) (fun _ _ _ e=>e) (fun b ps e=>⟨#[],by rw[e];simp⟩) (fun m hm=>?_) ⟨fun b u e=>?_,I.hok.sm,let⟨o,_,_,e,_⟩:=I.ok.mod.glob;⟨mainGlobals,o,by decide,k _ _ (fun z=>by
    rcases h1 with q|q
    ·exact I.ok.noex _ _ e (z▸q)
    ·exact absurd (Nat.lt_of_lt_of_le (Heap.lt_size e) (Nat.le_trans I.ok.bsz q)) (by rw[z];exact Nat.lt_irrefl _)) (I.bk _ _ e)⟩⟩ I.bare
 ·have e:b=it:=by simpa using hb
  subst e
  exact⟨h1,hL,h2,h3⟩
 ·obtain⟨o,es,ep,ho,r⟩:=hm
  exact⟨o,es,ep,k _ o (Ne.symm hL) ho,r⟩
 ·refine(I.hok b u e).stay (fun c v hc q=>k c v ?_ q) (fun _ q=>q) fun _ _ q=>q
  rcases hc with z|z
  ·rw[z];exact nit b u e
  ·exact nit c _ z
theorem Inv.tok(I:Inv X pins σ H s)(t:Nat):Inv X pins σ H {s with toks:=t}:=I.un (h':=s.heap) (t':=t) Un.refl I.hok
theorem Inv.kept{t':Nat}(I:Inv X pins σ H s)(k:∀b u,s.heap.get? b=some u->h'.get? b=some u):Inv X pins σ H {s with heap:=h',toks:=t'}:=I.un (Un.kept k) (I.hok.kept k)
theorem Inv.laid{a:Addr}{o:HO}{t':Nat}(I:Inv X pins σ H s)(k:∀b u,s.heap.get? b=some u->h'.get? b=some u)(hp:s.heap.objs.size<=a)(new:ObjOk X.prog X.w (upd H a o) h' a o):
 Inv X pins σ (upd H a o) {s with heap:=h',toks:=t'}:=I.un (Un.laid k hp (I.hok.fresh hp)) (I.hok.laid k hp new)
theorem Inv.write{x e:Addr}{o:HO}{t':Nat}(I:Inv X pins σ H s)(mu:Mut (H x))(he:e=x\/H e=some (.own x))(k:∀b u,b≠e->s.heap.get? b=some u->h'.get? b=some u)(heo:∃u,h'.get? e=some u)
 (new:ObjOk X.prog X.w (upd H x o) h' x o):Inv X pins σ (upd H x o) {s with heap:=h',toks:=t'}:=I.un (Un.write mu he k heo) (I.hok.write mu he k heo new)
theorem Inv.weak{σ':List (Option V)}(I:Inv X pins σ H s)(hl:σ'.length=σ.length)(w:∀ (i:Nat) v,σ'[i]? =some (some v)->σ[i]? =some (some v)):Inv X pins σ' H s:=
 ⟨I.ok,I.os,I.bare,I.base,let⟨m,hn,hl'⟩:=I.loc;⟨m,hn,fun i x v e1 e2 e3=>hl' i x v e1 (w i v e2) e3⟩,I.cell,I.free,I.freeC,I.pin,I.hok,hl.trans I.len⟩
theorem Inv.pins_of{pins':List (Addr×Obj)}(I:Inv X pins σ H s)(h:∀p∈pins',s.heap.get? p.1=some p.2/\H p.1=none/\p.1≠X.env.locals/\p.1∉X.fs/\∀v,p.2.data≠ .cell v):Inv X pins' σ H s:=
 ⟨I.ok,I.os,I.bare,I.base,I.loc,I.cell,I.free,I.freeC,fun p hp=>(List.mem_append.mp hp).elim (fun z=>I.pin p (List.mem_append_left _ z)) (h p),I.hok,I.len⟩
theorem zEJ{N:List Str}(hN:N.Nodup){i j:Nat}{x:Str}(a:N[i]? =some x)(b:N[j]? =some x):i=j:=by
 obtain⟨h1,e1⟩:=List.getElem?_eq_some_iff.mp a
 obtain⟨h2,e2⟩:=List.getElem?_eq_some_iff.mp b
 exact(List.getElem_inj hN).mp (e1.trans e2.symm)
theorem zEo{M:Model}{A:Around}{E:Value->Shared->Prop}{i:Nat}{x:Str}{v:V}{u:Value}{Q:Unit->Shared->Prop}(I:Inv X pins σ H s)(hN:X.N.Nodup)(hi:X.N[i]? =some x)(hx:Loc X.env.scope x)(r:RelV v u)
 (h:∀s',Inv X pins (σ.set i (some v)) H s'->(∃a,Heap.SameBut a s.heap s'.heap/\(a=X.env.locals\/X.env.cells.lookup x=some a))->Q () s') (hf:X.fn x=true\/X.env.scope.names.lookup x=some .local:=by first|exact .inl rfl|exact .inr rfl|assumption):wpAny M A (storeName X.env x u) Q E s:=by
 obtain⟨m,hn,hl⟩:=id I.loc
 have hcls:(X.env.scope.kind== .class||(X.env.scope.kind== .module&&X.env.locals !=X.env.globals))=false:=by rw[I.ok.kind];rfl
 have hiσ:i<σ.length:=by rw[I.len];exact(List.getElem?_eq_some_iff.mp hi).1
 have cne:=I.cne
 have tracked:∀ {a:Addr} {h':Heap},(∃o,s.heap.get? a=some o/\H a=none)->Heap.SameBut a s.heap h'->(∃o',h'.get? a=some o')->HOk X.prog X.w H h':=fun{a h'} ha hs hz=>by
  refine⟨fun b ob e=>?_,I.hok.sm,?_⟩
  rotate_left
  ·obtain⟨b,o,l,e⟩:=I.hok.bg
   by_cases hb:b=a
   ·obtain⟨v,hv⟩:=hz
    exact⟨a,v,hb▸l,hv⟩
   ·exact⟨b,o,l,(hs.2 b hb).trans e⟩
  obtain⟨_,_,hfree⟩:=ha
  refine(I.hok b ob e).stay (fun c w' hc q=>(hs.2 c ?_).trans q) (fun _ q=>q) fun _ _ q=>q
  rintro rfl
  rcases hc with rfl|hc
  ·rw[hfree]at e;cases e
  ·rw[hfree]at hc;cases hc
 rcases hx with hk|hk
 ·refine wpAny_storeName_local hk hn (fun h' hn' hs=>?_) hcls
  obtain⟨oL,_,_,hoL,_⟩:=id hn
  refine h _ ⟨I.ok,I.os,I.bare,⟨fun b o e n hb hx=>?_,fun b o e n hb hx=>?_,I.base.free,fun b o e hx=>?_,I.base.tups,I.base.frzs,I.base.tbls⟩,⟨_,hn',fun j y v' e1 e2 e3=>?_⟩,fun y c e=>?_,I.free,I.freeC,fun p hp=>?_,tracked ⟨oL,hoL,I.free⟩ hs (let⟨o,_,_,e,_⟩:=hn';⟨o,e⟩),by simpa using I.len⟩ ⟨_,hs, .inl rfl⟩
  ·exact(hs.2 b (Nat.ne_of_lt (Nat.lt_of_lt_of_le (Heap.lt_size e) I.ok.above))).trans (I.base.keep b o e n hb hx)
  ·obtain⟨sl,e1⟩:=I.base.slot b o e n hb hx
   exact⟨sl,(hs.2 b (Nat.ne_of_lt (Nat.lt_of_lt_of_le (Heap.lt_size e) I.ok.above))).trans e1⟩
  ·obtain⟨o',e1⟩:=I.base.there b o e hx
   exact⟨o',(hs.2 b (Nat.ne_of_lt (Nat.lt_of_lt_of_le (Heap.lt_size e) I.ok.above))).trans e1⟩
  ·by_cases hj:j=i
   ·subst hj
    rw[hi]at e1;cases e1
    rw[List.getElem?_set_self hiσ]at e2
    cases e2
    exact⟨u,r, .inl ⟨hk,by simp⟩⟩
   ·rw[List.getElem?_set_ne (Ne.symm hj)]at e2
    obtain⟨u',r',q⟩:=hl j y v' e1 e2 e3
    refine⟨u',r',?_⟩
    rcases q with⟨k,e⟩|⟨k,c,e,z⟩
    ·refine .inl ⟨k,?_⟩
     have:y≠x:=fun e=>hj (zEJ hN e1 (e▸hi))
     simp[this,e]
    ·exact .inr ⟨k,c,e,z.sameBut hs (cne y c e)⟩
  ·obtain⟨w',z⟩:=I.cell y c e
   exact⟨w',z.sameBut hs (cne y c e)⟩
  ·obtain⟨e,n,ne,nf,d⟩:=I.pin p hp
   exact⟨(hs.2 p.1 ne).trans e,n,ne,nf,d⟩
 ·have hfn:X.fn x=true:=by
   rcases hf with z|z
   ·exact z
   ·rw[z]at hk;cases hk
  obtain⟨c,hc⟩:=I.ok.has x (.inl hk)
  obtain⟨w',z⟩:=I.cell x c hc
  refine wpAny_storeName_cell I.ok.kind hk hc z (fun h' hc' hs=>?_)
  obtain⟨oc,hoc,hocd⟩:=id z
  refine h {s with heap:=h'} ⟨I.ok,I.os,I.bare,⟨fun b o e n hb hx=>?_,fun b o e n hb hx=>?_,I.base.free,fun b o e hx=>?_,I.base.tups,I.base.frzs,I.base.tbls⟩,⟨m,hn.sameBut hs (Ne.symm (cne x c hc)),fun j y v' e1 e2 e3=>?_⟩,fun y c' e=>?_,I.free,I.freeC,fun p hp=>?_,tracked ⟨oc,hoc,I.freeC x c hc⟩ hs (let⟨o,e,_⟩:=hc';⟨o,e⟩),by simpa using I.len⟩ ⟨c,hs, .inr hc⟩
  ·exact(hs.2 b (Nat.ne_of_lt (Nat.lt_of_lt_of_le (Heap.lt_size e) (I.ok.cab x c hfn hc)))).trans (I.base.keep b o e n hb hx)
  ·obtain⟨sl,e1⟩:=I.base.slot b o e n hb hx
   exact⟨sl,(hs.2 b (Nat.ne_of_lt (Nat.lt_of_lt_of_le (Heap.lt_size e) (I.ok.cab x c hfn hc)))).trans e1⟩
  ·obtain⟨o',e1⟩:=I.base.there b o e hx
   exact⟨o',(hs.2 b (Nat.ne_of_lt (Nat.lt_of_lt_of_le (Heap.lt_size e) (I.ok.cab x c hfn hc)))).trans e1⟩
  ·by_cases hj:j=i
   ·subst hj
    rw[hi]at e1;cases e1
    rw[List.getElem?_set_self hiσ]at e2
    cases e2
    exact⟨u,r, .inr ⟨.inl hk,c,hc,hc'⟩⟩
   ·rw[List.getElem?_set_ne (Ne.symm hj)]at e2
    obtain⟨u',r',q⟩:=hl j y v' e1 e2 e3
    refine⟨u',r',?_⟩
    rcases q with q|⟨k,c',e,z'⟩
    ·exact .inl q
    ·refine .inr ⟨k,c',e,z'.sameBut hs ?_⟩
     rintro rfl
     exact hj (zEJ hN e1 (I.ok.inj _ _ _ e hc▸hi))
  ·by_cases hcc:c'=c
   ·subst hcc;exact⟨_,hc'⟩
   ·obtain⟨w2,z2⟩:=I.cell y c' e
    exact⟨w2,z2.sameBut hs hcc⟩
  ·obtain⟨e,n,ne,nf,d⟩:=I.pin p hp
   refine⟨(hs.2 p.1 ?_).trans e,n,ne,nf,d⟩
   intro q
   rw[q,hoc]at e
   have q':oc=p.2:=Option.some.inj e
   exact d w' (by rw[<-q'];exact hocd)
theorem zCq{M:Model}{A:Around}{E:Value->Shared->Prop}{i:Nat}{x:Str}{v:V}{u:Value}{Q:Unit->Shared->Prop}(I:Inv X pins σ H s)(hN:X.N.Nodup)(hi:X.N[i]? =some x)(hx:Loc X.env.scope x)(r:RelV v u)
 (h:∀s',Inv X pins (σ.set i (some v)) H s'->Q () s') (hf:X.fn x=true\/X.env.scope.names.lookup x=some .local:=by first|exact .inl rfl|exact .inr rfl|assumption):wpAny M A (storeName X.env x u) Q E s:=
 zEo I hN hi hx r (fun s' I' _=>h s' I') hf
theorem Inv.call'{s':Shared}{ch:List Addr}(I:Inv X pins σ H s)(ho:s'.os=s.os)(u:Un (frs X.stack) ch H H' s.heap s'.heap)(hok:HOk X.prog X.w H' s'.heap)(hg:AllBare s'.gens)
 (hch:∀b∈ch,(b∈X.ex\/X.s₀.heap.objs.size<=b)/\b≠X.env.locals/\(∀x c,X.env.cells.lookup x=some c->c≠b)/\∀p∈X.pn++pins,p.1≠b):Inv X pins σ H' s':=by
 obtain⟨h',g',d',t',o'⟩:=s'
 have e:o'=s.os:=ho
 subst e
 exact I.call (g':=g') (t':=t') (d':=d') u hok hg hch
end
abbrev XK:=Value->Option Addr->Hp->Prop
abbrev St:=List (Option V)
abbrev VK:=V->Hp->Prop
abbrev TE:=St->Hp->VK->Prop
abbrev TT:=St->Hp->(Bool->Hp->Prop)->Prop
abbrev TA:=St->Hp->(List V->Hp->Prop)->Prop
structure Ends where
 nx:St->Hp->Prop
 rt:VK
 bk:St->Hp->Prop:=fun _ _=>False
 ct:St->Hp->Prop:=fun _ _=>False
abbrev TS:=Ends->St->Hp->Prop
def EP(X:Cx)(pins:List (Addr×Obj))(σ:St)(Q:VK)(u:Value)(s':Shared):Prop:=∃v H',Inv X pins σ H' s'/\RelV v u/\Q v H'
def TP(X:Cx)(pins:List (Addr×Obj))(σ:St)(Q:Bool->Hp->Prop)(b:Bool)(s':Shared):Prop:=∃H',Inv X pins σ H' s'/\Q b H'
def AP(X:Cx)(pins:List (Addr×Obj))(σ:St)(Q:List V->Hp->Prop)(us:List Value)(s':Shared):Prop:=∃vs H',Inv X pins σ H' s'/\Vals vs us/\Q vs H'
def SP(X:Cx)(pins:List (Addr×Obj))(D:Ends)(f:Flow)(s':Shared):Prop:=
 match f with
 | .next=>∃σ' H',Inv X pins σ' H' s'/\D.nx σ' H'
 | .brk=>∃σ' H',Inv X pins σ' H' s'/\D.bk σ' H'
 | .cont=>∃σ' H',Inv X pins σ' H' s'/\D.ct σ' H'
 | .ret u=>∃v σ' H',Inv X pins σ' H' s'/\RelV v u/\D.rt v H'
def PE(X:Cx)(e:Expr)(t:TE):Prop:=
 ∀ (pins:List (Addr×Obj)) (s:Shared) (σ:St) (H:Hp) (Q:VK),Inv X pins σ H s->t σ H Q->wpAny (model X.prog X.w) X.A (eval e X.env) (EP X pins σ Q) X.xe s
def PT(X:Cx)(e:Expr)(t:TT):Prop:=
 ∀ (pins:List (Addr×Obj)) (s:Shared) (σ:St) (H:Hp) (Q:Bool->Hp->Prop),Inv X pins σ H s->t σ H Q->wpAny (model X.prog X.w) X.A (isTrue e X.env (eval e X.env)) (TP X pins σ Q) X.xe s
def PW(X:Cx)(e:Expr)(t:TT):Prop:=
 ∀ (whole:Sem Value) (pins:List (Addr×Obj)) (s:Shared) (σ:St) (H:Hp) (Q:Bool->Hp->Prop),Inv X pins σ H s->t σ H Q->wpAny (model X.prog X.w) X.A (isTrue e X.env whole) (TP X pins σ Q) X.xe s
theorem PW.pt{X:Cx}{e:Expr}{t:TT}(h:PW X e t):PT X e t:=h _
def PA(X:Cx)(es:List Expr)(t:TA):Prop:=
 ∀ (pos:Pos) (pins:List (Addr×Obj)) (s:Shared) (σ:St) (H:Hp) (Q:List V->Hp->Prop),Inv X pins σ H s->t σ H Q->wpAny (model X.prog X.w) X.A (spliced (backTo pos (starEach es X.env))) (AP X pins σ Q) X.xe s
def PS(X:Cx)(st:Stmt)(t:TS):Prop:=
 ∀ (pins:List (Addr×Obj)) (s:Shared) (σ:St) (H:Hp) (D:Ends),Inv X pins σ H s->t D σ H->wpAny (model X.prog X.w) X.A (exec st X.env) (SP X pins D) X.xe s
def PSs(X:Cx)(st:List Stmt)(t:TS):Prop:=
 ∀ (pins:List (Addr×Obj)) (s:Shared) (σ:St) (H:Hp) (D:Ends),Inv X pins σ H s->t D σ H->wpAny (model X.prog X.w) X.A (execs st X.env) (SP X pins D) X.xe s
theorem thn{α:Type}{t:Sem α}{Q Q':α->Shared->Prop}{M:Model}{A:Around}{E:Value->Shared->Prop}{s:Shared}(h:wpAny M A t Q E s)(hQ:∀a s,Q a s->Q' a s):wpAny M A t Q' E s:=wpAny_mono h hQ fun _ _ x=>x
section
variable{X:Cx}
def tVar(i:Nat):TE:=fun σ H Q=>∃v,σ[i]? =some (some v)/\Q v H
def tC(v:V):TE:=fun _ H Q=>Q v H
theorem zMt{i:Nat}{x:Str}{pos:Pos}(hN:X.N[i]? =some x)(hv:Vis X.env.scope x)(hd:(x==("__debug__":Str))=false:=by decide)(hcd:(x==("__classdict__":Str))=false:=by decide):PE X (.Name x pos) (tVar i):=by
 intro pins s σ H Q I h
 obtain⟨v,e,h⟩:=h
 obtain⟨m,hn,hl⟩:=I.loc
 obtain⟨u,r,l⟩:=hl i x v hN e hv
 have fin:EP X pins σ Q u s:=⟨v,H,I,r,h⟩
 rcases l with⟨hk,hm⟩|⟨hk,c,hc,hcell⟩
 ·exact wpAny_Name (wpAny_loadName_local I.ok.kind hk hn hm fin) hd
 ·rcases hk with hk|hk
  ·exact wpAny_Name (wpAny_loadName_cell I.ok.kind hk hc hcell fin) hd
  ·exact wpAny_Name (wpAny_loadName_free I.ok.kind hk hc hcell fin hcd) hd
theorem zAH{i j pos}:PE X (.Constant (.int i) j pos) (tC (.int i)):=fun _ _ _ H _ I h=>wpAny_Constant_int ⟨.int i,H,I.tok _,⟨_,rfl⟩,h⟩
theorem zEE{b j pos}:PE X (.Constant (.bool b) j pos) (tC (.bl b)):=fun _ _ _ H _ I h=>Constant_bool ⟨.bl b,H,I,rfl,h⟩
theorem zEy{j pos}:PE X (.Constant .none j pos) (tC .non):=fun _ _ _ H _ I h=>Constant_none ⟨.non,H,I,rfl,h⟩
theorem zMu{x j pos}:PE X (.Constant (.str x) j pos) (tC (.str x)):=fun _ _ _ H _ I h=>Calls.Constant_str ⟨.str x,H,I.tok _,⟨_,rfl⟩,h⟩
def Gl(X:Cx)(x:Str):Prop:=X.env.kindOf x=some .globalImplicit
theorem zDJ{E:Value->Shared->Prop}{pins:List (Addr×Obj)}{s:Shared}{σ:St}{H:Hp}{x:Str}{u:Value}{pos:Pos}{Q:Value->Shared->Prop}(I:Inv X pins σ H s)(hg:Gl X x)(hm:X.mg x=some u)(h:Q u s)
 (hd:(x==("__debug__":Str))=false:=by decide):wpAny (model X.prog X.w) X.A (eval (.Name x pos) X.env) Q E s:=
 Calls.Name_function_global I.ok.kind hg (Calls.loadGlobal_global (by rw[I.ok.glob];exact I.mod.glob.keeps I.bk) hm h) hd
theorem zBv{E:Value->Shared->Prop}{pins:List (Addr×Obj)}{s:Shared}{σ:St}{H:Hp}{x:Str}{u:Value}{pos:Pos}{Q:Value->Shared->Prop}(I:Inv X pins σ H s)(hg:Gl X x)(hm:X.mg x=none)(hv:bootBuiltins x=some u)(h:Q u s)
 (hn:x≠"__name__":=by decide) (hd:(x==("__debug__":Str))=false:=by decide):wpAny (model X.prog X.w) X.A (eval (.Name x pos) X.env) Q E s:=by
 obtain⟨mb,h1,h2⟩:=I.mod.blt
 exact Calls.Name_function_global I.ok.kind hg (Calls.loadGlobal_builtin (by rw[I.ok.glob];exact I.mod.glob.keeps I.bk) hm (by rw[I.ok.blt];exact h1.keeps I.bk) ((h2 x hn).trans hv) h) hd
theorem zLV{x:Str}{v:V}{u:Value}{pos:Pos}(hg:Gl X x)(hm:X.mg x=some u)(r:RelV v u)(hd:(x==("__debug__":Str))=false:=by decide):PE X (.Name x pos) (tC v):=
 fun _ _ _ H _ I h=>zDJ I hg hm ⟨v,H,I,r,h⟩ hd
theorem zLX{x:Str}{v:V}{u:Value}{pos:Pos}(hg:Gl X x)(hm:X.mg x=none)(hv:bootBuiltins x=some u)(r:RelV v u)(hn:x≠"__name__":=by decide)(hd:(x==("__debug__":Str))=false:=by decide):PE X (.Name x pos) (tC v):=
 fun _ _ _ H _ I h=>zBv I hg hm hv ⟨v,H,I,r,h⟩ hn hd
variable{a b:Expr}{ta tb:TE}{pos:Pos}
variable{tA tB':TT}{rest:List Expr}
def tAnd(t u:TT):TT:=fun σ H Q=>t σ H fun c H1=>if c=true then u σ H1 Q else Q false H1
def tOr(t u:TT):TT:=fun σ H Q=>t σ H fun c H1=>if c=true then Q true H1 else u σ H1 Q
def tNot(t:TT):TT:=fun σ H Q=>t σ H fun c H1=>Q (!c) H1
theorem zCB(ha:PT X a tA):PW X (.BoolOp .And [a] pos) tA:=by
 intro wh pins s σ H Q I h
 refine isTrue_and (thn (ha pins s σ H Q I h) fun c s1 e=>?_)
 cases c with
 |true=>exact isTrue_and_nil e
 |false=>exact e
theorem zCK(ha:PT X a tA):PW X (.BoolOp .Or [a] pos) tA:=by
 intro wh pins s σ H Q I h
 refine isTrue_or (thn (ha pins s σ H Q I h) fun c s1 e=>?_)
 cases c with
 |false=>exact isTrue_or_nil e
 |true=>exact e
theorem zCi(ha:PT X a tA)(hb:PW X (.BoolOp .And (b::rest) pos) tB'):PW X (.BoolOp .And (a::b::rest) pos) (tAnd tA tB'):=by
 intro wh pins s σ H Q I h
 refine isTrue_and (thn (ha pins s σ H _ I h) fun c s1 ⟨H1,I1,q1⟩=>?_)
 cases c with
 |true=>exact hb wh pins s1 σ H1 Q I1 q1
 |false=>exact⟨H1,I1,q1⟩
theorem zEB(ha:PT X a tA)(hb:PW X (.BoolOp .Or (b::rest) pos) tB'):PW X (.BoolOp .Or (a::b::rest) pos) (tOr tA tB'):=by
 intro wh pins s σ H Q I h
 refine isTrue_or (thn (ha pins s σ H _ I h) fun c s1 ⟨H1,I1,q1⟩=>?_)
 cases c with
 |true=>exact⟨H1,I1,q1⟩
 |false=>exact hb wh pins s1 σ H1 Q I1 q1
theorem zBN(ha:PT X a tA):PT X (.UnaryOp .Not a pos) (tNot tA):=by
 intro pins s σ H Q I h
 exact isTrue_not (ha pins s σ H (fun c H1=>Q (!c) H1) I h)
def tAndV(ta tb:TE):TE:=fun σ H Q=>ta σ H fun x H1=>∃c,x= .bl c/\if c=true then tb σ H1 Q else Q (.bl false) H1
def tNotV(ta:TE):TE:=fun σ H Q=>ta σ H fun x H1=>∃c,x= .bl c/\Q (.bl (!c)) H1
theorem zMv{op}{t:TE}(h:PE X a t):PE X (.BoolOp op [a] pos) t:=fun pins s σ H Q I hw=>BoolOp_one (h pins s σ H Q I hw)
theorem zMy(ha:PE X a ta)(hb:PE X (.BoolOp .And (b::rest) pos) tb):PE X (.BoolOp .And (a::b::rest) pos) (tAndV ta tb):=by
 intro pins s σ H Q I h
 refine BoolOp_and (thn (ha pins s σ H _ I h) fun v s1 ⟨x,H1,I1,r1,q1⟩=>?_)
 obtain⟨c,rfl,q1⟩:=q1
 cases r1
 refine wpAny_truthy_bool ?_
 cases c with
 |true=>exact hb pins s1 σ H1 Q I1 q1
 |false=>exact⟨.bl false,H1,I1,rfl,q1⟩
theorem zMw(ha:PE X a ta):PE X (.UnaryOp .Not a pos) (tNotV ta):=by
 intro pins s σ H Q I h
 refine UnaryOp_ (thn (ha pins s σ H _ I h) fun v s1 ⟨x,H1,I1,r1,q1⟩=>?_)
 obtain⟨c,rfl,q1⟩:=q1
 cases r1
 exact not_of (wpAny_truthy_bool ⟨.bl (!c),H1,I1,rfl,q1⟩)
def tIf(t:TT)(ta tb:TE):TE:=fun σ H Q=>t σ H fun c H1=>if c=true then ta σ H1 Q else tb σ H1 Q
theorem zJV{c:Expr}(hc:PT X c tA)(ha:PE X a ta)(hb:PE X b tb):PE X (.IfExp c a b pos) (tIf tA ta tb):=by
 intro pins s σ H Q I h
 refine wpAny_IfExp (thn (hc pins s σ H _ I h) fun d s1 ⟨H1,I1,q1⟩=>?_)
 cases d with
 |true=>exact ha pins s1 σ H1 Q I1 q1
 |false=>exact hb pins s1 σ H1 Q I1 q1
end
def SqL(K:PySem.W.Frag)(H:Hp)(a:Addr)(xs:List V):Prop:=
 Rd H a (.lst xs)\/
  ∃ (o:Obj) (its:Array Value) (n:Nat),K.lookup a=some o/\o.cls= .type "list"/\o.dict=none/\o.data= .seq its n/\its.size<=sizeLine/\Vals xs its.toList
def SqT(K:PySem.W.Frag)(H:Hp)(a:Addr)(xs:List V):Prop:=
 Rd H a (.tup xs)\/
  ∃ (o:Obj) (its:Array Value) (n:Nat),K.lookup a=some o/\o.cls= .type "tuple"/\o.data= .seq its n/\its.size<=sizeLine/\Vals xs its.toList
def absV:Value->Option V
 | .none=>some .non
 | .bool b=>some (.bl b)
 | .int i _=>some (.int i)
 | .str x _=>some (.str x)
 | .bytes b _=>some (.byt b)
 | .float b _=>some (.flt b)
 | .ref a=>some (.ref a)
 | .type n=>some (.ty n)
 |_=>none
theorem RelV.abs{x:V}{u:Value}(r:RelV x u):absV u=some x:=by
 cases x with
 |non=>cases r;rfl
 |bl _=>cases r;rfl
 |int _=>obtain⟨t,rfl⟩:=r;rfl
 |str _=>obtain⟨t,rfl⟩:=r;rfl
 |byt _=>obtain⟨t,rfl⟩:=r;rfl
 |flt _=>obtain⟨t,rfl⟩:=r;rfl
 |ref _=>cases r;rfl
 |ty _=>cases r;rfl
theorem RelV.inj{x y:V}{u:Value}(r:RelV x u)(q:RelV y u):x=y:=Option.some.inj (r.abs.symm.trans q.abs)
theorem Vals.inj:∀ {xs ys:List V} {us:List Value},Vals xs us->Vals ys us->xs=ys
 |_,_,_, .nil, .nil=>rfl
 |_,_,_, .cons r t, .cons r' t'=>by rw[r.inj r',Vals.inj t t']
section
variable{X:Cx}{pins:List (Addr×Obj)}{σ:St}{H:Hp}{s:Shared}{a:Addr}{xs ys:List V}
theorem SqL.of{K:PySem.W.Frag}(h:H a=some (.lst xs)):SqL K H a xs:= .inl (.inl h)
theorem SqT.of{K:PySem.W.Frag}(h:H a=some (.tup xs)):SqT K H a xs:= .inl (.inl h)
theorem Inv.list(I:Inv X pins σ H s)(h:SqL X.K H a xs):∃its:List Value,Vals xs its/\PlainL s.heap a its.toArray/\xs.length<=sizeLine:=by
 rcases h with h|⟨o,its,n,hk,hc,hd,hs,hz,r⟩
 ·obtain⟨z,its,n,r,e⟩:=h.ok I.hok
  exact⟨its,r,⟨_,n,e,rfl,rfl,rfl⟩,z⟩
 ·refine⟨its.toList,r,⟨o,n,I.kIn a o hk,hc,hd,by simpa using hs⟩,?_⟩
  have e:=r.length
  simp only[Array.length_toList]at e
  omega
theorem Inv.tuple(I:Inv X pins σ H s)(h:SqT X.K H a xs):∃its:List Value,Vals xs its/\IsTup s.heap a its.toArray/\xs.length<=sizeLine:=by
 rcases h with h|⟨o,its,n,hk,hc,hs,hz,r⟩
 ·obtain⟨z,its,r,p⟩:=h.ok I.hok
  exact⟨its,r,p,z⟩
 ·refine⟨its.toList,r,⟨o,I.kIn a o hk,hc,n,by simpa using hs⟩,?_⟩
  have e:=r.length
  simp only[Array.length_toList]at e
  omega
theorem Inv.list_inj(I:Inv X pins σ H s)(h:SqL X.K H a xs)(h':SqL X.K H a ys):xs=ys:=by
 obtain⟨its,r,⟨o,n,e,_,_,d⟩,_⟩:=I.list h
 obtain⟨its',r',⟨o',n',e',_,_,d'⟩,_⟩:=I.list h'
 rw[e]at e';cases e'
 rw[d]at d'
 injection d' with d1 _
 have:its=its':=by simpa using congrArg Array.toList d1
 subst this
 exact r.inj r'
end
abbrev Cx.wish(X:Cx)(E:Value->Shared->Prop):Cx:={X with xe:=E}
abbrev Cx.nox(X:Cx):Cx:=X.wish fun _ _=>False
theorem Cx.Ok.wish{X:Cx}(ok:X.Ok)(E:Value->Shared->Prop):(X.wish E).Ok:=
 ⟨ok.mod,ok.kind,ok.glob,ok.blt,ok.above,ok.inj,ok.has,ok.cab,ok.hd,ok.frames,ok.stk,ok.exf,ok.bs,ok.bsz,ok.noex,ok.exfs,ok.funs,ok.frf⟩
theorem Cx.Ok.unwish{X:Cx}{E:Value->Shared->Prop}(ok:(X.wish E).Ok):X.Ok:=
 ⟨ok.mod,ok.kind,ok.glob,ok.blt,ok.above,ok.inj,ok.has,ok.cab,ok.hd,ok.frames,ok.stk,ok.exf,ok.bs,ok.bsz,ok.noex,ok.exfs,ok.funs,ok.frf⟩
section
variable{X:Cx}{pins:List (Addr×Obj)}{σ:St}{H:Hp}{s:Shared}{E:Value->Shared->Prop}
theorem Inv.wish(I:Inv X pins σ H s)(E:Value->Shared->Prop):Inv (X.wish E) pins σ H s:=⟨I.ok.wish E,I.os,I.bare,I.base,I.loc,I.cell,I.free,I.freeC,I.pin,I.hok,I.len⟩
theorem Inv.unwish(I:Inv (X.wish E) pins σ H s):Inv X pins σ H s:=⟨I.ok.unwish,I.os,I.bare,I.base,I.loc,I.cell,I.free,I.freeC,I.pin,I.hok,I.len⟩
theorem SP.unwish{D:Ends}{f:Flow}{s':Shared}(h:SP (X.wish E) pins D f s'):SP X pins D f s':=by
 cases f with
 |next=>obtain⟨σ',H',I,q⟩:=h;exact⟨σ',H',I.unwish,q⟩
 |brk=>obtain⟨σ',H',I,q⟩:=h;exact⟨σ',H',I.unwish,q⟩
 |cont=>obtain⟨σ',H',I,q⟩:=h;exact⟨σ',H',I.unwish,q⟩
 |ret u=>obtain⟨v,σ',H',I,r,q⟩:=h;exact⟨v,σ',H',I.unwish,r,q⟩
theorem PSs.nox{st:List Stmt}{t:TS}(h:PSs X.nox st t):PSs X st t:=fun pins s σ H D I hw=>
 wpAny_mono (h pins s σ H D (I.wish _) hw) (fun _ _ q=>q.unwish) fun _ _ z=>False.elim z
end
section
variable{X:Cx}{st:Stmt}{rest:List Stmt}{t u:TS}{e:Expr}{te:TE}{pos:Pos}
def tNext:TS:=fun D σ H=>D.nx σ H
def tSeq(t u:TS):TS:=fun D σ H=>t {D with nx:=u D} σ H
theorem zAZ:PSs X [] tNext:=fun _ _ σ H _ I h=>wpAny_execs_nil ⟨σ,H,I,h⟩
theorem zAD(h1:PS X st t)(h2:PSs X rest u):PSs X (st::rest) (tSeq t u):=by
 intro pins s σ H D I h
 refine wpAny_execs_cons (thn (h1 pins s σ H {D with nx:=u D} I h) fun f s1 q=>?_)
 cases f with
 |next=>
  obtain⟨σ',H',I',q⟩:=q
  exact h2 pins s1 σ' H' D I' q
 |ret v=>exact q
 |brk=>exact q
 |cont=>exact q
theorem zAI(h1:PS X st t):PSs X [st] t:=by
 intro pins s σ H D I h
 refine wpAny_execs_cons (thn (h1 pins s σ H D I h) fun f s1 q=>?_)
 cases f with
 |next=>exact wpAny_execs_nil q
 |ret v=>exact q
 |brk=>exact q
 |cont=>exact q
theorem Inv.quiet{pins:List (Addr×Obj)}{σ:St}{H:Hp}{s:Shared}(I:Inv X pins σ H s):interactive X.env=false:=by simp[interactive,I.ok.kind]
def tDrop(te:TE):TS:=fun D σ H=>te σ H fun _ H1=>D.nx σ H1
theorem zAg(he:PE X e te)(hs:swapsWith e none pos.line X.env=pure false:=by rfl):PS X (.Expr e pos) (tDrop te):=by
 intro pins s σ H D I h
 exact wpAny_Expr_any (thn (he pins s σ H _ I h) fun v s1 ⟨x,H1,I1,r1,q1⟩=>⟨σ,H1,I1,q1⟩) I.quiet hs
def tRet(te:TE):TS:=fun D σ H=>te σ H D.rt
theorem zAX(he:PE X e te):PS X (.Return (some e) pos) (tRet te):=by
 intro pins s σ H D I h
 exact wpAny_Return_some (thn (he pins s σ H _ I h) fun v s1 ⟨x,H1,I1,r1,q1⟩=>⟨x,σ,H1,I1,r1,q1⟩)
def tIfS(c:TT)(t u:TS):TS:=fun D σ H=>c σ H fun b H1=>if b=true then t D σ H1 else u D σ H1
theorem zA6{c:Expr}{a b:List Stmt}{tc:TT}(hc:PT X c tc)(ha:PSs X a t)(hb:PSs X b u):PS X (.If c a b pos) (tIfS tc t u):=by
 intro pins s σ H D I h
 refine wpAny_If (thn (hc pins s σ H _ I h) fun d s1 ⟨H1,I1,q1⟩=>?_)
 cases d with
 |true=>exact ha pins s1 σ H1 D I1 q1
 |false=>exact hb pins s1 σ H1 D I1 q1
def tNever:TS:=fun _ _ _=>False
theorem zCs:PS X st tNever:=fun _ _ _ _ _ _ h=>h.elim
end
abbrev TG:=V->St->Hp->(St->Hp->Prop)->Prop
abbrev TGs:=List V->St->Hp->(St->Hp->Prop)->Prop
def PG(X:Cx)(target:Expr)(t:TG):Prop:=
 ∀ (pins:List (Addr×Obj)) (s:Shared) (σ:St) (H:Hp) (v:V) (u:Value) (Q:St->Hp->Prop),Inv X pins σ H s->RelV v u->t v σ H Q->
   wpAny (model X.prog X.w) X.A (assign target X.env u) (fun _ s'=>∃σ' H',Inv X pins σ' H' s'/\Q σ' H') X.xe s
def PGs(X:Cx)(ts:List Expr)(t:TGs):Prop:=
 ∀ (pins:List (Addr×Obj)) (s:Shared) (σ:St) (H:Hp) (vs:List V) (us:List Value) (Q:St->Hp->Prop),Inv X pins σ H s->Vals vs us->t vs σ H Q->
   wpAny (model X.prog X.w) X.A (assignInOrder ((assignEach ts X.env).map (·.2)) us) (fun _ s'=>∃σ' H',Inv X pins σ' H' s'/\Q σ' H') X.xe s
abbrev TSet:=V->V->V->Hp->(Hp->Prop)->Prop
def PSet(X:Cx)(t:TSet):Prop:=
 ∀ (pins:List (Addr×Obj)) (s:Shared) (σ:St) (H:Hp) (o i v:V) (ov iv u:Value) (Q:Hp->Prop),Inv X pins σ H s->RelV o ov->RelV i iv->RelV v u->t o i v H Q->
   wpAny (model X.prog X.w) X.A (setItem ov iv u) (fun _ s'=>∃H',Inv X pins σ H' s'/\Q H') X.xe s
abbrev TIp:=V->V->Hp->VK->Prop
def PIp(X:Cx)(op:Operator)(t:TIp):Prop:=
 ∀ (pins:List (Addr×Obj)) (s:Shared) (σ:St) (H:Hp) (x y:V) (v u:Value) (Q:VK),Inv X pins σ H s->RelV x v->RelV y u->t x y H Q->
   wpAny (model X.prog X.w) X.A (inplaceOp op v u) (EP X pins σ Q) X.xe s
section
variable{X:Cx}{pos:Pos}
def gName(i:Nat):TG:=fun v σ H Q=>Q (σ.set i (some v)) H
theorem zAK{i:Nat}{x:Str}(hN:X.N.Nodup)(hi:X.N[i]? =some x)(hx:Loc X.env.scope x)(hf:X.fn x=true\/X.env.scope.names.lookup x=some .local:=by first|exact .inl rfl|exact .inr rfl|assumption):PG X (.Name x pos) (gName i):=by
 intro pins s σ H v u Q I r h
 exact wpAny_assign_Name (zCq I hN hi hx r (fun s' I'=>⟨_,H,I',h⟩) hf)
def gNil:TGs:=fun vs σ H Q=>vs=[]/\Q σ H
def gCons(t:TG)(u:TGs):TGs:=fun vs σ H Q=>∃v r,vs=v::r/\t v σ H fun σ' H'=>u r σ' H' Q
theorem zAo:PGs X [] gNil:=by
 intro pins s σ H vs us Q I r h
 obtain⟨e,h⟩:=h
 subst e
 cases r
 exact assignInOrder_nil ⟨σ,H,I,h⟩
theorem zAL{e:Expr}{es:List Expr}{t:TG}{u:TGs}(h1:PG X e t)(h2:PGs X es u)
 (hs:(assignEach (e::es) X.env).map (·.2)=assign e X.env::(assignEach es X.env).map (·.2):=by rfl):PGs X (e::es) (gCons t u):=by
 intro pins s σ H vs us Q I r h
 obtain⟨v,vr,e1,h⟩:=h
 subst e1
 cases r with
 |cons r rr=>
  rw[hs]
  refine assignInOrder_cons (thn (h1 pins s σ H _ _ _ I r h) fun _ s1 ⟨σ1,H1,I1,q1⟩=>?_)
  exact h2 pins s1 σ1 H1 _ _ Q I1 rr q1
def gTup(K:PySem.W.Frag)(n:Nat)(t:TGs):TG:=fun v σ H Q=>∃a xs,v= .ref a/\SqT K H a xs/\xs.length=n/\t xs σ H Q
theorem zMs{es:List Expr}{k:Nat}{t:TGs}{n:Nat}(hc:X.calm=true)(h:PGs X es t)
 (hn:(assignEach es X.env).length=n:=by rfl) (hst:(assignEach es X.env).findIdx? (·.1)=none:=by rfl):PG X (.Tuple es k pos) (gTup X.K n t):=by
 intro pins s σ H v u Q I r hw
 obtain⟨a,xs,e1,hq,hl,hw⟩:=hw
 subst e1
 cases r
 obtain⟨its,rv,ht,hz⟩:=I.tuple hq
 refine assign_Tuple_tuple (I.ok.hd hc) ht (by simp[hn,<-hl,rv.length]) hst fun h' hx=>?_
 have I1:Inv X pins σ H {s with heap:=h'}:=I.kept (t':=s.toks) fun b o e=>hx b o (Nat.ne_of_lt (Heap.lt_size e)) e
 exact h pins _ σ H xs _ Q I1 (by simpa using rv) hw
def gSub(to ti:TE)(t:TSet):TG:=fun v σ H Q=>to σ H fun o H1=>ti σ H1 fun i H2=>t o i v H2 fun H3=>Q σ H3
theorem zDm{o i:Expr}{to ti:TE}{t:TSet}(ho:PE X o to)(hi:PE X i ti)(hs:PSet X t)
 (ha:∀v,assign (.Subscript o i pos) X.env v=(do
   let ov<-holding [v] (eval o X.env)
   let iv<-holding [v,ov] (eval i X.env)
   standAt pos
   holding [v,ov,iv] (setItem ov iv v)
   release [v,ov,iv] []):=by intro _;rfl):PG X (.Subscript o i pos) (gSub to ti t):=by
 intro pins s σ H v u Q I r h
 rw[ha]
 refine wpAny_bind (wpAny_holding (thn (ho pins s σ H _ I h) fun ov s1 ⟨x,H1,I1,r1,q1⟩=>?_))
 refine wpAny_bind (wpAny_holding (thn (hi pins s1 σ H1 _ I1 q1) fun iv s2 ⟨y,H2,I2,r2,q2⟩=>?_))
 refine wpAny_bind (wpAny_standAt (wpAny_bind (wpAny_holding (thn (hs pins s2 σ H2 x y v ov iv u _ I2 r1 r2 r q2) fun _ s3 ⟨H3,I3,q3⟩=>?_))))
 exact wpAny_release ⟨σ,H3,I3,q3⟩
def tAsg(te:TE)(g:TG):TS:=fun D σ H=>te σ H fun x H1=>g x σ H1 D.nx
theorem zBe{tg e:Expr}{te:TE}{g:TG}(he:PE X e te)(hg:PG X tg g)(hs:swapsWithSole [tg] e pos.line X.env=pure false:=by rfl)(hw:swappedStores [tg] e X.env=pure none:=by rfl)
 (h1:(assignEach [tg] X.env).map (·.2)=[assign tg X.env]:=by rfl):PS X (.Assign [tg] e pos) (tAsg te g):=by
 intro pins s σ H D I h
 refine wpAny_Assign_stores (thn (he pins s σ H _ I h) fun v s1 ⟨x,H1,I1,r1,q1⟩=>?_) hs hw
 rw[h1]
 exact thn (hg pins s1 σ H1 x v _ I1 r1 q1) fun _ s2 q=>q
theorem zAO{i:Nat}{x:Str}{e:Expr}{te:TE}{pos':Pos}(hN:X.N.Nodup)(hi:X.N[i]? =some x)(hx:Loc X.env.scope x)(he:PE X e te)(hs:swapsWith e (some (.Name x pos')) pos.line X.env=pure false:=by rfl)(hf:X.fn x=true\/X.env.scope.names.lookup x=some .local:=by first|exact .inl rfl|exact .inr rfl|assumption):
 PS X (.Assign [.Name x pos'] e pos) (tAsg te (gName i)):=by
 intro pins s σ H D I h
 refine wpAny_Assign_Name (thn (he pins s σ H _ I h) fun v s1 ⟨y,H1,I1,r1,q1⟩=>?_) hs
 exact zCq I1 hN hi hx r1 (fun s2 I2=>⟨_,H1,I2,q1⟩) hf
def tAug(i:Nat)(te:TE)(ti:TIp):TS:=fun D σ H=>∃x,σ[i]? =some (some x)/\te σ H fun y H1=>ti x y H1 fun z H2=>D.nx (σ.set i (some z)) H2
theorem zMk{i:Nat}{x:Str}{e:Expr}{te:TE}{op:Operator}{ti:TIp}{pos':Pos}(hN:X.N.Nodup)(hi:X.N[i]? =some x)(hx:Loc X.env.scope x)(he:PE X e te)(ho:PIp X op ti)(hf:X.fn x=true\/X.env.scope.names.lookup x=some .local:=by first|exact .inl rfl|exact .inr rfl|assumption):
 PS X (.AugAssign (.Name x pos') op e pos) (tAug i te ti):=by
 intro pins s σ H D I h
 obtain⟨v,e1,h⟩:=h
 obtain⟨m,hn,hl⟩:=I.loc
 have vis:Vis X.env.scope x:=by rcases hx with k|k;exact .inl k;exact .inr (.inl k)
 obtain⟨u,r,l⟩:=hl i x v hi e1 vis
 refine wpAny_AugAssign_Name ?_
 have go:wpAny (model X.prog X.w) X.A (eval e X.env) (fun w s₂=>wpAny (model X.prog X.w) X.A (inplaceOp op u w) (fun r s₃=>wpAny (model X.prog X.w) X.A (storeName X.env x r) (fun _=>SP X pins D .next) X.xe s₃) X.xe s₂) X.xe s:=by
  refine thn (he pins s σ H _ I h) fun w s1 ⟨y,H1,I1,r1,q1⟩=>?_
  refine thn (ho pins s1 σ H1 v y u w _ I1 r r1 q1) fun z s2 ⟨zv,H2,I2,r2,q2⟩=>?_
  exact zCq I2 hN hi hx r2 (fun s3 I3=>⟨_,H2,I3,q2⟩) hf
 rcases l with⟨hk,hm⟩|⟨hk,c,hc,hcell⟩
 ·exact wpAny_loadName_local I.ok.kind hk hn hm go
 ·rcases hk with hk|hk
  ·exact wpAny_loadName_cell I.ok.kind hk hc hcell go
  ·rcases hx with k|k
   ·have:X.env.scope.names.lookup x=some .free:=hk
    rw[k]at this;cases this
   ·have:X.env.scope.names.lookup x=some .free:=hk
    rw[k]at this;cases this
def tAugS(to ti te:TE)(tget:V->V->Hp->VK->Prop)(tip:TIp)(tset:TSet):TS:=fun D σ H=>to σ H fun o H1=>ti σ H1 fun i H2=>tget o i H2 fun x H3=>te σ H3 fun y H4=>tip x y H4 fun z H5=>tset o i z H5 fun H6=>D.nx σ H6
def PGet(X:Cx)(t:V->V->Hp->VK->Prop):Prop:=
 ∀ (pins:List (Addr×Obj)) (s:Shared) (σ:St) (H:Hp) (o i:V) (ov iv:Value) (Q:VK),Inv X pins σ H s->RelV o ov->RelV i iv->t o i H Q->
   wpAny (model X.prog X.w) X.A (getItem ov iv) (EP X pins σ Q) X.xe s
theorem zC8{o i e:Expr}{to ti te:TE}{tget:V->V->Hp->VK->Prop}{tip:TIp}{tset:TSet}{op:Operator}{tpos:Pos}(ho:PE X o to)(hi:PE X i ti)(hg:PGet X tget)(he:PE X e te)(hp:PIp X op tip)(hs:PSet X tset)
 (ha:∀ov iv new,augStore i ov iv new=(do holding [new,ov,iv] (setItem ov iv new);release [new,ov,iv] [];pure .next):=by intros;rfl):PS X (.AugAssign (.Subscript o i tpos) op e pos) (tAugS to ti te tget tip tset):=by
 intro pins s σ H D I h
 refine wpAny_AugAssign_SubscriptAny (thn (ho pins s σ H _ I h) fun ov s1 ⟨x1,H1,I1,r1,q1⟩=>?_) ha
 refine thn (hi pins s1 σ H1 _ I1 q1) fun iv s2 ⟨x2,H2,I2,r2,q2⟩=>?_
 refine thn (hg pins s2 σ H2 x1 x2 ov iv _ I2 r1 r2 q2) fun old s3 ⟨x3,H3,I3,r3,q3⟩=>?_
 refine thn (he pins s3 σ H3 _ I3 q3) fun v s4 ⟨x4,H4,I4,r4,q4⟩=>?_
 refine thn (hp pins s4 σ H4 x3 x4 old v _ I4 r3 r4 q4) fun new s5 ⟨x5,H5,I5,r5,q5⟩=>?_
 exact thn (hs pins s5 σ H5 x1 x2 x5 ov iv new _ I5 r1 r2 r5 q5) fun _ s6 ⟨H6,I6,q6⟩=>⟨σ,H6,I6,q6⟩
def ipI(f:Int->Int->Int):TIp:=fun x y H Q=>∃i j,x= .int i/\y= .int j/\Q (.int (f i j)) H
theorem zDr:PIp X .Add (ipI fun i j=>i+j):=by
 intro pins s σ H x y v u Q I r1 r2 h
 obtain⟨i,j,e1,e2,q⟩:=h
 subst e1;subst e2
 obtain⟨t,rfl⟩:=r1
 obtain⟨t',rfl⟩:=r2
 exact iadd_int ⟨.int _,H,I.tok _,⟨_,rfl⟩,q⟩
end
structure It where
 go:Nat->Hp->Prop
 yld:Nat->Hp->V->Hp->Prop
 stop:Nat->Hp->Prop
def FpOk(X:Cx)(pins:List (Addr×Obj))(H:Hp)(b:Addr):Prop:=
 H b=none/\b≠X.env.locals/\b∉X.fs/\(b∈X.ex\/X.s₀.heap.objs.size<=b)/\(∀x c,X.env.cells.lookup x=some c->c≠b)/\∀p∈X.pn++pins,p.1≠b
theorem Inv.fpOk{X:Cx}{pins:List (Addr×Obj)}{σ:St}{H H':Hp}{s:Shared}{b:Addr}(I:Inv X pins σ H s)(hb:s.heap.objs.size<=b)(hn:H' b=none):FpOk X pins H' b:=by
 refine⟨hn,Nat.ne_of_gt (Nat.lt_of_lt_of_le I.lt hb),I.nofs hb, .inr (Nat.le_trans I.sz hb),fun x c e z=>?_,fun p hp z=>?_⟩
 ·obtain⟨v,q⟩:=I.cell x c e
  exact absurd (Nat.lt_of_lt_of_le q.lt (by rw[z];exact hb)) (Nat.lt_irrefl _)
 ·exact absurd (Nat.lt_of_lt_of_le (Heap.lt_size (I.pin p hp).1) (by rw[z];exact hb)) (Nat.lt_irrefl _)
structure Turn (P:Program) (w:World) (K:PySem.W.Frag) (tg:Expr) (J:It) (fp:List Addr) (it:Addr) (tn:Nat->Heap->Prop):Prop where
 mem:it∈fp
 obj:∀i h,tn i h->∀b∈fp,∃o,h.get? b=some o/\∀v,o.data≠ .cell v
 keep:∀i h h',tn i h->(∀b∈fp,∀o,h.get? b=some o->h'.get? b=some o)->tn i h'
 item:∀ (X:Cx),X.prog=P->X.w=w->X.K=K->X.calm=true->∀ (i:Nat) (pins:List (Addr×Obj)) (s:Shared) (σ:St) (H:Hp) (E:Value->Shared->Prop),Inv X pins σ H s->(∀b∈fp,FpOk X pins H b)->tn i s.heap->J.go i H->
  wpAny (model P w) X.A (pyNext (.ref it)) (fun r s1=>∃u,r=some u/\
   wpAny (model P w) X.A (letOwnedTupleGo tg (.ref it) u) (fun _ s2=>∃x H',Inv X pins σ H' s2/\RelV x u/\J.yld i H x H'/\tn (i+1) s2.heap/\∀b∈fp,H' b=none) E s1) E s
 done:∀ (X:Cx),X.prog=P->X.w=w->X.K=K->X.calm=true->∀ (i:Nat) (pins:List (Addr×Obj)) (s:Shared) (σ:St) (H:Hp) (E:Value->Shared->Prop),Inv X pins σ H s->(∀b∈fp,FpOk X pins H b)->tn i s.heap->J.stop i H->
  wpAny (model P w) X.A (pyNext (.ref it)) (fun r s1=>r=none/\Inv X pins σ H s1) E s
 self:∀ (A:Around) (i:Nat) (s:Shared) (Q:Value->Shared->Prop) (E:Value->Shared->Prop),tn i s.heap->Q (.ref it) s->wpAny (model P w) A (pyIter (.ref it)) Q E s
abbrev TI:=St->Hp->(It->Hp->Prop)->Prop
def PIE(X:Cx)(pins:List (Addr×Obj))(σ:St)(tg:Expr)(R:It->Hp->Prop)(itv:Value)(s2:Shared):Prop:=
 ∃ (it:Addr) (fp:List Addr) (tn:Nat->Heap->Prop) (J:It) (H':Hp),itv= .ref it/\Inv X pins σ H' s2/\Turn X.prog X.w X.K tg J fp it tn/\tn 0 s2.heap/\(∀b∈fp,FpOk X pins H' b)/\R J H'
def PI(X:Cx)(tg iter:Expr)(wi:TI):Prop:=
 ∀ (pins:List (Addr×Obj)) (s:Shared) (σ:St) (H:Hp) (R:It->Hp->Prop),Inv X pins σ H s->wi σ H R->
   wpAny (model X.prog X.w) X.A (eval iter X.env) (fun v s1=>wpAny (model X.prog X.w) X.A (pyIter v) (PIE X pins σ tg R) X.xe s1) X.xe s
theorem zIP{M:Model}{A:Around}{E:Value->Shared->Prop}{s:Shared}{tg:Expr}{it:Addr}{u:Value}{o:Obj}{n:String}{vs:Array Value}{Q:Unit->Shared->Prop}(ho:s.heap.get? it=some o)(hc:o.cls= .type n)(hd:o.data= .fields vs)
 (hn:["enumerate","zip","dict_itemiterator","dict_reverseitemiterator","odict_iterator","itertools.zip_longest","itertools.pairwise"].contains n=false) (hQ:Q () s):wpAny M A (letOwnedTupleGo tg (.ref it) u) Q E s:=by
 unfold letOwnedTupleGo
 cases tg<;>first
  |exact wpAny_pure hQ
  |(cases u<;>first
     |exact wpAny_pure hQ
     |(refine wpAny_bind (wpAny_load ho ?_)
       rw[hc,hd]
       show wpAny M A (if(["enumerate","zip","dict_itemiterator","dict_reverseitemiterator","odict_iterator","itertools.zip_longest","itertools.pairwise"].contains n&&vs[0]? ==some (rawInt _))=true then _ else _) Q E s
       rw[if_neg (by intro h;rw[hn,Bool.false_and]at h;cases h)]
       exact wpAny_pure hQ))
def Itl(K:PySem.W.Frag)(a:Addr):It:=
 ⟨fun i H=>∃xs x,SqL K H a xs/\xs[i]? =some x,fun i H x H'=>H'=H/\∀xs,SqL K H a xs->xs[i]? =some x,fun i H=>∃xs,SqL K H a xs/\xs.length<=i⟩
def Itr(lo:Int)(n:Nat):It:=⟨fun i _=>i<n,fun i H x H'=>H'=H/\x= .int (lo+i),fun i _=>n<=i⟩
theorem zHS{P:Program}{w:World}{K:PySem.W.Frag}{tg:Expr}(a it:Addr):Turn P w K tg (Itl K a) [it] it (fun i h=>h.IsListIter it a i) where
 mem:=by simp
 obj:=fun i h st b hb=>by
  have e:b=it:=by simpa using hb
  subst e
  obtain⟨o,e,c,d⟩:=st
  exact⟨o,e,fun v z=>by rw[d]at z;cases z⟩
 keep:=fun i h h' st k=>st.at fun o e=>k it (by simp) o e
 item:=by
  intro X hP hw hK hc i pins s σ H E I hf st hg
  subst hP hw hK
  obtain⟨xs,x,hq,hx⟩:=hg
  obtain⟨its,rv,p,hz⟩:=I.list hq
  obtain⟨u,hu,ru⟩:=rv.get hx
  obtain⟨f0,f1,f2,f3,f4,f5⟩:=hf it (by simp)
  refine wpAny_pyNext_list_item st p.isList (x:=u) (by simpa using hu) fun h' st' sb=>?_
  have I1:Inv X pins σ H {s with heap:=h'}:=I.turned (t':=s.toks) (fun b o hb e=>(sb.2 b hb).trans e) f0 f1 f3 f4 f5
  obtain⟨o,e,c,d⟩:=id st'
  exact⟨u,rfl,zIP (s:={s with heap:=h'}) e c d (by decide) ⟨x,H,I1,ru,⟨rfl,fun ys hy=>by rw[I.list_inj hy hq];exact hx⟩,st',fun b hb=>(hf b hb).1⟩⟩
 done:=by
  intro X hP hw hK hc i pins s σ H E I hf st hg
  subst hP hw hK
  obtain⟨xs,hq,hx⟩:=hg
  obtain⟨its,rv,p,hz⟩:=I.list hq
  obtain⟨f0,f1,f2,f3,f4,f5⟩:=hf it (by simp)
  have hl:=rv.length
  exact wpAny_pyNext_list_end (I.ok.hd hc) st p.isList (by simp;omega) fun h' eb=>⟨rfl,I.turned (t':=s.toks) (fun b o hb e=>eb b o hb e) f0 f1 f3 f4 f5⟩
 self:=fun _ _ _ _ _ st h=>wpAny_pyIter_listiter st h
theorem zGm{P:Program}{w:World}{K:PySem.W.Frag}{tg:Expr}(it:Addr)(lo:Int)(n:Nat):Turn P w K tg (Itr lo n) [it] it (fun i h=>IsRangeIter h it (lo+(i:Nat)*1) ((n:Int)-(i:Nat)) 1) where
 mem:=by simp
 obj:=fun i h st b hb=>by
  have e:b=it:=by simpa using hb
  subst e
  exact⟨_,st,fun v z=>by
   have z':Data.fields _=Data.cell v:=z
   cases z'⟩
 keep:=fun i h h' st k=>k it (by simp) _ st
 item:=by
  intro X hP hw hK hc i pins s σ H E I hf st hg
  subst hP hw hK
  obtain⟨f0,f1,f2,f3,f4,f5⟩:=hf it (by simp)
  have W:=Walks.range (prog:=X.prog) (w:=X.w) (I.ok.hd hc) it lo 1 n
  refine W.item i s _ _ hg st fun v h' tk hv st' kk=>?_
  obtain⟨t,rfl⟩:=hv
  have I1:Inv X pins σ H {s with heap:=h',toks:=tk}:=I.turned (fun b o hb e=>kk b o (by simpa using hb) e) f0 f1 f3 f4 f5
  refine⟨_,rfl,zIP (s:={s with heap:=h',toks:=tk}) (n:="range_iterator") st' rfl rfl (by decide) ⟨.int (lo+i),H,I1,⟨t,?_⟩,⟨rfl,rfl⟩,st',fun b hb=>(hf b hb).1⟩⟩
  rw[Int.mul_one]
 done:=by
  intro X hP hw hK hc i pins s σ H E I hf st hg
  subst hP hw hK
  obtain⟨f0,f1,f2,f3,f4,f5⟩:=hf it (by simp)
  exact wpAny_pyNext_range_end (I.ok.hd hc) st (by have:n<=i:=hg;omega) fun h' eb=>⟨rfl,I.turned (t':=s.toks) (fun b o hb e=>eb b o hb e) f0 f1 f3 f4 f5⟩
 self:=fun _ _ _ _ _ st h=>wpAny_pyIter_rangeiter st h
section
variable{X:Cx}{tg:Expr}
def iList(K:PySem.W.Frag)(tl:TE):TI:=fun σ H R=>tl σ H fun x H1=>∃a,x= .ref a/\(∃xs,SqL K H1 a xs)/\R (Itl K a) H1
theorem zLT{l:Expr}{tl:TE}(hl:PE X l tl):PI X tg l (iList X.K tl):=by
 intro pins s σ H R I h
 refine thn (hl pins s σ H _ I h) fun v s1 ⟨x,H1,I1,r1,q1⟩=>?_
 obtain⟨a,e,⟨xs,hq⟩,q⟩:=q1
 subst e
 cases r1
 obtain⟨its,rv,p,hz⟩:=I1.list hq
 refine wpAny_pyIter_list p.isList ?_
 refine⟨s1.heap.objs.size,[s1.heap.objs.size],_,_,H1,rfl,I1.kept (t':=s1.toks) fun b o e=>Heap.get?_push_of_some _ e,zHS a _,⟨_,Heap.get?_push_size _ rfl,rfl,rfl⟩,fun b hb=>?_,q⟩
 have e:b=s1.heap.objs.size:=by simpa using hb
 subst e
 exact I1.fpOk (Nat.le_refl _) (I1.hok.fresh (Nat.le_refl _))
theorem zJQ{pins:List (Addr×Obj)}{σ:St}{H:Hp}{s:Shared}{R:It->Hp->Prop}{E:Value->Shared->Prop}{lo hi:Int}{t u v:Tok}{tk:Nat}(I:Inv X pins σ H s)(h1: -(2^62)<=lo)(h2:lo<2^62)(h3: -(2^62)<=hi)(h4:hi<2^62)
 (q:R (Itr lo (hi-lo).toNat) H):wpAny (model X.prog X.w) X.A (pyIter (.ref s.heap.objs.size)) (PIE X pins σ tg R) E {s with heap:=s.heap.push {cls:= .type "range",data:= .fields #[.int lo t, .int hi u, .int 1 v]},toks:=tk}:=by
 refine wpAny_pyIter_range (IsRange.new ..) (small_one h1 h2 h3 h4) ?_
 have I1:Inv X pins σ H {s with heap:=s.heap.push {cls:= .type "range",data:= .fields #[.int lo t, .int hi u, .int 1 v]},toks:=tk}:=I.kept fun b o e=>Heap.get?_push_of_some _ e
 refine⟨(s.heap.push {cls:= .type "range",data:= .fields #[.int lo t, .int hi u, .int 1 v]}).objs.size,[(s.heap.push {cls:= .type "range",data:= .fields #[.int lo t, .int hi u, .int 1 v]}).objs.size],_,_,H,rfl,
  I1.kept (t':=tk) fun b o e=>Heap.get?_push_of_some _ e,zGm _ lo (hi-lo).toNat,?_,fun b hb=>?_,q⟩
 ·have e1:lo+((0:Nat):Int)*1=lo:=by simp
  have e2:(((hi-lo).toNat:Nat):Int)-((0:Nat):Int)=Builtin.Range.rangeSize lo hi 1:=by rw[rangeSize_one];split<;>omega
  show IsRangeIter _ _ (lo+((0:Nat):Int)*1) ((((hi-lo).toNat:Nat):Int)-((0:Nat):Int)) 1
  rw[e1,e2]
  exact Heap.get?_push_size _ rfl
 ·have e:b=(s.heap.push {cls:= .type "range",data:= .fields #[.int lo t, .int hi u, .int 1 v]}).objs.size:=by simpa using hb
  subst e
  exact I1.fpOk (Nat.le_refl _) (I1.hok.fresh (Nat.le_refl _))
def iRng1(ta:TA):TI:=fun σ H R=>ta σ H fun vs H1=>∃j:Int,vs=[.int j]/\ -(2^62)<=j/\j<2^62/\R (Itr 0 j.toNat) H1
theorem zAx{a:Expr}{ta:TA}{p pos:Pos}(hg:Gl X "range")(hm:X.mg "range"=none)(ha:PA X [a] ta)(hs:starEach [a] X.env=[(false,eval a X.env)]:=by rfl):PI X tg (.Call (.Name "range" p) [a] [] pos) (iRng1 ta):=by
 intro pins s σ H R I h
 refine Call_ (zBv I hg hm boot_range (PyProof.Rows.callWith_type1 (thn (ha pos pins s σ H _ I h) fun us s1 ⟨vs,H1,I1,r1,q1⟩=>?_) hs rfl))
 obtain⟨j,e,q1,q2,q⟩:=q1
 subst e
 cases r1 with
 |cons r rr=>
  cases rr
  obtain⟨t,rfl⟩:=r
  exact call_range_1 (zJQ I1 (by omega) (by omega) q1 q2 (by simpa using q))
def tFor(wi:TI)(g:TG)(tb:TS):TS:=fun D σ H=>wi σ H fun J H1=>∃W:Nat->Nat->St->Hp->Prop,(∃m,W 0 m σ H1)/\∀i m σ H,W i m σ H->
 (J.stop i H/\D.nx σ H)\/(J.go i H/\∃N:St->Hp->Prop,(∀σ' H',N σ' H'->∃m',m'<m/\W (i+1) m' σ' H')/\∀x H',J.yld i H x H'->g x σ H' fun σ2 H2=>tb {D with nx:=N,ct:=N,bk:=D.nx} σ2 H2)
def pinsAt(fp:List Addr)(h:Heap):List (Addr×Obj):=fp.filterMap fun b=>(h.get? b).map fun o=>(b,o)
theorem zA7{fp:List Addr}{h:Heap}{b:Addr}{o:Obj}(hb:b∈fp)(e:h.get? b=some o):(b,o)∈pinsAt fp h:=List.mem_filterMap.mpr ⟨b,hb,by rw[e];rfl⟩
theorem zH7{fp:List Addr}{h:Heap}{p:Addr×Obj}(hp:p∈pinsAt fp h):p.1∈fp/\h.get? p.1=some p.2:=by
 obtain⟨b,hb,e⟩:=List.mem_filterMap.mp hp
 cases q:h.get? b with
 |none=>rw[q]at e;cases e
 |some o=>
  rw[q]at e
  have e':(b,o)=p:=Option.some.inj e
  subst e'
  exact⟨hb,q⟩
theorem Inv.pinned{pins:List (Addr×Obj)}{σ:St}{H:Hp}{s:Shared}{fp:List Addr}(I:Inv X pins σ H s)(hf:∀b∈fp,FpOk X pins H b)(ho:∀b∈fp,∃o,s.heap.get? b=some o/\∀v,o.data≠ .cell v):Inv X (pins++pinsAt fp s.heap) σ H s:=
 I.pins_of fun p hp=>(List.mem_append.mp hp).elim (fun z=>I.pin p (List.mem_append_right _ z)) fun z=>by
  obtain⟨hb,e⟩:=zH7 z
  obtain⟨f0,f1,f2,_⟩:=hf p.1 hb
  obtain⟨o,e',d⟩:=ho p.1 hb
  rw[e]at e';cases e'
  exact⟨e,f0,f1,f2,d⟩
theorem Inv.unpinned{pins pl:List (Addr×Obj)}{σ:St}{H:Hp}{s:Shared}(I:Inv X (pins++pl) σ H s):Inv X pins σ H s:=I.pins_of fun p hp=>I.pin p (List.mem_append_right _ (List.mem_append_left _ hp))
theorem zA1{iter:Expr}{body:List Stmt}{wi:TI}{g:TG}{tb:TS}{pos:Pos}(hp:PassesOwn (model X.prog X.w) X.A X.env X.xe)(hc:X.calm=true)(hi:PI X tg iter wi)(hg:PG X tg g)(hb:PSs X body tb)
 (hs:∀x,foldedSetIterable iter X.env x=pure x:=by intro _;rfl):PS X (.For tg iter body [] pos) (tFor wi g tb):=by
 intro pins s σ H D I h
 refine wpAny_For (thn (hi pins s σ H _ I h) fun v s1 h1=>thn h1 fun itv s2 h2=>?_) hs
 obtain⟨it,fp,tn,J,H2,e,I2,T,st2,f2,W,⟨m0,w0⟩,turn⟩:=h2
 subst e
 have stat:∀ {H':Hp},(∀b∈fp,H' b=none)->∀b∈fp,FpOk X pins H' b:=fun hn b hb=>⟨hn b hb,(f2 b hb).2⟩
 refine codeAny_forLoop_any (fun n s'=>∃i σ' H',Inv X pins σ' H' s'/\tn i s'.heap/\(∀b∈fp,H' b=none)/\W i n σ' H') ?_ m0 ⟨0,σ,H2,I2,st2,fun b hb=>(f2 b hb).1,w0⟩
 rintro n s3 ⟨i,σ3,H3,I3,st3,fr3,w3⟩
 rcases turn i n σ3 H3 w3 with⟨stop,qn⟩|⟨go,N,hN,step⟩
 ·refine wpAny_passesOwn hp (thn (T.done X rfl rfl rfl hc i pins s3 σ3 H3 X.xe I3 (stat fr3) st3 stop) fun r s4 ⟨hr,I4⟩=>?_)
  subst hr
  exact wpAny_execs_nil ⟨σ3,H3,I4,qn⟩
 ·refine wpAny_passesOwn hp (thn (T.item X rfl rfl rfl hc i pins s3 σ3 H3 X.xe I3 (stat fr3) st3 go) fun r s4 ⟨u,hr,h4⟩=>?_)
  subst hr
  refine wpAny_passesOwn hp (thn h4 fun _ s5 ⟨x,H5,I5,r5,y5,st5,fr5⟩=>?_)
  have I5':=I5.pinned (stat fr5) (T.obj _ _ st5)
  refine wpAny_passesOwn hp (thn (hg _ s5 σ3 H5 x u _ I5' r5 (step x H5 y5)) fun _ s6 ⟨σ6,H6,I6,q6⟩=>?_)
  refine wpAny_passesOwn hp (thn (hb _ s6 σ6 H6 _ I6 q6) fun f s7 q7=>?_)
  have again:∀ {σ7:St} {H7:Hp},Inv X (pins++pinsAt fp s5.heap) σ7 H7 s7->N σ7 H7->∃m,m<n/\∃i σ' H',Inv X pins σ' H' s7/\tn i s7.heap/\(∀b∈fp,H' b=none)/\W i m σ' H':=fun{σ7 H7} I7 n7=>by
   obtain⟨m',hm,w7⟩:=hN σ7 H7 n7
   refine⟨m',hm,i+1,σ7,H7,I7.unpinned,T.keep _ _ _ st5 fun b hb o e=>(I7.pin (b,o) (List.mem_append_right _ (List.mem_append_right _ (zA7 hb e)))).1,fun b hb=>?_,w7⟩
   obtain⟨o,e,d⟩:=T.obj _ _ st5 b hb
   exact(I7.pin (b,o) (List.mem_append_right _ (List.mem_append_right _ (zA7 hb e)))).2.1
  cases f with
  |next=>obtain⟨σ7,H7,I7,n7⟩:=q7;exact again I7 n7
  |cont=>obtain⟨σ7,H7,I7,n7⟩:=q7;exact again I7 n7
  |brk=>obtain⟨σ7,H7,I7,q7⟩:=q7;exact⟨σ7,H7,I7.unpinned,q7⟩
  |ret v=>obtain⟨x7,σ7,H7,I7,r7,q7⟩:=q7;exact⟨x7,σ7,H7,I7.unpinned,r7,q7⟩
end
theorem zJp{K:PySem.W.Frag}{a:Addr}{xs:List V}{g:TG}{tb:TS}{D:Ends}{σ:St}{H:Hp}(Pv:Nat->St->Hp->Prop)(h0:Pv 0 σ H)(hl:∀i σ H,i<=xs.length->Pv i σ H->SqL K H a xs)
 (hs:∀i x σ H,xs[i]? =some x->Pv i σ H->g x σ H fun σ2 H2=>tb {D with nx:=Pv (i+1),ct:=Pv (i+1),bk:=D.nx} σ2 H2) (hd:∀σ H,Pv xs.length σ H->D.nx σ H):
 ∃W:Nat->Nat->St->Hp->Prop,(∃m,W 0 m σ H)/\∀i m σ H,W i m σ H->
  ((Itl K a).stop i H/\D.nx σ H)\/((Itl K a).go i H/\∃N:St->Hp->Prop,(∀σ' H',N σ' H'->∃m',m'<m/\W (i+1) m' σ' H')/\∀x H',(Itl K a).yld i H x H'->g x σ H' fun σ2 H2=>tb {D with nx:=N,ct:=N,bk:=D.nx} σ2 H2):=by
 refine⟨fun i m σ H=>m=xs.length-i/\i<=xs.length/\Pv i σ H,⟨xs.length,by simp,Nat.zero_le _,h0⟩,?_⟩
 rintro i m σ H ⟨rfl,hi,p⟩
 have q:=hl i σ H hi p
 by_cases hlt:i<xs.length
 ·refine .inr ⟨⟨xs,xs[i],q,by simp[hlt]⟩,Pv (i+1),fun σ' H' p'=>⟨xs.length-(i+1),by omega,rfl,hlt,p'⟩,fun x H' y=>?_⟩
  obtain⟨e,y⟩:=y
  subst e
  exact hs i x σ _ (y xs q) p
 ·have e:i=xs.length:=by omega
  subst e
  exact .inl ⟨⟨xs,q,Nat.le_refl _⟩,hd σ H p⟩
theorem zIR{lo:Int}{n:Nat}{g:TG}{tb:TS}{D:Ends}{σ:St}{H:Hp}(Pv:Nat->St->Hp->Prop)(h0:Pv 0 σ H)
 (hs:∀i σ H,i<n->Pv i σ H->g (.int (lo+i)) σ H fun σ2 H2=>tb {D with nx:=Pv (i+1),ct:=Pv (i+1),bk:=D.nx} σ2 H2) (hd:∀σ H,Pv n σ H->D.nx σ H):
 ∃W:Nat->Nat->St->Hp->Prop,(∃m,W 0 m σ H)/\∀i m σ H,W i m σ H->
  ((Itr lo n).stop i H/\D.nx σ H)\/((Itr lo n).go i H/\∃N:St->Hp->Prop,(∀σ' H',N σ' H'->∃m',m'<m/\W (i+1) m' σ' H')/\∀x H',(Itr lo n).yld i H x H'->g x σ H' fun σ2 H2=>tb {D with nx:=N,ct:=N,bk:=D.nx} σ2 H2):=by
 refine⟨fun i m σ H=>m=n-i/\i<=n/\Pv i σ H,⟨n,by simp,Nat.zero_le _,h0⟩,?_⟩
 rintro i m σ H ⟨rfl,hi,p⟩
 by_cases hlt:i<n
 ·refine .inr ⟨hlt,Pv (i+1),fun σ' H' p'=>⟨n-(i+1),by omega,rfl,hlt,p'⟩,fun x H' y=>?_⟩
  obtain⟨e,y⟩:=y
  subst e y
  exact hs i σ _ hlt p
 ·have e:i=n:=by omega
  subst e
  exact .inl ⟨Nat.le_refl _,hd σ H p⟩
abbrev R2:=V->V->Hp->VK->Prop
def OpR(X:Cx)(f:Value->Value->Sem Value)(r:R2):Prop:=
 ∀ (pins:List (Addr×Obj)) (s:Shared) (σ:St) (H:Hp) (x y:V) (v u:Value) (Q:VK),Inv X pins σ H s->RelV x v->RelV y u->r x y H Q->
   wpAny (model X.prog X.w) X.A (f v u) (EP X pins σ Q) X.xe s
def UnR(X:Cx)(f:Value->Sem Value)(r:V->Hp->VK->Prop):Prop:=
 ∀ (pins:List (Addr×Obj)) (s:Shared) (σ:St) (H:Hp) (x:V) (v:Value) (Q:VK),Inv X pins σ H s->RelV x v->r x H Q->
   wpAny (model X.prog X.w) X.A (f v) (EP X pins σ Q) X.xe s
def CallR(X:Cx)(f:Value)(r:List V->Hp->VK->Prop):Prop:=
 ∀ (pins:List (Addr×Obj)) (s:Shared) (σ:St) (H:Hp) (xs:List V) (us:List Value) (Q:VK),Inv X pins σ H s->Vals xs us->r xs H Q->
   wpAny (model X.prog X.w) X.A (call f us) (EP X pins σ Q) X.xe s
def TruR(X:Cx)(r:V->Hp->(Bool->Hp->Prop)->Prop):Prop:=
 ∀ (pins:List (Addr×Obj)) (s:Shared) (σ:St) (H:Hp) (x:V) (v:Value) (Q:Bool->Hp->Prop),Inv X pins σ H s->RelV x v->r x H Q->
   wpAny (model X.prog X.w) X.A (truthy v) (TP X pins σ Q) X.xe s
def tOp(r:R2)(ta tb:TE):TE:=fun σ H Q=>ta σ H fun x H1=>tb σ H1 fun y H2=>r x y H2 Q
def tUn(r:V->Hp->VK->Prop)(ta:TE):TE:=fun σ H Q=>ta σ H fun x H1=>r x H1 Q
def rI(C:Int->Int->Prop)(g:Int->Int->V):R2:=fun x y H Q=>∃i j,x= .int i/\y= .int j/\C i j/\Q (g i j) H
def rI0(g:Int->Int->V):R2:=fun x y H Q=>∃i j,x= .int i/\y= .int j/\Q (g i j) H
def rU(g:Int->V):V->Hp->VK->Prop:=fun x H Q=>∃i,x= .int i/\Q (g i) H
section
variable{X:Cx}{a b c:Expr}{ta tb tc:TE}{pos:Pos}
theorem binT(ha:PE X a ta)(hb:PE X b tb){pins:List (Addr×Obj)}{s:Shared}{σ:St}{H:Hp}{R:V->V->Hp->Prop}(I:Inv X pins σ H s)
 (h:ta σ H fun x H1=>tb σ H1 fun y H2=>R x y H2) {Q:Value->Shared->Prop} {f:Value->Value->Sem Value}
 (hf:∀v u s2 x y H2,Inv X pins σ H2 s2->RelV x v->RelV y u->R x y H2->wpAny (model X.prog X.w) X.A (f v u) Q X.xe s2):
 wpAny (model X.prog X.w) X.A (eval a X.env) (fun v s₁=>wpAny (model X.prog X.w) X.A (eval b X.env) (fun u s₂=>wpAny (model X.prog X.w) X.A (f v u) Q X.xe s₂) X.xe s₁) X.xe s:=by
 refine thn (ha pins s σ H _ I h) fun v s1 ⟨x,H1,I1,r1,q1⟩=>?_
 refine thn (hb pins s1 σ H1 _ I1 q1) fun u s2 ⟨y,H2,I2,r2,q2⟩=>?_
 exact hf v u s2 x y H2 I2 r1 r2 q2
theorem zAQ{op:Operator}{r:R2}(ho:OpR X (binaryOp op) r)(ha:PE X a ta)(hb:PE X b tb):PE X (.BinOp a op b pos) (tOp r ta tb):=by
 intro pins s σ H Q I h
 exact wpAny_BinOp (binT ha hb I h fun v u s2 x y H2 I2 rx ry q=>ho pins s2 σ H2 x y v u Q I2 rx ry q)
theorem zHt{op:UnaryOp}{r:V->Hp->VK->Prop}(ho:UnR X (unaryOp op) r)(ha:PE X a ta):PE X (.UnaryOp op a pos) (tUn r ta):=by
 intro pins s σ H Q I h
 exact UnaryOp_ (thn (ha pins s σ H _ I h) fun v s1 ⟨x,H1,I1,r1,q1⟩=>ho pins s1 σ H1 x v Q I1 r1 q1)
theorem opI{f:Value->Value->Sem Value}{C:Int->Int->Prop}{g:Int->Int->Int}
 (rule:∀ (i j:Int) (t u:Tok) (s:Shared) (Q:Value->Shared->Prop) (E:Value->Shared->Prop),C i j->Q (.int (g i j) s.toks) {s with toks:=s.toks+1}->wpAny (model X.prog X.w) X.A (f (.int i t) (.int j u)) Q E s):
 OpR X f (rI C fun i j=> .int (g i j)):=by
 intro pins s σ H x y v u Q I rx ry h
 obtain⟨i,j,rfl,rfl,hc,q⟩:=h
 obtain⟨t,rfl⟩:=rx
 obtain⟨t',rfl⟩:=ry
 exact rule i j t t' s _ _ hc ⟨.int (g i j),H,I.tok _,⟨_,rfl⟩,q⟩
theorem opI0{f:Value->Value->Sem Value}{g:Int->Int->Int}
 (rule:∀ (i j:Int) (t u:Tok) (s:Shared) (Q:Value->Shared->Prop) (E:Value->Shared->Prop),Q (.int (g i j) s.toks) {s with toks:=s.toks+1}->wpAny (model X.prog X.w) X.A (f (.int i t) (.int j u)) Q E s):
 OpR X f (rI0 fun i j=> .int (g i j)):=by
 intro pins s σ H x y v u Q I rx ry h
 obtain⟨i,j,rfl,rfl,q⟩:=h
 obtain⟨t,rfl⟩:=rx
 obtain⟨t',rfl⟩:=ry
 exact rule i j t t' s _ _ ⟨.int (g i j),H,I.tok _,⟨_,rfl⟩,q⟩
theorem opB0{f:Value->Value->Sem Value}{g:Int->Int->Bool}
 (rule:∀ (i j:Int) (t u:Tok) (s:Shared) (Q:Value->Shared->Prop) (E:Value->Shared->Prop),Q (.bool (g i j)) s->wpAny (model X.prog X.w) X.A (f (.int i t) (.int j u)) Q E s):
 OpR X f (rI0 fun i j=> .bl (g i j)):=by
 intro pins s σ H x y v u Q I rx ry h
 obtain⟨i,j,rfl,rfl,q⟩:=h
 obtain⟨t,rfl⟩:=rx
 obtain⟨t',rfl⟩:=ry
 exact rule i j t t' s _ _ ⟨.bl (g i j),H,I,rfl,q⟩
def CDiv(i j:Int):Prop:=0<j/\j<1073741824
def CPow(i j:Int):Prop:=0<=j/\j<=1000000/\i.natAbs<2^64
def CMul(i j:Int):Prop:=(-(2^64)<i/\i<2^64)\/(-(2^64)<j/\j<2^64)
theorem CMul.ok{i j:Int}(h:CMul i j):IntMulOk i j:=by
 rcases h with⟨h1,h2⟩|⟨h1,h2⟩
 ·exact .of_left (intBits_le_64 h1 h2)
 ·exact .of_right (intBits_le_64 h1 h2)
theorem op_add:OpR X (binaryOp .Add) (rI0 fun i j=> .int (i+j)):=opI0 fun _ _ _ _ _ _ _ q=>add_int q
theorem zKQ:OpR X (binaryOp .Sub) (rI0 fun i j=> .int (i-j)):=opI0 fun _ _ _ _ _ _ _ q=>sub_int q
theorem op_mul:OpR X (binaryOp .Mult) (rI CMul fun i j=> .int (i*j)):=opI fun _ _ _ _ _ _ _ hc q=>mul_int q hc.ok
theorem zFf:OpR X (binaryOp .FloorDiv) (rI CDiv fun i j=> .int (i/j)):=opI fun i j _ _ _ _ _ hc q=>by
 have h1:(0:Int)<j:=hc.1
 have h2:j<1073741824:=hc.2
 exact floordiv_int (by omega) (by rw[Int.fdiv_eq_ediv_of_nonneg i (by omega)];exact q) (.inl (PyProof.noPylong_small (by omega)))
theorem zCM:OpR X (binaryOp .Mod) (rI (fun _ j=>0<j) fun i j=> .int (i%j)):=opI fun i j _ _ _ _ _ hc q=>by
 have h1:(0:Int)<j:=hc
 exact mod_int' (by omega) (by rw[Int.fmod_eq_emod_of_nonneg i (by omega)];exact q)
theorem zM1:OpR X (binaryOp .Pow) (rI CPow fun i j=> .int (i^j.toNat)):=opI fun _ _ _ _ _ _ _ hc q=>pow_int_small hc.1 hc.2.1 hc.2.2 q
theorem unI{f:Value->Sem Value}{g:Int->Int}
 (rule:∀ (i:Int) (t:Tok) (s:Shared) (Q:Value->Shared->Prop) (E:Value->Shared->Prop),Q (.int (g i) s.toks) {s with toks:=s.toks+1}->wpAny (model X.prog X.w) X.A (f (.int i t)) Q E s):
 UnR X f (rU fun i=> .int (g i)):=by
 intro pins s σ H x v Q I rx h
 obtain⟨i,rfl,q⟩:=h
 obtain⟨t,rfl⟩:=rx
 exact rule i t s _ _ ⟨.int (g i),H,I.tok _,⟨_,rfl⟩,q⟩
theorem zEj:UnR X (unaryOp .USub) (rU fun i=> .int (-i)):=unI fun _ _ _ _ _ q=>neg_int q
end
def scal:V->V->Bool
 | .non, .non=>true| .non, .int _=>true| .int _, .non=>true| .non, .bl _=>true| .bl _, .non=>true| .non, .str _=>true| .str _, .non=>true
 | .int _, .int _=>true| .bl _, .bl _=>true| .str _, .str _=>true| .byt _, .byt _=>true
 | .int _, .str _=>true| .str _, .int _=>true| .bl _, .str _=>true| .str _, .bl _=>true
 |_,_=>false
def rEq:R2:=fun x y H Q=>scal x y=true/\Q (.bl (decide (x=y))) H
def rNe:R2:=fun x y H Q=>scal x y=true/\Q (.bl (!decide (x=y))) H
theorem zFv{i j:Int}:decide (V.int i=V.int j)=(i==j):=by
 rw[Bool.eq_iff_iff]
 simp
theorem zKc{i j:Bool}:decide (V.bl i=V.bl j)=(i==j):=by
 rw[Bool.eq_iff_iff]
 simp
theorem zIi{i j:Str}:decide (V.str i=V.str j)=(i==j):=by
 rw[Bool.eq_iff_iff]
 simp
theorem zIj{i j:Array UInt8}:decide (V.byt i=V.byt j)=(i.toList==j.toList):=by
 rw[Bool.eq_iff_iff]
 cases i
 cases j
 simp
section
variable{X:Cx}{a b c:Expr}{ta tb tc:TE}{pos:Pos}
theorem zAd{pins:List (Addr×Obj)}{σ:St}{H:Hp}{s:Shared}{Q:VK}{k k':Bool}(I:Inv X pins σ H s)(q:Q (.bl k) H)(e:k=k'):EP X pins σ Q (.bool k') s:=by
 subst e
 exact⟨.bl k,H,I,rfl,q⟩
theorem op_eq:OpR X (compareOp .Eq) rEq:=by
 intro pins s σ H x y v u Q I rx ry h
 obtain⟨hs,q⟩:=h
 cases x with
 |non=>
  cases rx
  cases y with
  |non=>cases ry;exact PySem.EqNone.eq_none_none (zAd I q (by simp))
  |bl j=>cases ry;exact PySem.EqNone.eq_none_bool (zAd I q (by simp))
  |int j=>obtain⟨t',rfl⟩:=ry;exact PySem.EqNone.eq_none_int (zAd I q (by simp))
  |str j=>obtain⟨t',rfl⟩:=ry;exact PySem.EqNone.eq_none_str (zAd I q (by simp))
  |_=>exact absurd (show false=true from hs) Bool.false_ne_true
 |bl i=>
  cases rx
  cases y with
  |non=>cases ry;exact PySem.EqNone.eq_bool_none (zAd I q (by simp))
  |bl j=>cases ry;exact eq_bool (zAd I q zKc)
  |str j=>obtain⟨t',rfl⟩:=ry;exact PySem.EqMixed.eq_bool_str (zAd I q (by simp))
  |_=>exact absurd (show false=true from hs) Bool.false_ne_true
 |int i=>
  obtain⟨t,rfl⟩:=rx
  cases y with
  |non=>cases ry;exact PySem.EqNone.eq_int_none (zAd I q (by simp))
  |int j=>obtain⟨t',rfl⟩:=ry;exact eq_int (zAd I q zFv)
  |str j=>obtain⟨t',rfl⟩:=ry;exact PySem.EqMixed.eq_int_str (zAd I q (by simp))
  |_=>exact absurd (show false=true from hs) Bool.false_ne_true
 |str i=>
  obtain⟨t,rfl⟩:=rx
  cases y with
  |non=>cases ry;exact PySem.EqNone.eq_str_none (zAd I q (by simp))
  |bl j=>cases ry;exact PySem.EqMixed.eq_str_bool (zAd I q (by simp))
  |int j=>obtain⟨t',rfl⟩:=ry;exact PySem.EqMixed.eq_str_int (zAd I q (by simp))
  |str j=>obtain⟨t',rfl⟩:=ry;exact eq_str (zAd I q zIi)
  |_=>exact absurd (show false=true from hs) Bool.false_ne_true
 |byt i=>
  obtain⟨t,rfl⟩:=rx
  cases y with
  |byt j=>obtain⟨t',rfl⟩:=ry;exact PySem.W.eq_bytes (zAd I q zIj)
  |_=>exact absurd (show false=true from hs) Bool.false_ne_true
 |_=>cases y<;>exact absurd (show false=true from hs) Bool.false_ne_true
theorem op_ne:OpR X (compareOp .NotEq) rNe:=by
 intro pins s σ H x y v u Q I rx ry h
 obtain⟨hs,q⟩:=h
 cases x with
 |non=>
  cases rx
  cases y with
  |non=>cases ry;exact PySem.EqNone.ne_none_none (zAd I q (by simp))
  |bl j=>cases ry;exact PySem.EqNone.ne_none_bool (zAd I q (by simp))
  |int j=>obtain⟨t',rfl⟩:=ry;exact PySem.EqNone.ne_none_int (zAd I q (by simp))
  |str j=>obtain⟨t',rfl⟩:=ry;exact PySem.EqNone.ne_none_str (zAd I q (by simp))
  |_=>exact absurd (show false=true from hs) Bool.false_ne_true
 |bl i=>
  cases rx
  cases y with
  |non=>cases ry;exact PySem.EqNone.ne_bool_none (zAd I q (by simp))
  |bl j=>cases ry;exact ne_bool (zAd I q (congrArg not zKc))
  |str j=>obtain⟨t',rfl⟩:=ry;exact PySem.EqMixed.ne_bool_str (zAd I q (by simp))
  |_=>exact absurd (show false=true from hs) Bool.false_ne_true
 |int i=>
  obtain⟨t,rfl⟩:=rx
  cases y with
  |non=>cases ry;exact PySem.EqNone.ne_int_none (zAd I q (by simp))
  |int j=>obtain⟨t',rfl⟩:=ry;exact ne_int (zAd I q (congrArg not zFv))
  |str j=>obtain⟨t',rfl⟩:=ry;exact PySem.EqMixed.ne_int_str (zAd I q (by simp))
  |_=>exact absurd (show false=true from hs) Bool.false_ne_true
 |str i=>
  obtain⟨t,rfl⟩:=rx
  cases y with
  |non=>cases ry;exact PySem.EqNone.ne_str_none (zAd I q (by simp))
  |bl j=>cases ry;exact PySem.EqMixed.ne_str_bool (zAd I q (by simp))
  |int j=>obtain⟨t',rfl⟩:=ry;exact PySem.EqMixed.ne_str_int (zAd I q (by simp))
  |str j=>obtain⟨t',rfl⟩:=ry;exact ne_str (zAd I q (congrArg not zIi))
  |_=>exact absurd (show false=true from hs) Bool.false_ne_true
 |byt i=>
  obtain⟨t,rfl⟩:=rx
  cases y with
  |byt j=>obtain⟨t',rfl⟩:=ry;exact PySem.W.ne_bytes (zAd I q (congrArg not zIj))
  |_=>exact absurd (show false=true from hs) Bool.false_ne_true
 |_=>cases y<;>exact absurd (show false=true from hs) Bool.false_ne_true
theorem zH2:OpR X (compareOp .Lt) (rI0 fun i j=> .bl (decide (i<j))):=opB0 fun _ _ _ _ _ _ _ q=>lt_int q
theorem zGx:OpR X (compareOp .LtE) (rI0 fun i j=> .bl (decide (i<=j))):=opB0 fun _ _ _ _ _ _ _ q=>le_int q
theorem zJd:OpR X (compareOp .Gt) (rI0 fun i j=> .bl (decide (j<i))):=opB0 fun _ _ _ _ _ _ _ q=>gt_int q
theorem zOJ:OpR X (compareOp .GtE) (rI0 fun i j=> .bl (decide (j<=i))):=opB0 fun _ _ _ _ _ _ _ q=>ge_int q
theorem zH3:OpR X (compareOp .In) (fun x y H Q=>∃i j,x= .str i/\y= .str j/\Q (.bl (!(Builtin.Str.occurrences j i 0 j.length 1).isEmpty)) H):=by
 intro pins s σ H x y v u Q I rx ry h
 obtain⟨i,j,rfl,rfl,q⟩:=h
 obtain⟨t,rfl⟩:=rx
 obtain⟨t',rfl⟩:=ry
 exact in_str (zAd I q rfl)
theorem OpR.or{f:Value->Value->Sem Value}{r r':R2}(h:OpR X f r)(h':OpR X f r'):OpR X f (fun x y H Q=>r x y H Q\/r' x y H Q):=by
 intro pins s σ H x y v u Q I rx ry q
 rcases q with q|q
 ·exact h pins s σ H x y v u Q I rx ry q
 ·exact h' pins s σ H x y v u Q I rx ry q
theorem nomark(b:Expr){op:CmpOp}(h:op≠ .In:=by decide)(h2:op≠ .NotIn:=by decide):behindInMarks op b=false:=by
 have e1:(op==CmpOp.In)=false:=by cases op<;>first|rfl|exact absurd rfl h
 have e2:(op==CmpOp.NotIn)=false:=by cases op<;>first|rfl|exact absurd rfl h2
 cases b<;>simp[behindInMarks,e1,e2]
theorem zDC{op:CmpOp}{r:R2}(ho:OpR X (compareOp op) r)(ha:PE X a ta)(hb:PE X b tb)(hm:behindInMarks op b=false):PE X (.Compare a [op] [b] pos) (tOp r ta tb):=by
 intro pins s σ H Q I h
 exact wpAny_Compare1 (binT ha hb I h fun v u s2 x y H2 I2 rx ry q=>ho pins s2 σ H2 x y v u Q I2 rx ry q) hm
def tTest(t:TE):TT:=fun σ H Q=>t σ H fun x H'=>∃k,x= .bl k/\Q k H'
theorem zAP{op:CmpOp}{r:R2}(ho:OpR X (compareOp op) r)(ha:PE X a ta)(hb:PE X b tb)(hm:behindInMarks op b=false):PT X (.Compare a [op] [b] pos) (tTest (tOp r ta tb)):=by
 intro pins s σ H Q I h
 refine wpAny_isTrue_Compare1 (thn (ha pins s σ H _ I h) fun v s1 ⟨x,H1,I1,r1,q1⟩=>thn (hb pins s1 σ H1 _ I1 q1) fun u s2 ⟨y,H2,I2,r2,q2⟩=>
  thn (ho pins s2 σ H2 x y v u _ I2 r1 r2 q2) fun c s3 ⟨z,H3,I3,r3,k,e,q3⟩=>?_) hm
 subst e
 cases r3
 exact wpAny_truthy_bool ⟨H3,I3,q3⟩
def tChain(r r':R2)(ta tb tc:TE):TE:=fun σ H Q=>ta σ H fun x H1=>tb σ H1 fun y H2=>r x y H2 fun z H3=>∃k,z= .bl k/\
 (if k=true then tc σ H3 fun w' H4=>r' y w' H4 Q else Q (.bl false) H3)
theorem zCr{op op':CmpOp}{r r':R2}(ho:OpR X (compareOp op) r)(ho':OpR X (compareOp op') r')(ha:PE X a ta)(hb:PE X b tb)(hc:PE X c tc)
 (hm:lastMarks [op,op'] [b,c]=false:=by with_unfolding_all rfl):PT X (.Compare a [op,op'] [b,c] pos) (tTest (tChain r r' ta tb tc)):=by
 intro pins s σ H Q I h
 refine isTrue_chain (thn (ha pins s σ H _ I h) fun v s1 ⟨x,H1,I1,r1,q1⟩=>test_link (thn (hb pins s1 σ H1 _ I1 q1) fun u s2 ⟨y,H2,I2,r2,q2⟩=>
  thn (ho pins s2 σ H2 x y v u _ I2 r1 r2 q2) fun d s3 ⟨z,H3,I3,r3,k,e,q3⟩=>?_)) hm
 subst e
 cases r3
 refine wpAny_truthy_bool ?_
 cases k with
 |false=>
  obtain⟨k',e',q'⟩:=q3
  cases e'
  exact ite_ff ⟨H3,I3,q'⟩
 |true=>
  refine ite_tt (test_last (thn (hc pins s3 σ H3 _ I3 q3) fun w' s4 ⟨z',H4,I4,r4,q4⟩=>thn (ho' pins s4 σ H4 y z' u w' _ I4 r2 r4 q4) fun d' s5 ⟨z2,H5,I5,r5,k2,e2,q5⟩=>?_))
  subst e2
  cases r5
  exact wpAny_truthy_bool ⟨H5,I5,q5⟩
def TruV(K:PySem.W.Frag)(x:V)(H:Hp)(k:Bool):Prop:=
 match x with
 | .non=>k=false
 | .bl b=>k=b
 | .int i=>k=(i !=0)
 | .str y=>y.length<=sizeLine/\k=((y.length:Int) !=0)
 | .byt y=>y.size<=sizeLine/\k=((y.size:Int) !=0)
 | .ref p=>(∃xs,SqL K H p xs/\k= !xs.isEmpty)\/(∃xs,SqT K H p xs/\k= !xs.isEmpty)\/∃kvs,H p=some (.dK kvs)/\k= !kvs.isEmpty
 |_=>False
theorem zG5{κ:Type}{kvs:List (κ×V)}{vs:List (κ×Value)}(r:KV kvs vs):(!vs.isEmpty)= !kvs.isEmpty:=by
 cases r<;>rfl
theorem zDq{xs:List V}{its:List Value}(r:Vals xs its):(!its.toArray.isEmpty)= !xs.isEmpty:=by
 cases r<;>simp
theorem line63:(sizeLine:Nat)<2^63:=by rw[sizeLine_eq];decide
theorem zMA:TruR X (fun x H Q=>∃k,TruV X.K x H k/\Q k H):=by
 intro pins s σ H x v Q I rx h
 obtain⟨k,e,q⟩:=h
 have hl:=line63
 have hs:sizeLine=16777216:=sizeLine_eq
 cases x with
 |non=>
  cases rx
  have e':k=false:=e
  subst e'
  exact truthy_none ⟨H,I,q⟩
 |bl b=>
  cases rx
  have e':k=b:=e
  subst e'
  exact wpAny_truthy_bool ⟨H,I,q⟩
 |int i=>
  obtain⟨t,rfl⟩:=rx
  have e':k=(i !=0):=e
  subst e'
  exact PySem.P.truthy_int ⟨H,I,q⟩
 |str y=>
  obtain⟨t,rfl⟩:=rx
  obtain⟨hy,e'⟩:y.length<=sizeLine/\k=((y.length:Int) !=0):=e
  subst e'
  exact PySem.P.truthy_str (by omega) ⟨H,I.tok _,q⟩
 |byt y=>
  obtain⟨t,rfl⟩:=rx
  obtain⟨hy,e'⟩:y.size<=sizeLine/\k=((y.size:Int) !=0):=e
  subst e'
  exact PySem.W.truthy_bytes (by omega) ⟨H,I.tok _,q⟩
 |ref p=>
  cases rx
  have e':(∃xs,SqL X.K H p xs/\k= !xs.isEmpty)\/(∃xs,SqT X.K H p xs/\k= !xs.isEmpty)\/∃kvs,H p=some (.dK kvs)/\k= !kvs.isEmpty:=e
  rcases e' with⟨xs,hx,e'⟩|⟨xs,hx,e'⟩|⟨kvs,hx,e'⟩
  ·subst e'
   obtain⟨its,r,pl,hz⟩:=I.list hx
   have hlen:=r.length
   exact wpAny_truthy_list pl.isList (by simp only[List.size_toArray];omega) ⟨H,I.tok _,by rw[zDq r];exact q⟩
  ·subst e'
   obtain⟨its,r,pl,hz⟩:=I.tuple hx
   have hlen:=r.length
   exact truthy_tuple pl (by simp only[List.size_toArray];omega) ⟨H,I.tok _,by rw[zDq r];exact q⟩
  ·subst e'
   obtain⟨hz,hS,vs,r,m⟩:kvs.length<=sizeLine/\(p==sysModules)=false/\∃vs,KV kvs vs/\s.heap.DictOf (mixKind X.prog X.w) p vs:=I.hok p _ hx
   have hlen:kvs.length=vs.length:=Paired.length r
   exact wpAny_truthy_dict hS m (by omega) ⟨H,I.tok _,by rw[zG5 r];exact q⟩
 |_=>exact(show False from e).elim
theorem zJS(ha:PE X a ta)(he:∀whole,isTrue a X.env whole=(do let v<-whole;standAt a.pos;holding [v] (truthy v))):
 PT X a (fun σ H Q=>ta σ H fun x H'=>∃k,TruV X.K x H' k/\Q k H'):=by
 intro pins s σ H Q I h
 exact isTrue_plain (thn (ha pins s σ H _ I h) fun v s1 ⟨x,H1,I1,r1,q1⟩=>zMA pins s1 σ H1 x v Q I1 r1 q1) (he _)
theorem zGy:OpR X (binaryOp .Add) (fun x y H Q=>∃i j,x= .str i/\y= .str j/\i.length+j.length<=sizeLine/\Q (.str (i++j)) H):=by
 intro pins s σ H x y v u Q I rx ry h
 obtain⟨i,j,rfl,rfl,hz,q⟩:=h
 obtain⟨t,rfl⟩:=rx
 obtain⟨t',rfl⟩:=ry
 exact add_str (fun t' tk=>⟨.str (i++j),H,I.tok _,⟨_,rfl⟩,q⟩) hz
theorem vals1{x:V}{us:List Value}(r:Vals [x] us):∃u,us=[u]/\RelV x u:=by
 cases r with
 |cons r1 r2=>cases r2;exact⟨_,rfl,r1⟩
theorem vals2{x y:V}{us:List Value}(r:Vals [x,y] us):∃u w',us=[u,w']/\RelV x u/\RelV y w':=by
 cases r with
 |cons r1 r2=>
  cases r2 with
  |cons r3 r4=>cases r4;exact⟨_,_,rfl,r1,r3⟩
theorem zIy(hc:X.calm=true):CallR X (.builtin "max") (fun xs H Q=>∃i j,xs=[.int i, .int j]/\Q (.int (if j>i then j else i)) H):=by
 intro pins s σ H xs us Q I r h
 obtain⟨i,j,rfl,q⟩:=h
 obtain⟨u,w',rfl,⟨t,rfl⟩,⟨t',rfl⟩⟩:=vals2 r
 refine max_two_ints (I.ok.hd hc) fun h' tk k=>⟨_,H,I.kept k,?_,q⟩
 by_cases hj:j>i
 ·rw[if_pos hj,if_pos hj];exact⟨_,rfl⟩
 ·rw[if_neg hj,if_neg hj];exact⟨_,rfl⟩
theorem zIw(hc:X.calm=true):CallR X (.builtin "min") (fun xs H Q=>∃i j,xs=[.int i, .int j]/\Q (.int (if j<i then j else i)) H):=by
 intro pins s σ H xs us Q I r h
 obtain⟨i,j,rfl,q⟩:=h
 obtain⟨u,w',rfl,⟨t,rfl⟩,⟨t',rfl⟩⟩:=vals2 r
 refine min_two_ints (I.ok.hd hc) fun h' tk k=>⟨_,H,I.kept k,?_,q⟩
 by_cases hj:j<i
 ·rw[if_pos hj,if_pos hj];exact⟨_,rfl⟩
 ·rw[if_neg hj,if_neg hj];exact⟨_,rfl⟩
theorem zI0:CallR X (.type "int") (fun xs H Q=>(∃i,xs=[.int i]/\Q (.int i) H)\/∃k,xs=[.bl k]/\Q (.int (if k then 1 else 0)) H):=by
 intro pins s σ H xs us Q I r h
 rcases h with⟨i,rfl,q⟩|⟨k,rfl,q⟩
 ·obtain⟨u,rfl,t,rfl⟩:=vals1 r
  exact call_int_int ⟨.int i,H,I,⟨_,rfl⟩,q⟩
 ·obtain⟨u,rfl,r1⟩:=vals1 r
  cases r1
  exact call_int_bool ⟨.int (if k then 1 else 0),H,I.tok _,⟨_,rfl⟩,q⟩
end
structure ObjM (h:Heap) (x dx C:Addr) (mA:Str->Option Value):Prop where
 obj:h.get? x=some (PySem.W.instObj C dx)
 ns:h.Ns1 dx mA
 ne:dx≠x
theorem zIA{h:Heap}{dx:Addr}{mA:Str->Option Value}(n:h.Ns1 dx mA):∃od,h.get? dx=some od/\∀name,PySem.W.lookIn name od=some (mA name):=by
 obtain⟨o,es,ep,ho,hd,hk,_,hm⟩:=n
 refine⟨o,ho,fun name=>?_⟩
 have e:=hm name
 unfold nsFind findBy at e
 rw[<-Array.find?_toList]at e
 unfold PySem.W.lookIn
 rw[hd]
 dsimp only
 split
 ·rename_i y q
  rw[q]at e
  exact congrArg some e
 ·rename_i q
  rw[q]at e
  have a:es.toList.any (·.refKey)=false:=by
   rw[List.any_eq_false]
   intro y hy
   obtain⟨z,t,hkey⟩:=hk y (Array.mem_toList_iff.mp hy)
   simp[DictEntry.refKey,hkey]
  have a':¬es.toList.any (·.refKey)=true:=by rw[a];exact Bool.false_ne_true
  rw[if_neg a']
  exact congrArg some e
theorem ObjM.look{h:Heap}{x dx C:Addr}{mA:Str->Option Value}(I:ObjM h x dx C mA):∃od,PySem.W.InstAt h x (PySem.W.instObj C dx) C (some od)/\∀name,PySem.W.lookIn name od=some (mA name):=
 let⟨od,ho,hl⟩:=zIA I.ns
 ⟨od,⟨I.obj,rfl,rfl,ho⟩,hl⟩
section
variable{prog:Program}{w:World}{A:Around}{E:Value->Shared->Prop}{s:Shared}{K:PySem.W.Frag}{x dx C f:Addr}{mA:Str->Option Value}{name:Str}{v:Value}
end
section
variable{P:Program}{w:World}{H H':Hp}{h h':Heap}{a C dx:Addr}{fs fs':List (Str×V)}
theorem zLn(hok:HOk P w H h)(e:H a=some (.ins C dx fs)):∃mA,ObjM h a dx C mA/\(∀f,RelO (fs.lookup f) (mA f))/\PySem.Within mA (fs.map (·.1))/\fs.length<=1000/\H dx=some (.own a):=by
 obtain⟨d,z,ne,ob,mA,n,r,q⟩:=(show ObjOk P w H h a (.ins C dx fs)from hok a _ e)
 exact⟨mA,⟨ob,n,ne⟩,r,q,z,d⟩
end
structure Cls (K:PySem.W.Frag) (C:Addr):Prop where
 pg:PySem.W.plainGet K C Str.empty=true
 hd:PySem.W.hasDictIn K C=true
 po:PySem.W.plainOver K C=true
 sa:PySem.W.findIn K (.ref C) "__setattr__"=some (some (.builtin "object.__setattr__"))
theorem Cls.get{K:PySem.W.Frag}{C:Addr}(c:Cls K C)(f:Str):PySem.W.plainGet K C f=true:=c.pg
section
variable{X:Cx}{pins:List (Addr×Obj)}{σ:St}{H:Hp}{s:Shared}{a C dx:Addr}{fs:List (Str×V)}{f:Str}{v:V}{A:Around}{E:Value->Shared->Prop}
end
section
variable{X:Cx}{o e value:Expr}{f:Str}{pos pos' tpos:Pos}{ta tv:TE}
end
section
variable{X:Cx}{pins:List (Addr×Obj)}{σ:St}{H:Hp}{s:Shared}{A:Around}{E:Value->Shared->Prop}{Q:Value->Shared->Prop}{c:Value}{b:Bool}
inductive TyOf (K:PySem.W.Frag) (H:Hp):V->Value->Prop where
 |non:TyOf K H .non (.type "NoneType")
 |bl (x:Bool):TyOf K H (.bl x) (.type "bool")
 |int (i:Int):TyOf K H (.int i) (.type "int")
 |str (x:Str):TyOf K H (.str x) (.type "str")
 |flt (x:UInt64):TyOf K H (.flt x) (.type "float")
 |lst {a:Addr} {xs:List V} (e:H a=some (.lst xs)):TyOf K H (.ref a) (.type "list")
 |frz {a:Addr} {o:Obj} {xs:List V} (e:H a=some (.frz o (.lst xs))):TyOf K H (.ref a) (.type "list")
 |tup {a:Addr} {xs:List V} (e:H a=some (.tup xs)):TyOf K H (.ref a) (.type "tuple")
 |dK {a:Addr} {kvs:List (Key×V)} (e:H a=some (.dK kvs)):TyOf K H (.ref a) (.type "dict")
 |dT {a:Addr} {kvs:List (List Key×V)} (e:H a=some (.dT kvs)):TyOf K H (.ref a) (.type "dict")
 |ins {a C dx:Addr} {fs:List (Str×V)} (e:H a=some (.ins C dx fs)) (cl:Cls K C) (ha:PySem.W.findIn K (.ref C) "__class__"=some (some (.builtin "object.__class__")))
   (hn:PySem.W.specialIn K (.builtin "object.__class__") "__get__"=some (some (.builtin "getset_descriptor.__get__"))) (htk:PySem.W.takesIn K (.builtin "object.__class__")=some true)
   (hm:PySem.W.mroIn K C (.type "object")=some true):TyOf K H (.ref a) (.ref C)
theorem zII{x:V}{u t:Value}(I:Inv X pins σ H s)(rx:RelV x u)(ty:TyOf X.K H x t)(e:PySem.W.kitOne X.K t c=some b)(h:∀tk,Q (.bool b) {s with toks:=tk}):
 wpAny (model X.prog X.w) A (call (.builtin "isinstance") [u,c]) Q E s:=by
 cases ty with
 |non=>cases(show u=Value.none from rx);exact PySem.W.kia_one PySem.W.kitx_none I.kIn True.intro e (fun z=>nomatch z) h
 |bl y=>cases(show u=Value.bool y from rx);exact PySem.W.kia_one PySem.W.kitx_bool I.kIn True.intro e (fun z=>nomatch z) h
 |int i=>obtain⟨t,q⟩:=(show∃t,u=Value.int i t from rx);cases q;exact PySem.W.kia_one PySem.W.kitx_int I.kIn True.intro e (fun z=>nomatch z) h
 |str y=>obtain⟨t,q⟩:=(show∃t,u=Value.str y t from rx);cases q;exact PySem.W.kia_one PySem.W.kitx_str I.kIn True.intro e (fun z=>nomatch z) h
 |flt y=>obtain⟨t,q⟩:=(show∃t,u=Value.float y t from rx);cases q;exact PySem.W.kia_one PySem.W.kitx_float I.kIn True.intro e (fun z=>nomatch z) h
 | @lst a xs ea=>
   cases(show u=Value.ref a from rx)
   obtain⟨_,_,n,_,h1⟩:=(show ObjOk X.prog X.w H s.heap a (.lst xs)from I.hok a _ ea)
   exact PySem.W.kia_one PySem.W.kitx_list I.kIn ⟨_,h1,rfl⟩ e (fun z=>nomatch z) h
 | @frz a ob xs ea=>
   cases(show u=Value.ref a from rx)
   obtain⟨_,_,_,n,_,h1⟩:=(show ObjOk X.prog X.w H s.heap a (.frz ob (.lst xs))from I.hok a _ ea)
   exact PySem.W.kia_one PySem.W.kitx_list I.kIn ⟨_,h1,rfl⟩ e (fun z=>nomatch z) h
 | @tup a xs ea=>
   cases(show u=Value.ref a from rx)
   obtain⟨_,_,_,p⟩:=(show ObjOk X.prog X.w H s.heap a (.tup xs)from I.hok a _ ea)
   obtain⟨o,h1,h2,_⟩:=p
   exact PySem.W.kia_one PySem.W.kitx_tuple I.kIn ⟨o,h1,h2⟩ e (fun z=>nomatch z) h
 | @dK a kvs ea=>
   cases(show u=Value.ref a from rx)
   obtain⟨_,_,vs,_,p⟩:=(show ObjOk X.prog X.w H s.heap a (.dK kvs)from I.hok a _ ea)
   obtain⟨o,es,ep,h1,h2,_⟩:=p
   exact PySem.W.kia_one PySem.W.kitx_dict I.kIn ⟨o,h1,h2.1⟩ e (fun z=>nomatch z) h
 | @dT a kvs ea=>
   cases(show u=Value.ref a from rx)
   obtain⟨_,_,xs,_,o,es,ep,h1,h2,_⟩:=(show ObjOk X.prog X.w H s.heap a (.dT kvs)from I.hok a _ ea)
   exact PySem.W.kia_one PySem.W.kitx_dict I.kIn ⟨o,h1,h2.1⟩ e (fun z=>nomatch z) h
 | @ins a C dx fs ea cl ha hn htk hm=>
   cases(show u=Value.ref a from rx)
   obtain⟨mA,O,_⟩:=zLn I.hok ea
   obtain⟨od,J,_⟩:=O.look
   exact PySem.W.kia_one (PySem.W.kitx_own (cl.get _) cl.hd ha hn htk hm) I.kIn J e (fun z=>nomatch z) h
end
structure Room (k:Nat) (A:Around):Prop where
 hd:A.handled=none
 dp:A.depth+3*k+5<recursionLimit
 un:A.units+16*k+200<cLine
 gd:A.guards=some []
theorem Room.mono{j k:Nat}{A:Around}(r:Room k A)(h:j<=k):Room j A:=⟨r.hd,by have:=r.dp;omega,by have:=r.un;omega,by first|exact r.gd|simpa[Around.deeper,Around.under,Code.guards,Code.isGuard,guardIds,pushGuards]using r.gd⟩
theorem Room.deeper{k:Nat}{A:Around}(r:Room (k+1) A)(env:Env):Room k (A.deeper env):=
 ⟨r.hd,by have:=r.dp;show A.depth+1+3*k+5<_;omega,by have:=r.un;show A.units+3+16*k+200<_;omega,by first|exact r.gd|simpa[Around.deeper,Around.under,Code.guards,Code.isGuard,guardIds,pushGuards]using r.gd⟩
theorem Room.depth{k:Nat}{A:Around}(r:Room k A):A.depth<recursionLimit:=by have:=r.dp;omega
theorem Room.units{k:Nat}{A:Around}(r:Room k A):A.units+64<cLine:=by have:=r.un;omega
theorem Room.units0{k:Nat}{A:Around}(r:Room k A):A.units<cLine:=by have:=r.un;omega
def tNil:TA:=fun _ H Q=>Q [] H
def tCons(ta:TE)(tr:TA):TA:=fun σ H Q=>ta σ H fun x H1=>tr σ H1 fun xs H2=>Q (x::xs) H2
section
variable{X:Cx}{e:Expr}{es:List Expr}{te:TE}{t:TA}{pos:Pos}
theorem zAB:PA X [] tNil:=fun _ _ _ _ H Q I h=>Calls.spliced_nil ⟨[],H,I, .nil,h⟩
theorem zAA(ha:PE X e te)(hr:PA X es t)(hs:starEach (e::es) X.env=(false,eval e X.env)::starEach es X.env:=by rfl):PA X (e::es) (tCons te t):=by
 intro pos pins s σ H Q I h
 rw[hs]
 show wpAny _ _ (spliced ((false,eval e X.env)::backTo pos (starEach es X.env))) _ _ s
 refine Calls.spliced_cons (thn (ha pins s σ H _ I h) fun u s1 ⟨x,H1,I1,r1,q1⟩=>?_)
 exact thn (hr pos pins s1 σ H1 _ I1 q1) fun us s2 ⟨xs,H2,I2,r2,q2⟩=>⟨x::xs,H2,I2, .cons r1 r2,q2⟩
def tTup(t:TA):TE:=fun σ H Q=>t σ H fun xs H1=>xs.length<=sizeLine/\∀p,H1 p=none->Q (.ref p) (upd H1 p (.tup xs))
def tLst(t:TA):TE:=fun σ H Q=>t σ H fun xs H1=>xs.length<=sizeLine/\∀p,H1 p=none->Q (.ref p) (upd H1 p (.lst xs))
theorem zA2{x1}(h:PA X es t):PE X (.Tuple es x1 pos) (tTup t):=by
 intro pins s σ H Q I hq
 refine wpAny_Tuple_spliced (thn (h pos pins s σ H _ I hq) fun us s1 ⟨xs,H1,I1,r,z,q⟩=>⟨by rw[<-r.length];exact z,?_⟩)
 have hf:H1 s1.heap.objs.size=none:=I1.hok.fresh (Nat.le_refl _)
 refine⟨.ref s1.heap.objs.size,upd H1 s1.heap.objs.size (.tup xs),I1.laid (t':=s1.toks) (fun b u e=>Heap.get?_push_of_some _ e) (Nat.le_refl _) ?_,rfl,q _ hf⟩
 exact⟨z,us,r,⟨_,Heap.get?_push_size _ rfl,rfl,_,rfl⟩⟩
theorem zAe(h:PA X es t):PE X (.List es pos) (tLst t):=by
 intro pins s σ H Q I hq
 refine wpAny_List_spliced (thn (h pos pins s σ H _ I hq) fun us s1 ⟨xs,H1,I1,r,z,q⟩=>⟨by rw[<-r.length];exact z,?_⟩)
 have hf:H1 s1.heap.objs.size=none:=I1.hok.fresh (Nat.le_refl _)
 refine⟨.ref s1.heap.objs.size,upd H1 s1.heap.objs.size (.lst xs),I1.laid (t':=s1.toks) (fun b u e=>Heap.get?_push_of_some _ e) (Nat.le_refl _) ?_,rfl,q _ hf⟩
 exact⟨z,us,0,r,Heap.get?_push_size _ rfl⟩
end
abbrev Sp:=List V->Hp->VK->XK->Prop
abbrev CXT:=List Env->Hp->Shared->XK->Value->Shared->Prop
structure Env0 (P:Program) (w:World) (K:PySem.W.Frag) (mg:Str->Option Value) (base:Heap) (A:Around) (outer:List Env) (s:Shared) (H:Hp):Prop where
 frames:A.frames=some outer
 mod:Mod K mg base
 bs:∀b o,base.get? b=some o->s.heap.get? b=some o/\H b=none
 bsz:base.objs.size<=s.heap.objs.size
 funs:s.heap.FunFrames base outer
 frf:∀b∈frs outer,H b=none
 hok:HOk P w H s.heap
 bare:AllBare s.gens
def CE(outer:List Env)(P:Program)(w:World)(H:Hp)(s:Shared)(Q:VK)(u:Value)(s':Shared):Prop:=
 ∃v H',s'.os=s.os/\AllBare s'.gens/\Un (frs outer) [] H H' s.heap s'.heap/\HOk P w H' s'.heap/\RelV v u/\Q v H'
def CR(CX:CXT)(outer:List Env)(P:Program)(w:World)(H:Hp)(s:Shared)(Q:VK)(E:XK)(r:Result)(s':Shared):Prop:=
 match r with
 | .ok (.ret u)=>CE outer P w H s Q u s'
 | .ok _=>False
 | .error e=>CX outer H s E e s'
structure FnOk (P:Program) (w:World) (K:PySem.W.Frag) (mg:Str->Option Value) (base:Heap) (CX:CXT) (k:Nat) (f:Addr) (fd:FuncData) (ps:List Str) (sp:Sp):Prop where
 len:∀vs H Q E,sp vs H Q E->vs.length=ps.length
 run:∀ (A:Around) (outer:List Env) (s:Shared) (H:Hp) (args:Args) (us:List Value) (vs:List V) (Q:VK) (E:XK),Room k A->Env0 P w K mg base A outer s H->BindsTo s fd args (ps.zip us)->Vals vs us->sp vs H Q E->
  codeAny (model P w) A (.call (.ref f) args) (CR CX outer P w H s Q E) s
theorem FnOk.mono{P:Program}{w:World}{K:PySem.W.Frag}{mg:Str->Option Value}{base:Heap}{CX:CXT}{j k:Nat}{f:Addr}{fd:FuncData}{ps:List Str}{sp:Sp}(F:FnOk P w K mg base CX j f fd ps sp)(h:j<=k):
 FnOk P w K mg base CX k f fd ps sp:=⟨F.len,fun A outer s H args us vs Q E hr=>F.run A outer s H args us vs Q E (hr.mono h)⟩
theorem FnOk.imp{P:Program}{w:World}{K:PySem.W.Frag}{mg:Str->Option Value}{base:Heap}{CX:CXT}{k:Nat}{f:Addr}{fd:FuncData}{ps:List Str}{sp sp':Sp}(F:FnOk P w K mg base CX k f fd ps sp)
 (h:∀vs H Q E,sp' vs H Q E->sp vs H Q E):FnOk P w K mg base CX k f fd ps sp':=
 ⟨fun vs H Q E q=>F.len vs H Q E (h _ _ _ _ q),fun A outer s H args us vs Q E hr he hb hv hs=>F.run A outer s H args us vs Q E hr he hb hv (h _ _ _ _ hs)⟩
section
variable{X:Cx}{pins:List (Addr×Obj)}{σ:St}{H:Hp}{s s':Shared}
theorem Inv.env0(I:Inv X pins σ H s):Env0 X.prog X.w X.K X.mg X.base X.A X.stack s H:=
 ⟨I.ok.frames,I.ok.mod,I.bs,Nat.le_trans I.ok.bsz I.sz,I.stack,I.stkFree,I.hok,I.bare⟩
theorem Inv.after{Q:VK}{u:Value}(I:Inv X pins σ H s)(h:CE X.stack X.prog X.w H s Q u s'):EP X pins σ Q u s':=by
 obtain⟨v,H',os,bare,un,hok,r,q⟩:=h
 obtain⟨hh,g,d,t,os'⟩:=s'
 obtain rfl:os'=s.os:=os
 exact⟨v,H',I.call (h':=hh) (g':=g) (d':=d) (t':=t) (ch:=[]) un hok bare (fun b z=>absurd z (by simp)),r,q⟩
end
def tCall(sp:Sp)(dvs:List V)(E:XK)(t:TA):TE:=fun σ H Q=>t σ H fun vs H1=>sp (vs++dvs) H1 Q E
def Binds(K:PySem.W.Frag)(fd:FuncData)(ps:List Str)(ds:List Value):Prop:=
 ∀ (s:Shared) (us:List Value),K.In s.heap->(us++ds).length=ps.length->BindsTo s fd ⟨us,[]⟩ (ps.zip (us++ds))
theorem Binds.all{K:PySem.W.Frag}{fd:FuncData}{ps:List Str}(h:∀us:List Value,us.length=ps.length->bindArgs fd ⟨us,[]⟩=pure (ps.zip us)):Binds K fd ps []:=fun s us _ hl=>by
 rw[List.append_nil]at hl⊢
 exact .of_eq (h us hl)
def Passes(CX:CXT)(X:Cx)(E:XK):Prop:=∀ (pins:List (Addr×Obj)) (σ:St) (H:Hp) (s:Shared) (e:Value) (s':Shared),Inv X pins σ H s->CX X.stack H s E e s'->X.xe e s'
section
variable{X:Cx}{CX:CXT}{k:Nat}{f C:Addr}{fd:FuncData}{ps:List Str}{sp:Sp}{dvs:List V}{ds:List Value}{E:XK}{x m:Str}{p pos apos:Pos}{e o:Expr}{es:List Expr}{ta:TE}{t:TA}
theorem zMf{pins:List (Addr×Obj)}{σ:St}{H:Hp}{s:Shared}{Q:VK}{us:List Value}{vs:List V}(F:FnOk X.prog X.w X.K X.mg X.base CX k f fd ps sp)(hr:Room k X.A)(hb:Binds X.K fd ps ds)(hd:Vals dvs ds)(hx:Passes CX X E)
 (I:Inv X pins σ H s) (r:Vals vs us) (h:sp (vs++dvs) H Q E):wpAny (model X.prog X.w) X.A (call (.ref f) us) (EP X pins σ Q) X.xe s:=by
 have r2:Vals (vs++dvs) (us++ds):=r.append hd
 have hl:(us++ds).length=ps.length:=by rw[<-r2.length];exact F.len _ _ _ _ h
 refine wpAny_call (codeAny_mono (F.run X.A X.stack s H ⟨us,[]⟩ (us++ds) (vs++dvs) Q E hr I.env0 (hb s us I.kIn hl) r2 h) fun r s' hq=>?_)
 cases r with
 |error e=>exact hx pins σ H s e s' I hq
 |ok fl=>
  cases fl with
  |ret u=>exact I.after hq
  |next=>exact False.elim hq
  |brk=>exact False.elim hq
  |cont=>exact False.elim hq
theorem zLW(F:FnOk X.prog X.w X.K X.mg X.base CX k f fd ps sp)(hr:Room k X.A)(hg:Gl X x)(hm:X.mg x=some (.ref f))(hk:PySem.W.keepIn X.K (.ref f)=true)(hb:Binds X.K fd ps ds)(hd:Vals dvs ds)(hx:Passes CX X E)
 (ha:PA X (e::es) t) (hdb:(x==("__debug__":Str))=false:=by decide) (he:starEach (e::es) X.env=(false,eval e X.env)::starEach es X.env:=by rfl) (hpl:(backTo pos (starEach es X.env)).any (·.1)=false:=by rfl):
 PE X (.Call (.Name x p) (e::es) [] pos) (tCall sp dvs E t):=by
 intro pins s σ H Q I h
 refine wpAny_Call_Name_kw (zDJ I hg hm ?_ hdb)
 refine PySem.W.callWith_K (h₀:=X.base) I.ok.mod.kin hk (thn (ha pos pins s σ H _ I h) fun us s1 ⟨vs,H1,I1,r,q⟩=>⟨I1.kIn,?_⟩) he hpl
 exact zMf F hr hb hd hx I1 r q
end
section
variable{X:Cx}{CX:CXT}{k:Nat}{f C:Addr}{fd:FuncData}{ps ks:List Str}{sp:Sp}{E:XK}{x m:Str}{p pos apos kpos:Pos}{e o:Expr}{es:List Expr}{kws:List Keyword}{te ta:TE}{t tk:TA}{nm:Option Str}
variable{g:List Value->List Value->List Value}{gV:List V->List V->List V}
end
structure FnScope (N P:List Str) (sc:Scope):Prop where
 kind:sc.kind= .function
 co:sc.isCoroutine=false
 gen:sc.isGenerator=false
 nd:N.Nodup
 pre:N.take P.length=P
 par:∀x∈P,sc.names.lookup x=some .local\/sc.names.lookup x=some .cell
 nofree:∀y∈sc.names,y.2≠ .free
theorem zFP{kindOf:Str->Option NameKind}{x:Str}:∀ {binds:List (Str×Value)} {m:Str->Option Value},(∀v,(x,v)∉binds)->bindL kindOf binds m x=m x
 |[],_,_=>rfl
 |(n,v)::r,m,h=>by
  unfold bindL
  rw[zFP fun w hw=>h w (List.mem_cons_of_mem _ hw)]
  split
  ·have:x≠n:=by rintro rfl;exact h v List.mem_cons_self
   simp[this]
  ·rfl
theorem zFR{kindOf:Str->Option NameKind}{x:Str}:∀ {binds:List (Str×Value)} {m:Str->Option Value},(∀v,(x,v)∉binds)->bindC kindOf binds m x=m x
 |[],_,_=>rfl
 |(n,v)::r,m,h=>by
  unfold bindC
  rw[zFR fun w hw=>h w (List.mem_cons_of_mem _ hw)]
  split
  ·rfl
  ·have:x≠n:=by rintro rfl;exact h v List.mem_cons_self
   simp[this]
theorem zFQ{kindOf:Str->Option NameKind}{x:Str}{v:Value}:∀ {P:List Str} {vs:List Value} {i:Nat} {m:Str->Option Value},P.Nodup->P[i]? =some x->vs[i]? =some v->kindOf x=some .local->
 bindL kindOf (P.zip vs) m x=some v
 |[],_,_,_,_,h,_,_=>by simp at h
 |_::_,[],_,_,_,_,h,_=>by simp at h
 |p::P,w::vs,0,m,nd,h1,h2,hk=>by
  simp at h1 h2;subst h1;subst h2
  show bindL kindOf ((p,w)::P.zip vs) m p=_
  unfold bindL
  rw[zFP fun v hv=>(List.nodup_cons.mp nd).1 (List.of_mem_zip hv).1,if_pos hk]
  simp
 |p::P,w::vs,i+1,m,nd,h1,h2,hk=>by
  show bindL kindOf ((p,w)::P.zip vs) m x=_
  unfold bindL
  exact zFQ (i:=i) (List.nodup_cons.mp nd).2 (by simpa using h1) (by simpa using h2) hk
theorem zFS{kindOf:Str->Option NameKind}{x:Str}{v:Value}:∀ {P:List Str} {vs:List Value} {i:Nat} {m:Str->Option Value},P.Nodup->P[i]? =some x->vs[i]? =some v->kindOf x≠some .local->
 bindC kindOf (P.zip vs) m x=some v
 |[],_,_,_,_,h,_,_=>by simp at h
 |_::_,[],_,_,_,_,h,_=>by simp at h
 |p::P,w::vs,0,m,nd,h1,h2,hk=>by
  simp at h1 h2;subst h1;subst h2
  show bindC kindOf ((p,w)::P.zip vs) m p=_
  unfold bindC
  rw[zFR fun v hv=>(List.nodup_cons.mp nd).1 (List.of_mem_zip hv).1,if_neg hk]
  simp
 |p::P,w::vs,i+1,m,nd,h1,h2,hk=>by
  show bindC kindOf ((p,w)::P.zip vs) m x=_
  unfold bindC
  exact zFS (i:=i) (List.nodup_cons.mp nd).2 (by simpa using h1) (by simpa using h2) hk
def start(N:List Str)(vs:List V):St:=vs.map some++List.replicate (N.length-vs.length) none
def cxOf(CX:CXT)(P:Program)(w:World)(K:PySem.W.Frag)(mg:Str->Option Value)(base:Heap)(N:List Str)(qual:Str)(scope:Scope)(f:Addr)(cd:Value)(A:Around)(outer:List Env)(s:Shared)(H:Hp)(E:XK):Cx where
 prog:=P
 w:=w
 K:=K
 mg:=mg
 base:=base
 A:=A.deeper (envOfC qual scope s.heap.objs.size f cd)
 N:=N
 s₀:=s
 H₀:=H
 env:=envOfC qual scope s.heap.objs.size f cd
 outer:=outer
 stack:=envOfC qual scope s.heap.objs.size f cd::outer
 ex:=[]
 calm:=true
 fn:=fun _=>true
 pn:=[]
 xe:=fun e s'=>wpAny (model P w) (A.deeper (envOfC qual scope s.heap.objs.size f cd)) (leaving (envOfC qual scope s.heap.objs.size f cd) e) (fun _ s''=>CX outer H s E e s'') (fun e' s''=>CX outer H s E e' s'') s'
theorem zGh{sc:Scope}{n:Nat}{x:Str}(h:sc.names.lookup x=some .cell):∃c,(cellsFrom n sc.names []).lookup x=some c:=by
 have q:=PySem.W.cellsFrom_some sc.names n [] (.inl h)
 exact Option.isSome_iff_exists.mp q
theorem zIK{CX:CXT}{P:Program}{w:World}{K:PySem.W.Frag}{mg:Str->Option Value}{base:Heap}{N ps:List Str}{qual:Str}{scope:Scope}{f:Addr}{cd:Value}{A:Around}{outer:List Env}{s s1:Shared}{H:Hp}{E:XK}{us:List Value}{vs:List V}
 (S:FnScope N ps scope) (hd:A.handled=none) (e0:Env0 P w K mg base A outer s H) (hl:vs.length=ps.length) (r:Vals vs us)
 (x:InCallC s s.heap.objs.size (bindL (envOfC qual scope s.heap.objs.size f cd).kindOf (ps.zip us) fun _=>none) (cellsFrom (s.heap.objs.size+1) scope.names []) (bindC (envOfC qual scope s.heap.objs.size f cd).kindOf (ps.zip us) fun _=>none) s1):
 Inv (cxOf CX P w K mg base N qual scope f cd A outer s H E) [] (start N vs) H s1:=by
 have hpl:ps.length<=N.length:=by have:=congrArg List.length S.pre;rw[List.length_take]at this;omega
 obtain⟨h1,tk,rfl,hk⟩:=x.done
 have noA:∀b:Addr,b∉(cxOf CX P w K mg base N qual scope f cd A outer s H E).ex:=fun b z=>absurd (show b∈([]:List Addr)from z) (by simp)
 refine⟨⟨e0.mod,S.kind,rfl,rfl,Nat.le_refl _,fun y z c h1 h2=>?_,fun y hy=>?_,fun y c _ h=>?_,fun _=>hd,Around.frames_deeper e0.frames, .inr ⟨rfl,rfl⟩,fun b z=>absurd z (noA b),e0.bs,e0.bsz,fun b _ _=>noA b,fun b z=>absurd z (noA b),e0.funs,e0.frf⟩,
  rfl,e0.bare,Un.kept hk,⟨_,x.toInCall.ns,fun i y v h1 h2 h3=>?_⟩,fun y c h=>⟨_,x.cell y c h⟩,e0.hok.fresh (Nat.le_refl _),fun y c h=>?_,fun p hp=>absurd (show p∈([]:List (Addr×Obj))from hp) (by simp),e0.hok.kept hk,?_⟩
 ·exact name_of_addr x.apart (PySem.mem_of_lookup h1) (PySem.mem_of_lookup h2)
 ·have hy:scope.names.lookup y=some .cell\/scope.names.lookup y=some .free:=hy
  rcases hy with hy|hy
  ·exact zGh hy
  ·exact absurd rfl (S.nofree _ (PySem.mem_of_lookup hy))
 ·exact Nat.le_of_lt (x.above y c (PySem.mem_of_lookup h))
 ·have hi:i<vs.length:=by
   unfold start at h2
   by_cases hi:i<vs.length
   ·exact hi
   ·rw[List.getElem?_append_right (by simpa using hi)]at h2
    rw[List.getElem?_replicate]at h2
    split at h2<;>cases h2
  have ha:vs[i]? =some v:=by
   unfold start at h2
   rw[List.getElem?_append_left (by simpa using hi),List.getElem?_map]at h2
   cases e:vs[i]? with
   |none=>rw[e]at h2;cases h2
   |some a=>rw[e]at h2;cases h2;rfl
  obtain⟨u,hu,rv⟩:=r.get ha
  have hp:ps[i]? =some y:=by
   rw[<-S.pre,List.getElem?_take_of_lt (by omega)];exact h1
  have ndP:ps.Nodup:=by rw[<-S.pre];exact S.nd.sublist (List.take_sublist _ _)
  refine⟨u,rv,?_⟩
  rcases S.par y (List.mem_of_getElem? hp)with k|k
  ·exact .inl ⟨k,zFQ ndP hp hu k⟩
  ·obtain⟨c,e⟩:=zGh (n:=s.heap.objs.size+1) k
   refine .inr ⟨.inl k,c,e,?_⟩
   have q:=x.cell y c e
   rw[zFS ndP hp hu (by show scope.names.lookup y≠_;rw[k];decide)]at q
   exact q
 ·exact e0.hok.fresh (Nat.le_of_lt (x.above y c (PySem.mem_of_lookup h)))
 ·unfold start
  show _=N.length
  rw[List.length_append,List.length_map,List.length_replicate]
  omega
theorem zNP{CX:CXT}{P:Program}{w:World}{K:PySem.W.Frag}{mg:Str->Option Value}{base:Heap}{k:Nat}{f:Addr}{name qual:Str}{params:Arguments}{body:List Stmt}{scope:Scope}{dV kV doc pm cdv ct oc:Value}{an od:Option Addr}
 {osl:Array (Option Value)} {N ps:List Str} {sp:Sp} (lk:K.lookup f=some ⟨oc,od, .func (PySem.W.fnOf name qual params body scope dV kV doc pm an cdv ct),osl⟩) (hcd:PySem.W.codeIn K cdv qual=true) (S:FnScope N ps scope)
 (len:∀vs H Q E,sp vs H Q E->vs.length=ps.length)
 (hbody:∀ (A:Around) (outer:List Env) (s:Shared) (H:Hp) (vs:List V) (Q:VK) (E:XK),Room k (A.deeper (envOfC qual scope s.heap.objs.size f cdv))->sp vs H Q E->
   ∃t,PSs (cxOf CX P w K mg base N qual scope f cdv A outer s H E) body t/\t {nx:=fun _ H'=>Q .non H',rt:=Q} (start N vs) H):
 FnOk P w K mg base CX (k+1) f (PySem.W.fnOf name qual params body scope dV kV doc pm an cdv ct) ps sp:=by
 refine⟨len,fun A outer s H args us vs Q E hr e0 hb r hsp=>?_⟩
 have hl:=len _ _ _ _ hsp
 have KX:K.In s.heap:=e0.mod.kin.keeps fun b o e=>(e0.bs b o e).1
 have lim:s.heap.NoLimit:=e0.mod.nolimit.keeps fun b o e=>(e0.bs b o e).1
 have hkind:∀y∈ps.zip us,scope.names.lookup y.1=some .local\/(scope.names.lookup y.1=some .cell/\((cellsFrom (s.heap.objs.size+1) scope.names []).lookup y.1).isSome=true):=fun⟨n,v⟩ hy=>by
  rcases S.par n (List.of_mem_zip hy).1 with q|q
  ·exact .inl q
  ·exact .inr ⟨q,PySem.W.cellsFrom_some _ _ _ (.inl q)⟩
 refine codeAny_call_function hr.depth (KX _ _ lk) rfl S.co S.gen rfl (PySem.W.codeRec_of KX hcd) (hb _ _ _ _ ?_)
 refine wpAny_newFunctionEnv_cells S.kind hkind fun env he s1 x=>?_
 subst he
 refine⟨lim.keeps x.toInCall.keep,codeAny_func ?_⟩
 obtain⟨t,ht,hq⟩:=hbody A outer s H vs Q E (hr.deeper _) hsp
 have I:Inv (cxOf CX P w K mg base N qual scope f cdv A outer s H E) [] (start N vs) H s1:=zIK S hr.hd e0 hl r x
 refine wpAny_mono (ht [] s1 (start N vs) H _ I hq) (fun fl s' hs=>?_) fun e s' hs=>hs
 have fin:∀ {σ':St} {H':Hp} {v:V} {u:Value},Inv (cxOf CX P w K mg base N qual scope f cdv A outer s H E) [] σ' H' s'->RelV v u->Q v H'->CE outer P w H s Q u s':=
  fun{σ' H' v u} J rv q=>⟨v,H',J.os,J.bare,J.base,J.hok,rv,q⟩
 cases fl with
 |ret u=>
  obtain⟨v,σ',H',J,rv,q⟩:=hs
  exact fin J rv q
 |next=>
  obtain⟨σ',H',J,q⟩:=hs
  exact fin (v:=V.non) (u:=Value.none) J rfl q
 |brk=>
  obtain⟨_,_,_,q⟩:=hs
  exact False.elim q
 |cont=>
  obtain⟨_,_,_,q⟩:=hs
  exact False.elim q
section
variable{X:Cx}{x:Str}{p pos:Pos}{e:Expr}{es:List Expr}{t:TA}{id T:String}{r:List V->Hp->VK->Prop}
def tCB(r:List V->Hp->VK->Prop)(t:TA):TE:=fun σ H Q=>t σ H fun vs H1=>r vs H1 Q
theorem zAM(hc:CallR X (.builtin id) r)(hg:Gl X x)(hm:X.mg x=none)(hv:bootBuiltins x=some (.builtin id))(ha:PA X (e::es) t)(hn:x≠"__name__":=by decide)(hdb:(x==("__debug__":Str))=false:=by decide)
 (he:starEach (e::es) X.env=(false,eval e X.env)::starEach es X.env:=by rfl) (hpl:(backTo pos (starEach es X.env)).any (·.1)=false:=by rfl):PE X (.Call (.Name x p) (e::es) [] pos) (tCB r t):=by
 intro pins s σ H Q I h
 refine wpAny_Call_Name_kw (zBv I hg hm hv ?_ hn hdb)
 exact PyProof.Rows.callWith_builtin1 (thn (ha pos pins s σ H _ I h) fun us s1 ⟨vs,H1,I1,r1,q1⟩=>hc pins s1 σ H1 vs us Q I1 r1 q1) he hpl
theorem zBf(hc:CallR X (.type T) r)(hg:Gl X x)(hm:X.mg x=none)(hv:bootBuiltins x=some (.type T))(ha:PA X (e::es) t)(hn:x≠"__name__":=by decide)(hdb:(x==("__debug__":Str))=false:=by decide)
 (he:starEach (e::es) X.env=(false,eval e X.env)::starEach es X.env:=by rfl) (hpl:(backTo pos (starEach es X.env)).any (·.1)=false:=by rfl):PE X (.Call (.Name x p) (e::es) [] pos) (tCB r t):=by
 intro pins s σ H Q I h
 refine wpAny_Call_Name_kw (zBv I hg hm hv ?_ hn hdb)
 exact PyProof.Rows.callWith_type1 (thn (ha pos pins s σ H _ I h) fun us s1 ⟨vs,H1,I1,r1,q1⟩=>hc pins s1 σ H1 vs us Q I1 r1 q1) he hpl
end
end L2
namespace HT
open PySem PyProof.Rows
section
open PySem.SeqAt
open PySem.AutoSeq1 (wpAny_loadPart')
open PySem.MeetsSeq PySem.MeetsSeq2 PySem.MeetsSeq3
end
section
variable{prog:Program}{w:World}{A:Around}{E:Value->Shared->Prop}{s:Shared}
def sIx(n d:Nat):Option Int->Nat
 |none=>d
 |some v=>if v<0 then(v+(n:Int)).toNat else min v.toNat n
theorem sIx_none(n d:Nat):sIx n d none=d:=rfl
theorem sIx_nat(n d k:Nat):sIx n d (some (k:Int))=min k n:=by
 show(if(k:Int)<0 then((k:Int)+(n:Int)).toNat else min (k:Int).toNat n)=min k n
 rw[if_neg (by omega),Int.toNat_natCast]
theorem sIx_le(n d:Nat)(hd:d<=n)(o:Option Int):sIx n d o<=n:=by
 cases o with
 |none=>exact hd
 |some v=>
  show(if v<0 then(v+(n:Int)).toNat else min v.toNat n)<=n
  by_cases hv:v<0
  ·rw[if_pos hv];omega
  ·rw[if_neg hv];exact Nat.min_le_right _ _
end
end HT
namespace L2
open PySem PySem.Spec PyProof.Rows
abbrev TO:=St->Hp->(Option Int->Hp->Prop)->Prop
def PO(X:Cx)(e:Option Expr)(t:TO):Prop:=
 ∀ (pins:List (Addr×Obj)) (s:Shared) (σ:St) (H:Hp) (Q:Option Int->Hp->Prop),Inv X pins σ H s->t σ H Q->
   wpAny (model X.prog X.w) X.A (evalPart e X.env) (fun u s'=>∃o H',Inv X pins σ H' s'/\IsPart u o/\Q o H') X.xe s
def tNoPart:TO:=fun _ H Q=>Q none H
def tPart(t:TE):TO:=fun σ H Q=>t σ H fun x H1=>∃i,x= .int i/\Q (some i) H1
theorem zG6{ns:List Int}:∀ {us:List Value},Vals (ns.map V.int) us->IntsAre us ns:=by
 induction ns with
 |nil=>intro us r;rw[List.map_nil]at r;cases r;exact .nil
 |cons n ns ih=>
  intro us r
  rw[List.map_cons]at r
  cases r with
  |cons r1 r2=>
   obtain⟨t,e⟩:=r1
   subst e
   exact .cons n t (ih r2)
section
variable{X:Cx}{e:Expr}{te:TE}{lo hi:Option Expr}{tl th:TO}{pos p2:Pos}
theorem zCD:PO X none tNoPart:=by
 intro pins s σ H Q I h
 rw[evalPart_none]
 exact wpAny_pure ⟨none,H,I, .none,h⟩
theorem zCC(h:PE X e te):PO X (some e) (tPart te):=by
 intro pins s σ H Q I hw
 rw[evalPart_some]
 refine thn (h pins s σ H _ I hw) fun u s1 ⟨x,H1,I1,r1,q1⟩=>?_
 obtain⟨i,rfl,q⟩:=q1
 obtain⟨t,rfl⟩:=r1
 exact⟨some i,H1,I1, .int i t,q⟩
def SlR(X:Cx)(r:V->Option Int->Option Int->Hp->VK->Prop):Prop:=
 ∀ (pins:List (Addr×Obj)) (s:Shared) (σ:St) (H:Hp) (x:V) (v vl vu:Value) (lo hi:Option Int) (sl:Addr) (Q:VK),Inv X pins σ H s->RelV x v->s.heap.IsSliceOf sl vl vu .none->IsPart vl lo->IsPart vu hi->r x lo hi H Q->
   ∃T id,typeLookup (.type T) "__getitem__"=pure (some (.builtin id))/\s.TypeIs v T/\wpAny (model X.prog X.w) X.A (getItem v (.ref sl)) (EP X pins σ Q) X.xe s
theorem SlR.or{r r':V->Option Int->Option Int->Hp->VK->Prop}(h:SlR X r)(h':SlR X r'):SlR X (fun x lo hi H Q=>r x lo hi H Q\/r' x lo hi H Q):=by
 intro pins s σ H x v vl vu lo hi sl Q I rx hs pl pu q
 rcases q with q|q
 ·exact h pins s σ H x v vl vu lo hi sl Q I rx hs pl pu q
 ·exact h' pins s σ H x v vl vu lo hi sl Q I rx hs pl pu q
def tSl(r:V->Option Int->Option Int->Hp->VK->Prop)(te:TE)(tl th:TO):TE:=fun σ H Q=>te σ H fun x H1=>tl σ H1 fun l H2=>th σ H2 fun u H3=>r x l u H3 Q
theorem zBl{r:V->Option Int->Option Int->Hp->VK->Prop}(hr:SlR X r)(he:PE X e te)(hl:PO X lo tl)(hu:PO X hi th):PE X (.Subscript e (.Slice lo hi none p2) pos) (tSl r te tl th):=by
 intro pins s σ H Q I h
 refine Subscript_ (thn (he pins s σ H _ I h) fun v s1 ⟨x,H1,I1,r1,q1⟩=>?_)
 refine wpAny_Slice (thn (hl pins s1 σ H1 _ I1 q1) fun vl s2 ⟨l,H2,I2,pl,q2⟩=>thn (hu pins s2 σ H2 _ I2 q2) fun vu s3 ⟨u,H3,I3,pu,q3⟩=>?_)
 rw[evalPart_none]
 refine wpAny_pure ?_
 have I4:Inv X pins σ H3 {s3 with heap:=s3.heap.push {cls:= .type "slice",data:= .fields #[vl,vu, .none]}}:=I3.kept (t':=s3.toks) fun b ob q=>Heap.get?_push_of_some _ q
 obtain⟨T,id,hT,ht,hg⟩:=hr pins {s3 with heap:=s3.heap.push {cls:= .type "slice",data:= .fields #[vl,vu, .none]}} σ H3 x v vl vu l u s3.heap.objs.size Q I4 r1 (Heap.IsSliceOf.new ..) pl pu q3
 show wpAny (model X.prog X.w) X.A (subscriptTail e (.Slice lo hi none p2) v (.ref s3.heap.objs.size)) (EP X pins σ Q) X.xe {s3 with heap:=s3.heap.push {cls:= .type "slice",data:= .fields #[vl,vu, .none]}}
 exact tail_any (ops:=[.ref s3.heap.objs.size,v]) ht hT hg (by with_unfolding_all rfl)
def cutV(xs:List V)(lo hi:Option Int):List V:=(xs.drop (HT.sIx xs.length 0 lo)).take (HT.sIx xs.length xs.length hi-HT.sIx xs.length 0 lo)
theorem zFx(xs:List V)(lo hi:Option Int):(cutV xs lo hi).length<=xs.length:=by
 unfold cutV
 rw[List.length_take,List.length_drop]
 omega
end
def ixN(n:Nat)(i:Int):Option Nat:=if 0<=i then(if i<n then some i.toNat else none)else if -(n:Int)<=i then some (i+n).toNat else none
def atI{α:Type}(xs:List α)(i:Int):Option α:=(ixN xs.length i).bind fun j=>xs[j]?
theorem zIG{n:Nat}{i:Int}{j:Nat}(h:ixN n i=some j):seqIndex? i n=some j/\j<n/\ -(n:Int)<=i/\i<n:=by
 unfold ixN at h
 by_cases h0:0<=i
 ·rw[if_pos h0]at h
  by_cases h1:i<n
  ·rw[if_pos h1]at h
   have e:i.toNat=j:=Option.some.inj h
   exact⟨by rw[seqIndex_of h0 h1,e],by omega,by omega,h1⟩
  ·rw[if_neg h1]at h;cases h
 ·rw[if_neg h0]at h
  by_cases h1: -(n:Int)<=i
  ·rw[if_pos h1]at h
   have e:(i+n).toNat=j:=Option.some.inj h
   exact⟨by rw[seqIndex_neg (by omega) h1,e],by omega,h1,by omega⟩
  ·rw[if_neg h1]at h;cases h
theorem zF3{α:Type}{xs:List α}{i:Int}{v:α}(h:atI xs i=some v):∃j,seqIndex? i xs.length=some j/\xs[j]? =some v/\j<xs.length/\ -(xs.length:Int)<=i/\i<xs.length:=by
 unfold atI at h
 cases e:ixN xs.length i with
 |none=>rw[e]at h;cases h
 |some j=>
  rw[e]at h
  obtain⟨h1,h2,h3,h4⟩:=zIG e
  exact⟨j,h1,h,h2,h3,h4⟩
theorem zAN{α:Type}{xs:List α}{j:Nat}{v:α}(h:xs[j]? =some v):atI xs (j:Int)=some v:=by
 have hj:j<xs.length:=(List.getElem?_eq_some_iff.mp h).1
 have e:ixN xs.length (j:Int)=some j:=by
  unfold ixN
  rw[if_pos (by omega),if_pos (by omega)];simp
 unfold atI;rw[e];exact h
def PlainIx(b:Expr):Prop:=∀o i,subscripted b false o i=operate [o,i] (getItem o i)
def IxR(X:Cx)(r:R2):Prop:=
 ∀ (value slice:Expr) (pins:List (Addr×Obj)) (s:Shared) (σ:St) (H:Hp) (x y:V) (v u:Value) (Q:VK),Inv X pins σ H s->RelV x v->RelV y u->r x y H Q->
   subscripted slice false v u=operate [v,u] (getItem v u)->wpAny (model X.prog X.w) X.A (subscriptTail value slice v u) (EP X pins σ Q) X.xe s
def MtR(X:Cx)(id:String)(r:V->List V->Hp->VK->Prop):Prop:=
 ∀ (pins:List (Addr×Obj)) (s:Shared) (σ:St) (H:Hp) (x:V) (xs:List V) (v:Value) (us:List Value) (Q:VK),Inv X pins σ H s->RelV x v->Vals xs us->r x xs H Q->
   wpAny (model X.prog X.w) X.A (call (.builtin id) (v::us)) (EP X pins σ Q) X.xe s
section
variable{X:Cx}{a b:Expr}{ta tb:TE}{pos:Pos}
theorem IxR.or{r r':R2}(h:IxR X r)(h':IxR X r'):IxR X (fun x y H Q=>r x y H Q\/r' x y H Q):=by
 intro value slice pins s σ H x y v u Q I rx ry q hs
 rcases q with q|q
 ·exact h value slice pins s σ H x y v u Q I rx ry q hs
 ·exact h' value slice pins s σ H x y v u Q I rx ry q hs
theorem zAS{r:R2}(hr:IxR X r)(ha:PE X a ta)(hb:PE X b tb)(hs:PlainIx b):PE X (.Subscript a b pos) (tOp r ta tb):=by
 intro pins s σ H Q I h
 exact Subscript_ (binT ha hb I h fun v u s2 x y H2 I2 rx ry q=>hr a b pins s2 σ H2 x y v u Q I2 rx ry q (hs _ _))
def rIxL(K:PySem.W.Frag):R2:=fun x y H Q=>∃p xs i v,x= .ref p/\y= .int i/\SqL K H p xs/\atI xs i=some v/\Q v H
def rIxT(K:PySem.W.Frag):R2:=fun x y H Q=>∃p xs i v,x= .ref p/\y= .int i/\SqT K H p xs/\atI xs i=some v/\Q v H
def rIxS:R2:=fun x y H Q=>∃z i c,x= .str z/\y= .int i/\z.length<=sizeLine/\atI z.cps.toList i=some c/\Q (.str ⟨#[c]⟩) H
theorem ix_list:IxR X (rIxL X.K):=by
 intro value slice pins s σ H x y v u Q I rx ry h hs
 obtain⟨p,xs,i,z,rfl,rfl,hq,he,q⟩:=h
 cases rx
 obtain⟨t,rfl⟩:=ry
 obtain⟨its,r,pl,hz⟩:=I.list hq
 obtain⟨j,h1,h2,h3,h4,h5⟩:=zF3 he
 obtain⟨w,ew,rw'⟩:=r.get h2
 have hl:=r.length
 have hn:=line63
 have fin:EP X pins σ Q w s:=⟨z,H,I,rw',q⟩
 by_cases h0:0<=i
 ·have hj:i.toNat=j:=by
   rw[seqIndex_of h0 h5]at h1
   exact Option.some.inj h1
  exact item_listR pl.isList h0 (by omega) (by rw[hj];simpa using ew) fin hs
 ·have hj:(i+(its.toArray.size:Int)).toNat=j:=by
   rw[seqIndex_neg (by omega) h4]at h1
   rw[List.size_toArray,<-hl]
   exact Option.some.inj h1
  exact subscriptTail_builtinR (x:=w) pl.isList.typeIs slot_list_getitem.lookup
   (wpAny_getItem_list_neg (Q:=fun r s'=>r=w/\EP X pins σ Q r s') pl.isList (by omega) (by rw[List.size_toArray]<;>omega) (by omega) (by rw[hj];simpa using ew) ⟨rfl,fin⟩) hs
theorem zNH:IxR X (rIxT X.K):=by
 intro value slice pins s σ H x y v u Q I rx ry h hs
 obtain⟨p,xs,i,z,rfl,rfl,hq,he,q⟩:=h
 cases rx
 obtain⟨t,rfl⟩:=ry
 obtain⟨its,r,pl,hz⟩:=I.tuple hq
 obtain⟨j,h1,h2,h3,h4,h5⟩:=zF3 he
 obtain⟨w,ew,rw'⟩:=r.get h2
 have hl:=r.length
 have hn:=line63
 have fin:EP X pins σ Q w s:=⟨z,H,I,rw',q⟩
 exact subscriptTail_builtinR (x:=w) pl.typeIs slot_tuple_getitem.lookup
  (getItem_tuple (j:=j) (Q:=fun r s'=>r=w/\EP X pins σ Q r s') pl (by omega) (by omega) (by rw[List.size_toArray,<-hl];exact h1) (by simpa using ew) ⟨rfl,fin⟩) hs
theorem zNI:IxR X rIxS:=by
 intro value slice pins s σ H x y v u Q I rx ry h hs
 obtain⟨z,i,c,rfl,rfl,hz,he,q⟩:=h
 obtain⟨t,rfl⟩:=rx
 obtain⟨t',rfl⟩:=ry
 obtain⟨j,h1,h2,h3,h4,h5⟩:=zF3 he
 have hl:z.cps.toList.length=z.length:=by simp[Str.length]
 rw[hl]at h1 h4 h5
 have hn:=line63
 exact tail_any (typeIs_str s z t) slot_str_getitem.lookup (getItem_str (c:=c) (by
  have e1:decide (i< -(2^63:Int))=false:=decide_eq_false (by omega)
  have e2:decide (i>=2^63)=false:=decide_eq_false (by omega)
  rw[e1,e2,Bool.or_false]) (by rw[h1];simpa using h2) ⟨.str ⟨#[c]⟩,H,I.tok _,⟨_,rfl⟩,q⟩) hs
theorem zG4(its:List Value)(n j:Nat)(u:Value):Obj.mapSeq (·.setIfInBounds j u) {cls:= .type "list",data:= .seq its.toArray n}={cls:= .type "list",data:= .seq (its.set j u).toArray n}:=by
 simp[Obj.mapSeq]
theorem Inv.lst{pins:List (Addr×Obj)}{σ:St}{H:Hp}{s:Shared}{p:Addr}{xs:List V}(I:Inv X pins σ H s)(h:H p=some (.lst xs)):
 ∃ (its:List Value) (n:Nat),Vals xs its/\s.heap.get? p=some {cls:= .type "list",data:= .seq its.toArray n}/\xs.length<=sizeLine:=by
 obtain⟨z,its,n,r,e⟩:=I.hok p _ h
 exact⟨its,n,r,e,z⟩
theorem Inv.lstUpd{pins:List (Addr×Obj)}{σ:St}{H:Hp}{s:Shared}{p:Addr}{xs ys:List V}{its its':List Value}{n n':Nat}{f:Obj->Obj}(I:Inv X pins σ H s)(h:H p=some (.lst xs))
 (ho:s.heap.get? p=some {cls:= .type "list",data:= .seq its.toArray n}) (hf:f {cls:= .type "list",data:= .seq its.toArray n}={cls:= .type "list",data:= .seq its'.toArray n'}) (r:Vals ys its') (hz:ys.length<=sizeLine) (t:Nat):
 Inv X pins σ (upd H p (.lst ys)) {s with heap:=s.heap.update p f,toks:=t}:=by
 have e:(s.heap.update p f).get? p=some {cls:= .type "list",data:= .seq its'.toArray n'}:=by
  rw[Heap.get?_update_self f ho (by rw[hf]<;>rfl),hf]
 refine I.write (x:=p) (e:=p) (by rw[h];trivial) (.inl rfl) (fun b u hb q=>(Heap.get?_update_other _ _ (Ne.symm hb)).trans q) ⟨_,e⟩ ?_
 exact⟨hz,its',n',r,e⟩
def rSetL:V->V->V->Hp->(Hp->Prop)->Prop:=fun o i v H Q=>∃p xs k j,o= .ref p/\i= .int k/\H p=some (.lst xs)/\ixN xs.length k=some j/\Q (upd H p (.lst (xs.set j v)))
theorem zA8:PSet X rSetL:=by
 intro pins s σ H o i v ov iv u Q I ro ri rv h
 obtain⟨p,xs,k,j,rfl,rfl,hp,hj,q⟩:=h
 cases ro
 obtain⟨t,rfl⟩:=ri
 obtain⟨its,n,r,ho,hz⟩:=I.lst hp
 obtain⟨h1,h2,h3,h4⟩:=zIG hj
 have hl:=r.length
 have hn:=line63
 have I':Inv X pins σ (upd H p (.lst (xs.set j v))) {s with heap:=s.heap.update p (Obj.mapSeq (·.setIfInBounds j u))}:=
  I.lstUpd hp ho (zG4 its n j u) (r.set rv j) (by rw[List.length_set];exact hz) s.toks
 by_cases h0:0<=k
 ·have hk:k.toNat=j:=by
   rw[seqIndex_of h0 h4]at h1
   exact Option.some.inj h1
  exact PySem.W.ki_setAt ho h0 (by omega) (by rw[List.size_toArray,<-hl];exact h4) (by rw[hk];exact⟨_,I',q⟩)
 ·have hk:(k+(its.toArray.size:Int)).toNat=j:=by
   rw[seqIndex_neg (by omega) h3]at h1
   rw[List.size_toArray,<-hl]
   exact Option.some.inj h1
  exact PySem.W.ki_setBack ho (by omega) (by rw[List.size_toArray,<-hl];exact h3) (by omega) (by rw[hk];exact⟨_,I',q⟩)
theorem zEr(lo hi:Option Int)(n:Nat):(sliceBounds lo hi none n).1=((HT.sIx n 0 lo:Nat):Int)/\(sliceBounds lo hi none n).2.1=((HT.sIx n n hi:Nat):Int)/\(sliceBounds lo hi none n).2.2=1:=by
 refine⟨?_,?_,rfl⟩
 ·cases lo with
  |none=>simp[sliceBounds,HT.sIx]
  |some i=>
   simp only[sliceBounds,HT.sIx,Option.getD_none,show(1:Int)>0 by decide,if_true]
   by_cases h:i<0
   ·simp only[h,if_true]<;>omega
   ·simp only[h,if_false]<;>omega
 ·cases hi with
  |none=>simp[sliceBounds,HT.sIx]
  |some i=>
   simp only[sliceBounds,HT.sIx,Option.getD_none,show(1:Int)>0 by decide,if_true]
   by_cases h:i<0
   ·simp only[h,if_true]<;>omega
   ·simp only[h,if_false]<;>omega
theorem zD6(its:List Value)(lo hi:Option Int):slicePick its.toArray lo hi none=((its.drop (HT.sIx its.length 0 lo)).take (HT.sIx its.length its.length hi-HT.sIx its.length 0 lo)).toArray:=by
 obtain⟨h1,h2,h3⟩:=zEr lo hi its.toArray.size
 unfold slicePick
 rw[h1,h2,h3]
 simp only[sliceRange_one,pick_run,List.size_toArray]<;>rfl
def rSlL(K:PySem.W.Frag):V->Option Int->Option Int->Hp->VK->Prop:=fun x lo hi H Q=>∃a xs,x= .ref a/\SqL K H a xs/\∀p,H p=none->Q (.ref p) (upd H p (.lst (cutV xs lo hi)))
theorem zKr:SlR X (rSlL X.K):=by
 intro pins s σ H x v vl vu lo hi sl Q I rx hs pl pu h
 obtain⟨a,xs,rfl,hx,q⟩:=h
 cases rx
 obtain⟨its,r,ht,hz⟩:=I.list hx
 have hlen:=r.length
 refine⟨"list",_,slot_list_getitem.lookup,ht.isList.typeIs,?_⟩
 refine wpAny_getItem_list_slice ht.isList hs pl pu .none (by simp) ?_ (by rw[List.size_toArray]<;>omega)
 rw[zD6,<-hlen]
 refine⟨.ref s.heap.objs.size,_,I.laid (t':=s.toks) (o:= .lst (cutV xs lo hi)) (fun b ob q=>Heap.get?_push_of_some _ q) (Nat.le_refl _) ?_,rfl,q _ (I.hok.fresh (Nat.le_refl _))⟩
 exact⟨Nat.le_trans (zFx xs lo hi) hz,_,0,(r.drop (HT.sIx xs.length 0 lo)).take (HT.sIx xs.length xs.length hi-HT.sIx xs.length 0 lo),Heap.get?_push_size _ rfl⟩
def flatV:V->Bool
 | .non=>true
 | .bl _=>true
 | .int _=>true
 | .str _=>true
 |_=>false
def eqV:V->V->Bool
 | .non, .non=>true
 | .bl a, .bl b=>a==b
 | .bl a, .int b=>(if a then 1 else 0)==b
 | .int a, .bl b=>a==(if b then 1 else 0)
 | .int a, .int b=>a==b
 | .str a, .str b=>a==b
 |_,_=>false
theorem zKY{A:Around}{s:Shared}{y x:V}{u v:Value}(ry:RelV y u)(rx:RelV x v)(fy:flatV y=true)(fx:flatV x=true):SeqAt.EqAt A s u v (eqV y x):=by
 cases y with
 |non=>
  cases ry
  cases x with
  |non=>cases rx;exact SeqAt.EqAt.same _
  |bl b=>cases rx;exact SeqAt.EqAt.none_bool b
  |int b=>obtain⟨t,rfl⟩:=rx;exact SeqAt.EqAt.none_int b t
  |str b=>obtain⟨t,rfl⟩:=rx;exact SeqAt.EqAt.none_str b t
  |_=>exact absurd (show false=true from fx) Bool.false_ne_true
 |bl a=>
  cases ry
  cases x with
  |non=>cases rx;exact SeqAt.EqAt.bool_none a
  |bl b=>cases rx;exact SeqAt.EqAt.bool_bool a b
  |int b=>obtain⟨t,rfl⟩:=rx;exact SeqAt.EqAt.bool_int a b t
  |str b=>obtain⟨t,rfl⟩:=rx;exact SeqAt.EqAt.bool_str a b t
  |_=>exact absurd (show false=true from fx) Bool.false_ne_true
 |int a=>
  obtain⟨t',rfl⟩:=ry
  cases x with
  |non=>cases rx;exact SeqAt.EqAt.int_none a t'
  |bl b=>cases rx;exact SeqAt.EqAt.int_bool a t' b
  |int b=>obtain⟨t,rfl⟩:=rx;exact SeqAt.EqAt.int_int a t' b t
  |str b=>obtain⟨t,rfl⟩:=rx;exact SeqAt.EqAt.int_str a t' b t
  |_=>exact absurd (show false=true from fx) Bool.false_ne_true
 |str a=>
  obtain⟨t',rfl⟩:=ry
  cases x with
  |non=>cases rx;exact SeqAt.EqAt.str_none a t'
  |bl b=>cases rx;exact SeqAt.EqAt.str_bool a t' b
  |int b=>obtain⟨t,rfl⟩:=rx;exact SeqAt.EqAt.str_int a t' b t
  |str b=>obtain⟨t,rfl⟩:=rx;exact SeqAt.EqAt.str_str a t' b t
  |_=>exact absurd (show false=true from fx) Bool.false_ne_true
 |_=>exact absurd (show false=true from fy) Bool.false_ne_true
def eqU(x:V)(u:Value):Bool:=match u with
 | .none=>eqV .non x
 | .bool b=>eqV (.bl b) x
 | .int i _=>eqV (.int i) x
 | .str z _=>eqV (.str z) x
 |_=>false
theorem zKX{x y:V}{u:Value}(r:RelV y u)(f:flatV y=true):eqU x u=eqV y x:=by
 cases y with
 |non=>cases r;rfl
 |bl b=>cases r;rfl
 |int i=>obtain⟨t,rfl⟩:=r;rfl
 |str z=>obtain⟨t,rfl⟩:=r;rfl
 |_=>exact absurd (show false=true from f) Bool.false_ne_true
theorem zF5{x:V}:∀ {xs:List V} {us:List Value},Vals xs us->xs.all flatV=true->us.any (eqU x)=xs.any fun y=>eqV y x
 |_,_, .nil,_=>rfl
 |y::xs,u::us, .cons r t,f=>by
  rw[List.all_cons,Bool.and_eq_true]at f
  rw[List.any_cons,List.any_cons,zKX r f.1,zF5 t f.2]
theorem zEK{A:Around}{s:Shared}{x:V}{v:Value}(rx:RelV x v)(fx:flatV x=true):∀ {xs:List V} {us:List Value},Vals xs us->xs.all flatV=true->∀u∈us,SeqAt.EqAt A s u v (eqU x u)
 |_,_, .nil,_=>fun u hu=>by cases hu
 |y::xs,u::us, .cons r t,f=>fun u' hu=>by
  rw[List.all_cons,Bool.and_eq_true]at f
  rcases List.mem_cons.mp hu with rfl|hu
  ·rw[zKX r f.1];exact zKY r rx f.1 fx
  ·exact zEK rx fx t f.2 u' hu
def inV(x:V)(xs:List V):Bool:=xs.any fun y=>eqV y x
def rIn(K:PySem.W.Frag)(neg:Bool):R2:=fun x y H Q=>∃p xs,y= .ref p/\(SqL K H p xs\/SqT K H p xs)/\flatV x=true/\xs.all flatV=true/\Q (.bl (if neg then !inV x xs else inV x xs)) H
theorem zH4:OpR X (compareOp .In) (rIn X.K false):=by
 intro pins s σ H x y v u Q I rx ry h
 obtain⟨p,xs,rfl,hq,fx,fs,q⟩:=h
 cases ry
 rcases hq with hq|hq
 ·obtain⟨its,r,pl,hz⟩:=I.list hq
  refine SeqAt.in_listAt (eqU x) pl.isList (fun w hw=>zEK rx fx r fs w (by simpa using hw)) ⟨.bl _,H,I,rfl,?_⟩
  rw[show its.toArray.any (eqU x)=its.any (eqU x) by simp,zF5 r fs]
  exact q
 ·obtain⟨its,r,pl,hz⟩:=I.tuple hq
  refine SeqAt.in_tupleAt (eqU x) pl (fun w hw=>zEK rx fx r fs w (by simpa using hw)) ⟨.bl _,H,I,rfl,?_⟩
  rw[show its.toArray.any (eqU x)=its.any (eqU x) by simp,zF5 r fs]
  exact q
theorem zFN:CallR X (.builtin "len") (fun xs H Q=>∃p ys,xs=[.ref p]/\(SqL X.K H p ys\/SqT X.K H p ys)/\Q (.int ys.length) H):=by
 intro pins s σ H xs us Q I r h
 obtain⟨p,ys,rfl,hq,q⟩:=h
 obtain⟨u,rfl,rx⟩:=vals1 r
 cases rx
 have hn:=line63
 rcases hq with hq|hq
 ·obtain⟨its,r',pl,hz⟩:=I.list hq
  have hlen:=r'.length
  exact Calls.call_len_list pl.isList (by simp only[List.size_toArray]<;>omega) ⟨.int ys.length,H,I.tok _,⟨s.toks+1,by rw[List.size_toArray,hlen]⟩,q⟩
 ·obtain⟨its,r',pl,hz⟩:=I.tuple hq
  have hlen:=r'.length
  exact len_tuple pl (by simp only[List.size_toArray]<;>omega) ⟨.int ys.length,H,I.tok _,⟨s.toks+1,by rw[List.size_toArray,hlen]⟩,q⟩
theorem zFM:CallR X (.builtin "len") (fun xs H Q=>∃z,xs=[.str z]/\z.length<=sizeLine/\Q (.int z.length) H):=by
 intro pins s σ H xs us Q I r h
 obtain⟨z,rfl,hz,q⟩:=h
 obtain⟨u,rfl,t,rfl⟩:=vals1 r
 have hn:=line63
 exact len_str (by omega) ⟨.int z.length,H,I.tok _,⟨_,rfl⟩,q⟩
theorem CallR.or{f:Value}{r r':List V->Hp->VK->Prop}(h:CallR X f r)(h':CallR X f r'):CallR X f (fun xs H Q=>r xs H Q\/r' xs H Q):=by
 intro pins s σ H xs us Q I rs q
 rcases q with q|q
 ·exact h pins s σ H xs us Q I rs q
 ·exact h' pins s σ H xs us Q I rs q
theorem zFL:CallR X (.type "list") (fun xs H Q=>∃p ys,xs=[.ref p]/\(SqL X.K H p ys\/SqT X.K H p ys)/\∀l,H l=none->Q (.ref l) (upd H l (.lst ys))):=by
 intro pins s σ H xs us Q I r h
 obtain⟨p,ys,rfl,hq,q⟩:=h
 obtain⟨u,rfl,rx⟩:=vals1 r
 cases rx
 have fin:∀ (its:List Value),Vals ys its->ys.length<=sizeLine->∀ (h':Heap) (c':Nat),(∀b o',s.heap.get? b=some o'->h'.get? b=some o')->
  h'.get? s.heap.objs.size=some {cls:= .type "list",dict:=none,data:= .seq its.toArray c',slots:= #[]}->EP X pins σ Q (.ref s.heap.objs.size) {s with heap:=h'}:=fun its r' hz h' c' kp e=>
  ⟨.ref s.heap.objs.size,_,I.laid (t':=s.toks) kp (Nat.le_refl _) (show ObjOk X.prog X.w _ h' _ (.lst ys)from⟨hz,its,c',r',e⟩),rfl,q _ (I.hok.fresh (Nat.le_refl _))⟩
 rcases hq with hq|hq
 ·obtain⟨its,r',pl,hz⟩:=I.list hq
  have hlen:=r'.length
  obtain⟨o,ho,hc,n,hd⟩:=pl.isList
  exact call_list_seq p (.inl rfl) ho hc hd (fun h' c' kp e=>fin its r' hz h' c' kp e) (by simp only[List.size_toArray]<;>omega)
 ·obtain⟨its,r',pl,hz⟩:=I.tuple hq
  have hlen:=r'.length
  obtain⟨o,ho,hc,n,hd⟩:=pl
  exact call_list_seq p (.inr rfl) ho hc hd (fun h' c' kp e=>fin its r' hz h' c' kp e) (by simp only[List.size_toArray]<;>omega)
def tyV(K:PySem.W.Frag)(T:String)(x:V)(H:Hp):Prop:=match x with
 | .str _=>T="str"
 | .int _=>T="int"
 | .ref p=>(T="list"/\∃xs,SqL K H p xs)\/(T="tuple"/\∃o,K.lookup p=some o/\o.cls= .type "tuple"/\o.dict=none)\/
     (T="dict"/\((∃kvs,H p=some (.dK kvs))\/∃kvs,H p=some (.dT kvs)))\/(T="set"/\∃S n,H p=some (.set S n))
 |_=>False
theorem zJ8{pins:List (Addr×Obj)}{σ:St}{H:Hp}{s:Shared}{T:String}{x:V}{v:Value}(I:Inv X pins σ H s)(r:RelV x v)(ty:tyV X.K T x H):
 s.TypeIs v T/\∀a,v= .ref a->∃ob,s.heap.get? a=some ob/\ob.dict=none:=by
 cases x with
 |str z=>
  obtain⟨t,rfl⟩:=r
  cases(show T="str" from ty)
  exact⟨typeIs_str s z t,fun _ e=>nomatch e⟩
 |int i=>
  obtain⟨t,rfl⟩:=r
  cases(show T="int" from ty)
  exact⟨typeIs_int s i t,fun _ e=>nomatch e⟩
 |ref p=>
  cases r
  rcases ty with⟨rfl,xs,hq⟩|⟨rfl,o,hk,hc,hd⟩|⟨rfl,hk⟩|⟨rfl,S,n,hk⟩
  ·obtain⟨its,_,pl,_⟩:=I.list hq
   refine⟨pl.isList.typeIs,fun a e=>?_⟩
   cases e
   obtain⟨o,n,e,c,hd,_⟩:=pl
   exact⟨o,e,hd⟩
  ·refine⟨⟨o,I.kIn p o hk,hc⟩,fun a e=>?_⟩
   cases e
   exact⟨o,I.kIn _ o hk,hd⟩
  ·have z:∃o,s.heap.get? p=some o/\o.ExactDict:=by
    rcases hk with⟨kvs,hk⟩|⟨kvs,hk⟩
    ·obtain⟨_,_,_,_,o,_,_,e,ex,_⟩:=I.hok p _ hk
     exact⟨o,e,ex⟩
    ·obtain⟨_,_,_,_,o,_,_,e,ex,_⟩:=I.hok p _ hk
     exact⟨o,e,ex⟩
   obtain⟨o,e,ex⟩:=z
   refine⟨⟨o,e,ex.1⟩,fun a e2=>?_⟩
   cases e2
   exact⟨o,e,ex.2.1⟩
  ·obtain⟨o,_,_,_,e,ex,_⟩:=I.hok p _ hk
   refine⟨⟨o,e,ex.1⟩,fun a e2=>?_⟩
   cases e2
   exact⟨o,e,ex.2.1⟩
 |_=>exact False.elim ty
def tBM0(K:PySem.W.Frag)(T:String)(r:V->List V->Hp->VK->Prop)(to:TE):TE:=fun σ H Q=>to σ H fun x H1=>tyV K T x H1/\r x [] H1 Q
def tBM(K:PySem.W.Frag)(T:String)(r:V->List V->Hp->VK->Prop)(to:TE)(t:TA):TE:=fun σ H Q=>to σ H fun x H1=>tyV K T x H1/\t σ H1 fun xs H2=>r x xs H2 Q
variable{o e:Expr}{es:List Expr}{to:TE}{t:TA}{name:Str}{apos cpos:Pos}{T id:String}{r:V->List V->Hp->VK->Prop}
theorem zMx(pa:PlainAttrs T)(slot:Slot T name id)(hty:typeOf (.builtin id)=pure (.type "method_descriptor"))(hm:MtR X id r)(ho:PE X o to)
 (hbase:attributeBase o name X.env (eval o X.env)=eval o X.env:=by rfl) (hline:(apos.endLine==cpos.line)=true:=by rfl):PE X (.Call (.Attribute o name apos) [] [] cpos) (tBM0 X.K T r to):=by
 intro pins s σ H Q I h
 refine wpAny_Call_method0_late hbase hline (thn (ho pins s σ H _ I h) fun v s1 ⟨x,H1,I1,r1,ty,q1⟩=>?_)
 obtain⟨h1,h2⟩:=zJ8 I1 r1 ty
 exact⟨T,id,pa,slot,hty,h1,h2,Calls.callWith_builtin rfl (PySem.evalArgs_none (hm pins s1 σ H1 x [] v [] Q I1 r1 .nil q1))⟩
theorem zOI(pa:PlainAttrs T)(slot:Slot T name id)(hty:typeOf (.builtin id)=pure (.type "method_descriptor"))(hm:MtR X id r)(ho:PE X o to)(ha:PA X (e::es) t)
 (hbase:attributeBase o name X.env (eval o X.env)=eval o X.env:=by rfl)
 (hfew:((backTo cpos (starEach (e::es) X.env)).all (fun x=> !x.1)&&(backToKw cpos (keywordEach [] X.env)).all (fun x=>x.1.isSome)
   &&decide ((e::es).length+([]:List Keyword).length+(if([]:List Keyword).isEmpty then 0 else 1)<30))=true:=by rfl)
 (hline:(apos.endLine==cpos.line)=true:=by rfl) (hs:starEach (e::es) X.env=(false,eval e X.env)::starEach es X.env:=by rfl) (hplain:(backTo cpos (starEach es X.env)).any (·.1)=false:=by rfl):
 PE X (.Call (.Attribute o name apos) (e::es) [] cpos) (tBM X.K T r to t):=by
 intro pins s σ H Q I h
 refine wpAny_Call_method_late hbase hfew hline rfl (thn (ho pins s σ H _ I h) fun v s1 ⟨x,H1,I1,r1,ty,q1⟩=>?_)
 obtain⟨h1,h2⟩:=zJ8 I1 r1 ty
 refine⟨T,id,pa,slot,hty,h1,h2,?_⟩
 have hA:=ha cpos pins s1 σ H1 _ I1 q1
 rw[hs]at hA⊢
 refine Calls.callWith_builtin (by show(false||(backTo cpos (starEach es X.env)).any (·.1))=false;rw[hplain]<;>rfl) (Calls.evalArgs_plain ?_)
 exact thn hA fun us s2 ⟨vs,H2,I2,r2,q2⟩=>hm pins s2 σ H2 x vs v us Q I2 r1 r2 q2
end
def MtM(X:Cx)(id:String)(r:V->List V->Hp->VK->Prop):Prop:=
 ∀ (pins:List (Addr×Obj)) (s:Shared) (σ:St) (H:Hp) (x:V) (xs:List V) (v:Value) (us:List Value) (Q:VK),Inv X pins σ H s->RelV x v->Vals xs us->r x xs H Q->
   wpAny (model X.prog X.w) X.A (call (.builtin id) (v::us)) (EP X pins σ Q) X.xe s
theorem Vals.one:∀ {x:V} {us:List Value},Vals [x] us->∃u,us=[u]/\RelV x u
 |_,_, .cons r .nil=>⟨_,rfl,r⟩
theorem Vals.two:∀ {x y:V} {us:List Value},Vals [x,y] us->∃u v,us=[u,v]/\RelV x u/\RelV y v
 |_,_,_, .cons r (.cons q .nil)=>⟨_,_,rfl,r,q⟩
theorem Vals.zero:∀ {us:List Value},Vals [] us->us=[]
 |_, .nil=>rfl
theorem Vals.dropLast{xs:List V}{us:List Value}(h:Vals xs us):Vals xs.dropLast us.dropLast:=by
 induction h with
 |nil=>exact .nil
 |cons r t ih=>
  cases t with
  |nil=>exact .nil
  |cons q t'=>exact .cons r ih
theorem Vals.reverse{xs:List V}{us:List Value}(h:Vals xs us):Vals xs.reverse us.reverse:=by
 induction h with
 |nil=>exact .nil
 |cons r t ih=>rw[List.reverse_cons,List.reverse_cons];exact Vals.append ih (.cons r .nil)
theorem Vals.rep{xs:List V}{us:List Value}(h:Vals xs us):∀k:Nat,Vals (List.replicate k xs).flatten (List.replicate k us).flatten
 |0=> .nil
 |k+1=>by
  rw[List.replicate_succ,List.replicate_succ,List.flatten_cons,List.flatten_cons]
  exact Vals.append h (Vals.rep h k)
theorem zG9{α:Type}(l:List α):l.eraseIdx (l.length-1)=l.dropLast:=by
 induction l with
 |nil=>rfl
 |cons a r ih=>
  cases r with
  |nil=>rfl
  |cons b r=>
   have e:(a::b::r).length-1=((b::r).length-1)+1:=by
    have h1:(a::b::r).length=r.length+2:=rfl
    have h2:(b::r).length=r.length+1:=rfl
    omega
   rw[e,List.eraseIdx_cons_succ,ih]
   all_goals rfl
theorem zE9(its:List Value):∀ (k:Nat) (acc:List Value),
 List.foldl (fun x1 x2=>x1++x2) acc.toArray (List.replicate k its.toArray)=(acc++(List.replicate k its).flatten).toArray
 |0,acc=>by simp
 |k+1,acc=>by
  have e:acc.toArray++its.toArray=(acc++its).toArray:=by simp
  have e2:(acc++its)++(List.replicate k its).flatten=acc++(List.replicate (k+1) its).flatten:=by
   rw[List.replicate_succ,List.flatten_cons,List.append_assoc]
  rw[<-e2,<-zE9 its k (acc++its),<-e,List.replicate_succ,List.foldl_cons]
section
variable{X:Cx}{pins:List (Addr×Obj)}{σ:St}{H:Hp}{s:Shared}{l b:Addr}{xs ys zs:List V}
theorem Inv.lset{its its':List Value}{n:Nat}{f:Array Value->Array Value}{t':Nat}(I:Inv X pins σ H s)(hH:H l=some (.lst xs))
 (e:s.heap.get? l=some {cls:= .type "list",data:= .seq its.toArray n}) (hf:f its.toArray=its'.toArray) (hv:Vals ys its') (hz:ys.length<=sizeLine):
 Inv X pins σ (upd H l (.lst ys)) {s with heap:=s.heap.update l (Obj.mapSeq f),toks:=t'}:=by
 have q:=PySem.IsL.update e f
 rw[hf]at q
 refine I.write (x:=l) (e:=l) (by rw[hH];exact trivial) (.inl rfl) (fun b' u hb hu=>(Heap.get?_update_other s.heap (Obj.mapSeq f) (Ne.symm hb)).trans hu) ⟨_,q⟩ ?_
 exact⟨hz,its',_,hv,q⟩
theorem Inv.lnew{its:List Value}{t':Nat}(I:Inv X pins σ H s)(hv:Vals ys its)(hz:ys.length<=sizeLine):
 Inv X pins σ (upd H s.heap.objs.size (.lst ys)) {s with heap:=s.heap.push {cls:= .type "list",data:= .seq its.toArray},toks:=t'}:=
 I.laid (fun _ _ q=>Heap.get?_push_of_some _ q) (Nat.le_refl _) ⟨hz,its,0,hv,Heap.get?_push_size _ rfl⟩
theorem Inv.fresh(I:Inv X pins σ H s):H s.heap.objs.size=none:=I.hok.fresh (Nat.le_refl _)
theorem Inv.lstM(I:Inv X pins σ H s)(hH:H l=some (.lst xs)):xs.length<=sizeLine/\∃ (its:List Value) (n:Nat),Vals xs its/\xs.length=its.length/\s.heap.get? l=some {cls:= .type "list",data:= .seq its.toArray n}:=by
 obtain⟨z,its,n,r,e⟩:=I.hok l _ hH
 exact⟨z,its,n,r,r.length,e⟩
theorem notLongL{n:Nat}(h:n<=sizeLine):Builtin.List.listTooLong n=false:=by
 unfold Builtin.List.listTooLong
 exact decide_eq_false (by omega)
end
section
variable{X:Cx}
def rAppend:V->List V->Hp->VK->Prop:=fun x vs H Q=>∃l xs y,x= .ref l/\vs=[y]/\H l=some (.lst xs)/\xs.length<sizeLine/\Q .non (upd H l (.lst (xs++[y])))
theorem zAr:MtM X "list.append" rAppend:=by
 intro pins s σ H x vs v us Q I rx rv h
 obtain⟨l,xs,y,rfl,rfl,hH,hz,q⟩:=h
 cases rx
 obtain⟨u,rfl,ru⟩:=rv.one
 obtain⟨z,its,n,r,hl,e⟩:=I.lstM hH
 refine call_meets F.slot_list_append ⟨_,e,rfl⟩ F.entry_list_append (F.args_list_append_2 _ _) (PySem.list_append l its.toArray n u (by rw[List.size_toArray];omega)) ⟨e,?_⟩
 refine⟨.non,_,I.lset (its':=its++[u]) hH e (by simp) (r.append (.cons ru .nil)) ?_,rfl,q⟩
 rw[List.length_append,List.length_singleton]
 omega
def rPop:V->List V->Hp->VK->Prop:=fun x vs H Q=>∃l xs y,x= .ref l/\vs=[]/\H l=some (.lst xs)/\xs[xs.length-1]? =some y/\Q y (upd H l (.lst xs.dropLast))
theorem zKR:MtM X "list.pop" rPop:=by
 intro pins s σ H x vs v us Q I rx rv h
 obtain⟨l,xs,y,rfl,rfl,hH,hy,q⟩:=h
 cases rx
 have hus:=rv.zero
 subst hus
 obtain⟨z,its,n,r,hl,e⟩:=I.lstM hH
 obtain⟨u,hu,ru⟩:=r.get hy
 have hy':its.toArray[its.toArray.size-1]? =some u:=by
  show its.toArray[its.length-1]? =some u
  rw[<-Array.getElem?_toList,<-hl]
  exact hu
 refine call_meets F.slot_list_pop ⟨_,e,rfl⟩ F.entry_list_pop (F.args_list_pop_1 _) (MeetsSeq.list_pop_last l its.toArray n u hy' (by rw[List.size_toArray];omega)) ⟨e,?_⟩
 refine⟨y,_,I.lset (its':=its.dropLast) hH e ?_ r.dropLast ?_,ru,q⟩
 ·show its.toArray.eraseIdxIfInBounds (its.toArray.size-1)=its.dropLast.toArray
  rw[List.size_toArray,List.eraseIdxIfInBounds_toArray,zG9]
 ·rw[List.length_dropLast]
  omega
def rCat:R2:=fun x y H Q=>∃l b xs zs,x= .ref l/\y= .ref b/\H l=some (.lst xs)/\H b=some (.lst zs)/\xs.length+zs.length<=sizeLine/\∀p,H p=none->Q (.ref p) (upd H p (.lst (xs++zs)))
theorem zM8:OpR X (binaryOp .Add) rCat:=by
 intro pins s σ H x y v u Q I rx ry h
 obtain⟨l,b,xs,zs,rfl,rfl,hH,hB,hz,q⟩:=h
 cases rx
 cases ry
 obtain⟨z,its,n,r,hl,e⟩:=I.lstM hH
 obtain⟨z2,its2,n2,r2,hl2,e2⟩:=I.lstM hB
 refine PySem.P.add_list e e2 ?_ (by rw[List.size_toArray,List.size_toArray];omega)
 have ea:its.toArray++its2.toArray=(its++its2).toArray:=by simp
 rw[ea]
 exact⟨.ref _,_,I.lnew (t':=s.toks) (r.append r2) (by rw[List.length_append];omega),rfl,q _ I.fresh⟩
def rRep:R2:=fun x y H Q=>∃l k xs,x= .ref l/\y= .int k/\H l=some (.lst xs)/\ -(2^63)<=k/\k<2^63/\xs.length*k.toNat<=sizeLine/\
 ∀p,H p=none->Q (.ref p) (upd H p (.lst (List.replicate k.toNat xs).flatten))
theorem zLg{α:Type}(xs:List α)(k:Nat):(List.replicate k xs).flatten.length=k*xs.length:=by
 induction k with
 |zero=>simp
 |succ k ih=>rw[List.replicate_succ,List.flatten_cons,List.length_append,ih,Nat.succ_mul,Nat.add_comm]
theorem op_rep:OpR X (binaryOp .Mult) rRep:=by
 intro pins s σ H x y v u Q I rx ry h
 obtain⟨l,k,xs,rfl,rfl,hH,h1,h2,hz,q⟩:=h
 cases rx
 obtain⟨t,rfl⟩:=ry
 obtain⟨z,its,n,r,hl,e⟩:=I.lstM hH
 have hlen:its.toArray.size*k.toNat<=sizeLine:=by rw[List.size_toArray,<-hl];exact hz
 have hcap:¬its.toArray.size*k.toNat>(2^63-1)/8:=by
  have:(sizeLine:Nat)<=(2^63-1)/8:=by decide
  omega
 have hfit:¬ (!Builtin.List.listFitsIndex k)=true:=by
  rw[fitsIndex_both h1 h2]
  exact Bool.false_ne_true
 have hlong:¬Builtin.List.listTooLong (its.toArray.size*k.toNat)=true:=by
  rw[notLongL hlen]
  exact Bool.false_ne_true
 have hnew:List.foldl (fun x1 x2=>x1++x2) #[] (List.replicate (if its.toArray.isEmpty=true then 0 else k.toNat) its.toArray)=(List.replicate k.toNat its).flatten.toArray:=by
  have f0:∀m:Nat,List.foldl (fun x1 x2=>x1++x2) #[] (List.replicate m its.toArray)=(List.replicate m its).flatten.toArray:=fun m=>by
   have:=zE9 its m []
   rw[List.nil_append]at this
   exact this
  rw[f0]
  cases its with
  |nil=>simp
  |cons a r'=>rw[if_neg (by simp)]
 refine wpAny_binaryOp_repeat_ref (T:="list") (U:="int") (by decide) ⟨_,e,rfl⟩ (fun s'=>typeIs_int s' k t) noFill_list_mul F.fills_int_mul F.slot_int_rmul repeat_list F.slot_int_index.lookup
  (call_meets F.slot_int_rmul (typeIs_int s k t) F.entry_int_rmul (F.args_int_rmul_2 _ _) (int___rmul___int_list k t l its.toArray n)
    ⟨e,rfl,⟨_,e,rfl⟩,call_meets F.slot_list_mul ⟨_,e,rfl⟩ F.entry_list_mul (F.args_list_mul_2 _ _) (AutoListH.list___mul___list_int_3 l its.toArray n k t hfit hcap hlong) ⟨e,?_⟩⟩)
 rw[hnew]
 exact⟨.ref _,_,I.lnew (t':=s.toks) (r.rep k.toNat) (by rw[zLg,Nat.mul_comm];exact hz),rfl,q _ I.fresh⟩
end
section
variable{prog:Program}{w:World}{A:Around}{E:Value->Shared->Prop}{s:Shared}
end
section
variable{X:Cx}
end
end L2
namespace Att
open PySem PySem.W PySem.Calls PyProof.Rows
theorem zDL{P:Params}{h:Heap}:∀ (ns:List Int) (vs:List Value),WellAll P h vs (ns.map WData.int)->IntsAre vs ns:=by
 intro ns
 induction ns with
 |nil=>
  intro vs w
  rw[List.map_nil]at w
  cases w
  exact .nil
 |cons n ns ih=>
  intro vs w
  rw[List.map_cons]at w
  cases w with
  |cons a b=>
   cases a
   exact .cons _ _ (ih _ b)
theorem zHe{l:OpenLaw}{n:Nat}(hn:l.most=some n){P:Params}{h:Heap}{args:List WData}{vals:List Value}
 (hpre:l.row.toRowW.claim.pre args=true) (hwl:WellAll P h vals args):
 ∃a vs ns,vals=[Value.ref a]/\args=[WData.list (ns.map WData.int)]/\h.get? a=some {cls:= .type "list",data:= .seq vs.toArray}/\IntsAre vs ns/\ns.length<=n:=by
 have hsh:WShape.hasAll [] args [.list .int]=true:=(pre_splitW hpre).1
 have hc:l.pre.holds [] {args:=args}=true:=(pre_splitW hpre).2
 obtain⟨d,r,rfl,h1,h2⟩:=hasAllW_cons hsh
 obtain rfl:=hasAllW_nil h2
 obtain⟨xs,rfl,h3⟩:=hasW_list h1
 obtain⟨ns,rfl⟩:=items_int h3
 have hlen:ns.length<=n:=by
  unfold OpenLaw.pre at hc
  have h4:(WTm.not (.lt (.lit (.int (n:Int))) (.len (.arg 0)))).holds [] {args:=[.list (ns.map .int)]}=true:=by
   have h4:=(holds_andW hc).1
   rw[hn]at h4
   exact h4
  have h5:=condW_of h4 (w_not (w_lt w_lit (w_len_list (w_arg rfl))))
  rw[List.length_map]at h5
  refine Nat.le_of_not_lt fun q=>?_
  have q':(n:Int)<((ns.length:Nat):Int):=by omega
  first
   |(rw[decide_eq_true q']at h5;exact absurd h5 (by decide))
   |(simp at h5;omega)
 cases hwl with
 |cons w1 w2=>
  cases w2
  cases w1 with
  |list ho hall=>exact⟨_,_,ns,rfl,rfl,ho,zDL ns _ hall,hlen⟩
theorem zHq(l:OpenLaw)(args:List WData):l.row.toRowW.claim.post args (.bool true) args=true:=
 postW_of (r:=l.row.toRowW) (X:=(true==true))
  (show WShape.has [] (.bool true) .bool=true by first|rfl|decide|simp[WShape.has,WShape.arms,WShape.armsAll])
  (show(WTm.eq .res (.lit (.bool true))).value [] {args:=args,res:=some (.bool true),after:=args}=some (.bool (true==true))from w_eq_bool (w_res rfl) w_lit) rfl
theorem attach_call{l:OpenLaw}{n:Nat}{q:Program}{loose:List Str}{XP:(Str->Option Value)->Heap->Prop}{YP:World->Heap->Prop}{d:DefRec}
 (hn:l.most=some n) (hdf:d.params.defaults=[])
 (call:∀ (w:World) (s₀ s₁:Shared) (mg mb:Str->Option Value) (fa:Addr) (o:Obj) (pm cd doc:Value) (a:Addr) (vs:List Value) (ns:List Int),
   Ground q loose [] XP w s₀ mg mb s₁.heap->YP w s₁.heap->
   s₁.heap.get? fa=some o->o.data= .func (docDef d.name d.params d.body d.scope pm cd doc)->s₁.heap.CodeRec cd d.name->mg d.name=some (.ref fa)->
   s₁.heap.get? a=some {cls:= .type "list",data:= .seq vs.toArray}->IntsAre vs ns->ns.length<=n->s₁.gens= #[]->
   codeAny (model l.prog w) callerA (.call (.ref fa) ⟨[.ref a],[]⟩) (fun r s'=>r= .ok (.ret (.bool true))/\OldK s₁.heap s'.heap/\s'.os=s₁.os/\AllBare s'.gens) s₁):
 WalkO q loose XP YP l.row.toRowW d [] (fun f vs=>PySem.call f vs):=by
 intro w s₀ s₁ mg mb G Y fa o pm cd doc dV kV ho hd hcd hD hmg hg args vals as hpre hlay hrd hwl hlo
 obtain rfl:dV= .none:=Dflts.none hD hdf
 obtain rfl:kV= .none:=Dflts.noKw hD
 obtain⟨a,vs,ns,rfl,rfl,hobj,hints,hlen⟩:=zHe hn hpre hwl
 refine enter_call (codeAny_mono (call w s₀ s₁ mg mb fa o pm cd doc a vs ns G Y ho (fd_plain hd) hcd hmg hobj hints hlen hg) fun r s' hq=>?_)
 obtain⟨rfl,h2,h3,h4⟩:=hq
 exact⟨.inl ⟨.bool true, .bool true,[],rfl,fun _=>rfl, .bool true,zHq l _,fun _=>⟨List.Pairwise.nil,fun _ hm=>(nomatch hm)⟩⟩,h2,h3,h4⟩
section
variable{prog:Program}{w:World}{A:Around}{E:Value->Shared->Prop}{s:Shared}{K:Frag}
end
end Att
namespace L2
open PySem PySem.Spec PyProof.Rows
theorem zEi:∀ {vs:List Value} {ns:List Int},IntsAre vs ns->Vals (ns.map V.int) vs
 |_,_, .nil=> .nil
 |_,_, .cons n t h=> .cons ⟨t,rfl⟩ (zEi h)
def Only(H:Hp):Prop:=∀b,H b=none\/∃o xs,H b=some (.frz o (.lst xs))
theorem zJg{P:Program}{w:World}{K:PySem.W.Frag}{mg mb:Str->Option Value}{CX:CXT}{k:Nat}{fa a:Addr}{fd:FuncData}{x:Str}{sp:Sp}{s₁:Shared}{vs:List Value}{ns:List Int}
 (KX:K.In s₁.heap) (hns:s₁.heap.Ns mainGlobals mg) (hb:s₁.heap.Ns builtinsNs mb) (hbb:∀x:Str,x≠"__name__"->mb x=bootBuiltins x) (hlim:s₁.heap.NoLimit) (hg:s₁.gens= #[])
 (ha:s₁.heap.get? a=some {cls:= .type "list",data:= .seq vs.toArray}) (hi:IntsAre vs ns) (hl:ns.length<=sizeLine) (hr:Room k callerA)
 (F:∀base:Heap,K.In base->base.Ns mainGlobals mg->FnOk P w K mg base CX k fa fd [x] sp) (hbind:∀ (s:Shared) (u:Value),BindsTo s fd ⟨[u],[]⟩ [(x,u)])
 (hsp:∀H:Hp,Only H->SqL K H a (ns.map V.int)->sp [.ref a] H (fun v _=>v= .bl true) fun _ _ _=>False)
 (hCX:∀H e s',CX [] H s₁ (fun _ _ _=>False) e s'->False):
 codeAny (model P w) callerA (.call (.ref fa) ⟨[.ref a],[]⟩) (fun r s'=>r= .ok (.ret (.bool true))/\OldK s₁.heap s'.heap/\s'.os=s₁.os/\AllBare s'.gens) s₁:=by
 have rv:=zEi hi
 have lenV:=hi.length
 have core:∀H:Hp,Only H->SqL K H a (ns.map V.int)->HOk P w H s₁.heap->(∀b,H b≠none->b=a)->(H a≠none->K.lookup a=none)->
  codeAny (model P w) callerA (.call (.ref fa) ⟨[.ref a],[]⟩) (fun r s'=>r= .ok (.ret (.bool true))/\OldK s₁.heap s'.heap/\s'.os=s₁.os/\AllBare s'.gens) s₁:=by
  intro H hO hS hok hA hK
  have base_of:∀ {b:Addr} {o:Obj},s₁.heap.get? b=some o->H b=none->(hidT s₁.heap H).get? b=some o:=fun e n=>zJm e n
  have noA:∀ {b:Addr} {o:Obj} {es:Array DictEntry} {ep:Nat},s₁.heap.get? b=some o->o.data= .dict es ep->H b=none:=fun{b o es ep} e d=>by
   cases q:H b with
   |none=>rfl
   |some u=>
    have e':b=a:=hA b (by rw[q];simp)
    subst e'
    rw[ha]at e;cases e
    have d':Data.seq vs.toArray _=Data.dict es ep:=d
    cases d'
  have nsK:∀ {b:Addr} {m:Str->Option Value},s₁.heap.Ns b m->(hidT s₁.heap H).Ns b m:=fun{b m} ⟨o,es,ep,e,d,r⟩=>⟨o,es,ep,base_of e (noA e d),d,r⟩
  have hKb:K.In (hidT s₁.heap H):=fun b o e=>base_of (KX b o e) (by
   cases q:H b with
   |none=>rfl
   |some u=>
    have e':b=a:=hA b (by rw[q];simp)
    subst e'
    rw[hK (by rw[q];simp)]at e;cases e)
  have hM:Mod K mg (hidT s₁.heap H):=⟨hKb,nsK hns,⟨mb,nsK hb,hbb⟩,let⟨mc,h1,h2⟩:=hlim;⟨mc,nsK h1,h2⟩⟩
  have e0:Env0 P w K mg (hidT s₁.heap H) callerA [] s₁ H:=⟨rfl,hM,fun b o e=>zLd e,Nat.le_of_eq (zIN _ _),trivial,fun b hb=>absurd (show b∈([]:List Addr)from hb) (by simp),hok, .of_eq hg⟩
  refine codeAny_mono ((F _ hKb (nsK hns)).run callerA [] s₁ H ⟨[.ref a],[]⟩ [.ref a] [.ref a] _ _ hr e0 (hbind s₁ (.ref a)) (.cons rfl .nil) (hsp H hO hS)) fun r s' h=>?_
  cases r with
  |error e=>exact(hCX H e s' h).elim
  |ok fl=>
   cases fl with
   |next=>exact False.elim h
   |brk=>exact False.elim h
   |cont=>exact False.elim h
   |ret u=>
    obtain⟨v,H',os,bare,un,hok',r',q⟩:=h
    have q':v= .bl true:=q
    subst q'
    obtain rfl:u=Value.bool true:=r'
    refine⟨rfl,OldK.of_keep fun b o e=>?_,os,bare⟩
    cases q:H b with
    |none=>exact un.keep b o e q (by intro z;exact absurd (show b∈([]:List Addr)from z) (by simp)) (by simp)
    |some u=>
     rcases hO b with z|⟨ob,xs,z⟩
     ·rw[q]at z;cases z
     ·have z2:=un.frzs b ob _ z
      obtain⟨e1,_⟩:=hok b _ z
      obtain⟨e2,_⟩:=hok' b _ z2
      rw[e]at e1;cases e1
      exact e2
 cases hk:K.lookup a with
 |some o=>
  have e:=KX a o hk
  rw[ha]at e
  cases e
  refine core (fun _=>none) (fun _=> .inl rfl) (.inr ⟨_,vs.toArray,_,hk,rfl,rfl,rfl,by rw[List.size_toArray,lenV];exact hl,by simpa using rv⟩) ⟨(fun b u z=>by have z':(none:Option HO)=some u:=z;cases z'),(fun u z=>nomatch (show(none:Option HO)=some u from z)),let⟨o,_,_,e,_⟩:=hns;⟨mainGlobals,o,by decide,e⟩⟩ (fun b z=>absurd rfl z) fun z=>absurd rfl z
 |none=>
  refine core (fun b=>if b=a then some (.frz {cls:= .type "list",data:= .seq vs.toArray} (.lst (ns.map V.int)))else none) (fun b=>?_) (.inl (.inr ⟨{cls:= .type "list",data:= .seq vs.toArray},if_pos rfl⟩)) ⟨fun b u z=>?_,(fun u z=>by
   by_cases hb:sysModules=a
   ·have z':=(if_pos hb).symm.trans z
    cases z';exact⟨_,_,rfl⟩
   ·have z':=(if_neg hb).symm.trans z
    cases z'),let⟨o,_,_,e,_⟩:=hns;⟨mainGlobals,o,by decide,e⟩⟩ (fun b z=>?_) fun _=>hk
  ·by_cases hb:b=a
   ·exact .inr ⟨_,_,if_pos hb⟩
   ·exact .inl (if_neg hb)
  ·by_cases hb:b=a
   ·have z':=(if_pos hb).symm.trans z
    cases z'
    subst hb
    exact⟨ha,by rw[List.length_map];exact hl,vs,_,rv,ha⟩
   ·have z':=(if_neg hb).symm.trans z
    cases z'
  ·by_cases hb:b=a
   ·exact hb
   ·exact absurd (if_neg hb) z
theorem walk_of{l:PySem.W.OpenLaw}{n k:Nat}{q:Program}{loose:List Str}{XP:(Str->Option Value)->Heap->Prop}{YP:World->Heap->Prop}{d:DefRec}{K:Params->PySem.W.Frag}{CX:World->CXT}{sp:World->Sp}{x:Str}
 (hn:l.most=some n) (hn2:n<=sizeLine) (hdf:d.params.defaults=[]) (hr:Room k callerA)
 (hY:∀ (w:World) (h:Heap),YP w h->(K w.params).In h)
 (F:∀ (w:World) (mg:Str->Option Value) (fa:Addr) (h:Heap),(K w.params).In h->h.Ns mainGlobals mg->mg d.name=some (.ref fa)->
   ∃fd:FuncData,(∀ (s:Shared) (u:Value),BindsTo s fd ⟨[u],[]⟩ [(x,u)])/\
    ∀base:Heap,(K w.params).In base->base.Ns mainGlobals mg->FnOk l.prog w (K w.params) mg base (CX w) k fa fd [x] (sp w))
 (hsp:∀ (w:World) (H:Hp) (a:Addr) (ns:List Int),ns.length<=n->Only H->SqL (K w.params) H a (ns.map V.int)->sp w [.ref a] H (fun v _=>v= .bl true) fun _ _ _=>False)
 (hCX:∀ (w:World) (H:Hp) (s:Shared) (e:Value) (s':Shared),CX w [] H s (fun _ _ _=>False) e s'->False):
 PySem.W.WalkO q loose XP YP l.row.toRowW d [] (fun f vs=>PySem.call f vs):=by
 refine Att.attach_call hn hdf fun w s₀ s₁ mg mb fa o pm cd doc a vs ns G Y ho hd hcd hmg hobj hints hlen hg=>?_
 have KX:=hY w _ Y
 obtain⟨fd,hb,hF⟩:=F w mg fa _ KX G.T.g hmg
 exact zJg KX G.T.g G.T.b G.T.builtins G.T.nolimit hg hobj hints (Nat.le_trans hlen hn2) hr hF hb (fun H hO hS=>hsp w H a ns hlen hO hS) fun H e s'=>hCX w H s₁ e s'
def defArgs(s:Stmt):Arguments:=match s with
 | .FunctionDef _ a _ _ _ _ _ _ _ _=>a
 |_=>{posonlyargs:=[],args:=[],vararg:=none,kwonlyargs:=[],kw_defaults:=[],kwarg:=none,defaults:=[]}
def defBody(s:Stmt):List Stmt:=match s with
 | .FunctionDef _ _ b _ _ _ _ _ _ _=>b
 |_=>[]
def defScope(s:Stmt):Scope:=match s with
 | .FunctionDef _ _ _ _ _ _ sc _ _ _=>sc
 |_=>{kind:= .function,names:=[],isGenerator:=false,isCoroutine:=false}
abbrev CX0:CXT:=fun _ _ _ _ _ _=>False
abbrev E0:XK:=fun _ _ _=>False
theorem pass0{X:Cx}:Passes CX0 X E0:=fun _ _ _ _ _ _ _ h=>h.elim
structure Fun (K:PySem.W.Frag) (x qual:Str) (st:Stmt) (f:Addr) (fd:FuncData):Prop where
 ex:∃ (oc:Value) (od:Option Addr) (kV doc pm:Value) (an:Option Addr) (cdv ct:Value) (osl:Array (Option Value)),
  fd=PySem.W.fnOf x qual (defArgs st) (defBody st) (defScope st) .none kV doc pm an cdv ct/\K.lookup f=some ⟨oc,od, .func fd,osl⟩/\PySem.W.codeIn K cdv qual=true
 kp:PySem.W.keepIn K (.ref f)=true
section
variable{P:Program}{w:World}{K:PySem.W.Frag}{mg:Str->Option Value}{base:Heap}
theorem Fun.ok{x qual:Str}{st:Stmt}{f:Addr}{fd:FuncData}{N ps:List Str}{k:Nat}{sp:Sp}(F:Fun K x qual st f fd)(S:FnScope N ps (defScope st))(len:∀vs H Q E,sp vs H Q E->vs.length=ps.length)
 (hbody:∀ (cdv:Value) (A:Around) (outer:List Env) (s:Shared) (H:Hp) (vs:List V) (Q:VK) (E:XK),Room k (A.deeper (envOfC qual (defScope st) s.heap.objs.size f cdv))->sp vs H Q E->
   ∃t,PSs (cxOf CX0 P w K mg base N qual (defScope st) f cdv A outer s H E).nox (defBody st) t/\t {nx:=fun _ H'=>Q .non H',rt:=Q} (start N vs) H):FnOk P w K mg base CX0 (k+1) f fd ps sp:=by
 obtain⟨oc,od,kV,doc,pm,an,cdv,ct,osl,rfl,lk,hcd⟩:=F.ex
 refine zNP lk hcd S len fun A outer s H vs Q E hr hsp=>?_
 obtain⟨t,h,q⟩:=hbody cdv A outer s H vs Q E hr hsp
 exact⟨t,h.nox,q⟩
theorem Fun.binds{x qual:Str}{st:Stmt}{f:Addr}{fd:FuncData}{ps:List Str}(F:Fun K x qual st f fd)
 (h:∀ (kV doc pm:Value) (an:Option Addr) (cdv ct:Value) (us:List Value),us.length=ps.length->bindArgs (PySem.W.fnOf x qual (defArgs st) (defBody st) (defScope st) .none kV doc pm an cdv ct) ⟨us,[]⟩=pure (ps.zip us)):Binds K fd ps []:=by
 obtain⟨oc,od,kV,doc,pm,an,cdv,ct,osl,rfl,lk,hcd⟩:=F.ex
 exact .all (h kV doc pm an cdv ct)
theorem zNO{x qual:Str}{st:Stmt}{f:Addr}{oc:Value}{od an:Option Addr}{osl:Array (Option Value)}{kV doc pm cdv ct:Value}(l:K.lookup f=some ⟨oc,od, .func (PySem.W.fnOf x qual (defArgs st) (defBody st) (defScope st) .none kV doc pm an cdv ct),osl⟩)
 (c:PySem.W.codeIn K cdv qual=true) (k:PySem.W.keepIn K (.ref f)=true):Fun K x qual st f (PySem.W.fnOf x qual (defArgs st) (defBody st) (defScope st) .none kV doc pm an cdv ct):=⟨⟨oc,od,kV,doc,pm,an,cdv,ct,osl,rfl,l,c⟩,k⟩
end
theorem small1000{n:Nat}(h:n<=1000):n<sizeLine:=Nat.lt_of_le_of_lt h (by decide)
section
variable{X:Cx}
theorem pv(i:Nat){x:Str}{pos:Pos}(hN:X.N[i]? =some x:=by rfl)(hv:Vis X.env.scope x:=by first|exact Or.inl rfl|exact Or.inr (Or.inl rfl)|exact Or.inr (Or.inr rfl))(hd:(x==("__debug__":Str))=false:=by decide)
 (hcd:(x==("__classdict__":Str))=false:=by decide):PE X (.Name x pos) (tVar i):=zMt hN hv hd hcd
end
theorem iteF{A B:Prop}(h:B):if false=true then A else B:=by
 rw[if_neg Bool.false_ne_true]
 exact h
theorem iteT{A B:Prop}(h:A):if true=true then A else B:=by
 rw[if_pos rfl]
 exact h
def Same(H H':Hp):Prop:=∀b o,H b=some o->H' b=some o
theorem Same.refl(H:Hp):Same H H:=fun _ _ h=>h
theorem Same.trans{H H1 H2:Hp}(a:Same H H1)(b:Same H1 H2):Same H H2:=fun c o h=>b c o (a c o h)
theorem Same.free{H H':Hp}(e:Same H H'){l:Addr}(h:H' l=Option.none):H l=Option.none:=by
 cases q:H l with
 |none=>rfl
 |some o=>
  rw[e l o q]at h
  cases h
theorem Same.seq{K:PySem.W.Frag}{H H':Hp}{a:Addr}{xs:List V}(e:Same H H')(h:SqL K H a xs):SqL K H' a xs:=by
 rcases h with(h|⟨o,h⟩)|h
 ·exact .inl (.inl (e _ _ h))
 ·exact .inl (.inr ⟨o,e _ _ h⟩)
 ·exact .inr h
end L2
set_option maxHeartbeats 8000000
namespace L2
open PySem PySem.Spec PyProof.Rows
theorem zFz{env:Env}:∀ (ns:List (Str×NameKind)) (acc:List (Str×Addr)),(∀y∈ns,y.2= .free->∃c,env.cells.lookup y.1=some c)->(∀x c,acc.lookup x=some c->env.cells.lookup x=some c)->
 ∃cl,(forIn ns acc fun(y:Str×NameKind) cs=>(if(y.2== .free)=true then(do let c<-cellOf env y.1;pure (ForInStep.yield ((y.1,c)::cs)))else pure (ForInStep.yield cs):Sem (ForInStep (List (Str×Addr)))))=pure cl/\
  (∀x c,cl.lookup x=some c->env.cells.lookup x=some c)/\(∀y∈ns,y.2= .free->∃c,cl.lookup y.1=some c)/\∀x c,acc.lookup x=some c->∃c',cl.lookup x=some c'
 |[],acc,_,ha=>⟨acc,rfl,ha,(fun _ h=>nomatch h),fun x c e=>⟨c,e⟩⟩
 |(n,k)::r,acc,hf,ha=>by
  rw[List.forIn_cons]
  by_cases hk:k= .free
  ·subst hk
   obtain⟨c,hc⟩:=hf (n, .free) List.mem_cons_self rfl
   have hcell:cellOf env n=pure c:=by unfold cellOf;rw[hc]
   have ha':∀x c',List.lookup x ((n,c)::acc)=some c'->env.cells.lookup x=some c':=fun x c' e=>by
    rw[List.lookup_cons]at e
    cases hx:x==n with
    |true=>rw[hx]at e;simp at e;subst e;rw[eq_of_beq hx];exact hc
    |false=>rw[hx]at e;exact ha x c' e
   obtain⟨cl,e1,e2,e3,e4⟩:=zFz r ((n,c)::acc) (fun y hy=>hf y (List.mem_cons_of_mem _ hy)) ha'
   refine⟨cl,?_,e2,fun y hy hyf=>?_,fun x c' e=>?_⟩
   ·simp only[beq_self_eq_true,if_true,hcell,pure_bind]
    exact e1
   ·rcases List.mem_cons.mp hy with rfl|hy
    ·exact e4 n c (by simp[List.lookup_cons])
    ·exact e3 y hy hyf
   ·cases hx:x==n with
    |true=>rw[eq_of_beq hx];exact e4 n c (by simp[List.lookup_cons])
    |false=>exact e4 x c' (by rw[List.lookup_cons,hx];exact e)
  ·have hb:(k==NameKind.free)=false:=by simpa using hk
   obtain⟨cl,e1,e2,e3,e4⟩:=zFz r acc (fun y hy=>hf y (List.mem_cons_of_mem _ hy)) ha
   refine⟨cl,?_,e2,fun y hy hyf=>?_,e4⟩
   ·simp only[hb,Bool.false_eq_true,if_false,pure_bind]
    exact e1
   ·rcases List.mem_cons.mp hy with rfl|hy
    ·exact absurd hyf hk
    ·exact e3 y hy hyf
theorem zF0{scope:Scope}{env:Env}(h:∀y∈scope.names,y.2= .free->∃c,env.cells.lookup y.1=some c):
 ∃cl,closureFor scope env=pure cl/\(∀x c,cl.lookup x=some c->env.cells.lookup x=some c)/\∀y∈scope.names,y.2= .free->∃c,cl.lookup y.1=some c:=by
 obtain⟨cl,e1,e2,e3,_⟩:=zFz (env:=env) scope.names [] h (fun x c e=>nomatch e)
 refine⟨cl,?_,e2,e3⟩
 have e:closureFor scope env=(forIn scope.names ([]:List (Str×Addr)) fun(y:Str×NameKind) cs=>(if(y.2== .free)=true then(do let c<-cellOf env y.1;pure (ForInStep.yield ((y.1,c)::cs)))else pure (ForInStep.yield cs):Sem (ForInStep (List (Str×Addr)))))>>=pure:=by
  rfl
 rw[e,e1,pure_bind]
def cxIn(X:Cx)(own:List Str)(sel:List Nat)(scope:Scope)(cl:List (Str×Addr))(C:Addr)(s2:Shared)(H2:Hp)(fp:List Addr):Cx where
 prog:=X.prog
 w:=X.w
 K:=X.K
 mg:=X.mg
 base:=X.base
 A:=X.A
 N:=own++sel.map fun j=>X.N.getD j Str.empty
 s₀:=s2
 H₀:=H2
 env:=compEnvC scope cl C X.env
 outer:=X.stack
 stack:=X.stack
 ex:=fp
 fn:=fun _=>false
 calm:=X.calm
 pn:=[]
 xe:=fun _ _=>False
def inSt(own:List Str)(sel:List Nat)(σ:St):St:=own.map (fun _=>none)++sel.map fun j=>σ.getD j none
structure CompOk (osc:Scope) (N:List Str) (own:List Str) (sel:List Nat) (scope:Scope):Prop where
 kind:scope.kind= .function
 cell:∀y∈scope.names,y.2≠ .cell
 names:∀y∈scope.names,y.2= .local->scope.names.lookup y.1=some .local
 free:∀y∈scope.names,y.2= .free->osc.names.lookup y.1=some .cell\/osc.names.lookup y.1=some .free
 seln:∀j∈sel,j<N.length/\scope.names.lookup (N.getD j Str.empty)=some .free/\(osc.names.lookup (N.getD j Str.empty)=some .cell\/osc.names.lookup (N.getD j Str.empty)=some .free)
def PIf(Y:Cx)(ifs:List Expr)(t:TT):Prop:=
 ∀ (pins:List (Addr×Obj)) (s:Shared) (σ:St) (H:Hp) (Q:Bool->Hp->Prop),Inv Y pins σ H s->t σ H Q->
   wpAny (model Y.prog Y.w) Y.A (forIn ifs true fun c r=>if r=true then do let ok<-isTrue c Y.env (eval c Y.env);pure (ForInStep.yield ok)else pure (ForInStep.yield r)) (TP Y pins σ Q) Y.xe s
def tYes:TT:=fun _ H Q=>Q true H
theorem zBX{Y:Cx}:PIf Y [] tYes:=fun pins s σ H Q I h=>wpAny_tests_nil ⟨H,I,h⟩
theorem zBk{Y:Cx}{c:Expr}{t:TT}(h:PT Y c t):PIf Y [c] t:=fun pins s σ H Q I hw=>wpAny_tests_one (h pins s σ H Q I hw)
def GK(n:Nat)(g:TG):Prop:=∀v σ H Q,g v σ H Q->g v σ H fun σ' H'=>Q σ' H'/\σ'.length=σ.length/\∀i,n<=i->σ'[i]? =σ[i]?
def GKs(n:Nat)(g:TGs):Prop:=∀vs σ H Q,g vs σ H Q->g vs σ H fun σ' H'=>Q σ' H'/\σ'.length=σ.length/\∀i,n<=i->σ'[i]? =σ[i]?
theorem zAW{n i:Nat}(h:i<n):GK n (gName i):=fun v σ H Q q=>⟨q,by simp,fun j hj=>by rw[List.getElem?_set_ne (by omega)]⟩
theorem zCl{n:Nat}:GKs n gNil:=fun vs σ H Q q=>⟨q.1,q.2,rfl,fun _ _=>rfl⟩
def GM(g:TG):Prop:=∀v σ H Q Q',(∀σ' H',Q σ' H'->Q' σ' H')->g v σ H Q->g v σ H Q'
def GMs(g:TGs):Prop:=∀vs σ H Q Q',(∀σ' H',Q σ' H'->Q' σ' H')->g vs σ H Q->g vs σ H Q'
theorem zAV{i:Nat}:GM (gName i):=fun _ _ _ _ _ h q=>h _ _ q
theorem zBC:GMs gNil:=fun _ _ _ _ _ h q=>⟨q.1,h _ _ q.2⟩
theorem zBK{t:TG}{u:TGs}(h1:GM t)(h2:GMs u):GMs (gCons t u):=fun vs σ H Q Q' h ⟨v,r,e,q⟩=>⟨v,r,e,h1 _ _ _ _ _ (fun σ' H' z=>h2 _ _ _ _ _ h z) q⟩
theorem zAv{n:Nat}{t:TG}{u:TGs}(m1:GM t)(m2:GMs u)(h1:GK n t)(h2:GKs n u):GKs n (gCons t u):=fun vs σ H Q ⟨v,r,e,q⟩=>by
 refine⟨v,r,e,m1 _ _ _ _ _ (fun σ' H' z=>?_) (h1 _ _ _ _ q)⟩
 obtain⟨q',l,k⟩:=z
 exact m2 _ _ _ _ _ (fun σ2 H2 ⟨a,b,c⟩=>⟨a,b.trans l,fun i hi=>(c i hi).trans (k i hi)⟩) (h2 _ _ _ _ q')
theorem zCk{K:PySem.W.Frag}{n m:Nat}{t:TGs}(h:GKs n t):GK n (gTup K m t):=fun v σ H Q ⟨a,xs,e1,e2,e3,q⟩=>⟨a,xs,e1,e2,e3,h _ _ _ _ q⟩
def tComp(own:List Str)(sel:List Nat)(wi:TI)(g:TG)(tt:TT)(te:TE):TE:=fun σ H Q=>wi σ H fun J H1=>∀D,H1 D=none->
 ∃W:Nat->Nat->Hp->Prop,(∃m,W 0 m (upd H1 D (.lst [])))/\∀i m H2,W i m H2->
  (J.stop i H2/\Q (.ref D) H2)\/(J.go i H2/\∀x H3,J.yld i H2 x H3->g x (inSt own sel σ) H3 fun σ4 H4=>tt σ4 H4 fun b H5=>
    if b=true then te σ4 H5 fun v H6=>∃ys,H6 D=some (.lst ys)/\ys.length<sizeLine/\∃m',m'<m/\W (i+1) m' (upd H6 D (.lst (ys++[v])))
    else∃m',m'<m/\W (i+1) m' H5)
section
variable{prog:Program}{w:World}{A:Around}{R:Result->Shared->Prop}{s:Shared}
theorem zDt{elt target iter:Expr}{ifs:List Expr}{scope:Scope}{pos:Pos}{it acc:Value}{env:Env}(I:Nat->Shared->Prop)
 (turn:∀n s,I n s->wpAny (model prog w) A (pyNext it) (fun r s1=>match r with
   |none=>R (.ok .next) s1
   |some v=>wpAny (model prog w) A (letOwnedTupleGo target it v) (fun _ s0=>wpAny (model prog w) A (assign target env v) (fun _ s2=>
     wpAny (model prog w) A (forIn ifs true fun c r=>if r=true then do let ok<-isTrue c env (eval c env);pure (ForInStep.yield ok)else pure (ForInStep.yield r)) (fun ok s3=>
      if ok=true then wpAny (model prog w) A (eval elt env) (fun x s4=>wpAny (model prog w) A (call (.builtin "list.append") [acc,x]) (fun _ s5=>∃m,m<n/\I m s5) (fun _ _=>False) s4) (fun _ _=>False) s3
      else∃m,m<n/\I m s3) (fun _ _=>False) s2) (fun _ _=>False) s0) (fun _ _=>False) s1) (fun _ _=>False) s)
 (n:Nat) (h:I n s):
 codeAny (model prog w) A (.compLoop (.ListComp elt [⟨target,iter,ifs,0⟩] scope pos) 0 it acc env) R s:=by
 refine codeAny_loop rfl I (fun n s hI=>?_) n h
 show wpAny _ A ((compTurn (.ListComp elt [⟨target,iter,ifs,0⟩] scope pos) 0 it acc env).onRaise (fun x=>do noteFrame x env;theTreesLotGoes x)) _ _ s
 refine wpAny_noted ?_
 rw[compTurn_list]
 refine wpAny_bind (wpAny_standAt (wpAny_bind (wpAny_mono (turn n s hI) (fun r s1 h1=>?_) fun _ _ z=>z.elim)))
 cases r with
 |none=>exact wpAny_pure h1
 |some v=>
  refine wpAny_bind (wpAny_mono h1 (fun _ s0 h0=>wpAny_bind (wpAny_mono h0 (fun _ s2 h2=>wpAny_bind (wpAny_mono h2 (fun ok s3 h3=>?_) fun _ _ z=>z.elim)) fun _ _ z=>z.elim)) fun _ _ z=>z.elim)
  cases ok with
  |false=>exact wpAny_pure ⟨rfl,h3⟩
  |true=>
   exact wpAny_bind (wpAny_bind (wpAny_mono h3 (fun x s4 h4=>wpAny_bind (wpAny_mono h4 (fun _ s5 h5=>wpAny_pure (wpAny_pure ⟨rfl,h5⟩)) fun _ _ z=>z.elim)) fun _ _ z=>z.elim))
end
section
variable{X:Cx}
theorem zAi{env:Env}:∀ {names:List (Str×NameKind)} {x:Str} {k:NameKind},
 (names.map fun(n,k)=>if(k==NameKind.free&&env.scope.kind== .function&&env.kindOf n==some .cell)then(n,NameKind.cell)else(n,k)).lookup x=some k->
 names.lookup x=some k\/names.lookup x=some .free
 |[],_,_,h=>by simp at h
 |(n,k')::r,x,k,h=>by
  have ih:= @zAi env r x k
  have h':List.lookup x ((if(k'==NameKind.free&&env.scope.kind== .function&&env.kindOf n==some .cell)=true then(n,NameKind.cell)else(n,k'))::r.map fun(n,k)=>if(k==NameKind.free&&env.scope.kind== .function&&env.kindOf n==some .cell)then(n,NameKind.cell)else(n,k))=some k:=h
  cases hx:x==n with
  |true=>
   rw[List.lookup_cons,hx]
   by_cases hc:(k'==NameKind.free&&env.scope.kind== .function&&env.kindOf n==some .cell)=true
   ·have:k'= .free:=by simp only[Bool.and_eq_true,beq_iff_eq]at hc;exact hc.1.1
    subst this
    exact .inr rfl
   ·rw[if_neg hc,List.lookup_cons,hx]at h'
    exact .inl h'
  |false=>
   rw[List.lookup_cons,hx]
   by_cases hc:(k'==NameKind.free&&env.scope.kind== .function&&env.kindOf n==some .cell)=true
   ·rw[if_pos hc,List.lookup_cons,hx]at h';exact ih h'
   ·rw[if_neg hc,List.lookup_cons,hx]at h';exact ih h'
theorem zBT{env:Env}(hk:env.scope.kind= .function):∀ {names:List (Str×NameKind)} {x:Str},names.lookup x=some .free->
 (names.map fun(n,k)=>if(k==NameKind.free&&env.scope.kind== .function&&env.kindOf n==some .cell)then(n,NameKind.cell)else(n,k)).lookup x=some .cell\/
 (names.map fun(n,k)=>if(k==NameKind.free&&env.scope.kind== .function&&env.kindOf n==some .cell)then(n,NameKind.cell)else(n,k)).lookup x=some .free
 |[],_,h=>by simp at h
 |(n,k')::r,x,h=>by
  have ih:= @zBT env hk r x
  show List.lookup x ((if(k'==NameKind.free&&env.scope.kind== .function&&env.kindOf n==some .cell)=true then(n,NameKind.cell)else(n,k'))::_)=_\/List.lookup x ((if(k'==NameKind.free&&env.scope.kind== .function&&env.kindOf n==some .cell)=true then(n,NameKind.cell)else(n,k'))::_)=_
  cases hx:x==n with
  |true=>
   rw[List.lookup_cons,hx]at h
   by_cases hc:(k'==NameKind.free&&env.scope.kind== .function&&env.kindOf n==some .cell)=true
   ·rw[if_pos hc,List.lookup_cons,hx];exact .inl rfl
   ·rw[if_neg hc,List.lookup_cons,hx];exact .inr h
  |false=>
   rw[List.lookup_cons,hx]at h
   by_cases hc:(k'==NameKind.free&&env.scope.kind== .function&&env.kindOf n==some .cell)=true
   ·rw[if_pos hc,List.lookup_cons,hx];exact ih h
   ·rw[if_neg hc,List.lookup_cons,hx];exact ih h
theorem zCt{own:List Str}{sel:List Nat}{σ:St}{i:Nat}(h:i<own.length):(inSt own sel σ)[i]? =some none:=by
 unfold inSt
 rw[List.getElem?_append_left (by simpa using h),List.getElem?_map,List.getElem?_eq_getElem h]
 rfl
theorem zEM{own:List Str}{sel:List Nat}{σ:St}{i:Nat}{v:V}(h:(inSt own sel σ)[i]? =some (some v)):∃k j,i=own.length+k/\sel[k]? =some j/\σ[j]? =some (some v):=by
 by_cases hi:i<own.length
 ·rw[zCt hi]at h;cases h
 ·unfold inSt at h
  rw[List.getElem?_append_right (by simpa using hi),List.getElem?_map]at h
  rw[List.length_map]at h
  cases e:sel[i-own.length]? with
  |none=>rw[e]at h;cases h
  |some j=>
   rw[e]at h
   simp only[Option.map_some,Option.some.injEq]at h
   refine⟨i-own.length,j,by omega,e,?_⟩
   rw[List.getD_eq_getElem?_getD]at h
   cases q:σ[j]? with
   |none=>rw[q]at h;cases h
   |some u=>rw[q]at h;simp at h;rw[h]
theorem zEN{own:List Str}{sel:List Nat}{σ:St}:(inSt own sel σ).length=own.length+sel.length:=by
 unfold inSt;simp
structure Far (X:Cx) (pins:List (Addr×Obj)) (H:Hp) (C:Addr):Prop where
 nt:H C=none
 nl:C≠X.env.locals
 up:X.s₀.heap.objs.size<=C
 nc:∀x c,X.env.cells.lookup x=some c->c≠C
 np:∀p∈X.pn++pins,p.1≠C
theorem Inv.far{pins:List (Addr×Obj)}{σ:St}{H:Hp}{s:Shared}{h':Heap}{C:Addr}(I:Inv X pins σ H s)(f:Far X pins H C)(k:Heap.SameBut C s.heap h'):Inv X pins σ H {s with heap:=h'}:=
 I.turned (t':=s.toks) (fun b o hb e=>(k.2 b hb).trans e) f.nt f.nl (.inr f.up) f.nc f.np
theorem zFJ{elt tg iter:Expr}{ifs:List Expr}{scope:Scope}{pos:Pos}{own:List Str}{sel:List Nat}{wi:TI}{g:TG}{tt:TT}{te:TE}{use:Option (Value->Sem Unit)}{Qo:Value->Shared->Prop}
 (S:CompOk X.env.scope X.N own sel scope) (hc:X.calm=true) (hi:PI X tg iter wi)
 (hg:∀cl C s2 H2 fp,PG (cxIn X own sel scope cl C s2 H2 fp) tg g) (hk:GK own.length g)
 (ht:∀cl C s2 H2 fp,PIf (cxIn X own sel scope cl C s2 H2 fp) ifs tt) (he:∀cl C s2 H2 fp,PE (cxIn X own sel scope cl C s2 H2 fp) elt te)
 (hs:∀x,foldedSetIterable iter X.env x=pure x) {pins:List (Addr×Obj)} {s:Shared} {σ:St} {H:Hp} {Q:VK} {ps:Pos} (I0:Inv X pins σ H s) (h:tComp own sel wi g tt te σ H Q)
 (fin:∀ (D C:Addr) (H':Hp) (s':Shared) (m:Str->Option Value),Inv X pins σ H' s'->s'.heap.Ns C m->Far X pins H' C->Q (.ref D) H'->compPost (model X.prog X.w) X.A X.xe use Qo (.ref D) C (.ok .next) s'):
 wpAny (model X.prog X.w) X.A (comprehension (.ListComp elt [⟨tg,iter,ifs,0⟩] scope pos) scope X.env ps (newList []) false (eval iter X.env) use) Qo X.xe s:=by
 obtain⟨cl,hclos,hcl,hfree⟩:=zF0 (scope:=scope) (env:=X.env) fun y hy e=>I0.ok.has y.1 (S.free y hy e)
 refine wpAny_comprehension_free (use:=use) rfl hs hclos S.kind S.names (thn (hi pins s σ H _ I0 h) fun v s1 h1=>thn h1 fun itv s2 h2=>?_)
 obtain⟨it,fp,tn,J,H2,e,I,T,st2,f2,h3⟩:=h2
 subst e
 clear h h1 I0
 refine wpAny_newObj_type (wpAny_newFunctionEnv S.cell (by intro y hy;simp at hy) (fun h1 hns1 hsb1=>?_) S.kind)
 dsimp only at hns1 hsb1⊢
 generalize hP:s2.heap.push {cls:= .type "list",dict:=none,data:= .seq ([]:List Value).toArray}=P1 at hns1 hsb1⊢
 generalize hD:s2.heap.objs.size=D at hns1 hsb1⊢
 generalize hC:P1.objs.size=C at hns1 hsb1⊢
 have hCD:C=D+1:=by rw[<-hC,<-hP,Heap.size_push,hD]
 have hlt:D<C:=by rw[hCD];exact Nat.lt_succ_self D
 have hDC:D≠C:=Nat.ne_of_lt hlt
 have neC:∀b:Addr,b<D->b≠C:=fun b hb=>Nat.ne_of_lt (Nat.lt_trans hb hlt)
 have neD:∀b:Addr,b<D->b≠D:=fun b hb=>Nat.ne_of_lt hb
 have hsD:s2.heap.objs.size<=D:=Nat.le_of_eq hD
 have hsC:s2.heap.objs.size<=C:=Nat.le_trans hsD (Nat.le_of_lt hlt)
 have fresh:∀a,D<=a->H2 a=none:=fun a ha=>I.hok.fresh (by rw[hD];exact ha)
 have hnD:H2 D=none:=fresh D (Nat.le_refl _)
 have hnC:H2 C=none:=fresh C (Nat.le_of_lt hlt)
 have below:∀b o,s2.heap.get? b=some o->b<D:=fun b o e=>by rw[<-hD];exact Heap.lt_size e
 have keep1:∀b o,s2.heap.get? b=some o->h1.get? b=some o:=fun b o e=>
  hsb1.extBut b o (neC b (below b o e)) (Heap.get?_push_of_some _ (hP▸Heap.get?_push_of_some _ e))
 have gD:h1.get? D=some {cls:= .type "list",dict:=none,data:= .seq ([]:List Value).toArray}:=by
  refine hsb1.extBut _ _ hDC (Heap.get?_push_of_some _ ?_)
  rw[<-hP,<-hD]
  exact Heap.get?_push_size _ rfl
 obtain⟨W,⟨m0,w0⟩,turn⟩:=h3 D hnD
 have fpb:∀b∈fp,b<D:=fun b hb=>by obtain⟨o,e,_⟩:=T.obj _ _ st2 b hb;exact below b o e
 generalize hY:cxIn X own sel scope cl C s2 H2 fp=Y
 have hg:=hg cl C s2 H2 fp
 have ht:=ht cl C s2 H2 fp
 have he:=he cl C s2 H2 fp
 rw[hY]at hg ht he
 have okY:Y.Ok:=by
  subst hY
  refine⟨I.ok.mod,S.kind,I.ok.glob,I.ok.blt,?_,fun x y c a b=>I.ok.inj x y c (hcl _ _ a) (hcl _ _ b),fun x hx=>?_,(fun _ _ z=>nomatch z),fun z=>I.ok.hd z,I.ok.frames, .inl rfl,fun b hb=>⟨?_,fun x c e=>(f2 b hb).2.2.2.2.1 x c (hcl _ _ e)⟩,I.bs,
   Nat.le_trans I.ok.bsz I.sz,fun b o e hb=>?_,fun b hb z=>?_,I.stack,I.stkFree⟩
  ·exact hsC
  ·have hx':(relabel scope X.env).names.lookup x=some .cell\/(relabel scope X.env).names.lookup x=some .free:=hx
   have hf:scope.names.lookup x=some .free:=by
    rcases hx' with z|z
    ·rcases zAi z with q|q
     ·exact absurd rfl (S.cell _ (PySem.mem_of_lookup q))
     ·exact q
    ·rcases zAi z with q|q<;>exact q
   exact hfree _ (PySem.mem_of_lookup hf) rfl
  ·exact neC b (fpb b hb)
  ·rcases(f2 b hb).2.2.2.1 with z|z
   ·exact I.ok.noex b o e z
   ·exact absurd (Nat.lt_of_lt_of_le (Heap.lt_size e) (Nat.le_trans I.ok.bsz z)) (Nat.lt_irrefl _)
  ·rcases List.mem_cons.mp (I.stkSub b z)with q|q
   ·exact(f2 b hb).2.1 q
   ·exact(f2 b hb).2.2.1 q
 have eo:ObjOk X.prog X.w (upd H2 D (.lst [])) h1 D (.lst []):=⟨by decide,[],_, .nil,gD⟩
 have I1:Inv Y [] (inSt own sel σ) (upd H2 D (.lst [])) {s2 with heap:=h1,toks:=s2.toks+([]:List (Str×Value)).length}:=by
  subst hY
  refine⟨okY,rfl,I.bare,Un.laid keep1 hsD hnD,⟨_,hns1,fun i x v e1 e2 e3=>?_⟩,fun x c e=>?_,?_,fun x c e=>?_,fun p hp=>absurd (show p∈([]:List (Addr×Obj))from hp) (by simp),I.hok.laid keep1 hsD eo,?_⟩
  ·obtain⟨k,j,ei,ej,es⟩:=zEM e2
   subst ei
   have e1':(own++sel.map fun j=>X.N.getD j Str.empty)[own.length+k]? =some x:=e1
   rw[List.getElem?_append_right (by omega),List.getElem?_map,show own.length+k-own.length=k by omega,ej]at e1'
   simp only[Option.map_some,Option.some.injEq]at e1'
   obtain⟨hj,hfx,hkd⟩:=S.seln j (List.mem_of_getElem? ej)
   have hN:X.N[j]? =some x:=by rw[<-e1',List.getD_eq_getElem?_getD,List.getElem?_eq_getElem hj];rfl
   rw[e1']at hkd hfx
   obtain⟨m,_,hl⟩:=I.loc
   obtain⟨u,r,lk⟩:=hl j x v hN es (.inr hkd)
   refine⟨u,r, .inr ⟨zBT I.ok.kind hfx,?_⟩⟩
   rcases lk with⟨z1,_⟩|⟨_,c,hc1,hc2⟩
   ·have z1':X.env.scope.names.lookup x=some .local:=z1
    rcases hkd with q|q<;>(rw[z1']at q;cases q)
   ·obtain⟨c',q⟩:=hfree _ (PySem.mem_of_lookup hfx) rfl
    have q2:=hcl _ _ q
    rw[hc1]at q2
    cases q2
    exact⟨c,q,hc2.keeps keep1⟩
  ·obtain⟨u,z⟩:=I.cell x c (hcl _ _ e)
   exact⟨u,z.keeps keep1⟩
  ·show upd H2 D (.lst []) C=none
   rw[zAG (Ne.symm hDC)];exact hnC
  ·have q:=I.freeC x c (hcl _ _ e)
   obtain⟨u,o,z,_⟩:=I.cell x c (hcl _ _ e)
   rw[zAG (neD c (below c o z))]
   exact q
  ·show(inSt own sel σ).length=(own++sel.map fun j=>X.N.getD j Str.empty).length
   rw[zEN];simp
 have fin:∀ (σ':St) (H':Hp) (s':Shared),Inv Y [] σ' H' s'->Q (.ref D) H'->compPost (model X.prog X.w) X.A X.xe use Qo (.ref D) C (.ok .next) s':=by
  intro σ' H' s' I' q
  subst hY
  obtain⟨m,hn,_⟩:=I'.loc
  have J':Inv X pins σ H' s':=I.call' I'.os I'.base I'.hok I'.bare fun b hb=>⟨(f2 b hb).2.2.2.1,(f2 b hb).2.1,(f2 b hb).2.2.2.2.1,(f2 b hb).2.2.2.2.2⟩
  refine fin D C H' s' m J' hn ⟨I'.free,Ne.symm (neC _ (by rw[<-hD];exact I.lt)),Nat.le_trans I.sz hsC,fun x c e=>?_,fun p hp=>?_⟩ q
  ·obtain⟨u,o,z,_⟩:=I.cell x c e
   exact neC c (below c o z)
  ·exact neC p.1 (below p.1 p.2 (I.pin p hp).1)
 have stat:∀ {H':Hp},(∀b∈fp,H' b=none)->∀b∈fp,FpOk Y [] H' b:=fun{H'} hn b hb=>by
  subst hY
  refine⟨hn b hb,neC b (fpb b hb),fun z=>?_, .inl hb,fun x c e=>(f2 b hb).2.2.2.2.1 x c (hcl _ _ e),fun p hp=>absurd (show p∈([]:List (Addr×Obj))from hp) (by simp)⟩
  rcases List.mem_cons.mp (I.stkSub b z)with q|q
  ·exact(f2 b hb).2.1 q
  ·exact(f2 b hb).2.2.1 q
 have loop:∀s3:Shared,s3={s2 with heap:=h1,toks:=s2.toks+([]:List (Str×Value)).length}->
  codeAny (model X.prog X.w) X.A (.compLoop (.ListComp elt [⟨tg,iter,ifs,0⟩] scope pos) 0 (.ref it) (.ref D) (compEnvC scope cl C X.env)) (compPost (model X.prog X.w) X.A X.xe use Qo (.ref D) C) s3:=by
  rintro s3 rfl
  have eP:Y.prog=X.prog:=by subst hY;rfl
  have eW:Y.w=X.w:=by subst hY;rfl
  have eA:Y.A=X.A:=by subst hY;rfl
  have eK:Y.K=X.K:=by subst hY;rfl
  have eE:Y.env=compEnvC scope cl C X.env:=by subst hY;rfl
  have eX:Y.xe=fun _ _=>False:=by subst hY;rfl
  have eC:Y.calm=true:=by subst hY;exact hc
  refine zDt (fun n s'=>∃i H',Inv Y [] (inSt own sel σ) H' s'/\tn i s'.heap/\(∀b∈fp,H' b=none)/\W i n H') ?_ m0
   ⟨0,_,I1,T.keep _ _ _ st2 fun b _ o e=>keep1 b o e,fun b hb=>by rw[zAG (neD b (fpb b hb))];exact(f2 b hb).1,w0⟩
  rintro n s4 ⟨i,H4,I4,st4,fr4,w4⟩
  rcases turn i n H4 w4 with⟨stop,q⟩|⟨go,step⟩
  ·have dn:=T.done Y eP eW eK eC i [] s4 _ H4 (fun _ _=>False) I4 (stat fr4) st4 stop
   rw[eA]at dn
   refine thn dn fun r s5 ⟨hr,I5⟩=>?_
   subst hr
   exact fin _ _ _ I5 q
  ·have im:=T.item Y eP eW eK eC i [] s4 _ H4 (fun _ _=>False) I4 (stat fr4) st4 go
   rw[eA]at im
   refine thn im fun r s5 ⟨u,hr,h5⟩=>?_
   subst hr
   refine thn h5 fun _ s6 ⟨x,H6,I6,r6,y6,st6,fr6⟩=>?_
   have I6':=I6.pinned (stat fr6) (T.obj _ _ st6)
   have back:∀ {σ7:St} {H7:Hp} {s7:Shared} {k:Nat},Inv Y ([]++pinsAt fp s6.heap) σ7 H7 s7->σ7.length=(inSt own sel σ).length->(∀j,own.length<=j->σ7[j]? =(inSt own sel σ)[j]?)->(∃m',m'<n/\W (i+1) m' H7)->
    ∃m',m'<n/\∃i H',Inv Y [] (inSt own sel σ) H' s7/\tn i s7.heap/\(∀b∈fp,H' b=none)/\W i m' H':=fun{σ7 H7 s7 k} I7 l7 k7 w7=>by
    obtain⟨m',hm,w7⟩:=w7
    refine⟨m',hm,i+1,H7,I7.unpinned.weak l7.symm fun j v e=>?_,T.keep _ _ _ st6 fun b hb o e=>(I7.pin (b,o) (List.mem_append_right _ (List.mem_append_right _ (zA7 hb e)))).1,fun b hb=>?_,w7⟩
    ·by_cases hj:j<own.length
     ·rw[zCt hj]at e;cases e
     ·rw[k7 j (Nat.le_of_not_lt hj)];exact e
    ·obtain⟨o,e,d⟩:=T.obj _ _ st6 b hb
     exact(I7.pin (b,o) (List.mem_append_right _ (List.mem_append_right _ (zA7 hb e)))).2.1
   have ga:=hg _ s6 _ H6 x u _ I6' r6 (hk _ _ _ _ (step x H6 y6))
   rw[eP,eW,eA,eE,eX]at ga
   refine thn ga fun _ s7 ⟨σ7,H7,I7,q7,l7,k7⟩=>?_
   have ta:=ht _ s7 σ7 H7 _ I7 q7
   rw[eP,eW,eA,eE,eX]at ta
   refine thn ta fun b s8 ⟨H8,I8,q8⟩=>?_
   cases b with
   |false=>
    rw[if_neg Bool.false_ne_true]at q8⊢
    exact back (k:=0) I8 l7 k7 q8
   |true=>
    rw[if_pos rfl]at q8⊢
    have ea:=he _ s8 σ7 H8 _ I8 q8
    rw[eP,eW,eA,eE,eX]at ea
    refine thn ea fun v s9 ⟨x9,H9,I9,r9,ys,hD9,hz9,q9⟩=>?_
    have aa:=zAr (X:=Y) _ s9 σ7 H9 (.ref D) [x9] (.ref D) [v] (fun _ H'=>∃m',m'<n/\W (i+1) m' H') I9 rfl (.cons r9 .nil) ⟨D,ys,x9,rfl,rfl,hD9,hz9,q9⟩
    rw[eP,eW,eA,eX]at aa
    exact thn aa fun _ s10 ⟨_,H10,I10,_,q10⟩=>back (k:=0) I10 l7 k7 q10
 exact codeAny_compStart_list (loop _ rfl) (T.self X.A 0 _ _ _ (T.keep _ _ _ st2 fun b _ o e=>keep1 b o e) (loop _ rfl))
theorem zBJ{elt tg iter:Expr}{ifs:List Expr}{scope:Scope}{pos:Pos}{own:List Str}{sel:List Nat}{wi:TI}{g:TG}{tt:TT}{te:TE}
 (S:CompOk X.env.scope X.N own sel scope) (hc:X.calm=true) (hi:PI X tg iter wi)
 (hg:∀cl C s2 H2 fp,PG (cxIn X own sel scope cl C s2 H2 fp) tg g) (hk:GK own.length g)
 (ht:∀cl C s2 H2 fp,PIf (cxIn X own sel scope cl C s2 H2 fp) ifs tt) (he:∀cl C s2 H2 fp,PE (cxIn X own sel scope cl C s2 H2 fp) elt te)
 (hs:∀x,foldedSetIterable iter X.env x=pure x:=by intro _;rfl):
 PE X (.ListComp elt [⟨tg,iter,ifs,0⟩] scope pos) (tComp own sel wi g tt te):=by
 intro pins s σ H Q I h
 rw[eval_ListComp]
 refine zFJ (use:=none) S hc hi hg hk ht he hs I h fun D C H' s' m I' hn f q=>?_
 exact⟨m,hn,fun h' k=>⟨.ref D,H',I'.far f k,rfl,q⟩⟩
theorem zB4{i:Nat}{x:Str}{pos' spos:Pos}{elt tg iter:Expr}{ifs:List Expr}{scope:Scope}{pos:Pos}{own:List Str}{sel:List Nat}{wi:TI}{g:TG}{tt:TT}{te:TE}
 (hN:X.N.Nodup) (hix:X.N[i]? =some x) (hx:Loc X.env.scope x)
 (S:CompOk X.env.scope X.N own sel scope) (hc:X.calm=true) (hi:PI X tg iter wi)
 (hg:∀cl C s2 H2 fp,PG (cxIn X own sel scope cl C s2 H2 fp) tg g) (hk:GK own.length g)
 (ht:∀cl C s2 H2 fp,PIf (cxIn X own sel scope cl C s2 H2 fp) ifs tt) (he:∀cl C s2 H2 fp,PE (cxIn X own sel scope cl C s2 H2 fp) elt te)
 (hs:∀x,foldedSetIterable iter X.env x=pure x:=by intro _;rfl)
 (hsw:swapsWith (.ListComp elt [⟨tg,iter,ifs,0⟩] scope pos) (some (.Name x pos')) spos.line X.env=pure true:=by rfl)
 (hf:X.fn x=true\/X.env.scope.names.lookup x=some .local:=by first|exact .inl rfl|exact .inr rfl|assumption):
 PS X (.Assign [.Name x pos'] (.ListComp elt [⟨tg,iter,ifs,0⟩] scope pos) spos) (tAsg (tComp own sel wi g tt te) (gName i)):=by
 intro pins s σ H D0 I h
 rw[exec_Assign_Name_used _ _ _ _ hsw]
 refine wpAny_bind (wpAny_standAt (wpAny_bind ?_))
 show wpAny _ X.A (do let _<-comprehension (.ListComp elt [⟨tg,iter,ifs,0⟩] scope pos) scope X.env _ (newList []) false (eval iter X.env) (some (assign (.Name x pos') X.env))) _ _ s
 refine wpAny_bind (wpAny_mono (zFJ (use:=some (assign (.Name x pos') X.env)) (Qo:=fun _ s'=>SP X pins D0 .next s') S hc hi hg hk ht he hs I h fun D C H' s' m I' hn f q=>?_) (fun _ s' hq=>wpAny_pure (wpAny_pure hq)) fun _ _ e=>e)
 show wpAny _ X.A (assign (.Name x pos') X.env (.ref D)) _ _ _
 refine wpAny_assign_Name (zEo (v:=V.ref D) I' hN hix hx rfl (fun s2 I2 ⟨a,k,ha⟩=>?_) hf)
 have haC:C≠a:=by
  rcases ha with rfl|ha
  ·exact f.nl
  ·exact Ne.symm (f.nc x a ha)
 exact⟨m,hn.sameBut k haC,fun h' k'=>⟨_,H',I2.far f k',q⟩⟩
end
section
variable{X:Cx}{pins:List (Addr×Obj)}{σ:St}{H:Hp}{s:Shared}{h':Heap}
theorem Inv.bigAfter{ch:List Addr}(I:Inv X pins σ H s)(hf:∀b∈ch,FpOk X pins H b)(k:∀b u,b∉ch->s.heap.get? b=some u->h'.get? b=some u):∃b o,1<b/\h'.get? b=some o:=by
 obtain⟨o,_,_,e,_⟩:=I.ok.mod.glob
 refine⟨mainGlobals,o,by decide,k _ _ (fun z=>?_) (I.bk _ _ e)⟩
 rcases(hf _ z).2.2.2.1 with q|q
 ·exact I.ok.noex _ _ e q
 ·exact absurd (Nat.lt_of_lt_of_le (Heap.lt_size e) (Nat.le_trans I.ok.bsz q)) (Nat.lt_irrefl _)
theorem Inv.turnedLaid{a:Addr}{o:HO}{t':Nat}{ch:List Addr}(I:Inv X pins σ H s)(hf:∀b∈ch,FpOk X pins H b)(k:∀b u,b∉ch->s.heap.get? b=some u->h'.get? b=some u)(hp:s.heap.objs.size<=a)
 (new:ObjOk X.prog X.w (upd H a o) h' a o):Inv X pins σ (upd H a o) {s with heap:=h',toks:=t'}:=by
 have hn:H a=none:=I.hok.fresh hp
 have ne:∀b u,s.heap.get? b=some u->b≠a:=fun b u e=>Nat.ne_of_lt (Nat.lt_of_lt_of_le (Heap.lt_size e) hp)
 have nt:∀b u,H b=some u->b∉ch:=fun b u e z=>by rw[(hf b z).1]at e;cases e
 refine I.step (g':=s.gens) (d':=s.drawn) (ch:=ch) (fun b hb=>⟨(hf b hb).2.2.2.1,(hf b hb).2.1,(hf b hb).2.2.2.2.1,(hf b hb).2.2.2.2.2⟩) (fun b u _ _ hc e _=>k b u hc e) (fun b u _ _ hc e _=>⟨u.slots,k b u hc e⟩)
  (fun b u _ e n=>by rw[zAG (ne b u e)];exact n) (fun b u hc e=>⟨u,k b u hc e⟩) (fun b xs e=>by rw[zAG (zAE e hn)];exact e) (fun b u xs e=>by rw[zAG (zAE e hn)];exact e)
  (fun b ps e=>⟨#[],by rw[zAG (zAE e hn),e];simp⟩) (fun m hm=>?_) ⟨fun b u e=>?_,fun u e=>I.hok.sm u (by
    by_cases hb:sysModules=a
    ·obtain⟨b,o',l,q⟩:=I.hok.bg
     exact absurd (Nat.lt_trans l (show b<sysModules from by rw[hb];exact Nat.lt_of_lt_of_le (Heap.lt_size q) hp)) (Nat.lt_irrefl 1)
    ·rw[zAG hb]at e;exact e),I.bigAfter hf k⟩ I.bare
 ·obtain⟨ob,es,ep,ho,r⟩:=hm
  exact⟨ob,es,ep,k _ ob (fun z=>(hf _ z).2.1 rfl) ho,r⟩
 ·by_cases hb:b=a
  ·subst hb;rw[zAC]at e;cases e;exact new
  ·rw[zAG hb]at e
   refine(I.hok b u e).stay (fun c v hc q=>k c v ?_ q) (fun c q=>by rw[zAG (zAE q hn)];exact q) fun c xs q=>by rw[zAG (zAE q hn)];exact q
   rcases hc with z|z
   ·rw[z];exact nt b u e
   ·exact nt c _ z
theorem Inv.turnedAll{t':Nat}{ch:List Addr}(I:Inv X pins σ H s)(hf:∀b∈ch,FpOk X pins H b)(k:∀b u,b∉ch->s.heap.get? b=some u->h'.get? b=some u):Inv X pins σ H {s with heap:=h',toks:=t'}:=by
 have nt:∀b u,H b=some u->b∉ch:=fun b u e z=>by rw[(hf b z).1]at e;cases e
 refine I.step (g':=s.gens) (d':=s.drawn) (ch:=ch) (fun b hb=>⟨(hf b hb).2.2.2.1,(hf b hb).2.1,(hf b hb).2.2.2.2.1,(hf b hb).2.2.2.2.2⟩) (fun b u _ _ hc e _=>k b u hc e) (fun b u _ _ hc e _=>⟨u.slots,k b u hc e⟩)
  (fun b u _ e n=>n) (fun b u hc e=>⟨u,k b u hc e⟩) (fun b xs e=>e) (fun b u xs e=>e) (fun b ps e=>⟨#[],by rw[e];simp⟩) (fun m hm=>?_) ⟨fun b u e=>?_,I.hok.sm,I.bigAfter hf k⟩ I.bare
 ·obtain⟨ob,es,ep,ho,r⟩:=hm
  exact⟨ob,es,ep,k _ ob (fun z=>(hf _ z).2.1 rfl) ho,r⟩
 ·refine(I.hok b u e).stay (fun c v hc q=>k c v ?_ q) (fun c q=>q) fun c xs q=>q
  rcases hc with z|z
  ·rw[z];exact nt b u e
  ·exact nt c _ z
end
def Its(x:Str):It:=⟨fun i _=>i<x.cps.size,fun i H v H'=>H'=H/\∃c,x.cps[i]? =some c/\v= .str ⟨#[c]⟩,fun i _=>i=x.cps.size⟩
section
variable{P:Program}{w:World}{K:PySem.W.Frag}{tg:Expr}
theorem zGB{x:Str}{t:Tok}{T:String}{it:Addr}(hT:T="str_ascii_iterator"\/T="str_iterator")
 (W:∀A:Around,A.handled=none->Walks P w A it [it] [it] x.cps.size (SignAt x) (fun i h=>h.IsStrIter it T x t i))
 (sf:∀ (A:Around) (i:Nat) (s:Shared) (Q:Value->Shared->Prop) (E:Value->Shared->Prop),s.heap.IsStrIter it T x t i->Q (.ref it) s->wpAny (model P w) A (pyIter (.ref it)) Q E s):
 Turn P w K tg (Its x) [it] it (fun i h=>h.IsStrIter it T x t i) where
 mem:=by simp
 obj:=fun i h st b hb=>by
  obtain⟨o,ho,_,hd⟩:=st
  have e:b=it:=by simpa using hb
  subst e
  exact⟨o,ho,fun v z=>by rw[hd]at z;cases z⟩
 keep:=fun i h h' st k=>by
  obtain⟨o,ho,r⟩:=st
  exact⟨o,k it (by simp) o ho,r⟩
 item:=by
  intro X hP hw hK hc i pins s σ H E I hf st hg
  subst hP hw hK
  refine(W X.A (I.ok.hd hc)).item i s _ _ hg st fun v h' tk hv st' kk=>?_
  obtain⟨c,u,hx,rfl⟩:=hv
  obtain⟨o,ho,hcl,hd⟩:=id st'
  have I1:Inv X pins σ H {s with heap:=h',toks:=tk}:=I.turnedAll hf kk
  refine⟨_,rfl,zIP (s:={s with heap:=h',toks:=tk}) (n:=T) ho hcl hd (by rcases hT with rfl|rfl<;>decide) ⟨.str ⟨#[c]⟩,H,I1,⟨u,rfl⟩,⟨rfl,c,hx,rfl⟩,st',fun b hb=>(hf b hb).1⟩⟩
 done:=by
  intro X hP hw hK hc i pins s σ H E I hf st hg
  subst hP hw hK
  have e:i=x.cps.size:=hg
  subst e
  exact(W X.A (I.ok.hd hc)).done s _ _ st fun h' tk kk=>⟨rfl,I.turnedAll hf kk⟩
 self:=fun A i s Q E st h=>sf A i s Q E st h
end
def iStr(tl:TE):TI:=fun σ H R=>tl σ H fun x H1=>∃z,x= .str z/\R (Its z) H1
theorem zGT{X:Cx}{tg l:Expr}{tl:TE}(hl:PE X l tl):PI X tg l (iStr tl):=by
 intro pins s σ H R I h
 refine thn (hl pins s σ H _ I h) fun v s1 ⟨x,H1,I1,r1,q1⟩=>?_
 obtain⟨z,rfl,q⟩:=q1
 obtain⟨t,rfl⟩:=r1
 have side:∀b∈[s1.heap.objs.size],FpOk X pins H1 b:=fun b hb=>by
  have e:b=s1.heap.objs.size:=by simpa using hb
  subst e
  exact I1.fpOk (Nat.le_refl _) (I1.hok.fresh (Nat.le_refl _))
 cases ha:z.cps.all (· <128)
 ·refine wpAny_pyIter_wide ha ⟨s1.heap.objs.size,[s1.heap.objs.size],_,_,H1,rfl,I1.kept (t':=s1.toks) fun b o e=>Heap.get?_push_of_some _ e,zGB (t:=t) (T:="str_iterator") (.inr rfl) (fun A hh=>Walks.strWide hh _ z t) (fun A i s Q E st h=>wpAny_pyIter_striter_wide st h),⟨_,Heap.get?_push_size _ rfl,rfl,rfl⟩,side,q⟩
 ·refine wpAny_pyIter_ascii ha ⟨s1.heap.objs.size,[s1.heap.objs.size],_,_,H1,rfl,I1.kept (t':=s1.toks) fun b o e=>Heap.get?_push_of_some _ e,zGB (t:=t) (T:="str_ascii_iterator") (.inl rfl) (fun A hh=>Walks.strAscii hh _ z t) (fun A i s Q E st h=>wpAny_pyIter_striter_ascii st h),⟨_,Heap.get?_push_size _ rfl,rfl,rfl⟩,side,q⟩
def IteS(x:Str):It:=⟨fun i _=>i<x.cps.size,fun i H v H'=>∃T c,H T=none/\x.cps[i]? =some c/\v= .ref T/\H'=upd H T (.tup [.int i, .str ⟨#[c]⟩]),fun i _=>i=x.cps.size⟩
def IteL(K:PySem.W.Frag)(a:Addr):It:=⟨fun i H=>∃xs x,SqL K H a xs/\xs[i]? =some x,fun i H v H'=>∃T x,H T=none/\(∀xs,SqL K H a xs->xs[i]? =some x)/\v= .ref T/\H'=upd H T (.tup [.int i,x]),
 fun i H=>∃xs,SqL K H a xs/\i=xs.length⟩
section
variable{P:Program}{w:World}{K:PySem.W.Frag}{elts:List Expr}{k:Nat}{tpos:Pos}
theorem zFD{X:Cx}{pins:List (Addr×Obj)}{σ:St}{H:Hp}{s:Shared}{E:Value->Shared->Prop}{e it:Addr}{fp:List Addr}{n i:Nat}{Pr:Nat->Value->Prop}{St:Nat->Heap->Prop}{old:Value}{Qx:Value->Hp->V->Prop}{tn:Heap->Prop}
 (D:Draws X.prog X.w X.A.in1 it fp n Pr St) (I:Inv X pins σ H s) (hf:∀b∈[e,it],FpOk X pins H b) (he:IsEnum s.heap e it i old) (hst:St i s.heap) (hlt:i<n) (hne:e≠it) (hef:e∉fp)
 (tnk:∀h' o,IsEnum h' e it ((i:Int)+1) o->St (i+1) h'->tn h') (y:∀v,Pr i v->∃z,RelV z v/\Qx v H z):
 wpAny (model X.prog X.w) X.A (pyNext (.ref e)) (fun r s1=>∃u,r=some u/\wpAny (model X.prog X.w) X.A (letOwnedTupleGo (.Tuple elts k tpos) (.ref e) u) (fun _ s2=>∃x H',Inv X pins σ H' s2/\RelV x u/\
  (∃T z v,H T=none/\Pr i v/\RelV z v/\Qx v H z/\x= .ref T/\H'=upd H T (.tup [.int i,z]))/\tn s2.heap/\∀b∈[e,it],H' b=none) E s1) E s:=by
 refine wpAny_pyNext_enum_itemD D he hst hlt hne hef fun v h1 tk hP ho hs' hT hsz hk=>⟨_,rfl,wpAny_letOwnedTupleGo_enum ho fun h2 he2 hs2=>?_⟩
 obtain⟨z,rz,qz⟩:=y v hP
 have hel:e<s.heap.objs.size:=Heap.lt_size he
 have hil:it<s.heap.objs.size:=by obtain⟨_,q⟩:=D.live _ _ hst;exact Heap.lt_size q
 have hT2:h2.get? s.heap.objs.size=some {cls:= .type "tuple",data:= .seq #[.int i tk,v]}:=(hs2.2 _ (Nat.ne_of_gt hel)).trans hT
 have ob:ObjOk X.prog X.w (upd H s.heap.objs.size (.tup [.int i,z])) h2 s.heap.objs.size (.tup [.int i,z]):=⟨(by show 2<=sizeLine;decide),[.int i tk,v], .cons ⟨tk,rfl⟩ (.cons rz .nil),⟨_,hT2,rfl,_,rfl⟩⟩
 have I2:Inv X pins σ (upd H s.heap.objs.size (.tup [.int i,z])) {s with heap:=h2,toks:=tk+1}:=I.turnedLaid hf (fun b u hb q=>(hs2.2 b (fun z=>hb (by simp[z]))).trans (hk b u (fun z=>hb (by simp[z])) (fun z=>hb (by simp[z])) q)) (Nat.le_refl _) ob
 refine⟨.ref s.heap.objs.size,_,I2,rfl,⟨s.heap.objs.size,z,v,I.hok.fresh (Nat.le_refl _),hP,rz,qz,rfl,rfl⟩,tnk h2 _ he2 (D.frame _ _ _ hs' fun b hb o q=>(hs2.2 b fun z=>hef (z▸hb)).trans q),fun b hb=>?_⟩
 have hb':b≠s.heap.objs.size:=by
  rcases List.mem_cons.mp hb with z|hb
  ·rw[z];exact Nat.ne_of_lt hel
  ·rw[List.mem_singleton.mp hb];exact Nat.ne_of_lt hil
 rw[zAG hb']
 exact(hf b hb).1
theorem zDh{x:Str}{t:Tok}{T:String}{e it:Addr}(hne:e≠it)
 (W:∀A:Around,A.handled=none->Draws P w A it [it] x.cps.size (fun i v=>∃c u,x.cps[i]? =some c/\v= .str ⟨#[c]⟩ u) (fun i h=>h.IsStrIter it T x t i)):
 Turn P w K (.Tuple elts k tpos) (IteS x) [e,it] e (fun i h=>(∃old,IsEnum h e it i old)/\h.IsStrIter it T x t i) where
 mem:=by simp
 obj:=fun i h st b hb=>by
  obtain⟨⟨old,he⟩,o,ho,_,hd⟩:=st
  rcases List.mem_cons.mp hb with z|hb
  ·subst z;exact⟨_,he,fun v z=>by cases z⟩
  ·rw[List.mem_singleton.mp hb];exact⟨o,ho,fun v z=>by rw[hd]at z;cases z⟩
 keep:=fun i h h' st k=>by
  obtain⟨⟨old,he⟩,o,ho,r⟩:=st
  exact⟨⟨old,k e (by simp) _ he⟩,o,k it (by simp) o ho,r⟩
 item:=by
  intro X hP hw hK hc i pins s σ H E I hf st hg
  subst hP hw hK
  obtain⟨⟨old,he⟩,st⟩:=st
  refine thn (zFD (elts:=elts) (k:=k) (tpos:=tpos) (Qx:=fun v H z=>∃c,x.cps[i]? =some c/\z= .str ⟨#[c]⟩) (tn:=fun h=>(∃old,IsEnum h e it ((i+1:Nat):Int) old)/\h.IsStrIter it T x t (i+1)) (W X.A.in1 (I.ok.hd hc)) I hf he st hg hne (fun z=>hne (List.mem_singleton.mp z)) (fun h' o a b=>⟨⟨o,by simpa using a⟩,b⟩) ?_) ?_
  ·rintro v ⟨c,u,hx,rfl⟩
   exact⟨.str ⟨#[c]⟩,⟨u,rfl⟩,c,hx,rfl⟩
  ·rintro r s1 ⟨u,hr,h1⟩
   refine⟨u,hr,thn h1 ?_⟩
   rintro _ s2 ⟨xv,H',I2,rx,⟨Ta,z,v,hT,hv,rz,⟨c,hx,rfl⟩,ex,eH⟩,tn2,fr⟩
   exact⟨xv,H',I2,rx,⟨Ta,c,hT,hx,ex,eH⟩,tn2,fr⟩
 done:=by
  intro X hP hw hK hc i pins s σ H E I hf st hg
  subst hP hw hK
  obtain⟨⟨old,he⟩,st⟩:=st
  have ei:i=x.cps.size:=hg
  subst ei
  exact wpAny_pyNext_enum_endD (W X.A.in1 (I.ok.hd hc)) he st fun h' hx=>⟨rfl,I.turnedAll (t':=s.toks) hf fun b o hb q=>hx b o (fun z=>hb (by simp[z])) q⟩
 self:=fun A i s Q E st h=>by
  obtain⟨⟨old,he⟩,_⟩:=st
  exact wpAny_pyIter_enum he h
theorem zGn{a e it:Addr}(hne:e≠it)(hai:a≠it)(hae:a≠e):
 Turn P w K (.Tuple elts k tpos) (IteL K a) [e,it] e (fun i h=>(∃old,IsEnum h e it i old)/\h.IsListIter it a i) where
 mem:=by simp
 obj:=fun i h st b hb=>by
  obtain⟨⟨old,he⟩,o,ho,_,hd⟩:=st
  rcases List.mem_cons.mp hb with z|hb
  ·subst z;exact⟨_,he,fun v z=>by cases z⟩
  ·rw[List.mem_singleton.mp hb];exact⟨o,ho,fun v z=>by rw[hd]at z;cases z⟩
 keep:=fun i h h' st k=>by
  obtain⟨⟨old,he⟩,o,ho,r⟩:=st
  exact⟨⟨old,k e (by simp) _ he⟩,o,k it (by simp) o ho,r⟩
 item:=by
  intro X hP hw hK hc i pins s σ H E I hf st hg
  subst hP hw hK
  obtain⟨⟨old,he⟩,st⟩:=st
  obtain⟨xs,x,hq,hx⟩:=hg
  obtain⟨its,rv,pl,hz⟩:=I.list hq
  have hl:=rv.length
  have hil:i<xs.length:=(List.getElem?_eq_some_iff.mp hx).1
  have D:Draws X.prog X.w X.A.in1 it [it,a] its.toArray.size (fun i v=>its.toArray[i]? =some v) (fun i h=>h.IsListIter it a i/\h.IsList a its.toArray):=Draws.list (A:=X.A.in1) (I.ok.hd hc) it a hai its.toArray
  refine thn (zFD (elts:=elts) (k:=k) (tpos:=tpos) (Qx:=fun v H z=>z=x) (tn:=fun h=>(∃old,IsEnum h e it ((i+1:Nat):Int) old)/\h.IsListIter it a (i+1)) D I hf he ⟨st,pl.isList⟩ (by rw[List.size_toArray,<-hl];exact hil) hne (fun z=>?_) (fun h' o a b=>⟨⟨o,by simpa using a⟩,b.1⟩) ?_) ?_
  ·rcases List.mem_cons.mp z with z|z
   ·exact hne z
   ·exact hae (List.mem_singleton.mp z).symm
  ·intro v hv
   obtain⟨u,eu,ru⟩:=rv.get hx
   have:v=u:=by
    have hv':its[i]? =some v:=by simpa using hv
    rw[eu]at hv'
    exact(Option.some.inj hv').symm
   subst this
   exact⟨x,ru,rfl⟩
  ·rintro r s1 ⟨u,hr,h1⟩
   refine⟨u,hr,thn h1 ?_⟩
   rintro _ s2 ⟨xv,H',I2,rx,⟨Ta,z,v,hT,hv,rz,rfl,ex,eH⟩,tn2,fr⟩
   refine⟨xv,H',I2,rx,⟨Ta,z,hT,fun ys hys=>?_,ex,eH⟩,tn2,fr⟩
   rw[I.list_inj hys hq]
   exact hx
 done:=by
  intro X hP hw hK hc i pins s σ H E I hf st hg
  subst hP hw hK
  obtain⟨⟨old,he⟩,st⟩:=st
  obtain⟨xs,hq,ei⟩:=hg
  obtain⟨its,rv,pl,hz⟩:=I.list hq
  have hl:=rv.length
  have D:Draws X.prog X.w X.A.in1 it [it,a] its.toArray.size (fun i v=>its.toArray[i]? =some v) (fun i h=>h.IsListIter it a i/\h.IsList a its.toArray):=Draws.list (A:=X.A.in1) (I.ok.hd hc) it a hai its.toArray
  have es:i=its.toArray.size:=by rw[List.size_toArray,<-hl];exact ei
  exact wpAny_pyNext_enum_endD D he ⟨es▸st,pl.isList⟩ fun h' hx=>⟨rfl,I.turnedAll (t':=s.toks) hf fun b o hb q=>hx b o (fun z=>hb (by simp[z])) q⟩
 self:=fun A i s Q E st h=>by
  obtain⟨⟨old,he⟩,_⟩:=st
  exact wpAny_pyIter_enum he h
end
def iEnS(ta:TA):TI:=fun σ H R=>ta σ H fun vs H1=>∃z,vs=[.str z]/\R (IteS z) H1
def iEnL(K:PySem.W.Frag)(ta:TA):TI:=fun σ H R=>ta σ H fun vs H1=>∃a,vs=[.ref a]/\(∃xs,SqL K H1 a xs)/\R (IteL K a) H1
section
variable{X:Cx}{a:Expr}{ta:TA}{p pos:Pos}{elts:List Expr}{k:Nat}{tpos:Pos}
theorem fresh2{pins:List (Addr×Obj)}{σ:St}{H:Hp}{s:Shared}(I:Inv X pins σ H s):∀b∈[s.heap.objs.size+1,s.heap.objs.size],FpOk X pins H b:=fun b hb=>by
 rcases List.mem_cons.mp hb with z|hb
 ·subst z;exact I.fpOk (Nat.le_succ _) (I.hok.fresh (Nat.le_succ _))
 ·rw[List.mem_singleton.mp hb];exact I.fpOk (Nat.le_refl _) (I.hok.fresh (Nat.le_refl _))
theorem zGU(hg:Gl X "enumerate")(hm:X.mg "enumerate"=none)(ha:PA X [a] ta)(hs:starEach [a] X.env=[(false,eval a X.env)]:=by rfl):PI X (.Tuple elts k tpos) (.Call (.Name "enumerate" p) [a] [] pos) (iEnS ta):=by
 intro pins s σ H R I h
 refine Call_ (zBv I hg hm boot_enumerate (PyProof.Rows.callWith_type1 (thn (ha pos pins s σ H _ I h) fun us s1 ⟨vs,H1,I1,r1,q1⟩=>?_) hs rfl))
 obtain⟨z,e,q⟩:=q1
 subst e
 cases r1 with
 |cons r rr=>
  cases rr
  obtain⟨t,rfl⟩:=r
  refine call_enumerate_str fun h' he hit hsz hk=>wpAny_pyIter_enum he ?_
  cases hall:z.cps.all (· <128)
  ·have hit':h'.IsStrIter s1.heap.objs.size "str_iterator" z t 0:=by simpa[strIterType,hall]using hit
   exact⟨s1.heap.objs.size+1,[s1.heap.objs.size+1,s1.heap.objs.size],_,_,H1,rfl,I1.kept (t':=s1.toks) hk,zDh (t:=t) (T:="str_iterator") (Nat.succ_ne_self _) (fun A hh=>Draws.strWide hh _ z t),⟨⟨_,he⟩,hit'⟩,fresh2 I1,q⟩
  ·have hit':h'.IsStrIter s1.heap.objs.size "str_ascii_iterator" z t 0:=by simpa[strIterType,hall]using hit
   exact⟨s1.heap.objs.size+1,[s1.heap.objs.size+1,s1.heap.objs.size],_,_,H1,rfl,I1.kept (t':=s1.toks) hk,zDh (t:=t) (T:="str_ascii_iterator") (Nat.succ_ne_self _) (fun A hh=>Draws.strAscii hh _ z t),⟨⟨_,he⟩,hit'⟩,fresh2 I1,q⟩
theorem zJU(hg:Gl X "enumerate")(hm:X.mg "enumerate"=none)(ha:PA X [a] ta)(hs:starEach [a] X.env=[(false,eval a X.env)]:=by rfl):PI X (.Tuple elts k tpos) (.Call (.Name "enumerate" p) [a] [] pos) (iEnL X.K ta):=by
 intro pins s σ H R I h
 refine Call_ (zBv I hg hm boot_enumerate (PyProof.Rows.callWith_type1 (thn (ha pos pins s σ H _ I h) fun us s1 ⟨vs,H1,I1,r1,q1⟩=>?_) hs rfl))
 obtain⟨l,e,⟨xs,hq⟩,q⟩:=q1
 subst e
 cases r1 with
 |cons r rr=>
  cases rr
  cases r
  obtain⟨its,rv,pl,hz⟩:=I1.list hq
  obtain⟨ol,hol,_⟩:=id pl.isList
  have hl:l<s1.heap.objs.size:=Heap.lt_size hol
  refine call_enumerate_list pl.isList fun h' he hit hsz hk=>wpAny_pyIter_enum he ?_
  exact⟨s1.heap.objs.size+1,[s1.heap.objs.size+1,s1.heap.objs.size],_,_,H1,rfl,I1.kept (t':=s1.toks) hk,zGn (Nat.succ_ne_self _) (Nat.ne_of_lt hl) (Nat.ne_of_lt (Nat.lt_succ_of_lt hl)),⟨⟨_,he⟩,hit⟩,fresh2 I1,q⟩
end
def tx(l:List Nat):V:= .str ⟨l.toArray⟩
theorem tx_inj{a b:List Nat}:tx a=tx b↔a=b:=by
 unfold tx
 constructor
 ·intro h
  injection h with h
  injection h with h
  simpa using congrArg Array.toList h
 ·rintro rfl;rfl
theorem zBp(a:List Nat):(⟨a.toArray⟩:Str).length=a.length:=by simp[Str.length]
theorem zNV(a b:List Nat):eqV (tx a) (tx b)=decide (a=b):=by
 have e:eqV (tx a) (tx b)=((⟨a.toArray⟩:Str)==⟨b.toArray⟩):=rfl
 rw[e]
 by_cases h:a=b
 ·subst h;simp
 ·rw[decide_eq_false h,beq_eq_false_iff_ne]
  intro q
  exact h (tx_inj.mp (congrArg V.str q))
theorem zKb(a b:List Nat):decide (tx a=tx b)=decide (a=b):=by
 by_cases h:a=b
 ·subst h;simp
 ·rw[decide_eq_false h,decide_eq_false (fun q=>h (tx_inj.mp q))]
section
variable{X:Cx}
theorem zBH{x:Str}{l:List Nat}{j pos}(h:x=⟨l.toArray⟩):PE X (.Constant (.str x) j pos) (tC (tx l)):=by
 subst h
 exact zMu
theorem op_addT:OpR X (binaryOp .Add) (fun x y H Q=>∃a b,x=tx a/\y=tx b/\a.length+b.length<=sizeLine/\Q (tx (a++b)) H):=by
 intro pins s σ H x y v u Q I rx ry ⟨a,b,e1,e2,hz,q⟩
 subst e1 e2
 refine zGy pins s σ H _ _ v u Q I rx ry ⟨_,_,rfl,rfl,by rw[zBp,zBp];exact hz,?_⟩
 have e:(V.str ((⟨a.toArray⟩:Str)++⟨b.toArray⟩))=tx (a++b):=by
  unfold tx
  congr 1
  show(⟨a.toArray++b.toArray⟩:Str)=_
  simp
 rw[e];exact q
def rIxT':R2:=fun x y H Q=>∃a i c,x=tx a/\y= .int i/\a.length<=sizeLine/\atI a i=some c/\Q (tx [c]) H
theorem ix_T:IxR X rIxT':=by
 intro value slice pins s σ H x y v u Q I rx ry ⟨a,i,c,e1,e2,hz,he,q⟩ hs
 subst e1 e2
 exact zNI value slice pins s σ H _ _ v u Q I rx ry ⟨_,i,c,rfl,rfl,by rw[zBp];exact hz,by simpa using he,q⟩ hs
theorem call_lenT:CallR X (.builtin "len") (fun xs H Q=>∃a,xs=[tx a]/\a.length<=sizeLine/\Q (.int a.length) H):=by
 intro pins s σ H xs us Q I r ⟨a,e,hz,q⟩
 subst e
 refine zFM pins s σ H _ us Q I r ⟨_,rfl,by rw[zBp];exact hz,?_⟩
 rw[zBp];exact q
theorem op_inT:OpR X (compareOp .In) (fun x y H Q=>∃c l,x=tx [c]/\y=tx l/\Q (.bl (decide (c∈l))) H):=by
 intro pins s σ H x y v u Q I rx ry ⟨c,l,e1,e2,q⟩
 subst e1 e2
 refine zH3 pins s σ H _ _ v u Q I rx ry ⟨_,_,rfl,rfl,?_⟩
 have e:=PySem.StrLaws.found_one (⟨l.toArray⟩:Str) c
 simp only at e
 rw[show(⟨[c].toArray⟩:Str)=⟨#[c]⟩from rfl,e]
 exact q
theorem zGN(a:List Nat):∀ (n:Nat) (acc:Array Nat),((List.replicate n a.toArray).foldl (· ++ ·) acc)=(acc.toList++(List.replicate n a).flatten).toArray
 |0,acc=>by simp
 |n+1,acc=>by
  rw[List.replicate_succ,List.foldl_cons,zGN a n,List.replicate_succ,List.flatten_cons]
  simp
theorem zH1:OpR X (binaryOp .Mult) (fun x y H Q=>∃a k,x=tx a/\y= .int k/\0<=k/\k<=1000/\a.length<=1000/\Q (tx (List.replicate k.toNat a).flatten) H):=by
 intro pins s σ H x y v u Q I rx ry ⟨a,k,e1,e2,h0,h1,hl,q⟩
 subst e1 e2
 obtain⟨t,rfl⟩:=rx
 obtain⟨t',rfl⟩:=ry
 have e:Txt.mul ⟨a.toArray⟩ k=⟨((List.replicate k.toNat a).flatten).toArray⟩:=by
  unfold Txt.mul
  by_cases hk:k<1
  ·have:k=0:=by omega
   subst this
   rfl
  ·rw[if_neg hk]
   split
   ·rename_i hc
    rw[zBp]at hc
    simp only[Bool.or_eq_true,beq_iff_eq]at hc
    rcases hc with hc|hc
    ·subst hc;simp
    ·have:a=[]:=List.length_eq_zero_iff.mp hc
     subst this
     simp
   ·simp only
    rw[zGN]
    simp
 refine SB.mul ⟨by simp;omega,fun h2 _=>?_,fun h2 _=>?_⟩ fun t2 tk=>⟨tx (List.replicate k.toNat a).flatten,H,I.tok tk,⟨t2,by rw[e]⟩,q⟩
 ·rw[zBp]
  have:(1000:Int)<=(2^63-1)/k:=by
   refine Int.le_ediv_of_mul_le (by omega) ?_
   omega
  omega
 ·rw[zBp]
  unfold Builtin.Str.tooLong
  have hs:sizeLine=16777216:=sizeLine_eq
  have:a.length*k.toNat<=1000*1000:=Nat.mul_le_mul hl (by omega)
  simp;omega
def cutL{α:Type}(xs:List α)(lo hi:Option Int):List α:=(xs.drop (HT.sIx xs.length 0 lo)).take (HT.sIx xs.length xs.length hi-HT.sIx xs.length 0 lo)
theorem clipS(v:Option Int)(n d:Nat)(hd:d<=n):(match v with|none=>(d:Int)|some i=>max 0 (min (if i<0 then i+(n:Int)else i) (n:Int)))=((HT.sIx n d v:Nat):Int):=by
 cases v with
 |none=>rfl
 |some i=>
  show max 0 (min (if i<0 then i+(n:Int)else i) (n:Int))=(((if i<0 then(i+(n:Int)).toNat else min i.toNat n):Nat):Int)
  by_cases hv:i<0
  ·simp only[if_pos hv];omega
  ·simp only[if_neg hv];omega
theorem zLo(lo hi:Option Int)(n:Nat):Builtin.Str.strSliceIndices lo hi 1 n=(List.range (HT.sIx n n hi-HT.sIx n 0 lo)).map fun k=>HT.sIx n 0 lo+k:=by
 have h1:(1:Int)>0:=by omega
 have key:Builtin.Str.strSliceIndices lo hi 1 n=sliceRange ((HT.sIx n 0 lo:Nat):Int) ((HT.sIx n n hi:Nat):Int) 1:=by
  unfold Builtin.Str.strSliceIndices
  simp only[h1,if_true]
  congr 1
  ·cases lo with
   |none=>rfl
   |some i=>exact clipS (some i) n 0 (Nat.zero_le _)
  ·cases hi with
   |none=>rfl
   |some i=>exact clipS (some i) n n (Nat.le_refl _)
 rw[key]
 unfold sliceRange
 simp only[h1,if_true]
 have e3:(if((HT.sIx n 0 lo:Nat):Int)<((HT.sIx n n hi:Nat):Int)then(((HT.sIx n n hi:Nat):Int)-((HT.sIx n 0 lo:Nat):Int)+1-1)/1 else 0).toNat=HT.sIx n n hi-HT.sIx n 0 lo:=by
  split<;>omega
 rw[e3]
 refine List.map_congr_left fun k _=>?_
 omega
theorem zJT(a:List Nat)(i k:Nat):((List.range k).map fun m=>i+m).filterMap (fun j=>a.toArray[j]?)=(a.drop i).take k:=by
 rw[List.filterMap_map]
 induction k generalizing i with
 |zero=>simp
 |succ k ih=>
  rw[List.range_succ,List.filterMap_append,ih i,List.take_add_one]
  congr 1
  simp only[List.filterMap_cons,List.filterMap_nil,Function.comp]
  rw[List.getElem?_drop]
  simp only[List.getElem?_toArray]
  cases a[i+k]? <;>rfl
theorem zNZ{α:Type}(a:List α)(lo hi:Option Int):(cutL a lo hi).length<=a.length:=by
 unfold cutL;rw[List.length_take,List.length_drop];omega
def rSlS:V->Option Int->Option Int->Hp->VK->Prop:=fun x lo hi H Q=>∃a,x=tx a/\a.length<=sizeLine/\Q (tx (cutL a lo hi)) H
theorem sl_T:SlR X rSlS:=by
 intro pins s σ H x v vl vu lo hi sl Q I rx hs pl pu ⟨a,e,hz,q⟩
 subst e
 obtain⟨t,rfl⟩:=rx
 refine⟨"str",_,F.slot_str_getitem.lookup,typeIs_str _ _ _,?_⟩
 obtain⟨l,el,ml⟩:∃l:Option (Int×Tok),vl=partValue l/\l.map (·.1)=lo:=by
  cases pl with
  |none=>exact⟨none,rfl,rfl⟩
  |int i t=>exact⟨some (i,t),rfl,rfl⟩
 obtain⟨u,eu,mu⟩:∃u:Option (Int×Tok),vu=partValue u/\u.map (·.1)=hi:=by
  cases pu with
  |none=>exact⟨none,rfl,rfl⟩
  |int i t=>exact⟨some (i,t),rfl,rfl⟩
 subst el eu
 refine wpAny_getItem_str_slice (l:=l) (u:=u) (st:=none) hs rfl ?_
 have hle:=zNZ a lo hi
 have ep:slicePicked ⟨a.toArray⟩ l u none=(List.range (HT.sIx a.length a.length hi-HT.sIx a.length 0 lo)).map fun k=>HT.sIx a.length 0 lo+k:=by
  unfold slicePicked
  rw[ml,mu,zBp]
  exact zLo lo hi a.length
 have ec:((slicePicked ⟨a.toArray⟩ l u none).filterMap (a.toArray[·]?))=cutL a lo hi:=by
  rw[ep];exact zJT a _ _
 unfold sliceMade
 refine post_val_or_str ?_
 have fin:(if((Option.map (fun x=>x.1) (none:Option (Int×Tok))).getD 1==1&&(slicePicked ⟨a.toArray⟩ l u none).length==(⟨a.toArray⟩:Str).length)=true then(⟨a.toArray⟩:Str)else⟨((slicePicked ⟨a.toArray⟩ l u none).filterMap (a.toArray[·]?)).toArray⟩)=⟨(cutL a lo hi).toArray⟩:=by
  rw[ec]
  split
  ·rename_i hc
   rw[ep,zBp]at hc
   simp only[Option.map_none,Option.getD_none,beq_self_eq_true,Bool.true_and,List.length_map,List.length_range,beq_iff_eq]at hc
   have hl:HT.sIx a.length a.length hi<=a.length:=HT.sIx_le _ _ (Nat.le_refl _) _
   have h0:HT.sIx a.length 0 lo=0\/a.length=0:=by omega
   unfold cutL
   rw[hc]
   rcases h0 with h0|h0
   ·rw[h0,List.drop_zero,List.take_length]
   ·have:a=[]:=List.length_eq_zero_iff.mp h0
    subst this
    simp
  ·rfl
 have fin':=fin
 simp only at fin'⊢
 rw[fin']
 refine⟨by rw[zBp];omega,fun t' k=>⟨tx (cutL a lo hi),H,I.tok k,⟨t',rfl⟩,q⟩⟩
theorem zJ4:CallR X (.builtin "isinstance") (fun xs H Q=>∃x T t b,xs=[x, .ty T]/\TyOf X.K H x t/\PySem.W.kitOne X.K t (.type T)=some b/\Q (.bl b) H):=by
 intro pins s σ H xs us Q I r ⟨x,T,t,b,e,ty,hk,q⟩
 subst e
 obtain⟨u,w',rfl,ru,rw'⟩:=vals2 r
 cases rw'
 exact zII I ru ty hk fun tk=>⟨.bl b,H,I.tok tk,rfl,q⟩
theorem zI1:CallR X (.builtin "all") (fun xs H Q=>X.calm=true/\∃ (a:Addr) (bs:List Bool),xs=[.ref a]/\SqL X.K H a (bs.map V.bl)/\Q (.bl (bs.all id)) H):=by
 intro pins s σ H xs us Q I r ⟨hc,a,bs,e,hq,q⟩
 subst e
 obtain⟨u,rfl,ru⟩:=vals1 r
 cases ru
 obtain⟨its,rv,pl,hz⟩:=I.list hq
 obtain⟨ol,hol,_⟩:=id pl.isList
 have hl:a<s.heap.objs.size:=Heap.lt_size hol
 have hlen:=rv.length
 rw[List.length_map]at hlen
 refine call_all_walk (wpAny_pyIter_list pl.isList ⟨s.heap.objs.size,_,_,_,_,_,fun i=>bs.getD i false,rfl,Walks.list (A:=X.A.in1) (I.ok.hd hc) s.heap.objs.size a (Nat.ne_of_lt hl) its.toArray,⟨⟨_,Heap.get?_push_size _ rfl,rfl,rfl⟩,pl.isList.at fun o e=>Heap.get?_push_of_some _ e⟩,?_,fun h' tk kk=>?_⟩)
 ·intro i v s' Q' E' hv hQ'
  have hv':its[i]? =some v:=by simpa using hv
  have hi:i<bs.length:=by rw[hlen];exact(List.getElem?_eq_some_iff.mp hv').1
  obtain⟨w',e1,e2⟩:=rv.get (i:=i) (x:=V.bl bs[i]) (by simp[hi])
  rw[hv']at e1
  cases e1
  cases e2
  have:bs.getD i false=bs[i]:=by simp[List.getD_eq_getElem?_getD,hi]
  simp only[this]at hQ'
  exact wpAny_truthy_bool hQ'
 ·have e:(List.range its.toArray.size).all (fun i=>bs.getD i false)=bs.all id:=by
   rw[List.size_toArray,<-hlen]
   rw[Bool.eq_iff_iff]
   simp only[List.all_eq_true,List.mem_range,id]
   constructor
   ·intro h b hb
    obtain⟨i,hi,rfl⟩:=List.mem_iff_getElem.mp hb
    have:=h i hi
    simpa[List.getD_eq_getElem?_getD,hi]using this
   ·intro h i hi
    have:=h bs[i] (List.getElem_mem hi)
    simpa[List.getD_eq_getElem?_getD,hi]using this
  rw[e]
  have I1:Inv X pins σ H {s with heap:=s.heap.push {cls:= .type "list_iterator",data:= .fields #[.ref a, .int 0 0]}}:=I.kept (t':=s.toks) fun b o z=>Heap.get?_push_of_some _ z
  refine⟨.bl (bs.all id),H,I.kept (t':=tk) fun b o z=>kk b o (fun y=>?_) (Heap.get?_push_of_some _ z),rfl,q⟩
  exact absurd (Heap.lt_size z) (by rw[List.mem_singleton.mp y];exact Nat.lt_irrefl _)
def eqVs:List V->List V->Bool
 |[],[]=>true
 |x::xs,y::ys=>eqV x y&&eqVs xs ys
 |_,_=>false
theorem zEW:∀ {xs ys:List V},xs.length≠ys.length->eqVs xs ys=false
 |[],[],h=>absurd rfl h
 |[],_::_,_=>rfl
 |_::_,[],_=>rfl
 |x::xs,y::ys,h=>by
  have:eqVs xs ys=false:=zEW (by simpa using h)
  show(eqV x y&&eqVs xs ys)=false
  rw[this,Bool.and_false]
theorem zCd:∀ (xs ys:List V),xs.length=ys.length->(List.range xs.length).all (fun i=>eqV (xs.getD i .non) (ys.getD i .non))=eqVs xs ys
 |[],[],_=>rfl
 |x::xs,y::ys,h=>by
  have ih:=zCd xs ys (by simpa using h)
  rw[List.length_cons,List.range_succ_eq_map,List.all_cons,List.all_map]
  show(eqV x y&&_)=(eqV x y&&eqVs xs ys)
  rw[<-ih]
  rfl
 |[],_::_,h=>by simp at h
 |_::_,[],h=>by simp at h
theorem zIe{A:Around}{s:Shared}{xs ys:List V}{us ws:List Value}(r1:Vals xs us)(r2:Vals ys ws)(f1:xs.all flatV=true)(f2:ys.all flatV=true):
 ∀j (h1:j<us.toArray.size) (h2:j<ws.toArray.size),SeqAt.EqAt A s us.toArray[j] ws.toArray[j] (eqV (xs.getD j .non) (ys.getD j .non)):=by
 intro j h1 h2
 have l1:=r1.length
 have l2:=r2.length
 rw[List.size_toArray]at h1 h2
 have k1:j<xs.length:=by omega
 have k2:j<ys.length:=by omega
 obtain⟨u,e1,q1⟩:=r1.get (i:=j) (x:=xs[j]) (by simp[k1])
 obtain⟨w',e2,q2⟩:=r2.get (i:=j) (x:=ys[j]) (by simp[k2])
 have eu:us.toArray[j]=u:=by
  have:=List.getElem?_eq_getElem (l:=us) (i:=j) h1
  rw[e1]at this
  simpa using(Option.some.inj this).symm
 have ew:ws.toArray[j]=w':=by
  have:=List.getElem?_eq_getElem (l:=ws) (i:=j) h2
  rw[e2]at this
  simpa using(Option.some.inj this).symm
 rw[eu,ew]
 have g1:xs.getD j .non=xs[j]:=by simp[List.getD_eq_getElem?_getD,k1]
 have g2:ys.getD j .non=ys[j]:=by simp[List.getD_eq_getElem?_getD,k2]
 rw[g1,g2]
 exact zKY q1 q2 (List.all_eq_true.mp f1 _ (List.getElem_mem k1)) (List.all_eq_true.mp f2 _ (List.getElem_mem k2))
def rEqL(K:PySem.W.Frag)(neg:Bool):R2:=fun x y H Q=>∃a b xs ys,x= .ref a/\y= .ref b/\SqL K H a xs/\SqL K H b ys/\xs.all flatV=true/\ys.all flatV=true/\Q (.bl (if neg then !eqVs xs ys else eqVs xs ys)) H
theorem zM6(hu:X.A.units<cLine):OpR X (compareOp .Eq) (rEqL X.K false):=by
 intro pins s σ H x y v u Q I rx ry ⟨a,b,xs,ys,e1,e2,q1,q2,f1,f2,q⟩
 subst e1 e2
 cases rx
 cases ry
 obtain⟨us,r1,p1,z1⟩:=I.list q1
 obtain⟨ws,r2,p2,z2⟩:=I.list q2
 have l1:=r1.length
 have l2:=r2.length
 by_cases hl:xs.length=ys.length
 ·refine SeqAt.eq_listAt p1.isList p2.isList (by simp;omega) hu (zIe r1 r2 f1 f2) ⟨.bl _,H,I,rfl,?_⟩
  rw[List.size_toArray,<-l1,zCd xs ys hl]
  exact q
 ·refine SeqAt.eq_list_lengthsAt p1.isList p2.isList (by simp;omega) hu ⟨.bl _,H,I,rfl,?_⟩
  rw[<-zEW hl]
  exact q
theorem zM2(hu:X.A.units<cLine):OpR X (compareOp .NotEq) (rEqL X.K true):=by
 intro pins s σ H x y v u Q I rx ry ⟨a,b,xs,ys,e1,e2,q1,q2,f1,f2,q⟩
 subst e1 e2
 cases rx
 cases ry
 obtain⟨us,r1,p1,z1⟩:=I.list q1
 obtain⟨ws,r2,p2,z2⟩:=I.list q2
 have l1:=r1.length
 have l2:=r2.length
 by_cases hl:xs.length=ys.length
 ·refine SeqAt.RcNeAt.lists p1.isList p2.isList (by simp;omega) hu (zIe r1 r2 f1 f2) _ _ _ _ ⟨.bl _,H,I,rfl,?_⟩
  rw[List.size_toArray,<-l1,zCd xs ys hl]
  exact q
 ·refine SeqAt.RcNeAt.lists_lengths p1.isList p2.isList (by simp;omega) hu _ _ _ _ ⟨.bl _,H,I,rfl,?_⟩
  have:eqVs xs ys=false:=zEW hl
  rw[if_pos rfl,this]at q
  exact q
def litV:V->Bool
 | .non=>true
 | .bl _=>true
 |_=>false
theorem zM4:OpR X (compareOp .Is) (fun x y H Q=>litV y=true/\Q (.bl (decide (x=y))) H):=by
 intro pins s σ H x y v u Q I rx ry ⟨hl,q⟩
 refine wpAny_is_plain ?_ ⟨.bl _,H,I,?_,q⟩
 ·cases y<;>first
   |(exact absurd hl Bool.false_ne_true)
   |(cases ry;cases x<;>first|(cases rx;rfl)|(obtain⟨t,rfl⟩:=rx;rfl))
 ·cases y<;>first
   |(exact absurd hl Bool.false_ne_true)
   |(cases ry;cases x<;>first|(cases rx;rfl)|(obtain⟨t,rfl⟩:=rx;rfl)|(cases rx;rename_i b1 _ b2;cases b1<;>cases b2<;>rfl)|(cases rx;rename_i b1 b2;cases b1<;>cases b2<;>rfl)|(cases rx;rename_i b1 _ b2 _;cases b1<;>cases b2<;>rfl))
def rPlus:R2:=fun x y H Q=>(∃i j,x= .int i/\y= .int j/\Q (.int (i+j)) H)\/(∃a b,x=tx a/\y=tx b/\a.length+b.length<=sizeLine/\Q (tx (a++b)) H)\/rCat x y H Q
theorem zAR:OpR X (binaryOp .Add) rPlus:=op_add.or (op_addT.or zM8)
def rMulT:R2:=fun x y H Q=>∃a k,x=tx a/\y= .int k/\0<=k/\k<=1000/\a.length<=1000/\Q (tx (List.replicate k.toNat a).flatten) H
def rTimes:R2:=fun x y H Q=>(∃i j,x= .int i/\y= .int j/\CMul i j/\Q (.int (i*j)) H)\/rRep x y H Q\/rMulT x y H Q
theorem zAm:OpR X (binaryOp .Mult) rTimes:=op_mul.or (op_rep.or zH1)
def rEqA(K:PySem.W.Frag):R2:=fun x y H Q=>rEq x y H Q\/rEqL K false x y H Q
theorem zA0(K:PySem.W.Frag)(hu:X.A.units<cLine)(hK:X.K=K:=by rfl):OpR X (compareOp .Eq) (rEqA K):=by subst hK;exact op_eq.or (zM6 hu)
def rNeA(K:PySem.W.Frag):R2:=fun x y H Q=>rNe x y H Q\/rEqL K true x y H Q
theorem zDF(K:PySem.W.Frag)(hu:X.A.units<cLine)(hK:X.K=K:=by rfl):OpR X (compareOp .NotEq) (rNeA K):=by subst hK;exact op_ne.or (zM2 hu)
def rInA(K:PySem.W.Frag):R2:=fun x y H Q=>(∃c l,x=tx [c]/\y=tx l/\Q (.bl (decide (c∈l))) H)\/rIn K false x y H Q
theorem zEz(K:PySem.W.Frag)(hK:X.K=K:=by rfl):OpR X (compareOp .In) (rInA K):=by subst hK;exact op_inT.or zH4
def rIsA:R2:=fun x y H Q=>litV y=true/\Q (.bl (decide (x=y))) H
theorem zM5:OpR X (compareOp .Is) rIsA:=zM4
def rIxA(K:PySem.W.Frag):R2:=fun x y H Q=>rIxT' x y H Q\/rIxL K x y H Q\/rIxT K x y H Q
theorem zA3(K:PySem.W.Frag)(hK:X.K=K:=by rfl):IxR X (rIxA K):=by subst hK;exact ix_T.or (ix_list.or zNH)
def rSlA(K:PySem.W.Frag):V->Option Int->Option Int->Hp->VK->Prop:=fun x lo hi H Q=>rSlS x lo hi H Q\/rSlL K x lo hi H Q
theorem zKs(K:PySem.W.Frag)(hK:X.K=K:=by rfl):SlR X (rSlA K):=by subst hK;exact sl_T.or zKr
def rLen(K:PySem.W.Frag):List V->Hp->VK->Prop:=fun xs H Q=>(∃a,xs=[tx a]/\a.length<=sizeLine/\Q (.int a.length) H)\/∃p ys,xs=[.ref p]/\(SqL K H p ys\/SqT K H p ys)/\Q (.int ys.length) H
theorem zAU(K:PySem.W.Frag)(hK:X.K=K:=by rfl):CallR X (.builtin "len") (rLen K):=by subst hK;exact call_lenT.or zFN
def rAll(K:PySem.W.Frag):List V->Hp->VK->Prop:=fun xs H Q=>∃ (a:Addr) (bs:List Bool),xs=[.ref a]/\SqL K H a (bs.map V.bl)/\Q (.bl (bs.all id)) H
theorem zFO(K:PySem.W.Frag)(hc:X.calm=true)(hK:X.K=K:=by rfl):CallR X (.builtin "all") (rAll K):=by subst hK;exact fun pins s σ H xs us Q I r h=>zI1 pins s σ H xs us Q I r ⟨hc,h⟩
def rIsi(K:PySem.W.Frag):List V->Hp->VK->Prop:=fun xs H Q=>∃x T t b,xs=[x, .ty T]/\TyOf K H x t/\PySem.W.kitOne K t (.type T)=some b/\Q (.bl b) H
theorem zBh(K:PySem.W.Frag)(hK:X.K=K:=by rfl):CallR X (.builtin "isinstance") (rIsi K):=by subst hK;exact zJ4
def rMax:List V->Hp->VK->Prop:=fun xs H Q=>∃i j,xs=[.int i, .int j]/\Q (.int (if j>i then j else i)) H
def rMin:List V->Hp->VK->Prop:=fun xs H Q=>∃i j,xs=[.int i, .int j]/\Q (.int (if j<i then j else i)) H
theorem zIx(hc:X.calm=true):CallR X (.builtin "max") rMax:=zIy hc
theorem zIv(hc:X.calm=true):CallR X (.builtin "min") rMin:=zIw hc
def rInt:List V->Hp->VK->Prop:=fun xs H Q=>(∃i,xs=[.int i]/\Q (.int i) H)\/∃k,xs=[.bl k]/\Q (.int (if k then 1 else 0)) H
theorem zCU:CallR X (.type "int") rInt:=zI0
def tTru(K:PySem.W.Frag)(ta:TE):TT:=fun σ H Q=>ta σ H fun x H'=>∃k,TruV K x H' k/\Q k H'
theorem zBd(K:PySem.W.Frag){a:Expr}{ta:TE}(ha:PE X a ta)(he:∀whole,isTrue a X.env whole=(do let v<-whole;standAt a.pos;holding [v] (truthy v)):=by intro _;rfl)(hK:X.K=K:=by rfl):PT X a (tTru K ta):=by subst hK;exact zJS ha he
theorem zBE(K:PySem.W.Frag){tg l:Expr}{tl:TE}(hl:PE X l tl)(hK:X.K=K:=by rfl):PI X tg l (iList K tl):=by subst hK;exact zLT hl
theorem zDB(K:PySem.W.Frag){a:Expr}{ta:TA}{p pos:Pos}{elts:List Expr}{k:Nat}{tpos:Pos}(hg:Gl X "enumerate")(hm:X.mg "enumerate"=none)(ha:PA X [a] ta)(hs:starEach [a] X.env=[(false,eval a X.env)]:=by rfl)(hK:X.K=K:=by rfl):PI X (.Tuple elts k tpos) (.Call (.Name "enumerate" p) [a] [] pos) (iEnL K ta):=by subst hK;exact zJU hg hm ha hs
theorem zAp(K:PySem.W.Frag){es:List Expr}{k:Nat}{t:TGs}{n:Nat}{pos:Pos}(hc:X.calm=true)(h:PGs X es t)
 (hn:(assignEach es X.env).length=n:=by rfl) (hst:(assignEach es X.env).findIdx? (·.1)=none:=by rfl) (hK:X.K=K:=by rfl):PG X (.Tuple es k pos) (gTup K n t):=by subst hK;exact zMs hc h hn hst
theorem zHu(K:PySem.W.Frag){o:Expr}{to:TE}{name:Str}{apos cpos:Pos}{T id:String}{r:V->List V->Hp->VK->Prop}(pa:PlainAttrs T)(slot:Slot T name id)(hty:typeOf (.builtin id)=pure (.type "method_descriptor"))(hm:MtR X id r)(ho:PE X o to)
 (hbase:attributeBase o name X.env (eval o X.env)=eval o X.env:=by rfl) (hline:(apos.endLine==cpos.line)=true:=by rfl) (hK:X.K=K:=by rfl):PE X (.Call (.Attribute o name apos) [] [] cpos) (tBM0 K T r to):=by subst hK;exact zMx pa slot hty hm ho hbase hline
theorem zBU(K:PySem.W.Frag){o e:Expr}{es:List Expr}{to:TE}{t:TA}{name:Str}{apos cpos:Pos}{T id:String}{r:V->List V->Hp->VK->Prop}(pa:PlainAttrs T)(slot:Slot T name id)(hty:typeOf (.builtin id)=pure (.type "method_descriptor"))(hm:MtR X id r)(ho:PE X o to)(ha:PA X (e::es) t)
 (hbase:attributeBase o name X.env (eval o X.env)=eval o X.env:=by rfl)
 (hfew:((backTo cpos (starEach (e::es) X.env)).all (fun x=> !x.1)&&(backToKw cpos (keywordEach [] X.env)).all (fun x=>x.1.isSome)
   &&decide ((e::es).length+([]:List Keyword).length+(if([]:List Keyword).isEmpty then 0 else 1)<30))=true:=by rfl)
 (hline:(apos.endLine==cpos.line)=true:=by rfl) (hs:starEach (e::es) X.env=(false,eval e X.env)::starEach es X.env:=by rfl) (hplain:(backTo cpos (starEach es X.env)).any (·.1)=false:=by rfl) (hK:X.K=K:=by rfl):
 PE X (.Call (.Attribute o name apos) (e::es) [] cpos) (tBM K T r to t):=by subst hK;exact zOI pa slot hty hm ho ha hbase hfew hline hs hplain
theorem zBm{x:Str}{v:V}{pos:Pos}(h:∃u,X.mg x=some u/\RelV v u)(hg:Gl X x:=by rfl)(hd:(x==("__debug__":Str))=false:=by decide):PE X (.Name x pos) (tC v):=by
 obtain⟨u,hm,r⟩:=h
 exact zLV hg hm r hd
theorem zGv{x:Str}{T:String}{pos:Pos}(hm:X.mg x=none)(hv:bootBuiltins x=some (.type T))(hg:Gl X x:=by rfl)(hn:x≠"__name__":=by decide)(hd:(x==("__debug__":Str))=false:=by decide):PE X (.Name x pos) (tC (.ty T)):=
 zLX hg hm hv rfl hn hd
structure FnU (P:Program) (w:World) (K:PySem.W.Frag) (mg:Str->Option Value) (base:Heap) (k:Nat) (x:Str) (ps:List Str) (sp:Sp):Prop where
 ex:∃f fd,FnOk P w K mg base CX0 k f fd ps sp/\mg x=some (.ref f)/\PySem.W.keepIn K (.ref f)=true/\Binds K fd ps []
theorem FnU.mono{P:Program}{w:World}{K:PySem.W.Frag}{mg:Str->Option Value}{base:Heap}{j k:Nat}{x:Str}{ps:List Str}{sp:Sp}(U:FnU P w K mg base j x ps sp)(h:j<=k):FnU P w K mg base k x ps sp:=by
 obtain⟨f,fd,F,a,b,c⟩:=U.ex
 exact⟨f,fd,F.mono h,a,b,c⟩
theorem zAb{k:Nat}{x:Str}{ps:List Str}{sp:Sp}{e:Expr}{es:List Expr}{t:TA}{p pos:Pos}(U:FnU X.prog X.w X.K X.mg X.base k x ps sp)(hr:Room k X.A)(ha:PA X (e::es) t)(hg:Gl X x:=by rfl)
 (hdb:(x==("__debug__":Str))=false:=by decide) (he:starEach (e::es) X.env=(false,eval e X.env)::starEach es X.env:=by rfl) (hpl:(backTo pos (starEach es X.env)).any (·.1)=false:=by rfl):
 PE X (.Call (.Name x p) (e::es) [] pos) (tCall sp [] E0 t):=by
 obtain⟨f,fd,F,hm,hk,hb⟩:=U.ex
 exact zLW F hr hg hm hk hb .nil pass0 ha hdb he hpl
end
section
variable{σ:St}{H:Hp}{Q:VK}{D:Ends}{K:PySem.W.Frag}
theorem zNy{t u:TS}(h:t {D with nx:=u D} σ H):tSeq t u D σ H:=h
theorem zOW{c:TT}{t u:TS}(h:c σ H fun b H1=>if b=true then t D σ H1 else u D σ H1):tIfS c t u D σ H:=h
theorem zOE{te:TE}{g:TG}(h:te σ H fun x H1=>g x σ H1 D.nx):tAsg te g D σ H:=h
theorem zOD{i:Nat}{te:TE}{ti:TIp}{x:V}(e:σ[i]? =some (some x))(h:te σ H fun y H1=>ti x y H1 fun z H2=>D.nx (σ.set i (some z)) H2):tAug i te ti D σ H:=⟨x,e,h⟩
theorem zGs{f:Int->Int->Int}{i j:Int}(h:Q (.int (f i j)) H):ipI f (.int i) (.int j) H Q:=⟨i,j,rfl,rfl,h⟩
theorem zNz{te:TE}(h:te σ H D.rt):tRet te D σ H:=h
theorem zMX{te:TE}(h:te σ H fun _ H1=>D.nx σ H1):tDrop te D σ H:=h
theorem zMH(h:D.nx σ H):tNext D σ H:=h
theorem zMI{i:Nat}{v:V}{R:St->Hp->Prop}(h:R (σ.set i (some v)) H):gName i v σ H R:=h
theorem zMV{R:St->Hp->Prop}(h:R σ H):gNil [] σ H R:=⟨rfl,h⟩
theorem zLA{t:TG}{u:TGs}{v:V}{r:List V}{R:St->Hp->Prop}(h:t v σ H fun σ' H'=>u r σ' H' R):gCons t u (v::r) σ H R:=⟨v,r,rfl,h⟩
theorem zMU{to ti:TE}{t:TSet}{v:V}{R:St->Hp->Prop}(h:to σ H fun o H1=>ti σ H1 fun i H2=>t o i v H2 fun H3=>R σ H3):gSub to ti t v σ H R:=h
theorem zNq{i:Nat}{v:V}(e:σ[i]? =some (some v))(q:Q v H):tVar i σ H Q:=⟨v,e,q⟩
theorem s_c{v:V}(q:Q v H):tC v σ H Q:=q
theorem zOU{r:R2}{ta tb:TE}(h:ta σ H fun x H1=>tb σ H1 fun y H2=>r x y H2 Q):tOp r ta tb σ H Q:=h
theorem zOQ{r:V->Hp->VK->Prop}{ta:TE}(h:ta σ H fun x H1=>r x H1 Q):tUn r ta σ H Q:=h
theorem zN2{i:Int}{g:Int->V}(h:Q (g i) H):rU g (.int i) H Q:=⟨i,rfl,h⟩
theorem zMb{sp:Sp}{dvs:List V}{E:XK}{t:TA}(h:t σ H fun vs H1=>sp (vs++dvs) H1 Q E):tCall sp dvs E t σ H Q:=h
theorem zMZ{ta:TE}{tr:TA}{R:List V->Hp->Prop}(h:ta σ H fun x H1=>tr σ H1 fun xs H2=>R (x::xs) H2):tCons ta tr σ H R:=h
theorem zN1{R:List V->Hp->Prop}(h:R [] H):tNil σ H R:=h
theorem zOX{r:List V->Hp->VK->Prop}{t:TA}(h:t σ H fun vs H1=>r vs H1 Q):tCB r t σ H Q:=h
theorem zN6{t:TA}(h:t σ H fun xs H1=>xs.length<=sizeLine/\∀p,H1 p=none->Q (.ref p) (upd H1 p (.lst xs))):tLst t σ H Q:=h
theorem zNs{t:TA}(h:t σ H fun xs H1=>xs.length<=sizeLine/\∀p,H1 p=none->Q (.ref p) (upd H1 p (.tup xs))):tTup t σ H Q:=h
theorem zN8{t:TT}{ta tb:TE}(h:t σ H fun c H1=>if c=true then ta σ H1 Q else tb σ H1 Q):tIf t ta tb σ H Q:=h
theorem zOF{t u:TT}{R:Bool->Hp->Prop}(h:t σ H fun c H1=>if c=true then u σ H1 R else R false H1):tAnd t u σ H R:=h
theorem zOT{t u:TT}{R:Bool->Hp->Prop}(h:t σ H fun c H1=>if c=true then R true H1 else u σ H1 R):tOr t u σ H R:=h
theorem zN0{t:TT}{R:Bool->Hp->Prop}(h:t σ H fun c H1=>R (!c) H1):tNot t σ H R:=h
theorem zMd{ta tb:TE}(h:ta σ H fun x H1=>∃c,x= .bl c/\if c=true then tb σ H1 Q else Q (.bl false) H1):tAndV ta tb σ H Q:=h
theorem zMG{ta:TE}(h:ta σ H fun x H1=>∃c,x= .bl c/\Q (.bl (!c)) H1):tNotV ta σ H Q:=h
theorem zMD{t:TE}{R:Bool->Hp->Prop}(h:t σ H fun x H'=>∃k,x= .bl k/\R k H'):tTest t σ H R:=h
theorem zNu{ta:TE}{R:Bool->Hp->Prop}(h:ta σ H fun x H'=>∃k,TruV K x H' k/\R k H'):tTru K ta σ H R:=h
theorem zLD{r r':R2}{ta tb tc:TE}(h:ta σ H fun x H1=>tb σ H1 fun y H2=>r x y H2 fun z H3=>∃k,z= .bl k/\(if k=true then tc σ H3 fun w' H4=>r' y w' H4 Q else Q (.bl false) H3)):tChain r r' ta tb tc σ H Q:=h
theorem zI7{c:Bool}{R:Bool->Prop}(h:R c):∃k,V.bl c=V.bl k/\R k:=⟨c,rfl,h⟩
theorem zMC{c:Bool}{R:Bool->Prop}(h:R c):∃k,TruV K (.bl c) H k/\R k:=⟨c,rfl,h⟩
theorem zMe{i j:Int}(h:Q (.int (i+j)) H):rPlus (.int i) (.int j) H Q:= .inl ⟨i,j,rfl,rfl,h⟩
theorem zGJ{a b:List Nat}(hz:a.length+b.length<=sizeLine)(h:Q (tx (a++b)) H):rPlus (tx a) (tx b) H Q:= .inr (.inl ⟨a,b,rfl,rfl,hz,h⟩)
theorem zEw{a b:Addr}{xs ys:List V}(h1:H a=some (.lst xs))(h2:H b=some (.lst ys))(hz:xs.length+ys.length<=sizeLine)(h:∀p,H p=none->Q (.ref p) (upd H p (.lst (xs++ys)))):rPlus (.ref a) (.ref b) H Q:= .inr (.inr ⟨a,b,xs,ys,rfl,rfl,h1,h2,hz,h⟩)
theorem zME{g:Int->Int->V}{i j:Int}(h:Q (g i j) H):rI0 g (.int i) (.int j) H Q:=⟨i,j,rfl,rfl,h⟩
theorem zOS{C:Int->Int->Prop}{g:Int->Int->V}{i j:Int}(hc:C i j)(h:Q (g i j) H):rI C g (.int i) (.int j) H Q:=⟨i,j,rfl,rfl,hc,h⟩
theorem zMJ{i j:Int}(hc:CMul i j)(h:Q (.int (i*j)) H):rTimes (.int i) (.int j) H Q:= .inl ⟨i,j,rfl,rfl,hc,h⟩
theorem zKy{a:Addr}{k:Int}{xs:List V}(h1:H a=some (.lst xs))(h2: -(2^63)<=k)(h3:k<2^63)(hz:xs.length*k.toNat<=sizeLine)(h:∀p,H p=none->Q (.ref p) (upd H p (.lst (List.replicate k.toNat xs).flatten))):rTimes (.ref a) (.int k) H Q:= .inr (.inl ⟨a,k,xs,rfl,rfl,h1,h2,h3,hz,h⟩)
theorem zOB{i j:Int}(h:Q (.bl (decide (i=j))) H):rEqA K (.int i) (.int j) H Q:= .inl ⟨rfl,by rw[show decide (V.int i=V.int j)=decide (i=j)from by rw[zFv];exact(Bool.beq_eq_decide_eq i j)];exact h⟩
theorem zOA{a b:List Nat}(h:Q (.bl (decide (a=b))) H):rEqA K (tx a) (tx b) H Q:= .inl ⟨rfl,by rw[zKb];exact h⟩
theorem zMW{a b:Addr}{xs ys:List V}(h1:SqL K H a xs)(h2:SqL K H b ys)(f1:xs.all flatV=true)(f2:ys.all flatV=true)(h:Q (.bl (eqVs xs ys)) H):rEqA K (.ref a) (.ref b) H Q:= .inr ⟨a,b,xs,ys,rfl,rfl,h1,h2,f1,f2,h⟩
theorem zN3{a b:List Nat}(h:Q (.bl (!decide (a=b))) H):rNeA K (tx a) (tx b) H Q:= .inl ⟨rfl,by rw[zKb];exact h⟩
theorem zK1{a b:Addr}{xs ys:List V}(h1:SqL K H a xs)(h2:SqL K H b ys)(f1:xs.all flatV=true)(f2:ys.all flatV=true)(h:Q (.bl (!eqVs xs ys)) H):rNeA K (.ref a) (.ref b) H Q:= .inr ⟨a,b,xs,ys,rfl,rfl,h1,h2,f1,f2,h⟩
theorem zN7{c:Nat}{l:List Nat}(h:Q (.bl (decide (c∈l))) H):rInA K (tx [c]) (tx l) H Q:= .inl ⟨c,l,rfl,rfl,h⟩
theorem zMR{x:V}{a:Addr}{xs:List V}(h1:SqL K H a xs\/SqT K H a xs)(f1:flatV x=true)(f2:xs.all flatV=true)(h:Q (.bl (inV x xs)) H):rInA K x (.ref a) H Q:= .inr ⟨a,xs,rfl,h1,f1,f2,h⟩
theorem zOV{x y:V}(hl:litV y=true)(h:Q (.bl (decide (x=y))) H):rIsA x y H Q:=⟨hl,h⟩
theorem zEu{a:List Nat}{i:Int}{c:Nat}(hz:a.length<=sizeLine)(he:atI a i=some c)(h:Q (tx [c]) H):rIxA K (tx a) (.int i) H Q:= .inl ⟨a,i,c,rfl,rfl,hz,he,h⟩
theorem zAf{p:Addr}{xs:List V}{i:Int}{v:V}(hq:SqL K H p xs)(he:atI xs i=some v)(h:Q v H):rIxA K (.ref p) (.int i) H Q:= .inr (.inl ⟨p,xs,i,v,rfl,rfl,hq,he,h⟩)
theorem zML{p:Addr}{xs:List V}{i:Int}{v:V}(hq:SqT K H p xs)(he:atI xs i=some v)(h:Q v H):rIxA K (.ref p) (.int i) H Q:= .inr (.inr ⟨p,xs,i,v,rfl,rfl,hq,he,h⟩)
theorem zOR{r:V->Option Int->Option Int->Hp->VK->Prop}{te:TE}{tl th:TO}(h:te σ H fun x H1=>tl σ H1 fun l H2=>th σ H2 fun u H3=>r x l u H3 Q):tSl r te tl th σ H Q:=h
theorem zJH{R:Option Int->Hp->Prop}(h:R none H):tNoPart σ H R:=h
theorem zMF{t:TE}{R:Option Int->Hp->Prop}(h:t σ H fun x H1=>∃i,x= .int i/\R (some i) H1):tPart t σ H R:=h
theorem zK0{i:Int}{R:Int->Prop}(h:R i):∃j,V.int i=V.int j/\R j:=⟨i,rfl,h⟩
theorem zNw{a:List Nat}{lo hi:Option Int}(hz:a.length<=sizeLine)(h:Q (tx (cutL a lo hi)) H):rSlA K (tx a) lo hi H Q:= .inl ⟨a,rfl,hz,h⟩
theorem zNx{p:Addr}{xs:List V}{lo hi:Option Int}(hq:SqL K H p xs)(h:∀r,H r=none->Q (.ref r) (upd H r (.lst (cutV xs lo hi)))):rSlA K (.ref p) lo hi H Q:= .inr ⟨p,xs,rfl,hq,h⟩
theorem zKE{a:List Nat}(hz:a.length<=sizeLine)(h:Q (.int a.length) H):rLen K [tx a] H Q:= .inl ⟨a,rfl,hz,h⟩
theorem zBS{p:Addr}{ys:List V}(hq:SqL K H p ys\/SqT K H p ys)(h:Q (.int ys.length) H):rLen K [.ref p] H Q:= .inr ⟨p,ys,rfl,hq,h⟩
theorem zOG{a:Addr}{bs:List Bool}(hq:SqL K H a (bs.map V.bl))(h:Q (.bl (bs.all id)) H):rAll K [.ref a] H Q:=⟨a,bs,rfl,hq,h⟩
theorem zCo{x:V}{T:String}{t:Value}{b:Bool}(ty:TyOf K H x t)(e:PySem.W.kitOne K t (.type T)=some b)(h:Q (.bl b) H):rIsi K [x, .ty T] H Q:=⟨x,T,t,b,rfl,ty,e,h⟩
theorem zN5{i j:Int}(h:Q (.int (if j>i then j else i)) H):rMax [.int i, .int j] H Q:=⟨i,j,rfl,h⟩
theorem zN4{i j:Int}(h:Q (.int (if j<i then j else i)) H):rMin [.int i, .int j] H Q:=⟨i,j,rfl,h⟩
theorem zMQ{k:Bool}(h:Q (.int (if k then 1 else 0)) H):rInt [.bl k] H Q:= .inr ⟨k,rfl,h⟩
theorem zOY{T:String}{r:V->List V->Hp->VK->Prop}{to:TE}{t:TA}(h:to σ H fun x H1=>tyV K T x H1/\t σ H1 fun xs H2=>r x xs H2 Q):tBM K T r to t σ H Q:=h
theorem zOC{T:String}{r:V->List V->Hp->VK->Prop}{to:TE}(h:to σ H fun x H1=>tyV K T x H1/\r x [] H1 Q):tBM0 K T r to σ H Q:=h
end
section
variable{g:TG}{tb:TS}{D:Ends}{σ:St}{H:Hp}
def ForW(J:It)(g:TG)(tb:TS)(D:Ends)(σ:St)(H:Hp):Prop:=∃W:Nat->Nat->St->Hp->Prop,(∃m,W 0 m σ H)/\∀i m σ H,W i m σ H->
 (J.stop i H/\D.nx σ H)\/(J.go i H/\∃N:St->Hp->Prop,(∀σ' H',N σ' H'->∃m',m'<m/\W (i+1) m' σ' H')/\∀x H',J.yld i H x H'->g x σ H' fun σ2 H2=>tb {D with nx:=N,ct:=N,bk:=D.nx} σ2 H2)
theorem zN9{wi:TI}(h:wi σ H fun J H1=>ForW J g tb D σ H1):tFor wi g tb D σ H:=h
theorem zK6{ta:TA}{R:It->Hp->Prop}(h:ta σ H fun vs H1=>∃j:Int,vs=[.int j]/\ -(2^62)<=j/\j<2^62/\R (Itr 0 j.toNat) H1):iRng1 ta σ H R:=h
theorem zK7{K:PySem.W.Frag}{tl:TE}{R:It->Hp->Prop}(h:tl σ H fun x H1=>∃a,x= .ref a/\(∃xs,SqL K H1 a xs)/\R (Itl K a) H1):iList K tl σ H R:=h
theorem zMM{tl:TE}{R:It->Hp->Prop}(h:tl σ H fun x H1=>∃z,x= .str z/\R (Its z) H1):iStr tl σ H R:=h
theorem zK4{a:List Nat}{R:Str->Prop}(h:R ⟨a.toArray⟩):∃z,tx a= .str z/\R z:=⟨_,rfl,h⟩
theorem zMS{ta:TA}{R:It->Hp->Prop}(h:ta σ H fun vs H1=>∃z,vs=[.str z]/\R (IteS z) H1):iEnS ta σ H R:=h
theorem zK8{a:List Nat}{R:Str->Prop}(h:R ⟨a.toArray⟩):∃z,[tx a]=[.str z]/\R z:=⟨_,rfl,h⟩
theorem zMT{K:PySem.W.Frag}{ta:TA}{R:It->Hp->Prop}(h:ta σ H fun vs H1=>∃a,vs=[.ref a]/\(∃xs,SqL K H1 a xs)/\R (IteL K a) H1):iEnL K ta σ H R:=h
theorem zBy{lo:Int}{n:Nat}(Pv:Nat->St->Hp->Prop)(h0:Pv 0 σ H)
 (hs:∀i σ H,i<n->Pv i σ H->g (.int (lo+i)) σ H fun σ2 H2=>tb {D with nx:=Pv (i+1),ct:=Pv (i+1),bk:=D.nx} σ2 H2) (hd:∀σ H,Pv n σ H->D.nx σ H):ForW (Itr lo n) g tb D σ H:=zIR Pv h0 hs hd
theorem zEQ{K:PySem.W.Frag}{a:Addr}{xs:List V}(Pv:Nat->St->Hp->Prop)(h0:Pv 0 σ H)(hl:∀i σ H,i<=xs.length->Pv i σ H->SqL K H a xs)
 (hs:∀i x σ H,xs[i]? =some x->Pv i σ H->g x σ H fun σ2 H2=>tb {D with nx:=Pv (i+1),ct:=Pv (i+1),bk:=D.nx} σ2 H2) (hd:∀σ H,Pv xs.length σ H->D.nx σ H):ForW (Itl K a) g tb D σ H:=zJp Pv h0 hl hs hd
theorem zIS{J:It}{n:Nat}(Pv:Nat->St->Hp->Prop)(h0:Pv 0 σ H)(hgo:∀i σ H,i<n->Pv i σ H->J.go i H)(hst:∀σ H,Pv n σ H->J.stop n H)
 (hs:∀i x σ H H',i<n->Pv i σ H->J.yld i H x H'->g x σ H' fun σ2 H2=>tb {D with nx:=Pv (i+1),ct:=Pv (i+1),bk:=D.nx} σ2 H2) (hd:∀σ H,Pv n σ H->D.nx σ H):ForW J g tb D σ H:=by
 refine⟨fun i m σ H=>m=n-i/\i<=n/\Pv i σ H,⟨n,by simp,Nat.zero_le _,h0⟩,?_⟩
 rintro i m σ H ⟨rfl,hi,p⟩
 by_cases hlt:i<n
 ·exact .inr ⟨hgo i σ H hlt p,Pv (i+1),fun σ' H' p'=>⟨n-(i+1),by omega,rfl,hlt,p'⟩,fun x H' y=>hs i x σ H H' hlt p y⟩
 ·have e:i=n:=by omega
  subst e
  exact .inl ⟨hst σ H p,hd σ H p⟩
theorem zIT{a:List Nat}(Pv:Nat->St->Hp->Prop)(h0:Pv 0 σ H)
 (hs:∀i c σ H T,a[i]? =some c->H T=none->Pv i σ H->g (.ref T) σ (upd H T (.tup [.int i,tx [c]])) fun σ2 H2=>tb {D with nx:=Pv (i+1),ct:=Pv (i+1),bk:=D.nx} σ2 H2) (hd:∀σ H,Pv a.length σ H->D.nx σ H):ForW (IteS ⟨a.toArray⟩) g tb D σ H:=by
 refine zIS (n:=a.length) Pv h0 (fun i σ H hi _=>by simpa[IteS]using hi) (fun σ H _=>by simp[IteS]) (fun i x σ H H' hi p y=>?_) hd
 obtain⟨T,c,hT,e,rfl,rfl⟩:=y
 exact hs i c σ H T (by simpa using e) hT p
def CW(D:Addr)(n:Nat)(Pv:Nat->List V->Hp->Prop)(i m:Nat)(H:Hp):Prop:=m=n-i/\i<=n/\∃ys,H D=some (.lst ys)/\ys.length<=i/\Pv i ys H
def CompW(J:It)(own:List Str)(sel:List Nat)(σ:St)(g:TG)(tt:TT)(te:TE)(Q:VK)(H1:Hp):Prop:=∀D,H1 D=none->
 ∃W:Nat->Nat->Hp->Prop,(∃m,W 0 m (upd H1 D (.lst [])))/\∀i m H2,W i m H2->
  (J.stop i H2/\Q (.ref D) H2)\/(J.go i H2/\∀x H3,J.yld i H2 x H3->g x (inSt own sel σ) H3 fun σ4 H4=>tt σ4 H4 fun b H5=>
    if b=true then te σ4 H5 fun v H6=>∃ys,H6 D=some (.lst ys)/\ys.length<sizeLine/\∃m',m'<m/\W (i+1) m' (upd H6 D (.lst (ys++[v])))
    else∃m',m'<m/\W (i+1) m' H5)
theorem zMa{own:List Str}{sel:List Nat}{wi:TI}{tt:TT}{te:TE}{Q:VK}(h:wi σ H fun J H1=>CompW J own sel σ g tt te Q H1):tComp own sel wi g tt te σ H Q:=h
theorem zCI{J:It}{n:Nat}{own:List Str}{sel:List Nat}{tt:TT}{te:TE}{Q:VK}{H1:Hp}(Pv:Addr->Nat->List V->Hp->Prop)(h0:∀D,H1 D=none->Pv D 0 [] (upd H1 D (.lst [])))
 (hgo:∀D i ys H,H1 D=none->i<n->H D=some (.lst ys)->Pv D i ys H->J.go i H) (hst:∀D ys H,H1 D=none->H D=some (.lst ys)->ys.length<=n->Pv D n ys H->J.stop n H/\Q (.ref D) H)
 (hs:∀D i ys H x H3,H1 D=none->i<n->H D=some (.lst ys)->ys.length<=i->Pv D i ys H->J.yld i H x H3->g x (inSt own sel σ) H3 fun σ4 H4=>tt σ4 H4 fun b H5=>
   if b=true then te σ4 H5 fun v H6=>∃ys,H6 D=some (.lst ys)/\ys.length<sizeLine/\∃m',m'<n-i/\CW D n (Pv D) (i+1) m' (upd H6 D (.lst (ys++[v])))
   else∃m',m'<n-i/\CW D n (Pv D) (i+1) m' H5):CompW J own sel σ g tt te Q H1:=by
 intro D hD
 refine⟨CW D n (Pv D),⟨n,by simp,Nat.zero_le _,[],zAC,Nat.le_refl _,h0 D hD⟩,?_⟩
 rintro i m H2 ⟨rfl,hi,ys,hy,hl,p⟩
 by_cases hlt:i<n
 ·exact .inr ⟨hgo D i ys H2 hD hlt hy p,fun x H3 y=>hs D i ys H2 x H3 hD hlt hy hl p y⟩
 ·have e:i=n:=by omega
  subst e
  exact .inl (hst D ys H2 hD hy hl p)
theorem zCT{D:Addr}{n i:Nat}{Pv:Nat->List V->Hp->Prop}{ys:List V}{v:V}{H:Hp}(hi:i<n)(hn:n<=sizeLine)(hD:H D=some (.lst ys))(hl:ys.length<=i)(p:Pv (i+1) (ys++[v]) (upd H D (.lst (ys++[v])))):
 ∃ys,H D=some (.lst ys)/\ys.length<sizeLine/\∃m',m'<n-i/\CW D n Pv (i+1) m' (upd H D (.lst (ys++[v]))):=
 ⟨ys,hD,by omega,n-(i+1),by omega,rfl,hi,ys++[v],zAC,by simp;omega,p⟩
theorem zIp{D:Addr}{n i:Nat}{Pv:Nat->List V->Hp->Prop}{ys:List V}{H:Hp}(hi:i<n)(hD:H D=some (.lst ys))(hl:ys.length<=i)(p:Pv (i+1) ys H):
 ∃m',m'<n-i/\CW D n Pv (i+1) m' H:=⟨n-(i+1),by omega,rfl,hi,ys,hD,by omega,p⟩
theorem zNp{R:Bool->Hp->Prop}(h:R true H):tYes σ H R:=h
end
theorem small{n:Nat}(h:n<=1000):n<=sizeLine:=Nat.le_of_lt (small1000 h)
theorem zAF{H:Hp}{p:Addr}(h:H p=none)(o:HO):Same H (upd H p o):=fun b u q=>by rw[zAG (zAE q h)];exact q
def SameBut1(p:Addr)(H H':Hp):Prop:=∀b o,H b=some o->b≠p->H' b=some o
theorem SameBut1.refl(p:Addr)(H:Hp):SameBut1 p H H:=fun _ _ h _=>h
theorem SameBut1.trans{p:Addr}{H H1 H2:Hp}(a:SameBut1 p H H1)(b:SameBut1 p H1 H2):SameBut1 p H H2:=fun c o h n=>b c o (a c o h n) n
theorem SameBut1.of{p:Addr}{H H':Hp}(a:Same H H'):SameBut1 p H H':=fun c o h _=>a c o h
theorem SameBut1.upd{p:Addr}{H:Hp}{o:HO}:SameBut1 p H (upd H p o):=fun c u h n=>by rw[zAG n];exact h
def compOkB(osc:Scope)(N:List Str)(own:List Str)(sel:List Nat)(scope:Scope):Bool:=
 (scope.kind== .function)&&scope.names.all (fun y=>y.2 != .cell)&&scope.names.all (fun y=>y.2 != .local||scope.names.lookup y.1==some .local)&&
 scope.names.all (fun y=>y.2 != .free||osc.names.lookup y.1==some .cell||osc.names.lookup y.1==some .free)&&
 sel.all (fun j=>decide (j<N.length)&&scope.names.lookup (N.getD j Str.empty)==some .free&&(osc.names.lookup (N.getD j Str.empty)==some .cell||osc.names.lookup (N.getD j Str.empty)==some .free))
theorem zAY{osc:Scope}{N:List Str}{own:List Str}{sel:List Nat}{scope:Scope}(h:compOkB osc N own sel scope=true):CompOk osc N own sel scope:=by
 unfold compOkB at h
 simp only[Bool.and_eq_true,List.all_eq_true]at h
 obtain⟨⟨⟨⟨h1,h2⟩,h3⟩,h4⟩,h5⟩:=h
 refine⟨by simpa using h1,fun y hy=>by simpa using h2 y hy,fun y hy e=>?_,fun y hy e=>?_,fun j hj=>?_⟩
 ·have:=h3 y hy
  simp only[Bool.or_eq_true,bne_iff_ne,beq_iff_eq]at this
  rcases this with q|q
  ·exact absurd e q
  ·exact q
 ·have:=h4 y hy
  simp only[Bool.or_eq_true,bne_iff_ne,beq_iff_eq]at this
  rcases this with(q|q)|q
  ·exact absurd e q
  ·exact .inl q
  ·exact .inr q
 ·have:=h5 j hj
  simp only[Bool.or_eq_true,beq_iff_eq,decide_eq_true_eq]at this
  exact⟨this.1.1,this.1.2,this.2⟩
structure DefAt (K:PySem.W.Frag) (mg:Str->Option Value) (x:Str) (st:Stmt) (ps:List Str) (f:Addr) (fd:FuncData):Prop where
 F:Fun K x x st f fd
 m:mg x=some (.ref f)
 b:Binds K fd ps []
theorem DefAt.fnU{P:Program}{w:World}{K:PySem.W.Frag}{mg:Str->Option Value}{base:Heap}{x:Str}{st:Stmt}{ps:List Str}{f:Addr}{fd:FuncData}{k:Nat}{sp:Sp}(d:DefAt K mg x st ps f fd)(ok:FnOk P w K mg base CX0 k f fd ps sp):FnU P w K mg base k x ps sp:=
 ⟨f,fd,ok,d.m,d.F.kp,d.b⟩
def PoolAt(H:Hp)(p:Addr)(n:Nat):Prop:=∃a b c:Int,H p=some (.lst [.int a, .int b, .int c])/\0<=c/\c<=n
theorem PoolAt.ne{H:Hp}{p q:Addr}{n:Nat}(h:PoolAt H p n)(hq:H q=none):q≠p:=by
 obtain⟨a,b,c,e,_⟩:=h
 exact(zAE e hq).symm
theorem zBt{p:Addr}{xs:List V}{k:Int}{j:Nat}{v:V}{H:Hp}{R:Hp->Prop}(h:H p=some (.lst xs))(e:ixN xs.length k=some j)(q:R (upd H p (.lst (xs.set j v)))):rSetL (.ref p) (.int k) v H R:=⟨p,xs,k,j,rfl,rfl,h,e,q⟩
theorem zGu{u:Value}{x:V}(h:absV u=some x):RelV x u:=by
 cases u<;>first
  |(cases h;rfl)
  |(cases h;exact⟨_,rfl⟩)
  |(exact absurd h (by intro z;cases z))
def tupIs(its:Array Value)(xs:List V):Bool:=decide (its.toList.map absV=xs.map some)
theorem zCx:∀ {xs:List V} {us:List Value},us.map absV=xs.map some->Vals xs us
 |[],[],_=> .nil
 |x::xs,u::us,h=>by
  rw[List.map_cons,List.map_cons]at h
  injection h with h1 h2
  exact .cons (zGu h1) (zCx h2)
 |[],_::_,h=>by cases h
 |_::_,[],h=>by cases h
theorem zDi{its:Array Value}{xs:List V}(h:tupIs its xs=true):Vals xs its.toList:=zCx (of_decide_eq_true h)
theorem zGo{its:Array Value}{xs:List V}(h:tupIs its xs=true)(hx:xs.length<=1000):its.size<=sizeLine:=by
 have e:=(zDi h).length
 have e2:its.toList.length=its.size:=by simp
 exact Nat.le_of_lt (small1000 (by omega))
theorem ifd{c A B:Prop}[Decidable c](h1:c->A)(h2:¬c->B):if decide c=true then A else B:=by
 by_cases h:c
 ·rw[if_pos (decide_eq_true h)];exact h1 h
 ·rw[if_neg (by rw[decide_eq_false h];exact Bool.false_ne_true)];exact h2 h
theorem ifp{c:Bool}{A B:Prop}(hc:c=true)(h:A):if c=true then A else B:=by rw[if_pos hc];exact h
theorem ifq{c:Bool}{A B:Prop}(hc:c=false)(h:B):if c=true then A else B:=by rw[if_neg (by rw[hc];exact Bool.false_ne_true)];exact h
theorem zJ5{ns:List Int}{k:Int}(h0:0<=k)(h:k<(ns.length:Int)):∃v:Int,atI (ns.map V.int) k=some (.int v):=by
 have hk:k.toNat<ns.length:=by omega
 have ek:k=((k.toNat:Nat):Int):=by omega
 have q:atI (ns.map V.int) ((k.toNat:Nat):Int)=some (.int ns[k.toNat]):=zAN (by rw[List.getElem?_map,List.getElem?_eq_getElem hk];rfl)
 rw[<-ek]at q
 exact⟨_,q⟩
end L2
namespace BrM
open L2
def opn:List Nat:=[40,91,123,60]
def cls:List Nat:=[41,93,125,62]
def clo(c:Nat):Nat:=if c=40 then 41 else if c=91 then 93 else if c=123 then 125 else 62
def stp(st:List Nat)(c:Nat):Option (List Nat):=
 if c∈opn then some (clo c::st)else match st with
  |d::r=>if c=d then some r else none
  |[]=>none
def run:List Nat->List Nat->Option (List Nat)
 |st,[]=>some st
 |st,c::r=>(stp st c).bind fun s=>run s r
theorem zDk(st a b:List Nat):run st (a++b)=(run st a).bind fun s=>run s b:=by
 induction a generalizing st with
 |nil=>rfl
 |cons c r ih=>
  show(stp st c).bind _=((stp st c).bind _).bind _
  cases stp st c with
  |none=>rfl
  |some s=>exact ih s
theorem zD9{st a s:List Nat}(h:run st a=some s)(c:Nat):run st (a++[c])=stp s c:=by
 rw[zDk,h]
 show(stp s c).bind (fun s=>some s)=stp s c
 cases stp s c<;>rfl
theorem zD2{c:Nat}(h:c∈opn)(st:List Nat):stp st c=some (clo c::st):=by unfold stp;rw[if_pos h]
theorem zC0{d:Nat}(h:d∉opn)(r:List Nat):stp (d::r) d=some r:=by unfold stp;rw[if_neg h];simp
def Rt(row:List Nat):Prop:=run [] row=some []
def kin(k:Int)(c:Nat):Prop:=c∈opn.take k.toNat\/c∈cls.take k.toNat
theorem zKP{i:Int}{k:Int}(h0:0<=i)(h1:i<k)(hk:k<=4):∃c,atI [40,91,123,60] i=some c/\c∈opn/\c∈opn.take k.toNat/\atI [41,93,125,62] i=some (clo c)/\clo c∈cls.take k.toNat/\clo c∉opn:=by
 have:i=0\/i=1\/i=2\/i=3:=by omega
 have hk':k=1\/k=2\/k=3\/k=4:=by omega
 rcases hk' with rfl|rfl|rfl|rfl<;>rcases this with rfl|rfl|rfl|rfl<;>first
  |omega
  |exact⟨40,by decide⟩
  |exact⟨91,by decide⟩
  |exact⟨123,by decide⟩
  |exact⟨60,by decide⟩
def sg(c:Nat):Int:=if c∈opn then 1 else -1
def hg:List Nat->Int
 |[]=>0
 |c::r=>sg c+hg r
theorem zCP(a b:List Nat):hg (a++b)=hg a+hg b:=by
 induction a with
 |nil=>simp[hg]
 |cons c r ih=>rw[List.cons_append,hg,hg,ih];omega
def ht(a:List Nat)(i:Nat):Int:=hg (a.take i)
theorem zIL{a:List Nat}{i c:Nat}(h:a[i]? =some c):ht a (i+1)=ht a i+sg c:=by
 unfold ht
 rw[List.take_add_one,h,zCP]
 show _=hg _+sg c
 simp[hg]
theorem zKo{st s:List Nat}{c:Nat}(h:stp st c=some s):(s.length:Int)=st.length+sg c:=by
 unfold stp at h
 unfold sg
 by_cases hc:c∈opn
 ·rw[if_pos hc]at h⊢
  cases h
  simp
 ·rw[if_neg hc]at h⊢
  cases st with
  |nil=>cases h
  |cons d r=>
   simp only at h
   split at h
   ·cases h;simp;omega
   ·cases h
theorem zLI{st a s:List Nat}(h:run st a=some s):(s.length:Int)=st.length+hg a:=by
 induction a generalizing st with
 |nil=>cases h;simp[hg]
 |cons c r ih=>
  have h':(stp st c).bind (fun s=>run s r)=some s:=h
  cases e:stp st c with
  |none=>rw[e]at h';cases h'
  |some s1=>
   rw[e]at h'
   have:=ih h'
   have:=zKo e
   rw[hg];omega
theorem zJK{a s:List Nat}(h:run [] a=some s)(i:Nat):∃st,run [] (a.take i)=some st:=by
 have e:a=a.take i++a.drop i:=(List.take_append_drop i a).symm
 rw[e,zDk]at h
 cases q:run [] (a.take i)with
 |none=>rw[q]at h;cases h
 |some st=>exact⟨st,rfl⟩
theorem zNK{a st:List Nat}{i:Nat}(h:run [] (a.take i)=some st):ht a i=st.length:=by
 have:=zLI h
 unfold ht;simp at this;omega
def Pr(a:List Nat)(x y:Nat):Prop:=x<y/\y<a.length/\ht a (y+1)=ht a x/\∀m,x<m->m<=y->ht a x<ht a m
def IsPart(a:List Nat)(xs:List V):Prop:=xs.length=a.length/\∀k,k<a.length->∃p:Nat,xs[k]? =some (.int p)/\(Pr a k p\/Pr a p k)
theorem zHo{a:List Nat}{k p q:Nat}(h:Pr a k p)(h':Pr a k q):p=q:=by
 obtain⟨h1,h2,h3,h4⟩:=h
 obtain⟨g1,g2,g3,g4⟩:=h'
 rcases Nat.lt_trichotomy p q with z|z|z
 ·have:=g4 (p+1) (by omega) (by omega);omega
 ·exact z
 ·have:=h4 (q+1) (by omega) (by omega);omega
theorem zMo{a:List Nat}{k p q:Nat}(h:Pr a p k)(h':Pr a q k):p=q:=by
 obtain⟨h1,h2,h3,h4⟩:=h
 obtain⟨g1,g2,g3,g4⟩:=h'
 rcases Nat.lt_trichotomy p q with z|z|z
 ·have:=h4 q z (by omega);omega
 ·exact z
 ·have:=g4 p z (by omega);omega
theorem zKL{a:List Nat}{k p q:Nat}(h:Pr a k p)(h':Pr a q k):False:=by
 obtain⟨h1,h2,h3,h4⟩:=h
 obtain⟨g1,g2,g3,g4⟩:=h'
 have:=h4 (k+1) (by omega) (by omega)
 have:=g4 k g1 (by omega)
 omega
inductive WS (a:List Nat) (i:Nat):List Nat->List Nat->Prop where
 |nil:WS a i [] []
 |cons {w c:Nat} {ws st:List Nat}:w<i->a[w]? =some c->c∈opn->ht a w=ws.length->(∀m,w<m->m<=i->ht a w<ht a m)->WS a i ws st->WS a i (w::ws) (clo c::st)
theorem WS.len{a ws st:List Nat}{i:Nat}(h:WS a i ws st):ws.length=st.length:=by
 induction h with
 |nil=>rfl
 |cons _ _ _ _ _ _ ih=>simp[ih]
theorem WS.lt{a ws st:List Nat}{i:Nat}(h:WS a i ws st):∀w∈ws,w<i:=by
 induction h with
 |nil=>intro w z;cases z
 |cons h1 _ _ _ _ _ ih=>
  intro w z
  rcases List.mem_cons.mp z with rfl|z
  ·exact h1
  ·exact ih w z
theorem WS.ext{a ws st:List Nat}{i:Nat}(h:WS a i ws st)(hh:(ws.length:Int)<=ht a (i+1)):WS a (i+1) ws st:=by
 induction h with
 |nil=>exact .nil
 |cons h1 h2 h3 h4 h5 _ ih=>
  simp only[List.length_cons]at hh
  refine .cons (by omega) h2 h3 h4 (fun m hm1 hm2=>?_) (ih (by omega))
  by_cases e:m=i+1
  ·subst e;omega
  ·exact h5 m hm1 (by omega)
structure MI (a:List Nat) (i:Nat) (st ws:List Nat) (xs:List V):Prop where
 rn:run [] (a.take i)=some st
 wk:WS a i ws st
 len:xs.length=a.length
 don:∀k,k<i->k∈ws\/∃p:Nat,xs[k]? =some (.int p)/\(Pr a k p\/Pr a p k)
theorem MI.start(a:List Nat){xs:List V}(h:xs.length=a.length):MI a 0 [] [] xs:=⟨rfl, .nil,h,fun k z=>by omega⟩
theorem zEA{a st:List Nat}{i c:Nat}(h:run [] (a.take i)=some st)(hc:a[i]? =some c):run [] (a.take (i+1))=stp st c:=by
 rw[List.take_add_one,hc]
 exact zD9 h c
theorem MI.opens{a st ws:List Nat}{xs:List V}{i c:Nat}(m:MI a i st ws xs)(hc:a[i]? =some c)(ho:c∈opn):MI a (i+1) (clo c::st) (i::ws) xs:=by
 have e1:ht a (i+1)=ht a i+1:=by rw[zIL hc];unfold sg;rw[if_pos ho]
 have e2:=zNK m.rn
 have e3:=m.wk.len
 refine⟨by rw[zEA m.rn hc,zD2 ho], .cons (by omega) hc ho (by omega) (fun k h1 h2=>?_) (m.wk.ext (by omega)),m.len,fun k hk=>?_⟩
 ·have:k=i+1:=by omega
  subst this;omega
 ·by_cases e:k=i
  ·subst e;exact .inl List.mem_cons_self
  ·rcases m.don k (by omega)with z|z
   ·exact .inl (List.mem_cons_of_mem _ z)
   ·exact .inr z
theorem MI.top{a st:List Nat}{w:Nat}{ws:List Nat}{xs:List V}{i:Nat}(m:MI a i st (w::ws) xs):∃c r,a[w]? =some c/\c∈opn/\st=clo c::r/\w<i:=by
 have h:=m.wk
 cases h with
 |cons h1 h2 h3 h4 h5 h6=>exact⟨_,_,h2,h3,rfl,h1⟩
theorem MI.closes{a r:List Nat}{w:Nat}{ws:List Nat}{xs:List V}{i c:Nat}(m:MI a i (c::r) (w::ws) xs)(hc:a[i]? =some c)(ho:c∉opn):MI a (i+1) r ws ((xs.set w (.int i)).set i (.int w)):=by
 have e1:ht a (i+1)=ht a i-1:=by rw[zIL hc];unfold sg;rw[if_neg ho];omega
 have e2:=zNK m.rn
 have e3:=m.wk.len
 have hn:i<a.length:=(List.getElem?_eq_some_iff.mp hc).1
 have h:=m.wk
 cases h with
 |cons h1 h2 h3 h4 h5 h6=>
  simp only[List.length_cons]at e2 e3
  have hp:Pr a w i:=⟨h1,hn,by omega,h5⟩
  have hlen:=m.len
  refine⟨?_,h6.ext (by omega),by simp[m.len],fun k hk=>?_⟩
  ·rw[zEA m.rn hc]
   exact zC0 ho r
  ·by_cases ek:k=i
   ·subst ek
    exact .inr ⟨w,by simp[hlen,hn], .inr hp⟩
   ·by_cases ew:k=w
    ·subst ew
     refine .inr ⟨i,?_, .inl hp⟩
     rw[List.getElem?_set_ne (by omega),List.getElem?_set_self (by omega)]
    ·rcases m.don k (by omega)with z|⟨p,z,q⟩
     ·rcases List.mem_cons.mp z with z|z
      ·exact absurd z ew
      ·exact .inl z
     ·exact .inr ⟨p,by rw[List.getElem?_set_ne (by omega),List.getElem?_set_ne (by omega)];exact z,q⟩
theorem MI.fin{a:List Nat}{ws:List Nat}{xs:List V}(m:MI a a.length [] ws xs):IsPart a xs:=by
 have h:=m.wk
 cases h
 refine⟨m.len,fun k hk=>?_⟩
 rcases m.don k hk with z|z
 ·cases z
 ·exact z
theorem zLY{a:List Nat}(h:Rt a):∃xs,IsPart a xs:=by
 have go:∀i,i<=a.length->∃st ws xs,MI a i st ws xs:=by
  intro i
  induction i with
  |zero=>intro _;exact⟨[],[],List.replicate a.length .non,MI.start a (by simp)⟩
  |succ i ih=>
   intro hi
   obtain⟨st,ws,xs,m⟩:=ih (by omega)
   have hc:a[i]? =some a[i]:=by simp
   by_cases ho:a[i]∈opn
   ·exact⟨_,_,_,m.opens hc ho⟩
   ·obtain⟨s',e⟩:=zJK h (i+1)
    rw[zEA m.rn hc]at e
    unfold stp at e
    rw[if_neg ho]at e
    cases st with
    |nil=>cases e
    |cons d r=>
     simp only at e
     split at e
     ·rename_i hd
      cases ws with
      |nil=>have:=m.wk.len;simp at this
      |cons w ws=>exact⟨_,_,_,MI.closes (c:=a[i]) (by rw[hd];exact m) hc ho⟩
     ·cases e
 obtain⟨st,ws,xs,m⟩:=go a.length (Nat.le_refl _)
 have e:st=[]:=by
  have:=m.rn
  rw[List.take_length]at this
  have h':run [] a=some []:=h
  rw[h']at this
  exact(Option.some.inj this).symm
 subst e
 exact⟨xs,m.fin⟩
end BrM
namespace BrM
open L2 PySem
def plainTy:List String:=["NoneType","bool","int","str","list","tuple","dict"]
def spWhole(K:PySem.W.Frag):Sp:=fun vs H Q _=>∃x T,vs=[x]/\TyOf K H x (.type T)/\T∈plainTy/\Q (.bl (decide (T="int"))) H
theorem zEg{K:PySem.W.Frag}{H:Hp}{i:Int}{Q:VK}{E:XK}(q:Q (.bl true) H):spWhole K ([.int i]++[]) H Q E:=⟨.int i,"int",rfl, .int i,by decide,q⟩
def spKinds:Sp:=fun vs H Q _=>∃k,vs=[.int k]/\1<=k/\k<=4/\Q .non H
theorem zIC{H:Hp}{k:Int}{Q:VK}{E:XK}(h1:1<=k)(h2:k<=4)(q:Q .non H):spKinds ([.int k]++[]) H Q E:=⟨k,rfl,h1,h2,q⟩
def sgn(k:Int):List Nat:=opn.take k.toNat++cls.take k.toNat++[63]
def isRow(k:Int)(a:List Nat):Bool:=decide (a.length<=40)&&a.all fun c=>decide (c∈sgn k)
def spLine(K:PySem.W.Frag):Sp:=fun vs H Q _=>∃k x,vs=[.int k,x]/\1<=k/\k<=4/\
 ((∃a,x=tx a/\a.length<=1000/\∀H',Same H H'->Q (.bl (isRow k a)) H')\/(∃T,TyOf K H x (.type T)/\T∈plainTy/\T≠"str"/\Q (.bl false) H))
theorem zJf{K:PySem.W.Frag}{H:Hp}{k:Int}{a:List Nat}{Q:VK}{E:XK}(h1:1<=k)(h2:k<=4)(ha:a.length<=1000)(q:∀H',Same H H'->Q (.bl (isRow k a)) H'):spLine K ([.int k,tx a]++[]) H Q E:=⟨k,_,rfl,h1,h2, .inl ⟨a,rfl,ha,q⟩⟩
def spCheckLine:Sp:=fun vs H Q _=>∃k a,vs=[.int k,tx a]/\1<=k/\k<=4/\isRow k a=true/\∀H',Same H H'->Q .non H'
theorem zAz{H:Hp}{k:Int}{a:List Nat}{Q:VK}{E:XK}(h1:1<=k)(h2:k<=4)(ha:isRow k a=true)(q:∀H',Same H H'->Q .non H'):spCheckLine ([.int k,tx a]++[]) H Q E:=⟨k,a,rfl,h1,h2,ha,q⟩
instance (a:List Nat):Decidable (Rt a):=by unfold Rt;infer_instance
def spLaw(K:PySem.W.Frag):Sp:=fun vs H Q _=>∃ (a:Addr) (ns:List Int),vs=[.ref a]/\SqL K H a (ns.map V.int)/\ns.length<=63/\∀H',Q (.bl true) H'
theorem zBg{k:Int}{a:List Nat}(h:isRow k a=true):a.length<=40:=by
 unfold isRow at h
 simp only[Bool.and_eq_true,decide_eq_true_eq]at h
 exact h.1
theorem zGg{α:Type}(xs:List α){k:Int}(h:0<=k):cutL xs none (some k)=xs.take k.toNat:=by
 unfold cutL
 obtain⟨n,rfl⟩:∃n:Nat,k=n:=⟨k.toNat,by omega⟩
 rw[HT.sIx_nat,HT.sIx_none,List.drop_zero,Nat.sub_zero,Int.toNat_natCast]
 rcases Nat.le_total n xs.length with z|z
 ·rw[Nat.min_eq_left z]
 ·rw[Nat.min_eq_right z,List.take_length,List.take_of_length_le z]
theorem Same.but{H H1 H2:Hp}{p:Addr}(a:Same H H1)(b:SameBut1 p H1 H2)(h:H p=none):Same H H2:=fun c o z=>b c o (a c o z) (zAE z h)
theorem SameBut1.at{H H1:Hp}{p b:Addr}{o:HO}(s:SameBut1 p H H1)(h:H b=some o)(n:b≠p):H1 b=some o:=s b o h n
def mx(a:List Nat):Nat->Int
 |0=>0
 |i+1=>if ht a (i+1)>mx a i then ht a (i+1)else mx a i
def deep(a:List Nat):Int:=mx a a.length
def piece(a:List Nat)(b e:Nat):List Nat:=cutL a (some (b:Int)) (some (e:Int))
def ct(a:List Nat):Nat->List (List Nat)×Nat
 |0=>([],0)
 |i+1=>if ht a (i+1)=0 then((ct a i).1++[piece a (ct a i).2 (i+1)],i+1)else ct a i
def pts(a:List Nat):List (List Nat):=(ct a a.length).1
theorem zJk{k:Int}{a:List Nat}(hl:a.length<=40)(h:∀c∈a,c∈sgn k):isRow k a=true:=by
 unfold isRow
 simp only[Bool.and_eq_true,List.all_eq_true,decide_eq_true_eq]
 exact⟨hl,h⟩
end BrM
namespace BrR
open PySem PySem.Spec PyProof.Rows
open PySem.Builtin
end BrR
namespace BrR
open PySem PySem.Spec PyProof.Rows L2
open PySem.Builtin
section
variable{prog:Program}{w:World}{A:Around}{E:Value->Shared->Prop}{s:Shared}
end
end BrR
namespace L2
open PySem PySem.Spec PyProof.Rows BrR
section
variable{X:Cx}
theorem zKn{xss:List (List Nat)}:∀ {us:List Value},Vals (xss.map tx) us->StrsAre us (xss.map fun a=>⟨a.toArray⟩):=by
 induction xss with
 |nil=>intro us r;cases r;exact .nil
 |cons a r ih=>
  intro us h
  cases h with
  |cons h1 h2=>
   obtain⟨t,rfl⟩:=h1
   exact .cons _ t (ih h2)
theorem zE6:∀ (xss:List (List Nat)),Str.join ⟨([]:List Nat).toArray⟩ (xss.map fun a=>⟨a.toArray⟩)=⟨xss.flatten.toArray⟩
 |[]=>rfl
 |[a]=>by simp[Str.join]
 |a::b::r=>by
  have ih:=zE6 (b::r)
  rw[List.map_cons,List.map_cons]at*
  show(⟨a.toArray⟩:Str)++⟨([]:List Nat).toArray⟩++Str.join ⟨([]:List Nat).toArray⟩ (⟨b.toArray⟩::r.map fun a=>⟨a.toArray⟩)=_
  rw[ih]
  show(⟨a.toArray++([]:List Nat).toArray++(b::r).flatten.toArray⟩:Str)=_
  simp
def rJoin(K:PySem.W.Frag):V->List V->Hp->VK->Prop:=fun x vs H Q=>∃ (p:Addr) (xss:List (List Nat)),x=tx []/\vs=[.ref p]/\SqL K H p (xss.map tx)/\xss.flatten.length+xss.length<=1000000/\Q (tx xss.flatten) H
theorem zH9(K:PySem.W.Frag)(hK:X.K=K:=by rfl):MtR X "str.join" (rJoin K):=by
 subst hK
 intro pins s σ H x vs v us Q I rx rv h
 obtain⟨p,xss,rfl,rfl,hq,hw,q⟩:=h
 obtain⟨t,rfl⟩:=rx
 obtain⟨u,rfl,ru⟩:=rv.one
 cases ru
 obtain⟨its,r,ht,hz⟩:=I.list hq
 have hs:((xss.map fun a=>(⟨a.toArray⟩:Str)).map (·.length)).sum=xss.flatten.length:=by
  rw[List.map_map,List.length_flatten]
  congr 1
 refine join_listW ht.isList (zKn r) (by rw[zBp];decide) (by rw[hs,List.length_map];omega) fun t' k=>?_
 have e:Txt.join ⟨([]:List Nat).toArray⟩ (xss.map fun a=>⟨a.toArray⟩)=⟨xss.flatten.toArray⟩:=by
  show Builtin.Str.glued _ _=_
  rw[StrLaws.glued_eq_join,zE6]
 rw[e]
 exact⟨tx xss.flatten,H,I.tok k,⟨t',rfl⟩,q⟩
end
section
variable{σ:St}{H:Hp}{Q:VK}{K:PySem.W.Frag}
theorem zNr{a:List Nat}{P:Prop}(h:P):tyV K "str" (tx a) H/\P:=⟨rfl,h⟩
theorem zKF{p:Addr}{xss:List (List Nat)}(hq:SqL K H p (xss.map tx))(hw:xss.flatten.length+xss.length<=1000000)(h:Q (tx xss.flatten) H):rJoin K (tx []) [.ref p] H Q:=⟨p,xss,rfl,rfl,hq,hw,h⟩
end
end L2
namespace BrM
open L2 PySem BrR
def oth(c:Nat):Nat:=if c=40 then 41 else if c=91 then 93 else if c=123 then 125 else if c=60 then 62 else if c=41 then 40 else if c=93 then 91 else if c=125 then 123 else if c=62 then 60 else c
def trn(a:List Nat):List Nat:=a.reverse.map oth
def sgs(k:Int):List Nat:=[40,41,91,93,123,125,60,62].take (2*k).toNat++[63]
theorem zKu{k:Int}{c:Nat}(h1:1<=k)(h4:k<=4)(h:c∈sgs k):c∈sgn k:=by
 have hk:k=1\/k=2\/k=3\/k=4:=by omega
 rcases hk with rfl|rfl|rfl|rfl
 ·exact(show∀c∈sgs 1,c∈sgn 1 by decide) c h
 ·exact(show∀c∈sgs 2,c∈sgn 2 by decide) c h
 ·exact(show∀c∈sgs 3,c∈sgn 3 by decide) c h
 ·exact(show∀c∈sgs 4,c∈sgn 4 by decide) c h
theorem zKf{l:List Nat}{i:Int}(h0:0<=i)(h1:i<(l.length:Int)):∃c,atI l i=some c/\c∈l:=by
 have hk:i.toNat<l.length:=by omega
 have ek:i=((i.toNat:Nat):Int):=by omega
 have q:atI l ((i.toNat:Nat):Int)=some l[i.toNat]:=zAN (List.getElem?_eq_getElem hk)
 rw[<-ek]at q
 exact⟨_,q,List.getElem_mem hk⟩
theorem zLl{k:Int}{c:Nat}(h:kin k c):c∈sgn k:=by
 unfold sgn
 rcases h with z|z
 ·exact List.mem_append_left _ (List.mem_append_left _ z)
 ·exact List.mem_append_left _ (List.mem_append_right _ z)
end BrM
namespace L2
open PySem PySem.Spec PyProof.Rows BrR
section
variable{X:Cx}
end
section
variable{σ:St}{H:Hp}{Q:VK}{K:PySem.W.Frag}
end
end L2
namespace BrM
open L2 PySem
structure PtsOk (a:List Nat):Prop where
 flat:(pts a).flatten=a
 form:∀p∈pts a,∃o M,p=[o]++M++[clo o]/\o∈opn/\Rt M
 le:∀p∈pts a,deep p<=deep a
 top:deep a=0\/∃p∈pts a,deep p=deep a
 back:pts (trn a)=((pts a).map trn).reverse
theorem zCj{p:List Nat}:∀ {l:List (List Nat)},p∈l->p.length<=l.flatten.length
 |q::r,h=>by
  rw[List.flatten_cons,List.length_append]
  rcases List.mem_cons.mp h with z|z
  ·subst z;omega
  ·have:=zCj z;omega
theorem PtsOk.len{a:List Nat}(h:PtsOk a){p:List Nat}(hp:p∈pts a):p.length<=a.length:=by
 have:=zCj hp
 rwa[h.flat]at this
end BrM
namespace L2
open PySem PySem.Spec PyProof.Rows BrR
section
variable{σ:St}{H:Hp}{Q:VK}{K:PySem.W.Frag}
theorem zIq{a:Addr}{xs:List V}{own:List Str}{sel:List Nat}{g:TG}{tt:TT}{te:TE}(ha:H a=some (.lst xs))
 (hst:∀D H',H D=none->Same H H'->H' D=some (.lst [])->Q (.ref D) H')
 (hs:∀ (D:Addr) (i:Nat) (x:V) (H':Hp) (R:St->Bool->Hp->Prop),H D=none->xs[i]? =some x->Same H H'->(∀σ4 H5,Same H' H5->R σ4 false H5)->g x (inSt own sel σ) H' fun σ4 H4=>tt σ4 H4 (R σ4)):CompW (Itl K a) own sel σ g tt te Q H:=by
 intro D hD
 refine⟨fun i m H'=>m=xs.length-i/\i<=xs.length/\H' D=some (.lst [])/\Same H H',⟨_,rfl,Nat.zero_le _,zAC,zAF hD _⟩,?_⟩
 rintro i m H2 ⟨rfl,hi,hy,sH⟩
 by_cases hlt:i<xs.length
 ·refine .inr ⟨⟨xs,xs[i],SqL.of (sH _ _ ha),List.getElem?_eq_getElem hlt⟩,fun x H3 y=>?_⟩
  obtain⟨rfl,hx⟩:=y
  refine hs D i x H3 (fun σ4 b H5=>if b=true then te σ4 H5 fun v H6=>∃ys,H6 D=some (.lst ys)/\ys.length<sizeLine/\∃m',m'<xs.length-i/\(m'=xs.length-(i+1)/\i+1<=xs.length/\(upd H6 D (.lst (ys++[v]))) D=some (.lst [])/\Same H (upd H6 D (.lst (ys++[v]))))else∃m',m'<xs.length-i/\(m'=xs.length-(i+1)/\i+1<=xs.length/\H5 D=some (.lst [])/\Same H H5)) hD (hx _ (SqL.of (sH _ _ ha))) sH (fun σ4 H5 s5=>?_)
  rw[if_neg Bool.false_ne_true]
  exact⟨xs.length-(i+1),by omega,rfl,hlt,s5 _ _ hy,sH.trans s5⟩
 ·have e:i=xs.length:=by omega
  subst e
  exact .inl ⟨⟨_,SqL.of (sH _ _ ha),Nat.le_refl _⟩,hst D H2 hD sH hy⟩
end
end L2
namespace BrM
open L2 PySem
end BrM
namespace L2
open PySem PySem.Spec PyProof.Rows
theorem zEb:∀ (names:List (Str×NameKind)) (h:Heap) (acc:List (Str×Addr)) (x:Str) (c:Addr),(cellsFrom h.objs.size names acc).lookup x=some c->
 ((x,NameKind.cell)∈names/\h.objs.size<=c/\(pushCells h names).IsCell c none)\/acc.lookup x=some c
 |[],_,_,_,_,e=> .inr e
 |(nm,k)::r,h,acc,x,c,e=>by
  unfold cellsFrom at e
  unfold pushCells
  by_cases hk:(k==NameKind.cell)=true
  ·rw[if_pos hk]at e⊢
   rw[<-Heap.size_push h {cls:= .type "cell",data:= .cell none}]at e
   rcases zEb r _ _ x c e with⟨a,b,d⟩|q
   ·refine .inl ⟨List.mem_cons_of_mem _ a,?_,d⟩
    rw[Heap.size_push]at b;omega
   ·rw[List.lookup_cons]at q
    cases hx:x==nm with
    |true=>
     rw[hx]at q
     cases q
     have e1:=eq_of_beq hx
     have e2:k= .cell:=by simpa using hk
     subst e1;subst e2
     exact .inl ⟨List.mem_cons_self,Nat.le_refl _,⟨_,pushCells_keeps _ _ _ _ (Heap.get?_push_size _ rfl),rfl⟩⟩
    |false=>rw[hx]at q;exact .inr q
  ·rw[if_neg hk]at e⊢
   rcases zEb r h acc x c e with⟨a,b,d⟩|q
   ·exact .inl ⟨List.mem_cons_of_mem _ a,b,d⟩
   ·exact .inr q
theorem zFK:∀ (names:List (Str×NameKind)) (n:Nat) (acc:List (Str×Addr)) (x:Str),(x,NameKind.cell)∉names->(cellsFrom n names acc).lookup x=acc.lookup x
 |[],_,_,_,_=>rfl
 |(nm,k)::r,n,acc,x,hx=>by
  unfold cellsFrom
  have hr:(x,NameKind.cell)∉r:=fun z=>hx (List.mem_cons_of_mem _ z)
  by_cases hk:(k==NameKind.cell)=true
  ·rw[if_pos hk,zFK r _ _ x hr,List.lookup_cons]
   have:(x==nm)=false:=by
    cases q:x==nm with
    |false=>rfl
    |true=>
     have e1:=eq_of_beq q
     have e2:k= .cell:=by simpa using hk
     subst e1;subst e2
     exact absurd List.mem_cons_self hx
   rw[this]
  ·rw[if_neg hk];exact zFK r n acc x hr
theorem zIr:∀ (names:List (Str×NameKind)) (n:Nat) (acc:List (Str×Addr)) (x:Str),((x,NameKind.cell)∈names\/∃c,acc.lookup x=some c/\n<=c)->∃c,(cellsFrom n names acc).lookup x=some c/\n<=c
 |[],n,acc,x,h=>by
  rcases h with z|z
  ·cases z
  ·exact z
 |(nm,k)::r,n,acc,x,h=>by
  unfold cellsFrom
  by_cases hk:(k==NameKind.cell)=true
  ·rw[if_pos hk]
   by_cases hr:(x,NameKind.cell)∈r
   ·obtain⟨c,e,l⟩:=zIr r (n+1) ((nm,n)::acc) x (.inl hr)
    exact⟨c,e,by omega⟩
   ·rw[zFK r _ _ x hr,List.lookup_cons]
    cases hx:x==nm with
    |true=>exact⟨n,rfl,Nat.le_refl _⟩
    |false=>
     rcases h with z|z
     ·rcases List.mem_cons.mp z with q|q
      ·cases q;simp at hx
      ·exact absurd q hr
     ·exact z
  ·rw[if_neg hk]
   refine zIr r n acc x ?_
   rcases h with z|z
   ·rcases List.mem_cons.mp z with q|q
    ·cases q;exact absurd rfl hk
    ·exact .inl q
   ·exact .inr z
theorem zIs:∀ (names:List (Str×NameKind)) (n:Nat) (acc:List (Str×Addr)),(∀x y c,acc.lookup x=some c->acc.lookup y=some c->x=y)->(∀x c,acc.lookup x=some c->c<n)->
 ∀x y c,(cellsFrom n names acc).lookup x=some c->(cellsFrom n names acc).lookup y=some c->x=y
 |[],_,_,h,_=>h
 |(nm,k)::r,n,acc,h,hb=>by
  unfold cellsFrom
  by_cases hk:(k==NameKind.cell)=true
  ·rw[if_pos hk]
   refine zIs r (n+1) ((nm,n)::acc) (fun x y c a b=>?_) fun x c a=>?_
   ·rw[List.lookup_cons]at a b
    cases hx:x==nm<;>cases hy:y==nm<;>rw[hx]at a<;>rw[hy]at b
    ·exact h x y c a b
    ·cases b;exact absurd (hb x _ a) (Nat.lt_irrefl _)
    ·cases a;exact absurd (hb y _ b) (Nat.lt_irrefl _)
    ·rw[eq_of_beq hx,eq_of_beq hy]
   ·rw[List.lookup_cons]at a
    cases hx:x==nm<;>rw[hx]at a
    ·exact Nat.lt_succ_of_lt (hb x c a)
    ·cases a;exact Nat.lt_succ_self _
  ·rw[if_neg hk];exact zIs r n acc h hb
theorem zKl{M:Model}{A:Around}{E:Value->Shared->Prop}{s:Shared}{scope:Scope}{cl:List (Str×Addr)}{env:Env}{Q:Env->Shared->Prop}
 (h:Q {scope:=scope,locals:=s.heap.objs.size,globals:=env.globals,cells:=cellsFrom (s.heap.objs.size+1) scope.names cl,qual:=env.qual,func:=none,code:=env.code,frame:=env.frame,builtins:=env.builtins}
   {s with heap:=pushCells (s.heap.push {cls:= .type "dict",data:= .dict #[]}) scope.names}):
 wpAny M A (newFunctionEnv scope env.globals cl [] env.qual none .none (some env)) Q E s:=by
 simp only[newFunctionEnv,Option.isSome_some,if_true]
 refine wpAny_bind (wpAny_alloc ?_)
 refine wpAny_bind (wpAny_layCells _ (fun name kind cells=>by cases hkc:kind==NameKind.cell<;>simp[hkc]) _ _ _ _ ?_)
 rw[show({s with heap:=s.heap.push {cls:= .type "dict",data:= .dict #[]}}:Shared).heap.objs.size=s.heap.objs.size+1 from Heap.size_push ..]
 rw[List.forIn_nil]
 exact wpAny_bind (wpAny_pure (wpAny_pure h))
def cxInC(X:Cx)(own:List Str)(sel:List Nat)(scope:Scope)(cl:List (Str×Addr))(C:Addr)(s2:Shared)(H2:Hp)(fp:List Addr):Cx where
 prog:=X.prog
 w:=X.w
 K:=X.K
 mg:=X.mg
 base:=X.base
 A:=X.A
 N:=own++sel.map fun j=>X.N.getD j Str.empty
 s₀:=s2
 H₀:=H2
 env:=compEnvC scope cl C X.env
 outer:=X.stack
 stack:=X.stack
 ex:=fp
 fn:=fun x=>scope.names.lookup x==some .cell
 calm:=X.calm
 pn:=[]
 xe:=fun _ _=>False
structure CompOkC (osc:Scope) (N:List Str) (own:List Str) (sel:List Nat) (scope:Scope):Prop where
 kind:scope.kind= .function
 cell:∀y∈scope.names,y.2= .cell->scope.names.lookup y.1=some .cell
 names:∀y∈scope.names,y.2= .local->scope.names.lookup y.1=some .local
 free:∀y∈scope.names,y.2= .free->osc.names.lookup y.1=some .cell\/osc.names.lookup y.1=some .free
 seln:∀j∈sel,j<N.length/\scope.names.lookup (N.getD j Str.empty)=some .free/\(osc.names.lookup (N.getD j Str.empty)=some .cell\/osc.names.lookup (N.getD j Str.empty)=some .free)
section
variable{X:Cx}
theorem zHC{elt tg iter:Expr}{ifs:List Expr}{scope:Scope}{pos:Pos}{own:List Str}{sel:List Nat}{wi:TI}{g:TG}{tt:TT}{te:TE}{use:Option (Value->Sem Unit)}{Qo:Value->Shared->Prop}
 (S:CompOkC X.env.scope X.N own sel scope) (hc:X.calm=true) (hi:PI X tg iter wi)
 (hg:∀cl C s2 H2 fp,PG (cxInC X own sel scope cl C s2 H2 fp) tg g) (hk:GK own.length g)
 (ht:∀cl C s2 H2 fp,PIf (cxInC X own sel scope cl C s2 H2 fp) ifs tt) (he:∀cl C s2 H2 fp,PE (cxInC X own sel scope cl C s2 H2 fp) elt te)
 (hs:∀x,foldedSetIterable iter X.env x=pure x) {pins:List (Addr×Obj)} {s:Shared} {σ:St} {H:Hp} {Q:VK} {ps:Pos} (I0:Inv X pins σ H s) (h:tComp own sel wi g tt te σ H Q)
 (fin:∀ (D C:Addr) (H':Hp) (s':Shared) (m:Str->Option Value),Inv X pins σ H' s'->s'.heap.Ns C m->Far X pins H' C->Q (.ref D) H'->compPost (model X.prog X.w) X.A X.xe use Qo (.ref D) C (.ok .next) s'):
 wpAny (model X.prog X.w) X.A (comprehension (.ListComp elt [⟨tg,iter,ifs,0⟩] scope pos) scope X.env ps (newList []) false (eval iter X.env) use) Qo X.xe s:=by
 obtain⟨cl0,hclos,hcl0,hfree0⟩:=zF0 (scope:=scope) (env:=X.env) fun y hy e=>I0.ok.has y.1 (S.free y hy e)
 refine wpAny_comprehension_free (use:=use) rfl hs hclos S.kind S.names (thn (hi pins s σ H _ I0 h) fun v s1 h1=>thn h1 fun itv s2 h2=>?_)
 obtain⟨it,fp,tn,J,H2,e,I,T,st2,f2,h3⟩:=h2
 subst e
 clear h h1 I0
 refine wpAny_newObj_type (zKl ?_)
 dsimp only
 generalize hP:s2.heap.push {cls:= .type "list",dict:=none,data:= .seq ([]:List Value).toArray}=P1
 generalize hD:s2.heap.objs.size=D
 generalize hC:P1.objs.size=C
 have hCD:C=D+1:=by rw[<-hC,<-hP,Heap.size_push,hD]
 have hlt:D<C:=by rw[hCD];exact Nat.lt_succ_self D
 have hDC:D≠C:=Nat.ne_of_lt hlt
 have neC:∀b:Addr,b<D->b≠C:=fun b hb=>Nat.ne_of_lt (Nat.lt_trans hb hlt)
 have neD:∀b:Addr,b<D->b≠D:=fun b hb=>Nat.ne_of_lt hb
 have hsD:s2.heap.objs.size<=D:=Nat.le_of_eq hD
 have hsC:s2.heap.objs.size<=C:=Nat.le_trans hsD (Nat.le_of_lt hlt)
 have fresh:∀a,D<=a->H2 a=none:=fun a ha=>I.hok.fresh (by rw[hD];exact ha)
 have hnD:H2 D=none:=fresh D (Nat.le_refl _)
 have hnC:H2 C=none:=fresh C (Nat.le_of_lt hlt)
 have below:∀b o,s2.heap.get? b=some o->b<D:=fun b o e=>by rw[<-hD];exact Heap.lt_size e
 generalize hh1:pushCells (P1.push {cls:= .type "dict",data:= .dict #[]}) scope.names=h1
 have keepP:∀b o,P1.get? b=some o->h1.get? b=some o:=fun b o e=>by rw[<-hh1];exact pushCells_keeps _ _ b o (Heap.get?_push_of_some _ e)
 have keep1:∀b o,s2.heap.get? b=some o->h1.get? b=some o:=fun b o e=>keepP b o (hP▸Heap.get?_push_of_some _ e)
 have hns1:h1.Ns C (fun _=>none):=by rw[<-hh1,<-hC];exact(Heap.Ns.new P1 (.type "dict")).keeps (pushCells_keeps _ _)
 have gD:h1.get? D=some {cls:= .type "list",dict:=none,data:= .seq ([]:List Value).toArray}:=by
  refine keepP _ _ ?_
  rw[<-hP,<-hD]
  exact Heap.get?_push_size _ rfl
 have szP:(P1.push {cls:= .type "dict",data:= .dict #[]}).objs.size=C+1:=by rw[Heap.size_push,hC]
 have hcb:∀x c,cl0.lookup x=some c->c<D:=fun x c e=>by
  obtain⟨u,o,z,_⟩:=I.cell x c (hcl0 _ _ e)
  exact below c o z
 generalize hcs:cellsFrom (C+1) scope.names cl0=cl
 have hsplit:∀x c,cl.lookup x=some c->((x,NameKind.cell)∈scope.names/\C+1<=c/\h1.IsCell c none)\/X.env.cells.lookup x=some c:=fun x c e=>by
  rw[<-hcs,<-szP]at e
  rcases zEb _ _ _ x c e with⟨a,b,d⟩|q
  ·rw[szP]at b;rw[hh1]at d;exact .inl ⟨a,b,d⟩
  ·exact .inr (hcl0 _ _ q)
 have hinj:∀x y c,cl.lookup x=some c->cl.lookup y=some c->x=y:=by
  rw[<-hcs]
  exact zIs _ _ _ (fun x y c a b=>I.ok.inj x y c (hcl0 _ _ a) (hcl0 _ _ b)) fun x c e=>Nat.lt_succ_of_lt (Nat.lt_trans (hcb x c e) hlt)
 have hcell:∀x,(x,NameKind.cell)∈scope.names->∃c,cl.lookup x=some c/\C+1<=c:=fun x hx=>by rw[<-hcs];exact zIr _ _ _ x (.inl hx)
 have hfree:∀y∈scope.names,y.2= .free->∃c,cl.lookup y.1=some c:=fun y hy e=>by
  by_cases hm:(y.1,NameKind.cell)∈scope.names
  ·obtain⟨c,q,_⟩:=hcell _ hm;exact⟨c,q⟩
  ·rw[<-hcs,zFK _ _ _ _ hm];exact hfree0 y hy e
 have hold:∀x,scope.names.lookup x=some .free->∃c,cl.lookup x=some c/\X.env.cells.lookup x=some c:=fun x hx=>by
  have hm:(x,NameKind.cell)∉scope.names:=fun z=>by have:=S.cell _ z rfl;rw[hx]at this;cases this
  obtain⟨c,q⟩:=hfree0 _ (PySem.mem_of_lookup hx) rfl
  exact⟨c,by rw[<-hcs,zFK _ _ _ _ hm];exact q,hcl0 _ _ q⟩
 obtain⟨W,⟨m0,w0⟩,turn⟩:=h3 D hnD
 have fpb:∀b∈fp,b<D:=fun b hb=>by obtain⟨o,e,_⟩:=T.obj _ _ st2 b hb;exact below b o e
 generalize hY:cxInC X own sel scope cl C s2 H2 fp=Y
 have hg:=hg cl C s2 H2 fp
 have ht:=ht cl C s2 H2 fp
 have he:=he cl C s2 H2 fp
 rw[hY]at hg ht he
 have okY:Y.Ok:=by
  subst hY
  refine⟨I.ok.mod,S.kind,I.ok.glob,I.ok.blt,?_,hinj,fun x hx=>?_,fun x c hf e=>?_,fun z=>I.ok.hd z,I.ok.frames, .inl rfl,fun b hb=>⟨?_,fun x c e=>?_⟩,I.bs,
   Nat.le_trans I.ok.bsz I.sz,fun b o e hb=>?_,fun b hb z=>?_,I.stack,I.stkFree⟩
  ·exact hsC
  ·have hx':(relabel scope X.env).names.lookup x=some .cell\/(relabel scope X.env).names.lookup x=some .free:=hx
   have hf:scope.names.lookup x=some .cell\/scope.names.lookup x=some .free:=by
    rcases hx' with z|z
    ·rcases zAi z with q|q
     ·exact .inl q
     ·exact .inr q
    ·rcases zAi z with q|q<;>exact .inr q
   rcases hf with hf|hf
   ·obtain⟨c,q,_⟩:=hcell _ (PySem.mem_of_lookup hf);exact⟨c,q⟩
   ·exact hfree _ (PySem.mem_of_lookup hf) rfl
  ·have hf':scope.names.lookup x=some .cell:=by
    have:(scope.names.lookup x==some NameKind.cell)=true:=hf
    exact eq_of_beq this
   obtain⟨c',q,l⟩:=hcell x (PySem.mem_of_lookup hf')
   have e':cl.lookup x=some c:=e
   rw[q]at e'
   cases e'
   exact Nat.le_trans hsC (by omega)
  ·exact neC b (fpb b hb)
  ·rcases hsplit x c e with⟨_,l,_⟩|q
   ·have:=fpb b hb;intro z;subst z;exact absurd (Nat.lt_of_lt_of_le this (Nat.le_of_lt hlt)) (by omega)
   ·exact(f2 b hb).2.2.2.2.1 x c q
  ·rcases(f2 b hb).2.2.2.1 with z|z
   ·exact I.ok.noex b o e z
   ·exact absurd (Nat.lt_of_lt_of_le (Heap.lt_size e) (Nat.le_trans I.ok.bsz z)) (Nat.lt_irrefl _)
  ·rcases List.mem_cons.mp (I.stkSub b z)with q|q
   ·exact(f2 b hb).2.1 q
   ·exact(f2 b hb).2.2.1 q
 have eo:ObjOk X.prog X.w (upd H2 D (.lst [])) h1 D (.lst []):=⟨by decide,[],_, .nil,gD⟩
 have I1:Inv Y [] (inSt own sel σ) (upd H2 D (.lst [])) {s2 with heap:=h1}:=by
  subst hY
  refine⟨okY,rfl,I.bare,Un.laid keep1 hsD hnD,⟨_,hns1,fun i x v e1 e2 e3=>?_⟩,fun x c e=>?_,?_,fun x c e=>?_,fun p hp=>absurd (show p∈([]:List (Addr×Obj))from hp) (by simp),I.hok.laid keep1 hsD eo,?_⟩
  ·obtain⟨k,j,ei,ej,es⟩:=zEM e2
   subst ei
   have e1':(own++sel.map fun j=>X.N.getD j Str.empty)[own.length+k]? =some x:=e1
   rw[List.getElem?_append_right (by omega),List.getElem?_map,show own.length+k-own.length=k by omega,ej]at e1'
   simp only[Option.map_some,Option.some.injEq]at e1'
   obtain⟨hj,hfx,hkd⟩:=S.seln j (List.mem_of_getElem? ej)
   have hN:X.N[j]? =some x:=by rw[<-e1',List.getD_eq_getElem?_getD,List.getElem?_eq_getElem hj];rfl
   rw[e1']at hkd hfx
   obtain⟨m,_,hl⟩:=I.loc
   obtain⟨u,r,lk⟩:=hl j x v hN es (.inr hkd)
   refine⟨u,r, .inr ⟨zBT I.ok.kind hfx,?_⟩⟩
   rcases lk with⟨z1,_⟩|⟨_,c,hc1,hc2⟩
   ·have z1':X.env.scope.names.lookup x=some .local:=z1
    rcases hkd with q|q<;>(rw[z1']at q;cases q)
   ·obtain⟨c',q,q2⟩:=hold _ hfx
    rw[hc1]at q2
    cases q2
    exact⟨c,q,hc2.keeps keep1⟩
  ·rcases hsplit x c e with⟨_,_,z⟩|q
   ·exact⟨_,z⟩
   ·obtain⟨u,z⟩:=I.cell x c q
    exact⟨u,z.keeps keep1⟩
  ·show upd H2 D (.lst []) C=none
   rw[zAG (Ne.symm hDC)];exact hnC
  ·show upd H2 D (.lst []) c=none
   rcases hsplit x c e with⟨_,l,_⟩|q
   ·have hcD:D<c:=Nat.lt_of_lt_of_le hlt (by omega)
    rw[zAG (Ne.symm (Nat.ne_of_lt hcD))]
    exact fresh c (Nat.le_of_lt hcD)
   ·obtain⟨u,o,z,_⟩:=I.cell x c q
    rw[zAG (neD c (below c o z))]
    exact I.freeC x c q
  ·show(inSt own sel σ).length=(own++sel.map fun j=>X.N.getD j Str.empty).length
   rw[zEN];simp
 have fin:∀ (σ':St) (H':Hp) (s':Shared),Inv Y [] σ' H' s'->Q (.ref D) H'->compPost (model X.prog X.w) X.A X.xe use Qo (.ref D) C (.ok .next) s':=by
  intro σ' H' s' I' q
  subst hY
  obtain⟨m,hn,_⟩:=I'.loc
  have J':Inv X pins σ H' s':=I.call' I'.os I'.base I'.hok I'.bare fun b hb=>⟨(f2 b hb).2.2.2.1,(f2 b hb).2.1,(f2 b hb).2.2.2.2.1,(f2 b hb).2.2.2.2.2⟩
  refine fin D C H' s' m J' hn ⟨I'.free,Ne.symm (neC _ (by rw[<-hD];exact I.lt)),Nat.le_trans I.sz hsC,fun x c e=>?_,fun p hp=>?_⟩ q
  ·obtain⟨u,o,z,_⟩:=I.cell x c e
   exact neC c (below c o z)
  ·exact neC p.1 (below p.1 p.2 (I.pin p hp).1)
 have stat:∀ {H':Hp},(∀b∈fp,H' b=none)->∀b∈fp,FpOk Y [] H' b:=fun{H'} hn b hb=>by
  subst hY
  refine⟨hn b hb,neC b (fpb b hb),fun z=>?_, .inl hb,fun x c e=>?_,fun p hp=>absurd (show p∈([]:List (Addr×Obj))from hp) (by simp)⟩
  ·rcases List.mem_cons.mp (I.stkSub b z)with q|q
   ·exact(f2 b hb).2.1 q
   ·exact(f2 b hb).2.2.1 q
  ·rcases hsplit x c e with⟨_,l,_⟩|q
   ·have:=fpb b hb;intro z;subst z;exact absurd (Nat.lt_of_lt_of_le this (Nat.le_of_lt hlt)) (by omega)
   ·exact(f2 b hb).2.2.2.2.1 x c q
 have loop:∀s3:Shared,s3={s2 with heap:=h1}->
  codeAny (model X.prog X.w) X.A (.compLoop (.ListComp elt [⟨tg,iter,ifs,0⟩] scope pos) 0 (.ref it) (.ref D) (compEnvC scope cl C X.env)) (compPost (model X.prog X.w) X.A X.xe use Qo (.ref D) C) s3:=by
  rintro s3 rfl
  have eP:Y.prog=X.prog:=by subst hY;rfl
  have eW:Y.w=X.w:=by subst hY;rfl
  have eA:Y.A=X.A:=by subst hY;rfl
  have eK:Y.K=X.K:=by subst hY;rfl
  have eE:Y.env=compEnvC scope cl C X.env:=by subst hY;rfl
  have eX:Y.xe=fun _ _=>False:=by subst hY;rfl
  have eC:Y.calm=true:=by subst hY;exact hc
  refine zDt (fun n s'=>∃i H',Inv Y [] (inSt own sel σ) H' s'/\tn i s'.heap/\(∀b∈fp,H' b=none)/\W i n H') ?_ m0
   ⟨0,_,I1,T.keep _ _ _ st2 fun b _ o e=>keep1 b o e,fun b hb=>by rw[zAG (neD b (fpb b hb))];exact(f2 b hb).1,w0⟩
  rintro n s4 ⟨i,H4,I4,st4,fr4,w4⟩
  rcases turn i n H4 w4 with⟨stop,q⟩|⟨go,step⟩
  ·have dn:=T.done Y eP eW eK eC i [] s4 _ H4 (fun _ _=>False) I4 (stat fr4) st4 stop
   rw[eA]at dn
   refine thn dn fun r s5 ⟨hr,I5⟩=>?_
   subst hr
   exact fin _ _ _ I5 q
  ·have im:=T.item Y eP eW eK eC i [] s4 _ H4 (fun _ _=>False) I4 (stat fr4) st4 go
   rw[eA]at im
   refine thn im fun r s5 ⟨u,hr,h5⟩=>?_
   subst hr
   refine thn h5 fun _ s6 ⟨x,H6,I6,r6,y6,st6,fr6⟩=>?_
   have I6':=I6.pinned (stat fr6) (T.obj _ _ st6)
   have back:∀ {σ7:St} {H7:Hp} {s7:Shared} {k:Nat},Inv Y ([]++pinsAt fp s6.heap) σ7 H7 s7->σ7.length=(inSt own sel σ).length->(∀j,own.length<=j->σ7[j]? =(inSt own sel σ)[j]?)->(∃m',m'<n/\W (i+1) m' H7)->
    ∃m',m'<n/\∃i H',Inv Y [] (inSt own sel σ) H' s7/\tn i s7.heap/\(∀b∈fp,H' b=none)/\W i m' H':=fun{σ7 H7 s7 k} I7 l7 k7 w7=>by
    obtain⟨m',hm,w7⟩:=w7
    refine⟨m',hm,i+1,H7,I7.unpinned.weak l7.symm fun j v e=>?_,T.keep _ _ _ st6 fun b hb o e=>(I7.pin (b,o) (List.mem_append_right _ (List.mem_append_right _ (zA7 hb e)))).1,fun b hb=>?_,w7⟩
    ·by_cases hj:j<own.length
     ·rw[zCt hj]at e;cases e
     ·rw[k7 j (Nat.le_of_not_lt hj)];exact e
    ·obtain⟨o,e,d⟩:=T.obj _ _ st6 b hb
     exact(I7.pin (b,o) (List.mem_append_right _ (List.mem_append_right _ (zA7 hb e)))).2.1
   have ga:=hg _ s6 _ H6 x u _ I6' r6 (hk _ _ _ _ (step x H6 y6))
   rw[eP,eW,eA,eE,eX]at ga
   refine thn ga fun _ s7 ⟨σ7,H7,I7,q7,l7,k7⟩=>?_
   have ta:=ht _ s7 σ7 H7 _ I7 q7
   rw[eP,eW,eA,eE,eX]at ta
   refine thn ta fun b s8 ⟨H8,I8,q8⟩=>?_
   cases b with
   |false=>
    rw[if_neg Bool.false_ne_true]at q8⊢
    exact back (k:=0) I8 l7 k7 q8
   |true=>
    rw[if_pos rfl]at q8⊢
    have ea:=he _ s8 σ7 H8 _ I8 q8
    rw[eP,eW,eA,eE,eX]at ea
    refine thn ea fun v s9 ⟨x9,H9,I9,r9,ys,hD9,hz9,q9⟩=>?_
    have aa:=zAr (X:=Y) _ s9 σ7 H9 (.ref D) [x9] (.ref D) [v] (fun _ H'=>∃m',m'<n/\W (i+1) m' H') I9 rfl (.cons r9 .nil) ⟨D,ys,x9,rfl,rfl,hD9,hz9,q9⟩
    rw[eP,eW,eA,eX]at aa
    exact thn aa fun _ s10 ⟨_,H10,I10,_,q10⟩=>back (k:=0) I10 l7 k7 q10
 exact codeAny_compStart_list (loop _ rfl) (T.self X.A 0 _ _ _ (T.keep _ _ _ st2 fun b _ o e=>keep1 b o e) (loop _ rfl))
theorem zJY{elt tg iter:Expr}{ifs:List Expr}{scope:Scope}{pos:Pos}{own:List Str}{sel:List Nat}{wi:TI}{g:TG}{tt:TT}{te:TE}
 (S:CompOkC X.env.scope X.N own sel scope) (hc:X.calm=true) (hi:PI X tg iter wi)
 (hg:∀cl C s2 H2 fp,PG (cxInC X own sel scope cl C s2 H2 fp) tg g) (hk:GK own.length g)
 (ht:∀cl C s2 H2 fp,PIf (cxInC X own sel scope cl C s2 H2 fp) ifs tt) (he:∀cl C s2 H2 fp,PE (cxInC X own sel scope cl C s2 H2 fp) elt te)
 (hs:∀x,foldedSetIterable iter X.env x=pure x:=by intro _;rfl):
 PE X (.ListComp elt [⟨tg,iter,ifs,0⟩] scope pos) (tComp own sel wi g tt te):=by
 intro pins s σ H Q I h
 rw[eval_ListComp]
 refine zHC (use:=none) S hc hi hg hk ht he hs I h fun D C H' s' m I' hn f q=>?_
 exact⟨m,hn,fun h' k=>⟨.ref D,H',I'.far f k,rfl,q⟩⟩
end
def Itr3(lo c:Int)(n:Nat):It:=⟨fun i _=>i<n,fun i H x H'=>H'=H/\x= .int (lo+i*c),fun i _=>n<=i⟩
theorem zFW{P:Program}{w:World}{K:PySem.W.Frag}{tg:Expr}(it:Addr)(lo c:Int)(n:Nat):Turn P w K tg (Itr3 lo c n) [it] it (fun i h=>IsRangeIter h it (lo+(i:Nat)*c) ((n:Int)-(i:Nat)) c) where
 mem:=by simp
 obj:=fun i h st b hb=>by
  obtain rfl:b=it:=by simpa using hb
  exact⟨_,st,fun v z=>by
   have z':Data.fields _=Data.cell v:=z
   cases z'⟩
 keep:=fun i h h' st k=>k it (by simp) _ st
 item:=by
  intro X hP hw hK hc i pins s σ H E I hf st hg
  subst hP hw hK
  obtain⟨f0,f1,f2,f3,f4,f5⟩:=hf it (by simp)
  have W:=Walks.range (prog:=X.prog) (w:=X.w) (I.ok.hd hc) it lo c n
  refine W.item i s _ _ hg st fun v h' tk hv st' kk=>?_
  obtain⟨t,rfl⟩:=hv
  have I1:Inv X pins σ H {s with heap:=h',toks:=tk}:=I.turned (fun b o hb e=>kk b o (by simpa using hb) e) f0 f1 f3 f4 f5
  exact⟨_,rfl,zIP (s:={s with heap:=h',toks:=tk}) (n:="range_iterator") st' rfl rfl (by decide) ⟨.int (lo+i*c),H,I1,⟨t,rfl⟩,⟨rfl,rfl⟩,st',fun b hb=>(hf b hb).1⟩⟩
 done:=by
  intro X hP hw hK hc i pins s σ H E I hf st hg
  subst hP hw hK
  obtain⟨f0,f1,f2,f3,f4,f5⟩:=hf it (by simp)
  exact wpAny_pyNext_range_end (I.ok.hd hc) st (by have:n<=i:=hg;omega) fun h' eb=>⟨rfl,I.turned (t':=s.toks) (fun b o hb e=>eb b o hb e) f0 f1 f3 f4 f5⟩
 self:=fun _ _ _ _ _ st h=>wpAny_pyIter_rangeiter st h
section
variable{X:Cx}{tg:Expr}
def rN(a b c:Int):Nat:=(Builtin.Range.rangeSize a b c).toNat
theorem zHj{pins:List (Addr×Obj)}{σ:St}{H:Hp}{s:Shared}{R:It->Hp->Prop}{E:Value->Shared->Prop}{lo hi c:Int}{t u v:Tok}{tk:Nat}(I:Inv X pins σ H s)(hs:Builtin.Range.small lo hi c=true)
 (q:R (Itr3 lo c (rN lo hi c)) H):wpAny (model X.prog X.w) X.A (pyIter (.ref s.heap.objs.size)) (PIE X pins σ tg R) E {s with heap:=s.heap.push {cls:= .type "range",data:= .fields #[.int lo t, .int hi u, .int c v]},toks:=tk}:=by
 refine wpAny_pyIter_range (IsRange.new ..) hs ?_
 have I1:Inv X pins σ H {s with heap:=s.heap.push {cls:= .type "range",data:= .fields #[.int lo t, .int hi u, .int c v]},toks:=tk}:=I.kept fun b o e=>Heap.get?_push_of_some _ e
 refine⟨(s.heap.push {cls:= .type "range",data:= .fields #[.int lo t, .int hi u, .int c v]}).objs.size,[(s.heap.push {cls:= .type "range",data:= .fields #[.int lo t, .int hi u, .int c v]}).objs.size],_,_,H,rfl,
  I1.kept (t':=tk) fun b o e=>Heap.get?_push_of_some _ e,zFW _ lo c (rN lo hi c),?_,fun b hb=>?_,q⟩
 ·have e1:lo+((0:Nat):Int)*c=lo:=by simp
  have e2:((rN lo hi c:Nat):Int)-((0:Nat):Int)=Builtin.Range.rangeSize lo hi c:=by unfold rN;rw[<-rangeSize_toNat];simp
  show IsRangeIter _ _ (lo+((0:Nat):Int)*c) (((rN lo hi c:Nat):Int)-((0:Nat):Int)) c
  rw[e1,e2]
  exact Heap.get?_push_size _ rfl
 ·obtain rfl:b=(s.heap.push {cls:= .type "range",data:= .fields #[.int lo t, .int hi u, .int c v]}).objs.size:=by simpa using hb
  exact I1.fpOk (Nat.le_refl _) (I1.hok.fresh (Nat.le_refl _))
def iRng3(ta:TA):TI:=fun σ H R=>ta σ H fun vs H1=>∃i j c:Int,vs=[.int i, .int j, .int c]/\(c≠0/\c.natAbs<1000/\Builtin.Range.small i j c=true)/\R (Itr3 i c (rN i j c)) H1
theorem zBP{a b c:Expr}{ta:TA}{p pos:Pos}(hg:Gl X "range")(hm:X.mg "range"=none)(ha:PA X [a,b,c] ta)(hs:starEach [a,b,c] X.env=[(false,eval a X.env),(false,eval b X.env),(false,eval c X.env)]:=by rfl)(hs2:starEach [b,c] X.env=[(false,eval b X.env),(false,eval c X.env)]:=by rfl):
 PI X tg (.Call (.Name "range" p) [a,b,c] [] pos) (iRng3 ta):=by
 intro pins s σ H R I h
 refine Call_ (zBv I hg hm boot_range (PyProof.Rows.callWith_type1 (thn (ha pos pins s σ H _ I h) fun us s1 ⟨vs,H1,I1,r1,q1⟩=>?_) (by rw[hs,hs2]) (by rw[hs2];rfl)))
 obtain⟨i,j,c,e,⟨q1,q2,q3⟩,q⟩:=q1
 subst e
 cases r1 with
 |cons r rr=>
  cases rr with
  |cons r' rr=>
   cases rr with
   |cons r'' rr=>
    cases rr
    obtain⟨t,rfl⟩:=r
    obtain⟨t',rfl⟩:=r'
    obtain⟨t'',rfl⟩:=r''
    exact call_range_3 q1 (zHj I1 q3 q) (Or.inl (PyProof.noPylong_small (by omega)))
end
theorem zBc{a b:Int}(ha:0<=a)(ha':a<=1000)(hb: -1000<=b)(hb':b<=1000):Builtin.Range.small a b 2=true:=by
 unfold Builtin.Range.small Builtin.Range.rangeSize
 simp only[Builtin.Range.rangeFitsLong,Bool.and_eq_true,Bool.or_eq_true,decide_eq_true_eq,beq_iff_eq,show(2:Int)>0 by decide,if_true]
 split<;>omega
theorem zGq{a b c:Int}(hc:c= -1\/c= -2)(ha: -1000<=a)(ha':a<=1000)(hb: -1000<=b)(hb':b<=1000):Builtin.Range.small a b c=true:=by
 unfold Builtin.Range.small Builtin.Range.rangeSize
 rcases hc with rfl|rfl
 ·simp only[Builtin.Range.rangeFitsLong,Bool.and_eq_true,Bool.or_eq_true,decide_eq_true_eq,beq_iff_eq,show¬ ((-1:Int)>0) by decide,if_false,Int.neg_neg]
  split<;>omega
 ·simp only[Builtin.Range.rangeFitsLong,Bool.and_eq_true,Bool.or_eq_true,decide_eq_true_eq,beq_iff_eq,show¬ ((-2:Int)>0) by decide,if_false,Int.neg_neg]
  split<;>omega
theorem zDl(a b:Int):rN a b 2=((b-a+1)/2).toNat:=by
 unfold rN Builtin.Range.rangeSize
 simp only[show(2:Int)>0 by decide,if_true]
 split<;>omega
theorem zLM(a b:Int):rN a b (-1)=(a-b).toNat:=by
 unfold rN Builtin.Range.rangeSize
 simp only[show¬ ((-1:Int)>0) by decide,if_false,Int.neg_neg]
 split<;>omega
section
variable{X:Cx}
def rSum(K:PySem.W.Frag):List V->Hp->VK->Prop:=fun xs H Q=>∃ (p:Addr) (ns:List Int),xs=[.ref p]/\SqL K H p (ns.map V.int)/\Q (.int ns.sum) H
theorem zIu(K:PySem.W.Frag)(hc:X.calm=true)(hK:X.K=K:=by rfl):CallR X (.builtin "sum") (rSum K):=by
 subst hK
 intro pins s σ H xs us Q I r h
 obtain⟨p,ns,rfl,hq,q⟩:=h
 obtain⟨u,rfl,ru⟩:=vals1 r
 cases ru
 obtain⟨its,rr,ht,hz⟩:=I.list hq
 have hi:=zG6 rr
 obtain⟨xs,e⟩:=hi.allInts.items
 have hns:ns=xs.toList.map (·.1):=by rw[<-hi.numsOf,<-nums_intItems,<-e]
 have hl:=ht.isList
 rw[e]at hl
 refine sum_intListG (I.ok.hd hc) hl fun h' tk t' hk=>?_
 have e2:preSum (numAt xs) xs.size=ns.sum:=by
  rw[preSum_eq,List.take_of_length_le (by simp),hns]
 rw[e2]
 exact⟨.int ns.sum,H,I.kept fun b o z=>hk b o z,⟨t',rfl⟩,q⟩
def rList(K:PySem.W.Frag):List V->Hp->VK->Prop:=fun xs H Q=>∃p ys,xs=[.ref p]/\(SqL K H p ys\/SqT K H p ys)/\∀l,H l=none->Q (.ref l) (upd H l (.lst ys))
theorem zHH(K:PySem.W.Frag)(hK:X.K=K:=by rfl):CallR X (.type "list") (rList K):=by subst hK;exact zFL
def rGetL(K:PySem.W.Frag):V->V->Hp->VK->Prop:=fun x y H Q=>∃p xs,∃ (j:Nat),∃v,x= .ref p/\y= .int j/\SqL K H p xs/\xs[j]? =some v/\Q v H
theorem zBx(K:PySem.W.Frag)(hK:X.K=K:=by rfl):PGet X (rGetL K):=by
 subst hK
 intro pins s σ H o i ov iv Q I r1 r2 h
 obtain⟨p,xs,j,z,rfl,rfl,hq,he,q⟩:=h
 cases r1
 obtain⟨t,rfl⟩:=r2
 obtain⟨its,r,pl,hz⟩:=I.list hq
 obtain⟨w,ew,rw'⟩:=r.get he
 have hl:=r.length
 have hn:=line63
 have hj:=(List.getElem?_eq_some_iff.mp he).1
 exact wpAny_getItem_list pl.isList (by omega) (by omega) (by simpa using ew) ⟨z,H,I,rw',q⟩
end
section
variable{σ:St}{H:Hp}{Q:VK}{D:Ends}{K:PySem.W.Frag}
theorem zK5{ta:TA}{R:It->Hp->Prop}(h:ta σ H fun vs H1=>∃i j c:Int,vs=[.int i, .int j, .int c]/\(c≠0/\c.natAbs<1000/\Builtin.Range.small i j c=true)/\R (Itr3 i c (rN i j c)) H1):iRng3 ta σ H R:=h
theorem zNv{p:Addr}{ns:List Int}(hq:SqL K H p (ns.map V.int))(h:Q (.int ns.sum) H):rSum K [.ref p] H Q:=⟨p,ns,rfl,hq,h⟩
theorem zK3{p:Addr}{ys:List V}(hq:SqL K H p ys)(h:∀l,H l=none->Q (.ref l) (upd H l (.lst ys))):rList K [.ref p] H Q:=⟨p,ys,rfl, .inl hq,h⟩
theorem zMc{to ti te:TE}{tget:V->V->Hp->VK->Prop}{tip:TIp}{tset:TSet}(h:to σ H fun o H1=>ti σ H1 fun i H2=>tget o i H2 fun x H3=>te σ H3 fun y H4=>tip x y H4 fun z H5=>tset o i z H5 fun H6=>D.nx σ H6):tAugS to ti te tget tip tset D σ H:=h
theorem zEv{p:Addr}{xs:List V}{j:Nat}{v:V}(hq:SqL K H p xs)(he:xs[j]? =some v)(h:Q v H):rGetL K (.ref p) (.int j) H Q:=⟨p,xs,j,v,rfl,rfl,hq,he,h⟩
theorem zB5{g:TG}{tb:TS}{lo c:Int}{n:Nat}(Pv:Nat->St->Hp->Prop)(h0:Pv 0 σ H)
 (hs:∀i σ H,i<n->Pv i σ H->g (.int (lo+i*c)) σ H fun σ2 H2=>tb {D with nx:=Pv (i+1),ct:=Pv (i+1),bk:=D.nx} σ2 H2) (hd:∀σ H,Pv n σ H->D.nx σ H):ForW (Itr3 lo c n) g tb D σ H:=
 zIS (n:=n) Pv h0 (fun i σ H hi _=>hi) (fun σ H _=>Nat.le_refl _) (fun i x σ H H' hi p y=>by obtain⟨rfl,rfl⟩:=y;exact hs i σ _ hi p) hd
end
def relabelS(scope osc:Scope):Scope:={scope with names:=scope.names.map fun(n,k)=>if(k== .free&&osc.kind== .function&&osc.names.lookup n==some .cell)then(n, .cell)else(n,k)}
theorem compOkIn{X:Cx}{osc sc:Scope}{N:List Str}{own own':List Str}{sel sel':List Nat}{scope:Scope}{cl:List (Str×Addr)}{C:Addr}{s2:Shared}{H2:Hp}{fp:List Addr}
 (e:X.env.scope=osc) (eN:(cxInC X own' sel' sc cl C s2 H2 fp).N=N) (h:compOkB (relabelS sc osc) N own sel scope=true):CompOk (cxInC X own' sel' sc cl C s2 H2 fp).env.scope (cxInC X own' sel' sc cl C s2 H2 fp).N own sel scope:=by
 subst e;subst eN
 exact zAY h
def compOkCB(osc:Scope)(N:List Str)(own:List Str)(sel:List Nat)(scope:Scope):Bool:=
 (scope.kind== .function)&&scope.names.all (fun y=>y.2 != .cell||scope.names.lookup y.1==some .cell)&&scope.names.all (fun y=>y.2 != .local||scope.names.lookup y.1==some .local)&&
 scope.names.all (fun y=>y.2 != .free||osc.names.lookup y.1==some .cell||osc.names.lookup y.1==some .free)&&
 sel.all (fun j=>decide (j<N.length)&&scope.names.lookup (N.getD j Str.empty)==some .free&&(osc.names.lookup (N.getD j Str.empty)==some .cell||osc.names.lookup (N.getD j Str.empty)==some .free))
theorem zHD{osc:Scope}{N:List Str}{own:List Str}{sel:List Nat}{scope:Scope}(h:compOkCB osc N own sel scope=true):CompOkC osc N own sel scope:=by
 unfold compOkCB at h
 simp only[Bool.and_eq_true,List.all_eq_true]at h
 obtain⟨⟨⟨⟨h1,h2⟩,h3⟩,h4⟩,h5⟩:=h
 refine⟨by simpa using h1,fun y hy e=>?_,fun y hy e=>?_,fun y hy e=>?_,fun j hj=>?_⟩
 ·have:=h2 y hy
  simp only[Bool.or_eq_true,bne_iff_ne,beq_iff_eq]at this
  rcases this with q|q
  ·exact absurd e q
  ·exact q
 ·have:=h3 y hy
  simp only[Bool.or_eq_true,bne_iff_ne,beq_iff_eq]at this
  rcases this with q|q
  ·exact absurd e q
  ·exact q
 ·have:=h4 y hy
  simp only[Bool.or_eq_true,bne_iff_ne,beq_iff_eq]at this
  rcases this with(q|q)|q
  ·exact absurd e q
  ·exact .inl q
  ·exact .inr q
 ·have:=h5 j hj
  simp only[Bool.or_eq_true,beq_iff_eq,decide_eq_true_eq]at this
  exact⟨this.1.1,this.1.2,this.2⟩
def big:Nat:=2^10000
theorem zGj{i:Int}(h:i.natAbs<big):Builtin.Int.intBits i<=2^20:=by
 refine Nat.le_trans (?_ :Builtin.Int.intBits i<=10000) (by decide)
 exact PySem.intBits_le_iff.mpr h
section
variable{X:Cx}
def rTimesW:R2:=fun x y H Q=>(∃i j,x= .int i/\y= .int j/\(i.natAbs<big/\j.natAbs<big)/\Q (.int (i*j)) H)\/rRep x y H Q\/rMulT x y H Q
theorem op_mulW:OpR X (binaryOp .Mult) (rI (fun i j=>i.natAbs<big/\j.natAbs<big) fun i j=> .int (i*j)):=opI fun _ _ _ _ _ _ _ hc q=>mul_int q (PySem.IntMulOk.of_bits (zGj hc.1) (zGj hc.2))
theorem zAq:OpR X (binaryOp .Mult) rTimesW:=op_mulW.or (op_rep.or zH1)
end
section
variable{σ:St}{H:Hp}{Q:VK}{K:PySem.W.Frag}
theorem zBu{i j:Int}(h1:i.natAbs<big)(h2:j.natAbs<big)(h:Q (.int (i*j)) H):rTimesW (.int i) (.int j) H Q:= .inl ⟨i,j,rfl,rfl,⟨h1,h2⟩,h⟩
theorem zCv{J:It}{n:Nat}{own:List Str}{sel:List Nat}{g:TG}{te:TE}(f:Nat->V)(hn:n<=sizeLine)(Iv:Addr->Nat->List V->Hp->Prop)
 (hgo:∀i H',i<n->Same H H'->J.go i H') (hsp:∀H',Same H H'->J.stop n H') (hy:∀i H1 x H',i<n->Same H H1->J.yld i H1 x H'->H'=H1/\x=f i)
 (h0:∀D,H D=none->Iv D 0 [] (upd H D (.lst []))) (mono:∀D i ys H1 H2,H D=none->Iv D i ys H1->SameBut1 D H1 H2->Iv D i ys H2)
 (hst:∀D ys H',H D=none->H' D=some (.lst ys)->ys.length=n->Same H H'->Iv D n ys H'->Q (.ref D) H')
 (hs:∀ (D:Addr) (i:Nat) (ys:List V) (H':Hp) (R:V->Hp->Prop),H D=none->i<n->H' D=some (.lst ys)->ys.length=i->Same H H'->Iv D i ys H'->(∀v H6,Same H' H6->Iv D (i+1) (ys++[v]) H6->R v H6)->
   g (f i) (inSt own sel σ) H' fun σ4 H4=>te σ4 H4 R):CompW J own sel σ g tYes te Q H:=by
 refine zCI (n:=n) (fun D i ys H'=>ys.length=i/\Same H H'/\Iv D i ys H') (fun D hD=>⟨rfl,zAF hD _,h0 D hD⟩) (fun D i ys H' hD hi _ ⟨_,sH,_⟩=>hgo i H' hi sH)
  (fun D ys H' hD hy' hl ⟨e,sH,iv⟩=>⟨hsp H' sH,hst D ys H' hD hy' e sH iv⟩) ?_
 rintro D i ys H1 x H3 hD hi hyD hl ⟨el,sH,iv⟩ yl
 obtain⟨rfl,rfl⟩:=hy i H1 x H3 hi sH yl
 have key:=hs D i ys H3 (fun v H6=>∃ys,H6 D=some (.lst ys)/\ys.length<sizeLine/\∃m',m'<n-i/\CW D n (fun i ys H'=>ys.length=i/\Same H H'/\Iv D i ys H') (i+1) m' (upd H6 D (.lst (ys++[v])))) hD hi hyD el sH iv (fun v H6 s6 iv6=>?_)
 ·have ef:(fun(σ4:St) (H4:Hp)=>tYes σ4 H4 fun b H5=>if b=true then te σ4 H5 fun v H6=>∃ys,H6 D=some (.lst ys)/\ys.length<sizeLine/\∃m',m'<n-i/\CW D n (fun i ys H'=>ys.length=i/\Same H H'/\Iv D i ys H') (i+1) m' (upd H6 D (.lst (ys++[v])))
   else∃m',m'<n-i/\CW D n (fun i ys H'=>ys.length=i/\Same H H'/\Iv D i ys H') (i+1) m' H5)=fun σ4 H4=>te σ4 H4 fun v H6=>∃ys,H6 D=some (.lst ys)/\ys.length<sizeLine/\∃m',m'<n-i/\CW D n (fun i ys H'=>ys.length=i/\Same H H'/\Iv D i ys H') (i+1) m' (upd H6 D (.lst (ys++[v]))):=by
   funext σ4 H4
   exact propext ⟨fun z=>by have z':=z;simp only[tYes]at z';simpa using z',fun z=>by show tYes _ _ _;simp only[tYes];simpa using z⟩
  rw[ef]
  exact key
 ·refine zCT hi hn (s6 _ _ hyD) hl ⟨by simp[el],fun b o z=>?_,mono D _ _ _ _ hD iv6 SameBut1.upd⟩
  rw[zAG (zAE z hD)]
  exact s6 b o (sH b o z)
theorem zKj{lo:Int}{n:Nat}{own:List Str}{sel:List Nat}{g:TG}{te:TE}(hn:n<=sizeLine)(Iv:Addr->Nat->List V->Hp->Prop)
 (h0:∀D,H D=none->Iv D 0 [] (upd H D (.lst []))) (mono:∀D i ys H1 H2,H D=none->Iv D i ys H1->SameBut1 D H1 H2->Iv D i ys H2)
 (hst:∀D ys H',H D=none->H' D=some (.lst ys)->ys.length=n->Same H H'->Iv D n ys H'->Q (.ref D) H')
 (hs:∀ (D:Addr) (i:Nat) (ys:List V) (H':Hp) (R:V->Hp->Prop),H D=none->i<n->H' D=some (.lst ys)->ys.length=i->Same H H'->Iv D i ys H'->(∀v H6,Same H' H6->Iv D (i+1) (ys++[v]) H6->R v H6)->
   g (.int (lo+i)) (inSt own sel σ) H' fun σ4 H4=>te σ4 H4 R):CompW (Itr lo n) own sel σ g tYes te Q H:=
 zCv (fun i=> .int (lo+i)) hn Iv (fun i H' hi _=>hi) (fun H' _=>Nat.le_refl _) (fun i H1 x H' _ _ y=>y) h0 mono hst hs
theorem zI9{lo c:Int}{n:Nat}{own:List Str}{sel:List Nat}{g:TG}{te:TE}(hn:n<=sizeLine)(Iv:Addr->Nat->List V->Hp->Prop)
 (h0:∀D,H D=none->Iv D 0 [] (upd H D (.lst []))) (mono:∀D i ys H1 H2,H D=none->Iv D i ys H1->SameBut1 D H1 H2->Iv D i ys H2)
 (hst:∀D ys H',H D=none->H' D=some (.lst ys)->ys.length=n->Same H H'->Iv D n ys H'->Q (.ref D) H')
 (hs:∀ (D:Addr) (i:Nat) (ys:List V) (H':Hp) (R:V->Hp->Prop),H D=none->i<n->H' D=some (.lst ys)->ys.length=i->Same H H'->Iv D i ys H'->(∀v H6,Same H' H6->Iv D (i+1) (ys++[v]) H6->R v H6)->
   g (.int (lo+i*c)) (inSt own sel σ) H' fun σ4 H4=>te σ4 H4 R):CompW (Itr3 lo c n) own sel σ g tYes te Q H:=
 zCv (fun i=> .int (lo+i*c)) hn Iv (fun i H' hi _=>hi) (fun H' _=>Nat.le_refl _) (fun i H1 x H' _ _ y=>y) h0 mono hst hs
theorem zHK{a:List Nat}{own:List Str}{sel:List Nat}{g:TG}{te:TE}(hn:a.length<=sizeLine)(Iv:Addr->Nat->List V->Hp->Prop)
 (h0:∀D,H D=none->Iv D 0 [] (upd H D (.lst []))) (mono:∀D i ys H1 H2,H D=none->Iv D i ys H1->SameBut1 D H1 H2->Iv D i ys H2)
 (hst:∀D ys H',H D=none->H' D=some (.lst ys)->ys.length=a.length->Same H H'->Iv D a.length ys H'->Q (.ref D) H')
 (hs:∀ (D:Addr) (i:Nat) (ys:List V) (H':Hp) (R:V->Hp->Prop),H D=none->i<a.length->H' D=some (.lst ys)->ys.length=i->Same H H'->Iv D i ys H'->(∀v H6,Same H' H6->Iv D (i+1) (ys++[v]) H6->R v H6)->
   g (tx [a.getD i 0]) (inSt own sel σ) H' fun σ4 H4=>te σ4 H4 R):CompW (Its ⟨a.toArray⟩) own sel σ g tYes te Q H:=
 zCv (fun i=>tx [a.getD i 0]) hn Iv (fun i H' hi _=>by simpa[Its]using hi) (fun H' _=>by simp[Its]) (fun i H1 x H' hi _ y=>by
  obtain⟨rfl,c,e,rfl⟩:=y
  have e':a[i]? =some c:=by simpa using e
  exact⟨rfl,by rw[List.getD_eq_getElem?_getD,e'];rfl⟩) h0 mono hst hs
theorem zHP{lo c:Int}{n:Nat}{own:List Str}{sel:List Nat}{g:TG}{te:TE}(v:Nat->V)(hn:n<=sizeLine)(hst:∀D H',H D=none->Same H H'->H' D=some (.lst ((List.range n).map v))->Q (.ref D) H')
 (hs:∀ (i:Nat) (H':Hp) (R:V->Hp->Prop),i<n->Same H H'->(∀H6,Same H' H6->R (v i) H6)->g (.int (lo+i*c)) (inSt own sel σ) H' fun σ4 H4=>te σ4 H4 R):CompW (Itr3 lo c n) own sel σ g tYes te Q H:=
 zI9 hn (fun D i ys _=>ys=(List.range i).map v) (fun _ _=>rfl) (fun _ _ _ _ _ _ e _=>e) (fun D ys H' hD hy _ sH e=>hst D H' hD sH (by rw[hy,e]))
  (fun D i ys H' R hD hi hy _ sH e r=>hs i H' R hi sH fun H6 s6=>r _ H6 s6 (by rw[e,List.range_succ,List.map_append];rfl))
theorem zJB{a:List Nat}{own:List Str}{sel:List Nat}{g:TG}{te:TE}(v:Nat->V)(hn:a.length<=sizeLine)(hst:∀D H',H D=none->Same H H'->H' D=some (.lst (a.map v))->Q (.ref D) H')
 (hs:∀ (i c:Nat) (H':Hp) (R:V->Hp->Prop),a[i]? =some c->Same H H'->(∀H6,Same H' H6->R (v c) H6)->g (tx [c]) (inSt own sel σ) H' fun σ4 H4=>te σ4 H4 R):CompW (Its ⟨a.toArray⟩) own sel σ g tYes te Q H:=
 zHK hn (fun D i ys _=>ys=(a.take i).map v) (fun _ _=>rfl) (fun _ _ _ _ _ _ e _=>e) (fun D ys H' hD hy _ sH e=>hst D H' hD sH (by rw[hy,e,List.take_length]))
  (fun D i ys H' R hD hi hy _ sH e r=>by
    have ec:a[i]? =some a[i]:=List.getElem?_eq_getElem hi
    have eg:a.getD i 0=a[i]:=by rw[List.getD_eq_getElem?_getD,ec];rfl
    rw[eg]
    exact hs i a[i] H' R ec sH fun H6 s6=>r _ H6 s6 (by rw[e,List.take_add_one,ec,List.map_append];rfl))
end
end L2
namespace BrC
def sm:Nat->(Nat->Int)->Int
 |0,_=>0
 |n+1,f=>sm n f+f n
theorem zAJ{f g:Nat->Int}:∀n,(∀i,i<n->f i=g i)->sm n f=sm n g
 |0,_=>rfl
 |n+1,h=>by unfold sm;rw[zAJ n fun i hi=>h i (Nat.lt_succ_of_lt hi),h n (Nat.lt_succ_self n)]
theorem zB8(f g:Nat->Int):∀n,sm n (fun i=>f i+g i)=sm n f+sm n g
 |0=>rfl
 |n+1=>by unfold sm;rw[zB8 f g n];show sm n f+sm n g+(f n+g n)=_;omega
theorem zBM(c:Int)(f:Nat->Int):∀n,sm n (fun i=>c*f i)=c*sm n f
 |0=>by simp[sm]
 |n+1=>by unfold sm;rw[zBM c f n,Int.mul_add]
theorem zBi(c:Int)(f:Nat->Int)(n:Nat):sm n (fun i=>f i*c)=sm n f*c:=by
 rw[Int.mul_comm,<-zBM];exact zAJ n fun i _=>Int.mul_comm _ _
theorem sm_zero{f:Nat->Int}:∀n,(∀i,i<n->f i=0)->sm n f=0
 |0,_=>rfl
 |n+1,h=>by unfold sm;rw[sm_zero n fun i hi=>h i (Nat.lt_succ_of_lt hi),h n (Nat.lt_succ_self n)];rfl
theorem zD5(f:Nat->Int):∀n,sm (n+1) f=f 0+sm n (fun i=>f (i+1))
 |0=>by simp[sm]
 |n+1=>by rw[sm,zD5 f n,sm];omega
theorem zBj(f:Nat->Nat->Int)(m:Nat):∀n,sm n (fun i=>sm m fun j=>f i j)=sm m (fun j=>sm n fun i=>f i j)
 |0=>by rw[sm];exact(sm_zero m fun _ _=>rfl).symm
 |n+1=>by rw[sm,zBj f m n,<-zB8];rfl
theorem zHa(f:Nat->Nat->Int):∀L,sm L (fun a=>sm (L-a-1) fun b=>f a (a+1+b))=sm L (fun e=>sm e fun a=>f a e)
 |0=>rfl
 |L+1=>by
  rw[sm,sm]
  have e:sm L (fun a=>sm (L+1-a-1) fun b=>f a (a+1+b))=sm L (fun a=>(sm (L-a-1) fun b=>f a (a+1+b))+f a L):=by
   refine zAJ L fun a ha=>?_
   have:L+1-a-1=(L-a-1)+1:=by omega
   rw[this,sm]
   congr 2
   omega
  rw[e,zB8,zHa f L,show L+1-L-1=0 by omega,sm]
  omega
theorem zAT{f:Nat->Int}:∀n,(∀i,i<n->0<=f i)->0<=sm n f
 |0,_=>Int.le_refl _
 |n+1,h=>by unfold sm;have:=zAT n fun i hi=>h i (Nat.lt_succ_of_lt hi);have:=h n (Nat.lt_succ_self n);omega
theorem zCW{f g:Nat->Int}:∀n,(∀i,i<n->f i<=g i)->sm n f<=sm n g
 |0,_=>Int.le_refl _
 |n+1,h=>by unfold sm;have:=zCW n fun i hi=>h i (Nat.lt_succ_of_lt hi);have:=h n (Nat.lt_succ_self n);omega
theorem zB3(c:Int):∀n,sm n (fun _=>c)=n*c
 |0=>by simp[sm]
 |n+1=>by rw[sm,zB3 c n];rw[Int.natCast_add,Int.add_mul];simp
theorem zBq{f:Nat->Int}{n i:Nat}(hi:i<n)(h:∀j,j<n->j≠i->f j=0):sm n f=f i:=by
 induction n with
 |zero=>omega
 |succ n ih=>
  unfold sm
  by_cases e:i=n
  ·subst e;rw[sm_zero i fun j hj=>h j (by omega) (by omega)];omega
  ·rw[ih (by omega) fun j hj=>h j (by omega),h n (by omega) (by omega)];omega
theorem zJF{f:Nat->Int}{n i:Nat}(hi:i<n)(h:∀j,j<n->0<=f j):f i<=sm n f:=by
 induction n with
 |zero=>omega
 |succ n ih=>
  unfold sm
  by_cases e:i=n
  ·subst e;have:=zAT (f:=f) i fun j hj=>h j (by omega);omega
  ·have:=ih (by omega) fun j hj=>h j (by omega);have:=h n (by omega);omega
theorem zFX(f:Nat->Int):∀n,(∀i,i<n->i%2=1->f i=0)->sm n f=sm ((n+1)/2) fun q=>f (2*q)
 |0,_=>rfl
 |n+1,h=>by
  rw[sm,zFX f n fun i hi=>h i (Nat.lt_succ_of_lt hi)]
  by_cases e:n%2=1
  ·rw[h n (Nat.lt_succ_self n) e,show(n+1+1)/2=(n+1)/2 by omega];omega
  ·rw[show(n+1+1)/2=(n+1)/2+1 by omega,sm,show 2*((n+1)/2)=n by omega]
theorem zEn(f:Nat->Int):∀n,((List.range n).map f).sum=sm n f
 |0=>rfl
 |n+1=>by rw[List.range_succ,List.map_append,List.sum_append,zEn f n];simp[sm]
def cv(P:Nat->Nat->Int)(k:Nat):Nat->Nat->List Nat->Int
 |0,_,[]=>1
 |0,_,_::_=>0
 |n+1,i,st=>sm k (fun p=>P i (2*p)*cv P k n (i+1) (p::st))+(match st with|[]=>0|o::r=>P i (2*o+1)*cv P k n (i+1) r)
variable{P:Nat->Nat->Int}{k:Nat}
theorem zB9(n i:Nat):cv P k (n+1) i []=sm k (fun p=>P i (2*p)*cv P k n (i+1) [p]):=by
 rw[cv];simp
theorem zBb(n i o:Nat)(st:List Nat):cv P k (n+1) i (o::st)=sm k (fun p=>P i (2*p)*cv P k n (i+1) (p::o::st))+P i (2*o+1)*cv P k n (i+1) st:=by
 rw[cv]
theorem zJx:∀ (N n i o:Nat) (st:List Nat),n<=N->cv P k n i (o::st)=sm n (fun e=>cv P k e i []*P (i+e) (2*o+1)*cv P k (n-e-1) (i+e+1) st):=by
 intro N
 induction N with
 |zero=>intro n i o st h;obtain rfl:n=0:=by omega
        rfl
 |succ N ih=>
  intro n i o st h
  cases n with
  |zero=>rfl
  |succ n=>
   rw[zBb,zD5,show cv P k 0 i []=1 from rfl]
   have e0:(1:Int)*P (i+0) (2*o+1)*cv P k (n+1-0-1) (i+0+1) st=P i (2*o+1)*cv P k n (i+1) st:=by rw[Int.one_mul];rfl
   rw[e0,Int.add_comm]
   congr 1
   have L:∀p,cv P k n (i+1) (p::o::st)=sm n (fun e=>sm e fun a=>(cv P k a (i+1) []*P (i+1+a) (2*p+1))*(cv P k (e-a-1) (i+a+2) []*P (i+e+1) (2*o+1)*cv P k (n-e-1) (i+e+2) st)):=by
    intro p
    rw[ih n (i+1) p (o::st) (by omega),<-zHa]
    refine zAJ n fun a ha=>?_
    rw[ih (n-a-1) (i+1+a+1) o st (by omega),<-zBM]
    refine zAJ _ fun b hb=>?_
    rw[show a+1+b-a-1=b by omega,show i+1+a+1=i+a+2 by omega,show i+a+2+b=i+(a+1+b)+1 by omega,show n-a-1-b-1=n-(a+1+b)-1 by omega,show i+(a+1+b)+1+1=i+(a+1+b)+2 by omega]
   have e1:sm k (fun p=>P i (2*p)*cv P k n (i+1) (p::o::st))=sm k (fun p=>sm n fun e=>P i (2*p)*sm e fun a=>(cv P k a (i+1) []*P (i+1+a) (2*p+1))*(cv P k (e-a-1) (i+a+2) []*P (i+e+1) (2*o+1)*cv P k (n-e-1) (i+e+2) st)):=by
    refine zAJ k fun p _=>?_
    rw[L p,<-zBM]
   rw[e1,zBj]
   refine zAJ n fun e he=>?_
   rw[zB9,show i+(e+1)=i+e+1 by omega,show n+1-(e+1)-1=n-e-1 by omega,show i+e+1+1=i+e+2 by omega,Int.mul_assoc,<-zBi]
   refine zAJ k fun p _=>?_
   rw[ih e (i+1) p [] (by omega),Int.mul_assoc]
   congr 1
   rw[<-zBi]
   refine zAJ e fun a ha=>?_
   rw[show i+1+a+1=i+a+2 by omega]
   simp only[Int.mul_assoc,Int.mul_comm,Int.mul_left_comm]
theorem zDs:∀ (n i:Nat) (st:List Nat),(n+st.length)%2=1->cv P k n i st=0
 |0,_,[],h=>by simp at h
 |0,_,_::_,_=>rfl
 |n+1,i,[],h=>by
  rw[zB9]
  refine sm_zero k fun p _=>?_
  rw[zDs n (i+1) [p] (by simp at h⊢;omega),Int.mul_zero]
 |n+1,i,o::st,h=>by
  rw[zBb,sm_zero k fun p _=>by rw[zDs n (i+1) (p::o::st) (by simp at h⊢;omega),Int.mul_zero],zDs n (i+1) st (by simp at h⊢;omega),Int.mul_zero]
  rfl
def pr(P:Nat->Nat->Int)(k i j:Nat):Int:=sm k fun p=>P i (2*p)*P j (2*p+1)
theorem zFG(m i:Nat):cv P k (m+1) i []=sm m (fun e=>pr P k i (i+1+e)*cv P k e (i+1) []*cv P k (m-e-1) (i+e+2) []):=by
 rw[zB9]
 have e1:sm k (fun p=>P i (2*p)*cv P k m (i+1) [p])=sm k (fun p=>sm m fun e=>P i (2*p)*P (i+1+e) (2*p+1)*(cv P k e (i+1) []*cv P k (m-e-1) (i+e+2) [])):=by
  refine zAJ k fun p _=>?_
  rw[zJx m m (i+1) p [] (Nat.le_refl _),<-zBM]
  refine zAJ m fun e _=>?_
  rw[show i+1+e+1=i+e+2 by omega]
  simp only[Int.mul_assoc,Int.mul_comm,Int.mul_left_comm]
 rw[e1,zBj]
 refine zAJ m fun e _=>?_
 rw[zBi,Int.mul_assoc]
 rfl
theorem zL2(m i:Nat):cv P k (m+1) i []=sm ((m+1)/2) (fun q=>pr P k i (i+1+2*q)*cv P k (2*q) (i+1) []*cv P k (m-2*q-1) (i+2*q+2) []):=by
 rw[zFG,zFX]
 intro e _ h
 rw[zDs e (i+1) [] (by simpa using h),Int.mul_zero,Int.zero_mul]
theorem zEZ{c:Int}(hc:0<=c)(h0:∀i b,0<=P i b)(h1:∀i b,P i b<=c):∀ (n i:Nat) (st:List Nat),0<=cv P k n i st/\cv P k n i st<=(((k:Int)+1)*c)^n
 |0,i,[]=>⟨by simp[cv],by simp[cv]⟩
 |0,i,_::_=>⟨by simp[cv],by simp[cv]⟩
 |n+1,i,st=>by
  have ih:=zEZ hc h0 h1 n (i+1)
  have hB:0<=(((k:Int)+1)*c)^n:=Int.le_trans (ih []).1 (ih []).2
  have tm:∀b s',0<=P i b*cv P k n (i+1) s'/\P i b*cv P k n (i+1) s'<=c*(((k:Int)+1)*c)^n:=fun b s'=>
   ⟨Int.mul_nonneg (h0 i b) (ih s').1,Int.mul_le_mul (h1 i b) (ih s').2 (ih s').1 hc⟩
  have s1:0<=sm k (fun p=>P i (2*p)*cv P k n (i+1) (p::st)):=zAT k fun p _=>(tm _ _).1
  have s2:sm k (fun p=>P i (2*p)*cv P k n (i+1) (p::st))<=k*(c*(((k:Int)+1)*c)^n):=by
   rw[<-zB3];exact zCW k fun p _=>(tm _ _).2
  have e:(((k:Int)+1)*c)^(n+1)=k*(c*(((k:Int)+1)*c)^n)+c*(((k:Int)+1)*c)^n:=by
   rw[Int.pow_succ,Int.mul_comm,Int.mul_assoc,Int.add_mul,Int.one_mul]
  have s3:0<=c*(((k:Int)+1)*c)^n:=Int.mul_nonneg hc hB
  cases st with
  |nil=>rw[zB9,e];exact⟨s1,by omega⟩
  |cons o r=>
   have:=tm (2*o+1) r
   rw[zBb,e];constructor<;>omega
theorem zGf{P':Nat->Nat->Int}:∀ (n i:Nat) (st:List Nat),(∀j b,i<=j->j<i+n->P j b=P' j b)->cv P k n i st=cv P' k n i st
 |0,_,[],_=>rfl
 |0,_,_::_,_=>rfl
 |n+1,i,st,h=>by
  have ih:=fun s'=>zGf (P':=P') n (i+1) s' fun j b h1 h2=>h j b (by omega) (by omega)
  have e:=zAJ (f:=fun p=>P i (2*p)*cv P k n (i+1) (p::st)) (g:=fun p=>P' i (2*p)*cv P' k n (i+1) (p::st)) k fun p _=>by rw[ih,h i _ (by omega) (by omega)]
  cases st with
  |nil=>rw[zB9,zB9];exact e
  |cons o r=>rw[zBb,zBb,e,ih,h i _ (by omega) (by omega)]
end BrC
namespace BrC
theorem zHb{f:Nat->Int}(n:Nat):∀d,(∀e,n<=e->f e=0)->sm (n+d) f=sm n f
 |0,_=>rfl
 |d+1,h=>by rw[show n+(d+1)=(n+d)+1 by omega,sm,zHb n d h,h (n+d) (by omega)];omega
variable{P:Nat->Nat->Int}{k:Nat}
end BrC
namespace BrS
open L2 PySem BrM BrC
abbrev iL(l:List Int):HO:= .lst (l.map V.int)
def Pls(H:Hp)(r:Addr)(ps:List (List Int)):Prop:=∃ad:Nat->Addr,H r=some (.lst ((List.range ps.length).map fun i=>V.ref (ad i)))/\∀i,i<ps.length->H (ad i)=some (iL (ps.getD i []))
theorem Pls.same{H H':Hp}{r:Addr}{ps:List (List Int)}(h:Pls H r ps)(s:Same H H'):Pls H' r ps:=by
 obtain⟨ad,h1,h2⟩:=h
 exact⟨ad,s _ _ h1,fun i hi=>s _ _ (h2 i hi)⟩
def rwl(n:Nat)(f:Nat->Int):List V:=(List.range (n+1)).map fun j=>V.int (f j)
theorem zCA(n:Nat)(f:Nat->Int):(rwl n f).length=n+1:=by simp[rwl]
theorem zBW{n j:Nat}{f:Nat->Int}(h:j<=n):(rwl n f)[j]? =some (.int (f j)):=by
 unfold rwl
 rw[List.getElem?_map,List.getElem?_range (by omega)];rfl
theorem zLG{n j:Nat}{f:Nat->Int}{v:Int}:(rwl n f).set j (.int v)=rwl n (fun x=>if x=j then v else f x):=by
 apply List.ext_getElem?
 intro i
 unfold rwl
 rw[List.getElem?_set,List.getElem?_map,List.getElem?_map]
 by_cases e:j=i
 ·subst e
  by_cases hj:j<n+1
  ·rw[List.getElem?_range hj];simp[hj]
  ·rw[if_pos rfl,if_neg (by simpa using hj)]
   rw[List.getElem?_eq_none (by simpa using hj)];rfl
 ·rw[if_neg e]
  by_cases hi:i<n+1
  ·rw[List.getElem?_range hi];simp[Ne.symm e]
  ·rw[List.getElem?_eq_none (by simpa using hi)];rfl
theorem zC4{n:Nat}{f g:Nat->Int}(h:∀j,j<=n->f j=g j):rwl n f=rwl n g:=by
 unfold rwl
 refine List.map_congr_left fun j hj=>?_
 rw[h j (by have:=List.mem_range.mp hj;omega)]
structure Tb (H0 H:Hp) (s:Addr) (ad:Nat->Addr) (n:Nat) (T:Nat->Nat->Int):Prop where
 fs:H0 s=none
 fa:∀i,i<=n->H0 (ad i)=none
 ns:∀i,i<=n->ad i≠s
 inj:∀i j,i<=n->j<=n->ad i=ad j->i=j
 top:H s=some (.lst ((List.range (n+1)).map fun i=>V.ref (ad i)))
 row:∀i,i<=n->H (ad i)=some (.lst (rwl n (T i)))
 sm:Same H0 H
section
variable{H0 H H':Hp}{s:Addr}{ad:Nat->Addr}{n:Nat}{T T':Nat->Nat->Int}
theorem Tb.same(t:Tb H0 H s ad n T)(h:Same H H'):Tb H0 H' s ad n T:=⟨t.fs,t.fa,t.ns,t.inj,h _ _ t.top,fun i hi=>h _ _ (t.row i hi),t.sm.trans h⟩
theorem Tb.congr(t:Tb H0 H s ad n T)(h:∀i j,i<=n->j<=n->T i j=T' i j):Tb H0 H s ad n T':=⟨t.fs,t.fa,t.ns,t.inj,t.top,fun i hi=>by rw[t.row i hi,zC4 fun j hj=>h i j hi hj],t.sm⟩
theorem Tb.at(t:Tb H0 H s ad n T){i:Nat}(hi:i<=n):((List.range (n+1)).map fun i=>V.ref (ad i))[i]? =some (.ref (ad i)):=by
 rw[List.getElem?_map,List.getElem?_range (by omega)];rfl
theorem Tb.set(t:Tb H0 H s ad n T){i j:Nat}{v:Int}(hi:i<=n):Tb H0 (upd H (ad i) (.lst ((rwl n (T i)).set j (.int v)))) s ad n (fun a b=>if a=i/\b=j then v else T a b):=by
 refine⟨t.fs,t.fa,t.ns,t.inj,by rw[zAG (Ne.symm (t.ns i hi))];exact t.top,fun a ha=>?_,fun b o z=>?_⟩
 ·by_cases e:a=i
  ·subst e
   rw[zAC,zLG]
   congr 2
   refine zC4 fun x _=>?_
   by_cases q:x=j<;>simp[q]
  ·rw[zAG (fun z=>e (t.inj a i ha hi z)),t.row a ha]
   congr 2
   refine zC4 fun x _=>?_
   simp[e]
 ·rw[zAG (zAE z (t.fa i hi))];exact t.sm b o z
end
def brs:List Nat:=[40,41,91,93,123,125,60,62]
def plw(w:List Int)(c:Nat):List Int:=if c=63 then w else(brs.take w.length).map fun b=>if c=b then 1 else 0
theorem zLS{w:List Int}{c:Nat}(h:w.length<=8):(plw w c).length=w.length:=by
 unfold plw
 split
 ·rfl
 ·rw[List.length_map,List.length_take];exact Nat.min_eq_left h
abbrev PP(ps:List (List Int)):Nat->Nat->Int:=fun i b=>(ps.getD i []).getD b 0
abbrev ones(k:Nat):List Int:=List.replicate (2*k) 1
def cnt(k:Nat)(a:List Nat):Int:=cv (PP (a.map (plw (ones k)))) k a.length 0 []
def spWeighed(K:PySem.W.Frag):Sp:=fun vs H Q _=>∃ (a:List Nat) (p:Addr) (w:List Int),vs=[tx a, .ref p]/\a.length<=40/\SqL K H p (w.map V.int)/\w.length<=8/\∀r H',H r=none->Same H H'->Pls H' r (a.map (plw w))->Q (.ref r) H'
theorem zFV{K:PySem.W.Frag}{H:Hp}{a:List Nat}{p:Addr}{w:List Int}{Q:VK}{E:XK}(h1:a.length<=40)(h2:SqL K H p (w.map V.int))(h3:w.length<=8)(q:∀r H',H r=none->Same H H'->Pls H' r (a.map (plw w))->Q (.ref r) H'):spWeighed K ([tx a, .ref p]++[]) H Q E:=⟨a,p,w,rfl,h1,h2,h3,q⟩
def spCounted:Sp:=fun vs H Q _=>∃ (k:Int) (a:List Nat),vs=[.int k,tx a]/\1<=k/\k<=4/\a.length<=40/\∀r H',H r=none->Same H H'->Pls H' r (a.map (plw (ones k.toNat)))->Q (.ref r) H'
theorem zDS{H:Hp}{k:Int}{a:List Nat}{Q:VK}{E:XK}(h1:1<=k)(h2:k<=4)(h3:a.length<=40)(q:∀r H',H r=none->Same H H'->Pls H' r (a.map (plw (ones k.toNat)))->Q (.ref r) H'):spCounted ([.int k,tx a]++[]) H Q E:=⟨k,a,rfl,h1,h2,h3,q⟩
def top30:Int:=10^31
def Sm(l:List Int):Prop:=∀v∈l,0<=v/\v<=top30
theorem Sm.at{l:List Int}(h:Sm l)(b:Nat):0<=l.getD b 0/\l.getD b 0<=top30:=by
 rw[List.getD_eq_getElem?_getD]
 cases e:l[b]? with
 |none=>exact⟨by simp,by simp[top30]⟩
 |some v=>exact h v (List.mem_of_getElem? e)
def spPair:Sp:=fun vs H Q _=>∃ (p q:Addr) (x y:List Int) (k:Nat),vs=[.ref p, .ref q]/\H p=some (iL x)/\H q=some (iL y)/\x.length=2*k/\y.length=2*k/\k<=4/\Sm x/\Sm y/\∀H',Same H H'->Q (.int (sm k fun o=>x.getD (2*o) 0*y.getD (2*o+1) 0)) H'
theorem zEF{H:Hp}{p q:Addr}{x y:List Int}{k:Nat}{Q:VK}{E:XK}(h1:H p=some (iL x))(h2:H q=some (iL y))(l1:x.length=2*k)(l2:y.length=2*k)(hk:k<=4)(s1:Sm x)(s2:Sm y)(r:∀H',Same H H'->Q (.int (sm k fun o=>x.getD (2*o) 0*y.getD (2*o+1) 0)) H'):spPair ([.ref p, .ref q]++[]) H Q E:=⟨p,q,x,y,k,rfl,h1,h2,l1,l2,hk,s1,s2,r⟩
def spNoSums:Sp:=fun vs H Q _=>∃n:Nat,vs=[.int n]/\n<=40/\∀s ad H',Tb H H' s ad n (fun _ _=>0)->Q (.ref s) H'
theorem zDo{H:Hp}{n:Nat}{Q:VK}{E:XK}(h1:n<=40)(r:∀s ad H',Tb H H' s ad n (fun _ _=>0)->Q (.ref s) H'):spNoSums ([.int n]++[]) H Q E:=⟨n,rfl,h1,r⟩
def tbl(P:Nat->Nat->Int)(k:Nat)(i j:Nat):Int:=if i<=j then cv P k (j-i) i []else 0
def spSpans:Sp:=fun vs H Q _=>∃ (p:Addr) (ps:List (List Int)) (k:Nat),vs=[.ref p]/\Pls H p ps/\ps.length<=40/\k<=4/\(∀l∈ps,l.length=2*k/\Sm l)/\∀s ad H',Tb H H' s ad ps.length (tbl (PP ps) k)->Q (.ref s) H'
theorem zEp{H:Hp}{p:Addr}{ps:List (List Int)}{k:Nat}{Q:VK}{E:XK}(h1:Pls H p ps)(h2:ps.length<=40)(h3:k<=4)(h4:∀l∈ps,l.length=2*k/\Sm l)(r:∀s ad H',Tb H H' s ad ps.length (tbl (PP ps) k)->Q (.ref s) H'):spSpans ([.ref p]++[]) H Q E:=⟨p,ps,k,rfl,h1,h2,h3,h4,r⟩
def spWholeSum:Sp:=fun vs H Q _=>∃H0 s ad n T,vs=[.ref s]/\Tb H0 H s ad n T/\Q (.int (T 0 n)) H
theorem zBR{H0 H:Hp}{s:Addr}{ad:Nat->Addr}{n:Nat}{T:Nat->Nat->Int}{Q:VK}{E:XK}(h:Tb H0 H s ad n T)(q:Q (.int (T 0 n)) H):spWholeSum ([.ref s]++[]) H Q E:=⟨H0,s,ad,n,T,rfl,h,q⟩
theorem zH5(k:Nat):Sm (ones k):=fun v hv=>by
 obtain rfl:=List.eq_of_mem_replicate hv
 exact⟨by decide,by decide⟩
theorem zKN{w:List Int}(h:Sm w)(c:Nat):Sm (plw w c):=by
 unfold plw
 split
 ·exact h
 ·intro v hv
  obtain⟨b,_,rfl⟩:=List.mem_map.mp hv
  split<;>exact⟨by decide,by decide⟩
theorem zAn{ps:List (List Int)}(h:∀l∈ps,Sm l)(i b:Nat):0<=PP ps i b/\PP ps i b<=top30:=by
 show 0<=(ps.getD i []).getD b 0/\(ps.getD i []).getD b 0<=top30
 cases e:ps[i]? with
 |none=>
  have q:ps.getD i []=[]:=by rw[List.getD_eq_getElem?_getD,e];rfl
  rw[q];exact⟨by simp,by simp[top30]⟩
 |some l=>
  have q:ps.getD i []=l:=by rw[List.getD_eq_getElem?_getD,e];rfl
  rw[q];exact(h l (List.mem_of_getElem? e)).at b
theorem zEC{x y:Int}(h0:0<=x)(h:x<=y):∀n:Nat,0<=x^n/\x^n<=y^n
 |0=>by simp
 |n+1=>by
  obtain⟨a,b⟩:=zEC h0 h n
  rw[Int.pow_succ,Int.pow_succ]
  exact⟨Int.mul_nonneg a h0,Int.mul_le_mul b h h0 (Int.le_trans a b)⟩
theorem zMq{x:Int}(h1:1<=x){m n:Nat}(h:m<=n):x^m<=x^n:=by
 induction n with
 |zero=>obtain rfl:m=0:=by omega
        exact Int.le_refl _
 |succ n ih=>
  by_cases e:m=n+1
  ·subst e;exact Int.le_refl _
  ·have h2:=ih (by omega)
   have h3:=(zEC (x:=x) (y:=x) (by omega) (Int.le_refl _) n).1
   rw[Int.pow_succ]
   have:=Int.mul_le_mul (Int.le_refl (x^n)) h1 (by decide) h3
   omega
def cap:Int:=(5*top30)^40
theorem zFI{ps:List (List Int)}{k:Nat}(hk:k<=4)(h:∀l∈ps,Sm l){n:Nat}(hn:n<=40)(i:Nat)(st:List Nat):0<=cv (PP ps) k n i st/\cv (PP ps) k n i st<=cap:=by
 obtain⟨a,b⟩:=zEZ (P:=PP ps) (k:=k) (c:=top30) (by decide) (fun i b=>(zAn h i b).1) (fun i b=>(zAn h i b).2) n i st
 refine⟨a,Int.le_trans b ?_⟩
 have h1:(0:Int)<=((k:Int)+1)*top30:=Int.mul_nonneg (by omega) (by decide)
 have h2:((k:Int)+1)*top30<=5*top30:=Int.mul_le_mul_of_nonneg_right (by omega) (by decide)
 refine Int.le_trans (zEC h1 h2 n).2 (zMq (by decide) hn)
theorem zHp{ps:List (List Int)}{k:Nat}(hk:k<=4)(h:∀l∈ps,Sm l)(i j:Nat):0<=pr (PP ps) k i j/\pr (PP ps) k i j<=4*(top30*top30):=by
 unfold pr
 have tm:∀p,0<=PP ps i (2*p)*PP ps j (2*p+1)/\PP ps i (2*p)*PP ps j (2*p+1)<=top30*top30:=fun p=>
  ⟨Int.mul_nonneg (zAn h _ _).1 (zAn h _ _).1,Int.mul_le_mul (zAn h _ _).2 (zAn h _ _).2 (zAn h _ _).1 (by decide)⟩
 refine⟨zAT k fun p _=>(tm p).1,Int.le_trans (zCW (g:=fun _=>top30*top30) k fun p _=>(tm p).2) ?_⟩
 rw[zB3]
 exact Int.mul_le_mul_of_nonneg_right (by omega) (by decide)
theorem zA4{i c:Int}(h0:0<=i)(h:i<=c)(hc:c.natAbs<big):i.natAbs<big:=by
 refine Nat.lt_of_le_of_lt ?_ hc
 omega
theorem zDV:cap.natAbs<big:=by unfold cap big top30;decide +kernel
theorem zJ3:(4*(top30*top30)*cap).natAbs<big:=by unfold cap big top30;decide +kernel
theorem zD0:top30.natAbs<big:=by unfold big top30;decide +kernel
theorem zEx:(4*(top30*top30)).natAbs<big:=by unfold big top30;decide +kernel
theorem zJO(n:Nat):(List.replicate (n+1) [V.int 0]).flatten=rwl n fun _=>0:=by
 unfold rwl
 have:∀m,(List.replicate m [V.int 0]).flatten=(List.range m).map fun _=>V.int 0:=by
  intro m
  induction m with
  |zero=>rfl
  |succ m ih=>rw[List.replicate_succ',List.flatten_append,ih,List.range_succ,List.map_append];rfl
 exact this (n+1)
theorem zF4{α:Type}{xs:List α}{v:α}(h:0<xs.length)(e:xs[xs.length-1]? =some v):atI xs (-1)=some v:=by
 unfold atI ixN
 rw[if_neg (by omega),if_pos (by omega)]
 have:((-1:Int)+xs.length).toNat=xs.length-1:=by omega
 simp only[this,Option.bind]
 exact e
theorem zJP(m:Nat):(List.replicate (2*m) [V.int 1]).flatten=(ones m).map V.int:=by
 unfold ones
 generalize 2*m=j
 induction j with
 |zero=>rfl
 |succ j ih=>rw[List.replicate_succ,List.flatten_cons,ih,List.replicate_succ];rfl
theorem zKV{l:List Int}{j:Nat}(h:j<l.length):(l.map V.int)[j]? =some (.int (l.getD j 0)):=by
 rw[List.getElem?_map,List.getD_eq_getElem?_getD,List.getElem?_eq_getElem h];rfl
def part(P:Nat->Nat->Int)(k i q j:Nat):Int:=
 if j<=i then(if j=i then 1 else 0)else if(j-i)%2=1 then 0 else
  sm q fun e=>if i+2+2*e<=j then pr P k i (i+1+2*e)*cv P k (2*e) (i+1) []*cv P k (j-(i+2+2*e)) (i+2+2*e) []else 0
section
variable{P:Nat->Nat->Int}{k i q j n:Nat}
theorem zHv:part P k i 0 j=if j=i then 1 else 0:=by
 unfold part
 by_cases h:j<=i
 ·rw[if_pos h]
 ·rw[if_neg h,if_neg (show¬ (j=i) by omega)]
  split<;>rfl
theorem zGX(h:i<j/\(j-i)%2=1):part P k i q j=0:=by
 unfold part
 rw[if_neg (by omega),if_pos h.2]
theorem zHw(h:j<i+2+2*q):part P k i (q+1) j=part P k i q j:=by
 unfold part
 by_cases h1:j<=i
 ·rw[if_pos h1,if_pos h1]
 ·rw[if_neg h1,if_neg h1,sm,if_neg (show¬ (i+2+2*q<=j) by omega),Int.add_zero]
theorem zHx{en:Nat}(he:en=i+1+2*q)(h:en+1<=j)(h2:(j-i)%2=0):part P k i q j+pr P k i en*cv P k (2*q) (i+1) []*cv P k (j-(en+1)) (en+1) []=part P k i (q+1) j:=by
 subst he
 unfold part
 rw[if_neg (by omega),if_neg (by omega),if_neg (by omega),if_neg (by omega),sm,if_pos (show i+2+2*q<=j by omega),show i+1+2*q+1=i+2+2*q by omega]
theorem zJb(hj:j<=n):part P k i ((n-i)/2) j=tbl P k i j:=by
 unfold part tbl
 by_cases h1:j<=i
 ·rw[if_pos h1]
  by_cases h2:j=i
  ·subst h2;rw[if_pos rfl,if_pos (Nat.le_refl _),Nat.sub_self];rfl
  ·rw[if_neg h2,if_neg (by omega)]
 ·rw[if_neg h1,if_pos (show i<=j by omega)]
  by_cases h2:(j-i)%2=1
  ·rw[if_pos h2,zDs _ _ _ (by simpa using h2)]
  ·rw[if_neg h2]
   obtain⟨m,hm⟩:∃m,j-i=m+1:=⟨j-i-1,by omega⟩
   rw[hm,zL2]
   obtain⟨d,hd⟩:∃d,(n-i)/2=(m+1)/2+d:=⟨(n-i)/2-(m+1)/2,by omega⟩
   rw[hd,zHb _ d fun e h3=>by rw[if_neg (by omega)]]
   refine zAJ _ fun e h3=>?_
   rw[if_pos (by omega),show j-(i+2+2*e)=m-2*e-1 by omega,show i+2+2*e=i+2*e+2 by omega]
end
theorem zAj{k:Nat}{a:List Nat}(hk:k<=4):∀l∈a.map (plw (ones k)),l.length=2*k/\Sm l:=fun l hl=>by
 obtain⟨c,_,rfl⟩:=List.mem_map.mp hl
 exact⟨by rw[zLS (by rw[List.length_replicate];omega),List.length_replicate],zKN (zH5 k) c⟩
def Deck(H:Hp)(p:Addr):Prop:=∃ds:List Int,H p=some (.lst (ds.map V.int))/\∀d∈ds,0<=d/\d<2147483648
theorem Deck.keep{H H':Hp}{p r:Addr}(h:Deck H p)(s:SameBut1 r H H')(n:p≠r):Deck H' p:=by
 obtain⟨ds,e,b⟩:=h
 exact⟨ds,s _ _ e n,b⟩
theorem Deck.ne{H:Hp}{p q:Addr}(h:Deck H p)(hq:H q=none):q≠p:=by
 obtain⟨ds,e,_⟩:=h
 exact(zAE e hq).symm
theorem zIW(ds:List Int):(ds.map V.int).all flatV=true:=by
 rw[List.all_eq_true]
 intro v hv
 obtain⟨d,_,rfl⟩:=List.mem_map.mp hv
 rfl
theorem zJu(ds:List Int):eqVs (ds.map V.int) []=decide (ds=[]):=by
 cases ds with
 |nil=>rfl
 |cons d r=>rw[decide_eq_false (by simp)];rfl
theorem zLR(w:List Int):plw w 63=w:=by unfold plw;rw[if_pos rfl]
section
variable{σ:St}{H:Hp}{Q:VK}{K:PySem.W.Frag}
end
theorem at4{α:Type}(x y z u:α){i:Int}(h0:0<=i)(h1:i<4):∃v,atI [x,y,z,u] i=some v/\(v=x\/v=y\/v=z\/v=u):=by
 have:i=0\/i=1\/i=2\/i=3:=by omega
 rcases this with rfl|rfl|rfl|rfl
 ·exact⟨x,rfl, .inl rfl⟩
 ·exact⟨y,rfl, .inr (.inl rfl)⟩
 ·exact⟨z,rfl, .inr (.inr (.inl rfl))⟩
 ·exact⟨u,rfl, .inr (.inr (.inr rfl))⟩
def pw(k c b:Nat):Int:=(plw (ones k) c).getD b 0
def ws(k:Nat):List Nat->List Nat->Int
 |[],[]=>1
 |[],_::_=>0
 |c::r,st=>sm k (fun p=>pw k c (2*p)*ws k r (p::st))+(match st with|[]=>0|o::s'=>pw k c (2*o+1)*ws k r s')
variable{k:Nat}
theorem zJ7(c:Nat)(r:List Nat):ws k (c::r) []=sm k (fun p=>pw k c (2*p)*ws k r [p]):=by rw[ws];simp
theorem zHO(c:Nat)(r:List Nat)(o:Nat)(st:List Nat):ws k (c::r) (o::st)=sm k (fun p=>pw k c (2*p)*ws k r (p::o::st))+pw k c (2*o+1)*ws k r st:=by rw[ws]
theorem zC7(k c b:Nat):0<=pw k c b:=((zKN (zH5 k) c).at b).1
theorem zCw:∀ (a st:List Nat),0<=ws k a st
 |[],[]=>by rw[ws];decide
 |[],_::_=>by rw[ws];decide
 |c::r,st=>by
  have s1:=zAT (f:=fun p=>pw k c (2*p)*ws k r (p::st)) k fun p _=>Int.mul_nonneg (zC7 _ _ _) (zCw r _)
  cases st with
  |nil=>rw[zJ7];exact s1
  |cons o s'=>rw[zHO];exact Int.add_nonneg s1 (Int.mul_nonneg (zC7 _ _ _) (zCw r _))
theorem zMi{b:Nat}(h:b<2*k):pw k 63 b=1:=by
 unfold pw
 rw[zLR]
 unfold ones
 rw[List.getD_eq_getElem?_getD,List.getElem?_replicate,if_pos h];rfl
theorem zNb{b c:Nat}(h:brs[b]? =some c):b<8:=by
 have:=(List.getElem?_eq_some_iff.mp h).1
 exact this
theorem zOH{b d c:Nat}(hb:b<2*k)(hb8:b<8)(hd:brs[d]? =some c):pw k c b=if b=d then 1 else 0:=by
 have hd8:=zNb hd
 have hn:c≠63:=by
  rintro rfl
  revert hd
  have:d=0\/d=1\/d=2\/d=3\/d=4\/d=5\/d=6\/d=7:=by omega
  rcases this with rfl|rfl|rfl|rfl|rfl|rfl|rfl|rfl<;>decide
 unfold pw plw
 rw[if_neg hn,List.getD_eq_getElem?_getD,List.getElem?_map,List.getElem?_take]
 rw[if_pos (show b<(ones k).length by unfold ones;rw[List.length_replicate];exact hb)]
 have hb':b=0\/b=1\/b=2\/b=3\/b=4\/b=5\/b=6\/b=7:=by omega
 have hd':d=0\/d=1\/d=2\/d=3\/d=4\/d=5\/d=6\/d=7:=by omega
 rcases hd' with rfl|rfl|rfl|rfl|rfl|rfl|rfl|rfl<;>(cases hd;rcases hb' with rfl|rfl|rfl|rfl|rfl|rfl|rfl|rfl<;>decide)
theorem zGI(f:Nat->Int):∀k,sm (2*k) f=sm k fun p=>f (2*p)+f (2*p+1)
 |0=>rfl
 |k+1=>by rw[show 2*(k+1)=2*k+1+1 by omega,sm,sm,zGI f k,sm];omega
end BrS
namespace BrS
open L2 PySem BrM BrC
def clc(p:Nat):Nat:=cls.getD p 0
section
variable{k:Int}
end
end BrS
namespace L2
open PySem PySem.Spec PyProof.Rows
section
variable{κ:Type}[DecidableEq κ]
def valV(kvs:List (κ×V))(k:κ):Option V:=(kvs.find? fun kv=>decide (kv.1=k)).map (·.2)
def putK(kvs:List (κ×V))(k:κ)(v:V):List (κ×V):=
 if(kvs.any fun kv=>decide (kv.1=k))=true then kvs.map (fun kv=>if kv.1=k then(kv.1,v)else kv)else kvs++[(k,v)]
def dropK(kvs:List (κ×V))(k:κ):List (κ×V):=kvs.filter fun kv=>decide (kv.1≠k)
theorem zJC{k:κ}:valV ([]:List (κ×V)) k=none:=rfl
theorem zDx{p:κ×V}{r:List (κ×V)}{k:κ}(e:p.1=k):valV (p::r) k=some p.2:=by simp[valV,List.find?_cons,e]
theorem zDy{p:κ×V}{r:List (κ×V)}{k:κ}(e:¬p.1=k):valV (p::r) k=valV r k:=by simp[valV,List.find?_cons,e]
theorem zDz(k:κ):∀kvs:List (κ×V),(kvs.any fun kv=>decide (kv.1=k))=(valV kvs k).isSome
 |[]=>rfl
 |p::r=>by
  rw[List.any_cons]
  by_cases e:p.1=k
  ·simp only[zDx e,decide_eq_true e,Bool.true_or,Option.isSome_some]
  ·rw[zDy e,decide_eq_false e,Bool.false_or];exact zDz k r
theorem zCE(kvs:List (κ×V))(k:κ)(v:V):(putK kvs k v).length<=kvs.length+1:=by
 unfold putK
 split
 ·rw[List.length_map];omega
 ·rw[List.length_append,List.length_cons,List.length_nil];omega
theorem zJR{kvs:List (κ×V)}{k:κ}(v:V)(h:valV kvs k=none):putK kvs k v=kvs++[(k,v)]:=by
 unfold putK
 rw[zDz,h]
 exact if_neg (by decide)
theorem RelO.isSome_eq{o:Option V}{u:Option Value}(r:RelO o u):o.isSome=u.isSome:=by
 cases o with
 |none=>cases u with
  |none=>rfl
  |some _=>exact(show False from r).elim
 |some _=>cases u with
  |none=>exact(show False from r).elim
  |some _=>rfl
theorem RelO.getD{o:Option V}{u:Option Value}{d:V}{d':Value}(r:RelO o u)(rd:RelV d d'):RelV (o.getD d) (u.getD d'):=by
 cases o with
 |none=>cases u with
  |none=>exact rd
  |some _=>exact(show False from r).elim
 |some _=>cases u with
  |none=>exact(show False from r).elim
  |some _=>exact r
theorem KV.val{kvs:List (κ×V)}{vs:List (κ×Value)}(r:KV kvs vs)(k:κ):RelO (valV kvs k) (valueAt vs k):=by
 unfold KV at r
 induction r with
 |nil=>exact True.intro
 | @cons p q ps qs h t ih=>
   obtain⟨h1,h2⟩:=h
   by_cases e:p.1=k
   ·have e':q.1=k:=h1.symm.trans e
    have b:valueAt (q::qs) k=some q.2:=by simp[valueAt,List.find?_cons,e']
    rw[zDx e,b];exact h2
   ·have e':¬q.1=k:=fun z=>e (h1.trans z)
    have b:valueAt (q::qs) k=valueAt qs k:=by simp[valueAt,List.find?_cons,e']
    rw[zDy e,b];exact ih
theorem KV.any{kvs:List (κ×V)}{vs:List (κ×Value)}(r:KV kvs vs)(k:κ):(kvs.any fun kv=>decide (kv.1=k))=vs.any fun kv=>decide (kv.1=k):=by
 unfold KV at r
 induction r with
 |nil=>rfl
 |cons h t ih=>rw[List.any_cons,List.any_cons,ih,h.1]
theorem KV.repl{kvs:List (κ×V)}{vs:List (κ×Value)}(r:KV kvs vs)(k:κ){y:V}{u:Value}(ry:RelV y u):
 KV (kvs.map fun kv=>if kv.1=k then(kv.1,y)else kv) (vs.map fun kv=>if kv.1=k then(kv.1,u)else kv):=by
 unfold KV at r⊢
 induction r with
 |nil=>exact .nil
 | @cons p q ps qs h t ih=>
   rw[List.map_cons,List.map_cons]
   refine .cons ?_ ih
   obtain⟨h1,h2⟩:=h
   by_cases e:p.1=k
   ·rw[if_pos e,if_pos (h1.symm.trans e)];exact⟨h1,ry⟩
   ·rw[if_neg e,if_neg (fun z=>e (h1.trans z))];exact⟨h1,h2⟩
theorem KV.put{kvs:List (κ×V)}{vs:List (κ×Value)}(r:KV kvs vs)(k:κ){y:V}{u:Value}(ry:RelV y u):KV (putK kvs k y) (stored vs k u):=by
 unfold putK stored
 rw[r.any k]
 by_cases e:(vs.any fun kv=>decide (kv.1=k))=true
 ·rw[if_pos e,if_pos e];exact r.repl k ry
 ·rw[if_neg e,if_neg e];exact Paired.snoc r ⟨rfl,ry⟩
theorem KV.drop{kvs:List (κ×V)}{vs:List (κ×Value)}(r:KV kvs vs)(k:κ):KV (dropK kvs k) (without vs k):=by
 unfold KV at r⊢
 unfold dropK without
 induction r with
 |nil=>exact .nil
 | @cons p q ps qs h t ih=>
   obtain⟨h1,h2⟩:=h
   rw[List.filter_cons,List.filter_cons]
   by_cases e:p.1=k
   ·have a:¬decide (p.1≠k)=true:=by simp[e]
    have b:¬decide (q.1≠k)=true:=by simp[h1.symm.trans e]
    rw[if_neg a,if_neg b];exact ih
   ·have e':¬q.1=k:=fun z=>e (h1.trans z)
    have a:decide (p.1≠k)=true:=by simp[e]
    have b:decide (q.1≠k)=true:=by simp[e']
    rw[if_pos a,if_pos b];exact .cons ⟨h1,h2⟩ ih
theorem KV.length{kvs:List (κ×V)}{vs:List (κ×Value)}(r:KV kvs vs):kvs.length=vs.length:=Paired.length r
end
theorem zJj{P:Program}{w:World}{k:Key}{u:Value}(r:RelV (kV k) u):(mixKind P w).is k u=true:=by
 cases k with
 |inl i=>obtain⟨t,e⟩:=(show∃t,u=Value.int i t from r);subst e;exact zFm P w i t
 |inr x=>obtain⟨t,e⟩:=(show∃t,u=Value.str x t from r);subst e;exact zFl P w x t
theorem zE7{P:Program}{w:World}:∀ {ks:List Key} {us:List Value},Vals (ks.map kV) us->ItemsAre (mixKind P w) ks us
 |[],_,r=>by rw[List.map_nil]at r;cases r;exact .nil
 |k::ks,_,r=>by
  rw[List.map_cons]at r
  cases r with
  |cons h t=>exact .cons (zJj h) (zE7 t)
abbrev KT(H:Hp):List (List Key×V)->List (List Key×Addr×Value)->Prop:=Paired fun p q=>p.1=q.1/\H q.2.1=some (.tup (p.1.map kV))/\RelV p.2 q.2.2
theorem KT.val{H:Hp}{kvs:List (List Key×V)}{xs:List (List Key×Addr×Value)}(r:KT H kvs xs)(k:List Key):RelO (valV kvs k) ((atKey xs k).map (·.2)):=by
 induction r with
 |nil=>exact True.intro
 | @cons p q ps qs h t ih=>
   obtain⟨h1,_,h2⟩:=h
   by_cases e:p.1=k
   ·have e':q.1=k:=h1.symm.trans e
    have b:atKey (q::qs) k=some q.2:=by simp[atKey,List.find?_cons,e']
    rw[zDx e,b];exact h2
   ·have e':¬q.1=k:=fun z=>e (h1.trans z)
    have b:atKey (q::qs) k=atKey qs k:=by simp[atKey,List.find?_cons,e']
    rw[zDy e,b];exact ih
theorem KT.repl{H:Hp}{kvs:List (List Key×V)}{xs:List (List Key×Addr×Value)}(r:KT H kvs xs)(k:List Key){y:V}{u:Value}(ry:RelV y u):
 KT H (kvs.map fun kv=>if kv.1=k then(kv.1,y)else kv) (xs.map (putAt k u)):=by
 induction r with
 |nil=>exact .nil
 | @cons p q ps qs h t ih=>
   rw[List.map_cons,List.map_cons]
   refine .cons ?_ ih
   obtain⟨h1,h2,h3⟩:=h
   unfold putAt
   by_cases e:p.1=k
   ·rw[if_pos e,if_pos (h1.symm.trans e)];exact⟨h1,h2,ry⟩
   ·rw[if_neg e,if_neg (fun z=>e (h1.trans z))];exact⟨h1,h2,h3⟩
theorem KT.put{H:Hp}{kvs:List (List Key×V)}{xs:List (List Key×Addr×Value)}(r:KT H kvs xs)(k:List Key){b:Addr}{y:V}{u:Value}(hb:H b=some (.tup (k.map kV)))(ry:RelV y u):
 KT H (putK kvs k y) (storedH xs k b u):=by
 have e:(kvs.any fun kv=>decide (kv.1=k))=(atKey xs k).isSome:=by
  rw[zDz,(r.val k).isSome_eq,Option.isSome_map]
 unfold putK storedH
 rw[e]
 by_cases q:(atKey xs k).isSome=true
 ·rw[if_pos q,if_pos q];exact r.repl k ry
 ·rw[if_neg q,if_neg q];exact Paired.snoc r ⟨rfl,hb,ry⟩
theorem KT.keeps{H H':Hp}{kvs:List (List Key×V)}{xs:List (List Key×Addr×Value)}(r:KT H kvs xs)(ht:∀b ys,H b=some (.tup ys)->H' b=some (.tup ys)):KT H' kvs xs:=
 Paired.mapP r fun _ _ z=>⟨z.1,ht _ _ z.2.1,z.2.2⟩
section
variable{P:Program}{w:World}{H:Hp}{h:Heap}{a:Addr}
theorem zMh{u:HO}(ok:HOk P w H h)(e:Rd H a u):ObjOk P w H h a u:=e.ok ok
theorem zIf{kvs:List (Key×V)}(ok:HOk P w H h)(e:Rd H a (.dK kvs)):kvs.length<=sizeLine/\(a==sysModules)=false/\∃vs,KV kvs vs/\h.DictOf (mixKind P w) a vs:=
 show ObjOk P w H h a (.dK kvs)from zMh ok e
theorem zNX{kvs:List (Key×V)}(ok:HOk P w H h)(e:H a=some (.dK kvs)):kvs.length<=sizeLine/\(a==sysModules)=false/\∃vs,KV kvs vs/\h.DictOf (mixKind P w) a vs:=zIf ok (.inl e)
theorem zID{ks:List Key}(ok:HOk P w H h)(e:H a=some (.tup (ks.map kV))):(tupleKind (mixKind P w)).is h ks a:=by
 obtain⟨_,its,r,o,h1,h2,n,h3⟩:=(show ObjOk P w H h a (.tup (ks.map kV))from ok a _ e)
 exact⟨o,its.toArray,n,h1,h2,h3,by simpa using zE7 r⟩
theorem zL1{kvs:List (List Key×V)}(ok:HOk P w H h)(e:Rd H a (.dT kvs)):kvs.length<=sizeLine/\(a==sysModules)=false/\
 ∃xs,KT H kvs xs/\h.DictOfH (tupleKind (mixKind P w)) a xs:=by
 obtain⟨z,y,xs,r,o,es,ep,h1,h2,h3,h4,h5⟩:=(show ObjOk P w H h a (.dT kvs)from zMh ok e)
 refine⟨z,y,xs,r,o,es,ep,h1,h2,h3,h4,fun x hx=>?_,h5⟩
 have all:∀ {l:List (List Key×V)} {m:List (List Key×Addr×Value)},KT H l m->∀x∈m,(tupleKind (mixKind P w)).is h x.1 x.2.1:=by
  intro l m q
  induction q with
  |nil=>intro x hx;exact nomatch hx
  | @cons p q ps qs hq t ih=>
    intro x hx
    rcases List.mem_cons.mp hx with e|hx
    ·subst e
     exact zID ok (by rw[<-hq.1];exact hq.2.1)
    ·exact ih x hx
 exact all r x hx
theorem zOO{kvs:List (List Key×V)}(ok:HOk P w H h)(e:H a=some (.dT kvs)):kvs.length<=sizeLine/\(a==sysModules)=false/\
 ∃xs,KT H kvs xs/\h.DictOfH (tupleKind (mixKind P w)) a xs:=zL1 ok (.inl e)
end
def DGet(H:Hp)(a:Addr)(y:V)(r:Option V):Prop:=
 (∃kvs k,Rd H a (.dK kvs)/\y=kV k/\r=valV kvs k)\/∃kvs k b,Rd H a (.dT kvs)/\y= .ref b/\H b=some (.tup (k.map kV))/\r=valV kvs k
def DPut(H:Hp)(a:Addr)(y v:V)(H':Hp):Prop:=
 (∃kvs k,H a=some (.dK kvs)/\y=kV k/\kvs.length<sizeLine/\H'=upd H a (.dK (putK kvs k v)))\/
 ∃kvs k b,H a=some (.dT kvs)/\y= .ref b/\H b=some (.tup (k.map kV))/\kvs.length<sizeLine/\H'=upd H a (.dT (putK kvs k v))
theorem DGet.k{H:Hp}{a:Addr}{kvs:List (Key×V)}{k:Key}(e:H a=some (.dK kvs)):DGet H a (kV k) (valV kvs k):= .inl ⟨kvs,k, .inl e,rfl,rfl⟩
theorem DGet.t{H:Hp}{a b:Addr}{kvs:List (List Key×V)}{k:List Key}(e:H a=some (.dT kvs))(eb:H b=some (.tup (k.map kV))):DGet H a (.ref b) (valV kvs k):= .inr ⟨kvs,k,b, .inl e,rfl,eb,rfl⟩
theorem DPut.k{H:Hp}{a:Addr}{kvs:List (Key×V)}{k:Key}{v:V}(e:H a=some (.dK kvs))(hl:kvs.length<sizeLine):DPut H a (kV k) v (upd H a (.dK (putK kvs k v))):= .inl ⟨kvs,k,e,rfl,hl,rfl⟩
theorem DPut.t{H:Hp}{a b:Addr}{kvs:List (List Key×V)}{k:List Key}{v:V}(e:H a=some (.dT kvs))(eb:H b=some (.tup (k.map kV)))(hl:kvs.length<sizeLine):
 DPut H a (.ref b) v (upd H a (.dT (putK kvs k v))):= .inr ⟨kvs,k,b,e,rfl,eb,hl,rfl⟩
section
variable{X:Cx}{pins:List (Addr×Obj)}{σ:St}{H:Hp}{s:Shared}{a:Addr}{y v:V}{u r:Value}{o:Option V}{A:Around}{E:Value->Shared->Prop}
theorem Inv.big(I:Inv X pins σ H s):sysModules<s.heap.objs.size:=by
 have h:mainGlobals<s.heap.objs.size:=(I.mod.glob.keeps I.bk).lt
 exact Nat.lt_trans (by decide) h
theorem zFw{h':Heap}{t':Nat}{ob:HO}(I:Inv X pins σ H s)(mu:Mut (H a))(hs:Heap.SameBut a s.heap h')(he:∃q,h'.get? a=some q)(new:ObjOk X.prog X.w (upd H a ob) h' a ob):
 Inv X pins σ (upd H a ob) {s with heap:=h',toks:=t'}:=
 I.write (x:=a) (e:=a) mu (.inl rfl) (fun b q hb z=>(hs.2 b hb).trans z) he new
theorem zKa{P:Program}{w:World}{H':Hp}{h':Heap}{kvs:List (Key×V)}{vs:List (Key×Value)}(z:kvs.length<=sizeLine)(hd:(a==sysModules)=false)(rel:KV kvs vs)(dd:h'.DictOf (mixKind P w) a vs):
 ObjOk P w H' h' a (.dK kvs):=⟨z,hd,vs,rel,dd⟩
theorem zIk{H':Hp}{Q:Unit->Shared->Prop}(hu:A.units+1<cLine)(I:Inv X pins σ H s)(g:DPut H a y v H')(ry:RelV y u)(rv:RelV v r)(h:∀s',Inv X pins σ H' s'->Q () s'):
 wpAny (model X.prog X.w) A (setItem (.ref a) u r) Q E s:=by
 rcases g with⟨kvs,k,e,ey,l,eH⟩|⟨kvs,k,b,e,ey,eb,l,eH⟩
 ·subst ey eH
  obtain⟨z,hd,vs,rel,dd⟩:=zNX I.hok e
  have hz:vs.length<=sizeLine:=by rw[<-rel.length];exact z
  have hl:(putK kvs k v).length<=sizeLine:=by have:=zCE kvs k v;omega
  refine wpAny_setItem_pairs (hsz:=hz) (zJj ry) dd fun h' dd' hs=>h _ ?_
  have he:∃q,h'.get? a=some q:=let⟨q,_,_,hq,_⟩:=dd';⟨q,hq⟩
  exact zFw I (by rw[e];exact True.intro) hs he (zKa hl hd (rel.put k rv) dd')
 ·subst ey eH
  cases(show u=Value.ref b from ry)
  obtain⟨z,hd,xs,rel,dd⟩:=zOO I.hok e
  have hz:xs.length<=sizeLine:=by rw[<-Paired.length rel];exact z
  have hl:(putK kvs k v).length<=sizeLine:=by have:=zCE kvs k v;omega
  refine wpAny_setItem_heap (hsz:=hz) (tupleKind_room_in1 hu) (zID I.hok eb) dd fun h' dd' hs=>h _ ?_
  obtain⟨q,es,ep,hq,h2,h3,h4,_,h5⟩:=dd'
  refine zFw I (by rw[e];exact True.intro) hs ⟨q,hq⟩ ⟨hl,hd,_,(rel.put k eb rv).keeps fun c ys ec=>?_,q,es,ep,hq,h2,h3,h4,h5⟩
  rw[zAG (zBr ec e (fun z=>nomatch z))]
  exact ec
end
section
variable{X:Cx}{pins:List (Addr×Obj)}{σ:St}{H:Hp}{s:Shared}{a:Addr}{kvs:List (Key×V)}{k:Key}{u:Value}{A:Around}{E:Value->Shared->Prop}
end
def sDPut(td ty tv:TE):TS:=fun D σ H=>tv σ H fun v H1=>td σ H1 fun x H2=>ty σ H2 fun y H3=>∃a H4,x= .ref a/\DPut H3 a y v H4/\D.nx σ H4
section
variable{X:Cx}{o i e value:Expr}{pos pos' tpos:Pos}{td ty tv:TE}
theorem zHn(hu:X.A.units+1<cLine)(ho:PE X o td)(hi:PE X i ty)(hv:PE X value tv)(hs:swapsWith value (some (.Subscript o i pos')) pos.line X.env=pure false):
 PS X (.Assign [.Subscript o i pos'] value pos) (sDPut td ty tv):=by
 intro pins s σ H D I h
 refine wpAny_Assign_Subscript (thn (hv pins s σ H _ I h) fun r s1 ⟨v,H1,I1,rv,q1⟩=>thn (ho pins s1 σ H1 _ I1 q1) fun u s2 ⟨x,H2,I2,rx,q2⟩=>thn (hi pins s2 σ H2 _ I2 q2) fun iv s3 ⟨y,H3,I3,ry,a,H4,ex,g,q3⟩=>?_) hs
 subst ex
 obtain rfl:u=Value.ref a:=rx
 exact zIk hu I3 g ry rv fun s4 I4=>⟨σ,H4,I4,q3⟩
end
theorem zJw{P:Program}{w:World}{H:Hp}(h:Heap)(hb:sysModules<h.objs.size):ObjOk P w H (h.push {cls:= .type "dict",data:= .dict #[]}) h.objs.size (.dK []):=
 ⟨Nat.zero_le _,beq_eq_false_iff_ne.mpr (Ne.symm (Nat.ne_of_lt hb)),[], .nil,Heap.DictOf.new h⟩
def tDNewK:TE:=fun _ H Q=>∀p,H p=none->Q (.ref p) (upd H p (.dK []))
section
variable{X:Cx}{pos:Pos}
theorem zJW:PE X (.Dict [] [] pos) tDNewK:=fun pins s σ H Q I h=>
 wpAny_Dict_empty ⟨.ref s.heap.objs.size,_,I.laid (a:=s.heap.objs.size) (o:= .dK []) (t':=s.toks) (fun _ _ q=>Heap.get?_push_of_some _ q) (Nat.le_refl _) (zJw s.heap I.big),rfl,h _ (I.hok.fresh (Nat.le_refl _))⟩
end
structure M2 (X:Cx) (o:Expr) (m:Str) (apos:Pos) (e f:Expr) (cpos:Pos):Prop where
 base:attributeBase o m X.env (eval o X.env)=eval o X.env
 few:((backTo cpos (starEach [e,f] X.env)).all (fun x=> !x.1)&&(backToKw cpos (keywordEach [] X.env)).all (fun x=>x.1.isSome)
  &&decide (([e,f]:List Expr).length+([]:List Keyword).length+(if([]:List Keyword).isEmpty then 0 else 1)<30))=true
 line:(apos.endLine==cpos.line)=true
 trees:backTo cpos (starEach [e,f] X.env)=[(false,eval e X.env),(false,eval f X.env)]
def IsD(H:Hp)(a:Addr):Prop:=(∃kvs,Rd H a (.dK kvs))\/∃kvs,Rd H a (.dT kvs)
theorem zKU{X:Cx}{pins:List (Addr×Obj)}{σ:St}{H:Hp}{s:Shared}{a:Addr}(I:Inv X pins σ H s)(d:IsD H a):
 s.TypeIs (.ref a) "dict"/\(∀b,Value.ref a= .ref b->∃ob,s.heap.get? b=some ob/\ob.dict=none)/\(a==sysModules)=false:=by
 rcases d with⟨kvs,e⟩|⟨kvs,e⟩
 ·obtain⟨_,hd,vs,_,dd⟩:=zIf I.hok e
  refine⟨dd.typeIs,fun b q=>?_,hd⟩
  cases q
  obtain⟨ob,_,_,h1,h2,_⟩:=dd
  exact⟨ob,h1,h2.2.1⟩
 ·obtain⟨_,hd,xs,_,dd⟩:=zL1 I.hok e
  refine⟨dd.typeIs,fun b q=>?_,hd⟩
  cases q
  obtain⟨ob,_,_,h1,h2,_⟩:=dd
  exact⟨ob,h1,h2.2.1⟩
section
variable{X:Cx}{pins:List (Addr×Obj)}{σ:St}{H:Hp}{s:Shared}{a:Addr}{y d:V}{u r:Value}{o:Option V}{A:Around}{E:Value->Shared->Prop}
theorem zNY{Q:Value->Shared->Prop}(hu:A.units+1<cLine)(I:Inv X pins σ H s)(g:DGet H a y o)(ry:RelV y u)(rd:RelV d r)(h:∀w' s',Inv X pins σ H s'->RelV (o.getD d) w'->Q w' s'):
 wpAny (model X.prog X.w) A (call (.builtin "dict.get") [.ref a,u,r]) Q E s:=by
 rcases g with⟨kvs,k,e,ey,l⟩|⟨kvs,k,b,e,ey,eb,l⟩
 ·subst ey
  obtain⟨z,hd,vs,rel,dd⟩:=zIf I.hok e
  refine call_meetsIn PySem.F.slot_dict_get dd.typeIs PySem.F.entry_dict_get (PySem.F.args_dict_get_3 _ _ _) (meets_dict_get_default (mixKind X.prog X.w) a (zJj ry) hd r) ⟨_,dd.mapOf,h _ _ (I.tok _) ?_⟩
  rw[l]
  exact(rel.val k).getD rd
 ·subst ey
  cases(show u=Value.ref b from ry)
  obtain⟨z,hd,xs,rel,dd⟩:=zL1 I.hok e
  refine call_meetsIn PySem.F.slot_dict_get dd.typeIs PySem.F.entry_dict_get (PySem.F.args_dict_get_3 _ _ _) (meetsH_dict_get_default (tupleKind (mixKind X.prog X.w)) a b hd r) ⟨tupleKind_room_in1 hu,k,xs,zID I.hok eb,dd,h _ _ (I.tok _) ?_⟩
  rw[l]
  exact(rel.val k).getD rd
end
def tDGet2(td ty tx:TE):TE:=fun σ H Q=>td σ H fun x H1=>∃a,x= .ref a/\IsD H1 a/\ty σ H1 fun y H2=>tx σ H2 fun z H3=>∃o,DGet H3 a y o/\Q (o.getD z) H3
section
variable{X:Cx}{o e f:Expr}{apos cpos:Pos}{td ty tx:TE}
theorem zJX(hu:X.A.units+1<cLine)(ho:PE X o td)(he:PE X e ty)(hf:PE X f tx)(m:M2 X o "get" apos e f cpos):PE X (.Call (.Attribute o "get" apos) [e,f] [] cpos) (tDGet2 td ty tx):=by
 intro pins s σ H Q I h
 refine wpAny_Call_method m.base m.few m.line PySem.F.plainAttrs_dict PySem.F.slot_dict_get PySem.F.type_dict_get (thn (ho pins s σ H _ I h) fun u s1 ⟨x,H1,I1,rx,a,ex,d,q1⟩=>?_)
 subst ex
 obtain rfl:u=Value.ref a:=rx
 obtain⟨t1,t2,_⟩:=zKU I1 d
 refine⟨t1,t2,?_⟩
 rw[m.trees]
 refine Calls.callWith_builtin rfl (Calls.evalArgs_plain (Calls.spliced_cons (thn (he pins s1 σ H1 _ I1 q1) fun iv s2 ⟨y,H2,I2,ry,q2⟩=>
  Calls.spliced_cons (thn (hf pins s2 σ H2 _ I2 q2) fun fv s3 ⟨z,H3,I3,rz,ov,g,q3⟩=>Calls.spliced_nil ?_))))
 exact zNY hu I3 g ry rz fun w' s4 I4 rw'=>⟨_,H3,I4,rw',q3⟩
end
section
variable{X:Cx}{pins:List (Addr×Obj)}{σ:St}{H:Hp}{s:Shared}{a:Addr}{kvs:List (Key×V)}{A:Around}{E:Value->Shared->Prop}
end
section
variable{X:Cx}{pins:List (Addr×Obj)}{σ:St}{H:Hp}{s:Shared}{a:Addr}{y:V}{u:Value}{A:Around}{E:Value->Shared->Prop}
end
section
variable{κ:Type}[DecidableEq κ]
end
inductive Sc:V->PyData->Prop
 |non:Sc .non .none
 |bl (b:Bool):Sc (.bl b) (.bool b)
 |int (i:Int):Sc (.int i) (.int i)
 |str (x:Str):Sc (.str x) (.str x)
def Sck(p:Key×V)(q:PyData×PyData):Prop:=Sc (kV p.1) q.1/\Sc p.2 q.2
theorem Sc.reads{x:V}{d:PyData}{u:Value}{h:Heap}(c:Sc x d)(r:RelV x u):Reads h u d []:=by
 cases c with
 |non=>obtain rfl:u=Value.none:=r;exact .none
 |bl b=>obtain rfl:u=Value.bool b:=r;exact .bool b
 |int i=>obtain⟨t,rfl⟩:=r;exact .int i t
 |str x=>obtain⟨t,rfl⟩:=r;exact .str x t
theorem zLm{P:Program}{w:World}{k:Key}{u:Value}(h:(mixKind P w).is k u=true):RelV (kV k) u:=by
 rcases zAc h with⟨i,t,rfl,rfl⟩|⟨x,t,rfl,rfl⟩<;>exact⟨t,rfl⟩
section
variable{X:Cx}{pins:List (Addr×Obj)}{σ:St}{H:Hp}{s:Shared}
theorem zDD{P:Program}{w:World}{h:Heap}:∀ {es:List DictEntry} {vs:List (Key×Value)} {kvs:List (Key×V)} {ds:List (PyData×PyData)},Pairs (mixKind P w) es vs->KV kvs vs->Paired Sck kvs ds->
 ReadsAll h (es.map (·.key)) (ds.map (·.1)) []/\ReadsAll h (es.map (·.val)) (ds.map (·.2)) []
 |[],_,_,_, .nil, .nil, .nil=>⟨.nil, .nil⟩
 |_::_,_::_,_::_,_::_, .cons hk hv pr, .cons r rr, .cons c cr=>by
  obtain⟨i1,i2⟩:=zDD (h:=h) pr rr cr
  obtain⟨rk,rv⟩:=r
  rw[<-rk]at hk
  constructor
  ·have:=ReadsAll.cons (c.1.reads (h:=h) (zLm hk)) i1
   simpa using this
  ·have:=ReadsAll.cons (c.2.reads (h:=h) (hv▸rv)) i2
   simpa using this
end
def ShOk(d:PyData):Prop:=d.showable=true/\d.shown.length<=sizeLine/\d.depth<=20
theorem zHU:∀ (ts:List Str) (k:Nat) (acc:Str),(textFrom k acc ts).length<=acc.length+piled ts
 |[],_,acc=>by rw[piled_nil];exact Nat.le_refl _
 |t::ts,k,acc=>by
  rw[textFrom,piled_cons]
  refine Nat.le_trans (zHU ts (k+1) _) ?_
  rw[strLen_append,strLen_append]
  have:(Str.ofString (if k>0 then", " else"")).length<=2:=by split<;>decide
  omega
def Low(a:List Nat):Prop:=∀c∈a,c<16^8
theorem zLL{a:List Nat}(h:Low a):(reprText ⟨a.toArray⟩).length<=10*a.length+2:=by
 have:=StrLaws.reprText_len ⟨a.toArray⟩ (fun c hc=>h c (by simpa using hc))
 simpa[Str.length]using this
theorem zDE{α β:Type}{F:α->β->Prop}:∀ {l:List α} {m:List β},l.length=m.length->(∀ (i:Nat) x u,l[i]? =some x->m[i]? =some u->F x u)->Paired F l m
 |[],[],_,_=> .nil
 |[],_::_,h,_=>by simp at h
 |_::_,[],h,_=>by simp at h
 |a::l,b::m,h,hf=> .cons (hf 0 a b rfl rfl) (zDE (by simpa using h) fun i x u h1 h2=>hf (i+1) x u (by simpa using h1) (by simpa using h2))
section
variable{X:Cx}
def rListS:List V->Hp->VK->Prop:=fun xs H Q=>∃a,xs=[tx a]/\a.length<=1000/\∀l,H l=none->Q (.ref l) (upd H l (.lst ((a.map fun c=>[c]).map tx)))
theorem zHG(K:PySem.W.Frag)(hc:X.calm=true):CallR X (.type "list") rListS:=by
 intro pins s σ H xs us Q I r h
 obtain⟨a,rfl,ha,q⟩:=h
 obtain⟨u,rfl,rx⟩:=vals1 r
 obtain⟨t,rfl⟩:=rx
 refine PySem.call_list_str (I.ok.hd hc) _ t (fun h' tk acc' c' hk e it=>?_) (by rw[sizeLine_eq];show a.toArray.size<=_;rw[List.size_toArray];omega)
 obtain⟨hsz,hit⟩:=it
 have hsz':acc'.size=a.length:=by rw[hsz];simp
 have hv:Vals ((a.map fun c=>[c]).map tx) acc'.toList:=by
  refine zDE ?_ fun i x u hx hu=>?_
  ·simp[hsz']
  ·have hu':acc'[i]? =some u:=by simpa using hu
   obtain⟨c,t',e1,rfl⟩:=hit i u hu'
   have e2:a[i]? =some c:=by simpa using e1
   rw[List.map_map,List.getElem?_map,e2]at hx
   cases hx
   exact⟨t',rfl⟩
 refine⟨.ref s.heap.objs.size,_,I.laid (t':=tk) (o:= .lst ((a.map fun c=>[c]).map tx)) hk (Nat.le_refl _) ⟨?_,acc'.toList,c',hv,by simpa using e⟩,rfl,q _ (I.hok.fresh (Nat.le_refl _))⟩
 rw[List.length_map,List.length_map,sizeLine_eq];omega
end
inductive PSb (X:Cx) (st:Stmt) (t:TS):Prop
 |mk (h:PS X st t):PSb X st t
theorem PSb.ps{X:Cx}{st:Stmt}{t:TS}(h:PSb X st t):PS X st t:=h.casesOn fun h=>h
inductive PEb (X:Cx) (e:Expr) (t:TE):Prop
 |mk (h:PE X e t):PEb X e t
theorem PEb.pe{X:Cx}{e:Expr}{t:TE}(h:PEb X e t):PE X e t:=h.casesOn fun h=>h
end L2
namespace BrM
open L2 PySem
theorem zK2{H:Hp}{Q:VK}{a:List Nat}(ha:a.length<=1000)(q:∀l,H l=none->Q (.ref l) (upd H l (.lst ((a.map fun c=>[c]).map tx)))):rListS [tx a] H Q:=⟨a,rfl,ha,q⟩
def Fine(a:List Nat):Prop:=Low a/\a.length<=1000
inductive Th (p:Addr) (H:Hp):V->Prop
 |txt (a:List Nat) (h:Fine a):Th p H (tx a)
 |non:Th p H .non
 |int (i:Int) (h:i=0\/i=7):Th p H (.int i)
 |bl (b:Bool):Th p H (.bl b)
 |lst {q:Addr} {l:List (List Nat)} (h:H q=some (.lst (l.map tx))) (n:q≠p) (f:∀a∈l,Fine a) (z:l.length<=1100):Th p H (.ref q)
 |tup {q:Addr} {l:List (List Nat)} (h:H q=some (.tup (l.map tx))) (n:q≠p) (f:∀a∈l,Fine a) (z:l.length<=1):Th p H (.ref q)
 |dc0 {q:Addr} (h:H q=some (.dK [])) (n:q≠p):Th p H (.ref q)
 |dc1 {q:Addr} {a:List Nat} (h:H q=some (.dK [(.inr ⟨a.toArray⟩, .int 1)])) (n:q≠p) (f:Fine a):Th p H (.ref q)
theorem Th.keep{p:Addr}{H H':Hp}{v:V}(t:Th p H v)(s:SameBut1 p H H'):Th p H' v:=by
 cases t with
 |txt a h=>exact .txt a h
 |non=>exact .non
 |int i h=>exact .int i h
 |bl b=>exact .bl b
 |lst h n f z=>exact .lst (s _ _ h n) n f z
 |tup h n f z=>exact .tup (s _ _ h n) n f z
 |dc0 h n=>exact .dc0 (s _ _ h n) n
 |dc1 h n f=>exact .dc1 (s _ _ h n) n f
theorem Th.kind{K:PySem.W.Frag}{p:Addr}{H:Hp}{v:V}(t:Th p H v):(∃a,v=tx a/\Fine a)\/∃T,TyOf K H v (.type T)/\T∈plainTy/\T≠"str":=by
 cases t with
 |txt a h=>exact .inl ⟨a,rfl,h⟩
 |non=>exact .inr ⟨_, .non,by decide,by decide⟩
 |int i h=>exact .inr ⟨_, .int i,by decide,by decide⟩
 |bl b=>exact .inr ⟨_, .bl b,by decide,by decide⟩
 |lst h n f z=>exact .inr ⟨_, .lst h,by decide,by decide⟩
 |tup h n f z=>exact .inr ⟨_, .tup h,by decide,by decide⟩
 |dc0 h n=>exact .inr ⟨_, .dK h,by decide,by decide⟩
 |dc1 h n f=>exact .inr ⟨_, .dK h,by decide,by decide⟩
def Nw(H:Hp)(v:V):Prop:=∀q,v= .ref q->H q=none
theorem Th.upd{p D:Addr}{H:Hp}{v:V}{o:HO}(t:Th p H v)(n:v≠ .ref D):Th p (upd H D o) v:=by
 cases t with
 |txt a h=>exact .txt a h
 |non=>exact .non
 |int i h=>exact .int i h
 |bl b=>exact .bl b
 |lst h m f z=>exact .lst (by rw[zAG (fun e=>n (by rw[e]))];exact h) m f z
 |tup h m f z=>exact .tup (by rw[zAG (fun e=>n (by rw[e]))];exact h) m f z
 |dc0 h m=>exact .dc0 (by rw[zAG (fun e=>n (by rw[e]))];exact h) m
 |dc1 h m f=>exact .dc1 (by rw[zAG (fun e=>n (by rw[e]))];exact h) m f
theorem zKv{k:Int}{c:Nat}(h1:1<=k)(h4:k<=4):c∈sgs k↔c∈sgn k:=by
 refine⟨zKu h1 h4,fun h=>?_⟩
 have hk:k=1\/k=2\/k=3\/k=4:=by omega
 rcases hk with rfl|rfl|rfl|rfl
 ·exact(show∀c∈sgn 1,c∈sgs 1 by decide) c h
 ·exact(show∀c∈sgn 2,c∈sgs 2 by decide) c h
 ·exact(show∀c∈sgn 3,c∈sgs 3 by decide) c h
 ·exact(show∀c∈sgn 4,c∈sgs 4 by decide) c h
theorem all_cons{p:Addr}{H:Hp}{x:V}{l:List V}(h1:Th p H x)(h2:∀v∈l,Th p H v):∀v∈x::l,Th p H v:=fun v hv=>(List.mem_cons.mp hv).elim (fun e=>e▸h1) (h2 v)
end BrM
namespace L2
open PySem PySem.Spec PyProof.Rows
abbrev veTail:List Value:=[.type "ValueError", .type "Exception", .type "BaseException", .type "object"]
structure ECls (K:PySem.W.Frag) (C:Addr):Prop where
 ex:PySem.W.excIn K C veTail "ValueError.__new__"=true
 ty:PySem.W.typeIn K (.ref C)=some (.type "type")
 cs:∃cd,PySem.W.clsIn K C=some cd
 bs:PySem.W.mroIn K C (.type "BaseException")=some true
 ob:PySem.W.mroIn K C (.type "object")=some true
 ga:PySem.W.findIn K (.ref C) "__getattribute__"=some (some (.builtin "BaseException.__getattribute__"))
 gk:PySem.W.findIn K (.ref C) "__getattr__"=some none
 ca:PySem.W.findIn K (.ref C) "__class__"=some (some (.builtin "object.__class__"))
 cn:PySem.W.specialIn K (.builtin "object.__class__") "__get__"=some (some (.builtin "getset_descriptor.__get__"))
 ct:PySem.W.takesIn K (.builtin "object.__class__")=some true
def ExcAt(x C:Addr)(h:Heap):Prop:=∃o vs,h.get? x=some o/\o.cls= .ref C/\o.data= .fields vs
theorem ExcAt.type{x C:Addr}{h:Heap}{M:Model}(e:ExcAt x C h):PySem.W.Looks M h (typeOf (.ref x)) (.ref C):=by
 obtain⟨o,vs,h1,h2,_⟩:=e
 exact h2▸(PySem.W.Looks.ld h1).andThen .now
section
variable{prog:Program}{w:World}{A:Around}{E:Value->Shared->Prop}{s:Shared}{K:PySem.W.Frag}{x C:Addr}
open Builtin Builtin.ObjectAttr Builtin.Getset_descriptor in
theorem zNS{R:Result->Shared->Prop}{tp:Value}(Z:ECls K C)(X:K.In s.heap)(e:ExcAt x C s.heap)(h:R (.ok (.ret (.ref C))) s):
 codeAny (model prog w) A (.call (.builtin "getset_descriptor.__get__") ⟨[.builtin "object.__class__", .ref x,tp],[]⟩) R s:=by
 obtain⟨hp,gn,dr,tk,os⟩:=s
 have La:=e.type (M:=model prog w);have Lb:=PySem.W.looks_mroIn (M:=model prog w) X Z.ob
 refine codeAny_call_builtin PySem.W.KF.slot_gs.plain PySem.W.KF.entry_gs (PySem.W.KF.slot_gs.check _ _ _ _ _ _ _ _ PySem.W.KF.type_class (PySem.W.KF.args_gs _ _ _) ?_)
 unfold Builtin.«getset_descriptor.__get__» descrGet;rw[PySem.W.dga_obj];refine wpAny_bind (wpAny_pure ?_)
 unfold descrGetter descrCheckInstance descrNameAndClass isInstance;simp only[PySem.W.KF.owner_class];repeat lk
 refine⟨Code.quiet_builtin _ (by decide +kernel),codeAny_builtin PySem.W.KF.entry_class ?_⟩;unfold Builtin.«object.__class__» shownTypeOf;repeat lk
 exact h
open Builtin Builtin.ObjectAttr in
theorem zJt{M:Model}{h:Heap}(Z:ECls K C)(X:K.In h):PySem.W.Looks M h (find (.ref x) (.ref C) "__class__") (.bind (.builtin "getset_descriptor.__get__") (.builtin "object.__class__")):=by
 have L1:=PySem.W.looks_findIn (M:=M) X Z.ca
 have L2:PySem.W.Looks M h (getOf (some (.builtin "object.__class__"))) (some (.builtin "getset_descriptor.__get__")):=PySem.W.looks_specialIn X Z.cn
 have L3:=PySem.W.looks_takesIn (M:=M) X Z.ct
 refine L1.andThen (L2.andThen ?_)
 exact(show PySem.W.Looks M h (dataDescriptor? (some (.builtin "object.__class__")) (some (.builtin "getset_descriptor.__get__"))) (some (_,_))from L3.andThen .now).andThen (PySem.W.Looks.tag .now)
theorem zNT{h:Heap}{g:Array GenState}{d:Drawn}{t:Nat}{os:OsState}{tk:Tok}{R:Result->Shared->Prop}(Z:ECls K C)(X:K.In h)(e:ExcAt x C h)(hq:R (.ok (.ret (.ref C))) ⟨h,g,d,t,os⟩):
 codeAny (model prog w) A (.call (.builtin "BaseException.__getattribute__") ⟨[.ref x, .str "__class__" tk],[]⟩) R ⟨h,g,d,t,os⟩:=by
 have L0:=e.type (M:=model prog w)
 have L1:=zJt (x:=x) (M:=model prog w) Z X
 have L2:=PySem.W.looks_mroIn (M:=model prog w) X Z.bs
 have hk:builtinKind "BaseException.__getattribute__"=some .slot:=by decide +kernel
 have hsplit:splitId "BaseException.__getattribute__"=some ("BaseException","__getattribute__"):=by decide +kernel
 have ha:=F.args_bexc_ga (.ref x) (.str "__class__" tk)
 refine codeAny_call_builtin F.attr_ValueError.ga.plain F.entry_bexc_ga ?_
 simp only[checkBuiltinCall,hk,hsplit]
 refine wpAny_bind ?_
 unfold isInstance
 refine wpAny_bind (L0.at (L2.at ?_))
 simp only[Bool.not_true,Bool.false_eq_true,if_false]
 have body:wpAny (model prog w) A.in1 (Builtin.«object.__getattribute__» ⟨[.ref x, .str "__class__" tk],[]⟩) (fun fin s'=>match fin with| .done f=>R (.ok f) s'| .again c'=>c'.quiet=true/\codeAny (model prog w) A c' R s')
  (fun e s'=>R (.error e) s') ⟨h,g,d,t,os⟩:=by
  refine wpAny_bind (wpAny_pure (wpAny_bind (wpAny_pure (wpAny_bind (L0.at (wpAny_bind (L1.at ?_)))))))
  show wpAny _ _ (holding [_] (call (.builtin "getset_descriptor.__get__") [.builtin "object.__class__", .ref x, .ref C])>>=ret) _ _ _
  exact wpAny_bind (wpAny_holding (wpAny_call (zNS (s:=⟨h,g,d,t,os⟩) Z X e (wpAny_pure hq))))
 repeat(any_goals(first|assumption|wp_step))
theorem zIb{Q:Option Value->Shared->Prop}(Z:ECls K C)(X:K.In s.heap)(e:ExcAt x C s.heap)(h:Q (some (.ref C)) {s with toks:=s.toks+1}):wpAny (model prog w) A (getAttr? (.ref x) "__class__") Q E s:=by
 obtain⟨hh,g,d,t,os⟩:=s
 have L0:=e.type (M:=model prog w)
 have L1:=PySem.W.looks_findIn (M:=model prog w) X Z.ga
 have L2:=PySem.W.looks_findIn (M:=model prog w) X Z.gk
 have hb:=F.attr_ValueError.ga.bind (.ref x)
 have hx2:(Value.builtin "BaseException.__getattribute__"==Value.builtin "object.__getattribute__")=false:=by decide +kernel
 unfold getAttr? getAttrBy? getAttrBy
 refine wpAny_bind (wpAny_mkText (wpAny_bind (wpAny_attempt (wpAny_holding (wpAny_bind (L0.at (wpAny_bind (L1.at ?_))))))))
 dsimp only
 rw[if_neg (by rw[hx2];simp)]
 unfold getAttrByItsOwn hookBefore callGetattribute boundAndCalled
 refine wpAny_bind (L2.at (wpAny_bind (wpAny_attempt (wpAny_holding ?_))))
 rw[if_neg (by simp)]
 rw[hb]
 refine wpAny_bind (wpAny_pure (wpAny_call (zNT Z X e ?_)))
 exact PySem.W.handed_on rfl (wpAny_pure h)
theorem zEL(Z:ECls K C):PySem.W.KitX K (.ref x) (.ref C) (ExcAt x C) where
 ty:=fun _ _ _ e=>e.type
 it:=fun _ _ X _=>by
  obtain⟨cd,hcd⟩:=Z.cs
  unfold PySem.W.clsIn at hcd
  split at hcd
  ·rename_i ho
   intro A' Q' E' s' k q
   unfold isType loadHead
   exact wpAny_bind (wpAny_loadPart (k _ _ (X _ _ ho)) (wpAny_pure q))
  ·cases hcd
 ne:=fun h tp dd its n sl X htp=>by
  obtain⟨cd,hcd⟩:=Z.cs
  refine Bool.eq_false_iff.mpr fun q=>?_
  have e:C=tp:=Value.ref.inj (beq_iff_eq.mp q)
  subst e
  unfold PySem.W.clsIn at hcd
  split at hcd
  ·rename_i ho
   exact nomatch (X _ _ ho).symm.trans htp
  ·cases hcd
 ca:=fun X e k=>zIb Z X e k
end
def excO(ob:Obj)(x C:Addr):HO:= .frz ob (.ext (ExcAt x C))
theorem ObjOk.here{P:Program}{w:World}{H:Hp}{h:Heap}{a:Addr}{o:HO}(x:ObjOk P w H h a o):∃ob,h.get? a=some ob:=by
 cases o with
 |lst xs=>obtain⟨_,_,_,_,e⟩:=x;exact⟨_,e⟩
 |tup xs=>obtain⟨_,_,_,_,e,_⟩:=x;exact⟨_,e⟩
 |dK kvs=>obtain⟨_,_,_,_,_,_,_,e,_⟩:=x;exact⟨_,e⟩
 |dT kvs=>obtain⟨_,_,_,_,_,_,_,e,_⟩:=x;exact⟨_,e⟩
 |set S n=>obtain⟨_,_,_,_,e,_⟩:=x;exact⟨_,e⟩
 |ins C dx fs=>obtain⟨_,_,_,e,_⟩:=x;exact⟨_,e⟩
 |own y=>exact x
 |xd fs=>obtain⟨_,⟨_,_,_,e,_⟩,_⟩:=x;exact⟨_,e⟩
 |rng lo hi=>obtain⟨_,_,_,e⟩:=x;exact⟨_,e⟩
 |frz ob u=>obtain⟨e,_⟩:=x;exact⟨_,e⟩
 |tbl ps=>exact⟨_,(show h.get? a=some _ from x)⟩
 |met f y=>exact⟨_,(show h.get? a=some _ from x)⟩
 |ext φ=>obtain⟨_,e,_⟩:=x;exact e
theorem zNR{P:Program}{w:World}{H:Hp}{h:Heap}{x C:Addr}{ob:Obj}(g:h.get? x=some ob)(e:ExcAt x C h):ObjOk P w H h x (excO ob x C):=by
 refine⟨g,e,?_,fun h1 h2 p k=>?_⟩
 ·obtain⟨o,_,q,_⟩:=e
  exact⟨o,q⟩
 ·obtain⟨o,vs,q1,q2⟩:=p
  exact⟨o,vs,k _ q1,q2⟩
structure Aloft (P:Program) (w:World) (l:List Env) (H:Hp) (h:Heap) (x C:Addr) (a0:Value) (H':Hp) (B h':Heap):Prop where
 un:Un (frs l) [] H H' h h'
 ok:HOk P w H' B
 stay:∀b o,h.get? b=some o->H b=none->b∉frs l->B.get? b=some o
 here:∀b o,h.get? b=some o->b∉frs l->∃o',B.get? b=some o'
 fl:Heap.FlyingW B l x (.ref C) a0 h'
def CXE(P:Program)(w:World):CXT:=fun outer H s E e s'=>∃ (x C:Addr) (a0:Value) (H':Hp) (B:Heap),e= .ref x/\s'.os=s.os/\AllBare s'.gens/\Aloft P w outer H s.heap x C a0 H' B s'.heap/\E (.ref C) (some x) H'
abbrev XR:=Addr->Addr->St->Hp->Prop
def xk(R:XR)(σ:St):XK:=fun c xo H'=>∃C x,c= .ref C/\xo=some x/\R C x σ H'
def XF(X:Cx)(R:XR)(e:Value)(s':Shared):Prop:=∃ (pins:List (Addr×Obj)) (σ:St) (H:Hp) (s:Shared),Inv X pins σ H s/\CXE X.prog X.w X.stack H s (xk R σ) e s'
def XM(X:Cx)(R:XR)(e:Value)(s':Shared):Prop:=∃ (pins:List (Addr×Obj)) (σ:St) (H:Hp) (s:Shared) (x C:Addr) (args:List Value),e= .ref x/\Inv X pins σ H s/\Heap.MadeExcOf s.heap s'.heap x (.ref C) args/\
 s'.os=s.os/\AllBare s'.gens/\R C x σ H
section
variable{P:Program}{w:World}{l:List Env}{H H':Hp}{h h' h2 B:Heap}{x C:Addr}{a0:Value}
theorem Aloft.newx(q:Aloft P w l H h x C a0 H' B h'):h.get? x=none:=by
 cases e:h.get? x with
 |none=>rfl
 |some o=>
  by_cases hm:x∈frs l
  ·obtain⟨_,o',h1,h2⟩:=q.fl.2.2.1.mem hm
   obtain⟨oe,vs,h3,_,h4,_⟩:=q.fl.first
   rw[h1]at h3;cases h3
   exact absurd h4 (h2 vs)
  ·obtain⟨o',h1⟩:=q.here x o e hm
   rw[q.fl.2.1]at h1;cases h1
theorem Aloft.nox(q:Aloft P w l H h x C a0 H' B h'):H' x=none:=by
 cases e:H' x with
 |none=>rfl
 |some o=>
  obtain⟨ob,h1⟩:=(q.ok x o e).here
  rw[q.fl.2.1]at h1;cases h1
theorem Aloft.on(q:Aloft P w l H h x C a0 H' B h')(up:h'.UpToSlots h2)(fl:Heap.FlyingW B l x (.ref C) a0 h2)(fr:∀b∈frs l,H b=none):Aloft P w l H h x C a0 H' B h2 where
 ok:=q.ok
 stay:=q.stay
 here:=q.here
 fl:=fl
 un:={
  keep:=fun b o e n hb _=>fl.1 b o (q.stay b o e n hb)
  slot:=fun b o e n hb hx=>by
   obtain⟨sl,e1⟩:=q.un.slot b o e n hb hx
   obtain⟨_,o1,e2,nf⟩:=q.fl.2.2.1.mem hb
   rw[e1]at e2;cases e2
   obtain⟨sl2,e3⟩:=up b _ e1 nf
   exact⟨sl2,e3⟩
  free:=q.un.free
  there:=fun b o e hx=>by
   by_cases hb:b∈frs l
   ·obtain⟨sl,e1⟩:=q.un.slot b o e (fr b hb) hb hx
    obtain⟨_,o1,e2,nf⟩:=q.fl.2.2.1.mem hb
    rw[e1]at e2;cases e2
    obtain⟨sl2,e3⟩:=up b _ e1 nf
    exact⟨_,e3⟩
   ·obtain⟨o',e1⟩:=q.here b o e hb
    exact⟨o',fl.1 b o' e1⟩
  tups:=q.un.tups
  frzs:=q.un.frzs
  tbls:=q.un.tbls}
theorem Aloft.caught(q:Aloft P w l H h x C a0 H' B h'):∃ob,Un (frs l) [] H (upd H' x (excO ob x C)) h h'/\HOk P w (upd H' x (excO ob x C)) h':=by
 have nx:=q.newx
 have n':=q.nox
 have bgB:∃b o,1<b/\h'.get? b=some o:=by
  obtain⟨b,o,l,e⟩:=q.ok.bg
  exact⟨b,o,l,q.fl.1 _ _ e⟩
 obtain⟨oe,vs,g1,g2,g3,_⟩:=q.fl.first
 refine⟨oe,⟨q.un.keep,q.un.slot,fun b o e n hx=>?_,q.un.there,fun b xs e=>?_,fun b o u e=>?_,fun b ps e=>?_⟩,⟨fun b u e=>?_,fun u e=>?_,bgB⟩⟩
 ·rw[zAG (fun z=>by rw[z,nx]at e;cases e)]
  exact q.un.free b o e n hx
 ·have e':=q.un.tups b xs e
  rw[zAG (zAE e' n')];exact e'
 ·have e':=q.un.frzs b o u e
  rw[zAG (zAE e' n')];exact e'
 ·obtain⟨more,e'⟩:=q.un.tbls b ps e
  exact⟨more,by rw[zAG (zAE e' n')];exact e'⟩
 ·by_cases hb:b=x
  ·subst hb
   rw[zAC]at e;cases e
   exact zNR g1 ⟨oe,vs,g1,g2,g3⟩
  ·rw[zAG hb]at e
   exact(q.ok b u e).stay (fun c v _ r=>q.fl.1 c v r) (fun c r=>by rw[zAG (zAE r n')];exact r) fun c xs r=>by rw[zAG (zAE r n')];exact r
 ·by_cases hb:sysModules=x
  ·rw[hb,zAC]at e;cases e;exact⟨_,_,rfl⟩
  ·rw[zAG hb]at e;exact q.ok.sm u e
end
section
variable{X:Cx}{R:XR}{e:Value}{s':Shared}
structure Cx.Top (X:Cx):Prop where
 stk:X.stack=X.env::X.outer
 fr:X.env.frame=some X.env.locals
 ex:X.ex=[]
theorem Inv.old{pins:List (Addr×Obj)}{σ:St}{H:Hp}{s:Shared}(I:Inv X pins σ H s){b:Addr}{o:Obj}(e:X.s₀.heap.get? b=some o)(hb:b∉X.fs):b∉frs X.stack:=fun z=>by
 rcases List.mem_cons.mp (I.stkSub b z)with q|q
 ·exact absurd (Heap.lt_size e) (by rw[q];exact Nat.not_lt.mpr I.ok.above)
 ·exact hb q
theorem Inv.oldfs{pins:List (Addr×Obj)}{σ:St}{H:Hp}{s:Shared}(T:X.Top){b:Addr}(hb:b∈X.fs):b∈frs X.stack:=by
 rw[T.stk]
 unfold frs
 rw[List.filterMap_cons,T.fr]
 exact List.mem_cons_of_mem _ hb
theorem Aloft.leave{pins:List (Addr×Obj)}{σ:St}{H H':Hp}{s:Shared}{x C:Addr}{a0:Value}{B h1 h':Heap}(T:X.Top)(I:Inv X pins σ H s)(q:Aloft X.prog X.w X.stack H s.heap x C a0 H' B h1)
 (up:h1.UpToSlots h') (fl:Heap.FlyingW B X.outer x (.ref C) a0 h'):Aloft X.prog X.w X.outer X.H₀ X.s₀.heap x C a0 H' B h':=by
 have nex:∀b:Addr,b∉X.ex:=fun b=>by rw[T.ex];simp
 have stay:∀b o,X.s₀.heap.get? b=some o->X.H₀ b=none->b∉X.fs->B.get? b=some o:=fun b o e n hb=>q.stay b o (I.base.keep b o e n hb (nex b)) (I.base.free b o e n (nex b)) (I.old e hb)
 have here:∀b o,X.s₀.heap.get? b=some o->b∉X.fs->∃o',B.get? b=some o':=fun b o e hb=>by
  obtain⟨o1,e1⟩:=I.base.there b o e (nex b)
  exact q.here b o1 e1 (I.old e hb)
 have slot:∀b o,X.s₀.heap.get? b=some o->X.H₀ b=none->b∈X.fs->∃sl,h'.get? b=some {o with slots:=sl}:=fun b o e n hb=>by
  obtain⟨sl,e1⟩:=I.base.slot b o e n hb (nex b)
  obtain⟨sl2,e2⟩:=q.un.any e1 (I.base.free b o e n (nex b)) (by simp)
  obtain⟨_,o3,e3,nf⟩:=q.fl.2.2.1.mem (Inv.oldfs (pins:=pins) (σ:=σ) (H:=H) (s:=s) T hb)
  rw[e2]at e3;cases e3
  obtain⟨sl4,e4⟩:=up b _ e2 nf
  exact⟨sl4,e4⟩
 refine⟨⟨fun b o e n hb _=>fl.1 b o (stay b o e n hb),fun b o e n hb _=>slot b o e n hb,fun b o e n _=>?_,fun b o e _=>?_,fun b xs e=>q.un.tups b xs (I.base.tups b xs e),fun b o u e=>q.un.frzs b o u (I.base.frzs b o u e),fun b ps e=>?_⟩,q.ok,stay,here,fl⟩
 ·have n1:=I.base.free b o e n (nex b)
  obtain⟨o1,e1⟩:=I.base.there b o e (nex b)
  exact q.un.free b o1 e1 n1 (by simp)
 ·by_cases hb:b∈X.fs
  ·obtain⟨sl,e1⟩:=slot b o e (I.ok.frf b hb) hb
   exact⟨_,e1⟩
  ·obtain⟨o1,e1⟩:=here b o e hb
   exact⟨o1,fl.1 b o1 e1⟩
 ·obtain⟨m1,e1⟩:=I.base.tbls b ps e
  obtain⟨m2,e2⟩:=q.un.tbls b _ e1
  exact⟨m1++m2,by rw[e2,Array.append_assoc]⟩
theorem Inv.aloft{pins:List (Addr×Obj)}{σ:St}{H:Hp}{s:Shared}(I:Inv X pins σ H s):HOk X.prog X.w H (PySem.W.hideAll s.heap (frs X.stack)):=by
 refine⟨?_,I.hok.sm,?_⟩
 rotate_left
 ·obtain⟨o,_,_,e,_⟩:=I.ok.mod.glob
  refine⟨mainGlobals,o,by decide,PySem.W.hideAll_get _ (I.bk _ _ e) fun z=>?_⟩
  rw[(I.stack.mem z).1]at e;cases e
 exact fun a o q=>(I.hok a o q).stay (fun b u hb e=>PySem.W.hideAll_get _ e fun z=>by
  have n:=I.stkFree b z
  rcases hb with rfl|hb
  ·rw[q]at n;cases n
  ·rw[hb]at n;cases n) (fun _ z=>z) fun _ _ z=>z
theorem zHM{E':Value->Shared->Prop}(T:X.Top)(h:XF X R e s'):
 wpAny (model X.prog X.w) X.A (leaving X.env e) (fun _ s2=>CXE X.prog X.w X.outer X.H₀ X.s₀ (fun c xo H'=>∃C x σ,c= .ref C/\xo=some x/\R C x σ H') e s2) E' s':=by
 obtain⟨pins,σ,H,s,I,x,C,a0,H',B,rfl,os,bare,q,C',x',e1,e2,r⟩:=h
 refine wpAny_leaves_onW (by rw[I.ok.frames,T.stk]) T.fr (by rw[<-T.stk];exact q.fl) fun h' fl up=>?_
 exact⟨x,_,a0,H',B,rfl,os.trans I.os,bare,q.leave T I up fl,C',x',σ,e1,e2,r⟩
theorem zHL{E':Value->Shared->Prop}(T:X.Top)(h:XM X R e s'):
 wpAny (model X.prog X.w) X.A (leaving X.env e) (fun _ s2=>CXE X.prog X.w X.outer X.H₀ X.s₀ (fun c xo H'=>∃C x σ,c= .ref C/\xo=some x/\R C x σ H') e s2) E' s':=by
 obtain⟨pins,σ,H,s,x,C,args,rfl,I,mk,os,bare,r⟩:=h
 have nex:∀b:Addr,b∉X.ex:=fun b=>by rw[T.ex];simp
 have hin:∀env∈(X.env::X.outer),∀b,env.frame=some b->b∈frs X.stack:=fun env he b hb=>by rw[T.stk];exact List.mem_filterMap.mpr ⟨env,he,hb⟩
 refine wpAny_leaves_madeW (base:=PySem.W.hideAll s.heap (frs X.stack)) (h:=s.heap) (by rw[I.ok.frames,T.stk]) T.fr (fun b o q=>PySem.W.of_hideAll _ q) (PySem.W.funFrames_hide (by rw[<-T.stk];exact I.stack) hin) mk fun h' t fl _ _ up=>?_
 have stay:∀b o,X.s₀.heap.get? b=some o->X.H₀ b=none->b∉X.fs->(PySem.W.hideAll s.heap (frs X.stack)).get? b=some o:=fun b o e n hb=>PySem.W.hideAll_get _ (I.base.keep b o e n hb (nex b)) (I.old e hb)
 have here:∀b o,X.s₀.heap.get? b=some o->b∉X.fs->∃o',(PySem.W.hideAll s.heap (frs X.stack)).get? b=some o':=fun b o e hb=>by
  obtain⟨o1,e1⟩:=I.base.there b o e (nex b)
  exact⟨o1,PySem.W.hideAll_get _ e1 (I.old e hb)⟩
 have slot:∀b o,X.s₀.heap.get? b=some o->X.H₀ b=none->b∈X.fs->∃sl,h'.get? b=some {o with slots:=sl}:=fun b o e n hb=>by
  obtain⟨sl,e1⟩:=I.base.slot b o e n hb (nex b)
  obtain⟨_,o3,e3,nf⟩:=I.stack.mem (Inv.oldfs (pins:=pins) (σ:=σ) (H:=H) (s:=s) T hb)
  rw[e1]at e3;cases e3
  obtain⟨sl4,e4⟩:=up b _ (mk.keeps _ _ e1) nf
  exact⟨sl4,e4⟩
 refine⟨x,C,_,H,_,rfl,os.trans I.os,bare,⟨⟨fun b o e n hb _=>fl.1 b o (stay b o e n hb),fun b o e n hb _=>slot b o e n hb,fun b o e n _=>I.base.free b o e n (nex b),fun b o e _=>?_,I.base.tups,I.base.frzs,I.base.tbls⟩,I.aloft,stay,here,fl⟩,C,x,σ,rfl,rfl,r⟩
 by_cases hb:b∈X.fs
 ·obtain⟨sl,e1⟩:=slot b o e (I.ok.frf b hb) hb
  exact⟨_,e1⟩
 ·obtain⟨o1,e1⟩:=here b o e hb
  exact⟨o1,fl.1 b o1 e1⟩
end
theorem zLw{K:PySem.W.Frag}{h:Heap}{C:Addr}(X:K.In h)(q:PySem.W.excIn K C veTail "ValueError.__new__"=true):
 ∃bm N nm qn bs hdct sn sub ab col dd k0 k1 k2 k3 k5 mN,h.get? C=some (excClassObj nm qn C N bs bm hdct sn sub ab col dd k0 k1 k2 k3 k5 "ValueError.__new__")/\h.Ns N mN/\mN "__init__"=none/\OwnTail h veTail bm:=by
 unfold PySem.W.excIn at q
 split at q
 ·rename_i dd cd sl ho
  split at q
  ·rename_i C1 bm k0 k1 k2 k3 n k5 hm hs
   simp only[Bool.and_eq_true,beq_iff_eq,Bool.not_eq_true']at q
   obtain⟨⟨⟨⟨⟨rfl,rfl⟩,hdel⟩,ht⟩,hok⟩,hni⟩:=q
   obtain⟨nm,bs,mro,ns,qn,hd,sn,sub,ab,col,del⟩:=cd
   dsimp only at hm hdel hok hni;subst hm hdel
   obtain⟨sl⟩:=sl
   have e:sl=[k0,k1,k2,k3,some (.builtin "ValueError.__new__"),k5]:=hs
   subst e
   exact⟨bm,ns,nm,qn,bs,hd,sn,sub,ab,col,dd,k0,k1,k2,k3,k5,_,X _ _ ho, .of_isNs (PySem.W.isNs_of_in X hok),PySem.W.nsMap_none_of_in X hok hni,PySem.W.tail_of_in X ht⟩
  ·cases q
 ·cases q
section
variable{X:Cx}{R:XR}{C:Addr}{x:Str}{e:Expr}{es:List Expr}{t:TA}{np cpos pos p:Pos}
def tRaise(C:Addr)(R:XR)(t:TA):TS:=fun _ σ H=>t σ H fun vs H1=>vs.length<=sizeLine/\∀y,H1 y=none->R C y σ H1
theorem zCL(Z:ECls X.K C)(hm:X.mg x=some (.ref C))(hh:X.A.handled=none)(hx:∀e s',XM X R e s'->X.xe e s')(ha:PA X (e::es) t)(hg:Gl X x:=by rfl)(hd:(x==("__debug__":Str))=false:=by decide)
 (he:starEach (e::es) X.env=(false,eval e X.env)::starEach es X.env:=by rfl) (hpl:(backTo cpos (starEach es X.env)).any (·.1)=false:=by rfl):
 PS X (.Raise (some (.Call (.Name x np) (e::es) [] cpos)) none pos) (tRaise C R t):=by
 intro pins s σ H D I h
 obtain⟨bm,N,nm,qn,bs,hdct,sn,sub,ab,col,dd,k0,k1,k2,k3,k5,mN,hC,hN,hni,TL⟩:=zLw I.ok.mod.kin Z.ex
 refine wpAny_Raise_call_subU (C:=C) (nm:=nm) (q:=qn) (N:=N) (bs:=bs) (bm:=bm) (hdct:=hdct) (sn:=sn) (sub:=sub) (ab:=ab) (col:=col) (dd:=dd) (k0:=k0) (k1:=k1) (k2:=k2) (k3:=k3) (k5:=k5)
  F.excBase_ValueError rfl F.excBase_ValueError (mN:=mN) (TL.hasType F.excBase_ValueError.hasBase) hh ?_ hni (zDJ I hg hm ⟨rfl,?_⟩ hd)
 ·rw[he];show(false||(backTo cpos (starEach es X.env)).any (·.1))=false;rw[hpl];rfl
 ·have w:=ha cpos pins s σ H _ I h
  rw[he]at w⊢
  refine Calls.evalArgs_plain (thn w fun us s2 ⟨vs,H1,I1,rv,hl,r⟩=>⟨rfl,by show us.length<=_;rw[<-rv.length];exact hl,I1.bk _ _ hC,hN.keeps I1.bk,TL.keeps I1.bk,fun h' y mk=>hx _ _ ?_⟩)
  refine⟨pins,σ,H1,s2,y,C,_,rfl,I1,mk,rfl,I1.bare,r y ?_⟩
  cases q:H1 y with
  |none=>rfl
  |some o=>
   obtain⟨ob,h1⟩:=(I1.hok y o q).here
   rw[mk.new]at h1;cases h1
structure FnUE (P:Program) (w:World) (K:PySem.W.Frag) (mg:Str->Option Value) (base:Heap) (k:Nat) (x:Str) (ps:List Str) (sp:Sp):Prop where
 ex:∃f fd,FnOk P w K mg base (CXE P w) k f fd ps sp/\mg x=some (.ref f)/\PySem.W.keepIn K (.ref f)=true/\Binds K fd ps []
theorem FnUE.mono{P:Program}{w:World}{K:PySem.W.Frag}{mg:Str->Option Value}{base:Heap}{j k:Nat}{ps:List Str}{sp:Sp}(U:FnUE P w K mg base j x ps sp)(h:j<=k):FnUE P w K mg base k x ps sp:=by
 obtain⟨f,fd,F,r⟩:=U.ex
 exact⟨f,fd,F.mono h,r⟩
def tCallE(sp:Sp)(R:XR)(t:TA):TE:=fun σ H Q=>t σ H fun vs H1=>sp vs H1 Q (xk R σ)
theorem zAw{k:Nat}{ps:List Str}{sp:Sp}(U:FnUE X.prog X.w X.K X.mg X.base k x ps sp)(hr:Room k X.A)(hx:∀e s',XF X R e s'->X.xe e s')(ha:PA X (e::es) t)(hg:Gl X x:=by rfl)
 (hdb:(x==("__debug__":Str))=false:=by decide) (he:starEach (e::es) X.env=(false,eval e X.env)::starEach es X.env:=by rfl) (hpl:(backTo pos (starEach es X.env)).any (·.1)=false:=by rfl):
 PE X (.Call (.Name x p) (e::es) [] pos) (tCallE sp R t):=by
 obtain⟨f,fd,F,hm,hk,hb⟩:=U.ex
 intro pins s σ H Q I h
 refine wpAny_Call_Name_kw (zDJ I hg hm ?_ hdb)
 refine PySem.W.callWith_K (h₀:=X.base) I.ok.mod.kin hk (thn (ha pos pins s σ H _ I h) fun us s1 ⟨vs,H1,I1,r,q⟩=>⟨I1.kIn,?_⟩) he hpl
 have hl:us.length=ps.length:=by rw[<-r.length];exact F.len _ _ _ _ q
 refine wpAny_call (codeAny_mono (F.run X.A X.stack s1 H1 ⟨us,[]⟩ us vs Q (xk R σ) hr I1.env0 ?_ r q) fun res s' hq=>?_)
 ·have z:=hb s1 us I1.kIn (by rw[List.append_nil];exact hl)
  rw[List.append_nil]at z;exact z
 ·cases res with
  |error ev=>exact hx _ _ ⟨pins,σ,H1,s1,I1,hq⟩
  |ok fl=>
   cases fl with
   |ret u=>exact I1.after hq
   |next=>exact False.elim hq
   |brk=>exact False.elim hq
   |cont=>exact False.elim hq
end
section
variable{P:Program}{w:World}{K:PySem.W.Frag}{mg:Str->Option Value}{base:Heap}
def rOf(E:XK):XR:=fun C x _ H'=>E (.ref C) (some x) H'
abbrev cxE(P:Program)(w:World)(K:PySem.W.Frag)(mg:Str->Option Value)(base:Heap)(N:List Str)(qual:Str)(st:Stmt)(f:Addr)(cdv:Value)(A:Around)(outer:List Env)(s:Shared)(H:Hp)(E:XK):Cx:=
 cxOf (CXE P w) P w K mg base N qual (defScope st) f cdv A outer s H E
theorem zIm{N:List Str}{qual:Str}{st:Stmt}{f:Addr}{cdv:Value}{A:Around}{outer:List Env}{s:Shared}{H:Hp}{E:XK}:(cxE P w K mg base N qual st f cdv A outer s H E).Top:=⟨rfl,rfl,rfl⟩
theorem zGe{l:List Env}{H:Hp}{s s':Shared}{E E':XK}{e:Value}(h:CXE P w l H s E e s')(k:∀c x H',E c x H'->E' c x H'):CXE P w l H s E' e s':=by
 obtain⟨x,C,a0,H',B,e1,e2,e3,q,r⟩:=h
 exact⟨x,C,a0,H',B,e1,e2,e3,q,k _ _ _ r⟩
theorem zB1{N:List Str}{qual:Str}{st:Stmt}{f:Addr}{cdv:Value}{A:Around}{outer:List Env}{s:Shared}{H:Hp}{E:XK}(e:Value)(s':Shared)
 (h:XF (cxE P w K mg base N qual st f cdv A outer s H E) (rOf E) e s'):(cxE P w K mg base N qual st f cdv A outer s H E).xe e s':=
 wpAny_mono (zHM (E':=fun _ _=>False) zIm h) (fun _ _ q=>zGe q fun c x H' ⟨C,y,σ,e1,e2,r⟩=>by subst e1;subst e2;exact r) fun _ _ z=>z.elim
theorem zFF{N:List Str}{qual:Str}{st:Stmt}{f:Addr}{cdv:Value}{A:Around}{outer:List Env}{s:Shared}{H:Hp}{E:XK}(e:Value)(s':Shared)
 (h:XM (cxE P w K mg base N qual st f cdv A outer s H E) (rOf E) e s'):(cxE P w K mg base N qual st f cdv A outer s H E).xe e s':=
 wpAny_mono (zHL (E':=fun _ _=>False) zIm h) (fun _ _ q=>zGe q fun c x H' ⟨C,y,σ,e1,e2,r⟩=>by subst e1;subst e2;exact r) fun _ _ z=>z.elim
theorem Fun.okE{x qual:Str}{st:Stmt}{f:Addr}{fd:FuncData}{N ps:List Str}{k:Nat}{sp:Sp}(F:Fun K x qual st f fd)(S:FnScope N ps (defScope st))(len:∀vs H Q E,sp vs H Q E->vs.length=ps.length)
 (hbody:∀ (cdv:Value) (A:Around) (outer:List Env) (s:Shared) (H:Hp) (vs:List V) (Q:VK) (E:XK),Room k (A.deeper (envOfC qual (defScope st) s.heap.objs.size f cdv))->sp vs H Q E->
   ∃t,PSs (cxE P w K mg base N qual st f cdv A outer s H E) (defBody st) t/\t {nx:=fun _ H'=>Q .non H',rt:=Q} (start N vs) H):FnOk P w K mg base (CXE P w) (k+1) f fd ps sp:=by
 obtain⟨oc,od,kV,doc,pm,an,cdv,ct,osl,rfl,lk,hcd⟩:=F.ex
 exact zNP lk hcd S len fun A outer s H vs Q E hr hsp=>hbody cdv A outer s H vs Q E hr hsp
theorem FnU.e{k:Nat}{x:Str}{ps:List Str}{sp:Sp}(U:FnU P w K mg base k x ps sp):FnUE P w K mg base k x ps sp:=by
 obtain⟨f,fd,F,r⟩:=U.ex
 exact⟨f,fd,⟨F.len,fun A outer s H args us vs Q E h1 h2 h3 h4 h5=>codeAny_mono (F.run A outer s H args us vs Q E h1 h2 h3 h4 h5) fun res s' q=>by
  cases res with
  |error ev=>exact False.elim q
  |ok fl=>cases fl<;>exact q⟩,r⟩
theorem DefAt.fnUE{x:Str}{st:Stmt}{ps:List Str}{f:Addr}{fd:FuncData}{k:Nat}{sp:Sp}(d:DefAt K mg x st ps f fd)(ok:FnOk P w K mg base (CXE P w) k f fd ps sp):FnUE P w K mg base k x ps sp:=
 ⟨f,fd,ok,d.m,d.F.kp,d.b⟩
end
section
variable{M:Model}{A:Around}{E:Value->Shared->Prop}{K:PySem.W.Frag}{x C CR:Addr}
theorem zJs{h:Heap}(Z:ECls K C)(X:K.In h):PySem.W.Looks M h (isType (.ref C)) true:=by
 obtain⟨cd,hcd⟩:=Z.cs
 unfold PySem.W.clsIn at hcd
 split at hcd
 ·rename_i ho
  intro A' Q' E' s' k q
  unfold isType loadHead
  exact wpAny_bind (wpAny_loadPart (k _ _ (X _ _ ho)) (wpAny_pure q))
 ·cases hcd
theorem zFu{s:Shared}{b:Bool}{Q:Bool->Shared->Prop}(ZR:ECls K CR)(X:K.In s.heap)(hb:PySem.W.mroIn K C (.ref CR)=some b)(e:ExcAt x C s.heap)(h:Q b s):wpAny M A (excMatches (.ref x) (.ref CR)) Q E s:=by
 obtain⟨hp,g,d,tk,os⟩:=s
 have L0:=e.type (M:=M)
 have L1:=PySem.W.looks_typeIn (M:=M) X ZR.ty
 have L2:=zJs (M:=M) ZR X
 have L3:=PySem.W.looks_mroIn (M:=M) X ZR.bs
 have L4:=PySem.W.looks_mroIn (M:=M) X hb
 have f:=tc_notTuple
 unfold excMatches isInstance
 refine wpAny_bind (wpAny_bind (L1.at ?_))
 rw[f]
 refine wpAny_pure ?_
 simp only[Bool.false_eq_true,if_false]
 refine wpAny_bind (wpAny_pure ?_)
 rw[List.forIn_cons]
 unfold isExcClass
 refine wpAny_bind (wpAny_bind (wpAny_bind (wpAny_bind (L2.at ?_))))
 simp only[if_true]
 refine L3.at ?_
 simp only[Bool.not_true,Bool.false_eq_true,if_false]
 refine wpAny_pure ?_
 refine wpAny_pure (wpAny_bind (L0.at ?_))
 rw[List.forIn_cons]
 refine wpAny_bind (wpAny_bind (wpAny_bind (L4.at ?_)))
 cases b with
 |true=>
  simp only[if_true]
  exact wpAny_pure (wpAny_pure (wpAny_pure h))
 |false=>
  simp only[Bool.false_eq_true,if_false]
  exact wpAny_pure (wpAny_pure (wpAny_pure h))
end
abbrev Cx.held(X:Cx)(e:Value):Cx:={X with A:=X.A.mark (some e),calm:=false,xe:=fun _ _=>False}
abbrev Cx.tried(X:Cx)(pn:List (Addr×Obj))(xe:Value->Shared->Prop):Cx:={X with pn:=pn,xe:=xe}
section
variable{X:Cx}{pins:List (Addr×Obj)}{σ:St}{H:Hp}{s:Shared}
theorem Cx.Ok.held(ok:X.Ok)(e:Value):(X.held e).Ok:=
 ⟨ok.mod,ok.kind,ok.glob,ok.blt,ok.above,ok.inj,ok.has,ok.cab,fun z=>(nomatch z),ok.frames,ok.stk,ok.exf,ok.bs,ok.bsz,ok.noex,ok.exfs,ok.funs,ok.frf⟩
theorem Inv.held(I:Inv X pins σ H s)(e:Value):Inv (X.held e) pins σ H s:=⟨I.ok.held e,I.os,I.bare,I.base,I.loc,I.cell,I.free,I.freeC,I.pin,I.hok,I.len⟩
theorem Inv.unheld{e:Value}(ok:X.Ok)(I:Inv (X.held e) pins σ H s):Inv X pins σ H s:=⟨ok,I.os,I.bare,I.base,I.loc,I.cell,I.free,I.freeC,I.pin,I.hok,I.len⟩
theorem Cx.Ok.tried(ok:X.Ok)(pn:List (Addr×Obj))(xe:Value->Shared->Prop):(X.tried pn xe).Ok:=
 ⟨ok.mod,ok.kind,ok.glob,ok.blt,ok.above,ok.inj,ok.has,ok.cab,ok.hd,ok.frames,ok.stk,ok.exf,ok.bs,ok.bsz,ok.noex,ok.exfs,ok.funs,ok.frf⟩
theorem Inv.tried(I:Inv X pins σ H s)(xe:Value->Shared->Prop):Inv (X.tried (X.pn++pins) xe) [] σ H s:=
 ⟨I.ok.tried _ _,I.os,I.bare,I.base,I.loc,I.cell,I.free,I.freeC,fun p hp=>I.pin p (by simpa using hp),I.hok,I.len⟩
theorem Inv.untried{pins':List (Addr×Obj)}{xe:Value->Shared->Prop}(ok:X.Ok)(I:Inv (X.tried (X.pn++pins) xe) pins' σ H s):Inv X pins σ H s:=
 ⟨ok,I.os,I.bare,I.base,I.loc,I.cell,I.free,I.freeC,fun p hp=>I.pin p (List.mem_append_left _ hp),I.hok,I.len⟩
theorem SP.untried{D:Ends}{f:Flow}{xe:Value->Shared->Prop}(ok:X.Ok)(h:SP (X.tried (X.pn++pins) xe) [] D f s):SP X pins D f s:=by
 cases f with
 |next=>obtain⟨σ',H',I,q⟩:=h;exact⟨σ',H',I.untried ok,q⟩
 |brk=>obtain⟨σ',H',I,q⟩:=h;exact⟨σ',H',I.untried ok,q⟩
 |cont=>obtain⟨σ',H',I,q⟩:=h;exact⟨σ',H',I.untried ok,q⟩
 |ret u=>obtain⟨v,σ',H',I,r,q⟩:=h;exact⟨v,σ',H',I.untried ok,r,q⟩
theorem Inv.gone{i:Nat}{n:Str}{h':Heap}{v:Option Value}{m:Str->Option Value}{tk:Nat}(I:Inv X pins σ H s)(hN:X.N.Nodup)(hi:X.N[i]? =some n)
 (hl:∀ (i:Nat) (x:Str) (v:V),X.N[i]? =some x->σ[i]? =some (some v)->Vis X.env.scope x->∃u,RelV v u/\Look X.env s.heap m x u)
 (hn:h'.Ns X.env.locals (fun x=>if x=n then v else m x)) (hs:Heap.SameBut X.env.locals s.heap h'):Inv X pins (σ.set i none) H {s with heap:=h',toks:=tk}:=by
 have ne0:∀b o,X.s₀.heap.get? b=some o->b≠X.env.locals:=fun b o e=>Nat.ne_of_lt (Nat.lt_of_lt_of_le (Heap.lt_size e) I.ok.above)
 have tr:∀b u,H b=some u->b≠X.env.locals:=fun b u e z=>by rw[z,I.free]at e;cases e
 refine⟨I.ok,I.os,I.bare,⟨fun b o e q hb hx=>?_,fun b o e q hb hx=>?_,I.base.free,fun b o e hx=>?_,I.base.tups,I.base.frzs,I.base.tbls⟩,⟨_,hn,fun j y w e1 e2 e3=>?_⟩,fun y c e=>?_,I.free,I.freeC,fun p hp=>?_,⟨fun b u e=>?_,I.hok.sm,let⟨o,_,_,e,_⟩:=I.ok.mod.glob;⟨mainGlobals,o,by decide,(hs.2 _ (ne0 _ o (I.ok.bs _ _ e).1)).trans (I.bk _ _ e)⟩⟩,by simpa using I.len⟩
 ·exact(hs.2 b (ne0 b o e)).trans (I.base.keep b o e q hb hx)
 ·obtain⟨sl,e1⟩:=I.base.slot b o e q hb hx
  exact⟨sl,(hs.2 b (ne0 b o e)).trans e1⟩
 ·obtain⟨o',e1⟩:=I.base.there b o e hx
  exact⟨o',(hs.2 b (ne0 b o e)).trans e1⟩
 ·have hj:j≠i:=fun z=>by
   subst z
   by_cases hlt:j<σ.length
   ·rw[List.getElem?_set_self hlt]at e2;cases e2
   ·rw[List.getElem?_eq_none (by rw[List.length_set];omega)]at e2;cases e2
  rw[List.getElem?_set_ne (Ne.symm hj)]at e2
  obtain⟨u,r,q⟩:=hl j y w e1 e2 e3
  refine⟨u,r,?_⟩
  have ny:y≠n:=fun z=>hj (zEJ hN e1 (z▸hi))
  rcases q with⟨k,e⟩|⟨k,c,e,z⟩
  ·exact .inl ⟨k,by show(if y=n then v else m y)=some u;rw[if_neg ny];exact e⟩
  ·exact .inr ⟨k,c,e,z.sameBut hs (I.cne y c e)⟩
 ·obtain⟨w',z⟩:=I.cell y c e
  exact⟨w',z.sameBut hs (I.cne y c e)⟩
 ·obtain⟨e,q,ne,nf,d⟩:=I.pin p hp
  exact⟨(hs.2 p.1 ne).trans e,q,ne,nf,d⟩
 ·refine(I.hok b u e).stay (fun c w' hc r=>(hs.2 c ?_).trans r) (fun _ z=>z) fun _ _ z=>z
  rcases hc with rfl|hc
  ·exact tr _ _ e
  ·exact tr _ _ hc
end
section
variable{X:Cx}{cn en:Str}{CR:Addr}{i:Nat}{body suite:List Stmt}{b₀:Stmt}{np hpos pos:Pos}{tb:XR->TS}{ts:TS}
def endsOff(i:Nat)(D:Ends):Ends:={nx:=fun σ H=>D.nx (σ.set i none) H,rt:=D.rt,bk:=fun σ H=>D.bk (σ.set i none) H,ct:=fun σ H=>D.ct (σ.set i none) H}
def tTry(K:PySem.W.Frag)(i:Nat)(CR:Addr)(tb:XR->TS)(ts:TS):TS:=fun D σ H=>
 tb (fun C x σ' H'=>PySem.W.mroIn K C (.ref CR)=some true/\∀ob,ts (endsOff i D) (σ'.set i (some (.ref x))) (upd H' x (excO ob x C))) D σ H
theorem zMj(ZR:ECls X.K CR)(hm:X.mg cn=some (.ref CR))(T:X.Top)(hN:X.N.Nodup)(hi:X.N[i]? =some en)(hl:X.env.scope.names.lookup en=some .local)
 (hb:∀ (pn:List (Addr×Obj)) (xe:Value->Shared->Prop) (R:XR),(∀e s',XF (X.tried pn xe) R e s'->xe e s')->PSs (X.tried pn xe) body (tb R))
 (hs:∀e:Value,PSs (X.held e) (b₀::suite) ts) (hg:Gl X cn:=by rfl) (hd:(cn==("__debug__":Str))=false:=by decide):
 PS X (.Try body [.ExceptHandler (some (.Name cn np)) (some en) (b₀::suite) hpos] [] [] pos) (tTry X.K i CR tb ts):=by
 intro pins s σ H D I h
 refine wpAny_Try_except ?_
 refine wpAny_mono (hb (X.pn++pins) _ _ (fun e s1 z=>?_) [] s σ H D (I.tried _) h) (fun f s1 q=>?_) fun e s1 z=>z
 ·obtain⟨pins1,σ1,H1,s1',I1,x,C,a0,H',B,rfl,os,bare,q,C',x',e1,e2,hsub,r⟩:=z
  cases e1;cases e2
  have I1:=I1.untried I.ok
  refine wpAny_looks_onW (by rw[I.ok.frames,T.stk]) T.fr (by rw[<-T.stk];exact q.fl) fun h4 held4 up4=>?_
  refine wpAny_landsW held4 fun h5 fl5 up5=>?_
  have q5:=q.on (up4.trans up5) (by rw[T.stk];exact fl5) I1.stkFree
  have I5:Inv X pins σ1 H' {s1 with heap:=h5}:=I1.call' (ch:=[]) os q5.un (q5.ok.kept q5.fl.1) bare (fun b z=>absurd z (by simp))
  have X5:ExcAt x C h5:=by
   obtain⟨oe,vs,g1,g2,g3,_⟩:=q5.fl.first
   exact⟨oe,vs,g1,g2,g3⟩
  refine wpAny_handleBy_cons (codeAny_handlers_test (zDJ (X:=X.held (.ref x)) (I5.held _) hg hm ?_ hd)) (by intro z;cases z)
  refine zFu ZR I5.kIn hsub X5 ?_
  refine codeAny_handlers_suite_as ?_
  refine lands_againW (base:=B) (l:=X.env::X.outer) (by rw[<-T.stk];exact q5.fl) fun h6 fl6 up6=>?_
  have q6:=q5.on up6 (by rw[T.stk];exact fl6) I1.stkFree
  obtain⟨ob,c6⟩:=q6.caught
  have I6:Inv X pins σ1 (upd H' x (excO ob x C)) {s1 with heap:=h6}:=I1.call' (ch:=[]) os c6.1 c6.2 bare (fun b z=>absurd z (by simp))
  refine zCq (X:=X.held (.ref x)) (I6.held _) hN hi (.inl hl) (v:= .ref x) rfl (fun s7 I7=>?_) (.inr hl)
  refine wpAny_mono (hs (.ref x) pins s7 _ _ (endsOff i D) I7 (r ob)) (fun f s8 q8=>?_) fun _ _ z=>z.elim
  have go:∀ {σ8:St} {H8:Hp},Inv (X.held (.ref x)) pins σ8 H8 s8->(∀s9,Inv X pins (σ8.set i none) H8 s9->SP X pins D f s9)->wpAny (model X.prog X.w) X.A (do bindName X.env en .none;unbindBehindTheSuite X.env en hpos) (fun _ s9=>SP X pins D f s9) X.xe s8:=fun{σ8 H8} I8 k=>by
   have I8:=I8.unheld I.ok
   obtain⟨m,hn,hlk⟩:=id I8.loc
   refine wpAny_nameGoes_keeps hl hn ?_ fun h9 v hn9 hs9=>k _ (I8.gone hN hi hlk hn9 hs9)
   rw[I.ok.kind];rfl
  cases f with
  |next=>obtain⟨σ8,H8,I8,q9⟩:=q8;exact go I8 fun s9 I9=>⟨_,_,I9,q9⟩
  |brk=>obtain⟨σ8,H8,I8,q9⟩:=q8;exact go I8 fun s9 I9=>⟨_,_,I9,q9⟩
  |cont=>obtain⟨σ8,H8,I8,q9⟩:=q8;exact go I8 fun s9 I9=>⟨_,_,I9,q9⟩
  |ret u=>obtain⟨v,σ8,H8,I8,rv,q9⟩:=q8;exact go I8 fun s9 I9=>⟨_,_,_,I9,rv,q9⟩
 ·have q:=q.untried I.ok
  cases f with
  |next=>exact wpAny_execs_nil q
  |brk=>exact q
  |cont=>exact q
  |ret u=>exact q
end
end L2
namespace L2
open PySem PySem.Spec PyProof.Rows PySem.SeqAt
section
variable{X:Cx}
theorem zIc{pins:List (Addr×Obj)}{σ:St}{H:Hp}{s:Shared}{x C:Addr}{ob:Obj}(I:Inv X pins σ H s)(h:H x=some (excO ob x C)):ExcAt x C s.heap:=by
 obtain⟨_,p,_⟩:=(show ObjOk X.prog X.w H s.heap x (.frz ob (.ext (ExcAt x C)))from I.hok x _ h)
 exact p
def rIsiE(K:PySem.W.Frag):List V->Hp->VK->Prop:=fun xs H Q=>rIsi K xs H Q\/
 (∃x ob C T b,xs=[.ref x, .ty T]/\H x=some (excO ob x C)/\ECls K C/\PySem.W.kitOne K (.ref C) (.type T)=some b/\Q (.bl b) H)\/
 (∃x ob C D b,xs=[.ref x, .ref D]/\H x=some (excO ob x C)/\ECls K C/\PySem.W.kitOne K (.ref C) (.ref D)=some b/\Q (.bl b) H)\/
 ∃x ob C tp,∃cs:List Addr,∃b,xs=[.ref x, .ref tp]/\H x=some (excO ob x C)/\ECls K C/\H tp=some (.tup (cs.map V.ref))/\PySem.W.kitAny K (.ref C) (cs.map Value.ref)=some b/\Q (.bl b) H
theorem zEh:∀ {cs:List Addr} {us:List Value},Vals (cs.map V.ref) us->us=cs.map Value.ref
 |[],_, .nil=>rfl
 |_::_,_, .cons r t=>by rw[show _=Value.ref _ from r,zEh t];rfl
theorem zDW(K:PySem.W.Frag)(hK:X.K=K:=by rfl):CallR X (.builtin "isinstance") (rIsiE K):=by
 intro pins s σ H xs us Q I r h
 rcases h with h|⟨x,ob,C,T,b,rfl,hx,Z,e,q⟩|⟨x,ob,C,D,b,rfl,hx,Z,e,q⟩|⟨x,ob,C,tp,cs,b,rfl,hx,Z,ht,e,q⟩
 ·exact zBh K hK pins s σ H xs us Q I r h
 ·subst hK
  obtain⟨u,v,rfl,ru,rv⟩:=vals2 r
  cases(show u=Value.ref x from ru);cases(show v=Value.type T from rv)
  exact PySem.W.kia_one (zEL Z) I.kIn (zIc I hx) e (fun z=>nomatch z) fun tk=>⟨.bl b,H,I.tok _,rfl,q⟩
 ·subst hK
  obtain⟨u,v,rfl,ru,rv⟩:=vals2 r
  cases(show u=Value.ref x from ru);cases(show v=Value.ref D from rv)
  exact PySem.W.kia_one (zEL Z) I.kIn (zIc I hx) e (fun z=>nomatch z) fun tk=>⟨.bl b,H,I.tok _,rfl,q⟩
 ·subst hK
  obtain⟨u,v,rfl,ru,rv⟩:=vals2 r
  cases(show u=Value.ref x from ru);cases(show v=Value.ref tp from rv)
  obtain⟨_,its,rv,⟨oc,od,oda,osl⟩,e1,e2,n,e3⟩:=(show ObjOk X.prog X.w H s.heap tp (.tup (cs.map V.ref))from I.hok tp _ ht)
  dsimp only at e2 e3;subst e2;subst e3
  exact PySem.W.kia_tup (zEL Z) I.kIn (zIc I hx) e1 (by rw[zEh rv];exact e) (fun z=>nomatch z) fun tk=>⟨.bl b,H,I.tok _,rfl,q⟩
theorem zMO{K:PySem.W.Frag}{H:Hp}{Q:VK}{x C:Addr}{ob:Obj}{T:String}{b:Bool}(hx:H x=some (excO ob x C))(Z:ECls K C)(e:PySem.W.kitOne K (.ref C) (.type T)=some b)(h:Q (.bl b) H):rIsiE K [.ref x, .ty T] H Q:=
 .inr (.inl ⟨x,ob,C,T,b,rfl,hx,Z,e,h⟩)
theorem zMP{K:PySem.W.Frag}{H:Hp}{Q:VK}{x C D:Addr}{ob:Obj}{b:Bool}(hx:H x=some (excO ob x C))(Z:ECls K C)(e:PySem.W.kitOne K (.ref C) (.ref D)=some b)(h:Q (.bl b) H):rIsiE K [.ref x, .ref D] H Q:=
 .inr (.inr (.inl ⟨x,ob,C,D,b,rfl,hx,Z,e,h⟩))
theorem zMN{K:PySem.W.Frag}{H:Hp}{Q:VK}{x C tp:Addr}{ob:Obj}{cs:List Addr}{b:Bool}(hx:H x=some (excO ob x C))(Z:ECls K C)(ht:H tp=some (.tup (cs.map V.ref)))(e:PySem.W.kitAny K (.ref C) (cs.map Value.ref)=some b)(h:Q (.bl b) H):
 rIsiE K [.ref x, .ref tp] H Q:= .inr (.inr (.inr ⟨x,ob,C,tp,cs,b,rfl,hx,Z,ht,e,h⟩))
end
structure RoomH (k:Nat) (A:Around):Prop where
 dp:A.depth+3*k+5<recursionLimit
 un:A.units+16*k+200<cLine
 gd:A.guards=some []
theorem Room.h{k:Nat}{A:Around}(r:Room k A)(e:Value):RoomH k (A.mark (some e)):=⟨r.dp,r.un,r.gd⟩
section
variable{P:Program}{w:World}{K:PySem.W.Frag}{mg:Str->Option Value}{base:Heap}
end
end L2
namespace L2
open PySem PySem.Spec PyProof.Rows
mutual
inductive Sd (p:Addr) (H:Hp):V->PyData->Prop
 |sc {x:V} {d:PyData} (h:Sc x d):Sd p H x d
 |lst {a:Addr} {xs:List V} {ds:List PyData} (h:H a=some (.lst xs)) (n:a≠p) (r:Sds p H xs ds):Sd p H (.ref a) (.list ds)
 |tup {a:Addr} {xs:List V} {ds:List PyData} (h:H a=some (.tup xs)) (n:a≠p) (r:Sds p H xs ds):Sd p H (.ref a) (.tuple ds)
 |dct {a:Addr} {kvs:List (Key×V)} {ds:List (PyData×PyData)} (h:H a=some (.dK kvs)) (n:a≠p) (r:Paired Sck kvs ds):Sd p H (.ref a) (.dict ds)
inductive Sds (p:Addr) (H:Hp):List V->List PyData->Prop
 |nil:Sds p H [] []
 |cons {x:V} {d:PyData} {xs:List V} {ds:List PyData} (h:Sd p H x d) (t:Sds p H xs ds):Sds p H (x::xs) (d::ds)
end
mutual
theorem Sd.keep{p:Addr}{H H':Hp}(s:SameBut1 p H H'):∀ {x:V} {d:PyData},Sd p H x d->Sd p H' x d
 |_,_, .sc h=> .sc h
 |_,_, .lst h n r=> .lst (s _ _ h n) n (Sds.keep s r)
 |_,_, .tup h n r=> .tup (s _ _ h n) n (Sds.keep s r)
 |_,_, .dct h n r=> .dct (s _ _ h n) n r
theorem Sds.keep{p:Addr}{H H':Hp}(s:SameBut1 p H H'):∀ {xs:List V} {ds:List PyData},Sds p H xs ds->Sds p H' xs ds
 |_,_, .nil=> .nil
 |_,_, .cons h t=> .cons (Sd.keep s h) (Sds.keep s t)
end
section
variable{X:Cx}{pins:List (Addr×Obj)}{σ:St}{H:Hp}{s:Shared}
theorem zNn(I:Inv X pins σ H s){a:Addr}{o:HO}(h:H a=some o)(hf:∀ob u,o≠ .frz ob u):a≠sysModules:=fun z=>by
 subst z
 obtain⟨ob,u,e⟩:=I.hok.sm o h
 exact hf ob u e
mutual
theorem Sd.reads(I:Inv X pins σ H s){p:Addr}:∀ {x:V} {d:PyData} {u:Value},Sd p H x d->RelV x u->∃as,Reads s.heap u d as/\sysModules∉as
 |_,_,_, .sc c,r=>⟨[],c.reads r,fun z=>nomatch z⟩
 |_,_,u, .lst (a:=a) (xs:=xs) h n c,r=>by
  obtain rfl:u=Value.ref a:=r
  obtain⟨_,its,n,rv,e⟩:=(show ObjOk X.prog X.w H s.heap a (.lst xs)from I.hok a _ h)
  obtain⟨as,rd,hs⟩:=Sds.reads I c rv
  refine⟨_, .list e rfl rfl (by simpa using rd),fun z=>?_⟩
  rcases List.mem_cons.mp z with z|z
  ·exact zNn I h (fun _ _ q=>nomatch q) z.symm
  ·exact hs z
 |_,_,u, .tup (a:=a) (xs:=xs) h n c,r=>by
  obtain rfl:u=Value.ref a:=r
  obtain⟨_,its,rv,o,e1,e2,n,e3⟩:=(show ObjOk X.prog X.w H s.heap a (.tup xs)from I.hok a _ h)
  obtain⟨as,rd,hs⟩:=Sds.reads I c rv
  exact⟨as, .tuple e1 e2 e3 (by simpa using rd),hs⟩
 |_,_,u, .dct (a:=a) (kvs:=kvs) h n c,r=>by
  obtain rfl:u=Value.ref a:=r
  obtain⟨_,ns,vs,rv,o,es,ep,e1,e2,e3,_,pr,_⟩:=(show ObjOk X.prog X.w H s.heap a (.dK kvs)from I.hok a _ h)
  obtain⟨k1,k2⟩:=zDD (h:=s.heap) pr rv c
  refine⟨_, .dict e1 e2.1 e3 k1 k2,fun z=>?_⟩
  have z':sysModules∈[a]:=by simpa using z
  rw[List.mem_singleton.mp z']at ns
  simp at ns
theorem Sds.reads(I:Inv X pins σ H s){p:Addr}:∀ {xs:List V} {ds:List PyData} {us:List Value},Sds p H xs ds->Vals xs us->∃as,ReadsAll s.heap us ds as/\sysModules∉as
 |_,_,_, .nil, .nil=>⟨[], .nil,fun z=>nomatch z⟩
 |_,_,_, .cons h t, .cons r rs=>by
  obtain⟨as,r1,h1⟩:=Sd.reads I h r
  obtain⟨bs,r2,h2⟩:=Sds.reads I t rs
  exact⟨as++bs, .cons r1 r2,fun z=>(List.mem_append.mp z).elim h1 h2⟩
end
end
def rReprD:List V->Hp->VK->Prop:=fun xs H Q=>∃x d p,xs=[x]/\Sd p H x d/\ShOk d/\Q (.str d.shown) H
theorem zDu{X:Cx}{k:Nat}(hr:Room k X.A):CallR X (.builtin "repr") rReprD:=by
 intro pins s σ H xs us Q I r h
 obtain⟨x,d,p,rfl,h,⟨h1,h2,h3⟩,q⟩:=h
 obtain⟨u,rfl,ru⟩:=vals1 r
 obtain⟨as,rd,hs⟩:=h.reads I ru
 have hu:=hr.units
 have big:∀ {a:Addr},u= .ref a->wpAny (model X.prog X.w) X.A (call (.builtin "repr") [u]) (EP X pins σ Q) X.xe s:=fun{a} e=>by
  subst e
  exact PySem.repr_of_reads' rd h1 (fun _=>hs) hr.gd (by omega) (fun b o e=>e) (fun h' u tk hk=>⟨.str d.shown,H,I.kept hk,⟨u,rfl⟩,q⟩) h2
 cases h with
 |sc c=>
  cases c with
  |non=>obtain rfl:u=Value.none:=ru;exact PySem.P.repr_of_none ⟨.str _,H,I.tok _,⟨_,rfl⟩,q⟩
  |bl b=>obtain rfl:u=Value.bool b:=ru;exact PySem.P.repr_of_bool ⟨.str _,H,I.tok _,⟨_,rfl⟩,q⟩
  |int i=>
   obtain⟨t,rfl⟩:=ru
   exact PySem.P.repr_of_int (by simpa[PyData.showable]using h1) ⟨.str _,H,I.tok _,⟨_,rfl⟩,q⟩
  |str x=>
   obtain⟨t,rfl⟩:=ru
   exact PySem.P.repr_of_str ⟨.str _,H,I.tok _,⟨_,rfl⟩,q⟩ h2
 |lst h n r=>exact big ru
 |tup h n r=>exact big ru
 |dct h n r=>exact big ru
theorem zHf{H:Hp}{Q:VK}{x:V}{d:PyData}{p:Addr}(h:Sd p H x d)(ok:ShOk d)(q:Q (.str d.shown) H):rReprD [x] H Q:=⟨x,d,p,rfl,h,ok,q⟩
def Fit(n m:Nat)(d:PyData):Prop:=d.showable=true/\d.shown.length<=n/\d.depth<=m
theorem Fit.ok{n m:Nat}{d:PyData}(h:Fit n m d)(hn:n<=16777216)(hm:m<=20):ShOk d:=⟨h.1,Nat.le_trans h.2.1 (by rw[sizeLine_eq];omega),Nat.le_trans h.2.2 hm⟩
theorem Fit.mono{n m n' m':Nat}{d:PyData}(h:Fit n m d)(hn:n<=n')(hm:m<=m'):Fit n' m' d:=⟨h.1,Nat.le_trans h.2.1 hn,Nat.le_trans h.2.2 hm⟩
theorem zDp{i:Int}(h:i.natAbs<10^60):i.natAbs.log2<1920:=by
 by_cases h0:i.natAbs=0
 ·rw[h0];decide +kernel
 ·have e:(10^60:Nat)<=2^200:=by decide
  exact Nat.lt_trans ((Nat.log2_lt h0).mpr (Nat.lt_of_lt_of_le h e)) (by decide)
theorem zEU{i:Int}(h:i.natAbs<10^60):Fit 1921 1 (.int i):=
 ⟨by simpa[PyData.showable]using zDp h,by rw[PyData.shown];exact int_text_len_1921 (zDp h),by simp[PyData.depth]⟩
theorem zFs{a:List Nat}(h:Low a):Fit (10*a.length+2) 1 (.str ⟨a.toArray⟩):=⟨rfl,by rw[PyData.shown];exact zLL h,by simp[PyData.depth]⟩
theorem zER{n m:Nat}:∀ {ds:List PyData},(∀d∈ds,Fit n m d)->PyData.showableAll ds=true/\piled (PyData.shownAll ds)<=ds.length*(n+2)/\PyData.depthAll ds<=m/\(PyData.shownAll ds).length=ds.length
 |[],_=>⟨rfl,by rw[PyData.shownAll,piled_nil];omega,by simp[PyData.depthAll],rfl⟩
 |d::ds,h=>by
  obtain⟨h1,h2,h3⟩:=h d List.mem_cons_self
  obtain⟨i1,i2,i3,i4⟩:=zER (ds:=ds) fun e he=>h e (List.mem_cons_of_mem _ he)
  refine⟨by rw[PyData.showableAll,h1,i1];rfl,?_,by rw[PyData.depthAll];exact Nat.max_le.mpr ⟨h3,i3⟩,by rw[PyData.shownAll,List.length_cons,List.length_cons,i4]⟩
  rw[PyData.shownAll,piled_cons,List.length_cons,Nat.add_mul,Nat.one_mul]
  omega
theorem zET{n m:Nat}{ds:List PyData}(h:∀d∈ds,Fit n m d):Fit (ds.length*(n+2)+2) (m+1) (.list ds):=by
 obtain⟨i1,i2,i3,i4⟩:=zER h
 refine⟨by rw[PyData.showable];exact i1,?_,by rw[PyData.depth];omega⟩
 rw[PyData.shown]
 unfold listText
 rw[strLen_append]
 have h1:=zHU (PyData.shownAll ds) 0 "["
 have e1:(Str.ofString "[").length=1:=by decide
 have e2:(Str.ofString "]").length=1:=by decide
 omega
theorem zES{n m:Nat}{ds:List PyData}(h:∀d∈ds,Fit n m d):Fit (ds.length*(n+2)+3) (m+1) (.tuple ds):=by
 obtain⟨i1,i2,i3,i4⟩:=zER h
 refine⟨by rw[PyData.showable];exact i1,?_,by rw[PyData.depth];omega⟩
 rw[PyData.shown]
 unfold tupleText
 rw[strLen_append,strLen_append]
 have e1:(Str.ofString "(").length=1:=by decide
 have e2:(Str.ofString (if(PyData.shownAll ds).length==1 then",)" else")")).length<=2:=by split<;>decide
 by_cases hz:PyData.shownAll ds=[]
 ·rw[hz]at e2⊢
  have:(Str.join ", " []).length=0:=by decide
  omega
 ·have:=join_length_add _ hz
  omega
def Dt(p:Addr)(n m:Nat)(H:Hp)(v:V):Prop:=∃d,Sd p H v d/\Fit n m d
theorem Dt.keep{p:Addr}{n m:Nat}{H H':Hp}{v:V}(h:Dt p n m H v)(s:SameBut1 p H H'):Dt p n m H' v:=let⟨d,a,b⟩:=h;⟨d,a.keep s,b⟩
end L2
namespace L2
open PySem PySem.Spec PyProof.Rows BrM BrR BrS BrC
structure Cs where
 RowError:Addr
 NoKinds:Addr
 NoLine:Addr
 NotRight:Addr
 NoTree:Addr
 NoNumber:Addr
 NoWeights:Addr
 NoPlace:Addr
 NoFilling:Addr
 TooMany:Addr
 NoName:Addr
 NoRow:Addr
def eclsB(K:PySem.W.Frag)(C:Addr):Bool:=PySem.W.excIn K C veTail "ValueError.__new__"&&(PySem.W.typeIn K (.ref C)==some (.type "type"))&&(PySem.W.clsIn K C).isSome&&(PySem.W.mroIn K C (.type "BaseException")==some true)&&
 (PySem.W.mroIn K C (.type "object")==some true)&&(PySem.W.findIn K (.ref C) "__getattribute__"==some (some (.builtin "BaseException.__getattribute__")))&&(PySem.W.findIn K (.ref C) "__getattr__"==some none)&&
 (PySem.W.findIn K (.ref C) "__class__"==some (some (.builtin "object.__class__")))&&(PySem.W.specialIn K (.builtin "object.__class__") "__get__"==some (some (.builtin "getset_descriptor.__get__")))&&(PySem.W.takesIn K (.builtin "object.__class__")==some true)
theorem zDR{K:PySem.W.Frag}{C:Addr}(h:eclsB K C=true):ECls K C:=by
 unfold eclsB at h
 simp only[Bool.and_eq_true,beq_iff_eq]at h
 obtain⟨⟨⟨⟨⟨⟨⟨⟨⟨h1,h2⟩,h3⟩,h4⟩,h5⟩,h6⟩,h7⟩,h8⟩,h9⟩,h10⟩:=h
 exact⟨h1,h2,Option.isSome_iff_exists.mp h3,h4,h5,h6,h7,h8,h9,h10⟩
theorem zJZ{X:Cx}{x:Str}{C:Addr}{pos:Pos}(h:X.mg x=some (.ref C))(hg:Gl X x:=by rfl)(hd:(x==("__debug__":Str))=false:=by decide):PE X (.Name x pos) (tC (.ref C)):=zBm (v:= .ref C) ⟨_,h,rfl⟩ hg hd
theorem zDX:bootBuiltins "ValueError"=some (.type "ValueError"):=by decide +kernel
def rNo:XR:=fun _ _ _ _=>False
theorem zDZ{X:Cx}(e:Value)(s':Shared)(h:XF X rNo e s'):X.xe e s':=by
 obtain⟨_,_,_,_,_,_,_,_,_,_,_,_,_,_,_,_,_,_,r⟩:=h
 exact r.elim
theorem zCO{X:Cx}{b:List Stmt}{R:TS->Prop}(h:∃t,PSs X.nox b t/\R t):∃t,PSs X b t/\R t:=let⟨t,p,r⟩:=h;⟨t,p.nox,r⟩
section
variable{σ:St}{H:Hp}{Q:VK}{D:Ends}
theorem zLE{sp:Sp}{R:XR}{t:TA}(h:t σ H fun vs H1=>sp vs H1 Q (xk R σ)):tCallE sp R t σ H Q:=h
theorem zKz{C:Addr}{R:XR}{t:TA}(h:t σ H fun vs H1=>vs.length<=sizeLine/\∀y,H1 y=none->R C y σ H1):tRaise C R t D σ H:=h
theorem zNt{K:PySem.W.Frag}{i:Nat}{CR:Addr}{tb:XR->TS}{ts:TS}
 (h:tb (fun C x σ' H'=>PySem.W.mroIn K C (.ref CR)=some true/\∀ob,ts (endsOff i D) (σ'.set i (some (.ref x))) (upd H' x (excO ob x C))) D σ H):tTry K i CR tb ts D σ H:=h
end
def Ref(E:XK)(C:Addr)(H:Hp):Prop:=∀y H',Same H H'->H y=none->E (.ref C) (some y) H'
theorem Ref.pass{E:XK}{C:Addr}{H H1:Hp}{σ:St}(r:Ref E C H)(s:Same H H1):Ref (xk (rOf E) σ) C H1:=fun y H' s' h=>⟨C,y,rfl,rfl,r y H' (s.trans s') (s.free h)⟩
theorem zJG{H H':Hp}{y:Addr}{o:HO}(s:Same H H')(n:H y=none):Same H (upd H' y o):=fun b u z=>by rw[zAG (zAE z n)];exact s b u z
theorem zHi{R:XR}{σ:St}{C:Addr}{H:Hp}(h:∀y H',Same H H'->H y=none->R C y σ H'):Ref (xk R σ) C H:=fun y H' s n=>⟨C,y,rfl,rfl,h y H' s n⟩
def NoN(K:PySem.W.Frag)(lo hi:Int)(H:Hp)(v:V):Prop:=∃ty,TyOf K H v (.type ty)/\ty∈plainTy/\∀i,v= .int i->i<lo\/hi<i
abbrev NoK(K:PySem.W.Frag):Hp->V->Prop:=NoN K 1 4
def NoL(K:PySem.W.Frag)(k:Int)(H:Hp)(v:V):Prop:=(∃a,v=tx a/\a.length<=1000/\isRow k a=false)\/∃ty,TyOf K H v (.type ty)/\ty∈plainTy/\ty≠"str"
theorem TyOf.keep{K:PySem.W.Frag}{p:Addr}{H H':Hp}{v:V}{t:Value}(h:TyOf K H v t)(n:∀a,v= .ref a->a≠p)(s:SameBut1 p H H'):TyOf K H' v t:=by
 cases h with
 |non=>exact .non
 |bl x=>exact .bl x
 |int i=>exact .int i
 |str x=>exact .str x
 |flt x=>exact .flt x
 |lst e=>exact .lst (s _ _ e (n _ rfl))
 |frz e=>exact .frz (s _ _ e (n _ rfl))
 |tup e=>exact .tup (s _ _ e (n _ rfl))
 |dK e=>exact .dK (s _ _ e (n _ rfl))
 |dT e=>exact .dT (s _ _ e (n _ rfl))
 |ins e cl ha hn htk hm=>exact .ins (s _ _ e (n _ rfl)) cl ha hn htk hm
theorem Dt.ne{p:Addr}{n m:Nat}{H:Hp}{v:V}(h:Dt p n m H v)(a:Addr)(e:v= .ref a):a≠p:=by
 obtain⟨d,h,_⟩:=h
 subst e
 cases h with
 |sc c=>cases c
 |lst _ n _=>exact n
 |tup _ n _=>exact n
 |dct _ n _=>exact n
theorem TyOf.int_of{K:PySem.W.Frag}{H:Hp}{v:V}{t:Value}(h:TyOf K H v t)(e:t= .type "int"):∃i,v= .int i:=by
 cases h<;>first|exact⟨_,rfl⟩|(injection e with e;exact absurd e (by decide))|cases e
theorem NoN.keep{K:PySem.W.Frag}{lo hi:Int}{p:Addr}{n m:Nat}{H H':Hp}{v:V}(h:NoN K lo hi H v)(d:Dt p n m H v)(s:SameBut1 p H H'):NoN K lo hi H' v:=let⟨ty,a,b⟩:=h;⟨ty,a.keep d.ne s,b⟩
theorem NoL.keep{K:PySem.W.Frag}{k:Int}{p:Addr}{n m:Nat}{H H':Hp}{v:V}(h:NoL K k H v)(d:Dt p n m H v)(s:SameBut1 p H H'):NoL K k H' v:=h.elim .inl fun⟨ty,a,b⟩=> .inr ⟨ty,a.keep d.ne s,b⟩
def Gate(K:PySem.W.Frag)(cs:Cs)(H:Hp)(E:XK)(kv v:V):Prop:=(NoK K H kv/\Ref E cs.NoKinds H)\/∃k:Int,kv= .int k/\1<=k/\k<=4/\NoL K k H v/\Ref E cs.NoLine H
def spKindsE(K:PySem.W.Frag)(cs:Cs):Sp:=fun vs H Q E=>spKinds vs H Q E\/∃v,vs=[v]/\NoK K H v/\Ref E cs.NoKinds H
def spLineE(K:PySem.W.Frag)(cs:Cs):Sp:=fun vs H Q E=>spLine K vs H Q E\/∃kv v,vs=[kv,v]/\NoK K H kv/\Ref E cs.NoKinds H
def spGateE(K:PySem.W.Frag)(cs:Cs)(sp:Sp):Sp:=fun vs H Q E=>sp vs H Q E\/∃kv v,vs=[kv,v]/\Gate K cs H E kv v
theorem zG2{K:PySem.W.Frag}{cs:Cs}{H:Hp}{Q:VK}{E:XK}{k:Int}{v:V}(h1:1<=k)(h2:k<=4)(n:NoL K k H v)(q:∀H',Same H H'->Q (.bl false) H'):spLineE K cs [.int k,v] H Q E:=by
 refine .inl ⟨k,v,rfl,h1,h2,?_⟩
 rcases n with⟨a,rfl,ha,hr⟩|⟨ty,a,b,c⟩
 ·exact .inl ⟨a,rfl,ha,fun H' s=>by rw[hr];exact q H' s⟩
 ·exact .inr ⟨ty,a,b,c,q H (Same.refl H)⟩
end L2
namespace L2
open PySem PySem.Spec PyProof.Rows
def CDivB(i j:Int):Prop:=0<j/\j<2^200
theorem zJe{X:Cx}:OpR X (binaryOp .FloorDiv) (rI CDivB fun i j=> .int (i/j)):=opI fun i j _ _ _ _ _ hc q=>by
 have h1:(0:Int)<j:=hc.1
 have h2:j<2^200:=hc.2
 refine floordiv_int (by omega) (by rw[Int.fdiv_eq_ediv_of_nonneg i (by omega)];exact q) (.inl (PyProof.noPylong_of_log2 ?_))
 have h3:j.natAbs≠0:=by omega
 have h4:j.natAbs<2^200:=by omega
 exact Nat.lt_trans ((Nat.log2_lt h3).mpr h4) (by decide)
theorem SqL.ty{K:PySem.W.Frag}{H:Hp}{p:Addr}{xs:List V}(h:SqL K H p xs):tyV K "list" (.ref p) H:= .inl ⟨rfl,_,h⟩
end L2
namespace BrS
open L2 PySem BrM BrC BrR
def Po(H:Hp)(p:Addr):Prop:=∃a b c:Int,H p=some (.lst [.int a, .int b, .int c])
theorem Po.same{H H':Hp}{p:Addr}(h:Po H p)(s:Same H H'):Po H' p:=let⟨a,b,c,e⟩:=h;⟨a,b,c,s _ _ e⟩
theorem Po.keep{H H':Hp}{p q:Addr}(h:Po H p)(s:SameBut1 q H H')(n:p≠q):Po H' p:=let⟨a,b,c,e⟩:=h;⟨a,b,c,s _ _ e n⟩
theorem Po.ne{H:Hp}{p q:Addr}(h:Po H p)(hq:H q=none):q≠p:=let⟨_,_,_,e⟩:=h;(zAE e hq).symm
theorem Po.new{H:Hp}{p:Addr}{a b c:Int}:Po (upd H p (.lst [.int a, .int b, .int c])) p:=⟨a,b,c,zAC⟩
def spPoolD(K:PySem.W.Frag):Sp:=fun vs H Q _=>∃ (a:Addr) (ns:List Int) (k:Int),vs=[.ref a, .int k]/\SqL K H a (ns.map V.int)/\0<=k/\k<=63/\∀p H',H p=none->Same H H'->Po H' p->Q (.ref p) H'
theorem zHr{K:PySem.W.Frag}{H:Hp}{a:Addr}{ns:List Int}{k:Int}{Q:VK}{E:XK}(hS:SqL K H a (ns.map V.int))(h0:0<=k)(h1:k<=63)(q:∀p H',H p=none->Same H H'->Po H' p->Q (.ref p) H'):spPoolD K ([.ref a, .int k]++[]) H Q E:=
 ⟨a,ns,k,rfl,hS,h0,h1,q⟩
def spDraw:Sp:=fun vs H Q _=>∃p m,vs=[.ref p, .int m]/\Po H p/\0<m/\m<2^200/\∀r H',0<=r->r<m->Po H' p->SameBut1 p H H'->Q (.int r) H'
theorem zA5{H:Hp}{p:Addr}{m:Int}{Q:VK}{E:XK}(hp:Po H p)(h0:0<m)(h1:m<2^200)(q:∀r H',0<=r->r<m->Po H' p->SameBut1 p H H'->Q (.int r) H'):spDraw ([.ref p, .int m]++[]) H Q E:=⟨p,m,rfl,hp,h0,h1,q⟩
theorem put1{p a:Addr}{H H':Hp}{o:HO}(s:SameBut1 p H H')(h:H a=none):SameBut1 p H (upd H' a o):=fun b u z n=>by rw[zAG (zAE z h)];exact s b u z n
theorem zCu(a:List Nat):(a.map fun c=>[c]).flatten=a:=by
 induction a with
 |nil=>rfl
 |cons c r ih=>rw[List.map_cons,List.flatten_cons,ih];rfl
theorem zJq(l:List (List Nat)):(l.map tx).all flatV=true:=by
 induction l with
 |nil=>rfl
 |cons a r ih=>rw[List.map_cons,List.all_cons,ih];rfl
theorem zIH{n j:Nat}(h:j<n):ixN n (j:Int)=some j:=by
 unfold ixN
 simp[h]
def ckd(x:Int):Nat:=(atI [41,93,125,62] x).getD 0
def spRightD:Sp:=fun vs H Q _=>∃ (p:Addr) (k h:Int),vs=[.ref p, .int k, .int h]/\Po H p/\1<=k/\k<=4/\0<=h/\h<=20/\
 ∀row H',Rt row->(row.length:Int)=2*h->(∀c∈row,kin k c)->Po H' p->SameBut1 p H H'->Q (tx row) H'
theorem zGt{H:Hp}{p:Addr}{k h:Int}{Q:VK}{E:XK}(hd:Po H p)(h1:1<=k)(h2:k<=4)(h3:0<=h)(h4:h<=20)
 (q:∀row H',Rt row->(row.length:Int)=2*h->(∀c∈row,kin k c)->Po H' p->SameBut1 p H H'->Q (tx row) H'):spRightD ([.ref p, .int k, .int h]++[]) H Q E:=⟨p,k,h,rfl,hd,h1,h2,h3,h4,q⟩
def spRowD:Sp:=fun vs H Q _=>∃ (p:Addr) (k h:Int),vs=[.ref p, .int k, .int h]/\Po H p/\1<=k/\k<=4/\0<=h/\h<=20/\
 ∀row H',(row.length:Int)<=2*h+1->(∀c∈row,c∈sgn k)->Po H' p->SameBut1 p H H'->Q (tx row) H'
theorem zJL{H:Hp}{p:Addr}{k h:Int}{Q:VK}{E:XK}(hd:Po H p)(h1:1<=k)(h2:k<=4)(h3:0<=h)(h4:h<=20)
 (q:∀row H',(row.length:Int)<=2*h+1->(∀c∈row,c∈sgn k)->Po H' p->SameBut1 p H H'->Q (tx row) H'):spRowD ([.ref p, .int k, .int h]++[]) H Q E:=⟨p,k,h,rfl,hd,h1,h2,h3,h4,q⟩
def spPlaceE(K:PySem.W.Frag)(cs:Cs):Sp:=fun vs H Q E=>∃a v,vs=[tx a,v]/\a.length<=40/\((∃i:Int,v= .int i/\0<=i/\i<a.length/\Q .non H)\/(NoN K 0 ((a.length:Int)-1) H v/\Ref E cs.NoPlace H))
def spCheckFillE(cs:Cs):Sp:=fun vs H Q E=>∃H0 s ad n T,vs=[.ref s]/\Tb H0 H s ad n T/\((T 0 n≠0/\Q .non H)\/(T 0 n=0/\Ref E cs.NoFilling H))
end BrS
namespace BrS
open L2 PySem BrM BrC
abbrev En:=List Nat×List Nat
def exB(n at' c:Nat)(e:En)(b:Nat):List En:=
 if c=63\/c=brs.getD b 0 then
  (if b%2=0 then(if e.2.length+at'+1<n then [(e.1++[brs.getD b 0],b/2::e.2)]else [])
   else match e.2 with
    |[]=>[]
    |p::r=>if p=b/2 then [(e.1++[brs.getD b 0],r)]else [])
 else []
def exs(k n at' c:Nat)(e:En):List En:=(List.range (2*k)).flatMap (exB n at' c e)
def fls(k:Nat)(a:List Nat):Nat->List En
 |0=>[([],[])]
 |i+1=>(fls k a i).flatMap (exs k a.length i (a.getD i 0))
def res(k:Nat)(a:List Nat):List (List Nat):=((fls k a a.length).filter fun e=>decide (e.2=[])).map (·.1)
def sts(t:List Nat):List Nat:=(t.map clc).reverse
inductive Ens (H:Hp):List Addr->List En->Prop
 |nil:Ens H [] []
 |cons {a:Addr} {e:En} {as:List Addr} {es:List En} (h:H a=some (.tup [tx e.1,tx (sts e.2)])) (r:Ens H as es):Ens H (a::as) (e::es)
theorem Ens.len{H:Hp}{as:List Addr}{es:List En}(h:Ens H as es):as.length=es.length:=by
 induction h with
 |nil=>rfl
 |cons _ _ ih=>rw[List.length_cons,List.length_cons,ih]
theorem Ens.get{H:Hp}{as:List Addr}{es:List En}(h:Ens H as es):∀ {i:Nat} {a:Addr},as[i]? =some a->∃e,es[i]? =some e/\H a=some (.tup [tx e.1,tx (sts e.2)]):=by
 induction h with
 |nil=>intro i a z;simp at z
 |cons h r ih=>
  intro i a z
  cases i with
  |zero=>simp at z;subst z;exact⟨_,rfl,h⟩
  |succ i=>simpa using ih (by simpa using z)
theorem Ens.there{H:Hp}{as:List Addr}{es:List En}(h:Ens H as es):∀a∈as,∃o,H a=some o:=by
 induction h with
 |nil=>intro a z;cases z
 |cons h r ih=>
  intro a z
  rcases List.mem_cons.mp z with rfl|z
  ·exact⟨_,h⟩
  ·exact ih a z
structure Gr (H1 H':Hp) (lo:Addr) (as:List Addr) (L:List En):Prop where
 fl:H1 lo=none
 sm:Same H1 H'
 at':H' lo=some (.lst (as.map V.ref))
 en:Ens H' as L
 ni:lo∉as
theorem Gr.len{H1 H':Hp}{lo:Addr}{as:List Addr}{L:List En}(g:Gr H1 H' lo as L):as.length=L.length:=g.en.len
end BrS
namespace BrS
open L2 PySem BrM BrC BrR
def gd:V->Bool
 | .int i=>decide (0<=i)
 |_=>false
def Pln(K:PySem.W.Frag)(H:Hp)(v:V):Prop:=∃ty,TyOf K H v (.type ty)/\ty∈plainTy
def NoW(K:PySem.W.Frag)(k:Int)(H:Hp)(v:V):Prop:=(∃ty,TyOf K H v (.type ty)/\ty∈plainTy/\ty≠"list")\/
 ∃q xs,v= .ref q/\H q=some (.lst xs)/\xs.length<=1000/\((xs.length:Int)≠2*k\/((∀x∈xs,Pln K H x)/\∃x∈xs,gd x=false))
def NoB(K:PySem.W.Frag)(k:Int)(H:Hp)(v:V):Prop:=(∃a,v=tx a/\a.length<=1000/\∀c,a=[c]->c∉brs.take (2*k).toNat)\/∃ty,TyOf K H v (.type ty)/\ty∈plainTy/\ty≠"str"
theorem sm_zero(k:Nat):sm k (fun _=>0)=0:=by
 induction k with
 |zero=>rfl
 |succ k ih=>rw[sm,ih];rfl
theorem zNo{p:Addr}{H:Hp}{v:V}{d:PyData}(h:Sd p H v d)(a:Addr)(e:v= .ref a):a≠p:=by
 subst e
 cases h with
 |sc c=>cases c
 |lst _ n _=>exact n
 |tup _ n _=>exact n
 |dct _ n _=>exact n
theorem zKC{p:Addr}{H:Hp}:∀ {xs:List V} {ds:List PyData},Sds p H xs ds->∀x∈xs,∀a,x= .ref a->a≠p
 |_,_, .nil,_,h=>nomatch h
 |_,_, .cons h t,x,hx=>by
  rcases List.mem_cons.mp hx with rfl|z
  ·exact zNo h
  ·exact zKC t x z
theorem zNW{p q:Addr}{n m:Nat}{H:Hp}{xs:List V}(h:Dt p n m H (.ref q))(e:H q=some (.lst xs)):∀x∈xs,∀a,x= .ref a->a≠p:=by
 obtain⟨d,h,_⟩:=h
 cases h with
 |sc c=>cases c
 |lst h n r=>rw[e]at h;cases h;exact zKC r
 |tup h n r=>rw[e]at h;cases h
 |dct h n r=>rw[e]at h;cases h
theorem Pln.keep{K:PySem.W.Frag}{p:Addr}{H H':Hp}{v:V}(h:Pln K H v)(n:∀a,v= .ref a->a≠p)(s:SameBut1 p H H'):Pln K H' v:=let⟨ty,a,b⟩:=h;⟨ty,a.keep n s,b⟩
theorem NoW.keep{K:PySem.W.Frag}{k:Int}{p:Addr}{n m:Nat}{H H':Hp}{v:V}(h:NoW K k H v)(d:Dt p n m H v)(s:SameBut1 p H H'):NoW K k H' v:=by
 rcases h with⟨ty,a,b⟩|⟨q,xs,rfl,h,l,c⟩
 ·exact .inl ⟨ty,a.keep d.ne s,b⟩
 ·exact .inr ⟨q,xs,rfl,s _ _ h (d.ne q rfl),l,c.elim .inl fun⟨a,b⟩=> .inr ⟨fun x hx=>(a x hx).keep (zNW d h x hx) s,b⟩⟩
theorem NoB.keep{K:PySem.W.Frag}{k:Int}{p:Addr}{n m:Nat}{H H':Hp}{v:V}(h:NoB K k H v)(d:Dt p n m H v)(s:SameBut1 p H H'):NoB K k H' v:=h.elim .inl fun⟨ty,a,b⟩=> .inr ⟨ty,a.keep d.ne s,b⟩
end BrS
namespace BrP
open L2 PySem BrM
open PySem.Builtin PySem.Builtin.Str
end BrP
namespace BrP
open L2 PySem BrM
open PySem.Spec PyProof.Rows
section
variable{X:Cx}{pins:List (Addr×Obj)}{σ:List (Option V)}{H:Hp}{s:Shared}
end
section
variable{X:Cx}
end
end BrP
namespace BrP
open L2 PySem BrM
end BrP
namespace L2
open PySem PySem.Spec PyProof.Rows
def ExcOne(x C t0:Addr)(m:Str)(tk:Tok)(h:Heap):Prop:=(∃o vs,h.get? x=some o/\o.cls= .ref C/\o.data= .fields vs/\vs[0]? =some (.ref t0))/\∃o k,h.get? t0=some o/\o.data= .seq (#[.str m tk]) k
theorem ExcOne.at{x C t0:Addr}{m:Str}{tk:Tok}{h:Heap}(e:ExcOne x C t0 m tk h):ExcAt x C h:=let⟨⟨o,vs,a,b,c,_⟩,_⟩:=e;⟨o,vs,a,b,c⟩
section
variable{prog:Program}{w:World}{A:Around}{E:Value->Shared->Prop}{s:Shared}{K:PySem.W.Frag}{x C t0:Addr}{m:Str}{tk:Tok}
end
section
variable{X:Cx}{C:Addr}{x:Str}{e:Expr}{te:TE}{np cpos sp pos:Pos}
end
section
variable{X:Cx}
end
end L2
namespace L2
open PySem PySem.Spec PyProof.Rows BrR
section
variable{σ:St}{H:Hp}{Q:VK}{K:PySem.W.Frag}
end
end L2
namespace BrS
open L2 PySem BrM BrC BrR
end BrS
namespace L2
open PySem PySem.Spec PyProof.Rows
section
variable{X:Cx}
end
section
variable{X:Cx}{pins:List (Addr×Obj)}{σ:St}{H:Hp}{s:Shared}{h':Heap}
end
section
variable{X:Cx}{C:Addr}{x:Str}{e:Expr}{te:TE}{np cpos sp pos:Pos}
end
section
variable{σ:St}{H:Hp}{Q:VK}{K:PySem.W.Frag}
end
end L2
namespace BrS
open L2 PySem BrM BrC BrR BrP
end BrS
namespace L2
open PySem PySem.Spec PyProof.Rows
section
variable{X:Cx}{pins:List (Addr×Obj)}{σ:St}{H:Hp}{s:Shared}{a:Addr}
theorem Inv.frozen{kvs:List (Key×V)}{o:Obj}(I:Inv X pins σ H s)(e:H a=some (.dK kvs))(ho:s.heap.get? a=some o):Inv X pins σ (upd H a (.frz o (.dK kvs))) s:=by
 refine I.step (h':=s.heap) (g':=s.gens) (d':=s.drawn) (t':=s.toks) (ch:=[]) (fun _ z=>nomatch z) (fun b u _ _ _ q _=>q) (fun b u _ _ _ q _=>⟨u.slots,q⟩) (fun b u _ _ n=>?_) (fun b u _ q=>⟨u,q⟩) (fun b xs q=>?_) (fun b u xs q=>?_) (fun b ps q=>⟨#[],?_⟩) (fun m hm=>hm) ⟨fun b u q=>?_,fun u q=>?_,I.hok.bg⟩ I.bare
 ·rw[zAG (fun z=>by rw[z,e]at n;cases n)];exact n
 ·rw[zAG (fun z=>by rw[z,e]at q;cases q)];exact q
 ·rw[zAG (fun z=>by rw[z,e]at q;cases q)];exact q
 ·rw[zAG (fun z=>by rw[z,e]at q;cases q)];simpa using q
 ·by_cases hb:b=a
  ·subst hb
   rw[zAC]at q;cases q
   exact⟨ho,(show ObjOk X.prog X.w H s.heap b (.dK kvs)from I.hok b _ e)⟩
  ·rw[zAG hb]at q
   refine(I.hok b u q).stay (fun c v _ z=>z) (fun c z=>?_) fun c xs z=>?_
   ·rw[zAG (fun y=>by rw[y,e]at z;cases z)];exact z
   ·rw[zAG (fun y=>by rw[y,e]at z;cases z)];exact z
 ·by_cases hb:sysModules=a
  ·rw[hb,zAC]at q;cases q;exact⟨_,_,rfl⟩
  ·rw[zAG hb]at q;exact I.hok.sm u q
end
def Itd(d:Addr)(o:Obj)(kvs:List (Key×V)):It:=⟨fun i H=>H d=some (.frz o (.dK kvs))/\i<kvs.length,fun i H x H'=>H'=H/\∃k v,kvs[i]? =some (k,v)/\x=kV k,fun i H=>H d=some (.frz o (.dK kvs))/\i=kvs.length⟩
theorem zKS:∀ {kvs:List (Key×V)} {vs:List (Key×Value)},KV kvs vs->∀ {i:Nat} {k:Key} {u:Value},vs[i]? =some (k,u)->∃v,kvs[i]? =some (k,v)
 |_,_, .nil,i,k,u,h=>by simp at h
 |_,_, .cons (a:=p) (b:=q) r t,i,k,u,h=>by
  cases i with
  |zero=>simp at h;subst h;exact⟨p.2,by simp only[List.getElem?_cons_zero];exact congrArg some (Prod.ext r.1 rfl)⟩
  |succ i=>simp only[List.getElem?_cons_succ]at h⊢;exact zKS t h
theorem zKT{P:Program}{w:World}{k:Key}{v:Value}(h:(mixKind P w).is k v=true):RelV (kV k) v:=by
 rcases zAc h with⟨i,t,rfl,rfl⟩|⟨x,t,rfl,rfl⟩
 ·exact⟨t,rfl⟩
 ·exact⟨t,rfl⟩
theorem zIg{X:Cx}{pins:List (Addr×Obj)}{σ:St}{H:Hp}{s:Shared}{d:Addr}{o:Obj}{kvs:List (Key×V)}{es:Array DictEntry}{ep:Nat}(I:Inv X pins σ H s)(e:H d=some (.frz o (.dK kvs)))(ho:o.data= .dict es ep):
 ∃vs,KV kvs vs/\s.heap.DictAt (mixKind X.prog X.w) d vs ep:=by
 obtain⟨g,_,_,vs,rel,o',es',ep',g',a,b,c⟩:=(show ObjOk X.prog X.w H s.heap d (.frz o (.dK kvs))from I.hok d _ e)
 rw[g]at g';cases g'
 rw[ho]at b;cases b
 exact⟨vs,rel,o,es,g,a,ho,c⟩
theorem zHT{P:Program}{w:World}{K:PySem.W.Frag}{tg:Expr}{d it:Addr}{o:Obj}{kvs:List (Key×V)}{es:Array DictEntry}{ep:Nat}(ho:o.data= .dict es ep):
 Turn P w K tg (Itd d o kvs) [it] it (fun i h=>h.IsKeyIter it d i kvs.length ep) where
 mem:=by simp
 obj:=fun i h st b hb=>by
  obtain⟨o,ho,_,hd⟩:=st
  have e:b=it:=by simpa using hb
  subst e
  exact⟨o,ho,fun v z=>by rw[hd]at z;cases z⟩
 keep:=fun i h h' st k=>st.at fun o e=>k it (by simp) o e
 item:=by
  intro X hP hw hK hc i pins s σ H E I hf st hg
  subst hP hw hK
  obtain⟨hz,hi⟩:=hg
  obtain⟨vs,rel,hA⟩:=zIg I hz ho
  have hl:=rel.length
  have hne:d≠it:=fun z=>by rw[z,(hf it (by simp)).1]at hz;cases hz
  rw[hl]at st
  refine(Walks.dictKeys (I.ok.hd hc) it d hne vs ep).item i s _ _ (by omega) ⟨st,hA⟩ fun v h' tk hv st' kk=>?_
  obtain⟨k,x,hx,hk⟩:=hv
  obtain⟨st1,_⟩:=st'
  obtain⟨y,hy⟩:=zKS rel hx
  obtain⟨o1,ho1,hcl,hd⟩:=id st1
  have I1:Inv X pins σ H {s with heap:=h',toks:=tk}:=I.turnedAll hf kk
  rw[<-hl]at st1
  exact⟨v,rfl,zIP (s:={s with heap:=h',toks:=tk}) (n:="dict_keyiterator") ho1 hcl hd (by decide) ⟨kV k,H,I1,zKT hk,⟨rfl,k,y,hy,rfl⟩,st1,fun b hb=>(hf b hb).1⟩⟩
 done:=by
  intro X hP hw hK hc i pins s σ H E I hf st hg
  subst hP hw hK
  obtain⟨hz,hi⟩:=hg
  obtain⟨vs,rel,hA⟩:=zIg I hz ho
  have hl:=rel.length
  have hne:d≠it:=fun z=>by rw[z,(hf it (by simp)).1]at hz;cases hz
  rw[hi,hl]at st
  exact(Walks.dictKeys (I.ok.hd hc) it d hne vs ep).done s _ _ ⟨st,hA⟩ fun h' tk kk=>⟨rfl,I.turnedAll hf kk⟩
 self:=fun A i s Q E st h=>wpAny_pyIter_keyiter st h
def iDict(tl:TE):TI:=fun σ H R=>tl σ H fun x H1=>∃a kvs,x= .ref a/\H1 a=some (.dK kvs)/\∀o,R (Itd a o kvs) (upd H1 a (.frz o (.dK kvs)))
theorem zLU{X:Cx}{tg l:Expr}{tl:TE}(hl:PE X l tl):PI X tg l (iDict tl):=by
 intro pins s σ H R I h
 refine thn (hl pins s σ H _ I h) fun v s1 ⟨x,H1,I1,r1,q1⟩=>?_
 obtain⟨a,kvs,e,hk,q⟩:=q1
 subst e
 cases r1
 obtain⟨hz,hd,vs,rel,o,es,ep,g,h1,h2,h3⟩:=(show ObjOk X.prog X.w H1 s1.heap a (.dK kvs)from I1.hok a _ hk)
 have I2:=I1.frozen hk g
 have ll:=rel.length
 refine wpAny_pyIter_dict (knd:=mixKind X.prog X.w) hd ⟨o,es,g,h1,h2,h3⟩ ?_
 refine⟨s1.heap.objs.size,[s1.heap.objs.size],_,_,_,rfl,I2.kept (t':=s1.toks) fun b o e=>Heap.get?_push_of_some _ e,zHT h2,?_,fun b hb=>?_,q o⟩
 ·rw[ll];exact⟨_,Heap.get?_push_size _ rfl,rfl,rfl⟩
 ·have e:b=s1.heap.objs.size:=by simpa using hb
  subst e
  exact I2.fpOk (Nat.le_refl _) (I2.hok.fresh (Nat.le_refl _))
section
variable{K:PySem.W.Frag}{g:TG}{tb:TS}{D:Ends}{σ:St}{H:Hp}{Q:VK}
end
section
variable{K:PySem.W.Frag}{σ:St}{H:Hp}{Q:VK}{D:Ends}
theorem zLB{td ty tz:TE}(h:td σ H fun x H1=>∃a,x= .ref a/\IsD H1 a/\ty σ H1 fun y H2=>tz σ H2 fun z H3=>∃o,DGet H3 a y o/\Q (o.getD z) H3):tDGet2 td ty tz σ H Q:=h
theorem zMY{td ty tv:TE}(h:tv σ H fun v H1=>td σ H1 fun x H2=>ty σ H2 fun y H3=>∃a H4,x= .ref a/\DPut H3 a y v H4/\D.nx σ H4):sDPut td ty tv D σ H:=h
theorem zK9{tl:TE}{R:It->Hp->Prop}(h:tl σ H fun x H1=>∃a kvs,x= .ref a/\H1 a=some (.dK kvs)/\∀o,R (Itd a o kvs) (upd H1 a (.frz o (.dK kvs)))):iDict tl σ H R:=h
end
end L2
namespace BrS
open L2 PySem BrM BrC BrR
def Ok4(st:List Nat):Prop:=∀p∈st,p<4
abbrev Es:=List (List Nat×Int)
structure Wf (es:Es):Prop where
 nd:(es.map (·.1)).Nodup
 ok:∀e∈es,Ok4 e.1
 pos:∀e∈es,1<=e.2
theorem Wf.nil:Wf []:=⟨by simp,(fun _ h=>nomatch h),(fun _ h=>nomatch h)⟩
theorem Wf.tail{e:List Nat×Int}{r:Es}(w:Wf (e::r)):Wf r:=⟨(List.nodup_cons.mp w.nd).2,fun x h=>w.ok x (List.mem_cons_of_mem _ h),fun x h=>w.pos x (List.mem_cons_of_mem _ h)⟩
theorem units1{k:Nat}{A:Around}(r:Room k A):A.units+1<cLine:=by have:=r.un;omega
end BrS
namespace BrT
open PySem
def Rise(a:Array Nat):Prop:=a.toList.Pairwise (· < ·)
theorem Rise.lt{a:Array Nat}(r:Rise a){i j x y:Nat}(hij:i<j)(hx:a[i]? =some x)(hy:a[j]? =some y):x<y:=by
 have hx':a.toList[i]? =some x:=by simpa using hx
 have hy':a.toList[j]? =some y:=by simpa using hy
 obtain⟨hi,rfl⟩:=List.getElem?_eq_some_iff.mp hx'
 obtain⟨hj,rfl⟩:=List.getElem?_eq_some_iff.mp hy'
 exact(List.pairwise_iff_getElem.mp r) i j hi hj hij
def Tb(l:Bool)(t:SetTable):Prop:=Rise t.place/\t.led=l
theorem Tb.plain{l:Bool}{t:SetTable}(h:Tb l t):Tb l {t with plain:=false}:=h
end BrT
namespace BrT
open PySem PySem.Spec PyProof.Rows
def keyOf(e:Int×Value):Int:=match e.2 with| .int k _=>k|_=>0
section
variable{prog:Program}{w:World}{A:Around}{E:Value->Shared->Prop}{s:Shared}
def SO(prog:Program)(w:World)(l:Bool)(es:Array (Int×Value))(t:SetTable)(ms:List Int):Prop:=
 ElemsOf (intKind prog w) es.toList/\(es.toList.map keyOf).Nodup/\(∀k,k∈es.toList.map keyOf↔k∈ms)/\es.size<=ms.length/\t.fits es.size=true/\Tb l t
def SI(prog:Program)(w:World)(l:Bool)(h:Heap)(a:Addr)(ms:List Int):Prop:=
 ∃o es ep t,h.get? a=some o/\o.ExactSet/\o.data= .set es ep t/\SO prog w l es t ms
theorem SI.at{l:Bool}{h h':Heap}{a:Addr}{ms:List Int}(i:SI prog w l h a ms)(k:∀o,h.get? a=some o->h'.get? a=some o):SI prog w l h' a ms:=
 let⟨o,es,ep,t,ho,r⟩:=i;⟨o,es,ep,t,k o ho,r⟩
theorem stored{l:Bool}{h:Heap}{a:Addr}{o:Obj}{es es':Array (Int×Value)}{ep:Nat}{t t':SetTable}{ms:List Int}(ho:h.get? a=some o)(hex:o.ExactSet)(hd:o.data= .set es ep t)(i:SO prog w l es' t' ms):
 (h.update a (Obj.putSet es' t')).get? a=some {o with data:= .set es' (ep+1) t'}/\SI prog w l (h.update a (Obj.putSet es' t')) a ms:=by
 have g:=Heap.get?_update_self (Obj.putSet es' t') ho (by rw[putSet_of es' t' hd];rfl)
 rw[putSet_of es' t' hd]at g
 exact⟨g,_,es',ep+1,t',g,hex,rfl,i⟩
def byT(w:World):Bool:=w.params.followText "set-order"
structure It (h:Heap) (I:Addr) (f:Value) (i:Nat) (S:Addr) (n ep:Nat):Prop where
 at_:∃o,h.get? I=some o/\o.cls= .type "set_iterator"/\o.data= .fields #[f, .int i 0, .ref S, .int n 0, .int ep 0]
theorem It.ty{I:Addr}{f:Value}{i:Nat}{S:Addr}{n ep:Nat}(x:It s.heap I f i S n ep):s.TypeIs (.ref I) "set_iterator":=let⟨o,ho,hc,_⟩:=x.at_;⟨o,ho,hc⟩
theorem It.keep{h h':Heap}{I:Addr}{f:Value}{i:Nat}{S:Addr}{n ep:Nat}(x:It h I f i S n ep)(k:∀o,h.get? I=some o->h'.get? I=some o):It h' I f i S n ep:=let⟨o,ho,r⟩:=x.at_;⟨o,k o ho,r⟩
def Seto(h:Heap)(S:Addr)(es:Array (Int×Value))(ep:Nat)(t:SetTable):Prop:=∃o,h.get? S=some o/\o.ExactSet/\o.data= .set es ep t/\t.fits es.size=true
theorem Seto.keep{h h':Heap}{S:Addr}{es:Array (Int×Value)}{ep:Nat}{t:SetTable}(x:Seto h S es ep t)(k:∀o,h.get? S=some o->h'.get? S=some o):Seto h' S es ep t:=let⟨o,ho,r⟩:=x;⟨o,k o ho,r⟩
def slotP(t:SetTable)(i:Nat):Nat:=if i=0 then 0 else t.place.getD (i-1) 0+1
inductive Way (w:World) (S:Addr) (h:Heap) (es:Array (Int×Value)) (ep:Nat) (t:SetTable):(Nat->Value)->List Value->Prop
 |places (hb:byT w=false) (hp:t.plain=true\/es.size<=1) (hl:t.led=true) (r:Rise t.place):Way w S h es ep t (fun i=>rawInt (slotP t i:Nat)) (es.toList.map (·.2))
 |text (hb:byT w=true):Way w S h es ep t (fun _=>rawInt (0:Nat)) ((pickOrder (w.params.setOrder S ep) es).toList.map (·.2))
 |draws (T:Addr) (ps:List Nat) (o:Obj) (hT:h.get? T=some o) (hd:∃n,o.data= .seq (ps.map fun(i:Nat)=>rawInt i).toArray n) (hp:ps.Perm (List.range es.size)):Way w S h es ep t (fun _=> .ref T) (ps.map fun i=>(es.getD i (0, .none)).2)
theorem Way.at{S:Addr}{h h':Heap}{es:Array (Int×Value)}{ep:Nat}{t:SetTable}{f:Nat->Value}{ys:List Value}(x:Way w S h es ep t f ys)(k:∀T,f 0= .ref T->∀o,h.get? T=some o->h'.get? T=some o):Way w S h' es ep t f ys:=by
 cases x with
 |places hb hp hl r=>exact .places hb hp hl r
 |text hb=>exact .text hb
 |draws T ps o hT hd hp=>exact .draws T ps o (k T rfl o hT) hd hp
end
end BrT
namespace L2
open PySem PySem.Spec PyProof.Rows
section
variable{X:Cx}{e:Expr}{te:TE}{np cpos sp pos:Pos}
end
end L2
namespace BrT
open PySem PySem.Spec PyProof.Rows
section
variable{prog:Program}{w:World}{A:Around}{E:Value->Shared->Prop}{s:Shared}
end
end BrT
namespace L2
open PySem PySem.Spec PyProof.Rows
section
variable{X:Cx}{e:Expr}{te:TE}{np cpos sp pos:Pos}
end
end L2
namespace BrC
variable{P:Nat->Nat->Int}{k:Nat}
theorem zIn:∀ (M m i:Nat),m<=M->cv P k (m+1) i []=sm m fun a=>cv P k a i []*pr P k (i+a) (i+m)*cv P k (m-a-1) (i+a+1) []
 |_,0,i,_=>by rw[zFG];rfl
 |0,m+1,i,h=>by omega
 |M+1,m+1,i,h=>by
  rw[zFG,sm,zD5]
  have e0:pr P k i (i+1+m)*cv P k m (i+1) []*cv P k (m+1-m-1) (i+m+2) []=cv P k 0 i []*pr P k (i+0) (i+(m+1))*cv P k (m+1-0-1) (i+0+1) []:=by
   rw[show m+1-m-1=0 by omega,show i+1+m=i+(m+1) by omega,show m+1-0-1=m by omega,show cv P k 0 (i+m+2) []=1 from rfl,show cv P k 0 i []=1 from rfl]
   simp
  rw[e0,Int.add_comm]
  congr 1
  have e1:sm m (fun e=>pr P k i (i+1+e)*cv P k e (i+1) []*cv P k (m+1-e-1) (i+e+2) [])=sm m (fun e=>sm (m-e-1) fun b=>(pr P k i (i+1+e)*cv P k e (i+1) []*cv P k (e+1+b-e-1) (i+e+2) [])*(pr P k (i+(e+1+b)+1) (i+(m+1))*cv P k (m-(e+1+b)-1) (i+(e+1+b)+2) [])):=by
   refine zAJ m fun e he=>?_
   rw[show m+1-e-1=(m-e-1)+1 by omega,zIn M (m-e-1) (i+e+2) (by omega),<-zBM]
   refine zAJ _ fun b hb=>?_
   rw[show e+1+b-e-1=b by omega,show i+e+2+b=i+(e+1+b)+1 by omega,show i+e+2+(m-e-1)=i+(m+1) by omega,show m-e-1-b-1=m-(e+1+b)-1 by omega,show i+(e+1+b)+1+1=i+(e+1+b)+2 by omega]
   simp only[Int.mul_assoc]
  rw[e1,zHa (fun e q=>(pr P k i (i+1+e)*cv P k e (i+1) []*cv P k (q-e-1) (i+e+2) [])*(pr P k (i+q+1) (i+(m+1))*cv P k (m-q-1) (i+q+2) []))]
  refine zAJ m fun q hq=>?_
  rw[zBi,<-zFG,show i+(q+1)=i+q+1 by omega,show m+1-(q+1)-1=m-q-1 by omega,show i+q+1+1=i+q+2 by omega,Int.mul_assoc]
end BrC
namespace L2
open PySem PySem.Spec PyProof.Rows BrR
section
variable{σ:St}{H:Hp}{Q:VK}{K:PySem.W.Frag}
end
end L2
namespace BrS
open L2 PySem BrM BrC BrR
def F14(k:Nat)(a:List Nat)(b e:Nat):Int:=cv (PP (a.map (plw (ones k)))) k (e-b) b []
def ky(b e:Nat):List Key:=[.inl (b:Int), .inl (e:Int)]
def DW(k:Nat)(a:List Nat)(kvs:List (List Key×V))(E q:Nat):Prop:=
 (∀b e:Nat,valV kvs (ky b e)=if b<=e/\(e-b)%2=0/\(e<E\/(e=E/\E<b+2*q))then some (.int (F14 k a b e))else none)/\kvs.length<=E*41+q
theorem DW.get{k:Nat}{a:List Nat}{kvs:List (List Key×V)}{E q b e:Nat}(h:DW k a kvs E q)(h1:b<=e)(h2:(e-b)%2=0)(h3:e<E\/(e=E/\E<b+2*q)):valV kvs (ky b e)=some (.int (F14 k a b e)):=by
 rw[h.1,if_pos ⟨h1,h2,h3⟩]
theorem DW.at{k:Nat}{a:List Nat}{kvs:List (List Key×V)}{E q b e:Nat}{H:Hp}{d T:Addr}(h:DW k a kvs E q)(gd:H d=some (.dT kvs))(hT:H T=none)(h1:b<=e)(h2:(e-b)%2=0)(h3:e<E):DGet (upd H T (.tup [.int (b:Int), .int (e:Int)])) d (.ref T) (some (.int (F14 k a b e))):=by
 rw[<-h.get h1 h2 (.inl h3)]
 exact DGet.t (k:=ky b e) (by rw[zAG (zAE gd hT)];exact gd) zAC
theorem DW.zero{k:Nat}{a:List Nat}:DW k a [] 0 0:=⟨fun b e=>by rw[zJC,if_neg (by omega)],by simp⟩
end BrS
namespace L2
open PySem PySem.Spec PyProof.Rows
section
variable{prog:Program}{w:World}{A:Around}{R:Result->Shared->Prop}{s:Shared}
end
section
variable{Y:Cx}
end
section
variable{X:Cx}
end
end L2
namespace L2
open PySem PySem.Spec PyProof.Rows BrR
section
variable{X:Cx}
end
end L2
namespace BrS
open L2 PySem BrM BrC BrR
def Go(k:Nat):List Nat->List Nat->List Nat->Prop
 |[],s,t=>s=t
 |c::a,s,t=>(∃p,p<k/\0<pw k c (2*p)/\Go k a (p::s) t)\/(∃o r,s=o::r/\0<pw k c (2*o+1)/\Go k a r t)
variable{k:Nat}
theorem Go.split:∀ {a b s t:List Nat},Go k (a++b) s t->∃u,Go k a s u/\Go k b u t
 |[],_,_,_,h=>⟨_,rfl,h⟩
 |c::a,b,s,t,h=>by
  rcases h with⟨p,h1,h2,h3⟩|⟨o,r,h1,h2,h3⟩
  ·obtain⟨u,x,y⟩:=Go.split h3;exact⟨u, .inl ⟨p,h1,h2,x⟩,y⟩
  ·obtain⟨u,x,y⟩:=Go.split h3;exact⟨u, .inr ⟨o,r,h1,h2,x⟩,y⟩
theorem zJn(r:List Nat):∀ (a s:List Nat),0<ws k (a++r) s↔∃t,Go k a s t/\0<ws k r t
 |[],s=>⟨fun h=>⟨s,rfl,h⟩,fun⟨t,h,g⟩=>by cases h;exact g⟩
 |c::a,s=>by
  have nn:=fun s=>zCw (k:=k) (a++r) s
  have po:=fun b=>zC7 k c b
  have key:∀f:Nat->Int,(∀p,0<=f p)->(0<sm k f↔∃p,p<k/\0<f p):=by
   intro f hf
   constructor
   ·intro h
    refine Classical.byContradiction fun z=>?_
    have:sm k f=0:=BrC.sm_zero k fun p hp=>by
     have h1:=hf p
     have h2:¬0<f p:=fun y=>z ⟨p,hp,y⟩
     omega
    omega
   ·rintro⟨p,hp,h⟩
    have:=zJF (f:=f) hp fun j _=>hf j
    omega
  have mul:∀ {x y:Int},0<=x->0<=y->(0<x*y↔0<x/\0<y):=by
   intro x y hx hy
   constructor
   ·intro h
    constructor
    ·rcases Int.lt_or_eq_of_le hx with z|z
     ·exact z
     ·rw[<-z]at h;simp at h
    ·rcases Int.lt_or_eq_of_le hy with z|z
     ·exact z
     ·rw[<-z]at h;simp at h
   ·rintro⟨a,b⟩;exact Int.mul_pos a b
  have k1:=key (fun p=>pw k c (2*p)*ws k (a++r) (p::s)) fun p=>Int.mul_nonneg (po _) (nn _)
  have f1:(0<sm k (fun p=>pw k c (2*p)*ws k (a++r) (p::s)))↔∃p,p<k/\0<pw k c (2*p)/\∃t,Go k a (p::s) t/\0<ws k r t:=by
   rw[k1]
   constructor
   ·rintro⟨p,hp,h⟩
    obtain⟨h1,h2⟩:=(mul (po _) (nn _)).mp h
    exact⟨p,hp,h1,(zJn r a (p::s)).mp h2⟩
   ·rintro⟨p,hp,h1,h2⟩
    exact⟨p,hp,(mul (po _) (nn _)).mpr ⟨h1,(zJn r a (p::s)).mpr h2⟩⟩
  have s1:0<=sm k (fun p=>pw k c (2*p)*ws k (a++r) (p::s)):=zAT k fun p _=>Int.mul_nonneg (po _) (nn _)
  cases s with
  |nil=>
   rw[List.cons_append,zJ7,f1]
   constructor
   ·rintro⟨p,hp,h1,t,h2,h3⟩;exact⟨t, .inl ⟨p,hp,h1,h2⟩,h3⟩
   ·rintro⟨t,(⟨p,hp,h1,h2⟩|⟨o,q,e,_⟩),h3⟩
    ·exact⟨p,hp,h1,t,h2,h3⟩
    ·cases e
  |cons o q=>
   rw[List.cons_append,zHO]
   have s2:0<=pw k c (2*o+1)*ws k (a++r) q:=Int.mul_nonneg (po _) (nn _)
   have f2:0<pw k c (2*o+1)*ws k (a++r) q↔0<pw k c (2*o+1)/\∃t,Go k a q t/\0<ws k r t:=by
    rw[mul (po _) (nn _),zJn r a q]
   constructor
   ·intro h
    by_cases h1:0<sm k (fun p=>pw k c (2*p)*ws k (a++r) (p::o::q))
    ·obtain⟨p,hp,h1,t,h2,h3⟩:=f1.mp h1;exact⟨t, .inl ⟨p,hp,h1,h2⟩,h3⟩
    ·obtain⟨h4,t,h5,h6⟩:=f2.mp (by omega);exact⟨t, .inr ⟨o,q,rfl,h4,h5⟩,h6⟩
   ·rintro⟨t,(⟨p,hp,h1,h2⟩|⟨o',q',e,h1,h2⟩),h3⟩
    ·have:=f1.mpr ⟨p,hp,h1,t,h2,h3⟩;omega
    ·cases e
     have:=f2.mpr ⟨h1,t,h2,h3⟩;omega
theorem zJo(a:List Nat):Go k a [] []↔0<ws k a []:=by
 have:=zJn (k:=k) [] a []
 rw[List.append_nil]at this
 rw[this]
 constructor
 ·intro h;exact⟨[],h,by show(0:Int)<1;decide⟩
 ·rintro⟨t,h1,h2⟩
  cases t with
  |nil=>exact h1
  |cons o r=>exact absurd h2 (by show¬ (0:Int)<0;decide)
def Dep(k:Nat)(a:List Nat)(x:Int):Prop:=∃t,Go k a [] t/\(t.length:Int)=x
theorem Dep.zero(a:List Nat):Dep k a 0↔0<ws k a []:=by
 rw[<-zJo]
 constructor
 ·rintro⟨t,h,e⟩
  have:t=[]:=List.eq_nil_of_length_eq_zero (by omega)
  subst this;exact h
 ·intro h;exact⟨[],h,rfl⟩
end BrS
namespace L2
open PySem PySem.Spec PyProof.Rows BrR
section
variable{σ:St}{H:Hp}{Q:VK}{K:PySem.W.Frag}
end
end L2
namespace BrS
open L2 PySem BrM BrC BrR
structure PlA (H H':Hp) (r:Addr) (ad:Nat->Addr) (L:List (List Int)):Prop where
 fr:H r=none
 fa:∀i,i<L.length->H (ad i)=none
 top:H' r=some (.lst ((List.range L.length).map fun i=>V.ref (ad i)))
 row:∀i,i<L.length->H' (ad i)=some (iL (L.getD i []))
 sm:Same H H'
theorem PlA.pls{H H':Hp}{r:Addr}{ad:Nat->Addr}{L:List (List Int)}(h:PlA H H' r ad L):Pls H' r L:=⟨ad,h.top,h.row⟩
theorem PlA.push{H H' H2:Hp}{r p:Addr}{ad:Nat->Addr}{L:List (List Int)}{ns:List Int}(h:PlA H H' r ad L)(s:Same H' H2)(hp:H' p=none)(gp:H2 p=some (iL ns)):
 PlA H (upd H2 r (.lst (((List.range L.length).map fun i=>V.ref (ad i))++[V.ref p]))) r (fun i=>if i<L.length then ad i else p) (L++[ns]):=by
 have nr:p≠r:=fun z=>by rw[z,h.top]at hp;cases hp
 have na:∀i,i<L.length->ad i≠r:=fun i hi z=>by
  have h1:=h.row i hi
  rw[z,h.top]at h1
  injection h1 with h1
  injection h1 with h1
  have h2:=congrArg List.length h1
  simp only[List.length_map,List.length_range]at h2
  have h3:((List.range L.length).map fun i=>V.ref (ad i))[0]? =((L.getD i []).map V.int)[0]? :=by rw[h1]
  rw[List.getElem?_map,List.getElem?_map,List.getElem?_range (by omega),List.getElem?_eq_getElem (by omega)]at h3
  simp at h3
 refine⟨h.fr,fun i hi=>?_,?_,fun i hi=>?_,fun b o z=>?_⟩
 ·by_cases c:i<L.length
  ·rw[if_pos c];exact h.fa i c
  ·rw[if_neg c];exact h.sm.free hp
 ·rw[zAC,List.length_append,List.length_singleton,List.range_succ,List.map_append]
  have e1:((List.range L.length).map fun i=>V.ref (if i<L.length then ad i else p))=(List.range L.length).map fun i=>V.ref (ad i):=List.map_congr_left fun i hi=>by rw[if_pos (List.mem_range.mp hi)]
  rw[e1];simp
 ·by_cases c:i<L.length
  ·simp only[if_pos c]
   rw[zAG (na i c),s _ _ (h.row i c),List.getD_eq_getElem?_getD,List.getD_eq_getElem?_getD,List.getElem?_append_left c]
  ·have e:i=L.length:=by simp at hi;omega
   subst e
   simp only[Nat.lt_irrefl,if_false]
   rw[zAG nr,gp,List.getD_eq_getElem?_getD,List.getElem?_append_right (Nat.le_refl _)]
   simp
 ·rw[zAG (zAE z h.fr)];exact s _ _ (h.sm b o z)
def Goes(k:Nat)(a:List Nat):Prop:=∃t,Go k a [] t
noncomputable def goB (k:Nat) (a:List Nat):Bool:= @decide (Goes k a) (Classical.propDecidable _)
theorem Goes.take{k:Nat}{a:List Nat}(h:Goes k a)(i:Nat):Goes k (a.take i):=by
 obtain⟨t,ht⟩:=h
 rw[<-List.take_append_drop i a]at ht
 obtain⟨u,hu,_⟩:=Go.split ht
 exact⟨u,hu⟩
end BrS
namespace L2
open PySem PySem.Spec PyProof.Rows
section
variable{X:Cx}
section
variable{σ:St}{H:Hp}{Q:VK}{K:PySem.W.Frag}
end
end
end L2
namespace BrS
open L2 PySem BrM BrC BrR
end BrS
namespace L2
open PySem PySem.Spec PyProof.Rows
section
variable{X:Cx}{k:Nat}{C:Addr}{m x:Str}{ps:List Str}{sp:Sp}{e o value:Expr}{es:List Expr}{ta tv:TE}{t:TA}{p pos apos pos' tpos:Pos}{f:Str}
end
section
variable{σ:St}{H:Hp}{Q:VK}{K:PySem.W.Frag}{D:Ends}{C:Addr}{m f:Str}{sp:Sp}{E:XK}{ta tv:TE}{t:TA}{rd:V->V->Hp->VK->Prop}
end
section
variable{X:Cx}
theorem IntsAre.at{P:Nat->Value->Prop}:∀ {ks:List Int} {vs:List Value},vs.length=ks.length->(∀ (j:Nat) (v:Value),vs[j]? =some v->∃ (k:Int) (t:Tok),ks[j]? =some k/\v= .int k t)->IntsAre vs ks
 |[],[],_,_=> .nil
 |[],_::_,h,_=>by cases h
 |_::_,[],h,_=>by cases h
 |k::ks,v::vs,h,hp=>by
  obtain⟨k2,t,e,ev⟩:=hp 0 v rfl
  cases e
  subst ev
  exact .cons k t (IntsAre.at (P:=P) (by simpa using h) fun j v hv=>hp (j+1) v hv)
end
end L2
namespace BrS
open L2 PySem BrM BrC BrR
abbrev pa_(k:Nat)(a:List Nat):Nat->Nat->Int:=PP (a.map (plw (ones k)))
def W(k:Nat)(a:List Nat)(i:Nat)(st:List Nat):Int:=cv (pa_ k a) k (a.length-i) i st
def rowW(k:Nat)(a:List Nat)(st:List Nat):List Int:=(List.range (a.length+1)).map fun i=>W k a i st
theorem zNh{k:Nat}{a:List Nat}(hk:k<=4)(ha:a.length<=40)(i:Nat)(st:List Nat):0<=W k a i st/\W k a i st<=cap:=zFI hk (fun l hl=>(zAj hk l hl).2) (by omega) i st
def clsV(st:List Nat):List V:=st.reverse.map fun p:Nat=>V.int (2*(p:Int)+1)
def cf(pl sm cl rs:Addr)(at':Int):List (Str×V):=[("places", .ref pl),("sums", .ref sm),("at", .int at'),("closings", .ref cl),("rests", .ref rs)]
structure CoS (C:Addr) (H0 H:Hp) (co:Addr) (k:Nat) (a:List Nat) (at':Nat) (st:List Nat) (dx pl sm cl rs:Addr) (Hz Hb:Hp) (ad:Nat->Addr) (ra:List Addr):Prop where
 ob:H co=some (.ins C dx (cf pl sm cl rs at'))
 pls:Pls Hb pl (a.map (plw (ones k)))
 tb:Tb Hz Hb sm ad a.length (tbl (pa_ k a) k)
 keep:SameBut1 co Hb H
 nco:∀xs,Hb co≠some (.lst xs)
 ncl:Hb cl=none
 nrs:Hb rs=none
 ne:cl≠rs
 clo:H cl=some (.lst (clsV st))
 res:H rs=some (.lst (ra.map V.ref))
 ral:ra.length=st.length+1
 rows:∀ (j:Nat) x,ra[j]? =some x->H x=some (iL (rowW k a (st.drop (st.length-j))))/\x≠cl/\x≠rs
 h0:Same H0 H
 h0co:H0 co=none
 h0cl:H0 cl=none
 h0rs:H0 rs=none
 len:a.length<=40
 hk:k<=4
section
variable{C:Addr}{H0 H:Hp}{co:Addr}{k:Nat}{a:List Nat}{at':Nat}{st:List Nat}{dx pl sm cl rs:Addr}{Hz Hb:Hp}{ad:Nat->Addr}{ra:List Addr}
theorem CoS.lst(c:CoS C H0 H co k a at' st dx pl sm cl rs Hz Hb ad ra){b:Addr}{xs:List V}(h:Hb b=some (.lst xs)):H b=some (.lst xs):=c.keep _ _ h fun z=>c.nco xs (by rw[<-z];exact h)
theorem CoS.top(c:CoS C H0 H co k a at' st dx pl sm cl rs Hz Hb ad ra):∃x,atI (ra.map V.ref) (-1)=some (.ref x)/\H x=some (iL (rowW k a st)):=by
 obtain⟨x,hx⟩:∃x,ra[st.length]? =some x:=⟨_,List.getElem?_eq_getElem (by rw[c.ral];omega)⟩
 refine⟨x,zF4 (by rw[List.length_map,c.ral];omega) (by rw[List.length_map,c.ral,List.getElem?_map,Nat.add_sub_cancel,hx];rfl),?_⟩
 have:=(c.rows _ x hx).1
 rwa[Nat.sub_self,List.drop_zero]at this
end
def mw(k:Nat)(a:List Nat)(i:Nat)(st:List Nat)(b:Nat):Int:=if b%2=0 then pa_ k a i b*W k a (i+1) (b/2::st)else match st with|[]=>0|o::s'=>if 2*o+1=b then pa_ k a i b*W k a (i+1) s' else 0
def stb(st:List Nat)(b:Nat):List Nat:=if b%2=0 then b/2::st else st.tail
end BrS
namespace L2
open PySem PySem.Spec PyProof.Rows
end L2
namespace BrS
open L2 PySem BrM BrC BrR
theorem zKO{k:Nat}{a:List Nat}(hk:k<=4)(i b:Nat):0<=pa_ k a i b/\pa_ k a i b<=top30:=zAn (fun l hl=>(zAj hk l hl).2) i b
theorem zLb{k:Nat}{a:List Nat}(hk:k<=4){i b:Nat}(hi:i<a.length):pa_ k a i b=0\/pa_ k a i b=1:=by
 show((a.map (plw (ones k))).getD i []).getD b 0=0\/((a.map (plw (ones k))).getD i []).getD b 0=1
 rw[List.getD_eq_getElem?_getD (l:=a.map (plw (ones k))),List.getElem?_map,List.getElem?_eq_getElem hi]
 show(plw (ones k) a[i]).getD b 0=0\/(plw (ones k) a[i]).getD b 0=1
 unfold plw
 rw[List.getD_eq_getElem?_getD]
 split
 ·cases e:(ones k)[b]? with
  |none=>exact .inl rfl
  |some v=>
   have:=List.mem_of_getElem? e
   rw[List.eq_of_mem_replicate this]
   exact .inr rfl
 ·rw[List.getElem?_map]
  cases e:(brs.take (ones k).length)[b]? with
  |none=>exact .inl rfl
  |some v=>
   show(if a[i]=v then(1:Int)else 0)=0\/(if a[i]=v then(1:Int)else 0)=1
   split
   ·exact .inr rfl
   ·exact .inl rfl
section
variable{C:Addr}{H0 H:Hp}{co:Addr}{k:Nat}{a:List Nat}{i:Nat}{st:List Nat}{dx pl sm cl rs:Addr}{Hz Hb:Hp}{ad:Nat->Addr}{ra:List Addr}
theorem CoS.nl(c:CoS C H0 H co k a i st dx pl sm cl rs Hz Hb ad ra){b:Addr}{xs:List V}(h:H b=some (.lst xs)):b≠co:=fun z=>by rw[z,c.ob]at h;cases h
theorem CoS.at(c:CoS C H0 H co k a i st dx pl sm cl rs Hz Hb ad ra)(j:Nat):CoS C H0 (upd H co (.ins C dx (cf pl sm cl rs j))) co k a j st dx pl sm cl rs Hz Hb ad ra:=
 {ob:=zAC,pls:=c.pls,tb:=c.tb,keep:=c.keep.trans SameBut1.upd,nco:=c.nco,ncl:=c.ncl,nrs:=c.nrs,ne:=c.ne
  clo:=by rw[zAG (c.nl c.clo)];exact c.clo
  res:=by rw[zAG (c.nl c.res)];exact c.res
  ral:=c.ral
  rows:=fun n x hx=>⟨by rw[zAG (c.nl (c.rows n x hx).1)];exact(c.rows n x hx).1,(c.rows n x hx).2⟩
  h0:=fun b o z=>by rw[zAG (zAE z c.h0co)];exact c.h0 _ _ z
  h0co:=c.h0co,h0cl:=c.h0cl,h0rs:=c.h0rs,len:=c.len,hk:=c.hk}
theorem CoS.two(c:CoS C H0 H co k a i st dx pl sm cl rs Hz Hb ad ra)(st':List Nat)(ra':List Addr)(hl:ra'.length=st'.length+1)
 (hr:∀ (j:Nat) x,ra'[j]? =some x->H x=some (iL (rowW k a (st'.drop (st'.length-j))))/\x≠cl/\x≠rs):
 CoS C H0 (upd (upd H rs (.lst (ra'.map V.ref))) cl (.lst (clsV st'))) co k a i st' dx pl sm cl rs Hz Hb ad ra':=
 {ob:=by rw[zAG (c.nl c.clo).symm,zAG (c.nl c.res).symm];exact c.ob
  pls:=c.pls,tb:=c.tb
  keep:=fun b o z hb=>by rw[zAG (zAE z c.ncl),zAG (zAE z c.nrs)];exact c.keep _ _ z hb
  nco:=c.nco,ncl:=c.ncl,nrs:=c.nrs,ne:=c.ne
  clo:=zAC
  res:=by rw[zAG c.ne.symm,zAC]
  ral:=hl
  rows:=fun j x hx=>by
   obtain⟨h1,h2,h3⟩:=hr j x hx
   exact⟨by rw[zAG h2,zAG h3];exact h1,h2,h3⟩
  h0:=fun b o z=>by rw[zAG (zAE z c.h0cl),zAG (zAE z c.h0rs)];exact c.h0 _ _ z
  h0co:=c.h0co,h0cl:=c.h0cl,h0rs:=c.h0rs,len:=c.len,hk:=c.hk}
theorem CoS.push(c:CoS C H0 H co k a i st dx pl sm cl rs Hz Hb ad ra){D:Addr}{p:Nat}(hD:H D=some (iL (rowW k a (p::st))))(n1:D≠cl)(n2:D≠rs):
 CoS C H0 (upd (upd H rs (.lst ((ra++[D]).map V.ref))) cl (.lst (clsV (p::st)))) co k a i (p::st) dx pl sm cl rs Hz Hb ad (ra++[D]):=by
 refine c.two (p::st) (ra++[D]) (by rw[List.length_append,c.ral];rfl) fun j x hx=>?_
 by_cases h:j<ra.length
 ·rw[List.getElem?_append_left h]at hx
  obtain⟨h1,h2⟩:=c.rows j x hx
  refine⟨?_,h2⟩
  have hr:=c.ral
  rw[h1,List.length_cons,show st.length+1-j=(st.length-j)+1 by omega,List.drop_succ_cons]
 ·rw[List.getElem?_append_right (by omega)]at hx
  have hj:j=ra.length:=by
   have:=(List.getElem?_eq_some_iff.mp hx).1
   simp at this
   omega
  subst hj
  rw[Nat.sub_self]at hx
  have hx:D=x:=Option.some.inj hx
  subst hx
  rw[c.ral,List.length_cons,Nat.sub_self,List.drop_zero]
  exact⟨hD,n1,n2⟩
end
theorem zE4{k:Nat}{a:List Nat}(hk:k<=4)(ha:a.length<=40)(i:Nat)(st:List Nat)(b:Nat):0<=mw k a i st b:=by
 unfold mw
 split
 ·exact Int.mul_nonneg (zKO hk _ _).1 (zNh hk ha _ _).1
 ·cases st with
  |nil=>exact Int.le_refl _
  |cons o s'=>
   show 0<=(if 2*o+1=b then pa_ k a i b*W k a (i+1) s' else 0)
   split
   ·exact Int.mul_nonneg (zKO hk _ _).1 (zNh hk ha _ _).1
   ·exact Int.le_refl _
def cwq(k:Nat)(a:List Nat)(i:Nat):List Nat->Nat->Int
 |[],_=>0
 |o::s',p=>if o=p then pa_ k a i (2*p+1)*W k a (i+1) s' else 0
theorem zNB{k:Nat}{a:List Nat}{i:Nat}{st:List Nat}(hi:i<a.length)(hst:∀o∈st,o<k):sm (2*k) (mw k a i st)=W k a i st:=by
 rw[zGI]
 have e1:∀p,mw k a i st (2*p)=pa_ k a i (2*p)*W k a (i+1) (p::st):=fun p=>by
  unfold mw
  rw[if_pos (by omega),show 2*p/2=p by omega]
 have e2:∀p,mw k a i st (2*p+1)=cwq k a i st p:=fun p=>by
  unfold mw
  rw[if_neg (by omega)]
  cases st with
  |nil=>rfl
  |cons o s'=>
   show(if 2*o+1=2*p+1 then _ else _)=(if o=p then _ else _)
   by_cases h:o=p
   ·rw[if_pos h,if_pos (by omega)]
   ·rw[if_neg h,if_neg (by omega)]
 obtain⟨m,hm⟩:∃m,a.length-i=m+1:=⟨a.length-i-1,by omega⟩
 have hm2:a.length-(i+1)=m:=by omega
 rw[zAJ k fun p _=>by rw[e1,e2],zB8]
 unfold W
 rw[hm,hm2]
 cases st with
 |nil=>rw[zB9,BrC.sm_zero (f:=fun i_1=>cwq k a i [] i_1) k (fun _ _=>rfl),Int.add_zero]
 |cons o s'=>
  rw[zBb]
  congr 1
  have ho:=hst o List.mem_cons_self
  rw[zBq (f:=fun i_1=>cwq k a i (o::s') i_1) ho]
  ·show(if o=o then pa_ k a i (2*o+1)*W k a (i+1) s' else 0)=_
   rw[if_pos rfl]
   unfold W
   rw[hm2]
  ·intro j hj hne
   show(if o=j then _ else _)=(0:Int)
   rw[if_neg (fun z=>hne z.symm)]
def NF(k:Nat)(a:List Nat):Nat->List Nat->Int->List Nat->Prop
 |i,_,l,[]=>i=a.length/\l=0
 |i,st,l,b::bs=>b<2*k/\sm b (mw k a i st)<=l/\l<sm (b+1) (mw k a i st)/\NF k a (i+1) (stb st b) (l-sm b (mw k a i st)) bs
def brt(bs:List Nat):List Nat:=bs.map fun b=>brs.getD b 0
theorem zJy{k:Nat}{a:List Nat}(hk:k<=4)(ha:a.length<=40)(i:Nat)(st:List Nat){b c:Nat}(h:b<=c):sm b (mw k a i st)<=sm c (mw k a i st):=by
 induction c with
 |zero=>rw[show b=0 by omega];exact Int.le_refl _
 |succ c ih=>
  by_cases e:b=c+1
  ·rw[e];exact Int.le_refl _
  ·have h1:=ih (by omega)
   have h2:=zE4 hk ha i st c
   show _<=sm c (mw k a i st)+mw k a i st c
   omega
theorem zNA{k:Nat}{a:List Nat}(hk:k<=4)(ha:a.length<=40){i:Nat}(hi:i<a.length){st:List Nat}{b:Nat}(hst:∀o∈st,o<k)(hb:b<2*k)(h:0<mw k a i st b):mw k a i st b=W k a (i+1) (stb st b)/\(b%2=1->st≠[])/\(∀o∈stb st b,o<k)/\(stb st b).length<=st.length+1:=by
 have h01:pa_ k a i b≠0->pa_ k a i b=1:=fun z=>(zLb hk hi).resolve_left z
 by_cases hev:b%2=0
 ·have e:mw k a i st b=pa_ k a i b*W k a (i+1) (b/2::st):=by unfold mw;rw[if_pos hev]
  have es:stb st b=b/2::st:=by unfold stb;rw[if_pos hev]
  rw[e]at h⊢
  have h1:=h01 fun z=>by rw[z,Int.zero_mul]at h;exact absurd h (Int.lt_irrefl _)
  rw[es,h1,Int.one_mul]
  refine⟨rfl,by omega,fun o ho=>?_,by simp⟩
  rcases List.mem_cons.mp ho with z|z
  ·omega
  ·exact hst o z
 ·have es:stb st b=st.tail:=by unfold stb;rw[if_neg hev]
  rw[es]
  cases st with
  |nil=>
   unfold mw at h
   rw[if_neg hev]at h
   exact absurd h (Int.lt_irrefl _)
  |cons o s'=>
   have e:mw k a i (o::s') b=if 2*o+1=b then pa_ k a i b*W k a (i+1) s' else 0:=by unfold mw;rw[if_neg hev]
   rw[e]at h⊢
   by_cases ho:2*o+1=b
   ·rw[if_pos ho]at h⊢
    have h1:=h01 fun z=>by rw[z,Int.zero_mul]at h;exact absurd h (Int.lt_irrefl _)
    rw[h1,Int.one_mul]
    exact⟨rfl,fun _=>by simp,fun x hx=>hst x (List.mem_cons_of_mem _ hx),by simp;omega⟩
   ·rw[if_neg ho]at h
    exact absurd h (Int.lt_irrefl _)
theorem zNg(k:Nat)(a:List Nat)(st:List Nat):W k a a.length st=if st=[]then 1 else 0:=by
 unfold W
 rw[Nat.sub_self]
 cases st<;>rfl
def num(k:Nat)(a:List Nat):Nat->List Nat->List Nat->Int
 |_,_,[]=>0
 |i,st,b::bs=>sm b (mw k a i st)+num k a (i+1) (stb st b) bs
theorem NF.num{k:Nat}{a:List Nat}:∀ {bs:List Nat} {i:Nat} {st:List Nat} {l:Int},NF k a i st l bs->num k a i st bs=l
 |[],_,_,_,h=>h.2.symm
 |b::bs,i,st,l,h=>by
  have:=NF.num h.2.2.2
  show sm b (mw k a i st)+BrS.num k a (i+1) (stb st b) bs=l
  omega
def Fi(k:Nat)(a:List Nat):Nat->List Nat->List Nat->Prop
 |i,st,[]=>i=a.length/\st=[]
 |i,st,b::bs=>b<2*k/\pa_ k a i b=1/\(b%2=1->∃s',st=b/2::s')/\Fi k a (i+1) (stb st b) bs
theorem Fi.len{k:Nat}{a:List Nat}:∀ {bs:List Nat} {i:Nat} {st:List Nat},Fi k a i st bs->i+bs.length=a.length
 |[],_,_,h=>h.1
 |b::bs,i,st,h=>by
  have:=Fi.len h.2.2.2
  rw[List.length_cons]
  omega
theorem Fi.pos{k:Nat}{a:List Nat}(hk:k<=4)(ha:a.length<=40):∀ {bs:List Nat} {i:Nat} {st:List Nat},(∀o∈st,o<k)->Fi k a i st bs->NF k a i st (BrS.num k a i st bs) bs/\0<=BrS.num k a i st bs/\BrS.num k a i st bs<W k a i st
 |[],i,st,hst,h=>by
  obtain⟨h1,h2⟩:=h
  subst h1 h2
  refine⟨⟨rfl,rfl⟩,Int.le_refl _,?_⟩
  rw[zNg,if_pos rfl]
  exact Int.zero_lt_one
 |b::bs,i,st,hst,h=>by
  obtain⟨h1,h2,h3,h4⟩:=h
  have hi:i<a.length:=by have:=Fi.len h4;omega
  have hst':∀o∈stb st b,o<k:=by
   unfold stb
   split
   ·intro o ho
    rcases List.mem_cons.mp ho with z|z
    ·omega
    ·exact hst o z
   ·intro o ho
    exact hst o (List.mem_of_mem_tail ho)
  obtain⟨g1,g2,g3⟩:=Fi.pos hk ha hst' h4
  have ew:mw k a i st b=W k a (i+1) (stb st b):=by
   unfold mw stb
   by_cases hev:b%2=0
   ·rw[if_pos hev,if_pos hev,h2,Int.one_mul]
   ·obtain⟨s',rfl⟩:=h3 (by omega)
    rw[if_neg hev,if_neg hev]
    show(if 2*(b/2)+1=b then pa_ k a i b*W k a (i+1) s' else 0)=_
    rw[if_pos (by omega),h2,Int.one_mul]
    rfl
  have hs:sm (b+1) (mw k a i st)=sm b (mw k a i st)+mw k a i st b:=rfl
  have h0:0<=sm b (mw k a i st):=zAT b fun j _=>zE4 hk ha i st j
  have en:BrS.num k a i st (b::bs)=sm b (mw k a i st)+BrS.num k a (i+1) (stb st b) bs:=rfl
  have hm:=zJy hk ha i st (show b+1<=2*k by omega)
  rw[zNB hi hst]at hm
  rw[en]
  refine⟨⟨h1,by omega,by omega,?_⟩,by omega,by omega⟩
  rw[show sm b (mw k a i st)+BrS.num k a (i+1) (stb st b) bs-sm b (mw k a i st)=BrS.num k a (i+1) (stb st b) bs by omega]
  exact g1
theorem NF.fl{k:Nat}{a:List Nat}(hk:k<=4)(ha:a.length<=40):∀ {bs:List Nat} {i:Nat} {st:List Nat} {l:Int},i+bs.length=a.length->(∀o∈st,o<k)->0<=l->l<W k a i st->NF k a i st l bs->Fi k a i st bs
 |[],i,st,l,hn,hst,l0,l1,h=>by
  have e:i=a.length:=h.1
  subst e
  rw[zNg]at l1
  refine⟨rfl,?_⟩
  by_cases z:st=[]
  ·exact z
  ·rw[if_neg z]at l1;omega
 |b::bs,i,st,l,hn,hst,l0,l1,h=>by
  obtain⟨h1,h2,h3,h4⟩:=h
  rw[List.length_cons]at hn
  have hi:i<a.length:=by omega
  have hs:sm (b+1) (mw k a i st)=sm b (mw k a i st)+mw k a i st b:=rfl
  obtain⟨ew,hodd,hst',_⟩:=zNA hk ha hi hst h1 (by omega)
  have hp:0<mw k a i st b:=by omega
  refine⟨h1,(zLb hk hi).resolve_left fun z=>?_,fun ho=>?_,NF.fl hk ha (by omega) hst' (by omega) (by omega) h4⟩
  ·unfold mw at hp
   rw[z]at hp
   split at hp
   ·rw[Int.zero_mul]at hp;omega
   ·cases st with
    |nil=>exact absurd hp (Int.lt_irrefl _)
    |cons o s'=>
     have hp:0<(if 2*o+1=b then 0*W k a (i+1) s' else 0):=hp
     split at hp
     ·rw[Int.zero_mul]at hp;omega
     ·omega
  ·cases st with
   |nil=>exact absurd rfl (hodd ho)
   |cons o s'=>
    unfold mw at hp
    rw[if_neg (by omega)]at hp
    have hp:0<(if 2*o+1=b then pa_ k a i b*W k a (i+1) s' else 0):=hp
    split at hp
    ·rename_i e
     exact⟨s',by rw[show b/2=o by omega]⟩
    ·omega
end BrS
namespace L2
open PySem PySem.Spec PyProof.Rows
def fnd(l:List Nat)(c:Nat):Int:=Txt.find ⟨l.toArray⟩ ⟨#[c]⟩
end L2
namespace BrS
open L2 PySem BrM BrC BrR
theorem zLt:∀b,b<8->fnd brs (brs.getD b 0)=b:=by decide +kernel
end BrS
namespace PySem.SeqAt
open AutoSeq1 (wpAny_loadPart')
open MeetsSeq MeetsSeq2 MeetsSeq3 SeqRoads2
section
variable{prog:Program}{w:World}{A:Around}{E:Value->Shared->Prop}{s:Shared}
end
end PySem.SeqAt
namespace L2
open PySem PySem.Spec PyProof.Rows BrS
end L2
namespace PySem
open Sem (wp)
structure ZAp (z TI TO i1 i2:Addr) (fp1 fp2:List Addr):Prop where
 TIz:TI≠z
 TOz:TO≠z
 TITO:TI≠TO
 TIi1:TI≠i1
 TIi2:TI≠i2
 z1:z∉fp1
 z2:z∉fp2
 o1:TO∉fp1
 o2:TO∉fp2
 a12:i1∉fp2
 a21:i2∉fp1
 m1:i1∈fp1
 m2:i2∈fp2
section
variable{prog:Program}{w:World}{A:Around}{E:Value->Shared->Prop}{s:Shared}
variable{z TI TO i1 i2:Addr}{fp1 fp2:List Addr}{n1 n2 i:Nat}{P1 P2:Nat->Value->Prop}{S1 S2:Nat->Heap->Prop}{a b:Value}
theorem ZAp.i1z(D:ZAp z TI TO i1 i2 fp1 fp2):i1≠z:=fun e=>D.z1 (e▸D.m1)
theorem ZAp.i2z(D:ZAp z TI TO i1 i2 fp1 fp2):i2≠z:=fun e=>D.z2 (e▸D.m2)
theorem ZAp.i1o(D:ZAp z TI TO i1 i2 fp1 fp2):i1≠TO:=fun e=>D.o1 (e▸D.m1)
theorem ZAp.i2o(D:ZAp z TI TO i1 i2 fp1 fp2):i2≠TO:=fun e=>D.o2 (e▸D.m2)
theorem Draws.but{it c:Addr}{fp:List Addr}{n:Nat}{P:Nat->Value->Prop}{S:Nat->Heap->Prop}{h h':Heap}(D:Draws prog w A it fp n P S)(st:S i h)(k:Heap.ExtBut c h h')(hc:c∉fp):S i h':=D.frame _ _ _ st fun x hx o e=>k x o (fun q=>hc (q▸hx)) e
theorem zDY{Q:Value->Shared->Prop}(D:ZAp z TI TO i1 i2 fp1 fp2)(D1:Draws prog w A i1 fp1 n1 P1 S1)(D2:Draws prog w A i2 fp2 n2 P2 S2)
 (hz:IsZip s.heap z TI TO .none) (hTI:IsPair s.heap TI (.ref i1) (.ref i2)) (hTO:IsPair s.heap TO a b) (h1:S1 i s.heap) (h2:S2 i s.heap) (l1:i<n1) (l2:i<n2)
 (hQ:∀x y h' tk,P1 i x->P2 i y->IsZip h' z TI TO (rawInt s.heap.objs.size)->IsPair h' TO x y->S1 (i+1) h'->S2 (i+1) h'->IsPair h' s.heap.objs.size x y->h'.objs.size=s.heap.objs.size+1->
   (∀c o,c≠z->c≠TO->c≠i1->c≠i2->s.heap.get? c=some o->h'.get? c=some o)->Q (.ref s.heap.objs.size) {s with heap:=h',toks:=tk}):
 wpAny (model prog w) A (Builtin.«zip.__next__» ⟨[.ref z],[]⟩) (fun fin s'=>∃v,fin= .done (.ret v)/\Q v s') E s:=by
 obtain⟨hp,g,d,tk₀,os⟩:=s
 show wpAny _ _ (field (.ref z) 2>>=_) _ _ _
 refine wpAny_bind (wpAny_field hz rfl (x:= .bool false) rfl ?_)
 show wpAny _ _ (field (.ref z) 3>>=_) _ _ _
 refine wpAny_bind (wpAny_field hz rfl (x:= .ref TI) rfl ?_)
 refine wpAny_bind (wpAny_seqItems hTI rfl ?_)
 show wpAny _ _ (Builtin.SmallTypes.ownedTupleIsFree (.ref z)>>=_) _ _ _
 refine wpAny_bind ?_
 unfold Builtin.SmallTypes.ownedTupleIsFree
 refine wpAny_bind (wpAny_field hz rfl (x:= .none) rfl (wpAny_pure ?_))
 simp only[if_true]
 refine wpAny_bind (wpAny_rule ?_)
 refine wpAny_bind (wpAny_field hz rfl (x:= .ref TO) rfl ?_)
 refine wpAny_bind (wpAny_setField_rec hz (by simp) fun h₁ hz₁ hs₁=>?_)
 replace hz₁:IsZip h₁ z TI TO .ellipsis:=hz₁
 replace hs₁:Heap.SameBut z hp h₁:=hs₁
 refine wpAny_bind ?_
 simp only[List.zipIdx_cons,List.zipIdx_nil,List.forIn_cons,List.forIn_nil]
 refine wpAny_bind (wpAny_bind (wpAny_onRaise ?_))
 show wpAny _ _ (Builtin.SmallTypes.nextOf (.ref i1)>>=_) _ _ _
 refine wpAny_bind (D1.item i _ _ _ l1 (D1.but h1 hs₁.extBut D.z1) fun x h₂ tk₂ hx h1₂ hs₂=>wpAny_pure ?_)
 replace hs₂:Heap.SameBut i1 h₁ h₂:=hs₂
 have hTO₂:IsPair h₂ TO a b:=hs₂.extBut _ _ D.i1o.symm (hs₁.extBut _ _ D.TOz hTO)
 refine wpAny_bind (wpAny_seqItems hTO₂ rfl ?_)
 refine wpAny_bind (wpAny_updateSeq_pair hTO₂ fun h₃ hTO₃ hs₃=>?_)
 replace hTO₃:IsPair h₃ TO x b:=hTO₃
 replace hs₃:Heap.SameBut TO h₂ h₃:=hs₃
 refine wpAny_bind (wpAny_letGo (wpAny_pure ?_))
 refine wpAny_bind (wpAny_bind (wpAny_onRaise ?_))
 show wpAny _ _ (Builtin.SmallTypes.nextOf (.ref i2)>>=_) _ _ _
 refine wpAny_bind (D2.item i _ _ _ l2 (D2.but (D2.but (D2.but h2 hs₁.extBut D.z2) hs₂.extBut D.a12) hs₃.extBut D.o2) fun y h₄ tk₄ hy h2₄ hs₄=>wpAny_pure ?_)
 replace hs₄:Heap.SameBut i2 h₃ h₄:=hs₄
 have hTO₄:IsPair h₄ TO x b:=hs₄.extBut _ _ D.i2o.symm hTO₃
 refine wpAny_bind (wpAny_seqItems hTO₄ rfl ?_)
 refine wpAny_bind (wpAny_updateSeq_pair hTO₄ fun h₅ hTO₅ hs₅=>?_)
 replace hTO₅:IsPair h₅ TO x y:=hTO₅
 replace hs₅:Heap.SameBut TO h₄ h₅:=hs₅
 refine wpAny_bind (wpAny_letGo (wpAny_pure (wpAny_pure ?_)))
 refine wpAny_bind (wpAny_seqItems hTO₅ rfl ?_)
 refine wpAny_bind (wpAny_newTuple ?_)
 have hsz:h₅.objs.size=hp.objs.size:=by rw[hs₅.1,hs₄.1,hs₃.1,hs₂.1,hs₁.1]
 have hz₅:IsZip h₅ z TI TO .ellipsis:=hs₅.extBut _ _ D.TOz.symm (hs₄.extBut _ _ D.i2z.symm (hs₃.extBut _ _ D.TOz.symm (hs₂.extBut _ _ D.i1z.symm hz₁)))
 have hk₅:∀c o,c≠z->c≠TO->c≠i1->c≠i2->hp.get? c=some o->h₅.get? c=some o:=fun c o c1 c2 c3 c4 e=>
  hs₅.extBut _ _ c2 (hs₄.extBut _ _ c4 (hs₃.extBut _ _ c2 (hs₂.extBut _ _ c3 (hs₁.extBut _ _ c1 e))))
 have h1₅:S1 (i+1) h₅:=D1.but (D1.but (D1.but h1₂ hs₃.extBut D.o1) hs₄.extBut D.a21) hs₅.extBut D.o1
 have h2₅:S2 (i+1) h₅:=D2.but h2₄ hs₅.extBut D.o2
 have hzlt:z<h₅.objs.size:=Heap.lt_size hz₅
 show wpAny _ _ (Builtin.SmallTypes.ownedTupleHandOut (.ref z) (.ref h₅.objs.size)>>=_) _ _ _
 refine wpAny_bind ?_
 unfold Builtin.SmallTypes.ownedTupleHandOut
 have hz₆:IsZip (h₅.push {cls:= .type "tuple",data:= .seq #[x,y]}) z TI TO .ellipsis:=Heap.get?_push_of_some _ hz₅
 refine wpAny_bind (wpAny_setField_rec hz₆ (by simp) fun h₇ hz₇ hs₇=>?_)
 replace hz₇:IsZip h₇ z TI TO (rawInt h₅.objs.size):=hz₇
 replace hs₇:Heap.SameBut z (h₅.push {cls:= .type "tuple",data:= .seq #[x,y]}) h₇:=hs₇
 refine wpAny_setField_rec hz₇ (by simp) fun h₈ hz₈ hs₈=>?_
 replace hz₈:IsZip h₈ z TI TO (rawInt h₅.objs.size):=hz₈
 replace hs₈:Heap.SameBut z h₇ h₈:=hs₈
 have up:∀c o,c≠z->h₅.get? c=some o->h₈.get? c=some o:=fun c o c1 e=>hs₈.extBut _ _ c1 (hs₇.extBut _ _ c1 (Heap.get?_push_of_some _ e))
 have hT₈:IsPair h₈ h₅.objs.size x y:=hs₈.extBut _ _ (Nat.ne_of_gt hzlt) (hs₇.extBut _ _ (Nat.ne_of_gt hzlt) (Heap.get?_push_size _ rfl))
 have hz8:h₈.objs.size=h₅.objs.size+1:=by rw[hs₈.1,hs₇.1,Heap.size_push]
 rw[hsz]at hz₈ hT₈ hz8
 refine wpAny_pure ⟨_,rfl,?_⟩
 show Q (.ref h₅.objs.size) _
 rw[hsz]
 exact hQ x y h₈ _ hx hy hz₈ (up _ _ D.TOz hTO₅) (D1.frame _ _ _ h1₅ fun c hc o e=>up c o (fun q=>D.z1 (q▸hc)) e) (D2.frame _ _ _ h2₅ fun c hc o e=>up c o (fun q=>D.z2 (q▸hc)) e) hT₈ hz8 fun c o c1 c2 c3 c4 e=>up c o c1 (hk₅ c o c1 c2 c3 c4 e)
theorem zDw{Q:Fin->Shared->Prop}(D:ZAp z TI TO i1 i2 fp1 fp2)(D1:Draws prog w A i1 fp1 n1 P1 S1)(D2:Draws prog w A i2 fp2 n2 P2 S2)
 (hz:IsZip s.heap z TI TO .none) (hTI:IsPair s.heap TI (.ref i1) (.ref i2)) (hTO:IsPair s.heap TO a b) (h1:S1 i s.heap) (h2:S2 i s.heap) (hend:i=n1\/(i<n1/\i=n2))
 (hE:∀h' tk e,(∀c o,c≠z->c≠TO->c≠i1->c≠i2->s.heap.get? c=some o->h'.get? c=some o)->(∃o,h'.get? e=some o/\o.cls= .type "StopIteration")->E (.ref e) {s with heap:=h',toks:=tk}):
 wpAny (model prog w) A (Builtin.«zip.__next__» ⟨[.ref z],[]⟩) Q E s:=by
 obtain⟨hp,g,d,tk₀,os⟩:=s
 show wpAny _ _ (field (.ref z) 2>>=_) _ _ _
 refine wpAny_bind (wpAny_field hz rfl (x:= .bool false) rfl ?_)
 show wpAny _ _ (field (.ref z) 3>>=_) _ _ _
 refine wpAny_bind (wpAny_field hz rfl (x:= .ref TI) rfl ?_)
 refine wpAny_bind (wpAny_seqItems hTI rfl ?_)
 show wpAny _ _ (Builtin.SmallTypes.ownedTupleIsFree (.ref z)>>=_) _ _ _
 refine wpAny_bind ?_
 unfold Builtin.SmallTypes.ownedTupleIsFree
 refine wpAny_bind (wpAny_field hz rfl (x:= .none) rfl (wpAny_pure ?_))
 simp only[if_true]
 refine wpAny_bind (wpAny_rule ?_)
 refine wpAny_bind (wpAny_field hz rfl (x:= .ref TO) rfl ?_)
 refine wpAny_bind (wpAny_setField_rec hz (by simp) fun h₁ hz₁ hs₁=>?_)
 replace hz₁:IsZip h₁ z TI TO .ellipsis:=hz₁
 replace hs₁:Heap.SameBut z hp h₁:=hs₁
 refine wpAny_bind ?_
 simp only[List.zipIdx_cons,List.zipIdx_nil,List.forIn_cons,List.forIn_nil]
 refine wpAny_bind (wpAny_bind (wpAny_onRaise ?_))
 show wpAny _ _ (Builtin.SmallTypes.nextOf (.ref i1)>>=_) _ _ _
 rcases hend with rfl|⟨l1,rfl⟩
 ·refine wpAny_bind (D1.done _ _ _ (D1.but h1 hs₁.extBut D.z1) fun h₂ e hs₂ he=>?_)
  replace hs₂:Heap.ExtBut i1 h₁ h₂:=hs₂
  obtain⟨oe,hoe,hce⟩:=he
  have hz₂:IsZip h₂ z TI TO .ellipsis:=hs₂ _ _ D.i1z.symm hz₁
  have hez:e≠z:=fun x=>by subst x;rw[hz₂]at hoe;cases hoe;simp at hce
  refine wpAny_setField_rec hz₂ (by simp) fun h₃ _ hs₃=>?_
  replace hs₃:Heap.SameBut z h₂ h₃:=hs₃
  exact hE h₃ _ e (fun c o c1 _ c3 _ x=>hs₃.extBut _ _ c1 (hs₂ _ _ c3 (hs₁.extBut _ _ c1 x))) ⟨oe,hs₃.extBut _ _ hez hoe,hce⟩
 ·refine wpAny_bind (D1.item i _ _ _ l1 (D1.but h1 hs₁.extBut D.z1) fun x h₂ tk₂ hx h1₂ hs₂=>wpAny_pure ?_)
  replace hs₂:Heap.SameBut i1 h₁ h₂:=hs₂
  have hTO₂:IsPair h₂ TO a b:=hs₂.extBut _ _ D.i1o.symm (hs₁.extBut _ _ D.TOz hTO)
  refine wpAny_bind (wpAny_seqItems hTO₂ rfl ?_)
  refine wpAny_bind (wpAny_updateSeq_pair hTO₂ fun h₃ hTO₃ hs₃=>?_)
  replace hs₃:Heap.SameBut TO h₂ h₃:=hs₃
  refine wpAny_bind (wpAny_letGo (wpAny_pure ?_))
  refine wpAny_bind (wpAny_bind (wpAny_onRaise ?_))
  show wpAny _ _ (Builtin.SmallTypes.nextOf (.ref i2)>>=_) _ _ _
  refine wpAny_bind (D2.done _ _ _ (D2.but (D2.but (D2.but h2 hs₁.extBut D.z2) hs₂.extBut D.a12) hs₃.extBut D.o2) fun h₄ e hs₄ he=>?_)
  replace hs₄:Heap.ExtBut i2 h₃ h₄:=hs₄
  obtain⟨oe,hoe,hce⟩:=he
  have hz₄:IsZip h₄ z TI TO .ellipsis:=hs₄ _ _ D.i2z.symm (hs₃.extBut _ _ D.TOz.symm (hs₂.extBut _ _ D.i1z.symm hz₁))
  have hez:e≠z:=fun x=>by subst x;rw[hz₄]at hoe;cases hoe;simp at hce
  refine wpAny_setField_rec hz₄ (by simp) fun h₅ _ hs₅=>?_
  replace hs₅:Heap.SameBut z h₄ h₅:=hs₅
  exact hE h₅ _ e (fun c o c1 c2 c3 c4 x=>hs₅.extBut _ _ c1 (hs₄ _ _ c4 (hs₃.extBut _ _ c2 (hs₂.extBut _ _ c3 (hs₁.extBut _ _ c1 x))))) ⟨oe,hs₅.extBut _ _ hez hoe,hce⟩
theorem zFc{Q:Option Value->Shared->Prop}(D:ZAp z TI TO i1 i2 fp1 fp2)(D1:Draws prog w A.in1 i1 fp1 n1 P1 S1)(D2:Draws prog w A.in1 i2 fp2 n2 P2 S2)
 (hz:IsZip s.heap z TI TO .none) (hTI:IsPair s.heap TI (.ref i1) (.ref i2)) (hTO:IsPair s.heap TO a b) (h1:S1 i s.heap) (h2:S2 i s.heap) (l1:i<n1) (l2:i<n2)
 (hQ:∀x y h' tk,P1 i x->P2 i y->IsZip h' z TI TO (rawInt s.heap.objs.size)->IsPair h' TO x y->S1 (i+1) h'->S2 (i+1) h'->IsPair h' s.heap.objs.size x y->h'.objs.size=s.heap.objs.size+1->
   (∀c o,c≠z->c≠TO->c≠i1->c≠i2->s.heap.get? c=some o->h'.get? c=some o)->Q (some (.ref s.heap.objs.size)) {s with heap:=h',toks:=tk}):
 wpAny (model prog w) A (pyNext (.ref z)) Q E s:=by
 have hT:s.TypeIs (.ref z) "zip":=⟨_,hz,rfl⟩
 unfold pyNext
 exact wpAny_bind (wpAny_attempt (wpAny_callSpecial?_slot (name:=Str.ofString "__next__") hT F.slot_zip_next
  (wpAny_call_entry F.slot_zip_next hT F.entry_zip_next
    (zDY D D1 D2 hz hTI hTO h1 h2 l1 l2 fun x y h' tk p1 p2 a1 a2 a3 a4 a5 a6 a7=>wpAny_pure (hQ x y h' tk p1 p2 a1 a2 a3 a4 a5 a6 a7)) (F.args_zip_next_1 _))))
theorem zC6{Q:Option Value->Shared->Prop}(D:ZAp z TI TO i1 i2 fp1 fp2)(D1:Draws prog w A.in1 i1 fp1 n1 P1 S1)(D2:Draws prog w A.in1 i2 fp2 n2 P2 S2)
 (hz:IsZip s.heap z TI TO .none) (hTI:IsPair s.heap TI (.ref i1) (.ref i2)) (hTO:IsPair s.heap TO a b) (h1:S1 i s.heap) (h2:S2 i s.heap) (hend:i=n1\/(i<n1/\i=n2))
 (hQ:∀h' tk,(∀c o,c≠z->c≠TO->c≠i1->c≠i2->s.heap.get? c=some o->h'.get? c=some o)->Q none {s with heap:=h',toks:=tk}):wpAny (model prog w) A (pyNext (.ref z)) Q E s:=by
 have hT:s.TypeIs (.ref z) "zip":=⟨_,hz,rfl⟩
 unfold pyNext
 refine wpAny_bind (wpAny_attempt (wpAny_callSpecial?_slot (name:=Str.ofString "__next__") hT F.slot_zip_next
  (wpAny_call_entry F.slot_zip_next hT F.entry_zip_next (zDw D D1 D2 hz hTI hTO h1 h2 hend fun h' tk e hk he=>?_) (F.args_zip_next_1 _))))
 obtain⟨o,ho,hc⟩:=he
 refine wpAny_bind (wpAny_isInstance (T:="StopIteration") (b:=true) ⟨o,ho,hc⟩ isSubtype_stop ?_)
 exact wpAny_pure (hQ _ _ hk)
end
abbrev sit(x:Str)(t:Tok):Obj:={cls:= .type (strIterType x),data:= .fields #[.str x t, .int 0 0]}
end PySem
namespace L2
open PySem PySem.Spec PyProof.Rows
section
variable{P:Program}{w:World}{K:PySem.W.Frag}{elts:List Expr}{k:Nat}{tpos:Pos}
theorem zI8{X:Cx}{pins:List (Addr×Obj)}{σ:St}{H:Hp}{s:Shared}{E:Value->Shared->Prop}{z TI TO i1 i2:Addr}{fp1 fp2:List Addr}{n1 n2 i:Nat}{P1 P2:Nat->Value->Prop}{S1 S2:Nat->Heap->Prop}{a b:Value}{Qx Qy:Value->V->Prop}{tn:Heap->Prop}
 (D:ZAp z TI TO i1 i2 fp1 fp2) (D1:Draws X.prog X.w X.A.in1 i1 fp1 n1 P1 S1) (D2:Draws X.prog X.w X.A.in1 i2 fp2 n2 P2 S2) (I:Inv X pins σ H s) (hf:∀b∈[z,TI,TO,i1,i2],FpOk X pins H b)
 (hz:IsZip s.heap z TI TO .none) (hTI:IsPair s.heap TI (.ref i1) (.ref i2)) (hTO:IsPair s.heap TO a b) (h1:S1 i s.heap) (h2:S2 i s.heap) (l1:i<n1) (l2:i<n2)
 (tnk:∀h' x y,IsZip h' z TI TO .none->IsPair h' TI (.ref i1) (.ref i2)->IsPair h' TO x y->S1 (i+1) h'->S2 (i+1) h'->tn h') (y1:∀v,P1 i v->∃q,RelV q v/\Qx v q) (y2:∀v,P2 i v->∃q,RelV q v/\Qy v q):
 wpAny (model X.prog X.w) X.A (pyNext (.ref z)) (fun r s1=>∃u,r=some u/\wpAny (model X.prog X.w) X.A (letOwnedTupleGo (.Tuple elts k tpos) (.ref z) u) (fun _ s2=>∃x H',Inv X pins σ H' s2/\RelV x u/\
  (∃T q1 q2 v1 v2,H T=none/\Qx v1 q1/\Qy v2 q2/\x= .ref T/\H'=upd H T (.tup [q1,q2]))/\tn s2.heap/\∀b∈[z,TI,TO,i1,i2],H' b=none) E s1) E s:=by
 refine zFc D D1 D2 hz hTI hTO h1 h2 l1 l2 fun x y h1' tk p1 p2 a1 a2 a3 a4 a5 a6 a7=>⟨_,rfl,wpAny_letOwnedTupleGo_zip a1 fun h2' hz2 hs2=>?_⟩
 replace hs2:Heap.SameBut z h1' h2':=hs2
 obtain⟨q1,r1,e1⟩:=y1 x p1
 obtain⟨q2,r2,e2⟩:=y2 y p2
 have hzl:z<s.heap.objs.size:=Heap.lt_size hz
 have hT2:h2'.get? s.heap.objs.size=some {cls:= .type "tuple",data:= .seq #[x,y]}:=(hs2.2 _ (Nat.ne_of_gt hzl)).trans a5
 have ob:ObjOk X.prog X.w (upd H s.heap.objs.size (.tup [q1,q2])) h2' s.heap.objs.size (.tup [q1,q2]):=⟨(by show 2<=sizeLine;decide),[x,y], .cons r1 (.cons r2 .nil),⟨_,hT2,rfl,_,rfl⟩⟩
 have I2:Inv X pins σ (upd H s.heap.objs.size (.tup [q1,q2])) {s with heap:=h2',toks:=tk}:=I.turnedLaid hf (fun b u hb q=>(hs2.2 b (fun z=>hb (by simp[z]))).trans (a7 b u (fun z=>hb (by simp[z])) (fun z=>hb (by simp[z])) (fun z=>hb (by simp[z])) (fun z=>hb (by simp[z])) q)) (Nat.le_refl _) ob
 have up:∀c o,c≠z->h1'.get? c=some o->h2'.get? c=some o:=fun c o hc e=>(hs2.2 c hc).trans e
 refine⟨.ref s.heap.objs.size,_,I2,rfl,⟨s.heap.objs.size,q1,q2,x,y,I.hok.fresh (Nat.le_refl _),e1,e2,rfl,rfl⟩,tnk h2' x y hz2 (up _ _ D.TIz (a7 _ _ D.TIz D.TITO D.TIi1 D.TIi2 hTI)) (up _ _ D.TOz a2) (D1.frame _ _ _ a3 fun c hc o e=>up c o (fun q=>D.z1 (q▸hc)) e) (D2.frame _ _ _ a4 fun c hc o e=>up c o (fun q=>D.z2 (q▸hc)) e),fun b hb=>?_⟩
 have hlt:b<s.heap.objs.size:=by
  simp only[List.mem_cons,List.not_mem_nil,or_false]at hb
  rcases hb with e|e|e|e|e
  ·rw[e];exact hzl
  ·rw[e];exact Heap.lt_size hTI
  ·rw[e];exact Heap.lt_size hTO
  ·rw[e];obtain⟨_,q⟩:=D1.live _ _ h1;exact Heap.lt_size q
  ·rw[e];obtain⟨_,q⟩:=D2.live _ _ h2;exact Heap.lt_size q
 rw[zAG (Nat.ne_of_lt hlt)]
 exact(hf b hb).1
end
theorem drawsU{P:Program}{w:World}(it:Addr)(x:Str)(t:Tok):∀A:Around,A.handled=none->Draws P w A it [it] x.cps.size (fun i v=>∃c u,x.cps[i]? =some c/\v= .str ⟨#[c]⟩ u) (fun i h=>h.IsStrIter it (strIterType x) x t i):=fun A hh=>by
 cases ha:x.cps.all (· <128)
 ·have e:strIterType x="str_iterator":=by simp[strIterType,ha]
  rw[e];exact Draws.strWide hh _ x t
 ·have e:strIterType x="str_ascii_iterator":=by simp[strIterType,ha]
  rw[e];exact Draws.strAscii hh _ x t
section
variable{X:Cx}{a b:Expr}{ta:TA}{p pos:Pos}{elts:List Expr}{k:Nat}{tpos:Pos}
theorem fresh5{pins:List (Addr×Obj)}{σ:St}{H:Hp}{s:Shared}(I:Inv X pins σ H s):∀b∈[s.heap.objs.size+4,s.heap.objs.size+2,s.heap.objs.size+3,s.heap.objs.size,s.heap.objs.size+1],FpOk X pins H b:=fun b hb=>by
 have:s.heap.objs.size<=b:=by
  simp only[List.mem_cons,List.not_mem_nil,or_false]at hb
  rcases hb with e|e|e|e|e<;>omega
 exact I.fpOk this (I.hok.fresh this)
theorem zap5(n:Nat):ZAp (n+4) (n+2) (n+3) n (n+1) [n] [n+1]:=by
 constructor<;>simp<;>omega
end
section
variable{σ:St}{H:Hp}{Q:VK}{K:PySem.W.Frag}
end
end L2
namespace BrS
open L2 PySem BrM BrC BrR
theorem zB2{b:Nat}(h:b<8):brs[b]? =some (brs.getD b 0):=by
 match b,h with
 |0,_=>rfl
 |1,_=>rfl
 |2,_=>rfl
 |3,_=>rfl
 |4,_=>rfl
 |5,_=>rfl
 |6,_=>rfl
 |7,_=>rfl
theorem zI2:∀o,o<4->brs.getD (2*o) 0∈opn/\clo (brs.getD (2*o) 0)=brs.getD (2*o+1) 0/\brs.getD (2*o+1) 0∉opn:=by decide
theorem zNa:∀b,b<8->brs.getD b 0≠63:=by decide
theorem zF2:∀b,b<8->∀c,c<8->brs.getD b 0=brs.getD c 0->b=c:=by decide
theorem zL6:∀k:Nat,k<=4->∀b,b<2*k->brs.getD b 0∈sgn (k:Int):=by decide +kernel
def cl_(st:List Nat):List Nat:=st.map fun o=>brs.getD (2*o+1) 0
theorem Fi.run{k:Nat}{a:List Nat}(hk:k<=4):∀ {bs:List Nat} {i:Nat} {st:List Nat},(∀o∈st,o<k)->Fi k a i st bs->run (cl_ st) (brt bs)=some []
 |[],i,st,hst,h=>by
  obtain⟨_,rfl⟩:=h
  rfl
 |b::bs,i,st,hst,h=>by
  obtain⟨h1,h2,h3,h4⟩:=h
  have e:brt (b::bs)=brs.getD b 0::brt bs:=rfl
  rw[e]
  show(BrM.stp (cl_ st) (brs.getD b 0)).bind _=_
  by_cases hev:b%2=0
  ·obtain⟨q1,q2,q3⟩:=zI2 (b/2) (by omega)
   rw[show 2*(b/2)=b by omega]at q1 q2 q3
   rw[zD2 q1,q2]
   have es:stb st b=b/2::st:=by unfold stb;rw[if_pos hev]
   rw[es]at h4
   have:=Fi.run hk (st:=b/2::st) (fun o ho=>by
    rcases List.mem_cons.mp ho with z|z
    ·omega
    ·exact hst o z) h4
   have ec:cl_ (b/2::st)=brs.getD (b+1) 0::cl_ st:=by
    show brs.getD (2*(b/2)+1) 0::cl_ st=_
    rw[show 2*(b/2)=b by omega]
   rw[ec]at this
   exact this
  ·obtain⟨s',rfl⟩:=h3 (by omega)
   obtain⟨q1,q2,q3⟩:=zI2 (b/2) (by omega)
   have eb:2*(b/2)+1=b:=by omega
   rw[eb]at q3
   have ec:cl_ (b/2::s')=brs.getD b 0::cl_ s':=by
    show brs.getD (2*(b/2)+1) 0::cl_ s'=_
    rw[eb]
   rw[ec,zC0 q3]
   have es:stb (b/2::s') b=s':=by unfold stb;rw[if_neg hev];rfl
   rw[es]at h4
   exact Fi.run hk (fun o ho=>hst o (List.mem_cons_of_mem _ ho)) h4
theorem zKI{k c b:Nat}(hk:k<=4)(hb:b<2*k)(h:pw k c b=1):c=63\/c=brs.getD b 0:=by
 by_cases hc:c=63
 ·exact .inl hc
 ·refine .inr ?_
  unfold pw plw at h
  rw[if_neg hc,List.getD_eq_getElem?_getD,List.getElem?_map,List.getElem?_take,if_pos (show b<(ones k).length by unfold ones;rw[List.length_replicate];exact hb),zB2 (by omega)]at h
  have h:(if c=brs.getD b 0 then(1:Int)else 0)=1:=h
  split at h
  ·assumption
  ·cases h
theorem zMz{k:Nat}{a:List Nat}{i c:Nat}(h:a[i]? =some c)(b:Nat):pa_ k a i b=pw k c b:=by
 show((a.map (plw (ones k))).getD i []).getD b 0=_
 have e:(a.map (plw (ones k))).getD i []=plw (ones k) c:=by rw[List.getD_eq_getElem?_getD,List.getElem?_map,h];rfl
 rw[e];rfl
def Fll(k:Nat):List Nat->List Nat->List Nat->Prop
 |[],st,[]=>st=[]
 |c::r,st,b::bs=>b<2*k/\pw k c b=1/\(b%2=1->∃s',st=b/2::s')/\Fll k r (stb st b) bs
 |_,_,_=>False
theorem Fi.l{k:Nat}{a:List Nat}:∀ {bs:List Nat} {i:Nat} {st:List Nat},Fi k a i st bs->Fll k (a.drop i) st bs
 |[],i,st,h=>by
  obtain⟨rfl,rfl⟩:=h
  rw[List.drop_length]
  rfl
 |b::bs,i,st,h=>by
  have hi:i<a.length:=by have:=h.len;rw[List.length_cons]at this;omega
  obtain⟨h1,h2,h3,h4⟩:=h
  rw[List.drop_eq_getElem_cons hi]
  rw[zMz (List.getElem?_eq_getElem hi)]at h2
  exact⟨h1,h2,h3,Fi.l h4⟩
theorem Fll.fl{k:Nat}{a:List Nat}:∀ {bs:List Nat} {i:Nat} {st:List Nat},i<=a.length->Fll k (a.drop i) st bs->Fi k a i st bs
 |[],i,st,hi,h=>by
  cases e:a.drop i with
  |nil=>
   rw[e]at h
   have:=List.drop_eq_nil_iff.mp e
   exact⟨by omega,h⟩
  |cons c r=>rw[e]at h;exact h.elim
 |b::bs,i,st,hi,h=>by
  by_cases hi':i<a.length
  ·rw[List.drop_eq_getElem_cons hi']at h
   obtain⟨h1,h2,h3,h4⟩:=h
   exact⟨h1,by rw[zMz (List.getElem?_eq_getElem hi')];exact h2,h3,Fll.fl hi' h4⟩
  ·rw[List.drop_eq_nil_iff.mpr (by omega)]at h
   exact h.elim
theorem Fll.len{k:Nat}:∀ {a st bs:List Nat},Fll k a st bs->bs.length=a.length
 |[],_,[],_=>rfl
 |c::r,st,b::bs,h=>by rw[List.length_cons,List.length_cons,Fll.len h.2.2.2]
 |[],_,_::_,h=>h.elim
 |_::_,_,[],h=>h.elim
theorem Fll.at{k:Nat}:∀ {a st bs:List Nat},Fll k a st bs->∀ {i c b:Nat},a[i]? =some c->bs[i]? =some b->b<2*k/\pw k c b=1
 |c::r,st,b::bs,h,0,c',b',h1,h2=>by
  obtain rfl:c=c':=Option.some.inj h1
  obtain rfl:b=b':=Option.some.inj h2
  exact⟨h.1,h.2.1⟩
 |c::r,st,b::bs,h,i+1,c',b',h1,h2=>Fll.at h.2.2.2 (i:=i) h1 h2
 |[],_,_,_,i,_,_,h1,_=>by simp at h1
 |_::_,_,[],_,i,_,_,_,h2=>by simp at h2
def exk(p q o:Nat):Nat:=if o=p then q else if o=q then p else o
def exb(p q b:Nat):Nat:=2*exk p q (b/2)+b%2
def exc(p q c:Nat):Nat:=if c=63 then 63 else brs.getD (exb p q (fnd brs c).toNat) 0
theorem zNQ{p q o k:Nat}(hp:p<k)(hq:q<k)(ho:o<k):exk p q o<k:=by unfold exk;split;exact hq;split;exact hp;exact ho
theorem zNU{p q b k:Nat}(hp:p<k)(hq:q<k)(hb:b<2*k):exb p q b<2*k:=by
 have:=zNQ hp hq (show b/2<k by omega)
 unfold exb
 omega
theorem zGd(p q b:Nat):exb p q b/2=exk p q (b/2):=by unfold exb;omega
theorem zId(p q b:Nat):exb p q b%2=b%2:=by unfold exb;omega
theorem zLx{p q b:Nat}(h:b<8):exc p q (brs.getD b 0)=brs.getD (exb p q b) 0:=by
 unfold exc
 rw[if_neg (zNa b h),zLt b h,Int.toNat_natCast]
theorem Fll.ex{p q k:Nat}(hk:k<=4)(hp:p<k)(hq:q<k):∀ {a st bs:List Nat},Fll k a st bs->Fll k (a.map (exc p q)) (st.map (exk p q)) (bs.map (exb p q))
 |[],st,[],h=>by
  have h:st=[]:=h
  subst h
  rfl
 |c::r,st,b::bs,h=>by
  obtain⟨h1,h2,h3,h4⟩:=h
  have hb':=zNU hp hq h1
  have es:stb (st.map (exk p q)) (exb p q b)=(stb st b).map (exk p q):=by
   unfold stb
   rw[zId,zGd]
   split
   ·rfl
   ·rw[List.map_tail]
  refine⟨hb',?_,fun ho=>?_,?_⟩
  ·rcases zKI hk h1 h2 with rfl|rfl
   ·exact zMi hb'
   ·show pw k (exc p q (brs.getD b 0)) _=1
    rw[zLx (by omega),zOH hb' (by omega) (zB2 (by omega)),if_pos rfl]
  ·rw[zId]at ho
   obtain⟨s',rfl⟩:=h3 ho
   exact⟨s'.map (exk p q),by rw[zGd];rfl⟩
  ·rw[es]
   exact Fll.ex hk hp hq h4
 |[],_,_::_,h=>h.elim
 |_::_,_,[],h=>h.elim
theorem Fll.lt{k:Nat}:∀ {a st bs:List Nat},Fll k a st bs->∀b∈bs,b<2*k
 |[],_,[],_,_,hb=>nomatch hb
 |c::r,st,b::bs,h,x,hx=>by
  rcases List.mem_cons.mp hx with z|z
  ·rw[z];exact h.1
  ·exact Fll.lt h.2.2.2 x z
 |[],_,_::_,h,_,_=>h.elim
 |_::_,_,[],h,_,_=>h.elim
theorem zIJ{k:Nat}{bs:List Nat}(hk:k<=4)(hl:bs.length<=40)(h:∀b∈bs,b<2*k):isRow (k:Int) (brt bs)=true:=by
 unfold isRow brt
 rw[Bool.and_eq_true,List.length_map]
 refine⟨decide_eq_true hl,?_⟩
 rw[List.all_eq_true]
 intro c hc
 obtain⟨b,hb,rfl⟩:=List.mem_map.mp hc
 exact decide_eq_true (zL6 k hk b (h b hb))
end BrS
namespace L2
open PySem PySem.Spec PyProof.Rows
section
variable{σ:St}{H:Hp}{Q:VK}{K:PySem.W.Frag}
end
end L2
namespace L2
open PySem
end L2
namespace BrS
open L2 PySem BrM BrC BrR
def filB(k:Int)(a b:List Nat):Bool:=isRow k b&&decide (b.length=a.length)&&decide (Rt b)&&(List.range a.length).all fun i=>decide (a.getD i 0=63)||decide (a.getD i 0=b.getD i 0)
theorem Fi.filB{k:Nat}{a bs:List Nat}(hk:k<=4)(hl:a.length<=40)(hf:Fi k a 0 [] bs):filB (k:Int) a (brt bs)=true:=by
 have hbl:=hf.len
 have hbt:(brt bs).length=bs.length:=by unfold brt;rw[List.length_map]
 have hll:=hf.l
 rw[List.drop_zero]at hll
 have hrt:Rt (brt bs):=hf.run hk (by simp)
 unfold BrS.filB
 rw[zIJ hk (by omega) hll.lt,decide_eq_true (show(brt bs).length=a.length by omega),decide_eq_true hrt,Bool.true_and,Bool.true_and,Bool.true_and,List.all_eq_true]
 intro i hi
 have hi:=List.mem_range.mp hi
 have e1:a[i]? =some (a.getD i 0):=by rw[List.getD_eq_getElem?_getD,List.getElem?_eq_getElem hi];rfl
 have e2:bs[i]? =some (bs.getD i 0):=by rw[List.getD_eq_getElem?_getD,List.getElem?_eq_getElem (show i<bs.length by omega)];rfl
 have e3:(brt bs).getD i 0=brs.getD (bs.getD i 0) 0:=by unfold brt;rw[List.getD_eq_getElem?_getD,List.getElem?_map,e2];rfl
 obtain⟨q1,q2⟩:=hll.at e1 e2
 rw[e3,Bool.or_eq_true]
 rcases zKI hk q1 q2 with z|z
 ·exact .inl (decide_eq_true z)
 ·exact .inr (decide_eq_true z)
def NoF(K:PySem.W.Frag)(k:Int)(a:List Nat)(H:Hp)(v:V):Prop:=(∃b,v=tx b/\b.length<=1000/\filB k a b=false)\/∃ty,TyOf K H v (.type ty)/\ty∈plainTy/\ty≠"str"
theorem NoF.keep{K:PySem.W.Frag}{k:Int}{a:List Nat}{p:Addr}{n m:Nat}{H H':Hp}{v:V}(h:NoF K k a H v)(d:Dt p n m H v)(s:SameBut1 p H H'):NoF K k a H' v:=h.elim .inl fun⟨ty,a,b⟩=> .inr ⟨ty,a.keep d.ne s,b⟩
end BrS
namespace BrB
open BrM BrC
def cl:List Nat->Nat->Option (List Nat)
 |[],_=>none
 |p::s,q=>if p=q then some s else none
theorem zDU(p:Nat)(s:List Nat)(q:Nat):cl (p::s) q=if p=q then some s else none:=rfl
def nx(k:Nat)(st:List Nat)(b:Nat):Option (List Nat):=if b<2*k then(if b%2=0 then some (b/2::st)else cl st (b/2))else none
def go(k:Nat):List Nat->List Nat->Option (List Nat)
 |st,[]=>some st
 |st,b::r=>(nx k st b).bind fun s=>go k s r
theorem zAl{k:Nat}(st:List Nat):go k st []=some st:=by rw[go]
theorem zAk{k:Nat}(st:List Nat)(b:Nat)(r:List Nat):go k st (b::r)=(nx k st b).bind fun s=>go k s r:=by rw[go]
theorem zAu{k:Nat}{st s:List Nat}{b:Nat}(h:nx k st b=some s):b<2*k/\((b%2=0/\s=b/2::st)\/(b%2=1/\st=b/2::s)):=by
 unfold nx at h
 by_cases h1:b<2*k
 ·rw[if_pos h1]at h
  by_cases h2:b%2=0
  ·rw[if_pos h2]at h;cases h;exact⟨h1, .inl ⟨h2,rfl⟩⟩
  ·rw[if_neg h2]at h
   cases st with
   |nil=>cases h
   |cons p q=>
    rw[zDU]at h
    by_cases h3:p=b/2
    ·rw[if_pos h3]at h;cases h;exact⟨h1, .inr ⟨by omega,by rw[h3]⟩⟩
    ·rw[if_neg h3]at h;cases h
 ·rw[if_neg h1]at h;cases h
theorem zH8{k p:Nat}(st:List Nat)(h:p<k):nx k st (2*p)=some (p::st):=by
 unfold nx;rw[if_pos (by omega),if_pos (by omega),show 2*p/2=p by omega]
theorem zGa{k p:Nat}(st:List Nat)(h:p<k):nx k (p::st) (2*p+1)=some st:=by
 unfold nx;rw[if_pos (by omega),if_neg (by omega),show(2*p+1)/2=p by omega]
 rw[zDU,if_pos rfl]
theorem zLe{k:Nat}{st s:List Nat}{b:Nat}(h1:b<2*k)(h:(b%2=0/\s=b/2::st)\/(b%2=1/\st=b/2::s)):nx k st b=some s:=by
 rcases h with⟨h2,rfl⟩|⟨h2,rfl⟩
 ·unfold nx;rw[if_pos h1,if_pos h2]
 ·unfold nx;rw[if_pos h1,if_neg (by omega)];rw[zDU,if_pos rfl]
def Rg(k:Nat)(l:List Nat):Prop:=go k [] l=some []
theorem zBw{k p:Nat}(st r:List Nat)(h:p<k):go k st (2*p::r)=go k (p::st) r:=by rw[zAk,zH8 st h];rfl
theorem zBV{k p:Nat}(st r:List Nat)(h:p<k):go k (p::st) ((2*p+1)::r)=go k st r:=by rw[zAk,zGa st h];rfl
theorem zAy{k:Nat}:∀ (l r st:List Nat),go k st (l++r)=(go k st l).bind fun s=>go k s r
 |[],r,st=>by rw[List.nil_append,zAl];rfl
 |b::l,r,st=>by
  rw[List.cons_append,zAk,zAk]
  cases nx k st b with
  |none=>rfl
  |some s=>exact zAy l r s
theorem zOK{k:Nat}{st s:List Nat}{b:Nat}(more:List Nat)(h:nx k st b=some s):nx k (st++more) b=some (s++more):=by
 obtain⟨h1,h2⟩:=zAu h
 refine zLe h1 (h2.imp (fun⟨a,e⟩=>⟨a,by rw[e];rfl⟩) fun⟨a,e⟩=>⟨a,by rw[e];rfl⟩)
theorem zNM{k:Nat}:∀ (l st s more:List Nat),go k st l=some s->go k (st++more) l=some (s++more)
 |[],st,s,more,h=>by rw[zAl]at h⊢;cases h;rfl
 |b::l,st,s,more,h=>by
  rw[zAk]at h⊢
  obtain⟨s1,h1,h2⟩:=Option.bind_eq_some_iff.mp h
  rw[zOK more h1]
  exact zNM l s1 s more h2
theorem zIQ{k:Nat}:∀ (l st s:List Nat),go k st l=some s->st.length<=s.length+l.length/\(st.length+s.length+l.length)%2=0
 |[],st,s,h=>by rw[zAl]at h;cases h;simp;omega
 |b::l,st,s,h=>by
  rw[zAk]at h
  obtain⟨s1,h1,h2⟩:=Option.bind_eq_some_iff.mp h
  have:=zIQ l _ _ h2
  obtain⟨hb,⟨h3,rfl⟩|⟨h3,rfl⟩⟩:=zAu h1
  ·simp only[List.length_cons]at this⊢;omega
  ·simp only[List.length_cons]at this⊢;omega
theorem zDN{k:Nat}:∀ (l st s:List Nat),go k st l=some s->∀b∈l,b<2*k
 |[],_,_,_,b,hb=>nomatch hb
 |c::l,st,s,h,b,hb=>by
  rw[zAk]at h
  obtain⟨s1,h1,h2⟩:=Option.bind_eq_some_iff.mp h
  rcases List.mem_cons.mp hb with rfl|hb
  ·exact(zAu h1).1
  ·exact zDN l _ _ h2 b hb
theorem zNC(a b:List Nat):a<b\/a=b\/b<a:=by
 by_cases h:a<b
 ·exact .inl h
 ·by_cases h2:b<a
  ·exact .inr (.inr h2)
  ·exact .inr (.inl (List.le_antisymm (List.not_lt.mp h2) (List.not_lt.mp h)))
theorem zE3{a b c:List Nat}(h1:¬b<a)(h2:¬c<b):¬c<a:=fun h=>by
 rcases zNC b c with z|z|z
 ·exact h1 (List.lt_trans z h)
 ·exact h1 (z▸h)
 ·exact h2 z
abbrev O:=Option (Int×List Nat)
def lik:O->O->O
 |none,b=>b
 |some a,none=>some a
 |some (x,l),some (y,m)=>if x=y then(if l<m then some (x,l)else some (y,m))else if x>y then some (x,l)else some (y,m)
def Best(S:List Nat->Prop)(f:List Nat->Int):O->Prop
 |none=>∀l,S l->f l<=0
 |some (w,l)=>S l/\f l=w/\0<w/\∀m,S m->f m<w\/(f m=w/\¬m<l)
theorem Best.un{S S':List Nat->Prop}{f:List Nat->Int}:∀ {a b:O},Best S f a->Best S' f b->Best (fun l=>S l\/S' l) f (lik a b)
 |none,none,h,g=>fun l hl=>hl.elim (h l) (g l)
 |none,some (v,m),h,⟨g1,g2,g3,g4⟩=>⟨.inr g1,g2,g3,fun x hx=>hx.elim (fun z=> .inl (by have:=h x z;omega)) (g4 x)⟩
 |some (w,l),none,⟨h1,h2,h3,h4⟩,g=>⟨.inl h1,h2,h3,fun x hx=>hx.elim (h4 x) (fun z=> .inl (by have:=g x z;omega))⟩
 |some (w,l),some (v,m),⟨h1,h2,h3,h4⟩,⟨g1,g2,g3,g4⟩=>by
  show Best _ f (if w=v then(if l<m then some (w,l)else some (v,m))else if w>v then some (w,l)else some (v,m))
  by_cases e:w=v
  ·subst e
   rw[if_pos rfl]
   by_cases e2:l<m
   ·rw[if_pos e2]
    refine⟨.inl h1,h2,h3,fun x hx=>hx.elim (h4 x) fun z=>(g4 x z).imp id fun⟨a,b⟩=>⟨a,zE3 (fun t=>List.lt_irrefl _ (List.lt_trans t e2)) b⟩⟩
   ·rw[if_neg e2]
    refine⟨.inr g1,g2,g3,fun x hx=>hx.elim (fun z=>(h4 x z).imp id fun⟨a,b⟩=>⟨a,zE3 e2 b⟩) (g4 x)⟩
  ·rw[if_neg e]
   by_cases e2:w>v
   ·rw[if_pos e2]
    exact⟨.inl h1,h2,h3,fun x hx=>hx.elim (h4 x) fun z=> .inl (by rcases g4 x z with y|⟨y,_⟩<;>omega)⟩
   ·rw[if_neg e2]
    exact⟨.inr g1,g2,g3,fun x hx=>hx.elim (fun z=> .inl (by rcases h4 x z with y|⟨y,_⟩<;>omega)) (g4 x)⟩
theorem Best.pos{S:List Nat->Prop}{f:List Nat->Int}{w:Int}{l:List Nat}(h:Best S f (some (w,l))):0<w:=h.2.2.1
def wtl(P:Nat->Nat->Int):Nat->List Nat->Int
 |_,[]=>1
 |s,b::r=>P s b*wtl P (s+1) r
theorem zHN{P:Nat->Nat->Int}:∀ (u v:List Nat) (s:Nat),wtl P s (u++v)=wtl P s u*wtl P (s+u.length) v
 |[],v,s=>by rw[List.nil_append,wtl,Int.one_mul];rfl
 |b::u,v,s=>by
  rw[List.cons_append,wtl,wtl,zHN u v,Int.mul_assoc,List.length_cons,show s+1+u.length=s+(u.length+1) by omega]
def Dn(k s t:Nat)(l:List Nat):Prop:=Rg k l/\s+l.length=t
def Sq(k s q t:Nat)(l:List Nat):Prop:=∃j p u v,j<q/\p<k/\l=2*p::(u++(2*p+1)::v)/\Rg k u/\u.length=2*j/\Rg k v/\s+2+2*j+v.length=t
def Nw(k s q t:Nat)(l:List Nat):Prop:=∃p u v,p<k/\l=2*p::(u++(2*p+1)::v)/\Rg k u/\u.length=2*q/\Rg k v/\s+2+2*q+v.length=t
theorem Sq.zero(k s t:Nat)(l:List Nat):¬Sq k s 0 t l:=fun⟨j,_,_,_,h,_⟩=>absurd h (Nat.not_lt_zero _)
theorem Sq.len{k s q t:Nat}{l:List Nat}(h:Sq k s q t l):s+l.length=t:=by
 obtain⟨j,p,u,v,_,_,rfl,_,hu,_,e⟩:=h
 simp only[List.length_cons,List.length_append];omega
theorem Nw.len{k s q t:Nat}{l:List Nat}(h:Nw k s q t l):s+l.length=t:=by
 obtain⟨p,u,v,_,rfl,_,hu,_,e⟩:=h
 simp only[List.length_cons,List.length_append];omega
theorem Dn.nil(k s:Nat)(l:List Nat):Dn k s s l↔l=[]:=by
 constructor
 ·rintro⟨_,e⟩;exact List.eq_nil_of_length_eq_zero (by omega)
 ·rintro rfl;exact⟨by unfold Rg;rw[zAl],rfl⟩
end BrB
namespace PySem.SeqAt
open AutoSeq1 (wpAny_loadPart')
open MeetsSeq MeetsSeq2 MeetsSeq3 SeqRoads2
section
variable{prog:Program}{w:World}{A:Around}{E:Value->Shared->Prop}{s:Shared}
end
end PySem.SeqAt
namespace L2
open PySem PySem.Spec PyProof.Rows
abbrev nL(bs:List Nat):List V:=bs.map fun b:Nat=>V.int (b:Int)
section
variable{X:Cx}
end
end L2
namespace BrS
open L2 PySem BrM BrC BrB
def Bt(F:Addr->Prop)(H:Hp)(v:V):O->Prop
 |none=>v= .non
 |some (w,l)=>∃T a,v= .ref T/\F T/\F a/\H T=some (.tup [.int w, .ref a])/\H a=some (.lst (nL l))
theorem Bt.keep{F:Addr->Prop}{H H':Hp}{v:V}{o:O}(h:Bt F H v o)(k:∀b x,F b->H b=some x->H' b=some x):Bt F H' v o:=by
 match o,h with
 |none,h=>exact h
 |some (w,l),⟨T,a,e,f1,f2,g1,g2⟩=>exact⟨T,a,e,f1,f2,k _ _ f1 g1,k _ _ f2 g2⟩
theorem Bt.imp{F G:Addr->Prop}{H:Hp}{v:V}{o:O}(h:Bt F H v o)(k:∀b x,F b->H b=some x->G b):Bt G H v o:=by
 match o,h with
 |none,h=>exact h
 |some (w,l),⟨T,a,e,f1,f2,g1,g2⟩=>exact⟨T,a,e,k _ _ f1 g1,k _ _ f2 g2,g1,g2⟩
def rwv(n:Nat)(f:Nat->V):List V:=(List.range (n+1)).map f
theorem zLF{n j:Nat}{f:Nat->V}{v:V}:(rwv n f).set j v=rwv n (fun x=>if x=j then v else f x):=by
 apply List.ext_getElem?
 intro i
 unfold rwv
 rw[List.getElem?_set,List.getElem?_map,List.getElem?_map]
 by_cases e:j=i
 ·subst e
  by_cases hj:j<n+1
  ·rw[List.getElem?_range hj];simp[hj]
  ·rw[if_pos rfl,if_neg (by simpa using hj)]
   rw[List.getElem?_eq_none (by simpa using hj)];rfl
 ·rw[if_neg e]
  by_cases hi:i<n+1
  ·rw[List.getElem?_range hi];simp[Ne.symm e]
  ·rw[List.getElem?_eq_none (by simpa using hi)];rfl
structure Tv (H0 H1 H:Hp) (s:Addr) (ad:Nat->Addr) (n:Nat) (T:Nat->Nat->V):Prop where
 fs:H0 s=none
 fa:∀i,i<=n->H0 (ad i)=none
 ns:∀i,i<=n->ad i≠s
 inj:∀i j,i<=n->j<=n->ad i=ad j->i=j
 old:∀i,i<=n->H1 (ad i)≠none
 top:H s=some (.lst ((List.range (n+1)).map fun i=>V.ref (ad i)))
 row:∀i,i<=n->H (ad i)=some (.lst (rwv n (T i)))
 sm:Same H0 H
 gr:∀b,H b=none->H1 b=none
section
variable{H0 H1 H H':Hp}{s:Addr}{ad:Nat->Addr}{n:Nat}{T T':Nat->Nat->V}
theorem Tv.at(t:Tv H0 H1 H s ad n T){i:Nat}(hi:i<=n):((List.range (n+1)).map fun i=>V.ref (ad i))[i]? =some (.ref (ad i)):=by
 rw[List.getElem?_map,List.getElem?_range (by omega)];rfl
theorem Tv.set(t:Tv H0 H1 H s ad n T){i j:Nat}{v:V}(hi:i<=n):Tv H0 H1 (upd H (ad i) (.lst ((rwv n (T i)).set j v))) s ad n (fun a b=>if a=i then(if b=j then v else T a b)else T a b):=by
 refine⟨t.fs,t.fa,t.ns,t.inj,t.old,by rw[zAG (Ne.symm (t.ns i hi))];exact t.top,fun a ha=>?_,fun b o z=>?_,fun b z=>?_⟩
 ·by_cases e:a=i
  ·subst e
   rw[zAC,zLF]
   simp
  ·rw[zAG (fun z=>e (t.inj a i ha hi z)),t.row a ha]
   simp[e]
 ·rw[zAG (zAE z (t.fa i hi))];exact t.sm b o z
 ·by_cases e:b=ad i
  ·subst e;rw[zAC]at z;cases z
  ·rw[zAG e]at z;exact t.gr b z
theorem Tv.keep(t:Tv H0 H1 H s ad n T){i:Nat}(hi:i<=n){o:HO}(b:Addr)(x:HO)(f:H1 b=none)(z:H b=some x):(upd H (ad i) o) b=some x:=by
 have ne:b≠ad i:=fun e=>t.old i hi (by rw[<-e];exact f)
 rw[zAG ne];exact z
end
def brx(l:List Nat):List Nat:=l.map fun b=>brs.getD b 0
end BrS
namespace PySem
open Sem (wp)
abbrev lit(l:Addr):Obj:={cls:= .type "list_iterator",data:= .fields #[.ref l, .int 0 0]}
abbrev zl2(h:Heap)(x:Str)(l:Addr)(t:Tok):Heap:=(h.push (sit x t)).push (lit l)
abbrev zl3(h:Heap)(x:Str)(l:Addr)(t:Tok):Heap:=(zl2 h x l t).push {cls:= .type "tuple",data:= .seq #[.ref h.objs.size, .ref (h.push (sit x t)).objs.size]}
abbrev zl4(h:Heap)(x:Str)(l:Addr)(t:Tok):Heap:=(zl3 h x l t).push {cls:= .type "tuple",data:= .seq #[.none, .none]}
abbrev zl5(h:Heap)(x:Str)(l:Addr)(t:Tok):Heap:=(zl4 h x l t).push {cls:= .type "zip",data:= .fields #[.none, .bool false, .bool false, .ref (zl2 h x l t).objs.size, .ref (zl3 h x l t).objs.size]}
theorem zDg(x:Str)(l:Addr)(t:Tok){items:Array Value}{n:Nat}(lo:Obj)(hlo:lo={cls:= .type "list",data:= .seq items n}):
 Meets (Builtin.«zip.__new__» ⟨[.type "zip", .str x t, .ref l],[]⟩) (fun _ R s=>s.heap.get? l=some lo/\R (.ok (.ret (.ref (zl4 s.heap x l t).objs.size))) {s with heap:=zl5 s.heap x l t}):=
 .of_wp fun prog w A R s h=>by
   obtain⟨hp,g,d,tk,os⟩:=s
   obtain⟨hl,h⟩:=h
   subst hlo
   have hsub:=sub_zip
   have hl2:(hp.push (sit x t)).IsList l items:=⟨_,Heap.get?_push_of_some _ hl,rfl,_,rfl⟩
   wp_walk using wpAny_pyIter_strU (x:=x) (t:=t),wpAny_pyIter_list hl2
   exact⟨_,rfl,h⟩
theorem zIt{prog:Program}{w:World}{A:Around}{E:Value->Shared->Prop}{s:Shared}{x:Str}{l:Addr}{t:Tok}{items:Array Value}{n:Nat}{Q:Value->Shared->Prop}
 (hl:s.heap.get? l=some {cls:= .type "list",data:= .seq items n}) (h:∀h',IsZip h' (s.heap.objs.size+4) (s.heap.objs.size+2) (s.heap.objs.size+3) .none->IsPair h' (s.heap.objs.size+2) (.ref s.heap.objs.size) (.ref (s.heap.objs.size+1))->
   IsPair h' (s.heap.objs.size+3) .none .none->h'.IsStrIter s.heap.objs.size (strIterType x) x t 0->h'.IsListIter (s.heap.objs.size+1) l 0->h'.objs.size=s.heap.objs.size+5->
   (∀c o,s.heap.get? c=some o->h'.get? c=some o)->Q (.ref (s.heap.objs.size+4)) {s with heap:=h'}):
 wpAny (model prog w) A (call (.type "zip") [.str x t, .ref l]) Q E s:=by
 refine callType_new F.called_zip (by decide) (F.typeCall_zip_2 _ _) (F.newCall_zip_2 _ _) (fun obj=>F.args_object_init_3 obj _ _) F.entry_zip_new
  (zDg x l t (items:=items) (n:=n) _ rfl) ?_
 have z1:(s.heap.push (sit x t)).objs.size=s.heap.objs.size+1:=Heap.size_push ..
 have z2:(zl2 s.heap x l t).objs.size=s.heap.objs.size+2:=by rw[Heap.size_push,z1]
 have z3:(zl3 s.heap x l t).objs.size=s.heap.objs.size+3:=by rw[Heap.size_push,z2]
 have z4:(zl4 s.heap x l t).objs.size=s.heap.objs.size+4:=by rw[Heap.size_push,z3]
 have z5:(zl5 s.heap x l t).objs.size=s.heap.objs.size+5:=by rw[Heap.size_push,z4]
 have g5:(zl5 s.heap x l t).get? (zl4 s.heap x l t).objs.size=some _:=Heap.get?_push_size _ rfl
 have g4:(zl5 s.heap x l t).get? (zl3 s.heap x l t).objs.size=some _:=Heap.get?_push_of_some _ (Heap.get?_push_size _ rfl)
 have g3:(zl5 s.heap x l t).get? (zl2 s.heap x l t).objs.size=some _:=Heap.get?_push_of_some _ (Heap.get?_push_of_some _ (Heap.get?_push_size _ rfl))
 have g2:(zl5 s.heap x l t).get? (s.heap.push (sit x t)).objs.size=some _:=Heap.get?_push_of_some _ (Heap.get?_push_of_some _ (Heap.get?_push_of_some _ (Heap.get?_push_size _ rfl)))
 have g1:(zl5 s.heap x l t).get? s.heap.objs.size=some _:=Heap.get?_push_of_some _ (Heap.get?_push_of_some _ (Heap.get?_push_of_some _ (Heap.get?_push_of_some _ (Heap.get?_push_size _ rfl))))
 refine⟨hl,?_⟩
 show _/\_
 rw[z2,z3,z4]at g5
 rw[z1,z2]at g3
 rw[z3]at g4
 rw[z1]at g2
 rw[z4]
 exact⟨⟨_,g5,rfl⟩,h _ g5 g3 g4 ⟨_,g1,rfl,rfl⟩ ⟨_,g2,rfl,rfl⟩ z5 fun c o x=>
  Heap.get?_push_of_some _ (Heap.get?_push_of_some _ (Heap.get?_push_of_some _ (Heap.get?_push_of_some _ (Heap.get?_push_of_some _ x))))⟩
end PySem
namespace L2
open PySem PySem.Spec PyProof.Rows
def IzL(x:Str)(l:Addr):It:=⟨fun i H=>i<x.cps.size/\∃xs,H l=some (.lst xs)/\i<xs.length,fun i H v H'=>∃T c xs d,H T=none/\x.cps[i]? =some c/\H l=some (.lst xs)/\xs[i]? =some d/\v= .ref T/\H'=upd H T (.tup [.str ⟨#[c]⟩,d]),fun i H=>∃xs,H l=some (.lst xs)/\(i=x.cps.size\/(i<x.cps.size/\i=xs.length))⟩
section
variable{P:Program}{w:World}{K:PySem.W.Frag}{elts:List Expr}{k:Nat}{tpos:Pos}
theorem zL8{z TI TO i1 i2 l:Addr}(D:ZAp z TI TO i1 i2 [i1] [i2])(h1:l≠z)(h2:l≠TO)(h3:l≠i1):ZAp z TI TO i1 i2 [i1] [i2,l]:=
 ⟨D.TIz,D.TOz,D.TITO,D.TIi1,D.TIi2,D.z1,by have:=D.z2;simp at this⊢;exact⟨this,h1.symm⟩,D.o1,by have:=D.o2;simp at this⊢;exact⟨this,h2.symm⟩,by have:=D.a12;simp at this⊢;exact⟨this,h3.symm⟩,D.a21,D.m1,by simp⟩
theorem zHR{x:Str}{l:Addr}{t:Tok}{T1:String}{z TI TO i1 i2:Addr}(D:ZAp z TI TO i1 i2 [i1] [i2])
 (W1:∀A:Around,A.handled=none->Draws P w A i1 [i1] x.cps.size (fun i v=>∃c u,x.cps[i]? =some c/\v= .str ⟨#[c]⟩ u) (fun i h=>h.IsStrIter i1 T1 x t i)):
 Turn P w K (.Tuple elts k tpos) (IzL x l) [z,TI,TO,i1,i2] z (fun i h=>IsZip h z TI TO .none/\IsPair h TI (.ref i1) (.ref i2)/\(∃a b,IsPair h TO a b)/\h.IsStrIter i1 T1 x t i/\h.IsListIter i2 l i) where
 mem:=by simp
 obj:=fun i h st b hb=>by
  obtain⟨hz,hTI,⟨a,b',hTO⟩,⟨o1,ho1,_,hd1⟩,⟨o2,ho2,_,hd2⟩⟩:=st
  simp only[List.mem_cons,List.not_mem_nil,or_false]at hb
  rcases hb with e|e|e|e|e
  ·rw[e];exact⟨_,hz,fun v z=>by cases z⟩
  ·rw[e];exact⟨_,hTI,fun v z=>by cases z⟩
  ·rw[e];exact⟨_,hTO,fun v z=>by cases z⟩
  ·rw[e];exact⟨_,ho1,fun v z=>by rw[hd1]at z;cases z⟩
  ·rw[e];exact⟨_,ho2,fun v z=>by rw[hd2]at z;cases z⟩
 keep:=fun i h h' st k=>by
  obtain⟨hz,hTI,⟨a,b',hTO⟩,⟨o1,ho1,r1⟩,⟨o2,ho2,r2⟩⟩:=st
  exact⟨k z (by simp) _ hz,k TI (by simp) _ hTI,⟨a,b',k TO (by simp) _ hTO⟩,⟨o1,k i1 (by simp) _ ho1,r1⟩,⟨o2,k i2 (by simp) _ ho2,r2⟩⟩
 item:=by
  intro X hP hw hK hc i pins s σ H E I hf st hg
  subst hP hw hK
  obtain⟨hz,hTI,⟨a,b',hTO⟩,h1,h2⟩:=st
  obtain⟨hg1,xs,hxs,hg2⟩:=hg
  have ne:∀b∈[z,TI,TO,i1,i2],l≠b:=fun b hb e=>by have:=(hf b hb).1;rw[<-e,hxs]at this;cases this
  obtain⟨zz,its,n,rv,hln,hlo⟩:=I.lstM hxs
  have hL:s.heap.IsList l its.toArray:=⟨_,hlo,rfl,_,rfl⟩
  have D':=zL8 (l:=l) D (ne z (by simp)) (ne TO (by simp)) (ne i1 (by simp))
  refine thn (zI8 (elts:=elts) (k:=k) (tpos:=tpos) (Qx:=fun v q=>∃c,x.cps[i]? =some c/\q= .str ⟨#[c]⟩) (Qy:=fun v q=>∃d,xs[i]? =some d/\q=d)
   (tn:=fun h=>IsZip h z TI TO .none/\IsPair h TI (.ref i1) (.ref i2)/\(∃a b,IsPair h TO a b)/\h.IsStrIter i1 T1 x t (i+1)/\h.IsListIter i2 l (i+1)) D' (W1 X.A.in1 (I.ok.hd hc)) (Draws.list (A:=X.A.in1) (I.ok.hd hc) i2 l (ne i2 (by simp)) its.toArray) I hf hz hTI hTO h1 ⟨h2,hL⟩ hg1 (by rw[List.size_toArray];omega)
   (fun h' _ _ a1 a2 a3 a4 a5=>⟨a1,a2,⟨_,_,a3⟩,a4,a5.1⟩) ?_ ?_) ?_
  ·rintro v ⟨c,u,hx,rfl⟩
   exact⟨.str ⟨#[c]⟩,⟨u,rfl⟩,c,hx,rfl⟩
  ·intro v hv
   obtain⟨u1,g1,ru⟩:=rv.get (i:=i) (x:=xs[i]) (List.getElem?_eq_getElem hg2)
   have:u1=v:=by
    have hv:its.toArray[i]? =some v:=hv
    rw[List.getElem?_toArray,g1]at hv
    exact Option.some.inj hv
   subst this
   exact⟨xs[i],ru,xs[i],List.getElem?_eq_getElem hg2,rfl⟩
  ·rintro r s1 ⟨u,hr,h1⟩
   refine⟨u,hr,thn h1 ?_⟩
   rintro _ s2 ⟨xv,H',I2,rx,⟨Ta,q1,q2,v1,v2,hT,⟨c,hx,rfl⟩,⟨d,hy,rfl⟩,ex,eH⟩,tn2,fr⟩
   exact⟨xv,H',I2,rx,⟨Ta,c,xs,q2,hT,hx,hxs,hy,ex,eH⟩,tn2,fr⟩
 done:=by
  intro X hP hw hK hc i pins s σ H E I hf st hg
  subst hP hw hK
  obtain⟨hz,hTI,⟨a,b',hTO⟩,h1,h2⟩:=st
  obtain⟨xs,hxs,hg⟩:=hg
  have ne:∀b∈[z,TI,TO,i1,i2],l≠b:=fun b hb e=>by have:=(hf b hb).1;rw[<-e,hxs]at this;cases this
  obtain⟨zz,its,n,rv,hln,hlo⟩:=I.lstM hxs
  have hL:s.heap.IsList l its.toArray:=⟨_,hlo,rfl,_,rfl⟩
  have D':=zL8 (l:=l) D (ne z (by simp)) (ne TO (by simp)) (ne i1 (by simp))
  exact zC6 D' (W1 X.A.in1 (I.ok.hd hc)) (Draws.list (A:=X.A.in1) (I.ok.hd hc) i2 l (ne i2 (by simp)) its.toArray) hz hTI hTO h1 ⟨h2,hL⟩ (hg.imp id fun⟨a,b⟩=>⟨a,by rw[List.size_toArray];omega⟩) fun h' tk hx=>⟨rfl,I.turnedAll (t':=tk) hf fun b o hb q=>hx b o (fun z=>hb (by simp[z])) (fun z=>hb (by simp[z])) (fun z=>hb (by simp[z])) (fun z=>hb (by simp[z])) q⟩
 self:=fun A i s Q E st h=>wpAny_pyIter_zip st.1 h
end
def iZiL(ta:TA):TI:=fun σ H R=>ta σ H fun vs H1=>∃x l xs,vs=[.str x, .ref l]/\H1 l=some (.lst xs)/\R (IzL x l) H1
section
variable{X:Cx}{a b:Expr}{ta:TA}{p pos:Pos}{elts:List Expr}{k:Nat}{tpos:Pos}
theorem zHs(hg:Gl X "zip")(hm:X.mg "zip"=none)(ha:PA X [a,b] ta)(hs:starEach [a,b] X.env=[(false,eval a X.env),(false,eval b X.env)]:=by rfl)(hs2:starEach [b] X.env=[(false,eval b X.env)]:=by rfl):PI X (.Tuple elts k tpos) (.Call (.Name "zip" p) [a,b] [] pos) (iZiL ta):=by
 intro pins s σ H R I h
 refine Call_ (zBv I hg hm boot_zip (PyProof.Rows.callWith_type1 (thn (ha pos pins s σ H _ I h) fun us s1 ⟨vs,H1,I1,r1,q1⟩=>?_) (by rw[hs,hs2]) (by rw[hs2];rfl)))
 obtain⟨x,l,xs,e,hl,q⟩:=q1
 subst e
 cases r1 with
 |cons r rr=>
  cases rr with
  |cons r2 rr=>
   cases rr
   obtain⟨t,rfl⟩:=r
   cases r2
   obtain⟨zz,its,n,rv,hln,hlo⟩:=I1.lstM hl
   refine zIt hlo fun h' hz hTI hTO h1 h2 hsz hk=>wpAny_pyIter_zip hz ?_
   exact⟨s1.heap.objs.size+4,[s1.heap.objs.size+4,s1.heap.objs.size+2,s1.heap.objs.size+3,s1.heap.objs.size,s1.heap.objs.size+1],_,_,H1,rfl,I1.kept (t':=s1.toks) hk,zHR (zap5 _) (drawsU _ x t),⟨hz,hTI,⟨_,_,hTO⟩,h1,h2⟩,fresh5 I1,q⟩
end
theorem zMK{σ:St}{H:Hp}{ta:TA}{R:It->Hp->Prop}(h:ta σ H fun vs H1=>∃x l xs,vs=[.str x, .ref l]/\H1 l=some (.lst xs)/\R (IzL x l) H1):iZiL ta σ H R:=h
end L2
namespace BrB
open BrM BrC BrS
abbrev Fe:=List Nat×List Nat
def okc(c b:Nat):Bool:=decide (c=63\/c=brs.getD b 0)
def cnd(k c m:Nat)(e:Fe)(b:Nat):Option Fe:=if okc c b=true then(nx k e.2 b).bind fun s=>if b%2=0/\¬e.2.length<m then none else some (e.1++[b],s)else none
def chl(k c m:Nat)(e:Fe):List Fe:=(List.range (2*k)).filterMap (cnd k c m e)
def fil(k:Nat)(a:List Nat):Nat->List Fe
 |0=>[([],[])]
 |j+1=>(fil k a j).flatMap (chl k (a.getD j 0) (a.length-j))
def ress(k:Nat)(a:List Nat):List (List Nat):=((fil k a a.length).filter fun e=>decide (e.2=[])).map (·.1)
def Mt(a l:List Nat):Prop:=∀i,i<l.length->okc (a.getD i 0) (l.getD i 0)=true
theorem zEa{k c m:Nat}{e x:Fe}{b:Nat}(h:cnd k c m e b=some x):okc c b=true/\nx k e.2 b=some x.2/\x.1=e.1++[b]/\(b%2=0->e.2.length<m):=by
 unfold cnd at h
 by_cases h1:okc c b=true
 ·rw[if_pos h1]at h
  obtain⟨s,h2,h3⟩:=Option.bind_eq_some_iff.mp h
  by_cases h4:b%2=0/\¬e.2.length<m
  ·rw[if_pos h4]at h3;cases h3
  ·rw[if_neg h4]at h3;cases h3
   exact⟨h1,h2,rfl,fun z=>Classical.byContradiction fun w=>h4 ⟨z,w⟩⟩
 ·rw[if_neg h1]at h;cases h
theorem zLf{k c m:Nat}{e x:Fe}(h:x∈chl k c m e):∃b,b<2*k/\okc c b=true/\nx k e.2 b=some x.2/\x.1=e.1++[b]:=by
 obtain⟨b,hb,h⟩:=List.mem_filterMap.mp h
 obtain⟨h1,h2,h3,_⟩:=zEa h
 exact⟨b,List.mem_range.mp hb,h1,h2,h3⟩
theorem zG7(l r:List Nat){i:Nat}(h:i<l.length):(l++r).getD i 0=l.getD i 0:=by
 rw[List.getD_eq_getElem?_getD,List.getD_eq_getElem?_getD,List.getElem?_append_left h]
theorem zG8(l:List Nat)(b:Nat):(l++[b]).getD l.length 0=b:=by
 rw[List.getD_eq_getElem?_getD,List.getElem?_append_right (Nat.le_refl _)];simp
theorem zDQ{k:Nat}{a:List Nat}:∀ {j:Nat} {e:Fe},e∈fil k a j->e.1.length=j/\go k [] e.1=some e.2/\Mt a e.1
 |0,e,h=>by
  rw[fil]at h
  rw[List.mem_singleton.mp h]
  exact⟨rfl,by rw[zAl],fun i hi=>absurd hi (Nat.not_lt_zero _)⟩
 |j+1,x,h=>by
  rw[fil]at h
  obtain⟨e,he,hx⟩:=List.mem_flatMap.mp h
  obtain⟨h1,h2,h3⟩:=zDQ he
  obtain⟨b,hb,g1,g2,g3⟩:=zLf hx
  refine⟨by rw[g3,List.length_append,h1];rfl,?_,fun i hi=>?_⟩
  ·rw[g3,zAy,h2,Option.bind_some,zAk,g2,Option.bind_some,zAl]
  ·rw[g3]at hi⊢
   rw[List.length_append,List.length_singleton]at hi
   by_cases e1:i<e.1.length
   ·rw[zG7 _ _ e1];exact h3 i e1
   ·have:i=e.1.length:=by omega
    subst this
    rw[zG8,h1];exact g1
theorem zDM{k:Nat}{l:List Nat}(h:Rg k l)(j:Nat):∃s,go k [] (l.take j)=some s/\go k s (l.drop j)=some []:=by
 unfold Rg at h
 rw[<-List.take_append_drop j l,zAy]at h
 obtain⟨s,h1,h2⟩:=Option.bind_eq_some_iff.mp h
 exact⟨s,h1,h2⟩
theorem zIa{k:Nat}{a l:List Nat}(hl:l.length=a.length)(h:Rg k l)(hm:Mt a l):∀ {j:Nat},j<=a.length->∀s,go k [] (l.take j)=some s->(l.take j,s)∈fil k a j
 |0,_,s,hs=>by
  rw[List.take_zero,zAl]at hs
  cases hs
  rw[fil,List.take_zero];exact List.mem_singleton.mpr rfl
 |j+1,hj,s,hs=>by
  have hlt:j<l.length:=by omega
  have et:l.take (j+1)=l.take j++[l.getD j 0]:=by
   rw[List.take_add_one,List.getD_eq_getElem?_getD,List.getElem?_eq_getElem hlt];rfl
  rw[et,zAy]at hs
  obtain⟨s1,h1,h2⟩:=Option.bind_eq_some_iff.mp hs
  rw[zAk]at h2
  obtain⟨s2,h3,h4⟩:=Option.bind_eq_some_iff.mp h2
  rw[zAl]at h4
  cases h4
  rw[fil,List.mem_flatMap]
  refine⟨_,zIa hl h hm (by omega) s1 h1,?_⟩
  unfold chl
  rw[List.mem_filterMap]
  refine⟨l.getD j 0,List.mem_range.mpr (zAu h3).1,?_⟩
  unfold cnd
  rw[if_pos (hm j hlt),h3,Option.bind_some,et]
  rw[if_neg]
  rintro⟨z1,z2⟩
  obtain⟨s3,g1,g2⟩:=zDM h (j+1)
  rw[et,zAy,h1,Option.bind_some,zAk,h3,Option.bind_some,zAl]at g1
  cases g1
  have g3:=(zIQ _ _ _ g2).1
  rw[List.length_drop,List.length_nil]at g3
  obtain⟨_,⟨_,e⟩|⟨w,_⟩⟩:=zAu h3
  ·rw[e,List.length_cons]at g3
   simp only at z2
   omega
  ·omega
theorem mem_ress{k:Nat}{a l:List Nat}:l∈ress k a↔Rg k l/\l.length=a.length/\Mt a l:=by
 unfold ress
 constructor
 ·intro h
  obtain⟨e,he,rfl⟩:=List.mem_map.mp h
  obtain⟨h1,h2⟩:=List.mem_filter.mp he
  obtain⟨g1,g2,g3⟩:=zDQ h1
  refine⟨?_,g1,g3⟩
  unfold Rg
  rw[g2,of_decide_eq_true h2]
 ·rintro⟨h1,h2,h3⟩
  refine List.mem_map.mpr ⟨(l,[]),List.mem_filter.mpr ⟨?_,by simp⟩,rfl⟩
  have:=zIa h2 h1 h3 (Nat.le_refl _) [] (by rw[<-h2,List.take_length];exact h1)
  rwa[<-h2,List.take_length,h2]at this
theorem zLv(t:Nat):∀k,k<=4->(List.range (2*k)).countP (fun b=>b%2==0||b==t)<=5:=by
 intro k hk
 have h1:∀l:List Nat,l.countP (fun b=>b%2==0||b==t)<=l.countP (fun b=>b%2==0)+l.countP (fun b=>b==t):=by
  intro l
  induction l with
  |nil=>simp
  |cons b l ih=>
   rw[List.countP_cons,List.countP_cons,List.countP_cons]
   cases(b%2==0)<;>cases(b==t)<;>simp<;>omega
 have h2:=h1 (List.range (2*k))
 have h3:(List.range (2*k)).countP (fun b=>b==t)<=1:=List.nodup_iff_count.mp List.nodup_range t
 have h4:(List.range (2*k)).countP (fun b=>b%2==0)<=4:=by
  have:k=0\/k=1\/k=2\/k=3\/k=4:=by omega
  rcases this with rfl|rfl|rfl|rfl|rfl<;>decide
 omega
theorem zF1{k c m:Nat}(hk:k<=4)(e:Fe):(chl k c m e).length<=5:=by
 refine Nat.le_trans ?_ (zLv (2*e.2.headD 1000+1) k hk)
 unfold chl
 rw[List.length_filterMap_eq_countP]
 refine List.countP_mono_left fun b _ h=>?_
 obtain⟨x,hx⟩:=Option.isSome_iff_exists.mp h
 obtain⟨_,h2,_,_⟩:=zEa hx
 obtain⟨_,⟨z,_⟩|⟨z,w⟩⟩:=zAu h2
 ·simp[z]
 ·rw[w];simp;omega
theorem zEV{k:Nat}(hk:k<=4)(a:List Nat):∀j,(fil k a j).length<=5^j
 |0=>by rw[fil];decide
 |j+1=>by
  rw[fil,List.length_flatMap]
  have ih:=zEV hk a j
  have h:∀l:List Fe,(l.map fun e=>(chl k (a.getD j 0) (a.length-j) e).length).sum<=5*l.length:=by
   intro l
   induction l with
   |nil=>simp
   |cons e l ih=>
    rw[List.map_cons,List.sum_cons,List.length_cons]
    have:=zF1 (c:=a.getD j 0) (m:=a.length-j) hk e
    omega
  have:=h (fil k a j)
  rw[Nat.pow_succ];omega
end BrB
namespace BrS
open L2 PySem BrM BrC BrB BrR
theorem zON(c b:Nat):inV (tx [c]) [tx [63],tx [b]]=decide (c=63\/c=b):=by
 unfold inV
 simp only[List.any_cons,List.any_nil,zNV]
 by_cases h1:c=63<;>by_cases h2:c=b<;>simp[h1,h2,eq_comm]<;>omega
theorem zJh(ds:List V)(x:V):atI (ds++[x]) (-1)=some x:=zF4 (by simp) (by simp)
def Fs(fu:Addr)(H:Hp)(vs:List V)(es:List Fe):Prop:=vs.length=es.length/\∀ (i:Nat) (e:Fe),es[i]? =some e->∃T p s:Addr,vs[i]? =some (V.ref T)/\T≠fu/\p≠fu/\s≠fu/\H T=some (.tup [.ref p, .ref s])/\H p=some (.lst (nL e.1))/\H s=some (.lst (nL e.2.reverse))
theorem Fs.keep{fu:Addr}{H H':Hp}{vs:List V}{es:List Fe}(h:Fs fu H vs es)(k:SameBut1 fu H H'):Fs fu H' vs es:=⟨h.1,fun i e he=>by
 obtain⟨T,p,s,a1,a2,a3,a4,a5,a6,a7⟩:=h.2 i e he
 exact⟨T,p,s,a1,a2,a3,a4,k _ _ a5 a2,k _ _ a6 a3,k _ _ a7 a4⟩⟩
theorem Fs.move{fu fv:Addr}{H:Hp}{vs:List V}{es:List Fe}(h:Fs fu H vs es)(hn:H fv=none):Fs fv H vs es:=⟨h.1,fun i e he=>by
 obtain⟨T,p,s,a1,a2,a3,a4,a5,a6,a7⟩:=h.2 i e he
 exact⟨T,p,s,a1,zAE a5 hn,zAE a6 hn,zAE a7 hn,a5,a6,a7⟩⟩
theorem Fs.nil(fu:Addr)(H:Hp):Fs fu H [] []:=⟨rfl,fun i e he=>by simp at he⟩
theorem Fs.more{fu:Addr}{H:Hp}{vs:List V}{es:List Fe}{e:Fe}{T p s:Addr}(h:Fs fu H vs es)(a2:T≠fu)(a3:p≠fu)(a4:s≠fu)(a5:H T=some (.tup [.ref p, .ref s]))(a6:H p=some (.lst (nL e.1)))(a7:H s=some (.lst (nL e.2.reverse))):Fs fu H (vs++[.ref T]) (es++[e]):=by
 refine⟨by rw[List.length_append,List.length_append,h.1];rfl,fun i x hx=>?_⟩
 by_cases c:i<es.length
 ·rw[List.getElem?_append_left c]at hx
  obtain⟨T',p',s',b1,b⟩:=h.2 i x hx
  exact⟨T',p',s',by rw[List.getElem?_append_left (by rw[h.1];exact c)];exact b1,b⟩
 ·rw[List.getElem?_append_right (by omega)]at hx
  have hi:i=es.length:=by
   have:=(List.getElem?_eq_some_iff.mp hx).1
   simp at this;omega
  subst hi
  rw[Nat.sub_self]at hx
  cases hx
  exact⟨T,p,s,by rw[List.getElem?_append_right (by rw[h.1];exact Nat.le_refl _),h.1,Nat.sub_self];rfl,a2,a3,a4,a5,a6,a7⟩
def chp(k c m:Nat)(e:Fe)(b:Nat):List Fe:=(List.range b).filterMap (cnd k c m e)
theorem zJ1(k c m:Nat)(e:Fe)(b:Nat):chp k c m e (b+1)=chp k c m e b++(cnd k c m e b).toList:=by
 unfold chp
 rw[List.range_succ,List.filterMap_append]
 cases h:cnd k c m e b<;>simp[h]
theorem zL4{k c m:Nat}(e:Fe)(b:Nat):(chp k c m e b).length<=b:=by
 unfold chp
 have:=List.length_filterMap_le (cnd k c m e) (List.range b)
 rwa[List.length_range]at this
def spFillings31:Sp:=fun vs H Q _=>∃ (k:Int) (a:List Nat),vs=[.int k,tx a]/\1<=k/\k<=4/\a.length<=9/\∀ (D:Addr) (vs:List V) (H':Hp),Same H H'->H' D=some (.lst vs)->vs.length=(ress k.toNat a).length->(∀ (i:Nat) (l:List Nat),(ress k.toNat a)[i]? =some l->∃p:Addr,vs[i]? =some (V.ref p)/\H' p=some (.lst (nL l)))->Q (.ref D) H'
theorem zHW{α β:Type}(f:α->List β){l:List α}{i:Nat}{x:α}(h:l[i]? =some x):(l.take (i+1)).flatMap f=(l.take i).flatMap f++f x:=by
 rw[List.take_add_one,h,List.flatMap_append];simp
theorem zBO{α β:Type}(f:α->List β)(n:Nat)(hf:∀x,(f x).length<=n):∀ (l:List α),(l.flatMap f).length<=n*l.length
 |[]=>by simp
 |x::l=>by
  have:=zBO f n hf l
  have:=hf x
  rw[List.flatMap_cons,List.length_append,List.length_cons,Nat.mul_succ];omega
theorem zFq{k:Nat}:∀ {l st s:List Nat},go k st l=some s->s.length<=st.length+l.length
 |[],st,s,h=>by rw[zAl]at h;cases h;simp
 |b::l,st,s,h=>by
  rw[zAk]at h
  obtain⟨s1,h1,h2⟩:=Option.bind_eq_some_iff.mp h
  have:=zFq h2
  obtain⟨_,⟨_,rfl⟩|⟨_,rfl⟩⟩:=zAu h1
  ·simp only[List.length_cons]at this⊢;omega
  ·simp only[List.length_cons]at this⊢;omega
end BrS
namespace L2
open PySem PySem.Spec PyProof.Rows
section
variable{σ:St}{H:Hp}{Q:VK}{K:PySem.W.Frag}
theorem compL{a:Addr}{xs:List V}{own:List Str}{sel:List Nat}{g:TG}{tt:TT}{te:TE}(Pv:Addr->Nat->List V->Hp->Prop)(ht:∀D i ys H',Pv D i ys H'->H' a=some (.lst xs))(h0:∀D,H D=none->Pv D 0 [] (upd H D (.lst [])))
 (hst:∀D ys H',H D=none->H' D=some (.lst ys)->Pv D xs.length ys H'->Q (.ref D) H')
 (hs:∀D i x ys H',H D=none->xs[i]? =some x->i<xs.length->H' D=some (.lst ys)->ys.length<=i->Pv D i ys H'->g x (inSt own sel σ) H' fun σ4 H4=>tt σ4 H4 fun b H5=>
   if b=true then te σ4 H5 fun v H6=>∃ys,H6 D=some (.lst ys)/\ys.length<sizeLine/\∃m',m'<xs.length-i/\CW D xs.length (Pv D) (i+1) m' (upd H6 D (.lst (ys++[v])))
   else∃m',m'<xs.length-i/\CW D xs.length (Pv D) (i+1) m' H5):CompW (Itl K a) own sel σ g tt te Q H:=by
 refine zCI (n:=xs.length) Pv h0 (fun D i ys H' hD hi hy p=>⟨xs,xs[i],SqL.of (ht _ _ _ _ p),List.getElem?_eq_getElem hi⟩) (fun D ys H' hD hy hl p=>⟨⟨_,SqL.of (ht _ _ _ _ p),Nat.le_refl _⟩,hst D ys H' hD hy p⟩) ?_
 rintro D i ys H' x H3 hD hi hy hl p ⟨rfl,hx⟩
 exact hs D i x ys H3 hD (hx _ (SqL.of (ht _ _ _ _ p))) hi hy hl p
end
theorem zIo(xs:List V)(x:V):cutV (xs++[x]) none (some (-1))=xs:=by
 unfold cutV
 have e1:HT.sIx (xs++[x]).length (xs++[x]).length (some (-1))=xs.length:=by
  unfold HT.sIx
  simp
  omega
 rw[HT.sIx_none,e1]
 simp
end L2
namespace BrS
open L2 PySem BrM BrC BrB BrR
def resp(es:List Fe):List (List Nat):=(es.filter fun e=>decide (e.2=[])).map (·.1)
theorem zHg{es:List Fe}{i:Nat}{e:Fe}(h:es[i]? =some e):resp (es.take (i+1))=resp (es.take i)++(if e.2=[]then [e.1]else []):=by
 unfold resp
 rw[List.take_add_one,h,List.filter_append,List.map_append]
 congr 1
 by_cases z:e.2=[]<;>simp[z]
end BrS
namespace BrS
open L2 PySem PyProof.Rows BrM BrC BrB BrR
theorem zL5{l:List Nat}:Low (brx l):=by
 intro c hc
 unfold brx at hc
 obtain⟨b,_,rfl⟩:=List.mem_map.mp hc
 by_cases h:b<8
 ·have:b=0\/b=1\/b=2\/b=3\/b=4\/b=5\/b=6\/b=7:=by omega
  rcases this with rfl|rfl|rfl|rfl|rfl|rfl|rfl|rfl<;>decide
 ·rw[List.getD_eq_getElem?_getD,List.getElem?_eq_none (by show 8<=b;omega)];decide
theorem zKD{K:PySem.W.Frag}{x:Str}{H:Hp}{Q:VK}(h:Q (.bl false) H):rNeA K (.str x) (.str x) H Q:= .inl ⟨rfl,by rw[decide_eq_true rfl];exact h⟩
end BrS
namespace BrB
open BrM BrC BrS
def sms(L:List Int):Int:=L.foldr (· + ·) 0
theorem sms_cons(x:Int)(L:List Int):sms (x::L)=x+sms L:=rfl
theorem zCV:∀ (L M:List Int),sms (L++M)=sms L+sms M
 |[],M=>by simp[sms]
 |x::L,M=>by rw[List.cons_append,sms_cons,sms_cons,zCV L M];omega
theorem zD3{α β:Type}(f:α->List β)(g:β->Int):∀ (L:List α),sms ((L.flatMap f).map g)=sms (L.map fun e=>sms ((f e).map g))
 |[]=>rfl
 |e::L=>by rw[List.flatMap_cons,List.map_append,zCV,zD3 f g L];rfl
theorem zJ9{α β:Type}(c:α->Option β)(g:β->Int):∀ (L:List α),sms ((L.filterMap c).map g)=sms (L.map fun b=>match c b with|some x=>g x|none=>0)
 |[]=>rfl
 |b::L=>by
  have ih:=zJ9 c g L
  rw[List.map_cons,sms_cons,<-ih]
  cases h:c b with
  |none=>rw[List.filterMap_cons_none h];simp
  |some x=>rw[List.filterMap_cons_some h,List.map_cons,sms_cons]
theorem zC3{α:Type}{f g:α->Int}:∀ {L:List α},(∀x∈L,f x=g x)->sms (L.map f)=sms (L.map g)
 |[],_=>rfl
 |x::L,h=>by rw[List.map_cons,List.map_cons,sms_cons,sms_cons,h x (List.mem_cons_self ..),zC3 fun y hy=>h y (List.mem_cons_of_mem _ hy)]
theorem zHZ(f:Nat->Int):∀k,sms ((List.range (2*k)).map f)=sm k (fun p=>f (2*p))+sm k (fun p=>f (2*p+1))
 |0=>rfl
 |k+1=>by
  have ih:=zHZ f k
  rw[show 2*(k+1)=2*k+1+1 by omega,List.range_succ,List.range_succ,List.map_append,List.map_append,zCV,zCV,ih]
  simp only[sm,List.map_cons,List.map_nil,sms,List.foldr]
  omega
theorem zKq(o:Nat)(x:Int):∀k,sm k (fun p=>if p=o then x else 0)=if o<k then x else 0
 |0=>rfl
 |k+1=>by
  rw[sm,zKq o x k]
  by_cases h1:o<k
  ·rw[if_pos h1,if_neg (by omega),if_pos (by omega)];omega
  ·rw[if_neg h1]
   by_cases h2:k=o
   ·rw[if_pos h2,if_pos (by omega)];omega
   ·rw[if_neg h2,if_neg (by omega)];rfl
theorem zEY{P:Nat->Nat->Int}{k:Nat}:∀ (n i:Nat) (st:List Nat),n<st.length->cv P k n i st=0
 |0,i,[],h=>absurd h (Nat.not_lt_zero _)
 |0,i,o::r,h=>by rw[cv]
 |n+1,i,[],h=>absurd h (Nat.not_lt_zero _)
 |n+1,i,o::r,h=>by
  rw[zBb,zEY n (i+1) r (by simpa using h),Int.mul_zero,Int.add_zero]
  rw[show sm k (fun p=>P i (2*p)*cv P k n (i+1) (p::o::r))=sm k (fun _=>0)from zAJ k fun p _=>by rw[zEY n (i+1) (p::o::r) (by simp only[List.length_cons]at h⊢;omega),Int.mul_zero]]
  have:∀k,sm k (fun _=>(0:Int))=0:=fun k=>by
   induction k with
   |zero=>rfl
   |succ k ih=>rw[sm,ih];rfl
  exact this k
def tv(P:Nat->Nat->Int)(k n i:Nat)(st:List Nat)(b:Nat):Int:=match nx k st b with|some s=>cv P k n i s|none=>0
theorem zOP{P:Nat->Nat->Int}{k:Nat}(n i:Nat)(st:List Nat)(hst:∀o∈st,o<k):sms ((List.range (2*k)).map fun b=>P i b*tv P k n (i+1) st b)=cv P k (n+1) i st:=by
 rw[zHZ]
 have e1:sm k (fun p=>P i (2*p)*tv P k n (i+1) st (2*p))=sm k (fun p=>P i (2*p)*cv P k n (i+1) (p::st)):=zAJ k fun p hp=>by unfold tv;rw[zH8 st hp]
 rw[e1]
 cases st with
 |nil=>
  have e2:sm k (fun p=>P i (2*p+1)*tv P k n (i+1) [] (2*p+1))=sm k (fun p=>if p=k then 0 else 0):=zAJ k fun p hp=>by
   have:nx k [] (2*p+1)=none:=by unfold nx;rw[if_pos (by omega),if_neg (by omega)];rfl
   unfold tv;rw[this];simp
  rw[e2,zKq,if_neg (Nat.lt_irrefl _),zB9];omega
 |cons o r=>
  have ho:=hst o (List.mem_cons_self ..)
  have e2:sm k (fun p=>P i (2*p+1)*tv P k n (i+1) (o::r) (2*p+1))=sm k (fun p=>if p=o then P i (2*o+1)*cv P k n (i+1) r else 0):=zAJ k fun p hp=>by
   by_cases e:p=o
   ·subst e
    unfold tv;rw[zGa r hp,if_pos rfl]
   ·have:nx k (o::r) (2*p+1)=none:=by unfold nx;rw[if_pos (by omega),if_neg (by omega),zDU,if_neg (by omega)]
    unfold tv;rw[this,if_neg e];simp
  rw[e2,zKq,if_pos ho,zBb]
theorem zGc{k:Nat}:∀ {l st s:List Nat},(∀o∈st,o<k)->go k st l=some s->∀o∈s,o<k
 |[],st,s,h,e=>by rw[zAl]at e;cases e;exact h
 |b::l,st,s,h,e=>by
  rw[zAk]at e
  obtain⟨s1,h1,h2⟩:=Option.bind_eq_some_iff.mp e
  refine zGc (fun o ho=>?_) h2
  obtain⟨hb,⟨_,rfl⟩|⟨_,rfl⟩⟩:=zAu h1
  ·rcases List.mem_cons.mp ho with rfl|ho
   ·omega
   ·exact h o ho
  ·exact h o (List.mem_cons_of_mem _ ho)
theorem zIZ{P:Nat->Nat->Int}{k:Nat}{a:List Nat}(hP:∀i b,i<a.length->b<2*k->okc (a.getD i 0) b=false->P i b=0):∀j,j<=a.length->sms ((fil k a j).map fun e=>wtl P 0 e.1*cv P k (a.length-j) j e.2)=cv P k a.length 0 []
 |0,_=>by
  rw[fil]
  simp only[List.map_cons,List.map_nil,sms,List.foldr,wtl,Nat.sub_zero]
  omega
 |j+1,hj=>by
  rw[<-zIZ hP j (by omega),fil,zD3]
  refine zC3 fun e he=>?_
  obtain⟨h1,h2,h3⟩:=zDQ he
  have hst:∀o∈e.2,o<k:=zGc (fun o ho=>by cases ho) h2
  unfold chl
  rw[zJ9,show a.length-j=(a.length-(j+1))+1 by omega,<-zOP _ _ _ hst]
  have pull:∀ (x:Int) (L:List Nat) (f:Nat->Int),sms (L.map fun b=>x*f b)=x*sms (L.map f):=fun x L f=>by
   induction L with
   |nil=>simp[sms]
   |cons b L ih=>rw[List.map_cons,List.map_cons,sms_cons,sms_cons,ih,Int.mul_add]
  rw[<-pull]
  refine zC3 fun b hb=>?_
  have hb:=List.mem_range.mp hb
  cases hc:cnd k (a.getD j 0) ((a.length-(j+1))+1) e b with
  |some x=>
   obtain⟨g1,g2,g3,_⟩:=zEa hc
   unfold tv
   rw[g2]
   simp only
   rw[g3,zHN,wtl,wtl,Nat.zero_add,h1,Int.mul_one,Int.mul_assoc]
  |none=>
   simp only
   cases ho:okc (a.getD j 0) b with
   |false=>rw[hP j b (by omega) hb ho];simp
   |true=>
    unfold tv
    cases hn:nx k e.2 b with
    |none=>simp
    |some s=>
     simp only
     unfold cnd at hc
     rw[if_pos ho,hn,Option.bind_some]at hc
     by_cases z:b%2=0/\¬e.2.length<(a.length-(j+1))+1
     ·obtain⟨_,⟨_,rfl⟩|⟨w,_⟩⟩:=zAu hn
      ·rw[zEY _ _ _ (by rw[List.length_cons];omega)];simp
      ·omega
     ·rw[if_neg z]at hc;cases hc
theorem zGL{P:Nat->Nat->Int}{k:Nat}{a:List Nat}(hP:∀i b,i<a.length->b<2*k->okc (a.getD i 0) b=false->P i b=0):sms ((ress k a).map (wtl P 0))=cv P k a.length 0 []:=by
 rw[<-zIZ hP a.length (Nat.le_refl _)]
 unfold ress
 rw[List.map_map]
 generalize fil k a a.length=L
 induction L with
 |nil=>rfl
 |cons e L ih=>
  rw[List.map_cons,sms_cons,List.filter_cons,<-ih,Nat.sub_self]
  cases h:e.2 with
  |nil=>rw[if_pos (by rw[decide_eq_true rfl]),List.map_cons,sms_cons,cv,Int.mul_one];rfl
  |cons o r=>rw[if_neg (by simp),cv,Int.mul_zero,Int.zero_add]
theorem zF8{P:Nat->Nat->Int}:∀ {l:List Nat} {s i:Nat},i<l.length->P (s+i) (l.getD i 0)=0->wtl P s l=0
 |[],_,i,h,_=>absurd h (Nat.not_lt_zero _)
 |b::l,s,0,_,e=>by rw[wtl,show P s b=0 from e,Int.zero_mul]
 |b::l,s,i+1,h,e=>by
  rw[wtl,zF8 (l:=l) (s:=s+1) (i:=i) (by simpa using h) (by rw[show s+1+i=s+(i+1) by omega];exact e),Int.mul_zero]
end BrB
namespace BrS
open L2 PySem PySem.Spec PyProof.Rows BrM BrC BrB BrR
theorem zMr{ws:List Int}{c b:Nat}(hw:ws.length<=8)(hb:b<ws.length):(plw ws c).getD b 0=if c=63 then ws.getD b 0 else if c=brs.getD b 0 then 1 else 0:=by
 unfold plw
 by_cases h:c=63
 ·rw[if_pos h,if_pos h]
 ·rw[if_neg h,if_neg h,List.getD_eq_getElem?_getD,List.getElem?_map,List.getElem?_take_of_lt hb,zB2 (by omega)];rfl
theorem zNj{ws:List Int}{a:List Nat}{i b:Nat}(hi:i<a.length)(hw:ws.length<=8)(hb:b<ws.length):PP (a.map (plw ws)) i b=if a.getD i 0=63 then ws.getD b 0 else if a.getD i 0=brs.getD b 0 then 1 else 0:=by
 show((a.map (plw ws)).getD i []).getD b 0=_
 have:(a.map (plw ws)).getD i []=plw ws (a.getD i 0):=by
  simp only[List.getD_eq_getElem?_getD,List.getElem?_map,List.getElem?_eq_getElem hi];rfl
 rw[this,zMr hw hb]
theorem zFp{x y:Int}(h0:0<=x)(h:x<=y):∀n:Nat,x^n<=y^n
 |0=>by rw[Int.pow_zero,Int.pow_zero];exact Int.le_refl _
 |n+1=>by rw[Int.pow_succ,Int.pow_succ];exact Int.mul_le_mul (zFp h0 h n) h h0 (Int.pow_nonneg (by omega))
theorem zFo{y:Int}(h:1<=y){n m:Nat}(hnm:n<=m):y^n<=y^m:=by
 obtain⟨d,rfl⟩:∃d,m=n+d:=⟨m-n,by omega⟩
 clear hnm
 induction d with
 |zero=>exact Int.le_refl _
 |succ d ih=>
  rw[<-Nat.add_assoc,Int.pow_succ]
  have h0:0<=y^(n+d):=Int.pow_nonneg (by omega)
  calc y^n<=y^(n+d)*1:=by rw[Int.mul_one];exact ih
   _<=y^(n+d)*y:=Int.mul_le_mul_of_nonneg_left h h0
end BrS
namespace BrI
open BrM BrC BrS
theorem zD4(f:Nat->Int)(a:Nat):∀m,sm (a+m) f=sm a f+sm m (fun e=>f (a+e))
 |0=>by rw[Nat.add_zero];simp[sm]
 |m+1=>by rw[<-Nat.add_assoc,sm,zD4 f a m,sm];omega
theorem zGH{f:Nat->Int}{n a m:Nat}(h:a+m<=n)(h0:∀e,e<n->(e<a\/a+m<=e)->f e=0):sm n f=sm m (fun e=>f (a+e)):=by
 obtain⟨d,rfl⟩:∃d,n=a+m+d:=⟨n-(a+m),by omega⟩
 rw[zD4 f (a+m) d,zD4 f a m,sm_zero a fun e he=>h0 e (by omega) (.inl he),sm_zero d fun e he=>h0 _ (by omega) (.inr (by omega))]
 omega
section
variable{P:Nat->Nat->Int}{k n:Nat}
theorem zD1(i:Nat):tbl P k i i=1:=by unfold tbl;rw[if_pos (Nat.le_refl _),Nat.sub_self];rfl
theorem zAh{i j:Nat}(h:j<i):tbl P k i j=0:=by unfold tbl;rw[if_neg (by omega)]
theorem zGC{i j:Nat}(h:i<j)(hj:j<=n):tbl P k i j=sm n (fun e=>pr P k i e*(tbl P k (i+1) e*tbl P k (e+1) j)):=by
 rw[zGH (a:=i+1) (m:=j-i-1) (by omega) (fun e he z=>by
  rcases z with z|z
  ·rw[zAh (i:=i+1) (j:=e) z];simp
  ·rw[zAh (i:=e+1) (j:=j) (by omega)];simp)]
 unfold tbl
 rw[if_pos (by omega),show j-i=(j-i-1)+1 by omega,zFG]
 refine zAJ _ fun e he=>?_
 rw[if_pos (by omega),if_pos (by omega),show i+1+e-(i+1)=e by omega,show j-(i+1+e+1)=j-i-1-e-1 by omega,show i+1+e+1=i+e+2 by omega,Int.mul_assoc]
theorem zHV{i t:Nat}(h:i<=t)(ht:t<n):tbl P k i (t+1)=sm n (fun s=>tbl P k i s*(pr P k s t*tbl P k (s+1) t)):=by
 rw[zGH (a:=i) (m:=t-i) (by omega) (fun e he z=>by
  rcases z with z|z
  ·rw[zAh (i:=i) (j:=e) z];simp
  ·rw[zAh (i:=e+1) (j:=t) (by omega)];simp)]
 unfold tbl
 rw[if_pos (by omega),show t+1-i=(t-i)+1 by omega,zIn (t-i) (t-i) i (Nat.le_refl _)]
 refine zAJ _ fun e he=>?_
 rw[if_pos (by omega),if_pos (by omega),show i+e-i=e by omega,show t-(i+e+1)=t-i-e-1 by omega,show i+(t-i)=t by omega,Int.mul_assoc]
def Of(P:Nat->Nat->Int)(k n:Nat):Nat->Nat->Nat->Int
 |0,_,_=>0
 |f+1,t,j=>(if j=n then tbl P k 0 t else 0)+sm n (fun u=>tbl P k (u+1) t*(pr P k u j*sm (n+1) (fun s=>Of P k n f u s*tbl P k (j+1) s)))
theorem zI6:∀ (f t j:Nat),t<f->Of P k n f t j=Of P k n (f+1) t j
 |0,t,j,h=>absurd h (Nat.not_lt_zero _)
 |f+1,t,j,h=>by
  rw[Of,Of.eq_def (n:=n) (P:=P) (k:=k) (f+1+1)]
  simp only
  congr 1
  refine zAJ n fun u hu=>?_
  by_cases e:u<t
  ·congr 2
   exact zAJ (n+1) fun s _=>by rw[zI6 f u s (by omega)]
  ·rw[zAh (i:=u+1) (j:=t) (by omega)];simp
def Oo(P:Nat->Nat->Int)(k n t j:Nat):Int:=Of P k n (n+1) t j
def out(P:Nat->Nat->Int)(k n u j:Nat):Int:=sm (n+1) (fun s=>Oo P k n u s*tbl P k (j+1) s)
theorem zHJ{t j:Nat}(h:t<=n):Oo P k n t j=(if j=n then tbl P k 0 t else 0)+sm n (fun u=>tbl P k (u+1) t*(pr P k u j*out P k n u j)):=by
 unfold Oo out
 rw[Of]
 congr 1
 refine zAJ n fun u hu=>?_
 by_cases e:u<t
 ·congr 2
  refine zAJ (n+1) fun s _=>?_
  unfold Oo
  rw[zI6 n u s (by omega)]
 ·rw[zAh (i:=u+1) (j:=t) (by omega)];simp
theorem zEf(j:Nat):Oo P k n 0 j=if j=n then 1 else 0:=by
 rw[zHJ (Nat.zero_le _),zD1,sm_zero n fun u _=>by rw[zAh (i:=u+1) (j:=0) (by omega)];simp]
 omega
theorem zF6{t j:Nat}(h:t<n):Oo P k n (t+1) j=pr P k t j*out P k n t j+sm n (fun s=>Oo P k n s j*(pr P k s t*tbl P k (s+1) t)):=by
 rw[zHJ (by omega)]
 have e1:sm n (fun u=>tbl P k (u+1) (t+1)*(pr P k u j*out P k n u j))=pr P k t j*out P k n t j+sm n (fun u=>(if u<t then tbl P k (u+1) (t+1)else 0)*(pr P k u j*out P k n u j)):=by
  have h1:sm n (fun u=>(if u=t then pr P k t j*out P k n t j else 0)+(if u<t then tbl P k (u+1) (t+1)else 0)*(pr P k u j*out P k n u j))=sm n (fun u=>tbl P k (u+1) (t+1)*(pr P k u j*out P k n u j)):=zAJ n fun u _=>by
   by_cases z:u=t
   ·subst z;rw[if_pos rfl,if_neg (Nat.lt_irrefl _),zD1];simp
   ·rw[if_neg z]
    by_cases w:u<t
    ·rw[if_pos w];omega
    ·rw[if_neg w,zAh (i:=u+1) (j:=t+1) (by omega)];simp
  rw[<-h1,zB8]
  congr 1
  exact(zBq (f:=fun u=>if u=t then pr P k t j*out P k n t j else 0) h (fun i _ hi=>if_neg hi)).trans (if_pos rfl)
 have e2:∀s,s<n->Oo P k n s j*(pr P k s t*tbl P k (s+1) t)=(if j=n then tbl P k 0 s else 0)*(pr P k s t*tbl P k (s+1) t)+sm n (fun u=>tbl P k (u+1) s*(pr P k u j*out P k n u j)*(pr P k s t*tbl P k (s+1) t)):=fun s hs=>by
  rw[zHJ (by omega),Int.add_mul,zBi]
 rw[e1,zAJ n e2,zB8,zBj]
 have e3:(if j=n then tbl P k 0 (t+1)else 0)=sm n (fun s=>(if j=n then tbl P k 0 s else 0)*(pr P k s t*tbl P k (s+1) t)):=by
  by_cases z:j=n
  ·rw[if_pos z,zHV (n:=n) (Nat.zero_le _) h]
   exact zAJ n fun s _=>by rw[if_pos z]
  ·rw[if_neg z,sm_zero n fun s _=>by rw[if_neg z];simp]
 have e4:sm n (fun u=>(if u<t then tbl P k (u+1) (t+1)else 0)*(pr P k u j*out P k n u j))=sm n (fun u=>sm n (fun s=>tbl P k (u+1) s*(pr P k u j*out P k n u j)*(pr P k s t*tbl P k (s+1) t))):=zAJ n fun u _=>by
  by_cases w:u<t
  ·rw[if_pos w,zHV (n:=n) (by omega) h,<-zBi]
   exact zAJ n fun s _=>Int.mul_right_comm _ _ _
  ·rw[if_neg w,Int.zero_mul,sm_zero n fun s hs=>?_]
   by_cases z:s<t
   ·rw[zAh (i:=u+1) (j:=s) (by omega)];simp
   ·rw[zAh (i:=s+1) (j:=t) (by omega)];simp
 rw[e3,e4]
 omega
theorem zGA:∀s,s<=n->sm (n+1) (fun t=>Oo P k n s t*tbl P k s t)=tbl P k 0 n
 |0,_=>by
  rw[zBq (f:=fun t=>Oo P k n 0 t*tbl P k 0 t) (i:=n) (by omega) fun j _ hj=>by rw[zEf,if_neg hj,Int.zero_mul]]
  rw[zEf,if_pos rfl,Int.one_mul]
 |s+1,h=>by
  rw[<-zGA s (by omega)]
  have hs:s<n:=h
  have a1:sm (n+1) (fun t=>Oo P k n s t*tbl P k s t)=Oo P k n s s+sm n (fun e=>pr P k s e*(tbl P k (s+1) e*out P k n s e)):=by
   have h1:∀t,t<n+1->Oo P k n s t*tbl P k s t=(if t=s then Oo P k n s s else 0)+sm n (fun e=>pr P k s e*(tbl P k (s+1) e*(Oo P k n s t*tbl P k (e+1) t))):=fun t ht=>by
    by_cases z:t=s
    ·subst z
     rw[zD1,if_pos rfl,sm_zero n fun e _=>?_]
     ·omega
     ·by_cases w:e+1<=t
      ·rw[zAh (i:=t+1) (j:=e) (by omega)];simp
      ·rw[zAh (i:=e+1) (j:=t) (by omega)];simp
    ·rw[if_neg z,Int.zero_add]
     by_cases w:s<t
     ·rw[zGC (n:=n) w (by omega),<-zBM]
      exact zAJ n fun e _=>by
       rw[Int.mul_left_comm,Int.mul_left_comm (Oo P k n s t)]
     ·rw[zAh (i:=s) (j:=t) (by omega),Int.mul_zero,sm_zero n fun e _=>?_]
      by_cases y:e+1<=t
      ·rw[zAh (i:=s+1) (j:=e) (by omega)];simp
      ·rw[zAh (i:=e+1) (j:=t) (by omega)];simp
   rw[zAJ (n+1) h1,zB8,zBj]
   congr 1
   ·exact(zBq (f:=fun t=>if t=s then Oo P k n s s else 0) (by omega) (fun i _ hi=>if_neg hi)).trans (if_pos rfl)
   ·refine zAJ n fun e _=>?_
    unfold out
    rw[<-zBM,<-zBM]
  have a2:sm (n+1) (fun t=>Oo P k n (s+1) t*tbl P k (s+1) t)=sm n (fun e=>pr P k s e*(tbl P k (s+1) e*out P k n s e))+sm n (fun u=>pr P k u s*(tbl P k (u+1) s*out P k n u s)):=by
   have h1:∀t,t<n+1->Oo P k n (s+1) t*tbl P k (s+1) t=pr P k s t*(tbl P k (s+1) t*out P k n s t)+sm n (fun u=>pr P k u s*(tbl P k (u+1) s*(Oo P k n u t*tbl P k (s+1) t))):=fun t ht=>by
    rw[zF6 hs,Int.add_mul,<-zBi]
    congr 1
    ·rw[Int.mul_assoc,Int.mul_comm (out P k n s t)]
    ·exact zAJ n fun u _=>by
      rw[Int.mul_assoc,Int.mul_assoc,Int.mul_left_comm (Oo P k n u t),Int.mul_left_comm (Oo P k n u t)]
   rw[zAJ (n+1) h1,zB8,zBj]
   congr 1
   ·rw[sm]
    have:out P k n s n=0:=by
     unfold out
     refine sm_zero (n+1) fun t ht=>?_
     rw[zAh (i:=n+1) (j:=t) (by omega)];simp
    rw[this];simp
   ·refine zAJ n fun u _=>?_
    unfold out
    rw[<-zBM,<-zBM]
  have a3:Oo P k n s s=sm n (fun u=>pr P k u s*(tbl P k (u+1) s*out P k n u s)):=by
   rw[zHJ (by omega),if_neg (by omega),Int.zero_add]
   exact zAJ n fun u _=>by rw[Int.mul_left_comm]
  rw[a1,a2,a3];omega
end
section
variable{P P':Nat->Nat->Int}{k n i:Nat}
theorem zDj{x y:Nat}(h:∀j b,j≠i->P' j b=P j b)(hx:y<=i\/i<x):tbl P' k x y=tbl P k x y:=by
 unfold tbl
 by_cases z:x<=y
 ·rw[if_pos z,if_pos z]
  exact zGf _ _ _ fun j b h1 h2=>h j b (by omega)
 ·rw[if_neg z,if_neg z]
theorem zMn{x y:Nat}(h:∀j b,j≠i->P' j b=P j b)(hx:x≠i)(hy:y≠i):pr P' k x y=pr P k x y:=by
 unfold pr
 exact zAJ k fun p _=>by rw[h x _ hx,h y _ hy]
theorem zKi(h:∀j b,j≠i->P' j b=P j b):∀ (f t j:Nat),t<=i->i<j->Of P' k n f t j=Of P k n f t j
 |0,_,_,_,_=>rfl
 |f+1,t,j,ht,hj=>by
  rw[Of,Of]
  congr 1
  ·rw[zDj h (.inl ht)]
  ·refine zAJ n fun u hu=>?_
   by_cases e:u<t
   ·rw[zDj h (x:=u+1) (y:=t) (.inl ht),zMn h (x:=u) (y:=j) (by omega) (by omega)]
    congr 2
    refine zAJ (n+1) fun s hs=>?_
    by_cases z:j+1<=s
    ·rw[zKi h f u s (by omega) (by omega),zDj h (x:=j+1) (y:=s) (.inr (by omega))]
    ·rw[zAh (P:=P') (i:=j+1) (j:=s) (by omega),zAh (P:=P) (i:=j+1) (j:=s) (by omega),Int.mul_zero,Int.mul_zero]
   ·rw[zAh (P:=P') (i:=u+1) (j:=t) (by omega),zAh (P:=P) (i:=u+1) (j:=t) (by omega),Int.zero_mul,Int.zero_mul]
theorem zHz(h:∀j b,j≠i->P' j b=P j b){u j:Nat}(hu:u<=i)(hj:i<=j):out P' k n u j=out P k n u j:=by
 unfold out
 refine zAJ (n+1) fun s hs=>?_
 by_cases z:j+1<=s
 ·unfold Oo
  rw[zKi h (n+1) u s hu (by omega),zDj h (x:=j+1) (y:=s) (.inr (by omega))]
 ·rw[zAh (P:=P') (i:=j+1) (j:=s) (by omega),zAh (P:=P) (i:=j+1) (j:=s) (by omega),Int.mul_zero,Int.mul_zero]
def Pat(P:Nat->Nat->Int)(i b:Nat):Nat->Nat->Int:=fun j c=>if j=i/\c≠b then 0 else P j c
theorem zI5(P:Nat->Nat->Int)(i b:Nat):∀j c,j≠i->Pat P i b j c=P j c:=fun j c h=>if_neg fun z=>h z.1
theorem zKg(P:Nat->Nat->Int)(i b:Nat):Pat P i b i b=P i b:=if_neg fun z=>z.2 rfl
theorem zGl(P:Nat->Nat->Int)(i b:Nat){c:Nat}(h:c≠b):Pat P i b i c=0:=if_pos ⟨rfl,h⟩
theorem zBs(P:Nat->Nat->Int)(h:i<n):tbl P k 0 n=sm n (fun u=>pr P k u i*(tbl P k (u+1) i*out P k n u i))+sm n (fun e=>pr P k i e*(tbl P k (i+1) e*out P k n i e)):=by
 rw[<-zGA i (by omega)]
 have a1:sm (n+1) (fun t=>Oo P k n i t*tbl P k i t)=Oo P k n i i+sm n (fun e=>pr P k i e*(tbl P k (i+1) e*out P k n i e)):=by
  have h1:∀t,t<n+1->Oo P k n i t*tbl P k i t=(if t=i then Oo P k n i i else 0)+sm n (fun e=>pr P k i e*(tbl P k (i+1) e*(Oo P k n i t*tbl P k (e+1) t))):=fun t ht=>by
   by_cases z:t=i
   ·subst z
    rw[zD1,if_pos rfl,sm_zero n fun e _=>?_]
    ·omega
    ·by_cases w:e+1<=t
     ·rw[zAh (i:=t+1) (j:=e) (by omega)];simp
     ·rw[zAh (i:=e+1) (j:=t) (by omega)];simp
   ·rw[if_neg z,Int.zero_add]
    by_cases w:i<t
    ·rw[zGC (n:=n) w (by omega),<-zBM]
     exact zAJ n fun e _=>by rw[Int.mul_left_comm,Int.mul_left_comm (Oo P k n i t)]
    ·rw[zAh (i:=i) (j:=t) (by omega),Int.mul_zero,sm_zero n fun e _=>?_]
     by_cases y:e+1<=t
     ·rw[zAh (i:=i+1) (j:=e) (by omega)];simp
     ·rw[zAh (i:=e+1) (j:=t) (by omega)];simp
  rw[zAJ (n+1) h1,zB8,zBj]
  congr 1
  ·exact(zBq (f:=fun t=>if t=i then Oo P k n i i else 0) (by omega) (fun i _ hi=>if_neg hi)).trans (if_pos rfl)
  ·refine zAJ n fun e _=>?_
   unfold out
   rw[<-zBM,<-zBM]
 have a3:Oo P k n i i=sm n (fun u=>pr P k u i*(tbl P k (u+1) i*out P k n u i)):=by
  rw[zHJ (by omega),if_neg (by omega),Int.zero_add]
  exact zAJ n fun u _=>by rw[Int.mul_left_comm]
 rw[a1,a3]
theorem zI3(P:Nat->Nat->Int){p:Nat}(h:i<n)(hp:p<k):tbl (Pat P i (2*p)) k 0 n=sm n (fun e=>P i (2*p)*P e (2*p+1)*(tbl P k (i+1) e*out P k n i e)):=by
 have off:=zI5 P i (2*p)
 rw[zBs _ h]
 have z1:∀u,u<n->pr (Pat P i (2*p)) k u i*(tbl (Pat P i (2*p)) k (u+1) i*out (Pat P i (2*p)) k n u i)=0:=fun u _=>by
  have:pr (Pat P i (2*p)) k u i=0:=by
   unfold pr
   exact sm_zero k fun q _=>by rw[zGl P i (2*p) (c:=2*q+1) (by omega),Int.mul_zero]
  rw[this,Int.zero_mul]
 rw[sm_zero n z1,Int.zero_add]
 refine zAJ n fun e _=>?_
 by_cases z:i+1<=e
 ·rw[zDj off (x:=i+1) (y:=e) (.inr (by omega)),zHz off (Nat.le_refl _) (by omega)]
  congr 1
  unfold pr
  rw[zBq (f:=fun q=>Pat P i (2*p) i (2*q)*Pat P i (2*p) e (2*q+1)) hp (fun q _ hq=>by rw[zGl P i (2*p) (c:=2*q) (by omega),Int.zero_mul])]
  rw[zKg,off e _ (by omega)]
 ·rw[zAh (P:=Pat P i (2*p)) (i:=i+1) (j:=e) (by omega),zAh (P:=P) (i:=i+1) (j:=e) (by omega)];simp
theorem zGk(P:Nat->Nat->Int){p:Nat}(h:i<n)(hp:p<k):tbl (Pat P i (2*p+1)) k 0 n=sm n (fun u=>P u (2*p)*P i (2*p+1)*(tbl P k (u+1) i*out P k n u i)):=by
 have off:=zI5 P i (2*p+1)
 rw[zBs _ h]
 have z1:∀e,e<n->pr (Pat P i (2*p+1)) k i e*(tbl (Pat P i (2*p+1)) k (i+1) e*out (Pat P i (2*p+1)) k n i e)=0:=fun e _=>by
  have:pr (Pat P i (2*p+1)) k i e=0:=by
   unfold pr
   exact sm_zero k fun q _=>by rw[zGl P i (2*p+1) (c:=2*q) (by omega),Int.zero_mul]
  rw[this,Int.zero_mul]
 rw[sm_zero n z1,Int.add_zero]
 refine zAJ n fun u _=>?_
 by_cases z:u+1<=i
 ·rw[zDj off (x:=u+1) (y:=i) (.inl (Nat.le_refl _)),zHz off (by omega) (Nat.le_refl _)]
  congr 1
  unfold pr
  rw[zBq (f:=fun q=>Pat P i (2*p+1) u (2*q)*Pat P i (2*p+1) i (2*q+1)) hp (fun q _ hq=>by rw[zGl P i (2*p+1) (c:=2*q+1) (by omega),Int.mul_zero])]
  rw[zKg,off u _ (by omega)]
 ·rw[zAh (P:=Pat P i (2*p+1)) (i:=u+1) (j:=i) (by omega),zAh (P:=P) (i:=u+1) (j:=i) (by omega)];simp
end
section
variable{P:Nat->Nat->Int}{k n:Nat}{c:Int}
theorem ipl{x y:Int}(h0:0<=x)(h:x<=y):∀n:Nat,x^n<=y^n
 |0=>by rw[Int.pow_zero,Int.pow_zero];exact Int.le_refl _
 |n+1=>by rw[Int.pow_succ,Int.pow_succ];exact Int.mul_le_mul (ipl h0 h n) h h0 (Int.pow_nonneg (by omega))
theorem zKm(hc:1<=c)(h0:∀i b,0<=P i b)(h1:∀i b,P i b<=c)(hk:k<=4)(x y:Nat):0<=tbl P k x y/\tbl P k x y<=(5*c)^(y-x):=by
 unfold tbl
 by_cases z:x<=y
 ·rw[if_pos z]
  obtain⟨a,b⟩:=zEZ (P:=P) (k:=k) (c:=c) (by omega) h0 h1 (y-x) x []
  refine⟨a,Int.le_trans b (ipl (Int.mul_nonneg (by omega) (by omega)) ?_ _)⟩
  exact Int.mul_le_mul_of_nonneg_right (by omega) (by omega)
 ·rw[if_neg z]
  exact⟨Int.le_refl _,Int.pow_nonneg (by omega)⟩
theorem zOZ(hc:1<=c)(h0:∀i b,0<=P i b)(h1:∀i b,P i b<=c)(hk:k<=4)(x y:Nat):0<=pr P k x y/\pr P k x y<=(5*c)^2:=by
 have hb:∀p,p<k->0<=P x (2*p)*P y (2*p+1)/\P x (2*p)*P y (2*p+1)<=c*c:=fun p _=>⟨Int.mul_nonneg (h0 _ _) (h0 _ _),Int.mul_le_mul (h1 _ _) (h1 _ _) (h0 _ _) (by omega)⟩
 unfold pr
 refine⟨zAT k fun p hp=>(hb p hp).1,?_⟩
 refine Int.le_trans (zCW k fun p hp=>(hb p hp).2) ?_
 rw[zB3]
 have hcc:0<=c*c:=Int.mul_nonneg (by omega) (by omega)
 have e:(5*c)^2=25*(c*c):=by rw[show(2:Nat)=1+1 from rfl,Int.pow_succ,Int.pow_succ,Int.pow_zero,Int.one_mul,Int.mul_assoc,Int.mul_left_comm c,<-Int.mul_assoc];rfl
 rw[e]
 exact Int.mul_le_mul_of_nonneg_right (by omega) hcc
theorem up2{D:Int}(hD:0<=D){m E:Nat}(h:2<=m):10000*((100*D)^E*D^m)<=(100*D)^(E+m):=by
 have h1:(10000:Int)*D^m<=(100*D)^m:=by
  obtain⟨d,rfl⟩:∃d,m=2+d:=⟨m-2,by omega⟩
  rw[Int.mul_pow]
  refine Int.mul_le_mul_of_nonneg_right ?_ (Int.pow_nonneg hD)
  rw[Int.pow_add]
  have:(1:Int)<=100^d:=Int.pow_pos (by decide)
  have e:(100:Int)^2=10000:=by decide
  rw[e];omega
 rw[Int.pow_add,Int.mul_left_comm]
 exact Int.mul_le_mul_of_nonneg_left h1 (Int.pow_nonneg (by omega))
theorem zKB{f:Nat->Int}{Y:Int}{m:Nat}(h:∀i,i<m->10000*f i<=Y):10000*sm m f<=m*Y:=by
 rw[<-zBM]
 refine Int.le_trans (zCW m h) ?_
 rw[zB3];exact Int.le_refl _
theorem zHB{P:Nat->Nat->Int}{k:Nat}(h0:∀i b,0<=P i b):∀ (n i:Nat) (st:List Nat),0<=cv P k n i st
 |0,_,[]=>by rw[cv];decide
 |0,_,_::_=>by rw[cv];decide
 |n+1,i,[]=>by rw[zB9];exact zAT k fun p _=>Int.mul_nonneg (h0 _ _) (zHB h0 _ _ _)
 |n+1,i,o::r=>by rw[zBb];exact Int.add_nonneg (zAT k fun p _=>Int.mul_nonneg (h0 _ _) (zHB h0 _ _ _)) (Int.mul_nonneg (h0 _ _) (zHB h0 _ _ _))
theorem zHI(h0:∀i b,0<=P i b):∀ (f t j:Nat),0<=Of P k n f t j
 |0,_,_=>Int.le_refl _
 |f+1,t,j=>by
  have tb0:∀x y,0<=tbl P k x y:=fun x y=>by
   unfold tbl
   split
   ·exact zHB h0 _ _ _
   ·exact Int.le_refl _
  have pr0:∀x y,0<=pr P k x y:=fun x y=>zAT k fun p _=>Int.mul_nonneg (h0 _ _) (h0 _ _)
  rw[Of]
  refine Int.add_nonneg ?_ (zAT n fun u _=>Int.mul_nonneg (tb0 _ _) (Int.mul_nonneg (pr0 _ _) (zAT (n+1) fun s _=>Int.mul_nonneg (zHI h0 f u s) (tb0 _ _))))
  split
  ·exact tb0 _ _
  ·exact Int.le_refl _
theorem zNm(hc:1<=c)(h0:∀i b,0<=P i b)(h1:∀i b,P i b<=c)(hk:k<=4)(hn:n<=40):∀ (t j:Nat),t<=j->j<=n->Oo P k n t j<=(100*(5*c))^(n-j+t)
 |0,j,_,hj=>by
  rw[zEf]
  have:(1:Int)<=(100*(5*c))^(n-j+0):=Int.pow_pos (by omega)
  split<;>omega
 |t+1,j,ht,hj=>by
  have hD:(0:Int)<=5*c:=by omega
  have T:=zKm hc h0 h1 hk
  have R:=zOZ hc h0 h1 hk
  have nn:∀x y,0<=Oo P k n x y:=fun x y=>zHI h0 _ _ _
  rw[zF6 (by omega)]
  have Y0:0<=(100*(5*c))^(n-j+(t+1)):=Int.pow_nonneg (by omega)
  have a1:10000*(pr P k t j*out P k n t j)<=((n+1:Nat):Int)*(100*(5*c))^(n-j+(t+1)):=by
   unfold out
   rw[<-zBM]
   refine zKB fun s hs=>?_
   by_cases z:j+1<=s
   ·have b1:=zNm hc h0 h1 hk hn t s (by omega) (by omega)
    have b2:=T (j+1) s
    have b3:=R t j
    have b4:pr P k t j*(Oo P k n t s*tbl P k (j+1) s)<=(100*(5*c))^(n-s+t)*(5*c)^(s-j+1):=by
     refine Int.le_trans (Int.mul_le_mul b3.2 (Int.mul_le_mul b1 b2.2 b2.1 (Int.pow_nonneg (by omega))) (Int.mul_nonneg (nn _ _) b2.1) (Int.pow_nonneg hD)) ?_
     rw[Int.mul_left_comm,<-Int.pow_add,show 2+(s-(j+1))=s-j+1 by omega]
     exact Int.le_refl _
    refine Int.le_trans (Int.mul_le_mul_of_nonneg_left b4 (by decide)) (Int.le_trans (up2 hD (by omega)) ?_)
    rw[show n-s+t+(s-j+1)=n-j+(t+1) by omega]
    exact Int.le_refl _
   ·rw[zAh (i:=j+1) (j:=s) (by omega)];simpa using Y0
  have a2:10000*sm n (fun s=>Oo P k n s j*(pr P k s t*tbl P k (s+1) t))<=(n:Int)*(100*(5*c))^(n-j+(t+1)):=by
   refine zKB fun s hs=>?_
   by_cases z:s<t
   ·have b1:=zNm hc h0 h1 hk hn s j (by omega) hj
    have b2:=T (s+1) t
    have b3:=R s t
    have b4:Oo P k n s j*(pr P k s t*tbl P k (s+1) t)<=(100*(5*c))^(n-j+s)*(5*c)^(t-s+1):=by
     refine Int.le_trans (Int.mul_le_mul b1 (Int.mul_le_mul b3.2 b2.2 b2.1 (Int.pow_nonneg hD)) (Int.mul_nonneg b3.1 b2.1) (Int.pow_nonneg (by omega))) ?_
     rw[<-Int.pow_add,show 2+(t-(s+1))=t-s+1 by omega]
     exact Int.le_refl _
    refine Int.le_trans (Int.mul_le_mul_of_nonneg_left b4 (by decide)) (Int.le_trans (up2 hD (by omega)) ?_)
    rw[show n-j+s+(t-s+1)=n-j+(t+1) by omega]
    exact Int.le_refl _
   ·rw[zAh (i:=s+1) (j:=t) (by omega)];simpa using Y0
  generalize(100*(5*c))^(n-j+(t+1))=Y at*
  generalize pr P k t j*out P k n t j=A at*
  generalize sm n (fun s=>Oo P k n s j*(pr P k s t*tbl P k (s+1) t))=B at*
  have e1:((n+1:Nat):Int)*Y<=41*Y:=Int.mul_le_mul_of_nonneg_right (by omega) Y0
  have e2:(n:Int)*Y<=40*Y:=Int.mul_le_mul_of_nonneg_right (by omega) Y0
  omega
end
end BrI
namespace BrS
open L2 PySem BrM BrC BrB BrI BrR
def prs(n:Nat):List (Nat×Nat):=(List.range n).flatMap fun s=>(List.range ((n-s)/2)).map fun q=>(s,s+1+2*q)
def rst(P:Nat->Nat->Int)(k n s e:Nat):Int:=tbl P k (s+1) e*out P k n s e
def Fp(P:Nat->Nat->Int)(k n:Nat)(H:Hp)(vs:List V)(L:List (Nat×Nat)):Prop:=vs.length=L.length/\∀ (m:Nat) (x:Nat×Nat),L[m]? =some x->∃T:Addr,vs[m]? =some (V.ref T)/\H T=some (.tup [.int x.1, .int x.2, .int (rst P k n x.1 x.2)])
theorem Fp.same{P:Nat->Nat->Int}{k n:Nat}{H H':Hp}{vs:List V}{L:List (Nat×Nat)}(h:Fp P k n H vs L)(s:Same H H'):Fp P k n H' vs L:=⟨h.1,fun m x hx=>let⟨T,a,b⟩:=h.2 m x hx;⟨T,a,s _ _ b⟩⟩
theorem Fp.lst{P:Nat->Nat->Int}{k n:Nat}{H:Hp}{vs:List V}{L:List (Nat×Nat)}{a:Addr}{xs:List V}{o:HO}(h:Fp P k n H vs L)(ha:H a=some (.lst xs)):Fp P k n (upd H a o) vs L:=⟨h.1,fun m x hx=>by
 obtain⟨T,e,b⟩:=h.2 m x hx
 exact⟨T,e,by rw[zAG (zBr b ha (fun z=>by cases z))];exact b⟩⟩
theorem Fp.more{P:Nat->Nat->Int}{k n:Nat}{H:Hp}{vs:List V}{L:List (Nat×Nat)}{T:Addr}{s e:Nat}(h:Fp P k n H vs L)(b:H T=some (.tup [.int (s:Int), .int (e:Int), .int (rst P k n s e)])):Fp P k n H (vs++[.ref T]) (L++[(s,e)]):=by
 refine⟨by rw[List.length_append,List.length_append,h.1];rfl,fun i x hx=>?_⟩
 by_cases c:i<L.length
 ·rw[List.getElem?_append_left c]at hx
  obtain⟨T',b1,b2⟩:=h.2 i x hx
  exact⟨T',by rw[List.getElem?_append_left (by rw[h.1];exact c)];exact b1,b2⟩
 ·rw[List.getElem?_append_right (by omega)]at hx
  have hi:i=L.length:=by
   have:=(List.getElem?_eq_some_iff.mp hx).1
   simp at this;omega
  subst hi
  rw[Nat.sub_self]at hx
  cases hx
  exact⟨T,by rw[List.getElem?_append_right (by rw[h.1];exact Nat.le_refl _),h.1,Nat.sub_self];rfl,b⟩
theorem Tb.but{H0 H H':Hp}{s F:Addr}{ad:Nat->Addr}{n:Nat}{T:Nat->Nat->Int}(t:Tb H0 H s ad n T)(hF:H0 F=none)(h1:F≠s)(h2:∀i,i<=n->F≠ad i)(h:SameBut1 F H H'):Tb H0 H' s ad n T:=
 ⟨t.fs,t.fa,t.ns,t.inj,h _ _ t.top h1.symm,fun i hi=>h _ _ (t.row i hi) (h2 i hi).symm,fun b o z=>h _ _ (t.sm b o z) (zAE z hF)⟩
def ot(P:Nat->Nat->Int)(k n s q r i j:Nat):Int:=
 if i<=s then Oo P k n i j else
  sm s (fun u=>Oo P k n u j*(pr P k u (i-1)*tbl P k (u+1) (i-1)))+
  (if s<i-1/\(i-1<s+1+2*q\/(i-1=s+1+2*q/\j<r))then Oo P k n s j*(pr P k s (i-1)*tbl P k (s+1) (i-1))else 0)+
  (if i=s+1/\j<s+1+2*q then pr P k s j*out P k n s j else 0)
def OkT(P:Nat->Nat->Int)(k n s q r:Nat)(T:Nat->Nat->Int):Prop:=∀i j,i<=j->j<=n->(j-i)%2=0->T i j=ot P k n s q r i j
theorem zEk{P:Nat->Nat->Int}{k x y:Nat}(h:(y-x)%2=1):tbl P k x y=0:=by
 unfold tbl
 split
 ·exact zDs _ _ _ (by simpa using h)
 ·rfl
theorem OkT.zero{P:Nat->Nat->Int}{k n:Nat}{T:Nat->Nat->Int}(h:∀i j,T i j=if i=0/\j=n then 1 else 0):OkT P k n 0 0 0 T:=by
 intro i j h1 h2 h3
 rw[h]
 unfold ot
 by_cases e:i=0
 ·subst e
  rw[if_pos (Nat.le_refl _),zEf]
  by_cases z:j=n
  ·rw[if_pos ⟨rfl,z⟩,if_pos z]
  ·rw[if_neg (fun w=>z w.2),if_neg z]
 ·rw[if_neg (fun w=>e w.1),if_neg (by omega),if_neg (by omega),if_neg (by omega)];rfl
theorem OkT.start{P:Nat->Nat->Int}{k n s:Nat}{T:Nat->Nat->Int}(hs:s<n)(h:OkT P k n s ((n-s)/2) 0 T):OkT P k n (s+1) 0 0 T:=by
 intro i j h1 h2 h3
 rw[h i j h1 h2 h3]
 unfold ot
 by_cases e:i<=s
 ·rw[if_pos e,if_pos (by omega)]
 ·rw[if_neg e]
  by_cases e2:i=s+1
  ·subst e2
   rw[if_pos (Nat.le_refl _),if_neg (by omega),zF6 hs]
   have e3:sm n (fun u=>Oo P k n u j*(pr P k u s*tbl P k (u+1) s))=sm s (fun u=>Oo P k n u j*(pr P k u s*tbl P k (u+1) s)):=by
    refine(zGH (a:=0) (m:=s) (by omega) fun e _ z=>?_).trans (zAJ s fun u _=>by rw[Nat.zero_add])
    rw[zAh (i:=e+1) (j:=s) (by omega)];simp
   rw[e3,show s+1-1=s from rfl]
   by_cases z:j<s+1+2*((n-s)/2)
   ·rw[if_pos ⟨rfl,z⟩];omega
   ·rw[if_neg (fun w=>z w.2)]
    have hj:j=n:=by omega
    have:out P k n s j=0:=by
     unfold out
     refine BrC.sm_zero (n+1) fun t ht=>?_
     rw[zAh (i:=j+1) (j:=t) (by omega)];simp
    rw[this];omega
  ·rw[if_pos (show s<i-1/\(i-1<s+1+2*((n-s)/2)\/(i-1=s+1+2*((n-s)/2)/\j<0))from⟨by omega, .inl (by omega)⟩),if_neg (show¬ (i=s+1/\j<s+1+2*((n-s)/2))from fun w=>e2 w.1),if_neg (show¬i<=s+1 by omega),if_neg (show¬ (s+1<i-1/\(i-1<s+1+1+2*0\/(i-1=s+1+1+2*0/\j<0))) by omega),if_neg (show¬ (i=s+1+1/\j<s+1+1+2*0) by omega),sm]
   omega
theorem OkT.stop{P:Nat->Nat->Int}{k n s q r:Nat}{T:Nat->Nat->Int}{v:Int}(h:OkT P k n s q (s+2+2*q+2*r) T)(hv:v=T (s+2+2*q) (s+2+2*q+2*r)+Oo P k n s (s+2+2*q+2*r)*pr P k s (s+1+2*q)*tbl P k (s+1) (s+1+2*q))(hn:s+2+2*q+2*r<=n):
 OkT P k n s q (s+2+2*q+2*(r+1)) (fun a b=>if a=s+2+2*q/\b=s+2+2*q+2*r then v else T a b):=by
 intro i j h1 h2 h3
 dsimp only
 by_cases z:i=s+2+2*q/\j=s+2+2*q+2*r
 ·obtain⟨rfl,rfl⟩:=z
  rw[if_pos ⟨rfl,rfl⟩,hv,h _ _ (by omega) hn (by omega)]
  unfold ot
  rw[if_neg (by omega),if_neg (by omega),show s+2+2*q-1=s+1+2*q by omega,if_neg (by omega),if_neg (by omega),if_pos (by omega),Int.mul_assoc]
  omega
 ·rw[if_neg z,h i j h1 h2 h3]
  unfold ot
  by_cases e:i<=s
  ·rw[if_pos e,if_pos e]
  ·rw[if_neg e,if_neg e]
   congr 2
   by_cases w:i-1=s+1+2*q
   ·have hi:i=s+2+2*q:=by omega
    have hj:j≠s+2+2*q+2*r:=fun y=>z ⟨hi,y⟩
    by_cases y:j<s+2+2*q+2*r
    ·rw[if_pos (by omega),if_pos (by omega)]
    ·rw[if_neg (by omega),if_neg (by omega)]
   ·by_cases y:s<i-1/\i-1<s+1+2*q
    ·rw[if_pos (by omega),if_pos (by omega)]
    ·rw[if_neg (by omega),if_neg (by omega)]
theorem OkT.fin{P:Nat->Nat->Int}{k n s q r:Nat}{T:Nat->Nat->Int}{v:Int}(h:OkT P k n s q r T)(hr:n<r)(hv:v=T (s+1) (s+1+2*q)+pr P k s (s+1+2*q)*out P k n s (s+1+2*q))(hn:s+1+2*q<n):
 OkT P k n s (q+1) 0 (fun a b=>if a=s+1/\b=s+1+2*q then v else T a b):=by
 intro i j h1 h2 h3
 dsimp only
 by_cases z:i=s+1/\j=s+1+2*q
 ·obtain⟨rfl,rfl⟩:=z
  rw[if_pos ⟨rfl,rfl⟩,hv,h _ _ (by omega) (by omega) (by omega)]
  unfold ot
  rw[if_neg (by omega),if_neg (by omega),if_neg (by omega),if_neg (by omega),if_neg (by omega),if_pos (by omega)]
  omega
 ·rw[if_neg z,h i j h1 h2 h3]
  unfold ot
  by_cases e:i<=s
  ·rw[if_pos e,if_pos e]
  ·rw[if_neg e,if_neg e]
   have e1:(if s<i-1/\(i-1<s+1+2*q\/(i-1=s+1+2*q/\j<r))then Oo P k n s j*(pr P k s (i-1)*tbl P k (s+1) (i-1))else 0)=(if s<i-1/\(i-1<s+1+2*(q+1)\/(i-1=s+1+2*(q+1)/\j<0))then Oo P k n s j*(pr P k s (i-1)*tbl P k (s+1) (i-1))else 0):=by
    by_cases y:i-1=s+2+2*q
    ·rw[zEk (x:=s+1) (y:=i-1) (by omega)];simp
    ·by_cases w:s<i-1/\i-1<=s+1+2*q
     ·rw[if_pos (by omega),if_pos (by omega)]
     ·rw[if_neg (by omega),if_neg (by omega)]
   have e2:(if i=s+1/\j<s+1+2*q then pr P k s j*out P k n s j else 0)=(if i=s+1/\j<s+1+2*(q+1)then pr P k s j*out P k n s j else 0):=by
    by_cases y:i=s+1
    ·have hj:j≠s+1+2*q:=fun w=>z ⟨y,w⟩
     by_cases w:j<s+1+2*q
     ·rw[if_pos (by omega),if_pos (by omega)]
     ·rw[if_neg (by omega),if_neg (by omega)]
    ·rw[if_neg (fun w=>y w.1),if_neg (fun w=>y w.1)]
   rw[e1,e2]
theorem OkT.row{P:Nat->Nat->Int}{k n s q r j:Nat}{T:Nat->Nat->Int}(h:OkT P k n s q r T)(h1:s<=j)(h2:j<=n)(h3:(j-s)%2=0):T s j=Oo P k n s j:=by
 rw[h s j h1 h2 h3];unfold ot;rw[if_pos (Nat.le_refl _)]
abbrev Cb:Int:=100*(5*top30)
section
variable{ps:List (List Int)}{k n:Nat}
theorem zNk(h:∀l∈ps,Sm l)(hk:k<=4)(hn:n<=40){t j:Nat}(h1:t<=j)(h2:j<=n):0<=Oo (PP ps) k n t j/\Oo (PP ps) k n t j<=Cb^40:=by
 have h0:∀i b,0<=PP ps i b:=fun i b=>(zAn h i b).1
 exact⟨zHI h0 _ _ _,Int.le_trans (zNm (c:=top30) (by decide) h0 (fun i b=>(zAn h i b).2) hk hn t j h1 h2) (zFo (by decide) (by omega))⟩
theorem zM0(h:∀l∈ps,Sm l)(hk:k<=4)(hn:n<=40){s e:Nat}(h1:s<=e)(h2:e<n):0<=out (PP ps) k n s e/\out (PP ps) k n s e<=41*Cb^(n-e-1+s):=by
 have h0:∀i b,0<=PP ps i b:=fun i b=>(zAn h i b).1
 have T:=zKm (P:=PP ps) (k:=k) (c:=top30) (by decide) h0 (fun i b=>(zAn h i b).2) hk
 have Y0:0<=Cb^(n-e-1+s):=Int.pow_nonneg (by decide)
 unfold out
 refine⟨zAT (n+1) fun t _=>Int.mul_nonneg (zHI h0 _ _ _) (T _ _).1,?_⟩
 refine Int.le_trans (zCW (g:=fun _=>Cb^(n-e-1+s)) (n+1) fun t ht=>?_) ?_
 ·by_cases z:e+1<=t
  ·have b1:=zNm (P:=PP ps) (c:=top30) (k:=k) (n:=n) (by decide) h0 (fun i b=>(zAn h i b).2) hk hn s t (by omega) (by omega)
   have b2:=T (e+1) t
   have b3:(5*top30)^(t-(e+1))<=Cb^(t-(e+1)):=zFp (by decide) (by decide) _
   refine Int.le_trans (Int.mul_le_mul b1 (Int.le_trans b2.2 b3) b2.1 (Int.pow_nonneg (by decide))) ?_
   rw[<-Int.pow_add,show n-t+s+(t-(e+1))=n-e-1+s by omega]
   exact Int.le_refl _
  ·rw[zAh (i:=e+1) (j:=t) (by omega),Int.mul_zero];exact Y0
 ·rw[zB3]
  exact Int.mul_le_mul_of_nonneg_right (by omega) Y0
theorem zMg(h:∀l∈ps,Sm l)(hk:k<=4)(hn:n<=40){s e:Nat}(h1:s<e)(h2:e<n):0<=rst (PP ps) k n s e/\rst (PP ps) k n s e<=41*Cb^40:=by
 have h0:∀i b,0<=PP ps i b:=fun i b=>(zAn h i b).1
 have T:=zKm (P:=PP ps) (k:=k) (c:=top30) (by decide) h0 (fun i b=>(zAn h i b).2) hk (s+1) e
 have O:=zM0 (ps:=ps) (k:=k) h hk hn (s:=s) (e:=e) (by omega) h2
 unfold rst
 refine⟨Int.mul_nonneg T.1 O.1,?_⟩
 have b3:(5*top30)^(e-(s+1))<=Cb^(e-(s+1)):=zFp (by decide) (by decide) _
 refine Int.le_trans (Int.mul_le_mul (Int.le_trans T.2 b3) O.2 O.1 (Int.pow_nonneg (by decide))) ?_
 rw[Int.mul_left_comm,<-Int.pow_add]
 exact Int.mul_le_mul_of_nonneg_left (zFo (by decide) (by omega)) (by decide)
end
theorem zGi:(Cb^40).natAbs<big:=by unfold big Cb top30;decide +kernel
theorem zEc:(41*Cb^40).natAbs<big:=by unfold big Cb top30;decide +kernel
theorem zJ2:(Cb^40*(4*(top30*top30))).natAbs<big:=by unfold big Cb top30;decide +kernel
def spPairsR:Sp:=fun vs H Q _=>∃ (p s:Addr) (ps:List (List Int)) (k:Nat) (ads:Nat->Addr) (H0:Hp),vs=[.ref p, .ref s]/\Pls H p ps/\ps.length<=40/\k<=4/\(∀l∈ps,l.length=2*k/\Sm l)/\Tb H0 H s ads ps.length (tbl (PP ps) k)/\
 ∀ (F:Addr) (vs':List V) (H':Hp),H F=none->Same H H'->H' F=some (.lst vs')->Fp (PP ps) k ps.length H' vs' (prs ps.length)->Q (.ref F) H'
def prsp(n s q:Nat):List (Nat×Nat):=((List.range s).flatMap fun s=>(List.range ((n-s)/2)).map fun q=>(s,s+1+2*q))++(List.range q).map fun q=>(s,s+1+2*q)
theorem zMm(n s q:Nat):prsp n s (q+1)=prsp n s q++[(s,s+1+2*q)]:=by
 unfold prsp
 rw[List.range_succ,List.map_append,<-List.append_assoc];rfl
theorem zMl(n s:Nat):prsp n (s+1) 0=prsp n s ((n-s)/2):=by
 unfold prsp
 rw[List.range_succ,List.flatMap_append];simp
theorem zGQ(n:Nat):prsp n n 0=prs n:=by unfold prsp prs;simp
theorem zGP(n s q:Nat)(hs:s<=n)(hq:q<=n)(hn:n<=40):(prsp n s q).length<=1700:=by
 unfold prsp
 rw[List.length_append,List.length_map,List.length_range]
 have:=zBO (fun s=>(List.range ((n-s)/2)).map fun q=>(s,s+1+2*q)) 20 (fun x=>by rw[List.length_map,List.length_range];omega) (List.range s)
 rw[List.length_range]at this
 omega
def rw2(m:Nat)(f:Nat->Int):List V:=(List.range m).map fun j=>V.int (f j)
theorem zD8(m:Nat)(f:Nat->Int):(rw2 m f).length=m:=by simp[rw2]
theorem zFa{m j:Nat}{f:Nat->Int}(h:j<m):(rw2 m f)[j]? =some (.int (f j)):=by
 unfold rw2
 rw[List.getElem?_map,List.getElem?_range h];rfl
theorem zLH{m j:Nat}{f:Nat->Int}{v:Int}:(rw2 m f).set j (.int v)=rw2 m (fun x=>if x=j then v else f x):=by
 apply List.ext_getElem?
 intro i
 unfold rw2
 rw[List.getElem?_set,List.getElem?_map,List.getElem?_map]
 by_cases e:j=i
 ·subst e
  by_cases hj:j<m
  ·rw[List.getElem?_range hj];simp[hj]
  ·rw[if_pos rfl,if_neg (by simpa using hj)]
   rw[List.getElem?_eq_none (by simpa using hj)];rfl
 ·rw[if_neg e]
  by_cases hi:i<m
  ·rw[List.getElem?_range hi];simp[Ne.symm e]
  ·rw[List.getElem?_eq_none (by simpa using hi)];rfl
theorem zC5{m:Nat}{f g:Nat->Int}(h:∀j,j<m->f j=g j):rw2 m f=rw2 m g:=by
 unfold rw2
 refine List.map_congr_left fun j hj=>?_
 rw[h j (List.mem_range.mp hj)]
structure Tw (H0 H:Hp) (s:Addr) (ad:Nat->Addr) (n m:Nat) (T:Nat->Nat->Int):Prop where
 fs:H0 s=none
 fa:∀i,i<n->H0 (ad i)=none
 ns:∀i,i<n->ad i≠s
 inj:∀i j,i<n->j<n->ad i=ad j->i=j
 top:H s=some (.lst ((List.range n).map fun i=>V.ref (ad i)))
 row:∀i,i<n->H (ad i)=some (.lst (rw2 m (T i)))
 sm:Same H0 H
section
variable{H0 H H':Hp}{s:Addr}{ad:Nat->Addr}{n m:Nat}{T T':Nat->Nat->Int}
theorem Tw.same(t:Tw H0 H s ad n m T)(h:Same H H'):Tw H0 H' s ad n m T:=⟨t.fs,t.fa,t.ns,t.inj,h _ _ t.top,fun i hi=>h _ _ (t.row i hi),t.sm.trans h⟩
theorem Tw.congr(t:Tw H0 H s ad n m T)(h:∀i j,i<n->j<m->T i j=T' i j):Tw H0 H s ad n m T':=⟨t.fs,t.fa,t.ns,t.inj,t.top,fun i hi=>by rw[t.row i hi,zC5 fun j hj=>h i j hi hj],t.sm⟩
theorem Tw.at(t:Tw H0 H s ad n m T){i:Nat}(hi:i<n):((List.range n).map fun i=>V.ref (ad i))[i]? =some (.ref (ad i)):=by
 rw[List.getElem?_map,List.getElem?_range hi];rfl
theorem Tw.set(t:Tw H0 H s ad n m T){i j:Nat}{v:Int}(hi:i<n):Tw H0 (upd H (ad i) (.lst ((rw2 m (T i)).set j (.int v)))) s ad n m (fun a b=>if a=i/\b=j then v else T a b):=by
 refine⟨t.fs,t.fa,t.ns,t.inj,by rw[zAG (Ne.symm (t.ns i hi))];exact t.top,fun a ha=>?_,fun b o z=>?_⟩
 ·by_cases e:a=i
  ·subst e
   rw[zAC,zLH]
   congr 2
   refine zC5 fun x _=>?_
   by_cases q:x=j<;>simp[q]
  ·rw[zAG (fun z=>e (t.inj a i ha hi z)),t.row a ha]
   congr 2
   refine zC5 fun x _=>?_
   simp[e]
 ·rw[zAG (zAE z (t.fa i hi))];exact t.sm b o z
end
def ga(P:Nat->Nat->Int)(k n i b:Nat)(x:Nat×Nat):Int:=
 if b%2=0 then(if x.1=i then P x.1 b*P x.2 (b+1)*rst P k n x.1 x.2 else 0)else(if x.2=i then P x.1 (b-1)*P x.2 b*rst P k n x.1 x.2 else 0)
theorem zC2(f:Nat->Int):∀m,sms ((List.range m).map f)=sm m f
 |0=>rfl
 |m+1=>by rw[List.range_succ,List.map_append,zCV,zC2 f m,sm];simp[sms]
theorem zNN(P:Nat->Nat->Int){k n i b:Nat}(hi:i<n)(hb:b<2*k):sms ((prs n).map (ga P k n i b))=tbl (Pat P i b) k 0 n:=by
 have e0:sms ((prs n).map (ga P k n i b))=sm n (fun s=>sm ((n-s)/2) fun q=>ga P k n i b (s,s+1+2*q)):=by
  unfold prs
  rw[zD3,zC2]
  refine zAJ n fun s _=>?_
  rw[List.map_map,zC2];rfl
 rw[e0]
 by_cases hev:b%2=0
 ·obtain⟨p,rfl⟩:∃p,b=2*p:=⟨b/2,by omega⟩
  have e1:sm n (fun e=>P i (2*p)*P e (2*p+1)*(tbl P k (i+1) e*out P k n i e))=sm (n-i-1) (fun d=>P i (2*p)*P (i+1+d) (2*p+1)*(tbl P k (i+1) (i+1+d)*out P k n i (i+1+d))):=zGH (by omega) fun e _ z=>by
   rw[zAh (i:=i+1) (j:=e) (by omega)];simp
  have e2:=zFX (fun d=>P i (2*p)*P (i+1+d) (2*p+1)*(tbl P k (i+1) (i+1+d)*out P k n i (i+1+d))) (n-i-1) (fun d _ hd=>by
   show P i (2*p)*P (i+1+d) (2*p+1)*(tbl P k (i+1) (i+1+d)*out P k n i (i+1+d))=0
   rw[zEk (x:=i+1) (y:=i+1+d) (by omega)];simp)
  have e3:sm n (fun s=>sm ((n-s)/2) fun q=>ga P k n i (2*p) (s,s+1+2*q))=sm ((n-i)/2) fun q=>ga P k n i (2*p) (i,i+1+2*q):=
   zBq (f:=fun s=>sm ((n-s)/2) fun q=>ga P k n i (2*p) (s,s+1+2*q)) hi (fun s _ hs=>by
    refine BrC.sm_zero _ fun q _=>?_
    unfold ga;rw[if_pos hev,if_neg hs])
  rw[e3,zI3 P hi (by omega),e1,e2,show(n-i-1+1)/2=(n-i)/2 by omega]
  refine zAJ _ fun q _=>?_
  unfold ga rst
  rw[if_pos hev,if_pos rfl]
 ·obtain⟨p,rfl⟩:∃p,b=2*p+1:=⟨b/2,by omega⟩
  rw[zGk P hi (by omega)]
  refine zAJ n fun s _=>?_
  by_cases z:s<i/\(i-s)%2=1
  ·refine(zBq (f:=fun q=>ga P k n i (2*p+1) (s,s+1+2*q)) (i:=(i-s-1)/2) (by omega) (fun q _ hq=>by
    show ga P k n i (2*p+1) (s,s+1+2*q)=0
    unfold ga;rw[if_neg hev,if_neg (show¬s+1+2*q=i by omega)])).trans ?_
   unfold ga rst
   rw[if_neg hev,if_pos (show s+1+2*((i-s-1)/2)=i by omega)]
   simp only
   rw[show s+1+2*((i-s-1)/2)=i by omega,show 2*p+1-1=2*p by omega]
  ·have e2:tbl P k (s+1) i=0:=by
    by_cases w:s<i
    ·exact zEk (by omega)
    ·exact zAh (by omega)
   rw[e2,Int.zero_mul,Int.mul_zero]
   refine BrC.sm_zero _ fun q _=>?_
   unfold ga;rw[if_neg hev,if_neg (show¬s+1+2*q=i by omega)]
theorem zHh(m:Nat):(List.replicate m [V.int 0]).flatten=rw2 m fun _=>0:=by
 unfold rw2
 induction m with
 |zero=>rfl
 |succ m ih=>rw[List.range_succ,List.map_append,<-ih,List.replicate_succ',List.flatten_append];rfl
section
variable{K:PySem.W.Frag}{σ:St}{H:Hp}{Q:VK}
theorem zJA{a:Addr}{xs:List V}{own:List Str}{sel:List Nat}{g:TG}{te:TE}(hn:xs.length<=sizeLine)(ha:H a=some (.lst xs))(Iv:Addr->Nat->List V->Hp->Prop)
 (h0:∀D,H D=none->Iv D 0 [] (upd H D (.lst []))) (mono:∀D i ys H1 H2,H D=none->Iv D i ys H1->SameBut1 D H1 H2->Iv D i ys H2)
 (hst:∀D ys H',H D=none->H' D=some (.lst ys)->ys.length=xs.length->Same H H'->Iv D xs.length ys H'->Q (.ref D) H')
 (hs:∀ (D:Addr) (i:Nat) (x:V) (ys:List V) (H':Hp) (R:V->Hp->Prop),H D=none->xs[i]? =some x->H' D=some (.lst ys)->ys.length=i->Same H H'->Iv D i ys H'->(∀v H6,Same H' H6->Iv D (i+1) (ys++[v]) H6->R v H6)->g x (inSt own sel σ) H' fun σ4 H4=>te σ4 H4 R):CompW (Itl K a) own sel σ g tYes te Q H:=by
 refine zCv (fun i=>xs.getD i .non) hn Iv (fun i H' hi sH=>⟨_,xs[i],SqL.of (sH _ _ ha),List.getElem?_eq_getElem hi⟩) (fun H' sH=>⟨_,SqL.of (sH _ _ ha),Nat.le_refl _⟩) (fun i H1 x H' hi sH y=>?_) h0 mono hst
  (fun D i ys H' R hD hi hy hl sH e r=>?_)
 ·obtain⟨rfl,hx⟩:=y
  have:=hx _ (SqL.of (sH _ _ ha))
  exact⟨rfl,by rw[List.getD_eq_getElem?_getD,this];rfl⟩
 ·have ec:xs[i]? =some xs[i]:=List.getElem?_eq_getElem hi
  have eg:xs.getD i .non=xs[i]:=by rw[List.getD_eq_getElem?_getD,ec];rfl
  rw[eg]
  exact hs D i xs[i] ys H' R hD ec hy hl sH e r
end
def spBrSums:Sp:=fun vs H Q _=>∃ (p s:Addr) (ps:List (List Int)) (k:Nat) (ads:Nat->Addr) (H0:Hp),vs=[.ref p, .ref s]/\Pls H p ps/\ps.length<=40/\k<=4/\(∀l∈ps,l.length=2*k/\Sm l)/\Tb H0 H s ads ps.length (tbl (PP ps) k)/\
 ∀ (F:Addr) (ad:Nat->Addr) (H':Hp),Tw H H' F ad ps.length (2*k) (fun i b=>tbl (Pat (PP ps) i b) k 0 ps.length)->Q (.ref F) H'
theorem zDn{H H0:Hp}{p s:Addr}{ps:List (List Int)}{k:Nat}{ads:Nat->Addr}{Q:VK}{E:XK}(h1:Pls H p ps)(h2:ps.length<=40)(h3:k<=4)(h4:∀l∈ps,l.length=2*k/\Sm l)(h5:Tb H0 H s ads ps.length (tbl (PP ps) k))
 (r:∀ (F:Addr) (vs':List V) (H':Hp),H F=none->Same H H'->H' F=some (.lst vs')->Fp (PP ps) k ps.length H' vs' (prs ps.length)->Q (.ref F) H'):spPairsR ([.ref p, .ref s]++[]) H Q E:=⟨p,s,ps,k,ads,H0,rfl,h1,h2,h3,h4,h5,r⟩
theorem zDv{H H0:Hp}{p s:Addr}{ps:List (List Int)}{k:Nat}{ads:Nat->Addr}{Q:VK}{E:XK}(h1:Pls H p ps)(h2:ps.length<=40)(h3:k<=4)(h4:∀l∈ps,l.length=2*k/\Sm l)(h5:Tb H0 H s ads ps.length (tbl (PP ps) k))
 (r:∀ (F:Addr) (ad:Nat->Addr) (H':Hp),Tw H H' F ad ps.length (2*k) (fun i b=>tbl (Pat (PP ps) i b) k 0 ps.length)->Q (.ref F) H'):spBrSums ([.ref p, .ref s]++[]) H Q E:=⟨p,s,ps,k,ads,H0,rfl,h1,h2,h3,h4,h5,r⟩
theorem zFe{n:Nat}{x:Nat×Nat}(h:x∈prs n):x.1<x.2/\x.2<n:=by
 unfold prs at h
 obtain⟨s,hs,h⟩:=List.mem_flatMap.mp h
 obtain⟨q,hq,rfl⟩:=List.mem_map.mp h
 have:=List.mem_range.mp hs
 have:=List.mem_range.mp hq
 dsimp only
 omega
def gp(P:Nat->Nat->Int)(k n m o i b:Nat)(x:Nat×Nat):Int:=sms (((prs n).take m).map (ga P k n i b))+(if b/2<o then ga P k n i b x else 0)
theorem zLq(P:Nat->Nat->Int)(k n m i b:Nat)(x:Nat×Nat):gp P k n m 0 i b x=sms (((prs n).take m).map (ga P k n i b)):=by
 unfold gp;rw[if_neg (by omega),Int.add_zero]
theorem zNL{P:Nat->Nat->Int}{k n m i b:Nat}{x:Nat×Nat}(hx:(prs n)[m]? =some x)(hb:b<2*k):gp P k n m k i b x=sms (((prs n).take (m+1)).map (ga P k n i b)):=by
 unfold gp
 rw[if_pos (by omega),List.take_add_one,hx,List.map_append,zCV]
 simp[sms]
theorem zLr{P:Nat->Nat->Int}{k n m o i b:Nat}{s e:Nat}(w:Int)(hw:w=P s (2*o)*P e (2*o+1)*rst P k n s e):
 (if i=e/\b=2*o+1 then(if e=s/\2*o+1=2*o then gp P k n m o s (2*o) (s,e)+w else gp P k n m o e (2*o+1) (s,e))+w else if i=s/\b=2*o then gp P k n m o s (2*o) (s,e)+w else gp P k n m o i b (s,e))=gp P k n m (o+1) i b (s,e):=by
 rw[if_neg (show¬ (e=s/\2*o+1=2*o) by omega)]
 by_cases b0:b=2*o
 ·subst b0
  rw[if_neg (by omega)]
  unfold gp
  rw[if_neg (show¬2*o/2<o by omega),if_pos (show 2*o/2<o+1 by omega)]
  by_cases z:i=s
  ·subst z
   rw[if_pos ⟨rfl,rfl⟩]
   unfold ga
   rw[if_pos (show 2*o%2=0 by omega),if_pos rfl,hw,Int.add_zero]
  ·rw[if_neg (fun w=>z w.1),if_neg (show¬2*o/2<o by omega)]
   have:ga P k n i (2*o) (s,e)=0:=by
    unfold ga;rw[if_pos (by omega),if_neg (fun w=>z w.symm)]
   rw[this]
 ·by_cases b1:b=2*o+1
  ·subst b1
   unfold gp
   rw[if_pos (show(2*o+1)/2<o+1 by omega),if_neg (show¬ (2*o+1)/2<o by omega)]
   by_cases z:i=e
   ·subst z
    rw[if_pos ⟨rfl,rfl⟩]
    have:ga P k n i (2*o+1) (s,i)=w:=by
     unfold ga;rw[if_neg (by omega),if_pos rfl,hw,show 2*o+1-1=2*o by omega]
    rw[this,Int.add_zero]
   ·rw[if_neg (fun w=>z w.1),if_neg (by omega),if_neg (show¬ (2*o+1)/2<o by omega)]
    have:ga P k n i (2*o+1) (s,e)=0:=by
     unfold ga;rw[if_neg (by omega),if_neg (fun w=>z w.symm)]
    rw[this]
  ·rw[if_neg (fun w=>b1 w.2),if_neg (fun w=>b0 w.2)]
   unfold gp
   by_cases z:b/2<o
   ·rw[if_pos z,if_pos (by omega)]
   ·rw[if_neg z,if_neg (by omega)]
end BrS
namespace PySem
open Sem (wp)
end PySem
namespace L2
open PySem PySem.Spec PyProof.Rows
section
variable{P:Program}{w:World}{K:PySem.W.Frag}{elts:List Expr}{k:Nat}{tpos:Pos}
end
section
variable{X:Cx}{a b:Expr}{ta:TA}{p pos:Pos}{elts:List Expr}{k:Nat}{tpos:Pos}
end
end L2
namespace BrS
open L2 PySem PySem.Spec PyProof.Rows BrM BrC BrB BrI BrR
abbrev noFl:List Nat:=[110,111,32,102,105,108,108,105,110,103]
def tpw(k:Nat)(ws:List Int)(a:List Nat)(i b:Nat):Int:=tbl (Pat (PP (a.map (plw ws))) i b) k 0 a.length
theorem zMB(k:Nat)(ws:List Int)(a:List Nat)(i b:Nat):tpw k ws a i b=cv (Pat (PP (a.map (plw ws))) i b) k a.length 0 []:=by
 unfold tpw tbl;rw[if_pos (Nat.zero_le _),Nat.sub_zero]
theorem zF9{P P':Nat->Nat->Int}:∀ (l:List Nat) (s:Nat),(∀j,j<l.length->P (s+j) (l.getD j 0)=P' (s+j) (l.getD j 0))->wtl P s l=wtl P' s l
 |[],s,_=>rfl
 |b::l,s,h=>by
  have h0:P s b=P' s b:=h 0 (by simp)
  have ih:=zF9 (P:=P) (P':=P') l (s+1) (fun j hj=>by
   have:=h (j+1) (by simpa using hj)
   rw[show s+1+j=s+(j+1) by omega];exact this)
  rw[wtl,wtl,h0,ih]
theorem zKk(P:Nat->Nat->Int){l:List Nat}{i b:Nat}(hi:i<l.length):wtl (Pat P i b) 0 l=if l.getD i 0=b then wtl P 0 l else 0:=by
 by_cases e:l.getD i 0=b
 ·rw[if_pos e]
  refine zF9 l 0 fun j hj=>?_
  unfold Pat
  rw[Nat.zero_add,if_neg]
  rintro⟨rfl,h⟩
  exact h e
 ·rw[if_neg e]
  refine zF8 (i:=i) hi ?_
  unfold Pat
  rw[Nat.zero_add,if_pos ⟨rfl,e⟩]
theorem sms_cons(x:Int)(l:List Int):sms (x::l)=x+sms l:=rfl
def flw(f:List Nat->Int)(i b:Nat)(L:List (List Nat)):List Int:=(L.filter fun l=>decide (l.getD i 0=b)).map f
theorem zIV(f:List Nat->Int)(i b:Nat):∀L:List (List Nat),(flw f i b L).sum=sms (L.map fun l=>if l.getD i 0=b then f l else 0)
 |[]=>rfl
 |l::L=>by
  have ih:=zIV f i b L
  unfold flw at ih⊢
  rw[List.map_cons,sms_cons,<-ih]
  by_cases e:l.getD i 0=b
  ·rw[if_pos e,List.filter_cons_of_pos (by simpa using e),List.map_cons,List.sum_cons]
  ·rw[if_neg e,List.filter_cons_of_neg (by simpa using e),Int.zero_add]
theorem zJN{k:Nat}(hk:k<=4){a:List Nat}(ha:a.length<=9):(ress k a).length<=1953125:=by
 unfold ress
 rw[List.length_map]
 refine Nat.le_trans (List.length_filter_le _ _) (Nat.le_trans (zEV hk a a.length) ?_)
 exact Nat.le_trans (Nat.pow_le_pow_right (by decide) ha) (by decide)
theorem zLu{k:Nat}{ws:List Int}{a:List Nat}{i b:Nat}(hi:i<a.length)(hP:∀i b,i<a.length->b<2*k->okc (a.getD i 0) b=false->PP (a.map (plw ws)) i b=0):
 (flw (wtl (PP (a.map (plw ws))) 0) i b (ress k a)).sum=tpw k ws a i b:=by
 rw[zIV,zMB,<-zGL (P:=Pat (PP (a.map (plw ws))) i b) (a:=a) (k:=k) ?_]
 ·congr 1
  refine List.map_congr_left fun l hl=>?_
  have:=(mem_ress.mp hl).2.1
  rw[zKk _ (by omega)]
 ·intro j c hj hc ho
  unfold Pat
  rw[hP j c hj hc ho]
  split<;>rfl
section
variable{σ:L2.St}{H:Hp}{Q:VK}
end
end BrS
namespace L2
open PySem PySem.Spec PyProof.Rows
def tCompD(own:List Str)(sel:List Nat)(wi:TI)(g:TG)(tt:TT)(tk tv:TE):TE:=fun σ H Q=>wi σ H fun J H1=>∀D,H1 D=none->
 ∃W:Nat->Nat->Hp->Prop,(∃m,W 0 m (upd H1 D (.dK [])))/\∀i m H2,W i m H2->
  (J.stop i H2/\Q (.ref D) H2)\/(J.go i H2/\∀x H3,J.yld i H2 x H3->g x (inSt own sel σ) H3 fun σ4 H4=>tt σ4 H4 fun b H5=>
    if b=true then tk σ4 H5 fun kv H6=>tv σ4 H6 fun v H7=>∃ (kvs:List (Key×V)) (k:Key),H7 D=some (.dK kvs)/\kv=kV k/\kvs.length<sizeLine/\∃m',m'<m/\W (i+1) m' (upd H7 D (.dK (putK kvs k v)))
    else∃m',m'<m/\W (i+1) m' H5)
section
variable{X:Cx}{pins:List (Addr×Obj)}{σ:St}{H:Hp}{s:Shared}{a:Addr}{kvs:List (Key×V)}{k:Key}{v:V}{u r:Value}{A:Around}{E:Value->Shared->Prop}
theorem zIl{Q:Unit->Shared->Prop}(I:Inv X pins σ H s)(e:H a=some (.dK kvs))(ry:RelV (kV k) u)(rv:RelV v r)(l:kvs.length<sizeLine)(h:∀s',Inv X pins σ (upd H a (.dK (putK kvs k v))) s'->Q () s'):
 wpAny (model X.prog X.w) A (dictSet a u r) Q E s:=by
 obtain⟨z,hd,vs,rel,dd⟩:=zNX I.hok e
 have hz:vs.length<=sizeLine:=by rw[<-rel.length];exact z
 have hl:(putK kvs k v).length<=sizeLine:=by have:=zCE kvs k v;omega
 refine wpAny_dictSet_pairs (hsz:=hz) (zJj ry) dd fun h' dd' hs=>h _ ?_
 have he:∃q,h'.get? a=some q:=let⟨q,_,_,hq,_⟩:=dd';⟨q,hq⟩
 exact zFw I (by rw[e];exact True.intro) hs he (zKa hl hd (rel.put k rv) dd')
end
section
variable{prog:Program}{w:World}{A:Around}{R:Result->Shared->Prop}{s:Shared}
theorem zFy{kx vx target iter:Expr}{ifs:List Expr}{scope:Scope}{pos:Pos}{it:Value}{D:Addr}{env:Env}(I:Nat->Shared->Prop)
 (turn:∀n s,I n s->wpAny (model prog w) A (pyNext it) (fun r s1=>match r with
   |none=>R (.ok .next) s1
   |some v=>wpAny (model prog w) A (letOwnedTupleGo target it v) (fun _ s0=>wpAny (model prog w) A (assign target env v) (fun _ s2=>
     wpAny (model prog w) A (forIn ifs true fun c r=>if r=true then do let ok<-isTrue c env (eval c env);pure (ForInStep.yield ok)else pure (ForInStep.yield r)) (fun ok s3=>
      if ok=true then wpAny (model prog w) A (eval kx env) (fun kv s4=>wpAny (model prog w) A (eval vx env) (fun vv s5=>wpAny (model prog w) A (dictSet D kv vv) (fun _ s6=>∃m,m<n/\I m s6) (fun _ _=>False) s5) (fun _ _=>False) s4) (fun _ _=>False) s3
      else∃m,m<n/\I m s3) (fun _ _=>False) s2) (fun _ _=>False) s0) (fun _ _=>False) s1) (fun _ _=>False) s)
 (n:Nat) (h:I n s):
 codeAny (model prog w) A (.compLoop (.DictComp kx vx [⟨target,iter,ifs,0⟩] scope pos) 0 it (.ref D) env) R s:=by
 refine codeAny_loop rfl I (fun n s hI=>?_) n h
 show wpAny _ A ((compTurn (.DictComp kx vx [⟨target,iter,ifs,0⟩] scope pos) 0 it (.ref D) env).onRaise (fun x=>do noteFrame x env;theTreesLotGoes x)) _ _ s
 refine wpAny_noted ?_
 rw[compTurn_dict]
 refine wpAny_bind (wpAny_standAt (wpAny_bind (wpAny_mono (turn n s hI) (fun r s1 h1=>?_) fun _ _ z=>z.elim)))
 cases r with
 |none=>exact wpAny_pure h1
 |some v=>
  refine wpAny_bind (wpAny_mono h1 (fun _ s0 h0=>wpAny_bind (wpAny_mono h0 (fun _ s2 h2=>wpAny_bind (wpAny_mono h2 (fun ok s3 h3=>?_) fun _ _ z=>z.elim)) fun _ _ z=>z.elim)) fun _ _ z=>z.elim)
  cases ok with
  |false=>exact wpAny_pure ⟨rfl,h3⟩
  |true=>
   exact wpAny_bind (wpAny_bind (wpAny_mono h3 (fun kv s4 h4=>wpAny_bind (wpAny_holding (wpAny_mono h4 (fun vv s5 h5=>wpAny_bind (wpAny_standAt (wpAny_holding (wpAny_mono h5 (fun _ s6 h6=>wpAny_pure ⟨rfl,h6⟩) fun _ _ z=>z.elim)))) fun _ _ z=>z.elim))) fun _ _ z=>z.elim))
end
section
variable{X:Cx}
theorem zHE{kx vx tg iter:Expr}{ifs:List Expr}{scope:Scope}{pos:Pos}{own:List Str}{sel:List Nat}{wi:TI}{g:TG}{tt:TT}{tk tv:TE}{use:Option (Value->Sem Unit)}{Qo:Value->Shared->Prop}
 (S:CompOk X.env.scope X.N own sel scope) (hc:X.calm=true) (hi:PI X tg iter wi)
 (hg:∀cl C s2 H2 fp,PG (cxIn X own sel scope cl C s2 H2 fp) tg g) (hk:GK own.length g)
 (ht:∀cl C s2 H2 fp,PIf (cxIn X own sel scope cl C s2 H2 fp) ifs tt) (he:∀cl C s2 H2 fp,PE (cxIn X own sel scope cl C s2 H2 fp) kx tk) (hv:∀cl C s2 H2 fp,PE (cxIn X own sel scope cl C s2 H2 fp) vx tv)
 (hs:∀x,foldedSetIterable iter X.env x=pure x) {pins:List (Addr×Obj)} {s:Shared} {σ:St} {H:Hp} {Q:VK} {ps:Pos} (I0:Inv X pins σ H s) (h:tCompD own sel wi g tt tk tv σ H Q)
 (fin:∀ (D C:Addr) (H':Hp) (s':Shared) (m:Str->Option Value),Inv X pins σ H' s'->s'.heap.Ns C m->Far X pins H' C->Q (.ref D) H'->compPost (model X.prog X.w) X.A X.xe use Qo (.ref D) C (.ok .next) s'):
 wpAny (model X.prog X.w) X.A (comprehension (.DictComp kx vx [⟨tg,iter,ifs,0⟩] scope pos) scope X.env ps newDict false (eval iter X.env) use) Qo X.xe s:=by
 obtain⟨cl,hclos,hcl,hfree⟩:=zF0 (scope:=scope) (env:=X.env) fun y hy e=>I0.ok.has y.1 (S.free y hy e)
 refine wpAny_comprehension_free (use:=use) rfl hs hclos S.kind S.names (thn (hi pins s σ H _ I0 h) fun v s1 h1=>thn h1 fun itv s2 h2=>?_)
 obtain⟨it,fp,tn,J,H2,e,I,T,st2,f2,h3⟩:=h2
 subst e
 clear h h1 I0
 refine wpAny_newObj_type (wpAny_newFunctionEnv S.cell (by intro y hy;simp at hy) (fun h1 hns1 hsb1=>?_) S.kind)
 dsimp only at hns1 hsb1⊢
 generalize hP:s2.heap.push {cls:= .type "dict",dict:=none,data:= .dict #[]}=P1 at hns1 hsb1⊢
 generalize hD:s2.heap.objs.size=D at hns1 hsb1⊢
 generalize hC:P1.objs.size=C at hns1 hsb1⊢
 have hCD:C=D+1:=by rw[<-hC,<-hP,Heap.size_push,hD]
 have hlt:D<C:=by rw[hCD];exact Nat.lt_succ_self D
 have hDC:D≠C:=Nat.ne_of_lt hlt
 have neC:∀b:Addr,b<D->b≠C:=fun b hb=>Nat.ne_of_lt (Nat.lt_trans hb hlt)
 have neD:∀b:Addr,b<D->b≠D:=fun b hb=>Nat.ne_of_lt hb
 have hsD:s2.heap.objs.size<=D:=Nat.le_of_eq hD
 have hsC:s2.heap.objs.size<=C:=Nat.le_trans hsD (Nat.le_of_lt hlt)
 have fresh:∀a,D<=a->H2 a=none:=fun a ha=>I.hok.fresh (by rw[hD];exact ha)
 have hnD:H2 D=none:=fresh D (Nat.le_refl _)
 have hnC:H2 C=none:=fresh C (Nat.le_of_lt hlt)
 have below:∀b o,s2.heap.get? b=some o->b<D:=fun b o e=>by rw[<-hD];exact Heap.lt_size e
 have keep1:∀b o,s2.heap.get? b=some o->h1.get? b=some o:=fun b o e=>
  hsb1.extBut b o (neC b (below b o e)) (Heap.get?_push_of_some _ (hP▸Heap.get?_push_of_some _ e))
 have gD:h1.get? D=some {cls:= .type "dict",dict:=none,data:= .dict #[]}:=by
  refine hsb1.extBut _ _ hDC (Heap.get?_push_of_some _ ?_)
  rw[<-hP,<-hD]
  exact Heap.get?_push_size _ rfl
 obtain⟨W,⟨m0,w0⟩,turn⟩:=h3 D hnD
 have fpb:∀b∈fp,b<D:=fun b hb=>by obtain⟨o,e,_⟩:=T.obj _ _ st2 b hb;exact below b o e
 generalize hY:cxIn X own sel scope cl C s2 H2 fp=Y
 have hg:=hg cl C s2 H2 fp
 have ht:=ht cl C s2 H2 fp
 have he:=he cl C s2 H2 fp
 have hv:=hv cl C s2 H2 fp
 rw[hY]at hg ht he hv
 have okY:Y.Ok:=by
  subst hY
  refine⟨I.ok.mod,S.kind,I.ok.glob,I.ok.blt,?_,fun x y c a b=>I.ok.inj x y c (hcl _ _ a) (hcl _ _ b),fun x hx=>?_,(fun _ _ z=>nomatch z),fun z=>I.ok.hd z,I.ok.frames, .inl rfl,fun b hb=>⟨?_,fun x c e=>(f2 b hb).2.2.2.2.1 x c (hcl _ _ e)⟩,I.bs,
   Nat.le_trans I.ok.bsz I.sz,fun b o e hb=>?_,fun b hb z=>?_,I.stack,I.stkFree⟩
  ·exact hsC
  ·have hx':(relabel scope X.env).names.lookup x=some .cell\/(relabel scope X.env).names.lookup x=some .free:=hx
   have hf:scope.names.lookup x=some .free:=by
    rcases hx' with z|z
    ·rcases zAi z with q|q
     ·exact absurd rfl (S.cell _ (PySem.mem_of_lookup q))
     ·exact q
    ·rcases zAi z with q|q<;>exact q
   exact hfree _ (PySem.mem_of_lookup hf) rfl
  ·exact neC b (fpb b hb)
  ·rcases(f2 b hb).2.2.2.1 with z|z
   ·exact I.ok.noex b o e z
   ·exact absurd (Nat.lt_of_lt_of_le (Heap.lt_size e) (Nat.le_trans I.ok.bsz z)) (Nat.lt_irrefl _)
  ·rcases List.mem_cons.mp (I.stkSub b z)with q|q
   ·exact(f2 b hb).2.1 q
   ·exact(f2 b hb).2.2.1 q
 have eo:ObjOk X.prog X.w (upd H2 D (.dK [])) h1 D (.dK []):=⟨Nat.zero_le _,beq_eq_false_iff_ne.mpr (fun z=>Nat.lt_irrefl _ (by have:=I.big;rw[hD,z]at this;exact this)),[], .nil,(show s2.heap.push {cls:= .type "dict",dict:=none,data:= .dict #[]}|>.DictOf (mixKind X.prog X.w) s2.heap.objs.size []from Heap.DictOf.new s2.heap)|>fun z=>by rw[hD,hP]at z;exact z.at fun o e=>hsb1.extBut _ _ hDC (Heap.get?_push_of_some _ e)⟩
 have I1:Inv Y [] (inSt own sel σ) (upd H2 D (.dK [])) {s2 with heap:=h1,toks:=s2.toks+([]:List (Str×Value)).length}:=by
  subst hY
  refine⟨okY,rfl,I.bare,Un.laid keep1 hsD hnD,⟨_,hns1,fun i x v e1 e2 e3=>?_⟩,fun x c e=>?_,?_,fun x c e=>?_,fun p hp=>absurd (show p∈([]:List (Addr×Obj))from hp) (by simp),I.hok.laid keep1 hsD eo,?_⟩
  ·obtain⟨k,j,ei,ej,es⟩:=zEM e2
   subst ei
   have e1':(own++sel.map fun j=>X.N.getD j Str.empty)[own.length+k]? =some x:=e1
   rw[List.getElem?_append_right (by omega),List.getElem?_map,show own.length+k-own.length=k by omega,ej]at e1'
   simp only[Option.map_some,Option.some.injEq]at e1'
   obtain⟨hj,hfx,hkd⟩:=S.seln j (List.mem_of_getElem? ej)
   have hN:X.N[j]? =some x:=by rw[<-e1',List.getD_eq_getElem?_getD,List.getElem?_eq_getElem hj];rfl
   rw[e1']at hkd hfx
   obtain⟨m,_,hl⟩:=I.loc
   obtain⟨u,r,lk⟩:=hl j x v hN es (.inr hkd)
   refine⟨u,r, .inr ⟨zBT I.ok.kind hfx,?_⟩⟩
   rcases lk with⟨z1,_⟩|⟨_,c,hc1,hc2⟩
   ·have z1':X.env.scope.names.lookup x=some .local:=z1
    rcases hkd with q|q<;>(rw[z1']at q;cases q)
   ·obtain⟨c',q⟩:=hfree _ (PySem.mem_of_lookup hfx) rfl
    have q2:=hcl _ _ q
    rw[hc1]at q2
    cases q2
    exact⟨c,q,hc2.keeps keep1⟩
  ·obtain⟨u,z⟩:=I.cell x c (hcl _ _ e)
   exact⟨u,z.keeps keep1⟩
  ·show upd H2 D (.dK []) C=none
   rw[zAG (Ne.symm hDC)];exact hnC
  ·have q:=I.freeC x c (hcl _ _ e)
   obtain⟨u,o,z,_⟩:=I.cell x c (hcl _ _ e)
   rw[zAG (neD c (below c o z))]
   exact q
  ·show(inSt own sel σ).length=(own++sel.map fun j=>X.N.getD j Str.empty).length
   rw[zEN];simp
 have fin:∀ (σ':St) (H':Hp) (s':Shared),Inv Y [] σ' H' s'->Q (.ref D) H'->compPost (model X.prog X.w) X.A X.xe use Qo (.ref D) C (.ok .next) s':=by
  intro σ' H' s' I' q
  subst hY
  obtain⟨m,hn,_⟩:=I'.loc
  have J':Inv X pins σ H' s':=I.call' I'.os I'.base I'.hok I'.bare fun b hb=>⟨(f2 b hb).2.2.2.1,(f2 b hb).2.1,(f2 b hb).2.2.2.2.1,(f2 b hb).2.2.2.2.2⟩
  refine fin D C H' s' m J' hn ⟨I'.free,Ne.symm (neC _ (by rw[<-hD];exact I.lt)),Nat.le_trans I.sz hsC,fun x c e=>?_,fun p hp=>?_⟩ q
  ·obtain⟨u,o,z,_⟩:=I.cell x c e
   exact neC c (below c o z)
  ·exact neC p.1 (below p.1 p.2 (I.pin p hp).1)
 have stat:∀ {H':Hp},(∀b∈fp,H' b=none)->∀b∈fp,FpOk Y [] H' b:=fun{H'} hn b hb=>by
  subst hY
  refine⟨hn b hb,neC b (fpb b hb),fun z=>?_, .inl hb,fun x c e=>(f2 b hb).2.2.2.2.1 x c (hcl _ _ e),fun p hp=>absurd (show p∈([]:List (Addr×Obj))from hp) (by simp)⟩
  rcases List.mem_cons.mp (I.stkSub b z)with q|q
  ·exact(f2 b hb).2.1 q
  ·exact(f2 b hb).2.2.1 q
 have loop:∀s3:Shared,s3={s2 with heap:=h1,toks:=s2.toks+([]:List (Str×Value)).length}->
  codeAny (model X.prog X.w) X.A (.compLoop (.DictComp kx vx [⟨tg,iter,ifs,0⟩] scope pos) 0 (.ref it) (.ref D) (compEnvC scope cl C X.env)) (compPost (model X.prog X.w) X.A X.xe use Qo (.ref D) C) s3:=by
  rintro s3 rfl
  have eP:Y.prog=X.prog:=by subst hY;rfl
  have eW:Y.w=X.w:=by subst hY;rfl
  have eA:Y.A=X.A:=by subst hY;rfl
  have eK:Y.K=X.K:=by subst hY;rfl
  have eE:Y.env=compEnvC scope cl C X.env:=by subst hY;rfl
  have eX:Y.xe=fun _ _=>False:=by subst hY;rfl
  have eC:Y.calm=true:=by subst hY;exact hc
  refine zFy (fun n s'=>∃i H',Inv Y [] (inSt own sel σ) H' s'/\tn i s'.heap/\(∀b∈fp,H' b=none)/\W i n H') ?_ m0
   ⟨0,_,I1,T.keep _ _ _ st2 fun b _ o e=>keep1 b o e,fun b hb=>by rw[zAG (neD b (fpb b hb))];exact(f2 b hb).1,w0⟩
  rintro n s4 ⟨i,H4,I4,st4,fr4,w4⟩
  rcases turn i n H4 w4 with⟨stop,q⟩|⟨go,step⟩
  ·have dn:=T.done Y eP eW eK eC i [] s4 _ H4 (fun _ _=>False) I4 (stat fr4) st4 stop
   rw[eA]at dn
   refine thn dn fun r s5 ⟨hr,I5⟩=>?_
   subst hr
   exact fin _ _ _ I5 q
  ·have im:=T.item Y eP eW eK eC i [] s4 _ H4 (fun _ _=>False) I4 (stat fr4) st4 go
   rw[eA]at im
   refine thn im fun r s5 ⟨u,hr,h5⟩=>?_
   subst hr
   refine thn h5 fun _ s6 ⟨x,H6,I6,r6,y6,st6,fr6⟩=>?_
   have I6':=I6.pinned (stat fr6) (T.obj _ _ st6)
   have back:∀ {σ7:St} {H7:Hp} {s7:Shared} {k:Nat},Inv Y ([]++pinsAt fp s6.heap) σ7 H7 s7->σ7.length=(inSt own sel σ).length->(∀j,own.length<=j->σ7[j]? =(inSt own sel σ)[j]?)->(∃m',m'<n/\W (i+1) m' H7)->
    ∃m',m'<n/\∃i H',Inv Y [] (inSt own sel σ) H' s7/\tn i s7.heap/\(∀b∈fp,H' b=none)/\W i m' H':=fun{σ7 H7 s7 k} I7 l7 k7 w7=>by
    obtain⟨m',hm,w7⟩:=w7
    refine⟨m',hm,i+1,H7,I7.unpinned.weak l7.symm fun j v e=>?_,T.keep _ _ _ st6 fun b hb o e=>(I7.pin (b,o) (List.mem_append_right _ (List.mem_append_right _ (zA7 hb e)))).1,fun b hb=>?_,w7⟩
    ·by_cases hj:j<own.length
     ·rw[zCt hj]at e;cases e
     ·rw[k7 j (Nat.le_of_not_lt hj)];exact e
    ·obtain⟨o,e,d⟩:=T.obj _ _ st6 b hb
     exact(I7.pin (b,o) (List.mem_append_right _ (List.mem_append_right _ (zA7 hb e)))).2.1
   have ga:=hg _ s6 _ H6 x u _ I6' r6 (hk _ _ _ _ (step x H6 y6))
   rw[eP,eW,eA,eE,eX]at ga
   refine thn ga fun _ s7 ⟨σ7,H7,I7,q7,l7,k7⟩=>?_
   have ta:=ht _ s7 σ7 H7 _ I7 q7
   rw[eP,eW,eA,eE,eX]at ta
   refine thn ta fun b s8 ⟨H8,I8,q8⟩=>?_
   cases b with
   |false=>
    rw[if_neg Bool.false_ne_true]at q8⊢
    exact back (k:=0) I8 l7 k7 q8
   |true=>
    rw[if_pos rfl]at q8⊢
    have ea:=he _ s8 σ7 H8 _ I8 q8
    rw[eP,eW,eA,eE,eX]at ea
    refine thn ea fun kv s9 ⟨x9,H9,I9,r9,q9⟩=>?_
    have va:=hv _ s9 σ7 H9 _ I9 q9
    rw[eP,eW,eA,eE,eX]at va
    refine thn va fun v s10 ⟨x10,H10,I10,r10,kvs,k,hD10,ek,hz10,q10⟩=>?_
    subst ek
    have aa:=zIl (X:=Y) (A:=X.A) (E:=fun _ _=>False) I10 hD10 r9 r10 hz10 (Q:=fun _ s'=>∃H',Inv Y ([]++pinsAt fp s6.heap) σ7 H' s'/\∃m',m'<n/\W (i+1) m' H') fun s' I'=>⟨_,I',q10⟩
    rw[eP,eW]at aa
    exact thn aa fun _ s11 ⟨H11,I11,q11⟩=>back (k:=0) I11 l7 k7 q11
 exact codeAny_compStart_dict (loop _ rfl) (T.self X.A 0 _ _ _ (T.keep _ _ _ st2 fun b _ o e=>keep1 b o e) (loop _ rfl))
theorem zGW{kx vx tg iter:Expr}{ifs:List Expr}{scope:Scope}{pos:Pos}{own:List Str}{sel:List Nat}{wi:TI}{g:TG}{tt:TT}{tk tv:TE}
 (S:CompOk X.env.scope X.N own sel scope) (hc:X.calm=true) (hi:PI X tg iter wi)
 (hg:∀cl C s2 H2 fp,PG (cxIn X own sel scope cl C s2 H2 fp) tg g) (hk:GK own.length g)
 (ht:∀cl C s2 H2 fp,PIf (cxIn X own sel scope cl C s2 H2 fp) ifs tt) (he:∀cl C s2 H2 fp,PE (cxIn X own sel scope cl C s2 H2 fp) kx tk) (hv:∀cl C s2 H2 fp,PE (cxIn X own sel scope cl C s2 H2 fp) vx tv)
 (hs:∀x,foldedSetIterable iter X.env x=pure x:=by intro _;rfl):
 PE X (.DictComp kx vx [⟨tg,iter,ifs,0⟩] scope pos) (tCompD own sel wi g tt tk tv):=by
 intro pins s σ H Q I h
 show wpAny _ X.A (comprehension (.DictComp kx vx [⟨tg,iter,ifs,0⟩] scope pos) scope X.env _ newDict false (eval iter X.env)) _ _ s
 refine zHE (use:=none) S hc hi hg hk ht he hv hs I h fun D C H' s' m I' hn f q=>?_
 exact⟨m,hn,fun h' k=>⟨.ref D,H',I'.far f k,rfl,q⟩⟩
end
def CompDW(J:It)(own:List Str)(sel:List Nat)(σ:St)(g:TG)(tt:TT)(tk tv:TE)(Q:VK)(H1:Hp):Prop:=∀D,H1 D=none->
 ∃W:Nat->Nat->Hp->Prop,(∃m,W 0 m (upd H1 D (.dK [])))/\∀i m H2,W i m H2->
  (J.stop i H2/\Q (.ref D) H2)\/(J.go i H2/\∀x H3,J.yld i H2 x H3->g x (inSt own sel σ) H3 fun σ4 H4=>tt σ4 H4 fun b H5=>
    if b=true then tk σ4 H5 fun kv H6=>tv σ4 H6 fun v H7=>∃ (kvs:List (Key×V)) (k:Key),H7 D=some (.dK kvs)/\kv=kV k/\kvs.length<sizeLine/\∃m',m'<m/\W (i+1) m' (upd H7 D (.dK (putK kvs k v)))
    else∃m',m'<m/\W (i+1) m' H5)
theorem zLC{own:List Str}{sel:List Nat}{wi:TI}{g:TG}{tt:TT}{tk tv:TE}{σ:St}{H:Hp}{Q:VK}(h:wi σ H fun J H1=>CompDW J own sel σ g tt tk tv Q H1):tCompD own sel wi g tt tk tv σ H Q:=h
def CDW(D:Addr)(n:Nat)(Pv:Nat->List (Key×V)->Hp->Prop)(i m:Nat)(H:Hp):Prop:=m=n-i/\i<=n/\∃kvs,H D=some (.dK kvs)/\Pv i kvs H
theorem zJ0{J:It}{n:Nat}{own:List Str}{sel:List Nat}{σ:St}{g:TG}{tt:TT}{tk tv:TE}{Q:VK}{H1:Hp}(Pv:Addr->Nat->List (Key×V)->Hp->Prop)(h0:∀D,H1 D=none->Pv D 0 [] (upd H1 D (.dK [])))
 (hgo:∀D i kvs H,H1 D=none->i<n->H D=some (.dK kvs)->Pv D i kvs H->J.go i H) (hst:∀D kvs H,H1 D=none->H D=some (.dK kvs)->Pv D n kvs H->J.stop n H/\Q (.ref D) H)
 (hs:∀D i kvs H x H3,H1 D=none->i<n->H D=some (.dK kvs)->Pv D i kvs H->J.yld i H x H3->g x (inSt own sel σ) H3 fun σ4 H4=>tt σ4 H4 fun b H5=>
   if b=true then tk σ4 H5 fun kv H6=>tv σ4 H6 fun v H7=>∃ (kvs:List (Key×V)) (k:Key),H7 D=some (.dK kvs)/\kv=kV k/\kvs.length<sizeLine/\∃m',m'<n-i/\CDW D n (Pv D) (i+1) m' (upd H7 D (.dK (putK kvs k v)))
   else∃m',m'<n-i/\CDW D n (Pv D) (i+1) m' H5):CompDW J own sel σ g tt tk tv Q H1:=by
 intro D hD
 refine⟨CDW D n (Pv D),⟨n,by simp,Nat.zero_le _,[],zAC,h0 D hD⟩,?_⟩
 rintro i m H2 ⟨rfl,hi,kvs,hy,p⟩
 by_cases hlt:i<n
 ·exact .inr ⟨hgo D i kvs H2 hD hlt hy p,fun x H3 y=>hs D i kvs H2 x H3 hD hlt hy p y⟩
 ·have e:i=n:=by omega
  subst e
  exact .inl (hst D kvs H2 hD hy p)
end L2
namespace L2
open PySem PySem.Spec PyProof.Rows PySem.SeqAt
def isIntOf(k:Int):Value->Bool
 | .int i _=>i==k
 |_=>false
def rIndexI:V->List V->Hp->VK->Prop:=fun x vs H Q=>∃l,∃ns:List Int,∃k:Int,∃j:Nat,x= .ref l/\vs=[.int k]/\H l=some (.lst (ns.map V.int))/\ns[j]? =some k/\(∀m,m<j->ns[m]? ≠some k)/\ns.length<=1000/\Q (.int j) H
theorem zHQ:∀ {ns:List Int} {us:List Value},Vals (ns.map V.int) us->us.length=ns.length/\∀ (m:Nat) (h:m<us.length) (h':m<ns.length),∃t,us[m]= .int ns[m] t
 |[],_, .nil=>⟨rfl,fun m h=>absurd h (Nat.not_lt_zero _)⟩
 |_::_,_, .cons r t=>by
  obtain⟨a,b⟩:=zHQ t
  refine⟨by simp[a],fun m h h'=>?_⟩
  cases m with
  |zero=>exact r
  |succ m=>exact b m (by simpa using h) (by simpa using h')
theorem zE5{X:Cx}:MtM X "list.index" rIndexI:=by
 intro pins s σ H x vs v us Q I rx rv h
 obtain⟨l,ns,k,j,rfl,rfl,hH,hj,hno,hz,q⟩:=h
 cases rx
 obtain⟨u,rfl,ru⟩:=rv.one
 obtain⟨t,rfl⟩:∃t,u=Value.int k t:=ru
 obtain⟨z,its,n,r,hl,e⟩:=I.lstM hH
 obtain⟨el,ev⟩:=zHQ r
 obtain⟨hlt,ej⟩:=List.getElem?_eq_some_iff.mp hj
 refine call_meets F.slot_list_index ⟨_,e,rfl⟩ F.entry_list_index (F.args_list_index_2 _ _) (list_indexAt l _ n none #[] (.int k t) (isIntOf k) j (by simpa[el]using hlt) (by omega) ?_ ?_) ⟨e,fun y hy=>?_,?_⟩
 ·obtain⟨t2,e2⟩:=ev j (by omega) hlt
  rw[List.getElem_toArray,e2,ej]
  exact beq_self_eq_true k
 ·intro m hm hmj
  have hm':m<ns.length:=by simpa[el]using hm
  obtain⟨t2,e2⟩:=ev m (by omega) hm'
  have:=hno m hmj
  rw[List.getElem?_eq_getElem hm']at this
  rw[List.getElem_toArray,e2]
  exact beq_eq_false_iff_ne.mpr fun z=>this (by rw[z])
 ·obtain⟨m,hm,rfl⟩:=List.getElem_of_mem (show y∈its by simpa using hy)
  obtain⟨t2,e2⟩:=ev m hm (by omega)
  rw[e2]
  exact EqAt.int_int _ _ _ _
 ·exact⟨.int j,H,I.tok _,⟨_,rfl⟩,q⟩
theorem zJI{H:Hp}{Q:VK}{l:Addr}{ns:List Int}{k:Int}{j:Nat}(h1:H l=some (.lst (ns.map V.int)))(h2:ns[j]? =some k)(h3:∀m,m<j->ns[m]? ≠some k)(h4:ns.length<=1000)(h:Q (.int j) H):rIndexI (.ref l) [.int k] H Q:=⟨l,ns,k,j,rfl,rfl,h1,h2,h3,h4,h⟩
end L2
namespace BrS
open L2 PySem PySem.Spec PyProof.Rows BrM BrC BrB BrI BrR
abbrev P1(k:Nat)(a:List Nat):Nat->Nat->Int:=PP (a.map (plw (ones k)))
theorem zCy(k:Nat)(a:List Nat):tbl (P1 k a) k 0 (a.map (plw (ones k))).length=cnt k a:=by
 unfold tbl cnt
 rw[if_pos (Nat.zero_le _),Nat.sub_zero,List.length_map]
def Gd28(vs:List V)(k:Int)(a:List Nat):Prop:=vs=[.int k,tx a]/\1<=k/\k<=4/\isRow k a=true
def spFilled28(cs:Cs):Sp:=fun vs H Q E=>∃k a,Gd28 vs k a/\((cnt k.toNat a=0/\Ref E cs.NoFilling H)\/(cnt k.toNat a≠0/\
 ∀ (T p s:Addr) (ad:Nat->Addr) (H0 H':Hp),Same H H'->H' T=some (.tup [.ref p, .ref s])->Pls H' p (a.map (plw (ones k.toNat)))->Tb H0 H' s ad (a.map (plw (ones k.toNat))).length (tbl (P1 k.toNat a) k.toNat)->Q (.ref T) H'))
def Prl(H:Hp)(vs:List V)(L:List (Nat×Nat)):Prop:=vs.length=L.length/\∀ (m:Nat) (x:Nat×Nat),L[m]? =some x->∃T:Addr,vs[m]? =some (V.ref T)/\H T=some (.tup [.int x.1, .int x.2])
def surP(k:Nat)(a:List Nat):List (Nat×Nat):=(prs a.length).filter fun x=>decide (pr (P1 k a) k x.1 x.2*rst (P1 k a) k a.length x.1 x.2=cnt k a)
def spSurePairs(cs:Cs):Sp:=fun vs H Q E=>∃k a,Gd28 vs k a/\((cnt k.toNat a=0/\Ref E cs.NoFilling H)\/(cnt k.toNat a≠0/\
 ∀ (D:Addr) (vs:List V) (H':Hp),H D=none->Same H H'->H' D=some (.lst vs)->Prl H' vs (surP k.toNat a)->Q (.ref D) H'))
def atB(k:Nat)(a:List Nat)(i b:Nat):Int:=tbl (Pat (P1 k a) i b) k 0 a.length
def kvB(k:Nat)(a:List Nat)(i n:Nat):List (Key×V):=((List.range n).filter fun b=>decide (0<atB k a i b)).map fun b=>((Sum.inr ⟨#[brs.getD b 0]⟩:Key),V.int (atB k a i b))
theorem Prl.same{H H':Hp}{vs:List V}{L:List (Nat×Nat)}(h:Prl H vs L)(s:Same H H'):Prl H' vs L:=⟨h.1,fun m x hx=>let⟨T,a,b⟩:=h.2 m x hx;⟨T,a,s _ _ b⟩⟩
theorem Prl.lst{H:Hp}{vs:List V}{L:List (Nat×Nat)}{a:Addr}{xs:List V}{o:HO}(h:Prl H vs L)(ha:H a=some (.lst xs)):Prl (upd H a o) vs L:=⟨h.1,fun m x hx=>by
 obtain⟨T,e,b⟩:=h.2 m x hx
 exact⟨T,e,by rw[zAG (zBr b ha (fun z=>by cases z))];exact b⟩⟩
theorem Prl.more{H:Hp}{vs:List V}{L:List (Nat×Nat)}{T:Addr}{s e:Nat}(h:Prl H vs L)(b:H T=some (.tup [.int (s:Int), .int (e:Int)])):Prl H (vs++[.ref T]) (L++[(s,e)]):=by
 refine⟨by rw[List.length_append,List.length_append,h.1];rfl,fun i x hx=>?_⟩
 by_cases c:i<L.length
 ·rw[List.getElem?_append_left c]at hx
  obtain⟨T',b1,b2⟩:=h.2 i x hx
  exact⟨T',by rw[List.getElem?_append_left (by rw[h.1];exact c)];exact b1,b2⟩
 ·rw[List.getElem?_append_right (by omega)]at hx
  have hi:i=L.length:=by
   have:=(List.getElem?_eq_some_iff.mp hx).1
   simp at this;omega
  subst hi
  rw[Nat.sub_self]at hx
  cases hx
  exact⟨T,by rw[List.getElem?_append_right (by rw[h.1];exact Nat.le_refl _),h.1,Nat.sub_self];rfl,b⟩
theorem zDO{α:Type}(f:α->Bool){L:List α}{n:Nat}{x:α}(h:L[n]? =some x):(L.take (n+1)).filter f=if f x=true then(L.take n).filter f++[x]else(L.take n).filter f:=by
 rw[List.take_add_one,h,List.filter_append]
 by_cases e:f x=true
 ·rw[if_pos e]
  congr 1
  show List.filter f [x]=[x]
  rw[List.filter_cons_of_pos e];rfl
 ·rw[if_neg e]
  have:List.filter f (some x).toList=[]:=by
   show List.filter f [x]=[]
   rw[List.filter_cons_of_neg e];rfl
  rw[this,List.append_nil]
theorem zLP{n:Nat}(hn:n<=40):(prs n).length<=1700:=by
 have:=zGP n n 0 (Nat.le_refl _) (Nat.zero_le _) hn
 rw[zGQ]at this;exact this
def spAt28(cs:Cs):Sp:=fun vs H Q E=>∃ (k:Int) (a:List Nat) (i:Nat),vs=[.int k,tx a, .int (i:Int)]/\1<=k/\k<=4/\isRow k a=true/\i<a.length/\((cnt k.toNat a=0/\Ref E cs.NoFilling H)\/(cnt k.toNat a≠0/\
 ∀ (D:Addr) (H':Hp),H D=none->Same H H'->H' D=some (.dK (kvB k.toNat a i (2*k.toNat)))->Q (.ref D) H'))
theorem zJi(k:Nat)(a:List Nat)(i n:Nat):kvB k a i (n+1)=if 0<atB k a i n then kvB k a i n++[((Sum.inr ⟨#[brs.getD n 0]⟩:Key),V.int (atB k a i n))]else kvB k a i n:=by
 unfold kvB
 rw[List.range_succ,List.filter_append,List.map_append]
 by_cases e:0<atB k a i n
 ·rw[if_pos e,List.filter_cons_of_pos (by simpa using e)];rfl
 ·rw[if_neg e,List.filter_cons_of_neg (by simpa using e)]
  simp
theorem zLi{k:Nat}{a:List Nat}{i n:Nat}(hn:n<8):valV (kvB k a i n) (Sum.inr ⟨#[brs.getD n 0]⟩:Key)=none:=by
 unfold valV
 rw[Option.map_eq_none_iff,List.find?_eq_none]
 intro p hp
 unfold kvB at hp
 obtain⟨b,hb,rfl⟩:=List.mem_map.mp hp
 have hb:=List.mem_range.mp (List.mem_filter.mp hb).1
 intro z
 have z:=of_decide_eq_true z
 have z2:(⟨#[brs.getD b 0]⟩:Str)=⟨#[brs.getD n 0]⟩:=Sum.inr.inj z
 have z3:brs.getD b 0=brs.getD n 0:=by
  have:=congrArg (fun s:Str=>s.cps.toList) z2
  simpa using this
 have:=zF2 b (by omega) n hn z3
 omega
theorem zLj(k:Nat)(a:List Nat)(i n:Nat):(kvB k a i n).length<=n:=by
 unfold kvB
 rw[List.length_map]
 refine Nat.le_trans (List.length_filter_le _ _) ?_
 rw[List.length_range];exact Nat.le_refl _
def firB(k:Nat)(a:List Nat)(i:Nat):Option Nat:=(List.range (2*k)).find? fun b=>decide (atB k a i b=cnt k a)
def surS1(k:Nat)(a:List Nat)(i:Nat):Option (Nat×Nat):=if a.getD i 0=63 then(firB k a i).map fun b=>(i,b)else none
def surS(k:Nat)(a:List Nat):List (Nat×Nat):=(List.range a.length).filterMap (surS1 k a)
def Sll(H:Hp)(vs:List V)(L:List (Nat×Nat)):Prop:=vs.length=L.length/\∀ (m:Nat) (x:Nat×Nat),L[m]? =some x->∃T:Addr,vs[m]? =some (V.ref T)/\H T=some (.tup [.int x.1,tx [brs.getD x.2 0]])
theorem Sll.same{H H':Hp}{vs:List V}{L:List (Nat×Nat)}(h:Sll H vs L)(s:Same H H'):Sll H' vs L:=⟨h.1,fun m x hx=>let⟨T,a,b⟩:=h.2 m x hx;⟨T,a,s _ _ b⟩⟩
theorem Sll.lst{H:Hp}{vs:List V}{L:List (Nat×Nat)}{a:Addr}{xs:List V}{o:HO}(h:Sll H vs L)(ha:H a=some (.lst xs)):Sll (upd H a o) vs L:=⟨h.1,fun m x hx=>by
 obtain⟨T,e,b⟩:=h.2 m x hx
 exact⟨T,e,by rw[zAG (zBr b ha (fun z=>by cases z))];exact b⟩⟩
theorem Sll.more{H:Hp}{vs:List V}{L:List (Nat×Nat)}{T:Addr}{s e:Nat}(h:Sll H vs L)(b:H T=some (.tup [.int (s:Int),tx [brs.getD e 0]])):Sll H (vs++[.ref T]) (L++[(s,e)]):=by
 refine⟨by rw[List.length_append,List.length_append,h.1];rfl,fun i x hx=>?_⟩
 by_cases c:i<L.length
 ·rw[List.getElem?_append_left c]at hx
  obtain⟨T',b1,b2⟩:=h.2 i x hx
  exact⟨T',by rw[List.getElem?_append_left (by rw[h.1];exact c)];exact b1,b2⟩
 ·rw[List.getElem?_append_right (by omega)]at hx
  have hi:i=L.length:=by
   have:=(List.getElem?_eq_some_iff.mp hx).1
   simp at this;omega
  subst hi
  rw[Nat.sub_self]at hx
  cases hx
  exact⟨T,by rw[List.getElem?_append_right (by rw[h.1];exact Nat.le_refl _),h.1,Nat.sub_self];rfl,b⟩
def spSurePlaces(cs:Cs):Sp:=fun vs H Q E=>∃k a,Gd28 vs k a/\((cnt k.toNat a=0/\Ref E cs.NoFilling H)\/(cnt k.toNat a≠0/\
 ∀ (D:Addr) (vs:List V) (H':Hp),H D=none->Same H H'->H' D=some (.lst vs)->Sll H' vs (surS k.toNat a)->Q (.ref D) H'))
theorem zJJ(m:Nat)(f:Nat->Int):rw2 m f=((List.range m).map f).map V.int:=by unfold rw2;rw[List.map_map];rfl
theorem zGb(c:Int):∀ns:List Int,inV (.int c) (ns.map V.int)=decide (c∈ns)
 |[]=>by simp[inV]
 |n::ns=>by
  have ih:=zGb c ns
  rw[List.map_cons]
  by_cases e:c=n
  ·subst e;simp[inV,eqV]
  ·unfold inV at ih⊢
   rw[List.any_cons,ih]
   simp[eqV,e,Ne.symm e]
theorem zCQ{k:Nat}{a:List Nat}{i b:Nat}(h:firB k a i=some b):atB k a i b=cnt k a/\b<2*k/\∀m,m<b->atB k a i m≠cnt k a:=by
 unfold firB at h
 rw[List.find?_range_eq_some]at h
 obtain⟨h1,h2,h3⟩:=h
 refine⟨of_decide_eq_true h1,List.mem_range.mp h2,fun m hm z=>?_⟩
 have:=h3 m hm
 rw[decide_eq_true z]at this
 cases this
theorem zFC{k:Nat}{a:List Nat}{i:Nat}(h:firB k a i=none):∀b,b<2*k->atB k a i b≠cnt k a:=fun b hb z=>by
 unfold firB at h
 rw[List.find?_eq_none]at h
 exact h b (List.mem_range.mpr hb) (decide_eq_true z)
theorem zEm(k:Nat)(a:List Nat)(n:Nat):(List.range (n+1)).filterMap (surS1 k a)=(List.range n).filterMap (surS1 k a)++(surS1 k a n).toList:=by
 rw[List.range_succ,List.filterMap_append]
 cases h:surS1 k a n<;>simp[h]
def pt(l:List Nat):Nat->List (Nat×Nat)×List Nat
 |0=>([],[])
 |i+1=>if l.getD i 0%2=0 then((pt l i).1,i::(pt l i).2)else match(pt l i).2 with
  |s::r=>((pt l i).1++[(s,i)],r)
  |[]=>((pt l i).1,[])
def prt(l:List Nat):List (Nat×Nat):=(pt l l.length).1
theorem zLO{k:Nat}{l:List Nat}:∀ {i:Nat} {st:List Nat},i<=l.length->go k [] (l.take i)=some st->(pt l i).2.length=st.length
 |0,st,_,h=>by
  rw[List.take_zero,zAl]at h
  cases h;rfl
 |i+1,st,hi,h=>by
  have hl:l[i]? =some (l.getD i 0):=by rw[List.getD_eq_getElem?_getD,List.getElem?_eq_getElem (by omega)];rfl
  rw[List.take_add_one,hl,zAy]at h
  cases e:go k [] (l.take i)with
  |none=>rw[e]at h;cases h
  |some s0=>
   rw[e]at h
   have ih:=zLO (by omega) e
   have h:go k s0 [l.getD i 0]=some st:=h
   rw[zAk]at h
   cases en:nx k s0 (l.getD i 0)with
   |none=>rw[en]at h;cases h
   |some s1=>
    rw[en]at h
    have h:go k s1 []=some st:=h
    rw[zAl]at h
    cases h
    obtain⟨_,⟨h1,h2⟩|⟨h1,h2⟩⟩:=zAu en
    ·rw[pt,if_pos h1,h2];simp[ih]
    ·rw[pt,if_neg (by omega)]
     rw[h2,List.length_cons]at ih
     cases ep:(pt l i).2 with
     |nil=>rw[ep]at ih;simp at ih
     |cons a r=>rw[ep]at ih;simpa using ih
theorem zHm(l:List Nat):∀i,(pt l i).1.length<=i
 |0=>Nat.le_refl _
 |i+1=>by
  have ih:=zHm l i
  rw[pt]
  split
  ·exact Nat.le_succ_of_le ih
  ·split
   ·rw[List.length_append,List.length_singleton];omega
   ·exact Nat.le_succ_of_le ih
theorem zIO{k:Nat}{l:List Nat}(h:Rg k l)(i:Nat):∃st,go k [] (l.take i)=some st:=by
 have e:go k [] (l.take i++l.drop i)=some []:=by rw[List.take_append_drop];exact h
 rw[zAy]at e
 cases q:go k [] (l.take i)with
 |none=>rw[q]at e;cases e
 |some st=>exact⟨st,rfl⟩
def spPartners28:Sp:=fun vs H Q _=>∃ (p:Addr) (l:List Nat) (k:Nat),vs=[.ref p]/\H p=some (.lst (nL l))/\l.length<=40/\Rg k l/\∀ (D:Addr) (vs':List V) (H':Hp),Same H H'->H' D=some (.lst vs')->Prl H' vs' (prt l)->Q (.ref D) H'
theorem zHl(l:List Nat):∀i,(pt l i).2.length<=i
 |0=>Nat.le_refl _
 |i+1=>by
  have ih:=zHl l i
  rw[pt]
  split
  ·rw[List.length_cons];omega
  ·split
   ·rename_i a r e
    rw[e,List.length_cons]at ih
    show r.length<=i+1
    omega
   ·exact Nat.zero_le _
theorem zGO{k:Nat}{l:List Nat}(h:Rg k l){i:Nat}(hi:i<l.length)(ho:¬l.getD i 0%2=0):∃s r,(pt l i).2=s::r:=by
 obtain⟨s0,e⟩:=zIO h i
 have hln:=zLO (l:=l) (Nat.le_of_lt hi) e
 obtain⟨st,hst⟩:=zIO h (i+1)
 have hl:l[i]? =some (l.getD i 0):=by rw[List.getD_eq_getElem?_getD,List.getElem?_eq_getElem hi];rfl
 rw[List.take_add_one,hl,zAy,e]at hst
 have h2:go k s0 [l.getD i 0]=some st:=hst
 rw[zAk]at h2
 cases en:nx k s0 (l.getD i 0)with
 |none=>rw[en]at h2;cases h2
 |some s1=>
  obtain⟨_,⟨h1,_⟩|⟨_,h3⟩⟩:=zAu en
  ·exact absurd h1 ho
  ·rw[h3,List.length_cons]at hln
   cases ep:(pt l i).2 with
   |nil=>rw[ep]at hln;simp at hln
   |cons a r=>exact⟨a,r,rfl⟩
def spTold28:Sp:=fun vs H Q _=>∃ (w:Int) (k:Int) (a:List Nat) (i:Int),vs=[.int w, .int k,tx a, .int i]/\1<=k/\k<=4/\isRow k a=true/\0<=w/\w<=2/\(w=0->0<=i/\i<a.length)/\
 (cnt k.toNat a=0->∀T H',Same H H'->H' T=some (.tup [tx noFl, .non])->Q (.ref T) H')/\
 (cnt k.toNat a≠0->∀T D H',Same H H'->H D=none->H' T=some (.tup [tx [], .ref D])->(w=0->H' D=some (.dK (kvB k.toNat a i.toNat (2*k.toNat))))->(w=1->∃vs,H' D=some (.lst vs)/\Sll H' vs (surS k.toNat a))->(w=2->∃vs,H' D=some (.lst vs)/\Prl H' vs (surP k.toNat a))->Q (.ref T) H')
end BrS
namespace BrI
open BrM BrC BrS BrB
theorem zEq{f:Nat->Int}:∀ {n:Nat},(∀i,i<n->0<=f i)->(0<sm n f↔∃i,i<n/\0<f i)
 |0,_=>⟨fun h=>absurd h (by simp[sm]),fun⟨i,h,_⟩=>absurd h (Nat.not_lt_zero _)⟩
 |n+1,h=>by
  have ih:=zEq (f:=f) (n:=n) fun i hi=>h i (by omega)
  have h1:=zAT (f:=f) n fun i hi=>h i (by omega)
  have h2:=h n (by omega)
  rw[sm]
  constructor
  ·intro q
   by_cases e:0<f n
   ·exact⟨n,by omega,e⟩
   ·obtain⟨i,hi,hf⟩:=ih.mp (by omega)
    exact⟨i,by omega,hf⟩
  ·rintro⟨i,hi,hf⟩
   by_cases e:i=n
   ·subst e;omega
   ·have:=ih.mpr ⟨i,by omega,hf⟩;omega
theorem zAa{x y:Int}(hx:0<=x)(hy:0<=y):0<x*y↔0<x/\0<y:=by
 constructor
 ·intro h
  refine⟨?_,?_⟩
  ·by_cases e:x=0
   ·subst e;simp at h
   ·omega
  ·by_cases e:y=0
   ·subst e;simp at h
   ·omega
 ·rintro⟨a,b⟩;exact Int.mul_pos a b
def Fits(P:Nat->Nat->Int)(i:Nat)(v:List Nat):Prop:=∀j,j<v.length->0<P (i+j) (v.getD j 0)
theorem fit_cons{P:Nat->Nat->Int}{i b:Nat}{v:List Nat}:Fits P i (b::v)↔0<P i b/\Fits P (i+1) v:=by
 constructor
 ·intro h
  refine⟨h 0 (by simp),fun j hj=>?_⟩
  have:=h (j+1) (by simpa using hj)
  rw[show i+1+j=i+(j+1) by omega];exact this
 ·rintro⟨h1,h2⟩ j hj
  cases j with
  |zero=>exact h1
  |succ j=>
   have:=h2 j (by simpa using hj)
   rw[show i+(j+1)=i+1+j by omega];exact this
theorem zFt(P:Nat->Nat->Int)(i:Nat):Fits P i []:=fun j hj=>absurd hj (Nat.not_lt_zero _)
section
variable{P:Nat->Nat->Int}{k:Nat}
theorem zFH(h0:∀i b,0<=P i b):∀ (m i:Nat) (st:List Nat),(∀o∈st,o<k)->(0<cv P k m i st↔∃v:List Nat,v.length=m/\go k st v=some []/\Fits P i v)
 |0,i,[],_=>⟨fun _=>⟨[],rfl,zAl _,zFt P i⟩,fun _=>by simp[cv]⟩
 |0,i,o::s,_=>by
  refine⟨fun h=>absurd h (by simp[cv]),?_⟩
  rintro⟨v,hv,hg,_⟩
  have:v=[]:=List.length_eq_zero_iff.mp hv
  subst this
  rw[zAl]at hg
  cases hg
 |m+1,i,st,hst=>by
  have nn:∀i st,0<=cv P k m i st:=fun i st=>zHB h0 m i st
  have key:0<cv P k (m+1) i st↔(∃p,p<k/\0<P i (2*p)/\0<cv P k m (i+1) (p::st))\/(∃o s,st=o::s/\0<P i (2*o+1)/\0<cv P k m (i+1) s):=by
   have hs:=zEq (f:=fun p=>P i (2*p)*cv P k m (i+1) (p::st)) (n:=k) fun p _=>Int.mul_nonneg (h0 _ _) (nn _ _)
   have hsn:=zAT (f:=fun p=>P i (2*p)*cv P k m (i+1) (p::st)) k fun p _=>Int.mul_nonneg (h0 _ _) (nn _ _)
   have h1:(0<sm k fun p=>P i (2*p)*cv P k m (i+1) (p::st))↔∃p,p<k/\0<P i (2*p)/\0<cv P k m (i+1) (p::st):=by
    rw[hs]
    constructor
    ·rintro⟨p,hp,q⟩;exact⟨p,hp,(zAa (h0 _ _) (nn _ _)).mp q⟩
    ·rintro⟨p,hp,q⟩;exact⟨p,hp,(zAa (h0 _ _) (nn _ _)).mpr q⟩
   cases st with
   |nil=>
    rw[zB9,h1]
    exact⟨.inl,fun z=>z.elim id fun⟨o,s,e,_⟩=>nomatch e⟩
   |cons o s=>
    have h2:=zAa (h0 i (2*o+1)) (nn (i+1) s)
    have h3:=Int.mul_nonneg (h0 i (2*o+1)) (nn (i+1) s)
    rw[zBb]
    constructor
    ·intro z
     by_cases e:0<sm k fun p=>P i (2*p)*cv P k m (i+1) (p::o::s)
     ·exact .inl (h1.mp e)
     ·exact .inr ⟨o,s,rfl,h2.mp (by omega)⟩
    ·rintro(z|⟨o',s',e,z⟩)
     ·have:=h1.mpr z
      omega
     ·cases e
      have:=h2.mpr z
      omega
  rw[key]
  constructor
  ·rintro(⟨p,hp,h1,h2⟩|⟨o,s,rfl,h1,h2⟩)
   ·obtain⟨v,hv,hg,hf⟩:=(zFH h0 m (i+1) (p::st) (fun o ho=>by rcases List.mem_cons.mp ho with rfl|ho;exact hp;exact hst o ho)).mp h2
    exact⟨2*p::v,by simp[hv],by rw[zBw _ _ hp];exact hg,fit_cons.mpr ⟨h1,hf⟩⟩
   ·have ho:=hst o List.mem_cons_self
    obtain⟨v,hv,hg,hf⟩:=(zFH h0 m (i+1) s (fun x hx=>hst x (List.mem_cons_of_mem _ hx))).mp h2
    exact⟨(2*o+1)::v,by simp[hv],by rw[zBV _ _ ho];exact hg,fit_cons.mpr ⟨h1,hf⟩⟩
  ·rintro⟨v,hv,hg,hf⟩
   cases v with
   |nil=>cases hv
   |cons b v=>
    obtain⟨f1,f2⟩:=fit_cons.mp hf
    rw[zAk]at hg
    cases en:nx k st b with
    |none=>rw[en]at hg;cases hg
    |some s1=>
     rw[en]at hg
     have hg:go k s1 v=some []:=hg
     obtain⟨hb,⟨e1,e2⟩|⟨e1,e2⟩⟩:=zAu en
     ·refine .inl ⟨b/2,by omega,by rw[show 2*(b/2)=b by omega];exact f1,?_⟩
      rw[<-e2]
      exact(zFH h0 m (i+1) s1 (fun o ho=>by rw[e2]at ho;rcases List.mem_cons.mp ho with rfl|ho;omega;exact hst o ho)).mpr ⟨v,by simpa using hv,hg,f2⟩
     ·refine .inr ⟨b/2,s1,e2,by rw[show 2*(b/2)+1=b by omega];exact f1,?_⟩
      exact(zFH h0 m (i+1) s1 (fun o ho=>hst o (by rw[e2];exact List.mem_cons_of_mem _ ho))).mpr ⟨v,by simpa using hv,hg,f2⟩
end
theorem zEO{k:Nat}{v:List Nat}(h:Rg k v)(st:List Nat):go k st v=some st:=by
 have:=zNM v [] [] st h
 simpa using this
theorem zEP{k:Nat}:∀ (w st:List Nat),go k st w=some []->∃v w0,w=v++w0/\Rg k v/\((st=[]/\w0=[])\/∃o r w',st=o::r/\w0=(2*o+1)::w'/\go k r w'=some []):=by
 intro w
 induction hn:w.length using Nat.strongRecOn generalizing w with
 |_ n ih=>
  intro st h
  cases w with
  |nil=>
   rw[zAl]at h
   cases h
   exact⟨[],[],rfl,zAl _, .inl ⟨rfl,rfl⟩⟩
  |cons b w=>
   rw[zAk]at h
   cases en:nx k st b with
   |none=>rw[en]at h;cases h
   |some s1=>
    rw[en]at h
    have h:go k s1 w=some []:=h
    obtain⟨hb,⟨e1,e2⟩|⟨e1,e2⟩⟩:=zAu en
    ·subst e2
     obtain⟨v,w0,ew,hv,z⟩:=ih w.length (by rw[<-hn];simp) w rfl _ h
     rcases z with⟨z,_⟩|⟨o,r,w',ez,ew0,hg⟩
     ·cases z
     ·cases ez
      have hl:w'.length<n:=by rw[<-hn,ew,ew0];simp;omega
      obtain⟨v2,w2,ew2,hv2,z2⟩:=ih w'.length hl w' rfl _ hg
      refine⟨b::v++(2*(b/2)+1)::v2,w2,?_,?_,z2⟩
      ·rw[ew,ew0,ew2];simp
      ·have hk:b/2<k:=by omega
       have eb:b=2*(b/2):=by omega
       unfold Rg
       rw[zAy]
       have a1:go k [] (b::v)=some [b/2]:=by
        have h9:go k [] (2*(b/2)::v)=some [b/2]:=by
         rw[zBw _ _ hk]
         exact zEO hv [b/2]
        rw[<-eb]at h9;exact h9
       rw[a1]
       show go k [b/2] _=some []
       rw[zBV _ _ hk]
       exact hv2
    ·exact⟨[],b::w,rfl,zAl _, .inr ⟨b/2,s1,w,e2,by rw[show 2*(b/2)+1=b by omega],h⟩⟩
theorem zKW{k:Nat}:∀ (u:List Nat) (o:Nat) (r:List Nat),go k [] u=some (o::r)->∃u0 v,u=u0++2*o::v/\go k [] u0=some r/\Rg k v/\o<k:=by
 intro u
 induction hn:u.length using Nat.strongRecOn generalizing u with
 |_ n ih=>
  intro o r h
  rcases List.eq_nil_or_concat u with rfl|⟨u',b,rfl⟩
  ·rw[zAl]at h;cases h
  ·rw[List.concat_eq_append,zAy]at h
   have hl:u'.length<n:=by rw[<-hn];simp
   cases e:go k [] u' with
   |none=>rw[e]at h;cases h
   |some s1=>
    rw[e]at h
    have h:go k s1 [b]=some (o::r):=h
    rw[zAk]at h
    cases en:nx k s1 b with
    |none=>rw[en]at h;cases h
    |some s2=>
     rw[en]at h
     have h:go k s2 []=some (o::r):=h
     rw[zAl]at h
     cases h
     obtain⟨hb,⟨e1,e2⟩|⟨e1,e2⟩⟩:=zAu en
     ·cases e2
      exact⟨u',[],by rw[show 2*(b/2)=b by omega,List.concat_eq_append],e,zAl _,by omega⟩
     ·subst e2
      have hk:b/2<k:=by omega
      obtain⟨u1,v1,eu1,g1,r1,_⟩:=ih u'.length hl u' rfl _ _ e
      have hl1:u1.length<n:=by rw[eu1]at hl;simp at hl;omega
      obtain⟨u0,v0,eu0,g0,r0,hk0⟩:=ih u1.length hl1 u1 rfl _ _ g1
      refine⟨u0,v0++(2*(b/2)::v1++[b]),?_,g0,?_,hk0⟩
      ·rw[List.concat_eq_append,eu1,eu0];simp
      ·unfold Rg
       rw[zAy,show go k [] v0=some []from r0]
       show go k [] (2*(b/2)::v1++[b])=some []
       rw[List.cons_append,zBw _ _ hk,zAy,zEO r1 [b/2]]
       show go k [b/2] [b]=some []
       have h9:go k [b/2] [2*(b/2)+1]=some []:=by rw[zBV _ _ hk,zAl]
       rw[show 2*(b/2)+1=b by omega]at h9
       exact h9
theorem zA9{P:Nat->Nat->Int}:∀ (a b:List Nat) (i:Nat),Fits P i (a++b)↔Fits P i a/\Fits P (i+a.length) b
 |[],b,i=>⟨fun h=>⟨zFt P i,h⟩,fun h=>h.2⟩
 |x::a,b,i=>by
  rw[List.cons_append,fit_cons,fit_cons,zA9 a b (i+1),List.length_cons,show i+1+a.length=i+(a.length+1) by omega]
  exact⟨fun⟨p,q,r⟩=>⟨⟨p,q⟩,r⟩,fun⟨⟨p,q⟩,r⟩=>⟨p,q,r⟩⟩
section
variable{P:Nat->Nat->Int}{k n:Nat}
theorem zB7(h0:∀i b,0<=P i b){i j:Nat}(h:i<=j):0<tbl P k i j↔∃v:List Nat,v.length=j-i/\Rg k v/\Fits P i v:=by
 unfold tbl
 rw[if_pos h]
 exact zFH h0 (j-i) i [] (fun _ z=>nomatch z)
theorem zCm(h0:∀i b,0<=P i b)(i j:Nat):0<=tbl P k i j:=by
 unfold tbl
 split
 ·exact zHB h0 _ _ _
 ·exact Int.le_refl _
theorem zGR(h0:∀i b,0<=P i b)(i j:Nat):0<pr P k i j↔∃p,p<k/\0<P i (2*p)/\0<P j (2*p+1):=by
 unfold pr
 rw[zEq fun p _=>Int.mul_nonneg (h0 _ _) (h0 _ _)]
 constructor
 ·rintro⟨p,hp,q⟩;exact⟨p,hp,(zAa (h0 _ _) (h0 _ _)).mp q⟩
 ·rintro⟨p,hp,q⟩;exact⟨p,hp,(zAa (h0 _ _) (h0 _ _)).mpr q⟩
theorem zDA(h0:∀i b,0<=P i b)(i j:Nat):0<=pr P k i j:=by
 unfold pr
 exact zAT k fun p _=>Int.mul_nonneg (h0 _ _) (h0 _ _)
theorem zCZ(h0:∀i b,0<=P i b)(u j:Nat):0<=out P k n u j:=by
 unfold out
 exact zAT (n+1) fun s _=>Int.mul_nonneg (zHI h0 _ _ _) (zCm h0 _ _)
theorem zEG(h0:∀i b,0<=P i b)(u j:Nat):0<out P k n u j↔∃s,s<=n/\0<Oo P k n u s/\0<tbl P k (j+1) s:=by
 have on:∀s,0<=Oo P k n u s:=fun s=>zHI h0 _ _ _
 unfold out
 rw[zEq fun s _=>Int.mul_nonneg (on s) (zCm h0 _ _)]
 constructor
 ·rintro⟨s,hs,q⟩;exact⟨s,by omega,(zAa (on s) (zCm h0 _ _)).mp q⟩
 ·rintro⟨s,hs,q⟩;exact⟨s,by omega,(zAa (on s) (zCm h0 _ _)).mpr q⟩
def Ou(P:Nat->Nat->Int)(k n t j:Nat):Prop:=∃u w st:List Nat,u.length=t/\w.length=n-j/\Fits P 0 u/\Fits P j w/\go k [] u=some st/\((st=[]/\j=n)\/∃o r w',st=o::r/\w=(2*o+1)::w'/\go k r w'=some [])
theorem zL7(h0:∀i b,0<=P i b){t j:Nat}(h:t<=n):0<Oo P k n t j↔(j=n/\0<tbl P k 0 t)\/∃u,u<n/\0<tbl P k (u+1) t/\0<pr P k u j/\0<out P k n u j:=by
 have hn:∀u,0<=tbl P k (u+1) t*(pr P k u j*out P k n u j):=fun u=>Int.mul_nonneg (zCm h0 _ _) (Int.mul_nonneg (zDA h0 _ _) (zCZ h0 _ _))
 have hs:=zEq (f:=fun u=>tbl P k (u+1) t*(pr P k u j*out P k n u j)) (n:=n) fun u _=>hn u
 have hq:=zAT (f:=fun u=>tbl P k (u+1) t*(pr P k u j*out P k n u j)) n fun u _=>hn u
 have ht:0<=tbl P k 0 t:=zCm h0 _ _
 have hi:∀u,0<tbl P k (u+1) t*(pr P k u j*out P k n u j)↔0<tbl P k (u+1) t/\0<pr P k u j/\0<out P k n u j:=fun u=>by
  rw[zAa (zCm h0 _ _) (Int.mul_nonneg (zDA h0 _ _) (zCZ h0 _ _)),zAa (zDA h0 _ _) (zCZ h0 _ _)]
 rw[zHJ h]
 constructor
 ·intro z
  by_cases e:0<sm n (fun u=>tbl P k (u+1) t*(pr P k u j*out P k n u j))
  ·obtain⟨u,hu,q⟩:=hs.mp e
   exact .inr ⟨u,hu,(hi u).mp q⟩
  ·left
   by_cases ej:j=n
   ·rw[if_pos ej]at z;exact⟨ej,by omega⟩
   ·rw[if_neg ej]at z;omega
 ·rintro(⟨ej,z⟩|⟨u,hu,q⟩)
  ·rw[if_pos ej];omega
  ·have:=hs.mpr ⟨u,hu,(hi u).mpr q⟩
   split<;>omega
theorem zKh(h0:∀i b,0<=P i b):∀ (t j:Nat),t<=j->j<=n->(0<Oo P k n t j↔Ou P k n t j):=by
 intro t
 induction t using Nat.strongRecOn with
 |_ t ih=>
  intro j htj hjn
  rw[zL7 h0 (by omega)]
  constructor
  ·rintro(⟨rfl,z⟩|⟨u,hu,z1,z2,z3⟩)
   ·obtain⟨v,hv,hr,hf⟩:=(zB7 h0 (Nat.zero_le t)).mp z
    exact⟨v,[],[],by omega,by simp,hf,zFt _ _,hr, .inl ⟨rfl,rfl⟩⟩
   ·have hut:u+1<=t:=by
     apply Classical.byContradiction
     intro q
     rw[zAh (by omega)]at z1
     omega
    obtain⟨v1,hv1,hr1,hf1⟩:=(zB7 h0 hut).mp z1
    obtain⟨p,hp,a1,a2⟩:=(zGR h0 u j).mp z2
    obtain⟨s,hs,b1,b2⟩:=(zEG h0 u j).mp z3
    have hjs:j+1<=s:=by
     apply Classical.byContradiction
     intro q
     rw[zAh (by omega)]at b2
     omega
    obtain⟨u0,w0,st0,l1,l2,f1,f2,g,c⟩:=(ih u (by omega) s (by omega) hs).mp b1
    obtain⟨v2,hv2,hr2,hf2⟩:=(zB7 h0 hjs).mp b2
    refine⟨u0++2*p::v1,(2*p+1)::(v2++w0),p::st0,by simp;omega,by simp;omega,?_,?_,?_, .inr ⟨p,st0,v2++w0,rfl,rfl,?_⟩⟩
    ·rw[zA9,fit_cons,l1,Nat.zero_add]
     exact⟨f1,a1,hf1⟩
    ·rw[fit_cons,zA9,hv2,show j+1+(s-(j+1))=s by omega]
     exact⟨a2,hf2,f2⟩
    ·rw[zAy,g]
     show go k st0 (2*p::v1)=_
     rw[zBw _ _ hp]
     exact zEO hr1 _
    ·rw[zAy,zEO hr2 st0]
     show go k st0 w0=some []
     rcases c with⟨rfl,rfl⟩|⟨o,r,w',rfl,rfl,gw⟩
     ·have:w0=[]:=List.length_eq_zero_iff.mp (by omega)
      subst this
      exact zAl _
     ·rw[zBV _ _ (zGc (st:=[]) (by simp) g o List.mem_cons_self)]
      exact gw
  ·rintro⟨u,w,st,l1,l2,f1,f2,g,c⟩
   rcases c with⟨rfl,rfl⟩|⟨o,r,w',rfl,rfl,gw⟩
   ·exact .inl ⟨rfl,(zB7 h0 (Nat.zero_le t)).mpr ⟨u,by omega,g,f1⟩⟩
   ·right
    obtain⟨u0,v,rfl,g0,hr,ho⟩:=zKW u o r g
    obtain⟨v2,w0,rfl,hr2,c2⟩:=zEP w' r gw
    rw[List.length_append,List.length_cons]at l1
    rw[List.length_cons,List.length_append]at l2
    rw[zA9,fit_cons,Nat.zero_add]at f1
    rw[fit_cons,zA9]at f2
    obtain⟨f1a,f1b,f1c⟩:=f1
    obtain⟨f2a,f2b,f2c⟩:=f2
    refine⟨u0.length,by omega,(zB7 h0 (by omega)).mpr ⟨v,by omega,hr,f1c⟩,(zGR h0 _ _).mpr ⟨o,ho,f1b,f2a⟩,(zEG h0 _ _).mpr ⟨j+1+v2.length,by omega,(ih u0.length (by omega) _ (by omega) (by omega)).mpr ⟨u0,w0,r,rfl,by omega,f1a,f2c,g0,?_⟩,(zB7 h0 (by omega)).mpr ⟨v2,by omega,hr2,f2b⟩⟩⟩
    rcases c2 with⟨rfl,rfl⟩|⟨o',r',w'',rfl,rfl,hg⟩
    ·exact .inl ⟨rfl,by simp at l2;omega⟩
    ·exact .inr ⟨o',r',w'',rfl,rfl,hg⟩
end
theorem zHc(f:Nat->Int):∀k,sm (2*k) f=sm k (fun p=>f (2*p))+sm k (fun p=>f (2*p+1))
 |0=>by simp[sm]
 |k+1=>by
  rw[show 2*(k+1)=2*k+1+1 by omega,sm,sm,zHc f k,sm,sm];omega
theorem zKA{f:Nat->Int}{n i j:Nat}(hi:i<n)(hj:j<n)(hij:i≠j)(h:∀x,x<n->0<=f x):f i+f j<=sm n f:=by
 have e:sm n f=sm n (fun x=>if x=i then f x else 0)+sm n (fun x=>if x=i then 0 else f x):=by
  rw[<-zB8]
  exact zAJ n fun x _=>by split<;>omega
 have e1:sm n (fun x=>if x=i then f x else 0)=f i:=(zBq (f:=fun x=>if x=i then f x else 0) hi (fun x _ hx=>if_neg hx)).trans (if_pos rfl)
 have e2:=zJF (f:=fun x=>if x=i then 0 else f x) hj (fun x hx=>by
  show(0:Int)<=if x=i then 0 else f x
  split
  ·exact Int.le_refl _
  ·exact h x hx)
 have e3:(if j=i then 0 else f j)=f j:=if_neg fun z=>hij z.symm
 simp only[e3]at e2
 omega
theorem zNe(P:Nat->Nat->Int){k n i:Nat}(h:i<n):sm (2*k) (fun b=>tbl (Pat P i b) k 0 n)=tbl P k 0 n:=by
 rw[zHc,zBs P h]
 have e1:sm k (fun p=>tbl (Pat P i (2*p)) k 0 n)=sm n (fun e=>pr P k i e*(tbl P k (i+1) e*out P k n i e)):=by
  rw[zAJ k fun p hp=>zI3 P h hp,zBj]
  refine zAJ n fun e _=>?_
  unfold pr
  rw[<-zBi]
 have e2:sm k (fun p=>tbl (Pat P i (2*p+1)) k 0 n)=sm n (fun u=>pr P k u i*(tbl P k (u+1) i*out P k n u i)):=by
  rw[zAJ k fun p hp=>zGk P h hp,zBj]
  refine zAJ n fun u _=>?_
  unfold pr
  rw[<-zBi]
 rw[e1,e2];omega
theorem zNi{P:Nat->Nat->Int}(h0:∀i b,0<=P i b)(i b x y:Nat):0<=Pat P i b x y:=by
 unfold Pat
 split
 ·exact Int.le_refl _
 ·exact h0 x y
def PairAt(k:Nat)(l:List Nat)(s e:Nat):Prop:=∃p u v w,p<k/\l=u++2*p::(v++(2*p+1)::w)/\u.length=s/\s+1+v.length=e/\Rg k v
theorem PairAt.lt{k:Nat}{l:List Nat}{s e:Nat}(h:PairAt k l s e):s<e/\e<l.length/\(e-s)%2=1:=by
 obtain⟨p,u,v,w,_,rfl,hu,he,hv⟩:=h
 have:=(zIQ v [] [] hv).2
 simp at this⊢
 omega
theorem zLZ{k:Nat}{l:List Nat}(h:Rg k l){s:Nat}(hs:s<l.length):(∃e,PairAt k l s e)\/∃u,PairAt k l u s:=by
 obtain⟨st,h1,h2⟩:=zDM h s
 have hd:=List.drop_eq_getElem_cons hs
 have hl:l=l.take s++l.drop s:=(List.take_append_drop s l).symm
 have htl:(l.take s).length=s:=by rw[List.length_take];omega
 generalize l[s]=b at*
 rw[hd,zAk]at h2
 cases en:nx k st b with
 |none=>rw[en]at h2;cases h2
 |some s1=>
  rw[en]at h2
  have h2:go k s1 (l.drop (s+1))=some []:=h2
  obtain⟨hb,⟨e1,e2⟩|⟨e1,e2⟩⟩:=zAu en
  ·subst e2
   obtain⟨v,w0,ew,hv,z⟩:=zEP _ _ h2
   rcases z with⟨z,_⟩|⟨o,r,w',ez,ew0,hg⟩
   ·cases z
   ·cases ez
    refine .inl ⟨s+1+v.length,b/2,l.take s,v,w',by omega,?_,htl,rfl,hv⟩
    rw[show 2*(b/2)=b by omega]at ew0⊢
    rw[hd,ew,ew0]at hl
    exact hl
  ·subst e2
   obtain⟨u0,v,eu,g0,hv,ho⟩:=zKW _ _ _ h1
   refine .inr ⟨u0.length,b/2,u0,v,l.drop (s+1),ho,?_,rfl,?_,hv⟩
   ·rw[hd,eu]at hl
    rw[show 2*(b/2)+1=b by omega]
    simpa using hl
   ·rw[eu]at htl
    simp at htl
    omega
theorem zLa{k:Nat}{u v w:List Nat}{p:Nat}(hp:p<k)(hv:Rg k v)(h:Rg k (u++2*p::(v++(2*p+1)::w))):∃st,go k [] u=some st/\go k st w=some []:=by
 unfold Rg at h
 rw[zAy]at h
 cases e:go k [] u with
 |none=>rw[e]at h;cases h
 |some st=>
  rw[e]at h
  have h:go k st (2*p::(v++(2*p+1)::w))=some []:=h
  rw[zBw _ _ hp,zAy,zEO hv (p::st)]at h
  have h:go k (p::st) ((2*p+1)::w)=some []:=h
  rw[zBV _ _ hp]at h
  exact⟨st,rfl,h⟩
theorem zGK{P:Nat->Nat->Int}(h0:∀i b,0<=P i b){k n:Nat}(s e:Nat):0<=rst P k n s e:=Int.mul_nonneg (zCm h0 _ _) (zCZ h0 _ _)
theorem zGY{P:Nat->Nat->Int}{k n:Nat}(h0:∀i b,0<=P i b){l:List Nat}(hl:l.length=n)(hr:Rg k l)(hf:Fits P 0 l){s e:Nat}(h:PairAt k l s e):0<pr P k s e*rst P k n s e:=by
 obtain⟨p,u,v,w,hp,rfl,hu,he,hv⟩:=h
 obtain⟨st,g1,g2⟩:=zLa hp hv hr
 obtain⟨v2,w0,rfl,hr2,c2⟩:=zEP w st g2
 rw[zA9,fit_cons,zA9,fit_cons,zA9,Nat.zero_add,hu,he]at hf
 obtain⟨f1,f2,f3,f4,f5,f6⟩:=hf
 simp only[List.length_append,List.length_cons]at hl
 rw[zAa (zDA h0 _ _) (zGK h0 _ _)]
 unfold rst
 rw[zAa (zCm h0 _ _) (zCZ h0 _ _)]
 refine⟨(zGR h0 _ _).mpr ⟨p,hp,f2,f4⟩,(zB7 h0 (by omega)).mpr ⟨v,by omega,hv,f3⟩,(zEG h0 _ _).mpr ⟨e+1+v2.length,by omega,(zKh h0 _ _ (by omega) (by omega)).mpr ⟨u,w0,st,hu,by omega,f1,f6,g1,?_⟩,(zB7 h0 (by omega)).mpr ⟨v2,by omega,hr2,f5⟩⟩⟩
 rcases c2 with⟨rfl,rfl⟩|⟨o,r,w',rfl,rfl,hg⟩
 ·exact .inl ⟨rfl,by simp at hl;omega⟩
 ·exact .inr ⟨o,r,w',rfl,rfl,hg⟩
theorem zEl{P:Nat->Nat->Int}{k n:Nat}(h0:∀i b,0<=P i b){s e:Nat}(hs:s<n)(he:e<n)(h:pr P k s e*rst P k n s e=tbl P k 0 n){l:List Nat}(hl:l.length=n)(hr:Rg k l)(hf:Fits P 0 l):PairAt k l s e:=by
 have hw:tbl P k 0 n=sm n (fun u=>pr P k u s*rst P k n u s)+sm n (fun e=>pr P k s e*rst P k n s e):=zBs (k:=k) P hs
 have nn:∀x y,0<=pr P k x y*rst P k n x y:=fun x y=>Int.mul_nonneg (zDA h0 _ _) (zGK h0 _ _)
 have g0:=zAT (f:=fun u=>pr P k u s*rst P k n u s) n fun u _=>nn u s
 have g1:=zJF (f:=fun e=>pr P k s e*rst P k n s e) he (fun j _=>nn s j)
 rcases zLZ hr (s:=s) (by omega)with⟨e',hp⟩|⟨u,hp⟩
 ·have hpos:=zGY h0 hl hr hf hp
  by_cases ee:e'=e
  ·subst ee;exact hp
  ·exfalso
   have he':=hp.lt
   have:=zKA (f:=fun e=>pr P k s e*rst P k n s e) he (show e'<n by omega) (fun z=>ee z.symm) (fun j _=>nn s j)
   try simp only at this
   omega
 ·exfalso
  have hpos:=zGY h0 hl hr hf hp
  have hu:=hp.lt
  have:=zJF (f:=fun u=>pr P k u s*rst P k n u s) (show u<n by omega) (fun j _=>nn j s)
  try simp only at this
  omega
theorem zEs:∀b,b<8->sg (brs.getD b 0)=if b%2=0 then 1 else -1:=by decide
theorem zLp{k:Nat}(hk:k<=4):∀ {l st s:List Nat},go k st l=some s->hg (brt l)=(s.length:Int)-st.length
 |[],st,s,h=>by rw[zAl]at h;cases h;show(0:Int)=_;omega
 |b::l,st,s,h=>by
  rw[zAk]at h
  obtain⟨s1,h1,h2⟩:=Option.bind_eq_some_iff.mp h
  have ih:=zLp hk h2
  show sg (brs.getD b 0)+hg (brt l)=_
  obtain⟨hb,⟨e1,rfl⟩|⟨e1,rfl⟩⟩:=zAu h1
  ·rw[zEs b (by omega),if_pos e1,ih,List.length_cons];omega
  ·rw[zEs b (by omega),if_neg (by omega),ih,List.length_cons];omega
theorem zEd(l:List Nat):(brt l).length=l.length:=by unfold brt;rw[List.length_map]
theorem zEe(a b:List Nat):brt (a++b)=brt a++brt b:=by unfold brt;rw[List.map_append]
theorem zIM(a b:List Nat):ht (brt (a++b)) a.length=hg (brt a):=by
 unfold ht
 rw[zEe,List.take_left' (zEd a)]
theorem PairAt.pr{k:Nat}(hk:k<=4){l:List Nat}{s e:Nat}(h:PairAt k l s e):Pr (brt l) s e:=by
 have hlt:=h.lt
 obtain⟨p,u,v,w,hp,rfl,hu,he,hv⟩:=h
 have h0:ht (brt (u++2*p::(v++(2*p+1)::w))) s=hg (brt u):=by rw[<-hu];exact zIM _ _
 have key:∀j,j<=v.length->ht (brt (u++2*p::(v++(2*p+1)::w))) (s+1+j)=hg (brt u)+1+hg (brt (v.take j)):=fun j hj=>by
  have e1:u++2*p::(v++(2*p+1)::w)=(u++2*p::v.take j)++(v.drop j++(2*p+1)::w):=by
   have e0:v.take j++(v.drop j++(2*p+1)::w)=v++(2*p+1)::w:=by rw[<-List.append_assoc,List.take_append_drop]
   rw[List.append_assoc,List.cons_append,e0]
  have e2:(u++2*p::v.take j).length=s+1+j:=by rw[List.length_append,List.length_cons,List.length_take];omega
  rw[e1,<-e2,zIM,zEe,zCP]
  show _+(sg (brs.getD (2*p) 0)+hg (brt (v.take j)))=_
  rw[zEs (2*p) (by omega),if_pos (by omega)];omega
 refine⟨hlt.1,by rw[zEd];exact hlt.2.1,?_,fun m h1 h2=>?_⟩
 ·have e1:u++2*p::(v++(2*p+1)::w)=(u++2*p::(v++[2*p+1]))++w:=by simp
  have e2:(u++2*p::(v++[2*p+1])).length=e+1:=by simp;omega
  rw[h0,e1,<-e2,zIM,zEe,zCP]
  show _+(sg (brs.getD (2*p) 0)+hg (brt (v++[2*p+1])))=_
  rw[zEe,zCP]
  have e3:hg (brt v)=0:=by have:=zLp hk hv;simpa using this
  have e4:hg (brt [2*p+1])= -1:=by
   show sg (brs.getD (2*p+1) 0)+0= -1
   rw[zEs (2*p+1) (by omega),if_neg (by omega)];rfl
  rw[e3,e4,zEs (2*p) (by omega),if_pos (by omega)];omega
 ·have:=key (m-(s+1)) (by omega)
  rw[show s+1+(m-(s+1))=m by omega]at this
  rw[h0,this]
  obtain⟨st,g1,_⟩:=zDM hv (m-(s+1))
  have:=zLp hk g1
  simp at this
  omega
section
variable{P P':Nat->Nat->Int}{k n n' i d:Nat}
end
end BrI
namespace L2
open PySem PySem.Spec PyProof.Rows
section
variable{X:Cx}
def rLenD:List V->Hp->VK->Prop:=fun xs H Q=>∃ (d:Addr) (kvs:List (Key×V)),xs=[.ref d]/\Rd H d (.dK kvs)/\Q (.int kvs.length) H
theorem zIz:CallR X (.builtin "len") rLenD:=by
 intro pins s σ H xs us Q I r ⟨d,kvs,e,hD,q⟩
 subst e
 obtain⟨u,rfl,ru⟩:=vals1 r
 cases ru
 obtain⟨z,hd,vs,rel,dd⟩:=zIf I.hok hD
 have hl:=rel.length
 have hs:sizeLine=16777216:=sizeLine_eq
 refine call_len_dict hd dd (by omega) ⟨.int kvs.length,H,I.tok _,⟨_,by rw[hl]⟩,q⟩
variable{e:Expr}{te:TE}{ap cp sp pos:Pos}
end
section
variable{X:Cx}
def DatOk(d:PyData):Prop:=d.canLay0=true/\d.depth<=150
theorem Room.deep{k:Nat}{A:Around}(hr:Room k A){d e:PyData}(h:d.depth<=150):A.units+min d.depth e.depth<cLine:=by
 have h1:=hr.un
 have h2:min d.depth e.depth<=d.depth:=Nat.min_le_left _ _
 omega
def rInDat(f:Bool->Bool):R2:=fun x y H Q=>∃ (dx:PyData) (ds:List PyData) (p q:Addr),Sd p H x dx/\Sd q H y (.list ds)/\DatOk dx/\PyData.canLayAll0 ds=true/\Q (.bl (f (ds.any fun d=>PyData.eqv d dx))) H
theorem Room.deep1{k:Nat}{A:Around}(hr:Room k A){n:Nat}{d:PyData}(h:d.depth<=150):A.units+1+min n d.depth<cLine:=by
 have h1:=hr.un
 have h2:min n d.depth<=d.depth:=Nat.min_le_right _ _
 omega
theorem zJc{k:Nat}(hr:Room k X.A):OpR X (compareOp .In) (rInDat id):=by
 intro pins s σ H x y v u Q I rx ry ⟨dx,ds,p,q,h1,h2,o1,o2,h⟩
 obtain⟨as,r1,_⟩:=h1.reads I rx
 obtain⟨bs,r2,_⟩:=h2.reads I ry
 exact SeqAt.in_list_reads r2 r1 o2 o1.1 (hr.deep1 o1.2) ⟨.bl _,H,I,rfl,h⟩
end
end L2
namespace BrI
open BrM BrC BrS BrB
theorem zGw{k:Nat}(hk:k<=4){a:List Nat}{i b:Nat}(hi:i<a.length)(hb:b<2*k):P1 k a i b=if okc (a.getD i 0) b=true then 1 else 0:=by
 have h1:(ones k).length=2*k:=List.length_replicate
 have h2:=zNj (ws:=ones k) (a:=a) (i:=i) (b:=b) hi (by rw[h1];omega) (by rw[h1];exact hb)
 have h3:(ones k).getD b 0=1:=by rw[List.getD_eq_getElem?_getD,List.getElem?_replicate,if_pos hb];rfl
 rw[h3]at h2
 rw[show P1 k a i b=_ from h2]
 unfold okc
 by_cases e1:a.getD i 0=63
 ·rw[if_pos e1,if_pos (decide_eq_true (.inl e1))]
 ·rw[if_neg e1]
  by_cases e2:a.getD i 0=brs.getD b 0
  ·rw[if_pos e2,if_pos (decide_eq_true (.inr e2))]
  ·rw[if_neg e2,if_neg (fun z=>(of_decide_eq_true z).elim e1 e2)]
theorem zHy{k:Nat}(hk:k<=4)(a:List Nat):∀i b,0<=P1 k a i b:=fun i b=>(zAn (fun l hl=>(zAj hk l hl).2) i b).1
theorem zBY{l:List Nat}{i:Nat}(h:i<l.length):l.getD i 0∈l:=by rw[List.getD_eq_getElem?_getD,List.getElem?_eq_getElem h];exact List.getElem_mem h
theorem zIX{k:Nat}(hk:k<=4){a l:List Nat}(hl:l.length=a.length)(hb:∀b∈l,b<2*k):Fits (P1 k a) 0 l↔Mt a l:=by
 constructor
 ·intro h i hi
  have:=h i hi
  rw[Nat.zero_add,zGw hk (by omega) (hb _ (zBY hi))]at this
  apply Classical.byContradiction
  intro z
  rw[if_neg z]at this
  omega
 ·intro h i hi
  rw[Nat.zero_add,zGw hk (by omega) (hb _ (zBY hi)),if_pos (h i hi)]
  decide
theorem zCJ{k:Nat}(hk:k<=4){a l:List Nat}:l∈ress k a↔l.length=a.length/\Rg k l/\Fits (P1 k a) 0 l:=by
 rw[mem_ress]
 constructor
 ·rintro⟨h1,h2,h3⟩
  exact⟨h2,h1,(zIX hk h2 (zDN l [] [] h1)).mpr h3⟩
 ·rintro⟨h2,h1,h3⟩
  exact⟨h1,h2,(zIX hk h2 (zDN l [] [] h1)).mp h3⟩
theorem zLs{k:Nat}(hk:k<=4){a:List Nat}:∀ {bs:List Nat} {i:Nat} {st:List Nat},i+bs.length=a.length->go k st bs=some []->Fits (P1 k a) i bs->Fi k a i st bs
 |[],i,st,hl,h,_=>by
  rw[zAl]at h
  cases h
  exact⟨hl,rfl⟩
 |b::bs,i,st,hl,h,hf=>by
  rw[List.length_cons]at hl
  rw[zAk]at h
  obtain⟨s1,h1,h2⟩:=Option.bind_eq_some_iff.mp h
  obtain⟨f1,f2⟩:=fit_cons.mp hf
  have hP:pa_ k a i b=1:=by
   rcases zLb (k:=k) (a:=a) hk (i:=i) (b:=b) (by omega)with z|z
   ·have f1:0<pa_ k a i b:=f1
    omega
   ·exact z
  obtain⟨hb,⟨e1,rfl⟩|⟨e1,rfl⟩⟩:=zAu h1
  ·refine⟨hb,hP,fun z=>by omega,?_⟩
   unfold stb
   rw[if_pos e1]
   exact zLs hk (by omega) h2 f2
  ·refine⟨hb,hP,fun _=>⟨s1,rfl⟩,?_⟩
   unfold stb
   rw[if_neg (by omega)]
   exact zLs hk (by omega) h2 f2
theorem zLK{k:Nat}(hk:k<=4){a l:List Nat}(h:l∈ress k a):Fi k a 0 [] l:=by
 obtain⟨h1,h2,h3⟩:=(zCJ hk).mp h
 exact zLs hk (by omega) h2 h3
theorem zFU{P:Nat->Nat->Int}:∀ {l:List Nat} {s:Nat},(∀j,j<l.length->P (s+j) (l.getD j 0)=1)->wtl P s l=1
 |[],s,_=>by rw[wtl]
 |b::l,s,h=>by
  have h0:P s b=1:=h 0 (by simp)
  rw[wtl,h0,Int.one_mul]
  refine zFU fun j hj=>?_
  have:=h (j+1) (by simpa using hj)
  rw[show s+1+j=s+(j+1) by omega];exact this
theorem zDT(k:Nat)(a:List Nat):tbl (P1 k a) k 0 a.length=cnt k a:=by
 have:=zCy k a
 rwa[List.length_map]at this
theorem zKd{k:Nat}(hk:k<=4)(a:List Nat):0<=cnt k a:=by rw[<-zDT];exact zCm (zHy hk a) _ _
theorem zNf{k:Nat}(hk:k<=4)(a:List Nat)(i b:Nat):0<=atB k a i b:=zCm (zNi (zHy hk a) i b) _ _
theorem zNc{k:Nat}{a:List Nat}{i:Nat}(hi:i<a.length):sm (2*k) (atB k a i)=cnt k a:=by rw[<-zDT];exact zNe (P1 k a) hi
theorem zFb{b:Nat}:∀n,(List.range n).filter (fun x=>decide (x=b))=if b<n then [b]else []
 |0=>by simp
 |n+1=>by
  rw[List.range_succ,List.filter_append,zFb n]
  by_cases e:n=b
  ·subst e;simp
  ·by_cases c:b<n
   ·rw[if_pos c,if_pos (by omega)];simp[e]
   ·rw[if_neg c,if_neg (by omega)];simp[e]
theorem zIB{k:Nat}(hk:k<=4){a:List Nat}{i:Nat}(hi:i<a.length)(hc:cnt k a≠0):(kvB k a i (2*k)).length=1↔∃b,b<2*k/\atB k a i b=cnt k a:=by
 have hs:=zNc (k:=k) hi
 have nn:=fun b=>zNf hk a i b
 have hcn:=zKd hk a
 unfold kvB
 rw[List.length_map]
 constructor
 ·intro h
  obtain⟨b,hb⟩:=List.length_eq_one_iff.mp h
  have hm:∀x,x<2*k->(0<atB k a i x↔x=b):=fun x hx=>by
   have:x∈(List.range (2*k)).filter (fun b=>decide (0<atB k a i b))↔x=b:=by rw[hb];simp
   rw[List.mem_filter,List.mem_range,decide_eq_true_eq]at this
   exact⟨fun z=>this.mp ⟨hx,z⟩,fun z=>(this.mpr z).2⟩
  have hbm:b∈(List.range (2*k)).filter (fun b=>decide (0<atB k a i b)):=by rw[hb];simp
  have hb2:b<2*k:=List.mem_range.mp (List.mem_filter.mp hbm).1
  refine⟨b,hb2,?_⟩
  rw[<-hs]
  exact(zBq hb2 fun x hx hne=>by
   have h1:=nn x
   have h2:¬0<atB k a i x:=fun z=>hne ((hm x hx).mp z)
   omega).symm
 ·rintro⟨b,hb,e⟩
  have:(List.range (2*k)).filter (fun x=>decide (0<atB k a i x))=(List.range (2*k)).filter (fun x=>decide (x=b)):=by
   refine List.filter_congr fun x hx=>?_
   have hx:=List.mem_range.mp hx
   rw[decide_eq_decide]
   constructor
   ·intro z
    apply Classical.byContradiction
    intro ne
    have:=zKA (f:=atB k a i) hb hx (fun q=>ne q.symm) (fun x _=>nn x)
    omega
   ·rintro rfl;omega
  rw[this,zFb,if_pos hb];rfl
def duP(k:Nat)(a:List Nat)(th:Nat->Nat)(i:Nat):Option (Nat×Nat):=if i<th i/\pr (P1 k a) k i (th i)*rst (P1 k a) k a.length i (th i)=cnt k a then some (i,th i)else none
theorem zIU{α β:Type}(f:α->Option β):∀l:List α,l.filterMap f=l.flatMap fun x=>(f x).toList
 |[]=>rfl
 |x::l=>by
  rw[List.filterMap_cons,List.flatMap_cons,zIU f l]
  cases f x<;>rfl
theorem zDP{α β:Type}(p:β->Bool)(f:α->List β):∀l:List α,(l.flatMap f).filter p=l.flatMap fun x=>(f x).filter p
 |[]=>rfl
 |x::l=>by rw[List.flatMap_cons,List.flatMap_cons,List.filter_append,zDP p f l]
theorem zFA{α β:Type}{f g:α->List β}:∀ {l:List α},(∀x∈l,f x=g x)->l.flatMap f=l.flatMap g
 |[],_=>rfl
 |x::l,h=>by rw[List.flatMap_cons,List.flatMap_cons,h x List.mem_cons_self,zFA fun y hy=>h y (List.mem_cons_of_mem _ hy)]
theorem zJE{k:Nat}(hk:k<=4){a l:List Nat}(hl:l∈ress k a){th:Nat->Nat}(ht:∀i,i<a.length->Pr (brt l) i (th i)\/Pr (brt l) (th i) i):surP k a=(List.range a.length).filterMap (duP k a th):=by
 obtain⟨h1,h2,h3⟩:=(zCJ hk).mp hl
 unfold surP prs
 rw[zDP,zIU]
 refine zFA fun s hs=>?_
 have hs:=List.mem_range.mp hs
 have sure:∀e,e<a.length->pr (P1 k a) k s e*rst (P1 k a) k a.length s e=cnt k a->PairAt k l s e/\e=th s:=fun e he h=>by
  have hp:=zEl (zHy hk a) hs he (by rw[zDT];exact h) h1 h2 h3
  refine⟨hp,?_⟩
  rcases ht s hs with z|z
  ·exact zHo (hp.pr hk) z
  ·exact(zKL (hp.pr hk) z).elim
 rw[List.filter_map]
 unfold duP
 by_cases c:s<th s/\pr (P1 k a) k s (th s)*rst (P1 k a) k a.length s (th s)=cnt k a
 ·rw[if_pos c]
  have hth:th s<a.length:=by
   rcases ht s hs with z|z
   ·have:=z.2.1;rw[zEd]at this;omega
   ·have:=z.1;omega
  obtain⟨hp,_⟩:=sure _ hth c.2
  have hlt:=hp.lt
  have hq:(fun q=>decide (pr (P1 k a) k (s,s+1+2*q).1 (s,s+1+2*q).2*rst (P1 k a) k a.length (s,s+1+2*q).1 (s,s+1+2*q).2=cnt k a))=((fun x:Nat×Nat=>decide (pr (P1 k a) k x.1 x.2*rst (P1 k a) k a.length x.1 x.2=cnt k a))∘fun q=>(s,s+1+2*q)):=rfl
  have e1:(List.range ((a.length-s)/2)).filter ((fun x:Nat×Nat=>decide (pr (P1 k a) k x.1 x.2*rst (P1 k a) k a.length x.1 x.2=cnt k a))∘fun q=>(s,s+1+2*q))=(List.range ((a.length-s)/2)).filter (fun q=>decide (q=(th s-s-1)/2)):=by
   refine List.filter_congr fun q hq=>?_
   have hq:=List.mem_range.mp hq
   show decide (pr (P1 k a) k s (s+1+2*q)*rst (P1 k a) k a.length s (s+1+2*q)=cnt k a)=_
   rw[decide_eq_decide]
   constructor
   ·intro z
    have:=(sure _ (by omega) z).2
    omega
   ·intro z
    rw[show s+1+2*q=th s by omega];exact c.2
  rw[e1,zFb,if_pos (by omega),List.map_cons,List.map_nil,show s+1+2*((th s-s-1)/2)=th s by omega];rfl
 ·rw[if_neg c]
  have e1:(List.range ((a.length-s)/2)).filter ((fun x:Nat×Nat=>decide (pr (P1 k a) k x.1 x.2*rst (P1 k a) k a.length x.1 x.2=cnt k a))∘fun q=>(s,s+1+2*q))=[]:=by
   rw[List.filter_eq_nil_iff]
   intro q hq
   have hq:=List.mem_range.mp hq
   show¬decide (pr (P1 k a) k s (s+1+2*q)*rst (P1 k a) k a.length s (s+1+2*q)=cnt k a)=true
   rw[decide_eq_true_eq]
   intro z
   obtain⟨_,e⟩:=sure _ (by omega) z
   exact c ⟨by omega,by rw[<-e];exact z⟩
  rw[e1];rfl
end BrI
namespace BrS
open L2 PySem PySem.Spec PyProof.Rows BrM BrC BrB BrI BrR
theorem zJa{a:List Nat}{xs:List V}(h:IsPart a xs):∃th:Nat->Nat,∀i,i<a.length->xs[i]? =some (.int (th i:Int))/\(Pr a i (th i)\/Pr a (th i) i):=
 have h:∀i,∃p:Nat,i<a.length->xs[i]? =some (.int (p:Int))/\(Pr a i p\/Pr a p i):=fun i=>by
  by_cases c:i<a.length
  ·obtain⟨p,hp⟩:=h.2 i c
   exact⟨p,fun _=>hp⟩
  ·exact⟨0,fun z=>absurd z c⟩
 ⟨fun i=>Classical.choose (h i),fun i hi=>Classical.choose_spec (h i) hi⟩
theorem zJD{k:Nat}{a:List Nat}{i b:Nat}(h:(i,b)∈surS k a):i<a.length/\a.getD i 0=63/\b<2*k/\atB k a i b=cnt k a:=by
 unfold surS at h
 obtain⟨j,hj,e⟩:=List.mem_filterMap.mp h
 have hj:=List.mem_range.mp hj
 unfold surS1 at e
 by_cases c:a.getD j 0=63
 ·rw[if_pos c]at e
  obtain⟨b',hb,e2⟩:=Option.map_eq_some_iff.mp e
  cases e2
  obtain⟨h1,h2,_⟩:=zCQ hb
  exact⟨hj,c,h2,h1⟩
 ·rw[if_neg c]at e;cases e
theorem zGE{k:Nat}(hk:k<=4){a:List Nat}{i e:Nat}(h:(i,e)∈surP k a):i<a.length/\e<a.length/\∀l∈ress k a,PairAt k l i e:=by
 unfold surP at h
 obtain⟨h1,h2⟩:=List.mem_filter.mp h
 have hm:=zFe h1
 have h2:=of_decide_eq_true h2
 have hm1:i<e:=hm.1
 have hm2:e<a.length:=hm.2
 refine⟨by omega,hm2,fun l hl=>?_⟩
 obtain⟨g1,g2,g3⟩:=(zCJ hk).mp hl
 exact zEl (zHy hk a) (by omega) hm2 (by rw[zDT];exact h2) g1 g2 g3
theorem zHd{p:Addr}{H:Hp}:∀ {vs:List V} {ds:List PyData},vs.length=ds.length->(∀ (m:Nat) (v:V) (d:PyData),vs[m]? =some v->ds[m]? =some d->Sd p H v d)->Sds p H vs ds
 |[],[],_,_=> .nil
 |[],_::_,h,_=>by cases h
 |_::_,[],h,_=>by cases h
 |v::vs,d::ds,h,f=> .cons (f 0 v d rfl rfl) (zHd (by simpa using h) fun m v d h1 h2=>f (m+1) v d h1 h2)
def prD(L:List (Nat×Nat)):List PyData:=L.map fun x=> .tuple [.int x.1, .int x.2]
theorem Prl.sds{p:Addr}{H:Hp}{vs:List V}{L:List (Nat×Nat)}{xs:List V}(h:Prl H vs L)(hp:H p=some (.lst xs)):Sds p H vs (prD L):=by
 refine zHd (by rw[h.1];unfold prD;rw[List.length_map]) fun m v d h1 h2=>?_
 unfold prD at h2
 rw[List.getElem?_map]at h2
 obtain⟨x,hx,rfl⟩:=Option.map_eq_some_iff.mp h2
 obtain⟨T,e,g⟩:=h.2 m x hx
 rw[h1]at e
 cases e
 exact .tup g (zBr g hp fun z=>by cases z) (.cons (.sc (.int _)) (.cons (.sc (.int _)) .nil))
theorem zKM:∀L:List (Nat×Nat),PyData.canLayAll0 (prD L)=true/\PyData.depthAll (prD L)<=2
 |[]=>by simp[prD,PyData.canLayAll0,PyData.depthAll]
 |x::L=>by
  obtain⟨h1,h2⟩:=zKM L
  have e:prD (x::L)= .tuple [.int x.1, .int x.2]::prD L:=rfl
  rw[e]
  refine⟨by rw[PyData.canLayAll0,h1];simp[PyData.canLay0,PyData.canLayAll0],?_⟩
  rw[PyData.depthAll]
  refine Nat.max_le.mpr ⟨by simp[PyData.depth,PyData.depthAll],h2⟩
theorem zGD(k:Nat)(a:List Nat):(surS k a).length<=a.length:=by
 unfold surS
 have:=List.length_filterMap_le (surS1 k a) (List.range a.length)
 rwa[List.length_range]at this
end BrS
namespace BrTs
open PySem PySem.W PyProof.Rows
def Ky(r:Nat->Nat)(p:Array Nat)(i:Nat):Nat:=r (p.getD i 0)
def Pm(N:Nat)(p:Array Nat):Prop:=p.toList.Perm (List.range N)
theorem Pm.size{N:Nat}{p:Array Nat}(h:Pm N p):p.size=N:=by
 have:=h.length_eq
 simpa using this
theorem zFr{p:Array Nat}{i:Nat}(h:i<p.size):p[i]? =some (p.getD i 0):=by
 simp[Array.getD,h]
theorem Pm.lt{N:Nat}{p:Array Nat}(h:Pm N p){i:Nat}(hi:i<N):p.getD i 0<N:=by
 have hs:=h.size
 have:p.getD i 0∈p.toList:=by
  have:=zFr (p:=p) (i:=i) (by omega)
  rw[<-Array.getElem?_toList]at this
  exact List.mem_of_getElem? this
 exact List.mem_range.mp (h.mem_iff.mp this)
theorem Pm.inj{N:Nat}{p:Array Nat}(h:Pm N p){i j:Nat}(hi:i<N)(hj:j<N)(e:p.getD i 0=p.getD j 0):i=j:=by
 have hs:=h.size
 have hn:p.toList.Nodup:=h.nodup_iff.mpr List.nodup_range
 have h1:=zFr (p:=p) (i:=i) (by omega)
 have h2:=zFr (p:=p) (i:=j) (by omega)
 rw[<-Array.getElem?_toList]at h1 h2
 rw[e,<-h2]at h1
 exact(List.getElem?_inj (by simpa using(by omega:i<p.size)) hn).mp h1
theorem Pm.of_perm{N:Nat}{p q:Array Nat}(h:Pm N p)(e:q.Perm p):Pm N q:=(Array.perm_iff_toList_perm.mp e).trans h
theorem zDK{r:Nat->Nat}{p q:Array Nat}{i j:Nat}(h:p[i]? =q[j]?):Ky r p i=Ky r q j:=by
 unfold Ky
 rw[Array.getD_eq_getD_getElem?,Array.getD_eq_getD_getElem?,h]
def Asc(r:Nat->Nat)(p:Array Nat)(m:Nat):Prop:=∀i,0<i->i<m->Ky r p (i-1)<Ky r p i
theorem Asc.lt{r:Nat->Nat}{p:Array Nat}{m:Nat}(h:Asc r p m):∀ {i j:Nat},i<j->j<m->Ky r p i<Ky r p j
 |i,0,hij,_=>absurd hij (Nat.not_lt_zero _)
 |i,j+1,hij,hj=>by
  have h1:=h (j+1) (by omega) hj
  rw[Nat.add_sub_cancel]at h1
  by_cases e:i=j
  ·subst e;exact h1
  ·exact Nat.lt_trans (h.lt (i:=i) (j:=j) (by omega) (by omega)) h1
section
variable{cmp:Nat->Nat->(Bool->Shared->Prop)->Shared->Prop}{s:Shared}{N:Nat}{r:Nat->Nat}
variable(hc:∀i j C,i<N->j<N->C (decide (r i<r j)) s->cmp i j C s)(hr:∀i j,i<N->j<N->r i=r j->i=j)
include hr in
theorem zLh{p:Array Nat}(hp:Pm N p){i j:Nat}(hi:i<N)(hj:j<N)(h:i≠j):Ky r p i≠Ky r p j:=fun e=>h (hp.inj hi hj (hr _ _ (hp.lt hi) (hp.lt hj) e))
include hc in
theorem zFT{α:Type}{p:Array Nat}(hp:Pm N p){i j:Nat}(hi:i<N)(hj:j<N){k:Bool->KasT α}{Q:α->Shared->Prop}(h1:Ky r p i<Ky r p j->(k true).kasWp cmp Q s)(h2:¬Ky r p i<Ky r p j->(k false).kasWp cmp Q s):
 (KasT.ask (p.getD i 0) (p.getD j 0) k).kasWp cmp Q s:=by
 refine hc _ _ _ (hp.lt hi) (hp.lt hj) ?_
 by_cases z:r (p.getD i 0)<r (p.getD j 0)
 ·rw[decide_eq_true z];exact h1 z
 ·rw[decide_eq_false z];exact h2 z
include hc hr in
theorem zI4{p:Array Nat}(hp:Pm N p){Q:Nat->Shared->Prop}:∀ (f n:Nat),0<n->n+f<=N->(∀m,n<=m->m<=n+f->(∀i,n<=i->i<m->Ky r p (i-1)<Ky r p i)->(m=n+f\/Ky r p m<Ky r p (m-1))->Q m s)->(kas_asc p f n).kasWp cmp Q s
 |0,n,_,_,q=>q n (Nat.le_refl _) (Nat.le_refl _) (fun i h1 h2=>by omega) (.inl rfl)
 |f+1,n,h0,hN,q=>by
  unfold kas_asc
  refine zFT hc hp (by omega) (by omega) (fun z=>?_) (fun z=>?_)
  ·rw[if_pos rfl]
   exact q n (Nat.le_refl _) (by omega) (fun i h1 h2=>by omega) (.inr z)
  ·rw[if_neg Bool.false_ne_true]
   have ne:=zLh hr hp (i:=n) (j:=n-1) (by omega) (by omega) (by omega)
   refine zI4 hp f (n+1) (by omega) (by omega) fun m h1 h2 h3 h4=>q m (by omega) (by omega) (fun i g1 g2=>?_) (h4.imp (fun e=>by omega) id)
   by_cases e:i=n
   ·subst e;omega
   ·exact h3 i (by omega) g2
include hc hr in
theorem zIh{p:Array Nat}(hp:Pm N p){Q:Array Nat×Nat×Nat->Shared->Prop}:∀ (f n:Nat),0<n->n+f<=N->(∀m,n<=m->m<=n+f->(∀i,n<=i->i<m->Ky r p i<Ky r p (i-1))->Q (p,m,0) s)->(kas_desc f p n 0).kasWp cmp Q s
 |0,n,_,_,q=>q n (Nat.le_refl _) (Nat.le_refl _) (fun i h1 h2=>by omega)
 |f+1,n,h0,hN,q=>by
  unfold kas_desc
  refine zFT hc hp (by omega) (by omega) (fun z=>?_) (fun z=>?_)
  ·rw[if_pos rfl,if_neg (by omega)]
   refine zIh hp f (n+1) (by omega) (by omega) fun m h1 h2 h3=>q m (by omega) (by omega) (fun i g1 g2=>?_)
   by_cases e:i=n
   ·subst e;exact z
   ·exact h3 i (by omega) g2
  ·rw[if_neg Bool.false_ne_true]
   have ne:=zLh hr hp (i:=n) (j:=n-1) (by omega) (by omega) (by omega)
   refine zFT hc hp (by omega) (by omega) (fun _=>?_) (fun y=>absurd (by omega) y)
   rw[if_pos rfl]
   exact q n (Nat.le_refl _) (by omega) (fun i h1 h2=>by omega)
theorem zKH{p:Array Nat}{m:Nat}(hm:m<=p.size)(k:Nat):Ky r (kas_rev p 0 m) k=if k<m then Ky r p (m-1-k)else Ky r p k:=by
 have e:=getElem?_mirror_all (xs:=p) (i:=0) (j:=m) hm k
 by_cases c:k<m
 ·rw[if_pos ⟨Nat.zero_le _,c⟩,Nat.zero_add]at e
  rw[if_pos c];exact zDK e
 ·rw[if_neg fun z=>c z.2]at e
  rw[if_neg c];exact zDK e
include hc hr in
theorem zJz{p:Array Nat}(hp:Pm N p)(hN:1<=N){Q:Nat×Array Nat->Shared->Prop}(q:∀m p',1<=m->m<=N->Pm N p'->Asc r p' m->Q (m,p') s):(kas_count N p).kasWp cmp Q s:=by
 unfold kas_count
 rw[KasT.kasWp_bind]
 refine zI4 hc hr hp (N-1) 1 (by omega) (by omega) fun n h1 h2 h3 h4=>?_
 by_cases e:(n==N)=true
 ·rw[if_pos e]
  exact q n p h1 (by omega) hp (fun i g1 g2=>h3 i (by omega) g2)
 ·rw[if_neg e]
  have hn:n≠N:=by simpa using e
  have h5:Ky r p n<Ky r p (n-1):=h4.resolve_left (by omega)
  by_cases c:n>1
  ·rw[if_pos c]
   have ha:Asc r p n:=fun i g1 g2=>h3 i (by omega) g2
   refine zFT hc hp (by omega) (by omega) (fun _=>?_) (fun z=>absurd (ha.lt (by omega) (by omega)) z)
   rw[if_pos rfl]
   exact q n p h1 (by omega) hp ha
  ·rw[if_neg c]
   have h6:n=1:=by omega
   subst h6
   unfold kas_descPart
   rw[KasT.kasWp_bind]
   refine zIh hc hr hp (N-(1+1)) (1+1) (by omega) (by omega) fun m g1 g2 g3=>?_
   rw[if_neg (by show¬0>0;omega)]
   show(kas_tail3 m N p).kasWp cmp Q s
   unfold kas_tail3
   rw[KasT.kasWp_bind]
   have hp2:Pm N (kas_rev p 0 m):=hp.of_perm (mirror_perm _ _ _ _)
   have hd:∀i,0<i->i<m->Ky r p i<Ky r p (i-1):=fun i a1 a2=>by
    by_cases e1:i=1
    ·subst e1;exact h5
    ·exact g3 i (by omega) a2
   have hs:=hp.size
   have hra:Asc r (kas_rev p 0 m) m:=fun i a1 a2=>by
    rw[zKH (by omega),zKH (by omega),if_pos (by omega),if_pos a2]
    have:=hd (m-1-(i-1)) (by omega) (by omega)
    rw[show m-1-(i-1)-1=m-1-i by omega]at this
    exact this
   refine zI4 hc hr hp2 (N-m) m (by omega) (by omega) fun m2 a1 a2 a3 a4=>?_
   refine q m2 (kas_rev p 0 m) (by omega) (by omega) hp2 fun i b1 b2=>?_
   by_cases e1:i<m
   ·exact hra i b1 e1
   ·exact a3 i (by omega) b2
include hc hr in
theorem zED{p:Array Nat}(hp:Pm N p){k:Nat}(hk:k<N)(ha:Asc r p k){Q:Nat->Shared->Prop}(q:∀l,l<=k->(∀i,i<l->Ky r p i<Ky r p k)->(∀i,l<=i->i<k->Ky r p k<Ky r p i)->Q l s):∀ (f l t:Nat),l<=t->t<=k->t-l<=f->(∀i,i<l->Ky r p i<Ky r p k)->(∀i,t<=i->i<k->Ky r p k<Ky r p i)->(kas_place p k f l t).kasWp cmp Q s
 |0,l,t,h1,h2,h3,h4,h5=>by
  unfold kas_place
  exact q l (by omega) h4 fun i g1 g2=>h5 i (by omega) g2
 |f+1,l,t,h1,h2,h3,h4,h5=>by
  unfold kas_place
  by_cases c:l>=t
  ·rw[if_pos c]
   exact q l (by omega) h4 fun i g1 g2=>h5 i (by omega) g2
  ·rw[if_neg c]
   refine zFT hc hp hk (by omega) (fun z=>?_) (fun z=>?_)
   ·rw[if_pos rfl]
    refine zED hp hk ha q f l ((l+t)/2) (by omega) (by omega) (by omega) h4 fun i g1 g2=>?_
    by_cases e:i=(l+t)/2
    ·subst e;exact z
    ·exact Nat.lt_trans z (ha.lt (by omega) g2)
   ·rw[if_neg Bool.false_ne_true]
    have ne:=zLh hr hp (i:=k) (j:=(l+t)/2) hk (by omega) (by omega)
    refine zED hp hk ha q f ((l+t)/2+1) t (by omega) h2 (by omega) (fun i g1=>?_) h5
    by_cases e:i=(l+t)/2
    ·subst e;omega
    ·have:=ha.lt (i:=i) (j:=(l+t)/2) (by omega) (by omega)
     omega
include hc hr in
theorem zKe{Q:Array Nat->Shared->Prop}(q:∀p,Pm N p->Asc r p N->Q p s):∀ (f k:Nat) (p:Array Nat),k+f=N->Pm N p->Asc r p k->(kas_bin f p k).kasWp cmp Q s
 |0,k,p,h1,h2,h3=>by
  unfold kas_bin
  rw[Nat.add_zero]at h1
  subst h1
  exact q p h2 h3
 |f+1,k,p,h1,hp,h3=>by
  unfold kas_bin
  rw[KasT.kasWp_bind]
  refine zED hc hr hp (by omega) h3 (fun l g1 g2 g3=>?_) k 0 k (by omega) (by omega) (by omega) (fun i z=>by omega) (fun i z1 z2=>by omega)
  have hp2:Pm N (bubble p k (k-l)):=hp.of_perm (bubble_perm _ _ _)
  refine zKe q f (k+1) _ (by omega) hp2 fun i a1 a2=>?_
  have hs:=hp.size
  have at':∀x,Ky r (bubble p k (k-l)) x=if x=l then Ky r p k else if l<x/\x<=k then Ky r p (x-1)else Ky r p x:=fun x=>by
   have e:=getElem?_bubble (xs:=p) (src:=k) (by omega) (k-l) (by omega) x
   rw[show k-(k-l)=l by omega]at e
   by_cases c1:x=l
   ·rw[if_pos c1]at e⊢;exact zDK e
   ·rw[if_neg c1]at e⊢
    by_cases c2:l<x/\x<=k
    ·rw[if_pos c2]at e⊢;exact zDK e
    ·rw[if_neg c2]at e⊢;exact zDK e
  rw[at',at']
  by_cases c1:i=l
  ·rw[if_pos c1,if_neg (by omega),if_neg (by omega)]
   exact g2 _ (by omega)
  ·rw[if_neg c1]
   by_cases c2:i-1=l
   ·rw[if_pos c2,if_pos (by omega)]
    exact g3 _ (by omega) (by omega)
   ·rw[if_neg c2]
    by_cases c3:l<i/\i<=k
    ·rw[if_pos c3,if_pos (by omega)]
     exact h3 (i-1) (by omega) (by omega)
    ·rw[if_neg c3,if_neg (by omega)]
     exact h3 i a1 (by omega)
include hc hr in
theorem zKp(hN:1<=N){Q:Array Nat->Shared->Prop}(q:∀p,Pm N p->Asc r p N->Q p s):(kas_sort N).kasWp cmp Q s:=by
 unfold kas_sort
 rw[KasT.kasWp_bind]
 have hp:Pm N (List.toArray (List.range N)):=by
  unfold Pm
  exact List.Perm.refl _
 refine zJz hc hr hp hN fun m p' h1 h2 h3 h4=>?_
 by_cases c:m<N
 ·rw[if_pos c]
  exact zKe hc hr q (N-max m 1) (max m 1) p' (by omega) h3 (by rw[Nat.max_eq_left h1];exact h4)
 ·rw[if_neg c]
  have:m=N:=by omega
  subst this
  exact q p' h3 h4
end
def KF(t:Bool)(c:Nat)(f:Value):Prop:=if t=true then∃u:Tok,f= .int (c:Int) u else∃u:Tok,f= .str ⟨#[c]⟩ u
def HT(t:Bool)(h:Heap)(v:Value)(x:Nat×Int):Prop:=∃ (a:Addr) (o:Obj) (n:Nat) (f g:Value),v= .ref a/\h.get? a=some o/\o.cls= .type "tuple"/\o.data= .seq #[f,g] n/\KF t x.1 f/\∃u:Tok,g= .int x.2 u
def HTs(t:Bool)(h:Heap)(vs:List Value)(L:List (Nat×Int)):Prop:=vs.length=L.length/\∀ (i:Nat) (x:Nat×Int),L[i]? =some x->∃v,vs[i]? =some v/\HT t h v x
theorem HT.keep{t:Bool}{h h':Heap}{v:Value}{x:Nat×Int}(z:HT t h v x)(k:∀b o,o.cls= .type "tuple"->h.get? b=some o->h'.get? b=some o):HT t h' v x:=by
 obtain⟨a,o,n,f,g,e,ho,hc,r⟩:=z
 exact⟨a,o,n,f,g,e,k _ _ hc ho,hc,r⟩
theorem HTs.keep{t:Bool}{h h':Heap}{vs:List Value}{L:List (Nat×Int)}(z:HTs t h vs L)(k:∀b o,o.cls= .type "tuple"->h.get? b=some o->h'.get? b=some o):HTs t h' vs L:=
 ⟨z.1,fun i x hx=>let⟨v,e,g⟩:=z.2 i x hx;⟨v,e,g.keep k⟩⟩
section
variable{prog:Program}{w:World}{A:Around}{E:Value->Shared->Prop}{s:Shared}{t:Bool}
theorem zOM{c d:Nat}{f g:Value}(h1:KF t c f)(h2:KF t d g):SeqAt.EqAt A s f g (decide (c=d)):=by
 unfold KF at h1 h2
 cases t with
 |true=>
  rw[if_pos rfl]at h1 h2
  obtain⟨u,rfl⟩:=h1
  obtain⟨v,rfl⟩:=h2
  have:=SeqAt.EqAt.int_int (A:=A) (s:=s) (c:Int) u (d:Int) v
  rwa[show((c:Int)==(d:Int))=decide (c=d)from by rw[Bool.eq_iff_iff,beq_iff_eq,decide_eq_true_eq];omega]at this
 |false=>
  rw[if_neg Bool.false_ne_true]at h1 h2
  obtain⟨u,rfl⟩:=h1
  obtain⟨v,rfl⟩:=h2
  have:=SeqAt.EqAt.str_str (A:=A) (s:=s) (⟨#[c]⟩:Str) u (⟨#[d]⟩:Str) v
  have e:((⟨#[c]⟩:Str)==⟨#[d]⟩)=decide (c=d):=by
   rw[Bool.eq_iff_iff,beq_iff_eq,decide_eq_true_eq]
   constructor
   ·intro z
    have:=congrArg (fun x:Str=>x.cps.toList) z
    simpa using this
   ·rintro rfl;rfl
  rwa[e]at this
theorem zOL{c d:Nat}{f g:Value}{C:Bool->Shared->Prop}(h1:KF t c f)(h2:KF t d g)(q:C (decide (c<d)) s):wpAny (model prog w) A (oneLt' true f g) C E s:=by
 unfold KF at h1 h2
 cases t with
 |true=>
  rw[if_pos rfl]at h1 h2
  obtain⟨u,rfl⟩:=h1
  obtain⟨v,rfl⟩:=h2
  refine oneLt_int ?_
  rwa[show decide ((c:Int)<(d:Int))=decide (c<d)from by rw[decide_eq_decide];omega]
 |false=>
  rw[if_neg Bool.false_ne_true]at h1 h2
  obtain⟨u,rfl⟩:=h1
  obtain⟨v,rfl⟩:=h2
  refine oneLt_str ?_
  have e:decide ((⟨#[c]⟩:Str).cps.toList<(⟨#[d]⟩:Str).cps.toList)=decide (c<d):=by
   rw[decide_eq_decide]
   show [c]<[d]↔c<d
   rw[List.cons_lt_cons_iff]
   constructor
   ·rintro(z|⟨_,z⟩)
    ·exact z
    ·exact absurd z (List.lt_irrefl _)
   ·exact .inl
  rwa[e]
theorem zL3{v v':Value}{x y:Nat×Int}{C:Bool->Shared->Prop}(h1:HT t s.heap v x)(h2:HT t s.heap v' y)(hd:x.1=y.1->x.2=y.2)(q:C (decide (x.1<y.1)) s):wpAny (model prog w) A (keyLt' (tuples' true) v v') C E s:=by
 obtain⟨a,o,n,f,g,rfl,ho,_,hdt,kf,u,rfl⟩:=h1
 obtain⟨a',o',n',f',g',rfl,ho',_,hdt',kf',u',rfl⟩:=h2
 refine kat_lt ho hdt ho' hdt' ?_
 refine kat_cons (zOM kf kf' prog w _ _ ?_)
 refine kat_go (fun e=>kat_yes ?_) (fun e=>kat_no (zOL kf kf' q))
 have e:=of_decide_eq_true e
 refine kat_cons (SeqAt.EqAt.int_int x.2 u y.2 u' prog w _ _ ?_)
 rw[hd e,show(y.2==y.2)=true from by simp]
 refine kat_yes (kat_nil ?_)
 rw[e,decide_eq_false (Nat.lt_irrefl _)]at q
 exact q
theorem zFB{h:Heap}:∀ {vs:List Value} {L:List (Nat×Int)},HTs t h vs L->∃fs,KatTups h vs fs/\fs.length=vs.length/\∀f∈fs,∃c,KF t c f
 |[],[],_=>⟨[],KatTups.nil,rfl,fun _ z=>nomatch z⟩
 |[],_::_,z=>by have:=z.1;cases this
 |_::_,[],z=>by have:=z.1;cases this
 |v::vs,x::L,z=>by
  obtain⟨fs,a1,a2,a3⟩:=zFB (vs:=vs) (L:=L) ⟨by have:=z.1;simpa using this,fun i y hy=>z.2 (i+1) y hy⟩
  obtain⟨v',e,a,o,n,f,g,rfl,ho,hc,hd,kf,_⟩:=z.2 0 x rfl
  cases e
  exact⟨f::fs,KatTups.cons ho hc hd rfl a1,by simp[a2],fun y hy=>(List.mem_cons.mp hy).elim (fun q=>⟨_,q▸kf⟩) (a3 y)⟩
theorem zLk{vs:List Value}{L:List (Nat×Int)}{Q:SortKind->Shared->Prop}(z:HTs t s.heap vs L)(h0:0<L.length)(q:Q (tuples' true) s):wpAny (model prog w) A (keyKind' vs.toArray) Q E s:=by
 obtain⟨fs,a1,a2,a3⟩:=zFB z
 have hl:=z.1
 cases t with
 |true=>
  refine kat_kind (T:= .type "int") a1 (by omega) (fun f hf=>?_) (by decide) (by rw[show(Value.type "int" !=Value.type "tuple")=true from by decide];exact q)
  obtain⟨c,u,rfl⟩:=a3 f hf
  exact Looks.of_pure rfl
 |false=>
  refine kat_kind (T:= .type "str") a1 (by omega) (fun f hf=>?_) (by decide) (by rw[show(Value.type "str" !=Value.type "tuple")=true from by decide];exact q)
  obtain⟨c,u,rfl⟩:=a3 f hf
  exact Looks.of_pure rfl
def rk(L:List (Nat×Int))(i:Nat):Nat:=(L.getD i (0,0)).1
theorem zKG{L:List (Nat×Int)}(h:(L.map (·.1)).Nodup){i j:Nat}(hi:i<L.length)(hj:j<L.length)(e:rk L i=rk L j):i=j:=by
 unfold rk at e
 rw[List.getD_eq_getElem?_getD,List.getD_eq_getElem?_getD,List.getElem?_eq_getElem hi,List.getElem?_eq_getElem hj]at e
 have h1:(L.map (·.1))[i]? =some L[i].1:=by rw[List.getElem?_map,List.getElem?_eq_getElem hi];rfl
 have h2:(L.map (·.1))[j]? =some L[j].1:=by rw[List.getElem?_map,List.getElem?_eq_getElem hj];rfl
 have e:L[i].1=L[j].1:=e
 rw[e,<-h2]at h1
 exact(List.getElem?_inj (by rw[List.length_map];exact hi) h).mp h1
theorem zLJ(vs:List Value):((List.range vs.length).map fun i=>vs.getD i Value.none)=vs:=by
 apply List.ext_getElem?
 intro i
 rw[List.getElem?_map]
 by_cases h:i<vs.length
 ·rw[List.getElem?_range h,List.getElem?_eq_getElem h]
  show some (vs.getD i Value.none)=_
  rw[List.getD_eq_getElem?_getD,List.getElem?_eq_getElem h];rfl
 ·rw[List.getElem?_eq_none (by simpa using h),List.getElem?_eq_none (by omega)];rfl
theorem zHY{a:Addr}{vs:List Value}{n:Nat}{L:List (Nat×Int)}{P:PySem.Fin->Shared->Prop}(ho:s.heap.get? a=some (seqObj "list" vs.toArray n))(hT:HTs t s.heap vs L)(hn:(L.map (·.1)).Nodup)(h64:L.length<64)
 (q:∀p,Pm L.length p->Asc (rk L) p L.length->P (.done (.ret .none)) {s with heap:=sortedHeap s.heap a vs (List.toArray (p.toList.map fun i=>vs.getD i Value.none))}):wpAny (model prog w) A (Builtin.«list.sort» ⟨[.ref a],[]⟩) P E s:=by
 have hl:=hT.1
 have ha:a<s.heap.objs.size:=Heap.lt_size ho
 obtain⟨e1,ho1⟩:∃e1,(s.heap.update a (Obj.mapSeq fun _=>(#[]:Array Value))).get? a=some (seqObj "list" #[] e1):=⟨_,get?_update_seq ho fun _=> #[]⟩
 have ho6:(((s.heap.update a (Obj.mapSeq fun _=>(#[]:Array Value))).push (seqObj "tuple" vs.toArray 0)).push (seqObj "list" #[] 0)).get? a=some (seqObj "list" #[] e1):=Heap.get?_push_of_some _ (Heap.get?_push_of_some _ ho1)
 have hT6:HTs t (((s.heap.update a (Obj.mapSeq fun _=>(#[]:Array Value))).push (seqObj "tuple" vs.toArray 0)).push (seqObj "list" #[] 0)) vs L:=hT.keep fun b o hc e=>by
  have nb:b≠a:=fun z=>by rw[z,ho]at e;cases e;exact absurd hc (by unfold seqObj;simp)
  exact Heap.get?_push_of_some _ (Heap.get?_push_of_some _ ((Heap.get?_update_other _ _ (Ne.symm nb)).trans e))
 rw[list_sort_plain]
 refine wpAny_bind (listItems_at ho rfl (wpAny_bind (listUpdate_at ho rfl ?_ (by rw[List.size_toArray,sizeLine_eq];omega) (Nat.zero_le _))))
 refine wpAny_bind (seqEpoch_at ho1 rfl (wpAny_bind (wpAny_newTuple ?_ (by show vs.length<=_;rw[sizeLine_eq];omega))))
 refine wpAny_bind (wpAny_newList (wpAny_holding ?_) (Nat.zero_le _))
 show wpAny (model prog w) A _ P E {s with heap:=((s.heap.update a (Obj.mapSeq fun _=>(#[]:Array Value))).push (seqObj "tuple" vs.toArray 0)).push (seqObj "list" #[] 0)}
 have fin:=q
 unfold sortedHeap at fin
 generalize hG:((s.heap.update a (Obj.mapSeq fun _=>(#[]:Array Value))).push (seqObj "tuple" vs.toArray 0)).push (seqObj "list" #[] 0)=h6 at ho6 hT6 fin⊢
 dsimp only
 by_cases c:vs.toArray.size<2
 ·have c':vs.length<2:=by simpa using c
  rw[if_pos c,if_pos c]
  refine wpAny_bind (wpAny_pure ?_)
  rw[StateT.run_pure]
  refine wpAny_bind (wpAny_pure ?_)
  dsimp only
  refine wpAny_bind (seqEpoch_at ho6 rfl ?_)
  have hz:(arrOf (SortSt.mk' general' (vs.toArray.zip vs.toArray) #[] 7 none)).map (·.2)=vs.toArray:=by
   show(vs.toArray.zip vs.toArray).map (·.2)=vs.toArray
   apply Array.toList_inj.mp
   simp
   exact List.map_snd_zip (Nat.le_refl _)
  rw[hz]
  refine wpAny_bind (listUpdate_at ho6 rfl ?_ (Nat.zero_le _) (by show vs.toArray.size<=_;rw[List.size_toArray,sizeLine_eq];omega))
  simp only[bne_self_eq_false,Bool.false_eq_true,if_false]
  have:=fin (List.toArray (List.range L.length)) (List.Perm.refl _) (fun i b1 b2=>by omega)
  rw[List.toList_toArray,<-hl,zLJ]at this
  exact wpAny_pure this
 ·have c':¬vs.length<2:=by simpa using c
  rw[if_neg c,if_neg c]
  refine wpAny_bind (zLk (s:={s with heap:=h6}) hT6 (by omega) ?_)
  have hkk:(kas_sort vs.length).kasWp (kas_ask prog w A (tuples' true) vs) (fun p s''=>s''={s with heap:=h6}/\Pm L.length p/\Asc (rk L) p L.length) {s with heap:=h6}:=by
   rw[hl]
   refine zKp (r:=rk L) (fun i j C hi hj hC=>?_) (fun i j hi hj e=>zKG hn hi hj e) (by omega) fun p h1 h2=>⟨rfl,h1,h2⟩
   have at':∀i,i<L.length->HT t h6 (vs.getD i Value.none) (L.getD i (0,0)):=fun i hi=>by
    obtain⟨v,e,g⟩:=hT6.2 i _ (List.getElem?_eq_getElem hi)
    rw[List.getD_eq_getElem?_getD,e,List.getD_eq_getElem?_getD,List.getElem?_eq_getElem hi]
    exact g
   exact zL3 (at' i hi) (at' j hj) (fun e=>by rw[zKG hn hi hj e]) hC
  refine wpAny_bind (wpAny_mono (kat_run (Q:=fun st' s'=>∃p:Array Nat,p.size=vs.length/\arrOf st'=p.map (kas_item (vs.toArray.zip vs.toArray))/\failedOf st'=none/\s'={s with heap:=h6}/\Pm L.length p/\Asc (rk L) p L.length)
   rfl (by omega) (by omega) (fun p' st' s' a1 a2 a3 a4=>⟨p',a1,a2,a3,a4⟩) hkk) ?_ fun _ _ e=>e)
  rintro⟨⟨⟩,st'⟩ s' ⟨p,hp,har,hf,rfl,hpm,hasc⟩
  dsimp only
  rw[kat_snds rfl har]
  have hsz:(List.toArray (p.toList.map fun i=>vs.getD i Value.none)).size=vs.length:=by rw[List.size_toArray,List.length_map,Array.length_toList,hp]
  refine wpAny_bind (seqEpoch_at ho6 rfl ?_)
  refine wpAny_bind (listUpdate_at ho6 rfl ?_ (Nat.zero_le _) (Nat.le_trans (Nat.le_of_eq hsz) (by rw[sizeLine_eq];omega)))
  rw[hf]
  simp only[bne_self_eq_false,Bool.false_eq_true,if_false]
  exact wpAny_pure (fin p hpm hasc)
theorem zC1{l:Addr}{vs:List Value}{L:List (Nat×Int)}{Q:Value->Shared->Prop}(hl:s.heap.IsList l vs.toArray)(hT:HTs t s.heap vs L)(hn:(L.map (·.1)).Nodup)(h64:L.length<64)
 (q:∀ (h':Heap) (D e:Nat) (p:Array Nat),Pm L.length p->Asc (rk L) p L.length->s.heap.objs.size<=D->(∀b o,s.heap.get? b=some o->h'.get? b=some o)->h'.get? D=some (seqObj "list" (List.toArray (p.toList.map fun i=>vs.getD i Value.none)) e)->Q (.ref D) {s with heap:=h'}):wpAny (model prog w) A (call (.builtin "sorted") [.ref l]) Q E s:=by
 have hvl:=hT.1
 refine Calls.call_function_entry kind_sorted plain_sorted entry_sorted (args_sorted1 _) ?_
 unfold Builtin.«sorted»
 refine wpAny_bind (m:=checkCount "sorted" 1 1 _) (wpAny_pure ?_)
 refine wpAny_bind (collect_list hl (wpAny_bind (wpAny_newList ?_ (by rw[sizeLine_eq];omega))) (by rw[sizeLine_eq];omega))
 have k1:∀b o,s.heap.get? b=some o->((s.heap.push (seqObj "list" #[] 0)).update s.heap.objs.size (Obj.mapSeq (· ++vs.toArray))).get? b=some o:=fun b o z=>
  (Heap.get?_update_other _ _ (fun e=>absurd (Heap.lt_size z) (by rw[<-e];exact Nat.lt_irrefl _))).trans (Heap.get?_push_of_some _ z)
 have hz:s.heap.objs.size<=((s.heap.push (seqObj "list" #[] 0)).update s.heap.objs.size (Obj.mapSeq (· ++vs.toArray))).objs.size:=by
  rw[Heap.size_update,size_push'];exact Nat.le_succ _
 generalize hH:(s.heap.push (seqObj "list" #[] 0)).update s.heap.objs.size (Obj.mapSeq (· ++vs.toArray))=h1 at k1 hz⊢
 have gL:(h1.push (seqObj "list" vs.toArray 0)).get? h1.objs.size=some (seqObj "list" vs.toArray 0):=Heap.get?_push_size _ rfl
 have k2:∀b o,s.heap.get? b=some o->(h1.push (seqObj "list" vs.toArray 0)).get? b=some o:=fun b o z=>Heap.get?_push_of_some _ (k1 b o z)
 refine wpAny_bind (wpAny_holding (wpAny_call_entry slot_list_sort ⟨_,gL,rfl⟩ entry_list_sort (zHY (s:={s with heap:=h1.push (seqObj "list" vs.toArray 0)}) gL (hT.keep fun b o _ z=>k2 b o z) hn h64 fun p a1 a2=>⟨_,rfl,?_⟩) (args_list_sort _)))
 refine wpAny_pure ⟨_,rfl,?_⟩
 obtain⟨e,he⟩:=sortedHeap_at (out:=List.toArray (p.toList.map fun i=>vs.getD i Value.none)) gL
 refine q _ _ e p a1 a2 hz (fun b o z=>?_) he
 have hb:b<h1.objs.size:=Heap.lt_size (k1 b o z)
 rw[sortedHeap_old (Nat.ne_of_lt hb) (by rw[size_push'];exact Nat.lt_succ_of_lt hb)]
 exact k2 b o z
end
def itD(L:List (Nat×Int)):List PyData:=L.map fun x=> .tuple [.str ⟨#[x.1]⟩, .int x.2]
theorem zJl{h:Heap}{v:Value}{x:Nat×Int}(z:HT false h v x):Reads h v (.tuple [.str ⟨#[x.1]⟩, .int x.2]) []:=by
 obtain⟨a,o,n,f,g,rfl,ho,hc,hd,kf,u,rfl⟩:=z
 obtain⟨u2,rfl⟩:=(show∃u:Tok,f= .str ⟨#[x.1]⟩ u from kf)
 exact .tuple (as:=[]) ho hc hd (.cons (as:=[]) (bs:=[]) (.str _ _) (.cons (as:=[]) (bs:=[]) (.int _ _) .nil))
theorem zE8{h:Heap}:∀ {vs:List Value} {L:List (Nat×Int)},HTs false h vs L->ReadsAll h vs (itD L) []
 |[],[],_=> .nil
 |[],_::_,z=>by have:=z.1;cases this
 |_::_,[],z=>by have:=z.1;cases this
 |v::vs,x::L,z=>by
  obtain⟨v',e,g⟩:=z.2 0 x rfl
  cases e
  exact .cons (as:=[]) (bs:=[]) (zJl g) (zE8 ⟨by have:=z.1;simpa using this,fun i y hy=>z.2 (i+1) y hy⟩)
theorem zLc{t:Bool}{h:Heap}{vs:List Value}{L:List (Nat×Int)}(z:HTs t h vs L){p:Array Nat}(hp:Pm L.length p):HTs t h (p.toList.map fun i=>vs.getD i Value.none) (p.toList.map fun i=>L.getD i (0,0)):=by
 refine⟨by rw[List.length_map,List.length_map],fun i x hx=>?_⟩
 rw[List.getElem?_map]at hx
 obtain⟨j,hj,rfl⟩:=Option.map_eq_some_iff.mp hx
 have hl:j<L.length:=List.mem_range.mp (hp.mem_iff.mp (List.mem_of_getElem? hj))
 obtain⟨v,e,g⟩:=z.2 j _ (List.getElem?_eq_getElem hl)
 refine⟨v,by rw[List.getElem?_map,hj];show some (vs.getD j Value.none)=_;rw[List.getD_eq_getElem?_getD,e];rfl,?_⟩
 rw[List.getD_eq_getElem?_getD,List.getElem?_eq_getElem hl]
 exact g
theorem zJM{α:Type}(L:List α)(d:α):((List.range L.length).map fun i=>L.getD i d)=L:=by
 apply List.ext_getElem?
 intro i
 rw[List.getElem?_map]
 by_cases h:i<L.length
 ·rw[List.getElem?_range h,List.getElem?_eq_getElem h]
  show some (L.getD i d)=_
  rw[List.getD_eq_getElem?_getD,List.getElem?_eq_getElem h];rfl
 ·rw[List.getElem?_eq_none (by simpa using h),List.getElem?_eq_none (by omega)];rfl
theorem zGZ{α:Type}{L:List α}(d:α){p:Array Nat}(hp:Pm L.length p):(p.toList.map fun i=>L.getD i d).Perm L:=by
 have:=List.Perm.map (fun i=>L.getD i d) (show p.toList.Perm (List.range L.length)from hp)
 rwa[zJM]at this
theorem zH0{L:List (Nat×Int)}{p:Array Nat}(hp:Pm L.length p)(ha:Asc (rk L) p L.length):(p.toList.map fun i=>L.getD i (0,0)).Pairwise fun x y=>x.1<y.1:=by
 rw[List.pairwise_map,List.pairwise_iff_getElem]
 intro i j hi hj hij
 have hs:=hp.size
 have:=ha.lt (i:=i) (j:=j) hij (by simpa[hs]using hj)
 unfold Ky rk at this
 have e1:p.getD i 0=p.toList[i]:=by simp[Array.getD,show i<p.size by simpa using hi]
 have e2:p.getD j 0=p.toList[j]:=by simp[Array.getD,show j<p.size by simpa using hj]
 rw[e1,e2]at this
 exact this
theorem asc_perm:∀ {L M:List (Nat×Int)},L.Pairwise (fun x y=>x.1<y.1)->M.Pairwise (fun x y=>x.1<y.1)->L.Perm M->L=M:=fun{L M} h1 h2 h=>by
 refine List.Perm.eq_of_pairwise (le:=fun x y:Nat×Int=>x.1<y.1) ?_ h1 h2 h
 intro a b _ _ h3 h4
 exact absurd h3 (by omega)
end BrTs
namespace L2
open PySem PySem.Spec PyProof.Rows BrTs
section
variable{X:Cx}{e:Expr}{te:TE}
def tRI(te:TE):TE:=fun σ H Q=>te σ H fun v H1=>∃ (d:Addr) (L:List (Nat×Int)),v= .ref d/\Rd H1 d (.dK (L.map fun x=>(Sum.inr ⟨#[x.1]⟩, .int x.2)))/\(L.map (·.1)).Nodup/\L.length<64/\(∀M,M.Perm L->ShOk (.list (itD M))/\PyData.hasDict (.list (itD M))=false)/\
 ∀M,M.Perm L->M.Pairwise (fun x y=>x.1<y.1)->Q (.str (PyData.shown (.list (itD M)))) H1
theorem zGV{k:Nat}(hmr:X.mg "repr"=none)(hms:X.mg "sorted"=none)(hml:X.mg "list"=none)(hr:Room k X.A)(hc:X.calm=true)(he:PE X e te){rp sp lp ap cp p1 p2 p3:Pos}(hgr:Gl X "repr":=by rfl)(hgs:Gl X "sorted":=by rfl)(hgl:Gl X "list":=by rfl)
 (hb:attributeBase e "items" X.env (eval e X.env)=eval e X.env:=by rfl) (hl:(ap.endLine==cp.line)=true:=by rfl)
 (h1:starEach [.Call (.Attribute e "items" ap) [] [] cp] X.env=[(false,eval (.Call (.Attribute e "items" ap) [] [] cp) X.env)]:=by rfl)
 (h2:starEach [.Call (.Name "list" lp) [.Call (.Attribute e "items" ap) [] [] cp] [] p1] X.env=[(false,eval (.Call (.Name "list" lp) [.Call (.Attribute e "items" ap) [] [] cp] [] p1) X.env)]:=by rfl)
 (h3:starEach [.Call (.Name "sorted" sp) [.Call (.Name "list" lp) [.Call (.Attribute e "items" ap) [] [] cp] [] p1] [] p2] X.env=[(false,eval (.Call (.Name "sorted" sp) [.Call (.Name "list" lp) [.Call (.Attribute e "items" ap) [] [] cp] [] p1] [] p2) X.env)]:=by rfl):
 PE X (.Call (.Name "repr" rp) [.Call (.Name "sorted" sp) [.Call (.Name "list" lp) [.Call (.Attribute e "items" ap) [] [] cp] [] p1] [] p2] [] p3) (tRI te):=by
 intro pins s σ H Q I h
 refine wpAny_Call_Name_kw (zBv I hgr hmr PyProof.Rows.boot_repr ?_)
 refine PyProof.Rows.callWith_builtin1 ?_ h3 rfl
 rw[h3]
 show wpAny _ _ (spliced [(false,eval _ X.env)]) _ _ _
 refine Calls.spliced_cons ?_
 refine wpAny_Call_Name_kw (zBv I hgs hms PyProof.Rows.boot_sorted ?_)
 refine PyProof.Rows.callWith_builtin1 ?_ h2 rfl
 rw[h2]
 show wpAny _ _ (spliced [(false,eval _ X.env)]) _ _ _
 refine Calls.spliced_cons ?_
 refine wpAny_Call_Name_kw (zBv I hgl hml PyProof.Rows.boot_list ?_)
 refine PyProof.Rows.callWith_type1 ?_ h1 rfl
 rw[h1]
 show wpAny _ _ (spliced [(false,eval _ X.env)]) _ _ _
 refine Calls.spliced_cons ?_
 refine wpAny_Call_method0_late hb hl (thn (he pins s σ H _ I h) fun v s1 ⟨x,H1,I1,r1,q1⟩=>?_)
 obtain⟨d,L,rfl,hD,hn,h64,hsh,q⟩:=q1
 cases r1
 obtain⟨t1,t2,hd⟩:=zKU I1 (.inl ⟨_,hD⟩)
 obtain⟨z,_,vs,rel,dd⟩:=zIf I1.hok hD
 refine⟨"dict","dict.items",PySem.F.plainAttrs_dict,PySem.F.slot_dict_items,PySem.F.type_dict_items,t1,t2,Calls.callWith_builtin rfl (PySem.evalArgs_none ?_)⟩
 refine call_meetsIn PySem.F.slot_dict_items dd.typeIs PySem.F.entry_dict_items (PySem.F.args_dict_items_1 _) (meets_dict_items (mixKind X.prog X.w) d hd) ⟨⟨vs,dd⟩,Calls.spliced_nil ?_⟩
 obtain⟨ep,hat⟩:=dd.dictAt
 have hvl:vs.length=L.length:=by rw[<-rel.length,List.length_map]
 refine PySem.W.kdx_call (knd:=mixKind X.prog X.w) (kvs:=vs) (ep:=ep) (I1.ok.hd hc) ⟨_,Heap.get?_push_size _ rfl,rfl,rfl⟩ (hat.push _) (by rw[hvl,sizeLine_eq];omega) fun h' tk acc c as kp gL hal hG hacc=>Calls.spliced_nil ?_
 have k1:∀b o,s1.heap.get? b=some o->h'.get? b=some o:=fun b o z=>kp b o (Heap.get?_push_of_some _ z)
 have hts:HTs false h' (as.map Value.ref) L:=by
  refine⟨by rw[List.length_map,hal,hvl],fun i y hy=>?_⟩
  have hi:i<as.length:=by rw[hal,hvl];exact(List.getElem?_eq_some_iff.mp hy).1
  obtain⟨key,kk,xv,hk,hkk,gT⟩:=hG.pairs i as[i] (List.getElem?_eq_getElem hi)
  refine⟨.ref as[i],by rw[List.getElem?_map,List.getElem?_eq_getElem hi];rfl,as[i],_,_,key,xv,rfl,gT,rfl,rfl,?_,?_⟩
  ·have e1:(L.map fun x=>((Sum.inr ⟨#[x.1]⟩:Key),V.int x.2))[i]? =some (Sum.inr ⟨#[y.1]⟩, .int y.2):=by rw[List.getElem?_map,hy];rfl
   have pr:=paired_at' rel e1 hk
   have ek:kk=Sum.inr ⟨#[y.1]⟩:=pr.1.symm
   subst ek
   exact(zKT hkk:∃t,key=Value.str ⟨#[y.1]⟩ t)
  ·have e1:(L.map fun x=>((Sum.inr ⟨#[x.1]⟩:Key),V.int x.2))[i]? =some (Sum.inr ⟨#[y.1]⟩, .int y.2):=by rw[List.getElem?_map,hy];rfl
   exact(paired_at' rel e1 hk).2
 have gL2:(show Heap from h').IsList (s1.heap.push {cls:= .type "dict_items",data:= .fields #[.ref d]}).objs.size (as.map Value.ref).toArray:=⟨_,gL,rfl,c,by rw[<-hacc,Array.toArray_toList]⟩
 refine zC1 (s:={s1 with heap:=h',toks:=tk}) (t:=false) gL2 hts hn h64 fun h2' D ep2 p hpm hasc hD2 kp2 gD=>Calls.spliced_nil ?_
 obtain⟨M,eM⟩:∃M,M=p.toList.map fun i=>L.getD i (0,0):=⟨_,rfl⟩
 have hM1:M.Perm L:=by rw[eM];exact zGZ _ hpm
 have hM2:M.Pairwise fun x y=>x.1<y.1:=by rw[eM];exact zH0 hpm hasc
 have hts2:HTs false h2' (p.toList.map fun i=>(as.map Value.ref).getD i Value.none) M:=by
  rw[eM]
  exact zLc (hts.keep fun b o _ z=>kp2 b o z) hpm
 obtain⟨⟨o1,o2,o3⟩,o4⟩:=hsh M hM1
 have hu:=hr.units
 refine PySem.repr_of_reads' (h₀:=h2') (.list (as:=[]) gD rfl rfl (by simpa using zE8 hts2)) o1 (PyData.noDict_hsm o4) hr.gd (by omega) (fun b o e=>e) (fun h3' u tk3 hk3=>?_) o2
 exact⟨.str _,H1,I1.kept fun b o z=>hk3 b o (kp2 b o (k1 b o z)),⟨u,rfl⟩,q M hM1 hM2⟩
where
 paired_at':∀ {kvs:List (Key×V)} {vs:List (Key×Value)} {i:Nat} {x:Key×V} {y:Key×Value},KV kvs vs->kvs[i]? =some x->vs[i]? =some y->x.1=y.1/\RelV x.2 y.2
  |_,_,i,_,_, .nil,h,_=>by simp at h
  |_,_,0,_,_, .cons r _,h1,h2=>by cases h1;cases h2;exact r
  |_,_,i+1,_,_, .cons _ t,h1,h2=>paired_at' t (by simpa using h1) (by simpa using h2)
theorem zKx{σ:St}{H:Hp}{Q:VK}(h:te σ H fun v H1=>∃ (d:Addr) (L:List (Nat×Int)),v= .ref d/\Rd H1 d (.dK (L.map fun x=>(Sum.inr ⟨#[x.1]⟩, .int x.2)))/\(L.map (·.1)).Nodup/\L.length<64/\(∀M,M.Perm L->ShOk (.list (itD M))/\PyData.hasDict (.list (itD M))=false)/\
 ∀M,M.Perm L->M.Pairwise (fun x y=>x.1<y.1)->Q (.str (PyData.shown (.list (itD M)))) H1):tRI te σ H Q:=h
end
end L2
namespace BrS
open L2 PySem PySem.Spec PyProof.Rows BrTs BrM
section
variable{X:Cx}
def rSortP(K:PySem.W.Frag):List V->Hp->VK->Prop:=fun xs H Q=>∃ (l:Addr) (vs:List V) (L:List (Nat×Nat)),xs=[.ref l]/\SqL K H l vs/\Prl H vs L/\(L.map (·.1)).Nodup/\L.length<64/\
 ∀ (p:Addr) (ws:List V) (M:List (Nat×Nat)),H p=none->M.Perm L->M.Pairwise (fun x y=>x.1<y.1)->Prl H ws M->Q (.ref p) (upd H p (.lst ws))
theorem zHF(K:PySem.W.Frag)(hK:X.K=K:=by rfl):CallR X (.builtin "sorted") (rSortP K):=by
 subst hK
 intro pins s σ H xs us Q I rv ⟨l,vs,L,e,hq,hP,hn,h64,q⟩
 subst e
 obtain⟨u,rfl,ru⟩:=rv.one
 cases ru
 obtain⟨its,rr,ht,_⟩:=I.list hq
 have hil:=rr.length
 obtain⟨LL,eLL⟩:∃LL:List (Nat×Int),LL=L.map fun x=>(x.1,(x.2:Int)):=⟨_,rfl⟩
 have hLl:LL.length=L.length:=by rw[eLL,List.length_map]
 have hts:HTs true s.heap its LL:=by
  refine⟨by rw[<-hil,hP.1,hLl],fun i y hy=>?_⟩
  rw[eLL,List.getElem?_map]at hy
  obtain⟨x,hx,rfl⟩:=Option.map_eq_some_iff.mp hy
  obtain⟨T,e1,g⟩:=hP.2 i x hx
  obtain⟨w,e2,rw2⟩:=rr.get e1
  obtain rfl:w=Value.ref T:=rw2
  obtain⟨_,its2,rv2,o,g1,g2,n,g3⟩:=(show ObjOk X.prog X.w H s.heap T (.tup [.int (x.1:Int), .int (x.2:Int)])from I.hok T _ g)
  cases rv2 with
  |cons r1 t1=>
   cases t1 with
   |cons r2 t2=>
    cases t2
    obtain⟨t1,rfl⟩:=r1
    obtain⟨t2,rfl⟩:=r2
    exact⟨_,e2,T,o,n,_,_,rfl,g1,g2,g3,⟨t1,rfl⟩,t2,rfl⟩
 refine zC1 ht.isList hts (by rw[eLL,List.map_map];exact hn) (by omega) fun h' D ep p hpm hasc hD kp gD=>?_
 have hpm':Pm L.length p:=by rw[<-hLl];exact hpm
 have eM:(p.toList.map fun i=>LL.getD i (0,0))=(p.toList.map fun i=>L.getD i (0,0)).map fun x=>(x.1,(x.2:Int)):=by
  rw[List.map_map]
  refine List.map_congr_left fun i hi=>?_
  have hl:i<L.length:=List.mem_range.mp (hpm'.mem_iff.mp hi)
  show LL.getD i (0,0)=((L.getD i (0,0)).1,((L.getD i (0,0)).2:Int))
  rw[eLL,List.getD_eq_getElem?_getD,List.getElem?_map,List.getD_eq_getElem?_getD,List.getElem?_eq_getElem hl];rfl
 have hasc2:=zH0 hpm hasc
 rw[eM,List.pairwise_map]at hasc2
 have hprl:Prl H (p.toList.map fun i=>vs.getD i .non) (p.toList.map fun i=>L.getD i (0,0)):=by
  refine⟨by rw[List.length_map,List.length_map],fun m x hx=>?_⟩
  rw[List.getElem?_map]at hx
  obtain⟨j,hj,rfl⟩:=Option.map_eq_some_iff.mp hx
  have hl:j<L.length:=List.mem_range.mp (hpm'.mem_iff.mp (List.mem_of_getElem? hj))
  obtain⟨T,e1,g⟩:=hP.2 j _ (List.getElem?_eq_getElem hl)
  refine⟨T,by rw[List.getElem?_map,hj];show some (vs.getD j .non)=_;rw[List.getD_eq_getElem?_getD,e1];rfl,?_⟩
  rw[List.getD_eq_getElem?_getD,List.getElem?_eq_getElem hl]
  exact g
 have hout:Vals (p.toList.map fun i=>vs.getD i .non) (p.toList.map fun i=>its.getD i Value.none):=by
  refine zDE (by rw[List.length_map,List.length_map]) fun m x u hx hu=>?_
  rw[List.getElem?_map]at hx hu
  obtain⟨j,hj,rfl⟩:=Option.map_eq_some_iff.mp hx
  rw[hj]at hu
  cases hu
  have hl:j<L.length:=List.mem_range.mp (hpm'.mem_iff.mp (List.mem_of_getElem? hj))
  obtain⟨T,e1,g⟩:=hP.2 j _ (List.getElem?_eq_getElem hl)
  obtain⟨w,e2,rw2⟩:=rr.get e1
  show RelV (vs.getD j .non) (its.getD j Value.none)
  rw[List.getD_eq_getElem?_getD,e1,List.getD_eq_getElem?_getD,e2]
  exact rw2
 have hsz:=hpm'.size
 refine⟨.ref D,_,I.laid (t':=s.toks) (o:= .lst (p.toList.map fun i=>vs.getD i .non)) kp hD ⟨?_,_,ep,hout,gD⟩,rfl,q D _ _ (I.hok.fresh hD) (zGZ _ hpm') hasc2 hprl⟩
 rw[List.length_map,Array.length_toList,sizeLine_eq];omega
end
end BrS
namespace BrI
open BrM BrC BrS BrB
theorem zGS{P:Nat->Nat->Int}{k n:Nat}(h0:∀i b,0<=P i b){s e:Nat}(hs:s<e)(he:e<n)(h:0<pr P k s e*rst P k n s e):∃l:List Nat,l.length=n/\Rg k l/\Fits P 0 l/\PairAt k l s e:=by
 rw[zAa (zDA h0 _ _) (zGK h0 _ _)]at h
 obtain⟨a1,a2⟩:=h
 unfold rst at a2
 rw[zAa (zCm h0 _ _) (zCZ h0 _ _)]at a2
 obtain⟨a2,a3⟩:=a2
 obtain⟨p,hp,b1,b2⟩:=(zGR h0 s e).mp a1
 obtain⟨v,hv,hr,hf⟩:=(zB7 h0 (show s+1<=e by omega)).mp a2
 obtain⟨t,ht,c1,c2⟩:=(zEG h0 s e).mp a3
 have het:e+1<=t:=by
  apply Classical.byContradiction
  intro q
  rw[zAh (by omega)]at c2
  omega
 obtain⟨u,w0,st,l1,l2,f1,f2,g,c⟩:=(zKh h0 s t (by omega) ht).mp c1
 obtain⟨v2,hv2,hr2,hf2⟩:=(zB7 h0 het).mp c2
 refine⟨u++2*p::(v++(2*p+1)::(v2++w0)),by simp;omega,?_,?_,p,u,v,v2++w0,hp,rfl,l1,by omega,hr⟩
 ·unfold Rg
  rw[zAy,g]
  show go k st (2*p::(v++(2*p+1)::(v2++w0)))=some []
  rw[zBw _ _ hp,zAy,zEO hr (p::st)]
  show go k (p::st) ((2*p+1)::(v2++w0))=some []
  rw[zBV _ _ hp,zAy,zEO hr2 st]
  show go k st w0=some []
  rcases c with⟨rfl,rfl⟩|⟨o,r,w',rfl,rfl,gw⟩
  ·have:w0=[]:=List.length_eq_zero_iff.mp (by omega)
   subst this
   exact zAl _
  ·rw[zBV _ _ (zGc (st:=[]) (by simp) g o List.mem_cons_self)]
   exact gw
 ·rw[zA9,fit_cons,zA9,fit_cons,zA9,Nat.zero_add,l1,hv,show s+1+(e-(s+1))=e by omega,hv2,show e+1+(t-(e+1))=t by omega]
  exact⟨f1,b1,hf,b2,hf2,f2⟩
theorem zJ6{P:Nat->Nat->Int}{k n:Nat}(hk:k<=4)(h0:∀i b,0<=P i b){s e:Nat}(hs:s<e)(he:e<n)(h:∀l:List Nat,l.length=n->Rg k l->Fits P 0 l->PairAt k l s e):pr P k s e*rst P k n s e=tbl P k 0 n:=by
 have hw:tbl P k 0 n=sm n (fun u=>pr P k u s*rst P k n u s)+sm n (fun e=>pr P k s e*rst P k n s e):=zBs (k:=k) P (show s<n by omega)
 have nn:∀x y,0<=pr P k x y*rst P k n x y:=fun x y=>Int.mul_nonneg (zDA h0 _ _) (zGK h0 _ _)
 have gt0:∀x y,¬x<y->pr P k x y*rst P k n x y=0:=fun x y hxy=>by
  unfold rst
  rw[zAh (i:=x+1) (j:=y) (by omega),Int.zero_mul,Int.mul_zero]
 have z1:sm n (fun u=>pr P k u s*rst P k n u s)=0:=sm_zero n fun u hu=>by
  by_cases c:u<s
  ·apply Classical.byContradiction
   intro z
   have:=nn u s
   obtain⟨l,l1,l2,l3,l4⟩:=zGS (k:=k) h0 c (show s<n by omega) (Int.lt_iff_le_and_ne.mpr ⟨this,fun e=>z e.symm⟩)
   exact zKL ((h l l1 l2 l3).pr hk) (l4.pr hk)
  ·exact gt0 u s c
 have z2:sm n (fun e'=>pr P k s e'*rst P k n s e')=pr P k s e*rst P k n s e:=zBq (f:=fun e'=>pr P k s e'*rst P k n s e') he fun e' he' hne=>by
  by_cases c:s<e'
  ·apply Classical.byContradiction
   intro z
   have:=nn s e'
   obtain⟨l,l1,l2,l3,l4⟩:=zGS (k:=k) h0 c he' (Int.lt_iff_le_and_ne.mpr ⟨this,fun e=>z e.symm⟩)
   exact hne (zHo (l4.pr hk) ((h l l1 l2 l3).pr hk))
  ·exact gt0 s e' c
 rw[hw,z1,z2,Int.zero_add]
theorem zBZ{l:List Nat}{s i:Nat}(h:s<i)(hi:i<=l.length):(l.take i).drop s=l.getD s 0::(l.take i).drop (s+1):=by
 have hs:s<(l.take i).length:=by rw[List.length_take];omega
 rw[List.drop_eq_getElem_cons hs]
 congr 1
 rw[List.getElem_take,List.getD_eq_getElem?_getD,List.getElem?_eq_getElem (by omega)];rfl
theorem zCz{l:List Nat}{i:Nat}(hi:i<l.length):l.take (i+1)=l.take i++[l.getD i 0]:=by
 rw[List.take_add_one,List.getElem?_eq_getElem hi,List.getD_eq_getElem?_getD,List.getElem?_eq_getElem hi];rfl
theorem zHA{m:List Nat}{x y:Nat}(h:x<=y)(hy:y<=m.length):m.drop x=(m.take y).drop x++m.drop y:=by
 have:=List.drop_append_of_le_length (l₁:=m.take y) (l₂:=m.drop y) (i:=x) (by rw[List.length_take];omega)
 rwa[List.take_append_drop]at this
theorem pt_top{k:Nat}{l:List Nat}(h:Rg k l):∀ (i:Nat),i<=l.length->∀s r,(pt l i).2=s::r->s<i/\r=(pt l s).2/\l.getD s 0%2=0/\Rg k ((l.take i).drop (s+1)):=by
 intro i
 induction i using Nat.strongRecOn with
 |_ i ih=>
  intro hi s r e
  cases i with
  |zero=>simp[pt]at e
  |succ i=>
   rw[pt]at e
   by_cases c:l.getD i 0%2=0
   ·rw[if_pos c]at e
    cases e
    refine⟨by omega,rfl,c,?_⟩
    rw[List.drop_eq_nil_of_le (by rw[List.length_take];omega)]
    exact zAl _
   ·rw[if_neg c]at e
    obtain⟨s1,r1,e1⟩:=zGO h (by omega) c
    rw[e1]at e
    have e:r1=s::r:=e
    obtain⟨a1,a2,a3,a4⟩:=ih i (by omega) (by omega) s1 r1 e1
    rw[a2]at e
    obtain⟨b1,b2,b3,b4⟩:=ih s1 (by omega) (by omega) s r e
    refine⟨by omega,b2,b3,?_⟩
    have hcl:=clo_at h (i:=i) (by omega) e1 a1 a3 a4 c
    have hlt:l.getD s1 0<2*k:=zDN l [] [] h _ (zBY (by omega))
    have e2:(l.take (i+1)).drop (s+1)=(l.take s1).drop (s+1)++(l.getD s1 0::((l.take i).drop (s1+1)++[l.getD i 0])):=by
     rw[zCz (by omega),List.drop_append_of_le_length (by rw[List.length_take];omega),<-List.cons_append,<-List.append_assoc]
     congr 1
     rw[<-zBZ (by omega) (by omega)]
     have e3:=zHA (m:=l.take i) (x:=s+1) (y:=s1) (by omega) (by rw[List.length_take];omega)
     rw[List.take_take,Nat.min_eq_left (by omega)]at e3
     exact e3
    unfold Rg
    rw[e2,zAy,b4]
    show go k [] (l.getD s1 0::_)=some []
    obtain⟨p,hp⟩:∃p,l.getD s1 0=2*p:=⟨l.getD s1 0/2,by omega⟩
    rw[hcl,hp,zBw _ _ (by omega),zAy,zEO a4 [p]]
    show go k [p] [2*p+1]=some []
    rw[zBV _ _ (by omega),zAl]
where
 clo_at {k:Nat} {l:List Nat} (h:Rg k l) {i s1:Nat} {r1:List Nat} (hi:i<l.length) (e1:(pt l i).2=s1::r1) (a1:s1<i) (a3:l.getD s1 0%2=0) (a4:Rg k ((l.take i).drop (s1+1))) (c:¬l.getD i 0%2=0):l.getD i 0=l.getD s1 0+1:=by
  obtain⟨st,g,_⟩:=zDM h s1
  obtain⟨st2,g2,_⟩:=zDM h (i+1)
  have hlt:l.getD s1 0<2*k:=zDN l [] [] h _ (zBY (by omega))
  obtain⟨p,hp⟩:∃p,l.getD s1 0=2*p:=⟨l.getD s1 0/2,by omega⟩
  have e3:l.take i=l.take s1++(2*p::(l.take i).drop (s1+1)):=by
   rw[<-hp,<-zBZ a1 (by omega)]
   have:=(List.take_append_drop s1 (l.take i)).symm
   rwa[List.take_take,Nat.min_eq_left (by omega)]at this
  have g3:go k [] (l.take i)=some (p::st):=by
   rw[e3,zAy,g]
   show go k st (2*p::_)=_
   rw[zBw _ _ (by omega)]
   exact zEO a4 _
  rw[zCz hi,zAy,g3]at g2
  have g2:go k (p::st) [l.getD i 0]=some st2:=g2
  rw[zAk]at g2
  obtain⟨s3,n1,_⟩:=Option.bind_eq_some_iff.mp g2
  obtain⟨_,⟨q1,_⟩|⟨q1,q2⟩⟩:=zAu n1
  ·exact absurd q1 c
  ·have:=(List.cons.inj q2).1
   omega
theorem zLN{k:Nat}{l:List Nat}(h:Rg k l){i s:Nat}{r:List Nat}(hi:i<l.length)(c:¬l.getD i 0%2=0)(e:(pt l i).2=s::r):PairAt k l s i:=by
 obtain⟨a1,a2,a3,a4⟩:=pt_top h i (by omega) s r e
 have hcl:=pt_top.clo_at h hi e a1 a3 a4 c
 have hlt:l.getD s 0<2*k:=zDN l [] [] h _ (zBY (by omega))
 obtain⟨p,hp⟩:∃p,l.getD s 0=2*p:=⟨l.getD s 0/2,by omega⟩
 refine⟨p,l.take s,(l.take i).drop (s+1),l.drop (i+1),by omega,?_,by rw[List.length_take];omega,by rw[List.length_drop,List.length_take];omega,a4⟩
 rw[<-hp,<-hcl,<-List.cons_append,<-zBZ a1 (by omega),<-List.append_assoc]
 have e1:l.take s++(l.take i).drop s=l.take i:=by
  have:=List.take_append_drop s (l.take i)
  rwa[List.take_take,Nat.min_eq_left (by omega)]at this
 rw[e1,<-List.singleton_append,<-List.append_assoc,<-zCz hi,List.take_append_drop]
theorem zHk{k:Nat}(hk:k<=4){l:List Nat}(h:Rg k l):∀i,i<=l.length->∀s e,(s,e)∈(pt l i).1↔e<i/\PairAt k l s e
 |0,_,s,e=>by simp[pt]
 |i+1,hi,s,e=>by
  have ih:=zHk hk h i (by omega) s e
  rw[pt]
  by_cases c:l.getD i 0%2=0
  ·rw[if_pos c]
   show(s,e)∈(pt l i).1↔_
   rw[ih]
   constructor
   ·rintro⟨a,b⟩;exact⟨by omega,b⟩
   ·rintro⟨a,b⟩
    refine⟨?_,b⟩
    by_cases z:e=i
    ·subst z
     obtain⟨p,u,v,w,hp,rfl,hu,he,hv⟩:=b
     have:(u++2*p::(v++(2*p+1)::w)).getD e 0=2*p+1:=by
      rw[List.getD_eq_getElem?_getD,List.getElem?_append_right (by omega),hu,show e-s=(e-s-1)+1 by omega,List.getElem?_cons_succ,List.getElem?_append_right (by omega),show e-s-1-v.length=0 by omega];rfl
     omega
    ·omega
  ·rw[if_neg c]
   obtain⟨s1,r1,e1⟩:=zGO h (by omega) c
   rw[e1]
   show(s,e)∈(pt l i).1++[(s1,i)]↔_
   have hpa:=zLN h (by omega) c e1
   rw[List.mem_append,ih,List.mem_singleton]
   constructor
   ·rintro(⟨a,b⟩|z)
    ·exact⟨by omega,b⟩
    ·cases z;exact⟨by omega,hpa⟩
   ·rintro⟨a,b⟩
    by_cases z:e=i
    ·subst z
     exact .inr (by rw[zMo (b.pr hk) (hpa.pr hk)])
    ·exact .inl ⟨by omega,b⟩
theorem zC9{k:Nat}(hk:k<=4){l:List Nat}(h:Rg k l)(s e:Nat):(s,e)∈prt l↔PairAt k l s e:=by
 unfold prt
 rw[zHk hk h _ (Nat.le_refl _)]
 exact⟨fun z=>z.2,fun z=>⟨z.lt.2.1,z⟩⟩
theorem zKJ{k:Nat}(hk:k<=4){l:List Nat}(h:Rg k l):∀i,i<=l.length->(pt l i).1.Pairwise fun x y=>x.2<y.2
 |0,_=>by simp[pt]
 |i+1,hi=>by
  have ih:=zKJ hk h i (by omega)
  rw[pt]
  by_cases c:l.getD i 0%2=0
  ·rw[if_pos c];exact ih
  ·rw[if_neg c]
   obtain⟨s1,r1,e1⟩:=zGO h (by omega) c
   rw[e1]
   show((pt l i).1++[(s1,i)]).Pairwise _
   refine List.pairwise_append.mpr ⟨ih,List.pairwise_singleton _ _,fun x hx y hy=>?_⟩
   rw[List.mem_singleton.mp hy]
   exact((zHk hk h i (by omega) x.1 x.2).mp hx).1
theorem zKK{k:Nat}(hk:k<=4){l:List Nat}(h:Rg k l):((prt l).map (·.1)).Nodup:=by
 unfold List.Nodup
 rw[List.pairwise_map]
 refine List.Pairwise.imp_of_mem (fun{x y} hx hy hlt he=>?_) (show(prt l).Pairwise _ from zKJ hk h _ (Nat.le_refl _))
 have h1:=((zC9 hk h x.1 x.2).mp hx).pr hk
 have h2:=((zC9 hk h y.1 y.2).mp hy).pr hk
 rw[he]at h1
 have:=zHo h1 h2
 omega
theorem zFd{l:List Nat}:(prt l).length<=l.length:=zHm l _
theorem zGF{k:Nat}(hk:k<=4){a:List Nat}{s e:Nat}{l0:List Nat}(h0:l0∈ress k a):(s,e)∈surP k a↔∀l∈ress k a,(s,e)∈prt l:=by
 constructor
 ·intro h l hl
  exact(zC9 hk (mem_ress.mp hl).1 s e).mpr ((zGE hk h).2.2 l hl)
 ·intro h
  have hp0:=(zC9 hk (mem_ress.mp h0).1 s e).mp (h l0 h0)
  have hlt:=hp0.lt
  have hl0:=(mem_ress.mp h0).2.1
  unfold surP
  refine List.mem_filter.mpr ⟨?_,decide_eq_true ?_⟩
  ·unfold prs
   refine List.mem_flatMap.mpr ⟨s,List.mem_range.mpr (by omega),List.mem_map.mpr ⟨(e-s-1)/2,List.mem_range.mpr (by omega),?_⟩⟩
   rw[show s+1+2*((e-s-1)/2)=e by omega]
  ·rw[<-zDT]
   refine zJ6 hk (zHy hk a) (by omega) (by omega) fun l h1 h2 h3=>?_
   exact(zC9 hk h2 s e).mp (h l ((zCJ hk).mpr ⟨h1,h2,h3⟩))
theorem zGG{k:Nat}(hk:k<=4){a l:List Nat}(hl:l∈ress k a)(ha:a.length<=40):(surP k a).Pairwise fun x y=>x.1<y.1:=by
 have hf:=zLK hk hl
 have hll:=hf.len
 obtain⟨xs,hxs⟩:=zLY (show Rt (brt l)from hf.run hk (by simp))
 obtain⟨th,hth⟩:=zJa hxs
 rw[zEd]at hth
 rw[zJE hk hl (th:=th) fun i hi=>(hth i (by omega)).2,List.pairwise_filterMap]
 refine List.pairwise_lt_range.imp fun{x y} h p hp q hq=>?_
 have e:∀ {i:Nat} {p:Nat×Nat},duP k a th i=some p->p.1=i:=fun{i p} h=>by
  unfold duP at h
  split at h
  ·cases h;rfl
  ·cases h
 rw[e hp,e hq];exact h
theorem zGp{k:Nat}(hk:k<=4){a l:List Nat}(hl:l∈ress k a)(ha:a.length<=40){M:List (Nat×Nat)}(hp:M.Perm ((prt l).filter fun x=>decide (∀m∈ress k a,x∈prt m)))(hs:M.Pairwise fun x y=>x.1<y.1):M=surP k a:=by
 have h1:=zGG hk hl ha
 refine List.Perm.eq_of_pairwise (le:=fun x y:Nat×Nat=>x.1<y.1) (fun x y _ _ h2 h3=>absurd h2 (by omega)) hs h1 ?_
 have nd:∀ {L:List (Nat×Nat)},L.Pairwise (fun x y=>x.1<y.1)->L.Nodup:=fun{L} h=>h.imp fun{x y} z e=>by rw[e]at z;omega
 refine(List.perm_ext_iff_of_nodup (nd hs) (nd h1)).mpr fun x=>?_
 obtain⟨s,e⟩:=x
 rw[hp.mem_iff,List.mem_filter,decide_eq_true_eq,zGF hk hl]
 exact⟨fun z=>z.2,fun z=>⟨z l hl,z⟩⟩
theorem zHX{k:Nat}(hk:k<=4){a l:List Nat}(hl:l∈ress k a)(ha:a.length<=40):(surP k a).Perm ((prt l).filter fun x=>decide (∀m∈ress k a,x∈prt m)):=by
 have h1:=zGG hk hl ha
 have nd1:(surP k a).Nodup:=h1.imp fun{x y} z e=>by rw[e]at z;omega
 have nd2:((prt l).filter fun x=>decide (∀m∈ress k a,x∈prt m)).Nodup:=List.Nodup.sublist List.filter_sublist (List.Pairwise.imp (fun{x y} z e=>z (by rw[e])) (List.pairwise_map.mp (zKK hk (mem_ress.mp hl).1)))
 refine(List.perm_ext_iff_of_nodup nd1 nd2).mpr fun x=>?_
 obtain⟨s,e⟩:=x
 rw[List.mem_filter,decide_eq_true_eq,zGF hk hl]
 exact⟨fun z=>⟨z l hl,z⟩,fun z=>z.2⟩
theorem zNd{k:Nat}(hk:k<=4){a:List Nat}{i b:Nat}(hi:i<a.length):atB k a i b=((ress k a).countP fun l=>decide (l.getD i 0=b):Nat):=by
 have h1:(ones k).length=2*k:=List.length_replicate
 have h:=zLu (k:=k) (ws:=ones k) (a:=a) (i:=i) (b:=b) hi fun j c hj hc ho=>by
  rw[show PP (a.map (plw (ones k))) j c=_ from zGw hk hj hc,if_neg (by rw[ho];decide)]
 rw[show atB k a i b=tpw k (ones k) a i b from rfl,<-h]
 unfold flw
 have:(((ress k a).filter fun l=>decide (l.getD i 0=b)).map (wtl (PP (a.map (plw (ones k)))) 0))=((ress k a).filter fun l=>decide (l.getD i 0=b)).map fun _=>(1:Int):=by
  refine List.map_congr_left fun l hl=>?_
  obtain⟨g1,g2,g3⟩:=mem_ress.mp (List.mem_filter.mp hl).1
  refine zFU fun j hj=>?_
  rw[Nat.zero_add]
  show P1 k a j (l.getD j 0)=1
  rw[zGw hk (by omega) (zDN l [] [] g1 _ (zBY hj)),if_pos (g3 j hj)]
 rw[this,List.countP_eq_length_filter]
 generalize(ress k a).filter (fun l=>decide (l.getD i 0=b))=L
 induction L with
 |nil=>rfl
 |cons x L ih=>rw[List.map_cons,List.sum_cons,ih,List.length_cons];omega
end BrI
namespace BrS
open L2 PySem PySem.Spec PyProof.Rows BrM BrC BrB BrI BrR BrTs
def cad(M:List (Nat×Int))(c:Nat):List (Nat×Int):=if c∈M.map (·.1)then M.map (fun x=>if x.1=c then(x.1,x.2+1)else x)else M++[(c,1)]
def enC(M:List (Nat×Int)):List (Key×V):=M.map fun x=>(Sum.inr ⟨#[x.1]⟩, .int x.2)
def num1(M:List (Nat×Int))(c:Nat):Int:=((M.find? fun x=>decide (x.1=c)).map (·.2)).getD 0
theorem key_inj{a c:Nat}:((Sum.inr ⟨#[a]⟩:Key)=Sum.inr ⟨#[c]⟩)↔a=c:=by
 constructor
 ·intro z
  have z2:(⟨#[a]⟩:Str)=⟨#[c]⟩:=Sum.inr.inj z
  have:=congrArg (fun s:Str=>s.cps.toList) z2
  simpa using this
 ·rintro rfl;rfl
theorem zLz(M:List (Nat×Int))(c:Nat):valV (enC M) (Sum.inr ⟨#[c]⟩:Key)=(M.find? fun x=>decide (x.1=c)).map fun x=> .int x.2:=by
 unfold valV enC
 rw[List.find?_map,Option.map_map]
 have:((fun kv:Key×V=>decide (kv.1=(Sum.inr ⟨#[c]⟩:Key)))∘fun x:Nat×Int=>((Sum.inr ⟨#[x.1]⟩:Key),V.int x.2))=fun x=>decide (x.1=c):=by
  funext x
  show decide ((Sum.inr ⟨#[x.1]⟩:Key)=Sum.inr ⟨#[c]⟩)=decide (x.1=c)
  rw[decide_eq_decide];exact key_inj
 rw[this];rfl
theorem zJv(M:List (Nat×Int))(c:Nat):(valV (enC M) (Sum.inr ⟨#[c]⟩:Key)).getD (.int 0)= .int (num1 M c):=by
 rw[zLz]
 unfold num1
 cases M.find? fun x=>decide (x.1=c)<;>rfl
theorem zJr{M:List (Nat×Int)}(h:(M.map (·.1)).Nodup){x:Nat×Int}(hx:x∈M):num1 M x.1=x.2:=by
 unfold num1
 induction M with
 |nil=>cases hx
 |cons y M ih=>
  rw[List.map_cons,List.nodup_cons]at h
  by_cases e:y.1=x.1
  ·rw[List.find?_cons_of_pos (by simpa using e)]
   rcases List.mem_cons.mp hx with z|z
   ·rw[z];rfl
   ·exact absurd (List.mem_map.mpr ⟨x,z,e.symm⟩) h.1
  ·rw[List.find?_cons_of_neg (by simpa using e)]
   rcases List.mem_cons.mp hx with z|z
   ·rw[z]at e;exact absurd rfl e
   ·exact ih h.2 z
theorem zIY{M:List (Nat×Int)}{c:Nat}(h:¬c∈M.map (·.1)):num1 M c=0:=by
 unfold num1
 have:M.find? (fun x=>decide (x.1=c))=none:=by
  rw[List.find?_eq_none]
  intro x hx z
  exact h (List.mem_map.mpr ⟨x,hx,of_decide_eq_true z⟩)
 rw[this];rfl
theorem zLy{M:List (Nat×Int)}(h:(M.map (·.1)).Nodup)(c:Nat):putK (enC M) (Sum.inr ⟨#[c]⟩:Key) (.int (num1 M c+1))=enC (cad M c):=by
 unfold putK cad
 have e1:((enC M).any fun kv=>decide (kv.1=(Sum.inr ⟨#[c]⟩:Key)))=true↔c∈M.map (·.1):=by
  unfold enC
  rw[List.any_map,List.any_eq_true,List.mem_map]
  constructor
  ·rintro⟨x,hx,z⟩;exact⟨x,hx,key_inj.mp (of_decide_eq_true z)⟩
  ·rintro⟨x,hx,z⟩;exact⟨x,hx,decide_eq_true (key_inj.mpr z)⟩
 by_cases z:c∈M.map (·.1)
 ·rw[if_pos (e1.mpr z),if_pos z]
  unfold enC
  rw[List.map_map,List.map_map]
  refine List.map_congr_left fun x hx=>?_
  show(if(Sum.inr ⟨#[x.1]⟩:Key)=Sum.inr ⟨#[c]⟩then _ else _)=_
  by_cases y:x.1=c
  ·rw[if_pos (key_inj.mpr y)]
   show _=((Sum.inr ⟨#[(if x.1=c then(x.1,x.2+1)else x).1]⟩:Key),V.int (if x.1=c then(x.1,x.2+1)else x).2)
   rw[if_pos y,<-y,zJr h hx]
  ·rw[if_neg (fun q=>y (key_inj.mp q))]
   show _=((Sum.inr ⟨#[(if x.1=c then(x.1,x.2+1)else x).1]⟩:Key),V.int (if x.1=c then(x.1,x.2+1)else x).2)
   rw[if_neg y]
 ·rw[if_neg (fun q=>z (e1.mp q)),if_neg z]
  unfold enC
  rw[List.map_append,zIY z];rfl
structure CM (M:List (Nat×Int)) (bs:List Nat):Prop where
 nd:(M.map (·.1)).Nodup
 mem:∀c n,(c,n)∈M↔n=(bs.count c:Int)/\c∈bs
theorem CM.nil:CM [] []:=⟨List.nodup_nil,fun c n=>by simp⟩
theorem CM.key{M:List (Nat×Int)}{bs:List Nat}(h:CM M bs)(c:Nat):c∈M.map (·.1)↔c∈bs:=by
 rw[List.mem_map]
 constructor
 ·rintro⟨⟨c',n⟩,hx,rfl⟩;exact((h.mem _ _).mp hx).2
 ·intro z;exact⟨(c,bs.count c),(h.mem _ _).mpr ⟨rfl,z⟩,rfl⟩
theorem CM.next{M:List (Nat×Int)}{bs:List Nat}(h:CM M bs)(c:Nat):CM (cad M c) (bs++[c]):=by
 unfold cad
 by_cases z:c∈M.map (·.1)
 ·rw[if_pos z]
  refine⟨?_,fun d n=>?_⟩
  ·have:((M.map fun x=>if x.1=c then(x.1,x.2+1)else x).map (·.1))=M.map (·.1):=by
    rw[List.map_map]
    refine List.map_congr_left fun x _=>?_
    show(if x.1=c then(x.1,x.2+1)else x).1=x.1
    split<;>rfl
   rw[this];exact h.nd
  ·have hc:=(h.key c).mp z
   rw[List.mem_map,List.count_append,List.mem_append]
   constructor
   ·rintro⟨⟨d',n'⟩,hx,e⟩
    obtain⟨h1,h2⟩:=(h.mem _ _).mp hx
    by_cases y:d'=c
    ·have e:(d',n'+1)=(d,n):=by rw[<-e];exact(if_pos y).symm
     cases e
     subst y
     refine⟨?_, .inl h2⟩
     rw[h1,List.count_singleton_self];omega
    ·have e:(d',n')=(d,n):=by rw[<-e];exact(if_neg y).symm
     cases e
     refine⟨?_, .inl h2⟩
     rw[h1,List.count_singleton,if_neg (by simpa using fun q:c=d=>y q.symm)];omega
   ·rintro⟨h1,h2⟩
    have hd:d∈bs:=h2.elim id fun q=>by rw[List.mem_singleton.mp q];exact hc
    by_cases y:d=c
    ·subst y
     refine⟨(d,bs.count d),(h.mem _ _).mpr ⟨rfl,hd⟩,?_⟩
     rw[List.count_singleton_self]at h1
     show(if d=d then(d,(bs.count d:Int)+1)else _)=(d,n)
     rw[if_pos rfl,h1];congr 1
    ·refine⟨(d,bs.count d),(h.mem _ _).mpr ⟨rfl,hd⟩,?_⟩
     rw[List.count_singleton,if_neg (by simpa using fun q:c=d=>y q.symm)]at h1
     show(if d=c then _ else(d,(bs.count d:Int)))=(d,n)
     rw[if_neg y,h1];congr 1
 ·rw[if_neg z]
  have hc:¬c∈bs:=fun q=>z ((h.key c).mpr q)
  refine⟨?_,fun d n=>?_⟩
  ·rw[List.map_append]
   refine List.nodup_append.mpr ⟨h.nd,List.pairwise_singleton _ _,fun x hx y hy e=>?_⟩
   have hy:y=c:=List.mem_singleton.mp hy
   exact z (hy▸e▸hx)
  ·rw[List.mem_append,List.mem_singleton,h.mem,List.count_append,List.mem_append,List.mem_singleton]
   constructor
   ·rintro(⟨h1,h2⟩|e)
    ·have hne:d≠c:=fun q=>hc (q▸h2)
     refine⟨?_, .inl h2⟩
     rw[h1,List.count_singleton,if_neg (by simpa using fun q:c=d=>hne q.symm)];omega
    ·cases e
     refine⟨?_, .inr rfl⟩
     rw[List.count_singleton_self,List.count_eq_zero_of_not_mem hc];rfl
   ·rintro⟨h1,h2⟩
    by_cases y:d=c
    ·right
     subst y
     rw[List.count_singleton_self,List.count_eq_zero_of_not_mem hc]at h1
     rw[h1];rfl
    ·left
     refine⟨?_,h2.resolve_right y⟩
     rw[h1,List.count_singleton,if_neg (by simpa using fun q:c=d=>y q.symm)];omega
theorem zG3{l m:List Nat}(h:l.Nodup)(hs:∀x∈l,x∈m):l.length<=m.length:=List.Nodup.length_le_of_subset h hs
theorem CM.len{M:List (Nat×Int)}{bs:List Nat}(h:CM M bs)(hb:∀c∈bs,c∈brs):M.length<=8:=by
 have:=zG3 h.nd (m:=brs) fun x hx=>hb x ((h.key x).mp hx)
 rwa[List.length_map]at this
def KB(k:Nat)(a:List Nat)(i:Nat):List (Nat×Int):=((List.range (2*k)).filter fun b=>decide (0<atB k a i b)).map fun b=>(brs.getD b 0,atB k a i b)
theorem zFn(k:Nat)(a:List Nat)(i:Nat):kvB k a i (2*k)=enC (KB k a i):=by
 unfold kvB enC KB
 rw[List.map_map];rfl
theorem zNl{k:Nat}(hk:k<=4)(a:List Nat)(i:Nat):((KB k a i).map (·.1)).Nodup:=by
 unfold KB List.Nodup
 rw[List.map_map,List.pairwise_map]
 have h:((List.range (2*k)).filter fun b=>decide (0<atB k a i b)).Pairwise (· ≠ ·):=List.Pairwise.filter _ List.nodup_range
 refine h.imp_of_mem fun{x y} hx hy hne z=>?_
 have hx:=List.mem_range.mp (List.mem_filter.mp hx).1
 have hy:=List.mem_range.mp (List.mem_filter.mp hy).1
 exact hne (zF2 _ (by omega) _ (by omega) z)
def colm(k:Nat)(a:List Nat)(i:Nat):List Nat:=(ress k a).map fun l=>brs.getD (l.getD i 0) 0
theorem zF7{k:Nat}(hk:k<=4){a:List Nat}{i:Nat}(hi:i<a.length){M:List (Nat×Int)}(h:CM M (colm k a i)):M.Perm (KB k a i):=by
 have nd1:M.Nodup:=List.Pairwise.imp (fun{x y} z e=>z (by rw[e])) (List.pairwise_map.mp h.nd)
 have nd2:(KB k a i).Nodup:=List.Pairwise.imp (fun{x y} z e=>z (by rw[e])) (List.pairwise_map.mp (zNl hk a i))
 have lt:∀l∈ress k a,l.getD i 0<2*k:=fun l hl=>by
  obtain⟨g1,g2,_⟩:=mem_ress.mp hl
  exact zDN l [] [] g1 _ (zBY (by omega))
 have cc:∀b,b<2*k->((colm k a i).count (brs.getD b 0):Int)=atB k a i b:=fun b hb=>by
  rw[zNd hk hi]
  congr 1
  unfold colm
  rw[List.count,List.countP_map]
  refine List.countP_congr fun l hl=>?_
  have:=lt l hl
  show(brs.getD (l.getD i 0) 0==brs.getD b 0)=true↔decide (l.getD i 0=b)=true
  rw[beq_iff_eq,decide_eq_true_eq]
  exact⟨fun z=>zF2 _ (by omega) _ (by omega) z,fun z=>by rw[z]⟩
 refine(List.perm_ext_iff_of_nodup nd1 nd2).mpr fun x=>?_
 obtain⟨c,n⟩:=x
 rw[h.mem]
 unfold KB
 rw[List.mem_map]
 constructor
 ·rintro⟨h1,h2⟩
  obtain⟨l,hl,e⟩:=List.mem_map.mp h2
  have hb:=lt l hl
  have hpos:0<atB k a i (l.getD i 0):=by
   rw[<-cc _ hb,e]
   have:=List.count_pos_iff.mpr h2
   omega
  refine⟨l.getD i 0,List.mem_filter.mpr ⟨List.mem_range.mpr hb,decide_eq_true hpos⟩,?_⟩
  rw[<-cc _ hb,e,h1]
 ·rintro⟨b,hb,e⟩
  cases e
  have hb2:=List.mem_range.mp (List.mem_filter.mp hb).1
  have hpos:=of_decide_eq_true (List.mem_filter.mp hb).2
  refine⟨(cc b hb2).symm,?_⟩
  rw[<-cc b hb2]at hpos
  exact List.count_pos_iff.mp (by omega)
theorem zL0{k:Nat}(hk:k<=4){a:List Nat}{i:Nat}(hi:i<a.length)(hc:cnt k a≠0){M:List (Nat×Int)}(h:CM M (colm k a i))(h6:a.getD i 0=63)(h1:M.length=1):∃b n,M=[(brs.getD b 0,n)]/\surS1 k a i=some (i,b):=by
 have hp:=zF7 hk hi h
 have hl:(kvB k a i (2*k)).length=1:=by
  rw[zFn,enC,List.length_map,<-hp.length_eq];exact h1
 obtain⟨b0,hb0,e0⟩:=(zIB hk hi hc).mp hl
 obtain⟨x,rfl⟩:=List.length_eq_one_iff.mp h1
 cases hf:firB k a i with
 |none=>exact absurd e0 (zFC hf b0 hb0)
 |some b=>
  obtain⟨g1,g2,_⟩:=zCQ hf
  have hcn:=zKd hk a
  have:(brs.getD b 0,atB k a i b)∈KB k a i:=List.mem_map.mpr ⟨b,List.mem_filter.mpr ⟨List.mem_range.mpr g2,decide_eq_true (by omega)⟩,rfl⟩
  have:=hp.mem_iff.mpr this
  have e:=List.mem_singleton.mp this
  refine⟨b,atB k a i b,by rw[e],?_⟩
  unfold surS1
  rw[if_pos h6,hf];rfl
theorem zKZ{k:Nat}(hk:k<=4){a:List Nat}{i:Nat}(hi:i<a.length)(hc:cnt k a≠0){M:List (Nat×Int)}(h:CM M (colm k a i))(h1:¬ (a.getD i 0=63/\M.length=1)):surS1 k a i=none:=by
 unfold surS1
 by_cases h6:a.getD i 0=63
 ·rw[if_pos h6]
  cases hf:firB k a i with
  |none=>rfl
  |some b=>
   exfalso
   obtain⟨g1,g2,_⟩:=zCQ hf
   have hl:=(zIB hk hi hc).mpr ⟨b,g2,g1⟩
   rw[zFn,enC,List.length_map,<-(zF7 hk hi h).length_eq]at hl
   exact h1 ⟨h6,hl⟩
 ·rw[if_neg h6]
theorem zNJ{M:List (Nat×Int)}(h8:M.length<=8)(hc:∀x∈M,x.1<128/\x.2.natAbs<10^60):ShOk (.list (itD M))/\PyData.hasDict (.list (itD M))=false:=by
 have hf:∀d∈itD M,Fit 4000 2 d:=fun d hd=>by
  unfold itD at hd
  obtain⟨x,hx,rfl⟩:=List.mem_map.mp hd
  obtain⟨h1,h2⟩:=hc x hx
  have f1:Fit 1921 1 (.str ⟨#[x.1]⟩):=(zFs (a:=[x.1]) (fun c hcc=>by rw[List.mem_singleton.mp hcc];exact low_lt h1)).mono (by simp) (Nat.le_refl _)
  have f2:=zEU h2
  refine(zES (n:=1921) (m:=1) fun e he=>?_).mono (by simp) (by decide)
  rcases List.mem_cons.mp he with rfl|he
  ·exact f1
  ·rw[List.mem_singleton.mp he];exact f2
 refine⟨(zET hf).ok ?_ (by decide),?_⟩
 ·have:(itD M).length<=8:=by unfold itD;rw[List.length_map];exact h8
  have:=Nat.mul_le_mul_right (4000+2) this
  omega
 ·refine PyData.hasDict_of_canLay _ ?_
  rw[PyData.canLay0]
  clear hf h8
  induction M with
  |nil=>rfl
  |cons x M ih=>
   have e:itD (x::M)= .tuple [.str ⟨#[x.1]⟩, .int x.2]::itD M:=rfl
   rw[e,PyData.canLayAll0,ih fun y hy=>hc y (List.mem_cons_of_mem _ hy),Bool.and_true]
   have:=(hc x List.mem_cons_self).1
   simp only[PyData.canLay0,PyData.canLayAll0,PyData.strOk,Bool.and_true]
   simp;omega
where
 low_lt {c:Nat} (h:c<128):c<16^8:=by omega
end BrS
namespace L2
open PySem PySem.Spec PyProof.Rows
section
variable{X:Cx}
def rEqE(K:PySem.W.Frag)(f:Bool->Bool):R2:=fun x y H Q=>∃a b xs,x= .ref a/\y= .ref b/\SqL K H a xs/\SqL K H b []/\Q (.bl (f (decide (xs=[])))) H
theorem zM7(K:PySem.W.Frag)(hu:X.A.units<cLine)(hK:X.K=K:=by rfl):OpR X (compareOp .Eq) (rEqE K id):=by
 subst hK
 intro pins s σ H x y v u Q I rx ry ⟨a,b,xs,e1,e2,q1,q2,q⟩
 subst e1 e2
 cases rx
 cases ry
 obtain⟨us,r1,p1,z1⟩:=I.list q1
 obtain⟨ws,r2,p2,z2⟩:=I.list q2
 have l1:=r1.length
 have l2:=r2.length
 have ew:ws=[]:=List.eq_nil_of_length_eq_zero (by simpa using l2.symm)
 subst ew
 by_cases c:xs=[]
 ·subst c
  have eu:us=[]:=List.eq_nil_of_length_eq_zero (by simpa using l1.symm)
  subst eu
  exact SeqAt.RcAt.lists (e:=fun _=>true) p1.isList p2.isList rfl hu (fun j h1 h2=>absurd h1 (Nat.not_lt_zero _)) _ _ _ _ ⟨.bl true,H,I,rfl,by simpa using q⟩
 ·have hne:us.length≠0:=fun z=>c (List.eq_nil_of_length_eq_zero (by omega))
  exact SeqAt.RcAt.lists_lengths p1.isList p2.isList (by simpa using hne) hu _ _ _ _ ⟨.bl false,H,I,rfl,by rw[decide_eq_false c]at q;exact q⟩
theorem zM3(K:PySem.W.Frag)(hu:X.A.units<cLine)(hK:X.K=K:=by rfl):OpR X (compareOp .NotEq) (rEqE K not):=by
 subst hK
 intro pins s σ H x y v u Q I rx ry ⟨a,b,xs,e1,e2,q1,q2,q⟩
 subst e1 e2
 cases rx
 cases ry
 obtain⟨us,r1,p1,z1⟩:=I.list q1
 obtain⟨ws,r2,p2,z2⟩:=I.list q2
 have l1:=r1.length
 have l2:=r2.length
 have ew:ws=[]:=List.eq_nil_of_length_eq_zero (by simpa using l2.symm)
 subst ew
 by_cases c:xs=[]
 ·subst c
  have eu:us=[]:=List.eq_nil_of_length_eq_zero (by simpa using l1.symm)
  subst eu
  exact SeqAt.RcNeAt.lists (e:=fun _=>true) p1.isList p2.isList rfl hu (fun j h1 h2=>absurd h1 (Nat.not_lt_zero _)) _ _ _ _ ⟨.bl false,H,I,rfl,by simpa using q⟩
 ·have hne:us.length≠0:=fun z=>c (List.eq_nil_of_length_eq_zero (by omega))
  exact SeqAt.RcNeAt.lists_lengths p1.isList p2.isList (by simpa using hne) hu _ _ _ _ ⟨.bl true,H,I,rfl,by rw[decide_eq_false c]at q;exact q⟩
end
end L2
namespace BrS
open L2 PySem PySem.Spec PyProof.Rows BrM BrC BrB BrI BrR BrTs
theorem zKw{K:PySem.W.Frag}{H:Hp}{Q:VK}{l:Addr}{vs:List V}{L:List (Nat×Nat)}(hq:SqL K H l vs)(hP:Prl H vs L)(hn:(L.map (·.1)).Nodup)(h64:L.length<64)(q:∀ (p:Addr) (ws:List V) (M:List (Nat×Nat)),H p=none->M.Perm L->M.Pairwise (fun x y=>x.1<y.1)->Prl H ws M->Q (.ref p) (upd H p (.lst ws))):rSortP K [.ref l] H Q:=⟨l,vs,L,rfl,hq,hP,hn,h64,q⟩
theorem Sll.app{H:Hp}{vs ws:List V}{L M:List (Nat×Nat)}(h1:Sll H vs L)(h2:Sll H ws M):Sll H (vs++ws) (L++M):=by
 refine⟨by rw[List.length_append,List.length_append,h1.1,h2.1],fun m x hx=>?_⟩
 by_cases c:m<L.length
 ·rw[List.getElem?_append_left c]at hx
  obtain⟨T,e,g⟩:=h1.2 m x hx
  exact⟨T,by rw[List.getElem?_append_left (by rw[h1.1];exact c)];exact e,g⟩
 ·rw[List.getElem?_append_right (by omega)]at hx
  obtain⟨T,e,g⟩:=h2.2 _ x hx
  exact⟨T,by rw[List.getElem?_append_right (by rw[h1.1];omega),h1.1];exact e,g⟩
theorem zMp(L:List (Nat×Nat))(s e:Nat):((prD L).any fun d=>PyData.eqv d (.tuple [.int (s:Int), .int (e:Int)]))=decide ((s,e)∈L):=by
 induction L with
 |nil=>rfl
 |cons x L ih=>
  have e1:prD (x::L)= .tuple [.int x.1, .int x.2]::prD L:=rfl
  have e2:PyData.eqv (.tuple [.int (x.1:Int), .int (x.2:Int)]) (.tuple [.int (s:Int), .int (e:Int)])=decide ((s,e)=x):=by
   simp only[PyData.eqv,PyData.eqvAll,Bool.and_true]
   rw[Bool.eq_iff_iff,Bool.and_eq_true,beq_iff_eq,beq_iff_eq,decide_eq_true_eq]
   constructor
   ·rintro⟨h1,h2⟩
    obtain⟨a,b⟩:=x
    have h1:a=s:=by omega
    have h2:b=e:=by omega
    rw[h1,h2]
   ·rintro rfl;exact⟨rfl,rfl⟩
  rw[e1,List.any_cons,ih,e2,<-Bool.decide_or,decide_eq_decide,List.mem_cons]
def slD(L:List (Nat×Nat)):List PyData:=L.map fun x=> .tuple [.int x.1, .str ⟨[brs.getD x.2 0].toArray⟩]
theorem Sll.sds{p:Addr}{H:Hp}{vs:List V}{L:List (Nat×Nat)}{xs:List V}(h:Sll H vs L)(hp:H p=some (.lst xs)):Sds p H vs (slD L):=by
 refine zHd (by rw[h.1];unfold slD;rw[List.length_map]) fun m v d h1 h2=>?_
 unfold slD at h2
 rw[List.getElem?_map]at h2
 obtain⟨x,hx,rfl⟩:=Option.map_eq_some_iff.mp h2
 obtain⟨T,e,g⟩:=h.2 m x hx
 rw[h1]at e
 cases e
 exact .tup g (zBr g hp fun z=>by cases z) (.cons (.sc (.int _)) (.cons (.sc (.str _)) .nil))
theorem zKt{L:List (Nat×Nat)}(h:∀x∈L,x.1<1000):∀d∈slD L,Fit 4000 2 d:=fun d hd=>by
 unfold slD at hd
 obtain⟨x,hx,rfl⟩:=List.mem_map.mp hd
 have h1:=h x hx
 have f1:Fit 1921 1 (.str ⟨[brs.getD x.2 0].toArray⟩):=(zFs (a:=[brs.getD x.2 0]) (by have:=zL5 (l:=[x.2]);exact this)).mono (by simp) (Nat.le_refl _)
 have f2:Fit 1921 1 (.int (x.1:Int)):=zEU (Nat.lt_of_le_of_lt (show(x.1:Int).natAbs<=1000 by omega) (by decide))
 refine(zES (n:=1921) (m:=1) fun e he=>?_).mono (by simp) (by decide)
 rcases List.mem_cons.mp he with rfl|he
 ·exact f2
 ·rw[List.mem_singleton.mp he];exact f1
theorem zLQ{L:List (Nat×Nat)}(h:∀x∈L,x.1<1000/\x.2<1000):∀d∈prD L,Fit 4000 2 d:=fun d hd=>by
 unfold prD at hd
 obtain⟨x,hx,rfl⟩:=List.mem_map.mp hd
 obtain⟨h1,h2⟩:=h x hx
 have f1:Fit 1921 1 (.int (x.1:Int)):=zEU (Nat.lt_of_le_of_lt (show(x.1:Int).natAbs<=1000 by omega) (by decide))
 have f2:Fit 1921 1 (.int (x.2:Int)):=zEU (Nat.lt_of_le_of_lt (show(x.2:Int).natAbs<=1000 by omega) (by decide))
 refine(zES (n:=1921) (m:=1) fun e he=>?_).mono (by simp) (by decide)
 rcases List.mem_cons.mp he with rfl|he
 ·exact f1
 ·rw[List.mem_singleton.mp he];exact f2
def twoD(L M:List (Nat×Nat)):PyData:= .list [.tuple [.str ⟨([]:List Nat).toArray⟩, .list (slD L)], .tuple [.str ⟨([]:List Nat).toArray⟩, .list (prD M)]]
theorem zL9{L M:List (Nat×Nat)}(hL:L.length<=100)(hM:M.length<=100)(h1:∀x∈L,x.1<1000)(h2:∀x∈M,x.1<1000/\x.2<1000):ShOk (twoD L M):=by
 have f0:Fit 500000 3 (.str ⟨([]:List Nat).toArray⟩):=(zFs (a:=[]) (fun c hc=>nomatch hc)).mono (by decide) (by decide)
 have a1:=zET (zKt h1)
 have a2:=zET (zLQ h2)
 have l1:(slD L).length<=100:=by unfold slD;rw[List.length_map];exact hL
 have l2:(prD M).length<=100:=by unfold prD;rw[List.length_map];exact hM
 have m1:=Nat.mul_le_mul_right (4000+2) l1
 have m2:=Nat.mul_le_mul_right (4000+2) l2
 have b1:Fit 500000 3 (.list (slD L)):=a1.mono (by omega) (by decide)
 have b2:Fit 500000 3 (.list (prD M)):=a2.mono (by omega) (by decide)
 have c:∀ {x:PyData},Fit 500000 3 x->Fit 1100000 4 (.tuple [.str ⟨([]:List Nat).toArray⟩,x]):=fun{x} hx=>(zES (n:=500000) (m:=3) fun e he=>by
  rcases List.mem_cons.mp he with rfl|he
  ·exact f0
  ·rw[List.mem_singleton.mp he];exact hx).mono (by simp) (by decide)
 refine(zET (n:=1100000) (m:=4) fun e he=>?_).ok (by simp) (by decide)
 rcases List.mem_cons.mp he with rfl|he
 ·exact c b1
 ·rw[List.mem_singleton.mp he];exact c b2
def Fll28(H:Hp)(D:Addr)(vs:List V)(k:Nat)(a:List Nat):Prop:=H D=some (.lst vs)/\vs.length=(ress k a).length/\∀ (i:Nat) (l:List Nat),(ress k a)[i]? =some l->∃p:Addr,vs[i]? =some (V.ref p)/\H p=some (.lst (nL l))
theorem Fll28.same{H H':Hp}{D:Addr}{vs:List V}{k:Nat}{a:List Nat}(h:Fll28 H D vs k a)(s:Same H H'):Fll28 H' D vs k a:=⟨s _ _ h.1,h.2.1,fun i l hl=>let⟨p,x,y⟩:=h.2.2 i l hl;⟨p,x,s _ _ y⟩⟩
def spSure28:Sp:=fun vs H Q _=>∃ (k:Int) (a:List Nat) (D:Addr) (fs:List V),vs=[.int k,tx a, .ref D]/\1<=k/\k<=4/\isRow k a=true/\a.length<=9/\Fll28 H D fs k.toNat a/\ress k.toNat a≠[]/\∀H',Same H H'->Q (.bl true) H'
theorem zGM{k:Nat}(hk:k<=4){a:List Nat}:ress k a=[]↔cnt k a=0:=by
 have h:=zGL (P:=P1 k a) (k:=k) (a:=a) fun j c hj hc ho=>by rw[zGw hk hj hc,if_neg (by rw[ho];decide)]
 have e:cnt k a=sms ((ress k a).map (wtl (P1 k a) 0)):=h.symm
 have one:∀m∈ress k a,wtl (P1 k a) 0 m=1:=fun m hm=>by
  obtain⟨h1,h2,h3⟩:=mem_ress.mp hm
  refine zFU fun j hj=>?_
  rw[Nat.zero_add,zGw hk (by omega) (zDN m [] [] h1 _ (zBY hj)),if_pos (h3 j hj)]
 rw[e]
 have:(ress k a).map (wtl (P1 k a) 0)=(ress k a).map fun _=>(1:Int):=List.map_congr_left one
 rw[this]
 have hs:∀L:List (List Nat),sms (L.map fun _=>(1:Int))=L.length:=fun L=>by
  induction L with
  |nil=>rfl
  |cons x L ih=>rw[List.map_cons,sms_cons,ih,List.length_cons];omega
 rw[hs]
 constructor
 ·intro z;rw[z];rfl
 ·intro z;exact List.eq_nil_of_length_eq_zero (by omega)
end BrS
theorem L2.nbk{P:(L2.St->L2.Hp->Prop)->Prop}{C:L2.St->L2.Hp->Prop}(h:∀b,P b):P C:=h C
namespace Bk
open PySem L2 BrM BrR BrS BrC BrB BrI
def top(i:Nat):Stmt:=PySem.Challenge.pw_bracketrows_k28_what_stands_there.main.body.getD i (.Pass ⟨0,0,0,0⟩)
abbrev zCh:Stmt:=top 13
abbrev zBo:Stmt:=top 14
abbrev zBz:Stmt:=top 15
abbrev zB0:Stmt:=top 16
abbrev zBn:Stmt:=top 17
abbrev zAs:Stmt:=top 19
abbrev zBL:Stmt:=top 20
abbrev zB6:Stmt:=top 21
abbrev zCR:Stmt:=top 22
abbrev zCG:Stmt:=top 23
abbrev zCF:Stmt:=top 24
abbrev zBQ:Stmt:=top 25
abbrev zBD:Stmt:=top 26
abbrev zBG:Stmt:=top 27
abbrev zEX:Stmt:=top 29
abbrev zBB:Stmt:=top 30
abbrev zBA:Stmt:=top 31
abbrev zBI:Stmt:=top 32
abbrev zCf:Stmt:=top 34
abbrev zCg:Stmt:=top 35
abbrev zCH:Stmt:=top 36
abbrev zCS:Stmt:=top 37
abbrev zBF:Stmt:=top 38
abbrev zCe:Stmt:=top 40
abbrev zBa:Stmt:=top 41
abbrev zAt:Stmt:=top 42
abbrev zFE:Stmt:=top 43
structure Txt (K:PySem.W.Frag) (mg:Str->Option Value) (aK:Addr) (cs:Cs):Prop where
 n_ValueError:mg "ValueError"=none
 n_all:mg "all"=none
 n_bool:mg "bool"=none
 n_dict:mg "dict"=none
 n_enumerate:mg "enumerate"=none
 n_int:mg "int"=none
 n_isinstance:mg "isinstance"=none
 n_len:mg "len"=none
 n_list:mg "list"=none
 n_max:mg "max"=none
 n_min:mg "min"=none
 n_range:mg "range"=none
 n_repr:mg "repr"=none
 n_sorted:mg "sorted"=none
 n_str:mg "str"=none
 n_sum:mg "sum"=none
 n_zip:mg "zip"=none
 g_OPENING:∃u,mg "OPENING"=some u/\RelV (tx [40,91,123,60]) u
 g_CLOSING:∃u,mg "CLOSING"=some u/\RelV (tx [41,93,125,62]) u
 g_KINDS:∃u,mg "KINDS"=some u/\RelV (.ref aK) u
 t_KINDS:∀H,SqT K H aK [tx [40,41],tx [91,93],tx [123,125],tx [60,62]]
 g_BRACKETS:∃u,mg "BRACKETS"=some u/\RelV (tx [40,41,91,93,123,125,60,62]) u
 g_UNKNOWN:∃u,mg "UNKNOWN"=some u/\RelV (tx [63]) u
 g_MOST_SIGNS:∃u,mg "MOST_SIGNS"=some u/\RelV (.int 40) u
 c_RowError:mg "RowError"=some (.ref cs.RowError)
 e_RowError:ECls K cs.RowError
 c_NoKinds:mg "NoKinds"=some (.ref cs.NoKinds)
 e_NoKinds:ECls K cs.NoKinds
 c_NoLine:mg "NoLine"=some (.ref cs.NoLine)
 e_NoLine:ECls K cs.NoLine
 c_NoPlace:mg "NoPlace"=some (.ref cs.NoPlace)
 e_NoPlace:ECls K cs.NoPlace
 c_NoFilling:mg "NoFilling"=some (.ref cs.NoFilling)
 e_NoFilling:ECls K cs.NoFilling
 m_NoKinds:PySem.W.mroIn K cs.NoKinds (.ref cs.RowError)=some true
 v_NoKinds:PySem.W.kitOne K (.ref cs.NoKinds) (.type "ValueError")=some true
 k_NoKinds_RowError:PySem.W.kitOne K (.ref cs.NoKinds) (.ref cs.RowError)=some true
 k_NoKinds_NoKinds:PySem.W.kitOne K (.ref cs.NoKinds) (.ref cs.NoKinds)=some true
 k_NoKinds_NoLine:PySem.W.kitOne K (.ref cs.NoKinds) (.ref cs.NoLine)=some false
 k_NoKinds_NoPlace:PySem.W.kitOne K (.ref cs.NoKinds) (.ref cs.NoPlace)=some false
 k_NoKinds_NoFilling:PySem.W.kitOne K (.ref cs.NoKinds) (.ref cs.NoFilling)=some false
 m_NoLine:PySem.W.mroIn K cs.NoLine (.ref cs.RowError)=some true
 v_NoLine:PySem.W.kitOne K (.ref cs.NoLine) (.type "ValueError")=some true
 k_NoLine_RowError:PySem.W.kitOne K (.ref cs.NoLine) (.ref cs.RowError)=some true
 k_NoLine_NoKinds:PySem.W.kitOne K (.ref cs.NoLine) (.ref cs.NoKinds)=some false
 k_NoLine_NoLine:PySem.W.kitOne K (.ref cs.NoLine) (.ref cs.NoLine)=some true
 k_NoLine_NoPlace:PySem.W.kitOne K (.ref cs.NoLine) (.ref cs.NoPlace)=some false
 k_NoLine_NoFilling:PySem.W.kitOne K (.ref cs.NoLine) (.ref cs.NoFilling)=some false
 m_NoPlace:PySem.W.mroIn K cs.NoPlace (.ref cs.RowError)=some true
 v_NoPlace:PySem.W.kitOne K (.ref cs.NoPlace) (.type "ValueError")=some true
 k_NoPlace_RowError:PySem.W.kitOne K (.ref cs.NoPlace) (.ref cs.RowError)=some true
 k_NoPlace_NoKinds:PySem.W.kitOne K (.ref cs.NoPlace) (.ref cs.NoKinds)=some false
 k_NoPlace_NoLine:PySem.W.kitOne K (.ref cs.NoPlace) (.ref cs.NoLine)=some false
 k_NoPlace_NoPlace:PySem.W.kitOne K (.ref cs.NoPlace) (.ref cs.NoPlace)=some true
 k_NoPlace_NoFilling:PySem.W.kitOne K (.ref cs.NoPlace) (.ref cs.NoFilling)=some false
 m_NoFilling:PySem.W.mroIn K cs.NoFilling (.ref cs.RowError)=some true
 v_NoFilling:PySem.W.kitOne K (.ref cs.NoFilling) (.type "ValueError")=some true
 k_NoFilling_RowError:PySem.W.kitOne K (.ref cs.NoFilling) (.ref cs.RowError)=some true
 k_NoFilling_NoKinds:PySem.W.kitOne K (.ref cs.NoFilling) (.ref cs.NoKinds)=some false
 k_NoFilling_NoLine:PySem.W.kitOne K (.ref cs.NoFilling) (.ref cs.NoLine)=some false
 k_NoFilling_NoPlace:PySem.W.kitOne K (.ref cs.NoFilling) (.ref cs.NoPlace)=some false
 k_NoFilling_NoFilling:PySem.W.kitOne K (.ref cs.NoFilling) (.ref cs.NoFilling)=some true
section
variable{P:Program}{w:World}{K:PySem.W.Frag}{mg:Str->Option Value}{base:Heap}{f aK aC:Addr}{cs:Cs}{fd:FuncData}{k:Nat}
local macro_rules | `(tactic| walk_at "st") => `(tactic| first
  | with_reducible refine zNy ?_
  | with_reducible refine zOE ?_
  | with_reducible refine zMI ?_
  | ((with_reducible refine zNq (v := ?v) ?e ?_); (case e => exact rfl))
  | with_reducible refine s_c ?_
  | with_reducible refine zOU ?_
  | with_reducible refine zOW ?_
  | with_reducible refine zMD ?_
  | with_reducible refine zI7 ?_
  | with_reducible refine zMb ?_
  | with_reducible refine zLE ?_
  | with_reducible refine zKz ?_
  | with_reducible refine zNt ?_
  | with_reducible refine s_try0 ?_
  | with_reducible refine zMZ ?_
  | with_reducible refine zN1 ?_
  | with_reducible refine zOX ?_
  | with_reducible refine zNz ?_
  | with_reducible refine zN6 ?_
  | with_reducible refine zNs ?_
  | with_reducible refine zMX ?_
  | with_reducible refine zMH ?_
  | with_reducible refine s_cont ?_
  | with_reducible refine s_break ?_
  | with_reducible refine zMV ?_
  | with_reducible refine zLA ?_
  | with_reducible refine zMU ?_
  | with_reducible refine zOQ ?_
  | with_reducible refine zN2 ?_
  | with_reducible refine zN8 ?_
  | with_reducible refine zOF ?_
  | with_reducible refine zOT ?_
  | with_reducible refine zN0 ?_
  | with_reducible refine zMd ?_
  | with_reducible refine s_orV ?_
  | with_reducible refine zMG ?_
  | with_reducible refine zNu ?_
  | with_reducible refine zLD ?_
  | with_reducible refine zMC ?_
  | with_reducible refine s_truN ?_
  | with_reducible refine zMe ?_
  | with_reducible refine zME ?_
  | with_reducible refine zOB ?_
  | with_reducible refine zOA ?_
  | with_reducible refine s_eqB ?_
  | with_reducible refine s_neI ?_
  | with_reducible refine zN3 ?_
  | with_reducible refine s_neB ?_
  | with_reducible refine zN7 ?_
  | with_reducible refine s_notinT ?_
  | with_reducible refine zOR ?_
  | with_reducible refine zJH ?_
  | with_reducible refine zMF ?_
  | with_reducible refine zK0 ?_
  | with_reducible refine zN5 ?_
  | with_reducible refine zN4 ?_
  | with_reducible refine zMQ ?_
  | with_reducible refine s_intI ?_
  | with_reducible refine zOY ?_
  | with_reducible refine zOC ?_
  | with_reducible refine zN9 ?_
  | with_reducible refine zK6 ?_
  | with_reducible refine s_irng2 ?_
  | with_reducible refine zK5 ?_
  | with_reducible refine zMc ?_
  | with_reducible refine zK7 ?_
  | with_reducible refine zMM ?_
  | with_reducible refine zK4 ?_
  | with_reducible refine zMS ?_
  | with_reducible refine zK8 ?_
  | with_reducible refine zMT ?_
  | with_reducible refine zMa ?_
  | with_reducible refine s_rev ?_
  | with_reducible refine s_revI ?_
  | with_reducible refine s_irev ?_
  | with_reducible refine zNr ?_
  | ((with_reducible refine s_irevT ?e ?_); (case e => first | assumption | exact small (by omega)))
  | ((with_reducible refine s_revT ?e ?_); (case e => first | assumption | exact small (by omega)))
  | with_reducible refine zNp ?_
  | with_reducible refine zLB ?_
  | with_reducible refine zMY ?_
  | with_reducible refine zK9 ?_
  | with_reducible refine zKx ?_
  | ((with_reducible refine zOD (x := ?x) ?e ?_); (case e => exact rfl))
  | with_reducible refine zGs ?_
  | ((with_reducible refine zOV ?e ?_); (case e => exact rfl))
  | ((with_reducible refine s_isnot ?e ?_); (case e => exact rfl))
  | ((with_reducible refine zAf (xs := ?xs) (v := ?v) ?h ?e ?_); (case h => assumption); (case e => exact rfl))
  | ((with_reducible refine zOS ?e ?_); (case e => first | (exact (show (0 : Int) < _ by omega)) | (exact ⟨by omega, by omega⟩) | (exact ⟨by decide, by decide, by decide⟩)))
  | ((with_reducible refine zMJ ?e ?_); (case e => first | exact .inl ⟨by omega, by omega⟩ | exact .inr ⟨by omega, by omega⟩))
  | ((with_reducible refine zKE ?e ?_); (case e => first | assumption | exact small (by omega)))
  | ((with_reducible refine zGJ ?e ?_); (case e => first | exact small (by omega) | exact small (by simp only [List.length_append, List.length_cons, List.length_nil]; omega)))
  | ((with_reducible refine zNw ?e ?_); (case e => first | assumption | exact small (by omega) | exact small (by simp only [List.length_append, List.length_cons, List.length_nil]; omega)))
  )
local macro_rules | `(tactic| walk_at "go") => `(tactic| repeat (walk_at "st"))
theorem zFZ:FnScope ["thing"] ["thing"] (defScope zCh):=⟨rfl,rfl,rfl,by decide +kernel,rfl,by decide +kernel,by decide +kernel⟩
theorem zFk(F:Fun K "is_whole" "is_whole" zCh f fd)(T:Txt K mg aK cs):FnOk P w K mg base CX0 (k+1) f fd ["thing"] (spWhole K):=by
 refine F.ok zFZ (fun vs H Q E h=>?_) (fun cdv A outer s H vs Q E hr h=>?_)
 ·obtain⟨x,T',rfl,_⟩:=h;rfl
 obtain⟨x,ty,rfl,hT,hp,q⟩:=h
 refine⟨_,(zAI (zAX (zMy (zAM (zBh K) rfl T.n_isinstance PyProof.Rows.boot_isinstance (zAA (pv 0) (zAA (zGv T.n_int PyProof.Rows.boot_int) zAB))) (zMv (zMw (zAM (zBh K) rfl T.n_isinstance PyProof.Rows.boot_isinstance (zAA (pv 0) (zAA (zGv T.n_bool PyProof.Rows.boot_bool) zAB)))))))),?_⟩
 walk_at "go"
 have hp':ty="NoneType"\/ty="bool"\/ty="int"\/ty="str"\/ty="list"\/ty="tuple"\/ty="dict":=by simpa[plainTy]using hp
 rcases hp' with rfl|rfl|rfl|rfl|rfl|rfl|rfl
 ·refine zCo (b:=false) hT (by with_unfolding_all rfl) (zI7 (iteF ?_));exact q
 ·refine zCo (b:=true) hT (by with_unfolding_all rfl) (zI7 (iteT ?_))
  walk_at "go"
  refine zCo (b:=true) hT (by with_unfolding_all rfl) (zI7 ?_);exact q
 ·refine zCo (b:=true) hT (by with_unfolding_all rfl) (zI7 (iteT ?_))
  walk_at "go"
  refine zCo (b:=false) hT (by with_unfolding_all rfl) (zI7 ?_);exact q
 ·refine zCo (b:=false) hT (by with_unfolding_all rfl) (zI7 (iteF ?_));exact q
 ·refine zCo (b:=false) hT (by with_unfolding_all rfl) (zI7 (iteF ?_));exact q
 ·refine zCo (b:=false) hT (by with_unfolding_all rfl) (zI7 (iteF ?_));exact q
 ·refine zCo (b:=false) hT (by with_unfolding_all rfl) (zI7 (iteF ?_));exact q
theorem zDb:FnScope ["k"] ["k"] (defScope zBo):=⟨rfl,rfl,rfl,by decide +kernel,rfl,by decide +kernel,by decide +kernel⟩
theorem zDe(F:Fun K "check_kinds" "check_kinds" zBo f fd)(T:Txt K mg aK cs)(U_is_whole:FnU P w K mg base k "is_whole" ["thing"] (spWhole K)):FnOk P w K mg base (CXE P w) (k+1) f fd ["k"] (spKindsE K cs):=by
 refine F.okE zDb (fun vs H Q E h=>?_) (fun cdv A outer s H vs Q E hr h=>?_)
 ·rcases h with⟨x,rfl,_⟩|⟨v,rfl,_⟩<;>rfl
 rcases h with⟨x,rfl,h1,h2,q⟩|⟨v,rfl,⟨ty,hT,hp,hi⟩,r⟩
 ·refine zCO ⟨_,(zAI (zA6 (PW.pt (zEB (zBN (zBd K (zAb U_is_whole hr (zAA (pv 0) zAB)))) (zCK (zBN (zCr zGx zGx zAH (pv 0) (zAM (zAU K) rfl T.n_len PySem.boot_len (zAA (zBm T.g_KINDS) zAB))))))) (zAI zCs) zAZ)),?_⟩
  walk_at "go"
  refine zEg ?_
  walk_at "go"
  refine ifq rfl ?_
  walk_at "go"
  refine ifp (decide_eq_true h1) ?_
  walk_at "go"
  refine zBS (.inr (T.t_KINDS H)) ?_
  walk_at "go"
  refine ifq (by simp;omega) ?_
  walk_at "go"
  exact q
 ·refine⟨_,(zAI (zA6 (PW.pt (zEB (zBN (zBd K (zAb U_is_whole hr (zAA (pv 0) zAB)))) (zCK (zBN (zCr zGx zGx zAH (pv 0) (zAM (zAU K) rfl T.n_len PySem.boot_len (zAA (zBm T.g_KINDS) zAB))))))) (zAI (zCL T.e_NoKinds T.c_NoKinds hr.hd zFF (zAA (zBH (l:=[116,104,101,32,110,117,109,98,101,114,32,111,102,32,107,105,110,100,115,32,105,115,32,97,32,119,104,111,108,101,32,110,117,109,98,101,114,32,102,114,111,109,32,49,32,116,111,32,52]) (by decide +kernel)) zAB))) zAZ)),?_⟩
  walk_at "go"
  refine⟨v,ty,rfl,hT,hp,?_⟩
  walk_at "go"
  by_cases e:ty="int"
  ·subst e
   obtain⟨i,rfl⟩:=hT.int_of rfl
   ·have hi:=hi i rfl
    rw[decide_eq_true rfl]
    refine ifq rfl ?_
    walk_at "go"
    by_cases h1:1<=i
    ·refine ifp (decide_eq_true h1) ?_
     walk_at "go"
     refine zBS (.inr (T.t_KINDS H)) ?_
     walk_at "go"
     refine ifp (by simp;omega) ?_
     walk_at "go"
     exact⟨small (by decide),fun y hy=>r y H (Same.refl H) hy⟩
    ·refine ifq (decide_eq_false h1) ?_
     walk_at "go"
     refine ifp rfl ?_
     walk_at "go"
     exact⟨small (by decide),fun y hy=>r y H (Same.refl H) hy⟩
  ·rw[decide_eq_false e]
   refine ifp rfl ?_
   walk_at "go"
   refine ifp rfl ?_
   walk_at "go"
   exact⟨small (by decide),fun y hy=>r y H (Same.refl H) hy⟩
theorem sc_is_line:FnScope ["k","thing","signs"] ["k","thing"] (defScope zBz):=⟨rfl,rfl,rfl,by decide +kernel,rfl,by decide +kernel,by decide +kernel⟩
theorem zG1(F:Fun K "is_line" "is_line" zBz f fd)(T:Txt K mg aK cs)(U_check_kinds:FnUE P w K mg base k "check_kinds" ["k"] (spKindsE K cs)):FnOk P w K mg base (CXE P w) (k+1) f fd ["k","thing"] (spLineE K cs):=by
 refine F.okE sc_is_line (fun vs H Q E h=>?_) (fun cdv A outer s H vs Q E hr h=>?_)
 ·rcases h with⟨kk,x,rfl,_⟩|⟨kv,v,rfl,_⟩<;>rfl
 rcases h with⟨kk,x,rfl,h1,h2,hx⟩|⟨kv,v,rfl,hk,r⟩
 rotate_left
 ·refine⟨_,(zAD (zAg (zAw U_check_kinds hr zB1 (zAA (pv 0) zAB))) (zAD (zA6 (PW.pt (zEB (zBN (zBd K (zAM (zBh K) rfl T.n_isinstance PyProof.Rows.boot_isinstance (zAA (pv 1) (zAA (zGv T.n_str PyProof.Rows.boot_str) zAB))))) (zCK (zAP zJd (zAM (zAU K) rfl T.n_len PySem.boot_len (zAA (pv 1) zAB)) (zBm T.g_MOST_SIGNS) (nomark _))))) (zAI (zAX zEE)) zAZ) (zAD (zAO (i:=2) sc_is_line.nd rfl (Or.inr rfl) (zAQ zAR (zAQ zAR (zBl (zKs K) (zBm T.g_OPENING) zCD (zCC (pv 0))) (zBl (zKs K) (zBm T.g_CLOSING) zCD (zCC (pv 0)))) (zBm T.g_UNKNOWN))) (zAI (zAX (zAM (zFO K rfl) rfl T.n_all PyProof.Rows.boot_all (zAA (zBJ (own:=["sign"]) (sel:=[2]) (zAY (osc:=(defScope zBz)) (N:=["k","thing","signs"]) (by decide +kernel)) rfl (zGT (pv 1)) (fun _ _ _ _ _=>(zAK (i:=0) (show(["sign","signs"]:List Str).Nodup from by decide +kernel) rfl (Or.inl rfl))) (zAW (by decide)) (fun _ _ _ _ _=>zBX) (fun _ _ _ _ _=>(zDC (zEz K) (pv 0) (pv 1) (by with_unfolding_all rfl)))) zAB))))))),?_⟩
  walk_at "go"
  exact .inr ⟨kv,rfl,hk,r.pass (Same.refl H)⟩
 ·refine zCO ⟨_,(zAD (zAg (zAw U_check_kinds hr zDZ (zAA (pv 0) zAB))) (zAD (zA6 (PW.pt (zEB (zBN (zBd K (zAM (zBh K) rfl T.n_isinstance PyProof.Rows.boot_isinstance (zAA (pv 1) (zAA (zGv T.n_str PyProof.Rows.boot_str) zAB))))) (zCK (zAP zJd (zAM (zAU K) rfl T.n_len PySem.boot_len (zAA (pv 1) zAB)) (zBm T.g_MOST_SIGNS) (nomark _))))) (zAI (zAX zEE)) zAZ) (zAD (zAO (i:=2) sc_is_line.nd rfl (Or.inr rfl) (zAQ zAR (zAQ zAR (zBl (zKs K) (zBm T.g_OPENING) zCD (zCC (pv 0))) (zBl (zKs K) (zBm T.g_CLOSING) zCD (zCC (pv 0)))) (zBm T.g_UNKNOWN))) (zAI (zAX (zAM (zFO K rfl) rfl T.n_all PyProof.Rows.boot_all (zAA (zBJ (own:=["sign"]) (sel:=[2]) (zAY (osc:=(defScope zBz)) (N:=["k","thing","signs"]) (by decide +kernel)) rfl (zGT (pv 1)) (fun _ _ _ _ _=>(zAK (i:=0) (show(["sign","signs"]:List Str).Nodup from by decide +kernel) rfl (Or.inl rfl))) (zAW (by decide)) (fun _ _ _ _ _=>zBX) (fun _ _ _ _ _=>(zDC (zEz K) (pv 0) (pv 1) (by with_unfolding_all rfl)))) zAB))))))),?_⟩
  walk_at "go"
  refine .inl (zIC h1 h2 ?_)
  walk_at "go"
  rcases hx with⟨a,rfl,ha,q⟩|⟨ty,hT,hp,hs,q⟩
  ·refine zCo (b:=true) (TyOf.str _) (by with_unfolding_all rfl) ?_
   walk_at "go"
   refine ifq rfl ?_
   walk_at "go"
   refine ifd (fun hc=>?_) (fun hc=>?_)
   ·walk_at "go"
    have e:isRow kk a=false:=by unfold isRow;rw[decide_eq_false (by omega),Bool.false_and]
    have:=q H (Same.refl H)
    rw[e]at this
    exact this
   ·walk_at "go"
    rw[zGg _ (by omega),zGg _ (by omega)]
    have l1:((([40,91,123,60]:List Nat)).take kk.toNat).length<=4:=by rw[List.length_take];exact Nat.min_le_right _ _
    have l2:((([41,93,125,62]:List Nat)).take kk.toNat).length<=4:=by rw[List.length_take];exact Nat.min_le_right _ _
    first|refine zGJ (small (by omega)) ?_ |skip
    walk_at "go"
    first|refine zGJ (small (by rw[List.length_append,List.length_singleton];omega)) ?_ |skip
    walk_at "go"
    refine zCI (n:=a.length) (fun D i ys H'=>ys=((a.take i).map fun c=>V.bl (decide (c∈sgn kk)))/\SameBut1 D H H') (fun D hD=>⟨rfl,SameBut1.of (zAF hD _)⟩) (fun D i ys H' _ hi _ _=>by simpa[Its]using hi) (fun D ys H' hD hD' hl ⟨e,sH⟩=>⟨by simp[Its],?_⟩) ?_
    ·rw[List.take_length]at e
     subst e
     have hS:SqL K H' D ((a.map fun c=>decide (c∈sgn kk)).map V.bl):=by
      rw[List.map_map];exact SqL.of hD'
     refine zOG hS ?_
     have e2:((a.map fun c=>decide (c∈sgn kk)).all id)=isRow kk a:=by
      unfold isRow
      rw[decide_eq_true (by omega),Bool.true_and,List.all_map]
      rfl
     rw[e2]
     exact q H' fun b o z=>sH b o z (zAE z hD)
    ·rintro D i ys H' x H3 hD hi hD' hl ⟨e,sH⟩ ⟨rfl,c,ec,rfl⟩
     have ec':a[i]? =some c:=by simpa using ec
     show gName 0 (tx [c]) _ _ _
     walk_at "go"
     refine iteT ?_
     walk_at "go"
     refine zCT hi (small (by omega)) hD' hl ⟨?_,sH.trans SameBut1.upd⟩
     rw[e,List.take_add_one,ec']
     simp only[Option.toList_some,List.map_append,List.map_cons,List.map_nil]
     rfl
  ·have hp':ty="NoneType"\/ty="bool"\/ty="int"\/ty="list"\/ty="tuple"\/ty="dict":=by
    have:ty="NoneType"\/ty="bool"\/ty="int"\/ty="str"\/ty="list"\/ty="tuple"\/ty="dict":=by simpa[plainTy]using hp
    rcases this with z|z|z|z|z|z|z
    ·exact .inl z
    ·exact .inr (.inl z)
    ·exact .inr (.inr (.inl z))
    ·exact absurd z hs
    ·exact .inr (.inr (.inr (.inl z)))
    ·exact .inr (.inr (.inr (.inr (.inl z))))
    ·exact .inr (.inr (.inr (.inr (.inr z))))
   have fin:PySem.W.kitOne K (.type ty) (.type "str")=some false:=by
    rcases hp' with rfl|rfl|rfl|rfl|rfl|rfl<;>with_unfolding_all rfl
   refine zCo (b:=false) hT fin ?_
   walk_at "go"
   refine ifp rfl ?_
   walk_at "go"
   refine ifp rfl ?_
   walk_at "go"
   exact q
theorem zD7:FnScope ["k","row"] ["k","row"] (defScope zB0):=⟨rfl,rfl,rfl,by decide +kernel,rfl,by decide +kernel,by decide +kernel⟩
theorem zEI(F:Fun K "check_line" "check_line" zB0 f fd)(T:Txt K mg aK cs)(U_is_line:FnUE P w K mg base k "is_line" ["k","thing"] (spLineE K cs)):FnOk P w K mg base (CXE P w) (k+1) f fd ["k","row"] (spGateE K cs spCheckLine):=by
 refine F.okE zD7 (fun vs H Q E h=>?_) (fun cdv A outer s H vs Q E hr h=>?_)
 ·rcases h with⟨kk,a,rfl,_⟩|⟨kv,v,rfl,_⟩<;>rfl
 rcases h with⟨kk,a,rfl,h1,h2,ha,q⟩|⟨kv,v,rfl,⟨hk,r⟩|⟨kk,rfl,h1,h2,hn,r⟩⟩
 ·refine zCO ⟨_,(zAI (zA6 (zBN (zBd K (zAw U_is_line hr zDZ (zAA (pv 0) (zAA (pv 1) zAB))))) (zAI zCs) zAZ)),?_⟩
  have hl:=zBg ha
  walk_at "go"
  refine .inl (zJf h1 h2 (by omega) (fun H' sH=>?_))
  walk_at "go"
  refine ifq (by rw[ha];rfl) ?_
  walk_at "go"
  exact q H' sH
 ·refine⟨_,(zAI (zA6 (zBN (zBd K (zAw U_is_line hr zB1 (zAA (pv 0) (zAA (pv 1) zAB))))) (zAI (zCL T.e_NoLine T.c_NoLine hr.hd zFF (zAA (zBH (l:=[97,32,114,111,119,32,105,115,32,97,32,116,101,120,116,32,111,102,32,97,116,32,109,111,115,116,32,102,111,114,116,121,32,98,114,97,99,107,101,116,115,32,111,102,32,116,104,101,32,107,105,110,100,115,32,116,104,101,114,101,32,97,114,101,44,32,97,110,100,32,63]) (by decide +kernel)) zAB))) zAZ)),?_⟩
  walk_at "go"
  exact .inr ⟨kv,v,rfl,hk,r.pass (Same.refl H)⟩
 ·refine⟨_,(zAI (zA6 (zBN (zBd K (zAw U_is_line hr zB1 (zAA (pv 0) (zAA (pv 1) zAB))))) (zAI (zCL T.e_NoLine T.c_NoLine hr.hd zFF (zAA (zBH (l:=[97,32,114,111,119,32,105,115,32,97,32,116,101,120,116,32,111,102,32,97,116,32,109,111,115,116,32,102,111,114,116,121,32,98,114,97,99,107,101,116,115,32,111,102,32,116,104,101,32,107,105,110,100,115,32,116,104,101,114,101,32,97,114,101,44,32,97,110,100,32,63]) (by decide +kernel)) zAB))) zAZ)),?_⟩
  walk_at "go"
  refine zG2 h1 h2 hn (fun H1 s1=>?_)
  walk_at "go"
  refine ifp rfl ?_
  walk_at "go"
  exact⟨small (by decide),fun y hy=>r y H1 s1 (s1.free hy)⟩
theorem zDa:FnScope ["row","i"] ["row","i"] (defScope zBn):=⟨rfl,rfl,rfl,by decide +kernel,rfl,by decide +kernel,by decide +kernel⟩
theorem zDd(F:Fun K "check_place" "check_place" zBn f fd)(T:Txt K mg aK cs)(U_is_whole:FnU P w K mg base k "is_whole" ["thing"] (spWhole K)):FnOk P w K mg base (CXE P w) (k+1) f fd ["row","i"] (spPlaceE K cs):=by
 refine F.okE zDa (fun vs H Q E h=>?_) (fun cdv A outer s H vs Q E hr h=>?_)
 ·obtain⟨a,v,rfl,_⟩:=h;rfl
 obtain⟨a,v,rfl,hl,⟨i,rfl,h0,h1,q⟩|⟨⟨ty,hT,hp,hi⟩,r⟩⟩:=h
 ·refine zCO ⟨_,(zAI (zA6 (PW.pt (zEB (zBN (zBd K (zAb U_is_whole hr (zAA (pv 1) zAB)))) (zCK (zBN (zCr zGx zH2 zAH (pv 1) (zAM (zAU K) rfl T.n_len PySem.boot_len (zAA (pv 0) zAB))))))) (zAI zCs) zAZ)),?_⟩
  walk_at "go"
  refine zEg ?_
  walk_at "go"
  refine ifq rfl ?_
  walk_at "go"
  refine ifp (decide_eq_true h0) ?_
  walk_at "go"
  refine ifq (by simp;omega) ?_
  walk_at "go"
  exact q
 ·refine⟨_,(zAI (zA6 (PW.pt (zEB (zBN (zBd K (zAb U_is_whole hr (zAA (pv 1) zAB)))) (zCK (zBN (zCr zGx zH2 zAH (pv 1) (zAM (zAU K) rfl T.n_len PySem.boot_len (zAA (pv 0) zAB))))))) (zAI (zCL T.e_NoPlace T.c_NoPlace hr.hd zFF (zAA (zBH (l:=[97,32,112,108,97,99,101,32,105,115,32,97,32,119,104,111,108,101,32,110,117,109,98,101,114,32,102,114,111,109,32,48,32,111,110,44,32,98,101,108,111,119,32,116,104,101,32,108,101,110,103,116,104,32,111,102,32,116,104,101,32,114,111,119]) (by decide +kernel)) zAB))) zAZ)),?_⟩
  walk_at "go"
  refine⟨v,ty,rfl,hT,hp,?_⟩
  walk_at "go"
  by_cases e:ty="int"
  ·subst e
   obtain⟨i,rfl⟩:=hT.int_of rfl
   have hi:=hi i rfl
   rw[decide_eq_true rfl]
   refine ifq rfl ?_
   walk_at "go"
   by_cases h1:0<=i
   ·refine ifp (decide_eq_true h1) ?_
    walk_at "go"
    refine ifp (by simp;omega) ?_
    walk_at "go"
    exact⟨small (by decide),fun y hy=>r y H (Same.refl H) hy⟩
   ·refine ifq (decide_eq_false h1) ?_
    walk_at "go"
    refine ifp rfl ?_
    walk_at "go"
    exact⟨small (by decide),fun y hy=>r y H (Same.refl H) hy⟩
  ·rw[decide_eq_false e]
   refine ifp rfl ?_
   walk_at "go"
   refine ifp rfl ?_
   walk_at "go"
   exact⟨small (by decide),fun y hy=>r y H (Same.refl H) hy⟩
theorem zCX:FnScope ["row","weights"] ["row","weights"] (defScope zAs):=⟨rfl,rfl,rfl,by decide +kernel,rfl,by decide +kernel,by decide +kernel⟩
theorem zCa(F:Fun K "weighed_places" "weighed_places" zAs f fd)(T:Txt K mg aK cs):FnOk P w K mg base CX0 (k+1) f fd ["row","weights"] (spWeighed K):=by
 refine F.ok zCX (fun vs H Q E h=>?_) (fun cdv A outer s H vs Q E hr h=>?_)
 ·obtain⟨a,p,w',rfl,_⟩:=h;rfl
 obtain⟨a,p,w',rfl,ha,hp,hw,q⟩:=h
 have hu:=hr.units0
 refine⟨_,(zAI (zAX (zJY (own:=["sign"]) (sel:=[1]) (zHD (osc:=(defScope zAs)) (N:=["row","weights"]) (by decide +kernel)) rfl (zGT (pv 0)) (fun _ _ _ _ _=>(zAK (i:=0) (show(["sign","weights"]:List Str).Nodup from by decide +kernel) rfl (Or.inr rfl))) (zAW (by decide)) (fun _ _ _ _ _=>zBX) (fun _ _ _ _ _=>(zJV (zAP (zA0 K hu) (pv 0) (zBm T.g_UNKNOWN) (nomark _)) (zBf (zHH K) rfl T.n_list PyProof.Rows.boot_list (zAA (pv 1) zAB)) (zBJ (own:=["bracket"]) (sel:=[0]) (compOkIn (osc:=(defScope zAs)) (N:=["sign","weights"]) rfl rfl (by decide +kernel)) rfl (zGT (zBl (zKs K) (zBm T.g_BRACKETS) zCD (zCC (zAM (zAU K) rfl T.n_len PySem.boot_len (zAA (pv 1) zAB))))) (fun _ _ _ _ _=>(zAK (i:=0) (show(["bracket","sign"]:List Str).Nodup from by decide +kernel) rfl (Or.inl rfl))) (zAW (by decide)) (fun _ _ _ _ _=>zBX) (fun _ _ _ _ _=>(zBf zCU rfl T.n_int PyProof.Rows.boot_int (zAA (zDC (zA0 K hu) (pv 1) (pv 0) (nomark _)) zAB))))))))),?_⟩
 walk_at "go"
 refine zHK (small (by omega)) (fun D i ys H'=>∃ad:Nat->Addr,ys=(List.range i).map (fun j=>V.ref (ad j))/\∀j,j<i->H' (ad j)=some (iL (plw w' (a.getD j 0)))/\ad j≠D)
  (fun D _=>⟨fun _=>D,rfl,fun j hj=>absurd hj (by omega)⟩) (fun D i ys H1 H2 _ ⟨ad,e,h1⟩ s12=>⟨ad,e,fun j hj=>⟨s12 _ _ (h1 j hj).1 (h1 j hj).2,(h1 j hj).2⟩⟩)
  (fun D ys H' hD hy _ sH ⟨ad,e,h1⟩=>?_) ?_
 ·subst e
  refine q D H' hD sH ⟨ad,by rw[List.length_map];exact hy,fun i hi=>?_⟩
  rw[List.length_map]at hi
  have eg:(a.map (plw w')).getD i []=plw w' (a.getD i 0):=by
   simp only[List.getD_eq_getElem?_getD,List.getElem?_map,List.getElem?_eq_getElem hi];rfl
  rw[eg];exact(h1 i hi).1
 ·rintro D i ys H' R hD hi hy hl sH ⟨ad,e,h1⟩ r
  have fin:∀l H6,H' l=none->Same H' H6->H6 l=some (iL (plw w' (a.getD i 0)))->R (.ref l) H6:=by
   intro l H6 hl' s6 h6
   have hlD:l≠D:=fun z=>by rw[z,hy]at hl';cases hl'
   refine r _ _ s6 ⟨fun j=>if j=i then l else ad j,?_,fun j hj=>?_⟩
   ·subst e
    rw[List.range_succ,List.map_append]
    congr 1
    ·refine List.map_congr_left fun j hj=>?_
     have:=List.mem_range.mp hj
     show V.ref (ad j)=V.ref (if j=i then l else ad j)
     rw[if_neg (by omega)]
    ·simp
   ·by_cases ej:j=i
    ·subst ej;simp only[if_true];exact⟨h6,hlD⟩
    ·simp only[if_neg ej]
     obtain⟨a1,a2⟩:=h1 j (by omega)
     exact⟨s6 _ _ a1,a2⟩
  walk_at "go"
  refine ifd (fun hc=>?_) (fun hc=>?_)
  ·walk_at "go"
   refine zK3 (sH.seq hp) (fun l hl'=>?_)
   refine fin l _ hl' (zAF hl' _) ?_
   have e63:a.getD i 0=63:=by simpa using hc
   rw[zAC]
   unfold plw
   rw[if_pos e63]
  ·have n63:¬ (a.getD i 0=63):=by simpa using hc
   walk_at "go"
   refine zBS (.inl (sH.seq hp)) ?_
   walk_at "go"
   have el:(((w'.map V.int).length:Nat):Int)=(w'.length:Int):=by rw[List.length_map]
   rw[el,zGg _ (by omega),Int.toNat_natCast]
   walk_at "go"
   refine zJB (fun b=> .int (if a.getD i 0=b then 1 else 0)) (small (by rw[List.length_take];exact Nat.le_trans (Nat.min_le_right _ _) (by decide))) (fun D2 H2 hD2 s2 h2=>?_) (fun i2 c H2 R2 hc2 s2 r2=>?_)
   ·refine fin D2 H2 hD2 s2 ?_
    rw[h2]
    unfold plw
    rw[if_neg n63]
    show some (HO.lst _)=some (HO.lst (List.map V.int (List.map _ _)))
    rw[List.map_map]
    rfl
   ·walk_at "go"
    have eb:(if(decide ([a.getD i 0]=[c]))=true then(1:Int)else 0)=if a.getD i 0=c then 1 else 0:=by
     by_cases z:a.getD i 0=c<;>simp[z]
    rw[eb]
    exact r2 H2 (Same.refl _)
theorem zCY:FnScope ["k","row"] ["k","row"] (defScope zBL):=⟨rfl,rfl,rfl,by decide +kernel,rfl,by decide +kernel,by decide +kernel⟩
theorem zCc(F:Fun K "counted_places" "counted_places" zBL f fd)(T:Txt K mg aK cs)(U_weighed_places:FnU P w K mg base k "weighed_places" ["row","weights"] (spWeighed K)):FnOk P w K mg base CX0 (k+1) f fd ["k","row"] (spCounted):=by
 refine F.ok zCY (fun vs H Q E h=>?_) (fun cdv A outer s H vs Q E hr h=>?_)
 ·obtain⟨kk,a,rfl,_⟩:=h;rfl
 obtain⟨kk,a,rfl,h1,h2,ha,q⟩:=h
 refine⟨_,(zAI (zAX (zAb U_weighed_places hr (zAA (pv 1) (zAA (zAQ zAm (zAe (zAA zAH zAB)) (zAQ zAm zAH (pv 0))) zAB))))),?_⟩
 walk_at "go"
 refine⟨small (show 1<=1000 by decide),fun z hz=>?_⟩
 walk_at "go"
 have e2:(2*kk).toNat=2*kk.toNat:=by omega
 refine zKy (xs:=[.int 1]) zAC (by omega) (by omega) (small (by rw[List.length_singleton,e2];omega)) (fun p hp=>?_)
 walk_at "go"
 have ew:(List.replicate (2*kk).toNat [V.int 1]).flatten=(ones kk.toNat).map V.int:=by rw[e2,zJP]
 rw[ew]at*
 have sp:Same H (upd (upd H z (.lst [.int 1])) p (.lst ((ones kk.toNat).map V.int))):=(zAF hz _).trans (zAF hp _)
 refine zFV ha (SqL.of zAC) (by rw[List.length_replicate];omega) (fun r H' hr' sH hP=>?_)
 exact q r H' (sp.free hr') (sp.trans sH) hP
theorem zFY:FnScope ["first","last"] ["first","last"] (defScope zB6):=⟨rfl,rfl,rfl,by decide +kernel,rfl,by decide +kernel,by decide +kernel⟩
theorem zFg(F:Fun K "pair_sum" "pair_sum" zB6 f fd)(T:Txt K mg aK cs):FnOk P w K mg base CX0 (k+1) f fd ["first","last"] (spPair):=by
 refine F.ok zFY (fun vs H Q E h=>?_) (fun cdv A outer s H vs Q E hr h=>?_)
 ·obtain⟨p,q,x,y,kk,rfl,_⟩:=h;rfl
 obtain⟨p,q,x,y,kk,rfl,hp,hq,lx,ly,hk,sx,sy,r⟩:=h
 have hu:=hr.units0
 refine⟨_,(zAI (zAX (zAM (zIu K rfl) rfl T.n_sum PyProof.Rows.boot_sum (zAA (zBJ (own:=["opening"]) (sel:=[0,1]) (zAY (osc:=(defScope zB6)) (N:=["first","last"]) (by decide +kernel)) rfl (zBP rfl T.n_range (zAA zAH (zAA (zAM (zAU K) rfl T.n_len PySem.boot_len (zAA (pv 0) zAB)) (zAA zAH zAB)))) (fun _ _ _ _ _=>(zAK (i:=0) (show(["opening","first","last"]:List Str).Nodup from by decide +kernel) rfl (Or.inl rfl))) (zAW (by decide)) (fun _ _ _ _ _=>zBX) (fun _ _ _ _ _=>(zAQ zAq (zAS (zA3 K) (pv 1) (pv 0) (fun _ _=>rfl)) (zAS (zA3 K) (pv 2) (zAQ zAR (pv 0) zAH) (fun _ _=>rfl))))) zAB)))),?_⟩
 walk_at "go"
 refine zBS (.inl (SqL.of hp)) ?_
 walk_at "go"
 have el:(((x.map V.int).length:Nat):Int)=((2*kk:Nat):Int):=by rw[List.length_map,lx]
 rw[el]
 refine⟨0,((2*kk:Nat):Int),2,rfl,⟨by decide,by decide,zBc (by decide) (by decide) (by omega) (by omega)⟩,?_⟩
 have er:rN 0 ((2*kk:Nat):Int) 2=kk:=by rw[zDl];omega
 rw[er]
 refine zHP (fun i=> .int (x.getD (2*i) 0*y.getD (2*i+1) 0)) (small (by omega)) (fun D H' hD sH hy=>?_) (fun i H' R hi sH r'=>?_)
 ·have ns:SqL K H' D (((List.range kk).map fun i=>x.getD (2*i) 0*y.getD (2*i+1) 0).map V.int):=by rw[List.map_map];exact SqL.of hy
  refine zNv ns ?_
  rw[zEn]
  exact r H' sH
 ·walk_at "go"
  have e1:(0+((i:Nat):Int)*2)=((2*i:Nat):Int):=by omega
  rw[e1]
  refine zAf (SqL.of (sH _ _ hp)) (v:= .int (x.getD (2*i) 0)) (zAN (zKV (by omega))) ?_
  walk_at "go"
  have e2:(((2*i:Nat):Int)+1)=((2*i+1:Nat):Int):=by omega
  rw[e2]
  refine zAf (SqL.of (sH _ _ hq)) (v:= .int (y.getD (2*i+1) 0)) (zAN (zKV (by omega))) ?_
  refine zBu (zA4 (sx.at _).1 (sx.at _).2 zD0) (zA4 (sy.at _).1 (sy.at _).2 zD0) ?_
  exact r' H' (Same.refl _)
theorem zGr:FnScope ["many"] ["many"] (defScope zCR):=⟨rfl,rfl,rfl,by decide +kernel,rfl,by decide +kernel,by decide +kernel⟩
theorem zGz(F:Fun K "no_sums" "no_sums" zCR f fd)(T:Txt K mg aK cs):FnOk P w K mg base CX0 (k+1) f fd ["many"] (spNoSums):=by
 refine F.ok zGr (fun vs H Q E h=>?_) (fun cdv A outer s H vs Q E hr h=>?_)
 ·obtain⟨n,rfl,_⟩:=h;rfl
 obtain⟨n,rfl,hn,q⟩:=h
 have hu:=hr.units0
 refine⟨_,(zAI (zAX (zBJ (own:=["start"]) (sel:=[0]) (zAY (osc:=(defScope zCR)) (N:=["many"]) (by decide +kernel)) rfl (zAx rfl T.n_range (zAA (zAQ zAR (pv 0) zAH) zAB)) (fun _ _ _ _ _=>(zAK (i:=0) (show(["start","many"]:List Str).Nodup from by decide +kernel) rfl (Or.inl rfl))) (zAW (by decide)) (fun _ _ _ _ _=>zBX) (fun _ _ _ _ _=>(zAQ zAm (zAe (zAA zAH zAB)) (zAQ zAR (pv 1) zAH)))))),?_⟩
 walk_at "go"
 refine⟨_,rfl,by omega,by omega,?_⟩
 have en:((n:Int)+1).toNat=n+1:=by omega
 rw[en]
 refine zKj (small (by omega)) (fun D i ys H'=>∃ad:Nat->Addr,ys=(List.range i).map (fun j=>V.ref (ad j))/\(∀j,j<i->H' (ad j)=some (.lst (rwl n fun _=>0))/\H (ad j)=none/\ad j≠D)/\∀j j',j<i->j'<i->ad j=ad j'->j=j')
  (fun D _=>⟨fun _=>D,rfl,fun j hj=>absurd hj (by omega),fun j _ hj=>absurd hj (by omega)⟩) (fun D i ys H1 H2 _ ⟨ad,e,h1,h2⟩ s12=>⟨ad,e,fun j hj=>⟨s12 _ _ (h1 j hj).1 (h1 j hj).2.2,(h1 j hj).2⟩,h2⟩)
  (fun D ys H' hD hy _ sH ⟨ad,e,h1,h2⟩=>?_) ?_
 ·subst e
  exact q D ad H' ⟨hD,fun i hi=>(h1 i (by omega)).2.1,fun i hi=>(h1 i (by omega)).2.2,fun i j hi hj=>h2 i j (by omega) (by omega),hy,fun i hi=>(h1 i (by omega)).1,sH⟩
 ·rintro D i ys H' R hD hi hy hl sH ⟨ad,e,h1,h2⟩ r
  walk_at "go"
  refine⟨small (show 1<=1000 by decide),fun z hz=>?_⟩
  walk_at "go"
  refine zKy (xs:=[.int 0]) zAC (by omega) (by omega) (small (by rw[List.length_singleton,en];omega)) (fun p hp=>?_)
  have hpz:p≠z:=fun w=>by rw[w,zAC]at hp;cases hp
  have hp':H' p=none:=by rw[zAG hpz]at hp;exact hp
  have hpD:p≠D:=fun w=>by rw[w,hy]at hp';cases hp'
  have sp:Same H' (upd (upd H' z (.lst [.int 0])) p (.lst (List.replicate ((n:Int)+1).toNat [V.int 0]).flatten)):=(zAF hz _).trans (zAF hp _)
  refine r _ _ sp ⟨fun j=>if j=i then p else ad j,?_,?_,?_⟩
  ·subst e
   rw[List.range_succ,List.map_append]
   congr 1
   ·refine List.map_congr_left fun j hj=>?_
    have:=List.mem_range.mp hj
    show V.ref (ad j)=V.ref (if j=i then p else ad j)
    rw[if_neg (by omega)]
   ·simp
  ·intro j hj
   by_cases ej:j=i
   ·subst ej
    simp only[if_true]
    refine⟨?_,?_,hpD⟩
    ·rw[zAC,en,zJO]
    ·exact sH.free hp'
   ·simp only[if_neg ej]
    obtain⟨a1,a2,a3⟩:=h1 j (by omega)
    exact⟨sp _ _ a1,a2,a3⟩
  ·intro j j' hj hj' ee
   have nq:∀j,j<i->ad j≠p:=fun j hj w=>by have:=(h1 j hj).1;rw[w,hp']at this;cases this
   by_cases e1:j=i<;>by_cases e2:j'=i
   ·omega
   ·simp only[if_pos e1,if_neg e2]at ee;exact absurd ee.symm (nq j' (by omega))
   ·simp only[if_neg e1,if_pos e2]at ee;exact absurd ee (nq j (by omega))
   ·simp only[if_neg e1,if_neg e2]at ee;exact h2 j j' (by omega) (by omega) ee
theorem sc_span_sums:FnScope ["places","many","sums","start","end","first_part","stop"] ["places"] (defScope zCG):=⟨rfl,rfl,rfl,by decide +kernel,rfl,by decide +kernel,by decide +kernel⟩
theorem zE1(F:Fun K "span_sums" "span_sums" zCG f fd)(T:Txt K mg aK cs)(U_no_sums:FnU P w K mg base k "no_sums" ["many"] (spNoSums))(U_pair_sum:FnU P w K mg base k "pair_sum" ["first","last"] (spPair)):FnOk P w K mg base CX0 (k+1) f fd ["places"] (spSpans):=by
 refine F.ok sc_span_sums (fun vs H Q E h=>?_) (fun cdv A outer s H vs Q E hr h=>?_)
 ·obtain⟨p,ps,kk,rfl,_⟩:=h;rfl
 obtain⟨p,ps,kk,rfl,hP,hn,hk,hl,q⟩:=h
 have hu:=hr.units0
 have hsm:∀l∈ps,Sm l:=fun l z=>(hl l z).2
 obtain⟨pa,hp0,hpa⟩:=id hP
 refine⟨_,(zAD (zAO (i:=1) sc_span_sums.nd rfl (Or.inl rfl) (zAM (zAU K) rfl T.n_len PySem.boot_len (zAA (pv 0) zAB))) (zAD (zAO (i:=2) sc_span_sums.nd rfl (Or.inl rfl) (zAb U_no_sums hr (zAA (pv 1) zAB))) (zAD (zA1 PassesOwn.never rfl (zBP rfl T.n_range (zAA (pv 1) (zAA (zHt zEj zAH) (zAA (zHt zEj zAH) zAB)))) (zAK (i:=3) sc_span_sums.nd rfl (Or.inl rfl)) (zAD (zBe zAH (zDm (zAS (zA3 K) (pv 2) (pv 3) (fun _ _=>rfl)) (pv 3) zA8)) (zAI (zA1 PassesOwn.never rfl (zBP rfl T.n_range (zAA (zAQ zAR (pv 3) zAH) (zAA (pv 1) (zAA zAH zAB)))) (zAK (i:=4) sc_span_sums.nd rfl (Or.inl rfl)) (zAD (zAO (i:=5) sc_span_sums.nd rfl (Or.inl rfl) (zAQ zAq (zAb U_pair_sum hr (zAA (zAS (zA3 K) (pv 0) (pv 3) (fun _ _=>rfl)) (zAA (zAS (zA3 K) (pv 0) (pv 4) (fun _ _=>rfl)) zAB))) (zAS (zA3 K) (zAS (zA3 K) (pv 2) (zAQ zAR (pv 3) zAH) (fun _ _=>rfl)) (pv 4) (fun _ _=>rfl)))) (zAI (zA1 PassesOwn.never rfl (zBP rfl T.n_range (zAA (zAQ zAR (pv 4) zAH) (zAA (zAQ zAR (pv 1) zAH) (zAA zAH zAB)))) (zAK (i:=6) sc_span_sums.nd rfl (Or.inl rfl)) (zAI (zC8 (zAS (zA3 K) (pv 2) (pv 3) (fun _ _=>rfl)) (pv 6) (zBx K) (zAQ zAq (pv 5) (zAS (zA3 K) (zAS (zA3 K) (pv 2) (zAQ zAR (pv 4) zAH) (fun _ _=>rfl)) (pv 6) (fun _ _=>rfl))) zDr zA8))))))))) (zAI (zAX (pv 2)))))),?_⟩
 walk_at "go"
 refine zBS (.inl (SqL.of hp0)) ?_
 have en:((((List.range ps.length).map fun i=>V.ref (pa i)).length:Nat):Int)=(ps.length:Int):=by rw[List.length_map,List.length_range]
 rw[en]
 generalize hN:ps.length=n at*
 walk_at "go"
 refine zDo hn (fun s' ad H1 tb1=>?_)
 walk_at "go"
 refine⟨n,-1,-1,rfl,⟨by decide,by decide,zGq (.inl rfl) (by omega) (by omega) (by decide) (by decide)⟩,?_⟩
 have er:rN (n:Int) (-1) (-1)=n+1:=by rw[zLM];omega
 rw[er]
 have place:∀ {H':Hp} {i:Nat},Same H H'->i<n->∃l,H' (pa i)=some (iL l)/\l.length=2*kk/\Sm l/\∀b,PP ps i b=l.getD b 0:=by
  intro H' i sH hi
  have e:ps[i]? =some ps[i]:=List.getElem?_eq_getElem (by omega)
  have eg:ps.getD i []=ps[i]:=by rw[List.getD_eq_getElem?_getD,e];rfl
  refine⟨ps[i],?_,(hl _ (List.getElem_mem _)).1,(hl _ (List.getElem_mem _)).2,fun b=>by show(ps.getD i []).getD b 0=_;rw[eg]⟩
  have:=sH _ _ (hpa i (by omega))
  rw[eg]at this
  exact this
 have pix:∀ {i:Nat},i<n->((List.range n).map fun i=>V.ref (pa i))[i]? =some (.ref (pa i)):=fun{i} hi=>by rw[List.getElem?_map,List.getElem?_range hi];rfl
 refine zB5 (fun t σ H'=>∃o3 o4 o5 o6,σ=[some (.ref p),some (.int n),some (.ref s'),o3,o4,o5,o6]/\Tb H H' s' ad n (fun i j=>if n<i+t then tbl (PP ps) kk i j else 0)) ?_ ?_ ?_
 ·exact⟨_,_,_,_,rfl,tb1.congr fun i j hi hj=>by rw[if_neg (by omega)]⟩
 rotate_left
 ·rintro σ H' ⟨o3,o4,o5,o6,rfl,tb⟩
  walk_at "go"
  exact q s' ad H' (tb.congr fun i j hi hj=>by rw[if_pos (by omega)])
 rintro t σ H2 ht ⟨o3,o4,o5,o6,rfl,tb2⟩
 refine nbk (P:=fun b=>(_:TG) _ _ _ fun σ2 H2=>(_:TS) ⟨_,_,b,_⟩ σ2 H2) fun bk=>?_
 try dsimp only
 obtain⟨st,est⟩:∃st:Nat,st+t=n:=⟨n-t,by omega⟩
 have e1:((n:Int)+(t:Int)* -1)=(st:Int):=by omega
 rw[e1]
 walk_at "go"
 refine zAf (SqL.of tb2.top) (zAN (tb2.at (i:=st) (by omega))) ?_
 walk_at "go"
 refine zBt (tb2.row st (by omega)) (j:=st) (by rw[zCA];unfold ixN;rw[if_pos (by omega),if_pos (by omega)];simp) ?_
 have tb3:=(tb2.set (i:=st) (j:=st) (v:=1) (by omega)).congr (T':=fun i j=>if st<i then tbl (PP ps) kk i j else if i=st then part (PP ps) kk st 0 j else 0) (fun i j hi hj=>by
  by_cases h1:i=st
  ·subst h1
   rw[if_neg (Nat.lt_irrefl _),if_pos rfl,zHv]
   by_cases h2:j=i
   ·rw[if_pos ⟨rfl,h2⟩,if_pos h2]
   ·rw[if_neg (fun z=>h2 z.2),if_neg h2,if_neg (by omega)]
  ·rw[if_neg (fun z=>h1 z.1)]
   by_cases h2:st<i
   ·rw[if_pos (by omega),if_pos h2]
   ·rw[if_neg (by omega),if_neg h2,if_neg h1])
 generalize upd H2 (ad st) _=H3 at tb3
 clear tb2
 walk_at "go"
 refine⟨_,_,2,rfl,⟨by decide,by decide,zBc (by omega) (by omega) (by omega) (by omega)⟩,?_⟩
 have er2:rN ((st:Int)+1) n 2=(n-st)/2:=by rw[zDl];omega
 rw[er2]
 refine zB5 (fun q' σ H'=>∃o4 o5 o6,σ=[some (.ref p),some (.int n),some (.ref s'),some (.int st),o4,o5,o6]/\Tb H H' s' ad n (fun i j=>if st<i then tbl (PP ps) kk i j else if i=st then part (PP ps) kk st q' j else 0)) ?_ ?_ ?_
 ·exact⟨_,_,_,rfl,tb3⟩
 rotate_left
 ·rintro σ H' ⟨o4,o5,o6,rfl,tb⟩
  walk_at "go"
  refine⟨_,_,_,_,rfl,tb.congr fun i j hi hj=>?_⟩
  by_cases h2:st<i
  ·rw[if_pos h2,if_pos (by omega)]
  ·by_cases h1:i=st
   ·subst h1
    rw[if_neg h2,if_pos rfl,if_pos (by omega)]
    exact zJb hj
   ·rw[if_neg h2,if_neg h1,if_neg (by omega)]
 rintro q' σ H4 hq' ⟨o4,o5,o6,rfl,tb4⟩
 refine nbk (P:=fun b=>(_:TG) _ _ _ fun σ2 H2=>(_:TS) ⟨_,_,b,_⟩ σ2 H2) fun bk=>?_
 try dsimp only
 obtain⟨en',hen⟩:∃e:Nat,e=st+1+2*q':=⟨_,rfl⟩
 have e2:((st:Int)+1+(q':Int)*2)=(en':Int):=by omega
 have hen2:en'<n:=by omega
 rw[e2]
 walk_at "go"
 obtain⟨x,hx,lx,sx,ex⟩:=place tb4.sm (show st<n by omega)
 obtain⟨y,hy,ly,sy,ey⟩:=place tb4.sm (show en'<n by omega)
 refine zAf (SqL.of (tb4.sm _ _ hp0)) (zAN (pix (i:=st) (by omega))) ?_
 walk_at "go"
 refine zAf (SqL.of (tb4.sm _ _ hp0)) (zAN (pix (i:=en') (by omega))) ?_
 walk_at "go"
 refine zEF hx hy lx ly hk sx sy (fun H5 s5=>?_)
 have epr:sm kk (fun o=>x.getD (2*o) 0*y.getD (2*o+1) 0)=pr (PP ps) kk st en':=by
  unfold pr
  exact zAJ kk fun o _=>by rw[ex,ey]
 rw[epr]
 have tb5:=tb4.same s5
 clear tb4
 have e3:((st:Int)+1)=((st+1:Nat):Int):=by omega
 walk_at "go"
 rw[e3]
 refine zAf (SqL.of tb5.top) (zAN (tb5.at (i:=st+1) (by omega))) ?_
 walk_at "go"
 refine zAf (SqL.of (tb5.row (st+1) (by omega))) (zAN (zBW (j:=en') (by omega))) ?_
 have ev:(if st<st+1 then tbl (PP ps) kk (st+1) en' else if st+1=st then part (PP ps) kk st q' en' else 0)=cv (PP ps) kk (2*q') (st+1) []:=by
  rw[if_pos (by omega)]
  unfold tbl
  rw[if_pos (by omega),show en'-(st+1)=2*q' by omega]
 rw[ev]
 have b1:=zHp hk hsm st en'
 have b2:=zFI hk hsm (n:=2*q') (by omega) (st+1) []
 refine zBu (zA4 b1.1 b1.2 zEx) (zA4 b2.1 b2.2 zDV) ?_
 have b3:0<=pr (PP ps) kk st en'*cv (PP ps) kk (2*q') (st+1) []:=Int.mul_nonneg b1.1 b2.1
 have b4:pr (PP ps) kk st en'*cv (PP ps) kk (2*q') (st+1) []<=4*(top30*top30)*cap:=Int.mul_le_mul b1.2 b2.2 b2.1 (by decide)
 walk_at "go"
 refine⟨_,_,2,rfl,⟨by decide,by decide,zBc (by omega) (by omega) (by omega) (by omega)⟩,?_⟩
 have er3:rN ((en':Int)+1) ((n:Int)+1) 2=(n+1-en')/2:=by rw[zDl];omega
 rw[er3]
 refine zB5 (fun r σ H'=>∃o6,σ=[some (.ref p),some (.int n),some (.ref s'),some (.int st),some (.int en'),some (.int (pr (PP ps) kk st en'*cv (PP ps) kk (2*q') (st+1) [])),o6]/\Tb H H' s' ad n (fun i j=>if st<i then tbl (PP ps) kk i j else if i=st then(if j<en'+1+2*r then part (PP ps) kk st (q'+1) j else part (PP ps) kk st q' j)else 0)) ?_ ?_ ?_
 ·refine⟨_,rfl,tb5.congr fun i j hi hj=>?_⟩
  by_cases h2:st<i
  ·rw[if_pos h2,if_pos h2]
  ·rw[if_neg h2,if_neg h2]
   by_cases h1:i=st
   ·rw[if_pos h1,if_pos h1]
    by_cases h3:j<en'+1+2*0
    ·rw[if_pos h3,zHw (by omega)]
    ·rw[if_neg h3]
   ·rw[if_neg h1,if_neg h1]
 rotate_left
 ·rintro σ H' ⟨o6,rfl,tb⟩
  refine⟨_,_,_,rfl,tb.congr fun i j hi hj=>?_⟩
  by_cases h2:st<i
  ·rw[if_pos h2,if_pos h2]
  ·rw[if_neg h2,if_neg h2]
   by_cases h1:i=st
   ·rw[if_pos h1,if_pos h1,if_pos (by omega)]
   ·rw[if_neg h1,if_neg h1]
 rintro r σ H6 hr6 ⟨o6,rfl,tb6⟩
 refine nbk (P:=fun b=>(_:TG) _ _ _ fun σ2 H2=>(_:TS) ⟨_,_,b,_⟩ σ2 H2) fun bk=>?_
 try dsimp only
 obtain⟨sp,hsp⟩:∃e:Nat,e=en'+1+2*r:=⟨_,rfl⟩
 have e4:((en':Int)+1+(r:Int)*2)=(sp:Int):=by omega
 have hsp2:sp<=n:=by omega
 rw[e4]
 walk_at "go"
 refine zAf (SqL.of tb6.top) (zAN (tb6.at (i:=st) (by omega))) ?_
 walk_at "go"
 refine zEv (SqL.of (tb6.row st (by omega))) (zBW (j:=sp) hsp2) ?_
 have ev2:(if st<st then tbl (PP ps) kk st sp else if st=st then(if sp<en'+1+2*r then part (PP ps) kk st (q'+1) sp else part (PP ps) kk st q' sp)else 0)=part (PP ps) kk st q' sp:=by
  rw[if_neg (by omega),if_pos rfl,if_neg (by omega)]
 rw[ev2]
 have e5:((en':Int)+1)=((en'+1:Nat):Int):=by omega
 walk_at "go"
 rw[e5]
 refine zAf (SqL.of tb6.top) (zAN (tb6.at (i:=en'+1) (by omega))) ?_
 walk_at "go"
 refine zAf (SqL.of (tb6.row (en'+1) (by omega))) (zAN (zBW (j:=sp) hsp2)) ?_
 have ev3:(if st<en'+1 then tbl (PP ps) kk (en'+1) sp else if en'+1=st then(if sp<en'+1+2*r then part (PP ps) kk st (q'+1) sp else part (PP ps) kk st q' sp)else 0)=cv (PP ps) kk (sp-(en'+1)) (en'+1) []:=by
  rw[if_pos (by omega)]
  unfold tbl
  rw[if_pos (by omega)]
 rw[ev3]
 have b5:=zFI hk hsm (n:=sp-(en'+1)) (by omega) (en'+1) []
 refine zBu (zA4 b3 b4 zJ3) (zA4 b5.1 b5.2 zDV) ?_
 refine zGs ?_
 refine zBt (tb6.row st (by omega)) (j:=sp) (by rw[zCA];unfold ixN;rw[if_pos (by omega),if_pos (by omega)];simp) ?_
 refine⟨_,rfl,(tb6.set (i:=st) (j:=sp) (by omega)).congr fun i j hi hj=>?_⟩
 by_cases h1:i=st
 ·subst h1
  simp only[Nat.lt_irrefl,if_false,if_true,true_and]
  by_cases h2:j=sp
  ·subst h2
   rw[if_pos rfl,if_pos (by omega)]
   exact zHx hen (by omega) (by omega)
  ·rw[if_neg h2]
   by_cases h3:j<en'+1+2*r
   ·rw[if_pos h3,if_pos (by omega)]
   ·rw[if_neg h3]
    by_cases h4:j<en'+1+2*(r+1)
    ·rw[if_pos h4,zGX (by omega),zGX (by omega)]
    ·rw[if_neg h4]
 ·rw[if_neg (fun z=>h1 z.1)]
  by_cases h2:st<i
  ·rw[if_pos h2,if_pos h2]
  ·rw[if_neg h2,if_neg h2,if_neg h1,if_neg h1]
theorem zEt:FnScope ["sums"] ["sums"] (defScope zCF):=⟨rfl,rfl,rfl,by decide +kernel,rfl,by decide +kernel,by decide +kernel⟩
theorem zE0(F:Fun K "whole_sum" "whole_sum" zCF f fd)(T:Txt K mg aK cs):FnOk P w K mg base CX0 (k+1) f fd ["sums"] (spWholeSum):=by
 refine F.ok zEt (fun vs H Q E h=>?_) (fun cdv A outer s H vs Q E hr h=>?_)
 ·obtain⟨H0,s',ad,n,T',rfl,_⟩:=h;rfl
 obtain⟨H0,s',ad,n,T',rfl,tb,q⟩:=h
 refine⟨_,(zAI (zAX (zAS (zA3 K) (zAS (zA3 K) (pv 0) zAH (fun _ _=>rfl)) (zHt zEj zAH) (fun _ _=>rfl)))),?_⟩
 walk_at "go"
 refine zAf (SqL.of tb.top) (zAN (j:=0) (tb.at (Nat.zero_le _))) ?_
 walk_at "go"
 refine zAf (SqL.of (tb.row 0 (Nat.zero_le _))) (v:= .int (T' 0 n)) (zF4 ?_ ?_) ?_
 ·rw[zCA];omega
 ·rw[zCA];exact zBW (Nat.le_refl _)
 exact q
theorem zCn:FnScope ["sums"] ["sums"] (defScope zBQ):=⟨rfl,rfl,rfl,by decide +kernel,rfl,by decide +kernel,by decide +kernel⟩
theorem zCp(F:Fun K "check_filling" "check_filling" zBQ f fd)(T:Txt K mg aK cs)(U_whole_sum:FnU P w K mg base k "whole_sum" ["sums"] (spWholeSum)):FnOk P w K mg base (CXE P w) (k+1) f fd ["sums"] (spCheckFillE cs):=by
 refine F.okE zCn (fun vs H Q E h=>?_) (fun cdv A outer s H vs Q E hr h=>?_)
 ·obtain⟨H0,s,ad,n,T,rfl,_⟩:=h;rfl
 have hu:=hr.units0
 obtain⟨H0,sa,ad,n,tab,rfl,tb,⟨hne,q⟩|⟨he,r⟩⟩:=h
 ·refine zCO ⟨_,(zAI (zA6 (zAP (zA0 K hu) (zAb U_whole_sum hr (zAA (pv 0) zAB)) zAH (nomark _)) (zAI zCs) zAZ)),?_⟩
  walk_at "go"
  refine zBR tb ?_
  walk_at "go"
  refine ifq (decide_eq_false hne) ?_
  walk_at "go"
  exact q
 ·refine⟨_,(zAI (zA6 (zAP (zA0 K hu) (zAb U_whole_sum hr (zAA (pv 0) zAB)) zAH (nomark _)) (zAI (zCL T.e_NoFilling T.c_NoFilling hr.hd zFF (zAA (zBH (l:=[116,104,101,32,114,111,119,32,104,97,115,32,110,111,32,114,105,103,104,116,32,102,105,108,108,105,110,103,44,32,111,114,32,110,111,110,101,32,116,104,97,116,32,119,101,105,103,104,115,32,109,111,114,101,32,116,104,97,110,32,48]) (by decide +kernel)) zAB))) zAZ)),?_⟩
  walk_at "go"
  refine zBR tb ?_
  walk_at "go"
  refine ifp (decide_eq_true he) ?_
  walk_at "go"
  exact⟨small (by decide),fun y hy=>r y H (Same.refl H) hy⟩
theorem sc_pairs_with_rest:FnScope ["places","sums","many","outer","found","start","end","pair","within","outside","stop"] ["places","sums"] (defScope zBD):=⟨rfl,rfl,rfl,by decide +kernel,rfl,by decide +kernel,by decide +kernel⟩
theorem zCN(F:Fun K "pairs_with_rest" "pairs_with_rest" zBD f fd)(T:Txt K mg aK cs)(U_no_sums:FnU P w K mg base k "no_sums" ["many"] (spNoSums))(U_pair_sum:FnU P w K mg base k "pair_sum" ["first","last"] (spPair)):FnOk P w K mg base CX0 (k+1) f fd ["places","sums"] (spPairsR):=by
 refine F.ok sc_pairs_with_rest (fun vs H Q E h=>?_) (fun cdv A outer s H vs Q E hr h=>?_)
 ·obtain⟨p,s,ps,k,ads,H0,rfl,_⟩:=h;rfl
 obtain⟨p,ss,ps,kk,ads,H0,rfl,hP,hn,hk,hl,tbS,q⟩:=h
 have hu:=hr.units0
 have hsm:∀l∈ps,Sm l:=fun l z=>(hl l z).2
 obtain⟨pa,hp0,hpa⟩:=id hP
 refine⟨_,(zAD (zAO (i:=2) sc_pairs_with_rest.nd rfl (Or.inl rfl) (zAM (zAU K) rfl T.n_len PySem.boot_len (zAA (pv 0) zAB))) (zAD (zAO (i:=3) sc_pairs_with_rest.nd rfl (Or.inl rfl) (zAb U_no_sums hr (zAA (pv 2) zAB))) (zAD (zBe zAH (zDm (zAS (zA3 K) (pv 3) zAH (fun _ _=>rfl)) (pv 2) zA8)) (zAD (zAO (i:=4) sc_pairs_with_rest.nd rfl (Or.inl rfl) (zAe zAB)) (zAD (zA1 PassesOwn.never rfl (zAx rfl T.n_range (zAA (pv 2) zAB)) (zAK (i:=5) sc_pairs_with_rest.nd rfl (Or.inl rfl)) (zAI (zA1 PassesOwn.never rfl (zBP rfl T.n_range (zAA (zAQ zAR (pv 5) zAH) (zAA (pv 2) (zAA zAH zAB)))) (zAK (i:=6) sc_pairs_with_rest.nd rfl (Or.inl rfl)) (zAD (zAO (i:=7) sc_pairs_with_rest.nd rfl (Or.inl rfl) (zAb U_pair_sum hr (zAA (zAS (zA3 K) (pv 0) (pv 5) (fun _ _=>rfl)) (zAA (zAS (zA3 K) (pv 0) (pv 6) (fun _ _=>rfl)) zAB)))) (zAD (zAO (i:=8) sc_pairs_with_rest.nd rfl (Or.inl rfl) (zAS (zA3 K) (zAS (zA3 K) (pv 1) (zAQ zAR (pv 5) zAH) (fun _ _=>rfl)) (pv 6) (fun _ _=>rfl))) (zAD (zAO (i:=9) sc_pairs_with_rest.nd rfl (Or.inl rfl) zAH) (zAD (zA1 PassesOwn.never rfl (zBP rfl T.n_range (zAA (zAQ zAR (pv 6) zAH) (zAA (zAQ zAR (pv 2) zAH) (zAA zAH zAB)))) (zAK (i:=10) sc_pairs_with_rest.nd rfl (Or.inl rfl)) (zAD (zC8 (zAS (zA3 K) (pv 3) (zAQ zAR (pv 6) zAH) (fun _ _=>rfl)) (pv 10) (zBx K) (zAQ zAq (zAQ zAq (zAS (zA3 K) (zAS (zA3 K) (pv 3) (pv 5) (fun _ _=>rfl)) (pv 10) (fun _ _=>rfl)) (pv 7)) (pv 8)) zDr zA8) (zAI (zMk (i:=9) sc_pairs_with_rest.nd rfl (Or.inl rfl) (zAQ zAq (zAS (zA3 K) (zAS (zA3 K) (pv 3) (pv 5) (fun _ _=>rfl)) (pv 10) (fun _ _=>rfl)) (zAS (zA3 K) (zAS (zA3 K) (pv 1) (zAQ zAR (pv 6) zAH) (fun _ _=>rfl)) (pv 10) (fun _ _=>rfl))) zDr)))) (zAD (zC8 (zAS (zA3 K) (pv 3) (zAQ zAR (pv 5) zAH) (fun _ _=>rfl)) (pv 6) (zBx K) (zAQ zAq (pv 7) (pv 9)) zDr zA8) (zAI (zAg (zBU K PySem.F.plainAttrs_list PySem.F.slot_list_append PySem.F.type_list_append zAr (pv 4) (zAA (zA2 (zAA (pv 5) (zAA (pv 6) (zAA (zAQ zAq (pv 8) (pv 9)) zAB)))) zAB)))))))))))) (zAI (zAX (pv 4)))))))),?_⟩
 walk_at "go"
 refine zBS (.inl (SqL.of hp0)) ?_
 have en:((((List.range ps.length).map fun i=>V.ref (pa i)).length:Nat):Int)=(ps.length:Int):=by rw[List.length_map,List.length_range]
 rw[en]
 generalize hN:ps.length=n at*
 walk_at "go"
 refine zDo hn (fun s' ad H1 tb1=>?_)
 have place:∀ {H':Hp} {i:Nat},Same H H'->i<n->∃l,H' (pa i)=some (iL l)/\l.length=2*kk/\Sm l/\∀b,PP ps i b=l.getD b 0:=by
  intro H' i sH hi
  have e:ps[i]? =some ps[i]:=List.getElem?_eq_getElem (by omega)
  have eg:ps.getD i []=ps[i]:=by rw[List.getD_eq_getElem?_getD,e];rfl
  refine⟨ps[i],?_,(hl _ (List.getElem_mem _)).1,(hl _ (List.getElem_mem _)).2,fun b=>by show(ps.getD i []).getD b 0=_;rw[eg]⟩
  have:=sH _ _ (hpa i (by omega))
  rw[eg]at this
  exact this
 have pix:∀ {i:Nat},i<n->((List.range n).map fun i=>V.ref (pa i))[i]? =some (.ref (pa i)):=fun{i} hi=>by rw[List.getElem?_map,List.getElem?_range hi];rfl
 walk_at "go"
 refine zAf (SqL.of tb1.top) (zAN (j:=0) (tb1.at (Nat.zero_le _))) ?_
 walk_at "go"
 refine zBt (tb1.row 0 (Nat.zero_le _)) (j:=n) (by rw[zCA];unfold ixN;rw[if_pos (by omega),if_pos (by omega)];simp) ?_
 have tb2:=tb1.set (i:=0) (j:=n) (v:=1) (Nat.zero_le _)
 have ok2:OkT (PP ps) kk n 0 0 0 (fun a b=>if a=0/\b=n then 1 else 0):=OkT.zero fun i j=>rfl
 generalize upd H1 (ad 0) _=H2 at*
 walk_at "go"
 refine⟨small (show 0<=1000 by decide),fun F0 hF0=>?_⟩
 have t3:=zAF hF0 (.lst [])
 have g3:(upd H2 F0 (.lst [])) F0=some (.lst []):=zAC
 have tb3:=tb2.same t3
 have hHF:H F0=none:=tb2.sm.free hF0
 have nFs:F0≠s':=fun z=>by rw[z,tb2.top]at hF0;cases hF0
 have nFa:∀i,i<=n->F0≠ad i:=fun i hi z=>by rw[z,tb2.row i hi]at hF0;cases hF0
 have fp3:Fp (PP ps) kk n (upd H2 F0 (.lst [])) [] (prsp n 0 0):=⟨rfl,fun m x hx=>by simp[prsp]at hx⟩
 generalize upd H2 F0 _=H3 at*
 generalize(fun a b=>if a=0/\b=n then(1:Int)else 0)=T3 at*
 clear tb1 tb2 t3
 walk_at "go"
 refine⟨_,rfl,by omega,by omega,?_⟩
 rw[Int.toNat_natCast]
 refine zBy (fun st σ H'=>∃ (T:Nat->Nat->Int) (vs:List V) (o5 o6 o7 o8 o9 o10:Option V),σ=[some (.ref p),some (.ref ss),some (.int (n:Int)),some (.ref s'),some (.ref F0),o5,o6,o7,o8,o9,o10]/\Tb H H' s' ad n T/\OkT (PP ps) kk n st 0 0 T/\H' F0=some (.lst vs)/\Fp (PP ps) kk n H' vs (prsp n st 0)) ⟨T3,[],_,_,_,_,_,_,rfl,tb3,ok2,g3,fp3⟩ ?_ ?_
 rotate_left
 ·rintro σ H4 ⟨T,vs,o5,o6,o7,o8,o9,o10,rfl,tb,_,gF,fp⟩
  walk_at "go"
  rw[zGQ]at fp
  exact q F0 vs H4 hHF tb.sm gF fp
 clear tb3 ok2 g3 fp3
 rintro st σ H4 hst ⟨T4,vs4,o5,o6,o7,o8,o9,o10,rfl,tb4,ok4,gF4,fp4⟩
 refine nbk (P:=fun b=>(_:TG) _ _ _ fun σ2 H2=>(_:TS) ⟨_,_,b,_⟩ σ2 H2) fun bk=>?_
 try dsimp only
 have e0:(0:Int)+(st:Int)=(st:Int):=by omega
 rw[e0]
 walk_at "go"
 refine⟨_,_,2,rfl,⟨by decide,by decide,zBc (by omega) (by omega) (by omega) (by omega)⟩,?_⟩
 have er2:rN ((st:Int)+1) n 2=(n-st)/2:=by rw[zDl];omega
 rw[er2]
 refine zB5 (fun q' σ H'=>∃ (T:Nat->Nat->Int) (vs:List V) (o6 o7 o8 o9 o10:Option V),σ=[some (.ref p),some (.ref ss),some (.int (n:Int)),some (.ref s'),some (.ref F0),some (.int (st:Int)),o6,o7,o8,o9,o10]/\Tb H H' s' ad n T/\OkT (PP ps) kk n st q' 0 T/\H' F0=some (.lst vs)/\Fp (PP ps) kk n H' vs (prsp n st q')) ⟨T4,vs4,_,_,_,_,_,rfl,tb4,ok4,gF4,fp4⟩ ?_ ?_
 rotate_left
 ·rintro σ H5 ⟨T,vs,o6,o7,o8,o9,o10,rfl,tb,ok,gF,fp⟩
  walk_at "go"
  exact⟨T,vs,_,_,_,_,_,_,rfl,tb,ok.start hst,gF,by rw[zMl];exact fp⟩
 clear tb4 ok4 gF4 fp4
 rintro q' σ H5 hq' ⟨T5,vs5,o6,o7,o8,o9,o10,rfl,tb5,ok5,gF5,fp5⟩
 refine nbk (P:=fun b=>(_:TG) _ _ _ fun σ2 H2=>(_:TS) ⟨_,_,b,_⟩ σ2 H2) fun bk=>?_
 try dsimp only
 obtain⟨en',hen⟩:∃e:Nat,e=st+1+2*q':=⟨_,rfl⟩
 have e2:((st:Int)+1+(q':Int)*2)=(en':Int):=by omega
 have hen2:en'<n:=by omega
 rw[e2]
 walk_at "go"
 obtain⟨x,hx,lx,sx,ex⟩:=place tb5.sm (show st<n by omega)
 obtain⟨y,hy,ly,sy,ey⟩:=place tb5.sm (show en'<n by omega)
 refine zAf (SqL.of (tb5.sm _ _ hp0)) (zAN (pix (i:=st) (by omega))) ?_
 walk_at "go"
 refine zAf (SqL.of (tb5.sm _ _ hp0)) (zAN (pix (i:=en') (by omega))) ?_
 walk_at "go"
 refine zEF hx hy lx ly hk sx sy (fun H6 s6=>?_)
 have epr:sm kk (fun o=>x.getD (2*o) 0*y.getD (2*o+1) 0)=pr (PP ps) kk st en':=by
  unfold pr
  exact zAJ kk fun o _=>by rw[ex,ey]
 rw[epr]
 have tb6:=tb5.same s6
 have gF6:=s6 _ _ gF5
 have fp6:=fp5.same s6
 clear tb5 gF5 fp5
 have e3:((st:Int)+1)=((st+1:Nat):Int):=by omega
 walk_at "go"
 rw[e3]
 refine zAf (SqL.of (tb6.sm _ _ tbS.top)) (zAN (tbS.at (i:=st+1) (by omega))) ?_
 walk_at "go"
 refine zAf (SqL.of (tb6.sm _ _ (tbS.row (st+1) (by omega)))) (zAN (zBW (j:=en') (by omega))) ?_
 have bpr:=zHp hk hsm st en'
 have btb:0<=tbl (PP ps) kk (st+1) en'/\tbl (PP ps) kk (st+1) en'<=cap:=by
  unfold tbl
  rw[if_pos (by omega)]
  exact zFI hk hsm (by omega) _ _
 walk_at "go"
 refine⟨_,_,2,rfl,⟨by decide,by decide,zBc (by omega) (by omega) (by omega) (by omega)⟩,?_⟩
 have er3:rN ((en':Int)+1) ((n:Int)+1) 2=(n+1-en')/2:=by rw[zDl];omega
 rw[er3]
 refine zB5 (fun r σ H'=>∃ (T:Nat->Nat->Int) (o10:Option V),σ=[some (.ref p),some (.ref ss),some (.int (n:Int)),some (.ref s'),some (.ref F0),some (.int (st:Int)),some (.int (en':Int)),some (.int (pr (PP ps) kk st en')),some (.int (tbl (PP ps) kk (st+1) en')),some (.int (sm (en'+1+2*r) fun t=>Oo (PP ps) kk n st t*tbl (PP ps) kk (en'+1) t)),o10]/\Tb H H' s' ad n T/\OkT (PP ps) kk n st q' (en'+1+2*r) T/\H' F0=some (.lst vs5)/\Fp (PP ps) kk n H' vs5 (prsp n st q')) ?_ ?_ ?_
 ·refine⟨T5,o10,?_,tb6,?_,gF6,fp6⟩
  ·rw[BrC.sm_zero (en'+1+2*0) fun t ht=>by rw[zAh (i:=en'+1) (j:=t) (by omega),Int.mul_zero]];rfl
  ·intro i j h1 h2 h3
   rw[ok5 i j h1 h2 h3]
   unfold ot
   by_cases e:i<=st
   ·rw[if_pos e,if_pos e]
   ·rw[if_neg e,if_neg e]
    congr 2
    by_cases z:st<i-1/\i-1<st+1+2*q'
    ·rw[if_pos (by omega),if_pos (by omega)]
    ·rw[if_neg (by omega),if_neg (by omega)]
 rotate_left
 ·rintro σ H7 ⟨T7,o10,rfl,tb7,ok7,gF7,fp7⟩
  have eout:(sm (en'+1+2*((n+1-en')/2)) fun t=>Oo (PP ps) kk n st t*tbl (PP ps) kk (en'+1) t)=out (PP ps) kk n st en':=by
   unfold out
   by_cases z:en'+1+2*((n+1-en')/2)=n+1
   ·rw[z]
   ·rw[show en'+1+2*((n+1-en')/2)=n+1+1 by omega,sm,zEk (x:=en'+1) (y:=n+1) (by omega),Int.mul_zero,Int.add_zero]
  rw[eout]
  have bout:=zM0 (ps:=ps) (k:=kk) hsm hk hn (s:=st) (e:=en') (by omega) hen2
  have bout2:(out (PP ps) kk n st en').natAbs<big:=zA4 bout.1 (Int.le_trans bout.2 (Int.mul_le_mul_of_nonneg_left (zFo (by decide) (show n-en'-1+st<=40 by omega)) (by decide))) zEc
  walk_at "go"
  rw[e3]
  refine zAf (SqL.of tb7.top) (zAN (tb7.at (i:=st+1) (by omega))) ?_
  walk_at "go"
  refine zEv (SqL.of (tb7.row (st+1) (by omega))) (zBW (j:=en') (by omega)) ?_
  walk_at "go"
  refine zBu (zA4 bpr.1 bpr.2 zEx) bout2 ?_
  refine zGs ?_
  refine zBt (tb7.row (st+1) (by omega)) (j:=en') (by rw[zCA];unfold ixN;rw[if_pos (by omega),if_pos (by omega)];simp) ?_
  have tb8:=tb7.set (i:=st+1) (j:=en') (v:=T7 (st+1) en'+pr (PP ps) kk st en'*out (PP ps) kk n st en') (by omega)
  have ok8:=ok7.fin (by omega) (v:=T7 (st+1) en'+pr (PP ps) kk st en'*out (PP ps) kk n st en') (by rw[hen]) (by omega)
  rw[<-hen]at ok8
  have gF8:(upd H7 (ad (st+1)) (.lst ((rwl n (T7 (st+1))).set en' (.int (T7 (st+1) en'+pr (PP ps) kk st en'*out (PP ps) kk n st en'))))) F0=some (.lst vs5):=by rw[zAG (nFa (st+1) (by omega))];exact gF7
  have fp8:=fp7.lst (o:= .lst ((rwl n (T7 (st+1))).set en' (.int (T7 (st+1) en'+pr (PP ps) kk st en'*out (PP ps) kk n st en')))) (tb7.row (st+1) (by omega))
  generalize upd H7 (ad (st+1)) _=H8 at*
  generalize(fun a b=>if a=st+1/\b=en' then T7 (st+1) en'+pr (PP ps) kk st en'*out (PP ps) kk n st en' else T7 a b)=T8 at*
  walk_at "go"
  refine⟨.inl ⟨rfl,_,SqL.of gF8⟩,?_⟩
  walk_at "go"
  refine zBu (zA4 btb.1 btb.2 zDV) bout2 ?_
  walk_at "go"
  refine⟨small (show 3<=1000 by decide),fun T' hT=>?_⟩
  have t9:=zAF hT (.tup [.int (st:Int), .int (en':Int), .int (tbl (PP ps) kk (st+1) en'*out (PP ps) kk n st en')])
  have g9:(upd H8 T' (.tup [.int (st:Int), .int (en':Int), .int (tbl (PP ps) kk (st+1) en'*out (PP ps) kk n st en')])) T'=some (.tup [.int (st:Int), .int (en':Int), .int (rst (PP ps) kk n st en')]):=zAC
  have tb9:=tb8.same t9
  have gF9:=t9 _ _ gF8
  have fp9:=fp8.same t9
  have nTF:T'≠F0:=fun z=>by rw[z,gF8]at hT;cases hT
  generalize upd H8 T' _=H9 at*
  walk_at "go"
  refine⟨F0,_,_,rfl,rfl,gF9,?_,?_⟩
  ·have:=zGP n st q' (by omega) (by omega) hn
   rw[fp9.1,PySem.sizeLine_eq];omega
  have up:SameBut1 F0 H9 (upd H9 F0 (.lst (vs5++[.ref T']))):=SameBut1.upd
  walk_at "go"
  refine⟨_,_,_,_,_,_,_,rfl,tb9.but hHF nFs nFa up,ok8,zAC,?_⟩
  rw[zMm,<-hen]
  exact(fp9.lst gF9).more (up _ _ g9 nTF)
 rintro r σ H7 hr7 ⟨T7,o10,rfl,tb7,ok7,gF7,fp7⟩
 refine nbk (P:=fun b=>(_:TG) _ _ _ fun σ2 H2=>(_:TS) ⟨_,_,b,_⟩ σ2 H2) fun bk=>?_
 try dsimp only
 obtain⟨sp,hsp⟩:∃e:Nat,e=en'+1+2*r:=⟨_,rfl⟩
 have e4:((en':Int)+1+(r:Int)*2)=(sp:Int):=by omega
 have hsp2:sp<=n:=by omega
 rw[e4]
 have e5:((en':Int)+1)=((en'+1:Nat):Int):=by omega
 have eOo:T7 st sp=Oo (PP ps) kk n st sp:=ok7.row (by omega) hsp2 (by omega)
 have bOo:=zNk (ps:=ps) (k:=kk) hsm hk hn (t:=st) (j:=sp) (by omega) hsp2
 have btb2:0<=tbl (PP ps) kk (en'+1) sp/\tbl (PP ps) kk (en'+1) sp<=cap:=by
  unfold tbl
  rw[if_pos (by omega)]
  exact zFI hk hsm (by omega) _ _
 walk_at "go"
 rw[e5]
 refine zAf (SqL.of tb7.top) (zAN (tb7.at (i:=en'+1) (by omega))) ?_
 walk_at "go"
 refine zEv (SqL.of (tb7.row (en'+1) (by omega))) (zBW (j:=sp) hsp2) ?_
 walk_at "go"
 refine zAf (SqL.of tb7.top) (zAN (tb7.at (i:=st) (by omega))) ?_
 walk_at "go"
 refine zAf (SqL.of (tb7.row st (by omega))) (zAN (zBW (j:=sp) hsp2)) ?_
 rw[eOo]
 walk_at "go"
 refine zBu (zA4 bOo.1 bOo.2 zGi) (zA4 bpr.1 bpr.2 zEx) ?_
 walk_at "go"
 refine zBu (zA4 (Int.mul_nonneg bOo.1 bpr.1) (Int.mul_le_mul bOo.2 bpr.2 bpr.1 (Int.pow_nonneg (by decide))) zJ2) (zA4 btb.1 btb.2 zDV) ?_
 refine zGs ?_
 refine zBt (tb7.row (en'+1) (by omega)) (j:=sp) (by rw[zCA];unfold ixN;rw[if_pos (by omega),if_pos (by omega)];simp) ?_
 have tb8:=tb7.set (i:=en'+1) (j:=sp) (v:=T7 (en'+1) sp+Oo (PP ps) kk n st sp*pr (PP ps) kk st en'*tbl (PP ps) kk (st+1) en') (by omega)
 have ok8:=OkT.stop (r:=r) (v:=T7 (en'+1) sp+Oo (PP ps) kk n st sp*pr (PP ps) kk st en'*tbl (PP ps) kk (st+1) en') (h:=(show OkT (PP ps) kk n st q' (st+2+2*q'+2*r) T7 by rw[show st+2+2*q'+2*r=en'+1+2*r by omega];exact ok7)) (by rw[show st+2+2*q'+2*r=sp by omega,show st+2+2*q'=en'+1 by omega,<-hen]) (by omega)
 rw[show st+2+2*q'+2*r=sp by omega,show st+2+2*q'=en'+1 by omega]at ok8
 have gF8:(upd H7 (ad (en'+1)) (.lst ((rwl n (T7 (en'+1))).set sp (.int (T7 (en'+1) sp+Oo (PP ps) kk n st sp*pr (PP ps) kk st en'*tbl (PP ps) kk (st+1) en'))))) F0=some (.lst vs5):=by rw[zAG (nFa (en'+1) (by omega))];exact gF7
 have fp8:=fp7.lst (o:= .lst ((rwl n (T7 (en'+1))).set sp (.int (T7 (en'+1) sp+Oo (PP ps) kk n st sp*pr (PP ps) kk st en'*tbl (PP ps) kk (st+1) en')))) (tb7.row (en'+1) (by omega))
 generalize upd H7 (ad (en'+1)) _=H8 at*
 generalize(fun a b=>if a=en'+1/\b=sp then T7 (en'+1) sp+Oo (PP ps) kk n st sp*pr (PP ps) kk st en'*tbl (PP ps) kk (st+1) en' else T7 a b)=T8 at*
 have eOo8:T8 st sp=Oo (PP ps) kk n st sp:=ok8.row (by omega) hsp2 (by omega)
 walk_at "go"
 refine zAf (SqL.of tb8.top) (zAN (tb8.at (i:=st) (by omega))) ?_
 walk_at "go"
 refine zAf (SqL.of (tb8.row st (by omega))) (zAN (zBW (j:=sp) hsp2)) ?_
 walk_at "go"
 rw[e5,eOo8]
 refine zAf (SqL.of (tb8.sm _ _ tbS.top)) (zAN (tbS.at (i:=en'+1) (by omega))) ?_
 walk_at "go"
 refine zAf (SqL.of (tb8.sm _ _ (tbS.row (en'+1) (by omega)))) (zAN (zBW (j:=sp) hsp2)) ?_
 refine zBu (zA4 bOo.1 bOo.2 zGi) (zA4 btb2.1 btb2.2 zDV) ?_
 walk_at "go"
 refine⟨T8,some (.int (sp:Int)),?_,tb8,ok8,gF8,fp8⟩
 have es:(sm (en'+1+2*(r+1)) fun t=>Oo (PP ps) kk n st t*tbl (PP ps) kk (en'+1) t)=(sm (en'+1+2*r) fun t=>Oo (PP ps) kk n st t*tbl (PP ps) kk (en'+1) t)+Oo (PP ps) kk n st sp*tbl (PP ps) kk (en'+1) sp:=by
  rw[show en'+1+2*(r+1)=(en'+1+2*r)+1+1 by omega,sm,sm,zEk (x:=en'+1) (y:=en'+1+2*r+1) (by omega),Int.mul_zero,Int.add_zero,<-hsp]
 rw[es]
 rfl
theorem sc_bracket_sums:FnScope ["places","sums","found","start","end","rest","opening","weight"] ["places","sums"] (defScope zBG):=⟨rfl,rfl,rfl,by decide +kernel,rfl,by decide +kernel,by decide +kernel⟩
theorem zDI(F:Fun K "bracket_sums" "bracket_sums" zBG f fd)(T:Txt K mg aK cs)(U_pairs_with_rest:FnU P w K mg base k "pairs_with_rest" ["places","sums"] (spPairsR)):FnOk P w K mg base CX0 (k+1) f fd ["places","sums"] (spBrSums):=by
 refine F.ok sc_bracket_sums (fun vs H Q E h=>?_) (fun cdv A outer s H vs Q E hr h=>?_)
 ·obtain⟨p,s,ps,k,ads,H0,rfl,_⟩:=h;rfl
 obtain⟨p,ss,ps,kk,ads,H0,rfl,hP,hn,hk,hl,tbS,q⟩:=h
 have hu:=hr.units0
 have hsm:∀l∈ps,Sm l:=fun l z=>(hl l z).2
 obtain⟨pa,hp0,hpa⟩:=id hP
 refine⟨_,(zAD (zB4 (i:=2) sc_bracket_sums.nd rfl (Or.inl rfl) (own:=["place"]) (sel:=[]) (zAY (osc:=(defScope zBG)) (N:=["places","sums","found","start","end","rest","opening","weight"]) (by decide +kernel)) rfl (zBE K (pv 0)) (fun _ _ _ _ _=>(zAK (i:=0) (show(["place"]:List Str).Nodup from by decide +kernel) rfl (Or.inl rfl))) (zAW (by decide)) (fun _ _ _ _ _=>zBX) (fun _ _ _ _ _=>(zAQ zAm (zAe (zAA zAH zAB)) (zAM (zAU K) rfl T.n_len PySem.boot_len (zAA (pv 0) zAB))))) (zAD (zA1 PassesOwn.never rfl (zBE K (zAb U_pairs_with_rest hr (zAA (pv 0) (zAA (pv 1) zAB)))) (zAp (n:=3) K rfl (zAL (zAK (i:=3) sc_bracket_sums.nd rfl (Or.inl rfl)) (zAL (zAK (i:=4) sc_bracket_sums.nd rfl (Or.inl rfl)) (zAL (zAK (i:=5) sc_bracket_sums.nd rfl (Or.inl rfl)) zAo)))) (zAI (zA1 PassesOwn.never rfl (zBP rfl T.n_range (zAA zAH (zAA (zAM (zAU K) rfl T.n_len PySem.boot_len (zAA (zAS (zA3 K) (pv 0) (pv 3) (fun _ _=>rfl)) zAB)) (zAA zAH zAB)))) (zAK (i:=6) sc_bracket_sums.nd rfl (Or.inl rfl)) (zAD (zAO (i:=7) sc_bracket_sums.nd rfl (Or.inl rfl) (zAQ zAq (zAQ zAq (zAS (zA3 K) (zAS (zA3 K) (pv 0) (pv 3) (fun _ _=>rfl)) (pv 6) (fun _ _=>rfl)) (zAS (zA3 K) (zAS (zA3 K) (pv 0) (pv 4) (fun _ _=>rfl)) (zAQ zAR (pv 6) zAH) (fun _ _=>rfl))) (pv 5))) (zAD (zC8 (zAS (zA3 K) (pv 2) (pv 3) (fun _ _=>rfl)) (pv 6) (zBx K) (pv 7) zDr zA8) (zAI (zC8 (zAS (zA3 K) (pv 2) (pv 4) (fun _ _=>rfl)) (zAQ zAR (pv 6) zAH) (zBx K) (pv 7) zDr zA8))))))) (zAI (zAX (pv 2))))),?_⟩
 have place:∀ {H':Hp} {i:Nat},Same H H'->i<ps.length->∃l,H' (pa i)=some (iL l)/\l.length=2*kk/\Sm l/\∀b,PP ps i b=l.getD b 0:=by
  intro H' i sH hi
  have e:ps[i]? =some ps[i]:=List.getElem?_eq_getElem (by omega)
  have eg:ps.getD i []=ps[i]:=by rw[List.getD_eq_getElem?_getD,e];rfl
  refine⟨ps[i],?_,(hl _ (List.getElem_mem _)).1,(hl _ (List.getElem_mem _)).2,fun b=>by show(ps.getD i []).getD b 0=_;rw[eg]⟩
  have:=sH _ _ (hpa i (by omega))
  rw[eg]at this
  exact this
 have pix:∀ {i:Nat},i<ps.length->((List.range ps.length).map fun i=>V.ref (pa i))[i]? =some (.ref (pa i)):=fun{i} hi=>by rw[List.getElem?_map,List.getElem?_range hi];rfl
 have hlen:((List.range ps.length).map fun i=>V.ref (pa i)).length=ps.length:=by rw[List.length_map,List.length_range]
 walk_at "go"
 refine⟨p,rfl,⟨_,SqL.of hp0⟩,?_⟩
 refine zJA (small (by rw[hlen];omega)) hp0 (fun D i ys H'=>∃ad:Nat->Addr,ys=(List.range i).map (fun j=>V.ref (ad j))/\(∀j,j<i->H' (ad j)=some (.lst (rw2 (2*kk) fun _=>0))/\H (ad j)=none/\ad j≠D)/\∀j j',j<i->j'<i->ad j=ad j'->j=j')
  (fun D _=>⟨fun _=>D,rfl,fun j hj=>absurd hj (by omega),fun j _ hj=>absurd hj (by omega)⟩) (fun D i ys H1 H2 _ ⟨ad,e,h1,h2⟩ s12=>⟨ad,e,fun j hj=>⟨s12 _ _ (h1 j hj).1 (h1 j hj).2.2,(h1 j hj).2⟩,h2⟩)
  (fun D ys H' hD hy _ sH ⟨ad,e,h1,h2⟩=>?_) ?_
 rotate_left
 ·rintro D i x ys H' R hD hx hy hl' sH ⟨ad,e,h1,h2⟩ r
  have hi:i<ps.length:=by
   have:=(List.getElem?_eq_some_iff.mp hx).1
   rw[hlen]at this;exact this
  rw[pix hi]at hx
  cases hx
  obtain⟨l,gl,ll,_,_⟩:=place sH hi
  walk_at "go"
  refine⟨small (show 1<=1000 by decide),fun z hz=>?_⟩
  walk_at "go"
  refine zBS (.inl (SqL.of (zAF hz _ _ _ gl))) ?_
  have el:(((l.map V.int).length:Nat):Int)=((2*kk:Nat):Int):=by rw[List.length_map,ll]
  rw[el]
  refine zKy (k:=((2*kk:Nat):Int)) (xs:=[.int 0]) zAC (by omega) (by omega) (small (by rw[List.length_singleton,Int.toNat_natCast];omega)) (fun p' hp'=>?_)
  have hpz:p'≠z:=fun w=>by rw[w,zAC]at hp';cases hp'
  have hp2:H' p'=none:=by rw[zAG hpz]at hp';exact hp'
  have hpD:p'≠D:=fun w=>by rw[w,hy]at hp2;cases hp2
  have sp:Same H' (upd (upd H' z (.lst [.int 0])) p' (.lst (List.replicate ((2*kk:Nat):Int).toNat [V.int 0]).flatten)):=(zAF hz _).trans (zAF hp' _)
  refine r _ _ sp ⟨fun j=>if j=i then p' else ad j,?_,?_,?_⟩
  ·subst e
   rw[List.range_succ,List.map_append]
   congr 1
   ·refine List.map_congr_left fun j hj=>?_
    have:=List.mem_range.mp hj
    show V.ref (ad j)=V.ref (if j=i then p' else ad j)
    rw[if_neg (by omega)]
   ·simp
  ·intro j hj
   by_cases ej:j=i
   ·subst ej
    simp only[if_true]
    refine⟨?_,?_,hpD⟩
    ·rw[zAC,Int.toNat_natCast,zHh]
    ·exact sH.free hp2
   ·simp only[if_neg ej]
    obtain⟨a1,a2,a3⟩:=h1 j (by omega)
    exact⟨sp _ _ a1,a2,a3⟩
  ·intro j j' hj hj' ee
   have nq:∀j,j<i->ad j≠p':=fun j hj w=>by have:=(h1 j hj).1;rw[w,hp2]at this;cases this
   by_cases e1:j=i<;>by_cases e2:j'=i
   ·omega
   ·simp only[if_pos e1,if_neg e2]at ee;exact absurd ee.symm (nq j' (by omega))
   ·simp only[if_neg e1,if_pos e2]at ee;exact absurd ee (nq j (by omega))
   ·simp only[if_neg e1,if_neg e2]at ee;exact h2 j j' (by omega) (by omega) ee
 rw[hlen]at e h1 h2
 subst e
 have tw0:Tw H H' D ad ps.length (2*kk) (fun i b=>sms (((prs ps.length).take 0).map (ga (PP ps) kk ps.length i b))):=⟨hD,fun i hi=>(h1 i (by omega)).2.1,fun i hi=>(h1 i (by omega)).2.2,fun i j hi hj=>h2 i j (by omega) (by omega),hy,fun i hi=>(h1 i (by omega)).1,sH⟩
 clear h1 h2 hD hy
 walk_at "go"
 refine zDn (hP.same sH) hn hk hl (ads:=ads) (H0:=H0) ?_ (fun F0 vs' H2 hF0 s2 gF fp=>?_)
 ·exact tbS.same sH
 have tw1:=tw0.same s2
 have nFa:∀i,i<ps.length->F0≠ad i:=fun i hi z=>by rw[z,tw0.row i hi]at hF0;cases hF0
 clear tw0
 walk_at "go"
 refine⟨F0,rfl,⟨_,SqL.of gF⟩,?_⟩
 refine zEQ (xs:=vs') (fun m σ H'=>∃ (o3 o4 o5 o6 o7:Option V),σ=[some (.ref p),some (.ref ss),some (.ref D),o3,o4,o5,o6,o7]/\Tw H H' D ad ps.length (2*kk) (fun i b=>sms (((prs ps.length).take m).map (ga (PP ps) kk ps.length i b)))/\H' F0=some (.lst vs')/\Fp (PP ps) kk ps.length H' vs' (prs ps.length)) ⟨_,_,_,_,_,rfl,tw1,gF,fp⟩ (fun m σ H' _ ⟨_,_,_,_,_,_,_,g,_⟩=>SqL.of g) ?_ ?_
 rotate_left
 ·rintro σ H3 ⟨o3,o4,o5,o6,o7,rfl,tw,g3,fp3⟩
  walk_at "go"
  refine q D ad H3 (tw.congr fun i j hi hj=>?_)
  rw[fp3.1,List.take_length]
  exact zNN _ hi hj
 clear tw1 gF fp
 rintro m x σ H3 hx ⟨o3,o4,o5,o6,o7,rfl,tw3,g3,fp3⟩
 refine nbk (P:=fun b=>(_:TG) _ _ _ fun σ2 H2=>(_:TS) ⟨_,_,b,_⟩ σ2 H2) fun bk=>?_
 try dsimp only
 have hm:m<(prs ps.length).length:=by
  have:=(List.getElem?_eq_some_iff.mp hx).1
  rw[fp3.1]at this;exact this
 obtain⟨⟨st,en⟩,hse⟩:∃y,(prs ps.length)[m]? =some y:=⟨_,List.getElem?_eq_getElem hm⟩
 obtain⟨T,eT,gT⟩:=fp3.2 m _ hse
 rw[hx]at eT
 cases eT
 have hmem:=zFe (List.mem_of_getElem? hse)
 have hst:st<ps.length:=by have h1:=hmem.1;have h2:=hmem.2;dsimp only at h1 h2;omega
 have hen:en<ps.length:=hmem.2
 have hlt:st<en:=hmem.1
 dsimp only at gT
 walk_at "go"
 refine⟨T,_,rfl,SqT.of gT,rfl,?_⟩
 obtain⟨l1,gl1,ll1,sm1,e1⟩:=place tw3.sm hst
 walk_at "go"
 refine zAf (SqL.of (tw3.sm _ _ hp0)) (zAN (pix hst)) ?_
 walk_at "go"
 refine zBS (.inl (SqL.of gl1)) ?_
 have el:(((l1.map V.int).length:Nat):Int)=((2*kk:Nat):Int):=by rw[List.length_map,ll1]
 rw[el]
 walk_at "go"
 refine⟨0,_,2,rfl,⟨by decide,by decide,zBc (by omega) (by omega) (by omega) (by omega)⟩,?_⟩
 have er:rN 0 ((2*kk:Nat):Int) 2=kk:=by rw[zDl];omega
 rw[er]
 have br:=zMg (ps:=ps) (k:=kk) hsm hk hn hlt hen
 refine zB5 (fun o σ H'=>∃ (o6 o7:Option V),σ=[some (.ref p),some (.ref ss),some (.ref D),some (.int (st:Int)),some (.int (en:Int)),some (.int (rst (PP ps) kk ps.length st en)),o6,o7]/\Tw H H' D ad ps.length (2*kk) (fun i b=>gp (PP ps) kk ps.length m o i b (st,en))/\H' F0=some (.lst vs')/\Fp (PP ps) kk ps.length H' vs' (prs ps.length)) ⟨_,_,rfl,tw3.congr fun i j _ _=>(zLq _ _ _ _ _ _ _).symm,g3,fp3⟩ ?_ ?_
 rotate_left
 ·rintro σ H4 ⟨o6,o7,rfl,tw4,g4,fp4⟩
  exact⟨_,_,_,_,_,rfl,tw4.congr fun i j _ hj=>zNL hse hj,g4,fp4⟩
 clear tw3 g3 fp3 gl1
 rintro o σ H4 ho ⟨o6,o7,rfl,tw4,g4,fp4⟩
 refine nbk (P:=fun b=>(_:TG) _ _ _ fun σ2 H2=>(_:TS) ⟨_,_,b,_⟩ σ2 H2) fun bk=>?_
 try dsimp only
 have e0:(0:Int)+(o:Int)*2=((2*o:Nat):Int):=by omega
 have e2:((2*o:Nat):Int)+1=((2*o+1:Nat):Int):=by omega
 rw[e0]
 obtain⟨l1,gl1,ll1,sm1,e1⟩:=place tw4.sm hst
 obtain⟨l2,gl2,ll2,sm2,e3⟩:=place tw4.sm hen
 have gx:l1[2*o]? =some (l1.getD (2*o) 0):=by rw[List.getD_eq_getElem?_getD,List.getElem?_eq_getElem (by omega)];rfl
 have gy:l2[2*o+1]? =some (l2.getD (2*o+1) 0):=by rw[List.getD_eq_getElem?_getD,List.getElem?_eq_getElem (by omega)];rfl
 have bx:=sm1.at (2*o)
 have by':=sm2.at (2*o+1)
 walk_at "go"
 refine zAf (SqL.of (tw4.sm _ _ hp0)) (zAN (pix hst)) ?_
 walk_at "go"
 refine zAf (SqL.of gl1) (zAN (by rw[List.getElem?_map,gx];rfl)) ?_
 walk_at "go"
 refine zAf (SqL.of (tw4.sm _ _ hp0)) (zAN (pix hen)) ?_
 walk_at "go"
 first|rw[e2]|skip
 refine zAf (SqL.of gl2) (zAN (by rw[List.getElem?_map,gy];rfl)) ?_
 refine zBu (zA4 bx.1 bx.2 zD0) (zA4 by'.1 by'.2 zD0) ?_
 walk_at "go"
 refine zBu (zA4 (Int.mul_nonneg bx.1 by'.1) (Int.le_trans (Int.mul_le_mul bx.2 by'.2 by'.1 (by decide)) (by decide:top30*top30<=4*(top30*top30))) zEx) (zA4 br.1 br.2 zEc) ?_
 have hw:l1.getD (2*o) 0*l2.getD (2*o+1) 0*rst (PP ps) kk ps.length st en=PP ps st (2*o)*PP ps en (2*o+1)*rst (PP ps) kk ps.length st en:=by rw[e1,e3]
 generalize l1.getD (2*o) 0*l2.getD (2*o+1) 0*rst (PP ps) kk ps.length st en=w at hw⊢
 walk_at "go"
 refine zAf (SqL.of tw4.top) (zAN (tw4.at hst)) ?_
 walk_at "go"
 refine zEv (SqL.of (tw4.row st hst)) (zFa (j:=2*o) (by omega)) ?_
 walk_at "go"
 first|refine zGs ?_ |skip
 refine zBt (tw4.row st hst) (j:=2*o) (by rw[zD8];unfold ixN;rw[if_pos (by omega),if_pos (by omega)];exact congrArg some (Int.toNat_natCast _)) ?_
 have tw5:=tw4.set (i:=st) (j:=2*o) (v:=gp (PP ps) kk ps.length m o st (2*o) (st,en)+w) hst
 have g5:(upd H4 (ad st) (.lst ((rw2 (2*kk) (fun b=>gp (PP ps) kk ps.length m o st b (st,en))).set (2*o) (.int (gp (PP ps) kk ps.length m o st (2*o) (st,en)+w))))) F0=some (.lst vs'):=by rw[zAG (nFa st hst)];exact g4
 have fp5:=fp4.lst (o:= .lst ((rw2 (2*kk) (fun b=>gp (PP ps) kk ps.length m o st b (st,en))).set (2*o) (.int (gp (PP ps) kk ps.length m o st (2*o) (st,en)+w)))) (tw4.row st hst)
 generalize upd H4 (ad st) _=H5 at*
 walk_at "go"
 refine zAf (SqL.of tw5.top) (zAN (tw5.at hen)) ?_
 walk_at "go"
 first|rw[e2]|skip
 refine zEv (SqL.of (tw5.row en hen)) (zFa (j:=2*o+1) (by omega)) ?_
 walk_at "go"
 first|refine zGs ?_ |skip
 refine zBt (tw5.row en hen) (j:=2*o+1) (by rw[zD8];unfold ixN;rw[if_pos (by omega),if_pos (by omega)];exact congrArg some (Int.toNat_natCast _)) ?_
 have tw6:=tw5.set (i:=en) (j:=2*o+1) (v:=(if en=st/\2*o+1=2*o then gp (PP ps) kk ps.length m o st (2*o) (st,en)+w else gp (PP ps) kk ps.length m o en (2*o+1) (st,en))+w) hen
 have g6:=zAG (H:=H5) (o:= .lst ((rw2 (2*kk) (fun b=>if en=st/\b=2*o then gp (PP ps) kk ps.length m o st (2*o) (st,en)+w else gp (PP ps) kk ps.length m o en b (st,en))).set (2*o+1) (.int ((if en=st/\2*o+1=2*o then gp (PP ps) kk ps.length m o st (2*o) (st,en)+w else gp (PP ps) kk ps.length m o en (2*o+1) (st,en))+w)))) (nFa en hen)
 have fp6:=fp5.lst (o:= .lst ((rw2 (2*kk) (fun b=>if en=st/\b=2*o then gp (PP ps) kk ps.length m o st (2*o) (st,en)+w else gp (PP ps) kk ps.length m o en b (st,en))).set (2*o+1) (.int ((if en=st/\2*o+1=2*o then gp (PP ps) kk ps.length m o st (2*o) (st,en)+w else gp (PP ps) kk ps.length m o en (2*o+1) (st,en))+w)))) (tw5.row en hen)
 rw[g5]at g6
 exact⟨_,_,rfl,tw6.congr fun i j _ _=>zLr w hw,g6,fp6⟩
theorem sc_filled:FnScope ["k","row","places","sums"] ["k","row"] (defScope zEX):=⟨rfl,rfl,rfl,by decide +kernel,rfl,by decide +kernel,by decide +kernel⟩
theorem zH6(F:Fun K "filled" "filled" zEX f fd)(T:Txt K mg aK cs)(U_counted_places:FnU P w K mg base k "counted_places" ["k","row"] (spCounted))(U_span_sums:FnU P w K mg base k "span_sums" ["places"] (spSpans))(U_check_filling:FnUE P w K mg base k "check_filling" ["sums"] (spCheckFillE cs)):FnOk P w K mg base (CXE P w) (k+1) f fd ["k","row"] (spFilled28 cs):=by
 refine F.okE sc_filled (fun vs H Q E h=>?_) (fun cdv A outer s H vs Q E hr h=>?_)
 ·obtain⟨k,a,⟨rfl,_⟩,_⟩:=h;rfl
 obtain⟨kk,a,⟨rfl,h1,h2,ha⟩,h⟩:=h
 have hl:=zBg ha
 rcases h with⟨hc,r⟩|⟨hc,q⟩
 ·refine⟨_,(zAD (zAO (i:=2) sc_filled.nd rfl (Or.inl rfl) (zAb U_counted_places hr (zAA (pv 0) (zAA (pv 1) zAB)))) (zAD (zAO (i:=3) sc_filled.nd rfl (Or.inl rfl) (zAb U_span_sums hr (zAA (pv 2) zAB))) (zAD (zAg (zAw U_check_filling hr zB1 (zAA (pv 3) zAB))) (zAI (zAX (zA2 (zAA (pv 2) (zAA (pv 3) zAB)))))))),?_⟩
  walk_at "go"
  refine zDS h1 h2 hl (fun r2 H2 hr2 s2 hP=>?_)
  walk_at "go"
  refine zEp (k:=kk.toNat) hP (by rw[List.length_map];exact hl) (by omega) (zAj (by omega)) (fun s3 ad H3 tb=>?_)
  walk_at "go"
  exact⟨_,s3,ad,_,_,rfl,tb, .inr ⟨(zCy _ _).trans hc,r.pass (s2.trans tb.sm)⟩⟩
 ·refine zCO ⟨_,(zAD (zAO (i:=2) sc_filled.nd rfl (Or.inl rfl) (zAb U_counted_places hr (zAA (pv 0) (zAA (pv 1) zAB)))) (zAD (zAO (i:=3) sc_filled.nd rfl (Or.inl rfl) (zAb U_span_sums hr (zAA (pv 2) zAB))) (zAD (zAg (zAw U_check_filling hr zDZ (zAA (pv 3) zAB))) (zAI (zAX (zA2 (zAA (pv 2) (zAA (pv 3) zAB)))))))),?_⟩
  walk_at "go"
  refine zDS h1 h2 hl (fun r2 H2 hr2 s2 hP=>?_)
  walk_at "go"
  refine zEp (k:=kk.toNat) hP (by rw[List.length_map];exact hl) (by omega) (zAj (by omega)) (fun s3 ad H3 tb=>?_)
  walk_at "go"
  refine⟨_,s3,ad,_,_,rfl,tb, .inl ⟨fun z=>hc ((zCy _ _).symm.trans z),?_⟩⟩
  walk_at "go"
  refine⟨small (show 2<=1000 by decide),fun T hT=>?_⟩
  have t:=zAF hT (.tup [.ref r2, .ref s3])
  exact q T r2 s3 ad _ _ ((s2.trans tb.sm).trans t) zAC ((hP.same tb.sm).same t) (tb.same t)
theorem sc_brackets_at:FnScope ["k","row","i","places","sums"] ["k","row","i"] (defScope zBB):=⟨rfl,rfl,rfl,by decide +kernel,rfl,by decide +kernel,by decide +kernel⟩
theorem zDf(F:Fun K "brackets_at" "brackets_at" zBB f fd)(T:Txt K mg aK cs)(U_check_line:FnUE P w K mg base k "check_line" ["k","row"] (spGateE K cs spCheckLine))(U_check_place:FnUE P w K mg base k "check_place" ["row","i"] (spPlaceE K cs))(U_filled:FnUE P w K mg base k "filled" ["k","row"] (spFilled28 cs))(U_bracket_sums:FnU P w K mg base k "bracket_sums" ["places","sums"] (spBrSums)):FnOk P w K mg base (CXE P w) (k+1) f fd ["k","row","i"] (spAt28 cs):=by
 refine F.okE sc_brackets_at (fun vs H Q E h=>?_) (fun cdv A outer s H vs Q E hr h=>?_)
 ·obtain⟨k,a,i,rfl,_⟩:=h;rfl
 obtain⟨kk,a,i,rfl,h1,h2,ha,hi,h⟩:=h
 have hl:=zBg ha
 have hu:=hr.units0
 rcases h with⟨hc,r⟩|⟨hc,q⟩
 ·refine⟨_,(zAD (zAg (zAw U_check_line hr zB1 (zAA (pv 0) (zAA (pv 1) zAB)))) (zAD (zAg (zAw U_check_place hr zB1 (zAA (pv 1) (zAA (pv 2) zAB)))) (zAD (zBe (zAw U_filled hr zB1 (zAA (pv 0) (zAA (pv 1) zAB))) (zAp (n:=2) K rfl (zAL (zAK (i:=3) sc_brackets_at.nd rfl (Or.inl rfl)) (zAL (zAK (i:=4) sc_brackets_at.nd rfl (Or.inl rfl)) zAo)))) (zAI (zAX (zGW (own:=["bracket","many"]) (sel:=[]) (zAY (osc:=(defScope zBB)) (N:=["k","row","i","places","sums"]) (by decide +kernel)) rfl (zHs rfl T.n_zip (zAA (zBm T.g_BRACKETS) (zAA (zAS (zA3 K) (zAb U_bracket_sums hr (zAA (pv 3) (zAA (pv 4) zAB))) (pv 2) (fun _ _=>rfl)) zAB))) (fun _ _ _ _ _=>(zAp (n:=2) K rfl (zAL (zAK (i:=0) (show(["bracket","many"]:List Str).Nodup from by decide +kernel) rfl (Or.inl rfl)) (zAL (zAK (i:=1) (show(["bracket","many"]:List Str).Nodup from by decide +kernel) rfl (Or.inl rfl)) zAo)))) (zCk (zAv zAV (zBK zAV zBC) (zAW (by decide)) (zAv zAV zBC (zAW (by decide)) zCl))) (fun _ _ _ _ _=>zBk (zAP zJd (pv 1) zAH (nomark _))) (fun _ _ _ _ _=>(pv 0)) (fun _ _ _ _ _=>(pv 1)))))))),?_⟩
  walk_at "go"
  refine .inl (zAz h1 h2 ha (fun H1 s1=>?_))
  walk_at "go"
  refine⟨a,_,rfl,hl, .inl ⟨i,rfl,by omega,by omega,?_⟩⟩
  walk_at "go"
  exact⟨kk,a,⟨rfl,h1,h2,ha⟩, .inl ⟨hc,r.pass s1⟩⟩
 ·refine zCO ⟨_,(zAD (zAg (zAw U_check_line hr zDZ (zAA (pv 0) (zAA (pv 1) zAB)))) (zAD (zAg (zAw U_check_place hr zDZ (zAA (pv 1) (zAA (pv 2) zAB)))) (zAD (zBe (zAw U_filled hr zDZ (zAA (pv 0) (zAA (pv 1) zAB))) (zAp (n:=2) K rfl (zAL (zAK (i:=3) sc_brackets_at.nd rfl (Or.inl rfl)) (zAL (zAK (i:=4) sc_brackets_at.nd rfl (Or.inl rfl)) zAo)))) (zAI (zAX (zGW (own:=["bracket","many"]) (sel:=[]) (zAY (osc:=(defScope zBB)) (N:=["k","row","i","places","sums"]) (by decide +kernel)) rfl (zHs rfl T.n_zip (zAA (zBm T.g_BRACKETS) (zAA (zAS (zA3 K) (zAb U_bracket_sums hr (zAA (pv 3) (zAA (pv 4) zAB))) (pv 2) (fun _ _=>rfl)) zAB))) (fun _ _ _ _ _=>(zAp (n:=2) K rfl (zAL (zAK (i:=0) (show(["bracket","many"]:List Str).Nodup from by decide +kernel) rfl (Or.inl rfl)) (zAL (zAK (i:=1) (show(["bracket","many"]:List Str).Nodup from by decide +kernel) rfl (Or.inl rfl)) zAo)))) (zCk (zAv zAV (zBK zAV zBC) (zAW (by decide)) (zAv zAV zBC (zAW (by decide)) zCl))) (fun _ _ _ _ _=>zBk (zAP zJd (pv 1) zAH (nomark _))) (fun _ _ _ _ _=>(pv 0)) (fun _ _ _ _ _=>(pv 1)))))))),?_⟩
  walk_at "go"
  refine .inl (zAz h1 h2 ha (fun H1 s1=>?_))
  walk_at "go"
  refine⟨a,_,rfl,hl, .inl ⟨i,rfl,by omega,by omega,?_⟩⟩
  walk_at "go"
  refine⟨kk,a,⟨rfl,h1,h2,ha⟩, .inr ⟨hc,fun T p ss ad H0 H2 s2 gT hP tb=>?_⟩⟩
  walk_at "go"
  refine⟨T,_,rfl,SqT.of gT,rfl,?_⟩
  walk_at "go"
  refine zLC ?_
  refine zMK ?_
  walk_at "go"
  have eln:(a.map (plw (ones kk.toNat))).length=a.length:=List.length_map _
  refine zDv hP (by rw[eln];exact hl) (show kk.toNat<=4 by omega) (zAj (by omega)) tb (fun F0 ad4 H4 tw=>?_)
  rw[eln]at tw
  walk_at "go"
  refine zAf (SqL.of tw.top) (zAN (tw.at hi)) ?_
  walk_at "go"
  refine⟨_,ad4 i,_,rfl,tw.row i hi,?_⟩
  have hrow:=tw.row i hi
  have s24:Same H2 H4:=tw.sm
  have hk8:2*kk.toNat<=8:=by omega
  refine zJ0 (n:=2*kk.toNat) (fun D n kvs H'=>Same H4 H'/\kvs=kvB kk.toNat a i n) (fun D hD=>⟨zAF hD _,rfl⟩) (fun D n kvs H' _ hn _ p=>⟨by show n<8;omega,_,p.1 _ _ hrow,by rw[zD8];exact hn⟩) (fun D kvs H' hD hy p=>⟨⟨_,p.1 _ _ hrow,?_⟩,?_⟩) ?_
  ·rw[zD8]
   by_cases z:2*kk.toNat=8
   ·exact .inl z
   ·exact .inr ⟨show 2*kk.toNat<8 by omega,rfl⟩
  ·obtain⟨sp,rfl⟩:=p
   exact q D H' (s1.free (s2.free (s24.free hD))) ((s1.trans s2).trans (s24.trans sp)) hy
  rintro D n kvs G x G3 hD hn hy ⟨sG,ek⟩ ⟨Tt,c,xs,dd,hTt,hc',hxs,hd,rfl,rfl⟩
  rw[sG _ _ hrow]at hxs
  cases hxs
  rw[zFa hn]at hd
  cases hd
  have ec:c=brs.getD n 0:=by
   have h3:brs[n]? =some c:=by rw[<-List.getElem?_toArray];exact hc'
   rw[zB2 (by omega)]at h3
   exact(Option.some.inj h3).symm
  subst ec
  have eat:tbl (Pat (PP (a.map (plw (ones kk.toNat)))) i n) kk.toNat 0 a.length=atB kk.toNat a i n:=rfl
  rw[eat]
  have hkm:=zJi kk.toNat a i n
  have hkl:=zLj kk.toNat a i n
  have hkn:=zLi (k:=kk.toNat) (a:=a) (i:=i) (n:=n) (by omega)
  have tT:=zAF hTt (.tup [tx [brs.getD n 0], .int (atB kk.toNat a i n)])
  have gTt:(upd G Tt (.tup [tx [brs.getD n 0], .int (atB kk.toNat a i n)])) Tt=some (.tup [tx [brs.getD n 0], .int (atB kk.toNat a i n)]):=zAC
  have hyT:=tT _ _ hy
  have sT:=sG.trans tT
  show gTup K 2 _ (.ref Tt) _ (upd G Tt (.tup [tx [brs.getD n 0], .int (atB kk.toNat a i n)])) _
  generalize upd G Tt _=G4 at*
  walk_at "go"
  refine⟨Tt,_,rfl,SqT.of gTt,rfl,?_⟩
  walk_at "go"
  subst ek
  refine ifd (fun hz=>?_) (fun hz=>?_)
  ·rw[if_pos hz]at hkm
   walk_at "go"
   refine⟨_,(Sum.inr ⟨#[brs.getD n 0]⟩:Key),hyT,rfl,by rw[sizeLine_eq];omega,2*kk.toNat-(n+1),by omega,rfl,by omega,_,zAC,fun z o hz=>?_,?_⟩
   ·rw[zAG (zAE hz hD)];exact sT _ _ hz
   ·rw[hkm,zJR _ hkn]
  ·rw[if_neg hz]at hkm
   exact⟨2*kk.toNat-(n+1),by omega,rfl,by omega,_,hyT,sT,hkm.symm⟩
theorem sc_sure_places:FnScope ["k","row","places","sums","in_all"] ["k","row"] (defScope zBA):=⟨rfl,rfl,rfl,by decide +kernel,rfl,by decide +kernel,by decide +kernel⟩
theorem zDc(F:Fun K "sure_places" "sure_places" zBA f fd)(T:Txt K mg aK cs)(U_check_line:FnUE P w K mg base k "check_line" ["k","row"] (spGateE K cs spCheckLine))(U_filled:FnUE P w K mg base k "filled" ["k","row"] (spFilled28 cs))(U_whole_sum:FnU P w K mg base k "whole_sum" ["sums"] (spWholeSum))(U_bracket_sums:FnU P w K mg base k "bracket_sums" ["places","sums"] (spBrSums)):FnOk P w K mg base (CXE P w) (k+1) f fd ["k","row"] (spSurePlaces cs):=by
 refine F.okE sc_sure_places (fun vs H Q E h=>?_) (fun cdv A outer s H vs Q E hr h=>?_)
 ·obtain⟨k,a,⟨rfl,_⟩,_⟩:=h;rfl
 obtain⟨kk,a,⟨rfl,h1,h2,ha⟩,h⟩:=h
 have hl:=zBg ha
 have hu:=hr.units0
 rcases h with⟨hc,r⟩|⟨hc,q⟩
 ·refine⟨_,(zAD (zAg (zAw U_check_line hr zB1 (zAA (pv 0) (zAA (pv 1) zAB)))) (zAD (zBe (zAw U_filled hr zB1 (zAA (pv 0) (zAA (pv 1) zAB))) (zAp (n:=2) K rfl (zAL (zAK (i:=2) sc_sure_places.nd rfl (Or.inl rfl)) (zAL (zAK (i:=3) sc_sure_places.nd rfl (Or.inl rfl)) zAo)))) (zAD (zAO (i:=4) sc_sure_places.nd rfl (Or.inr rfl) (zAb U_whole_sum hr (zAA (pv 3) zAB))) (zAI (zAX (zBJ (own:=["at","manies"]) (sel:=[4,1]) (zAY (osc:=(defScope zBA)) (N:=["k","row","places","sums","in_all"]) (by decide +kernel)) rfl (zDB K rfl T.n_enumerate (zAA (zAb U_bracket_sums hr (zAA (pv 2) (zAA (pv 3) zAB))) zAB)) (fun _ _ _ _ _=>(zAp (n:=2) K rfl (zAL (zAK (i:=0) (show(["at","manies","in_all","row"]:List Str).Nodup from by decide +kernel) rfl (Or.inl rfl)) (zAL (zAK (i:=1) (show(["at","manies","in_all","row"]:List Str).Nodup from by decide +kernel) rfl (Or.inl rfl)) zAo)))) (zCk (zAv zAV (zBK zAV zBC) (zAW (by decide)) (zAv zAV zBC (zAW (by decide)) zCl))) (fun _ _ _ _ _=>zBk (PW.pt (zCi (zAP (zA0 K hu) (zAS (zA3 K) (pv 3) (pv 0) (fun _ _=>rfl)) (zBm T.g_UNKNOWN) (nomark _)) (zCB (zAP (zEz K) (pv 2) (pv 1) (by with_unfolding_all rfl)))))) (fun _ _ _ _ _=>(zA2 (zAA (pv 0) (zAA (zAS (zA3 K) (zBm T.g_BRACKETS) (zBU K PySem.F.plainAttrs_list PySem.F.slot_list_index PySem.F.type_list_index zE5 (pv 1) (zAA (pv 2) zAB)) (fun _ _=>rfl)) zAB)))))))))),?_⟩
  walk_at "go"
  refine .inl (zAz h1 h2 ha (fun H1 s1=>?_))
  walk_at "go"
  exact⟨kk,a,⟨rfl,h1,h2,ha⟩, .inl ⟨hc,r.pass s1⟩⟩
 ·refine zCO ⟨_,(zAD (zAg (zAw U_check_line hr zDZ (zAA (pv 0) (zAA (pv 1) zAB)))) (zAD (zBe (zAw U_filled hr zDZ (zAA (pv 0) (zAA (pv 1) zAB))) (zAp (n:=2) K rfl (zAL (zAK (i:=2) sc_sure_places.nd rfl (Or.inl rfl)) (zAL (zAK (i:=3) sc_sure_places.nd rfl (Or.inl rfl)) zAo)))) (zAD (zAO (i:=4) sc_sure_places.nd rfl (Or.inr rfl) (zAb U_whole_sum hr (zAA (pv 3) zAB))) (zAI (zAX (zBJ (own:=["at","manies"]) (sel:=[4,1]) (zAY (osc:=(defScope zBA)) (N:=["k","row","places","sums","in_all"]) (by decide +kernel)) rfl (zDB K rfl T.n_enumerate (zAA (zAb U_bracket_sums hr (zAA (pv 2) (zAA (pv 3) zAB))) zAB)) (fun _ _ _ _ _=>(zAp (n:=2) K rfl (zAL (zAK (i:=0) (show(["at","manies","in_all","row"]:List Str).Nodup from by decide +kernel) rfl (Or.inl rfl)) (zAL (zAK (i:=1) (show(["at","manies","in_all","row"]:List Str).Nodup from by decide +kernel) rfl (Or.inl rfl)) zAo)))) (zCk (zAv zAV (zBK zAV zBC) (zAW (by decide)) (zAv zAV zBC (zAW (by decide)) zCl))) (fun _ _ _ _ _=>zBk (PW.pt (zCi (zAP (zA0 K hu) (zAS (zA3 K) (pv 3) (pv 0) (fun _ _=>rfl)) (zBm T.g_UNKNOWN) (nomark _)) (zCB (zAP (zEz K) (pv 2) (pv 1) (by with_unfolding_all rfl)))))) (fun _ _ _ _ _=>(zA2 (zAA (pv 0) (zAA (zAS (zA3 K) (zBm T.g_BRACKETS) (zBU K PySem.F.plainAttrs_list PySem.F.slot_list_index PySem.F.type_list_index zE5 (pv 1) (zAA (pv 2) zAB)) (fun _ _=>rfl)) zAB)))))))))),?_⟩
  walk_at "go"
  refine .inl (zAz h1 h2 ha (fun H1 s1=>?_))
  walk_at "go"
  refine⟨kk,a,⟨rfl,h1,h2,ha⟩, .inr ⟨hc,fun T p ss ad H0 H2 s2 gT hP tb=>?_⟩⟩
  walk_at "go"
  refine⟨T,_,rfl,SqT.of gT,rfl,?_⟩
  walk_at "go"
  refine zBR tb ?_
  rw[zCy]
  walk_at "go"
  have eln:(a.map (plw (ones kk.toNat))).length=a.length:=List.length_map _
  refine zDv hP (by rw[eln];exact hl) (show kk.toNat<=4 by omega) (zAj (by omega)) tb (fun F0 ad4 H4 tw=>?_)
  rw[eln]at tw
  walk_at "go"
  refine⟨F0,rfl,⟨_,SqL.of tw.top⟩,?_⟩
  have hrl:((List.range a.length).map fun i=>V.ref (ad4 i)).length=a.length:=by rw[List.length_map,List.length_range]
  refine zCI (n:=a.length) (fun D n ys H'=>Same H4 H'/\Sll H' ys ((List.range n).filterMap (surS1 kk.toNat a))) (fun D hD=>⟨zAF hD _,rfl,fun m x h=>by simp at h⟩) (fun D n ys H' hD hn hy p=>⟨_,_,SqL.of (p.1 _ _ tw.top),tw.at hn⟩) (fun D ys H' hD hy hyl p=>⟨⟨_,SqL.of (p.1 _ _ tw.top),hrl.symm⟩,q D ys H' (s1.free (s2.free (tw.sm.free hD))) ((s1.trans s2).trans (tw.sm.trans p.1)) hy p.2⟩) ?_
  rintro D n ys G x G3 hD hn hy hyl ⟨sG,hsl⟩ ⟨Tt,xx,hTt,hxx,rfl,rfl⟩
  have hxx:=hxx _ (SqL.of (sG _ _ tw.top))
  rw[tw.at hn]at hxx
  cases hxx
  have tT:=zAF hTt (.tup [.int (n:Int), .ref (ad4 n)])
  have gTt:(upd G Tt (.tup [.int (n:Int), .ref (ad4 n)])) Tt=some (.tup [.int (n:Int), .ref (ad4 n)]):=zAC
  have hyT:=tT _ _ hy
  have sT:=sG.trans tT
  have hslT:=hsl.same tT
  show gTup K 2 _ (.ref Tt) _ (upd G Tt (.tup [.int (n:Int), .ref (ad4 n)])) _
  generalize upd G Tt _=G4 at*
  have hrow:H4 (ad4 n)=some (.lst (((List.range (2*kk.toNat)).map (atB kk.toNat a n)).map V.int)):=by rw[tw.row n hn,zJJ];rfl
  have hsm:=zEm kk.toNat a n
  have gc:a[n]? =some (a.getD n 0):=by rw[List.getD_eq_getElem?_getD,List.getElem?_eq_getElem hn];rfl
  walk_at "go"
  refine⟨Tt,_,rfl,SqT.of gTt,rfl,?_⟩
  walk_at "go"
  refine zEu (small (by omega)) (zAN gc) ?_
  walk_at "go"
  have skip:surS1 kk.toNat a n=none->∃m',m'<a.length-n/\CW D a.length (fun n ys H'=>Same H4 H'/\Sll H' ys ((List.range n).filterMap (surS1 kk.toNat a))) (n+1) m' G4:=fun hz=>by
   rw[hz]at hsm
   exact⟨a.length-(n+1),by omega,rfl,by omega,ys,hyT,by omega,sT,by rw[hsm];simpa using hslT⟩
  by_cases h63:a.getD n 0=63
  ·refine ifp (by rw[h63];rfl) ?_
   walk_at "go"
   refine zMR (.inl (SqL.of (sT _ _ hrow))) rfl (zIW _) ?_
   rw[zGb]
   cases hf:firB kk.toNat a n with
   |none=>
    have hno:=zFC hf
    have hnm:¬cnt kk.toNat a∈(List.range (2*kk.toNat)).map (atB kk.toNat a n):=fun z=>by
     obtain⟨b,hb,e⟩:=List.mem_map.mp z
     exact hno b (List.mem_range.mp hb) e
    rw[decide_eq_false hnm]
    walk_at "go"
    refine ifq rfl ?_
    exact skip (by unfold surS1;rw[if_pos h63,hf];rfl)
   |some b=>
    obtain⟨hb1,hb2,hb3⟩:=zCQ hf
    have hmm:cnt kk.toNat a∈(List.range (2*kk.toNat)).map (atB kk.toNat a n):=List.mem_map.mpr ⟨b,List.mem_range.mpr hb2,hb1⟩
    rw[decide_eq_true hmm]
    walk_at "go"
    refine ifp rfl ?_
    walk_at "go"
    refine⟨SqL.ty (SqL.of (sT _ _ hrow)),?_⟩
    walk_at "go"
    refine zJI (j:=b) (sT _ _ hrow) (by rw[List.getElem?_map,List.getElem?_range hb2];exact congrArg some hb1) (fun m hm z=>?_) (by rw[List.length_map,List.length_range];omega) ?_
    ·rw[List.getElem?_map,List.getElem?_range (by omega)]at z
     exact hb3 m hm (Option.some.inj z)
    walk_at "go"
    refine zEu (small (by decide)) (zAN (zB2 (show b<8 by omega))) ?_
    walk_at "go"
    refine⟨small (show 2<=1000 by decide),fun T2 hT2=>?_⟩
    have t6:=zAF hT2 (.tup [.int (n:Int),tx [brs.getD b 0]])
    have g6:(upd G4 T2 (.tup [.int (n:Int),tx [brs.getD b 0]])) T2=some (.tup [.int (n:Int),tx [brs.getD b 0]]):=zAC
    have hy6:=t6 _ _ hyT
    rw[show surS1 kk.toNat a n=some (n,b) by unfold surS1;rw[if_pos h63,hf];rfl]at hsm
    refine⟨ys,hy6,by rw[sizeLine_eq];omega,a.length-(n+1),by omega,rfl,by omega,_,zAC,by rw[List.length_append,List.length_singleton];omega,fun z o hz=>?_,?_⟩
    ·rw[zAG (zAE hz hD)];exact t6 _ _ (sT _ _ hz)
    ·rw[hsm]
     exact((hslT.same t6).lst hy6).more (by rw[zAG (zBr g6 hy6 (fun z=>by cases z))];exact g6)
  ·refine ifq (by simpa using h63) ?_
   refine ifq rfl ?_
   exact skip (by unfold surS1;rw[if_neg h63])
theorem sc_sure_pairs:FnScope ["k","row","places","sums","in_all"] ["k","row"] (defScope zBI):=⟨rfl,rfl,rfl,by decide +kernel,rfl,by decide +kernel,by decide +kernel⟩
theorem zEH(F:Fun K "sure_pairs" "sure_pairs" zBI f fd)(T:Txt K mg aK cs)(U_check_line:FnUE P w K mg base k "check_line" ["k","row"] (spGateE K cs spCheckLine))(U_filled:FnUE P w K mg base k "filled" ["k","row"] (spFilled28 cs))(U_whole_sum:FnU P w K mg base k "whole_sum" ["sums"] (spWholeSum))(U_pairs_with_rest:FnU P w K mg base k "pairs_with_rest" ["places","sums"] (spPairsR))(U_pair_sum:FnU P w K mg base k "pair_sum" ["first","last"] (spPair)):FnOk P w K mg base (CXE P w) (k+1) f fd ["k","row"] (spSurePairs cs):=by
 refine F.okE sc_sure_pairs (fun vs H Q E h=>?_) (fun cdv A outer s H vs Q E hr h=>?_)
 ·obtain⟨k,a,⟨rfl,_⟩,_⟩:=h;rfl
 obtain⟨kk,a,⟨rfl,h1,h2,ha⟩,h⟩:=h
 have hl:=zBg ha
 have hu:=hr.units0
 rcases h with⟨hc,r⟩|⟨hc,q⟩
 ·refine⟨_,(zAD (zAg (zAw U_check_line hr zB1 (zAA (pv 0) (zAA (pv 1) zAB)))) (zAD (zBe (zAw U_filled hr zB1 (zAA (pv 0) (zAA (pv 1) zAB))) (zAp (n:=2) K rfl (zAL (zAK (i:=2) sc_sure_pairs.nd rfl (Or.inr rfl)) (zAL (zAK (i:=3) sc_sure_pairs.nd rfl (Or.inl rfl)) zAo)))) (zAD (zAO (i:=4) sc_sure_pairs.nd rfl (Or.inr rfl) (zAb U_whole_sum hr (zAA (pv 3) zAB))) (zAI (zAX (zBJ (own:=["start","end","rest"]) (sel:=[4,2]) (zAY (osc:=(defScope zBI)) (N:=["k","row","places","sums","in_all"]) (by decide +kernel)) rfl (zBE K (zAb U_pairs_with_rest hr (zAA (pv 2) (zAA (pv 3) zAB)))) (fun _ _ _ _ _=>(zAp (n:=3) K rfl (zAL (zAK (i:=0) (show(["start","end","rest","in_all","places"]:List Str).Nodup from by decide +kernel) rfl (Or.inl rfl)) (zAL (zAK (i:=1) (show(["start","end","rest","in_all","places"]:List Str).Nodup from by decide +kernel) rfl (Or.inl rfl)) (zAL (zAK (i:=2) (show(["start","end","rest","in_all","places"]:List Str).Nodup from by decide +kernel) rfl (Or.inl rfl)) zAo))))) (zCk (zAv zAV (zBK zAV (zBK zAV zBC)) (zAW (by decide)) (zAv zAV (zBK zAV zBC) (zAW (by decide)) (zAv zAV zBC (zAW (by decide)) zCl)))) (fun _ _ _ _ _=>zBk (zAP (zA0 K hu) (zAQ zAq (zAb U_pair_sum hr (zAA (zAS (zA3 K) (pv 4) (pv 0) (fun _ _=>rfl)) (zAA (zAS (zA3 K) (pv 4) (pv 1) (fun _ _=>rfl)) zAB))) (pv 2)) (pv 3) (nomark _))) (fun _ _ _ _ _=>(zA2 (zAA (pv 0) (zAA (pv 1) zAB)))))))))),?_⟩
  walk_at "go"
  refine .inl (zAz h1 h2 ha (fun H1 s1=>?_))
  walk_at "go"
  exact⟨kk,a,⟨rfl,h1,h2,ha⟩, .inl ⟨hc,r.pass s1⟩⟩
 ·refine zCO ⟨_,(zAD (zAg (zAw U_check_line hr zDZ (zAA (pv 0) (zAA (pv 1) zAB)))) (zAD (zBe (zAw U_filled hr zDZ (zAA (pv 0) (zAA (pv 1) zAB))) (zAp (n:=2) K rfl (zAL (zAK (i:=2) sc_sure_pairs.nd rfl (Or.inr rfl)) (zAL (zAK (i:=3) sc_sure_pairs.nd rfl (Or.inl rfl)) zAo)))) (zAD (zAO (i:=4) sc_sure_pairs.nd rfl (Or.inr rfl) (zAb U_whole_sum hr (zAA (pv 3) zAB))) (zAI (zAX (zBJ (own:=["start","end","rest"]) (sel:=[4,2]) (zAY (osc:=(defScope zBI)) (N:=["k","row","places","sums","in_all"]) (by decide +kernel)) rfl (zBE K (zAb U_pairs_with_rest hr (zAA (pv 2) (zAA (pv 3) zAB)))) (fun _ _ _ _ _=>(zAp (n:=3) K rfl (zAL (zAK (i:=0) (show(["start","end","rest","in_all","places"]:List Str).Nodup from by decide +kernel) rfl (Or.inl rfl)) (zAL (zAK (i:=1) (show(["start","end","rest","in_all","places"]:List Str).Nodup from by decide +kernel) rfl (Or.inl rfl)) (zAL (zAK (i:=2) (show(["start","end","rest","in_all","places"]:List Str).Nodup from by decide +kernel) rfl (Or.inl rfl)) zAo))))) (zCk (zAv zAV (zBK zAV (zBK zAV zBC)) (zAW (by decide)) (zAv zAV (zBK zAV zBC) (zAW (by decide)) (zAv zAV zBC (zAW (by decide)) zCl)))) (fun _ _ _ _ _=>zBk (zAP (zA0 K hu) (zAQ zAq (zAb U_pair_sum hr (zAA (zAS (zA3 K) (pv 4) (pv 0) (fun _ _=>rfl)) (zAA (zAS (zA3 K) (pv 4) (pv 1) (fun _ _=>rfl)) zAB))) (pv 2)) (pv 3) (nomark _))) (fun _ _ _ _ _=>(zA2 (zAA (pv 0) (zAA (pv 1) zAB)))))))))),?_⟩
  walk_at "go"
  refine .inl (zAz h1 h2 ha (fun H1 s1=>?_))
  walk_at "go"
  refine⟨kk,a,⟨rfl,h1,h2,ha⟩, .inr ⟨hc,fun T p ss ad H0 H2 s2 gT hP tb=>?_⟩⟩
  walk_at "go"
  refine⟨T,_,rfl,SqT.of gT,rfl,?_⟩
  walk_at "go"
  refine zBR tb ?_
  rw[zCy]
  walk_at "go"
  refine zDn hP (by rw[List.length_map];exact hl) (show kk.toNat<=4 by omega) (zAj (by omega)) tb (fun F0 vs' H3 hF0 s3 gF fp=>?_)
  walk_at "go"
  refine⟨F0,rfl,⟨_,SqL.of gF⟩,?_⟩
  have hsm:∀l∈a.map (plw (ones kk.toNat)),Sm l:=fun l z=>(zAj (k:=kk.toNat) (a:=a) (by omega) l z).2
  obtain⟨pa,hp0,hpa⟩:=id hP
  have hn40:(a.map (plw (ones kk.toNat))).length<=40:=by rw[List.length_map];exact hl
  have place:∀ {H':Hp} {i:Nat},Same H2 H'->i<(a.map (plw (ones kk.toNat))).length->∃l,H' (pa i)=some (iL l)/\l.length=2*kk.toNat/\Sm l/\∀b,P1 kk.toNat a i b=l.getD b 0:=by
   intro H' i sH hi
   have e:(a.map (plw (ones kk.toNat)))[i]? =some (a.map (plw (ones kk.toNat)))[i]:=List.getElem?_eq_getElem (by omega)
   have eg:(a.map (plw (ones kk.toNat))).getD i []=(a.map (plw (ones kk.toNat)))[i]:=by rw[List.getD_eq_getElem?_getD,e];rfl
   have hm:=zAj (k:=kk.toNat) (a:=a) (by omega) _ (List.getElem_mem hi)
   refine⟨(a.map (plw (ones kk.toNat)))[i],?_,hm.1,hm.2,fun b=>by show((a.map (plw (ones kk.toNat))).getD i []).getD b 0=_;rw[eg]⟩
   have:=sH _ _ (hpa i (by omega))
   rw[eg]at this
   exact this
  have pix:∀ {i:Nat},i<(a.map (plw (ones kk.toNat))).length->((List.range (a.map (plw (ones kk.toNat))).length).map fun i=>V.ref (pa i))[i]? =some (.ref (pa i)):=fun{i} hi=>by rw[List.getElem?_map,List.getElem?_range hi];rfl
  have eln:(a.map (plw (ones kk.toNat))).length=a.length:=List.length_map _
  have hpl:=zLP hl
  rw[eln]at fp hn40 pix hp0
  obtain⟨fs,efs⟩:∃fs:Nat×Nat->Bool,fs=fun x=>decide (pr (P1 kk.toNat a) kk.toNat x.1 x.2*rst (P1 kk.toNat a) kk.toNat a.length x.1 x.2=cnt kk.toNat a):=⟨_,rfl⟩
  refine compL (xs:=vs') (fun D i ys H'=>Same H3 H'/\Prl H' ys (((prs a.length).take i).filter fs)) (fun D i ys H' h=>h.1 _ _ gF) (fun D hD=>⟨zAF hD _,rfl,fun m x h=>by simp at h⟩) (fun D ys H6 hD hy ⟨s6,h1⟩=>?_) ?_
  ·rw[fp.1,List.take_length,efs]at h1
   exact q D ys H6 (s1.free (s2.free (s3.free hD))) ((s1.trans s2).trans (s3.trans s6)) hy h1
  rintro D i x ys H4 hD hx hi hy hyl ⟨s4,hpr⟩
  have hi':i<(prs a.length).length:=by rw[<-fp.1];exact hi
  obtain⟨⟨st,en⟩,hse⟩:∃y,(prs a.length)[i]? =some y:=⟨_,List.getElem?_eq_getElem hi'⟩
  obtain⟨Te,eT,gT⟩:=fp.2 i _ hse
  rw[hx]at eT
  cases eT
  have hmem:=zFe (List.mem_of_getElem? hse)
  have hen:en<a.length:=hmem.2
  have hlt:st<en:=hmem.1
  have hfm:=zDO fs hse
  dsimp only at gT
  walk_at "go"
  refine⟨Te,_,rfl,SqT.of (s4 _ _ gT),rfl,?_⟩
  have s24:=s3.trans s4
  obtain⟨x1,gx,lx,sx,ex⟩:=place s24 (i:=st) (by rw[eln];omega)
  obtain⟨y1,gy,ly,sy,ey⟩:=place s24 (i:=en) (by rw[eln];omega)
  walk_at "go"
  refine zAf (SqL.of (s24 _ _ hp0)) (zAN (pix (i:=st) (by omega))) ?_
  walk_at "go"
  refine zAf (SqL.of (s24 _ _ hp0)) (zAN (pix (i:=en) (by omega))) ?_
  walk_at "go"
  refine zEF gx gy lx ly (show kk.toNat<=4 by omega) sx sy (fun H5 s5=>?_)
  have epr:sm kk.toNat (fun o=>x1.getD (2*o) 0*y1.getD (2*o+1) 0)=pr (P1 kk.toNat a) kk.toNat st en:=by
   unfold pr
   exact zAJ kk.toNat fun o _=>by rw[ex,ey]
  rw[epr]
  have bpr:=zHp (show kk.toNat<=4 by omega) hsm st en
  have br:=zMg (ps:=a.map (plw (ones kk.toNat))) (k:=kk.toNat) (n:=a.length) hsm (by omega) hl hlt hen
  walk_at "go"
  refine zBu (zA4 bpr.1 bpr.2 zEx) (zA4 br.1 br.2 zEc) ?_
  walk_at "go"
  have hy5:=s5 _ _ hy
  refine ifd (fun hz=>?_) (fun hz=>?_)
  ·have hfx:fs (st,en)=true:=by rw[efs];exact decide_eq_true hz
   rw[if_pos hfx]at hfm
   walk_at "go"
   refine⟨small (show 2<=1000 by decide),fun T hT=>?_⟩
   have t6:=zAF hT (.tup [.int (st:Int), .int (en:Int)])
   have g6:(upd H5 T (.tup [.int (st:Int), .int (en:Int)])) T=some (.tup [.int (st:Int), .int (en:Int)]):=zAC
   have hyT:=t6 _ _ hy5
   have hpT:=(hpr.same s5).same t6
   refine⟨ys,hyT,by rw[sizeLine_eq];omega,vs'.length-(i+1),by omega,rfl,by omega,_,zAC,by rw[List.length_append,List.length_singleton];omega,fun z o hz=>?_,?_⟩
   ·rw[zAG (zAE hz hD)];exact t6 _ _ (s5 _ _ (s4 _ _ hz))
   ·rw[hfm]
    exact(hpT.lst hyT).more (by rw[zAG (zBr g6 hyT (fun z=>by cases z))];exact g6)
  ·have hfx:¬fs (st,en)=true:=by rw[efs];exact fun z=>hz (of_decide_eq_true z)
   rw[if_neg hfx]at hfm
   exact⟨vs'.length-(i+1),by omega,rfl,by omega,ys,hy5,by omega,s4.trans s5,by rw[hfm];exact hpr.same s5⟩
theorem sc_law_pool:FnScope ["script","k","cell"] ["script","k"] (defScope zCf):=⟨rfl,rfl,rfl,by decide +kernel,rfl,by decide +kernel,by decide +kernel⟩
theorem zFi(F:Fun K "_law_pool" "_law_pool" zCf f fd)(T:Txt K mg aK cs):FnOk P w K mg base CX0 (k+1) f fd ["script","k"] (spPoolD K):=by
 refine F.ok sc_law_pool (fun vs H Q E h=>?_) (fun cdv A outer s H vs Q E hr h=>?_)
 ·obtain⟨a,ns,k,rfl,_⟩:=h;rfl
 obtain⟨a,ns,k,rfl,hS,h0,h1,q⟩:=h
 have hu:=hr.units0
 have big:∀ (cell:Int),CPow 10 18:=fun _=>⟨by decide,by decide,by decide⟩
 refine⟨_,(zAD (zAO (i:=2) sc_law_pool.nd rfl (Or.inl rfl) zAH) (zAD (zA6 (zAP zH2 (pv 1) (zAM (zAU K) rfl T.n_len PySem.boot_len (zAA (pv 0) zAB)) (nomark _)) (zAI (zAO (i:=2) sc_law_pool.nd rfl (Or.inl rfl) (zAS (zA3 K) (pv 0) (pv 1) (fun _ _=>rfl)))) zAZ) (zAI (zAX (zAe (zAA (pv 2) (zAA (zBf zCU rfl T.n_int PyProof.Rows.boot_int (zAA (zDC zOJ (pv 2) (zAQ zM1 zAH zAH) (nomark _)) zAB)) (zAA (zAQ zAm zAH (pv 1)) zAB)))))))),?_⟩
 walk_at "go"
 refine zBS (.inl hS) ?_
 walk_at "go"
 refine ifd (fun c=>?_) (fun c=>?_)
 ·rw[List.length_map]at c
  obtain⟨v,hv⟩:=zJ5 (ns:=ns) h0 c
  walk_at "go"
  refine zAf hS hv ?_
  walk_at "go"
  refine⟨small (show 3<=1000 by decide),fun p hp=>?_⟩
  exact q p _ hp (zAF hp _) Po.new
 ·walk_at "go"
  refine⟨small (show 3<=1000 by decide),fun p hp=>?_⟩
  exact q p _ hp (zAF hp _) Po.new
theorem sc_law_draw:FnScope ["pool","many","found","x"] ["pool","many"] (defScope zCg):=⟨rfl,rfl,rfl,by decide +kernel,rfl,by decide +kernel,by decide +kernel⟩
theorem zFj(F:Fun K "_law_draw" "_law_draw" zCg f fd)(T:Txt K mg aK cs):FnOk P w K mg base CX0 (k+1) f fd ["pool","many"] (spDraw):=by
 refine F.ok sc_law_draw (fun vs H Q E h=>?_) (fun cdv A outer s H vs Q E hr h=>?_)
 ·obtain⟨p,m,rfl,_⟩:=h;rfl
 obtain⟨p,m,rfl,⟨a,b,c,hp⟩,hm0,hm1,q⟩:=h
 have hu:=hr.units0
 have hS:SqL K H p [.int a, .int b, .int c]:=SqL.of hp
 refine⟨_,(zAD (zA6 (zAP (zA0 K hu) (zAS (zA3 K) (pv 0) zAH (fun _ _=>rfl)) zAH (nomark _)) (zAD (zAO (i:=2) sc_law_draw.nd rfl (Or.inl rfl) (zAQ zCM (zAS (zA3 K) (pv 0) zAH (fun _ _=>rfl)) (pv 1))) (zAD (zBe (zAQ zJe (zAS (zA3 K) (pv 0) zAH (fun _ _=>rfl)) (pv 1)) (zDm (pv 0) zAH zA8)) (zAI (zAX (pv 2))))) zAZ) (zAD (zBe (zAQ zAR (zAS (zA3 K) (pv 0) zAH (fun _ _=>rfl)) zAH) (zDm (pv 0) zAH zA8)) (zAD (zAO (i:=3) sc_law_draw.nd rfl (Or.inl rfl) (zAQ zCM (zAQ zAR (zAQ zCM (zAS (zA3 K) (pv 0) zAH (fun _ _=>rfl)) zAH) (zAQ zAm zAH (zAS (zA3 K) (pv 0) zAH (fun _ _=>rfl)))) zAH)) (zAD (zAO (i:=3) sc_law_draw.nd rfl (Or.inl rfl) (zAQ zCM (zAQ zAm (pv 3) (pv 3)) zAH)) (zAD (zAO (i:=3) sc_law_draw.nd rfl (Or.inl rfl) (zAQ zCM (zAQ zAm (zAQ zAR (pv 3) zAH) (pv 3)) zAH)) (zAI (zAX (zAQ zCM (zAQ zFf (pv 3) zAH) (pv 1))))))))),?_⟩
 walk_at "go"
 refine ifd (fun hb=>?_) (fun hb=>?_)
 ·walk_at "go"
  refine zBt hp (j:=0) rfl ?_
  walk_at "go"
  exact q _ _ (Int.emod_nonneg _ (by omega)) (Int.emod_lt_of_pos _ hm0) Po.new SameBut1.upd
 ·walk_at "go"
  refine zBt hp (j:=2) rfl ?_
  have hS2:SqL K (upd H p (.lst [.int a, .int b, .int (c+1)])) p [.int a, .int b, .int (c+1)]:=SqL.of zAC
  walk_at "go"
  exact q _ _ (Int.emod_nonneg _ (by omega)) (Int.emod_lt_of_pos _ hm0) Po.new SameBut1.upd
theorem sc_law_right:FnScope ["pool","kinds","many","found","stack","k","left","kind"] ["pool","kinds","many"] (defScope zCH):=⟨rfl,rfl,rfl,by decide +kernel,rfl,by decide +kernel,by decide +kernel⟩
theorem zE2(F:Fun K "_law_right" "_law_right" zCH f fd)(T:Txt K mg aK cs)(U_law_draw:FnU P w K mg base k "_law_draw" ["pool","many"] (spDraw)):FnOk P w K mg base CX0 (k+1) f fd ["pool","kinds","many"] (spRightD):=by
 refine F.ok sc_law_right (fun vs H Q E h=>?_) (fun cdv A outer s H vs Q E hr h=>?_)
 ·obtain⟨p,k,hf,rfl,_⟩:=h;rfl
 obtain⟨p,kk,hf,rfl,hd,hk1,hk4,hm0,hm1,q⟩:=h
 have hu:=hr.units0
 refine⟨_,(zAD (zAO (i:=3) sc_law_right.nd rfl (Or.inl rfl) (zAe zAB)) (zAD (zAO (i:=4) sc_law_right.nd rfl (Or.inl rfl) (zAe zAB)) (zAD (zA1 PassesOwn.never rfl (zAx rfl T.n_range (zAA (zAQ zAm zAH (pv 2)) zAB)) (zAK (i:=5) sc_law_right.nd rfl (Or.inl rfl)) (zAD (zAO (i:=6) sc_law_right.nd rfl (Or.inl rfl) (zAQ zKQ (zAQ zAm zAH (pv 2)) (pv 5))) (zAI (zA6 (PW.pt (zEB (zAP (zA0 K hu) (pv 4) (zAe zAB) (nomark _)) (zCK (PW.pt (zCi (zAP zH2 (zAM (zAU K) rfl T.n_len PySem.boot_len (zAA (pv 4) zAB)) (pv 6) (nomark _)) (zCB (zAP (zA0 K hu) (zAb U_law_draw hr (zAA (pv 0) (zAA zAH zAB))) zAH (nomark _)))))))) (zAD (zAO (i:=7) sc_law_right.nd rfl (Or.inl rfl) (zAb U_law_draw hr (zAA (pv 0) (zAA (pv 1) zAB)))) (zAD (zAg (zBU K PySem.F.plainAttrs_list PySem.F.slot_list_append PySem.F.type_list_append zAr (pv 4) (zAA (pv 7) zAB))) (zAI (zAg (zBU K PySem.F.plainAttrs_list PySem.F.slot_list_append PySem.F.type_list_append zAr (pv 3) (zAA (zAS (zA3 K) (zBH (l:=[40,91,123,60]) (by decide +kernel)) (pv 7) (fun _ _=>rfl)) zAB)))))) (zAI (zAg (zBU K PySem.F.plainAttrs_list PySem.F.slot_list_append PySem.F.type_list_append zAr (pv 3) (zAA (zAS (zA3 K) (zBH (l:=[41,93,125,62]) (by decide +kernel)) (zHu K PySem.F.plainAttrs_list PySem.F.slot_list_pop PySem.F.type_list_pop zKR (pv 4)) (fun _ _=>rfl)) zAB)))))))) (zAI (zAX (zBU K PySem.F.plainAttrs_str PySem.F.slot_str_join PySem.F.type_str_join (zH9 K) (zBH (l:=[]) (by decide +kernel)) (zAA (pv 3) zAB))))))),?_⟩
 walk_at "go"
 refine⟨small (show 0<=1000 by decide),fun fa hfa=>?_⟩
 walk_at "go"
 refine⟨small (show 0<=1000 by decide),fun sa hsa=>?_⟩
 have nfp:=hd.ne hfa
 have hd1:=hd.same (zAF hfa (.lst []))
 have nsp:=hd1.ne hsa
 have hF1:=zAF hsa (.lst []) _ _ (zAC (H:=H) (a:=fa) (o:= .lst []))
 have nsf:sa≠fa:=(zAE (zAC (H:=H) (a:=fa) (o:= .lst [])) hsa).symm
 have hd2:=hd1.same (zAF hsa (.lst []))
 have hS1:=zAC (H:=upd H fa (.lst [])) (a:=sa) (o:= .lst [])
 have u2:=(zAF hfa (.lst [])).trans (zAF hsa (.lst []))
 have hHs:H sa=none:=(zAF hfa (.lst [])).free hsa
 generalize upd (upd H fa _) sa _=G at*
 walk_at "go"
 refine⟨_,rfl,by omega,by omega,?_⟩
 have e2:((2*hf).toNat:Int)=2*hf:=by omega
 refine zBy (fun i σ H'=>∃ (row:List Nat) (st:List Int) (o5 o6 o7:Option V),σ=[some (.ref p),some (.int kk),some (.int hf),some (.ref fa),some (.ref sa),o5,o6,o7]/\H' fa=some (.lst ((row.map fun c=>[c]).map tx))/\
  H' sa=some (.lst (st.map V.int))/\run [] row=some (st.reverse.map ckd)/\(∀c∈row,kin kk c)/\(∀x∈st,0<=x/\x<kk)/\row.length=i/\st.length+i<=(2*hf).toNat/\(st.length+i)%2=0/\Po H' p/\SameBut1 p H H')
  ⟨[],[],_,_,_,rfl,hF1,hS1,rfl,(fun _ z=>nomatch z),(fun _ z=>nomatch z),rfl,by simp,by simp,hd2,SameBut1.of u2⟩ ?_ ?_
 rotate_left
 ·rintro σ H1 ⟨row,st,o5,o6,o7,rfl,hF,hS,hrun,hkin,hst,hrl,hle,hpar,hp1,s1⟩
  have e0:st=[]:=List.length_eq_zero_iff.mp (by omega)
  subst e0
  walk_at "go"
  refine zKF (SqL.of hF) (by rw[List.length_map,zCu];omega) ?_
  rw[zCu]
  exact q row H1 hrun (by omega) hkin hp1 s1
 rintro i σ H1 hi ⟨row,st,o5,o6,o7,rfl,hF,hS,hrun,hkin,hst,hrl,hle,hpar,hp1,s1⟩
 refine nbk (P:=fun b=>(_:TG) _ _ _ fun σ2 H2=>(_:TS) ⟨_,_,b,_⟩ σ2 H2) fun bk=>?_
 try dsimp only
 have ei:(0:Int)+(i:Int)=(i:Int):=by omega
 rw[ei]
 have hsl:st.length<=40:=by omega
 have opens:∀ {H2:Hp} (o6:Option V) {D:Ends},H2 fa=some (.lst ((row.map fun c=>[c]).map tx))->H2 sa=some (.lst (st.map V.int))->Po H2 p->SameBut1 p H H2->st.length+2+i<=(2*hf).toNat->
  (∀σ' H',(∃ (row:List Nat) (st:List Int) (o5 o6 o7:Option V),σ'=[some (.ref p),some (.int kk),some (.int hf),some (.ref fa),some (.ref sa),o5,o6,o7]/\H' fa=some (.lst ((row.map fun c=>[c]).map tx))/\
  H' sa=some (.lst (st.map V.int))/\run [] row=some (st.reverse.map ckd)/\(∀c∈row,kin kk c)/\(∀x∈st,0<=x/\x<kk)/\row.length=i+1/\st.length+(i+1)<=(2*hf).toNat/\(st.length+(i+1))%2=0/\Po H' p/\SameBut1 p H H')->D.nx σ' H')->
  (tSeq (tAsg (tCall spDraw [] E0 (tCons (tVar 0) (tCons (tVar 1) tNil))) (gName 7))
    (tSeq (tDrop (tBM K "list" rAppend (tVar 4) (tCons (tVar 7) tNil)))
      (tDrop (tBM K "list" rAppend (tVar 3) (tCons (tOp (rIxA K) (tC (tx [40,91,123,60])) (tVar 7)) tNil))))) D [some (.ref p),some (.int kk),some (.int hf),some (.ref fa),some (.ref sa),some (.int i),o6,o7] H2:=by
  intro H2 o6 D f2 g2 p2 s2 hl2 k2
  walk_at "go"
  refine zA5 p2 (by omega) (by omega) (fun r H3 r0 r1 p3 s3=>?_)
  obtain⟨oc,ho1,ho2,ho3,ho4,ho5,ho6⟩:=zKP r0 r1 hk4
  have g3:=s3 _ _ g2 nsp
  have f3:=s3 _ _ f2 nfp
  walk_at "go"
  refine⟨SqL.ty (SqL.of g3),?_⟩
  walk_at "go"
  refine⟨sa,_,_,rfl,rfl,g3,small1000 (by rw[List.length_map];omega),?_⟩
  walk_at "go"
  have f4:(upd H3 sa (.lst (st.map V.int++[.int r]))) fa=some (.lst ((row.map fun c=>[c]).map tx)):=by rw[zAG (Ne.symm nsf)];exact f3
  refine⟨SqL.ty (SqL.of f4),?_⟩
  walk_at "go"
  refine zEu (small (show 4<=1000 by decide)) ho1 ?_
  walk_at "go"
  refine⟨fa,_,_,rfl,rfl,f4,small1000 (by rw[List.length_map,List.length_map];omega),?_⟩
  walk_at "go"
  refine k2 _ _ ⟨row++[oc],st++[r],_,_,_,rfl,?_,?_,?_,?_,?_,by simp[hrl],by simp;omega,by simp;omega,?_,?_⟩
  ·rw[zAC,List.map_append,List.map_append];rfl
  ·rw[zAG nsf,zAC,List.map_append];rfl
  ·rw[zD9 hrun,zD2 ho2,List.reverse_append,List.map_append]
   show some (clo oc::_)=some (ckd r::_)
   rw[show ckd r=clo oc from by unfold ckd;rw[ho4];rfl]
   rfl
  ·intro c hc
   rcases List.mem_append.mp hc with z|z
   ·exact hkin c z
   ·rw[List.mem_singleton.mp z];exact .inl ho3
  ·intro x hx
   rcases List.mem_append.mp hx with z|z
   ·exact hst x z
   ·rw[List.mem_singleton.mp z];exact⟨r0,r1⟩
  ·exact(p3.keep SameBut1.upd (Ne.symm nsp)).keep SameBut1.upd (Ne.symm nfp)
  ·exact put1 (put1 (s2.trans s3) hHs) hfa
 have closes:∀ {H2:Hp} (o6:Option V) {D:Ends},H2 fa=some (.lst ((row.map fun c=>[c]).map tx))->H2 sa=some (.lst (st.map V.int))->Po H2 p->SameBut1 p H H2->st≠[]->
  (∀σ' H',(∃ (row:List Nat) (st:List Int) (o5 o6 o7:Option V),σ'=[some (.ref p),some (.int kk),some (.int hf),some (.ref fa),some (.ref sa),o5,o6,o7]/\H' fa=some (.lst ((row.map fun c=>[c]).map tx))/\
  H' sa=some (.lst (st.map V.int))/\run [] row=some (st.reverse.map ckd)/\(∀c∈row,kin kk c)/\(∀x∈st,0<=x/\x<kk)/\row.length=i+1/\st.length+(i+1)<=(2*hf).toNat/\(st.length+(i+1))%2=0/\Po H' p/\SameBut1 p H H')->D.nx σ' H')->
  (tDrop (tBM K "list" rAppend (tVar 3) (tCons (tOp (rIxA K) (tC (tx [41,93,125,62])) (tBM0 K "list" rPop (tVar 4))) tNil))) D [some (.ref p),some (.int kk),some (.int hf),some (.ref fa),some (.ref sa),some (.int i),o6,o7] H2:=by
  intro H2 o6 D f2 g2 p2 s2 hne k2
  obtain⟨sr,x,rfl⟩:∃sr x,st=sr++[x]:=⟨st.dropLast,st.getLast hne,(List.dropLast_concat_getLast hne).symm⟩
  obtain⟨x0,x1⟩:=hst x (List.mem_append_right _ List.mem_cons_self)
  obtain⟨oc,ho1,ho2,ho3,ho4,ho5,ho6⟩:=zKP x0 x1 hk4
  walk_at "go"
  refine⟨SqL.ty (SqL.of f2),?_⟩
  walk_at "go"
  refine⟨SqL.ty (SqL.of g2),?_⟩
  refine⟨sa,_, .int x,rfl,rfl,g2,by simp,?_⟩
  walk_at "go"
  refine zEu (small (show 4<=1000 by decide)) ho4 ?_
  walk_at "go"
  refine⟨fa,_,_,rfl,rfl,(zAG (Ne.symm nsf)).trans f2,small1000 (by rw[List.length_map,List.length_map];omega),?_⟩
  walk_at "go"
  refine k2 _ _ ⟨row++[clo oc],sr,_,_,_,rfl,?_,?_,?_,?_,fun y hy=>hst y (List.mem_append_left _ hy),by simp[hrl],by simp at hle;omega,by simp at hpar;omega,?_,?_⟩
  ·rw[zAC,List.map_append,List.map_append];rfl
  ·rw[zAG nsf,zAC];simp
  ·rw[List.reverse_append,List.map_append]at hrun
   rw[zD9 hrun]
   have e:ckd x=clo oc:=by unfold ckd;rw[ho4];rfl
   show stp (ckd x::_) _=_
   rw[e];exact zC0 ho6 _
  ·intro c hc
   rcases List.mem_append.mp hc with z|z
   ·exact hkin c z
   ·rw[List.mem_singleton.mp z];exact .inr ho5
  ·exact(p2.keep SameBut1.upd (Ne.symm nsp)).keep SameBut1.upd (Ne.symm nfp)
  ·exact put1 (put1 s2 hHs) hfa
 walk_at "go"
 refine⟨small (show 0<=1000 by decide),fun l hl=>?_⟩
 have t1:=zAF hl (.lst [])
 walk_at "go"
 refine zMW (SqL.of (t1 _ _ hS)) (SqL.of zAC) (by simp[flatV]) rfl ?_
 rw[zJu]
 walk_at "go"
 refine ifd (fun hc=>?_) (fun hc=>?_)
 ·refine ifp rfl ?_
  exact opens _ (t1 _ _ hF) (t1 _ _ hS) (hp1.same t1) (s1.trans (SameBut1.of t1)) (by subst hc;simp at hpar hle⊢;omega) (fun _ _ z=>z)
 ·walk_at "go"
  refine zBS (.inl (SqL.of (t1 _ _ hS))) ?_
  walk_at "go"
  refine ifd (fun hc2=>?_) (fun hc2=>?_)
  ·walk_at "go"
   refine zA5 (hp1.same t1) (by omega) (by omega) (fun r H3 r0 r1 p3 s3=>?_)
   walk_at "go"
   have f3:=s3 _ _ (t1 _ _ hF) nfp
   have g3:=s3 _ _ (t1 _ _ hS) nsp
   refine ifd (fun hc3=>?_) (fun hc3=>?_)
   ·exact opens _ f3 g3 p3 ((s1.trans (SameBut1.of t1)).trans s3) (by rw[List.length_map]at hc2;omega) (fun _ _ z=>z)
   ·exact closes _ f3 g3 p3 ((s1.trans (SameBut1.of t1)).trans s3) hc (fun _ _ z=>z)
  ·refine ifq rfl ?_
   exact closes _ (t1 _ _ hF) (t1 _ _ hS) (hp1.same t1) (s1.trans (SameBut1.of t1)) hc (fun _ _ z=>z)
theorem sc_law_row:FnScope ["pool","kinds","many","signs","found","part","i","turn"] ["pool","kinds","many"] (defScope zCS):=⟨rfl,rfl,rfl,by decide +kernel,rfl,by decide +kernel,by decide +kernel⟩
theorem zG0(F:Fun K "_law_row" "_law_row" zCS f fd)(T:Txt K mg aK cs)(U_law_right:FnU P w K mg base k "_law_right" ["pool","kinds","many"] (spRightD))(U_law_draw:FnU P w K mg base k "_law_draw" ["pool","many"] (spDraw)):FnOk P w K mg base CX0 (k+1) f fd ["pool","kinds","many"] (spRowD):=by
 refine F.ok sc_law_row (fun vs H Q E h=>?_) (fun cdv A outer s H vs Q E hr h=>?_)
 ·obtain⟨p,k,hf,rfl,_⟩:=h;rfl
 obtain⟨p,kk,hf,rfl,hd,hk1,hk4,hm0,hm1,q⟩:=h
 have hu:=hr.units0
 have hsg0:∀c∈([40,41,91,93,123,125,60,62]:List Nat).take (2*kk).toNat,c∈sgn kk:=fun c hc=>(zKv hk1 hk4).mp (List.mem_append_left _ hc)
 have hsl0:(([40,41,91,93,123,125,60,62]:List Nat).take (2*kk).toNat).length=(2*kk).toNat:=by rw[List.length_take];simp;omega
 have unk:63∈sgn kk:=by unfold sgn;simp
 have tail:∀ (sg:List Nat) (fa:Addr) (row:List Nat) (H2:Hp),(∀c∈sg,c∈sgn kk)->sg.length=(2*kk).toNat->H2 fa=some (.lst ((row.map fun c=>[c]).map tx))->(∀c∈row,c∈sgn kk)->(row.length:Int)<=2*hf+1->Po H2 p->SameBut1 p H H2->H fa=none->fa≠p->
  (tSeq (tAsg (tOp (rIxA K) (tLst (tCons (tC (V.int 2)) (tCons (tC (V.int 1)) (tCons (tC (V.int 3)) (tCons (tC (V.int 8)) tNil))))) (tCall spDraw [] E0 (tCons (tVar 0) (tCons (tC (V.int 4)) tNil)))) (gName 5))
  (tSeq (tFor (iRng1 (tCons (tCB (rLen K) (tCons (tVar 4) tNil)) tNil)) (gName 6) (tIfS (tTest (tOp (rEqA K) (tCall spDraw [] E0 (tCons (tVar 0) (tCons (tVar 5) tNil))) (tC (V.int 0)))) (tAsg (tC (tx [63])) (gSub (tVar 4) (tVar 6) rSetL)) tNext))
    (tSeq (tFor (iRng1 (tCons (tOp rTimes (tOp (rIxA K) (tLst (tCons (tC (V.int 0)) (tCons (tC (V.int 0)) (tCons (tC (V.int 1)) (tCons (tC (V.int 2)) tNil))))) (tCall spDraw [] E0 (tCons (tVar 0) (tCons (tC (V.int 4)) tNil)))) (tCB rInt (tCons (tOp (rNeA K) (tVar 4) (tLst tNil)) tNil))) tNil)) (gName 7)
      (tAsg (tOp (rIxA K) (tVar 3) (tCall spDraw [] E0 (tCons (tVar 0) (tCons (tOp rTimes (tC (V.int 2)) (tVar 1)) tNil)))) (gSub (tVar 4) (tCall spDraw [] E0 (tCons (tVar 0) (tCons (tCB (rLen K) (tCons (tVar 4) tNil)) tNil))) rSetL)))
      (tRet (tBM K "str" (rJoin K) (tC (tx [])) (tCons (tVar 4) tNil)))))) {nx:=fun _ H'=>Q .non H',rt:=Q} [some (.ref p),some (.int kk),some (.int hf),some (tx sg),some (.ref fa),none,none,none] H2:=by
  intro sg fa row H2 hsg hsl f2 hrow hrl p2 s2 hfa nfp
  walk_at "go"
  refine⟨small (show 4<=1000 by decide),fun l1 hl1=>?_⟩
  have t1:=zAF hl1 (.lst [.int 2, .int 1, .int 3, .int 8])
  walk_at "go"
  refine zA5 (p2.same t1) (by omega) (by omega) (fun r1 H3 r10 r11 p3 s3=>?_)
  obtain⟨vp,eix,hvp⟩:=at4 (V.int 2) (V.int 1) (V.int 3) (V.int 8) r10 r11
  obtain⟨pt,rfl,hp0,hp9⟩:∃pt:Int,vp= .int pt/\0<pt/\pt<10:=by rcases hvp with rfl|rfl|rfl|rfl<;>exact⟨_,rfl,by decide,by decide⟩
  have f3:=s3 _ _ (t1 _ _ f2) nfp
  walk_at "go"
  refine zAf (SqL.of (s3 _ _ zAC (p2.ne hl1))) eix ?_
  have u3:SameBut1 p H H3:=(s2.trans (SameBut1.of t1)).trans s3
  clear hvp eix
  walk_at "go"
  refine zBS (.inl (SqL.of f3)) ?_
  walk_at "go"
  rw[List.length_map,List.length_map]
  obtain⟨n1,en1⟩:∃n1,row.length=n1:=⟨_,rfl⟩
  rw[en1]
  refine⟨_,rfl,by omega,by omega,?_⟩
  refine zBy (fun i σ H'=>∃ (row:List Nat) (o6:Option V),σ=[some (.ref p),some (.int kk),some (.int hf),some (tx sg),some (.ref fa),some (.int pt),o6,none]/\H' fa=some (.lst ((row.map fun c=>[c]).map tx))/\(∀c∈row,c∈sgn kk)/\row.length=n1/\Po H' p/\SameBut1 p H H')
   ⟨row,none,rfl,f3,hrow,en1,p3,u3⟩ ?_ ?_
  ·rintro i σ H4 hi ⟨row',o6,rfl,f4,hrow',hrl',p4,s4⟩
   refine nbk (P:=fun b=>(_:TG) _ _ _ fun σ2 H2=>(_:TS) ⟨_,_,b,_⟩ σ2 H2) fun bk=>?_
   try dsimp only
   have ei:(0:Int)+(i:Int)=(i:Int):=by omega
   rw[ei]
   walk_at "go"
   refine zA5 p4 hp0 (by omega) (fun r5 H5 r50 r51 p5 s5=>?_)
   have f5:=s5 _ _ f4 nfp
   walk_at "go"
   refine ifd (fun hc=>?_) (fun hc=>?_)
   ·walk_at "go"
    refine zBt f5 (j:=i) (zIH (by rw[List.length_map,List.length_map];omega)) ?_
    walk_at "go"
    refine⟨row'.set i 63,_,rfl,?_,fun c hc=>?_,by rw[List.length_set];exact hrl',p5.keep SameBut1.upd (Ne.symm nfp),put1 (s4.trans s5) hfa⟩
    ·rw[zAC,List.map_set,List.map_set]
    ·rcases List.mem_or_eq_of_mem_set hc with z|z
     ·exact hrow' c z
     ·rw[z];exact unk
   ·walk_at "go"
    exact⟨row',_,rfl,f5,hrow',hrl',p5,s4.trans s5⟩
  ·rintro σ H4 ⟨row',o6,rfl,f4,hrow',hrl',p4,s4⟩
   walk_at "go"
   refine⟨small (show 4<=1000 by decide),fun l2 hl2=>?_⟩
   have t2:=zAF hl2 (.lst [.int 0, .int 0, .int 1, .int 2])
   walk_at "go"
   refine zA5 (p4.same t2) (by omega) (by omega) (fun r6 H6 r60 r61 p6 s6=>?_)
   obtain⟨vp,eix,hvp⟩:=at4 (V.int 0) (V.int 0) (V.int 1) (V.int 2) r60 r61
   obtain⟨tn,rfl,ht0,ht9⟩:∃tn:Int,vp= .int tn/\0<=tn/\tn<3:=by rcases hvp with rfl|rfl|rfl|rfl<;>exact⟨_,rfl,by decide,by decide⟩
   have f6:=s6 _ _ (t2 _ _ f4) nfp
   walk_at "go"
   refine zAf (SqL.of (s6 _ _ zAC (p4.ne hl2))) eix ?_
   have u6:SameBut1 p H H6:=(s4.trans (SameBut1.of t2)).trans s6
   clear hvp eix
   walk_at "go"
   refine⟨small (show 0<=1000 by decide),fun l3 hl3=>?_⟩
   have t3:=zAF hl3 (.lst [])
   walk_at "go"
   refine zK1 (SqL.of (t3 _ _ f6)) (SqL.of zAC) (zJq _) rfl ?_
   walk_at "go"
   have hev:eqVs ((row'.map fun c=>[c]).map tx) []=decide (row'=[]):=by cases row'<;>rfl
   rw[hev]
   refine⟨_,rfl,by split<;>omega,by split<;>omega,?_⟩
   refine zBy (fun i σ H'=>∃ (row:List Nat) (o6 o7:Option V),σ=[some (.ref p),some (.int kk),some (.int hf),some (tx sg),some (.ref fa),some (.int pt),o6,o7]/\H' fa=some (.lst ((row.map fun c=>[c]).map tx))/\(∀c∈row,c∈sgn kk)/\row.length=n1/\Po H' p/\SameBut1 p H H')
    ⟨row',_,_,rfl,t3 _ _ f6,hrow',hrl',p6.same t3,u6.trans (SameBut1.of t3)⟩ ?_ ?_
   ·rintro i σ H7 hi ⟨row7,o6,o7,rfl,f7,hrow7,hrl7,p7,s7⟩
    refine nbk (P:=fun b=>(_:TG) _ _ _ fun σ2 H2=>(_:TS) ⟨_,_,b,_⟩ σ2 H2) fun bk=>?_
    try dsimp only
    have hne:row'≠[]:=fun z=>by subst z;simp at hi
    have hn0:0<n1:=by rw[<-hrl'];exact List.length_pos_iff.mpr hne
    walk_at "go"
    refine zA5 p7 (by omega) (by omega) (fun r8 H8 r80 r81 p8 s8=>?_)
    obtain⟨c,hc8,hcm⟩:=zKf (l:=sg) r80 (by rw[hsl];omega)
    walk_at "go"
    refine zEu (small (by omega)) hc8 ?_
    have f8:=s8 _ _ f7 nfp
    walk_at "go"
    refine zBS (.inl (SqL.of f8)) ?_
    walk_at "go"
    rw[List.length_map,List.length_map]
    refine zA5 p8 (by omega) (by omega) (fun r9 H9 r90 r91 p9 s9=>?_)
    obtain⟨j,rfl⟩:∃j:Nat,r9=j:=⟨r9.toNat,by omega⟩
    have f9:=s9 _ _ f8 nfp
    walk_at "go"
    refine zBt f9 (j:=j) (zIH (by rw[List.length_map,List.length_map];omega)) ?_
    walk_at "go"
    refine⟨row7.set j c,_,_,rfl,?_,fun d hd=>?_,by rw[List.length_set];exact hrl7,p9.keep SameBut1.upd (Ne.symm nfp),put1 ((s7.trans s8).trans s9) hfa⟩
    ·rw[zAC,List.map_set,List.map_set]
    ·rcases List.mem_or_eq_of_mem_set hd with z|z
     ·exact hrow7 d z
     ·rw[z];exact hsg c hcm
   ·rintro σ H7 ⟨row7,o6,o7,rfl,f7,hrow7,hrl7,p7,s7⟩
    walk_at "go"
    refine zKF (SqL.of f7) (by rw[List.length_map,zCu];omega) ?_
    rw[zCu]
    exact q row7 H7 (by omega) hrow7 p7 s7
 refine⟨_,(zAD (zAO (i:=3) sc_law_row.nd rfl (Or.inr rfl) (zBl (zKs K) (zBH (l:=[40,41,91,93,123,125,60,62]) (by decide +kernel)) zCD (zCC (zAQ zAm zAH (pv 1))))) (zAD (zAO (i:=4) sc_law_row.nd rfl (Or.inl rfl) (zBf (zHG K rfl) rfl T.n_list PyProof.Rows.boot_list (zAA (zAb U_law_right hr (zAA (pv 0) (zAA (pv 1) (zAA (pv 2) zAB)))) zAB))) (zAD (zA6 (zAP (zA0 K hu) (zAb U_law_draw hr (zAA (pv 0) (zAA zAH zAB))) zAH (nomark _)) (zAI (zB4 (i:=4) sc_law_row.nd rfl (Or.inl rfl) (own:=["k"]) (sel:=[3,0,1]) (zAY (osc:=(defScope zCS)) (N:=["pool","kinds","many","signs","found","part","i","turn"]) (by decide +kernel)) rfl (zAx rfl T.n_range (zAA (zAQ zAR (zAQ zAm zAH (pv 2)) (zAb U_law_draw hr (zAA (pv 0) (zAA zAH zAB)))) zAB)) (fun _ _ _ _ _=>(zAK (i:=0) (show(["k","signs","pool","kinds"]:List Str).Nodup from by decide +kernel) rfl (Or.inl rfl))) (zAW (by decide)) (fun _ _ _ _ _=>zBX) (fun _ _ _ _ _=>(zAS (zA3 K) (zAQ zAR (pv 1) (zBH (l:=[63,63]) (by decide +kernel))) (zAb U_law_draw hr (zAA (pv 2) (zAA (zAQ zAR (zAQ zAm zAH (pv 3)) zAH) zAB))) (fun _ _=>rfl))))) zAZ) (zAD (zAO (i:=5) sc_law_row.nd rfl (Or.inl rfl) (zAS (zA3 K) (zAe (zAA zAH (zAA zAH (zAA zAH (zAA zAH zAB))))) (zAb U_law_draw hr (zAA (pv 0) (zAA zAH zAB))) (fun _ _=>rfl))) (zAD (zA1 PassesOwn.never rfl (zAx rfl T.n_range (zAA (zAM (zAU K) rfl T.n_len PySem.boot_len (zAA (pv 4) zAB)) zAB)) (zAK (i:=6) sc_law_row.nd rfl (Or.inl rfl)) (zAI (zA6 (zAP (zA0 K hu) (zAb U_law_draw hr (zAA (pv 0) (zAA (pv 5) zAB))) zAH (nomark _)) (zAI (zBe (zBH (l:=[63]) (by decide +kernel)) (zDm (pv 4) (pv 6) zA8))) zAZ))) (zAD (zA1 PassesOwn.never rfl (zAx rfl T.n_range (zAA (zAQ zAm (zAS (zA3 K) (zAe (zAA zAH (zAA zAH (zAA zAH (zAA zAH zAB))))) (zAb U_law_draw hr (zAA (pv 0) (zAA zAH zAB))) (fun _ _=>rfl)) (zBf zCU rfl T.n_int PyProof.Rows.boot_int (zAA (zDC (zDF K hu) (pv 4) (zAe zAB) (nomark _)) zAB))) zAB)) (zAK (i:=7) sc_law_row.nd rfl (Or.inl rfl)) (zAI (zBe (zAS (zA3 K) (pv 3) (zAb U_law_draw hr (zAA (pv 0) (zAA (zAQ zAm zAH (pv 1)) zAB))) (fun _ _=>rfl)) (zDm (pv 4) (zAb U_law_draw hr (zAA (pv 0) (zAA (zAM (zAU K) rfl T.n_len PySem.boot_len (zAA (pv 4) zAB)) zAB))) zA8)))) (zAI (zAX (zBU K PySem.F.plainAttrs_str PySem.F.slot_str_join PySem.F.type_str_join (zH9 K) (zBH (l:=[]) (by decide +kernel)) (zAA (pv 4) zAB)))))))))),?_⟩
 walk_at "go"
 rw[zGg _ (by omega)]
 generalize([40,41,91,93,123,125,60,62]:List Nat).take (2*kk).toNat=sg at hsg0 hsl0⊢
 walk_at "go"
 refine zGt hd hk1 hk4 hm0 hm1 (fun row0 H1 _ hl0 hkin p1 s1=>?_)
 walk_at "go"
 refine zK2 (by omega) (fun fa hfa=>?_)
 have t1:=zAF hfa (.lst ((row0.map fun c=>[c]).map tx))
 have f1:=zAC (H:=H1) (a:=fa) (o:= .lst ((row0.map fun c=>[c]).map tx))
 have nfp:=p1.ne hfa
 have hHf:H fa=none:=by
  cases z:H fa with
  |none=>rfl
  |some o=>rw[s1 _ _ z nfp]at hfa;cases hfa
 walk_at "go"
 refine zA5 (p1.same t1) (by omega) (by omega) (fun r2 H2 r20 r21 p2 s2=>?_)
 have u2:SameBut1 p H H2:=(s1.trans (SameBut1.of t1)).trans s2
 walk_at "go"
 refine ifd (fun hc=>?_) (fun hc=>?_)
 ·walk_at "go"
  refine zA5 p2 (by omega) (by omega) (fun r3 H3 r30 r31 p3 s3=>?_)
  walk_at "go"
  refine⟨_,rfl,by omega,by omega,?_⟩
  have hn:(2*hf+r3).toNat<=41:=by omega
  refine zCI (n:=(2*hf+r3).toNat) (fun D i ys H'=>∃row:List Nat,ys=(row.map fun c=>[c]).map tx/\row.length=i/\(∀c∈row,c∈sgn kk)/\Po H' p/\∀b o,H3 b=some o->b≠p->H' b=some o) (fun D hD=>⟨[],rfl,rfl,(fun _ z=>nomatch z),p3.same (zAF hD _),fun b o z _=>by rw[zAG (zAE z hD)];exact z⟩) (fun D i ys H' _ hi _ _=>hi) (fun D ys H' hD hD' hl ⟨row,e,hrl,hrow,p4,s4⟩=>⟨Nat.le_refl _,?_⟩) ?_
  ·subst e
   walk_at "go"
   exact tail sg D row H' hsg0 hsl0 hD' hrow (by omega) p4 (fun b o z n=>s4 b o (s3 b o (u2 b o z n) n) n) (by
    cases z:H D with
    |none=>rfl
    |some o=>rw[s3 _ _ (u2 _ _ z ((p3.ne hD))) (p3.ne hD)]at hD;cases hD) (p3.ne hD)
  ·rintro D i ys H' x H5 hD hi hD' hl ⟨row,e,hrl,hrow,p4,s4⟩ ⟨rfl,rfl⟩
   have nDp:=p3.ne hD
   show gName 0 _ _ _ _
   walk_at "go"
   refine iteT ?_
   walk_at "go"
   first|refine zGJ (small (by rw[hsl0];simp;omega)) ?_ |skip
   walk_at "go"
   refine zA5 p4 (by omega) (by omega) (fun r4 H6 r40 r41 p6 s6=>?_)
   obtain⟨c,hc4,hcm⟩:=zKf (l:=sg++[63,63]) r40 (by rw[List.length_append,hsl0];simp;omega)
   walk_at "go"
   refine zEu (small (by rw[List.length_append,hsl0];simp;omega)) hc4 ?_
   refine zCT hi (small (by omega)) (s6 _ _ hD' nDp) hl ⟨row++[c],?_,by simp[hrl],?_,p6.keep SameBut1.upd (Ne.symm nDp),?_⟩
   ·rw[e,List.map_append,List.map_append];rfl
   ·intro d hd
    rcases List.mem_append.mp hd with z|z
    ·exact hrow d z
    ·rw[List.mem_singleton.mp z]
     rcases List.mem_append.mp hcm with y|y
     ·exact hsg0 c y
     ·have:c=63:=by simpa using y
      rw[this];exact unk
   ·intro b o z n
    rw[zAG (zAE z hD)]
    exact s6 b o (s4 b o z n) n
 ·walk_at "go"
  exact tail sg fa row0 H2 hsg0 hsl0 (s2 _ _ f1 nfp) (fun c hc=>zLl (hkin c hc)) (by omega) p2 u2 hHf nfp
theorem sc_law_fillings:FnScope ["kinds","row","found","at","sign","further","places","stack","place"] ["kinds","row"] (defScope zBF):=⟨rfl,rfl,rfl,by decide +kernel,rfl,by decide +kernel,by decide +kernel⟩
theorem zDH(F:Fun K "_law_fillings" "_law_fillings" zBF f fd)(T:Txt K mg aK cs):FnOk P w K mg base CX0 (k+1) f fd ["kinds","row"] (spFillings31):=by
 refine F.ok sc_law_fillings (fun vs H Q E h=>?_) (fun cdv A outer s H vs Q E hr h=>?_)
 ·obtain⟨k,a,rfl,_⟩:=h;rfl
 obtain⟨kk,a,rfl,k1,k4,hl,q⟩:=h
 have hu:=hr.units0
 have hk4:kk.toNat<=4:=by omega
 refine⟨_,(zAD (zAO (i:=2) sc_law_fillings.nd rfl (Or.inl rfl) (zAe (zAA (zA2 (zAA (zAe zAB) (zAA (zAe zAB) zAB))) zAB))) (zAD (zA1 PassesOwn.never rfl (zGU rfl T.n_enumerate (zAA (pv 1) zAB)) (zAp (n:=2) K rfl (zAL (zAK (i:=3) sc_law_fillings.nd rfl (Or.inl rfl)) (zAL (zAK (i:=4) sc_law_fillings.nd rfl (Or.inl rfl)) zAo))) (zAD (zAO (i:=5) sc_law_fillings.nd rfl (Or.inl rfl) (zAe zAB)) (zAD (zA1 PassesOwn.never rfl (zBE K (pv 2)) (zAp (n:=2) K rfl (zAL (zAK (i:=6) sc_law_fillings.nd rfl (Or.inl rfl)) (zAL (zAK (i:=7) sc_law_fillings.nd rfl (Or.inl rfl)) zAo))) (zAI (zA1 PassesOwn.never rfl (zAx rfl T.n_range (zAA (zAQ zAm zAH (pv 0)) zAB)) (zAK (i:=8) sc_law_fillings.nd rfl (Or.inl rfl)) (zAI (zA6 (zAP (zEz K) (pv 4) (zA2 (zAA (zBH (l:=[63]) (by decide +kernel)) (zAA (zAS (zA3 K) (zBH (l:=[40,41,91,93,123,125,60,62]) (by decide +kernel)) (pv 8) (fun _ _=>rfl)) zAB))) (by with_unfolding_all rfl)) (zAD (zA6 (PW.pt (zCi (zAP (zA0 K hu) (zAQ zCM (pv 8) zAH) zAH (nomark _)) (zCB (zAP zH2 (zAM (zAU K) rfl T.n_len PySem.boot_len (zAA (pv 7) zAB)) (zAQ zKQ (zAM (zAU K) rfl T.n_len PySem.boot_len (zAA (pv 1) zAB)) (pv 3)) (nomark _))))) (zAI (zAg (zBU K PySem.F.plainAttrs_list PySem.F.slot_list_append PySem.F.type_list_append zAr (pv 5) (zAA (zA2 (zAA (zAQ zAR (pv 6) (zAe (zAA (pv 8) zAB))) (zAA (zAQ zAR (pv 7) (zAe (zAA (zAQ zFf (pv 8) zAH) zAB))) zAB))) zAB)))) zAZ) (zAI (zA6 (PW.pt (zCi (zAP (zA0 K hu) (zAQ zCM (pv 8) zAH) zAH (nomark _)) (zCi (zAP (zDF K hu) (pv 7) (zAe zAB) (nomark _)) (zCB (zAP (zA0 K hu) (zAS (zA3 K) (pv 7) (zHt zEj zAH) (fun _ _=>rfl)) (zAQ zFf (pv 8) zAH) (nomark _)))))) (zAI (zAg (zBU K PySem.F.plainAttrs_list PySem.F.slot_list_append PySem.F.type_list_append zAr (pv 5) (zAA (zA2 (zAA (zAQ zAR (pv 6) (zAe (zAA (pv 8) zAB))) (zAA (zBl (zKs K) (pv 7) zCD (zCC (zHt zEj zAH))) zAB))) zAB)))) zAZ))) zAZ))))) (zAI (zAO (i:=2) sc_law_fillings.nd rfl (Or.inl rfl) (pv 5)))))) (zAI (zAX (zBJ (own:=["places","stack"]) (sel:=[]) (zAY (osc:=(defScope zBF)) (N:=["kinds","row","found","at","sign","further","places","stack","place"]) (by decide +kernel)) rfl (zBE K (pv 2)) (fun _ _ _ _ _=>(zAp (n:=2) K rfl (zAL (zAK (i:=0) (show(["places","stack"]:List Str).Nodup from by decide +kernel) rfl (Or.inl rfl)) (zAL (zAK (i:=1) (show(["places","stack"]:List Str).Nodup from by decide +kernel) rfl (Or.inl rfl)) zAo)))) (zCk (zAv zAV (zBK zAV zBC) (zAW (by decide)) (zAv zAV zBC (zAW (by decide)) zCl))) (fun _ _ _ _ _=>zBk (zAP (zA0 K hu) (pv 1) (zAe zAB) (nomark _))) (fun _ _ _ _ _=>(pv 0))))))),?_⟩
 walk_at "go"
 refine⟨small (show 0<=1000 by decide),fun p0 hp0=>?_⟩
 have t1:=zAF hp0 (.lst [])
 have g1:(upd H p0 (.lst [])) p0=some (.lst (nL [])):=zAC
 generalize upd H p0 _=H1 at*
 walk_at "go"
 refine⟨small (show 0<=1000 by decide),fun q0 hq0=>?_⟩
 have t2:=zAF hq0 (.lst [])
 have g2:(upd H1 q0 (.lst [])) q0=some (.lst (nL [])):=zAC
 generalize upd H1 q0 _=H2 at*
 walk_at "go"
 refine⟨small (show 2<=1000 by decide),fun T0 hT0=>?_⟩
 have t3:=zAF hT0 (.tup [.ref p0, .ref q0])
 have g3:(upd H2 T0 (.tup [.ref p0, .ref q0])) T0=_:=zAC
 generalize upd H2 T0 _=H3 at*
 walk_at "go"
 refine⟨small (show 1<=1000 by decide),fun F0 hF0=>?_⟩
 have t4:=zAF hF0 (.lst [.ref T0])
 have g4:(upd H3 F0 (.lst [.ref T0])) F0=_:=zAC
 have u4:=((t1.trans t2).trans t3).trans t4
 have fs0:Fs F0 (upd H3 F0 (.lst [.ref T0])) [.ref T0] (fil kk.toNat a 0):=by
  have:=(Fs.nil F0 (upd H3 F0 (.lst [.ref T0]))).more (e:=([],[])) (T:=T0) (p:=p0) (s:=q0) (zAE g3 hF0) (zAE (t3 _ _ (t2 _ _ g1)) hF0) (zAE (t3 _ _ g2) hF0) (t4 _ _ g3) (t4 _ _ (t3 _ _ (t2 _ _ g1))) (t4 _ _ (t3 _ _ g2))
  exact this
 generalize upd H3 F0 _=H4 at*
 clear t1 t2 t3 t4 g1 g2 g3
 walk_at "go"
 refine zIT (fun j σ H'=>∃ (f:Addr) (vs:List V) (o3 o4 o5 o6 o7 o8:Option V),σ=[some (.int kk),some (tx a),some (.ref f),o3,o4,o5,o6,o7,o8]/\Same H H'/\H' f=some (.lst vs)/\Fs f H' vs (fil kk.toNat a j)) ⟨F0,_,_,_,_,_,_,_,rfl,u4,g4,fs0⟩ ?_ ?_
 rotate_left
 ·rintro σ H5 ⟨f,vs,o3,o4,o5,o6,o7,o8,rfl,s5,gf,fs⟩
  walk_at "go"
  have hfl:=zEV hk4 a a.length
  have h5j:5^a.length<=1953125:=by
   generalize a.length=m at hl
   have:m=0\/m=1\/m=2\/m=3\/m=4\/m=5\/m=6\/m=7\/m=8\/m=9:=by omega
   rcases this with rfl|rfl|rfl|rfl|rfl|rfl|rfl|rfl|rfl|rfl<;>decide
  have hvl:=fs.1
  have eres:resp (fil kk.toNat a a.length)=ress kk.toNat a:=rfl
  have hst0:∀e∈fil kk.toNat a a.length,e.2.length<=9:=fun e he=>by
   have h2:=zFq (zDQ he).2.1
   rw[List.length_nil]at h2
   have:=(zDQ he).1
   omega
  generalize fil kk.toNat a a.length=es at*
  have hsz:vs.length<=sizeLine:=by rw[PySem.sizeLine_eq];omega
  refine⟨f,rfl,⟨_,SqL.of gf⟩,?_⟩
  refine compL (xs:=vs) (fun D i ys H'=>Same H5 H'/\ys.length=(resp (es.take i)).length/\∀ (n:Nat) (l:List Nat),(resp (es.take i))[n]? =some l->∃p:Addr,ys[n]? =some (V.ref p)/\H' p=some (.lst (nL l))/\H5 p≠none) (fun D i ys H' h=>h.1 _ _ gf) (fun D hD=>⟨zAF hD _,by simp[resp],fun n l h=>by simp[resp]at h⟩) (fun D ys H6 hD hy ⟨s6,h1,h2⟩=>?_) ?_
  ·rw[hvl,List.take_length,eres]at h1 h2
   exact q D ys H6 (s5.trans s6) hy h1 fun n l h=>let⟨p,x,y,_⟩:=h2 n l h;⟨p,x,y⟩
  ·rintro D i x ys H6 hD hx hi hy hyl ⟨s6,h1,h2⟩
   obtain⟨e,he⟩:∃e,es[i]? =some e:=⟨es[i]'(by omega),List.getElem?_eq_getElem (by omega)⟩
   obtain⟨Te,pe,se,ex,_,_,_,b1,b2,b3⟩:=fs.2 i e he
   rw[hx]at ex
   cases ex
   have hel:=hst0 e (List.mem_of_getElem? he)
   have hrn:=zHg he
   walk_at "go"
   refine⟨Te,_,rfl,SqT.of (s6 _ _ b1),rfl,?_⟩
   walk_at "go"
   refine⟨small (Nat.zero_le _),fun d1 hd1=>?_⟩
   have t1:=zAF hd1 (.lst [])
   have flt:∀l:List Nat,(nL l).all flatV=true:=fun l=>by unfold nL;rw[List.all_map,List.all_eq_true];intro x _;rfl
   refine zMW (SqL.of (t1 _ _ (s6 _ _ b3))) (SqL.of zAC) (flt _) rfl ?_
   have eq1:eqVs (nL e.2.reverse) []=decide (e.2=[]):=by
    cases h:e.2 with
    |nil=>rfl
    |cons p r=>
     rw[decide_eq_false (by simp),List.reverse_cons]
     cases hr':r.reverse<;>simp[nL,eqVs]
   rw[eq1]
   have s7:=s6.trans t1
   have hy7:=t1 _ _ hy
   generalize upd H6 d1 _=H7 at*
   walk_at "go"
   by_cases z:e.2=[]
   ·rw[if_pos z]at hrn
    refine ifp (decide_eq_true z) ?_
    walk_at "go"
    have nD:∀p:Addr,H5 p≠none->p≠D:=fun p hp e=>hp (e▸hD)
    refine zCT hi hsz hy7 hyl ⟨fun b o w=>?_,?_,fun n l hn=>?_⟩
    ·rw[zAG (zAE w hD)];exact s7 _ _ w
    ·rw[hrn,List.length_append,List.length_append,h1];rfl
    ·rw[hrn]at hn
     by_cases c1:n<(resp (es.take i)).length
     ·rw[List.getElem?_append_left c1]at hn
      obtain⟨p,x1,x2,x3⟩:=h2 n l hn
      refine⟨p,by rw[List.getElem?_append_left (by omega)];exact x1,?_,x3⟩
      rw[zAG (nD p x3)]
      rcases hp5:H5 p with _|o
      ·exact absurd hp5 x3
      ·have:=s6 _ _ hp5
       rw[x2]at this
       cases this
       exact s7 _ _ hp5
     ·rw[List.getElem?_append_right (by omega)]at hn
      have hn0:n=(resp (es.take i)).length:=by
       have:=(List.getElem?_eq_some_iff.mp hn).1
       simp at this;omega
      subst hn0
      rw[Nat.sub_self]at hn
      cases hn
      refine⟨pe,by rw[List.getElem?_append_right (by omega),h1,Nat.sub_self];rfl,?_,by rw[b2];simp⟩
      rw[zAG (nD pe (by rw[b2];simp))]
      exact s7 _ _ b2
   ·rw[if_neg z,List.append_nil]at hrn
    refine ifq (decide_eq_false z) ?_
    refine zIp hi hy7 hyl ⟨s7,by rw[hrn];exact h1,fun n l hn=>?_⟩
    rw[hrn]at hn
    obtain⟨p,x1,x2,x3⟩:=h2 n l hn
    refine⟨p,x1,?_,x3⟩
    rcases hp5:H5 p with _|o
    ·exact absurd hp5 x3
    ·have:=s6 _ _ hp5
     rw[x2]at this
     cases this
     exact s7 _ _ hp5
 rintro j c σ H5 T5 hc hT5 ⟨f,vs,o3,o4,o5,o6,o7,o8,rfl,s5,gf,fs⟩
 refine nbk (P:=fun b=>(_:TG) _ _ _ fun σ2 H2=>(_:TS) ⟨_,_,b,_⟩ σ2 H2) fun bk=>?_
 try dsimp only
 have hj:j<a.length:=(List.getElem?_eq_some_iff.mp hc).1
 have ecj:a.getD j 0=c:=by rw[List.getD_eq_getElem?_getD,hc];rfl
 have t5:=zAF hT5 (.tup [.int (j:Int),tx [c]])
 have g5:(upd H5 T5 (.tup [.int (j:Int),tx [c]])) T5=_:=zAC
 have gf5:=t5 _ _ gf
 have fs5:=fs.keep (SameBut1.of t5)
 have s5:=s5.trans t5
 generalize upd H5 T5 _=H6 at*
 walk_at "go"
 refine⟨T5,_,rfl,SqT.of g5,rfl,?_⟩
 walk_at "go"
 refine⟨small (show 0<=1000 by decide),fun fu hfu=>?_⟩
 have t6:=zAF hfu (.lst [])
 have g6:(upd H6 fu (.lst [])) fu=some (.lst []):=zAC
 have nfu:f≠fu:=zAE gf5 hfu
 have fs6:=(fs5.move hfu).keep (SameBut1.of t6)
 have gf6:=t6 _ _ gf5
 have hHfu:H fu=none:=s5.free hfu
 have s6:=s5.trans t6
 generalize upd H6 fu _=H7 at*
 clear fs fs5 gf gf5 g5 t5 t6 hfu
 have hfl:=zEV hk4 a j
 have h5j:5^j<=390625:=by
  have:j=0\/j=1\/j=2\/j=3\/j=4\/j=5\/j=6\/j=7\/j=8:=by omega
  rcases this with rfl|rfl|rfl|rfl|rfl|rfl|rfl|rfl|rfl<;>decide
 have hvl:vs.length=(fil kk.toNat a j).length:=fs6.1
 generalize hE:fil kk.toNat a j=es at*
 walk_at "go"
 refine⟨f,rfl,⟨_,SqL.of gf6⟩,?_⟩
 refine zEQ (xs:=vs) (fun i σ H'=>∃ (ws:List V) (o6 o7 o8:Option V),σ=[some (.int kk),some (tx a),some (.ref f),some (.int (j:Int)),some (tx [c]),some (.ref fu),o6,o7,o8]/\SameBut1 fu H7 H'/\H' fu=some (.lst ws)/\Fs fu H' ws ((es.take i).flatMap (chl kk.toNat c (a.length-j)))) ⟨[],_,_,_,rfl,SameBut1.refl _ _,g6,Fs.nil _ _⟩ (fun i σ H' _ ⟨_,_,_,_,_,sb,_,_⟩=>SqL.of (sb _ _ gf6 nfu)) ?_ ?_
 rotate_left
 ·rintro σ H8 ⟨ws,o6,o7,o8,rfl,sb,gw,fsw⟩
  walk_at "go"
  rw[hvl,List.take_length]at fsw
  refine⟨fu,ws,_,_,_,_,_,_,rfl,fun b o z=>sb _ _ (s6 _ _ z) (zAE z hHfu),gw,?_⟩
  rw[fil,hE,ecj]
  exact fsw
 rintro i x σ H8 hx ⟨ws,o6,o7,o8,rfl,sb,gw,fsw⟩
 refine nbk (P:=fun b=>(_:TG) _ _ _ fun σ2 H2=>(_:TS) ⟨_,_,b,_⟩ σ2 H2) fun bk=>?_
 try dsimp only
 have hi:i<es.length:=by rw[<-hvl];exact(List.getElem?_eq_some_iff.mp hx).1
 obtain⟨e,he⟩:∃e,es[i]? =some e:=⟨es[i],List.getElem?_eq_getElem hi⟩
 obtain⟨Te,pe,se,ex,n1,n2,n3,b1,b2,b3⟩:=fs6.2 i e he
 rw[hx]at ex
 cases ex
 have hem:e∈fil kk.toNat a j:=by rw[hE];exact List.mem_of_getElem? he
 have hpl:=(zDQ hem).1
 have hst:e.2.length<=j:=by have h2:=zFq (zDQ hem).2.1;rw[List.length_nil]at h2;omega
 have hws:ws.length<=5*i:=by
  rw[fsw.1]
  have:=zBO (chl kk.toNat c (a.length-j)) 5 (fun x=>zF1 hk4 x) (es.take i)
  have h2:(es.take i).length<=i:=by rw[List.length_take];exact Nat.min_le_left _ _
  omega
 walk_at "go"
 refine⟨Te,_,rfl,SqT.of (sb _ _ b1 n1),rfl,?_⟩
 walk_at "go"
 refine⟨_,rfl,by omega,by omega,?_⟩
 rw[show(2*kk).toNat=2*kk.toNat by omega]
 refine zBy (fun b σ H'=>∃ (ws:List V) (o8:Option V),σ=[some (.int kk),some (tx a),some (.ref f),some (.int (j:Int)),some (tx [c]),some (.ref fu),some (.ref pe),some (.ref se),o8]/\SameBut1 fu H7 H'/\H' fu=some (.lst ws)/\Fs fu H' ws ((es.take i).flatMap (chl kk.toNat c (a.length-j))++chp kk.toNat c (a.length-j) e b)) ⟨ws,_,rfl,sb,gw,by unfold chp;rw[List.range_zero,List.filterMap_nil,List.append_nil];exact fsw⟩ ?_ ?_
 rotate_left
 ·rintro σ H9 ⟨ws,o8,rfl,sb,gw,fsw⟩
  walk_at "go"
  refine⟨ws,_,_,_,rfl,sb,gw,?_⟩
  rw[zHW _ he]
  exact fsw
 clear gw fsw sb hws
 rintro b σ H9 hb ⟨ws,o8,rfl,sb,gw,fsw⟩
 refine nbk (P:=fun b=>(_:TG) _ _ _ fun σ2 H2=>(_:TS) ⟨_,_,b,_⟩ σ2 H2) fun bk=>?_
 try dsimp only
 have hws:ws.length<=3000000:=by
  rw[fsw.1,List.length_append]
  have h1:=zBO (chl kk.toNat c (a.length-j)) 5 (fun x=>zF1 hk4 x) (es.take i)
  have h2:(es.take i).length<=es.length:=by rw[List.length_take];exact Nat.min_le_right _ _
  have h3:=zL4 (k:=kk.toNat) (c:=c) (m:=a.length-j) e b
  omega
 have hb8:b<8:=by omega
 have e0:(0:Int)+(b:Int)=(b:Int):=by omega
 rw[e0]
 walk_at "go"
 refine zEu (small (by decide)) (zAN (zB2 hb8)) ?_
 walk_at "go"
 refine⟨small (show 2<=1000 by decide),fun T9 hT9=>?_⟩
 have t9:=zAF hT9 (.tup [tx [63],tx [brs.getD b 0]])
 have g9:(upd H9 T9 (.tup [tx [63],tx [brs.getD b 0]])) T9=_:=zAC
 have sb9:=sb.trans (SameBut1.of t9)
 have gw9:=t9 _ _ gw
 have fs9:=fsw.keep (SameBut1.of t9)
 generalize upd H9 T9 _=H10 at*
 clear sb gw fsw t9 hT9
 refine zMR (.inr (SqT.of g9)) rfl rfl ?_
 rw[zON]
 walk_at "go"
 have done:∀ {ws':List V} {G:Hp} {o:Option Fe},cnd kk.toNat c (a.length-j) e b=o->SameBut1 fu H7 G->G fu=some (.lst ws')->Fs fu G ws' ((es.take i).flatMap (chl kk.toNat c (a.length-j))++chp kk.toNat c (a.length-j) e b++o.toList)->
  ∃ (ws:List V) (o8:Option V),[some (V.int kk),some (tx a),some (.ref f),some (.int (j:Int)),some (tx [c]),some (.ref fu),some (.ref pe),some (.ref se),some (.int (b:Int))]=[some (V.int kk),some (tx a),some (.ref f),some (.int (j:Int)),some (tx [c]),some (.ref fu),some (.ref pe),some (.ref se),o8]/\SameBut1 fu H7 G/\G fu=some (.lst ws)/\Fs fu G ws ((es.take i).flatMap (chl kk.toNat c (a.length-j))++chp kk.toNat c (a.length-j) e (b+1)):=fun{ws' G o} ho h1 h2 h3=>⟨ws',_,rfl,h1,h2,by rw[zJ1,ho,<-List.append_assoc];exact h3⟩
 refine ifd (fun h1=>?_) (fun h1=>?_)
 rotate_left
 ·walk_at "go"
  refine done (o:=none) ?_ sb9 gw9 (by rw[Option.toList_none,List.append_nil];exact fs9)
  unfold cnd okc
  rw[if_neg (by rw[decide_eq_false h1];decide)]
 have hok:okc c b=true:=decide_eq_true h1
 have nfe:∀ {G:Hp} {x:Addr},G fu≠none->G x=none->x≠fu:=fun{G x} h1 h2 e=>h1 (e▸h2)
 have gpe:=sb9 _ _ b2 n2
 have gse:=sb9 _ _ b3 n3
 have hpe:e.1.length<=9:=by omega
 walk_at "go"
 by_cases hev:b%2=0
 ·refine ifp (decide_eq_true (by omega)) ?_
  walk_at "go"
  refine zBS (.inl (SqL.of gse)) ?_
  rw[List.length_map,List.length_reverse]
  walk_at "go"
  first|refine zKE (small (by omega)) ?_ |skip
  walk_at "go"
  have hnx:nx kk.toNat e.2 b=some (b/2::e.2):=zLe (by omega) (.inl ⟨hev,rfl⟩)
  refine ifd (fun h2=>?_) (fun h2=>?_)
  ·have h2:e.2.length<a.length-j:=by omega
   have hcn:cnd kk.toNat c (a.length-j) e b=some (e.1++[b],b/2::e.2):=by
    unfold cnd
    rw[if_pos hok,hnx,Option.bind_some,if_neg (fun z=>z.2 h2)]
   walk_at "go"
   refine⟨.inl ⟨rfl,_,SqL.of gw9⟩,?_⟩
   walk_at "go"
   refine⟨small (show 1<=1000 by decide),fun d1 hd1=>?_⟩
   have t1:=zAF hd1 (.lst [.int (b:Int)])
   have k1':(upd H10 d1 (.lst [.int (b:Int)])) d1=_:=zAC
   generalize upd H10 d1 _=G1 at*
   refine zEw (t1 _ _ gpe) k1' (small (by rw[List.length_map];simp;omega)) (fun d2 hd2=>?_)
   have t2:=zAF hd2 (.lst (nL e.1++[.int (b:Int)]))
   have k2':(upd G1 d2 (.lst (nL e.1++[.int (b:Int)]))) d2=some (.lst (nL (e.1++[b]))):=by rw[zAC];simp[nL]
   generalize upd G1 d2 _=G2 at*
   walk_at "go"
   refine⟨small (show 1<=1000 by decide),fun d3 hd3=>?_⟩
   have t3:=zAF hd3 (.lst [.int ((b:Int)/2)])
   have k3':(upd G2 d3 (.lst [.int ((b:Int)/2)])) d3=_:=zAC
   generalize upd G2 d3 _=G3 at*
   refine zEw (t3 _ _ (t2 _ _ (t1 _ _ gse))) k3' (small (by rw[List.length_map,List.length_reverse];simp;omega)) (fun d4 hd4=>?_)
   have t4:=zAF hd4 (.lst (nL e.2.reverse++[.int ((b:Int)/2)]))
   have k4':(upd G3 d4 (.lst (nL e.2.reverse++[.int ((b:Int)/2)]))) d4=some (.lst (nL (b/2::e.2).reverse)):=by
    rw[zAC,List.reverse_cons]
    have:((b:Int)/2)=((b/2:Nat):Int):=by omega
    rw[this];simp[nL]
   generalize upd G3 d4 _=G4 at*
   walk_at "go"
   refine⟨small (show 2<=1000 by decide),fun d5 hd5=>?_⟩
   have t5:=zAF hd5 (.tup [.ref d2, .ref d4])
   have k5':(upd G4 d5 (.tup [.ref d2, .ref d4])) d5=_:=zAC
   have tall:=(((t1.trans t2).trans t3).trans t4).trans t5
   have n2':d2≠fu:=nfe (by rw[t1 _ _ gw9];simp) hd2
   have n4':d4≠fu:=nfe (by rw[t3 _ _ (t2 _ _ (t1 _ _ gw9))];simp) hd4
   have n5':d5≠fu:=nfe (by rw[t4 _ _ (t3 _ _ (t2 _ _ (t1 _ _ gw9)))];simp) hd5
   have gw5:=tall _ _ gw9
   have fs5:=fs9.keep (SameBut1.of tall)
   have k2'':=t5 _ _ (t4 _ _ (t3 _ _ k2'))
   have k4'':=t5 _ _ k4'
   have sb5:=sb9.trans (SameBut1.of tall)
   generalize upd G4 d5 _=G5 at*
   walk_at "go"
   refine⟨fu,_,_,rfl,rfl,gw5,by rw[PySem.sizeLine_eq];omega,?_⟩
   have up:SameBut1 fu G5 (upd G5 fu (.lst (ws++[.ref d5]))):=SameBut1.upd
   walk_at "go"
   refine ifq (decide_eq_false (by omega)) ?_
   refine ifq rfl ?_
   exact done hcn (sb5.trans up) zAC ((fs5.keep up).more n5' n2' n4' (up _ _ k5' n5') (up _ _ k2'' n2') (up _ _ k4'' n4'))
  ·have h2:¬e.2.length<a.length-j:=by omega
   walk_at "go"
   refine ifq (decide_eq_false (by omega)) ?_
   refine ifq rfl ?_
   refine done (o:=none) ?_ sb9 gw9 (by rw[Option.toList_none,List.append_nil];exact fs9)
   unfold cnd
   rw[if_pos hok,hnx,Option.bind_some,if_pos ⟨hev,h2⟩]
 ·refine ifq (decide_eq_false (by omega)) ?_
  refine ifq rfl ?_
  walk_at "go"
  refine ifp (decide_eq_true (by omega)) ?_
  walk_at "go"
  refine⟨small (Nat.zero_le _),fun d1 hd1=>?_⟩
  have t1:=zAF hd1 (.lst [])
  have flt:∀l:List Nat,(nL l).all flatV=true:=fun l=>by unfold nL;rw[List.all_map,List.all_eq_true];intro x _;rfl
  refine zK1 (SqL.of (t1 _ _ gse)) (SqL.of zAC) (flt _) rfl ?_
  have gw1:=t1 _ _ gw9
  have fs1:=fs9.keep (SameBut1.of t1)
  have gse1:=t1 _ _ gse
  have gpe1:=t1 _ _ gpe
  have sb1:=sb9.trans (SameBut1.of t1)
  generalize upd H10 d1 _=G1 at*
  rcases hst2:e.2 with _|⟨p,r⟩
  ·have:eqVs (nL (List.reverse [])) []=true:=rfl
   rw[this]
   refine⟨_,rfl,?_⟩
   refine ifq rfl ?_
   refine ifq rfl ?_
   refine done (o:=none) ?_ sb1 gw1 (by rw[Option.toList_none,List.append_nil];exact fs1)
   unfold cnd
   rw[if_pos hok,hst2]
   have:nx kk.toNat [] b=none:=by unfold nx;rw[if_pos (by omega),if_neg hev];rfl
   rw[this];rfl
  ·rw[hst2]at gse1
   have e1:eqVs (nL (p::r).reverse) []=false:=by
    rw[List.reverse_cons]
    cases hr':r.reverse<;>simp[nL,eqVs]
   rw[e1]
   refine⟨_,rfl,?_⟩
   refine ifp rfl ?_
   walk_at "go"
   refine zAf (SqL.of gse1) (v:= .int (p:Int)) (by rw[List.reverse_cons];unfold nL;rw[List.map_append];exact zJh _ _) ?_
   walk_at "go"
   have hrl:r.length<=9:=by rw[hst2]at hst;simp at hst;omega
   refine ifd (fun h2=>?_) (fun h2=>?_)
   ·have h2:p=b/2:=by omega
    have hcn:cnd kk.toNat c (a.length-j) e b=some (e.1++[b],r):=by
     unfold cnd
     have hn:nx kk.toNat e.2 b=some r:=zLe (by omega) (.inr ⟨by omega,by rw[hst2,h2]⟩)
     rw[if_pos hok,hn,Option.bind_some,if_neg (fun z=>hev z.1)]
    walk_at "go"
    refine⟨.inl ⟨rfl,_,SqL.of gw1⟩,?_⟩
    walk_at "go"
    refine⟨small (show 1<=1000 by decide),fun d2 hd2=>?_⟩
    have t2:=zAF hd2 (.lst [.int (b:Int)])
    have k2':(upd G1 d2 (.lst [.int (b:Int)])) d2=_:=zAC
    generalize upd G1 d2 _=G2 at*
    refine zEw (t2 _ _ gpe1) k2' (small (by rw[List.length_map];simp;omega)) (fun d3 hd3=>?_)
    have t3:=zAF hd3 (.lst (nL e.1++[.int (b:Int)]))
    have k3':(upd G2 d3 (.lst (nL e.1++[.int (b:Int)]))) d3=some (.lst (nL (e.1++[b]))):=by rw[zAC];simp[nL]
    generalize upd G2 d3 _=G3 at*
    walk_at "go"
    refine zNx (SqL.of (t3 _ _ (t2 _ _ gse1))) (fun d4 hd4=>?_)
    have ecut:cutV (nL (p::r).reverse) none (some (-1))=nL r.reverse:=by
     rw[List.reverse_cons];unfold nL;rw[List.map_append];exact zIo _ _
    rw[ecut]
    have t4:=zAF hd4 (.lst (nL r.reverse))
    have k4':(upd G3 d4 (.lst (nL r.reverse))) d4=_:=zAC
    generalize upd G3 d4 _=G4 at*
    walk_at "go"
    refine⟨small (show 2<=1000 by decide),fun d5 hd5=>?_⟩
    have t5:=zAF hd5 (.tup [.ref d3, .ref d4])
    have k5':(upd G4 d5 (.tup [.ref d3, .ref d4])) d5=_:=zAC
    have tall:=((t2.trans t3).trans t4).trans t5
    have n3':d3≠fu:=nfe (by rw[t2 _ _ gw1];simp) hd3
    have n4':d4≠fu:=nfe (by rw[t3 _ _ (t2 _ _ gw1)];simp) hd4
    have n5':d5≠fu:=nfe (by rw[t4 _ _ (t3 _ _ (t2 _ _ gw1))];simp) hd5
    have gw5:=tall _ _ gw1
    have fs5:=fs1.keep (SameBut1.of tall)
    have k3'':=t5 _ _ (t4 _ _ k3')
    have k4'':=t5 _ _ k4'
    have sb5:=sb1.trans (SameBut1.of tall)
    generalize upd G4 d5 _=G5 at*
    walk_at "go"
    refine⟨fu,_,_,rfl,rfl,gw5,by rw[PySem.sizeLine_eq];omega,?_⟩
    have up:SameBut1 fu G5 (upd G5 fu (.lst (ws++[.ref d5]))):=SameBut1.upd
    walk_at "go"
    exact done hcn (sb5.trans up) zAC ((fs5.keep up).more n5' n3' n4' (up _ _ k5' n5') (up _ _ k3'' n3') (up _ _ k4'' n4'))
   ·walk_at "go"
    refine done (o:=none) ?_ sb1 gw1 (by rw[Option.toList_none,List.append_nil];exact fs1)
    unfold cnd
    have hn:nx kk.toNat e.2 b=none:=by
     unfold nx;rw[if_pos (by omega),if_neg hev,hst2,zDU,if_neg (by omega)]
    rw[if_pos hok,hn];rfl
theorem sc_law_told:FnScope ["way","kinds","row","i","caught","found","e"] ["way","kinds","row","i"] (defScope zCe):=⟨rfl,rfl,rfl,by decide +kernel,rfl,by decide +kernel,by decide +kernel⟩
theorem zFh(F:Fun K "_law_told" "_law_told" zCe f fd)(T:Txt K mg aK cs)(U_brackets_at:FnUE P w K mg base k "brackets_at" ["k","row","i"] (spAt28 cs))(U_sure_places:FnUE P w K mg base k "sure_places" ["k","row"] (spSurePlaces cs))(U_sure_pairs:FnUE P w K mg base k "sure_pairs" ["k","row"] (spSurePairs cs)):FnOk P w K mg base CX0 (k+1) f fd ["way","kinds","row","i"] (spTold28):=by
 refine F.ok sc_law_told (fun vs H Q E h=>?_) (fun cdv A outer s H vs Q E hr h=>?_)
 ·obtain⟨w,k,a,i,rfl,_⟩:=h;rfl
 obtain⟨wy,kk,a,i,rfl,h1,h2,ha,w0,w2,hi,q0,q1⟩:=h
 have hu:=hr.units0
 have tailx:cnt kk.toNat a=0->∀ (ob:Obj) (y:Addr) (H':Hp),Same H H'->H y=none->tAsg (tVar 6) (gName 4) (endsOff 6 {nx:=tSeq (tIfS (tTest (tOp rIsA (tVar 4) (tC V.non))) (tRet (tTup (tCons (tC (tx [])) (tCons (tVar 5) tNil)))) tNext) (tSeq (tIfS (tOr (tTru K (tCB (rIsiE K) (tCons (tVar 4) (tCons (tTup (tCons (tC (V.ref cs.NoKinds)) (tCons (tC (V.ref cs.NoLine)) (tCons (tC (V.ref cs.NoPlace)) tNil)))) tNil)))) (tNot (tTru K (tCB (rIsiE K) (tCons (tVar 4) (tCons (tC (V.ty "ValueError")) tNil)))))) (tRet (tTup (tCons (tC (tx [97,110,111,116,104,101,114])) (tCons (tC V.non) tNil)))) tNext)
  (tRet (tTup (tCons (tOp (rIxA K) (tLst (tCons (tC (tx [97,110,111,116,104,101,114])) (tCons (tC (tx [110,111,32,102,105,108,108,105,110,103])) tNil))) (tCB rInt (tCons (tCB (rIsiE K) (tCons (tVar 4) (tCons (tC (V.ref cs.NoFilling)) tNil))) tNil))) (tCons (tC V.non) tNil))))) {nx:=fun x H'=>Q V.non H',rt:=Q},rt:=Q}) [some (.int wy),some (.int kk),some (tx a),some (.int i),some .non,some .non,some (.ref y)] (upd H' y (excO ob y cs.NoFilling)):=by
  intro hz ob y H' s' n
  have g1:(upd H' y (excO ob y cs.NoFilling)) y=some (excO ob y cs.NoFilling):=zAC
  have s1:Same H (upd H' y (excO ob y cs.NoFilling)):=zJG s' n
  generalize upd H' y _=G at*
  walk_at "go"
  refine(show∀ (_:tSeq (tIfS (tTest (tOp rIsA (tVar 4) (tC V.non))) (tRet (tTup (tCons (tC (tx [])) (tCons (tVar 5) tNil)))) tNext) (tSeq (tIfS (tOr (tTru K (tCB (rIsiE K) (tCons (tVar 4) (tCons (tTup (tCons (tC (V.ref cs.NoKinds)) (tCons (tC (V.ref cs.NoLine)) (tCons (tC (V.ref cs.NoPlace)) tNil)))) tNil)))) (tNot (tTru K (tCB (rIsiE K) (tCons (tVar 4) (tCons (tC (V.ty "ValueError")) tNil)))))) (tRet (tTup (tCons (tC (tx [97,110,111,116,104,101,114])) (tCons (tC V.non) tNil)))) tNext)
   (tRet (tTup (tCons (tOp (rIxA K) (tLst (tCons (tC (tx [97,110,111,116,104,101,114])) (tCons (tC (tx [110,111,32,102,105,108,108,105,110,103])) tNil))) (tCB rInt (tCons (tCB (rIsiE K) (tCons (tVar 4) (tCons (tC (V.ref cs.NoFilling)) tNil))) tNil))) (tCons (tC V.non) tNil))))) {nx:=fun x H'=>Q V.non H',rt:=Q} [some (.int wy),some (.int kk),some (tx a),some (.int i),some (.ref y),some .non,none] G),_ from fun z=>z) ?_
  walk_at "go"
  refine ifq rfl ?_
  walk_at "go"
  refine⟨small (show 3<=1000 by decide),fun tp htp=>?_⟩
  have t3:=zAF htp (.tup ([cs.NoKinds,cs.NoLine,cs.NoPlace].map V.ref))
  walk_at "go"
  refine zMN (cs:=[cs.NoKinds,cs.NoLine,cs.NoPlace]) (t3 _ _ g1) T.e_NoFilling zAC (show PySem.W.kitAny K (.ref cs.NoFilling) ([cs.NoKinds,cs.NoLine,cs.NoPlace].map Value.ref)=some false by simp only[List.map_cons,List.map_nil,PySem.W.kitAny,T.k_NoFilling_NoKinds,T.k_NoFilling_NoLine,T.k_NoFilling_NoPlace]) ?_
  walk_at "go"
  refine ifq rfl ?_
  walk_at "go"
  refine zMO (t3 _ _ g1) T.e_NoFilling T.v_NoFilling ?_
  walk_at "go"
  refine ifq rfl ?_
  walk_at "go"
  refine⟨small (show 2<=1000 by decide),fun l hl=>?_⟩
  have t4:=zAF hl (.lst [tx [97,110,111,116,104,101,114],tx noFl])
  walk_at "go"
  refine zMP (t4 _ _ (t3 _ _ g1)) T.e_NoFilling T.k_NoFilling_NoFilling ?_
  walk_at "go"
  refine zAf (SqL.of zAC) (v:=tx noFl) rfl ?_
  walk_at "go"
  refine⟨small (show 2<=1000 by decide),fun T9 hT9=>?_⟩
  exact q0 hz T9 _ (((s1.trans t3).trans t4).trans (zAF hT9 _)) zAC
 refine⟨_,(zAD (zAO (i:=4) sc_law_told.nd rfl (Or.inl rfl) zEy) (zAD (zAO (i:=5) sc_law_told.nd rfl (Or.inl rfl) zEy) (zAD (zMj (i:=6) T.e_RowError T.c_RowError ⟨rfl,rfl,rfl⟩ sc_law_told.nd rfl rfl (fun pn xe R hx=>(zAI (zA6 (zAP (zA0 K hu) (pv 0) zAH (nomark _)) (zAI (zAO (i:=5) sc_law_told.nd rfl (Or.inl rfl) (zAw U_brackets_at hr hx (zAA (pv 1) (zAA (pv 2) (zAA (pv 3) zAB)))))) (zAI (zA6 (zAP (zA0 K hu) (pv 0) zAH (nomark _)) (zAI (zAO (i:=5) sc_law_told.nd rfl (Or.inl rfl) (zAw U_sure_places hr hx (zAA (pv 1) (zAA (pv 2) zAB))))) (zAI (zAO (i:=5) sc_law_told.nd rfl (Or.inl rfl) (zAw U_sure_pairs hr hx (zAA (pv 1) (zAA (pv 2) zAB)))))))))) (fun ev=>(zAI (zAO (i:=4) sc_law_told.nd rfl (Or.inl rfl) (pv 6))))) (zAD (zA6 (zAP zM5 (pv 4) zEy (nomark _)) (zAI (zAX (zA2 (zAA (zBH (l:=[]) (by decide +kernel)) (zAA (pv 5) zAB))))) zAZ) (zAD (zA6 (PW.pt (zEB (zBd K (zAM (zDW K) rfl T.n_isinstance PyProof.Rows.boot_isinstance (zAA (pv 4) (zAA (zA2 (zAA (zJZ T.c_NoKinds) (zAA (zJZ T.c_NoLine) (zAA (zJZ T.c_NoPlace) zAB)))) zAB)))) (zCK (zBN (zBd K (zAM (zDW K) rfl T.n_isinstance PyProof.Rows.boot_isinstance (zAA (pv 4) (zAA (zGv T.n_ValueError zDX) zAB)))))))) (zAI (zAX (zA2 (zAA (zBH (l:=[97,110,111,116,104,101,114]) (by decide +kernel)) (zAA zEy zAB))))) zAZ) (zAI (zAX (zA2 (zAA (zAS (zA3 K) (zAe (zAA (zBH (l:=[97,110,111,116,104,101,114]) (by decide +kernel)) (zAA (zBH (l:=[110,111,32,102,105,108,108,105,110,103]) (by decide +kernel)) zAB))) (zBf zCU rfl T.n_int PyProof.Rows.boot_int (zAA (zAM (zDW K) rfl T.n_isinstance PyProof.Rows.boot_isinstance (zAA (pv 4) (zAA (zJZ T.c_NoFilling) zAB))) zAB)) (fun _ _=>rfl)) (zAA zEy zAB)))))))))),?_⟩
 walk_at "go"
 refine ifd (fun c0=>?_) (fun c0=>?_)
 ·obtain⟨i0,i1⟩:=hi c0
  walk_at "go"
  obtain⟨im,rfl⟩:∃im:Nat,i=(im:Int):=⟨i.toNat,by omega⟩
  by_cases hz:cnt kk.toNat a=0
  ·exact⟨kk,a,im,rfl,h1,h2,ha,by omega, .inl ⟨hz,zHi fun y H' s' n=>⟨T.m_NoFilling,fun ob=>tailx hz ob y H' s' n⟩⟩⟩
  ·refine⟨kk,a,im,rfl,h1,h2,ha,by omega, .inr ⟨hz,fun D H1 hD s1 gD=>?_⟩⟩
   walk_at "go"
   refine ifp rfl ?_
   walk_at "go"
   refine⟨small (show 2<=1000 by decide),fun T9 hT9=>?_⟩
   have t9:=zAF hT9 (.tup [tx [], .ref D])
   exact q1 hz T9 D _ (s1.trans t9) hD zAC (fun _=>by rw[Int.toNat_natCast];exact t9 _ _ gD) (fun z=>by omega) (fun z=>by omega)
 ·walk_at "go"
  refine ifd (fun c1=>?_) (fun c1=>?_)
  ·walk_at "go"
   by_cases hz:cnt kk.toNat a=0
   ·exact⟨kk,a,⟨rfl,h1,h2,ha⟩, .inl ⟨hz,zHi fun y H' s' n=>⟨T.m_NoFilling,fun ob=>tailx hz ob y H' s' n⟩⟩⟩
   ·refine⟨kk,a,⟨rfl,h1,h2,ha⟩, .inr ⟨hz,fun D vs H1 hD s1 gD sl=>?_⟩⟩
    walk_at "go"
    refine ifp rfl ?_
    walk_at "go"
    refine⟨small (show 2<=1000 by decide),fun T9 hT9=>?_⟩
    have t9:=zAF hT9 (.tup [tx [], .ref D])
    exact q1 hz T9 D _ (s1.trans t9) hD zAC (fun z=>absurd z c0) (fun _=>⟨vs,t9 _ _ gD,sl.same t9⟩) (fun z=>by omega)
  ·walk_at "go"
   by_cases hz:cnt kk.toNat a=0
   ·exact⟨kk,a,⟨rfl,h1,h2,ha⟩, .inl ⟨hz,zHi fun y H' s' n=>⟨T.m_NoFilling,fun ob=>tailx hz ob y H' s' n⟩⟩⟩
   ·refine⟨kk,a,⟨rfl,h1,h2,ha⟩, .inr ⟨hz,fun D vs H1 hD s1 gD sl=>?_⟩⟩
    walk_at "go"
    refine ifp rfl ?_
    walk_at "go"
    refine⟨small (show 2<=1000 by decide),fun T9 hT9=>?_⟩
    have t9:=zAF hT9 (.tup [tx [], .ref D])
    exact q1 hz T9 D _ (s1.trans t9) hD zAC (fun z=>absurd z c0) (fun z=>absurd z c1) (fun _=>⟨vs,t9 _ _ gD,sl.same t9⟩)
theorem sc_law_partners:FnScope ["places","found","stack","at","place"] ["places"] (defScope zBa):=⟨rfl,rfl,rfl,by decide +kernel,rfl,by decide +kernel,by decide +kernel⟩
theorem zDG(F:Fun K "_law_partners" "_law_partners" zBa f fd)(T:Txt K mg aK cs):FnOk P w K mg base CX0 (k+1) f fd ["places"] (spPartners28):=by
 refine F.ok sc_law_partners (fun vs H Q E h=>?_) (fun cdv A outer s H vs Q E hr h=>?_)
 ·obtain⟨p,l,k,rfl,_⟩:=h;rfl
 obtain⟨p,l,k,rfl,gp,hll,hrg,q⟩:=h
 have hu:=hr.units0
 refine⟨_,(zAD (zAO (i:=1) sc_law_partners.nd rfl (Or.inl rfl) (zAe zAB)) (zAD (zAO (i:=2) sc_law_partners.nd rfl (Or.inl rfl) (zAe zAB)) (zAD (zA1 PassesOwn.never rfl (zDB K rfl T.n_enumerate (zAA (pv 0) zAB)) (zAp (n:=2) K rfl (zAL (zAK (i:=3) sc_law_partners.nd rfl (Or.inl rfl)) (zAL (zAK (i:=4) sc_law_partners.nd rfl (Or.inl rfl)) zAo))) (zAI (zA6 (zAP (zA0 K hu) (zAQ zCM (pv 4) zAH) zAH (nomark _)) (zAI (zAg (zBU K PySem.F.plainAttrs_list PySem.F.slot_list_append PySem.F.type_list_append zAr (pv 2) (zAA (pv 3) zAB)))) (zAI (zAg (zBU K PySem.F.plainAttrs_list PySem.F.slot_list_append PySem.F.type_list_append zAr (pv 1) (zAA (zA2 (zAA (zHu K PySem.F.plainAttrs_list PySem.F.slot_list_pop PySem.F.type_list_pop zKR (pv 2)) (zAA (pv 3) zAB))) zAB))))))) (zAI (zAX (pv 1)))))),?_⟩
 walk_at "go"
 refine⟨small (show 0<=1000 by decide),fun F0 hF0=>?_⟩
 have t1:=zAF hF0 (.lst [])
 have g1:(upd H F0 (.lst [])) F0=some (.lst []):=zAC
 have gp1:=t1 _ _ gp
 generalize upd H F0 _=H1 at*
 walk_at "go"
 refine⟨small (show 0<=1000 by decide),fun S0 hS0=>?_⟩
 have t2:=zAF hS0 (.lst [])
 have g2:(upd H1 S0 (.lst [])) S0=some (.lst []):=zAC
 have gp2:=t2 _ _ gp1
 have g1':=t2 _ _ g1
 have hne:F0≠S0:=fun z=>by rw[<-z,g1]at hS0;cases hS0
 generalize upd H1 S0 _=H2 at*
 walk_at "go"
 have e2:Same H H2:=t1.trans t2
 have hnl:(nL l).length=l.length:=by unfold nL;rw[List.length_map]
 have nFp:F0≠p:=fun z=>by rw[z,gp]at hF0;cases hF0
 have nSp:S0≠p:=fun z=>by rw[z,gp1]at hS0;cases hS0
 refine⟨p,rfl,⟨_,SqL.of gp2⟩,?_⟩
 refine zIS (n:=l.length) (fun i σ H'=>∃ (vs':List V) (o3 o4:Option V),σ=[some (.ref p),some (.ref F0),some (.ref S0),o3,o4]/\Same H H'/\H' p=some (.lst (nL l))/\H' F0=some (.lst vs')/\Prl H' vs' (pt l i).1/\H' S0=some (.lst (nL (pt l i).2.reverse))) ⟨[],_,_,rfl,e2,gp2,g1',⟨rfl,fun m x h=>by simp[pt]at h⟩,g2⟩ (fun i σ H' hi ⟨_,_,_,_,_,gp',_⟩=>⟨_,(nL l)[i]'(by omega),SqL.of gp',List.getElem?_eq_getElem (by omega)⟩) (fun σ H' ⟨_,_,_,_,_,gp',_⟩=>⟨_,SqL.of gp',hnl.symm⟩) ?_ ?_
 rotate_left
 ·rintro σ H3 ⟨vs',o3,o4,rfl,s3,gp3,gF3,pr3,gS3⟩
  walk_at "go"
  exact q F0 vs' H3 s3 gF3 pr3
 rintro i x σ H3 H4 hi ⟨vs',o3,o4,rfl,s3,gp3,gF3,pr3,gS3⟩ ⟨Tt,xx,hTt,hxx,rfl,rfl⟩
 refine nbk (P:=fun b=>(_:TG) _ _ _ fun σ2 H2=>(_:TS) ⟨_,_,b,_⟩ σ2 H2) fun bk=>?_
 try dsimp only
 have hxx:=hxx _ (SqL.of gp3)
 have gl:(nL l)[i]? =some (.int ((l.getD i 0:Nat):Int)):=by
  unfold nL
  rw[List.getElem?_map,List.getElem?_eq_getElem hi,List.getD_eq_getElem?_getD,List.getElem?_eq_getElem hi];rfl
 rw[gl]at hxx
 cases hxx
 have tT:=zAF hTt (.tup [.int (i:Int), .int ((l.getD i 0:Nat):Int)])
 have gTt:(upd H3 Tt (.tup [.int (i:Int), .int ((l.getD i 0:Nat):Int)])) Tt=some (.tup [.int (i:Int), .int ((l.getD i 0:Nat):Int)]):=zAC
 have s4:=s3.trans tT
 have gp4:=tT _ _ gp3
 have gF4:=tT _ _ gF3
 have pr4:=pr3.same tT
 have gS4:=tT _ _ gS3
 show gTup K 2 _ (.ref Tt) _ (upd H3 Tt (.tup [.int (i:Int), .int ((l.getD i 0:Nat):Int)])) _
 generalize upd H3 Tt _=H4 at*
 clear s3 gp3 gF3 pr3 gS3 tT hTt
 obtain⟨st,hgo⟩:=zIO hrg i
 have hln:=zLO (l:=l) (Nat.le_of_lt hi) hgo
 have hpl:=zHm l i
 have hfr:∀ {G:Hp} {o:HO},Same H G->Same H (upd G F0 o):=fun{G o} sG z w hz=>by rw[zAG (zAE hz hF0)];exact sG _ _ hz
 have hS00:H S0=none:=t1.free hS0
 have hsr:∀ {G:Hp} {o:HO},Same H G->Same H (upd G S0 o):=fun{G o} sG z w hz=>by rw[zAG (zAE hz hS00)];exact sG _ _ hz
 have nLl:(nL (pt l i).2.reverse).length=(pt l i).2.length:=by unfold nL;rw[List.length_map,List.length_reverse]
 have hp2:=zHl l i
 walk_at "go"
 refine⟨Tt,_,rfl,SqT.of gTt,rfl,?_⟩
 walk_at "go"
 by_cases hev:l.getD i 0%2=0
 ·refine ifp (decide_eq_true (by omega)) ?_
  walk_at "go"
  refine⟨SqL.ty (SqL.of gS4),?_⟩
  walk_at "go"
  refine⟨S0,_,_,rfl,rfl,gS4,by rw[nLl,sizeLine_eq];omega,?_⟩
  walk_at "go"
  have ep:pt l (i+1)=((pt l i).1,i::(pt l i).2):=by rw[pt,if_pos hev]
  rw[ep]
  refine⟨vs',_,_,rfl,hsr s4,by rw[zAG nSp.symm];exact gp4,by rw[zAG hne];exact gF4,pr4.lst gS4,?_⟩
  rw[zAC,List.reverse_cons]
  unfold nL
  rw[List.map_append];rfl
 ·refine ifq (decide_eq_false (by omega)) ?_
  walk_at "go"
  obtain⟨sp,rr,epp⟩:=zGO hrg hi hev
  have ep:pt l (i+1)=((pt l i).1++[(sp,i)],rr):=by rw[pt,if_neg hev,epp]
  rw[epp,List.reverse_cons]at gS4
  have eS:nL (rr.reverse++[sp])=nL rr.reverse++[.int (sp:Int)]:=by unfold nL;rw[List.map_append];rfl
  rw[eS]at gS4
  refine⟨SqL.ty (SqL.of gF4),?_⟩
  walk_at "go"
  refine⟨SqL.ty (SqL.of gS4),?_⟩
  walk_at "go"
  refine⟨S0,_, .int (sp:Int),rfl,rfl,gS4,by rw[List.length_append,List.length_singleton,Nat.add_sub_cancel,List.getElem?_append_right (Nat.le_refl _),Nat.sub_self];rfl,?_⟩
  have s5:=hsr (o:= .lst (nL rr.reverse++[V.int (sp:Int)]).dropLast) s4
  have gp5:(upd H4 S0 (.lst (nL rr.reverse++[V.int (sp:Int)]).dropLast)) p=some (.lst (nL l)):=by rw[zAG nSp.symm];exact gp4
  have gF5:(upd H4 S0 (.lst (nL rr.reverse++[V.int (sp:Int)]).dropLast)) F0=some (.lst vs'):=by rw[zAG hne];exact gF4
  have pr5:Prl (upd H4 S0 (.lst (nL rr.reverse++[V.int (sp:Int)]).dropLast)) vs' (pt l i).1:=pr4.lst gS4
  have gS5:(upd H4 S0 (.lst (nL rr.reverse++[V.int (sp:Int)]).dropLast)) S0=some (.lst (nL rr.reverse)):=by rw[zAC,List.dropLast_concat]
  generalize upd H4 S0 _=H5 at*
  walk_at "go"
  refine⟨small (show 2<=1000 by decide),fun T2 hT2=>?_⟩
  have t6:=zAF hT2 (.tup [.int (sp:Int), .int (i:Int)])
  have g6:(upd H5 T2 (.tup [.int (sp:Int), .int (i:Int)])) T2=some (.tup [.int (sp:Int), .int (i:Int)]):=zAC
  have s6:=s5.trans t6
  have gp6:=t6 _ _ gp5
  have gF6:=t6 _ _ gF5
  have pr6:=pr5.same t6
  have gS6:=t6 _ _ gS5
  generalize upd H5 T2 _=H6 at*
  walk_at "go"
  have pl1:=pr6.1
  refine⟨F0,_,_,rfl,rfl,gF6,by rw[pl1,sizeLine_eq];omega,?_⟩
  walk_at "go"
  rw[ep]
  refine⟨_,_,_,rfl,hfr s6,by rw[zAG nFp.symm];exact gp6,zAC,(pr6.lst gF6).more (by rw[zAG (zBr g6 gF6 (fun z=>by cases z))];exact g6),by rw[zAG hne.symm];exact gS6⟩
theorem sc_law_sure_right:FnScope ["kinds","row","fillings","due","i","sign","counts","places","bracket","again","word","found","pairs","there","some"] ["kinds","row","fillings"] (defScope zAt):=⟨rfl,rfl,rfl,by decide +kernel,rfl,by decide +kernel,by decide +kernel⟩
theorem zCb(F:Fun K "_law_sure_right" "_law_sure_right" zAt f fd)(T:Txt K mg aK cs)(U_law_partners:FnU P w K mg base k "_law_partners" ["places"] (spPartners28))(U_law_told:FnU P w K mg base k "_law_told" ["way","kinds","row","i"] (spTold28)):FnOk P w K mg base CX0 (k+1) f fd ["kinds","row","fillings"] (spSure28):=by
 refine F.ok sc_law_sure_right (fun vs H Q E h=>?_) (fun cdv A outer s H vs Q E hr h=>?_)
 ·obtain⟨k,a,D,fs,rfl,_⟩:=h;rfl
 obtain⟨kk,a,D,fs,rfl,k1,k4,hro,ha9,hfl,hne,q⟩:=h
 have hl:=zBg hro
 have hk4:kk.toNat<=4:=by omega
 have hu:=hr.units0
 have hu2:=units1 hr
 have hc:cnt kk.toNat a≠0:=fun z=>hne ((zGM hk4).mpr z)
 have hrl:=zJN hk4 (a:=a) ha9
 refine⟨_,(zAD (zAO (i:=3) sc_law_sure_right.nd rfl (Or.inl rfl) (zAe zAB)) (zAD (zA1 PassesOwn.never rfl (zGU rfl T.n_enumerate (zAA (pv 1) zAB)) (zAp (n:=2) K rfl (zAL (zAK (i:=4) sc_law_sure_right.nd rfl (Or.inr rfl)) (zAL (zAK (i:=5) sc_law_sure_right.nd rfl (Or.inl rfl)) zAo))) (zAD (zAO (i:=6) sc_law_sure_right.nd rfl (Or.inl rfl) zJW) (zAD (zA1 PassesOwn.never rfl (zBE K (pv 2)) (zAK (i:=7) sc_law_sure_right.nd rfl (Or.inl rfl)) (zAD (zAO (i:=8) sc_law_sure_right.nd rfl (Or.inl rfl) (zAS (zA3 K) (zBH (l:=[40,41,91,93,123,125,60,62]) (by decide +kernel)) (zAS (zA3 K) (pv 7) (pv 4) (fun _ _=>rfl)) (fun _ _=>rfl))) (zAI (zHn hu2 (pv 6) (pv 8) (zAQ zAR (zJX hu2 (pv 6) (pv 8) zAH ⟨rfl,rfl,rfl,rfl⟩) zAH) rfl)))) (zAD (zA6 (PW.pt (zCi (zAP (zA0 K hu) (pv 5) (zBH (l:=[63]) (by decide +kernel)) (nomark _)) (zCB (zAP (zA0 K hu) (zAM zIz rfl T.n_len PySem.boot_len (zAA (pv 6) zAB)) zAH (nomark _))))) (zAI (zAO (i:=3) sc_law_sure_right.nd rfl (Or.inl rfl) (zAQ zAR (pv 3) (zBJ (own:=["bracket"]) (sel:=[4]) (zAY (osc:=(defScope zAt)) (N:=["kinds","row","fillings","due","i","sign","counts","places","bracket","again","word","found","pairs","there","some"]) (by decide +kernel)) rfl (zLU (pv 6)) (fun _ _ _ _ _=>(zAK (i:=0) (show(["bracket","i"]:List Str).Nodup from by decide +kernel) rfl (Or.inl rfl))) (zAW (by decide)) (fun _ _ _ _ _=>zBX) (fun _ _ _ _ _=>(zA2 (zAA (pv 1) (zAA (pv 0) zAB)))))))) zAZ) (zAI (zA1 PassesOwn.never rfl (zAx rfl T.n_range (zAA zAH zAB)) (zAK (i:=9) sc_law_sure_right.nd rfl (Or.inl rfl)) (zAD (zBe (zAb U_law_told hr (zAA zAH (zAA (pv 0) (zAA (pv 1) (zAA (pv 4) zAB))))) (zAp (n:=2) K rfl (zAL (zAK (i:=10) sc_law_sure_right.nd rfl (Or.inl rfl)) (zAL (zAK (i:=11) sc_law_sure_right.nd rfl (Or.inl rfl)) zAo)))) (zAD (zA6 (PW.pt (zEB (zAP (zDF K hu) (pv 10) (zBH (l:=[]) (by decide +kernel)) (nomark _)) (zCK (zBN (zBd K (zAM (zBh K) rfl T.n_isinstance PyProof.Rows.boot_isinstance (zAA (pv 11) (zAA (zGv T.n_dict PyProof.Rows.boot_dict) zAB)))))))) (zAI (zAX zEE)) zAZ) (zAD (zA6 (zAP (zDF K hu) (zGV T.n_repr T.n_sorted T.n_list hr rfl (pv 11)) (zGV T.n_repr T.n_sorted T.n_list hr rfl (pv 6)) (nomark _)) (zAI (zAX zEE)) zAZ) (zAI (zHn hu2 (pv 11) (zBH (l:=[110,111]) (by decide +kernel)) zAH rfl))))))))))) (zAD (zAO (i:=12) sc_law_sure_right.nd rfl (Or.inl rfl) (zAb U_law_partners hr (zAA (zAS (zA3 K) (pv 2) zAH (fun _ _=>rfl)) zAB))) (zAD (zA1 PassesOwn.never rfl (zBE K (pv 2)) (zAK (i:=7) sc_law_sure_right.nd rfl (Or.inl rfl)) (zAD (zAO (i:=13) sc_law_sure_right.nd rfl (Or.inr rfl) (zAb U_law_partners hr (zAA (pv 7) zAB))) (zAI (zB4 (i:=12) sc_law_sure_right.nd rfl (Or.inl rfl) (own:=["pair"]) (sel:=[13]) (zAY (osc:=(defScope zAt)) (N:=["kinds","row","fillings","due","i","sign","counts","places","bracket","again","word","found","pairs","there","some"]) (by decide +kernel)) rfl (zBE K (pv 12)) (fun _ _ _ _ _=>(zAK (i:=0) (show(["pair","there"]:List Str).Nodup from by decide +kernel) rfl (Or.inl rfl))) (zAW (by decide)) (fun _ _ _ _ _=>zBk (zAP (zJc hr) (pv 0) (pv 1) (by with_unfolding_all rfl))) (fun _ _ _ _ _=>(pv 0)))))) (zAD (zA1 PassesOwn.never rfl (zAx rfl T.n_range (zAA zAH zAB)) (zAK (i:=9) sc_law_sure_right.nd rfl (Or.inl rfl)) (zAD (zAO (i:=14) sc_law_sure_right.nd rfl (Or.inl rfl) (zAe (zAA (zAb U_law_told hr (zAA zAH (zAA (pv 0) (zAA (pv 1) (zAA zAH zAB))))) (zAA (zAb U_law_told hr (zAA zAH (zAA (pv 0) (zAA (pv 1) (zAA zAH zAB))))) zAB)))) (zAD (zA6 (zAP (zDF K hu) (zAM (zDu hr) rfl T.n_repr PyProof.Rows.boot_repr (zAA (pv 14) zAB)) (zAM (zDu hr) rfl T.n_repr PyProof.Rows.boot_repr (zAA (zAe (zAA (zA2 (zAA (zBH (l:=[]) (by decide +kernel)) (zAA (pv 3) zAB))) (zAA (zA2 (zAA (zBH (l:=[]) (by decide +kernel)) (zAA (zAM (zHF K) rfl T.n_sorted PyProof.Rows.boot_sorted (zAA (pv 12) zAB)) zAB))) zAB))) zAB)) (nomark _)) (zAI (zAX zEE)) zAZ) (zAD (zAg (zBU K PySem.F.plainAttrs_list PySem.F.slot_list_append PySem.F.type_list_append zAr (zAS (zA3 K) (zAS (zA3 K) (pv 14) zAH (fun _ _=>rfl)) zAH (fun _ _=>rfl)) (zAA (zA2 (zAA zAH (zAA (zBH (l:=[40]) (by decide +kernel)) zAB))) zAB))) (zAI (zAg (zBU K PySem.F.plainAttrs_list PySem.F.slot_list_append PySem.F.type_list_append zAr (zAS (zA3 K) (zAS (zA3 K) (pv 14) zAH (fun _ _=>rfl)) zAH (fun _ _=>rfl)) (zAA (zA2 (zAA zAH (zAA zAH zAB))) zAB)))))))) (zAI (zAX zEE))))))),?_⟩
 walk_at "go"
 refine⟨small (show 0<=1000 by decide),fun d0 hd0=>?_⟩
 have t1:=zAF hd0 (.lst [])
 have g1:(upd H d0 (.lst [])) d0=some (.lst []):=zAC
 generalize upd H d0 _=H1 at*
 walk_at "go"
 refine zIT (fun j σ H'=>∃ (du:Addr) (ds:List V) (o4 o5 o6 o7 o8 o9 o10 o11 o12 o13 o14:Option V),σ=[some (.int kk),some (tx a),some (.ref D),some (.ref du),o4,o5,o6,o7,o8,o9,o10,o11,o12,o13,o14]/\Same H H'/\H' du=some (.lst ds)/\Sll H' ds ((List.range j).filterMap (surS1 kk.toNat a))/\ds.length<=j/\H du=none) ⟨d0,[],_,_,_,_,_,_,_,_,_,_,_,rfl,t1,g1,⟨rfl,fun m x h=>by simp at h⟩,Nat.le_refl _,hd0⟩ ?_ ?_
 rotate_left
 ·rintro σ H2 ⟨du,ds,o4,o5,o6,o7,o8,o9,o10,o11,o12,o13,o14,rfl,s2,gdu,sll,hdl,hdun⟩
  walk_at "go"
  obtain⟨l0,hl0⟩:∃l,(ress kk.toNat a)[0]? =some l:=⟨_,List.getElem?_eq_getElem (List.length_pos_iff.mpr hne)⟩
  have ml0:=List.mem_of_getElem? hl0
  obtain⟨w1,w2,w3⟩:=mem_ress.mp ml0
  have hfl2:=hfl.same s2
  obtain⟨p0,ep0,gp0⟩:=hfl2.2.2 0 l0 hl0
  refine zAf (SqL.of hfl2.1) (zAN (j:=0) ep0) ?_
  walk_at "go"
  refine⟨p0,l0,kk.toNat,rfl,gp0,by omega,w1,fun P0 vP H3 s3 gP prl=>?_⟩
  walk_at "go"
  refine⟨D,rfl,⟨_,SqL.of (s3 _ _ hfl2.1)⟩,?_⟩
  obtain⟨flt,eflt⟩:∃flt:Nat->List (Nat×Nat),flt=fun n=>(prt l0).filter fun x=>decide (∀m∈(ress kk.toNat a).take n,x∈prt m):=⟨_,rfl⟩
  have flt0:flt 0=prt l0:=by
   rw[eflt]
   show(prt l0).filter _=_
   rw[List.filter_eq_self]
   intro x hx
   simp
  refine zEQ (xs:=fs) (fun n σ H'=>∃ (P0:Addr) (vP:List V) (o7 o13:Option V),σ=[some (.int kk),some (tx a),some (.ref D),some (.ref du),o4,o5,o6,o7,o8,o9,o10,o11,some (.ref P0),o13,o14]/\Same H2 H'/\H' P0=some (.lst vP)/\Prl H' vP (flt n)) ⟨P0,vP,_,_,rfl,s3,gP,by rw[flt0];exact prl⟩ (fun n σ H' _ ⟨_,_,_,_,_,sH,_,_⟩=>SqL.of (sH _ _ hfl2.1)) ?_ ?_
  rotate_left
  ·clear gP prl s3
   rintro σ H4 ⟨P0,vP,o7,o13,rfl,s4,gP,prl⟩
   rw[hfl.2.1]at prl
   walk_at "go"
   have fltE:flt (ress kk.toNat a).length=(prt l0).filter fun x=>decide (∀m∈ress kk.toNat a,x∈prt m):=by
    rw[eflt]
    show(prt l0).filter _=_
    rw[List.take_length]
   rw[fltE]at prl
   have hnd:(((prt l0).filter fun x=>decide (∀m∈ress kk.toNat a,x∈prt m)).map (·.1)).Nodup:=List.Nodup.sublist (List.Sublist.map _ List.filter_sublist) (zKK hk4 w1)
   have hnl:((prt l0).filter fun x=>decide (∀m∈ress kk.toNat a,x∈prt m)).length<=9:=Nat.le_trans (List.length_filter_le _ _) (Nat.le_trans (zFd (l:=l0)) (by omega))
   have hsP:(surP kk.toNat a).length<=9:=by
    have:(surP kk.toNat a).Perm ((prt l0).filter fun x=>decide (∀m∈ress kk.toNat a,x∈prt m)):=zHX hk4 ml0 hl
    rw[this.length_eq];exact hnl
   have hok:ShOk (twoD (surS kk.toNat a) (surP kk.toNat a)):=zL9 (Nat.le_trans (zGD _ _) (by omega)) (by omega) (fun x hx=>by have:=(zJD (i:=x.1) (b:=x.2) hx).1;omega) (fun x hx=>by have:=zGE hk4 (i:=x.1) (e:=x.2) hx;exact⟨by omega,by omega⟩)
   have gD4:=s4 _ _ hfl2.1
   have gdu4:=s4 _ _ gdu
   have sll4:=sll.same s4
   have ndu:du≠D:=fun z=>by rw[z,hfl.1]at hdun;cases hdun
   refine⟨_,rfl,by omega,by omega,?_⟩
   refine zBy (fun n σ H'=>∃ (o9 o14:Option V),σ=[some (.int kk),some (tx a),some (.ref D),some (.ref du),o4,o5,o6,o7,o8,o9,o10,o11,some (.ref P0),o13,o14]/\Same H4 H') ⟨_,_,rfl,Same.refl _⟩ ?_ ?_
   rotate_left
   ·rintro σ H5 ⟨o9,o14,rfl,s5⟩
    walk_at "go"
    exact q H5 (s2.trans (s4.trans s5))
   rintro t σ H5 ht ⟨o9,o14,rfl,s5⟩
   refine nbk (P:=fun b=>(_:TG) _ _ _ fun σ2 H2=>(_:TS) ⟨_,_,b,_⟩ σ2 H2) fun bk=>?_
   try dsimp only
   walk_at "go"
   refine⟨1,kk,a,0,rfl,k1,k4,hro,by omega,by omega,fun z=>by omega,fun z=>absurd z hc,fun _ T1 F1 H6 s6 hF1 gT1 _ hw1 _=>?_⟩
   obtain⟨v1,gF1,sl1⟩:=hw1 rfl
   walk_at "go"
   refine⟨2,kk,a,0,rfl,k1,k4,hro,by omega,by omega,fun z=>by omega,fun z=>absurd z hc,fun _ T2 F2 H7 s7 hF2 gT2 _ _ hw2=>?_⟩
   obtain⟨v2,gF2,pl2⟩:=hw2 rfl
   walk_at "go"
   refine⟨small (show 2<=1000 by decide),fun S0 hS0=>?_⟩
   have t8:=zAF hS0 (.lst [.ref T1, .ref T2])
   have gS0:(upd H7 S0 (.lst [.ref T1, .ref T2])) S0=_:=zAC
   have gT1':=t8 _ _ (s7 _ _ gT1)
   have gT2':=t8 _ _ gT2
   have gF1':=t8 _ _ (s7 _ _ gF1)
   have gF2':=t8 _ _ gF2
   have sl1':=sl1.same (s7.trans t8)
   have pl2':=pl2.same t8
   have s48:=s5.trans (s6.trans (s7.trans t8))
   have gD8:=s48 _ _ gD4
   have nS0:S0≠D:=fun z=>by rw[z,s7 _ _ (s6 _ _ (s5 _ _ gD4))]at hS0;cases hS0
   have nF1:F1≠D:=fun z=>by rw[z,s5 _ _ gD4]at hF1;cases hF1
   have nF2:F2≠D:=fun z=>by rw[z,s6 _ _ (s5 _ _ gD4)]at hF2;cases hF2
   have f1S:F1≠S0:=zAE (s7 _ _ gF1) hS0
   have f2S:F2≠S0:=zAE gF2 hS0
   have f12:F1≠F2:=zAE gF1 hF2
   have h4F1:H4 F1=none:=s5.free hF1
   have h4F2:H4 F2=none:=s5.free (s6.free hF2)
   have h4S0:H4 S0=none:=s5.free (s6.free (s7.free hS0))
   generalize upd H7 S0 _=H8 at*
   walk_at "go"
   have sd1:Sd D H8 (.ref S0) (twoD (surS kk.toNat a) (surP kk.toNat a)):= .lst gS0 nS0 (.cons (.tup gT1' (zBr gT1' gD8 fun z=>by cases z) (.cons (.sc (.str _)) (.cons (.lst gF1' nF1 (sl1'.sds gD8)) .nil))) (.cons (.tup gT2' (zBr gT2' gD8 fun z=>by cases z) (.cons (.sc (.str _)) (.cons (.lst gF2' nF2 (pl2'.sds gD8)) .nil))) .nil))
   refine zHf sd1 hok ?_
   walk_at "go"
   refine⟨small (show 2<=1000 by decide),fun T3 hT3=>?_⟩
   have t9:=zAF hT3 (.tup [tx [], .ref du])
   have gT3:(upd H8 T3 (.tup [tx [], .ref du])) T3=_:=zAC
   have s49:=s48.trans t9
   have t89:=t9
   generalize upd H8 T3 _=H9 at*
   walk_at "go"
   refine zKw (SqL.of (s49 _ _ gP)) (prl.same s49) hnd (by omega) (fun P1 w1' M hP1 pM aM prM=>?_)
   have eM:=zGp hk4 ml0 hl pM aM
   subst eM
   have t10:=zAF hP1 (.lst w1')
   have gP1:(upd H9 P1 (.lst w1')) P1=some (.lst w1'):=zAC
   have s410:=s49.trans t10
   have nP1:P1≠D:=fun z=>by rw[z,s49 _ _ gD4]at hP1;cases hP1
   have prM10:=prM.same t10
   have gT310:=t10 _ _ gT3
   have t810:=t89.trans t10
   generalize upd H9 P1 _=H10 at*
   walk_at "go"
   refine⟨small (show 2<=1000 by decide),fun T4 hT4=>?_⟩
   have t11:=zAF hT4 (.tup [tx [], .ref P1])
   have gT4:(upd H10 T4 (.tup [tx [], .ref P1])) T4=_:=zAC
   have s411:=s410.trans t11
   have gT311:=t11 _ _ gT310
   have gP111:=t11 _ _ gP1
   have prM11:=prM10.same t11
   have t811:=t810.trans t11
   generalize upd H10 T4 _=H11 at*
   walk_at "go"
   refine⟨small (show 2<=1000 by decide),fun S1 hS1=>?_⟩
   have t12:=zAF hS1 (.lst [.ref T3, .ref T4])
   have gS1:(upd H11 S1 (.lst [.ref T3, .ref T4])) S1=_:=zAC
   have s412:=s411.trans t12
   have nS1:S1≠D:=fun z=>by rw[z,s411 _ _ gD4]at hS1;cases hS1
   have gT312:=t12 _ _ gT311
   have gT412:=t12 _ _ gT4
   have gP112:=t12 _ _ gP111
   have prM12:=prM11.same t12
   have t812:=t811.trans t12
   generalize upd H11 S1 _=H12 at*
   walk_at "go"
   have gD12:=s412 _ _ gD4
   have gdu12:=s412 _ _ gdu4
   have sd2:Sd D H12 (.ref S1) (twoD (surS kk.toNat a) (surP kk.toNat a)):= .lst gS1 nS1 (.cons (.tup gT312 (zBr gT312 gD12 fun z=>by cases z) (.cons (.sc (.str _)) (.cons (.lst gdu12 ndu ((sll4.same s412).sds gD12)) .nil))) (.cons (.tup gT412 (zBr gT412 gD12 fun z=>by cases z) (.cons (.sc (.str _)) (.cons (.lst gP112 nP1 (prM12.sds gD12)) .nil))) .nil))
   refine zHf sd2 hok ?_
   refine zKD ?_
   walk_at "go"
   refine ifq rfl ?_
   walk_at "go"
   have gS012:=t812 _ _ gS0
   have gT112:=t812 _ _ gT1'
   have gT212:=t812 _ _ gT2'
   have gF112:=t812 _ _ gF1'
   have gF212:=t812 _ _ gF2'
   refine zAf (SqL.of gS012) (show atI _ (0:Int)=some (.ref T1)from rfl) ?_
   walk_at "go"
   refine zML (SqT.of gT112) (show atI _ (1:Int)=some (.ref F1)from rfl) ?_
   walk_at "go"
   refine⟨SqL.ty (SqL.of gF112),?_⟩
   walk_at "go"
   refine⟨small (show 2<=1000 by decide),fun T5 hT5=>?_⟩
   have t13:=zAF hT5 (.tup [.int 0,tx [40]])
   have s413:=s412.trans t13
   have gS013:=t13 _ _ gS012
   have gT213:=t13 _ _ gT212
   have gF113:=t13 _ _ gF112
   have gF213:=t13 _ _ gF212
   generalize upd H12 T5 _=H13 at*
   walk_at "go"
   have lv1:v1.length<=9:=by rw[sl1.1];exact Nat.le_trans (zGD _ _) ha9
   have lv2:v2.length<=9:=by rw[pl2.1];exact hsP
   refine⟨F1,_,_,rfl,rfl,gF113,small1000 (by omega),?_⟩
   have s414:Same H4 (upd H13 F1 (.lst (v1++[.ref T5]))):=fun x o z=>by rw[zAG (zAE z h4F1)];exact s413 x o z
   have gS014:(upd H13 F1 (.lst (v1++[.ref T5]))) S0=some (.lst [.ref T1, .ref T2]):=by rw[zAG f1S.symm];exact gS013
   have gT214:(upd H13 F1 (.lst (v1++[.ref T5]))) T2=some (.tup [tx [], .ref F2]):=by rw[zAG (zBr gT213 gF113 fun z=>by cases z)];exact gT213
   have gF214:(upd H13 F1 (.lst (v1++[.ref T5]))) F2=some (.lst v2):=by rw[zAG f12.symm];exact gF213
   generalize upd H13 F1 _=H14 at*
   walk_at "go"
   refine zAf (SqL.of gS014) (show atI _ (1:Int)=some (.ref T2)from rfl) ?_
   walk_at "go"
   refine zML (SqT.of gT214) (show atI _ (1:Int)=some (.ref F2)from rfl) ?_
   walk_at "go"
   refine⟨SqL.ty (SqL.of gF214),?_⟩
   walk_at "go"
   refine⟨small (show 2<=1000 by decide),fun T6 hT6=>?_⟩
   have t15:=zAF hT6 (.tup [.int 0, .int 0])
   have s415:=s414.trans t15
   have gF215:=t15 _ _ gF214
   generalize upd H14 T6 _=H15 at*
   walk_at "go"
   refine⟨F2,_,_,rfl,rfl,gF215,small1000 (by omega),?_⟩
   exact⟨_,_,rfl,fun x o z=>by rw[zAG (zAE z h4F2)];exact s415 x o z⟩
  clear gP prl s3
  rintro n x σ H4 hx ⟨P0,vP,o7,o13,rfl,s4,gP,prl⟩
  refine nbk (P:=fun b=>(_:TG) _ _ _ fun σ2 H2=>(_:TS) ⟨_,_,b,_⟩ σ2 H2) fun bk=>?_
  try dsimp only
  have hn:n<(ress kk.toNat a).length:=by rw[<-hfl.2.1];exact(List.getElem?_eq_some_iff.mp hx).1
  obtain⟨l,hln⟩:∃l,(ress kk.toNat a)[n]? =some l:=⟨_,List.getElem?_eq_getElem hn⟩
  obtain⟨pl,ep,gp⟩:=hfl2.2.2 n l hln
  rw[hx]at ep
  cases ep
  obtain⟨v1,v2,v3⟩:=mem_ress.mp (List.mem_of_getElem? hln)
  have hpl:(prt l).length<=9:=Nat.le_trans (zFd (l:=l)) (by omega)
  walk_at "go"
  refine⟨pl,l,kk.toNat,rfl,s4 _ _ gp,by omega,v1,fun T0 vT H5 s5 gT0 prT=>?_⟩
  walk_at "go"
  have fltl:(flt n).length<=9:=by
   rw[eflt]
   exact Nat.le_trans (List.length_filter_le _ _) (Nat.le_trans (zFd (l:=l0)) (by omega))
  have flt1:flt (n+1)=(flt n).filter fun x=>decide (x∈prt l):=by
   rw[eflt]
   show(prt l0).filter _=((prt l0).filter _).filter _
   rw[List.filter_filter]
   refine List.filter_congr fun x _=>?_
   rw[List.take_add_one,hln,<-Bool.decide_and,decide_eq_decide]
   constructor
   ·intro h
    exact⟨h l (List.mem_append_right _ (by simp)),fun m hm=>h m (List.mem_append_left _ hm)⟩
   ·rintro⟨h1,h2⟩ m hm
    rcases List.mem_append.mp hm with z|z
    ·exact h2 m z
    ·have:m=l:=by simpa using z
     rw[this];exact h1
  have gP5:=s5 _ _ gP
  have prl5:=prl.same s5
  refine⟨P0,rfl,⟨_,SqL.of gP5⟩,?_⟩
  refine compL (xs:=vP) (fun Dn i ys H'=>Same H5 H'/\Prl H' ys (((flt n).take i).filter fun x=>decide (x∈prt l))) (fun Dn i ys H' h=>h.1 _ _ gP5) (fun Dn hD=>⟨zAF hD _,rfl,fun m x h=>by simp at h⟩) (fun Dn ys H6 hD hy ⟨s6,h1⟩=>?_) ?_
  ·rw[prl.1,List.take_length,<-flt1]at h1
   walk_at "go"
   exact⟨Dn,ys,_,_,rfl,(s4.trans s5).trans s6,hy,h1⟩
  rintro Dn i x ys H6 hD hx2 hi hy hyl ⟨s6,h1⟩
  have hi':i<(flt n).length:=by rw[<-prl.1];exact hi
  obtain⟨⟨st,en⟩,hse⟩:∃y,(flt n)[i]? =some y:=⟨_,List.getElem?_eq_getElem hi'⟩
  obtain⟨Te,eT,gT⟩:=prl5.2 i _ hse
  rw[hx2]at eT
  cases eT
  have hfm:=zDO (fun x=>decide (x∈prt l)) hse
  have gT06:=s6 _ _ gT0
  have gT6:=s6 _ _ gT
  walk_at "go"
  refine⟨.tuple [.int (st:Int), .int (en:Int)],prD (prt l),T0,D, .tup gT6 (zBr gT6 gT06 fun z=>by cases z) (.cons (.sc (.int _)) (.cons (.sc (.int _)) .nil)), .lst gT06 ?_ ((prT.same s6).sds (s6 _ _ (s5 _ _ (s4 _ _ hfl2.1)))),⟨by simp[PyData.canLay0,PyData.canLayAll0],by simp[PyData.depth,PyData.depthAll]⟩,(zKM _).1,?_⟩
  ·intro z
   have gD5:=s5 _ _ (s4 _ _ hfl2.1)
   rw[z,gD5]at gT0
   cases gT0
   have hp0:0<(prt l).length:=by rw[<-prT.1,hfl.2.1];omega
   obtain⟨T,e1,e2⟩:=prT.2 0 _ (List.getElem?_eq_getElem hp0)
   rw[ep0]at e1
   cases e1
   rw[s5 _ _ (s4 _ _ gp0)]at e2
   cases e2
  have ein:((prD (prt l)).any fun d=>PyData.eqv d (.tuple [.int (st:Int), .int (en:Int)]))=decide ((st,en)∈prt l):=zMp (prt l) st en
  rw[show id ((prD (prt l)).any fun d=>PyData.eqv d (.tuple [.int (st:Int), .int (en:Int)]))=decide ((st,en)∈prt l)from ein]
  walk_at "go"
  refine ifd (fun hz=>?_) (fun hz=>?_)
  ·rw[if_pos (decide_eq_true hz)]at hfm
   walk_at "go"
   refine⟨ys,hy,by rw[sizeLine_eq];have:=prl.1;omega,vP.length-(i+1),by omega,rfl,by omega,_,zAC,by rw[List.length_append,List.length_singleton];omega,fun x o z=>by rw[zAG (zAE z hD)];exact s6 x o z,?_⟩
   rw[hfm]
   exact(h1.lst hy).more (by rw[zAG (zBr gT6 hy (fun z=>by cases z))];exact gT6)
  ·rw[if_neg (by simpa using hz)]at hfm
   exact⟨vP.length-(i+1),by omega,rfl,by omega,ys,hy,by omega,s6,by rw[hfm];exact h1⟩
 rintro j c σ H2 T2 hcj hT2 ⟨du,ds,o4,o5,o6,o7,o8,o9,o10,o11,o12,o13,o14,rfl,s2,gdu,sll,hdl,hdun⟩
 refine nbk (P:=fun b=>(_:TG) _ _ _ fun σ2 H2=>(_:TS) ⟨_,_,b,_⟩ σ2 H2) fun bk=>?_
 try dsimp only
 have hj:j<a.length:=(List.getElem?_eq_some_iff.mp hcj).1
 have ecj:a.getD j 0=c:=by rw[List.getD_eq_getElem?_getD,hcj];rfl
 have t3:=zAF hT2 (.tup [.int (j:Int),tx [c]])
 have g3:(upd H2 T2 (.tup [.int (j:Int),tx [c]])) T2=_:=zAC
 have gdu3:=t3 _ _ gdu
 have sll3:=sll.same t3
 have s3:=s2.trans t3
 generalize upd H2 T2 _=H3 at*
 walk_at "go"
 refine⟨T2,_,rfl,SqT.of g3,rfl,?_⟩
 walk_at "go"
 intro cd hcd
 have t4:=zAF hcd (.dK [])
 have g4:(upd H3 cd (.dK [])) cd=some (.dK (enC [])):=zAC
 have hHcd:H cd=none:=s3.free hcd
 generalize upd H3 cd _=H4 at*
 clear sll gdu t1 t3 g3 s2
 have ncd:∀ {x:Addr} {o:HO},H3 x=some o->x≠cd:=fun h=>zAE h hcd
 have hcol:(colm kk.toNat a j).length=(ress kk.toNat a).length:=by unfold colm;rw[List.length_map]
 have hbr:∀n,∀c∈(colm kk.toNat a j).take n,c∈brs:=fun n c hcm=>by
  have hcm:=List.mem_of_mem_take hcm
  unfold colm at hcm
  obtain⟨l,hl',rfl⟩:=List.mem_map.mp hcm
  obtain⟨w1,w2,_⟩:=mem_ress.mp hl'
  have:=zDN l [] [] w1 _ (zBY (show j<l.length by omega))
  exact List.mem_of_getElem? (zB2 (show l.getD j 0<8 by omega))
 walk_at "go"
 refine⟨D,rfl,⟨_,SqL.of (t4 _ _ (s3 _ _ hfl.1))⟩,?_⟩
 refine zEQ (xs:=fs) (fun n σ H'=>∃ (M:List (Nat×Int)) (o7 o8:Option V),σ=[some (.int kk),some (tx a),some (.ref D),some (.ref du),some (.int (j:Int)),some (tx [c]),some (.ref cd),o7,o8,o9,o10,o11,o12,o13,o14]/\Same H3 H'/\H' cd=some (.dK (enC M))/\CM M ((colm kk.toNat a j).take n)) ⟨[],_,_,rfl,t4,g4,by rw[List.take_zero];exact CM.nil⟩ (fun n σ H' _ ⟨_,_,_,_,sH,_,_⟩=>SqL.of (sH _ _ (s3 _ _ hfl.1))) ?_ ?_
 rotate_left
 ·rintro σ H5 ⟨M,o7,o8,rfl,s5,gcd5,cm⟩
  rw[hfl.2.1,<-hcol,List.take_length]at cm
  have hM8:M.length<=8:=cm.len fun c hcm=>hbr (colm kk.toNat a j).length c (by rw[List.take_length];exact hcm)
  have hperm:=zF7 hk4 hj cm
  have hK8:(KB kk.toNat a j).length<=8:=by rw[<-hperm.length_eq];exact hM8
  have hitem:∀x∈M,x.1<128/\x.2.natAbs<10^60:=fun x hx=>by
   obtain⟨h1,h2⟩:=(cm.mem x.1 x.2).mp hx
   constructor
   ·have hb:=hbr (colm kk.toNat a j).length x.1 (by rw[List.take_length];exact h2)
    revert hb
    generalize x.1=z
    unfold brs
    simp
    omega
   ·have:=List.count_le_length (a:=x.1) (l:=colm kk.toNat a j)
    have e:x.2.natAbs=List.count x.1 (colm kk.toNat a j):=by rw[h1];rfl
    rw[e]
    exact Nat.lt_of_le_of_lt (Nat.le_trans this (by rw[hcol];exact hrl)) (by decide)
  have hfm:(List.range (j+1)).filterMap (surS1 kk.toNat a)=(List.range j).filterMap (surS1 kk.toNat a)++(surS1 kk.toNat a j).toList:=zEm kk.toNat a j
  have tail:∀ (DD:Ends) (G:Hp) (du':Addr) (ds':List V),(∀σ' H',(∃ (du:Addr) (ds:List V) (o4 o5 o6 o7 o8 o9 o10 o11 o12 o13 o14:Option V),σ'=[some (.int kk),some (tx a),some (.ref D),some (.ref du),o4,o5,o6,o7,o8,o9,o10,o11,o12,o13,o14]/\Same H H'/\H' du=some (.lst ds)/\Sll H' ds ((List.range (j+1)).filterMap (surS1 kk.toNat a))/\ds.length<=j+1/\H du=none)->DD.nx σ' H')->Same H3 G->Rd G cd (.dK (enC M))->G du'=some (.lst ds')->Sll G ds' ((List.range (j+1)).filterMap (surS1 kk.toNat a))->ds'.length<=j+1->H du'=none->
   tFor (iRng1 (tCons (tC (V.int 2)) tNil)) (gName 9)
    (tSeq
      (tAsg (tCall spTold28 [] E0 (tCons (tC (V.int 0)) (tCons (tVar 0) (tCons (tVar 1) (tCons (tVar 4) tNil))))) (gTup K 2 (gCons (gName 10) (gCons (gName 11) gNil))))
      (tSeq
        (tIfS (tOr (tTest (tOp (rNeA K) (tVar 10) (tC (tx [])))) (tNot (tTru K (tCB (rIsi K) (tCons (tVar 11) (tCons (tC (V.ty "dict")) tNil)))))) (tRet (tC (V.bl false))) tNext)
        (tSeq (tIfS (tTest (tOp (rNeA K) (tRI (tVar 11)) (tRI (tVar 6)))) (tRet (tC (V.bl false))) tNext)
          (sDPut (tVar 11) (tC (tx [110,111])) (tC (V.int 1)))))) DD [some (.int kk),some (tx a),some (.ref D),some (.ref du'),some (.int (j:Int)),some (tx [c]),some (.ref cd),o7,o8,o9,o10,o11,o12,o13,o14] G:=by
   intro DD G du' ds' hDD sG hRd gdu' sll' hdl' hdun'
   walk_at "go"
   refine⟨_,rfl,by omega,by omega,?_⟩
   refine zBy (fun n σ H'=>∃ (o9 o10 o11:Option V),σ=[some (.int kk),some (tx a),some (.ref D),some (.ref du'),some (.int (j:Int)),some (tx [c]),some (.ref cd),o7,o8,o9,o10,o11,o12,o13,o14]/\Same G H') ⟨_,_,_,rfl,Same.refl _⟩ ?_ ?_
   rotate_left
   ·rintro σ H6 ⟨o9,o10,o11,rfl,s6⟩
    exact hDD _ _ ⟨du',ds',_,_,_,_,_,_,_,_,_,_,_,rfl,s3.trans (sG.trans s6),s6 _ _ gdu',sll'.same s6,hdl',hdun'⟩
   rintro t σ H6 ht ⟨o9,o10,o11,rfl,s6⟩
   refine nbk (P:=fun b=>(_:TG) _ _ _ fun σ2 H2=>(_:TS) ⟨_,_,b,_⟩ σ2 H2) fun bk=>?_
   try dsimp only
   walk_at "go"
   refine⟨0,kk,a,(j:Int),rfl,k1,k4,hro,by omega,by omega,fun _=>⟨by omega,by omega⟩,fun z=>absurd z hc,fun _ T F0 H7 s7 hF0 gT hw0 _ _=>?_⟩
   have gF:=hw0 rfl
   rw[Int.toNat_natCast,zFn]at gF
   walk_at "go"
   refine⟨T,_,rfl,SqT.of gT,rfl,?_⟩
   walk_at "go"
   refine ifq rfl ?_
   walk_at "go"
   refine zCo (TyOf.dK gF) rfl ?_
   walk_at "go"
   refine ifq rfl ?_
   walk_at "go"
   refine⟨F0,KB kk.toNat a j,rfl, .inl gF,zNl hk4 a j,by omega,fun M1 p1=>zNJ (by rw[p1.length_eq];exact hK8) (fun x hx=>hitem x (hperm.mem_iff.mpr (p1.mem_iff.mp hx))),fun M1 p1 a1=>?_⟩
   walk_at "go"
   have hRd7:Rd H7 cd (.dK (enC M)):=by
    rcases hRd with z|⟨o,z⟩
    ·exact .inl (s7 _ _ (s6 _ _ z))
    ·exact .inr ⟨o,s7 _ _ (s6 _ _ z)⟩
   refine⟨cd,M,rfl,hRd7,cm.nd,by omega,fun M2 p2=>zNJ (by rw[p2.length_eq];exact hM8) (fun x hx=>hitem x (p2.mem_iff.mp hx)),fun M2 p2 a2=>?_⟩
   have e12:M1=M2:=BrTs.asc_perm a1 a2 (p1.trans (hperm.symm.trans p2.symm))
   rw[e12]
   refine zKD ?_
   walk_at "go"
   refine ifq rfl ?_
   walk_at "go"
   refine⟨F0,_,rfl,DPut.k (k:=Sum.inr ⟨#[110,111]⟩) gF (by unfold enC;rw[List.length_map,sizeLine_eq];omega),?_⟩
   exact⟨_,_,_,rfl,fun x o z=>by rw[zAG (zAE (s6 _ _ z) hF0)];exact s7 _ _ (s6 _ _ z)⟩
  walk_at "go"
  have gduG:=s5 _ _ gdu3
  have sllG:=sll3.same s5
  have nochg:surS1 kk.toNat a j=none->Sll H5 ds ((List.range (j+1)).filterMap (surS1 kk.toNat a)):=fun z=>by
   rw[hfm,z]
   simpa using sllG
  by_cases h6:c=63
  rotate_left
  ·have hno:=nochg (zKZ hk4 hj hc cm fun z=>h6 (ecj▸z.1))
   refine ifq (by simpa using h6) ?_
   refine ifq rfl ?_
   walk_at "go"
   exact tail _ H5 du ds (fun σ' H' z=>z) s5 (.inl gcd5) gduG hno (by omega) hdun
  refine ifp (by rw[h6];rfl) ?_
  walk_at "go"
  refine⟨cd,_,rfl, .inl gcd5,?_⟩
  walk_at "go"
  have hel:(enC M).length=M.length:=by unfold enC;rw[List.length_map]
  refine ifd (fun h1=>?_) (fun h1=>?_)
  rotate_left
  ·have hno:=nochg (zKZ hk4 hj hc cm fun z=>h1 (by rw[hel,z.2];rfl))
   walk_at "go"
   exact tail _ H5 du ds (fun σ' H' z=>z) s5 (.inl gcd5) gduG hno (by omega) hdun
  have h1':M.length=1:=by rw[hel]at h1;omega
  obtain⟨b,nb,eM,esur⟩:=zL0 hk4 hj hc cm (by rw[ecj];exact h6) h1'
  walk_at "go"
  refine⟨cd,enC M,rfl,gcd5,fun o=>?_⟩
  have gfz:(upd H5 cd (.frz o (.dK (enC M)))) cd=some (.frz o (.dK (enC M))):=zAC
  have s6:Same H3 (upd H5 cd (.frz o (.dK (enC M)))):=fun x u z=>by rw[zAG (ncd z)];exact s5 x u z
  generalize upd H5 cd _=H6 at*
  have sll6:=sll3.same s6
  have gdu6:=s6 _ _ gdu3
  refine zCI (n:=1) (fun Dn i ys H'=>Same H6 H'/\Sll H' ys (if i=0 then []else [(j,b)])) (fun Dn hDn=>⟨zAF hDn _,rfl,fun m x h=>by simp at h⟩) (fun Dn i ys H' hDn hi hy p=>⟨p.1 _ _ gfz,by rw[hel,h1'];exact hi⟩) (fun Dn ys H' hDn hy hyl p=>⟨⟨p.1 _ _ gfz,by rw[hel,h1']⟩,?_⟩) ?_
  ·obtain⟨s7,sl7⟩:=p
   refine zEw (s7 _ _ gdu6) hy (by rw[sizeLine_eq];omega) (fun p2 hp2=>?_)
   have t8:=zAF hp2 (.lst (ds++ys))
   have g8:(upd H' p2 (.lst (ds++ys))) p2=some (.lst (ds++ys)):=zAC
   have s8:=s7.trans t8
   have sl8:Sll (upd H' p2 (.lst (ds++ys))) (ds++ys) ((List.range j).filterMap (surS1 kk.toNat a)++[(j,b)]):=(sll6.same s8).app (sl7.same t8)
   generalize upd H' p2 _=H8 at*
   walk_at "go"
   refine tail _ H8 p2 (ds++ys) (fun σ' H' z=>z) (s6.trans s8) (.inr ⟨o,s8 _ _ gfz⟩) g8 ?_ (by rw[List.length_append];omega) (s3.free (s6.free (s7.free hp2)))
   rw[hfm,esur]
   exact sl8
  rintro Dn i ys G x G3 hDn hi hy hyl ⟨sG,hsl⟩ ⟨rfl,key,v,hkv,rfl⟩
  have hi0:i=0:=by omega
  subst hi0
  rw[eM]at hkv
  cases hkv
  show gName _ (tx [brs.getD b 0]) _ _ _
  walk_at "go"
  refine ifp rfl ?_
  walk_at "go"
  refine⟨small (show 2<=1000 by decide),fun T hT=>?_⟩
  have t9:=zAF hT (.tup [.int (j:Int),tx [brs.getD b 0]])
  have g9:(upd G3 T (.tup [.int (j:Int),tx [brs.getD b 0]])) T=_:=zAC
  have hy9:=t9 _ _ hy
  have sl9:=hsl.same t9
  have s9:=sG.trans t9
  generalize upd G3 T _=G9 at*
  refine⟨ys,hy9,by rw[sizeLine_eq];omega,0,by omega,by omega,by omega,ys++[.ref T],zAC,by rw[List.length_append,List.length_singleton];omega,fun x u z=>by rw[zAG (zAE z hDn)];exact s9 x u z,?_⟩
  have:=(sl9.lst hy9 (o:= .lst (ys++[.ref T]))).more (T:=T) (s:=j) (e:=b) (by rw[zAG (zBr g9 hy9 (fun z=>by cases z))];exact g9)
  rw[if_pos rfl]at this
  rw[if_neg (by omega)]
  exact this
 rintro n x σ H5 hx ⟨M,o7,o8,rfl,s5,gcd5,cm⟩
 refine nbk (P:=fun b=>(_:TG) _ _ _ fun σ2 H2=>(_:TS) ⟨_,_,b,_⟩ σ2 H2) fun bk=>?_
 try dsimp only
 have hn:n<(ress kk.toNat a).length:=by rw[<-hfl.2.1];exact(List.getElem?_eq_some_iff.mp hx).1
 obtain⟨l,hln⟩:∃l,(ress kk.toNat a)[n]? =some l:=⟨_,List.getElem?_eq_getElem hn⟩
 obtain⟨pl,ep,gp⟩:=hfl.2.2 n l hln
 rw[hx]at ep
 cases ep
 obtain⟨w1,w2,w3⟩:=mem_ress.mp (List.mem_of_getElem? hln)
 have hb2:=zDN l [] [] w1 _ (zBY (show j<l.length by omega))
 have gl:(nL l)[j]? =some (.int ((l.getD j 0:Nat):Int)):=by
  unfold nL
  rw[List.getElem?_map,List.getElem?_eq_getElem (by omega),List.getD_eq_getElem?_getD,List.getElem?_eq_getElem (by omega)];rfl
 walk_at "go"
 refine zAf (SqL.of (s5 _ _ (s3 _ _ gp))) (zAN gl) ?_
 refine zEu (small (by decide)) (zAN (zB2 (show l.getD j 0<8 by omega))) ?_
 walk_at "go"
 refine⟨cd,rfl, .inl ⟨_, .inl gcd5⟩,?_⟩
 walk_at "go"
 refine⟨_, .inl ⟨enC M,Sum.inr ⟨#[brs.getD (l.getD j 0) 0]⟩, .inl gcd5,rfl,rfl⟩,?_⟩
 rw[zJv]
 walk_at "go"
 refine⟨cd,_,rfl,DPut.k (k:=Sum.inr ⟨#[brs.getD (l.getD j 0) 0]⟩) gcd5 (by unfold enC;rw[List.length_map,sizeLine_eq];have:=cm.len (hbr n);omega),?_⟩
 refine⟨cad M (brs.getD (l.getD j 0) 0),_,_,rfl,fun x o z=>by rw[zAG (ncd z)];exact s5 x o z,?_,?_⟩
 ·rw[zAC,zLy cm.nd]
 ·have:(colm kk.toNat a j)[n]? =some (brs.getD (l.getD j 0) 0):=by unfold colm;rw[List.getElem?_map,hln];rfl
  rw[List.take_add_one,this]
  exact cm.next _
theorem sc_law:FnScope ["script","k","pool","kinds","row","fillings","told"] ["script"] (defScope zFE):=⟨rfl,rfl,rfl,by decide +kernel,rfl,by decide +kernel,by decide +kernel⟩
theorem zM9(F:Fun K "law" "law" zFE f fd)(T:Txt K mg aK cs)(U_law_pool:FnU P w K mg base k "_law_pool" ["script","k"] (spPoolD K))(U_law_row:FnU P w K mg base k "_law_row" ["pool","kinds","many"] (spRowD))(U_law_fillings:FnU P w K mg base k "_law_fillings" ["kinds","row"] (spFillings31))(U_law_draw:FnU P w K mg base k "_law_draw" ["pool","many"] (spDraw))(U_law_sure_right:FnU P w K mg base k "_law_sure_right" ["kinds","row","fillings"] (spSure28))(U_law_told:FnU P w K mg base k "_law_told" ["way","kinds","row","i"] (spTold28)):FnOk P w K mg base CX0 (k+1) f fd ["script"] (spLaw K):=by
 refine F.ok sc_law (fun vs H Q E h=>?_) (fun cdv A outer s H vs Q E hr h=>?_)
 ·obtain⟨a,ns,rfl,_⟩:=h;rfl
 obtain⟨sa,ns,rfl,hS,h63,q⟩:=h
 have hu:=hr.units0
 refine⟨_,(zAD (zA1 PassesOwn.never rfl (zAx rfl T.n_range (zAA (zAM (zIx rfl) rfl T.n_max PyProof.Rows.boot_max (zAA zAH (zAA (zAM (zIv rfl) rfl T.n_min PyProof.Rows.boot_min (zAA zAH (zAA (zAM (zAU K) rfl T.n_len PySem.boot_len (zAA (pv 0) zAB)) zAB))) zAB))) zAB)) (zAK (i:=1) sc_law.nd rfl (Or.inl rfl)) (zAD (zAO (i:=2) sc_law.nd rfl (Or.inl rfl) (zAb U_law_pool hr (zAA (pv 0) (zAA (pv 1) zAB)))) (zAD (zAO (i:=3) sc_law.nd rfl (Or.inr rfl) (zAQ zAR zAH (zAb U_law_draw hr (zAA (pv 2) (zAA zAH zAB))))) (zAD (zAO (i:=4) sc_law.nd rfl (Or.inr rfl) (zAb U_law_row hr (zAA (pv 2) (zAA (pv 3) (zAA (zAb U_law_draw hr (zAA (pv 2) (zAA zAH zAB))) zAB))))) (zAD (zAO (i:=5) sc_law.nd rfl (Or.inl rfl) (zAb U_law_fillings hr (zAA (pv 3) (zAA (pv 4) zAB)))) (zAD (zA6 (PW.pt (zCi (zAP (zM3 K hu) (pv 5) (zAe zAB) (nomark _)) (zCB (zBN (zBd K (zAb U_law_sure_right hr (zAA (pv 3) (zAA (pv 4) (zAA (pv 5) zAB))))))))) (zAI (zAX zEE)) zAZ) (zAI (zA6 (zAP (zM7 K hu) (pv 5) (zAe zAB) (nomark _)) (zAD (zB4 (i:=6) sc_law.nd rfl (Or.inl rfl) (own:=["i"]) (sel:=[3,4]) (zAY (osc:=(defScope zFE)) (N:=["script","k","pool","kinds","row","fillings","told"]) (by decide +kernel)) rfl (zAx rfl T.n_range (zAA (zAM (zAU K) rfl T.n_len PySem.boot_len (zAA (pv 4) zAB)) zAB)) (fun _ _ _ _ _=>(zAK (i:=0) (show(["i","kinds","row"]:List Str).Nodup from by decide +kernel) rfl (Or.inl rfl))) (zAW (by decide)) (fun _ _ _ _ _=>zBX) (fun _ _ _ _ _=>(zAb U_law_told hr (zAA zAH (zAA (pv 1) (zAA (pv 2) (zAA (pv 0) zAB))))))) (zAD (zAO (i:=6) sc_law.nd rfl (Or.inl rfl) (zAQ zAR (pv 6) (zAe (zAA (zAb U_law_told hr (zAA zAH (zAA (pv 3) (zAA (pv 4) (zAA zAH zAB))))) (zAA (zAb U_law_told hr (zAA zAH (zAA (pv 3) (zAA (pv 4) (zAA zAH zAB))))) zAB))))) (zAI (zA6 (zAP (zDF K hu) (zBJ (own:=["word","found"]) (sel:=[]) (zAY (osc:=(defScope zFE)) (N:=["script","k","pool","kinds","row","fillings","told"]) (by decide +kernel)) rfl (zBE K (pv 6)) (fun _ _ _ _ _=>(zAp (n:=2) K rfl (zAL (zAK (i:=0) (show(["word","found"]:List Str).Nodup from by decide +kernel) rfl (Or.inl rfl)) (zAL (zAK (i:=1) (show(["word","found"]:List Str).Nodup from by decide +kernel) rfl (Or.inl rfl)) zAo)))) (zCk (zAv zAV (zBK zAV zBC) (zAW (by decide)) (zAv zAV zBC (zAW (by decide)) zCl))) (fun _ _ _ _ _=>zBk (zAP (zDF K hu) (pv 0) (zBH (l:=[110,111,32,102,105,108,108,105,110,103]) (by decide +kernel)) (nomark _))) (fun _ _ _ _ _=>(pv 0))) (zAe zAB) (nomark _)) (zAI (zAX zEE)) zAZ)))) zAZ)))))))) (zAI (zAX zEE))),?_⟩
 walk_at "go"
 refine zBS (.inl hS) ?_
 walk_at "go"
 refine⟨_,rfl,by split<;>(try split)<;>omega,by rw[List.length_map];split<;>(try split)<;>omega,?_⟩
 refine zBy (fun i σ H'=>∃ (o1 o2 o3 o4 o5 o6:Option V),σ=[some (.ref sa),o1,o2,o3,o4,o5,o6]/\Same H H') ⟨_,_,_,_,_,_,rfl,Same.refl H⟩ ?_ ?_
 rotate_left
 ·rintro σ H1 ⟨o1,o2,o3,o4,o5,o6,rfl,s1⟩
  walk_at "go"
  exact q _
 rintro i σ H1 hi ⟨o1,o2,o3,o4,o5,o6,rfl,s1⟩
 have hi10:i<5:=by
  rw[List.length_map]at hi
  revert hi;split<;>(try split)<;>omega
 have ei:(0:Int)+(i:Int)=(i:Int):=by omega
 rw[ei]
 walk_at "go"
 refine zHr (s1.seq hS) (by omega) (by omega) (fun p H2 hp2 s2 d2=>?_)
 have hHp:H p=none:=s1.free hp2
 have s12:=s1.trans s2
 walk_at "go"
 refine zA5 d2 (by decide) (by decide) (fun r3 H3 r30 r31 d3 s3=>?_)
 have u3:Same H H3:=Same.but s12 s3 hHp
 walk_at "go"
 obtain⟨kk,ekk⟩:∃kk:Int,kk=1+r3:=⟨_,rfl⟩
 have k1:1<=kk:=by omega
 have k4:kk<=4:=by omega
 rw[<-ekk]
 clear ekk
 have hk4:kk.toNat<=4:=by omega
 refine zA5 d3 (by decide) (by decide) (fun r5 H5 r50 r51 d5 s5=>?_)
 have u5:Same H H5:=Same.but u3 s5 hHp
 walk_at "go"
 refine zJL d5 k1 k4 r50 (by omega) (fun a H6 hal hasg d6 s6=>?_)
 have u6:Same H H6:=Same.but u5 s6 hHp
 have hal:a.length<=9:=by omega
 have hro:isRow kk a=true:=zJk (by omega) hasg
 clear d2 d3 d5 d6 s2 s3 s5 s6 u3 u5
 walk_at "go"
 refine⟨kk,a,rfl,k1,k4,hal,fun D vs H8 s8 gD hvl hvs=>?_⟩
 have u8:=u6.trans s8
 walk_at "go"
 refine⟨small (show 0<=1000 by decide),fun l1 hl1=>?_⟩
 have t1:=zAF hl1 (.lst [])
 have hvn:vs=[]↔ress kk.toNat a=[]:=by rw[<-List.length_eq_zero_iff,hvl,List.length_eq_zero_iff]
 refine⟨D,l1,vs,rfl,rfl,SqL.of (t1 _ _ gD),SqL.of zAC,?_⟩
 have u9:=u8.trans t1
 have gD9:=t1 _ _ gD
 have hvs9:∀ (i:Nat) (l:List Nat),(ress kk.toNat a)[i]? =some l->∃p:Addr,vs[i]? =some (V.ref p)/\(upd H8 l1 (.lst [])) p=some (.lst (nL l)):=fun i l h=>let⟨p,x,y⟩:=hvs i l h;⟨p,x,t1 _ _ y⟩
 generalize upd H8 l1 _=H9 at*
 walk_at "go"
 by_cases hz:ress kk.toNat a=[]
 ·have hc:cnt kk.toNat a=0:=(zGM hk4).mp hz
  have hv:vs=[]:=hvn.mpr hz
  refine ifq (by rw[hv];rfl) ?_
  refine ifq rfl ?_
  walk_at "go"
  refine⟨small (show 0<=1000 by decide),fun l2 hl2=>?_⟩
  have t2:=zAF hl2 (.lst [])
  refine⟨D,l2,vs,rfl,rfl,SqL.of (t2 _ _ gD9),SqL.of zAC,?_⟩
  have u10:=u9.trans t2
  generalize upd H9 l2 _=H10 at*
  walk_at "go"
  refine ifp (by rw[hv];rfl) ?_
  walk_at "go"
  refine⟨_,rfl,by omega,by omega,?_⟩
  rw[Int.toNat_natCast]
  refine zCI (n:=a.length) (fun Dn n ys H'=>Same H10 H'/\∀v∈ys,∃T:Addr,v= .ref T/\H' T=some (.tup [tx noFl, .non])) (fun Dn hD=>⟨zAF hD _,fun v z=>nomatch z⟩) (fun Dn n ys H' hD hn hy _=>hn) (fun Dn ys H' hD hy hyl pv=>⟨Nat.le_refl _,?_⟩) ?_
  rotate_left
  ·rintro Dn n ys G x G3 hD hn hy hyl ⟨sG,hall⟩ ⟨rfl,rfl⟩
   walk_at "go"
   refine ifp rfl ?_
   walk_at "go"
   refine⟨0,kk,a,0+(n:Int),rfl,k1,k4,hro,by omega,by omega,fun _=>⟨by omega,by omega⟩,fun _ T G4 s4 gT=>?_,fun z=>absurd hc z⟩
   refine⟨ys,s4 _ _ hy,by rw[sizeLine_eq];omega,a.length-(n+1),by omega,rfl,by omega,ys++[.ref T],zAC,by rw[List.length_append,List.length_singleton];omega,fun x o z=>by rw[zAG (zAE z hD)];exact s4 _ _ (sG _ _ z),fun v hvm=>?_⟩
   have tupk:∀ {X:Addr},G4 X=some (.tup [tx noFl, .non])->(upd G4 Dn (.lst (ys++[.ref T]))) X=some (.tup [tx noFl, .non]):=fun{X} h=>by
    rw[zAG (zBr h (s4 _ _ hy) (fun z=>by cases z))];exact h
   rcases List.mem_append.mp hvm with z|z
   ·obtain⟨X,e,g⟩:=hall v z
    exact⟨X,e,tupk (s4 _ _ g)⟩
   ·exact⟨T,List.mem_singleton.mp z,tupk gT⟩
  obtain⟨s11,hall⟩:=pv
  walk_at "go"
  refine⟨1,kk,a,0,rfl,k1,k4,hro,by omega,by omega,fun z=>by omega,fun _ T1 H12 s12 gT1=>?_,fun z=>absurd hc z⟩
  walk_at "go"
  refine⟨2,kk,a,0,rfl,k1,k4,hro,by omega,by omega,fun z=>by omega,fun _ T2 H13 s13 gT2=>?_,fun z=>absurd hc z⟩
  walk_at "go"
  refine⟨small (show 2<=1000 by decide),fun l3 hl3=>?_⟩
  have t14:=zAF hl3 (.lst [.ref T1, .ref T2])
  have g14:(upd H13 l3 (.lst [.ref T1, .ref T2])) l3=_:=zAC
  have gT114:=t14 _ _ (s13 _ _ gT1)
  have gT214:=t14 _ _ gT2
  have s1014:=s11.trans (s12.trans (s13.trans t14))
  have hall14:∀v∈ys,∃T:Addr,v= .ref T/\(upd H13 l3 (.lst [.ref T1, .ref T2])) T=some (.tup [tx noFl, .non]):=fun v hvm=>let⟨T,e,g⟩:=hall v hvm;⟨T,e,t14 _ _ (s13 _ _ (s12 _ _ g))⟩
  have hy14:=t14 _ _ (s13 _ _ (s12 _ _ hy))
  generalize upd H13 l3 _=H14 at*
  refine zEw hy14 g14 (by rw[sizeLine_eq];simp;omega) (fun p3 hp3=>?_)
  have t15:=zAF hp3 (.lst (ys++[.ref T1, .ref T2]))
  have g15:(upd H14 p3 (.lst (ys++[.ref T1, .ref T2]))) p3=_:=zAC
  have s1015:=s1014.trans t15
  have hall15:∀v∈ys++[.ref T1, .ref T2],∃T:Addr,v= .ref T/\(upd H14 p3 (.lst (ys++[.ref T1, .ref T2]))) T=some (.tup [tx noFl, .non]):=fun v hvm=>by
   rcases List.mem_append.mp hvm with z|z
   ·obtain⟨T,e,g⟩:=hall14 v z
    exact⟨T,e,t15 _ _ g⟩
   ·rcases List.mem_cons.mp z with z|z
    ·exact⟨T1,z,t15 _ _ gT114⟩
    ·exact⟨T2,List.mem_singleton.mp z,t15 _ _ gT214⟩
  generalize upd H14 p3 _=H15 at*
  walk_at "go"
  refine⟨p3,rfl,⟨_,SqL.of g15⟩,?_⟩
  refine zIq g15 (fun D2 H16 hD2 s16 gD2=>?_) (fun D2 m x H16 R hD2 hx s16 hR16=>?_)
  rotate_left
  ·obtain⟨T,rfl,gT⟩:=hall15 x (List.mem_of_getElem? hx)
   walk_at "go"
   refine⟨T,_,rfl,SqT.of (s16 _ _ gT),rfl,?_⟩
   walk_at "go"
   rw[show(!decide (noFl=[110,111,32,102,105,108,108,105,110,103]))=false by simp]
   exact hR16 _ _ (Same.refl _)
  walk_at "go"
  refine⟨small (show 0<=1000 by decide),fun l4 hl4=>?_⟩
  have t17:=zAF hl4 (.lst [])
  refine zK1 (SqL.of (t17 _ _ gD2)) (SqL.of zAC) rfl rfl ?_
  have s1017:=s1015.trans (s16.trans t17)
  generalize upd H16 l4 _=H17 at*
  walk_at "go"
  refine ifq rfl ?_
  walk_at "go"
  exact⟨_,_,_,_,_,_,rfl,u10.trans s1017⟩
 ·have hv:vs≠[]:=fun z=>hz (hvn.mp z)
  refine ifp (by simpa using hv) ?_
  walk_at "go"
  refine⟨kk,a,D,vs,rfl,k1,k4,hro,hal,⟨gD9,hvl,hvs9⟩,hz,fun H10 s10=>?_⟩
  walk_at "go"
  refine ifq rfl ?_
  walk_at "go"
  refine⟨small (show 0<=1000 by decide),fun l2 hl2=>?_⟩
  have t2:=zAF hl2 (.lst [])
  refine⟨D,l2,vs,rfl,rfl,SqL.of (t2 _ _ (s10 _ _ gD9)),SqL.of zAC,?_⟩
  have u10:=(u9.trans s10).trans t2
  generalize upd H10 l2 _=H11 at*
  walk_at "go"
  refine ifq (by simpa using hv) ?_
  walk_at "go"
  exact⟨_,_,_,_,_,_,rfl,u10⟩
end
theorem len1{P:List Value->Prop}(h:∀a,P [a]):∀us,us.length=1->P us|[_],_=>h _
theorem len2{P:List Value->Prop}(h:∀a b,P [a,b]):∀us,us.length=2->P us|[_,_],_=>h _ _
theorem len3{P:List Value->Prop}(h:∀a b c,P [a,b,c]):∀us,us.length=3->P us|[_,_,_],_=>h _ _ _
theorem len4{P:List Value->Prop}(h:∀a b c d,P [a,b,c,d]):∀us,us.length=4->P us|[_,_,_,_],_=>h _ _ _ _
def FnAt(K:PySem.W.Frag)(x:Str)(st:Stmt):Prop:=∃f fd,PySem.W.nsIn K mainGlobals x=some (some (.ref f))/\Fun K x x st f fd
theorem FnAt.mk{K:PySem.W.Frag}{x:Str}{st:Stmt}{f:Addr}{oc:Value}{od an:Option Addr}{osl:Array (Option Value)}{kV doc pm cdv ct:Value}(a:PySem.W.nsIn K mainGlobals x=some (some (.ref f)))(l:K.lookup f=some ⟨oc,od, .func (PySem.W.fnOf x x (defArgs st) (defBody st) (defScope st) .none kV doc pm an cdv ct),osl⟩)(c:PySem.W.codeIn K cdv x=true)(k:PySem.W.keepIn K (.ref f)=true):FnAt K x st:=⟨f,_,a,zNO l c k⟩
theorem FnAt.at{K:PySem.W.Frag}{h:Heap}{mg:Str->Option Value}{x:Str}{st:Stmt}{ps:List Str}(p:FnAt K x st)(X:K.In h)(G:h.Ns mainGlobals mg)(hb:∀ (kV doc pm:Value) (an:Option Addr) (cdv ct:Value) (us:List Value),us.length=ps.length->bindArgs (PySem.W.fnOf x x (defArgs st) (defBody st) (defScope st) .none kV doc pm an cdv ct) ⟨us,[]⟩=pure (ps.zip us)):∃f fd,DefAt K mg x st ps f fd:=let⟨f,fd,a,F⟩:=p;⟨f,fd,F,PySem.W.mg_of X G a,F.binds hb⟩
theorem all_mk{l:PySem.W.OpenLaw}{w:World}{K:PySem.W.Frag}{h:Heap}{mg:Str->Option Value}{fa:Addr}(X:K.In h)(G:h.Ns mainGlobals mg)(hfa:mg "law"=some (.ref fa)){x_RowError:Addr}{x_NoKinds:Addr}{x_NoLine:Addr}{x_NoPlace:Addr}{x_NoFilling:Addr}{x_OPENING:Str}{t_OPENING:Tok}{x_CLOSING:Str}{t_CLOSING:Tok}{aK:Addr}{oK:Obj}{itK:Array Value}{nK:Nat}{x_BRACKETS:Str}{t_BRACKETS:Tok}{x_UNKNOWN:Str}{t_UNKNOWN:Tok}{x_MOST_SIGNS:Int}{t_MOST_SIGNS:Tok}
 (p0:FnAt K "is_whole" zCh)
 (p1:FnAt K "check_kinds" zBo)
 (p2:FnAt K "is_line" zBz)
 (p3:FnAt K "check_line" zB0)
 (p4:FnAt K "check_place" zBn)
 (p5:FnAt K "weighed_places" zAs)
 (p6:FnAt K "counted_places" zBL)
 (p7:FnAt K "pair_sum" zB6)
 (p8:FnAt K "no_sums" zCR)
 (p9:FnAt K "span_sums" zCG)
 (p10:FnAt K "whole_sum" zCF)
 (p11:FnAt K "check_filling" zBQ)
 (p12:FnAt K "pairs_with_rest" zBD)
 (p13:FnAt K "bracket_sums" zBG)
 (p14:FnAt K "filled" zEX)
 (p15:FnAt K "brackets_at" zBB)
 (p16:FnAt K "sure_places" zBA)
 (p17:FnAt K "sure_pairs" zBI)
 (p18:FnAt K "_law_pool" zCf)
 (p19:FnAt K "_law_draw" zCg)
 (p20:FnAt K "_law_right" zCH)
 (p21:FnAt K "_law_row" zCS)
 (p22:FnAt K "_law_fillings" zBF)
 (p23:FnAt K "_law_told" zCe)
 (p24:FnAt K "_law_partners" zBa)
 (p25:FnAt K "_law_sure_right" zAt)
 (p26:FnAt K "law" zFE)
 (y_RowError:PySem.W.nsIn K mainGlobals "RowError"=some (some (.ref x_RowError))) (w_RowError:eclsB K x_RowError=true)
 (y_NoKinds:PySem.W.nsIn K mainGlobals "NoKinds"=some (some (.ref x_NoKinds))) (w_NoKinds:eclsB K x_NoKinds=true)
 (y_NoLine:PySem.W.nsIn K mainGlobals "NoLine"=some (some (.ref x_NoLine))) (w_NoLine:eclsB K x_NoLine=true)
 (y_NoPlace:PySem.W.nsIn K mainGlobals "NoPlace"=some (some (.ref x_NoPlace))) (w_NoPlace:eclsB K x_NoPlace=true)
 (y_NoFilling:PySem.W.nsIn K mainGlobals "NoFilling"=some (some (.ref x_NoFilling))) (w_NoFilling:eclsB K x_NoFilling=true)
 (m_NoKinds:PySem.W.mroIn K x_NoKinds (.ref x_RowError)=some true)
 (v_NoKinds:PySem.W.kitOne K (.ref x_NoKinds) (.type "ValueError")=some true)
 (q_NoKinds_RowError:PySem.W.kitOne K (.ref x_NoKinds) (.ref x_RowError)=some true)
 (q_NoKinds_NoKinds:PySem.W.kitOne K (.ref x_NoKinds) (.ref x_NoKinds)=some true)
 (q_NoKinds_NoLine:PySem.W.kitOne K (.ref x_NoKinds) (.ref x_NoLine)=some false)
 (q_NoKinds_NoPlace:PySem.W.kitOne K (.ref x_NoKinds) (.ref x_NoPlace)=some false)
 (q_NoKinds_NoFilling:PySem.W.kitOne K (.ref x_NoKinds) (.ref x_NoFilling)=some false)
 (m_NoLine:PySem.W.mroIn K x_NoLine (.ref x_RowError)=some true)
 (v_NoLine:PySem.W.kitOne K (.ref x_NoLine) (.type "ValueError")=some true)
 (q_NoLine_RowError:PySem.W.kitOne K (.ref x_NoLine) (.ref x_RowError)=some true)
 (q_NoLine_NoKinds:PySem.W.kitOne K (.ref x_NoLine) (.ref x_NoKinds)=some false)
 (q_NoLine_NoLine:PySem.W.kitOne K (.ref x_NoLine) (.ref x_NoLine)=some true)
 (q_NoLine_NoPlace:PySem.W.kitOne K (.ref x_NoLine) (.ref x_NoPlace)=some false)
 (q_NoLine_NoFilling:PySem.W.kitOne K (.ref x_NoLine) (.ref x_NoFilling)=some false)
 (m_NoPlace:PySem.W.mroIn K x_NoPlace (.ref x_RowError)=some true)
 (v_NoPlace:PySem.W.kitOne K (.ref x_NoPlace) (.type "ValueError")=some true)
 (q_NoPlace_RowError:PySem.W.kitOne K (.ref x_NoPlace) (.ref x_RowError)=some true)
 (q_NoPlace_NoKinds:PySem.W.kitOne K (.ref x_NoPlace) (.ref x_NoKinds)=some false)
 (q_NoPlace_NoLine:PySem.W.kitOne K (.ref x_NoPlace) (.ref x_NoLine)=some false)
 (q_NoPlace_NoPlace:PySem.W.kitOne K (.ref x_NoPlace) (.ref x_NoPlace)=some true)
 (q_NoPlace_NoFilling:PySem.W.kitOne K (.ref x_NoPlace) (.ref x_NoFilling)=some false)
 (m_NoFilling:PySem.W.mroIn K x_NoFilling (.ref x_RowError)=some true)
 (v_NoFilling:PySem.W.kitOne K (.ref x_NoFilling) (.type "ValueError")=some true)
 (q_NoFilling_RowError:PySem.W.kitOne K (.ref x_NoFilling) (.ref x_RowError)=some true)
 (q_NoFilling_NoKinds:PySem.W.kitOne K (.ref x_NoFilling) (.ref x_NoKinds)=some false)
 (q_NoFilling_NoLine:PySem.W.kitOne K (.ref x_NoFilling) (.ref x_NoLine)=some false)
 (q_NoFilling_NoPlace:PySem.W.kitOne K (.ref x_NoFilling) (.ref x_NoPlace)=some false)
 (q_NoFilling_NoFilling:PySem.W.kitOne K (.ref x_NoFilling) (.ref x_NoFilling)=some true)
 (z_ValueError:PySem.W.nsIn K mainGlobals "ValueError"=some none)
 (z_all:PySem.W.nsIn K mainGlobals "all"=some none)
 (z_bool:PySem.W.nsIn K mainGlobals "bool"=some none)
 (z_dict:PySem.W.nsIn K mainGlobals "dict"=some none)
 (z_enumerate:PySem.W.nsIn K mainGlobals "enumerate"=some none)
 (z_int:PySem.W.nsIn K mainGlobals "int"=some none)
 (z_isinstance:PySem.W.nsIn K mainGlobals "isinstance"=some none)
 (z_len:PySem.W.nsIn K mainGlobals "len"=some none)
 (z_list:PySem.W.nsIn K mainGlobals "list"=some none)
 (z_max:PySem.W.nsIn K mainGlobals "max"=some none)
 (z_min:PySem.W.nsIn K mainGlobals "min"=some none)
 (z_range:PySem.W.nsIn K mainGlobals "range"=some none)
 (z_repr:PySem.W.nsIn K mainGlobals "repr"=some none)
 (z_sorted:PySem.W.nsIn K mainGlobals "sorted"=some none)
 (z_str:PySem.W.nsIn K mainGlobals "str"=some none)
 (z_sum:PySem.W.nsIn K mainGlobals "sum"=some none)
 (z_zip:PySem.W.nsIn K mainGlobals "zip"=some none)
 (g_OPENING:PySem.W.nsIn K mainGlobals "OPENING"=some (some (.str x_OPENING t_OPENING))) (h_OPENING:x_OPENING=⟨([40,91,123,60]:List Nat).toArray⟩)
 (g_CLOSING:PySem.W.nsIn K mainGlobals "CLOSING"=some (some (.str x_CLOSING t_CLOSING))) (h_CLOSING:x_CLOSING=⟨([41,93,125,62]:List Nat).toArray⟩)
 (g_K:PySem.W.nsIn K mainGlobals "KINDS"=some (some (.ref aK))) (l_K:K.lookup aK=some oK) (c_K:oK.cls= .type "tuple") (s_K:oK.data= .seq itK nK) (r_K:tupIs itK [tx [40,41],tx [91,93],tx [123,125],tx [60,62]]=true)
 (g_BRACKETS:PySem.W.nsIn K mainGlobals "BRACKETS"=some (some (.str x_BRACKETS t_BRACKETS))) (h_BRACKETS:x_BRACKETS=⟨([40,41,91,93,123,125,60,62]:List Nat).toArray⟩)
 (g_UNKNOWN:PySem.W.nsIn K mainGlobals "UNKNOWN"=some (some (.str x_UNKNOWN t_UNKNOWN))) (h_UNKNOWN:x_UNKNOWN=⟨([63]:List Nat).toArray⟩)
 (g_MOST_SIGNS:PySem.W.nsIn K mainGlobals "MOST_SIGNS"=some (some (.int x_MOST_SIGNS t_MOST_SIGNS))) (h_MOST_SIGNS:x_MOST_SIGNS=40):
 ∃fd:FuncData,(∀ (s:Shared) (v:Value),BindsTo s fd ⟨[v],[]⟩ [("script",v)])/\∀base:Heap,K.In base->base.Ns mainGlobals mg->FnOk l.prog w K mg base CX0 8 fa fd ["script"] (spLaw K):=by
 have T:Txt K mg aK ⟨x_RowError,x_NoKinds,x_NoLine,0,0,0,0,x_NoPlace,x_NoFilling,0,0,0⟩:=⟨PySem.W.mg_none_of X G z_ValueError,PySem.W.mg_none_of X G z_all,PySem.W.mg_none_of X G z_bool,PySem.W.mg_none_of X G z_dict,PySem.W.mg_none_of X G z_enumerate,PySem.W.mg_none_of X G z_int,PySem.W.mg_none_of X G z_isinstance,PySem.W.mg_none_of X G z_len,PySem.W.mg_none_of X G z_list,PySem.W.mg_none_of X G z_max,PySem.W.mg_none_of X G z_min,PySem.W.mg_none_of X G z_range,PySem.W.mg_none_of X G z_repr,PySem.W.mg_none_of X G z_sorted,PySem.W.mg_none_of X G z_str,PySem.W.mg_none_of X G z_sum,PySem.W.mg_none_of X G z_zip,⟨_,PySem.W.mg_of X G g_OPENING,by rw[h_OPENING];exact⟨_,rfl⟩⟩,⟨_,PySem.W.mg_of X G g_CLOSING,by rw[h_CLOSING];exact⟨_,rfl⟩⟩,⟨_,PySem.W.mg_of X G g_K,rfl⟩,fun H=> .inr ⟨oK,itK,nK,l_K,c_K,s_K,zGo r_K (by decide),zDi r_K⟩,⟨_,PySem.W.mg_of X G g_BRACKETS,by rw[h_BRACKETS];exact⟨_,rfl⟩⟩,⟨_,PySem.W.mg_of X G g_UNKNOWN,by rw[h_UNKNOWN];exact⟨_,rfl⟩⟩,⟨_,PySem.W.mg_of X G g_MOST_SIGNS,by rw[h_MOST_SIGNS];exact⟨_,rfl⟩⟩,PySem.W.mg_of X G y_RowError,zDR w_RowError,PySem.W.mg_of X G y_NoKinds,zDR w_NoKinds,PySem.W.mg_of X G y_NoLine,zDR w_NoLine,PySem.W.mg_of X G y_NoPlace,zDR w_NoPlace,PySem.W.mg_of X G y_NoFilling,zDR w_NoFilling,m_NoKinds,v_NoKinds,q_NoKinds_RowError,q_NoKinds_NoKinds,q_NoKinds_NoLine,q_NoKinds_NoPlace,q_NoKinds_NoFilling,m_NoLine,v_NoLine,q_NoLine_RowError,q_NoLine_NoKinds,q_NoLine_NoLine,q_NoLine_NoPlace,q_NoLine_NoFilling,m_NoPlace,v_NoPlace,q_NoPlace_RowError,q_NoPlace_NoKinds,q_NoPlace_NoLine,q_NoPlace_NoPlace,q_NoPlace_NoFilling,m_NoFilling,v_NoFilling,q_NoFilling_RowError,q_NoFilling_NoKinds,q_NoFilling_NoLine,q_NoFilling_NoPlace,q_NoFilling_NoFilling⟩
 obtain⟨f0,e0,D0⟩:=p0.at (ps:=["thing"]) X G fun _ _ _ _ _ _=>len1 fun _=>rfl
 obtain⟨f1,e1,D1⟩:=p1.at (ps:=["k"]) X G fun _ _ _ _ _ _=>len1 fun _=>rfl
 obtain⟨f2,e2,D2⟩:=p2.at (ps:=["k","thing"]) X G fun _ _ _ _ _ _=>len2 fun _ _=>rfl
 obtain⟨f3,e3,D3⟩:=p3.at (ps:=["k","row"]) X G fun _ _ _ _ _ _=>len2 fun _ _=>rfl
 obtain⟨f4,e4,D4⟩:=p4.at (ps:=["row","i"]) X G fun _ _ _ _ _ _=>len2 fun _ _=>rfl
 obtain⟨f5,e5,D5⟩:=p5.at (ps:=["row","weights"]) X G fun _ _ _ _ _ _=>len2 fun _ _=>rfl
 obtain⟨f6,e6,D6⟩:=p6.at (ps:=["k","row"]) X G fun _ _ _ _ _ _=>len2 fun _ _=>rfl
 obtain⟨f7,e7,D7⟩:=p7.at (ps:=["first","last"]) X G fun _ _ _ _ _ _=>len2 fun _ _=>rfl
 obtain⟨f8,e8,D8⟩:=p8.at (ps:=["many"]) X G fun _ _ _ _ _ _=>len1 fun _=>rfl
 obtain⟨f9,e9,D9⟩:=p9.at (ps:=["places"]) X G fun _ _ _ _ _ _=>len1 fun _=>rfl
 obtain⟨f10,e10,D10⟩:=p10.at (ps:=["sums"]) X G fun _ _ _ _ _ _=>len1 fun _=>rfl
 obtain⟨f11,e11,D11⟩:=p11.at (ps:=["sums"]) X G fun _ _ _ _ _ _=>len1 fun _=>rfl
 obtain⟨f12,e12,D12⟩:=p12.at (ps:=["places","sums"]) X G fun _ _ _ _ _ _=>len2 fun _ _=>rfl
 obtain⟨f13,e13,D13⟩:=p13.at (ps:=["places","sums"]) X G fun _ _ _ _ _ _=>len2 fun _ _=>rfl
 obtain⟨f14,e14,D14⟩:=p14.at (ps:=["k","row"]) X G fun _ _ _ _ _ _=>len2 fun _ _=>rfl
 obtain⟨f15,e15,D15⟩:=p15.at (ps:=["k","row","i"]) X G fun _ _ _ _ _ _=>len3 fun _ _ _=>rfl
 obtain⟨f16,e16,D16⟩:=p16.at (ps:=["k","row"]) X G fun _ _ _ _ _ _=>len2 fun _ _=>rfl
 obtain⟨f17,e17,D17⟩:=p17.at (ps:=["k","row"]) X G fun _ _ _ _ _ _=>len2 fun _ _=>rfl
 obtain⟨f18,e18,D18⟩:=p18.at (ps:=["script","k"]) X G fun _ _ _ _ _ _=>len2 fun _ _=>rfl
 obtain⟨f19,e19,D19⟩:=p19.at (ps:=["pool","many"]) X G fun _ _ _ _ _ _=>len2 fun _ _=>rfl
 obtain⟨f20,e20,D20⟩:=p20.at (ps:=["pool","kinds","many"]) X G fun _ _ _ _ _ _=>len3 fun _ _ _=>rfl
 obtain⟨f21,e21,D21⟩:=p21.at (ps:=["pool","kinds","many"]) X G fun _ _ _ _ _ _=>len3 fun _ _ _=>rfl
 obtain⟨f22,e22,D22⟩:=p22.at (ps:=["kinds","row"]) X G fun _ _ _ _ _ _=>len2 fun _ _=>rfl
 obtain⟨f23,e23,D23⟩:=p23.at (ps:=["way","kinds","row","i"]) X G fun _ _ _ _ _ _=>len4 fun _ _ _ _=>rfl
 obtain⟨f24,e24,D24⟩:=p24.at (ps:=["places"]) X G fun _ _ _ _ _ _=>len1 fun _=>rfl
 obtain⟨f25,e25,D25⟩:=p25.at (ps:=["kinds","row","fillings"]) X G fun _ _ _ _ _ _=>len3 fun _ _ _=>rfl
 obtain⟨f26,e26,D26⟩:=p26.at (ps:=["script"]) X G fun _ _ _ _ _ _=>len1 fun _=>rfl
 have e:=hfa.symm.trans D26.m
 cases e
 obtain⟨_,_,kV26,dc26,pm26,an26,cd26,ct26,_,rfl,_,_⟩:=D26.F.ex
 refine⟨PySem.W.fnOf "law" "law" (defArgs zFE) (defBody zFE) (defScope zFE) .none kV26 dc26 pm26 an26 cd26 ct26,fun s v=> .of_eq rfl,fun base _ _=>?_⟩
 have U_is_whole:FnU l.prog w K mg base 1 "is_whole" ["thing"] (spWhole K):=D0.fnU (zFk (k:=0) D0.F T)
 have U_check_kinds:FnUE l.prog w K mg base 2 "check_kinds" ["k"] (spKindsE K (⟨x_RowError,x_NoKinds,x_NoLine,0,0,0,0,x_NoPlace,x_NoFilling,0,0,0⟩:Cs)):=D1.fnUE (zDe (k:=1) D1.F T (U_is_whole.mono (by decide)))
 have U_is_line:FnUE l.prog w K mg base 3 "is_line" ["k","thing"] (spLineE K (⟨x_RowError,x_NoKinds,x_NoLine,0,0,0,0,x_NoPlace,x_NoFilling,0,0,0⟩:Cs)):=D2.fnUE (zG1 (k:=2) D2.F T (U_check_kinds.mono (by decide)))
 have U_check_line:FnUE l.prog w K mg base 4 "check_line" ["k","row"] (spGateE K (⟨x_RowError,x_NoKinds,x_NoLine,0,0,0,0,x_NoPlace,x_NoFilling,0,0,0⟩:Cs) spCheckLine):=D3.fnUE (zEI (k:=3) D3.F T (U_is_line.mono (by decide)))
 have U_check_place:FnUE l.prog w K mg base 2 "check_place" ["row","i"] (spPlaceE K (⟨x_RowError,x_NoKinds,x_NoLine,0,0,0,0,x_NoPlace,x_NoFilling,0,0,0⟩:Cs)):=D4.fnUE (zDd (k:=1) D4.F T (U_is_whole.mono (by decide)))
 have U_weighed_places:FnU l.prog w K mg base 1 "weighed_places" ["row","weights"] (spWeighed K):=D5.fnU (zCa (k:=0) D5.F T)
 have U_counted_places:FnU l.prog w K mg base 2 "counted_places" ["k","row"] (spCounted):=D6.fnU (zCc (k:=1) D6.F T (U_weighed_places.mono (by decide)))
 have U_pair_sum:FnU l.prog w K mg base 1 "pair_sum" ["first","last"] (spPair):=D7.fnU (zFg (k:=0) D7.F T)
 have U_no_sums:FnU l.prog w K mg base 1 "no_sums" ["many"] (spNoSums):=D8.fnU (zGz (k:=0) D8.F T)
 have U_span_sums:FnU l.prog w K mg base 2 "span_sums" ["places"] (spSpans):=D9.fnU (zE1 (k:=1) D9.F T (U_no_sums.mono (by decide)) (U_pair_sum.mono (by decide)))
 have U_whole_sum:FnU l.prog w K mg base 1 "whole_sum" ["sums"] (spWholeSum):=D10.fnU (zE0 (k:=0) D10.F T)
 have U_check_filling:FnUE l.prog w K mg base 2 "check_filling" ["sums"] (spCheckFillE (⟨x_RowError,x_NoKinds,x_NoLine,0,0,0,0,x_NoPlace,x_NoFilling,0,0,0⟩:Cs)):=D11.fnUE (zCp (k:=1) D11.F T (U_whole_sum.mono (by decide)))
 have U_pairs_with_rest:FnU l.prog w K mg base 2 "pairs_with_rest" ["places","sums"] (spPairsR):=D12.fnU (zCN (k:=1) D12.F T (U_no_sums.mono (by decide)) (U_pair_sum.mono (by decide)))
 have U_bracket_sums:FnU l.prog w K mg base 3 "bracket_sums" ["places","sums"] (spBrSums):=D13.fnU (zDI (k:=2) D13.F T (U_pairs_with_rest.mono (by decide)))
 have U_filled:FnUE l.prog w K mg base 3 "filled" ["k","row"] (spFilled28 (⟨x_RowError,x_NoKinds,x_NoLine,0,0,0,0,x_NoPlace,x_NoFilling,0,0,0⟩:Cs)):=D14.fnUE (zH6 (k:=2) D14.F T (U_counted_places.mono (by decide)) (U_span_sums.mono (by decide)) (U_check_filling.mono (by decide)))
 have U_brackets_at:FnUE l.prog w K mg base 5 "brackets_at" ["k","row","i"] (spAt28 (⟨x_RowError,x_NoKinds,x_NoLine,0,0,0,0,x_NoPlace,x_NoFilling,0,0,0⟩:Cs)):=D15.fnUE (zDf (k:=4) D15.F T (U_check_line.mono (by decide)) (U_check_place.mono (by decide)) (U_filled.mono (by decide)) (U_bracket_sums.mono (by decide)))
 have U_sure_places:FnUE l.prog w K mg base 5 "sure_places" ["k","row"] (spSurePlaces (⟨x_RowError,x_NoKinds,x_NoLine,0,0,0,0,x_NoPlace,x_NoFilling,0,0,0⟩:Cs)):=D16.fnUE (zDc (k:=4) D16.F T (U_check_line.mono (by decide)) (U_filled.mono (by decide)) (U_whole_sum.mono (by decide)) (U_bracket_sums.mono (by decide)))
 have U_sure_pairs:FnUE l.prog w K mg base 5 "sure_pairs" ["k","row"] (spSurePairs (⟨x_RowError,x_NoKinds,x_NoLine,0,0,0,0,x_NoPlace,x_NoFilling,0,0,0⟩:Cs)):=D17.fnUE (zEH (k:=4) D17.F T (U_check_line.mono (by decide)) (U_filled.mono (by decide)) (U_whole_sum.mono (by decide)) (U_pairs_with_rest.mono (by decide)) (U_pair_sum.mono (by decide)))
 have U_law_pool:FnU l.prog w K mg base 1 "_law_pool" ["script","k"] (spPoolD K):=D18.fnU (zFi (k:=0) D18.F T)
 have U_law_draw:FnU l.prog w K mg base 1 "_law_draw" ["pool","many"] (spDraw):=D19.fnU (zFj (k:=0) D19.F T)
 have U_law_right:FnU l.prog w K mg base 2 "_law_right" ["pool","kinds","many"] (spRightD):=D20.fnU (zE2 (k:=1) D20.F T (U_law_draw.mono (by decide)))
 have U_law_row:FnU l.prog w K mg base 3 "_law_row" ["pool","kinds","many"] (spRowD):=D21.fnU (zG0 (k:=2) D21.F T (U_law_right.mono (by decide)) (U_law_draw.mono (by decide)))
 have U_law_fillings:FnU l.prog w K mg base 1 "_law_fillings" ["kinds","row"] (spFillings31):=D22.fnU (zDH (k:=0) D22.F T)
 have U_law_told:FnU l.prog w K mg base 6 "_law_told" ["way","kinds","row","i"] (spTold28):=D23.fnU (zFh (k:=5) D23.F T (U_brackets_at.mono (by decide)) (U_sure_places.mono (by decide)) (U_sure_pairs.mono (by decide)))
 have U_law_partners:FnU l.prog w K mg base 1 "_law_partners" ["places"] (spPartners28):=D24.fnU (zDG (k:=0) D24.F T)
 have U_law_sure_right:FnU l.prog w K mg base 7 "_law_sure_right" ["kinds","row","fillings"] (spSure28):=D25.fnU (zCb (k:=6) D25.F T (U_law_partners.mono (by decide)) (U_law_told.mono (by decide)))
 exact zM9 (k:=7) D26.F T (U_law_pool.mono (by decide)) (U_law_row.mono (by decide)) (U_law_fillings.mono (by decide)) (U_law_draw.mono (by decide)) (U_law_sure_right.mono (by decide)) (U_law_told.mono (by decide))
theorem walk{l:PySem.W.OpenLaw}{q:Program}{loose:List Str}{XP:(Str->Option Value)->Heap->Prop}{YP:World->Heap->Prop}{d:DefRec}{K:Params->PySem.W.Frag}(hn:l.most=some 63)(hdf:d.params.defaults=[])
 (hY:∀ (w:World) (h:Heap),YP w h->(K w.params).In h)
 (F:∀ (w:World) (mg:Str->Option Value) (fa:Addr) (h:Heap),(K w.params).In h->h.Ns mainGlobals mg->mg d.name=some (.ref fa)->
   ∃fd:FuncData,(∀ (s:Shared) (u:Value),BindsTo s fd ⟨[u],[]⟩ [("script",u)])/\∀base:Heap,(K w.params).In base->base.Ns mainGlobals mg->FnOk l.prog w (K w.params) mg base CX0 8 fa fd ["script"] (spLaw (K w.params))):
 PySem.W.WalkO q loose XP YP l.row.toRowW d [] (fun f vs=>PySem.call f vs):=
 L2.walk_of (n:=63) (k:=8) (x:="script") (CX:=fun _=>CX0) (sp:=fun w=>spLaw (K w.params)) hn (by decide) hdf ⟨rfl,by decide,by decide,rfl⟩ hY F (fun _ _ a ns hl _ hS=>⟨a,ns,rfl,hS,hl,fun _=>rfl⟩) fun _ _ _ _ _ z=>z
end Bk
theorem PySem.W.Fast.tw127126999167406018:True:=trivial
theorem PySem.W.Fast.tw9148485481035013158:True:=trivial
theorem PySem.W.Fast.tw18423981657960145922:True:=trivial
theorem PySem.W.Fast.tw14685728054240076667:True:=trivial
theorem PySem.W.Fast.tw5768552502686509962:True:=trivial
theorem PySem.W.Fast.tw14587988277963769061:True:=trivial
theorem PySem.W.Fast.tw13452556701086566571:True:=trivial
theorem PySem.W.Fast.tw5310658287209150640:True:=trivial
theorem PySem.W.Fast.tw8070311072210663006:True:=trivial
theorem PySem.W.Fast.tw9124711320194396200:True:=trivial
theorem PySem.W.Fast.tw7997491473665107115:True:=trivial
theorem PySem.W.Fast.tw13110936035634830274:True:=trivial
theorem PySem.W.Fast.tw17883061524016782835:True:=trivial
theorem PySem.W.Fast.tw4582089644455974561:True:=trivial
theorem PySem.W.Fast.tw18053297564530971359:True:=trivial
theorem PySem.W.Fast.tw11340677651949958525:True:=trivial
theorem PySem.W.Fast.tw17663374738970209695:True:=trivial
theorem PySem.W.Fast.tw16838085559588568720:True:=trivial
theorem PySem.W.Fast.tw11092804992669845428:True:=trivial
theorem PySem.W.Fast.tw4150555204999137075:True:=trivial
theorem PySem.W.Fast.tw6569398386188090284:True:=trivial
theorem PySem.W.Fast.tw441342588263320495:True:=trivial
theorem PySem.W.Fast.tw7840324706564867722:True:=trivial
theorem PySem.W.Fast.tw3509693094914842759:True:=trivial
theorem PySem.W.Fast.tw4430177134319859750:True:=trivial
theorem PySem.W.Fast.tw4669324606087872705:True:=trivial
theorem PySem.W.Fast.tw13473496041244745585:True:=trivial
theorem PySem.W.Fast.tw7021939408078512768:True:=trivial
theorem PySem.W.Fast.tw16230526758508317909:True:=trivial
theorem PySem.W.Fast.tw15359457752573237023:True:=trivial
theorem PySem.W.Fast.tw456794179190025691:True:=trivial
theorem PySem.W.Fast.tw3038649981392500884:True:=trivial
theorem PySem.W.Fast.tw13035961892557635560:True:=trivial
theorem PySem.W.Fast.tw11973057446770912647:True:=trivial
theorem PySem.W.Fast.tw7970231393802031629:True:=trivial
theorem PySem.W.Fast.tw5431447377829949172:True:=trivial
theorem PySem.W.Fast.tw8743414702634546425:True:=trivial
theorem PySem.W.Fast.tw14884627588562259149:True:=trivial
theorem PySem.W.Fast.tw10615303306280004386:True:=trivial
theorem PySem.W.Fast.tw8704100880287877787:True:=trivial
theorem PySem.W.Fast.tw17789828914817680952:True:=trivial
theorem PySem.W.Fast.tw12092114763102463382:True:=trivial
theorem PySem.W.Fast.tw7943440007484164426:True:=trivial
theorem PySem.W.Fast.tw5943467152679403266:True:=trivial
theorem PySem.W.Fast.tw8135598162444398893:True:=trivial
theorem PySem.W.Fast.tw8214143243081148348:True:=trivial
theorem PySem.W.Fast.tw11101649471114205455:True:=trivial
theorem PySem.W.Fast.tw5546863546005197175:True:=trivial
theorem PySem.W.Fast.tw5676578774041250716:True:=trivial
theorem PySem.W.Fast.tw17296908787355168833:True:=trivial
theorem PySem.W.Fast.tw6802209222610489818:True:=trivial
theorem PySem.W.Fast.tw3664554236483924984:True:=trivial
theorem PySem.W.Fast.tw16414287120394872407:True:=trivial
theorem PySem.W.Fast.tw16876373748034359730:True:=trivial
theorem PySem.W.Fast.tw1108477000656261429:True:=trivial
theorem PySem.W.Fast.tw14955909373786662468:True:=trivial
theorem PySem.W.Fast.tw13835301762593485806:True:=trivial
theorem PySem.W.Fast.tw2941291922986907996:True:=trivial
theorem PySem.W.Fast.tw13948948402984252296:True:=trivial
theorem PySem.W.Fast.tw4250010383657246014:True:=trivial
theorem PySem.W.Fast.tw1907802877482622225:True:=trivial
theorem PySem.W.Fast.tw2960015487071315049:True:=trivial
theorem PySem.W.Fast.tw12170861160938012319:True:=trivial
theorem PySem.W.Fast.tw10513028005518192392:True:=trivial
theorem PySem.W.Fast.tw5738846149426518421:True:=trivial
theorem PySem.W.Fast.tw8318815820161918644:True:=trivial
theorem PySem.W.Fast.tw12322385011418177306:True:=trivial
theorem PySem.W.Fast.tw6800804659634339096:True:=trivial
theorem PySem.W.Fast.tw1443724079974122119:True:=trivial
theorem PySem.W.Fast.tw2203771291729702582:True:=trivial
theorem PySem.W.Fast.tw15985255061575098294:True:=trivial
theorem PySem.W.Fast.tw3679697531866748100:True:=trivial
theorem PySem.W.Fast.tw3228956517218605765:True:=trivial
theorem PySem.W.Fast.tw13784262570734677441:True:=trivial
theorem PySem.W.Fast.tw15549395246997963746:True:=trivial
theorem PySem.W.Fast.tw9072215390915937887:True:=trivial
theorem PySem.W.Fast.tw15786904101186449124:True:=trivial
theorem PySem.W.Fast.tw16837695333873036578:True:=trivial
theorem PySem.W.Fast.tw9766924186664454370:True:=trivial
theorem PySem.W.Fast.tw13836628523161369293:True:=trivial
theorem PySem.W.Fast.tw2896814092828056600:True:=trivial
theorem PySem.W.Fast.tw15802313525919827693:True:=trivial
open PySem PySem.W PyProof.Rows
set_option maxRecDepth 100000 in
set_option maxHeartbeats 0 in
theorem PySem.Challenge.cw_bracketrows_k28_what_stands_there_holds : PySem.Challenge.rw_bracketrows_k28_what_stands_there.Holds := by
  w_on; o_law; k_head; (case hw => w_witness2)
  k_fill
  refine Bk.walk (l := PySem.Challenge.rw_bracketrows_k28_what_stands_there) rfl rfl (fun w h Y => PySem.W.kIn_of Y) ?F
  case F =>
    intro w mg fa h KX G hmg
    refine' Bk.all_mk KX G hmg ?p0 ?p1 ?p2 ?p3 ?p4 ?p5 ?p6 ?p7 ?p8 ?p9 ?p10 ?p11 ?p12 ?p13 ?p14 ?p15 ?p16 ?p17 ?p18 ?p19 ?p20 ?p21 ?p22 ?p23 ?p24 ?p25 ?p26 ?y_RowError ?w_RowError ?y_NoKinds ?w_NoKinds ?y_NoLine ?w_NoLine ?y_NoPlace ?w_NoPlace ?y_NoFilling ?w_NoFilling ?m_NoKinds ?v_NoKinds ?q_NoKinds_RowError ?q_NoKinds_NoKinds ?q_NoKinds_NoLine ?q_NoKinds_NoPlace ?q_NoKinds_NoFilling ?m_NoLine ?v_NoLine ?q_NoLine_RowError ?q_NoLine_NoKinds ?q_NoLine_NoLine ?q_NoLine_NoPlace ?q_NoLine_NoFilling ?m_NoPlace ?v_NoPlace ?q_NoPlace_RowError ?q_NoPlace_NoKinds ?q_NoPlace_NoLine ?q_NoPlace_NoPlace ?q_NoPlace_NoFilling ?m_NoFilling ?v_NoFilling ?q_NoFilling_RowError ?q_NoFilling_NoKinds ?q_NoFilling_NoLine ?q_NoFilling_NoPlace ?q_NoFilling_NoFilling ?z_ValueError ?z_all ?z_bool ?z_dict ?z_enumerate ?z_int ?z_isinstance ?z_len ?z_list ?z_max ?z_min ?z_range ?z_repr ?z_sorted ?z_str ?z_sum ?z_zip ?g_OPENING ?h_OPENING ?g_CLOSING ?h_CLOSING ?g_K ?l_K ?c_K ?s_K ?r_K ?g_BRACKETS ?h_BRACKETS ?g_UNKNOWN ?h_UNKNOWN ?g_MOST_SIGNS ?h_MOST_SIGNS
    (case p0 | p1 | p2 | p3 | p4 | p5 | p6 | p7 | p8 | p9 | p10 | p11 | p12 | p13 | p14 | p15 | p16 | p17 | p18 | p19 | p20 | p21 | p22 | p23 | p24 | p25 | p26 => (apply Bk.FnAt.mk; k_is; k_is; k_is; k_is))
    (case y_RowError => k_is)
    (case w_RowError => kernel_rfl)
    (case y_NoKinds => k_is)
    (case w_NoKinds => kernel_rfl)
    (case y_NoLine => k_is)
    (case w_NoLine => kernel_rfl)
    (case y_NoPlace => k_is)
    (case w_NoPlace => kernel_rfl)
    (case y_NoFilling => k_is)
    (case w_NoFilling => kernel_rfl)
    (case m_NoKinds => kernel_rfl)
    (case v_NoKinds => kernel_rfl)
    (case q_NoKinds_RowError => kernel_rfl)
    (case q_NoKinds_NoKinds => kernel_rfl)
    (case q_NoKinds_NoLine => kernel_rfl)
    (case q_NoKinds_NoPlace => kernel_rfl)
    (case q_NoKinds_NoFilling => kernel_rfl)
    (case m_NoLine => kernel_rfl)
    (case v_NoLine => kernel_rfl)
    (case q_NoLine_RowError => kernel_rfl)
    (case q_NoLine_NoKinds => kernel_rfl)
    (case q_NoLine_NoLine => kernel_rfl)
    (case q_NoLine_NoPlace => kernel_rfl)
    (case q_NoLine_NoFilling => kernel_rfl)
    (case m_NoPlace => kernel_rfl)
    (case v_NoPlace => kernel_rfl)
    (case q_NoPlace_RowError => kernel_rfl)
    (case q_NoPlace_NoKinds => kernel_rfl)
    (case q_NoPlace_NoLine => kernel_rfl)
    (case q_NoPlace_NoPlace => kernel_rfl)
    (case q_NoPlace_NoFilling => kernel_rfl)
    (case m_NoFilling => kernel_rfl)
    (case v_NoFilling => kernel_rfl)
    (case q_NoFilling_RowError => kernel_rfl)
    (case q_NoFilling_NoKinds => kernel_rfl)
    (case q_NoFilling_NoLine => kernel_rfl)
    (case q_NoFilling_NoPlace => kernel_rfl)
    (case q_NoFilling_NoFilling => kernel_rfl)
    (case z_ValueError | z_all | z_bool | z_dict | z_enumerate | z_int | z_isinstance | z_len | z_list | z_max | z_min | z_range | z_repr | z_sorted | z_str | z_sum | z_zip | g_OPENING => k_is)
    (case h_OPENING => first | rfl | decide +kernel)
    (case g_CLOSING => k_is)
    (case h_CLOSING => first | rfl | decide +kernel)
    (case g_K | l_K => k_is)
    (case c_K => rfl)
    (case s_K => rfl)
    (case r_K => decide +kernel)
    (case g_BRACKETS => k_is)
    (case h_BRACKETS => first | rfl | decide +kernel)
    (case g_UNKNOWN => k_is)
    (case h_UNKNOWN => first | rfl | decide +kernel)
    (case g_MOST_SIGNS => k_is)
    (case h_MOST_SIGNS => rfl)
