import PyProof.Rows.All
import Wide.All
import OpenK.AllK
import Wide.FinOn
import Lean
import PyProof.EqAt
import PyProof.EqKinds
import PyProof.TupleCall
import PyProof.ExcStrCall
import PyProof.ExcStrAll.ValueError
import PyProof.TupleOfStr
import PyProof.DictIter
import PyProof.DictWalks
import PyProof.Rows.SetFrom
import PyProof.CollectWalk
import PyProof.Rows.SortShell
import PyProof.Rows.SortWalk
import PyProof.ListRange
import PyProof.ZipIter
import PyProof.Draws
import PyProof.EnumMake
import PyProof.Rows.StrFirst
import PyProof.NeData
import PyProof.P3In
import PySem.Challenge.RW_bracketrows_k10_shapes_refused
set_option Elab.async false
set_option linter.all false
set_option maxRecDepth 100000
namespace L2
open PySem PySem.Spec PyProof.Rows
abbrev Key:=Sum Int Str
def keyIs:Key->Value->Bool
 | .inl k,v=>Value.isInt k v
 | .inr x,v=>Value.isStrOf x v
def keyH(w:World):Key->Int
 | .inl k=>hashInt k
 | .inr x=>hashStr w x
theorem keyIs_shape:∀ {k:Key} {v:Value},keyIs k v=true->(∃i t,k=Sum.inl i/\v=Value.int i t)\/(∃x t,k=Sum.inr x/\v=Value.str x t)
 | .inl i,v,h=>by
   obtain⟨t,e⟩:=Value.isInt_shape (k:=i) (v:=v) h
   exact .inl ⟨i,t,rfl,e⟩
 | .inr x,v,h=>by
   obtain⟨t,e⟩:=Value.isStrOf_shape (x:=x) (v:=v) h
   exact .inr ⟨x,t,rfl,e⟩
theorem keyIs_int(i:Int)(t:Tok):keyIs (.inl i) (.int i t)=true:=by simp[keyIs,Value.isInt]
theorem keyIs_str(x:Str)(t:Tok):keyIs (.inr x) (.str x t)=true:=by simp[keyIs,Value.isStrOf]
theorem key_ll(a b:Int):decide ((Sum.inl a:Key)=Sum.inl b)=(a==b):=by
 by_cases e:a=b
 ·subst e;simp
 ·have h:¬ (Sum.inl a:Key)=Sum.inl b:=fun q=>e (Sum.inl.inj q)
  rw[decide_eq_false h]
  exact(beq_eq_false_iff_ne.mpr e).symm
theorem key_rr(a b:Str):decide ((Sum.inr a:Key)=Sum.inr b)=decide (a=b):=by
 by_cases e:a=b
 ·subst e;simp
 ·have h:¬ (Sum.inr a:Key)=Sum.inr b:=fun q=>e (Sum.inr.inj q)
  rw[decide_eq_false h,decide_eq_false e]
theorem key_lr(a:Int)(b:Str):decide ((Sum.inl a:Key)=Sum.inr b)=false:=decide_eq_false (fun q=>nomatch q)
theorem key_rl(a:Str)(b:Int):decide ((Sum.inr a:Key)=Sum.inl b)=false:=decide_eq_false (fun q=>nomatch q)
def mixKind(prog:Program)(w:World):PySem.KeyKind prog w Key where
 is:=keyIs
 hash:=keyH w
 inj:=fun v a b ha hb=>by
  rcases keyIs_shape ha with⟨i,t,rfl,rfl⟩|⟨x,t,rfl,rfl⟩
  ·rcases keyIs_shape hb with⟨j,u,rfl,e⟩|⟨y,u,rfl,e⟩
   ·injection e with e1 _;rw[e1]
   ·exact nomatch e
  ·rcases keyIs_shape hb with⟨j,u,rfl,e⟩|⟨y,u,rfl,e⟩
   ·exact nomatch e
   ·injection e with e1 _;rw[e1]
 byValue:=fun k v h=>by
  rcases keyIs_shape h with⟨i,t,rfl,rfl⟩|⟨x,t,rfl,rfl⟩<;>rfl
 pyHash:=fun hv h=>by
  rcases keyIs_shape hv with⟨i,t,rfl,rfl⟩|⟨x,t,rfl,rfl⟩
  ·exact wpAny_pyHash_int h
  ·exact wpAny_pyHash_str h
 eqBool:=fun hu hv h=>by
  rcases keyIs_shape hu with⟨i,t,rfl,rfl⟩|⟨x,t,rfl,rfl⟩
  ·rcases keyIs_shape hv with⟨j,u,rfl,rfl⟩|⟨y,u,rfl,rfl⟩
   ·rw[key_ll]at h;exact wpAny_eqBool_int h
   ·rw[key_lr]at h;exact SeqAt.EqAt.int_str i t y u _ _ _ _ h
  ·rcases keyIs_shape hv with⟨j,u,rfl,rfl⟩|⟨y,u,rfl,rfl⟩
   ·rw[key_rl]at h;exact SeqAt.EqAt.str_int x t j u _ _ _ _ h
   ·rw[key_rr]at h;exact wpAny_eqBool_str h
 «strs»:=fun k x t v h=>by
  rcases keyIs_shape h with⟨i,u,rfl,e⟩|⟨y,u,rfl,e⟩
  ·exact nomatch e
  ·injection e with e1 _
   subst e1
   cases v<;>rfl
theorem mixKind_int(prog:Program)(w:World)(i:Int)(t:Tok):(mixKind prog w).is (.inl i) (.int i t)=true:=keyIs_int i t
theorem mixKind_str(prog:Program)(w:World)(x:Str)(t:Tok):(mixKind prog w).is (.inr x) (.str x t)=true:=keyIs_str x t
inductive V where
 |non|bl (b:Bool)|int (i:Int)|str (x:Str)|byt (b:Array UInt8)|flt (b:UInt64)|ref (a:Addr)|ty (n:String)
 deriving DecidableEq
def RelV:V->Value->Prop
 | .non,u=>u=Value.none
 | .bl b,u=>u=Value.bool b
 | .int i,u=>∃t,u=Value.int i t
 | .str x,u=>∃t,u=Value.str x t
 | .byt b,u=>∃t,u=Value.bytes b t
 | .flt b,u=>∃t,u=Value.float b t
 | .ref a,u=>u=Value.ref a
 | .ty n,u=>u=Value.type n
abbrev Vals:List V->List Value->Prop:=Paired RelV
theorem Vals.length{xs:List V}{us:List Value}(r:Vals xs us):xs.length=us.length:=Paired.length r
theorem Vals.get:∀ {xs:List V} {us:List Value} {i:Nat} {x:V},Vals xs us->xs[i]? =some x->∃u,us[i]? =some u/\RelV x u
 |_,_,_,_, .nil,e=>by simp at e
 |_,_,0,_, .cons r _,e=>by simp at e;subst e;exact⟨_,rfl,r⟩
 |_,_,i+1,x, .cons _ t,e=>by
  obtain⟨u,h1,h2⟩:=Vals.get (i:=i) (x:=x) t (by simpa using e)
  exact⟨u,by simpa using h1,h2⟩
theorem Vals.set{x:V}{u:Value}(r:RelV x u):∀ {xs:List V} {us:List Value} (i:Nat),Vals xs us->Vals (xs.set i x) (us.set i u)
 |_,_,_, .nil=> .nil
 |_,_,0, .cons _ t=> .cons r t
 |_,_,i+1, .cons q t=> .cons q (Vals.set r i t)
theorem Vals.append:∀ {xs ys:List V} {us ws:List Value},Vals xs us->Vals ys ws->Vals (xs++ys) (us++ws)
 |_,_,_,_, .nil,s=>s
 |_,_,_,_, .cons r t,s=> .cons r (Vals.append t s)
theorem Vals.take:∀ {xs:List V} {us:List Value} (n:Nat),Vals xs us->Vals (xs.take n) (us.take n)
 |_,_,0,_=> .nil
 |_,_,_+1, .nil=> .nil
 |_,_,n+1, .cons r t=> .cons r (Vals.take n t)
theorem Vals.drop:∀ {xs:List V} {us:List Value} (n:Nat),Vals xs us->Vals (xs.drop n) (us.drop n)
 |_,_,0,r=>r
 |_,_,_+1, .nil=> .nil
 |_,_,n+1, .cons _ t=>Vals.drop n t
def RelO:Option V->Option Value->Prop
 |some v,some u=>RelV v u
 |none,none=>True
 |_,_=>False
def KV{κ:Type}:List (κ×V)->List (κ×Value)->Prop:=Paired fun(p:κ×V) (q:κ×Value)=>p.1=q.1/\RelV p.2 q.2
def kV:Key->V
 | .inl i=> .int i
 | .inr x=> .str x
inductive HO where
 |lst (xs:List V)
 |tup (xs:List V)
 |dK (kvs:List (Key×V))|dT (kvs:List (List Key×V))
 |set (S:Int->Bool) (n:Nat)
 |ins (C dx:Addr) (fs:List (Str×V))
 |own (x:Addr)
 |xd (fs:List (Str×V))
 |met (f x:Addr)
 |rng (lo hi:Int)
 |frz (o:Obj) (u:HO)
 |tbl (ps:Array Value)
 |ext (φ:Heap->Prop)
abbrev Hp:=Addr->Option HO
def upd(H:Hp)(a:Addr)(o:HO):Hp:=fun b=>if b=a then some o else H b
theorem upd_same{H:Hp}{a:Addr}{o:HO}:upd H a o a=some o:=by unfold upd;rw[if_pos rfl]
theorem upd_ne{H:Hp}{a b:Addr}{o:HO}(h:b≠a):upd H a o b=H b:=by unfold upd;rw[if_neg h]
theorem upd_upd{H:Hp}{a:Addr}{o u:HO}:upd (upd H a o) a u=upd H a u:=by
 funext b;unfold upd;split<;>rfl
theorem ne_of{H:Hp}{a b:Addr}{o u:HO}(h:H a=some o)(h':H b=some u)(d:o≠u):a≠b:=by
 intro e;subst e;rw[h]at h';exact d (Option.some.inj h')
theorem ne_of_none{H:Hp}{a b:Addr}{o:HO}(h:H a=some o)(h':H b=none):a≠b:=by
 intro e;subst e;rw[h]at h';cases h'
section
variable(P:Program)(w:World)
def ObjOk(H:Hp)(h:Heap)(a:Addr):HO->Prop
 | .lst xs=>xs.length<=sizeLine/\∃ (its:List Value) (n:Nat),Vals xs its/\h.get? a=some {cls:= .type "list",data:= .seq its.toArray n}
 | .tup xs=>xs.length<=sizeLine/\∃its:List Value,Vals xs its/\IsTup h a its.toArray
 | .dK kvs=>kvs.length<=sizeLine/\(a==sysModules)=false/\∃vs,KV kvs vs/\h.DictOf (mixKind P w) a vs
 | .dT kvs=>kvs.length<=sizeLine/\(a==sysModules)=false/\∃xs:List (List Key×Addr×Value),
     Paired (fun(p:List Key×V) (q:List Key×Addr×Value)=>p.1=q.1/\H q.2.1=some (.tup (p.1.map kV))/\RelV p.2 q.2.2) kvs xs/\
     ∃o es ep,h.get? a=some o/\o.ExactDict/\o.data= .dict es ep/\es.toList=xs.map (entryOfKey (tupleKind (mixKind P w)))/\(xs.map (·.1)).Nodup
 | .set S n=>h.SetOf (intKind P w) a S n
 | .ins C dx fs=>H dx=some (.own a)/\fs.length<=1000/\dx≠a/\h.get? a=some (PySem.W.instObj C dx)/\
     ∃mA,h.Ns1 dx mA/\(∀f,RelO (fs.lookup f) (mA f))/\PySem.Within mA (fs.map (·.1))
 | .own _=>∃o,h.get? a=some o
 | .xd fs=>∃mA,h.Ns1 a mA/\∀f,RelO (fs.lookup f) (mA f)
 | .rng lo hi=>∃t u v,h.get? a=some {cls:= .type "range",data:= .fields #[.int lo t, .int hi u, .int 1 v]}
 | .frz o u=>h.get? a=some o/\ObjOk H h a u
 | .tbl ps=>h.get? a=some {cls:= .none,data:= .fields ps}
 | .met f x=>h.get? a=some (PySem.W.methodObj (.ref f) (.ref x))
 | .ext φ=>φ h/\(∃o,h.get? a=some o)/\∀h1 h2:Heap,φ h1->(∀o,h1.get? a=some o->h2.get? a=some o)->φ h2
structure HOk (H:Hp) (h:Heap):Prop where
 all:∀a o,H a=some o->ObjOk P w H h a o
 sm:∀o,H sysModules=some o->∃ob u,o= .frz ob u
 bg:∃b o,1<b/\h.get? b=some o
instance (H:Hp) (h:Heap):CoeFun (HOk P w H h) fun _=>∀a o,H a=some o->ObjOk P w H h a o:=⟨HOk.all⟩
end
section
variable{P:Program}{w:World}{H H':Hp}{h h':Heap}{a:Addr}{o:HO}
theorem ObjOk.lt(x:ObjOk P w H h a o):a<h.objs.size:=by
 cases o with
 |lst xs=>obtain⟨_,_,_,_,e⟩:=x;exact Heap.lt_size e
 |tup xs=>obtain⟨_,_,_,p⟩:=x;exact p.lt
 |dK kvs=>obtain⟨_,_,_,_,o,_,_,e,_⟩:=x;exact Heap.lt_size e
 |dT kvs=>obtain⟨_,_,_,_,o,_,_,e,_⟩:=x;exact Heap.lt_size e
 |set S n=>obtain⟨o,_,_,_,e,_⟩:=x;exact Heap.lt_size e
 |ins C dx fs=>obtain⟨_,_,_,e,_⟩:=x;exact Heap.lt_size e
 |own y=>obtain⟨_,e⟩:=x;exact Heap.lt_size e
 |xd fs=>obtain⟨_,⟨_,_,_,e,_⟩,_⟩:=x;exact Heap.lt_size e
 |rng lo hi=>obtain⟨_,_,_,e⟩:=x;exact Heap.lt_size e
 |frz ob u=>obtain⟨e,_⟩:=x;exact Heap.lt_size e
 |tbl ps=>exact Heap.lt_size (show h.get? a=some _ from x)
 |met f y=>exact Heap.lt_size (show h.get? a=some _ from x)
 |ext φ=>obtain⟨_,⟨_,e⟩,_⟩:=x;exact Heap.lt_size e
theorem Paired.mapP{α β:Type}{F G:α->β->Prop}:∀ {l₁:List α} {l₂:List β},Paired F l₁ l₂->(∀a b,F a b->G a b)->Paired G l₁ l₂
 |_,_, .nil,_=> .nil
 |_,_, .cons r t,f=> .cons (f _ _ r) (Paired.mapP t f)
theorem ObjOk.stay(x:ObjOk P w H h a o)(k:∀b u,(b=a\/H b=some (.own a))->h.get? b=some u->h'.get? b=some u)
 (ho:∀b,H b=some (.own a)->H' b=some (.own a)) (ht:∀b xs,H b=some (.tup xs)->H' b=some (.tup xs)):ObjOk P w H' h' a o:=by
 induction o with
 |lst xs=>obtain⟨z,its,n,r,e⟩:=x;exact⟨z,its,n,r,k _ _ (.inl rfl) e⟩
 |tup xs=>obtain⟨z,its,r,ob,e,c⟩:=x;exact⟨z,its,r,ob,k _ _ (.inl rfl) e,c⟩
 |dK kvs=>obtain⟨z,y,vs,r,ob,es,ep,e,c⟩:=x;exact⟨z,y,vs,r,ob,es,ep,k _ _ (.inl rfl) e,c⟩
 |dT kvs=>
  obtain⟨z,y,xs,r,ob,es,ep,e,c⟩:=x
  exact⟨z,y,xs,Paired.mapP r fun p q z=>⟨z.1,ht _ _ z.2.1,z.2.2⟩,ob,es,ep,k _ _ (.inl rfl) e,c⟩
 |set S n=>obtain⟨ob,es,ep,t,e,c⟩:=x;exact⟨ob,es,ep,t,k _ _ (.inl rfl) e,c⟩
 |ins C dx fs=>
  obtain⟨d,z,ne,e,mA,⟨od,es,ep,e2,c⟩,r⟩:=x
  exact⟨ho _ d,z,ne,k _ _ (.inl rfl) e,mA,⟨od,es,ep,k _ _ (.inr d) e2,c⟩,r⟩
 |own y=>obtain⟨ob,e⟩:=x;exact⟨ob,k _ _ (.inl rfl) e⟩
 |xd fs=>obtain⟨mA,⟨od,es,ep,e,c⟩,r⟩:=x;exact⟨mA,⟨od,es,ep,k _ _ (.inl rfl) e,c⟩,r⟩
 |rng lo hi=>obtain⟨t,u,v,e⟩:=x;exact⟨t,u,v,k _ _ (.inl rfl) e⟩
 |frz ob u ih=>obtain⟨e,q⟩:=x;exact⟨k _ _ (.inl rfl) e,ih q⟩
 |tbl ps=>
  have e:h.get? a=some {cls:= .none,data:= .fields ps}:=x
  show h'.get? a=some {cls:= .none,data:= .fields ps}
  exact k a _ (.inl rfl) e
 |met f y=>
  have e:h.get? a=some (PySem.W.methodObj (.ref f) (.ref y)):=x
  show h'.get? a=some (PySem.W.methodObj (.ref f) (.ref y))
  exact k a _ (.inl rfl) e
 |ext φ=>obtain⟨p,⟨o,e⟩,st⟩:=x;exact⟨st _ _ p fun o q=>k _ _ (.inl rfl) q,⟨o,k _ _ (.inl rfl) e⟩,st⟩
theorem HOk.lt(x:HOk P w H h)(e:H a=some o):a<h.objs.size:=(x a o e).lt
theorem HOk.fresh(x:HOk P w H h)(e:h.objs.size<=a):H a=none:=by
 cases q:H a with
 |none=>rfl
 |some u=>exact absurd (Nat.lt_of_lt_of_le (x.lt q) e) (Nat.lt_irrefl _)
theorem HOk.kept(x:HOk P w H h)(k:∀b u,h.get? b=some u->h'.get? b=some u):HOk P w H h':=⟨fun a o e=>
 (x a o e).stay (fun b u _ q=>k b u q) (fun _ q=>q) fun _ _ q=>q,x.sm,let⟨b,o,l,e⟩:=x.bg;⟨b,o,l,k _ _ e⟩⟩
theorem HOk.laid(x:HOk P w H h)(k:∀b u,h.get? b=some u->h'.get? b=some u)(hp:h.objs.size<=a)(new:ObjOk P w (upd H a o) h' a o):HOk P w (upd H a o) h':=by
 refine⟨fun b u e=>?_,fun u e=>?_,let⟨b,o,l,e⟩:=x.bg;⟨b,o,l,k _ _ e⟩⟩
 rotate_left
 ·by_cases hb:sysModules=a
  ·obtain⟨b,o,l,q⟩:=x.bg
   exact absurd (Nat.lt_trans l (show b<sysModules from by rw[hb];exact Nat.lt_of_lt_of_le (Heap.lt_size q) hp)) (Nat.lt_irrefl 1)
  ·rw[upd_ne hb]at e;exact x.sm u e
 have hn:=x.fresh hp
 by_cases hb:b=a
 ·subst hb;rw[upd_same]at e;cases e;exact new
 ·rw[upd_ne hb]at e
  exact(x b u e).stay (fun c v _ q=>k c v q) (fun c q=>by rw[upd_ne (ne_of_none q hn)];exact q) fun c xs q=>by rw[upd_ne (ne_of_none q hn)];exact q
end
def Rd(H:Hp)(a:Addr)(u:HO):Prop:=H a=some u\/∃o,H a=some (.frz o u)
theorem Rd.ok{P:Program}{w:World}{H:Hp}{h:Heap}{a:Addr}{u:HO}(r:Rd H a u)(x:HOk P w H h):ObjOk P w H h a u:=by
 rcases r with r|⟨o,r⟩
 ·exact x a u r
 ·obtain⟨_,q⟩:=x a _ r
  exact q
def Mut:Option HO->Prop
 |some (.lst _)=>True
 |some (.dK _)=>True
 |some (.dT _)=>True
 |some (.set _ _)=>True
 |some (.ins _ _ _)=>True
 |some (.ext _)=>True
 |_=>False
section
variable{P:Program}{w:World}{H:Hp}{h h':Heap}{x e:Addr}{o':HO}
theorem HOk.write(ok:HOk P w H h)(mu:Mut (H x))(he:e=x\/H e=some (.own x))(k:∀b u,b≠e->h.get? b=some u->h'.get? b=some u)(heo:∃u,h'.get? e=some u)
 (new:ObjOk P w (upd H x o') h' x o'):HOk P w (upd H x o') h':=by
 refine⟨fun b u q=>?_,fun u q=>?_,?_⟩
 rotate_left
 ·by_cases hb:sysModules=x
  ·exfalso
   subst hb
   cases z:H sysModules with
   |none=>rw[z]at mu;exact mu
   |some o=>
    obtain⟨ob,v,rfl⟩:=ok.sm o z
    rw[z]at mu;exact mu
  ·rw[upd_ne hb]at q;exact ok.sm u q
 ·obtain⟨b,o,l,z⟩:=ok.bg
  by_cases hb:b=e
  ·obtain⟨v,hv⟩:=heo
   exact⟨e,v,hb▸l,hv⟩
  ·exact⟨b,o,l,k b o hb z⟩
 have nown:∀c y,H c=some (.own y)->c≠x:=fun c y r z=>by subst z;rw[r]at mu;exact mu
 have ntup:∀c xs,H c=some (.tup xs)->c≠x:=fun c xs r z=>by subst z;rw[r]at mu;exact mu
 by_cases hb:b=x
 ·subst hb;rw[upd_same]at q;cases q;exact new
 ·rw[upd_ne hb]at q
  by_cases hbe:b=e
  ·have q':H b=some (.own x):=by
    rcases he with z|z
    ·exact absurd (hbe.trans z) hb
    ·rw[hbe];exact z
   rw[q]at q';cases q'
   obtain⟨v,hv⟩:=heo
   exact⟨v,by rw[hbe];exact hv⟩
  ·refine(ok b u q).stay (fun c v hc r=>k c v ?_ r) (fun c r=>by rw[upd_ne (nown c b r)];exact r) fun c xs r=>by rw[upd_ne (ntup c xs r)];exact r
   rcases hc with rfl|hc
   ·exact hbe
   ·rintro rfl
    rcases he with z|z
    ·exact nown c b hc z
    ·rw[hc]at z;cases z;exact hb rfl
end
structure Un (fs ex:List Addr) (H H':Hp) (h h':Heap):Prop where
 keep:∀b o,h.get? b=some o->H b=none->b∉fs->b∉ex->h'.get? b=some o
 slot:∀b o,h.get? b=some o->H b=none->b∈fs->b∉ex->∃sl,h'.get? b=some {o with slots:=sl}
 free:∀b o,h.get? b=some o->H b=none->b∉ex->H' b=none
 there:∀b o,h.get? b=some o->b∉ex->∃o',h'.get? b=some o'
 tups:∀b xs,H b=some (.tup xs)->H' b=some (.tup xs)
 frzs:∀b o u,H b=some (.frz o u)->H' b=some (.frz o u)
 tbls:∀b ps,H b=some (.tbl ps)->∃more,H' b=some (.tbl (ps++more))
section
variable{fs fs' ex ex':List Addr}{H H1 H2:Hp}{h h1 h2 h':Heap}{a x e:Addr}{o:HO}
theorem Un.any(u:Un fs ex H H1 h h1){b:Addr}{ob:Obj}(q:h.get? b=some ob)(n:H b=none)(hx:b∉ex):∃sl,h1.get? b=some {ob with slots:=sl}:=by
 by_cases hb:b∈fs
 ·exact u.slot b ob q n hb hx
 ·exact⟨ob.slots,u.keep b ob q n hb hx⟩
theorem Un.trans(a:Un fs ex H H1 h h1)(b:Un fs ex H1 H2 h1 h2):Un fs ex H H2 h h2 where
 keep:=fun c ob q n hc hx=>b.keep c ob (a.keep c ob q n hc hx) (a.free c ob q n hx) hc hx
 slot:=fun c ob q n hc hx=>by
  obtain⟨sl,e1⟩:=a.slot c ob q n hc hx
  obtain⟨sl',e2⟩:=b.slot c _ e1 (a.free c ob q n hx) hc hx
  exact⟨sl',e2⟩
 free:=fun c ob q n hx=>by
  obtain⟨o',e1⟩:=a.there c ob q hx
  exact b.free c o' e1 (a.free c ob q n hx) hx
 there:=fun c ob q hx=>by
  obtain⟨o',e1⟩:=a.there c ob q hx
  exact b.there c o' e1 hx
 tups:=fun c xs q=>b.tups c xs (a.tups c xs q)
 frzs:=fun c ob xs q=>b.frzs c ob xs (a.frzs c ob xs q)
 tbls:=fun c ps q=>by
  obtain⟨m1,e1⟩:=a.tbls c ps q
  obtain⟨m2,e2⟩:=b.tbls c _ e1
  exact⟨m1++m2,by rw[e2,Array.append_assoc]⟩
theorem Un.kept(k:∀b u,h.get? b=some u->h'.get? b=some u):Un fs ex H H h h':=
 ⟨fun b ob q _ _ _=>k b ob q,fun b ob q _ _ _=>⟨ob.slots,k b ob q⟩,fun _ _ _ n _=>n,fun b ob q _=>⟨ob,k b ob q⟩,fun _ _ q=>q,fun _ _ _ q=>q,fun _ ps q=>⟨#[],by rw[q];simp⟩⟩
theorem Un.refl:Un fs ex H H h h:=Un.kept fun _ _ q=>q
theorem Un.laid(k:∀b u,h.get? b=some u->h'.get? b=some u)(hp:h.objs.size<=a)(hn:H a=none):Un fs ex H (upd H a o) h h' where
 keep:=fun b u q _ _ _=>k b u q
 slot:=fun b u q _ _ _=>⟨u.slots,k b u q⟩
 free:=fun b u q n _=>by rw[upd_ne (Nat.ne_of_lt (Nat.lt_of_lt_of_le (Heap.lt_size q) hp))];exact n
 there:=fun b u q _=>⟨u,k b u q⟩
 tups:=fun b xs q=>by rw[upd_ne (ne_of_none q hn)];exact q
 frzs:=fun b u xs q=>by rw[upd_ne (ne_of_none q hn)];exact q
 tbls:=fun b ps q=>⟨#[],by rw[upd_ne (ne_of_none q hn),q];simp⟩
theorem Un.write(mu:Mut (H x))(he:e=x\/H e=some (.own x))(k:∀b u,b≠e->h.get? b=some u->h'.get? b=some u)(heo:∃u,h'.get? e=some u):Un fs ex H (upd H x o) h h':=by
 have hx:∀b,H b=none->b≠x:=fun b n z=>by subst z;rw[n]at mu;exact mu
 have hb:∀b,H b=none->b≠e:=fun b n z=>by
  subst z
  rcases he with r|r
  ·exact hx b n r
  ·rw[n]at r;cases r
 have hm:∀b u,H b=some u->¬Mut (some u)->b≠x:=fun b u q nm z=>by subst z;rw[q]at mu;exact nm mu
 refine⟨fun b u q n _ _=>k b u (hb b n) q,fun b u q n _ _=>⟨u.slots,k b u (hb b n) q⟩,fun b u q n _=>by rw[upd_ne (hx b n)];exact n,fun b u q _=>?_,
  fun b xs q=>by rw[upd_ne (hm b _ q fun z=>z)];exact q,fun b u xs q=>by rw[upd_ne (hm b _ q fun z=>z)];exact q,fun b ps q=>⟨#[],by rw[upd_ne (hm b _ q fun z=>z),q];simp⟩⟩
 by_cases hbe:b=e
 ·subst hbe;exact heo
 ·exact⟨u,k b u hbe q⟩
end
def trk(h:Heap)(H:Hp):List Addr:=(List.range h.objs.size).filter fun a=>(H a).isSome
def hidT(h:Heap)(H:Hp):Heap:=PySem.W.hideAll h (trk h H)
theorem hidT_size(h:Heap)(H:Hp):(hidT h H).objs.size=h.objs.size:=PySem.W.hideAll_size _ _
theorem hidT_get{h:Heap}{H:Hp}{b:Addr}{o:Obj}(e:h.get? b=some o)(n:H b=none):(hidT h H).get? b=some o:=
 PySem.W.hideAll_get _ e fun hm=>by
  have q:(H b).isSome=true:=(List.mem_filter.mp hm).2
  rw[n]at q;simp at q
theorem of_hidT{h:Heap}{H:Hp}{b:Addr}{o:Obj}(e:(hidT h H).get? b=some o):h.get? b=some o/\H b=none:=by
 have e':h.get? b=some o:=PySem.W.of_hideAll (trk h H) e
 refine⟨e',?_⟩
 cases q:H b with
 |none=>rfl
 |some x=>
  have hm:b∈trk h H:=List.mem_filter.mpr ⟨List.mem_range.mpr (Heap.lt_size e'),by simp[q]⟩
  have z:(hidT h H).get? b=none:=PySem.W.hideAll_none (trk h H) hm
  rw[z]at e;cases e
structure Mod (K:PySem.W.Frag) (mg:Str->Option Value) (base:Heap):Prop where
 kin:K.In base
 glob:base.Ns mainGlobals mg
 blt:∃mb,base.Ns builtinsNs mb/\∀x:Str,x≠"__name__"->mb x=bootBuiltins x
 nolimit:base.NoLimit
structure Cx where
 prog:Program
 w:World
 K:PySem.W.Frag
 mg:Str->Option Value
 base:Heap
 A:Around
 N:List Str
 s₀:Shared
 H₀:Hp
 env:Env
 outer:List Env
 stack:List Env
 ex:List Addr
 fn:Str->Bool
 calm:Bool
 pn:List (Addr×Obj)
 xe:Value->Shared->Prop
def frs(l:List Env):List Addr:=l.filterMap (·.frame)
abbrev Cx.fs(X:Cx):List Addr:=frs X.outer
def Vis(sc:Scope)(x:Str):Prop:=sc.names.lookup x=some .local\/sc.names.lookup x=some .cell\/sc.names.lookup x=some .free
def Loc(sc:Scope)(x:Str):Prop:=sc.names.lookup x=some .local\/sc.names.lookup x=some .cell
def Look(env:Env)(h:Heap)(m:Str->Option Value)(x:Str)(u:Value):Prop:=
 (env.kindOf x=some .local/\m x=some u)\/((env.kindOf x=some .cell\/env.kindOf x=some .free)/\∃c,env.cells.lookup x=some c/\h.IsCell c (some u))
structure Cx.Ok (X:Cx):Prop where
 mod:Mod X.K X.mg X.base
 kind:X.env.scope.kind= .function
 glob:X.env.globals=mainGlobals
 blt:X.env.builtins=builtinsNs
 above:X.s₀.heap.objs.size<=X.env.locals
 inj:∀x y c,X.env.cells.lookup x=some c->X.env.cells.lookup y=some c->x=y
 has:∀x,(X.env.kindOf x=some .cell\/X.env.kindOf x=some .free)->∃c,X.env.cells.lookup x=some c
 cab:∀x c,X.fn x=true->X.env.cells.lookup x=some c->X.s₀.heap.objs.size<=c
 hd:X.calm=true->X.A.handled=none
 frames:X.A.frames=some X.stack
 stk:X.stack=X.outer\/(X.stack=X.env::X.outer/\X.env.frame=some X.env.locals)
 exf:∀b∈X.ex,b≠X.env.locals/\∀x c,X.env.cells.lookup x=some c->c≠b
 bs:∀b o,X.base.get? b=some o->X.s₀.heap.get? b=some o/\X.H₀ b=none
 bsz:X.base.objs.size<=X.s₀.heap.objs.size
 noex:∀b o,X.base.get? b=some o->b∉X.ex
 exfs:∀b∈X.ex,b∉X.fs
 funs:X.s₀.heap.FunFrames X.base X.outer
 frf:∀b∈X.fs,X.H₀ b=none
structure Inv (X:Cx) (pins:List (Addr×Obj)) (σ:List (Option V)) (H:Hp) (s:Shared):Prop where
 ok:X.Ok
 os:s.os=X.s₀.os
 bare:AllBare s.gens
 base:Un X.fs X.ex X.H₀ H X.s₀.heap s.heap
 loc:∃m,s.heap.Ns X.env.locals m/\∀ (i:Nat) (x:Str) (v:V),X.N[i]? =some x->σ[i]? =some (some v)->Vis X.env.scope x->∃u,RelV v u/\Look X.env s.heap m x u
 cell:∀x c,X.env.cells.lookup x=some c->∃v,s.heap.IsCell c v
 free:H X.env.locals=none
 freeC:∀x c,X.env.cells.lookup x=some c->H c=none
 pin:∀p∈X.pn++pins,s.heap.get? p.1=some p.2/\H p.1=none/\p.1≠X.env.locals/\p.1∉X.fs/\∀v,p.2.data≠ .cell v
 hok:HOk X.prog X.w H s.heap
 len:σ.length=X.N.length
section
variable{X:Cx}{pins:List (Addr×Obj)}{σ:List (Option V)}{H H':Hp}{s:Shared}{h':Heap}
theorem Cx.Ok.nofr(ok:X.Ok){b:Addr}{o:Obj}(e:X.base.get? b=some o):b∉X.fs:=fun hb=>by
 have:=(ok.funs.mem hb).1
 rw[e]at this;cases this
theorem Inv.bs(I:Inv X pins σ H s):∀b o,X.base.get? b=some o->s.heap.get? b=some o/\H b=none:=fun b o e=>
 ⟨I.base.keep b o (I.ok.bs b o e).1 (I.ok.bs b o e).2 (I.ok.nofr e) (I.ok.noex b o e),I.base.free b o (I.ok.bs b o e).1 (I.ok.bs b o e).2 (I.ok.noex b o e)⟩
theorem Inv.bk(I:Inv X pins σ H s):∀b o,X.base.get? b=some o->s.heap.get? b=some o:=fun b o e=>(I.bs b o e).1
theorem Inv.mod(I:Inv X pins σ H s):Mod X.K X.mg X.base:=I.ok.mod
theorem Inv.kIn(I:Inv X pins σ H s):X.K.In s.heap:=I.ok.mod.kin.keeps I.bk
theorem Inv.fr(I:Inv X pins σ H s):∃m,Fr X.base X.env.locals s.heap m:=
 let⟨m,hn,_⟩:=I.loc
 ⟨m,hn,I.bk,Nat.le_trans I.ok.bsz I.ok.above⟩
theorem Inv.lt(I:Inv X pins σ H s):X.env.locals<s.heap.objs.size:=let⟨_,hn,_⟩:=I.loc;hn.lt
theorem Inv.sz(I:Inv X pins σ H s):X.s₀.heap.objs.size<=s.heap.objs.size:=Nat.le_trans I.ok.above (Nat.le_of_lt I.lt)
theorem Inv.nofs(I:Inv X pins σ H s){a:Addr}(h:s.heap.objs.size<=a):a∉X.fs:=fun hb=>by
 obtain⟨_,o,ho,_⟩:=I.ok.funs.mem hb
 exact absurd (Nat.lt_of_lt_of_le (Heap.lt_size ho) (Nat.le_trans I.sz h)) (Nat.lt_irrefl _)
theorem Inv.cne(I:Inv X pins σ H s):∀x c,X.env.cells.lookup x=some c->c≠X.env.locals:=fun x c e z=>by
 obtain⟨v,o,ho,hd⟩:=I.cell x c e
 obtain⟨m,⟨o',es,ep,ho',hd',_⟩,_⟩:=I.loc
 rw[z,ho']at ho;cases ho;rw[hd']at hd;cases hd
theorem Inv.funs(I:Inv X pins σ H s):s.heap.FunFrames X.base X.outer:=by
 have all:∀ (l:List Env),(∀b∈frs l,b∈X.fs)->X.s₀.heap.FunFrames X.base l->s.heap.FunFrames X.base l:=by
  intro l
  induction l with
  |nil=>intro _ _;trivial
  |cons env r ih=>
   intro hs hl
   obtain⟨hk,⟨L,o,hf,hn,ho,hd⟩,hr⟩:=hl
   have hL:L∈X.fs:=hs L (by unfold frs;rw[List.filterMap_cons,hf];exact List.mem_cons_self)
   obtain⟨sl,e⟩:=I.base.slot L o ho (I.ok.frf L hL) hL fun z=>I.ok.exfs L z hL
   exact⟨hk,⟨L,_,hf,hn,e,hd⟩,ih (fun b hb=>hs b (by unfold frs;rw[List.filterMap_cons,hf];exact List.mem_cons_of_mem _ hb)) hr⟩
 exact all X.outer (fun _ hb=>hb) I.ok.funs
theorem Inv.stack(I:Inv X pins σ H s):s.heap.FunFrames X.base X.stack:=by
 rcases I.ok.stk with e|⟨e,hf⟩
 ·rw[e];exact I.funs
 ·rw[e]
  obtain⟨m,hn,_⟩:=I.loc
  refine .cons (by rw[I.ok.kind];decide) hf hn ?_ I.funs
  exact Heap.get?_none_of_le (Nat.le_trans I.ok.bsz I.ok.above)
theorem Inv.stkSub(I:Inv X pins σ H s):∀b∈frs X.stack,b∈X.env.locals::X.fs:=fun b hb=>by
 rcases I.ok.stk with e|⟨e,hf⟩
 ·rw[e]at hb;exact List.mem_cons_of_mem _ hb
 ·rw[e]at hb
  unfold frs at hb
  rw[List.filterMap_cons,hf]at hb
  exact hb
theorem Inv.stkFree(I:Inv X pins σ H s):∀b∈frs X.stack,H b=none:=fun b hb=>by
 rcases List.mem_cons.mp (I.stkSub b hb)with e|hb
 ·rw[e];exact I.free
 ·obtain⟨_,o,ho,_⟩:=I.ok.funs.mem hb
  exact I.base.free b o ho (I.ok.frf b hb) fun z=>I.ok.exfs b z hb
theorem Inv.step{g':Array GenState}{t':Nat}{d':Drawn}{ch:List Addr}(I:Inv X pins σ H s)
 (hch:∀b∈ch,(b∈X.ex\/X.s₀.heap.objs.size<=b)/\b≠X.env.locals/\(∀x c,X.env.cells.lookup x=some c->c≠b)/\∀p∈X.pn++pins,p.1≠b)
 (keep:∀b o,b≠X.env.locals->b∉X.fs->b∉ch->s.heap.get? b=some o->H b=none->h'.get? b=some o)
 (slot:∀b o,b≠X.env.locals->b∈X.fs->b∉ch->s.heap.get? b=some o->H b=none->∃sl,h'.get? b=some {o with slots:=sl}) (free:∀b o,b∉ch->s.heap.get? b=some o->H b=none->H' b=none)
 (there:∀b o,b∉ch->s.heap.get? b=some o->∃o',h'.get? b=some o')
 (tups:∀b xs,H b=some (.tup xs)->H' b=some (.tup xs)) (frzs:∀b o u,H b=some (.frz o u)->H' b=some (.frz o u)) (tbls:∀b ps,H b=some (.tbl ps)->∃more,H' b=some (.tbl (ps++more)))
 (ns:∀m,s.heap.Ns X.env.locals m->h'.Ns X.env.locals m) (hok:HOk X.prog X.w H' h') (hg:AllBare g'):
 Inv X pins σ H' {s with heap:=h',gens:=g',drawn:=d',toks:=t'}:=by
 have neL:∀b o,X.s₀.heap.get? b=some o->b≠X.env.locals:=fun b o e=>Nat.ne_of_lt (Nat.lt_of_lt_of_le (Heap.lt_size e) I.ok.above)
 have neC:∀b o,X.s₀.heap.get? b=some o->b∉X.ex->b∉ch:=fun b o e hx hb=>by
  rcases(hch b hb).1 with z|z
  ·exact hx z
  ·exact absurd (Nat.lt_of_lt_of_le (Heap.lt_size e) z) (Nat.lt_irrefl _)
 have cellK:∀x c,X.env.cells.lookup x=some c->∀v,s.heap.IsCell c v->h'.IsCell c v:=fun x c e v ⟨o,ho,hd⟩=>by
  have nch:c∉ch:=fun z=>(hch c z).2.2.1 x c e rfl
  by_cases hc:c∈X.fs
  ·obtain⟨sl,q⟩:=slot c o (I.cne x c e) hc nch ho (I.freeC x c e)
   exact⟨_,q,hd⟩
  ·exact⟨o,keep c o (I.cne x c e) hc nch ho (I.freeC x c e),hd⟩
 refine⟨I.ok,I.os,hg,⟨fun b o e n hb hx=>?_,fun b o e n hb hx=>?_,fun b o e n hx=>?_,fun b o e hx=>?_,fun b xs e=>tups b xs (I.base.tups b xs e),fun b o xs e=>frzs b o xs (I.base.frzs b o xs e),fun b ps e=>?_⟩,?_,fun x c e=>?_,?_,fun x c e=>?_,fun p hp=>?_,hok,I.len⟩
 ·exact keep b o (neL b o e) hb (neC b o e hx) (I.base.keep b o e n hb hx) (I.base.free b o e n hx)
 ·obtain⟨sl,e1⟩:=I.base.slot b o e n hb hx
  obtain⟨sl',e2⟩:=slot b _ (neL b o e) hb (neC b o e hx) e1 (I.base.free b o e n hx)
  exact⟨sl',e2⟩
 ·obtain⟨o',e1⟩:=I.base.there b o e hx
  exact free b o' (neC b o e hx) e1 (I.base.free b o e n hx)
 ·obtain⟨o',e1⟩:=I.base.there b o e hx
  exact there b o' (neC b o e hx) e1
 ·obtain⟨m1,e1⟩:=I.base.tbls b ps e
  obtain⟨m2,e2⟩:=tbls b _ e1
  exact⟨m1++m2,by rw[e2,Array.append_assoc]⟩
 ·obtain⟨m,hn,hl⟩:=I.loc
  refine⟨m,ns m hn,fun i x v e1 e2 e3=>?_⟩
  obtain⟨u,r,l⟩:=hl i x v e1 e2 e3
  refine⟨u,r,?_⟩
  rcases l with l|⟨k,c,e,z⟩
  ·exact .inl l
  ·exact .inr ⟨k,c,e,cellK x c e _ z⟩
 ·obtain⟨v,z⟩:=I.cell x c e
  exact⟨v,cellK x c e v z⟩
 ·obtain⟨m,⟨o,_,_,ho,_⟩,_⟩:=I.loc
  exact free _ o (fun z=>(hch _ z).2.1 rfl) ho I.free
 ·obtain⟨v,o,ho,hd⟩:=I.cell x c e
  exact free c o (fun z=>(hch c z).2.2.1 x c e rfl) ho (I.freeC x c e)
 ·obtain⟨e,n,ne,nf,d⟩:=I.pin p hp
  have nch:p.1∉ch:=fun z=>(hch p.1 z).2.2.2 p hp rfl
  exact⟨keep p.1 p.2 ne nf nch e n,free p.1 p.2 nch e n,ne,nf,d⟩
theorem Inv.un{t':Nat}(I:Inv X pins σ H s)(u:Un X.fs [] H H' s.heap h')(hok:HOk X.prog X.w H' h'):Inv X pins σ H' {s with heap:=h',toks:=t'}:=by
 obtain⟨m,⟨o,es,ep,ho,r⟩,_⟩:=id I.loc
 obtain⟨sl,hL⟩:=u.any ho I.free (by simp)
 exact I.step (g':=s.gens) (d':=s.drawn) (ch:=[]) (fun _ z=>nomatch z) (fun b o _ hb _ e n=>u.keep b o e n hb (by simp)) (fun b o _ hb _ e n=>u.slot b o e n hb (by simp)) (fun b o _ e n=>u.free b o e n (by simp)) (fun b o _ e=>u.there b o e (by simp)) u.tups u.frzs u.tbls (fun m' hm=>by
  obtain⟨o',es',ep',ho',r'⟩:=hm
  rw[ho]at ho';cases ho'
  exact⟨_,es',ep',hL,r'⟩) hok I.bare
theorem Inv.call{g':Array GenState}{t':Nat}{d':Drawn}{ch:List Addr}(I:Inv X pins σ H s)(u:Un (frs X.stack) ch H H' s.heap h')(hok:HOk X.prog X.w H' h')(hg:AllBare g')
 (hch:∀b∈ch,(b∈X.ex\/X.s₀.heap.objs.size<=b)/\b≠X.env.locals/\(∀x c,X.env.cells.lookup x=some c->c≠b)/\∀p∈X.pn++pins,p.1≠b):
 Inv X pins σ H' {s with heap:=h',gens:=g',drawn:=d',toks:=t'}:=by
 obtain⟨m,⟨o,es,ep,ho,r⟩,_⟩:=id I.loc
 obtain⟨sl,hL⟩:=u.any ho I.free fun z=>(hch _ z).2.1 rfl
 exact I.step (ch:=ch) hch (fun b o hL hb hc e n=>u.keep b o e n (fun z=>(List.mem_cons.mp (I.stkSub b z)).elim hL hb) hc) (fun b o _ _ hc e n=>u.any e n hc) (fun b o hc e n=>u.free b o e n hc) (fun b o hc e=>u.there b o e hc) u.tups u.frzs u.tbls (fun m' hm=>by
  obtain⟨o',es',ep',ho',r'⟩:=hm
  rw[ho]at ho';cases ho'
  exact⟨_,es',ep',hL,r'⟩) hok hg
theorem Inv.turned{t':Nat}{it:Addr}(I:Inv X pins σ H s)(k:∀b o,b≠it->s.heap.get? b=some o->h'.get? b=some o)(hn:H it=none)(hL:it≠X.env.locals)
 (h1:it∈X.ex\/X.s₀.heap.objs.size<=it) (h2:∀x c,X.env.cells.lookup x=some c->c≠it) (h3:∀p∈X.pn++pins,p.1≠it):Inv X pins σ H {s with heap:=h',toks:=t'}:=by
 have nit:∀b u,H b=some u->b≠it:=fun b u e z=>by rw[z,hn]at e;cases e
 refine I.step (g':=s.gens) (d':=s.drawn) (ch:=[it]) (fun b hb=>?_) (fun b o _ _ hc e _=>k b o (fun z=>hc (by simp[z])) e) (fun b o _ _ hc e _=>⟨o.slots,k b o (fun z=>hc (by simp[z])) e⟩) (fun _ _ _ _ n=>n)
  (fun b o hc e=>⟨o,k b o (fun z=>hc (by simp[z])) e⟩) (fun _ _ e=>e) (fun _ _ _ e=>e) (fun b ps e=>⟨#[],by rw[e];simp⟩) (fun m hm=>?_) ⟨fun b u e=>?_,I.hok.sm,let⟨o,_,_,e,_⟩:=I.ok.mod.glob;⟨mainGlobals,o,by decide,k _ _ (fun z=>by
    rcases h1 with q|q
    ·exact I.ok.noex _ _ e (z▸q)
    ·exact absurd (Nat.lt_of_lt_of_le (Heap.lt_size e) (Nat.le_trans I.ok.bsz q)) (by rw[z];exact Nat.lt_irrefl _)) (I.bk _ _ e)⟩⟩ I.bare
 ·have e:b=it:=by simpa using hb
  subst e
  exact⟨h1,hL,h2,h3⟩
 ·obtain⟨o,es,ep,ho,r⟩:=hm
  exact⟨o,es,ep,k _ o (Ne.symm hL) ho,r⟩
 ·refine(I.hok b u e).stay (fun c v hc q=>k c v ?_ q) (fun _ q=>q) fun _ _ q=>q
  rcases hc with z|z
  ·rw[z];exact nit b u e
  ·exact nit c _ z
theorem Inv.tok(I:Inv X pins σ H s)(t:Nat):Inv X pins σ H {s with toks:=t}:=I.un (h':=s.heap) (t':=t) Un.refl I.hok
theorem Inv.kept{t':Nat}(I:Inv X pins σ H s)(k:∀b u,s.heap.get? b=some u->h'.get? b=some u):Inv X pins σ H {s with heap:=h',toks:=t'}:=I.un (Un.kept k) (I.hok.kept k)
theorem Inv.laid{a:Addr}{o:HO}{t':Nat}(I:Inv X pins σ H s)(k:∀b u,s.heap.get? b=some u->h'.get? b=some u)(hp:s.heap.objs.size<=a)(new:ObjOk X.prog X.w (upd H a o) h' a o):
 Inv X pins σ (upd H a o) {s with heap:=h',toks:=t'}:=I.un (Un.laid k hp (I.hok.fresh hp)) (I.hok.laid k hp new)
theorem Inv.write{x e:Addr}{o:HO}{t':Nat}(I:Inv X pins σ H s)(mu:Mut (H x))(he:e=x\/H e=some (.own x))(k:∀b u,b≠e->s.heap.get? b=some u->h'.get? b=some u)(heo:∃u,h'.get? e=some u)
 (new:ObjOk X.prog X.w (upd H x o) h' x o):Inv X pins σ (upd H x o) {s with heap:=h',toks:=t'}:=I.un (Un.write mu he k heo) (I.hok.write mu he k heo new)
theorem Inv.weak{σ':List (Option V)}(I:Inv X pins σ H s)(hl:σ'.length=σ.length)(w:∀ (i:Nat) v,σ'[i]? =some (some v)->σ[i]? =some (some v)):Inv X pins σ' H s:=
 ⟨I.ok,I.os,I.bare,I.base,let⟨m,hn,hl'⟩:=I.loc;⟨m,hn,fun i x v e1 e2 e3=>hl' i x v e1 (w i v e2) e3⟩,I.cell,I.free,I.freeC,I.pin,I.hok,hl.trans I.len⟩
theorem Inv.pins_of{pins':List (Addr×Obj)}(I:Inv X pins σ H s)(h:∀p∈pins',s.heap.get? p.1=some p.2/\H p.1=none/\p.1≠X.env.locals/\p.1∉X.fs/\∀v,p.2.data≠ .cell v):Inv X pins' σ H s:=
 ⟨I.ok,I.os,I.bare,I.base,I.loc,I.cell,I.free,I.freeC,fun p hp=>(List.mem_append.mp hp).elim (fun z=>I.pin p (List.mem_append_left _ z)) (h p),I.hok,I.len⟩
theorem nodup_ix{N:List Str}(hN:N.Nodup){i j:Nat}{x:Str}(a:N[i]? =some x)(b:N[j]? =some x):i=j:=by
 obtain⟨h1,e1⟩:=List.getElem?_eq_some_iff.mp a
 obtain⟨h2,e2⟩:=List.getElem?_eq_some_iff.mp b
 exact(List.getElem_inj hN).mp (e1.trans e2.symm)
theorem store_ok2{M:Model}{A:Around}{E:Value->Shared->Prop}{i:Nat}{x:Str}{v:V}{u:Value}{Q:Unit->Shared->Prop}(I:Inv X pins σ H s)(hN:X.N.Nodup)(hi:X.N[i]? =some x)(hx:Loc X.env.scope x)(r:RelV v u)
 (h:∀s',Inv X pins (σ.set i (some v)) H s'->(∃a,Heap.SameBut a s.heap s'.heap/\(a=X.env.locals\/X.env.cells.lookup x=some a))->Q () s') (hf:X.fn x=true\/X.env.scope.names.lookup x=some .local:=by first|exact .inl rfl|exact .inr rfl|assumption):wpAny M A (storeName X.env x u) Q E s:=by
 obtain⟨m,hn,hl⟩:=id I.loc
 have hcls:(X.env.scope.kind== .class||(X.env.scope.kind== .module&&X.env.locals !=X.env.globals))=false:=by rw[I.ok.kind];rfl
 have hiσ:i<σ.length:=by rw[I.len];exact(List.getElem?_eq_some_iff.mp hi).1
 have cne:=I.cne
 have tracked:∀ {a:Addr} {h':Heap},(∃o,s.heap.get? a=some o/\H a=none)->Heap.SameBut a s.heap h'->(∃o',h'.get? a=some o')->HOk X.prog X.w H h':=fun{a h'} ha hs hz=>by
  refine⟨fun b ob e=>?_,I.hok.sm,?_⟩
  rotate_left
  ·obtain⟨b,o,l,e⟩:=I.hok.bg
   by_cases hb:b=a
   ·obtain⟨v,hv⟩:=hz
    exact⟨a,v,hb▸l,hv⟩
   ·exact⟨b,o,l,(hs.2 b hb).trans e⟩
  obtain⟨_,_,hfree⟩:=ha
  refine(I.hok b ob e).stay (fun c w' hc q=>(hs.2 c ?_).trans q) (fun _ q=>q) fun _ _ q=>q
  rintro rfl
  rcases hc with rfl|hc
  ·rw[hfree]at e;cases e
  ·rw[hfree]at hc;cases hc
 rcases hx with hk|hk
 ·refine wpAny_storeName_local hk hn (fun h' hn' hs=>?_) hcls
  obtain⟨oL,_,_,hoL,_⟩:=id hn
  refine h _ ⟨I.ok,I.os,I.bare,⟨fun b o e n hb hx=>?_,fun b o e n hb hx=>?_,I.base.free,fun b o e hx=>?_,I.base.tups,I.base.frzs,I.base.tbls⟩,⟨_,hn',fun j y v' e1 e2 e3=>?_⟩,fun y c e=>?_,I.free,I.freeC,fun p hp=>?_,tracked ⟨oL,hoL,I.free⟩ hs (let⟨o,_,_,e,_⟩:=hn';⟨o,e⟩),by simpa using I.len⟩ ⟨_,hs, .inl rfl⟩
  ·exact(hs.2 b (Nat.ne_of_lt (Nat.lt_of_lt_of_le (Heap.lt_size e) I.ok.above))).trans (I.base.keep b o e n hb hx)
  ·obtain⟨sl,e1⟩:=I.base.slot b o e n hb hx
   exact⟨sl,(hs.2 b (Nat.ne_of_lt (Nat.lt_of_lt_of_le (Heap.lt_size e) I.ok.above))).trans e1⟩
  ·obtain⟨o',e1⟩:=I.base.there b o e hx
   exact⟨o',(hs.2 b (Nat.ne_of_lt (Nat.lt_of_lt_of_le (Heap.lt_size e) I.ok.above))).trans e1⟩
  ·by_cases hj:j=i
   ·subst hj
    rw[hi]at e1;cases e1
    rw[List.getElem?_set_self hiσ]at e2
    cases e2
    exact⟨u,r, .inl ⟨hk,by simp⟩⟩
   ·rw[List.getElem?_set_ne (Ne.symm hj)]at e2
    obtain⟨u',r',q⟩:=hl j y v' e1 e2 e3
    refine⟨u',r',?_⟩
    rcases q with⟨k,e⟩|⟨k,c,e,z⟩
    ·refine .inl ⟨k,?_⟩
     have:y≠x:=fun e=>hj (nodup_ix hN e1 (e▸hi))
     simp[this,e]
    ·exact .inr ⟨k,c,e,z.sameBut hs (cne y c e)⟩
  ·obtain⟨w',z⟩:=I.cell y c e
   exact⟨w',z.sameBut hs (cne y c e)⟩
  ·obtain⟨e,n,ne,nf,d⟩:=I.pin p hp
   exact⟨(hs.2 p.1 ne).trans e,n,ne,nf,d⟩
 ·have hfn:X.fn x=true:=by
   rcases hf with z|z
   ·exact z
   ·rw[z]at hk;cases hk
  obtain⟨c,hc⟩:=I.ok.has x (.inl hk)
  obtain⟨w',z⟩:=I.cell x c hc
  refine wpAny_storeName_cell I.ok.kind hk hc z (fun h' hc' hs=>?_)
  obtain⟨oc,hoc,hocd⟩:=id z
  refine h {s with heap:=h'} ⟨I.ok,I.os,I.bare,⟨fun b o e n hb hx=>?_,fun b o e n hb hx=>?_,I.base.free,fun b o e hx=>?_,I.base.tups,I.base.frzs,I.base.tbls⟩,⟨m,hn.sameBut hs (Ne.symm (cne x c hc)),fun j y v' e1 e2 e3=>?_⟩,fun y c' e=>?_,I.free,I.freeC,fun p hp=>?_,tracked ⟨oc,hoc,I.freeC x c hc⟩ hs (let⟨o,e,_⟩:=hc';⟨o,e⟩),by simpa using I.len⟩ ⟨c,hs, .inr hc⟩
  ·exact(hs.2 b (Nat.ne_of_lt (Nat.lt_of_lt_of_le (Heap.lt_size e) (I.ok.cab x c hfn hc)))).trans (I.base.keep b o e n hb hx)
  ·obtain⟨sl,e1⟩:=I.base.slot b o e n hb hx
   exact⟨sl,(hs.2 b (Nat.ne_of_lt (Nat.lt_of_lt_of_le (Heap.lt_size e) (I.ok.cab x c hfn hc)))).trans e1⟩
  ·obtain⟨o',e1⟩:=I.base.there b o e hx
   exact⟨o',(hs.2 b (Nat.ne_of_lt (Nat.lt_of_lt_of_le (Heap.lt_size e) (I.ok.cab x c hfn hc)))).trans e1⟩
  ·by_cases hj:j=i
   ·subst hj
    rw[hi]at e1;cases e1
    rw[List.getElem?_set_self hiσ]at e2
    cases e2
    exact⟨u,r, .inr ⟨.inl hk,c,hc,hc'⟩⟩
   ·rw[List.getElem?_set_ne (Ne.symm hj)]at e2
    obtain⟨u',r',q⟩:=hl j y v' e1 e2 e3
    refine⟨u',r',?_⟩
    rcases q with q|⟨k,c',e,z'⟩
    ·exact .inl q
    ·refine .inr ⟨k,c',e,z'.sameBut hs ?_⟩
     rintro rfl
     exact hj (nodup_ix hN e1 (I.ok.inj _ _ _ e hc▸hi))
  ·by_cases hcc:c'=c
   ·subst hcc;exact⟨_,hc'⟩
   ·obtain⟨w2,z2⟩:=I.cell y c' e
    exact⟨w2,z2.sameBut hs hcc⟩
  ·obtain⟨e,n,ne,nf,d⟩:=I.pin p hp
   refine⟨(hs.2 p.1 ?_).trans e,n,ne,nf,d⟩
   intro q
   rw[q,hoc]at e
   have q':oc=p.2:=Option.some.inj e
   exact d w' (by rw[<-q'];exact hocd)
theorem store_ok{M:Model}{A:Around}{E:Value->Shared->Prop}{i:Nat}{x:Str}{v:V}{u:Value}{Q:Unit->Shared->Prop}(I:Inv X pins σ H s)(hN:X.N.Nodup)(hi:X.N[i]? =some x)(hx:Loc X.env.scope x)(r:RelV v u)
 (h:∀s',Inv X pins (σ.set i (some v)) H s'->Q () s') (hf:X.fn x=true\/X.env.scope.names.lookup x=some .local:=by first|exact .inl rfl|exact .inr rfl|assumption):wpAny M A (storeName X.env x u) Q E s:=
 store_ok2 I hN hi hx r (fun s' I' _=>h s' I') hf
theorem Inv.call'{s':Shared}{ch:List Addr}(I:Inv X pins σ H s)(ho:s'.os=s.os)(u:Un (frs X.stack) ch H H' s.heap s'.heap)(hok:HOk X.prog X.w H' s'.heap)(hg:AllBare s'.gens)
 (hch:∀b∈ch,(b∈X.ex\/X.s₀.heap.objs.size<=b)/\b≠X.env.locals/\(∀x c,X.env.cells.lookup x=some c->c≠b)/\∀p∈X.pn++pins,p.1≠b):Inv X pins σ H' s':=by
 obtain⟨h',g',d',t',o'⟩:=s'
 have e:o'=s.os:=ho
 subst e
 exact I.call (g':=g') (t':=t') (d':=d') u hok hg hch
end
abbrev XK:=Value->Option Addr->Hp->Prop
abbrev St:=List (Option V)
abbrev VK:=V->Hp->Prop
abbrev TE:=St->Hp->VK->Prop
abbrev TT:=St->Hp->(Bool->Hp->Prop)->Prop
abbrev TA:=St->Hp->(List V->Hp->Prop)->Prop
structure Ends where
 nx:St->Hp->Prop
 rt:VK
 bk:St->Hp->Prop:=fun _ _=>False
 ct:St->Hp->Prop:=fun _ _=>False
abbrev TS:=Ends->St->Hp->Prop
def EP(X:Cx)(pins:List (Addr×Obj))(σ:St)(Q:VK)(u:Value)(s':Shared):Prop:=∃v H',Inv X pins σ H' s'/\RelV v u/\Q v H'
def TP(X:Cx)(pins:List (Addr×Obj))(σ:St)(Q:Bool->Hp->Prop)(b:Bool)(s':Shared):Prop:=∃H',Inv X pins σ H' s'/\Q b H'
def AP(X:Cx)(pins:List (Addr×Obj))(σ:St)(Q:List V->Hp->Prop)(us:List Value)(s':Shared):Prop:=∃vs H',Inv X pins σ H' s'/\Vals vs us/\Q vs H'
def SP(X:Cx)(pins:List (Addr×Obj))(D:Ends)(f:Flow)(s':Shared):Prop:=
 match f with
 | .next=>∃σ' H',Inv X pins σ' H' s'/\D.nx σ' H'
 | .brk=>∃σ' H',Inv X pins σ' H' s'/\D.bk σ' H'
 | .cont=>∃σ' H',Inv X pins σ' H' s'/\D.ct σ' H'
 | .ret u=>∃v σ' H',Inv X pins σ' H' s'/\RelV v u/\D.rt v H'
def PE(X:Cx)(e:Expr)(t:TE):Prop:=
 ∀ (pins:List (Addr×Obj)) (s:Shared) (σ:St) (H:Hp) (Q:VK),Inv X pins σ H s->t σ H Q->wpAny (model X.prog X.w) X.A (eval e X.env) (EP X pins σ Q) X.xe s
def PT(X:Cx)(e:Expr)(t:TT):Prop:=
 ∀ (pins:List (Addr×Obj)) (s:Shared) (σ:St) (H:Hp) (Q:Bool->Hp->Prop),Inv X pins σ H s->t σ H Q->wpAny (model X.prog X.w) X.A (isTrue e X.env (eval e X.env)) (TP X pins σ Q) X.xe s
def PW(X:Cx)(e:Expr)(t:TT):Prop:=
 ∀ (whole:Sem Value) (pins:List (Addr×Obj)) (s:Shared) (σ:St) (H:Hp) (Q:Bool->Hp->Prop),Inv X pins σ H s->t σ H Q->wpAny (model X.prog X.w) X.A (isTrue e X.env whole) (TP X pins σ Q) X.xe s
theorem PW.pt{X:Cx}{e:Expr}{t:TT}(h:PW X e t):PT X e t:=h _
def PA(X:Cx)(es:List Expr)(t:TA):Prop:=
 ∀ (pos:Pos) (pins:List (Addr×Obj)) (s:Shared) (σ:St) (H:Hp) (Q:List V->Hp->Prop),Inv X pins σ H s->t σ H Q->wpAny (model X.prog X.w) X.A (spliced (backTo pos (starEach es X.env))) (AP X pins σ Q) X.xe s
def PS(X:Cx)(st:Stmt)(t:TS):Prop:=
 ∀ (pins:List (Addr×Obj)) (s:Shared) (σ:St) (H:Hp) (D:Ends),Inv X pins σ H s->t D σ H->wpAny (model X.prog X.w) X.A (exec st X.env) (SP X pins D) X.xe s
def PSs(X:Cx)(st:List Stmt)(t:TS):Prop:=
 ∀ (pins:List (Addr×Obj)) (s:Shared) (σ:St) (H:Hp) (D:Ends),Inv X pins σ H s->t D σ H->wpAny (model X.prog X.w) X.A (execs st X.env) (SP X pins D) X.xe s
theorem thn{α:Type}{t:Sem α}{Q Q':α->Shared->Prop}{M:Model}{A:Around}{E:Value->Shared->Prop}{s:Shared}(h:wpAny M A t Q E s)(hQ:∀a s,Q a s->Q' a s):wpAny M A t Q' E s:=wpAny_mono h hQ fun _ _ x=>x
section
variable{X:Cx}
def tVar(i:Nat):TE:=fun σ H Q=>∃v,σ[i]? =some (some v)/\Q v H
def tC(v:V):TE:=fun _ H Q=>Q v H
theorem pe_var{i:Nat}{x:Str}{pos:Pos}(hN:X.N[i]? =some x)(hv:Vis X.env.scope x)(hd:(x==("__debug__":Str))=false:=by decide)(hcd:(x==("__classdict__":Str))=false:=by decide):PE X (.Name x pos) (tVar i):=by
 intro pins s σ H Q I h
 obtain⟨v,e,h⟩:=h
 obtain⟨m,hn,hl⟩:=I.loc
 obtain⟨u,r,l⟩:=hl i x v hN e hv
 have fin:EP X pins σ Q u s:=⟨v,H,I,r,h⟩
 rcases l with⟨hk,hm⟩|⟨hk,c,hc,hcell⟩
 ·exact wpAny_Name (wpAny_loadName_local I.ok.kind hk hn hm fin) hd
 ·rcases hk with hk|hk
  ·exact wpAny_Name (wpAny_loadName_cell I.ok.kind hk hc hcell fin) hd
  ·exact wpAny_Name (wpAny_loadName_free I.ok.kind hk hc hcell fin hcd) hd
theorem pe_int{i j pos}:PE X (.Constant (.int i) j pos) (tC (.int i)):=fun _ _ _ H _ I h=>wpAny_Constant_int ⟨.int i,H,I.tok _,⟨_,rfl⟩,h⟩
theorem pe_bl{b j pos}:PE X (.Constant (.bool b) j pos) (tC (.bl b)):=fun _ _ _ H _ I h=>Constant_bool ⟨.bl b,H,I,rfl,h⟩
theorem pe_non{j pos}:PE X (.Constant .none j pos) (tC .non):=fun _ _ _ H _ I h=>Constant_none ⟨.non,H,I,rfl,h⟩
theorem pe_str{x j pos}:PE X (.Constant (.str x) j pos) (tC (.str x)):=fun _ _ _ H _ I h=>Calls.Constant_str ⟨.str x,H,I.tok _,⟨_,rfl⟩,h⟩
def Gl(X:Cx)(x:Str):Prop:=X.env.kindOf x=some .globalImplicit
theorem ld_glob{E:Value->Shared->Prop}{pins:List (Addr×Obj)}{s:Shared}{σ:St}{H:Hp}{x:Str}{u:Value}{pos:Pos}{Q:Value->Shared->Prop}(I:Inv X pins σ H s)(hg:Gl X x)(hm:X.mg x=some u)(h:Q u s)
 (hd:(x==("__debug__":Str))=false:=by decide):wpAny (model X.prog X.w) X.A (eval (.Name x pos) X.env) Q E s:=
 Calls.Name_function_global I.ok.kind hg (Calls.loadGlobal_global (by rw[I.ok.glob];exact I.mod.glob.keeps I.bk) hm h) hd
theorem ld_blt{E:Value->Shared->Prop}{pins:List (Addr×Obj)}{s:Shared}{σ:St}{H:Hp}{x:Str}{u:Value}{pos:Pos}{Q:Value->Shared->Prop}(I:Inv X pins σ H s)(hg:Gl X x)(hm:X.mg x=none)(hv:bootBuiltins x=some u)(h:Q u s)
 (hn:x≠"__name__":=by decide) (hd:(x==("__debug__":Str))=false:=by decide):wpAny (model X.prog X.w) X.A (eval (.Name x pos) X.env) Q E s:=by
 obtain⟨mb,h1,h2⟩:=I.mod.blt
 exact Calls.Name_function_global I.ok.kind hg (Calls.loadGlobal_builtin (by rw[I.ok.glob];exact I.mod.glob.keeps I.bk) hm (by rw[I.ok.blt];exact h1.keeps I.bk) ((h2 x hn).trans hv) h) hd
theorem pe_glob{x:Str}{v:V}{u:Value}{pos:Pos}(hg:Gl X x)(hm:X.mg x=some u)(r:RelV v u)(hd:(x==("__debug__":Str))=false:=by decide):PE X (.Name x pos) (tC v):=
 fun _ _ _ H _ I h=>ld_glob I hg hm ⟨v,H,I,r,h⟩ hd
theorem pe_bltn{x:Str}{v:V}{u:Value}{pos:Pos}(hg:Gl X x)(hm:X.mg x=none)(hv:bootBuiltins x=some u)(r:RelV v u)(hn:x≠"__name__":=by decide)(hd:(x==("__debug__":Str))=false:=by decide):PE X (.Name x pos) (tC v):=
 fun _ _ _ H _ I h=>ld_blt I hg hm hv ⟨v,H,I,r,h⟩ hn hd
variable{a b:Expr}{ta tb:TE}{pos:Pos}
variable{tA tB':TT}{rest:List Expr}
def tAnd(t u:TT):TT:=fun σ H Q=>t σ H fun c H1=>if c=true then u σ H1 Q else Q false H1
def tOr(t u:TT):TT:=fun σ H Q=>t σ H fun c H1=>if c=true then Q true H1 else u σ H1 Q
def tNot(t:TT):TT:=fun σ H Q=>t σ H fun c H1=>Q (!c) H1
theorem pw_and1(ha:PT X a tA):PW X (.BoolOp .And [a] pos) tA:=by
 intro wh pins s σ H Q I h
 refine isTrue_and (thn (ha pins s σ H Q I h) fun c s1 e=>?_)
 cases c with
 |true=>exact isTrue_and_nil e
 |false=>exact e
theorem pw_or1(ha:PT X a tA):PW X (.BoolOp .Or [a] pos) tA:=by
 intro wh pins s σ H Q I h
 refine isTrue_or (thn (ha pins s σ H Q I h) fun c s1 e=>?_)
 cases c with
 |false=>exact isTrue_or_nil e
 |true=>exact e
theorem pw_and(ha:PT X a tA)(hb:PW X (.BoolOp .And (b::rest) pos) tB'):PW X (.BoolOp .And (a::b::rest) pos) (tAnd tA tB'):=by
 intro wh pins s σ H Q I h
 refine isTrue_and (thn (ha pins s σ H _ I h) fun c s1 ⟨H1,I1,q1⟩=>?_)
 cases c with
 |true=>exact hb wh pins s1 σ H1 Q I1 q1
 |false=>exact⟨H1,I1,q1⟩
theorem pw_or(ha:PT X a tA)(hb:PW X (.BoolOp .Or (b::rest) pos) tB'):PW X (.BoolOp .Or (a::b::rest) pos) (tOr tA tB'):=by
 intro wh pins s σ H Q I h
 refine isTrue_or (thn (ha pins s σ H _ I h) fun c s1 ⟨H1,I1,q1⟩=>?_)
 cases c with
 |true=>exact⟨H1,I1,q1⟩
 |false=>exact hb wh pins s1 σ H1 Q I1 q1
theorem pt_not(ha:PT X a tA):PT X (.UnaryOp .Not a pos) (tNot tA):=by
 intro pins s σ H Q I h
 exact isTrue_not (ha pins s σ H (fun c H1=>Q (!c) H1) I h)
def tAndV(ta tb:TE):TE:=fun σ H Q=>ta σ H fun x H1=>∃c,x= .bl c/\if c=true then tb σ H1 Q else Q (.bl false) H1
def tOrV(ta tb:TE):TE:=fun σ H Q=>ta σ H fun x H1=>∃c,x= .bl c/\if c=true then Q (.bl true) H1 else tb σ H1 Q
def tNotV(ta:TE):TE:=fun σ H Q=>ta σ H fun x H1=>∃c,x= .bl c/\Q (.bl (!c)) H1
theorem pe_one{op}{t:TE}(h:PE X a t):PE X (.BoolOp op [a] pos) t:=fun pins s σ H Q I hw=>BoolOp_one (h pins s σ H Q I hw)
theorem pe_and(ha:PE X a ta)(hb:PE X (.BoolOp .And (b::rest) pos) tb):PE X (.BoolOp .And (a::b::rest) pos) (tAndV ta tb):=by
 intro pins s σ H Q I h
 refine BoolOp_and (thn (ha pins s σ H _ I h) fun v s1 ⟨x,H1,I1,r1,q1⟩=>?_)
 obtain⟨c,rfl,q1⟩:=q1
 cases r1
 refine wpAny_truthy_bool ?_
 cases c with
 |true=>exact hb pins s1 σ H1 Q I1 q1
 |false=>exact⟨.bl false,H1,I1,rfl,q1⟩
theorem pe_or(ha:PE X a ta)(hb:PE X (.BoolOp .Or (b::rest) pos) tb):PE X (.BoolOp .Or (a::b::rest) pos) (tOrV ta tb):=by
 intro pins s σ H Q I h
 refine BoolOp_or (thn (ha pins s σ H _ I h) fun v s1 ⟨x,H1,I1,r1,q1⟩=>?_)
 obtain⟨c,rfl,q1⟩:=q1
 cases r1
 refine wpAny_truthy_bool ?_
 cases c with
 |false=>exact hb pins s1 σ H1 Q I1 q1
 |true=>exact⟨.bl true,H1,I1,rfl,q1⟩
theorem pe_not(ha:PE X a ta):PE X (.UnaryOp .Not a pos) (tNotV ta):=by
 intro pins s σ H Q I h
 refine UnaryOp_ (thn (ha pins s σ H _ I h) fun v s1 ⟨x,H1,I1,r1,q1⟩=>?_)
 obtain⟨c,rfl,q1⟩:=q1
 cases r1
 exact not_of (wpAny_truthy_bool ⟨.bl (!c),H1,I1,rfl,q1⟩)
def tIf(t:TT)(ta tb:TE):TE:=fun σ H Q=>t σ H fun c H1=>if c=true then ta σ H1 Q else tb σ H1 Q
theorem pe_ifExp{c:Expr}(hc:PT X c tA)(ha:PE X a ta)(hb:PE X b tb):PE X (.IfExp c a b pos) (tIf tA ta tb):=by
 intro pins s σ H Q I h
 refine wpAny_IfExp (thn (hc pins s σ H _ I h) fun d s1 ⟨H1,I1,q1⟩=>?_)
 cases d with
 |true=>exact ha pins s1 σ H1 Q I1 q1
 |false=>exact hb pins s1 σ H1 Q I1 q1
end
def SqL(K:PySem.W.Frag)(H:Hp)(a:Addr)(xs:List V):Prop:=
 Rd H a (.lst xs)\/
  ∃ (o:Obj) (its:Array Value) (n:Nat),K.lookup a=some o/\o.cls= .type "list"/\o.dict=none/\o.data= .seq its n/\its.size<=sizeLine/\Vals xs its.toList
def SqT(K:PySem.W.Frag)(H:Hp)(a:Addr)(xs:List V):Prop:=
 Rd H a (.tup xs)\/
  ∃ (o:Obj) (its:Array Value) (n:Nat),K.lookup a=some o/\o.cls= .type "tuple"/\o.data= .seq its n/\its.size<=sizeLine/\Vals xs its.toList
def absV:Value->Option V
 | .none=>some .non
 | .bool b=>some (.bl b)
 | .int i _=>some (.int i)
 | .str x _=>some (.str x)
 | .bytes b _=>some (.byt b)
 | .float b _=>some (.flt b)
 | .ref a=>some (.ref a)
 | .type n=>some (.ty n)
 |_=>none
theorem RelV.abs{x:V}{u:Value}(r:RelV x u):absV u=some x:=by
 cases x with
 |non=>cases r;rfl
 |bl _=>cases r;rfl
 |int _=>obtain⟨t,rfl⟩:=r;rfl
 |str _=>obtain⟨t,rfl⟩:=r;rfl
 |byt _=>obtain⟨t,rfl⟩:=r;rfl
 |flt _=>obtain⟨t,rfl⟩:=r;rfl
 |ref _=>cases r;rfl
 |ty _=>cases r;rfl
theorem RelV.inj{x y:V}{u:Value}(r:RelV x u)(q:RelV y u):x=y:=Option.some.inj (r.abs.symm.trans q.abs)
theorem Vals.inj:∀ {xs ys:List V} {us:List Value},Vals xs us->Vals ys us->xs=ys
 |_,_,_, .nil, .nil=>rfl
 |_,_,_, .cons r t, .cons r' t'=>by rw[r.inj r',Vals.inj t t']
section
variable{X:Cx}{pins:List (Addr×Obj)}{σ:St}{H:Hp}{s:Shared}{a:Addr}{xs ys:List V}
theorem SqL.of{K:PySem.W.Frag}(h:H a=some (.lst xs)):SqL K H a xs:= .inl (.inl h)
theorem SqT.of{K:PySem.W.Frag}(h:H a=some (.tup xs)):SqT K H a xs:= .inl (.inl h)
theorem Inv.list(I:Inv X pins σ H s)(h:SqL X.K H a xs):∃its:List Value,Vals xs its/\PlainL s.heap a its.toArray/\xs.length<=sizeLine:=by
 rcases h with h|⟨o,its,n,hk,hc,hd,hs,hz,r⟩
 ·obtain⟨z,its,n,r,e⟩:=h.ok I.hok
  exact⟨its,r,⟨_,n,e,rfl,rfl,rfl⟩,z⟩
 ·refine⟨its.toList,r,⟨o,n,I.kIn a o hk,hc,hd,by simpa using hs⟩,?_⟩
  have e:=r.length
  simp only[Array.length_toList]at e
  omega
theorem Inv.tuple(I:Inv X pins σ H s)(h:SqT X.K H a xs):∃its:List Value,Vals xs its/\IsTup s.heap a its.toArray/\xs.length<=sizeLine:=by
 rcases h with h|⟨o,its,n,hk,hc,hs,hz,r⟩
 ·obtain⟨z,its,r,p⟩:=h.ok I.hok
  exact⟨its,r,p,z⟩
 ·refine⟨its.toList,r,⟨o,I.kIn a o hk,hc,n,by simpa using hs⟩,?_⟩
  have e:=r.length
  simp only[Array.length_toList]at e
  omega
theorem Inv.list_inj(I:Inv X pins σ H s)(h:SqL X.K H a xs)(h':SqL X.K H a ys):xs=ys:=by
 obtain⟨its,r,⟨o,n,e,_,_,d⟩,_⟩:=I.list h
 obtain⟨its',r',⟨o',n',e',_,_,d'⟩,_⟩:=I.list h'
 rw[e]at e';cases e'
 rw[d]at d'
 injection d' with d1 _
 have:its=its':=by simpa using congrArg Array.toList d1
 subst this
 exact r.inj r'
end
abbrev Cx.wish(X:Cx)(E:Value->Shared->Prop):Cx:={X with xe:=E}
abbrev Cx.nox(X:Cx):Cx:=X.wish fun _ _=>False
theorem Cx.Ok.wish{X:Cx}(ok:X.Ok)(E:Value->Shared->Prop):(X.wish E).Ok:=
 ⟨ok.mod,ok.kind,ok.glob,ok.blt,ok.above,ok.inj,ok.has,ok.cab,ok.hd,ok.frames,ok.stk,ok.exf,ok.bs,ok.bsz,ok.noex,ok.exfs,ok.funs,ok.frf⟩
theorem Cx.Ok.unwish{X:Cx}{E:Value->Shared->Prop}(ok:(X.wish E).Ok):X.Ok:=
 ⟨ok.mod,ok.kind,ok.glob,ok.blt,ok.above,ok.inj,ok.has,ok.cab,ok.hd,ok.frames,ok.stk,ok.exf,ok.bs,ok.bsz,ok.noex,ok.exfs,ok.funs,ok.frf⟩
section
variable{X:Cx}{pins:List (Addr×Obj)}{σ:St}{H:Hp}{s:Shared}{E:Value->Shared->Prop}
theorem Inv.wish(I:Inv X pins σ H s)(E:Value->Shared->Prop):Inv (X.wish E) pins σ H s:=⟨I.ok.wish E,I.os,I.bare,I.base,I.loc,I.cell,I.free,I.freeC,I.pin,I.hok,I.len⟩
theorem Inv.unwish(I:Inv (X.wish E) pins σ H s):Inv X pins σ H s:=⟨I.ok.unwish,I.os,I.bare,I.base,I.loc,I.cell,I.free,I.freeC,I.pin,I.hok,I.len⟩
theorem SP.unwish{D:Ends}{f:Flow}{s':Shared}(h:SP (X.wish E) pins D f s'):SP X pins D f s':=by
 cases f with
 |next=>obtain⟨σ',H',I,q⟩:=h;exact⟨σ',H',I.unwish,q⟩
 |brk=>obtain⟨σ',H',I,q⟩:=h;exact⟨σ',H',I.unwish,q⟩
 |cont=>obtain⟨σ',H',I,q⟩:=h;exact⟨σ',H',I.unwish,q⟩
 |ret u=>obtain⟨v,σ',H',I,r,q⟩:=h;exact⟨v,σ',H',I.unwish,r,q⟩
theorem PSs.nox{st:List Stmt}{t:TS}(h:PSs X.nox st t):PSs X st t:=fun pins s σ H D I hw=>
 wpAny_mono (h pins s σ H D (I.wish _) hw) (fun _ _ q=>q.unwish) fun _ _ z=>False.elim z
end
section
variable{X:Cx}{st:Stmt}{rest:List Stmt}{t u:TS}{e:Expr}{te:TE}{pos:Pos}
def tNext:TS:=fun D σ H=>D.nx σ H
def tSeq(t u:TS):TS:=fun D σ H=>t {D with nx:=u D} σ H
theorem pss_nil:PSs X [] tNext:=fun _ _ σ H _ I h=>wpAny_execs_nil ⟨σ,H,I,h⟩
theorem pss_cons(h1:PS X st t)(h2:PSs X rest u):PSs X (st::rest) (tSeq t u):=by
 intro pins s σ H D I h
 refine wpAny_execs_cons (thn (h1 pins s σ H {D with nx:=u D} I h) fun f s1 q=>?_)
 cases f with
 |next=>
  obtain⟨σ',H',I',q⟩:=q
  exact h2 pins s1 σ' H' D I' q
 |ret v=>exact q
 |brk=>exact q
 |cont=>exact q
theorem pss_one(h1:PS X st t):PSs X [st] t:=by
 intro pins s σ H D I h
 refine wpAny_execs_cons (thn (h1 pins s σ H D I h) fun f s1 q=>?_)
 cases f with
 |next=>exact wpAny_execs_nil q
 |ret v=>exact q
 |brk=>exact q
 |cont=>exact q
def tCont:TS:=fun D σ H=>D.ct σ H
theorem ps_continue:PS X (.Continue pos) tCont:=fun _ _ σ H _ I h=>wpAny_Continue ⟨σ,H,I,h⟩
theorem Inv.quiet{pins:List (Addr×Obj)}{σ:St}{H:Hp}{s:Shared}(I:Inv X pins σ H s):interactive X.env=false:=by simp[interactive,I.ok.kind]
def tDrop(te:TE):TS:=fun D σ H=>te σ H fun _ H1=>D.nx σ H1
theorem ps_expr(he:PE X e te)(hs:swapsWith e none pos.line X.env=pure false:=by rfl):PS X (.Expr e pos) (tDrop te):=by
 intro pins s σ H D I h
 exact wpAny_Expr_any (thn (he pins s σ H _ I h) fun v s1 ⟨x,H1,I1,r1,q1⟩=>⟨σ,H1,I1,q1⟩) I.quiet hs
def tRet(te:TE):TS:=fun D σ H=>te σ H D.rt
theorem ps_ret(he:PE X e te):PS X (.Return (some e) pos) (tRet te):=by
 intro pins s σ H D I h
 exact wpAny_Return_some (thn (he pins s σ H _ I h) fun v s1 ⟨x,H1,I1,r1,q1⟩=>⟨x,σ,H1,I1,r1,q1⟩)
def tIfS(c:TT)(t u:TS):TS:=fun D σ H=>c σ H fun b H1=>if b=true then t D σ H1 else u D σ H1
theorem ps_if{c:Expr}{a b:List Stmt}{tc:TT}(hc:PT X c tc)(ha:PSs X a t)(hb:PSs X b u):PS X (.If c a b pos) (tIfS tc t u):=by
 intro pins s σ H D I h
 refine wpAny_If (thn (hc pins s σ H _ I h) fun d s1 ⟨H1,I1,q1⟩=>?_)
 cases d with
 |true=>exact ha pins s1 σ H1 D I1 q1
 |false=>exact hb pins s1 σ H1 D I1 q1
def tNever:TS:=fun _ _ _=>False
theorem ps_never:PS X st tNever:=fun _ _ _ _ _ _ h=>h.elim
end
abbrev TG:=V->St->Hp->(St->Hp->Prop)->Prop
abbrev TGs:=List V->St->Hp->(St->Hp->Prop)->Prop
def PG(X:Cx)(target:Expr)(t:TG):Prop:=
 ∀ (pins:List (Addr×Obj)) (s:Shared) (σ:St) (H:Hp) (v:V) (u:Value) (Q:St->Hp->Prop),Inv X pins σ H s->RelV v u->t v σ H Q->
   wpAny (model X.prog X.w) X.A (assign target X.env u) (fun _ s'=>∃σ' H',Inv X pins σ' H' s'/\Q σ' H') X.xe s
def PGs(X:Cx)(ts:List Expr)(t:TGs):Prop:=
 ∀ (pins:List (Addr×Obj)) (s:Shared) (σ:St) (H:Hp) (vs:List V) (us:List Value) (Q:St->Hp->Prop),Inv X pins σ H s->Vals vs us->t vs σ H Q->
   wpAny (model X.prog X.w) X.A (assignInOrder ((assignEach ts X.env).map (·.2)) us) (fun _ s'=>∃σ' H',Inv X pins σ' H' s'/\Q σ' H') X.xe s
abbrev TSet:=V->V->V->Hp->(Hp->Prop)->Prop
def PSet(X:Cx)(t:TSet):Prop:=
 ∀ (pins:List (Addr×Obj)) (s:Shared) (σ:St) (H:Hp) (o i v:V) (ov iv u:Value) (Q:Hp->Prop),Inv X pins σ H s->RelV o ov->RelV i iv->RelV v u->t o i v H Q->
   wpAny (model X.prog X.w) X.A (setItem ov iv u) (fun _ s'=>∃H',Inv X pins σ H' s'/\Q H') X.xe s
abbrev TIp:=V->V->Hp->VK->Prop
def PIp(X:Cx)(op:Operator)(t:TIp):Prop:=
 ∀ (pins:List (Addr×Obj)) (s:Shared) (σ:St) (H:Hp) (x y:V) (v u:Value) (Q:VK),Inv X pins σ H s->RelV x v->RelV y u->t x y H Q->
   wpAny (model X.prog X.w) X.A (inplaceOp op v u) (EP X pins σ Q) X.xe s
section
variable{X:Cx}{pos:Pos}
def gName(i:Nat):TG:=fun v σ H Q=>Q (σ.set i (some v)) H
theorem pg_name{i:Nat}{x:Str}(hN:X.N.Nodup)(hi:X.N[i]? =some x)(hx:Loc X.env.scope x)(hf:X.fn x=true\/X.env.scope.names.lookup x=some .local:=by first|exact .inl rfl|exact .inr rfl|assumption):PG X (.Name x pos) (gName i):=by
 intro pins s σ H v u Q I r h
 exact wpAny_assign_Name (store_ok I hN hi hx r (fun s' I'=>⟨_,H,I',h⟩) hf)
def gNil:TGs:=fun vs σ H Q=>vs=[]/\Q σ H
def gCons(t:TG)(u:TGs):TGs:=fun vs σ H Q=>∃v r,vs=v::r/\t v σ H fun σ' H'=>u r σ' H' Q
theorem pgs_nil:PGs X [] gNil:=by
 intro pins s σ H vs us Q I r h
 obtain⟨e,h⟩:=h
 subst e
 cases r
 exact assignInOrder_nil ⟨σ,H,I,h⟩
theorem pgs_cons{e:Expr}{es:List Expr}{t:TG}{u:TGs}(h1:PG X e t)(h2:PGs X es u)
 (hs:(assignEach (e::es) X.env).map (·.2)=assign e X.env::(assignEach es X.env).map (·.2):=by rfl):PGs X (e::es) (gCons t u):=by
 intro pins s σ H vs us Q I r h
 obtain⟨v,vr,e1,h⟩:=h
 subst e1
 cases r with
 |cons r rr=>
  rw[hs]
  refine assignInOrder_cons (thn (h1 pins s σ H _ _ _ I r h) fun _ s1 ⟨σ1,H1,I1,q1⟩=>?_)
  exact h2 pins s1 σ1 H1 _ _ Q I1 rr q1
def gTup(K:PySem.W.Frag)(n:Nat)(t:TGs):TG:=fun v σ H Q=>∃a xs,v= .ref a/\SqT K H a xs/\xs.length=n/\t xs σ H Q
theorem pg_tup{es:List Expr}{k:Nat}{t:TGs}{n:Nat}(hc:X.calm=true)(h:PGs X es t)
 (hn:(assignEach es X.env).length=n:=by rfl) (hst:(assignEach es X.env).findIdx? (·.1)=none:=by rfl):PG X (.Tuple es k pos) (gTup X.K n t):=by
 intro pins s σ H v u Q I r hw
 obtain⟨a,xs,e1,hq,hl,hw⟩:=hw
 subst e1
 cases r
 obtain⟨its,rv,ht,hz⟩:=I.tuple hq
 refine assign_Tuple_tuple (I.ok.hd hc) ht (by simp[hn,<-hl,rv.length]) hst fun h' hx=>?_
 have I1:Inv X pins σ H {s with heap:=h'}:=I.kept (t':=s.toks) fun b o e=>hx b o (Nat.ne_of_lt (Heap.lt_size e)) e
 exact h pins _ σ H xs _ Q I1 (by simpa using rv) hw
def gSub(to ti:TE)(t:TSet):TG:=fun v σ H Q=>to σ H fun o H1=>ti σ H1 fun i H2=>t o i v H2 fun H3=>Q σ H3
theorem pg_sub{o i:Expr}{to ti:TE}{t:TSet}(ho:PE X o to)(hi:PE X i ti)(hs:PSet X t)
 (ha:∀v,assign (.Subscript o i pos) X.env v=(do
   let ov<-holding [v] (eval o X.env)
   let iv<-holding [v,ov] (eval i X.env)
   standAt pos
   holding [v,ov,iv] (setItem ov iv v)
   release [v,ov,iv] []):=by intro _;rfl):PG X (.Subscript o i pos) (gSub to ti t):=by
 intro pins s σ H v u Q I r h
 rw[ha]
 refine wpAny_bind (wpAny_holding (thn (ho pins s σ H _ I h) fun ov s1 ⟨x,H1,I1,r1,q1⟩=>?_))
 refine wpAny_bind (wpAny_holding (thn (hi pins s1 σ H1 _ I1 q1) fun iv s2 ⟨y,H2,I2,r2,q2⟩=>?_))
 refine wpAny_bind (wpAny_standAt (wpAny_bind (wpAny_holding (thn (hs pins s2 σ H2 x y v ov iv u _ I2 r1 r2 r q2) fun _ s3 ⟨H3,I3,q3⟩=>?_))))
 exact wpAny_release ⟨σ,H3,I3,q3⟩
def tAsg(te:TE)(g:TG):TS:=fun D σ H=>te σ H fun x H1=>g x σ H1 D.nx
theorem ps_asg{tg e:Expr}{te:TE}{g:TG}(he:PE X e te)(hg:PG X tg g)(hs:swapsWithSole [tg] e pos.line X.env=pure false:=by rfl)(hw:swappedStores [tg] e X.env=pure none:=by rfl)
 (h1:(assignEach [tg] X.env).map (·.2)=[assign tg X.env]:=by rfl):PS X (.Assign [tg] e pos) (tAsg te g):=by
 intro pins s σ H D I h
 refine wpAny_Assign_stores (thn (he pins s σ H _ I h) fun v s1 ⟨x,H1,I1,r1,q1⟩=>?_) hs hw
 rw[h1]
 exact thn (hg pins s1 σ H1 x v _ I1 r1 q1) fun _ s2 q=>q
theorem ps_set{i:Nat}{x:Str}{e:Expr}{te:TE}{pos':Pos}(hN:X.N.Nodup)(hi:X.N[i]? =some x)(hx:Loc X.env.scope x)(he:PE X e te)(hs:swapsWith e (some (.Name x pos')) pos.line X.env=pure false:=by rfl)(hf:X.fn x=true\/X.env.scope.names.lookup x=some .local:=by first|exact .inl rfl|exact .inr rfl|assumption):
 PS X (.Assign [.Name x pos'] e pos) (tAsg te (gName i)):=by
 intro pins s σ H D I h
 refine wpAny_Assign_Name (thn (he pins s σ H _ I h) fun v s1 ⟨y,H1,I1,r1,q1⟩=>?_) hs
 exact store_ok I1 hN hi hx r1 (fun s2 I2=>⟨_,H1,I2,q1⟩) hf
def tAug(i:Nat)(te:TE)(ti:TIp):TS:=fun D σ H=>∃x,σ[i]? =some (some x)/\te σ H fun y H1=>ti x y H1 fun z H2=>D.nx (σ.set i (some z)) H2
theorem ps_aug{i:Nat}{x:Str}{e:Expr}{te:TE}{op:Operator}{ti:TIp}{pos':Pos}(hN:X.N.Nodup)(hi:X.N[i]? =some x)(hx:Loc X.env.scope x)(he:PE X e te)(ho:PIp X op ti)(hf:X.fn x=true\/X.env.scope.names.lookup x=some .local:=by first|exact .inl rfl|exact .inr rfl|assumption):
 PS X (.AugAssign (.Name x pos') op e pos) (tAug i te ti):=by
 intro pins s σ H D I h
 obtain⟨v,e1,h⟩:=h
 obtain⟨m,hn,hl⟩:=I.loc
 have vis:Vis X.env.scope x:=by rcases hx with k|k;exact .inl k;exact .inr (.inl k)
 obtain⟨u,r,l⟩:=hl i x v hi e1 vis
 refine wpAny_AugAssign_Name ?_
 have go:wpAny (model X.prog X.w) X.A (eval e X.env) (fun w s₂=>wpAny (model X.prog X.w) X.A (inplaceOp op u w) (fun r s₃=>wpAny (model X.prog X.w) X.A (storeName X.env x r) (fun _=>SP X pins D .next) X.xe s₃) X.xe s₂) X.xe s:=by
  refine thn (he pins s σ H _ I h) fun w s1 ⟨y,H1,I1,r1,q1⟩=>?_
  refine thn (ho pins s1 σ H1 v y u w _ I1 r r1 q1) fun z s2 ⟨zv,H2,I2,r2,q2⟩=>?_
  exact store_ok I2 hN hi hx r2 (fun s3 I3=>⟨_,H2,I3,q2⟩) hf
 rcases l with⟨hk,hm⟩|⟨hk,c,hc,hcell⟩
 ·exact wpAny_loadName_local I.ok.kind hk hn hm go
 ·rcases hk with hk|hk
  ·exact wpAny_loadName_cell I.ok.kind hk hc hcell go
  ·rcases hx with k|k
   ·have:X.env.scope.names.lookup x=some .free:=hk
    rw[k]at this;cases this
   ·have:X.env.scope.names.lookup x=some .free:=hk
    rw[k]at this;cases this
def ipI(f:Int->Int->Int):TIp:=fun x y H Q=>∃i j,x= .int i/\y= .int j/\Q (.int (f i j)) H
theorem ip_add:PIp X .Add (ipI fun i j=>i+j):=by
 intro pins s σ H x y v u Q I r1 r2 h
 obtain⟨i,j,e1,e2,q⟩:=h
 subst e1;subst e2
 obtain⟨t,rfl⟩:=r1
 obtain⟨t',rfl⟩:=r2
 exact iadd_int ⟨.int _,H,I.tok _,⟨_,rfl⟩,q⟩
def tWhile(c:TT)(tb:TS):TS:=fun D σ H=>∃W:Nat->St->Hp->Prop,(∃m,W m σ H)/\∀m σ H,W m σ H->
 c σ H fun b H1=>if b=true then∃N:St->Hp->Prop,(∀σ' H',N σ' H'->∃m',m'<m/\W m' σ' H')/\tb {D with nx:=N,ct:=N,bk:=D.nx} σ H1 else D.nx σ H1
theorem ps_while{c:Expr}{body:List Stmt}{tc:TT}{tb:TS}(hp:PassesOwn (model X.prog X.w) X.A X.env X.xe)(hc:PT X c tc)(hb:PSs X body tb):PS X (.While c body [] pos) (tWhile tc tb):=by
 intro pins s σ H D I h
 obtain⟨W,⟨m0,w0⟩,turn⟩:=h
 refine wpAny_While (codeAny_whileLoop (fun n s'=>∃σ' H',Inv X pins σ' H' s'/\W n σ' H') ?_ m0 ⟨σ,H,I,w0⟩)
 rintro n s1 ⟨σ1,H1,I1,w1⟩
 refine wpAny_passesOwn hp (thn (hc pins s1 σ1 H1 _ I1 (turn n σ1 H1 w1)) fun b s2 ⟨H2,I2,q2⟩=>?_)
 cases b with
 |true=>
  obtain⟨N,hN,q2⟩:=q2
  rw[if_pos rfl]
  refine wpAny_passesOwn hp (thn (hb pins s2 σ1 H2 _ I2 q2) fun f s3 q3=>?_)
  cases f with
  |next=>
   obtain⟨σ3,H3,I3,n3⟩:=q3
   obtain⟨m',hm,w3⟩:=hN σ3 H3 n3
   exact⟨m',hm,σ3,H3,I3,w3⟩
  |cont=>
   obtain⟨σ3,H3,I3,n3⟩:=q3
   obtain⟨m',hm,w3⟩:=hN σ3 H3 n3
   exact⟨m',hm,σ3,H3,I3,w3⟩
  |brk=>exact q3
  |ret v=>exact q3
 |false=>
  rw[if_neg Bool.false_ne_true]
  exact wpAny_execs_nil ⟨σ1,H2,I2,q2⟩
end
structure It where
 go:Nat->Hp->Prop
 yld:Nat->Hp->V->Hp->Prop
 stop:Nat->Hp->Prop
def FpOk(X:Cx)(pins:List (Addr×Obj))(H:Hp)(b:Addr):Prop:=
 H b=none/\b≠X.env.locals/\b∉X.fs/\(b∈X.ex\/X.s₀.heap.objs.size<=b)/\(∀x c,X.env.cells.lookup x=some c->c≠b)/\∀p∈X.pn++pins,p.1≠b
theorem Inv.fpOk{X:Cx}{pins:List (Addr×Obj)}{σ:St}{H H':Hp}{s:Shared}{b:Addr}(I:Inv X pins σ H s)(hb:s.heap.objs.size<=b)(hn:H' b=none):FpOk X pins H' b:=by
 refine⟨hn,Nat.ne_of_gt (Nat.lt_of_lt_of_le I.lt hb),I.nofs hb, .inr (Nat.le_trans I.sz hb),fun x c e z=>?_,fun p hp z=>?_⟩
 ·obtain⟨v,q⟩:=I.cell x c e
  exact absurd (Nat.lt_of_lt_of_le q.lt (by rw[z];exact hb)) (Nat.lt_irrefl _)
 ·exact absurd (Nat.lt_of_lt_of_le (Heap.lt_size (I.pin p hp).1) (by rw[z];exact hb)) (Nat.lt_irrefl _)
structure Turn (P:Program) (w:World) (K:PySem.W.Frag) (tg:Expr) (J:It) (fp:List Addr) (it:Addr) (tn:Nat->Heap->Prop):Prop where
 mem:it∈fp
 obj:∀i h,tn i h->∀b∈fp,∃o,h.get? b=some o/\∀v,o.data≠ .cell v
 keep:∀i h h',tn i h->(∀b∈fp,∀o,h.get? b=some o->h'.get? b=some o)->tn i h'
 item:∀ (X:Cx),X.prog=P->X.w=w->X.K=K->X.calm=true->∀ (i:Nat) (pins:List (Addr×Obj)) (s:Shared) (σ:St) (H:Hp) (E:Value->Shared->Prop),Inv X pins σ H s->(∀b∈fp,FpOk X pins H b)->tn i s.heap->J.go i H->
  wpAny (model P w) X.A (pyNext (.ref it)) (fun r s1=>∃u,r=some u/\
   wpAny (model P w) X.A (letOwnedTupleGo tg (.ref it) u) (fun _ s2=>∃x H',Inv X pins σ H' s2/\RelV x u/\J.yld i H x H'/\tn (i+1) s2.heap/\∀b∈fp,H' b=none) E s1) E s
 done:∀ (X:Cx),X.prog=P->X.w=w->X.K=K->X.calm=true->∀ (i:Nat) (pins:List (Addr×Obj)) (s:Shared) (σ:St) (H:Hp) (E:Value->Shared->Prop),Inv X pins σ H s->(∀b∈fp,FpOk X pins H b)->tn i s.heap->J.stop i H->
  wpAny (model P w) X.A (pyNext (.ref it)) (fun r s1=>r=none/\Inv X pins σ H s1) E s
 self:∀ (A:Around) (i:Nat) (s:Shared) (Q:Value->Shared->Prop) (E:Value->Shared->Prop),tn i s.heap->Q (.ref it) s->wpAny (model P w) A (pyIter (.ref it)) Q E s
abbrev TI:=St->Hp->(It->Hp->Prop)->Prop
def PIE(X:Cx)(pins:List (Addr×Obj))(σ:St)(tg:Expr)(R:It->Hp->Prop)(itv:Value)(s2:Shared):Prop:=
 ∃ (it:Addr) (fp:List Addr) (tn:Nat->Heap->Prop) (J:It) (H':Hp),itv= .ref it/\Inv X pins σ H' s2/\Turn X.prog X.w X.K tg J fp it tn/\tn 0 s2.heap/\(∀b∈fp,FpOk X pins H' b)/\R J H'
def PI(X:Cx)(tg iter:Expr)(wi:TI):Prop:=
 ∀ (pins:List (Addr×Obj)) (s:Shared) (σ:St) (H:Hp) (R:It->Hp->Prop),Inv X pins σ H s->wi σ H R->
   wpAny (model X.prog X.w) X.A (eval iter X.env) (fun v s1=>wpAny (model X.prog X.w) X.A (pyIter v) (PIE X pins σ tg R) X.xe s1) X.xe s
theorem go_of{M:Model}{A:Around}{E:Value->Shared->Prop}{s:Shared}{tg:Expr}{it:Addr}{u:Value}{o:Obj}{n:String}{vs:Array Value}{Q:Unit->Shared->Prop}(ho:s.heap.get? it=some o)(hc:o.cls= .type n)(hd:o.data= .fields vs)
 (hn:["enumerate","zip","dict_itemiterator","dict_reverseitemiterator","odict_iterator","itertools.zip_longest","itertools.pairwise"].contains n=false) (hQ:Q () s):wpAny M A (letOwnedTupleGo tg (.ref it) u) Q E s:=by
 unfold letOwnedTupleGo
 cases tg<;>first
  |exact wpAny_pure hQ
  |(cases u<;>first
     |exact wpAny_pure hQ
     |(refine wpAny_bind (wpAny_load ho ?_)
       rw[hc,hd]
       show wpAny M A (if(["enumerate","zip","dict_itemiterator","dict_reverseitemiterator","odict_iterator","itertools.zip_longest","itertools.pairwise"].contains n&&vs[0]? ==some (rawInt _))=true then _ else _) Q E s
       rw[if_neg (by intro h;rw[hn,Bool.false_and]at h;cases h)]
       exact wpAny_pure hQ))
def Itl(K:PySem.W.Frag)(a:Addr):It:=
 ⟨fun i H=>∃xs x,SqL K H a xs/\xs[i]? =some x,fun i H x H'=>H'=H/\∀xs,SqL K H a xs->xs[i]? =some x,fun i H=>∃xs,SqL K H a xs/\xs.length<=i⟩
def Itr(lo:Int)(n:Nat):It:=⟨fun i _=>i<n,fun i H x H'=>H'=H/\x= .int (lo+i),fun i _=>n<=i⟩
theorem turn_list{P:Program}{w:World}{K:PySem.W.Frag}{tg:Expr}(a it:Addr):Turn P w K tg (Itl K a) [it] it (fun i h=>h.IsListIter it a i) where
 mem:=by simp
 obj:=fun i h st b hb=>by
  have e:b=it:=by simpa using hb
  subst e
  obtain⟨o,e,c,d⟩:=st
  exact⟨o,e,fun v z=>by rw[d]at z;cases z⟩
 keep:=fun i h h' st k=>st.at fun o e=>k it (by simp) o e
 item:=by
  intro X hP hw hK hc i pins s σ H E I hf st hg
  subst hP hw hK
  obtain⟨xs,x,hq,hx⟩:=hg
  obtain⟨its,rv,p,hz⟩:=I.list hq
  obtain⟨u,hu,ru⟩:=rv.get hx
  obtain⟨f0,f1,f2,f3,f4,f5⟩:=hf it (by simp)
  refine wpAny_pyNext_list_item st p.isList (x:=u) (by simpa using hu) fun h' st' sb=>?_
  have I1:Inv X pins σ H {s with heap:=h'}:=I.turned (t':=s.toks) (fun b o hb e=>(sb.2 b hb).trans e) f0 f1 f3 f4 f5
  obtain⟨o,e,c,d⟩:=id st'
  exact⟨u,rfl,go_of (s:={s with heap:=h'}) e c d (by decide) ⟨x,H,I1,ru,⟨rfl,fun ys hy=>by rw[I.list_inj hy hq];exact hx⟩,st',fun b hb=>(hf b hb).1⟩⟩
 done:=by
  intro X hP hw hK hc i pins s σ H E I hf st hg
  subst hP hw hK
  obtain⟨xs,hq,hx⟩:=hg
  obtain⟨its,rv,p,hz⟩:=I.list hq
  obtain⟨f0,f1,f2,f3,f4,f5⟩:=hf it (by simp)
  have hl:=rv.length
  exact wpAny_pyNext_list_end (I.ok.hd hc) st p.isList (by simp;omega) fun h' eb=>⟨rfl,I.turned (t':=s.toks) (fun b o hb e=>eb b o hb e) f0 f1 f3 f4 f5⟩
 self:=fun _ _ _ _ _ st h=>wpAny_pyIter_listiter st h
theorem turn_range{P:Program}{w:World}{K:PySem.W.Frag}{tg:Expr}(it:Addr)(lo:Int)(n:Nat):Turn P w K tg (Itr lo n) [it] it (fun i h=>IsRangeIter h it (lo+(i:Nat)*1) ((n:Int)-(i:Nat)) 1) where
 mem:=by simp
 obj:=fun i h st b hb=>by
  have e:b=it:=by simpa using hb
  subst e
  exact⟨_,st,fun v z=>by
   have z':Data.fields _=Data.cell v:=z
   cases z'⟩
 keep:=fun i h h' st k=>k it (by simp) _ st
 item:=by
  intro X hP hw hK hc i pins s σ H E I hf st hg
  subst hP hw hK
  obtain⟨f0,f1,f2,f3,f4,f5⟩:=hf it (by simp)
  have W:=Walks.range (prog:=X.prog) (w:=X.w) (I.ok.hd hc) it lo 1 n
  refine W.item i s _ _ hg st fun v h' tk hv st' kk=>?_
  obtain⟨t,rfl⟩:=hv
  have I1:Inv X pins σ H {s with heap:=h',toks:=tk}:=I.turned (fun b o hb e=>kk b o (by simpa using hb) e) f0 f1 f3 f4 f5
  refine⟨_,rfl,go_of (s:={s with heap:=h',toks:=tk}) (n:="range_iterator") st' rfl rfl (by decide) ⟨.int (lo+i),H,I1,⟨t,?_⟩,⟨rfl,rfl⟩,st',fun b hb=>(hf b hb).1⟩⟩
  rw[Int.mul_one]
 done:=by
  intro X hP hw hK hc i pins s σ H E I hf st hg
  subst hP hw hK
  obtain⟨f0,f1,f2,f3,f4,f5⟩:=hf it (by simp)
  exact wpAny_pyNext_range_end (I.ok.hd hc) st (by have:n<=i:=hg;omega) fun h' eb=>⟨rfl,I.turned (t':=s.toks) (fun b o hb e=>eb b o hb e) f0 f1 f3 f4 f5⟩
 self:=fun _ _ _ _ _ st h=>wpAny_pyIter_rangeiter st h
section
variable{X:Cx}{tg:Expr}
def iList(K:PySem.W.Frag)(tl:TE):TI:=fun σ H R=>tl σ H fun x H1=>∃a,x= .ref a/\(∃xs,SqL K H1 a xs)/\R (Itl K a) H1
theorem pi_list{l:Expr}{tl:TE}(hl:PE X l tl):PI X tg l (iList X.K tl):=by
 intro pins s σ H R I h
 refine thn (hl pins s σ H _ I h) fun v s1 ⟨x,H1,I1,r1,q1⟩=>?_
 obtain⟨a,e,⟨xs,hq⟩,q⟩:=q1
 subst e
 cases r1
 obtain⟨its,rv,p,hz⟩:=I1.list hq
 refine wpAny_pyIter_list p.isList ?_
 refine⟨s1.heap.objs.size,[s1.heap.objs.size],_,_,H1,rfl,I1.kept (t':=s1.toks) fun b o e=>Heap.get?_push_of_some _ e,turn_list a _,⟨_,Heap.get?_push_size _ rfl,rfl,rfl⟩,fun b hb=>?_,q⟩
 have e:b=s1.heap.objs.size:=by simpa using hb
 subst e
 exact I1.fpOk (Nat.le_refl _) (I1.hok.fresh (Nat.le_refl _))
theorem range_it{pins:List (Addr×Obj)}{σ:St}{H:Hp}{s:Shared}{R:It->Hp->Prop}{E:Value->Shared->Prop}{lo hi:Int}{t u v:Tok}{tk:Nat}(I:Inv X pins σ H s)(h1: -(2^62)<=lo)(h2:lo<2^62)(h3: -(2^62)<=hi)(h4:hi<2^62)
 (q:R (Itr lo (hi-lo).toNat) H):wpAny (model X.prog X.w) X.A (pyIter (.ref s.heap.objs.size)) (PIE X pins σ tg R) E {s with heap:=s.heap.push {cls:= .type "range",data:= .fields #[.int lo t, .int hi u, .int 1 v]},toks:=tk}:=by
 refine wpAny_pyIter_range (IsRange.new ..) (small_one h1 h2 h3 h4) ?_
 have I1:Inv X pins σ H {s with heap:=s.heap.push {cls:= .type "range",data:= .fields #[.int lo t, .int hi u, .int 1 v]},toks:=tk}:=I.kept fun b o e=>Heap.get?_push_of_some _ e
 refine⟨(s.heap.push {cls:= .type "range",data:= .fields #[.int lo t, .int hi u, .int 1 v]}).objs.size,[(s.heap.push {cls:= .type "range",data:= .fields #[.int lo t, .int hi u, .int 1 v]}).objs.size],_,_,H,rfl,
  I1.kept (t':=tk) fun b o e=>Heap.get?_push_of_some _ e,turn_range _ lo (hi-lo).toNat,?_,fun b hb=>?_,q⟩
 ·have e1:lo+((0:Nat):Int)*1=lo:=by simp
  have e2:(((hi-lo).toNat:Nat):Int)-((0:Nat):Int)=Builtin.Range.rangeSize lo hi 1:=by rw[rangeSize_one];split<;>omega
  show IsRangeIter _ _ (lo+((0:Nat):Int)*1) ((((hi-lo).toNat:Nat):Int)-((0:Nat):Int)) 1
  rw[e1,e2]
  exact Heap.get?_push_size _ rfl
 ·have e:b=(s.heap.push {cls:= .type "range",data:= .fields #[.int lo t, .int hi u, .int 1 v]}).objs.size:=by simpa using hb
  subst e
  exact I1.fpOk (Nat.le_refl _) (I1.hok.fresh (Nat.le_refl _))
def iRng1(ta:TA):TI:=fun σ H R=>ta σ H fun vs H1=>∃j:Int,vs=[.int j]/\ -(2^62)<=j/\j<2^62/\R (Itr 0 j.toNat) H1
theorem pi_range1{a:Expr}{ta:TA}{p pos:Pos}(hg:Gl X "range")(hm:X.mg "range"=none)(ha:PA X [a] ta)(hs:starEach [a] X.env=[(false,eval a X.env)]:=by rfl):PI X tg (.Call (.Name "range" p) [a] [] pos) (iRng1 ta):=by
 intro pins s σ H R I h
 refine Call_ (ld_blt I hg hm boot_range (PyProof.Rows.callWith_type1 (thn (ha pos pins s σ H _ I h) fun us s1 ⟨vs,H1,I1,r1,q1⟩=>?_) hs rfl))
 obtain⟨j,e,q1,q2,q⟩:=q1
 subst e
 cases r1 with
 |cons r rr=>
  cases rr
  obtain⟨t,rfl⟩:=r
  exact call_range_1 (range_it I1 (by omega) (by omega) q1 q2 (by simpa using q))
def tFor(wi:TI)(g:TG)(tb:TS):TS:=fun D σ H=>wi σ H fun J H1=>∃W:Nat->Nat->St->Hp->Prop,(∃m,W 0 m σ H1)/\∀i m σ H,W i m σ H->
 (J.stop i H/\D.nx σ H)\/(J.go i H/\∃N:St->Hp->Prop,(∀σ' H',N σ' H'->∃m',m'<m/\W (i+1) m' σ' H')/\∀x H',J.yld i H x H'->g x σ H' fun σ2 H2=>tb {D with nx:=N,ct:=N,bk:=D.nx} σ2 H2)
def pinsAt(fp:List Addr)(h:Heap):List (Addr×Obj):=fp.filterMap fun b=>(h.get? b).map fun o=>(b,o)
theorem mem_pinsAt{fp:List Addr}{h:Heap}{b:Addr}{o:Obj}(hb:b∈fp)(e:h.get? b=some o):(b,o)∈pinsAt fp h:=List.mem_filterMap.mpr ⟨b,hb,by rw[e];rfl⟩
theorem of_pinsAt{fp:List Addr}{h:Heap}{p:Addr×Obj}(hp:p∈pinsAt fp h):p.1∈fp/\h.get? p.1=some p.2:=by
 obtain⟨b,hb,e⟩:=List.mem_filterMap.mp hp
 cases q:h.get? b with
 |none=>rw[q]at e;cases e
 |some o=>
  rw[q]at e
  have e':(b,o)=p:=Option.some.inj e
  subst e'
  exact⟨hb,q⟩
theorem Inv.pinned{pins:List (Addr×Obj)}{σ:St}{H:Hp}{s:Shared}{fp:List Addr}(I:Inv X pins σ H s)(hf:∀b∈fp,FpOk X pins H b)(ho:∀b∈fp,∃o,s.heap.get? b=some o/\∀v,o.data≠ .cell v):Inv X (pins++pinsAt fp s.heap) σ H s:=
 I.pins_of fun p hp=>(List.mem_append.mp hp).elim (fun z=>I.pin p (List.mem_append_right _ z)) fun z=>by
  obtain⟨hb,e⟩:=of_pinsAt z
  obtain⟨f0,f1,f2,_⟩:=hf p.1 hb
  obtain⟨o,e',d⟩:=ho p.1 hb
  rw[e]at e';cases e'
  exact⟨e,f0,f1,f2,d⟩
theorem Inv.unpinned{pins pl:List (Addr×Obj)}{σ:St}{H:Hp}{s:Shared}(I:Inv X (pins++pl) σ H s):Inv X pins σ H s:=I.pins_of fun p hp=>I.pin p (List.mem_append_right _ (List.mem_append_left _ hp))
theorem ps_for{iter:Expr}{body:List Stmt}{wi:TI}{g:TG}{tb:TS}{pos:Pos}(hp:PassesOwn (model X.prog X.w) X.A X.env X.xe)(hc:X.calm=true)(hi:PI X tg iter wi)(hg:PG X tg g)(hb:PSs X body tb)
 (hs:∀x,foldedSetIterable iter X.env x=pure x:=by intro _;rfl):PS X (.For tg iter body [] pos) (tFor wi g tb):=by
 intro pins s σ H D I h
 refine wpAny_For (thn (hi pins s σ H _ I h) fun v s1 h1=>thn h1 fun itv s2 h2=>?_) hs
 obtain⟨it,fp,tn,J,H2,e,I2,T,st2,f2,W,⟨m0,w0⟩,turn⟩:=h2
 subst e
 have stat:∀ {H':Hp},(∀b∈fp,H' b=none)->∀b∈fp,FpOk X pins H' b:=fun hn b hb=>⟨hn b hb,(f2 b hb).2⟩
 refine codeAny_forLoop_any (fun n s'=>∃i σ' H',Inv X pins σ' H' s'/\tn i s'.heap/\(∀b∈fp,H' b=none)/\W i n σ' H') ?_ m0 ⟨0,σ,H2,I2,st2,fun b hb=>(f2 b hb).1,w0⟩
 rintro n s3 ⟨i,σ3,H3,I3,st3,fr3,w3⟩
 rcases turn i n σ3 H3 w3 with⟨stop,qn⟩|⟨go,N,hN,step⟩
 ·refine wpAny_passesOwn hp (thn (T.done X rfl rfl rfl hc i pins s3 σ3 H3 X.xe I3 (stat fr3) st3 stop) fun r s4 ⟨hr,I4⟩=>?_)
  subst hr
  exact wpAny_execs_nil ⟨σ3,H3,I4,qn⟩
 ·refine wpAny_passesOwn hp (thn (T.item X rfl rfl rfl hc i pins s3 σ3 H3 X.xe I3 (stat fr3) st3 go) fun r s4 ⟨u,hr,h4⟩=>?_)
  subst hr
  refine wpAny_passesOwn hp (thn h4 fun _ s5 ⟨x,H5,I5,r5,y5,st5,fr5⟩=>?_)
  have I5':=I5.pinned (stat fr5) (T.obj _ _ st5)
  refine wpAny_passesOwn hp (thn (hg _ s5 σ3 H5 x u _ I5' r5 (step x H5 y5)) fun _ s6 ⟨σ6,H6,I6,q6⟩=>?_)
  refine wpAny_passesOwn hp (thn (hb _ s6 σ6 H6 _ I6 q6) fun f s7 q7=>?_)
  have again:∀ {σ7:St} {H7:Hp},Inv X (pins++pinsAt fp s5.heap) σ7 H7 s7->N σ7 H7->∃m,m<n/\∃i σ' H',Inv X pins σ' H' s7/\tn i s7.heap/\(∀b∈fp,H' b=none)/\W i m σ' H':=fun{σ7 H7} I7 n7=>by
   obtain⟨m',hm,w7⟩:=hN σ7 H7 n7
   refine⟨m',hm,i+1,σ7,H7,I7.unpinned,T.keep _ _ _ st5 fun b hb o e=>(I7.pin (b,o) (List.mem_append_right _ (List.mem_append_right _ (mem_pinsAt hb e)))).1,fun b hb=>?_,w7⟩
   obtain⟨o,e,d⟩:=T.obj _ _ st5 b hb
   exact(I7.pin (b,o) (List.mem_append_right _ (List.mem_append_right _ (mem_pinsAt hb e)))).2.1
  cases f with
  |next=>obtain⟨σ7,H7,I7,n7⟩:=q7;exact again I7 n7
  |cont=>obtain⟨σ7,H7,I7,n7⟩:=q7;exact again I7 n7
  |brk=>obtain⟨σ7,H7,I7,q7⟩:=q7;exact⟨σ7,H7,I7.unpinned,q7⟩
  |ret v=>obtain⟨x7,σ7,H7,I7,r7,q7⟩:=q7;exact⟨x7,σ7,H7,I7.unpinned,r7,q7⟩
end
theorem for_list{K:PySem.W.Frag}{a:Addr}{xs:List V}{g:TG}{tb:TS}{D:Ends}{σ:St}{H:Hp}(Pv:Nat->St->Hp->Prop)(h0:Pv 0 σ H)(hl:∀i σ H,i<=xs.length->Pv i σ H->SqL K H a xs)
 (hs:∀i x σ H,xs[i]? =some x->Pv i σ H->g x σ H fun σ2 H2=>tb {D with nx:=Pv (i+1),ct:=Pv (i+1),bk:=D.nx} σ2 H2) (hd:∀σ H,Pv xs.length σ H->D.nx σ H):
 ∃W:Nat->Nat->St->Hp->Prop,(∃m,W 0 m σ H)/\∀i m σ H,W i m σ H->
  ((Itl K a).stop i H/\D.nx σ H)\/((Itl K a).go i H/\∃N:St->Hp->Prop,(∀σ' H',N σ' H'->∃m',m'<m/\W (i+1) m' σ' H')/\∀x H',(Itl K a).yld i H x H'->g x σ H' fun σ2 H2=>tb {D with nx:=N,ct:=N,bk:=D.nx} σ2 H2):=by
 refine⟨fun i m σ H=>m=xs.length-i/\i<=xs.length/\Pv i σ H,⟨xs.length,by simp,Nat.zero_le _,h0⟩,?_⟩
 rintro i m σ H ⟨rfl,hi,p⟩
 have q:=hl i σ H hi p
 by_cases hlt:i<xs.length
 ·refine .inr ⟨⟨xs,xs[i],q,by simp[hlt]⟩,Pv (i+1),fun σ' H' p'=>⟨xs.length-(i+1),by omega,rfl,hlt,p'⟩,fun x H' y=>?_⟩
  obtain⟨e,y⟩:=y
  subst e
  exact hs i x σ _ (y xs q) p
 ·have e:i=xs.length:=by omega
  subst e
  exact .inl ⟨⟨xs,q,Nat.le_refl _⟩,hd σ H p⟩
theorem for_range{lo:Int}{n:Nat}{g:TG}{tb:TS}{D:Ends}{σ:St}{H:Hp}(Pv:Nat->St->Hp->Prop)(h0:Pv 0 σ H)
 (hs:∀i σ H,i<n->Pv i σ H->g (.int (lo+i)) σ H fun σ2 H2=>tb {D with nx:=Pv (i+1),ct:=Pv (i+1),bk:=D.nx} σ2 H2) (hd:∀σ H,Pv n σ H->D.nx σ H):
 ∃W:Nat->Nat->St->Hp->Prop,(∃m,W 0 m σ H)/\∀i m σ H,W i m σ H->
  ((Itr lo n).stop i H/\D.nx σ H)\/((Itr lo n).go i H/\∃N:St->Hp->Prop,(∀σ' H',N σ' H'->∃m',m'<m/\W (i+1) m' σ' H')/\∀x H',(Itr lo n).yld i H x H'->g x σ H' fun σ2 H2=>tb {D with nx:=N,ct:=N,bk:=D.nx} σ2 H2):=by
 refine⟨fun i m σ H=>m=n-i/\i<=n/\Pv i σ H,⟨n,by simp,Nat.zero_le _,h0⟩,?_⟩
 rintro i m σ H ⟨rfl,hi,p⟩
 by_cases hlt:i<n
 ·refine .inr ⟨hlt,Pv (i+1),fun σ' H' p'=>⟨n-(i+1),by omega,rfl,hlt,p'⟩,fun x H' y=>?_⟩
  obtain⟨e,y⟩:=y
  subst e y
  exact hs i σ _ hlt p
 ·have e:i=n:=by omega
  subst e
  exact .inl ⟨Nat.le_refl _,hd σ H p⟩
abbrev R2:=V->V->Hp->VK->Prop
def OpR(X:Cx)(f:Value->Value->Sem Value)(r:R2):Prop:=
 ∀ (pins:List (Addr×Obj)) (s:Shared) (σ:St) (H:Hp) (x y:V) (v u:Value) (Q:VK),Inv X pins σ H s->RelV x v->RelV y u->r x y H Q->
   wpAny (model X.prog X.w) X.A (f v u) (EP X pins σ Q) X.xe s
def UnR(X:Cx)(f:Value->Sem Value)(r:V->Hp->VK->Prop):Prop:=
 ∀ (pins:List (Addr×Obj)) (s:Shared) (σ:St) (H:Hp) (x:V) (v:Value) (Q:VK),Inv X pins σ H s->RelV x v->r x H Q->
   wpAny (model X.prog X.w) X.A (f v) (EP X pins σ Q) X.xe s
def CallR(X:Cx)(f:Value)(r:List V->Hp->VK->Prop):Prop:=
 ∀ (pins:List (Addr×Obj)) (s:Shared) (σ:St) (H:Hp) (xs:List V) (us:List Value) (Q:VK),Inv X pins σ H s->Vals xs us->r xs H Q->
   wpAny (model X.prog X.w) X.A (call f us) (EP X pins σ Q) X.xe s
def TruR(X:Cx)(r:V->Hp->(Bool->Hp->Prop)->Prop):Prop:=
 ∀ (pins:List (Addr×Obj)) (s:Shared) (σ:St) (H:Hp) (x:V) (v:Value) (Q:Bool->Hp->Prop),Inv X pins σ H s->RelV x v->r x H Q->
   wpAny (model X.prog X.w) X.A (truthy v) (TP X pins σ Q) X.xe s
def tOp(r:R2)(ta tb:TE):TE:=fun σ H Q=>ta σ H fun x H1=>tb σ H1 fun y H2=>r x y H2 Q
def tUn(r:V->Hp->VK->Prop)(ta:TE):TE:=fun σ H Q=>ta σ H fun x H1=>r x H1 Q
def rI(C:Int->Int->Prop)(g:Int->Int->V):R2:=fun x y H Q=>∃i j,x= .int i/\y= .int j/\C i j/\Q (g i j) H
def rI0(g:Int->Int->V):R2:=fun x y H Q=>∃i j,x= .int i/\y= .int j/\Q (g i j) H
def rU(g:Int->V):V->Hp->VK->Prop:=fun x H Q=>∃i,x= .int i/\Q (g i) H
section
variable{X:Cx}{a b c:Expr}{ta tb tc:TE}{pos:Pos}
theorem binT(ha:PE X a ta)(hb:PE X b tb){pins:List (Addr×Obj)}{s:Shared}{σ:St}{H:Hp}{R:V->V->Hp->Prop}(I:Inv X pins σ H s)
 (h:ta σ H fun x H1=>tb σ H1 fun y H2=>R x y H2) {Q:Value->Shared->Prop} {f:Value->Value->Sem Value}
 (hf:∀v u s2 x y H2,Inv X pins σ H2 s2->RelV x v->RelV y u->R x y H2->wpAny (model X.prog X.w) X.A (f v u) Q X.xe s2):
 wpAny (model X.prog X.w) X.A (eval a X.env) (fun v s₁=>wpAny (model X.prog X.w) X.A (eval b X.env) (fun u s₂=>wpAny (model X.prog X.w) X.A (f v u) Q X.xe s₂) X.xe s₁) X.xe s:=by
 refine thn (ha pins s σ H _ I h) fun v s1 ⟨x,H1,I1,r1,q1⟩=>?_
 refine thn (hb pins s1 σ H1 _ I1 q1) fun u s2 ⟨y,H2,I2,r2,q2⟩=>?_
 exact hf v u s2 x y H2 I2 r1 r2 q2
theorem pe_op{op:Operator}{r:R2}(ho:OpR X (binaryOp op) r)(ha:PE X a ta)(hb:PE X b tb):PE X (.BinOp a op b pos) (tOp r ta tb):=by
 intro pins s σ H Q I h
 exact wpAny_BinOp (binT ha hb I h fun v u s2 x y H2 I2 rx ry q=>ho pins s2 σ H2 x y v u Q I2 rx ry q)
theorem pe_un{op:UnaryOp}{r:V->Hp->VK->Prop}(ho:UnR X (unaryOp op) r)(ha:PE X a ta):PE X (.UnaryOp op a pos) (tUn r ta):=by
 intro pins s σ H Q I h
 exact UnaryOp_ (thn (ha pins s σ H _ I h) fun v s1 ⟨x,H1,I1,r1,q1⟩=>ho pins s1 σ H1 x v Q I1 r1 q1)
theorem opI{f:Value->Value->Sem Value}{C:Int->Int->Prop}{g:Int->Int->Int}
 (rule:∀ (i j:Int) (t u:Tok) (s:Shared) (Q:Value->Shared->Prop) (E:Value->Shared->Prop),C i j->Q (.int (g i j) s.toks) {s with toks:=s.toks+1}->wpAny (model X.prog X.w) X.A (f (.int i t) (.int j u)) Q E s):
 OpR X f (rI C fun i j=> .int (g i j)):=by
 intro pins s σ H x y v u Q I rx ry h
 obtain⟨i,j,rfl,rfl,hc,q⟩:=h
 obtain⟨t,rfl⟩:=rx
 obtain⟨t',rfl⟩:=ry
 exact rule i j t t' s _ _ hc ⟨.int (g i j),H,I.tok _,⟨_,rfl⟩,q⟩
theorem opI0{f:Value->Value->Sem Value}{g:Int->Int->Int}
 (rule:∀ (i j:Int) (t u:Tok) (s:Shared) (Q:Value->Shared->Prop) (E:Value->Shared->Prop),Q (.int (g i j) s.toks) {s with toks:=s.toks+1}->wpAny (model X.prog X.w) X.A (f (.int i t) (.int j u)) Q E s):
 OpR X f (rI0 fun i j=> .int (g i j)):=by
 intro pins s σ H x y v u Q I rx ry h
 obtain⟨i,j,rfl,rfl,q⟩:=h
 obtain⟨t,rfl⟩:=rx
 obtain⟨t',rfl⟩:=ry
 exact rule i j t t' s _ _ ⟨.int (g i j),H,I.tok _,⟨_,rfl⟩,q⟩
theorem opB0{f:Value->Value->Sem Value}{g:Int->Int->Bool}
 (rule:∀ (i j:Int) (t u:Tok) (s:Shared) (Q:Value->Shared->Prop) (E:Value->Shared->Prop),Q (.bool (g i j)) s->wpAny (model X.prog X.w) X.A (f (.int i t) (.int j u)) Q E s):
 OpR X f (rI0 fun i j=> .bl (g i j)):=by
 intro pins s σ H x y v u Q I rx ry h
 obtain⟨i,j,rfl,rfl,q⟩:=h
 obtain⟨t,rfl⟩:=rx
 obtain⟨t',rfl⟩:=ry
 exact rule i j t t' s _ _ ⟨.bl (g i j),H,I,rfl,q⟩
def CDiv(i j:Int):Prop:=0<j/\j<1073741824
def CPow(i j:Int):Prop:=0<=j/\j<=1000000/\i.natAbs<2^64
def CMul(i j:Int):Prop:=(-(2^64)<i/\i<2^64)\/(-(2^64)<j/\j<2^64)
theorem CMul.ok{i j:Int}(h:CMul i j):IntMulOk i j:=by
 rcases h with⟨h1,h2⟩|⟨h1,h2⟩
 ·exact .of_left (intBits_le_64 h1 h2)
 ·exact .of_right (intBits_le_64 h1 h2)
theorem op_add:OpR X (binaryOp .Add) (rI0 fun i j=> .int (i+j)):=opI0 fun _ _ _ _ _ _ _ q=>add_int q
theorem op_sub:OpR X (binaryOp .Sub) (rI0 fun i j=> .int (i-j)):=opI0 fun _ _ _ _ _ _ _ q=>sub_int q
theorem op_mul:OpR X (binaryOp .Mult) (rI CMul fun i j=> .int (i*j)):=opI fun _ _ _ _ _ _ _ hc q=>mul_int q hc.ok
theorem op_fdiv:OpR X (binaryOp .FloorDiv) (rI CDiv fun i j=> .int (i/j)):=opI fun i j _ _ _ _ _ hc q=>by
 have h1:(0:Int)<j:=hc.1
 have h2:j<1073741824:=hc.2
 exact floordiv_int (by omega) (by rw[Int.fdiv_eq_ediv_of_nonneg i (by omega)];exact q) (.inl (PyProof.noPylong_small (by omega)))
theorem op_mod:OpR X (binaryOp .Mod) (rI (fun _ j=>0<j) fun i j=> .int (i%j)):=opI fun i j _ _ _ _ _ hc q=>by
 have h1:(0:Int)<j:=hc
 exact mod_int' (by omega) (by rw[Int.fmod_eq_emod_of_nonneg i (by omega)];exact q)
theorem op_pow:OpR X (binaryOp .Pow) (rI CPow fun i j=> .int (i^j.toNat)):=opI fun _ _ _ _ _ _ _ hc q=>pow_int_small hc.1 hc.2.1 hc.2.2 q
theorem unI{f:Value->Sem Value}{g:Int->Int}
 (rule:∀ (i:Int) (t:Tok) (s:Shared) (Q:Value->Shared->Prop) (E:Value->Shared->Prop),Q (.int (g i) s.toks) {s with toks:=s.toks+1}->wpAny (model X.prog X.w) X.A (f (.int i t)) Q E s):
 UnR X f (rU fun i=> .int (g i)):=by
 intro pins s σ H x v Q I rx h
 obtain⟨i,rfl,q⟩:=h
 obtain⟨t,rfl⟩:=rx
 exact rule i t s _ _ ⟨.int (g i),H,I.tok _,⟨_,rfl⟩,q⟩
theorem un_neg:UnR X (unaryOp .USub) (rU fun i=> .int (-i)):=unI fun _ _ _ _ _ q=>neg_int q
end
def scal:V->V->Bool
 | .non, .non=>true| .non, .int _=>true| .int _, .non=>true| .non, .bl _=>true| .bl _, .non=>true| .non, .str _=>true| .str _, .non=>true
 | .int _, .int _=>true| .bl _, .bl _=>true| .str _, .str _=>true| .byt _, .byt _=>true
 | .int _, .str _=>true| .str _, .int _=>true| .bl _, .str _=>true| .str _, .bl _=>true
 |_,_=>false
def rEq:R2:=fun x y H Q=>scal x y=true/\Q (.bl (decide (x=y))) H
def rNe:R2:=fun x y H Q=>scal x y=true/\Q (.bl (!decide (x=y))) H
theorem dec_int{i j:Int}:decide (V.int i=V.int j)=(i==j):=by
 rw[Bool.eq_iff_iff]
 simp
theorem dec_bl{i j:Bool}:decide (V.bl i=V.bl j)=(i==j):=by
 rw[Bool.eq_iff_iff]
 simp
theorem dec_str{i j:Str}:decide (V.str i=V.str j)=(i==j):=by
 rw[Bool.eq_iff_iff]
 simp
theorem dec_byt{i j:Array UInt8}:decide (V.byt i=V.byt j)=(i.toList==j.toList):=by
 rw[Bool.eq_iff_iff]
 cases i
 cases j
 simp
section
variable{X:Cx}{a b c:Expr}{ta tb tc:TE}{pos:Pos}
theorem fin_bl{pins:List (Addr×Obj)}{σ:St}{H:Hp}{s:Shared}{Q:VK}{k k':Bool}(I:Inv X pins σ H s)(q:Q (.bl k) H)(e:k=k'):EP X pins σ Q (.bool k') s:=by
 subst e
 exact⟨.bl k,H,I,rfl,q⟩
theorem op_eq:OpR X (compareOp .Eq) rEq:=by
 intro pins s σ H x y v u Q I rx ry h
 obtain⟨hs,q⟩:=h
 cases x with
 |non=>
  cases rx
  cases y with
  |non=>cases ry;exact PySem.EqNone.eq_none_none (fin_bl I q (by simp))
  |bl j=>cases ry;exact PySem.EqNone.eq_none_bool (fin_bl I q (by simp))
  |int j=>obtain⟨t',rfl⟩:=ry;exact PySem.EqNone.eq_none_int (fin_bl I q (by simp))
  |str j=>obtain⟨t',rfl⟩:=ry;exact PySem.EqNone.eq_none_str (fin_bl I q (by simp))
  |_=>exact absurd (show false=true from hs) Bool.false_ne_true
 |bl i=>
  cases rx
  cases y with
  |non=>cases ry;exact PySem.EqNone.eq_bool_none (fin_bl I q (by simp))
  |bl j=>cases ry;exact eq_bool (fin_bl I q dec_bl)
  |str j=>obtain⟨t',rfl⟩:=ry;exact PySem.EqMixed.eq_bool_str (fin_bl I q (by simp))
  |_=>exact absurd (show false=true from hs) Bool.false_ne_true
 |int i=>
  obtain⟨t,rfl⟩:=rx
  cases y with
  |non=>cases ry;exact PySem.EqNone.eq_int_none (fin_bl I q (by simp))
  |int j=>obtain⟨t',rfl⟩:=ry;exact eq_int (fin_bl I q dec_int)
  |str j=>obtain⟨t',rfl⟩:=ry;exact PySem.EqMixed.eq_int_str (fin_bl I q (by simp))
  |_=>exact absurd (show false=true from hs) Bool.false_ne_true
 |str i=>
  obtain⟨t,rfl⟩:=rx
  cases y with
  |non=>cases ry;exact PySem.EqNone.eq_str_none (fin_bl I q (by simp))
  |bl j=>cases ry;exact PySem.EqMixed.eq_str_bool (fin_bl I q (by simp))
  |int j=>obtain⟨t',rfl⟩:=ry;exact PySem.EqMixed.eq_str_int (fin_bl I q (by simp))
  |str j=>obtain⟨t',rfl⟩:=ry;exact eq_str (fin_bl I q dec_str)
  |_=>exact absurd (show false=true from hs) Bool.false_ne_true
 |byt i=>
  obtain⟨t,rfl⟩:=rx
  cases y with
  |byt j=>obtain⟨t',rfl⟩:=ry;exact PySem.W.eq_bytes (fin_bl I q dec_byt)
  |_=>exact absurd (show false=true from hs) Bool.false_ne_true
 |_=>cases y<;>exact absurd (show false=true from hs) Bool.false_ne_true
theorem op_ne:OpR X (compareOp .NotEq) rNe:=by
 intro pins s σ H x y v u Q I rx ry h
 obtain⟨hs,q⟩:=h
 cases x with
 |non=>
  cases rx
  cases y with
  |non=>cases ry;exact PySem.EqNone.ne_none_none (fin_bl I q (by simp))
  |bl j=>cases ry;exact PySem.EqNone.ne_none_bool (fin_bl I q (by simp))
  |int j=>obtain⟨t',rfl⟩:=ry;exact PySem.EqNone.ne_none_int (fin_bl I q (by simp))
  |str j=>obtain⟨t',rfl⟩:=ry;exact PySem.EqNone.ne_none_str (fin_bl I q (by simp))
  |_=>exact absurd (show false=true from hs) Bool.false_ne_true
 |bl i=>
  cases rx
  cases y with
  |non=>cases ry;exact PySem.EqNone.ne_bool_none (fin_bl I q (by simp))
  |bl j=>cases ry;exact ne_bool (fin_bl I q (congrArg not dec_bl))
  |str j=>obtain⟨t',rfl⟩:=ry;exact PySem.EqMixed.ne_bool_str (fin_bl I q (by simp))
  |_=>exact absurd (show false=true from hs) Bool.false_ne_true
 |int i=>
  obtain⟨t,rfl⟩:=rx
  cases y with
  |non=>cases ry;exact PySem.EqNone.ne_int_none (fin_bl I q (by simp))
  |int j=>obtain⟨t',rfl⟩:=ry;exact ne_int (fin_bl I q (congrArg not dec_int))
  |str j=>obtain⟨t',rfl⟩:=ry;exact PySem.EqMixed.ne_int_str (fin_bl I q (by simp))
  |_=>exact absurd (show false=true from hs) Bool.false_ne_true
 |str i=>
  obtain⟨t,rfl⟩:=rx
  cases y with
  |non=>cases ry;exact PySem.EqNone.ne_str_none (fin_bl I q (by simp))
  |bl j=>cases ry;exact PySem.EqMixed.ne_str_bool (fin_bl I q (by simp))
  |int j=>obtain⟨t',rfl⟩:=ry;exact PySem.EqMixed.ne_str_int (fin_bl I q (by simp))
  |str j=>obtain⟨t',rfl⟩:=ry;exact ne_str (fin_bl I q (congrArg not dec_str))
  |_=>exact absurd (show false=true from hs) Bool.false_ne_true
 |byt i=>
  obtain⟨t,rfl⟩:=rx
  cases y with
  |byt j=>obtain⟨t',rfl⟩:=ry;exact PySem.W.ne_bytes (fin_bl I q (congrArg not dec_byt))
  |_=>exact absurd (show false=true from hs) Bool.false_ne_true
 |_=>cases y<;>exact absurd (show false=true from hs) Bool.false_ne_true
theorem op_lt:OpR X (compareOp .Lt) (rI0 fun i j=> .bl (decide (i<j))):=opB0 fun _ _ _ _ _ _ _ q=>lt_int q
theorem op_le:OpR X (compareOp .LtE) (rI0 fun i j=> .bl (decide (i<=j))):=opB0 fun _ _ _ _ _ _ _ q=>le_int q
theorem op_gt:OpR X (compareOp .Gt) (rI0 fun i j=> .bl (decide (j<i))):=opB0 fun _ _ _ _ _ _ _ q=>gt_int q
theorem op_ge:OpR X (compareOp .GtE) (rI0 fun i j=> .bl (decide (j<=i))):=opB0 fun _ _ _ _ _ _ _ q=>ge_int q
theorem op_in_str:OpR X (compareOp .In) (fun x y H Q=>∃i j,x= .str i/\y= .str j/\Q (.bl (!(Builtin.Str.occurrences j i 0 j.length 1).isEmpty)) H):=by
 intro pins s σ H x y v u Q I rx ry h
 obtain⟨i,j,rfl,rfl,q⟩:=h
 obtain⟨t,rfl⟩:=rx
 obtain⟨t',rfl⟩:=ry
 exact in_str (fin_bl I q rfl)
theorem op_notin_str:OpR X (compareOp .NotIn) (fun x y H Q=>∃i j,x= .str i/\y= .str j/\Q (.bl (!(!(Builtin.Str.occurrences j i 0 j.length 1).isEmpty))) H):=by
 intro pins s σ H x y v u Q I rx ry h
 obtain⟨i,j,rfl,rfl,q⟩:=h
 obtain⟨t,rfl⟩:=rx
 obtain⟨t',rfl⟩:=ry
 exact notIn_str (fin_bl I q rfl)
theorem OpR.or{f:Value->Value->Sem Value}{r r':R2}(h:OpR X f r)(h':OpR X f r'):OpR X f (fun x y H Q=>r x y H Q\/r' x y H Q):=by
 intro pins s σ H x y v u Q I rx ry q
 rcases q with q|q
 ·exact h pins s σ H x y v u Q I rx ry q
 ·exact h' pins s σ H x y v u Q I rx ry q
theorem nomark(b:Expr){op:CmpOp}(h:op≠ .In:=by decide)(h2:op≠ .NotIn:=by decide):behindInMarks op b=false:=by
 have e1:(op==CmpOp.In)=false:=by cases op<;>first|rfl|exact absurd rfl h
 have e2:(op==CmpOp.NotIn)=false:=by cases op<;>first|rfl|exact absurd rfl h2
 cases b<;>simp[behindInMarks,e1,e2]
theorem pe_cmpR{op:CmpOp}{r:R2}(ho:OpR X (compareOp op) r)(ha:PE X a ta)(hb:PE X b tb)(hm:behindInMarks op b=false):PE X (.Compare a [op] [b] pos) (tOp r ta tb):=by
 intro pins s σ H Q I h
 exact wpAny_Compare1 (binT ha hb I h fun v u s2 x y H2 I2 rx ry q=>ho pins s2 σ H2 x y v u Q I2 rx ry q) hm
def tTest(t:TE):TT:=fun σ H Q=>t σ H fun x H'=>∃k,x= .bl k/\Q k H'
theorem pt_cmpR{op:CmpOp}{r:R2}(ho:OpR X (compareOp op) r)(ha:PE X a ta)(hb:PE X b tb)(hm:behindInMarks op b=false):PT X (.Compare a [op] [b] pos) (tTest (tOp r ta tb)):=by
 intro pins s σ H Q I h
 refine wpAny_isTrue_Compare1 (thn (ha pins s σ H _ I h) fun v s1 ⟨x,H1,I1,r1,q1⟩=>thn (hb pins s1 σ H1 _ I1 q1) fun u s2 ⟨y,H2,I2,r2,q2⟩=>
  thn (ho pins s2 σ H2 x y v u _ I2 r1 r2 q2) fun c s3 ⟨z,H3,I3,r3,k,e,q3⟩=>?_) hm
 subst e
 cases r3
 exact wpAny_truthy_bool ⟨H3,I3,q3⟩
def tChain(r r':R2)(ta tb tc:TE):TE:=fun σ H Q=>ta σ H fun x H1=>tb σ H1 fun y H2=>r x y H2 fun z H3=>∃k,z= .bl k/\
 (if k=true then tc σ H3 fun w' H4=>r' y w' H4 Q else Q (.bl false) H3)
theorem pe_chain{op op':CmpOp}{r r':R2}(ho:OpR X (compareOp op) r)(ho':OpR X (compareOp op') r')(ha:PE X a ta)(hb:PE X b tb)(hc:PE X c tc)
 (hm:lastMarks [op,op'] [b,c]=false:=by with_unfolding_all rfl):PE X (.Compare a [op,op'] [b,c] pos) (tChain r r' ta tb tc):=by
 intro pins s σ H Q I h
 refine Compare_chain (thn (ha pins s σ H _ I h) fun v s1 ⟨x,H1,I1,r1,q1⟩=>chain_link (thn (hb pins s1 σ H1 _ I1 q1) fun u s2 ⟨y,H2,I2,r2,q2⟩=>
  thn (ho pins s2 σ H2 x y v u _ I2 r1 r2 q2) fun d s3 ⟨z,H3,I3,r3,k,e,q3⟩=>?_)) hm
 subst e
 cases r3
 refine wpAny_truthy_bool ?_
 cases k with
 |false=>exact ite_ff ⟨.bl false,H3,I3,rfl,q3⟩
 |true=>exact ite_tt (chain_last (thn (hc pins s3 σ H3 _ I3 q3) fun w' s4 ⟨z',H4,I4,r4,q4⟩=>ho' pins s4 σ H4 y z' u w' Q I4 r2 r4 q4))
theorem pt_chain{op op':CmpOp}{r r':R2}(ho:OpR X (compareOp op) r)(ho':OpR X (compareOp op') r')(ha:PE X a ta)(hb:PE X b tb)(hc:PE X c tc)
 (hm:lastMarks [op,op'] [b,c]=false:=by with_unfolding_all rfl):PT X (.Compare a [op,op'] [b,c] pos) (tTest (tChain r r' ta tb tc)):=by
 intro pins s σ H Q I h
 refine isTrue_chain (thn (ha pins s σ H _ I h) fun v s1 ⟨x,H1,I1,r1,q1⟩=>test_link (thn (hb pins s1 σ H1 _ I1 q1) fun u s2 ⟨y,H2,I2,r2,q2⟩=>
  thn (ho pins s2 σ H2 x y v u _ I2 r1 r2 q2) fun d s3 ⟨z,H3,I3,r3,k,e,q3⟩=>?_)) hm
 subst e
 cases r3
 refine wpAny_truthy_bool ?_
 cases k with
 |false=>
  obtain⟨k',e',q'⟩:=q3
  cases e'
  exact ite_ff ⟨H3,I3,q'⟩
 |true=>
  refine ite_tt (test_last (thn (hc pins s3 σ H3 _ I3 q3) fun w' s4 ⟨z',H4,I4,r4,q4⟩=>thn (ho' pins s4 σ H4 y z' u w' _ I4 r2 r4 q4) fun d' s5 ⟨z2,H5,I5,r5,k2,e2,q5⟩=>?_))
  subst e2
  cases r5
  exact wpAny_truthy_bool ⟨H5,I5,q5⟩
def TruV(K:PySem.W.Frag)(x:V)(H:Hp)(k:Bool):Prop:=
 match x with
 | .non=>k=false
 | .bl b=>k=b
 | .int i=>k=(i !=0)
 | .str y=>y.length<=sizeLine/\k=((y.length:Int) !=0)
 | .byt y=>y.size<=sizeLine/\k=((y.size:Int) !=0)
 | .ref p=>(∃xs,SqL K H p xs/\k= !xs.isEmpty)\/(∃xs,SqT K H p xs/\k= !xs.isEmpty)\/∃kvs,H p=some (.dK kvs)/\k= !kvs.isEmpty
 |_=>False
theorem isEmpty_kv{κ:Type}{kvs:List (κ×V)}{vs:List (κ×Value)}(r:KV kvs vs):(!vs.isEmpty)= !kvs.isEmpty:=by
 cases r<;>rfl
theorem isEmpty_of{xs:List V}{its:List Value}(r:Vals xs its):(!its.toArray.isEmpty)= !xs.isEmpty:=by
 cases r<;>simp
theorem line63:(sizeLine:Nat)<2^63:=by rw[sizeLine_eq];decide
theorem tru_ok:TruR X (fun x H Q=>∃k,TruV X.K x H k/\Q k H):=by
 intro pins s σ H x v Q I rx h
 obtain⟨k,e,q⟩:=h
 have hl:=line63
 have hs:sizeLine=16777216:=sizeLine_eq
 cases x with
 |non=>
  cases rx
  have e':k=false:=e
  subst e'
  exact truthy_none ⟨H,I,q⟩
 |bl b=>
  cases rx
  have e':k=b:=e
  subst e'
  exact wpAny_truthy_bool ⟨H,I,q⟩
 |int i=>
  obtain⟨t,rfl⟩:=rx
  have e':k=(i !=0):=e
  subst e'
  exact PySem.P.truthy_int ⟨H,I,q⟩
 |str y=>
  obtain⟨t,rfl⟩:=rx
  obtain⟨hy,e'⟩:y.length<=sizeLine/\k=((y.length:Int) !=0):=e
  subst e'
  exact PySem.P.truthy_str (by omega) ⟨H,I.tok _,q⟩
 |byt y=>
  obtain⟨t,rfl⟩:=rx
  obtain⟨hy,e'⟩:y.size<=sizeLine/\k=((y.size:Int) !=0):=e
  subst e'
  exact PySem.W.truthy_bytes (by omega) ⟨H,I.tok _,q⟩
 |ref p=>
  cases rx
  have e':(∃xs,SqL X.K H p xs/\k= !xs.isEmpty)\/(∃xs,SqT X.K H p xs/\k= !xs.isEmpty)\/∃kvs,H p=some (.dK kvs)/\k= !kvs.isEmpty:=e
  rcases e' with⟨xs,hx,e'⟩|⟨xs,hx,e'⟩|⟨kvs,hx,e'⟩
  ·subst e'
   obtain⟨its,r,pl,hz⟩:=I.list hx
   have hlen:=r.length
   exact wpAny_truthy_list pl.isList (by simp only[List.size_toArray];omega) ⟨H,I.tok _,by rw[isEmpty_of r];exact q⟩
  ·subst e'
   obtain⟨its,r,pl,hz⟩:=I.tuple hx
   have hlen:=r.length
   exact truthy_tuple pl (by simp only[List.size_toArray];omega) ⟨H,I.tok _,by rw[isEmpty_of r];exact q⟩
  ·subst e'
   obtain⟨hz,hS,vs,r,m⟩:kvs.length<=sizeLine/\(p==sysModules)=false/\∃vs,KV kvs vs/\s.heap.DictOf (mixKind X.prog X.w) p vs:=I.hok p _ hx
   have hlen:kvs.length=vs.length:=Paired.length r
   exact wpAny_truthy_dict hS m (by omega) ⟨H,I.tok _,by rw[isEmpty_kv r];exact q⟩
 |_=>exact(show False from e).elim
theorem pt_truth(ha:PE X a ta)(he:∀whole,isTrue a X.env whole=(do let v<-whole;standAt a.pos;holding [v] (truthy v))):
 PT X a (fun σ H Q=>ta σ H fun x H'=>∃k,TruV X.K x H' k/\Q k H'):=by
 intro pins s σ H Q I h
 exact isTrue_plain (thn (ha pins s σ H _ I h) fun v s1 ⟨x,H1,I1,r1,q1⟩=>tru_ok pins s1 σ H1 x v Q I1 r1 q1) (he _)
theorem op_add_str:OpR X (binaryOp .Add) (fun x y H Q=>∃i j,x= .str i/\y= .str j/\i.length+j.length<=sizeLine/\Q (.str (i++j)) H):=by
 intro pins s σ H x y v u Q I rx ry h
 obtain⟨i,j,rfl,rfl,hz,q⟩:=h
 obtain⟨t,rfl⟩:=rx
 obtain⟨t',rfl⟩:=ry
 exact add_str (fun t' tk=>⟨.str (i++j),H,I.tok _,⟨_,rfl⟩,q⟩) hz
theorem vals1{x:V}{us:List Value}(r:Vals [x] us):∃u,us=[u]/\RelV x u:=by
 cases r with
 |cons r1 r2=>cases r2;exact⟨_,rfl,r1⟩
theorem vals2{x y:V}{us:List Value}(r:Vals [x,y] us):∃u w',us=[u,w']/\RelV x u/\RelV y w':=by
 cases r with
 |cons r1 r2=>
  cases r2 with
  |cons r3 r4=>cases r4;exact⟨_,_,rfl,r1,r3⟩
theorem call_max2(hc:X.calm=true):CallR X (.builtin "max") (fun xs H Q=>∃i j,xs=[.int i, .int j]/\Q (.int (if j>i then j else i)) H):=by
 intro pins s σ H xs us Q I r h
 obtain⟨i,j,rfl,q⟩:=h
 obtain⟨u,w',rfl,⟨t,rfl⟩,⟨t',rfl⟩⟩:=vals2 r
 refine max_two_ints (I.ok.hd hc) fun h' tk k=>⟨_,H,I.kept k,?_,q⟩
 by_cases hj:j>i
 ·rw[if_pos hj,if_pos hj];exact⟨_,rfl⟩
 ·rw[if_neg hj,if_neg hj];exact⟨_,rfl⟩
theorem call_min2(hc:X.calm=true):CallR X (.builtin "min") (fun xs H Q=>∃i j,xs=[.int i, .int j]/\Q (.int (if j<i then j else i)) H):=by
 intro pins s σ H xs us Q I r h
 obtain⟨i,j,rfl,q⟩:=h
 obtain⟨u,w',rfl,⟨t,rfl⟩,⟨t',rfl⟩⟩:=vals2 r
 refine min_two_ints (I.ok.hd hc) fun h' tk k=>⟨_,H,I.kept k,?_,q⟩
 by_cases hj:j<i
 ·rw[if_pos hj,if_pos hj];exact⟨_,rfl⟩
 ·rw[if_neg hj,if_neg hj];exact⟨_,rfl⟩
theorem call_int1:CallR X (.type "int") (fun xs H Q=>(∃i,xs=[.int i]/\Q (.int i) H)\/∃k,xs=[.bl k]/\Q (.int (if k then 1 else 0)) H):=by
 intro pins s σ H xs us Q I r h
 rcases h with⟨i,rfl,q⟩|⟨k,rfl,q⟩
 ·obtain⟨u,rfl,t,rfl⟩:=vals1 r
  exact call_int_int ⟨.int i,H,I,⟨_,rfl⟩,q⟩
 ·obtain⟨u,rfl,r1⟩:=vals1 r
  cases r1
  exact call_int_bool ⟨.int (if k then 1 else 0),H,I.tok _,⟨_,rfl⟩,q⟩
end
structure ObjM (h:Heap) (x dx C:Addr) (mA:Str->Option Value):Prop where
 obj:h.get? x=some (PySem.W.instObj C dx)
 ns:h.Ns1 dx mA
 ne:dx≠x
theorem lookIn_ns{h:Heap}{dx:Addr}{mA:Str->Option Value}(n:h.Ns1 dx mA):∃od,h.get? dx=some od/\∀name,PySem.W.lookIn name od=some (mA name):=by
 obtain⟨o,es,ep,ho,hd,hk,_,hm⟩:=n
 refine⟨o,ho,fun name=>?_⟩
 have e:=hm name
 unfold nsFind findBy at e
 rw[<-Array.find?_toList]at e
 unfold PySem.W.lookIn
 rw[hd]
 dsimp only
 split
 ·rename_i y q
  rw[q]at e
  exact congrArg some e
 ·rename_i q
  rw[q]at e
  have a:es.toList.any (·.refKey)=false:=by
   rw[List.any_eq_false]
   intro y hy
   obtain⟨z,t,hkey⟩:=hk y (Array.mem_toList_iff.mp hy)
   simp[DictEntry.refKey,hkey]
  have a':¬es.toList.any (·.refKey)=true:=by rw[a];exact Bool.false_ne_true
  rw[if_neg a']
  exact congrArg some e
theorem ObjM.look{h:Heap}{x dx C:Addr}{mA:Str->Option Value}(I:ObjM h x dx C mA):∃od,PySem.W.InstAt h x (PySem.W.instObj C dx) C (some od)/\∀name,PySem.W.lookIn name od=some (mA name):=
 let⟨od,ho,hl⟩:=lookIn_ns I.ns
 ⟨od,⟨I.obj,rfl,rfl,ho⟩,hl⟩
section
variable{prog:Program}{w:World}{A:Around}{E:Value->Shared->Prop}{s:Shared}{K:PySem.W.Frag}{x dx C f:Addr}{mA:Str->Option Value}{name:Str}{v:Value}
end
section
variable{P:Program}{w:World}{H H':Hp}{h h':Heap}{a C dx:Addr}{fs fs':List (Str×V)}
theorem ins_get(hok:HOk P w H h)(e:H a=some (.ins C dx fs)):∃mA,ObjM h a dx C mA/\(∀f,RelO (fs.lookup f) (mA f))/\PySem.Within mA (fs.map (·.1))/\fs.length<=1000/\H dx=some (.own a):=by
 obtain⟨d,z,ne,ob,mA,n,r,q⟩:=(show ObjOk P w H h a (.ins C dx fs)from hok a _ e)
 exact⟨mA,⟨ob,n,ne⟩,r,q,z,d⟩
end
structure Cls (K:PySem.W.Frag) (C:Addr):Prop where
 pg:PySem.W.plainGet K C Str.empty=true
 hd:PySem.W.hasDictIn K C=true
 po:PySem.W.plainOver K C=true
 sa:PySem.W.findIn K (.ref C) "__setattr__"=some (some (.builtin "object.__setattr__"))
theorem Cls.get{K:PySem.W.Frag}{C:Addr}(c:Cls K C)(f:Str):PySem.W.plainGet K C f=true:=c.pg
section
variable{X:Cx}{pins:List (Addr×Obj)}{σ:St}{H:Hp}{s:Shared}{a C dx:Addr}{fs:List (Str×V)}{f:Str}{v:V}{A:Around}{E:Value->Shared->Prop}
end
section
variable{X:Cx}{o e value:Expr}{f:Str}{pos pos' tpos:Pos}{ta tv:TE}
end
section
variable{X:Cx}{pins:List (Addr×Obj)}{σ:St}{H:Hp}{s:Shared}{A:Around}{E:Value->Shared->Prop}{Q:Value->Shared->Prop}{c:Value}{b:Bool}
inductive TyOf (K:PySem.W.Frag) (H:Hp):V->Value->Prop where
 |non:TyOf K H .non (.type "NoneType")
 |bl (x:Bool):TyOf K H (.bl x) (.type "bool")
 |int (i:Int):TyOf K H (.int i) (.type "int")
 |str (x:Str):TyOf K H (.str x) (.type "str")
 |flt (x:UInt64):TyOf K H (.flt x) (.type "float")
 |lst {a:Addr} {xs:List V} (e:H a=some (.lst xs)):TyOf K H (.ref a) (.type "list")
 |frz {a:Addr} {o:Obj} {xs:List V} (e:H a=some (.frz o (.lst xs))):TyOf K H (.ref a) (.type "list")
 |tup {a:Addr} {xs:List V} (e:H a=some (.tup xs)):TyOf K H (.ref a) (.type "tuple")
 |dK {a:Addr} {kvs:List (Key×V)} (e:H a=some (.dK kvs)):TyOf K H (.ref a) (.type "dict")
 |dT {a:Addr} {kvs:List (List Key×V)} (e:H a=some (.dT kvs)):TyOf K H (.ref a) (.type "dict")
 |ins {a C dx:Addr} {fs:List (Str×V)} (e:H a=some (.ins C dx fs)) (cl:Cls K C) (ha:PySem.W.findIn K (.ref C) "__class__"=some (some (.builtin "object.__class__")))
   (hn:PySem.W.specialIn K (.builtin "object.__class__") "__get__"=some (some (.builtin "getset_descriptor.__get__"))) (htk:PySem.W.takesIn K (.builtin "object.__class__")=some true)
   (hm:PySem.W.mroIn K C (.type "object")=some true):TyOf K H (.ref a) (.ref C)
theorem isinst_ok{x:V}{u t:Value}(I:Inv X pins σ H s)(rx:RelV x u)(ty:TyOf X.K H x t)(e:PySem.W.kitOne X.K t c=some b)(h:∀tk,Q (.bool b) {s with toks:=tk}):
 wpAny (model X.prog X.w) A (call (.builtin "isinstance") [u,c]) Q E s:=by
 cases ty with
 |non=>cases(show u=Value.none from rx);exact PySem.W.kia_one PySem.W.kitx_none I.kIn True.intro e (fun z=>nomatch z) h
 |bl y=>cases(show u=Value.bool y from rx);exact PySem.W.kia_one PySem.W.kitx_bool I.kIn True.intro e (fun z=>nomatch z) h
 |int i=>obtain⟨t,q⟩:=(show∃t,u=Value.int i t from rx);cases q;exact PySem.W.kia_one PySem.W.kitx_int I.kIn True.intro e (fun z=>nomatch z) h
 |str y=>obtain⟨t,q⟩:=(show∃t,u=Value.str y t from rx);cases q;exact PySem.W.kia_one PySem.W.kitx_str I.kIn True.intro e (fun z=>nomatch z) h
 |flt y=>obtain⟨t,q⟩:=(show∃t,u=Value.float y t from rx);cases q;exact PySem.W.kia_one PySem.W.kitx_float I.kIn True.intro e (fun z=>nomatch z) h
 | @lst a xs ea=>
   cases(show u=Value.ref a from rx)
   obtain⟨_,_,n,_,h1⟩:=(show ObjOk X.prog X.w H s.heap a (.lst xs)from I.hok a _ ea)
   exact PySem.W.kia_one PySem.W.kitx_list I.kIn ⟨_,h1,rfl⟩ e (fun z=>nomatch z) h
 | @frz a ob xs ea=>
   cases(show u=Value.ref a from rx)
   obtain⟨_,_,_,n,_,h1⟩:=(show ObjOk X.prog X.w H s.heap a (.frz ob (.lst xs))from I.hok a _ ea)
   exact PySem.W.kia_one PySem.W.kitx_list I.kIn ⟨_,h1,rfl⟩ e (fun z=>nomatch z) h
 | @tup a xs ea=>
   cases(show u=Value.ref a from rx)
   obtain⟨_,_,_,p⟩:=(show ObjOk X.prog X.w H s.heap a (.tup xs)from I.hok a _ ea)
   obtain⟨o,h1,h2,_⟩:=p
   exact PySem.W.kia_one PySem.W.kitx_tuple I.kIn ⟨o,h1,h2⟩ e (fun z=>nomatch z) h
 | @dK a kvs ea=>
   cases(show u=Value.ref a from rx)
   obtain⟨_,_,vs,_,p⟩:=(show ObjOk X.prog X.w H s.heap a (.dK kvs)from I.hok a _ ea)
   obtain⟨o,es,ep,h1,h2,_⟩:=p
   exact PySem.W.kia_one PySem.W.kitx_dict I.kIn ⟨o,h1,h2.1⟩ e (fun z=>nomatch z) h
 | @dT a kvs ea=>
   cases(show u=Value.ref a from rx)
   obtain⟨_,_,xs,_,o,es,ep,h1,h2,_⟩:=(show ObjOk X.prog X.w H s.heap a (.dT kvs)from I.hok a _ ea)
   exact PySem.W.kia_one PySem.W.kitx_dict I.kIn ⟨o,h1,h2.1⟩ e (fun z=>nomatch z) h
 | @ins a C dx fs ea cl ha hn htk hm=>
   cases(show u=Value.ref a from rx)
   obtain⟨mA,O,_⟩:=ins_get I.hok ea
   obtain⟨od,J,_⟩:=O.look
   exact PySem.W.kia_one (PySem.W.kitx_own (cl.get _) cl.hd ha hn htk hm) I.kIn J e (fun z=>nomatch z) h
end
structure Room (k:Nat) (A:Around):Prop where
 hd:A.handled=none
 dp:A.depth+3*k+5<recursionLimit
 un:A.units+16*k+200<cLine
 gd:A.guards=some []
theorem Room.mono{j k:Nat}{A:Around}(r:Room k A)(h:j<=k):Room j A:=⟨r.hd,by have:=r.dp;omega,by have:=r.un;omega,by first|exact r.gd|simpa[Around.deeper,Around.under,Code.guards,Code.isGuard,guardIds,pushGuards]using r.gd⟩
theorem Room.deeper{k:Nat}{A:Around}(r:Room (k+1) A)(env:Env):Room k (A.deeper env):=
 ⟨r.hd,by have:=r.dp;show A.depth+1+3*k+5<_;omega,by have:=r.un;show A.units+3+16*k+200<_;omega,by first|exact r.gd|simpa[Around.deeper,Around.under,Code.guards,Code.isGuard,guardIds,pushGuards]using r.gd⟩
theorem Room.in1{k:Nat}{A:Around}(r:Room (k+1) A):Room k A.in1:=
 ⟨r.hd,by have:=r.dp;show A.depth+3*k+5<_;omega,by have:=r.un;show A.units+1+16*k+200<_;omega,by first|exact r.gd|simpa[Around.deeper,Around.under,Code.guards,Code.isGuard,guardIds,pushGuards]using r.gd⟩
theorem Room.depth{k:Nat}{A:Around}(r:Room k A):A.depth<recursionLimit:=by have:=r.dp;omega
theorem Room.units{k:Nat}{A:Around}(r:Room k A):A.units+64<cLine:=by have:=r.un;omega
theorem Room.units0{k:Nat}{A:Around}(r:Room k A):A.units<cLine:=by have:=r.un;omega
def tNil:TA:=fun _ H Q=>Q [] H
def tCons(ta:TE)(tr:TA):TA:=fun σ H Q=>ta σ H fun x H1=>tr σ H1 fun xs H2=>Q (x::xs) H2
section
variable{X:Cx}{e:Expr}{es:List Expr}{te:TE}{t:TA}{pos:Pos}
theorem pa_nil:PA X [] tNil:=fun _ _ _ _ H Q I h=>Calls.spliced_nil ⟨[],H,I, .nil,h⟩
theorem pa_cons(ha:PE X e te)(hr:PA X es t)(hs:starEach (e::es) X.env=(false,eval e X.env)::starEach es X.env:=by rfl):PA X (e::es) (tCons te t):=by
 intro pos pins s σ H Q I h
 rw[hs]
 show wpAny _ _ (spliced ((false,eval e X.env)::backTo pos (starEach es X.env))) _ _ s
 refine Calls.spliced_cons (thn (ha pins s σ H _ I h) fun u s1 ⟨x,H1,I1,r1,q1⟩=>?_)
 exact thn (hr pos pins s1 σ H1 _ I1 q1) fun us s2 ⟨xs,H2,I2,r2,q2⟩=>⟨x::xs,H2,I2, .cons r1 r2,q2⟩
def tTup(t:TA):TE:=fun σ H Q=>t σ H fun xs H1=>xs.length<=sizeLine/\∀p,H1 p=none->Q (.ref p) (upd H1 p (.tup xs))
def tLst(t:TA):TE:=fun σ H Q=>t σ H fun xs H1=>xs.length<=sizeLine/\∀p,H1 p=none->Q (.ref p) (upd H1 p (.lst xs))
theorem pe_tup{x1}(h:PA X es t):PE X (.Tuple es x1 pos) (tTup t):=by
 intro pins s σ H Q I hq
 refine wpAny_Tuple_spliced (thn (h pos pins s σ H _ I hq) fun us s1 ⟨xs,H1,I1,r,z,q⟩=>⟨by rw[<-r.length];exact z,?_⟩)
 have hf:H1 s1.heap.objs.size=none:=I1.hok.fresh (Nat.le_refl _)
 refine⟨.ref s1.heap.objs.size,upd H1 s1.heap.objs.size (.tup xs),I1.laid (t':=s1.toks) (fun b u e=>Heap.get?_push_of_some _ e) (Nat.le_refl _) ?_,rfl,q _ hf⟩
 exact⟨z,us,r,⟨_,Heap.get?_push_size _ rfl,rfl,_,rfl⟩⟩
theorem pe_lst(h:PA X es t):PE X (.List es pos) (tLst t):=by
 intro pins s σ H Q I hq
 refine wpAny_List_spliced (thn (h pos pins s σ H _ I hq) fun us s1 ⟨xs,H1,I1,r,z,q⟩=>⟨by rw[<-r.length];exact z,?_⟩)
 have hf:H1 s1.heap.objs.size=none:=I1.hok.fresh (Nat.le_refl _)
 refine⟨.ref s1.heap.objs.size,upd H1 s1.heap.objs.size (.lst xs),I1.laid (t':=s1.toks) (fun b u e=>Heap.get?_push_of_some _ e) (Nat.le_refl _) ?_,rfl,q _ hf⟩
 exact⟨z,us,0,r,Heap.get?_push_size _ rfl⟩
end
abbrev Sp:=List V->Hp->VK->XK->Prop
abbrev CXT:=List Env->Hp->Shared->XK->Value->Shared->Prop
structure Env0 (P:Program) (w:World) (K:PySem.W.Frag) (mg:Str->Option Value) (base:Heap) (A:Around) (outer:List Env) (s:Shared) (H:Hp):Prop where
 frames:A.frames=some outer
 mod:Mod K mg base
 bs:∀b o,base.get? b=some o->s.heap.get? b=some o/\H b=none
 bsz:base.objs.size<=s.heap.objs.size
 funs:s.heap.FunFrames base outer
 frf:∀b∈frs outer,H b=none
 hok:HOk P w H s.heap
 bare:AllBare s.gens
def CE(outer:List Env)(P:Program)(w:World)(H:Hp)(s:Shared)(Q:VK)(u:Value)(s':Shared):Prop:=
 ∃v H',s'.os=s.os/\AllBare s'.gens/\Un (frs outer) [] H H' s.heap s'.heap/\HOk P w H' s'.heap/\RelV v u/\Q v H'
def CR(CX:CXT)(outer:List Env)(P:Program)(w:World)(H:Hp)(s:Shared)(Q:VK)(E:XK)(r:Result)(s':Shared):Prop:=
 match r with
 | .ok (.ret u)=>CE outer P w H s Q u s'
 | .ok _=>False
 | .error e=>CX outer H s E e s'
structure FnOk (P:Program) (w:World) (K:PySem.W.Frag) (mg:Str->Option Value) (base:Heap) (CX:CXT) (k:Nat) (f:Addr) (fd:FuncData) (ps:List Str) (sp:Sp):Prop where
 len:∀vs H Q E,sp vs H Q E->vs.length=ps.length
 run:∀ (A:Around) (outer:List Env) (s:Shared) (H:Hp) (args:Args) (us:List Value) (vs:List V) (Q:VK) (E:XK),Room k A->Env0 P w K mg base A outer s H->BindsTo s fd args (ps.zip us)->Vals vs us->sp vs H Q E->
  codeAny (model P w) A (.call (.ref f) args) (CR CX outer P w H s Q E) s
theorem FnOk.mono{P:Program}{w:World}{K:PySem.W.Frag}{mg:Str->Option Value}{base:Heap}{CX:CXT}{j k:Nat}{f:Addr}{fd:FuncData}{ps:List Str}{sp:Sp}(F:FnOk P w K mg base CX j f fd ps sp)(h:j<=k):
 FnOk P w K mg base CX k f fd ps sp:=⟨F.len,fun A outer s H args us vs Q E hr=>F.run A outer s H args us vs Q E (hr.mono h)⟩
theorem FnOk.imp{P:Program}{w:World}{K:PySem.W.Frag}{mg:Str->Option Value}{base:Heap}{CX:CXT}{k:Nat}{f:Addr}{fd:FuncData}{ps:List Str}{sp sp':Sp}(F:FnOk P w K mg base CX k f fd ps sp)
 (h:∀vs H Q E,sp' vs H Q E->sp vs H Q E):FnOk P w K mg base CX k f fd ps sp':=
 ⟨fun vs H Q E q=>F.len vs H Q E (h _ _ _ _ q),fun A outer s H args us vs Q E hr he hb hv hs=>F.run A outer s H args us vs Q E hr he hb hv (h _ _ _ _ hs)⟩
theorem Env0.in1{P:Program}{w:World}{K:PySem.W.Frag}{mg:Str->Option Value}{base:Heap}{A:Around}{outer:List Env}{s:Shared}{H:Hp}(e:Env0 P w K mg base A outer s H):
 Env0 P w K mg base A.in1 outer s H:=⟨e.frames,e.mod,e.bs,e.bsz,e.funs,e.frf,e.hok,e.bare⟩
section
variable{X:Cx}{pins:List (Addr×Obj)}{σ:St}{H:Hp}{s s':Shared}
theorem Inv.env0(I:Inv X pins σ H s):Env0 X.prog X.w X.K X.mg X.base X.A X.stack s H:=
 ⟨I.ok.frames,I.ok.mod,I.bs,Nat.le_trans I.ok.bsz I.sz,I.stack,I.stkFree,I.hok,I.bare⟩
theorem Inv.after{Q:VK}{u:Value}(I:Inv X pins σ H s)(h:CE X.stack X.prog X.w H s Q u s'):EP X pins σ Q u s':=by
 obtain⟨v,H',os,bare,un,hok,r,q⟩:=h
 obtain⟨hh,g,d,t,os'⟩:=s'
 obtain rfl:os'=s.os:=os
 exact⟨v,H',I.call (h':=hh) (g':=g) (d':=d) (t':=t) (ch:=[]) un hok bare (fun b z=>absurd z (by simp)),r,q⟩
end
def tCall(sp:Sp)(dvs:List V)(E:XK)(t:TA):TE:=fun σ H Q=>t σ H fun vs H1=>sp (vs++dvs) H1 Q E
def Binds(K:PySem.W.Frag)(fd:FuncData)(ps:List Str)(ds:List Value):Prop:=
 ∀ (s:Shared) (us:List Value),K.In s.heap->(us++ds).length=ps.length->BindsTo s fd ⟨us,[]⟩ (ps.zip (us++ds))
theorem Binds.all{K:PySem.W.Frag}{fd:FuncData}{ps:List Str}(h:∀us:List Value,us.length=ps.length->bindArgs fd ⟨us,[]⟩=pure (ps.zip us)):Binds K fd ps []:=fun s us _ hl=>by
 rw[List.append_nil]at hl⊢
 exact .of_eq (h us hl)
def Passes(CX:CXT)(X:Cx)(E:XK):Prop:=∀ (pins:List (Addr×Obj)) (σ:St) (H:Hp) (s:Shared) (e:Value) (s':Shared),Inv X pins σ H s->CX X.stack H s E e s'->X.xe e s'
section
variable{X:Cx}{CX:CXT}{k:Nat}{f C:Addr}{fd:FuncData}{ps:List Str}{sp:Sp}{dvs:List V}{ds:List Value}{E:XK}{x m:Str}{p pos apos:Pos}{e o:Expr}{es:List Expr}{ta:TE}{t:TA}
theorem run_fn{pins:List (Addr×Obj)}{σ:St}{H:Hp}{s:Shared}{Q:VK}{us:List Value}{vs:List V}(F:FnOk X.prog X.w X.K X.mg X.base CX k f fd ps sp)(hr:Room k X.A)(hb:Binds X.K fd ps ds)(hd:Vals dvs ds)(hx:Passes CX X E)
 (I:Inv X pins σ H s) (r:Vals vs us) (h:sp (vs++dvs) H Q E):wpAny (model X.prog X.w) X.A (call (.ref f) us) (EP X pins σ Q) X.xe s:=by
 have r2:Vals (vs++dvs) (us++ds):=r.append hd
 have hl:(us++ds).length=ps.length:=by rw[<-r2.length];exact F.len _ _ _ _ h
 refine wpAny_call (codeAny_mono (F.run X.A X.stack s H ⟨us,[]⟩ (us++ds) (vs++dvs) Q E hr I.env0 (hb s us I.kIn hl) r2 h) fun r s' hq=>?_)
 cases r with
 |error e=>exact hx pins σ H s e s' I hq
 |ok fl=>
  cases fl with
  |ret u=>exact I.after hq
  |next=>exact False.elim hq
  |brk=>exact False.elim hq
  |cont=>exact False.elim hq
theorem pe_call(F:FnOk X.prog X.w X.K X.mg X.base CX k f fd ps sp)(hr:Room k X.A)(hg:Gl X x)(hm:X.mg x=some (.ref f))(hk:PySem.W.keepIn X.K (.ref f)=true)(hb:Binds X.K fd ps ds)(hd:Vals dvs ds)(hx:Passes CX X E)
 (ha:PA X (e::es) t) (hdb:(x==("__debug__":Str))=false:=by decide) (he:starEach (e::es) X.env=(false,eval e X.env)::starEach es X.env:=by rfl) (hpl:(backTo pos (starEach es X.env)).any (·.1)=false:=by rfl):
 PE X (.Call (.Name x p) (e::es) [] pos) (tCall sp dvs E t):=by
 intro pins s σ H Q I h
 refine wpAny_Call_Name_kw (ld_glob I hg hm ?_ hdb)
 refine PySem.W.callWith_K (h₀:=X.base) I.ok.mod.kin hk (thn (ha pos pins s σ H _ I h) fun us s1 ⟨vs,H1,I1,r,q⟩=>⟨I1.kIn,?_⟩) he hpl
 exact run_fn F hr hb hd hx I1 r q
end
section
variable{X:Cx}{CX:CXT}{k:Nat}{f C:Addr}{fd:FuncData}{ps ks:List Str}{sp:Sp}{E:XK}{x m:Str}{p pos apos kpos:Pos}{e o:Expr}{es:List Expr}{kws:List Keyword}{te ta:TE}{t tk:TA}{nm:Option Str}
variable{g:List Value->List Value->List Value}{gV:List V->List V->List V}
end
structure FnScope (N P:List Str) (sc:Scope):Prop where
 kind:sc.kind= .function
 co:sc.isCoroutine=false
 gen:sc.isGenerator=false
 nd:N.Nodup
 pre:N.take P.length=P
 par:∀x∈P,sc.names.lookup x=some .local\/sc.names.lookup x=some .cell
 nofree:∀y∈sc.names,y.2≠ .free
theorem bindL_out{kindOf:Str->Option NameKind}{x:Str}:∀ {binds:List (Str×Value)} {m:Str->Option Value},(∀v,(x,v)∉binds)->bindL kindOf binds m x=m x
 |[],_,_=>rfl
 |(n,v)::r,m,h=>by
  unfold bindL
  rw[bindL_out fun w hw=>h w (List.mem_cons_of_mem _ hw)]
  split
  ·have:x≠n:=by rintro rfl;exact h v List.mem_cons_self
   simp[this]
  ·rfl
theorem bindC_out{kindOf:Str->Option NameKind}{x:Str}:∀ {binds:List (Str×Value)} {m:Str->Option Value},(∀v,(x,v)∉binds)->bindC kindOf binds m x=m x
 |[],_,_=>rfl
 |(n,v)::r,m,h=>by
  unfold bindC
  rw[bindC_out fun w hw=>h w (List.mem_cons_of_mem _ hw)]
  split
  ·rfl
  ·have:x≠n:=by rintro rfl;exact h v List.mem_cons_self
   simp[this]
theorem bindL_get{kindOf:Str->Option NameKind}{x:Str}{v:Value}:∀ {P:List Str} {vs:List Value} {i:Nat} {m:Str->Option Value},P.Nodup->P[i]? =some x->vs[i]? =some v->kindOf x=some .local->
 bindL kindOf (P.zip vs) m x=some v
 |[],_,_,_,_,h,_,_=>by simp at h
 |_::_,[],_,_,_,_,h,_=>by simp at h
 |p::P,w::vs,0,m,nd,h1,h2,hk=>by
  simp at h1 h2;subst h1;subst h2
  show bindL kindOf ((p,w)::P.zip vs) m p=_
  unfold bindL
  rw[bindL_out fun v hv=>(List.nodup_cons.mp nd).1 (List.of_mem_zip hv).1,if_pos hk]
  simp
 |p::P,w::vs,i+1,m,nd,h1,h2,hk=>by
  show bindL kindOf ((p,w)::P.zip vs) m x=_
  unfold bindL
  exact bindL_get (i:=i) (List.nodup_cons.mp nd).2 (by simpa using h1) (by simpa using h2) hk
theorem bindC_get{kindOf:Str->Option NameKind}{x:Str}{v:Value}:∀ {P:List Str} {vs:List Value} {i:Nat} {m:Str->Option Value},P.Nodup->P[i]? =some x->vs[i]? =some v->kindOf x≠some .local->
 bindC kindOf (P.zip vs) m x=some v
 |[],_,_,_,_,h,_,_=>by simp at h
 |_::_,[],_,_,_,_,h,_=>by simp at h
 |p::P,w::vs,0,m,nd,h1,h2,hk=>by
  simp at h1 h2;subst h1;subst h2
  show bindC kindOf ((p,w)::P.zip vs) m p=_
  unfold bindC
  rw[bindC_out fun v hv=>(List.nodup_cons.mp nd).1 (List.of_mem_zip hv).1,if_neg hk]
  simp
 |p::P,w::vs,i+1,m,nd,h1,h2,hk=>by
  show bindC kindOf ((p,w)::P.zip vs) m x=_
  unfold bindC
  exact bindC_get (i:=i) (List.nodup_cons.mp nd).2 (by simpa using h1) (by simpa using h2) hk
def start(N:List Str)(vs:List V):St:=vs.map some++List.replicate (N.length-vs.length) none
def cxOf(CX:CXT)(P:Program)(w:World)(K:PySem.W.Frag)(mg:Str->Option Value)(base:Heap)(N:List Str)(qual:Str)(scope:Scope)(f:Addr)(cd:Value)(A:Around)(outer:List Env)(s:Shared)(H:Hp)(E:XK):Cx where
 prog:=P
 w:=w
 K:=K
 mg:=mg
 base:=base
 A:=A.deeper (envOfC qual scope s.heap.objs.size f cd)
 N:=N
 s₀:=s
 H₀:=H
 env:=envOfC qual scope s.heap.objs.size f cd
 outer:=outer
 stack:=envOfC qual scope s.heap.objs.size f cd::outer
 ex:=[]
 calm:=true
 fn:=fun _=>true
 pn:=[]
 xe:=fun e s'=>wpAny (model P w) (A.deeper (envOfC qual scope s.heap.objs.size f cd)) (leaving (envOfC qual scope s.heap.objs.size f cd) e) (fun _ s''=>CX outer H s E e s'') (fun e' s''=>CX outer H s E e' s'') s'
theorem cell_has{sc:Scope}{n:Nat}{x:Str}(h:sc.names.lookup x=some .cell):∃c,(cellsFrom n sc.names []).lookup x=some c:=by
 have q:=PySem.W.cellsFrom_some sc.names n [] (.inl h)
 exact Option.isSome_iff_exists.mp q
theorem inv_start{CX:CXT}{P:Program}{w:World}{K:PySem.W.Frag}{mg:Str->Option Value}{base:Heap}{N ps:List Str}{qual:Str}{scope:Scope}{f:Addr}{cd:Value}{A:Around}{outer:List Env}{s s1:Shared}{H:Hp}{E:XK}{us:List Value}{vs:List V}
 (S:FnScope N ps scope) (hd:A.handled=none) (e0:Env0 P w K mg base A outer s H) (hl:vs.length=ps.length) (r:Vals vs us)
 (x:InCallC s s.heap.objs.size (bindL (envOfC qual scope s.heap.objs.size f cd).kindOf (ps.zip us) fun _=>none) (cellsFrom (s.heap.objs.size+1) scope.names []) (bindC (envOfC qual scope s.heap.objs.size f cd).kindOf (ps.zip us) fun _=>none) s1):
 Inv (cxOf CX P w K mg base N qual scope f cd A outer s H E) [] (start N vs) H s1:=by
 have hpl:ps.length<=N.length:=by have:=congrArg List.length S.pre;rw[List.length_take]at this;omega
 obtain⟨h1,tk,rfl,hk⟩:=x.done
 have noA:∀b:Addr,b∉(cxOf CX P w K mg base N qual scope f cd A outer s H E).ex:=fun b z=>absurd (show b∈([]:List Addr)from z) (by simp)
 refine⟨⟨e0.mod,S.kind,rfl,rfl,Nat.le_refl _,fun y z c h1 h2=>?_,fun y hy=>?_,fun y c _ h=>?_,fun _=>hd,Around.frames_deeper e0.frames, .inr ⟨rfl,rfl⟩,fun b z=>absurd z (noA b),e0.bs,e0.bsz,fun b _ _=>noA b,fun b z=>absurd z (noA b),e0.funs,e0.frf⟩,
  rfl,e0.bare,Un.kept hk,⟨_,x.toInCall.ns,fun i y v h1 h2 h3=>?_⟩,fun y c h=>⟨_,x.cell y c h⟩,e0.hok.fresh (Nat.le_refl _),fun y c h=>?_,fun p hp=>absurd (show p∈([]:List (Addr×Obj))from hp) (by simp),e0.hok.kept hk,?_⟩
 ·exact name_of_addr x.apart (PySem.mem_of_lookup h1) (PySem.mem_of_lookup h2)
 ·have hy:scope.names.lookup y=some .cell\/scope.names.lookup y=some .free:=hy
  rcases hy with hy|hy
  ·exact cell_has hy
  ·exact absurd rfl (S.nofree _ (PySem.mem_of_lookup hy))
 ·exact Nat.le_of_lt (x.above y c (PySem.mem_of_lookup h))
 ·have hi:i<vs.length:=by
   unfold start at h2
   by_cases hi:i<vs.length
   ·exact hi
   ·rw[List.getElem?_append_right (by simpa using hi)]at h2
    rw[List.getElem?_replicate]at h2
    split at h2<;>cases h2
  have ha:vs[i]? =some v:=by
   unfold start at h2
   rw[List.getElem?_append_left (by simpa using hi),List.getElem?_map]at h2
   cases e:vs[i]? with
   |none=>rw[e]at h2;cases h2
   |some a=>rw[e]at h2;cases h2;rfl
  obtain⟨u,hu,rv⟩:=r.get ha
  have hp:ps[i]? =some y:=by
   rw[<-S.pre,List.getElem?_take_of_lt (by omega)];exact h1
  have ndP:ps.Nodup:=by rw[<-S.pre];exact S.nd.sublist (List.take_sublist _ _)
  refine⟨u,rv,?_⟩
  rcases S.par y (List.mem_of_getElem? hp)with k|k
  ·exact .inl ⟨k,bindL_get ndP hp hu k⟩
  ·obtain⟨c,e⟩:=cell_has (n:=s.heap.objs.size+1) k
   refine .inr ⟨.inl k,c,e,?_⟩
   have q:=x.cell y c e
   rw[bindC_get ndP hp hu (by show scope.names.lookup y≠_;rw[k];decide)]at q
   exact q
 ·exact e0.hok.fresh (Nat.le_of_lt (x.above y c (PySem.mem_of_lookup h)))
 ·unfold start
  show _=N.length
  rw[List.length_append,List.length_map,List.length_replicate]
  omega
theorem fn_of{CX:CXT}{P:Program}{w:World}{K:PySem.W.Frag}{mg:Str->Option Value}{base:Heap}{k:Nat}{f:Addr}{name qual:Str}{params:Arguments}{body:List Stmt}{scope:Scope}{dV kV doc pm cdv ct oc:Value}{an od:Option Addr}
 {osl:Array (Option Value)} {N ps:List Str} {sp:Sp} (lk:K.lookup f=some ⟨oc,od, .func (PySem.W.fnOf name qual params body scope dV kV doc pm an cdv ct),osl⟩) (hcd:PySem.W.codeIn K cdv qual=true) (S:FnScope N ps scope)
 (len:∀vs H Q E,sp vs H Q E->vs.length=ps.length)
 (hbody:∀ (A:Around) (outer:List Env) (s:Shared) (H:Hp) (vs:List V) (Q:VK) (E:XK),Room k (A.deeper (envOfC qual scope s.heap.objs.size f cdv))->sp vs H Q E->
   ∃t,PSs (cxOf CX P w K mg base N qual scope f cdv A outer s H E) body t/\t {nx:=fun _ H'=>Q .non H',rt:=Q} (start N vs) H):
 FnOk P w K mg base CX (k+1) f (PySem.W.fnOf name qual params body scope dV kV doc pm an cdv ct) ps sp:=by
 refine⟨len,fun A outer s H args us vs Q E hr e0 hb r hsp=>?_⟩
 have hl:=len _ _ _ _ hsp
 have KX:K.In s.heap:=e0.mod.kin.keeps fun b o e=>(e0.bs b o e).1
 have lim:s.heap.NoLimit:=e0.mod.nolimit.keeps fun b o e=>(e0.bs b o e).1
 have hkind:∀y∈ps.zip us,scope.names.lookup y.1=some .local\/(scope.names.lookup y.1=some .cell/\((cellsFrom (s.heap.objs.size+1) scope.names []).lookup y.1).isSome=true):=fun⟨n,v⟩ hy=>by
  rcases S.par n (List.of_mem_zip hy).1 with q|q
  ·exact .inl q
  ·exact .inr ⟨q,PySem.W.cellsFrom_some _ _ _ (.inl q)⟩
 refine codeAny_call_function hr.depth (KX _ _ lk) rfl S.co S.gen rfl (PySem.W.codeRec_of KX hcd) (hb _ _ _ _ ?_)
 refine wpAny_newFunctionEnv_cells S.kind hkind fun env he s1 x=>?_
 subst he
 refine⟨lim.keeps x.toInCall.keep,codeAny_func ?_⟩
 obtain⟨t,ht,hq⟩:=hbody A outer s H vs Q E (hr.deeper _) hsp
 have I:Inv (cxOf CX P w K mg base N qual scope f cdv A outer s H E) [] (start N vs) H s1:=inv_start S hr.hd e0 hl r x
 refine wpAny_mono (ht [] s1 (start N vs) H _ I hq) (fun fl s' hs=>?_) fun e s' hs=>hs
 have fin:∀ {σ':St} {H':Hp} {v:V} {u:Value},Inv (cxOf CX P w K mg base N qual scope f cdv A outer s H E) [] σ' H' s'->RelV v u->Q v H'->CE outer P w H s Q u s':=
  fun{σ' H' v u} J rv q=>⟨v,H',J.os,J.bare,J.base,J.hok,rv,q⟩
 cases fl with
 |ret u=>
  obtain⟨v,σ',H',J,rv,q⟩:=hs
  exact fin J rv q
 |next=>
  obtain⟨σ',H',J,q⟩:=hs
  exact fin (v:=V.non) (u:=Value.none) J rfl q
 |brk=>
  obtain⟨_,_,_,q⟩:=hs
  exact False.elim q
 |cont=>
  obtain⟨_,_,_,q⟩:=hs
  exact False.elim q
section
variable{X:Cx}{x:Str}{p pos:Pos}{e:Expr}{es:List Expr}{t:TA}{id T:String}{r:List V->Hp->VK->Prop}
def tCB(r:List V->Hp->VK->Prop)(t:TA):TE:=fun σ H Q=>t σ H fun vs H1=>r vs H1 Q
theorem pe_callB(hc:CallR X (.builtin id) r)(hg:Gl X x)(hm:X.mg x=none)(hv:bootBuiltins x=some (.builtin id))(ha:PA X (e::es) t)(hn:x≠"__name__":=by decide)(hdb:(x==("__debug__":Str))=false:=by decide)
 (he:starEach (e::es) X.env=(false,eval e X.env)::starEach es X.env:=by rfl) (hpl:(backTo pos (starEach es X.env)).any (·.1)=false:=by rfl):PE X (.Call (.Name x p) (e::es) [] pos) (tCB r t):=by
 intro pins s σ H Q I h
 refine wpAny_Call_Name_kw (ld_blt I hg hm hv ?_ hn hdb)
 exact PyProof.Rows.callWith_builtin1 (thn (ha pos pins s σ H _ I h) fun us s1 ⟨vs,H1,I1,r1,q1⟩=>hc pins s1 σ H1 vs us Q I1 r1 q1) he hpl
theorem pe_callTy(hc:CallR X (.type T) r)(hg:Gl X x)(hm:X.mg x=none)(hv:bootBuiltins x=some (.type T))(ha:PA X (e::es) t)(hn:x≠"__name__":=by decide)(hdb:(x==("__debug__":Str))=false:=by decide)
 (he:starEach (e::es) X.env=(false,eval e X.env)::starEach es X.env:=by rfl) (hpl:(backTo pos (starEach es X.env)).any (·.1)=false:=by rfl):PE X (.Call (.Name x p) (e::es) [] pos) (tCB r t):=by
 intro pins s σ H Q I h
 refine wpAny_Call_Name_kw (ld_blt I hg hm hv ?_ hn hdb)
 exact PyProof.Rows.callWith_type1 (thn (ha pos pins s σ H _ I h) fun us s1 ⟨vs,H1,I1,r1,q1⟩=>hc pins s1 σ H1 vs us Q I1 r1 q1) he hpl
end
end L2
namespace HT
open PySem PyProof.Rows
section
open PySem.SeqAt
open PySem.AutoSeq1 (wpAny_loadPart')
open PySem.MeetsSeq PySem.MeetsSeq2 PySem.MeetsSeq3
end
section
variable{prog:Program}{w:World}{A:Around}{E:Value->Shared->Prop}{s:Shared}
def sIx(n d:Nat):Option Int->Nat
 |none=>d
 |some v=>if v<0 then(v+(n:Int)).toNat else min v.toNat n
theorem sIx_none(n d:Nat):sIx n d none=d:=rfl
theorem sIx_nat(n d k:Nat):sIx n d (some (k:Int))=min k n:=by
 show(if(k:Int)<0 then((k:Int)+(n:Int)).toNat else min (k:Int).toNat n)=min k n
 rw[if_neg (by omega),Int.toNat_natCast]
theorem sIx_le(n d:Nat)(hd:d<=n)(o:Option Int):sIx n d o<=n:=by
 cases o with
 |none=>exact hd
 |some v=>
  show(if v<0 then(v+(n:Int)).toNat else min v.toNat n)<=n
  by_cases hv:v<0
  ·rw[if_pos hv];omega
  ·rw[if_neg hv];exact Nat.min_le_right _ _
end
end HT
namespace L2
open PySem PySem.Spec PyProof.Rows
abbrev TO:=St->Hp->(Option Int->Hp->Prop)->Prop
def PO(X:Cx)(e:Option Expr)(t:TO):Prop:=
 ∀ (pins:List (Addr×Obj)) (s:Shared) (σ:St) (H:Hp) (Q:Option Int->Hp->Prop),Inv X pins σ H s->t σ H Q->
   wpAny (model X.prog X.w) X.A (evalPart e X.env) (fun u s'=>∃o H',Inv X pins σ H' s'/\IsPart u o/\Q o H') X.xe s
def tNoPart:TO:=fun _ H Q=>Q none H
def tPart(t:TE):TO:=fun σ H Q=>t σ H fun x H1=>∃i,x= .int i/\Q (some i) H1
section
variable{X:Cx}{e:Expr}{te:TE}{lo hi:Option Expr}{tl th:TO}{pos p2:Pos}
theorem po_none:PO X none tNoPart:=by
 intro pins s σ H Q I h
 rw[evalPart_none]
 exact wpAny_pure ⟨none,H,I, .none,h⟩
theorem po_some(h:PE X e te):PO X (some e) (tPart te):=by
 intro pins s σ H Q I hw
 rw[evalPart_some]
 refine thn (h pins s σ H _ I hw) fun u s1 ⟨x,H1,I1,r1,q1⟩=>?_
 obtain⟨i,rfl,q⟩:=q1
 obtain⟨t,rfl⟩:=r1
 exact⟨some i,H1,I1, .int i t,q⟩
def SlR(X:Cx)(r:V->Option Int->Option Int->Hp->VK->Prop):Prop:=
 ∀ (pins:List (Addr×Obj)) (s:Shared) (σ:St) (H:Hp) (x:V) (v vl vu:Value) (lo hi:Option Int) (sl:Addr) (Q:VK),Inv X pins σ H s->RelV x v->s.heap.IsSliceOf sl vl vu .none->IsPart vl lo->IsPart vu hi->r x lo hi H Q->
   ∃T id,typeLookup (.type T) "__getitem__"=pure (some (.builtin id))/\s.TypeIs v T/\wpAny (model X.prog X.w) X.A (getItem v (.ref sl)) (EP X pins σ Q) X.xe s
theorem SlR.or{r r':V->Option Int->Option Int->Hp->VK->Prop}(h:SlR X r)(h':SlR X r'):SlR X (fun x lo hi H Q=>r x lo hi H Q\/r' x lo hi H Q):=by
 intro pins s σ H x v vl vu lo hi sl Q I rx hs pl pu q
 rcases q with q|q
 ·exact h pins s σ H x v vl vu lo hi sl Q I rx hs pl pu q
 ·exact h' pins s σ H x v vl vu lo hi sl Q I rx hs pl pu q
def tSl(r:V->Option Int->Option Int->Hp->VK->Prop)(te:TE)(tl th:TO):TE:=fun σ H Q=>te σ H fun x H1=>tl σ H1 fun l H2=>th σ H2 fun u H3=>r x l u H3 Q
theorem pe_slice{r:V->Option Int->Option Int->Hp->VK->Prop}(hr:SlR X r)(he:PE X e te)(hl:PO X lo tl)(hu:PO X hi th):PE X (.Subscript e (.Slice lo hi none p2) pos) (tSl r te tl th):=by
 intro pins s σ H Q I h
 refine Subscript_ (thn (he pins s σ H _ I h) fun v s1 ⟨x,H1,I1,r1,q1⟩=>?_)
 refine wpAny_Slice (thn (hl pins s1 σ H1 _ I1 q1) fun vl s2 ⟨l,H2,I2,pl,q2⟩=>thn (hu pins s2 σ H2 _ I2 q2) fun vu s3 ⟨u,H3,I3,pu,q3⟩=>?_)
 rw[evalPart_none]
 refine wpAny_pure ?_
 have I4:Inv X pins σ H3 {s3 with heap:=s3.heap.push {cls:= .type "slice",data:= .fields #[vl,vu, .none]}}:=I3.kept (t':=s3.toks) fun b ob q=>Heap.get?_push_of_some _ q
 obtain⟨T,id,hT,ht,hg⟩:=hr pins {s3 with heap:=s3.heap.push {cls:= .type "slice",data:= .fields #[vl,vu, .none]}} σ H3 x v vl vu l u s3.heap.objs.size Q I4 r1 (Heap.IsSliceOf.new ..) pl pu q3
 show wpAny (model X.prog X.w) X.A (subscriptTail e (.Slice lo hi none p2) v (.ref s3.heap.objs.size)) (EP X pins σ Q) X.xe {s3 with heap:=s3.heap.push {cls:= .type "slice",data:= .fields #[vl,vu, .none]}}
 exact tail_any (ops:=[.ref s3.heap.objs.size,v]) ht hT hg (by with_unfolding_all rfl)
def cutV(xs:List V)(lo hi:Option Int):List V:=(xs.drop (HT.sIx xs.length 0 lo)).take (HT.sIx xs.length xs.length hi-HT.sIx xs.length 0 lo)
theorem cutV_length(xs:List V)(lo hi:Option Int):(cutV xs lo hi).length<=xs.length:=by
 unfold cutV
 rw[List.length_take,List.length_drop]
 omega
end
def ixN(n:Nat)(i:Int):Option Nat:=if 0<=i then(if i<n then some i.toNat else none)else if -(n:Int)<=i then some (i+n).toNat else none
def atI{α:Type}(xs:List α)(i:Int):Option α:=(ixN xs.length i).bind fun j=>xs[j]?
theorem ixN_seq{n:Nat}{i:Int}{j:Nat}(h:ixN n i=some j):seqIndex? i n=some j/\j<n/\ -(n:Int)<=i/\i<n:=by
 unfold ixN at h
 by_cases h0:0<=i
 ·rw[if_pos h0]at h
  by_cases h1:i<n
  ·rw[if_pos h1]at h
   have e:i.toNat=j:=Option.some.inj h
   exact⟨by rw[seqIndex_of h0 h1,e],by omega,by omega,h1⟩
  ·rw[if_neg h1]at h;cases h
 ·rw[if_neg h0]at h
  by_cases h1: -(n:Int)<=i
  ·rw[if_pos h1]at h
   have e:(i+n).toNat=j:=Option.some.inj h
   exact⟨by rw[seqIndex_neg (by omega) h1,e],by omega,h1,by omega⟩
  ·rw[if_neg h1]at h;cases h
theorem atI_get{α:Type}{xs:List α}{i:Int}{v:α}(h:atI xs i=some v):∃j,seqIndex? i xs.length=some j/\xs[j]? =some v/\j<xs.length/\ -(xs.length:Int)<=i/\i<xs.length:=by
 unfold atI at h
 cases e:ixN xs.length i with
 |none=>rw[e]at h;cases h
 |some j=>
  rw[e]at h
  obtain⟨h1,h2,h3,h4⟩:=ixN_seq e
  exact⟨j,h1,h,h2,h3,h4⟩
theorem atI_nat{α:Type}{xs:List α}{j:Nat}{v:α}(h:xs[j]? =some v):atI xs (j:Int)=some v:=by
 have hj:j<xs.length:=(List.getElem?_eq_some_iff.mp h).1
 have e:ixN xs.length (j:Int)=some j:=by
  unfold ixN
  rw[if_pos (by omega),if_pos (by omega)];simp
 unfold atI;rw[e];exact h
theorem atI_last{α:Type}(xs:List α)(v:α):atI (xs++[v]) (-1)=some v:=by
 have hl:(xs++[v]).length=xs.length+1:=by simp
 have e:ixN (xs++[v]).length (-1)=some xs.length:=by
  unfold ixN
  rw[hl,if_neg (by decide),if_pos (by omega)]
  congr 1
  omega
 unfold atI
 rw[e]
 show(xs++[v])[xs.length]? =some v
 simp
def PlainIx(b:Expr):Prop:=∀o i,subscripted b false o i=operate [o,i] (getItem o i)
def IxR(X:Cx)(r:R2):Prop:=
 ∀ (value slice:Expr) (pins:List (Addr×Obj)) (s:Shared) (σ:St) (H:Hp) (x y:V) (v u:Value) (Q:VK),Inv X pins σ H s->RelV x v->RelV y u->r x y H Q->
   subscripted slice false v u=operate [v,u] (getItem v u)->wpAny (model X.prog X.w) X.A (subscriptTail value slice v u) (EP X pins σ Q) X.xe s
def MtR(X:Cx)(id:String)(r:V->List V->Hp->VK->Prop):Prop:=
 ∀ (pins:List (Addr×Obj)) (s:Shared) (σ:St) (H:Hp) (x:V) (xs:List V) (v:Value) (us:List Value) (Q:VK),Inv X pins σ H s->RelV x v->Vals xs us->r x xs H Q->
   wpAny (model X.prog X.w) X.A (call (.builtin id) (v::us)) (EP X pins σ Q) X.xe s
section
variable{X:Cx}{a b:Expr}{ta tb:TE}{pos:Pos}
theorem IxR.or{r r':R2}(h:IxR X r)(h':IxR X r'):IxR X (fun x y H Q=>r x y H Q\/r' x y H Q):=by
 intro value slice pins s σ H x y v u Q I rx ry q hs
 rcases q with q|q
 ·exact h value slice pins s σ H x y v u Q I rx ry q hs
 ·exact h' value slice pins s σ H x y v u Q I rx ry q hs
theorem pe_ix{r:R2}(hr:IxR X r)(ha:PE X a ta)(hb:PE X b tb)(hs:PlainIx b):PE X (.Subscript a b pos) (tOp r ta tb):=by
 intro pins s σ H Q I h
 exact Subscript_ (binT ha hb I h fun v u s2 x y H2 I2 rx ry q=>hr a b pins s2 σ H2 x y v u Q I2 rx ry q (hs _ _))
def rIxL(K:PySem.W.Frag):R2:=fun x y H Q=>∃p xs i v,x= .ref p/\y= .int i/\SqL K H p xs/\atI xs i=some v/\Q v H
def rIxT(K:PySem.W.Frag):R2:=fun x y H Q=>∃p xs i v,x= .ref p/\y= .int i/\SqT K H p xs/\atI xs i=some v/\Q v H
def rIxS:R2:=fun x y H Q=>∃z i c,x= .str z/\y= .int i/\z.length<=sizeLine/\atI z.cps.toList i=some c/\Q (.str ⟨#[c]⟩) H
theorem ix_list:IxR X (rIxL X.K):=by
 intro value slice pins s σ H x y v u Q I rx ry h hs
 obtain⟨p,xs,i,z,rfl,rfl,hq,he,q⟩:=h
 cases rx
 obtain⟨t,rfl⟩:=ry
 obtain⟨its,r,pl,hz⟩:=I.list hq
 obtain⟨j,h1,h2,h3,h4,h5⟩:=atI_get he
 obtain⟨w,ew,rw'⟩:=r.get h2
 have hl:=r.length
 have hn:=line63
 have fin:EP X pins σ Q w s:=⟨z,H,I,rw',q⟩
 by_cases h0:0<=i
 ·have hj:i.toNat=j:=by
   rw[seqIndex_of h0 h5]at h1
   exact Option.some.inj h1
  exact item_listR pl.isList h0 (by omega) (by rw[hj];simpa using ew) fin hs
 ·have hj:(i+(its.toArray.size:Int)).toNat=j:=by
   rw[seqIndex_neg (by omega) h4]at h1
   rw[List.size_toArray,<-hl]
   exact Option.some.inj h1
  exact subscriptTail_builtinR (x:=w) pl.isList.typeIs slot_list_getitem.lookup
   (wpAny_getItem_list_neg (Q:=fun r s'=>r=w/\EP X pins σ Q r s') pl.isList (by omega) (by rw[List.size_toArray]<;>omega) (by omega) (by rw[hj];simpa using ew) ⟨rfl,fin⟩) hs
theorem ix_tup:IxR X (rIxT X.K):=by
 intro value slice pins s σ H x y v u Q I rx ry h hs
 obtain⟨p,xs,i,z,rfl,rfl,hq,he,q⟩:=h
 cases rx
 obtain⟨t,rfl⟩:=ry
 obtain⟨its,r,pl,hz⟩:=I.tuple hq
 obtain⟨j,h1,h2,h3,h4,h5⟩:=atI_get he
 obtain⟨w,ew,rw'⟩:=r.get h2
 have hl:=r.length
 have hn:=line63
 have fin:EP X pins σ Q w s:=⟨z,H,I,rw',q⟩
 exact subscriptTail_builtinR (x:=w) pl.typeIs slot_tuple_getitem.lookup
  (getItem_tuple (j:=j) (Q:=fun r s'=>r=w/\EP X pins σ Q r s') pl (by omega) (by omega) (by rw[List.size_toArray,<-hl];exact h1) (by simpa using ew) ⟨rfl,fin⟩) hs
theorem ix_str:IxR X rIxS:=by
 intro value slice pins s σ H x y v u Q I rx ry h hs
 obtain⟨z,i,c,rfl,rfl,hz,he,q⟩:=h
 obtain⟨t,rfl⟩:=rx
 obtain⟨t',rfl⟩:=ry
 obtain⟨j,h1,h2,h3,h4,h5⟩:=atI_get he
 have hl:z.cps.toList.length=z.length:=by simp[Str.length]
 rw[hl]at h1 h4 h5
 have hn:=line63
 exact tail_any (typeIs_str s z t) slot_str_getitem.lookup (getItem_str (c:=c) (by
  have e1:decide (i< -(2^63:Int))=false:=decide_eq_false (by omega)
  have e2:decide (i>=2^63)=false:=decide_eq_false (by omega)
  rw[e1,e2,Bool.or_false]) (by rw[h1];simpa using h2) ⟨.str ⟨#[c]⟩,H,I.tok _,⟨_,rfl⟩,q⟩) hs
theorem mapSeq_set(its:List Value)(n j:Nat)(u:Value):Obj.mapSeq (·.setIfInBounds j u) {cls:= .type "list",data:= .seq its.toArray n}={cls:= .type "list",data:= .seq (its.set j u).toArray n}:=by
 simp[Obj.mapSeq]
theorem Inv.lst{pins:List (Addr×Obj)}{σ:St}{H:Hp}{s:Shared}{p:Addr}{xs:List V}(I:Inv X pins σ H s)(h:H p=some (.lst xs)):
 ∃ (its:List Value) (n:Nat),Vals xs its/\s.heap.get? p=some {cls:= .type "list",data:= .seq its.toArray n}/\xs.length<=sizeLine:=by
 obtain⟨z,its,n,r,e⟩:=I.hok p _ h
 exact⟨its,n,r,e,z⟩
theorem Inv.lstUpd{pins:List (Addr×Obj)}{σ:St}{H:Hp}{s:Shared}{p:Addr}{xs ys:List V}{its its':List Value}{n n':Nat}{f:Obj->Obj}(I:Inv X pins σ H s)(h:H p=some (.lst xs))
 (ho:s.heap.get? p=some {cls:= .type "list",data:= .seq its.toArray n}) (hf:f {cls:= .type "list",data:= .seq its.toArray n}={cls:= .type "list",data:= .seq its'.toArray n'}) (r:Vals ys its') (hz:ys.length<=sizeLine) (t:Nat):
 Inv X pins σ (upd H p (.lst ys)) {s with heap:=s.heap.update p f,toks:=t}:=by
 have e:(s.heap.update p f).get? p=some {cls:= .type "list",data:= .seq its'.toArray n'}:=by
  rw[Heap.get?_update_self f ho (by rw[hf]<;>rfl),hf]
 refine I.write (x:=p) (e:=p) (by rw[h];trivial) (.inl rfl) (fun b u hb q=>(Heap.get?_update_other _ _ (Ne.symm hb)).trans q) ⟨_,e⟩ ?_
 exact⟨hz,its',n',r,e⟩
def rSetL:V->V->V->Hp->(Hp->Prop)->Prop:=fun o i v H Q=>∃p xs k j,o= .ref p/\i= .int k/\H p=some (.lst xs)/\ixN xs.length k=some j/\Q (upd H p (.lst (xs.set j v)))
theorem set_list:PSet X rSetL:=by
 intro pins s σ H o i v ov iv u Q I ro ri rv h
 obtain⟨p,xs,k,j,rfl,rfl,hp,hj,q⟩:=h
 cases ro
 obtain⟨t,rfl⟩:=ri
 obtain⟨its,n,r,ho,hz⟩:=I.lst hp
 obtain⟨h1,h2,h3,h4⟩:=ixN_seq hj
 have hl:=r.length
 have hn:=line63
 have I':Inv X pins σ (upd H p (.lst (xs.set j v))) {s with heap:=s.heap.update p (Obj.mapSeq (·.setIfInBounds j u))}:=
  I.lstUpd hp ho (mapSeq_set its n j u) (r.set rv j) (by rw[List.length_set];exact hz) s.toks
 by_cases h0:0<=k
 ·have hk:k.toNat=j:=by
   rw[seqIndex_of h0 h4]at h1
   exact Option.some.inj h1
  exact PySem.W.ki_setAt ho h0 (by omega) (by rw[List.size_toArray,<-hl];exact h4) (by rw[hk];exact⟨_,I',q⟩)
 ·have hk:(k+(its.toArray.size:Int)).toNat=j:=by
   rw[seqIndex_neg (by omega) h3]at h1
   rw[List.size_toArray,<-hl]
   exact Option.some.inj h1
  exact PySem.W.ki_setBack ho (by omega) (by rw[List.size_toArray,<-hl];exact h3) (by omega) (by rw[hk];exact⟨_,I',q⟩)
theorem slice_bounds(lo hi:Option Int)(n:Nat):(sliceBounds lo hi none n).1=((HT.sIx n 0 lo:Nat):Int)/\(sliceBounds lo hi none n).2.1=((HT.sIx n n hi:Nat):Int)/\(sliceBounds lo hi none n).2.2=1:=by
 refine⟨?_,?_,rfl⟩
 ·cases lo with
  |none=>simp[sliceBounds,HT.sIx]
  |some i=>
   simp only[sliceBounds,HT.sIx,Option.getD_none,show(1:Int)>0 by decide,if_true]
   by_cases h:i<0
   ·simp only[h,if_true]<;>omega
   ·simp only[h,if_false]<;>omega
 ·cases hi with
  |none=>simp[sliceBounds,HT.sIx]
  |some i=>
   simp only[sliceBounds,HT.sIx,Option.getD_none,show(1:Int)>0 by decide,if_true]
   by_cases h:i<0
   ·simp only[h,if_true]<;>omega
   ·simp only[h,if_false]<;>omega
theorem slicePick_cut(its:List Value)(lo hi:Option Int):slicePick its.toArray lo hi none=((its.drop (HT.sIx its.length 0 lo)).take (HT.sIx its.length its.length hi-HT.sIx its.length 0 lo)).toArray:=by
 obtain⟨h1,h2,h3⟩:=slice_bounds lo hi its.toArray.size
 unfold slicePick
 rw[h1,h2,h3]
 simp only[sliceRange_one,pick_run,List.size_toArray]<;>rfl
def rSlL(K:PySem.W.Frag):V->Option Int->Option Int->Hp->VK->Prop:=fun x lo hi H Q=>∃a xs,x= .ref a/\SqL K H a xs/\∀p,H p=none->Q (.ref p) (upd H p (.lst (cutV xs lo hi)))
theorem sl_list:SlR X (rSlL X.K):=by
 intro pins s σ H x v vl vu lo hi sl Q I rx hs pl pu h
 obtain⟨a,xs,rfl,hx,q⟩:=h
 cases rx
 obtain⟨its,r,ht,hz⟩:=I.list hx
 have hlen:=r.length
 refine⟨"list",_,slot_list_getitem.lookup,ht.isList.typeIs,?_⟩
 refine wpAny_getItem_list_slice ht.isList hs pl pu .none (by simp) ?_ (by rw[List.size_toArray]<;>omega)
 rw[slicePick_cut,<-hlen]
 refine⟨.ref s.heap.objs.size,_,I.laid (t':=s.toks) (o:= .lst (cutV xs lo hi)) (fun b ob q=>Heap.get?_push_of_some _ q) (Nat.le_refl _) ?_,rfl,q _ (I.hok.fresh (Nat.le_refl _))⟩
 exact⟨Nat.le_trans (cutV_length xs lo hi) hz,_,0,(r.drop (HT.sIx xs.length 0 lo)).take (HT.sIx xs.length xs.length hi-HT.sIx xs.length 0 lo),Heap.get?_push_size _ rfl⟩
def flatV:V->Bool
 | .non=>true
 | .bl _=>true
 | .int _=>true
 | .str _=>true
 |_=>false
def eqV:V->V->Bool
 | .non, .non=>true
 | .bl a, .bl b=>a==b
 | .bl a, .int b=>(if a then 1 else 0)==b
 | .int a, .bl b=>a==(if b then 1 else 0)
 | .int a, .int b=>a==b
 | .str a, .str b=>a==b
 |_,_=>false
theorem eqAt_V{A:Around}{s:Shared}{y x:V}{u v:Value}(ry:RelV y u)(rx:RelV x v)(fy:flatV y=true)(fx:flatV x=true):SeqAt.EqAt A s u v (eqV y x):=by
 cases y with
 |non=>
  cases ry
  cases x with
  |non=>cases rx;exact SeqAt.EqAt.same _
  |bl b=>cases rx;exact SeqAt.EqAt.none_bool b
  |int b=>obtain⟨t,rfl⟩:=rx;exact SeqAt.EqAt.none_int b t
  |str b=>obtain⟨t,rfl⟩:=rx;exact SeqAt.EqAt.none_str b t
  |_=>exact absurd (show false=true from fx) Bool.false_ne_true
 |bl a=>
  cases ry
  cases x with
  |non=>cases rx;exact SeqAt.EqAt.bool_none a
  |bl b=>cases rx;exact SeqAt.EqAt.bool_bool a b
  |int b=>obtain⟨t,rfl⟩:=rx;exact SeqAt.EqAt.bool_int a b t
  |str b=>obtain⟨t,rfl⟩:=rx;exact SeqAt.EqAt.bool_str a b t
  |_=>exact absurd (show false=true from fx) Bool.false_ne_true
 |int a=>
  obtain⟨t',rfl⟩:=ry
  cases x with
  |non=>cases rx;exact SeqAt.EqAt.int_none a t'
  |bl b=>cases rx;exact SeqAt.EqAt.int_bool a t' b
  |int b=>obtain⟨t,rfl⟩:=rx;exact SeqAt.EqAt.int_int a t' b t
  |str b=>obtain⟨t,rfl⟩:=rx;exact SeqAt.EqAt.int_str a t' b t
  |_=>exact absurd (show false=true from fx) Bool.false_ne_true
 |str a=>
  obtain⟨t',rfl⟩:=ry
  cases x with
  |non=>cases rx;exact SeqAt.EqAt.str_none a t'
  |bl b=>cases rx;exact SeqAt.EqAt.str_bool a t' b
  |int b=>obtain⟨t,rfl⟩:=rx;exact SeqAt.EqAt.str_int a t' b t
  |str b=>obtain⟨t,rfl⟩:=rx;exact SeqAt.EqAt.str_str a t' b t
  |_=>exact absurd (show false=true from fx) Bool.false_ne_true
 |_=>exact absurd (show false=true from fy) Bool.false_ne_true
def eqU(x:V)(u:Value):Bool:=match u with
 | .none=>eqV .non x
 | .bool b=>eqV (.bl b) x
 | .int i _=>eqV (.int i) x
 | .str z _=>eqV (.str z) x
 |_=>false
theorem eqU_of{x y:V}{u:Value}(r:RelV y u)(f:flatV y=true):eqU x u=eqV y x:=by
 cases y with
 |non=>cases r;rfl
 |bl b=>cases r;rfl
 |int i=>obtain⟨t,rfl⟩:=r;rfl
 |str z=>obtain⟨t,rfl⟩:=r;rfl
 |_=>exact absurd (show false=true from f) Bool.false_ne_true
theorem any_eqU{x:V}:∀ {xs:List V} {us:List Value},Vals xs us->xs.all flatV=true->us.any (eqU x)=xs.any fun y=>eqV y x
 |_,_, .nil,_=>rfl
 |y::xs,u::us, .cons r t,f=>by
  rw[List.all_cons,Bool.and_eq_true]at f
  rw[List.any_cons,List.any_cons,eqU_of r f.1,any_eqU t f.2]
theorem mem_eqAt{A:Around}{s:Shared}{x:V}{v:Value}(rx:RelV x v)(fx:flatV x=true):∀ {xs:List V} {us:List Value},Vals xs us->xs.all flatV=true->∀u∈us,SeqAt.EqAt A s u v (eqU x u)
 |_,_, .nil,_=>fun u hu=>by cases hu
 |y::xs,u::us, .cons r t,f=>fun u' hu=>by
  rw[List.all_cons,Bool.and_eq_true]at f
  rcases List.mem_cons.mp hu with rfl|hu
  ·rw[eqU_of r f.1];exact eqAt_V r rx f.1 fx
  ·exact mem_eqAt rx fx t f.2 u' hu
def inV(x:V)(xs:List V):Bool:=xs.any fun y=>eqV y x
def rIn(K:PySem.W.Frag)(neg:Bool):R2:=fun x y H Q=>∃p xs,y= .ref p/\(SqL K H p xs\/SqT K H p xs)/\flatV x=true/\xs.all flatV=true/\Q (.bl (if neg then !inV x xs else inV x xs)) H
theorem op_in_seq:OpR X (compareOp .In) (rIn X.K false):=by
 intro pins s σ H x y v u Q I rx ry h
 obtain⟨p,xs,rfl,hq,fx,fs,q⟩:=h
 cases ry
 rcases hq with hq|hq
 ·obtain⟨its,r,pl,hz⟩:=I.list hq
  refine SeqAt.in_listAt (eqU x) pl.isList (fun w hw=>mem_eqAt rx fx r fs w (by simpa using hw)) ⟨.bl _,H,I,rfl,?_⟩
  rw[show its.toArray.any (eqU x)=its.any (eqU x) by simp,any_eqU r fs]
  exact q
 ·obtain⟨its,r,pl,hz⟩:=I.tuple hq
  refine SeqAt.in_tupleAt (eqU x) pl (fun w hw=>mem_eqAt rx fx r fs w (by simpa using hw)) ⟨.bl _,H,I,rfl,?_⟩
  rw[show its.toArray.any (eqU x)=its.any (eqU x) by simp,any_eqU r fs]
  exact q
theorem op_notIn_seq:OpR X (compareOp .NotIn) (rIn X.K true):=by
 intro pins s σ H x y v u Q I rx ry h
 obtain⟨p,xs,rfl,hq,fx,fs,q⟩:=h
 cases ry
 rcases hq with hq|hq
 ·obtain⟨its,r,pl,hz⟩:=I.list hq
  refine SeqAt.notIn_listAt (eqU x) pl.isList (fun w hw=>mem_eqAt rx fx r fs w (by simpa using hw)) ⟨.bl _,H,I,rfl,?_⟩
  rw[show its.toArray.any (eqU x)=its.any (eqU x) by simp,any_eqU r fs]
  exact q
 ·obtain⟨its,r,pl,hz⟩:=I.tuple hq
  refine SeqAt.notIn_tupleAt (eqU x) pl (fun w hw=>mem_eqAt rx fx r fs w (by simpa using hw)) ⟨.bl _,H,I,rfl,?_⟩
  rw[show its.toArray.any (eqU x)=its.any (eqU x) by simp,any_eqU r fs]
  exact q
theorem call_len_seq:CallR X (.builtin "len") (fun xs H Q=>∃p ys,xs=[.ref p]/\(SqL X.K H p ys\/SqT X.K H p ys)/\Q (.int ys.length) H):=by
 intro pins s σ H xs us Q I r h
 obtain⟨p,ys,rfl,hq,q⟩:=h
 obtain⟨u,rfl,rx⟩:=vals1 r
 cases rx
 have hn:=line63
 rcases hq with hq|hq
 ·obtain⟨its,r',pl,hz⟩:=I.list hq
  have hlen:=r'.length
  exact Calls.call_len_list pl.isList (by simp only[List.size_toArray]<;>omega) ⟨.int ys.length,H,I.tok _,⟨s.toks+1,by rw[List.size_toArray,hlen]⟩,q⟩
 ·obtain⟨its,r',pl,hz⟩:=I.tuple hq
  have hlen:=r'.length
  exact len_tuple pl (by simp only[List.size_toArray]<;>omega) ⟨.int ys.length,H,I.tok _,⟨s.toks+1,by rw[List.size_toArray,hlen]⟩,q⟩
theorem call_len_str:CallR X (.builtin "len") (fun xs H Q=>∃z,xs=[.str z]/\z.length<=sizeLine/\Q (.int z.length) H):=by
 intro pins s σ H xs us Q I r h
 obtain⟨z,rfl,hz,q⟩:=h
 obtain⟨u,rfl,t,rfl⟩:=vals1 r
 have hn:=line63
 exact len_str (by omega) ⟨.int z.length,H,I.tok _,⟨_,rfl⟩,q⟩
theorem CallR.or{f:Value}{r r':List V->Hp->VK->Prop}(h:CallR X f r)(h':CallR X f r'):CallR X f (fun xs H Q=>r xs H Q\/r' xs H Q):=by
 intro pins s σ H xs us Q I rs q
 rcases q with q|q
 ·exact h pins s σ H xs us Q I rs q
 ·exact h' pins s σ H xs us Q I rs q
theorem call_tuple_of:CallR X (.type "tuple") (fun xs H Q=>∃p ys,xs=[.ref p]/\((SqL X.K H p ys/\∀l,H l=none->Q (.ref l) (upd H l (.tup ys)))\/(SqT X.K H p ys/\Q (.ref p) H))):=by
 intro pins s σ H xs us Q I r h
 obtain⟨p,ys,rfl,h⟩:=h
 obtain⟨u,rfl,rx⟩:=vals1 r
 cases rx
 rcases h with⟨hq,q⟩|⟨hq,q⟩
 ·obtain⟨its,r',pl,hz⟩:=I.list hq
  have hlen:=r'.length
  refine call_tuple_list pl.isList (fun h' kp=>?_) (by simp only[List.size_toArray]<;>omega)
  have I1:Inv X pins σ H {s with heap:=h'}:=I.kept (t':=s.toks) kp
  have I2:Inv X pins σ (upd H h'.objs.size (.tup ys)) {s with heap:=h'.push {cls:= .type "tuple",data:= .seq its.toArray}}:=
   I1.laid (t':=s.toks) (fun b o e=>Heap.get?_push_of_some _ e) (Nat.le_refl _) (show ObjOk X.prog X.w _ _ _ (.tup ys)from⟨hz,its,r',IsTup.new _ _⟩)
  exact⟨.ref h'.objs.size,_,I2,rfl,q _ (I1.hok.fresh (Nat.le_refl _))⟩
 ·obtain⟨its,r',pl,hz⟩:=I.tuple hq
  exact call_tuple_same pl ⟨.ref p,H,I,rfl,q⟩
def tyV(K:PySem.W.Frag)(T:String)(x:V)(H:Hp):Prop:=match x with
 | .str _=>T="str"
 | .int _=>T="int"
 | .ref p=>(T="list"/\∃xs,SqL K H p xs)\/(T="tuple"/\∃o,K.lookup p=some o/\o.cls= .type "tuple"/\o.dict=none)\/
     (T="dict"/\((∃kvs,H p=some (.dK kvs))\/∃kvs,H p=some (.dT kvs)))\/(T="set"/\∃S n,H p=some (.set S n))
 |_=>False
theorem tyV_is{pins:List (Addr×Obj)}{σ:St}{H:Hp}{s:Shared}{T:String}{x:V}{v:Value}(I:Inv X pins σ H s)(r:RelV x v)(ty:tyV X.K T x H):
 s.TypeIs v T/\∀a,v= .ref a->∃ob,s.heap.get? a=some ob/\ob.dict=none:=by
 cases x with
 |str z=>
  obtain⟨t,rfl⟩:=r
  cases(show T="str" from ty)
  exact⟨typeIs_str s z t,fun _ e=>nomatch e⟩
 |int i=>
  obtain⟨t,rfl⟩:=r
  cases(show T="int" from ty)
  exact⟨typeIs_int s i t,fun _ e=>nomatch e⟩
 |ref p=>
  cases r
  rcases ty with⟨rfl,xs,hq⟩|⟨rfl,o,hk,hc,hd⟩|⟨rfl,hk⟩|⟨rfl,S,n,hk⟩
  ·obtain⟨its,_,pl,_⟩:=I.list hq
   refine⟨pl.isList.typeIs,fun a e=>?_⟩
   cases e
   obtain⟨o,n,e,c,hd,_⟩:=pl
   exact⟨o,e,hd⟩
  ·refine⟨⟨o,I.kIn p o hk,hc⟩,fun a e=>?_⟩
   cases e
   exact⟨o,I.kIn _ o hk,hd⟩
  ·have z:∃o,s.heap.get? p=some o/\o.ExactDict:=by
    rcases hk with⟨kvs,hk⟩|⟨kvs,hk⟩
    ·obtain⟨_,_,_,_,o,_,_,e,ex,_⟩:=I.hok p _ hk
     exact⟨o,e,ex⟩
    ·obtain⟨_,_,_,_,o,_,_,e,ex,_⟩:=I.hok p _ hk
     exact⟨o,e,ex⟩
   obtain⟨o,e,ex⟩:=z
   refine⟨⟨o,e,ex.1⟩,fun a e2=>?_⟩
   cases e2
   exact⟨o,e,ex.2.1⟩
  ·obtain⟨o,_,_,_,e,ex,_⟩:=I.hok p _ hk
   refine⟨⟨o,e,ex.1⟩,fun a e2=>?_⟩
   cases e2
   exact⟨o,e,ex.2.1⟩
 |_=>exact False.elim ty
def tBM0(K:PySem.W.Frag)(T:String)(r:V->List V->Hp->VK->Prop)(to:TE):TE:=fun σ H Q=>to σ H fun x H1=>tyV K T x H1/\r x [] H1 Q
def tBM(K:PySem.W.Frag)(T:String)(r:V->List V->Hp->VK->Prop)(to:TE)(t:TA):TE:=fun σ H Q=>to σ H fun x H1=>tyV K T x H1/\t σ H1 fun xs H2=>r x xs H2 Q
variable{o e:Expr}{es:List Expr}{to:TE}{t:TA}{name:Str}{apos cpos:Pos}{T id:String}{r:V->List V->Hp->VK->Prop}
theorem pe_bm0(pa:PlainAttrs T)(slot:Slot T name id)(hty:typeOf (.builtin id)=pure (.type "method_descriptor"))(hm:MtR X id r)(ho:PE X o to)
 (hbase:attributeBase o name X.env (eval o X.env)=eval o X.env:=by rfl) (hline:(apos.endLine==cpos.line)=true:=by rfl):PE X (.Call (.Attribute o name apos) [] [] cpos) (tBM0 X.K T r to):=by
 intro pins s σ H Q I h
 refine wpAny_Call_method0_late hbase hline (thn (ho pins s σ H _ I h) fun v s1 ⟨x,H1,I1,r1,ty,q1⟩=>?_)
 obtain⟨h1,h2⟩:=tyV_is I1 r1 ty
 exact⟨T,id,pa,slot,hty,h1,h2,Calls.callWith_builtin rfl (PySem.evalArgs_none (hm pins s1 σ H1 x [] v [] Q I1 r1 .nil q1))⟩
theorem pe_bm(pa:PlainAttrs T)(slot:Slot T name id)(hty:typeOf (.builtin id)=pure (.type "method_descriptor"))(hm:MtR X id r)(ho:PE X o to)(ha:PA X (e::es) t)
 (hbase:attributeBase o name X.env (eval o X.env)=eval o X.env:=by rfl)
 (hfew:((backTo cpos (starEach (e::es) X.env)).all (fun x=> !x.1)&&(backToKw cpos (keywordEach [] X.env)).all (fun x=>x.1.isSome)
   &&decide ((e::es).length+([]:List Keyword).length+(if([]:List Keyword).isEmpty then 0 else 1)<30))=true:=by rfl)
 (hline:(apos.endLine==cpos.line)=true:=by rfl) (hs:starEach (e::es) X.env=(false,eval e X.env)::starEach es X.env:=by rfl) (hplain:(backTo cpos (starEach es X.env)).any (·.1)=false:=by rfl):
 PE X (.Call (.Attribute o name apos) (e::es) [] cpos) (tBM X.K T r to t):=by
 intro pins s σ H Q I h
 refine wpAny_Call_method_late hbase hfew hline rfl (thn (ho pins s σ H _ I h) fun v s1 ⟨x,H1,I1,r1,ty,q1⟩=>?_)
 obtain⟨h1,h2⟩:=tyV_is I1 r1 ty
 refine⟨T,id,pa,slot,hty,h1,h2,?_⟩
 have hA:=ha cpos pins s1 σ H1 _ I1 q1
 rw[hs]at hA⊢
 refine Calls.callWith_builtin (by show(false||(backTo cpos (starEach es X.env)).any (·.1))=false;rw[hplain]<;>rfl) (Calls.evalArgs_plain ?_)
 exact thn hA fun us s2 ⟨vs,H2,I2,r2,q2⟩=>hm pins s2 σ H2 x vs v us Q I2 r1 r2 q2
end
def MtM(X:Cx)(id:String)(r:V->List V->Hp->VK->Prop):Prop:=
 ∀ (pins:List (Addr×Obj)) (s:Shared) (σ:St) (H:Hp) (x:V) (xs:List V) (v:Value) (us:List Value) (Q:VK),Inv X pins σ H s->RelV x v->Vals xs us->r x xs H Q->
   wpAny (model X.prog X.w) X.A (call (.builtin id) (v::us)) (EP X pins σ Q) X.xe s
theorem Vals.one:∀ {x:V} {us:List Value},Vals [x] us->∃u,us=[u]/\RelV x u
 |_,_, .cons r .nil=>⟨_,rfl,r⟩
theorem Vals.zero:∀ {us:List Value},Vals [] us->us=[]
 |_, .nil=>rfl
theorem Vals.dropLast{xs:List V}{us:List Value}(h:Vals xs us):Vals xs.dropLast us.dropLast:=by
 induction h with
 |nil=>exact .nil
 |cons r t ih=>
  cases t with
  |nil=>exact .nil
  |cons q t'=>exact .cons r ih
theorem Vals.reverse{xs:List V}{us:List Value}(h:Vals xs us):Vals xs.reverse us.reverse:=by
 induction h with
 |nil=>exact .nil
 |cons r t ih=>rw[List.reverse_cons,List.reverse_cons];exact Vals.append ih (.cons r .nil)
theorem Vals.rep{xs:List V}{us:List Value}(h:Vals xs us):∀k:Nat,Vals (List.replicate k xs).flatten (List.replicate k us).flatten
 |0=> .nil
 |k+1=>by
  rw[List.replicate_succ,List.replicate_succ,List.flatten_cons,List.flatten_cons]
  exact Vals.append h (Vals.rep h k)
theorem erase_last{α:Type}(l:List α):l.eraseIdx (l.length-1)=l.dropLast:=by
 induction l with
 |nil=>rfl
 |cons a r ih=>
  cases r with
  |nil=>rfl
  |cons b r=>
   have e:(a::b::r).length-1=((b::r).length-1)+1:=by
    have h1:(a::b::r).length=r.length+2:=rfl
    have h2:(b::r).length=r.length+1:=rfl
    omega
   rw[e,List.eraseIdx_cons_succ,ih]
   all_goals rfl
theorem foldl_rep(its:List Value):∀ (k:Nat) (acc:List Value),
 List.foldl (fun x1 x2=>x1++x2) acc.toArray (List.replicate k its.toArray)=(acc++(List.replicate k its).flatten).toArray
 |0,acc=>by simp
 |k+1,acc=>by
  have e:acc.toArray++its.toArray=(acc++its).toArray:=by simp
  have e2:(acc++its)++(List.replicate k its).flatten=acc++(List.replicate (k+1) its).flatten:=by
   rw[List.replicate_succ,List.flatten_cons,List.append_assoc]
  rw[<-e2,<-foldl_rep its k (acc++its),<-e,List.replicate_succ,List.foldl_cons]
section
variable{X:Cx}{pins:List (Addr×Obj)}{σ:St}{H:Hp}{s:Shared}{l b:Addr}{xs ys zs:List V}
theorem Inv.lset{its its':List Value}{n:Nat}{f:Array Value->Array Value}{t':Nat}(I:Inv X pins σ H s)(hH:H l=some (.lst xs))
 (e:s.heap.get? l=some {cls:= .type "list",data:= .seq its.toArray n}) (hf:f its.toArray=its'.toArray) (hv:Vals ys its') (hz:ys.length<=sizeLine):
 Inv X pins σ (upd H l (.lst ys)) {s with heap:=s.heap.update l (Obj.mapSeq f),toks:=t'}:=by
 have q:=PySem.IsL.update e f
 rw[hf]at q
 refine I.write (x:=l) (e:=l) (by rw[hH];exact trivial) (.inl rfl) (fun b' u hb hu=>(Heap.get?_update_other s.heap (Obj.mapSeq f) (Ne.symm hb)).trans hu) ⟨_,q⟩ ?_
 exact⟨hz,its',_,hv,q⟩
theorem Inv.lnew{its:List Value}{t':Nat}(I:Inv X pins σ H s)(hv:Vals ys its)(hz:ys.length<=sizeLine):
 Inv X pins σ (upd H s.heap.objs.size (.lst ys)) {s with heap:=s.heap.push {cls:= .type "list",data:= .seq its.toArray},toks:=t'}:=
 I.laid (fun _ _ q=>Heap.get?_push_of_some _ q) (Nat.le_refl _) ⟨hz,its,0,hv,Heap.get?_push_size _ rfl⟩
theorem Inv.fresh(I:Inv X pins σ H s):H s.heap.objs.size=none:=I.hok.fresh (Nat.le_refl _)
theorem Inv.lstM(I:Inv X pins σ H s)(hH:H l=some (.lst xs)):xs.length<=sizeLine/\∃ (its:List Value) (n:Nat),Vals xs its/\xs.length=its.length/\s.heap.get? l=some {cls:= .type "list",data:= .seq its.toArray n}:=by
 obtain⟨z,its,n,r,e⟩:=I.hok l _ hH
 exact⟨z,its,n,r,r.length,e⟩
theorem notLongL{n:Nat}(h:n<=sizeLine):Builtin.List.listTooLong n=false:=by
 unfold Builtin.List.listTooLong
 exact decide_eq_false (by omega)
end
section
variable{X:Cx}
def rAppend:V->List V->Hp->VK->Prop:=fun x vs H Q=>∃l xs y,x= .ref l/\vs=[y]/\H l=some (.lst xs)/\xs.length<sizeLine/\Q .non (upd H l (.lst (xs++[y])))
theorem mt_append:MtM X "list.append" rAppend:=by
 intro pins s σ H x vs v us Q I rx rv h
 obtain⟨l,xs,y,rfl,rfl,hH,hz,q⟩:=h
 cases rx
 obtain⟨u,rfl,ru⟩:=rv.one
 obtain⟨z,its,n,r,hl,e⟩:=I.lstM hH
 refine call_meets F.slot_list_append ⟨_,e,rfl⟩ F.entry_list_append (F.args_list_append_2 _ _) (PySem.list_append l its.toArray n u (by rw[List.size_toArray];omega)) ⟨e,?_⟩
 refine⟨.non,_,I.lset (its':=its++[u]) hH e (by simp) (r.append (.cons ru .nil)) ?_,rfl,q⟩
 rw[List.length_append,List.length_singleton]
 omega
def rPop:V->List V->Hp->VK->Prop:=fun x vs H Q=>∃l xs y,x= .ref l/\vs=[]/\H l=some (.lst xs)/\xs[xs.length-1]? =some y/\Q y (upd H l (.lst xs.dropLast))
theorem mt_pop:MtM X "list.pop" rPop:=by
 intro pins s σ H x vs v us Q I rx rv h
 obtain⟨l,xs,y,rfl,rfl,hH,hy,q⟩:=h
 cases rx
 have hus:=rv.zero
 subst hus
 obtain⟨z,its,n,r,hl,e⟩:=I.lstM hH
 obtain⟨u,hu,ru⟩:=r.get hy
 have hy':its.toArray[its.toArray.size-1]? =some u:=by
  show its.toArray[its.length-1]? =some u
  rw[<-Array.getElem?_toList,<-hl]
  exact hu
 refine call_meets F.slot_list_pop ⟨_,e,rfl⟩ F.entry_list_pop (F.args_list_pop_1 _) (MeetsSeq.list_pop_last l its.toArray n u hy' (by rw[List.size_toArray];omega)) ⟨e,?_⟩
 refine⟨y,_,I.lset (its':=its.dropLast) hH e ?_ r.dropLast ?_,ru,q⟩
 ·show its.toArray.eraseIdxIfInBounds (its.toArray.size-1)=its.dropLast.toArray
  rw[List.size_toArray,List.eraseIdxIfInBounds_toArray,erase_last]
 ·rw[List.length_dropLast]
  omega
def rCat:R2:=fun x y H Q=>∃l b xs zs,x= .ref l/\y= .ref b/\H l=some (.lst xs)/\H b=some (.lst zs)/\xs.length+zs.length<=sizeLine/\∀p,H p=none->Q (.ref p) (upd H p (.lst (xs++zs)))
theorem op_cat:OpR X (binaryOp .Add) rCat:=by
 intro pins s σ H x y v u Q I rx ry h
 obtain⟨l,b,xs,zs,rfl,rfl,hH,hB,hz,q⟩:=h
 cases rx
 cases ry
 obtain⟨z,its,n,r,hl,e⟩:=I.lstM hH
 obtain⟨z2,its2,n2,r2,hl2,e2⟩:=I.lstM hB
 refine PySem.P.add_list e e2 ?_ (by rw[List.size_toArray,List.size_toArray];omega)
 have ea:its.toArray++its2.toArray=(its++its2).toArray:=by simp
 rw[ea]
 exact⟨.ref _,_,I.lnew (t':=s.toks) (r.append r2) (by rw[List.length_append];omega),rfl,q _ I.fresh⟩
def rRep:R2:=fun x y H Q=>∃l k xs,x= .ref l/\y= .int k/\H l=some (.lst xs)/\ -(2^63)<=k/\k<2^63/\xs.length*k.toNat<=sizeLine/\
 ∀p,H p=none->Q (.ref p) (upd H p (.lst (List.replicate k.toNat xs).flatten))
theorem len_rep{α:Type}(xs:List α)(k:Nat):(List.replicate k xs).flatten.length=k*xs.length:=by
 induction k with
 |zero=>simp
 |succ k ih=>rw[List.replicate_succ,List.flatten_cons,List.length_append,ih,Nat.succ_mul,Nat.add_comm]
theorem op_rep:OpR X (binaryOp .Mult) rRep:=by
 intro pins s σ H x y v u Q I rx ry h
 obtain⟨l,k,xs,rfl,rfl,hH,h1,h2,hz,q⟩:=h
 cases rx
 obtain⟨t,rfl⟩:=ry
 obtain⟨z,its,n,r,hl,e⟩:=I.lstM hH
 have hlen:its.toArray.size*k.toNat<=sizeLine:=by rw[List.size_toArray,<-hl];exact hz
 have hcap:¬its.toArray.size*k.toNat>(2^63-1)/8:=by
  have:(sizeLine:Nat)<=(2^63-1)/8:=by decide
  omega
 have hfit:¬ (!Builtin.List.listFitsIndex k)=true:=by
  rw[fitsIndex_both h1 h2]
  exact Bool.false_ne_true
 have hlong:¬Builtin.List.listTooLong (its.toArray.size*k.toNat)=true:=by
  rw[notLongL hlen]
  exact Bool.false_ne_true
 have hnew:List.foldl (fun x1 x2=>x1++x2) #[] (List.replicate (if its.toArray.isEmpty=true then 0 else k.toNat) its.toArray)=(List.replicate k.toNat its).flatten.toArray:=by
  have f0:∀m:Nat,List.foldl (fun x1 x2=>x1++x2) #[] (List.replicate m its.toArray)=(List.replicate m its).flatten.toArray:=fun m=>by
   have:=foldl_rep its m []
   rw[List.nil_append]at this
   exact this
  rw[f0]
  cases its with
  |nil=>simp
  |cons a r'=>rw[if_neg (by simp)]
 refine wpAny_binaryOp_repeat_ref (T:="list") (U:="int") (by decide) ⟨_,e,rfl⟩ (fun s'=>typeIs_int s' k t) noFill_list_mul F.fills_int_mul F.slot_int_rmul repeat_list F.slot_int_index.lookup
  (call_meets F.slot_int_rmul (typeIs_int s k t) F.entry_int_rmul (F.args_int_rmul_2 _ _) (int___rmul___int_list k t l its.toArray n)
    ⟨e,rfl,⟨_,e,rfl⟩,call_meets F.slot_list_mul ⟨_,e,rfl⟩ F.entry_list_mul (F.args_list_mul_2 _ _) (AutoListH.list___mul___list_int_3 l its.toArray n k t hfit hcap hlong) ⟨e,?_⟩⟩)
 rw[hnew]
 exact⟨.ref _,_,I.lnew (t':=s.toks) (r.rep k.toNat) (by rw[len_rep,Nat.mul_comm];exact hz),rfl,q _ I.fresh⟩
end
section
variable{prog:Program}{w:World}{A:Around}{E:Value->Shared->Prop}{s:Shared}
end
section
variable{X:Cx}
end
end L2
namespace Att
open PySem PySem.W PySem.Calls PyProof.Rows
theorem ints_of_wellAll{P:Params}{h:Heap}:∀ (ns:List Int) (vs:List Value),WellAll P h vs (ns.map WData.int)->IntsAre vs ns:=by
 intro ns
 induction ns with
 |nil=>
  intro vs w
  rw[List.map_nil]at w
  cases w
  exact .nil
 |cons n ns ih=>
  intro vs w
  rw[List.map_cons]at w
  cases w with
  |cons a b=>
   cases a
   exact .cons _ _ (ih _ b)
theorem script_of{l:OpenLaw}{n:Nat}(hn:l.most=some n){P:Params}{h:Heap}{args:List WData}{vals:List Value}
 (hpre:l.row.toRowW.claim.pre args=true) (hwl:WellAll P h vals args):
 ∃a vs ns,vals=[Value.ref a]/\args=[WData.list (ns.map WData.int)]/\h.get? a=some {cls:= .type "list",data:= .seq vs.toArray}/\IntsAre vs ns/\ns.length<=n:=by
 have hsh:WShape.hasAll [] args [.list .int]=true:=(pre_splitW hpre).1
 have hc:l.pre.holds [] {args:=args}=true:=(pre_splitW hpre).2
 obtain⟨d,r,rfl,h1,h2⟩:=hasAllW_cons hsh
 obtain rfl:=hasAllW_nil h2
 obtain⟨xs,rfl,h3⟩:=hasW_list h1
 obtain⟨ns,rfl⟩:=items_int h3
 have hlen:ns.length<=n:=by
  unfold OpenLaw.pre at hc
  have h4:(WTm.not (.lt (.lit (.int (n:Int))) (.len (.arg 0)))).holds [] {args:=[.list (ns.map .int)]}=true:=by
   have h4:=(holds_andW hc).1
   rw[hn]at h4
   exact h4
  have h5:=condW_of h4 (w_not (w_lt w_lit (w_len_list (w_arg rfl))))
  rw[List.length_map]at h5
  refine Nat.le_of_not_lt fun q=>?_
  have q':(n:Int)<((ns.length:Nat):Int):=by omega
  first
   |(rw[decide_eq_true q']at h5;exact absurd h5 (by decide))
   |(simp at h5;omega)
 cases hwl with
 |cons w1 w2=>
  cases w2
  cases w1 with
  |list ho hall=>exact⟨_,_,ns,rfl,rfl,ho,ints_of_wellAll ns _ hall,hlen⟩
theorem post_true(l:OpenLaw)(args:List WData):l.row.toRowW.claim.post args (.bool true) args=true:=
 postW_of (r:=l.row.toRowW) (X:=(true==true))
  (show WShape.has [] (.bool true) .bool=true by first|rfl|decide|simp[WShape.has,WShape.arms,WShape.armsAll])
  (show(WTm.eq .res (.lit (.bool true))).value [] {args:=args,res:=some (.bool true),after:=args}=some (.bool (true==true))from w_eq_bool (w_res rfl) w_lit) rfl
theorem attach_call{l:OpenLaw}{n:Nat}{q:Program}{loose:List Str}{XP:(Str->Option Value)->Heap->Prop}{YP:World->Heap->Prop}{d:DefRec}
 (hn:l.most=some n) (hdf:d.params.defaults=[])
 (call:∀ (w:World) (s₀ s₁:Shared) (mg mb:Str->Option Value) (fa:Addr) (o:Obj) (pm cd doc:Value) (a:Addr) (vs:List Value) (ns:List Int),
   Ground q loose [] XP w s₀ mg mb s₁.heap->YP w s₁.heap->
   s₁.heap.get? fa=some o->o.data= .func (docDef d.name d.params d.body d.scope pm cd doc)->s₁.heap.CodeRec cd d.name->mg d.name=some (.ref fa)->
   s₁.heap.get? a=some {cls:= .type "list",data:= .seq vs.toArray}->IntsAre vs ns->ns.length<=n->s₁.gens= #[]->
   codeAny (model l.prog w) callerA (.call (.ref fa) ⟨[.ref a],[]⟩) (fun r s'=>r= .ok (.ret (.bool true))/\OldK s₁.heap s'.heap/\s'.os=s₁.os/\AllBare s'.gens) s₁):
 WalkO q loose XP YP l.row.toRowW d [] (fun f vs=>PySem.call f vs):=by
 intro w s₀ s₁ mg mb G Y fa o pm cd doc dV kV ho hd hcd hD hmg hg args vals as hpre hlay hrd hwl hlo
 obtain rfl:dV= .none:=Dflts.none hD hdf
 obtain rfl:kV= .none:=Dflts.noKw hD
 obtain⟨a,vs,ns,rfl,rfl,hobj,hints,hlen⟩:=script_of hn hpre hwl
 refine enter_call (codeAny_mono (call w s₀ s₁ mg mb fa o pm cd doc a vs ns G Y ho (fd_plain hd) hcd hmg hobj hints hlen hg) fun r s' hq=>?_)
 obtain⟨rfl,h2,h3,h4⟩:=hq
 exact⟨.inl ⟨.bool true, .bool true,[],rfl,fun _=>rfl, .bool true,post_true l _,fun _=>⟨List.Pairwise.nil,fun _ hm=>(nomatch hm)⟩⟩,h2,h3,h4⟩
section
variable{prog:Program}{w:World}{A:Around}{E:Value->Shared->Prop}{s:Shared}{K:Frag}
end
end Att
namespace L2
open PySem PySem.Spec PyProof.Rows
theorem vals_ints:∀ {vs:List Value} {ns:List Int},IntsAre vs ns->Vals (ns.map V.int) vs
 |_,_, .nil=> .nil
 |_,_, .cons n t h=> .cons ⟨t,rfl⟩ (vals_ints h)
def Only(H:Hp):Prop:=∀b,H b=none\/∃o xs,H b=some (.frz o (.lst xs))
theorem law_call{P:Program}{w:World}{K:PySem.W.Frag}{mg mb:Str->Option Value}{CX:CXT}{k:Nat}{fa a:Addr}{fd:FuncData}{x:Str}{sp:Sp}{s₁:Shared}{vs:List Value}{ns:List Int}
 (KX:K.In s₁.heap) (hns:s₁.heap.Ns mainGlobals mg) (hb:s₁.heap.Ns builtinsNs mb) (hbb:∀x:Str,x≠"__name__"->mb x=bootBuiltins x) (hlim:s₁.heap.NoLimit) (hg:s₁.gens= #[])
 (ha:s₁.heap.get? a=some {cls:= .type "list",data:= .seq vs.toArray}) (hi:IntsAre vs ns) (hl:ns.length<=sizeLine) (hr:Room k callerA)
 (F:∀base:Heap,K.In base->base.Ns mainGlobals mg->FnOk P w K mg base CX k fa fd [x] sp) (hbind:∀ (s:Shared) (u:Value),BindsTo s fd ⟨[u],[]⟩ [(x,u)])
 (hsp:∀H:Hp,Only H->SqL K H a (ns.map V.int)->sp [.ref a] H (fun v _=>v= .bl true) fun _ _ _=>False)
 (hCX:∀H e s',CX [] H s₁ (fun _ _ _=>False) e s'->False):
 codeAny (model P w) callerA (.call (.ref fa) ⟨[.ref a],[]⟩) (fun r s'=>r= .ok (.ret (.bool true))/\OldK s₁.heap s'.heap/\s'.os=s₁.os/\AllBare s'.gens) s₁:=by
 have rv:=vals_ints hi
 have lenV:=hi.length
 have core:∀H:Hp,Only H->SqL K H a (ns.map V.int)->HOk P w H s₁.heap->(∀b,H b≠none->b=a)->(H a≠none->K.lookup a=none)->
  codeAny (model P w) callerA (.call (.ref fa) ⟨[.ref a],[]⟩) (fun r s'=>r= .ok (.ret (.bool true))/\OldK s₁.heap s'.heap/\s'.os=s₁.os/\AllBare s'.gens) s₁:=by
  intro H hO hS hok hA hK
  have base_of:∀ {b:Addr} {o:Obj},s₁.heap.get? b=some o->H b=none->(hidT s₁.heap H).get? b=some o:=fun e n=>hidT_get e n
  have noA:∀ {b:Addr} {o:Obj} {es:Array DictEntry} {ep:Nat},s₁.heap.get? b=some o->o.data= .dict es ep->H b=none:=fun{b o es ep} e d=>by
   cases q:H b with
   |none=>rfl
   |some u=>
    have e':b=a:=hA b (by rw[q];simp)
    subst e'
    rw[ha]at e;cases e
    have d':Data.seq vs.toArray _=Data.dict es ep:=d
    cases d'
  have nsK:∀ {b:Addr} {m:Str->Option Value},s₁.heap.Ns b m->(hidT s₁.heap H).Ns b m:=fun{b m} ⟨o,es,ep,e,d,r⟩=>⟨o,es,ep,base_of e (noA e d),d,r⟩
  have hKb:K.In (hidT s₁.heap H):=fun b o e=>base_of (KX b o e) (by
   cases q:H b with
   |none=>rfl
   |some u=>
    have e':b=a:=hA b (by rw[q];simp)
    subst e'
    rw[hK (by rw[q];simp)]at e;cases e)
  have hM:Mod K mg (hidT s₁.heap H):=⟨hKb,nsK hns,⟨mb,nsK hb,hbb⟩,let⟨mc,h1,h2⟩:=hlim;⟨mc,nsK h1,h2⟩⟩
  have e0:Env0 P w K mg (hidT s₁.heap H) callerA [] s₁ H:=⟨rfl,hM,fun b o e=>of_hidT e,Nat.le_of_eq (hidT_size _ _),trivial,fun b hb=>absurd (show b∈([]:List Addr)from hb) (by simp),hok, .of_eq hg⟩
  refine codeAny_mono ((F _ hKb (nsK hns)).run callerA [] s₁ H ⟨[.ref a],[]⟩ [.ref a] [.ref a] _ _ hr e0 (hbind s₁ (.ref a)) (.cons rfl .nil) (hsp H hO hS)) fun r s' h=>?_
  cases r with
  |error e=>exact(hCX H e s' h).elim
  |ok fl=>
   cases fl with
   |next=>exact False.elim h
   |brk=>exact False.elim h
   |cont=>exact False.elim h
   |ret u=>
    obtain⟨v,H',os,bare,un,hok',r',q⟩:=h
    have q':v= .bl true:=q
    subst q'
    obtain rfl:u=Value.bool true:=r'
    refine⟨rfl,OldK.of_keep fun b o e=>?_,os,bare⟩
    cases q:H b with
    |none=>exact un.keep b o e q (by intro z;exact absurd (show b∈([]:List Addr)from z) (by simp)) (by simp)
    |some u=>
     rcases hO b with z|⟨ob,xs,z⟩
     ·rw[q]at z;cases z
     ·have z2:=un.frzs b ob _ z
      obtain⟨e1,_⟩:=hok b _ z
      obtain⟨e2,_⟩:=hok' b _ z2
      rw[e]at e1;cases e1
      exact e2
 cases hk:K.lookup a with
 |some o=>
  have e:=KX a o hk
  rw[ha]at e
  cases e
  refine core (fun _=>none) (fun _=> .inl rfl) (.inr ⟨_,vs.toArray,_,hk,rfl,rfl,rfl,by rw[List.size_toArray,lenV];exact hl,by simpa using rv⟩) ⟨(fun b u z=>by have z':(none:Option HO)=some u:=z;cases z'),(fun u z=>nomatch (show(none:Option HO)=some u from z)),let⟨o,_,_,e,_⟩:=hns;⟨mainGlobals,o,by decide,e⟩⟩ (fun b z=>absurd rfl z) fun z=>absurd rfl z
 |none=>
  refine core (fun b=>if b=a then some (.frz {cls:= .type "list",data:= .seq vs.toArray} (.lst (ns.map V.int)))else none) (fun b=>?_) (.inl (.inr ⟨{cls:= .type "list",data:= .seq vs.toArray},if_pos rfl⟩)) ⟨fun b u z=>?_,(fun u z=>by
   by_cases hb:sysModules=a
   ·have z':=(if_pos hb).symm.trans z
    cases z';exact⟨_,_,rfl⟩
   ·have z':=(if_neg hb).symm.trans z
    cases z'),let⟨o,_,_,e,_⟩:=hns;⟨mainGlobals,o,by decide,e⟩⟩ (fun b z=>?_) fun _=>hk
  ·by_cases hb:b=a
   ·exact .inr ⟨_,_,if_pos hb⟩
   ·exact .inl (if_neg hb)
  ·by_cases hb:b=a
   ·have z':=(if_pos hb).symm.trans z
    cases z'
    subst hb
    exact⟨ha,by rw[List.length_map];exact hl,vs,_,rv,ha⟩
   ·have z':=(if_neg hb).symm.trans z
    cases z'
  ·by_cases hb:b=a
   ·exact hb
   ·exact absurd (if_neg hb) z
theorem walk_of{l:PySem.W.OpenLaw}{n k:Nat}{q:Program}{loose:List Str}{XP:(Str->Option Value)->Heap->Prop}{YP:World->Heap->Prop}{d:DefRec}{K:Params->PySem.W.Frag}{CX:World->CXT}{sp:World->Sp}{x:Str}
 (hn:l.most=some n) (hn2:n<=sizeLine) (hdf:d.params.defaults=[]) (hr:Room k callerA)
 (hY:∀ (w:World) (h:Heap),YP w h->(K w.params).In h)
 (F:∀ (w:World) (mg:Str->Option Value) (fa:Addr) (h:Heap),(K w.params).In h->h.Ns mainGlobals mg->mg d.name=some (.ref fa)->
   ∃fd:FuncData,(∀ (s:Shared) (u:Value),BindsTo s fd ⟨[u],[]⟩ [(x,u)])/\
    ∀base:Heap,(K w.params).In base->base.Ns mainGlobals mg->FnOk l.prog w (K w.params) mg base (CX w) k fa fd [x] (sp w))
 (hsp:∀ (w:World) (H:Hp) (a:Addr) (ns:List Int),ns.length<=n->Only H->SqL (K w.params) H a (ns.map V.int)->sp w [.ref a] H (fun v _=>v= .bl true) fun _ _ _=>False)
 (hCX:∀ (w:World) (H:Hp) (s:Shared) (e:Value) (s':Shared),CX w [] H s (fun _ _ _=>False) e s'->False):
 PySem.W.WalkO q loose XP YP l.row.toRowW d [] (fun f vs=>PySem.call f vs):=by
 refine Att.attach_call hn hdf fun w s₀ s₁ mg mb fa o pm cd doc a vs ns G Y ho hd hcd hmg hobj hints hlen hg=>?_
 have KX:=hY w _ Y
 obtain⟨fd,hb,hF⟩:=F w mg fa _ KX G.T.g hmg
 exact law_call KX G.T.g G.T.b G.T.builtins G.T.nolimit hg hobj hints (Nat.le_trans hlen hn2) hr hF hb (fun H hO hS=>hsp w H a ns hlen hO hS) fun H e s'=>hCX w H s₁ e s'
def defArgs(s:Stmt):Arguments:=match s with
 | .FunctionDef _ a _ _ _ _ _ _ _ _=>a
 |_=>{posonlyargs:=[],args:=[],vararg:=none,kwonlyargs:=[],kw_defaults:=[],kwarg:=none,defaults:=[]}
def defBody(s:Stmt):List Stmt:=match s with
 | .FunctionDef _ _ b _ _ _ _ _ _ _=>b
 |_=>[]
def defScope(s:Stmt):Scope:=match s with
 | .FunctionDef _ _ _ _ _ _ sc _ _ _=>sc
 |_=>{kind:= .function,names:=[],isGenerator:=false,isCoroutine:=false}
abbrev CX0:CXT:=fun _ _ _ _ _ _=>False
abbrev E0:XK:=fun _ _ _=>False
theorem pass0{X:Cx}:Passes CX0 X E0:=fun _ _ _ _ _ _ _ h=>h.elim
structure Fun (K:PySem.W.Frag) (x qual:Str) (st:Stmt) (f:Addr) (fd:FuncData):Prop where
 ex:∃ (oc:Value) (od:Option Addr) (kV doc pm:Value) (an:Option Addr) (cdv ct:Value) (osl:Array (Option Value)),
  fd=PySem.W.fnOf x qual (defArgs st) (defBody st) (defScope st) .none kV doc pm an cdv ct/\K.lookup f=some ⟨oc,od, .func fd,osl⟩/\PySem.W.codeIn K cdv qual=true
 kp:PySem.W.keepIn K (.ref f)=true
section
variable{P:Program}{w:World}{K:PySem.W.Frag}{mg:Str->Option Value}{base:Heap}
theorem Fun.ok{x qual:Str}{st:Stmt}{f:Addr}{fd:FuncData}{N ps:List Str}{k:Nat}{sp:Sp}(F:Fun K x qual st f fd)(S:FnScope N ps (defScope st))(len:∀vs H Q E,sp vs H Q E->vs.length=ps.length)
 (hbody:∀ (cdv:Value) (A:Around) (outer:List Env) (s:Shared) (H:Hp) (vs:List V) (Q:VK) (E:XK),Room k (A.deeper (envOfC qual (defScope st) s.heap.objs.size f cdv))->sp vs H Q E->
   ∃t,PSs (cxOf CX0 P w K mg base N qual (defScope st) f cdv A outer s H E).nox (defBody st) t/\t {nx:=fun _ H'=>Q .non H',rt:=Q} (start N vs) H):FnOk P w K mg base CX0 (k+1) f fd ps sp:=by
 obtain⟨oc,od,kV,doc,pm,an,cdv,ct,osl,rfl,lk,hcd⟩:=F.ex
 refine fn_of lk hcd S len fun A outer s H vs Q E hr hsp=>?_
 obtain⟨t,h,q⟩:=hbody cdv A outer s H vs Q E hr hsp
 exact⟨t,h.nox,q⟩
theorem Fun.binds{x qual:Str}{st:Stmt}{f:Addr}{fd:FuncData}{ps:List Str}(F:Fun K x qual st f fd)
 (h:∀ (kV doc pm:Value) (an:Option Addr) (cdv ct:Value) (us:List Value),us.length=ps.length->bindArgs (PySem.W.fnOf x qual (defArgs st) (defBody st) (defScope st) .none kV doc pm an cdv ct) ⟨us,[]⟩=pure (ps.zip us)):Binds K fd ps []:=by
 obtain⟨oc,od,kV,doc,pm,an,cdv,ct,osl,rfl,lk,hcd⟩:=F.ex
 exact .all (h kV doc pm an cdv ct)
theorem fun_mk{x qual:Str}{st:Stmt}{f:Addr}{oc:Value}{od an:Option Addr}{osl:Array (Option Value)}{kV doc pm cdv ct:Value}(l:K.lookup f=some ⟨oc,od, .func (PySem.W.fnOf x qual (defArgs st) (defBody st) (defScope st) .none kV doc pm an cdv ct),osl⟩)
 (c:PySem.W.codeIn K cdv qual=true) (k:PySem.W.keepIn K (.ref f)=true):Fun K x qual st f (PySem.W.fnOf x qual (defArgs st) (defBody st) (defScope st) .none kV doc pm an cdv ct):=⟨⟨oc,od,kV,doc,pm,an,cdv,ct,osl,rfl,l,c⟩,k⟩
end
theorem small1000{n:Nat}(h:n<=1000):n<sizeLine:=Nat.lt_of_le_of_lt h (by decide)
section
variable{X:Cx}
theorem pv(i:Nat){x:Str}{pos:Pos}(hN:X.N[i]? =some x:=by rfl)(hv:Vis X.env.scope x:=by first|exact Or.inl rfl|exact Or.inr (Or.inl rfl)|exact Or.inr (Or.inr rfl))(hd:(x==("__debug__":Str))=false:=by decide)
 (hcd:(x==("__classdict__":Str))=false:=by decide):PE X (.Name x pos) (tVar i):=pe_var hN hv hd hcd
end
theorem iteF{A B:Prop}(h:B):if false=true then A else B:=by
 rw[if_neg Bool.false_ne_true]
 exact h
theorem iteT{A B:Prop}(h:A):if true=true then A else B:=by
 rw[if_pos rfl]
 exact h
theorem ite2{c A B:Prop}[Decidable c](h1:c->A)(h2:¬c->B):if c then A else B:=by
 by_cases h:c
 ·rw[if_pos h]
  exact h1 h
 ·rw[if_neg h]
  exact h2 h
def Same(H H':Hp):Prop:=∀b o,H b=some o->H' b=some o
theorem Same.refl(H:Hp):Same H H:=fun _ _ h=>h
theorem Same.trans{H H1 H2:Hp}(a:Same H H1)(b:Same H1 H2):Same H H2:=fun c o h=>b c o (a c o h)
theorem Same.free{H H':Hp}(e:Same H H'){l:Addr}(h:H' l=Option.none):H l=Option.none:=by
 cases q:H l with
 |none=>rfl
 |some o=>
  rw[e l o q]at h
  cases h
theorem Same.seq{K:PySem.W.Frag}{H H':Hp}{a:Addr}{xs:List V}(e:Same H H')(h:SqL K H a xs):SqL K H' a xs:=by
 rcases h with(h|⟨o,h⟩)|h
 ·exact .inl (.inl (e _ _ h))
 ·exact .inl (.inr ⟨o,e _ _ h⟩)
 ·exact .inr h
end L2
set_option maxHeartbeats 8000000
namespace L2
open PySem PySem.Spec PyProof.Rows
theorem clos_go{env:Env}:∀ (ns:List (Str×NameKind)) (acc:List (Str×Addr)),(∀y∈ns,y.2= .free->∃c,env.cells.lookup y.1=some c)->(∀x c,acc.lookup x=some c->env.cells.lookup x=some c)->
 ∃cl,(forIn ns acc fun(y:Str×NameKind) cs=>(if(y.2== .free)=true then(do let c<-cellOf env y.1;pure (ForInStep.yield ((y.1,c)::cs)))else pure (ForInStep.yield cs):Sem (ForInStep (List (Str×Addr)))))=pure cl/\
  (∀x c,cl.lookup x=some c->env.cells.lookup x=some c)/\(∀y∈ns,y.2= .free->∃c,cl.lookup y.1=some c)/\∀x c,acc.lookup x=some c->∃c',cl.lookup x=some c'
 |[],acc,_,ha=>⟨acc,rfl,ha,(fun _ h=>nomatch h),fun x c e=>⟨c,e⟩⟩
 |(n,k)::r,acc,hf,ha=>by
  rw[List.forIn_cons]
  by_cases hk:k= .free
  ·subst hk
   obtain⟨c,hc⟩:=hf (n, .free) List.mem_cons_self rfl
   have hcell:cellOf env n=pure c:=by unfold cellOf;rw[hc]
   have ha':∀x c',List.lookup x ((n,c)::acc)=some c'->env.cells.lookup x=some c':=fun x c' e=>by
    rw[List.lookup_cons]at e
    cases hx:x==n with
    |true=>rw[hx]at e;simp at e;subst e;rw[eq_of_beq hx];exact hc
    |false=>rw[hx]at e;exact ha x c' e
   obtain⟨cl,e1,e2,e3,e4⟩:=clos_go r ((n,c)::acc) (fun y hy=>hf y (List.mem_cons_of_mem _ hy)) ha'
   refine⟨cl,?_,e2,fun y hy hyf=>?_,fun x c' e=>?_⟩
   ·simp only[beq_self_eq_true,if_true,hcell,pure_bind]
    exact e1
   ·rcases List.mem_cons.mp hy with rfl|hy
    ·exact e4 n c (by simp[List.lookup_cons])
    ·exact e3 y hy hyf
   ·cases hx:x==n with
    |true=>rw[eq_of_beq hx];exact e4 n c (by simp[List.lookup_cons])
    |false=>exact e4 x c' (by rw[List.lookup_cons,hx];exact e)
  ·have hb:(k==NameKind.free)=false:=by simpa using hk
   obtain⟨cl,e1,e2,e3,e4⟩:=clos_go r acc (fun y hy=>hf y (List.mem_cons_of_mem _ hy)) ha
   refine⟨cl,?_,e2,fun y hy hyf=>?_,e4⟩
   ·simp only[hb,Bool.false_eq_true,if_false,pure_bind]
    exact e1
   ·rcases List.mem_cons.mp hy with rfl|hy
    ·exact absurd hyf hk
    ·exact e3 y hy hyf
theorem clos_ex{scope:Scope}{env:Env}(h:∀y∈scope.names,y.2= .free->∃c,env.cells.lookup y.1=some c):
 ∃cl,closureFor scope env=pure cl/\(∀x c,cl.lookup x=some c->env.cells.lookup x=some c)/\∀y∈scope.names,y.2= .free->∃c,cl.lookup y.1=some c:=by
 obtain⟨cl,e1,e2,e3,_⟩:=clos_go (env:=env) scope.names [] h (fun x c e=>nomatch e)
 refine⟨cl,?_,e2,e3⟩
 have e:closureFor scope env=(forIn scope.names ([]:List (Str×Addr)) fun(y:Str×NameKind) cs=>(if(y.2== .free)=true then(do let c<-cellOf env y.1;pure (ForInStep.yield ((y.1,c)::cs)))else pure (ForInStep.yield cs):Sem (ForInStep (List (Str×Addr)))))>>=pure:=by
  rfl
 rw[e,e1,pure_bind]
def cxIn(X:Cx)(own:List Str)(sel:List Nat)(scope:Scope)(cl:List (Str×Addr))(C:Addr)(s2:Shared)(H2:Hp)(fp:List Addr):Cx where
 prog:=X.prog
 w:=X.w
 K:=X.K
 mg:=X.mg
 base:=X.base
 A:=X.A
 N:=own++sel.map fun j=>X.N.getD j Str.empty
 s₀:=s2
 H₀:=H2
 env:=compEnvC scope cl C X.env
 outer:=X.stack
 stack:=X.stack
 ex:=fp
 fn:=fun _=>false
 calm:=X.calm
 pn:=[]
 xe:=fun _ _=>False
def inSt(own:List Str)(sel:List Nat)(σ:St):St:=own.map (fun _=>none)++sel.map fun j=>σ.getD j none
structure CompOk (osc:Scope) (N:List Str) (own:List Str) (sel:List Nat) (scope:Scope):Prop where
 kind:scope.kind= .function
 cell:∀y∈scope.names,y.2≠ .cell
 names:∀y∈scope.names,y.2= .local->scope.names.lookup y.1=some .local
 free:∀y∈scope.names,y.2= .free->osc.names.lookup y.1=some .cell\/osc.names.lookup y.1=some .free
 seln:∀j∈sel,j<N.length/\scope.names.lookup (N.getD j Str.empty)=some .free/\(osc.names.lookup (N.getD j Str.empty)=some .cell\/osc.names.lookup (N.getD j Str.empty)=some .free)
def PIf(Y:Cx)(ifs:List Expr)(t:TT):Prop:=
 ∀ (pins:List (Addr×Obj)) (s:Shared) (σ:St) (H:Hp) (Q:Bool->Hp->Prop),Inv Y pins σ H s->t σ H Q->
   wpAny (model Y.prog Y.w) Y.A (forIn ifs true fun c r=>if r=true then do let ok<-isTrue c Y.env (eval c Y.env);pure (ForInStep.yield ok)else pure (ForInStep.yield r)) (TP Y pins σ Q) Y.xe s
def tYes:TT:=fun _ H Q=>Q true H
theorem pif_nil{Y:Cx}:PIf Y [] tYes:=fun pins s σ H Q I h=>wpAny_tests_nil ⟨H,I,h⟩
theorem pif_one{Y:Cx}{c:Expr}{t:TT}(h:PT Y c t):PIf Y [c] t:=fun pins s σ H Q I hw=>wpAny_tests_one (h pins s σ H Q I hw)
def GK(n:Nat)(g:TG):Prop:=∀v σ H Q,g v σ H Q->g v σ H fun σ' H'=>Q σ' H'/\σ'.length=σ.length/\∀i,n<=i->σ'[i]? =σ[i]?
def GKs(n:Nat)(g:TGs):Prop:=∀vs σ H Q,g vs σ H Q->g vs σ H fun σ' H'=>Q σ' H'/\σ'.length=σ.length/\∀i,n<=i->σ'[i]? =σ[i]?
theorem gk_name{n i:Nat}(h:i<n):GK n (gName i):=fun v σ H Q q=>⟨q,by simp,fun j hj=>by rw[List.getElem?_set_ne (by omega)]⟩
theorem gk_nil{n:Nat}:GKs n gNil:=fun vs σ H Q q=>⟨q.1,q.2,rfl,fun _ _=>rfl⟩
def GM(g:TG):Prop:=∀v σ H Q Q',(∀σ' H',Q σ' H'->Q' σ' H')->g v σ H Q->g v σ H Q'
def GMs(g:TGs):Prop:=∀vs σ H Q Q',(∀σ' H',Q σ' H'->Q' σ' H')->g vs σ H Q->g vs σ H Q'
theorem gm_name{i:Nat}:GM (gName i):=fun _ _ _ _ _ h q=>h _ _ q
theorem gm_nil:GMs gNil:=fun _ _ _ _ _ h q=>⟨q.1,h _ _ q.2⟩
theorem gm_cons{t:TG}{u:TGs}(h1:GM t)(h2:GMs u):GMs (gCons t u):=fun vs σ H Q Q' h ⟨v,r,e,q⟩=>⟨v,r,e,h1 _ _ _ _ _ (fun σ' H' z=>h2 _ _ _ _ _ h z) q⟩
theorem gk_cons{n:Nat}{t:TG}{u:TGs}(m1:GM t)(m2:GMs u)(h1:GK n t)(h2:GKs n u):GKs n (gCons t u):=fun vs σ H Q ⟨v,r,e,q⟩=>by
 refine⟨v,r,e,m1 _ _ _ _ _ (fun σ' H' z=>?_) (h1 _ _ _ _ q)⟩
 obtain⟨q',l,k⟩:=z
 exact m2 _ _ _ _ _ (fun σ2 H2 ⟨a,b,c⟩=>⟨a,b.trans l,fun i hi=>(c i hi).trans (k i hi)⟩) (h2 _ _ _ _ q')
theorem gk_tup{K:PySem.W.Frag}{n m:Nat}{t:TGs}(h:GKs n t):GK n (gTup K m t):=fun v σ H Q ⟨a,xs,e1,e2,e3,q⟩=>⟨a,xs,e1,e2,e3,h _ _ _ _ q⟩
def tComp(own:List Str)(sel:List Nat)(wi:TI)(g:TG)(tt:TT)(te:TE):TE:=fun σ H Q=>wi σ H fun J H1=>∀D,H1 D=none->
 ∃W:Nat->Nat->Hp->Prop,(∃m,W 0 m (upd H1 D (.lst [])))/\∀i m H2,W i m H2->
  (J.stop i H2/\Q (.ref D) H2)\/(J.go i H2/\∀x H3,J.yld i H2 x H3->g x (inSt own sel σ) H3 fun σ4 H4=>tt σ4 H4 fun b H5=>
    if b=true then te σ4 H5 fun v H6=>∃ys,H6 D=some (.lst ys)/\ys.length<sizeLine/\∃m',m'<m/\W (i+1) m' (upd H6 D (.lst (ys++[v])))
    else∃m',m'<m/\W (i+1) m' H5)
section
variable{prog:Program}{w:World}{A:Around}{R:Result->Shared->Prop}{s:Shared}
theorem comp_turns{elt target iter:Expr}{ifs:List Expr}{scope:Scope}{pos:Pos}{it acc:Value}{env:Env}(I:Nat->Shared->Prop)
 (turn:∀n s,I n s->wpAny (model prog w) A (pyNext it) (fun r s1=>match r with
   |none=>R (.ok .next) s1
   |some v=>wpAny (model prog w) A (letOwnedTupleGo target it v) (fun _ s0=>wpAny (model prog w) A (assign target env v) (fun _ s2=>
     wpAny (model prog w) A (forIn ifs true fun c r=>if r=true then do let ok<-isTrue c env (eval c env);pure (ForInStep.yield ok)else pure (ForInStep.yield r)) (fun ok s3=>
      if ok=true then wpAny (model prog w) A (eval elt env) (fun x s4=>wpAny (model prog w) A (call (.builtin "list.append") [acc,x]) (fun _ s5=>∃m,m<n/\I m s5) (fun _ _=>False) s4) (fun _ _=>False) s3
      else∃m,m<n/\I m s3) (fun _ _=>False) s2) (fun _ _=>False) s0) (fun _ _=>False) s1) (fun _ _=>False) s)
 (n:Nat) (h:I n s):
 codeAny (model prog w) A (.compLoop (.ListComp elt [⟨target,iter,ifs,0⟩] scope pos) 0 it acc env) R s:=by
 refine codeAny_loop rfl I (fun n s hI=>?_) n h
 show wpAny _ A ((compTurn (.ListComp elt [⟨target,iter,ifs,0⟩] scope pos) 0 it acc env).onRaise (fun x=>do noteFrame x env;theTreesLotGoes x)) _ _ s
 refine wpAny_noted ?_
 rw[compTurn_list]
 refine wpAny_bind (wpAny_standAt (wpAny_bind (wpAny_mono (turn n s hI) (fun r s1 h1=>?_) fun _ _ z=>z.elim)))
 cases r with
 |none=>exact wpAny_pure h1
 |some v=>
  refine wpAny_bind (wpAny_mono h1 (fun _ s0 h0=>wpAny_bind (wpAny_mono h0 (fun _ s2 h2=>wpAny_bind (wpAny_mono h2 (fun ok s3 h3=>?_) fun _ _ z=>z.elim)) fun _ _ z=>z.elim)) fun _ _ z=>z.elim)
  cases ok with
  |false=>exact wpAny_pure ⟨rfl,h3⟩
  |true=>
   exact wpAny_bind (wpAny_bind (wpAny_mono h3 (fun x s4 h4=>wpAny_bind (wpAny_mono h4 (fun _ s5 h5=>wpAny_pure (wpAny_pure ⟨rfl,h5⟩)) fun _ _ z=>z.elim)) fun _ _ z=>z.elim))
end
section
variable{X:Cx}
theorem relabel_lookup{env:Env}:∀ {names:List (Str×NameKind)} {x:Str} {k:NameKind},
 (names.map fun(n,k)=>if(k==NameKind.free&&env.scope.kind== .function&&env.kindOf n==some .cell)then(n,NameKind.cell)else(n,k)).lookup x=some k->
 names.lookup x=some k\/names.lookup x=some .free
 |[],_,_,h=>by simp at h
 |(n,k')::r,x,k,h=>by
  have ih:= @relabel_lookup env r x k
  have h':List.lookup x ((if(k'==NameKind.free&&env.scope.kind== .function&&env.kindOf n==some .cell)=true then(n,NameKind.cell)else(n,k'))::r.map fun(n,k)=>if(k==NameKind.free&&env.scope.kind== .function&&env.kindOf n==some .cell)then(n,NameKind.cell)else(n,k))=some k:=h
  cases hx:x==n with
  |true=>
   rw[List.lookup_cons,hx]
   by_cases hc:(k'==NameKind.free&&env.scope.kind== .function&&env.kindOf n==some .cell)=true
   ·have:k'= .free:=by simp only[Bool.and_eq_true,beq_iff_eq]at hc;exact hc.1.1
    subst this
    exact .inr rfl
   ·rw[if_neg hc,List.lookup_cons,hx]at h'
    exact .inl h'
  |false=>
   rw[List.lookup_cons,hx]
   by_cases hc:(k'==NameKind.free&&env.scope.kind== .function&&env.kindOf n==some .cell)=true
   ·rw[if_pos hc,List.lookup_cons,hx]at h';exact ih h'
   ·rw[if_neg hc,List.lookup_cons,hx]at h';exact ih h'
theorem relabel_free{env:Env}(hk:env.scope.kind= .function):∀ {names:List (Str×NameKind)} {x:Str},names.lookup x=some .free->
 (names.map fun(n,k)=>if(k==NameKind.free&&env.scope.kind== .function&&env.kindOf n==some .cell)then(n,NameKind.cell)else(n,k)).lookup x=some .cell\/
 (names.map fun(n,k)=>if(k==NameKind.free&&env.scope.kind== .function&&env.kindOf n==some .cell)then(n,NameKind.cell)else(n,k)).lookup x=some .free
 |[],_,h=>by simp at h
 |(n,k')::r,x,h=>by
  have ih:= @relabel_free env hk r x
  show List.lookup x ((if(k'==NameKind.free&&env.scope.kind== .function&&env.kindOf n==some .cell)=true then(n,NameKind.cell)else(n,k'))::_)=_\/List.lookup x ((if(k'==NameKind.free&&env.scope.kind== .function&&env.kindOf n==some .cell)=true then(n,NameKind.cell)else(n,k'))::_)=_
  cases hx:x==n with
  |true=>
   rw[List.lookup_cons,hx]at h
   by_cases hc:(k'==NameKind.free&&env.scope.kind== .function&&env.kindOf n==some .cell)=true
   ·rw[if_pos hc,List.lookup_cons,hx];exact .inl rfl
   ·rw[if_neg hc,List.lookup_cons,hx];exact .inr h
  |false=>
   rw[List.lookup_cons,hx]at h
   by_cases hc:(k'==NameKind.free&&env.scope.kind== .function&&env.kindOf n==some .cell)=true
   ·rw[if_pos hc,List.lookup_cons,hx];exact ih h
   ·rw[if_neg hc,List.lookup_cons,hx];exact ih h
theorem inSt_own{own:List Str}{sel:List Nat}{σ:St}{i:Nat}(h:i<own.length):(inSt own sel σ)[i]? =some none:=by
 unfold inSt
 rw[List.getElem?_append_left (by simpa using h),List.getElem?_map,List.getElem?_eq_getElem h]
 rfl
theorem inSt_sel{own:List Str}{sel:List Nat}{σ:St}{i:Nat}{v:V}(h:(inSt own sel σ)[i]? =some (some v)):∃k j,i=own.length+k/\sel[k]? =some j/\σ[j]? =some (some v):=by
 by_cases hi:i<own.length
 ·rw[inSt_own hi]at h;cases h
 ·unfold inSt at h
  rw[List.getElem?_append_right (by simpa using hi),List.getElem?_map]at h
  rw[List.length_map]at h
  cases e:sel[i-own.length]? with
  |none=>rw[e]at h;cases h
  |some j=>
   rw[e]at h
   simp only[Option.map_some,Option.some.injEq]at h
   refine⟨i-own.length,j,by omega,e,?_⟩
   rw[List.getD_eq_getElem?_getD]at h
   cases q:σ[j]? with
   |none=>rw[q]at h;cases h
   |some u=>rw[q]at h;simp at h;rw[h]
theorem inSt_len{own:List Str}{sel:List Nat}{σ:St}:(inSt own sel σ).length=own.length+sel.length:=by
 unfold inSt;simp
structure Far (X:Cx) (pins:List (Addr×Obj)) (H:Hp) (C:Addr):Prop where
 nt:H C=none
 nl:C≠X.env.locals
 up:X.s₀.heap.objs.size<=C
 nc:∀x c,X.env.cells.lookup x=some c->c≠C
 np:∀p∈X.pn++pins,p.1≠C
theorem Inv.far{pins:List (Addr×Obj)}{σ:St}{H:Hp}{s:Shared}{h':Heap}{C:Addr}(I:Inv X pins σ H s)(f:Far X pins H C)(k:Heap.SameBut C s.heap h'):Inv X pins σ H {s with heap:=h'}:=
 I.turned (t':=s.toks) (fun b o hb e=>(k.2 b hb).trans e) f.nt f.nl (.inr f.up) f.nc f.np
theorem comp_core{elt tg iter:Expr}{ifs:List Expr}{scope:Scope}{pos:Pos}{own:List Str}{sel:List Nat}{wi:TI}{g:TG}{tt:TT}{te:TE}{use:Option (Value->Sem Unit)}{Qo:Value->Shared->Prop}
 (S:CompOk X.env.scope X.N own sel scope) (hc:X.calm=true) (hi:PI X tg iter wi)
 (hg:∀cl C s2 H2 fp,PG (cxIn X own sel scope cl C s2 H2 fp) tg g) (hk:GK own.length g)
 (ht:∀cl C s2 H2 fp,PIf (cxIn X own sel scope cl C s2 H2 fp) ifs tt) (he:∀cl C s2 H2 fp,PE (cxIn X own sel scope cl C s2 H2 fp) elt te)
 (hs:∀x,foldedSetIterable iter X.env x=pure x) {pins:List (Addr×Obj)} {s:Shared} {σ:St} {H:Hp} {Q:VK} {ps:Pos} (I0:Inv X pins σ H s) (h:tComp own sel wi g tt te σ H Q)
 (fin:∀ (D C:Addr) (H':Hp) (s':Shared) (m:Str->Option Value),Inv X pins σ H' s'->s'.heap.Ns C m->Far X pins H' C->Q (.ref D) H'->compPost (model X.prog X.w) X.A X.xe use Qo (.ref D) C (.ok .next) s'):
 wpAny (model X.prog X.w) X.A (comprehension (.ListComp elt [⟨tg,iter,ifs,0⟩] scope pos) scope X.env ps (newList []) false (eval iter X.env) use) Qo X.xe s:=by
 obtain⟨cl,hclos,hcl,hfree⟩:=clos_ex (scope:=scope) (env:=X.env) fun y hy e=>I0.ok.has y.1 (S.free y hy e)
 refine wpAny_comprehension_free (use:=use) rfl hs hclos S.kind S.names (thn (hi pins s σ H _ I0 h) fun v s1 h1=>thn h1 fun itv s2 h2=>?_)
 obtain⟨it,fp,tn,J,H2,e,I,T,st2,f2,h3⟩:=h2
 subst e
 clear h h1 I0
 refine wpAny_newObj_type (wpAny_newFunctionEnv S.cell (by intro y hy;simp at hy) (fun h1 hns1 hsb1=>?_) S.kind)
 dsimp only at hns1 hsb1⊢
 generalize hP:s2.heap.push {cls:= .type "list",dict:=none,data:= .seq ([]:List Value).toArray}=P1 at hns1 hsb1⊢
 generalize hD:s2.heap.objs.size=D at hns1 hsb1⊢
 generalize hC:P1.objs.size=C at hns1 hsb1⊢
 have hCD:C=D+1:=by rw[<-hC,<-hP,Heap.size_push,hD]
 have hlt:D<C:=by rw[hCD];exact Nat.lt_succ_self D
 have hDC:D≠C:=Nat.ne_of_lt hlt
 have neC:∀b:Addr,b<D->b≠C:=fun b hb=>Nat.ne_of_lt (Nat.lt_trans hb hlt)
 have neD:∀b:Addr,b<D->b≠D:=fun b hb=>Nat.ne_of_lt hb
 have hsD:s2.heap.objs.size<=D:=Nat.le_of_eq hD
 have hsC:s2.heap.objs.size<=C:=Nat.le_trans hsD (Nat.le_of_lt hlt)
 have fresh:∀a,D<=a->H2 a=none:=fun a ha=>I.hok.fresh (by rw[hD];exact ha)
 have hnD:H2 D=none:=fresh D (Nat.le_refl _)
 have hnC:H2 C=none:=fresh C (Nat.le_of_lt hlt)
 have below:∀b o,s2.heap.get? b=some o->b<D:=fun b o e=>by rw[<-hD];exact Heap.lt_size e
 have keep1:∀b o,s2.heap.get? b=some o->h1.get? b=some o:=fun b o e=>
  hsb1.extBut b o (neC b (below b o e)) (Heap.get?_push_of_some _ (hP▸Heap.get?_push_of_some _ e))
 have gD:h1.get? D=some {cls:= .type "list",dict:=none,data:= .seq ([]:List Value).toArray}:=by
  refine hsb1.extBut _ _ hDC (Heap.get?_push_of_some _ ?_)
  rw[<-hP,<-hD]
  exact Heap.get?_push_size _ rfl
 obtain⟨W,⟨m0,w0⟩,turn⟩:=h3 D hnD
 have fpb:∀b∈fp,b<D:=fun b hb=>by obtain⟨o,e,_⟩:=T.obj _ _ st2 b hb;exact below b o e
 generalize hY:cxIn X own sel scope cl C s2 H2 fp=Y
 have hg:=hg cl C s2 H2 fp
 have ht:=ht cl C s2 H2 fp
 have he:=he cl C s2 H2 fp
 rw[hY]at hg ht he
 have okY:Y.Ok:=by
  subst hY
  refine⟨I.ok.mod,S.kind,I.ok.glob,I.ok.blt,?_,fun x y c a b=>I.ok.inj x y c (hcl _ _ a) (hcl _ _ b),fun x hx=>?_,(fun _ _ z=>nomatch z),fun z=>I.ok.hd z,I.ok.frames, .inl rfl,fun b hb=>⟨?_,fun x c e=>(f2 b hb).2.2.2.2.1 x c (hcl _ _ e)⟩,I.bs,
   Nat.le_trans I.ok.bsz I.sz,fun b o e hb=>?_,fun b hb z=>?_,I.stack,I.stkFree⟩
  ·exact hsC
  ·have hx':(relabel scope X.env).names.lookup x=some .cell\/(relabel scope X.env).names.lookup x=some .free:=hx
   have hf:scope.names.lookup x=some .free:=by
    rcases hx' with z|z
    ·rcases relabel_lookup z with q|q
     ·exact absurd rfl (S.cell _ (PySem.mem_of_lookup q))
     ·exact q
    ·rcases relabel_lookup z with q|q<;>exact q
   exact hfree _ (PySem.mem_of_lookup hf) rfl
  ·exact neC b (fpb b hb)
  ·rcases(f2 b hb).2.2.2.1 with z|z
   ·exact I.ok.noex b o e z
   ·exact absurd (Nat.lt_of_lt_of_le (Heap.lt_size e) (Nat.le_trans I.ok.bsz z)) (Nat.lt_irrefl _)
  ·rcases List.mem_cons.mp (I.stkSub b z)with q|q
   ·exact(f2 b hb).2.1 q
   ·exact(f2 b hb).2.2.1 q
 have eo:ObjOk X.prog X.w (upd H2 D (.lst [])) h1 D (.lst []):=⟨by decide,[],_, .nil,gD⟩
 have I1:Inv Y [] (inSt own sel σ) (upd H2 D (.lst [])) {s2 with heap:=h1,toks:=s2.toks+([]:List (Str×Value)).length}:=by
  subst hY
  refine⟨okY,rfl,I.bare,Un.laid keep1 hsD hnD,⟨_,hns1,fun i x v e1 e2 e3=>?_⟩,fun x c e=>?_,?_,fun x c e=>?_,fun p hp=>absurd (show p∈([]:List (Addr×Obj))from hp) (by simp),I.hok.laid keep1 hsD eo,?_⟩
  ·obtain⟨k,j,ei,ej,es⟩:=inSt_sel e2
   subst ei
   have e1':(own++sel.map fun j=>X.N.getD j Str.empty)[own.length+k]? =some x:=e1
   rw[List.getElem?_append_right (by omega),List.getElem?_map,show own.length+k-own.length=k by omega,ej]at e1'
   simp only[Option.map_some,Option.some.injEq]at e1'
   obtain⟨hj,hfx,hkd⟩:=S.seln j (List.mem_of_getElem? ej)
   have hN:X.N[j]? =some x:=by rw[<-e1',List.getD_eq_getElem?_getD,List.getElem?_eq_getElem hj];rfl
   rw[e1']at hkd hfx
   obtain⟨m,_,hl⟩:=I.loc
   obtain⟨u,r,lk⟩:=hl j x v hN es (.inr hkd)
   refine⟨u,r, .inr ⟨relabel_free I.ok.kind hfx,?_⟩⟩
   rcases lk with⟨z1,_⟩|⟨_,c,hc1,hc2⟩
   ·have z1':X.env.scope.names.lookup x=some .local:=z1
    rcases hkd with q|q<;>(rw[z1']at q;cases q)
   ·obtain⟨c',q⟩:=hfree _ (PySem.mem_of_lookup hfx) rfl
    have q2:=hcl _ _ q
    rw[hc1]at q2
    cases q2
    exact⟨c,q,hc2.keeps keep1⟩
  ·obtain⟨u,z⟩:=I.cell x c (hcl _ _ e)
   exact⟨u,z.keeps keep1⟩
  ·show upd H2 D (.lst []) C=none
   rw[upd_ne (Ne.symm hDC)];exact hnC
  ·have q:=I.freeC x c (hcl _ _ e)
   obtain⟨u,o,z,_⟩:=I.cell x c (hcl _ _ e)
   rw[upd_ne (neD c (below c o z))]
   exact q
  ·show(inSt own sel σ).length=(own++sel.map fun j=>X.N.getD j Str.empty).length
   rw[inSt_len];simp
 have fin:∀ (σ':St) (H':Hp) (s':Shared),Inv Y [] σ' H' s'->Q (.ref D) H'->compPost (model X.prog X.w) X.A X.xe use Qo (.ref D) C (.ok .next) s':=by
  intro σ' H' s' I' q
  subst hY
  obtain⟨m,hn,_⟩:=I'.loc
  have J':Inv X pins σ H' s':=I.call' I'.os I'.base I'.hok I'.bare fun b hb=>⟨(f2 b hb).2.2.2.1,(f2 b hb).2.1,(f2 b hb).2.2.2.2.1,(f2 b hb).2.2.2.2.2⟩
  refine fin D C H' s' m J' hn ⟨I'.free,Ne.symm (neC _ (by rw[<-hD];exact I.lt)),Nat.le_trans I.sz hsC,fun x c e=>?_,fun p hp=>?_⟩ q
  ·obtain⟨u,o,z,_⟩:=I.cell x c e
   exact neC c (below c o z)
  ·exact neC p.1 (below p.1 p.2 (I.pin p hp).1)
 have stat:∀ {H':Hp},(∀b∈fp,H' b=none)->∀b∈fp,FpOk Y [] H' b:=fun{H'} hn b hb=>by
  subst hY
  refine⟨hn b hb,neC b (fpb b hb),fun z=>?_, .inl hb,fun x c e=>(f2 b hb).2.2.2.2.1 x c (hcl _ _ e),fun p hp=>absurd (show p∈([]:List (Addr×Obj))from hp) (by simp)⟩
  rcases List.mem_cons.mp (I.stkSub b z)with q|q
  ·exact(f2 b hb).2.1 q
  ·exact(f2 b hb).2.2.1 q
 have loop:∀s3:Shared,s3={s2 with heap:=h1,toks:=s2.toks+([]:List (Str×Value)).length}->
  codeAny (model X.prog X.w) X.A (.compLoop (.ListComp elt [⟨tg,iter,ifs,0⟩] scope pos) 0 (.ref it) (.ref D) (compEnvC scope cl C X.env)) (compPost (model X.prog X.w) X.A X.xe use Qo (.ref D) C) s3:=by
  rintro s3 rfl
  have eP:Y.prog=X.prog:=by subst hY;rfl
  have eW:Y.w=X.w:=by subst hY;rfl
  have eA:Y.A=X.A:=by subst hY;rfl
  have eK:Y.K=X.K:=by subst hY;rfl
  have eE:Y.env=compEnvC scope cl C X.env:=by subst hY;rfl
  have eX:Y.xe=fun _ _=>False:=by subst hY;rfl
  have eC:Y.calm=true:=by subst hY;exact hc
  refine comp_turns (fun n s'=>∃i H',Inv Y [] (inSt own sel σ) H' s'/\tn i s'.heap/\(∀b∈fp,H' b=none)/\W i n H') ?_ m0
   ⟨0,_,I1,T.keep _ _ _ st2 fun b _ o e=>keep1 b o e,fun b hb=>by rw[upd_ne (neD b (fpb b hb))];exact(f2 b hb).1,w0⟩
  rintro n s4 ⟨i,H4,I4,st4,fr4,w4⟩
  rcases turn i n H4 w4 with⟨stop,q⟩|⟨go,step⟩
  ·have dn:=T.done Y eP eW eK eC i [] s4 _ H4 (fun _ _=>False) I4 (stat fr4) st4 stop
   rw[eA]at dn
   refine thn dn fun r s5 ⟨hr,I5⟩=>?_
   subst hr
   exact fin _ _ _ I5 q
  ·have im:=T.item Y eP eW eK eC i [] s4 _ H4 (fun _ _=>False) I4 (stat fr4) st4 go
   rw[eA]at im
   refine thn im fun r s5 ⟨u,hr,h5⟩=>?_
   subst hr
   refine thn h5 fun _ s6 ⟨x,H6,I6,r6,y6,st6,fr6⟩=>?_
   have I6':=I6.pinned (stat fr6) (T.obj _ _ st6)
   have back:∀ {σ7:St} {H7:Hp} {s7:Shared} {k:Nat},Inv Y ([]++pinsAt fp s6.heap) σ7 H7 s7->σ7.length=(inSt own sel σ).length->(∀j,own.length<=j->σ7[j]? =(inSt own sel σ)[j]?)->(∃m',m'<n/\W (i+1) m' H7)->
    ∃m',m'<n/\∃i H',Inv Y [] (inSt own sel σ) H' s7/\tn i s7.heap/\(∀b∈fp,H' b=none)/\W i m' H':=fun{σ7 H7 s7 k} I7 l7 k7 w7=>by
    obtain⟨m',hm,w7⟩:=w7
    refine⟨m',hm,i+1,H7,I7.unpinned.weak l7.symm fun j v e=>?_,T.keep _ _ _ st6 fun b hb o e=>(I7.pin (b,o) (List.mem_append_right _ (List.mem_append_right _ (mem_pinsAt hb e)))).1,fun b hb=>?_,w7⟩
    ·by_cases hj:j<own.length
     ·rw[inSt_own hj]at e;cases e
     ·rw[k7 j (Nat.le_of_not_lt hj)];exact e
    ·obtain⟨o,e,d⟩:=T.obj _ _ st6 b hb
     exact(I7.pin (b,o) (List.mem_append_right _ (List.mem_append_right _ (mem_pinsAt hb e)))).2.1
   have ga:=hg _ s6 _ H6 x u _ I6' r6 (hk _ _ _ _ (step x H6 y6))
   rw[eP,eW,eA,eE,eX]at ga
   refine thn ga fun _ s7 ⟨σ7,H7,I7,q7,l7,k7⟩=>?_
   have ta:=ht _ s7 σ7 H7 _ I7 q7
   rw[eP,eW,eA,eE,eX]at ta
   refine thn ta fun b s8 ⟨H8,I8,q8⟩=>?_
   cases b with
   |false=>
    rw[if_neg Bool.false_ne_true]at q8⊢
    exact back (k:=0) I8 l7 k7 q8
   |true=>
    rw[if_pos rfl]at q8⊢
    have ea:=he _ s8 σ7 H8 _ I8 q8
    rw[eP,eW,eA,eE,eX]at ea
    refine thn ea fun v s9 ⟨x9,H9,I9,r9,ys,hD9,hz9,q9⟩=>?_
    have aa:=mt_append (X:=Y) _ s9 σ7 H9 (.ref D) [x9] (.ref D) [v] (fun _ H'=>∃m',m'<n/\W (i+1) m' H') I9 rfl (.cons r9 .nil) ⟨D,ys,x9,rfl,rfl,hD9,hz9,q9⟩
    rw[eP,eW,eA,eX]at aa
    exact thn aa fun _ s10 ⟨_,H10,I10,_,q10⟩=>back (k:=0) I10 l7 k7 q10
 exact codeAny_compStart_list (loop _ rfl) (T.self X.A 0 _ _ _ (T.keep _ _ _ st2 fun b _ o e=>keep1 b o e) (loop _ rfl))
theorem pe_comp{elt tg iter:Expr}{ifs:List Expr}{scope:Scope}{pos:Pos}{own:List Str}{sel:List Nat}{wi:TI}{g:TG}{tt:TT}{te:TE}
 (S:CompOk X.env.scope X.N own sel scope) (hc:X.calm=true) (hi:PI X tg iter wi)
 (hg:∀cl C s2 H2 fp,PG (cxIn X own sel scope cl C s2 H2 fp) tg g) (hk:GK own.length g)
 (ht:∀cl C s2 H2 fp,PIf (cxIn X own sel scope cl C s2 H2 fp) ifs tt) (he:∀cl C s2 H2 fp,PE (cxIn X own sel scope cl C s2 H2 fp) elt te)
 (hs:∀x,foldedSetIterable iter X.env x=pure x:=by intro _;rfl):
 PE X (.ListComp elt [⟨tg,iter,ifs,0⟩] scope pos) (tComp own sel wi g tt te):=by
 intro pins s σ H Q I h
 rw[eval_ListComp]
 refine comp_core (use:=none) S hc hi hg hk ht he hs I h fun D C H' s' m I' hn f q=>?_
 exact⟨m,hn,fun h' k=>⟨.ref D,H',I'.far f k,rfl,q⟩⟩
end
section
variable{X:Cx}{pins:List (Addr×Obj)}{σ:St}{H:Hp}{s:Shared}{h':Heap}
theorem Inv.bigAfter{ch:List Addr}(I:Inv X pins σ H s)(hf:∀b∈ch,FpOk X pins H b)(k:∀b u,b∉ch->s.heap.get? b=some u->h'.get? b=some u):∃b o,1<b/\h'.get? b=some o:=by
 obtain⟨o,_,_,e,_⟩:=I.ok.mod.glob
 refine⟨mainGlobals,o,by decide,k _ _ (fun z=>?_) (I.bk _ _ e)⟩
 rcases(hf _ z).2.2.2.1 with q|q
 ·exact I.ok.noex _ _ e q
 ·exact absurd (Nat.lt_of_lt_of_le (Heap.lt_size e) (Nat.le_trans I.ok.bsz q)) (Nat.lt_irrefl _)
theorem Inv.turnedLaid{a:Addr}{o:HO}{t':Nat}{ch:List Addr}(I:Inv X pins σ H s)(hf:∀b∈ch,FpOk X pins H b)(k:∀b u,b∉ch->s.heap.get? b=some u->h'.get? b=some u)(hp:s.heap.objs.size<=a)
 (new:ObjOk X.prog X.w (upd H a o) h' a o):Inv X pins σ (upd H a o) {s with heap:=h',toks:=t'}:=by
 have hn:H a=none:=I.hok.fresh hp
 have ne:∀b u,s.heap.get? b=some u->b≠a:=fun b u e=>Nat.ne_of_lt (Nat.lt_of_lt_of_le (Heap.lt_size e) hp)
 have nt:∀b u,H b=some u->b∉ch:=fun b u e z=>by rw[(hf b z).1]at e;cases e
 refine I.step (g':=s.gens) (d':=s.drawn) (ch:=ch) (fun b hb=>⟨(hf b hb).2.2.2.1,(hf b hb).2.1,(hf b hb).2.2.2.2.1,(hf b hb).2.2.2.2.2⟩) (fun b u _ _ hc e _=>k b u hc e) (fun b u _ _ hc e _=>⟨u.slots,k b u hc e⟩)
  (fun b u _ e n=>by rw[upd_ne (ne b u e)];exact n) (fun b u hc e=>⟨u,k b u hc e⟩) (fun b xs e=>by rw[upd_ne (ne_of_none e hn)];exact e) (fun b u xs e=>by rw[upd_ne (ne_of_none e hn)];exact e)
  (fun b ps e=>⟨#[],by rw[upd_ne (ne_of_none e hn),e];simp⟩) (fun m hm=>?_) ⟨fun b u e=>?_,fun u e=>I.hok.sm u (by
    by_cases hb:sysModules=a
    ·obtain⟨b,o',l,q⟩:=I.hok.bg
     exact absurd (Nat.lt_trans l (show b<sysModules from by rw[hb];exact Nat.lt_of_lt_of_le (Heap.lt_size q) hp)) (Nat.lt_irrefl 1)
    ·rw[upd_ne hb]at e;exact e),I.bigAfter hf k⟩ I.bare
 ·obtain⟨ob,es,ep,ho,r⟩:=hm
  exact⟨ob,es,ep,k _ ob (fun z=>(hf _ z).2.1 rfl) ho,r⟩
 ·by_cases hb:b=a
  ·subst hb;rw[upd_same]at e;cases e;exact new
  ·rw[upd_ne hb]at e
   refine(I.hok b u e).stay (fun c v hc q=>k c v ?_ q) (fun c q=>by rw[upd_ne (ne_of_none q hn)];exact q) fun c xs q=>by rw[upd_ne (ne_of_none q hn)];exact q
   rcases hc with z|z
   ·rw[z];exact nt b u e
   ·exact nt c _ z
theorem Inv.turnedAll{t':Nat}{ch:List Addr}(I:Inv X pins σ H s)(hf:∀b∈ch,FpOk X pins H b)(k:∀b u,b∉ch->s.heap.get? b=some u->h'.get? b=some u):Inv X pins σ H {s with heap:=h',toks:=t'}:=by
 have nt:∀b u,H b=some u->b∉ch:=fun b u e z=>by rw[(hf b z).1]at e;cases e
 refine I.step (g':=s.gens) (d':=s.drawn) (ch:=ch) (fun b hb=>⟨(hf b hb).2.2.2.1,(hf b hb).2.1,(hf b hb).2.2.2.2.1,(hf b hb).2.2.2.2.2⟩) (fun b u _ _ hc e _=>k b u hc e) (fun b u _ _ hc e _=>⟨u.slots,k b u hc e⟩)
  (fun b u _ e n=>n) (fun b u hc e=>⟨u,k b u hc e⟩) (fun b xs e=>e) (fun b u xs e=>e) (fun b ps e=>⟨#[],by rw[e];simp⟩) (fun m hm=>?_) ⟨fun b u e=>?_,I.hok.sm,I.bigAfter hf k⟩ I.bare
 ·obtain⟨ob,es,ep,ho,r⟩:=hm
  exact⟨ob,es,ep,k _ ob (fun z=>(hf _ z).2.1 rfl) ho,r⟩
 ·refine(I.hok b u e).stay (fun c v hc q=>k c v ?_ q) (fun c q=>q) fun c xs q=>q
  rcases hc with z|z
  ·rw[z];exact nt b u e
  ·exact nt c _ z
end
def Its(x:Str):It:=⟨fun i _=>i<x.cps.size,fun i H v H'=>H'=H/\∃c,x.cps[i]? =some c/\v= .str ⟨#[c]⟩,fun i _=>i=x.cps.size⟩
section
variable{P:Program}{w:World}{K:PySem.W.Frag}{tg:Expr}
theorem turn_str{x:Str}{t:Tok}{T:String}{it:Addr}(hT:T="str_ascii_iterator"\/T="str_iterator")
 (W:∀A:Around,A.handled=none->Walks P w A it [it] [it] x.cps.size (SignAt x) (fun i h=>h.IsStrIter it T x t i))
 (sf:∀ (A:Around) (i:Nat) (s:Shared) (Q:Value->Shared->Prop) (E:Value->Shared->Prop),s.heap.IsStrIter it T x t i->Q (.ref it) s->wpAny (model P w) A (pyIter (.ref it)) Q E s):
 Turn P w K tg (Its x) [it] it (fun i h=>h.IsStrIter it T x t i) where
 mem:=by simp
 obj:=fun i h st b hb=>by
  obtain⟨o,ho,_,hd⟩:=st
  have e:b=it:=by simpa using hb
  subst e
  exact⟨o,ho,fun v z=>by rw[hd]at z;cases z⟩
 keep:=fun i h h' st k=>by
  obtain⟨o,ho,r⟩:=st
  exact⟨o,k it (by simp) o ho,r⟩
 item:=by
  intro X hP hw hK hc i pins s σ H E I hf st hg
  subst hP hw hK
  refine(W X.A (I.ok.hd hc)).item i s _ _ hg st fun v h' tk hv st' kk=>?_
  obtain⟨c,u,hx,rfl⟩:=hv
  obtain⟨o,ho,hcl,hd⟩:=id st'
  have I1:Inv X pins σ H {s with heap:=h',toks:=tk}:=I.turnedAll hf kk
  refine⟨_,rfl,go_of (s:={s with heap:=h',toks:=tk}) (n:=T) ho hcl hd (by rcases hT with rfl|rfl<;>decide) ⟨.str ⟨#[c]⟩,H,I1,⟨u,rfl⟩,⟨rfl,c,hx,rfl⟩,st',fun b hb=>(hf b hb).1⟩⟩
 done:=by
  intro X hP hw hK hc i pins s σ H E I hf st hg
  subst hP hw hK
  have e:i=x.cps.size:=hg
  subst e
  exact(W X.A (I.ok.hd hc)).done s _ _ st fun h' tk kk=>⟨rfl,I.turnedAll hf kk⟩
 self:=fun A i s Q E st h=>sf A i s Q E st h
end
def iStr(tl:TE):TI:=fun σ H R=>tl σ H fun x H1=>∃z,x= .str z/\R (Its z) H1
theorem pi_str{X:Cx}{tg l:Expr}{tl:TE}(hl:PE X l tl):PI X tg l (iStr tl):=by
 intro pins s σ H R I h
 refine thn (hl pins s σ H _ I h) fun v s1 ⟨x,H1,I1,r1,q1⟩=>?_
 obtain⟨z,rfl,q⟩:=q1
 obtain⟨t,rfl⟩:=r1
 have side:∀b∈[s1.heap.objs.size],FpOk X pins H1 b:=fun b hb=>by
  have e:b=s1.heap.objs.size:=by simpa using hb
  subst e
  exact I1.fpOk (Nat.le_refl _) (I1.hok.fresh (Nat.le_refl _))
 cases ha:z.cps.all (· <128)
 ·refine wpAny_pyIter_wide ha ⟨s1.heap.objs.size,[s1.heap.objs.size],_,_,H1,rfl,I1.kept (t':=s1.toks) fun b o e=>Heap.get?_push_of_some _ e,turn_str (t:=t) (T:="str_iterator") (.inr rfl) (fun A hh=>Walks.strWide hh _ z t) (fun A i s Q E st h=>wpAny_pyIter_striter_wide st h),⟨_,Heap.get?_push_size _ rfl,rfl,rfl⟩,side,q⟩
 ·refine wpAny_pyIter_ascii ha ⟨s1.heap.objs.size,[s1.heap.objs.size],_,_,H1,rfl,I1.kept (t':=s1.toks) fun b o e=>Heap.get?_push_of_some _ e,turn_str (t:=t) (T:="str_ascii_iterator") (.inl rfl) (fun A hh=>Walks.strAscii hh _ z t) (fun A i s Q E st h=>wpAny_pyIter_striter_ascii st h),⟨_,Heap.get?_push_size _ rfl,rfl,rfl⟩,side,q⟩
def IteS(x:Str):It:=⟨fun i _=>i<x.cps.size,fun i H v H'=>∃T c,H T=none/\x.cps[i]? =some c/\v= .ref T/\H'=upd H T (.tup [.int i, .str ⟨#[c]⟩]),fun i _=>i=x.cps.size⟩
def IteL(K:PySem.W.Frag)(a:Addr):It:=⟨fun i H=>∃xs x,SqL K H a xs/\xs[i]? =some x,fun i H v H'=>∃T x,H T=none/\(∀xs,SqL K H a xs->xs[i]? =some x)/\v= .ref T/\H'=upd H T (.tup [.int i,x]),
 fun i H=>∃xs,SqL K H a xs/\i=xs.length⟩
section
variable{P:Program}{w:World}{K:PySem.W.Frag}{elts:List Expr}{k:Nat}{tpos:Pos}
theorem enum_item{X:Cx}{pins:List (Addr×Obj)}{σ:St}{H:Hp}{s:Shared}{E:Value->Shared->Prop}{e it:Addr}{fp:List Addr}{n i:Nat}{Pr:Nat->Value->Prop}{St:Nat->Heap->Prop}{old:Value}{Qx:Value->Hp->V->Prop}{tn:Heap->Prop}
 (D:Draws X.prog X.w X.A.in1 it fp n Pr St) (I:Inv X pins σ H s) (hf:∀b∈[e,it],FpOk X pins H b) (he:IsEnum s.heap e it i old) (hst:St i s.heap) (hlt:i<n) (hne:e≠it) (hef:e∉fp)
 (tnk:∀h' o,IsEnum h' e it ((i:Int)+1) o->St (i+1) h'->tn h') (y:∀v,Pr i v->∃z,RelV z v/\Qx v H z):
 wpAny (model X.prog X.w) X.A (pyNext (.ref e)) (fun r s1=>∃u,r=some u/\wpAny (model X.prog X.w) X.A (letOwnedTupleGo (.Tuple elts k tpos) (.ref e) u) (fun _ s2=>∃x H',Inv X pins σ H' s2/\RelV x u/\
  (∃T z v,H T=none/\Pr i v/\RelV z v/\Qx v H z/\x= .ref T/\H'=upd H T (.tup [.int i,z]))/\tn s2.heap/\∀b∈[e,it],H' b=none) E s1) E s:=by
 refine wpAny_pyNext_enum_itemD D he hst hlt hne hef fun v h1 tk hP ho hs' hT hsz hk=>⟨_,rfl,wpAny_letOwnedTupleGo_enum ho fun h2 he2 hs2=>?_⟩
 obtain⟨z,rz,qz⟩:=y v hP
 have hel:e<s.heap.objs.size:=Heap.lt_size he
 have hil:it<s.heap.objs.size:=by obtain⟨_,q⟩:=D.live _ _ hst;exact Heap.lt_size q
 have hT2:h2.get? s.heap.objs.size=some {cls:= .type "tuple",data:= .seq #[.int i tk,v]}:=(hs2.2 _ (Nat.ne_of_gt hel)).trans hT
 have ob:ObjOk X.prog X.w (upd H s.heap.objs.size (.tup [.int i,z])) h2 s.heap.objs.size (.tup [.int i,z]):=⟨(by show 2<=sizeLine;decide),[.int i tk,v], .cons ⟨tk,rfl⟩ (.cons rz .nil),⟨_,hT2,rfl,_,rfl⟩⟩
 have I2:Inv X pins σ (upd H s.heap.objs.size (.tup [.int i,z])) {s with heap:=h2,toks:=tk+1}:=I.turnedLaid hf (fun b u hb q=>(hs2.2 b (fun z=>hb (by simp[z]))).trans (hk b u (fun z=>hb (by simp[z])) (fun z=>hb (by simp[z])) q)) (Nat.le_refl _) ob
 refine⟨.ref s.heap.objs.size,_,I2,rfl,⟨s.heap.objs.size,z,v,I.hok.fresh (Nat.le_refl _),hP,rz,qz,rfl,rfl⟩,tnk h2 _ he2 (D.frame _ _ _ hs' fun b hb o q=>(hs2.2 b fun z=>hef (z▸hb)).trans q),fun b hb=>?_⟩
 have hb':b≠s.heap.objs.size:=by
  rcases List.mem_cons.mp hb with z|hb
  ·rw[z];exact Nat.ne_of_lt hel
  ·rw[List.mem_singleton.mp hb];exact Nat.ne_of_lt hil
 rw[upd_ne hb']
 exact(hf b hb).1
theorem turn_enumS{x:Str}{t:Tok}{T:String}{e it:Addr}(hne:e≠it)
 (W:∀A:Around,A.handled=none->Draws P w A it [it] x.cps.size (fun i v=>∃c u,x.cps[i]? =some c/\v= .str ⟨#[c]⟩ u) (fun i h=>h.IsStrIter it T x t i)):
 Turn P w K (.Tuple elts k tpos) (IteS x) [e,it] e (fun i h=>(∃old,IsEnum h e it i old)/\h.IsStrIter it T x t i) where
 mem:=by simp
 obj:=fun i h st b hb=>by
  obtain⟨⟨old,he⟩,o,ho,_,hd⟩:=st
  rcases List.mem_cons.mp hb with z|hb
  ·subst z;exact⟨_,he,fun v z=>by cases z⟩
  ·rw[List.mem_singleton.mp hb];exact⟨o,ho,fun v z=>by rw[hd]at z;cases z⟩
 keep:=fun i h h' st k=>by
  obtain⟨⟨old,he⟩,o,ho,r⟩:=st
  exact⟨⟨old,k e (by simp) _ he⟩,o,k it (by simp) o ho,r⟩
 item:=by
  intro X hP hw hK hc i pins s σ H E I hf st hg
  subst hP hw hK
  obtain⟨⟨old,he⟩,st⟩:=st
  refine thn (enum_item (elts:=elts) (k:=k) (tpos:=tpos) (Qx:=fun v H z=>∃c,x.cps[i]? =some c/\z= .str ⟨#[c]⟩) (tn:=fun h=>(∃old,IsEnum h e it ((i+1:Nat):Int) old)/\h.IsStrIter it T x t (i+1)) (W X.A.in1 (I.ok.hd hc)) I hf he st hg hne (fun z=>hne (List.mem_singleton.mp z)) (fun h' o a b=>⟨⟨o,by simpa using a⟩,b⟩) ?_) ?_
  ·rintro v ⟨c,u,hx,rfl⟩
   exact⟨.str ⟨#[c]⟩,⟨u,rfl⟩,c,hx,rfl⟩
  ·rintro r s1 ⟨u,hr,h1⟩
   refine⟨u,hr,thn h1 ?_⟩
   rintro _ s2 ⟨xv,H',I2,rx,⟨Ta,z,v,hT,hv,rz,⟨c,hx,rfl⟩,ex,eH⟩,tn2,fr⟩
   exact⟨xv,H',I2,rx,⟨Ta,c,hT,hx,ex,eH⟩,tn2,fr⟩
 done:=by
  intro X hP hw hK hc i pins s σ H E I hf st hg
  subst hP hw hK
  obtain⟨⟨old,he⟩,st⟩:=st
  have ei:i=x.cps.size:=hg
  subst ei
  exact wpAny_pyNext_enum_endD (W X.A.in1 (I.ok.hd hc)) he st fun h' hx=>⟨rfl,I.turnedAll (t':=s.toks) hf fun b o hb q=>hx b o (fun z=>hb (by simp[z])) q⟩
 self:=fun A i s Q E st h=>by
  obtain⟨⟨old,he⟩,_⟩:=st
  exact wpAny_pyIter_enum he h
theorem turn_enumL{a e it:Addr}(hne:e≠it)(hai:a≠it)(hae:a≠e):
 Turn P w K (.Tuple elts k tpos) (IteL K a) [e,it] e (fun i h=>(∃old,IsEnum h e it i old)/\h.IsListIter it a i) where
 mem:=by simp
 obj:=fun i h st b hb=>by
  obtain⟨⟨old,he⟩,o,ho,_,hd⟩:=st
  rcases List.mem_cons.mp hb with z|hb
  ·subst z;exact⟨_,he,fun v z=>by cases z⟩
  ·rw[List.mem_singleton.mp hb];exact⟨o,ho,fun v z=>by rw[hd]at z;cases z⟩
 keep:=fun i h h' st k=>by
  obtain⟨⟨old,he⟩,o,ho,r⟩:=st
  exact⟨⟨old,k e (by simp) _ he⟩,o,k it (by simp) o ho,r⟩
 item:=by
  intro X hP hw hK hc i pins s σ H E I hf st hg
  subst hP hw hK
  obtain⟨⟨old,he⟩,st⟩:=st
  obtain⟨xs,x,hq,hx⟩:=hg
  obtain⟨its,rv,pl,hz⟩:=I.list hq
  have hl:=rv.length
  have hil:i<xs.length:=(List.getElem?_eq_some_iff.mp hx).1
  have D:Draws X.prog X.w X.A.in1 it [it,a] its.toArray.size (fun i v=>its.toArray[i]? =some v) (fun i h=>h.IsListIter it a i/\h.IsList a its.toArray):=Draws.list (A:=X.A.in1) (I.ok.hd hc) it a hai its.toArray
  refine thn (enum_item (elts:=elts) (k:=k) (tpos:=tpos) (Qx:=fun v H z=>z=x) (tn:=fun h=>(∃old,IsEnum h e it ((i+1:Nat):Int) old)/\h.IsListIter it a (i+1)) D I hf he ⟨st,pl.isList⟩ (by rw[List.size_toArray,<-hl];exact hil) hne (fun z=>?_) (fun h' o a b=>⟨⟨o,by simpa using a⟩,b.1⟩) ?_) ?_
  ·rcases List.mem_cons.mp z with z|z
   ·exact hne z
   ·exact hae (List.mem_singleton.mp z).symm
  ·intro v hv
   obtain⟨u,eu,ru⟩:=rv.get hx
   have:v=u:=by
    have hv':its[i]? =some v:=by simpa using hv
    rw[eu]at hv'
    exact(Option.some.inj hv').symm
   subst this
   exact⟨x,ru,rfl⟩
  ·rintro r s1 ⟨u,hr,h1⟩
   refine⟨u,hr,thn h1 ?_⟩
   rintro _ s2 ⟨xv,H',I2,rx,⟨Ta,z,v,hT,hv,rz,rfl,ex,eH⟩,tn2,fr⟩
   refine⟨xv,H',I2,rx,⟨Ta,z,hT,fun ys hys=>?_,ex,eH⟩,tn2,fr⟩
   rw[I.list_inj hys hq]
   exact hx
 done:=by
  intro X hP hw hK hc i pins s σ H E I hf st hg
  subst hP hw hK
  obtain⟨⟨old,he⟩,st⟩:=st
  obtain⟨xs,hq,ei⟩:=hg
  obtain⟨its,rv,pl,hz⟩:=I.list hq
  have hl:=rv.length
  have D:Draws X.prog X.w X.A.in1 it [it,a] its.toArray.size (fun i v=>its.toArray[i]? =some v) (fun i h=>h.IsListIter it a i/\h.IsList a its.toArray):=Draws.list (A:=X.A.in1) (I.ok.hd hc) it a hai its.toArray
  have es:i=its.toArray.size:=by rw[List.size_toArray,<-hl];exact ei
  exact wpAny_pyNext_enum_endD D he ⟨es▸st,pl.isList⟩ fun h' hx=>⟨rfl,I.turnedAll (t':=s.toks) hf fun b o hb q=>hx b o (fun z=>hb (by simp[z])) q⟩
 self:=fun A i s Q E st h=>by
  obtain⟨⟨old,he⟩,_⟩:=st
  exact wpAny_pyIter_enum he h
end
def iEnS(ta:TA):TI:=fun σ H R=>ta σ H fun vs H1=>∃z,vs=[.str z]/\R (IteS z) H1
def iEnL(K:PySem.W.Frag)(ta:TA):TI:=fun σ H R=>ta σ H fun vs H1=>∃a,vs=[.ref a]/\(∃xs,SqL K H1 a xs)/\R (IteL K a) H1
section
variable{X:Cx}{a:Expr}{ta:TA}{p pos:Pos}{elts:List Expr}{k:Nat}{tpos:Pos}
theorem fresh2{pins:List (Addr×Obj)}{σ:St}{H:Hp}{s:Shared}(I:Inv X pins σ H s):∀b∈[s.heap.objs.size+1,s.heap.objs.size],FpOk X pins H b:=fun b hb=>by
 rcases List.mem_cons.mp hb with z|hb
 ·subst z;exact I.fpOk (Nat.le_succ _) (I.hok.fresh (Nat.le_succ _))
 ·rw[List.mem_singleton.mp hb];exact I.fpOk (Nat.le_refl _) (I.hok.fresh (Nat.le_refl _))
theorem pi_enumS(hg:Gl X "enumerate")(hm:X.mg "enumerate"=none)(ha:PA X [a] ta)(hs:starEach [a] X.env=[(false,eval a X.env)]:=by rfl):PI X (.Tuple elts k tpos) (.Call (.Name "enumerate" p) [a] [] pos) (iEnS ta):=by
 intro pins s σ H R I h
 refine Call_ (ld_blt I hg hm boot_enumerate (PyProof.Rows.callWith_type1 (thn (ha pos pins s σ H _ I h) fun us s1 ⟨vs,H1,I1,r1,q1⟩=>?_) hs rfl))
 obtain⟨z,e,q⟩:=q1
 subst e
 cases r1 with
 |cons r rr=>
  cases rr
  obtain⟨t,rfl⟩:=r
  refine call_enumerate_str fun h' he hit hsz hk=>wpAny_pyIter_enum he ?_
  cases hall:z.cps.all (· <128)
  ·have hit':h'.IsStrIter s1.heap.objs.size "str_iterator" z t 0:=by simpa[strIterType,hall]using hit
   exact⟨s1.heap.objs.size+1,[s1.heap.objs.size+1,s1.heap.objs.size],_,_,H1,rfl,I1.kept (t':=s1.toks) hk,turn_enumS (t:=t) (T:="str_iterator") (Nat.succ_ne_self _) (fun A hh=>Draws.strWide hh _ z t),⟨⟨_,he⟩,hit'⟩,fresh2 I1,q⟩
  ·have hit':h'.IsStrIter s1.heap.objs.size "str_ascii_iterator" z t 0:=by simpa[strIterType,hall]using hit
   exact⟨s1.heap.objs.size+1,[s1.heap.objs.size+1,s1.heap.objs.size],_,_,H1,rfl,I1.kept (t':=s1.toks) hk,turn_enumS (t:=t) (T:="str_ascii_iterator") (Nat.succ_ne_self _) (fun A hh=>Draws.strAscii hh _ z t),⟨⟨_,he⟩,hit'⟩,fresh2 I1,q⟩
theorem pi_enumL(hg:Gl X "enumerate")(hm:X.mg "enumerate"=none)(ha:PA X [a] ta)(hs:starEach [a] X.env=[(false,eval a X.env)]:=by rfl):PI X (.Tuple elts k tpos) (.Call (.Name "enumerate" p) [a] [] pos) (iEnL X.K ta):=by
 intro pins s σ H R I h
 refine Call_ (ld_blt I hg hm boot_enumerate (PyProof.Rows.callWith_type1 (thn (ha pos pins s σ H _ I h) fun us s1 ⟨vs,H1,I1,r1,q1⟩=>?_) hs rfl))
 obtain⟨l,e,⟨xs,hq⟩,q⟩:=q1
 subst e
 cases r1 with
 |cons r rr=>
  cases rr
  cases r
  obtain⟨its,rv,pl,hz⟩:=I1.list hq
  obtain⟨ol,hol,_⟩:=id pl.isList
  have hl:l<s1.heap.objs.size:=Heap.lt_size hol
  refine call_enumerate_list pl.isList fun h' he hit hsz hk=>wpAny_pyIter_enum he ?_
  exact⟨s1.heap.objs.size+1,[s1.heap.objs.size+1,s1.heap.objs.size],_,_,H1,rfl,I1.kept (t':=s1.toks) hk,turn_enumL (Nat.succ_ne_self _) (Nat.ne_of_lt hl) (Nat.ne_of_lt (Nat.lt_succ_of_lt hl)),⟨⟨_,he⟩,hit⟩,fresh2 I1,q⟩
end
def tx(l:List Nat):V:= .str ⟨l.toArray⟩
theorem tx_inj{a b:List Nat}:tx a=tx b↔a=b:=by
 unfold tx
 constructor
 ·intro h
  injection h with h
  injection h with h
  simpa using congrArg Array.toList h
 ·rintro rfl;rfl
theorem tx_len(a:List Nat):(⟨a.toArray⟩:Str).length=a.length:=by simp[Str.length]
theorem eqV_tx(a b:List Nat):eqV (tx a) (tx b)=decide (a=b):=by
 have e:eqV (tx a) (tx b)=((⟨a.toArray⟩:Str)==⟨b.toArray⟩):=rfl
 rw[e]
 by_cases h:a=b
 ·subst h;simp
 ·rw[decide_eq_false h,beq_eq_false_iff_ne]
  intro q
  exact h (tx_inj.mp (congrArg V.str q))
theorem dec_tx(a b:List Nat):decide (tx a=tx b)=decide (a=b):=by
 by_cases h:a=b
 ·subst h;simp
 ·rw[decide_eq_false h,decide_eq_false (fun q=>h (tx_inj.mp q))]
section
variable{X:Cx}
theorem pe_tx{x:Str}{l:List Nat}{j pos}(h:x=⟨l.toArray⟩):PE X (.Constant (.str x) j pos) (tC (tx l)):=by
 subst h
 exact pe_str
theorem op_addT:OpR X (binaryOp .Add) (fun x y H Q=>∃a b,x=tx a/\y=tx b/\a.length+b.length<=sizeLine/\Q (tx (a++b)) H):=by
 intro pins s σ H x y v u Q I rx ry ⟨a,b,e1,e2,hz,q⟩
 subst e1 e2
 refine op_add_str pins s σ H _ _ v u Q I rx ry ⟨_,_,rfl,rfl,by rw[tx_len,tx_len];exact hz,?_⟩
 have e:(V.str ((⟨a.toArray⟩:Str)++⟨b.toArray⟩))=tx (a++b):=by
  unfold tx
  congr 1
  show(⟨a.toArray++b.toArray⟩:Str)=_
  simp
 rw[e];exact q
def rIxT':R2:=fun x y H Q=>∃a i c,x=tx a/\y= .int i/\a.length<=sizeLine/\atI a i=some c/\Q (tx [c]) H
theorem ix_T:IxR X rIxT':=by
 intro value slice pins s σ H x y v u Q I rx ry ⟨a,i,c,e1,e2,hz,he,q⟩ hs
 subst e1 e2
 exact ix_str value slice pins s σ H _ _ v u Q I rx ry ⟨_,i,c,rfl,rfl,by rw[tx_len];exact hz,by simpa using he,q⟩ hs
theorem call_lenT:CallR X (.builtin "len") (fun xs H Q=>∃a,xs=[tx a]/\a.length<=sizeLine/\Q (.int a.length) H):=by
 intro pins s σ H xs us Q I r ⟨a,e,hz,q⟩
 subst e
 refine call_len_str pins s σ H _ us Q I r ⟨_,rfl,by rw[tx_len];exact hz,?_⟩
 rw[tx_len];exact q
theorem op_inT:OpR X (compareOp .In) (fun x y H Q=>∃c l,x=tx [c]/\y=tx l/\Q (.bl (decide (c∈l))) H):=by
 intro pins s σ H x y v u Q I rx ry ⟨c,l,e1,e2,q⟩
 subst e1 e2
 refine op_in_str pins s σ H _ _ v u Q I rx ry ⟨_,_,rfl,rfl,?_⟩
 have e:=PySem.StrLaws.found_one (⟨l.toArray⟩:Str) c
 simp only at e
 rw[show(⟨[c].toArray⟩:Str)=⟨#[c]⟩from rfl,e]
 exact q
theorem op_notinT:OpR X (compareOp .NotIn) (fun x y H Q=>∃c l,x=tx [c]/\y=tx l/\Q (.bl (!decide (c∈l))) H):=by
 intro pins s σ H x y v u Q I rx ry ⟨c,l,e1,e2,q⟩
 subst e1 e2
 refine op_notin_str pins s σ H _ _ v u Q I rx ry ⟨_,_,rfl,rfl,?_⟩
 have e:=PySem.StrLaws.found_one (⟨l.toArray⟩:Str) c
 simp only at e
 rw[show(⟨[c].toArray⟩:Str)=⟨#[c]⟩from rfl,e]
 exact q
theorem rep_fold(a:List Nat):∀ (n:Nat) (acc:Array Nat),((List.replicate n a.toArray).foldl (· ++ ·) acc)=(acc.toList++(List.replicate n a).flatten).toArray
 |0,acc=>by simp
 |n+1,acc=>by
  rw[List.replicate_succ,List.foldl_cons,rep_fold a n,List.replicate_succ,List.flatten_cons]
  simp
theorem op_mulT:OpR X (binaryOp .Mult) (fun x y H Q=>∃a k,x=tx a/\y= .int k/\0<=k/\k<=1000/\a.length<=1000/\Q (tx (List.replicate k.toNat a).flatten) H):=by
 intro pins s σ H x y v u Q I rx ry ⟨a,k,e1,e2,h0,h1,hl,q⟩
 subst e1 e2
 obtain⟨t,rfl⟩:=rx
 obtain⟨t',rfl⟩:=ry
 have e:Txt.mul ⟨a.toArray⟩ k=⟨((List.replicate k.toNat a).flatten).toArray⟩:=by
  unfold Txt.mul
  by_cases hk:k<1
  ·have:k=0:=by omega
   subst this
   rfl
  ·rw[if_neg hk]
   split
   ·rename_i hc
    rw[tx_len]at hc
    simp only[Bool.or_eq_true,beq_iff_eq]at hc
    rcases hc with hc|hc
    ·subst hc;simp
    ·have:a=[]:=List.length_eq_zero_iff.mp hc
     subst this
     simp
   ·simp only
    rw[rep_fold]
    simp
 refine SB.mul ⟨by simp;omega,fun h2 _=>?_,fun h2 _=>?_⟩ fun t2 tk=>⟨tx (List.replicate k.toNat a).flatten,H,I.tok tk,⟨t2,by rw[e]⟩,q⟩
 ·rw[tx_len]
  have:(1000:Int)<=(2^63-1)/k:=by
   refine Int.le_ediv_of_mul_le (by omega) ?_
   omega
  omega
 ·rw[tx_len]
  unfold Builtin.Str.tooLong
  have hs:sizeLine=16777216:=sizeLine_eq
  have:a.length*k.toNat<=1000*1000:=Nat.mul_le_mul hl (by omega)
  simp;omega
def cutL{α:Type}(xs:List α)(lo hi:Option Int):List α:=(xs.drop (HT.sIx xs.length 0 lo)).take (HT.sIx xs.length xs.length hi-HT.sIx xs.length 0 lo)
theorem clipS(v:Option Int)(n d:Nat)(hd:d<=n):(match v with|none=>(d:Int)|some i=>max 0 (min (if i<0 then i+(n:Int)else i) (n:Int)))=((HT.sIx n d v:Nat):Int):=by
 cases v with
 |none=>rfl
 |some i=>
  show max 0 (min (if i<0 then i+(n:Int)else i) (n:Int))=(((if i<0 then(i+(n:Int)).toNat else min i.toNat n):Nat):Int)
  by_cases hv:i<0
  ·simp only[if_pos hv];omega
  ·simp only[if_neg hv];omega
theorem idx_run(lo hi:Option Int)(n:Nat):Builtin.Str.strSliceIndices lo hi 1 n=(List.range (HT.sIx n n hi-HT.sIx n 0 lo)).map fun k=>HT.sIx n 0 lo+k:=by
 have h1:(1:Int)>0:=by omega
 have key:Builtin.Str.strSliceIndices lo hi 1 n=sliceRange ((HT.sIx n 0 lo:Nat):Int) ((HT.sIx n n hi:Nat):Int) 1:=by
  unfold Builtin.Str.strSliceIndices
  simp only[h1,if_true]
  congr 1
  ·cases lo with
   |none=>rfl
   |some i=>exact clipS (some i) n 0 (Nat.zero_le _)
  ·cases hi with
   |none=>rfl
   |some i=>exact clipS (some i) n n (Nat.le_refl _)
 rw[key]
 unfold sliceRange
 simp only[h1,if_true]
 have e3:(if((HT.sIx n 0 lo:Nat):Int)<((HT.sIx n n hi:Nat):Int)then(((HT.sIx n n hi:Nat):Int)-((HT.sIx n 0 lo:Nat):Int)+1-1)/1 else 0).toNat=HT.sIx n n hi-HT.sIx n 0 lo:=by
  split<;>omega
 rw[e3]
 refine List.map_congr_left fun k _=>?_
 omega
theorem pick_cut(a:List Nat)(i k:Nat):((List.range k).map fun m=>i+m).filterMap (fun j=>a.toArray[j]?)=(a.drop i).take k:=by
 rw[List.filterMap_map]
 induction k generalizing i with
 |zero=>simp
 |succ k ih=>
  rw[List.range_succ,List.filterMap_append,ih i,List.take_add_one]
  congr 1
  simp only[List.filterMap_cons,List.filterMap_nil,Function.comp]
  rw[List.getElem?_drop]
  simp only[List.getElem?_toArray]
  cases a[i+k]? <;>rfl
theorem cut_le{α:Type}(a:List α)(lo hi:Option Int):(cutL a lo hi).length<=a.length:=by
 unfold cutL;rw[List.length_take,List.length_drop];omega
def rSlS:V->Option Int->Option Int->Hp->VK->Prop:=fun x lo hi H Q=>∃a,x=tx a/\a.length<=sizeLine/\Q (tx (cutL a lo hi)) H
theorem sl_T:SlR X rSlS:=by
 intro pins s σ H x v vl vu lo hi sl Q I rx hs pl pu ⟨a,e,hz,q⟩
 subst e
 obtain⟨t,rfl⟩:=rx
 refine⟨"str",_,F.slot_str_getitem.lookup,typeIs_str _ _ _,?_⟩
 obtain⟨l,el,ml⟩:∃l:Option (Int×Tok),vl=partValue l/\l.map (·.1)=lo:=by
  cases pl with
  |none=>exact⟨none,rfl,rfl⟩
  |int i t=>exact⟨some (i,t),rfl,rfl⟩
 obtain⟨u,eu,mu⟩:∃u:Option (Int×Tok),vu=partValue u/\u.map (·.1)=hi:=by
  cases pu with
  |none=>exact⟨none,rfl,rfl⟩
  |int i t=>exact⟨some (i,t),rfl,rfl⟩
 subst el eu
 refine wpAny_getItem_str_slice (l:=l) (u:=u) (st:=none) hs rfl ?_
 have hle:=cut_le a lo hi
 have ep:slicePicked ⟨a.toArray⟩ l u none=(List.range (HT.sIx a.length a.length hi-HT.sIx a.length 0 lo)).map fun k=>HT.sIx a.length 0 lo+k:=by
  unfold slicePicked
  rw[ml,mu,tx_len]
  exact idx_run lo hi a.length
 have ec:((slicePicked ⟨a.toArray⟩ l u none).filterMap (a.toArray[·]?))=cutL a lo hi:=by
  rw[ep];exact pick_cut a _ _
 unfold sliceMade
 refine post_val_or_str ?_
 have fin:(if((Option.map (fun x=>x.1) (none:Option (Int×Tok))).getD 1==1&&(slicePicked ⟨a.toArray⟩ l u none).length==(⟨a.toArray⟩:Str).length)=true then(⟨a.toArray⟩:Str)else⟨((slicePicked ⟨a.toArray⟩ l u none).filterMap (a.toArray[·]?)).toArray⟩)=⟨(cutL a lo hi).toArray⟩:=by
  rw[ec]
  split
  ·rename_i hc
   rw[ep,tx_len]at hc
   simp only[Option.map_none,Option.getD_none,beq_self_eq_true,Bool.true_and,List.length_map,List.length_range,beq_iff_eq]at hc
   have hl:HT.sIx a.length a.length hi<=a.length:=HT.sIx_le _ _ (Nat.le_refl _) _
   have h0:HT.sIx a.length 0 lo=0\/a.length=0:=by omega
   unfold cutL
   rw[hc]
   rcases h0 with h0|h0
   ·rw[h0,List.drop_zero,List.take_length]
   ·have:a=[]:=List.length_eq_zero_iff.mp h0
    subst this
    simp
  ·rfl
 have fin':=fin
 simp only at fin'⊢
 rw[fin']
 refine⟨by rw[tx_len];omega,fun t' k=>⟨tx (cutL a lo hi),H,I.tok k,⟨t',rfl⟩,q⟩⟩
theorem call_isi:CallR X (.builtin "isinstance") (fun xs H Q=>∃x T t b,xs=[x, .ty T]/\TyOf X.K H x t/\PySem.W.kitOne X.K t (.type T)=some b/\Q (.bl b) H):=by
 intro pins s σ H xs us Q I r ⟨x,T,t,b,e,ty,hk,q⟩
 subst e
 obtain⟨u,w',rfl,ru,rw'⟩:=vals2 r
 cases rw'
 exact isinst_ok I ru ty hk fun tk=>⟨.bl b,H,I.tok tk,rfl,q⟩
theorem call_allL:CallR X (.builtin "all") (fun xs H Q=>X.calm=true/\∃ (a:Addr) (bs:List Bool),xs=[.ref a]/\SqL X.K H a (bs.map V.bl)/\Q (.bl (bs.all id)) H):=by
 intro pins s σ H xs us Q I r ⟨hc,a,bs,e,hq,q⟩
 subst e
 obtain⟨u,rfl,ru⟩:=vals1 r
 cases ru
 obtain⟨its,rv,pl,hz⟩:=I.list hq
 obtain⟨ol,hol,_⟩:=id pl.isList
 have hl:a<s.heap.objs.size:=Heap.lt_size hol
 have hlen:=rv.length
 rw[List.length_map]at hlen
 refine call_all_walk (wpAny_pyIter_list pl.isList ⟨s.heap.objs.size,_,_,_,_,_,fun i=>bs.getD i false,rfl,Walks.list (A:=X.A.in1) (I.ok.hd hc) s.heap.objs.size a (Nat.ne_of_lt hl) its.toArray,⟨⟨_,Heap.get?_push_size _ rfl,rfl,rfl⟩,pl.isList.at fun o e=>Heap.get?_push_of_some _ e⟩,?_,fun h' tk kk=>?_⟩)
 ·intro i v s' Q' E' hv hQ'
  have hv':its[i]? =some v:=by simpa using hv
  have hi:i<bs.length:=by rw[hlen];exact(List.getElem?_eq_some_iff.mp hv').1
  obtain⟨w',e1,e2⟩:=rv.get (i:=i) (x:=V.bl bs[i]) (by simp[hi])
  rw[hv']at e1
  cases e1
  cases e2
  have:bs.getD i false=bs[i]:=by simp[List.getD_eq_getElem?_getD,hi]
  simp only[this]at hQ'
  exact wpAny_truthy_bool hQ'
 ·have e:(List.range its.toArray.size).all (fun i=>bs.getD i false)=bs.all id:=by
   rw[List.size_toArray,<-hlen]
   rw[Bool.eq_iff_iff]
   simp only[List.all_eq_true,List.mem_range,id]
   constructor
   ·intro h b hb
    obtain⟨i,hi,rfl⟩:=List.mem_iff_getElem.mp hb
    have:=h i hi
    simpa[List.getD_eq_getElem?_getD,hi]using this
   ·intro h i hi
    have:=h bs[i] (List.getElem_mem hi)
    simpa[List.getD_eq_getElem?_getD,hi]using this
  rw[e]
  have I1:Inv X pins σ H {s with heap:=s.heap.push {cls:= .type "list_iterator",data:= .fields #[.ref a, .int 0 0]}}:=I.kept (t':=s.toks) fun b o z=>Heap.get?_push_of_some _ z
  refine⟨.bl (bs.all id),H,I.kept (t':=tk) fun b o z=>kk b o (fun y=>?_) (Heap.get?_push_of_some _ z),rfl,q⟩
  exact absurd (Heap.lt_size z) (by rw[List.mem_singleton.mp y];exact Nat.lt_irrefl _)
def eqVs:List V->List V->Bool
 |[],[]=>true
 |x::xs,y::ys=>eqV x y&&eqVs xs ys
 |_,_=>false
theorem eqVs_len:∀ {xs ys:List V},xs.length≠ys.length->eqVs xs ys=false
 |[],[],h=>absurd rfl h
 |[],_::_,_=>rfl
 |_::_,[],_=>rfl
 |x::xs,y::ys,h=>by
  have:eqVs xs ys=false:=eqVs_len (by simpa using h)
  show(eqV x y&&eqVs xs ys)=false
  rw[this,Bool.and_false]
theorem eqVs_range:∀ (xs ys:List V),xs.length=ys.length->(List.range xs.length).all (fun i=>eqV (xs.getD i .non) (ys.getD i .non))=eqVs xs ys
 |[],[],_=>rfl
 |x::xs,y::ys,h=>by
  have ih:=eqVs_range xs ys (by simpa using h)
  rw[List.length_cons,List.range_succ_eq_map,List.all_cons,List.all_map]
  show(eqV x y&&_)=(eqV x y&&eqVs xs ys)
  rw[<-ih]
  rfl
 |[],_::_,h=>by simp at h
 |_::_,[],h=>by simp at h
theorem eqVs_at{A:Around}{s:Shared}{xs ys:List V}{us ws:List Value}(r1:Vals xs us)(r2:Vals ys ws)(f1:xs.all flatV=true)(f2:ys.all flatV=true):
 ∀j (h1:j<us.toArray.size) (h2:j<ws.toArray.size),SeqAt.EqAt A s us.toArray[j] ws.toArray[j] (eqV (xs.getD j .non) (ys.getD j .non)):=by
 intro j h1 h2
 have l1:=r1.length
 have l2:=r2.length
 rw[List.size_toArray]at h1 h2
 have k1:j<xs.length:=by omega
 have k2:j<ys.length:=by omega
 obtain⟨u,e1,q1⟩:=r1.get (i:=j) (x:=xs[j]) (by simp[k1])
 obtain⟨w',e2,q2⟩:=r2.get (i:=j) (x:=ys[j]) (by simp[k2])
 have eu:us.toArray[j]=u:=by
  have:=List.getElem?_eq_getElem (l:=us) (i:=j) h1
  rw[e1]at this
  simpa using(Option.some.inj this).symm
 have ew:ws.toArray[j]=w':=by
  have:=List.getElem?_eq_getElem (l:=ws) (i:=j) h2
  rw[e2]at this
  simpa using(Option.some.inj this).symm
 rw[eu,ew]
 have g1:xs.getD j .non=xs[j]:=by simp[List.getD_eq_getElem?_getD,k1]
 have g2:ys.getD j .non=ys[j]:=by simp[List.getD_eq_getElem?_getD,k2]
 rw[g1,g2]
 exact eqAt_V q1 q2 (List.all_eq_true.mp f1 _ (List.getElem_mem k1)) (List.all_eq_true.mp f2 _ (List.getElem_mem k2))
def rEqL(K:PySem.W.Frag)(neg:Bool):R2:=fun x y H Q=>∃a b xs ys,x= .ref a/\y= .ref b/\SqL K H a xs/\SqL K H b ys/\xs.all flatV=true/\ys.all flatV=true/\Q (.bl (if neg then !eqVs xs ys else eqVs xs ys)) H
theorem op_eqL(hu:X.A.units<cLine):OpR X (compareOp .Eq) (rEqL X.K false):=by
 intro pins s σ H x y v u Q I rx ry ⟨a,b,xs,ys,e1,e2,q1,q2,f1,f2,q⟩
 subst e1 e2
 cases rx
 cases ry
 obtain⟨us,r1,p1,z1⟩:=I.list q1
 obtain⟨ws,r2,p2,z2⟩:=I.list q2
 have l1:=r1.length
 have l2:=r2.length
 by_cases hl:xs.length=ys.length
 ·refine SeqAt.eq_listAt p1.isList p2.isList (by simp;omega) hu (eqVs_at r1 r2 f1 f2) ⟨.bl _,H,I,rfl,?_⟩
  rw[List.size_toArray,<-l1,eqVs_range xs ys hl]
  exact q
 ·refine SeqAt.eq_list_lengthsAt p1.isList p2.isList (by simp;omega) hu ⟨.bl _,H,I,rfl,?_⟩
  rw[<-eqVs_len hl]
  exact q
theorem op_neL(hu:X.A.units<cLine):OpR X (compareOp .NotEq) (rEqL X.K true):=by
 intro pins s σ H x y v u Q I rx ry ⟨a,b,xs,ys,e1,e2,q1,q2,f1,f2,q⟩
 subst e1 e2
 cases rx
 cases ry
 obtain⟨us,r1,p1,z1⟩:=I.list q1
 obtain⟨ws,r2,p2,z2⟩:=I.list q2
 have l1:=r1.length
 have l2:=r2.length
 by_cases hl:xs.length=ys.length
 ·refine SeqAt.RcNeAt.lists p1.isList p2.isList (by simp;omega) hu (eqVs_at r1 r2 f1 f2) _ _ _ _ ⟨.bl _,H,I,rfl,?_⟩
  rw[List.size_toArray,<-l1,eqVs_range xs ys hl]
  exact q
 ·refine SeqAt.RcNeAt.lists_lengths p1.isList p2.isList (by simp;omega) hu _ _ _ _ ⟨.bl _,H,I,rfl,?_⟩
  have:eqVs xs ys=false:=eqVs_len hl
  rw[if_pos rfl,this]at q
  exact q
def litV:V->Bool
 | .non=>true
 | .bl _=>true
 |_=>false
theorem op_isB:OpR X (compareOp .Is) (fun x y H Q=>litV y=true/\Q (.bl (decide (x=y))) H):=by
 intro pins s σ H x y v u Q I rx ry ⟨hl,q⟩
 refine wpAny_is_plain ?_ ⟨.bl _,H,I,?_,q⟩
 ·cases y<;>first
   |(exact absurd hl Bool.false_ne_true)
   |(cases ry;cases x<;>first|(cases rx;rfl)|(obtain⟨t,rfl⟩:=rx;rfl))
 ·cases y<;>first
   |(exact absurd hl Bool.false_ne_true)
   |(cases ry;cases x<;>first|(cases rx;rfl)|(obtain⟨t,rfl⟩:=rx;rfl)|(cases rx;rename_i b1 _ b2;cases b1<;>cases b2<;>rfl)|(cases rx;rename_i b1 b2;cases b1<;>cases b2<;>rfl)|(cases rx;rename_i b1 _ b2 _;cases b1<;>cases b2<;>rfl))
def rPlus:R2:=fun x y H Q=>(∃i j,x= .int i/\y= .int j/\Q (.int (i+j)) H)\/(∃a b,x=tx a/\y=tx b/\a.length+b.length<=sizeLine/\Q (tx (a++b)) H)\/rCat x y H Q
theorem op_plus:OpR X (binaryOp .Add) rPlus:=op_add.or (op_addT.or op_cat)
def rMulT:R2:=fun x y H Q=>∃a k,x=tx a/\y= .int k/\0<=k/\k<=1000/\a.length<=1000/\Q (tx (List.replicate k.toNat a).flatten) H
def rTimes:R2:=fun x y H Q=>(∃i j,x= .int i/\y= .int j/\CMul i j/\Q (.int (i*j)) H)\/rRep x y H Q\/rMulT x y H Q
theorem op_times:OpR X (binaryOp .Mult) rTimes:=op_mul.or (op_rep.or op_mulT)
def rEqA(K:PySem.W.Frag):R2:=fun x y H Q=>rEq x y H Q\/rEqL K false x y H Q
theorem op_eqA(K:PySem.W.Frag)(hu:X.A.units<cLine)(hK:X.K=K:=by rfl):OpR X (compareOp .Eq) (rEqA K):=by subst hK;exact op_eq.or (op_eqL hu)
def rNeA(K:PySem.W.Frag):R2:=fun x y H Q=>rNe x y H Q\/rEqL K true x y H Q
theorem op_neA(K:PySem.W.Frag)(hu:X.A.units<cLine)(hK:X.K=K:=by rfl):OpR X (compareOp .NotEq) (rNeA K):=by subst hK;exact op_ne.or (op_neL hu)
def rInA(K:PySem.W.Frag):R2:=fun x y H Q=>(∃c l,x=tx [c]/\y=tx l/\Q (.bl (decide (c∈l))) H)\/rIn K false x y H Q
theorem op_inA(K:PySem.W.Frag)(hK:X.K=K:=by rfl):OpR X (compareOp .In) (rInA K):=by subst hK;exact op_inT.or op_in_seq
def rNotInA(K:PySem.W.Frag):R2:=fun x y H Q=>(∃c l,x=tx [c]/\y=tx l/\Q (.bl (!decide (c∈l))) H)\/rIn K true x y H Q
theorem op_notinA(K:PySem.W.Frag)(hK:X.K=K:=by rfl):OpR X (compareOp .NotIn) (rNotInA K):=by subst hK;exact op_notinT.or op_notIn_seq
def rIsA:R2:=fun x y H Q=>litV y=true/\Q (.bl (decide (x=y))) H
theorem op_isA:OpR X (compareOp .Is) rIsA:=op_isB
def rIxA(K:PySem.W.Frag):R2:=fun x y H Q=>rIxT' x y H Q\/rIxL K x y H Q\/rIxT K x y H Q
theorem ix_A(K:PySem.W.Frag)(hK:X.K=K:=by rfl):IxR X (rIxA K):=by subst hK;exact ix_T.or (ix_list.or ix_tup)
def rSlA(K:PySem.W.Frag):V->Option Int->Option Int->Hp->VK->Prop:=fun x lo hi H Q=>rSlS x lo hi H Q\/rSlL K x lo hi H Q
theorem sl_A(K:PySem.W.Frag)(hK:X.K=K:=by rfl):SlR X (rSlA K):=by subst hK;exact sl_T.or sl_list
def rLen(K:PySem.W.Frag):List V->Hp->VK->Prop:=fun xs H Q=>(∃a,xs=[tx a]/\a.length<=sizeLine/\Q (.int a.length) H)\/∃p ys,xs=[.ref p]/\(SqL K H p ys\/SqT K H p ys)/\Q (.int ys.length) H
theorem call_lenA(K:PySem.W.Frag)(hK:X.K=K:=by rfl):CallR X (.builtin "len") (rLen K):=by subst hK;exact call_lenT.or call_len_seq
def rAll(K:PySem.W.Frag):List V->Hp->VK->Prop:=fun xs H Q=>∃ (a:Addr) (bs:List Bool),xs=[.ref a]/\SqL K H a (bs.map V.bl)/\Q (.bl (bs.all id)) H
theorem call_allA(K:PySem.W.Frag)(hc:X.calm=true)(hK:X.K=K:=by rfl):CallR X (.builtin "all") (rAll K):=by subst hK;exact fun pins s σ H xs us Q I r h=>call_allL pins s σ H xs us Q I r ⟨hc,h⟩
def rIsi(K:PySem.W.Frag):List V->Hp->VK->Prop:=fun xs H Q=>∃x T t b,xs=[x, .ty T]/\TyOf K H x t/\PySem.W.kitOne K t (.type T)=some b/\Q (.bl b) H
theorem call_isiA(K:PySem.W.Frag)(hK:X.K=K:=by rfl):CallR X (.builtin "isinstance") (rIsi K):=by subst hK;exact call_isi
def rMax:List V->Hp->VK->Prop:=fun xs H Q=>∃i j,xs=[.int i, .int j]/\Q (.int (if j>i then j else i)) H
def rMin:List V->Hp->VK->Prop:=fun xs H Q=>∃i j,xs=[.int i, .int j]/\Q (.int (if j<i then j else i)) H
theorem call_maxA(hc:X.calm=true):CallR X (.builtin "max") rMax:=call_max2 hc
theorem call_minA(hc:X.calm=true):CallR X (.builtin "min") rMin:=call_min2 hc
def rInt:List V->Hp->VK->Prop:=fun xs H Q=>(∃i,xs=[.int i]/\Q (.int i) H)\/∃k,xs=[.bl k]/\Q (.int (if k then 1 else 0)) H
theorem call_intA:CallR X (.type "int") rInt:=call_int1
def tTru(K:PySem.W.Frag)(ta:TE):TT:=fun σ H Q=>ta σ H fun x H'=>∃k,TruV K x H' k/\Q k H'
theorem pt_tru(K:PySem.W.Frag){a:Expr}{ta:TE}(ha:PE X a ta)(he:∀whole,isTrue a X.env whole=(do let v<-whole;standAt a.pos;holding [v] (truthy v)):=by intro _;rfl)(hK:X.K=K:=by rfl):PT X a (tTru K ta):=by subst hK;exact pt_truth ha he
theorem pi_listK(K:PySem.W.Frag){tg l:Expr}{tl:TE}(hl:PE X l tl)(hK:X.K=K:=by rfl):PI X tg l (iList K tl):=by subst hK;exact pi_list hl
theorem pi_enumLK(K:PySem.W.Frag){a:Expr}{ta:TA}{p pos:Pos}{elts:List Expr}{k:Nat}{tpos:Pos}(hg:Gl X "enumerate")(hm:X.mg "enumerate"=none)(ha:PA X [a] ta)(hs:starEach [a] X.env=[(false,eval a X.env)]:=by rfl)(hK:X.K=K:=by rfl):PI X (.Tuple elts k tpos) (.Call (.Name "enumerate" p) [a] [] pos) (iEnL K ta):=by subst hK;exact pi_enumL hg hm ha hs
theorem pg_tupK(K:PySem.W.Frag){es:List Expr}{k:Nat}{t:TGs}{n:Nat}{pos:Pos}(hc:X.calm=true)(h:PGs X es t)
 (hn:(assignEach es X.env).length=n:=by rfl) (hst:(assignEach es X.env).findIdx? (·.1)=none:=by rfl) (hK:X.K=K:=by rfl):PG X (.Tuple es k pos) (gTup K n t):=by subst hK;exact pg_tup hc h hn hst
theorem pe_bm0K(K:PySem.W.Frag){o:Expr}{to:TE}{name:Str}{apos cpos:Pos}{T id:String}{r:V->List V->Hp->VK->Prop}(pa:PlainAttrs T)(slot:Slot T name id)(hty:typeOf (.builtin id)=pure (.type "method_descriptor"))(hm:MtR X id r)(ho:PE X o to)
 (hbase:attributeBase o name X.env (eval o X.env)=eval o X.env:=by rfl) (hline:(apos.endLine==cpos.line)=true:=by rfl) (hK:X.K=K:=by rfl):PE X (.Call (.Attribute o name apos) [] [] cpos) (tBM0 K T r to):=by subst hK;exact pe_bm0 pa slot hty hm ho hbase hline
theorem pe_bmK(K:PySem.W.Frag){o e:Expr}{es:List Expr}{to:TE}{t:TA}{name:Str}{apos cpos:Pos}{T id:String}{r:V->List V->Hp->VK->Prop}(pa:PlainAttrs T)(slot:Slot T name id)(hty:typeOf (.builtin id)=pure (.type "method_descriptor"))(hm:MtR X id r)(ho:PE X o to)(ha:PA X (e::es) t)
 (hbase:attributeBase o name X.env (eval o X.env)=eval o X.env:=by rfl)
 (hfew:((backTo cpos (starEach (e::es) X.env)).all (fun x=> !x.1)&&(backToKw cpos (keywordEach [] X.env)).all (fun x=>x.1.isSome)
   &&decide ((e::es).length+([]:List Keyword).length+(if([]:List Keyword).isEmpty then 0 else 1)<30))=true:=by rfl)
 (hline:(apos.endLine==cpos.line)=true:=by rfl) (hs:starEach (e::es) X.env=(false,eval e X.env)::starEach es X.env:=by rfl) (hplain:(backTo cpos (starEach es X.env)).any (·.1)=false:=by rfl) (hK:X.K=K:=by rfl):
 PE X (.Call (.Attribute o name apos) (e::es) [] cpos) (tBM K T r to t):=by subst hK;exact pe_bm pa slot hty hm ho ha hbase hfew hline hs hplain
theorem pe_gl{x:Str}{v:V}{pos:Pos}(h:∃u,X.mg x=some u/\RelV v u)(hg:Gl X x:=by rfl)(hd:(x==("__debug__":Str))=false:=by decide):PE X (.Name x pos) (tC v):=by
 obtain⟨u,hm,r⟩:=h
 exact pe_glob hg hm r hd
theorem pe_ty{x:Str}{T:String}{pos:Pos}(hm:X.mg x=none)(hv:bootBuiltins x=some (.type T))(hg:Gl X x:=by rfl)(hn:x≠"__name__":=by decide)(hd:(x==("__debug__":Str))=false:=by decide):PE X (.Name x pos) (tC (.ty T)):=
 pe_bltn hg hm hv rfl hn hd
structure FnU (P:Program) (w:World) (K:PySem.W.Frag) (mg:Str->Option Value) (base:Heap) (k:Nat) (x:Str) (ps:List Str) (sp:Sp):Prop where
 ex:∃f fd,FnOk P w K mg base CX0 k f fd ps sp/\mg x=some (.ref f)/\PySem.W.keepIn K (.ref f)=true/\Binds K fd ps []
theorem FnU.mono{P:Program}{w:World}{K:PySem.W.Frag}{mg:Str->Option Value}{base:Heap}{j k:Nat}{x:Str}{ps:List Str}{sp:Sp}(U:FnU P w K mg base j x ps sp)(h:j<=k):FnU P w K mg base k x ps sp:=by
 obtain⟨f,fd,F,a,b,c⟩:=U.ex
 exact⟨f,fd,F.mono h,a,b,c⟩
theorem pe_fn{k:Nat}{x:Str}{ps:List Str}{sp:Sp}{e:Expr}{es:List Expr}{t:TA}{p pos:Pos}(U:FnU X.prog X.w X.K X.mg X.base k x ps sp)(hr:Room k X.A)(ha:PA X (e::es) t)(hg:Gl X x:=by rfl)
 (hdb:(x==("__debug__":Str))=false:=by decide) (he:starEach (e::es) X.env=(false,eval e X.env)::starEach es X.env:=by rfl) (hpl:(backTo pos (starEach es X.env)).any (·.1)=false:=by rfl):
 PE X (.Call (.Name x p) (e::es) [] pos) (tCall sp [] E0 t):=by
 obtain⟨f,fd,F,hm,hk,hb⟩:=U.ex
 exact pe_call F hr hg hm hk hb .nil pass0 ha hdb he hpl
end
section
variable{σ:St}{H:Hp}{Q:VK}{D:Ends}{K:PySem.W.Frag}
theorem s_seq{t u:TS}(h:t {D with nx:=u D} σ H):tSeq t u D σ H:=h
theorem s_if{c:TT}{t u:TS}(h:c σ H fun b H1=>if b=true then t D σ H1 else u D σ H1):tIfS c t u D σ H:=h
theorem s_asg{te:TE}{g:TG}(h:te σ H fun x H1=>g x σ H1 D.nx):tAsg te g D σ H:=h
theorem s_aug{i:Nat}{te:TE}{ti:TIp}{x:V}(e:σ[i]? =some (some x))(h:te σ H fun y H1=>ti x y H1 fun z H2=>D.nx (σ.set i (some z)) H2):tAug i te ti D σ H:=⟨x,e,h⟩
theorem s_ipI{f:Int->Int->Int}{i j:Int}(h:Q (.int (f i j)) H):ipI f (.int i) (.int j) H Q:=⟨i,j,rfl,rfl,h⟩
theorem s_ret{te:TE}(h:te σ H D.rt):tRet te D σ H:=h
theorem s_drop{te:TE}(h:te σ H fun _ H1=>D.nx σ H1):tDrop te D σ H:=h
theorem s_next(h:D.nx σ H):tNext D σ H:=h
theorem s_cont(h:D.ct σ H):tCont D σ H:=h
theorem s_name{i:Nat}{v:V}{R:St->Hp->Prop}(h:R (σ.set i (some v)) H):gName i v σ H R:=h
theorem s_gnil{R:St->Hp->Prop}(h:R σ H):gNil [] σ H R:=⟨rfl,h⟩
theorem s_gcons{t:TG}{u:TGs}{v:V}{r:List V}{R:St->Hp->Prop}(h:t v σ H fun σ' H'=>u r σ' H' R):gCons t u (v::r) σ H R:=⟨v,r,rfl,h⟩
theorem s_gtup{n:Nat}{t:TGs}{a:Addr}{xs:List V}{R:St->Hp->Prop}(hq:SqT K H a xs)(hl:xs.length=n)(h:t xs σ H R):gTup K n t (.ref a) σ H R:=⟨a,xs,rfl,hq,hl,h⟩
theorem s_gsub{to ti:TE}{t:TSet}{v:V}{R:St->Hp->Prop}(h:to σ H fun o H1=>ti σ H1 fun i H2=>t o i v H2 fun H3=>R σ H3):gSub to ti t v σ H R:=h
theorem s_var{i:Nat}{v:V}(e:σ[i]? =some (some v))(q:Q v H):tVar i σ H Q:=⟨v,e,q⟩
theorem s_c{v:V}(q:Q v H):tC v σ H Q:=q
theorem s_op{r:R2}{ta tb:TE}(h:ta σ H fun x H1=>tb σ H1 fun y H2=>r x y H2 Q):tOp r ta tb σ H Q:=h
theorem s_un{r:V->Hp->VK->Prop}{ta:TE}(h:ta σ H fun x H1=>r x H1 Q):tUn r ta σ H Q:=h
theorem s_neg{i:Int}{g:Int->V}(h:Q (g i) H):rU g (.int i) H Q:=⟨i,rfl,h⟩
theorem s_call{sp:Sp}{dvs:List V}{E:XK}{t:TA}(h:t σ H fun vs H1=>sp (vs++dvs) H1 Q E):tCall sp dvs E t σ H Q:=h
theorem s_cons{ta:TE}{tr:TA}{R:List V->Hp->Prop}(h:ta σ H fun x H1=>tr σ H1 fun xs H2=>R (x::xs) H2):tCons ta tr σ H R:=h
theorem s_nil{R:List V->Hp->Prop}(h:R [] H):tNil σ H R:=h
theorem s_cb{r:List V->Hp->VK->Prop}{t:TA}(h:t σ H fun vs H1=>r vs H1 Q):tCB r t σ H Q:=h
theorem s_lst{t:TA}(h:t σ H fun xs H1=>xs.length<=sizeLine/\∀p,H1 p=none->Q (.ref p) (upd H1 p (.lst xs))):tLst t σ H Q:=h
theorem s_tup{t:TA}(h:t σ H fun xs H1=>xs.length<=sizeLine/\∀p,H1 p=none->Q (.ref p) (upd H1 p (.tup xs))):tTup t σ H Q:=h
theorem s_ifE{t:TT}{ta tb:TE}(h:t σ H fun c H1=>if c=true then ta σ H1 Q else tb σ H1 Q):tIf t ta tb σ H Q:=h
theorem s_or{t u:TT}{R:Bool->Hp->Prop}(h:t σ H fun c H1=>if c=true then R true H1 else u σ H1 R):tOr t u σ H R:=h
theorem s_not{t:TT}{R:Bool->Hp->Prop}(h:t σ H fun c H1=>R (!c) H1):tNot t σ H R:=h
theorem s_andV{ta tb:TE}(h:ta σ H fun x H1=>∃c,x= .bl c/\if c=true then tb σ H1 Q else Q (.bl false) H1):tAndV ta tb σ H Q:=h
theorem s_orV{ta tb:TE}(h:ta σ H fun x H1=>∃c,x= .bl c/\if c=true then Q (.bl true) H1 else tb σ H1 Q):tOrV ta tb σ H Q:=h
theorem s_notV{ta:TE}(h:ta σ H fun x H1=>∃c,x= .bl c/\Q (.bl (!c)) H1):tNotV ta σ H Q:=h
theorem s_test{t:TE}{R:Bool->Hp->Prop}(h:t σ H fun x H'=>∃k,x= .bl k/\R k H'):tTest t σ H R:=h
theorem s_tru{ta:TE}{R:Bool->Hp->Prop}(h:ta σ H fun x H'=>∃k,TruV K x H' k/\R k H'):tTru K ta σ H R:=h
theorem s_chain{r r':R2}{ta tb tc:TE}(h:ta σ H fun x H1=>tb σ H1 fun y H2=>r x y H2 fun z H3=>∃k,z= .bl k/\(if k=true then tc σ H3 fun w' H4=>r' y w' H4 Q else Q (.bl false) H3)):tChain r r' ta tb tc σ H Q:=h
theorem s_bl{c:Bool}{R:Bool->Prop}(h:R c):∃k,V.bl c=V.bl k/\R k:=⟨c,rfl,h⟩
theorem s_truB{c:Bool}{R:Bool->Prop}(h:R c):∃k,TruV K (.bl c) H k/\R k:=⟨c,rfl,h⟩
theorem s_truL{a:Addr}{xs:List V}{R:Bool->Prop}(hq:SqL K H a xs)(h:R (!xs.isEmpty)):∃k,TruV K (.ref a) H k/\R k:=⟨_, .inl ⟨xs,hq,rfl⟩,h⟩
theorem s_addI{i j:Int}(h:Q (.int (i+j)) H):rPlus (.int i) (.int j) H Q:= .inl ⟨i,j,rfl,rfl,h⟩
theorem s_addT{a b:List Nat}(hz:a.length+b.length<=sizeLine)(h:Q (tx (a++b)) H):rPlus (tx a) (tx b) H Q:= .inr (.inl ⟨a,b,rfl,rfl,hz,h⟩)
theorem s_addL{a b:Addr}{xs ys:List V}(h1:H a=some (.lst xs))(h2:H b=some (.lst ys))(hz:xs.length+ys.length<=sizeLine)(h:∀p,H p=none->Q (.ref p) (upd H p (.lst (xs++ys)))):rPlus (.ref a) (.ref b) H Q:= .inr (.inr ⟨a,b,xs,ys,rfl,rfl,h1,h2,hz,h⟩)
theorem s_subI{g:Int->Int->V}{i j:Int}(h:Q (g i j) H):rI0 g (.int i) (.int j) H Q:=⟨i,j,rfl,rfl,h⟩
theorem s_rI{C:Int->Int->Prop}{g:Int->Int->V}{i j:Int}(hc:C i j)(h:Q (g i j) H):rI C g (.int i) (.int j) H Q:=⟨i,j,rfl,rfl,hc,h⟩
theorem s_mulI{i j:Int}(hc:CMul i j)(h:Q (.int (i*j)) H):rTimes (.int i) (.int j) H Q:= .inl ⟨i,j,rfl,rfl,hc,h⟩
theorem s_rep{a:Addr}{k:Int}{xs:List V}(h1:H a=some (.lst xs))(h2: -(2^63)<=k)(h3:k<2^63)(hz:xs.length*k.toNat<=sizeLine)(h:∀p,H p=none->Q (.ref p) (upd H p (.lst (List.replicate k.toNat xs).flatten))):rTimes (.ref a) (.int k) H Q:= .inr (.inl ⟨a,k,xs,rfl,rfl,h1,h2,h3,hz,h⟩)
theorem s_mulT{a:List Nat}{k:Int}(h0:0<=k)(h1:k<=1000)(hl:a.length<=1000)(h:Q (tx (List.replicate k.toNat a).flatten) H):rTimes (tx a) (.int k) H Q:= .inr (.inr ⟨a,k,rfl,rfl,h0,h1,hl,h⟩)
theorem s_eqS{x y:V}(hs:scal x y=true)(h:Q (.bl (decide (x=y))) H):rEqA K x y H Q:= .inl ⟨hs,h⟩
theorem s_eqI{i j:Int}(h:Q (.bl (decide (i=j))) H):rEqA K (.int i) (.int j) H Q:= .inl ⟨rfl,by rw[show decide (V.int i=V.int j)=decide (i=j)from by rw[dec_int];exact(Bool.beq_eq_decide_eq i j)];exact h⟩
theorem s_eqT{a b:List Nat}(h:Q (.bl (decide (a=b))) H):rEqA K (tx a) (tx b) H Q:= .inl ⟨rfl,by rw[dec_tx];exact h⟩
theorem s_eqL{a b:Addr}{xs ys:List V}(h1:SqL K H a xs)(h2:SqL K H b ys)(f1:xs.all flatV=true)(f2:ys.all flatV=true)(h:Q (.bl (eqVs xs ys)) H):rEqA K (.ref a) (.ref b) H Q:= .inr ⟨a,b,xs,ys,rfl,rfl,h1,h2,f1,f2,h⟩
theorem s_neI{i j:Int}(h:Q (.bl (!decide (i=j))) H):rNeA K (.int i) (.int j) H Q:= .inl ⟨rfl,by rw[show decide (V.int i=V.int j)=decide (i=j)from by rw[dec_int];exact(Bool.beq_eq_decide_eq i j)];exact h⟩
theorem s_neB{i j:Bool}(h:Q (.bl (!decide (i=j))) H):rNeA K (.bl i) (.bl j) H Q:= .inl ⟨rfl,by rw[show decide (V.bl i=V.bl j)=decide (i=j)from by rw[dec_bl];exact(Bool.beq_eq_decide_eq i j)];exact h⟩
theorem s_neT{a b:List Nat}(h:Q (.bl (!decide (a=b))) H):rNeA K (tx a) (tx b) H Q:= .inl ⟨rfl,by rw[dec_tx];exact h⟩
theorem s_neL{a b:Addr}{xs ys:List V}(h1:SqL K H a xs)(h2:SqL K H b ys)(f1:xs.all flatV=true)(f2:ys.all flatV=true)(h:Q (.bl (!eqVs xs ys)) H):rNeA K (.ref a) (.ref b) H Q:= .inr ⟨a,b,xs,ys,rfl,rfl,h1,h2,f1,f2,h⟩
theorem s_inT{c:Nat}{l:List Nat}(h:Q (.bl (decide (c∈l))) H):rInA K (tx [c]) (tx l) H Q:= .inl ⟨c,l,rfl,rfl,h⟩
theorem s_notinT{c:Nat}{l:List Nat}(h:Q (.bl (!decide (c∈l))) H):rNotInA K (tx [c]) (tx l) H Q:= .inl ⟨c,l,rfl,rfl,h⟩
theorem s_notinS{x:V}{a:Addr}{xs:List V}(h1:SqL K H a xs\/SqT K H a xs)(f1:flatV x=true)(f2:xs.all flatV=true)(h:Q (.bl (!inV x xs)) H):rNotInA K x (.ref a) H Q:= .inr ⟨a,xs,rfl,h1,f1,f2,h⟩
theorem s_is{x y:V}(hl:litV y=true)(h:Q (.bl (decide (x=y))) H):rIsA x y H Q:=⟨hl,h⟩
theorem s_ixT{a:List Nat}{i:Int}{c:Nat}(hz:a.length<=sizeLine)(he:atI a i=some c)(h:Q (tx [c]) H):rIxA K (tx a) (.int i) H Q:= .inl ⟨a,i,c,rfl,rfl,hz,he,h⟩
theorem s_ixL{p:Addr}{xs:List V}{i:Int}{v:V}(hq:SqL K H p xs)(he:atI xs i=some v)(h:Q v H):rIxA K (.ref p) (.int i) H Q:= .inr (.inl ⟨p,xs,i,v,rfl,rfl,hq,he,h⟩)
theorem s_ixU{p:Addr}{xs:List V}{i:Int}{v:V}(hq:SqT K H p xs)(he:atI xs i=some v)(h:Q v H):rIxA K (.ref p) (.int i) H Q:= .inr (.inr ⟨p,xs,i,v,rfl,rfl,hq,he,h⟩)
theorem s_sl{r:V->Option Int->Option Int->Hp->VK->Prop}{te:TE}{tl th:TO}(h:te σ H fun x H1=>tl σ H1 fun l H2=>th σ H2 fun u H3=>r x l u H3 Q):tSl r te tl th σ H Q:=h
theorem s_nopart{R:Option Int->Hp->Prop}(h:R none H):tNoPart σ H R:=h
theorem s_part{t:TE}{R:Option Int->Hp->Prop}(h:t σ H fun x H1=>∃i,x= .int i/\R (some i) H1):tPart t σ H R:=h
theorem s_partI{i:Int}{R:Int->Prop}(h:R i):∃j,V.int i=V.int j/\R j:=⟨i,rfl,h⟩
theorem s_slT{a:List Nat}{lo hi:Option Int}(hz:a.length<=sizeLine)(h:Q (tx (cutL a lo hi)) H):rSlA K (tx a) lo hi H Q:= .inl ⟨a,rfl,hz,h⟩
theorem s_lenT{a:List Nat}(hz:a.length<=sizeLine)(h:Q (.int a.length) H):rLen K [tx a] H Q:= .inl ⟨a,rfl,hz,h⟩
theorem s_lenL{p:Addr}{ys:List V}(hq:SqL K H p ys\/SqT K H p ys)(h:Q (.int ys.length) H):rLen K [.ref p] H Q:= .inr ⟨p,ys,rfl,hq,h⟩
theorem s_all{a:Addr}{bs:List Bool}(hq:SqL K H a (bs.map V.bl))(h:Q (.bl (bs.all id)) H):rAll K [.ref a] H Q:=⟨a,bs,rfl,hq,h⟩
theorem s_isi{x:V}{T:String}{t:Value}{b:Bool}(ty:TyOf K H x t)(e:PySem.W.kitOne K t (.type T)=some b)(h:Q (.bl b) H):rIsi K [x, .ty T] H Q:=⟨x,T,t,b,rfl,ty,e,h⟩
theorem s_max{i j:Int}(h:Q (.int (if j>i then j else i)) H):rMax [.int i, .int j] H Q:=⟨i,j,rfl,h⟩
theorem s_min{i j:Int}(h:Q (.int (if j<i then j else i)) H):rMin [.int i, .int j] H Q:=⟨i,j,rfl,h⟩
theorem s_intB{k:Bool}(h:Q (.int (if k then 1 else 0)) H):rInt [.bl k] H Q:= .inr ⟨k,rfl,h⟩
theorem s_bm{T:String}{r:V->List V->Hp->VK->Prop}{to:TE}{t:TA}(h:to σ H fun x H1=>tyV K T x H1/\t σ H1 fun xs H2=>r x xs H2 Q):tBM K T r to t σ H Q:=h
theorem s_bm0{T:String}{r:V->List V->Hp->VK->Prop}{to:TE}(h:to σ H fun x H1=>tyV K T x H1/\r x [] H1 Q):tBM0 K T r to σ H Q:=h
end
section
variable{g:TG}{tb:TS}{D:Ends}{σ:St}{H:Hp}
def ForW(J:It)(g:TG)(tb:TS)(D:Ends)(σ:St)(H:Hp):Prop:=∃W:Nat->Nat->St->Hp->Prop,(∃m,W 0 m σ H)/\∀i m σ H,W i m σ H->
 (J.stop i H/\D.nx σ H)\/(J.go i H/\∃N:St->Hp->Prop,(∀σ' H',N σ' H'->∃m',m'<m/\W (i+1) m' σ' H')/\∀x H',J.yld i H x H'->g x σ H' fun σ2 H2=>tb {D with nx:=N,ct:=N,bk:=D.nx} σ2 H2)
theorem s_for{wi:TI}(h:wi σ H fun J H1=>ForW J g tb D σ H1):tFor wi g tb D σ H:=h
theorem s_irng1{ta:TA}{R:It->Hp->Prop}(h:ta σ H fun vs H1=>∃j:Int,vs=[.int j]/\ -(2^62)<=j/\j<2^62/\R (Itr 0 j.toNat) H1):iRng1 ta σ H R:=h
theorem s_ilist{K:PySem.W.Frag}{tl:TE}{R:It->Hp->Prop}(h:tl σ H fun x H1=>∃a,x= .ref a/\(∃xs,SqL K H1 a xs)/\R (Itl K a) H1):iList K tl σ H R:=h
theorem s_istr{tl:TE}{R:It->Hp->Prop}(h:tl σ H fun x H1=>∃z,x= .str z/\R (Its z) H1):iStr tl σ H R:=h
theorem s_istrT{a:List Nat}{R:Str->Prop}(h:R ⟨a.toArray⟩):∃z,tx a= .str z/\R z:=⟨_,rfl,h⟩
theorem s_ienS{ta:TA}{R:It->Hp->Prop}(h:ta σ H fun vs H1=>∃z,vs=[.str z]/\R (IteS z) H1):iEnS ta σ H R:=h
theorem s_ienST{a:List Nat}{R:Str->Prop}(h:R ⟨a.toArray⟩):∃z,[tx a]=[.str z]/\R z:=⟨_,rfl,h⟩
theorem s_ienL{K:PySem.W.Frag}{ta:TA}{R:It->Hp->Prop}(h:ta σ H fun vs H1=>∃a,vs=[.ref a]/\(∃xs,SqL K H1 a xs)/\R (IteL K a) H1):iEnL K ta σ H R:=h
theorem for_rng{lo:Int}{n:Nat}(Pv:Nat->St->Hp->Prop)(h0:Pv 0 σ H)
 (hs:∀i σ H,i<n->Pv i σ H->g (.int (lo+i)) σ H fun σ2 H2=>tb {D with nx:=Pv (i+1),ct:=Pv (i+1),bk:=D.nx} σ2 H2) (hd:∀σ H,Pv n σ H->D.nx σ H):ForW (Itr lo n) g tb D σ H:=for_range Pv h0 hs hd
theorem for_lst{K:PySem.W.Frag}{a:Addr}{xs:List V}(Pv:Nat->St->Hp->Prop)(h0:Pv 0 σ H)(hl:∀i σ H,i<=xs.length->Pv i σ H->SqL K H a xs)
 (hs:∀i x σ H,xs[i]? =some x->Pv i σ H->g x σ H fun σ2 H2=>tb {D with nx:=Pv (i+1),ct:=Pv (i+1),bk:=D.nx} σ2 H2) (hd:∀σ H,Pv xs.length σ H->D.nx σ H):ForW (Itl K a) g tb D σ H:=for_list Pv h0 hl hs hd
theorem for_of{J:It}{n:Nat}(Pv:Nat->St->Hp->Prop)(h0:Pv 0 σ H)(hgo:∀i σ H,i<n->Pv i σ H->J.go i H)(hst:∀σ H,Pv n σ H->J.stop n H)
 (hs:∀i x σ H H',i<n->Pv i σ H->J.yld i H x H'->g x σ H' fun σ2 H2=>tb {D with nx:=Pv (i+1),ct:=Pv (i+1),bk:=D.nx} σ2 H2) (hd:∀σ H,Pv n σ H->D.nx σ H):ForW J g tb D σ H:=by
 refine⟨fun i m σ H=>m=n-i/\i<=n/\Pv i σ H,⟨n,by simp,Nat.zero_le _,h0⟩,?_⟩
 rintro i m σ H ⟨rfl,hi,p⟩
 by_cases hlt:i<n
 ·exact .inr ⟨hgo i σ H hlt p,Pv (i+1),fun σ' H' p'=>⟨n-(i+1),by omega,rfl,hlt,p'⟩,fun x H' y=>hs i x σ H H' hlt p y⟩
 ·have e:i=n:=by omega
  subst e
  exact .inl ⟨hst σ H p,hd σ H p⟩
theorem for_enS{a:List Nat}(Pv:Nat->St->Hp->Prop)(h0:Pv 0 σ H)
 (hs:∀i c σ H T,a[i]? =some c->H T=none->Pv i σ H->g (.ref T) σ (upd H T (.tup [.int i,tx [c]])) fun σ2 H2=>tb {D with nx:=Pv (i+1),ct:=Pv (i+1),bk:=D.nx} σ2 H2) (hd:∀σ H,Pv a.length σ H->D.nx σ H):ForW (IteS ⟨a.toArray⟩) g tb D σ H:=by
 refine for_of (n:=a.length) Pv h0 (fun i σ H hi _=>by simpa[IteS]using hi) (fun σ H _=>by simp[IteS]) (fun i x σ H H' hi p y=>?_) hd
 obtain⟨T,c,hT,e,rfl,rfl⟩:=y
 exact hs i c σ H T (by simpa using e) hT p
theorem for_enL{K:PySem.W.Frag}{a:Addr}{xs:List V}(Pv:Nat->St->Hp->Prop)(h0:Pv 0 σ H)(hl:∀i σ H,i<=xs.length->Pv i σ H->SqL K H a xs)
 (hs:∀i x σ H T,xs[i]? =some x->H T=none->Pv i σ H->g (.ref T) σ (upd H T (.tup [.int i,x])) fun σ2 H2=>tb {D with nx:=Pv (i+1),ct:=Pv (i+1),bk:=D.nx} σ2 H2) (hd:∀σ H,Pv xs.length σ H->D.nx σ H):ForW (IteL K a) g tb D σ H:=by
 refine for_of (n:=xs.length) Pv h0 (fun i σ H hi p=>⟨xs,xs[i],hl i σ H (Nat.le_of_lt hi) p,by simp[hi]⟩) (fun σ H p=>⟨xs,hl _ σ H (Nat.le_refl _) p,rfl⟩) (fun i x σ H H' hi p y=>?_) hd
 obtain⟨T,z,hT,e,rfl,rfl⟩:=y
 exact hs i z σ H T (e xs (hl i σ H (Nat.le_of_lt hi) p)) hT p
def CW(D:Addr)(n:Nat)(Pv:Nat->List V->Hp->Prop)(i m:Nat)(H:Hp):Prop:=m=n-i/\i<=n/\∃ys,H D=some (.lst ys)/\ys.length<=i/\Pv i ys H
def CompW(J:It)(own:List Str)(sel:List Nat)(σ:St)(g:TG)(tt:TT)(te:TE)(Q:VK)(H1:Hp):Prop:=∀D,H1 D=none->
 ∃W:Nat->Nat->Hp->Prop,(∃m,W 0 m (upd H1 D (.lst [])))/\∀i m H2,W i m H2->
  (J.stop i H2/\Q (.ref D) H2)\/(J.go i H2/\∀x H3,J.yld i H2 x H3->g x (inSt own sel σ) H3 fun σ4 H4=>tt σ4 H4 fun b H5=>
    if b=true then te σ4 H5 fun v H6=>∃ys,H6 D=some (.lst ys)/\ys.length<sizeLine/\∃m',m'<m/\W (i+1) m' (upd H6 D (.lst (ys++[v])))
    else∃m',m'<m/\W (i+1) m' H5)
theorem s_comp{own:List Str}{sel:List Nat}{wi:TI}{tt:TT}{te:TE}{Q:VK}(h:wi σ H fun J H1=>CompW J own sel σ g tt te Q H1):tComp own sel wi g tt te σ H Q:=h
theorem comp_of{J:It}{n:Nat}{own:List Str}{sel:List Nat}{tt:TT}{te:TE}{Q:VK}{H1:Hp}(Pv:Addr->Nat->List V->Hp->Prop)(h0:∀D,H1 D=none->Pv D 0 [] (upd H1 D (.lst [])))
 (hgo:∀D i ys H,H1 D=none->i<n->H D=some (.lst ys)->Pv D i ys H->J.go i H) (hst:∀D ys H,H1 D=none->H D=some (.lst ys)->ys.length<=n->Pv D n ys H->J.stop n H/\Q (.ref D) H)
 (hs:∀D i ys H x H3,H1 D=none->i<n->H D=some (.lst ys)->ys.length<=i->Pv D i ys H->J.yld i H x H3->g x (inSt own sel σ) H3 fun σ4 H4=>tt σ4 H4 fun b H5=>
   if b=true then te σ4 H5 fun v H6=>∃ys,H6 D=some (.lst ys)/\ys.length<sizeLine/\∃m',m'<n-i/\CW D n (Pv D) (i+1) m' (upd H6 D (.lst (ys++[v])))
   else∃m',m'<n-i/\CW D n (Pv D) (i+1) m' H5):CompW J own sel σ g tt te Q H1:=by
 intro D hD
 refine⟨CW D n (Pv D),⟨n,by simp,Nat.zero_le _,[],upd_same,Nat.le_refl _,h0 D hD⟩,?_⟩
 rintro i m H2 ⟨rfl,hi,ys,hy,hl,p⟩
 by_cases hlt:i<n
 ·exact .inr ⟨hgo D i ys H2 hD hlt hy p,fun x H3 y=>hs D i ys H2 x H3 hD hlt hy hl p y⟩
 ·have e:i=n:=by omega
  subst e
  exact .inl (hst D ys H2 hD hy hl p)
theorem comp_next{D:Addr}{n i:Nat}{Pv:Nat->List V->Hp->Prop}{ys:List V}{v:V}{H:Hp}(hi:i<n)(hn:n<=sizeLine)(hD:H D=some (.lst ys))(hl:ys.length<=i)(p:Pv (i+1) (ys++[v]) (upd H D (.lst (ys++[v])))):
 ∃ys,H D=some (.lst ys)/\ys.length<sizeLine/\∃m',m'<n-i/\CW D n Pv (i+1) m' (upd H D (.lst (ys++[v]))):=
 ⟨ys,hD,by omega,n-(i+1),by omega,rfl,hi,ys++[v],upd_same,by simp;omega,p⟩
theorem comp_skip{D:Addr}{n i:Nat}{Pv:Nat->List V->Hp->Prop}{ys:List V}{H:Hp}(hi:i<n)(hD:H D=some (.lst ys))(hl:ys.length<=i)(p:Pv (i+1) ys H):
 ∃m',m'<n-i/\CW D n Pv (i+1) m' H:=⟨n-(i+1),by omega,rfl,hi,ys,hD,by omega,p⟩
theorem s_yes{R:Bool->Hp->Prop}(h:R true H):tYes σ H R:=h
end
theorem small{n:Nat}(h:n<=1000):n<=sizeLine:=Nat.le_of_lt (small1000 h)
theorem same_new{H:Hp}{p:Addr}(h:H p=none)(o:HO):Same H (upd H p o):=fun b u q=>by rw[upd_ne (ne_of_none q h)];exact q
def SameBut1(p:Addr)(H H':Hp):Prop:=∀b o,H b=some o->b≠p->H' b=some o
theorem SameBut1.refl(p:Addr)(H:Hp):SameBut1 p H H:=fun _ _ h _=>h
theorem SameBut1.trans{p:Addr}{H H1 H2:Hp}(a:SameBut1 p H H1)(b:SameBut1 p H1 H2):SameBut1 p H H2:=fun c o h n=>b c o (a c o h n) n
theorem SameBut1.of{p:Addr}{H H':Hp}(a:Same H H'):SameBut1 p H H':=fun c o h _=>a c o h
theorem SameBut1.upd{p:Addr}{H:Hp}{o:HO}:SameBut1 p H (upd H p o):=fun c u h n=>by rw[upd_ne n];exact h
def compOkB(osc:Scope)(N:List Str)(own:List Str)(sel:List Nat)(scope:Scope):Bool:=
 (scope.kind== .function)&&scope.names.all (fun y=>y.2 != .cell)&&scope.names.all (fun y=>y.2 != .local||scope.names.lookup y.1==some .local)&&
 scope.names.all (fun y=>y.2 != .free||osc.names.lookup y.1==some .cell||osc.names.lookup y.1==some .free)&&
 sel.all (fun j=>decide (j<N.length)&&scope.names.lookup (N.getD j Str.empty)==some .free&&(osc.names.lookup (N.getD j Str.empty)==some .cell||osc.names.lookup (N.getD j Str.empty)==some .free))
theorem compOk_of{osc:Scope}{N:List Str}{own:List Str}{sel:List Nat}{scope:Scope}(h:compOkB osc N own sel scope=true):CompOk osc N own sel scope:=by
 unfold compOkB at h
 simp only[Bool.and_eq_true,List.all_eq_true]at h
 obtain⟨⟨⟨⟨h1,h2⟩,h3⟩,h4⟩,h5⟩:=h
 refine⟨by simpa using h1,fun y hy=>by simpa using h2 y hy,fun y hy e=>?_,fun y hy e=>?_,fun j hj=>?_⟩
 ·have:=h3 y hy
  simp only[Bool.or_eq_true,bne_iff_ne,beq_iff_eq]at this
  rcases this with q|q
  ·exact absurd e q
  ·exact q
 ·have:=h4 y hy
  simp only[Bool.or_eq_true,bne_iff_ne,beq_iff_eq]at this
  rcases this with(q|q)|q
  ·exact absurd e q
  ·exact .inl q
  ·exact .inr q
 ·have:=h5 j hj
  simp only[Bool.or_eq_true,beq_iff_eq,decide_eq_true_eq]at this
  exact⟨this.1.1,this.1.2,this.2⟩
structure DefAt (K:PySem.W.Frag) (mg:Str->Option Value) (x:Str) (st:Stmt) (ps:List Str) (f:Addr) (fd:FuncData):Prop where
 F:Fun K x x st f fd
 m:mg x=some (.ref f)
 b:Binds K fd ps []
theorem DefAt.fnU{P:Program}{w:World}{K:PySem.W.Frag}{mg:Str->Option Value}{base:Heap}{x:Str}{st:Stmt}{ps:List Str}{f:Addr}{fd:FuncData}{k:Nat}{sp:Sp}(d:DefAt K mg x st ps f fd)(ok:FnOk P w K mg base CX0 k f fd ps sp):FnU P w K mg base k x ps sp:=
 ⟨f,fd,ok,d.m,d.F.kp,d.b⟩
def PoolAt(H:Hp)(p:Addr)(n:Nat):Prop:=∃a b c:Int,H p=some (.lst [.int a, .int b, .int c])/\0<=c/\c<=n
theorem PoolAt.mono{H:Hp}{p:Addr}{n m:Nat}(h:PoolAt H p n)(hm:n<=m):PoolAt H p m:=by
 obtain⟨a,b,c,e,h1,h2⟩:=h
 exact⟨a,b,c,e,h1,by omega⟩
theorem PoolAt.same{H H':Hp}{p:Addr}{n:Nat}(h:PoolAt H p n)(s:Same H H'):PoolAt H' p n:=by
 obtain⟨a,b,c,e,h1,h2⟩:=h
 exact⟨a,b,c,s _ _ e,h1,h2⟩
theorem PoolAt.ne{H:Hp}{p q:Addr}{n:Nat}(h:PoolAt H p n)(hq:H q=none):q≠p:=by
 obtain⟨a,b,c,e,_⟩:=h
 exact(ne_of_none e hq).symm
def spTake:Sp:=fun vs H Q _=>∃p n m,vs=[.ref p, .int m]/\PoolAt H p n/\n<=1000000/\0<m/\m<=1000000/\∀r H',0<=r->r<m->PoolAt H' p (n+1)->SameBut1 p H H'->Q (.int r) H'
def spPool(K:PySem.W.Frag):Sp:=fun vs H Q _=>∃ (a:Addr) (ns:List Int) (k:Int),vs=[.ref a, .int k]/\SqL K H a (ns.map V.int)/\ns.length<=63/\0<=k/\k<=63/\∀p H',H p=none->Same H H'->PoolAt H' p 4599->Q (.ref p) H'
theorem atI_0{α:Type}(x:α)(r:List α):atI (x::r) 0=some x:=by simp[atI,ixN]
theorem s_setL{p:Addr}{xs:List V}{k:Int}{j:Nat}{v:V}{H:Hp}{R:Hp->Prop}(h:H p=some (.lst xs))(e:ixN xs.length k=some j)(q:R (upd H p (.lst (xs.set j v)))):rSetL (.ref p) (.int k) v H R:=⟨p,xs,k,j,rfl,rfl,h,e,q⟩
def WN(Pv:St->Hp->Prop)(μ:St->Hp->Nat)(m:Nat):St->Hp->Prop:=fun σ' H'=>Pv σ' H'/\μ σ' H'<m
theorem while_of{c:TT}{tb:TS}{D:Ends}{σ:St}{H:Hp}(Pv:St->Hp->Prop)(μ:St->Hp->Nat)(h0:Pv σ H)
 (hs:∀σ H,Pv σ H->c σ H fun b H1=>if b=true then∃N:St->Hp->Prop,(∀σ' H',N σ' H'->∃m',m'<μ σ H/\(m'=μ σ' H'/\Pv σ' H'))/\tb {D with nx:=N,ct:=N,bk:=D.nx} σ H1 else D.nx σ H1):tWhile c tb D σ H:=
 ⟨fun m σ H=>m=μ σ H/\Pv σ H,⟨_,rfl,h0⟩,fun m σ H ⟨e,p⟩=>by subst e;exact hs σ H p⟩
theorem wh_body{tb:TS}{D:Ends}{σ:St}{H1:Hp}{Pv:St->Hp->Prop}{μ:St->Hp->Nat}{m:Nat}(h:tb {D with nx:=WN Pv μ m,ct:=WN Pv μ m,bk:=D.nx} σ H1):
 ∃N:St->Hp->Prop,(∀σ' H',N σ' H'->∃m',m'<m/\(m'=μ σ' H'/\Pv σ' H'))/\tb {D with nx:=N,ct:=N,bk:=D.nx} σ H1:=
 ⟨WN Pv μ m,fun σ' H' ⟨p,l⟩=>⟨_,l,rfl,p⟩,h⟩
theorem or_tests{t u:TT}{σ:St}{H:Hp}{R:Bool->Hp->Prop}{c d:Bool}(ht:∀R:Bool->Hp->Prop,R c H->t σ H R)(hu:∀R:Bool->Hp->Prop,R d H->u σ H R)(h:R (c||d) H):tOr t u σ H R:=by
 refine ht _ ?_
 cases c with
 |true=>rw[if_pos rfl];exact h
 |false=>rw[if_neg Bool.false_ne_true];exact hu _ h
theorem and_tests{t u:TT}{σ:St}{H:Hp}{R:Bool->Hp->Prop}{c d:Bool}(ht:∀R:Bool->Hp->Prop,R c H->t σ H R)(hu:∀R:Bool->Hp->Prop,R d H->u σ H R)(h:R (c&&d) H):tAnd t u σ H R:=by
 refine ht _ ?_
 cases c with
 |true=>rw[if_pos rfl];exact hu _ h
 |false=>rw[if_neg Bool.false_ne_true];exact h
theorem rel_of_abs{u:Value}{x:V}(h:absV u=some x):RelV x u:=by
 cases u<;>first
  |(cases h;rfl)
  |(cases h;exact⟨_,rfl⟩)
  |(exact absurd h (by intro z;cases z))
def tupIs(its:Array Value)(xs:List V):Bool:=decide (its.toList.map absV=xs.map some)
theorem vals_of_abs:∀ {xs:List V} {us:List Value},us.map absV=xs.map some->Vals xs us
 |[],[],_=> .nil
 |x::xs,u::us,h=>by
  rw[List.map_cons,List.map_cons]at h
  injection h with h1 h2
  exact .cons (rel_of_abs h1) (vals_of_abs h2)
 |[],_::_,h=>by cases h
 |_::_,[],h=>by cases h
theorem tupIs_vals{its:Array Value}{xs:List V}(h:tupIs its xs=true):Vals xs its.toList:=vals_of_abs (of_decide_eq_true h)
theorem tupIs_size{its:Array Value}{xs:List V}(h:tupIs its xs=true)(hx:xs.length<=1000):its.size<=sizeLine:=by
 have e:=(tupIs_vals h).length
 have e2:its.toList.length=its.size:=by simp
 exact Nat.le_of_lt (small1000 (by omega))
theorem ifd{c A B:Prop}[Decidable c](h1:c->A)(h2:¬c->B):if decide c=true then A else B:=by
 by_cases h:c
 ·rw[if_pos (decide_eq_true h)];exact h1 h
 ·rw[if_neg (by rw[decide_eq_false h];exact Bool.false_ne_true)];exact h2 h
theorem ifn{c A B:Prop}[Decidable c](h1:¬c->A)(h2:c->B):if(!decide c)=true then A else B:=by
 by_cases h:c
 ·rw[if_neg (by rw[decide_eq_true h];exact Bool.false_ne_true)];exact h2 h
 ·rw[if_pos (by rw[decide_eq_false h];rfl)];exact h1 h
theorem ifp{c:Bool}{A B:Prop}(hc:c=true)(h:A):if c=true then A else B:=by rw[if_pos hc];exact h
theorem ifq{c:Bool}{A B:Prop}(hc:c=false)(h:B):if c=true then A else B:=by rw[if_neg (by rw[hc];exact Bool.false_ne_true)];exact h
theorem atI_ints{ns:List Int}{k:Int}(h0:0<=k)(h:k<(ns.length:Int)):∃v:Int,atI (ns.map V.int) k=some (.int v):=by
 have hk:k.toNat<ns.length:=by omega
 have ek:k=((k.toNat:Nat):Int):=by omega
 have q:atI (ns.map V.int) ((k.toNat:Nat):Int)=some (.int ns[k.toNat]):=atI_nat (by rw[List.getElem?_map,List.getElem?_eq_getElem hk];rfl)
 rw[<-ek]at q
 exact⟨_,q⟩
theorem pool_new{H:Hp}{p:Addr}{a b c:Int}{n:Nat}(h0:0<=c)(h:c<=n):PoolAt (upd H p (.lst [.int a, .int b, .int c])) p n:=⟨a,b,c,upd_same,h0,h⟩
end L2
namespace BrM
open L2
def opn:List Nat:=[40,91,123,60]
def cls:List Nat:=[41,93,125,62]
def clo(c:Nat):Nat:=if c=40 then 41 else if c=91 then 93 else if c=123 then 125 else 62
def stp(st:List Nat)(c:Nat):Option (List Nat):=
 if c∈opn then some (clo c::st)else match st with
  |d::r=>if c=d then some r else none
  |[]=>none
def run:List Nat->List Nat->Option (List Nat)
 |st,[]=>some st
 |st,c::r=>(stp st c).bind fun s=>run s r
theorem run_append(st a b:List Nat):run st (a++b)=(run st a).bind fun s=>run s b:=by
 induction a generalizing st with
 |nil=>rfl
 |cons c r ih=>
  show(stp st c).bind _=((stp st c).bind _).bind _
  cases stp st c with
  |none=>rfl
  |some s=>exact ih s
theorem run_snoc{st a s:List Nat}(h:run st a=some s)(c:Nat):run st (a++[c])=stp s c:=by
 rw[run_append,h]
 show(stp s c).bind (fun s=>some s)=stp s c
 cases stp s c<;>rfl
theorem stp_open{c:Nat}(h:c∈opn)(st:List Nat):stp st c=some (clo c::st):=by unfold stp;rw[if_pos h]
theorem stp_close{d:Nat}(h:d∉opn)(r:List Nat):stp (d::r) d=some r:=by unfold stp;rw[if_neg h];simp
def Rt(row:List Nat):Prop:=run [] row=some []
def kin(k:Int)(c:Nat):Prop:=c∈opn.take k.toNat\/c∈cls.take k.toNat
theorem opn_at{i:Int}{k:Int}(h0:0<=i)(h1:i<k)(hk:k<=4):∃c,atI [40,91,123,60] i=some c/\c∈opn/\c∈opn.take k.toNat/\atI [41,93,125,62] i=some (clo c)/\clo c∈cls.take k.toNat/\clo c∉opn:=by
 have:i=0\/i=1\/i=2\/i=3:=by omega
 have hk':k=1\/k=2\/k=3\/k=4:=by omega
 rcases hk' with rfl|rfl|rfl|rfl<;>rcases this with rfl|rfl|rfl|rfl<;>first
  |omega
  |exact⟨40,by decide⟩
  |exact⟨91,by decide⟩
  |exact⟨123,by decide⟩
  |exact⟨60,by decide⟩
theorem take_use{H:Hp}{p:PySem.Addr}{n:Nat}{m:Int}{Q:VK}{E:XK}(hp:PoolAt H p n)(hn:n<=1000000)(h0:0<m)(h1:m<=1000000)(q:∀r H',0<=r->r<m->PoolAt H' p (n+1)->SameBut1 p H H'->Q (.int r) H'):
 spTake ([.ref p, .int m]++[]) H Q E:=⟨p,n,m,rfl,hp,hn,h0,h1,q⟩
theorem at3{α:Type}(x y z:α){i:Int}(h0:0<=i)(h1:i<3):∃v,atI [x,y,z] i=some v/\(v=x\/v=y\/v=z):=by
 have:i=0\/i=1\/i=2:=by omega
 rcases this with rfl|rfl|rfl
 ·exact⟨x,rfl, .inl rfl⟩
 ·exact⟨y,rfl, .inr (.inl rfl)⟩
 ·exact⟨z,rfl, .inr (.inr rfl)⟩
theorem at4b(x y z u:Bool){i:Int}(h0:0<=i)(h1:i<4):∃b,atI [V.bl x,V.bl y,V.bl z,V.bl u] i=some (.bl b):=by
 have:i=0\/i=1\/i=2\/i=3:=by omega
 rcases this with rfl|rfl|rfl|rfl
 ·exact⟨x,rfl⟩
 ·exact⟨y,rfl⟩
 ·exact⟨z,rfl⟩
 ·exact⟨u,rfl⟩
theorem cut_tail{α:Type}(c:α)(r:List α):cutL (c::r) (some 1) none=r:=by
 unfold cutL
 have e1:HT.sIx (c::r).length 0 (some 1)=1:=by
  show HT.sIx (r.length+1) 0 (some ((1:Nat):Int))=1
  rw[HT.sIx_nat];omega
 have e2:HT.sIx (c::r).length (c::r).length none=r.length+1:=rfl
 rw[e1,e2]
 simp
def spRightRow:Sp:=fun vs H Q _=>∃p n k most,vs=[.ref p, .int k, .int most]/\PoolAt H p n/\n<=900000/\1<=k/\k<=4/\0<=most/\most<=40/\
 ∀row H',Rt row->(row.length:Int)<=most->(∀c∈row,kin k c)->PoolAt H' p (n+200)->SameBut1 p H H'->Q (tx row) H'
theorem right_use{H:Hp}{p:PySem.Addr}{n:Nat}{k most:Int}{Q:VK}{E:XK}(hp:PoolAt H p n)(hn:n<=900000)(h1:1<=k)(h2:k<=4)(h3:0<=most)(h4:most<=40)
 (q:∀row H',Rt row->(row.length:Int)<=most->(∀c∈row,kin k c)->PoolAt H' p (n+200)->SameBut1 p H H'->Q (tx row) H'):spRightRow ([.ref p, .int k, .int most]++[]) H Q E:=⟨p,n,k,most,rfl,hp,hn,h1,h2,h3,h4,q⟩
def sg(c:Nat):Int:=if c∈opn then 1 else -1
def hg:List Nat->Int
 |[]=>0
 |c::r=>sg c+hg r
theorem hg_append(a b:List Nat):hg (a++b)=hg a+hg b:=by
 induction a with
 |nil=>simp[hg]
 |cons c r ih=>rw[List.cons_append,hg,hg,ih];omega
def ht(a:List Nat)(i:Nat):Int:=hg (a.take i)
theorem ht_zero(a:List Nat):ht a 0=0:=rfl
theorem ht_succ{a:List Nat}{i c:Nat}(h:a[i]? =some c):ht a (i+1)=ht a i+sg c:=by
 unfold ht
 rw[List.take_add_one,h,hg_append]
 show _=hg _+sg c
 simp[hg]
theorem stp_len{st s:List Nat}{c:Nat}(h:stp st c=some s):(s.length:Int)=st.length+sg c:=by
 unfold stp at h
 unfold sg
 by_cases hc:c∈opn
 ·rw[if_pos hc]at h⊢
  cases h
  simp
 ·rw[if_neg hc]at h⊢
  cases st with
  |nil=>cases h
  |cons d r=>
   simp only at h
   split at h
   ·cases h;simp;omega
   ·cases h
theorem run_len{st a s:List Nat}(h:run st a=some s):(s.length:Int)=st.length+hg a:=by
 induction a generalizing st with
 |nil=>cases h;simp[hg]
 |cons c r ih=>
  have h':(stp st c).bind (fun s=>run s r)=some s:=h
  cases e:stp st c with
  |none=>rw[e]at h';cases h'
  |some s1=>
   rw[e]at h'
   have:=ih h'
   have:=stp_len e
   rw[hg];omega
theorem run_take{a s:List Nat}(h:run [] a=some s)(i:Nat):∃st,run [] (a.take i)=some st:=by
 have e:a=a.take i++a.drop i:=(List.take_append_drop i a).symm
 rw[e,run_append]at h
 cases q:run [] (a.take i)with
 |none=>rw[q]at h;cases h
 |some st=>exact⟨st,rfl⟩
theorem ht_of{a st:List Nat}{i:Nat}(h:run [] (a.take i)=some st):ht a i=st.length:=by
 have:=run_len h
 unfold ht;simp at this;omega
theorem ht_nonneg{a:List Nat}(h:Rt a)(i:Nat):0<=ht a i:=by
 obtain⟨st,e⟩:=run_take h i
 rw[ht_of e];omega
theorem ht_end{a:List Nat}(h:Rt a):ht a a.length=0:=by
 have:run [] (a.take a.length)=some []:=by rw[List.take_length];exact h
 rw[ht_of this];rfl
def Pr(a:List Nat)(x y:Nat):Prop:=x<y/\y<a.length/\ht a (y+1)=ht a x/\∀m,x<m->m<=y->ht a x<ht a m
def IsPart(a:List Nat)(xs:List V):Prop:=xs.length=a.length/\∀k,k<a.length->∃p:Nat,xs[k]? =some (.int p)/\(Pr a k p\/Pr a p k)
theorem pr_fun{a:List Nat}{k p q:Nat}(h:Pr a k p)(h':Pr a k q):p=q:=by
 obtain⟨h1,h2,h3,h4⟩:=h
 obtain⟨g1,g2,g3,g4⟩:=h'
 rcases Nat.lt_trichotomy p q with z|z|z
 ·have:=g4 (p+1) (by omega) (by omega);omega
 ·exact z
 ·have:=h4 (q+1) (by omega) (by omega);omega
theorem pr_not{a:List Nat}{k p q:Nat}(h:Pr a k p)(h':Pr a q k):False:=by
 obtain⟨h1,h2,h3,h4⟩:=h
 obtain⟨g1,g2,g3,g4⟩:=h'
 have:=h4 (k+1) (by omega) (by omega)
 have:=g4 k g1 (by omega)
 omega
theorem pr_open{a:List Nat}{k p c:Nat}(h:Pr a k p)(hc:a[k]? =some c):c∈opn:=by
 obtain⟨h1,h2,h3,h4⟩:=h
 have h5:=h4 (k+1) (by omega) (by omega)
 rw[ht_succ hc]at h5
 unfold sg at h5
 split at h5
 ·assumption
 ·omega
theorem pr_close{a:List Nat}{k p c:Nat}(h:Pr a p k)(hc:a[k]? =some c):c∉opn:=by
 obtain⟨h1,h2,h3,h4⟩:=h
 have h5:=h4 k h1 (by omega)
 rw[ht_succ hc]at h3
 unfold sg at h3
 intro z
 rw[if_pos z]at h3
 omega
inductive WS (a:List Nat) (i:Nat):List Nat->List Nat->Prop where
 |nil:WS a i [] []
 |cons {w c:Nat} {ws st:List Nat}:w<i->a[w]? =some c->c∈opn->ht a w=ws.length->(∀m,w<m->m<=i->ht a w<ht a m)->WS a i ws st->WS a i (w::ws) (clo c::st)
theorem WS.len{a ws st:List Nat}{i:Nat}(h:WS a i ws st):ws.length=st.length:=by
 induction h with
 |nil=>rfl
 |cons _ _ _ _ _ _ ih=>simp[ih]
theorem WS.lt{a ws st:List Nat}{i:Nat}(h:WS a i ws st):∀w∈ws,w<i:=by
 induction h with
 |nil=>intro w z;cases z
 |cons h1 _ _ _ _ _ ih=>
  intro w z
  rcases List.mem_cons.mp z with rfl|z
  ·exact h1
  ·exact ih w z
theorem WS.ext{a ws st:List Nat}{i:Nat}(h:WS a i ws st)(hh:(ws.length:Int)<=ht a (i+1)):WS a (i+1) ws st:=by
 induction h with
 |nil=>exact .nil
 |cons h1 h2 h3 h4 h5 _ ih=>
  simp only[List.length_cons]at hh
  refine .cons (by omega) h2 h3 h4 (fun m hm1 hm2=>?_) (ih (by omega))
  by_cases e:m=i+1
  ·subst e;omega
  ·exact h5 m hm1 (by omega)
structure MI (a:List Nat) (i:Nat) (st ws:List Nat) (xs:List V):Prop where
 rn:run [] (a.take i)=some st
 wk:WS a i ws st
 len:xs.length=a.length
 don:∀k,k<i->k∈ws\/∃p:Nat,xs[k]? =some (.int p)/\(Pr a k p\/Pr a p k)
theorem MI.start(a:List Nat){xs:List V}(h:xs.length=a.length):MI a 0 [] [] xs:=⟨rfl, .nil,h,fun k z=>by omega⟩
theorem run_next{a st:List Nat}{i c:Nat}(h:run [] (a.take i)=some st)(hc:a[i]? =some c):run [] (a.take (i+1))=stp st c:=by
 rw[List.take_add_one,hc]
 exact run_snoc h c
theorem MI.opens{a st ws:List Nat}{xs:List V}{i c:Nat}(m:MI a i st ws xs)(hc:a[i]? =some c)(ho:c∈opn):MI a (i+1) (clo c::st) (i::ws) xs:=by
 have e1:ht a (i+1)=ht a i+1:=by rw[ht_succ hc];unfold sg;rw[if_pos ho]
 have e2:=ht_of m.rn
 have e3:=m.wk.len
 refine⟨by rw[run_next m.rn hc,stp_open ho], .cons (by omega) hc ho (by omega) (fun k h1 h2=>?_) (m.wk.ext (by omega)),m.len,fun k hk=>?_⟩
 ·have:k=i+1:=by omega
  subst this;omega
 ·by_cases e:k=i
  ·subst e;exact .inl List.mem_cons_self
  ·rcases m.don k (by omega)with z|z
   ·exact .inl (List.mem_cons_of_mem _ z)
   ·exact .inr z
theorem MI.top{a st:List Nat}{w:Nat}{ws:List Nat}{xs:List V}{i:Nat}(m:MI a i st (w::ws) xs):∃c r,a[w]? =some c/\c∈opn/\st=clo c::r/\w<i:=by
 have h:=m.wk
 cases h with
 |cons h1 h2 h3 h4 h5 h6=>exact⟨_,_,h2,h3,rfl,h1⟩
theorem MI.closes{a r:List Nat}{w:Nat}{ws:List Nat}{xs:List V}{i c:Nat}(m:MI a i (c::r) (w::ws) xs)(hc:a[i]? =some c)(ho:c∉opn):MI a (i+1) r ws ((xs.set w (.int i)).set i (.int w)):=by
 have e1:ht a (i+1)=ht a i-1:=by rw[ht_succ hc];unfold sg;rw[if_neg ho];omega
 have e2:=ht_of m.rn
 have e3:=m.wk.len
 have hn:i<a.length:=(List.getElem?_eq_some_iff.mp hc).1
 have h:=m.wk
 cases h with
 |cons h1 h2 h3 h4 h5 h6=>
  simp only[List.length_cons]at e2 e3
  have hp:Pr a w i:=⟨h1,hn,by omega,h5⟩
  have hlen:=m.len
  refine⟨?_,h6.ext (by omega),by simp[m.len],fun k hk=>?_⟩
  ·rw[run_next m.rn hc]
   exact stp_close ho r
  ·by_cases ek:k=i
   ·subst ek
    exact .inr ⟨w,by simp[hlen,hn], .inr hp⟩
   ·by_cases ew:k=w
    ·subst ew
     refine .inr ⟨i,?_, .inl hp⟩
     rw[List.getElem?_set_ne (by omega),List.getElem?_set_self (by omega)]
    ·rcases m.don k (by omega)with z|⟨p,z,q⟩
     ·rcases List.mem_cons.mp z with z|z
      ·exact absurd z ew
      ·exact .inl z
     ·exact .inr ⟨p,by rw[List.getElem?_set_ne (by omega),List.getElem?_set_ne (by omega)];exact z,q⟩
theorem MI.fin{a:List Nat}{ws:List Nat}{xs:List V}(m:MI a a.length [] ws xs):IsPart a xs:=by
 have h:=m.wk
 cases h
 refine⟨m.len,fun k hk=>?_⟩
 rcases m.don k hk with z|z
 ·cases z
 ·exact z
theorem part_ex{a:List Nat}(h:Rt a):∃xs,IsPart a xs:=by
 have go:∀i,i<=a.length->∃st ws xs,MI a i st ws xs:=by
  intro i
  induction i with
  |zero=>intro _;exact⟨[],[],List.replicate a.length .non,MI.start a (by simp)⟩
  |succ i ih=>
   intro hi
   obtain⟨st,ws,xs,m⟩:=ih (by omega)
   have hc:a[i]? =some a[i]:=by simp
   by_cases ho:a[i]∈opn
   ·exact⟨_,_,_,m.opens hc ho⟩
   ·obtain⟨s',e⟩:=run_take h (i+1)
    rw[run_next m.rn hc]at e
    unfold stp at e
    rw[if_neg ho]at e
    cases st with
    |nil=>cases e
    |cons d r=>
     simp only at e
     split at e
     ·rename_i hd
      cases ws with
      |nil=>have:=m.wk.len;simp at this
      |cons w ws=>exact⟨_,_,_,MI.closes (c:=a[i]) (by rw[hd];exact m) hc ho⟩
     ·cases e
 obtain⟨st,ws,xs,m⟩:=go a.length (Nat.le_refl _)
 have e:st=[]:=by
  have:=m.rn
  rw[List.take_length]at this
  have h':run [] a=some []:=h
  rw[h']at this
  exact(Option.some.inj this).symm
 subst e
 exact⟨xs,m.fin⟩
theorem eqVs_refl:∀ {xs:List V},xs.all flatV=true->eqVs xs xs=true
 |[],_=>rfl
 |x::xs,h=>by
  rw[List.all_cons,Bool.and_eq_true]at h
  show(eqV x x&&eqVs xs xs)=true
  rw[eqVs_refl h.2,Bool.and_true]
  cases x<;>first|rfl|(exact absurd h.1 Bool.false_ne_true)|exact beq_self_eq_true _
end BrM
namespace BrM
open L2 PySem
def plainTy:List String:=["NoneType","bool","int","str","list","tuple","dict"]
def spWhole(K:PySem.W.Frag):Sp:=fun vs H Q _=>∃x T,vs=[x]/\TyOf K H x (.type T)/\T∈plainTy/\Q (.bl (decide (T="int"))) H
theorem whole_int{K:PySem.W.Frag}{H:Hp}{i:Int}{Q:VK}{E:XK}(q:Q (.bl true) H):spWhole K ([.int i]++[]) H Q E:=⟨.int i,"int",rfl, .int i,by decide,q⟩
def spKinds:Sp:=fun vs H Q _=>∃k,vs=[.int k]/\1<=k/\k<=4/\Q .non H
theorem kinds_use{H:Hp}{k:Int}{Q:VK}{E:XK}(h1:1<=k)(h2:k<=4)(q:Q .non H):spKinds ([.int k]++[]) H Q E:=⟨k,rfl,h1,h2,q⟩
def sgn(k:Int):List Nat:=opn.take k.toNat++cls.take k.toNat++[63]
def isRow(k:Int)(a:List Nat):Bool:=decide (a.length<=40)&&a.all fun c=>decide (c∈sgn k)
def spLine(K:PySem.W.Frag):Sp:=fun vs H Q _=>∃k x,vs=[.int k,x]/\1<=k/\k<=4/\
 ((∃a,x=tx a/\a.length<=1000/\∀H',Same H H'->Q (.bl (isRow k a)) H')\/(∃T,TyOf K H x (.type T)/\T∈plainTy/\T≠"str"/\Q (.bl false) H))
theorem line_use{K:PySem.W.Frag}{H:Hp}{k:Int}{a:List Nat}{Q:VK}{E:XK}(h1:1<=k)(h2:k<=4)(ha:a.length<=1000)(q:∀H',Same H H'->Q (.bl (isRow k a)) H'):spLine K ([.int k,tx a]++[]) H Q E:=⟨k,_,rfl,h1,h2, .inl ⟨a,rfl,ha,q⟩⟩
def spCheckLine:Sp:=fun vs H Q _=>∃k a,vs=[.int k,tx a]/\1<=k/\k<=4/\isRow k a=true/\∀H',Same H H'->Q .non H'
theorem checkLine_use{H:Hp}{k:Int}{a:List Nat}{Q:VK}{E:XK}(h1:1<=k)(h2:k<=4)(ha:isRow k a=true)(q:∀H',Same H H'->Q .non H'):spCheckLine ([.int k,tx a]++[]) H Q E:=⟨k,a,rfl,h1,h2,ha,q⟩
instance (a:List Nat):Decidable (Rt a):=by unfold Rt;infer_instance
def spMatched:Sp:=fun vs H Q _=>∃a,vs=[tx a]/\a.length<=40/\(Rt a->∀r xs H',H r=none->Same H H'->H' r=some (.lst xs)->IsPart a xs->Q (.ref r) H')/\(¬Rt a->∀H',Same H H'->Q .non H')
theorem matched_use{H:Hp}{a:List Nat}{Q:VK}{E:XK}(ha:a.length<=40)(q:Rt a->∀r xs H',H r=none->Same H H'->H' r=some (.lst xs)->IsPart a xs->Q (.ref r) H')(q':¬Rt a->∀H',Same H H'->Q .non H'):spMatched ([tx a]++[]) H Q E:=⟨a,rfl,ha,q,q'⟩
def spLaw(K:PySem.W.Frag):Sp:=fun vs H Q _=>∃ (a:Addr) (ns:List Int),vs=[.ref a]/\SqL K H a (ns.map V.int)/\ns.length<=63/\∀H',Q (.bl true) H'
theorem isRow_len{k:Int}{a:List Nat}(h:isRow k a=true):a.length<=40:=by
 unfold isRow at h
 simp only[Bool.and_eq_true,decide_eq_true_eq]at h
 exact h.1
theorem mem_take_mono{α:Type}{l:List α}{i j:Nat}(h:i<=j){x:α}(hx:x∈l.take i):x∈l.take j:=by
 have e:l.take i=(l.take j).take i:=by rw[List.take_take,Nat.min_eq_left h]
 rw[e]at hx
 exact List.mem_of_mem_take hx
theorem isRow_of{k kk:Int}{a:List Nat}(hk:kk<=k)(hl:a.length<=40)(h:∀c∈a,kin kk c):isRow k a=true:=by
 unfold isRow
 rw[Bool.and_eq_true]
 refine⟨decide_eq_true hl,?_⟩
 rw[List.all_eq_true]
 intro c hc
 refine decide_eq_true ?_
 unfold sgn
 have hn:kk.toNat<=k.toNat:=by omega
 rcases h c hc with z|z
 ·exact List.mem_append_left _ (List.mem_append_left _ (mem_take_mono hn z))
 ·exact List.mem_append_left _ (List.mem_append_right _ (mem_take_mono hn z))
theorem cut_to{α:Type}(xs:List α){k:Int}(h:0<=k):cutL xs none (some k)=xs.take k.toNat:=by
 unfold cutL
 obtain⟨n,rfl⟩:∃n:Nat,k=n:=⟨k.toNat,by omega⟩
 rw[HT.sIx_nat,HT.sIx_none,List.drop_zero,Nat.sub_zero,Int.toNat_natCast]
 rcases Nat.le_total n xs.length with z|z
 ·rw[Nat.min_eq_left z]
 ·rw[Nat.min_eq_right z,List.take_length,List.take_of_length_le z]
theorem kinds_in{c d:Nat}(ho:c∈opn):inV (tx [c,d]) [tx [40,41],tx [91,93],tx [123,125],tx [60,62]]=decide (d=clo c):=by
 have e:inV (tx [c,d]) [tx [40,41],tx [91,93],tx [123,125],tx [60,62]]=(decide ([40,41]=[c,d])||(decide ([91,93]=[c,d])||(decide ([123,125]=[c,d])||(decide ([60,62]=[c,d])||false)))):=by
  unfold inV
  simp only[List.any_cons,List.any_nil,eqV_tx]
 rw[e]
 have ho':c=40\/c=91\/c=123\/c=60:=by simpa[opn]using ho
 rcases ho' with rfl|rfl|rfl|rfl<;>simp[clo,eq_comm]
theorem flat1{α:Type}(x:α)(n:Nat):(List.replicate n [x]).flatten=List.replicate n x:=by
 induction n with
 |zero=>rfl
 |succ n ih=>rw[List.replicate_succ,List.flatten_cons,ih];rfl
theorem Same.but{H H1 H2:Hp}{p:Addr}(a:Same H H1)(b:SameBut1 p H1 H2)(h:H p=none):Same H H2:=fun c o z=>b c o (a c o z) (ne_of_none z h)
theorem SameBut1.at{H H1:Hp}{p b:Addr}{o:HO}(s:SameBut1 p H H1)(h:H b=some o)(n:b≠p):H1 b=some o:=s b o h n
def mx(a:List Nat):Nat->Int
 |0=>0
 |i+1=>if ht a (i+1)>mx a i then ht a (i+1)else mx a i
def deep(a:List Nat):Int:=mx a a.length
def piece(a:List Nat)(b e:Nat):List Nat:=cutL a (some (b:Int)) (some (e:Int))
def ct(a:List Nat):Nat->List (List Nat)×Nat
 |0=>([],0)
 |i+1=>if ht a (i+1)=0 then((ct a i).1++[piece a (ct a i).2 (i+1)],i+1)else ct a i
def pts(a:List Nat):List (List Nat):=(ct a a.length).1
theorem ct_run{a:List Nat}{s:Nat}:∀ {e:Nat},s<=e->(∀m,s<m->m<=e->ht a m≠0)->ct a e=ct a s
 |0,hs,_=>by
  have:s=0:=by omega
  subst this;rfl
 |e+1,hs,h=>by
  by_cases z:s=e+1
  ·subst z;rfl
  ·have:=ct_run (e:=e) (by omega) fun m a b=>h m a (by omega)
   rw[ct,if_neg (h (e+1) (by omega) (Nat.le_refl _)),this]
theorem ct_next{a:List Nat}{s e:Nat}(hp:Pr a s e)(h0:ht a s=0)(hb:(ct a s).2=s):ct a (e+1)=((ct a s).1++[piece a s (e+1)],e+1):=by
 obtain⟨h1,h2,h3,h4⟩:=hp
 have:ct a e=ct a s:=ct_run (by omega) fun m x y=>by have:=h4 m x y;omega
 rw[ct,if_pos (by omega),this,hb]
theorem ct_le(a:List Nat):∀i,(ct a i).1.length<=i
 |0=>by simp[ct]
 |i+1=>by
  have:=ct_le a i
  rw[ct];split
  ·simp;omega
  ·omega
theorem flat_txs(l:List (List Nat)):(l.map tx).all flatV=true:=by
 rw[List.all_map,List.all_eq_true];intro _ _;rfl
theorem part_sg{a:List Nat}{xs:List V}(h:IsPart a xs){i:Nat}(hi:i<a.length):∃p:Nat,xs[i]? =some (.int p)/\ht a (i+1)=ht a i+(if(p:Int)>(i:Int)then 1 else -1):=by
 obtain⟨p,e,r⟩:=h.2 i hi
 refine⟨p,e,?_⟩
 have hc:a[i]? =some a[i]:=by simp
 rw[ht_succ hc]
 rcases r with r|r
 ·have:=r.1
  rw[if_pos (by omega)]
  unfold sg
  rw[if_pos (pr_open r hc)]
 ·have:=r.1
  rw[if_neg (by omega)]
  unfold sg
  rw[if_neg (pr_close r hc)]
theorem stp_ext{s u:List Nat}{c:Nat}(v:List Nat)(h:stp s c=some u):stp (s++v) c=some (u++v):=by
 unfold stp at h⊢
 by_cases hc:c∈opn
 ·rw[if_pos hc]at h⊢
  cases h;rfl
 ·rw[if_neg hc]at h⊢
  cases s with
  |nil=>cases h
  |cons d r=>
   simp only[List.cons_append]at h⊢
   split at h
   ·rename_i hd;rw[if_pos hd];cases h;rfl
   ·cases h
theorem run_ext{s t:List Nat}(v:List Nat):∀ {M:List Nat},run s M=some t->run (s++v) M=some (t++v):=by
 intro M
 induction M generalizing s with
 |nil=>intro h;cases h;rfl
 |cons c r ih=>
  intro h
  have h':(stp s c).bind (fun s=>run s r)=some t:=h
  show(stp (s++v) c).bind (fun s=>run s r)=some (t++v)
  cases e:stp s c with
  |none=>rw[e]at h';cases h'
  |some u=>
   rw[e]at h'
   rw[stp_ext v e]
   exact ih h'
theorem run_right{M:List Nat}(h:Rt M)(st:List Nat):run st M=some st:=run_ext st h
theorem rt_cat{a b:List Nat}(h1:Rt a)(h2:Rt b):Rt (a++b):=by
 unfold Rt;rw[run_append,h1];exact h2
theorem rt_mid{A O B:List Nat}(h:Rt (A++B))(ho:Rt O):Rt (A++O++B):=by
 unfold Rt at h⊢
 rw[run_append]at h
 rw[run_append,run_append]
 cases e:run [] A with
 |none=>rw[e]at h;cases h
 |some st=>
  rw[e]at h
  show((run st O).bind fun s=>run s B)=some []
  rw[run_right ho]
  exact h
theorem rt_pair{o:Nat}{M:List Nat}(ho:o∈opn)(hcl:clo o∉opn)(h:Rt M):Rt ([o]++M++[clo o]):=by
 have:Rt ([o]++[clo o]):=by
  unfold Rt
  show(stp [] o).bind _=_
  rw[stp_open ho]
  show(stp [clo o] (clo o)).bind _=_
  rw[stp_close hcl];rfl
 exact rt_mid this h
theorem clo_not{o:Nat}(ho:o∈opn):clo o∉opn:=by
 have:o=40\/o=91\/o=123\/o=60:=by simpa[opn]using ho
 rcases this with rfl|rfl|rfl|rfl<;>decide
theorem run_frame{u:List Nat}:∀ {M p s':List Nat},run (p++u) M=some s'->(∀i,i<=M.length->0<=(p.length:Int)+hg (M.take i))->∃t,run p M=some t/\s'=t++u
 |[],p,s',h,_=>by cases h;exact⟨p,rfl,rfl⟩
 |c::r,p,s',h,hh=>by
  have h':(stp (p++u) c).bind (fun s=>run s r)=some s':=h
  by_cases hc:c∈opn
  ·rw[stp_open hc]at h'
   have h2:run ((clo c::p)++u) r=some s':=h'
   obtain⟨t,e1,e2⟩:=run_frame h2 fun i hi=>by
    have:=hh (i+1) (by simp;omega)
    rw[List.take_succ_cons,hg]at this
    unfold sg at this
    rw[if_pos hc]at this
    simp only[List.length_cons];omega
   refine⟨t,?_,e2⟩
   show(stp p c).bind _=_
   rw[stp_open hc];exact e1
  ·have h0:=hh 1 (by simp)
   rw[List.take_succ_cons,hg]at h0
   unfold sg at h0
   rw[if_neg hc]at h0
   simp only[List.take_zero,hg]at h0
   cases p with
   |nil=>simp at h0
   |cons d p=>
    unfold stp at h'
    rw[if_neg hc]at h'
    simp only[List.cons_append]at h'
    split at h'
    ·rename_i hd
     have h2:run (p++u) r=some s':=h'
     obtain⟨t,e1,e2⟩:=run_frame h2 fun i hi=>by
      have:=hh (i+1) (by simp;omega)
      rw[List.take_succ_cons,hg]at this
      unfold sg at this
      rw[if_neg hc]at this
      simp only[List.length_cons]at this;omega
     refine⟨t,?_,e2⟩
     show(stp (d::p) c).bind _=_
     rw[hd,stp_close (by rw[<-hd];exact hc)];exact e1
    ·cases h'
theorem ht_mid(A O B:List Nat){i:Nat}(hi:i<=O.length):ht (A++O++B) (A.length+i)=hg A+ht O i:=by
 unfold ht
 rw[List.append_assoc,List.take_append,List.take_of_length_le (by omega),show A.length+i-A.length=i by omega,hg_append,List.take_append,show i-O.length=0 by omega,List.take_zero,List.append_nil]
theorem pr_split{a:List Nat}(hR:Rt a){x y:Nat}(h:Pr a x y):∃A M B o,a=A++([o]++M++[clo o])++B/\A.length=x/\M.length=y-x-1/\o∈opn/\Rt M/\Rt (A++B):=by
 obtain⟨h1,h2,h3,h4⟩:=id h
 have hox:a[x]? =some (a[x]'(by omega)):=by simp
 have hoy:a[y]? =some a[y]:=by simp
 have ho:=pr_open h hox
 have hc:=pr_close h hoy
 obtain⟨st,e0⟩:=run_take hR x
 have e1:=run_next e0 hox
 rw[stp_open ho]at e1
 have eM:a.take y=a.take (x+1)++(a.drop (x+1)).take (y-x-1):=by
  rw[show y=(x+1)+(y-x-1) by omega,List.take_add]
  congr 2;omega
 obtain⟨sy,e2⟩:=run_take hR y
 have e3:=e2
 rw[eM,run_append,e1]at e3
 have e4:run ([clo (a[x]'(by omega))]++st) ((a.drop (x+1)).take (y-x-1))=some sy:=e3
 have hM:((a.drop (x+1)).take (y-x-1)).length=y-x-1:=by rw[List.length_take,List.length_drop];omega
 have htk:∀i,i<=y-x-1->ht a (x+1+i)=ht a (x+1)+hg (((a.drop (x+1)).take (y-x-1)).take i):=fun i hi=>by
  unfold ht
  rw[List.take_take,Nat.min_eq_left hi,List.take_add,hg_append]
 have hx1:ht a (x+1)=ht a x+1:=by rw[ht_succ hox];unfold sg;rw[if_pos ho]
 have e5:run ([]++(clo (a[x]'(by omega))::st)) ((a.drop (x+1)).take (y-x-1))=some sy:=e4
 obtain⟨t,f1,f2⟩:=run_frame (p:=[]) e5 fun i hi=>by
  rw[hM]at hi
  have:=htk i hi
  have:=h4 (x+1+i) (by omega) (by omega)
  simp;omega
 have hy1:ht a (y+1)=ht a y-1:=by rw[ht_succ hoy];unfold sg;rw[if_neg hc];omega
 have e6:=htk (y-x-1) (Nat.le_refl _)
 rw[show x+1+(y-x-1)=y by omega,List.take_of_length_le (by omega)]at e6
 have ht0:t=[]:=by
  have:=run_len f1
  have:(t.length:Int)=0:=by simp at this;omega
  exact List.length_eq_zero_iff.mp (by omega)
 subst ht0
 have e7:=run_next e2 hoy
 rw[f2]at e7
 obtain⟨s9,e9⟩:=run_take hR (y+1)
 rw[e7]at e9
 have hcy:a[y]=clo (a[x]'(by omega))/\s9=st:=by
  unfold stp at e9
  rw[if_neg hc]at e9
  simp only[List.nil_append]at e9
  split at e9
  ·rename_i hd;cases e9;exact⟨hd,rfl⟩
  ·cases e9
 refine⟨a.take x,(a.drop (x+1)).take (y-x-1),a.drop (y+1),a[x]'(by omega),?_,by rw[List.length_take];omega,hM,ho,f1,?_⟩
 ·have q1:a.take (y+1)=a.take x++([a[x]'(by omega)]++(a.drop (x+1)).take (y-x-1)++[clo (a[x]'(by omega))]):=by
   have q0:a.take (x+1)=a.take x++[a[x]'(by omega)]:=by rw[List.take_add_one,hox];rfl
   rw[List.take_add_one,hoy,eM,q0,<-hcy.1]
   simp only[Option.toList_some,List.append_assoc,List.cons_append,List.nil_append]
  rw[<-q1,List.take_append_drop]
 ·unfold Rt
  rw[run_append,e0]
  show run st (a.drop (y+1))=some []
  have hR':run [] a=some []:=hR
  rw[<-List.take_append_drop (y+1) a,run_append,e7]at hR'
  have e10:stp ([]++clo (a[x]'(by omega))::st) a[y]=some st:=by rw[e9,hcy.2]
  rw[e10]at hR'
  exact hR'
theorem isRow_mem{k:Int}{a:List Nat}(h:isRow k a=true):∀c∈a,c∈sgn k:=by
 unfold isRow at h
 simp only[Bool.and_eq_true,List.all_eq_true,decide_eq_true_eq]at h
 exact h.2
theorem cut_nn{α:Type}(xs:List α)(i j:Nat):cutL xs (some (i:Int)) (some (j:Int))=(xs.drop i).take (j-i):=by
 unfold cutL
 rw[HT.sIx_nat,HT.sIx_nat]
 rcases Nat.le_total i xs.length with h|h
 ·rw[Nat.min_eq_left h]
  rcases Nat.le_total j xs.length with g|g
  ·rw[Nat.min_eq_left g]
  ·rw[Nat.min_eq_right g,List.take_of_length_le (by rw[List.length_drop];omega),List.take_of_length_le (by rw[List.length_drop];omega)]
 ·rw[Nat.min_eq_right h,List.drop_of_length_le (Nat.le_refl _),List.drop_of_length_le h];simp
theorem cut_from{α:Type}(xs:List α)(i:Nat):cutL xs (some (i:Int)) none=xs.drop i:=by
 unfold cutL
 rw[HT.sIx_nat,HT.sIx_none]
 rcases Nat.le_total i xs.length with h|h
 ·rw[Nat.min_eq_left h,List.take_of_length_le (by rw[List.length_drop];omega)]
 ·rw[Nat.min_eq_right h,List.drop_of_length_le (Nat.le_refl _),List.drop_of_length_le h];simp
end BrM
namespace BrR
open PySem PySem.Spec PyProof.Rows
open PySem.Builtin
theorem slot_rev_init:Slot "reversed" "__init__" "object.__init__":=
 .of (owner:="object") (n:="__init__") (by rw[typeLookup_type,builtinLookup_eq_fast];kernel_rfl) (by decide +kernel) (by decide +kernel) (by decide +kernel) (by first|exact .inl (by decide +kernel)|exact .inr (by decide +kernel)) (by rw[isSubtype_type];kernel_rfl)
theorem slot_rev_next:Slot "reversed" "__next__" "reversed.__next__":=
 .of (owner:="reversed") (n:="__next__") (by rw[typeLookup_type,builtinLookup_eq_fast];kernel_rfl) (by decide +kernel) (by decide +kernel) (by decide +kernel) (by first|exact .inl (by decide +kernel)|exact .inr (by decide +kernel)) (by rw[isSubtype_type];kernel_rfl)
theorem slot_rev_iter:Slot "reversed" "__iter__" "reversed.__iter__":=
 .of (owner:="reversed") (n:="__iter__") (by rw[typeLookup_type,builtinLookup_eq_fast];kernel_rfl) (by decide +kernel) (by decide +kernel) (by decide +kernel) (by first|exact .inl (by decide +kernel)|exact .inr (by decide +kernel)) (by rw[isSubtype_type];kernel_rfl)
theorem called_rev:TypeCalled "reversed" "reversed.__new__" "object.__init__":=
 ⟨by decide +kernel,by decide +kernel,⟨_,_,F.mro_reversed⟩,F.made_reversed,by decide +kernel,by rw[isSubtype_type];kernel_rfl,slot_rev_init⟩
theorem entry_rev_next:entryFor table "reversed.__next__"=some Builtin.«reversed.__next__»:=entryFor_of_tree (by kernel_rfl)
theorem entry_rev_iter:entryFor table "reversed.__iter__"=some Builtin.«dict_keyiterator.__iter__»:=
 entryFor_alias (id':="dict_keyiterator.__iter__") (by kernel_rfl) (by first|rfl|decide +kernel|(unfold String.splitOn;simp +decide [String.splitOnAux])) (by decide +kernel) (by kernel_rfl)
theorem args_rev_next(a:Value):argsOk "reversed.__next__" ⟨[a],[]⟩:=by unfold argsOk;kernel_rfl
theorem args_rev_iter(a:Value):argsOk "reversed.__iter__" ⟨[a],[]⟩:=by unfold argsOk;kernel_rfl
theorem no_rev_str:typeLookup (.type "str") "__reversed__"=pure none:=by rw[typeLookup_type,builtinLookup_eq_fast];kernel_rfl
theorem str_not_dict:isSubtype (.type "str") (.type "dict")=pure false:=by rw[isSubtype_type];kernel_rfl
theorem meets_rev_new(x:Str)(t:Tok)(hx:x.length<=sizeLine):
 Meets (Builtin.«reversed.__new__» ⟨[.type "reversed", .str x t],[]⟩) (fun _ R s=>∀tk,R (.ok (.ret (.ref s.heap.objs.size))) {s with heap:=s.heap.push {cls:= .type "reversed",data:= .fields #[.str x t,rawInt ((x.length:Int)-1)]},toks:=tk}):=
 .of_wp fun prog w A R s h=>by
   have hl:=L2.line63
   unfold Builtin.«reversed.__new__»
   refine wpAny_bind (wpAny_of_eq (newClass_reversed _) ?_)
   try dsimp only
   refine wpAny_bind (wpAny_of_eq (a:=()) (by first|rfl|kernel_rfl) ?_)
   refine wpAny_bind (wpAny_of_eq (a:=()) (by first|rfl|kernel_rfl) ?_)
   try dsimp only
   refine wpAny_bind (wpAny_specialOf (typeIs_str _ _ _) no_rev_str ?_)
   try dsimp only
   refine wpAny_bind ?_
   show wpAny _ _ (isInstance (Value.str x t) (.type "dict")>>=_) _ _ _
   refine wpAny_bind (wpAny_isInstance (typeIs_str _ _ _) str_not_dict ?_)
   show wpAny _ _ (specialOf (Value.str x t) "__getitem__">>=_) _ _ _
   refine wpAny_bind (wpAny_specialOf (typeIs_str _ _ _) F.slot_str_getitem.lookup ?_)
   refine wpAny_pure ?_
   show wpAny _ _ (call (Value.builtin "len") [Value.str x t]>>=_) _ _ _
   refine wpAny_bind (PySem.P.len_str (by omega) ?_)
   refine wpAny_bind (wpAny_of_eq (a:=some (x.length:Int)) (by rfl) ?_)
   show wpAny _ _ (SmallTypes.newRecord (Value.type "reversed") [Value.str x t,rawInt ((x.length:Int)-1)]>>=_) _ _ _
   refine wpAny_bind ?_
   show wpAny _ _ (newObj (.type "reversed") (.fields [Value.str x t,rawInt ((x.length:Int)-1)].toArray)) _ _ _
   exact wpAny_newObj_type (wpAny_pure ⟨_,rfl,h _⟩)
end BrR
namespace BrR
open PySem PySem.Spec PyProof.Rows L2
open PySem.Builtin
def IsRevS(h:Heap)(a:Addr)(x:Str)(t:Tok)(i:Int):Prop:=∃o,h.get? a=some o/\o.cls= .type "reversed"/\o.data= .fields #[.str x t,rawInt i]
theorem IsRevS.typeIs{s:Shared}{a:Addr}{x:Str}{t:Tok}{i:Int}(y:IsRevS s.heap a x t i):s.TypeIs (.ref a) "reversed":=let⟨o,ho,hc,_⟩:=y;⟨o,ho,hc⟩
section
variable{prog:Program}{w:World}{A:Around}{E:Value->Shared->Prop}{s:Shared}
theorem call_revS{x:Str}{t:Tok}{Q:Value->Shared->Prop}(hx:x.length<=sizeLine)
 (h:∀tk,Q (.ref s.heap.objs.size) {s with heap:=s.heap.push {cls:= .type "reversed",data:= .fields #[.str x t,rawInt ((x.length:Int)-1)]},toks:=tk}):
 wpAny (model prog w) A (call (.type "reversed") [.str x t]) Q E s:=by
 refine callType_new called_rev (by decide) (F.typeCall_reversed_1 _) (F.newCall_reversed_1 _) (fun obj=>F.args_object_init_2 obj _) F.entry_reversed_new (meets_rev_new x t hx) fun tk=>?_
 exact⟨⟨_,Heap.get?_push_size _ rfl,rfl⟩,h tk⟩
theorem iter_revS{a:Addr}{x:Str}{t:Tok}{i:Int}{Q:Value->Shared->Prop}(y:IsRevS s.heap a x t i)(h:Q (.ref a) s):wpAny (model prog w) A (pyIter (.ref a)) Q E s:=by
 refine wpAny_pyIter_slot y.typeIs slot_rev_iter (wpAny_call_entry slot_rev_iter y.typeIs entry_rev_iter ?_ (args_rev_iter _))
 show wpAny _ _ (ret (.ref a)) _ _ s
 exact wpAny_pure ⟨_,rfl,"reversed",_,y.typeIs,slot_rev_next.lookup,h⟩
theorem next_revS{a:Addr}{x:Str}{t:Tok}{i c:Nat}{Q:Option Value->Shared->Prop}(y:IsRevS s.heap a x t (i:Int))(hc:x.cps[i]? =some c)(hx:x.length<=sizeLine)
 (hQ:∀h' tk u,IsRevS h' a x t ((i:Int)-1)->Heap.SameBut a s.heap h'->Q (some (.str ⟨#[c]⟩ u)) {s with heap:=h',toks:=tk}):wpAny (model prog w) A (pyNext (.ref a)) Q E s:=by
 obtain⟨o,ho,hcl,hd⟩:=id y
 have hl:=L2.line63
 have hi:i<x.cps.size:=(Array.getElem?_eq_some_iff.mp hc).1
 have hi':i<x.length:=hi
 unfold pyNext
 refine wpAny_bind (wpAny_attempt (wpAny_callSpecial?_slot (name:=Str.ofString "__next__") y.typeIs slot_rev_next (wpAny_call_entry slot_rev_next y.typeIs entry_rev_next ?_ (args_rev_next _))))
 unfold Builtin.«reversed.__next__»
 refine wpAny_bind (wpAny_of_eq (a:=(Value.ref a,[])) rfl ?_)
 try dsimp only
 refine wpAny_bind (wpAny_field ho hd (x:= .str x t) rfl ?_)
 refine wpAny_bind (wpAny_field ho hd (x:=rawInt (i:Int)) rfl ?_)
 show wpAny _ _ (if(i:Int)<0 then _ else _) _ _ s
 rw[if_neg (by omega)]
 show wpAny _ _ (specialOf (Value.str x t) "__getitem__">>=_) _ _ _
 refine wpAny_bind (wpAny_specialOf (typeIs_str _ _ _) F.slot_str_getitem.lookup ?_)
 show wpAny _ _ (mkInt (i:Int)>>=_) _ _ _
 refine wpAny_bind (wpAny_mkInt ?_)
 refine wpAny_bind (wpAny_attempt ?_)
 refine PySem.P.getItem_str (c:=c) (by simp;omega) (by rw[seqIndex_of (by omega) (by omega)];simpa using hc) ?_
 show wpAny _ _ (field (Value.ref a) 1>>=_) _ _ _
 refine wpAny_bind (wpAny_field ho hd (x:=rawInt (i:Int)) rfl ?_)
 show wpAny _ _ (setField (Value.ref a) 1 (rawInt ((i:Int)-1))>>=_) _ _ _
 refine wpAny_bind (wpAny_setField ho hd (by simp) (wpAny_pure ⟨_,rfl,wpAny_pure (hQ _ _ _ ?_ (Heap.SameBut.update ..))⟩))
 exact⟨_,Heap.get?_update_self _ ho (Obj.isFreed_of_fields (Obj.data_mapFields hd _)),(Obj.cls_mapFields ..).trans hcl,by rw[Obj.data_mapFields hd];simp⟩
theorem end_revS{a:Addr}{x:Str}{t:Tok}{Q:Option Value->Shared->Prop}(hh:A.handled=none)(y:IsRevS s.heap a x t (-1))
 (hQ:∀h',Heap.ExtBut a s.heap h'->Q none {s with heap:=h'}):wpAny (model prog w) A (pyNext (.ref a)) Q E s:=by
 obtain⟨o,ho,hcl,hd⟩:=id y
 unfold pyNext
 refine wpAny_bind (wpAny_attempt (wpAny_callSpecial?_slot (name:=Str.ofString "__next__") y.typeIs slot_rev_next (wpAny_call_entry slot_rev_next y.typeIs entry_rev_next ?_ (args_rev_next _))))
 unfold Builtin.«reversed.__next__»
 refine wpAny_bind (wpAny_of_eq (a:=(Value.ref a,[])) rfl ?_)
 try dsimp only
 refine wpAny_bind (wpAny_field ho hd (x:= .str x t) rfl ?_)
 refine wpAny_bind (wpAny_field ho hd (x:=rawInt (-1)) rfl ?_)
 show wpAny _ _ (if(-1:Int)<0 then _ else _) _ _ s
 rw[if_pos (by decide)]
 refine wpAny_bind (wpAny_rule ?_)
 refine wpAny_bind ?_
 show wpAny _ _ (setField (Value.ref a) 1 (rawInt (-1))>>=_) _ _ _
 refine wpAny_bind (wpAny_setField ho hd (by simp) ?_)
 have ho2:=Heap.get?_update_self (Obj.mapFields (·.setIfInBounds 1 (rawInt (-1)))) ho (Obj.isFreed_of_fields (Obj.data_mapFields hd _))
 refine wpAny_setField ho2 (Obj.data_mapFields hd _) (by simp) ?_
 refine wpAny_bind ?_
 show wpAny _ _ (newExc (.type "StopIteration") []>>=_) _ _ _
 refine wpAny_bind ?_
 simp only[newExc,newTuple]
 refine wpAny_bind (wpAny_newObj_type ?_ (by size_fits))
 refine wpAny_bind (m:=firstArgMember _ _) (wpAny_of_eq (a:=Value.none) (by first|rfl|(simp only[firstArgMember];rfl)) ?_)
 refine wpAny_newObj_type ?_ (by size_fits)
 simp only[raiseNew]
 refine wpAny_bind (wpAny_handled ?_)
 rw[show A.in1.handled=none from hh]
 refine wpAny_bind (wpAny_pure (wpAny_throw ?_))
 refine wpAny_bind (wpAny_isInstance (T:="StopIteration") (b:=true) ⟨_,Heap.get?_push_size _ rfl,rfl⟩ isSubtype_stop ?_)
 exact wpAny_pure (hQ _ ((((Heap.SameBut.update ..).trans (Heap.SameBut.update ..)).extBut.push _).push _))
end
def ItsR(x:Str):It:=⟨fun i _=>i<x.cps.size,fun i H v H'=>H'=H/\∃c,x.cps[x.cps.size-1-i]? =some c/\v= .str ⟨#[c]⟩,fun i _=>i=x.cps.size⟩
theorem turn_revS{P:Program}{w:World}{K:PySem.W.Frag}{tg:Expr}{x:Str}{t:Tok}{it:Addr}(hx:x.length<=sizeLine):
 Turn P w K tg (ItsR x) [it] it (fun i h=>i<=x.cps.size/\IsRevS h it x t ((x.cps.size:Int)-1-(i:Int))) where
 mem:=by simp
 obj:=fun i h st b hb=>by
  obtain⟨_,o,ho,_,hd⟩:=st
  have e:b=it:=by simpa using hb
  subst e
  exact⟨o,ho,fun v z=>by rw[hd]at z;cases z⟩
 keep:=fun i h h' st k=>by
  obtain⟨hi,o,ho,r⟩:=st
  exact⟨hi,o,k it (by simp) o ho,r⟩
 item:=by
  intro X hP hw hK hc i pins s σ H E I hf st hg
  subst hP hw hK
  have hi:i<x.cps.size:=hg
  obtain⟨_,y⟩:=st
  have e:(x.cps.size:Int)-1-(i:Int)=((x.cps.size-1-i:Nat):Int):=by omega
  rw[e]at y
  have hcx:x.cps[x.cps.size-1-i]? =some (x.cps[x.cps.size-1-i]'(by omega)):=Array.getElem?_eq_getElem (by omega)
  refine next_revS y hcx hx fun h' tk u y' sb=>?_
  have e2:((x.cps.size-1-i:Nat):Int)-1=(x.cps.size:Int)-1-((i+1:Nat):Int):=by omega
  rw[e2]at y'
  obtain⟨o,ho,hcl,hd⟩:=id y'
  have I1:Inv X pins σ H {s with heap:=h',toks:=tk}:=I.turnedAll hf fun b ob hb q=>(sb.2 b (fun z=>hb (by simp[z]))).trans q
  exact⟨_,rfl,go_of (s:={s with heap:=h',toks:=tk}) (n:="reversed") ho hcl hd (by decide) ⟨.str ⟨#[x.cps[x.cps.size-1-i]'(by omega)]⟩,H,I1,⟨u,rfl⟩,⟨rfl,_,hcx,rfl⟩,⟨hi,y'⟩,fun b hb=>(hf b hb).1⟩⟩
 done:=by
  intro X hP hw hK hc i pins s σ H E I hf st hg
  subst hP hw hK
  have e:i=x.cps.size:=hg
  subst e
  obtain⟨_,y⟩:=st
  have e2:(x.cps.size:Int)-1-(x.cps.size:Int)= -1:=by omega
  rw[e2]at y
  exact end_revS (I.ok.hd hc) y fun h' ex=>⟨rfl,I.turnedAll (t':=s.toks) hf fun b ob hb q=>ex b ob (fun z=>hb (by simp[z])) q⟩
 self:=fun A i s Q E st h=>iter_revS st.2 h
def iRev(ta:TA):TI:=fun σ H R=>ta σ H fun vs H1=>∃a,vs=[tx a]/\a.length<=sizeLine/\R (ItsR ⟨a.toArray⟩) H1
theorem pi_revS{X:Cx}{tg a:Expr}{ta:TA}{p pos:Pos}(hg:Gl X "reversed")(hm:X.mg "reversed"=none)(ha:PA X [a] ta)(hs:starEach [a] X.env=[(false,eval a X.env)]:=by rfl):PI X tg (.Call (.Name "reversed" p) [a] [] pos) (iRev ta):=by
 intro pins s σ H R I h
 refine Call_ (ld_blt I hg hm PyProof.Rows.boot_reversed (PyProof.Rows.callWith_type1 (thn (ha pos pins s σ H _ I h) fun us s1 ⟨vs,H1,I1,r1,q1⟩=>?_) hs rfl))
 obtain⟨z,e,hz,q⟩:=q1
 subst e
 cases r1 with
 |cons r rr=>
  cases rr
  obtain⟨t,rfl⟩:=r
  have hz':(⟨z.toArray⟩:Str).length<=sizeLine:=by rw[tx_len];exact hz
  refine call_revS hz' fun tk=>?_
  have I2:Inv X pins σ H1 {s1 with heap:=s1.heap.push {cls:= .type "reversed",data:= .fields #[.str ⟨z.toArray⟩ t,rawInt (((⟨z.toArray⟩:Str).length:Int)-1)]},toks:=tk}:=I1.kept fun b o e=>Heap.get?_push_of_some _ e
  have y:IsRevS (s1.heap.push {cls:= .type "reversed",data:= .fields #[.str ⟨z.toArray⟩ t,rawInt (((⟨z.toArray⟩:Str).length:Int)-1)]}) s1.heap.objs.size ⟨z.toArray⟩ t ((((⟨z.toArray⟩:Str)).length:Int)-1):=⟨_,Heap.get?_push_size _ rfl,rfl,rfl⟩
  refine iter_revS y ⟨s1.heap.objs.size,[s1.heap.objs.size],_,_,H1,rfl,I2,turn_revS (t:=t) hz',⟨Nat.zero_le _,?_⟩,fun b hb=>?_,q⟩
  ·show IsRevS _ _ _ _ ((((⟨z.toArray⟩:Str)).cps.size:Int)-1-((0:Nat):Int))
   rw[show((((⟨z.toArray⟩:Str)).cps.size:Int)-1-((0:Nat):Int))=((((⟨z.toArray⟩:Str)).length:Int)-1)from by show _=(((⟨z.toArray⟩:Str).cps.size:Nat):Int)-1;omega]
   exact y
  ·have e:b=s1.heap.objs.size:=by simpa using hb
   subst e
   exact I1.fpOk (Nat.le_refl _) (I1.hok.fresh (Nat.le_refl _))
end BrR
namespace L2
open PySem PySem.Spec PyProof.Rows BrR
section
variable{X:Cx}
theorem rev_run(n:Nat):sliceRange ((n:Int)-1) (-1) (-1)=(List.range n).map fun k=>n-1-k:=by
 unfold sliceRange
 have e:(if(-1:Int)>0 then(if((n:Int)-1)<(-1)then((-1)-((n:Int)-1)+(-1)-1)/(-1)else 0)else(if((n:Int)-1)>(-1)then(((n:Int)-1)-(-1)-(-1)-1)/(-(-1))else 0)).toNat=n:=by
  rw[if_neg (by decide)]
  simp only[Int.neg_neg,Int.ediv_one]
  split<;>omega
 simp only[e]
 refine List.map_congr_left fun k hk=>?_
 have:=List.mem_range.mp hk
 omega
theorem rev_pickN{α:Type}(a:List α):∀n,n<=a.length->((List.range n).map fun k=>n-1-k).filterMap (fun j=>a[j]?)=(a.take n).reverse:=by
 intro n
 induction n with
 |zero=>intro _;simp
 |succ n ih=>
  intro hn
  rw[List.range_succ_eq_map,List.map_cons,List.filterMap_cons]
  have e1:a[n+1-1-0]? =some (a[n]'(by omega)):=by simp
  rw[e1]
  simp only[List.map_map]
  have e2:((fun k=>n+1-1-k)∘Nat.succ)=fun k=>n-1-k:=by
   funext k;simp only[Function.comp];omega
  rw[e2,ih (by omega),List.take_succ_eq_append_getElem (by omega),List.reverse_append]
  rfl
theorem rev_pick{α:Type}(a:List α):((List.range a.length).map fun k=>a.length-1-k).filterMap (fun j=>a[j]?)=a.reverse:=by
 rw[rev_pickN a a.length (Nat.le_refl _),List.take_length]
def rRevA(K:PySem.W.Frag):V->Hp->VK->Prop:=fun x H Q=>(∃a,x=tx a/\a.length<=sizeLine/\Q (tx a.reverse) H)\/∃p xs,x= .ref p/\SqL K H p xs/\∀r,H r=none->Q (.ref r) (upd H r (.lst xs.reverse))
def tRev(K:PySem.W.Frag)(te ts:TE):TE:=fun σ H Q=>te σ H fun x H1=>ts σ H1 fun y H2=>y= .int (-1)/\rRevA K x H2 Q
theorem Vals.rev:∀ {xs:List V} {us:List Value},Vals xs us->Vals xs.reverse us.reverse
 |_,_, .nil=> .nil
 |_,_, .cons r rr=>by
  rw[List.reverse_cons,List.reverse_cons]
  exact(Vals.rev rr).append (.cons r .nil)
theorem pe_rev(K:PySem.W.Frag){e st:Expr}{te ts:TE}{p2 pos:Pos}(he:PE X e te)(hs:PE X st ts)(hK:X.K=K:=by rfl):PE X (.Subscript e (.Slice none none (some st) p2) pos) (tRev K te ts):=by
 subst hK
 intro pins s σ H Q I h
 refine Subscript_ (thn (he pins s σ H _ I h) fun v s1 ⟨x,H1,I1,r1,q1⟩=>?_)
 refine wpAny_Slice ?_
 rw[evalPart_none]
 refine wpAny_pure (wpAny_pure ?_)
 rw[evalPart_some]
 refine thn (hs pins s1 σ H1 _ I1 q1) fun u s2 ⟨y,H2,I2,r2,q2⟩=>?_
 obtain⟨rfl,q⟩:=q2
 obtain⟨tk,rfl⟩:=r2
 have I4:Inv X pins σ H2 {s2 with heap:=s2.heap.push {cls:= .type "slice",data:= .fields #[.none, .none, .int (-1) tk]}}:=I2.kept (t':=s2.toks) fun b ob q=>Heap.get?_push_of_some _ q
 show wpAny (model X.prog X.w) X.A (subscriptTail e (.Slice none none (some st) p2) v (.ref s2.heap.objs.size)) (EP X pins σ Q) X.xe {s2 with heap:=s2.heap.push {cls:= .type "slice",data:= .fields #[.none, .none, .int (-1) tk]}}
 have key:∃T id,typeLookup (.type T) "__getitem__"=pure (some (.builtin id))/\({s2 with heap:=s2.heap.push {cls:= .type "slice",data:= .fields #[.none, .none, .int (-1) tk]}}:Shared).TypeIs v T/\wpAny (model X.prog X.w) X.A (getItem v (.ref s2.heap.objs.size)) (EP X pins σ Q) X.xe {s2 with heap:=s2.heap.push {cls:= .type "slice",data:= .fields #[.none, .none, .int (-1) tk]}}:=by
  rcases q with⟨a,rfl,hz,q⟩|⟨p,xs,rfl,hx,q⟩
  ·obtain⟨t,rfl⟩:=r1
   refine⟨"str",_,F.slot_str_getitem.lookup,typeIs_str _ _ _,?_⟩
   refine wpAny_getItem_str_slice (l:=none) (u:=none) (st:=some (-1,tk)) ⟨_,Heap.get?_push_size _ rfl,rfl,rfl⟩ rfl ?_
   have ep:slicePicked ⟨a.toArray⟩ none none (some (-1,tk))=(List.range a.length).map fun k=>a.length-1-k:=by
    unfold slicePicked
    rw[tx_len]
    exact rev_run a.length
   have ec:((slicePicked ⟨a.toArray⟩ none none (some (-1,tk))).filterMap (a.toArray[·]?))=a.reverse:=by
    rw[ep]
    simp only[List.getElem?_toArray]
    exact rev_pick a
   unfold sliceMade
   rw[if_neg (by simp)]
   rw[ec]
   exact⟨by rw[tx_len,List.length_reverse];exact hz,⟨tx a.reverse,H2,I4.tok _,⟨_,rfl⟩,q⟩⟩
  ·cases r1
   obtain⟨its,r,ht,hz⟩:=I4.list hx
   have hlen:=r.length
   refine⟨"list",_,slot_list_getitem.lookup,ht.isList.typeIs,?_⟩
   refine wpAny_getItem_list_slice ht.isList (Heap.IsSliceOf.new ..) .none .none (.int (-1) tk) (by simp) ?_ (by rw[List.size_toArray]<;>omega)
   have ep:slicePick its.toArray none none (some (-1))=its.reverse.toArray:=by
    unfold slicePick
    have e:sliceBounds none none (some (-1)) its.toArray.size=((its.length:Int)-1,-1,-1):=by rw[List.size_toArray];rfl
    rw[e]
    show((sliceRange ((its.length:Int)-1) (-1) (-1)).filterMap _).toArray=_
    rw[rev_run]
    simp only[List.getElem?_toArray]
    rw[rev_pick]
   rw[ep]
   refine⟨.ref _,_,I4.laid (o:= .lst xs.reverse) (fun b ob q=>Heap.get?_push_of_some _ q) (Nat.le_refl _) ?_,rfl,q _ (I4.hok.fresh (Nat.le_refl _))⟩
   exact⟨by rw[List.length_reverse];exact hz,_,0,r.rev,Heap.get?_push_size _ rfl⟩
 obtain⟨T,id,hT,ht,hg⟩:=key
 exact tail_any (ops:=[v, .ref s2.heap.objs.size]) ht hT hg (by with_unfolding_all rfl)
theorem strs_of{xss:List (List Nat)}:∀ {us:List Value},Vals (xss.map tx) us->StrsAre us (xss.map fun a=>⟨a.toArray⟩):=by
 induction xss with
 |nil=>intro us r;cases r;exact .nil
 |cons a r ih=>
  intro us h
  cases h with
  |cons h1 h2=>
   obtain⟨t,rfl⟩:=h1
   exact .cons _ t (ih h2)
theorem join_flat:∀ (xss:List (List Nat)),Str.join ⟨([]:List Nat).toArray⟩ (xss.map fun a=>⟨a.toArray⟩)=⟨xss.flatten.toArray⟩
 |[]=>rfl
 |[a]=>by simp[Str.join]
 |a::b::r=>by
  have ih:=join_flat (b::r)
  rw[List.map_cons,List.map_cons]at*
  show(⟨a.toArray⟩:Str)++⟨([]:List Nat).toArray⟩++Str.join ⟨([]:List Nat).toArray⟩ (⟨b.toArray⟩::r.map fun a=>⟨a.toArray⟩)=_
  rw[ih]
  show(⟨a.toArray++([]:List Nat).toArray++(b::r).flatten.toArray⟩:Str)=_
  simp
def rJoin(K:PySem.W.Frag):V->List V->Hp->VK->Prop:=fun x vs H Q=>∃ (p:Addr) (xss:List (List Nat)),x=tx []/\vs=[.ref p]/\SqL K H p (xss.map tx)/\xss.flatten.length+xss.length<=1000000/\Q (tx xss.flatten) H
theorem mt_join(K:PySem.W.Frag)(hK:X.K=K:=by rfl):MtR X "str.join" (rJoin K):=by
 subst hK
 intro pins s σ H x vs v us Q I rx rv h
 obtain⟨p,xss,rfl,rfl,hq,hw,q⟩:=h
 obtain⟨t,rfl⟩:=rx
 obtain⟨u,rfl,ru⟩:=rv.one
 cases ru
 obtain⟨its,r,ht,hz⟩:=I.list hq
 have hs:((xss.map fun a=>(⟨a.toArray⟩:Str)).map (·.length)).sum=xss.flatten.length:=by
  rw[List.map_map,List.length_flatten]
  congr 1
 refine join_listW ht.isList (strs_of r) (by rw[tx_len];decide) (by rw[hs,List.length_map];omega) fun t' k=>?_
 have e:Txt.join ⟨([]:List Nat).toArray⟩ (xss.map fun a=>⟨a.toArray⟩)=⟨xss.flatten.toArray⟩:=by
  show Builtin.Str.glued _ _=_
  rw[StrLaws.glued_eq_join,join_flat]
 rw[e]
 exact⟨tx xss.flatten,H,I.tok k,⟨t',rfl⟩,q⟩
def occ1(l:List Nat)(c:Nat):Option Nat:=(Builtin.Str.occurrences ⟨l.toArray⟩ ⟨#[c]⟩ 0 (⟨l.toArray⟩:Str).length 1).head?
def rIdx:V->List V->Hp->VK->Prop:=fun x vs H Q=>∃l c i,x=tx l/\vs=[tx [c]]/\occ1 l c=some i/\Q (.int (i:Nat)) H
theorem mt_index:MtR X "str.index" rIdx:=by
 intro pins s σ H x vs v us Q I rx rv h
 obtain⟨l,c,i,rfl,rfl,ho,q⟩:=h
 obtain⟨t,rfl⟩:=rx
 obtain⟨u,rfl,t2,rfl⟩:=rv.one
 unfold occ1 at ho
 cases e:Builtin.Str.occurrences ⟨l.toArray⟩ ⟨#[c]⟩ 0 (⟨l.toArray⟩:Str).length 1 with
 |nil=>rw[e]at ho;cases ho
 |cons j rest=>
  rw[e]at ho
  cases ho
  exact SC.index e ⟨.int (i:Nat),H,I.tok _,⟨_,rfl⟩,q⟩
end
section
variable{σ:St}{H:Hp}{Q:VK}{K:PySem.W.Frag}
theorem s_rev{te ts:TE}(h:te σ H fun x H1=>ts σ H1 fun y H2=>y= .int (-1)/\rRevA K x H2 Q):tRev K te ts σ H Q:=h
theorem s_revI{P:Prop}(h:P):V.int (-1)=V.int (-1)/\P:=⟨rfl,h⟩
theorem s_revT{a:List Nat}(hz:a.length<=sizeLine)(h:Q (tx a.reverse) H):rRevA K (tx a) H Q:= .inl ⟨a,rfl,hz,h⟩
theorem s_tyT{a:List Nat}{P:Prop}(h:P):tyV K "str" (tx a) H/\P:=⟨rfl,h⟩
theorem s_join{p:Addr}{xss:List (List Nat)}(hq:SqL K H p (xss.map tx))(hw:xss.flatten.length+xss.length<=1000000)(h:Q (tx xss.flatten) H):rJoin K (tx []) [.ref p] H Q:=⟨p,xss,rfl,rfl,hq,hw,h⟩
theorem s_idx{l:List Nat}{c i:Nat}(he:occ1 l c=some i)(h:Q (.int (i:Nat)) H):rIdx (tx l) [tx [c]] H Q:=⟨l,c,i,rfl,rfl,he,h⟩
theorem s_irev{ta:TA}{R:It->Hp->Prop}(h:ta σ H fun vs H1=>∃a,vs=[tx a]/\a.length<=sizeLine/\R (ItsR ⟨a.toArray⟩) H1):iRev ta σ H R:=h
theorem s_irevT{a:List Nat}{R:List Nat->Prop}(hz:a.length<=sizeLine)(h:R a):∃b,[tx a]=[tx b]/\b.length<=sizeLine/\R b:=⟨a,rfl,hz,h⟩
theorem comp_str{a:List Nat}{own:List Str}{sel:List Nat}{g:TG}{tt:TT}{te:TE}(hn:a.length<=sizeLine)(Pv:Addr->Nat->List V->Hp->Prop)(h0:∀D,H D=none->Pv D 0 [] (upd H D (.lst [])))
 (hst:∀D ys H',H D=none->H' D=some (.lst ys)->Pv D a.length ys H'->Q (.ref D) H')
 (hs:∀D i c ys H',H D=none->a[i]? =some c->i<a.length->H' D=some (.lst ys)->ys.length<=i->Pv D i ys H'->g (tx [c]) (inSt own sel σ) H' fun σ4 H4=>tt σ4 H4 fun b H5=>
   if b=true then te σ4 H5 fun v H6=>∃ys,H6 D=some (.lst ys)/\ys.length<sizeLine/\∃m',m'<a.length-i/\CW D a.length (Pv D) (i+1) m' (upd H6 D (.lst (ys++[v])))
   else∃m',m'<a.length-i/\CW D a.length (Pv D) (i+1) m' H5):CompW (Its ⟨a.toArray⟩) own sel σ g tt te Q H:=by
 refine comp_of (n:=a.length) Pv h0 (fun D i ys H' hD hi _ p=>by simpa[Its]using hi) (fun D ys H' hD hy hl p=>⟨by simp[Its],hst D ys H' hD hy p⟩) (fun D i ys H' x H3 hD hi hy hl p y=>?_)
 obtain⟨rfl,c,e,rfl⟩:=y
 exact hs D i c ys H3 hD (by simpa using e) hi hy hl p
theorem comp_rev{a:List Nat}{own:List Str}{sel:List Nat}{g:TG}{tt:TT}{te:TE}(hn:a.length<=sizeLine)(Pv:Addr->Nat->List V->Hp->Prop)(h0:∀D,H D=none->Pv D 0 [] (upd H D (.lst [])))
 (hst:∀D ys H',H D=none->H' D=some (.lst ys)->Pv D a.length ys H'->Q (.ref D) H')
 (hs:∀D i c ys H',H D=none->a.reverse[i]? =some c->i<a.length->H' D=some (.lst ys)->ys.length<=i->Pv D i ys H'->g (tx [c]) (inSt own sel σ) H' fun σ4 H4=>tt σ4 H4 fun b H5=>
   if b=true then te σ4 H5 fun v H6=>∃ys,H6 D=some (.lst ys)/\ys.length<sizeLine/\∃m',m'<a.length-i/\CW D a.length (Pv D) (i+1) m' (upd H6 D (.lst (ys++[v])))
   else∃m',m'<a.length-i/\CW D a.length (Pv D) (i+1) m' H5):CompW (ItsR ⟨a.toArray⟩) own sel σ g tt te Q H:=by
 refine comp_of (n:=a.length) Pv h0 (fun D i ys H' hD hi _ p=>by simpa[ItsR]using hi) (fun D ys H' hD hy hl p=>⟨by simp[ItsR],hst D ys H' hD hy p⟩) (fun D i ys H' x H3 hD hi hy hl p y=>?_)
 obtain⟨rfl,c,e,rfl⟩:=y
 refine hs D i c ys H3 hD ?_ hi hy hl p
 rw[List.getElem?_reverse hi]
 simpa using e
theorem comp_rng{lo:Int}{n:Nat}{own:List Str}{sel:List Nat}{g:TG}{tt:TT}{te:TE}(hn:n<=sizeLine)(Pv:Addr->Nat->List V->Hp->Prop)(h0:∀D,H D=none->Pv D 0 [] (upd H D (.lst [])))
 (hst:∀D ys H',H D=none->H' D=some (.lst ys)->Pv D n ys H'->Q (.ref D) H')
 (hs:∀D i ys H',H D=none->i<n->H' D=some (.lst ys)->ys.length<=i->Pv D i ys H'->g (.int (lo+i)) (inSt own sel σ) H' fun σ4 H4=>tt σ4 H4 fun b H5=>
   if b=true then te σ4 H5 fun v H6=>∃ys,H6 D=some (.lst ys)/\ys.length<sizeLine/\∃m',m'<n-i/\CW D n (Pv D) (i+1) m' (upd H6 D (.lst (ys++[v])))
   else∃m',m'<n-i/\CW D n (Pv D) (i+1) m' H5):CompW (Itr lo n) own sel σ g tt te Q H:=by
 refine comp_of (n:=n) Pv h0 (fun D i ys H' hD hi _ p=>hi) (fun D ys H' hD hy hl p=>⟨Nat.le_refl _,hst D ys H' hD hy p⟩) (fun D i ys H' x H3 hD hi hy hl p y=>?_)
 obtain⟨rfl,rfl⟩:=y
 exact hs D i ys _ hD hi hy hl p
end
end L2
namespace BrM
open L2 PySem BrR
def all9:List Nat:=[40,91,123,60,63,62,125,93,41]
def oth(c:Nat):Nat:=if c=40 then 41 else if c=91 then 93 else if c=123 then 125 else if c=60 then 62 else if c=41 then 40 else if c=93 then 91 else if c=125 then 123 else if c=62 then 60 else c
def trn(a:List Nat):List Nat:=a.reverse.map oth
theorem trn_len(a:List Nat):(trn a).length=a.length:=by simp[trn]
theorem mem9{c:Nat}(h:c∈all9):c=40\/c=91\/c=123\/c=60\/c=63\/c=62\/c=125\/c=93\/c=41:=by simpa[all9]using h
theorem trn_app(a b:List Nat):trn (a++b)=trn b++trn a:=by simp[trn]
theorem trn_one(c:Nat):trn [c]=[oth c]:=rfl
theorem oth_opn{o:Nat}(h:o∈opn):oth o=clo o/\oth (clo o)=o:=by
 have:o=40\/o=91\/o=123\/o=60:=by simpa[opn]using h
 rcases this with rfl|rfl|rfl|rfl<;>decide
theorem sgn9{k:Int}{c:Nat}(h:c∈sgn k):c∈all9:=by
 unfold sgn at h
 rcases List.mem_append.mp h with z|z
 ·rcases List.mem_append.mp z with z|z
  ·have:=List.mem_of_mem_take z
   have:c=40\/c=91\/c=123\/c=60:=by simpa[opn]using this
   rcases this with rfl|rfl|rfl|rfl<;>decide
  ·have:=List.mem_of_mem_take z
   have:c=41\/c=93\/c=125\/c=62:=by simpa[cls]using this
   rcases this with rfl|rfl|rfl|rfl<;>decide
 ·rw[List.mem_singleton.mp z];decide
def spOther:Sp:=fun vs H Q _=>∃c,vs=[tx [c]]/\c∈all9/\Q (tx [oth c]) H
theorem other_use{H:Hp}{c:Nat}{Q:VK}{E:XK}(h:c∈all9)(q:Q (tx [oth c]) H):spOther ([tx [c]]++[]) H Q E:=⟨c,rfl,h,q⟩
def spTurned:Sp:=fun vs H Q _=>∃k a,vs=[.int k,tx a]/\1<=k/\k<=4/\isRow k a=true/\∀H',Same H H'->Q (tx (trn a)) H'
theorem turned_use{H:Hp}{k:Int}{a:List Nat}{Q:VK}{E:XK}(h1:1<=k)(h2:k<=4)(ha:isRow k a=true)(q:∀H',Same H H'->Q (tx (trn a)) H'):spTurned ([.int k,tx a]++[]) H Q E:=⟨k,a,rfl,h1,h2,ha,q⟩
def sgs(k:Int):List Nat:=[40,41,91,93,123,125,60,62].take (2*k).toNat++[63]
theorem sgs_sgn{k:Int}{c:Nat}(h1:1<=k)(h4:k<=4)(h:c∈sgs k):c∈sgn k:=by
 have hk:k=1\/k=2\/k=3\/k=4:=by omega
 rcases hk with rfl|rfl|rfl|rfl
 ·exact(show∀c∈sgs 1,c∈sgn 1 by decide) c h
 ·exact(show∀c∈sgs 2,c∈sgn 2 by decide) c h
 ·exact(show∀c∈sgs 3,c∈sgn 3 by decide) c h
 ·exact(show∀c∈sgs 4,c∈sgn 4 by decide) c h
theorem sgs_len{k:Int}(h1:1<=k)(h4:k<=4):(sgs k).length=(2*k).toNat+1:=by
 unfold sgs;rw[List.length_append,List.length_take];simp;omega
def spSigns:Sp:=fun vs H Q _=>∃k,vs=[.int k]/\1<=k/\k<=4/\Q (tx (sgs k)) H
theorem signs_use{H:Hp}{k:Int}{Q:VK}{E:XK}(h1:1<=k)(h2:k<=4)(q:Q (tx (sgs k)) H):spSigns ([.int k]++[]) H Q E:=⟨k,rfl,h1,h2,q⟩
def spBent:Sp:=fun vs H Q _=>∃p n row sg,vs=[.ref p,tx row,tx sg]/\PoolAt H p n/\n<=900000/\row.length<=40/\0<sg.length/\sg.length<=40/\
 ∀row' H',(∀c∈row',c∈row\/c∈sg)->row'.length<=130->PoolAt H' p (n+4)->SameBut1 p H H'->Q (tx row') H'
theorem bent_use{H:Hp}{p:PySem.Addr}{n:Nat}{row sg:List Nat}{Q:VK}{E:XK}(hp:PoolAt H p n)(hn:n<=900000)(h1:row.length<=40)(h2:0<sg.length)(h3:sg.length<=40)
 (q:∀row' H',(∀c∈row',c∈row\/c∈sg)->row'.length<=130->PoolAt H' p (n+4)->SameBut1 p H H'->Q (tx row') H'):spBent ([.ref p,tx row,tx sg]++[]) H Q E:=⟨p,n,row,sg,rfl,hp,hn,h1,h2,h3,q⟩
def spAnyRow:Sp:=fun vs H Q _=>∃p n k most,vs=[.ref p, .int k, .int most]/\PoolAt H p n/\n<=800000/\1<=k/\k<=4/\0<=most/\most<=40/\
 ∀row H',(row.length:Int)<=most->(∀c∈row,c∈sgn k)->PoolAt H' p (n+300)->SameBut1 p H H'->Q (tx row) H'
theorem any_use{H:Hp}{p:PySem.Addr}{n:Nat}{k most:Int}{Q:VK}{E:XK}(hp:PoolAt H p n)(hn:n<=800000)(h1:1<=k)(h2:k<=4)(h3:0<=most)(h4:most<=40)
 (q:∀row H',(row.length:Int)<=most->(∀c∈row,c∈sgn k)->PoolAt H' p (n+300)->SameBut1 p H H'->Q (tx row) H'):spAnyRow ([.ref p, .int k, .int most]++[]) H Q E:=⟨p,n,k,most,rfl,hp,hn,h1,h2,h3,h4,q⟩
theorem at_mem{l:List Nat}{i:Int}(h0:0<=i)(h1:i<(l.length:Int)):∃c,atI l i=some c/\c∈l:=by
 have hk:i.toNat<l.length:=by omega
 have ek:i=((i.toNat:Nat):Int):=by omega
 have q:atI l ((i.toNat:Nat):Int)=some l[i.toNat]:=atI_nat (List.getElem?_eq_getElem hk)
 rw[<-ek]at q
 exact⟨_,q,List.getElem_mem hk⟩
theorem cut_mem{α:Type}{a:List α}{lo hi:Option Int}{c:α}(h:c∈cutL a lo hi):c∈a:=by
 unfold cutL at h
 exact List.mem_of_mem_drop (List.mem_of_mem_take h)
theorem kin_sgn{k:Int}{c:Nat}(h:kin k c):c∈sgn k:=by
 unfold sgn
 rcases h with z|z
 ·exact List.mem_append_left _ (List.mem_append_left _ z)
 ·exact List.mem_append_left _ (List.mem_append_right _ z)
theorem flat_ones(l:List Nat):(l.map fun c=>[c]).flatten=l:=by
 induction l with
 |nil=>rfl
 |cons c r ih=>rw[List.map_cons,List.flatten_cons,ih];rfl
end BrM
namespace L2
open PySem PySem.Spec PyProof.Rows BrR
section
variable{X:Cx}
end
section
variable{σ:St}{H:Hp}{Q:VK}{K:PySem.W.Frag}
end
end L2
namespace BrM
open L2 PySem
theorem ht_left(A B:List Nat){j:Nat}(h:j<=A.length):ht (A++B) j=ht A j:=by unfold ht;rw[List.take_append_of_le_length h]
theorem ht_right(A B:List Nat)(j:Nat):ht (A++B) (A.length+j)=hg A+ht B j:=by
 unfold ht;rw[List.take_length_add_append,hg_append]
theorem hg_right{a:List Nat}(h:Rt a):hg a=0:=by
 have:=ht_end h
 unfold ht at this
 rwa[List.take_length]at this
theorem piece_nn(a:List Nat)(i j:Nat):piece a i j=(a.drop i).take (j-i):=cut_nn a i j
theorem ct_snd_le(a:List Nat):∀i,(ct a i).2<=i
 |0=>Nat.le_refl _
 |i+1=>by
  have:=ct_snd_le a i
  rw[ct];split
  ·exact Nat.le_refl _
  ·omega
theorem ct_left(A B:List Nat):∀i,i<=A.length->ct (A++B) i=ct A i
 |0,_=>rfl
 |i+1,h=>by
  have ih:=ct_left A B i (by omega)
  have h2:=ct_snd_le A i
  rw[ct,ct,ih,ht_left A B h]
  have e:piece (A++B) (ct A i).2 (i+1)=piece A (ct A i).2 (i+1):=by
   rw[piece_nn,piece_nn,List.drop_append_of_le_length (by omega),List.take_append_of_le_length (by rw[List.length_drop];omega)]
  rw[e]
theorem ct_full{A:List Nat}(h:Rt A):ct A A.length=(pts A,A.length):=by
 have h0:=ht_end h
 have:(ct A A.length).2=A.length:=by
  cases e:A.length with
  |zero=>rfl
  |succ n=>rw[ct,if_pos (by rw[<-e];exact h0)]
 unfold pts
 exact Prod.ext rfl this
theorem ct_right{A:List Nat}(hA:Rt A)(B:List Nat):∀j,j<=B.length->ct (A++B) (A.length+j)=(pts A++(ct B j).1,A.length+(ct B j).2)
 |0,_=>by
  rw[Nat.add_zero,ct_left A B _ (Nat.le_refl _),ct_full hA]
  simp[ct]
 |j+1,h=>by
  have ih:=ct_right hA B j (by omega)
  have h2:=ct_snd_le B j
  rw[<-Nat.add_assoc,ct,ct,ih]
  have eh:ht (A++B) (A.length+j+1)=ht B (j+1):=by rw[Nat.add_assoc,ht_right,hg_right hA];omega
  rw[eh]
  have e:piece (A++B) (A.length+(ct B j).2) (A.length+j+1)=piece B (ct B j).2 (j+1):=by
   rw[piece_nn,piece_nn,List.drop_append,List.drop_eq_nil_of_le (by omega),List.nil_append,show A.length+(ct B j).2-A.length=(ct B j).2 by omega,show A.length+j+1-(A.length+(ct B j).2)=j+1-(ct B j).2 by omega]
  split
  ·rw[e,List.append_assoc];rfl
  ·rfl
theorem pts_cat{A:List Nat}(hA:Rt A)(B:List Nat):pts (A++B)=pts A++pts B:=by
 have:=ct_right hA B B.length (Nat.le_refl _)
 show(ct (A++B) (A++B).length).1=_
 rw[List.length_append,this]
 rfl
theorem pr_pair{o:Nat}{M:List Nat}(ho:o∈opn)(hM:Rt M):Pr ([o]++M++[clo o]) 0 (M.length+1):=by
 have e1:hg [o]=1:=by show sg o+0=1;unfold sg;rw[if_pos ho];rfl
 have hl:([o]++M++[clo o]).length=M.length+2:=by simp
 refine⟨by omega,by rw[hl];omega,?_,fun m m1 m2=>?_⟩
 ·rw[show M.length+1+1=([o]++M++[clo o]).length by rw[hl],ht_end (rt_pair ho (clo_not ho) hM),ht_zero]
 ·obtain⟨i,rfl⟩:∃i,m=1+i:=⟨m-1,by omega⟩
  have:=ht_mid [o] M [clo o] (i:=i) (by omega)
  rw[e1]at this
  have h2:=ht_nonneg hM i
  rw[ht_zero]
  have e3:([o]:List Nat).length+i=1+i:=rfl
  rw[e3]at this
  omega
theorem pts_one{o:Nat}{M:List Nat}(ho:o∈opn)(hM:Rt M):pts ([o]++M++[clo o])=[[o]++M++[clo o]]:=by
 have h:=ct_next (pr_pair ho hM) (ht_zero _) rfl
 have hl:([o]++M++[clo o]).length=M.length+1+1:=by simp
 unfold pts
 rw[hl,h]
 show []++[piece _ 0 _]=_
 rw[piece_nn,List.drop_zero,Nat.sub_zero,<-hl,List.take_length,List.nil_append]
theorem rt_cases{a:List Nat}(h:Rt a):a=[]\/∃o M B,a=([o]++M++[clo o])++B/\o∈opn/\Rt M/\Rt B:=by
 by_cases ha:a=[]
 ·exact .inl ha
 ·obtain⟨xs,hx⟩:=part_ex h
  have h0:0<a.length:=by
   cases a with
   |nil=>exact absurd rfl ha
   |cons c r=>simp
  obtain⟨p,ep,rr⟩:=hx.2 0 h0
  have hp:Pr a 0 p:=by
   rcases rr with z|z
   ·exact z
   ·exact absurd z.1 (by omega)
  obtain⟨A,M,B,o,e,hA,hM,ho,hRM,hRAB⟩:=pr_split h hp
  have eA:A=[]:=List.length_eq_zero_iff.mp hA
  subst eA
  exact .inr ⟨o,M,B,by simpa using e,ho,hRM,by simpa using hRAB⟩
structure PtsOk (a:List Nat):Prop where
 flat:(pts a).flatten=a
 form:∀p∈pts a,∃o M,p=[o]++M++[clo o]/\o∈opn/\Rt M
 le:∀p∈pts a,deep p<=deep a
 top:deep a=0\/∃p∈pts a,deep p=deep a
 back:pts (trn a)=((pts a).map trn).reverse
theorem trn_pair{o:Nat}(ho:o∈opn)(M:List Nat):trn ([o]++M++[clo o])=[o]++trn M++[clo o]:=by
 rw[trn_app,trn_app,trn_one,trn_one,(oth_opn ho).1,(oth_opn ho).2,List.append_assoc]
theorem len_mem_flat{p:List Nat}:∀ {l:List (List Nat)},p∈l->p.length<=l.flatten.length
 |q::r,h=>by
  rw[List.flatten_cons,List.length_append]
  rcases List.mem_cons.mp h with z|z
  ·subst z;omega
  ·have:=len_mem_flat z;omega
theorem PtsOk.len{a:List Nat}(h:PtsOk a){p:List Nat}(hp:p∈pts a):p.length<=a.length:=by
 have:=len_mem_flat hp
 rwa[h.flat]at this
end BrM
namespace L2
open PySem PySem.Spec PyProof.Rows BrR
section
variable{σ:St}{H:Hp}{Q:VK}{K:PySem.W.Frag}
end
end L2
namespace BrM
open L2 PySem
end BrM
namespace L2
open PySem PySem.Spec PyProof.Rows
section
variable{X:Cx}
end
section
variable{X:Cx}{tg:Expr}
end
section
variable{X:Cx}
end
section
variable{σ:St}{H:Hp}{Q:VK}{D:Ends}{K:PySem.W.Frag}
end
section
variable{X:Cx}
end
section
variable{σ:St}{H:Hp}{Q:VK}{K:PySem.W.Frag}
theorem comp_yes{J:It}{n:Nat}{own:List Str}{sel:List Nat}{g:TG}{te:TE}(f:Nat->V)(hn:n<=sizeLine)(Iv:Addr->Nat->List V->Hp->Prop)
 (hgo:∀i H',i<n->Same H H'->J.go i H') (hsp:∀H',Same H H'->J.stop n H') (hy:∀i H1 x H',i<n->Same H H1->J.yld i H1 x H'->H'=H1/\x=f i)
 (h0:∀D,H D=none->Iv D 0 [] (upd H D (.lst []))) (mono:∀D i ys H1 H2,H D=none->Iv D i ys H1->SameBut1 D H1 H2->Iv D i ys H2)
 (hst:∀D ys H',H D=none->H' D=some (.lst ys)->ys.length=n->Same H H'->Iv D n ys H'->Q (.ref D) H')
 (hs:∀ (D:Addr) (i:Nat) (ys:List V) (H':Hp) (R:V->Hp->Prop),H D=none->i<n->H' D=some (.lst ys)->ys.length=i->Same H H'->Iv D i ys H'->(∀v H6,Same H' H6->Iv D (i+1) (ys++[v]) H6->R v H6)->
   g (f i) (inSt own sel σ) H' fun σ4 H4=>te σ4 H4 R):CompW J own sel σ g tYes te Q H:=by
 refine comp_of (n:=n) (fun D i ys H'=>ys.length=i/\Same H H'/\Iv D i ys H') (fun D hD=>⟨rfl,same_new hD _,h0 D hD⟩) (fun D i ys H' hD hi _ ⟨_,sH,_⟩=>hgo i H' hi sH)
  (fun D ys H' hD hy' hl ⟨e,sH,iv⟩=>⟨hsp H' sH,hst D ys H' hD hy' e sH iv⟩) ?_
 rintro D i ys H1 x H3 hD hi hyD hl ⟨el,sH,iv⟩ yl
 obtain⟨rfl,rfl⟩:=hy i H1 x H3 hi sH yl
 have key:=hs D i ys H3 (fun v H6=>∃ys,H6 D=some (.lst ys)/\ys.length<sizeLine/\∃m',m'<n-i/\CW D n (fun i ys H'=>ys.length=i/\Same H H'/\Iv D i ys H') (i+1) m' (upd H6 D (.lst (ys++[v])))) hD hi hyD el sH iv (fun v H6 s6 iv6=>?_)
 ·have ef:(fun(σ4:St) (H4:Hp)=>tYes σ4 H4 fun b H5=>if b=true then te σ4 H5 fun v H6=>∃ys,H6 D=some (.lst ys)/\ys.length<sizeLine/\∃m',m'<n-i/\CW D n (fun i ys H'=>ys.length=i/\Same H H'/\Iv D i ys H') (i+1) m' (upd H6 D (.lst (ys++[v])))
   else∃m',m'<n-i/\CW D n (fun i ys H'=>ys.length=i/\Same H H'/\Iv D i ys H') (i+1) m' H5)=fun σ4 H4=>te σ4 H4 fun v H6=>∃ys,H6 D=some (.lst ys)/\ys.length<sizeLine/\∃m',m'<n-i/\CW D n (fun i ys H'=>ys.length=i/\Same H H'/\Iv D i ys H') (i+1) m' (upd H6 D (.lst (ys++[v]))):=by
   funext σ4 H4
   exact propext ⟨fun z=>by have z':=z;simp only[tYes]at z';simpa using z',fun z=>by show tYes _ _ _;simp only[tYes];simpa using z⟩
  rw[ef]
  exact key
 ·refine comp_next hi hn (s6 _ _ hyD) hl ⟨by simp[el],fun b o z=>?_,mono D _ _ _ _ hD iv6 SameBut1.upd⟩
  rw[upd_ne (ne_of_none z hD)]
  exact s6 b o (sH b o z)
end
end L2
namespace BrC
def sm:Nat->(Nat->Int)->Int
 |0,_=>0
 |n+1,f=>sm n f+f n
theorem sm_congr{f g:Nat->Int}:∀n,(∀i,i<n->f i=g i)->sm n f=sm n g
 |0,_=>rfl
 |n+1,h=>by unfold sm;rw[sm_congr n fun i hi=>h i (Nat.lt_succ_of_lt hi),h n (Nat.lt_succ_self n)]
theorem sm_add(f g:Nat->Int):∀n,sm n (fun i=>f i+g i)=sm n f+sm n g
 |0=>rfl
 |n+1=>by unfold sm;rw[sm_add f g n];show sm n f+sm n g+(f n+g n)=_;omega
theorem sm_zero{f:Nat->Int}:∀n,(∀i,i<n->f i=0)->sm n f=0
 |0,_=>rfl
 |n+1,h=>by unfold sm;rw[sm_zero n fun i hi=>h i (Nat.lt_succ_of_lt hi),h n (Nat.lt_succ_self n)];rfl
theorem sm_nonneg{f:Nat->Int}:∀n,(∀i,i<n->0<=f i)->0<=sm n f
 |0,_=>Int.le_refl _
 |n+1,h=>by unfold sm;have:=sm_nonneg n fun i hi=>h i (Nat.lt_succ_of_lt hi);have:=h n (Nat.lt_succ_self n);omega
theorem sm_mono{f g:Nat->Int}:∀n,(∀i,i<n->f i<=g i)->sm n f<=sm n g
 |0,_=>Int.le_refl _
 |n+1,h=>by unfold sm;have:=sm_mono n fun i hi=>h i (Nat.lt_succ_of_lt hi);have:=h n (Nat.lt_succ_self n);omega
theorem sm_const(c:Int):∀n,sm n (fun _=>c)=n*c
 |0=>by simp[sm]
 |n+1=>by rw[sm,sm_const c n];rw[Int.natCast_add,Int.add_mul];simp
theorem sm_one{f:Nat->Int}{n i:Nat}(hi:i<n)(h:∀j,j<n->j≠i->f j=0):sm n f=f i:=by
 induction n with
 |zero=>omega
 |succ n ih=>
  unfold sm
  by_cases e:i=n
  ·subst e;rw[sm_zero i fun j hj=>h j (by omega) (by omega)];omega
  ·rw[ih (by omega) fun j hj=>h j (by omega),h n (by omega) (by omega)];omega
def cv(P:Nat->Nat->Int)(k:Nat):Nat->Nat->List Nat->Int
 |0,_,[]=>1
 |0,_,_::_=>0
 |n+1,i,st=>sm k (fun p=>P i (2*p)*cv P k n (i+1) (p::st))+(match st with|[]=>0|o::r=>P i (2*o+1)*cv P k n (i+1) r)
variable{P:Nat->Nat->Int}{k:Nat}
theorem cv_nil(n i:Nat):cv P k (n+1) i []=sm k (fun p=>P i (2*p)*cv P k n (i+1) [p]):=by
 rw[cv];simp
theorem cv_cons(n i o:Nat)(st:List Nat):cv P k (n+1) i (o::st)=sm k (fun p=>P i (2*p)*cv P k n (i+1) (p::o::st))+P i (2*o+1)*cv P k n (i+1) st:=by
 rw[cv]
def pr(P:Nat->Nat->Int)(k i j:Nat):Int:=sm k fun p=>P i (2*p)*P j (2*p+1)
theorem cv_bound{c:Int}(hc:0<=c)(h0:∀i b,0<=P i b)(h1:∀i b,P i b<=c):∀ (n i:Nat) (st:List Nat),0<=cv P k n i st/\cv P k n i st<=(((k:Int)+1)*c)^n
 |0,i,[]=>⟨by simp[cv],by simp[cv]⟩
 |0,i,_::_=>⟨by simp[cv],by simp[cv]⟩
 |n+1,i,st=>by
  have ih:=cv_bound hc h0 h1 n (i+1)
  have hB:0<=(((k:Int)+1)*c)^n:=Int.le_trans (ih []).1 (ih []).2
  have tm:∀b s',0<=P i b*cv P k n (i+1) s'/\P i b*cv P k n (i+1) s'<=c*(((k:Int)+1)*c)^n:=fun b s'=>
   ⟨Int.mul_nonneg (h0 i b) (ih s').1,Int.mul_le_mul (h1 i b) (ih s').2 (ih s').1 hc⟩
  have s1:0<=sm k (fun p=>P i (2*p)*cv P k n (i+1) (p::st)):=sm_nonneg k fun p _=>(tm _ _).1
  have s2:sm k (fun p=>P i (2*p)*cv P k n (i+1) (p::st))<=k*(c*(((k:Int)+1)*c)^n):=by
   rw[<-sm_const];exact sm_mono k fun p _=>(tm _ _).2
  have e:(((k:Int)+1)*c)^(n+1)=k*(c*(((k:Int)+1)*c)^n)+c*(((k:Int)+1)*c)^n:=by
   rw[Int.pow_succ,Int.mul_comm,Int.mul_assoc,Int.add_mul,Int.one_mul]
  have s3:0<=c*(((k:Int)+1)*c)^n:=Int.mul_nonneg hc hB
  cases st with
  |nil=>rw[cv_nil,e];exact⟨s1,by omega⟩
  |cons o r=>
   have:=tm (2*o+1) r
   rw[cv_cons,e];constructor<;>omega
end BrC
namespace BrC
variable{P:Nat->Nat->Int}{k:Nat}
end BrC
namespace BrS
open L2 PySem BrM BrC
abbrev iL(l:List Int):HO:= .lst (l.map V.int)
def Pls(H:Hp)(r:Addr)(ps:List (List Int)):Prop:=∃ad:Nat->Addr,H r=some (.lst ((List.range ps.length).map fun i=>V.ref (ad i)))/\∀i,i<ps.length->H (ad i)=some (iL (ps.getD i []))
def rwl(n:Nat)(f:Nat->Int):List V:=(List.range (n+1)).map fun j=>V.int (f j)
theorem rwl_set{n j:Nat}{f:Nat->Int}{v:Int}:(rwl n f).set j (.int v)=rwl n (fun x=>if x=j then v else f x):=by
 apply List.ext_getElem?
 intro i
 unfold rwl
 rw[List.getElem?_set,List.getElem?_map,List.getElem?_map]
 by_cases e:j=i
 ·subst e
  by_cases hj:j<n+1
  ·rw[List.getElem?_range hj];simp[hj]
  ·rw[if_pos rfl,if_neg (by simpa using hj)]
   rw[List.getElem?_eq_none (by simpa using hj)];rfl
 ·rw[if_neg e]
  by_cases hi:i<n+1
  ·rw[List.getElem?_range hi];simp[Ne.symm e]
  ·rw[List.getElem?_eq_none (by simpa using hi)];rfl
theorem rwl_congr{n:Nat}{f g:Nat->Int}(h:∀j,j<=n->f j=g j):rwl n f=rwl n g:=by
 unfold rwl
 refine List.map_congr_left fun j hj=>?_
 rw[h j (by have:=List.mem_range.mp hj;omega)]
structure Tb (H0 H:Hp) (s:Addr) (ad:Nat->Addr) (n:Nat) (T:Nat->Nat->Int):Prop where
 fs:H0 s=none
 fa:∀i,i<=n->H0 (ad i)=none
 ns:∀i,i<=n->ad i≠s
 inj:∀i j,i<=n->j<=n->ad i=ad j->i=j
 top:H s=some (.lst ((List.range (n+1)).map fun i=>V.ref (ad i)))
 row:∀i,i<=n->H (ad i)=some (.lst (rwl n (T i)))
 sm:Same H0 H
section
variable{H0 H H':Hp}{s:Addr}{ad:Nat->Addr}{n:Nat}{T T':Nat->Nat->Int}
theorem Tb.congr(t:Tb H0 H s ad n T)(h:∀i j,i<=n->j<=n->T i j=T' i j):Tb H0 H s ad n T':=⟨t.fs,t.fa,t.ns,t.inj,t.top,fun i hi=>by rw[t.row i hi,rwl_congr fun j hj=>h i j hi hj],t.sm⟩
theorem Tb.at(t:Tb H0 H s ad n T){i:Nat}(hi:i<=n):((List.range (n+1)).map fun i=>V.ref (ad i))[i]? =some (.ref (ad i)):=by
 rw[List.getElem?_map,List.getElem?_range (by omega)];rfl
theorem Tb.set(t:Tb H0 H s ad n T){i j:Nat}{v:Int}(hi:i<=n):Tb H0 (upd H (ad i) (.lst ((rwl n (T i)).set j (.int v)))) s ad n (fun a b=>if a=i/\b=j then v else T a b):=by
 refine⟨t.fs,t.fa,t.ns,t.inj,by rw[upd_ne (Ne.symm (t.ns i hi))];exact t.top,fun a ha=>?_,fun b o z=>?_⟩
 ·by_cases e:a=i
  ·subst e
   rw[upd_same,rwl_set]
   congr 2
   refine rwl_congr fun x _=>?_
   by_cases q:x=j<;>simp[q]
  ·rw[upd_ne (fun z=>e (t.inj a i ha hi z)),t.row a ha]
   congr 2
   refine rwl_congr fun x _=>?_
   simp[e]
 ·rw[upd_ne (ne_of_none z (t.fa i hi))];exact t.sm b o z
end
def brs:List Nat:=[40,41,91,93,123,125,60,62]
def plw(w:List Int)(c:Nat):List Int:=if c=63 then w else(brs.take w.length).map fun b=>if c=b then 1 else 0
theorem plw_len{w:List Int}{c:Nat}(h:w.length<=8):(plw w c).length=w.length:=by
 unfold plw
 split
 ·rfl
 ·rw[List.length_map,List.length_take];exact Nat.min_eq_left h
abbrev PP(ps:List (List Int)):Nat->Nat->Int:=fun i b=>(ps.getD i []).getD b 0
abbrev ones(k:Nat):List Int:=List.replicate (2*k) 1
def top30:Int:=10^31
def Sm(l:List Int):Prop:=∀v∈l,0<=v/\v<=top30
theorem Sm.at{l:List Int}(h:Sm l)(b:Nat):0<=l.getD b 0/\l.getD b 0<=top30:=by
 rw[List.getD_eq_getElem?_getD]
 cases e:l[b]? with
 |none=>exact⟨by simp,by simp[top30]⟩
 |some v=>exact h v (List.mem_of_getElem? e)
def tbl(P:Nat->Nat->Int)(k:Nat)(i j:Nat):Int:=if i<=j then cv P k (j-i) i []else 0
theorem ones_sm(k:Nat):Sm (ones k):=fun v hv=>by
 obtain rfl:=List.eq_of_mem_replicate hv
 exact⟨by decide,by decide⟩
theorem plw_sm{w:List Int}(h:Sm w)(c:Nat):Sm (plw w c):=by
 unfold plw
 split
 ·exact h
 ·intro v hv
  obtain⟨b,_,rfl⟩:=List.mem_map.mp hv
  split<;>exact⟨by decide,by decide⟩
theorem PP_bound{ps:List (List Int)}(h:∀l∈ps,Sm l)(i b:Nat):0<=PP ps i b/\PP ps i b<=top30:=by
 show 0<=(ps.getD i []).getD b 0/\(ps.getD i []).getD b 0<=top30
 cases e:ps[i]? with
 |none=>
  have q:ps.getD i []=[]:=by rw[List.getD_eq_getElem?_getD,e];rfl
  rw[q];exact⟨by simp,by simp[top30]⟩
 |some l=>
  have q:ps.getD i []=l:=by rw[List.getD_eq_getElem?_getD,e];rfl
  rw[q];exact(h l (List.mem_of_getElem? e)).at b
theorem pow_mono{x y:Int}(h0:0<=x)(h:x<=y):∀n:Nat,0<=x^n/\x^n<=y^n
 |0=>by simp
 |n+1=>by
  obtain⟨a,b⟩:=pow_mono h0 h n
  rw[Int.pow_succ,Int.pow_succ]
  exact⟨Int.mul_nonneg a h0,Int.mul_le_mul b h h0 (Int.le_trans a b)⟩
theorem pow_up{x:Int}(h1:1<=x){m n:Nat}(h:m<=n):x^m<=x^n:=by
 induction n with
 |zero=>obtain rfl:m=0:=by omega
        exact Int.le_refl _
 |succ n ih=>
  by_cases e:m=n+1
  ·subst e;exact Int.le_refl _
  ·have h2:=ih (by omega)
   have h3:=(pow_mono (x:=x) (y:=x) (by omega) (Int.le_refl _) n).1
   rw[Int.pow_succ]
   have:=Int.mul_le_mul (Int.le_refl (x^n)) h1 (by decide) h3
   omega
def cap:Int:=(5*top30)^40
theorem cv_cap{ps:List (List Int)}{k:Nat}(hk:k<=4)(h:∀l∈ps,Sm l){n:Nat}(hn:n<=40)(i:Nat)(st:List Nat):0<=cv (PP ps) k n i st/\cv (PP ps) k n i st<=cap:=by
 obtain⟨a,b⟩:=cv_bound (P:=PP ps) (k:=k) (c:=top30) (by decide) (fun i b=>(PP_bound h i b).1) (fun i b=>(PP_bound h i b).2) n i st
 refine⟨a,Int.le_trans b ?_⟩
 have h1:(0:Int)<=((k:Int)+1)*top30:=Int.mul_nonneg (by omega) (by decide)
 have h2:((k:Int)+1)*top30<=5*top30:=Int.mul_le_mul_of_nonneg_right (by omega) (by decide)
 refine Int.le_trans (pow_mono h1 h2 n).2 (pow_up (by decide) hn)
theorem atI_end{α:Type}{xs:List α}{v:α}(h:0<xs.length)(e:xs[xs.length-1]? =some v):atI xs (-1)=some v:=by
 unfold atI ixN
 rw[if_neg (by omega),if_pos (by omega)]
 have:((-1:Int)+xs.length).toNat=xs.length-1:=by omega
 simp only[this,Option.bind]
 exact e
section
variable{P:Nat->Nat->Int}{k i q j n:Nat}
end
theorem many_places{k:Nat}{a:List Nat}(hk:k<=4):∀l∈a.map (plw (ones k)),l.length=2*k/\Sm l:=fun l hl=>by
 obtain⟨c,_,rfl⟩:=List.mem_map.mp hl
 exact⟨by rw[plw_len (by rw[List.length_replicate];omega),List.length_replicate],plw_sm (ones_sm k) c⟩
def Deck(H:Hp)(p:Addr):Prop:=∃ds:List Int,H p=some (.lst (ds.map V.int))/\∀d∈ds,0<=d/\d<2147483648
theorem Deck.keep{H H':Hp}{p r:Addr}(h:Deck H p)(s:SameBut1 r H H')(n:p≠r):Deck H' p:=by
 obtain⟨ds,e,b⟩:=h
 exact⟨ds,s _ _ e n,b⟩
theorem Deck.ne{H:Hp}{p q:Addr}(h:Deck H p)(hq:H q=none):q≠p:=by
 obtain⟨ds,e,_⟩:=h
 exact(ne_of_none e hq).symm
theorem plw_unk(w:List Int):plw w 63=w:=by unfold plw;rw[if_pos rfl]
section
variable{σ:St}{H:Hp}{Q:VK}{K:PySem.W.Frag}
end
def pw(k c b:Nat):Int:=(plw (ones k) c).getD b 0
def ws(k:Nat):List Nat->List Nat->Int
 |[],[]=>1
 |[],_::_=>0
 |c::r,st=>sm k (fun p=>pw k c (2*p)*ws k r (p::st))+(match st with|[]=>0|o::s'=>pw k c (2*o+1)*ws k r s')
variable{k:Nat}
theorem pw_unk{b:Nat}(h:b<2*k):pw k 63 b=1:=by
 unfold pw
 rw[plw_unk]
 unfold ones
 rw[List.getD_eq_getElem?_getD,List.getElem?_replicate,if_pos h];rfl
theorem brs_at{b c:Nat}(h:brs[b]? =some c):b<8:=by
 have:=(List.getElem?_eq_some_iff.mp h).1
 exact this
theorem pw_at{b d c:Nat}(hb:b<2*k)(hb8:b<8)(hd:brs[d]? =some c):pw k c b=if b=d then 1 else 0:=by
 have hd8:=brs_at hd
 have hn:c≠63:=by
  rintro rfl
  revert hd
  have:d=0\/d=1\/d=2\/d=3\/d=4\/d=5\/d=6\/d=7:=by omega
  rcases this with rfl|rfl|rfl|rfl|rfl|rfl|rfl|rfl<;>decide
 unfold pw plw
 rw[if_neg hn,List.getD_eq_getElem?_getD,List.getElem?_map,List.getElem?_take]
 rw[if_pos (show b<(ones k).length by unfold ones;rw[List.length_replicate];exact hb)]
 have hb':b=0\/b=1\/b=2\/b=3\/b=4\/b=5\/b=6\/b=7:=by omega
 have hd':d=0\/d=1\/d=2\/d=3\/d=4\/d=5\/d=6\/d=7:=by omega
 rcases hd' with rfl|rfl|rfl|rfl|rfl|rfl|rfl|rfl<;>(cases hd;rcases hb' with rfl|rfl|rfl|rfl|rfl|rfl|rfl|rfl<;>decide)
theorem sm_pairs(f:Nat->Int):∀k,sm (2*k) f=sm k fun p=>f (2*p)+f (2*p+1)
 |0=>rfl
 |k+1=>by rw[show 2*(k+1)=2*k+1+1 by omega,sm,sm,sm_pairs f k,sm];omega
end BrS
namespace BrS
open L2 PySem BrM BrC
def clc(p:Nat):Nat:=cls.getD p 0
section
variable{k:Int}
end
abbrev En:=List Nat×List Nat
def exB(n at' c:Nat)(e:En)(b:Nat):List En:=
 if c=63\/c=brs.getD b 0 then
  (if b%2=0 then(if e.2.length+at'+1<n then [(e.1++[brs.getD b 0],b/2::e.2)]else [])
   else match e.2 with
    |[]=>[]
    |p::r=>if p=b/2 then [(e.1++[brs.getD b 0],r)]else [])
 else []
def exs(k n at' c:Nat)(e:En):List En:=(List.range (2*k)).flatMap (exB n at' c e)
def fls(k:Nat)(a:List Nat):Nat->List En
 |0=>[([],[])]
 |i+1=>(fls k a i).flatMap (exs k a.length i (a.getD i 0))
def res(k:Nat)(a:List Nat):List (List Nat):=((fls k a a.length).filter fun e=>decide (e.2=[])).map (·.1)
def sts(t:List Nat):List Nat:=(t.map clc).reverse
inductive Ens (H:Hp):List Addr->List En->Prop
 |nil:Ens H [] []
 |cons {a:Addr} {e:En} {as:List Addr} {es:List En} (h:H a=some (.tup [tx e.1,tx (sts e.2)])) (r:Ens H as es):Ens H (a::as) (e::es)
theorem Ens.len{H:Hp}{as:List Addr}{es:List En}(h:Ens H as es):as.length=es.length:=by
 induction h with
 |nil=>rfl
 |cons _ _ ih=>rw[List.length_cons,List.length_cons,ih]
theorem Ens.get{H:Hp}{as:List Addr}{es:List En}(h:Ens H as es):∀ {i:Nat} {a:Addr},as[i]? =some a->∃e,es[i]? =some e/\H a=some (.tup [tx e.1,tx (sts e.2)]):=by
 induction h with
 |nil=>intro i a z;simp at z
 |cons h r ih=>
  intro i a z
  cases i with
  |zero=>simp at z;subst z;exact⟨_,rfl,h⟩
  |succ i=>simpa using ih (by simpa using z)
theorem Ens.there{H:Hp}{as:List Addr}{es:List En}(h:Ens H as es):∀a∈as,∃o,H a=some o:=by
 induction h with
 |nil=>intro a z;cases z
 |cons h r ih=>
  intro a z
  rcases List.mem_cons.mp z with rfl|z
  ·exact⟨_,h⟩
  ·exact ih a z
structure Gr (H1 H':Hp) (lo:Addr) (as:List Addr) (L:List En):Prop where
 fl:H1 lo=none
 sm:Same H1 H'
 at':H' lo=some (.lst (as.map V.ref))
 en:Ens H' as L
 ni:lo∉as
theorem Gr.len{H1 H':Hp}{lo:Addr}{as:List Addr}{L:List En}(g:Gr H1 H' lo as L):as.length=L.length:=g.en.len
end BrS
namespace L2
open PySem PySem.Spec PyProof.Rows
section
variable{κ:Type}[DecidableEq κ]
def valV(kvs:List (κ×V))(k:κ):Option V:=(kvs.find? fun kv=>decide (kv.1=k)).map (·.2)
def putK(kvs:List (κ×V))(k:κ)(v:V):List (κ×V):=
 if(kvs.any fun kv=>decide (kv.1=k))=true then kvs.map (fun kv=>if kv.1=k then(kv.1,v)else kv)else kvs++[(k,v)]
def dropK(kvs:List (κ×V))(k:κ):List (κ×V):=kvs.filter fun kv=>decide (kv.1≠k)
theorem valV_nil{k:κ}:valV ([]:List (κ×V)) k=none:=rfl
theorem length_putK(kvs:List (κ×V))(k:κ)(v:V):(putK kvs k v).length<=kvs.length+1:=by
 unfold putK
 split
 ·rw[List.length_map];omega
 ·rw[List.length_append,List.length_cons,List.length_nil];omega
theorem RelO.getD{o:Option V}{u:Option Value}{d:V}{d':Value}(r:RelO o u)(rd:RelV d d'):RelV (o.getD d) (u.getD d'):=by
 cases o with
 |none=>cases u with
  |none=>exact rd
  |some _=>exact(show False from r).elim
 |some _=>cases u with
  |none=>exact(show False from r).elim
  |some _=>exact r
theorem KV.any{kvs:List (κ×V)}{vs:List (κ×Value)}(r:KV kvs vs)(k:κ):(kvs.any fun kv=>decide (kv.1=k))=vs.any fun kv=>decide (kv.1=k):=by
 unfold KV at r
 induction r with
 |nil=>rfl
 |cons h t ih=>rw[List.any_cons,List.any_cons,ih,h.1]
theorem KV.repl{kvs:List (κ×V)}{vs:List (κ×Value)}(r:KV kvs vs)(k:κ){y:V}{u:Value}(ry:RelV y u):
 KV (kvs.map fun kv=>if kv.1=k then(kv.1,y)else kv) (vs.map fun kv=>if kv.1=k then(kv.1,u)else kv):=by
 unfold KV at r⊢
 induction r with
 |nil=>exact .nil
 | @cons p q ps qs h t ih=>
   rw[List.map_cons,List.map_cons]
   refine .cons ?_ ih
   obtain⟨h1,h2⟩:=h
   by_cases e:p.1=k
   ·rw[if_pos e,if_pos (h1.symm.trans e)];exact⟨h1,ry⟩
   ·rw[if_neg e,if_neg (fun z=>e (h1.trans z))];exact⟨h1,h2⟩
theorem KV.put{kvs:List (κ×V)}{vs:List (κ×Value)}(r:KV kvs vs)(k:κ){y:V}{u:Value}(ry:RelV y u):KV (putK kvs k y) (stored vs k u):=by
 unfold putK stored
 rw[r.any k]
 by_cases e:(vs.any fun kv=>decide (kv.1=k))=true
 ·rw[if_pos e,if_pos e];exact r.repl k ry
 ·rw[if_neg e,if_neg e];exact Paired.snoc r ⟨rfl,ry⟩
theorem KV.drop{kvs:List (κ×V)}{vs:List (κ×Value)}(r:KV kvs vs)(k:κ):KV (dropK kvs k) (without vs k):=by
 unfold KV at r⊢
 unfold dropK without
 induction r with
 |nil=>exact .nil
 | @cons p q ps qs h t ih=>
   obtain⟨h1,h2⟩:=h
   rw[List.filter_cons,List.filter_cons]
   by_cases e:p.1=k
   ·have a:¬decide (p.1≠k)=true:=by simp[e]
    have b:¬decide (q.1≠k)=true:=by simp[h1.symm.trans e]
    rw[if_neg a,if_neg b];exact ih
   ·have e':¬q.1=k:=fun z=>e (h1.trans z)
    have a:decide (p.1≠k)=true:=by simp[e]
    have b:decide (q.1≠k)=true:=by simp[e']
    rw[if_pos a,if_pos b];exact .cons ⟨h1,h2⟩ ih
theorem KV.length{kvs:List (κ×V)}{vs:List (κ×Value)}(r:KV kvs vs):kvs.length=vs.length:=Paired.length r
end
theorem kV_is{P:Program}{w:World}{k:Key}{u:Value}(r:RelV (kV k) u):(mixKind P w).is k u=true:=by
 cases k with
 |inl i=>obtain⟨t,e⟩:=(show∃t,u=Value.int i t from r);subst e;exact mixKind_int P w i t
 |inr x=>obtain⟨t,e⟩:=(show∃t,u=Value.str x t from r);subst e;exact mixKind_str P w x t
section
variable{P:Program}{w:World}{H:Hp}{h:Heap}{a:Addr}
theorem rd_of{u:HO}(ok:HOk P w H h)(e:Rd H a u):ObjOk P w H h a u:=e.ok ok
theorem dk_rd{kvs:List (Key×V)}(ok:HOk P w H h)(e:Rd H a (.dK kvs)):kvs.length<=sizeLine/\(a==sysModules)=false/\∃vs,KV kvs vs/\h.DictOf (mixKind P w) a vs:=
 show ObjOk P w H h a (.dK kvs)from rd_of ok e
theorem dk_of{kvs:List (Key×V)}(ok:HOk P w H h)(e:H a=some (.dK kvs)):kvs.length<=sizeLine/\(a==sysModules)=false/\∃vs,KV kvs vs/\h.DictOf (mixKind P w) a vs:=dk_rd ok (.inl e)
end
def DGet(H:Hp)(a:Addr)(y:V)(r:Option V):Prop:=
 (∃kvs k,Rd H a (.dK kvs)/\y=kV k/\r=valV kvs k)\/∃kvs k b,Rd H a (.dT kvs)/\y= .ref b/\H b=some (.tup (k.map kV))/\r=valV kvs k
def DPut(H:Hp)(a:Addr)(y v:V)(H':Hp):Prop:=
 (∃kvs k,H a=some (.dK kvs)/\y=kV k/\kvs.length<sizeLine/\H'=upd H a (.dK (putK kvs k v)))\/
 ∃kvs k b,H a=some (.dT kvs)/\y= .ref b/\H b=some (.tup (k.map kV))/\kvs.length<sizeLine/\H'=upd H a (.dT (putK kvs k v))
theorem DGet.k{H:Hp}{a:Addr}{kvs:List (Key×V)}{k:Key}(e:H a=some (.dK kvs)):DGet H a (kV k) (valV kvs k):= .inl ⟨kvs,k, .inl e,rfl,rfl⟩
theorem DGet.t{H:Hp}{a b:Addr}{kvs:List (List Key×V)}{k:List Key}(e:H a=some (.dT kvs))(eb:H b=some (.tup (k.map kV))):DGet H a (.ref b) (valV kvs k):= .inr ⟨kvs,k,b, .inl e,rfl,eb,rfl⟩
theorem DPut.k{H:Hp}{a:Addr}{kvs:List (Key×V)}{k:Key}{v:V}(e:H a=some (.dK kvs))(hl:kvs.length<sizeLine):DPut H a (kV k) v (upd H a (.dK (putK kvs k v))):= .inl ⟨kvs,k,e,rfl,hl,rfl⟩
theorem DPut.t{H:Hp}{a b:Addr}{kvs:List (List Key×V)}{k:List Key}{v:V}(e:H a=some (.dT kvs))(eb:H b=some (.tup (k.map kV)))(hl:kvs.length<sizeLine):
 DPut H a (.ref b) v (upd H a (.dT (putK kvs k v))):= .inr ⟨kvs,k,b,e,rfl,eb,hl,rfl⟩
section
variable{X:Cx}{pins:List (Addr×Obj)}{σ:St}{H:Hp}{s:Shared}{a:Addr}{y v:V}{u r:Value}{o:Option V}{A:Around}{E:Value->Shared->Prop}
theorem Inv.big(I:Inv X pins σ H s):sysModules<s.heap.objs.size:=by
 have h:mainGlobals<s.heap.objs.size:=(I.mod.glob.keeps I.bk).lt
 exact Nat.lt_trans (by decide) h
theorem d_write{h':Heap}{t':Nat}{ob:HO}(I:Inv X pins σ H s)(mu:Mut (H a))(hs:Heap.SameBut a s.heap h')(he:∃q,h'.get? a=some q)(new:ObjOk X.prog X.w (upd H a ob) h' a ob):
 Inv X pins σ (upd H a ob) {s with heap:=h',toks:=t'}:=
 I.write (x:=a) (e:=a) mu (.inl rfl) (fun b q hb z=>(hs.2 b hb).trans z) he new
theorem dk_new{P:Program}{w:World}{H':Hp}{h':Heap}{kvs:List (Key×V)}{vs:List (Key×Value)}(z:kvs.length<=sizeLine)(hd:(a==sysModules)=false)(rel:KV kvs vs)(dd:h'.DictOf (mixKind P w) a vs):
 ObjOk P w H' h' a (.dK kvs):=⟨z,hd,vs,rel,dd⟩
end
section
variable{X:Cx}{pins:List (Addr×Obj)}{σ:St}{H:Hp}{s:Shared}{a:Addr}{kvs:List (Key×V)}{k:Key}{u:Value}{A:Around}{E:Value->Shared->Prop}
end
section
variable{X:Cx}{o i e value:Expr}{pos pos' tpos:Pos}{td ty tv:TE}
end
theorem dk_empty{P:Program}{w:World}{H:Hp}(h:Heap)(hb:sysModules<h.objs.size):ObjOk P w H (h.push {cls:= .type "dict",data:= .dict #[]}) h.objs.size (.dK []):=
 ⟨Nat.zero_le _,beq_eq_false_iff_ne.mpr (Ne.symm (Nat.ne_of_lt hb)),[], .nil,Heap.DictOf.new h⟩
def tDNewK:TE:=fun _ H Q=>∀p,H p=none->Q (.ref p) (upd H p (.dK []))
section
variable{X:Cx}{pos:Pos}
theorem pe_dnewK:PE X (.Dict [] [] pos) tDNewK:=fun pins s σ H Q I h=>
 wpAny_Dict_empty ⟨.ref s.heap.objs.size,_,I.laid (a:=s.heap.objs.size) (o:= .dK []) (t':=s.toks) (fun _ _ q=>Heap.get?_push_of_some _ q) (Nat.le_refl _) (dk_empty s.heap I.big),rfl,h _ (I.hok.fresh (Nat.le_refl _))⟩
end
def tPairs:List (TE×TE)->St->Hp->(List (V×V)->Hp->Prop)->Prop
 |[],_,H,Q=>Q [] H
 |(tk,tv)::r,σ,H,Q=>tk σ H fun x H1=>tv σ H1 fun y H2=>tPairs r σ H2 fun ps H3=>Q ((x,y)::ps) H3
abbrev VV:List (V×V)->List (Value×Value)->Prop:=Paired fun p q=>RelV p.1 q.1/\RelV p.2 q.2
def PPs(X:Cx)(pos:Pos)(keys:List (Option Expr))(values:List Expr)(trs:List (TE×TE)):Prop:=
 ∀ (pins:List (Addr×Obj)) (s:Shared) (σ:St) (H:Hp) (Q:List (V×V)->Hp->Prop),Inv X pins σ H s->tPairs trs σ H Q->
   wpAny (model X.prog X.w) X.A (evalPairs (pairTrees keys values X.env pos)) (fun vs s'=>∃ps H',Inv X pins σ H' s'/\VV ps vs/\Q ps H') X.xe s
theorem pps_nil{X:Cx}{pos:Pos}:PPs X pos [] [] []:=fun pins s σ H Q I h=>pairTrees_nil_walk ⟨[],H,I, .nil,h⟩
theorem pps_cons{X:Cx}{pos:Pos}{k v:Expr}{ks:List (Option Expr)}{vs:List Expr}{tk tv:TE}{trs:List (TE×TE)}(hk:PE X k tk)(hv:PE X v tv)(hr:PPs X pos ks vs trs):
 PPs X pos (some k::ks) (v::vs) ((tk,tv)::trs):=fun pins s σ H Q I h=>
 pairTrees_cons_walk (thn (hk pins s σ H _ I h) fun u s1 ⟨x,H1,I1,rx,q1⟩=>thn (hv pins s1 σ H1 _ I1 q1) fun w2 s2 ⟨y,H2,I2,ry,q2⟩=>
  thn (hr pins s2 σ H2 _ I2 q2) fun ws s3 ⟨ps,H3,I3,rel,q3⟩=>⟨(x,y)::ps,H3,I3, .cons ⟨rx,ry⟩ rel,q3⟩)
def mergeK(kvs more:List (Key×V)):List (Key×V):=more.foldl (fun acc kv=>putK acc kv.1 kv.2) kvs
theorem KV.merge:∀ {more:List (Key×V)} {rs:List (Key×Value)} {kvs:List (Key×V)} {vs:List (Key×Value)},KV more rs->KV kvs vs->KV (mergeK kvs more) (merged vs rs):=by
 intro more rs kvs vs r
 unfold KV at r
 induction r generalizing kvs vs with
 |nil=>intro q;exact q
 | @cons p q ps qs h t ih=>
   intro r0
   have e:KV (putK kvs p.1 p.2) (stored vs q.1 q.2):=by
    have:=r0.put p.1 h.2
    rw[<-h.1];exact this
   exact ih e
theorem length_mergeK:∀ (more kvs:List (Key×V)),(mergeK kvs more).length<=kvs.length+more.length
 |[],kvs=>by show kvs.length<=kvs.length+0;omega
 |p::r,kvs=>by
  have h1:=length_mergeK r (putK kvs p.1 p.2)
  have h2:=length_putK kvs p.1 p.2
  show(mergeK (putK kvs p.1 p.2) r).length<=_
  rw[List.length_cons];omega
theorem carries_of{P:Program}{w:World}:∀ {kvs:List (Key×V)} {ws:List (Value×Value)},VV (kvs.map fun kv=>(kV kv.1,kv.2)) ws->∃rs,Carries (mixKind P w) ws rs/\KV kvs rs
 |[],_,r=>by rw[List.map_nil]at r;cases r;exact⟨[],True.intro, .nil⟩
 |p::kvs,_,r=>by
  rw[List.map_cons]at r
  cases r with
  | @cons a b as bs h t=>
    obtain⟨rs,c,q⟩:=carries_of (P:=P) (w:=w) t
    obtain⟨b1,b2⟩:=b
    exact⟨(p.1,b2)::rs,⟨kV_is h.1,rfl,c⟩, .cons ⟨rfl,h.2⟩ q⟩
def tDisp(trs:List (TE×TE)):TE:=fun σ H Q=>∀p,H p=none->tPairs trs σ (upd H p (.dK [])) fun ps H2=>H2 p=some (.dK [])/\∃kvs:List (Key×V),ps=kvs.map (fun kv=>(kV kv.1,kv.2))/\kvs.length<=15/\Q (.ref p) (upd H2 p (.dK (mergeK [] kvs)))
theorem pe_disp{X:Cx}{pos:Pos}{keys:List (Option Expr)}{values:List Expr}{trs:List (TE×TE)}(h:PPs X pos keys values trs)(hall:keys.all (·.isSome)=true)(hl:keys.length=values.length)(h0:keys≠[])
 (h15:keys.length<=15):PE X (.Dict keys values pos) (tDisp trs):=by
 intro pins s σ H Q I q
 have hn:=I.hok.fresh (Nat.le_refl s.heap.objs.size)
 have I1:=I.laid (a:=s.heap.objs.size) (o:= .dK []) (h':=s.heap.push {cls:= .type "dict",data:= .dict #[]}) (t':=s.toks) (fun _ _ q=>Heap.get?_push_of_some _ q) (Nat.le_refl _) (dk_empty s.heap I.big)
 refine wpAny_Dict_walk (knd:=mixKind X.prog X.w) hall hl h0 h15 (thn (h pins _ σ _ _ I1 (q _ hn)) fun ws s2 ⟨ps,H2,I2,rel,e,kvs,ep,lk,q2⟩=>?_)
 subst ep
 obtain⟨rs,c,rk⟩:=carries_of (P:=X.prog) (w:=X.w) rel
 obtain⟨z,hd,vs0,r0,dd⟩:=dk_of I2.hok e
 cases r0
 refine⟨rs,c,dd,fun h' dd' hs=>⟨.ref s.heap.objs.size,_,?_,rfl,q2⟩⟩
 have hz:(mergeK [] kvs).length<=sizeLine:=by
  have h1:=length_mergeK kvs []
  rw[List.length_nil]at h1
  rw[sizeLine_eq];omega
 have he:∃q,h'.get? s.heap.objs.size=some q:=let⟨q,_,_,hq,_⟩:=dd';⟨q,hq⟩
 exact d_write I2 (by rw[e];exact True.intro) hs he (dk_new hz hd (rk.merge .nil) dd')
section
variable{X:Cx}{pins:List (Addr×Obj)}{σ:St}{H:Hp}{s:Shared}{a:Addr}{y d:V}{u r:Value}{o:Option V}{A:Around}{E:Value->Shared->Prop}
end
section
variable{X:Cx}{o e f:Expr}{apos cpos:Pos}{td ty tx:TE}
end
section
variable{X:Cx}{pins:List (Addr×Obj)}{σ:St}{H:Hp}{s:Shared}{a:Addr}{kvs:List (Key×V)}{A:Around}{E:Value->Shared->Prop}
end
section
variable{X:Cx}{pins:List (Addr×Obj)}{σ:St}{H:Hp}{s:Shared}{a:Addr}{y:V}{u:Value}{A:Around}{E:Value->Shared->Prop}
end
section
variable{κ:Type}[DecidableEq κ]
end
inductive Sc:V->PyData->Prop
 |non:Sc .non .none
 |bl (b:Bool):Sc (.bl b) (.bool b)
 |int (i:Int):Sc (.int i) (.int i)
 |str (x:Str):Sc (.str x) (.str x)
def Sck(p:Key×V)(q:PyData×PyData):Prop:=Sc (kV p.1) q.1/\Sc p.2 q.2
theorem Sc.reads{x:V}{d:PyData}{u:Value}{h:Heap}(c:Sc x d)(r:RelV x u):Reads h u d []:=by
 cases c with
 |non=>obtain rfl:u=Value.none:=r;exact .none
 |bl b=>obtain rfl:u=Value.bool b:=r;exact .bool b
 |int i=>obtain⟨t,rfl⟩:=r;exact .int i t
 |str x=>obtain⟨t,rfl⟩:=r;exact .str x t
theorem key_rel{P:Program}{w:World}{k:Key}{u:Value}(h:(mixKind P w).is k u=true):RelV (kV k) u:=by
 rcases keyIs_shape h with⟨i,t,rfl,rfl⟩|⟨x,t,rfl,rfl⟩<;>exact⟨t,rfl⟩
section
variable{X:Cx}{pins:List (Addr×Obj)}{σ:St}{H:Hp}{s:Shared}
theorem pairs_reads{P:Program}{w:World}{h:Heap}:∀ {es:List DictEntry} {vs:List (Key×Value)} {kvs:List (Key×V)} {ds:List (PyData×PyData)},Pairs (mixKind P w) es vs->KV kvs vs->Paired Sck kvs ds->
 ReadsAll h (es.map (·.key)) (ds.map (·.1)) []/\ReadsAll h (es.map (·.val)) (ds.map (·.2)) []
 |[],_,_,_, .nil, .nil, .nil=>⟨.nil, .nil⟩
 |_::_,_::_,_::_,_::_, .cons hk hv pr, .cons r rr, .cons c cr=>by
  obtain⟨i1,i2⟩:=pairs_reads (h:=h) pr rr cr
  obtain⟨rk,rv⟩:=r
  rw[<-rk]at hk
  constructor
  ·have:=ReadsAll.cons (c.1.reads (h:=h) (key_rel hk)) i1
   simpa using this
  ·have:=ReadsAll.cons (c.2.reads (h:=h) (hv▸rv)) i2
   simpa using this
end
def ShOk(d:PyData):Prop:=d.showable=true/\d.shown.length<=sizeLine/\d.depth<=20
theorem text_le:∀ (ts:List Str) (k:Nat) (acc:Str),(textFrom k acc ts).length<=acc.length+piled ts
 |[],_,acc=>by rw[piled_nil];exact Nat.le_refl _
 |t::ts,k,acc=>by
  rw[textFrom,piled_cons]
  refine Nat.le_trans (text_le ts (k+1) _) ?_
  rw[strLen_append,strLen_append]
  have:(Str.ofString (if k>0 then", " else"")).length<=2:=by split<;>decide
  omega
def Low(a:List Nat):Prop:=∀c∈a,c<16^8
theorem repr_le{a:List Nat}(h:Low a):(reprText ⟨a.toArray⟩).length<=10*a.length+2:=by
 have:=StrLaws.reprText_len ⟨a.toArray⟩ (fun c hc=>h c (by simpa using hc))
 simpa[Str.length]using this
theorem paired_of{α β:Type}{F:α->β->Prop}:∀ {l:List α} {m:List β},l.length=m.length->(∀ (i:Nat) x u,l[i]? =some x->m[i]? =some u->F x u)->Paired F l m
 |[],[],_,_=> .nil
 |[],_::_,h,_=>by simp at h
 |_::_,[],h,_=>by simp at h
 |a::l,b::m,h,hf=> .cons (hf 0 a b rfl rfl) (paired_of (by simpa using h) fun i x u h1 h2=>hf (i+1) x u (by simpa using h1) (by simpa using h2))
section
variable{X:Cx}
def rListS:List V->Hp->VK->Prop:=fun xs H Q=>∃a,xs=[tx a]/\a.length<=1000/\∀l,H l=none->Q (.ref l) (upd H l (.lst ((a.map fun c=>[c]).map tx)))
theorem call_listS(K:PySem.W.Frag)(hc:X.calm=true):CallR X (.type "list") rListS:=by
 intro pins s σ H xs us Q I r h
 obtain⟨a,rfl,ha,q⟩:=h
 obtain⟨u,rfl,rx⟩:=vals1 r
 obtain⟨t,rfl⟩:=rx
 refine PySem.call_list_str (I.ok.hd hc) _ t (fun h' tk acc' c' hk e it=>?_) (by rw[sizeLine_eq];show a.toArray.size<=_;rw[List.size_toArray];omega)
 obtain⟨hsz,hit⟩:=it
 have hsz':acc'.size=a.length:=by rw[hsz];simp
 have hv:Vals ((a.map fun c=>[c]).map tx) acc'.toList:=by
  refine paired_of ?_ fun i x u hx hu=>?_
  ·simp[hsz']
  ·have hu':acc'[i]? =some u:=by simpa using hu
   obtain⟨c,t',e1,rfl⟩:=hit i u hu'
   have e2:a[i]? =some c:=by simpa using e1
   rw[List.map_map,List.getElem?_map,e2]at hx
   cases hx
   exact⟨t',rfl⟩
 refine⟨.ref s.heap.objs.size,_,I.laid (t':=tk) (o:= .lst ((a.map fun c=>[c]).map tx)) hk (Nat.le_refl _) ⟨?_,acc'.toList,c',hv,by simpa using e⟩,rfl,q _ (I.hok.fresh (Nat.le_refl _))⟩
 rw[List.length_map,List.length_map,sizeLine_eq];omega
end
theorem sw_lst{es p x l env}:swapsWith (.List es p) x l env=pure false:=rfl
theorem st_con{c z pos es env}:starEach (.Constant c z pos::es) env=(false,eval (.Constant c z pos) env)::starEach es env:=rfl
theorem st_lst{c pos es env}:starEach (.List c pos::es) env=(false,eval (.List c pos) env)::starEach es env:=rfl
theorem st_tup{c z pos es env}:starEach (.Tuple c z pos::es) env=(false,eval (.Tuple c z pos) env)::starEach es env:=rfl
theorem st_dct{c z pos es env}:starEach (.Dict c z pos::es) env=(false,eval (.Dict c z pos) env)::starEach es env:=rfl
theorem st_bin{c o d pos es env}:starEach (.BinOp c o d pos::es) env=(false,eval (.BinOp c o d pos) env)::starEach es env:=rfl
theorem st_una{o c pos es env}:starEach (.UnaryOp o c pos::es) env=(false,eval (.UnaryOp o c pos) env)::starEach es env:=rfl
theorem st_cal{f a k pos es env}:starEach (.Call f a k pos::es) env=(false,eval (.Call f a k pos) env)::starEach es env:=rfl
theorem st_nam{x pos es env}:starEach (.Name x pos::es) env=(false,eval (.Name x pos) env)::starEach es env:=rfl
theorem st_sub{a b pos es env}:starEach (.Subscript a b pos::es) env=(false,eval (.Subscript a b pos) env)::starEach es env:=rfl
inductive Pl (X:Cx):List Expr->List TE->Prop
 |nil:Pl X [] []
 |con {c z p t es ts} (h:PE X (.Constant c z p) t) (r:Pl X es ts):Pl X (.Constant c z p::es) (t::ts)
 |lst {c p t es ts} (h:PE X (.List c p) t) (r:Pl X es ts):Pl X (.List c p::es) (t::ts)
 |tup {c z p t es ts} (h:PE X (.Tuple c z p) t) (r:Pl X es ts):Pl X (.Tuple c z p::es) (t::ts)
 |dct {c z p t es ts} (h:PE X (.Dict c z p) t) (r:Pl X es ts):Pl X (.Dict c z p::es) (t::ts)
 |bin {c o d p t es ts} (h:PE X (.BinOp c o d p) t) (r:Pl X es ts):Pl X (.BinOp c o d p::es) (t::ts)
 |una {o c p t es ts} (h:PE X (.UnaryOp o c p) t) (r:Pl X es ts):Pl X (.UnaryOp o c p::es) (t::ts)
 |cal {f a k p t es ts} (h:PE X (.Call f a k p) t) (r:Pl X es ts):Pl X (.Call f a k p::es) (t::ts)
 |nam {x p t es ts} (h:PE X (.Name x p) t) (r:Pl X es ts):Pl X (.Name x p::es) (t::ts)
 |sub {a b p t es ts} (h:PE X (.Subscript a b p) t) (r:Pl X es ts):Pl X (.Subscript a b p::es) (t::ts)
def tAll:List TE->TA
 |[]=>tNil
 |t::ts=>tCons t (tAll ts)
theorem Pl.pa{X:Cx}{es:List Expr}{ts:List TE}(h:Pl X es ts):PA X es (tAll ts):=by
 induction h with
 |nil=>exact pa_nil
 |con h _ ih=>exact pa_cons h ih st_con
 |lst h _ ih=>exact pa_cons h ih st_lst
 |tup h _ ih=>exact pa_cons h ih st_tup
 |dct h _ ih=>exact pa_cons h ih st_dct
 |bin h _ ih=>exact pa_cons h ih st_bin
 |una h _ ih=>exact pa_cons h ih st_una
 |cal h _ ih=>exact pa_cons h ih st_cal
 |nam h _ ih=>exact pa_cons h ih st_nam
 |sub h _ ih=>exact pa_cons h ih st_sub
theorem ex_consE{X:Cx}{body:List Stmt}{st:Stmt}{rest:List Stmt}{R:TS->Prop}{t:TS}(e:body=st::rest)(h1:PS X st t)(h2:∃u,PSs X rest u/\R (tSeq t u)):∃t,PSs X body t/\R t:=by
 obtain⟨u,a,b⟩:=h2
 exact⟨_,by rw[e];exact pss_cons h1 a,b⟩
theorem ex_oneE{X:Cx}{body:List Stmt}{st:Stmt}{R:TS->Prop}{t:TS}(e:body=[st])(h1:PS X st t)(h2:R t):∃t,PSs X body t/\R t:=⟨_,by rw[e];exact pss_one h1,h2⟩
theorem ps_setL{X:Cx}{st:Stmt}{i:Nat}{x:Str}{es:List Expr}{ts:List TE}{pos pos' p:Pos}(est:st= .Assign [.Name x pos'] (.List es p) pos)(hN:X.N.Nodup)(hi:X.N[i]? =some x)(hx:Loc X.env.scope x)(hf:X.fn x=true\/X.env.scope.names.lookup x=some .local)(hes:Pl X es ts):PS X st (tAsg (tLst (tAll ts)) (gName i)):=by
 subst est
 exact ps_set hN hi hx (pe_lst hes.pa) sw_lst hf
inductive PSb (X:Cx) (st:Stmt) (t:TS):Prop
 |mk (h:PS X st t):PSb X st t
theorem PSb.ps{X:Cx}{st:Stmt}{t:TS}(h:PSb X st t):PS X st t:=h.casesOn fun h=>h
inductive PEb (X:Cx) (e:Expr) (t:TE):Prop
 |mk (h:PE X e t):PEb X e t
theorem PEb.pe{X:Cx}{e:Expr}{t:TE}(h:PEb X e t):PE X e t:=h.casesOn fun h=>h
theorem pe_lstB{X:Cx}{es:List Expr}{ts:List TE}{p:Pos}(h:Pl X es ts):PEb X (.List es p) (tLst (tAll ts)):=⟨pe_lst h.pa⟩
theorem ex_consB{X:Cx}{body:List Stmt}{st:Stmt}{rest:List Stmt}{R:TS->Prop}{t:TS}(e:body=st::rest)(h1:PSb X st t)(h2:∃u,PSs X rest u/\R (tSeq t u)):∃t,PSs X body t/\R t:=
 h1.casesOn fun h=>ex_consE e h h2
theorem ps_setB{X:Cx}{st:Stmt}{i:Nat}{x:Str}{es:List Expr}{ts:List TE}{pos pos' p:Pos}(est:st= .Assign [.Name x pos'] (.List es p) pos)(hN:X.N.Nodup)(hi:X.N[i]? =some x)(hx:Loc X.env.scope x)(hf:X.fn x=true\/X.env.scope.names.lookup x=some .local)(hes:Pl X es ts):PSb X st (tAsg (tLst (tAll ts)) (gName i)):=⟨ps_setL est hN hi hx hf hes⟩
end L2
namespace BrM
open L2 PySem
theorem s_cat{H:Hp}{Q:VK}{a b:Addr}{xs zs:List V}(h1:H a=some (.lst xs))(h2:H b=some (.lst zs))(hz:xs.length+zs.length<=sizeLine)(q:∀p,H p=none->Q (.ref p) (upd H p (.lst (xs++zs)))):rPlus (.ref a) (.ref b) H Q:= .inr (.inr ⟨a,b,xs,zs,rfl,rfl,h1,h2,hz,q⟩)
theorem s_listS{H:Hp}{Q:VK}{a:List Nat}(ha:a.length<=1000)(q:∀l,H l=none->Q (.ref l) (upd H l (.lst ((a.map fun c=>[c]).map tx)))):rListS [tx a] H Q:=⟨a,rfl,ha,q⟩
def Fine(a:List Nat):Prop:=Low a/\a.length<=1000
inductive Th (p:Addr) (H:Hp):V->Prop
 |txt (a:List Nat) (h:Fine a):Th p H (tx a)
 |non:Th p H .non
 |int (i:Int) (h:i=0\/i=7):Th p H (.int i)
 |bl (b:Bool):Th p H (.bl b)
 |lst {q:Addr} {l:List (List Nat)} (h:H q=some (.lst (l.map tx))) (n:q≠p) (f:∀a∈l,Fine a) (z:l.length<=1100):Th p H (.ref q)
 |tup {q:Addr} {l:List (List Nat)} (h:H q=some (.tup (l.map tx))) (n:q≠p) (f:∀a∈l,Fine a) (z:l.length<=1):Th p H (.ref q)
 |dc0 {q:Addr} (h:H q=some (.dK [])) (n:q≠p):Th p H (.ref q)
 |dc1 {q:Addr} {a:List Nat} (h:H q=some (.dK [(.inr ⟨a.toArray⟩, .int 1)])) (n:q≠p) (f:Fine a):Th p H (.ref q)
theorem Th.keep{p:Addr}{H H':Hp}{v:V}(t:Th p H v)(s:SameBut1 p H H'):Th p H' v:=by
 cases t with
 |txt a h=>exact .txt a h
 |non=>exact .non
 |int i h=>exact .int i h
 |bl b=>exact .bl b
 |lst h n f z=>exact .lst (s _ _ h n) n f z
 |tup h n f z=>exact .tup (s _ _ h n) n f z
 |dc0 h n=>exact .dc0 (s _ _ h n) n
 |dc1 h n f=>exact .dc1 (s _ _ h n) n f
theorem Th.same{p:Addr}{H H':Hp}{v:V}(t:Th p H v)(s:Same H H'):Th p H' v:=t.keep (SameBut1.of s)
theorem Th.kind{K:PySem.W.Frag}{p:Addr}{H:Hp}{v:V}(t:Th p H v):(∃a,v=tx a/\Fine a)\/∃T,TyOf K H v (.type T)/\T∈plainTy/\T≠"str":=by
 cases t with
 |txt a h=>exact .inl ⟨a,rfl,h⟩
 |non=>exact .inr ⟨_, .non,by decide,by decide⟩
 |int i h=>exact .inr ⟨_, .int i,by decide,by decide⟩
 |bl b=>exact .inr ⟨_, .bl b,by decide,by decide⟩
 |lst h n f z=>exact .inr ⟨_, .lst h,by decide,by decide⟩
 |tup h n f z=>exact .inr ⟨_, .tup h,by decide,by decide⟩
 |dc0 h n=>exact .inr ⟨_, .dK h,by decide,by decide⟩
 |dc1 h n f=>exact .inr ⟨_, .dK h,by decide,by decide⟩
def rowV(k:Int)(v:V):Bool:=match v with| .str x=>isRow k x.cps.toList|_=>false
theorem rowV_tx(k:Int)(a:List Nat):rowV k (tx a)=isRow k a:=by show isRow k a.toArray.toList=_;simp
def Nw(H:Hp)(v:V):Prop:=∀q,v= .ref q->H q=none
theorem nw_tx(H:Hp)(a:List Nat):Nw H (tx a):=fun q e=>nomatch e
theorem nw_ref{H G:Hp}{p q:Addr}(s:SameBut1 p H G)(h:G q=none)(n:q≠p):Nw H (.ref q):=fun r e=>by
 obtain rfl:q=r:=V.ref.inj e
 cases z:H q with
 |none=>rfl
 |some o=>rw[s q o z n]at h;cases h
theorem Th.upd{p D:Addr}{H:Hp}{v:V}{o:HO}(t:Th p H v)(n:v≠ .ref D):Th p (upd H D o) v:=by
 cases t with
 |txt a h=>exact .txt a h
 |non=>exact .non
 |int i h=>exact .int i h
 |bl b=>exact .bl b
 |lst h m f z=>exact .lst (by rw[upd_ne (fun e=>n (by rw[e]))];exact h) m f z
 |tup h m f z=>exact .tup (by rw[upd_ne (fun e=>n (by rw[e]))];exact h) m f z
 |dc0 h m=>exact .dc0 (by rw[upd_ne (fun e=>n (by rw[e]))];exact h) m
 |dc1 h m f=>exact .dc1 (by rw[upd_ne (fun e=>n (by rw[e]))];exact h) m f
def spNoRow:Sp:=fun vs H Q _=>∃ (p:Addr) (n:Nat) (k:Int) (a:List Nat),vs=[.ref p, .int k,tx a]/\PoolAt H p n/\n<=900000/\a.length<=40/\Low a/\∀v H',Th p H' v->Nw H v->PoolAt H' p (n+4)->SameBut1 p H H'->Q v H'
theorem noRow_use{H:Hp}{p:Addr}{n:Nat}{k:Int}{a:List Nat}{Q:VK}{E:XK}(h:PoolAt H p n)(hn:n<=900000)(ha:a.length<=40)(hl:Low a)(q:∀v H',Th p H' v->Nw H v->PoolAt H' p (n+4)->SameBut1 p H H'->Q v H'):spNoRow ([.ref p, .int k,tx a]++[]) H Q E:=⟨p,n,k,a,rfl,h,hn,ha,hl,q⟩
theorem sgn_low{k:Int}{c:Nat}(h:c∈sgn k):c<16^8:=by
 rcases mem9 (sgn9 h)with rfl|rfl|rfl|rfl|rfl|rfl|rfl|rfl|rfl<;>decide
theorem sgs_iff{k:Int}{c:Nat}(h1:1<=k)(h4:k<=4):c∈sgs k↔c∈sgn k:=by
 refine⟨sgs_sgn h1 h4,fun h=>?_⟩
 have hk:k=1\/k=2\/k=3\/k=4:=by omega
 rcases hk with rfl|rfl|rfl|rfl
 ·exact(show∀c∈sgn 1,c∈sgs 1 by decide) c h
 ·exact(show∀c∈sgn 2,c∈sgs 2 by decide) c h
 ·exact(show∀c∈sgn 3,c∈sgs 3 by decide) c h
 ·exact(show∀c∈sgn 4,c∈sgs 4 by decide) c h
theorem all_same{p:Addr}{H H':Hp}{l:List V}(h:∀v∈l,Th p H v)(s:Same H H'):∀v∈l,Th p H' v:=fun v hv=>(h v hv).same s
theorem all_keep{p:Addr}{H H':Hp}{l:List V}(h:∀v∈l,Th p H v)(s:SameBut1 p H H'):∀v∈l,Th p H' v:=fun v hv=>(h v hv).keep s
theorem all_app{p:Addr}{H:Hp}{l m:List V}(h1:∀v∈l,Th p H v)(h2:∀v∈m,Th p H v):∀v∈l++m,Th p H v:=fun v hv=>(List.mem_append.mp hv).elim (h1 v) (h2 v)
theorem all_nil{p:Addr}{H:Hp}:∀v∈([]:List V),Th p H v:=fun _ z=>nomatch z
theorem all_cons{p:Addr}{H:Hp}{x:V}{l:List V}(h1:Th p H x)(h2:∀v∈l,Th p H v):∀v∈x::l,Th p H v:=fun v hv=>(List.mem_cons.mp hv).elim (fun e=>e▸h1) (h2 v)
theorem at_memV{l:List V}{i:Int}(h0:0<=i)(h1:i<(l.length:Int)):∃v,atI l i=some v/\v∈l:=by
 have hk:i.toNat<l.length:=by omega
 have ek:i=((i.toNat:Nat):Int):=by omega
 have q:atI l ((i.toNat:Nat):Int)=some l[i.toNat]:=atI_nat (List.getElem?_eq_getElem hk)
 rw[<-ek]at q
 exact⟨_,q,List.getElem_mem hk⟩
theorem low_app{a b:List Nat}(h1:Low a)(h2:Low b):Low (a++b):=fun c hc=>(List.mem_append.mp hc).elim (h1 c) (h2 c)
theorem low_one{c:Nat}(h:c<16^8):Low [c]:=fun d hd=>by rw[List.mem_singleton.mp hd];exact h
theorem low_take{a:List Nat}(h:Low a)(i:Nat):Low (a.take i):=fun c hc=>h c (List.mem_of_mem_take hc)
theorem low_drop{a:List Nat}(h:Low a)(i:Nat):Low (a.drop i):=fun c hc=>h c (List.mem_of_mem_drop hc)
theorem low_rep{n:Nat}{b:List Nat}(h:Low b):Low (List.replicate n b).flatten:=fun c hc=>by
 obtain⟨l,hl,hc⟩:=List.mem_flatten.mp hc
 rw[List.eq_of_mem_replicate hl]at hc
 exact h c hc
theorem rep_len(n:Nat)(b:List Nat):(List.replicate n b).flatten.length=n*b.length:=by
 induction n with
 |zero=>simp
 |succ n ih=>rw[List.replicate_succ,List.flatten_cons,List.length_append,ih,Nat.add_mul];omega
theorem fine_put{a:List Nat}{c i j:Nat}(h:Low a)(hl:a.length<=40)(hc:c<16^8):Fine (a.take i++[c]++a.drop j):=by
 refine⟨low_app (low_app (low_take h i) (low_one hc)) (low_drop h j),?_⟩
 simp only[List.length_append,List.length_take,List.length_drop,List.length_singleton];omega
def odd:List Nat:=[33,34,35,36,38,39,42,43,44,45,46,47,48,49,50,51,52,53,54,55,56,57,58,59,61,64,65,66,67,68,69,70,71,72,73,74,75,76,77,78,79,80,81,82,83,84,85,86,87,88,89,90,92,94,95,96,97,98,99,100,101,102,103,104,105,106,107,108,109,110,111,112,113,114,115,116,117,118,119,120,121,122,124,126,32,9,10]
theorem odd_low:Low odd:=by unfold Low odd;decide
theorem brs_low:Low [40,41,91,93,123,125,60,62]:=by unfold Low;decide
theorem nall_app{H:Hp}{l m:List V}(h1:∀v∈l,Nw H v)(h2:∀v∈m,Nw H v):∀v∈l++m,Nw H v:=fun v hv=>(List.mem_append.mp hv).elim (h1 v) (h2 v)
theorem nall_nil{H:Hp}:∀v∈([]:List V),Nw H v:=fun _ z=>nomatch z
theorem nall_cons{H:Hp}{x:V}{l:List V}(h1:Nw H x)(h2:∀v∈l,Nw H v):∀v∈x::l,Nw H v:=fun v hv=>(List.mem_cons.mp hv).elim (fun e=>e▸h1) (h2 v)
end BrM
namespace L2
open PySem PySem.Spec PyProof.Rows
abbrev veTail:List Value:=[.type "ValueError", .type "Exception", .type "BaseException", .type "object"]
structure ECls (K:PySem.W.Frag) (C:Addr):Prop where
 ex:PySem.W.excIn K C veTail "ValueError.__new__"=true
 ty:PySem.W.typeIn K (.ref C)=some (.type "type")
 cs:∃cd,PySem.W.clsIn K C=some cd
 bs:PySem.W.mroIn K C (.type "BaseException")=some true
 ob:PySem.W.mroIn K C (.type "object")=some true
 ga:PySem.W.findIn K (.ref C) "__getattribute__"=some (some (.builtin "BaseException.__getattribute__"))
 gk:PySem.W.findIn K (.ref C) "__getattr__"=some none
 ca:PySem.W.findIn K (.ref C) "__class__"=some (some (.builtin "object.__class__"))
 cn:PySem.W.specialIn K (.builtin "object.__class__") "__get__"=some (some (.builtin "getset_descriptor.__get__"))
 ct:PySem.W.takesIn K (.builtin "object.__class__")=some true
def ExcAt(x C:Addr)(h:Heap):Prop:=∃o vs,h.get? x=some o/\o.cls= .ref C/\o.data= .fields vs
theorem ExcAt.type{x C:Addr}{h:Heap}{M:Model}(e:ExcAt x C h):PySem.W.Looks M h (typeOf (.ref x)) (.ref C):=by
 obtain⟨o,vs,h1,h2,_⟩:=e
 exact h2▸(PySem.W.Looks.ld h1).andThen .now
section
variable{prog:Program}{w:World}{A:Around}{E:Value->Shared->Prop}{s:Shared}{K:PySem.W.Frag}{x C:Addr}
open Builtin Builtin.ObjectAttr Builtin.Getset_descriptor in
theorem exc_gs{R:Result->Shared->Prop}{tp:Value}(Z:ECls K C)(X:K.In s.heap)(e:ExcAt x C s.heap)(h:R (.ok (.ret (.ref C))) s):
 codeAny (model prog w) A (.call (.builtin "getset_descriptor.__get__") ⟨[.builtin "object.__class__", .ref x,tp],[]⟩) R s:=by
 obtain⟨hp,gn,dr,tk,os⟩:=s
 have La:=e.type (M:=model prog w);have Lb:=PySem.W.looks_mroIn (M:=model prog w) X Z.ob
 refine codeAny_call_builtin PySem.W.KF.slot_gs.plain PySem.W.KF.entry_gs (PySem.W.KF.slot_gs.check _ _ _ _ _ _ _ _ PySem.W.KF.type_class (PySem.W.KF.args_gs _ _ _) ?_)
 unfold Builtin.«getset_descriptor.__get__» descrGet;rw[PySem.W.dga_obj];refine wpAny_bind (wpAny_pure ?_)
 unfold descrGetter descrCheckInstance descrNameAndClass isInstance;simp only[PySem.W.KF.owner_class];repeat lk
 refine⟨Code.quiet_builtin _ (by decide +kernel),codeAny_builtin PySem.W.KF.entry_class ?_⟩;unfold Builtin.«object.__class__» shownTypeOf;repeat lk
 exact h
open Builtin Builtin.ObjectAttr in
theorem exc_find{M:Model}{h:Heap}(Z:ECls K C)(X:K.In h):PySem.W.Looks M h (find (.ref x) (.ref C) "__class__") (.bind (.builtin "getset_descriptor.__get__") (.builtin "object.__class__")):=by
 have L1:=PySem.W.looks_findIn (M:=M) X Z.ca
 have L2:PySem.W.Looks M h (getOf (some (.builtin "object.__class__"))) (some (.builtin "getset_descriptor.__get__")):=PySem.W.looks_specialIn X Z.cn
 have L3:=PySem.W.looks_takesIn (M:=M) X Z.ct
 refine L1.andThen (L2.andThen ?_)
 exact(show PySem.W.Looks M h (dataDescriptor? (some (.builtin "object.__class__")) (some (.builtin "getset_descriptor.__get__"))) (some (_,_))from L3.andThen .now).andThen (PySem.W.Looks.tag .now)
theorem exc_ga{h:Heap}{g:Array GenState}{d:Drawn}{t:Nat}{os:OsState}{tk:Tok}{R:Result->Shared->Prop}(Z:ECls K C)(X:K.In h)(e:ExcAt x C h)(hq:R (.ok (.ret (.ref C))) ⟨h,g,d,t,os⟩):
 codeAny (model prog w) A (.call (.builtin "BaseException.__getattribute__") ⟨[.ref x, .str "__class__" tk],[]⟩) R ⟨h,g,d,t,os⟩:=by
 have L0:=e.type (M:=model prog w)
 have L1:=exc_find (x:=x) (M:=model prog w) Z X
 have L2:=PySem.W.looks_mroIn (M:=model prog w) X Z.bs
 have hk:builtinKind "BaseException.__getattribute__"=some .slot:=by decide +kernel
 have hsplit:splitId "BaseException.__getattribute__"=some ("BaseException","__getattribute__"):=by decide +kernel
 have ha:=F.args_bexc_ga (.ref x) (.str "__class__" tk)
 refine codeAny_call_builtin F.attr_ValueError.ga.plain F.entry_bexc_ga ?_
 simp only[checkBuiltinCall,hk,hsplit]
 refine wpAny_bind ?_
 unfold isInstance
 refine wpAny_bind (L0.at (L2.at ?_))
 simp only[Bool.not_true,Bool.false_eq_true,if_false]
 have body:wpAny (model prog w) A.in1 (Builtin.«object.__getattribute__» ⟨[.ref x, .str "__class__" tk],[]⟩) (fun fin s'=>match fin with| .done f=>R (.ok f) s'| .again c'=>c'.quiet=true/\codeAny (model prog w) A c' R s')
  (fun e s'=>R (.error e) s') ⟨h,g,d,t,os⟩:=by
  refine wpAny_bind (wpAny_pure (wpAny_bind (wpAny_pure (wpAny_bind (L0.at (wpAny_bind (L1.at ?_)))))))
  show wpAny _ _ (holding [_] (call (.builtin "getset_descriptor.__get__") [.builtin "object.__class__", .ref x, .ref C])>>=ret) _ _ _
  exact wpAny_bind (wpAny_holding (wpAny_call (exc_gs (s:=⟨h,g,d,t,os⟩) Z X e (wpAny_pure hq))))
 repeat(any_goals(first|assumption|wp_step))
theorem exc_class{Q:Option Value->Shared->Prop}(Z:ECls K C)(X:K.In s.heap)(e:ExcAt x C s.heap)(h:Q (some (.ref C)) {s with toks:=s.toks+1}):wpAny (model prog w) A (getAttr? (.ref x) "__class__") Q E s:=by
 obtain⟨hh,g,d,t,os⟩:=s
 have L0:=e.type (M:=model prog w)
 have L1:=PySem.W.looks_findIn (M:=model prog w) X Z.ga
 have L2:=PySem.W.looks_findIn (M:=model prog w) X Z.gk
 have hb:=F.attr_ValueError.ga.bind (.ref x)
 have hx2:(Value.builtin "BaseException.__getattribute__"==Value.builtin "object.__getattribute__")=false:=by decide +kernel
 unfold getAttr? getAttrBy? getAttrBy
 refine wpAny_bind (wpAny_mkText (wpAny_bind (wpAny_attempt (wpAny_holding (wpAny_bind (L0.at (wpAny_bind (L1.at ?_))))))))
 dsimp only
 rw[if_neg (by rw[hx2];simp)]
 unfold getAttrByItsOwn hookBefore callGetattribute boundAndCalled
 refine wpAny_bind (L2.at (wpAny_bind (wpAny_attempt (wpAny_holding ?_))))
 rw[if_neg (by simp)]
 rw[hb]
 refine wpAny_bind (wpAny_pure (wpAny_call (exc_ga Z X e ?_)))
 exact PySem.W.handed_on rfl (wpAny_pure h)
theorem kitx_exc(Z:ECls K C):PySem.W.KitX K (.ref x) (.ref C) (ExcAt x C) where
 ty:=fun _ _ _ e=>e.type
 it:=fun _ _ X _=>by
  obtain⟨cd,hcd⟩:=Z.cs
  unfold PySem.W.clsIn at hcd
  split at hcd
  ·rename_i ho
   intro A' Q' E' s' k q
   unfold isType loadHead
   exact wpAny_bind (wpAny_loadPart (k _ _ (X _ _ ho)) (wpAny_pure q))
  ·cases hcd
 ne:=fun h tp dd its n sl X htp=>by
  obtain⟨cd,hcd⟩:=Z.cs
  refine Bool.eq_false_iff.mpr fun q=>?_
  have e:C=tp:=Value.ref.inj (beq_iff_eq.mp q)
  subst e
  unfold PySem.W.clsIn at hcd
  split at hcd
  ·rename_i ho
   exact nomatch (X _ _ ho).symm.trans htp
  ·cases hcd
 ca:=fun X e k=>exc_class Z X e k
end
def excO(ob:Obj)(x C:Addr):HO:= .frz ob (.ext (ExcAt x C))
theorem ObjOk.here{P:Program}{w:World}{H:Hp}{h:Heap}{a:Addr}{o:HO}(x:ObjOk P w H h a o):∃ob,h.get? a=some ob:=by
 cases o with
 |lst xs=>obtain⟨_,_,_,_,e⟩:=x;exact⟨_,e⟩
 |tup xs=>obtain⟨_,_,_,_,e,_⟩:=x;exact⟨_,e⟩
 |dK kvs=>obtain⟨_,_,_,_,_,_,_,e,_⟩:=x;exact⟨_,e⟩
 |dT kvs=>obtain⟨_,_,_,_,_,_,_,e,_⟩:=x;exact⟨_,e⟩
 |set S n=>obtain⟨_,_,_,_,e,_⟩:=x;exact⟨_,e⟩
 |ins C dx fs=>obtain⟨_,_,_,e,_⟩:=x;exact⟨_,e⟩
 |own y=>exact x
 |xd fs=>obtain⟨_,⟨_,_,_,e,_⟩,_⟩:=x;exact⟨_,e⟩
 |rng lo hi=>obtain⟨_,_,_,e⟩:=x;exact⟨_,e⟩
 |frz ob u=>obtain⟨e,_⟩:=x;exact⟨_,e⟩
 |tbl ps=>exact⟨_,(show h.get? a=some _ from x)⟩
 |met f y=>exact⟨_,(show h.get? a=some _ from x)⟩
 |ext φ=>obtain⟨_,e,_⟩:=x;exact e
theorem exc_ok{P:Program}{w:World}{H:Hp}{h:Heap}{x C:Addr}{ob:Obj}(g:h.get? x=some ob)(e:ExcAt x C h):ObjOk P w H h x (excO ob x C):=by
 refine⟨g,e,?_,fun h1 h2 p k=>?_⟩
 ·obtain⟨o,_,q,_⟩:=e
  exact⟨o,q⟩
 ·obtain⟨o,vs,q1,q2⟩:=p
  exact⟨o,vs,k _ q1,q2⟩
structure Aloft (P:Program) (w:World) (l:List Env) (H:Hp) (h:Heap) (x C:Addr) (a0:Value) (H':Hp) (B h':Heap):Prop where
 un:Un (frs l) [] H H' h h'
 ok:HOk P w H' B
 stay:∀b o,h.get? b=some o->H b=none->b∉frs l->B.get? b=some o
 here:∀b o,h.get? b=some o->b∉frs l->∃o',B.get? b=some o'
 fl:Heap.FlyingW B l x (.ref C) a0 h'
def CXE(P:Program)(w:World):CXT:=fun outer H s E e s'=>∃ (x C:Addr) (a0:Value) (H':Hp) (B:Heap),e= .ref x/\s'.os=s.os/\AllBare s'.gens/\Aloft P w outer H s.heap x C a0 H' B s'.heap/\E (.ref C) (some x) H'
abbrev XR:=Addr->Addr->St->Hp->Prop
def xk(R:XR)(σ:St):XK:=fun c xo H'=>∃C x,c= .ref C/\xo=some x/\R C x σ H'
def XF(X:Cx)(R:XR)(e:Value)(s':Shared):Prop:=∃ (pins:List (Addr×Obj)) (σ:St) (H:Hp) (s:Shared),Inv X pins σ H s/\CXE X.prog X.w X.stack H s (xk R σ) e s'
def XM(X:Cx)(R:XR)(e:Value)(s':Shared):Prop:=∃ (pins:List (Addr×Obj)) (σ:St) (H:Hp) (s:Shared) (x C:Addr) (args:List Value),e= .ref x/\Inv X pins σ H s/\Heap.MadeExcOf s.heap s'.heap x (.ref C) args/\
 s'.os=s.os/\AllBare s'.gens/\R C x σ H
section
variable{P:Program}{w:World}{l:List Env}{H H':Hp}{h h' h2 B:Heap}{x C:Addr}{a0:Value}
theorem Aloft.newx(q:Aloft P w l H h x C a0 H' B h'):h.get? x=none:=by
 cases e:h.get? x with
 |none=>rfl
 |some o=>
  by_cases hm:x∈frs l
  ·obtain⟨_,o',h1,h2⟩:=q.fl.2.2.1.mem hm
   obtain⟨oe,vs,h3,_,h4,_⟩:=q.fl.first
   rw[h1]at h3;cases h3
   exact absurd h4 (h2 vs)
  ·obtain⟨o',h1⟩:=q.here x o e hm
   rw[q.fl.2.1]at h1;cases h1
theorem Aloft.nox(q:Aloft P w l H h x C a0 H' B h'):H' x=none:=by
 cases e:H' x with
 |none=>rfl
 |some o=>
  obtain⟨ob,h1⟩:=(q.ok x o e).here
  rw[q.fl.2.1]at h1;cases h1
theorem Aloft.on(q:Aloft P w l H h x C a0 H' B h')(up:h'.UpToSlots h2)(fl:Heap.FlyingW B l x (.ref C) a0 h2)(fr:∀b∈frs l,H b=none):Aloft P w l H h x C a0 H' B h2 where
 ok:=q.ok
 stay:=q.stay
 here:=q.here
 fl:=fl
 un:={
  keep:=fun b o e n hb _=>fl.1 b o (q.stay b o e n hb)
  slot:=fun b o e n hb hx=>by
   obtain⟨sl,e1⟩:=q.un.slot b o e n hb hx
   obtain⟨_,o1,e2,nf⟩:=q.fl.2.2.1.mem hb
   rw[e1]at e2;cases e2
   obtain⟨sl2,e3⟩:=up b _ e1 nf
   exact⟨sl2,e3⟩
  free:=q.un.free
  there:=fun b o e hx=>by
   by_cases hb:b∈frs l
   ·obtain⟨sl,e1⟩:=q.un.slot b o e (fr b hb) hb hx
    obtain⟨_,o1,e2,nf⟩:=q.fl.2.2.1.mem hb
    rw[e1]at e2;cases e2
    obtain⟨sl2,e3⟩:=up b _ e1 nf
    exact⟨_,e3⟩
   ·obtain⟨o',e1⟩:=q.here b o e hb
    exact⟨o',fl.1 b o' e1⟩
  tups:=q.un.tups
  frzs:=q.un.frzs
  tbls:=q.un.tbls}
theorem Aloft.caught(q:Aloft P w l H h x C a0 H' B h'):∃ob,Un (frs l) [] H (upd H' x (excO ob x C)) h h'/\HOk P w (upd H' x (excO ob x C)) h':=by
 have nx:=q.newx
 have n':=q.nox
 have bgB:∃b o,1<b/\h'.get? b=some o:=by
  obtain⟨b,o,l,e⟩:=q.ok.bg
  exact⟨b,o,l,q.fl.1 _ _ e⟩
 obtain⟨oe,vs,g1,g2,g3,_⟩:=q.fl.first
 refine⟨oe,⟨q.un.keep,q.un.slot,fun b o e n hx=>?_,q.un.there,fun b xs e=>?_,fun b o u e=>?_,fun b ps e=>?_⟩,⟨fun b u e=>?_,fun u e=>?_,bgB⟩⟩
 ·rw[upd_ne (fun z=>by rw[z,nx]at e;cases e)]
  exact q.un.free b o e n hx
 ·have e':=q.un.tups b xs e
  rw[upd_ne (ne_of_none e' n')];exact e'
 ·have e':=q.un.frzs b o u e
  rw[upd_ne (ne_of_none e' n')];exact e'
 ·obtain⟨more,e'⟩:=q.un.tbls b ps e
  exact⟨more,by rw[upd_ne (ne_of_none e' n')];exact e'⟩
 ·by_cases hb:b=x
  ·subst hb
   rw[upd_same]at e;cases e
   exact exc_ok g1 ⟨oe,vs,g1,g2,g3⟩
  ·rw[upd_ne hb]at e
   exact(q.ok b u e).stay (fun c v _ r=>q.fl.1 c v r) (fun c r=>by rw[upd_ne (ne_of_none r n')];exact r) fun c xs r=>by rw[upd_ne (ne_of_none r n')];exact r
 ·by_cases hb:sysModules=x
  ·rw[hb,upd_same]at e;cases e;exact⟨_,_,rfl⟩
  ·rw[upd_ne hb]at e;exact q.ok.sm u e
end
section
variable{X:Cx}{R:XR}{e:Value}{s':Shared}
structure Cx.Top (X:Cx):Prop where
 stk:X.stack=X.env::X.outer
 fr:X.env.frame=some X.env.locals
 ex:X.ex=[]
theorem Inv.old{pins:List (Addr×Obj)}{σ:St}{H:Hp}{s:Shared}(I:Inv X pins σ H s){b:Addr}{o:Obj}(e:X.s₀.heap.get? b=some o)(hb:b∉X.fs):b∉frs X.stack:=fun z=>by
 rcases List.mem_cons.mp (I.stkSub b z)with q|q
 ·exact absurd (Heap.lt_size e) (by rw[q];exact Nat.not_lt.mpr I.ok.above)
 ·exact hb q
theorem Inv.oldfs{pins:List (Addr×Obj)}{σ:St}{H:Hp}{s:Shared}(T:X.Top){b:Addr}(hb:b∈X.fs):b∈frs X.stack:=by
 rw[T.stk]
 unfold frs
 rw[List.filterMap_cons,T.fr]
 exact List.mem_cons_of_mem _ hb
theorem Aloft.leave{pins:List (Addr×Obj)}{σ:St}{H H':Hp}{s:Shared}{x C:Addr}{a0:Value}{B h1 h':Heap}(T:X.Top)(I:Inv X pins σ H s)(q:Aloft X.prog X.w X.stack H s.heap x C a0 H' B h1)
 (up:h1.UpToSlots h') (fl:Heap.FlyingW B X.outer x (.ref C) a0 h'):Aloft X.prog X.w X.outer X.H₀ X.s₀.heap x C a0 H' B h':=by
 have nex:∀b:Addr,b∉X.ex:=fun b=>by rw[T.ex];simp
 have stay:∀b o,X.s₀.heap.get? b=some o->X.H₀ b=none->b∉X.fs->B.get? b=some o:=fun b o e n hb=>q.stay b o (I.base.keep b o e n hb (nex b)) (I.base.free b o e n (nex b)) (I.old e hb)
 have here:∀b o,X.s₀.heap.get? b=some o->b∉X.fs->∃o',B.get? b=some o':=fun b o e hb=>by
  obtain⟨o1,e1⟩:=I.base.there b o e (nex b)
  exact q.here b o1 e1 (I.old e hb)
 have slot:∀b o,X.s₀.heap.get? b=some o->X.H₀ b=none->b∈X.fs->∃sl,h'.get? b=some {o with slots:=sl}:=fun b o e n hb=>by
  obtain⟨sl,e1⟩:=I.base.slot b o e n hb (nex b)
  obtain⟨sl2,e2⟩:=q.un.any e1 (I.base.free b o e n (nex b)) (by simp)
  obtain⟨_,o3,e3,nf⟩:=q.fl.2.2.1.mem (Inv.oldfs (pins:=pins) (σ:=σ) (H:=H) (s:=s) T hb)
  rw[e2]at e3;cases e3
  obtain⟨sl4,e4⟩:=up b _ e2 nf
  exact⟨sl4,e4⟩
 refine⟨⟨fun b o e n hb _=>fl.1 b o (stay b o e n hb),fun b o e n hb _=>slot b o e n hb,fun b o e n _=>?_,fun b o e _=>?_,fun b xs e=>q.un.tups b xs (I.base.tups b xs e),fun b o u e=>q.un.frzs b o u (I.base.frzs b o u e),fun b ps e=>?_⟩,q.ok,stay,here,fl⟩
 ·have n1:=I.base.free b o e n (nex b)
  obtain⟨o1,e1⟩:=I.base.there b o e (nex b)
  exact q.un.free b o1 e1 n1 (by simp)
 ·by_cases hb:b∈X.fs
  ·obtain⟨sl,e1⟩:=slot b o e (I.ok.frf b hb) hb
   exact⟨_,e1⟩
  ·obtain⟨o1,e1⟩:=here b o e hb
   exact⟨o1,fl.1 b o1 e1⟩
 ·obtain⟨m1,e1⟩:=I.base.tbls b ps e
  obtain⟨m2,e2⟩:=q.un.tbls b _ e1
  exact⟨m1++m2,by rw[e2,Array.append_assoc]⟩
theorem Inv.aloft{pins:List (Addr×Obj)}{σ:St}{H:Hp}{s:Shared}(I:Inv X pins σ H s):HOk X.prog X.w H (PySem.W.hideAll s.heap (frs X.stack)):=by
 refine⟨?_,I.hok.sm,?_⟩
 rotate_left
 ·obtain⟨o,_,_,e,_⟩:=I.ok.mod.glob
  refine⟨mainGlobals,o,by decide,PySem.W.hideAll_get _ (I.bk _ _ e) fun z=>?_⟩
  rw[(I.stack.mem z).1]at e;cases e
 exact fun a o q=>(I.hok a o q).stay (fun b u hb e=>PySem.W.hideAll_get _ e fun z=>by
  have n:=I.stkFree b z
  rcases hb with rfl|hb
  ·rw[q]at n;cases n
  ·rw[hb]at n;cases n) (fun _ z=>z) fun _ _ z=>z
theorem xf_leaves{E':Value->Shared->Prop}(T:X.Top)(h:XF X R e s'):
 wpAny (model X.prog X.w) X.A (leaving X.env e) (fun _ s2=>CXE X.prog X.w X.outer X.H₀ X.s₀ (fun c xo H'=>∃C x σ,c= .ref C/\xo=some x/\R C x σ H') e s2) E' s':=by
 obtain⟨pins,σ,H,s,I,x,C,a0,H',B,rfl,os,bare,q,C',x',e1,e2,r⟩:=h
 refine wpAny_leaves_onW (by rw[I.ok.frames,T.stk]) T.fr (by rw[<-T.stk];exact q.fl) fun h' fl up=>?_
 exact⟨x,_,a0,H',B,rfl,os.trans I.os,bare,q.leave T I up fl,C',x',σ,e1,e2,r⟩
theorem xm_leaves{E':Value->Shared->Prop}(T:X.Top)(h:XM X R e s'):
 wpAny (model X.prog X.w) X.A (leaving X.env e) (fun _ s2=>CXE X.prog X.w X.outer X.H₀ X.s₀ (fun c xo H'=>∃C x σ,c= .ref C/\xo=some x/\R C x σ H') e s2) E' s':=by
 obtain⟨pins,σ,H,s,x,C,args,rfl,I,mk,os,bare,r⟩:=h
 have nex:∀b:Addr,b∉X.ex:=fun b=>by rw[T.ex];simp
 have hin:∀env∈(X.env::X.outer),∀b,env.frame=some b->b∈frs X.stack:=fun env he b hb=>by rw[T.stk];exact List.mem_filterMap.mpr ⟨env,he,hb⟩
 refine wpAny_leaves_madeW (base:=PySem.W.hideAll s.heap (frs X.stack)) (h:=s.heap) (by rw[I.ok.frames,T.stk]) T.fr (fun b o q=>PySem.W.of_hideAll _ q) (PySem.W.funFrames_hide (by rw[<-T.stk];exact I.stack) hin) mk fun h' t fl _ _ up=>?_
 have stay:∀b o,X.s₀.heap.get? b=some o->X.H₀ b=none->b∉X.fs->(PySem.W.hideAll s.heap (frs X.stack)).get? b=some o:=fun b o e n hb=>PySem.W.hideAll_get _ (I.base.keep b o e n hb (nex b)) (I.old e hb)
 have here:∀b o,X.s₀.heap.get? b=some o->b∉X.fs->∃o',(PySem.W.hideAll s.heap (frs X.stack)).get? b=some o':=fun b o e hb=>by
  obtain⟨o1,e1⟩:=I.base.there b o e (nex b)
  exact⟨o1,PySem.W.hideAll_get _ e1 (I.old e hb)⟩
 have slot:∀b o,X.s₀.heap.get? b=some o->X.H₀ b=none->b∈X.fs->∃sl,h'.get? b=some {o with slots:=sl}:=fun b o e n hb=>by
  obtain⟨sl,e1⟩:=I.base.slot b o e n hb (nex b)
  obtain⟨_,o3,e3,nf⟩:=I.stack.mem (Inv.oldfs (pins:=pins) (σ:=σ) (H:=H) (s:=s) T hb)
  rw[e1]at e3;cases e3
  obtain⟨sl4,e4⟩:=up b _ (mk.keeps _ _ e1) nf
  exact⟨sl4,e4⟩
 refine⟨x,C,_,H,_,rfl,os.trans I.os,bare,⟨⟨fun b o e n hb _=>fl.1 b o (stay b o e n hb),fun b o e n hb _=>slot b o e n hb,fun b o e n _=>I.base.free b o e n (nex b),fun b o e _=>?_,I.base.tups,I.base.frzs,I.base.tbls⟩,I.aloft,stay,here,fl⟩,C,x,σ,rfl,rfl,r⟩
 by_cases hb:b∈X.fs
 ·obtain⟨sl,e1⟩:=slot b o e (I.ok.frf b hb) hb
  exact⟨_,e1⟩
 ·obtain⟨o1,e1⟩:=here b o e hb
  exact⟨o1,fl.1 b o1 e1⟩
end
theorem exc_cls{K:PySem.W.Frag}{h:Heap}{C:Addr}(X:K.In h)(q:PySem.W.excIn K C veTail "ValueError.__new__"=true):
 ∃bm N nm qn bs hdct sn sub ab col dd k0 k1 k2 k3 k5 mN,h.get? C=some (excClassObj nm qn C N bs bm hdct sn sub ab col dd k0 k1 k2 k3 k5 "ValueError.__new__")/\h.Ns N mN/\mN "__init__"=none/\OwnTail h veTail bm:=by
 unfold PySem.W.excIn at q
 split at q
 ·rename_i dd cd sl ho
  split at q
  ·rename_i C1 bm k0 k1 k2 k3 n k5 hm hs
   simp only[Bool.and_eq_true,beq_iff_eq,Bool.not_eq_true']at q
   obtain⟨⟨⟨⟨⟨rfl,rfl⟩,hdel⟩,ht⟩,hok⟩,hni⟩:=q
   obtain⟨nm,bs,mro,ns,qn,hd,sn,sub,ab,col,del⟩:=cd
   dsimp only at hm hdel hok hni;subst hm hdel
   obtain⟨sl⟩:=sl
   have e:sl=[k0,k1,k2,k3,some (.builtin "ValueError.__new__"),k5]:=hs
   subst e
   exact⟨bm,ns,nm,qn,bs,hd,sn,sub,ab,col,dd,k0,k1,k2,k3,k5,_,X _ _ ho, .of_isNs (PySem.W.isNs_of_in X hok),PySem.W.nsMap_none_of_in X hok hni,PySem.W.tail_of_in X ht⟩
  ·cases q
 ·cases q
section
variable{X:Cx}{R:XR}{C:Addr}{x:Str}{e:Expr}{es:List Expr}{t:TA}{np cpos pos p:Pos}
def tRaise(C:Addr)(R:XR)(t:TA):TS:=fun _ σ H=>t σ H fun vs H1=>vs.length<=sizeLine/\∀y,H1 y=none->R C y σ H1
theorem ps_raise(Z:ECls X.K C)(hm:X.mg x=some (.ref C))(hh:X.A.handled=none)(hx:∀e s',XM X R e s'->X.xe e s')(ha:PA X (e::es) t)(hg:Gl X x:=by rfl)(hd:(x==("__debug__":Str))=false:=by decide)
 (he:starEach (e::es) X.env=(false,eval e X.env)::starEach es X.env:=by rfl) (hpl:(backTo cpos (starEach es X.env)).any (·.1)=false:=by rfl):
 PS X (.Raise (some (.Call (.Name x np) (e::es) [] cpos)) none pos) (tRaise C R t):=by
 intro pins s σ H D I h
 obtain⟨bm,N,nm,qn,bs,hdct,sn,sub,ab,col,dd,k0,k1,k2,k3,k5,mN,hC,hN,hni,TL⟩:=exc_cls I.ok.mod.kin Z.ex
 refine wpAny_Raise_call_subU (C:=C) (nm:=nm) (q:=qn) (N:=N) (bs:=bs) (bm:=bm) (hdct:=hdct) (sn:=sn) (sub:=sub) (ab:=ab) (col:=col) (dd:=dd) (k0:=k0) (k1:=k1) (k2:=k2) (k3:=k3) (k5:=k5)
  F.excBase_ValueError rfl F.excBase_ValueError (mN:=mN) (TL.hasType F.excBase_ValueError.hasBase) hh ?_ hni (ld_glob I hg hm ⟨rfl,?_⟩ hd)
 ·rw[he];show(false||(backTo cpos (starEach es X.env)).any (·.1))=false;rw[hpl];rfl
 ·have w:=ha cpos pins s σ H _ I h
  rw[he]at w⊢
  refine Calls.evalArgs_plain (thn w fun us s2 ⟨vs,H1,I1,rv,hl,r⟩=>⟨rfl,by show us.length<=_;rw[<-rv.length];exact hl,I1.bk _ _ hC,hN.keeps I1.bk,TL.keeps I1.bk,fun h' y mk=>hx _ _ ?_⟩)
  refine⟨pins,σ,H1,s2,y,C,_,rfl,I1,mk,rfl,I1.bare,r y ?_⟩
  cases q:H1 y with
  |none=>rfl
  |some o=>
   obtain⟨ob,h1⟩:=(I1.hok y o q).here
   rw[mk.new]at h1;cases h1
structure FnUE (P:Program) (w:World) (K:PySem.W.Frag) (mg:Str->Option Value) (base:Heap) (k:Nat) (x:Str) (ps:List Str) (sp:Sp):Prop where
 ex:∃f fd,FnOk P w K mg base (CXE P w) k f fd ps sp/\mg x=some (.ref f)/\PySem.W.keepIn K (.ref f)=true/\Binds K fd ps []
theorem FnUE.mono{P:Program}{w:World}{K:PySem.W.Frag}{mg:Str->Option Value}{base:Heap}{j k:Nat}{ps:List Str}{sp:Sp}(U:FnUE P w K mg base j x ps sp)(h:j<=k):FnUE P w K mg base k x ps sp:=by
 obtain⟨f,fd,F,r⟩:=U.ex
 exact⟨f,fd,F.mono h,r⟩
def tCallE(sp:Sp)(R:XR)(t:TA):TE:=fun σ H Q=>t σ H fun vs H1=>sp vs H1 Q (xk R σ)
theorem pe_fnE{k:Nat}{ps:List Str}{sp:Sp}(U:FnUE X.prog X.w X.K X.mg X.base k x ps sp)(hr:Room k X.A)(hx:∀e s',XF X R e s'->X.xe e s')(ha:PA X (e::es) t)(hg:Gl X x:=by rfl)
 (hdb:(x==("__debug__":Str))=false:=by decide) (he:starEach (e::es) X.env=(false,eval e X.env)::starEach es X.env:=by rfl) (hpl:(backTo pos (starEach es X.env)).any (·.1)=false:=by rfl):
 PE X (.Call (.Name x p) (e::es) [] pos) (tCallE sp R t):=by
 obtain⟨f,fd,F,hm,hk,hb⟩:=U.ex
 intro pins s σ H Q I h
 refine wpAny_Call_Name_kw (ld_glob I hg hm ?_ hdb)
 refine PySem.W.callWith_K (h₀:=X.base) I.ok.mod.kin hk (thn (ha pos pins s σ H _ I h) fun us s1 ⟨vs,H1,I1,r,q⟩=>⟨I1.kIn,?_⟩) he hpl
 have hl:us.length=ps.length:=by rw[<-r.length];exact F.len _ _ _ _ q
 refine wpAny_call (codeAny_mono (F.run X.A X.stack s1 H1 ⟨us,[]⟩ us vs Q (xk R σ) hr I1.env0 ?_ r q) fun res s' hq=>?_)
 ·have z:=hb s1 us I1.kIn (by rw[List.append_nil];exact hl)
  rw[List.append_nil]at z;exact z
 ·cases res with
  |error ev=>exact hx _ _ ⟨pins,σ,H1,s1,I1,hq⟩
  |ok fl=>
   cases fl with
   |ret u=>exact I1.after hq
   |next=>exact False.elim hq
   |brk=>exact False.elim hq
   |cont=>exact False.elim hq
end
section
variable{P:Program}{w:World}{K:PySem.W.Frag}{mg:Str->Option Value}{base:Heap}
def rOf(E:XK):XR:=fun C x _ H'=>E (.ref C) (some x) H'
abbrev cxE(P:Program)(w:World)(K:PySem.W.Frag)(mg:Str->Option Value)(base:Heap)(N:List Str)(qual:Str)(st:Stmt)(f:Addr)(cdv:Value)(A:Around)(outer:List Env)(s:Shared)(H:Hp)(E:XK):Cx:=
 cxOf (CXE P w) P w K mg base N qual (defScope st) f cdv A outer s H E
theorem cxE_top{N:List Str}{qual:Str}{st:Stmt}{f:Addr}{cdv:Value}{A:Around}{outer:List Env}{s:Shared}{H:Hp}{E:XK}:(cxE P w K mg base N qual st f cdv A outer s H E).Top:=⟨rfl,rfl,rfl⟩
theorem cxe_mono{l:List Env}{H:Hp}{s s':Shared}{E E':XK}{e:Value}(h:CXE P w l H s E e s')(k:∀c x H',E c x H'->E' c x H'):CXE P w l H s E' e s':=by
 obtain⟨x,C,a0,H',B,e1,e2,e3,q,r⟩:=h
 exact⟨x,C,a0,H',B,e1,e2,e3,q,k _ _ _ r⟩
theorem cxE_xf{N:List Str}{qual:Str}{st:Stmt}{f:Addr}{cdv:Value}{A:Around}{outer:List Env}{s:Shared}{H:Hp}{E:XK}(e:Value)(s':Shared)
 (h:XF (cxE P w K mg base N qual st f cdv A outer s H E) (rOf E) e s'):(cxE P w K mg base N qual st f cdv A outer s H E).xe e s':=
 wpAny_mono (xf_leaves (E':=fun _ _=>False) cxE_top h) (fun _ _ q=>cxe_mono q fun c x H' ⟨C,y,σ,e1,e2,r⟩=>by subst e1;subst e2;exact r) fun _ _ z=>z.elim
theorem cxE_xm{N:List Str}{qual:Str}{st:Stmt}{f:Addr}{cdv:Value}{A:Around}{outer:List Env}{s:Shared}{H:Hp}{E:XK}(e:Value)(s':Shared)
 (h:XM (cxE P w K mg base N qual st f cdv A outer s H E) (rOf E) e s'):(cxE P w K mg base N qual st f cdv A outer s H E).xe e s':=
 wpAny_mono (xm_leaves (E':=fun _ _=>False) cxE_top h) (fun _ _ q=>cxe_mono q fun c x H' ⟨C,y,σ,e1,e2,r⟩=>by subst e1;subst e2;exact r) fun _ _ z=>z.elim
theorem Fun.okE{x qual:Str}{st:Stmt}{f:Addr}{fd:FuncData}{N ps:List Str}{k:Nat}{sp:Sp}(F:Fun K x qual st f fd)(S:FnScope N ps (defScope st))(len:∀vs H Q E,sp vs H Q E->vs.length=ps.length)
 (hbody:∀ (cdv:Value) (A:Around) (outer:List Env) (s:Shared) (H:Hp) (vs:List V) (Q:VK) (E:XK),Room k (A.deeper (envOfC qual (defScope st) s.heap.objs.size f cdv))->sp vs H Q E->
   ∃t,PSs (cxE P w K mg base N qual st f cdv A outer s H E) (defBody st) t/\t {nx:=fun _ H'=>Q .non H',rt:=Q} (start N vs) H):FnOk P w K mg base (CXE P w) (k+1) f fd ps sp:=by
 obtain⟨oc,od,kV,doc,pm,an,cdv,ct,osl,rfl,lk,hcd⟩:=F.ex
 exact fn_of lk hcd S len fun A outer s H vs Q E hr hsp=>hbody cdv A outer s H vs Q E hr hsp
theorem FnU.e{k:Nat}{x:Str}{ps:List Str}{sp:Sp}(U:FnU P w K mg base k x ps sp):FnUE P w K mg base k x ps sp:=by
 obtain⟨f,fd,F,r⟩:=U.ex
 exact⟨f,fd,⟨F.len,fun A outer s H args us vs Q E h1 h2 h3 h4 h5=>codeAny_mono (F.run A outer s H args us vs Q E h1 h2 h3 h4 h5) fun res s' q=>by
  cases res with
  |error ev=>exact False.elim q
  |ok fl=>cases fl<;>exact q⟩,r⟩
theorem DefAt.fnUE{x:Str}{st:Stmt}{ps:List Str}{f:Addr}{fd:FuncData}{k:Nat}{sp:Sp}(d:DefAt K mg x st ps f fd)(ok:FnOk P w K mg base (CXE P w) k f fd ps sp):FnUE P w K mg base k x ps sp:=
 ⟨f,fd,ok,d.m,d.F.kp,d.b⟩
end
section
variable{M:Model}{A:Around}{E:Value->Shared->Prop}{K:PySem.W.Frag}{x C CR:Addr}
theorem exc_type{h:Heap}(Z:ECls K C)(X:K.In h):PySem.W.Looks M h (isType (.ref C)) true:=by
 obtain⟨cd,hcd⟩:=Z.cs
 unfold PySem.W.clsIn at hcd
 split at hcd
 ·rename_i ho
  intro A' Q' E' s' k q
  unfold isType loadHead
  exact wpAny_bind (wpAny_loadPart (k _ _ (X _ _ ho)) (wpAny_pure q))
 ·cases hcd
theorem exc_matches{s:Shared}{b:Bool}{Q:Bool->Shared->Prop}(ZR:ECls K CR)(X:K.In s.heap)(hb:PySem.W.mroIn K C (.ref CR)=some b)(e:ExcAt x C s.heap)(h:Q b s):wpAny M A (excMatches (.ref x) (.ref CR)) Q E s:=by
 obtain⟨hp,g,d,tk,os⟩:=s
 have L0:=e.type (M:=M)
 have L1:=PySem.W.looks_typeIn (M:=M) X ZR.ty
 have L2:=exc_type (M:=M) ZR X
 have L3:=PySem.W.looks_mroIn (M:=M) X ZR.bs
 have L4:=PySem.W.looks_mroIn (M:=M) X hb
 have f:=tc_notTuple
 unfold excMatches isInstance
 refine wpAny_bind (wpAny_bind (L1.at ?_))
 rw[f]
 refine wpAny_pure ?_
 simp only[Bool.false_eq_true,if_false]
 refine wpAny_bind (wpAny_pure ?_)
 rw[List.forIn_cons]
 unfold isExcClass
 refine wpAny_bind (wpAny_bind (wpAny_bind (wpAny_bind (L2.at ?_))))
 simp only[if_true]
 refine L3.at ?_
 simp only[Bool.not_true,Bool.false_eq_true,if_false]
 refine wpAny_pure ?_
 refine wpAny_pure (wpAny_bind (L0.at ?_))
 rw[List.forIn_cons]
 refine wpAny_bind (wpAny_bind (wpAny_bind (L4.at ?_)))
 cases b with
 |true=>
  simp only[if_true]
  exact wpAny_pure (wpAny_pure (wpAny_pure h))
 |false=>
  simp only[Bool.false_eq_true,if_false]
  exact wpAny_pure (wpAny_pure (wpAny_pure h))
end
abbrev Cx.held(X:Cx)(e:Value):Cx:={X with A:=X.A.mark (some e),calm:=false,xe:=fun _ _=>False}
abbrev Cx.tried(X:Cx)(pn:List (Addr×Obj))(xe:Value->Shared->Prop):Cx:={X with pn:=pn,xe:=xe}
section
variable{X:Cx}{pins:List (Addr×Obj)}{σ:St}{H:Hp}{s:Shared}
theorem Cx.Ok.held(ok:X.Ok)(e:Value):(X.held e).Ok:=
 ⟨ok.mod,ok.kind,ok.glob,ok.blt,ok.above,ok.inj,ok.has,ok.cab,fun z=>(nomatch z),ok.frames,ok.stk,ok.exf,ok.bs,ok.bsz,ok.noex,ok.exfs,ok.funs,ok.frf⟩
theorem Inv.held(I:Inv X pins σ H s)(e:Value):Inv (X.held e) pins σ H s:=⟨I.ok.held e,I.os,I.bare,I.base,I.loc,I.cell,I.free,I.freeC,I.pin,I.hok,I.len⟩
theorem Inv.unheld{e:Value}(ok:X.Ok)(I:Inv (X.held e) pins σ H s):Inv X pins σ H s:=⟨ok,I.os,I.bare,I.base,I.loc,I.cell,I.free,I.freeC,I.pin,I.hok,I.len⟩
theorem Cx.Ok.tried(ok:X.Ok)(pn:List (Addr×Obj))(xe:Value->Shared->Prop):(X.tried pn xe).Ok:=
 ⟨ok.mod,ok.kind,ok.glob,ok.blt,ok.above,ok.inj,ok.has,ok.cab,ok.hd,ok.frames,ok.stk,ok.exf,ok.bs,ok.bsz,ok.noex,ok.exfs,ok.funs,ok.frf⟩
theorem Inv.tried(I:Inv X pins σ H s)(xe:Value->Shared->Prop):Inv (X.tried (X.pn++pins) xe) [] σ H s:=
 ⟨I.ok.tried _ _,I.os,I.bare,I.base,I.loc,I.cell,I.free,I.freeC,fun p hp=>I.pin p (by simpa using hp),I.hok,I.len⟩
theorem Inv.untried{pins':List (Addr×Obj)}{xe:Value->Shared->Prop}(ok:X.Ok)(I:Inv (X.tried (X.pn++pins) xe) pins' σ H s):Inv X pins σ H s:=
 ⟨ok,I.os,I.bare,I.base,I.loc,I.cell,I.free,I.freeC,fun p hp=>I.pin p (List.mem_append_left _ hp),I.hok,I.len⟩
theorem SP.untried{D:Ends}{f:Flow}{xe:Value->Shared->Prop}(ok:X.Ok)(h:SP (X.tried (X.pn++pins) xe) [] D f s):SP X pins D f s:=by
 cases f with
 |next=>obtain⟨σ',H',I,q⟩:=h;exact⟨σ',H',I.untried ok,q⟩
 |brk=>obtain⟨σ',H',I,q⟩:=h;exact⟨σ',H',I.untried ok,q⟩
 |cont=>obtain⟨σ',H',I,q⟩:=h;exact⟨σ',H',I.untried ok,q⟩
 |ret u=>obtain⟨v,σ',H',I,r,q⟩:=h;exact⟨v,σ',H',I.untried ok,r,q⟩
theorem Inv.gone{i:Nat}{n:Str}{h':Heap}{v:Option Value}{m:Str->Option Value}{tk:Nat}(I:Inv X pins σ H s)(hN:X.N.Nodup)(hi:X.N[i]? =some n)
 (hl:∀ (i:Nat) (x:Str) (v:V),X.N[i]? =some x->σ[i]? =some (some v)->Vis X.env.scope x->∃u,RelV v u/\Look X.env s.heap m x u)
 (hn:h'.Ns X.env.locals (fun x=>if x=n then v else m x)) (hs:Heap.SameBut X.env.locals s.heap h'):Inv X pins (σ.set i none) H {s with heap:=h',toks:=tk}:=by
 have ne0:∀b o,X.s₀.heap.get? b=some o->b≠X.env.locals:=fun b o e=>Nat.ne_of_lt (Nat.lt_of_lt_of_le (Heap.lt_size e) I.ok.above)
 have tr:∀b u,H b=some u->b≠X.env.locals:=fun b u e z=>by rw[z,I.free]at e;cases e
 refine⟨I.ok,I.os,I.bare,⟨fun b o e q hb hx=>?_,fun b o e q hb hx=>?_,I.base.free,fun b o e hx=>?_,I.base.tups,I.base.frzs,I.base.tbls⟩,⟨_,hn,fun j y w e1 e2 e3=>?_⟩,fun y c e=>?_,I.free,I.freeC,fun p hp=>?_,⟨fun b u e=>?_,I.hok.sm,let⟨o,_,_,e,_⟩:=I.ok.mod.glob;⟨mainGlobals,o,by decide,(hs.2 _ (ne0 _ o (I.ok.bs _ _ e).1)).trans (I.bk _ _ e)⟩⟩,by simpa using I.len⟩
 ·exact(hs.2 b (ne0 b o e)).trans (I.base.keep b o e q hb hx)
 ·obtain⟨sl,e1⟩:=I.base.slot b o e q hb hx
  exact⟨sl,(hs.2 b (ne0 b o e)).trans e1⟩
 ·obtain⟨o',e1⟩:=I.base.there b o e hx
  exact⟨o',(hs.2 b (ne0 b o e)).trans e1⟩
 ·have hj:j≠i:=fun z=>by
   subst z
   by_cases hlt:j<σ.length
   ·rw[List.getElem?_set_self hlt]at e2;cases e2
   ·rw[List.getElem?_eq_none (by rw[List.length_set];omega)]at e2;cases e2
  rw[List.getElem?_set_ne (Ne.symm hj)]at e2
  obtain⟨u,r,q⟩:=hl j y w e1 e2 e3
  refine⟨u,r,?_⟩
  have ny:y≠n:=fun z=>hj (nodup_ix hN e1 (z▸hi))
  rcases q with⟨k,e⟩|⟨k,c,e,z⟩
  ·exact .inl ⟨k,by show(if y=n then v else m y)=some u;rw[if_neg ny];exact e⟩
  ·exact .inr ⟨k,c,e,z.sameBut hs (I.cne y c e)⟩
 ·obtain⟨w',z⟩:=I.cell y c e
  exact⟨w',z.sameBut hs (I.cne y c e)⟩
 ·obtain⟨e,q,ne,nf,d⟩:=I.pin p hp
  exact⟨(hs.2 p.1 ne).trans e,q,ne,nf,d⟩
 ·refine(I.hok b u e).stay (fun c w' hc r=>(hs.2 c ?_).trans r) (fun _ z=>z) fun _ _ z=>z
  rcases hc with rfl|hc
  ·exact tr _ _ e
  ·exact tr _ _ hc
end
section
variable{X:Cx}{cn en:Str}{CR:Addr}{i:Nat}{body suite:List Stmt}{b₀:Stmt}{np hpos pos:Pos}{tb:XR->TS}{ts:TS}
def endsOff(i:Nat)(D:Ends):Ends:={nx:=fun σ H=>D.nx (σ.set i none) H,rt:=D.rt,bk:=fun σ H=>D.bk (σ.set i none) H,ct:=fun σ H=>D.ct (σ.set i none) H}
def tTry(K:PySem.W.Frag)(i:Nat)(CR:Addr)(tb:XR->TS)(ts:TS):TS:=fun D σ H=>
 tb (fun C x σ' H'=>PySem.W.mroIn K C (.ref CR)=some true/\∀ob,ts (endsOff i D) (σ'.set i (some (.ref x))) (upd H' x (excO ob x C))) D σ H
theorem ps_try(ZR:ECls X.K CR)(hm:X.mg cn=some (.ref CR))(T:X.Top)(hN:X.N.Nodup)(hi:X.N[i]? =some en)(hl:X.env.scope.names.lookup en=some .local)
 (hb:∀ (pn:List (Addr×Obj)) (xe:Value->Shared->Prop) (R:XR),(∀e s',XF (X.tried pn xe) R e s'->xe e s')->PSs (X.tried pn xe) body (tb R))
 (hs:∀e:Value,PSs (X.held e) (b₀::suite) ts) (hg:Gl X cn:=by rfl) (hd:(cn==("__debug__":Str))=false:=by decide):
 PS X (.Try body [.ExceptHandler (some (.Name cn np)) (some en) (b₀::suite) hpos] [] [] pos) (tTry X.K i CR tb ts):=by
 intro pins s σ H D I h
 refine wpAny_Try_except ?_
 refine wpAny_mono (hb (X.pn++pins) _ _ (fun e s1 z=>?_) [] s σ H D (I.tried _) h) (fun f s1 q=>?_) fun e s1 z=>z
 ·obtain⟨pins1,σ1,H1,s1',I1,x,C,a0,H',B,rfl,os,bare,q,C',x',e1,e2,hsub,r⟩:=z
  cases e1;cases e2
  have I1:=I1.untried I.ok
  refine wpAny_looks_onW (by rw[I.ok.frames,T.stk]) T.fr (by rw[<-T.stk];exact q.fl) fun h4 held4 up4=>?_
  refine wpAny_landsW held4 fun h5 fl5 up5=>?_
  have q5:=q.on (up4.trans up5) (by rw[T.stk];exact fl5) I1.stkFree
  have I5:Inv X pins σ1 H' {s1 with heap:=h5}:=I1.call' (ch:=[]) os q5.un (q5.ok.kept q5.fl.1) bare (fun b z=>absurd z (by simp))
  have X5:ExcAt x C h5:=by
   obtain⟨oe,vs,g1,g2,g3,_⟩:=q5.fl.first
   exact⟨oe,vs,g1,g2,g3⟩
  refine wpAny_handleBy_cons (codeAny_handlers_test (ld_glob (X:=X.held (.ref x)) (I5.held _) hg hm ?_ hd)) (by intro z;cases z)
  refine exc_matches ZR I5.kIn hsub X5 ?_
  refine codeAny_handlers_suite_as ?_
  refine lands_againW (base:=B) (l:=X.env::X.outer) (by rw[<-T.stk];exact q5.fl) fun h6 fl6 up6=>?_
  have q6:=q5.on up6 (by rw[T.stk];exact fl6) I1.stkFree
  obtain⟨ob,c6⟩:=q6.caught
  have I6:Inv X pins σ1 (upd H' x (excO ob x C)) {s1 with heap:=h6}:=I1.call' (ch:=[]) os c6.1 c6.2 bare (fun b z=>absurd z (by simp))
  refine store_ok (X:=X.held (.ref x)) (I6.held _) hN hi (.inl hl) (v:= .ref x) rfl (fun s7 I7=>?_) (.inr hl)
  refine wpAny_mono (hs (.ref x) pins s7 _ _ (endsOff i D) I7 (r ob)) (fun f s8 q8=>?_) fun _ _ z=>z.elim
  have go:∀ {σ8:St} {H8:Hp},Inv (X.held (.ref x)) pins σ8 H8 s8->(∀s9,Inv X pins (σ8.set i none) H8 s9->SP X pins D f s9)->wpAny (model X.prog X.w) X.A (do bindName X.env en .none;unbindBehindTheSuite X.env en hpos) (fun _ s9=>SP X pins D f s9) X.xe s8:=fun{σ8 H8} I8 k=>by
   have I8:=I8.unheld I.ok
   obtain⟨m,hn,hlk⟩:=id I8.loc
   refine wpAny_nameGoes_keeps hl hn ?_ fun h9 v hn9 hs9=>k _ (I8.gone hN hi hlk hn9 hs9)
   rw[I.ok.kind];rfl
  cases f with
  |next=>obtain⟨σ8,H8,I8,q9⟩:=q8;exact go I8 fun s9 I9=>⟨_,_,I9,q9⟩
  |brk=>obtain⟨σ8,H8,I8,q9⟩:=q8;exact go I8 fun s9 I9=>⟨_,_,I9,q9⟩
  |cont=>obtain⟨σ8,H8,I8,q9⟩:=q8;exact go I8 fun s9 I9=>⟨_,_,I9,q9⟩
  |ret u=>obtain⟨v,σ8,H8,I8,rv,q9⟩:=q8;exact go I8 fun s9 I9=>⟨_,_,_,I9,rv,q9⟩
 ·have q:=q.untried I.ok
  cases f with
  |next=>exact wpAny_execs_nil q
  |brk=>exact q
  |cont=>exact q
  |ret u=>exact q
end
end L2
namespace L2
open PySem PySem.Spec PyProof.Rows PySem.SeqAt
section
variable{X:Cx}
theorem exc_at{pins:List (Addr×Obj)}{σ:St}{H:Hp}{s:Shared}{x C:Addr}{ob:Obj}(I:Inv X pins σ H s)(h:H x=some (excO ob x C)):ExcAt x C s.heap:=by
 obtain⟨_,p,_⟩:=(show ObjOk X.prog X.w H s.heap x (.frz ob (.ext (ExcAt x C)))from I.hok x _ h)
 exact p
def rIsiE(K:PySem.W.Frag):List V->Hp->VK->Prop:=fun xs H Q=>rIsi K xs H Q\/
 (∃x ob C T b,xs=[.ref x, .ty T]/\H x=some (excO ob x C)/\ECls K C/\PySem.W.kitOne K (.ref C) (.type T)=some b/\Q (.bl b) H)\/
 (∃x ob C D b,xs=[.ref x, .ref D]/\H x=some (excO ob x C)/\ECls K C/\PySem.W.kitOne K (.ref C) (.ref D)=some b/\Q (.bl b) H)\/
 ∃x ob C tp,∃cs:List Addr,∃b,xs=[.ref x, .ref tp]/\H x=some (excO ob x C)/\ECls K C/\H tp=some (.tup (cs.map V.ref))/\PySem.W.kitAny K (.ref C) (cs.map Value.ref)=some b/\Q (.bl b) H
theorem vals_refs:∀ {cs:List Addr} {us:List Value},Vals (cs.map V.ref) us->us=cs.map Value.ref
 |[],_, .nil=>rfl
 |_::_,_, .cons r t=>by rw[show _=Value.ref _ from r,vals_refs t];rfl
theorem call_isiE(K:PySem.W.Frag)(hK:X.K=K:=by rfl):CallR X (.builtin "isinstance") (rIsiE K):=by
 intro pins s σ H xs us Q I r h
 rcases h with h|⟨x,ob,C,T,b,rfl,hx,Z,e,q⟩|⟨x,ob,C,D,b,rfl,hx,Z,e,q⟩|⟨x,ob,C,tp,cs,b,rfl,hx,Z,ht,e,q⟩
 ·exact call_isiA K hK pins s σ H xs us Q I r h
 ·subst hK
  obtain⟨u,v,rfl,ru,rv⟩:=vals2 r
  cases(show u=Value.ref x from ru);cases(show v=Value.type T from rv)
  exact PySem.W.kia_one (kitx_exc Z) I.kIn (exc_at I hx) e (fun z=>nomatch z) fun tk=>⟨.bl b,H,I.tok _,rfl,q⟩
 ·subst hK
  obtain⟨u,v,rfl,ru,rv⟩:=vals2 r
  cases(show u=Value.ref x from ru);cases(show v=Value.ref D from rv)
  exact PySem.W.kia_one (kitx_exc Z) I.kIn (exc_at I hx) e (fun z=>nomatch z) fun tk=>⟨.bl b,H,I.tok _,rfl,q⟩
 ·subst hK
  obtain⟨u,v,rfl,ru,rv⟩:=vals2 r
  cases(show u=Value.ref x from ru);cases(show v=Value.ref tp from rv)
  obtain⟨_,its,rv,⟨oc,od,oda,osl⟩,e1,e2,n,e3⟩:=(show ObjOk X.prog X.w H s.heap tp (.tup (cs.map V.ref))from I.hok tp _ ht)
  dsimp only at e2 e3;subst e2;subst e3
  exact PySem.W.kia_tup (kitx_exc Z) I.kIn (exc_at I hx) e1 (by rw[vals_refs rv];exact e) (fun z=>nomatch z) fun tk=>⟨.bl b,H,I.tok _,rfl,q⟩
theorem s_isiT{K:PySem.W.Frag}{H:Hp}{Q:VK}{x C:Addr}{ob:Obj}{T:String}{b:Bool}(hx:H x=some (excO ob x C))(Z:ECls K C)(e:PySem.W.kitOne K (.ref C) (.type T)=some b)(h:Q (.bl b) H):rIsiE K [.ref x, .ty T] H Q:=
 .inr (.inl ⟨x,ob,C,T,b,rfl,hx,Z,e,h⟩)
theorem s_isiC{K:PySem.W.Frag}{H:Hp}{Q:VK}{x C D:Addr}{ob:Obj}{b:Bool}(hx:H x=some (excO ob x C))(Z:ECls K C)(e:PySem.W.kitOne K (.ref C) (.ref D)=some b)(h:Q (.bl b) H):rIsiE K [.ref x, .ref D] H Q:=
 .inr (.inr (.inl ⟨x,ob,C,D,b,rfl,hx,Z,e,h⟩))
theorem s_isiU{K:PySem.W.Frag}{H:Hp}{Q:VK}{x C tp:Addr}{ob:Obj}{cs:List Addr}{b:Bool}(hx:H x=some (excO ob x C))(Z:ECls K C)(ht:H tp=some (.tup (cs.map V.ref)))(e:PySem.W.kitAny K (.ref C) (cs.map Value.ref)=some b)(h:Q (.bl b) H):
 rIsiE K [.ref x, .ref tp] H Q:= .inr (.inr (.inr ⟨x,ob,C,tp,cs,b,rfl,hx,Z,ht,e,h⟩))
end
structure RoomH (k:Nat) (A:Around):Prop where
 dp:A.depth+3*k+5<recursionLimit
 un:A.units+16*k+200<cLine
 gd:A.guards=some []
theorem Room.h{k:Nat}{A:Around}(r:Room k A)(e:Value):RoomH k (A.mark (some e)):=⟨r.dp,r.un,r.gd⟩
theorem RoomH.deeper{k:Nat}{A:Around}(r:RoomH (k+1) A)(env:Env):RoomH k (A.deeper env):=
 ⟨by have:=r.dp;show A.depth+1+3*k+5<_;omega,by have:=r.un;show A.units+3+16*k+200<_;omega,by first|exact r.gd|simpa[Around.deeper,Around.under,Code.guards,Code.isGuard,guardIds,pushGuards]using r.gd⟩
section
variable{P:Program}{w:World}{K:PySem.W.Frag}{mg:Str->Option Value}{base:Heap}
end
end L2
namespace L2
open PySem PySem.Spec PyProof.Rows
mutual
inductive Sd (p:Addr) (H:Hp):V->PyData->Prop
 |sc {x:V} {d:PyData} (h:Sc x d):Sd p H x d
 |lst {a:Addr} {xs:List V} {ds:List PyData} (h:H a=some (.lst xs)) (n:a≠p) (r:Sds p H xs ds):Sd p H (.ref a) (.list ds)
 |tup {a:Addr} {xs:List V} {ds:List PyData} (h:H a=some (.tup xs)) (n:a≠p) (r:Sds p H xs ds):Sd p H (.ref a) (.tuple ds)
 |dct {a:Addr} {kvs:List (Key×V)} {ds:List (PyData×PyData)} (h:H a=some (.dK kvs)) (n:a≠p) (r:Paired Sck kvs ds):Sd p H (.ref a) (.dict ds)
inductive Sds (p:Addr) (H:Hp):List V->List PyData->Prop
 |nil:Sds p H [] []
 |cons {x:V} {d:PyData} {xs:List V} {ds:List PyData} (h:Sd p H x d) (t:Sds p H xs ds):Sds p H (x::xs) (d::ds)
end
mutual
theorem Sd.keep{p:Addr}{H H':Hp}(s:SameBut1 p H H'):∀ {x:V} {d:PyData},Sd p H x d->Sd p H' x d
 |_,_, .sc h=> .sc h
 |_,_, .lst h n r=> .lst (s _ _ h n) n (Sds.keep s r)
 |_,_, .tup h n r=> .tup (s _ _ h n) n (Sds.keep s r)
 |_,_, .dct h n r=> .dct (s _ _ h n) n r
theorem Sds.keep{p:Addr}{H H':Hp}(s:SameBut1 p H H'):∀ {xs:List V} {ds:List PyData},Sds p H xs ds->Sds p H' xs ds
 |_,_, .nil=> .nil
 |_,_, .cons h t=> .cons (Sd.keep s h) (Sds.keep s t)
end
theorem Sd.same{p:Addr}{H H':Hp}{x:V}{d:PyData}(h:Sd p H x d)(s:Same H H'):Sd p H' x d:=h.keep (SameBut1.of s)
section
variable{X:Cx}{pins:List (Addr×Obj)}{σ:St}{H:Hp}{s:Shared}
theorem sm_ne(I:Inv X pins σ H s){a:Addr}{o:HO}(h:H a=some o)(hf:∀ob u,o≠ .frz ob u):a≠sysModules:=fun z=>by
 subst z
 obtain⟨ob,u,e⟩:=I.hok.sm o h
 exact hf ob u e
mutual
theorem Sd.reads(I:Inv X pins σ H s){p:Addr}:∀ {x:V} {d:PyData} {u:Value},Sd p H x d->RelV x u->∃as,Reads s.heap u d as/\sysModules∉as
 |_,_,_, .sc c,r=>⟨[],c.reads r,fun z=>nomatch z⟩
 |_,_,u, .lst (a:=a) (xs:=xs) h n c,r=>by
  obtain rfl:u=Value.ref a:=r
  obtain⟨_,its,n,rv,e⟩:=(show ObjOk X.prog X.w H s.heap a (.lst xs)from I.hok a _ h)
  obtain⟨as,rd,hs⟩:=Sds.reads I c rv
  refine⟨_, .list e rfl rfl (by simpa using rd),fun z=>?_⟩
  rcases List.mem_cons.mp z with z|z
  ·exact sm_ne I h (fun _ _ q=>nomatch q) z.symm
  ·exact hs z
 |_,_,u, .tup (a:=a) (xs:=xs) h n c,r=>by
  obtain rfl:u=Value.ref a:=r
  obtain⟨_,its,rv,o,e1,e2,n,e3⟩:=(show ObjOk X.prog X.w H s.heap a (.tup xs)from I.hok a _ h)
  obtain⟨as,rd,hs⟩:=Sds.reads I c rv
  exact⟨as, .tuple e1 e2 e3 (by simpa using rd),hs⟩
 |_,_,u, .dct (a:=a) (kvs:=kvs) h n c,r=>by
  obtain rfl:u=Value.ref a:=r
  obtain⟨_,ns,vs,rv,o,es,ep,e1,e2,e3,_,pr,_⟩:=(show ObjOk X.prog X.w H s.heap a (.dK kvs)from I.hok a _ h)
  obtain⟨k1,k2⟩:=pairs_reads (h:=s.heap) pr rv c
  refine⟨_, .dict e1 e2.1 e3 k1 k2,fun z=>?_⟩
  have z':sysModules∈[a]:=by simpa using z
  rw[List.mem_singleton.mp z']at ns
  simp at ns
theorem Sds.reads(I:Inv X pins σ H s){p:Addr}:∀ {xs:List V} {ds:List PyData} {us:List Value},Sds p H xs ds->Vals xs us->∃as,ReadsAll s.heap us ds as/\sysModules∉as
 |_,_,_, .nil, .nil=>⟨[], .nil,fun z=>nomatch z⟩
 |_,_,_, .cons h t, .cons r rs=>by
  obtain⟨as,r1,h1⟩:=Sd.reads I h r
  obtain⟨bs,r2,h2⟩:=Sds.reads I t rs
  exact⟨as++bs, .cons r1 r2,fun z=>(List.mem_append.mp z).elim h1 h2⟩
end
end
def Fit(n m:Nat)(d:PyData):Prop:=d.showable=true/\d.shown.length<=n/\d.depth<=m
theorem Fit.ok{n m:Nat}{d:PyData}(h:Fit n m d)(hn:n<=16777216)(hm:m<=20):ShOk d:=⟨h.1,Nat.le_trans h.2.1 (by rw[sizeLine_eq];omega),Nat.le_trans h.2.2 hm⟩
theorem Fit.mono{n m n' m':Nat}{d:PyData}(h:Fit n m d)(hn:n<=n')(hm:m<=m'):Fit n' m' d:=⟨h.1,Nat.le_trans h.2.1 hn,Nat.le_trans h.2.2 hm⟩
theorem fit_non:Fit 4 1 .none:=⟨rfl,by rw[PyData.shown];decide,by simp[PyData.depth]⟩
theorem fit_bl(b:Bool):Fit 5 1 (.bool b):=⟨rfl,by rw[PyData.shown];cases b<;>decide,by simp[PyData.depth]⟩
theorem log2_small{i:Int}(h:i.natAbs<10^60):i.natAbs.log2<1920:=by
 by_cases h0:i.natAbs=0
 ·rw[h0];decide +kernel
 ·have e:(10^60:Nat)<=2^200:=by decide
  exact Nat.lt_trans ((Nat.log2_lt h0).mpr (Nat.lt_of_lt_of_le h e)) (by decide)
theorem fit_int{i:Int}(h:i.natAbs<10^60):Fit 1921 1 (.int i):=
 ⟨by simpa[PyData.showable]using log2_small h,by rw[PyData.shown];exact int_text_len_1921 (log2_small h),by simp[PyData.depth]⟩
theorem fit_str{a:List Nat}(h:Low a):Fit (10*a.length+2) 1 (.str ⟨a.toArray⟩):=⟨rfl,by rw[PyData.shown];exact repr_le h,by simp[PyData.depth]⟩
theorem fits_all{n m:Nat}:∀ {ds:List PyData},(∀d∈ds,Fit n m d)->PyData.showableAll ds=true/\piled (PyData.shownAll ds)<=ds.length*(n+2)/\PyData.depthAll ds<=m/\(PyData.shownAll ds).length=ds.length
 |[],_=>⟨rfl,by rw[PyData.shownAll,piled_nil];omega,by simp[PyData.depthAll],rfl⟩
 |d::ds,h=>by
  obtain⟨h1,h2,h3⟩:=h d List.mem_cons_self
  obtain⟨i1,i2,i3,i4⟩:=fits_all (ds:=ds) fun e he=>h e (List.mem_cons_of_mem _ he)
  refine⟨by rw[PyData.showableAll,h1,i1];rfl,?_,by rw[PyData.depthAll];exact Nat.max_le.mpr ⟨h3,i3⟩,by rw[PyData.shownAll,List.length_cons,List.length_cons,i4]⟩
  rw[PyData.shownAll,piled_cons,List.length_cons,Nat.add_mul,Nat.one_mul]
  omega
theorem fit_lst{n m:Nat}{ds:List PyData}(h:∀d∈ds,Fit n m d):Fit (ds.length*(n+2)+2) (m+1) (.list ds):=by
 obtain⟨i1,i2,i3,i4⟩:=fits_all h
 refine⟨by rw[PyData.showable];exact i1,?_,by rw[PyData.depth];omega⟩
 rw[PyData.shown]
 unfold listText
 rw[strLen_append]
 have h1:=text_le (PyData.shownAll ds) 0 "["
 have e1:(Str.ofString "[").length=1:=by decide
 have e2:(Str.ofString "]").length=1:=by decide
 omega
theorem fit_tup{n m:Nat}{ds:List PyData}(h:∀d∈ds,Fit n m d):Fit (ds.length*(n+2)+3) (m+1) (.tuple ds):=by
 obtain⟨i1,i2,i3,i4⟩:=fits_all h
 refine⟨by rw[PyData.showable];exact i1,?_,by rw[PyData.depth];omega⟩
 rw[PyData.shown]
 unfold tupleText
 rw[strLen_append,strLen_append]
 have e1:(Str.ofString "(").length=1:=by decide
 have e2:(Str.ofString (if(PyData.shownAll ds).length==1 then",)" else")")).length<=2:=by split<;>decide
 by_cases hz:PyData.shownAll ds=[]
 ·rw[hz]at e2⊢
  have:(Str.join ", " []).length=0:=by decide
  omega
 ·have:=join_length_add _ hz
  omega
theorem fit_dc0:Fit 2 2 (.dict []):=⟨rfl,by rw[PyData.shown];decide +kernel,by simp[PyData.depth,PyData.depthKv]⟩
theorem fit_dc1{n m:Nat}{k v:PyData}(h1:Fit n m k)(h2:Fit n m v):Fit (2*n+4) (m+1) (.dict [(k,v)]):=by
 refine⟨by simp only[PyData.showable,PyData.showableKv,h1.1,h2.1,Bool.and_self],?_,?_⟩
 ·rw[PyData.shown,PyData.shownKv,PyData.shownKv]
  unfold dictText
  rw[strLen_append,strLen_append,piled1',strLen_append,strLen_append]
  have a:=h1.2.1
  have b:=h2.2.1
  have e1:(Str.ofString "{").length=1:=by decide
  have e2:(Str.ofString "}").length=1:=by decide
  have e3:(Str.ofString ": ").length=2:=by decide
  omega
 ·have a:=h1.2.2
  have b:=h2.2.2
  simp only[PyData.depth,PyData.depthKv]
  omega
where
 piled1':∀ {x:Str},(Str.join ", " [x]).length=x.length:=fun{x}=>rfl
def Dt(p:Addr)(n m:Nat)(H:Hp)(v:V):Prop:=∃d,Sd p H v d/\Fit n m d
theorem Dt.keep{p:Addr}{n m:Nat}{H H':Hp}{v:V}(h:Dt p n m H v)(s:SameBut1 p H H'):Dt p n m H' v:=let⟨d,a,b⟩:=h;⟨d,a.keep s,b⟩
theorem Dt.same{p:Addr}{n m:Nat}{H H':Hp}{v:V}(h:Dt p n m H v)(s:Same H H'):Dt p n m H' v:=let⟨d,a,b⟩:=h;⟨d,a.same s,b⟩
theorem dt_non{p:Addr}{n m:Nat}{H:Hp}(hn:4<=n)(hm:1<=m):Dt p n m H .non:=⟨_, .sc .non,fit_non.mono hn hm⟩
theorem dt_bl{p:Addr}{n m:Nat}{H:Hp}{b:Bool}(hn:5<=n)(hm:1<=m):Dt p n m H (.bl b):=⟨_, .sc (.bl b),(fit_bl b).mono hn hm⟩
theorem dt_int{p:Addr}{n m:Nat}{H:Hp}{i:Int}(h:i.natAbs<10^60)(hn:1921<=n)(hm:1<=m):Dt p n m H (.int i):=⟨_, .sc (.int i),(fit_int h).mono hn hm⟩
theorem dt_tx{p:Addr}{n m:Nat}{H:Hp}{a:List Nat}(h:Low a)(hn:10*a.length+2<=n)(hm:1<=m):Dt p n m H (tx a):=⟨_, .sc (.str _),(fit_str h).mono hn hm⟩
theorem dts{p:Addr}{n m:Nat}{H:Hp}:∀ {xs:List V},(∀x∈xs,Dt p n m H x)->∃ds,Sds p H xs ds/\(∀d∈ds,Fit n m d)/\ds.length=xs.length
 |[],_=>⟨[], .nil,(fun _ z=>nomatch z),rfl⟩
 |x::xs,h=>by
  obtain⟨d,a,b⟩:=h x List.mem_cons_self
  obtain⟨ds,i1,i2,i3⟩:=dts (xs:=xs) fun y hy=>h y (List.mem_cons_of_mem _ hy)
  exact⟨d::ds, .cons a i1,fun e he=>(List.mem_cons.mp he).elim (fun z=>z▸b) (i2 e),by simp[i3]⟩
theorem dt_lst{p a:Addr}{n m n' m':Nat}{H:Hp}{xs:List V}(h:H a=some (.lst xs))(na:a≠p)(hx:∀x∈xs,Dt p n m H x)(hn:xs.length*(n+2)+2<=n')(hm:m+1<=m'):Dt p n' m' H (.ref a):=by
 obtain⟨ds,i1,i2,i3⟩:=dts hx
 exact⟨_, .lst h na i1,(fit_lst i2).mono (by rw[i3];exact hn) hm⟩
theorem dt_tup{p a:Addr}{n m n' m':Nat}{H:Hp}{xs:List V}(h:H a=some (.tup xs))(na:a≠p)(hx:∀x∈xs,Dt p n m H x)(hn:xs.length*(n+2)+3<=n')(hm:m+1<=m'):Dt p n' m' H (.ref a):=by
 obtain⟨ds,i1,i2,i3⟩:=dts hx
 exact⟨_, .tup h na i1,(fit_tup i2).mono (by rw[i3];exact hn) hm⟩
theorem dt_dc0{p a:Addr}{n m:Nat}{H:Hp}(h:H a=some (.dK []))(na:a≠p)(hn:2<=n)(hm:2<=m):Dt p n m H (.ref a):=⟨_, .dct h na .nil,fit_dc0.mono hn hm⟩
theorem dt_dc1{p a:Addr}{b:List Nat}{i:Int}{n m n' m':Nat}{H:Hp}(h:H a=some (.dK [(.inr ⟨b.toArray⟩, .int i)]))(na:a≠p)(hb:Fit n m (.str ⟨b.toArray⟩))(hi:Fit n m (.int i))(hn:2*n+4<=n')(hm:m+1<=m'):Dt p n' m' H (.ref a):=
 ⟨.dict [(.str ⟨b.toArray⟩, .int i)], .dct h na (.cons ⟨.str _, .int i⟩ .nil),(fit_dc1 hb hi).mono hn hm⟩
theorem allD_nil{P:V->Prop}:∀x∈([]:List V),P x:=fun _ z=>nomatch z
theorem allD_cons{P:V->Prop}{y:V}{l:List V}(h1:P y)(h2:∀x∈l,P x):∀x∈y::l,P x:=fun x hx=>(List.mem_cons.mp hx).elim (fun e=>e▸h1) (h2 x)
theorem allD_app{P:V->Prop}{l m:List V}(h1:∀x∈l,P x)(h2:∀x∈m,P x):∀x∈l++m,P x:=fun x hx=>(List.mem_append.mp hx).elim (h1 x) (h2 x)
end L2
namespace L2
open PySem PySem.Spec PyProof.Rows BrM BrR BrS BrC
structure Cs where
 RowError:Addr
 NoKinds:Addr
 NoLine:Addr
 NotRight:Addr
 NoTree:Addr
 NoNumber:Addr
 NoWeights:Addr
 NoPlace:Addr
 NoFilling:Addr
 TooMany:Addr
 NoName:Addr
 NoRow:Addr
def eclsB(K:PySem.W.Frag)(C:Addr):Bool:=PySem.W.excIn K C veTail "ValueError.__new__"&&(PySem.W.typeIn K (.ref C)==some (.type "type"))&&(PySem.W.clsIn K C).isSome&&(PySem.W.mroIn K C (.type "BaseException")==some true)&&
 (PySem.W.mroIn K C (.type "object")==some true)&&(PySem.W.findIn K (.ref C) "__getattribute__"==some (some (.builtin "BaseException.__getattribute__")))&&(PySem.W.findIn K (.ref C) "__getattr__"==some none)&&
 (PySem.W.findIn K (.ref C) "__class__"==some (some (.builtin "object.__class__")))&&(PySem.W.specialIn K (.builtin "object.__class__") "__get__"==some (some (.builtin "getset_descriptor.__get__")))&&(PySem.W.takesIn K (.builtin "object.__class__")==some true)
theorem ecls_of{K:PySem.W.Frag}{C:Addr}(h:eclsB K C=true):ECls K C:=by
 unfold eclsB at h
 simp only[Bool.and_eq_true,beq_iff_eq]at h
 obtain⟨⟨⟨⟨⟨⟨⟨⟨⟨h1,h2⟩,h3⟩,h4⟩,h5⟩,h6⟩,h7⟩,h8⟩,h9⟩,h10⟩:=h
 exact⟨h1,h2,Option.isSome_iff_exists.mp h3,h4,h5,h6,h7,h8,h9,h10⟩
theorem pe_cl{X:Cx}{x:Str}{C:Addr}{pos:Pos}(h:X.mg x=some (.ref C))(hg:Gl X x:=by rfl)(hd:(x==("__debug__":Str))=false:=by decide):PE X (.Name x pos) (tC (.ref C)):=pe_gl (v:= .ref C) ⟨_,h,rfl⟩ hg hd
theorem boot_ValueError:bootBuiltins "ValueError"=some (.type "ValueError"):=by decide +kernel
def rNo:XR:=fun _ _ _ _=>False
theorem xf_no{X:Cx}(e:Value)(s':Shared)(h:XF X rNo e s'):X.xe e s':=by
 obtain⟨_,_,_,_,_,_,_,_,_,_,_,_,_,_,_,_,_,_,r⟩:=h
 exact r.elim
theorem nox_ex{X:Cx}{b:List Stmt}{R:TS->Prop}(h:∃t,PSs X.nox b t/\R t):∃t,PSs X b t/\R t:=let⟨t,p,r⟩:=h;⟨t,p.nox,r⟩
theorem PS.nox{X:Cx}{st:Stmt}{t:TS}(h:PS X.nox st t):PS X st t:=fun pins s σ H D I hw=>
 wpAny_mono (h pins s σ H D (I.wish _) hw) (fun _ _ q=>q.unwish) fun _ _ z=>False.elim z
section
variable{σ:St}{H:Hp}{Q:VK}{D:Ends}
theorem s_callE{sp:Sp}{R:XR}{t:TA}(h:t σ H fun vs H1=>sp vs H1 Q (xk R σ)):tCallE sp R t σ H Q:=h
theorem s_raise{C:Addr}{R:XR}{t:TA}(h:t σ H fun vs H1=>vs.length<=sizeLine/\∀y,H1 y=none->R C y σ H1):tRaise C R t D σ H:=h
theorem s_try{K:PySem.W.Frag}{i:Nat}{CR:Addr}{tb:XR->TS}{ts:TS}
 (h:tb (fun C x σ' H'=>PySem.W.mroIn K C (.ref CR)=some true/\∀ob,ts (endsOff i D) (σ'.set i (some (.ref x))) (upd H' x (excO ob x C))) D σ H):tTry K i CR tb ts D σ H:=h
end
def Ref(E:XK)(C:Addr)(H:Hp):Prop:=∀y H',Same H H'->H y=none->E (.ref C) (some y) H'
theorem Ref.pass{E:XK}{C:Addr}{H H1:Hp}{σ:St}(r:Ref E C H)(s:Same H H1):Ref (xk (rOf E) σ) C H1:=fun y H' s' h=>⟨C,y,rfl,rfl,r y H' (s.trans s') (s.free h)⟩
theorem s_neS{K:PySem.W.Frag}{H:Hp}{Q:VK}{x y:V}(hs:scal x y=true)(h:Q (.bl (!decide (x=y))) H):rNeA K x y H Q:= .inl ⟨hs,h⟩
theorem same_exc{H H':Hp}{y:Addr}{o:HO}(s:Same H H')(n:H y=none):Same H (upd H' y o):=fun b u z=>by rw[upd_ne (ne_of_none z n)];exact s b u z
theorem ref_of{R:XR}{σ:St}{C:Addr}{H:Hp}(h:∀y H',Same H H'->H y=none->R C y σ H'):Ref (xk R σ) C H:=fun y H' s n=>⟨C,y,rfl,rfl,h y H' s n⟩
def NoN(K:PySem.W.Frag)(lo hi:Int)(H:Hp)(v:V):Prop:=∃ty,TyOf K H v (.type ty)/\ty∈plainTy/\∀i,v= .int i->i<lo\/hi<i
abbrev NoK(K:PySem.W.Frag):Hp->V->Prop:=NoN K 1 4
def NoL(K:PySem.W.Frag)(k:Int)(H:Hp)(v:V):Prop:=(∃a,v=tx a/\a.length<=1000/\isRow k a=false)\/∃ty,TyOf K H v (.type ty)/\ty∈plainTy/\ty≠"str"
theorem TyOf.same{K:PySem.W.Frag}{H H':Hp}{v:V}{t:Value}(h:TyOf K H v t)(s:Same H H'):TyOf K H' v t:=by
 cases h with
 |non=>exact .non
 |bl x=>exact .bl x
 |int i=>exact .int i
 |str x=>exact .str x
 |flt x=>exact .flt x
 |lst e=>exact .lst (s _ _ e)
 |frz e=>exact .frz (s _ _ e)
 |tup e=>exact .tup (s _ _ e)
 |dK e=>exact .dK (s _ _ e)
 |dT e=>exact .dT (s _ _ e)
 |ins e cl ha hn htk hm=>exact .ins (s _ _ e) cl ha hn htk hm
theorem TyOf.keep{K:PySem.W.Frag}{p:Addr}{H H':Hp}{v:V}{t:Value}(h:TyOf K H v t)(n:∀a,v= .ref a->a≠p)(s:SameBut1 p H H'):TyOf K H' v t:=by
 cases h with
 |non=>exact .non
 |bl x=>exact .bl x
 |int i=>exact .int i
 |str x=>exact .str x
 |flt x=>exact .flt x
 |lst e=>exact .lst (s _ _ e (n _ rfl))
 |frz e=>exact .frz (s _ _ e (n _ rfl))
 |tup e=>exact .tup (s _ _ e (n _ rfl))
 |dK e=>exact .dK (s _ _ e (n _ rfl))
 |dT e=>exact .dT (s _ _ e (n _ rfl))
 |ins e cl ha hn htk hm=>exact .ins (s _ _ e (n _ rfl)) cl ha hn htk hm
theorem Dt.ne{p:Addr}{n m:Nat}{H:Hp}{v:V}(h:Dt p n m H v)(a:Addr)(e:v= .ref a):a≠p:=by
 obtain⟨d,h,_⟩:=h
 subst e
 cases h with
 |sc c=>cases c
 |lst _ n _=>exact n
 |tup _ n _=>exact n
 |dct _ n _=>exact n
theorem TyOf.int_of{K:PySem.W.Frag}{H:Hp}{v:V}{t:Value}(h:TyOf K H v t)(e:t= .type "int"):∃i,v= .int i:=by
 cases h<;>first|exact⟨_,rfl⟩|(injection e with e;exact absurd e (by decide))|cases e
theorem NoN.same{K:PySem.W.Frag}{lo hi:Int}{H H':Hp}{v:V}(h:NoN K lo hi H v)(s:Same H H'):NoN K lo hi H' v:=let⟨ty,a,b⟩:=h;⟨ty,a.same s,b⟩
theorem NoL.same{K:PySem.W.Frag}{k:Int}{H H':Hp}{v:V}(h:NoL K k H v)(s:Same H H'):NoL K k H' v:=h.elim .inl fun⟨ty,a,b⟩=> .inr ⟨ty,a.same s,b⟩
theorem NoN.keep{K:PySem.W.Frag}{lo hi:Int}{p:Addr}{n m:Nat}{H H':Hp}{v:V}(h:NoN K lo hi H v)(d:Dt p n m H v)(s:SameBut1 p H H'):NoN K lo hi H' v:=let⟨ty,a,b⟩:=h;⟨ty,a.keep d.ne s,b⟩
theorem NoL.keep{K:PySem.W.Frag}{k:Int}{p:Addr}{n m:Nat}{H H':Hp}{v:V}(h:NoL K k H v)(d:Dt p n m H v)(s:SameBut1 p H H'):NoL K k H' v:=h.elim .inl fun⟨ty,a,b⟩=> .inr ⟨ty,a.keep d.ne s,b⟩
def Gate(K:PySem.W.Frag)(cs:Cs)(H:Hp)(E:XK)(kv v:V):Prop:=(NoK K H kv/\Ref E cs.NoKinds H)\/∃k:Int,kv= .int k/\1<=k/\k<=4/\NoL K k H v/\Ref E cs.NoLine H
theorem Gate.pass{K:PySem.W.Frag}{cs:Cs}{H H1:Hp}{E:XK}{kv v:V}{σ:St}(g:Gate K cs H E kv v)(s:Same H H1):Gate K cs H1 (xk (rOf E) σ) kv v:=
 g.elim (fun⟨a,r⟩=> .inl ⟨a.same s,r.pass s⟩) fun⟨k,e,h1,h2,a,r⟩=> .inr ⟨k,e,h1,h2,a.same s,r.pass s⟩
def spKindsE(K:PySem.W.Frag)(cs:Cs):Sp:=fun vs H Q E=>spKinds vs H Q E\/∃v,vs=[v]/\NoK K H v/\Ref E cs.NoKinds H
def spLineE(K:PySem.W.Frag)(cs:Cs):Sp:=fun vs H Q E=>spLine K vs H Q E\/∃kv v,vs=[kv,v]/\NoK K H kv/\Ref E cs.NoKinds H
def spGateE(K:PySem.W.Frag)(cs:Cs)(sp:Sp):Sp:=fun vs H Q E=>sp vs H Q E\/∃kv v,vs=[kv,v]/\Gate K cs H E kv v
theorem noRow_use'{K:PySem.W.Frag}{cs:Cs}{H:Hp}{Q:VK}{E:XK}{k:Int}{v:V}(h1:1<=k)(h2:k<=4)(n:NoL K k H v)(q:∀H',Same H H'->Q (.bl false) H'):spLineE K cs [.int k,v] H Q E:=by
 refine .inl ⟨k,v,rfl,h1,h2,?_⟩
 rcases n with⟨a,rfl,ha,hr⟩|⟨ty,a,b,c⟩
 ·exact .inl ⟨a,rfl,ha,fun H' s=>by rw[hr];exact q H' s⟩
 ·exact .inr ⟨ty,a,b,c,q H (Same.refl H)⟩
end L2
namespace L2
open PySem PySem.Spec PyProof.Rows
theorem SqL.ty{K:PySem.W.Frag}{H:Hp}{p:Addr}{xs:List V}(h:SqL K H p xs):tyV K "list" (.ref p) H:= .inl ⟨rfl,_,h⟩
end L2
namespace BrS
open L2 PySem BrM BrC BrR
def Po(H:Hp)(p:Addr):Prop:=∃a b c:Int,H p=some (.lst [.int a, .int b, .int c])
theorem Po.keep{H H':Hp}{p q:Addr}(h:Po H p)(s:SameBut1 q H H')(n:p≠q):Po H' p:=let⟨a,b,c,e⟩:=h;⟨a,b,c,s _ _ e n⟩
theorem Po.ne{H:Hp}{p q:Addr}(h:Po H p)(hq:H q=none):q≠p:=let⟨_,_,_,e⟩:=h;(ne_of_none e hq).symm
theorem noN_ty{K:PySem.W.Frag}{lo hi:Int}{H:Hp}{v:V}{ty:String}(h:TyOf K H v (.type ty))(hp:ty∈plainTy)(hn:∀i,v= .int i->i<lo\/hi<i):NoN K lo hi H v:=⟨ty,h,hp,hn⟩
theorem noN_int{K:PySem.W.Frag}{lo hi:Int}{H:Hp}{i:Int}(h:i<lo\/hi<i):NoN K lo hi H (.int i):=⟨"int", .int i,by decide,fun j e=>by cases e;exact h⟩
def gd:V->Bool
 | .int i=>decide (0<=i)
 |_=>false
def Pln(K:PySem.W.Frag)(H:Hp)(v:V):Prop:=∃ty,TyOf K H v (.type ty)/\ty∈plainTy
def NoW(K:PySem.W.Frag)(k:Int)(H:Hp)(v:V):Prop:=(∃ty,TyOf K H v (.type ty)/\ty∈plainTy/\ty≠"list")\/
 ∃q xs,v= .ref q/\H q=some (.lst xs)/\xs.length<=1000/\((xs.length:Int)≠2*k\/((∀x∈xs,Pln K H x)/\∃x∈xs,gd x=false))
def NoB(K:PySem.W.Frag)(k:Int)(H:Hp)(v:V):Prop:=(∃a,v=tx a/\a.length<=1000/\∀c,a=[c]->c∉brs.take (2*k).toNat)\/∃ty,TyOf K H v (.type ty)/\ty∈plainTy/\ty≠"str"
theorem sm_zero(k:Nat):sm k (fun _=>0)=0:=by
 induction k with
 |zero=>rfl
 |succ k ih=>rw[sm,ih];rfl
def rTupA(K:PySem.W.Frag):List V->Hp->VK->Prop:=fun xs H Q=>∃p ys,xs=[.ref p]/\((SqL K H p ys/\∀l,H l=none->Q (.ref l) (upd H l (.tup ys)))\/(SqT K H p ys/\Q (.ref p) H))
theorem call_tupleA{X:Cx}(K:PySem.W.Frag)(hK:X.K=K:=by rfl):CallR X (.type "tuple") (rTupA K):=by subst hK;exact call_tuple_of
theorem s_tupL{K:PySem.W.Frag}{H:Hp}{Q:VK}{p:Addr}{ys:List V}(h:SqL K H p ys)(q:∀l,H l=none->Q (.ref l) (upd H l (.tup ys))):rTupA K [.ref p] H Q:=⟨p,ys,rfl, .inl ⟨h,q⟩⟩
theorem sd_ne{p:Addr}{H:Hp}{v:V}{d:PyData}(h:Sd p H v d)(a:Addr)(e:v= .ref a):a≠p:=by
 subst e
 cases h with
 |sc c=>cases c
 |lst _ n _=>exact n
 |tup _ n _=>exact n
 |dct _ n _=>exact n
theorem sds_ne{p:Addr}{H:Hp}:∀ {xs:List V} {ds:List PyData},Sds p H xs ds->∀x∈xs,∀a,x= .ref a->a≠p
 |_,_, .nil,_,h=>nomatch h
 |_,_, .cons h t,x,hx=>by
  rcases List.mem_cons.mp hx with rfl|z
  ·exact sd_ne h
  ·exact sds_ne t x z
theorem dt_nes{p q:Addr}{n m:Nat}{H:Hp}{xs:List V}(h:Dt p n m H (.ref q))(e:H q=some (.lst xs)):∀x∈xs,∀a,x= .ref a->a≠p:=by
 obtain⟨d,h,_⟩:=h
 cases h with
 |sc c=>cases c
 |lst h n r=>rw[e]at h;cases h;exact sds_ne r
 |tup h n r=>rw[e]at h;cases h
 |dct h n r=>rw[e]at h;cases h
theorem Pln.keep{K:PySem.W.Frag}{p:Addr}{H H':Hp}{v:V}(h:Pln K H v)(n:∀a,v= .ref a->a≠p)(s:SameBut1 p H H'):Pln K H' v:=let⟨ty,a,b⟩:=h;⟨ty,a.keep n s,b⟩
theorem NoW.keep{K:PySem.W.Frag}{k:Int}{p:Addr}{n m:Nat}{H H':Hp}{v:V}(h:NoW K k H v)(d:Dt p n m H v)(s:SameBut1 p H H'):NoW K k H' v:=by
 rcases h with⟨ty,a,b⟩|⟨q,xs,rfl,h,l,c⟩
 ·exact .inl ⟨ty,a.keep d.ne s,b⟩
 ·exact .inr ⟨q,xs,rfl,s _ _ h (d.ne q rfl),l,c.elim .inl fun⟨a,b⟩=> .inr ⟨fun x hx=>(a x hx).keep (dt_nes d h x hx) s,b⟩⟩
theorem NoB.keep{K:PySem.W.Frag}{k:Int}{p:Addr}{n m:Nat}{H H':Hp}{v:V}(h:NoB K k H v)(d:Dt p n m H v)(s:SameBut1 p H H'):NoB K k H' v:=h.elim .inl fun⟨ty,a,b⟩=> .inr ⟨ty,a.keep d.ne s,b⟩
end BrS
namespace BrP
open L2 PySem BrM
open PySem.Builtin PySem.Builtin.Str
def rep1(l p:List Nat):List Nat:=(Txt.replace ⟨l.toArray⟩ ⟨p.toArray⟩ ⟨([]:List Nat).toArray⟩).cps.toList
theorem rep1_eq(l p:List Nat):Txt.replace ⟨l.toArray⟩ ⟨p.toArray⟩ ⟨([]:List Nat).toArray⟩=⟨(rep1 l p).toArray⟩:=by
 unfold rep1
 rw[Array.toArray_toList]
theorem fold_list:∀ (r:List Str) (acc:Array Nat),(r.foldl (fun acc p=>acc++(⟨([]:List Nat).toArray⟩:Str).cps++p.cps) acc).toList=acc.toList++(r.map fun p=>p.cps.toList).flatten
 |[],acc=>by simp
 |q::r,acc=>by
  rw[List.foldl_cons,fold_list r]
  simp
theorem glued_list(ps:List Str):(glued ⟨([]:List Nat).toArray⟩ ps).cps.toList=(ps.map fun p=>p.cps.toList).flatten:=by
 cases ps with
 |nil=>rfl
 |cons q r=>
  show(r.foldl (fun acc p=>acc++(⟨([]:List Nat).toArray⟩:Str).cps++p.cps) q.cps).toList=_
  rw[fold_list];rfl
theorem run_two{o:Nat}(ho:o∈opn)(st:List Nat):run st [o,clo o]=some st:=by
 have h:=run_right (rt_pair (M:=[]) ho (clo_not ho) rfl) st
 exact h
theorem parts_run{x:Str}{o:Nat}(ho:o∈opn):∀ (cuts:List Nat) (a f:Nat),StrLaws.ChainTo x ⟨[o,clo o].toArray⟩ x.length a cuts f->∀st,
 run st ((StrLaws.partsFrom x 2 a cuts).map fun p=>p.cps.toList).flatten=run st (x.cps.toList.drop a)
 |[],a,f,_,st=>by
  show run st ([(strSub x a x.length).cps.toList]).flatten=_
  rw[List.flatten_cons,List.flatten_nil,List.append_nil,StrLaws.strSub_toList]
  congr 1
  exact List.take_of_length_le (by simp[Str.length])
 |c::r,a,f,h,st=>by
  obtain⟨h1,h2,h3⟩:=h
  have ih:=parts_run (x:=x) ho r (c+2) f h3
  show run st ((strSub x a c).cps.toList::((StrLaws.partsFrom x 2 (c+2) r).map fun p=>p.cps.toList)).flatten=_
  rw[List.flatten_cons,run_append]
  have hp:((x.cps.toList.drop c).take 2)=[o,clo o]:=by
   have:=h2.2
   rw[StrLaws.subAt_eq]at this
   exact eq_of_beq this
  have e1:x.cps.toList.drop a=(x.cps.toList.drop a).take (c-a)++([o,clo o]++x.cps.toList.drop (c+2)):=by
   rw[<-hp]
   have e2:(x.cps.toList.drop c).take 2++x.cps.toList.drop (c+2)=x.cps.toList.drop c:=by
    rw[<-List.drop_drop]
    exact List.take_append_drop 2 _
   rw[e2]
   have e5:x.cps.toList.drop c=(x.cps.toList.drop a).drop (c-a):=by rw[List.drop_drop];congr 1;omega
   rw[e5]
   exact(List.take_append_drop (c-a) _).symm
  rw[StrLaws.strSub_toList,e1,run_append]
  have e3:(x.cps.toList.drop a).take (c-a)++([o,clo o]++x.cps.toList.drop (c+2))=x.cps.toList.drop a:=e1.symm
  rw[e3]
  congr 1
  funext s
  rw[ih s,run_append,run_two ho s]
  rfl
theorem rep_run{o:Nat}(ho:o∈opn)(l st:List Nat):run st (rep1 l [o,clo o])=run st l:=by
 unfold rep1 Txt.replace
 split
 ·rfl
 ·obtain⟨f,h⟩:=StrLaws.occ_chain ⟨l.toArray⟩ ⟨[o,clo o].toArray⟩ ((⟨l.toArray⟩:Str).length+1)
  rw[glued_list,StrLaws.partsBetween_eq]
  have:=parts_run ho _ 0 f h st
  rw[List.drop_zero]at this
  exact this
theorem rep1_len(l:List Nat)(o c:Nat):(rep1 l [o,c]).length<=l.length/\((rep1 l [o,c]).length=l.length->rep1 l [o,c]=l/\∀A B,l≠A++[o,c]++B):=by
 unfold rep1 Txt.replace
 rcases StrLaws.occ_head ⟨l.toArray⟩ ⟨[o,c].toArray⟩ ((⟨l.toArray⟩:Str).length+1) (by omega)with⟨h,hn⟩|⟨i,r,h,hi,_⟩
 ·rw[h,if_pos (by simp)]
  refine⟨by simp,fun _=>⟨by simp,fun A B e=>hn A.length ⟨?_,?_⟩⟩⟩
  ·rw[e];simp[Str.length]
  ·rw[StrLaws.subAt_eq,e]
   simp[Str.length]
 ·rw[if_neg (by rw[h];simp[Str.length])]
  have hy:(glued ⟨[o,c].toArray⟩ (partsBetween ⟨l.toArray⟩ (occurrences ⟨l.toArray⟩ ⟨[o,c].toArray⟩ 0 (⟨l.toArray⟩:Str).length ((⟨l.toArray⟩:Str).length+1)) (⟨[o,c].toArray⟩:Str).length)).length=(⟨l.toArray⟩:Str).length:=by rw[StrLaws.glued_between_self]
  have e0:∀s:Str,s.cps.toList.length=s.length:=fun s=>by simp[Str.length]
  rw[e0]
  rw[size_glued,length_partsBetween,Nat.add_sub_cancel]at hy
  rw[size_glued,length_partsBetween,Nat.add_sub_cancel]
  rw[h]at hy⊢
  have e1:(⟨[o,c].toArray⟩:Str).length=2:=rfl
  have e2:(⟨([]:List Nat).toArray⟩:Str).length=0:=rfl
  have e3:(⟨l.toArray⟩:Str).length=l.length:=by simp[Str.length]
  rw[e1,e3]at hy
  rw[e2,e1,Nat.mul_zero,Nat.add_zero]
  rw[List.length_cons]at hy
  refine⟨?_,fun z=>?_⟩
  ·omega
  ·exfalso
   omega
def rep4(l:List Nat):List Nat:=rep1 (rep1 (rep1 (rep1 l [40,41]) [91,93]) [123,125]) [60,62]
theorem rep4_run(l st:List Nat):run st (rep4 l)=run st l:=by
 unfold rep4
 rw[show [60,62]=[60,clo 60]from rfl,show [123,125]=[123,clo 123]from rfl,show [91,93]=[91,clo 91]from rfl,show [40,41]=[40,clo 40]from rfl]
 rw[rep_run (by decide),rep_run (by decide),rep_run (by decide),rep_run (by decide)]
theorem rep4_len(l:List Nat):(rep4 l).length<=l.length/\((rep4 l).length=l.length->rep4 l=l/\∀o∈opn,∀A B,l≠A++[o,clo o]++B):=by
 unfold rep4
 have h1:=rep1_len l 40 41
 generalize rep1 l [40,41]=l1 at h1
 have h2:=rep1_len l1 91 93
 generalize rep1 l1 [91,93]=l2 at h2
 have h3:=rep1_len l2 123 125
 generalize rep1 l2 [123,125]=l3 at h3
 have h4:=rep1_len l3 60 62
 generalize rep1 l3 [60,62]=l4 at h4
 refine⟨by omega,fun e=>?_⟩
 obtain⟨a1,b1⟩:=h1.2 (by omega)
 subst a1
 obtain⟨a2,b2⟩:=h2.2 (by omega)
 subst a2
 obtain⟨a3,b3⟩:=h3.2 (by omega)
 subst a3
 obtain⟨a4,b4⟩:=h4.2 (by omega)
 subst a4
 refine⟨rfl,fun o ho A B=>?_⟩
 have ho':o=40\/o=91\/o=123\/o=60:=by simpa[opn]using ho
 rcases ho' with rfl|rfl|rfl|rfl
 ·exact b1 A B
 ·exact b2 A B
 ·exact b3 A B
 ·exact b4 A B
theorem stuck_run:∀ (l st t:List Nat) (o:Nat),o∈opn->run (clo o::st) l=some t->(∀c∈opn,∀A B,o::l≠A++[c,clo c]++B)->st.length<t.length
 |[],st,t,o,ho,h,_=>by
  cases h
  simp
 |c::r,st,t,o,ho,h,hn=>by
  by_cases hc:c∈opn
  ·have e:run (clo o::st) (c::r)=run (clo c::clo o::st) r:=by
    show(stp (clo o::st) c).bind _=_
    rw[stp_open hc];rfl
   rw[e]at h
   have:=stuck_run r (clo o::st) t c hc h (fun d hd A B z=>hn d hd (o::A) B (by rw[z];rfl))
   rw[List.length_cons]at this
   omega
  ·exfalso
   by_cases hd:c=clo o
   ·subst hd
    exact hn o ho [] r rfl
   ·have e:run (clo o::st) (c::r)=none:=by
     show(stp (clo o::st) c).bind _=_
     have:stp (clo o::st) c=none:=by
      unfold stp
      rw[if_neg hc]
      simp[Ne.symm hd,hd]
     rw[this];rfl
    rw[e]at h;cases h
theorem stuck_right{l:List Nat}(hn:∀o∈opn,∀A B,l≠A++[o,clo o]++B):Rt l↔l=[]:=by
 constructor
 ·intro h
  cases l with
  |nil=>rfl
  |cons c r=>
   exfalso
   by_cases hc:c∈opn
   ·have e:run [] (c::r)=run [clo c] r:=by
     show(stp [] c).bind _=_
     rw[stp_open hc];rfl
    unfold Rt at h
    rw[e]at h
    have:=stuck_run r [] [] c hc h hn
    simp at this
   ·have:run [] (c::r)=none:=by
     show(stp [] c).bind _=_
     have:stp [] c=none:=by
      unfold stp
      rw[if_neg hc]
     rw[this];rfl
    unfold Rt at h
    rw[this]at h;cases h
 ·rintro rfl;rfl
end BrP
namespace BrP
open L2 PySem BrM
open PySem.Spec PyProof.Rows
section
variable{X:Cx}{pins:List (Addr×Obj)}{σ:List (Option V)}{H:Hp}{s:Shared}
theorem store_ok3{M:Model}{A:Around}{E:Value->Shared->Prop}{i:Nat}{x:Str}{v:V}{u:Value}{Q:Unit->Shared->Prop}(I:Inv X pins σ H s)(hN:X.N.Nodup)(hi:X.N[i]? =some x)(hk:X.env.scope.names.lookup x=some .local)(r:RelV v u)
 (h:∀h' m',Inv X pins (σ.set i (some v)) H {s with heap:=h',toks:=s.toks+1}->h'.Ns X.env.locals m'->m' x=some u->
   (∀ (j:Nat) (y:Str) (v':V),X.N[j]? =some y->(σ.set i (some v))[j]? =some (some v')->Vis X.env.scope y->∃u',RelV v' u'/\Look X.env h' m' y u')->Q () {s with heap:=h',toks:=s.toks+1}):wpAny M A (storeName X.env x u) Q E s:=by
 obtain⟨m,hn,hl⟩:=id I.loc
 have hcls:(X.env.scope.kind== .class||(X.env.scope.kind== .module&&X.env.locals !=X.env.globals))=false:=by rw[I.ok.kind];rfl
 have hiσ:i<σ.length:=by rw[I.len];exact(List.getElem?_eq_some_iff.mp hi).1
 have cne:=I.cne
 refine wpAny_storeName_local hk hn (fun h' hn' hs=>?_) hcls
 obtain⟨oL,_,_,hoL,_⟩:=id hn
 have lo:∀ (j:Nat) (y:Str) (v':V),X.N[j]? =some y->(σ.set i (some v))[j]? =some (some v')->Vis X.env.scope y->∃u',RelV v' u'/\Look X.env h' (fun z=>if z=x then some u else m z) y u':=fun j y v' e1 e2 e3=>by
  by_cases hj:j=i
  ·subst hj
   rw[hi]at e1;cases e1
   rw[List.getElem?_set_self hiσ]at e2
   cases e2
   exact⟨u,r, .inl ⟨hk,by simp⟩⟩
  ·rw[List.getElem?_set_ne (Ne.symm hj)]at e2
   obtain⟨u',r',q⟩:=hl j y v' e1 e2 e3
   refine⟨u',r',?_⟩
   rcases q with⟨k,e⟩|⟨k,c,e,z⟩
   ·refine .inl ⟨k,?_⟩
    have:y≠x:=fun e=>hj (nodup_ix hN e1 (e▸hi))
    simp[this,e]
   ·exact .inr ⟨k,c,e,z.sameBut hs (cne y c e)⟩
 have hok:HOk X.prog X.w H h':=by
  refine⟨fun b ob e=>?_,I.hok.sm,?_⟩
  rotate_left
  ·obtain⟨b,o,l,e⟩:=I.hok.bg
   by_cases hb:b=X.env.locals
   ·obtain⟨o',_,_,e',_⟩:=hn'
    exact⟨X.env.locals,o',hb▸l,e'⟩
   ·exact⟨b,o,l,(hs.2 b hb).trans e⟩
  refine(I.hok b ob e).stay (fun c w' hc q=>(hs.2 c ?_).trans q) (fun _ q=>q) fun _ _ q=>q
  rintro rfl
  rcases hc with rfl|hc
  ·rw[I.free]at e;cases e
  ·rw[I.free]at hc;cases hc
 refine h _ _ ⟨I.ok,I.os,I.bare,⟨fun b o e n hb hx=>?_,fun b o e n hb hx=>?_,I.base.free,fun b o e hx=>?_,I.base.tups,I.base.frzs,I.base.tbls⟩,⟨_,hn',lo⟩,fun y c e=>?_,I.free,I.freeC,fun p hp=>?_,hok,by simpa using I.len⟩ hn' (by simp) lo
 ·exact(hs.2 b (Nat.ne_of_lt (Nat.lt_of_lt_of_le (Heap.lt_size e) I.ok.above))).trans (I.base.keep b o e n hb hx)
 ·obtain⟨sl,e1⟩:=I.base.slot b o e n hb hx
  exact⟨sl,(hs.2 b (Nat.ne_of_lt (Nat.lt_of_lt_of_le (Heap.lt_size e) I.ok.above))).trans e1⟩
 ·obtain⟨o',e1⟩:=I.base.there b o e hx
  exact⟨o',(hs.2 b (Nat.ne_of_lt (Nat.lt_of_lt_of_le (Heap.lt_size e) I.ok.above))).trans e1⟩
 ·obtain⟨w',z⟩:=I.cell y c e
  exact⟨w',z.sameBut hs (cne y c e)⟩
 ·obtain⟨e,n,ne,nf,d⟩:=I.pin p hp
  exact⟨(hs.2 p.1 ne).trans e,n,ne,nf,d⟩
end
def prs:List (List Nat):=[[40,41],[91,93],[123,125],[60,62]]
def repN(i:Nat)(l:List Nat):List Nat:=(prs.take i).foldl rep1 l
theorem repN_len(i:Nat)(l:List Nat):(repN i l).length<=l.length:=by
 have go:∀ (ps:List (List Nat)) (l:List Nat),(∀p∈ps,∃o c,p=[o,c])->(ps.foldl rep1 l).length<=l.length:=by
  intro ps
  induction ps with
  |nil=>intro l _;exact Nat.le_refl _
  |cons p r ih=>
   intro l h
   obtain⟨o,c,rfl⟩:=h p (by simp)
   exact Nat.le_trans (ih _ fun q hq=>h q (by simp[hq])) (rep1_len l o c).1
 refine go _ l fun p hp=>?_
 have:=List.mem_of_mem_take hp
 simp[prs]at this
 rcases this with rfl|rfl|rfl|rfl<;>exact⟨_,_,rfl⟩
theorem repN_succ{i:Nat}{p l:List Nat}(h:prs[i]? =some p):repN (i+1) l=rep1 (repN i l) p:=by
 unfold repN
 rw[List.take_add_one,h]
 simp
theorem set4{α:Type}{σ:List α}{i j:Nat}(hij:i≠j)(a b c d:α):((((σ.set i a).set j b).set i c).set j d)=(σ.set i c).set j d:=by
 rw[List.set_comm _ _ (Ne.symm hij),List.set_set,List.set_set]
def tRep(te:TE)(im ip jl:Nat):TS:=fun D σ H=>te σ H fun x H1=>∃l,(σ.set im (some x))[jl]? =some (some (tx l))/\l.length<=1000/\
 D.nx (((σ.set im (some x)).set ip (some (tx [60,62]))).set jl (some (tx (rep4 l)))) H1
section
variable{X:Cx}
theorem pss_rep{im ip jl:Nat}{xm xp xl y1 y2 y3 y4 z nr:Str}{em:Expr}{tm:TE}{k1 k2 k3 k4 k5:Nat}{pm pa pp p1 p2 p3 p4 pl q1 q2 q3 q4 q5 q6 q7 pf:Pos}
 (hp:PassesOwn (model X.prog X.w) X.A X.env X.xe) (hc:X.calm=true) (hN:X.N.Nodup) (him:X.N[im]? =some xm) (hip:X.N[ip]? =some xp) (hjl:X.N[jl]? =some xl)
 (hkm:X.env.scope.names.lookup xm=some .local) (hkp:X.env.scope.names.lookup xp=some .local) (hkl:X.env.scope.names.lookup xl=some .local) (hij:ip≠jl) (he:PE X em tm)
 (hy1:y1=⟨[40,41].toArray⟩) (hy2:y2=⟨[91,93].toArray⟩) (hy3:y3=⟨[123,125].toArray⟩) (hy4:y4=⟨[60,62].toArray⟩) (hz:z=⟨([]:List Nat).toArray⟩) (hnr:nr="replace")
 (hsm:swapsWith em (some (.Name xm pm)) pa.line X.env=pure false:=by rfl)
 (hdp:(xp==("__debug__":Str))=false:=by decide) (hdl:(xl==("__debug__":Str))=false:=by decide)
 (hst:starEach [.Constant (.str y1) k1 p1, .Constant (.str y2) k2 p2, .Constant (.str y3) k3 p3, .Constant (.str y4) k4 p4] X.env=[(false,eval (.Constant (.str y1) k1 p1) X.env),(false,eval (.Constant (.str y2) k2 p2) X.env),(false,eval (.Constant (.str y3) k3 p3) X.env),(false,eval (.Constant (.str y4) k4 p4) X.env)]:=by rfl)
 (hst2:starEach [.Name xp q4, .Constant (.str z) k5 q5] X.env=[(false,eval (.Name xp q4) X.env),(false,eval (.Constant (.str z) k5 q5) X.env)]:=by rfl)
 (hbase:attributeBase (.Name xl q2) nr X.env (eval (.Name xl q2) X.env)=eval (.Name xl q2) X.env:=by rfl) (hline:(q3.endLine==q6.line)=true:=by rfl)
 (hfew:((backTo q6 (starEach [.Name xp q4, .Constant (.str z) k5 q5] X.env)).all (fun x=> !x.1)&&(backToKw q6 (keywordEach [] X.env)).all (fun x=>x.1.isSome)
   &&decide (([.Name xp q4, .Constant (.str z) k5 q5]:List Expr).length+([]:List Keyword).length+(if([]:List Keyword).isEmpty then 0 else 1)<30))=true:=by rfl)
 (hsl:swapsWith (.Call (.Attribute (.Name xl q2) nr q3) [.Name xp q4, .Constant (.str z) k5 q5] [] q6) (some (.Name xl q1)) q7.line X.env=pure false:=by rfl)
 (hfs:∀x,foldedSetIterable (.List [.Constant (.str y1) k1 p1, .Constant (.str y2) k2 p2, .Constant (.str y3) k3 p3, .Constant (.str y4) k4 p4] pl) X.env x=pure x:=by intro _;rfl):
 PSs X [.Assign [.Name xm pm] em pa, .For (.Name xp pp) (.List [.Constant (.str y1) k1 p1, .Constant (.str y2) k2 p2, .Constant (.str y3) k3 p3, .Constant (.str y4) k4 p4] pl)
  [.Assign [.Name xl q1] (.Call (.Attribute (.Name xl q2) nr q3) [.Name xp q4, .Constant (.str z) k5 q5] [] q6) q7] [] pf] (tRep tm im ip jl):=by
 intro pins s σ H D I h
 subst hz hnr
 refine wpAny_execs_cons (wpAny_Assign_Name (thn (he pins s σ H _ I h) fun v s1 ⟨x,H1,I1,r1,q⟩=>store_ok3 I1 hN him hkm r1 fun h2 m2 I2 _ _ _=>?_) hsm)
 obtain⟨l,hl,hlen,q⟩:=q
 generalize hσ:σ.set im (some x)=σ2 at*
 refine wpAny_execs_cons (wpAny_For ?_ hfs)
 refine wpAny_List_spliced ?_
 rw[hst]
 show wpAny _ _ (spliced [(false,eval (.Constant (.str y1) k1 p1) X.env),(false,eval (.Constant (.str y2) k2 p2) X.env),(false,eval (.Constant (.str y3) k3 p3) X.env),(false,eval (.Constant (.str y4) k4 p4) X.env)]) _ _ _
 refine Calls.spliced_cons (Calls.Constant_str (Calls.spliced_cons (Calls.Constant_str (Calls.spliced_cons (Calls.Constant_str (Calls.spliced_cons (Calls.Constant_str (Calls.spliced_nil ⟨small (show 4<=1000 by decide),?_⟩))))))))
 dsimp only
 generalize hT:s1.toks+1=T0 at*
 have hT0:1<=T0:=by omega
 generalize hits:([.str y1 T0, .str y2 (T0+1), .str y3 (T0+1+1), .str y4 (T0+1+1+1)]:List Value)=its
 have hitem:∀ (i:Nat) (p:List Nat),prs[i]? =some p->∃t:Nat,its.toArray[i]? =some (Value.str ⟨p.toArray⟩ t)/\T0<=t/\t<T0+4:=by
  intro i p e
  have hi:i=0\/i=1\/i=2\/i=3:=by
   have:=(List.getElem?_eq_some_iff.mp e).1
   simp[prs]at this;omega
  subst hits
  rcases hi with rfl|rfl|rfl|rfl<;>(cases e;first|exact⟨_,by rw[hy1];rfl,by omega,by omega⟩|exact⟨_,by rw[hy2];rfl,by omega,by omega⟩|exact⟨_,by rw[hy3];rfl,by omega,by omega⟩|exact⟨_,by rw[hy4];rfl,by omega,by omega⟩)
 have hend:its.toArray[4]? =none:=by subst hits;rfl
 generalize hlob:({cls:= .type "list",data:= .seq its.toArray}:Obj)=lob
 have hfz:lob.isFreed=false:=by rw[<-hlob];rfl
 have hIL:(h2.push lob).IsList h2.objs.size its.toArray:=⟨lob,Heap.get?_push_size _ hfz,by rw[<-hlob],_,by rw[<-hlob]⟩
 refine wpAny_pyIter_list hIL ?_
 generalize hit:(h2.push lob).objs.size=it
 have fr:=I2.hok.fresh (Nat.le_refl h2.objs.size)
 have I3:Inv X pins σ2 H1 {s1 with heap:=(h2.push lob),toks:=T0+1+1+1+1}:=I2.kept fun b o e=>Heap.get?_push_of_some _ e
 have f3:=I2.fpOk (Nat.le_refl h2.objs.size) fr
 have I3':Inv X (pins++[(h2.objs.size,lob)]) σ2 H1 {s1 with heap:=(h2.push lob),toks:=T0+1+1+1+1}:=I3.pins_of fun p hp=>(List.mem_append.mp hp).elim (fun y=>I3.pin p (List.mem_append_right _ y)) fun y=>by
  have e:p=(h2.objs.size,lob):=by simpa using y
  subst e
  exact⟨Heap.get?_push_size _ hfz,fr,f3.2.1,f3.2.2.1,fun v y=>by rw[<-hlob]at y;cases y⟩
 have fr4:=I3.hok.fresh (Nat.le_refl (h2.push lob).objs.size)
 have f4:FpOk X (pins++[(h2.objs.size,lob)]) H1 it:=hit▸I3'.fpOk (Nat.le_refl (h2.push lob).objs.size) fr4
 have I4:Inv X (pins++[(h2.objs.size,lob)]) σ2 H1 {s1 with heap:=(h2.push lob).push {cls:= .type "list_iterator",data:= .fields #[.ref h2.objs.size, .int 0 0]},toks:=T0+1+1+1+1}:=I3'.kept fun b o e=>Heap.get?_push_of_some _ e
 have st4:((h2.push lob).push {cls:= .type "list_iterator",data:= .fields #[.ref h2.objs.size, .int 0 0]}).IsListIter it h2.objs.size 0:=⟨_,hit▸Heap.get?_push_size _ rfl,rfl,rfl⟩
 have hil:∀ {s':Shared} {σ':L2.St},Inv X (pins++[(h2.objs.size,lob)]) σ' H1 s'->s'.heap.IsList h2.objs.size its.toArray:=fun J=>⟨lob,(J.pin (h2.objs.size,lob) (List.mem_append_right _ (by simp))).1,by rw[<-hlob],_,by rw[<-hlob]⟩
 have hpl:ip<σ2.length:=by rw[I2.len];exact(List.getElem?_eq_some_iff.mp hip).1
 obtain⟨f0,f1,f2,f3',f4',f5⟩:=f4
 generalize hL:h2.objs.size=L at*
 refine codeAny_forLoop_any (fun n s'=>∃i o,n=4-i/\i<=4/\(i=4->o=some (tx [60,62]))/\Inv X (pins++[(L,lob)]) ((σ2.set ip o).set jl (some (tx (repN i l)))) H1 s'/\s'.heap.IsListIter it L i/\T0+4<=s'.toks) ?_ 4
  ⟨0,σ2[ip],rfl,by omega,(fun z=>by omega),?_,st4,by show T0+4<=T0+1+1+1+1;omega⟩
 ·rintro n s5 ⟨i,o,rfl,hi,ho,I5,st5,t5⟩
  by_cases hi4:i=4
  ·subst hi4
   refine wpAny_passesOwn hp (wpAny_pyNext_list_end (I5.ok.hd hc) st5 (hil I5) hend fun h' eb=>wpAny_execs_nil ?_)
   have I6:=I5.turned (h':=h') (t':=s5.toks) (fun b o hb e=>eb b o hb e) f0 f1 f3' f4' f5
   rw[ho rfl]at I6
   exact wpAny_execs_nil ⟨_,H1,I6.unpinned,q⟩
  ·obtain⟨p,hpi⟩:∃p,prs[i]? =some p:=⟨prs[i]'(by simp[prs];omega),by simp⟩
   obtain⟨t,hx,ht1,ht2⟩:=hitem i p hpi
   refine wpAny_passesOwn hp (wpAny_pyNext_list_item st5 (hil I5) hx fun h' st6 sb=>?_)
   have I6:=I5.turned (h':=h') (t':=s5.toks) (fun b o hb e=>(sb.2 b hb).trans e) f0 f1 f3' f4' f5
   have st6':=st6
   obtain⟨oi,ei,ci,di⟩:=st6'
   refine wpAny_passesOwn hp (go_of (s:={s5 with heap:=h'}) ei ci di (by decide) ?_)
   have I6p:Inv X (pins++[(L,lob)]++[(it,oi)]) ((σ2.set ip o).set jl (some (tx (repN i l)))) H1 {s5 with heap:=h'}:=I6.pins_of fun p hp=>(List.mem_append.mp hp).elim (fun y=>I6.pin p (List.mem_append_right _ y)) fun y=>by
    have e:p=(it,oi):=by simpa using y
    subst e
    exact⟨ei,f0,f1,f2,fun v y=>by rw[show(it,oi).2.data=_ from di]at y;cases y⟩
   refine wpAny_passesOwn hp (wpAny_assign_Name (store_ok3 I6p hN hip hkp (v:=tx p) ⟨t,rfl⟩ fun h7 m7 I7 n7 e7 l7=>?_))
   have hjl2:jl<σ2.length:=(List.getElem?_eq_some_iff.mp hl).1
   obtain⟨ul,⟨tl,rfl⟩,lk⟩:=l7 jl xl (tx (repN i l)) hjl (by rw[List.getElem?_set_ne hij,List.getElem?_set_self (by simpa using hjl2)]) (.inl hkl)
   have el:m7 xl=some (.str ⟨(repN i l).toArray⟩ tl):=by
    rcases lk with⟨_,e⟩|⟨k,_⟩
    ·exact e
    ·rcases k with k|k<;>(rw[show X.env.kindOf xl=some .local from hkl]at k;cases k)
   refine wpAny_passesOwn hp (wpAny_execs_cons (wpAny_Assign_Name (wpAny_Call_method_late hbase hfew hline rfl (wpAny_Name (wpAny_loadName_local I7.ok.kind hkl n7 el ?_) hdl)) hsl))
   refine⟨"str","str.replace",F.plainAttrs_str,F.slot_str_replace,F.type_str_replace,typeIs_str _ _ _,(fun _ e=>nomatch e),?_⟩
   rw[hst2]
   refine Calls.callWith_builtin rfl (Calls.evalArgs_plain ?_)
   show wpAny _ _ (spliced [(false,eval (.Name xp q4) X.env),(false,eval (.Constant (.str ⟨([]:List Nat).toArray⟩) k5 q5) X.env)]) _ _ _
   refine(Calls.spliced_cons (wpAny_Name (wpAny_loadName_local I7.ok.kind hkp n7 e7 (Calls.spliced_cons (Calls.Constant_str (Calls.spliced_nil ?_)))) hdp))
   have hrl:=repN_len i l
   refine wpAny_with_toks (n:=T0+4) (show T0+4<=s5.toks+1+1 by omega) (SC.replace (show t≠0 by omega) (show s5.toks+1≠0 by omega) (show t≠s5.toks+1 by omega) ?_ ?_ fun t' k ht=>?_)
   ·have:p=[40,41]\/p=[91,93]\/p=[123,125]\/p=[60,62]:=by
     have:=List.mem_of_getElem? hpi
     simpa[prs]using this
    rcases this with rfl|rfl|rfl|rfl<;>decide +kernel
   ·have e1:(⟨(repN i l).toArray⟩:Str).length=(repN i l).length:=by simp[Str.length]
    have e2:(⟨([]:List Nat).toArray⟩:Str).length=0:=rfl
    rw[e1,e2];omega
   rw[rep1_eq]
   refine store_ok3 (I7.tok k) hN hjl hkl (v:=tx (rep1 (repN i l) p)) ⟨t',rfl⟩ fun h9 m9 I9 _ _ _=>wpAny_execs_nil ?_
   refine⟨4-(i+1),by omega,i+1,some (tx p),rfl,by omega,fun z=>?_,?_,?_,?_⟩
   ·have:i=3:=by omega
    subst this
    cases hpi;rfl
   ·rw[repN_succ hpi]
    rw[set4 hij]at I9
    exact I9.unpinned
   ·have:=(I9.pin (it,oi) (List.mem_append_right _ (by simp))).1
    exact⟨oi,this,ci,di⟩
   ·show T0+4<=k+1
    have:T0+4<=k:=ht
    omega
 ·have e:(σ2.set ip σ2[ip]).set jl (some (tx (repN 0 l)))=σ2:=by
   rw[List.set_getElem_self]
   have hjl2:=List.getElem?_eq_some_iff.mp hl
   obtain⟨h1,h2'⟩:=hjl2
   show σ2.set jl (some (tx l))=σ2
   rw[<-h2',List.set_getElem_self]
  rw[e]
  exact I4
end
end BrP
namespace BrP
open L2 PySem BrM
def spCand:Sp:=fun vs H Q _=>∃a,vs=[tx a]/\a.length<=40/\Q (.bl (decide (Rt a))) H
theorem cand_use{H:Hp}{a:List Nat}{Q:VK}{E:XK}(ha:a.length<=40)(q:Q (.bl (decide (Rt a))) H):spCand ([tx a]++[]) H Q E:=⟨a,rfl,ha,q⟩
theorem s_rep{te:TE}{im ip jl:Nat}{D:Ends}{σ:St}{H:Hp}(h:te σ H fun x H1=>∃l,(σ.set im (some x))[jl]? =some (some (tx l))/\l.length<=1000/\D.nx (((σ.set im (some x)).set ip (some (tx [60,62]))).set jl (some (tx (rep4 l)))) H1):tRep te im ip jl D σ H:=h
end BrP
namespace L2
open PySem PySem.Spec PyProof.Rows
theorem ps_forB{X:Cx}(K:PySem.W.Frag){st:Stmt}{tg:Expr}{es:List Expr}{ts:List TE}{p pos:Pos}{body:List Stmt}{g:TG}{tb:TS}(est:st= .For tg (.List es p) body [] pos)(hK:X.K=K)(hp:PassesOwn (model X.prog X.w) X.A X.env X.xe)(hc:X.calm=true)
 (hes:Pl X es ts) (hg:PG X tg g) (hb:PSs X body tb) (hs:∀x,foldedSetIterable (.List es p) X.env x=pure x):PSb X st (tFor (iList K (tLst (tAll ts))) g tb):=by
 subst est hK
 exact⟨ps_for hp hc (pi_list (pe_lst hes.pa)) hg hb hs⟩
def ExcOne(x C t0:Addr)(m:Str)(tk:Tok)(h:Heap):Prop:=(∃o vs,h.get? x=some o/\o.cls= .ref C/\o.data= .fields vs/\vs[0]? =some (.ref t0))/\∃o k,h.get? t0=some o/\o.data= .seq (#[.str m tk]) k
theorem ExcOne.at{x C t0:Addr}{m:Str}{tk:Tok}{h:Heap}(e:ExcOne x C t0 m tk h):ExcAt x C h:=let⟨⟨o,vs,a,b,c,_⟩,_⟩:=e;⟨o,vs,a,b,c⟩
section
variable{prog:Program}{w:World}{A:Around}{E:Value->Shared->Prop}{s:Shared}{K:PySem.W.Frag}{x C t0:Addr}{m:Str}{tk:Tok}
end
section
variable{X:Cx}{C:Addr}{x:Str}{e:Expr}{te:TE}{np cpos sp pos:Pos}
end
section
variable{X:Cx}
end
end L2
namespace L2
open PySem PySem.Spec PyProof.Rows BrR
section
variable{σ:St}{H:Hp}{Q:VK}{K:PySem.W.Frag}
end
end L2
namespace BrS
open L2 PySem BrM BrC BrR
theorem fit_one:Fit 402 1 (.int 1):=⟨by simpa[PyData.showable]using log2_small (i:=1) (by decide),by rw[PyData.shown];decide +kernel,by simp[PyData.depth]⟩
end BrS
namespace L2
open PySem PySem.Spec PyProof.Rows
section
variable{X:Cx}
end
section
variable{X:Cx}{pins:List (Addr×Obj)}{σ:St}{H:Hp}{s:Shared}{h':Heap}
end
section
variable{X:Cx}{C:Addr}{x:Str}{e:Expr}{te:TE}{np cpos sp pos:Pos}
end
section
variable{σ:St}{H:Hp}{Q:VK}{K:PySem.W.Frag}
end
end L2
namespace BrS
open L2 PySem BrM BrC BrR BrP
theorem fit_two{n n' m:Nat}{d e:PyData}(h1:Fit n m d)(h2:Fit n' m e):Fit (n+n'+8) (m+1) (.list [d,e]):=by
 refine⟨by rw[PyData.showable,PyData.showableAll,PyData.showableAll,PyData.showableAll,h1.1,h2.1];rfl,?_,?_⟩
 ·rw[PyData.shown]
  unfold listText
  rw[strLen_append]
  have a:=text_le (PyData.shownAll [d,e]) 0 "["
  have e1:(Str.ofString "[").length=1:=by decide
  have e2:(Str.ofString "]").length=1:=by decide
  have p:piled (PyData.shownAll [d,e])=d.shown.length+2+(e.shown.length+2+0):=by
   rw[PyData.shownAll,PyData.shownAll,PyData.shownAll,piled_cons,piled_cons,piled_nil]
  have b:=h1.2.1
  have c:=h2.2.1
  omega
 ·rw[PyData.depth,PyData.depthAll,PyData.depthAll,PyData.depthAll]
  have b:=h1.2.2
  have c:=h2.2.2
  omega
theorem th_dt{p:Addr}{H:Hp}{v:V}(t:Th p H v):Dt p 11100000 3 H v:=by
 cases t with
 |txt a h=>exact dt_tx h.1 (by have:=h.2;omega) (by decide)
 |non=>exact dt_non (by decide) (by decide)
 |int i h=>exact dt_int (by rcases h with rfl|rfl<;>decide) (by decide) (by decide)
 |bl b=>exact dt_bl (by decide) (by decide)
 | @lst q l h n f z=>exact dt_lst (n:=10002) (m:=1) h n (fun x hx=>by
     obtain⟨a,ha,rfl⟩:=List.mem_map.mp hx
     exact dt_tx (f a ha).1 (by have:=(f a ha).2;omega) (by decide)) (by rw[List.length_map];omega) (by decide)
 | @tup q l h n f z=>exact dt_tup (n:=10002) (m:=1) h n (fun x hx=>by
     obtain⟨a,ha,rfl⟩:=List.mem_map.mp hx
     exact dt_tx (f a ha).1 (by have:=(f a ha).2;omega) (by decide)) (by rw[List.length_map];omega) (by decide)
 |dc0 h n=>exact dt_dc0 h n (by decide) (by decide)
 | @dc1 q a h n f=>exact dt_dc1 (n:=10002) (m:=1) h n ((fit_str f.1).mono (by have:=f.2;omega) (by decide)) (fit_one.mono (by decide) (by decide)) (by decide) (by decide)
def dV:Option Int->V
 |none=> .non
 |some i=> .int i
def spPartnersE(K:PySem.W.Frag)(cs:Cs):Sp:=fun vs H Q E=>∃kv v,vs=[kv,v]/\(Gate K cs H E kv v\/∃ (k:Int) (a:List Nat),kv= .int k/\v=tx a/\1<=k/\k<=4/\isRow k a=true/\
 ((Rt a/\∀r xs H',H r=none->Same H H'->H' r=some (.lst xs)->IsPart a xs->Q (.ref r) H')\/(¬Rt a/\Ref E cs.NotRight H)))
def spFar04:Sp:=fun vs H Q _=>∃ (p:Addr) (n:Nat),vs=[.ref p]/\PoolAt H p n/\n<=900000/\∀r H',0<=r->r<10^30->PoolAt H' p (n+5)->SameBut1 p H H'->Q (.int r) H'
theorem far04_use{H:Hp}{p:Addr}{n:Nat}{Q:VK}{E:XK}(h:PoolAt H p n)(hn:n<=900000)(q:∀r H',0<=r->r<10^30->PoolAt H' p (n+5)->SameBut1 p H H'->Q (.int r) H'):spFar04 ([.ref p]++[]) H Q E:=⟨p,n,rfl,h,hn,q⟩
def spNoKinds04(K:PySem.W.Frag):Sp:=fun vs H Q _=>∃ (p:Addr) (n:Nat),vs=[.ref p]/\PoolAt H p n/\n<=800000/\∀v H',NoK K H' v->Dt p 4000 3 H' v->PoolAt H' p (n+6)->SameBut1 p H H'->Q v H'
theorem noKinds04_use{K:PySem.W.Frag}{H:Hp}{p:Addr}{n:Nat}{Q:VK}{E:XK}(h:PoolAt H p n)(hn:n<=800000)(q:∀v H',NoK K H' v->Dt p 4000 3 H' v->PoolAt H' p (n+6)->SameBut1 p H H'->Q v H'):spNoKinds04 K ([.ref p]++[]) H Q E:=⟨p,n,rfl,h,hn,q⟩
def spWide04:Sp:=fun vs H Q _=>∃ (p:Addr) (n:Nat) (g:List Nat),vs=[.ref p,tx g]/\PoolAt H p n/\n<=800000/\g.length<=40/\Low g/\∀ (l:Addr) (xs:List (List Nat)) H',H l=none->l≠p->H' l=some (.lst (xs.map tx))->xs.length=5->(∀a∈xs,Fine a)->PoolAt H' p (n+400)->SameBut1 p H H'->Q (.ref l) H'
theorem wide04_use{H:Hp}{p:Addr}{n:Nat}{g:List Nat}{Q:VK}{E:XK}(h:PoolAt H p n)(hn:n<=800000)(hg:g.length<=40)(hl:Low g)
 (q:∀ (l:Addr) (xs:List (List Nat)) H',H l=none->l≠p->H' l=some (.lst (xs.map tx))->xs.length=5->(∀a∈xs,Fine a)->PoolAt H' p (n+400)->SameBut1 p H H'->Q (.ref l) H'):spWide04 ([.ref p,tx g]++[]) H Q E:=⟨p,n,g,rfl,h,hn,hg,hl,q⟩
theorem flat_bls(l:List Bool):(l.map V.bl).all flatV=true:=by
 induction l with
 |nil=>rfl
 |cons a r ih=>rw[List.map_cons,List.all_cons,ih];rfl
theorem fit_d22:Fit 7 2 (.dict [(.int 2, .int 2)]):=⟨by simp only[PyData.showable,PyData.showableKv,Bool.true_and,Bool.and_true];decide +kernel,by rw[PyData.shown];decide +kernel,by simp[PyData.depth,PyData.depthKv]⟩
end BrS
namespace L2
open PySem PySem.Spec PyProof.Rows
section
variable{X:Cx}{pins:List (Addr×Obj)}{σ:St}{H:Hp}{s:Shared}{a:Addr}
end
section
variable{K:PySem.W.Frag}{g:TG}{tb:TS}{D:Ends}{σ:St}{H:Hp}{Q:VK}
end
section
variable{K:PySem.W.Frag}{σ:St}{H:Hp}{Q:VK}{D:Ends}
end
end L2
namespace BrS
open L2 PySem BrM BrC BrR
def Ok4(st:List Nat):Prop:=∀p∈st,p<4
abbrev Es:=List (List Nat×Int)
structure Wf (es:Es):Prop where
 nd:(es.map (·.1)).Nodup
 ok:∀e∈es,Ok4 e.1
 pos:∀e∈es,1<=e.2
theorem Wf.nil:Wf []:=⟨by simp,(fun _ h=>nomatch h),(fun _ h=>nomatch h)⟩
theorem Wf.tail{e:List Nat×Int}{r:Es}(w:Wf (e::r)):Wf r:=⟨(List.nodup_cons.mp w.nd).2,fun x h=>w.ok x (List.mem_cons_of_mem _ h),fun x h=>w.pos x (List.mem_cons_of_mem _ h)⟩
def stp(k s:Nat)(f:List Nat->Int)(st:List Nat):Int:=sm k (fun p=>pw k s (2*p)*f (p::st))+(match st with|[]=>0|o::s'=>pw k s (2*o+1)*f s')
end BrS
namespace BrT
open PySem
def Rise(a:Array Nat):Prop:=a.toList.Pairwise (· < ·)
theorem Rise.lt{a:Array Nat}(r:Rise a){i j x y:Nat}(hij:i<j)(hx:a[i]? =some x)(hy:a[j]? =some y):x<y:=by
 have hx':a.toList[i]? =some x:=by simpa using hx
 have hy':a.toList[j]? =some y:=by simpa using hy
 obtain⟨hi,rfl⟩:=List.getElem?_eq_some_iff.mp hx'
 obtain⟨hj,rfl⟩:=List.getElem?_eq_some_iff.mp hy'
 exact(List.pairwise_iff_getElem.mp r) i j hi hj hij
def Tb(l:Bool)(t:SetTable):Prop:=Rise t.place/\t.led=l
theorem Tb.plain{l:Bool}{t:SetTable}(h:Tb l t):Tb l {t with plain:=false}:=h
end BrT
namespace BrT
open PySem PySem.Spec PyProof.Rows
def keyOf(e:Int×Value):Int:=match e.2 with| .int k _=>k|_=>0
section
variable{prog:Program}{w:World}{A:Around}{E:Value->Shared->Prop}{s:Shared}
def SO(prog:Program)(w:World)(l:Bool)(es:Array (Int×Value))(t:SetTable)(ms:List Int):Prop:=
 ElemsOf (intKind prog w) es.toList/\(es.toList.map keyOf).Nodup/\(∀k,k∈es.toList.map keyOf↔k∈ms)/\es.size<=ms.length/\t.fits es.size=true/\Tb l t
def SI(prog:Program)(w:World)(l:Bool)(h:Heap)(a:Addr)(ms:List Int):Prop:=
 ∃o es ep t,h.get? a=some o/\o.ExactSet/\o.data= .set es ep t/\SO prog w l es t ms
theorem SI.at{l:Bool}{h h':Heap}{a:Addr}{ms:List Int}(i:SI prog w l h a ms)(k:∀o,h.get? a=some o->h'.get? a=some o):SI prog w l h' a ms:=
 let⟨o,es,ep,t,ho,r⟩:=i;⟨o,es,ep,t,k o ho,r⟩
theorem stored{l:Bool}{h:Heap}{a:Addr}{o:Obj}{es es':Array (Int×Value)}{ep:Nat}{t t':SetTable}{ms:List Int}(ho:h.get? a=some o)(hex:o.ExactSet)(hd:o.data= .set es ep t)(i:SO prog w l es' t' ms):
 (h.update a (Obj.putSet es' t')).get? a=some {o with data:= .set es' (ep+1) t'}/\SI prog w l (h.update a (Obj.putSet es' t')) a ms:=by
 have g:=Heap.get?_update_self (Obj.putSet es' t') ho (by rw[putSet_of es' t' hd];rfl)
 rw[putSet_of es' t' hd]at g
 exact⟨g,_,es',ep+1,t',g,hex,rfl,i⟩
def byT(w:World):Bool:=w.params.followText "set-order"
structure It (h:Heap) (I:Addr) (f:Value) (i:Nat) (S:Addr) (n ep:Nat):Prop where
 at_:∃o,h.get? I=some o/\o.cls= .type "set_iterator"/\o.data= .fields #[f, .int i 0, .ref S, .int n 0, .int ep 0]
theorem It.ty{I:Addr}{f:Value}{i:Nat}{S:Addr}{n ep:Nat}(x:It s.heap I f i S n ep):s.TypeIs (.ref I) "set_iterator":=let⟨o,ho,hc,_⟩:=x.at_;⟨o,ho,hc⟩
theorem It.keep{h h':Heap}{I:Addr}{f:Value}{i:Nat}{S:Addr}{n ep:Nat}(x:It h I f i S n ep)(k:∀o,h.get? I=some o->h'.get? I=some o):It h' I f i S n ep:=let⟨o,ho,r⟩:=x.at_;⟨o,k o ho,r⟩
def Seto(h:Heap)(S:Addr)(es:Array (Int×Value))(ep:Nat)(t:SetTable):Prop:=∃o,h.get? S=some o/\o.ExactSet/\o.data= .set es ep t/\t.fits es.size=true
theorem Seto.keep{h h':Heap}{S:Addr}{es:Array (Int×Value)}{ep:Nat}{t:SetTable}(x:Seto h S es ep t)(k:∀o,h.get? S=some o->h'.get? S=some o):Seto h' S es ep t:=let⟨o,ho,r⟩:=x;⟨o,k o ho,r⟩
def slotP(t:SetTable)(i:Nat):Nat:=if i=0 then 0 else t.place.getD (i-1) 0+1
inductive Way (w:World) (S:Addr) (h:Heap) (es:Array (Int×Value)) (ep:Nat) (t:SetTable):(Nat->Value)->List Value->Prop
 |places (hb:byT w=false) (hp:t.plain=true\/es.size<=1) (hl:t.led=true) (r:Rise t.place):Way w S h es ep t (fun i=>rawInt (slotP t i:Nat)) (es.toList.map (·.2))
 |text (hb:byT w=true):Way w S h es ep t (fun _=>rawInt (0:Nat)) ((pickOrder (w.params.setOrder S ep) es).toList.map (·.2))
 |draws (T:Addr) (ps:List Nat) (o:Obj) (hT:h.get? T=some o) (hd:∃n,o.data= .seq (ps.map fun(i:Nat)=>rawInt i).toArray n) (hp:ps.Perm (List.range es.size)):Way w S h es ep t (fun _=> .ref T) (ps.map fun i=>(es.getD i (0, .none)).2)
theorem Way.at{S:Addr}{h h':Heap}{es:Array (Int×Value)}{ep:Nat}{t:SetTable}{f:Nat->Value}{ys:List Value}(x:Way w S h es ep t f ys)(k:∀T,f 0= .ref T->∀o,h.get? T=some o->h'.get? T=some o):Way w S h' es ep t f ys:=by
 cases x with
 |places hb hp hl r=>exact .places hb hp hl r
 |text hb=>exact .text hb
 |draws T ps o hT hd hp=>exact .draws T ps o (k T rfl o hT) hd hp
end
end BrT
namespace L2
open PySem PySem.Spec PyProof.Rows
section
variable{X:Cx}{e:Expr}{te:TE}{np cpos sp pos:Pos}
end
end L2
namespace BrT
open PySem PySem.Spec PyProof.Rows
section
variable{prog:Program}{w:World}{A:Around}{E:Value->Shared->Prop}{s:Shared}
end
end BrT
namespace L2
open PySem PySem.Spec PyProof.Rows
section
variable{X:Cx}{e:Expr}{te:TE}{np cpos sp pos:Pos}
end
end L2
namespace BrC
variable{P:Nat->Nat->Int}{k:Nat}
end BrC
namespace L2
open PySem PySem.Spec PyProof.Rows BrR
section
variable{σ:St}{H:Hp}{Q:VK}{K:PySem.W.Frag}
end
end L2
namespace BrS
open L2 PySem BrM BrC BrR
def F14(k:Nat)(a:List Nat)(b e:Nat):Int:=cv (PP (a.map (plw (ones k)))) k (e-b) b []
def ky(b e:Nat):List Key:=[.inl (b:Int), .inl (e:Int)]
def DW(k:Nat)(a:List Nat)(kvs:List (List Key×V))(E q:Nat):Prop:=
 (∀b e:Nat,valV kvs (ky b e)=if b<=e/\(e-b)%2=0/\(e<E\/(e=E/\E<b+2*q))then some (.int (F14 k a b e))else none)/\kvs.length<=E*41+q
theorem DW.get{k:Nat}{a:List Nat}{kvs:List (List Key×V)}{E q b e:Nat}(h:DW k a kvs E q)(h1:b<=e)(h2:(e-b)%2=0)(h3:e<E\/(e=E/\E<b+2*q)):valV kvs (ky b e)=some (.int (F14 k a b e)):=by
 rw[h.1,if_pos ⟨h1,h2,h3⟩]
theorem DW.at{k:Nat}{a:List Nat}{kvs:List (List Key×V)}{E q b e:Nat}{H:Hp}{d T:Addr}(h:DW k a kvs E q)(gd:H d=some (.dT kvs))(hT:H T=none)(h1:b<=e)(h2:(e-b)%2=0)(h3:e<E):DGet (upd H T (.tup [.int (b:Int), .int (e:Int)])) d (.ref T) (some (.int (F14 k a b e))):=by
 rw[<-h.get h1 h2 (.inl h3)]
 exact DGet.t (k:=ky b e) (by rw[upd_ne (ne_of_none gd hT)];exact gd) upd_same
theorem DW.zero{k:Nat}{a:List Nat}:DW k a [] 0 0:=⟨fun b e=>by rw[valV_nil,if_neg (by omega)],by simp⟩
end BrS
namespace L2
open PySem PySem.Spec PyProof.Rows BrR
section
variable{X:Cx}
end
end L2
namespace L2
open PySem PySem.Spec PyProof.Rows
section
variable{X:Cx}{k:Nat}{C:Addr}{m x:Str}{ps:List Str}{sp:Sp}{e o value:Expr}{es:List Expr}{ta tv:TE}{t:TA}{p pos apos pos' tpos:Pos}{f:Str}
end
section
variable{σ:St}{H:Hp}{Q:VK}{K:PySem.W.Frag}{D:Ends}{C:Addr}{m f:Str}{sp:Sp}{E:XK}{ta tv:TE}{t:TA}{rd:V->V->Hp->VK->Prop}
end
section
variable{X:Cx}
end
end L2
namespace BrS
open L2 PySem BrM BrC BrR
abbrev pa_(k:Nat)(a:List Nat):Nat->Nat->Int:=PP (a.map (plw (ones k)))
def W(k:Nat)(a:List Nat)(i:Nat)(st:List Nat):Int:=cv (pa_ k a) k (a.length-i) i st
def rowW(k:Nat)(a:List Nat)(st:List Nat):List Int:=(List.range (a.length+1)).map fun i=>W k a i st
theorem W_cap{k:Nat}{a:List Nat}(hk:k<=4)(ha:a.length<=40)(i:Nat)(st:List Nat):0<=W k a i st/\W k a i st<=cap:=cv_cap hk (fun l hl=>(many_places hk l hl).2) (by omega) i st
def clsV(st:List Nat):List V:=st.reverse.map fun p:Nat=>V.int (2*(p:Int)+1)
def cf(pl sm cl rs:Addr)(at':Int):List (Str×V):=[("places", .ref pl),("sums", .ref sm),("at", .int at'),("closings", .ref cl),("rests", .ref rs)]
structure CoS (C:Addr) (H0 H:Hp) (co:Addr) (k:Nat) (a:List Nat) (at':Nat) (st:List Nat) (dx pl sm cl rs:Addr) (Hz Hb:Hp) (ad:Nat->Addr) (ra:List Addr):Prop where
 ob:H co=some (.ins C dx (cf pl sm cl rs at'))
 pls:Pls Hb pl (a.map (plw (ones k)))
 tb:Tb Hz Hb sm ad a.length (tbl (pa_ k a) k)
 keep:SameBut1 co Hb H
 nco:∀xs,Hb co≠some (.lst xs)
 ncl:Hb cl=none
 nrs:Hb rs=none
 ne:cl≠rs
 clo:H cl=some (.lst (clsV st))
 res:H rs=some (.lst (ra.map V.ref))
 ral:ra.length=st.length+1
 rows:∀ (j:Nat) x,ra[j]? =some x->H x=some (iL (rowW k a (st.drop (st.length-j))))/\x≠cl/\x≠rs
 h0:Same H0 H
 h0co:H0 co=none
 h0cl:H0 cl=none
 h0rs:H0 rs=none
 len:a.length<=40
 hk:k<=4
section
variable{C:Addr}{H0 H:Hp}{co:Addr}{k:Nat}{a:List Nat}{at':Nat}{st:List Nat}{dx pl sm cl rs:Addr}{Hz Hb:Hp}{ad:Nat->Addr}{ra:List Addr}
theorem CoS.lst(c:CoS C H0 H co k a at' st dx pl sm cl rs Hz Hb ad ra){b:Addr}{xs:List V}(h:Hb b=some (.lst xs)):H b=some (.lst xs):=c.keep _ _ h fun z=>c.nco xs (by rw[<-z];exact h)
theorem CoS.top(c:CoS C H0 H co k a at' st dx pl sm cl rs Hz Hb ad ra):∃x,atI (ra.map V.ref) (-1)=some (.ref x)/\H x=some (iL (rowW k a st)):=by
 obtain⟨x,hx⟩:∃x,ra[st.length]? =some x:=⟨_,List.getElem?_eq_getElem (by rw[c.ral];omega)⟩
 refine⟨x,atI_end (by rw[List.length_map,c.ral];omega) (by rw[List.length_map,c.ral,List.getElem?_map,Nat.add_sub_cancel,hx];rfl),?_⟩
 have:=(c.rows _ x hx).1
 rwa[Nat.sub_self,List.drop_zero]at this
end
def mw(k:Nat)(a:List Nat)(i:Nat)(st:List Nat)(b:Nat):Int:=if b%2=0 then pa_ k a i b*W k a (i+1) (b/2::st)else match st with|[]=>0|o::s'=>if 2*o+1=b then pa_ k a i b*W k a (i+1) s' else 0
def stb(st:List Nat)(b:Nat):List Nat:=if b%2=0 then b/2::st else st.tail
end BrS
namespace L2
open PySem PySem.Spec PyProof.Rows
end L2
namespace BrS
open L2 PySem BrM BrC BrR
theorem pa_top{k:Nat}{a:List Nat}(hk:k<=4)(i b:Nat):0<=pa_ k a i b/\pa_ k a i b<=top30:=PP_bound (fun l hl=>(many_places hk l hl).2) i b
theorem pa_01{k:Nat}{a:List Nat}(hk:k<=4){i b:Nat}(hi:i<a.length):pa_ k a i b=0\/pa_ k a i b=1:=by
 show((a.map (plw (ones k))).getD i []).getD b 0=0\/((a.map (plw (ones k))).getD i []).getD b 0=1
 rw[List.getD_eq_getElem?_getD (l:=a.map (plw (ones k))),List.getElem?_map,List.getElem?_eq_getElem hi]
 show(plw (ones k) a[i]).getD b 0=0\/(plw (ones k) a[i]).getD b 0=1
 unfold plw
 rw[List.getD_eq_getElem?_getD]
 split
 ·cases e:(ones k)[b]? with
  |none=>exact .inl rfl
  |some v=>
   have:=List.mem_of_getElem? e
   rw[List.eq_of_mem_replicate this]
   exact .inr rfl
 ·rw[List.getElem?_map]
  cases e:(brs.take (ones k).length)[b]? with
  |none=>exact .inl rfl
  |some v=>
   show(if a[i]=v then(1:Int)else 0)=0\/(if a[i]=v then(1:Int)else 0)=1
   split
   ·exact .inr rfl
   ·exact .inl rfl
section
variable{C:Addr}{H0 H:Hp}{co:Addr}{k:Nat}{a:List Nat}{i:Nat}{st:List Nat}{dx pl sm cl rs:Addr}{Hz Hb:Hp}{ad:Nat->Addr}{ra:List Addr}
theorem CoS.nl(c:CoS C H0 H co k a i st dx pl sm cl rs Hz Hb ad ra){b:Addr}{xs:List V}(h:H b=some (.lst xs)):b≠co:=fun z=>by rw[z,c.ob]at h;cases h
theorem CoS.at(c:CoS C H0 H co k a i st dx pl sm cl rs Hz Hb ad ra)(j:Nat):CoS C H0 (upd H co (.ins C dx (cf pl sm cl rs j))) co k a j st dx pl sm cl rs Hz Hb ad ra:=
 {ob:=upd_same,pls:=c.pls,tb:=c.tb,keep:=c.keep.trans SameBut1.upd,nco:=c.nco,ncl:=c.ncl,nrs:=c.nrs,ne:=c.ne
  clo:=by rw[upd_ne (c.nl c.clo)];exact c.clo
  res:=by rw[upd_ne (c.nl c.res)];exact c.res
  ral:=c.ral
  rows:=fun n x hx=>⟨by rw[upd_ne (c.nl (c.rows n x hx).1)];exact(c.rows n x hx).1,(c.rows n x hx).2⟩
  h0:=fun b o z=>by rw[upd_ne (ne_of_none z c.h0co)];exact c.h0 _ _ z
  h0co:=c.h0co,h0cl:=c.h0cl,h0rs:=c.h0rs,len:=c.len,hk:=c.hk}
end
theorem mw_nonneg{k:Nat}{a:List Nat}(hk:k<=4)(ha:a.length<=40)(i:Nat)(st:List Nat)(b:Nat):0<=mw k a i st b:=by
 unfold mw
 split
 ·exact Int.mul_nonneg (pa_top hk _ _).1 (W_cap hk ha _ _).1
 ·cases st with
  |nil=>exact Int.le_refl _
  |cons o s'=>
   show 0<=(if 2*o+1=b then pa_ k a i b*W k a (i+1) s' else 0)
   split
   ·exact Int.mul_nonneg (pa_top hk _ _).1 (W_cap hk ha _ _).1
   ·exact Int.le_refl _
def cwq(k:Nat)(a:List Nat)(i:Nat):List Nat->Nat->Int
 |[],_=>0
 |o::s',p=>if o=p then pa_ k a i (2*p+1)*W k a (i+1) s' else 0
theorem mw_all{k:Nat}{a:List Nat}{i:Nat}{st:List Nat}(hi:i<a.length)(hst:∀o∈st,o<k):sm (2*k) (mw k a i st)=W k a i st:=by
 rw[sm_pairs]
 have e1:∀p,mw k a i st (2*p)=pa_ k a i (2*p)*W k a (i+1) (p::st):=fun p=>by
  unfold mw
  rw[if_pos (by omega),show 2*p/2=p by omega]
 have e2:∀p,mw k a i st (2*p+1)=cwq k a i st p:=fun p=>by
  unfold mw
  rw[if_neg (by omega)]
  cases st with
  |nil=>rfl
  |cons o s'=>
   show(if 2*o+1=2*p+1 then _ else _)=(if o=p then _ else _)
   by_cases h:o=p
   ·rw[if_pos h,if_pos (by omega)]
   ·rw[if_neg h,if_neg (by omega)]
 obtain⟨m,hm⟩:∃m,a.length-i=m+1:=⟨a.length-i-1,by omega⟩
 have hm2:a.length-(i+1)=m:=by omega
 rw[sm_congr k fun p _=>by rw[e1,e2],sm_add]
 unfold W
 rw[hm,hm2]
 cases st with
 |nil=>rw[cv_nil,BrC.sm_zero (f:=fun i_1=>cwq k a i [] i_1) k (fun _ _=>rfl),Int.add_zero]
 |cons o s'=>
  rw[cv_cons]
  congr 1
  have ho:=hst o List.mem_cons_self
  rw[sm_one (f:=fun i_1=>cwq k a i (o::s') i_1) ho]
  ·show(if o=o then pa_ k a i (2*o+1)*W k a (i+1) s' else 0)=_
   rw[if_pos rfl]
   unfold W
   rw[hm2]
  ·intro j hj hne
   show(if o=j then _ else _)=(0:Int)
   rw[if_neg (fun z=>hne z.symm)]
def NF(k:Nat)(a:List Nat):Nat->List Nat->Int->List Nat->Prop
 |i,_,l,[]=>i=a.length/\l=0
 |i,st,l,b::bs=>b<2*k/\sm b (mw k a i st)<=l/\l<sm (b+1) (mw k a i st)/\NF k a (i+1) (stb st b) (l-sm b (mw k a i st)) bs
def brt(bs:List Nat):List Nat:=bs.map fun b=>brs.getD b 0
theorem cum_mono{k:Nat}{a:List Nat}(hk:k<=4)(ha:a.length<=40)(i:Nat)(st:List Nat){b c:Nat}(h:b<=c):sm b (mw k a i st)<=sm c (mw k a i st):=by
 induction c with
 |zero=>rw[show b=0 by omega];exact Int.le_refl _
 |succ c ih=>
  by_cases e:b=c+1
  ·rw[e];exact Int.le_refl _
  ·have h1:=ih (by omega)
   have h2:=mw_nonneg hk ha i st c
   show _<=sm c (mw k a i st)+mw k a i st c
   omega
theorem mw_pos{k:Nat}{a:List Nat}(hk:k<=4)(ha:a.length<=40){i:Nat}(hi:i<a.length){st:List Nat}{b:Nat}(hst:∀o∈st,o<k)(hb:b<2*k)(h:0<mw k a i st b):mw k a i st b=W k a (i+1) (stb st b)/\(b%2=1->st≠[])/\(∀o∈stb st b,o<k)/\(stb st b).length<=st.length+1:=by
 have h01:pa_ k a i b≠0->pa_ k a i b=1:=fun z=>(pa_01 hk hi).resolve_left z
 by_cases hev:b%2=0
 ·have e:mw k a i st b=pa_ k a i b*W k a (i+1) (b/2::st):=by unfold mw;rw[if_pos hev]
  have es:stb st b=b/2::st:=by unfold stb;rw[if_pos hev]
  rw[e]at h⊢
  have h1:=h01 fun z=>by rw[z,Int.zero_mul]at h;exact absurd h (Int.lt_irrefl _)
  rw[es,h1,Int.one_mul]
  refine⟨rfl,by omega,fun o ho=>?_,by simp⟩
  rcases List.mem_cons.mp ho with z|z
  ·omega
  ·exact hst o z
 ·have es:stb st b=st.tail:=by unfold stb;rw[if_neg hev]
  rw[es]
  cases st with
  |nil=>
   unfold mw at h
   rw[if_neg hev]at h
   exact absurd h (Int.lt_irrefl _)
  |cons o s'=>
   have e:mw k a i (o::s') b=if 2*o+1=b then pa_ k a i b*W k a (i+1) s' else 0:=by unfold mw;rw[if_neg hev]
   rw[e]at h⊢
   by_cases ho:2*o+1=b
   ·rw[if_pos ho]at h⊢
    have h1:=h01 fun z=>by rw[z,Int.zero_mul]at h;exact absurd h (Int.lt_irrefl _)
    rw[h1,Int.one_mul]
    exact⟨rfl,fun _=>by simp,fun x hx=>hst x (List.mem_cons_of_mem _ hx),by simp;omega⟩
   ·rw[if_neg ho]at h
    exact absurd h (Int.lt_irrefl _)
theorem W_end(k:Nat)(a:List Nat)(st:List Nat):W k a a.length st=if st=[]then 1 else 0:=by
 unfold W
 rw[Nat.sub_self]
 cases st<;>rfl
def num(k:Nat)(a:List Nat):Nat->List Nat->List Nat->Int
 |_,_,[]=>0
 |i,st,b::bs=>sm b (mw k a i st)+num k a (i+1) (stb st b) bs
theorem NF.num{k:Nat}{a:List Nat}:∀ {bs:List Nat} {i:Nat} {st:List Nat} {l:Int},NF k a i st l bs->num k a i st bs=l
 |[],_,_,_,h=>h.2.symm
 |b::bs,i,st,l,h=>by
  have:=NF.num h.2.2.2
  show sm b (mw k a i st)+BrS.num k a (i+1) (stb st b) bs=l
  omega
theorem NF.first{k:Nat}{a:List Nat}(hk:k<=4)(ha:a.length<=40){i:Nat}{st:List Nat}{l m:Int}{b c:Nat}(hl:l<=m)(h1:sm b (mw k a i st)<=l)(h2:m<sm (c+1) (mw k a i st)):b<=c:=by
 rcases Nat.lt_or_ge c b with z|z
 ·have:=cum_mono hk ha i st (show c+1<=b from z)
  omega
 ·exact z
def Fi(k:Nat)(a:List Nat):Nat->List Nat->List Nat->Prop
 |i,st,[]=>i=a.length/\st=[]
 |i,st,b::bs=>b<2*k/\pa_ k a i b=1/\(b%2=1->∃s',st=b/2::s')/\Fi k a (i+1) (stb st b) bs
theorem Fi.len{k:Nat}{a:List Nat}:∀ {bs:List Nat} {i:Nat} {st:List Nat},Fi k a i st bs->i+bs.length=a.length
 |[],_,_,h=>h.1
 |b::bs,i,st,h=>by
  have:=Fi.len h.2.2.2
  rw[List.length_cons]
  omega
theorem Fi.pos{k:Nat}{a:List Nat}(hk:k<=4)(ha:a.length<=40):∀ {bs:List Nat} {i:Nat} {st:List Nat},(∀o∈st,o<k)->Fi k a i st bs->NF k a i st (BrS.num k a i st bs) bs/\0<=BrS.num k a i st bs/\BrS.num k a i st bs<W k a i st
 |[],i,st,hst,h=>by
  obtain⟨h1,h2⟩:=h
  subst h1 h2
  refine⟨⟨rfl,rfl⟩,Int.le_refl _,?_⟩
  rw[W_end,if_pos rfl]
  exact Int.zero_lt_one
 |b::bs,i,st,hst,h=>by
  obtain⟨h1,h2,h3,h4⟩:=h
  have hi:i<a.length:=by have:=Fi.len h4;omega
  have hst':∀o∈stb st b,o<k:=by
   unfold stb
   split
   ·intro o ho
    rcases List.mem_cons.mp ho with z|z
    ·omega
    ·exact hst o z
   ·intro o ho
    exact hst o (List.mem_of_mem_tail ho)
  obtain⟨g1,g2,g3⟩:=Fi.pos hk ha hst' h4
  have ew:mw k a i st b=W k a (i+1) (stb st b):=by
   unfold mw stb
   by_cases hev:b%2=0
   ·rw[if_pos hev,if_pos hev,h2,Int.one_mul]
   ·obtain⟨s',rfl⟩:=h3 (by omega)
    rw[if_neg hev,if_neg hev]
    show(if 2*(b/2)+1=b then pa_ k a i b*W k a (i+1) s' else 0)=_
    rw[if_pos (by omega),h2,Int.one_mul]
    rfl
  have hs:sm (b+1) (mw k a i st)=sm b (mw k a i st)+mw k a i st b:=rfl
  have h0:0<=sm b (mw k a i st):=sm_nonneg b fun j _=>mw_nonneg hk ha i st j
  have en:BrS.num k a i st (b::bs)=sm b (mw k a i st)+BrS.num k a (i+1) (stb st b) bs:=rfl
  have hm:=cum_mono hk ha i st (show b+1<=2*k by omega)
  rw[mw_all hi hst]at hm
  rw[en]
  refine⟨⟨h1,by omega,by omega,?_⟩,by omega,by omega⟩
  rw[show sm b (mw k a i st)+BrS.num k a (i+1) (stb st b) bs-sm b (mw k a i st)=BrS.num k a (i+1) (stb st b) bs by omega]
  exact g1
theorem NF.fl{k:Nat}{a:List Nat}(hk:k<=4)(ha:a.length<=40):∀ {bs:List Nat} {i:Nat} {st:List Nat} {l:Int},i+bs.length=a.length->(∀o∈st,o<k)->0<=l->l<W k a i st->NF k a i st l bs->Fi k a i st bs
 |[],i,st,l,hn,hst,l0,l1,h=>by
  have e:i=a.length:=h.1
  subst e
  rw[W_end]at l1
  refine⟨rfl,?_⟩
  by_cases z:st=[]
  ·exact z
  ·rw[if_neg z]at l1;omega
 |b::bs,i,st,l,hn,hst,l0,l1,h=>by
  obtain⟨h1,h2,h3,h4⟩:=h
  rw[List.length_cons]at hn
  have hi:i<a.length:=by omega
  have hs:sm (b+1) (mw k a i st)=sm b (mw k a i st)+mw k a i st b:=rfl
  obtain⟨ew,hodd,hst',_⟩:=mw_pos hk ha hi hst h1 (by omega)
  have hp:0<mw k a i st b:=by omega
  refine⟨h1,(pa_01 hk hi).resolve_left fun z=>?_,fun ho=>?_,NF.fl hk ha (by omega) hst' (by omega) (by omega) h4⟩
  ·unfold mw at hp
   rw[z]at hp
   split at hp
   ·rw[Int.zero_mul]at hp;omega
   ·cases st with
    |nil=>exact absurd hp (Int.lt_irrefl _)
    |cons o s'=>
     have hp:0<(if 2*o+1=b then 0*W k a (i+1) s' else 0):=hp
     split at hp
     ·rw[Int.zero_mul]at hp;omega
     ·omega
  ·cases st with
   |nil=>exact absurd rfl (hodd ho)
   |cons o s'=>
    unfold mw at hp
    rw[if_neg (by omega)]at hp
    have hp:0<(if 2*o+1=b then pa_ k a i b*W k a (i+1) s' else 0):=hp
    split at hp
    ·rename_i e
     exact⟨s',by rw[show b/2=o by omega]⟩
    ·omega
end BrS
namespace L2
open PySem PySem.Spec PyProof.Rows
def fnd(l:List Nat)(c:Nat):Int:=Txt.find ⟨l.toArray⟩ ⟨#[c]⟩
end L2
namespace BrS
open L2 PySem BrM BrC BrR
theorem fnd_brs:∀b,b<8->fnd brs (brs.getD b 0)=b:=by decide +kernel
end BrS
namespace PySem.SeqAt
open AutoSeq1 (wpAny_loadPart')
open MeetsSeq MeetsSeq2 MeetsSeq3 SeqRoads2
section
variable{prog:Program}{w:World}{A:Around}{E:Value->Shared->Prop}{s:Shared}
end
end PySem.SeqAt
namespace L2
open PySem PySem.Spec PyProof.Rows BrS
end L2
namespace PySem
open Sem (wp)
section
variable{prog:Program}{w:World}{A:Around}{E:Value->Shared->Prop}{s:Shared}
variable{z TI TO i1 i2:Addr}{fp1 fp2:List Addr}{n1 n2 i:Nat}{P1 P2:Nat->Value->Prop}{S1 S2:Nat->Heap->Prop}{a b:Value}
end
end PySem
namespace L2
open PySem PySem.Spec PyProof.Rows
section
variable{P:Program}{w:World}{K:PySem.W.Frag}{elts:List Expr}{k:Nat}{tpos:Pos}
end
section
variable{X:Cx}{a b:Expr}{ta:TA}{p pos:Pos}{elts:List Expr}{k:Nat}{tpos:Pos}
end
section
variable{σ:St}{H:Hp}{Q:VK}{K:PySem.W.Frag}
end
end L2
namespace BrS
open L2 PySem BrM BrC BrR
theorem brs_get{b:Nat}(h:b<8):brs[b]? =some (brs.getD b 0):=by
 match b,h with
 |0,_=>rfl
 |1,_=>rfl
 |2,_=>rfl
 |3,_=>rfl
 |4,_=>rfl
 |5,_=>rfl
 |6,_=>rfl
 |7,_=>rfl
theorem brs_evn:∀o,o<4->brs.getD (2*o) 0∈opn/\clo (brs.getD (2*o) 0)=brs.getD (2*o+1) 0/\brs.getD (2*o+1) 0∉opn:=by decide
theorem brs_ne:∀b,b<8->brs.getD b 0≠63:=by decide
theorem brs_sgn:∀k:Nat,k<=4->∀b,b<2*k->brs.getD b 0∈sgn (k:Int):=by decide +kernel
def cl_(st:List Nat):List Nat:=st.map fun o=>brs.getD (2*o+1) 0
theorem Fi.run{k:Nat}{a:List Nat}(hk:k<=4):∀ {bs:List Nat} {i:Nat} {st:List Nat},(∀o∈st,o<k)->Fi k a i st bs->run (cl_ st) (brt bs)=some []
 |[],i,st,hst,h=>by
  obtain⟨_,rfl⟩:=h
  rfl
 |b::bs,i,st,hst,h=>by
  obtain⟨h1,h2,h3,h4⟩:=h
  have e:brt (b::bs)=brs.getD b 0::brt bs:=rfl
  rw[e]
  show(BrM.stp (cl_ st) (brs.getD b 0)).bind _=_
  by_cases hev:b%2=0
  ·obtain⟨q1,q2,q3⟩:=brs_evn (b/2) (by omega)
   rw[show 2*(b/2)=b by omega]at q1 q2 q3
   rw[stp_open q1,q2]
   have es:stb st b=b/2::st:=by unfold stb;rw[if_pos hev]
   rw[es]at h4
   have:=Fi.run hk (st:=b/2::st) (fun o ho=>by
    rcases List.mem_cons.mp ho with z|z
    ·omega
    ·exact hst o z) h4
   have ec:cl_ (b/2::st)=brs.getD (b+1) 0::cl_ st:=by
    show brs.getD (2*(b/2)+1) 0::cl_ st=_
    rw[show 2*(b/2)=b by omega]
   rw[ec]at this
   exact this
  ·obtain⟨s',rfl⟩:=h3 (by omega)
   obtain⟨q1,q2,q3⟩:=brs_evn (b/2) (by omega)
   have eb:2*(b/2)+1=b:=by omega
   rw[eb]at q3
   have ec:cl_ (b/2::s')=brs.getD b 0::cl_ s':=by
    show brs.getD (2*(b/2)+1) 0::cl_ s'=_
    rw[eb]
   rw[ec,stp_close q3]
   have es:stb (b/2::s') b=s':=by unfold stb;rw[if_neg hev];rfl
   rw[es]at h4
   exact Fi.run hk (fun o ho=>hst o (List.mem_cons_of_mem _ ho)) h4
theorem pw_one{k c b:Nat}(hk:k<=4)(hb:b<2*k)(h:pw k c b=1):c=63\/c=brs.getD b 0:=by
 by_cases hc:c=63
 ·exact .inl hc
 ·refine .inr ?_
  unfold pw plw at h
  rw[if_neg hc,List.getD_eq_getElem?_getD,List.getElem?_map,List.getElem?_take,if_pos (show b<(ones k).length by unfold ones;rw[List.length_replicate];exact hb),brs_get (by omega)]at h
  have h:(if c=brs.getD b 0 then(1:Int)else 0)=1:=h
  split at h
  ·assumption
  ·cases h
theorem pa_pw{k:Nat}{a:List Nat}{i c:Nat}(h:a[i]? =some c)(b:Nat):pa_ k a i b=pw k c b:=by
 show((a.map (plw (ones k))).getD i []).getD b 0=_
 have e:(a.map (plw (ones k))).getD i []=plw (ones k) c:=by rw[List.getD_eq_getElem?_getD,List.getElem?_map,h];rfl
 rw[e];rfl
def Fll(k:Nat):List Nat->List Nat->List Nat->Prop
 |[],st,[]=>st=[]
 |c::r,st,b::bs=>b<2*k/\pw k c b=1/\(b%2=1->∃s',st=b/2::s')/\Fll k r (stb st b) bs
 |_,_,_=>False
theorem Fi.l{k:Nat}{a:List Nat}:∀ {bs:List Nat} {i:Nat} {st:List Nat},Fi k a i st bs->Fll k (a.drop i) st bs
 |[],i,st,h=>by
  obtain⟨rfl,rfl⟩:=h
  rw[List.drop_length]
  rfl
 |b::bs,i,st,h=>by
  have hi:i<a.length:=by have:=h.len;rw[List.length_cons]at this;omega
  obtain⟨h1,h2,h3,h4⟩:=h
  rw[List.drop_eq_getElem_cons hi]
  rw[pa_pw (List.getElem?_eq_getElem hi)]at h2
  exact⟨h1,h2,h3,Fi.l h4⟩
theorem Fll.fl{k:Nat}{a:List Nat}:∀ {bs:List Nat} {i:Nat} {st:List Nat},i<=a.length->Fll k (a.drop i) st bs->Fi k a i st bs
 |[],i,st,hi,h=>by
  cases e:a.drop i with
  |nil=>
   rw[e]at h
   have:=List.drop_eq_nil_iff.mp e
   exact⟨by omega,h⟩
  |cons c r=>rw[e]at h;exact h.elim
 |b::bs,i,st,hi,h=>by
  by_cases hi':i<a.length
  ·rw[List.drop_eq_getElem_cons hi']at h
   obtain⟨h1,h2,h3,h4⟩:=h
   exact⟨h1,by rw[pa_pw (List.getElem?_eq_getElem hi')];exact h2,h3,Fll.fl hi' h4⟩
  ·rw[List.drop_eq_nil_iff.mpr (by omega)]at h
   exact h.elim
theorem Fll.len{k:Nat}:∀ {a st bs:List Nat},Fll k a st bs->bs.length=a.length
 |[],_,[],_=>rfl
 |c::r,st,b::bs,h=>by rw[List.length_cons,List.length_cons,Fll.len h.2.2.2]
 |[],_,_::_,h=>h.elim
 |_::_,_,[],h=>h.elim
theorem Fll.at{k:Nat}:∀ {a st bs:List Nat},Fll k a st bs->∀ {i c b:Nat},a[i]? =some c->bs[i]? =some b->b<2*k/\pw k c b=1
 |c::r,st,b::bs,h,0,c',b',h1,h2=>by
  obtain rfl:c=c':=Option.some.inj h1
  obtain rfl:b=b':=Option.some.inj h2
  exact⟨h.1,h.2.1⟩
 |c::r,st,b::bs,h,i+1,c',b',h1,h2=>Fll.at h.2.2.2 (i:=i) h1 h2
 |[],_,_,_,i,_,_,h1,_=>by simp at h1
 |_::_,_,[],_,i,_,_,_,h2=>by simp at h2
def exk(p q o:Nat):Nat:=if o=p then q else if o=q then p else o
def exb(p q b:Nat):Nat:=2*exk p q (b/2)+b%2
def exc(p q c:Nat):Nat:=if c=63 then 63 else brs.getD (exb p q (fnd brs c).toNat) 0
theorem exk_lt{p q o k:Nat}(hp:p<k)(hq:q<k)(ho:o<k):exk p q o<k:=by unfold exk;split;exact hq;split;exact hp;exact ho
theorem exb_lt{p q b k:Nat}(hp:p<k)(hq:q<k)(hb:b<2*k):exb p q b<2*k:=by
 have:=exk_lt hp hq (show b/2<k by omega)
 unfold exb
 omega
theorem exb_half(p q b:Nat):exb p q b/2=exk p q (b/2):=by unfold exb;omega
theorem exb_mod(p q b:Nat):exb p q b%2=b%2:=by unfold exb;omega
theorem exc_brs{p q b:Nat}(h:b<8):exc p q (brs.getD b 0)=brs.getD (exb p q b) 0:=by
 unfold exc
 rw[if_neg (brs_ne b h),fnd_brs b h,Int.toNat_natCast]
theorem Fll.ex{p q k:Nat}(hk:k<=4)(hp:p<k)(hq:q<k):∀ {a st bs:List Nat},Fll k a st bs->Fll k (a.map (exc p q)) (st.map (exk p q)) (bs.map (exb p q))
 |[],st,[],h=>by
  have h:st=[]:=h
  subst h
  rfl
 |c::r,st,b::bs,h=>by
  obtain⟨h1,h2,h3,h4⟩:=h
  have hb':=exb_lt hp hq h1
  have es:stb (st.map (exk p q)) (exb p q b)=(stb st b).map (exk p q):=by
   unfold stb
   rw[exb_mod,exb_half]
   split
   ·rfl
   ·rw[List.map_tail]
  refine⟨hb',?_,fun ho=>?_,?_⟩
  ·rcases pw_one hk h1 h2 with rfl|rfl
   ·exact pw_unk hb'
   ·show pw k (exc p q (brs.getD b 0)) _=1
    rw[exc_brs (by omega),pw_at hb' (by omega) (brs_get (by omega)),if_pos rfl]
  ·rw[exb_mod]at ho
   obtain⟨s',rfl⟩:=h3 ho
   exact⟨s'.map (exk p q),by rw[exb_half];rfl⟩
  ·rw[es]
   exact Fll.ex hk hp hq h4
 |[],_,_::_,h=>h.elim
 |_::_,_,[],h=>h.elim
theorem Fll.lt{k:Nat}:∀ {a st bs:List Nat},Fll k a st bs->∀b∈bs,b<2*k
 |[],_,[],_,_,hb=>nomatch hb
 |c::r,st,b::bs,h,x,hx=>by
  rcases List.mem_cons.mp hx with z|z
  ·rw[z];exact h.1
  ·exact Fll.lt h.2.2.2 x z
 |[],_,_::_,h,_,_=>h.elim
 |_::_,_,[],h,_,_=>h.elim
theorem isRow_brt{k:Nat}{bs:List Nat}(hk:k<=4)(hl:bs.length<=40)(h:∀b∈bs,b<2*k):isRow (k:Int) (brt bs)=true:=by
 unfold isRow brt
 rw[Bool.and_eq_true,List.length_map]
 refine⟨decide_eq_true hl,?_⟩
 rw[List.all_eq_true]
 intro c hc
 obtain⟨b,hb,rfl⟩:=List.mem_map.mp hc
 exact decide_eq_true (brs_sgn k hk b (h b hb))
end BrS
namespace L2
open PySem PySem.Spec PyProof.Rows
section
variable{σ:St}{H:Hp}{Q:VK}{K:PySem.W.Frag}
theorem yes_lst{a:Addr}{xs:List V}{own:List Str}{sel:List Nat}{g:TG}{te:TE}(hn:xs.length<=sizeLine)(ha:H a=some (.lst xs))(Iv:Nat->List V->Prop)(h0:Iv 0 [])
 (hst:∀D ys H',H D=none->H' D=some (.lst ys)->ys.length=xs.length->Same H H'->Iv xs.length ys->Q (.ref D) H')
 (hs:∀ (i:Nat) (x:V) (ys:List V) (H':Hp) (R:V->Hp->Prop),xs[i]? =some x->ys.length=i->Same H H'->Iv i ys->(∀v H6,Same H' H6->Iv (i+1) (ys++[v])->R v H6)->g x (inSt own sel σ) H' fun σ4 H4=>te σ4 H4 R):CompW (Itl K a) own sel σ g tYes te Q H:=by
 refine comp_yes (fun i=>xs.getD i .non) hn (fun _ i ys _=>Iv i ys) (fun i H' hi sH=>⟨_,xs[i],SqL.of (sH _ _ ha),List.getElem?_eq_getElem hi⟩) (fun H' sH=>⟨_,SqL.of (sH _ _ ha),Nat.le_refl _⟩) (fun i H1 x H' hi sH y=>?_)
  (fun _ _=>h0) (fun _ _ _ _ _ _ e _=>e) (fun D ys H' hD hy hl sH e=>hst D ys H' hD hy hl sH e)
  (fun D i ys H' R hD hi hy hl sH e r=>?_)
 ·obtain⟨rfl,hx⟩:=y
  have:=hx _ (SqL.of (sH _ _ ha))
  exact⟨rfl,by rw[List.getD_eq_getElem?_getD,this];rfl⟩
 ·have ec:xs[i]? =some xs[i]:=List.getElem?_eq_getElem hi
  have eg:xs.getD i .non=xs[i]:=by rw[List.getD_eq_getElem?_getD,ec];rfl
  rw[eg]
  exact hs i xs[i] ys H' R ec hl sH e r
end
end L2
namespace L2
open PySem
end L2
namespace BrS
open L2 PySem BrM BrC BrR
def filB(k:Int)(a b:List Nat):Bool:=isRow k b&&decide (b.length=a.length)&&decide (Rt b)&&(List.range a.length).all fun i=>decide (a.getD i 0=63)||decide (a.getD i 0=b.getD i 0)
theorem Fi.filB{k:Nat}{a bs:List Nat}(hk:k<=4)(hl:a.length<=40)(hf:Fi k a 0 [] bs):filB (k:Int) a (brt bs)=true:=by
 have hbl:=hf.len
 have hbt:(brt bs).length=bs.length:=by unfold brt;rw[List.length_map]
 have hll:=hf.l
 rw[List.drop_zero]at hll
 have hrt:Rt (brt bs):=hf.run hk (by simp)
 unfold BrS.filB
 rw[isRow_brt hk (by omega) hll.lt,decide_eq_true (show(brt bs).length=a.length by omega),decide_eq_true hrt,Bool.true_and,Bool.true_and,Bool.true_and,List.all_eq_true]
 intro i hi
 have hi:=List.mem_range.mp hi
 have e1:a[i]? =some (a.getD i 0):=by rw[List.getD_eq_getElem?_getD,List.getElem?_eq_getElem hi];rfl
 have e2:bs[i]? =some (bs.getD i 0):=by rw[List.getD_eq_getElem?_getD,List.getElem?_eq_getElem (show i<bs.length by omega)];rfl
 have e3:(brt bs).getD i 0=brs.getD (bs.getD i 0) 0:=by unfold brt;rw[List.getD_eq_getElem?_getD,List.getElem?_map,e2];rfl
 obtain⟨q1,q2⟩:=hll.at e1 e2
 rw[e3,Bool.or_eq_true]
 rcases pw_one hk q1 q2 with z|z
 ·exact .inl (decide_eq_true z)
 ·exact .inr (decide_eq_true z)
def NoF(K:PySem.W.Frag)(k:Int)(a:List Nat)(H:Hp)(v:V):Prop:=(∃b,v=tx b/\b.length<=1000/\filB k a b=false)\/∃ty,TyOf K H v (.type ty)/\ty∈plainTy/\ty≠"str"
theorem NoF.keep{K:PySem.W.Frag}{k:Int}{a:List Nat}{p:Addr}{n m:Nat}{H H':Hp}{v:V}(h:NoF K k a H v)(d:Dt p n m H v)(s:SameBut1 p H H'):NoF K k a H' v:=h.elim .inl fun⟨ty,a,b⟩=> .inr ⟨ty,a.keep d.ne s,b⟩
end BrS
namespace BrB
open BrM BrC
def cl:List Nat->Nat->Option (List Nat)
 |[],_=>none
 |p::s,q=>if p=q then some s else none
theorem cl_cons(p:Nat)(s:List Nat)(q:Nat):cl (p::s) q=if p=q then some s else none:=rfl
def nx(k:Nat)(st:List Nat)(b:Nat):Option (List Nat):=if b<2*k then(if b%2=0 then some (b/2::st)else cl st (b/2))else none
def go(k:Nat):List Nat->List Nat->Option (List Nat)
 |st,[]=>some st
 |st,b::r=>(nx k st b).bind fun s=>go k s r
theorem go_nil{k:Nat}(st:List Nat):go k st []=some st:=by rw[go]
theorem go_cons{k:Nat}(st:List Nat)(b:Nat)(r:List Nat):go k st (b::r)=(nx k st b).bind fun s=>go k s r:=by rw[go]
theorem nx_some{k:Nat}{st s:List Nat}{b:Nat}(h:nx k st b=some s):b<2*k/\((b%2=0/\s=b/2::st)\/(b%2=1/\st=b/2::s)):=by
 unfold nx at h
 by_cases h1:b<2*k
 ·rw[if_pos h1]at h
  by_cases h2:b%2=0
  ·rw[if_pos h2]at h;cases h;exact⟨h1, .inl ⟨h2,rfl⟩⟩
  ·rw[if_neg h2]at h
   cases st with
   |nil=>cases h
   |cons p q=>
    rw[cl_cons]at h
    by_cases h3:p=b/2
    ·rw[if_pos h3]at h;cases h;exact⟨h1, .inr ⟨by omega,by rw[h3]⟩⟩
    ·rw[if_neg h3]at h;cases h
 ·rw[if_neg h1]at h;cases h
theorem nx_open{k p:Nat}(st:List Nat)(h:p<k):nx k st (2*p)=some (p::st):=by
 unfold nx;rw[if_pos (by omega),if_pos (by omega),show 2*p/2=p by omega]
theorem nx_close{k p:Nat}(st:List Nat)(h:p<k):nx k (p::st) (2*p+1)=some st:=by
 unfold nx;rw[if_pos (by omega),if_neg (by omega),show(2*p+1)/2=p by omega]
 rw[cl_cons,if_pos rfl]
theorem nx_of{k:Nat}{st s:List Nat}{b:Nat}(h1:b<2*k)(h:(b%2=0/\s=b/2::st)\/(b%2=1/\st=b/2::s)):nx k st b=some s:=by
 rcases h with⟨h2,rfl⟩|⟨h2,rfl⟩
 ·unfold nx;rw[if_pos h1,if_pos h2]
 ·unfold nx;rw[if_pos h1,if_neg (by omega)];rw[cl_cons,if_pos rfl]
def Rg(k:Nat)(l:List Nat):Prop:=go k [] l=some []
theorem go_open{k p:Nat}(st r:List Nat)(h:p<k):go k st (2*p::r)=go k (p::st) r:=by rw[go_cons,nx_open st h];rfl
theorem go_close{k p:Nat}(st r:List Nat)(h:p<k):go k (p::st) ((2*p+1)::r)=go k st r:=by rw[go_cons,nx_close st h];rfl
theorem go_app{k:Nat}:∀ (l r st:List Nat),go k st (l++r)=(go k st l).bind fun s=>go k s r
 |[],r,st=>by rw[List.nil_append,go_nil];rfl
 |b::l,r,st=>by
  rw[List.cons_append,go_cons,go_cons]
  cases nx k st b with
  |none=>rfl
  |some s=>exact go_app l r s
theorem nx_up{k:Nat}{st s:List Nat}{b:Nat}(more:List Nat)(h:nx k st b=some s):nx k (st++more) b=some (s++more):=by
 obtain⟨h1,h2⟩:=nx_some h
 refine nx_of h1 (h2.imp (fun⟨a,e⟩=>⟨a,by rw[e];rfl⟩) fun⟨a,e⟩=>⟨a,by rw[e];rfl⟩)
theorem go_up{k:Nat}:∀ (l st s more:List Nat),go k st l=some s->go k (st++more) l=some (s++more)
 |[],st,s,more,h=>by rw[go_nil]at h⊢;cases h;rfl
 |b::l,st,s,more,h=>by
  rw[go_cons]at h⊢
  obtain⟨s1,h1,h2⟩:=Option.bind_eq_some_iff.mp h
  rw[nx_up more h1]
  exact go_up l s1 s more h2
theorem go_len{k:Nat}:∀ (l st s:List Nat),go k st l=some s->st.length<=s.length+l.length/\(st.length+s.length+l.length)%2=0
 |[],st,s,h=>by rw[go_nil]at h;cases h;simp;omega
 |b::l,st,s,h=>by
  rw[go_cons]at h
  obtain⟨s1,h1,h2⟩:=Option.bind_eq_some_iff.mp h
  have:=go_len l _ _ h2
  obtain⟨hb,⟨h3,rfl⟩|⟨h3,rfl⟩⟩:=nx_some h1
  ·simp only[List.length_cons]at this⊢;omega
  ·simp only[List.length_cons]at this⊢;omega
theorem lt_tri(a b:List Nat):a<b\/a=b\/b<a:=by
 by_cases h:a<b
 ·exact .inl h
 ·by_cases h2:b<a
  ·exact .inr (.inr h2)
  ·exact .inr (.inl (List.le_antisymm (List.not_lt.mp h2) (List.not_lt.mp h)))
theorem nlt_trans{a b c:List Nat}(h1:¬b<a)(h2:¬c<b):¬c<a:=fun h=>by
 rcases lt_tri b c with z|z|z
 ·exact h1 (List.lt_trans z h)
 ·exact h1 (z▸h)
 ·exact h2 z
abbrev O:=Option (Int×List Nat)
def lik:O->O->O
 |none,b=>b
 |some a,none=>some a
 |some (x,l),some (y,m)=>if x=y then(if l<m then some (x,l)else some (y,m))else if x>y then some (x,l)else some (y,m)
def Best(S:List Nat->Prop)(f:List Nat->Int):O->Prop
 |none=>∀l,S l->f l<=0
 |some (w,l)=>S l/\f l=w/\0<w/\∀m,S m->f m<w\/(f m=w/\¬m<l)
theorem Best.un{S S':List Nat->Prop}{f:List Nat->Int}:∀ {a b:O},Best S f a->Best S' f b->Best (fun l=>S l\/S' l) f (lik a b)
 |none,none,h,g=>fun l hl=>hl.elim (h l) (g l)
 |none,some (v,m),h,⟨g1,g2,g3,g4⟩=>⟨.inr g1,g2,g3,fun x hx=>hx.elim (fun z=> .inl (by have:=h x z;omega)) (g4 x)⟩
 |some (w,l),none,⟨h1,h2,h3,h4⟩,g=>⟨.inl h1,h2,h3,fun x hx=>hx.elim (h4 x) (fun z=> .inl (by have:=g x z;omega))⟩
 |some (w,l),some (v,m),⟨h1,h2,h3,h4⟩,⟨g1,g2,g3,g4⟩=>by
  show Best _ f (if w=v then(if l<m then some (w,l)else some (v,m))else if w>v then some (w,l)else some (v,m))
  by_cases e:w=v
  ·subst e
   rw[if_pos rfl]
   by_cases e2:l<m
   ·rw[if_pos e2]
    refine⟨.inl h1,h2,h3,fun x hx=>hx.elim (h4 x) fun z=>(g4 x z).imp id fun⟨a,b⟩=>⟨a,nlt_trans (fun t=>List.lt_irrefl _ (List.lt_trans t e2)) b⟩⟩
   ·rw[if_neg e2]
    refine⟨.inr g1,g2,g3,fun x hx=>hx.elim (fun z=>(h4 x z).imp id fun⟨a,b⟩=>⟨a,nlt_trans e2 b⟩) (g4 x)⟩
  ·rw[if_neg e]
   by_cases e2:w>v
   ·rw[if_pos e2]
    exact⟨.inl h1,h2,h3,fun x hx=>hx.elim (h4 x) fun z=> .inl (by rcases g4 x z with y|⟨y,_⟩<;>omega)⟩
   ·rw[if_neg e2]
    exact⟨.inr g1,g2,g3,fun x hx=>hx.elim (fun z=> .inl (by rcases h4 x z with y|⟨y,_⟩<;>omega)) (g4 x)⟩
theorem Best.pos{S:List Nat->Prop}{f:List Nat->Int}{w:Int}{l:List Nat}(h:Best S f (some (w,l))):0<w:=h.2.2.1
def Dn(k s t:Nat)(l:List Nat):Prop:=Rg k l/\s+l.length=t
def Sq(k s q t:Nat)(l:List Nat):Prop:=∃j p u v,j<q/\p<k/\l=2*p::(u++(2*p+1)::v)/\Rg k u/\u.length=2*j/\Rg k v/\s+2+2*j+v.length=t
def Nw(k s q t:Nat)(l:List Nat):Prop:=∃p u v,p<k/\l=2*p::(u++(2*p+1)::v)/\Rg k u/\u.length=2*q/\Rg k v/\s+2+2*q+v.length=t
theorem Sq.zero(k s t:Nat)(l:List Nat):¬Sq k s 0 t l:=fun⟨j,_,_,_,h,_⟩=>absurd h (Nat.not_lt_zero _)
theorem Sq.len{k s q t:Nat}{l:List Nat}(h:Sq k s q t l):s+l.length=t:=by
 obtain⟨j,p,u,v,_,_,rfl,_,hu,_,e⟩:=h
 simp only[List.length_cons,List.length_append];omega
theorem Nw.len{k s q t:Nat}{l:List Nat}(h:Nw k s q t l):s+l.length=t:=by
 obtain⟨p,u,v,_,rfl,_,hu,_,e⟩:=h
 simp only[List.length_cons,List.length_append];omega
theorem Dn.nil(k s:Nat)(l:List Nat):Dn k s s l↔l=[]:=by
 constructor
 ·rintro⟨_,e⟩;exact List.eq_nil_of_length_eq_zero (by omega)
 ·rintro rfl;exact⟨by unfold Rg;rw[go_nil],rfl⟩
end BrB
namespace PySem.SeqAt
open AutoSeq1 (wpAny_loadPart')
open MeetsSeq MeetsSeq2 MeetsSeq3 SeqRoads2
section
variable{prog:Program}{w:World}{A:Around}{E:Value->Shared->Prop}{s:Shared}
end
end PySem.SeqAt
namespace L2
open PySem PySem.Spec PyProof.Rows
abbrev nL(bs:List Nat):List V:=bs.map fun b:Nat=>V.int (b:Int)
section
variable{X:Cx}
end
end L2
namespace BrS
open L2 PySem BrM BrC BrB
def Bt(F:Addr->Prop)(H:Hp)(v:V):O->Prop
 |none=>v= .non
 |some (w,l)=>∃T a,v= .ref T/\F T/\F a/\H T=some (.tup [.int w, .ref a])/\H a=some (.lst (nL l))
theorem Bt.keep{F:Addr->Prop}{H H':Hp}{v:V}{o:O}(h:Bt F H v o)(k:∀b x,F b->H b=some x->H' b=some x):Bt F H' v o:=by
 match o,h with
 |none,h=>exact h
 |some (w,l),⟨T,a,e,f1,f2,g1,g2⟩=>exact⟨T,a,e,f1,f2,k _ _ f1 g1,k _ _ f2 g2⟩
theorem Bt.imp{F G:Addr->Prop}{H:Hp}{v:V}{o:O}(h:Bt F H v o)(k:∀b x,F b->H b=some x->G b):Bt G H v o:=by
 match o,h with
 |none,h=>exact h
 |some (w,l),⟨T,a,e,f1,f2,g1,g2⟩=>exact⟨T,a,e,k _ _ f1 g1,k _ _ f2 g2,g1,g2⟩
def rwv(n:Nat)(f:Nat->V):List V:=(List.range (n+1)).map f
theorem rwv_set{n j:Nat}{f:Nat->V}{v:V}:(rwv n f).set j v=rwv n (fun x=>if x=j then v else f x):=by
 apply List.ext_getElem?
 intro i
 unfold rwv
 rw[List.getElem?_set,List.getElem?_map,List.getElem?_map]
 by_cases e:j=i
 ·subst e
  by_cases hj:j<n+1
  ·rw[List.getElem?_range hj];simp[hj]
  ·rw[if_pos rfl,if_neg (by simpa using hj)]
   rw[List.getElem?_eq_none (by simpa using hj)];rfl
 ·rw[if_neg e]
  by_cases hi:i<n+1
  ·rw[List.getElem?_range hi];simp[Ne.symm e]
  ·rw[List.getElem?_eq_none (by simpa using hi)];rfl
structure Tv (H0 H1 H:Hp) (s:Addr) (ad:Nat->Addr) (n:Nat) (T:Nat->Nat->V):Prop where
 fs:H0 s=none
 fa:∀i,i<=n->H0 (ad i)=none
 ns:∀i,i<=n->ad i≠s
 inj:∀i j,i<=n->j<=n->ad i=ad j->i=j
 old:∀i,i<=n->H1 (ad i)≠none
 top:H s=some (.lst ((List.range (n+1)).map fun i=>V.ref (ad i)))
 row:∀i,i<=n->H (ad i)=some (.lst (rwv n (T i)))
 sm:Same H0 H
 gr:∀b,H b=none->H1 b=none
section
variable{H0 H1 H H':Hp}{s:Addr}{ad:Nat->Addr}{n:Nat}{T T':Nat->Nat->V}
theorem Tv.at(t:Tv H0 H1 H s ad n T){i:Nat}(hi:i<=n):((List.range (n+1)).map fun i=>V.ref (ad i))[i]? =some (.ref (ad i)):=by
 rw[List.getElem?_map,List.getElem?_range (by omega)];rfl
theorem Tv.set(t:Tv H0 H1 H s ad n T){i j:Nat}{v:V}(hi:i<=n):Tv H0 H1 (upd H (ad i) (.lst ((rwv n (T i)).set j v))) s ad n (fun a b=>if a=i then(if b=j then v else T a b)else T a b):=by
 refine⟨t.fs,t.fa,t.ns,t.inj,t.old,by rw[upd_ne (Ne.symm (t.ns i hi))];exact t.top,fun a ha=>?_,fun b o z=>?_,fun b z=>?_⟩
 ·by_cases e:a=i
  ·subst e
   rw[upd_same,rwv_set]
   simp
  ·rw[upd_ne (fun z=>e (t.inj a i ha hi z)),t.row a ha]
   simp[e]
 ·rw[upd_ne (ne_of_none z (t.fa i hi))];exact t.sm b o z
 ·by_cases e:b=ad i
  ·subst e;rw[upd_same]at z;cases z
  ·rw[upd_ne e]at z;exact t.gr b z
theorem Tv.keep(t:Tv H0 H1 H s ad n T){i:Nat}(hi:i<=n){o:HO}(b:Addr)(x:HO)(f:H1 b=none)(z:H b=some x):(upd H (ad i) o) b=some x:=by
 have ne:b≠ad i:=fun e=>t.old i hi (by rw[<-e];exact f)
 rw[upd_ne ne];exact z
end
end BrS
namespace PySem
open Sem (wp)
end PySem
namespace L2
open PySem PySem.Spec PyProof.Rows
section
variable{P:Program}{w:World}{K:PySem.W.Frag}{elts:List Expr}{k:Nat}{tpos:Pos}
end
section
variable{X:Cx}{a b:Expr}{ta:TA}{p pos:Pos}{elts:List Expr}{k:Nat}{tpos:Pos}
end
end L2
namespace BrB
open BrM BrC BrS
abbrev Fe:=List Nat×List Nat
theorem go_take{k:Nat}{l:List Nat}(h:Rg k l)(j:Nat):∃s,go k [] (l.take j)=some s/\go k s (l.drop j)=some []:=by
 unfold Rg at h
 rw[<-List.take_append_drop j l,go_app]at h
 obtain⟨s,h1,h2⟩:=Option.bind_eq_some_iff.mp h
 exact⟨s,h1,h2⟩
end BrB
namespace BrS
open L2 PySem BrM BrC BrB BrR
def Fs(fu:Addr)(H:Hp)(vs:List V)(es:List Fe):Prop:=vs.length=es.length/\∀ (i:Nat) (e:Fe),es[i]? =some e->∃T p s:Addr,vs[i]? =some (V.ref T)/\T≠fu/\p≠fu/\s≠fu/\H T=some (.tup [.ref p, .ref s])/\H p=some (.lst (nL e.1))/\H s=some (.lst (nL e.2.reverse))
theorem Fs.keep{fu:Addr}{H H':Hp}{vs:List V}{es:List Fe}(h:Fs fu H vs es)(k:SameBut1 fu H H'):Fs fu H' vs es:=⟨h.1,fun i e he=>by
 obtain⟨T,p,s,a1,a2,a3,a4,a5,a6,a7⟩:=h.2 i e he
 exact⟨T,p,s,a1,a2,a3,a4,k _ _ a5 a2,k _ _ a6 a3,k _ _ a7 a4⟩⟩
theorem Fs.nil(fu:Addr)(H:Hp):Fs fu H [] []:=⟨rfl,fun i e he=>by simp at he⟩
end BrS
namespace L2
open PySem PySem.Spec PyProof.Rows
section
variable{σ:St}{H:Hp}{Q:VK}{K:PySem.W.Frag}
end
end L2
namespace BrS
open L2 PySem BrM BrC BrB BrR
end BrS
namespace BrS
open L2 PySem PyProof.Rows BrM BrC BrB BrR
end BrS
namespace BrB
open BrM BrC BrS
def sms(L:List Int):Int:=L.foldr (· + ·) 0
end BrB
namespace BrS
open L2 PySem PySem.Spec PyProof.Rows BrM BrC BrB BrR
end BrS
namespace BrI
open BrM BrC BrS
section
variable{P:Nat->Nat->Int}{k n:Nat}
theorem tb_self(i:Nat):tbl P k i i=1:=by unfold tbl;rw[if_pos (Nat.le_refl _),Nat.sub_self];rfl
theorem tb_gt{i j:Nat}(h:j<i):tbl P k i j=0:=by unfold tbl;rw[if_neg (by omega)]
def Of(P:Nat->Nat->Int)(k n:Nat):Nat->Nat->Nat->Int
 |0,_,_=>0
 |f+1,t,j=>(if j=n then tbl P k 0 t else 0)+sm n (fun u=>tbl P k (u+1) t*(pr P k u j*sm (n+1) (fun s=>Of P k n f u s*tbl P k (j+1) s)))
theorem Of_next:∀ (f t j:Nat),t<f->Of P k n f t j=Of P k n (f+1) t j
 |0,t,j,h=>absurd h (Nat.not_lt_zero _)
 |f+1,t,j,h=>by
  rw[Of,Of.eq_def (n:=n) (P:=P) (k:=k) (f+1+1)]
  simp only
  congr 1
  refine sm_congr n fun u hu=>?_
  by_cases e:u<t
  ·congr 2
   exact sm_congr (n+1) fun s _=>by rw[Of_next f u s (by omega)]
  ·rw[tb_gt (i:=u+1) (j:=t) (by omega)];simp
def Oo(P:Nat->Nat->Int)(k n t j:Nat):Int:=Of P k n (n+1) t j
def out(P:Nat->Nat->Int)(k n u j:Nat):Int:=sm (n+1) (fun s=>Oo P k n u s*tbl P k (j+1) s)
theorem Oo_eq{t j:Nat}(h:t<=n):Oo P k n t j=(if j=n then tbl P k 0 t else 0)+sm n (fun u=>tbl P k (u+1) t*(pr P k u j*out P k n u j)):=by
 unfold Oo out
 rw[Of]
 congr 1
 refine sm_congr n fun u hu=>?_
 by_cases e:u<t
 ·congr 2
  refine sm_congr (n+1) fun s _=>?_
  unfold Oo
  rw[Of_next n u s (by omega)]
 ·rw[tb_gt (i:=u+1) (j:=t) (by omega)];simp
theorem Oo_zero(j:Nat):Oo P k n 0 j=if j=n then 1 else 0:=by
 rw[Oo_eq (Nat.zero_le _),tb_self,sm_zero n fun u _=>by rw[tb_gt (i:=u+1) (j:=0) (by omega)];simp]
 omega
end
section
variable{P P':Nat->Nat->Int}{k n i:Nat}
end
section
variable{P:Nat->Nat->Int}{k n:Nat}{c:Int}
end
end BrI
namespace BrS
open L2 PySem BrM BrC BrB BrI BrR
def prs(n:Nat):List (Nat×Nat):=(List.range n).flatMap fun s=>(List.range ((n-s)/2)).map fun q=>(s,s+1+2*q)
def rst(P:Nat->Nat->Int)(k n s e:Nat):Int:=tbl P k (s+1) e*out P k n s e
def Fp(P:Nat->Nat->Int)(k n:Nat)(H:Hp)(vs:List V)(L:List (Nat×Nat)):Prop:=vs.length=L.length/\∀ (m:Nat) (x:Nat×Nat),L[m]? =some x->∃T:Addr,vs[m]? =some (V.ref T)/\H T=some (.tup [.int x.1, .int x.2, .int (rst P k n x.1 x.2)])
theorem Fp.lst{P:Nat->Nat->Int}{k n:Nat}{H:Hp}{vs:List V}{L:List (Nat×Nat)}{a:Addr}{xs:List V}{o:HO}(h:Fp P k n H vs L)(ha:H a=some (.lst xs)):Fp P k n (upd H a o) vs L:=⟨h.1,fun m x hx=>by
 obtain⟨T,e,b⟩:=h.2 m x hx
 exact⟨T,e,by rw[upd_ne (ne_of b ha (fun z=>by cases z))];exact b⟩⟩
def ot(P:Nat->Nat->Int)(k n s q r i j:Nat):Int:=
 if i<=s then Oo P k n i j else
  sm s (fun u=>Oo P k n u j*(pr P k u (i-1)*tbl P k (u+1) (i-1)))+
  (if s<i-1/\(i-1<s+1+2*q\/(i-1=s+1+2*q/\j<r))then Oo P k n s j*(pr P k s (i-1)*tbl P k (s+1) (i-1))else 0)+
  (if i=s+1/\j<s+1+2*q then pr P k s j*out P k n s j else 0)
def OkT(P:Nat->Nat->Int)(k n s q r:Nat)(T:Nat->Nat->Int):Prop:=∀i j,i<=j->j<=n->(j-i)%2=0->T i j=ot P k n s q r i j
theorem OkT.zero{P:Nat->Nat->Int}{k n:Nat}{T:Nat->Nat->Int}(h:∀i j,T i j=if i=0/\j=n then 1 else 0):OkT P k n 0 0 0 T:=by
 intro i j h1 h2 h3
 rw[h]
 unfold ot
 by_cases e:i=0
 ·subst e
  rw[if_pos (Nat.le_refl _),Oo_zero]
  by_cases z:j=n
  ·rw[if_pos ⟨rfl,z⟩,if_pos z]
  ·rw[if_neg (fun w=>z w.2),if_neg z]
 ·rw[if_neg (fun w=>e w.1),if_neg (by omega),if_neg (by omega),if_neg (by omega)];rfl
theorem OkT.row{P:Nat->Nat->Int}{k n s q r j:Nat}{T:Nat->Nat->Int}(h:OkT P k n s q r T)(h1:s<=j)(h2:j<=n)(h3:(j-s)%2=0):T s j=Oo P k n s j:=by
 rw[h s j h1 h2 h3];unfold ot;rw[if_pos (Nat.le_refl _)]
section
variable{ps:List (List Int)}{k n:Nat}
end
def rw2(m:Nat)(f:Nat->Int):List V:=(List.range m).map fun j=>V.int (f j)
theorem rw2_set{m j:Nat}{f:Nat->Int}{v:Int}:(rw2 m f).set j (.int v)=rw2 m (fun x=>if x=j then v else f x):=by
 apply List.ext_getElem?
 intro i
 unfold rw2
 rw[List.getElem?_set,List.getElem?_map,List.getElem?_map]
 by_cases e:j=i
 ·subst e
  by_cases hj:j<m
  ·rw[List.getElem?_range hj];simp[hj]
  ·rw[if_pos rfl,if_neg (by simpa using hj)]
   rw[List.getElem?_eq_none (by simpa using hj)];rfl
 ·rw[if_neg e]
  by_cases hi:i<m
  ·rw[List.getElem?_range hi];simp[Ne.symm e]
  ·rw[List.getElem?_eq_none (by simpa using hi)];rfl
theorem rw2_congr{m:Nat}{f g:Nat->Int}(h:∀j,j<m->f j=g j):rw2 m f=rw2 m g:=by
 unfold rw2
 refine List.map_congr_left fun j hj=>?_
 rw[h j (List.mem_range.mp hj)]
structure Tw (H0 H:Hp) (s:Addr) (ad:Nat->Addr) (n m:Nat) (T:Nat->Nat->Int):Prop where
 fs:H0 s=none
 fa:∀i,i<n->H0 (ad i)=none
 ns:∀i,i<n->ad i≠s
 inj:∀i j,i<n->j<n->ad i=ad j->i=j
 top:H s=some (.lst ((List.range n).map fun i=>V.ref (ad i)))
 row:∀i,i<n->H (ad i)=some (.lst (rw2 m (T i)))
 sm:Same H0 H
section
variable{H0 H H':Hp}{s:Addr}{ad:Nat->Addr}{n m:Nat}{T T':Nat->Nat->Int}
theorem Tw.congr(t:Tw H0 H s ad n m T)(h:∀i j,i<n->j<m->T i j=T' i j):Tw H0 H s ad n m T':=⟨t.fs,t.fa,t.ns,t.inj,t.top,fun i hi=>by rw[t.row i hi,rw2_congr fun j hj=>h i j hi hj],t.sm⟩
theorem Tw.at(t:Tw H0 H s ad n m T){i:Nat}(hi:i<n):((List.range n).map fun i=>V.ref (ad i))[i]? =some (.ref (ad i)):=by
 rw[List.getElem?_map,List.getElem?_range hi];rfl
theorem Tw.set(t:Tw H0 H s ad n m T){i j:Nat}{v:Int}(hi:i<n):Tw H0 (upd H (ad i) (.lst ((rw2 m (T i)).set j (.int v)))) s ad n m (fun a b=>if a=i/\b=j then v else T a b):=by
 refine⟨t.fs,t.fa,t.ns,t.inj,by rw[upd_ne (Ne.symm (t.ns i hi))];exact t.top,fun a ha=>?_,fun b o z=>?_⟩
 ·by_cases e:a=i
  ·subst e
   rw[upd_same,rw2_set]
   congr 2
   refine rw2_congr fun x _=>?_
   by_cases q:x=j<;>simp[q]
  ·rw[upd_ne (fun z=>e (t.inj a i ha hi z)),t.row a ha]
   congr 2
   refine rw2_congr fun x _=>?_
   simp[e]
 ·rw[upd_ne (ne_of_none z (t.fa i hi))];exact t.sm b o z
end
def ga(P:Nat->Nat->Int)(k n i b:Nat)(x:Nat×Nat):Int:=
 if b%2=0 then(if x.1=i then P x.1 b*P x.2 (b+1)*rst P k n x.1 x.2 else 0)else(if x.2=i then P x.1 (b-1)*P x.2 b*rst P k n x.1 x.2 else 0)
section
variable{K:PySem.W.Frag}{σ:St}{H:Hp}{Q:VK}
end
def gp(P:Nat->Nat->Int)(k n m o i b:Nat)(x:Nat×Nat):Int:=sms (((prs n).take m).map (ga P k n i b))+(if b/2<o then ga P k n i b x else 0)
end BrS
namespace PySem
open Sem (wp)
end PySem
namespace L2
open PySem PySem.Spec PyProof.Rows
section
variable{P:Program}{w:World}{K:PySem.W.Frag}{elts:List Expr}{k:Nat}{tpos:Pos}
end
section
variable{X:Cx}{a b:Expr}{ta:TA}{p pos:Pos}{elts:List Expr}{k:Nat}{tpos:Pos}
end
end L2
namespace BrS
open L2 PySem PySem.Spec PyProof.Rows BrM BrC BrB BrI BrR
section
variable{σ:L2.St}{H:Hp}{Q:VK}
end
end BrS
namespace L2
open PySem PySem.Spec PyProof.Rows
section
variable{X:Cx}{pins:List (Addr×Obj)}{σ:St}{H:Hp}{s:Shared}{a:Addr}{kvs:List (Key×V)}{k:Key}{v:V}{u r:Value}{A:Around}{E:Value->Shared->Prop}
end
section
variable{prog:Program}{w:World}{A:Around}{R:Result->Shared->Prop}{s:Shared}
end
section
variable{X:Cx}
end
end L2
namespace L2
open PySem PySem.Spec PyProof.Rows PySem.SeqAt
end L2
namespace BrS
open L2 PySem PySem.Spec PyProof.Rows BrM BrC BrB BrI BrR
def Prl(H:Hp)(vs:List V)(L:List (Nat×Nat)):Prop:=vs.length=L.length/\∀ (m:Nat) (x:Nat×Nat),L[m]? =some x->∃T:Addr,vs[m]? =some (V.ref T)/\H T=some (.tup [.int x.1, .int x.2])
theorem Prl.lst{H:Hp}{vs:List V}{L:List (Nat×Nat)}{a:Addr}{xs:List V}{o:HO}(h:Prl H vs L)(ha:H a=some (.lst xs)):Prl (upd H a o) vs L:=⟨h.1,fun m x hx=>by
 obtain⟨T,e,b⟩:=h.2 m x hx
 exact⟨T,e,by rw[upd_ne (ne_of b ha (fun z=>by cases z))];exact b⟩⟩
def Sll(H:Hp)(vs:List V)(L:List (Nat×Nat)):Prop:=vs.length=L.length/\∀ (m:Nat) (x:Nat×Nat),L[m]? =some x->∃T:Addr,vs[m]? =some (V.ref T)/\H T=some (.tup [.int x.1,tx [brs.getD x.2 0]])
theorem Sll.lst{H:Hp}{vs:List V}{L:List (Nat×Nat)}{a:Addr}{xs:List V}{o:HO}(h:Sll H vs L)(ha:H a=some (.lst xs)):Sll (upd H a o) vs L:=⟨h.1,fun m x hx=>by
 obtain⟨T,e,b⟩:=h.2 m x hx
 exact⟨T,e,by rw[upd_ne (ne_of b ha (fun z=>by cases z))];exact b⟩⟩
end BrS
namespace BrI
open BrM BrC BrS BrB
section
variable{P:Nat->Nat->Int}{k:Nat}
end
theorem go_on{k:Nat}{v:List Nat}(h:Rg k v)(st:List Nat):go k st v=some st:=by
 have:=go_up v [] [] st h
 simpa using this
section
variable{P:Nat->Nat->Int}{k n:Nat}
end
def PairAt(k:Nat)(l:List Nat)(s e:Nat):Prop:=∃p u v w,p<k/\l=u++2*p::(v++(2*p+1)::w)/\u.length=s/\s+1+v.length=e/\Rg k v
theorem PairAt.lt{k:Nat}{l:List Nat}{s e:Nat}(h:PairAt k l s e):s<e/\e<l.length/\(e-s)%2=1:=by
 obtain⟨p,u,v,w,_,rfl,hu,he,hv⟩:=h
 have:=(go_len v [] [] hv).2
 simp at this⊢
 omega
theorem sg_brs:∀b,b<8->sg (brs.getD b 0)=if b%2=0 then 1 else -1:=by decide
theorem hg_go{k:Nat}(hk:k<=4):∀ {l st s:List Nat},go k st l=some s->hg (brt l)=(s.length:Int)-st.length
 |[],st,s,h=>by rw[go_nil]at h;cases h;show(0:Int)=_;omega
 |b::l,st,s,h=>by
  rw[go_cons]at h
  obtain⟨s1,h1,h2⟩:=Option.bind_eq_some_iff.mp h
  have ih:=hg_go hk h2
  show sg (brs.getD b 0)+hg (brt l)=_
  obtain⟨hb,⟨e1,rfl⟩|⟨e1,rfl⟩⟩:=nx_some h1
  ·rw[sg_brs b (by omega),if_pos e1,ih,List.length_cons];omega
  ·rw[sg_brs b (by omega),if_neg (by omega),ih,List.length_cons];omega
theorem brt_len(l:List Nat):(brt l).length=l.length:=by unfold brt;rw[List.length_map]
theorem brt_app(a b:List Nat):brt (a++b)=brt a++brt b:=by unfold brt;rw[List.map_append]
theorem ht_brt(a b:List Nat):ht (brt (a++b)) a.length=hg (brt a):=by
 unfold ht
 rw[brt_app,List.take_left' (brt_len a)]
theorem PairAt.pr{k:Nat}(hk:k<=4){l:List Nat}{s e:Nat}(h:PairAt k l s e):Pr (brt l) s e:=by
 have hlt:=h.lt
 obtain⟨p,u,v,w,hp,rfl,hu,he,hv⟩:=h
 have h0:ht (brt (u++2*p::(v++(2*p+1)::w))) s=hg (brt u):=by rw[<-hu];exact ht_brt _ _
 have key:∀j,j<=v.length->ht (brt (u++2*p::(v++(2*p+1)::w))) (s+1+j)=hg (brt u)+1+hg (brt (v.take j)):=fun j hj=>by
  have e1:u++2*p::(v++(2*p+1)::w)=(u++2*p::v.take j)++(v.drop j++(2*p+1)::w):=by
   have e0:v.take j++(v.drop j++(2*p+1)::w)=v++(2*p+1)::w:=by rw[<-List.append_assoc,List.take_append_drop]
   rw[List.append_assoc,List.cons_append,e0]
  have e2:(u++2*p::v.take j).length=s+1+j:=by rw[List.length_append,List.length_cons,List.length_take];omega
  rw[e1,<-e2,ht_brt,brt_app,hg_append]
  show _+(sg (brs.getD (2*p) 0)+hg (brt (v.take j)))=_
  rw[sg_brs (2*p) (by omega),if_pos (by omega)];omega
 refine⟨hlt.1,by rw[brt_len];exact hlt.2.1,?_,fun m h1 h2=>?_⟩
 ·have e1:u++2*p::(v++(2*p+1)::w)=(u++2*p::(v++[2*p+1]))++w:=by simp
  have e2:(u++2*p::(v++[2*p+1])).length=e+1:=by simp;omega
  rw[h0,e1,<-e2,ht_brt,brt_app,hg_append]
  show _+(sg (brs.getD (2*p) 0)+hg (brt (v++[2*p+1])))=_
  rw[brt_app,hg_append]
  have e3:hg (brt v)=0:=by have:=hg_go hk hv;simpa using this
  have e4:hg (brt [2*p+1])= -1:=by
   show sg (brs.getD (2*p+1) 0)+0= -1
   rw[sg_brs (2*p+1) (by omega),if_neg (by omega)];rfl
  rw[e3,e4,sg_brs (2*p) (by omega),if_pos (by omega)];omega
 ·have:=key (m-(s+1)) (by omega)
  rw[show s+1+(m-(s+1))=m by omega]at this
  rw[h0,this]
  obtain⟨st,g1,_⟩:=go_take hv (m-(s+1))
  have:=hg_go hk g1
  simp at this
  omega
section
variable{P P':Nat->Nat->Int}{k n n' i d:Nat}
end
end BrI
namespace L2
open PySem PySem.Spec PyProof.Rows
section
variable{X:Cx}
def DatOk(d:PyData):Prop:=d.canLay0=true/\d.depth<=150
def rEqDat(f:Bool->Bool):R2:=fun x y H Q=>∃ (dx dy:PyData) (p q:Addr),Sd p H x dx/\Sd q H y dy/\DatOk dx/\dy.canLay0=true/\Q (.bl (f (PyData.eqv dx dy))) H
theorem Room.deep{k:Nat}{A:Around}(hr:Room k A){d e:PyData}(h:d.depth<=150):A.units+min d.depth e.depth<cLine:=by
 have h1:=hr.un
 have h2:min d.depth e.depth<=d.depth:=Nat.min_le_left _ _
 omega
theorem op_neDat{k:Nat}(hr:Room k X.A):OpR X (compareOp .NotEq) (rEqDat not):=by
 intro pins s σ H x y v u Q I rx ry ⟨dx,dy,p,q,h1,h2,o1,o2,h⟩
 obtain⟨as,r1,_⟩:=h1.reads I rx
 obtain⟨bs,r2,_⟩:=h2.reads I ry
 exact SeqAt.compareNe_reads r1 r2 o1.1 o2 (hr.deep o1.2) ⟨.bl _,H,I,rfl,h⟩
theorem s_neDat{H:Hp}{Q:VK}{x y:V}{d:PyData}{p q:Addr}(h1:Sd p H x d)(h2:Sd q H y d)(ok:DatOk d)(h:Q (.bl false) H):rEqDat not x y H Q:=⟨d,d,p,q,h1,h2,ok,ok.1,by rw[SeqAt.eqv_refl d ok.1];exact h⟩
end
mutual
def cln:PyData->Bool
 | .none=>true| .bool _=>false| .int _=>true| .str _=>true
 | .list xs=>clnAll xs| .tuple xs=>clnAll xs
 | .dict _=>false
def clnAll:List PyData->Bool
 |[]=>true
 |x::xs=>cln x&&clnAll xs
end
end L2
namespace BrTr
open L2 PySem PySem.Spec PyProof.Rows BrM BrC BrB BrI BrS
inductive Tr where
 |nil:Tr
 |cons (k:Nat) (s r:Tr):Tr
deriving DecidableEq
namespace Tr
def sz:Tr->Nat
 |nil=>0
 |cons _ s r=>1+s.sz+r.sz
def ht:Tr->Nat
 |nil=>0
 |cons _ s r=>max (1+s.ht) r.ht
def gr:Tr->Nat
 |nil=>0
 |cons k s r=>max (max k s.gr) r.gr
def app:Tr->Tr->Tr
 |nil,u=>u
 |cons k s r,u=>cons k s (r.app u)
def rev:Tr->Tr
 |nil=>nil
 |cons k s r=>r.rev.app (cons k s.rev nil)
def kids:Tr->List (Nat×Tr)
 |nil=>[]
 |cons k s r=>(k,s)::r.kids
def bs:Tr->List Nat
 |nil=>[]
 |cons k s r=>2*k::(s.bs++(2*k+1)::r.bs)
end Tr
open Tr
def trD:Tr->List PyData
 | .nil=>[]
 | .cons k s r=> .tuple [.int k, .list (trD s)]::trD r
theorem trD_kids:∀t:Tr,trD t=t.kids.map fun x=> .tuple [.int x.1, .list (trD x.2)]
 | .nil=>rfl
 | .cons k s r=>by rw[trD,kids,List.map_cons,trD_kids r]
theorem kid_ht{t:Tr}:∀ {x:Nat×Tr},x∈t.kids->x.2.ht<t.ht/\x.2.sz<t.sz/\x.1<=t.gr/\x.2.gr<=t.gr:=by
 induction t with
 |nil=>intro x h;cases h
 |cons k s r _ ih=>
  intro x h
  rcases List.mem_cons.mp h with z|z
  ·subst z
   simp only[Tr.ht,Tr.sz,Tr.gr]
   omega
  ·have:=ih z
   simp only[Tr.ht,Tr.sz,Tr.gr]
   omega
theorem ht_sz:∀t:Tr,t.ht<=t.sz
 | .nil=>Nat.le_refl _
 | .cons k s r=>by
   have:=ht_sz s
   have:=ht_sz r
   simp only[Tr.ht,Tr.sz];omega
theorem kids_len:∀t:Tr,t.kids.length<=t.sz
 | .nil=>Nat.le_refl _
 | .cons k s r=>by
   have:=kids_len r
   simp only[kids,sz,List.length_cons];omega
theorem trD_inj:∀ {t u:Tr},trD t=trD u->t=u
 | .nil, .nil,_=>rfl
 | .nil, .cons _ _ _,h=>by simp[trD]at h
 | .cons _ _ _, .nil,h=>by simp[trD]at h
 | .cons k s r, .cons k' s' r',h=>by
   rw[trD,trD]at h
   injection h with h1 h2
   injection h1 with h1
   injection h1 with h3 h4
   injection h3 with h3
   injection h4 with h4
   injection h4 with h4
   have e1:k=k':=by omega
   rw[e1,trD_inj h4,trD_inj h2]
theorem trD_ok:∀t:Tr,PyData.canLayAll0 (trD t)=true/\PyData.depthAll (trD t)<=2*t.ht/\clnAll (trD t)=true
 | .nil=>by simp[trD,PyData.canLayAll0,PyData.depthAll,clnAll]
 | .cons k s r=>by
   obtain⟨a1,a2,a3⟩:=trD_ok s
   obtain⟨b1,b2,b3⟩:=trD_ok r
   rw[trD]
   refine⟨by simp[PyData.canLayAll0,PyData.canLay0,a1,b1],?_,by simp[clnAll,cln,a3,b3]⟩
   rw[PyData.depthAll]
   have e:PyData.depth (.tuple [.int (k:Int), .list (trD s)])=2+max (PyData.depthAll (trD s)) 0\/PyData.depth (.tuple [.int (k:Int), .list (trD s)])<=2+2*s.ht:=by
    right
    simp only[PyData.depth,PyData.depthAll]
    omega
   simp only[Tr.ht]
   rcases e with e|e
   ·simp only[PyData.depth,PyData.depthAll]at e⊢;omega
   ·omega
def TrH(p:Addr)(H:Hp)(v:V)(t:Tr):Prop:=Sd p H v (.list (trD t))
theorem TrH.same{p:Addr}{H H':Hp}{v:V}{t:Tr}(h:TrH p H v t)(s:Same H H'):TrH p H' v t:=Sd.same h s
theorem TrH.keep{p:Addr}{H H':Hp}{v:V}{t:Tr}(h:TrH p H v t)(s:SameBut1 p H H'):TrH p H' v t:=Sd.keep s h
theorem sds_get{p:Addr}{H:Hp}:∀ {vs:List V} {ds:List PyData},Sds p H vs ds->vs.length=ds.length/\∀ (i:Nat) (d:PyData),ds[i]? =some d->∃v,vs[i]? =some v/\Sd p H v d
 |_,_, .nil=>⟨rfl,fun i d h=>by simp at h⟩
 |_,_, .cons h t=>by
  obtain⟨a,b⟩:=sds_get t
  refine⟨by simp[a],fun i d hd=>?_⟩
  cases i with
  |zero=>cases hd;exact⟨_,rfl,h⟩
  |succ i=>exact b i d hd
def Kd(p:Addr)(H:Hp)(vs:List V)(L:List (Nat×Tr)):Prop:=vs.length=L.length/\∀ (i:Nat) (x:Nat×Tr),L[i]? =some x->∃T b:Addr,vs[i]? =some (.ref T)/\T≠p/\H T=some (.tup [.int x.1, .ref b])/\TrH p H (.ref b) x.2
theorem Kd.same{p:Addr}{H H':Hp}{vs:List V}{L:List (Nat×Tr)}(h:Kd p H vs L)(s:Same H H'):Kd p H' vs L:=⟨h.1,fun i x hx=>let⟨T,b,e,n,g,t⟩:=h.2 i x hx;⟨T,b,e,n,s _ _ g,t.same s⟩⟩
theorem Kd.more{p:Addr}{H:Hp}{vs:List V}{L:List (Nat×Tr)}{k:Nat}{t:Tr}{T b:Addr}(h:Kd p H vs L)(n:T≠p)(g:H T=some (.tup [.int (k:Int), .ref b]))(ht:TrH p H (.ref b) t):Kd p H (vs++[.ref T]) (L++[(k,t)]):=by
 refine⟨by rw[List.length_append,List.length_append,h.1];rfl,fun i x hx=>?_⟩
 by_cases c:i<L.length
 ·rw[List.getElem?_append_left c]at hx
  obtain⟨T',b',e,r⟩:=h.2 i x hx
  exact⟨T',b',by rw[List.getElem?_append_left (by rw[h.1];exact c)];exact e,r⟩
 ·rw[List.getElem?_append_right (by omega)]at hx
  have hi:i=L.length:=by
   have:=(List.getElem?_eq_some_iff.mp hx).1
   simp at this;omega
  subst hi
  rw[Nat.sub_self]at hx
  cases hx
  exact⟨T,b,by rw[List.getElem?_append_right (by rw[h.1];exact Nat.le_refl _),h.1,Nat.sub_self];rfl,n,g,ht⟩
theorem TrH.open{p:Addr}{H:Hp}{v:V}{t:Tr}(h:TrH p H v t):∃ (a:Addr) (vs:List V),v= .ref a/\a≠p/\H a=some (.lst vs)/\Kd p H vs t.kids:=by
 unfold TrH at h
 cases h with
 |sc c=>cases c
 |lst g n r=>
  refine⟨_,_,rfl,n,g,?_⟩
  obtain⟨a1,a2⟩:=sds_get r
  rw[trD_kids]at a1 a2
  refine⟨by rw[a1,List.length_map],fun i x hx=>?_⟩
  obtain⟨w,e,sd⟩:=a2 i _ (by rw[List.getElem?_map,hx];rfl)
  cases sd with
  |sc c=>cases c
  |tup g2 n2 r2=>
   cases r2 with
   |cons h1 t1=>
    cases t1 with
    |cons h2 t2=>
     cases t2
     cases h1 with
     |sc c=>
      cases c
      cases h2 with
      |sc c=>cases c
      |lst g3 n3 r3=>exact⟨_,_,e,n2,g2, .lst g3 n3 r3⟩
theorem Kd.close{p a:Addr}{H:Hp}{vs:List V}{t:Tr}(g:H a=some (.lst vs))(n:a≠p)(h:Kd p H vs t.kids):TrH p H (.ref a) t:=by
 refine .lst g n (sds_of (by rw[trD_kids,List.length_map];exact h.1) fun m v d h1 h2=>?_)
 rw[trD_kids,List.getElem?_map]at h2
 obtain⟨x,hx,rfl⟩:=Option.map_eq_some_iff.mp h2
 obtain⟨T,b,e,nT,gT,ht⟩:=h.2 m x hx
 rw[h1]at e
 cases e
 exact .tup gT nT (.cons (.sc (.int _)) (.cons ht .nil))
where
 sds_of {p:Addr} {H:Hp}:∀ {vs:List V} {ds:List PyData},vs.length=ds.length->(∀ (m:Nat) (v:V) (d:PyData),vs[m]? =some v->ds[m]? =some d->Sd p H v d)->Sds p H vs ds
  |[],[],_,_=> .nil
  |[],_::_,h,_=>by cases h
  |_::_,[],h,_=>by cases h
  |v::vs,d::ds,h,f=> .cons (f 0 v d rfl rfl) (sds_of (by simpa using h) fun m v d h1 h2=>f (m+1) v d h1 h2)
mutual
theorem sd_free{p D:Addr}{H:Hp}(hD:H D=none):∀ {x:V} {d:PyData},Sd p H x d->Sd D H x d
 |_,_, .sc h=> .sc h
 |_,_, .lst h n r=> .lst h (ne_of_none h hD) (sds_free hD r)
 |_,_, .tup h n r=> .tup h (ne_of_none h hD) (sds_free hD r)
 |_,_, .dct h n r=> .dct h (ne_of_none h hD) r
theorem sds_free{p D:Addr}{H:Hp}(hD:H D=none):∀ {xs:List V} {ds:List PyData},Sds p H xs ds->Sds D H xs ds
 |_,_, .nil=> .nil
 |_,_, .cons h t=> .cons (sd_free hD h) (sds_free hD t)
end
mutual
theorem sd_both{p D:Addr}{H H':Hp}(s:SameBut1 D H H'):∀ {x:V} {d:PyData},Sd p H x d->Sd D H x d->Sd p H' x d
 |_,_, .sc h,_=> .sc h
 |_,_, .lst h n r, .sc c=>nomatch c
 |_,_, .lst h n r, .lst h2 n2 r2=>by
  have e:=h.symm.trans h2
  cases e
  exact .lst (s _ _ h n2) n (sds_both s r r2)
 |_,_, .tup h n r, .sc c=>nomatch c
 |_,_, .tup h n r, .tup h2 n2 r2=>by
  have e:=h.symm.trans h2
  cases e
  exact .tup (s _ _ h n2) n (sds_both s r r2)
 |_,_, .dct h n r, .sc c=>nomatch c
 |_,_, .dct h n r, .dct h2 n2 r2=> .dct (s _ _ h n2) n r
theorem sds_both{p D:Addr}{H H':Hp}(s:SameBut1 D H H'):∀ {xs:List V} {ds:List PyData},Sds p H xs ds->Sds D H xs ds->Sds p H' xs ds
 |_,_, .nil,_=> .nil
 |_,_, .cons h t, .cons h2 t2=> .cons (sd_both s h h2) (sds_both s t t2)
end
theorem TrH.free{p D:Addr}{H:Hp}{v:V}{t:Tr}(h:TrH p H v t)(hD:H D=none):TrH D H v t:=sd_free hD h
theorem TrH.both{p D:Addr}{H H':Hp}{v:V}{t:Tr}(h:TrH p H v t)(h2:TrH D H v t)(s:SameBut1 D H H'):TrH p H' v t:=sd_both s h h2
theorem Kd.both{p D:Addr}{H H':Hp}{vs:List V}{L:List (Nat×Tr)}(h:Kd p H vs L)(h2:Kd D H vs L)(s:SameBut1 D H H'):Kd p H' vs L:=by
 refine⟨h.1,fun i x hx=>?_⟩
 obtain⟨T,b,e,n,g,t⟩:=h.2 i x hx
 obtain⟨T2,b2,e2,n2,g2,t2⟩:=h2.2 i x hx
 have q:=e.symm.trans e2
 cases q
 have q:=g.symm.trans g2
 cases q
 exact⟨T,b,e,n,s _ _ g n2,t.both t2 s⟩
theorem free_of{H H':Hp}{a:Addr}(s:Same H H')(h:H' a=none):H a=none:=by
 cases e:H a with
 |none=>rfl
 |some o=>rw[s _ _ e]at h;cases h
def Kn(H0:Hp)(D:Addr)(H:Hp)(vs:List V)(L:List (Nat×Tr)):Prop:=Kd D H vs L/\∀p,(∃o,H0 p=some o)->Kd p H vs L
theorem kn_nil(H0:Hp)(D:Addr)(H:Hp):Kn H0 D H [] []:=⟨⟨rfl,fun i x h=>by simp at h⟩,fun _ _=>⟨rfl,fun i x h=>by simp at h⟩⟩
theorem Kn.more{H0 H4 H6 H7:Hp}{D T b:Addr}{vs:List V}{L:List (Nat×Tr)}{k:Nat}{t:Tr}(h:Kn H0 D H4 vs L)(s0:Same H0 H4)(s:Same H4 H6)(s7:SameBut1 D H6 H7)(hT:H4 T=none)(hDo:∃o,H4 D=some o)(g:H6 T=some (.tup [.int (k:Int), .ref b]))(ht:∀p,(∃o,H4 p=some o)->TrH p H6 (.ref b) t):Kn H0 D H7 (vs++[.ref T]) (L++[(k,t)]):=by
 have nT:∀ {p},(∃o,H4 p=some o)->T≠p:=fun⟨o,ho⟩ z=>by rw[z,ho]at hT;cases hT
 have hD:=Kd.more (h.1.same s) (nT hDo) g (ht D hDo)
 refine⟨hD.both hD s7,fun p ⟨o,hp⟩=>?_⟩
 have hp4:∃o,H4 p=some o:=⟨o,s0 _ _ hp⟩
 exact(Kd.more ((h.2 p ⟨o,hp⟩).same s) (nT hp4) g (ht p hp4)).both hD s7
def recSp(g:Nat->Sp):Nat->Sp
 |0=>fun _ _ _ _=>False
 |n+1=>g n
end BrTr
namespace BrTr
open L2 PySem PySem.Spec PyProof.Rows BrM BrC BrB BrI BrS BrR
open Tr
def TIn(H:Hp)(v:V)(p:Addr)(t:Tr)(n:Nat):Prop:=(∃o,H p=some o)/\TrH p H v t/\t.sz<=20/\t.ht<=n
def gWritten(n:Nat):Sp:=fun vs H Q _=>∃v p t,vs=[v]/\TIn H v p t n/\t.gr<4/\∀H',Same H H'->Q (tx (brt t.bs)) H'
def szs(l:List Tr):Nat:=(l.map fun u=>u.sz).sum
theorem szs_app(a b:List Tr):szs (a++b)=szs a+szs b:=by unfold szs;rw[List.map_append,List.sum_append]
theorem szs_one(u:Tr):szs [u]=u.sz:=by simp[szs]
theorem kids_szs:∀t:Tr,t.kids.length+szs (t.kids.map fun x=>x.2)=t.sz
 | .nil=>rfl
 | .cons k s r=>by
   have ih:=kids_szs r
   unfold szs at ih⊢
   simp only[kids,sz,List.map_cons,List.sum_cons,List.length_cons]
   omega
theorem gr_lt_iff:∀ {t:Tr} {k:Nat},1<=k->(t.gr<k↔∀x∈t.kids,x.1<k/\x.2.gr<k)
 | .nil,k,h=>⟨fun _ x hx=>(nomatch hx),fun _=>h⟩
 | .cons c s r,k,h=>by
   have ih:=gr_lt_iff (t:=r) h
   simp only[gr,kids,List.forall_mem_cons]
   rw[<-ih]
   omega
def Wt(W:Addr)(H:Hp)(vs:List V)(L:List Tr):Prop:=vs.length=L.length/\∀ (i:Nat) (u:Tr),L[i]? =some u->∃v,vs[i]? =some v/\TrH W H v u
theorem Wt.keep{W:Addr}{H H':Hp}{vs:List V}{L:List Tr}(h:Wt W H vs L)(s:SameBut1 W H H'):Wt W H' vs L:=⟨h.1,fun i u hu=>let⟨v,e,t⟩:=h.2 i u hu;⟨v,e,t.keep s⟩⟩
theorem TIn.kid{H H':Hp}{v w:V}{p:Addr}{t:Tr}{n:Nat}{x:Nat×Tr}(h:TIn H v p t (n+1))(hx:x∈t.kids)(s:Same H H')(hw:TrH p H' w x.2):TIn H' w p x.2 n:=by
 obtain⟨⟨o,ho⟩,h2,h3,h4⟩:=h
 obtain⟨a1,a2,_⟩:=kid_ht hx
 exact⟨⟨o,s _ _ ho⟩,hw,by omega,by omega⟩
theorem TIn.pos{H:Hp}{v:V}{p:Addr}{t:Tr}{n:Nat}{x:Nat×Tr}(h:TIn H v p t n)(hx:x∈t.kids):∃m,n=m+1:=by
 obtain⟨a1,_⟩:=kid_ht hx
 have:=h.2.2.2
 exact⟨n-1,by omega⟩
theorem bs_kids:∀t:Tr,t.bs=(t.kids.map fun x=>2*x.1::(x.2.bs++[2*x.1+1])).flatten
 | .nil=>rfl
 | .cons k s r=>by rw[bs,kids,List.map_cons,List.flatten_cons,<-bs_kids r];simp
theorem bs_len:∀t:Tr,t.bs.length=2*t.sz
 | .nil=>rfl
 | .cons k s r=>by simp only[bs,sz,List.length_cons,List.length_append,bs_len s,bs_len r];omega
theorem bs_rg:∀ {t:Tr} {k:Nat},t.gr<k->Rg k t.bs
 | .nil,k,_=>go_nil _
 | .cons c s r,k,h=>by
   simp only[gr]at h
   have h1:=bs_rg (t:=s) (k:=k) (by omega)
   have h2:=bs_rg (t:=r) (k:=k) (by omega)
   unfold Rg
   rw[bs,go_open _ _ (by omega),go_app,go_on h1 [c]]
   show go k [c] ((2*c+1)::r.bs)=some []
   rw[go_close _ _ (by omega)]
   exact h2
theorem kids_app:∀t u:Tr,(t.app u).kids=t.kids++u.kids
 | .nil,u=>rfl
 | .cons k s r,u=>by rw[app,kids,kids,kids_app r u];rfl
theorem op_at:∀ {k:Nat},k<4->atI [40,91,123,60] (k:Int)=some (brs.getD (2*k) 0)
 |0,_=>rfl
 |1,_=>rfl
 |2,_=>rfl
 |3,_=>rfl
 |n+4,h=>by omega
theorem cl_at:∀ {k:Nat},k<4->atI [41,93,125,62] (k:Int)=some (brs.getD (2*k+1) 0)
 |0,_=>rfl
 |1,_=>rfl
 |2,_=>rfl
 |3,_=>rfl
 |n+4,h=>by omega
theorem brt_in(k:Nat)(l:List Nat):[brs.getD (2*k) 0]++brt l++[brs.getD (2*k+1) 0]=brt (2*k::(l++[2*k+1])):=by
 unfold brt
 rw[List.map_cons,List.map_append]
 rfl
theorem brt_kids(t:Tr):(t.kids.map fun x=>brt (2*x.1::(x.2.bs++[2*x.1+1]))).flatten=brt t.bs:=by
 rw[bs_kids]
 unfold brt
 rw[List.map_flatten,List.map_map]
 rfl
theorem bs_app:∀t u:Tr,(t.app u).bs=t.bs++u.bs
 | .nil,u=>rfl
 | .cons k s r,u=>by rw[app,bs,bs_app r u,bs];simp
theorem sz_app:∀t u:Tr,(t.app u).sz=t.sz+u.sz
 | .nil,u=>by simp[app,sz]
 | .cons k s r,u=>by rw[app,sz,sz_app r u,sz];omega
theorem gr_app:∀t u:Tr,(t.app u).gr=max t.gr u.gr
 | .nil,u=>by simp[app,gr]
 | .cons k s r,u=>by rw[app,gr,gr_app r u,gr];omega
theorem ht_app:∀t u:Tr,(t.app u).ht=max t.ht u.ht
 | .nil,u=>by simp[app,Tr.ht]
 | .cons k s r,u=>by rw[app,Tr.ht,ht_app r u,Tr.ht];omega
theorem app_step(t:Tr)(k:Nat)(s r:Tr):t.app (.cons k s r)=(t.app (.cons k s .nil)).app r:=by
 induction t with
 |nil=>rfl
 |cons k' s' r' _ ih=>rw[app,app,app,ih]
theorem app_nil(t:Tr):t.app .nil=t:=by
 induction t with
 |nil=>rfl
 |cons k' s' r' _ ih=>rw[app,ih]
theorem op_idx:∀ {k:Nat},k<4->occ1 [40,91,123,60] (brs.getD (2*k) 0)=some k
 |0,_=>by decide +kernel
 |1,_=>by decide +kernel
 |2,_=>by decide +kernel
 |3,_=>by decide +kernel
 |n+4,h=>by omega
def gBetween(n:Nat):Sp:=fun vs H Q _=>∃ (bs pre post:List Nat) (r:Addr) (xs:List V) (t:Tr),vs=[tx (brt bs), .ref r, .int (pre.length:Int), .int ((pre.length+2*t.sz:Nat):Int)]/\H r=some (.lst xs)/\IsPart (brt bs) xs/\bs=pre++(t.bs++post)/\t.gr<4/\bs.length<=40/\t.ht<=n/\
 ∀D H',H D=none->Same H H'->(∀p,(∃o,H p=some o)->TrH p H' (.ref D) t)->Q (.ref D) H'
theorem part_at{bs u v w:List Nat}{k:Nat}{xs:List V}(h:IsPart (brt bs) xs)(hk:k<4)(hb:bs=u++2*k::(v++(2*k+1)::w))(hv:Rg 4 v):xs[u.length]? =some (.int ((u.length+1+v.length:Nat):Int)):=by
 have hp:Pr (brt bs) u.length (u.length+1+v.length):=PairAt.pr (Nat.le_refl 4) ⟨k,u,v,w,hk,hb,rfl,rfl,hv⟩
 obtain⟨p,e,z⟩:=h.2 u.length (Nat.lt_trans hp.1 hp.2.1)
 rcases z with z|z
 ·rw[e,pr_fun z hp]
 ·exact(pr_not hp z).elim
theorem op_facts:∀ {k:Nat},k<4->brs.getD (2*k) 0∈opn/\clo (brs.getD (2*k) 0)=brs.getD (2*k+1) 0/\clo (brs.getD (2*k) 0)∉opn
 |0,_=>by decide +kernel
 |1,_=>by decide +kernel
 |2,_=>by decide +kernel
 |3,_=>by decide +kernel
 |n+4,h=>by omega
def ptr(x:Nat×Tr):List Nat:=[brs.getD (2*x.1) 0]++brt x.2.bs++[clo (brs.getD (2*x.1) 0)]
theorem brt_cons{k:Nat}(h:k<4)(s r:Tr):brt (Tr.cons k s r).bs=ptr (k,s)++brt r.bs:=by
 unfold ptr
 rw[(op_facts h).2.1]
 unfold brt
 rw[bs]
 simp
theorem tr_rt:∀ {t:Tr},t.gr<4->Rt (brt t.bs)
 | .nil,_=>rfl
 | .cons k s r,h=>by
   simp only[gr]at h
   have hk:k<4:=by omega
   have hs:s.gr<4:=by omega
   rw[brt_cons hk]
   exact rt_cat (rt_pair (op_facts hk).1 (op_facts hk).2.2 (tr_rt hs)) (tr_rt (by omega))
theorem pt_rt{x:Nat×Tr}(h:x.1<4)(h':x.2.gr<4):Rt (ptr x):=rt_pair (op_facts h).1 (op_facts h).2.2 (tr_rt h')
theorem tr_pts:∀ {t:Tr},t.gr<4->pts (brt t.bs)=t.kids.map ptr
 | .nil,_=>rfl
 | .cons k s r,h=>by
   simp only[gr]at h
   have hk:k<4:=by omega
   have hs:s.gr<4:=by omega
   rw[brt_cons hk,pts_cat (pt_rt (x:=(k,s)) hk hs),tr_pts (t:=r) (by omega),kids,List.map_cons]
   unfold ptr
   rw[pts_one (op_facts hk).1 (tr_rt hs)]
   rfl
theorem tr_trn:∀ {t:Tr},t.gr<4->trn (brt t.bs)=brt t.rev.bs
 | .nil,_=>rfl
 | .cons k s r,h=>by
   simp only[gr]at h
   have hk:k<4:=by omega
   have hs:s.gr<4:=by omega
   rw[brt_cons hk,trn_app,tr_trn (t:=r) (by omega),rev,bs_app,brt_app,brt_cons hk]
   unfold ptr
   rw[trn_pair (op_facts hk).1,tr_trn hs]
   simp[bs,brt]
def LayK(H0 H:Hp):List Addr->List V->Tr->Prop
 |A,vs, .nil=>vs=[]/\A=[]
 |A,vs, .cons k s r=>∃ (T b:Addr) (As Ar:List Addr) (vs' ws:List V),vs= .ref T::vs'/\H0 T=none/\H0 b=none/\H T=some (.tup [.int (k:Int), .ref b])/\H b=some (.lst ws)/\LayK H0 H As ws s/\LayK H0 H Ar vs' r/\A=b::(As++Ar)
theorem LayK.frame{H0 H H':Hp}:∀ {t:Tr} {A:List Addr} {vs:List V},LayK H0 H A vs t->(∀x∈A,H' x=H x)->(∀x ws,H x=some (.tup ws)->H' x=some (.tup ws))->LayK H0 H' A vs t
 | .nil,A,vs,h,_,_=>h
 | .cons k s r,A,vs,h,hA,hT=>by
   obtain⟨T,b,As,Ar,vs',ws,e1,n1,n2,g1,g2,l1,l2,e2⟩:=h
   subst e2
   exact⟨T,b,As,Ar,vs',ws,e1,n1,n2,hT _ _ g1,by rw[hA b (by simp)];exact g2,l1.frame (fun x hx=>hA x (by simp[hx])) hT,l2.frame (fun x hx=>hA x (by simp[hx])) hT,rfl⟩
theorem LayK.len{H0 H:Hp}:∀ {t:Tr} {A:List Addr} {vs:List V},LayK H0 H A vs t->A.length=t.sz/\vs.length=t.kids.length
 | .nil,A,vs,h=>by obtain⟨rfl,rfl⟩:=h;exact⟨rfl,rfl⟩
 | .cons k s r,A,vs,h=>by
   obtain⟨T,b,As,Ar,vs',ws,e1,n1,n2,g1,g2,l1,l2,e2⟩:=h
   subst e2 e1
   have a1:=l1.len
   have a2:=l2.len
   simp only[List.length_cons,List.length_append,sz,kids,a1.1,a2.1,a2.2]
   exact⟨by omega,trivial⟩
theorem LayK.lst{H0 H:Hp}:∀ {t:Tr} {A:List Addr} {vs:List V},LayK H0 H A vs t->∀x∈A,H0 x=none/\∃ws,H x=some (.lst ws)/\ws.length<=t.sz
 | .nil,A,vs,h,x,hx=>by obtain⟨_,rfl⟩:=h;cases hx
 | .cons k s r,A,vs,h,x,hx=>by
   obtain⟨T,b,As,Ar,vs',ws,e1,n1,n2,g1,g2,l1,l2,e2⟩:=h
   subst e2
   simp only[sz]
   rcases List.mem_cons.mp hx with rfl|hx
   ·have:=l1.len.2
    have:=kids_len s
    exact⟨n2,ws,g2,by omega⟩
   ·rcases List.mem_append.mp hx with hx|hx
    ·obtain⟨a,w,g,l⟩:=l1.lst x hx
     exact⟨a,w,g,by omega⟩
    ·obtain⟨a,w,g,l⟩:=l2.lst x hx
     exact⟨a,w,g,by omega⟩
theorem LayK.end{H0 H':Hp}{T w:Addr}{k:Nat}(n1:H0 T=none)(n2:H0 w=none)(g1:H' T=some (.tup [.int (k:Int), .ref w]))(g2:H' w=some (.lst [])):∀ {t:Tr} {A:List Addr} {vs:List V},LayK H0 H' A vs t->LayK H0 H' (A++[w]) (vs++[.ref T]) (t.app (.cons k .nil .nil))
 | .nil,A,vs,h=>by
   obtain⟨rfl,rfl⟩:=h
   exact⟨T,w,[],[],[],[],rfl,n1,n2,g1,g2,⟨rfl,rfl⟩,⟨rfl,rfl⟩,rfl⟩
 | .cons c s r,A,vs,h=>by
   obtain⟨T',b,As,Ar,vs',ws,e1,m1,m2,h1,h2,l1,l2,e2⟩:=h
   subst e2 e1
   exact⟨T',b,As,Ar++[w],vs'++[.ref T],ws,rfl,m1,m2,h1,h2,l1,l2.end n1 n2 g1 g2,by simp⟩
theorem LayK.put{H0 H H':Hp}{T w b:Addr}{k:Nat}{us:List V}(n1:H0 T=none)(n2:H0 w=none)(g1:H' T=some (.tup [.int (k:Int), .ref w]))(g2:H' w=some (.lst []))(gb:H b=some (.lst us))(gb':H' b=some (.lst (us++[.ref T])))(hs:∀x o,x≠b->H x=some o->H' x=some o):∀ {t:Tr} {A:List Addr} {vs:List V},LayK H0 H A vs t->b∈A->A.Nodup->∃t' A',LayK H0 H' A' vs t'/\t'.sz=t.sz+1/\t'.gr<=max t.gr k/\A'.Perm (w::A)
 | .nil,A,vs,h,hb,_=>by obtain⟨_,rfl⟩:=h;cases hb
 | .cons c s r,A,vs,h,hb,hn=>by
   have hT:∀x ws,H x=some (.tup ws)->H' x=some (.tup ws):=fun x ws hx=>hs x _ (fun z=>by rw[z,gb]at hx;cases hx) hx
   obtain⟨T',b',As,Ar,vs',ws,e1,m1,m2,h1,h2,l1,l2,e2⟩:=h
   subst e2 e1
   obtain⟨nb,nA⟩:=List.nodup_cons.mp hn
   obtain⟨nS,nR,nSR⟩:=List.nodup_append.mp nA
   have fr:∀ {t:Tr} {A:List Addr} {vs:List V},LayK H0 H A vs t->b∉A->LayK H0 H' A vs t:=fun l hnb=>l.frame (fun x hx=>by
    obtain⟨_,ws,g,_⟩:=l.lst x hx
    rw[g]
    exact hs x _ (fun z=>hnb (z▸hx)) g) hT
   rcases List.mem_cons.mp hb with e|hb
   ·subst e
    rw[gb]at h2
    cases h2
    have q1:=fr l1 (fun z=>nb (List.mem_append_left _ z))
    have q2:=fr l2 (fun z=>nb (List.mem_append_right _ z))
    refine⟨.cons c (s.app (.cons k .nil .nil)) r,_,⟨T',b,_,_,_,_,rfl,m1,m2,hT _ _ h1,gb',q1.end n1 n2 g1 g2,q2,rfl⟩,?_,?_,?_⟩
    ·simp only[sz,sz_app];omega
    ·simp only[gr,gr_app];omega
    ·rw[List.append_assoc]
     exact List.perm_middle (l₁:=b::As)
   ·have hbb:b'≠b:=fun z=>nb (z▸hb)
    have h2':=hs b' _ hbb h2
    rcases List.mem_append.mp hb with hb1|hb1
    ·obtain⟨s',A',q1,z1,z2,z3⟩:=LayK.put n1 n2 g1 g2 gb gb' hs l1 hb1 nS
     have q2:=fr l2 (fun z=>nSR b hb1 b z rfl)
     refine⟨.cons c s' r,_,⟨T',b',_,_,_,_,rfl,m1,m2,hT _ _ h1,h2',q1,q2,rfl⟩,?_,?_,?_⟩
     ·simp only[sz];omega
     ·simp only[gr];omega
     ·exact((z3.append_right Ar).cons b').trans (List.Perm.swap w b' (As++Ar))
    ·obtain⟨r',A',q2,z1,z2,z3⟩:=LayK.put n1 n2 g1 g2 gb gb' hs l2 hb1 nR
     have q1:=fr l1 (fun z=>nSR b z b hb1 rfl)
     refine⟨.cons c s r',_,⟨T',b',_,_,_,_,rfl,m1,m2,hT _ _ h1,h2',q1,q2,rfl⟩,?_,?_,?_⟩
     ·simp only[sz];omega
     ·simp only[gr];omega
     ·exact((z3.append_left As).cons b').trans (List.perm_middle (l₁:=b'::As))
theorem LayK.kd{H0 H:Hp}{p:Addr}(hp:H0 p≠none):∀ {t:Tr} {A:List Addr} {vs:List V},LayK H0 H A vs t->Kd p H vs t.kids
 | .nil,A,vs,h=>by obtain⟨rfl,_⟩:=h;exact⟨rfl,fun i x h=>by simp[kids]at h⟩
 | .cons k s r,A,vs,h=>by
   obtain⟨T,b,As,Ar,vs',ws,e1,n1,n2,g1,g2,l1,l2,e2⟩:=h
   subst e1
   have nT:T≠p:=fun z=>hp (z▸n1)
   have nb:b≠p:=fun z=>hp (z▸n2)
   have q1:=Kd.close g2 nb (l1.kd hp)
   have q2:=l2.kd hp
   refine⟨by rw[List.length_cons,kids,List.length_cons,q2.1],fun i x hx=>?_⟩
   cases i with
   |zero=>cases hx;exact⟨T,b,rfl,nT,g1,q1⟩
   |succ i=>exact q2.2 i x hx
theorem LayK.keep{H0 H H':Hp}{p:Addr}{l:List V}(hp:H0 p≠none)(gp:H p=some (.lst l))(s:SameBut1 p H H'){t:Tr}{A:List Addr}{vs:List V}(h:LayK H0 H A vs t):LayK H0 H' A vs t:=
 h.frame (fun x hx=>by
  obtain⟨n,ws,g,_⟩:=h.lst x hx
  rw[g]
  exact s x _ g (fun z=>hp (z▸n))) fun x ws g=>s x _ g (fun z=>by rw[z,gp]at g;cases g)
theorem LayK.upd{H0 H:Hp}{b:Addr}{us l:List V}(gb:H b=some (.lst l)){t:Tr}{A:List Addr}{vs:List V}(h:LayK H0 H A vs t)(hb:b∉A):LayK H0 (upd H b (.lst us)) A vs t:=
 h.frame (fun x hx=>upd_ne (fun z=>hb (z▸hx))) fun x ws g=>by rw[upd_ne (fun z=>by rw[z,gb]at g;cases g)];exact g
theorem grow{H0 H4 H7:Hp}{p a E w T x:Addr}{A L:List Addr}{vs us l:List V}{t:Tr}{k c:Nat}(hp:H0 p≠none)(gp:H4 p=some (.lst l))(gE:H4 E=some (.lst (L.map V.ref)))(hL:∀y∈L,y∈a::A)(ga:H4 a=some (.lst vs))(lay:LayK H0 H4 A vs t)(nd:(a::A).Nodup)(nE:E∉a::A)(ha0:H0 a=none)(hE0:H0 E=none)
 (hw:H4 w=none) (hw0:H0 w=none) (hT0:H0 T=none) (s:SameBut1 p H4 H7) (gT:H7 T=some (.tup [.int (c:Int), .ref w])) (gw:H7 w=some (.lst [])) (hx:x∈L) (gx:H7 x=some (.lst us)) (hc:c<k) (hg:t.gr<k):
 ∃A' vs' t',(upd (upd H7 x (.lst (us++[.ref T]))) E (.lst (L.map V.ref++[.ref w]))) a=some (.lst vs')/\LayK H0 (upd (upd H7 x (.lst (us++[.ref T]))) E (.lst (L.map V.ref++[.ref w]))) A' vs' t'/\(a::A').Nodup/\E∉a::A'/\t'.sz=t.sz+1/\t'.gr<k/\∀y∈L++[w],y∈a::A':=by
 have lay7:=lay.keep hp gp s
 have ga7:=s _ _ ga (fun z=>hp (z▸ha0))
 have gE7:=s _ _ gE (fun z=>hp (z▸hE0))
 obtain⟨naA,ndA⟩:=List.nodup_cons.mp nd
 have hEa:a≠E:=fun z=>nE (by rw[z];exact List.mem_cons_self)
 have hwa:w≠a:=fun z=>by rw[z,ga]at hw;cases hw
 have hwE:w≠E:=fun z=>by rw[z,gE]at hw;cases hw
 have hwA:w∉A:=fun z=>by
  obtain⟨_,ws,g,_⟩:=lay.lst w z
  rw[g]at hw;cases hw
 have hxA:=hL x hx
 have hxE:x≠E:=fun z=>nE (z▸hxA)
 have gE8:(upd H7 x (.lst (us++[.ref T]))) E=some (.lst (L.map V.ref)):=by rw[upd_ne hxE.symm];exact gE7
 have hTx:T≠x:=fun z=>by rw[z,gx]at gT;cases gT
 have hwx:w≠x:=fun z=>by
  rcases List.mem_cons.mp hxA with e|e
  ·exact hwa (z.trans e)
  ·exact hwA (z▸e)
 have gT8:(upd H7 x (.lst (us++[.ref T]))) T=some (.tup [.int (c:Int), .ref w]):=by rw[upd_ne hTx];exact gT
 have gw8:(upd H7 x (.lst (us++[.ref T]))) w=some (.lst []):=by rw[upd_ne hwx];exact gw
 rcases List.mem_cons.mp hxA with e|e
 ·subst e
  rw[gx]at ga7
  injection ga7 with ga7
  injection ga7 with ga7
  subst ga7
  have q:=(lay7.upd (us:=us++[.ref T]) gx naA).end hT0 hw0 gT8 gw8
  refine⟨A++[w],us++[.ref T],_,by rw[upd_ne hEa,upd_same],q.upd gE8 ?_,?_,?_,by rw[sz_app];simp[sz],by rw[gr_app];simp only[gr];omega,fun y hy=>?_⟩
  ·simp only[List.mem_append,List.mem_singleton]
   rintro(z|z)
   ·exact nE (List.mem_cons_of_mem _ z)
   ·exact hwE z.symm
  ·rw[List.nodup_cons,List.nodup_append]
   refine⟨by simp only[List.mem_append,List.mem_singleton];rintro(z|z);exact naA z;exact hwa z.symm,ndA,by simp,fun y hy z hz=>?_⟩
   rw[List.mem_singleton]at hz
   subst hz
   exact fun e=>hwA (e▸hy)
  ·simp only[List.mem_cons,List.mem_append,List.not_mem_nil,or_false]
   rintro(z|z|z)
   ·exact hEa z.symm
   ·exact nE (List.mem_cons_of_mem _ z)
   ·exact hwE z.symm
  ·rcases List.mem_append.mp hy with z|z
   ·rcases List.mem_cons.mp (hL y z)with e|e
    ·exact e▸List.mem_cons_self
    ·exact List.mem_cons_of_mem _ (List.mem_append_left _ e)
   ·exact List.mem_cons_of_mem _ (List.mem_append_right _ z)
 ·obtain⟨t',A',q,z1,z2,z3⟩:=LayK.put hT0 hw0 gT8 gw8 gx upd_same (fun y o ny g=>by rw[upd_ne ny];exact g) lay7 e ndA
  have hax:a≠x:=fun z=>naA (z▸e)
  have hmem:∀y,y∈A'↔y=w\/y∈A:=fun y=>by rw[z3.mem_iff,List.mem_cons]
  refine⟨A',vs,t',by rw[upd_ne hEa,upd_ne hax];exact ga7,q.upd gE8 ?_,?_,?_,z1,by omega,fun y hy=>?_⟩
  ·rw[hmem]
   rintro(z|z)
   ·exact hwE z.symm
   ·exact nE (List.mem_cons_of_mem _ z)
  ·rw[List.nodup_cons,hmem]
   refine⟨?_,z3.nodup_iff.mpr (List.nodup_cons.mpr ⟨hwA,ndA⟩)⟩
   rintro(z|z)
   ·exact hwa z.symm
   ·exact naA z
  ·rw[List.mem_cons,hmem]
   rintro(z|z|z)
   ·exact hEa z.symm
   ·exact hwE z.symm
   ·exact nE (List.mem_cons_of_mem _ z)
  ·rw[List.mem_cons,hmem]
   rcases List.mem_append.mp hy with z|z
   ·rcases List.mem_cons.mp (hL y z)with e|e
    ·exact .inl e
    ·exact .inr (.inr e)
   ·exact .inr (.inl (List.mem_singleton.mp z))
theorem pick4{a b c d m way:Int}(h0:0<=way)(h4:way<4)(ha:0<=a/\a<=m)(hb:0<=b/\b<=m)(hc:0<=c/\c<=m)(hd:0<=d/\d<=m):∃e:Nat,atI [V.int a,V.int b,V.int c,V.int d] way=some (.int (e:Int))/\(e:Int)<=m:=by
 obtain⟨n,rfl⟩:∃n:Nat,way=(n:Int):=⟨way.toNat,by omega⟩
 match n,h4 with
 |0,_=>exact⟨a.toNat,by rw[atI_nat rfl,Int.toNat_of_nonneg ha.1],by omega⟩
 |1,_=>exact⟨b.toNat,by rw[atI_nat rfl,Int.toNat_of_nonneg hb.1],by omega⟩
 |2,_=>exact⟨c.toNat,by rw[atI_nat rfl,Int.toNat_of_nonneg hc.1],by omega⟩
 |3,_=>exact⟨d.toNat,by rw[atI_nat rfl,Int.toNat_of_nonneg hd.1],by omega⟩
 |n+4,h=>omega
theorem pick3{a b c m way:Int}(h0:0<=way)(h4:way<3)(ha:0<=a/\a<=m)(hb:0<=b/\b<=m)(hc:0<=c/\c<=m):∃e:Nat,atI [V.int a,V.int b,V.int c] way=some (.int (e:Int))/\(e:Int)<=m:=by
 obtain⟨n,rfl⟩:∃n:Nat,way=(n:Int):=⟨way.toNat,by omega⟩
 match n,h4 with
 |0,_=>exact⟨a.toNat,by rw[atI_nat rfl,Int.toNat_of_nonneg ha.1],by omega⟩
 |1,_=>exact⟨b.toNat,by rw[atI_nat rfl,Int.toNat_of_nonneg hb.1],by omega⟩
 |2,_=>exact⟨c.toNat,by rw[atI_nat rfl,Int.toNat_of_nonneg hc.1],by omega⟩
 |n+3,h=>omega
def But(A:List Addr)(H H':Hp):Prop:=∀x o,x∉A->H x=some o->H' x=some o
theorem kin_op:∀k:Nat,k<5->∀c∈opn,(c∈opn.take k\/c∈cls.take k)->∃j,j<k/\c=brs.getD (2*j) 0:=by decide +kernel
theorem rt_tree{k:Int}(h1:1<=k)(h4:k<=4):∀ (n:Nat) (r:List Nat),r.length<=n->Rt r->(∀c∈r,kin k c)->∃t:Tr,brt t.bs=r/\t.gr<k.toNat
 |n,r,hn,hr,hk=>by
  rcases rt_cases hr with e|⟨o,M,B,e,ho,hM,hB⟩
  ·exact⟨.nil,by rw[e];rfl,by simp only[gr];omega⟩
  ·subst e
   simp only[List.length_append,List.length_singleton]at hn
   obtain⟨m,rfl⟩:∃m,n=m+1:=⟨n-1,by omega⟩
   obtain⟨tM,e1,g1⟩:=rt_tree h1 h4 m M (by omega) hM fun c hc=>hk c (by simp[hc])
   obtain⟨tB,e2,g2⟩:=rt_tree h1 h4 m B (by omega) hB fun c hc=>hk c (by simp[hc])
   obtain⟨j,hj,ej⟩:=kin_op k.toNat (by omega) o ho (hk o (by simp))
   refine⟨.cons j tM tB,?_,by simp only[gr];omega⟩
   rw[brt_cons (by omega)]
   unfold ptr
   rw[<-ej,e1,e2]
theorem LayK.old{H0 H H':Hp}{D:Addr}{t:Tr}{A:List Addr}{us:List V}(l:LayK H0 H A us t)(hD:H0 D=none)(s:Same H0 H)(bt:But (D::A) H H'):Same H0 H':=fun x o hx=>bt x o (fun z=>by
 rcases List.mem_cons.mp z with e|e
 ·rw[e,hD]at hx;cases hx
 ·rw[(l.lst x e).1]at hx;cases hx) (s _ _ hx)
def SpK(H:Hp):Nat->List Addr->List V->Tr->Prop
 |_,A,vs, .nil=>vs=[]/\A=[]
 |m,A,vs, .cons k s r=>∃ (T b:Addr) (As Ar:List Addr) (vs' ws:List V),vs= .ref T::vs'/\H T=some (.tup [.int (k:Int), .ref b])/\H b=some (.lst (ws++[.int ((m+s.sz:Nat):Int)]))/\SpK H m As ws s/\SpK H (m+s.sz+1) Ar vs' r/\A=b::(As++Ar)
theorem SpK.len{H:Hp}:∀ {t:Tr} {m:Nat} {A:List Addr} {vs:List V},SpK H m A vs t->vs.length=t.kids.length
 | .nil,m,A,vs,h=>by obtain⟨rfl,_⟩:=h;rfl
 | .cons k s r,m,A,vs,h=>by
   obtain⟨T,b,As,Ar,vs',ws,e1,g1,g2,l1,l2,e2⟩:=h
   subst e1
   rw[List.length_cons,l2.len];rfl
theorem SpK.at{H:Hp}:∀ {t:Tr} {m:Nat} {A:List Addr} {us:List V} {i:Nat} {x:V},SpK H m A us t->us[i]? =some x->∃ (T b:Addr) (k:Nat) (As:List Addr) (ws:List V) (s ta tb:Tr),x= .ref T/\t=ta.app (.cons k s tb)/\ta.kids.length=i/\H T=some (.tup [.int (k:Int), .ref b])/\H b=some (.lst (ws++[.int ((m+ta.sz+s.sz:Nat):Int)]))/\SpK H (m+ta.sz) As ws s
 | .nil,m,A,us,i,x,h,hx=>by obtain⟨rfl,_⟩:=h;simp at hx
 | .cons k s r,m,A,us,i,x,h,hx=>by
   obtain⟨T,b,As,Ar,vs',ws,e1,g1,g2,l1,l2,e2⟩:=h
   subst e1
   cases i with
   |zero=>cases hx;exact⟨T,b,k,As,ws,s, .nil,r,rfl,rfl,rfl,g1,g2,l1⟩
   |succ i=>
    obtain⟨T',b',k',As',ws',s',ta,tb,e1,e2,e3,h1,h2,h3⟩:=l2.at hx
    have e:m+s.sz+1+ta.sz=m+(Tr.cons k s ta).sz:=by simp only[sz];omega
    rw[e]at h2 h3
    exact⟨T',b',k',As',ws',s', .cons k s ta,tb,e1,by rw[e2];rfl,by rw[kids,List.length_cons,e3],h1,h2,h3⟩
def szt(t:Tr)(i:Nat):Nat:=((t.kids.take i).map fun x=>1+x.2.sz).sum
theorem szt_app:∀ (ta u:Tr),szt (ta.app u) ta.kids.length=ta.sz
 | .nil,u=>by simp[szt,kids,sz]
 | .cons k s r,u=>by
   have ih:=szt_app r u
   unfold szt at ih⊢
   rw[app,kids,kids,List.length_cons,List.take_succ_cons,List.map_cons,List.sum_cons,ih,sz]
theorem szt_all(t:Tr):szt t t.kids.length=t.sz:=by
 have:=szt_app t .nil
 rwa[app_nil]at this
def spMkB:Sp:=fun vs H Q _=>∃ (p:Addr) (n:Nat) (k:Int),vs=[.ref p, .int k, .int 20]/\PoolAt H p n/\n<=100000/\1<=k/\k<=4/\∀D t H',t.sz<=20->t.gr<k.toNat->H D=none->PoolAt H' p (n+70)->SameBut1 p H H'->(∀q,(∃o,H q=some o)->TrH q H' (.ref D) t)->Q (.ref D) H'
end BrTr
namespace L2
open PySem PySem.Spec PyProof.Rows
def rReprX:List V->Hp->VK->Prop:=fun xs H Q=>∃x d p,xs=[x]/\Sd p H x d/\d.showable=true/\d.shown.length<=sizeLine/\d.depth<=150/\Q (.str d.shown) H
theorem call_reprX{X:Cx}{k:Nat}(hr:Room k X.A):CallR X (.builtin "repr") rReprX:=by
 intro pins s σ H xs us Q I r h
 obtain⟨x,d,p,rfl,h,h1,h2,h3,q⟩:=h
 obtain⟨u,rfl,ru⟩:=vals1 r
 obtain⟨as,rd,hs⟩:=h.reads I ru
 have hu:=hr.un
 have big:∀ {a:Addr},u= .ref a->wpAny (model X.prog X.w) X.A (call (.builtin "repr") [u]) (EP X pins σ Q) X.xe s:=fun{a} e=>by
  subst e
  exact PySem.repr_of_reads' rd h1 (fun _=>hs) hr.gd (by omega) (fun b o e=>e) (fun h' u tk hk=>⟨.str d.shown,H,I.kept hk,⟨u,rfl⟩,q⟩) h2
 cases h with
 |sc c=>
  cases c with
  |non=>obtain rfl:u=Value.none:=ru;exact PySem.P.repr_of_none ⟨.str _,H,I.tok _,⟨_,rfl⟩,q⟩
  |bl b=>obtain rfl:u=Value.bool b:=ru;exact PySem.P.repr_of_bool ⟨.str _,H,I.tok _,⟨_,rfl⟩,q⟩
  |int i=>
   obtain⟨t,rfl⟩:=ru
   exact PySem.P.repr_of_int (by simpa[PyData.showable]using h1) ⟨.str _,H,I.tok _,⟨_,rfl⟩,q⟩
  |str x=>
   obtain⟨t,rfl⟩:=ru
   exact PySem.P.repr_of_str ⟨.str _,H,I.tok _,⟨_,rfl⟩,q⟩ h2
 |lst h n r=>exact big ru
 |tup h n r=>exact big ru
 |dct h n r=>exact big ru
theorem s_reprX{H:Hp}{Q:VK}{x:V}{d:PyData}{p:Addr}{n m:Nat}(h:Sd p H x d)(f:Fit n m d)(hn:n<=16777216)(hm:m<=150)(q:Q (.str d.shown) H):rReprX [x] H Q:=⟨x,d,p,rfl,h,f.1,Nat.le_trans f.2.1 (by rw[sizeLine_eq];omega),Nat.le_trans f.2.2 hm,q⟩
structure Fl (n m:Nat) (ds:List PyData):Prop where
 sh:PyData.showableAll ds=true
 ln:piled (PyData.shownAll ds)<=n
 dp:PyData.depthAll ds<=m
theorem fl_nil{n m:Nat}:Fl n m []:=⟨rfl,by rw[PyData.shownAll,piled_nil];omega,by simp[PyData.depthAll]⟩
theorem Fl.mono{n m n' m':Nat}{ds:List PyData}(h:Fl n m ds)(hn:n<=n')(hm:m<=m'):Fl n' m' ds:=⟨h.sh,Nat.le_trans h.ln hn,Nat.le_trans h.dp hm⟩
theorem fl_cons{a n m:Nat}{d:PyData}{ds:List PyData}(h:Fit a m d)(t:Fl n m ds):Fl (a+2+n) m (d::ds):=by
 obtain⟨h1,h2,h3⟩:=h
 refine⟨by rw[PyData.showableAll,h1,t.sh];rfl,?_,by rw[PyData.depthAll];exact Nat.max_le.mpr ⟨h3,t.dp⟩⟩
 have:=t.ln
 rw[PyData.shownAll,piled_cons]
 omega
theorem fl_app{n n' m:Nat}{b:List PyData}(hb:Fl n' m b):∀ {a:List PyData},Fl n m a->Fl (n+n') m (a++b)
 |a,ha=>by
  have key:∀a:List PyData,PyData.showableAll a=true->PyData.depthAll a<=m->PyData.showableAll (a++b)=true/\piled (PyData.shownAll (a++b))=piled (PyData.shownAll a)+piled (PyData.shownAll b)/\PyData.depthAll (a++b)<=m:=fun a=>by
   induction a with
   |nil=>exact fun _ _=>⟨hb.sh,by rw[List.nil_append,PyData.shownAll,piled_nil];omega,hb.dp⟩
   |cons d ds ih=>
    intro h1 h2
    rw[PyData.showableAll,Bool.and_eq_true]at h1
    rw[PyData.depthAll]at h2
    obtain⟨i1,i2,i3⟩:=ih h1.2 (Nat.le_trans (Nat.le_max_right _ _) h2)
    rw[List.cons_append,PyData.showableAll,PyData.shownAll,PyData.depthAll,piled_cons,i2,PyData.shownAll,piled_cons]
    exact⟨by rw[h1.1,i1];rfl,by omega,Nat.max_le.mpr ⟨Nat.le_trans (Nat.le_max_left _ _) h2,i3⟩⟩
  obtain⟨k1,k2,k3⟩:=key a ha.sh ha.dp
  have:=ha.ln
  have:=hb.ln
  exact⟨k1,by omega,k3⟩
theorem fl_lst{n m:Nat}{ds:List PyData}(h:Fl n m ds):Fit (n+2) (m+1) (.list ds):=by
 obtain⟨i1,i2,i3⟩:=h
 refine⟨by rw[PyData.showable];exact i1,?_,by rw[PyData.depth];omega⟩
 rw[PyData.shown]
 unfold listText
 rw[strLen_append]
 have h1:=text_le (PyData.shownAll ds) 0 "["
 have e1:(Str.ofString "[").length=1:=by decide
 have e2:(Str.ofString "]").length=1:=by decide
 omega
theorem fl_tup{n m:Nat}{ds:List PyData}(h:Fl n m ds):Fit (n+3) (m+1) (.tuple ds):=by
 obtain⟨i1,i2,i3⟩:=h
 refine⟨by rw[PyData.showable];exact i1,?_,by rw[PyData.depth];omega⟩
 rw[PyData.shown]
 unfold tupleText
 rw[strLen_append,strLen_append]
 have e1:(Str.ofString "(").length=1:=by decide
 have e2:(Str.ofString (if(PyData.shownAll ds).length==1 then",)" else")")).length<=2:=by split<;>decide
 by_cases hz:PyData.shownAll ds=[]
 ·rw[hz]at e2⊢
  have:(Str.join ", " []).length=0:=by decide
  omega
 ·have:=join_length_add _ hz
  omega
mutual
inductive Sv (S:Addr->Prop) (H:Hp):V->PyData->Prop
 |sc {x:V} {d:PyData} (h:Sc x d):Sv S H x d
 |lst {a:Addr} {xs:List V} {ds:List PyData} (h:H a=some (.lst xs)) (n:¬S a) (r:Svs S H xs ds):Sv S H (.ref a) (.list ds)
 |tup {a:Addr} {xs:List V} {ds:List PyData} (h:H a=some (.tup xs)) (n:¬S a) (r:Svs S H xs ds):Sv S H (.ref a) (.tuple ds)
 |dct {a:Addr} {kvs:List (Key×V)} {ds:List (PyData×PyData)} (h:H a=some (.dK kvs)) (n:¬S a) (r:Paired Sck kvs ds):Sv S H (.ref a) (.dict ds)
inductive Svs (S:Addr->Prop) (H:Hp):List V->List PyData->Prop
 |nil:Svs S H [] []
 |cons {x:V} {d:PyData} {xs:List V} {ds:List PyData} (h:Sv S H x d) (t:Svs S H xs ds):Svs S H (x::xs) (d::ds)
end
mutual
theorem Sv.keep{S S':Addr->Prop}{H H':Hp}(s:∀x o,¬S x->H x=some o->H' x=some o/\¬S' x):∀ {x:V} {d:PyData},Sv S H x d->Sv S' H' x d
 |_,_, .sc h=> .sc h
 |_,_, .lst h n r=> .lst (s _ _ n h).1 (s _ _ n h).2 (Svs.keep s r)
 |_,_, .tup h n r=> .tup (s _ _ n h).1 (s _ _ n h).2 (Svs.keep s r)
 |_,_, .dct h n r=> .dct (s _ _ n h).1 (s _ _ n h).2 r
theorem Svs.keep{S S':Addr->Prop}{H H':Hp}(s:∀x o,¬S x->H x=some o->H' x=some o/\¬S' x):∀ {xs:List V} {ds:List PyData},Svs S H xs ds->Svs S' H' xs ds
 |_,_, .nil=> .nil
 |_,_, .cons h t=> .cons (Sv.keep s h) (Svs.keep s t)
end
theorem sv_ne{S:Addr->Prop}{H:Hp}{p a:Addr}{o:HO}(hp:S p\/H p=none)(h:H a=some o)(n:¬S a):a≠p:=fun z=>by
 subst z
 rcases hp with e|e
 ·exact n e
 ·rw[h]at e;cases e
mutual
theorem Sv.sd{S:Addr->Prop}{H:Hp}{p:Addr}(hp:S p\/H p=none):∀ {x:V} {d:PyData},Sv S H x d->Sd p H x d
 |_,_, .sc h=> .sc h
 |_,_, .lst h n r=> .lst h (sv_ne hp h n) (Svs.sd hp r)
 |_,_, .tup h n r=> .tup h (sv_ne hp h n) (Svs.sd hp r)
 |_,_, .dct h n r=> .dct h (sv_ne hp h n) r
theorem Svs.sd{S:Addr->Prop}{H:Hp}{p:Addr}(hp:S p\/H p=none):∀ {xs:List V} {ds:List PyData},Svs S H xs ds->Sds p H xs ds
 |_,_, .nil=> .nil
 |_,_, .cons h t=> .cons (Sv.sd hp h) (Svs.sd hp t)
end
mutual
theorem sv_of{p:Addr}{H:Hp}:∀ {x:V} {d:PyData},Sd p H x d->Sv (fun y=>y=p) H x d
 |_,_, .sc h=> .sc h
 |_,_, .lst h n r=> .lst h n (svs_of r)
 |_,_, .tup h n r=> .tup h n (svs_of r)
 |_,_, .dct h n r=> .dct h n r
theorem svs_of{p:Addr}{H:Hp}:∀ {xs:List V} {ds:List PyData},Sds p H xs ds->Svs (fun y=>y=p) H xs ds
 |_,_, .nil=> .nil
 |_,_, .cons h t=> .cons (sv_of h) (svs_of t)
end
end L2
namespace BrTr
open L2 PySem PySem.Spec PyProof.Rows BrM BrC BrB BrI BrS BrR
open Tr
def isL:PyData->Bool| .list _=>true|_=>false
def isU:PyData->Bool| .tuple _=>true|_=>false
def isI:PyData->Bool| .int _=>true| .bool _=>true|_=>false
def isB:PyData->Bool| .bool _=>true|_=>false
def isN:PyData->Bool| .int _=>true|_=>false
section
variable{K:PySem.W.Frag}{p:Addr}{H:Hp}{v:V}{d:PyData}{Q:VK}
theorem s_isL(h:Sd p H v d)(q:Q (.bl (isL d)) H):rIsi K [v, .ty "list"] H Q:=by
 cases h with
 |sc c=>
  cases c with
  |non=>exact s_isi .non (by with_unfolding_all rfl) q
  |bl b=>exact s_isi (.bl b) (by with_unfolding_all rfl) q
  |int i=>exact s_isi (.int i) (by with_unfolding_all rfl) q
  |str x=>exact s_isi (.str x) (by with_unfolding_all rfl) q
 |lst g n r=>exact s_isi (.lst g) (by with_unfolding_all rfl) q
 |tup g n r=>exact s_isi (.tup g) (by with_unfolding_all rfl) q
 |dct g n r=>exact s_isi (.dK g) (by with_unfolding_all rfl) q
theorem s_isU(h:Sd p H v d)(q:Q (.bl (isU d)) H):rIsi K [v, .ty "tuple"] H Q:=by
 cases h with
 |sc c=>
  cases c with
  |non=>exact s_isi .non (by with_unfolding_all rfl) q
  |bl b=>exact s_isi (.bl b) (by with_unfolding_all rfl) q
  |int i=>exact s_isi (.int i) (by with_unfolding_all rfl) q
  |str x=>exact s_isi (.str x) (by with_unfolding_all rfl) q
 |lst g n r=>exact s_isi (.lst g) (by with_unfolding_all rfl) q
 |tup g n r=>exact s_isi (.tup g) (by with_unfolding_all rfl) q
 |dct g n r=>exact s_isi (.dK g) (by with_unfolding_all rfl) q
theorem s_isI(h:Sd p H v d)(q:Q (.bl (isI d)) H):rIsi K [v, .ty "int"] H Q:=by
 cases h with
 |sc c=>
  cases c with
  |non=>exact s_isi .non (by with_unfolding_all rfl) q
  |bl b=>exact s_isi (.bl b) (by with_unfolding_all rfl) q
  |int i=>exact s_isi (.int i) (by with_unfolding_all rfl) q
  |str x=>exact s_isi (.str x) (by with_unfolding_all rfl) q
 |lst g n r=>exact s_isi (.lst g) (by with_unfolding_all rfl) q
 |tup g n r=>exact s_isi (.tup g) (by with_unfolding_all rfl) q
 |dct g n r=>exact s_isi (.dK g) (by with_unfolding_all rfl) q
theorem s_isB(h:Sd p H v d)(q:Q (.bl (isB d)) H):rIsi K [v, .ty "bool"] H Q:=by
 cases h with
 |sc c=>
  cases c with
  |non=>exact s_isi .non (by with_unfolding_all rfl) q
  |bl b=>exact s_isi (.bl b) (by with_unfolding_all rfl) q
  |int i=>exact s_isi (.int i) (by with_unfolding_all rfl) q
  |str x=>exact s_isi (.str x) (by with_unfolding_all rfl) q
 |lst g n r=>exact s_isi (.lst g) (by with_unfolding_all rfl) q
 |tup g n r=>exact s_isi (.tup g) (by with_unfolding_all rfl) q
 |dct g n r=>exact s_isi (.dK g) (by with_unfolding_all rfl) q
theorem wholeD{E:XK}(h:Sd p H v d)(q:Q (.bl (isN d)) H):spWhole K ([v]++[]) H Q E:=by
 cases h with
 |sc c=>
  cases c with
  |non=>exact⟨_,_,rfl, .non,by decide,q⟩
  |bl b=>exact⟨_,_,rfl, .bl b,by decide,q⟩
  |int i=>exact⟨_,_,rfl, .int i,by decide,q⟩
  |str x=>exact⟨_,_,rfl, .str x,by decide,q⟩
 |lst g n r=>exact⟨_,_,rfl, .lst g,by decide,q⟩
 |tup g n r=>exact⟨_,_,rfl, .tup g,by decide,q⟩
 |dct g n r=>exact⟨_,_,rfl, .dK g,by decide,q⟩
end
theorem lstI{p:Addr}{H:Hp}{v:V}{ds:List PyData}(h:Sd p H v (.list ds)):∃a xs,v= .ref a/\a≠p/\H a=some (.lst xs)/\Sds p H xs ds:=by
 cases h with
 |sc c=>cases c
 |lst g n r=>exact⟨_,_,rfl,n,g,r⟩
theorem tupI{p:Addr}{H:Hp}{v:V}{ds:List PyData}(h:Sd p H v (.tuple ds)):∃a xs,v= .ref a/\a≠p/\H a=some (.tup xs)/\Sds p H xs ds:=by
 cases h with
 |sc c=>cases c
 |tup g n r=>exact⟨_,_,rfl,n,g,r⟩
theorem sds2{p:Addr}{H:Hp}{xs:List V}{a b:PyData}(h:Sds p H xs [a,b]):∃u w,xs=[u,w]/\Sd p H u a/\Sd p H w b:=by
 cases h with
 |cons h1 t=>cases t with|cons h2 t2=>cases t2;exact⟨_,_,rfl,h1,h2⟩
theorem intI{p:Addr}{H:Hp}{v:V}{i:Int}(h:Sd p H v (.int i)):v= .int i:=by
 cases h with
 |sc c=>cases c;rfl
theorem sds_snoc{p:Addr}{H:Hp}{v:V}{d:PyData}(h:Sd p H v d):∀ {xs:List V} {ds:List PyData},Sds p H xs ds->Sds p H (xs++[v]) (ds++[d])
 |_,_, .nil=> .cons h .nil
 |_,_, .cons a t=> .cons a (sds_snoc h t)
theorem sds_last{p:Addr}{H:Hp}:∀ {xs:List V} {ds:List PyData},Sds p H xs ds->xs≠[]->∃xs' v ds' u,xs=xs'++[v]/\ds=ds'++[u]/\Sds p H xs' ds'/\Sd p H v u
 |_,_, .nil,h=>(h rfl).elim
 |_,_, .cons (xs:=xs) a t,_=>by
  by_cases hx:xs=[]
  ·subst hx
   cases t
   exact⟨[],_,[],_,rfl,rfl, .nil,a⟩
  ·obtain⟨xs',v,ds',u,e1,e2,r1,r2⟩:=sds_last t hx
   exact⟨_::xs',v,_::ds',u,by rw[e1];rfl,by rw[e2];rfl, .cons a r1,r2⟩
def TreeD(k:Int)(d:PyData):Prop:=∃t:Tr,d= .list (trD t)/\(t.gr:Int)<k/\t.sz<=20
def isBr(k:Int):PyData->Bool
 | .tuple [.int i,_]=>decide (0<=i)&&decide (i<k)
 |_=>false
def sec:PyData->PyData
 | .tuple [_,x]=>x
 |d=>d
theorem br_inv{k:Int}{d:PyData}(h:isBr k d=true):∃ (c:Nat) (x:PyData),d= .tuple [.int (c:Int),x]/\(c:Int)<k:=by
 unfold isBr at h
 split at h
 ·rename_i i x
  rw[Bool.and_eq_true,decide_eq_true_eq,decide_eq_true_eq]at h
  exact⟨i.toNat,x,by rw[Int.toNat_of_nonneg h.1],by omega⟩
 ·cases h
theorem isBr_U{k:Int}{d:PyData}(h:isU d=false):isBr k d=false:=by
 unfold isBr
 split
 ·cases h
 ·rfl
theorem isBr_len{k:Int}{ds:List PyData}(h:ds.length≠2):isBr k (.tuple ds)=false:=by
 unfold isBr
 split
 ·rename_i e
  injection e with e
  subst e
  exact(h rfl).elim
 ·rfl
theorem isBr_N{k:Int}{a x:PyData}(h:isN a=false):isBr k (.tuple [a,x])=false:=by
 cases a<;>first|rfl|cases h
theorem isBr_I{k i:Int}{x:PyData}:isBr k (.tuple [.int i,x])=(decide (0<=i)&&decide (i<k)):=rfl
theorem trD_br{k:Int}:∀ {t:Tr},(t.gr:Int)<k->∀e∈trD t,isBr k e=true
 | .nil,_,e,h=>nomatch h
 | .cons c s r,hg,e,h=>by
   simp only[gr]at hg
   rcases List.mem_cons.mp h with z|z
   ·subst z
    rw[isBr_I,Bool.and_eq_true,decide_eq_true_eq,decide_eq_true_eq]
    exact⟨Int.natCast_nonneg _,by omega⟩
   ·exact trD_br (t:=r) (by omega) e z
def fT(t:Tr):PyData:= .list (trD t)
theorem trD_sec:∀t:Tr,(trD t).map sec=(t.kids.map fun x=>x.2).map fT
 | .nil=>rfl
 | .cons c s r=>by rw[trD,kids,List.map_cons,List.map_cons,List.map_cons,trD_sec r];rfl
theorem trD_len:∀t:Tr,(trD t).length=t.kids.length
 | .nil=>rfl
 | .cons c s r=>by rw[trD,kids,List.length_cons,List.length_cons,trD_len r]
theorem mk_tr{k:Int}:∀ {us:List PyData} {ts:List Tr},(∀e∈us,isBr k e=true)->us.map sec=ts.map fT->∃t:Tr,trD t=us/\(t.kids.map fun x=>x.2)=ts/\∀x∈t.kids,(x.1:Int)<k
 |[],[],_,_=>⟨.nil,rfl,rfl,fun x h=>nomatch h⟩
 |[],_::_,_,h=>by simp at h
 |_::_,[],_,h=>by simp at h
 |e::us,s::ts,hb,h=>by
  rw[List.map_cons,List.map_cons]at h
  injection h with h1 h2
  obtain⟨t,e1,e2,e3⟩:=mk_tr (fun x hx=>hb x (List.mem_cons_of_mem _ hx)) h2
  obtain⟨c,x,ec,hc⟩:=br_inv (hb e List.mem_cons_self)
  subst ec
  have hx:x=fT s:=h1
  subst hx
  refine⟨.cons c s t,by rw[trD,e1];rfl,by rw[kids,List.map_cons,e2],fun y hy=>?_⟩
  rcases List.mem_cons.mp hy with z|z
  ·subst z;exact hc
  ·exact e3 y z
def TsD(k:Int)(n:Nat)(L:List PyData):Prop:=∃ts:List Tr,L=ts.map fT/\(∀t∈ts,(t.gr:Int)<k)/\n+szs ts<=20
theorem ts_one{k:Int}{d:PyData}:TsD k 0 [d]↔TreeD k d:=by
 constructor
 ·rintro⟨ts,e,hg,hs⟩
  match ts,e with
  |[t],e=>
   injection e with e
   exact⟨t,e,hg t List.mem_cons_self,by rw[szs_one]at hs;omega⟩
 ·rintro⟨t,e,hg,hs⟩
  exact⟨[t],by rw[e];rfl,fun u hu=>by rw[List.mem_singleton.mp hu];exact hg,by rw[szs_one];omega⟩
theorem ts_last{k:Int}{n:Nat}{L:List PyData}{u:PyData}(h:TsD k n (L++[u])):∃t:Tr,u=fT t/\(t.gr:Int)<k/\n+t.sz<=20:=by
 obtain⟨ts,e,hg,hs⟩:=h
 obtain⟨ts1,ts2,rfl,e1,e2⟩:=List.append_eq_map_iff.mp e
 match ts2,e2 with
 |[t],e2=>
  injection e2 with e2
  rw[szs_app,szs_one]at hs
  exact⟨t,e2.symm,hg t (by simp),by omega⟩
theorem ts_step{k:Int}(hk:1<=k){n:Nat}{L us:List PyData}(hb:∀e∈us,isBr k e=true):TsD k n (L++[.list us])↔TsD k (n+us.length) (L++us.map sec):=by
 have hk1:1<=k.toNat:=by omega
 constructor
 ·rintro⟨ts,e,hg,hs⟩
  obtain⟨ts1,ts2,rfl,e1,e2⟩:=List.append_eq_map_iff.mp e
  match ts2,e2 with
  |[t],e2=>
   injection e2 with e2
   have e3:trD t=us:=by injection e2
   have hgt:=hg t (by simp)
   rw[szs_app,szs_one]at hs
   have hz:=kids_szs t
   refine⟨ts1++t.kids.map fun x=>x.2,by rw[List.map_append,e1,<-trD_sec,e3],fun u hu=>?_,?_⟩
   ·rcases List.mem_append.mp hu with z|z
    ·exact hg u (by simp[z])
    ·obtain⟨x,hx,rfl⟩:=List.mem_map.mp z
     have:=(kid_ht hx).2.2.2
     omega
   ·rw[szs_app,<-e3,trD_len];omega
 ·rintro⟨ts,e,hg,hs⟩
  obtain⟨ts1,ts2,rfl,e1,e2⟩:=List.append_eq_map_iff.mp e
  obtain⟨t,e3,e4,e5⟩:=mk_tr hb e2.symm
  have hz:=kids_szs t
  rw[szs_app]at hs
  rw[e4]at hz
  rw[<-e3,trD_len]at hs
  refine⟨ts1++[t],by rw[List.map_append,e1,<-e3];rfl,fun u hu=>?_,by rw[szs_app,szs_one];omega⟩
  rcases List.mem_append.mp hu with z|z
  ·exact hg u (by simp[z])
  ·rw[List.mem_singleton.mp z]
   have:t.gr<k.toNat:=(gr_lt_iff hk1).mpr fun x hx=>⟨by have:=e5 x hx;omega,by
    have:=hg x.2 (List.mem_append_right _ (by rw[<-e4];exact List.mem_map.mpr ⟨x,hx,rfl⟩))
    omega⟩
   omega
theorem ts_noL{k:Int}{n:Nat}{L:List PyData}{u:PyData}(h:isL u=false):¬TsD k n (L++[u]):=fun z=>by
 obtain⟨t,e,_⟩:=ts_last z
 subst e
 cases h
theorem ts_over{k:Int}{n:Nat}{L us:List PyData}(h:20<n+us.length):¬TsD k n (L++[.list us]):=fun z=>by
 obtain⟨t,e,_,hs⟩:=ts_last z
 have e3:us=trD t:=by injection e
 have:=kids_len t
 rw[e3,trD_len]at h
 omega
theorem ts_noB{k:Int}{n:Nat}{L us:List PyData}{e:PyData}(he:e∈us)(h:isBr k e=false):¬TsD k n (L++[.list us]):=fun z=>by
 obtain⟨t,e1,hg,hs⟩:=ts_last z
 have e3:us=trD t:=by injection e1
 subst e3
 rw[trD_br hg e he]at h
 cases h
def spBranchD:Sp:=fun vs H Q _=>∃ (k:Int) (v:V) (p:Addr) (d:PyData),vs=[.int k,v]/\Sd p H v d/\∀H',Same H H'->Q (.bl (isBr k d)) H'
def spTreeD:Sp:=fun vs H Q _=>∃ (k:Int) (v:V) (p:Addr) (d:PyData),vs=[.int k,v]/\1<=k/\k<=4/\Sd p H v d/\∀b H',Same H H'->(b=true↔TreeD k d)->Q (.bl b) H'
def CntD(k:Int)(d:PyData)(c:Int):Prop:=(∃t:Tr,d=fT t/\(t.gr:Int)<k/\t.sz<=20/\c=t.sz)\/(21<=c/\¬TreeD k d)
theorem CntD.lt{k c:Int}{d:PyData}(h:CntD k d c):c<21↔TreeD k d:=by
 rcases h with⟨t,e,hg,hs,rfl⟩|⟨h,n⟩
 ·exact⟨fun _=>⟨t,e,hg,hs⟩,fun _=>by omega⟩
 ·exact⟨fun z=>by omega,fun z=>(n z).elim⟩
theorem CntD.of{k c:Int}{t:Tr}(h:CntD k (fT t) c)(hg:(t.gr:Int)<k)(hs:t.sz<=20):c=t.sz:=by
 rcases h with⟨u,e,_,_,rfl⟩|⟨_,n⟩
 ·have:trD t=trD u:=by injection e
  rw[trD_inj this]
 ·exact(n ⟨t,rfl,hg,hs⟩).elim
theorem CntD.pos{k c:Int}{d:PyData}(h:CntD k d c):0<=c:=by
 rcases h with⟨t,e,hg,hs,rfl⟩|⟨h,n⟩<;>omega
def gCountD(n:Nat):Sp:=fun vs H Q _=>∃ (k:Int) (v:V) (p:Addr) (d:PyData),vs=[.int k,v]/\1<=k/\k<=4/\Sd p H v d/\d.depth<=2*n+1/\∀c H',Same H H'->CntD k d c->Q (.int c) H'
def PreD(k:Int)(ds:List PyData)(i:Nat)(m:Int):Prop:=(∃ta:Tr,ds.take i=trD ta/\(ta.gr:Int)<k/\m=ta.sz)\/(21<=m/\¬TreeD k (.list ds))
theorem pre0{k:Int}(hk:1<=k)(ds:List PyData):PreD k ds 0 0:= .inl ⟨.nil,rfl,by simp only[gr];omega,rfl⟩
theorem pre_end{k m:Int}{ds:List PyData}(h:PreD k ds ds.length m):CntD k (.list ds) m:=by
 rcases h with⟨ta,e,hg,rfl⟩|h
 ·rw[List.take_length]at e
  subst e
  by_cases c:ta.sz<=20
  ·exact .inl ⟨ta,rfl,hg,c,rfl⟩
  ·refine .inr ⟨by omega,fun⟨t,e,_,hs⟩=>?_⟩
   have:trD ta=trD t:=by injection e
   rw[trD_inj this]at c
   omega
 ·exact .inr h
theorem pre_bad{k:Int}{ds:List PyData}{e:PyData}(he:e∈ds)(h:isBr k e=false):¬TreeD k (.list ds):=fun⟨t,e1,hg,hs⟩=>by
 have:ds=trD t:=by injection e1
 subst this
 rw[trD_br hg e he]at h
 cases h
theorem trD_app:∀t u:Tr,trD (t.app u)=trD t++trD u
 | .nil,u=>rfl
 | .cons c s r,u=>by rw[app,trD,trD,trD_app r u];rfl
theorem trD_split:∀ {t:Tr} {a b:List PyData},trD t=a++b->∃u w:Tr,t=u.app w/\trD u=a/\trD w=b
 |t,[],b,h=>⟨.nil,t,rfl,rfl,h⟩
 | .nil,x::a,b,h=>by cases h
 | .cons c s r,x::a,b,h=>by
   rw[trD,List.cons_append]at h
   injection h with h1 h2
   obtain⟨u,w,e1,e2,e3⟩:=trD_split h2
   exact⟨.cons c s u,w,by rw[e1];rfl,by rw[trD,h1,e2],e3⟩
theorem pre_over{k m:Int}{ds:List PyData}{i:Nat}(h:PreD k ds i m)(hm:20<m):¬TreeD k (.list ds):=by
 rcases h with⟨ta,e,hg,rfl⟩|h
 ·rintro⟨t,e1,hg,hs⟩
  have e2:ds=trD t:=by injection e1
  have e3:trD t=ds.take i++ds.drop i:=by rw[List.take_append_drop,e2]
  obtain⟨u,w,rfl,e4,e5⟩:=trD_split e3
  rw[e]at e4
  rw[trD_inj e4,sz_app]at hs
  omega
 ·exact h.2
theorem sec_tree{k:Int}{ds:List PyData}{e:PyData}(he:e∈ds):TreeD k (.list ds)->TreeD k (sec e):=fun⟨t,e1,hg,hs⟩=>by
 have:ds=trD t:=by injection e1
 subst this
 have hm:sec e∈(trD t).map sec:=List.mem_map.mpr ⟨e,he,rfl⟩
 rw[trD_sec]at hm
 obtain⟨s,h1,h2⟩:=List.mem_map.mp hm
 obtain⟨x,hx,rfl⟩:=List.mem_map.mp h1
 have:=kid_ht hx
 exact⟨x.2,h2.symm,by omega,by omega⟩
theorem pre_step{k m c:Int}{ds:List PyData}{i:Nat}{e:PyData}(h:PreD k ds i m)(he:ds[i]? =some e)(hb:isBr k e=true)(hm:m<=20)(hc:CntD k (sec e) c):PreD k ds (i+1) (m+1+c):=by
 have hmem:=List.mem_of_getElem? he
 rcases h with⟨ta,e1,hg,rfl⟩|h
 ·rcases hc with⟨s,es,hgs,hss,rfl⟩|⟨h1,n⟩
  ·obtain⟨j,x,rfl,hj⟩:=br_inv hb
   have hx:x=fT s:=es
   subst hx
   refine .inl ⟨ta.app (.cons j s .nil),?_,by rw[gr_app];simp only[gr];omega,by rw[sz_app];simp only[sz];omega⟩
   rw[List.take_add_one,he,e1,trD_app]
   rfl
  ·exact .inr ⟨by omega,fun z=>n (sec_tree hmem z)⟩
 ·exact .inr ⟨by have:=hc.pos;omega,h.2⟩
theorem depth_sec{ds:List PyData}{e a x:PyData}{n:Nat}(he:e∈ds)(ee:e= .tuple [a,x])(h:(PyData.list ds).depth<=n):x.depth+2<=n:=by
 have h1:e.depth<=PyData.depthAll ds:=by
  clear h ee
  induction ds with
  |nil=>cases he
  |cons y ys ih=>
   rw[PyData.depthAll]
   rcases List.mem_cons.mp he with z|z
   ·rw[<-z];exact Nat.le_max_left _ _
   ·exact Nat.le_trans (ih z) (Nat.le_max_right _ _)
 rw[PyData.depth]at h
 rw[ee,PyData.depth]at h1
 simp only[PyData.depthAll]at h1
 omega
def Dv(S:Addr->Prop)(n m:Nat)(H:Hp)(v:V):Prop:=∃d,Sv S H v d/\Fit n m d
def Dl(S:Addr->Prop)(n m:Nat)(H:Hp)(v:V):Prop:=∃a xs ds,v= .ref a/\¬S a/\H a=some (.lst xs)/\Svs S H xs ds/\Fl n m ds
def Kp(S:Addr->Prop)(H H':Hp):Prop:=∀x o,¬S x->H x=some o->H' x=some o
theorem kp_same{S:Addr->Prop}{H H':Hp}(s:Same H H'):Kp S H H':=fun x o _ h=>s x o h
theorem kp_but{S:Addr->Prop}{p:Addr}{H H':Hp}(s:SameBut1 p H H')(h:S p):Kp S H H':=fun x o n e=>s x o e (fun z=>n (z▸h))
theorem Dv.keep{S:Addr->Prop}{n m:Nat}{H H':Hp}{v:V}(h:Dv S n m H v)(s:Kp S H H'):Dv S n m H' v:=let⟨d,a,b⟩:=h;⟨d,a.keep fun x o n e=>⟨s x o n e,n⟩,b⟩
theorem Dv.same{S:Addr->Prop}{n m:Nat}{H H':Hp}{v:V}(h:Dv S n m H v)(s:Same H H'):Dv S n m H' v:=h.keep (kp_same s)
theorem Dl.keep{S:Addr->Prop}{n m:Nat}{H H':Hp}{v:V}(h:Dl S n m H v)(s:Kp S H H'):Dl S n m H' v:=let⟨a,xs,ds,e,na,g,r,f⟩:=h;⟨a,xs,ds,e,na,s _ _ na g,r.keep fun x o n e=>⟨s x o n e,n⟩,f⟩
theorem Dl.same{S:Addr->Prop}{n m:Nat}{H H':Hp}{v:V}(h:Dl S n m H v)(s:Same H H'):Dl S n m H' v:=h.keep (kp_same s)
theorem Dv.mono{S:Addr->Prop}{n m n' m':Nat}{H:Hp}{v:V}(h:Dv S n m H v)(hn:n<=n')(hm:m<=m'):Dv S n' m' H v:=let⟨d,a,b⟩:=h;⟨d,a,b.mono hn hm⟩
theorem Dl.mono{S:Addr->Prop}{n m n' m':Nat}{H:Hp}{v:V}(h:Dl S n m H v)(hn:n<=n')(hm:m<=m'):Dl S n' m' H v:=let⟨a,xs,ds,e,na,g,r,f⟩:=h;⟨a,xs,ds,e,na,g,r,f.mono hn hm⟩
theorem Dl.dv{S:Addr->Prop}{n m:Nat}{H:Hp}{v:V}(h:Dl S n m H v):Dv S (n+2) (m+1) H v:=by
 obtain⟨a,xs,ds,rfl,na,g,r,f⟩:=h
 exact⟨_, .lst g na r,fl_lst f⟩
theorem dv_non{S:Addr->Prop}{n m:Nat}{H:Hp}(hn:2000<=n)(hm:1<=m):Dv S n m H .non:=⟨_, .sc .non,fit_non.mono (by omega) hm⟩
theorem dv_bl{S:Addr->Prop}{n m:Nat}{H:Hp}(b:Bool)(hn:2000<=n)(hm:1<=m):Dv S n m H (.bl b):=⟨_, .sc (.bl b),(fit_bl b).mono (by omega) hm⟩
theorem dv_int{S:Addr->Prop}{n m:Nat}{H:Hp}{i:Int}(h:i.natAbs<10^60)(hn:2000<=n)(hm:1<=m):Dv S n m H (.int i):=⟨_, .sc (.int i),(fit_int h).mono (by omega) hm⟩
theorem dv_tx{S:Addr->Prop}{n m:Nat}{H:Hp}{a:List Nat}(h:Low a)(hl:a.length<=10)(hn:2000<=n)(hm:1<=m):Dv S n m H (tx a):=⟨_, .sc (.str _),(fit_str h).mono (by omega) hm⟩
theorem dvs{S:Addr->Prop}{n m:Nat}{H:Hp}:∀ {xs:List V},(∀x∈xs,Dv S n m H x)->∃ds,Svs S H xs ds/\Fl (xs.length*(n+2)) m ds
 |[],_=>⟨[], .nil,fl_nil⟩
 |x::xs,h=>by
  obtain⟨d,a,b⟩:=h x List.mem_cons_self
  obtain⟨ds,i1,i2⟩:=dvs (xs:=xs) fun y hy=>h y (List.mem_cons_of_mem _ hy)
  exact⟨d::ds, .cons a i1,(fl_cons b i2).mono (by rw[List.length_cons,Nat.add_mul];omega) (Nat.le_refl _)⟩
def nb(n0:Nat):Nat->Nat
 |0=>n0
 |l+1=>3*nb n0 l+12
theorem nb_up(n0:Nat):∀ {l l':Nat},l<=l'->nb n0 l<=nb n0 l'
 |l,0,h=>by rw[Nat.le_zero.mp h];exact Nat.le_refl _
 |l,l'+1,h=>by
  by_cases e:l=l'+1
  ·rw[e];exact Nat.le_refl _
  ·have:=nb_up n0 (l:=l) (l':=l') (by omega)
   rw[nb];omega
def Lv(S:Addr->Prop)(n0 m0 l:Nat)(H:Hp)(v:V):Prop:=Dv S (nb n0 l) (m0+l) H v
theorem Lv.same{S:Addr->Prop}{n0 m0 l:Nat}{H H':Hp}{v:V}(h:Lv S n0 m0 l H v)(s:Same H H'):Lv S n0 m0 l H' v:=Dv.same h s
theorem Lv.up{S:Addr->Prop}{n0 m0 l l':Nat}{H:Hp}{v:V}(h:Lv S n0 m0 l H v)(hl:l<=l'):Lv S n0 m0 l' H v:=Dv.mono h (nb_up n0 hl) (by omega)
def Ex(S:Addr->Prop)(H:Hp):Prop:=∀x,S x->∃o,H x=some o
theorem Ex.same{S:Addr->Prop}{H H':Hp}(h:Ex S H)(s:Same H H'):Ex S H':=fun x hx=>let⟨o,e⟩:=h x hx;⟨o,s _ _ e⟩
theorem Ex.new{S:Addr->Prop}{H:Hp}{D:Addr}(h:Ex S H)(hD:H D=none):¬S D:=fun z=>by obtain⟨o,e⟩:=h D z;rw[hD]at e;cases e
theorem newT{S:Addr->Prop}{n m n' m':Nat}{H:Hp}{D:Addr}{xs:List V}(hD:H D=none)(ex:Ex S H)(hx:∀x∈xs,Dv S n m H x)(hn:xs.length*(n+2)+3<=n')(hm:m+1<=m'):Dv S n' m' (upd H D (.tup xs)) (.ref D):=by
 obtain⟨ds,r,f⟩:=dvs hx
 have s:=same_new hD (.tup xs)
 exact⟨_, .tup upd_same (ex.new hD) (r.keep fun x o n e=>⟨s x o e,n⟩),(fl_tup f).mono hn hm⟩
theorem newL{S:Addr->Prop}{n m n' m':Nat}{H:Hp}{D:Addr}{xs:List V}(hD:H D=none)(ex:Ex S H)(hx:∀x∈xs,Dv S n m H x)(hn:xs.length*(n+2)<=n')(hm:m<=m'):Dl S n' m' (upd H D (.lst xs)) (.ref D):=by
 obtain⟨ds,r,f⟩:=dvs hx
 have s:=same_new hD (.lst xs)
 exact⟨D,xs,ds,rfl,ex.new hD,upd_same,r.keep fun x o n e=>⟨s x o e,n⟩,f.mono hn hm⟩
theorem lvT{S:Addr->Prop}{n0 m0 l:Nat}{H:Hp}{D:Addr}{xs:List V}(hD:H D=none)(ex:Ex S H)(hx:∀x∈xs,Lv S n0 m0 l H x)(hl:xs.length<=3):Lv S n0 m0 (l+1) (upd H D (.tup xs)) (.ref D):=
 newT hD ex hx (by
  have:=Nat.mul_le_mul_right (nb n0 l+2) hl
  rw[nb];omega) (by omega)
theorem lvL{S:Addr->Prop}{n0 m0 l:Nat}{H:Hp}{D:Addr}{xs:List V}(hD:H D=none)(ex:Ex S H)(hx:∀x∈xs,Lv S n0 m0 l H x)(hl:xs.length<=3):Dl S (3*nb n0 l+6) (m0+l) (upd H D (.lst xs)) (.ref D):=
 newL hD ex hx (by
  have:=Nat.mul_le_mul_right (nb n0 l+2) hl
  omega) (Nat.le_refl _)
theorem dl_lv{S:Addr->Prop}{n0 m0 l:Nat}{H:Hp}{v:V}(h:Dl S (3*nb n0 l+6) (m0+l) H v):Lv S n0 m0 (l+1) H v:=Dv.mono h.dv (by rw[nb];omega) (by omega)
theorem dl_4{S:Addr->Prop}{n0 m0 l:Nat}{H:Hp}{v:V}(h:Dl S (3*nb n0 l+6) (m0+l) H v)(hl:l<=3):Dl S (nb n0 4) (m0+3) H v:=Dl.mono h (by have:=nb_up n0 hl;rw[nb];omega) (by omega)
theorem lv_dict{S:Addr->Prop}{n0 m0:Nat}{H:Hp}{D:Addr}(hn:2000<=n0)(hm:2<=m0)(ex:Ex S H)(hD:H D=none):Lv S n0 m0 0 (upd H D (.dK [])) (.ref D):=⟨_, .dct upd_same (ex.new hD) .nil,fit_dc0.mono (by rw[nb];omega) (by omega)⟩
theorem fl_tr:∀ {t:Tr},t.gr<4->Fl (2000*t.sz) (2*t.ht) (trD t)
 | .nil,_=>fl_nil
 | .cons c s r,h=>by
   simp only[gr]at h
   have i1:=fl_tr (t:=s) (by omega)
   have i2:=fl_tr (t:=r) (by omega)
   have hi:((c:Int)).natAbs<10^60:=Nat.lt_of_le_of_lt (show _<=4 by omega) (by decide)
   have f1:=fl_tup (fl_cons ((fit_int hi).mono (Nat.le_refl _) (show 1<=2*s.ht+1 by omega)) (fl_cons (fl_lst i1) (fl_nil (n:=0))))
   have f2:=fl_cons (f1.mono (Nat.le_refl _) (show 2*s.ht+1+1<=2*(Tr.cons c s r).ht by simp only[Tr.ht];omega)) (i2.mono (Nat.le_refl _) (show 2*r.ht<=2*(Tr.cons c s r).ht by simp only[Tr.ht];omega))
   rw[trD]
   exact f2.mono (by simp only[sz];omega) (Nat.le_refl _)
def TrS(S:Addr->Prop)(H:Hp)(v:V)(t:Tr):Prop:=Sv S H v (.list (trD t))
theorem TrS.keep{S:Addr->Prop}{H H':Hp}{v:V}{t:Tr}(h:TrS S H v t)(s:Kp S H H'):TrS S H' v t:=Sv.keep (fun x o n e=>⟨s x o n e,n⟩) h
theorem TrS.dl{S:Addr->Prop}{H:Hp}{v:V}{t:Tr}(h:TrS S H v t)(hg:t.gr<4):Dl S (2000*t.sz) (2*t.ht) H v:=by
 unfold TrS at h
 cases h with
 |sc c=>cases c
 |lst g n r=>exact⟨_,_,_,rfl,n,g,r,fl_tr hg⟩
theorem svs_get{S:Addr->Prop}{H:Hp}:∀ {vs:List V} {ds:List PyData},Svs S H vs ds->vs.length=ds.length/\∀ (i:Nat) (d:PyData),ds[i]? =some d->∃v,vs[i]? =some v/\Sv S H v d
 |_,_, .nil=>⟨rfl,fun i d h=>by simp at h⟩
 |_,_, .cons h t=>by
  obtain⟨a,b⟩:=svs_get t
  refine⟨by simp[a],fun i d hd=>?_⟩
  cases i with
  |zero=>cases hd;exact⟨_,rfl,h⟩
  |succ i=>exact b i d hd
theorem svs_app{S:Addr->Prop}{H:Hp}{ys:List V}{es:List PyData}(h:Svs S H ys es):∀ {xs:List V} {ds:List PyData},Svs S H xs ds->Svs S H (xs++ys) (ds++es)
 |_,_, .nil=>h
 |_,_, .cons a t=> .cons a (svs_app h t)
theorem TrS.open{S:Addr->Prop}{H:Hp}{v:V}{t:Tr}(h:TrS S H v t):∃ (a:Addr) (vs:List V),v= .ref a/\¬S a/\H a=some (.lst vs)/\vs.length=t.kids.length/\∀ (i:Nat) (x:Nat×Tr),t.kids[i]? =some x->∃T b:Addr,vs[i]? =some (.ref T)/\¬S T/\H T=some (.tup [.int x.1, .ref b])/\TrS S H (.ref b) x.2:=by
 unfold TrS at h
 cases h with
 |sc c=>cases c
 |lst g n r=>
  refine⟨_,_,rfl,n,g,?_⟩
  obtain⟨a1,a2⟩:=svs_get r
  rw[trD_kids]at a1 a2
  refine⟨by rw[a1,List.length_map],fun i x hx=>?_⟩
  obtain⟨w,e,sd⟩:=a2 i _ (by rw[List.getElem?_map,hx];rfl)
  cases sd with
  |sc c=>cases c
  |tup g2 n2 r2=>
   cases r2 with
   |cons h1 t1=>
    cases t1 with
    |cons h2 t2=>
     cases t2
     cases h1 with
     |sc c=>
      cases c
      cases h2 with
      |sc c=>cases c
      |lst g3 n3 r3=>exact⟨_,_,e,n2,g2, .lst g3 n3 r3⟩
theorem TrS.more{S S':Addr->Prop}{H:Hp}{v:V}{t:Tr}(h:TrS S H v t)(hs:∀x o,¬S x->H x=some o->¬S' x):TrS S' H v t:=Sv.keep (fun x o n e=>⟨e,hs x o n e⟩) h
theorem TrS.same{S:Addr->Prop}{H H':Hp}{v:V}{t:Tr}(h:TrS S H v t)(s:Same H H'):TrS S H' v t:=h.keep (kp_same s)
theorem TrS.lv{S:Addr->Prop}{n0 m0:Nat}{H:Hp}{v:V}{t:Tr}(h:TrS S H v t)(hg:t.gr<4)(hn:n0=2000*t.sz+2000)(hm:m0=2*t.ht+2):Lv S n0 m0 0 H v:=(h.dl hg).dv.mono (by rw[nb];omega) (by omega)
theorem tupW{S:Addr->Prop}{n0 m0:Nat}{H:Hp}{a y:Addr}{t:Tr}{xs:List V}(h:TrS S H (.ref a) t)(hg:t.gr<4)(g:H a=some (.lst xs))(hy:H y=none)(ex:Ex S H)(hn:n0=2000*t.sz+2000)(hm:m0=2*t.ht+2):Lv S n0 m0 0 (upd H y (.tup xs)) (.ref y):=by
 unfold TrS at h
 cases h with
 |sc c=>cases c
 |lst g' n r=>
  rw[g]at g'
  cases g'
  have s:=same_new hy (.tup xs)
  exact⟨_, .tup upd_same (ex.new hy) (r.keep fun x o n e=>⟨s x o e,n⟩),(fl_tup (fl_tr hg)).mono (by rw[nb];omega) (by omega)⟩
theorem Dl.grow{S S':Addr->Prop}{n m:Nat}{H:Hp}{v:V}{y:Addr}(h:Dl S n m H v)(hS:S'=fun x=>S x\/x=y)(hy:H y=none):Dl S' n m H v:=by
 obtain⟨a,xs,ds,e,na,g,r,f⟩:=h
 subst hS
 have ne:∀x o,¬S x->H x=some o->¬(S x\/x=y):=fun x o n e z=>z.elim n fun z=>by rw[z,hy]at e;cases e
 exact⟨a,xs,ds,e,ne _ _ na g,g,r.keep fun x o n e=>⟨e,ne x o n e⟩,f⟩
theorem TrS.grow{S S':Addr->Prop}{H:Hp}{v:V}{t:Tr}{y:Addr}(h:TrS S H v t)(hS:S'=fun x=>S x\/x=y)(hy:H y=none):TrS S' H v t:=by
 subst hS
 exact h.more fun x o n e z=>z.elim n fun z=>by rw[z,hy]at e;cases e
theorem Ex.grow{S S':Addr->Prop}{H:Hp}{y:Addr}{o:HO}(h:Ex S H)(hS:S'=fun x=>S x\/x=y)(hy:H y=none):Ex S' (upd H y o):=by
 subst hS
 rintro x (z|z)
 ·exact(h.same (same_new hy o)) x z
 ·subst z;exact⟨o,upd_same⟩
theorem Dl.less{S S':Addr->Prop}{n m:Nat}{H:Hp}{v:V}{y:Addr}(h:Dl S' n m H v)(hS:S'=fun x=>S x\/x=y):Dl S n m H v:=by
 subst hS
 obtain⟨a,xs,ds,e,na,g,r,f⟩:=h
 exact⟨a,xs,ds,e,fun z=>na (.inl z),g,r.keep fun x o n e=>⟨e,fun z=>n (.inl z)⟩,f⟩
def spOdd:Sp:=fun vs H Q _=>∃ (S:Addr->Prop) (p:Addr) (n c:Nat) (v:V) (t:Tr),vs=[.ref p, .int (c:Int),v]/\S p/\Ex S H/\PoolAt H p n/\n<=100000/\c<4/\TrS S H v t/\t.gr<4/\t.sz<=20/\
 ∀w H',PoolAt H' p (n+2)->SameBut1 p H H'->Dl S (200000*(t.sz+1)) (2*t.ht+5) H' w->Q w H'
theorem szt_next{t:Tr}{i:Nat}{y:Nat×Tr}(h:t.kids[i]? =some y):szt t (i+1)=szt t i+(1+y.2.sz):=by
 unfold szt
 rw[List.take_add_one,h,List.map_append,List.sum_append]
 simp
theorem szt_le(t:Tr)(i:Nat):szt t i<=t.sz:=by
 rw[<-szt_all t]
 unfold szt
 rw[List.take_length]
 have e:(t.kids.map fun x=>1+x.2.sz).sum=((t.kids.take i).map fun x=>1+x.2.sz).sum+((t.kids.drop i).map fun x=>1+x.2.sz).sum:=by
  rw[<-List.sum_append,<-List.map_append,List.take_append_drop]
 omega
def But2(p q:Addr)(H H':Hp):Prop:=∀x o,x≠p->x≠q->H x=some o->H' x=some o
theorem kp_two{S:Addr->Prop}{p q:Addr}{H H':Hp}(h:But2 p q H H')(hp:S p)(hq:S q):Kp S H H':=fun x o n e=>h x o (fun z=>n (z▸hp)) (fun z=>n (z▸hq)) e
theorem svs_less{S:Addr->Prop}{H:Hp}{D:Addr}{xs:List V}{ds:List PyData}(h:Svs (fun x=>S x\/x=D) H xs ds):Svs S H xs ds:=h.keep fun x o n e=>⟨e,fun z=>n (.inl z)⟩
theorem svs_grow{S:Addr->Prop}{H:Hp}{D:Addr}{xs:List V}{ds:List PyData}(h:Svs S H xs ds)(hD:H D=none):Svs (fun x=>S x\/x=D) H xs ds:=h.keep fun x o n e=>⟨e,fun z=>z.elim n fun z=>by rw[z,hD]at e;cases e⟩
theorem svs_kp{S:Addr->Prop}{H H':Hp}{xs:List V}{ds:List PyData}(h:Svs S H xs ds)(s:Kp S H H'):Svs S H' xs ds:=h.keep fun x o n e=>⟨s x o n e,n⟩
def gChg(n:Nat):Sp:=fun vs H Q _=>∃ (S:Addr->Prop) (p L:Addr) (m:Nat) (c a:Int) (v:V) (t:Tr),vs=[.ref p,v, .int a, .ref L]/\S p/\S L/\p≠L/\Ex S H/\PoolAt H p m/\m+2*t.sz<=100000/\H L=some (.lst [.int c])/\TrS S H v t/\t.gr<4/\t.sz<=20/\t.ht<=n/\
 ∀w c' H',PoolAt H' p (m+2*t.sz)->H' L=some (.lst [.int c'])->But2 p L H H'->Dl S (200000*t.sz) (2*t.ht+3) H' w->Q w H'
theorem fl_len{n m:Nat}:∀ {ds:List PyData},Fl n m ds->2*ds.length<=n:=fun{ds} h=>by
 have key:∀ds:List PyData,2*ds.length<=piled (PyData.shownAll ds):=fun ds=>by
  induction ds with
  |nil=>simp
  |cons d ds ih=>rw[PyData.shownAll,piled_cons,List.length_cons];omega
 exact Nat.le_trans (key ds) h.ln
theorem svs_one{S:Addr->Prop}{H:Hp}{v:V}{d:PyData}(h:Sv S H v d):Svs S H [v] [d]:= .cons h .nil
theorem dl_same_at{S:Addr->Prop}{n m:Nat}{H:Hp}{a:Addr}{ys:List V}(h:Dl S n m H (.ref a))(g:H a=some (.lst ys)):∃ds,Svs S H ys ds/\Fl n m ds:=by
 obtain⟨a',xs,ds,e,na,g',r,f⟩:=h
 cases e
 rw[g]at g'
 cases g'
 exact⟨ds,r,f⟩
theorem cat2{S:Addr->Prop}{n m n' m' N M:Nat}{H:Hp}{a b D:Addr}{xs ys:List V}(h:Dl S n m H (.ref a))(h':Dl S n' m' H (.ref b))(g:H a=some (.lst xs))(g':H b=some (.lst ys))(hD:H D=none)(ex:Ex S H)(hn:n+n'+2<=N)(hm:m+1<=M)(hm':m'+1<=M):Dv S N M (upd H D (.lst (xs++ys))) (.ref D):=by
 obtain⟨ds,r,f⟩:=dl_same_at h g
 obtain⟨ds',r',f'⟩:=dl_same_at h' g'
 have s:=same_new hD (.lst (xs++ys))
 obtain⟨M',rfl⟩:∃M',M=M'+1:=⟨M-1,by omega⟩
 exact⟨_, .lst upd_same (ex.new hD) ((svs_app r' r).keep fun x o n e=>⟨s x o e,n⟩),(fl_lst (fl_app (f'.mono (Nat.le_refl _) (show m'<=M' by omega)) (f.mono (Nat.le_refl _) (show m<=M' by omega)))).mono (by omega) (Nat.le_refl _)⟩
theorem mem_rep{x y:V}{n:Nat}(h:x∈(List.replicate n [y]).flatten):x=y:=by
 obtain⟨l,hl,hx⟩:=List.mem_flatten.mp h
 rw[List.eq_of_mem_replicate hl]at hx
 exact List.mem_singleton.mp hx
theorem rep_len1{y:V}{n:Nat}:(List.replicate n [y]).flatten.length=n:=by simp
theorem Dv.grow{S S':Addr->Prop}{n m:Nat}{H:Hp}{v:V}{y:Addr}(h:Dv S n m H v)(hS:S'=fun x=>S x\/x=y)(hy:H y=none):Dv S' n m H v:=by
 obtain⟨d,r,f⟩:=h
 subst hS
 exact⟨d,r.keep fun x o n e=>⟨e,fun z=>z.elim n fun z=>by rw[z,hy]at e;cases e⟩,f⟩
theorem Dv.less{S S':Addr->Prop}{n m:Nat}{H:Hp}{v:V}{y:Addr}(h:Dv S' n m H v)(hS:S'=fun x=>S x\/x=y):Dv S n m H v:=by
 obtain⟨d,r,f⟩:=h
 subst hS
 exact⟨d,r.keep fun x o n e=>⟨e,fun z=>n (.inl z)⟩,f⟩
def Bun(S:Addr->Prop)(n0 m0:Nat)(p:Addr)(n:Nat)(H:Hp)(ot:V)(va:Addr)(t:Tr)(vxs:List V)(G:Hp):Prop:=Lv S n0 m0 0 G ot/\TrS S G (.ref va) t/\Ex S G/\PoolAt G p n/\G va=some (.lst vxs)/\SameBut1 p H G
theorem Bun.same{S:Addr->Prop}{n0 m0:Nat}{p:Addr}{n:Nat}{H:Hp}{ot:V}{va:Addr}{t:Tr}{vxs:List V}{G G':Hp}(b:Bun S n0 m0 p n H ot va t vxs G)(s:Same G G'):Bun S n0 m0 p n H ot va t vxs G':=⟨b.1.same s,b.2.1.same s,b.2.2.1.same s,b.2.2.2.1.same s,s _ _ b.2.2.2.2.1,b.2.2.2.2.2.trans (SameBut1.of s)⟩
theorem Bun.grow{S S':Addr->Prop}{n0 m0:Nat}{p:Addr}{n:Nat}{H:Hp}{ot:V}{va y:Addr}{t:Tr}{vxs:List V}{G:Hp}{o:HO}(b:Bun S n0 m0 p n H ot va t vxs G)(hS:S'=fun x=>S x\/x=y)(hy:G y=none):Bun S' n0 m0 p n H ot va t vxs (upd G y o):=by
 have s:=same_new hy o
 exact⟨Dv.same (Dv.grow b.1 hS hy) s,(b.2.1.grow hS hy).same s,b.2.2.1.grow hS hy,b.2.2.2.1.same s,s _ _ b.2.2.2.2.1,b.2.2.2.2.2.trans (SameBut1.of s)⟩
theorem Bun.put{S:Addr->Prop}{n0 m0:Nat}{p:Addr}{n:Nat}{H:Hp}{ot:V}{va y:Addr}{t:Tr}{vxs:List V}{G G':Hp}{us:List V}(b:Bun S n0 m0 p n H ot va t vxs G)(hS:S y)(g:G' y=some (.lst us))(s:SameBut1 y G G')(nyp:y≠p)(nva:va≠y)(hyH:H y=none):Bun S n0 m0 p n H ot va t vxs G':=by
 refine⟨Dv.keep b.1 (kp_but s hS),b.2.1.keep (kp_but s hS),fun x hx=>?_,let⟨a,c,d,e,h⟩:=b.2.2.2.1;⟨a,c,d,s _ _ e nyp.symm,h⟩,s _ _ b.2.2.2.2.1 nva,fun x o e n=>s _ _ (b.2.2.2.2.2 _ _ e n) (fun z=>by rw[z,hyH]at e;cases e)⟩
 obtain⟨o,e⟩:=b.2.2.1 x hx
 by_cases z:x=y
 ·subst z;exact⟨_,g⟩
 ·exact⟨o,s _ _ e z⟩
end BrTr
namespace L2
open PySem PySem.Spec PyProof.Rows
def tForX(wi:TI):TS:=fun _ σ H=>wi σ H fun _ _=>False
theorem ps_forX{X:Cx}{tg iter:Expr}{body:List Stmt}{wi:TI}{pos:Pos}(hi:PI X tg iter wi)(hs:∀x,foldedSetIterable iter X.env x=pure x:=by intro _;rfl):PS X (.For tg iter body [] pos) (tForX wi):=by
 intro pins s σ H D I h
 refine wpAny_For (thn (hi pins s σ H _ I h) fun v s1 h1=>thn h1 fun itv s2 h2=>?_) hs
 obtain⟨it,fp,tn,J,H2,e,I2,T,st2,f2,w⟩:=h2
 exact w.elim
theorem s_forX{wi:TI}{D:Ends}{σ:St}{H:Hp}(h:wi σ H fun _ _=>False):tForX wi D σ H:=h
end L2
namespace BrTr
open L2 PySem PySem.Spec PyProof.Rows BrM BrC BrB BrI BrS BrR
open Tr
def spRtE(K:PySem.W.Frag)(cs:Cs)(R:Int->List Nat->Hp->VK->Prop):Sp:=fun vs H Q E=>∃kv v,vs=[kv,v]/\(Gate K cs H E kv v\/∃ (k:Int) (a:List Nat),kv= .int k/\v=tx a/\1<=k/\k<=4/\isRow k a=true/\((Rt a/\R k a H Q)\/(¬Rt a/\Ref E cs.NotRight H)))
def rDep:Int->List Nat->Hp->VK->Prop:=fun _ a H Q=>∀H',Same H H'->Q (.int (deep a)) H'
def rPar:Int->List Nat->Hp->VK->Prop:=fun _ a H Q=>∀r H',H r=none->Same H H'->H' r=some (.lst ((pts a).map tx))->Q (.ref r) H'
def rTre:Int->List Nat->Hp->VK->Prop:=fun k a H Q=>∃t:Tr,a=brt t.bs/\t.gr<k.toNat/\t.sz<=20/\∀D H',H D=none->Same H H'->(∀p,(∃o,H p=some o)->TrH p H' (.ref D) t)->Q (.ref D) H'
def spTreeE(K:PySem.W.Frag)(cs:Cs):Sp:=fun vs H Q E=>spTreeD vs H Q E\/∃kv v,vs=[kv,v]/\NoK K H kv/\Ref E cs.NoKinds H
def spRowOfE(K:PySem.W.Frag)(cs:Cs):Sp:=fun vs H Q E=>∃kv v,vs=[kv,v]/\((NoK K H kv/\Ref E cs.NoKinds H)\/∃ (k:Int) (p:Addr) (d:PyData),kv= .int k/\1<=k/\k<=4/\(∃o,H p=some o)/\Sd p H v d/\((∃t:Tr,d= .list (trD t)/\(t.gr:Int)<k/\t.sz<=20/\∀H',Same H H'->Q (tx (brt t.bs)) H')\/(¬TreeD k d/\Ref E cs.NoTree H)))
def KindV(K:PySem.W.Frag)(H:Hp)(v:V):Prop:=(∃a,v=tx a/\a.length<=1000)\/∃ty,TyOf K H v (.type ty)/\ty∈plainTy/\ty≠"str"
theorem KindV.same{K:PySem.W.Frag}{H H':Hp}{v:V}(h:KindV K H v)(s:Same H H'):KindV K H' v:=h.elim .inl fun⟨ty,a,b⟩=> .inr ⟨ty,a.same s,b⟩
theorem KindV.noL{K:PySem.W.Frag}{H:Hp}{v:V}{k:Int}(h:KindV K H v)(hr:rowV k v=false):NoL K k H v:=by
 rcases h with⟨a,rfl,ha⟩|h
 ·exact .inl ⟨a,rfl,ha,by rw[rowV_tx]at hr;exact hr⟩
 ·exact .inr h
theorem KindV.row{K:PySem.W.Frag}{H:Hp}{v:V}{k:Int}(h:KindV K H v)(hr:rowV k v=true):∃a:List Nat,v=tx a/\isRow k a=true:=by
 rcases h with⟨a,rfl,ha⟩|⟨ty,hT,_,hs⟩
 ·exact⟨a,rfl,by rw[rowV_tx]at hr;exact hr⟩
 ·cases v with
  |str x=>cases hT;exact absurd rfl hs
  |_=>cases hr
theorem kind_sd{K:PySem.W.Frag}{p:Addr}{H:Hp}{v:V}{d:PyData}(h:Sd p H v d)(hs:∀x,d≠ .str x):KindV K H v:=by
 cases h with
 |sc c=>
  cases c with
  |non=>exact .inr ⟨_, .non,by decide,by decide⟩
  |bl b=>exact .inr ⟨_, .bl b,by decide,by decide⟩
  |int i=>exact .inr ⟨_, .int i,by decide,by decide⟩
  |str x=>exact absurd rfl (hs x)
 |lst g n r=>exact .inr ⟨_, .lst g,by decide,by decide⟩
 |tup g n r=>exact .inr ⟨_, .tup g,by decide,by decide⟩
 |dct g n r=>exact .inr ⟨_, .dK g,by decide,by decide⟩
def Tg(K:PySem.W.Frag)(p:Addr)(H:Hp)(v:V):Prop:=Dt p 12000000 50 H v/\KindV K H v
theorem Tg.same{K:PySem.W.Frag}{p:Addr}{H H':Hp}{v:V}(h:Tg K p H v)(s:Same H H'):Tg K p H' v:=⟨h.1.same s,h.2.same s⟩
theorem Tg.keep{K:PySem.W.Frag}{p:Addr}{H H':Hp}{v:V}(h:Tg K p H v)(s:SameBut1 p H H'):Tg K p H' v:=⟨h.1.keep s,h.2.elim .inl fun⟨ty,a,b⟩=> .inr ⟨ty,a.keep h.1.ne s,b⟩⟩
theorem th_tg{K:PySem.W.Frag}{p:Addr}{H:Hp}{v:V}(t:Th p H v):Tg K p H v:=by
 refine⟨let⟨d,a,b⟩:=th_dt t;⟨d,a,b.mono (by decide) (by decide)⟩,?_⟩
 rcases t.kind (K:=K)with⟨a,e,f⟩|h
 ·exact .inl ⟨a,e,f.2⟩
 ·exact .inr h
theorem dv_tg{K:PySem.W.Frag}{S:Addr->Prop}{p:Addr}{H:Hp}{v:V}(h:Dv S 5000000 50 H v)(hp:S p)(hk:∀a,v=tx a->a.length<=1000):Tg K p H v:=by
 obtain⟨d,r,f⟩:=h
 have sd:=r.sd (p:=p) (.inl hp)
 refine⟨⟨d,sd,f.mono (by decide) (Nat.le_refl _)⟩,?_⟩
 by_cases c:∃a,v=tx a
 ·obtain⟨a,rfl⟩:=c
  exact .inl ⟨a,rfl,hk a rfl⟩
 ·refine kind_sd sd fun x e=>?_
  subst e
  cases sd with
  |sc z=>
   cases z
   obtain⟨ar⟩:=x
   exact c ⟨ar.toList,by show V.str _=V.str _;simp⟩
inductive Due10 (K:PySem.W.Frag) (H:Hp) (p:Addr) (w:Int) (kv v:V):Option Int->Prop
 |kinds (h:NoK K H kv):Due10 K H p w kv v (some 0)
 |noRow {k:Int} (e:kv= .int k) (k1:1<=k) (k4:k<=4) (hw:w<=3) (h:NoL K k H v):Due10 K H p w kv v (some 1)
 |row {k:Int} {a:List Nat} (e:kv= .int k) (k1:1<=k) (k4:k<=4) (hw:w<=3) (ev:v=tx a) (h:isRow k a=true) (hr:Rt a\/w=3):Due10 K H p w kv v none
 |notRt {k:Int} {a:List Nat} (e:kv= .int k) (k1:1<=k) (k4:k<=4) (hw:w<=2) (ev:v=tx a) (h:isRow k a=true) (hr:¬Rt a):Due10 K H p w kv v (some 2)
 |tree {k:Int} {t:Tr} (e:kv= .int k) (k1:1<=k) (k4:k<=4) (hw:w=4) (h:Sd p H v (.list (trD t))) (hg:(t.gr:Int)<k) (hs:t.sz<=20):Due10 K H p w kv v none
 |noTree {k:Int} {d:PyData} (e:kv= .int k) (k1:1<=k) (k4:k<=4) (hw:w=4) (h:Sd p H v d) (hn:¬TreeD k d):Due10 K H p w kv v (some 3)
 |any {k:Int} {d:PyData} (e:kv= .int k) (k1:1<=k) (k4:k<=4) (hw:w=5) (h:Sd p H v d):Due10 K H p w kv v none
theorem Due10.same{K:PySem.W.Frag}{H H':Hp}{p:Addr}{w:Int}{kv v:V}{d:Option Int}(h:Due10 K H p w kv v d)(s:Same H H'):Due10 K H' p w kv v d:=by
 cases h with
 |kinds h=>exact .kinds (h.same s)
 |noRow e k1 k4 hw h=>exact .noRow e k1 k4 hw (h.same s)
 |row e k1 k4 hw ev h hr=>exact .row e k1 k4 hw ev h hr
 |notRt e k1 k4 hw ev h hr=>exact .notRt e k1 k4 hw ev h hr
 |tree e k1 k4 hw h hg hs=>exact .tree e k1 k4 hw (h.same s) hg hs
 |noTree e k1 k4 hw h hn=>exact .noTree e k1 k4 hw (h.same s) hn
 |any e k1 k4 hw h=>exact .any e k1 k4 hw (h.same s)
def cls10(cs:Cs)(i:Int):Addr:=if i=0 then cs.NoKinds else if i=1 then cs.NoLine else if i=2 then cs.NotRight else cs.NoTree
theorem Due10.rng{K:PySem.W.Frag}{H:Hp}{p:Addr}{w:Int}{kv v:V}{i:Int}(h:Due10 K H p w kv v (some i)):i=0\/i=1\/i=2\/i=3:=by cases h<;>simp
def spCaught10(K:PySem.W.Frag)(cs:Cs):Sp:=fun vs H Q _=>∃ (p:Addr) (w:Int) (kv v:V) (d:Option Int),vs=[.int w,kv,v]/\0<=w/\w<=5/\(∃o,H p=some o)/\Due10 K H p w kv v d/\(d=none->∀H',Same H H'->Q .non H')/\
 (∀i,d=some i->∀x ob H',Same H H'->H x=none->H' x=some (excO ob x (cls10 cs i))->Q (.ref x) H')
def spIs10(cs:Cs):Sp:=fun vs H Q _=>∃ (x:Addr) (ob:Obj) (d:Int),vs=[.ref x, .int d]/\H x=some (excO ob x (cls10 cs d))/\(d=0\/d=1\/d=2\/d=3)/\∀H',Same H H'->Q (.bl true) H'
def spRight10(K:PySem.W.Frag):Sp:=fun vs H Q _=>∃ (p:Addr) (w:Int) (kv v:V) (d:Option Int),vs=[.int w,kv,v,dV d]/\0<=w/\w<=5/\Due10 K H p w kv v d/\Dt p 4000 3 H kv/\Dt p 12000000 50 H v/\(∃o,H p=some o)/\∀H',Same H H'->Q (.bl true) H'
def spIsRow10(K:PySem.W.Frag):Sp:=fun vs H Q _=>∃ (k:Int) (v:V),vs=[.int k,v]/\1<=k/\k<=4/\KindV K H v/\∀H',Same H H'->Q (.bl (rowV k v)) H'
def spRowRight(K:PySem.W.Frag):Sp:=fun vs H Q _=>∃ (p:Addr) (k:Int) (v:V),vs=[.int k,v]/\1<=k/\k<=4/\Tg K p H v/\(∃o,H p=some o)/\∀H',Same H H'->Q (.bl true) H'
def spNoTrT:Sp:=fun vs H Q _=>∃ (S:Addr->Prop) (p:Addr) (n:Nat) (v:V) (t:Tr) (m:Int),vs=[.ref p,v, .int m]/\S p/\Ex S H/\PoolAt H p n/\n<=90000/\TrS S H v t/\t.gr<4/\t.sz<=20/\0<=m/\m<=100/\∀w H',PoolAt H' p (n+50)->SameBut1 p H H'->Dv S 5000000 50 H' w->(∀a,w=tx a->a.length<=1000)->Q w H'
theorem nrT{r:Addr}:∀a,V.ref r=tx a->a.length<=1000:=fun _ z=>nomatch z
theorem tx_eq{a b:List Nat}(h:tx a=tx b):a=b:=by
 have:V.str ⟨a.toArray⟩=V.str ⟨b.toArray⟩:=h
 injection this with this
 injection this with this
 have:=congrArg Array.toList this
 simpa using this
theorem clo_cls:∀o∈opn,clo o∈cls:=by decide
theorem rt_no63:∀ {n:Nat} {a:List Nat},a.length<=n->Rt a->63∉a
 |n,a,hn,h=>by
  rcases rt_cases h with e|⟨o,M,B,e,ho,hM,hB⟩
  ·rw[e];simp
  ·subst e
   simp only[List.length_append,List.length_singleton]at hn
   obtain⟨m,rfl⟩:∃m,n=m+1:=⟨n-1,by omega⟩
   have i1:=rt_no63 (n:=m) (by omega) hM
   have i2:=rt_no63 (n:=m) (by omega) hB
   have h1:(63:Nat)≠o:=fun z=>by rw[<-z]at ho;revert ho;decide
   have h2:(63:Nat)≠clo o:=fun z=>by have:=clo_cls o ho;rw[<-z]at this;revert this;decide
   simp[i1,i2,h1,h2]
theorem row_kin:∀k:Nat,k<5->∀c∈sgn (k:Int),c≠63->(c∈opn.take k\/c∈cls.take k):=by decide +kernel
theorem row_tree{k:Int}{a:List Nat}(k1:1<=k)(k4:k<=4)(ha:isRow k a=true)(hR:Rt a):∃t:Tr,a=brt t.bs/\t.gr<k.toNat/\t.sz<=20:=by
 have h63:63∉a:=rt_no63 (Nat.le_refl _) hR
 obtain⟨t,e,g⟩:=rt_tree k1 k4 _ a (Nat.le_refl _) hR fun c hc=>by
  have:=row_kin k.toNat (by omega) c (by rw[Int.toNat_of_nonneg (by omega)];exact isRow_mem ha c hc) (fun z=>h63 (z▸hc))
  exact this
 have hl:=isRow_len ha
 rw[<-e,brt_len,bs_len]at hl
 exact⟨t,e.symm,g,by omega⟩
def toldD(a:List Nat)(ta t:Tr):PyData:= .list [.int (deep a), .list ((pts a).map fun x=> .str ⟨x.toArray⟩), .list (trD ta), .str ⟨(trn a).toArray⟩, .str ⟨(brt t.bs).toArray⟩, .bool true]
theorem lay_strs:∀l:List (List Nat),(∀x∈l,PyData.strOk ⟨x.toArray⟩=true)->PyData.canLayAll0 (l.map fun x=> .str ⟨x.toArray⟩)=true/\PyData.depthAll (l.map fun x=> .str ⟨x.toArray⟩)=0
 |[],_=>by simp[PyData.canLayAll0,PyData.depthAll]
 |x::l,h=>by
  obtain⟨h1,h2⟩:=lay_strs l fun y hy=>h y (List.mem_cons_of_mem _ hy)
  rw[List.map_cons]
  exact⟨by simp[PyData.canLayAll0,PyData.canLay0,h1,h x List.mem_cons_self],by simp[PyData.depthAll,PyData.depth,h2]⟩
theorem ok_of{l:List Nat}(h:∀c∈l,c<1114112):PyData.strOk ⟨l.toArray⟩=true:=by
 unfold PyData.strOk
 simp only[List.all_toArray,List.all_eq_true,decide_eq_true_eq]
 exact h
theorem brs_lt(b:Nat):brs.getD b 0<1114112:=by
 by_cases c:b<8
 ·have:∀b,b<8->brs.getD b 0<1114112:=by decide
  exact this b c
 ·rw[List.getD_eq_getElem?_getD,List.getElem?_eq_none (by show 8<=b;omega)]
  decide
theorem brt_lt{l:List Nat}{c:Nat}(h:c∈brt l):c<1114112:=by
 obtain⟨b,_,rfl⟩:=List.mem_map.mp h
 exact brs_lt b
theorem told_ok{ta t:Tr}(hg:ta.gr<4)(h:ta.ht<=20):DatOk (toldD (brt ta.bs) ta t):=by
 obtain⟨l1,l2⟩:=lay_strs (pts (brt ta.bs)) (by
  rw[tr_pts hg]
  intro x hx
  obtain⟨y,hy,rfl⟩:=List.mem_map.mp hx
  refine ok_of fun c hc=>?_
  have:=kid_ht hy
  unfold ptr at hc
  rw[(op_facts (show y.1<4 by omega)).2.1]at hc
  simp only[List.mem_append,List.mem_singleton]at hc
  rcases hc with(z|z)|z
  ·rw[z];exact brs_lt _
  ·exact brt_lt z
  ·rw[z];exact brs_lt _)
 obtain⟨d1,d2,_⟩:=trD_ok ta
 have o1:PyData.strOk ⟨(trn (brt ta.bs)).toArray⟩=true:=by rw[tr_trn hg];exact ok_of fun c hc=>brt_lt hc
 have o2:PyData.strOk ⟨(brt t.bs).toArray⟩=true:=ok_of fun c hc=>brt_lt hc
 refine⟨by simp[toldD,PyData.canLay0,PyData.canLayAll0,l1,d1,o1,o2],?_⟩
 simp only[toldD,PyData.depth,PyData.depthAll,l2]
 omega
theorem sds_txs{p:Addr}{H:Hp}:∀l:List (List Nat),Sds p H (l.map tx) (l.map fun x=> .str ⟨x.toArray⟩)
 |[]=> .nil
 |x::l=> .cons (.sc (.str _)) (sds_txs l)
def spTold10:Sp:=fun vs H Q _=>∃ (p:Addr) (k:Int) (a:List Nat) (ta:Tr) (v:V) (t:Tr),vs=[.int k,tx a,v]/\1<=k/\k<=4/\isRow k a=true/\Rt a/\a=brt ta.bs/\ta.gr<k.toNat/\ta.sz<=20/\(∃o,H p=some o)/\TrH p H v t/\t.gr<k.toNat/\t.sz<=20/\∀L H',H L=none->Same H H'->Sd p H' (.ref L) (toldD a ta t)->Q (.ref L) H'
end BrTr
namespace Bk
open PySem L2 BrM BrR BrS BrC BrTr BrB BrC BrS BrI BrP
def top(i:Nat):Stmt:=PySem.Challenge.pw_bracketrows_k10_shapes_refused.main.body.getD i (.Pass ⟨0,0,0,0⟩)
abbrev d_is_whole:Stmt:=top 19
abbrev d_check_kinds:Stmt:=top 20
abbrev d_is_line:Stmt:=top 21
abbrev d_check_line:Stmt:=top 22
abbrev d_matched:Stmt:=top 23
abbrev d_partners:Stmt:=top 24
abbrev d_depth:Stmt:=top 27
abbrev d_parts:Stmt:=top 28
abbrev d_other_one:Stmt:=top 29
abbrev d_turned:Stmt:=top 30
abbrev d_is_branch:Stmt:=top 31
abbrev d_is_tree:Stmt:=top 32
abbrev d_tree_between:Stmt:=top 33
abbrev d_tree_of:Stmt:=top 34
abbrev d_written:Stmt:=top 35
abbrev d_row_of_tree:Stmt:=top 36
abbrev d_law_pool:Stmt:=top 38
abbrev d_law_take:Stmt:=top 39
abbrev d_law_far:Stmt:=top 40
abbrev d_law_right_row:Stmt:=top 41
abbrev d_law_signs:Stmt:=top 42
abbrev d_law_bent:Stmt:=top 44
abbrev d_law_any_row:Stmt:=top 43
abbrev d_law_is_row:Stmt:=top 45
abbrev d_law_is_right:Stmt:=top 46
abbrev d_law_no_kinds:Stmt:=top 47
abbrev d_law_no_row:Stmt:=top 48
abbrev d_law_tree:Stmt:=top 49
abbrev d_law_count:Stmt:=top 51
abbrev d_law_odd:Stmt:=top 53
abbrev d_law_changed:Stmt:=top 52
abbrev d_law_no_tree:Stmt:=top 54
abbrev d_law_is:Stmt:=top 55
abbrev d_law_caught:Stmt:=top 56
abbrev d_law_right:Stmt:=top 57
abbrev d_law_row_right:Stmt:=top 58
abbrev d_law_wide_rows:Stmt:=top 59
abbrev d_law_told:Stmt:=top 60
abbrev d_law:Stmt:=top 61
structure Txt (K:PySem.W.Frag) (mg:Str->Option Value) (aK:Addr) (cs:Cs):Prop where
 n_ValueError:mg "ValueError"=none
 n_all:mg "all"=none
 n_bool:mg "bool"=none
 n_enumerate:mg "enumerate"=none
 n_int:mg "int"=none
 n_isinstance:mg "isinstance"=none
 n_len:mg "len"=none
 n_list:mg "list"=none
 n_max:mg "max"=none
 n_min:mg "min"=none
 n_range:mg "range"=none
 n_repr:mg "repr"=none
 n_reversed:mg "reversed"=none
 n_str:mg "str"=none
 n_tuple:mg "tuple"=none
 g_OPENING:∃u,mg "OPENING"=some u/\RelV (tx [40,91,123,60]) u
 g_CLOSING:∃u,mg "CLOSING"=some u/\RelV (tx [41,93,125,62]) u
 g_KINDS:∃u,mg "KINDS"=some u/\RelV (.ref aK) u
 t_KINDS:∀H,SqT K H aK [tx [40,41],tx [91,93],tx [123,125],tx [60,62]]
 g_UNKNOWN:∃u,mg "UNKNOWN"=some u/\RelV (tx [63]) u
 g_MOST_SIGNS:∃u,mg "MOST_SIGNS"=some u/\RelV (.int 40) u
 g_MOST_TUPLES:∃u,mg "MOST_TUPLES"=some u/\RelV (.int 20) u
 c_RowError:mg "RowError"=some (.ref cs.RowError)
 e_RowError:ECls K cs.RowError
 c_NoKinds:mg "NoKinds"=some (.ref cs.NoKinds)
 e_NoKinds:ECls K cs.NoKinds
 c_NoLine:mg "NoLine"=some (.ref cs.NoLine)
 e_NoLine:ECls K cs.NoLine
 c_NotRight:mg "NotRight"=some (.ref cs.NotRight)
 e_NotRight:ECls K cs.NotRight
 c_NoTree:mg "NoTree"=some (.ref cs.NoTree)
 e_NoTree:ECls K cs.NoTree
 c_NoNumber:mg "NoNumber"=some (.ref cs.NoNumber)
 e_NoNumber:ECls K cs.NoNumber
 c_NoWeights:mg "NoWeights"=some (.ref cs.NoWeights)
 e_NoWeights:ECls K cs.NoWeights
 c_NoPlace:mg "NoPlace"=some (.ref cs.NoPlace)
 e_NoPlace:ECls K cs.NoPlace
 c_NoFilling:mg "NoFilling"=some (.ref cs.NoFilling)
 e_NoFilling:ECls K cs.NoFilling
 c_TooMany:mg "TooMany"=some (.ref cs.TooMany)
 e_TooMany:ECls K cs.TooMany
 c_NoName:mg "NoName"=some (.ref cs.NoName)
 e_NoName:ECls K cs.NoName
 c_NoRow:mg "NoRow"=some (.ref cs.NoRow)
 e_NoRow:ECls K cs.NoRow
 m_NoKinds:PySem.W.mroIn K cs.NoKinds (.ref cs.RowError)=some true
 v_NoKinds:PySem.W.kitOne K (.ref cs.NoKinds) (.type "ValueError")=some true
 k_NoKinds_RowError:PySem.W.kitOne K (.ref cs.NoKinds) (.ref cs.RowError)=some true
 k_NoKinds_NoKinds:PySem.W.kitOne K (.ref cs.NoKinds) (.ref cs.NoKinds)=some true
 k_NoKinds_NoLine:PySem.W.kitOne K (.ref cs.NoKinds) (.ref cs.NoLine)=some false
 k_NoKinds_NotRight:PySem.W.kitOne K (.ref cs.NoKinds) (.ref cs.NotRight)=some false
 k_NoKinds_NoTree:PySem.W.kitOne K (.ref cs.NoKinds) (.ref cs.NoTree)=some false
 k_NoKinds_NoNumber:PySem.W.kitOne K (.ref cs.NoKinds) (.ref cs.NoNumber)=some false
 k_NoKinds_NoWeights:PySem.W.kitOne K (.ref cs.NoKinds) (.ref cs.NoWeights)=some false
 k_NoKinds_NoPlace:PySem.W.kitOne K (.ref cs.NoKinds) (.ref cs.NoPlace)=some false
 k_NoKinds_NoFilling:PySem.W.kitOne K (.ref cs.NoKinds) (.ref cs.NoFilling)=some false
 k_NoKinds_TooMany:PySem.W.kitOne K (.ref cs.NoKinds) (.ref cs.TooMany)=some false
 k_NoKinds_NoName:PySem.W.kitOne K (.ref cs.NoKinds) (.ref cs.NoName)=some false
 k_NoKinds_NoRow:PySem.W.kitOne K (.ref cs.NoKinds) (.ref cs.NoRow)=some false
 m_NoLine:PySem.W.mroIn K cs.NoLine (.ref cs.RowError)=some true
 v_NoLine:PySem.W.kitOne K (.ref cs.NoLine) (.type "ValueError")=some true
 k_NoLine_RowError:PySem.W.kitOne K (.ref cs.NoLine) (.ref cs.RowError)=some true
 k_NoLine_NoKinds:PySem.W.kitOne K (.ref cs.NoLine) (.ref cs.NoKinds)=some false
 k_NoLine_NoLine:PySem.W.kitOne K (.ref cs.NoLine) (.ref cs.NoLine)=some true
 k_NoLine_NotRight:PySem.W.kitOne K (.ref cs.NoLine) (.ref cs.NotRight)=some false
 k_NoLine_NoTree:PySem.W.kitOne K (.ref cs.NoLine) (.ref cs.NoTree)=some false
 k_NoLine_NoNumber:PySem.W.kitOne K (.ref cs.NoLine) (.ref cs.NoNumber)=some false
 k_NoLine_NoWeights:PySem.W.kitOne K (.ref cs.NoLine) (.ref cs.NoWeights)=some false
 k_NoLine_NoPlace:PySem.W.kitOne K (.ref cs.NoLine) (.ref cs.NoPlace)=some false
 k_NoLine_NoFilling:PySem.W.kitOne K (.ref cs.NoLine) (.ref cs.NoFilling)=some false
 k_NoLine_TooMany:PySem.W.kitOne K (.ref cs.NoLine) (.ref cs.TooMany)=some false
 k_NoLine_NoName:PySem.W.kitOne K (.ref cs.NoLine) (.ref cs.NoName)=some false
 k_NoLine_NoRow:PySem.W.kitOne K (.ref cs.NoLine) (.ref cs.NoRow)=some false
 m_NotRight:PySem.W.mroIn K cs.NotRight (.ref cs.RowError)=some true
 v_NotRight:PySem.W.kitOne K (.ref cs.NotRight) (.type "ValueError")=some true
 k_NotRight_RowError:PySem.W.kitOne K (.ref cs.NotRight) (.ref cs.RowError)=some true
 k_NotRight_NoKinds:PySem.W.kitOne K (.ref cs.NotRight) (.ref cs.NoKinds)=some false
 k_NotRight_NoLine:PySem.W.kitOne K (.ref cs.NotRight) (.ref cs.NoLine)=some false
 k_NotRight_NotRight:PySem.W.kitOne K (.ref cs.NotRight) (.ref cs.NotRight)=some true
 k_NotRight_NoTree:PySem.W.kitOne K (.ref cs.NotRight) (.ref cs.NoTree)=some false
 k_NotRight_NoNumber:PySem.W.kitOne K (.ref cs.NotRight) (.ref cs.NoNumber)=some false
 k_NotRight_NoWeights:PySem.W.kitOne K (.ref cs.NotRight) (.ref cs.NoWeights)=some false
 k_NotRight_NoPlace:PySem.W.kitOne K (.ref cs.NotRight) (.ref cs.NoPlace)=some false
 k_NotRight_NoFilling:PySem.W.kitOne K (.ref cs.NotRight) (.ref cs.NoFilling)=some false
 k_NotRight_TooMany:PySem.W.kitOne K (.ref cs.NotRight) (.ref cs.TooMany)=some false
 k_NotRight_NoName:PySem.W.kitOne K (.ref cs.NotRight) (.ref cs.NoName)=some false
 k_NotRight_NoRow:PySem.W.kitOne K (.ref cs.NotRight) (.ref cs.NoRow)=some false
 m_NoTree:PySem.W.mroIn K cs.NoTree (.ref cs.RowError)=some true
 v_NoTree:PySem.W.kitOne K (.ref cs.NoTree) (.type "ValueError")=some true
 k_NoTree_RowError:PySem.W.kitOne K (.ref cs.NoTree) (.ref cs.RowError)=some true
 k_NoTree_NoKinds:PySem.W.kitOne K (.ref cs.NoTree) (.ref cs.NoKinds)=some false
 k_NoTree_NoLine:PySem.W.kitOne K (.ref cs.NoTree) (.ref cs.NoLine)=some false
 k_NoTree_NotRight:PySem.W.kitOne K (.ref cs.NoTree) (.ref cs.NotRight)=some false
 k_NoTree_NoTree:PySem.W.kitOne K (.ref cs.NoTree) (.ref cs.NoTree)=some true
 k_NoTree_NoNumber:PySem.W.kitOne K (.ref cs.NoTree) (.ref cs.NoNumber)=some false
 k_NoTree_NoWeights:PySem.W.kitOne K (.ref cs.NoTree) (.ref cs.NoWeights)=some false
 k_NoTree_NoPlace:PySem.W.kitOne K (.ref cs.NoTree) (.ref cs.NoPlace)=some false
 k_NoTree_NoFilling:PySem.W.kitOne K (.ref cs.NoTree) (.ref cs.NoFilling)=some false
 k_NoTree_TooMany:PySem.W.kitOne K (.ref cs.NoTree) (.ref cs.TooMany)=some false
 k_NoTree_NoName:PySem.W.kitOne K (.ref cs.NoTree) (.ref cs.NoName)=some false
 k_NoTree_NoRow:PySem.W.kitOne K (.ref cs.NoTree) (.ref cs.NoRow)=some false
section
variable{P:Program}{w:World}{K:PySem.W.Frag}{mg:Str->Option Value}{base:Heap}{f aK aC:Addr}{cs:Cs}{fd:FuncData}{k:Nat}
local macro_rules | `(tactic| walk_at "st") => `(tactic| first
  | with_reducible refine s_seq ?_
  | with_reducible refine s_asg ?_
  | with_reducible refine s_name ?_
  | ((with_reducible refine s_var (v := ?v) ?e ?_); (case e => exact rfl))
  | with_reducible refine s_c ?_
  | with_reducible refine s_op ?_
  | with_reducible refine s_if ?_
  | with_reducible refine s_test ?_
  | with_reducible refine s_bl ?_
  | with_reducible refine s_call ?_
  | with_reducible refine s_callE ?_
  | with_reducible refine s_raise ?_
  | with_reducible refine s_try ?_
  | with_reducible refine s_try0 ?_
  | with_reducible refine s_cons ?_
  | with_reducible refine s_nil ?_
  | with_reducible refine s_cb ?_
  | with_reducible refine s_ret ?_
  | with_reducible refine s_lst ?_
  | with_reducible refine s_tup ?_
  | with_reducible refine s_drop ?_
  | with_reducible refine s_next ?_
  | with_reducible refine s_cont ?_
  | with_reducible refine s_break ?_
  | with_reducible refine s_gnil ?_
  | with_reducible refine s_gcons ?_
  | with_reducible refine s_gsub ?_
  | with_reducible refine s_un ?_
  | with_reducible refine s_neg ?_
  | with_reducible refine s_ifE ?_
  | with_reducible refine s_and ?_
  | with_reducible refine s_or ?_
  | with_reducible refine s_not ?_
  | with_reducible refine s_andV ?_
  | with_reducible refine s_orV ?_
  | with_reducible refine s_notV ?_
  | with_reducible refine s_tru ?_
  | with_reducible refine s_chain ?_
  | with_reducible refine s_truB ?_
  | with_reducible refine s_truN ?_
  | with_reducible refine s_addI ?_
  | with_reducible refine s_subI ?_
  | with_reducible refine s_eqI ?_
  | with_reducible refine s_eqT ?_
  | with_reducible refine s_eqB ?_
  | with_reducible refine s_neI ?_
  | with_reducible refine s_neT ?_
  | with_reducible refine s_neB ?_
  | with_reducible refine s_inT ?_
  | with_reducible refine s_notinT ?_
  | with_reducible refine s_sl ?_
  | with_reducible refine s_nopart ?_
  | with_reducible refine s_part ?_
  | with_reducible refine s_partI ?_
  | with_reducible refine s_max ?_
  | with_reducible refine s_min ?_
  | with_reducible refine s_intB ?_
  | with_reducible refine s_intI ?_
  | with_reducible refine s_bm ?_
  | with_reducible refine s_bm0 ?_
  | with_reducible refine s_for ?_
  | with_reducible refine s_irng1 ?_
  | with_reducible refine s_irng2 ?_
  | with_reducible refine s_irng3 ?_
  | with_reducible refine s_augS ?_
  | with_reducible refine s_ilist ?_
  | with_reducible refine s_istr ?_
  | with_reducible refine s_istrT ?_
  | with_reducible refine s_ienS ?_
  | with_reducible refine s_ienST ?_
  | with_reducible refine s_ienL ?_
  | with_reducible refine s_comp ?_
  | with_reducible refine s_rev ?_
  | with_reducible refine s_revI ?_
  | with_reducible refine s_irev ?_
  | with_reducible refine s_tyT ?_
  | ((with_reducible refine s_irevT ?e ?_); (case e => first | assumption | exact small (by omega)))
  | ((with_reducible refine s_revT ?e ?_); (case e => first | assumption | exact small (by omega)))
  | with_reducible refine s_yes ?_
  | ((with_reducible refine s_aug (x := ?x) ?e ?_); (case e => exact rfl))
  | with_reducible refine s_ipI ?_
  | ((with_reducible refine s_is ?e ?_); (case e => exact rfl))
  | ((with_reducible refine s_isnot ?e ?_); (case e => exact rfl))
  | ((with_reducible refine s_ixL (xs := ?xs) (v := ?v) ?h ?e ?_); (case h => assumption); (case e => exact rfl))
  | ((with_reducible refine s_rI ?e ?_); (case e => first | (exact (show (0 : Int) < _ by omega)) | (exact ⟨by omega, by omega⟩) | (exact ⟨by decide, by decide, by decide⟩)))
  | ((with_reducible refine s_mulI ?e ?_); (case e => first | exact .inl ⟨by omega, by omega⟩ | exact .inr ⟨by omega, by omega⟩))
  | ((with_reducible refine s_lenT ?e ?_); (case e => first | assumption | exact small (by omega)))
  | ((with_reducible refine s_addT ?e ?_); (case e => first | exact small (by omega) | exact small (by simp only [List.length_append, List.length_cons, List.length_nil]; omega)))
  | ((with_reducible refine s_slT ?e ?_); (case e => first | assumption | exact small (by omega) | exact small (by simp only [List.length_append, List.length_cons, List.length_nil]; omega)))
  )
local macro_rules | `(tactic| walk_at "go") => `(tactic| repeat (walk_at "st"))
theorem sc_is_whole:FnScope ["thing"] ["thing"] (defScope d_is_whole):=⟨rfl,rfl,rfl,by decide +kernel,rfl,by decide +kernel,by decide +kernel⟩
theorem ok_is_whole(F:Fun K "is_whole" "is_whole" d_is_whole f fd)(T:Txt K mg aK cs):FnOk P w K mg base CX0 (k+1) f fd ["thing"] (spWhole K):=by
 refine F.ok sc_is_whole (fun vs H Q E h=>?_) (fun cdv A outer s H vs Q E hr h=>?_)
 ·obtain⟨x,T',rfl,_⟩:=h;rfl
 obtain⟨x,ty,rfl,hT,hp,q⟩:=h
 refine⟨_,(pss_one (ps_ret (pe_and (pe_callB (call_isiA K) rfl T.n_isinstance PyProof.Rows.boot_isinstance (pa_cons (pv 0) (pa_cons (pe_ty T.n_int PyProof.Rows.boot_int) pa_nil))) (pe_one (pe_not (pe_callB (call_isiA K) rfl T.n_isinstance PyProof.Rows.boot_isinstance (pa_cons (pv 0) (pa_cons (pe_ty T.n_bool PyProof.Rows.boot_bool) pa_nil)))))))),?_⟩
 walk_at "go"
 have hp':ty="NoneType"\/ty="bool"\/ty="int"\/ty="str"\/ty="list"\/ty="tuple"\/ty="dict":=by simpa[plainTy]using hp
 rcases hp' with rfl|rfl|rfl|rfl|rfl|rfl|rfl
 ·refine s_isi (b:=false) hT (by with_unfolding_all rfl) (s_bl (iteF ?_));exact q
 ·refine s_isi (b:=true) hT (by with_unfolding_all rfl) (s_bl (iteT ?_))
  walk_at "go"
  refine s_isi (b:=true) hT (by with_unfolding_all rfl) (s_bl ?_);exact q
 ·refine s_isi (b:=true) hT (by with_unfolding_all rfl) (s_bl (iteT ?_))
  walk_at "go"
  refine s_isi (b:=false) hT (by with_unfolding_all rfl) (s_bl ?_);exact q
 ·refine s_isi (b:=false) hT (by with_unfolding_all rfl) (s_bl (iteF ?_));exact q
 ·refine s_isi (b:=false) hT (by with_unfolding_all rfl) (s_bl (iteF ?_));exact q
 ·refine s_isi (b:=false) hT (by with_unfolding_all rfl) (s_bl (iteF ?_));exact q
 ·refine s_isi (b:=false) hT (by with_unfolding_all rfl) (s_bl (iteF ?_));exact q
theorem sc_check_kinds:FnScope ["k"] ["k"] (defScope d_check_kinds):=⟨rfl,rfl,rfl,by decide +kernel,rfl,by decide +kernel,by decide +kernel⟩
theorem ok_check_kinds(F:Fun K "check_kinds" "check_kinds" d_check_kinds f fd)(T:Txt K mg aK cs)(U_is_whole:FnU P w K mg base k "is_whole" ["thing"] (spWhole K)):FnOk P w K mg base (CXE P w) (k+1) f fd ["k"] (spKindsE K cs):=by
 refine F.okE sc_check_kinds (fun vs H Q E h=>?_) (fun cdv A outer s H vs Q E hr h=>?_)
 ·rcases h with⟨x,rfl,_⟩|⟨v,rfl,_⟩<;>rfl
 rcases h with⟨x,rfl,h1,h2,q⟩|⟨v,rfl,⟨ty,hT,hp,hi⟩,r⟩
 ·refine nox_ex ⟨_,(pss_one (ps_if (PW.pt (pw_or (pt_not (pt_tru K (pe_fn U_is_whole hr (pa_cons (pv 0) pa_nil)))) (pw_or1 (pt_not (pt_chain op_le op_le pe_int (pv 0) (pe_callB (call_lenA K) rfl T.n_len PySem.boot_len (pa_cons (pe_gl T.g_KINDS) pa_nil))))))) (pss_one ps_never) pss_nil)),?_⟩
  walk_at "go"
  refine whole_int ?_
  walk_at "go"
  refine ifq rfl ?_
  walk_at "go"
  refine ifp (decide_eq_true h1) ?_
  walk_at "go"
  refine s_lenL (.inr (T.t_KINDS H)) ?_
  walk_at "go"
  refine ifq (by simp;omega) ?_
  walk_at "go"
  exact q
 ·refine⟨_,(pss_one (ps_if (PW.pt (pw_or (pt_not (pt_tru K (pe_fn U_is_whole hr (pa_cons (pv 0) pa_nil)))) (pw_or1 (pt_not (pt_chain op_le op_le pe_int (pv 0) (pe_callB (call_lenA K) rfl T.n_len PySem.boot_len (pa_cons (pe_gl T.g_KINDS) pa_nil))))))) (pss_one (ps_raise T.e_NoKinds T.c_NoKinds hr.hd cxE_xm (pa_cons (pe_tx (l:=[116,104,101,32,110,117,109,98,101,114,32,111,102,32,107,105,110,100,115,32,105,115,32,97,32,119,104,111,108,101,32,110,117,109,98,101,114,32,102,114,111,109,32,49,32,116,111,32,52]) (by decide +kernel)) pa_nil))) pss_nil)),?_⟩
  walk_at "go"
  refine⟨v,ty,rfl,hT,hp,?_⟩
  walk_at "go"
  by_cases e:ty="int"
  ·subst e
   obtain⟨i,rfl⟩:=hT.int_of rfl
   ·have hi:=hi i rfl
    rw[decide_eq_true rfl]
    refine ifq rfl ?_
    walk_at "go"
    by_cases h1:1<=i
    ·refine ifp (decide_eq_true h1) ?_
     walk_at "go"
     refine s_lenL (.inr (T.t_KINDS H)) ?_
     walk_at "go"
     refine ifp (by simp;omega) ?_
     walk_at "go"
     exact⟨small (by decide),fun y hy=>r y H (Same.refl H) hy⟩
    ·refine ifq (decide_eq_false h1) ?_
     walk_at "go"
     refine ifp rfl ?_
     walk_at "go"
     exact⟨small (by decide),fun y hy=>r y H (Same.refl H) hy⟩
  ·rw[decide_eq_false e]
   refine ifp rfl ?_
   walk_at "go"
   refine ifp rfl ?_
   walk_at "go"
   exact⟨small (by decide),fun y hy=>r y H (Same.refl H) hy⟩
theorem sc_is_line:FnScope ["k","thing","signs"] ["k","thing"] (defScope d_is_line):=⟨rfl,rfl,rfl,by decide +kernel,rfl,by decide +kernel,by decide +kernel⟩
theorem ok_is_line(F:Fun K "is_line" "is_line" d_is_line f fd)(T:Txt K mg aK cs)(U_check_kinds:FnUE P w K mg base k "check_kinds" ["k"] (spKindsE K cs)):FnOk P w K mg base (CXE P w) (k+1) f fd ["k","thing"] (spLineE K cs):=by
 refine F.okE sc_is_line (fun vs H Q E h=>?_) (fun cdv A outer s H vs Q E hr h=>?_)
 ·rcases h with⟨kk,x,rfl,_⟩|⟨kv,v,rfl,_⟩<;>rfl
 rcases h with⟨kk,x,rfl,h1,h2,hx⟩|⟨kv,v,rfl,hk,r⟩
 rotate_left
 ·refine⟨_,(pss_cons (ps_expr (pe_fnE U_check_kinds hr cxE_xf (pa_cons (pv 0) pa_nil))) (pss_cons (ps_if (PW.pt (pw_or (pt_not (pt_tru K (pe_callB (call_isiA K) rfl T.n_isinstance PyProof.Rows.boot_isinstance (pa_cons (pv 1) (pa_cons (pe_ty T.n_str PyProof.Rows.boot_str) pa_nil))))) (pw_or1 (pt_cmpR op_gt (pe_callB (call_lenA K) rfl T.n_len PySem.boot_len (pa_cons (pv 1) pa_nil)) (pe_gl T.g_MOST_SIGNS) (nomark _))))) (pss_one (ps_ret pe_bl)) pss_nil) (pss_cons (ps_set (i:=2) sc_is_line.nd rfl (Or.inr rfl) (pe_op op_plus (pe_op op_plus (pe_slice (sl_A K) (pe_gl T.g_OPENING) po_none (po_some (pv 0))) (pe_slice (sl_A K) (pe_gl T.g_CLOSING) po_none (po_some (pv 0)))) (pe_gl T.g_UNKNOWN))) (pss_one (ps_ret (pe_callB (call_allA K rfl) rfl T.n_all PyProof.Rows.boot_all (pa_cons (pe_comp (own:=["sign"]) (sel:=[2]) (compOk_of (osc:=(defScope d_is_line)) (N:=["k","thing","signs"]) (by decide +kernel)) rfl (pi_str (pv 1)) (fun _ _ _ _ _=>(pg_name (i:=0) (show(["sign","signs"]:List Str).Nodup from by decide +kernel) rfl (Or.inl rfl))) (gk_name (by decide)) (fun _ _ _ _ _=>pif_nil) (fun _ _ _ _ _=>(pe_cmpR (op_inA K) (pv 0) (pv 1) (by with_unfolding_all rfl)))) pa_nil))))))),?_⟩
  walk_at "go"
  exact .inr ⟨kv,rfl,hk,r.pass (Same.refl H)⟩
 ·refine nox_ex ⟨_,(pss_cons (ps_expr (pe_fnE U_check_kinds hr xf_no (pa_cons (pv 0) pa_nil))) (pss_cons (ps_if (PW.pt (pw_or (pt_not (pt_tru K (pe_callB (call_isiA K) rfl T.n_isinstance PyProof.Rows.boot_isinstance (pa_cons (pv 1) (pa_cons (pe_ty T.n_str PyProof.Rows.boot_str) pa_nil))))) (pw_or1 (pt_cmpR op_gt (pe_callB (call_lenA K) rfl T.n_len PySem.boot_len (pa_cons (pv 1) pa_nil)) (pe_gl T.g_MOST_SIGNS) (nomark _))))) (pss_one (ps_ret pe_bl)) pss_nil) (pss_cons (ps_set (i:=2) sc_is_line.nd rfl (Or.inr rfl) (pe_op op_plus (pe_op op_plus (pe_slice (sl_A K) (pe_gl T.g_OPENING) po_none (po_some (pv 0))) (pe_slice (sl_A K) (pe_gl T.g_CLOSING) po_none (po_some (pv 0)))) (pe_gl T.g_UNKNOWN))) (pss_one (ps_ret (pe_callB (call_allA K rfl) rfl T.n_all PyProof.Rows.boot_all (pa_cons (pe_comp (own:=["sign"]) (sel:=[2]) (compOk_of (osc:=(defScope d_is_line)) (N:=["k","thing","signs"]) (by decide +kernel)) rfl (pi_str (pv 1)) (fun _ _ _ _ _=>(pg_name (i:=0) (show(["sign","signs"]:List Str).Nodup from by decide +kernel) rfl (Or.inl rfl))) (gk_name (by decide)) (fun _ _ _ _ _=>pif_nil) (fun _ _ _ _ _=>(pe_cmpR (op_inA K) (pv 0) (pv 1) (by with_unfolding_all rfl)))) pa_nil))))))),?_⟩
  walk_at "go"
  refine .inl (kinds_use h1 h2 ?_)
  walk_at "go"
  rcases hx with⟨a,rfl,ha,q⟩|⟨ty,hT,hp,hs,q⟩
  ·refine s_isi (b:=true) (TyOf.str _) (by with_unfolding_all rfl) ?_
   walk_at "go"
   refine ifq rfl ?_
   walk_at "go"
   refine ifd (fun hc=>?_) (fun hc=>?_)
   ·walk_at "go"
    have e:isRow kk a=false:=by unfold isRow;rw[decide_eq_false (by omega),Bool.false_and]
    have:=q H (Same.refl H)
    rw[e]at this
    exact this
   ·walk_at "go"
    rw[cut_to _ (by omega),cut_to _ (by omega)]
    have l1:((([40,91,123,60]:List Nat)).take kk.toNat).length<=4:=by rw[List.length_take];exact Nat.min_le_right _ _
    have l2:((([41,93,125,62]:List Nat)).take kk.toNat).length<=4:=by rw[List.length_take];exact Nat.min_le_right _ _
    first|refine s_addT (small (by omega)) ?_ |skip
    walk_at "go"
    first|refine s_addT (small (by rw[List.length_append,List.length_singleton];omega)) ?_ |skip
    walk_at "go"
    refine comp_of (n:=a.length) (fun D i ys H'=>ys=((a.take i).map fun c=>V.bl (decide (c∈sgn kk)))/\SameBut1 D H H') (fun D hD=>⟨rfl,SameBut1.of (same_new hD _)⟩) (fun D i ys H' _ hi _ _=>by simpa[Its]using hi) (fun D ys H' hD hD' hl ⟨e,sH⟩=>⟨by simp[Its],?_⟩) ?_
    ·rw[List.take_length]at e
     subst e
     have hS:SqL K H' D ((a.map fun c=>decide (c∈sgn kk)).map V.bl):=by
      rw[List.map_map];exact SqL.of hD'
     refine s_all hS ?_
     have e2:((a.map fun c=>decide (c∈sgn kk)).all id)=isRow kk a:=by
      unfold isRow
      rw[decide_eq_true (by omega),Bool.true_and,List.all_map]
      rfl
     rw[e2]
     exact q H' fun b o z=>sH b o z (ne_of_none z hD)
    ·rintro D i ys H' x H3 hD hi hD' hl ⟨e,sH⟩ ⟨rfl,c,ec,rfl⟩
     have ec':a[i]? =some c:=by simpa using ec
     show gName 0 (tx [c]) _ _ _
     walk_at "go"
     refine iteT ?_
     walk_at "go"
     refine comp_next hi (small (by omega)) hD' hl ⟨?_,sH.trans SameBut1.upd⟩
     rw[e,List.take_add_one,ec']
     simp only[Option.toList_some,List.map_append,List.map_cons,List.map_nil]
     rfl
  ·have hp':ty="NoneType"\/ty="bool"\/ty="int"\/ty="list"\/ty="tuple"\/ty="dict":=by
    have:ty="NoneType"\/ty="bool"\/ty="int"\/ty="str"\/ty="list"\/ty="tuple"\/ty="dict":=by simpa[plainTy]using hp
    rcases this with z|z|z|z|z|z|z
    ·exact .inl z
    ·exact .inr (.inl z)
    ·exact .inr (.inr (.inl z))
    ·exact absurd z hs
    ·exact .inr (.inr (.inr (.inl z)))
    ·exact .inr (.inr (.inr (.inr (.inl z))))
    ·exact .inr (.inr (.inr (.inr (.inr z))))
   have fin:PySem.W.kitOne K (.type ty) (.type "str")=some false:=by
    rcases hp' with rfl|rfl|rfl|rfl|rfl|rfl<;>with_unfolding_all rfl
   refine s_isi (b:=false) hT fin ?_
   walk_at "go"
   refine ifp rfl ?_
   walk_at "go"
   refine ifp rfl ?_
   walk_at "go"
   exact q
theorem sc_check_line:FnScope ["k","row"] ["k","row"] (defScope d_check_line):=⟨rfl,rfl,rfl,by decide +kernel,rfl,by decide +kernel,by decide +kernel⟩
theorem ok_check_line(F:Fun K "check_line" "check_line" d_check_line f fd)(T:Txt K mg aK cs)(U_is_line:FnUE P w K mg base k "is_line" ["k","thing"] (spLineE K cs)):FnOk P w K mg base (CXE P w) (k+1) f fd ["k","row"] (spGateE K cs spCheckLine):=by
 refine F.okE sc_check_line (fun vs H Q E h=>?_) (fun cdv A outer s H vs Q E hr h=>?_)
 ·rcases h with⟨kk,a,rfl,_⟩|⟨kv,v,rfl,_⟩<;>rfl
 rcases h with⟨kk,a,rfl,h1,h2,ha,q⟩|⟨kv,v,rfl,⟨hk,r⟩|⟨kk,rfl,h1,h2,hn,r⟩⟩
 ·refine nox_ex ⟨_,(pss_one (ps_if (pt_not (pt_tru K (pe_fnE U_is_line hr xf_no (pa_cons (pv 0) (pa_cons (pv 1) pa_nil))))) (pss_one ps_never) pss_nil)),?_⟩
  have hl:=isRow_len ha
  walk_at "go"
  refine .inl (line_use h1 h2 (by omega) (fun H' sH=>?_))
  walk_at "go"
  refine ifq (by rw[ha];rfl) ?_
  walk_at "go"
  exact q H' sH
 ·refine⟨_,(pss_one (ps_if (pt_not (pt_tru K (pe_fnE U_is_line hr cxE_xf (pa_cons (pv 0) (pa_cons (pv 1) pa_nil))))) (pss_one (ps_raise T.e_NoLine T.c_NoLine hr.hd cxE_xm (pa_cons (pe_tx (l:=[97,32,114,111,119,32,105,115,32,97,32,116,101,120,116,32,111,102,32,97,116,32,109,111,115,116,32,102,111,114,116,121,32,98,114,97,99,107,101,116,115,32,111,102,32,116,104,101,32,107,105,110,100,115,32,116,104,101,114,101,32,97,114,101,44,32,97,110,100,32,63]) (by decide +kernel)) pa_nil))) pss_nil)),?_⟩
  walk_at "go"
  exact .inr ⟨kv,v,rfl,hk,r.pass (Same.refl H)⟩
 ·refine⟨_,(pss_one (ps_if (pt_not (pt_tru K (pe_fnE U_is_line hr cxE_xf (pa_cons (pv 0) (pa_cons (pv 1) pa_nil))))) (pss_one (ps_raise T.e_NoLine T.c_NoLine hr.hd cxE_xm (pa_cons (pe_tx (l:=[97,32,114,111,119,32,105,115,32,97,32,116,101,120,116,32,111,102,32,97,116,32,109,111,115,116,32,102,111,114,116,121,32,98,114,97,99,107,101,116,115,32,111,102,32,116,104,101,32,107,105,110,100,115,32,116,104,101,114,101,32,97,114,101,44,32,97,110,100,32,63]) (by decide +kernel)) pa_nil))) pss_nil)),?_⟩
  walk_at "go"
  refine noRow_use' h1 h2 hn (fun H1 s1=>?_)
  walk_at "go"
  refine ifp rfl ?_
  walk_at "go"
  exact⟨small (by decide),fun y hy=>r y H1 s1 (s1.free hy)⟩
theorem sc_matched:FnScope ["row","found","waiting","at","sign","start"] ["row"] (defScope d_matched):=⟨rfl,rfl,rfl,by decide +kernel,rfl,by decide +kernel,by decide +kernel⟩
theorem ok_matched(F:Fun K "matched" "matched" d_matched f fd)(T:Txt K mg aK cs):FnOk P w K mg base CX0 (k+1) f fd ["row"] (spMatched):=by
 refine F.ok sc_matched (fun vs H Q E h=>?_) (fun cdv A outer s H vs Q E hr h=>?_)
 ·obtain⟨a,rfl,_⟩:=h;rfl
 obtain⟨a,rfl,ha,q,q'⟩:=h
 have hu:=hr.units0
 refine⟨_,(pss_cons (ps_set (i:=1) sc_matched.nd rfl (Or.inl rfl) (pe_op op_times (pe_lst (pa_cons pe_int pa_nil)) (pe_callB (call_lenA K) rfl T.n_len PySem.boot_len (pa_cons (pv 0) pa_nil)))) (pss_cons (ps_set (i:=2) sc_matched.nd rfl (Or.inl rfl) (pe_lst pa_nil)) (pss_cons (ps_for PassesOwn.never rfl (pi_enumS rfl T.n_enumerate (pa_cons (pv 0) pa_nil)) (pg_tupK (n:=2) K rfl (pgs_cons (pg_name (i:=3) sc_matched.nd rfl (Or.inl rfl)) (pgs_cons (pg_name (i:=4) sc_matched.nd rfl (Or.inl rfl)) pgs_nil))) (pss_cons (ps_if (pt_cmpR (op_inA K) (pv 4) (pe_gl T.g_OPENING) (by with_unfolding_all rfl)) (pss_cons (ps_expr (pe_bmK K PySem.F.plainAttrs_list PySem.F.slot_list_append PySem.F.type_list_append mt_append (pv 2) (pa_cons (pv 3) pa_nil))) (pss_one ps_continue)) pss_nil) (pss_cons (ps_if (PW.pt (pw_or (pt_not (pt_tru K (pv 2))) (pw_or1 (pt_cmpR (op_notinA K) (pe_op op_plus (pe_ix (ix_A K) (pv 0) (pe_ix (ix_A K) (pv 2) (pe_un un_neg pe_int) (fun _ _=>rfl)) (fun _ _=>rfl)) (pv 4)) (pe_gl T.g_KINDS) (by with_unfolding_all rfl))))) (pss_one (ps_ret pe_non)) pss_nil) (pss_cons (ps_set (i:=5) sc_matched.nd rfl (Or.inl rfl) (pe_bm0K K PySem.F.plainAttrs_list PySem.F.slot_list_pop PySem.F.type_list_pop mt_pop (pv 2))) (pss_cons (ps_asg (pv 3) (pg_sub (pv 1) (pv 5) set_list)) (pss_one (ps_asg (pv 5) (pg_sub (pv 1) (pv 3) set_list)))))))) (pss_one (ps_ret (pe_ifExp (pt_tru K (pv 2)) pe_non (pv 1))))))),?_⟩
 walk_at "go"
 refine⟨small (show 1<=1000 by decide),fun p0 hp0=>?_⟩
 walk_at "go"
 refine s_rep upd_same (by omega) (by omega) (small (by simp;omega)) (fun fo hfo=>?_)
 rw[Int.toNat_natCast,flat1]
 walk_at "go"
 refine⟨small (show 0<=1000 by decide),fun wa hwa=>?_⟩
 walk_at "go"
 have sH:Same H (upd (upd (upd H p0 (.lst [.int 0])) fo (.lst (List.replicate a.length (V.int 0)))) wa (.lst [])):=(same_new hp0 _).trans ((same_new hfo _).trans (same_new hwa _))
 have hfw:fo≠wa:=ne_of_none upd_same hwa
 have hHf:H fo=none:=(same_new hp0 _).free hfo
 have hHw:H wa=none:=(same_new hp0 _).free ((same_new hfo _).free hwa)
 refine for_enS (fun i σ H'=>∃ (st ws:List Nat) (xs:List V) (o3 o4 o5:Option V),σ=[some (tx a),some (.ref fo),some (.ref wa),o3,o4,o5]/\MI a i st ws xs/\H' fo=some (.lst xs)/\H' wa=some (.lst (ws.reverse.map fun(w:Nat)=>V.int w))/\Same H H') ⟨[],[],List.replicate a.length (V.int 0),_,_,_,rfl,MI.start a (by simp),?_,upd_same,sH⟩ ?_ ?_
 ·rw[upd_ne hfw,upd_same]
 ·rintro i c σ H1 tt hc ht ⟨st,ws,xs,o3,o4,o5,rfl,m,hf1,hw1,s1⟩
  have hi:i<a.length:=(List.getElem?_eq_some_iff.mp hc).1
  have s2:Same H1 (upd H1 tt (.tup [.int i,tx [c]])):=same_new ht _
  have hf2:=s2 _ _ hf1
  have hw2:=s2 _ _ hw1
  have hwl:ws.length<=40:=by
   have e1:=m.wk.len
   have e2:=ht_of m.rn
   have:∀l:List Nat,hg l<=l.length:=by
    intro l
    induction l with
    |nil=>simp[hg]
    |cons d r ih=>rw[hg,List.length_cons];unfold sg;split<;>omega
   have e3:=this (a.take i)
   unfold BrM.ht at e2
   rw[List.length_take]at e3
   omega
  refine s_gtup (SqT.of upd_same) rfl ?_
  walk_at "go"
  refine ifd (fun ho=>?_) (fun ho=>?_)
  ·walk_at "go"
   refine⟨.inl ⟨rfl,_,SqL.of hw2⟩,?_⟩
   walk_at "go"
   refine⟨wa,_, .int i,rfl,rfl,hw2,small1000 (by simp;omega),?_⟩
   walk_at "go"
   refine⟨_,i::ws,xs,_,_,_,rfl,m.opens hc ho,?_,?_,?_⟩
   ·rw[upd_ne hfw];exact hf2
   ·rw[upd_same];simp
   ·intro b o z
    rw[upd_ne (ne_of_none z hHw)]
    exact s2 b o (s1 b o z)
  ·walk_at "go"
   refine s_truL (SqL.of hw2) ?_
   have ho:c∉opn:=ho
   have hne:∀ (hn:¬ (∃w wr r,ws=w::wr/\st=c::r)),¬Rt a:=by
    intro hn hR
    obtain⟨s',e⟩:=run_take hR (i+1)
    rw[run_next m.rn hc]at e
    unfold BrM.stp at e
    rw[if_neg ho]at e
    cases st with
    |nil=>cases e
    |cons d r=>
     simp only at e
     split at e
     ·rename_i hd
      cases ws with
      |nil=>have:=m.wk.len;simp at this
      |cons w wr=>exact hn ⟨w,wr,r,rfl,by rw[hd]⟩
     ·cases e
   cases ws with
   |nil=>
    refine ifp rfl ?_
    walk_at "go"
    exact q' (hne (by rintro⟨_,_,_,z,_⟩;cases z)) _ (s1.trans s2)
   |cons w wr=>
    refine ifq (by simp) ?_
    obtain⟨cw,r,hcw,hcwo,rfl,hwi⟩:=m.top
    have hwa':w<a.length:=by omega
    have elast:((w::wr).reverse.map fun(w:Nat)=>V.int w)=(wr.reverse.map fun(w:Nat)=>V.int w)++[V.int w]:=by simp
    have hl2:atI ((w::wr).reverse.map fun(w:Nat)=>V.int w) (-1)=some (.int w):=by rw[elast];exact atI_last _ _
    walk_at "st"
    walk_at "st"
    walk_at "st"
    walk_at "st"
    walk_at "st"
    walk_at "st"
    walk_at "go"
    refine s_ixL (SqL.of hw2) hl2 ?_
    refine s_ixT (small (by omega)) (atI_nat hcw) ?_
    walk_at "go"
    refine s_notinS (.inr (T.t_KINDS _)) rfl rfl ?_
    have ek:inV (tx ([cw]++[c])) [tx [40,41],tx [91,93],tx [123,125],tx [60,62]]=decide (c=clo cw):=kinds_in hcwo
    rw[ek]
    walk_at "go"
    refine ifn (fun hcc=>?_) (fun hcc=>?_)
    ·walk_at "go"
     exact q' (hne (by rintro⟨_,_,_,_,z⟩;injection z with z _;exact hcc z.symm)) _ (s1.trans s2)
    ·walk_at "go"
     refine⟨.inl ⟨rfl,_,SqL.of hw2⟩,?_⟩
     refine⟨wa,_, .int w,rfl,rfl,hw2,?_,?_⟩
     ·rw[elast];simp
     ·walk_at "go"
      have hf3:(upd (upd H1 tt (.tup [.int i,tx [c]])) wa (.lst ((w::wr).reverse.map fun(w:Nat)=>V.int w).dropLast)) fo=some (.lst xs):=by rw[upd_ne hfw];exact hf2
      have hxl:=m.len
      refine s_setL (j:=w) hf3 (by simp[ixN];omega) ?_
      walk_at "go"
      refine s_setL (j:=i) upd_same (by simp[ixN];omega) ?_
      walk_at "go"
      refine⟨r,wr,_,_,_,_,rfl,MI.closes (c:=c) (by rw[hcc];exact m) hc ho,upd_same,?_,?_⟩
      ·rw[upd_ne hfw.symm,upd_ne hfw.symm,upd_same,elast];simp
      ·intro b o z
       rw[upd_ne (ne_of_none z hHf),upd_ne (ne_of_none z hHf),upd_ne (ne_of_none z hHw)]
       exact s2 b o (s1 b o z)
 ·rintro σ H1 ⟨st,ws,xs,o3,o4,o5,rfl,m,hf1,hw1,s1⟩
  have hrun:=m.rn
  rw[List.take_length]at hrun
  walk_at "go"
  refine s_truL (SqL.of hw1) ?_
  have hl:=m.wk.len
  cases ws with
  |nil=>
   refine ifq rfl ?_
   walk_at "go"
   cases st with
   |nil=>exact q hrun fo xs H1 hHf s1 hf1 m.fin
   |cons d r=>simp at hl
  |cons w wr=>
   refine ifp (by simp) ?_
   walk_at "go"
   refine q' (fun hR=>?_) H1 s1
   have hR':run [] a=some []:=hR
   rw[hrun]at hR'
   cases hR'
   simp at hl
theorem sc_partners:FnScope ["k","row","found"] ["k","row"] (defScope d_partners):=⟨rfl,rfl,rfl,by decide +kernel,rfl,by decide +kernel,by decide +kernel⟩
theorem ok_partners(F:Fun K "partners" "partners" d_partners f fd)(T:Txt K mg aK cs)(U_check_line:FnUE P w K mg base k "check_line" ["k","row"] (spGateE K cs spCheckLine))(U_matched:FnU P w K mg base k "matched" ["row"] (spMatched)):FnOk P w K mg base (CXE P w) (k+1) f fd ["k","row"] (spPartnersE K cs):=by
 refine F.okE sc_partners (fun vs H Q E h=>?_) (fun cdv A outer s H vs Q E hr h=>?_)
 ·obtain⟨kv,v,rfl,_⟩:=h;rfl
 obtain⟨kv,v,rfl,g|⟨kk,a,rfl,rfl,h1,h2,ha,⟨hR,q⟩|⟨hn,r⟩⟩⟩:=h
 ·refine⟨_,(pss_cons (ps_expr (pe_fnE U_check_line hr cxE_xf (pa_cons (pv 0) (pa_cons (pv 1) pa_nil)))) (pss_cons (ps_set (i:=2) sc_partners.nd rfl (Or.inl rfl) (pe_fn U_matched hr (pa_cons (pv 1) pa_nil))) (pss_cons (ps_if (pt_cmpR op_isA (pv 2) pe_non (nomark _)) (pss_one (ps_raise T.e_NotRight T.c_NotRight hr.hd cxE_xm (pa_cons (pe_tx (l:=[116,104,101,32,114,111,119,32,105,115,32,110,111,116,32,114,105,103,104,116]) (by decide +kernel)) pa_nil))) pss_nil) (pss_one (ps_ret (pv 2)))))),?_⟩
  walk_at "go"
  exact .inr ⟨kv,v,rfl,g.pass (Same.refl H)⟩
 ·have hl:=isRow_len ha
  refine nox_ex ⟨_,(pss_cons (ps_expr (pe_fnE U_check_line hr xf_no (pa_cons (pv 0) (pa_cons (pv 1) pa_nil)))) (pss_cons (ps_set (i:=2) sc_partners.nd rfl (Or.inl rfl) (pe_fn U_matched hr (pa_cons (pv 1) pa_nil))) (pss_cons (ps_if (pt_cmpR op_isA (pv 2) pe_non (nomark _)) (pss_one ps_never) pss_nil) (pss_one (ps_ret (pv 2)))))),?_⟩
  walk_at "go"
  refine .inl (checkLine_use h1 h2 ha (fun H1 s1=>?_))
  walk_at "go"
  refine matched_use hl (fun _ r xs H2 hr2 s2 hx hP=>?_) (fun hn=>absurd hR hn)
  walk_at "go"
  refine ifq rfl ?_
  walk_at "go"
  exact q r xs H2 (s1.free hr2) (s1.trans s2) hx hP
 ·have hl:=isRow_len ha
  refine⟨_,(pss_cons (ps_expr (pe_fnE U_check_line hr cxE_xf (pa_cons (pv 0) (pa_cons (pv 1) pa_nil)))) (pss_cons (ps_set (i:=2) sc_partners.nd rfl (Or.inl rfl) (pe_fn U_matched hr (pa_cons (pv 1) pa_nil))) (pss_cons (ps_if (pt_cmpR op_isA (pv 2) pe_non (nomark _)) (pss_one (ps_raise T.e_NotRight T.c_NotRight hr.hd cxE_xm (pa_cons (pe_tx (l:=[116,104,101,32,114,111,119,32,105,115,32,110,111,116,32,114,105,103,104,116]) (by decide +kernel)) pa_nil))) pss_nil) (pss_one (ps_ret (pv 2)))))),?_⟩
  walk_at "go"
  refine .inl (checkLine_use h1 h2 ha (fun H1 s1=>?_))
  walk_at "go"
  refine matched_use hl (fun hR=>absurd hR hn) (fun _ H2 s2=>?_)
  walk_at "go"
  refine ifp rfl ?_
  walk_at "go"
  exact⟨small (by decide),fun y hy=>r y H2 (s1.trans s2) ((s1.trans s2).free hy)⟩
theorem sc_depth:FnScope ["k","row","deepest","standing","at","partner"] ["k","row"] (defScope d_depth):=⟨rfl,rfl,rfl,by decide +kernel,rfl,by decide +kernel,by decide +kernel⟩
theorem ok_depth(F:Fun K "depth" "depth" d_depth f fd)(T:Txt K mg aK cs)(U_partners:FnUE P w K mg base k "partners" ["k","row"] (spPartnersE K cs)):FnOk P w K mg base (CXE P w) (k+1) f fd ["k","row"] (spRtE K cs rDep):=by
 refine F.okE sc_depth (fun vs H Q E h=>?_) (fun cdv A outer s H vs Q E hr h=>?_)
 ·obtain⟨kv,v,rfl,_⟩:=h;rfl
 obtain⟨kv,v,rfl,g|⟨kk,a,rfl,rfl,h1,h2,ha,⟨hR,q⟩|⟨hn,r⟩⟩⟩:=h
 ·refine⟨_,(pss_cons (ps_set (i:=2) sc_depth.nd rfl (Or.inl rfl) pe_int) (pss_cons (ps_set (i:=3) sc_depth.nd rfl (Or.inl rfl) pe_int) (pss_cons (ps_forX (pi_enumLK K rfl T.n_enumerate (pa_cons (pe_fnE U_partners hr cxE_xf (pa_cons (pv 0) (pa_cons (pv 1) pa_nil))) pa_nil))) (pss_one (ps_ret (pv 2)))))),?_⟩
  walk_at "go"
  refine s_forX ?_
  walk_at "go"
  exact⟨kv,v,rfl, .inl (g.pass (Same.refl H))⟩
 rotate_left
 ·refine⟨_,(pss_cons (ps_set (i:=2) sc_depth.nd rfl (Or.inl rfl) pe_int) (pss_cons (ps_set (i:=3) sc_depth.nd rfl (Or.inl rfl) pe_int) (pss_cons (ps_forX (pi_enumLK K rfl T.n_enumerate (pa_cons (pe_fnE U_partners hr cxE_xf (pa_cons (pv 0) (pa_cons (pv 1) pa_nil))) pa_nil))) (pss_one (ps_ret (pv 2)))))),?_⟩
  walk_at "go"
  refine s_forX ?_
  walk_at "go"
  exact⟨_,_,rfl, .inr ⟨kk,a,rfl,rfl,h1,h2,ha, .inr ⟨hn,r.pass (Same.refl H)⟩⟩⟩
 have hu:=hr.units0
 refine nox_ex ⟨_,(pss_cons (ps_set (i:=2) sc_depth.nd rfl (Or.inl rfl) pe_int) (pss_cons (ps_set (i:=3) sc_depth.nd rfl (Or.inl rfl) pe_int) (pss_cons (ps_for PassesOwn.never rfl (pi_enumLK K rfl T.n_enumerate (pa_cons (pe_fnE U_partners hr xf_no (pa_cons (pv 0) (pa_cons (pv 1) pa_nil))) pa_nil)) (pg_tupK (n:=2) K rfl (pgs_cons (pg_name (i:=4) sc_depth.nd rfl (Or.inl rfl)) (pgs_cons (pg_name (i:=5) sc_depth.nd rfl (Or.inl rfl)) pgs_nil))) (pss_cons (ps_aug (i:=3) sc_depth.nd rfl (Or.inl rfl) (pe_ifExp (pt_cmpR op_gt (pv 5) (pv 4) (nomark _)) pe_int (pe_un un_neg pe_int)) ip_add) (pss_one (ps_set (i:=2) sc_depth.nd rfl (Or.inl rfl) (pe_callB (call_maxA rfl) rfl T.n_max PyProof.Rows.boot_max (pa_cons (pv 2) (pa_cons (pv 3) pa_nil))))))) (pss_one (ps_ret (pv 2)))))),?_⟩
 have hl:=isRow_len ha
 walk_at "go"
 refine⟨_,_,rfl, .inr ⟨kk,a,rfl,rfl,h1,h2,ha, .inl ⟨hR,fun r xs H1 hr1 s1 hxs hP=>?_⟩⟩⟩
 walk_at "go"
 refine⟨r,rfl,⟨_,SqL.of hxs⟩,?_⟩
 refine for_enL (xs:=xs) (fun i σ H'=>∃ (o4 o5:Option V),σ=[some (.int kk),some (tx a),some (.int (mx a i)),some (.int (BrM.ht a i)),o4,o5]/\H' r=some (.lst xs)/\Same H H') ⟨_,_,rfl,hxs,s1⟩ (fun i σ H' _ ⟨_,_,_,z,_⟩=>SqL.of z) ?_ ?_
 ·rintro i x σ H2 tt hx ht2 ⟨o4,o5,rfl,hx2,s2⟩
  have hi:i<a.length:=by have:=(List.getElem?_eq_some_iff.mp hx).1;rw[hP.1]at this;exact this
  obtain⟨p,ep,eh⟩:=part_sg hP hi
  rw[ep]at hx
  cases hx
  have s3:=same_new ht2 (.tup [.int i, .int p])
  refine s_gtup (SqT.of upd_same) rfl ?_
  walk_at "go"
  refine ifd (fun hpi=>?_) (fun hpi=>?_)
  ·rw[if_pos hpi]at eh
   walk_at "go"
   rw[<-eh]
   exact⟨_,_,rfl,s3 _ _ hx2,s2.trans s3⟩
  ·rw[if_neg hpi]at eh
   walk_at "go"
   rw[<-eh]
   exact⟨_,_,rfl,s3 _ _ hx2,s2.trans s3⟩
 ·rintro σ H2 ⟨o4,o5,rfl,hx2,s2⟩
  walk_at "go"
  rw[hP.1]
  exact q H2 s2
theorem sc_parts:FnScope ["k","row","ends","found","start","behind"] ["k","row"] (defScope d_parts):=⟨rfl,rfl,rfl,by decide +kernel,rfl,by decide +kernel,by decide +kernel⟩
theorem ok_parts(F:Fun K "parts" "parts" d_parts f fd)(T:Txt K mg aK cs)(U_partners:FnUE P w K mg base k "partners" ["k","row"] (spPartnersE K cs)):FnOk P w K mg base (CXE P w) (k+1) f fd ["k","row"] (spRtE K cs rPar):=by
 refine F.okE sc_parts (fun vs H Q E h=>?_) (fun cdv A outer s H vs Q E hr h=>?_)
 ·obtain⟨kv,v,rfl,_⟩:=h;rfl
 obtain⟨kv,v,rfl,g|⟨kk,a,rfl,rfl,h1,h2,ha,⟨hR,q⟩|⟨hn,r⟩⟩⟩:=h
 ·refine⟨_,(pss_cons (ps_set (i:=2) sc_parts.nd rfl (Or.inl rfl) (pe_fnE U_partners hr cxE_xf (pa_cons (pv 0) (pa_cons (pv 1) pa_nil)))) (pss_cons (ps_set (i:=3) sc_parts.nd rfl (Or.inl rfl) (pe_lst pa_nil)) (pss_cons (ps_set (i:=4) sc_parts.nd rfl (Or.inl rfl) pe_int) (pss_cons (PS.nox (ps_while PassesOwn.never (pt_cmpR op_lt (pv 4) (pe_callB (call_lenA K) rfl T.n_len PySem.boot_len (pa_cons (pv 1) pa_nil)) (nomark _)) (pss_cons (ps_set (i:=5) sc_parts.nd rfl (Or.inl rfl) (pe_op op_plus (pe_ix (ix_A K) (pv 2) (pv 4) (fun _ _=>rfl)) pe_int)) (pss_cons (ps_expr (pe_bmK K PySem.F.plainAttrs_list PySem.F.slot_list_append PySem.F.type_list_append mt_append (pv 3) (pa_cons (pe_slice (sl_A K) (pv 1) (po_some (pv 4)) (po_some (pv 5))) pa_nil))) (pss_one (ps_set (i:=4) sc_parts.nd rfl (Or.inl rfl) (pv 5))))))) (pss_one (ps_ret (pv 3))))))),?_⟩
  walk_at "go"
  exact⟨kv,v,rfl, .inl (g.pass (Same.refl H))⟩
 rotate_left
 ·refine⟨_,(pss_cons (ps_set (i:=2) sc_parts.nd rfl (Or.inl rfl) (pe_fnE U_partners hr cxE_xf (pa_cons (pv 0) (pa_cons (pv 1) pa_nil)))) (pss_cons (ps_set (i:=3) sc_parts.nd rfl (Or.inl rfl) (pe_lst pa_nil)) (pss_cons (ps_set (i:=4) sc_parts.nd rfl (Or.inl rfl) pe_int) (pss_cons (PS.nox (ps_while PassesOwn.never (pt_cmpR op_lt (pv 4) (pe_callB (call_lenA K) rfl T.n_len PySem.boot_len (pa_cons (pv 1) pa_nil)) (nomark _)) (pss_cons (ps_set (i:=5) sc_parts.nd rfl (Or.inl rfl) (pe_op op_plus (pe_ix (ix_A K) (pv 2) (pv 4) (fun _ _=>rfl)) pe_int)) (pss_cons (ps_expr (pe_bmK K PySem.F.plainAttrs_list PySem.F.slot_list_append PySem.F.type_list_append mt_append (pv 3) (pa_cons (pe_slice (sl_A K) (pv 1) (po_some (pv 4)) (po_some (pv 5))) pa_nil))) (pss_one (ps_set (i:=4) sc_parts.nd rfl (Or.inl rfl) (pv 5))))))) (pss_one (ps_ret (pv 3))))))),?_⟩
  walk_at "go"
  exact⟨_,_,rfl, .inr ⟨kk,a,rfl,rfl,h1,h2,ha, .inr ⟨hn,r.pass (Same.refl H)⟩⟩⟩
 have hu:=hr.units0
 refine nox_ex ⟨_,(pss_cons (ps_set (i:=2) sc_parts.nd rfl (Or.inl rfl) (pe_fnE U_partners hr xf_no (pa_cons (pv 0) (pa_cons (pv 1) pa_nil)))) (pss_cons (ps_set (i:=3) sc_parts.nd rfl (Or.inl rfl) (pe_lst pa_nil)) (pss_cons (ps_set (i:=4) sc_parts.nd rfl (Or.inl rfl) pe_int) (pss_cons (ps_while PassesOwn.never (pt_cmpR op_lt (pv 4) (pe_callB (call_lenA K) rfl T.n_len PySem.boot_len (pa_cons (pv 1) pa_nil)) (nomark _)) (pss_cons (ps_set (i:=5) sc_parts.nd rfl (Or.inl rfl) (pe_op op_plus (pe_ix (ix_A K) (pv 2) (pv 4) (fun _ _=>rfl)) pe_int)) (pss_cons (ps_expr (pe_bmK K PySem.F.plainAttrs_list PySem.F.slot_list_append PySem.F.type_list_append mt_append (pv 3) (pa_cons (pe_slice (sl_A K) (pv 1) (po_some (pv 4)) (po_some (pv 5))) pa_nil))) (pss_one (ps_set (i:=4) sc_parts.nd rfl (Or.inl rfl) (pv 5)))))) (pss_one (ps_ret (pv 3))))))),?_⟩
 have hl:=isRow_len ha
 walk_at "go"
 refine⟨_,_,rfl, .inr ⟨kk,a,rfl,rfl,h1,h2,ha, .inl ⟨hR,fun r xs H1 hr1 s1 hxs hP=>?_⟩⟩⟩
 walk_at "go"
 refine⟨small (show 0<=1000 by decide),fun fo hfo=>?_⟩
 have hfr:r≠fo:=ne_of_none hxs hfo
 have hHf:H fo=none:=s1.free hfo
 walk_at "go"
 refine while_of (fun σ H'=>∃ (st:Nat) (o5:Option V),σ=[some (.int kk),some (tx a),some (.ref r),some (.ref fo),some (.int st),o5]/\st<=a.length/\BrM.ht a st=0/\(ct a st).2=st/\H' r=some (.lst xs)/\H' fo=some (.lst ((ct a st).1.map tx))/\Same H H')
  (fun σ _=>match σ with|[_,_,_,_,some (.int st),_]=>a.length-st.toNat|_=>0) ⟨0,_,rfl,Nat.zero_le _,rfl,rfl,same_new hfo _ _ _ hxs,upd_same,s1.trans (same_new hfo _)⟩ ?_
 rintro σ H2 ⟨st,o5,rfl,hst,h0,hb,hx2,hf2,s2⟩
 walk_at "go"
 refine ifd (fun hc=>?_) (fun hc=>?_)
 ·refine wh_body ?_
  have hlt:st<a.length:=by omega
  obtain⟨p,ep,rr⟩:=hP.2 st hlt
  have hpr:Pr a st p:=by
   rcases rr with z|z
   ·exact z
   ·exfalso
    have h5:=z.2.2.2 st z.1 (Nat.le_refl _)
    have:=ht_nonneg hR p
    omega
  have hn:=ct_next hpr h0 hb
  walk_at "go"
  refine s_ixL (SqL.of hx2) (atI_nat ep) ?_
  walk_at "go"
  refine⟨.inl ⟨rfl,_,SqL.of hf2⟩,?_⟩
  walk_at "go"
  have hcl:=ct_le a st
  refine⟨fo,_,_,rfl,rfl,hf2,small1000 (by rw[List.length_map];omega),?_⟩
  walk_at "go"
  have ec:((p:Int)+1)=(((p+1:Nat)):Int):=by omega
  rw[ec]
  refine⟨⟨p+1,_,rfl,hpr.2.1,by rw[hpr.2.2.1];exact h0,by rw[hn],by rw[upd_ne hfr];exact hx2,?_,?_⟩,?_⟩
  ·rw[upd_same,hn,List.map_append];rfl
  ·intro b o z
   rw[upd_ne (ne_of_none z hHf)]
   exact s2 b o z
  ·show a.length-(((p+1:Nat)):Int).toNat<a.length-((st:Nat):Int).toNat
   have:=hpr.1
   omega
 ·have:st=a.length:=by omega
  subst this
  walk_at "go"
  exact q fo H2 hHf s2 hf2
theorem sc_other_one:FnScope ["sign"] ["sign"] (defScope d_other_one):=⟨rfl,rfl,rfl,by decide +kernel,rfl,by decide +kernel,by decide +kernel⟩
theorem ok_other_one(F:Fun K "other_one" "other_one" d_other_one f fd)(T:Txt K mg aK cs):FnOk P w K mg base CX0 (k+1) f fd ["sign"] (spOther):=by
 refine F.ok sc_other_one (fun vs H Q E h=>?_) (fun cdv A outer s H vs Q E hr h=>?_)
 ·obtain⟨c,rfl,_⟩:=h;rfl
 obtain⟨c,rfl,h9,q⟩:=h
 have hu:=hr.units0
 refine⟨_,(pss_cons (ps_if (pt_cmpR (op_eqA K hu) (pv 0) (pe_gl T.g_UNKNOWN) (nomark _)) (pss_one (ps_ret (pe_gl T.g_UNKNOWN))) pss_nil) (pss_cons (ps_if (pt_cmpR (op_inA K) (pv 0) (pe_gl T.g_OPENING) (by with_unfolding_all rfl)) (pss_one (ps_ret (pe_ix (ix_A K) (pe_gl T.g_CLOSING) (pe_bmK K PySem.F.plainAttrs_str PySem.F.slot_str_index PySem.F.type_str_index mt_index (pe_gl T.g_OPENING) (pa_cons (pv 0) pa_nil)) (fun _ _=>rfl)))) pss_nil) (pss_one (ps_ret (pe_ix (ix_A K) (pe_gl T.g_OPENING) (pe_bmK K PySem.F.plainAttrs_str PySem.F.slot_str_index PySem.F.type_str_index mt_index (pe_gl T.g_CLOSING) (pa_cons (pv 0) pa_nil)) (fun _ _=>rfl)))))),?_⟩
 walk_at "go"
 have h9':=mem9 h9
 refine ifd (fun hc=>?_) (fun hc=>?_)
 ·have ec:c=63:=by simpa using hc
  subst ec
  walk_at "go"
  exact q
 ·walk_at "go"
  refine ifd (fun ho=>?_) (fun ho=>?_)
  ·obtain⟨j,o,hj,ho2,ho3⟩:∃ (j o:Nat),occ1 [40,91,123,60] c=some j/\atI [41,93,125,62] (j:Int)=some o/\o=oth c:=by
    have:c=40\/c=91\/c=123\/c=60:=by simpa using ho
    rcases this with rfl|rfl|rfl|rfl
    ·exact⟨0,41,by decide +kernel,rfl,rfl⟩
    ·exact⟨1,93,by decide +kernel,rfl,rfl⟩
    ·exact⟨2,125,by decide +kernel,rfl,rfl⟩
    ·exact⟨3,62,by decide +kernel,rfl,rfl⟩
   subst ho3
   walk_at "go"
   refine s_idx hj ?_
   walk_at "go"
   exact s_ixT (small (show 4<=1000 by decide)) ho2 q
  ·obtain⟨j,o,hj,ho2,ho3⟩:∃ (j o:Nat),occ1 [41,93,125,62] c=some j/\atI [40,91,123,60] (j:Int)=some o/\o=oth c:=by
    have:c=41\/c=93\/c=125\/c=62:=by
     have hc':c≠63:=fun e=>hc (by rw[e])
     have ho':¬ (c=40\/c=91\/c=123\/c=60):=fun e=>ho (by simpa using e)
     omega
    rcases this with rfl|rfl|rfl|rfl
    ·exact⟨0,40,by decide +kernel,rfl,rfl⟩
    ·exact⟨1,91,by decide +kernel,rfl,rfl⟩
    ·exact⟨2,123,by decide +kernel,rfl,rfl⟩
    ·exact⟨3,60,by decide +kernel,rfl,rfl⟩
   subst ho3
   walk_at "go"
   refine s_idx hj ?_
   walk_at "go"
   exact s_ixT (small (show 4<=1000 by decide)) ho2 q
theorem sc_turned:FnScope ["k","row"] ["k","row"] (defScope d_turned):=⟨rfl,rfl,rfl,by decide +kernel,rfl,by decide +kernel,by decide +kernel⟩
theorem ok_turned(F:Fun K "turned" "turned" d_turned f fd)(T:Txt K mg aK cs)(U_check_line:FnUE P w K mg base k "check_line" ["k","row"] (spGateE K cs spCheckLine))(U_other_one:FnU P w K mg base k "other_one" ["sign"] (spOther)):FnOk P w K mg base (CXE P w) (k+1) f fd ["k","row"] (spGateE K cs spTurned):=by
 refine F.okE sc_turned (fun vs H Q E h=>?_) (fun cdv A outer s H vs Q E hr h=>?_)
 ·rcases h with⟨kk,a,rfl,_⟩|⟨kv,v,rfl,_⟩<;>rfl
 rcases h with⟨kk,a,rfl,h1,h2,ha,q⟩|⟨kv,v,rfl,g⟩
 rotate_left
 ·refine⟨_,(pss_cons (ps_expr (pe_fnE U_check_line hr cxE_xf (pa_cons (pv 0) (pa_cons (pv 1) pa_nil)))) (pss_one (ps_ret (pe_bmK K PySem.F.plainAttrs_str PySem.F.slot_str_join PySem.F.type_str_join (mt_join K) (pe_tx (l:=[]) (by decide +kernel)) (pa_cons (pe_comp (own:=["sign"]) (sel:=[]) (compOk_of (osc:=(defScope d_turned)) (N:=["k","row"]) (by decide +kernel)) rfl (pi_revS rfl T.n_reversed (pa_cons (pv 1) pa_nil)) (fun _ _ _ _ _=>(pg_name (i:=0) (show(["sign"]:List Str).Nodup from by decide +kernel) rfl (Or.inl rfl))) (gk_name (by decide)) (fun _ _ _ _ _=>pif_nil) (fun _ _ _ _ _=>(pe_fn U_other_one hr (pa_cons (pv 0) pa_nil)))) pa_nil))))),?_⟩
  walk_at "go"
  exact .inr ⟨kv,v,rfl,g.pass (Same.refl H)⟩
 have hu:=hr.units0
 refine nox_ex ⟨_,(pss_cons (ps_expr (pe_fnE U_check_line hr xf_no (pa_cons (pv 0) (pa_cons (pv 1) pa_nil)))) (pss_one (ps_ret (pe_bmK K PySem.F.plainAttrs_str PySem.F.slot_str_join PySem.F.type_str_join (mt_join K) (pe_tx (l:=[]) (by decide +kernel)) (pa_cons (pe_comp (own:=["sign"]) (sel:=[]) (compOk_of (osc:=(defScope d_turned)) (N:=["k","row"]) (by decide +kernel)) rfl (pi_revS rfl T.n_reversed (pa_cons (pv 1) pa_nil)) (fun _ _ _ _ _=>(pg_name (i:=0) (show(["sign"]:List Str).Nodup from by decide +kernel) rfl (Or.inl rfl))) (gk_name (by decide)) (fun _ _ _ _ _=>pif_nil) (fun _ _ _ _ _=>(pe_fn U_other_one hr (pa_cons (pv 0) pa_nil)))) pa_nil))))),?_⟩
 have hl:=isRow_len ha
 walk_at "go"
 refine .inl (checkLine_use h1 h2 ha (fun H1 s1=>?_))
 walk_at "go"
 refine comp_rev (small (by omega)) (fun D i ys H'=>ys=(((a.reverse.take i).map fun c=>[oth c]).map tx)/\SameBut1 D H1 H') (fun D hD=>⟨rfl,SameBut1.of (same_new hD _)⟩) (fun D ys H' hD hD' ⟨e,sH⟩=>?_) ?_
 ·have el:a.reverse.take a.length=a.reverse:=by rw[<-List.length_reverse,List.take_length]
  rw[el]at e
  subst e
  walk_at "go"
  have ef:(a.reverse.map fun c=>[oth c]).flatten=trn a:=by
   have:=flat_ones (trn a)
   unfold trn at this⊢
   rw[List.map_map]at this
   exact this
  have hll:(trn a).length=a.length:=trn_len a
  refine s_join (SqL.of hD') (by rw[ef,List.length_map,List.length_reverse];omega) ?_
  rw[ef]
  exact q H' (s1.trans fun b o z=>sH b o z (ne_of_none z hD))
 ·rintro D i c ys H' hD ec hi hD' hl' ⟨e,sH⟩
  have hc:c∈a:=List.mem_reverse.mp (List.mem_of_getElem? ec)
  walk_at "go"
  refine iteT ?_
  walk_at "go"
  refine other_use (sgn9 (isRow_mem ha c hc)) ?_
  refine comp_next hi (small (by omega)) hD' hl' ⟨?_,sH.trans SameBut1.upd⟩
  rw[e,List.take_add_one,ec]
  simp only[Option.toList_some,List.map_append,List.map_cons,List.map_nil]
theorem sc_is_branch:FnScope ["k","thing"] ["k","thing"] (defScope d_is_branch):=⟨rfl,rfl,rfl,by decide +kernel,rfl,by decide +kernel,by decide +kernel⟩
theorem ok_is_branch(F:Fun K "is_branch" "is_branch" d_is_branch f fd)(T:Txt K mg aK cs)(U_is_whole:FnU P w K mg base k "is_whole" ["thing"] (spWhole K)):FnOk P w K mg base CX0 (k+1) f fd ["k","thing"] (spBranchD):=by
 refine F.ok sc_is_branch (fun vs H Q E h=>?_) (fun cdv A outer s H vs Q E hr h=>?_)
 ·obtain⟨kk,v,p,d,rfl,_⟩:=h;rfl
 obtain⟨kk,v,p,d,rfl,hd,q⟩:=h
 have hu:=hr.units0
 have q0:=q H (Same.refl _)
 refine⟨_,(pss_cons (ps_if (PW.pt (pw_or (pt_not (pt_tru K (pe_callB (call_isiA K) rfl T.n_isinstance PyProof.Rows.boot_isinstance (pa_cons (pv 1) (pa_cons (pe_ty T.n_tuple PyProof.Rows.boot_tuple) pa_nil))))) (pw_or1 (pt_cmpR (op_neA K hu) (pe_callB (call_lenA K) rfl T.n_len PySem.boot_len (pa_cons (pv 1) pa_nil)) pe_int (nomark _))))) (pss_one (ps_ret pe_bl)) pss_nil) (pss_one (ps_ret (pe_and (pe_fn U_is_whole hr (pa_cons (pe_ix (ix_A K) (pv 1) pe_int (fun _ _=>rfl)) pa_nil)) (pe_one (pe_chain op_le op_lt pe_int (pe_ix (ix_A K) (pv 1) pe_int (fun _ _=>rfl)) (pv 0))))))),?_⟩
 walk_at "go"
 refine s_isU hd ?_
 walk_at "go"
 cases hU:isU d with
 |false=>
  rw[isBr_U hU]at q0
  refine ifp rfl ?_
  walk_at "go"
  exact q0
 |true=>
  obtain⟨ds,rfl⟩:∃ds,d= .tuple ds:=by cases d<;>first|exact⟨_,rfl⟩|cases hU
  obtain⟨T1,xs,rfl,n1,g1,r1⟩:=tupI hd
  have hl:=(sds_get r1).1
  refine ifq rfl ?_
  walk_at "go"
  refine s_lenL (.inr (SqT.of g1)) ?_
  walk_at "go"
  by_cases h2:ds.length=2
  ·match ds,h2,r1 with
   |[a,x],_,r1=>
    obtain⟨u,w,rfl,da,dx⟩:=sds2 r1
    refine ifq rfl ?_
    walk_at "go"
    refine s_ixU (SqT.of g1) (show atI _ (0:Int)=some u from rfl) ?_
    walk_at "go"
    refine wholeD da ?_
    walk_at "go"
    cases hN:isN a with
    |false=>
     rw[isBr_N hN]at q0
     refine ifq rfl ?_
     walk_at "go"
     exact q0
    |true=>
     obtain⟨i,rfl⟩:∃i,a= .int i:=by cases a<;>first|exact⟨_,rfl⟩|cases hN
     have:=intI da
     subst this
     rw[isBr_I]at q0
     refine ifp rfl ?_
     walk_at "go"
     refine s_ixU (SqT.of g1) (show atI _ (0:Int)=some (.int i)from rfl) ?_
     walk_at "go"
     refine ifd (fun hc=>?_) (fun hc=>?_)
     ·walk_at "go"
      rw[decide_eq_true (show 0<=i by omega),Bool.true_and]at q0
      exact q0
     ·rw[decide_eq_false (show¬0<=i by omega),Bool.false_and]at q0
      walk_at "go"
      exact q0
  ·rw[isBr_len h2]at q0
   refine ifp (by rw[Bool.not_eq_true',decide_eq_false];omega) ?_
   walk_at "go"
   exact q0
theorem sc_is_tree:FnScope ["k","thing","waiting","many","tree","branch"] ["k","thing"] (defScope d_is_tree):=⟨rfl,rfl,rfl,by decide +kernel,rfl,by decide +kernel,by decide +kernel⟩
theorem ok_is_tree(F:Fun K "is_tree" "is_tree" d_is_tree f fd)(T:Txt K mg aK cs)(U_check_kinds:FnUE P w K mg base k "check_kinds" ["k"] (spKindsE K cs))(U_is_branch:FnU P w K mg base k "is_branch" ["k","thing"] (spBranchD)):FnOk P w K mg base (CXE P w) (k+1) f fd ["k","thing"] (spTreeE K cs):=by
 refine F.okE sc_is_tree (fun vs H Q E h=>?_) (fun cdv A outer s H vs Q E hr h=>?_)
 ·rcases h with⟨kk,v,p,d,rfl,_⟩|⟨kv,v,rfl,_⟩<;>rfl
 rcases h with⟨kk,v,p,d,rfl,k1,k4,hd,q⟩|⟨kv,v,rfl,hk,r⟩
 rotate_left
 ·refine⟨_,(pss_cons (ps_expr (pe_fnE U_check_kinds hr cxE_xf (pa_cons (pv 0) pa_nil))) (pss_cons (ps_set (i:=2) sc_is_tree.nd rfl (Or.inl rfl) (pe_lst (pa_cons (pv 1) pa_nil))) (pss_cons (ps_set (i:=3) sc_is_tree.nd rfl (Or.inl rfl) pe_int) (pss_cons (PS.nox (ps_while PassesOwn.never (pt_tru K (pv 2)) (pss_cons (ps_set (i:=4) sc_is_tree.nd rfl (Or.inl rfl) (pe_bm0K K PySem.F.plainAttrs_list PySem.F.slot_list_pop PySem.F.type_list_pop mt_pop (pv 2))) (pss_cons (ps_if (pt_not (pt_tru K (pe_callB (call_isiA K) rfl T.n_isinstance PyProof.Rows.boot_isinstance (pa_cons (pv 4) (pa_cons (pe_ty T.n_list PyProof.Rows.boot_list) pa_nil))))) (pss_one (ps_ret pe_bl)) pss_nil) (pss_cons (ps_aug (i:=3) sc_is_tree.nd rfl (Or.inl rfl) (pe_callB (call_lenA K) rfl T.n_len PySem.boot_len (pa_cons (pv 4) pa_nil)) ip_add) (pss_cons (ps_if (pt_cmpR op_gt (pv 3) (pe_gl T.g_MOST_TUPLES) (nomark _)) (pss_one (ps_ret pe_bl)) pss_nil) (pss_one (ps_for PassesOwn.never rfl (pi_listK K (pv 4)) (pg_name (i:=5) sc_is_tree.nd rfl (Or.inl rfl)) (pss_cons (ps_if (pt_not (pt_tru K (pe_fn U_is_branch hr (pa_cons (pv 0) (pa_cons (pv 5) pa_nil))))) (pss_one (ps_ret pe_bl)) pss_nil) (pss_one (ps_expr (pe_bmK K PySem.F.plainAttrs_list PySem.F.slot_list_append PySem.F.type_list_append mt_append (pv 2) (pa_cons (pe_ix (ix_A K) (pv 5) pe_int (fun _ _=>rfl)) pa_nil))))))))))))) (pss_one (ps_ret pe_bl)))))),?_⟩
  walk_at "go"
  exact .inr ⟨kv,rfl,hk,r.pass (Same.refl H)⟩
 have hu:=hr.units0
 refine nox_ex ⟨_,(pss_cons (ps_expr (pe_fnE U_check_kinds hr xf_no (pa_cons (pv 0) pa_nil))) (pss_cons (ps_set (i:=2) sc_is_tree.nd rfl (Or.inl rfl) (pe_lst (pa_cons (pv 1) pa_nil))) (pss_cons (ps_set (i:=3) sc_is_tree.nd rfl (Or.inl rfl) pe_int) (pss_cons (ps_while PassesOwn.never (pt_tru K (pv 2)) (pss_cons (ps_set (i:=4) sc_is_tree.nd rfl (Or.inl rfl) (pe_bm0K K PySem.F.plainAttrs_list PySem.F.slot_list_pop PySem.F.type_list_pop mt_pop (pv 2))) (pss_cons (ps_if (pt_not (pt_tru K (pe_callB (call_isiA K) rfl T.n_isinstance PyProof.Rows.boot_isinstance (pa_cons (pv 4) (pa_cons (pe_ty T.n_list PyProof.Rows.boot_list) pa_nil))))) (pss_one (ps_ret pe_bl)) pss_nil) (pss_cons (ps_aug (i:=3) sc_is_tree.nd rfl (Or.inl rfl) (pe_callB (call_lenA K) rfl T.n_len PySem.boot_len (pa_cons (pv 4) pa_nil)) ip_add) (pss_cons (ps_if (pt_cmpR op_gt (pv 3) (pe_gl T.g_MOST_TUPLES) (nomark _)) (pss_one (ps_ret pe_bl)) pss_nil) (pss_one (ps_for PassesOwn.never rfl (pi_listK K (pv 4)) (pg_name (i:=5) sc_is_tree.nd rfl (Or.inl rfl)) (pss_cons (ps_if (pt_not (pt_tru K (pe_fn U_is_branch hr (pa_cons (pv 0) (pa_cons (pv 5) pa_nil))))) (pss_one (ps_ret pe_bl)) pss_nil) (pss_one (ps_expr (pe_bmK K PySem.F.plainAttrs_list PySem.F.slot_list_append PySem.F.type_list_append mt_append (pv 2) (pa_cons (pe_ix (ix_A K) (pv 5) pe_int (fun _ _=>rfl)) pa_nil)))))))))))) (pss_one (ps_ret pe_bl)))))),?_⟩
 walk_at "go"
 refine .inl (kinds_use k1 k4 ?_)
 walk_at "go"
 refine⟨small (show 1<=1000 by decide),fun W hW=>?_⟩
 have t1:=same_new hW (.lst [v])
 have g1:(upd H W (.lst [v])) W=some (.lst [v]):=upd_same
 have tW:=(sd_free hW hd).same t1
 generalize upd H W _=H1 at*
 have no:∀ {n:Nat} {L:List PyData} {G:Hp},(TreeD kk d↔TsD kk n L)->¬TsD kk n L->Same H G->Q (.bl false) G:=fun hi hn sG=>q false _ sG ⟨fun z=>(nomatch z),fun z=>(hn (hi.mp z)).elim⟩
 walk_at "go"
 refine while_of (fun σ H'=>∃ (vs:List V) (L:List PyData) (n:Nat) (o4 o5:Option V),σ=[some (.int kk),some v,some (.ref W),some (.int (n:Int)),o4,o5]/\H' W=some (.lst vs)/\Sds W H' vs L/\n<=20/\vs.length<=n+1/\(TreeD kk d↔TsD kk n L)/\Same H H')
  (fun σ H'=>match σ,H' W with|[_,_,_,some (.int n),_,_],some (.lst vs)=>2*(20-n.toNat)+vs.length|_,_=>0)
  ⟨[v],[d],0,_,_,rfl,g1, .cons tW .nil,by omega,by simp,ts_one.symm,t1⟩ ?_
 rintro σ H2 ⟨vs,L,n,o4,o5,rfl,g2,wt,hn,hvl,hiff,s2⟩
 walk_at "go"
 refine s_truL (SqL.of g2) ?_
 by_cases hv:vs=[]
 ·subst hv
  cases wt
  refine ifq rfl ?_
  walk_at "go"
  exact q true H2 s2 ⟨fun _=>hiff.mpr ⟨[],rfl,fun t h=>(nomatch h),by simp[szs];omega⟩,fun _=>rfl⟩
 obtain⟨vs',v1,L',u,rfl,rfl,wt',tu⟩:=sds_last wt hv
 refine ifp (by simp) (wh_body ?_)
 have hvl':vs'.length<=n:=by simp at hvl;omega
 walk_at "go"
 refine⟨.inl ⟨rfl,_,SqL.of g2⟩,?_⟩
 walk_at "go"
 refine⟨W,_,v1,rfl,rfl,g2,by simp,?_⟩
 rw[List.dropLast_concat]
 have t3:SameBut1 W H2 (upd H2 W (.lst vs')):=fun b o hb nb=>by rw[upd_ne nb];exact hb
 have g3:(upd H2 W (.lst vs')) W=some (.lst vs'):=upd_same
 have wt3:=wt'.keep t3
 have tu3:=tu.keep t3
 have s3:Same H (upd H2 W (.lst vs')):=fun b o hb=>t3 _ _ (s2 _ _ hb) (ne_of_none hb hW)
 generalize upd H2 W _=H3 at*
 walk_at "go"
 refine s_isL tu3 ?_
 walk_at "go"
 cases hL:isL u with
 |false=>
  refine ifp rfl ?_
  walk_at "go"
  exact no hiff (ts_noL hL) s3
 |true=>
  obtain⟨us,rfl⟩:∃us,u= .list us:=by cases u<;>first|exact⟨_,rfl⟩|cases hL
  obtain⟨ta,tv,rfl,na,ga,kd⟩:=lstI tu3
  have hkl:=(sds_get kd).1
  refine ifq rfl ?_
  walk_at "go"
  refine s_lenL (.inl (SqL.of ga)) ?_
  walk_at "go"
  refine ifd (fun hc=>?_) (fun hc=>?_)
  ·walk_at "go"
   exact no hiff (ts_over (by rw[<-hkl];omega)) s3
  walk_at "go"
  refine⟨ta,rfl,⟨_,SqL.of ga⟩,?_⟩
  refine for_lst (xs:=tv) (fun i σ H'=>∃ (ws:List V) (o5:Option V),σ=[some (.int kk),some v,some (.ref W),some (.int ((n:Int)+(tv.length:Int))),some (.ref ta),o5]/\H' W=some (.lst ws)/\Sds W H' ws (L'++(us.take i).map sec)/\SameBut1 W H3 H'/\∀x∈us.take i,isBr kk x=true) ⟨vs',_,rfl,g3,by simpa using wt3,SameBut1.refl _ _,fun x hx=>by simp at hx⟩ (fun i σ H' _ ⟨ws,o5,_,_,_,sb,_⟩=>SqL.of (sb _ _ ga na)) ?_ ?_
  rotate_left
  ·rintro σ H4 ⟨ws,o5',rfl,g4,wt4,s4,h4⟩
   rw[hkl,List.take_length]at wt4 h4
   have hwl:=(sds_get wt4).1
   have hwl':=(sds_get wt').1
   rw[List.length_append,List.length_map,<-hwl',<-hkl]at hwl
   refine⟨⟨ws,_,n+tv.length,_,_,by rw[Int.natCast_add],g4,wt4,by omega,by omega,by rw[hkl,<-ts_step k1 h4];exact hiff,fun b o hb=>s4 _ _ (s3 _ _ hb) (ne_of_none hb hW)⟩,?_⟩
   simp only[g4,g2,List.length_append,List.length_singleton]
   omega
  rintro i x σ H4 hx ⟨ws,o5',rfl,g4,wt4,s4,h4⟩
  have hm:i<us.length:=by rw[<-hkl];exact(List.getElem?_eq_some_iff.mp hx).1
  obtain⟨y,hy⟩:∃y,us[i]? =some y:=⟨_,List.getElem?_eq_getElem hm⟩
  obtain⟨x',e1,dy⟩:=(sds_get kd).2 i y hy
  rw[hx]at e1
  cases e1
  have hmem:=List.mem_of_getElem? hy
  have dy4:=dy.keep s4
  walk_at "go"
  refine⟨kk,x,W,y,rfl,dy4,fun H5 s5=>?_⟩
  walk_at "go"
  have s05:Same H H5:=fun b o hb=>s5 _ _ (s4 _ _ (s3 _ _ hb) (ne_of_none hb hW))
  have hwl:=(sds_get wt4).1
  have hwl':=(sds_get wt').1
  rw[List.length_append,List.length_map,List.length_take,<-hwl']at hwl
  cases hB:isBr kk y with
  |false=>
   refine ifp rfl ?_
   walk_at "go"
   exact no hiff (ts_noB hmem hB) s05
  |true=>
   obtain⟨c,z,rfl,hc2⟩:=br_inv hB
   obtain⟨T6,xs6,rfl,n6,g6,r6⟩:=tupI (dy4.same s5)
   obtain⟨u6,w6,rfl,d6,e6⟩:=sds2 r6
   refine ifq rfl ?_
   walk_at "go"
   have g5:=s5 _ _ g4
   refine⟨.inl ⟨rfl,_,SqL.of g5⟩,?_⟩
   walk_at "go"
   refine s_ixU (SqT.of g6) (show atI _ (1:Int)=some w6 from rfl) ?_
   walk_at "go"
   refine⟨W,_,_,rfl,rfl,g5,small1000 (by omega),?_⟩
   have t6:SameBut1 W H5 (upd H5 W (.lst (ws++[w6]))):=fun b o hb nb=>by rw[upd_ne nb];exact hb
   have s46:SameBut1 W H4 (upd H5 W (.lst (ws++[w6]))):=fun b o hb nb=>t6 _ _ (s5 _ _ hb) nb
   refine⟨_,_,rfl,upd_same,?_,s4.trans s46,fun x hx=>?_⟩
   ·rw[List.take_add_one,hy,List.map_append,<-List.append_assoc]
    exact sds_snoc (e6.keep t6) (wt4.keep s46)
   ·rw[List.take_add_one,hy,List.mem_append]at hx
    rcases hx with z|z
    ·exact h4 x z
    ·simp at z
     subst z
     exact hB
theorem sc_tree_between:FnScope ["row","ends","start","stop","tree","end"] ["row","ends","start","stop"] (defScope d_tree_between):=⟨rfl,rfl,rfl,by decide +kernel,rfl,by decide +kernel,by decide +kernel⟩
theorem ok_tree_between(n:Nat)(F:Fun K "tree_between" "tree_between" d_tree_between f fd)(T:Txt K mg aK cs)(U_tree_between:FnU P w K mg base k "tree_between" ["row","ends","start","stop"] (recSp gBetween n)):FnOk P w K mg base CX0 (k+1) f fd ["row","ends","start","stop"] (gBetween n):=by
 refine F.ok sc_tree_between (fun vs H Q E h=>?_) (fun cdv A outer s H vs Q E hr h=>?_)
 ·obtain⟨bs,pre,post,r,xs,t,rfl,_⟩:=h;rfl
 obtain⟨bs,pre,post,r,xs,t,rfl,gr,hP,hb,hg,hl,hht,q⟩:=h
 have hu:=hr.units0
 refine⟨_,(pss_cons (ps_set (i:=4) sc_tree_between.nd rfl (Or.inl rfl) (pe_lst pa_nil)) (pss_cons (ps_while PassesOwn.never (pt_cmpR op_lt (pv 2) (pv 3) (nomark _)) (pss_cons (ps_set (i:=5) sc_tree_between.nd rfl (Or.inl rfl) (pe_ix (ix_A K) (pv 1) (pv 2) (fun _ _=>rfl))) (pss_cons (ps_expr (pe_bmK K PySem.F.plainAttrs_list PySem.F.slot_list_append PySem.F.type_list_append mt_append (pv 4) (pa_cons (pe_tup (pa_cons (pe_bmK K PySem.F.plainAttrs_str PySem.F.slot_str_index PySem.F.type_str_index mt_index (pe_gl T.g_OPENING) (pa_cons (pe_ix (ix_A K) (pv 0) (pv 2) (fun _ _=>rfl)) pa_nil)) (pa_cons (pe_fn U_tree_between hr (pa_cons (pv 0) (pa_cons (pv 1) (pa_cons (pe_op op_plus (pv 2) pe_int) (pa_cons (pv 5) pa_nil))))) pa_nil))) pa_nil))) (pss_one (ps_set (i:=2) sc_tree_between.nd rfl (Or.inl rfl) (pe_op op_plus (pv 5) pe_int)))))) (pss_one (ps_ret (pv 4))))),?_⟩
 walk_at "go"
 refine⟨small (show 0<=1000 by decide),fun D hD=>?_⟩
 have t1:=same_new hD (.lst [])
 have g1:(upd H D (.lst [])) D=some (.lst []):=upd_same
 have hbl:(brt bs).length<=40:=by rw[brt_len];exact hl
 generalize upd H D _=H1 at*
 walk_at "go"
 refine while_of (fun σ H'=>∃ (t1 t2:Tr) (ys:List V) (o5:Option V),σ=[some (tx (brt bs)),some (.ref r),some (.int ((pre.length+2*t1.sz:Nat):Int)),some (.int ((pre.length+2*t.sz:Nat):Int)),some (.ref D),o5]/\t=t1.app t2/\H' D=some (.lst ys)/\Kn H D H' ys t1.kids/\Same H H')
  (fun σ _=>match σ with|[_,_,some (.int st),_,_,_]=>pre.length+2*t.sz-st.toNat|_=>0)
  ⟨.nil,t,[],_,rfl,rfl,g1,kn_nil _ _ _,t1⟩ ?_
 rintro σ H2 ⟨ta,tb,ys,o5,rfl,ht,g2,kn,s2⟩
 have hsz:t.sz=ta.sz+tb.sz:=by rw[ht,sz_app]
 have hbl2:=bs_len t
 have hblen:pre.length+2*t.sz<=40:=by rw[hb,List.length_append,List.length_append,hbl2]at hl;omega
 walk_at "go"
 refine ifd (fun hc=>?_) (fun hc=>?_)
 ·refine wh_body ?_
  cases tb with
  |nil=>simp only[Tr.sz]at hsz;omega
  |cons k u w=>
   have hgk:k<4/\u.gr<4:=by rw[ht,gr_app]at hg;simp only[Tr.gr]at hg;omega
   have huh:u.ht<n:=by rw[ht,ht_app]at hht;simp only[Tr.ht]at hht;omega
   obtain⟨n',rfl⟩:∃m,n=m+1:=⟨n-1,by omega⟩
   have hul:=bs_len u
   have hb1:bs=(pre++ta.bs)++2*k::(u.bs++(2*k+1)::(w.bs++post)):=by rw[hb,ht,bs_app,Tr.bs];simp
   have hpl:(pre++ta.bs).length=pre.length+2*ta.sz:=by rw[List.length_append,bs_len]
   have hend:=part_at hP hgk.1 hb1 (bs_rg hgk.2)
   rw[hpl,hul]at hend
   have hat:(brt bs)[pre.length+2*ta.sz]? =some (brs.getD (2*k) 0):=by
    unfold brt
    rw[List.getElem?_map,hb1,<-hpl,List.getElem?_append_right (Nat.le_refl _),Nat.sub_self];rfl
   simp only[Tr.sz]at hsz
   walk_at "go"
   refine s_ixL (SqL.of (s2 _ _ gr)) (atI_nat hend) ?_
   walk_at "go"
   refine⟨.inl ⟨rfl,_,SqL.of g2⟩,?_⟩
   walk_at "go"
   refine s_ixT (small (by omega)) (atI_nat hat) ?_
   walk_at "go"
   refine s_idx (op_idx hgk.1) ?_
   walk_at "go"
   refine⟨bs,pre++ta.bs++[2*k],(2*k+1)::(w.bs++post),r,xs,u,?_,s2 _ _ gr,hP,by rw[hb1];simp,hgk.2,hl,by omega,fun D2 H5 hD2 s5 tD2=>?_⟩
   ·rw[List.length_append,hpl,List.length_singleton]
    rfl
   walk_at "go"
   refine⟨small (show 2<=1000 by decide),fun T2 hT2=>?_⟩
   have t6:=same_new hT2 (.tup [.int (k:Int), .ref D2])
   have g6:(upd H5 T2 (.tup [.int (k:Int), .ref D2])) T2=_:=upd_same
   have s46:=s5.trans t6
   have hy6:=s46 _ _ g2
   have tD6:∀p,(∃o,H2 p=some o)->TrH p _ (.ref D2) u:=fun p hp=>(tD2 p hp).same t6
   have hT4:H2 T2=none:=free_of s5 hT2
   generalize upd H5 T2 _=H6 at*
   walk_at "go"
   have hyl:ys.length=ta.kids.length:=kn.1.1
   have hkl:=kids_len ta
   refine⟨D,_,_,rfl,rfl,hy6,small1000 (by omega),?_⟩
   walk_at "go"
   have e7:(((pre.length+2*ta.sz+1+2*u.sz:Nat):Int)+1)=((pre.length+2*(ta.app (.cons k u .nil)).sz:Nat):Int):=by
    rw[sz_app];simp only[Tr.sz];omega
   refine⟨⟨ta.app (.cons k u .nil),w,ys++[.ref T2],some (.int ((pre.length+2*ta.sz+1+2*u.sz:Nat):Int)),by rw[<-e7];rfl,by rw[ht,app_step],upd_same,?_,fun b o hb=>by rw[upd_ne (ne_of_none hb hD)];exact s46 _ _ (s2 _ _ hb)⟩,?_⟩
   ·rw[kids_app]
    exact kn.more s2 s46 (fun b o hb nb=>by rw[upd_ne nb];exact hb) hT4 ⟨_,g2⟩ g6 tD6
   ·show pre.length+2*t.sz-((((pre.length+2*ta.sz+1+2*u.sz:Nat)):Int)+1).toNat<pre.length+2*t.sz-(((pre.length+2*ta.sz:Nat)):Int).toNat
    omega
 ·have hz:tb.sz=0:=by omega
  cases tb with
  |nil=>
   rw[app_nil]at ht
   subst ht
   walk_at "go"
   exact q D H2 hD s2 fun p ⟨o,hp⟩=>Kd.close g2 (fun z=>by rw[z,hp]at hD;cases hD) (kn.2 p ⟨o,hp⟩)
  |cons k u w=>simp only[Tr.sz]at hz;omega
theorem sc_tree_of:FnScope ["k","row","ends"] ["k","row"] (defScope d_tree_of):=⟨rfl,rfl,rfl,by decide +kernel,rfl,by decide +kernel,by decide +kernel⟩
theorem ok_tree_of(F:Fun K "tree_of" "tree_of" d_tree_of f fd)(T:Txt K mg aK cs)(U_partners:FnUE P w K mg base k "partners" ["k","row"] (spPartnersE K cs))(U_tree_between:FnU P w K mg base k "tree_between" ["row","ends","start","stop"] (recSp gBetween 22)):FnOk P w K mg base (CXE P w) (k+1) f fd ["k","row"] (spRtE K cs rTre):=by
 refine F.okE sc_tree_of (fun vs H Q E h=>?_) (fun cdv A outer s H vs Q E hr h=>?_)
 ·obtain⟨kv,v,rfl,_⟩:=h;rfl
 obtain⟨kv,v,rfl,g|⟨kk,a,rfl,rfl,h1,h2,ha,⟨hR,q⟩|⟨hn,r⟩⟩⟩:=h
 ·refine⟨_,(pss_cons (ps_set (i:=2) sc_tree_of.nd rfl (Or.inl rfl) (pe_fnE U_partners hr cxE_xf (pa_cons (pv 0) (pa_cons (pv 1) pa_nil)))) (pss_one (ps_ret (pe_fn U_tree_between hr (pa_cons (pv 1) (pa_cons (pv 2) (pa_cons pe_int (pa_cons (pe_callB (call_lenA K) rfl T.n_len PySem.boot_len (pa_cons (pv 1) pa_nil)) pa_nil)))))))),?_⟩
  walk_at "go"
  exact⟨kv,v,rfl, .inl (g.pass (Same.refl H))⟩
 rotate_left
 ·refine⟨_,(pss_cons (ps_set (i:=2) sc_tree_of.nd rfl (Or.inl rfl) (pe_fnE U_partners hr cxE_xf (pa_cons (pv 0) (pa_cons (pv 1) pa_nil)))) (pss_one (ps_ret (pe_fn U_tree_between hr (pa_cons (pv 1) (pa_cons (pv 2) (pa_cons pe_int (pa_cons (pe_callB (call_lenA K) rfl T.n_len PySem.boot_len (pa_cons (pv 1) pa_nil)) pa_nil)))))))),?_⟩
  walk_at "go"
  exact⟨_,_,rfl, .inr ⟨kk,a,rfl,rfl,h1,h2,ha, .inr ⟨hn,r.pass (Same.refl H)⟩⟩⟩
 have hu:=hr.units0
 obtain⟨t,rfl,hg,hsz,q⟩:=q
 have hg4:t.gr<4:=by omega
 have hbl:=bs_len t
 refine nox_ex ⟨_,(pss_cons (ps_set (i:=2) sc_tree_of.nd rfl (Or.inl rfl) (pe_fnE U_partners hr xf_no (pa_cons (pv 0) (pa_cons (pv 1) pa_nil)))) (pss_one (ps_ret (pe_fn U_tree_between hr (pa_cons (pv 1) (pa_cons (pv 2) (pa_cons pe_int (pa_cons (pe_callB (call_lenA K) rfl T.n_len PySem.boot_len (pa_cons (pv 1) pa_nil)) pa_nil)))))))),?_⟩
 walk_at "go"
 refine⟨_,_,rfl, .inr ⟨kk,_,rfl,rfl,h1,h2,ha, .inl ⟨hR,fun r xs H1 hr1 s1 hxs hP=>?_⟩⟩⟩
 walk_at "go"
 refine s_lenT (small (by rw[brt_len];omega)) ?_
 walk_at "go"
 refine⟨t.bs,[],[],r,xs,t,?_,hxs,hP,by simp,hg4,by omega,Nat.le_trans (ht_sz t) (Nat.le_trans hsz (by decide)),fun D H2 hD s2 tD=>?_⟩
 ·rw[brt_len,hbl,List.length_nil,Nat.zero_add];rfl
 exact q D H2 (free_of s1 hD) (s1.trans s2) fun p ⟨o,hp⟩=>tD p ⟨o,s1 _ _ hp⟩
theorem sc_written:FnScope ["tree"] ["tree"] (defScope d_written):=⟨rfl,rfl,rfl,by decide +kernel,rfl,by decide +kernel,by decide +kernel⟩
theorem ok_written(n:Nat)(F:Fun K "written" "written" d_written f fd)(T:Txt K mg aK cs)(U_written:FnU P w K mg base k "written" ["tree"] (recSp gWritten n)):FnOk P w K mg base CX0 (k+1) f fd ["tree"] (gWritten n):=by
 refine F.ok sc_written (fun vs H Q E h=>?_) (fun cdv A outer s H vs Q E hr h=>?_)
 ·obtain⟨v,p,t,rfl,_⟩:=h;rfl
 obtain⟨v,p,t,rfl,ti,hg,q⟩:=h
 obtain⟨ta,tv,rfl,na,ga,kd⟩:=ti.2.1.open
 have hkl:t.kids.length<=20:=Nat.le_trans (kids_len t) ti.2.2.1
 refine⟨_,(pss_one (ps_ret (pe_bmK K PySem.F.plainAttrs_str PySem.F.slot_str_join PySem.F.type_str_join (mt_join K) (pe_tx (l:=[]) (by decide +kernel)) (pa_cons (pe_comp (own:=["kind","within"]) (sel:=[]) (compOk_of (osc:=(defScope d_written)) (N:=["tree"]) (by decide +kernel)) rfl (pi_listK K (pv 0)) (fun _ _ _ _ _=>(pg_tupK (n:=2) K rfl (pgs_cons (pg_name (i:=0) (show(["kind","within"]:List Str).Nodup from by decide +kernel) rfl (Or.inl rfl)) (pgs_cons (pg_name (i:=1) (show(["kind","within"]:List Str).Nodup from by decide +kernel) rfl (Or.inl rfl)) pgs_nil)))) (gk_tup (gk_cons gm_name (gm_cons gm_name gm_nil) (gk_name (by decide)) (gk_cons gm_name gm_nil (gk_name (by decide)) gk_nil))) (fun _ _ _ _ _=>pif_nil) (fun _ _ _ _ _=>(pe_op op_plus (pe_op op_plus (pe_ix (ix_A K) (pe_gl T.g_OPENING) (pv 0) (fun _ _=>rfl)) (pe_fn U_written hr (pa_cons (pv 1) pa_nil))) (pe_ix (ix_A K) (pe_gl T.g_CLOSING) (pv 0) (fun _ _=>rfl))))) pa_nil)))),?_⟩
 walk_at "go"
 refine⟨ta,rfl,⟨_,SqL.of ga⟩,?_⟩
 refine yes_lst (xs:=tv) (by rw[kd.1,sizeLine_eq];omega) ga (fun j ys=>ys=((t.kids.take j).map fun x=>brt (2*x.1::(x.2.bs++[2*x.1+1]))).map tx) rfl ?_ ?_
 rotate_left
 ·rintro m x ys H2 R hx hyl s2 e rr
  have hm:m<t.kids.length:=by rw[<-kd.1];exact(List.getElem?_eq_some_iff.mp hx).1
  obtain⟨y,hy⟩:∃y,t.kids[m]? =some y:=⟨_,List.getElem?_eq_getElem hm⟩
  obtain⟨T,b,e1,nT,gT,tb⟩:=kd.2 m y hy
  rw[hx]at e1
  cases e1
  have hmem:=List.mem_of_getElem? hy
  obtain⟨n',rfl⟩:=ti.pos hmem
  have hkh:=kid_ht hmem
  have hbl:=bs_len y.2
  have h20:=ti.2.2.1
  walk_at "go"
  refine⟨T,_,rfl,SqT.of (s2 _ _ gT),rfl,?_⟩
  walk_at "go"
  refine s_ixT (small (by decide)) (op_at (k:=y.1) (by omega)) ?_
  walk_at "go"
  refine⟨.ref b,p,y.2,rfl,ti.kid hmem s2 (tb.same s2),by omega,fun H3 s3=>?_⟩
  walk_at "go"
  refine s_addT (small (by rw[brt_len,List.length_singleton];omega)) ?_
  walk_at "go"
  refine s_ixT (small (by decide)) (cl_at (k:=y.1) (by omega)) ?_
  walk_at "go"
  refine s_addT (small (by rw[List.length_append,brt_len,List.length_singleton,List.length_singleton];omega)) ?_
  refine rr _ _ s3 ?_
  rw[e,List.take_add_one,hy,List.map_append,List.map_append,brt_in]
  rfl
 rintro D ys H2 hD gD hyl s2 e
 rw[kd.1,List.take_length]at e
 subst e
 walk_at "go"
 have hbl:=bs_len t
 have h20:=ti.2.2.1
 refine s_join (SqL.of gD) (by rw[brt_kids,List.length_map,brt_len];omega) ?_
 rw[brt_kids]
 exact q H2 s2
theorem sc_row_of_tree:FnScope ["k","tree"] ["k","tree"] (defScope d_row_of_tree):=⟨rfl,rfl,rfl,by decide +kernel,rfl,by decide +kernel,by decide +kernel⟩
theorem ok_row_of_tree(F:Fun K "row_of_tree" "row_of_tree" d_row_of_tree f fd)(T:Txt K mg aK cs)(U_written:FnU P w K mg base k "written" ["tree"] (recSp gWritten 22))(U_is_tree:FnUE P w K mg base k "is_tree" ["k","thing"] (spTreeE K cs)):FnOk P w K mg base (CXE P w) (k+1) f fd ["k","tree"] (spRowOfE K cs):=by
 refine F.okE sc_row_of_tree (fun vs H Q E h=>?_) (fun cdv A outer s H vs Q E hr h=>?_)
 ·obtain⟨kv,v,rfl,_⟩:=h;rfl
 obtain⟨kv,v,rfl,⟨hk,r⟩|⟨kk,p,d,rfl,k1,k4,hp,hd,⟨t,rfl,hg,hsz,q⟩|⟨hn,r⟩⟩⟩:=h
 ·refine⟨_,(pss_cons (ps_if (pt_not (pt_tru K (pe_fnE U_is_tree hr cxE_xf (pa_cons (pv 0) (pa_cons (pv 1) pa_nil))))) (pss_one (ps_raise T.e_NoTree T.c_NoTree hr.hd cxE_xm (pa_cons (pe_tx (l:=[97,32,116,114,101,101,32,105,115,32,97,32,108,105,115,116,32,111,102,32,97,116,32,109,111,115,116,32,116,119,101,110,116,121,32,116,117,112,108,101,115,32,105,110,32,97,108,108,44,32,101,97,99,104,32,97,32,107,105,110,100,32,97,110,100,32,97,32,116,114,101,101]) (by decide +kernel)) pa_nil))) pss_nil) (pss_one (ps_ret (pe_fn U_written hr (pa_cons (pv 1) pa_nil))))),?_⟩
  walk_at "go"
  exact .inr ⟨kv,v,rfl,hk,r.pass (Same.refl H)⟩
 ·refine nox_ex ⟨_,(pss_cons (ps_if (pt_not (pt_tru K (pe_fnE U_is_tree hr xf_no (pa_cons (pv 0) (pa_cons (pv 1) pa_nil))))) (pss_one ps_never) pss_nil) (pss_one (ps_ret (pe_fn U_written hr (pa_cons (pv 1) pa_nil))))),?_⟩
  walk_at "go"
  refine .inl ⟨kk,v,p,_,rfl,k1,k4,hd,fun b H1 s1 hb=>?_⟩
  obtain rfl:b=true:=hb.mpr ⟨t,rfl,hg,hsz⟩
  walk_at "go"
  refine ifq rfl ?_
  walk_at "go"
  obtain⟨o,ho⟩:=hp
  refine⟨v,p,t,rfl,⟨⟨o,s1 _ _ ho⟩,hd.same s1,hsz,Nat.le_trans (ht_sz t) (Nat.le_trans hsz (by decide))⟩,by omega,fun H2 s2=>?_⟩
  exact q H2 (s1.trans s2)
 ·refine⟨_,(pss_cons (ps_if (pt_not (pt_tru K (pe_fnE U_is_tree hr cxE_xf (pa_cons (pv 0) (pa_cons (pv 1) pa_nil))))) (pss_one (ps_raise T.e_NoTree T.c_NoTree hr.hd cxE_xm (pa_cons (pe_tx (l:=[97,32,116,114,101,101,32,105,115,32,97,32,108,105,115,116,32,111,102,32,97,116,32,109,111,115,116,32,116,119,101,110,116,121,32,116,117,112,108,101,115,32,105,110,32,97,108,108,44,32,101,97,99,104,32,97,32,107,105,110,100,32,97,110,100,32,97,32,116,114,101,101]) (by decide +kernel)) pa_nil))) pss_nil) (pss_one (ps_ret (pe_fn U_written hr (pa_cons (pv 1) pa_nil))))),?_⟩
  walk_at "go"
  refine .inl ⟨kk,v,p,_,rfl,k1,k4,hd,fun b H1 s1 hb=>?_⟩
  obtain rfl:b=false:=by
   cases b with
   |false=>rfl
   |true=>exact(hn (hb.mp rfl)).elim
  walk_at "go"
  refine ifp rfl ?_
  walk_at "go"
  exact⟨small (by decide),fun y hy=>r y H1 s1 (s1.free hy)⟩
theorem sc_law_pool:FnScope ["script","k","cell"] ["script","k"] (defScope d_law_pool):=⟨rfl,rfl,rfl,by decide +kernel,rfl,by decide +kernel,by decide +kernel⟩
theorem ok_law_pool(F:Fun K "_law_pool" "_law_pool" d_law_pool f fd)(T:Txt K mg aK cs):FnOk P w K mg base CX0 (k+1) f fd ["script","k"] (spPool K):=by
 refine F.ok sc_law_pool (fun vs H Q E h=>?_) (fun cdv A outer s H vs Q E hr h=>?_)
 ·obtain⟨a,ns,k,rfl,_⟩:=h;rfl
 obtain⟨a,ns,k,rfl,hS,h63,h0,hk,q⟩:=h
 have hu:=hr.units0
 have fin:∀cell:Int,(tSeq (tIfS (tTest (tOp (rI0 fun i j=>V.bl (decide (j<=i))) (tVar 2) (tOp (rI CPow fun i j=>V.int (i^j.toNat)) (tC (V.int 10)) (tC (V.int 18)))))
  (tRet (tLst (tCons (tOp (rI0 fun i j=>V.int (i-j)) (tVar 2) (tOp (rI CPow fun i j=>V.int (i^j.toNat)) (tC (V.int 10)) (tC (V.int 18)))) (tCons (tC (V.int 1)) (tCons (tC (V.int 0)) tNil))))) tNext)
  (tRet (tLst (tCons (tVar 2) (tCons (tC (V.int 0)) (tCons (tOp rTimes (tC (V.int 73)) (tVar 1)) tNil)))))) {nx:=fun _ H'=>Q .non H',rt:=Q} [some (.ref a),some (.int k),some (.int cell)] H:=by
  intro cell
  walk_at "go"
  refine ifd (fun c=>?_) (fun c=>?_)
  ·walk_at "go"
   refine⟨small (show 3<=1000 by decide),fun p hp=>?_⟩
   exact q p _ hp (same_new hp _) (pool_new (by decide) (by decide))
  ·walk_at "go"
   refine⟨small (show 3<=1000 by decide),fun p hp=>?_⟩
   exact q p _ hp (same_new hp _) (pool_new (by omega) (by omega))
 refine⟨_,(pss_cons (ps_set (i:=2) sc_law_pool.nd rfl (Or.inl rfl) pe_int) (pss_cons (ps_if (pt_cmpR op_lt (pv 1) (pe_callB (call_lenA K) rfl T.n_len PySem.boot_len (pa_cons (pv 0) pa_nil)) (nomark _)) (pss_one (ps_set (i:=2) sc_law_pool.nd rfl (Or.inl rfl) (pe_ix (ix_A K) (pv 0) (pv 1) (fun _ _=>rfl)))) pss_nil) (pss_cons (ps_if (pt_cmpR op_ge (pv 2) (pe_op op_pow pe_int pe_int) (nomark _)) (pss_one (ps_ret (pe_lst (pa_cons (pe_op op_sub (pv 2) (pe_op op_pow pe_int pe_int)) (pa_cons pe_int (pa_cons pe_int pa_nil)))))) pss_nil) (pss_one (ps_ret (pe_lst (pa_cons (pv 2) (pa_cons pe_int (pa_cons (pe_op op_times pe_int (pv 1)) pa_nil))))))))),?_⟩
 walk_at "go"
 refine s_lenL (.inl hS) ?_
 walk_at "go"
 refine ifd (fun c=>?_) (fun c=>?_)
 ·rw[List.length_map]at c
  obtain⟨v,hv⟩:=atI_ints (ns:=ns) h0 c
  walk_at "go"
  refine s_ixL hS hv ?_
  walk_at "st"
  exact fin v
 ·walk_at "st"
  exact fin 0
theorem sc_law_take:FnScope ["pool","many","found","step","mark"] ["pool","many"] (defScope d_law_take):=⟨rfl,rfl,rfl,by decide +kernel,rfl,by decide +kernel,by decide +kernel⟩
theorem ok_law_take(F:Fun K "_law_take" "_law_take" d_law_take f fd)(T:Txt K mg aK cs):FnOk P w K mg base CX0 (k+1) f fd ["pool","many"] (spTake):=by
 refine F.ok sc_law_take (fun vs H Q E h=>?_) (fun cdv A outer s H vs Q E hr h=>?_)
 ·obtain⟨p,n,m,rfl,_⟩:=h;rfl
 obtain⟨p,n,m,rfl,⟨a,b,c,hp,h0,hc⟩,hn,hm0,hm1,q⟩:=h
 have hu:=hr.units0
 have hS:SqL K H p [.int a, .int b, .int c]:=SqL.of hp
 refine⟨_,(pss_cons (ps_if (pt_cmpR (op_eqA K hu) (pe_ix (ix_A K) (pv 0) pe_int (fun _ _=>rfl)) pe_int (nomark _)) (pss_cons (ps_set (i:=2) sc_law_take.nd rfl (Or.inl rfl) (pe_op op_mod (pe_ix (ix_A K) (pv 0) pe_int (fun _ _=>rfl)) (pv 1))) (pss_cons (ps_asg (pe_op op_fdiv (pe_ix (ix_A K) (pv 0) pe_int (fun _ _=>rfl)) (pv 1)) (pg_sub (pv 0) pe_int set_list)) (pss_one (ps_ret (pv 2))))) pss_nil) (pss_cons (ps_asg (pe_op op_plus (pe_ix (ix_A K) (pv 0) pe_int (fun _ _=>rfl)) pe_int) (pg_sub (pv 0) pe_int set_list)) (pss_cons (ps_set (i:=3) sc_law_take.nd rfl (Or.inl rfl) (pe_ix (ix_A K) (pv 0) pe_int (fun _ _=>rfl))) (pss_cons (ps_set (i:=4) sc_law_take.nd rfl (Or.inl rfl) (pe_op op_times (pe_op op_plus (pe_op op_mod (pe_ix (ix_A K) (pv 0) pe_int (fun _ _=>rfl)) pe_int) pe_int) (pe_op op_plus (pe_op op_times pe_int (pv 3)) pe_int))) (pss_cons (ps_set (i:=4) sc_law_take.nd rfl (Or.inl rfl) (pe_op op_plus (pv 4) (pe_op op_times (pe_op op_times pe_int (pv 3)) (pv 3)))) (pss_cons (ps_set (i:=4) sc_law_take.nd rfl (Or.inl rfl) (pe_op op_mod (pe_op op_times (pv 4) (pv 4)) pe_int)) (pss_one (ps_ret (pe_op op_mod (pe_op op_fdiv (pe_op op_mod (pe_op op_times (pv 4) (pe_op op_plus (pv 4) pe_int)) pe_int) pe_int) (pv 1)))))))))),?_⟩
 walk_at "go"
 refine ifd (fun hb=>?_) (fun hb=>?_)
 ·walk_at "go"
  refine s_setL hp (j:=0) rfl ?_
  walk_at "go"
  exact q _ _ (Int.emod_nonneg _ (by omega)) (Int.emod_lt_of_pos _ hm0) ⟨_,_,c,upd_same,h0,by omega⟩ SameBut1.upd
 ·walk_at "go"
  refine s_setL hp (j:=2) rfl ?_
  have hS2:SqL K (upd H p (.lst [.int a, .int b, .int (c+1)])) p [.int a, .int b, .int (c+1)]:=SqL.of upd_same
  have hx:=Int.emod_nonneg a (show(9999999379:Int)≠0 by decide)
  have hx':=Int.emod_lt_of_pos a (show(0:Int)<9999999379 by decide)
  walk_at "go"
  have hxy:0<=(a%9999999379+1049)*(67*(c+1)+101):=Int.mul_nonneg (by omega) (by omega)
  have hxy':(a%9999999379+1049)*(67*(c+1)+101)<=10000000428*67000168:=Int.mul_le_mul (by omega) (by omega) (by omega) (by omega)
  have hss:0<=3623*(c+1)*(c+1):=Int.mul_nonneg (by omega) (by omega)
  have hss':3623*(c+1)*(c+1)<=3623003623*1000001:=Int.mul_le_mul (by omega) (by omega) (by omega) (by omega)
  generalize(a%9999999379+1049)*(67*(c+1)+101)=x1 at*
  generalize 3623*(c+1)*(c+1)=x2 at*
  refine s_mulI (.inl ⟨by omega,by omega⟩) ?_
  have hy:=Int.emod_nonneg ((x1+x2)*(x1+x2)) (show(99999999529:Int)≠0 by decide)
  have hy':=Int.emod_lt_of_pos ((x1+x2)*(x1+x2)) (show(0:Int)<99999999529 by decide)
  walk_at "go"
  refine q _ _ (Int.emod_nonneg _ (by omega)) (Int.emod_lt_of_pos _ hm0) ⟨_,_,c+1,upd_same,by omega,by omega⟩ SameBut1.upd
theorem sc_law_far:FnScope ["pool","found","turn"] ["pool"] (defScope d_law_far):=⟨rfl,rfl,rfl,by decide +kernel,rfl,by decide +kernel,by decide +kernel⟩
theorem ok_law_far(F:Fun K "_law_far" "_law_far" d_law_far f fd)(T:Txt K mg aK cs)(U_law_take:FnU P w K mg base k "_law_take" ["pool","many"] (spTake)):FnOk P w K mg base CX0 (k+1) f fd ["pool"] (spFar04):=by
 refine F.ok sc_law_far (fun vs H Q E h=>?_) (fun cdv A outer s H vs Q E hr h=>?_)
 ·obtain⟨p,n,rfl,_⟩:=h;rfl
 obtain⟨p,n,rfl,hp,hn,q⟩:=h
 have hu:=hr.units0
 refine⟨_,(pss_cons (ps_set (i:=1) sc_law_far.nd rfl (Or.inl rfl) pe_int) (pss_cons (ps_for PassesOwn.never rfl (pi_range1 rfl T.n_range (pa_cons pe_int pa_nil)) (pg_name (i:=2) sc_law_far.nd rfl (Or.inl rfl)) (pss_one (ps_set (i:=1) sc_law_far.nd rfl (Or.inl rfl) (pe_op op_plus (pe_op op_times (pv 1) (pe_op op_pow pe_int pe_int)) (pe_fn U_law_take hr (pa_cons (pv 0) (pa_cons (pe_op op_pow pe_int pe_int) pa_nil))))))) (pss_one (ps_ret (pv 1))))),?_⟩
 walk_at "go"
 refine⟨5,rfl,by decide,by decide,?_⟩
 refine for_rng (n:=5) (fun i σ H'=>∃ (r:Int) (o2:Option V),σ=[some (.ref p),some (.int r),o2]/\0<=r/\r<10^(6*i)/\PoolAt H' p (n+i)/\SameBut1 p H H') ⟨0,_,rfl,by decide,by decide,hp,SameBut1.refl _ _⟩ ?_ ?_
 ·rintro i σ H1 hi ⟨r,o2,rfl,r0,r1,p1,s1⟩
  have hb:(10:Int)^(6*i)<=10^24:=by
   have:i=0\/i=1\/i=2\/i=3\/i=4:=by omega
   rcases this with rfl|rfl|rfl|rfl|rfl<;>decide
  have e6:(10:Int)^(6:Int).toNat=1000000:=by decide
  walk_at "go"
  rw[e6]
  refine take_use p1 (by omega) (by decide) (by decide) (fun r2 H2 r20 r21 p2 s2=>?_)
  walk_at "go"
  have hlt:r*1000000+r2<10^(6*(i+1)):=by
   have:i=0\/i=1\/i=2\/i=3\/i=4:=by omega
   rcases this with rfl|rfl|rfl|rfl|rfl<;>(simp at r1⊢;omega)
  exact⟨r*1000000+r2,_,rfl,by omega,hlt,p2,s1.trans s2⟩
 ·rintro σ H1 ⟨r,o2,rfl,r0,r1,p1,s1⟩
  walk_at "go"
  exact q r H1 r0 r1 p1 s1
theorem sc_law_right_row:FnScope ["pool","k","most","left","way","row","waiting","more","kind"] ["pool","k","most"] (defScope d_law_right_row):=⟨rfl,rfl,rfl,by decide +kernel,rfl,by decide +kernel,by decide +kernel⟩
theorem ok_law_right_row(F:Fun K "_law_right_row" "_law_right_row" d_law_right_row f fd)(T:Txt K mg aK cs)(U_law_take:FnU P w K mg base k "_law_take" ["pool","many"] (spTake)):FnOk P w K mg base CX0 (k+1) f fd ["pool","k","most"] (spRightRow):=by
 refine F.ok sc_law_right_row (fun vs H Q E h=>?_) (fun cdv A outer s H vs Q E hr h=>?_)
 ·obtain⟨p,n,k,most,rfl,_⟩:=h;rfl
 obtain⟨p,n,kk,most,rfl,hp,hn,hk1,hk4,hm0,hm1,q⟩:=h
 have hu:=hr.units0
 refine⟨_,(pss_cons (ps_set (i:=3) sc_law_right_row.nd rfl (Or.inl rfl) (pe_ix (ix_A K) (pe_lst (pa_cons (pe_fn U_law_take hr (pa_cons (pv 0) (pa_cons (pe_op op_plus (pe_op op_fdiv (pv 2) pe_int) pe_int) pa_nil))) (pa_cons (pe_fn U_law_take hr (pa_cons (pv 0) (pa_cons (pe_op op_plus (pe_callB (call_minA rfl) rfl T.n_min PyProof.Rows.boot_min (pa_cons (pe_op op_fdiv (pv 2) pe_int) (pa_cons pe_int pa_nil))) pe_int) pa_nil))) (pa_cons (pe_op op_fdiv (pv 2) pe_int) pa_nil)))) (pe_fn U_law_take hr (pa_cons (pv 0) (pa_cons pe_int pa_nil))) (fun _ _=>rfl))) (pss_cons (ps_set (i:=4) sc_law_right_row.nd rfl (Or.inl rfl) (pe_fn U_law_take hr (pa_cons (pv 0) (pa_cons pe_int pa_nil)))) (pss_cons (ps_set (i:=5) sc_law_right_row.nd rfl (Or.inl rfl) (pe_tx (l:=[]) (by decide +kernel))) (pss_cons (ps_set (i:=6) sc_law_right_row.nd rfl (Or.inl rfl) (pe_tx (l:=[]) (by decide +kernel))) (pss_cons (ps_while PassesOwn.never (PW.pt (pw_or (pt_cmpR op_gt (pv 3) pe_int (nomark _)) (pw_or1 (pt_cmpR (op_neA K hu) (pv 6) (pe_tx (l:=[]) (by decide +kernel)) (nomark _))))) (pss_cons (ps_set (i:=7) sc_law_right_row.nd rfl (Or.inl rfl) (pe_ix (ix_A K) (pe_lst (pa_cons (pe_cmpR op_gt (pe_fn U_law_take hr (pa_cons (pv 0) (pa_cons pe_int pa_nil))) pe_int (nomark _)) (pa_cons (pe_cmpR (op_eqA K hu) (pe_fn U_law_take hr (pa_cons (pv 0) (pa_cons pe_int pa_nil))) pe_int (nomark _)) (pa_cons (pe_cmpR op_gt (pe_fn U_law_take hr (pa_cons (pv 0) (pa_cons pe_int pa_nil))) pe_int (nomark _)) (pa_cons (pe_cmpR op_gt (pv 3) pe_int (nomark _)) pa_nil))))) (pv 4) (fun _ _=>rfl))) (pss_one (ps_if (PW.pt (pw_and (pt_cmpR op_gt (pv 3) pe_int (nomark _)) (pw_and1 (PW.pt (pw_or (pt_cmpR (op_eqA K hu) (pv 6) (pe_tx (l:=[]) (by decide +kernel)) (nomark _)) (pw_or1 (pt_tru K (pv 7)))))))) (pss_cons (ps_set (i:=8) sc_law_right_row.nd rfl (Or.inl rfl) (pe_fn U_law_take hr (pa_cons (pv 0) (pa_cons (pv 1) pa_nil)))) (pss_cons (ps_set (i:=5) sc_law_right_row.nd rfl (Or.inl rfl) (pe_op op_plus (pv 5) (pe_ix (ix_A K) (pe_tx (l:=[40,91,123,60]) (by decide +kernel)) (pv 8) (fun _ _=>rfl)))) (pss_cons (ps_set (i:=6) sc_law_right_row.nd rfl (Or.inl rfl) (pe_op op_plus (pe_ix (ix_A K) (pe_tx (l:=[41,93,125,62]) (by decide +kernel)) (pv 8) (fun _ _=>rfl)) (pv 6))) (pss_one (ps_set (i:=3) sc_law_right_row.nd rfl (Or.inl rfl) (pe_op op_sub (pv 3) pe_int)))))) (pss_cons (ps_set (i:=5) sc_law_right_row.nd rfl (Or.inl rfl) (pe_op op_plus (pv 5) (pe_ix (ix_A K) (pv 6) pe_int (fun _ _=>rfl)))) (pss_one (ps_set (i:=6) sc_law_right_row.nd rfl (Or.inl rfl) (pe_slice (sl_A K) (pv 6) (po_some pe_int) po_none)))))))) (pss_one (ps_ret (pv 5)))))))),?_⟩
 walk_at "go"
 refine take_use hp (by omega) (by omega) (by omega) (fun r1 H1 r10 r11 hp1 s1=>?_)
 walk_at "go"
 refine take_use hp1 (by omega) (by split<;>omega) (by split<;>omega) (fun r2 H2 r20 r21 hp2 s2=>?_)
 walk_at "go"
 refine⟨small (show 3<=1000 by decide),fun a1 ha1=>?_⟩
 have hp2':=hp2.same (same_new ha1 (.lst [.int r1, .int r2, .int (most/2)]))
 walk_at "go"
 refine take_use hp2' (by omega) (by omega) (by omega) (fun r3 H3 r30 r31 hp3 s3=>?_)
 have hl1:H3 a1=some (.lst [.int r1, .int r2, .int (most/2)]):=s3 a1 _ upd_same (hp2.ne ha1)
 have sH3:SameBut1 p H H3:=(s1.trans s2).trans ((SameBut1.of (same_new ha1 _)).trans s3)
 obtain⟨lv,hlv,hlv'⟩:=at3 (V.int r1) (.int r2) (.int (most/2)) r30 r31
 obtain⟨left,rfl,hl0,hl⟩:∃left:Int,lv= .int left/\0<=left/\left<=most/2:=by
  rcases hlv' with rfl|rfl|rfl
  ·exact⟨_,rfl,by omega,by omega⟩
  ·exact⟨_,rfl,by omega,by revert r21;split<;>omega⟩
  ·exact⟨_,rfl,by omega,by omega⟩
 refine s_ixL (SqL.of hl1) hlv ?_
 walk_at "go"
 refine take_use hp3 (by omega) (by omega) (by omega) (fun way H4 w0 w1 hp4 s4=>?_)
 walk_at "go"
 refine while_of (fun σ H'=>∃ (lf:Int) (row wt:List Nat) (mo ki:Option V),σ=[some (.ref p),some (.int kk),some (.int most),some (.int lf),some (.int way),some (tx row),some (tx wt),mo,ki]/\
  0<=lf/\run [] row=some wt/\(∀c∈row,kin kk c)/\(∀c∈wt,c∈cls.take kk.toNat/\c∉opn)/\(row.length:Int)+wt.length+2*lf<=most/\PoolAt H' p (n+4+4*(40-(2*lf.toNat+wt.length)))/\SameBut1 p H H')
  (fun σ _=>match σ with|[_,_,_,some (.int lf),_,_,some (.str wt),_,_]=>2*lf.toNat+wt.length|_=>0) ⟨left,[],[],none,none,rfl,hl0,rfl,(fun _ z=>nomatch z),(fun _ z=>nomatch z),by simp;omega,hp4.mono (by simp),sH3.trans s4⟩ ?_
 ·rintro σ H5 ⟨lf,row,wt,mo,ki,rfl,lf0,hrun,hkin,hwt,hsum,hp5,s5⟩
  have hrow:row.length<=40:=by omega
  have hwl:wt.length<=40:=by omega
  refine or_tests (c:=decide (0<lf)) (d:= !decide (wt=[])) (fun R h=>by walk_at "go";exact h) (fun R h=>by walk_at "go";exact h) ?_
  refine ite2 (fun hc=>?_) (fun hc=>?_)
  ·have hwl2:wt.length=0->wt=[]:=List.length_eq_zero_iff.mp
   have hne:0<lf\/wt≠[]:=by simpa using hc
   have hpos:1<=2*lf.toNat+wt.length:=by
    rcases hne with z|z
    ·omega
    ·have:wt.length≠0:=fun e=>z (hwl2 e)
     omega
   refine wh_body ?_
   walk_at "go"
   refine take_use hp5 (by omega) (by omega) (by omega) (fun b1 G1 _ _ hq1 t1=>?_)
   walk_at "go"
   refine take_use hq1 (by omega) (by omega) (by omega) (fun b2 G2 _ _ hq2 t2=>?_)
   walk_at "go"
   refine take_use hq2 (by omega) (by omega) (by omega) (fun b3 G3 _ _ hq3 t3=>?_)
   walk_at "go"
   refine⟨small (show 4<=1000 by decide),fun a2 ha2=>?_⟩
   obtain⟨mb,hmb⟩:=at4b (decide (0<b1)) (decide (b2=0)) (decide (0<b3)) (decide (0<lf)) w0 w1
   have hq3':=hq3.same (same_new ha2 (.lst [.bl (decide (0<b1)), .bl (decide (b2=0)), .bl (decide (0<b3)), .bl (decide (0<lf))]))
   have tG:SameBut1 p H (upd G3 a2 (.lst [.bl (decide (0<b1)), .bl (decide (b2=0)), .bl (decide (0<b3)), .bl (decide (0<lf))])):=s5.trans (((t1.trans t2).trans t3).trans (SameBut1.of (same_new ha2 _)))
   walk_at "st"
   refine s_ixL (SqL.of upd_same) hmb ?_
   walk_at "st"
   walk_at "st"
   refine and_tests (c:=decide (0<lf)) (d:=decide (wt=[])||mb) (fun R h=>by walk_at "go";exact h) (fun R h=>or_tests (c:=decide (wt=[])) (d:=mb) (fun R h=>by walk_at "go";exact h) (fun R h=>by walk_at "go";exact h) h) ?_
   refine ite2 (fun hd=>?_) (fun hd=>?_)
   ·have hlf:0<lf:=by simp at hd;exact hd.1
    walk_at "go"
    refine take_use hq3' (by omega) (by omega) (by omega) (fun ki' G4 ki0 ki1 hq4 t4=>?_)
    obtain⟨oc,ho1,ho2,ho3,ho4,ho5,ho6⟩:=opn_at ki0 ki1 hk4
    walk_at "go"
    refine s_ixT (small (show 4<=1000 by decide)) ho1 ?_
    walk_at "go"
    refine s_ixT (small (show 4<=1000 by decide)) ho4 ?_
    walk_at "go"
    refine⟨⟨lf-1,row++[oc],[clo oc]++wt,_,_,rfl,by omega,?_,?_,?_,?_,hq4.mono ?_,tG.trans t4⟩,?_⟩
    ·rw[run_snoc hrun,stp_open ho2];rfl
    ·intro c hc
     rcases List.mem_append.mp hc with z|z
     ·exact hkin c z
     ·rw[List.mem_singleton.mp z];exact .inl ho3
    ·intro c hc
     rcases List.mem_append.mp hc with z|z
     ·rw[List.mem_singleton.mp z];exact⟨ho5,ho6⟩
     ·exact hwt c z
    ·simp only[List.length_append,List.length_singleton];omega
    ·simp only[List.length_append,List.length_singleton];omega
    ·show 2*(lf-1).toNat+([clo oc]++wt).toArray.size<2*lf.toNat+wt.toArray.size
     simp only[List.size_toArray,List.length_append,List.length_singleton];omega
   ·have hne2:wt≠[]:=by
     intro e
     subst e
     rcases hne with z|z
     ·apply hd;simp[z]
     ·exact z rfl
    obtain⟨d0,wr,rfl⟩:∃d0 wr,wt=d0::wr:=by
     cases wt with
     |nil=>exact absurd rfl hne2
     |cons d0 wr=>exact⟨d0,wr,rfl⟩
    obtain⟨hd1,hd2⟩:=hwt d0 List.mem_cons_self
    walk_at "go"
    refine s_ixT (small (by simp only[List.length_cons]at hwl⊢;omega)) (atI_0 d0 wr) ?_
    walk_at "go"
    first|refine s_slT (small (by simp only[List.length_cons]at hwl⊢;omega)) ?_ |skip
    rw[cut_tail]
    walk_at "go"
    simp only[List.length_cons]at hsum hq3' hwl
    refine⟨⟨lf,row++[d0],wr,_,_,rfl,lf0,?_,?_,fun c hc=>hwt c (List.mem_cons_of_mem _ hc),?_,hq3'.mono ?_,tG⟩,?_⟩
    ·rw[run_snoc hrun,stp_close hd2]
    ·intro c hc
     rcases List.mem_append.mp hc with z|z
     ·exact hkin c z
     ·rw[List.mem_singleton.mp z];exact .inr hd1
    ·simp only[List.length_append,List.length_singleton];omega
    ·omega
    ·show 2*lf.toNat+wr.toArray.size<2*lf.toNat+(d0::wr).toArray.size
     simp only[List.size_toArray,List.length_cons];omega
  ·have hc':lf<=0/\wt=[]:=by simpa using hc
   obtain⟨e1,rfl⟩:=hc'
   walk_at "go"
   refine q row H5 hrun (by simp at hsum;omega) hkin (hp5.mono (by omega)) s5
theorem sc_law_signs:FnScope ["k"] ["k"] (defScope d_law_signs):=⟨rfl,rfl,rfl,by decide +kernel,rfl,by decide +kernel,by decide +kernel⟩
theorem ok_law_signs(F:Fun K "_law_signs" "_law_signs" d_law_signs f fd)(T:Txt K mg aK cs):FnOk P w K mg base CX0 (k+1) f fd ["k"] (spSigns):=by
 refine F.ok sc_law_signs (fun vs H Q E h=>?_) (fun cdv A outer s H vs Q E hr h=>?_)
 ·obtain⟨k,rfl,_⟩:=h;rfl
 obtain⟨kk,rfl,h1,h2,q⟩:=h
 have hu:=hr.units0
 refine⟨_,(pss_one (ps_ret (pe_op op_plus (pe_slice (sl_A K) (pe_tx (l:=[40,41,91,93,123,125,60,62]) (by decide +kernel)) po_none (po_some (pe_op op_times pe_int (pv 0)))) (pe_tx (l:=[63]) (by decide +kernel))))),?_⟩
 walk_at "go"
 rw[cut_to _ (by omega)]
 have hl:(([40,41,91,93,123,125,60,62]:List Nat).take (2*kk).toNat).length<=8:=by rw[List.length_take];exact Nat.min_le_right _ _
 refine s_addT (small (by rw[List.length_singleton];omega)) ?_
 exact q
theorem sc_law_bent:FnScope ["pool","row","signs","at","to","sign","way"] ["pool","row","signs"] (defScope d_law_bent):=⟨rfl,rfl,rfl,by decide +kernel,rfl,by decide +kernel,by decide +kernel⟩
theorem ok_law_bent(F:Fun K "_law_bent" "_law_bent" d_law_bent f fd)(T:Txt K mg aK cs)(U_law_take:FnU P w K mg base k "_law_take" ["pool","many"] (spTake)):FnOk P w K mg base CX0 (k+1) f fd ["pool","row","signs"] (spBent):=by
 refine F.ok sc_law_bent (fun vs H Q E h=>?_) (fun cdv A outer s H vs Q E hr h=>?_)
 ·obtain⟨p,n,row,sg,rfl,_⟩:=h;rfl
 obtain⟨p,n,row,sg,rfl,hp,hn,hrl,hs0,hs1,q⟩:=h
 have hu:=hr.units0
 refine⟨_,(pss_cons (ps_set (i:=3) sc_law_bent.nd rfl (Or.inl rfl) (pe_fn U_law_take hr (pa_cons (pv 0) (pa_cons (pe_op op_plus (pe_callB (call_lenA K) rfl T.n_len PySem.boot_len (pa_cons (pv 1) pa_nil)) pe_int) pa_nil)))) (pss_cons (ps_set (i:=4) sc_law_bent.nd rfl (Or.inl rfl) (pe_op op_plus (pv 3) (pe_fn U_law_take hr (pa_cons (pv 0) (pa_cons pe_int pa_nil))))) (pss_cons (ps_set (i:=5) sc_law_bent.nd rfl (Or.inl rfl) (pe_ix (ix_A K) (pv 2) (pe_fn U_law_take hr (pa_cons (pv 0) (pa_cons (pe_callB (call_lenA K) rfl T.n_len PySem.boot_len (pa_cons (pv 2) pa_nil)) pa_nil))) (fun _ _=>rfl))) (pss_cons (ps_set (i:=6) sc_law_bent.nd rfl (Or.inl rfl) (pe_fn U_law_take hr (pa_cons (pv 0) (pa_cons pe_int pa_nil)))) (pss_cons (ps_if (pt_cmpR (op_eqA K hu) (pv 6) pe_int (nomark _)) (pss_one (ps_ret (pe_op op_plus (pe_slice (sl_A K) (pv 1) po_none (po_some (pv 3))) (pe_slice (sl_A K) (pv 1) (po_some (pe_op op_plus (pv 3) pe_int)) po_none)))) pss_nil) (pss_cons (ps_if (pt_cmpR (op_eqA K hu) (pv 6) pe_int (nomark _)) (pss_one (ps_ret (pe_op op_plus (pe_op op_plus (pe_slice (sl_A K) (pv 1) po_none (po_some (pv 3))) (pv 5)) (pe_slice (sl_A K) (pv 1) (po_some (pv 3)) po_none)))) pss_nil) (pss_cons (ps_if (pt_cmpR (op_eqA K hu) (pv 6) pe_int (nomark _)) (pss_one (ps_ret (pe_op op_plus (pe_op op_plus (pe_slice (sl_A K) (pv 1) po_none (po_some (pv 3))) (pe_rev K (pe_slice (sl_A K) (pv 1) (po_some (pv 3)) (po_some (pe_op op_plus (pv 3) pe_int))) (pe_un un_neg pe_int))) (pe_slice (sl_A K) (pv 1) (po_some (pe_op op_plus (pv 3) pe_int)) po_none)))) pss_nil) (pss_cons (ps_if (pt_cmpR (op_eqA K hu) (pv 6) pe_int (nomark _)) (pss_one (ps_ret (pe_op op_plus (pe_slice (sl_A K) (pv 1) po_none (po_some (pv 3))) (pe_slice (sl_A K) (pv 1) (po_some (pv 4)) po_none)))) pss_nil) (pss_cons (ps_if (pt_cmpR (op_eqA K hu) (pv 6) pe_int (nomark _)) (pss_one (ps_ret (pe_op op_plus (pe_op op_plus (pe_slice (sl_A K) (pv 1) po_none (po_some (pv 3))) (pe_slice (sl_A K) (pv 1) (po_some (pv 3)) (po_some (pv 4)))) (pe_slice (sl_A K) (pv 1) (po_some (pv 3)) po_none)))) pss_nil) (pss_one (ps_ret (pe_op op_plus (pe_op op_plus (pe_slice (sl_A K) (pv 1) po_none (po_some (pv 3))) (pv 5)) (pe_slice (sl_A K) (pv 1) (po_some (pe_op op_plus (pv 3) pe_int)) po_none))))))))))))),?_⟩
 walk_at "go"
 refine take_use hp (by omega) (by omega) (by omega) (fun at' H1 a0 a1 hp1 s1=>?_)
 walk_at "go"
 refine take_use hp1 (by omega) (by omega) (by omega) (fun t0 H2 t00 t01 hp2 s2=>?_)
 walk_at "go"
 refine take_use hp2 (by omega) (by omega) (by omega) (fun g0 H3 g00 g01 hp3 s3=>?_)
 obtain⟨sc,hsc,hsm⟩:=at_mem g00 g01
 walk_at "go"
 refine s_ixT (small (by omega)) hsc ?_
 walk_at "go"
 refine take_use hp3 (by omega) (by omega) (by omega) (fun way H4 w0 w1 hp4 s4=>?_)
 have sA:=(s1.trans s2).trans (s3.trans s4)
 have c1:=cut_le row none (some at')
 have c2:=cut_le row (some (at'+1)) none
 have c3:=cut_le row (some at') none
 have c4:=cut_le row (some at') (some (at'+2))
 have c5:=cut_le row (some (at'+2)) none
 have c6:=cut_le row (some (at'+t0)) none
 have c7:=cut_le row (some at') (some (at'+t0))
 walk_at "go"
 refine ifd (fun hw=>?_) (fun hw=>?_)
 ·walk_at "go"
  refine q _ _ (fun c hc=>?_) (by rw[List.length_append];omega) hp4 sA
  rcases List.mem_append.mp hc with z|z
  ·exact .inl (cut_mem z)
  ·exact .inl (cut_mem z)
 walk_at "go"
 refine ifd (fun hw=>?_) (fun hw=>?_)
 ·walk_at "go"
  first|refine s_addT (small (by rw[List.length_append,List.length_singleton];omega)) ?_ |skip
  refine q _ _ (fun c hc=>?_) (by rw[List.length_append,List.length_append,List.length_singleton];omega) hp4 sA
  rcases List.mem_append.mp hc with z|z
  ·rcases List.mem_append.mp z with z|z
   ·exact .inl (cut_mem z)
   ·rw[List.mem_singleton.mp z];exact .inr hsm
  ·exact .inl (cut_mem z)
 walk_at "go"
 refine ifd (fun hw=>?_) (fun hw=>?_)
 ·have c8:(cutL row (some at') (some (at'+2))).reverse.length<=row.length:=by rw[List.length_reverse];exact c4
  walk_at "go"
  first|refine s_addT (small (by rw[List.length_append,List.length_reverse];omega)) ?_ |skip
  refine q _ _ (fun c hc=>?_) (by rw[List.length_append,List.length_append,List.length_reverse];omega) hp4 sA
  rcases List.mem_append.mp hc with z|z
  ·rcases List.mem_append.mp z with z|z
   ·exact .inl (cut_mem z)
   ·exact .inl (cut_mem (List.mem_reverse.mp z))
  ·exact .inl (cut_mem z)
 walk_at "go"
 refine ifd (fun hw=>?_) (fun hw=>?_)
 ·walk_at "go"
  refine q _ _ (fun c hc=>?_) (by rw[List.length_append];omega) hp4 sA
  rcases List.mem_append.mp hc with z|z
  ·exact .inl (cut_mem z)
  ·exact .inl (cut_mem z)
 walk_at "go"
 refine ifd (fun hw=>?_) (fun hw=>?_)
 ·walk_at "go"
  first|refine s_addT (small (by rw[List.length_append];omega)) ?_ |skip
  refine q _ _ (fun c hc=>?_) (by rw[List.length_append,List.length_append];omega) hp4 sA
  rcases List.mem_append.mp hc with z|z
  ·rcases List.mem_append.mp z with z|z
   ·exact .inl (cut_mem z)
   ·exact .inl (cut_mem z)
  ·exact .inl (cut_mem z)
 walk_at "go"
 first|refine s_addT (small (by rw[List.length_append,List.length_singleton];omega)) ?_ |skip
 refine q _ _ (fun c hc=>?_) (by rw[List.length_append,List.length_append,List.length_singleton];omega) hp4 sA
 rcases List.mem_append.mp hc with z|z
 ·rcases List.mem_append.mp z with z|z
  ·exact .inl (cut_mem z)
  ·rw[List.mem_singleton.mp z];exact .inr hsm
 ·exact .inl (cut_mem z)
theorem sc_law_any_row:FnScope ["pool","k","most","way","signs","some","row"] ["pool","k","most"] (defScope d_law_any_row):=⟨rfl,rfl,rfl,by decide +kernel,rfl,by decide +kernel,by decide +kernel⟩
theorem ok_law_any_row(F:Fun K "_law_any_row" "_law_any_row" d_law_any_row f fd)(T:Txt K mg aK cs)(U_law_take:FnU P w K mg base k "_law_take" ["pool","many"] (spTake))(U_law_signs:FnU P w K mg base k "_law_signs" ["k"] (spSigns))(U_law_right_row:FnU P w K mg base k "_law_right_row" ["pool","k","most"] (spRightRow))(U_law_bent:FnU P w K mg base k "_law_bent" ["pool","row","signs"] (spBent)):FnOk P w K mg base CX0 (k+1) f fd ["pool","k","most"] (spAnyRow):=by
 refine F.ok sc_law_any_row (fun vs H Q E h=>?_) (fun cdv A outer s H vs Q E hr h=>?_)
 ·obtain⟨p,n,k,most,rfl,_⟩:=h;rfl
 obtain⟨p,n,kk,most,rfl,hp,hn,hk1,hk4,hm0,hm1,q⟩:=h
 have hu:=hr.units0
 refine⟨_,(pss_cons (ps_set (i:=3) sc_law_any_row.nd rfl (Or.inl rfl) (pe_fn U_law_take hr (pa_cons (pv 0) (pa_cons pe_int pa_nil)))) (pss_cons (ps_set (i:=4) sc_law_any_row.nd rfl (Or.inl rfl) (pe_fn U_law_signs hr (pa_cons (pv 1) pa_nil))) (pss_cons (ps_if (pt_cmpR op_lt (pv 3) pe_int (nomark _)) (pss_cons (ps_set (i:=5) sc_law_any_row.nd rfl (Or.inr rfl) (pe_ix (ix_A K) (pe_lst (pa_cons (pv 4) (pa_cons (pe_slice (sl_A K) (pv 4) po_none (po_some pe_int)) pa_nil))) (pv 3) (fun _ _=>rfl))) (pss_one (ps_ret (pe_bmK K PySem.F.plainAttrs_str PySem.F.slot_str_join PySem.F.type_str_join (mt_join K) (pe_tx (l:=[]) (by decide +kernel)) (pa_cons (pe_comp (own:=["turn"]) (sel:=[5,0]) (compOk_of (osc:=(defScope d_law_any_row)) (N:=["pool","k","most","way","signs","some","row"]) (by decide +kernel)) rfl (pi_range1 rfl T.n_range (pa_cons (pe_fn U_law_take hr (pa_cons (pv 0) (pa_cons (pe_op op_plus (pv 2) pe_int) pa_nil))) pa_nil)) (fun _ _ _ _ _=>(pg_name (i:=0) (show(["turn","some","pool"]:List Str).Nodup from by decide +kernel) rfl (Or.inl rfl))) (gk_name (by decide)) (fun _ _ _ _ _=>pif_nil) (fun _ _ _ _ _=>(pe_ix (ix_A K) (pv 1) (pe_fn U_law_take hr (pa_cons (pv 2) (pa_cons (pe_callB (call_lenA K) rfl T.n_len PySem.boot_len (pa_cons (pv 1) pa_nil)) pa_nil))) (fun _ _=>rfl)))) pa_nil))))) pss_nil) (pss_cons (ps_set (i:=6) sc_law_any_row.nd rfl (Or.inl rfl) (pe_fn U_law_right_row hr (pa_cons (pv 0) (pa_cons (pv 1) (pa_cons (pv 2) pa_nil))))) (pss_cons (ps_if (pt_cmpR (op_eqA K hu) (pv 3) pe_int (nomark _)) (pss_one (ps_ret (pe_bmK K PySem.F.plainAttrs_str PySem.F.slot_str_join PySem.F.type_str_join (mt_join K) (pe_tx (l:=[]) (by decide +kernel)) (pa_cons (pe_comp (own:=["sign"]) (sel:=[0]) (compOk_of (osc:=(defScope d_law_any_row)) (N:=["pool","k","most","way","signs","some","row"]) (by decide +kernel)) rfl (pi_str (pv 6)) (fun _ _ _ _ _=>(pg_name (i:=0) (show(["sign","pool"]:List Str).Nodup from by decide +kernel) rfl (Or.inl rfl))) (gk_name (by decide)) (fun _ _ _ _ _=>pif_nil) (fun _ _ _ _ _=>(pe_ix (ix_A K) (pe_lst (pa_cons (pv 0) (pa_cons (pe_tx (l:=[63]) (by decide +kernel)) pa_nil))) (pe_callTy call_intA rfl T.n_int PyProof.Rows.boot_int (pa_cons (pe_cmpR (op_eqA K hu) (pe_fn U_law_take hr (pa_cons (pv 1) (pa_cons pe_int pa_nil))) pe_int (nomark _)) pa_nil)) (fun _ _=>rfl)))) pa_nil)))) pss_nil) (pss_cons (ps_if (pt_cmpR (op_eqA K hu) (pv 3) pe_int (nomark _)) (pss_one (ps_ret (pe_slice (sl_A K) (pe_fn U_law_bent hr (pa_cons (pv 0) (pa_cons (pv 6) (pa_cons (pv 4) pa_nil)))) po_none (po_some (pv 2))))) pss_nil) (pss_one (ps_ret (pv 6))))))))),?_⟩
 walk_at "go"
 refine take_use hp (by omega) (by omega) (by omega) (fun way H1 w0 w1 hp1 s1=>?_)
 walk_at "go"
 refine signs_use hk1 hk4 ?_
 have hsl:=sgs_len hk1 hk4
 walk_at "go"
 refine ifd (fun hw=>?_) (fun hw=>?_)
 ·walk_at "go"
  have hc2:cutL (sgs kk) none (some 2)=(sgs kk).take 2:=cut_to _ (by decide)
  refine⟨small (show 2<=1000 by decide),fun a1 ha1=>?_⟩
  obtain⟨some',hsome,hs0,hs1,hsin⟩:∃l:List Nat,atI [tx (sgs kk),tx (cutL (sgs kk) none (some 2))] way=some (tx l)/\0<l.length/\l.length<=9/\∀c∈l,c∈sgs kk:=by
   have:way=0\/way=1:=by omega
   rcases this with rfl|rfl
   ·exact⟨_,rfl,by omega,by omega,fun c hc=>hc⟩
   ·refine⟨_,rfl,?_,?_,fun c hc=>cut_mem hc⟩
    ·rw[hc2,List.length_take];omega
    ·rw[hc2,List.length_take];omega
  walk_at "st"
  refine s_ixL (SqL.of upd_same) hsome ?_
  have hp1':=hp1.same (same_new ha1 (.lst [tx (sgs kk),tx (cutL (sgs kk) none (some 2))]))
  walk_at "go"
  refine take_use hp1' (by omega) (by omega) (by omega) (fun m H2 m0 m1 hp2 s2=>?_)
  refine⟨m,rfl,by omega,by omega,?_⟩
  have sH2:SameBut1 p H H2:=(s1.trans (SameBut1.of (same_new ha1 _))).trans s2
  refine comp_rng (small (by omega)) (fun D i ys H'=>∃row:List Nat,ys=((row.map fun c=>[c]).map tx)/\row.length=i/\(∀c∈row,c∈sgs kk)/\PoolAt H' p (n+2+i)/\∀b o,H b=some o->b≠p->H' b=some o) (fun D hD=>⟨[],rfl,rfl,(fun _ z=>nomatch z),hp2.same (same_new hD _),fun b o z zn=>same_new hD _ b o (sH2 b o z zn)⟩) (fun D ys H' hD hD' ⟨row,e,hrl,hrs,hpo,sH⟩=>?_) ?_
  ·subst e
   walk_at "go"
   refine s_join (SqL.of hD') (by rw[flat_ones,List.length_map];omega) ?_
   rw[flat_ones]
   exact q _ _ (by omega) (fun c hc=>sgs_sgn hk1 hk4 (hrs c hc)) (hpo.mono (by omega)) sH
  ·rintro D i ys H' hD hi hD' hl ⟨row,e,hrl,hrs,hpo,sH⟩
   have hDp:D≠p:=hp2.ne hD
   walk_at "go"
   refine iteT ?_
   walk_at "go"
   refine take_use hpo (by omega) (by omega) (by omega) (fun j H4 j0 j1 hp4 s4=>?_)
   obtain⟨c,hc,hcm⟩:=at_mem j0 j1
   refine s_ixT (small (by omega)) hc ?_
   refine comp_next hi (small (by omega)) (s4 _ _ hD' hDp) hl ⟨row++[c],?_,?_,?_,?_,?_⟩
   ·rw[e,List.map_append,List.map_append];rfl
   ·rw[List.length_append,List.length_singleton];omega
   ·intro d hd
    rcases List.mem_append.mp hd with z|z
    ·exact hrs d z
    ·rw[List.mem_singleton.mp z];exact hsin c hcm
   ·obtain⟨x,y,z,e4,h1,h2⟩:=hp4
    exact⟨x,y,z,by rw[upd_ne hDp.symm];exact e4,h1,by omega⟩
   ·intro b o z zn
    have:=sH b o z zn
    rw[upd_ne (fun eq=>?_)]
    ·exact s4 b o this zn
    ·subst eq
     have z2:=sH2 b o z zn
     rw[hD]at z2
     cases z2
 ·walk_at "go"
  refine right_use hp1 (by omega) hk1 hk4 hm0 hm1 (fun row H2 hR hlen hkin hpo2 s2=>?_)
  have sH2:=s1.trans s2
  have hrl:row.length<=40:=by omega
  walk_at "go"
  refine ifd (fun hw2=>?_) (fun hw2=>?_)
  ·walk_at "go"
   refine comp_str (small (by omega)) (fun D i ys H'=>∃rw':List Nat,ys=((rw'.map fun c=>[c]).map tx)/\rw'.length=i/\(∀c∈rw',c∈sgn kk)/\PoolAt H' p (n+201+i)/\∀b o,H b=some o->b≠p->H' b=some o) (fun D hD=>⟨[],rfl,rfl,(fun _ z=>nomatch z),(hpo2.same (same_new hD _)).mono (by omega),fun b o z zn=>same_new hD _ b o (sH2 b o z zn)⟩) (fun D ys H' hD hD' ⟨rw',e,hrl',hrs,hpo,sH⟩=>?_) ?_
   ·subst e
    walk_at "go"
    refine s_join (SqL.of hD') (by rw[flat_ones,List.length_map];omega) ?_
    rw[flat_ones]
    exact q _ _ (by omega) hrs (hpo.mono (by omega)) sH
   ·rintro D i c ys H' hD ec hi hD' hl ⟨rw',e,hrl',hrs,hpo,sH⟩
    have hDp:D≠p:=hpo2.ne hD
    walk_at "go"
    refine iteT ?_
    walk_at "go"
    refine⟨small (show 2<=1000 by decide),fun a1 ha1=>?_⟩
    have t1:=same_new ha1 (.lst [tx [c],tx [63]])
    have hpo':=hpo.same t1
    walk_at "go"
    refine take_use hpo' (by omega) (by omega) (by omega) (fun j H4 j0 j1 hp4 s4=>?_)
    have ha1p:a1≠p:=hpo.ne ha1
    have hl4:=s4 _ _ (upd_same (H:=H') (a:=a1)) ha1p
    walk_at "go"
    obtain⟨d,hd,hdm⟩:∃d,atI [tx [c],tx [63]] (if decide (j=0)then 1 else 0)=some (tx [d])/\d∈sgn kk:=by
     by_cases hj:j=0
     ·exact⟨63,by simp only[hj,decide_true];rfl,List.mem_append_right _ (List.mem_singleton.mpr rfl)⟩
     ·exact⟨c,by simp only[hj,decide_false];rfl,kin_sgn (hkin c (List.mem_of_getElem? ec))⟩
    refine s_ixL (SqL.of hl4) hd ?_
    refine comp_next hi (small (by omega)) (s4 _ _ (t1 _ _ hD') hDp) hl ⟨rw'++[d],?_,?_,?_,?_,?_⟩
    ·rw[e,List.map_append,List.map_append];rfl
    ·rw[List.length_append,List.length_singleton];omega
    ·intro d' hd'
     rcases List.mem_append.mp hd' with z|z
     ·exact hrs d' z
     ·rw[List.mem_singleton.mp z];exact hdm
    ·obtain⟨x,y,z,e4,h1,h2⟩:=hp4
     exact⟨x,y,z,by rw[upd_ne hDp.symm];exact e4,h1,by omega⟩
    ·intro b o z zn
     have:=t1 _ _ (sH b o z zn)
     rw[upd_ne (fun eq=>?_)]
     ·exact s4 b o this zn
     ·subst eq
      have z2:=sH2 b o z zn
      rw[hD]at z2
      cases z2
  ·walk_at "go"
   refine ifd (fun hw3=>?_) (fun hw3=>?_)
   ·walk_at "go"
    refine bent_use hpo2 (by omega) hrl (by omega) (by omega) (fun row' H3 hmem hl3 hpo3 s3=>?_)
    walk_at "go"
    have hct:cutL row' none (some most)=row'.take most.toNat:=cut_to _ hm0
    rw[hct]
    refine q _ _ (by rw[List.length_take];omega) (fun c hc=>?_) (hpo3.mono (by omega)) (sH2.trans s3)
    rcases hmem c (List.mem_of_mem_take hc)with z|z
    ·exact kin_sgn (hkin c z)
    ·exact sgs_sgn hk1 hk4 z
   ·walk_at "go"
    exact q row _ hlen (fun c hc=>kin_sgn (hkin c hc)) (hpo2.mono (by omega)) sH2
theorem sc_law_is_row:FnScope ["k","thing"] ["k","thing"] (defScope d_law_is_row):=⟨rfl,rfl,rfl,by decide +kernel,rfl,by decide +kernel,by decide +kernel⟩
theorem ok_law_is_row(F:Fun K "_law_is_row" "_law_is_row" d_law_is_row f fd)(T:Txt K mg aK cs)(U_law_signs:FnU P w K mg base k "_law_signs" ["k"] (spSigns)):FnOk P w K mg base CX0 (k+1) f fd ["k","thing"] (spIsRow10 K):=by
 refine F.ok sc_law_is_row (fun vs H Q E h=>?_) (fun cdv A outer s H vs Q E hr h=>?_)
 ·obtain⟨k,v,rfl,_⟩:=h;rfl
 obtain⟨kk,v,rfl,hk1,hk4,th,q⟩:=h
 have hu:=hr.units0
 refine⟨_,(pss_cons (ps_if (PW.pt (pw_or (pt_not (pt_tru K (pe_callB (call_isiA K) rfl T.n_isinstance PyProof.Rows.boot_isinstance (pa_cons (pv 1) (pa_cons (pe_ty T.n_str PyProof.Rows.boot_str) pa_nil))))) (pw_or1 (pt_cmpR op_gt (pe_callB (call_lenA K) rfl T.n_len PySem.boot_len (pa_cons (pv 1) pa_nil)) pe_int (nomark _))))) (pss_one (ps_ret pe_bl)) pss_nil) (pss_one (ps_ret (pe_cmpR (op_eqA K hu) (pe_comp (own:=["sign"]) (sel:=[0]) (compOk_of (osc:=(defScope d_law_is_row)) (N:=["k","thing"]) (by decide +kernel)) rfl (pi_str (pv 1)) (fun _ _ _ _ _=>(pg_name (i:=0) (show(["sign","k"]:List Str).Nodup from by decide +kernel) rfl (Or.inl rfl))) (gk_name (by decide)) (fun _ _ _ _ _=>pif_one (pt_cmpR (op_notinA K) (pv 0) (pe_fn U_law_signs hr (pa_cons (pv 1) pa_nil)) (by with_unfolding_all rfl))) (fun _ _ _ _ _=>(pv 0))) (pe_lst pa_nil) (nomark _))))),?_⟩
 walk_at "go"
 rcases th with⟨a,rfl,hf⟩|⟨ty,hT,hp,hs⟩
 ·have hal:=hf
  refine s_isi (b:=true) (TyOf.str _) (by with_unfolding_all rfl) ?_
  walk_at "go"
  refine ifq rfl ?_
  walk_at "go"
  first|refine s_lenT (small2 (by omega)) ?_ |skip
  walk_at "go"
  refine ifd (fun hc=>?_) (fun hc=>?_)
  ·walk_at "go"
   have e:rowV kk (tx a)=false:=by rw[rowV_tx];unfold isRow;rw[decide_eq_false (by omega),Bool.false_and]
   have:=q H (Same.refl H)
   rw[e]at this
   exact this
  ·walk_at "go"
   refine comp_str (small (by omega)) (fun D i ys H'=>ys=((a.take i).filter fun c=> !decide (c∈sgs kk)).map (fun c=>tx [c])/\SameBut1 D H H') (fun D hD=>⟨rfl,SameBut1.of (same_new hD _)⟩) (fun D ys H' hD hy ⟨e,s2⟩=>?_) ?_
   ·subst e
    rw[List.take_length]at hy
    walk_at "go"
    refine⟨small (show 0<=1000 by decide),fun l2 hl2=>?_⟩
    have s3:Same H H':=fun b o z=>s2 b o z (ne_of_none z hD)
    have t3:=same_new hl2 (.lst [])
    have hy2:H' D=some (.lst ((((a.filter fun c=> !decide (c∈sgs kk)).map fun c=>[c])).map tx)):=by rw[hy,List.map_map];rfl
    refine s_eqL (SqL.of (t3 _ _ hy2)) (SqL.of upd_same) (flat_txs _) rfl ?_
    have e2:eqVs ((((a.filter fun c=> !decide (c∈sgs kk)).map fun c=>[c])).map tx) []=rowV kk (tx a):=by
     rw[rowV_tx]
     unfold isRow
     rw[decide_eq_true (by omega),Bool.true_and]
     cases ef:a.filter fun c=> !decide (c∈sgs kk)with
     |nil=>
      symm
      show a.all _=true
      rw[List.all_eq_true]
      intro c hc
      have:=List.filter_eq_nil_iff.mp ef c hc
      refine decide_eq_true ((sgs_iff hk1 hk4).mp ?_)
      simpa using this
     |cons c r=>
      have hm:c∈a.filter fun c=> !decide (c∈sgs kk):=by rw[ef];exact List.mem_cons_self
      obtain⟨h1,h2⟩:=List.mem_filter.mp hm
      have h3:c∉sgs kk:=by simpa using h2
      symm
      show a.all _=false
      rw[List.all_eq_false]
      exact⟨c,h1,by simpa using fun z=>h3 ((sgs_iff hk1 hk4).mpr z)⟩
    rw[e2]
    exact q _ (s3.trans t3)
   ·rintro D i c ys H' hD hc hi hy hl ⟨e,s2⟩
    walk_at "go"
    refine signs_use hk1 hk4 ?_
    walk_at "go"
    have eT:(a.take (i+1)).filter (fun c=> !decide (c∈sgs kk))=(a.take i).filter (fun c=> !decide (c∈sgs kk))++(if c∈sgs kk then []else [c]):=by
     rw[List.take_add_one,hc,List.filter_append]
     congr 1
     by_cases z:c∈sgs kk
     ·rw[if_pos z];simp[z]
     ·rw[if_neg z];simp[z]
    refine ite2 (fun hb=>?_) (fun hb=>?_)
    ·have hb':c∉sgs kk:=by simpa using hb
     walk_at "go"
     refine comp_next hi (small (by omega)) hy hl ⟨?_,s2.trans SameBut1.upd⟩
     rw[e,eT,if_neg hb',List.map_append];rfl
    ·have hb':c∈sgs kk:=by simpa using hb
     refine comp_skip hi hy hl ⟨?_,s2⟩
     rw[e,eT,if_pos hb',List.append_nil]
 ·have hp':ty="NoneType"\/ty="bool"\/ty="int"\/ty="str"\/ty="list"\/ty="tuple"\/ty="dict":=by simpa[plainTy]using hp
  have fin:PySem.W.kitOne K (.type ty) (.type "str")=some false:=by
   rcases hp' with rfl|rfl|rfl|rfl|rfl|rfl|rfl<;>first|(exact absurd rfl hs)|with_unfolding_all rfl
  refine s_isi (b:=false) hT fin ?_
  walk_at "go"
  refine ifp rfl ?_
  walk_at "go"
  refine ifp rfl ?_
  walk_at "go"
  have e:rowV kk v=false:=by
   cases v with
   |str x=>cases hT;exact absurd rfl hs
   |_=>rfl
  have:=q H (Same.refl H)
  rw[e]at this
  exact this
theorem sc_law_is_right:FnScope ["row","left","many","pair"] ["row"] (defScope d_law_is_right):=⟨rfl,rfl,rfl,by decide +kernel,rfl,by decide +kernel,by decide +kernel⟩
theorem ok_law_is_right(F:Fun K "_law_is_right" "_law_is_right" d_law_is_right f fd)(T:Txt K mg aK cs):FnOk P w K mg base CX0 (k+1) f fd ["row"] (spCand):=by
 refine F.ok sc_law_is_right (fun vs H Q E h=>?_) (fun cdv A outer s H vs Q E hr h=>?_)
 ·obtain⟨a,rfl,_⟩:=h;rfl
 obtain⟨a,rfl,ha,q⟩:=h
 have hu:=hr.units0
 refine⟨_,(pss_cons (ps_set (i:=1) sc_law_is_right.nd rfl (Or.inl rfl) (pv 0)) (pss_cons (ps_set (i:=2) sc_law_is_right.nd rfl (Or.inl rfl) (pe_un un_neg pe_int)) (pss_cons (ps_while PassesOwn.never (pt_cmpR (op_neA K hu) (pv 2) (pe_callB (call_lenA K) rfl T.n_len PySem.boot_len (pa_cons (pv 1) pa_nil)) (nomark _)) (pss_rep (im:=2) (ip:=3) (jl:=1) PassesOwn.never rfl sc_law_is_right.nd rfl rfl rfl rfl rfl rfl (by decide) (pe_callB (call_lenA K) rfl T.n_len PySem.boot_len (pa_cons (pv 1) pa_nil)) (by decide +kernel) (by decide +kernel) (by decide +kernel) (by decide +kernel) (by decide +kernel) rfl)) (pss_one (ps_ret (pe_cmpR (op_eqA K hu) (pv 1) (pe_tx (l:=[]) (by decide +kernel)) (nomark _))))))),?_⟩
 walk_at "go"
 refine while_of (fun σ H'=>∃ (l:List Nat) (m:Int) (o3:Option V),σ=[some (tx a),some (tx l),some (.int m),o3]/\H'=H/\l.length<=40/\(∀st,run st l=run st a)/\(m=(l.length:Int)->∀o∈opn,∀A B,l≠A++[o,clo o]++B))
  (fun σ _=>match σ with|[_,some (.str l),some (.int m),_]=>2*l.length+(if m=(l.length:Int)then 0 else 1)|_=>0) ⟨a,-1,none,rfl,rfl,ha,fun _=>rfl,fun z=>by omega⟩ ?_
 rintro σ H1 ⟨l,m,o3,rfl,rfl,hl,hrun,hst⟩
 walk_at "go"
 refine ite2 (fun hc=>?_) (fun hc=>?_)
 ·have hne:m≠(l.length:Int):=by simpa using hc
  refine wh_body ?_
  refine s_rep ?_
  walk_at "go"
  have h4:=rep4_len l
  refine⟨l,rfl,by omega,?_⟩
  refine⟨⟨rep4 l,l.length,_,rfl,rfl,by omega,fun st=>by rw[rep4_run];exact hrun st,fun e=>?_⟩,?_⟩
  ·obtain⟨e1,e2⟩:=h4.2 (by omega)
   rw[e1];exact e2
  ·show 2*(rep4 l).toArray.size+(if(l.length:Int)=(((rep4 l).toArray.size:Nat):Int)then 0 else 1)<2*l.toArray.size+(if m=((l.toArray.size:Nat):Int)then 0 else 1)
   simp only[List.size_toArray]
   rw[if_neg hne]
   split<;>omega
 ·have he:m=(l.length:Int):=by simpa using hc
  walk_at "go"
  have e1:(decide (l=[]):Bool)=decide (Rt a):=by
   have h1:=stuck_right (hst he)
   have h2:Rt l↔Rt a:=by unfold Rt;rw[hrun]
   by_cases z:l=[]
   ·rw[decide_eq_true z,decide_eq_true (h2.mp (h1.mpr z))]
   ·rw[decide_eq_false z,decide_eq_false (fun y=>z (h1.mp (h2.mpr y)))]
  rw[e1]
  exact q
theorem sc_law_no_kinds:FnScope ["pool","far","some"] ["pool"] (defScope d_law_no_kinds):=⟨rfl,rfl,rfl,by decide +kernel,rfl,by decide +kernel,by decide +kernel⟩
theorem ok_law_no_kinds(F:Fun K "_law_no_kinds" "_law_no_kinds" d_law_no_kinds f fd)(T:Txt K mg aK cs)(U_law_far:FnU P w K mg base k "_law_far" ["pool"] (spFar04))(U_law_take:FnU P w K mg base k "_law_take" ["pool","many"] (spTake)):FnOk P w K mg base CX0 (k+1) f fd ["pool"] (spNoKinds04 K):=by
 refine F.ok sc_law_no_kinds (fun vs H Q E h=>?_) (fun cdv A outer s H vs Q E hr h=>?_)
 ·obtain⟨p,n,rfl,_⟩:=h;rfl
 obtain⟨p,n,rfl,hD,hn,q⟩:=h
 have hu:=hr.units0
 apply ex_consE
 ·exact rfl
 ·exact(ps_set (i:=1) sc_law_no_kinds.nd rfl (Or.inl rfl) (pe_op op_plus pe_int (pe_fn U_law_far hr (pa_cons (pv 0) pa_nil))))
 apply ex_consB
 ·exact rfl
 ·exact(ps_setB (i:=2) rfl sc_law_no_kinds.nd rfl (Or.inl rfl) (Or.inl rfl) (Pl.con pe_int (Pl.con pe_int (Pl.una (pe_un un_neg pe_int) (Pl.con pe_bl (Pl.con pe_bl (Pl.con pe_non (Pl.con (pe_tx (l:=[50]) (by decide +kernel)) (Pl.con (pe_tx (l:=[]) (by decide +kernel)) (Pl.lst (pe_lst (pa_cons pe_int pa_nil)) (Pl.tup (pe_tup (pa_cons pe_int pa_nil)) (Pl.dct pe_dnewK (Pl.dct (pe_disp (pps_cons pe_int pe_int pps_nil) rfl rfl (by intro h;cases h) (by decide)) (Pl.nam (pv 1) (Pl.bin (pe_op op_sub pe_int (pv 1)) (Pl.con pe_int (Pl.con (pe_tx (l:=[40,41]) (by decide +kernel)) Pl.nil)))))))))))))))))
 apply ex_oneE
 ·exact rfl
 ·exact(ps_ret (pe_ix (ix_A K) (pv 2) (pe_fn U_law_take hr (pa_cons (pv 0) (pa_cons pe_int pa_nil))) (fun _ _=>rfl)))
 walk_at "go"
 refine far04_use hD (by omega) (fun fr H0 f0 f1 d0 s0=>?_)
 walk_at "go"
 obtain⟨far,efar⟩:∃far:Int,far=5+fr:=⟨_,rfl⟩
 rw[<-efar]
 have x1:5<=far:=by omega
 have x2:far<10^31:=by omega
 clear efar f0 f1
 simp only[tAll]
 walk_at "go"
 refine⟨small (show 1<=1000 by decide),fun l1 hl1=>?_⟩
 have t1:=same_new hl1 (.lst [.int 2])
 have hL1:=upd_same (H:=H0) (a:=l1) (o:= .lst [.int 2])
 have n1:=d0.ne hl1
 have d1:=d0.same t1
 generalize upd H0 l1 _=G1 at*
 walk_at "go"
 refine⟨small (show 1<=1000 by decide),fun l2 hl2=>?_⟩
 have t2:=same_new hl2 (.tup [.int 2])
 have hL2:=upd_same (H:=G1) (a:=l2) (o:= .tup [.int 2])
 have n2:=d1.ne hl2
 have d2:=d1.same t2
 generalize upd G1 l2 _=G2 at*
 walk_at "go"
 intro l3 hl3
 have t3:=same_new hl3 (.dK [])
 have hL3:=upd_same (H:=G2) (a:=l3) (o:= .dK [])
 have n3:=d2.ne hl3
 have d3:=d2.same t3
 generalize upd G2 l3 _=G3 at*
 walk_at "go"
 intro l4 hl4
 show tC (.int 2) _ _ _
 walk_at "go"
 refine⟨upd_same,[(.inl 2, .int 2)],rfl,by simp,?_⟩
 have t4:Same G3 (upd (upd G3 l4 (.dK [])) l4 (.dK (mergeK [] [(.inl 2, .int 2)]))):=fun b o z=>by
  rw[upd_ne (ne_of_none z hl4),upd_ne (ne_of_none z hl4)];exact z
 have hL4:(upd (upd G3 l4 (.dK [])) l4 (.dK (mergeK [] [(.inl 2, .int 2)]))) l4=some (.dK [(.inl 2, .int 2)]):=upd_same
 have n4:=d3.ne hl4
 have d4:=d3.same t4
 generalize upd (upd G3 l4 _) l4 _=G4 at*
 walk_at "go"
 refine⟨small (show 16<=1000 by decide),fun l5 hl5=>?_⟩
 obtain⟨L5,eL5⟩:∃L:List V,L=[.int 0, .int 5, .int (-1), .bl true, .bl false, .non,tx [50],tx [], .ref l1, .ref l2, .ref l3, .ref l4, .int far, .int (0-far), .int 6,tx [40,41]]:=⟨_,rfl⟩
 have n14:L5.length=16:=by rw[eL5];rfl
 rw[<-eL5]
 have t5:=same_new hl5 (.lst L5)
 have hL5:=upd_same (H:=G4) (a:=l5) (o:= .lst L5)
 have n5:=d4.ne hl5
 have d5:=d4.same t5
 generalize upd G4 l5 _=G5 at*
 walk_at "go"
 refine take_use d5 (by omega) (by decide) (by decide) (fun r6 H6 r60 r61 d6 s6=>?_)
 have hL1':=s6 _ _ (t5 _ _ (t4 _ _ (t3 _ _ (t2 _ _ hL1)))) n1
 have hL2':=s6 _ _ (t5 _ _ (t4 _ _ (t3 _ _ hL2))) n2
 have hL3':=s6 _ _ (t5 _ _ (t4 _ _ hL3)) n3
 have hL4':=s6 _ _ (t5 _ _ hL4) n4
 obtain⟨v,ev,hv⟩:=at_memV (l:=L5) (i:=r6) r60 (by rw[n14];exact r61)
 refine s_ixL (SqL.of (s6 _ _ hL5 n5)) ev ?_
 have int2:∀x∈[V.int 2],Dt p 1921 1 H6 x:=allD_cons (dt_int (by decide) (by decide) (by decide)) allD_nil
 have AL:∀x∈L5,NoK K H6 x/\Dt p 4000 3 H6 x:=by
  rw[eL5]
  have nt:∀ {x:V} {ty:String},TyOf K H6 x (.type ty)->ty∈plainTy->(∀i,x≠ .int i)->NoK K H6 x:=fun h1 h2 h3=>noN_ty h1 h2 (fun i e=>absurd e (h3 i))
  have i0:∀i:Int,(i<1\/4<i)->i.natAbs<10^60->NoK K H6 (.int i)/\Dt p 4000 3 H6 (.int i):=fun i h1 h2=>⟨noN_int h1,dt_int h2 (by decide) (by decide)⟩
  have s0:∀a:List Nat,Low a->a.length<=10->NoK K H6 (tx a)/\Dt p 4000 3 H6 (tx a):=fun a h1 h2=>⟨nt (.str _) (by decide) (fun _ z=>nomatch z),dt_tx h1 (by omega) (by decide)⟩
  have b0:∀b:Bool,NoK K H6 (.bl b)/\Dt p 4000 3 H6 (.bl b):=fun b=>⟨nt (.bl _) (by decide) (fun _ z=>nomatch z),dt_bl (by decide) (by decide)⟩
  refine allD_cons (i0 0 (by decide) (by decide)) (allD_cons (i0 5 (by decide) (by decide)) (allD_cons (i0 (-1) (by decide) (by decide)) (allD_cons (b0 true) (allD_cons (b0 false) (allD_cons ⟨nt .non (by decide) (fun _ z=>nomatch z),dt_non (by decide) (by decide)⟩ (allD_cons (s0 _ (by unfold Low;decide) (by decide)) (allD_cons (s0 _ (by unfold Low;decide) (by decide))
   (allD_cons ⟨nt (.lst hL1') (by decide) (fun _ z=>nomatch z),dt_lst hL1' n1 int2 (by decide) (by decide)⟩ (allD_cons ⟨nt (.tup hL2') (by decide) (fun _ z=>nomatch z),dt_tup hL2' n2 int2 (by decide) (by decide)⟩ (allD_cons ⟨nt (.dK hL3') (by decide) (fun _ z=>nomatch z),dt_dc0 hL3' n3 (by decide) (by decide)⟩
   (allD_cons ⟨nt (.dK hL4') (by decide) (fun _ z=>nomatch z),⟨.dict [(.int 2, .int 2)], .dct hL4' n4 (.cons ⟨.int 2, .int 2⟩ .nil),fit_d22.mono (by decide) (by decide)⟩⟩ (allD_cons (i0 far (by omega) (by omega)) (allD_cons (i0 (0-far) (by omega) (by omega)) (allD_cons (i0 6 (by decide) (by decide)) (allD_cons (s0 _ (by unfold Low;decide) (by decide)) allD_nil)))))))))))))))
 obtain⟨a1,a2⟩:=AL v hv
 exact q v H6 a1 a2 (d6.mono (by omega)) (s0.trans ((SameBut1.of (t1.trans (t2.trans (t3.trans (t4.trans t5))))).trans s6))
theorem sc_law_no_row:FnScope ["pool","k","row","at","signs","sign","other","some"] ["pool","k","row"] (defScope d_law_no_row):=⟨rfl,rfl,rfl,by decide +kernel,rfl,by decide +kernel,by decide +kernel⟩
theorem ok_law_no_row(F:Fun K "_law_no_row" "_law_no_row" d_law_no_row f fd)(T:Txt K mg aK cs)(U_law_take:FnU P w K mg base k "_law_take" ["pool","many"] (spTake)):FnOk P w K mg base CX0 (k+1) f fd ["pool","k","row"] (spNoRow):=by
 refine F.ok sc_law_no_row (fun vs H Q E h=>?_) (fun cdv A outer s H vs Q E hr h=>?_)
 ·obtain⟨p,n,k,a,rfl,_⟩:=h;rfl
 obtain⟨p,n,kk,a,rfl,hp,hn,ha,hlo,q⟩:=h
 have hu:=hr.units0
 refine⟨_,(pss_cons (ps_set (i:=3) sc_law_no_row.nd rfl (Or.inl rfl) (pe_fn U_law_take hr (pa_cons (pv 0) (pa_cons (pe_op op_plus (pe_callB (call_lenA K) rfl T.n_len PySem.boot_len (pa_cons (pv 2) pa_nil)) pe_int) pa_nil)))) (pss_cons (ps_set (i:=4) sc_law_no_row.nd rfl (Or.inl rfl) (pe_tx (l:=[33,34,35,36,38,39,42,43,44,45,46,47,48,49,50,51,52,53,54,55,56,57,58,59,61,64,65,66,67,68,69,70,71,72,73,74,75,76,77,78,79,80,81,82,83,84,85,86,87,88,89,90,92,94,95,96,97,98,99,100,101,102,103,104,105,106,107,108,109,110,111,112,113,114,115,116,117,118,119,120,121,122,124,126,32,9,10]) (by decide +kernel))) (pss_cons (ps_set (i:=5) sc_law_no_row.nd rfl (Or.inl rfl) (pe_ix (ix_A K) (pv 4) (pe_fn U_law_take hr (pa_cons (pv 0) (pa_cons (pe_callB (call_lenA K) rfl T.n_len PySem.boot_len (pa_cons (pv 4) pa_nil)) pa_nil))) (fun _ _=>rfl))) (pss_cons (ps_set (i:=6) sc_law_no_row.nd rfl (Or.inl rfl) (pe_ix (ix_A K) (pe_tx (l:=[40,41,91,93,123,125,60,62]) (by decide +kernel)) (pe_fn U_law_take hr (pa_cons (pv 0) (pa_cons pe_int pa_nil))) (fun _ _=>rfl))) (pss_cons (ps_set (i:=7) sc_law_no_row.nd rfl (Or.inl rfl) (pe_op op_times (pe_lst (pa_cons (pe_op op_plus (pe_op op_plus (pe_slice (sl_A K) (pv 2) po_none (po_some (pv 3))) (pv 5)) (pe_slice (sl_A K) (pv 2) (po_some (pe_op op_plus (pv 3) pe_int)) po_none)) pa_nil)) pe_int)) (pss_cons (ps_set (i:=7) sc_law_no_row.nd rfl (Or.inl rfl) (pe_op op_plus (pv 7) (pe_op op_times (pe_lst (pa_cons (pe_op op_plus (pe_op op_plus (pe_slice (sl_A K) (pv 2) po_none (po_some (pv 3))) (pv 5)) (pe_slice (sl_A K) (pv 2) (po_some (pv 3)) po_none)) pa_nil)) pe_int))) (pss_cons (ps_set (i:=7) sc_law_no_row.nd rfl (Or.inl rfl) (pe_op op_plus (pv 7) (pe_op op_times (pe_lst (pa_cons (pe_op op_plus (pe_op op_plus (pe_slice (sl_A K) (pv 2) po_none (po_some (pv 3))) (pv 6)) (pe_slice (sl_A K) (pv 2) (po_some (pe_op op_plus (pv 3) pe_int)) po_none)) pa_nil)) pe_int))) (pss_cons (ps_set (i:=7) sc_law_no_row.nd rfl (Or.inl rfl) (pe_op op_plus (pv 7) (pe_lst (pa_cons (pe_op op_plus (pe_op op_plus (pv 2) (pe_op op_times (pe_tx (l:=[40,41]) (by decide +kernel)) pe_int)) (pe_tx (l:=[63]) (by decide +kernel))) (pa_cons (pe_op op_times (pe_tx (l:=[63]) (by decide +kernel)) pe_int) (pa_cons (pe_op op_times (pe_tx (l:=[40]) (by decide +kernel)) pe_int) (pa_cons (pe_op op_plus (pv 2) (pe_tx (l:=[32]) (by decide +kernel))) (pa_cons (pe_op op_plus (pe_tx (l:=[10]) (by decide +kernel)) (pv 2)) (pa_cons pe_non (pa_cons pe_int (pa_cons pe_bl (pa_cons (pe_lst (pa_cons (pv 2) pa_nil)) (pa_cons (pe_tup (pa_cons (pv 2) pa_nil)) pa_nil))))))))))))) (pss_cons (ps_set (i:=7) sc_law_no_row.nd rfl (Or.inl rfl) (pe_op op_plus (pv 7) (pe_lst (pa_cons (pe_callTy (call_listS K rfl) rfl T.n_list PyProof.Rows.boot_list (pa_cons (pv 2) pa_nil)) (pa_cons pe_dnewK (pa_cons (pe_disp (pps_cons (pv 2) pe_int pps_nil) rfl rfl (by intro h;cases h) (by decide)) (pa_cons (pe_lst pa_nil) (pa_cons pe_int pa_nil)))))))) (pss_one (ps_ret (pe_ix (ix_A K) (pv 7) (pe_fn U_law_take hr (pa_cons (pv 0) (pa_cons pe_int pa_nil))) (fun _ _=>rfl))))))))))))),?_⟩
 walk_at "go"
 refine take_use hp (by omega) (by omega) (by omega) (fun r1 H1 r10 r11 hp1 s1=>?_)
 obtain⟨at',hat⟩:∃at':Nat,r1=at':=⟨r1.toNat,by omega⟩
 subst hat
 walk_at "go"
 refine s_lenT (a:=odd) (small (by decide)) ?_
 walk_at "go"
 refine take_use (m:=((odd.length:Nat):Int)) hp1 (by omega) (by decide) (by decide) (fun r2 H2 r20 r21 hp2 s2=>?_)
 obtain⟨c,hc,hcm⟩:=at_mem (l:=odd) r20 r21
 walk_at "go"
 refine s_ixT (a:=odd) (small (by decide)) hc ?_
 walk_at "go"
 refine take_use (m:=8) hp2 (by omega) (by decide) (by decide) (fun r3 H3 r30 r31 hp3 s3=>?_)
 obtain⟨d,hd,hdm⟩:=at_mem (l:=[40,41,91,93,123,125,60,62]) r30 r31
 walk_at "go"
 refine s_ixT (small (by decide)) hd ?_
 have hc8:=odd_low c hcm
 have hd8:=brs_low d hdm
 have lt1:(a.take at').length<=40:=by rw[List.length_take];omega
 have lt2:(a.drop (at'+1)).length<=40:=by rw[List.length_drop];omega
 have lt3:(a.drop at').length<=40:=by rw[List.length_drop];omega
 have ea1:((at':Int)+1)=((at'+1:Nat):Int):=by omega
 have u3:SameBut1 p H H3:=s1.trans (s2.trans s3)
 walk_at "go"
 rw[cut_to _ (by omega),Int.toNat_natCast]
 first|refine s_addT (small (by rw[List.length_singleton];omega)) ?_ |skip
 walk_at "go"
 rw[ea1,cut_from]
 first|refine s_addT (small (by rw[List.length_append,List.length_singleton];omega)) ?_ |skip
 walk_at "go"
 refine⟨small (show 1<=1000 by decide),fun l1 hl1=>?_⟩
 walk_at "go"
 refine s_rep (xs:=[tx (a.take at'++[c]++a.drop (at'+1))]) upd_same (by decide) (by decide) (small (by simp)) (fun l2 hl2=>?_)
 have t2:=(same_new hl1 (.lst [tx (a.take at'++[c]++a.drop (at'+1))])).trans (same_new hl2 (.lst (List.replicate (4:Int).toNat [tx (a.take at'++[c]++a.drop (at'+1))]).flatten))
 have hL2:(upd (upd H3 l1 (.lst [tx (a.take at'++[c]++a.drop (at'+1))])) l2 (.lst (List.replicate (4:Int).toNat [tx (a.take at'++[c]++a.drop (at'+1))]).flatten)) l2=some (.lst [tx (a.take at'++[c]++a.drop (at'+1)),tx (a.take at'++[c]++a.drop (at'+1)),tx (a.take at'++[c]++a.drop (at'+1)),tx (a.take at'++[c]++a.drop (at'+1))]):=upd_same
 have f1:Fine (a.take at'++[c]++a.drop (at'+1)):=fine_put hlo ha hc8
 generalize upd (upd H3 l1 _) l2 _=G1 at*
 have A1:∀v∈[tx (a.take at'++[c]++a.drop (at'+1)),tx (a.take at'++[c]++a.drop (at'+1)),tx (a.take at'++[c]++a.drop (at'+1)),tx (a.take at'++[c]++a.drop (at'+1))],Th p G1 v:=all_cons (.txt _ f1) (all_cons (.txt _ f1) (all_cons (.txt _ f1) (all_cons (.txt _ f1) all_nil)))
 have B1:∀v∈[tx (a.take at'++[c]++a.drop (at'+1)),tx (a.take at'++[c]++a.drop (at'+1)),tx (a.take at'++[c]++a.drop (at'+1)),tx (a.take at'++[c]++a.drop (at'+1))],Nw H v:=nall_cons (nw_tx _ _) (nall_cons (nw_tx _ _) (nall_cons (nw_tx _ _) (nall_cons (nw_tx _ _) nall_nil)))
 have n1:[tx (a.take at'++[c]++a.drop (at'+1)),tx (a.take at'++[c]++a.drop (at'+1)),tx (a.take at'++[c]++a.drop (at'+1)),tx (a.take at'++[c]++a.drop (at'+1))].length=4:=rfl
 generalize [tx (a.take at'++[c]++a.drop (at'+1)),tx (a.take at'++[c]++a.drop (at'+1)),tx (a.take at'++[c]++a.drop (at'+1)),tx (a.take at'++[c]++a.drop (at'+1))]=L1 at*
 have w1:SameBut1 p H G1:=u3.trans (SameBut1.of t2)
 have p1:PoolAt G1 p (n+3):=hp3.same t2
 clear t2 hl1 hl2
 walk_at "go"
 rw[cut_to _ (by omega),Int.toNat_natCast]
 first|refine s_addT (small (by rw[List.length_singleton];omega)) ?_ |skip
 walk_at "go"
 rw[cut_from]
 first|refine s_addT (small (by rw[List.length_append,List.length_singleton];omega)) ?_ |skip
 walk_at "go"
 have f2:Fine (a.take at'++[c]++a.drop at'):=fine_put hlo ha hc8
 generalize a.take at'++[c]++a.drop at'=b2 at f2⊢
 refine⟨small (show 1<=1000 by decide),fun l3 hl3=>?_⟩
 walk_at "go"
 refine s_rep (xs:=[tx b2]) upd_same (by decide) (by decide) (small (by simp)) (fun l4 hl4=>?_)
 have t4:=(same_new hl3 (.lst [tx b2])).trans (same_new hl4 (.lst (List.replicate (2:Int).toNat [tx b2]).flatten))
 have hL4:(upd (upd G1 l3 (.lst [tx b2])) l4 (.lst (List.replicate (2:Int).toNat [tx b2]).flatten)) l4=some (.lst [tx b2,tx b2]):=upd_same
 generalize upd (upd G1 l3 _) l4 _=G2 at*
 walk_at "go"
 refine s_cat (t4 _ _ hL2) hL4 (small (by rw[n1];simp)) (fun l5 hl5=>?_)
 have t5:=t4.trans (same_new hl5 (.lst (L1++[tx b2,tx b2])))
 have hL5:(upd G2 l5 (.lst (L1++[tx b2,tx b2]))) l5=some (.lst (L1++[tx b2,tx b2])):=upd_same
 generalize upd G2 l5 _=G3 at*
 have A3:∀v∈L1++[tx b2,tx b2],Th p G3 v:=all_app (all_same A1 t5) (all_cons (.txt _ f2) (all_cons (.txt _ f2) all_nil))
 have B3:∀v∈L1++[tx b2,tx b2],Nw H v:=nall_app B1 (nall_cons (nw_tx _ _) (nall_cons (nw_tx _ _) nall_nil))
 have n3:(L1++[tx b2,tx b2]).length=6:=by rw[List.length_append,n1];rfl
 generalize L1++[tx b2,tx b2]=L3 at*
 have w3:SameBut1 p H G3:=w1.trans (SameBut1.of t5)
 have p3:PoolAt G3 p (n+3):=p1.same t5
 clear A1 t4 t5 hL2 hL4 w1 p1 hl3 hl4 hl5
 walk_at "go"
 rw[cut_to _ (by omega),Int.toNat_natCast]
 first|refine s_addT (small (by rw[List.length_singleton];omega)) ?_ |skip
 walk_at "go"
 rw[ea1,cut_from]
 first|refine s_addT (small (by rw[List.length_append,List.length_singleton];omega)) ?_ |skip
 walk_at "go"
 have f4:Fine (a.take at'++[d]++a.drop (at'+1)):=fine_put hlo ha hd8
 generalize a.take at'++[d]++a.drop (at'+1)=b4 at f4⊢
 refine⟨small (show 1<=1000 by decide),fun l3 hl3=>?_⟩
 walk_at "go"
 refine s_rep (xs:=[tx b4]) upd_same (by decide) (by decide) (small (by simp)) (fun l4 hl4=>?_)
 have t4:=(same_new hl3 (.lst [tx b4])).trans (same_new hl4 (.lst (List.replicate (2:Int).toNat [tx b4]).flatten))
 have hL4:(upd (upd G3 l3 (.lst [tx b4])) l4 (.lst (List.replicate (2:Int).toNat [tx b4]).flatten)) l4=some (.lst [tx b4,tx b4]):=upd_same
 generalize upd (upd G3 l3 _) l4 _=G4 at*
 walk_at "go"
 refine s_cat (t4 _ _ hL5) hL4 (small (by rw[n3];simp)) (fun l6 hl6=>?_)
 have t5:=t4.trans (same_new hl6 (.lst (L3++[tx b4,tx b4])))
 have hL6:(upd G4 l6 (.lst (L3++[tx b4,tx b4]))) l6=some (.lst (L3++[tx b4,tx b4])):=upd_same
 generalize upd G4 l6 _=G5 at*
 have A5:∀v∈L3++[tx b4,tx b4],Th p G5 v:=all_app (all_same A3 t5) (all_cons (.txt _ f4) (all_cons (.txt _ f4) all_nil))
 have B5:∀v∈L3++[tx b4,tx b4],Nw H v:=nall_app B3 (nall_cons (nw_tx _ _) (nall_cons (nw_tx _ _) nall_nil))
 have n5:(L3++[tx b4,tx b4]).length=8:=by rw[List.length_append,n3];rfl
 generalize L3++[tx b4,tx b4]=L5 at*
 have w5:SameBut1 p H G5:=w3.trans (SameBut1.of t5)
 have p5:PoolAt G5 p (n+3):=p3.same t5
 clear A3 t4 t5 hL5 hL4 w3 p3 hl3 hl4 hl6
 have fa:Fine a:=⟨hlo,by omega⟩
 walk_at "go"
 refine s_mulT (by decide) (by decide) (by decide) ?_
 walk_at "go"
 have g1:(List.replicate (20:Int).toNat [40,41]).flatten.length=40:=by rw[rep_len];rfl
 have g1l:Low (List.replicate (20:Int).toNat [40,41]).flatten:=low_rep (by unfold Low;decide)
 generalize(List.replicate (20:Int).toNat [40,41]).flatten=c1 at g1 g1l⊢
 first|refine s_addT (small (by omega)) ?_ |skip
 walk_at "go"
 first|refine s_addT (small (by rw[List.length_append,List.length_singleton];omega)) ?_ |skip
 walk_at "go"
 have h1:Fine (a++c1++[63]):=⟨low_app (low_app hlo g1l) (low_one (by decide)),by simp only[List.length_append,List.length_singleton];omega⟩
 generalize a++c1++[63]=e1 at h1⊢
 refine s_mulT (by decide) (by decide) (by decide) ?_
 walk_at "go"
 have h2:Fine (List.replicate (41:Int).toNat [63]).flatten:=⟨low_rep (by unfold Low;decide),by rw[rep_len];decide⟩
 generalize(List.replicate (41:Int).toNat [63]).flatten=e2 at h2⊢
 refine s_mulT (by decide) (by decide) (by decide) ?_
 walk_at "go"
 have h3:Fine (List.replicate (41:Int).toNat [40]).flatten:=⟨low_rep (by unfold Low;decide),by rw[rep_len];decide⟩
 generalize(List.replicate (41:Int).toNat [40]).flatten=e3 at h3⊢
 first|refine s_addT (small (by rw[List.length_singleton];omega)) ?_ |skip
 walk_at "go"
 have h4:Fine (a++[32]):=⟨low_app hlo (low_one (by decide)),by simp only[List.length_append,List.length_singleton];omega⟩
 have h5:Fine ([10]++a):=⟨low_app (low_one (by decide)) hlo,by simp only[List.length_append,List.length_singleton];omega⟩
 first|refine s_addT (small (by rw[List.length_singleton];omega)) ?_ |skip
 walk_at "go"
 refine⟨small (show 1<=1000 by decide),fun q1 hq1=>?_⟩
 walk_at "go"
 refine⟨small (show 1<=1000 by decide),fun q2 hq2=>?_⟩
 walk_at "go"
 refine⟨small (show 10<=1000 by decide),fun l7 hl7=>?_⟩
 have np:∀ {G:Hp} {x:Addr},PoolAt G p (n+3)->G x=none->x≠p:=fun h hx=>h.ne hx
 have z1:Nw H (V.ref q1):=nw_ref w5 hq1 (np p5 hq1)
 have k1:=same_new hq1 (.lst [tx a])
 have k2:=same_new hq2 (.tup [tx a])
 have nq1:=np p5 hq1
 have nq2:=np (p5.same k1) hq2
 have z2:Nw H (V.ref q2):=nw_ref (w5.trans (SameBut1.of k1)) hq2 nq2
 have k3:=same_new hl7 (.lst [tx e1,tx e2,tx e3,tx (a++[32]),tx ([10]++a), .non, .int 0, .bl true, .ref q1, .ref q2])
 have v1:=k3 _ _ (k2 _ _ (upd_same (H:=G5) (a:=q1) (o:= .lst [tx a])))
 have v2:=k3 _ _ (upd_same (H:=upd G5 q1 (.lst [tx a])) (a:=q2) (o:= .tup [tx a]))
 have v3:=upd_same (H:=upd (upd G5 q1 (.lst [tx a])) q2 (.tup [tx a])) (a:=l7) (o:= .lst [tx e1,tx e2,tx e3,tx (a++[32]),tx ([10]++a), .non, .int 0, .bl true, .ref q1, .ref q2])
 have k4:=(k1.trans k2).trans k3
 generalize upd (upd (upd G5 q1 _) q2 _) l7 _=G6 at*
 walk_at "go"
 refine s_cat (k4 _ _ hL6) v3 (small (by rw[n5];simp)) (fun l8 hl8=>?_)
 have k5:=same_new hl8 (.lst (L5++[tx e1,tx e2,tx e3,tx (a++[32]),tx ([10]++a), .non, .int 0, .bl true, .ref q1, .ref q2]))
 have hL8:=upd_same (H:=G6) (a:=l8) (o:= .lst (L5++[tx e1,tx e2,tx e3,tx (a++[32]),tx ([10]++a), .non, .int 0, .bl true, .ref q1, .ref q2]))
 have u1:=k5 _ _ v1
 have u2:=k5 _ _ v2
 have k6:=k4.trans k5
 generalize upd G6 l8 _=G7 at*
 have one:∀b∈[a],Fine b:=fun b hb=>by rw[List.mem_singleton.mp hb];exact fa
 have A7:∀v∈L5++[tx e1,tx e2,tx e3,tx (a++[32]),tx ([10]++a), .non, .int 0, .bl true, .ref q1, .ref q2],Th p G7 v:=
  all_app (all_same A5 k6) (all_cons (.txt _ h1) (all_cons (.txt _ h2) (all_cons (.txt _ h3) (all_cons (.txt _ h4) (all_cons (.txt _ h5) (all_cons .non (all_cons (.int 0 (.inl rfl)) (all_cons (.bl true) (all_cons (.lst (l:=[a]) u1 nq1 one (by simp)) (all_cons (.tup (l:=[a]) u2 nq2 one (by simp)) all_nil))))))))))
 have B7:∀v∈L5++[tx e1,tx e2,tx e3,tx (a++[32]),tx ([10]++a), .non, .int 0, .bl true, .ref q1, .ref q2],Nw H v:=nall_app B5 (nall_cons (nw_tx _ _) (nall_cons (nw_tx _ _) (nall_cons (nw_tx _ _) (nall_cons (nw_tx _ _) (nall_cons (nw_tx _ _) (nall_cons (fun _ e=>nomatch e) (nall_cons (fun _ e=>nomatch e) (nall_cons (fun _ e=>nomatch e) (nall_cons z1 (nall_cons z2 nall_nil))))))))))
 have n7:(L5++[tx e1,tx e2,tx e3,tx (a++[32]),tx ([10]++a), .non, .int 0, .bl true, .ref q1, .ref q2]).length=18:=by rw[List.length_append,n5];rfl
 generalize L5++[tx e1,tx e2,tx e3,tx (a++[32]),tx ([10]++a), .non, .int 0, .bl true, .ref q1, .ref q2]=L7 at*
 have w7:SameBut1 p H G7:=w5.trans (SameBut1.of k6)
 have p7:PoolAt G7 p (n+3):=p5.same k6
 clear A5 z1 z2 k1 k2 k3 k4 k5 k6 v1 v2 v3 u1 u2 hL6 w5 p5 nq1 nq2 hq1 hq2 hl7 hl8
 walk_at "go"
 refine s_listS (by omega) (fun q1 hq1=>?_)
 walk_at "go"
 intro q2 hq2
 walk_at "go"
 intro q3 hq3
 show tVar 2 _ _ _
 walk_at "go"
 refine⟨upd_same,[(.inr ⟨a.toArray⟩, .int 1)],rfl,by simp,?_⟩
 have j1:=same_new hq1 (.lst ((a.map fun c=>[c]).map tx))
 have j2:=same_new hq2 (.dK [])
 have nq1:=p7.ne hq1
 have nq2:=(p7.same j1).ne hq2
 have nq3:=((p7.same j1).same j2).ne hq3
 have z1:Nw H (V.ref q1):=nw_ref w7 hq1 nq1
 have z2:Nw H (V.ref q2):=nw_ref (w7.trans (SameBut1.of j1)) hq2 nq2
 have z3:Nw H (V.ref q3):=nw_ref ((w7.trans (SameBut1.of j1)).trans (SameBut1.of j2)) hq3 nq3
 have j3:Same (upd (upd G7 q1 (.lst ((a.map fun c=>[c]).map tx))) q2 (.dK [])) (upd (upd (upd (upd G7 q1 (.lst ((a.map fun c=>[c]).map tx))) q2 (.dK [])) q3 (.dK [])) q3 (.dK (mergeK [] [(.inr ⟨a.toArray⟩, .int 1)]))):=fun b o z=>by
  rw[upd_ne (ne_of_none z hq3),upd_ne (ne_of_none z hq3)];exact z
 have v1:=j3 _ _ (j2 _ _ (upd_same (H:=G7) (a:=q1) (o:= .lst ((a.map fun c=>[c]).map tx))))
 have v2:=j3 _ _ (upd_same (H:=upd G7 q1 (.lst ((a.map fun c=>[c]).map tx))) (a:=q2) (o:= .dK []))
 have v3:(upd (upd (upd (upd G7 q1 (.lst ((a.map fun c=>[c]).map tx))) q2 (.dK [])) q3 (.dK [])) q3 (.dK (mergeK [] [(.inr ⟨a.toArray⟩, .int 1)]))) q3=some (.dK [(.inr ⟨a.toArray⟩, .int 1)]):=upd_same
 have j4:=(j1.trans j2).trans j3
 generalize upd (upd (upd (upd G7 q1 _) q2 _) q3 _) q3 _=G8 at*
 walk_at "go"
 refine⟨small (show 0<=1000 by decide),fun q4 hq4=>?_⟩
 walk_at "go"
 refine⟨small (show 5<=1000 by decide),fun l9 hl9=>?_⟩
 have nq4:=(p7.same j4).ne hq4
 have z4:Nw H (V.ref q4):=nw_ref (w7.trans (SameBut1.of j4)) hq4 nq4
 have i1:=same_new hq4 (.lst [])
 have i2:=same_new hl9 (.lst [V.ref q1,V.ref q2,V.ref q3,V.ref q4,V.int 7])
 have x1:=i2 _ _ (i1 _ _ v1)
 have x2:=i2 _ _ (i1 _ _ v2)
 have x3:=i2 _ _ (i1 _ _ v3)
 have x4:=i2 _ _ (upd_same (H:=G8) (a:=q4) (o:= .lst []))
 have x5:=upd_same (H:=upd G8 q4 (.lst [])) (a:=l9) (o:= .lst [V.ref q1,V.ref q2,V.ref q3,V.ref q4,V.int 7])
 have i3:=(j4.trans i1).trans i2
 generalize upd (upd G8 q4 _) l9 _=G9 at*
 walk_at "go"
 refine s_cat (i3 _ _ hL8) x5 (small (by rw[n7];simp)) (fun l10 hl10=>?_)
 have i4:=same_new hl10 (.lst (L7++[V.ref q1,V.ref q2,V.ref q3,V.ref q4,V.int 7]))
 have hL10:=upd_same (H:=G9) (a:=l10) (o:= .lst (L7++[V.ref q1,V.ref q2,V.ref q3,V.ref q4,V.int 7]))
 have y1:=i4 _ _ x1
 have y2:=i4 _ _ x2
 have y3:=i4 _ _ x3
 have y4:=i4 _ _ x4
 have i5:=i3.trans i4
 generalize upd G9 l10 _=G10 at*
 have each:∀b∈a.map (fun c=>[c]),Fine b:=fun b hb=>by
  obtain⟨c,hc,rfl⟩:=List.mem_map.mp hb
  exact⟨low_one (hlo c hc),by simp⟩
 have A10:∀v∈L7++[V.ref q1,V.ref q2,V.ref q3,V.ref q4,V.int 7],Th p G10 v:=
  all_app (all_same A7 i5) (all_cons (.lst y1 nq1 each (by rw[List.length_map];omega)) (all_cons (.dc0 y2 nq2) (all_cons (.dc1 y3 nq3 fa) (all_cons (.lst (l:=[]) y4 nq4 (fun _ z=>nomatch z) (by simp)) (all_cons (.int 7 (.inr rfl)) all_nil)))))
 have B10:∀v∈L7++[V.ref q1,V.ref q2,V.ref q3,V.ref q4,V.int 7],Nw H v:=nall_app B7 (nall_cons z1 (nall_cons z2 (nall_cons z3 (nall_cons z4 (nall_cons (fun _ e=>nomatch e) nall_nil)))))
 have n10:(L7++[V.ref q1,V.ref q2,V.ref q3,V.ref q4,V.int 7]).length=23:=by rw[List.length_append,n7];rfl
 generalize L7++[V.ref q1,V.ref q2,V.ref q3,V.ref q4,V.int 7]=L10 at*
 walk_at "go"
 refine take_use (m:=23) (p7.same i5) (by omega) (by decide) (by decide) (fun r4 H4 r40 r41 hp4 s4=>?_)
 obtain⟨v,hv,hvm⟩:=at_memV (l:=L10) r40 (by rw[n10];exact r41)
 have nl:l10≠p:=(p7.same i3).ne hl10
 refine s_ixL (SqL.of (s4 _ _ hL10 nl)) hv ?_
 exact q v H4 ((A10 v hvm).keep s4) (B10 v hvm) hp4 ((w7.trans (SameBut1.of i5)).trans s4)
theorem sc_law_tree:FnScope ["pool","k","most","left","way","found","every","turn","at","within"] ["pool","k","most"] (defScope d_law_tree):=⟨rfl,rfl,rfl,by decide +kernel,rfl,by decide +kernel,by decide +kernel⟩
theorem ok_law_tree(F:Fun K "_law_tree" "_law_tree" d_law_tree f fd)(T:Txt K mg aK cs)(U_law_take:FnU P w K mg base k "_law_take" ["pool","many"] (spTake)):FnOk P w K mg base CX0 (k+1) f fd ["pool","k","most"] (spMkB):=by
 refine F.ok sc_law_tree (fun vs H Q E h=>?_) (fun cdv A outer s H vs Q E hr h=>?_)
 ·obtain⟨p,n,k,rfl,_⟩:=h;rfl
 obtain⟨p,n,kk,rfl,hp,hn,k1,k4,q⟩:=h
 have hu:=hr.units0
 have hp0:H p≠none:=by obtain⟨a,b,c,e,_⟩:=hp;rw[e];simp
 refine⟨_,(pss_cons (ps_set (i:=3) sc_law_tree.nd rfl (Or.inl rfl) (pe_ix (ix_A K) (pe_lst (pa_cons (pe_fn U_law_take hr (pa_cons (pv 0) (pa_cons (pe_op op_plus (pv 2) pe_int) pa_nil))) (pa_cons (pe_fn U_law_take hr (pa_cons (pv 0) (pa_cons (pe_op op_plus (pe_callB (call_minA rfl) rfl T.n_min PyProof.Rows.boot_min (pa_cons (pv 2) (pa_cons pe_int pa_nil))) pe_int) pa_nil))) (pa_cons (pv 2) pa_nil)))) (pe_fn U_law_take hr (pa_cons (pv 0) (pa_cons pe_int pa_nil))) (fun _ _=>rfl))) (pss_cons (ps_set (i:=4) sc_law_tree.nd rfl (Or.inl rfl) (pe_fn U_law_take hr (pa_cons (pv 0) (pa_cons pe_int pa_nil)))) (pss_cons (ps_set (i:=5) sc_law_tree.nd rfl (Or.inl rfl) (pe_lst pa_nil)) (pss_cons (ps_set (i:=6) sc_law_tree.nd rfl (Or.inl rfl) (pe_lst (pa_cons (pv 5) pa_nil))) (pss_cons (ps_for PassesOwn.never rfl (pi_range1 rfl T.n_range (pa_cons (pv 3) pa_nil)) (pg_name (i:=7) sc_law_tree.nd rfl (Or.inl rfl)) (pss_cons (ps_set (i:=8) sc_law_tree.nd rfl (Or.inl rfl) (pe_ix (ix_A K) (pe_lst (pa_cons pe_int (pa_cons (pe_op op_sub (pe_callB (call_lenA K) rfl T.n_len PySem.boot_len (pa_cons (pv 6) pa_nil)) pe_int) (pa_cons (pe_fn U_law_take hr (pa_cons (pv 0) (pa_cons (pe_callB (call_lenA K) rfl T.n_len PySem.boot_len (pa_cons (pv 6) pa_nil)) pa_nil))) (pa_cons (pe_fn U_law_take hr (pa_cons (pv 0) (pa_cons (pe_callB (call_minA rfl) rfl T.n_min PyProof.Rows.boot_min (pa_cons pe_int (pa_cons (pe_callB (call_lenA K) rfl T.n_len PySem.boot_len (pa_cons (pv 6) pa_nil)) pa_nil))) pa_nil))) pa_nil))))) (pv 4) (fun _ _=>rfl))) (pss_cons (ps_set (i:=9) sc_law_tree.nd rfl (Or.inl rfl) (pe_lst pa_nil)) (pss_cons (ps_expr (pe_bmK K PySem.F.plainAttrs_list PySem.F.slot_list_append PySem.F.type_list_append mt_append (pe_ix (ix_A K) (pv 6) (pv 8) (fun _ _=>rfl)) (pa_cons (pe_tup (pa_cons (pe_fn U_law_take hr (pa_cons (pv 0) (pa_cons (pv 1) pa_nil))) (pa_cons (pv 9) pa_nil))) pa_nil))) (pss_one (ps_expr (pe_bmK K PySem.F.plainAttrs_list PySem.F.slot_list_append PySem.F.type_list_append mt_append (pv 6) (pa_cons (pv 9) pa_nil)))))))) (pss_one (ps_ret (pv 5)))))))),?_⟩
 walk_at "go"
 refine take_use hp (by omega) (by omega) (by omega) (fun r1 H1 a1 b1 p1 s1=>?_)
 walk_at "go"
 rw[show(if(4:Int)<20 then(4:Int)else 20)=4 from rfl]
 refine take_use p1 (by omega) (by omega) (by omega) (fun r2 H2 a2 b2 p2 s2=>?_)
 walk_at "go"
 refine⟨small (show 3<=1000 by decide),fun z1 hz1=>?_⟩
 have t3:=same_new hz1 (.lst [.int r1, .int r2, .int 20])
 have g3:(upd H2 z1 (.lst [.int r1, .int r2, .int 20])) z1=_:=upd_same
 have nz1:z1≠p:=fun z=>by obtain⟨a,b,c,e,_⟩:=p2;rw[z,e]at hz1;cases hz1
 have p3:=p2.same t3
 have s03:=(s1.trans s2).trans (SameBut1.of t3)
 generalize upd H2 z1 _=H3 at*
 walk_at "go"
 refine take_use p3 (by omega) (by omega) (by omega) (fun r4 H4 a4 b4 p4 s4=>?_)
 have s04:=s03.trans s4
 walk_at "go"
 obtain⟨lf,elf,hlf⟩:=pick3 (a:=r1) (b:=r2) (c:=20) (m:=20) a4 b4 ⟨a1,by omega⟩ ⟨a2,by omega⟩ ⟨by omega,by omega⟩
 refine s_ixL (SqL.of (s4 _ _ g3 nz1)) elf ?_
 walk_at "go"
 refine take_use p4 (by omega) (by omega) (by omega) (fun way H5 a5 b5 p5 s5=>?_)
 have s05:=s04.trans s5
 walk_at "go"
 refine⟨small (show 0<=1000 by decide),fun a ha=>?_⟩
 have t6:=same_new ha (.lst [])
 have g6:(upd H5 a (.lst [])) a=some (.lst []):=upd_same
 have na:a≠p:=fun z=>by obtain⟨a,b,c,e,_⟩:=p5;rw[z,e]at ha;cases ha
 have fr:∀ {G:Hp} {x:Addr},SameBut1 p H G->x≠p->G x=none->H x=none:=fun{G x} s nx hx=>by
  cases e:H x with
  |none=>rfl
  |some o=>rw[s _ _ e nx]at hx;cases hx
 have ha0:=fr s05 na ha
 have p6:=p5.same t6
 have s06:=s05.trans (SameBut1.of t6)
 generalize upd H5 a _=H6 at*
 walk_at "go"
 refine⟨small (show 1<=1000 by decide),fun Ev hEv=>?_⟩
 have t7:=same_new hEv (.lst [.ref a])
 have g7:(upd H6 Ev (.lst [.ref a])) Ev=some (.lst [.ref a]):=upd_same
 have nE:Ev≠p:=fun z=>by obtain⟨a,b,c,e,_⟩:=p6;rw[z,e]at hEv;cases hEv
 have nEa:Ev≠a:=fun z=>by rw[z,g6]at hEv;cases hEv
 have hE0:=fr s06 nE hEv
 have p7:=p6.same t7
 have s07:=s06.trans (SameBut1.of t7)
 have g67:=t7 _ _ g6
 generalize upd H6 Ev _=H7 at*
 clear t3 g3 t6 g6 t7 p3 p4 p5 p6 p1 p2 s1 s2 s4 s5 s03 s04 s05 s06 elf
 walk_at "go"
 refine⟨_,rfl,by omega,by omega,?_⟩
 rw[Int.toNat_natCast]
 refine for_rng (fun i σ H'=>∃ (A' L:List Addr) (vs:List V) (t:Tr) (o7 o8 o9:Option V),σ=[some (.ref p),some (.int kk),some (.int 20),some (.int (lf:Int)),some (.int way),some (.ref a),some (.ref Ev),o7,o8,o9]/\PoolAt H' p (n+4+3*i)/\SameBut1 p H H'/\H' Ev=some (.lst (L.map V.ref))/\L.length=i+1/\(∀y∈L,y∈a::A')/\H' a=some (.lst vs)/\LayK H H' A' vs t/\(a::A').Nodup/\Ev∉a::A'/\t.sz=i/\t.gr<kk.toNat)
  ⟨[],[a],[], .nil,_,_,_,rfl,p7,s07,g7,rfl,fun y hy=>hy,g67,⟨rfl,rfl⟩,by simp,by simpa using nEa,rfl,by simp only[Tr.gr];omega⟩ ?_ ?_
 rotate_left
 ·rintro σ H8 ⟨A',L,vs,t,o7,o8,o9,rfl,p8,s8,gE,hL,hm,gA,lay,nd,nEv,hsz,hgr⟩
  walk_at "go"
  exact q a t H8 (by omega) hgr ha0 (p8.mono (by omega)) s8 fun x ⟨o,hx⟩=>Kd.close gA (fun z=>by rw[z,hx]at ha0;cases ha0) (lay.kd (by rw[hx];simp))
 rintro i σ H8 hi ⟨A',L,vs,t,o7,o8,o9,rfl,p8,s8,gE,hL,hm,gA,lay,nd,nEv,hsz,hgr⟩
 have hLm:(L.map V.ref).length=i+1:=by rw[List.length_map,hL]
 walk_at "go"
 refine s_lenL (.inl (SqL.of gE)) ?_
 rw[hLm]
 walk_at "go"
 refine s_lenL (.inl (SqL.of gE)) ?_
 rw[hLm]
 walk_at "go"
 refine take_use p8 (by omega) (by omega) (by omega) (fun r9 H9 a9 b9 p9 s9=>?_)
 have gE9:=s9 _ _ gE nE
 walk_at "go"
 refine s_lenL (.inl (SqL.of gE9)) ?_
 rw[hLm]
 walk_at "go"
 refine take_use p9 (by omega) (by split<;>omega) (by split<;>omega) (fun r10 H10 a10 b10 p10 s10=>?_)
 have b10':r10<=(i:Int):=by split at b10<;>omega
 walk_at "go"
 refine⟨small (show 4<=1000 by decide),fun z2 hz2=>?_⟩
 have t11:=same_new hz2 (.lst [.int 0, .int (((i+1:Nat):Int)-1), .int r9, .int r10])
 have g11:(upd H10 z2 (.lst [.int 0, .int (((i+1:Nat):Int)-1), .int r9, .int r10])) z2=_:=upd_same
 have s11:SameBut1 p H8 (upd H10 z2 (.lst [.int 0, .int (((i+1:Nat):Int)-1), .int r9, .int r10])):=(s9.trans s10).trans (SameBut1.of t11)
 have p11:=p10.same t11
 generalize upd H10 z2 _=H11 at*
 obtain⟨at',eat,hat⟩:=pick4 (a:=0) (b:=((i+1:Nat):Int)-1) (c:=r9) (d:=r10) (m:=(i:Int)) a5 b5 ⟨by omega,by omega⟩ ⟨by omega,by omega⟩ ⟨a9,by omega⟩ ⟨a10,b10'⟩
 have s011:=s8.trans s11
 have gE11:=s11 _ _ gE nE
 have gA11:=s11 _ _ gA na
 obtain⟨q1,q2,q3,gp8,_⟩:=p8
 have lay11:=lay.keep hp0 gp8 s11
 obtain⟨x,hxL⟩:∃x,L[at']? =some x:=⟨_,List.getElem?_eq_getElem (by omega)⟩
 have hx:=List.mem_of_getElem? hxL
 obtain⟨us,gx11,husl,nx⟩:∃us,H11 x=some (.lst us)/\us.length<=20/\x≠p:=by
  rcases List.mem_cons.mp (hm x hx)with e|e
  ·have:=lay.len.2
   have:=kids_len t
   exact⟨vs,e▸gA11,by omega,e▸na⟩
  ·obtain⟨n0,ws,g,l⟩:=lay11.lst x e
   exact⟨ws,g,by omega,fun z=>hp0 (z▸n0)⟩
 walk_at "go"
 refine s_ixL (SqL.of g11) eat ?_
 walk_at "go"
 refine⟨small (show 0<=1000 by decide),fun w hw=>?_⟩
 have t12:=same_new hw (.lst [])
 have g12:(upd H11 w (.lst [])) w=some (.lst []):=upd_same
 have nw:w≠p:=fun z=>by obtain⟨a,b,c,e,_⟩:=p11;rw[z,e]at hw;cases hw
 have hw0:=fr s011 nw hw
 have p12:=p11.same t12
 generalize upd H11 w _=H12 at*
 walk_at "go"
 refine s_ixL (SqL.of (t12 _ _ gE11)) (atI_nat (show(L.map V.ref)[at']? =some (.ref x) by rw[List.getElem?_map,hxL];rfl)) ?_
 walk_at "go"
 refine⟨.inl ⟨rfl,_,SqL.of (t12 _ _ gx11)⟩,?_⟩
 walk_at "go"
 refine take_use p12 (by omega) (by omega) (by omega) (fun r13 H13 a13 b13 p13 s13=>?_)
 obtain⟨c,rfl⟩:∃c:Nat,r13=(c:Int):=⟨r13.toNat,by omega⟩
 walk_at "go"
 refine⟨small (show 2<=1000 by decide),fun Tq hTq=>?_⟩
 have t14:=same_new hTq (.tup [.int (c:Int), .ref w])
 have g14:(upd H13 Tq (.tup [.int (c:Int), .ref w])) Tq=_:=upd_same
 have nTq:Tq≠p:=fun z=>by obtain⟨a,b,c,e,_⟩:=p13;rw[z,e]at hTq;cases hTq
 have hT0:=fr (s011.trans ((SameBut1.of t12).trans s13)) nTq hTq
 have s14:SameBut1 p H11 (upd H13 Tq (.tup [.int (c:Int), .ref w])):=((SameBut1.of t12).trans s13).trans (SameBut1.of t14)
 have gw14:=t14 _ _ (s13 _ _ g12 nw)
 have p14:=p13.same t14
 generalize upd H13 Tq _=H14 at*
 have gx14:=s14 _ _ gx11 nx
 have gE14:=s14 _ _ gE11 nE
 have hxE:Ev≠x:=fun z=>nEv (z▸hm x hx)
 obtain⟨l1,l2,l3,gp11,hp11⟩:=p11
 obtain⟨A2,vs2,t2,y1,y2,y3,y4,y5,y6,y7⟩:=grow hp0 gp11 gE11 hm gA11 lay11 nd nEv ha0 hE0 hw hw0 hT0 s14 g14 gw14 hx gx14 (show c<kk.toNat by omega) hgr
 walk_at "go"
 refine⟨x,us,_,rfl,rfl,gx14,small1000 (by omega),?_⟩
 have gE15:(upd H14 x (.lst (us++[.ref Tq]))) Ev=some (.lst (L.map V.ref)):=by rw[upd_ne hxE];exact gE14
 walk_at "go"
 refine⟨.inl ⟨rfl,_,SqL.of gE15⟩,?_⟩
 walk_at "go"
 refine⟨Ev,_,_,rfl,rfl,gE15,small1000 (by omega),?_⟩
 have sb:∀ {G:Hp} {b:Addr} {o:HO},b≠p->H b=none->SameBut1 p H G->SameBut1 p H (upd G b o):=fun{G b o} nb hb s y oy hy ny=>by rw[upd_ne (ne_of_none hy hb)];exact s _ _ hy ny
 have pk:∀ {G:Hp} {b:Addr} {o:HO} {m:Nat},b≠p->PoolAt G p m->PoolAt (upd G b o) p m:=fun{G b o m} nb ⟨x1,x2,x3,e,h⟩=>⟨x1,x2,x3,by rw[upd_ne nb.symm];exact e,h⟩
 have hx0:H x=none:=by
  rcases List.mem_cons.mp (hm x hx)with e|e
  ·rw[e];exact ha0
  ·exact(lay11.lst x e).1
 refine⟨A2,L++[w],vs2,t2,_,_,_,rfl,(pk nE (pk nx p14)).mono (by omega),sb nE hE0 (sb nx hx0 (s011.trans s14)),by rw[upd_same,List.map_append];rfl,by rw[List.length_append,hL];rfl,y7,y1,y2,y3,y4,by omega,y6⟩
theorem sc_law_count:FnScope ["k","thing","many","one"] ["k","thing"] (defScope d_law_count):=⟨rfl,rfl,rfl,by decide +kernel,rfl,by decide +kernel,by decide +kernel⟩
theorem ok_law_count(n:Nat)(F:Fun K "_law_count" "_law_count" d_law_count f fd)(T:Txt K mg aK cs)(U_law_count:FnU P w K mg base k "_law_count" ["k","thing"] (recSp gCountD n)):FnOk P w K mg base CX0 (k+1) f fd ["k","thing"] (gCountD n):=by
 refine F.ok sc_law_count (fun vs H Q E h=>?_) (fun cdv A outer s H vs Q E hr h=>?_)
 ·obtain⟨kk,v,p,d,rfl,_⟩:=h;rfl
 obtain⟨kk,v,p,d,rfl,k1,k4,hd,hdp,q⟩:=h
 have hu:=hr.units0
 have no:∀ {G:Hp},¬TreeD kk d->Same H G->Q (.int 99) G:=fun hn sG=>q 99 _ sG (.inr ⟨by omega,hn⟩)
 refine⟨_,(pss_cons (ps_if (pt_not (pt_tru K (pe_callB (call_isiA K) rfl T.n_isinstance PyProof.Rows.boot_isinstance (pa_cons (pv 1) (pa_cons (pe_ty T.n_list PyProof.Rows.boot_list) pa_nil))))) (pss_one (ps_ret pe_int)) pss_nil) (pss_cons (ps_set (i:=2) sc_law_count.nd rfl (Or.inl rfl) pe_int) (pss_cons (ps_for PassesOwn.never rfl (pi_listK K (pv 1)) (pg_name (i:=3) sc_law_count.nd rfl (Or.inl rfl)) (pss_cons (ps_if (PW.pt (pw_or (pt_not (pt_tru K (pe_callB (call_isiA K) rfl T.n_isinstance PyProof.Rows.boot_isinstance (pa_cons (pv 3) (pa_cons (pe_ty T.n_tuple PyProof.Rows.boot_tuple) pa_nil))))) (pw_or (pt_cmpR (op_neA K hu) (pe_callB (call_lenA K) rfl T.n_len PySem.boot_len (pa_cons (pv 3) pa_nil)) pe_int (nomark _)) (pw_or (pt_not (pt_tru K (pe_callB (call_isiA K) rfl T.n_isinstance PyProof.Rows.boot_isinstance (pa_cons (pe_ix (ix_A K) (pv 3) pe_int (fun _ _=>rfl)) (pa_cons (pe_ty T.n_int PyProof.Rows.boot_int) pa_nil))))) (pw_or1 (pt_tru K (pe_callB (call_isiA K) rfl T.n_isinstance PyProof.Rows.boot_isinstance (pa_cons (pe_ix (ix_A K) (pv 3) pe_int (fun _ _=>rfl)) (pa_cons (pe_ty T.n_bool PyProof.Rows.boot_bool) pa_nil))))))))) (pss_one (ps_ret pe_int)) pss_nil) (pss_cons (ps_if (PW.pt (pw_or (pt_not (pt_chain op_le op_lt pe_int (pe_ix (ix_A K) (pv 3) pe_int (fun _ _=>rfl)) (pv 0))) (pw_or1 (pt_cmpR op_gt (pv 2) pe_int (nomark _))))) (pss_one (ps_ret pe_int)) pss_nil) (pss_one (ps_set (i:=2) sc_law_count.nd rfl (Or.inl rfl) (pe_op op_plus (pe_op op_plus (pv 2) pe_int) (pe_fn U_law_count hr (pa_cons (pv 0) (pa_cons (pe_ix (ix_A K) (pv 3) pe_int (fun _ _=>rfl)) pa_nil))))))))) (pss_one (ps_ret (pv 2)))))),?_⟩
 walk_at "go"
 refine s_isL hd ?_
 walk_at "go"
 cases hL:isL d with
 |false=>
  refine ifp rfl ?_
  walk_at "go"
  exact no (fun⟨t,e,_⟩=>by subst e;cases hL) (Same.refl _)
 |true=>
  obtain⟨us,rfl⟩:∃us,d= .list us:=by cases d<;>first|exact⟨_,rfl⟩|cases hL
  obtain⟨ta,tv,rfl,na,ga,kd⟩:=lstI hd
  have hkl:=(sds_get kd).1
  refine ifq rfl ?_
  walk_at "go"
  refine⟨ta,rfl,⟨_,SqL.of ga⟩,?_⟩
  refine for_lst (xs:=tv) (fun i σ H'=>∃ (m:Int) (o3:Option V),σ=[some (.int kk),some (.ref ta),some (.int m),o3]/\PreD kk us i m/\Same H H') ⟨0,_,rfl,pre0 k1 us,Same.refl _⟩ (fun i σ H' _ ⟨_,_,_,_,sH⟩=>SqL.of (sH _ _ ga)) ?_ ?_
  rotate_left
  ·rintro σ H2 ⟨m,o3,rfl,pr,s2⟩
   rw[hkl]at pr
   walk_at "go"
   exact q m H2 s2 (pre_end pr)
  rintro i x σ H2 hx ⟨m,o3,rfl,pr,s2⟩
  have hm:i<us.length:=by rw[<-hkl];exact(List.getElem?_eq_some_iff.mp hx).1
  obtain⟨y,hy⟩:∃y,us[i]? =some y:=⟨_,List.getElem?_eq_getElem hm⟩
  obtain⟨x',e1,dy⟩:=(sds_get kd).2 i y hy
  rw[hx]at e1
  cases e1
  have hmem:=List.mem_of_getElem? hy
  have dy2:=dy.same s2
  have bad:isBr kk y=false->Q (.int 99) H2:=fun hb=>no (pre_bad hmem hb) s2
  walk_at "go"
  refine s_isU dy2 ?_
  walk_at "go"
  cases hU:isU y with
  |false=>
   refine ifp rfl ?_
   walk_at "go"
   exact bad (isBr_U hU)
  |true=>
   obtain⟨ds,rfl⟩:∃ds,y= .tuple ds:=by cases y<;>first|exact⟨_,rfl⟩|cases hU
   obtain⟨T1,xs,rfl,n1,g1,r1⟩:=tupI dy2
   have hl:=(sds_get r1).1
   refine ifq rfl ?_
   walk_at "go"
   refine s_lenL (.inr (SqT.of g1)) ?_
   walk_at "go"
   by_cases h2:ds.length=2
   ·match ds,h2,r1,hmem,hy,bad with
    |[a,z],_,r1,hmem,hy,bad=>
     obtain⟨u,w',rfl,da,dz⟩:=sds2 r1
     refine ifq rfl ?_
     walk_at "go"
     refine s_ixU (SqT.of g1) (show atI _ (0:Int)=some u from rfl) ?_
     walk_at "go"
     refine s_isI da ?_
     walk_at "go"
     cases hI:isI a with
     |false=>
      refine ifp rfl ?_
      walk_at "go"
      exact bad (isBr_N (by cases a<;>first|rfl|cases hI))
     |true=>
      refine ifq rfl ?_
      walk_at "go"
      refine s_ixU (SqT.of g1) (show atI _ (0:Int)=some u from rfl) ?_
      walk_at "go"
      refine s_isB da ?_
      walk_at "go"
      cases hB:isB a with
      |true=>
       refine ifp rfl ?_
       walk_at "go"
       exact bad (isBr_N (by cases a<;>first|rfl|cases hB))
      |false=>
       obtain⟨j,rfl⟩:∃j,a= .int j:=by cases a<;>first|exact⟨_,rfl⟩|(cases hI;done)|(cases hB;done)
       have:=intI da
       subst this
       refine ifq rfl ?_
       walk_at "go"
       refine s_ixU (SqT.of g1) (show atI _ (0:Int)=some (.int j)from rfl) ?_
       walk_at "go"
       refine ifd (fun h0=>?_) (fun h0=>?_)
       ·walk_at "go"
        by_cases hj:j<kk
        ·have hB2:isBr kk (.tuple [.int j,z])=true:=by rw[isBr_I,decide_eq_true h0,decide_eq_true hj];rfl
         refine ifq (by rw[decide_eq_true hj];rfl) ?_
         walk_at "go"
         refine ifd (fun hm2=>?_) (fun hm2=>?_)
         ·walk_at "go"
          exact no (pre_over pr (by omega)) s2
         ·walk_at "go"
          refine s_ixU (SqT.of g1) (show atI _ (1:Int)=some w' from rfl) ?_
          walk_at "go"
          have hdz:=depth_sec hmem rfl hdp
          obtain⟨n',rfl⟩:∃n',n=n'+1:=⟨n-1,by omega⟩
          refine⟨kk,w',p,z,rfl,k1,k4,dz,by omega,fun c H3 s3 hc=>?_⟩
          walk_at "go"
          exact⟨_,_,rfl,pre_step pr hy hB2 (by omega) hc,s2.trans s3⟩
        ·refine ifp (by rw[decide_eq_false hj];rfl) ?_
         walk_at "go"
         exact bad (by rw[isBr_I,decide_eq_false hj,Bool.and_false])
       ·walk_at "go"
        exact bad (by rw[isBr_I,decide_eq_false h0,Bool.false_and])
   ·refine ifp (by rw[Bool.not_eq_true',decide_eq_false];omega) ?_
    walk_at "go"
    exact bad (isBr_len h2)
theorem sc_law_odd:FnScope ["pool","kind","within","other","some"] ["pool","kind","within"] (defScope d_law_odd):=⟨rfl,rfl,rfl,by decide +kernel,rfl,by decide +kernel,by decide +kernel⟩
theorem ok_law_odd(F:Fun K "_law_odd" "_law_odd" d_law_odd f fd)(T:Txt K mg aK cs)(U_law_take:FnU P w K mg base k "_law_take" ["pool","many"] (spTake)):FnOk P w K mg base CX0 (k+1) f fd ["pool","kind","within"] (spOdd):=by
 refine F.ok sc_law_odd (fun vs H Q E h=>?_) (fun cdv A outer s H vs Q E hr h=>?_)
 ·obtain⟨S,p,n,c,v,t,rfl,_⟩:=h;rfl
 obtain⟨S,p,n,c,v,t,rfl,hSp,ex,hp,hn,hc,ht,hg,hsz,q⟩:=h
 have hu:=hr.units0
 have hW:=(ht.dl hg)
 obtain⟨va,vxs,vds,rfl,nvS,gva,rva,fva⟩:=id hW
 obtain⟨n0,hn0⟩:∃n0,n0=2000*t.sz+2000:=⟨_,rfl⟩
 obtain⟨m0,hm0⟩:∃m0,m0=2*Tr.ht t+2:=⟨_,rfl⟩
 have h2000:2000<=n0:=by omega
 have hm2:2<=m0:=by omega
 have ki:∀ {S:Addr->Prop} {i:Int} {G:Hp},i.natAbs<10^60->Dv S n0 m0 G (.int i):=fun h=>dv_int h h2000 (by omega)
 have hck:(c:Int).natAbs<10^60:=Nat.lt_of_le_of_lt (show _<=10 by omega) (by decide)
 have hck1:((c:Int)+1).natAbs<10^60:=Nat.lt_of_le_of_lt (show _<=10 by omega) (by decide)
 have kN:∀ {S:Addr->Prop} {G:Hp},Dv S n0 m0 G .non:=dv_non h2000 (by omega)
 have kT:∀ {S:Addr->Prop} {a:List Nat} {G:Hp},Low a->a.length<=10->Dv S n0 m0 G (tx a):=fun h h'=>dv_tx h h' h2000 (by omega)
 have kB:∀ {S:Addr->Prop} {b:Bool} {G:Hp},Dv S n0 m0 G (.bl b):=fun{_ b G}=>dv_bl b h2000 (by omega)
 refine⟨_,(pss_cons (ps_set (i:=3) sc_law_odd.nd rfl (Or.inl rfl) (pe_ix (ix_A K) (PEb.pe (pe_lstB (Pl.con pe_int (Pl.una (pe_un un_neg pe_int) (Pl.con pe_bl (Pl.con pe_bl (Pl.con pe_non (Pl.con (pe_tx (l:=[48]) (by decide +kernel)) (Pl.con (pe_tx (l:=[40]) (by decide +kernel)) (Pl.lst (pe_lst (pa_cons pe_int pa_nil)) (Pl.bin (pe_op op_pow pe_int pe_int) (Pl.bin (pe_op op_plus (pv 1) pe_int) (Pl.con pe_int (Pl.nam (pv 1) Pl.nil)))))))))))))) (pe_fn U_law_take hr (pa_cons (pv 0) (pa_cons pe_int pa_nil))) (fun _ _=>rfl))) (pss_cons (ps_set (i:=4) sc_law_odd.nd rfl (Or.inl rfl) (pe_op op_plus (pe_op op_times (pe_lst (pa_cons (pe_lst (pa_cons (pe_tup (pa_cons (pv 3) (pa_cons (pv 2) pa_nil))) pa_nil)) pa_nil)) pe_int) (pe_lst (pa_cons (pe_lst (pa_cons (pe_tup (pa_cons (pv 1) (pa_cons (pv 3) pa_nil))) pa_nil)) (pa_cons (pe_lst (pa_cons (pe_tup (pa_cons (pv 1) (pa_cons (pe_callTy (call_tupleA K) rfl T.n_tuple PyProof.Rows.boot_tuple (pa_cons (pv 2) pa_nil)) pa_nil))) pa_nil)) (pa_cons (pe_lst (pa_cons (pe_tup (pa_cons (pv 1) (pa_cons (pv 2) (pa_cons (pv 2) pa_nil)))) pa_nil)) (pa_cons (pe_lst (pa_cons (pe_tup (pa_cons (pv 1) pa_nil)) pa_nil)) pa_nil))))))) (pss_cons (ps_set (i:=4) sc_law_odd.nd rfl (Or.inl rfl) (pe_op op_plus (pv 4) (pe_lst (pa_cons (pe_lst (pa_cons (pe_lst (pa_cons (pv 1) (pa_cons (pv 2) pa_nil))) pa_nil)) (pa_cons (pe_lst (pa_cons (pv 2) pa_nil)) (pa_cons (pe_lst (pa_cons (pv 1) pa_nil)) (pa_cons (pe_lst (pa_cons pe_non pa_nil)) (pa_cons (pe_lst (pa_cons (pe_tup (pa_cons (pv 1) (pa_cons (pv 2) pa_nil))) (pa_cons pe_non pa_nil))) (pa_cons (pe_lst (pa_cons (pe_tup (pa_cons (pv 1) (pa_cons (pe_lst (pa_cons pe_non pa_nil)) pa_nil))) pa_nil)) pa_nil))))))))) (pss_cons (ps_expr (pe_bmK K PySem.F.plainAttrs_list PySem.F.slot_list_append PySem.F.type_list_append mt_append (pv 4) (pa_cons (pe_lst (pa_cons (pe_tup (pa_cons (pv 2) (pa_cons (pv 1) pa_nil))) pa_nil)) pa_nil))) (pss_cons (ps_set (i:=4) sc_law_odd.nd rfl (Or.inl rfl) (pe_op op_plus (pv 4) (pe_lst (pa_cons (pe_lst (pa_cons (pe_tup (pa_cons (pv 1) (pa_cons (pv 2) pa_nil))) (pa_cons (pe_tup (pa_cons (pv 1) (pa_cons (pe_lst pa_nil) pa_nil))) pa_nil))) (pa_cons (pe_lst pa_nil) (pa_cons (pe_lst (pa_cons (pe_tup (pa_cons (pv 1) (pa_cons (pe_lst (pa_cons (pe_tup (pa_cons (pv 1) (pa_cons (pv 2) pa_nil))) pa_nil)) pa_nil))) pa_nil)) (pa_cons (pe_lst (pa_cons (pe_tup (pa_cons (pv 1) (pa_cons pe_dnewK pa_nil))) pa_nil)) (pa_cons (pe_lst (pa_cons (pe_tup (pa_cons (pv 1) (pa_cons (pe_tx (l:=[]) (by decide +kernel)) pa_nil))) pa_nil)) pa_nil)))))))) (pss_one (ps_ret (pe_ix (ix_A K) (pv 4) (pe_fn U_law_take hr (pa_cons (pv 0) (pa_cons pe_int pa_nil))) (fun _ _=>rfl))))))))),?_⟩
 walk_at "go"
 simp only[tAll]
 walk_at "go"
 refine⟨small (show 1<=1000 by decide),fun z0 hz0=>?_⟩
 have d0:Dv S n0 m0 (upd H z0 (.lst [.int 0])) (.ref z0):=(newL (n:=1921) (m:=1) hz0 ex (allD_cons ⟨_, .sc (.int 0),fit_int (by decide)⟩ allD_nil) (Nat.le_refl _) (Nat.le_refl _)).dv.mono (by simp;omega) (by omega)
 have s0:=same_new hz0 (.lst [.int 0])
 generalize upd H z0 _=G0 at*
 walk_at "go"
 refine⟨small (show 12<=1000 by decide),fun z1 hz1=>?_⟩
 obtain⟨L0,hL0⟩:∃L0,L0=[V.int 4, .int (-1), .bl true, .bl false, .non,tx [48],tx [40], .ref z0, .int (10^(29:Int).toNat), .int ((c:Int)+1), .int 3, .int (c:Int)]:=⟨_,rfl⟩
 have A0:∀x∈L0,Dv S n0 m0 G0 x:=by
  rw[hL0]
  exact allD_cons (ki (by decide)) (allD_cons (ki (by decide)) (allD_cons kB (allD_cons kB (allD_cons kN (allD_cons (kT (by unfold Low;decide) (by decide)) (allD_cons (kT (by unfold Low;decide) (by decide)) (allD_cons d0 (allD_cons (ki (by decide)) (allD_cons (ki hck1) (allD_cons (ki (by decide)) (allD_cons (ki hck) allD_nil)))))))))))
 rw[<-hL0]
 have l0:L0.length=12:=by rw[hL0];rfl
 clear hL0
 have s1:=same_new hz1 (.lst L0)
 have g1:(upd G0 z1 (.lst L0)) z1=some (.lst L0):=upd_same
 have s01:=s0.trans s1
 generalize upd G0 z1 _=G1 at*
 have nz1:z1≠p:=fun z=>by obtain⟨o,e⟩:=ex p hSp;rw[z,s0 _ _ e]at hz1;cases hz1
 walk_at "go"
 refine take_use (hp.same s01) (by omega) (by omega) (by omega) (fun r1 J0 r10 r11 hp1 b1=>?_)
 have kp1:Kp S H J0:=fun x o nx e=>kp_but b1 hSp x o nx (s01 _ _ e)
 obtain⟨ot,eot,mot⟩:=at_memV (l:=L0) r10 (by rw[l0];exact r11)
 have O:Lv S n0 m0 0 J0 ot:=((A0 _ mot).same s1).keep (kp_but b1 hSp)
 have Tw:=ht.keep kp1
 have u0:SameBut1 p H J0:=(SameBut1.of s01).trans b1
 have gva0:=kp1 _ _ nvS gva
 have ex0:Ex S J0:=fun x hx=>by
  obtain⟨o,e⟩:=ex x hx
  by_cases z:x=p
  ·subst z;obtain⟨_,_,_,e',_⟩:=hp1;exact⟨_,e'⟩
  ·exact⟨o,u0 _ _ e z⟩
 have bu:Bun S n0 m0 p (n+1) H ot va t vxs J0:=⟨O,Tw,ex0,hp1,gva0,u0⟩
 walk_at "go"
 refine s_ixL (SqL.of (b1 _ _ g1 nz1)) eot ?_
 clear O Tw ex0 hp1 gva0 u0
 clear d0 s0 hz0 A0 s1 g1 s01 hz1 l0 eot kp1 hW b1 rva fva ht
 walk_at "go"
 refine⟨small (show 2<=1000 by decide),fun y1 hy1=>?_⟩
 have f1:=lvT (xs:=[ot,(V.ref va)]) (n0:=n0) (m0:=m0) (l:=0) hy1 bu.2.2.1 (allD_cons bu.1 (allD_cons (bu.2.1.lv hg hn0 hm0) allD_nil)) (by simp)
 have s1:=same_new hy1 (.tup [ot,(V.ref va)])
 replace bu:=bu.same s1
 generalize upd J0 y1 _=J1 at*
 clear s1 hy1
 walk_at "go"
 refine⟨small (show 1<=1000 by decide),fun y2 hy2=>?_⟩
 have f2:=lvL (xs:=[(V.ref y1)]) (n0:=n0) (m0:=m0) (l:=1) hy2 bu.2.2.1 (allD_cons f1 allD_nil) (by simp)
 have s2:=same_new hy2 (.lst [(V.ref y1)])
 replace bu:=bu.same s2
 generalize upd J1 y2 _=J2 at*
 clear s2 hy2
 have e2:=dl_lv f2
 walk_at "go"
 refine⟨small (show 1<=1000 by decide),fun y3 hy3=>?_⟩
 have A:∀x∈[(V.ref y2)],Dl S (nb n0 4) (m0+3) J2 x:=(allD_cons (dl_4 (l:=1) f2 (by decide)) allD_nil)
 have s3:=same_new hy3 (.lst [(V.ref y2)])
 have gA:(upd J2 y3 (.lst [(V.ref y2)])) y3=some (.lst [(V.ref y2)]):=upd_same
 replace bu:=bu.same s3
 replace A:=fun x hx=>(A x hx).same s3
 generalize upd J2 y3 _=J3 at*
 clear s3 hy3
 walk_at "go"
 refine s_rep (xs:=[(V.ref y2)]) gA (by decide) (by decide) (small (by simp)) (fun y4 hy4=>?_)
 have B:∀x∈[(V.ref y2),(V.ref y2),(V.ref y2),(V.ref y2),(V.ref y2)],Dl S (nb n0 4) (m0+3) J3 x:=by
  have e:=A _ List.mem_cons_self
  exact allD_cons e (allD_cons e (allD_cons e (allD_cons e (allD_cons e allD_nil))))
 have s4:=same_new hy4 (.lst (List.replicate (5:Int).toNat [(V.ref y2)]).flatten)
 have gB:(upd J3 y4 (.lst (List.replicate (5:Int).toNat [(V.ref y2)]).flatten)) y4=some (.lst [(V.ref y2),(V.ref y2),(V.ref y2),(V.ref y2),(V.ref y2)]):=upd_same
 clear A gA
 replace bu:=bu.same s4
 replace B:=fun x hx=>(B x hx).same s4
 generalize upd J3 y4 _=J4 at*
 clear s4 hy4
 have l5:([(V.ref y2),(V.ref y2),(V.ref y2),(V.ref y2),(V.ref y2)]:List V).length=5:=rfl
 generalize([(V.ref y2),(V.ref y2),(V.ref y2),(V.ref y2),(V.ref y2)]:List V)=L5 at*
 as_aux_lemma=>
  walk_at "go"
  refine⟨small (show 2<=1000 by decide),fun y5 hy5=>?_⟩
  have f5:=lvT (xs:=[(V.int (c:Int)),ot]) (n0:=n0) (m0:=m0) (l:=0) hy5 bu.2.2.1 (allD_cons (ki hck) (allD_cons bu.1 allD_nil)) (by simp)
  have s5:=same_new hy5 (.tup [(V.int (c:Int)),ot])
  replace bu:=bu.same s5
  replace B:=fun x hx=>(B x hx).same s5
  replace gB:=s5 _ _ gB
  generalize upd J4 y5 _=J5 at*
  clear s5 hy5
  walk_at "go"
  refine⟨small (show 1<=1000 by decide),fun y6 hy6=>?_⟩
  have f6:=lvL (xs:=[(V.ref y5)]) (n0:=n0) (m0:=m0) (l:=1) hy6 bu.2.2.1 (allD_cons f5 allD_nil) (by simp)
  have s6:=same_new hy6 (.lst [(V.ref y5)])
  replace bu:=bu.same s6
  replace B:=fun x hx=>(B x hx).same s6
  replace gB:=s6 _ _ gB
  generalize upd J5 y6 _=J6 at*
  clear s6 hy6
  have e6:=dl_lv f6
  walk_at "go"
  refine s_tupL (SqL.of bu.2.2.2.2.1) (fun y7 hy7=>?_)
  have f7:=tupW bu.2.1 hg bu.2.2.2.2.1 hy7 bu.2.2.1 hn0 hm0
  have s7:=same_new hy7 (.tup vxs)
  replace bu:=bu.same s7
  replace B:=fun x hx=>(B x hx).same s7
  replace gB:=s7 _ _ gB
  replace f6:=f6.same s7
  replace e6:=e6.same s7
  generalize upd J6 y7 _=J7 at*
  clear s7 hy7
  walk_at "go"
  refine⟨small (show 2<=1000 by decide),fun y8 hy8=>?_⟩
  have f8:=lvT (xs:=[(V.int (c:Int)),(V.ref y7)]) (n0:=n0) (m0:=m0) (l:=0) hy8 bu.2.2.1 (allD_cons (ki hck) (allD_cons f7 allD_nil)) (by simp)
  have s8:=same_new hy8 (.tup [(V.int (c:Int)),(V.ref y7)])
  replace bu:=bu.same s8
  replace B:=fun x hx=>(B x hx).same s8
  replace gB:=s8 _ _ gB
  replace f6:=f6.same s8
  replace e6:=e6.same s8
  generalize upd J7 y8 _=J8 at*
  clear s8 hy8
  walk_at "go"
  refine⟨small (show 1<=1000 by decide),fun y9 hy9=>?_⟩
  have f9:=lvL (xs:=[(V.ref y8)]) (n0:=n0) (m0:=m0) (l:=1) hy9 bu.2.2.1 (allD_cons f8 allD_nil) (by simp)
  have s9:=same_new hy9 (.lst [(V.ref y8)])
  replace bu:=bu.same s9
  replace B:=fun x hx=>(B x hx).same s9
  replace gB:=s9 _ _ gB
  replace f6:=f6.same s9
  replace e6:=e6.same s9
  generalize upd J8 y9 _=J9 at*
  clear s9 hy9
  have e9:=dl_lv f9
  walk_at "go"
  refine⟨small (show 3<=1000 by decide),fun y10 hy10=>?_⟩
  have f10:=lvT (xs:=[(V.int (c:Int)),(V.ref va),(V.ref va)]) (n0:=n0) (m0:=m0) (l:=0) hy10 bu.2.2.1 (allD_cons (ki hck) (allD_cons (bu.2.1.lv hg hn0 hm0) (allD_cons (bu.2.1.lv hg hn0 hm0) allD_nil))) (by simp)
  have s10:=same_new hy10 (.tup [(V.int (c:Int)),(V.ref va),(V.ref va)])
  replace bu:=bu.same s10
  replace B:=fun x hx=>(B x hx).same s10
  replace gB:=s10 _ _ gB
  replace f6:=f6.same s10
  replace e6:=e6.same s10
  replace f9:=f9.same s10
  replace e9:=e9.same s10
  generalize upd J9 y10 _=J10 at*
  clear s10 hy10
  walk_at "go"
  refine⟨small (show 1<=1000 by decide),fun y11 hy11=>?_⟩
  have f11:=lvL (xs:=[(V.ref y10)]) (n0:=n0) (m0:=m0) (l:=1) hy11 bu.2.2.1 (allD_cons f10 allD_nil) (by simp)
  have s11:=same_new hy11 (.lst [(V.ref y10)])
  replace bu:=bu.same s11
  replace B:=fun x hx=>(B x hx).same s11
  replace gB:=s11 _ _ gB
  replace f6:=f6.same s11
  replace e6:=e6.same s11
  replace f9:=f9.same s11
  replace e9:=e9.same s11
  generalize upd J10 y11 _=J11 at*
  clear s11 hy11
  have e11:=dl_lv f11
  as_aux_lemma=>
   walk_at "go"
   refine⟨small (show 1<=1000 by decide),fun y12 hy12=>?_⟩
   have f12:=lvT (xs:=[(V.int (c:Int))]) (n0:=n0) (m0:=m0) (l:=0) hy12 bu.2.2.1 (allD_cons (ki hck) allD_nil) (by simp)
   have s12:=same_new hy12 (.tup [(V.int (c:Int))])
   replace bu:=bu.same s12
   replace B:=fun x hx=>(B x hx).same s12
   replace gB:=s12 _ _ gB
   replace f6:=f6.same s12
   replace e6:=e6.same s12
   replace f9:=f9.same s12
   replace e9:=e9.same s12
   replace f11:=f11.same s12
   replace e11:=e11.same s12
   generalize upd J11 y12 _=J12 at*
   clear s12 hy12
   walk_at "go"
   refine⟨small (show 1<=1000 by decide),fun y13 hy13=>?_⟩
   have f13:=lvL (xs:=[(V.ref y12)]) (n0:=n0) (m0:=m0) (l:=1) hy13 bu.2.2.1 (allD_cons f12 allD_nil) (by simp)
   have s13:=same_new hy13 (.lst [(V.ref y12)])
   replace bu:=bu.same s13
   replace B:=fun x hx=>(B x hx).same s13
   replace gB:=s13 _ _ gB
   replace f6:=f6.same s13
   replace e6:=e6.same s13
   replace f9:=f9.same s13
   replace e9:=e9.same s13
   replace f11:=f11.same s13
   replace e11:=e11.same s13
   generalize upd J12 y13 _=J13 at*
   clear s13 hy13
   have e13:=dl_lv f13
   walk_at "go"
   refine⟨small (show 4<=1000 by decide),fun y14 hy14=>?_⟩
   have C:∀x∈[(V.ref y6),(V.ref y9),(V.ref y11),(V.ref y13)],Dl S (nb n0 4) (m0+3) J13 x:=(allD_cons (dl_4 (l:=1) f6 (by decide)) (allD_cons (dl_4 (l:=1) f9 (by decide)) (allD_cons (dl_4 (l:=1) f11 (by decide)) (allD_cons (dl_4 (l:=1) f13 (by decide)) allD_nil))))
   have s14:=same_new hy14 (.lst [(V.ref y6),(V.ref y9),(V.ref y11),(V.ref y13)])
   have gC:(upd J13 y14 (.lst [(V.ref y6),(V.ref y9),(V.ref y11),(V.ref y13)])) y14=some (.lst [(V.ref y6),(V.ref y9),(V.ref y11),(V.ref y13)]):=upd_same
   replace bu:=bu.same s14
   replace B:=fun x hx=>(B x hx).same s14
   replace gB:=s14 _ _ gB
   replace C:=fun x hx=>(C x hx).same s14
   generalize upd J13 y14 _=J14 at*
   clear s14 hy14
   walk_at "go"
   refine s_addL gB gC (by rw[l5,sizeLine_eq];simp) (fun y15 hy15=>?_)
   have D:∀x∈L5++[(V.ref y6),(V.ref y9),(V.ref y11),(V.ref y13)],Dl S (nb n0 4) (m0+3) J14 x:=allD_app B C
   have s15:=same_new hy15 (.lst (L5++[(V.ref y6),(V.ref y9),(V.ref y11),(V.ref y13)]))
   have gD:(upd J14 y15 (.lst (L5++[(V.ref y6),(V.ref y9),(V.ref y11),(V.ref y13)]))) y15=some (.lst (L5++[(V.ref y6),(V.ref y9),(V.ref y11),(V.ref y13)])):=upd_same
   clear B gB C gC
   replace bu:=bu.same s15
   replace D:=fun x hx=>(D x hx).same s15
   generalize upd J14 y15 _=J15 at*
   clear s15 hy15
   have l9:(L5++[(V.ref y6),(V.ref y9),(V.ref y11),(V.ref y13)]).length=9:=by rw[List.length_append,l5];rfl
   generalize(L5++[(V.ref y6),(V.ref y9),(V.ref y11),(V.ref y13)]:List V)=L9 at*
   walk_at "go"
   refine⟨small (show 2<=1000 by decide),fun y16 hy16=>?_⟩
   have f16:=lvL (xs:=[(V.int (c:Int)),(V.ref va)]) (n0:=n0) (m0:=m0) (l:=0) hy16 bu.2.2.1 (allD_cons (ki hck) (allD_cons (bu.2.1.lv hg hn0 hm0) allD_nil)) (by simp)
   have s16:=same_new hy16 (.lst [(V.int (c:Int)),(V.ref va)])
   replace bu:=bu.same s16
   replace D:=fun x hx=>(D x hx).same s16
   replace gD:=s16 _ _ gD
   generalize upd J15 y16 _=J16 at*
   clear s16 hy16
   have e16:=dl_lv f16
   walk_at "go"
   refine⟨small (show 1<=1000 by decide),fun y17 hy17=>?_⟩
   have f17:=lvL (xs:=[(V.ref y16)]) (n0:=n0) (m0:=m0) (l:=1) hy17 bu.2.2.1 (allD_cons e16 allD_nil) (by simp)
   have s17:=same_new hy17 (.lst [(V.ref y16)])
   replace bu:=bu.same s17
   replace D:=fun x hx=>(D x hx).same s17
   replace gD:=s17 _ _ gD
   generalize upd J16 y17 _=J17 at*
   clear s17 hy17
   have e17:=dl_lv f17
   walk_at "go"
   refine⟨small (show 1<=1000 by decide),fun y18 hy18=>?_⟩
   have f18:=lvL (xs:=[(V.ref va)]) (n0:=n0) (m0:=m0) (l:=0) hy18 bu.2.2.1 (allD_cons (bu.2.1.lv hg hn0 hm0) allD_nil) (by simp)
   have s18:=same_new hy18 (.lst [(V.ref va)])
   replace bu:=bu.same s18
   replace D:=fun x hx=>(D x hx).same s18
   replace gD:=s18 _ _ gD
   replace f17:=f17.same s18
   replace e17:=e17.same s18
   generalize upd J17 y18 _=J18 at*
   clear s18 hy18
   have e18:=dl_lv f18
   as_aux_lemma=>
    walk_at "go"
    refine⟨small (show 1<=1000 by decide),fun y19 hy19=>?_⟩
    have f19:=lvL (xs:=[(V.int (c:Int))]) (n0:=n0) (m0:=m0) (l:=0) hy19 bu.2.2.1 (allD_cons (ki hck) allD_nil) (by simp)
    have s19:=same_new hy19 (.lst [(V.int (c:Int))])
    replace bu:=bu.same s19
    replace D:=fun x hx=>(D x hx).same s19
    replace gD:=s19 _ _ gD
    replace f17:=f17.same s19
    replace e17:=e17.same s19
    replace f18:=f18.same s19
    replace e18:=e18.same s19
    generalize upd J18 y19 _=J19 at*
    clear s19 hy19
    have e19:=dl_lv f19
    walk_at "go"
    refine⟨small (show 1<=1000 by decide),fun y20 hy20=>?_⟩
    have f20:=lvL (xs:=[V.non]) (n0:=n0) (m0:=m0) (l:=0) hy20 bu.2.2.1 (allD_cons kN allD_nil) (by simp)
    have s20:=same_new hy20 (.lst [V.non])
    replace bu:=bu.same s20
    replace D:=fun x hx=>(D x hx).same s20
    replace gD:=s20 _ _ gD
    replace f17:=f17.same s20
    replace e17:=e17.same s20
    replace f18:=f18.same s20
    replace e18:=e18.same s20
    replace f19:=f19.same s20
    replace e19:=e19.same s20
    generalize upd J19 y20 _=J20 at*
    clear s20 hy20
    have e20:=dl_lv f20
    walk_at "go"
    refine⟨small (show 2<=1000 by decide),fun y21 hy21=>?_⟩
    have f21:=lvT (xs:=[(V.int (c:Int)),(V.ref va)]) (n0:=n0) (m0:=m0) (l:=0) hy21 bu.2.2.1 (allD_cons (ki hck) (allD_cons (bu.2.1.lv hg hn0 hm0) allD_nil)) (by simp)
    have s21:=same_new hy21 (.tup [(V.int (c:Int)),(V.ref va)])
    replace bu:=bu.same s21
    replace D:=fun x hx=>(D x hx).same s21
    replace gD:=s21 _ _ gD
    replace f17:=f17.same s21
    replace e17:=e17.same s21
    replace f18:=f18.same s21
    replace e18:=e18.same s21
    replace f19:=f19.same s21
    replace e19:=e19.same s21
    replace f20:=f20.same s21
    replace e20:=e20.same s21
    generalize upd J20 y21 _=J21 at*
    clear s21 hy21
    walk_at "go"
    refine⟨small (show 2<=1000 by decide),fun y22 hy22=>?_⟩
    have f22:=lvL (xs:=[(V.ref y21),V.non]) (n0:=n0) (m0:=m0) (l:=1) hy22 bu.2.2.1 (allD_cons f21 (allD_cons (Lv.up (l:=0) kN (by decide)) allD_nil)) (by simp)
    have s22:=same_new hy22 (.lst [(V.ref y21),V.non])
    replace bu:=bu.same s22
    replace D:=fun x hx=>(D x hx).same s22
    replace gD:=s22 _ _ gD
    replace f17:=f17.same s22
    replace e17:=e17.same s22
    replace f18:=f18.same s22
    replace e18:=e18.same s22
    replace f19:=f19.same s22
    replace e19:=e19.same s22
    replace f20:=f20.same s22
    replace e20:=e20.same s22
    generalize upd J21 y22 _=J22 at*
    clear s22 hy22
    have e22:=dl_lv f22
    walk_at "go"
    refine⟨small (show 1<=1000 by decide),fun y23 hy23=>?_⟩
    have f23:=lvL (xs:=[V.non]) (n0:=n0) (m0:=m0) (l:=0) hy23 bu.2.2.1 (allD_cons kN allD_nil) (by simp)
    have s23:=same_new hy23 (.lst [V.non])
    replace bu:=bu.same s23
    replace D:=fun x hx=>(D x hx).same s23
    replace gD:=s23 _ _ gD
    replace f17:=f17.same s23
    replace e17:=e17.same s23
    replace f18:=f18.same s23
    replace e18:=e18.same s23
    replace f19:=f19.same s23
    replace e19:=e19.same s23
    replace f20:=f20.same s23
    replace e20:=e20.same s23
    replace f22:=f22.same s23
    replace e22:=e22.same s23
    generalize upd J22 y23 _=J23 at*
    clear s23 hy23
    have e23:=dl_lv f23
    walk_at "go"
    refine⟨small (show 2<=1000 by decide),fun y24 hy24=>?_⟩
    have f24:=lvT (xs:=[(V.int (c:Int)),(V.ref y23)]) (n0:=n0) (m0:=m0) (l:=1) hy24 bu.2.2.1 (allD_cons (Lv.up (l:=0) (ki hck) (by decide)) (allD_cons e23 allD_nil)) (by simp)
    have s24:=same_new hy24 (.tup [(V.int (c:Int)),(V.ref y23)])
    replace bu:=bu.same s24
    replace D:=fun x hx=>(D x hx).same s24
    replace gD:=s24 _ _ gD
    replace f17:=f17.same s24
    replace e17:=e17.same s24
    replace f18:=f18.same s24
    replace e18:=e18.same s24
    replace f19:=f19.same s24
    replace e19:=e19.same s24
    replace f20:=f20.same s24
    replace e20:=e20.same s24
    replace f22:=f22.same s24
    replace e22:=e22.same s24
    generalize upd J23 y24 _=J24 at*
    clear s24 hy24
    as_aux_lemma=>
     walk_at "go"
     refine⟨small (show 1<=1000 by decide),fun y25 hy25=>?_⟩
     have f25:=lvL (xs:=[(V.ref y24)]) (n0:=n0) (m0:=m0) (l:=2) hy25 bu.2.2.1 (allD_cons f24 allD_nil) (by simp)
     have s25:=same_new hy25 (.lst [(V.ref y24)])
     replace bu:=bu.same s25
     replace D:=fun x hx=>(D x hx).same s25
     replace gD:=s25 _ _ gD
     replace f17:=f17.same s25
     replace e17:=e17.same s25
     replace f18:=f18.same s25
     replace e18:=e18.same s25
     replace f19:=f19.same s25
     replace e19:=e19.same s25
     replace f20:=f20.same s25
     replace e20:=e20.same s25
     replace f22:=f22.same s25
     replace e22:=e22.same s25
     generalize upd J24 y25 _=J25 at*
     clear s25 hy25
     have e25:=dl_lv f25
     walk_at "go"
     refine⟨small (show 6<=1000 by decide),fun y26 hy26=>?_⟩
     have E2:∀x∈[(V.ref y17),(V.ref y18),(V.ref y19),(V.ref y20),(V.ref y22),(V.ref y25)],Dl S (nb n0 4) (m0+3) J25 x:=(allD_cons (dl_4 (l:=1) f17 (by decide)) (allD_cons (dl_4 (l:=0) f18 (by decide)) (allD_cons (dl_4 (l:=0) f19 (by decide)) (allD_cons (dl_4 (l:=0) f20 (by decide)) (allD_cons (dl_4 (l:=1) f22 (by decide)) (allD_cons (dl_4 (l:=2) f25 (by decide)) allD_nil))))))
     have s26:=same_new hy26 (.lst [(V.ref y17),(V.ref y18),(V.ref y19),(V.ref y20),(V.ref y22),(V.ref y25)])
     have gE2:(upd J25 y26 (.lst [(V.ref y17),(V.ref y18),(V.ref y19),(V.ref y20),(V.ref y22),(V.ref y25)])) y26=some (.lst [(V.ref y17),(V.ref y18),(V.ref y19),(V.ref y20),(V.ref y22),(V.ref y25)]):=upd_same
     replace bu:=bu.same s26
     replace D:=fun x hx=>(D x hx).same s26
     replace gD:=s26 _ _ gD
     replace E2:=fun x hx=>(E2 x hx).same s26
     generalize upd J25 y26 _=J26 at*
     clear s26 hy26
     walk_at "go"
     refine s_addL gD gE2 (by rw[l9,sizeLine_eq];simp) (fun y27 hy27=>?_)
     have F2:∀x∈L9++[(V.ref y17),(V.ref y18),(V.ref y19),(V.ref y20),(V.ref y22),(V.ref y25)],Dl S (nb n0 4) (m0+3) J26 x:=allD_app D E2
     obtain⟨S',hS'⟩:∃S':Addr->Prop,S'=fun x=>S x\/x=y27:=⟨_,rfl⟩
     have hSp':S' p:=by rw[hS'];exact .inl hSp
     have hSy:S' y27:=by rw[hS'];exact .inr rfl
     have nyp:y27≠p:=fun z=>by obtain⟨_,_,_,e,_⟩:=bu.2.2.2.1;rw[z,e]at hy27;cases hy27
     have hyH:H y27=none:=by
      cases e:H y27 with
      |none=>rfl
      |some o=>rw[bu.2.2.2.2.2 _ _ e nyp]at hy27;cases hy27
     have nva:va≠y27:=fun z=>by have:=bu.2.2.2.2.1;rw[z,hy27]at this;cases this
     have s27:=same_new hy27 (.lst (L9++[(V.ref y17),(V.ref y18),(V.ref y19),(V.ref y20),(V.ref y22),(V.ref y25)]))
     have gF2:(upd J26 y27 (.lst (L9++[(V.ref y17),(V.ref y18),(V.ref y19),(V.ref y20),(V.ref y22),(V.ref y25)]))) y27=some (.lst (L9++[(V.ref y17),(V.ref y18),(V.ref y19),(V.ref y20),(V.ref y22),(V.ref y25)])):=upd_same
     replace F2:=fun x hx=>((F2 x hx).grow hS' hy27).same s27
     replace bu:=bu.grow (o:= .lst (L9++[(V.ref y17),(V.ref y18),(V.ref y19),(V.ref y20),(V.ref y22),(V.ref y25)])) hS' hy27
     generalize upd J26 y27 _=J27 at*
     clear s27 hy27 D gD E2 gE2
     have l15:(L9++[(V.ref y17),(V.ref y18),(V.ref y19),(V.ref y20),(V.ref y22),(V.ref y25)]).length=15:=by rw[List.length_append,l9];rfl
     generalize(L9++[(V.ref y17),(V.ref y18),(V.ref y19),(V.ref y20),(V.ref y22),(V.ref y25)]:List V)=L15 at*
     walk_at "go"
     refine⟨.inl ⟨rfl,_,SqL.of gF2⟩,?_⟩
     walk_at "go"
     refine⟨small (show 2<=1000 by decide),fun y28 hy28=>?_⟩
     have f28:=lvT (xs:=[(V.ref va),(V.int (c:Int))]) (n0:=n0) (m0:=m0) (l:=0) hy28 bu.2.2.1 (allD_cons (bu.2.1.lv hg hn0 hm0) (allD_cons (ki hck) allD_nil)) (by simp)
     have s28:=same_new hy28 (.tup [(V.ref va),(V.int (c:Int))])
     replace bu:=bu.same s28
     replace F2:=fun x hx=>(F2 x hx).same s28
     replace gF2:=s28 _ _ gF2
     generalize upd J27 y28 _=J28 at*
     clear s28 hy28
     walk_at "go"
     refine⟨small (show 1<=1000 by decide),fun y29 hy29=>?_⟩
     have f29:=lvL (xs:=[(V.ref y28)]) (n0:=n0) (m0:=m0) (l:=1) hy29 bu.2.2.1 (allD_cons f28 allD_nil) (by simp)
     have s29:=same_new hy29 (.lst [(V.ref y28)])
     replace bu:=bu.same s29
     replace F2:=fun x hx=>(F2 x hx).same s29
     replace gF2:=s29 _ _ gF2
     generalize upd J28 y29 _=J29 at*
     clear s29 hy29
     have e29:=dl_lv f29
     walk_at "go"
     refine⟨y27,_,_,rfl,rfl,gF2,small1000 (by omega),?_⟩
     have G2:∀x∈L15++[(V.ref y29)],Dl S' (nb n0 4) (m0+3) J29 x:=allD_app F2 (allD_cons (dl_4 (l:=1) f29 (by decide)) allD_nil)
     have su:SameBut1 y27 J29 (upd J29 y27 (.lst (L15++[(V.ref y29)]))):=fun b o hb nb=>by rw[upd_ne nb];exact hb
     have gG2:(upd J29 y27 (.lst (L15++[(V.ref y29)]))) y27=some (.lst (L15++[(V.ref y29)])):=upd_same
     replace G2:=fun x hx=>(G2 x hx).keep (kp_but su hSy)
     replace bu:=bu.put hSy gG2 su nyp nva hyH
     generalize upd J29 y27 _=JX at*
     clear F2 gF2 su
     have l16:(L15++[(V.ref y29)]).length=16:=by rw[List.length_append,l15];rfl
     generalize(L15++[(V.ref y29)]:List V)=L16 at*
     walk_at "go"
     refine⟨small (show 2<=1000 by decide),fun y30 hy30=>?_⟩
     have f30:=lvT (xs:=[(V.int (c:Int)),(V.ref va)]) (n0:=n0) (m0:=m0) (l:=0) hy30 bu.2.2.1 (allD_cons (ki hck) (allD_cons (bu.2.1.lv hg hn0 hm0) allD_nil)) (by simp)
     have s30:=same_new hy30 (.tup [(V.int (c:Int)),(V.ref va)])
     replace bu:=bu.same s30
     replace G2:=fun x hx=>(G2 x hx).same s30
     replace gG2:=s30 _ _ gG2
     generalize upd JX y30 _=J30 at*
     clear s30 hy30
     walk_at "go"
     refine⟨small (show 0<=1000 by decide),fun y31 hy31=>?_⟩
     have f31:=lvL (xs:=[]) (n0:=n0) (m0:=m0) (l:=0) hy31 bu.2.2.1 allD_nil (by simp)
     have s31:=same_new hy31 (.lst [])
     replace bu:=bu.same s31
     replace G2:=fun x hx=>(G2 x hx).same s31
     replace gG2:=s31 _ _ gG2
     replace f30:=f30.same s31
     generalize upd J30 y31 _=J31 at*
     clear s31 hy31
     have e31:=dl_lv f31
     as_aux_lemma=>
      walk_at "go"
      refine⟨small (show 2<=1000 by decide),fun y32 hy32=>?_⟩
      have f32:=lvT (xs:=[(V.int (c:Int)),(V.ref y31)]) (n0:=n0) (m0:=m0) (l:=1) hy32 bu.2.2.1 (allD_cons (Lv.up (l:=0) (ki hck) (by decide)) (allD_cons e31 allD_nil)) (by simp)
      have s32:=same_new hy32 (.tup [(V.int (c:Int)),(V.ref y31)])
      replace bu:=bu.same s32
      replace G2:=fun x hx=>(G2 x hx).same s32
      replace gG2:=s32 _ _ gG2
      replace f30:=f30.same s32
      generalize upd J31 y32 _=J32 at*
      clear s32 hy32
      walk_at "go"
      refine⟨small (show 2<=1000 by decide),fun y33 hy33=>?_⟩
      have f33:=lvL (xs:=[(V.ref y30),(V.ref y32)]) (n0:=n0) (m0:=m0) (l:=2) hy33 bu.2.2.1 (allD_cons (Lv.up (l:=1) f30 (by decide)) (allD_cons f32 allD_nil)) (by simp)
      have s33:=same_new hy33 (.lst [(V.ref y30),(V.ref y32)])
      replace bu:=bu.same s33
      replace G2:=fun x hx=>(G2 x hx).same s33
      replace gG2:=s33 _ _ gG2
      generalize upd J32 y33 _=J33 at*
      clear s33 hy33
      have e33:=dl_lv f33
      walk_at "go"
      refine⟨small (show 0<=1000 by decide),fun y34 hy34=>?_⟩
      have f34:=lvL (xs:=[]) (n0:=n0) (m0:=m0) (l:=0) hy34 bu.2.2.1 allD_nil (by simp)
      have s34:=same_new hy34 (.lst [])
      replace bu:=bu.same s34
      replace G2:=fun x hx=>(G2 x hx).same s34
      replace gG2:=s34 _ _ gG2
      replace f33:=f33.same s34
      replace e33:=e33.same s34
      generalize upd J33 y34 _=J34 at*
      clear s34 hy34
      have e34:=dl_lv f34
      walk_at "go"
      refine⟨small (show 2<=1000 by decide),fun y35 hy35=>?_⟩
      have f35:=lvT (xs:=[(V.int (c:Int)),(V.ref va)]) (n0:=n0) (m0:=m0) (l:=0) hy35 bu.2.2.1 (allD_cons (ki hck) (allD_cons (bu.2.1.lv hg hn0 hm0) allD_nil)) (by simp)
      have s35:=same_new hy35 (.tup [(V.int (c:Int)),(V.ref va)])
      replace bu:=bu.same s35
      replace G2:=fun x hx=>(G2 x hx).same s35
      replace gG2:=s35 _ _ gG2
      replace f33:=f33.same s35
      replace e33:=e33.same s35
      replace f34:=f34.same s35
      replace e34:=e34.same s35
      generalize upd J34 y35 _=J35 at*
      clear s35 hy35
      walk_at "go"
      refine⟨small (show 1<=1000 by decide),fun y36 hy36=>?_⟩
      have f36:=lvL (xs:=[(V.ref y35)]) (n0:=n0) (m0:=m0) (l:=1) hy36 bu.2.2.1 (allD_cons f35 allD_nil) (by simp)
      have s36:=same_new hy36 (.lst [(V.ref y35)])
      replace bu:=bu.same s36
      replace G2:=fun x hx=>(G2 x hx).same s36
      replace gG2:=s36 _ _ gG2
      replace f33:=f33.same s36
      replace e33:=e33.same s36
      replace f34:=f34.same s36
      replace e34:=e34.same s36
      generalize upd J35 y36 _=J36 at*
      clear s36 hy36
      have e36:=dl_lv f36
      walk_at "go"
      refine⟨small (show 2<=1000 by decide),fun y37 hy37=>?_⟩
      have f37:=lvT (xs:=[(V.int (c:Int)),(V.ref y36)]) (n0:=n0) (m0:=m0) (l:=2) hy37 bu.2.2.1 (allD_cons (Lv.up (l:=0) (ki hck) (by decide)) (allD_cons e36 allD_nil)) (by simp)
      have s37:=same_new hy37 (.tup [(V.int (c:Int)),(V.ref y36)])
      replace bu:=bu.same s37
      replace G2:=fun x hx=>(G2 x hx).same s37
      replace gG2:=s37 _ _ gG2
      replace f33:=f33.same s37
      replace e33:=e33.same s37
      replace f34:=f34.same s37
      replace e34:=e34.same s37
      generalize upd J36 y37 _=J37 at*
      clear s37 hy37
      as_aux_lemma=>
       walk_at "go"
       refine⟨small (show 1<=1000 by decide),fun y38 hy38=>?_⟩
       have f38:=lvL (xs:=[(V.ref y37)]) (n0:=n0) (m0:=m0) (l:=3) hy38 bu.2.2.1 (allD_cons f37 allD_nil) (by simp)
       have s38:=same_new hy38 (.lst [(V.ref y37)])
       replace bu:=bu.same s38
       replace G2:=fun x hx=>(G2 x hx).same s38
       replace gG2:=s38 _ _ gG2
       replace f33:=f33.same s38
       replace e33:=e33.same s38
       replace f34:=f34.same s38
       replace e34:=e34.same s38
       generalize upd J37 y38 _=J38 at*
       clear s38 hy38
       have e38:=dl_lv f38
       walk_at "go"
       intro y39 hy39
       have f39:=lv_dict h2000 hm2 bu.2.2.1 hy39
       have s39:=same_new hy39 (.dK [])
       replace bu:=bu.same s39
       replace G2:=fun x hx=>(G2 x hx).same s39
       replace gG2:=s39 _ _ gG2
       replace f33:=f33.same s39
       replace e33:=e33.same s39
       replace f34:=f34.same s39
       replace e34:=e34.same s39
       replace f38:=f38.same s39
       replace e38:=e38.same s39
       generalize upd J38 y39 _=J39 at*
       clear s39 hy39
       walk_at "go"
       refine⟨small (show 2<=1000 by decide),fun y40 hy40=>?_⟩
       have f40:=lvT (xs:=[(V.int (c:Int)),(V.ref y39)]) (n0:=n0) (m0:=m0) (l:=0) hy40 bu.2.2.1 (allD_cons (ki hck) (allD_cons f39 allD_nil)) (by simp)
       have s40:=same_new hy40 (.tup [(V.int (c:Int)),(V.ref y39)])
       replace bu:=bu.same s40
       replace G2:=fun x hx=>(G2 x hx).same s40
       replace gG2:=s40 _ _ gG2
       replace f33:=f33.same s40
       replace e33:=e33.same s40
       replace f34:=f34.same s40
       replace e34:=e34.same s40
       replace f38:=f38.same s40
       replace e38:=e38.same s40
       generalize upd J39 y40 _=J40 at*
       clear s40 hy40
       walk_at "go"
       refine⟨small (show 1<=1000 by decide),fun y41 hy41=>?_⟩
       have f41:=lvL (xs:=[(V.ref y40)]) (n0:=n0) (m0:=m0) (l:=1) hy41 bu.2.2.1 (allD_cons f40 allD_nil) (by simp)
       have s41:=same_new hy41 (.lst [(V.ref y40)])
       replace bu:=bu.same s41
       replace G2:=fun x hx=>(G2 x hx).same s41
       replace gG2:=s41 _ _ gG2
       replace f33:=f33.same s41
       replace e33:=e33.same s41
       replace f34:=f34.same s41
       replace e34:=e34.same s41
       replace f38:=f38.same s41
       replace e38:=e38.same s41
       generalize upd J40 y41 _=J41 at*
       clear s41 hy41
       have e41:=dl_lv f41
       walk_at "go"
       refine⟨small (show 2<=1000 by decide),fun y42 hy42=>?_⟩
       have f42:=lvT (xs:=[(V.int (c:Int)),(tx [])]) (n0:=n0) (m0:=m0) (l:=0) hy42 bu.2.2.1 (allD_cons (ki hck) (allD_cons (kT (by unfold Low;decide) (by decide)) allD_nil)) (by simp)
       have s42:=same_new hy42 (.tup [(V.int (c:Int)),(tx [])])
       replace bu:=bu.same s42
       replace G2:=fun x hx=>(G2 x hx).same s42
       replace gG2:=s42 _ _ gG2
       replace f33:=f33.same s42
       replace e33:=e33.same s42
       replace f34:=f34.same s42
       replace e34:=e34.same s42
       replace f38:=f38.same s42
       replace e38:=e38.same s42
       replace f41:=f41.same s42
       replace e41:=e41.same s42
       generalize upd J41 y42 _=J42 at*
       clear s42 hy42
       walk_at "go"
       refine⟨small (show 1<=1000 by decide),fun y43 hy43=>?_⟩
       have f43:=lvL (xs:=[(V.ref y42)]) (n0:=n0) (m0:=m0) (l:=1) hy43 bu.2.2.1 (allD_cons f42 allD_nil) (by simp)
       have s43:=same_new hy43 (.lst [(V.ref y42)])
       replace bu:=bu.same s43
       replace G2:=fun x hx=>(G2 x hx).same s43
       replace gG2:=s43 _ _ gG2
       replace f33:=f33.same s43
       replace e33:=e33.same s43
       replace f34:=f34.same s43
       replace e34:=e34.same s43
       replace f38:=f38.same s43
       replace e38:=e38.same s43
       replace f41:=f41.same s43
       replace e41:=e41.same s43
       generalize upd J42 y43 _=J43 at*
       clear s43 hy43
       have e43:=dl_lv f43
       walk_at "go"
       refine⟨small (show 5<=1000 by decide),fun y44 hy44=>?_⟩
       have M2:∀x∈[(V.ref y33),(V.ref y34),(V.ref y38),(V.ref y41),(V.ref y43)],Dl S' (nb n0 4) (m0+3) J43 x:=(allD_cons (dl_4 (l:=2) f33 (by decide)) (allD_cons (dl_4 (l:=0) f34 (by decide)) (allD_cons (dl_4 (l:=3) f38 (by decide)) (allD_cons (dl_4 (l:=1) f41 (by decide)) (allD_cons (dl_4 (l:=1) f43 (by decide)) allD_nil)))))
       have s44:=same_new hy44 (.lst [(V.ref y33),(V.ref y34),(V.ref y38),(V.ref y41),(V.ref y43)])
       have gM2:(upd J43 y44 (.lst [(V.ref y33),(V.ref y34),(V.ref y38),(V.ref y41),(V.ref y43)])) y44=some (.lst [(V.ref y33),(V.ref y34),(V.ref y38),(V.ref y41),(V.ref y43)]):=upd_same
       replace bu:=bu.same s44
       replace G2:=fun x hx=>(G2 x hx).same s44
       replace gG2:=s44 _ _ gG2
       replace M2:=fun x hx=>(M2 x hx).same s44
       generalize upd J43 y44 _=J44 at*
       clear s44 hy44
       walk_at "go"
       refine s_addL gG2 gM2 (by rw[l16,sizeLine_eq];simp) (fun y45 hy45=>?_)
       have P2:∀x∈L16++[(V.ref y33),(V.ref y34),(V.ref y38),(V.ref y41),(V.ref y43)],Dl S' (nb n0 4) (m0+3) J44 x:=allD_app G2 M2
       have s45:=same_new hy45 (.lst (L16++[(V.ref y33),(V.ref y34),(V.ref y38),(V.ref y41),(V.ref y43)]))
       have gP2:(upd J44 y45 (.lst (L16++[(V.ref y33),(V.ref y34),(V.ref y38),(V.ref y41),(V.ref y43)]))) y45=some (.lst (L16++[(V.ref y33),(V.ref y34),(V.ref y38),(V.ref y41),(V.ref y43)])):=upd_same
       clear G2 gG2 M2 gM2
       replace bu:=bu.same s45
       replace P2:=fun x hx=>(P2 x hx).same s45
       generalize upd J44 y45 _=J45 at*
       clear s45 hy45
       have l21:(L16++[(V.ref y33),(V.ref y34),(V.ref y38),(V.ref y41),(V.ref y43)]).length=21:=by rw[List.length_append,l16];rfl
       generalize(L16++[(V.ref y33),(V.ref y34),(V.ref y38),(V.ref y41),(V.ref y43)]:List V)=L21 at*
       walk_at "go"
       refine take_use bu.2.2.2.1 (by omega) (by omega) (by omega) (fun r9 J9 r90 r91 hp9 b9=>?_)
       obtain⟨fo,efo,mfo⟩:=at_memV (l:=L21) r90 (by rw[l21];exact r91)
       walk_at "go"
       have nyq:y45≠p:=fun z=>by obtain⟨_,_,_,e,_⟩:=bu.2.2.2.1;rw[z,e]at gP2;cases gP2;simp at l21
       refine s_ixL (SqL.of (b9 _ _ gP2 nyq)) efo ?_
       refine q fo J9 hp9 (bu.2.2.2.2.2.trans b9) ((((P2 _ mfo).keep (kp_but b9 hSp')).less hS').mono ?_ ?_)
       ·simp only[nb];omega
       ·omega
theorem sc_law_changed:FnScope ["pool","tree","at","left","found","kind","within"] ["pool","tree","at","left"] (defScope d_law_changed):=⟨rfl,rfl,rfl,by decide +kernel,rfl,by decide +kernel,by decide +kernel⟩
theorem ok_law_changed(n:Nat)(F:Fun K "_law_changed" "_law_changed" d_law_changed f fd)(T:Txt K mg aK cs)(U_law_odd:FnU P w K mg base k "_law_odd" ["pool","kind","within"] (spOdd))(U_law_changed:FnU P w K mg base k "_law_changed" ["pool","tree","at","left"] (recSp gChg n)):FnOk P w K mg base CX0 (k+1) f fd ["pool","tree","at","left"] (gChg n):=by
 refine F.ok sc_law_changed (fun vs H Q E h=>?_) (fun cdv A outer s H vs Q E hr h=>?_)
 ·obtain⟨S,p,L,m,c,a,v,t,rfl,_⟩:=h;rfl
 obtain⟨S,p,L,m,c,a,v,t,rfl,hSp,hSL,npL,ex,hp,hm,gL,ht,hg,hsz,hht,q⟩:=h
 have hu:=hr.units0
 obtain⟨ta,tv,rfl,nta,ga,hvl,hk⟩:=ht.open
 refine⟨_,(pss_cons (ps_set (i:=4) sc_law_changed.nd rfl (Or.inl rfl) (pe_lst pa_nil)) (pss_cons (ps_for PassesOwn.never rfl (pi_listK K (pv 1)) (pg_tupK (n:=2) K rfl (pgs_cons (pg_name (i:=5) sc_law_changed.nd rfl (Or.inl rfl)) (pgs_cons (pg_name (i:=6) sc_law_changed.nd rfl (Or.inl rfl)) pgs_nil))) (pss_cons (ps_asg (pe_op op_plus (pe_ix (ix_A K) (pv 3) pe_int (fun _ _=>rfl)) pe_int) (pg_sub (pv 3) pe_int set_list)) (pss_one (ps_if (pt_cmpR (op_eqA K hu) (pe_op op_sub (pe_ix (ix_A K) (pv 3) pe_int (fun _ _=>rfl)) pe_int) (pv 2) (nomark _)) (pss_one (ps_set (i:=4) sc_law_changed.nd rfl (Or.inl rfl) (pe_op op_plus (pv 4) (pe_fn U_law_odd hr (pa_cons (pv 0) (pa_cons (pv 5) (pa_cons (pv 6) pa_nil))))))) (pss_one (ps_expr (pe_bmK K PySem.F.plainAttrs_list PySem.F.slot_list_append PySem.F.type_list_append mt_append (pv 4) (pa_cons (pe_tup (pa_cons (pv 5) (pa_cons (pe_fn U_law_changed hr (pa_cons (pv 0) (pa_cons (pv 6) (pa_cons (pv 2) (pa_cons (pv 3) pa_nil))))) pa_nil))) pa_nil)))))))) (pss_one (ps_ret (pv 4))))),?_⟩
 walk_at "go"
 refine⟨small (show 0<=1000 by decide),fun D0 hD0=>?_⟩
 have t1:=same_new hD0 (.lst [])
 have g1:(upd H D0 (.lst [])) D0=some (.lst []):=upd_same
 generalize upd H D0 _=H1 at*
 walk_at "go"
 refine⟨ta,rfl,⟨_,SqL.of (t1 _ _ ga)⟩,?_⟩
 refine for_lst (xs:=tv) (fun i σ H'=>∃ (D:Addr) (xs:List V) (ds:List PyData) (c':Int) (o5 o6:Option V),σ=[some (.ref p),some (.ref ta),some (.int a),some (.ref L),some (.ref D),o5,o6]/\H' D=some (.lst xs)/\H D=none/\¬S D/\Svs (fun x=>S x\/x=D) H' xs ds/\Fl (200000*szt t i) (2*Tr.ht t+3) ds/\PoolAt H' p (m+2*szt t i)/\H' L=some (.lst [.int c'])/\But2 p L H H'/\Ex S H')
  ⟨D0,[],[],c,_,_,rfl,g1,hD0,ex.new hD0, .nil,fl_nil,hp.same t1,t1 _ _ gL,fun x o _ _ e=>t1 _ _ e,ex.same t1⟩ (fun i σ H' _ ⟨_,_,_,_,_,_,_,_,_,_,_,_,_,_,b2,_⟩=>SqL.of (kp_two b2 hSp hSL _ _ nta ga)) ?_ ?_
 rotate_left
 ·rintro σ H2 ⟨D,xs,ds,c',o5,o6,rfl,g2,hD,nD,sv,fl,hp2,gL2,b2,ex2⟩
  rw[hvl,szt_all]at hp2 fl
  walk_at "go"
  exact q (.ref D) c' H2 hp2 gL2 b2 ⟨D,xs,ds,rfl,nD,g2,svs_less sv,fl⟩
 rintro i x σ H2 hx ⟨D,xs,ds,c',o5,o6,rfl,g2,hD,nD,sv,fl,hp2,gL2,b2,ex2⟩
 have hi:i<t.kids.length:=by rw[<-hvl];exact(List.getElem?_eq_some_iff.mp hx).1
 obtain⟨y,hy⟩:∃y,t.kids[i]? =some y:=⟨_,List.getElem?_eq_getElem hi⟩
 obtain⟨T1,b,e1,nT1,gT1,tb⟩:=hk i y hy
 rw[hx]at e1
 cases e1
 have hmem:=List.mem_of_getElem? hy
 have hkh:=kid_ht hmem
 have hsn:=szt_next hy
 have hsl:=szt_le t (i+1)
 have hil:=kids_len t
 have kp2:=kp_two b2 hSp hSL
 have nDL:D≠L:=fun z=>nD (z▸hSL)
 have nDp:D≠p:=fun z=>nD (z▸hSp)
 have tb':TrS (fun x=>S x\/x=D) H2 (.ref b) y.2:=(tb.more (S':=fun x=>S x\/x=D) fun x o n e z=>z.elim n fun z=>by rw[z,hD]at e;cases e).keep fun x o n e=>kp2 x o (fun z=>n (.inl z)) e
 refine s_gtup (SqT.of (kp2 _ _ nT1 gT1)) rfl ?_
 walk_at "go"
 refine s_ixL (SqL.of gL2) (show atI _ (0:Int)=some (.int c')from rfl) ?_
 walk_at "go"
 refine s_setL gL2 (j:=0) rfl ?_
 have gL3:(upd H2 L (.lst ([V.int c'].set 0 (.int (c'+1))))) L=some (.lst [.int (c'+1)]):=upd_same
 have bL:SameBut1 L H2 (upd H2 L (.lst ([V.int c'].set 0 (.int (c'+1))))):=fun b o hb nb=>by rw[upd_ne nb];exact hb
 generalize upd H2 L _=H3 at*
 have kL:Kp (fun x=>S x\/x=D) H2 H3:=kp_but bL (.inl hSL)
 have g3:=bL _ _ g2 nDL
 have sv3:=svs_kp sv kL
 have tb3:=tb'.keep kL
 have hp3:PoolAt H3 p (m+2*szt t i):=let⟨a,b,c,e,h⟩:=hp2;⟨a,b,c,bL _ _ e npL,h⟩
 have b3:But2 p L H H3:=fun x o n1 n2 e=>bL _ _ (b2 x o n1 n2 e) n2
 have ex3:Ex (fun x=>S x\/x=D) H3:=fun x hx=>by
  rcases hx with hx|hx
  ·obtain⟨o,e⟩:=ex2 x hx
   by_cases z:x=L
   ·rw[z];exact⟨_,gL3⟩
   ·exact⟨o,bL _ _ e z⟩
  ·rw[hx];exact⟨_,g3⟩
 have hlen:=fl_len fl
 have hxs:=(svs_get sv3).1
 have hd5:2*Tr.ht y.2+5<=2*Tr.ht t+3:=by omega
 clear sv kL g2 hp2 b2 tb' ex2 bL gL2
 walk_at "go"
 refine s_ixL (SqL.of gL3) (show atI _ (0:Int)=some (.int (c'+1))from rfl) ?_
 walk_at "go"
 refine ifd (fun he=>?_) (fun he=>?_)
 ·walk_at "go"
  refine⟨fun x=>S x\/x=D,p,_,y.1, .ref b,y.2,rfl, .inl hSp,ex3,hp3,by omega,by omega,tb3,by omega,by omega,fun w H4 hp4 b4 dl=>?_⟩
  have kp4:Kp (fun x=>S x\/x=D) H3 H4:=kp_but b4 (.inl hSp)
  obtain⟨wa,ws,wds,rfl,nwa,gw,svw,flw⟩:=dl
  have hwl:=fl_len flw
  have hws:=(svs_get svw).1
  walk_at "go"
  refine s_addL (b4 _ _ g3 nDp) gw (by rw[sizeLine_eq];omega) (fun D5 hD5=>?_)
  have t5:=same_new hD5 (.lst (xs++ws))
  have sv5:=svs_kp (svs_grow (svs_less (svs_app svw (svs_kp sv3 kp4))) hD5) (kp_same t5)
  walk_at "go"
  refine⟨D5,xs++ws,ds++wds,c'+1,_,_,rfl,upd_same,?_,?_,sv5,?_,?_,t5 _ _ (b4 _ _ gL3 (fun z=>npL z.symm)),?_,?_⟩
  ·cases e:H D5 with
   |none=>rfl
   |some o=>
    by_cases z:D5=p
    ·obtain⟨_,_,_,e',_⟩:=hp4
     rw[z,e']at hD5;cases hD5
    ·by_cases z2:D5=L
     ·rw[z2,b4 _ _ gL3 (fun z=>npL z.symm)]at hD5;cases hD5
     ·rw[b4 _ _ (b3 _ _ z z2 e) z]at hD5;cases hD5
  ·intro z
   obtain⟨o,e⟩:=ex3 D5 (.inl z)
   by_cases z2:D5=p
   ·obtain⟨_,_,_,e',_⟩:=hp4
    rw[z2,e']at hD5;cases hD5
   ·rw[b4 _ _ e z2]at hD5;cases hD5
  ·exact(fl_app (flw.mono (Nat.le_refl _) hd5) fl).mono (by rw[hsn];omega) (Nat.le_refl _)
  ·exact(hp4.same t5).mono (by rw[hsn];omega)
  ·exact fun x o n1 n2 e=>t5 _ _ (b4 _ _ (b3 x o n1 n2 e) n1)
  ·intro x hx
   obtain⟨o,e⟩:=ex3 x (.inl hx)
   by_cases z2:x=p
   ·obtain⟨_,_,_,e',_⟩:=hp4
    rw[z2];exact⟨_,t5 _ _ e'⟩
   ·exact⟨o,t5 _ _ (b4 _ _ e z2)⟩
 ·obtain⟨n',rfl⟩:∃n',n=n'+1:=⟨n-1,by omega⟩
  walk_at "go"
  refine⟨.inl ⟨rfl,_,SqL.of g3⟩,?_⟩
  walk_at "go"
  refine⟨fun x=>S x\/x=D,p,L,_,c'+1,a, .ref b,y.2,rfl, .inl hSp, .inl hSL,npL,ex3,hp3,by omega,gL3,tb3,by omega,by omega,by omega,fun w c4 H4 hp4 gL4 b4 dl=>?_⟩
  have kp4:Kp (fun x=>S x\/x=D) H3 H4:=kp_two b4 (.inl hSp) (.inl hSL)
  have g4:=b4 _ _ nDp nDL g3
  have ex4:Ex (fun x=>S x\/x=D) H4:=fun x hx=>by
   obtain⟨o,e⟩:=ex3 x hx
   by_cases z:x=p
   ·obtain⟨_,_,_,e',_⟩:=hp4
    rw[z];exact⟨_,e'⟩
   ·by_cases z2:x=L
    ·rw[z2];exact⟨_,gL4⟩
    ·exact⟨o,b4 _ _ z z2 e⟩
  walk_at "go"
  refine⟨small (show 2<=1000 by decide),fun T5 hT5=>?_⟩
  have t5:=same_new hT5 (.tup [.int (y.1:Int),w])
  obtain⟨wa,ws,wds,rfl,nwa,gw,svw,flw⟩:=dl
  have hci:((y.1:Int)).natAbs<10^60:=Nat.lt_of_le_of_lt (show _<=4 by omega) (by decide)
  have svT:Sv (fun x=>S x\/x=D) (upd H4 T5 (.tup [.int (y.1:Int), .ref wa])) (.ref T5) (.tuple [.int (y.1:Int), .list wds]):= .tup upd_same (ex4.new hT5) (.cons (.sc (.int _)) (.cons (.lst (t5 _ _ gw) nwa (svs_kp svw (kp_same t5))) .nil))
  have fT5:=fl_cons ((fl_tup (fl_cons ((fit_int hci).mono (Nat.le_refl _) (show 1<=2*Tr.ht y.2+4 by omega)) (fl_cons (fl_lst flw) (fl_nil (n:=0))))).mono (Nat.le_refl _) (show _<=2*Tr.ht t+3 by omega)) (fl_nil (n:=0))
  have sv5:=svs_kp (svs_kp sv3 kp4) (kp_same t5)
  have g5:=t5 _ _ g4
  have hp5:=hp4.same t5
  have gL5:=t5 _ _ gL4
  have b5:But2 p L H (upd H4 T5 (.tup [.int (y.1:Int), .ref wa])):=fun x o n1 n2 e=>t5 _ _ (b4 _ _ n1 n2 (b3 x o n1 n2 e))
  have ex5:=ex4.same t5
  generalize upd H4 T5 _=H5 at*
  walk_at "go"
  refine⟨D,_,_,rfl,rfl,g5,by rw[sizeLine_eq];omega,?_⟩
  have bD:SameBut1 D H5 (upd H5 D (.lst (xs++[.ref T5]))):=fun b o hb nb=>by rw[upd_ne nb];exact hb
  walk_at "go"
  refine⟨D,xs++[.ref T5],ds++[.tuple [.int (y.1:Int), .list wds]],c4,_,_,rfl,upd_same,hD,nD,svs_kp (svs_app (svs_one svT) sv5) (kp_but bD (.inr rfl)),(fl_app fT5 fl).mono (by rw[hsn];omega) (Nat.le_refl _),?_,bD _ _ gL5 nDL.symm,fun x o n1 n2 e=>bD _ _ (b5 x o n1 n2 e) (fun z=>by rw[z,hD]at e;cases e),fun x hx=>?_⟩
  ·obtain⟨q1,q2,q3,e,h1,h2⟩:=hp5
   exact⟨q1,q2,q3,bD _ _ e nDp.symm,h1,by omega⟩
  ·obtain⟨o,e⟩:=ex5 x (.inl hx)
   exact⟨o,bD _ _ e (fun z=>nD (z▸hx))⟩
theorem sc_law_no_tree:FnScope ["pool","tree","many","some"] ["pool","tree","many"] (defScope d_law_no_tree):=⟨rfl,rfl,rfl,by decide +kernel,rfl,by decide +kernel,by decide +kernel⟩
theorem ok_law_no_tree(F:Fun K "_law_no_tree" "_law_no_tree" d_law_no_tree f fd)(T:Txt K mg aK cs)(U_law_take:FnU P w K mg base k "_law_take" ["pool","many"] (spTake))(U_law_changed:FnU P w K mg base k "_law_changed" ["pool","tree","at","left"] (recSp gChg 22)):FnOk P w K mg base CX0 (k+1) f fd ["pool","tree","many"] (spNoTrT):=by
 refine F.ok sc_law_no_tree (fun vs H Q E h=>?_) (fun cdv A outer s H vs Q E hr h=>?_)
 ·obtain⟨S,p,n,v,t,m,rfl,_⟩:=h;rfl
 obtain⟨S,p,n,v,t,m,rfl,sp,ex,hp,hn,ht,hg,hsz,hm0,hm1,q⟩:=h
 have hu:=hr.units0
 have hh:=ht_sz t
 have pa:∀ {G:Hp} {k:Nat},PoolAt G p k->SameBut1 p H G->Ex S G:=fun⟨a,b,c,e,_⟩ u x hx=>by
  obtain⟨o,eo⟩:=ex x hx
  by_cases z:x=p
  ·rw[z];exact⟨_,e⟩
  ·exact⟨o,u _ _ eo z⟩
 refine⟨_,(pss_cons (ps_set (i:=3) sc_law_no_tree.nd rfl (Or.inl rfl) (pe_op op_times (pe_lst (pa_cons (pe_fn U_law_changed hr (pa_cons (pv 0) (pa_cons (pv 1) (pa_cons (pe_fn U_law_take hr (pa_cons (pv 0) (pa_cons (pe_callB (call_maxA rfl) rfl T.n_max PyProof.Rows.boot_max (pa_cons pe_int (pa_cons (pv 2) pa_nil))) pa_nil))) (pa_cons (pe_lst (pa_cons pe_int pa_nil)) pa_nil))))) pa_nil)) pe_int)) (pss_cons (ps_set (i:=3) sc_law_no_tree.nd rfl (Or.inl rfl) (pe_op op_plus (pv 3) (PEb.pe (pe_lstB (Pl.cal (pe_callTy (call_tupleA K) rfl T.n_tuple PyProof.Rows.boot_tuple (pa_cons (pv 1) pa_nil)) (Pl.con pe_non (Pl.con pe_int (Pl.con (pe_tx (l:=[]) (by decide +kernel)) (Pl.con (pe_tx (l:=[40,41]) (by decide +kernel)) (Pl.dct pe_dnewK (Pl.tup (pe_tup pa_nil) (Pl.con pe_bl (Pl.bin (pe_op op_plus (pv 1) (pe_lst (pa_cons pe_non pa_nil))) (Pl.lst (pe_lst (pa_cons (pv 1) pa_nil)) (Pl.bin (pe_op op_plus (pv 1) (pe_op op_times (pe_lst (pa_cons (pe_tup (pa_cons pe_int (pa_cons (pe_lst pa_nil) pa_nil))) pa_nil)) pe_int)) Pl.nil))))))))))))))) (pss_one (ps_ret (pe_ix (ix_A K) (pv 3) (pe_fn U_law_take hr (pa_cons (pv 0) (pa_cons pe_int pa_nil))) (fun _ _=>rfl)))))),?_⟩
 walk_at "go"
 refine take_use hp (by omega) (by split<;>omega) (by split<;>omega) (fun r1 H1 r10 r11 hp1 b1=>?_)
 have t1:=ht.keep (kp_but b1 sp)
 walk_at "go"
 refine⟨small (show 1<=1000 by decide),fun L hL=>?_⟩
 have s2:=same_new hL (.lst [.int 0])
 have gL:(upd H1 L (.lst [.int 0])) L=some (.lst [.int 0]):=upd_same
 have nLp:L≠p:=fun z=>by obtain⟨_,_,_,e,_⟩:=hp1;rw[z,e]at hL;cases hL
 have t2:=(t1.grow (S':=fun x=>S x\/x=L) rfl hL).same s2
 have hp2:=hp1.same s2
 have ex2:=(pa hp1 b1).grow (S':=fun x=>S x\/x=L) (o:= .lst [.int 0]) rfl hL
 generalize upd H1 L _=H2 at*
 walk_at "go"
 refine⟨fun x=>S x\/x=L,p,L,_,0,r1,v,t,rfl, .inl sp, .inr rfl,nLp.symm,ex2,hp2,by omega,gL,t2,hg,hsz,Nat.le_trans hh (Nat.le_trans hsz (by decide)),fun w c3 H3 hp3 gL3 b3 dl=>?_⟩
 obtain⟨wr,hwr⟩:∃wr,w= .ref wr:=let⟨a,_,_,e,_⟩:=dl;⟨a,e⟩
 have hHL:H L=none:=by
  cases e:H L with
  |none=>rfl
  |some o=>rw[b1 _ _ e nLp]at hL;cases hL
 have u3:SameBut1 p H H3:=fun x o e n=>b3 _ _ n (fun z=>by rw[z,hHL]at e;cases e) (s2 _ _ (b1 _ _ e n))
 have d3:=(dl.less rfl).dv.mono (show _<=5000000 by omega) (show _<=50 by omega)
 have t3:=ht.keep (kp_but u3 sp)
 clear t1 s2 gL t2 hp2 ex2 b3 gL3 dl hp1 b1
 walk_at "go"
 refine⟨small (show 1<=1000 by decide),fun y4 hy4=>?_⟩
 have s4:=same_new hy4 (.lst [w])
 have g4:(upd H3 y4 (.lst [w])) y4=some (.lst [w]):=upd_same
 have d4:=d3.same s4
 have t4:=t3.same s4
 have hp4:=hp3.same s4
 have u4:=u3.trans (SameBut1.of s4)
 generalize upd H3 y4 _=H4 at*
 clear d3 t3 hp3 u3 s4 hy4
 walk_at "go"
 refine s_rep (xs:=[w]) g4 (by decide) (by decide) (small (by simp)) (fun y5 hy5=>?_)
 have s5:=same_new hy5 (.lst (List.replicate (9:Int).toNat [w]).flatten)
 have g5:(upd H4 y5 (.lst (List.replicate (9:Int).toNat [w]).flatten)) y5=_:=upd_same
 have A5:∀x∈(List.replicate (9:Int).toNat [w]).flatten,Dv (S) 5000000 50 (upd H4 y5 (.lst (List.replicate (9:Int).toNat [w]).flatten)) x:=fun x hx=>by rw[mem_rep hx];exact d4.same s5
 have hT9:∀x∈(List.replicate (9:Int).toNat [w]).flatten,∀a,x=tx a->a.length<=1000:=fun x hx=>by rw[mem_rep hx,hwr];exact nrT
 have l5:(List.replicate (9:Int).toNat [w]).flatten.length=9:=rep_len1
 have t5:=t4.same s5
 have hp5:=hp4.same s5
 have u5:=u4.trans (SameBut1.of s5)
 generalize upd H4 y5 _=H5 at*
 generalize(List.replicate (9:Int).toNat [w]).flatten=L9 at*
 clear d4 t4 hp4 u4 s5 hy5 g4
 obtain⟨va,vxs,rfl,nva,gva,_⟩:=t5.open
 walk_at "go"
 simp only[tAll]
 walk_at "go"
 refine s_tupL (SqL.of gva) (fun y6 hy6=>?_)
 have d6:Dv (S) 5000000 50 _ (.ref y6):=Dv.mono (tupW t5 hg gva hy6 (pa hp5 u5) rfl rfl) (by rw[nb];omega) (by omega)
 have s6:=same_new hy6 (.tup vxs)
 replace A5:=fun x hx=>(A5 x hx).same s6
 replace g5:=s6 _ _ g5
 replace t5:=t5.same s6
 replace gva:=s6 _ _ gva
 replace hp5:=hp5.same s6
 replace u5:=u5.trans (SameBut1.of s6)
 generalize upd H5 y6 _=H6 at*
 clear s6 hy6
 walk_at "go"
 intro y7 hy7
 have d7:Dv (S) 5000000 50 _ (.ref y7):=Dv.mono (lv_dict (n0:=2000) (m0:=2) (by decide) (by decide) (pa hp5 u5) hy7) (by rw[nb];omega) (by omega)
 have s7:=same_new hy7 (.dK [])
 replace A5:=fun x hx=>(A5 x hx).same s7
 replace g5:=s7 _ _ g5
 replace t5:=t5.same s7
 replace gva:=s7 _ _ gva
 replace hp5:=hp5.same s7
 replace u5:=u5.trans (SameBut1.of s7)
 replace d6:=d6.same s7
 generalize upd H6 y7 _=H7 at*
 clear s7 hy7
 walk_at "go"
 refine⟨small (show 0<=1000 by decide),fun y8 hy8=>?_⟩
 have d8:Dv (S) 5000000 50 _ (.ref y8):=newT (xs:=[]) (n:=0) (m:=0) hy8 (pa hp5 u5) allD_nil (by simp) (by simp)
 have s8:=same_new hy8 (.tup [])
 replace A5:=fun x hx=>(A5 x hx).same s8
 replace g5:=s8 _ _ g5
 replace t5:=t5.same s8
 replace gva:=s8 _ _ gva
 replace hp5:=hp5.same s8
 replace u5:=u5.trans (SameBut1.of s8)
 replace d6:=d6.same s8
 replace d7:=d7.same s8
 generalize upd H7 y8 _=H8 at*
 clear s8 hy8
 walk_at "go"
 refine⟨small (show 1<=1000 by decide),fun y9 hy9=>?_⟩
 have d9:=newL (S:=S) (n':=2002) (m':=1) (xs:=[V.non]) hy9 (pa hp5 u5) (allD_cons (dv_non (n:=2000) (m:=1) (by decide) (by decide)) allD_nil) (by simp) (by decide)
 have s9:=same_new hy9 (.lst [.non])
 have g9:(upd H8 y9 (.lst [.non])) y9=some (.lst [.non]):=upd_same
 replace A5:=fun x hx=>(A5 x hx).same s9
 replace g5:=s9 _ _ g5
 replace t5:=t5.same s9
 replace gva:=s9 _ _ gva
 replace hp5:=hp5.same s9
 replace u5:=u5.trans (SameBut1.of s9)
 replace d6:=d6.same s9
 replace d7:=d7.same s9
 replace d8:=d8.same s9
 generalize upd H8 y9 _=H9 at*
 clear s9 hy9
 have hvl:=fl_len (dl_same_at (t5.dl hg) gva).choose_spec.2
 have hvl2:=(svs_get (dl_same_at (t5.dl hg) gva).choose_spec.1).1
 generalize(dl_same_at (t5.dl hg) gva).choose=vds at hvl hvl2
 walk_at "go"
 refine s_addL gva g9 (by rw[sizeLine_eq];simp;omega) (fun y10 hy10=>?_)
 have d10:Dv (S) 5000000 50 _ (.ref y10):=cat2 (t5.dl hg) d9 gva g9 hy10 (pa hp5 u5) (by omega) (by omega) (by omega)
 have s10:=same_new hy10 (.lst (vxs++[.non]))
 replace A5:=fun x hx=>(A5 x hx).same s10
 replace g5:=s10 _ _ g5
 replace t5:=t5.same s10
 replace gva:=s10 _ _ gva
 replace hp5:=hp5.same s10
 replace u5:=u5.trans (SameBut1.of s10)
 replace d6:=d6.same s10
 replace d7:=d7.same s10
 replace d8:=d8.same s10
 generalize upd H9 y10 _=H10 at*
 clear s10 hy10 d9 g9
 walk_at "go"
 refine⟨small (show 1<=1000 by decide),fun y11 hy11=>?_⟩
 have d11:Dv (S) 5000000 50 _ (.ref y11):=(newL (S:=S) (n':=100000) (m':=49) (xs:=[V.ref va]) hy11 (pa hp5 u5) (allD_cons ((t5.dl hg).dv.mono (show _<=50000 by omega) (show _<=49 by omega)) allD_nil) (by simp) (Nat.le_refl _)).dv.mono (by decide) (by decide)
 have s11:=same_new hy11 (.lst [.ref va])
 replace A5:=fun x hx=>(A5 x hx).same s11
 replace g5:=s11 _ _ g5
 replace t5:=t5.same s11
 replace gva:=s11 _ _ gva
 replace hp5:=hp5.same s11
 replace u5:=u5.trans (SameBut1.of s11)
 replace d6:=d6.same s11
 replace d7:=d7.same s11
 replace d8:=d8.same s11
 replace d10:=d10.same s11
 generalize upd H10 y11 _=H11 at*
 clear s11 hy11
 walk_at "go"
 refine⟨small (show 0<=1000 by decide),fun y12 hy12=>?_⟩
 have d12:=(newL (S:=S) (n:=0) (m:=0) (n':=0) (m':=0) (xs:=[]) hy12 (pa hp5 u5) allD_nil (by simp) (by simp)).dv
 have s12:=same_new hy12 (.lst [])
 replace A5:=fun x hx=>(A5 x hx).same s12
 replace g5:=s12 _ _ g5
 replace t5:=t5.same s12
 replace gva:=s12 _ _ gva
 replace hp5:=hp5.same s12
 replace u5:=u5.trans (SameBut1.of s12)
 replace d6:=d6.same s12
 replace d7:=d7.same s12
 replace d8:=d8.same s12
 replace d10:=d10.same s12
 replace d11:=d11.same s12
 generalize upd H11 y12 _=H12 at*
 clear s12 hy12
 walk_at "go"
 refine⟨small (show 2<=1000 by decide),fun y13 hy13=>?_⟩
 have d13:=newT (S:=S) (n:=2000) (m:=1) (n':=5000) (m':=2) (xs:=[V.int 0, .ref y12]) hy13 (pa hp5 u5) (allD_cons (dv_int (by decide) (by decide) (by decide)) (allD_cons (d12.mono (by decide) (by decide)) allD_nil)) (by simp) (by decide)
 have s13:=same_new hy13 (.tup [.int 0, .ref y12])
 replace A5:=fun x hx=>(A5 x hx).same s13
 replace g5:=s13 _ _ g5
 replace t5:=t5.same s13
 replace gva:=s13 _ _ gva
 replace hp5:=hp5.same s13
 replace u5:=u5.trans (SameBut1.of s13)
 replace d6:=d6.same s13
 replace d7:=d7.same s13
 replace d8:=d8.same s13
 replace d10:=d10.same s13
 replace d11:=d11.same s13
 generalize upd H12 y13 _=H13 at*
 clear s13 hy13 d12
 walk_at "go"
 refine⟨small (show 1<=1000 by decide),fun y14 hy14=>?_⟩
 have s14:=same_new hy14 (.lst [.ref y13])
 have g14:(upd H13 y14 (.lst [.ref y13])) y14=some (.lst [.ref y13]):=upd_same
 replace A5:=fun x hx=>(A5 x hx).same s14
 replace g5:=s14 _ _ g5
 replace t5:=t5.same s14
 replace gva:=s14 _ _ gva
 replace hp5:=hp5.same s14
 replace u5:=u5.trans (SameBut1.of s14)
 replace d6:=d6.same s14
 replace d7:=d7.same s14
 replace d8:=d8.same s14
 replace d10:=d10.same s14
 replace d11:=d11.same s14
 replace d13:=d13.same s14
 generalize upd H13 y14 _=H14 at*
 clear s14 hy14
 walk_at "go"
 refine s_rep (xs:=[.ref y13]) g14 (by decide) (by decide) (small (by simp)) (fun y15 hy15=>?_)
 have l20:(List.replicate (20:Int).toNat [V.ref y13]).flatten.length=20:=rep_len1
 have d15:=newL (S:=S) (n:=5000) (m:=2) (n':=200000) (m':=2) (xs:=(List.replicate (20:Int).toNat [V.ref y13]).flatten) hy15 (pa hp5 u5) (fun x hx=>by rw[mem_rep hx];exact d13) (by rw[l20];decide) (by decide)
 have s15:=same_new hy15 (.lst (List.replicate (20:Int).toNat [V.ref y13]).flatten)
 have g15:(upd H14 y15 (.lst (List.replicate (20:Int).toNat [V.ref y13]).flatten)) y15=some (.lst (List.replicate (20:Int).toNat [V.ref y13]).flatten):=upd_same
 replace A5:=fun x hx=>(A5 x hx).same s15
 replace g5:=s15 _ _ g5
 replace t5:=t5.same s15
 replace gva:=s15 _ _ gva
 replace hp5:=hp5.same s15
 replace u5:=u5.trans (SameBut1.of s15)
 replace d6:=d6.same s15
 replace d7:=d7.same s15
 replace d8:=d8.same s15
 replace d10:=d10.same s15
 replace d11:=d11.same s15
 generalize upd H14 y15 _=H15 at*
 generalize(List.replicate (20:Int).toNat [V.ref y13]).flatten=L20 at*
 clear s15 hy15 d13 g14
 walk_at "go"
 refine s_addL gva g15 (by rw[sizeLine_eq,l20];omega) (fun y16 hy16=>?_)
 have d16:Dv (S) 5000000 50 _ (.ref y16):=cat2 (t5.dl hg) d15 gva g15 hy16 (pa hp5 u5) (by omega) (by omega) (by omega)
 have s16:=same_new hy16 (.lst (vxs++L20))
 replace A5:=fun x hx=>(A5 x hx).same s16
 replace g5:=s16 _ _ g5
 replace hp5:=hp5.same s16
 replace u5:=u5.trans (SameBut1.of s16)
 replace d6:=d6.same s16
 replace d7:=d7.same s16
 replace d8:=d8.same s16
 replace d10:=d10.same s16
 replace d11:=d11.same s16
 generalize upd H15 y16 _=H16 at*
 clear s16 hy16 d15 g15 t5 gva
 walk_at "go"
 refine⟨small (show 11<=1000 by decide),fun y17 hy17=>?_⟩
 obtain⟨M11,hM11⟩:∃M,M=[V.ref y6, .non, .int 0,tx [],tx [40,41], .ref y7, .ref y8, .bl true, .ref y10, .ref y11, .ref y16]:=⟨_,rfl⟩
 have B:∀x∈M11,Dv (S) 5000000 50 H16 x:=by
  rw[hM11]
  exact allD_cons d6 (allD_cons (dv_non (by decide) (by decide)) (allD_cons (dv_int (by decide) (by decide) (by decide)) (allD_cons (dv_tx (by unfold Low;decide) (by decide) (by decide) (by decide)) (allD_cons (dv_tx (by unfold Low;decide) (by decide) (by decide) (by decide)) (allD_cons d7 (allD_cons d8 (allD_cons (dv_bl true (by decide) (by decide)) (allD_cons d10 (allD_cons d11 (allD_cons d16 allD_nil))))))))))
 have hT11:∀x∈M11,∀a,x=tx a->a.length<=1000:=by
  rw[hM11]
  exact allD_cons nrT (allD_cons (fun _ z=>nomatch z) (allD_cons (fun _ z=>nomatch z) (allD_cons (fun a z=>by rw[<-tx_eq z];decide) (allD_cons (fun a z=>by rw[<-tx_eq z];decide) (allD_cons nrT (allD_cons nrT (allD_cons (fun _ z=>nomatch z) (allD_cons nrT (allD_cons nrT (allD_cons nrT allD_nil))))))))))
 have lM:M11.length=11:=by rw[hM11];rfl
 rw[<-hM11]
 have s17:=same_new hy17 (.lst M11)
 have g17:(upd H16 y17 (.lst M11)) y17=some (.lst M11):=upd_same
 replace A5:=fun x hx=>(A5 x hx).same s17
 replace B:=fun x hx=>(B x hx).same s17
 replace g5:=s17 _ _ g5
 replace hp5:=hp5.same s17
 replace u5:=u5.trans (SameBut1.of s17)
 generalize upd H16 y17 _=H17 at*
 clear s17 hy17 hM11 d6 d7 d8 d10 d11 d16
 walk_at "go"
 refine s_addL g5 g17 (by rw[l5,lM,sizeLine_eq];omega) (fun y18 hy18=>?_)
 have n18:y18≠p:=fun z=>by obtain⟨_,_,_,e,_⟩:=hp5;rw[z,e]at hy18;cases hy18
 have s18:=same_new hy18 (.lst (L9++M11))
 have g18:(upd H17 y18 (.lst (L9++M11))) y18=some (.lst (L9++M11)):=upd_same
 have C:∀x∈L9++M11,Dv (S) 5000000 50 (upd H17 y18 (.lst (L9++M11))) x:=fun x hx=>(allD_app A5 B x hx).same s18
 have l18:(L9++M11).length=20:=by rw[List.length_append,l5,lM]
 replace hp5:=hp5.same s18
 replace u5:=u5.trans (SameBut1.of s18)
 generalize upd H17 y18 _=H18 at*
 have hT:∀x∈L9++M11,∀a,x=tx a->a.length<=1000:=fun x hx=>(List.mem_append.mp hx).elim (hT9 x) (hT11 x)
 generalize L9++M11=LL at*
 walk_at "go"
 refine take_use hp5 (by omega) (by omega) (by omega) (fun r9 J9 r90 r91 hp9 b9=>?_)
 obtain⟨fo,efo,mfo⟩:=at_memV (l:=LL) r90 (by rw[l18];exact r91)
 walk_at "go"
 refine s_ixL (SqL.of (b9 _ _ g18 n18)) efo ?_
 exact q fo J9 (hp9.mono (by omega)) (u5.trans b9) ((C _ mfo).keep (kp_but b9 sp)) (hT _ mfo)
theorem sc_law_is:FnScope ["caught","due","kinds"] ["caught","due"] (defScope d_law_is):=⟨rfl,rfl,rfl,by decide +kernel,rfl,by decide +kernel,by decide +kernel⟩
theorem ok_law_is(F:Fun K "_law_is" "_law_is" d_law_is f fd)(T:Txt K mg aK cs):FnOk P w K mg base CX0 (k+1) f fd ["caught","due"] (spIs10 cs):=by
 refine F.ok sc_law_is (fun vs H Q E h=>?_) (fun cdv A outer s H vs Q E hr h=>?_)
 ·obtain⟨x,ob,d,rfl,_⟩:=h;rfl
 obtain⟨x,ob,d,rfl,hx,hd,q⟩:=h
 have hu:=hr.units0
 obtain⟨C,eC⟩:∃C,C=cls10 cs d:=⟨_,rfl⟩
 rw[<-eC]at hx
 obtain⟨b1,b2,b3,b4,Z,e1,e2,e3,e4,e0,e5,e6,hb⟩:∃ (b1 b2 b3 b4:Bool),ECls K C/\PySem.W.kitOne K (.ref C) (.ref cs.NoKinds)=some b1/\PySem.W.kitOne K (.ref C) (.ref cs.NoLine)=some b2/\PySem.W.kitOne K (.ref C) (.ref cs.NotRight)=some b3/\PySem.W.kitOne K (.ref C) (.ref cs.NoTree)=some b4/\
  PySem.W.kitOne K (.ref C) (.ref cs.RowError)=some true/\PySem.W.kitAny K (.ref C) ([cs.NoFilling,cs.NoName,cs.NoNumber,cs.NoPlace,cs.NoRow,cs.NoWeights,cs.TooMany].map Value.ref)=some false/\PySem.W.kitOne K (.ref C) (.type "ValueError")=some true/\[b1,b2,b3,b4]=[decide ((0:Int)=d),decide ((1:Int)=d),decide ((2:Int)=d),decide ((3:Int)=d)]:=by
  rcases hd with rfl|rfl|rfl|rfl
  ·have e:C=cs.NoKinds:=eC
   clear hx eC
   subst e
   exact⟨true,false,false,false,T.e_NoKinds,T.k_NoKinds_NoKinds,T.k_NoKinds_NoLine,T.k_NoKinds_NotRight,T.k_NoKinds_NoTree,T.k_NoKinds_RowError,(by simp only[List.map_cons,List.map_nil,PySem.W.kitAny,T.k_NoKinds_NoFilling,T.k_NoKinds_NoName,T.k_NoKinds_NoNumber,T.k_NoKinds_NoPlace,T.k_NoKinds_NoRow,T.k_NoKinds_NoWeights,T.k_NoKinds_TooMany]),T.v_NoKinds,by decide⟩
  ·have e:C=cs.NoLine:=eC
   clear hx eC
   subst e
   exact⟨false,true,false,false,T.e_NoLine,T.k_NoLine_NoKinds,T.k_NoLine_NoLine,T.k_NoLine_NotRight,T.k_NoLine_NoTree,T.k_NoLine_RowError,(by simp only[List.map_cons,List.map_nil,PySem.W.kitAny,T.k_NoLine_NoFilling,T.k_NoLine_NoName,T.k_NoLine_NoNumber,T.k_NoLine_NoPlace,T.k_NoLine_NoRow,T.k_NoLine_NoWeights,T.k_NoLine_TooMany]),T.v_NoLine,by decide⟩
  ·have e:C=cs.NotRight:=eC
   clear hx eC
   subst e
   exact⟨false,false,true,false,T.e_NotRight,T.k_NotRight_NoKinds,T.k_NotRight_NoLine,T.k_NotRight_NotRight,T.k_NotRight_NoTree,T.k_NotRight_RowError,(by simp only[List.map_cons,List.map_nil,PySem.W.kitAny,T.k_NotRight_NoFilling,T.k_NotRight_NoName,T.k_NotRight_NoNumber,T.k_NotRight_NoPlace,T.k_NotRight_NoRow,T.k_NotRight_NoWeights,T.k_NotRight_TooMany]),T.v_NotRight,by decide⟩
  ·have e:C=cs.NoTree:=eC
   clear hx eC
   subst e
   exact⟨false,false,false,true,T.e_NoTree,T.k_NoTree_NoKinds,T.k_NoTree_NoLine,T.k_NoTree_NotRight,T.k_NoTree_NoTree,T.k_NoTree_RowError,(by simp only[List.map_cons,List.map_nil,PySem.W.kitAny,T.k_NoTree_NoFilling,T.k_NoTree_NoName,T.k_NoTree_NoNumber,T.k_NoTree_NoPlace,T.k_NoTree_NoRow,T.k_NoTree_NoWeights,T.k_NoTree_TooMany]),T.v_NoTree,by decide⟩
 refine⟨_,(pss_cons (ps_set (i:=2) sc_law_is.nd rfl (Or.inl rfl) (pe_lst (pa_cons (pe_callB (call_isiE K) rfl T.n_isinstance PyProof.Rows.boot_isinstance (pa_cons (pv 0) (pa_cons (pe_cl T.c_NoKinds) pa_nil))) (pa_cons (pe_callB (call_isiE K) rfl T.n_isinstance PyProof.Rows.boot_isinstance (pa_cons (pv 0) (pa_cons (pe_cl T.c_NoLine) pa_nil))) (pa_cons (pe_callB (call_isiE K) rfl T.n_isinstance PyProof.Rows.boot_isinstance (pa_cons (pv 0) (pa_cons (pe_cl T.c_NotRight) pa_nil))) pa_nil))))) (pss_cons (ps_expr (pe_bmK K PySem.F.plainAttrs_list PySem.F.slot_list_append PySem.F.type_list_append mt_append (pv 2) (pa_cons (pe_callB (call_isiE K) rfl T.n_isinstance PyProof.Rows.boot_isinstance (pa_cons (pv 0) (pa_cons (pe_cl T.c_NoTree) pa_nil))) pa_nil))) (pss_cons (ps_if (PW.pt (pw_or (pt_not (pt_tru K (pe_callB (call_isiE K) rfl T.n_isinstance PyProof.Rows.boot_isinstance (pa_cons (pv 0) (pa_cons (pe_cl T.c_RowError) pa_nil))))) (pw_or1 (pt_not (pt_tru K (pe_callB (call_isiE K) rfl T.n_isinstance PyProof.Rows.boot_isinstance (pa_cons (pv 0) (pa_cons (pe_ty T.n_ValueError boot_ValueError) pa_nil)))))))) (pss_one (ps_ret pe_bl)) pss_nil) (pss_cons (ps_if (pt_tru K (pe_callB (call_isiE K) rfl T.n_isinstance PyProof.Rows.boot_isinstance (pa_cons (pv 0) (pa_cons (pe_tup (pa_cons (pe_cl T.c_NoFilling) (pa_cons (pe_cl T.c_NoName) (pa_cons (pe_cl T.c_NoNumber) (pa_cons (pe_cl T.c_NoPlace) (pa_cons (pe_cl T.c_NoRow) (pa_cons (pe_cl T.c_NoWeights) (pa_cons (pe_cl T.c_TooMany) pa_nil)))))))) pa_nil)))) (pss_one (ps_ret pe_bl)) pss_nil) (pss_one (ps_ret (pe_cmpR (op_eqA K hu) (pv 2) (pe_comp (own:=["at"]) (sel:=[1]) (compOk_of (osc:=(defScope d_law_is)) (N:=["caught","due","kinds"]) (by decide +kernel)) rfl (pi_range1 rfl T.n_range (pa_cons pe_int pa_nil)) (fun _ _ _ _ _=>(pg_name (i:=0) (show(["at","due"]:List Str).Nodup from by decide +kernel) rfl (Or.inl rfl))) (gk_name (by decide)) (fun _ _ _ _ _=>pif_nil) (fun _ _ _ _ _=>(pe_cmpR (op_eqA K hu) (pv 0) (pv 1) (nomark _)))) (nomark _)))))))),?_⟩
 walk_at "go"
 refine s_isiC hx Z e1 ?_
 walk_at "go"
 refine s_isiC hx Z e2 ?_
 walk_at "go"
 refine s_isiC hx Z e3 ?_
 walk_at "go"
 refine⟨small (show 3<=1000 by decide),fun l hl=>?_⟩
 have t1:=same_new hl (.lst [.bl b1, .bl b2, .bl b3])
 walk_at "go"
 refine⟨SqL.ty (SqL.of upd_same),?_⟩
 walk_at "go"
 refine s_isiC (t1 _ _ hx) Z e4 ?_
 walk_at "go"
 refine⟨l,_,_,rfl,rfl,upd_same,small1000 (show 3<=1000 by decide),?_⟩
 rw[upd_upd]
 have t2:Same H (upd H l (.lst ([.bl b1, .bl b2, .bl b3]++[.bl b4]))):=same_new hl _
 have hl2:(upd H l (.lst ([.bl b1, .bl b2, .bl b3]++[.bl b4]))) l=some (.lst ([b1,b2,b3,b4].map V.bl)):=upd_same
 generalize upd H l _=G at t2 hl2⊢
 clear t1
 have hx2:=t2 _ _ hx
 walk_at "go"
 refine s_isiC hx2 Z e0 ?_
 walk_at "go"
 refine ifq rfl ?_
 walk_at "go"
 refine s_isiT hx2 Z e6 ?_
 walk_at "go"
 refine ifq rfl ?_
 walk_at "go"
 refine⟨small (show 7<=1000 by decide),fun tp htp=>?_⟩
 have t3:=same_new htp (.tup [.ref cs.NoFilling, .ref cs.NoName, .ref cs.NoNumber, .ref cs.NoPlace, .ref cs.NoRow, .ref cs.NoWeights, .ref cs.TooMany])
 walk_at "go"
 refine s_isiU (cs:=[cs.NoFilling,cs.NoName,cs.NoNumber,cs.NoPlace,cs.NoRow,cs.NoWeights,cs.TooMany]) (t3 _ _ hx2) Z upd_same e5 ?_
 walk_at "go"
 refine ifq rfl ?_
 have hl3:=t3 _ _ hl2
 have t23:=t2.trans t3
 generalize upd G tp _=G3 at*
 walk_at "go"
 refine⟨4,rfl,by decide,by decide,?_⟩
 refine comp_rng (n:=4) (small (by decide)) (fun D j ys H'=>ys=(([decide ((0:Int)=d),decide ((1:Int)=d),decide ((2:Int)=d),decide ((3:Int)=d)].take j).map V.bl)/\Same G3 H') (fun D hD=>⟨rfl,same_new hD _⟩) (fun D ys H4 hD hy ⟨ey,s4⟩=>?_) ?_
 ·subst ey
  walk_at "go"
  refine s_eqL (SqL.of (s4 _ _ hl3)) (SqL.of hy) (flat_bls _) (flat_bls _) ?_
  have ee:eqVs ([b1,b2,b3,b4].map V.bl) (([decide ((0:Int)=d),decide ((1:Int)=d),decide ((2:Int)=d),decide ((3:Int)=d)].take 4).map V.bl)=true:=by
   rw[hb]
   exact eqVs_refl (flat_bls _)
  rw[ee]
  exact q _ (t23.trans s4)
 ·rintro D j ys H4 hD hj hy hl' ⟨ey,s4⟩
  walk_at "go"
  refine iteT ?_
  walk_at "go"
  refine comp_next hj (small (by decide)) hy hl' ⟨?_,fun b o z=>by rw[upd_ne (ne_of_none z hD)];exact s4 _ _ z⟩
  subst ey
  have:j=0\/j=1\/j=2\/j=3:=by omega
  rcases this with rfl|rfl|rfl|rfl<;>rfl
theorem sc_law_caught:FnScope ["way","k","thing","caught","e"] ["way","k","thing"] (defScope d_law_caught):=⟨rfl,rfl,rfl,by decide +kernel,rfl,by decide +kernel,by decide +kernel⟩
theorem ok_law_caught(F:Fun K "_law_caught" "_law_caught" d_law_caught f fd)(T:Txt K mg aK cs)(U_depth:FnUE P w K mg base k "depth" ["k","row"] (spRtE K cs rDep))(U_parts:FnUE P w K mg base k "parts" ["k","row"] (spRtE K cs rPar))(U_tree_of:FnUE P w K mg base k "tree_of" ["k","row"] (spRtE K cs rTre))(U_turned:FnUE P w K mg base k "turned" ["k","row"] (spGateE K cs spTurned))(U_row_of_tree:FnUE P w K mg base k "row_of_tree" ["k","tree"] (spRowOfE K cs))(U_is_tree:FnUE P w K mg base k "is_tree" ["k","thing"] (spTreeE K cs)):FnOk P w K mg base CX0 (k+1) f fd ["way","k","thing"] (spCaught10 K cs):=by
 refine F.ok sc_law_caught (fun vs H Q E h=>?_) (fun cdv A outer s H vs Q E hr h=>?_)
 ·obtain⟨p,w,kv,v,d,rfl,_⟩:=h;rfl
 obtain⟨p,wy,kv,v,d,rfl,w0,w5,hpo,hD,qn,qx⟩:=h
 have hu:=hr.units0
 have tail:∀ (G:Hp),Same H G->d=none->(tRet (tVar 3)) {nx:=fun _ H'=>Q .non H',rt:=Q} [some (.int wy),some kv,some v,some .non,none] G:=fun G sg e=>by
  walk_at "go"
  exact qn e G sg
 have tailx:∀ (i:Int) (ob:Obj) (x:Addr) (G:Hp),Same H G->H x=none->d=some i->
  (tAsg (tVar 4) (gName 3)) (endsOff 4 {nx:=tRet (tVar 3) {nx:=fun _ H'=>Q .non H',rt:=Q},rt:=Q})
    [some (.int wy),some kv,some v,some .non,some (.ref x)] (upd G x (excO ob x (cls10 cs i))):=by
  intro i ob x G sg hx e
  walk_at "go"
  refine(show∀ (_:tRet (tVar 3) {nx:=fun _ H'=>Q .non H',rt:=Q} [some (.int wy),some kv,some v,some (.ref x),none] (upd G x (excO ob x (cls10 cs i)))),_ from fun z=>z) ?_
  walk_at "go"
  exact qx i e x ob _ (same_exc sg hx) hx upd_same
 refine⟨_,(pss_cons (ps_set (i:=3) sc_law_caught.nd rfl (Or.inl rfl) pe_non) (pss_cons (ps_try (i:=4) T.e_RowError T.c_RowError ⟨rfl,rfl,rfl⟩ sc_law_caught.nd rfl rfl (fun pn xe R hx=>(pss_one (ps_if (pt_cmpR (op_eqA K hu) (pv 0) pe_int (nomark _)) (pss_one (ps_expr (pe_fnE U_depth hr hx (pa_cons (pv 1) (pa_cons (pv 2) pa_nil))))) (pss_one (ps_if (pt_cmpR (op_eqA K hu) (pv 0) pe_int (nomark _)) (pss_one (ps_expr (pe_fnE U_parts hr hx (pa_cons (pv 1) (pa_cons (pv 2) pa_nil))))) (pss_one (ps_if (pt_cmpR (op_eqA K hu) (pv 0) pe_int (nomark _)) (pss_one (ps_expr (pe_fnE U_tree_of hr hx (pa_cons (pv 1) (pa_cons (pv 2) pa_nil))))) (pss_one (ps_if (pt_cmpR (op_eqA K hu) (pv 0) pe_int (nomark _)) (pss_one (ps_expr (pe_fnE U_turned hr hx (pa_cons (pv 1) (pa_cons (pv 2) pa_nil))))) (pss_one (ps_if (pt_cmpR (op_eqA K hu) (pv 0) pe_int (nomark _)) (pss_one (ps_expr (pe_fnE U_row_of_tree hr hx (pa_cons (pv 1) (pa_cons (pv 2) pa_nil))))) (pss_one (ps_expr (pe_fnE U_is_tree hr hx (pa_cons (pv 1) (pa_cons (pv 2) pa_nil)))))))))))))))) (fun ev=>(pss_one (ps_set (i:=3) sc_law_caught.nd rfl (Or.inl rfl) (pv 4))))) (pss_one (ps_ret (pv 3))))),?_⟩
 walk_at "go"
 refine ifd (fun c0=>?_) (fun c0=>?_)
 ·subst c0
  walk_at "go"
  cases hD with
  |kinds hk=>exact⟨kv,v,rfl, .inl (.inl ⟨hk,ref_of fun y H' s' n=>⟨T.m_NoKinds,fun ob=>tailx 0 ob y H' s' n rfl⟩⟩)⟩
  |noRow e k1 k4 hw hn=>subst e;exact⟨_,v,rfl, .inl (.inr ⟨_,rfl,k1,k4,hn,ref_of fun y H' s' n=>⟨T.m_NoLine,fun ob=>tailx 1 ob y H' s' n rfl⟩⟩)⟩
  |row e k1 k4 hw ev ha hR=>subst e ev;exact⟨_,_,rfl, .inr ⟨_,_,rfl,rfl,k1,k4,ha, .inl ⟨hR.resolve_right (by omega),fun H' s'=>tail H' s' rfl⟩⟩⟩
  |notRt e k1 k4 hw ev ha hR=>subst e ev;exact⟨_,_,rfl, .inr ⟨_,_,rfl,rfl,k1,k4,ha, .inr ⟨hR,ref_of fun y H' s' n=>⟨T.m_NotRight,fun ob=>tailx 2 ob y H' s' n rfl⟩⟩⟩⟩
  |tree _ _ _ hw=>omega
  |noTree _ _ _ hw=>omega
  |any _ _ _ hw=>omega
 walk_at "go"
 refine ifd (fun c1=>?_) (fun c1=>?_)
 ·subst c1
  walk_at "go"
  cases hD with
  |kinds hk=>exact⟨kv,v,rfl, .inl (.inl ⟨hk,ref_of fun y H' s' n=>⟨T.m_NoKinds,fun ob=>tailx 0 ob y H' s' n rfl⟩⟩)⟩
  |noRow e k1 k4 hw hn=>subst e;exact⟨_,v,rfl, .inl (.inr ⟨_,rfl,k1,k4,hn,ref_of fun y H' s' n=>⟨T.m_NoLine,fun ob=>tailx 1 ob y H' s' n rfl⟩⟩)⟩
  |row e k1 k4 hw ev ha hR=>subst e ev;exact⟨_,_,rfl, .inr ⟨_,_,rfl,rfl,k1,k4,ha, .inl ⟨hR.resolve_right (by omega),fun r H' _ s' _=>tail H' s' rfl⟩⟩⟩
  |notRt e k1 k4 hw ev ha hR=>subst e ev;exact⟨_,_,rfl, .inr ⟨_,_,rfl,rfl,k1,k4,ha, .inr ⟨hR,ref_of fun y H' s' n=>⟨T.m_NotRight,fun ob=>tailx 2 ob y H' s' n rfl⟩⟩⟩⟩
  |tree _ _ _ hw=>omega
  |noTree _ _ _ hw=>omega
  |any _ _ _ hw=>omega
 walk_at "go"
 refine ifd (fun c2=>?_) (fun c2=>?_)
 ·subst c2
  walk_at "go"
  cases hD with
  |kinds hk=>exact⟨kv,v,rfl, .inl (.inl ⟨hk,ref_of fun y H' s' n=>⟨T.m_NoKinds,fun ob=>tailx 0 ob y H' s' n rfl⟩⟩)⟩
  |noRow e k1 k4 hw hn=>subst e;exact⟨_,v,rfl, .inl (.inr ⟨_,rfl,k1,k4,hn,ref_of fun y H' s' n=>⟨T.m_NoLine,fun ob=>tailx 1 ob y H' s' n rfl⟩⟩)⟩
  |row e k1 k4 hw ev ha hR=>
   subst e ev
   have hR:=hR.resolve_right (by omega)
   obtain⟨t,et,gt,zt⟩:=row_tree k1 k4 ha hR
   exact⟨_,_,rfl, .inr ⟨_,_,rfl,rfl,k1,k4,ha, .inl ⟨hR,t,et,gt,zt,fun D H' _ s' _=>tail H' s' rfl⟩⟩⟩
  |notRt e k1 k4 hw ev ha hR=>subst e ev;exact⟨_,_,rfl, .inr ⟨_,_,rfl,rfl,k1,k4,ha, .inr ⟨hR,ref_of fun y H' s' n=>⟨T.m_NotRight,fun ob=>tailx 2 ob y H' s' n rfl⟩⟩⟩⟩
  |tree _ _ _ hw=>omega
  |noTree _ _ _ hw=>omega
  |any _ _ _ hw=>omega
 walk_at "go"
 refine ifd (fun c3=>?_) (fun c3=>?_)
 ·subst c3
  walk_at "go"
  cases hD with
  |kinds hk=>exact .inr ⟨kv,v,rfl, .inl ⟨hk,ref_of fun y H' s' n=>⟨T.m_NoKinds,fun ob=>tailx 0 ob y H' s' n rfl⟩⟩⟩
  |noRow e k1 k4 hw hn=>subst e;exact .inr ⟨_,v,rfl, .inr ⟨_,rfl,k1,k4,hn,ref_of fun y H' s' n=>⟨T.m_NoLine,fun ob=>tailx 1 ob y H' s' n rfl⟩⟩⟩
  |row e k1 k4 hw ev ha hR=>subst e ev;exact .inl (turned_use k1 k4 ha fun H' s'=>tail H' s' rfl)
  |notRt e k1 k4 hw ev ha hR=>omega
  |tree _ _ _ hw=>omega
  |noTree _ _ _ hw=>omega
  |any _ _ _ hw=>omega
 walk_at "go"
 refine ifd (fun c4=>?_) (fun c4=>?_)
 ·subst c4
  walk_at "go"
  cases hD with
  |kinds hk=>exact⟨kv,v,rfl, .inl ⟨hk,ref_of fun y H' s' n=>⟨T.m_NoKinds,fun ob=>tailx 0 ob y H' s' n rfl⟩⟩⟩
  |noRow e k1 k4 hw hn=>omega
  |row e k1 k4 hw ev ha hR=>omega
  |notRt e k1 k4 hw ev ha hR=>omega
  |tree e k1 k4 hw hd hg hs=>subst e;exact⟨_,v,rfl, .inr ⟨_,p,_,rfl,k1,k4,hpo,hd, .inl ⟨_,rfl,hg,hs,fun H' s'=>tail H' s' rfl⟩⟩⟩
  |noTree e k1 k4 hw hd hn=>subst e;exact⟨_,v,rfl, .inr ⟨_,p,_,rfl,k1,k4,hpo,hd, .inr ⟨hn,ref_of fun y H' s' n=>⟨T.m_NoTree,fun ob=>tailx 3 ob y H' s' n rfl⟩⟩⟩⟩
  |any _ _ _ hw=>omega
 have c5:wy=5:=by omega
 subst c5
 walk_at "go"
 cases hD with
 |kinds hk=>exact .inr ⟨kv,v,rfl,hk,ref_of fun y H' s' n=>⟨T.m_NoKinds,fun ob=>tailx 0 ob y H' s' n rfl⟩⟩
 |noRow e k1 k4 hw hn=>omega
 |row e k1 k4 hw ev ha hR=>omega
 |notRt e k1 k4 hw ev ha hR=>omega
 |tree _ _ _ hw=>omega
 |noTree _ _ _ hw=>omega
 |any e k1 k4 hw hd=>subst e;exact .inl ⟨_,v,p,_,rfl,k1,k4,hd,fun b H' s' _=>tail H' s' rfl⟩
theorem sc_law_right:FnScope ["way","k","thing","due","kept","caught"] ["way","k","thing","due"] (defScope d_law_right):=⟨rfl,rfl,rfl,by decide +kernel,rfl,by decide +kernel,by decide +kernel⟩
theorem ok_law_right(F:Fun K "_law_right" "_law_right" d_law_right f fd)(T:Txt K mg aK cs)(U_law_caught:FnU P w K mg base k "_law_caught" ["way","k","thing"] (spCaught10 K cs))(U_law_is:FnU P w K mg base k "_law_is" ["caught","due"] (spIs10 cs)):FnOk P w K mg base CX0 (k+1) f fd ["way","k","thing","due"] (spRight10 K):=by
 refine F.ok sc_law_right (fun vs H Q E h=>?_) (fun cdv A outer s H vs Q E hr h=>?_)
 ·obtain⟨p,w,kv,v,d,rfl,_⟩:=h;rfl
 obtain⟨p,wy,kv,v,d,rfl,w0,w5,hD,tk,tv,⟨op,hop⟩,q⟩:=h
 have hu:=hr.units0
 obtain⟨dk,sk,fk⟩:=tk
 obtain⟨dv,sv,fv⟩:=tv
 have two:∀ {G:Hp} {l:Addr},Same H G->l≠p->G l=some (.lst [kv,v])->Sd p G (.ref l) (.list [dk,dv]):=fun{G l} sg nl hg=> .lst hg nl (.cons (sk.same sg) (.cons (sv.same sg) .nil))
 have f2:=fit_two (fk.mono (Nat.le_refl _) (show 3<=50 by decide)) fv
 have nep:∀ {l:Addr} {G:Hp},Same H G->G l=none->l≠p:=fun{l G} sg hn e=>by
  subst e
  rw[sg _ _ hop]at hn;cases hn
 refine⟨_,(pss_cons (ps_set (i:=4) sc_law_right.nd rfl (Or.inl rfl) (pe_callB (call_reprX hr) rfl T.n_repr PyProof.Rows.boot_repr (pa_cons (pe_lst (pa_cons (pv 1) (pa_cons (pv 2) pa_nil))) pa_nil))) (pss_cons (ps_set (i:=5) sc_law_right.nd rfl (Or.inl rfl) (pe_fn U_law_caught hr (pa_cons (pv 0) (pa_cons (pv 1) (pa_cons (pv 2) pa_nil))))) (pss_cons (ps_if (PW.pt (pw_or (pt_cmpR (op_neA K hu) (pe_callB (call_reprX hr) rfl T.n_repr PyProof.Rows.boot_repr (pa_cons (pe_lst (pa_cons (pv 1) (pa_cons (pv 2) pa_nil))) pa_nil)) (pv 4) (nomark _)) (pw_or1 (pt_cmpR (op_neA K hu) (pe_cmpR op_isA (pv 5) pe_non (nomark _)) (pe_cmpR op_isA (pv 3) pe_non (nomark _)) (nomark _))))) (pss_one (ps_ret pe_bl)) pss_nil) (pss_one (ps_ret (pe_or (pe_cmpR op_isA (pv 5) pe_non (nomark _)) (pe_one (pe_fn U_law_is hr (pa_cons (pv 5) (pa_cons (pv 3) pa_nil)))))))))),?_⟩
 walk_at "go"
 refine⟨small (show 2<=1000 by decide),fun l1 hl1=>?_⟩
 have t1:=same_new hl1 (.lst [kv,v])
 have g1:=upd_same (H:=H) (a:=l1) (o:= .lst [kv,v])
 have n1:=nep (Same.refl H) hl1
 generalize upd H l1 _=G1 at*
 walk_at "go"
 refine s_reprX (two t1 n1 g1) f2 (by decide) (by decide) ?_
 obtain⟨KT,eKT⟩:∃KT,KT=(PyData.list [dk,dv]).shown:=⟨_,rfl⟩
 rw[<-eKT]
 walk_at "go"
 refine⟨p,wy,kv,v,d,rfl,w0,w5,⟨op,t1 _ _ hop⟩,hD.same t1,fun en H2 sH2=>?_,fun j ej x ob H2 sH2 hx hx2=>?_⟩
 ·subst en
  have s3:=t1.trans sH2
  walk_at "go"
  refine⟨small (show 2<=1000 by decide),fun l2 hl2=>?_⟩
  have t2:=same_new hl2 (.lst [kv,v])
  have g2:=upd_same (H:=H2) (a:=l2) (o:= .lst [kv,v])
  have n2:=nep s3 hl2
  have s4:=s3.trans t2
  generalize upd H2 l2 _=G2 at*
  walk_at "go"
  refine s_reprX (two s4 n2 g2) f2 (by decide) (by decide) ?_
  rw[<-eKT]
  walk_at "go"
  refine s_neS rfl ?_
  walk_at "go"
  refine ifq (by simp) ?_
  show _
  walk_at "go"
  refine ifq rfl ?_
  walk_at "go"
  first|refine ifp rfl ?_ |skip
  walk_at "go"
  exact q G2 s4
 ·subst ej
  have s3:=t1.trans sH2
  walk_at "go"
  refine⟨small (show 2<=1000 by decide),fun l2 hl2=>?_⟩
  have t2:=same_new hl2 (.lst [kv,v])
  have g2:=upd_same (H:=H2) (a:=l2) (o:= .lst [kv,v])
  have n2:=nep s3 hl2
  have s4:=s3.trans t2
  have hx3:=t2 _ _ hx2
  generalize upd H2 l2 _=G2 at*
  walk_at "go"
  refine s_reprX (two s4 n2 g2) f2 (by decide) (by decide) ?_
  rw[<-eKT]
  walk_at "go"
  refine s_neS rfl ?_
  walk_at "go"
  refine ifq (by simp) ?_
  walk_at "go"
  refine ifq rfl ?_
  walk_at "go"
  first|refine ifq rfl ?_ |skip
  walk_at "go"
  refine⟨x,ob,j,rfl,hx3,hD.rng,fun H5 s5=>?_⟩
  exact q H5 (s4.trans s5)
theorem sc_law_row_right:FnScope ["k","thing","due"] ["k","thing"] (defScope d_law_row_right):=⟨rfl,rfl,rfl,by decide +kernel,rfl,by decide +kernel,by decide +kernel⟩
theorem ok_law_row_right(F:Fun K "_law_row_right" "_law_row_right" d_law_row_right f fd)(T:Txt K mg aK cs)(U_law_is_row:FnU P w K mg base k "_law_is_row" ["k","thing"] (spIsRow10 K))(U_law_right:FnU P w K mg base k "_law_right" ["way","k","thing","due"] (spRight10 K))(U_law_is_right:FnU P w K mg base k "_law_is_right" ["row"] (spCand)):FnOk P w K mg base CX0 (k+1) f fd ["k","thing"] (spRowRight K):=by
 refine F.ok sc_law_row_right (fun vs H Q E h=>?_) (fun cdv A outer s H vs Q E hr h=>?_)
 ·obtain⟨p,k,v,rfl,_⟩:=h;rfl
 obtain⟨p,kk,v,rfl,k1,k4,tg,⟨o,ho⟩,q⟩:=h
 have hu:=hr.units0
 have tkk:∀ {G:Hp},Dt p 4000 3 G (.int kk):=dt_int (Nat.lt_of_le_of_lt (show _<=10 by omega) (by decide)) (by decide) (by decide)
 have tail:∀ (d:Option Int) (e:Bool) (G:Hp),Same H G->(∀w:Int,0<=w->w<=2->Due10 K G p w (.int kk) v d)->Due10 K G p 3 (.int kk) v (if e then some 1 else none)->(rEqA K (dV d) (.int 1)=fun H' Q'=>Q' (.bl e) H')->True:=fun _ _ _ _ _ _ _=>trivial
 clear tail
 refine⟨_,(pss_cons (ps_set (i:=2) sc_law_row_right.nd rfl (Or.inr rfl) pe_int) (pss_cons (ps_if (pt_tru K (pe_fn U_law_is_row hr (pa_cons (pv 0) (pa_cons (pv 1) pa_nil)))) (pss_one (ps_set (i:=2) sc_law_row_right.nd rfl (Or.inr rfl) (pe_ix (ix_A K) (pe_lst (pa_cons pe_int (pa_cons pe_non pa_nil))) (pe_callTy call_intA rfl T.n_int PyProof.Rows.boot_int (pa_cons (pe_fn U_law_is_right hr (pa_cons (pv 1) pa_nil)) pa_nil)) (fun _ _=>rfl)))) pss_nil) (pss_cons (ps_if (pt_cmpR (op_neA K hu) (pe_comp (own:=["way"]) (sel:=[0,1,2]) (compOk_of (osc:=(defScope d_law_row_right)) (N:=["k","thing","due"]) (by decide +kernel)) rfl (pi_range1 rfl T.n_range (pa_cons pe_int pa_nil)) (fun _ _ _ _ _=>(pg_name (i:=0) (show(["way","k","thing","due"]:List Str).Nodup from by decide +kernel) rfl (Or.inl rfl))) (gk_name (by decide)) (fun _ _ _ _ _=>pif_one (pt_not (pt_tru K (pe_fn U_law_right hr (pa_cons (pv 0) (pa_cons (pv 1) (pa_cons (pv 2) (pa_cons (pv 3) pa_nil)))))))) (fun _ _ _ _ _=>(pv 0))) (pe_lst pa_nil) (nomark _)) (pss_one (ps_ret pe_bl)) pss_nil) (pss_one (ps_ret (pe_fn U_law_right hr (pa_cons pe_int (pa_cons (pv 0) (pa_cons (pv 1) (pa_cons (pe_ix (ix_A K) (pe_lst (pa_cons pe_non (pa_cons pe_int pa_nil))) (pe_callTy call_intA rfl T.n_int PyProof.Rows.boot_int (pa_cons (pe_cmpR (op_eqA K hu) (pv 2) pe_int (nomark _)) pa_nil)) (fun _ _=>rfl)) pa_nil)))))))))),?_⟩
 walk_at "go"
 refine⟨kk,v,rfl,k1,k4,tg.2,fun H1 s1=>?_⟩
 walk_at "go"
 cases hrow:rowV kk v with
 |true=>
  refine ifp rfl ?_
  obtain⟨a,rfl,ha⟩:=tg.2.row hrow
  walk_at "go"
  refine⟨small (show 2<=1000 by decide),fun l2 hl2=>?_⟩
  have t2:=same_new hl2 (.lst [.int 2, .non])
  have g2:=upd_same (H:=H1) (a:=l2) (o:= .lst [.int 2, .non])
  have s2:=s1.trans t2
  generalize upd H1 l2 _=G2 at*
  walk_at "go"
  refine cand_use (isRow_len ha) ?_
  walk_at "go"
  obtain⟨d,hd⟩:∃d:Option Int,d=if Rt a then none else some 2:=⟨_,rfl⟩
  refine s_ixL (SqL.of g2) (show atI [V.int 2,V.non] (if decide (Rt a)=true then 1 else 0)=some (dV d) by
   by_cases hR:Rt a
   ·rw[decide_eq_true hR,hd,if_pos hR];rfl
   ·rw[decide_eq_false hR,hd,if_neg hR];rfl) ?_
  have hD:∀w:Int,0<=w->w<=2->Due10 K G2 p w (.int kk) (tx a) d:=fun w _ w2=>by
   by_cases hR:Rt a
   ·rw[hd,if_pos hR];exact .row rfl k1 k4 (by omega) rfl ha (.inl hR)
   ·rw[hd,if_neg hR];exact .notRt rfl k1 k4 w2 rfl ha hR
  have hd1:dV d≠ .int 1:=by
   rw[hd];split<;>simp[dV]
  have hsc:scal (dV d) (.int 1)=true:=by rw[hd];split<;>rfl
  walk_at "go"
  refine⟨3,rfl,by decide,by decide,?_⟩
  refine comp_rng (n:=3) (small (by decide)) (fun D i ys H'=>ys=[]/\Same G2 H') (fun D hD=>⟨rfl,same_new hD _⟩) (fun D ys H3 hD3 hy ⟨ey,s3⟩=>?_) ?_
  ·subst ey
   walk_at "go"
   refine⟨small (show 0<=1000 by decide),fun l4 hl4=>?_⟩
   have t4:=same_new hl4 (.lst [])
   refine s_neL (SqL.of (t4 _ _ hy)) (SqL.of upd_same) rfl rfl ?_
   have s4:=s3.trans t4
   generalize upd H3 l4 _=G4 at*
   walk_at "go"
   refine ifq rfl ?_
   walk_at "go"
   refine⟨small (show 2<=1000 by decide),fun l5 hl5=>?_⟩
   have t5:=same_new hl5 (.lst [.non, .int 1])
   have g5:=upd_same (H:=G4) (a:=l5) (o:= .lst [.non, .int 1])
   have s5:=(s2.trans s4).trans t5
   generalize upd G4 l5 _=G5 at*
   walk_at "go"
   refine s_eqS hsc ?_
   rw[decide_eq_false hd1]
   walk_at "go"
   refine s_ixL (SqL.of g5) (show atI [V.non,V.int 1] (if false=true then 1 else 0)=some (dV none)from rfl) ?_
   walk_at "go"
   refine⟨p,3, .int kk,tx a,none,rfl,by omega,by omega, .row rfl k1 k4 (by omega) rfl ha (.inr rfl),tkk,(tg.same s5).1,⟨o,s5 _ _ ho⟩,fun H6 s6=>?_⟩
   exact q H6 (s5.trans s6)
  ·rintro D i ys H3 hD3 hi hy hl ⟨ey,s3⟩
   have s23:=s2.trans s3
   walk_at "go"
   refine⟨p,_, .int kk,tx a,d,rfl,by omega,by omega,(hD _ (by omega) (by omega)).same s3,tkk,(tg.same s23).1,⟨o,s23 _ _ ho⟩,fun H6 s6=>?_⟩
   walk_at "go"
   first|refine iteF ?_ |skip
   exact comp_skip hi (s6 _ _ hy) hl ⟨ey,s3.trans s6⟩
 |false=>
  refine ifq rfl ?_
  walk_at "go"
  refine⟨3,rfl,by decide,by decide,?_⟩
  have hN:=(tg.same s1).2.noL hrow
  refine comp_rng (n:=3) (small (by decide)) (fun D i ys H'=>ys=[]/\Same H1 H') (fun D hD=>⟨rfl,same_new hD _⟩) (fun D ys H3 hD3 hy ⟨ey,s3⟩=>?_) ?_
  ·subst ey
   walk_at "go"
   refine⟨small (show 0<=1000 by decide),fun l4 hl4=>?_⟩
   have t4:=same_new hl4 (.lst [])
   refine s_neL (SqL.of (t4 _ _ hy)) (SqL.of upd_same) rfl rfl ?_
   have s4:=s3.trans t4
   generalize upd H3 l4 _=G4 at*
   walk_at "go"
   refine ifq rfl ?_
   walk_at "go"
   refine⟨small (show 2<=1000 by decide),fun l5 hl5=>?_⟩
   have t5:=same_new hl5 (.lst [.non, .int 1])
   have g5:=upd_same (H:=G4) (a:=l5) (o:= .lst [.non, .int 1])
   have s15:=s4.trans t5
   have s5:=s1.trans s15
   generalize upd G4 l5 _=G5 at*
   walk_at "go"
   first|refine s_eqS rfl ?_ |skip
   walk_at "go"
   refine s_ixL (SqL.of g5) (show atI [V.non,V.int 1] _=some (dV (some 1))from rfl) ?_
   walk_at "go"
   refine⟨p,3, .int kk,v,some 1,rfl,by omega,by omega, .noRow rfl k1 k4 (by omega) (hN.same s15),tkk,(tg.same s5).1,⟨o,s5 _ _ ho⟩,fun H6 s6=>?_⟩
   exact q H6 (s5.trans s6)
  ·rintro D i ys H3 hD3 hi hy hl ⟨ey,s3⟩
   have s23:=s1.trans s3
   walk_at "go"
   refine⟨p,_, .int kk,v,some 1,rfl,by omega,by omega, .noRow rfl k1 k4 (by omega) (hN.same s3),tkk,(tg.same s23).1,⟨o,s23 _ _ ho⟩,fun H6 s6=>?_⟩
   walk_at "go"
   first|refine iteF ?_ |skip
   exact comp_skip hi (s6 _ _ hy) hl ⟨ey,s3.trans s6⟩
theorem sc_law_wide_rows:FnScope ["pool","good","some"] ["pool","good"] (defScope d_law_wide_rows):=⟨rfl,rfl,rfl,by decide +kernel,rfl,by decide +kernel,by decide +kernel⟩
theorem ok_law_wide_rows(F:Fun K "_law_wide_rows" "_law_wide_rows" d_law_wide_rows f fd)(T:Txt K mg aK cs)(U_law_right_row:FnU P w K mg base k "_law_right_row" ["pool","k","most"] (spRightRow)):FnOk P w K mg base CX0 (k+1) f fd ["pool","good"] (spWide04):=by
 refine F.ok sc_law_wide_rows (fun vs H Q E h=>?_) (fun cdv A outer s H vs Q E hr h=>?_)
 ·obtain⟨p,n,g,rfl,_⟩:=h;rfl
 obtain⟨p,n,g,rfl,hp,hn,hg,hlo,q⟩:=h
 have hu:=hr.units0
 refine⟨_,(pss_cons (ps_set (i:=2) sc_law_wide_rows.nd rfl (Or.inl rfl) (pe_lst (pa_cons (pe_fn U_law_right_row hr (pa_cons (pv 0) (pa_cons pe_int (pa_cons pe_int pa_nil)))) (pa_cons (pe_fn U_law_right_row hr (pa_cons (pv 0) (pa_cons pe_int (pa_cons pe_int pa_nil)))) (pa_cons (pe_op op_plus (pv 1) (pe_op op_times (pe_tx (l:=[40,41]) (by decide +kernel)) pe_int)) (pa_cons (pe_op op_plus (pe_op op_plus (pe_op op_times (pe_tx (l:=[40]) (by decide +kernel)) pe_int) (pv 1)) (pe_op op_times (pe_tx (l:=[41]) (by decide +kernel)) pe_int)) pa_nil)))))) (pss_one (ps_ret (pe_op op_plus (pv 2) (pe_lst (pa_cons (pe_op op_plus (pe_op op_plus (pe_op op_plus (pe_op op_plus (pv 1) (pe_tx (l:=[40]) (by decide +kernel))) (pv 1)) (pe_tx (l:=[41]) (by decide +kernel))) (pe_op op_times (pe_tx (l:=[40,41]) (by decide +kernel)) pe_int)) pa_nil)))))),?_⟩
 walk_at "go"
 refine right_use hp (by omega) (by decide) (by decide) (by decide) (by decide) (fun r1 H1 _ hl1 hk1 p1 s1=>?_)
 walk_at "go"
 refine right_use p1 (by omega) (by decide) (by decide) (by decide) (by decide) (fun r2 H2 _ hl2 hk2 p2 s2=>?_)
 have f1:Fine r1:=⟨fun c hc=>sgn_low (isRow_mem (isRow_of (kk:=4) (k:=4) (by decide) (by omega) hk1) c hc),by omega⟩
 have f2:Fine r2:=⟨fun c hc=>sgn_low (isRow_mem (isRow_of (kk:=4) (k:=4) (by decide) (by omega) hk2) c hc),by omega⟩
 walk_at "go"
 refine s_mulT (by decide) (by decide) (by decide) ?_
 have c21:(List.replicate (21:Int).toNat [40,41]).flatten.length=42:=by rw[rep_len];rfl
 have w21:Low (List.replicate (21:Int).toNat [40,41]).flatten:=low_rep (by unfold Low;decide)
 generalize(List.replicate (21:Int).toNat [40,41]).flatten=a1 at c21 w21⊢
 walk_at "go"
 first|refine s_addT (small (by omega)) ?_ |skip
 walk_at "go"
 refine s_mulT (by decide) (by decide) (by decide) ?_
 have c22:(List.replicate (21:Int).toNat [40]).flatten.length=21:=by rw[rep_len];rfl
 have w22:Low (List.replicate (21:Int).toNat [40]).flatten:=low_rep (by unfold Low;decide)
 generalize(List.replicate (21:Int).toNat [40]).flatten=a2 at c22 w22⊢
 walk_at "go"
 first|refine s_addT (small (by omega)) ?_ |skip
 walk_at "go"
 refine s_mulT (by decide) (by decide) (by decide) ?_
 have c23:(List.replicate (21:Int).toNat [41]).flatten.length=21:=by rw[rep_len];rfl
 have w23:Low (List.replicate (21:Int).toNat [41]).flatten:=low_rep (by unfold Low;decide)
 generalize(List.replicate (21:Int).toNat [41]).flatten=a3 at c23 w23⊢
 walk_at "go"
 first|refine s_addT (small (by rw[List.length_append];omega)) ?_ |skip
 walk_at "go"
 have f3:Fine (g++a1):=⟨low_app hlo w21,by rw[List.length_append];omega⟩
 have f4:Fine (a2++g++a3):=⟨low_app (low_app w22 hlo) w23,by simp only[List.length_append];omega⟩
 generalize g++a1=b3 at f3⊢
 generalize a2++g++a3=b4 at f4⊢
 refine⟨small (show 4<=1000 by decide),fun l1 hl1'=>?_⟩
 have t3:=same_new hl1' (.lst [tx r1,tx r2,tx b3,tx b4])
 have g3:=upd_same (H:=H2) (a:=l1) (o:= .lst [tx r1,tx r2,tx b3,tx b4])
 have p3:=p2.same t3
 have u3:SameBut1 p H (upd H2 l1 (.lst [tx r1,tx r2,tx b3,tx b4])):=(s1.trans s2).trans (SameBut1.of t3)
 generalize upd H2 l1 _=G3 at*
 have lg1:g.length+[40].length<=1000:=by rw[List.length_singleton];omega
 walk_at "go"
 first|refine s_addT (small lg1) ?_ |skip
 walk_at "go"
 first|refine s_addT (small (by rw[List.length_append,List.length_singleton];omega)) ?_ |skip
 walk_at "go"
 first|refine s_addT (small (by simp only[List.length_append,List.length_singleton];omega)) ?_ |skip
 walk_at "go"
 refine s_mulT (by decide) (by decide) (by decide) ?_
 have c24:(List.replicate (20:Int).toNat [40,41]).flatten.length=40:=by rw[rep_len];rfl
 have w24:Low (List.replicate (20:Int).toNat [40,41]).flatten:=low_rep (by unfold Low;decide)
 generalize(List.replicate (20:Int).toNat [40,41]).flatten=a4 at c24 w24⊢
 walk_at "go"
 first|refine s_addT (small (by simp only[List.length_append,List.length_singleton];omega)) ?_ |skip
 walk_at "go"
 have f5:Fine (g++[40]++g++[41]++a4):=⟨low_app (low_app (low_app (low_app hlo (low_one (by decide))) hlo) (low_one (by decide))) w24,by simp only[List.length_append,List.length_singleton];omega⟩
 generalize g++[40]++g++[41]++a4=b5 at f5⊢
 refine⟨small (show 1<=1000 by decide),fun l2 hl2'=>?_⟩
 have t4:=same_new hl2' (.lst [tx b5])
 have g4:=upd_same (H:=G3) (a:=l2) (o:= .lst [tx b5])
 have g3':=t4 _ _ g3
 have p4:=p3.same t4
 have u4:=u3.trans (SameBut1.of t4)
 generalize upd G3 l2 _=G4 at*
 refine s_addL g3' g4 (small (by simp)) (fun l3 hl3=>?_)
 have n3:=p4.ne hl3
 have hH:H l3=none:=by
  cases e:H l3 with
  |none=>rfl
  |some o=>rw[u4 _ _ e n3]at hl3;cases hl3
 refine q l3 [r1,r2,b3,b4,b5] _ hH n3 upd_same rfl (fun a ha=>?_) ((p4.same (same_new hl3 _)).mono (by omega)) (u4.trans (SameBut1.of (same_new hl3 _)))
 simp only[List.mem_cons,List.not_mem_nil,or_false]at ha
 rcases ha with rfl|rfl|rfl|rfl|rfl
 ·exact f1
 ·exact f2
 ·exact f3
 ·exact f4
 ·exact f5
theorem sc_law_told:FnScope ["k","row","tree"] ["k","row","tree"] (defScope d_law_told):=⟨rfl,rfl,rfl,by decide +kernel,rfl,by decide +kernel,by decide +kernel⟩
theorem ok_law_told(F:Fun K "_law_told" "_law_told" d_law_told f fd)(T:Txt K mg aK cs)(U_depth:FnUE P w K mg base k "depth" ["k","row"] (spRtE K cs rDep))(U_parts:FnUE P w K mg base k "parts" ["k","row"] (spRtE K cs rPar))(U_tree_of:FnUE P w K mg base k "tree_of" ["k","row"] (spRtE K cs rTre))(U_turned:FnUE P w K mg base k "turned" ["k","row"] (spGateE K cs spTurned))(U_row_of_tree:FnUE P w K mg base k "row_of_tree" ["k","tree"] (spRowOfE K cs))(U_is_tree:FnUE P w K mg base k "is_tree" ["k","thing"] (spTreeE K cs)):FnOk P w K mg base (CXE P w) (k+1) f fd ["k","row","tree"] (spTold10):=by
 refine F.okE sc_law_told (fun vs H Q E h=>?_) (fun cdv A outer s H vs Q E hr h=>?_)
 ·obtain⟨p,k,a,ta,v,t,rfl,_⟩:=h;rfl
 obtain⟨p,kk,a,ta,v,t,rfl,k1,k4,hro,hR,ea,gta,zta,⟨o,ho⟩,ht,gt,zt,q⟩:=h
 have hu:=hr.units0
 refine nox_ex ⟨_,(pss_one (ps_ret (pe_lst (pa_cons (pe_fnE U_depth hr xf_no (pa_cons (pv 0) (pa_cons (pv 1) pa_nil))) (pa_cons (pe_fnE U_parts hr xf_no (pa_cons (pv 0) (pa_cons (pv 1) pa_nil))) (pa_cons (pe_fnE U_tree_of hr xf_no (pa_cons (pv 0) (pa_cons (pv 1) pa_nil))) (pa_cons (pe_fnE U_turned hr xf_no (pa_cons (pv 0) (pa_cons (pv 1) pa_nil))) (pa_cons (pe_fnE U_row_of_tree hr xf_no (pa_cons (pv 0) (pa_cons (pv 2) pa_nil))) (pa_cons (pe_fnE U_is_tree hr xf_no (pa_cons (pv 0) (pa_cons (pv 2) pa_nil))) pa_nil))))))))),?_⟩
 walk_at "go"
 refine⟨_,_,rfl, .inr ⟨kk,a,rfl,rfl,k1,k4,hro, .inl ⟨hR,fun H1 s1=>?_⟩⟩⟩
 walk_at "go"
 refine⟨_,_,rfl, .inr ⟨kk,a,rfl,rfl,k1,k4,hro, .inl ⟨hR,fun r2 H2 hr2 s2 g2=>?_⟩⟩⟩
 walk_at "go"
 refine⟨_,_,rfl, .inr ⟨kk,a,rfl,rfl,k1,k4,hro, .inl ⟨hR,ta,ea,gta,zta,fun D3 H3 hD3 s3 T3=>?_⟩⟩⟩
 have s03:=(s1.trans s2).trans s3
 walk_at "go"
 refine .inl (turned_use k1 k4 hro (fun H4 s4=>?_))
 have s04:=s03.trans s4
 walk_at "go"
 refine⟨_,_,rfl, .inr ⟨kk,p,_,rfl,k1,k4,⟨o,s04 _ _ ho⟩,ht.same s04, .inl ⟨t,rfl,by omega,zt,fun H5 s5=>?_⟩⟩⟩
 have s05:=s04.trans s5
 walk_at "go"
 refine .inl ⟨kk,v,p,_,rfl,k1,k4,ht.same s05,fun b H6 s6 hb=>?_⟩
 obtain rfl:b=true:=hb.mpr ⟨t,rfl,by omega,zt⟩
 have s06:=s05.trans s6
 walk_at "go"
 refine⟨small (show 6<=1000 by decide),fun L hL=>?_⟩
 have s7:=same_new hL (.lst [.int (deep a), .ref r2, .ref D3,tx (trn a),tx (brt t.bs), .bl true])
 have nL:L≠p:=fun z=>by rw[z,s06 _ _ ho]at hL;cases hL
 have n2:r2≠p:=fun z=>by rw[z,s1 _ _ ho]at hr2;cases hr2
 have s36:=(s4.trans s5).trans s6
 refine q L _ (s06.free hL) (s06.trans s7) ?_
 refine .lst upd_same nL (.cons (.sc (.int _)) (.cons (.lst (s7 _ _ (s36 _ _ (s3 _ _ g2))) n2 (sds_txs _)) (.cons ?_ (.cons (.sc (.str _)) (.cons (.sc (.str _)) (.cons (.sc (.bl true)) .nil))))))
 exact((T3 p ⟨o,(s1.trans s2) _ _ ho⟩).same s36).same s7
theorem sc_law:FnScope ["script","turn","pool","k","good","tree","many","ahead","some","thing","due","row"] ["script"] (defScope d_law):=⟨rfl,rfl,rfl,by decide +kernel,rfl,by decide +kernel,by decide +kernel⟩
theorem ok_law(F:Fun K "law" "law" d_law f fd)(T:Txt K mg aK cs)(U_law_pool:FnU P w K mg base k "_law_pool" ["script","k"] (spPool K))(U_law_right_row:FnU P w K mg base k "_law_right_row" ["pool","k","most"] (spRightRow))(U_law_tree:FnU P w K mg base k "_law_tree" ["pool","k","most"] (spMkB))(U_law_count:FnU P w K mg base k "_law_count" ["k","thing"] (recSp gCountD 26))(U_law_told:FnUE P w K mg base k "_law_told" ["k","row","tree"] (spTold10))(U_law_take:FnU P w K mg base k "_law_take" ["pool","many"] (spTake))(U_law_wide_rows:FnU P w K mg base k "_law_wide_rows" ["pool","good"] (spWide04))(U_law_row_right:FnU P w K mg base k "_law_row_right" ["k","thing"] (spRowRight K))(U_law_any_row:FnU P w K mg base k "_law_any_row" ["pool","k","most"] (spAnyRow))(U_law_no_tree:FnU P w K mg base k "_law_no_tree" ["pool","tree","many"] (spNoTrT))(U_law_bent:FnU P w K mg base k "_law_bent" ["pool","row","signs"] (spBent))(U_law_no_row:FnU P w K mg base k "_law_no_row" ["pool","k","row"] (spNoRow))(U_law_right:FnU P w K mg base k "_law_right" ["way","k","thing","due"] (spRight10 K))(U_law_signs:FnU P w K mg base k "_law_signs" ["k"] (spSigns))(U_law_no_kinds:FnU P w K mg base k "_law_no_kinds" ["pool"] (spNoKinds04 K)):FnOk P w K mg base CX0 (k+1) f fd ["script"] (spLaw K):=by
 refine F.ok sc_law (fun vs H Q E h=>?_) (fun cdv A outer s H vs Q E hr h=>?_)
 ·obtain⟨a,ns,rfl,_⟩:=h;rfl
 obtain⟨sa,ns,rfl,hS,h63,q⟩:=h
 have hu:=hr.units0
 apply ex_consE
 ·exact rfl
 ·exact(ps_for PassesOwn.never rfl (pi_range1 rfl T.n_range (pa_cons (pe_callB (call_maxA rfl) rfl T.n_max PyProof.Rows.boot_max (pa_cons pe_int (pa_cons (pe_callB (call_minA rfl) rfl T.n_min PyProof.Rows.boot_min (pa_cons pe_int (pa_cons (pe_callB (call_lenA K) rfl T.n_len PySem.boot_len (pa_cons (pv 0) pa_nil)) pa_nil))) pa_nil))) pa_nil)) (pg_name (i:=1) sc_law.nd rfl (Or.inl rfl)) (pss_cons (ps_set (i:=2) sc_law.nd rfl (Or.inr rfl) (pe_fn U_law_pool hr (pa_cons (pv 0) (pa_cons (pv 1) pa_nil)))) (pss_cons (ps_set (i:=3) sc_law.nd rfl (Or.inr rfl) (pe_op op_plus pe_int (pe_fn U_law_take hr (pa_cons (pv 2) (pa_cons pe_int pa_nil))))) (pss_cons (ps_set (i:=4) sc_law.nd rfl (Or.inr rfl) (pe_fn U_law_right_row hr (pa_cons (pv 2) (pa_cons (pv 3) (pa_cons pe_int pa_nil))))) (pss_cons (ps_set (i:=5) sc_law.nd rfl (Or.inr rfl) (pe_fn U_law_tree hr (pa_cons (pv 2) (pa_cons (pv 3) (pa_cons pe_int pa_nil))))) (pss_cons (ps_set (i:=6) sc_law.nd rfl (Or.inr rfl) (pe_fn U_law_count hr (pa_cons (pv 3) (pa_cons (pv 5) pa_nil)))) (pss_cons (ps_set (i:=7) sc_law.nd rfl (Or.inl rfl) (pe_fnE U_law_told hr xf_no (pa_cons (pv 3) (pa_cons (pv 4) (pa_cons (pv 5) pa_nil))))) (pss_cons (ps_set (i:=8) sc_law.nd rfl (Or.inl rfl) (pe_op op_plus (pe_lst (pa_cons (pv 4) (pa_cons (pe_fn U_law_any_row hr (pa_cons (pv 2) (pa_cons (pv 3) (pa_cons pe_int pa_nil)))) (pa_cons (pe_slice (sl_A K) (pe_fn U_law_bent hr (pa_cons (pv 2) (pa_cons (pv 4) (pa_cons (pe_fn U_law_signs hr (pa_cons (pv 3) pa_nil)) pa_nil)))) po_none (po_some pe_int)) pa_nil)))) (pe_fn U_law_wide_rows hr (pa_cons (pv 2) (pa_cons (pv 4) pa_nil))))) (pss_cons (ps_for PassesOwn.never rfl (pi_listK K (pe_op op_plus (pe_op op_plus (pv 8) (pe_comp (own:=["at"]) (sel:=[2,3,4]) (compOk_of (osc:=(defScope d_law)) (N:=["script","turn","pool","k","good","tree","many","ahead","some","thing","due","row"]) (by decide +kernel)) rfl (pi_range1 rfl T.n_range (pa_cons pe_int pa_nil)) (fun _ _ _ _ _=>(pg_name (i:=0) (show(["at","pool","k","good"]:List Str).Nodup from by decide +kernel) rfl (Or.inl rfl))) (gk_name (by decide)) (fun _ _ _ _ _=>pif_nil) (fun _ _ _ _ _=>(pe_fn U_law_no_row hr (pa_cons (pv 1) (pa_cons (pv 2) (pa_cons (pv 3) pa_nil))))))) (pe_lst (pa_cons pe_non (pa_cons (pv 5) pa_nil))))) (pg_name (i:=9) sc_law.nd rfl (Or.inr rfl)) (pss_cons (ps_if (pt_not (pt_tru K (pe_fn U_law_row_right hr (pa_cons (pv 3) (pa_cons (pv 9) pa_nil))))) (pss_one (ps_ret pe_bl)) pss_nil) (pss_one (ps_if (pt_cmpR (op_neA K hu) (pe_comp (own:=["way"]) (sel:=[9,2]) (compOk_of (osc:=(defScope d_law)) (N:=["script","turn","pool","k","good","tree","many","ahead","some","thing","due","row"]) (by decide +kernel)) rfl (pi_range1 rfl T.n_range (pa_cons pe_int pa_nil)) (fun _ _ _ _ _=>(pg_name (i:=0) (show(["way","thing","pool"]:List Str).Nodup from by decide +kernel) rfl (Or.inl rfl))) (gk_name (by decide)) (fun _ _ _ _ _=>pif_one (pt_not (pt_tru K (pe_fn U_law_right hr (pa_cons (pv 0) (pa_cons (pe_fn U_law_no_kinds hr (pa_cons (pv 2) pa_nil)) (pa_cons (pv 1) (pa_cons pe_int pa_nil)))))))) (fun _ _ _ _ _=>(pv 0))) (pe_lst pa_nil) (nomark _)) (pss_one (ps_ret pe_bl)) pss_nil)))) (pss_cons (ps_for PassesOwn.never rfl (pi_listK K (pe_op op_plus (pe_lst (pa_cons (pv 5) (pa_cons (pv 4) pa_nil))) (pe_comp (own:=["at"]) (sel:=[2,5,6]) (compOk_of (osc:=(defScope d_law)) (N:=["script","turn","pool","k","good","tree","many","ahead","some","thing","due","row"]) (by decide +kernel)) rfl (pi_range1 rfl T.n_range (pa_cons pe_int pa_nil)) (fun _ _ _ _ _=>(pg_name (i:=0) (show(["at","pool","tree","many"]:List Str).Nodup from by decide +kernel) rfl (Or.inl rfl))) (gk_name (by decide)) (fun _ _ _ _ _=>pif_nil) (fun _ _ _ _ _=>(pe_fn U_law_no_tree hr (pa_cons (pv 1) (pa_cons (pv 2) (pa_cons (pv 3) pa_nil)))))))) (pg_name (i:=9) sc_law.nd rfl (Or.inr rfl)) (pss_cons (ps_set (i:=10) sc_law.nd rfl (Or.inl rfl) (pe_ix (ix_A K) (pe_lst (pa_cons pe_int (pa_cons pe_non pa_nil))) (pe_callTy call_intA rfl T.n_int PyProof.Rows.boot_int (pa_cons (pe_cmpR op_lt (pe_fn U_law_count hr (pa_cons (pv 3) (pa_cons (pv 9) pa_nil))) pe_int (nomark _)) pa_nil)) (fun _ _=>rfl))) (pss_cons (ps_if (PW.pt (pw_or (pt_not (pt_tru K (pe_fn U_law_right hr (pa_cons pe_int (pa_cons (pv 3) (pa_cons (pv 9) (pa_cons (pv 10) pa_nil))))))) (pw_or1 (pt_not (pt_tru K (pe_fn U_law_right hr (pa_cons pe_int (pa_cons (pv 3) (pa_cons (pv 9) (pa_cons pe_non pa_nil)))))))))) (pss_one (ps_ret pe_bl)) pss_nil) (pss_one (ps_if (PW.pt (pw_or (pt_not (pt_tru K (pe_fn U_law_right hr (pa_cons pe_int (pa_cons (pe_fn U_law_no_kinds hr (pa_cons (pv 2) pa_nil)) (pa_cons (pv 9) (pa_cons pe_int pa_nil))))))) (pw_or1 (pt_not (pt_tru K (pe_fn U_law_right hr (pa_cons pe_int (pa_cons (pe_fn U_law_no_kinds hr (pa_cons (pv 2) pa_nil)) (pa_cons (pv 9) (pa_cons pe_int pa_nil)))))))))) (pss_one (ps_ret pe_bl)) pss_nil))))) (pss_one (ps_if (pt_cmpR (op_neDat hr) (pe_fnE U_law_told hr xf_no (pa_cons (pv 3) (pa_cons (pv 4) (pa_cons (pv 5) pa_nil)))) (pv 7) (nomark _)) (pss_one (ps_ret pe_bl)) pss_nil))))))))))))
 apply ex_consB
 ·exact rfl
 ·exact(ps_forB K rfl rfl PassesOwn.never rfl (Pl.tup (pe_tup (pa_cons pe_int (pa_cons (pe_tx (l:=[91,93]) (by decide +kernel)) pa_nil))) (Pl.tup (pe_tup (pa_cons pe_int (pa_cons (pe_tx (l:=[60,62]) (by decide +kernel)) pa_nil))) (Pl.tup (pe_tup (pa_cons pe_int (pa_cons (pe_tx (l:=[40,41,123,125]) (by decide +kernel)) pa_nil))) (Pl.tup (pe_tup (pa_cons pe_int (pa_cons (pe_op op_times (pe_tx (l:=[40,41]) (by decide +kernel)) pe_int) pa_nil))) Pl.nil)))) (pg_tupK (n:=2) K rfl (pgs_cons (pg_name (i:=3) sc_law.nd rfl (Or.inr rfl)) (pgs_cons (pg_name (i:=11) sc_law.nd rfl (Or.inl rfl)) pgs_nil))) (pss_one (ps_if (pt_not (pt_tru K (pe_fn U_law_row_right hr (pa_cons (pv 3) (pa_cons (pv 11) pa_nil))))) (pss_one (ps_ret pe_bl)) pss_nil)) (fun _=>rfl))
 apply ex_oneE
 ·exact rfl
 ·exact(ps_ret pe_bl)
 walk_at "go"
 refine s_lenL (.inl hS) ?_
 walk_at "go"
 refine⟨_,rfl,by split<;>(try split)<;>omega,by rw[List.length_map];split<;>(try split)<;>omega,?_⟩
 refine for_rng (fun i σ H'=>∃ (o1 o2 o3 o4 o5 o6 o7 o8 o9 o10 o11:Option V),σ=[some (.ref sa),o1,o2,o3,o4,o5,o6,o7,o8,o9,o10,o11]/\Same H H') ⟨_,_,_,_,_,_,_,_,_,_,_,rfl,Same.refl H⟩ ?_ ?_
 ·rintro i σ H1 hi ⟨o1,o2,o3,o4,o5,o6,o7,o8,o9,o10,o11,rfl,s1⟩
  have hi10:i<6:=by
   rw[List.length_map]at hi
   revert hi;split<;>(try split)<;>omega
  have ei:(0:Int)+(i:Int)=(i:Int):=by omega
  rw[ei]
  walk_at "go"
  refine⟨sa,ns,_,rfl,s1.seq hS,h63,by omega,by omega,fun p H2 hp2 s2 hpo=>?_⟩
  have hHp:H p=none:=s1.free hp2
  have s12:=s1.trans s2
  have hop:∀ {G:Hp} {n:Nat},PoolAt G p n->∃o,G p=some o:=fun{G n} h=>let⟨_,_,_,e,_⟩:=h;⟨_,e⟩
  walk_at "go"
  refine take_use hpo (by omega) (by omega) (by omega) (fun k0 H3 k00 k01 hpo3 s3=>?_)
  have u3:Same H H3:=Same.but s12 s3 hHp
  walk_at "go"
  obtain⟨kk,ekk⟩:∃kk:Int,kk=1+k0:=⟨_,rfl⟩
  have k1:1<=kk:=by omega
  have k4:kk<=4:=by omega
  rw[<-ekk]
  clear ekk
  refine right_use hpo3 (by omega) (by omega) (by omega) (by omega) (by omega) (fun good H5 hR hgl hgk hpo5 s5=>?_)
  have u5:Same H H5:=Same.but u3 s5 hHp
  have hgo:isRow kk good=true:=isRow_of (kk:=kk) (by omega) (by omega) hgk
  have hglo:Low good:=fun c hc=>sgn_low (isRow_mem hgo c hc)
  obtain⟨ta,eta,gta,zta⟩:=row_tree k1 k4 hgo hR
  walk_at "go"
  refine⟨p,_,_,rfl,hpo5,by omega,k1,k4,fun va t H6 z1 g1 hD1 hpo6 s6 T1=>?_⟩
  have u6:Same H H6:=Same.but u5 s6 hHp
  have hh:=ht_sz t
  have hg:t.gr<4:=by omega
  have t6:TrH p H6 (.ref va) t:=T1 p (hop hpo5)
  have hfit:=fl_lst (fl_tr hg)
  walk_at "go"
  refine⟨_, .ref va,p,_,rfl,k1,k4,t6,Nat.le_trans hfit.2.2 (show 2*Tr.ht t+1<=51 by omega),fun c H7 s7 hc=>?_⟩
  obtain rfl:=hc.of (t:=t) (by omega) z1
  have u7:=u6.trans s7
  have hpo7:=hpo6.same s7
  have t7:=t6.same s7
  clear T1 t6 hpo6 hpo5 hpo3 hpo s12 s2 s3 s5 s6 s7 u3 u5 u6
  walk_at "go"
  as_aux_lemma=>
   refine⟨p,kk,good,ta, .ref va,t,rfl,k1,k4,hgo,hR,eta,gta,zta,hop hpo7,t7,by omega,z1,fun al H8 hal s8 dA=>?_⟩
   have u8:=u7.trans s8
   have hpo8:=hpo7.same s8
   have t8:=t7.same s8
   walk_at "go"
   as_aux_lemma=>
    refine any_use hpo8 (by omega) (by omega) (by omega) (by omega) (by omega) (fun row H9 hrl hrs hpo9 s9=>?_)
    have u9:Same H H9:=Same.but u8 s9 hHp
    have t9:=t8.keep s9
    have dA9:=dA.keep s9
    have hlo:Low row:=fun c hc=>sgn_low (hrs c hc)
    walk_at "go"
    refine signs_use k1 k4 ?_
    have hsl:=sgs_len k1 k4
    walk_at "go"
    refine bent_use hpo9 (by omega) (by omega) (by omega) (by omega) (fun bt H10 hbm hbl hpo10 s10=>?_)
    have u10:Same H H10:=Same.but u9 s10 hHp
    have t10:=t9.keep s10
    have dA10:=dA9.keep s10
    walk_at "go"
    first|refine s_slT (small (by omega)) ?_ |skip
    walk_at "go"
    have fb:Fine (cutL bt none (some 40)):=⟨fun c hc=>(hbm c (cut_mem hc)).elim (hglo c) fun z=>sgn_low (sgs_sgn k1 k4 z),Nat.le_trans (cut_le _ _ _) (by omega)⟩
    generalize cutL bt none (some 40)=bt' at fb⊢
    have frow:Fine row:=⟨hlo,by omega⟩
    have fgood:Fine good:=⟨hglo,by omega⟩
    refine⟨small (show 3<=1000 by decide),fun m1 hm1=>?_⟩
    have t11:=same_new hm1 (.lst [tx good,tx row,tx bt'])
    have g11:=upd_same (H:=H10) (a:=m1) (o:= .lst [tx good,tx row,tx bt'])
    have m1p:=hpo10.ne hm1
    have hpo11:=hpo10.same t11
    have u11:=u10.trans t11
    have tt11:=TrH.same t10 t11
    have dA11:=dA10.same t11
    generalize upd H10 m1 _=G11 at*
    walk_at "go"
    as_aux_lemma=>
     refine wide04_use hpo11 (by omega) (by omega) hglo (fun wl ws H12 hwl wlp gwl wsn wsf hpo12 s12=>?_)
     have u12:Same H H12:=Same.but u11 s12 hHp
     have t12:=tt11.keep s12
     have dA12:=dA11.keep s12
     have g12:=s12 _ _ g11 m1p
     refine s_addL g12 gwl (by rw[List.length_map,wsn,sizeLine_eq];simp) (fun m2 hm2=>?_)
     have t13:=same_new hm2 (.lst ([tx good,tx row,tx bt']++ws.map tx))
     have g13:=upd_same (H:=H12) (a:=m2) (o:= .lst ([tx good,tx row,tx bt']++ws.map tx))
     have m2p:=hpo12.ne hm2
     have A13:∀v∈[tx good,tx row,tx bt']++ws.map tx,Th p (upd H12 m2 (.lst ([tx good,tx row,tx bt']++ws.map tx))) v:=all_app (all_cons (.txt _ fgood) (all_cons (.txt _ frow) (all_cons (.txt _ fb) all_nil))) (fun v hv=>by
      obtain⟨a,ha,rfl⟩:=List.mem_map.mp hv
      exact .txt _ (wsf a ha))
     have n13:([tx good,tx row,tx bt']++ws.map tx).length=8:=by rw[List.length_append,List.length_map,wsn];rfl
     have hpo13:=hpo12.same t13
     have u13:=u12.trans t13
     have tt13:=TrH.same t12 t13
     have dA13:=dA12.same t13
     generalize upd H12 m2 _=G13 at*
     generalize [tx good,tx row,tx bt']++ws.map tx=L8 at*
     clear t7 t8 t9 t10 tt11 t12 dA dA9 dA10 dA11 dA12 hpo7 hpo8 hpo9 hpo10 hpo11 hpo12 u7 u8 u9 u10 u11 u12 g11 g12
     walk_at "go"
     as_aux_lemma=>
      refine⟨6,rfl,by decide,by decide,?_⟩
      refine comp_rng (n:=6) (small (by decide)) (fun D j ys H'=>(∀v∈ys,Th p H' v/\v≠ .ref D)/\ys.length=j/\D≠p/\PoolAt H' p (10000+4*j)/\SameBut1 p G13 H') (fun D hD=>⟨(fun _ z=>nomatch z),rfl,hpo13.ne hD,(hpo13.same (same_new hD _)).mono (by omega),SameBut1.of (same_new hD _)⟩) (fun D ys H14 hD hy ⟨hA,hyl,hDp,hpo14,s14⟩=>?_) ?_
      rotate_left
      ·rintro D j ys H14 hD hj hy hl ⟨hA,hyl,hDp,hpo14,s14⟩
       walk_at "go"
       refine iteT ?_
       walk_at "go"
       refine noRow_use hpo14 (by omega) (by omega) hglo (fun v H15 tv nv hpo15 s15=>?_)
       have hD15:=s15 _ _ hy hDp
       have nD:v≠ .ref D:=fun e=>by have:=nv D e;rw[hy]at this;cases this
       refine comp_next hj (small (by decide)) hD15 hl ⟨?_,by simp[hyl],hDp,?_,?_⟩
       ·intro x hx
        rcases List.mem_append.mp hx with z|z
        ·exact⟨((hA x z).1.keep s15).upd (hA x z).2,(hA x z).2⟩
        ·rw[List.mem_singleton.mp z];exact⟨tv.upd nD,nD⟩
       ·obtain⟨x,y,z,e4,h1,h2⟩:=hpo15
        exact⟨x,y,z,by rw[upd_ne (Ne.symm hDp)];exact e4,h1,by omega⟩
       ·exact fun b o z zn=>by
         rw[upd_ne (ne_of_none z hD)]
         exact s15 b o (s14 b o z zn) zn
      have u14:Same H H14:=Same.but u13 s14 hHp
      have t14:=tt13.keep s14
      have dA14:=dA13.keep s14
      have g14:=s14 _ _ g13 m2p
      refine s_addL g14 hy (by rw[n13,hyl,sizeLine_eq];omega) (fun m3 hm3=>?_)
      have t15:=same_new hm3 (.lst (L8++ys))
      have g15:=upd_same (H:=H14) (a:=m3) (o:= .lst (L8++ys))
      have A15:∀v∈L8++ys,Tg K p (upd H14 m3 (.lst (L8++ys))) v:=fun v hv=>th_tg ((allD_app (all_keep A13 s14) (fun v hv=>(hA v hv).1) v hv).same t15)
      have n15:(L8++ys).length=14:=by rw[List.length_append,n13,hyl]
      have hpo15:=hpo14.same t15
      have u15:=u14.trans t15
      have tt15:=TrH.same t14 t15
      have dA15:=dA14.same t15
      generalize upd H14 m3 _=G15 at*
      generalize L8++ys=L14 at*
      walk_at "go"
      refine⟨small (show 2<=1000 by decide),fun m4 hm4=>?_⟩
      have t16:=same_new hm4 (.lst [.non, .ref va])
      have g16:=upd_same (H:=G15) (a:=m4) (o:= .lst [.non, .ref va])
      replace g15:=t16 _ _ g15
      replace A15:=fun v hv=>(A15 v hv).same t16
      replace hpo15:=hpo15.same t16
      replace u15:=u15.trans t16
      replace tt15:=TrH.same tt15 t16
      replace dA15:=dA15.same t16
      generalize upd G15 m4 _=G16 at*
      walk_at "go"
      refine s_addL g15 g16 (by rw[n15,sizeLine_eq];simp) (fun m5 hm5=>?_)
      have t17:=same_new hm5 (.lst (L14++[.non, .ref va]))
      have g17:=upd_same (H:=G16) (a:=m5) (o:= .lst (L14++[.non, .ref va]))
      have m5p:=hpo15.ne hm5
      have trT:∀ {G:Hp},TrH p G (.ref va) t->Tg K p G (.ref va):=fun h=>⟨⟨_,h,hfit.mono (by omega) (by omega)⟩,kind_sd h (fun x e=>nomatch e)⟩
      have A17:∀v∈L14++[.non, .ref va],Tg K p (upd G16 m5 (.lst (L14++[.non, .ref va]))) v:=fun v hv=>(allD_app A15 (allD_cons ⟨dt_non (by decide) (by decide), .inr ⟨_, .non,by decide,by decide⟩⟩ (allD_cons (trT tt15) allD_nil)) v hv).same t17
      have n17:(L14++[V.non, .ref va]).length=16:=by rw[List.length_append,n15];rfl
      have hpo17:=hpo15.same t17
      have u17:=u15.trans t17
      have tt17:=TrH.same tt15 t17
      have dA17:=dA15.same t17
      generalize upd G16 m5 _=G17 at*
      generalize L14++[V.non, .ref va]=L16 at*
      clear A13 A15 g13 g14 g15 g16 tt13 t14 tt15 dA13 dA14 dA15 hpo13 hpo14 hpo15 u13 u14 u15 hA hy
      walk_at "go"
      as_aux_lemma=>
       refine⟨m5,rfl,⟨_,SqL.of g17⟩,?_⟩
       refine for_lst (xs:=L16) (fun j σ H'=>∃ (o9':Option V),σ=[some (.ref sa),some (.int i),some (.ref p),some (.int kk),some (tx good),some (.ref va),some (.int (t.sz:Int)),some (.ref al),some (.ref m2),o9',o10,o11]/\PoolAt H' p (20000+36*j)/\SameBut1 p G17 H') ⟨_,rfl,hpo17.mono (by omega),SameBut1.refl _ _⟩ (fun j σ H' _ ⟨_,_,_,z⟩=>SqL.of (z _ _ g17 m5p)) ?_ ?_
       ·rintro j x σ H18 hj ⟨o9',rfl,hpo18,s18⟩
        have hj16:j<16:=by have:=(List.getElem?_eq_some_iff.mp hj).1;omega
        have tg18:Tg K p H18 x:=(A17 x (List.mem_of_getElem? hj)).keep s18
        walk_at "go"
        refine⟨p,kk,x,rfl,k1,k4,tg18,hop hpo18,fun H19 s19=>?_⟩
        have tg19:=tg18.same s19
        have hpo19:=hpo18.same s19
        walk_at "go"
        refine ifq rfl ?_
        walk_at "go"
        refine⟨6,rfl,by decide,by decide,?_⟩
        refine comp_rng (n:=6) (small (by decide)) (fun D w ys H'=>ys=[]/\D≠p/\PoolAt H' p (20000+36*j+6*w)/\SameBut1 p H19 H') (fun D hD=>⟨rfl,hpo19.ne hD,hpo19.same (same_new hD _),SameBut1.of (same_new hD _)⟩) (fun D ys H20 hD hy ⟨ey,hDp,hpo20,s20⟩=>?_) ?_
        ·subst ey
         walk_at "go"
         refine⟨small (show 0<=1000 by decide),fun l4 hl4=>?_⟩
         have t21:=same_new hl4 (.lst [])
         refine s_neL (SqL.of (t21 _ _ hy)) (SqL.of upd_same) rfl rfl ?_
         have hpo21:=hpo20.same t21
         generalize upd H20 l4 _=G21 at*
         walk_at "go"
         refine ifq rfl ?_
         walk_at "go"
         exact⟨_,rfl,hpo21.mono (by omega),s18.trans ((SameBut1.of s19).trans (s20.trans (SameBut1.of t21)))⟩
        ·rintro D w ys H20 hD hw hy hl ⟨ey,hDp,hpo20,s20⟩
         walk_at "go"
         refine noKinds04_use hpo20 (by omega) (fun no H21 nk tk hpo21 s21=>?_)
         have tg21:=(tg19.keep s20).keep s21
         walk_at "go"
         refine⟨p,_,no,x,some 0,rfl,by omega,by omega, .kinds nk,tk,tg21.1,hop hpo21,fun H22 s22=>?_⟩
         walk_at "go"
         first|refine iteF ?_ |skip
         exact comp_skip hw (s22 _ _ (s21 _ _ hy hDp)) hl ⟨ey,hDp,(hpo21.same s22).mono (by omega),s20.trans (s21.trans (SameBut1.of s22))⟩
       rintro σ H18 ⟨o9',rfl,hpo18,s18⟩
       have u18:Same H H18:=Same.but u17 s18 hHp
       have t18:=tt17.keep s18
       have dA18:=dA17.keep s18
       clear A17 g17 tt17 dA17 hpo17 u17
       obtain⟨S,hS1⟩:∃S:Addr->Prop,S=fun x=>x=p:=⟨_,rfl⟩
       have hSp:S p:=by rw[hS1]
       walk_at "go"
       as_aux_lemma=>
        refine⟨small (show 2<=1000 by decide),fun b1 hb1=>?_⟩
        have t19:=same_new hb1 (.lst [.ref va,tx good])
        have g19:=upd_same (H:=H18) (a:=b1) (o:= .lst [.ref va,tx good])
        have b1p:=hpo18.ne hb1
        have hpo19:=hpo18.same t19
        have u19:=u18.trans t19
        have tt19:=TrH.same t18 t19
        have dA19:=dA18.same t19
        generalize upd H18 b1 _=G19 at*
        have Tw:TrS S G19 (.ref va) t:=by rw[hS1];exact sv_of tt19
        walk_at "go"
        refine⟨10,rfl,by decide,by decide,?_⟩
        refine comp_rng (n:=10) (small (by decide)) (fun D j ys H'=>(∀v∈ys,Dv (fun x=>S x\/x=D) 5000000 50 H' v/\∀a,v=tx a->a.length<=1000)/\ys.length=j/\D≠p/\PoolAt H' p (50000+50*j)/\SameBut1 p G19 H') (fun D hD=>⟨(fun _ z=>nomatch z),rfl,hpo19.ne hD,(hpo19.same (same_new hD _)).mono (by omega),SameBut1.of (same_new hD _)⟩) (fun D ys H20 hD hy ⟨hA,hyl,hDp,hpo20,s20⟩=>?_) ?_
        rotate_left
        ·rintro D j ys H20 hD hj hy hyl ⟨hA,hyl',hDp,hp6,s6⟩
         have kpD:Kp S G19 H20:=kp_but s6 hSp
         have Tw6:TrS (fun x=>S x\/x=D) H20 (.ref va) t:=(Tw.grow (S':=fun x=>S x\/x=D) rfl hD).keep fun x o n e=>kpD x o (fun z=>n (.inl z)) e
         have ex6:Ex (fun x=>S x\/x=D) H20:=fun x hx=>by
          rcases hx with z|z
          ·rw[hS1]at z;rw[show x=p from z];exact hop hp6
          ·rw[z];exact⟨_,hy⟩
         walk_at "go"
         refine iteT ?_
         walk_at "go"
         refine⟨fun x=>S x\/x=D,p,_, .ref va,t,_,rfl, .inl hSp,ex6,hp6,by omega,Tw6,hg,z1,by omega,by omega,fun w H7 hp7 s7 dw hw=>?_⟩
         have bD:SameBut1 D H7 (upd H7 D (.lst (ys++[w]))):=fun b o hb nb=>by rw[upd_ne nb];exact hb
         refine comp_next hj (small (by decide)) (s7 _ _ hy hDp) hyl ⟨?_,by simp[hyl'],hDp,?_,?_⟩
         ·intro v hv
          rcases List.mem_append.mp hv with z|z
          ·exact⟨((hA v z).1.keep (kp_but s7 (.inl hSp))).keep (kp_but bD (.inr rfl)),(hA v z).2⟩
          ·rw[List.mem_singleton.mp z];exact⟨dw.keep (kp_but bD (.inr rfl)),hw⟩
         ·obtain⟨q1,q2,q3,e,h1,h2⟩:=hp7
          exact⟨q1,q2,q3,by rw[upd_ne hDp.symm];exact e,h1,by omega⟩
         ·intro x o e n
          rw[upd_ne (fun z=>by rw[z,hD]at e;cases e)]
          exact s7 _ _ (s6 _ _ e n) n
        have u20:Same H H20:=Same.but u19 s20 hHp
        have t20:=tt19.keep s20
        have dA20:=dA19.keep s20
        refine s_addL (s20 _ _ g19 b1p) hy (by rw[hyl,sizeLine_eq];simp) (fun b2 hb2=>?_)
        have t21:=same_new hb2 (.lst ([.ref va,tx good]++ys))
        have g21:=upd_same (H:=H20) (a:=b2) (o:= .lst ([.ref va,tx good]++ys))
        have b2p:=hpo20.ne hb2
        have goodT:∀ {G:Hp},Tg K p G (tx good):=⟨dt_tx hglo (by omega) (by decide), .inl ⟨good,rfl,by omega⟩⟩
        have A21:∀v∈[V.ref va,tx good]++ys,Tg K p (upd H20 b2 (.lst ([.ref va,tx good]++ys))) v:=fun v hv=>(allD_app (allD_cons (trT t20) (allD_cons goodT allD_nil)) (fun v hv=>dv_tg ((hA v hv).1.less rfl) hSp (hA v hv).2) v hv).same t21
        have n21:([V.ref va,tx good]++ys).length=12:=by rw[List.length_append,hyl];rfl
        have hpo21:=hpo20.same t21
        have u21:=u20.trans t21
        have tt21:=TrH.same t20 t21
        have dA21:=dA20.same t21
        generalize upd H20 b2 _=G21 at*
        generalize [V.ref va,tx good]++ys=L12 at*
        clear hA hy g19 tt19 t20 dA19 dA20 hpo19 hpo20 u18 u19 u20 dA18 t18 Tw
        walk_at "go"
        as_aux_lemma=>
         refine⟨b2,rfl,⟨_,SqL.of g21⟩,?_⟩
         refine for_lst (xs:=L12) (fun j σ H'=>∃ (o9' o10':Option V),σ=[some (.ref sa),some (.int i),some (.ref p),some (.int kk),some (tx good),some (.ref va),some (.int (t.sz:Int)),some (.ref al),some (.ref m2),o9',o10',o11]/\PoolAt H' p (60000+12*j)/\SameBut1 p G21 H') ⟨_,_,rfl,hpo21.mono (by omega),SameBut1.refl _ _⟩ (fun j σ H' _ ⟨_,_,_,_,z⟩=>SqL.of (z _ _ g21 b2p)) ?_ ?_
         ·rintro j x σ H22 hj ⟨o9',o10',rfl,hpo22,s22⟩
          have hj12:j<12:=by have:=(List.getElem?_eq_some_iff.mp hj).1;omega
          have tg22:Tg K p H22 x:=(A21 x (List.mem_of_getElem? hj)).keep s22
          have tkk:∀ {G:Hp},Dt p 4000 3 G (.int kk):=dt_int (Nat.lt_of_le_of_lt (show _<=10 by omega) (by decide)) (by decide) (by decide)
          walk_at "go"
          refine⟨small (show 2<=1000 by decide),fun l2 hl2=>?_⟩
          have t23:=same_new hl2 (.lst [.int 3, .non])
          have g23:=upd_same (H:=H22) (a:=l2) (o:= .lst [.int 3, .non])
          have tg23:=tg22.same t23
          have hpo23:=hpo22.same t23
          have s23:=s22.trans (SameBut1.of t23)
          generalize upd H22 l2 _=G23 at*
          obtain⟨d,sd,fd⟩:=tg23.1
          walk_at "go"
          refine⟨kk,x,p,d,rfl,k1,k4,sd,Nat.le_trans fd.2.2 (by decide),fun c H24 s24 hc=>?_⟩
          have tg24:=tg23.same s24
          have sd24:=sd.same s24
          have hpo24:=hpo23.same s24
          have s24':=s23.trans (SameBut1.of s24)
          obtain⟨dd,hdd⟩:∃dd:Option Int,dd=if c<21 then none else some 3:=⟨_,rfl⟩
          walk_at "go"
          refine s_ixL (SqL.of (s24 _ _ g23)) (show atI [V.int 3,V.non] (if decide (c<21)=true then 1 else 0)=some (dV dd) by
           by_cases hc2:c<21
           ·rw[decide_eq_true hc2,hdd,if_pos hc2];rfl
           ·rw[decide_eq_false hc2,hdd,if_neg hc2];rfl) ?_
          have hD4:Due10 K H24 p 4 (.int kk) x dd:=by
           by_cases hc2:c<21
           ·rw[hdd,if_pos hc2]
            obtain⟨u,eu,gu,zu⟩:=hc.lt.mp hc2
            subst eu
            exact .tree rfl k1 k4 rfl sd24 gu zu
           ·rw[hdd,if_neg hc2]
            exact .noTree rfl k1 k4 rfl sd24 fun z=>hc2 (hc.lt.mpr z)
          walk_at "go"
          refine⟨p,4, .int kk,x,dd,rfl,by omega,by omega,hD4,tkk,tg24.1,hop hpo24,fun H25 s25=>?_⟩
          have tg25:=tg24.same s25
          have hpo25:=hpo24.same s25
          walk_at "go"
          refine ifq rfl ?_
          walk_at "go"
          refine⟨p,5, .int kk,x,none,rfl,by omega,by omega, .any rfl k1 k4 rfl (sd24.same s25),tkk,tg25.1,hop hpo25,fun H26 s26=>?_⟩
          have tg26:=tg25.same s26
          have hpo26:=hpo25.same s26
          have s26':=s24'.trans (SameBut1.of (s25.trans s26))
          walk_at "go"
          refine ifq rfl ?_
          walk_at "go"
          refine noKinds04_use hpo26 (by omega) (fun no H27 nk tk hpo27 s27=>?_)
          have tg27:=tg26.keep s27
          walk_at "go"
          refine⟨p,4,no,x,some 0,rfl,by omega,by omega, .kinds nk,tk,tg27.1,hop hpo27,fun H28 s28=>?_⟩
          have tg28:=tg27.same s28
          have hpo28:=hpo27.same s28
          walk_at "go"
          refine ifq rfl ?_
          walk_at "go"
          refine noKinds04_use hpo28 (by omega) (fun no2 H29 nk2 tk2 hpo29 s29=>?_)
          have tg29:=tg28.keep s29
          walk_at "go"
          refine⟨p,5,no2,x,some 0,rfl,by omega,by omega, .kinds nk2,tk2,tg29.1,hop hpo29,fun H30 s30=>?_⟩
          walk_at "go"
          refine ifq rfl ?_
          walk_at "go"
          exact⟨_,_,rfl,(hpo29.same s30).mono (by omega),s26'.trans (s27.trans ((SameBut1.of s28).trans (s29.trans (SameBut1.of s30))))⟩
         rintro σ H22 ⟨o9',o10',rfl,hpo22,s22⟩
         have u22:Same H H22:=Same.but u21 s22 hHp
         have t22:=tt21.keep s22
         have dA22:=dA21.keep s22
         walk_at "go"
         refine⟨p,kk,good,ta, .ref va,t,rfl,k1,k4,hgo,hR,eta,gta,zta,hop hpo22,t22,by omega,z1,fun al2 H23 hal2 s23 dB=>?_⟩
         walk_at "go"
         have hta:=ht_sz ta
         refine s_neDat (p:=p) (q:=p) dB (dA22.same s23) (by rw[eta];exact told_ok (by omega) (by omega)) ?_
         walk_at "go"
         refine ifq rfl ?_
         walk_at "go"
         exact⟨_,_,_,_,_,_,_,_,_,_,_,rfl,u22.trans s23⟩
 ·rintro σ H1 ⟨o1,o2,o3,o4,o5,o6,o7,o8,o9,o10,o11,rfl,s1⟩
  walk_at "go"
  simp only[tAll]
  walk_at "go"
  refine⟨small (show 2<=1000 by decide),fun a1 ha1=>?_⟩
  have t1:=same_new ha1 (.tup [.int 1,tx [91,93]])
  have g1:=upd_same (H:=H1) (a:=a1) (o:= .tup [.int 1,tx [91,93]])
  generalize upd H1 a1 _=G1 at*
  walk_at "go"
  refine⟨small (show 2<=1000 by decide),fun a2 ha2=>?_⟩
  have t2:=same_new ha2 (.tup [.int 3,tx [60,62]])
  have g2:=upd_same (H:=G1) (a:=a2) (o:= .tup [.int 3,tx [60,62]])
  generalize upd G1 a2 _=G2 at*
  walk_at "go"
  refine⟨small (show 2<=1000 by decide),fun a3 ha3=>?_⟩
  have t3:=same_new ha3 (.tup [.int 2,tx [40,41,123,125]])
  have g3:=upd_same (H:=G2) (a:=a3) (o:= .tup [.int 2,tx [40,41,123,125]])
  generalize upd G2 a3 _=G3 at*
  walk_at "go"
  refine s_mulT (by decide) (by decide) (by decide) ?_
  walk_at "go"
  have c21:(List.replicate (21:Int).toNat [40,41]).flatten.length=42:=by rw[rep_len];rfl
  have w21:Low (List.replicate (21:Int).toNat [40,41]).flatten:=low_rep (by unfold Low;decide)
  generalize(List.replicate (21:Int).toNat [40,41]).flatten=long at c21 w21⊢
  refine⟨small (show 2<=1000 by decide),fun a4 ha4=>?_⟩
  have t4:=same_new ha4 (.tup [.int 4,tx long])
  have g4:=upd_same (H:=G3) (a:=a4) (o:= .tup [.int 4,tx long])
  generalize upd G3 a4 _=G4 at*
  walk_at "go"
  refine⟨small (show 4<=1000 by decide),fun a5 ha5=>?_⟩
  have t5:=same_new ha5 (.lst [.ref a1, .ref a2, .ref a3, .ref a4])
  have g5:=upd_same (H:=G4) (a:=a5) (o:= .lst [.ref a1, .ref a2, .ref a3, .ref a4])
  have x4:=t5 _ _ g4
  have x3:=t5 _ _ (t4 _ _ g3)
  have x2:=t5 _ _ (t4 _ _ (t3 _ _ g2))
  have x1:=t5 _ _ (t4 _ _ (t3 _ _ (t2 _ _ g1)))
  generalize upd G4 a5 _=G5 at*
  have AL:∀x∈[V.ref a1,V.ref a2,V.ref a3,V.ref a4],∃ (t:Addr) (k:Int) (a:List Nat),x= .ref t/\G5 t=some (.tup [.int k,tx a])/\1<=k/\k<=4/\a.length<=100/\Low a/\isRow k a=false:=by
   refine allD_cons ⟨a1,1,_,rfl,x1,by decide,by decide,by decide,by unfold Low;decide,by decide⟩ (allD_cons ⟨a2,3,_,rfl,x2,by decide,by decide,by decide,by unfold Low;decide,by decide⟩ (allD_cons ⟨a3,2,_,rfl,x3,by decide,by decide,by decide,by unfold Low;decide,by decide⟩ (allD_cons ⟨a4,4,_,rfl,x4,by decide,by decide,by omega,w21,?_⟩ allD_nil)))
   cases e:isRow 4 long with
   |false=>rfl
   |true=>have:=isRow_len e;omega
  refine⟨a5,rfl,⟨_,SqL.of g5⟩,?_⟩
  refine for_lst (xs:=[.ref a1, .ref a2, .ref a3, .ref a4]) (fun j σ H'=>∃ (o3 o11:Option V),σ=[some (.ref sa),o1,o2,o3,o4,o5,o6,o7,o8,o9,o10,o11]/\Same G5 H') ⟨_,_,rfl,Same.refl G5⟩ (fun j σ H' _ ⟨_,_,_,z⟩=>SqL.of (z _ _ g5)) ?_ ?_
  ·rintro j x σ H6 hj ⟨o3,o11,rfl,s6⟩
   obtain⟨t,kk,a,rfl,hT,k1,k4,ha,hlo,hro⟩:=AL x (List.mem_of_getElem? hj)
   refine⟨t,[.int kk,tx a],rfl,SqT.of (s6 _ _ hT),rfl,?_⟩
   walk_at "go"
   refine⟨a5,kk,tx a,rfl,k1,k4,⟨dt_tx hlo (by omega) (by decide), .inl ⟨a,rfl,by omega⟩⟩,⟨_,s6 _ _ g5⟩,fun H8 s8=>?_⟩
   walk_at "go"
   refine ifq rfl ?_
   walk_at "go"
   exact⟨_,_,rfl,s6.trans s8⟩
  ·rintro σ H6 ⟨o3,o11,rfl,s6⟩
   walk_at "go"
   exact q H6
end
theorem len1{P:List Value->Prop}(h:∀a,P [a]):∀us,us.length=1->P us|[_],_=>h _
theorem len2{P:List Value->Prop}(h:∀a b,P [a,b]):∀us,us.length=2->P us|[_,_],_=>h _ _
theorem len3{P:List Value->Prop}(h:∀a b c,P [a,b,c]):∀us,us.length=3->P us|[_,_,_],_=>h _ _ _
theorem len4{P:List Value->Prop}(h:∀a b c d,P [a,b,c,d]):∀us,us.length=4->P us|[_,_,_,_],_=>h _ _ _ _
def FnAt(K:PySem.W.Frag)(x:Str)(st:Stmt):Prop:=∃f fd,PySem.W.nsIn K mainGlobals x=some (some (.ref f))/\Fun K x x st f fd
theorem FnAt.mk{K:PySem.W.Frag}{x:Str}{st:Stmt}{f:Addr}{oc:Value}{od an:Option Addr}{osl:Array (Option Value)}{kV doc pm cdv ct:Value}(a:PySem.W.nsIn K mainGlobals x=some (some (.ref f)))(l:K.lookup f=some ⟨oc,od, .func (PySem.W.fnOf x x (defArgs st) (defBody st) (defScope st) .none kV doc pm an cdv ct),osl⟩)(c:PySem.W.codeIn K cdv x=true)(k:PySem.W.keepIn K (.ref f)=true):FnAt K x st:=⟨f,_,a,fun_mk l c k⟩
theorem FnAt.at{K:PySem.W.Frag}{h:Heap}{mg:Str->Option Value}{x:Str}{st:Stmt}{ps:List Str}(p:FnAt K x st)(X:K.In h)(G:h.Ns mainGlobals mg)(hb:∀ (kV doc pm:Value) (an:Option Addr) (cdv ct:Value) (us:List Value),us.length=ps.length->bindArgs (PySem.W.fnOf x x (defArgs st) (defBody st) (defScope st) .none kV doc pm an cdv ct) ⟨us,[]⟩=pure (ps.zip us)):∃f fd,DefAt K mg x st ps f fd:=let⟨f,fd,a,F⟩:=p;⟨f,fd,F,PySem.W.mg_of X G a,F.binds hb⟩
theorem all_mk{l:PySem.W.OpenLaw}{w:World}{K:PySem.W.Frag}{h:Heap}{mg:Str->Option Value}{fa:Addr}(X:K.In h)(G:h.Ns mainGlobals mg)(hfa:mg "law"=some (.ref fa)){x_RowError:Addr}{x_NoKinds:Addr}{x_NoLine:Addr}{x_NotRight:Addr}{x_NoTree:Addr}{x_NoNumber:Addr}{x_NoWeights:Addr}{x_NoPlace:Addr}{x_NoFilling:Addr}{x_TooMany:Addr}{x_NoName:Addr}{x_NoRow:Addr}{x_OPENING:Str}{t_OPENING:Tok}{x_CLOSING:Str}{t_CLOSING:Tok}{aK:Addr}{oK:Obj}{itK:Array Value}{nK:Nat}{x_UNKNOWN:Str}{t_UNKNOWN:Tok}{x_MOST_SIGNS:Int}{t_MOST_SIGNS:Tok}{x_MOST_TUPLES:Int}{t_MOST_TUPLES:Tok}
 (p0:FnAt K "is_whole" d_is_whole)
 (p1:FnAt K "check_kinds" d_check_kinds)
 (p2:FnAt K "is_line" d_is_line)
 (p3:FnAt K "check_line" d_check_line)
 (p4:FnAt K "matched" d_matched)
 (p5:FnAt K "partners" d_partners)
 (p6:FnAt K "depth" d_depth)
 (p7:FnAt K "parts" d_parts)
 (p8:FnAt K "other_one" d_other_one)
 (p9:FnAt K "turned" d_turned)
 (p10:FnAt K "is_branch" d_is_branch)
 (p11:FnAt K "is_tree" d_is_tree)
 (p12:FnAt K "tree_between" d_tree_between)
 (p13:FnAt K "tree_of" d_tree_of)
 (p14:FnAt K "written" d_written)
 (p15:FnAt K "row_of_tree" d_row_of_tree)
 (p16:FnAt K "_law_pool" d_law_pool)
 (p17:FnAt K "_law_take" d_law_take)
 (p18:FnAt K "_law_far" d_law_far)
 (p19:FnAt K "_law_right_row" d_law_right_row)
 (p20:FnAt K "_law_signs" d_law_signs)
 (p21:FnAt K "_law_bent" d_law_bent)
 (p22:FnAt K "_law_any_row" d_law_any_row)
 (p23:FnAt K "_law_is_row" d_law_is_row)
 (p24:FnAt K "_law_is_right" d_law_is_right)
 (p25:FnAt K "_law_no_kinds" d_law_no_kinds)
 (p26:FnAt K "_law_no_row" d_law_no_row)
 (p27:FnAt K "_law_tree" d_law_tree)
 (p28:FnAt K "_law_count" d_law_count)
 (p29:FnAt K "_law_odd" d_law_odd)
 (p30:FnAt K "_law_changed" d_law_changed)
 (p31:FnAt K "_law_no_tree" d_law_no_tree)
 (p32:FnAt K "_law_is" d_law_is)
 (p33:FnAt K "_law_caught" d_law_caught)
 (p34:FnAt K "_law_right" d_law_right)
 (p35:FnAt K "_law_row_right" d_law_row_right)
 (p36:FnAt K "_law_wide_rows" d_law_wide_rows)
 (p37:FnAt K "_law_told" d_law_told)
 (p38:FnAt K "law" d_law)
 (y_RowError:PySem.W.nsIn K mainGlobals "RowError"=some (some (.ref x_RowError))) (w_RowError:eclsB K x_RowError=true)
 (y_NoKinds:PySem.W.nsIn K mainGlobals "NoKinds"=some (some (.ref x_NoKinds))) (w_NoKinds:eclsB K x_NoKinds=true)
 (y_NoLine:PySem.W.nsIn K mainGlobals "NoLine"=some (some (.ref x_NoLine))) (w_NoLine:eclsB K x_NoLine=true)
 (y_NotRight:PySem.W.nsIn K mainGlobals "NotRight"=some (some (.ref x_NotRight))) (w_NotRight:eclsB K x_NotRight=true)
 (y_NoTree:PySem.W.nsIn K mainGlobals "NoTree"=some (some (.ref x_NoTree))) (w_NoTree:eclsB K x_NoTree=true)
 (y_NoNumber:PySem.W.nsIn K mainGlobals "NoNumber"=some (some (.ref x_NoNumber))) (w_NoNumber:eclsB K x_NoNumber=true)
 (y_NoWeights:PySem.W.nsIn K mainGlobals "NoWeights"=some (some (.ref x_NoWeights))) (w_NoWeights:eclsB K x_NoWeights=true)
 (y_NoPlace:PySem.W.nsIn K mainGlobals "NoPlace"=some (some (.ref x_NoPlace))) (w_NoPlace:eclsB K x_NoPlace=true)
 (y_NoFilling:PySem.W.nsIn K mainGlobals "NoFilling"=some (some (.ref x_NoFilling))) (w_NoFilling:eclsB K x_NoFilling=true)
 (y_TooMany:PySem.W.nsIn K mainGlobals "TooMany"=some (some (.ref x_TooMany))) (w_TooMany:eclsB K x_TooMany=true)
 (y_NoName:PySem.W.nsIn K mainGlobals "NoName"=some (some (.ref x_NoName))) (w_NoName:eclsB K x_NoName=true)
 (y_NoRow:PySem.W.nsIn K mainGlobals "NoRow"=some (some (.ref x_NoRow))) (w_NoRow:eclsB K x_NoRow=true)
 (m_NoKinds:PySem.W.mroIn K x_NoKinds (.ref x_RowError)=some true)
 (v_NoKinds:PySem.W.kitOne K (.ref x_NoKinds) (.type "ValueError")=some true)
 (q_NoKinds_RowError:PySem.W.kitOne K (.ref x_NoKinds) (.ref x_RowError)=some true)
 (q_NoKinds_NoKinds:PySem.W.kitOne K (.ref x_NoKinds) (.ref x_NoKinds)=some true)
 (q_NoKinds_NoLine:PySem.W.kitOne K (.ref x_NoKinds) (.ref x_NoLine)=some false)
 (q_NoKinds_NotRight:PySem.W.kitOne K (.ref x_NoKinds) (.ref x_NotRight)=some false)
 (q_NoKinds_NoTree:PySem.W.kitOne K (.ref x_NoKinds) (.ref x_NoTree)=some false)
 (q_NoKinds_NoNumber:PySem.W.kitOne K (.ref x_NoKinds) (.ref x_NoNumber)=some false)
 (q_NoKinds_NoWeights:PySem.W.kitOne K (.ref x_NoKinds) (.ref x_NoWeights)=some false)
 (q_NoKinds_NoPlace:PySem.W.kitOne K (.ref x_NoKinds) (.ref x_NoPlace)=some false)
 (q_NoKinds_NoFilling:PySem.W.kitOne K (.ref x_NoKinds) (.ref x_NoFilling)=some false)
 (q_NoKinds_TooMany:PySem.W.kitOne K (.ref x_NoKinds) (.ref x_TooMany)=some false)
 (q_NoKinds_NoName:PySem.W.kitOne K (.ref x_NoKinds) (.ref x_NoName)=some false)
 (q_NoKinds_NoRow:PySem.W.kitOne K (.ref x_NoKinds) (.ref x_NoRow)=some false)
 (m_NoLine:PySem.W.mroIn K x_NoLine (.ref x_RowError)=some true)
 (v_NoLine:PySem.W.kitOne K (.ref x_NoLine) (.type "ValueError")=some true)
 (q_NoLine_RowError:PySem.W.kitOne K (.ref x_NoLine) (.ref x_RowError)=some true)
 (q_NoLine_NoKinds:PySem.W.kitOne K (.ref x_NoLine) (.ref x_NoKinds)=some false)
 (q_NoLine_NoLine:PySem.W.kitOne K (.ref x_NoLine) (.ref x_NoLine)=some true)
 (q_NoLine_NotRight:PySem.W.kitOne K (.ref x_NoLine) (.ref x_NotRight)=some false)
 (q_NoLine_NoTree:PySem.W.kitOne K (.ref x_NoLine) (.ref x_NoTree)=some false)
 (q_NoLine_NoNumber:PySem.W.kitOne K (.ref x_NoLine) (.ref x_NoNumber)=some false)
 (q_NoLine_NoWeights:PySem.W.kitOne K (.ref x_NoLine) (.ref x_NoWeights)=some false)
 (q_NoLine_NoPlace:PySem.W.kitOne K (.ref x_NoLine) (.ref x_NoPlace)=some false)
 (q_NoLine_NoFilling:PySem.W.kitOne K (.ref x_NoLine) (.ref x_NoFilling)=some false)
 (q_NoLine_TooMany:PySem.W.kitOne K (.ref x_NoLine) (.ref x_TooMany)=some false)
 (q_NoLine_NoName:PySem.W.kitOne K (.ref x_NoLine) (.ref x_NoName)=some false)
 (q_NoLine_NoRow:PySem.W.kitOne K (.ref x_NoLine) (.ref x_NoRow)=some false)
 (m_NotRight:PySem.W.mroIn K x_NotRight (.ref x_RowError)=some true)
 (v_NotRight:PySem.W.kitOne K (.ref x_NotRight) (.type "ValueError")=some true)
 (q_NotRight_RowError:PySem.W.kitOne K (.ref x_NotRight) (.ref x_RowError)=some true)
 (q_NotRight_NoKinds:PySem.W.kitOne K (.ref x_NotRight) (.ref x_NoKinds)=some false)
 (q_NotRight_NoLine:PySem.W.kitOne K (.ref x_NotRight) (.ref x_NoLine)=some false)
 (q_NotRight_NotRight:PySem.W.kitOne K (.ref x_NotRight) (.ref x_NotRight)=some true)
 (q_NotRight_NoTree:PySem.W.kitOne K (.ref x_NotRight) (.ref x_NoTree)=some false)
 (q_NotRight_NoNumber:PySem.W.kitOne K (.ref x_NotRight) (.ref x_NoNumber)=some false)
 (q_NotRight_NoWeights:PySem.W.kitOne K (.ref x_NotRight) (.ref x_NoWeights)=some false)
 (q_NotRight_NoPlace:PySem.W.kitOne K (.ref x_NotRight) (.ref x_NoPlace)=some false)
 (q_NotRight_NoFilling:PySem.W.kitOne K (.ref x_NotRight) (.ref x_NoFilling)=some false)
 (q_NotRight_TooMany:PySem.W.kitOne K (.ref x_NotRight) (.ref x_TooMany)=some false)
 (q_NotRight_NoName:PySem.W.kitOne K (.ref x_NotRight) (.ref x_NoName)=some false)
 (q_NotRight_NoRow:PySem.W.kitOne K (.ref x_NotRight) (.ref x_NoRow)=some false)
 (m_NoTree:PySem.W.mroIn K x_NoTree (.ref x_RowError)=some true)
 (v_NoTree:PySem.W.kitOne K (.ref x_NoTree) (.type "ValueError")=some true)
 (q_NoTree_RowError:PySem.W.kitOne K (.ref x_NoTree) (.ref x_RowError)=some true)
 (q_NoTree_NoKinds:PySem.W.kitOne K (.ref x_NoTree) (.ref x_NoKinds)=some false)
 (q_NoTree_NoLine:PySem.W.kitOne K (.ref x_NoTree) (.ref x_NoLine)=some false)
 (q_NoTree_NotRight:PySem.W.kitOne K (.ref x_NoTree) (.ref x_NotRight)=some false)
 (q_NoTree_NoTree:PySem.W.kitOne K (.ref x_NoTree) (.ref x_NoTree)=some true)
 (q_NoTree_NoNumber:PySem.W.kitOne K (.ref x_NoTree) (.ref x_NoNumber)=some false)
 (q_NoTree_NoWeights:PySem.W.kitOne K (.ref x_NoTree) (.ref x_NoWeights)=some false)
 (q_NoTree_NoPlace:PySem.W.kitOne K (.ref x_NoTree) (.ref x_NoPlace)=some false)
 (q_NoTree_NoFilling:PySem.W.kitOne K (.ref x_NoTree) (.ref x_NoFilling)=some false)
 (q_NoTree_TooMany:PySem.W.kitOne K (.ref x_NoTree) (.ref x_TooMany)=some false)
 (q_NoTree_NoName:PySem.W.kitOne K (.ref x_NoTree) (.ref x_NoName)=some false)
 (q_NoTree_NoRow:PySem.W.kitOne K (.ref x_NoTree) (.ref x_NoRow)=some false)
 (z_ValueError:PySem.W.nsIn K mainGlobals "ValueError"=some none)
 (z_all:PySem.W.nsIn K mainGlobals "all"=some none)
 (z_bool:PySem.W.nsIn K mainGlobals "bool"=some none)
 (z_enumerate:PySem.W.nsIn K mainGlobals "enumerate"=some none)
 (z_int:PySem.W.nsIn K mainGlobals "int"=some none)
 (z_isinstance:PySem.W.nsIn K mainGlobals "isinstance"=some none)
 (z_len:PySem.W.nsIn K mainGlobals "len"=some none)
 (z_list:PySem.W.nsIn K mainGlobals "list"=some none)
 (z_max:PySem.W.nsIn K mainGlobals "max"=some none)
 (z_min:PySem.W.nsIn K mainGlobals "min"=some none)
 (z_range:PySem.W.nsIn K mainGlobals "range"=some none)
 (z_repr:PySem.W.nsIn K mainGlobals "repr"=some none)
 (z_reversed:PySem.W.nsIn K mainGlobals "reversed"=some none)
 (z_str:PySem.W.nsIn K mainGlobals "str"=some none)
 (z_tuple:PySem.W.nsIn K mainGlobals "tuple"=some none)
 (g_OPENING:PySem.W.nsIn K mainGlobals "OPENING"=some (some (.str x_OPENING t_OPENING))) (h_OPENING:x_OPENING=⟨([40,91,123,60]:List Nat).toArray⟩)
 (g_CLOSING:PySem.W.nsIn K mainGlobals "CLOSING"=some (some (.str x_CLOSING t_CLOSING))) (h_CLOSING:x_CLOSING=⟨([41,93,125,62]:List Nat).toArray⟩)
 (g_K:PySem.W.nsIn K mainGlobals "KINDS"=some (some (.ref aK))) (l_K:K.lookup aK=some oK) (c_K:oK.cls= .type "tuple") (s_K:oK.data= .seq itK nK) (r_K:tupIs itK [tx [40,41],tx [91,93],tx [123,125],tx [60,62]]=true)
 (g_UNKNOWN:PySem.W.nsIn K mainGlobals "UNKNOWN"=some (some (.str x_UNKNOWN t_UNKNOWN))) (h_UNKNOWN:x_UNKNOWN=⟨([63]:List Nat).toArray⟩)
 (g_MOST_SIGNS:PySem.W.nsIn K mainGlobals "MOST_SIGNS"=some (some (.int x_MOST_SIGNS t_MOST_SIGNS))) (h_MOST_SIGNS:x_MOST_SIGNS=40)
 (g_MOST_TUPLES:PySem.W.nsIn K mainGlobals "MOST_TUPLES"=some (some (.int x_MOST_TUPLES t_MOST_TUPLES))) (h_MOST_TUPLES:x_MOST_TUPLES=20):
 ∃fd:FuncData,(∀ (s:Shared) (v:Value),BindsTo s fd ⟨[v],[]⟩ [("script",v)])/\∀base:Heap,K.In base->base.Ns mainGlobals mg->FnOk l.prog w K mg base CX0 27 fa fd ["script"] (spLaw K):=by
 have T:Txt K mg aK ⟨x_RowError,x_NoKinds,x_NoLine,x_NotRight,x_NoTree,x_NoNumber,x_NoWeights,x_NoPlace,x_NoFilling,x_TooMany,x_NoName,x_NoRow⟩:=⟨PySem.W.mg_none_of X G z_ValueError,PySem.W.mg_none_of X G z_all,PySem.W.mg_none_of X G z_bool,PySem.W.mg_none_of X G z_enumerate,PySem.W.mg_none_of X G z_int,PySem.W.mg_none_of X G z_isinstance,PySem.W.mg_none_of X G z_len,PySem.W.mg_none_of X G z_list,PySem.W.mg_none_of X G z_max,PySem.W.mg_none_of X G z_min,PySem.W.mg_none_of X G z_range,PySem.W.mg_none_of X G z_repr,PySem.W.mg_none_of X G z_reversed,PySem.W.mg_none_of X G z_str,PySem.W.mg_none_of X G z_tuple,⟨_,PySem.W.mg_of X G g_OPENING,by rw[h_OPENING];exact⟨_,rfl⟩⟩,⟨_,PySem.W.mg_of X G g_CLOSING,by rw[h_CLOSING];exact⟨_,rfl⟩⟩,⟨_,PySem.W.mg_of X G g_K,rfl⟩,fun H=> .inr ⟨oK,itK,nK,l_K,c_K,s_K,tupIs_size r_K (by decide),tupIs_vals r_K⟩,⟨_,PySem.W.mg_of X G g_UNKNOWN,by rw[h_UNKNOWN];exact⟨_,rfl⟩⟩,⟨_,PySem.W.mg_of X G g_MOST_SIGNS,by rw[h_MOST_SIGNS];exact⟨_,rfl⟩⟩,⟨_,PySem.W.mg_of X G g_MOST_TUPLES,by rw[h_MOST_TUPLES];exact⟨_,rfl⟩⟩,PySem.W.mg_of X G y_RowError,ecls_of w_RowError,PySem.W.mg_of X G y_NoKinds,ecls_of w_NoKinds,PySem.W.mg_of X G y_NoLine,ecls_of w_NoLine,PySem.W.mg_of X G y_NotRight,ecls_of w_NotRight,PySem.W.mg_of X G y_NoTree,ecls_of w_NoTree,PySem.W.mg_of X G y_NoNumber,ecls_of w_NoNumber,PySem.W.mg_of X G y_NoWeights,ecls_of w_NoWeights,PySem.W.mg_of X G y_NoPlace,ecls_of w_NoPlace,PySem.W.mg_of X G y_NoFilling,ecls_of w_NoFilling,PySem.W.mg_of X G y_TooMany,ecls_of w_TooMany,PySem.W.mg_of X G y_NoName,ecls_of w_NoName,PySem.W.mg_of X G y_NoRow,ecls_of w_NoRow,m_NoKinds,v_NoKinds,q_NoKinds_RowError,q_NoKinds_NoKinds,q_NoKinds_NoLine,q_NoKinds_NotRight,q_NoKinds_NoTree,q_NoKinds_NoNumber,q_NoKinds_NoWeights,q_NoKinds_NoPlace,q_NoKinds_NoFilling,q_NoKinds_TooMany,q_NoKinds_NoName,q_NoKinds_NoRow,m_NoLine,v_NoLine,q_NoLine_RowError,q_NoLine_NoKinds,q_NoLine_NoLine,q_NoLine_NotRight,q_NoLine_NoTree,q_NoLine_NoNumber,q_NoLine_NoWeights,q_NoLine_NoPlace,q_NoLine_NoFilling,q_NoLine_TooMany,q_NoLine_NoName,q_NoLine_NoRow,m_NotRight,v_NotRight,q_NotRight_RowError,q_NotRight_NoKinds,q_NotRight_NoLine,q_NotRight_NotRight,q_NotRight_NoTree,q_NotRight_NoNumber,q_NotRight_NoWeights,q_NotRight_NoPlace,q_NotRight_NoFilling,q_NotRight_TooMany,q_NotRight_NoName,q_NotRight_NoRow,m_NoTree,v_NoTree,q_NoTree_RowError,q_NoTree_NoKinds,q_NoTree_NoLine,q_NoTree_NotRight,q_NoTree_NoTree,q_NoTree_NoNumber,q_NoTree_NoWeights,q_NoTree_NoPlace,q_NoTree_NoFilling,q_NoTree_TooMany,q_NoTree_NoName,q_NoTree_NoRow⟩
 obtain⟨f0,e0,D0⟩:=p0.at (ps:=["thing"]) X G fun _ _ _ _ _ _=>len1 fun _=>rfl
 obtain⟨f1,e1,D1⟩:=p1.at (ps:=["k"]) X G fun _ _ _ _ _ _=>len1 fun _=>rfl
 obtain⟨f2,e2,D2⟩:=p2.at (ps:=["k","thing"]) X G fun _ _ _ _ _ _=>len2 fun _ _=>rfl
 obtain⟨f3,e3,D3⟩:=p3.at (ps:=["k","row"]) X G fun _ _ _ _ _ _=>len2 fun _ _=>rfl
 obtain⟨f4,e4,D4⟩:=p4.at (ps:=["row"]) X G fun _ _ _ _ _ _=>len1 fun _=>rfl
 obtain⟨f5,e5,D5⟩:=p5.at (ps:=["k","row"]) X G fun _ _ _ _ _ _=>len2 fun _ _=>rfl
 obtain⟨f6,e6,D6⟩:=p6.at (ps:=["k","row"]) X G fun _ _ _ _ _ _=>len2 fun _ _=>rfl
 obtain⟨f7,e7,D7⟩:=p7.at (ps:=["k","row"]) X G fun _ _ _ _ _ _=>len2 fun _ _=>rfl
 obtain⟨f8,e8,D8⟩:=p8.at (ps:=["sign"]) X G fun _ _ _ _ _ _=>len1 fun _=>rfl
 obtain⟨f9,e9,D9⟩:=p9.at (ps:=["k","row"]) X G fun _ _ _ _ _ _=>len2 fun _ _=>rfl
 obtain⟨f10,e10,D10⟩:=p10.at (ps:=["k","thing"]) X G fun _ _ _ _ _ _=>len2 fun _ _=>rfl
 obtain⟨f11,e11,D11⟩:=p11.at (ps:=["k","thing"]) X G fun _ _ _ _ _ _=>len2 fun _ _=>rfl
 obtain⟨f12,e12,D12⟩:=p12.at (ps:=["row","ends","start","stop"]) X G fun _ _ _ _ _ _=>len4 fun _ _ _ _=>rfl
 obtain⟨f13,e13,D13⟩:=p13.at (ps:=["k","row"]) X G fun _ _ _ _ _ _=>len2 fun _ _=>rfl
 obtain⟨f14,e14,D14⟩:=p14.at (ps:=["tree"]) X G fun _ _ _ _ _ _=>len1 fun _=>rfl
 obtain⟨f15,e15,D15⟩:=p15.at (ps:=["k","tree"]) X G fun _ _ _ _ _ _=>len2 fun _ _=>rfl
 obtain⟨f16,e16,D16⟩:=p16.at (ps:=["script","k"]) X G fun _ _ _ _ _ _=>len2 fun _ _=>rfl
 obtain⟨f17,e17,D17⟩:=p17.at (ps:=["pool","many"]) X G fun _ _ _ _ _ _=>len2 fun _ _=>rfl
 obtain⟨f18,e18,D18⟩:=p18.at (ps:=["pool"]) X G fun _ _ _ _ _ _=>len1 fun _=>rfl
 obtain⟨f19,e19,D19⟩:=p19.at (ps:=["pool","k","most"]) X G fun _ _ _ _ _ _=>len3 fun _ _ _=>rfl
 obtain⟨f20,e20,D20⟩:=p20.at (ps:=["k"]) X G fun _ _ _ _ _ _=>len1 fun _=>rfl
 obtain⟨f21,e21,D21⟩:=p21.at (ps:=["pool","row","signs"]) X G fun _ _ _ _ _ _=>len3 fun _ _ _=>rfl
 obtain⟨f22,e22,D22⟩:=p22.at (ps:=["pool","k","most"]) X G fun _ _ _ _ _ _=>len3 fun _ _ _=>rfl
 obtain⟨f23,e23,D23⟩:=p23.at (ps:=["k","thing"]) X G fun _ _ _ _ _ _=>len2 fun _ _=>rfl
 obtain⟨f24,e24,D24⟩:=p24.at (ps:=["row"]) X G fun _ _ _ _ _ _=>len1 fun _=>rfl
 obtain⟨f25,e25,D25⟩:=p25.at (ps:=["pool"]) X G fun _ _ _ _ _ _=>len1 fun _=>rfl
 obtain⟨f26,e26,D26⟩:=p26.at (ps:=["pool","k","row"]) X G fun _ _ _ _ _ _=>len3 fun _ _ _=>rfl
 obtain⟨f27,e27,D27⟩:=p27.at (ps:=["pool","k","most"]) X G fun _ _ _ _ _ _=>len3 fun _ _ _=>rfl
 obtain⟨f28,e28,D28⟩:=p28.at (ps:=["k","thing"]) X G fun _ _ _ _ _ _=>len2 fun _ _=>rfl
 obtain⟨f29,e29,D29⟩:=p29.at (ps:=["pool","kind","within"]) X G fun _ _ _ _ _ _=>len3 fun _ _ _=>rfl
 obtain⟨f30,e30,D30⟩:=p30.at (ps:=["pool","tree","at","left"]) X G fun _ _ _ _ _ _=>len4 fun _ _ _ _=>rfl
 obtain⟨f31,e31,D31⟩:=p31.at (ps:=["pool","tree","many"]) X G fun _ _ _ _ _ _=>len3 fun _ _ _=>rfl
 obtain⟨f32,e32,D32⟩:=p32.at (ps:=["caught","due"]) X G fun _ _ _ _ _ _=>len2 fun _ _=>rfl
 obtain⟨f33,e33,D33⟩:=p33.at (ps:=["way","k","thing"]) X G fun _ _ _ _ _ _=>len3 fun _ _ _=>rfl
 obtain⟨f34,e34,D34⟩:=p34.at (ps:=["way","k","thing","due"]) X G fun _ _ _ _ _ _=>len4 fun _ _ _ _=>rfl
 obtain⟨f35,e35,D35⟩:=p35.at (ps:=["k","thing"]) X G fun _ _ _ _ _ _=>len2 fun _ _=>rfl
 obtain⟨f36,e36,D36⟩:=p36.at (ps:=["pool","good"]) X G fun _ _ _ _ _ _=>len2 fun _ _=>rfl
 obtain⟨f37,e37,D37⟩:=p37.at (ps:=["k","row","tree"]) X G fun _ _ _ _ _ _=>len3 fun _ _ _=>rfl
 obtain⟨f38,e38,D38⟩:=p38.at (ps:=["script"]) X G fun _ _ _ _ _ _=>len1 fun _=>rfl
 have e:=hfa.symm.trans D38.m
 cases e
 obtain⟨_,_,kV38,dc38,pm38,an38,cd38,ct38,_,rfl,_,_⟩:=D38.F.ex
 refine⟨PySem.W.fnOf "law" "law" (defArgs d_law) (defBody d_law) (defScope d_law) .none kV38 dc38 pm38 an38 cd38 ct38,fun s v=> .of_eq rfl,fun base _ _=>?_⟩
 have U_is_whole:FnU l.prog w K mg base 1 "is_whole" ["thing"] (spWhole K):=D0.fnU (ok_is_whole (k:=0) D0.F T)
 have U_check_kinds:FnUE l.prog w K mg base 2 "check_kinds" ["k"] (spKindsE K (⟨x_RowError,x_NoKinds,x_NoLine,x_NotRight,x_NoTree,x_NoNumber,x_NoWeights,x_NoPlace,x_NoFilling,x_TooMany,x_NoName,x_NoRow⟩:Cs)):=D1.fnUE (ok_check_kinds (k:=1) D1.F T (U_is_whole.mono (by decide)))
 have U_is_line:FnUE l.prog w K mg base 3 "is_line" ["k","thing"] (spLineE K (⟨x_RowError,x_NoKinds,x_NoLine,x_NotRight,x_NoTree,x_NoNumber,x_NoWeights,x_NoPlace,x_NoFilling,x_TooMany,x_NoName,x_NoRow⟩:Cs)):=D2.fnUE (ok_is_line (k:=2) D2.F T (U_check_kinds.mono (by decide)))
 have U_check_line:FnUE l.prog w K mg base 4 "check_line" ["k","row"] (spGateE K (⟨x_RowError,x_NoKinds,x_NoLine,x_NotRight,x_NoTree,x_NoNumber,x_NoWeights,x_NoPlace,x_NoFilling,x_TooMany,x_NoName,x_NoRow⟩:Cs) spCheckLine):=D3.fnUE (ok_check_line (k:=3) D3.F T (U_is_line.mono (by decide)))
 have U_matched:FnU l.prog w K mg base 1 "matched" ["row"] (spMatched):=D4.fnU (ok_matched (k:=0) D4.F T)
 have U_partners:FnUE l.prog w K mg base 5 "partners" ["k","row"] (spPartnersE K (⟨x_RowError,x_NoKinds,x_NoLine,x_NotRight,x_NoTree,x_NoNumber,x_NoWeights,x_NoPlace,x_NoFilling,x_TooMany,x_NoName,x_NoRow⟩:Cs)):=D5.fnUE (ok_partners (k:=4) D5.F T (U_check_line.mono (by decide)) (U_matched.mono (by decide)))
 have U_depth:FnUE l.prog w K mg base 6 "depth" ["k","row"] (spRtE K (⟨x_RowError,x_NoKinds,x_NoLine,x_NotRight,x_NoTree,x_NoNumber,x_NoWeights,x_NoPlace,x_NoFilling,x_TooMany,x_NoName,x_NoRow⟩:Cs) rDep):=D6.fnUE (ok_depth (k:=5) D6.F T (U_partners.mono (by decide)))
 have U_parts:FnUE l.prog w K mg base 6 "parts" ["k","row"] (spRtE K (⟨x_RowError,x_NoKinds,x_NoLine,x_NotRight,x_NoTree,x_NoNumber,x_NoWeights,x_NoPlace,x_NoFilling,x_TooMany,x_NoName,x_NoRow⟩:Cs) rPar):=D7.fnUE (ok_parts (k:=5) D7.F T (U_partners.mono (by decide)))
 have U_other_one:FnU l.prog w K mg base 1 "other_one" ["sign"] (spOther):=D8.fnU (ok_other_one (k:=0) D8.F T)
 have U_turned:FnUE l.prog w K mg base 5 "turned" ["k","row"] (spGateE K (⟨x_RowError,x_NoKinds,x_NoLine,x_NotRight,x_NoTree,x_NoNumber,x_NoWeights,x_NoPlace,x_NoFilling,x_TooMany,x_NoName,x_NoRow⟩:Cs) spTurned):=D9.fnUE (ok_turned (k:=4) D9.F T (U_check_line.mono (by decide)) (U_other_one.mono (by decide)))
 have U_is_branch:FnU l.prog w K mg base 2 "is_branch" ["k","thing"] (spBranchD):=D10.fnU (ok_is_branch (k:=1) D10.F T (U_is_whole.mono (by decide)))
 have U_is_tree:FnUE l.prog w K mg base 3 "is_tree" ["k","thing"] (spTreeE K (⟨x_RowError,x_NoKinds,x_NoLine,x_NotRight,x_NoTree,x_NoNumber,x_NoWeights,x_NoPlace,x_NoFilling,x_TooMany,x_NoName,x_NoRow⟩:Cs)):=D11.fnUE (ok_is_tree (k:=2) D11.F T (U_check_kinds.mono (by decide)) (U_is_branch.mono (by decide)))
 have R_tree_between:∀n,FnU l.prog w K mg base (0+n) "tree_between" ["row","ends","start","stop"] (recSp gBetween n):=fun n=>by
  induction n with
  |zero=>exact D12.fnU ⟨fun _ _ _ _ h=>h.elim,fun _ _ _ _ _ _ _ _ _ _ _ _ _ h=>h.elim⟩
  |succ n ih=>exact D12.fnU (ok_tree_between (k:=0+n) n D12.F T ih)
 have U_tree_between:=R_tree_between 22
 have U_tree_of:FnUE l.prog w K mg base 23 "tree_of" ["k","row"] (spRtE K (⟨x_RowError,x_NoKinds,x_NoLine,x_NotRight,x_NoTree,x_NoNumber,x_NoWeights,x_NoPlace,x_NoFilling,x_TooMany,x_NoName,x_NoRow⟩:Cs) rTre):=D13.fnUE (ok_tree_of (k:=22) D13.F T (U_partners.mono (by decide)) (U_tree_between.mono (by decide)))
 have R_written:∀n,FnU l.prog w K mg base (0+n) "written" ["tree"] (recSp gWritten n):=fun n=>by
  induction n with
  |zero=>exact D14.fnU ⟨fun _ _ _ _ h=>h.elim,fun _ _ _ _ _ _ _ _ _ _ _ _ _ h=>h.elim⟩
  |succ n ih=>exact D14.fnU (ok_written (k:=0+n) n D14.F T ih)
 have U_written:=R_written 22
 have U_row_of_tree:FnUE l.prog w K mg base 23 "row_of_tree" ["k","tree"] (spRowOfE K (⟨x_RowError,x_NoKinds,x_NoLine,x_NotRight,x_NoTree,x_NoNumber,x_NoWeights,x_NoPlace,x_NoFilling,x_TooMany,x_NoName,x_NoRow⟩:Cs)):=D15.fnUE (ok_row_of_tree (k:=22) D15.F T (U_written.mono (by decide)) (U_is_tree.mono (by decide)))
 have U_law_pool:FnU l.prog w K mg base 1 "_law_pool" ["script","k"] (spPool K):=D16.fnU (ok_law_pool (k:=0) D16.F T)
 have U_law_take:FnU l.prog w K mg base 1 "_law_take" ["pool","many"] (spTake):=D17.fnU (ok_law_take (k:=0) D17.F T)
 have U_law_far:FnU l.prog w K mg base 2 "_law_far" ["pool"] (spFar04):=D18.fnU (ok_law_far (k:=1) D18.F T (U_law_take.mono (by decide)))
 have U_law_right_row:FnU l.prog w K mg base 2 "_law_right_row" ["pool","k","most"] (spRightRow):=D19.fnU (ok_law_right_row (k:=1) D19.F T (U_law_take.mono (by decide)))
 have U_law_signs:FnU l.prog w K mg base 1 "_law_signs" ["k"] (spSigns):=D20.fnU (ok_law_signs (k:=0) D20.F T)
 have U_law_bent:FnU l.prog w K mg base 2 "_law_bent" ["pool","row","signs"] (spBent):=D21.fnU (ok_law_bent (k:=1) D21.F T (U_law_take.mono (by decide)))
 have U_law_any_row:FnU l.prog w K mg base 3 "_law_any_row" ["pool","k","most"] (spAnyRow):=D22.fnU (ok_law_any_row (k:=2) D22.F T (U_law_take.mono (by decide)) (U_law_signs.mono (by decide)) (U_law_right_row.mono (by decide)) (U_law_bent.mono (by decide)))
 have U_law_is_row:FnU l.prog w K mg base 2 "_law_is_row" ["k","thing"] (spIsRow10 K):=D23.fnU (ok_law_is_row (k:=1) D23.F T (U_law_signs.mono (by decide)))
 have U_law_is_right:FnU l.prog w K mg base 1 "_law_is_right" ["row"] (spCand):=D24.fnU (ok_law_is_right (k:=0) D24.F T)
 have U_law_no_kinds:FnU l.prog w K mg base 3 "_law_no_kinds" ["pool"] (spNoKinds04 K):=D25.fnU (ok_law_no_kinds (k:=2) D25.F T (U_law_far.mono (by decide)) (U_law_take.mono (by decide)))
 have U_law_no_row:FnU l.prog w K mg base 2 "_law_no_row" ["pool","k","row"] (spNoRow):=D26.fnU (ok_law_no_row (k:=1) D26.F T (U_law_take.mono (by decide)))
 have U_law_tree:FnU l.prog w K mg base 2 "_law_tree" ["pool","k","most"] (spMkB):=D27.fnU (ok_law_tree (k:=1) D27.F T (U_law_take.mono (by decide)))
 have R_law_count:∀n,FnU l.prog w K mg base (0+n) "_law_count" ["k","thing"] (recSp gCountD n):=fun n=>by
  induction n with
  |zero=>exact D28.fnU ⟨fun _ _ _ _ h=>h.elim,fun _ _ _ _ _ _ _ _ _ _ _ _ _ h=>h.elim⟩
  |succ n ih=>exact D28.fnU (ok_law_count (k:=0+n) n D28.F T ih)
 have U_law_count:=R_law_count 26
 have U_law_odd:FnU l.prog w K mg base 2 "_law_odd" ["pool","kind","within"] (spOdd):=D29.fnU (ok_law_odd (k:=1) D29.F T (U_law_take.mono (by decide)))
 have R_law_changed:∀n,FnU l.prog w K mg base (2+n) "_law_changed" ["pool","tree","at","left"] (recSp gChg n):=fun n=>by
  induction n with
  |zero=>exact D30.fnU ⟨fun _ _ _ _ h=>h.elim,fun _ _ _ _ _ _ _ _ _ _ _ _ _ h=>h.elim⟩
  |succ n ih=>exact D30.fnU (ok_law_changed (k:=2+n) n D30.F T (U_law_odd.mono (by omega)) ih)
 have U_law_changed:=R_law_changed 22
 have U_law_no_tree:FnU l.prog w K mg base 25 "_law_no_tree" ["pool","tree","many"] (spNoTrT):=D31.fnU (ok_law_no_tree (k:=24) D31.F T (U_law_take.mono (by decide)) (U_law_changed.mono (by decide)))
 have U_law_is:FnU l.prog w K mg base 1 "_law_is" ["caught","due"] (spIs10 (⟨x_RowError,x_NoKinds,x_NoLine,x_NotRight,x_NoTree,x_NoNumber,x_NoWeights,x_NoPlace,x_NoFilling,x_TooMany,x_NoName,x_NoRow⟩:Cs)):=D32.fnU (ok_law_is (k:=0) D32.F T)
 have U_law_caught:FnU l.prog w K mg base 24 "_law_caught" ["way","k","thing"] (spCaught10 K (⟨x_RowError,x_NoKinds,x_NoLine,x_NotRight,x_NoTree,x_NoNumber,x_NoWeights,x_NoPlace,x_NoFilling,x_TooMany,x_NoName,x_NoRow⟩:Cs)):=D33.fnU (ok_law_caught (k:=23) D33.F T (U_depth.mono (by decide)) (U_parts.mono (by decide)) (U_tree_of.mono (by decide)) (U_turned.mono (by decide)) (U_row_of_tree.mono (by decide)) (U_is_tree.mono (by decide)))
 have U_law_right:FnU l.prog w K mg base 25 "_law_right" ["way","k","thing","due"] (spRight10 K):=D34.fnU (ok_law_right (k:=24) D34.F T (U_law_caught.mono (by decide)) (U_law_is.mono (by decide)))
 have U_law_row_right:FnU l.prog w K mg base 26 "_law_row_right" ["k","thing"] (spRowRight K):=D35.fnU (ok_law_row_right (k:=25) D35.F T (U_law_is_row.mono (by decide)) (U_law_right.mono (by decide)) (U_law_is_right.mono (by decide)))
 have U_law_wide_rows:FnU l.prog w K mg base 3 "_law_wide_rows" ["pool","good"] (spWide04):=D36.fnU (ok_law_wide_rows (k:=2) D36.F T (U_law_right_row.mono (by decide)))
 have U_law_told:FnUE l.prog w K mg base 24 "_law_told" ["k","row","tree"] (spTold10):=D37.fnUE (ok_law_told (k:=23) D37.F T (U_depth.mono (by decide)) (U_parts.mono (by decide)) (U_tree_of.mono (by decide)) (U_turned.mono (by decide)) (U_row_of_tree.mono (by decide)) (U_is_tree.mono (by decide)))
 exact ok_law (k:=26) D38.F T (U_law_pool.mono (by decide)) (U_law_right_row.mono (by decide)) (U_law_tree.mono (by decide)) (U_law_count.mono (by decide)) (U_law_told.mono (by decide)) (U_law_take.mono (by decide)) (U_law_wide_rows.mono (by decide)) (U_law_row_right.mono (by decide)) (U_law_any_row.mono (by decide)) (U_law_no_tree.mono (by decide)) (U_law_bent.mono (by decide)) (U_law_no_row.mono (by decide)) (U_law_right.mono (by decide)) (U_law_signs.mono (by decide)) (U_law_no_kinds.mono (by decide))
theorem walk{l:PySem.W.OpenLaw}{q:Program}{loose:List Str}{XP:(Str->Option Value)->Heap->Prop}{YP:World->Heap->Prop}{d:DefRec}{K:Params->PySem.W.Frag}(hn:l.most=some 63)(hdf:d.params.defaults=[])
 (hY:∀ (w:World) (h:Heap),YP w h->(K w.params).In h)
 (F:∀ (w:World) (mg:Str->Option Value) (fa:Addr) (h:Heap),(K w.params).In h->h.Ns mainGlobals mg->mg d.name=some (.ref fa)->
   ∃fd:FuncData,(∀ (s:Shared) (u:Value),BindsTo s fd ⟨[u],[]⟩ [("script",u)])/\∀base:Heap,(K w.params).In base->base.Ns mainGlobals mg->FnOk l.prog w (K w.params) mg base CX0 27 fa fd ["script"] (spLaw (K w.params))):
 PySem.W.WalkO q loose XP YP l.row.toRowW d [] (fun f vs=>PySem.call f vs):=
 L2.walk_of (n:=63) (k:=27) (x:="script") (CX:=fun _=>CX0) (sp:=fun w=>spLaw (K w.params)) hn (by decide) hdf ⟨rfl,by decide,by decide,rfl⟩ hY F (fun _ _ a ns hl _ hS=>⟨a,ns,rfl,hS,hl,fun _=>rfl⟩) fun _ _ _ _ _ z=>z
end Bk
theorem PySem.W.Fast.tw4938044188784936165:True:=trivial
theorem PySem.W.Fast.tw9523580304600119366:True:=trivial
theorem PySem.W.Fast.tw11026555624800820495:True:=trivial
theorem PySem.W.Fast.tw2290919610299675349:True:=trivial
theorem PySem.W.Fast.tw18366373597716525359:True:=trivial
theorem PySem.W.Fast.tw11456596957115289327:True:=trivial
theorem PySem.W.Fast.tw16686892282272129998:True:=trivial
theorem PySem.W.Fast.tw12502735521475209347:True:=trivial
theorem PySem.W.Fast.tw11575270163219730124:True:=trivial
theorem PySem.W.Fast.tw1302175555799275347:True:=trivial
theorem PySem.W.Fast.tw14764884360305147029:True:=trivial
theorem PySem.W.Fast.tw11104593262870910298:True:=trivial
theorem PySem.W.Fast.tw10010589929727771937:True:=trivial
theorem PySem.W.Fast.tw9352201802327794296:True:=trivial
theorem PySem.W.Fast.tw6570615590391034672:True:=trivial
theorem PySem.W.Fast.tw3835384063172229204:True:=trivial
theorem PySem.W.Fast.tw10885156988029651291:True:=trivial
theorem PySem.W.Fast.tw10632888696534211975:True:=trivial
theorem PySem.W.Fast.tw2036533102659312423:True:=trivial
theorem PySem.W.Fast.tw14105957057130962592:True:=trivial
theorem PySem.W.Fast.tw11308447678917145054:True:=trivial
theorem PySem.W.Fast.tw16718402395400029580:True:=trivial
theorem PySem.W.Fast.tw9767636376126279757:True:=trivial
theorem PySem.W.Fast.tw12020980640081099405:True:=trivial
theorem PySem.W.Fast.tw257436488531767528:True:=trivial
theorem PySem.W.Fast.tw13237767171894309775:True:=trivial
theorem PySem.W.Fast.tw10939614585065056510:True:=trivial
theorem PySem.W.Fast.tw7379542122525117376:True:=trivial
theorem PySem.W.Fast.tw4742592604813051761:True:=trivial
theorem PySem.W.Fast.tw6995930491753850904:True:=trivial
theorem PySem.W.Fast.tw1122359702787174258:True:=trivial
theorem PySem.W.Fast.tw13016708098835604691:True:=trivial
theorem PySem.W.Fast.tw1205653064817188618:True:=trivial
theorem PySem.W.Fast.tw13763851369961462910:True:=trivial
theorem PySem.W.Fast.tw9948924463508868313:True:=trivial
theorem PySem.W.Fast.tw16386459043430864132:True:=trivial
theorem PySem.W.Fast.tw430481967215311972:True:=trivial
theorem PySem.W.Fast.tw13447200041712478908:True:=trivial
theorem PySem.W.Fast.tw8291418218800597992:True:=trivial
theorem PySem.W.Fast.tw1855447250642923158:True:=trivial
theorem PySem.W.Fast.tw14681639574064603284:True:=trivial
theorem PySem.W.Fast.tw8440273882791595119:True:=trivial
theorem PySem.W.Fast.tw8328521400787545208:True:=trivial
theorem PySem.W.Fast.tw1611495211640814187:True:=trivial
theorem PySem.W.Fast.tw11211260925222379267:True:=trivial
theorem PySem.W.Fast.tw17313347324647661646:True:=trivial
theorem PySem.W.Fast.tw462833012640909384:True:=trivial
theorem PySem.W.Fast.tw5559802369859051679:True:=trivial
theorem PySem.W.Fast.tw6181716408613268870:True:=trivial
theorem PySem.W.Fast.tw7839287864279568633:True:=trivial
theorem PySem.W.Fast.tw9601563742971653832:True:=trivial
theorem PySem.W.Fast.tw10119270010321431682:True:=trivial
theorem PySem.W.Fast.tw3634188723742172513:True:=trivial
theorem PySem.W.Fast.tw13316985636554561872:True:=trivial
theorem PySem.W.Fast.tw11528951548488342341:True:=trivial
theorem PySem.W.Fast.tw10605388080067201974:True:=trivial
theorem PySem.W.Fast.tw12651696362634990124:True:=trivial
theorem PySem.W.Fast.tw12399079834903939954:True:=trivial
theorem PySem.W.Fast.tw9417513222261725859:True:=trivial
theorem PySem.W.Fast.tw18310675205918315241:True:=trivial
theorem PySem.W.Fast.tw4396877027454653322:True:=trivial
theorem PySem.W.Fast.tw14020535461726948017:True:=trivial
theorem PySem.W.Fast.tw5732861381222774374:True:=trivial
theorem PySem.W.Fast.tw10249595239792910569:True:=trivial
theorem PySem.W.Fast.tw2187533038150702094:True:=trivial
theorem PySem.W.Fast.tw10935898264287400456:True:=trivial
theorem PySem.W.Fast.tw14950414708801451539:True:=trivial
theorem PySem.W.Fast.tw5916189345495517698:True:=trivial
theorem PySem.W.Fast.tw4807569564803031564:True:=trivial
theorem PySem.W.Fast.tw6880397036560913372:True:=trivial
theorem PySem.W.Fast.tw3630784780458659613:True:=trivial
theorem PySem.W.Fast.tw12200056312510307210:True:=trivial
theorem PySem.W.Fast.tw15146057211821032469:True:=trivial
theorem PySem.W.Fast.tw7652513953695101642:True:=trivial
theorem PySem.W.Fast.tw18315429100187818109:True:=trivial
theorem PySem.W.Fast.tw15551832623874766810:True:=trivial
theorem PySem.W.Fast.tw1146499146516309804:True:=trivial
theorem PySem.W.Fast.tw10213436963393154955:True:=trivial
theorem PySem.W.Fast.tw7444160030195972925:True:=trivial
theorem PySem.W.Fast.tw11703698011611573350:True:=trivial
theorem PySem.W.Fast.tw17608242260307678279:True:=trivial
theorem PySem.W.Fast.tw15626660317572519344:True:=trivial
theorem PySem.W.Fast.tw15044252002549507567:True:=trivial
theorem PySem.W.Fast.tw9026191875525008324:True:=trivial
theorem PySem.W.Fast.tw5533889303788529772:True:=trivial
theorem PySem.W.Fast.tw14921770478938014195:True:=trivial
theorem PySem.W.Fast.tw18311044781867790342:True:=trivial
theorem PySem.W.Fast.tw15451846151221396355:True:=trivial
theorem PySem.W.Fast.tw14106122420328559495:True:=trivial
theorem PySem.W.Fast.tw13104219905354409215:True:=trivial
theorem PySem.W.Fast.tw2007166906906636169:True:=trivial
theorem PySem.W.Fast.tw2053952553896799969:True:=trivial
theorem PySem.W.Fast.tw4093288074602195940:True:=trivial
theorem PySem.W.Fast.tw6097576154469556694:True:=trivial
theorem PySem.W.Fast.tw10392178144628867855:True:=trivial
theorem PySem.W.Fast.tw3014908239156990122:True:=trivial
theorem PySem.W.Fast.tw14309323023691359291:True:=trivial
theorem PySem.W.Fast.tw10900465288256979611:True:=trivial
theorem PySem.W.Fast.tw15971033114343275019:True:=trivial
theorem PySem.W.Fast.tw5249919709388665985:True:=trivial
theorem PySem.W.Fast.tw11879317900313222291:True:=trivial
theorem PySem.W.Fast.tw8382745382846210511:True:=trivial
theorem PySem.W.Fast.tw4408397521170934187:True:=trivial
theorem PySem.W.Fast.tw7850119786062182929:True:=trivial
theorem PySem.W.Fast.tw81843977833382468:True:=trivial
theorem PySem.W.Fast.tw17417034153155214066:True:=trivial
theorem PySem.W.Fast.tw11491014221941517684:True:=trivial
theorem PySem.W.Fast.tw4030271258599865167:True:=trivial
theorem PySem.W.Fast.tw12291075702316745019:True:=trivial
theorem PySem.W.Fast.tw13597705348176476461:True:=trivial
theorem PySem.W.Fast.tw12177226265668263056:True:=trivial
theorem PySem.W.Fast.tw4760741413771416783:True:=trivial
theorem PySem.W.Fast.tw15222534238116507447:True:=trivial
theorem PySem.W.Fast.tw1741722130718272772:True:=trivial
theorem PySem.W.Fast.tw12951168204619458867:True:=trivial
theorem PySem.W.Fast.tw2080514659530226872:True:=trivial
theorem PySem.W.Fast.tw15047041552160062032:True:=trivial
theorem PySem.W.Fast.tw3533334839858982608:True:=trivial
theorem PySem.W.Fast.tw6250336392110840706:True:=trivial
theorem PySem.W.Fast.tw1042723074224155928:True:=trivial
theorem PySem.W.Fast.tw3940794992099773065:True:=trivial
theorem PySem.W.Fast.tw15235186288822560213:True:=trivial
theorem PySem.W.Fast.tw10074737107043644058:True:=trivial
theorem PySem.W.Fast.tw13350737566870344975:True:=trivial
theorem PySem.W.Fast.tw884714347054356592:True:=trivial
theorem PySem.W.Fast.tw15321415956779314937:True:=trivial
theorem PySem.W.Fast.tw1781623177024204522:True:=trivial
theorem PySem.W.Fast.tw2922115391944257801:True:=trivial
theorem PySem.W.Fast.tw2100099052607599402:True:=trivial
theorem PySem.W.Fast.tw6147931963576508544:True:=trivial
theorem PySem.W.Fast.tw5542289351538223282:True:=trivial
theorem PySem.W.Fast.tw3579716391500848791:True:=trivial
theorem PySem.W.Fast.tw5293806680348789088:True:=trivial
theorem PySem.W.Fast.tw11512607388023469700:True:=trivial
theorem PySem.W.Fast.tw6878269824848687339:True:=trivial
theorem PySem.W.Fast.tw10725144326050184995:True:=trivial
theorem PySem.W.Fast.tw14256393802935129425:True:=trivial
theorem PySem.W.Fast.tw2449059282940536799:True:=trivial
theorem PySem.W.Fast.tw10466706366895203200:True:=trivial
theorem PySem.W.Fast.tw7390979552175905601:True:=trivial
theorem PySem.W.Fast.tw8280192036166103024:True:=trivial
theorem PySem.W.Fast.tw2419520850313183676:True:=trivial
theorem PySem.W.Fast.tw12275950276253973738:True:=trivial
theorem PySem.W.Fast.tw16992553903369324898:True:=trivial
theorem PySem.W.Fast.tw6406631921221647423:True:=trivial
theorem PySem.W.Fast.tw8616140573781543355:True:=trivial
theorem PySem.W.Fast.tw1519428397691116568:True:=trivial
theorem PySem.W.Fast.tw5873890557955722017:True:=trivial
theorem PySem.W.Fast.tw9724178927641526888:True:=trivial
theorem PySem.W.Fast.tw6460167204014807439:True:=trivial
theorem PySem.W.Fast.tw5490392488637936798:True:=trivial
theorem PySem.W.Fast.tw4945309948103652136:True:=trivial
theorem PySem.W.Fast.tw4905297706838623823:True:=trivial
theorem PySem.W.Fast.tw3607176956893301060:True:=trivial
theorem PySem.W.Fast.tw11182975103646569073:True:=trivial
theorem PySem.W.Fast.tw10439824042422288515:True:=trivial
theorem PySem.W.Fast.tw15413607026937658686:True:=trivial
theorem PySem.W.Fast.tw14419995429614938478:True:=trivial
theorem PySem.W.Fast.tw12779245220062881238:True:=trivial
theorem PySem.W.Fast.tw11154820660647154633:True:=trivial
open PySem PySem.W PyProof.Rows
set_option maxRecDepth 100000 in
set_option maxHeartbeats 0 in
theorem PySem.Challenge.cw_bracketrows_k10_shapes_refused_holds : PySem.Challenge.rw_bracketrows_k10_shapes_refused.Holds := by
  w_on; o_law; k_head; (case hw => w_witness2)
  k_fill
  refine Bk.walk (l := PySem.Challenge.rw_bracketrows_k10_shapes_refused) rfl rfl (fun w h Y => PySem.W.kIn_of Y) ?F
  case F =>
    intro w mg fa h KX G hmg
    refine' Bk.all_mk KX G hmg ?p0 ?p1 ?p2 ?p3 ?p4 ?p5 ?p6 ?p7 ?p8 ?p9 ?p10 ?p11 ?p12 ?p13 ?p14 ?p15 ?p16 ?p17 ?p18 ?p19 ?p20 ?p21 ?p22 ?p23 ?p24 ?p25 ?p26 ?p27 ?p28 ?p29 ?p30 ?p31 ?p32 ?p33 ?p34 ?p35 ?p36 ?p37 ?p38 ?y_RowError ?w_RowError ?y_NoKinds ?w_NoKinds ?y_NoLine ?w_NoLine ?y_NotRight ?w_NotRight ?y_NoTree ?w_NoTree ?y_NoNumber ?w_NoNumber ?y_NoWeights ?w_NoWeights ?y_NoPlace ?w_NoPlace ?y_NoFilling ?w_NoFilling ?y_TooMany ?w_TooMany ?y_NoName ?w_NoName ?y_NoRow ?w_NoRow ?m_NoKinds ?v_NoKinds ?q_NoKinds_RowError ?q_NoKinds_NoKinds ?q_NoKinds_NoLine ?q_NoKinds_NotRight ?q_NoKinds_NoTree ?q_NoKinds_NoNumber ?q_NoKinds_NoWeights ?q_NoKinds_NoPlace ?q_NoKinds_NoFilling ?q_NoKinds_TooMany ?q_NoKinds_NoName ?q_NoKinds_NoRow ?m_NoLine ?v_NoLine ?q_NoLine_RowError ?q_NoLine_NoKinds ?q_NoLine_NoLine ?q_NoLine_NotRight ?q_NoLine_NoTree ?q_NoLine_NoNumber ?q_NoLine_NoWeights ?q_NoLine_NoPlace ?q_NoLine_NoFilling ?q_NoLine_TooMany ?q_NoLine_NoName ?q_NoLine_NoRow ?m_NotRight ?v_NotRight ?q_NotRight_RowError ?q_NotRight_NoKinds ?q_NotRight_NoLine ?q_NotRight_NotRight ?q_NotRight_NoTree ?q_NotRight_NoNumber ?q_NotRight_NoWeights ?q_NotRight_NoPlace ?q_NotRight_NoFilling ?q_NotRight_TooMany ?q_NotRight_NoName ?q_NotRight_NoRow ?m_NoTree ?v_NoTree ?q_NoTree_RowError ?q_NoTree_NoKinds ?q_NoTree_NoLine ?q_NoTree_NotRight ?q_NoTree_NoTree ?q_NoTree_NoNumber ?q_NoTree_NoWeights ?q_NoTree_NoPlace ?q_NoTree_NoFilling ?q_NoTree_TooMany ?q_NoTree_NoName ?q_NoTree_NoRow ?z_ValueError ?z_all ?z_bool ?z_enumerate ?z_int ?z_isinstance ?z_len ?z_list ?z_max ?z_min ?z_range ?z_repr ?z_reversed ?z_str ?z_tuple ?g_OPENING ?h_OPENING ?g_CLOSING ?h_CLOSING ?g_K ?l_K ?c_K ?s_K ?r_K ?g_UNKNOWN ?h_UNKNOWN ?g_MOST_SIGNS ?h_MOST_SIGNS ?g_MOST_TUPLES ?h_MOST_TUPLES
    (case p0 | p1 | p2 | p3 | p4 | p5 | p6 | p7 | p8 | p9 | p10 | p11 | p12 | p13 | p14 | p15 | p16 | p17 | p18 | p19 | p20 | p21 | p22 | p23 | p24 | p25 | p26 | p27 | p28 | p29 | p30 | p31 | p32 | p33 | p34 | p35 | p36 | p37 | p38 => (apply Bk.FnAt.mk; k_is; k_is; k_is; k_is))
    (case y_RowError => k_is)
    (case w_RowError => kernel_rfl)
    (case y_NoKinds => k_is)
    (case w_NoKinds => kernel_rfl)
    (case y_NoLine => k_is)
    (case w_NoLine => kernel_rfl)
    (case y_NotRight => k_is)
    (case w_NotRight => kernel_rfl)
    (case y_NoTree => k_is)
    (case w_NoTree => kernel_rfl)
    (case y_NoNumber => k_is)
    (case w_NoNumber => kernel_rfl)
    (case y_NoWeights => k_is)
    (case w_NoWeights => kernel_rfl)
    (case y_NoPlace => k_is)
    (case w_NoPlace => kernel_rfl)
    (case y_NoFilling => k_is)
    (case w_NoFilling => kernel_rfl)
    (case y_TooMany => k_is)
    (case w_TooMany => kernel_rfl)
    (case y_NoName => k_is)
    (case w_NoName => kernel_rfl)
    (case y_NoRow => k_is)
    (case w_NoRow => kernel_rfl)
    (case m_NoKinds => kernel_rfl)
    (case v_NoKinds => kernel_rfl)
    (case q_NoKinds_RowError => kernel_rfl)
    (case q_NoKinds_NoKinds => kernel_rfl)
    (case q_NoKinds_NoLine => kernel_rfl)
    (case q_NoKinds_NotRight => kernel_rfl)
    (case q_NoKinds_NoTree => kernel_rfl)
    (case q_NoKinds_NoNumber => kernel_rfl)
    (case q_NoKinds_NoWeights => kernel_rfl)
    (case q_NoKinds_NoPlace => kernel_rfl)
    (case q_NoKinds_NoFilling => kernel_rfl)
    (case q_NoKinds_TooMany => kernel_rfl)
    (case q_NoKinds_NoName => kernel_rfl)
    (case q_NoKinds_NoRow => kernel_rfl)
    (case m_NoLine => kernel_rfl)
    (case v_NoLine => kernel_rfl)
    (case q_NoLine_RowError => kernel_rfl)
    (case q_NoLine_NoKinds => kernel_rfl)
    (case q_NoLine_NoLine => kernel_rfl)
    (case q_NoLine_NotRight => kernel_rfl)
    (case q_NoLine_NoTree => kernel_rfl)
    (case q_NoLine_NoNumber => kernel_rfl)
    (case q_NoLine_NoWeights => kernel_rfl)
    (case q_NoLine_NoPlace => kernel_rfl)
    (case q_NoLine_NoFilling => kernel_rfl)
    (case q_NoLine_TooMany => kernel_rfl)
    (case q_NoLine_NoName => kernel_rfl)
    (case q_NoLine_NoRow => kernel_rfl)
    (case m_NotRight => kernel_rfl)
    (case v_NotRight => kernel_rfl)
    (case q_NotRight_RowError => kernel_rfl)
    (case q_NotRight_NoKinds => kernel_rfl)
    (case q_NotRight_NoLine => kernel_rfl)
    (case q_NotRight_NotRight => kernel_rfl)
    (case q_NotRight_NoTree => kernel_rfl)
    (case q_NotRight_NoNumber => kernel_rfl)
    (case q_NotRight_NoWeights => kernel_rfl)
    (case q_NotRight_NoPlace => kernel_rfl)
    (case q_NotRight_NoFilling => kernel_rfl)
    (case q_NotRight_TooMany => kernel_rfl)
    (case q_NotRight_NoName => kernel_rfl)
    (case q_NotRight_NoRow => kernel_rfl)
    (case m_NoTree => kernel_rfl)
    (case v_NoTree => kernel_rfl)
    (case q_NoTree_RowError => kernel_rfl)
    (case q_NoTree_NoKinds => kernel_rfl)
    (case q_NoTree_NoLine => kernel_rfl)
    (case q_NoTree_NotRight => kernel_rfl)
    (case q_NoTree_NoTree => kernel_rfl)
    (case q_NoTree_NoNumber => kernel_rfl)
    (case q_NoTree_NoWeights => kernel_rfl)
    (case q_NoTree_NoPlace => kernel_rfl)
    (case q_NoTree_NoFilling => kernel_rfl)
    (case q_NoTree_TooMany => kernel_rfl)
    (case q_NoTree_NoName => kernel_rfl)
    (case q_NoTree_NoRow => kernel_rfl)
    (case z_ValueError | z_all | z_bool | z_enumerate | z_int | z_isinstance | z_len | z_list | z_max | z_min | z_range | z_repr | z_reversed | z_str | z_tuple | g_OPENING => k_is)
    (case h_OPENING => first | rfl | decide +kernel)
    (case g_CLOSING => k_is)
    (case h_CLOSING => first | rfl | decide +kernel)
    (case g_K | l_K => k_is)
    (case c_K => rfl)
    (case s_K => rfl)
    (case r_K => decide +kernel)
    (case g_UNKNOWN => k_is)
    (case h_UNKNOWN => first | rfl | decide +kernel)
    (case g_MOST_SIGNS => k_is)
    (case h_MOST_SIGNS => rfl)
    (case g_MOST_TUPLES => k_is)
    (case h_MOST_TUPLES => rfl)
