import PyProof.Rows.All
import Wide.All
import OpenK.AllK
import Wide.FinOn
import Lean
import PyProof.EqAt
import PyProof.EqKinds
import PyProof.TupleCall
import PyProof.ExcStrCall
import PyProof.ExcStrAll.ValueError
import PyProof.TupleOfStr
import PyProof.DictIter
import PyProof.DictWalks
import PyProof.Rows.SetFrom
import PyProof.CollectWalk
import PyProof.Rows.SortShell
import PyProof.Rows.SortWalk
import PyProof.ZipIter
import PyProof.Draws
import PyProof.EnumMake
import PyProof.Rows.StrFirst
import PySem.Challenge.RW_bracketrows_k33_whole_weights_in_long_ro
set_option Elab.async false
set_option linter.all false
set_option maxRecDepth 100000
section
local macro_rules | `(tactic| omega) => `(tactic| lia)
namespace L2
open PySem PySem.Spec PyProof.Rows
abbrev Key:=Sum Int Str
def keyIs:Key->Value->Bool
 | .inl k,v=>Value.isInt k v
 | .inr x,v=>Value.isStrOf x v
def keyH(w:World):Key->Int
 | .inl k=>hashInt k
 | .inr x=>hashStr w x
theorem zA2:∀ {k:Key} {v:Value},keyIs k v=true->(∃i t,k=Sum.inl i/\v=Value.int i t)\/(∃x t,k=Sum.inr x/\v=Value.str x t)
 | .inl i,v,h=>by
   obtain⟨t,e⟩:=Value.isInt_shape (k:=i) (v:=v) h;exact .inl ⟨i,t,rfl,e⟩
 | .inr x,v,h=>by
   obtain⟨t,e⟩:=Value.isStrOf_shape (x:=x) (v:=v) h;exact .inr ⟨x,t,rfl,e⟩
theorem zIj(i:Int)(t:Tok):keyIs (.inl i) (.int i t)=true:=by simp[keyIs,Value.isInt]
theorem zIi(x:Str)(t:Tok):keyIs (.inr x) (.str x t)=true:=by simp[keyIs,Value.isStrOf]
theorem zNF(a b:Int):decide ((Sum.inl a:Key)=Sum.inl b)=(a==b):=by
 by_cases e:a=b
 ·subst e;simp
 ·have h:¬ (Sum.inl a:Key)=Sum.inl b:=λq=>e (Sum.inl.inj q);rw[decide_eq_false h];exact(beq_eq_false_iff_ne.mpr e).symm
theorem zNC(a b:Str):decide ((Sum.inr a:Key)=Sum.inr b)=decide (a=b):=by
 by_cases e:a=b
 ·subst e;simp
 ·have h:¬ (Sum.inr a:Key)=Sum.inr b:=λq=>e (Sum.inr.inj q);rw[decide_eq_false h,decide_eq_false e]
theorem zNE(a:Int)(b:Str):decide ((Sum.inl a:Key)=Sum.inr b)=false:=decide_eq_false (λq=>nomatch q)
theorem zND(a:Str)(b:Int):decide ((Sum.inr a:Key)=Sum.inl b)=false:=decide_eq_false (λq=>nomatch q)
def mixKind(prog:Program)(w:World):PySem.KeyKind prog w Key where
 is:=keyIs
 hash:=keyH w
 inj:=λv a b ha hb=>by
  rcases zA2 ha with⟨i,t,rfl,rfl⟩|⟨x,t,rfl,rfl⟩
  ·rcases zA2 hb with⟨j,u,rfl,e⟩|⟨y,u,rfl,e⟩
   ·injection e with e1 _;rw[e1]
   ·exact nomatch e
  ·rcases zA2 hb with⟨j,u,rfl,e⟩|⟨y,u,rfl,e⟩
   ·exact nomatch e
   ·injection e with e1 _;rw[e1]
 byValue:=λk v h=>by
  rcases zA2 h with⟨i,t,rfl,rfl⟩|⟨x,t,rfl,rfl⟩<;>rfl
 pyHash:=λhv h=>by
  rcases zA2 hv with⟨i,t,rfl,rfl⟩|⟨x,t,rfl,rfl⟩
  ·exact wpAny_pyHash_int h
  ·exact wpAny_pyHash_str h
 eqBool:=λhu hv h=>by
  rcases zA2 hu with⟨i,t,rfl,rfl⟩|⟨x,t,rfl,rfl⟩
  ·rcases zA2 hv with⟨j,u,rfl,rfl⟩|⟨y,u,rfl,rfl⟩
   ·rw[zNF]at h;exact wpAny_eqBool_int h
   ·rw[zNE]at h;exact SeqAt.EqAt.int_str i t y u _ _ _ _ h
  ·rcases zA2 hv with⟨j,u,rfl,rfl⟩|⟨y,u,rfl,rfl⟩
   ·rw[zND]at h;exact SeqAt.EqAt.str_int x t j u _ _ _ _ h
   ·rw[zNC]at h;exact wpAny_eqBool_str h
 «strs»:=λk x t v h=>by
  rcases zA2 h with⟨i,u,rfl,e⟩|⟨y,u,rfl,e⟩
  ·exact nomatch e
  ·injection e with e1 _
   subst e1
   cases v<;>rfl
theorem zGK(prog:Program)(w:World)(i:Int)(t:Tok):(mixKind prog w).is (.inl i) (.int i t)=true:=zIj i t
theorem zGJ(prog:Program)(w:World)(x:Str)(t:Tok):(mixKind prog w).is (.inr x) (.str x t)=true:=zIi x t
inductive V where
 |non|bl (b:Bool)|int (i:Int)|str (x:Str)|byt (b:Array UInt8)|flt (b:UInt64)|ref (a:Addr)|ty (n:String)
 deriving DecidableEq
def RelV:V->Value->Prop
 | .non,u=>u=Value.none
 | .bl b,u=>u=Value.bool b
 | .int i,u=>∃t,u=Value.int i t
 | .str x,u=>∃t,u=Value.str x t
 | .byt b,u=>∃t,u=Value.bytes b t
 | .flt b,u=>∃t,u=Value.float b t
 | .ref a,u=>u=Value.ref a
 | .ty n,u=>u=Value.type n
abbrev Vals:List V->List Value->Prop:=Paired RelV
theorem Vals.length{xs:List V}{us:List Value}(r:Vals xs us):xs.length=us.length:=Paired.length r
theorem Vals.get:∀ {xs:List V} {us:List Value} {i:Nat} {x:V},Vals xs us->xs[i]? =some x->∃u,us[i]? =some u/\RelV x u
 |_,_,_,_, .nil,e=>by simp at e
 |_,_,0,_, .cons r _,e=>by simp at e;subst e;exact⟨_,rfl,r⟩
 |_,_,i+1,x, .cons _ t,e=>by
  obtain⟨u,h1,h2⟩:=Vals.get (i:=i) (x:=x) t (by simpa using e);exact⟨u,by simpa using h1,h2⟩
theorem Vals.set{x:V}{u:Value}(r:RelV x u):∀ {xs:List V} {us:List Value} (i:Nat),Vals xs us->Vals (xs.set i x) (us.set i u)
 |_,_,_, .nil=> .nil
 |_,_,0, .cons _ t=> .cons r t
 |_,_,i+1, .cons q t=> .cons q (Vals.set r i t)
theorem Vals.append:∀ {xs ys:List V} {us ws:List Value},Vals xs us->Vals ys ws->Vals (xs++ys) (us++ws)
 |_,_,_,_, .nil,s=>s
 |_,_,_,_, .cons r t,s=> .cons r (Vals.append t s)
theorem Vals.take:∀ {xs:List V} {us:List Value} (n:Nat),Vals xs us->Vals (xs.take n) (us.take n)
 |_,_,0,_=> .nil
 |_,_,_+1, .nil=> .nil
 |_,_,n+1, .cons r t=> .cons r (Vals.take n t)
theorem Vals.drop:∀ {xs:List V} {us:List Value} (n:Nat),Vals xs us->Vals (xs.drop n) (us.drop n)
 |_,_,0,r=>r
 |_,_,_+1, .nil=> .nil
 |_,_,n+1, .cons _ t=>Vals.drop n t
def RelO:Option V->Option Value->Prop
 |some v,some u=>RelV v u
 |none,none=>True
 |_,_=>False
def KV{κ:Type}:List (κ×V)->List (κ×Value)->Prop:=Paired fun(p:κ×V) (q:κ×Value)=>p.1=q.1/\RelV p.2 q.2
def kV:Key->V
 | .inl i=> .int i
 | .inr x=> .str x
inductive HO where
 |lst (xs:List V)
 |tup (xs:List V)
 |dK (kvs:List (Key×V))|dT (kvs:List (List Key×V))
 |set (S:Int->Bool) (n:Nat)
 |ins (C dx:Addr) (fs:List (Str×V))
 |own (x:Addr)
 |xd (fs:List (Str×V))
 |met (f x:Addr)
 |rng (lo hi:Int)
 |frz (o:Obj) (u:HO)
 |tbl (ps:Array Value)
 |ext (φ:Heap->Prop)
abbrev Hp:=Addr->Option HO
def upd(H:Hp)(a:Addr)(o:HO):Hp:=λb=>if b=a then some o else H b
theorem zAF{H:Hp}{a:Addr}{o:HO}:upd H a o a=some o:=by unfold upd;rw[if_pos rfl]
theorem zAI{H:Hp}{a b:Addr}{o:HO}(h:b≠a):upd H a o b=H b:=by unfold upd;rw[if_neg h]
theorem zJw{H:Hp}{a b:Addr}{o u:HO}(h:H a=some o)(h':H b=some u)(d:o≠u):a≠b:=by
 intro e;subst e;rw[h]at h';exact d (Option.some.inj h')
theorem zAH{H:Hp}{a b:Addr}{o:HO}(h:H a=some o)(h':H b=none):a≠b:=by
 intro e;subst e;rw[h]at h';cases h'
section
variable(P:Program)(w:World)
def ObjOk(H:Hp)(h:Heap)(a:Addr):HO->Prop
 | .lst xs=>xs.length<=sizeLine/\∃ (its:List Value) (n:Nat),Vals xs its/\h.get? a=some {cls:= .type "list",data:= .seq its.toArray n}
 | .tup xs=>xs.length<=sizeLine/\∃its:List Value,Vals xs its/\IsTup h a its.toArray
 | .dK kvs=>kvs.length<=sizeLine/\(a==sysModules)=false/\∃vs,KV kvs vs/\h.DictOf (mixKind P w) a vs
 | .dT kvs=>kvs.length<=sizeLine/\(a==sysModules)=false/\∃xs:List (List Key×Addr×Value),
     Paired (fun(p:List Key×V) (q:List Key×Addr×Value)=>p.1=q.1/\H q.2.1=some (.tup (p.1.map kV))/\RelV p.2 q.2.2) kvs xs/\
     ∃o es ep,h.get? a=some o/\o.ExactDict/\o.data= .dict es ep/\es.toList=xs.map (entryOfKey (tupleKind (mixKind P w)))/\(xs.map (·.1)).Nodup
 | .set S n=>h.SetOf (intKind P w) a S n
 | .ins C dx fs=>H dx=some (.own a)/\fs.length<=1000/\dx≠a/\h.get? a=some (PySem.W.instObj C dx)/\
     ∃mA,h.Ns1 dx mA/\(∀f,RelO (fs.lookup f) (mA f))/\PySem.Within mA (fs.map (·.1))
 | .own _=>∃o,h.get? a=some o
 | .xd fs=>∃mA,h.Ns1 a mA/\∀f,RelO (fs.lookup f) (mA f)
 | .rng lo hi=>∃t u v,h.get? a=some {cls:= .type "range",data:= .fields #[.int lo t, .int hi u, .int 1 v]}
 | .frz o u=>h.get? a=some o/\ObjOk H h a u
 | .tbl ps=>h.get? a=some {cls:= .none,data:= .fields ps}
 | .met f x=>h.get? a=some (PySem.W.methodObj (.ref f) (.ref x))
 | .ext φ=>φ h/\(∃o,h.get? a=some o)/\∀h1 h2:Heap,φ h1->(∀o,h1.get? a=some o->h2.get? a=some o)->φ h2
structure HOk (H:Hp) (h:Heap):Prop where
 all:∀a o,H a=some o->ObjOk P w H h a o
 sm:∀o,H sysModules=some o->∃ob u,o= .frz ob u
 bg:∃b o,1<b/\h.get? b=some o
instance (H:Hp) (h:Heap):CoeFun (HOk P w H h) λ_=>∀a o,H a=some o->ObjOk P w H h a o:=⟨HOk.all⟩
end
section
variable{P:Program}{w:World}{H H':Hp}{h h':Heap}{a:Addr}{o:HO}
theorem ObjOk.lt(x:ObjOk P w H h a o):a<h.objs.size:=by
 cases o with
 |lst xs=>obtain⟨_,_,_,_,e⟩:=x;exact Heap.lt_size e
 |tup xs=>obtain⟨_,_,_,p⟩:=x;exact p.lt
 |dK kvs=>obtain⟨_,_,_,_,o,_,_,e,_⟩:=x;exact Heap.lt_size e
 |dT kvs=>obtain⟨_,_,_,_,o,_,_,e,_⟩:=x;exact Heap.lt_size e
 |set S n=>obtain⟨o,_,_,_,e,_⟩:=x;exact Heap.lt_size e
 |ins C dx fs=>obtain⟨_,_,_,e,_⟩:=x;exact Heap.lt_size e
 |own y=>obtain⟨_,e⟩:=x;exact Heap.lt_size e
 |xd fs=>obtain⟨_,⟨_,_,_,e,_⟩,_⟩:=x;exact Heap.lt_size e
 |rng lo hi=>obtain⟨_,_,_,e⟩:=x;exact Heap.lt_size e
 |frz ob u=>obtain⟨e,_⟩:=x;exact Heap.lt_size e
 |tbl ps=>exact Heap.lt_size (show h.get? a=some _ from x)
 |met f y=>exact Heap.lt_size (show h.get? a=some _ from x)
 |ext φ=>obtain⟨_,⟨_,e⟩,_⟩:=x;exact Heap.lt_size e
theorem Paired.mapP{α β:Type}{F G:α->β->Prop}:∀ {l₁:List α} {l₂:List β},Paired F l₁ l₂->(∀a b,F a b->G a b)->Paired G l₁ l₂
 |_,_, .nil,_=> .nil
 |_,_, .cons r t,f=> .cons (f _ _ r) (Paired.mapP t f)
theorem ObjOk.stay(x:ObjOk P w H h a o)(k:∀b u,(b=a\/H b=some (.own a))->h.get? b=some u->h'.get? b=some u)
 (ho:∀b,H b=some (.own a)->H' b=some (.own a)) (ht:∀b xs,H b=some (.tup xs)->H' b=some (.tup xs)):ObjOk P w H' h' a o:=by
 induction o with
 |lst xs=>obtain⟨z,its,n,r,e⟩:=x;exact⟨z,its,n,r,k _ _ (.inl rfl) e⟩
 |tup xs=>obtain⟨z,its,r,ob,e,c⟩:=x;exact⟨z,its,r,ob,k _ _ (.inl rfl) e,c⟩
 |dK kvs=>obtain⟨z,y,vs,r,ob,es,ep,e,c⟩:=x;exact⟨z,y,vs,r,ob,es,ep,k _ _ (.inl rfl) e,c⟩
 |dT kvs=>
  obtain⟨z,y,xs,r,ob,es,ep,e,c⟩:=x;exact⟨z,y,xs,Paired.mapP r λp q z=>⟨z.1,ht _ _ z.2.1,z.2.2⟩,ob,es,ep,k _ _ (.inl rfl) e,c⟩
 |set S n=>obtain⟨ob,es,ep,t,e,c⟩:=x;exact⟨ob,es,ep,t,k _ _ (.inl rfl) e,c⟩
 |ins C dx fs=>
  obtain⟨d,z,ne,e,mA,⟨od,es,ep,e2,c⟩,r⟩:=x;exact⟨ho _ d,z,ne,k _ _ (.inl rfl) e,mA,⟨od,es,ep,k _ _ (.inr d) e2,c⟩,r⟩
 |own y=>obtain⟨ob,e⟩:=x;exact⟨ob,k _ _ (.inl rfl) e⟩
 |xd fs=>obtain⟨mA,⟨od,es,ep,e,c⟩,r⟩:=x;exact⟨mA,⟨od,es,ep,k _ _ (.inl rfl) e,c⟩,r⟩
 |rng lo hi=>obtain⟨t,u,v,e⟩:=x;exact⟨t,u,v,k _ _ (.inl rfl) e⟩
 |frz ob u ih=>obtain⟨e,q⟩:=x;exact⟨k _ _ (.inl rfl) e,ih q⟩
 |tbl ps=>
  have e:h.get? a=some {cls:= .none,data:= .fields ps}:=x;show h'.get? a=some {cls:= .none,data:= .fields ps};exact k a _ (.inl rfl) e
 |met f y=>
  have e:h.get? a=some (PySem.W.methodObj (.ref f) (.ref y)):=x;show h'.get? a=some (PySem.W.methodObj (.ref f) (.ref y));exact k a _ (.inl rfl) e
 |ext φ=>obtain⟨p,⟨o,e⟩,st⟩:=x;exact⟨st _ _ p λo q=>k _ _ (.inl rfl) q,⟨o,k _ _ (.inl rfl) e⟩,st⟩
theorem HOk.lt(x:HOk P w H h)(e:H a=some o):a<h.objs.size:=(x a o e).lt
theorem HOk.fresh(x:HOk P w H h)(e:h.objs.size<=a):H a=none:=by
 cases q:H a with
 |none=>rfl
 |some u=>exact absurd (Nat.lt_of_lt_of_le (x.lt q) e) (Nat.lt_irrefl _)
theorem HOk.kept(x:HOk P w H h)(k:∀b u,h.get? b=some u->h'.get? b=some u):HOk P w H h':=⟨λa o e=>
 (x a o e).stay (λb u _ q=>k b u q) (λ_ q=>q) λ_ _ q=>q,x.sm,let⟨b,o,l,e⟩:=x.bg;⟨b,o,l,k _ _ e⟩⟩
theorem HOk.laid(x:HOk P w H h)(k:∀b u,h.get? b=some u->h'.get? b=some u)(hp:h.objs.size<=a)(new:ObjOk P w (upd H a o) h' a o):HOk P w (upd H a o) h':=by
 refine⟨λb u e=>?_,λu e=>?_,let⟨b,o,l,e⟩:=x.bg;⟨b,o,l,k _ _ e⟩⟩
 rotate_left
 ·by_cases hb:sysModules=a
  ·obtain⟨b,o,l,q⟩:=x.bg;exact absurd (Nat.lt_trans l (show b<sysModules from by rw[hb];exact Nat.lt_of_lt_of_le (Heap.lt_size q) hp)) (Nat.lt_irrefl 1)
  ·rw[zAI hb]at e;exact x.sm u e
 have hn:=x.fresh hp
 by_cases hb:b=a
 ·subst hb;rw[zAF]at e;cases e;exact new
 ·rw[zAI hb]at e;exact(x b u e).stay (λc v _ q=>k c v q) (λc q=>by rw[zAI (zAH q hn)];exact q) λc xs q=>by rw[zAI (zAH q hn)];exact q
end
def Rd(H:Hp)(a:Addr)(u:HO):Prop:=H a=some u\/∃o,H a=some (.frz o u)
theorem Rd.ok{P:Program}{w:World}{H:Hp}{h:Heap}{a:Addr}{u:HO}(r:Rd H a u)(x:HOk P w H h):ObjOk P w H h a u:=by
 rcases r with r|⟨o,r⟩
 ·exact x a u r
 ·obtain⟨_,q⟩:=x a _ r;exact q
def Mut:Option HO->Prop
 |some (.lst _)=>True
 |some (.dK _)=>True
 |some (.dT _)=>True
 |some (.set _ _)=>True
 |some (.ins _ _ _)=>True
 |some (.ext _)=>True
 |_=>False
section
variable{P:Program}{w:World}{H:Hp}{h h':Heap}{x e:Addr}{o':HO}
theorem HOk.write(ok:HOk P w H h)(mu:Mut (H x))(he:e=x\/H e=some (.own x))(k:∀b u,b≠e->h.get? b=some u->h'.get? b=some u)(heo:∃u,h'.get? e=some u)
 (new:ObjOk P w (upd H x o') h' x o'):HOk P w (upd H x o') h':=by
 refine⟨λb u q=>?_,λu q=>?_,?_⟩
 rotate_left
 ·by_cases hb:sysModules=x
  ·exfalso;subst hb
   cases z:H sysModules with
   |none=>rw[z]at mu;exact mu
   |some o=>
    obtain⟨ob,v,rfl⟩:=ok.sm o z;rw[z]at mu;exact mu
  ·rw[zAI hb]at q;exact ok.sm u q
 ·obtain⟨b,o,l,z⟩:=ok.bg
  by_cases hb:b=e
  ·obtain⟨v,hv⟩:=heo;exact⟨e,v,hb▸l,hv⟩
  ·exact⟨b,o,l,k b o hb z⟩
 have nown:∀c y,H c=some (.own y)->c≠x:=λc y r z=>by subst z;rw[r]at mu;exact mu
 have ntup:∀c xs,H c=some (.tup xs)->c≠x:=λc xs r z=>by subst z;rw[r]at mu;exact mu
 by_cases hb:b=x
 ·subst hb;rw[zAF]at q;cases q;exact new
 ·rw[zAI hb]at q
  by_cases hbe:b=e
  ·have q':H b=some (.own x):=by
    rcases he with z|z
    ·exact absurd (hbe.trans z) hb
    ·rw[hbe];exact z
   rw[q]at q';cases q';obtain⟨v,hv⟩:=heo;exact⟨v,by rw[hbe];exact hv⟩
  ·refine(ok b u q).stay (λc v hc r=>k c v ?_ r) (λc r=>by rw[zAI (nown c b r)];exact r) λc xs r=>by rw[zAI (ntup c xs r)];exact r
   rcases hc with rfl|hc
   ·exact hbe
   ·rintro rfl;rcases he with z|z
    ·exact nown c b hc z
    ·rw[hc]at z;cases z;exact hb rfl
end
structure Un (fs ex:List Addr) (H H':Hp) (h h':Heap):Prop where
 keep:∀b o,h.get? b=some o->H b=none->b∉fs->b∉ex->h'.get? b=some o
 slot:∀b o,h.get? b=some o->H b=none->b∈fs->b∉ex->∃sl,h'.get? b=some {o with slots:=sl}
 free:∀b o,h.get? b=some o->H b=none->b∉ex->H' b=none
 there:∀b o,h.get? b=some o->b∉ex->∃o',h'.get? b=some o'
 tups:∀b xs,H b=some (.tup xs)->H' b=some (.tup xs)
 frzs:∀b o u,H b=some (.frz o u)->H' b=some (.frz o u)
 tbls:∀b ps,H b=some (.tbl ps)->∃more,H' b=some (.tbl (ps++more))
section
variable{fs fs' ex ex':List Addr}{H H1 H2:Hp}{h h1 h2 h':Heap}{a x e:Addr}{o:HO}
theorem Un.any(u:Un fs ex H H1 h h1){b:Addr}{ob:Obj}(q:h.get? b=some ob)(n:H b=none)(hx:b∉ex):∃sl,h1.get? b=some {ob with slots:=sl}:=by
 by_cases hb:b∈fs
 ·exact u.slot b ob q n hb hx
 ·exact⟨ob.slots,u.keep b ob q n hb hx⟩
theorem Un.trans(a:Un fs ex H H1 h h1)(b:Un fs ex H1 H2 h1 h2):Un fs ex H H2 h h2 where
 keep:=λc ob q n hc hx=>b.keep c ob (a.keep c ob q n hc hx) (a.free c ob q n hx) hc hx
 slot:=λc ob q n hc hx=>by
  obtain⟨sl,e1⟩:=a.slot c ob q n hc hx;obtain⟨sl',e2⟩:=b.slot c _ e1 (a.free c ob q n hx) hc hx;exact⟨sl',e2⟩
 free:=λc ob q n hx=>by
  obtain⟨o',e1⟩:=a.there c ob q hx;exact b.free c o' e1 (a.free c ob q n hx) hx
 there:=λc ob q hx=>by
  obtain⟨o',e1⟩:=a.there c ob q hx;exact b.there c o' e1 hx
 tups:=λc xs q=>b.tups c xs (a.tups c xs q)
 frzs:=λc ob xs q=>b.frzs c ob xs (a.frzs c ob xs q)
 tbls:=λc ps q=>by
  obtain⟨m1,e1⟩:=a.tbls c ps q;obtain⟨m2,e2⟩:=b.tbls c _ e1;exact⟨m1++m2,by rw[e2,Array.append_assoc]⟩
theorem Un.kept(k:∀b u,h.get? b=some u->h'.get? b=some u):Un fs ex H H h h':=
 ⟨λb ob q _ _ _=>k b ob q,λb ob q _ _ _=>⟨ob.slots,k b ob q⟩,λ_ _ _ n _=>n,λb ob q _=>⟨ob,k b ob q⟩,λ_ _ q=>q,λ_ _ _ q=>q,λ_ ps q=>⟨#[],by rw[q];simp⟩⟩
theorem Un.refl:Un fs ex H H h h:=Un.kept λ_ _ q=>q
theorem Un.laid(k:∀b u,h.get? b=some u->h'.get? b=some u)(hp:h.objs.size<=a)(hn:H a=none):Un fs ex H (upd H a o) h h' where
 keep:=λb u q _ _ _=>k b u q
 slot:=λb u q _ _ _=>⟨u.slots,k b u q⟩
 free:=λb u q n _=>by rw[zAI (Nat.ne_of_lt (Nat.lt_of_lt_of_le (Heap.lt_size q) hp))];exact n
 there:=λb u q _=>⟨u,k b u q⟩
 tups:=λb xs q=>by rw[zAI (zAH q hn)];exact q
 frzs:=λb u xs q=>by rw[zAI (zAH q hn)];exact q
 tbls:=λb ps q=>⟨#[],by rw[zAI (zAH q hn),q];simp⟩
theorem Un.write(mu:Mut (H x))(he:e=x\/H e=some (.own x))(k:∀b u,b≠e->h.get? b=some u->h'.get? b=some u)(heo:∃u,h'.get? e=some u):Un fs ex H (upd H x o) h h':=by
 have hx:∀b,H b=none->b≠x:=λb n z=>by subst z;rw[n]at mu;exact mu
 have hb:∀b,H b=none->b≠e:=λb n z=>by
  subst z;rcases he with r|r
  ·exact hx b n r
  ·rw[n]at r;cases r
 have hm:∀b u,H b=some u->¬Mut (some u)->b≠x:=λb u q nm z=>by subst z;rw[q]at mu;exact nm mu
 refine⟨λb u q n _ _=>k b u (hb b n) q,λb u q n _ _=>⟨u.slots,k b u (hb b n) q⟩,λb u q n _=>by rw[zAI (hx b n)];exact n,λb u q _=>?_,
  λb xs q=>by rw[zAI (hm b _ q λz=>z)];exact q,λb u xs q=>by rw[zAI (hm b _ q λz=>z)];exact q,λb ps q=>⟨#[],by rw[zAI (hm b _ q λz=>z),q];simp⟩⟩
 by_cases hbe:b=e
 ·subst hbe;exact heo
 ·exact⟨u,k b u hbe q⟩
end
def trk(h:Heap)(H:Hp):List Addr:=(List.range h.objs.size).filter λa=>(H a).isSome
def hidT(h:Heap)(H:Hp):Heap:=PySem.W.hideAll h (trk h H)
theorem zIr(h:Heap)(H:Hp):(hidT h H).objs.size=h.objs.size:=PySem.W.hideAll_size _ _
theorem zJ1{h:Heap}{H:Hp}{b:Addr}{o:Obj}(e:h.get? b=some o)(n:H b=none):(hidT h H).get? b=some o:=
 PySem.W.hideAll_get _ e λhm=>by
  have q:(H b).isSome=true:=(List.mem_filter.mp hm).2;rw[n]at q;simp at q
theorem zLk{h:Heap}{H:Hp}{b:Addr}{o:Obj}(e:(hidT h H).get? b=some o):h.get? b=some o/\H b=none:=by
 have e':h.get? b=some o:=PySem.W.of_hideAll (trk h H) e;refine⟨e',?_⟩
 cases q:H b with
 |none=>rfl
 |some x=>
  have hm:b∈trk h H:=List.mem_filter.mpr ⟨List.mem_range.mpr (Heap.lt_size e'),by simp[q]⟩;have z:(hidT h H).get? b=none:=PySem.W.hideAll_none (trk h H) hm;rw[z]at e;cases e
structure Mod (K:PySem.W.Frag) (mg:Str->Option Value) (base:Heap):Prop where
 kin:K.In base
 glob:base.Ns mainGlobals mg
 blt:∃mb,base.Ns builtinsNs mb/\∀x:Str,x≠"__name__"->mb x=bootBuiltins x
 nolimit:base.NoLimit
structure Cx where
 prog:Program
 w:World
 K:PySem.W.Frag
 mg:Str->Option Value
 base:Heap
 A:Around
 N:List Str
 s₀:Shared
 H₀:Hp
 env:Env
 outer:List Env
 stack:List Env
 ex:List Addr
 fn:Str->Bool
 calm:Bool
 pn:List (Addr×Obj)
 xe:Value->Shared->Prop
def frs(l:List Env):List Addr:=l.filterMap (·.frame)
abbrev Cx.fs(X:Cx):List Addr:=frs X.outer
def Vis(sc:Scope)(x:Str):Prop:=sc.names.lookup x=some .local\/sc.names.lookup x=some .cell\/sc.names.lookup x=some .free
def Loc(sc:Scope)(x:Str):Prop:=sc.names.lookup x=some .local\/sc.names.lookup x=some .cell
def Look(env:Env)(h:Heap)(m:Str->Option Value)(x:Str)(u:Value):Prop:=
 (env.kindOf x=some .local/\m x=some u)\/((env.kindOf x=some .cell\/env.kindOf x=some .free)/\∃c,env.cells.lookup x=some c/\h.IsCell c (some u))
structure Cx.Ok (X:Cx):Prop where
 mod:Mod X.K X.mg X.base
 kind:X.env.scope.kind= .function
 glob:X.env.globals=mainGlobals
 blt:X.env.builtins=builtinsNs
 above:X.s₀.heap.objs.size<=X.env.locals
 inj:∀x y c,X.env.cells.lookup x=some c->X.env.cells.lookup y=some c->x=y
 has:∀x,(X.env.kindOf x=some .cell\/X.env.kindOf x=some .free)->∃c,X.env.cells.lookup x=some c
 cab:∀x c,X.fn x=true->X.env.cells.lookup x=some c->X.s₀.heap.objs.size<=c
 hd:X.calm=true->X.A.handled=none
 frames:X.A.frames=some X.stack
 stk:X.stack=X.outer\/(X.stack=X.env::X.outer/\X.env.frame=some X.env.locals)
 exf:∀b∈X.ex,b≠X.env.locals/\∀x c,X.env.cells.lookup x=some c->c≠b
 bs:∀b o,X.base.get? b=some o->X.s₀.heap.get? b=some o/\X.H₀ b=none
 bsz:X.base.objs.size<=X.s₀.heap.objs.size
 noex:∀b o,X.base.get? b=some o->b∉X.ex
 exfs:∀b∈X.ex,b∉X.fs
 funs:X.s₀.heap.FunFrames X.base X.outer
 frf:∀b∈X.fs,X.H₀ b=none
structure Inv (X:Cx) (pins:List (Addr×Obj)) (σ:List (Option V)) (H:Hp) (s:Shared):Prop where
 ok:X.Ok
 os:s.os=X.s₀.os
 bare:AllBare s.gens
 base:Un X.fs X.ex X.H₀ H X.s₀.heap s.heap
 loc:∃m,s.heap.Ns X.env.locals m/\∀ (i:Nat) (x:Str) (v:V),X.N[i]? =some x->σ[i]? =some (some v)->Vis X.env.scope x->∃u,RelV v u/\Look X.env s.heap m x u
 cell:∀x c,X.env.cells.lookup x=some c->∃v,s.heap.IsCell c v
 free:H X.env.locals=none
 freeC:∀x c,X.env.cells.lookup x=some c->H c=none
 pin:∀p∈X.pn++pins,s.heap.get? p.1=some p.2/\H p.1=none/\p.1≠X.env.locals/\p.1∉X.fs/\∀v,p.2.data≠ .cell v
 hok:HOk X.prog X.w H s.heap
 len:σ.length=X.N.length
section
variable{X:Cx}{pins:List (Addr×Obj)}{σ:List (Option V)}{H H':Hp}{s:Shared}{h':Heap}
theorem Cx.Ok.nofr(ok:X.Ok){b:Addr}{o:Obj}(e:X.base.get? b=some o):b∉X.fs:=λhb=>by
 have:=(ok.funs.mem hb).1;rw[e]at this;cases this
theorem Inv.bs(I:Inv X pins σ H s):∀b o,X.base.get? b=some o->s.heap.get? b=some o/\H b=none:=λb o e=>
 ⟨I.base.keep b o (I.ok.bs b o e).1 (I.ok.bs b o e).2 (I.ok.nofr e) (I.ok.noex b o e),I.base.free b o (I.ok.bs b o e).1 (I.ok.bs b o e).2 (I.ok.noex b o e)⟩
theorem Inv.bk(I:Inv X pins σ H s):∀b o,X.base.get? b=some o->s.heap.get? b=some o:=λb o e=>(I.bs b o e).1
theorem Inv.mod(I:Inv X pins σ H s):Mod X.K X.mg X.base:=I.ok.mod
theorem Inv.kIn(I:Inv X pins σ H s):X.K.In s.heap:=I.ok.mod.kin.keeps I.bk
theorem Inv.fr(I:Inv X pins σ H s):∃m,Fr X.base X.env.locals s.heap m:=
 let⟨m,hn,_⟩:=I.loc
 ⟨m,hn,I.bk,Nat.le_trans I.ok.bsz I.ok.above⟩
theorem Inv.lt(I:Inv X pins σ H s):X.env.locals<s.heap.objs.size:=let⟨_,hn,_⟩:=I.loc;hn.lt
theorem Inv.sz(I:Inv X pins σ H s):X.s₀.heap.objs.size<=s.heap.objs.size:=Nat.le_trans I.ok.above (Nat.le_of_lt I.lt)
theorem Inv.nofs(I:Inv X pins σ H s){a:Addr}(h:s.heap.objs.size<=a):a∉X.fs:=λhb=>by
 obtain⟨_,o,ho,_⟩:=I.ok.funs.mem hb;exact absurd (Nat.lt_of_lt_of_le (Heap.lt_size ho) (Nat.le_trans I.sz h)) (Nat.lt_irrefl _)
theorem Inv.cne(I:Inv X pins σ H s):∀x c,X.env.cells.lookup x=some c->c≠X.env.locals:=λx c e z=>by
 obtain⟨v,o,ho,hd⟩:=I.cell x c e;obtain⟨m,⟨o',es,ep,ho',hd',_⟩,_⟩:=I.loc;rw[z,ho']at ho;cases ho;rw[hd']at hd;cases hd
theorem Inv.funs(I:Inv X pins σ H s):s.heap.FunFrames X.base X.outer:=by
 have all:∀ (l:List Env),(∀b∈frs l,b∈X.fs)->X.s₀.heap.FunFrames X.base l->s.heap.FunFrames X.base l:=by
  intro l
  induction l with
  |nil=>intro _ _;trivial
  |cons env r ih=>
   intro hs hl;obtain⟨hk,⟨L,o,hf,hn,ho,hd⟩,hr⟩:=hl;have hL:L∈X.fs:=hs L (by unfold frs;rw[List.filterMap_cons,hf];exact List.mem_cons_self);obtain⟨sl,e⟩:=I.base.slot L o ho (I.ok.frf L hL) hL λz=>I.ok.exfs L z hL;exact⟨hk,⟨L,_,hf,hn,e,hd⟩,ih (λb hb=>hs b (by unfold frs;rw[List.filterMap_cons,hf];exact List.mem_cons_of_mem _ hb)) hr⟩
 exact all X.outer (λ_ hb=>hb) I.ok.funs
theorem Inv.stack(I:Inv X pins σ H s):s.heap.FunFrames X.base X.stack:=by
 rcases I.ok.stk with e|⟨e,hf⟩
 ·rw[e];exact I.funs
 ·rw[e];obtain⟨m,hn,_⟩:=I.loc;refine .cons (by rw[I.ok.kind];decide) hf hn ?_ I.funs;exact Heap.get?_none_of_le (Nat.le_trans I.ok.bsz I.ok.above)
theorem Inv.stkSub(I:Inv X pins σ H s):∀b∈frs X.stack,b∈X.env.locals::X.fs:=λb hb=>by
 rcases I.ok.stk with e|⟨e,hf⟩
 ·rw[e]at hb;exact List.mem_cons_of_mem _ hb
 ·rw[e]at hb;unfold frs at hb;rw[List.filterMap_cons,hf]at hb;exact hb
theorem Inv.stkFree(I:Inv X pins σ H s):∀b∈frs X.stack,H b=none:=λb hb=>by
 rcases List.mem_cons.mp (I.stkSub b hb)with e|hb
 ·rw[e];exact I.free
 ·obtain⟨_,o,ho,_⟩:=I.ok.funs.mem hb;exact I.base.free b o ho (I.ok.frf b hb) λz=>I.ok.exfs b z hb
theorem Inv.step{g':Array GenState}{t':Nat}{d':Drawn}{ch:List Addr}(I:Inv X pins σ H s)
 (hch:∀b∈ch,(b∈X.ex\/X.s₀.heap.objs.size<=b)/\b≠X.env.locals/\(∀x c,X.env.cells.lookup x=some c->c≠b)/\∀p∈X.pn++pins,p.1≠b)
 (keep:∀b o,b≠X.env.locals->b∉X.fs->b∉ch->s.heap.get? b=some o->H b=none->h'.get? b=some o)
 (slot:∀b o,b≠X.env.locals->b∈X.fs->b∉ch->s.heap.get? b=some o->H b=none->∃sl,h'.get? b=some {o with slots:=sl}) (free:∀b o,b∉ch->s.heap.get? b=some o->H b=none->H' b=none)
 (there:∀b o,b∉ch->s.heap.get? b=some o->∃o',h'.get? b=some o')
 (tups:∀b xs,H b=some (.tup xs)->H' b=some (.tup xs)) (frzs:∀b o u,H b=some (.frz o u)->H' b=some (.frz o u)) (tbls:∀b ps,H b=some (.tbl ps)->∃more,H' b=some (.tbl (ps++more)))
 (ns:∀m,s.heap.Ns X.env.locals m->h'.Ns X.env.locals m) (hok:HOk X.prog X.w H' h') (hg:AllBare g'):
 Inv X pins σ H' {s with heap:=h',gens:=g',drawn:=d',toks:=t'}:=by
 have neL:∀b o,X.s₀.heap.get? b=some o->b≠X.env.locals:=λb o e=>Nat.ne_of_lt (Nat.lt_of_lt_of_le (Heap.lt_size e) I.ok.above);have neC:∀b o,X.s₀.heap.get? b=some o->b∉X.ex->b∉ch:=λb o e hx hb=>by
  rcases(hch b hb).1 with z|z
  ·exact hx z
  ·exact absurd (Nat.lt_of_lt_of_le (Heap.lt_size e) z) (Nat.lt_irrefl _)
 have cellK:∀x c,X.env.cells.lookup x=some c->∀v,s.heap.IsCell c v->h'.IsCell c v:=λx c e v ⟨o,ho,hd⟩=>by
  have nch:c∉ch:=λz=>(hch c z).2.2.1 x c e rfl
  by_cases hc:c∈X.fs
  ·obtain⟨sl,q⟩:=slot c o (I.cne x c e) hc nch ho (I.freeC x c e);exact⟨_,q,hd⟩
  ·exact⟨o,keep c o (I.cne x c e) hc nch ho (I.freeC x c e),hd⟩
 refine⟨I.ok,I.os,hg,⟨λb o e n hb hx=>?_,λb o e n hb hx=>?_,λb o e n hx=>?_,λb o e hx=>?_,λb xs e=>tups b xs (I.base.tups b xs e),λb o xs e=>frzs b o xs (I.base.frzs b o xs e),λb ps e=>?_⟩,?_,λx c e=>?_,?_,λx c e=>?_,λp hp=>?_,hok,I.len⟩
 ·exact keep b o (neL b o e) hb (neC b o e hx) (I.base.keep b o e n hb hx) (I.base.free b o e n hx)
 ·obtain⟨sl,e1⟩:=I.base.slot b o e n hb hx;obtain⟨sl',e2⟩:=slot b _ (neL b o e) hb (neC b o e hx) e1 (I.base.free b o e n hx);exact⟨sl',e2⟩
 ·obtain⟨o',e1⟩:=I.base.there b o e hx;exact free b o' (neC b o e hx) e1 (I.base.free b o e n hx)
 ·obtain⟨o',e1⟩:=I.base.there b o e hx;exact there b o' (neC b o e hx) e1
 ·obtain⟨m1,e1⟩:=I.base.tbls b ps e;obtain⟨m2,e2⟩:=tbls b _ e1;exact⟨m1++m2,by rw[e2,Array.append_assoc]⟩
 ·obtain⟨m,hn,hl⟩:=I.loc;refine⟨m,ns m hn,λi x v e1 e2 e3=>?_⟩;obtain⟨u,r,l⟩:=hl i x v e1 e2 e3;refine⟨u,r,?_⟩;rcases l with l|⟨k,c,e,z⟩
  ·exact .inl l
  ·exact .inr ⟨k,c,e,cellK x c e _ z⟩
 ·obtain⟨v,z⟩:=I.cell x c e;exact⟨v,cellK x c e v z⟩
 ·obtain⟨m,⟨o,_,_,ho,_⟩,_⟩:=I.loc;exact free _ o (λz=>(hch _ z).2.1 rfl) ho I.free
 ·obtain⟨v,o,ho,hd⟩:=I.cell x c e;exact free c o (λz=>(hch c z).2.2.1 x c e rfl) ho (I.freeC x c e)
 ·obtain⟨e,n,ne,nf,d⟩:=I.pin p hp;have nch:p.1∉ch:=λz=>(hch p.1 z).2.2.2 p hp rfl;exact⟨keep p.1 p.2 ne nf nch e n,free p.1 p.2 nch e n,ne,nf,d⟩
theorem Inv.un{t':Nat}(I:Inv X pins σ H s)(u:Un X.fs [] H H' s.heap h')(hok:HOk X.prog X.w H' h'):Inv X pins σ H' {s with heap:=h',toks:=t'}:=by
 obtain⟨m,⟨o,es,ep,ho,r⟩,_⟩:=id I.loc;obtain⟨sl,hL⟩:=u.any ho I.free (by simp);exact I.step (g':=s.gens) (d':=s.drawn) (ch:=[]) (λ_ z=>nomatch z) (λb o _ hb _ e n=>u.keep b o e n hb (by simp)) (λb o _ hb _ e n=>u.slot b o e n hb (by simp)) (λb o _ e n=>u.free b o e n (by simp)) (λb o _ e=>u.there b o e (by simp)) u.tups u.frzs u.tbls (λm' hm=>by
  obtain⟨o',es',ep',ho',r'⟩:=hm;rw[ho]at ho';cases ho';exact⟨_,es',ep',hL,r'⟩) hok I.bare
theorem Inv.call{g':Array GenState}{t':Nat}{d':Drawn}{ch:List Addr}(I:Inv X pins σ H s)(u:Un (frs X.stack) ch H H' s.heap h')(hok:HOk X.prog X.w H' h')(hg:AllBare g')
 (hch:∀b∈ch,(b∈X.ex\/X.s₀.heap.objs.size<=b)/\b≠X.env.locals/\(∀x c,X.env.cells.lookup x=some c->c≠b)/\∀p∈X.pn++pins,p.1≠b):
 Inv X pins σ H' {s with heap:=h',gens:=g',drawn:=d',toks:=t'}:=by
 obtain⟨m,⟨o,es,ep,ho,r⟩,_⟩:=id I.loc;obtain⟨sl,hL⟩:=u.any ho I.free λz=>(hch _ z).2.1 rfl;exact I.step (ch:=ch) hch (λb o hL hb hc e n=>u.keep b o e n (λz=>(List.mem_cons.mp (I.stkSub b z)).elim hL hb) hc) (λb o _ _ hc e n=>u.any e n hc) (λb o hc e n=>u.free b o e n hc) (λb o hc e=>u.there b o e hc) u.tups u.frzs u.tbls (λm' hm=>by
  obtain⟨o',es',ep',ho',r'⟩:=hm;rw[ho]at ho';cases ho';exact⟨_,es',ep',hL,r'⟩) hok hg
theorem Inv.turned{t':Nat}{it:Addr}(I:Inv X pins σ H s)(k:∀b o,b≠it->s.heap.get? b=some o->h'.get? b=some o)(hn:H it=none)(hL:it≠X.env.locals)
 (h1:it∈X.ex\/X.s₀.heap.objs.size<=it) (h2:∀x c,X.env.cells.lookup x=some c->c≠it) (h3:∀p∈X.pn++pins,p.1≠it):Inv X pins σ H {s with heap:=h',toks:=t'}:=by
 have nit:∀b u,H b=some u->b≠it:=λb u e z=>by rw[z,hn]at e;cases e
 refine I.step (g':=s.gens) (d':=s.drawn) (ch:=[it]) (λb hb=>?_) (λb o _ _ hc e _=>k b o (λz=>hc (by simp[z])) e) (λb o _ _ hc e _=>⟨o.slots,k b o (λz=>hc (by simp[z])) e⟩) (λ_ _ _ _ n=>n)
  (λb o hc e=>⟨o,k b o (λz=>hc (by simp[z])) e⟩) (λ_ _ e=>e) (λ_ _ _ e=>e) (λb ps e=>⟨#[],by rw[e];simp⟩) (λm hm=>?_) ⟨λb u e=>?_,I.hok.sm,let⟨o,_,_,e,_⟩:=I.ok.mod.glob;⟨mainGlobals,o,by decide,k _ _ (λz=>by
    rcases h1 with q|q
    ·exact I.ok.noex _ _ e (z▸q)
    ·exact absurd (Nat.lt_of_lt_of_le (Heap.lt_size e) (Nat.le_trans I.ok.bsz q)) (by rw[z];exact Nat.lt_irrefl _)) (I.bk _ _ e)⟩⟩ I.bare
 ·have e:b=it:=by simpa using hb
  subst e;exact⟨h1,hL,h2,h3⟩
 ·obtain⟨o,es,ep,ho,r⟩:=hm;exact⟨o,es,ep,k _ o (Ne.symm hL) ho,r⟩
 ·refine(I.hok b u e).stay (λc v hc q=>k c v ?_ q) (λ_ q=>q) λ_ _ q=>q;rcases hc with z|z
  ·rw[z];exact nit b u e
  ·exact nit c _ z
theorem Inv.tok(I:Inv X pins σ H s)(t:Nat):Inv X pins σ H {s with toks:=t}:=I.un (h':=s.heap) (t':=t) Un.refl I.hok
theorem Inv.kept{t':Nat}(I:Inv X pins σ H s)(k:∀b u,s.heap.get? b=some u->h'.get? b=some u):Inv X pins σ H {s with heap:=h',toks:=t'}:=I.un (Un.kept k) (I.hok.kept k)
theorem Inv.laid{a:Addr}{o:HO}{t':Nat}(I:Inv X pins σ H s)(k:∀b u,s.heap.get? b=some u->h'.get? b=some u)(hp:s.heap.objs.size<=a)(new:ObjOk X.prog X.w (upd H a o) h' a o):
 Inv X pins σ (upd H a o) {s with heap:=h',toks:=t'}:=I.un (Un.laid k hp (I.hok.fresh hp)) (I.hok.laid k hp new)
theorem Inv.write{x e:Addr}{o:HO}{t':Nat}(I:Inv X pins σ H s)(mu:Mut (H x))(he:e=x\/H e=some (.own x))(k:∀b u,b≠e->s.heap.get? b=some u->h'.get? b=some u)(heo:∃u,h'.get? e=some u)
 (new:ObjOk X.prog X.w (upd H x o) h' x o):Inv X pins σ (upd H x o) {s with heap:=h',toks:=t'}:=I.un (Un.write mu he k heo) (I.hok.write mu he k heo new)
theorem Inv.weak{σ':List (Option V)}(I:Inv X pins σ H s)(hl:σ'.length=σ.length)(w:∀ (i:Nat) v,σ'[i]? =some (some v)->σ[i]? =some (some v)):Inv X pins σ' H s:=
 ⟨I.ok,I.os,I.bare,I.base,let⟨m,hn,hl'⟩:=I.loc;⟨m,hn,λi x v e1 e2 e3=>hl' i x v e1 (w i v e2) e3⟩,I.cell,I.free,I.freeC,I.pin,I.hok,hl.trans I.len⟩
theorem Inv.pins_of{pins':List (Addr×Obj)}(I:Inv X pins σ H s)(h:∀p∈pins',s.heap.get? p.1=some p.2/\H p.1=none/\p.1≠X.env.locals/\p.1∉X.fs/\∀v,p.2.data≠ .cell v):Inv X pins' σ H s:=
 ⟨I.ok,I.os,I.bare,I.base,I.loc,I.cell,I.free,I.freeC,λp hp=>(List.mem_append.mp hp).elim (λz=>I.pin p (List.mem_append_left _ z)) (h p),I.hok,I.len⟩
theorem zEy{N:List Str}(hN:N.Nodup){i j:Nat}{x:Str}(a:N[i]? =some x)(b:N[j]? =some x):i=j:=by
 obtain⟨h1,e1⟩:=List.getElem?_eq_some_iff.mp a;obtain⟨h2,e2⟩:=List.getElem?_eq_some_iff.mp b;exact(List.getElem_inj hN).mp (e1.trans e2.symm)
theorem zFG{M:Model}{A:Around}{E:Value->Shared->Prop}{i:Nat}{x:Str}{v:V}{u:Value}{Q:Unit->Shared->Prop}(I:Inv X pins σ H s)(hN:X.N.Nodup)(hi:X.N[i]? =some x)(hx:Loc X.env.scope x)(r:RelV v u)
 (h:∀s',Inv X pins (σ.set i (some v)) H s'->(∃a,Heap.SameBut a s.heap s'.heap/\(a=X.env.locals\/X.env.cells.lookup x=some a))->Q () s') (hf:X.fn x=true\/X.env.scope.names.lookup x=some .local:=by first|exact .inl rfl|exact .inr rfl|assumption):wpAny M A (storeName X.env x u) Q E s:=by
 obtain⟨m,hn,hl⟩:=id I.loc;have hcls:(X.env.scope.kind== .class||(X.env.scope.kind== .module&&X.env.locals !=X.env.globals))=false:=by rw[I.ok.kind];rfl
 have hiσ:i<σ.length:=by rw[I.len];exact(List.getElem?_eq_some_iff.mp hi).1
 have cne:=I.cne;have tracked:∀ {a:Addr} {h':Heap},(∃o,s.heap.get? a=some o/\H a=none)->Heap.SameBut a s.heap h'->(∃o',h'.get? a=some o')->HOk X.prog X.w H h':=fun{a h'} ha hs hz=>by
  refine⟨λb ob e=>?_,I.hok.sm,?_⟩
  rotate_left
  ·obtain⟨b,o,l,e⟩:=I.hok.bg
   by_cases hb:b=a
   ·obtain⟨v,hv⟩:=hz;exact⟨a,v,hb▸l,hv⟩
   ·exact⟨b,o,l,(hs.2 b hb).trans e⟩
  obtain⟨_,_,hfree⟩:=ha;refine(I.hok b ob e).stay (λc w' hc q=>(hs.2 c ?_).trans q) (λ_ q=>q) λ_ _ q=>q;rintro rfl;rcases hc with rfl|hc
  ·rw[hfree]at e;cases e
  ·rw[hfree]at hc;cases hc
 rcases hx with hk|hk
 ·refine wpAny_storeName_local hk hn (λh' hn' hs=>?_) hcls;obtain⟨oL,_,_,hoL,_⟩:=id hn;refine h _ ⟨I.ok,I.os,I.bare,⟨λb o e n hb hx=>?_,λb o e n hb hx=>?_,I.base.free,λb o e hx=>?_,I.base.tups,I.base.frzs,I.base.tbls⟩,⟨_,hn',λj y v' e1 e2 e3=>?_⟩,λy c e=>?_,I.free,I.freeC,λp hp=>?_,tracked ⟨oL,hoL,I.free⟩ hs (let⟨o,_,_,e,_⟩:=hn';⟨o,e⟩),by simpa using I.len⟩ ⟨_,hs, .inl rfl⟩
  ·exact(hs.2 b (Nat.ne_of_lt (Nat.lt_of_lt_of_le (Heap.lt_size e) I.ok.above))).trans (I.base.keep b o e n hb hx)
  ·obtain⟨sl,e1⟩:=I.base.slot b o e n hb hx;exact⟨sl,(hs.2 b (Nat.ne_of_lt (Nat.lt_of_lt_of_le (Heap.lt_size e) I.ok.above))).trans e1⟩
  ·obtain⟨o',e1⟩:=I.base.there b o e hx;exact⟨o',(hs.2 b (Nat.ne_of_lt (Nat.lt_of_lt_of_le (Heap.lt_size e) I.ok.above))).trans e1⟩
  ·by_cases hj:j=i
   ·subst hj;rw[hi]at e1;cases e1;rw[List.getElem?_set_self hiσ]at e2
    cases e2
    exact⟨u,r, .inl ⟨hk,by simp⟩⟩
   ·rw[List.getElem?_set_ne (Ne.symm hj)]at e2;obtain⟨u',r',q⟩:=hl j y v' e1 e2 e3;refine⟨u',r',?_⟩;rcases q with⟨k,e⟩|⟨k,c,e,z⟩
    ·refine .inl ⟨k,?_⟩;have:y≠x:=λe=>hj (zEy hN e1 (e▸hi));simp[this,e]
    ·exact .inr ⟨k,c,e,z.sameBut hs (cne y c e)⟩
  ·obtain⟨w',z⟩:=I.cell y c e;exact⟨w',z.sameBut hs (cne y c e)⟩
  ·obtain⟨e,n,ne,nf,d⟩:=I.pin p hp;exact⟨(hs.2 p.1 ne).trans e,n,ne,nf,d⟩
 ·have hfn:X.fn x=true:=by
   rcases hf with z|z
   ·exact z
   ·rw[z]at hk;cases hk
  obtain⟨c,hc⟩:=I.ok.has x (.inl hk);obtain⟨w',z⟩:=I.cell x c hc;refine wpAny_storeName_cell I.ok.kind hk hc z (λh' hc' hs=>?_);obtain⟨oc,hoc,hocd⟩:=id z;refine h {s with heap:=h'} ⟨I.ok,I.os,I.bare,⟨λb o e n hb hx=>?_,λb o e n hb hx=>?_,I.base.free,λb o e hx=>?_,I.base.tups,I.base.frzs,I.base.tbls⟩,⟨m,hn.sameBut hs (Ne.symm (cne x c hc)),λj y v' e1 e2 e3=>?_⟩,λy c' e=>?_,I.free,I.freeC,λp hp=>?_,tracked ⟨oc,hoc,I.freeC x c hc⟩ hs (let⟨o,e,_⟩:=hc';⟨o,e⟩),by simpa using I.len⟩ ⟨c,hs, .inr hc⟩
  ·exact(hs.2 b (Nat.ne_of_lt (Nat.lt_of_lt_of_le (Heap.lt_size e) (I.ok.cab x c hfn hc)))).trans (I.base.keep b o e n hb hx)
  ·obtain⟨sl,e1⟩:=I.base.slot b o e n hb hx;exact⟨sl,(hs.2 b (Nat.ne_of_lt (Nat.lt_of_lt_of_le (Heap.lt_size e) (I.ok.cab x c hfn hc)))).trans e1⟩
  ·obtain⟨o',e1⟩:=I.base.there b o e hx;exact⟨o',(hs.2 b (Nat.ne_of_lt (Nat.lt_of_lt_of_le (Heap.lt_size e) (I.ok.cab x c hfn hc)))).trans e1⟩
  ·by_cases hj:j=i
   ·subst hj;rw[hi]at e1;cases e1;rw[List.getElem?_set_self hiσ]at e2
    cases e2
    exact⟨u,r, .inr ⟨.inl hk,c,hc,hc'⟩⟩
   ·rw[List.getElem?_set_ne (Ne.symm hj)]at e2;obtain⟨u',r',q⟩:=hl j y v' e1 e2 e3;refine⟨u',r',?_⟩;rcases q with q|⟨k,c',e,z'⟩
    ·exact .inl q
    ·refine .inr ⟨k,c',e,z'.sameBut hs ?_⟩;rintro rfl;exact hj (zEy hN e1 (I.ok.inj _ _ _ e hc▸hi))
  ·by_cases hcc:c'=c
   ·subst hcc;exact⟨_,hc'⟩
   ·obtain⟨w2,z2⟩:=I.cell y c' e;exact⟨w2,z2.sameBut hs hcc⟩
  ·obtain⟨e,n,ne,nf,d⟩:=I.pin p hp;refine⟨(hs.2 p.1 ?_).trans e,n,ne,nf,d⟩;intro q;rw[q,hoc]at e;have q':oc=p.2:=Option.some.inj e;exact d w' (by rw[<-q'];exact hocd)
theorem zCQ{M:Model}{A:Around}{E:Value->Shared->Prop}{i:Nat}{x:Str}{v:V}{u:Value}{Q:Unit->Shared->Prop}(I:Inv X pins σ H s)(hN:X.N.Nodup)(hi:X.N[i]? =some x)(hx:Loc X.env.scope x)(r:RelV v u)
 (h:∀s',Inv X pins (σ.set i (some v)) H s'->Q () s') (hf:X.fn x=true\/X.env.scope.names.lookup x=some .local:=by first|exact .inl rfl|exact .inr rfl|assumption):wpAny M A (storeName X.env x u) Q E s:=
 zFG I hN hi hx r (λs' I' _=>h s' I') hf
theorem Inv.call'{s':Shared}{ch:List Addr}(I:Inv X pins σ H s)(ho:s'.os=s.os)(u:Un (frs X.stack) ch H H' s.heap s'.heap)(hok:HOk X.prog X.w H' s'.heap)(hg:AllBare s'.gens)
 (hch:∀b∈ch,(b∈X.ex\/X.s₀.heap.objs.size<=b)/\b≠X.env.locals/\(∀x c,X.env.cells.lookup x=some c->c≠b)/\∀p∈X.pn++pins,p.1≠b):Inv X pins σ H' s':=by
 obtain⟨h',g',d',t',o'⟩:=s';have e:o'=s.os:=ho;subst e;exact I.call (g':=g') (t':=t') (d':=d') u hok hg hch
end
abbrev XK:=Value->Option Addr->Hp->Prop
abbrev St:=List (Option V)
abbrev VK:=V->Hp->Prop
abbrev TE:=St->Hp->VK->Prop
abbrev TT:=St->Hp->(Bool->Hp->Prop)->Prop
abbrev TA:=St->Hp->(List V->Hp->Prop)->Prop
structure Ends where
 nx:St->Hp->Prop
 rt:VK
 bk:St->Hp->Prop:=λ_ _=>False
 ct:St->Hp->Prop:=λ_ _=>False
abbrev TS:=Ends->St->Hp->Prop
def EP(X:Cx)(pins:List (Addr×Obj))(σ:St)(Q:VK)(u:Value)(s':Shared):Prop:=∃v H',Inv X pins σ H' s'/\RelV v u/\Q v H'
def TP(X:Cx)(pins:List (Addr×Obj))(σ:St)(Q:Bool->Hp->Prop)(b:Bool)(s':Shared):Prop:=∃H',Inv X pins σ H' s'/\Q b H'
def AP(X:Cx)(pins:List (Addr×Obj))(σ:St)(Q:List V->Hp->Prop)(us:List Value)(s':Shared):Prop:=∃vs H',Inv X pins σ H' s'/\Vals vs us/\Q vs H'
def SP(X:Cx)(pins:List (Addr×Obj))(D:Ends)(f:Flow)(s':Shared):Prop:=
 match f with
 | .next=>∃σ' H',Inv X pins σ' H' s'/\D.nx σ' H'
 | .brk=>∃σ' H',Inv X pins σ' H' s'/\D.bk σ' H'
 | .cont=>∃σ' H',Inv X pins σ' H' s'/\D.ct σ' H'
 | .ret u=>∃v σ' H',Inv X pins σ' H' s'/\RelV v u/\D.rt v H'
def PE(X:Cx)(e:Expr)(t:TE):Prop:=
 ∀ (pins:List (Addr×Obj)) (s:Shared) (σ:St) (H:Hp) (Q:VK),Inv X pins σ H s->t σ H Q->wpAny (model X.prog X.w) X.A (eval e X.env) (EP X pins σ Q) X.xe s
def PT(X:Cx)(e:Expr)(t:TT):Prop:=
 ∀ (pins:List (Addr×Obj)) (s:Shared) (σ:St) (H:Hp) (Q:Bool->Hp->Prop),Inv X pins σ H s->t σ H Q->wpAny (model X.prog X.w) X.A (isTrue e X.env (eval e X.env)) (TP X pins σ Q) X.xe s
def PW(X:Cx)(e:Expr)(t:TT):Prop:=
 ∀ (whole:Sem Value) (pins:List (Addr×Obj)) (s:Shared) (σ:St) (H:Hp) (Q:Bool->Hp->Prop),Inv X pins σ H s->t σ H Q->wpAny (model X.prog X.w) X.A (isTrue e X.env whole) (TP X pins σ Q) X.xe s
theorem PW.pt{X:Cx}{e:Expr}{t:TT}(h:PW X e t):PT X e t:=h _
def PA(X:Cx)(es:List Expr)(t:TA):Prop:=
 ∀ (pos:Pos) (pins:List (Addr×Obj)) (s:Shared) (σ:St) (H:Hp) (Q:List V->Hp->Prop),Inv X pins σ H s->t σ H Q->wpAny (model X.prog X.w) X.A (spliced (backTo pos (starEach es X.env))) (AP X pins σ Q) X.xe s
def PS(X:Cx)(st:Stmt)(t:TS):Prop:=
 ∀ (pins:List (Addr×Obj)) (s:Shared) (σ:St) (H:Hp) (D:Ends),Inv X pins σ H s->t D σ H->wpAny (model X.prog X.w) X.A (exec st X.env) (SP X pins D) X.xe s
def PSs(X:Cx)(st:List Stmt)(t:TS):Prop:=
 ∀ (pins:List (Addr×Obj)) (s:Shared) (σ:St) (H:Hp) (D:Ends),Inv X pins σ H s->t D σ H->wpAny (model X.prog X.w) X.A (execs st X.env) (SP X pins D) X.xe s
theorem thn{α:Type}{t:Sem α}{Q Q':α->Shared->Prop}{M:Model}{A:Around}{E:Value->Shared->Prop}{s:Shared}(h:wpAny M A t Q E s)(hQ:∀a s,Q a s->Q' a s):wpAny M A t Q' E s:=wpAny_mono h hQ λ_ _ x=>x
section
variable{X:Cx}
def tVar(i:Nat):TE:=λσ H Q=>∃v,σ[i]? =some (some v)/\Q v H
def tC(v:V):TE:=λ_ H Q=>Q v H
theorem zMu{i:Nat}{x:Str}{pos:Pos}(hN:X.N[i]? =some x)(hv:Vis X.env.scope x)(hd:(x==("__debug__":Str))=false:=by decide)(hcd:(x==("__classdict__":Str))=false:=by decide):PE X (.Name x pos) (tVar i):=by
 intro pins s σ H Q I h;obtain⟨v,e,h⟩:=h;obtain⟨m,hn,hl⟩:=I.loc;obtain⟨u,r,l⟩:=hl i x v hN e hv;have fin:EP X pins σ Q u s:=⟨v,H,I,r,h⟩;rcases l with⟨hk,hm⟩|⟨hk,c,hc,hcell⟩
 ·exact wpAny_Name (wpAny_loadName_local I.ok.kind hk hn hm fin) hd
 ·rcases hk with hk|hk
  ·exact wpAny_Name (wpAny_loadName_cell I.ok.kind hk hc hcell fin) hd
  ·exact wpAny_Name (wpAny_loadName_free I.ok.kind hk hc hcell fin hcd) hd
theorem zAD{i j pos}:PE X (.Constant (.int i) j pos) (tC (.int i)):=λ_ _ _ H _ I h=>wpAny_Constant_int ⟨.int i,H,I.tok _,⟨_,rfl⟩,h⟩
theorem zDv{b j pos}:PE X (.Constant (.bool b) j pos) (tC (.bl b)):=λ_ _ _ H _ I h=>Constant_bool ⟨.bl b,H,I,rfl,h⟩
theorem zAu{j pos}:PE X (.Constant .none j pos) (tC .non):=λ_ _ _ H _ I h=>Constant_none ⟨.non,H,I,rfl,h⟩
theorem zMv{x j pos}:PE X (.Constant (.str x) j pos) (tC (.str x)):=λ_ _ _ H _ I h=>Calls.Constant_str ⟨.str x,H,I.tok _,⟨_,rfl⟩,h⟩
def Gl(X:Cx)(x:Str):Prop:=X.env.kindOf x=some .globalImplicit
theorem zDy{E:Value->Shared->Prop}{pins:List (Addr×Obj)}{s:Shared}{σ:St}{H:Hp}{x:Str}{u:Value}{pos:Pos}{Q:Value->Shared->Prop}(I:Inv X pins σ H s)(hg:Gl X x)(hm:X.mg x=some u)(h:Q u s)
 (hd:(x==("__debug__":Str))=false:=by decide):wpAny (model X.prog X.w) X.A (eval (.Name x pos) X.env) Q E s:=
 Calls.Name_function_global I.ok.kind hg (Calls.loadGlobal_global (by rw[I.ok.glob];exact I.mod.glob.keeps I.bk) hm h) hd
theorem zDz{E:Value->Shared->Prop}{pins:List (Addr×Obj)}{s:Shared}{σ:St}{H:Hp}{x:Str}{u:Value}{pos:Pos}{Q:Value->Shared->Prop}(I:Inv X pins σ H s)(hg:Gl X x)(hm:X.mg x=none)(hv:bootBuiltins x=some u)(h:Q u s)
 (hn:x≠"__name__":=by decide) (hd:(x==("__debug__":Str))=false:=by decide):wpAny (model X.prog X.w) X.A (eval (.Name x pos) X.env) Q E s:=by
 obtain⟨mb,h1,h2⟩:=I.mod.blt;exact Calls.Name_function_global I.ok.kind hg (Calls.loadGlobal_builtin (by rw[I.ok.glob];exact I.mod.glob.keeps I.bk) hm (by rw[I.ok.blt];exact h1.keeps I.bk) ((h2 x hn).trans hv) h) hd
theorem zLc{x:Str}{v:V}{u:Value}{pos:Pos}(hg:Gl X x)(hm:X.mg x=some u)(r:RelV v u)(hd:(x==("__debug__":Str))=false:=by decide):PE X (.Name x pos) (tC v):=
 λ_ _ _ H _ I h=>zDy I hg hm ⟨v,H,I,r,h⟩ hd
theorem zLe{x:Str}{v:V}{u:Value}{pos:Pos}(hg:Gl X x)(hm:X.mg x=none)(hv:bootBuiltins x=some u)(r:RelV v u)(hn:x≠"__name__":=by decide)(hd:(x==("__debug__":Str))=false:=by decide):PE X (.Name x pos) (tC v):=
 λ_ _ _ H _ I h=>zDz I hg hm hv ⟨v,H,I,r,h⟩ hn hd
variable{a b:Expr}{ta tb:TE}{pos:Pos}
def PC(X:Cx)(op:CmpOp)(a b:Expr)(t:TE):Prop:=
 ∀ (pins:List (Addr×Obj)) (s:Shared) (σ:St) (H:Hp) (Q:VK),Inv X pins σ H s->t σ H Q->
   wpAny (model X.prog X.w) X.A (eval a X.env) (λv s₁=>wpAny (model X.prog X.w) X.A (eval b X.env) (λu s₂=>wpAny (model X.prog X.w) X.A (compareOp op v u) (EP X pins σ Q) X.xe s₂) X.xe s₁) X.xe s
def tB(t:TE):TT:=λσ H Q=>t σ H λx H1=>∃c,x= .bl c/\Q c H1
theorem zKd{op:CmpOp}{t:TE}(h:PC X op a b t)(h1:behindInMarks op b=false:=by first|exact nobehind _ (by decide) (by decide)|rfl):PE X (.Compare a [op] [b] pos) t:=λpins s σ H Q I hw=>wpAny_Compare1 (h pins s σ H Q I hw) h1
theorem zMl{op:CmpOp}{t:TE}(h:PC X op a b t)(h1:behindInMarks op b=false:=by first|exact nobehind _ (by decide) (by decide)|rfl):PT X (.Compare a [op] [b] pos) (tB t):=by
 intro pins s σ H Q I hw;refine wpAny_isTrue_Compare1 (thn (h pins s σ H _ I hw) λv s1 h1=>thn h1 λu s2 h2=>thn h2 λc s3 ⟨x,H1,I1,r1,q1⟩=>?_) h1;obtain⟨d,rfl,q⟩:=q1
 cases r1
 exact wpAny_truthy_bool ⟨H1,I1,q⟩
variable{tA tB':TT}{rest:List Expr}
def tAnd(t u:TT):TT:=λσ H Q=>t σ H λc H1=>if c=true then u σ H1 Q else Q false H1
def tOr(t u:TT):TT:=λσ H Q=>t σ H λc H1=>if c=true then Q true H1 else u σ H1 Q
def tNot(t:TT):TT:=λσ H Q=>t σ H λc H1=>Q (!c) H1
theorem zCg(ha:PT X a tA):PW X (.BoolOp .And [a] pos) tA:=by
 intro wh pins s σ H Q I h;refine isTrue_and (thn (ha pins s σ H Q I h) λc s1 e=>?_)
 cases c with
 |true=>exact isTrue_and_nil e
 |false=>exact e
theorem zA8(ha:PT X a tA):PW X (.BoolOp .Or [a] pos) tA:=by
 intro wh pins s σ H Q I h;refine isTrue_or (thn (ha pins s σ H Q I h) λc s1 e=>?_)
 cases c with
 |false=>exact isTrue_or_nil e
 |true=>exact e
theorem zDS(ha:PT X a tA)(hb:PW X (.BoolOp .And (b::rest) pos) tB'):PW X (.BoolOp .And (a::b::rest) pos) (tAnd tA tB'):=by
 intro wh pins s σ H Q I h;refine isTrue_and (thn (ha pins s σ H _ I h) λc s1 ⟨H1,I1,q1⟩=>?_)
 cases c with
 |true=>exact hb wh pins s1 σ H1 Q I1 q1
 |false=>exact⟨H1,I1,q1⟩
theorem zBO(ha:PT X a tA)(hb:PW X (.BoolOp .Or (b::rest) pos) tB'):PW X (.BoolOp .Or (a::b::rest) pos) (tOr tA tB'):=by
 intro wh pins s σ H Q I h;refine isTrue_or (thn (ha pins s σ H _ I h) λc s1 ⟨H1,I1,q1⟩=>?_)
 cases c with
 |true=>exact⟨H1,I1,q1⟩
 |false=>exact hb wh pins s1 σ H1 Q I1 q1
theorem zAt(ha:PT X a tA):PT X (.UnaryOp .Not a pos) (tNot tA):=by
 intro pins s σ H Q I h;exact isTrue_not (ha pins s σ H (λc H1=>Q (!c) H1) I h)
def tAndV(ta tb:TE):TE:=λσ H Q=>ta σ H λx H1=>∃c,x= .bl c/\if c=true then tb σ H1 Q else Q (.bl false) H1
def tNotV(ta:TE):TE:=λσ H Q=>ta σ H λx H1=>∃c,x= .bl c/\Q (.bl (!c)) H1
theorem zDT{op}{t:TE}(h:PE X a t):PE X (.BoolOp op [a] pos) t:=λpins s σ H Q I hw=>BoolOp_one (h pins s σ H Q I hw)
theorem zDU(ha:PE X a ta)(hb:PE X (.BoolOp .And (b::rest) pos) tb):PE X (.BoolOp .And (a::b::rest) pos) (tAndV ta tb):=by
 intro pins s σ H Q I h;refine BoolOp_and (thn (ha pins s σ H _ I h) λv s1 ⟨x,H1,I1,r1,q1⟩=>?_);obtain⟨c,rfl,q1⟩:=q1
 cases r1
 refine wpAny_truthy_bool ?_
 cases c with
 |true=>exact hb pins s1 σ H1 Q I1 q1
 |false=>exact⟨.bl false,H1,I1,rfl,q1⟩
theorem zMw(ha:PE X a ta):PE X (.UnaryOp .Not a pos) (tNotV ta):=by
 intro pins s σ H Q I h;refine UnaryOp_ (thn (ha pins s σ H _ I h) λv s1 ⟨x,H1,I1,r1,q1⟩=>?_);obtain⟨c,rfl,q1⟩:=q1
 cases r1
 exact not_of (wpAny_truthy_bool ⟨.bl (!c),H1,I1,rfl,q1⟩)
def tIf(t:TT)(ta tb:TE):TE:=λσ H Q=>t σ H λc H1=>if c=true then ta σ H1 Q else tb σ H1 Q
theorem zCq{c:Expr}(hc:PT X c tA)(ha:PE X a ta)(hb:PE X b tb):PE X (.IfExp c a b pos) (tIf tA ta tb):=by
 intro pins s σ H Q I h;refine wpAny_IfExp (thn (hc pins s σ H _ I h) λd s1 ⟨H1,I1,q1⟩=>?_)
 cases d with
 |true=>exact ha pins s1 σ H1 Q I1 q1
 |false=>exact hb pins s1 σ H1 Q I1 q1
end
def SqL(K:PySem.W.Frag)(H:Hp)(a:Addr)(xs:List V):Prop:=
 Rd H a (.lst xs)\/
  ∃ (o:Obj) (its:Array Value) (n:Nat),K.lookup a=some o/\o.cls= .type "list"/\o.dict=none/\o.data= .seq its n/\its.size<=sizeLine/\Vals xs its.toList
def SqT(K:PySem.W.Frag)(H:Hp)(a:Addr)(xs:List V):Prop:=
 Rd H a (.tup xs)\/
  ∃ (o:Obj) (its:Array Value) (n:Nat),K.lookup a=some o/\o.cls= .type "tuple"/\o.data= .seq its n/\its.size<=sizeLine/\Vals xs its.toList
def absV:Value->Option V
 | .none=>some .non
 | .bool b=>some (.bl b)
 | .int i _=>some (.int i)
 | .str x _=>some (.str x)
 | .bytes b _=>some (.byt b)
 | .float b _=>some (.flt b)
 | .ref a=>some (.ref a)
 | .type n=>some (.ty n)
 |_=>none
theorem RelV.abs{x:V}{u:Value}(r:RelV x u):absV u=some x:=by
 cases x with
 |non=>cases r;rfl
 |bl _=>cases r;rfl
 |int _=>obtain⟨t,rfl⟩:=r;rfl
 |str _=>obtain⟨t,rfl⟩:=r;rfl
 |byt _=>obtain⟨t,rfl⟩:=r;rfl
 |flt _=>obtain⟨t,rfl⟩:=r;rfl
 |ref _=>cases r;rfl
 |ty _=>cases r;rfl
theorem RelV.inj{x y:V}{u:Value}(r:RelV x u)(q:RelV y u):x=y:=Option.some.inj (r.abs.symm.trans q.abs)
theorem Vals.inj:∀ {xs ys:List V} {us:List Value},Vals xs us->Vals ys us->xs=ys
 |_,_,_, .nil, .nil=>rfl
 |_,_,_, .cons r t, .cons r' t'=>by rw[r.inj r',Vals.inj t t']
section
variable{X:Cx}{pins:List (Addr×Obj)}{σ:St}{H:Hp}{s:Shared}{a:Addr}{xs ys:List V}
theorem SqL.of{K:PySem.W.Frag}(h:H a=some (.lst xs)):SqL K H a xs:= .inl (.inl h)
theorem SqT.of{K:PySem.W.Frag}(h:H a=some (.tup xs)):SqT K H a xs:= .inl (.inl h)
theorem Inv.list(I:Inv X pins σ H s)(h:SqL X.K H a xs):∃its:List Value,Vals xs its/\PlainL s.heap a its.toArray/\xs.length<=sizeLine:=by
 rcases h with h|⟨o,its,n,hk,hc,hd,hs,hz,r⟩
 ·obtain⟨z,its,n,r,e⟩:=h.ok I.hok;exact⟨its,r,⟨_,n,e,rfl,rfl,rfl⟩,z⟩
 ·refine⟨its.toList,r,⟨o,n,I.kIn a o hk,hc,hd,by simpa using hs⟩,?_⟩;have e:=r.length;simp only[Array.length_toList]at e;omega
theorem Inv.tuple(I:Inv X pins σ H s)(h:SqT X.K H a xs):∃its:List Value,Vals xs its/\IsTup s.heap a its.toArray/\xs.length<=sizeLine:=by
 rcases h with h|⟨o,its,n,hk,hc,hs,hz,r⟩
 ·obtain⟨z,its,r,p⟩:=h.ok I.hok;exact⟨its,r,p,z⟩
 ·refine⟨its.toList,r,⟨o,I.kIn a o hk,hc,n,by simpa using hs⟩,?_⟩;have e:=r.length;simp only[Array.length_toList]at e;omega
theorem Inv.list_inj(I:Inv X pins σ H s)(h:SqL X.K H a xs)(h':SqL X.K H a ys):xs=ys:=by
 obtain⟨its,r,⟨o,n,e,_,_,d⟩,_⟩:=I.list h;obtain⟨its',r',⟨o',n',e',_,_,d'⟩,_⟩:=I.list h';rw[e]at e';cases e';rw[d]at d';injection d' with d1 _
 have:its=its':=by simpa using congrArg Array.toList d1
 subst this;exact r.inj r'
end
abbrev Cx.wish(X:Cx)(E:Value->Shared->Prop):Cx:={X with xe:=E}
abbrev Cx.nox(X:Cx):Cx:=X.wish λ_ _=>False
theorem Cx.Ok.wish{X:Cx}(ok:X.Ok)(E:Value->Shared->Prop):(X.wish E).Ok:=
 ⟨ok.mod,ok.kind,ok.glob,ok.blt,ok.above,ok.inj,ok.has,ok.cab,ok.hd,ok.frames,ok.stk,ok.exf,ok.bs,ok.bsz,ok.noex,ok.exfs,ok.funs,ok.frf⟩
theorem Cx.Ok.unwish{X:Cx}{E:Value->Shared->Prop}(ok:(X.wish E).Ok):X.Ok:=
 ⟨ok.mod,ok.kind,ok.glob,ok.blt,ok.above,ok.inj,ok.has,ok.cab,ok.hd,ok.frames,ok.stk,ok.exf,ok.bs,ok.bsz,ok.noex,ok.exfs,ok.funs,ok.frf⟩
section
variable{X:Cx}{pins:List (Addr×Obj)}{σ:St}{H:Hp}{s:Shared}{E:Value->Shared->Prop}
theorem Inv.wish(I:Inv X pins σ H s)(E:Value->Shared->Prop):Inv (X.wish E) pins σ H s:=⟨I.ok.wish E,I.os,I.bare,I.base,I.loc,I.cell,I.free,I.freeC,I.pin,I.hok,I.len⟩
theorem Inv.unwish(I:Inv (X.wish E) pins σ H s):Inv X pins σ H s:=⟨I.ok.unwish,I.os,I.bare,I.base,I.loc,I.cell,I.free,I.freeC,I.pin,I.hok,I.len⟩
theorem SP.unwish{D:Ends}{f:Flow}{s':Shared}(h:SP (X.wish E) pins D f s'):SP X pins D f s':=by
 cases f with
 |next=>obtain⟨σ',H',I,q⟩:=h;exact⟨σ',H',I.unwish,q⟩
 |brk=>obtain⟨σ',H',I,q⟩:=h;exact⟨σ',H',I.unwish,q⟩
 |cont=>obtain⟨σ',H',I,q⟩:=h;exact⟨σ',H',I.unwish,q⟩
 |ret u=>obtain⟨v,σ',H',I,r,q⟩:=h;exact⟨v,σ',H',I.unwish,r,q⟩
theorem PSs.nox{st:List Stmt}{t:TS}(h:PSs X.nox st t):PSs X st t:=λpins s σ H D I hw=>
 wpAny_mono (h pins s σ H D (I.wish _) hw) (λ_ _ q=>q.unwish) λ_ _ z=>False.elim z
end
section
variable{X:Cx}{st:Stmt}{rest:List Stmt}{t u:TS}{e:Expr}{te:TE}{pos:Pos}
def tNext:TS:=λD σ H=>D.nx σ H
def tSeq(t u:TS):TS:=λD σ H=>t {D with nx:=u D} σ H
theorem zAT:PSs X [] tNext:=λ_ _ σ H _ I h=>wpAny_execs_nil ⟨σ,H,I,h⟩
theorem zAC(h1:PS X st t)(h2:PSs X rest u):PSs X (st::rest) (tSeq t u):=by
 intro pins s σ H D I h;refine wpAny_execs_cons (thn (h1 pins s σ H {D with nx:=u D} I h) λf s1 q=>?_)
 cases f with
 |next=>
  obtain⟨σ',H',I',q⟩:=q;exact h2 pins s1 σ' H' D I' q
 |ret v=>exact q
 |brk=>exact q
 |cont=>exact q
theorem zAE(h1:PS X st t):PSs X [st] t:=by
 intro pins s σ H D I h;refine wpAny_execs_cons (thn (h1 pins s σ H D I h) λf s1 q=>?_)
 cases f with
 |next=>exact wpAny_execs_nil q
 |ret v=>exact q
 |brk=>exact q
 |cont=>exact q
def tCont:TS:=λD σ H=>D.ct σ H
theorem zF9:PS X (.Continue pos) tCont:=λ_ _ σ H _ I h=>wpAny_Continue ⟨σ,H,I,h⟩
theorem Inv.quiet{pins:List (Addr×Obj)}{σ:St}{H:Hp}{s:Shared}(I:Inv X pins σ H s):interactive X.env=false:=by simp[interactive,I.ok.kind]
def tDrop(te:TE):TS:=λD σ H=>te σ H λ_ H1=>D.nx σ H1
theorem zAj(he:PE X e te)(hs:swapsWith e none pos.line X.env=pure false:=by rfl):PS X (.Expr e pos) (tDrop te):=by
 intro pins s σ H D I h;exact wpAny_Expr_any (thn (he pins s σ H _ I h) λv s1 ⟨x,H1,I1,r1,q1⟩=>⟨σ,H1,I1,q1⟩) I.quiet hs
def tRet(te:TE):TS:=λD σ H=>te σ H D.rt
theorem zAU(he:PE X e te):PS X (.Return (some e) pos) (tRet te):=by
 intro pins s σ H D I h;exact wpAny_Return_some (thn (he pins s σ H _ I h) λv s1 ⟨x,H1,I1,r1,q1⟩=>⟨x,σ,H1,I1,r1,q1⟩)
def tIfS(c:TT)(t u:TS):TS:=λD σ H=>c σ H λb H1=>if b=true then t D σ H1 else u D σ H1
theorem zAh{c:Expr}{a b:List Stmt}{tc:TT}(hc:PT X c tc)(ha:PSs X a t)(hb:PSs X b u):PS X (.If c a b pos) (tIfS tc t u):=by
 intro pins s σ H D I h;refine wpAny_If (thn (hc pins s σ H _ I h) λd s1 ⟨H1,I1,q1⟩=>?_)
 cases d with
 |true=>exact ha pins s1 σ H1 D I1 q1
 |false=>exact hb pins s1 σ H1 D I1 q1
def tNever:TS:=λ_ _ _=>False
theorem zBs:PS X st tNever:=λ_ _ _ _ _ _ h=>h.elim
end
abbrev TG:=V->St->Hp->(St->Hp->Prop)->Prop
abbrev TGs:=List V->St->Hp->(St->Hp->Prop)->Prop
def PG(X:Cx)(target:Expr)(t:TG):Prop:=
 ∀ (pins:List (Addr×Obj)) (s:Shared) (σ:St) (H:Hp) (v:V) (u:Value) (Q:St->Hp->Prop),Inv X pins σ H s->RelV v u->t v σ H Q->
   wpAny (model X.prog X.w) X.A (assign target X.env u) (λ_ s'=>∃σ' H',Inv X pins σ' H' s'/\Q σ' H') X.xe s
def PGs(X:Cx)(ts:List Expr)(t:TGs):Prop:=
 ∀ (pins:List (Addr×Obj)) (s:Shared) (σ:St) (H:Hp) (vs:List V) (us:List Value) (Q:St->Hp->Prop),Inv X pins σ H s->Vals vs us->t vs σ H Q->
   wpAny (model X.prog X.w) X.A (assignInOrder ((assignEach ts X.env).map (·.2)) us) (λ_ s'=>∃σ' H',Inv X pins σ' H' s'/\Q σ' H') X.xe s
abbrev TSet:=V->V->V->Hp->(Hp->Prop)->Prop
def PSet(X:Cx)(t:TSet):Prop:=
 ∀ (pins:List (Addr×Obj)) (s:Shared) (σ:St) (H:Hp) (o i v:V) (ov iv u:Value) (Q:Hp->Prop),Inv X pins σ H s->RelV o ov->RelV i iv->RelV v u->t o i v H Q->
   wpAny (model X.prog X.w) X.A (setItem ov iv u) (λ_ s'=>∃H',Inv X pins σ H' s'/\Q H') X.xe s
abbrev TIp:=V->V->Hp->VK->Prop
def PIp(X:Cx)(op:Operator)(t:TIp):Prop:=
 ∀ (pins:List (Addr×Obj)) (s:Shared) (σ:St) (H:Hp) (x y:V) (v u:Value) (Q:VK),Inv X pins σ H s->RelV x v->RelV y u->t x y H Q->
   wpAny (model X.prog X.w) X.A (inplaceOp op v u) (EP X pins σ Q) X.xe s
section
variable{X:Cx}{pos:Pos}
def gName(i:Nat):TG:=λv σ H Q=>Q (σ.set i (some v)) H
theorem zAR{i:Nat}{x:Str}(hN:X.N.Nodup)(hi:X.N[i]? =some x)(hx:Loc X.env.scope x)(hf:X.fn x=true\/X.env.scope.names.lookup x=some .local:=by first|exact .inl rfl|exact .inr rfl|assumption):PG X (.Name x pos) (gName i):=by
 intro pins s σ H v u Q I r h;exact wpAny_assign_Name (zCQ I hN hi hx r (λs' I'=>⟨_,H,I',h⟩) hf)
def gNil:TGs:=λvs σ H Q=>vs=[]/\Q σ H
def gCons(t:TG)(u:TGs):TGs:=λvs σ H Q=>∃v r,vs=v::r/\t v σ H λσ' H'=>u r σ' H' Q
theorem zEq:PGs X [] gNil:=by
 intro pins s σ H vs us Q I r h;obtain⟨e,h⟩:=h;subst e
 cases r
 exact assignInOrder_nil ⟨σ,H,I,h⟩
theorem zBf{e:Expr}{es:List Expr}{t:TG}{u:TGs}(h1:PG X e t)(h2:PGs X es u)
 (hs:(assignEach (e::es) X.env).map (·.2)=assign e X.env::(assignEach es X.env).map (·.2):=by rfl):PGs X (e::es) (gCons t u):=by
 intro pins s σ H vs us Q I r h;obtain⟨v,vr,e1,h⟩:=h;subst e1
 cases r with
 |cons r rr=>
  rw[hs];refine assignInOrder_cons (thn (h1 pins s σ H _ _ _ I r h) λ_ s1 ⟨σ1,H1,I1,q1⟩=>?_);exact h2 pins s1 σ1 H1 _ _ Q I1 rr q1
def gTup(K:PySem.W.Frag)(n:Nat)(t:TGs):TG:=λv σ H Q=>∃a xs,v= .ref a/\SqT K H a xs/\xs.length=n/\t xs σ H Q
theorem zMt{es:List Expr}{k:Nat}{t:TGs}{n:Nat}(hc:X.calm=true)(h:PGs X es t)
 (hn:(assignEach es X.env).length=n:=by rfl) (hst:(assignEach es X.env).findIdx? (·.1)=none:=by rfl):PG X (.Tuple es k pos) (gTup X.K n t):=by
 intro pins s σ H v u Q I r hw;obtain⟨a,xs,e1,hq,hl,hw⟩:=hw;subst e1
 cases r
 obtain⟨its,rv,ht,hz⟩:=I.tuple hq;refine assign_Tuple_tuple (I.ok.hd hc) ht (by simp[hn,<-hl,rv.length]) hst λh' hx=>?_;have I1:Inv X pins σ H {s with heap:=h'}:=I.kept (t':=s.toks) λb o e=>hx b o (Nat.ne_of_lt (Heap.lt_size e)) e;exact h pins _ σ H xs _ Q I1 (by simpa using rv) hw
def gSub(to ti:TE)(t:TSet):TG:=λv σ H Q=>to σ H λo H1=>ti σ H1 λi H2=>t o i v H2 λH3=>Q σ H3
theorem zCb{o i:Expr}{to ti:TE}{t:TSet}(ho:PE X o to)(hi:PE X i ti)(hs:PSet X t)
 (ha:∀v,assign (.Subscript o i pos) X.env v=(do
   let ov<-holding [v] (eval o X.env)
   let iv<-holding [v,ov] (eval i X.env)
   standAt pos
   holding [v,ov,iv] (setItem ov iv v)
   release [v,ov,iv] []):=by intro _;rfl):PG X (.Subscript o i pos) (gSub to ti t):=by
 intro pins s σ H v u Q I r h;rw[ha];refine wpAny_bind (wpAny_holding (thn (ho pins s σ H _ I h) λov s1 ⟨x,H1,I1,r1,q1⟩=>?_));refine wpAny_bind (wpAny_holding (thn (hi pins s1 σ H1 _ I1 q1) λiv s2 ⟨y,H2,I2,r2,q2⟩=>?_));refine wpAny_bind (wpAny_standAt (wpAny_bind (wpAny_holding (thn (hs pins s2 σ H2 x y v ov iv u _ I2 r1 r2 r q2) λ_ s3 ⟨H3,I3,q3⟩=>?_))));exact wpAny_release ⟨σ,H3,I3,q3⟩
def tAsg(te:TE)(g:TG):TS:=λD σ H=>te σ H λx H1=>g x σ H1 D.nx
theorem zCF{tg e:Expr}{te:TE}{g:TG}(he:PE X e te)(hg:PG X tg g)(hs:swapsWithSole [tg] e pos.line X.env=pure false:=by rfl)(hw:swappedStores [tg] e X.env=pure none:=by rfl)
 (h1:(assignEach [tg] X.env).map (·.2)=[assign tg X.env]:=by rfl):PS X (.Assign [tg] e pos) (tAsg te g):=by
 intro pins s σ H D I h;refine wpAny_Assign_stores (thn (he pins s σ H _ I h) λv s1 ⟨x,H1,I1,r1,q1⟩=>?_) hs hw;rw[h1];exact thn (hg pins s1 σ H1 x v _ I1 r1 q1) λ_ s2 q=>q
theorem zAN{i:Nat}{x:Str}{e:Expr}{te:TE}{pos':Pos}(hN:X.N.Nodup)(hi:X.N[i]? =some x)(hx:Loc X.env.scope x)(he:PE X e te)(hs:swapsWith e (some (.Name x pos')) pos.line X.env=pure false:=by rfl)(hf:X.fn x=true\/X.env.scope.names.lookup x=some .local:=by first|exact .inl rfl|exact .inr rfl|assumption):
 PS X (.Assign [.Name x pos'] e pos) (tAsg te (gName i)):=by
 intro pins s σ H D I h;refine wpAny_Assign_Name (thn (he pins s σ H _ I h) λv s1 ⟨y,H1,I1,r1,q1⟩=>?_) hs;exact zCQ I1 hN hi hx r1 (λs2 I2=>⟨_,H1,I2,q1⟩) hf
def tPar(i j:Nat)(ta:TA):TS:=λD σ H=>ta σ H λvs H1=>∃v w,vs=[v,w]/\D.nx ((σ.set i (some v)).set j (some w)) H1
theorem zIN{i j:Nat}{x y:Str}{a b:Expr}{ta:TA}{px py pt:Pos}{kt k2 pt2}(hc:X.calm=true)(hN:X.N.Nodup)(hi:X.N[i]? =some x)(hj:X.N[j]? =some y)(hij:i≠j)
 (hx:X.env.scope.names.lookup x=some .local) (hy:X.env.scope.names.lookup y=some .local) (ha:PA X [a,b] ta)
 (hw:swappedStores [.Tuple [.Name x px, .Name y py] kt pt] (.Tuple [a,b] k2 pt2) X.env=pure (some [x,y]))
 (hs:swapsWithSole [.Tuple [.Name x px, .Name y py] kt pt] (.Tuple [a,b] k2 pt2) pos.line X.env=pure false:=by rfl):
 PS X (.Assign [.Tuple [.Name x px, .Name y py] kt pt] (.Tuple [a,b] k2 pt2) pos) (tPar i j ta):=by
 intro pins s σ H D I h;rw[exec_Assign_arm];refine wpAny_bind (wpAny_standAt ?_);rw[hs];refine wpAny_bind (wpAny_pure ?_);rw[if_neg (by decide)];refine wpAny_bind (Tuple_ (thn (ha _ pins s σ H _ I h) λus s1 ⟨vs,H1,I1,r1,q1⟩=>?_));obtain⟨v,w,e1,q1⟩:=q1;subst e1;obtain⟨u1,u2,rfl,rv,rw'⟩:∃u1 u2,us=[u1,u2]/\RelV v u1/\RelV w u2:=by
  cases r1 with
  |cons p q=>
   cases q with
   |cons p' q'=>
    cases q'
    exact⟨_,_,rfl,p,p'⟩
 refine wpAny_newObj_type ?_ (by show 2<=sizeLine;decide);have I2:Inv X pins σ H1 {s1 with heap:=s1.heap.push {cls:= .type "tuple",data:= .seq [u1,u2].toArray}}:=I1.kept (t':=s1.toks) λb o e=>Heap.get?_push_of_some _ e;rw[hw];refine wpAny_bind (wpAny_pure ?_);show wpAny (model X.prog X.w) X.A (do rule "assign.swapped-stores";let items<-unpackItems (.ref s1.heap.objs.size) 2 none;assignInOrder [λv=>bindName X.env y v,λv=>bindName X.env x v] items.reverse;pure Flow.next) _ _ _;refine wpAny_bind (wpAny_rule (wpAny_bind (unpackItems_tuple (items:= #[u1,u2]) (I.ok.hd hc) (IsTup.new s1.heap _) λh' hx'=>?_)));have I3:=I2.kept (h':=h') (t':=s1.toks) λb o e=>hx' b o (Nat.ne_of_lt (Heap.lt_size e)) e;show wpAny _ _ (assignInOrder [λv=>bindName X.env y v,λv=>bindName X.env x v] [u2,u1]>>=λ_=>pure Flow.next) _ _ _;refine wpAny_bind (assignInOrder_cons (wpAny_bindName (zCQ I3 hN hj (.inl hy) rw' (λs2 I4=>?_) (.inr hy))));refine assignInOrder_cons (wpAny_bindName (zCQ I4 hN hi (.inl hx) rv (λs3 I5=>assignInOrder_nil (wpAny_pure ?_)) (.inr hx)));rw[List.set_comm _ _ (Ne.symm hij)]at I5;exact⟨_,H1,I5,q1⟩
def tAug(i:Nat)(te:TE)(ti:TIp):TS:=λD σ H=>∃x,σ[i]? =some (some x)/\te σ H λy H1=>ti x y H1 λz H2=>D.nx (σ.set i (some z)) H2
theorem zMn{i:Nat}{x:Str}{e:Expr}{te:TE}{op:Operator}{ti:TIp}{pos':Pos}(hN:X.N.Nodup)(hi:X.N[i]? =some x)(hx:Loc X.env.scope x)(he:PE X e te)(ho:PIp X op ti)(hf:X.fn x=true\/X.env.scope.names.lookup x=some .local:=by first|exact .inl rfl|exact .inr rfl|assumption):
 PS X (.AugAssign (.Name x pos') op e pos) (tAug i te ti):=by
 intro pins s σ H D I h;obtain⟨v,e1,h⟩:=h;obtain⟨m,hn,hl⟩:=I.loc;have vis:Vis X.env.scope x:=by rcases hx with k|k;exact .inl k;exact .inr (.inl k)
 obtain⟨u,r,l⟩:=hl i x v hi e1 vis;refine wpAny_AugAssign_Name ?_;have go:wpAny (model X.prog X.w) X.A (eval e X.env) (λw s₂=>wpAny (model X.prog X.w) X.A (inplaceOp op u w) (λr s₃=>wpAny (model X.prog X.w) X.A (storeName X.env x r) (λ_=>SP X pins D .next) X.xe s₃) X.xe s₂) X.xe s:=by
  refine thn (he pins s σ H _ I h) λw s1 ⟨y,H1,I1,r1,q1⟩=>?_;refine thn (ho pins s1 σ H1 v y u w _ I1 r r1 q1) λz s2 ⟨zv,H2,I2,r2,q2⟩=>?_;exact zCQ I2 hN hi hx r2 (λs3 I3=>⟨_,H2,I3,q2⟩) hf
 rcases l with⟨hk,hm⟩|⟨hk,c,hc,hcell⟩
 ·exact wpAny_loadName_local I.ok.kind hk hn hm go
 ·rcases hk with hk|hk
  ·exact wpAny_loadName_cell I.ok.kind hk hc hcell go
  ·rcases hx with k|k
   ·have:X.env.scope.names.lookup x=some .free:=hk;rw[k]at this;cases this
   ·have:X.env.scope.names.lookup x=some .free:=hk;rw[k]at this;cases this
def tAugS(to ti te:TE)(tget:V->V->Hp->VK->Prop)(tip:TIp)(tset:TSet):TS:=λD σ H=>to σ H λo H1=>ti σ H1 λi H2=>tget o i H2 λx H3=>te σ H3 λy H4=>tip x y H4 λz H5=>tset o i z H5 λH6=>D.nx σ H6
def PGet(X:Cx)(t:V->V->Hp->VK->Prop):Prop:=
 ∀ (pins:List (Addr×Obj)) (s:Shared) (σ:St) (H:Hp) (o i:V) (ov iv:Value) (Q:VK),Inv X pins σ H s->RelV o ov->RelV i iv->t o i H Q->
   wpAny (model X.prog X.w) X.A (getItem ov iv) (EP X pins σ Q) X.xe s
theorem zDt{o i e:Expr}{to ti te:TE}{tget:V->V->Hp->VK->Prop}{tip:TIp}{tset:TSet}{op:Operator}{tpos:Pos}(ho:PE X o to)(hi:PE X i ti)(hg:PGet X tget)(he:PE X e te)(hp:PIp X op tip)(hs:PSet X tset)
 (ha:∀ov iv new,augStore i ov iv new=(do holding [new,ov,iv] (setItem ov iv new);release [new,ov,iv] [];pure .next):=by intros;rfl):PS X (.AugAssign (.Subscript o i tpos) op e pos) (tAugS to ti te tget tip tset):=by
 intro pins s σ H D I h;refine wpAny_AugAssign_SubscriptAny (thn (ho pins s σ H _ I h) λov s1 ⟨x1,H1,I1,r1,q1⟩=>?_) ha;refine thn (hi pins s1 σ H1 _ I1 q1) λiv s2 ⟨x2,H2,I2,r2,q2⟩=>?_;refine thn (hg pins s2 σ H2 x1 x2 ov iv _ I2 r1 r2 q2) λold s3 ⟨x3,H3,I3,r3,q3⟩=>?_;refine thn (he pins s3 σ H3 _ I3 q3) λv s4 ⟨x4,H4,I4,r4,q4⟩=>?_;refine thn (hp pins s4 σ H4 x3 x4 old v _ I4 r3 r4 q4) λnew s5 ⟨x5,H5,I5,r5,q5⟩=>?_;exact thn (hs pins s5 σ H5 x1 x2 x5 ov iv new _ I5 r1 r2 r5 q5) λ_ s6 ⟨H6,I6,q6⟩=>⟨σ,H6,I6,q6⟩
def ipI(f:Int->Int->Int):TIp:=λx y H Q=>∃i j,x= .int i/\y= .int j/\Q (.int (f i j)) H
theorem zEU:PIp X .Add (ipI λi j=>i+j):=by
 intro pins s σ H x y v u Q I r1 r2 h;obtain⟨i,j,e1,e2,q⟩:=h;subst e1;subst e2;obtain⟨t,rfl⟩:=r1;obtain⟨t',rfl⟩:=r2;exact iadd_int ⟨.int _,H,I.tok _,⟨_,rfl⟩,q⟩
def tWhile(c:TT)(tb:TS):TS:=λD σ H=>∃W:Nat->St->Hp->Prop,(∃m,W m σ H)/\∀m σ H,W m σ H->
 c σ H λb H1=>if b=true then∃N:St->Hp->Prop,(∀σ' H',N σ' H'->∃m',m'<m/\W m' σ' H')/\tb {D with nx:=N,ct:=N,bk:=D.nx} σ H1 else D.nx σ H1
theorem zGu{c:Expr}{body:List Stmt}{tc:TT}{tb:TS}(hp:PassesOwn (model X.prog X.w) X.A X.env X.xe)(hc:PT X c tc)(hb:PSs X body tb):PS X (.While c body [] pos) (tWhile tc tb):=by
 intro pins s σ H D I h;obtain⟨W,⟨m0,w0⟩,turn⟩:=h;refine wpAny_While (codeAny_whileLoop (λn s'=>∃σ' H',Inv X pins σ' H' s'/\W n σ' H') ?_ m0 ⟨σ,H,I,w0⟩);rintro n s1 ⟨σ1,H1,I1,w1⟩;refine wpAny_passesOwn hp (thn (hc pins s1 σ1 H1 _ I1 (turn n σ1 H1 w1)) λb s2 ⟨H2,I2,q2⟩=>?_)
 cases b with
 |true=>
  obtain⟨N,hN,q2⟩:=q2;rw[if_pos rfl];refine wpAny_passesOwn hp (thn (hb pins s2 σ1 H2 _ I2 q2) λf s3 q3=>?_)
  cases f with
  |next=>
   obtain⟨σ3,H3,I3,n3⟩:=q3;obtain⟨m',hm,w3⟩:=hN σ3 H3 n3;exact⟨m',hm,σ3,H3,I3,w3⟩
  |cont=>
   obtain⟨σ3,H3,I3,n3⟩:=q3;obtain⟨m',hm,w3⟩:=hN σ3 H3 n3;exact⟨m',hm,σ3,H3,I3,w3⟩
  |brk=>exact q3
  |ret v=>exact q3
 |false=>
  rw[if_neg Bool.false_ne_true];exact wpAny_execs_nil ⟨σ1,H2,I2,q2⟩
end
structure It where
 go:Nat->Hp->Prop
 yld:Nat->Hp->V->Hp->Prop
 stop:Nat->Hp->Prop
def FpOk(X:Cx)(pins:List (Addr×Obj))(H:Hp)(b:Addr):Prop:=
 H b=none/\b≠X.env.locals/\b∉X.fs/\(b∈X.ex\/X.s₀.heap.objs.size<=b)/\(∀x c,X.env.cells.lookup x=some c->c≠b)/\∀p∈X.pn++pins,p.1≠b
theorem Inv.fpOk{X:Cx}{pins:List (Addr×Obj)}{σ:St}{H H':Hp}{s:Shared}{b:Addr}(I:Inv X pins σ H s)(hb:s.heap.objs.size<=b)(hn:H' b=none):FpOk X pins H' b:=by
 refine⟨hn,Nat.ne_of_gt (Nat.lt_of_lt_of_le I.lt hb),I.nofs hb, .inr (Nat.le_trans I.sz hb),λx c e z=>?_,λp hp z=>?_⟩
 ·obtain⟨v,q⟩:=I.cell x c e;exact absurd (Nat.lt_of_lt_of_le q.lt (by rw[z];exact hb)) (Nat.lt_irrefl _)
 ·exact absurd (Nat.lt_of_lt_of_le (Heap.lt_size (I.pin p hp).1) (by rw[z];exact hb)) (Nat.lt_irrefl _)
structure Turn (P:Program) (w:World) (K:PySem.W.Frag) (tg:Expr) (J:It) (fp:List Addr) (it:Addr) (tn:Nat->Heap->Prop):Prop where
 mem:it∈fp
 obj:∀i h,tn i h->∀b∈fp,∃o,h.get? b=some o/\∀v,o.data≠ .cell v
 keep:∀i h h',tn i h->(∀b∈fp,∀o,h.get? b=some o->h'.get? b=some o)->tn i h'
 item:∀ (X:Cx),X.prog=P->X.w=w->X.K=K->X.calm=true->∀ (i:Nat) (pins:List (Addr×Obj)) (s:Shared) (σ:St) (H:Hp) (E:Value->Shared->Prop),Inv X pins σ H s->(∀b∈fp,FpOk X pins H b)->tn i s.heap->J.go i H->
  wpAny (model P w) X.A (pyNext (.ref it)) (λr s1=>∃u,r=some u/\
   wpAny (model P w) X.A (letOwnedTupleGo tg (.ref it) u) (λ_ s2=>∃x H',Inv X pins σ H' s2/\RelV x u/\J.yld i H x H'/\tn (i+1) s2.heap/\∀b∈fp,H' b=none) E s1) E s
 done:∀ (X:Cx),X.prog=P->X.w=w->X.K=K->X.calm=true->∀ (i:Nat) (pins:List (Addr×Obj)) (s:Shared) (σ:St) (H:Hp) (E:Value->Shared->Prop),Inv X pins σ H s->(∀b∈fp,FpOk X pins H b)->tn i s.heap->J.stop i H->
  wpAny (model P w) X.A (pyNext (.ref it)) (λr s1=>r=none/\Inv X pins σ H s1) E s
 self:∀ (A:Around) (i:Nat) (s:Shared) (Q:Value->Shared->Prop) (E:Value->Shared->Prop),tn i s.heap->Q (.ref it) s->wpAny (model P w) A (pyIter (.ref it)) Q E s
abbrev TI:=St->Hp->(It->Hp->Prop)->Prop
def PIE(X:Cx)(pins:List (Addr×Obj))(σ:St)(tg:Expr)(R:It->Hp->Prop)(itv:Value)(s2:Shared):Prop:=
 ∃ (it:Addr) (fp:List Addr) (tn:Nat->Heap->Prop) (J:It) (H':Hp),itv= .ref it/\Inv X pins σ H' s2/\Turn X.prog X.w X.K tg J fp it tn/\tn 0 s2.heap/\(∀b∈fp,FpOk X pins H' b)/\R J H'
def PI(X:Cx)(tg iter:Expr)(wi:TI):Prop:=
 ∀ (pins:List (Addr×Obj)) (s:Shared) (σ:St) (H:Hp) (R:It->Hp->Prop),Inv X pins σ H s->wi σ H R->
   wpAny (model X.prog X.w) X.A (eval iter X.env) (λv s1=>wpAny (model X.prog X.w) X.A (pyIter v) (PIE X pins σ tg R) X.xe s1) X.xe s
theorem zJ2{M:Model}{A:Around}{E:Value->Shared->Prop}{s:Shared}{tg:Expr}{it:Addr}{u:Value}{o:Obj}{n:String}{vs:Array Value}{Q:Unit->Shared->Prop}(ho:s.heap.get? it=some o)(hc:o.cls= .type n)(hd:o.data= .fields vs)
 (hn:["enumerate","zip","dict_itemiterator","dict_reverseitemiterator","odict_iterator","itertools.zip_longest","itertools.pairwise"].contains n=false) (hQ:Q () s):wpAny M A (letOwnedTupleGo tg (.ref it) u) Q E s:=by
 unfold letOwnedTupleGo
 cases tg<;>first
  |exact wpAny_pure hQ
  |(cases u<;>first
     |exact wpAny_pure hQ
     |(refine wpAny_bind (wpAny_load ho ?_)
       rw[hc,hd];show wpAny M A (if(["enumerate","zip","dict_itemiterator","dict_reverseitemiterator","odict_iterator","itertools.zip_longest","itertools.pairwise"].contains n&&vs[0]? ==some (rawInt _))=true then _ else _) Q E s;rw[if_neg (by intro h;rw[hn,Bool.false_and]at h;cases h)];exact wpAny_pure hQ))
def Itl(K:PySem.W.Frag)(a:Addr):It:=
 ⟨λi H=>∃xs x,SqL K H a xs/\xs[i]? =some x,λi H x H'=>H'=H/\∀xs,SqL K H a xs->xs[i]? =some x,λi H=>∃xs,SqL K H a xs/\xs.length<=i⟩
def Itr(lo:Int)(n:Nat):It:=⟨λi _=>i<n,λi H x H'=>H'=H/\x= .int (lo+i),λi _=>n<=i⟩
theorem zH2{P:Program}{w:World}{K:PySem.W.Frag}{tg:Expr}(a it:Addr):Turn P w K tg (Itl K a) [it] it (λi h=>h.IsListIter it a i) where
 mem:=by simp
 obj:=λi h st b hb=>by
  have e:b=it:=by simpa using hb
  subst e;obtain⟨o,e,c,d⟩:=st;exact⟨o,e,λv z=>by rw[d]at z;cases z⟩
 keep:=λi h h' st k=>st.at λo e=>k it (by simp) o e
 item:=by
  intro X hP hw hK hc i pins s σ H E I hf st hg;subst hP hw hK;obtain⟨xs,x,hq,hx⟩:=hg;obtain⟨its,rv,p,hz⟩:=I.list hq;obtain⟨u,hu,ru⟩:=rv.get hx;obtain⟨f0,f1,f2,f3,f4,f5⟩:=hf it (by simp);refine wpAny_pyNext_list_item st p.isList (x:=u) (by simpa using hu) λh' st' sb=>?_;have I1:Inv X pins σ H {s with heap:=h'}:=I.turned (t':=s.toks) (λb o hb e=>(sb.2 b hb).trans e) f0 f1 f3 f4 f5;obtain⟨o,e,c,d⟩:=id st';exact⟨u,rfl,zJ2 (s:={s with heap:=h'}) e c d (by decide) ⟨x,H,I1,ru,⟨rfl,λys hy=>by rw[I.list_inj hy hq];exact hx⟩,st',λb hb=>(hf b hb).1⟩⟩
 done:=by
  intro X hP hw hK hc i pins s σ H E I hf st hg;subst hP hw hK;obtain⟨xs,hq,hx⟩:=hg;obtain⟨its,rv,p,hz⟩:=I.list hq;obtain⟨f0,f1,f2,f3,f4,f5⟩:=hf it (by simp);have hl:=rv.length;exact wpAny_pyNext_list_end (I.ok.hd hc) st p.isList (by simp;omega) λh' eb=>⟨rfl,I.turned (t':=s.toks) (λb o hb e=>eb b o hb e) f0 f1 f3 f4 f5⟩
 self:=λ_ _ _ _ _ st h=>wpAny_pyIter_listiter st h
theorem zHQ{P:Program}{w:World}{K:PySem.W.Frag}{tg:Expr}(it:Addr)(lo:Int)(n:Nat):Turn P w K tg (Itr lo n) [it] it (λi h=>IsRangeIter h it (lo+(i:Nat)*1) ((n:Int)-(i:Nat)) 1) where
 mem:=by simp
 obj:=λi h st b hb=>by
  have e:b=it:=by simpa using hb
  subst e;exact⟨_,st,λv z=>by
   have z':Data.fields _=Data.cell v:=z
   cases z'⟩
 keep:=λi h h' st k=>k it (by simp) _ st
 item:=by
  intro X hP hw hK hc i pins s σ H E I hf st hg;subst hP hw hK;obtain⟨f0,f1,f2,f3,f4,f5⟩:=hf it (by simp);have W:=Walks.range (prog:=X.prog) (w:=X.w) (I.ok.hd hc) it lo 1 n;refine W.item i s _ _ hg st λv h' tk hv st' kk=>?_;obtain⟨t,rfl⟩:=hv;have I1:Inv X pins σ H {s with heap:=h',toks:=tk}:=I.turned (λb o hb e=>kk b o (by simpa using hb) e) f0 f1 f3 f4 f5;refine⟨_,rfl,zJ2 (s:={s with heap:=h',toks:=tk}) (n:="range_iterator") st' rfl rfl (by decide) ⟨.int (lo+i),H,I1,⟨t,?_⟩,⟨rfl,rfl⟩,st',λb hb=>(hf b hb).1⟩⟩;rw[Int.mul_one]
 done:=by
  intro X hP hw hK hc i pins s σ H E I hf st hg;subst hP hw hK;obtain⟨f0,f1,f2,f3,f4,f5⟩:=hf it (by simp);exact wpAny_pyNext_range_end (I.ok.hd hc) st (by have:n<=i:=hg;omega) λh' eb=>⟨rfl,I.turned (t':=s.toks) (λb o hb e=>eb b o hb e) f0 f1 f3 f4 f5⟩
 self:=λ_ _ _ _ _ st h=>wpAny_pyIter_rangeiter st h
section
variable{X:Cx}{tg:Expr}
def iList(K:PySem.W.Frag)(tl:TE):TI:=λσ H R=>tl σ H λx H1=>∃a,x= .ref a/\(∃xs,SqL K H1 a xs)/\R (Itl K a) H1
theorem zLa{l:Expr}{tl:TE}(hl:PE X l tl):PI X tg l (iList X.K tl):=by
 intro pins s σ H R I h;refine thn (hl pins s σ H _ I h) λv s1 ⟨x,H1,I1,r1,q1⟩=>?_;obtain⟨a,e,⟨xs,hq⟩,q⟩:=q1;subst e
 cases r1
 obtain⟨its,rv,p,hz⟩:=I1.list hq;refine wpAny_pyIter_list p.isList ?_;refine⟨s1.heap.objs.size,[s1.heap.objs.size],_,_,H1,rfl,I1.kept (t':=s1.toks) λb o e=>Heap.get?_push_of_some _ e,zH2 a _,⟨_,Heap.get?_push_size _ rfl,rfl,rfl⟩,λb hb=>?_,q⟩;have e:b=s1.heap.objs.size:=by simpa using hb
 subst e;exact I1.fpOk (Nat.le_refl _) (I1.hok.fresh (Nat.le_refl _))
theorem zJl{pins:List (Addr×Obj)}{σ:St}{H:Hp}{s:Shared}{R:It->Hp->Prop}{E:Value->Shared->Prop}{lo hi:Int}{t u v:Tok}{tk:Nat}(I:Inv X pins σ H s)(h1: -(2^62)<=lo)(h2:lo<2^62)(h3: -(2^62)<=hi)(h4:hi<2^62)
 (q:R (Itr lo (hi-lo).toNat) H):wpAny (model X.prog X.w) X.A (pyIter (.ref s.heap.objs.size)) (PIE X pins σ tg R) E {s with heap:=s.heap.push {cls:= .type "range",data:= .fields #[.int lo t, .int hi u, .int 1 v]},toks:=tk}:=by
 refine wpAny_pyIter_range (IsRange.new ..) (small_one h1 h2 h3 h4) ?_;have I1:Inv X pins σ H {s with heap:=s.heap.push {cls:= .type "range",data:= .fields #[.int lo t, .int hi u, .int 1 v]},toks:=tk}:=I.kept λb o e=>Heap.get?_push_of_some _ e;refine⟨(s.heap.push {cls:= .type "range",data:= .fields #[.int lo t, .int hi u, .int 1 v]}).objs.size,[(s.heap.push {cls:= .type "range",data:= .fields #[.int lo t, .int hi u, .int 1 v]}).objs.size],_,_,H,rfl,
  I1.kept (t':=tk) λb o e=>Heap.get?_push_of_some _ e,zHQ _ lo (hi-lo).toNat,?_,λb hb=>?_,q⟩
 ·have e1:lo+((0:Nat):Int)*1=lo:=by simp
  have e2:(((hi-lo).toNat:Nat):Int)-((0:Nat):Int)=Builtin.Range.rangeSize lo hi 1:=by rw[rangeSize_one];split<;>omega
  show IsRangeIter _ _ (lo+((0:Nat):Int)*1) ((((hi-lo).toNat:Nat):Int)-((0:Nat):Int)) 1;rw[e1,e2];exact Heap.get?_push_size _ rfl
 ·have e:b=(s.heap.push {cls:= .type "range",data:= .fields #[.int lo t, .int hi u, .int 1 v]}).objs.size:=by simpa using hb
  subst e;exact I1.fpOk (Nat.le_refl _) (I1.hok.fresh (Nat.le_refl _))
def iRng1(ta:TA):TI:=λσ H R=>ta σ H λvs H1=>∃j:Int,vs=[.int j]/\ -(2^62)<=j/\j<2^62/\R (Itr 0 j.toNat) H1
theorem zAk{a:Expr}{ta:TA}{p pos:Pos}(hg:Gl X "range")(hm:X.mg "range"=none)(ha:PA X [a] ta)(hs:starEach [a] X.env=[(false,eval a X.env)]:=by rfl):PI X tg (.Call (.Name "range" p) [a] [] pos) (iRng1 ta):=by
 intro pins s σ H R I h;refine Call_ (zDz I hg hm boot_range (PyProof.Rows.callWith_type1 (thn (ha pos pins s σ H _ I h) λus s1 ⟨vs,H1,I1,r1,q1⟩=>?_) hs rfl));obtain⟨j,e,q1,q2,q⟩:=q1;subst e
 cases r1 with
 |cons r rr=>
  cases rr
  obtain⟨t,rfl⟩:=r;exact call_range_1 (zJl I1 (by omega) (by omega) q1 q2 (by simpa using q))
def tFor(wi:TI)(g:TG)(tb:TS):TS:=λD σ H=>wi σ H λJ H1=>∃W:Nat->Nat->St->Hp->Prop,(∃m,W 0 m σ H1)/\∀i m σ H,W i m σ H->
 (J.stop i H/\D.nx σ H)\/(J.go i H/\∃N:St->Hp->Prop,(∀σ' H',N σ' H'->∃m',m'<m/\W (i+1) m' σ' H')/\∀x H',J.yld i H x H'->g x σ H' λσ2 H2=>tb {D with nx:=N,ct:=N,bk:=D.nx} σ2 H2)
def pinsAt(fp:List Addr)(h:Heap):List (Addr×Obj):=fp.filterMap λb=>(h.get? b).map λo=>(b,o)
theorem zBj{fp:List Addr}{h:Heap}{b:Addr}{o:Obj}(hb:b∈fp)(e:h.get? b=some o):(b,o)∈pinsAt fp h:=List.mem_filterMap.mpr ⟨b,hb,by rw[e];rfl⟩
theorem zIc{fp:List Addr}{h:Heap}{p:Addr×Obj}(hp:p∈pinsAt fp h):p.1∈fp/\h.get? p.1=some p.2:=by
 obtain⟨b,hb,e⟩:=List.mem_filterMap.mp hp
 cases q:h.get? b with
 |none=>rw[q]at e;cases e
 |some o=>
  rw[q]at e;have e':(b,o)=p:=Option.some.inj e;subst e';exact⟨hb,q⟩
theorem Inv.pinned{pins:List (Addr×Obj)}{σ:St}{H:Hp}{s:Shared}{fp:List Addr}(I:Inv X pins σ H s)(hf:∀b∈fp,FpOk X pins H b)(ho:∀b∈fp,∃o,s.heap.get? b=some o/\∀v,o.data≠ .cell v):Inv X (pins++pinsAt fp s.heap) σ H s:=
 I.pins_of λp hp=>(List.mem_append.mp hp).elim (λz=>I.pin p (List.mem_append_right _ z)) λz=>by
  obtain⟨hb,e⟩:=zIc z;obtain⟨f0,f1,f2,_⟩:=hf p.1 hb;obtain⟨o,e',d⟩:=ho p.1 hb;rw[e]at e';cases e';exact⟨e,f0,f1,f2,d⟩
theorem Inv.unpinned{pins pl:List (Addr×Obj)}{σ:St}{H:Hp}{s:Shared}(I:Inv X (pins++pl) σ H s):Inv X pins σ H s:=I.pins_of λp hp=>I.pin p (List.mem_append_right _ (List.mem_append_left _ hp))
theorem zAn{iter:Expr}{body:List Stmt}{wi:TI}{g:TG}{tb:TS}{pos:Pos}(hp:PassesOwn (model X.prog X.w) X.A X.env X.xe)(hc:X.calm=true)(hi:PI X tg iter wi)(hg:PG X tg g)(hb:PSs X body tb)
 (hs:∀x,foldedSetIterable iter X.env x=pure x:=by intro _;rfl):PS X (.For tg iter body [] pos) (tFor wi g tb):=by
 intro pins s σ H D I h;refine wpAny_For (thn (hi pins s σ H _ I h) λv s1 h1=>thn h1 λitv s2 h2=>?_) hs;obtain⟨it,fp,tn,J,H2,e,I2,T,st2,f2,W,⟨m0,w0⟩,turn⟩:=h2;subst e;have stat:∀ {H':Hp},(∀b∈fp,H' b=none)->∀b∈fp,FpOk X pins H' b:=λhn b hb=>⟨hn b hb,(f2 b hb).2⟩;refine codeAny_forLoop_any (λn s'=>∃i σ' H',Inv X pins σ' H' s'/\tn i s'.heap/\(∀b∈fp,H' b=none)/\W i n σ' H') ?_ m0 ⟨0,σ,H2,I2,st2,λb hb=>(f2 b hb).1,w0⟩;rintro n s3 ⟨i,σ3,H3,I3,st3,fr3,w3⟩;rcases turn i n σ3 H3 w3 with⟨stop,qn⟩|⟨go,N,hN,step⟩
 ·refine wpAny_passesOwn hp (thn (T.done X rfl rfl rfl hc i pins s3 σ3 H3 X.xe I3 (stat fr3) st3 stop) λr s4 ⟨hr,I4⟩=>?_);subst hr;exact wpAny_execs_nil ⟨σ3,H3,I4,qn⟩
 ·refine wpAny_passesOwn hp (thn (T.item X rfl rfl rfl hc i pins s3 σ3 H3 X.xe I3 (stat fr3) st3 go) λr s4 ⟨u,hr,h4⟩=>?_);subst hr;refine wpAny_passesOwn hp (thn h4 λ_ s5 ⟨x,H5,I5,r5,y5,st5,fr5⟩=>?_);have I5':=I5.pinned (stat fr5) (T.obj _ _ st5);refine wpAny_passesOwn hp (thn (hg _ s5 σ3 H5 x u _ I5' r5 (step x H5 y5)) λ_ s6 ⟨σ6,H6,I6,q6⟩=>?_);refine wpAny_passesOwn hp (thn (hb _ s6 σ6 H6 _ I6 q6) λf s7 q7=>?_);have again:∀ {σ7:St} {H7:Hp},Inv X (pins++pinsAt fp s5.heap) σ7 H7 s7->N σ7 H7->∃m,m<n/\∃i σ' H',Inv X pins σ' H' s7/\tn i s7.heap/\(∀b∈fp,H' b=none)/\W i m σ' H':=fun{σ7 H7} I7 n7=>by
   obtain⟨m',hm,w7⟩:=hN σ7 H7 n7;refine⟨m',hm,i+1,σ7,H7,I7.unpinned,T.keep _ _ _ st5 λb hb o e=>(I7.pin (b,o) (List.mem_append_right _ (List.mem_append_right _ (zBj hb e)))).1,λb hb=>?_,w7⟩;obtain⟨o,e,d⟩:=T.obj _ _ st5 b hb;exact(I7.pin (b,o) (List.mem_append_right _ (List.mem_append_right _ (zBj hb e)))).2.1
  cases f with
  |next=>obtain⟨σ7,H7,I7,n7⟩:=q7;exact again I7 n7
  |cont=>obtain⟨σ7,H7,I7,n7⟩:=q7;exact again I7 n7
  |brk=>obtain⟨σ7,H7,I7,q7⟩:=q7;exact⟨σ7,H7,I7.unpinned,q7⟩
  |ret v=>obtain⟨x7,σ7,H7,I7,r7,q7⟩:=q7;exact⟨x7,σ7,H7,I7.unpinned,r7,q7⟩
end
theorem zJ3{K:PySem.W.Frag}{a:Addr}{xs:List V}{g:TG}{tb:TS}{D:Ends}{σ:St}{H:Hp}(Pv:Nat->St->Hp->Prop)(h0:Pv 0 σ H)(hl:∀i σ H,i<=xs.length->Pv i σ H->SqL K H a xs)
 (hs:∀i x σ H,xs[i]? =some x->Pv i σ H->g x σ H λσ2 H2=>tb {D with nx:=Pv (i+1),ct:=Pv (i+1),bk:=D.nx} σ2 H2) (hd:∀σ H,Pv xs.length σ H->D.nx σ H):
 ∃W:Nat->Nat->St->Hp->Prop,(∃m,W 0 m σ H)/\∀i m σ H,W i m σ H->
  ((Itl K a).stop i H/\D.nx σ H)\/((Itl K a).go i H/\∃N:St->Hp->Prop,(∀σ' H',N σ' H'->∃m',m'<m/\W (i+1) m' σ' H')/\∀x H',(Itl K a).yld i H x H'->g x σ H' λσ2 H2=>tb {D with nx:=N,ct:=N,bk:=D.nx} σ2 H2):=by
 refine⟨λi m σ H=>m=xs.length-i/\i<=xs.length/\Pv i σ H,⟨xs.length,by simp,Nat.zero_le _,h0⟩,?_⟩;rintro i m σ H ⟨rfl,hi,p⟩;have q:=hl i σ H hi p
 by_cases hlt:i<xs.length
 ·refine .inr ⟨⟨xs,xs[i],q,by simp[hlt]⟩,Pv (i+1),λσ' H' p'=>⟨xs.length-(i+1),by omega,rfl,hlt,p'⟩,λx H' y=>?_⟩;obtain⟨e,y⟩:=y;subst e;exact hs i x σ _ (y xs q) p
 ·have e:i=xs.length:=by omega
  subst e;exact .inl ⟨⟨xs,q,Nat.le_refl _⟩,hd σ H p⟩
theorem zIu{lo:Int}{n:Nat}{g:TG}{tb:TS}{D:Ends}{σ:St}{H:Hp}(Pv:Nat->St->Hp->Prop)(h0:Pv 0 σ H)
 (hs:∀i σ H,i<n->Pv i σ H->g (.int (lo+i)) σ H λσ2 H2=>tb {D with nx:=Pv (i+1),ct:=Pv (i+1),bk:=D.nx} σ2 H2) (hd:∀σ H,Pv n σ H->D.nx σ H):
 ∃W:Nat->Nat->St->Hp->Prop,(∃m,W 0 m σ H)/\∀i m σ H,W i m σ H->
  ((Itr lo n).stop i H/\D.nx σ H)\/((Itr lo n).go i H/\∃N:St->Hp->Prop,(∀σ' H',N σ' H'->∃m',m'<m/\W (i+1) m' σ' H')/\∀x H',(Itr lo n).yld i H x H'->g x σ H' λσ2 H2=>tb {D with nx:=N,ct:=N,bk:=D.nx} σ2 H2):=by
 refine⟨λi m σ H=>m=n-i/\i<=n/\Pv i σ H,⟨n,by simp,Nat.zero_le _,h0⟩,?_⟩;rintro i m σ H ⟨rfl,hi,p⟩
 by_cases hlt:i<n
 ·refine .inr ⟨hlt,Pv (i+1),λσ' H' p'=>⟨n-(i+1),by omega,rfl,hlt,p'⟩,λx H' y=>?_⟩;obtain⟨e,y⟩:=y;subst e y;exact hs i σ _ hlt p
 ·have e:i=n:=by omega
  subst e;exact .inl ⟨Nat.le_refl _,hd σ H p⟩
abbrev R2:=V->V->Hp->VK->Prop
def OpR(X:Cx)(f:Value->Value->Sem Value)(r:R2):Prop:=
 ∀ (pins:List (Addr×Obj)) (s:Shared) (σ:St) (H:Hp) (x y:V) (v u:Value) (Q:VK),Inv X pins σ H s->RelV x v->RelV y u->r x y H Q->
   wpAny (model X.prog X.w) X.A (f v u) (EP X pins σ Q) X.xe s
def UnR(X:Cx)(f:Value->Sem Value)(r:V->Hp->VK->Prop):Prop:=
 ∀ (pins:List (Addr×Obj)) (s:Shared) (σ:St) (H:Hp) (x:V) (v:Value) (Q:VK),Inv X pins σ H s->RelV x v->r x H Q->
   wpAny (model X.prog X.w) X.A (f v) (EP X pins σ Q) X.xe s
def CallR(X:Cx)(f:Value)(r:List V->Hp->VK->Prop):Prop:=
 ∀ (pins:List (Addr×Obj)) (s:Shared) (σ:St) (H:Hp) (xs:List V) (us:List Value) (Q:VK),Inv X pins σ H s->Vals xs us->r xs H Q->
   wpAny (model X.prog X.w) X.A (call f us) (EP X pins σ Q) X.xe s
def TruR(X:Cx)(r:V->Hp->(Bool->Hp->Prop)->Prop):Prop:=
 ∀ (pins:List (Addr×Obj)) (s:Shared) (σ:St) (H:Hp) (x:V) (v:Value) (Q:Bool->Hp->Prop),Inv X pins σ H s->RelV x v->r x H Q->
   wpAny (model X.prog X.w) X.A (truthy v) (TP X pins σ Q) X.xe s
def tOp(r:R2)(ta tb:TE):TE:=λσ H Q=>ta σ H λx H1=>tb σ H1 λy H2=>r x y H2 Q
def tUn(r:V->Hp->VK->Prop)(ta:TE):TE:=λσ H Q=>ta σ H λx H1=>r x H1 Q
def rI(C:Int->Int->Prop)(g:Int->Int->V):R2:=λx y H Q=>∃i j,x= .int i/\y= .int j/\C i j/\Q (g i j) H
def rI0(g:Int->Int->V):R2:=λx y H Q=>∃i j,x= .int i/\y= .int j/\Q (g i j) H
def rU(g:Int->V):V->Hp->VK->Prop:=λx H Q=>∃i,x= .int i/\Q (g i) H
section
variable{X:Cx}{a b c:Expr}{ta tb tc:TE}{pos:Pos}
theorem binT(ha:PE X a ta)(hb:PE X b tb){pins:List (Addr×Obj)}{s:Shared}{σ:St}{H:Hp}{R:V->V->Hp->Prop}(I:Inv X pins σ H s)
 (h:ta σ H λx H1=>tb σ H1 λy H2=>R x y H2) {Q:Value->Shared->Prop} {f:Value->Value->Sem Value}
 (hf:∀v u s2 x y H2,Inv X pins σ H2 s2->RelV x v->RelV y u->R x y H2->wpAny (model X.prog X.w) X.A (f v u) Q X.xe s2):
 wpAny (model X.prog X.w) X.A (eval a X.env) (λv s₁=>wpAny (model X.prog X.w) X.A (eval b X.env) (λu s₂=>wpAny (model X.prog X.w) X.A (f v u) Q X.xe s₂) X.xe s₁) X.xe s:=by
 refine thn (ha pins s σ H _ I h) λv s1 ⟨x,H1,I1,r1,q1⟩=>?_;refine thn (hb pins s1 σ H1 _ I1 q1) λu s2 ⟨y,H2,I2,r2,q2⟩=>?_;exact hf v u s2 x y H2 I2 r1 r2 q2
theorem zAJ{op:Operator}{r:R2}(ho:OpR X (binaryOp op) r)(ha:PE X a ta)(hb:PE X b tb):PE X (.BinOp a op b pos) (tOp r ta tb):=by
 intro pins s σ H Q I h;exact wpAny_BinOp (binT ha hb I h λv u s2 x y H2 I2 rx ry q=>ho pins s2 σ H2 x y v u Q I2 rx ry q)
theorem zFP{op:UnaryOp}{r:V->Hp->VK->Prop}(ho:UnR X (unaryOp op) r)(ha:PE X a ta):PE X (.UnaryOp op a pos) (tUn r ta):=by
 intro pins s σ H Q I h;exact UnaryOp_ (thn (ha pins s σ H _ I h) λv s1 ⟨x,H1,I1,r1,q1⟩=>ho pins s1 σ H1 x v Q I1 r1 q1)
theorem opI{f:Value->Value->Sem Value}{C:Int->Int->Prop}{g:Int->Int->Int}
 (rule:∀ (i j:Int) (t u:Tok) (s:Shared) (Q:Value->Shared->Prop) (E:Value->Shared->Prop),C i j->Q (.int (g i j) s.toks) {s with toks:=s.toks+1}->wpAny (model X.prog X.w) X.A (f (.int i t) (.int j u)) Q E s):
 OpR X f (rI C λi j=> .int (g i j)):=by
 intro pins s σ H x y v u Q I rx ry h;obtain⟨i,j,rfl,rfl,hc,q⟩:=h;obtain⟨t,rfl⟩:=rx;obtain⟨t',rfl⟩:=ry;exact rule i j t t' s _ _ hc ⟨.int (g i j),H,I.tok _,⟨_,rfl⟩,q⟩
theorem opI0{f:Value->Value->Sem Value}{g:Int->Int->Int}
 (rule:∀ (i j:Int) (t u:Tok) (s:Shared) (Q:Value->Shared->Prop) (E:Value->Shared->Prop),Q (.int (g i j) s.toks) {s with toks:=s.toks+1}->wpAny (model X.prog X.w) X.A (f (.int i t) (.int j u)) Q E s):
 OpR X f (rI0 λi j=> .int (g i j)):=by
 intro pins s σ H x y v u Q I rx ry h;obtain⟨i,j,rfl,rfl,q⟩:=h;obtain⟨t,rfl⟩:=rx;obtain⟨t',rfl⟩:=ry;exact rule i j t t' s _ _ ⟨.int (g i j),H,I.tok _,⟨_,rfl⟩,q⟩
theorem opB0{f:Value->Value->Sem Value}{g:Int->Int->Bool}
 (rule:∀ (i j:Int) (t u:Tok) (s:Shared) (Q:Value->Shared->Prop) (E:Value->Shared->Prop),Q (.bool (g i j)) s->wpAny (model X.prog X.w) X.A (f (.int i t) (.int j u)) Q E s):
 OpR X f (rI0 λi j=> .bl (g i j)):=by
 intro pins s σ H x y v u Q I rx ry h;obtain⟨i,j,rfl,rfl,q⟩:=h;obtain⟨t,rfl⟩:=rx;obtain⟨t',rfl⟩:=ry;exact rule i j t t' s _ _ ⟨.bl (g i j),H,I,rfl,q⟩
def CDiv(i j:Int):Prop:=0<j/\j<1073741824
def CPow(i j:Int):Prop:=0<=j/\j<=1000000/\i.natAbs<2^64
def CMul(i j:Int):Prop:=(-(2^64)<i/\i<2^64)\/(-(2^64)<j/\j<2^64)
theorem CMul.ok{i j:Int}(h:CMul i j):IntMulOk i j:=by
 rcases h with⟨h1,h2⟩|⟨h1,h2⟩
 ·exact .of_left (intBits_le_64 h1 h2)
 ·exact .of_right (intBits_le_64 h1 h2)
theorem op_add:OpR X (binaryOp .Add) (rI0 λi j=> .int (i+j)):=opI0 λ_ _ _ _ _ _ _ q=>add_int q
theorem zCc:OpR X (binaryOp .Sub) (rI0 λi j=> .int (i-j)):=opI0 λ_ _ _ _ _ _ _ q=>sub_int q
theorem op_mul:OpR X (binaryOp .Mult) (rI CMul λi j=> .int (i*j)):=opI λ_ _ _ _ _ _ _ hc q=>mul_int q hc.ok
theorem zLi:OpR X (binaryOp .FloorDiv) (rI CDiv λi j=> .int (i/j)):=opI λi j _ _ _ _ _ hc q=>by
 have h1:(0:Int)<j:=hc.1;have h2:j<1073741824:=hc.2;exact floordiv_int (by omega) (by rw[Int.fdiv_eq_ediv_of_nonneg i (by omega)];exact q) (.inl (PyProof.noPylong_small (by omega)))
theorem zCH:OpR X (binaryOp .Mod) (rI (λ_ j=>0<j) λi j=> .int (i%j)):=opI λi j _ _ _ _ _ hc q=>by
 have h1:(0:Int)<j:=hc;exact mod_int' (by omega) (by rw[Int.fmod_eq_emod_of_nonneg i (by omega)];exact q)
theorem zKh:OpR X (binaryOp .Pow) (rI CPow λi j=> .int (i^j.toNat)):=opI λ_ _ _ _ _ _ _ hc q=>pow_int_small hc.1 hc.2.1 hc.2.2 q
theorem unI{f:Value->Sem Value}{g:Int->Int}
 (rule:∀ (i:Int) (t:Tok) (s:Shared) (Q:Value->Shared->Prop) (E:Value->Shared->Prop),Q (.int (g i) s.toks) {s with toks:=s.toks+1}->wpAny (model X.prog X.w) X.A (f (.int i t)) Q E s):
 UnR X f (rU λi=> .int (g i)):=by
 intro pins s σ H x v Q I rx h;obtain⟨i,rfl,q⟩:=h;obtain⟨t,rfl⟩:=rx;exact rule i t s _ _ ⟨.int (g i),H,I.tok _,⟨_,rfl⟩,q⟩
theorem zDP:UnR X (unaryOp .USub) (rU λi=> .int (-i)):=unI λ_ _ _ _ _ q=>neg_int q
end
def scal:V->V->Bool
 | .non, .non=>true| .non, .int _=>true| .int _, .non=>true| .non, .bl _=>true| .bl _, .non=>true| .non, .str _=>true| .str _, .non=>true
 | .int _, .int _=>true| .bl _, .bl _=>true| .str _, .str _=>true| .byt _, .byt _=>true
 | .int _, .str _=>true| .str _, .int _=>true| .bl _, .str _=>true| .str _, .bl _=>true
 |_,_=>false
def rEq:R2:=λx y H Q=>scal x y=true/\Q (.bl (decide (x=y))) H
def rNe:R2:=λx y H Q=>scal x y=true/\Q (.bl (!decide (x=y))) H
theorem zE7{i j:Int}:decide (V.int i=V.int j)=(i==j):=by
 rw[Bool.eq_iff_iff];simp
theorem zI2{i j:Bool}:decide (V.bl i=V.bl j)=(i==j):=by
 rw[Bool.eq_iff_iff];simp
theorem zI0{i j:Str}:decide (V.str i=V.str j)=(i==j):=by
 rw[Bool.eq_iff_iff];simp
theorem zI1{i j:Array UInt8}:decide (V.byt i=V.byt j)=(i.toList==j.toList):=by
 rw[Bool.eq_iff_iff]
 cases i
 cases j
 simp
section
variable{X:Cx}{a b c:Expr}{ta tb tc:TE}{pos:Pos}
theorem zAl{pins:List (Addr×Obj)}{σ:St}{H:Hp}{s:Shared}{Q:VK}{k k':Bool}(I:Inv X pins σ H s)(q:Q (.bl k) H)(e:k=k'):EP X pins σ Q (.bool k') s:=by
 subst e;exact⟨.bl k,H,I,rfl,q⟩
theorem op_eq:OpR X (compareOp .Eq) rEq:=by
 intro pins s σ H x y v u Q I rx ry h;obtain⟨hs,q⟩:=h
 cases x with
 |non=>
  cases rx
  cases y with
  |non=>cases ry;exact PySem.EqNone.eq_none_none (zAl I q (by simp))
  |bl j=>cases ry;exact PySem.EqNone.eq_none_bool (zAl I q (by simp))
  |int j=>obtain⟨t',rfl⟩:=ry;exact PySem.EqNone.eq_none_int (zAl I q (by simp))
  |str j=>obtain⟨t',rfl⟩:=ry;exact PySem.EqNone.eq_none_str (zAl I q (by simp))
  |_=>exact absurd (show false=true from hs) Bool.false_ne_true
 |bl i=>
  cases rx
  cases y with
  |non=>cases ry;exact PySem.EqNone.eq_bool_none (zAl I q (by simp))
  |bl j=>cases ry;exact eq_bool (zAl I q zI2)
  |str j=>obtain⟨t',rfl⟩:=ry;exact PySem.EqMixed.eq_bool_str (zAl I q (by simp))
  |_=>exact absurd (show false=true from hs) Bool.false_ne_true
 |int i=>
  obtain⟨t,rfl⟩:=rx
  cases y with
  |non=>cases ry;exact PySem.EqNone.eq_int_none (zAl I q (by simp))
  |int j=>obtain⟨t',rfl⟩:=ry;exact eq_int (zAl I q zE7)
  |str j=>obtain⟨t',rfl⟩:=ry;exact PySem.EqMixed.eq_int_str (zAl I q (by simp))
  |_=>exact absurd (show false=true from hs) Bool.false_ne_true
 |str i=>
  obtain⟨t,rfl⟩:=rx
  cases y with
  |non=>cases ry;exact PySem.EqNone.eq_str_none (zAl I q (by simp))
  |bl j=>cases ry;exact PySem.EqMixed.eq_str_bool (zAl I q (by simp))
  |int j=>obtain⟨t',rfl⟩:=ry;exact PySem.EqMixed.eq_str_int (zAl I q (by simp))
  |str j=>obtain⟨t',rfl⟩:=ry;exact eq_str (zAl I q zI0)
  |_=>exact absurd (show false=true from hs) Bool.false_ne_true
 |byt i=>
  obtain⟨t,rfl⟩:=rx
  cases y with
  |byt j=>obtain⟨t',rfl⟩:=ry;exact PySem.W.eq_bytes (zAl I q zI1)
  |_=>exact absurd (show false=true from hs) Bool.false_ne_true
 |_=>cases y<;>exact absurd (show false=true from hs) Bool.false_ne_true
theorem op_ne:OpR X (compareOp .NotEq) rNe:=by
 intro pins s σ H x y v u Q I rx ry h;obtain⟨hs,q⟩:=h
 cases x with
 |non=>
  cases rx
  cases y with
  |non=>cases ry;exact PySem.EqNone.ne_none_none (zAl I q (by simp))
  |bl j=>cases ry;exact PySem.EqNone.ne_none_bool (zAl I q (by simp))
  |int j=>obtain⟨t',rfl⟩:=ry;exact PySem.EqNone.ne_none_int (zAl I q (by simp))
  |str j=>obtain⟨t',rfl⟩:=ry;exact PySem.EqNone.ne_none_str (zAl I q (by simp))
  |_=>exact absurd (show false=true from hs) Bool.false_ne_true
 |bl i=>
  cases rx
  cases y with
  |non=>cases ry;exact PySem.EqNone.ne_bool_none (zAl I q (by simp))
  |bl j=>cases ry;exact ne_bool (zAl I q (congrArg not zI2))
  |str j=>obtain⟨t',rfl⟩:=ry;exact PySem.EqMixed.ne_bool_str (zAl I q (by simp))
  |_=>exact absurd (show false=true from hs) Bool.false_ne_true
 |int i=>
  obtain⟨t,rfl⟩:=rx
  cases y with
  |non=>cases ry;exact PySem.EqNone.ne_int_none (zAl I q (by simp))
  |int j=>obtain⟨t',rfl⟩:=ry;exact ne_int (zAl I q (congrArg not zE7))
  |str j=>obtain⟨t',rfl⟩:=ry;exact PySem.EqMixed.ne_int_str (zAl I q (by simp))
  |_=>exact absurd (show false=true from hs) Bool.false_ne_true
 |str i=>
  obtain⟨t,rfl⟩:=rx
  cases y with
  |non=>cases ry;exact PySem.EqNone.ne_str_none (zAl I q (by simp))
  |bl j=>cases ry;exact PySem.EqMixed.ne_str_bool (zAl I q (by simp))
  |int j=>obtain⟨t',rfl⟩:=ry;exact PySem.EqMixed.ne_str_int (zAl I q (by simp))
  |str j=>obtain⟨t',rfl⟩:=ry;exact ne_str (zAl I q (congrArg not zI0))
  |_=>exact absurd (show false=true from hs) Bool.false_ne_true
 |byt i=>
  obtain⟨t,rfl⟩:=rx
  cases y with
  |byt j=>obtain⟨t',rfl⟩:=ry;exact PySem.W.ne_bytes (zAl I q (congrArg not zI1))
  |_=>exact absurd (show false=true from hs) Bool.false_ne_true
 |_=>cases y<;>exact absurd (show false=true from hs) Bool.false_ne_true
theorem zIX:OpR X (compareOp .Lt) (rI0 λi j=> .bl (decide (i<j))):=opB0 λ_ _ _ _ _ _ _ q=>lt_int q
theorem zEF:OpR X (compareOp .LtE) (rI0 λi j=> .bl (decide (i<=j))):=opB0 λ_ _ _ _ _ _ _ q=>le_int q
theorem zFT:OpR X (compareOp .Gt) (rI0 λi j=> .bl (decide (j<i))):=opB0 λ_ _ _ _ _ _ _ q=>gt_int q
theorem zLh:OpR X (compareOp .GtE) (rI0 λi j=> .bl (decide (j<=i))):=opB0 λ_ _ _ _ _ _ _ q=>ge_int q
theorem zIZ:OpR X (compareOp .In) (λx y H Q=>∃i j,x= .str i/\y= .str j/\Q (.bl (!(Builtin.Str.occurrences j i 0 j.length 1).isEmpty)) H):=by
 intro pins s σ H x y v u Q I rx ry h;obtain⟨i,j,rfl,rfl,q⟩:=h;obtain⟨t,rfl⟩:=rx;obtain⟨t',rfl⟩:=ry;exact in_str (zAl I q rfl)
theorem zFR:OpR X (compareOp .NotIn) (λx y H Q=>∃i j,x= .str i/\y= .str j/\Q (.bl (!(!(Builtin.Str.occurrences j i 0 j.length 1).isEmpty))) H):=by
 intro pins s σ H x y v u Q I rx ry h;obtain⟨i,j,rfl,rfl,q⟩:=h;obtain⟨t,rfl⟩:=rx;obtain⟨t',rfl⟩:=ry;exact notIn_str (zAl I q rfl)
theorem OpR.or{f:Value->Value->Sem Value}{r r':R2}(h:OpR X f r)(h':OpR X f r'):OpR X f (λx y H Q=>r x y H Q\/r' x y H Q):=by
 intro pins s σ H x y v u Q I rx ry q;rcases q with q|q
 ·exact h pins s σ H x y v u Q I rx ry q
 ·exact h' pins s σ H x y v u Q I rx ry q
theorem nomark(b:Expr){op:CmpOp}(h:op≠ .In:=by decide)(h2:op≠ .NotIn:=by decide):behindInMarks op b=false:=by
 have e1:(op==CmpOp.In)=false:=by cases op<;>first|rfl|exact absurd rfl h
 have e2:(op==CmpOp.NotIn)=false:=by cases op<;>first|rfl|exact absurd rfl h2
 cases b<;>simp[behindInMarks,e1,e2]
theorem zAd{op:CmpOp}{r:R2}(ho:OpR X (compareOp op) r)(ha:PE X a ta)(hb:PE X b tb)(hm:behindInMarks op b=false):PE X (.Compare a [op] [b] pos) (tOp r ta tb):=by
 intro pins s σ H Q I h;exact wpAny_Compare1 (binT ha hb I h λv u s2 x y H2 I2 rx ry q=>ho pins s2 σ H2 x y v u Q I2 rx ry q) hm
def tTest(t:TE):TT:=λσ H Q=>t σ H λx H'=>∃k,x= .bl k/\Q k H'
theorem zAP{op:CmpOp}{r:R2}(ho:OpR X (compareOp op) r)(ha:PE X a ta)(hb:PE X b tb)(hm:behindInMarks op b=false):PT X (.Compare a [op] [b] pos) (tTest (tOp r ta tb)):=by
 intro pins s σ H Q I h;refine wpAny_isTrue_Compare1 (thn (ha pins s σ H _ I h) λv s1 ⟨x,H1,I1,r1,q1⟩=>thn (hb pins s1 σ H1 _ I1 q1) λu s2 ⟨y,H2,I2,r2,q2⟩=>
  thn (ho pins s2 σ H2 x y v u _ I2 r1 r2 q2) λc s3 ⟨z,H3,I3,r3,k,e,q3⟩=>?_) hm
 subst e
 cases r3
 exact wpAny_truthy_bool ⟨H3,I3,q3⟩
def tChain(r r':R2)(ta tb tc:TE):TE:=λσ H Q=>ta σ H λx H1=>tb σ H1 λy H2=>r x y H2 λz H3=>∃k,z= .bl k/\
 (if k=true then tc σ H3 λw' H4=>r' y w' H4 Q else Q (.bl false) H3)
theorem zCS{op op':CmpOp}{r r':R2}(ho:OpR X (compareOp op) r)(ho':OpR X (compareOp op') r')(ha:PE X a ta)(hb:PE X b tb)(hc:PE X c tc)
 (hm:lastMarks [op,op'] [b,c]=false:=by with_unfolding_all rfl):PT X (.Compare a [op,op'] [b,c] pos) (tTest (tChain r r' ta tb tc)):=by
 intro pins s σ H Q I h;refine isTrue_chain (thn (ha pins s σ H _ I h) λv s1 ⟨x,H1,I1,r1,q1⟩=>test_link (thn (hb pins s1 σ H1 _ I1 q1) λu s2 ⟨y,H2,I2,r2,q2⟩=>
  thn (ho pins s2 σ H2 x y v u _ I2 r1 r2 q2) λd s3 ⟨z,H3,I3,r3,k,e,q3⟩=>?_)) hm
 subst e
 cases r3
 refine wpAny_truthy_bool ?_
 cases k with
 |false=>
  obtain⟨k',e',q'⟩:=q3
  cases e'
  exact ite_ff ⟨H3,I3,q'⟩
 |true=>
  refine ite_tt (test_last (thn (hc pins s3 σ H3 _ I3 q3) λw' s4 ⟨z',H4,I4,r4,q4⟩=>thn (ho' pins s4 σ H4 y z' u w' _ I4 r2 r4 q4) λd' s5 ⟨z2,H5,I5,r5,k2,e2,q5⟩=>?_));subst e2
  cases r5
  exact wpAny_truthy_bool ⟨H5,I5,q5⟩
def TruV(K:PySem.W.Frag)(x:V)(H:Hp)(k:Bool):Prop:=
 match x with
 | .non=>k=false
 | .bl b=>k=b
 | .int i=>k=(i !=0)
 | .str y=>y.length<=sizeLine/\k=((y.length:Int) !=0)
 | .byt y=>y.size<=sizeLine/\k=((y.size:Int) !=0)
 | .ref p=>(∃xs,SqL K H p xs/\k= !xs.isEmpty)\/(∃xs,SqT K H p xs/\k= !xs.isEmpty)\/∃kvs,H p=some (.dK kvs)/\k= !kvs.isEmpty
 |_=>False
theorem zHj{κ:Type}{kvs:List (κ×V)}{vs:List (κ×Value)}(r:KV kvs vs):(!vs.isEmpty)= !kvs.isEmpty:=by
 cases r<;>rfl
theorem zET{xs:List V}{its:List Value}(r:Vals xs its):(!its.toArray.isEmpty)= !xs.isEmpty:=by
 cases r<;>simp
theorem line63:(sizeLine:Nat)<2^63:=by rw[sizeLine_eq];decide
theorem zL9:TruR X (λx H Q=>∃k,TruV X.K x H k/\Q k H):=by
 intro pins s σ H x v Q I rx h;obtain⟨k,e,q⟩:=h;have hl:=line63;have hs:sizeLine=16777216:=sizeLine_eq
 cases x with
 |non=>
  cases rx
  have e':k=false:=e;subst e';exact truthy_none ⟨H,I,q⟩
 |bl b=>
  cases rx
  have e':k=b:=e;subst e';exact wpAny_truthy_bool ⟨H,I,q⟩
 |int i=>
  obtain⟨t,rfl⟩:=rx;have e':k=(i !=0):=e;subst e';exact PySem.P.truthy_int ⟨H,I,q⟩
 |str y=>
  obtain⟨t,rfl⟩:=rx;obtain⟨hy,e'⟩:y.length<=sizeLine/\k=((y.length:Int) !=0):=e;subst e';exact PySem.P.truthy_str (by omega) ⟨H,I.tok _,q⟩
 |byt y=>
  obtain⟨t,rfl⟩:=rx;obtain⟨hy,e'⟩:y.size<=sizeLine/\k=((y.size:Int) !=0):=e;subst e';exact PySem.W.truthy_bytes (by omega) ⟨H,I.tok _,q⟩
 |ref p=>
  cases rx
  have e':(∃xs,SqL X.K H p xs/\k= !xs.isEmpty)\/(∃xs,SqT X.K H p xs/\k= !xs.isEmpty)\/∃kvs,H p=some (.dK kvs)/\k= !kvs.isEmpty:=e;rcases e' with⟨xs,hx,e'⟩|⟨xs,hx,e'⟩|⟨kvs,hx,e'⟩
  ·subst e';obtain⟨its,r,pl,hz⟩:=I.list hx;have hlen:=r.length;exact wpAny_truthy_list pl.isList (by simp only[List.size_toArray];omega) ⟨H,I.tok _,by rw[zET r];exact q⟩
  ·subst e';obtain⟨its,r,pl,hz⟩:=I.tuple hx;have hlen:=r.length;exact truthy_tuple pl (by simp only[List.size_toArray];omega) ⟨H,I.tok _,by rw[zET r];exact q⟩
  ·subst e';obtain⟨hz,hS,vs,r,m⟩:kvs.length<=sizeLine/\(p==sysModules)=false/\∃vs,KV kvs vs/\s.heap.DictOf (mixKind X.prog X.w) p vs:=I.hok p _ hx;have hlen:kvs.length=vs.length:=Paired.length r;exact wpAny_truthy_dict hS m (by omega) ⟨H,I.tok _,by rw[zHj r];exact q⟩
 |_=>exact(show False from e).elim
theorem zJm(ha:PE X a ta)(he:∀whole,isTrue a X.env whole=(do let v<-whole;standAt a.pos;holding [v] (truthy v))):
 PT X a (λσ H Q=>ta σ H λx H'=>∃k,TruV X.K x H' k/\Q k H'):=by
 intro pins s σ H Q I h;exact isTrue_plain (thn (ha pins s σ H _ I h) λv s1 ⟨x,H1,I1,r1,q1⟩=>zL9 pins s1 σ H1 x v Q I1 r1 q1) (he _)
theorem zHZ:OpR X (binaryOp .Add) (λx y H Q=>∃i j,x= .str i/\y= .str j/\i.length+j.length<=sizeLine/\Q (.str (i++j)) H):=by
 intro pins s σ H x y v u Q I rx ry h;obtain⟨i,j,rfl,rfl,hz,q⟩:=h;obtain⟨t,rfl⟩:=rx;obtain⟨t',rfl⟩:=ry;exact add_str (λt' tk=>⟨.str (i++j),H,I.tok _,⟨_,rfl⟩,q⟩) hz
theorem vals1{x:V}{us:List Value}(r:Vals [x] us):∃u,us=[u]/\RelV x u:=by
 cases r with
 |cons r1 r2=>cases r2;exact⟨_,rfl,r1⟩
theorem vals2{x y:V}{us:List Value}(r:Vals [x,y] us):∃u w',us=[u,w']/\RelV x u/\RelV y w':=by
 cases r with
 |cons r1 r2=>
  cases r2 with
  |cons r3 r4=>cases r4;exact⟨_,_,rfl,r1,r3⟩
theorem zJE:CallR X (.type "int") (λxs H Q=>(∃i,xs=[.int i]/\Q (.int i) H)\/∃k,xs=[.bl k]/\Q (.int (if k then 1 else 0)) H):=by
 intro pins s σ H xs us Q I r h;rcases h with⟨i,rfl,q⟩|⟨k,rfl,q⟩
 ·obtain⟨u,rfl,t,rfl⟩:=vals1 r;exact call_int_int ⟨.int i,H,I,⟨_,rfl⟩,q⟩
 ·obtain⟨u,rfl,r1⟩:=vals1 r
  cases r1
  exact call_int_bool ⟨.int (if k then 1 else 0),H,I.tok _,⟨_,rfl⟩,q⟩
end
structure ObjM (h:Heap) (x dx C:Addr) (mA:Str->Option Value):Prop where
 obj:h.get? x=some (PySem.W.instObj C dx)
 ns:h.Ns1 dx mA
 ne:dx≠x
theorem zIg{h:Heap}{dx:Addr}{mA:Str->Option Value}(n:h.Ns1 dx mA):∃od,h.get? dx=some od/\∀name,PySem.W.lookIn name od=some (mA name):=by
 obtain⟨o,es,ep,ho,hd,hk,_,hm⟩:=n;refine⟨o,ho,λname=>?_⟩;have e:=hm name;unfold nsFind findBy at e;rw[<-Array.find?_toList]at e;unfold PySem.W.lookIn;rw[hd]
 dsimp only
 split
 ·rename_i y q
  rw[q]at e;exact congrArg some e
 ·rename_i q
  rw[q]at e;have a:es.toList.any (·.refKey)=false:=by
   rw[List.any_eq_false];intro y hy;obtain⟨z,t,hkey⟩:=hk y (Array.mem_toList_iff.mp hy);simp[DictEntry.refKey,hkey]
  have a':¬es.toList.any (·.refKey)=true:=by rw[a];exact Bool.false_ne_true
  rw[if_neg a'];exact congrArg some e
theorem ObjM.look{h:Heap}{x dx C:Addr}{mA:Str->Option Value}(I:ObjM h x dx C mA):∃od,PySem.W.InstAt h x (PySem.W.instObj C dx) C (some od)/\∀name,PySem.W.lookIn name od=some (mA name):=
 let⟨od,ho,hl⟩:=zIg I.ns
 ⟨od,⟨I.obj,rfl,rfl,ho⟩,hl⟩
section
variable{prog:Program}{w:World}{A:Around}{E:Value->Shared->Prop}{s:Shared}{K:PySem.W.Frag}{x dx C f:Addr}{mA:Str->Option Value}{name:Str}{v:Value}
end
theorem RelO.some_of{v:V}{o:Option Value}(r:RelO (some v) o):∃u,o=some u/\RelV v u:=by
 cases o with
 |none=>exact(show False from r).elim
 |some u=>exact⟨u,rfl,r⟩
section
variable{P:Program}{w:World}{H H':Hp}{h h':Heap}{a C dx:Addr}{fs fs':List (Str×V)}
theorem zLo(hok:HOk P w H h)(e:H a=some (.ins C dx fs)):∃mA,ObjM h a dx C mA/\(∀f,RelO (fs.lookup f) (mA f))/\PySem.Within mA (fs.map (·.1))/\fs.length<=1000/\H dx=some (.own a):=by
 obtain⟨d,z,ne,ob,mA,n,r,q⟩:=(show ObjOk P w H h a (.ins C dx fs)from hok a _ e);exact⟨mA,⟨ob,n,ne⟩,r,q,z,d⟩
end
structure Cls (K:PySem.W.Frag) (C:Addr):Prop where
 pg:PySem.W.plainGet K C Str.empty=true
 hd:PySem.W.hasDictIn K C=true
 po:PySem.W.plainOver K C=true
 sa:PySem.W.findIn K (.ref C) "__setattr__"=some (some (.builtin "object.__setattr__"))
theorem Cls.get{K:PySem.W.Frag}{C:Addr}(c:Cls K C)(f:Str):PySem.W.plainGet K C f=true:=c.pg
section
variable{X:Cx}{pins:List (Addr×Obj)}{σ:St}{H:Hp}{s:Shared}{a C dx:Addr}{fs:List (Str×V)}{f:Str}{v:V}{A:Around}{E:Value->Shared->Prop}
end
section
variable{X:Cx}{o e value:Expr}{f:Str}{pos pos' tpos:Pos}{ta tv:TE}
end
section
variable{X:Cx}{pins:List (Addr×Obj)}{σ:St}{H:Hp}{s:Shared}{A:Around}{E:Value->Shared->Prop}{Q:Value->Shared->Prop}{c:Value}{b:Bool}
inductive TyOf (K:PySem.W.Frag) (H:Hp):V->Value->Prop where
 |non:TyOf K H .non (.type "NoneType")
 |bl (x:Bool):TyOf K H (.bl x) (.type "bool")
 |int (i:Int):TyOf K H (.int i) (.type "int")
 |str (x:Str):TyOf K H (.str x) (.type "str")
 |flt (x:UInt64):TyOf K H (.flt x) (.type "float")
 |lst {a:Addr} {xs:List V} (e:H a=some (.lst xs)):TyOf K H (.ref a) (.type "list")
 |frz {a:Addr} {o:Obj} {xs:List V} (e:H a=some (.frz o (.lst xs))):TyOf K H (.ref a) (.type "list")
 |tup {a:Addr} {xs:List V} (e:H a=some (.tup xs)):TyOf K H (.ref a) (.type "tuple")
 |dK {a:Addr} {kvs:List (Key×V)} (e:H a=some (.dK kvs)):TyOf K H (.ref a) (.type "dict")
 |dT {a:Addr} {kvs:List (List Key×V)} (e:H a=some (.dT kvs)):TyOf K H (.ref a) (.type "dict")
 |ins {a C dx:Addr} {fs:List (Str×V)} (e:H a=some (.ins C dx fs)) (cl:Cls K C) (ha:PySem.W.findIn K (.ref C) "__class__"=some (some (.builtin "object.__class__")))
   (hn:PySem.W.specialIn K (.builtin "object.__class__") "__get__"=some (some (.builtin "getset_descriptor.__get__"))) (htk:PySem.W.takesIn K (.builtin "object.__class__")=some true)
   (hm:PySem.W.mroIn K C (.type "object")=some true):TyOf K H (.ref a) (.ref C)
theorem zIm{x:V}{u t:Value}(I:Inv X pins σ H s)(rx:RelV x u)(ty:TyOf X.K H x t)(e:PySem.W.kitOne X.K t c=some b)(h:∀tk,Q (.bool b) {s with toks:=tk}):
 wpAny (model X.prog X.w) A (call (.builtin "isinstance") [u,c]) Q E s:=by
 cases ty with
 |non=>cases(show u=Value.none from rx);exact PySem.W.kia_one PySem.W.kitx_none I.kIn True.intro e (λz=>nomatch z) h
 |bl y=>cases(show u=Value.bool y from rx);exact PySem.W.kia_one PySem.W.kitx_bool I.kIn True.intro e (λz=>nomatch z) h
 |int i=>obtain⟨t,q⟩:=(show∃t,u=Value.int i t from rx);cases q;exact PySem.W.kia_one PySem.W.kitx_int I.kIn True.intro e (λz=>nomatch z) h
 |str y=>obtain⟨t,q⟩:=(show∃t,u=Value.str y t from rx);cases q;exact PySem.W.kia_one PySem.W.kitx_str I.kIn True.intro e (λz=>nomatch z) h
 |flt y=>obtain⟨t,q⟩:=(show∃t,u=Value.float y t from rx);cases q;exact PySem.W.kia_one PySem.W.kitx_float I.kIn True.intro e (λz=>nomatch z) h
 | @lst a xs ea=>
   cases(show u=Value.ref a from rx)
   obtain⟨_,_,n,_,h1⟩:=(show ObjOk X.prog X.w H s.heap a (.lst xs)from I.hok a _ ea);exact PySem.W.kia_one PySem.W.kitx_list I.kIn ⟨_,h1,rfl⟩ e (λz=>nomatch z) h
 | @frz a ob xs ea=>
   cases(show u=Value.ref a from rx)
   obtain⟨_,_,_,n,_,h1⟩:=(show ObjOk X.prog X.w H s.heap a (.frz ob (.lst xs))from I.hok a _ ea);exact PySem.W.kia_one PySem.W.kitx_list I.kIn ⟨_,h1,rfl⟩ e (λz=>nomatch z) h
 | @tup a xs ea=>
   cases(show u=Value.ref a from rx)
   obtain⟨_,_,_,p⟩:=(show ObjOk X.prog X.w H s.heap a (.tup xs)from I.hok a _ ea);obtain⟨o,h1,h2,_⟩:=p;exact PySem.W.kia_one PySem.W.kitx_tuple I.kIn ⟨o,h1,h2⟩ e (λz=>nomatch z) h
 | @dK a kvs ea=>
   cases(show u=Value.ref a from rx)
   obtain⟨_,_,vs,_,p⟩:=(show ObjOk X.prog X.w H s.heap a (.dK kvs)from I.hok a _ ea);obtain⟨o,es,ep,h1,h2,_⟩:=p;exact PySem.W.kia_one PySem.W.kitx_dict I.kIn ⟨o,h1,h2.1⟩ e (λz=>nomatch z) h
 | @dT a kvs ea=>
   cases(show u=Value.ref a from rx)
   obtain⟨_,_,xs,_,o,es,ep,h1,h2,_⟩:=(show ObjOk X.prog X.w H s.heap a (.dT kvs)from I.hok a _ ea);exact PySem.W.kia_one PySem.W.kitx_dict I.kIn ⟨o,h1,h2.1⟩ e (λz=>nomatch z) h
 | @ins a C dx fs ea cl ha hn htk hm=>
   cases(show u=Value.ref a from rx)
   obtain⟨mA,O,_⟩:=zLo I.hok ea;obtain⟨od,J,_⟩:=O.look;exact PySem.W.kia_one (PySem.W.kitx_own (cl.get _) cl.hd ha hn htk hm) I.kIn J e (λz=>nomatch z) h
end
structure Room (k:Nat) (A:Around):Prop where
 hd:A.handled=none
 dp:A.depth+3*k+5<recursionLimit
 un:A.units+16*k+200<cLine
 gd:A.guards=some []
theorem Room.mono{j k:Nat}{A:Around}(r:Room k A)(h:j<=k):Room j A:=⟨r.hd,by have:=r.dp;omega,by have:=r.un;omega,by first|exact r.gd|simpa[Around.deeper,Around.under,Code.guards,Code.isGuard,guardIds,pushGuards]using r.gd⟩
theorem Room.deeper{k:Nat}{A:Around}(r:Room (k+1) A)(env:Env):Room k (A.deeper env):=
 ⟨r.hd,by have:=r.dp;show A.depth+1+3*k+5<_;omega,by have:=r.un;show A.units+3+16*k+200<_;omega,by first|exact r.gd|simpa[Around.deeper,Around.under,Code.guards,Code.isGuard,guardIds,pushGuards]using r.gd⟩
theorem Room.depth{k:Nat}{A:Around}(r:Room k A):A.depth<recursionLimit:=by have:=r.dp;omega
theorem Room.units{k:Nat}{A:Around}(r:Room k A):A.units+64<cLine:=by have:=r.un;omega
theorem Room.units0{k:Nat}{A:Around}(r:Room k A):A.units<cLine:=by have:=r.un;omega
def tNil:TA:=λ_ H Q=>Q [] H
def tCons(ta:TE)(tr:TA):TA:=λσ H Q=>ta σ H λx H1=>tr σ H1 λxs H2=>Q (x::xs) H2
section
variable{X:Cx}{e:Expr}{es:List Expr}{te:TE}{t:TA}{pos:Pos}
theorem zAB:PA X [] tNil:=λ_ _ _ _ H Q I h=>Calls.spliced_nil ⟨[],H,I, .nil,h⟩
theorem zAA(ha:PE X e te)(hr:PA X es t)(hs:starEach (e::es) X.env=(false,eval e X.env)::starEach es X.env:=by rfl):PA X (e::es) (tCons te t):=by
 intro pos pins s σ H Q I h;rw[hs];show wpAny _ _ (spliced ((false,eval e X.env)::backTo pos (starEach es X.env))) _ _ s;refine Calls.spliced_cons (thn (ha pins s σ H _ I h) λu s1 ⟨x,H1,I1,r1,q1⟩=>?_);exact thn (hr pos pins s1 σ H1 _ I1 q1) λus s2 ⟨xs,H2,I2,r2,q2⟩=>⟨x::xs,H2,I2, .cons r1 r2,q2⟩
def tTup(t:TA):TE:=λσ H Q=>t σ H λxs H1=>xs.length<=sizeLine/\∀p,H1 p=none->Q (.ref p) (upd H1 p (.tup xs))
def tLst(t:TA):TE:=λσ H Q=>t σ H λxs H1=>xs.length<=sizeLine/\∀p,H1 p=none->Q (.ref p) (upd H1 p (.lst xs))
theorem zAc{x1}(h:PA X es t):PE X (.Tuple es x1 pos) (tTup t):=by
 intro pins s σ H Q I hq;refine wpAny_Tuple_spliced (thn (h pos pins s σ H _ I hq) λus s1 ⟨xs,H1,I1,r,z,q⟩=>⟨by rw[<-r.length];exact z,?_⟩);have hf:H1 s1.heap.objs.size=none:=I1.hok.fresh (Nat.le_refl _);refine⟨.ref s1.heap.objs.size,upd H1 s1.heap.objs.size (.tup xs),I1.laid (t':=s1.toks) (λb u e=>Heap.get?_push_of_some _ e) (Nat.le_refl _) ?_,rfl,q _ hf⟩;exact⟨z,us,r,⟨_,Heap.get?_push_size _ rfl,rfl,_,rfl⟩⟩
theorem zAq(h:PA X es t):PE X (.List es pos) (tLst t):=by
 intro pins s σ H Q I hq;refine wpAny_List_spliced (thn (h pos pins s σ H _ I hq) λus s1 ⟨xs,H1,I1,r,z,q⟩=>⟨by rw[<-r.length];exact z,?_⟩);have hf:H1 s1.heap.objs.size=none:=I1.hok.fresh (Nat.le_refl _);refine⟨.ref s1.heap.objs.size,upd H1 s1.heap.objs.size (.lst xs),I1.laid (t':=s1.toks) (λb u e=>Heap.get?_push_of_some _ e) (Nat.le_refl _) ?_,rfl,q _ hf⟩;exact⟨z,us,0,r,Heap.get?_push_size _ rfl⟩
end
abbrev Sp:=List V->Hp->VK->XK->Prop
abbrev CXT:=List Env->Hp->Shared->XK->Value->Shared->Prop
structure Env0 (P:Program) (w:World) (K:PySem.W.Frag) (mg:Str->Option Value) (base:Heap) (A:Around) (outer:List Env) (s:Shared) (H:Hp):Prop where
 frames:A.frames=some outer
 mod:Mod K mg base
 bs:∀b o,base.get? b=some o->s.heap.get? b=some o/\H b=none
 bsz:base.objs.size<=s.heap.objs.size
 funs:s.heap.FunFrames base outer
 frf:∀b∈frs outer,H b=none
 hok:HOk P w H s.heap
 bare:AllBare s.gens
def CE(outer:List Env)(P:Program)(w:World)(H:Hp)(s:Shared)(Q:VK)(u:Value)(s':Shared):Prop:=
 ∃v H',s'.os=s.os/\AllBare s'.gens/\Un (frs outer) [] H H' s.heap s'.heap/\HOk P w H' s'.heap/\RelV v u/\Q v H'
def CR(CX:CXT)(outer:List Env)(P:Program)(w:World)(H:Hp)(s:Shared)(Q:VK)(E:XK)(r:Result)(s':Shared):Prop:=
 match r with
 | .ok (.ret u)=>CE outer P w H s Q u s'
 | .ok _=>False
 | .error e=>CX outer H s E e s'
structure FnOk (P:Program) (w:World) (K:PySem.W.Frag) (mg:Str->Option Value) (base:Heap) (CX:CXT) (k:Nat) (f:Addr) (fd:FuncData) (ps:List Str) (sp:Sp):Prop where
 len:∀vs H Q E,sp vs H Q E->vs.length=ps.length
 run:∀ (A:Around) (outer:List Env) (s:Shared) (H:Hp) (args:Args) (us:List Value) (vs:List V) (Q:VK) (E:XK),Room k A->Env0 P w K mg base A outer s H->BindsTo s fd args (ps.zip us)->Vals vs us->sp vs H Q E->
  codeAny (model P w) A (.call (.ref f) args) (CR CX outer P w H s Q E) s
theorem FnOk.mono{P:Program}{w:World}{K:PySem.W.Frag}{mg:Str->Option Value}{base:Heap}{CX:CXT}{j k:Nat}{f:Addr}{fd:FuncData}{ps:List Str}{sp:Sp}(F:FnOk P w K mg base CX j f fd ps sp)(h:j<=k):
 FnOk P w K mg base CX k f fd ps sp:=⟨F.len,λA outer s H args us vs Q E hr=>F.run A outer s H args us vs Q E (hr.mono h)⟩
section
variable{X:Cx}{pins:List (Addr×Obj)}{σ:St}{H:Hp}{s s':Shared}
theorem Inv.env0(I:Inv X pins σ H s):Env0 X.prog X.w X.K X.mg X.base X.A X.stack s H:=
 ⟨I.ok.frames,I.ok.mod,I.bs,Nat.le_trans I.ok.bsz I.sz,I.stack,I.stkFree,I.hok,I.bare⟩
theorem Inv.after{Q:VK}{u:Value}(I:Inv X pins σ H s)(h:CE X.stack X.prog X.w H s Q u s'):EP X pins σ Q u s':=by
 obtain⟨v,H',os,bare,un,hok,r,q⟩:=h;obtain⟨hh,g,d,t,os'⟩:=s';obtain rfl:os'=s.os:=os;exact⟨v,H',I.call (h':=hh) (g':=g) (d':=d) (t':=t) (ch:=[]) un hok bare (λb z=>absurd z (by simp)),r,q⟩
end
def tCall(sp:Sp)(dvs:List V)(E:XK)(t:TA):TE:=λσ H Q=>t σ H λvs H1=>sp (vs++dvs) H1 Q E
def Binds(K:PySem.W.Frag)(fd:FuncData)(ps:List Str)(ds:List Value):Prop:=
 ∀ (s:Shared) (us:List Value),K.In s.heap->(us++ds).length=ps.length->BindsTo s fd ⟨us,[]⟩ (ps.zip (us++ds))
theorem Binds.all{K:PySem.W.Frag}{fd:FuncData}{ps:List Str}(h:∀us:List Value,us.length=ps.length->bindArgs fd ⟨us,[]⟩=pure (ps.zip us)):Binds K fd ps []:=λs us _ hl=>by
 rw[List.append_nil]at hl⊢;exact .of_eq (h us hl)
def Passes(CX:CXT)(X:Cx)(E:XK):Prop:=∀ (pins:List (Addr×Obj)) (σ:St) (H:Hp) (s:Shared) (e:Value) (s':Shared),Inv X pins σ H s->CX X.stack H s E e s'->X.xe e s'
section
variable{X:Cx}{CX:CXT}{k:Nat}{f C:Addr}{fd:FuncData}{ps:List Str}{sp:Sp}{dvs:List V}{ds:List Value}{E:XK}{x m:Str}{p pos apos:Pos}{e o:Expr}{es:List Expr}{ta:TE}{t:TA}
theorem zMg{pins:List (Addr×Obj)}{σ:St}{H:Hp}{s:Shared}{Q:VK}{us:List Value}{vs:List V}(F:FnOk X.prog X.w X.K X.mg X.base CX k f fd ps sp)(hr:Room k X.A)(hb:Binds X.K fd ps ds)(hd:Vals dvs ds)(hx:Passes CX X E)
 (I:Inv X pins σ H s) (r:Vals vs us) (h:sp (vs++dvs) H Q E):wpAny (model X.prog X.w) X.A (call (.ref f) us) (EP X pins σ Q) X.xe s:=by
 have r2:Vals (vs++dvs) (us++ds):=r.append hd;have hl:(us++ds).length=ps.length:=by rw[<-r2.length];exact F.len _ _ _ _ h
 refine wpAny_call (codeAny_mono (F.run X.A X.stack s H ⟨us,[]⟩ (us++ds) (vs++dvs) Q E hr I.env0 (hb s us I.kIn hl) r2 h) λr s' hq=>?_)
 cases r with
 |error e=>exact hx pins σ H s e s' I hq
 |ok fl=>
  cases fl with
  |ret u=>exact I.after hq
  |next=>exact False.elim hq
  |brk=>exact False.elim hq
  |cont=>exact False.elim hq
theorem zLd(F:FnOk X.prog X.w X.K X.mg X.base CX k f fd ps sp)(hr:Room k X.A)(hg:Gl X x)(hm:X.mg x=some (.ref f))(hk:PySem.W.keepIn X.K (.ref f)=true)(hb:Binds X.K fd ps ds)(hd:Vals dvs ds)(hx:Passes CX X E)
 (ha:PA X (e::es) t) (hdb:(x==("__debug__":Str))=false:=by decide) (he:starEach (e::es) X.env=(false,eval e X.env)::starEach es X.env:=by rfl) (hpl:(backTo pos (starEach es X.env)).any (·.1)=false:=by rfl):
 PE X (.Call (.Name x p) (e::es) [] pos) (tCall sp dvs E t):=by
 intro pins s σ H Q I h;refine wpAny_Call_Name_kw (zDy I hg hm ?_ hdb);refine PySem.W.callWith_K (h₀:=X.base) I.ok.mod.kin hk (thn (ha pos pins s σ H _ I h) λus s1 ⟨vs,H1,I1,r,q⟩=>⟨I1.kIn,?_⟩) he hpl;exact zMg F hr hb hd hx I1 r q
end
section
variable{X:Cx}{CX:CXT}{k:Nat}{f C:Addr}{fd:FuncData}{ps ks:List Str}{sp:Sp}{E:XK}{x m:Str}{p pos apos kpos:Pos}{e o:Expr}{es:List Expr}{kws:List Keyword}{te ta:TE}{t tk:TA}{nm:Option Str}
variable{g:List Value->List Value->List Value}{gV:List V->List V->List V}
end
structure FnScope (N P:List Str) (sc:Scope):Prop where
 kind:sc.kind= .function
 co:sc.isCoroutine=false
 gen:sc.isGenerator=false
 nd:N.Nodup
 pre:N.take P.length=P
 par:∀x∈P,sc.names.lookup x=some .local\/sc.names.lookup x=some .cell
 nofree:∀y∈sc.names,y.2≠ .free
theorem zFq{kindOf:Str->Option NameKind}{x:Str}:∀ {binds:List (Str×Value)} {m:Str->Option Value},(∀v,(x,v)∉binds)->bindL kindOf binds m x=m x
 |[],_,_=>rfl
 |(n,v)::r,m,h=>by
  unfold bindL;rw[zFq λw hw=>h w (List.mem_cons_of_mem _ hw)]
  split
  ·have:x≠n:=by rintro rfl;exact h v List.mem_cons_self
   simp[this]
  ·rfl
theorem zFs{kindOf:Str->Option NameKind}{x:Str}:∀ {binds:List (Str×Value)} {m:Str->Option Value},(∀v,(x,v)∉binds)->bindC kindOf binds m x=m x
 |[],_,_=>rfl
 |(n,v)::r,m,h=>by
  unfold bindC;rw[zFs λw hw=>h w (List.mem_cons_of_mem _ hw)]
  split
  ·rfl
  ·have:x≠n:=by rintro rfl;exact h v List.mem_cons_self
   simp[this]
theorem zFr{kindOf:Str->Option NameKind}{x:Str}{v:Value}:∀ {P:List Str} {vs:List Value} {i:Nat} {m:Str->Option Value},P.Nodup->P[i]? =some x->vs[i]? =some v->kindOf x=some .local->
 bindL kindOf (P.zip vs) m x=some v
 |[],_,_,_,_,h,_,_=>by simp at h
 |_::_,[],_,_,_,_,h,_=>by simp at h
 |p::P,w::vs,0,m,nd,h1,h2,hk=>by
  simp at h1 h2;subst h1;subst h2;show bindL kindOf ((p,w)::P.zip vs) m p=_;unfold bindL;rw[zFq λv hv=>(List.nodup_cons.mp nd).1 (List.of_mem_zip hv).1,if_pos hk];simp
 |p::P,w::vs,i+1,m,nd,h1,h2,hk=>by
  show bindL kindOf ((p,w)::P.zip vs) m x=_;unfold bindL;exact zFr (i:=i) (List.nodup_cons.mp nd).2 (by simpa using h1) (by simpa using h2) hk
theorem zFt{kindOf:Str->Option NameKind}{x:Str}{v:Value}:∀ {P:List Str} {vs:List Value} {i:Nat} {m:Str->Option Value},P.Nodup->P[i]? =some x->vs[i]? =some v->kindOf x≠some .local->
 bindC kindOf (P.zip vs) m x=some v
 |[],_,_,_,_,h,_,_=>by simp at h
 |_::_,[],_,_,_,_,h,_=>by simp at h
 |p::P,w::vs,0,m,nd,h1,h2,hk=>by
  simp at h1 h2;subst h1;subst h2;show bindC kindOf ((p,w)::P.zip vs) m p=_;unfold bindC;rw[zFs λv hv=>(List.nodup_cons.mp nd).1 (List.of_mem_zip hv).1,if_neg hk];simp
 |p::P,w::vs,i+1,m,nd,h1,h2,hk=>by
  show bindC kindOf ((p,w)::P.zip vs) m x=_;unfold bindC;exact zFt (i:=i) (List.nodup_cons.mp nd).2 (by simpa using h1) (by simpa using h2) hk
def start(N:List Str)(vs:List V):St:=vs.map some++List.replicate (N.length-vs.length) none
def cxOf(CX:CXT)(P:Program)(w:World)(K:PySem.W.Frag)(mg:Str->Option Value)(base:Heap)(N:List Str)(qual:Str)(scope:Scope)(f:Addr)(cd:Value)(A:Around)(outer:List Env)(s:Shared)(H:Hp)(E:XK):Cx where
 prog:=P
 w:=w
 K:=K
 mg:=mg
 base:=base
 A:=A.deeper (envOfC qual scope s.heap.objs.size f cd)
 N:=N
 s₀:=s
 H₀:=H
 env:=envOfC qual scope s.heap.objs.size f cd
 outer:=outer
 stack:=envOfC qual scope s.heap.objs.size f cd::outer
 ex:=[]
 calm:=true
 fn:=λ_=>true
 pn:=[]
 xe:=λe s'=>wpAny (model P w) (A.deeper (envOfC qual scope s.heap.objs.size f cd)) (leaving (envOfC qual scope s.heap.objs.size f cd) e) (λ_ s''=>CX outer H s E e s'') (λe' s''=>CX outer H s E e' s'') s'
theorem zHH{sc:Scope}{n:Nat}{x:Str}(h:sc.names.lookup x=some .cell):∃c,(cellsFrom n sc.names []).lookup x=some c:=by
 have q:=PySem.W.cellsFrom_some sc.names n [] (.inl h);exact Option.isSome_iff_exists.mp q
theorem zIo{CX:CXT}{P:Program}{w:World}{K:PySem.W.Frag}{mg:Str->Option Value}{base:Heap}{N ps:List Str}{qual:Str}{scope:Scope}{f:Addr}{cd:Value}{A:Around}{outer:List Env}{s s1:Shared}{H:Hp}{E:XK}{us:List Value}{vs:List V}
 (S:FnScope N ps scope) (hd:A.handled=none) (e0:Env0 P w K mg base A outer s H) (hl:vs.length=ps.length) (r:Vals vs us)
 (x:InCallC s s.heap.objs.size (bindL (envOfC qual scope s.heap.objs.size f cd).kindOf (ps.zip us) λ_=>none) (cellsFrom (s.heap.objs.size+1) scope.names []) (bindC (envOfC qual scope s.heap.objs.size f cd).kindOf (ps.zip us) λ_=>none) s1):
 Inv (cxOf CX P w K mg base N qual scope f cd A outer s H E) [] (start N vs) H s1:=by
 have hpl:ps.length<=N.length:=by have:=congrArg List.length S.pre;rw[List.length_take]at this;omega
 obtain⟨h1,tk,rfl,hk⟩:=x.done;have noA:∀b:Addr,b∉(cxOf CX P w K mg base N qual scope f cd A outer s H E).ex:=λb z=>absurd (show b∈([]:List Addr)from z) (by simp);refine⟨⟨e0.mod,S.kind,rfl,rfl,Nat.le_refl _,λy z c h1 h2=>?_,λy hy=>?_,λy c _ h=>?_,λ_=>hd,Around.frames_deeper e0.frames, .inr ⟨rfl,rfl⟩,λb z=>absurd z (noA b),e0.bs,e0.bsz,λb _ _=>noA b,λb z=>absurd z (noA b),e0.funs,e0.frf⟩,
  rfl,e0.bare,Un.kept hk,⟨_,x.toInCall.ns,λi y v h1 h2 h3=>?_⟩,λy c h=>⟨_,x.cell y c h⟩,e0.hok.fresh (Nat.le_refl _),λy c h=>?_,λp hp=>absurd (show p∈([]:List (Addr×Obj))from hp) (by simp),e0.hok.kept hk,?_⟩
 ·exact name_of_addr x.apart (PySem.mem_of_lookup h1) (PySem.mem_of_lookup h2)
 ·have hy:scope.names.lookup y=some .cell\/scope.names.lookup y=some .free:=hy;rcases hy with hy|hy
  ·exact zHH hy
  ·exact absurd rfl (S.nofree _ (PySem.mem_of_lookup hy))
 ·exact Nat.le_of_lt (x.above y c (PySem.mem_of_lookup h))
 ·have hi:i<vs.length:=by
   unfold start at h2
   by_cases hi:i<vs.length
   ·exact hi
   ·rw[List.getElem?_append_right (by simpa using hi)]at h2;rw[List.getElem?_replicate]at h2
    split at h2<;>cases h2
  have ha:vs[i]? =some v:=by
   unfold start at h2;rw[List.getElem?_append_left (by simpa using hi),List.getElem?_map]at h2
   cases e:vs[i]? with
   |none=>rw[e]at h2;cases h2
   |some a=>rw[e]at h2;cases h2;rfl
  obtain⟨u,hu,rv⟩:=r.get ha;have hp:ps[i]? =some y:=by
   rw[<-S.pre,List.getElem?_take_of_lt (by omega)];exact h1
  have ndP:ps.Nodup:=by rw[<-S.pre];exact S.nd.sublist (List.take_sublist _ _)
  refine⟨u,rv,?_⟩;rcases S.par y (List.mem_of_getElem? hp)with k|k
  ·exact .inl ⟨k,zFr ndP hp hu k⟩
  ·obtain⟨c,e⟩:=zHH (n:=s.heap.objs.size+1) k;refine .inr ⟨.inl k,c,e,?_⟩;have q:=x.cell y c e;rw[zFt ndP hp hu (by show scope.names.lookup y≠_;rw[k];decide)]at q;exact q
 ·exact e0.hok.fresh (Nat.le_of_lt (x.above y c (PySem.mem_of_lookup h)))
 ·unfold start;show _=N.length;rw[List.length_append,List.length_map,List.length_replicate];omega
theorem zNO{CX:CXT}{P:Program}{w:World}{K:PySem.W.Frag}{mg:Str->Option Value}{base:Heap}{k:Nat}{f:Addr}{name qual:Str}{params:Arguments}{body:List Stmt}{scope:Scope}{dV kV doc pm cdv ct oc:Value}{an od:Option Addr}
 {osl:Array (Option Value)} {N ps:List Str} {sp:Sp} (lk:K.lookup f=some ⟨oc,od, .func (PySem.W.fnOf name qual params body scope dV kV doc pm an cdv ct),osl⟩) (hcd:PySem.W.codeIn K cdv qual=true) (S:FnScope N ps scope)
 (len:∀vs H Q E,sp vs H Q E->vs.length=ps.length)
 (hbody:∀ (A:Around) (outer:List Env) (s:Shared) (H:Hp) (vs:List V) (Q:VK) (E:XK),Room k (A.deeper (envOfC qual scope s.heap.objs.size f cdv))->sp vs H Q E->
   ∃t,PSs (cxOf CX P w K mg base N qual scope f cdv A outer s H E) body t/\t {nx:=λ_ H'=>Q .non H',rt:=Q} (start N vs) H):
 FnOk P w K mg base CX (k+1) f (PySem.W.fnOf name qual params body scope dV kV doc pm an cdv ct) ps sp:=by
 refine⟨len,λA outer s H args us vs Q E hr e0 hb r hsp=>?_⟩;have hl:=len _ _ _ _ hsp;have KX:K.In s.heap:=e0.mod.kin.keeps λb o e=>(e0.bs b o e).1;have lim:s.heap.NoLimit:=e0.mod.nolimit.keeps λb o e=>(e0.bs b o e).1;have hkind:∀y∈ps.zip us,scope.names.lookup y.1=some .local\/(scope.names.lookup y.1=some .cell/\((cellsFrom (s.heap.objs.size+1) scope.names []).lookup y.1).isSome=true):=λ⟨n,v⟩ hy=>by
  rcases S.par n (List.of_mem_zip hy).1 with q|q
  ·exact .inl q
  ·exact .inr ⟨q,PySem.W.cellsFrom_some _ _ _ (.inl q)⟩
 refine codeAny_call_function hr.depth (KX _ _ lk) rfl S.co S.gen rfl (PySem.W.codeRec_of KX hcd) (hb _ _ _ _ ?_);refine wpAny_newFunctionEnv_cells S.kind hkind λenv he s1 x=>?_;subst he;refine⟨lim.keeps x.toInCall.keep,codeAny_func ?_⟩;obtain⟨t,ht,hq⟩:=hbody A outer s H vs Q E (hr.deeper _) hsp;have I:Inv (cxOf CX P w K mg base N qual scope f cdv A outer s H E) [] (start N vs) H s1:=zIo S hr.hd e0 hl r x;refine wpAny_mono (ht [] s1 (start N vs) H _ I hq) (λfl s' hs=>?_) λe s' hs=>hs;have fin:∀ {σ':St} {H':Hp} {v:V} {u:Value},Inv (cxOf CX P w K mg base N qual scope f cdv A outer s H E) [] σ' H' s'->RelV v u->Q v H'->CE outer P w H s Q u s':=
  fun{σ' H' v u} J rv q=>⟨v,H',J.os,J.bare,J.base,J.hok,rv,q⟩
 cases fl with
 |ret u=>
  obtain⟨v,σ',H',J,rv,q⟩:=hs;exact fin J rv q
 |next=>
  obtain⟨σ',H',J,q⟩:=hs;exact fin (v:=V.non) (u:=Value.none) J rfl q
 |brk=>
  obtain⟨_,_,_,q⟩:=hs;exact False.elim q
 |cont=>
  obtain⟨_,_,_,q⟩:=hs;exact False.elim q
section
variable{X:Cx}{x:Str}{p pos:Pos}{e:Expr}{es:List Expr}{t:TA}{id T:String}{r:List V->Hp->VK->Prop}
def tCB(r:List V->Hp->VK->Prop)(t:TA):TE:=λσ H Q=>t σ H λvs H1=>r vs H1 Q
theorem zAQ(hc:CallR X (.builtin id) r)(hg:Gl X x)(hm:X.mg x=none)(hv:bootBuiltins x=some (.builtin id))(ha:PA X (e::es) t)(hn:x≠"__name__":=by decide)(hdb:(x==("__debug__":Str))=false:=by decide)
 (he:starEach (e::es) X.env=(false,eval e X.env)::starEach es X.env:=by rfl) (hpl:(backTo pos (starEach es X.env)).any (·.1)=false:=by rfl):PE X (.Call (.Name x p) (e::es) [] pos) (tCB r t):=by
 intro pins s σ H Q I h;refine wpAny_Call_Name_kw (zDz I hg hm hv ?_ hn hdb);exact PyProof.Rows.callWith_builtin1 (thn (ha pos pins s σ H _ I h) λus s1 ⟨vs,H1,I1,r1,q1⟩=>hc pins s1 σ H1 vs us Q I1 r1 q1) he hpl
theorem zAr(hc:CallR X (.type T) r)(hg:Gl X x)(hm:X.mg x=none)(hv:bootBuiltins x=some (.type T))(ha:PA X (e::es) t)(hn:x≠"__name__":=by decide)(hdb:(x==("__debug__":Str))=false:=by decide)
 (he:starEach (e::es) X.env=(false,eval e X.env)::starEach es X.env:=by rfl) (hpl:(backTo pos (starEach es X.env)).any (·.1)=false:=by rfl):PE X (.Call (.Name x p) (e::es) [] pos) (tCB r t):=by
 intro pins s σ H Q I h;refine wpAny_Call_Name_kw (zDz I hg hm hv ?_ hn hdb);exact PyProof.Rows.callWith_type1 (thn (ha pos pins s σ H _ I h) λus s1 ⟨vs,H1,I1,r1,q1⟩=>hc pins s1 σ H1 vs us Q I1 r1 q1) he hpl
end
end L2
namespace HT
open PySem PyProof.Rows
section
open PySem.SeqAt
open PySem.AutoSeq1 (wpAny_loadPart')
open PySem.MeetsSeq PySem.MeetsSeq2 PySem.MeetsSeq3
end
section
variable{prog:Program}{w:World}{A:Around}{E:Value->Shared->Prop}{s:Shared}
def sIx(n d:Nat):Option Int->Nat
 |none=>d
 |some v=>if v<0 then(v+(n:Int)).toNat else min v.toNat n
theorem sIx_none(n d:Nat):sIx n d none=d:=rfl
theorem sIx_nat(n d k:Nat):sIx n d (some (k:Int))=min k n:=by
 show(if(k:Int)<0 then((k:Int)+(n:Int)).toNat else min (k:Int).toNat n)=min k n;rw[if_neg (by omega),Int.toNat_natCast]
theorem sIx_le(n d:Nat)(hd:d<=n)(o:Option Int):sIx n d o<=n:=by
 cases o with
 |none=>exact hd
 |some v=>
  show(if v<0 then(v+(n:Int)).toNat else min v.toNat n)<=n
  by_cases hv:v<0
  ·rw[if_pos hv];omega
  ·rw[if_neg hv];exact Nat.min_le_right _ _
end
end HT
namespace L2
open PySem PySem.Spec PyProof.Rows
abbrev TO:=St->Hp->(Option Int->Hp->Prop)->Prop
def PO(X:Cx)(e:Option Expr)(t:TO):Prop:=
 ∀ (pins:List (Addr×Obj)) (s:Shared) (σ:St) (H:Hp) (Q:Option Int->Hp->Prop),Inv X pins σ H s->t σ H Q->
   wpAny (model X.prog X.w) X.A (evalPart e X.env) (λu s'=>∃o H',Inv X pins σ H' s'/\IsPart u o/\Q o H') X.xe s
def tNoPart:TO:=λ_ H Q=>Q none H
def tPart(t:TE):TO:=λσ H Q=>t σ H λx H1=>∃i,x= .int i/\Q (some i) H1
theorem zHk{ns:List Int}:∀ {us:List Value},Vals (ns.map V.int) us->IntsAre us ns:=by
 induction ns with
 |nil=>intro us r;rw[List.map_nil]at r;cases r;exact .nil
 |cons n ns ih=>
  intro us r;rw[List.map_cons]at r
  cases r with
  |cons r1 r2=>
   obtain⟨t,e⟩:=r1;subst e;exact .cons n t (ih r2)
section
variable{X:Cx}{e:Expr}{te:TE}{lo hi:Option Expr}{tl th:TO}{pos p2:Pos}
theorem zBL:PO X none tNoPart:=by
 intro pins s σ H Q I h;rw[evalPart_none];exact wpAny_pure ⟨none,H,I, .none,h⟩
theorem zA6(h:PE X e te):PO X (some e) (tPart te):=by
 intro pins s σ H Q I hw;rw[evalPart_some];refine thn (h pins s σ H _ I hw) λu s1 ⟨x,H1,I1,r1,q1⟩=>?_;obtain⟨i,rfl,q⟩:=q1;obtain⟨t,rfl⟩:=r1;exact⟨some i,H1,I1, .int i t,q⟩
def SlR(X:Cx)(r:V->Option Int->Option Int->Hp->VK->Prop):Prop:=
 ∀ (pins:List (Addr×Obj)) (s:Shared) (σ:St) (H:Hp) (x:V) (v vl vu:Value) (lo hi:Option Int) (sl:Addr) (Q:VK),Inv X pins σ H s->RelV x v->s.heap.IsSliceOf sl vl vu .none->IsPart vl lo->IsPart vu hi->r x lo hi H Q->
   ∃T id,typeLookup (.type T) "__getitem__"=pure (some (.builtin id))/\s.TypeIs v T/\wpAny (model X.prog X.w) X.A (getItem v (.ref sl)) (EP X pins σ Q) X.xe s
theorem SlR.or{r r':V->Option Int->Option Int->Hp->VK->Prop}(h:SlR X r)(h':SlR X r'):SlR X (λx lo hi H Q=>r x lo hi H Q\/r' x lo hi H Q):=by
 intro pins s σ H x v vl vu lo hi sl Q I rx hs pl pu q;rcases q with q|q
 ·exact h pins s σ H x v vl vu lo hi sl Q I rx hs pl pu q
 ·exact h' pins s σ H x v vl vu lo hi sl Q I rx hs pl pu q
def tSl(r:V->Option Int->Option Int->Hp->VK->Prop)(te:TE)(tl th:TO):TE:=λσ H Q=>te σ H λx H1=>tl σ H1 λl H2=>th σ H2 λu H3=>r x l u H3 Q
theorem zAw{r:V->Option Int->Option Int->Hp->VK->Prop}(hr:SlR X r)(he:PE X e te)(hl:PO X lo tl)(hu:PO X hi th):PE X (.Subscript e (.Slice lo hi none p2) pos) (tSl r te tl th):=by
 intro pins s σ H Q I h;refine Subscript_ (thn (he pins s σ H _ I h) λv s1 ⟨x,H1,I1,r1,q1⟩=>?_);refine wpAny_Slice (thn (hl pins s1 σ H1 _ I1 q1) λvl s2 ⟨l,H2,I2,pl,q2⟩=>thn (hu pins s2 σ H2 _ I2 q2) λvu s3 ⟨u,H3,I3,pu,q3⟩=>?_);rw[evalPart_none];refine wpAny_pure ?_;have I4:Inv X pins σ H3 {s3 with heap:=s3.heap.push {cls:= .type "slice",data:= .fields #[vl,vu, .none]}}:=I3.kept (t':=s3.toks) λb ob q=>Heap.get?_push_of_some _ q;obtain⟨T,id,hT,ht,hg⟩:=hr pins {s3 with heap:=s3.heap.push {cls:= .type "slice",data:= .fields #[vl,vu, .none]}} σ H3 x v vl vu l u s3.heap.objs.size Q I4 r1 (Heap.IsSliceOf.new ..) pl pu q3;show wpAny (model X.prog X.w) X.A (subscriptTail e (.Slice lo hi none p2) v (.ref s3.heap.objs.size)) (EP X pins σ Q) X.xe {s3 with heap:=s3.heap.push {cls:= .type "slice",data:= .fields #[vl,vu, .none]}};exact tail_any (ops:=[.ref s3.heap.objs.size,v]) ht hT hg (by with_unfolding_all rfl)
def cutV(xs:List V)(lo hi:Option Int):List V:=(xs.drop (HT.sIx xs.length 0 lo)).take (HT.sIx xs.length xs.length hi-HT.sIx xs.length 0 lo)
theorem zGX(xs:List V)(lo hi:Option Int):(cutV xs lo hi).length<=xs.length:=by
 unfold cutV;rw[List.length_take,List.length_drop];omega
end
def ixN(n:Nat)(i:Int):Option Nat:=if 0<=i then(if i<n then some i.toNat else none)else if -(n:Int)<=i then some (i+n).toNat else none
def atI{α:Type}(xs:List α)(i:Int):Option α:=(ixN xs.length i).bind λj=>xs[j]?
theorem zIk{n:Nat}{i:Int}{j:Nat}(h:ixN n i=some j):seqIndex? i n=some j/\j<n/\ -(n:Int)<=i/\i<n:=by
 unfold ixN at h
 by_cases h0:0<=i
 ·rw[if_pos h0]at h
  by_cases h1:i<n
  ·rw[if_pos h1]at h;have e:i.toNat=j:=Option.some.inj h;exact⟨by rw[seqIndex_of h0 h1,e],by omega,by omega,h1⟩
  ·rw[if_neg h1]at h;cases h
 ·rw[if_neg h0]at h
  by_cases h1: -(n:Int)<=i
  ·rw[if_pos h1]at h;have e:(i+n).toNat=j:=Option.some.inj h;exact⟨by rw[seqIndex_neg (by omega) h1,e],by omega,h1,by omega⟩
  ·rw[if_neg h1]at h;cases h
theorem zGe{α:Type}{xs:List α}{i:Int}{v:α}(h:atI xs i=some v):∃j,seqIndex? i xs.length=some j/\xs[j]? =some v/\j<xs.length/\ -(xs.length:Int)<=i/\i<xs.length:=by
 unfold atI at h
 cases e:ixN xs.length i with
 |none=>rw[e]at h;cases h
 |some j=>
  rw[e]at h;obtain⟨h1,h2,h3,h4⟩:=zIk e;exact⟨j,h1,h,h2,h3,h4⟩
theorem zAM{α:Type}{xs:List α}{j:Nat}{v:α}(h:xs[j]? =some v):atI xs (j:Int)=some v:=by
 have hj:j<xs.length:=(List.getElem?_eq_some_iff.mp h).1;have e:ixN xs.length (j:Int)=some j:=by
  unfold ixN;rw[if_pos (by omega),if_pos (by omega)];simp
 unfold atI;rw[e];exact h
theorem zKJ{α:Type}(xs:List α)(v:α):atI (xs++[v]) (-1)=some v:=by
 have hl:(xs++[v]).length=xs.length+1:=by simp
 have e:ixN (xs++[v]).length (-1)=some xs.length:=by
  unfold ixN;rw[hl,if_neg (by decide),if_pos (by omega)];congr 1;omega
 unfold atI;rw[e];show(xs++[v])[xs.length]? =some v;simp
def PlainIx(b:Expr):Prop:=∀o i,subscripted b false o i=operate [o,i] (getItem o i)
def IxR(X:Cx)(r:R2):Prop:=
 ∀ (value slice:Expr) (pins:List (Addr×Obj)) (s:Shared) (σ:St) (H:Hp) (x y:V) (v u:Value) (Q:VK),Inv X pins σ H s->RelV x v->RelV y u->r x y H Q->
   subscripted slice false v u=operate [v,u] (getItem v u)->wpAny (model X.prog X.w) X.A (subscriptTail value slice v u) (EP X pins σ Q) X.xe s
def MtR(X:Cx)(id:String)(r:V->List V->Hp->VK->Prop):Prop:=
 ∀ (pins:List (Addr×Obj)) (s:Shared) (σ:St) (H:Hp) (x:V) (xs:List V) (v:Value) (us:List Value) (Q:VK),Inv X pins σ H s->RelV x v->Vals xs us->r x xs H Q->
   wpAny (model X.prog X.w) X.A (call (.builtin id) (v::us)) (EP X pins σ Q) X.xe s
section
variable{X:Cx}{a b:Expr}{ta tb:TE}{pos:Pos}
theorem IxR.or{r r':R2}(h:IxR X r)(h':IxR X r'):IxR X (λx y H Q=>r x y H Q\/r' x y H Q):=by
 intro value slice pins s σ H x y v u Q I rx ry q hs;rcases q with q|q
 ·exact h value slice pins s σ H x y v u Q I rx ry q hs
 ·exact h' value slice pins s σ H x y v u Q I rx ry q hs
theorem zAO{r:R2}(hr:IxR X r)(ha:PE X a ta)(hb:PE X b tb)(hs:PlainIx b):PE X (.Subscript a b pos) (tOp r ta tb):=by
 intro pins s σ H Q I h;exact Subscript_ (binT ha hb I h λv u s2 x y H2 I2 rx ry q=>hr a b pins s2 σ H2 x y v u Q I2 rx ry q (hs _ _))
def rIxL(K:PySem.W.Frag):R2:=λx y H Q=>∃p xs i v,x= .ref p/\y= .int i/\SqL K H p xs/\atI xs i=some v/\Q v H
def rIxT(K:PySem.W.Frag):R2:=λx y H Q=>∃p xs i v,x= .ref p/\y= .int i/\SqT K H p xs/\atI xs i=some v/\Q v H
def rIxS:R2:=λx y H Q=>∃z i c,x= .str z/\y= .int i/\z.length<=sizeLine/\atI z.cps.toList i=some c/\Q (.str ⟨#[c]⟩) H
theorem ix_list:IxR X (rIxL X.K):=by
 intro value slice pins s σ H x y v u Q I rx ry h hs;obtain⟨p,xs,i,z,rfl,rfl,hq,he,q⟩:=h
 cases rx
 obtain⟨t,rfl⟩:=ry;obtain⟨its,r,pl,hz⟩:=I.list hq;obtain⟨j,h1,h2,h3,h4,h5⟩:=zGe he;obtain⟨w,ew,rw'⟩:=r.get h2;have hl:=r.length;have hn:=line63;have fin:EP X pins σ Q w s:=⟨z,H,I,rw',q⟩
 by_cases h0:0<=i
 ·have hj:i.toNat=j:=by
   rw[seqIndex_of h0 h5]at h1;exact Option.some.inj h1
  exact item_listR pl.isList h0 (by omega) (by rw[hj];simpa using ew) fin hs
 ·have hj:(i+(its.toArray.size:Int)).toNat=j:=by
   rw[seqIndex_neg (by omega) h4]at h1;rw[List.size_toArray,<-hl];exact Option.some.inj h1
  exact subscriptTail_builtinR (x:=w) pl.isList.typeIs slot_list_getitem.lookup
   (wpAny_getItem_list_neg (Q:=λr s'=>r=w/\EP X pins σ Q r s') pl.isList (by omega) (by rw[List.size_toArray]<;>omega) (by omega) (by rw[hj];simpa using ew) ⟨rfl,fin⟩) hs
theorem zNG:IxR X (rIxT X.K):=by
 intro value slice pins s σ H x y v u Q I rx ry h hs;obtain⟨p,xs,i,z,rfl,rfl,hq,he,q⟩:=h
 cases rx
 obtain⟨t,rfl⟩:=ry;obtain⟨its,r,pl,hz⟩:=I.tuple hq;obtain⟨j,h1,h2,h3,h4,h5⟩:=zGe he;obtain⟨w,ew,rw'⟩:=r.get h2;have hl:=r.length;have hn:=line63;have fin:EP X pins σ Q w s:=⟨z,H,I,rw',q⟩;exact subscriptTail_builtinR (x:=w) pl.typeIs slot_tuple_getitem.lookup
  (getItem_tuple (j:=j) (Q:=λr s'=>r=w/\EP X pins σ Q r s') pl (by omega) (by omega) (by rw[List.size_toArray,<-hl];exact h1) (by simpa using ew) ⟨rfl,fin⟩) hs
theorem zNH:IxR X rIxS:=by
 intro value slice pins s σ H x y v u Q I rx ry h hs;obtain⟨z,i,c,rfl,rfl,hz,he,q⟩:=h;obtain⟨t,rfl⟩:=rx;obtain⟨t',rfl⟩:=ry;obtain⟨j,h1,h2,h3,h4,h5⟩:=zGe he;have hl:z.cps.toList.length=z.length:=by simp[Str.length]
 rw[hl]at h1 h4 h5;have hn:=line63;exact tail_any (typeIs_str s z t) slot_str_getitem.lookup (getItem_str (c:=c) (by
  have e1:decide (i< -(2^63:Int))=false:=decide_eq_false (by omega);have e2:decide (i>=2^63)=false:=decide_eq_false (by omega);rw[e1,e2,Bool.or_false]) (by rw[h1];simpa using h2) ⟨.str ⟨#[c]⟩,H,I.tok _,⟨_,rfl⟩,q⟩) hs
theorem zHh(its:List Value)(n j:Nat)(u:Value):Obj.mapSeq (·.setIfInBounds j u) {cls:= .type "list",data:= .seq its.toArray n}={cls:= .type "list",data:= .seq (its.set j u).toArray n}:=by
 simp[Obj.mapSeq]
theorem Inv.lst{pins:List (Addr×Obj)}{σ:St}{H:Hp}{s:Shared}{p:Addr}{xs:List V}(I:Inv X pins σ H s)(h:H p=some (.lst xs)):
 ∃ (its:List Value) (n:Nat),Vals xs its/\s.heap.get? p=some {cls:= .type "list",data:= .seq its.toArray n}/\xs.length<=sizeLine:=by
 obtain⟨z,its,n,r,e⟩:=I.hok p _ h;exact⟨its,n,r,e,z⟩
theorem Inv.lstUpd{pins:List (Addr×Obj)}{σ:St}{H:Hp}{s:Shared}{p:Addr}{xs ys:List V}{its its':List Value}{n n':Nat}{f:Obj->Obj}(I:Inv X pins σ H s)(h:H p=some (.lst xs))
 (ho:s.heap.get? p=some {cls:= .type "list",data:= .seq its.toArray n}) (hf:f {cls:= .type "list",data:= .seq its.toArray n}={cls:= .type "list",data:= .seq its'.toArray n'}) (r:Vals ys its') (hz:ys.length<=sizeLine) (t:Nat):
 Inv X pins σ (upd H p (.lst ys)) {s with heap:=s.heap.update p f,toks:=t}:=by
 have e:(s.heap.update p f).get? p=some {cls:= .type "list",data:= .seq its'.toArray n'}:=by
  rw[Heap.get?_update_self f ho (by rw[hf]<;>rfl),hf]
 refine I.write (x:=p) (e:=p) (by rw[h];trivial) (.inl rfl) (λb u hb q=>(Heap.get?_update_other _ _ (Ne.symm hb)).trans q) ⟨_,e⟩ ?_;exact⟨hz,its',n',r,e⟩
def rSetL:V->V->V->Hp->(Hp->Prop)->Prop:=λo i v H Q=>∃p xs k j,o= .ref p/\i= .int k/\H p=some (.lst xs)/\ixN xs.length k=some j/\Q (upd H p (.lst (xs.set j v)))
theorem zA1:PSet X rSetL:=by
 intro pins s σ H o i v ov iv u Q I ro ri rv h;obtain⟨p,xs,k,j,rfl,rfl,hp,hj,q⟩:=h
 cases ro
 obtain⟨t,rfl⟩:=ri;obtain⟨its,n,r,ho,hz⟩:=I.lst hp;obtain⟨h1,h2,h3,h4⟩:=zIk hj;have hl:=r.length;have hn:=line63;have I':Inv X pins σ (upd H p (.lst (xs.set j v))) {s with heap:=s.heap.update p (Obj.mapSeq (·.setIfInBounds j u))}:=
  I.lstUpd hp ho (zHh its n j u) (r.set rv j) (by rw[List.length_set];exact hz) s.toks
 by_cases h0:0<=k
 ·have hk:k.toNat=j:=by
   rw[seqIndex_of h0 h4]at h1;exact Option.some.inj h1
  exact PySem.W.ki_setAt ho h0 (by omega) (by rw[List.size_toArray,<-hl];exact h4) (by rw[hk];exact⟨_,I',q⟩)
 ·have hk:(k+(its.toArray.size:Int)).toNat=j:=by
   rw[seqIndex_neg (by omega) h3]at h1;rw[List.size_toArray,<-hl];exact Option.some.inj h1
  exact PySem.W.ki_setBack ho (by omega) (by rw[List.size_toArray,<-hl];exact h3) (by omega) (by rw[hk];exact⟨_,I',q⟩)
theorem zFH(lo hi:Option Int)(n:Nat):(sliceBounds lo hi none n).1=((HT.sIx n 0 lo:Nat):Int)/\(sliceBounds lo hi none n).2.1=((HT.sIx n n hi:Nat):Int)/\(sliceBounds lo hi none n).2.2=1:=by
 refine⟨?_,?_,rfl⟩
 ·cases lo with
  |none=>simp[sliceBounds,HT.sIx]
  |some i=>
   simp only[sliceBounds,HT.sIx,Option.getD_none,show(1:Int)>0 by decide,if_true]
   by_cases h:i<0
   ·simp only[h,if_true]<;>omega
   ·simp only[h,if_false]<;>omega
 ·cases hi with
  |none=>simp[sliceBounds,HT.sIx]
  |some i=>
   simp only[sliceBounds,HT.sIx,Option.getD_none,show(1:Int)>0 by decide,if_true]
   by_cases h:i<0
   ·simp only[h,if_true]<;>omega
   ·simp only[h,if_false]<;>omega
theorem zEi(its:List Value)(lo hi:Option Int):slicePick its.toArray lo hi none=((its.drop (HT.sIx its.length 0 lo)).take (HT.sIx its.length its.length hi-HT.sIx its.length 0 lo)).toArray:=by
 obtain⟨h1,h2,h3⟩:=zFH lo hi its.toArray.size;unfold slicePick;rw[h1,h2,h3];simp only[sliceRange_one,pick_run,List.size_toArray]<;>rfl
def rSlL(K:PySem.W.Frag):V->Option Int->Option Int->Hp->VK->Prop:=λx lo hi H Q=>∃a xs,x= .ref a/\SqL K H a xs/\∀p,H p=none->Q (.ref p) (upd H p (.lst (cutV xs lo hi)))
theorem zK5:SlR X (rSlL X.K):=by
 intro pins s σ H x v vl vu lo hi sl Q I rx hs pl pu h;obtain⟨a,xs,rfl,hx,q⟩:=h
 cases rx
 obtain⟨its,r,ht,hz⟩:=I.list hx;have hlen:=r.length;refine⟨"list",_,slot_list_getitem.lookup,ht.isList.typeIs,?_⟩;refine wpAny_getItem_list_slice ht.isList hs pl pu .none (by simp) ?_ (by rw[List.size_toArray]<;>omega);rw[zEi,<-hlen];refine⟨.ref s.heap.objs.size,_,I.laid (t':=s.toks) (o:= .lst (cutV xs lo hi)) (λb ob q=>Heap.get?_push_of_some _ q) (Nat.le_refl _) ?_,rfl,q _ (I.hok.fresh (Nat.le_refl _))⟩;exact⟨Nat.le_trans (zGX xs lo hi) hz,_,0,(r.drop (HT.sIx xs.length 0 lo)).take (HT.sIx xs.length xs.length hi-HT.sIx xs.length 0 lo),Heap.get?_push_size _ rfl⟩
def flatV:V->Bool
 | .non=>true
 | .bl _=>true
 | .int _=>true
 | .str _=>true
 |_=>false
def eqV:V->V->Bool
 | .non, .non=>true
 | .bl a, .bl b=>a==b
 | .bl a, .int b=>(if a then 1 else 0)==b
 | .int a, .bl b=>a==(if b then 1 else 0)
 | .int a, .int b=>a==b
 | .str a, .str b=>a==b
 |_,_=>false
theorem zKo{A:Around}{s:Shared}{y x:V}{u v:Value}(ry:RelV y u)(rx:RelV x v)(fy:flatV y=true)(fx:flatV x=true):SeqAt.EqAt A s u v (eqV y x):=by
 cases y with
 |non=>
  cases ry
  cases x with
  |non=>cases rx;exact SeqAt.EqAt.same _
  |bl b=>cases rx;exact SeqAt.EqAt.none_bool b
  |int b=>obtain⟨t,rfl⟩:=rx;exact SeqAt.EqAt.none_int b t
  |str b=>obtain⟨t,rfl⟩:=rx;exact SeqAt.EqAt.none_str b t
  |_=>exact absurd (show false=true from fx) Bool.false_ne_true
 |bl a=>
  cases ry
  cases x with
  |non=>cases rx;exact SeqAt.EqAt.bool_none a
  |bl b=>cases rx;exact SeqAt.EqAt.bool_bool a b
  |int b=>obtain⟨t,rfl⟩:=rx;exact SeqAt.EqAt.bool_int a b t
  |str b=>obtain⟨t,rfl⟩:=rx;exact SeqAt.EqAt.bool_str a b t
  |_=>exact absurd (show false=true from fx) Bool.false_ne_true
 |int a=>
  obtain⟨t',rfl⟩:=ry
  cases x with
  |non=>cases rx;exact SeqAt.EqAt.int_none a t'
  |bl b=>cases rx;exact SeqAt.EqAt.int_bool a t' b
  |int b=>obtain⟨t,rfl⟩:=rx;exact SeqAt.EqAt.int_int a t' b t
  |str b=>obtain⟨t,rfl⟩:=rx;exact SeqAt.EqAt.int_str a t' b t
  |_=>exact absurd (show false=true from fx) Bool.false_ne_true
 |str a=>
  obtain⟨t',rfl⟩:=ry
  cases x with
  |non=>cases rx;exact SeqAt.EqAt.str_none a t'
  |bl b=>cases rx;exact SeqAt.EqAt.str_bool a t' b
  |int b=>obtain⟨t,rfl⟩:=rx;exact SeqAt.EqAt.str_int a t' b t
  |str b=>obtain⟨t,rfl⟩:=rx;exact SeqAt.EqAt.str_str a t' b t
  |_=>exact absurd (show false=true from fx) Bool.false_ne_true
 |_=>exact absurd (show false=true from fy) Bool.false_ne_true
def eqU(x:V)(u:Value):Bool:=match u with
 | .none=>eqV .non x
 | .bool b=>eqV (.bl b) x
 | .int i _=>eqV (.int i) x
 | .str z _=>eqV (.str z) x
 |_=>false
theorem zKn{x y:V}{u:Value}(r:RelV y u)(f:flatV y=true):eqU x u=eqV y x:=by
 cases y with
 |non=>cases r;rfl
 |bl b=>cases r;rfl
 |int i=>obtain⟨t,rfl⟩:=r;rfl
 |str z=>obtain⟨t,rfl⟩:=r;rfl
 |_=>exact absurd (show false=true from f) Bool.false_ne_true
theorem zEA{x:V}:∀ {xs:List V} {us:List Value},Vals xs us->xs.all flatV=true->us.any (eqU x)=xs.any λy=>eqV y x
 |_,_, .nil,_=>rfl
 |y::xs,u::us, .cons r t,f=>by
  rw[List.all_cons,Bool.and_eq_true]at f;rw[List.any_cons,List.any_cons,zKn r f.1,zEA t f.2]
theorem zCu{A:Around}{s:Shared}{x:V}{v:Value}(rx:RelV x v)(fx:flatV x=true):∀ {xs:List V} {us:List Value},Vals xs us->xs.all flatV=true->∀u∈us,SeqAt.EqAt A s u v (eqU x u)
 |_,_, .nil,_=>λu hu=>by cases hu
 |y::xs,u::us, .cons r t,f=>λu' hu=>by
  rw[List.all_cons,Bool.and_eq_true]at f;rcases List.mem_cons.mp hu with rfl|hu
  ·rw[zKn r f.1];exact zKo r rx f.1 fx
  ·exact zCu rx fx t f.2 u' hu
def inV(x:V)(xs:List V):Bool:=xs.any λy=>eqV y x
def rIn(K:PySem.W.Frag)(neg:Bool):R2:=λx y H Q=>∃p xs,y= .ref p/\(SqL K H p xs\/SqT K H p xs)/\flatV x=true/\xs.all flatV=true/\Q (.bl (if neg then !inV x xs else inV x xs)) H
theorem zIa:OpR X (compareOp .In) (rIn X.K false):=by
 intro pins s σ H x y v u Q I rx ry h;obtain⟨p,xs,rfl,hq,fx,fs,q⟩:=h
 cases ry
 rcases hq with hq|hq
 ·obtain⟨its,r,pl,hz⟩:=I.list hq;refine SeqAt.in_listAt (eqU x) pl.isList (λw hw=>zCu rx fx r fs w (by simpa using hw)) ⟨.bl _,H,I,rfl,?_⟩;rw[show its.toArray.any (eqU x)=its.any (eqU x) by simp,zEA r fs];exact q
 ·obtain⟨its,r,pl,hz⟩:=I.tuple hq;refine SeqAt.in_tupleAt (eqU x) pl (λw hw=>zCu rx fx r fs w (by simpa using hw)) ⟨.bl _,H,I,rfl,?_⟩;rw[show its.toArray.any (eqU x)=its.any (eqU x) by simp,zEA r fs];exact q
theorem zFS:OpR X (compareOp .NotIn) (rIn X.K true):=by
 intro pins s σ H x y v u Q I rx ry h;obtain⟨p,xs,rfl,hq,fx,fs,q⟩:=h
 cases ry
 rcases hq with hq|hq
 ·obtain⟨its,r,pl,hz⟩:=I.list hq;refine SeqAt.notIn_listAt (eqU x) pl.isList (λw hw=>zCu rx fx r fs w (by simpa using hw)) ⟨.bl _,H,I,rfl,?_⟩;rw[show its.toArray.any (eqU x)=its.any (eqU x) by simp,zEA r fs];exact q
 ·obtain⟨its,r,pl,hz⟩:=I.tuple hq;refine SeqAt.notIn_tupleAt (eqU x) pl (λw hw=>zCu rx fx r fs w (by simpa using hw)) ⟨.bl _,H,I,rfl,?_⟩;rw[show its.toArray.any (eqU x)=its.any (eqU x) by simp,zEA r fs];exact q
theorem zFp:CallR X (.builtin "len") (λxs H Q=>∃p ys,xs=[.ref p]/\(SqL X.K H p ys\/SqT X.K H p ys)/\Q (.int ys.length) H):=by
 intro pins s σ H xs us Q I r h;obtain⟨p,ys,rfl,hq,q⟩:=h;obtain⟨u,rfl,rx⟩:=vals1 r
 cases rx
 have hn:=line63;rcases hq with hq|hq
 ·obtain⟨its,r',pl,hz⟩:=I.list hq;have hlen:=r'.length;exact Calls.call_len_list pl.isList (by simp only[List.size_toArray]<;>omega) ⟨.int ys.length,H,I.tok _,⟨s.toks+1,by rw[List.size_toArray,hlen]⟩,q⟩
 ·obtain⟨its,r',pl,hz⟩:=I.tuple hq;have hlen:=r'.length;exact len_tuple pl (by simp only[List.size_toArray]<;>omega) ⟨.int ys.length,H,I.tok _,⟨s.toks+1,by rw[List.size_toArray,hlen]⟩,q⟩
theorem zFo:CallR X (.builtin "len") (λxs H Q=>∃z,xs=[.str z]/\z.length<=sizeLine/\Q (.int z.length) H):=by
 intro pins s σ H xs us Q I r h;obtain⟨z,rfl,hz,q⟩:=h;obtain⟨u,rfl,t,rfl⟩:=vals1 r;have hn:=line63;exact len_str (by omega) ⟨.int z.length,H,I.tok _,⟨_,rfl⟩,q⟩
theorem CallR.or{f:Value}{r r':List V->Hp->VK->Prop}(h:CallR X f r)(h':CallR X f r'):CallR X f (λxs H Q=>r xs H Q\/r' xs H Q):=by
 intro pins s σ H xs us Q I rs q;rcases q with q|q
 ·exact h pins s σ H xs us Q I rs q
 ·exact h' pins s σ H xs us Q I rs q
theorem zFn:CallR X (.type "list") (λxs H Q=>∃p ys,xs=[.ref p]/\(SqL X.K H p ys\/SqT X.K H p ys)/\∀l,H l=none->Q (.ref l) (upd H l (.lst ys))):=by
 intro pins s σ H xs us Q I r h;obtain⟨p,ys,rfl,hq,q⟩:=h;obtain⟨u,rfl,rx⟩:=vals1 r
 cases rx
 have fin:∀ (its:List Value),Vals ys its->ys.length<=sizeLine->∀ (h':Heap) (c':Nat),(∀b o',s.heap.get? b=some o'->h'.get? b=some o')->
  h'.get? s.heap.objs.size=some {cls:= .type "list",dict:=none,data:= .seq its.toArray c',slots:= #[]}->EP X pins σ Q (.ref s.heap.objs.size) {s with heap:=h'}:=λits r' hz h' c' kp e=>
  ⟨.ref s.heap.objs.size,_,I.laid (t':=s.toks) kp (Nat.le_refl _) (show ObjOk X.prog X.w _ h' _ (.lst ys)from⟨hz,its,c',r',e⟩),rfl,q _ (I.hok.fresh (Nat.le_refl _))⟩
 rcases hq with hq|hq
 ·obtain⟨its,r',pl,hz⟩:=I.list hq;have hlen:=r'.length;obtain⟨o,ho,hc,n,hd⟩:=pl.isList;exact call_list_seq p (.inl rfl) ho hc hd (λh' c' kp e=>fin its r' hz h' c' kp e) (by simp only[List.size_toArray]<;>omega)
 ·obtain⟨its,r',pl,hz⟩:=I.tuple hq;have hlen:=r'.length;obtain⟨o,ho,hc,n,hd⟩:=pl;exact call_list_seq p (.inr rfl) ho hc hd (λh' c' kp e=>fin its r' hz h' c' kp e) (by simp only[List.size_toArray]<;>omega)
def tyV(K:PySem.W.Frag)(T:String)(x:V)(H:Hp):Prop:=match x with
 | .str _=>T="str"
 | .int _=>T="int"
 | .ref p=>(T="list"/\∃xs,SqL K H p xs)\/(T="tuple"/\∃o,K.lookup p=some o/\o.cls= .type "tuple"/\o.dict=none)\/
     (T="dict"/\((∃kvs,H p=some (.dK kvs))\/∃kvs,H p=some (.dT kvs)))\/(T="set"/\∃S n,H p=some (.set S n))
 |_=>False
theorem zKS{pins:List (Addr×Obj)}{σ:St}{H:Hp}{s:Shared}{T:String}{x:V}{v:Value}(I:Inv X pins σ H s)(r:RelV x v)(ty:tyV X.K T x H):
 s.TypeIs v T/\∀a,v= .ref a->∃ob,s.heap.get? a=some ob/\ob.dict=none:=by
 cases x with
 |str z=>
  obtain⟨t,rfl⟩:=r
  cases(show T="str" from ty)
  exact⟨typeIs_str s z t,λ_ e=>nomatch e⟩
 |int i=>
  obtain⟨t,rfl⟩:=r
  cases(show T="int" from ty)
  exact⟨typeIs_int s i t,λ_ e=>nomatch e⟩
 |ref p=>
  cases r
  rcases ty with⟨rfl,xs,hq⟩|⟨rfl,o,hk,hc,hd⟩|⟨rfl,hk⟩|⟨rfl,S,n,hk⟩
  ·obtain⟨its,_,pl,_⟩:=I.list hq;refine⟨pl.isList.typeIs,λa e=>?_⟩
   cases e
   obtain⟨o,n,e,c,hd,_⟩:=pl;exact⟨o,e,hd⟩
  ·refine⟨⟨o,I.kIn p o hk,hc⟩,λa e=>?_⟩
   cases e
   exact⟨o,I.kIn _ o hk,hd⟩
  ·have z:∃o,s.heap.get? p=some o/\o.ExactDict:=by
    rcases hk with⟨kvs,hk⟩|⟨kvs,hk⟩
    ·obtain⟨_,_,_,_,o,_,_,e,ex,_⟩:=I.hok p _ hk;exact⟨o,e,ex⟩
    ·obtain⟨_,_,_,_,o,_,_,e,ex,_⟩:=I.hok p _ hk;exact⟨o,e,ex⟩
   obtain⟨o,e,ex⟩:=z;refine⟨⟨o,e,ex.1⟩,λa e2=>?_⟩
   cases e2
   exact⟨o,e,ex.2.1⟩
  ·obtain⟨o,_,_,_,e,ex,_⟩:=I.hok p _ hk;refine⟨⟨o,e,ex.1⟩,λa e2=>?_⟩
   cases e2
   exact⟨o,e,ex.2.1⟩
 |_=>exact False.elim ty
def tBM0(K:PySem.W.Frag)(T:String)(r:V->List V->Hp->VK->Prop)(to:TE):TE:=λσ H Q=>to σ H λx H1=>tyV K T x H1/\r x [] H1 Q
def tBM(K:PySem.W.Frag)(T:String)(r:V->List V->Hp->VK->Prop)(to:TE)(t:TA):TE:=λσ H Q=>to σ H λx H1=>tyV K T x H1/\t σ H1 λxs H2=>r x xs H2 Q
variable{o e:Expr}{es:List Expr}{to:TE}{t:TA}{name:Str}{apos cpos:Pos}{T id:String}{r:V->List V->Hp->VK->Prop}
theorem zMx(pa:PlainAttrs T)(slot:Slot T name id)(hty:typeOf (.builtin id)=pure (.type "method_descriptor"))(hm:MtR X id r)(ho:PE X o to)
 (hbase:attributeBase o name X.env (eval o X.env)=eval o X.env:=by rfl) (hline:(apos.endLine==cpos.line)=true:=by rfl):PE X (.Call (.Attribute o name apos) [] [] cpos) (tBM0 X.K T r to):=by
 intro pins s σ H Q I h;refine wpAny_Call_method0_late hbase hline (thn (ho pins s σ H _ I h) λv s1 ⟨x,H1,I1,r1,ty,q1⟩=>?_);obtain⟨h1,h2⟩:=zKS I1 r1 ty;exact⟨T,id,pa,slot,hty,h1,h2,Calls.callWith_builtin rfl (PySem.evalArgs_none (hm pins s1 σ H1 x [] v [] Q I1 r1 .nil q1))⟩
theorem zOA(pa:PlainAttrs T)(slot:Slot T name id)(hty:typeOf (.builtin id)=pure (.type "method_descriptor"))(hm:MtR X id r)(ho:PE X o to)(ha:PA X (e::es) t)
 (hbase:attributeBase o name X.env (eval o X.env)=eval o X.env:=by rfl)
 (hfew:((backTo cpos (starEach (e::es) X.env)).all (λx=> !x.1)&&(backToKw cpos (keywordEach [] X.env)).all (λx=>x.1.isSome)
   &&decide ((e::es).length+([]:List Keyword).length+(if([]:List Keyword).isEmpty then 0 else 1)<30))=true:=by rfl)
 (hline:(apos.endLine==cpos.line)=true:=by rfl) (hs:starEach (e::es) X.env=(false,eval e X.env)::starEach es X.env:=by rfl) (hplain:(backTo cpos (starEach es X.env)).any (·.1)=false:=by rfl):
 PE X (.Call (.Attribute o name apos) (e::es) [] cpos) (tBM X.K T r to t):=by
 intro pins s σ H Q I h;refine wpAny_Call_method_late hbase hfew hline rfl (thn (ho pins s σ H _ I h) λv s1 ⟨x,H1,I1,r1,ty,q1⟩=>?_);obtain⟨h1,h2⟩:=zKS I1 r1 ty;refine⟨T,id,pa,slot,hty,h1,h2,?_⟩;have hA:=ha cpos pins s1 σ H1 _ I1 q1;rw[hs]at hA⊢;refine Calls.callWith_builtin (by show(false||(backTo cpos (starEach es X.env)).any (·.1))=false;rw[hplain]<;>rfl) (Calls.evalArgs_plain ?_);exact thn hA λus s2 ⟨vs,H2,I2,r2,q2⟩=>hm pins s2 σ H2 x vs v us Q I2 r1 r2 q2
end
def MtM(X:Cx)(id:String)(r:V->List V->Hp->VK->Prop):Prop:=
 ∀ (pins:List (Addr×Obj)) (s:Shared) (σ:St) (H:Hp) (x:V) (xs:List V) (v:Value) (us:List Value) (Q:VK),Inv X pins σ H s->RelV x v->Vals xs us->r x xs H Q->
   wpAny (model X.prog X.w) X.A (call (.builtin id) (v::us)) (EP X pins σ Q) X.xe s
theorem Vals.one:∀ {x:V} {us:List Value},Vals [x] us->∃u,us=[u]/\RelV x u
 |_,_, .cons r .nil=>⟨_,rfl,r⟩
theorem Vals.two:∀ {x y:V} {us:List Value},Vals [x,y] us->∃u v,us=[u,v]/\RelV x u/\RelV y v
 |_,_,_, .cons r (.cons q .nil)=>⟨_,_,rfl,r,q⟩
theorem Vals.zero:∀ {us:List Value},Vals [] us->us=[]
 |_, .nil=>rfl
theorem Vals.dropLast{xs:List V}{us:List Value}(h:Vals xs us):Vals xs.dropLast us.dropLast:=by
 induction h with
 |nil=>exact .nil
 |cons r t ih=>
  cases t with
  |nil=>exact .nil
  |cons q t'=>exact .cons r ih
theorem Vals.reverse{xs:List V}{us:List Value}(h:Vals xs us):Vals xs.reverse us.reverse:=by
 induction h with
 |nil=>exact .nil
 |cons r t ih=>rw[List.reverse_cons,List.reverse_cons];exact Vals.append ih (.cons r .nil)
theorem Vals.rep{xs:List V}{us:List Value}(h:Vals xs us):∀k:Nat,Vals (List.replicate k xs).flatten (List.replicate k us).flatten
 |0=> .nil
 |k+1=>by
  rw[List.replicate_succ,List.replicate_succ,List.flatten_cons,List.flatten_cons];exact Vals.append h (Vals.rep h k)
theorem zHl{α:Type}(l:List α):l.eraseIdx (l.length-1)=l.dropLast:=by
 induction l with
 |nil=>rfl
 |cons a r ih=>
  cases r with
  |nil=>rfl
  |cons b r=>
   have e:(a::b::r).length-1=((b::r).length-1)+1:=by
    have h1:(a::b::r).length=r.length+2:=rfl;have h2:(b::r).length=r.length+1:=rfl;omega
   rw[e,List.eraseIdx_cons_succ,ih]
   all_goals rfl
theorem zFg(its:List Value):∀ (k:Nat) (acc:List Value),
 List.foldl (λx1 x2=>x1++x2) acc.toArray (List.replicate k its.toArray)=(acc++(List.replicate k its).flatten).toArray
 |0,acc=>by simp
 |k+1,acc=>by
  have e:acc.toArray++its.toArray=(acc++its).toArray:=by simp
  have e2:(acc++its)++(List.replicate k its).flatten=acc++(List.replicate (k+1) its).flatten:=by
   rw[List.replicate_succ,List.flatten_cons,List.append_assoc]
  rw[<-e2,<-zFg its k (acc++its),<-e,List.replicate_succ,List.foldl_cons]
section
variable{X:Cx}{pins:List (Addr×Obj)}{σ:St}{H:Hp}{s:Shared}{l b:Addr}{xs ys zs:List V}
theorem Inv.lset{its its':List Value}{n:Nat}{f:Array Value->Array Value}{t':Nat}(I:Inv X pins σ H s)(hH:H l=some (.lst xs))
 (e:s.heap.get? l=some {cls:= .type "list",data:= .seq its.toArray n}) (hf:f its.toArray=its'.toArray) (hv:Vals ys its') (hz:ys.length<=sizeLine):
 Inv X pins σ (upd H l (.lst ys)) {s with heap:=s.heap.update l (Obj.mapSeq f),toks:=t'}:=by
 have q:=PySem.IsL.update e f;rw[hf]at q;refine I.write (x:=l) (e:=l) (by rw[hH];exact trivial) (.inl rfl) (λb' u hb hu=>(Heap.get?_update_other s.heap (Obj.mapSeq f) (Ne.symm hb)).trans hu) ⟨_,q⟩ ?_;exact⟨hz,its',_,hv,q⟩
theorem Inv.lnew{its:List Value}{t':Nat}(I:Inv X pins σ H s)(hv:Vals ys its)(hz:ys.length<=sizeLine):
 Inv X pins σ (upd H s.heap.objs.size (.lst ys)) {s with heap:=s.heap.push {cls:= .type "list",data:= .seq its.toArray},toks:=t'}:=
 I.laid (λ_ _ q=>Heap.get?_push_of_some _ q) (Nat.le_refl _) ⟨hz,its,0,hv,Heap.get?_push_size _ rfl⟩
theorem Inv.fresh(I:Inv X pins σ H s):H s.heap.objs.size=none:=I.hok.fresh (Nat.le_refl _)
theorem Inv.lstM(I:Inv X pins σ H s)(hH:H l=some (.lst xs)):xs.length<=sizeLine/\∃ (its:List Value) (n:Nat),Vals xs its/\xs.length=its.length/\s.heap.get? l=some {cls:= .type "list",data:= .seq its.toArray n}:=by
 obtain⟨z,its,n,r,e⟩:=I.hok l _ hH;exact⟨z,its,n,r,r.length,e⟩
theorem notLongL{n:Nat}(h:n<=sizeLine):Builtin.List.listTooLong n=false:=by
 unfold Builtin.List.listTooLong;exact decide_eq_false (by omega)
end
section
variable{X:Cx}
def rAppend:V->List V->Hp->VK->Prop:=λx vs H Q=>∃l xs y,x= .ref l/\vs=[y]/\H l=some (.lst xs)/\xs.length<sizeLine/\Q .non (upd H l (.lst (xs++[y])))
theorem zBn:MtM X "list.append" rAppend:=by
 intro pins s σ H x vs v us Q I rx rv h;obtain⟨l,xs,y,rfl,rfl,hH,hz,q⟩:=h
 cases rx
 obtain⟨u,rfl,ru⟩:=rv.one;obtain⟨z,its,n,r,hl,e⟩:=I.lstM hH;refine call_meets F.slot_list_append ⟨_,e,rfl⟩ F.entry_list_append (F.args_list_append_2 _ _) (PySem.list_append l its.toArray n u (by rw[List.size_toArray];omega)) ⟨e,?_⟩;refine⟨.non,_,I.lset (its':=its++[u]) hH e (by simp) (r.append (.cons ru .nil)) ?_,rfl,q⟩;rw[List.length_append,List.length_singleton];omega
def rPop:V->List V->Hp->VK->Prop:=λx vs H Q=>∃l xs y,x= .ref l/\vs=[]/\H l=some (.lst xs)/\xs[xs.length-1]? =some y/\Q y (upd H l (.lst xs.dropLast))
theorem zKj:MtM X "list.pop" rPop:=by
 intro pins s σ H x vs v us Q I rx rv h;obtain⟨l,xs,y,rfl,rfl,hH,hy,q⟩:=h
 cases rx
 have hus:=rv.zero;subst hus;obtain⟨z,its,n,r,hl,e⟩:=I.lstM hH;obtain⟨u,hu,ru⟩:=r.get hy;have hy':its.toArray[its.toArray.size-1]? =some u:=by
  show its.toArray[its.length-1]? =some u;rw[<-Array.getElem?_toList,<-hl];exact hu
 refine call_meets F.slot_list_pop ⟨_,e,rfl⟩ F.entry_list_pop (F.args_list_pop_1 _) (MeetsSeq.list_pop_last l its.toArray n u hy' (by rw[List.size_toArray];omega)) ⟨e,?_⟩;refine⟨y,_,I.lset (its':=its.dropLast) hH e ?_ r.dropLast ?_,ru,q⟩
 ·show its.toArray.eraseIdxIfInBounds (its.toArray.size-1)=its.dropLast.toArray;rw[List.size_toArray,List.eraseIdxIfInBounds_toArray,zHl]
 ·rw[List.length_dropLast];omega
def rCat:R2:=λx y H Q=>∃l b xs zs,x= .ref l/\y= .ref b/\H l=some (.lst xs)/\H b=some (.lst zs)/\xs.length+zs.length<=sizeLine/\∀p,H p=none->Q (.ref p) (upd H p (.lst (xs++zs)))
theorem zM7:OpR X (binaryOp .Add) rCat:=by
 intro pins s σ H x y v u Q I rx ry h;obtain⟨l,b,xs,zs,rfl,rfl,hH,hB,hz,q⟩:=h
 cases rx
 cases ry
 obtain⟨z,its,n,r,hl,e⟩:=I.lstM hH;obtain⟨z2,its2,n2,r2,hl2,e2⟩:=I.lstM hB;refine PySem.P.add_list e e2 ?_ (by rw[List.size_toArray,List.size_toArray];omega);have ea:its.toArray++its2.toArray=(its++its2).toArray:=by simp
 rw[ea];exact⟨.ref _,_,I.lnew (t':=s.toks) (r.append r2) (by rw[List.length_append];omega),rfl,q _ I.fresh⟩
def rRep:R2:=λx y H Q=>∃l k xs,x= .ref l/\y= .int k/\H l=some (.lst xs)/\ -(2^63)<=k/\k<2^63/\xs.length*k.toNat<=sizeLine/\
 ∀p,H p=none->Q (.ref p) (upd H p (.lst (List.replicate k.toNat xs).flatten))
theorem zLm{α:Type}(xs:List α)(k:Nat):(List.replicate k xs).flatten.length=k*xs.length:=by
 induction k with
 |zero=>simp
 |succ k ih=>rw[List.replicate_succ,List.flatten_cons,List.length_append,ih,Nat.succ_mul,Nat.add_comm]
theorem op_rep:OpR X (binaryOp .Mult) rRep:=by
 intro pins s σ H x y v u Q I rx ry h;obtain⟨l,k,xs,rfl,rfl,hH,h1,h2,hz,q⟩:=h
 cases rx
 obtain⟨t,rfl⟩:=ry;obtain⟨z,its,n,r,hl,e⟩:=I.lstM hH;have hlen:its.toArray.size*k.toNat<=sizeLine:=by rw[List.size_toArray,<-hl];exact hz
 have hcap:¬its.toArray.size*k.toNat>(2^63-1)/8:=by
  have:(sizeLine:Nat)<=(2^63-1)/8:=by decide
  omega
 have hfit:¬ (!Builtin.List.listFitsIndex k)=true:=by
  rw[fitsIndex_both h1 h2];exact Bool.false_ne_true
 have hlong:¬Builtin.List.listTooLong (its.toArray.size*k.toNat)=true:=by
  rw[notLongL hlen];exact Bool.false_ne_true
 have hnew:List.foldl (λx1 x2=>x1++x2) #[] (List.replicate (if its.toArray.isEmpty=true then 0 else k.toNat) its.toArray)=(List.replicate k.toNat its).flatten.toArray:=by
  have f0:∀m:Nat,List.foldl (λx1 x2=>x1++x2) #[] (List.replicate m its.toArray)=(List.replicate m its).flatten.toArray:=λm=>by
   have:=zFg its m [];rw[List.nil_append]at this;exact this
  rw[f0]
  cases its with
  |nil=>simp
  |cons a r'=>rw[if_neg (by simp)]
 refine wpAny_binaryOp_repeat_ref (T:="list") (U:="int") (by decide) ⟨_,e,rfl⟩ (λs'=>typeIs_int s' k t) noFill_list_mul F.fills_int_mul F.slot_int_rmul repeat_list F.slot_int_index.lookup
  (call_meets F.slot_int_rmul (typeIs_int s k t) F.entry_int_rmul (F.args_int_rmul_2 _ _) (int___rmul___int_list k t l its.toArray n)
    ⟨e,rfl,⟨_,e,rfl⟩,call_meets F.slot_list_mul ⟨_,e,rfl⟩ F.entry_list_mul (F.args_list_mul_2 _ _) (AutoListH.list___mul___list_int_3 l its.toArray n k t hfit hcap hlong) ⟨e,?_⟩⟩)
 rw[hnew];exact⟨.ref _,_,I.lnew (t':=s.toks) (r.rep k.toNat) (by rw[zLm,Nat.mul_comm];exact hz),rfl,q _ I.fresh⟩
end
section
variable{prog:Program}{w:World}{A:Around}{E:Value->Shared->Prop}{s:Shared}
end
section
variable{X:Cx}
end
end L2
namespace Att
open PySem PySem.W PySem.Calls PyProof.Rows
theorem zD2{P:Params}{h:Heap}:∀ (ns:List Int) (vs:List Value),WellAll P h vs (ns.map WData.int)->IntsAre vs ns:=by
 intro ns
 induction ns with
 |nil=>
  intro vs w;rw[List.map_nil]at w
  cases w
  exact .nil
 |cons n ns ih=>
  intro vs w;rw[List.map_cons]at w
  cases w with
  |cons a b=>
   cases a
   exact .cons _ _ (ih _ b)
theorem zID{l:OpenLaw}{n:Nat}(hn:l.most=some n){P:Params}{h:Heap}{args:List WData}{vals:List Value}
 (hpre:l.row.toRowW.claim.pre args=true) (hwl:WellAll P h vals args):
 ∃a vs ns,vals=[Value.ref a]/\args=[WData.list (ns.map WData.int)]/\h.get? a=some {cls:= .type "list",data:= .seq vs.toArray}/\IntsAre vs ns/\ns.length<=n:=by
 have hsh:WShape.hasAll [] args [.list .int]=true:=(pre_splitW hpre).1;have hc:l.pre.holds [] {args:=args}=true:=(pre_splitW hpre).2;obtain⟨d,r,rfl,h1,h2⟩:=hasAllW_cons hsh;obtain rfl:=hasAllW_nil h2;obtain⟨xs,rfl,h3⟩:=hasW_list h1;obtain⟨ns,rfl⟩:=items_int h3;have hlen:ns.length<=n:=by
  unfold OpenLaw.pre at hc;have h4:(WTm.not (.lt (.lit (.int (n:Int))) (.len (.arg 0)))).holds [] {args:=[.list (ns.map .int)]}=true:=by
   have h4:=(holds_andW hc).1;rw[hn]at h4;exact h4
  have h5:=condW_of h4 (w_not (w_lt w_lit (w_len_list (w_arg rfl))));rw[List.length_map]at h5;refine Nat.le_of_not_lt λq=>?_;have q':(n:Int)<((ns.length:Nat):Int):=by omega
  first
   |(rw[decide_eq_true q']at h5;exact absurd h5 (by decide))
   |(simp at h5;omega)
 cases hwl with
 |cons w1 w2=>
  cases w2
  cases w1 with
  |list ho hall=>exact⟨_,_,ns,rfl,rfl,ho,zD2 ns _ hall,hlen⟩
theorem zIO(l:OpenLaw)(args:List WData):l.row.toRowW.claim.post args (.bool true) args=true:=
 postW_of (r:=l.row.toRowW) (X:=(true==true))
  (show WShape.has [] (.bool true) .bool=true by first|rfl|decide|simp[WShape.has,WShape.arms,WShape.armsAll])
  (show(WTm.eq .res (.lit (.bool true))).value [] {args:=args,res:=some (.bool true),after:=args}=some (.bool (true==true))from w_eq_bool (w_res rfl) w_lit) rfl
theorem attach_call{l:OpenLaw}{n:Nat}{q:Program}{loose:List Str}{XP:(Str->Option Value)->Heap->Prop}{YP:World->Heap->Prop}{d:DefRec}
 (hn:l.most=some n) (hdf:d.params.defaults=[])
 (call:∀ (w:World) (s₀ s₁:Shared) (mg mb:Str->Option Value) (fa:Addr) (o:Obj) (pm cd doc:Value) (a:Addr) (vs:List Value) (ns:List Int),
   Ground q loose [] XP w s₀ mg mb s₁.heap->YP w s₁.heap->
   s₁.heap.get? fa=some o->o.data= .func (docDef d.name d.params d.body d.scope pm cd doc)->s₁.heap.CodeRec cd d.name->mg d.name=some (.ref fa)->
   s₁.heap.get? a=some {cls:= .type "list",data:= .seq vs.toArray}->IntsAre vs ns->ns.length<=n->s₁.gens= #[]->
   codeAny (model l.prog w) callerA (.call (.ref fa) ⟨[.ref a],[]⟩) (λr s'=>r= .ok (.ret (.bool true))/\OldK s₁.heap s'.heap/\s'.os=s₁.os/\AllBare s'.gens) s₁):
 WalkO q loose XP YP l.row.toRowW d [] (λf vs=>PySem.call f vs):=by
 intro w s₀ s₁ mg mb G Y fa o pm cd doc dV kV ho hd hcd hD hmg hg args vals as hpre hlay hrd hwl hlo;obtain rfl:dV= .none:=Dflts.none hD hdf;obtain rfl:kV= .none:=Dflts.noKw hD;obtain⟨a,vs,ns,rfl,rfl,hobj,hints,hlen⟩:=zID hn hpre hwl;refine enter_call (codeAny_mono (call w s₀ s₁ mg mb fa o pm cd doc a vs ns G Y ho (fd_plain hd) hcd hmg hobj hints hlen hg) λr s' hq=>?_);obtain⟨rfl,h2,h3,h4⟩:=hq;exact⟨.inl ⟨.bool true, .bool true,[],rfl,λ_=>rfl, .bool true,zIO l _,λ_=>⟨List.Pairwise.nil,λ_ hm=>(nomatch hm)⟩⟩,h2,h3,h4⟩
section
variable{prog:Program}{w:World}{A:Around}{E:Value->Shared->Prop}{s:Shared}{K:Frag}
end
end Att
namespace L2
open PySem PySem.Spec PyProof.Rows
theorem zFC:∀ {vs:List Value} {ns:List Int},IntsAre vs ns->Vals (ns.map V.int) vs
 |_,_, .nil=> .nil
 |_,_, .cons n t h=> .cons ⟨t,rfl⟩ (zFC h)
def Only(H:Hp):Prop:=∀b,H b=none\/∃o xs,H b=some (.frz o (.lst xs))
theorem zJy{P:Program}{w:World}{K:PySem.W.Frag}{mg mb:Str->Option Value}{CX:CXT}{k:Nat}{fa a:Addr}{fd:FuncData}{x:Str}{sp:Sp}{s₁:Shared}{vs:List Value}{ns:List Int}
 (KX:K.In s₁.heap) (hns:s₁.heap.Ns mainGlobals mg) (hb:s₁.heap.Ns builtinsNs mb) (hbb:∀x:Str,x≠"__name__"->mb x=bootBuiltins x) (hlim:s₁.heap.NoLimit) (hg:s₁.gens= #[])
 (ha:s₁.heap.get? a=some {cls:= .type "list",data:= .seq vs.toArray}) (hi:IntsAre vs ns) (hl:ns.length<=sizeLine) (hr:Room k callerA)
 (F:∀base:Heap,K.In base->base.Ns mainGlobals mg->FnOk P w K mg base CX k fa fd [x] sp) (hbind:∀ (s:Shared) (u:Value),BindsTo s fd ⟨[u],[]⟩ [(x,u)])
 (hsp:∀H:Hp,Only H->SqL K H a (ns.map V.int)->sp [.ref a] H (λv _=>v= .bl true) λ_ _ _=>False)
 (hCX:∀H e s',CX [] H s₁ (λ_ _ _=>False) e s'->False):
 codeAny (model P w) callerA (.call (.ref fa) ⟨[.ref a],[]⟩) (λr s'=>r= .ok (.ret (.bool true))/\OldK s₁.heap s'.heap/\s'.os=s₁.os/\AllBare s'.gens) s₁:=by
 have rv:=zFC hi;have lenV:=hi.length;have core:∀H:Hp,Only H->SqL K H a (ns.map V.int)->HOk P w H s₁.heap->(∀b,H b≠none->b=a)->(H a≠none->K.lookup a=none)->
  codeAny (model P w) callerA (.call (.ref fa) ⟨[.ref a],[]⟩) (λr s'=>r= .ok (.ret (.bool true))/\OldK s₁.heap s'.heap/\s'.os=s₁.os/\AllBare s'.gens) s₁:=by
  intro H hO hS hok hA hK;have base_of:∀ {b:Addr} {o:Obj},s₁.heap.get? b=some o->H b=none->(hidT s₁.heap H).get? b=some o:=λe n=>zJ1 e n;have noA:∀ {b:Addr} {o:Obj} {es:Array DictEntry} {ep:Nat},s₁.heap.get? b=some o->o.data= .dict es ep->H b=none:=fun{b o es ep} e d=>by
   cases q:H b with
   |none=>rfl
   |some u=>
    have e':b=a:=hA b (by rw[q];simp);subst e';rw[ha]at e;cases e;have d':Data.seq vs.toArray _=Data.dict es ep:=d
    cases d'
  have nsK:∀ {b:Addr} {m:Str->Option Value},s₁.heap.Ns b m->(hidT s₁.heap H).Ns b m:=fun{b m} ⟨o,es,ep,e,d,r⟩=>⟨o,es,ep,base_of e (noA e d),d,r⟩;have hKb:K.In (hidT s₁.heap H):=λb o e=>base_of (KX b o e) (by
   cases q:H b with
   |none=>rfl
   |some u=>
    have e':b=a:=hA b (by rw[q];simp);subst e';rw[hK (by rw[q];simp)]at e;cases e)
  have hM:Mod K mg (hidT s₁.heap H):=⟨hKb,nsK hns,⟨mb,nsK hb,hbb⟩,let⟨mc,h1,h2⟩:=hlim;⟨mc,nsK h1,h2⟩⟩;have e0:Env0 P w K mg (hidT s₁.heap H) callerA [] s₁ H:=⟨rfl,hM,λb o e=>zLk e,Nat.le_of_eq (zIr _ _),trivial,λb hb=>absurd (show b∈([]:List Addr)from hb) (by simp),hok, .of_eq hg⟩;refine codeAny_mono ((F _ hKb (nsK hns)).run callerA [] s₁ H ⟨[.ref a],[]⟩ [.ref a] [.ref a] _ _ hr e0 (hbind s₁ (.ref a)) (.cons rfl .nil) (hsp H hO hS)) λr s' h=>?_
  cases r with
  |error e=>exact(hCX H e s' h).elim
  |ok fl=>
   cases fl with
   |next=>exact False.elim h
   |brk=>exact False.elim h
   |cont=>exact False.elim h
   |ret u=>
    obtain⟨v,H',os,bare,un,hok',r',q⟩:=h;have q':v= .bl true:=q;subst q';obtain rfl:u=Value.bool true:=r';refine⟨rfl,OldK.of_keep λb o e=>?_,os,bare⟩
    cases q:H b with
    |none=>exact un.keep b o e q (by intro z;exact absurd (show b∈([]:List Addr)from z) (by simp)) (by simp)
    |some u=>
     rcases hO b with z|⟨ob,xs,z⟩
     ·rw[q]at z;cases z
     ·have z2:=un.frzs b ob _ z;obtain⟨e1,_⟩:=hok b _ z;obtain⟨e2,_⟩:=hok' b _ z2;rw[e]at e1;cases e1;exact e2
 cases hk:K.lookup a with
 |some o=>
  have e:=KX a o hk;rw[ha]at e
  cases e
  refine core (λ_=>none) (λ_=> .inl rfl) (.inr ⟨_,vs.toArray,_,hk,rfl,rfl,rfl,by rw[List.size_toArray,lenV];exact hl,by simpa using rv⟩) ⟨(λb u z=>by have z':(none:Option HO)=some u:=z;cases z'),(λu z=>nomatch (show(none:Option HO)=some u from z)),let⟨o,_,_,e,_⟩:=hns;⟨mainGlobals,o,by decide,e⟩⟩ (λb z=>absurd rfl z) λz=>absurd rfl z
 |none=>
  refine core (λb=>if b=a then some (.frz {cls:= .type "list",data:= .seq vs.toArray} (.lst (ns.map V.int)))else none) (λb=>?_) (.inl (.inr ⟨{cls:= .type "list",data:= .seq vs.toArray},if_pos rfl⟩)) ⟨λb u z=>?_,(λu z=>by
   by_cases hb:sysModules=a
   ·have z':=(if_pos hb).symm.trans z
    cases z';exact⟨_,_,rfl⟩
   ·have z':=(if_neg hb).symm.trans z
    cases z'),let⟨o,_,_,e,_⟩:=hns;⟨mainGlobals,o,by decide,e⟩⟩ (λb z=>?_) λ_=>hk
  ·by_cases hb:b=a
   ·exact .inr ⟨_,_,if_pos hb⟩
   ·exact .inl (if_neg hb)
  ·by_cases hb:b=a
   ·have z':=(if_pos hb).symm.trans z
    cases z'
    subst hb;exact⟨ha,by rw[List.length_map];exact hl,vs,_,rv,ha⟩
   ·have z':=(if_neg hb).symm.trans z
    cases z'
  ·by_cases hb:b=a
   ·exact hb
   ·exact absurd (if_neg hb) z
theorem walk_of{l:PySem.W.OpenLaw}{n k:Nat}{q:Program}{loose:List Str}{XP:(Str->Option Value)->Heap->Prop}{YP:World->Heap->Prop}{d:DefRec}{K:Params->PySem.W.Frag}{CX:World->CXT}{sp:World->Sp}{x:Str}
 (hn:l.most=some n) (hn2:n<=sizeLine) (hdf:d.params.defaults=[]) (hr:Room k callerA)
 (hY:∀ (w:World) (h:Heap),YP w h->(K w.params).In h)
 (F:∀ (w:World) (mg:Str->Option Value) (fa:Addr) (h:Heap),(K w.params).In h->h.Ns mainGlobals mg->mg d.name=some (.ref fa)->
   ∃fd:FuncData,(∀ (s:Shared) (u:Value),BindsTo s fd ⟨[u],[]⟩ [(x,u)])/\
    ∀base:Heap,(K w.params).In base->base.Ns mainGlobals mg->FnOk l.prog w (K w.params) mg base (CX w) k fa fd [x] (sp w))
 (hsp:∀ (w:World) (H:Hp) (a:Addr) (ns:List Int),ns.length<=n->Only H->SqL (K w.params) H a (ns.map V.int)->sp w [.ref a] H (λv _=>v= .bl true) λ_ _ _=>False)
 (hCX:∀ (w:World) (H:Hp) (s:Shared) (e:Value) (s':Shared),CX w [] H s (λ_ _ _=>False) e s'->False):
 PySem.W.WalkO q loose XP YP l.row.toRowW d [] (λf vs=>PySem.call f vs):=by
 refine Att.attach_call hn hdf λw s₀ s₁ mg mb fa o pm cd doc a vs ns G Y ho hd hcd hmg hobj hints hlen hg=>?_;have KX:=hY w _ Y;obtain⟨fd,hb,hF⟩:=F w mg fa _ KX G.T.g hmg;exact zJy KX G.T.g G.T.b G.T.builtins G.T.nolimit hg hobj hints (Nat.le_trans hlen hn2) hr hF hb (λH hO hS=>hsp w H a ns hlen hO hS) λH e s'=>hCX w H s₁ e s'
def defArgs(s:Stmt):Arguments:=match s with
 | .FunctionDef _ a _ _ _ _ _ _ _ _=>a
 |_=>{posonlyargs:=[],args:=[],vararg:=none,kwonlyargs:=[],kw_defaults:=[],kwarg:=none,defaults:=[]}
def defBody(s:Stmt):List Stmt:=match s with
 | .FunctionDef _ _ b _ _ _ _ _ _ _=>b
 |_=>[]
def defScope(s:Stmt):Scope:=match s with
 | .FunctionDef _ _ _ _ _ _ sc _ _ _=>sc
 |_=>{kind:= .function,names:=[],isGenerator:=false,isCoroutine:=false}
abbrev CX0:CXT:=λ_ _ _ _ _ _=>False
abbrev E0:XK:=λ_ _ _=>False
theorem pass0{X:Cx}:Passes CX0 X E0:=λ_ _ _ _ _ _ _ h=>h.elim
structure Fun (K:PySem.W.Frag) (x qual:Str) (st:Stmt) (f:Addr) (fd:FuncData):Prop where
 ex:∃ (oc:Value) (od:Option Addr) (kV doc pm:Value) (an:Option Addr) (cdv ct:Value) (osl:Array (Option Value)),
  fd=PySem.W.fnOf x qual (defArgs st) (defBody st) (defScope st) .none kV doc pm an cdv ct/\K.lookup f=some ⟨oc,od, .func fd,osl⟩/\PySem.W.codeIn K cdv qual=true
 kp:PySem.W.keepIn K (.ref f)=true
section
variable{P:Program}{w:World}{K:PySem.W.Frag}{mg:Str->Option Value}{base:Heap}
theorem Fun.ok{x qual:Str}{st:Stmt}{f:Addr}{fd:FuncData}{N ps:List Str}{k:Nat}{sp:Sp}(F:Fun K x qual st f fd)(S:FnScope N ps (defScope st))(len:∀vs H Q E,sp vs H Q E->vs.length=ps.length)
 (hbody:∀ (cdv:Value) (A:Around) (outer:List Env) (s:Shared) (H:Hp) (vs:List V) (Q:VK) (E:XK),Room k (A.deeper (envOfC qual (defScope st) s.heap.objs.size f cdv))->sp vs H Q E->
   ∃t,PSs (cxOf CX0 P w K mg base N qual (defScope st) f cdv A outer s H E).nox (defBody st) t/\t {nx:=λ_ H'=>Q .non H',rt:=Q} (start N vs) H):FnOk P w K mg base CX0 (k+1) f fd ps sp:=by
 obtain⟨oc,od,kV,doc,pm,an,cdv,ct,osl,rfl,lk,hcd⟩:=F.ex;refine zNO lk hcd S len λA outer s H vs Q E hr hsp=>?_;obtain⟨t,h,q⟩:=hbody cdv A outer s H vs Q E hr hsp;exact⟨t,h.nox,q⟩
theorem Fun.binds{x qual:Str}{st:Stmt}{f:Addr}{fd:FuncData}{ps:List Str}(F:Fun K x qual st f fd)
 (h:∀ (kV doc pm:Value) (an:Option Addr) (cdv ct:Value) (us:List Value),us.length=ps.length->bindArgs (PySem.W.fnOf x qual (defArgs st) (defBody st) (defScope st) .none kV doc pm an cdv ct) ⟨us,[]⟩=pure (ps.zip us)):Binds K fd ps []:=by
 obtain⟨oc,od,kV,doc,pm,an,cdv,ct,osl,rfl,lk,hcd⟩:=F.ex;exact .all (h kV doc pm an cdv ct)
theorem zNN{x qual:Str}{st:Stmt}{f:Addr}{oc:Value}{od an:Option Addr}{osl:Array (Option Value)}{kV doc pm cdv ct:Value}(l:K.lookup f=some ⟨oc,od, .func (PySem.W.fnOf x qual (defArgs st) (defBody st) (defScope st) .none kV doc pm an cdv ct),osl⟩)
 (c:PySem.W.codeIn K cdv qual=true) (k:PySem.W.keepIn K (.ref f)=true):Fun K x qual st f (PySem.W.fnOf x qual (defArgs st) (defBody st) (defScope st) .none kV doc pm an cdv ct):=⟨⟨oc,od,kV,doc,pm,an,cdv,ct,osl,rfl,l,c⟩,k⟩
end
theorem small1000{n:Nat}(h:n<=1000):n<sizeLine:=Nat.lt_of_le_of_lt h (by decide)
section
variable{X:Cx}
theorem pv(i:Nat){x:Str}{pos:Pos}(hN:X.N[i]? =some x:=by rfl)(hv:Vis X.env.scope x:=by first|exact Or.inl rfl|exact Or.inr (Or.inl rfl)|exact Or.inr (Or.inr rfl))(hd:(x==("__debug__":Str))=false:=by decide)
 (hcd:(x==("__classdict__":Str))=false:=by decide):PE X (.Name x pos) (tVar i):=zMu hN hv hd hcd
end
theorem iteF{A B:Prop}(h:B):if false=true then A else B:=by
 rw[if_neg Bool.false_ne_true];exact h
theorem iteT{A B:Prop}(h:A):if true=true then A else B:=by
 rw[if_pos rfl];exact h
def Same(H H':Hp):Prop:=∀b o,H b=some o->H' b=some o
theorem Same.refl(H:Hp):Same H H:=λ_ _ h=>h
theorem Same.trans{H H1 H2:Hp}(a:Same H H1)(b:Same H1 H2):Same H H2:=λc o h=>b c o (a c o h)
theorem Same.free{H H':Hp}(e:Same H H'){l:Addr}(h:H' l=Option.none):H l=Option.none:=by
 cases q:H l with
 |none=>rfl
 |some o=>
  rw[e l o q]at h
  cases h
theorem Same.seq{K:PySem.W.Frag}{H H':Hp}{a:Addr}{xs:List V}(e:Same H H')(h:SqL K H a xs):SqL K H' a xs:=by
 rcases h with(h|⟨o,h⟩)|h
 ·exact .inl (.inl (e _ _ h))
 ·exact .inl (.inr ⟨o,e _ _ h⟩)
 ·exact .inr h
end L2
set_option maxHeartbeats 8000000
namespace L2
open PySem PySem.Spec PyProof.Rows
theorem zGa{env:Env}:∀ (ns:List (Str×NameKind)) (acc:List (Str×Addr)),(∀y∈ns,y.2= .free->∃c,env.cells.lookup y.1=some c)->(∀x c,acc.lookup x=some c->env.cells.lookup x=some c)->
 ∃cl,(forIn ns acc fun(y:Str×NameKind) cs=>(if(y.2== .free)=true then(do let c<-cellOf env y.1;pure (ForInStep.yield ((y.1,c)::cs)))else pure (ForInStep.yield cs):Sem (ForInStep (List (Str×Addr)))))=pure cl/\
  (∀x c,cl.lookup x=some c->env.cells.lookup x=some c)/\(∀y∈ns,y.2= .free->∃c,cl.lookup y.1=some c)/\∀x c,acc.lookup x=some c->∃c',cl.lookup x=some c'
 |[],acc,_,ha=>⟨acc,rfl,ha,(λ_ h=>nomatch h),λx c e=>⟨c,e⟩⟩
 |(n,k)::r,acc,hf,ha=>by
  rw[List.forIn_cons]
  by_cases hk:k= .free
  ·subst hk;obtain⟨c,hc⟩:=hf (n, .free) List.mem_cons_self rfl;have hcell:cellOf env n=pure c:=by unfold cellOf;rw[hc]
   have ha':∀x c',List.lookup x ((n,c)::acc)=some c'->env.cells.lookup x=some c':=λx c' e=>by
    rw[List.lookup_cons]at e
    cases hx:x==n with
    |true=>rw[hx]at e;simp at e;subst e;rw[eq_of_beq hx];exact hc
    |false=>rw[hx]at e;exact ha x c' e
   obtain⟨cl,e1,e2,e3,e4⟩:=zGa r ((n,c)::acc) (λy hy=>hf y (List.mem_cons_of_mem _ hy)) ha';refine⟨cl,?_,e2,λy hy hyf=>?_,λx c' e=>?_⟩
   ·simp only[beq_self_eq_true,if_true,hcell,pure_bind];exact e1
   ·rcases List.mem_cons.mp hy with rfl|hy
    ·exact e4 n c (by simp[List.lookup_cons])
    ·exact e3 y hy hyf
   ·cases hx:x==n with
    |true=>rw[eq_of_beq hx];exact e4 n c (by simp[List.lookup_cons])
    |false=>exact e4 x c' (by rw[List.lookup_cons,hx];exact e)
  ·have hb:(k==NameKind.free)=false:=by simpa using hk
   obtain⟨cl,e1,e2,e3,e4⟩:=zGa r acc (λy hy=>hf y (List.mem_cons_of_mem _ hy)) ha;refine⟨cl,?_,e2,λy hy hyf=>?_,e4⟩
   ·simp only[hb,Bool.false_eq_true,if_false,pure_bind];exact e1
   ·rcases List.mem_cons.mp hy with rfl|hy
    ·exact absurd hyf hk
    ·exact e3 y hy hyf
theorem zI7{scope:Scope}{env:Env}(h:∀y∈scope.names,y.2= .free->∃c,env.cells.lookup y.1=some c):
 ∃cl,closureFor scope env=pure cl/\(∀x c,cl.lookup x=some c->env.cells.lookup x=some c)/\∀y∈scope.names,y.2= .free->∃c,cl.lookup y.1=some c:=by
 obtain⟨cl,e1,e2,e3,_⟩:=zGa (env:=env) scope.names [] h (λx c e=>nomatch e);refine⟨cl,?_,e2,e3⟩;have e:closureFor scope env=(forIn scope.names ([]:List (Str×Addr)) fun(y:Str×NameKind) cs=>(if(y.2== .free)=true then(do let c<-cellOf env y.1;pure (ForInStep.yield ((y.1,c)::cs)))else pure (ForInStep.yield cs):Sem (ForInStep (List (Str×Addr)))))>>=pure:=by
  rfl
 rw[e,e1,pure_bind]
def cxIn(X:Cx)(own:List Str)(sel:List Nat)(scope:Scope)(cl:List (Str×Addr))(C:Addr)(s2:Shared)(H2:Hp)(fp:List Addr):Cx where
 prog:=X.prog
 w:=X.w
 K:=X.K
 mg:=X.mg
 base:=X.base
 A:=X.A
 N:=own++sel.map λj=>X.N.getD j Str.empty
 s₀:=s2
 H₀:=H2
 env:=compEnvC scope cl C X.env
 outer:=X.stack
 stack:=X.stack
 ex:=fp
 fn:=λ_=>false
 calm:=X.calm
 pn:=[]
 xe:=λ_ _=>False
def inSt(own:List Str)(sel:List Nat)(σ:St):St:=own.map (λ_=>none)++sel.map λj=>σ.getD j none
structure CompOk (osc:Scope) (N:List Str) (own:List Str) (sel:List Nat) (scope:Scope):Prop where
 kind:scope.kind= .function
 cell:∀y∈scope.names,y.2≠ .cell
 names:∀y∈scope.names,y.2= .local->scope.names.lookup y.1=some .local
 free:∀y∈scope.names,y.2= .free->osc.names.lookup y.1=some .cell\/osc.names.lookup y.1=some .free
 seln:∀j∈sel,j<N.length/\scope.names.lookup (N.getD j Str.empty)=some .free/\(osc.names.lookup (N.getD j Str.empty)=some .cell\/osc.names.lookup (N.getD j Str.empty)=some .free)
def PIf(Y:Cx)(ifs:List Expr)(t:TT):Prop:=
 ∀ (pins:List (Addr×Obj)) (s:Shared) (σ:St) (H:Hp) (Q:Bool->Hp->Prop),Inv Y pins σ H s->t σ H Q->
   wpAny (model Y.prog Y.w) Y.A (forIn ifs true λc r=>if r=true then do let ok<-isTrue c Y.env (eval c Y.env);pure (ForInStep.yield ok)else pure (ForInStep.yield r)) (TP Y pins σ Q) Y.xe s
def tYes:TT:=λ_ H Q=>Q true H
theorem zBF{Y:Cx}:PIf Y [] tYes:=λpins s σ H Q I h=>wpAny_tests_nil ⟨H,I,h⟩
def GK(n:Nat)(g:TG):Prop:=∀v σ H Q,g v σ H Q->g v σ H λσ' H'=>Q σ' H'/\σ'.length=σ.length/\∀i,n<=i->σ'[i]? =σ[i]?
theorem zBH{n i:Nat}(h:i<n):GK n (gName i):=λv σ H Q q=>⟨q,by simp,λj hj=>by rw[List.getElem?_set_ne (by omega)]⟩
def tComp(own:List Str)(sel:List Nat)(wi:TI)(g:TG)(tt:TT)(te:TE):TE:=λσ H Q=>wi σ H λJ H1=>∀D,H1 D=none->
 ∃W:Nat->Nat->Hp->Prop,(∃m,W 0 m (upd H1 D (.lst [])))/\∀i m H2,W i m H2->
  (J.stop i H2/\Q (.ref D) H2)\/(J.go i H2/\∀x H3,J.yld i H2 x H3->g x (inSt own sel σ) H3 λσ4 H4=>tt σ4 H4 λb H5=>
    if b=true then te σ4 H5 λv H6=>∃ys,H6 D=some (.lst ys)/\ys.length<sizeLine/\∃m',m'<m/\W (i+1) m' (upd H6 D (.lst (ys++[v])))
    else∃m',m'<m/\W (i+1) m' H5)
section
variable{prog:Program}{w:World}{A:Around}{R:Result->Shared->Prop}{s:Shared}
theorem zEV{elt target iter:Expr}{ifs:List Expr}{scope:Scope}{pos:Pos}{it acc:Value}{env:Env}(I:Nat->Shared->Prop)
 (turn:∀n s,I n s->wpAny (model prog w) A (pyNext it) (λr s1=>match r with
   |none=>R (.ok .next) s1
   |some v=>wpAny (model prog w) A (letOwnedTupleGo target it v) (λ_ s0=>wpAny (model prog w) A (assign target env v) (λ_ s2=>
     wpAny (model prog w) A (forIn ifs true λc r=>if r=true then do let ok<-isTrue c env (eval c env);pure (ForInStep.yield ok)else pure (ForInStep.yield r)) (λok s3=>
      if ok=true then wpAny (model prog w) A (eval elt env) (λx s4=>wpAny (model prog w) A (call (.builtin "list.append") [acc,x]) (λ_ s5=>∃m,m<n/\I m s5) (λ_ _=>False) s4) (λ_ _=>False) s3
      else∃m,m<n/\I m s3) (λ_ _=>False) s2) (λ_ _=>False) s0) (λ_ _=>False) s1) (λ_ _=>False) s)
 (n:Nat) (h:I n s):
 codeAny (model prog w) A (.compLoop (.ListComp elt [⟨target,iter,ifs,0⟩] scope pos) 0 it acc env) R s:=by
 refine codeAny_loop rfl I (λn s hI=>?_) n h;show wpAny _ A ((compTurn (.ListComp elt [⟨target,iter,ifs,0⟩] scope pos) 0 it acc env).onRaise (λx=>do noteFrame x env;theTreesLotGoes x)) _ _ s;refine wpAny_noted ?_;rw[compTurn_list];refine wpAny_bind (wpAny_standAt (wpAny_bind (wpAny_mono (turn n s hI) (λr s1 h1=>?_) λ_ _ z=>z.elim)))
 cases r with
 |none=>exact wpAny_pure h1
 |some v=>
  refine wpAny_bind (wpAny_mono h1 (λ_ s0 h0=>wpAny_bind (wpAny_mono h0 (λ_ s2 h2=>wpAny_bind (wpAny_mono h2 (λok s3 h3=>?_) λ_ _ z=>z.elim)) λ_ _ z=>z.elim)) λ_ _ z=>z.elim)
  cases ok with
  |false=>exact wpAny_pure ⟨rfl,h3⟩
  |true=>
   exact wpAny_bind (wpAny_bind (wpAny_mono h3 (λx s4 h4=>wpAny_bind (wpAny_mono h4 (λ_ s5 h5=>wpAny_pure (wpAny_pure ⟨rfl,h5⟩)) λ_ _ z=>z.elim)) λ_ _ z=>z.elim))
end
section
variable{X:Cx}
theorem zBE{env:Env}:∀ {names:List (Str×NameKind)} {x:Str} {k:NameKind},
 (names.map fun(n,k)=>if(k==NameKind.free&&env.scope.kind== .function&&env.kindOf n==some .cell)then(n,NameKind.cell)else(n,k)).lookup x=some k->
 names.lookup x=some k\/names.lookup x=some .free
 |[],_,_,h=>by simp at h
 |(n,k')::r,x,k,h=>by
  have ih:= @zBE env r x k;have h':List.lookup x ((if(k'==NameKind.free&&env.scope.kind== .function&&env.kindOf n==some .cell)=true then(n,NameKind.cell)else(n,k'))::r.map fun(n,k)=>if(k==NameKind.free&&env.scope.kind== .function&&env.kindOf n==some .cell)then(n,NameKind.cell)else(n,k))=some k:=h
  cases hx:x==n with
  |true=>
   rw[List.lookup_cons,hx]
   by_cases hc:(k'==NameKind.free&&env.scope.kind== .function&&env.kindOf n==some .cell)=true
   ·have:k'= .free:=by simp only[Bool.and_eq_true,beq_iff_eq]at hc;exact hc.1.1
    subst this;exact .inr rfl
   ·rw[if_neg hc,List.lookup_cons,hx]at h';exact .inl h'
  |false=>
   rw[List.lookup_cons,hx]
   by_cases hc:(k'==NameKind.free&&env.scope.kind== .function&&env.kindOf n==some .cell)=true
   ·rw[if_pos hc,List.lookup_cons,hx]at h';exact ih h'
   ·rw[if_neg hc,List.lookup_cons,hx]at h';exact ih h'
theorem zCE{env:Env}(hk:env.scope.kind= .function):∀ {names:List (Str×NameKind)} {x:Str},names.lookup x=some .free->
 (names.map fun(n,k)=>if(k==NameKind.free&&env.scope.kind== .function&&env.kindOf n==some .cell)then(n,NameKind.cell)else(n,k)).lookup x=some .cell\/
 (names.map fun(n,k)=>if(k==NameKind.free&&env.scope.kind== .function&&env.kindOf n==some .cell)then(n,NameKind.cell)else(n,k)).lookup x=some .free
 |[],_,h=>by simp at h
 |(n,k')::r,x,h=>by
  have ih:= @zCE env hk r x;show List.lookup x ((if(k'==NameKind.free&&env.scope.kind== .function&&env.kindOf n==some .cell)=true then(n,NameKind.cell)else(n,k'))::_)=_\/List.lookup x ((if(k'==NameKind.free&&env.scope.kind== .function&&env.kindOf n==some .cell)=true then(n,NameKind.cell)else(n,k'))::_)=_
  cases hx:x==n with
  |true=>
   rw[List.lookup_cons,hx]at h
   by_cases hc:(k'==NameKind.free&&env.scope.kind== .function&&env.kindOf n==some .cell)=true
   ·rw[if_pos hc,List.lookup_cons,hx];exact .inl rfl
   ·rw[if_neg hc,List.lookup_cons,hx];exact .inr h
  |false=>
   rw[List.lookup_cons,hx]at h
   by_cases hc:(k'==NameKind.free&&env.scope.kind== .function&&env.kindOf n==some .cell)=true
   ·rw[if_pos hc,List.lookup_cons,hx];exact ih h
   ·rw[if_neg hc,List.lookup_cons,hx];exact ih h
theorem zE2{own:List Str}{sel:List Nat}{σ:St}{i:Nat}(h:i<own.length):(inSt own sel σ)[i]? =some none:=by
 unfold inSt;rw[List.getElem?_append_left (by simpa using h),List.getElem?_map,List.getElem?_eq_getElem h]
 rfl
theorem zG7{own:List Str}{sel:List Nat}{σ:St}{i:Nat}{v:V}(h:(inSt own sel σ)[i]? =some (some v)):∃k j,i=own.length+k/\sel[k]? =some j/\σ[j]? =some (some v):=by
 by_cases hi:i<own.length
 ·rw[zE2 hi]at h;cases h
 ·unfold inSt at h;rw[List.getElem?_append_right (by simpa using hi),List.getElem?_map]at h;rw[List.length_map]at h
  cases e:sel[i-own.length]? with
  |none=>rw[e]at h;cases h
  |some j=>
   rw[e]at h;simp only[Option.map_some,Option.some.injEq]at h;refine⟨i-own.length,j,by omega,e,?_⟩;rw[List.getD_eq_getElem?_getD]at h
   cases q:σ[j]? with
   |none=>rw[q]at h;cases h
   |some u=>rw[q]at h;simp at h;rw[h]
theorem zG8{own:List Str}{sel:List Nat}{σ:St}:(inSt own sel σ).length=own.length+sel.length:=by
 unfold inSt;simp
structure Far (X:Cx) (pins:List (Addr×Obj)) (H:Hp) (C:Addr):Prop where
 nt:H C=none
 nl:C≠X.env.locals
 up:X.s₀.heap.objs.size<=C
 nc:∀x c,X.env.cells.lookup x=some c->c≠C
 np:∀p∈X.pn++pins,p.1≠C
theorem Inv.far{pins:List (Addr×Obj)}{σ:St}{H:Hp}{s:Shared}{h':Heap}{C:Addr}(I:Inv X pins σ H s)(f:Far X pins H C)(k:Heap.SameBut C s.heap h'):Inv X pins σ H {s with heap:=h'}:=
 I.turned (t':=s.toks) (λb o hb e=>(k.2 b hb).trans e) f.nt f.nl (.inr f.up) f.nc f.np
theorem zFk{elt tg iter:Expr}{ifs:List Expr}{scope:Scope}{pos:Pos}{own:List Str}{sel:List Nat}{wi:TI}{g:TG}{tt:TT}{te:TE}{use:Option (Value->Sem Unit)}{Qo:Value->Shared->Prop}
 (S:CompOk X.env.scope X.N own sel scope) (hc:X.calm=true) (hi:PI X tg iter wi)
 (hg:∀cl C s2 H2 fp,PG (cxIn X own sel scope cl C s2 H2 fp) tg g) (hk:GK own.length g)
 (ht:∀cl C s2 H2 fp,PIf (cxIn X own sel scope cl C s2 H2 fp) ifs tt) (he:∀cl C s2 H2 fp,PE (cxIn X own sel scope cl C s2 H2 fp) elt te)
 (hs:∀x,foldedSetIterable iter X.env x=pure x) {pins:List (Addr×Obj)} {s:Shared} {σ:St} {H:Hp} {Q:VK} {ps:Pos} (I0:Inv X pins σ H s) (h:tComp own sel wi g tt te σ H Q)
 (fin:∀ (D C:Addr) (H':Hp) (s':Shared) (m:Str->Option Value),Inv X pins σ H' s'->s'.heap.Ns C m->Far X pins H' C->Q (.ref D) H'->compPost (model X.prog X.w) X.A X.xe use Qo (.ref D) C (.ok .next) s'):
 wpAny (model X.prog X.w) X.A (comprehension (.ListComp elt [⟨tg,iter,ifs,0⟩] scope pos) scope X.env ps (newList []) false (eval iter X.env) use) Qo X.xe s:=by
 obtain⟨cl,hclos,hcl,hfree⟩:=zI7 (scope:=scope) (env:=X.env) λy hy e=>I0.ok.has y.1 (S.free y hy e);refine wpAny_comprehension_free (use:=use) rfl hs hclos S.kind S.names (thn (hi pins s σ H _ I0 h) λv s1 h1=>thn h1 λitv s2 h2=>?_);obtain⟨it,fp,tn,J,H2,e,I,T,st2,f2,h3⟩:=h2;subst e;clear h h1 I0;refine wpAny_newObj_type (wpAny_newFunctionEnv S.cell (by intro y hy;simp at hy) (λh1 hns1 hsb1=>?_) S.kind)
 dsimp only at hns1 hsb1⊢
 generalize hP:s2.heap.push {cls:= .type "list",dict:=none,data:= .seq ([]:List Value).toArray}=P1 at hns1 hsb1⊢;generalize hD:s2.heap.objs.size=D at hns1 hsb1⊢;generalize hC:P1.objs.size=C at hns1 hsb1⊢;have hCD:C=D+1:=by rw[<-hC,<-hP,Heap.size_push,hD]
 have hlt:D<C:=by rw[hCD];exact Nat.lt_succ_self D
 have hDC:D≠C:=Nat.ne_of_lt hlt;have neC:∀b:Addr,b<D->b≠C:=λb hb=>Nat.ne_of_lt (Nat.lt_trans hb hlt);have neD:∀b:Addr,b<D->b≠D:=λb hb=>Nat.ne_of_lt hb;have hsD:s2.heap.objs.size<=D:=Nat.le_of_eq hD;have hsC:s2.heap.objs.size<=C:=Nat.le_trans hsD (Nat.le_of_lt hlt);have fresh:∀a,D<=a->H2 a=none:=λa ha=>I.hok.fresh (by rw[hD];exact ha);have hnD:H2 D=none:=fresh D (Nat.le_refl _);have hnC:H2 C=none:=fresh C (Nat.le_of_lt hlt);have below:∀b o,s2.heap.get? b=some o->b<D:=λb o e=>by rw[<-hD];exact Heap.lt_size e
 have keep1:∀b o,s2.heap.get? b=some o->h1.get? b=some o:=λb o e=>
  hsb1.extBut b o (neC b (below b o e)) (Heap.get?_push_of_some _ (hP▸Heap.get?_push_of_some _ e))
 have gD:h1.get? D=some {cls:= .type "list",dict:=none,data:= .seq ([]:List Value).toArray}:=by
  refine hsb1.extBut _ _ hDC (Heap.get?_push_of_some _ ?_);rw[<-hP,<-hD];exact Heap.get?_push_size _ rfl
 obtain⟨W,⟨m0,w0⟩,turn⟩:=h3 D hnD;have fpb:∀b∈fp,b<D:=λb hb=>by obtain⟨o,e,_⟩:=T.obj _ _ st2 b hb;exact below b o e
 generalize hY:cxIn X own sel scope cl C s2 H2 fp=Y;have hg:=hg cl C s2 H2 fp;have ht:=ht cl C s2 H2 fp;have he:=he cl C s2 H2 fp;rw[hY]at hg ht he;have okY:Y.Ok:=by
  subst hY;refine⟨I.ok.mod,S.kind,I.ok.glob,I.ok.blt,?_,λx y c a b=>I.ok.inj x y c (hcl _ _ a) (hcl _ _ b),λx hx=>?_,(λ_ _ z=>nomatch z),λz=>I.ok.hd z,I.ok.frames, .inl rfl,λb hb=>⟨?_,λx c e=>(f2 b hb).2.2.2.2.1 x c (hcl _ _ e)⟩,I.bs,
   Nat.le_trans I.ok.bsz I.sz,λb o e hb=>?_,λb hb z=>?_,I.stack,I.stkFree⟩
  ·exact hsC
  ·have hx':(relabel scope X.env).names.lookup x=some .cell\/(relabel scope X.env).names.lookup x=some .free:=hx;have hf:scope.names.lookup x=some .free:=by
    rcases hx' with z|z
    ·rcases zBE z with q|q
     ·exact absurd rfl (S.cell _ (PySem.mem_of_lookup q))
     ·exact q
    ·rcases zBE z with q|q<;>exact q
   exact hfree _ (PySem.mem_of_lookup hf) rfl
  ·exact neC b (fpb b hb)
  ·rcases(f2 b hb).2.2.2.1 with z|z
   ·exact I.ok.noex b o e z
   ·exact absurd (Nat.lt_of_lt_of_le (Heap.lt_size e) (Nat.le_trans I.ok.bsz z)) (Nat.lt_irrefl _)
  ·rcases List.mem_cons.mp (I.stkSub b z)with q|q
   ·exact(f2 b hb).2.1 q
   ·exact(f2 b hb).2.2.1 q
 have eo:ObjOk X.prog X.w (upd H2 D (.lst [])) h1 D (.lst []):=⟨by decide,[],_, .nil,gD⟩;have I1:Inv Y [] (inSt own sel σ) (upd H2 D (.lst [])) {s2 with heap:=h1,toks:=s2.toks+([]:List (Str×Value)).length}:=by
  subst hY;refine⟨okY,rfl,I.bare,Un.laid keep1 hsD hnD,⟨_,hns1,λi x v e1 e2 e3=>?_⟩,λx c e=>?_,?_,λx c e=>?_,λp hp=>absurd (show p∈([]:List (Addr×Obj))from hp) (by simp),I.hok.laid keep1 hsD eo,?_⟩
  ·obtain⟨k,j,ei,ej,es⟩:=zG7 e2;subst ei;have e1':(own++sel.map λj=>X.N.getD j Str.empty)[own.length+k]? =some x:=e1;rw[List.getElem?_append_right (by omega),List.getElem?_map,show own.length+k-own.length=k by omega,ej]at e1';simp only[Option.map_some,Option.some.injEq]at e1';obtain⟨hj,hfx,hkd⟩:=S.seln j (List.mem_of_getElem? ej);have hN:X.N[j]? =some x:=by rw[<-e1',List.getD_eq_getElem?_getD,List.getElem?_eq_getElem hj];rfl
   rw[e1']at hkd hfx;obtain⟨m,_,hl⟩:=I.loc;obtain⟨u,r,lk⟩:=hl j x v hN es (.inr hkd);refine⟨u,r, .inr ⟨zCE I.ok.kind hfx,?_⟩⟩;rcases lk with⟨z1,_⟩|⟨_,c,hc1,hc2⟩
   ·have z1':X.env.scope.names.lookup x=some .local:=z1;rcases hkd with q|q<;>(rw[z1']at q;cases q)
   ·obtain⟨c',q⟩:=hfree _ (PySem.mem_of_lookup hfx) rfl;have q2:=hcl _ _ q;rw[hc1]at q2
    cases q2
    exact⟨c,q,hc2.keeps keep1⟩
  ·obtain⟨u,z⟩:=I.cell x c (hcl _ _ e);exact⟨u,z.keeps keep1⟩
  ·show upd H2 D (.lst []) C=none;rw[zAI (Ne.symm hDC)];exact hnC
  ·have q:=I.freeC x c (hcl _ _ e);obtain⟨u,o,z,_⟩:=I.cell x c (hcl _ _ e);rw[zAI (neD c (below c o z))];exact q
  ·show(inSt own sel σ).length=(own++sel.map λj=>X.N.getD j Str.empty).length;rw[zG8];simp
 have fin:∀ (σ':St) (H':Hp) (s':Shared),Inv Y [] σ' H' s'->Q (.ref D) H'->compPost (model X.prog X.w) X.A X.xe use Qo (.ref D) C (.ok .next) s':=by
  intro σ' H' s' I' q;subst hY;obtain⟨m,hn,_⟩:=I'.loc;have J':Inv X pins σ H' s':=I.call' I'.os I'.base I'.hok I'.bare λb hb=>⟨(f2 b hb).2.2.2.1,(f2 b hb).2.1,(f2 b hb).2.2.2.2.1,(f2 b hb).2.2.2.2.2⟩;refine fin D C H' s' m J' hn ⟨I'.free,Ne.symm (neC _ (by rw[<-hD];exact I.lt)),Nat.le_trans I.sz hsC,λx c e=>?_,λp hp=>?_⟩ q
  ·obtain⟨u,o,z,_⟩:=I.cell x c e;exact neC c (below c o z)
  ·exact neC p.1 (below p.1 p.2 (I.pin p hp).1)
 have stat:∀ {H':Hp},(∀b∈fp,H' b=none)->∀b∈fp,FpOk Y [] H' b:=fun{H'} hn b hb=>by
  subst hY;refine⟨hn b hb,neC b (fpb b hb),λz=>?_, .inl hb,λx c e=>(f2 b hb).2.2.2.2.1 x c (hcl _ _ e),λp hp=>absurd (show p∈([]:List (Addr×Obj))from hp) (by simp)⟩;rcases List.mem_cons.mp (I.stkSub b z)with q|q
  ·exact(f2 b hb).2.1 q
  ·exact(f2 b hb).2.2.1 q
 have loop:∀s3:Shared,s3={s2 with heap:=h1,toks:=s2.toks+([]:List (Str×Value)).length}->
  codeAny (model X.prog X.w) X.A (.compLoop (.ListComp elt [⟨tg,iter,ifs,0⟩] scope pos) 0 (.ref it) (.ref D) (compEnvC scope cl C X.env)) (compPost (model X.prog X.w) X.A X.xe use Qo (.ref D) C) s3:=by
  rintro s3 rfl;have eP:Y.prog=X.prog:=by subst hY;rfl
  have eW:Y.w=X.w:=by subst hY;rfl
  have eA:Y.A=X.A:=by subst hY;rfl
  have eK:Y.K=X.K:=by subst hY;rfl
  have eE:Y.env=compEnvC scope cl C X.env:=by subst hY;rfl
  have eX:Y.xe=λ_ _=>False:=by subst hY;rfl
  have eC:Y.calm=true:=by subst hY;exact hc
  refine zEV (λn s'=>∃i H',Inv Y [] (inSt own sel σ) H' s'/\tn i s'.heap/\(∀b∈fp,H' b=none)/\W i n H') ?_ m0
   ⟨0,_,I1,T.keep _ _ _ st2 λb _ o e=>keep1 b o e,λb hb=>by rw[zAI (neD b (fpb b hb))];exact(f2 b hb).1,w0⟩
  rintro n s4 ⟨i,H4,I4,st4,fr4,w4⟩;rcases turn i n H4 w4 with⟨stop,q⟩|⟨go,step⟩
  ·have dn:=T.done Y eP eW eK eC i [] s4 _ H4 (λ_ _=>False) I4 (stat fr4) st4 stop;rw[eA]at dn;refine thn dn λr s5 ⟨hr,I5⟩=>?_;subst hr;exact fin _ _ _ I5 q
  ·have im:=T.item Y eP eW eK eC i [] s4 _ H4 (λ_ _=>False) I4 (stat fr4) st4 go;rw[eA]at im;refine thn im λr s5 ⟨u,hr,h5⟩=>?_;subst hr;refine thn h5 λ_ s6 ⟨x,H6,I6,r6,y6,st6,fr6⟩=>?_;have I6':=I6.pinned (stat fr6) (T.obj _ _ st6);have back:∀ {σ7:St} {H7:Hp} {s7:Shared} {k:Nat},Inv Y ([]++pinsAt fp s6.heap) σ7 H7 s7->σ7.length=(inSt own sel σ).length->(∀j,own.length<=j->σ7[j]? =(inSt own sel σ)[j]?)->(∃m',m'<n/\W (i+1) m' H7)->
    ∃m',m'<n/\∃i H',Inv Y [] (inSt own sel σ) H' s7/\tn i s7.heap/\(∀b∈fp,H' b=none)/\W i m' H':=fun{σ7 H7 s7 k} I7 l7 k7 w7=>by
    obtain⟨m',hm,w7⟩:=w7;refine⟨m',hm,i+1,H7,I7.unpinned.weak l7.symm λj v e=>?_,T.keep _ _ _ st6 λb hb o e=>(I7.pin (b,o) (List.mem_append_right _ (List.mem_append_right _ (zBj hb e)))).1,λb hb=>?_,w7⟩
    ·by_cases hj:j<own.length
     ·rw[zE2 hj]at e;cases e
     ·rw[k7 j (Nat.le_of_not_lt hj)];exact e
    ·obtain⟨o,e,d⟩:=T.obj _ _ st6 b hb;exact(I7.pin (b,o) (List.mem_append_right _ (List.mem_append_right _ (zBj hb e)))).2.1
   have ga:=hg _ s6 _ H6 x u _ I6' r6 (hk _ _ _ _ (step x H6 y6));rw[eP,eW,eA,eE,eX]at ga;refine thn ga λ_ s7 ⟨σ7,H7,I7,q7,l7,k7⟩=>?_;have ta:=ht _ s7 σ7 H7 _ I7 q7;rw[eP,eW,eA,eE,eX]at ta;refine thn ta λb s8 ⟨H8,I8,q8⟩=>?_
   cases b with
   |false=>
    rw[if_neg Bool.false_ne_true]at q8⊢;exact back (k:=0) I8 l7 k7 q8
   |true=>
    rw[if_pos rfl]at q8⊢;have ea:=he _ s8 σ7 H8 _ I8 q8;rw[eP,eW,eA,eE,eX]at ea;refine thn ea λv s9 ⟨x9,H9,I9,r9,ys,hD9,hz9,q9⟩=>?_;have aa:=zBn (X:=Y) _ s9 σ7 H9 (.ref D) [x9] (.ref D) [v] (λ_ H'=>∃m',m'<n/\W (i+1) m' H') I9 rfl (.cons r9 .nil) ⟨D,ys,x9,rfl,rfl,hD9,hz9,q9⟩;rw[eP,eW,eA,eX]at aa;exact thn aa λ_ s10 ⟨_,H10,I10,_,q10⟩=>back (k:=0) I10 l7 k7 q10
 exact codeAny_compStart_list (loop _ rfl) (T.self X.A 0 _ _ _ (T.keep _ _ _ st2 λb _ o e=>keep1 b o e) (loop _ rfl))
theorem zBx{elt tg iter:Expr}{ifs:List Expr}{scope:Scope}{pos:Pos}{own:List Str}{sel:List Nat}{wi:TI}{g:TG}{tt:TT}{te:TE}
 (S:CompOk X.env.scope X.N own sel scope) (hc:X.calm=true) (hi:PI X tg iter wi)
 (hg:∀cl C s2 H2 fp,PG (cxIn X own sel scope cl C s2 H2 fp) tg g) (hk:GK own.length g)
 (ht:∀cl C s2 H2 fp,PIf (cxIn X own sel scope cl C s2 H2 fp) ifs tt) (he:∀cl C s2 H2 fp,PE (cxIn X own sel scope cl C s2 H2 fp) elt te)
 (hs:∀x,foldedSetIterable iter X.env x=pure x:=by intro _;rfl):
 PE X (.ListComp elt [⟨tg,iter,ifs,0⟩] scope pos) (tComp own sel wi g tt te):=by
 intro pins s σ H Q I h;rw[eval_ListComp];refine zFk (use:=none) S hc hi hg hk ht he hs I h λD C H' s' m I' hn f q=>?_;exact⟨m,hn,λh' k=>⟨.ref D,H',I'.far f k,rfl,q⟩⟩
theorem zCT{i:Nat}{x:Str}{pos' spos:Pos}{elt tg iter:Expr}{ifs:List Expr}{scope:Scope}{pos:Pos}{own:List Str}{sel:List Nat}{wi:TI}{g:TG}{tt:TT}{te:TE}
 (hN:X.N.Nodup) (hix:X.N[i]? =some x) (hx:Loc X.env.scope x)
 (S:CompOk X.env.scope X.N own sel scope) (hc:X.calm=true) (hi:PI X tg iter wi)
 (hg:∀cl C s2 H2 fp,PG (cxIn X own sel scope cl C s2 H2 fp) tg g) (hk:GK own.length g)
 (ht:∀cl C s2 H2 fp,PIf (cxIn X own sel scope cl C s2 H2 fp) ifs tt) (he:∀cl C s2 H2 fp,PE (cxIn X own sel scope cl C s2 H2 fp) elt te)
 (hs:∀x,foldedSetIterable iter X.env x=pure x:=by intro _;rfl)
 (hsw:swapsWith (.ListComp elt [⟨tg,iter,ifs,0⟩] scope pos) (some (.Name x pos')) spos.line X.env=pure true:=by rfl)
 (hf:X.fn x=true\/X.env.scope.names.lookup x=some .local:=by first|exact .inl rfl|exact .inr rfl|assumption):
 PS X (.Assign [.Name x pos'] (.ListComp elt [⟨tg,iter,ifs,0⟩] scope pos) spos) (tAsg (tComp own sel wi g tt te) (gName i)):=by
 intro pins s σ H D0 I h;rw[exec_Assign_Name_used _ _ _ _ hsw];refine wpAny_bind (wpAny_standAt (wpAny_bind ?_));show wpAny _ X.A (do let _<-comprehension (.ListComp elt [⟨tg,iter,ifs,0⟩] scope pos) scope X.env _ (newList []) false (eval iter X.env) (some (assign (.Name x pos') X.env))) _ _ s;refine wpAny_bind (wpAny_mono (zFk (use:=some (assign (.Name x pos') X.env)) (Qo:=λ_ s'=>SP X pins D0 .next s') S hc hi hg hk ht he hs I h λD C H' s' m I' hn f q=>?_) (λ_ s' hq=>wpAny_pure (wpAny_pure hq)) λ_ _ e=>e);show wpAny _ X.A (assign (.Name x pos') X.env (.ref D)) _ _ _;refine wpAny_assign_Name (zFG (v:=V.ref D) I' hN hix hx rfl (λs2 I2 ⟨a,k,ha⟩=>?_) hf);have haC:C≠a:=by
  rcases ha with rfl|ha
  ·exact f.nl
  ·exact Ne.symm (f.nc x a ha)
 exact⟨m,hn.sameBut k haC,λh' k'=>⟨_,H',I2.far f k',q⟩⟩
end
section
variable{X:Cx}{pins:List (Addr×Obj)}{σ:St}{H:Hp}{s:Shared}{h':Heap}
theorem Inv.bigAfter{ch:List Addr}(I:Inv X pins σ H s)(hf:∀b∈ch,FpOk X pins H b)(k:∀b u,b∉ch->s.heap.get? b=some u->h'.get? b=some u):∃b o,1<b/\h'.get? b=some o:=by
 obtain⟨o,_,_,e,_⟩:=I.ok.mod.glob;refine⟨mainGlobals,o,by decide,k _ _ (λz=>?_) (I.bk _ _ e)⟩;rcases(hf _ z).2.2.2.1 with q|q
 ·exact I.ok.noex _ _ e q
 ·exact absurd (Nat.lt_of_lt_of_le (Heap.lt_size e) (Nat.le_trans I.ok.bsz q)) (Nat.lt_irrefl _)
theorem Inv.turnedLaid{a:Addr}{o:HO}{t':Nat}{ch:List Addr}(I:Inv X pins σ H s)(hf:∀b∈ch,FpOk X pins H b)(k:∀b u,b∉ch->s.heap.get? b=some u->h'.get? b=some u)(hp:s.heap.objs.size<=a)
 (new:ObjOk X.prog X.w (upd H a o) h' a o):Inv X pins σ (upd H a o) {s with heap:=h',toks:=t'}:=by
 have hn:H a=none:=I.hok.fresh hp;have ne:∀b u,s.heap.get? b=some u->b≠a:=λb u e=>Nat.ne_of_lt (Nat.lt_of_lt_of_le (Heap.lt_size e) hp);have nt:∀b u,H b=some u->b∉ch:=λb u e z=>by rw[(hf b z).1]at e;cases e
 refine I.step (g':=s.gens) (d':=s.drawn) (ch:=ch) (λb hb=>⟨(hf b hb).2.2.2.1,(hf b hb).2.1,(hf b hb).2.2.2.2.1,(hf b hb).2.2.2.2.2⟩) (λb u _ _ hc e _=>k b u hc e) (λb u _ _ hc e _=>⟨u.slots,k b u hc e⟩)
  (λb u _ e n=>by rw[zAI (ne b u e)];exact n) (λb u hc e=>⟨u,k b u hc e⟩) (λb xs e=>by rw[zAI (zAH e hn)];exact e) (λb u xs e=>by rw[zAI (zAH e hn)];exact e)
  (λb ps e=>⟨#[],by rw[zAI (zAH e hn),e];simp⟩) (λm hm=>?_) ⟨λb u e=>?_,λu e=>I.hok.sm u (by
    by_cases hb:sysModules=a
    ·obtain⟨b,o',l,q⟩:=I.hok.bg;exact absurd (Nat.lt_trans l (show b<sysModules from by rw[hb];exact Nat.lt_of_lt_of_le (Heap.lt_size q) hp)) (Nat.lt_irrefl 1)
    ·rw[zAI hb]at e;exact e),I.bigAfter hf k⟩ I.bare
 ·obtain⟨ob,es,ep,ho,r⟩:=hm;exact⟨ob,es,ep,k _ ob (λz=>(hf _ z).2.1 rfl) ho,r⟩
 ·by_cases hb:b=a
  ·subst hb;rw[zAF]at e;cases e;exact new
  ·rw[zAI hb]at e;refine(I.hok b u e).stay (λc v hc q=>k c v ?_ q) (λc q=>by rw[zAI (zAH q hn)];exact q) λc xs q=>by rw[zAI (zAH q hn)];exact q
   rcases hc with z|z
   ·rw[z];exact nt b u e
   ·exact nt c _ z
theorem Inv.turnedAll{t':Nat}{ch:List Addr}(I:Inv X pins σ H s)(hf:∀b∈ch,FpOk X pins H b)(k:∀b u,b∉ch->s.heap.get? b=some u->h'.get? b=some u):Inv X pins σ H {s with heap:=h',toks:=t'}:=by
 have nt:∀b u,H b=some u->b∉ch:=λb u e z=>by rw[(hf b z).1]at e;cases e
 refine I.step (g':=s.gens) (d':=s.drawn) (ch:=ch) (λb hb=>⟨(hf b hb).2.2.2.1,(hf b hb).2.1,(hf b hb).2.2.2.2.1,(hf b hb).2.2.2.2.2⟩) (λb u _ _ hc e _=>k b u hc e) (λb u _ _ hc e _=>⟨u.slots,k b u hc e⟩)
  (λb u _ e n=>n) (λb u hc e=>⟨u,k b u hc e⟩) (λb xs e=>e) (λb u xs e=>e) (λb ps e=>⟨#[],by rw[e];simp⟩) (λm hm=>?_) ⟨λb u e=>?_,I.hok.sm,I.bigAfter hf k⟩ I.bare
 ·obtain⟨ob,es,ep,ho,r⟩:=hm;exact⟨ob,es,ep,k _ ob (λz=>(hf _ z).2.1 rfl) ho,r⟩
 ·refine(I.hok b u e).stay (λc v hc q=>k c v ?_ q) (λc q=>q) λc xs q=>q;rcases hc with z|z
  ·rw[z];exact nt b u e
  ·exact nt c _ z
end
def Its(x:Str):It:=⟨λi _=>i<x.cps.size,λi H v H'=>H'=H/\∃c,x.cps[i]? =some c/\v= .str ⟨#[c]⟩,λi _=>i=x.cps.size⟩
section
variable{P:Program}{w:World}{K:PySem.W.Frag}{tg:Expr}
theorem zGl{x:Str}{t:Tok}{T:String}{it:Addr}(hT:T="str_ascii_iterator"\/T="str_iterator")
 (W:∀A:Around,A.handled=none->Walks P w A it [it] [it] x.cps.size (SignAt x) (λi h=>h.IsStrIter it T x t i))
 (sf:∀ (A:Around) (i:Nat) (s:Shared) (Q:Value->Shared->Prop) (E:Value->Shared->Prop),s.heap.IsStrIter it T x t i->Q (.ref it) s->wpAny (model P w) A (pyIter (.ref it)) Q E s):
 Turn P w K tg (Its x) [it] it (λi h=>h.IsStrIter it T x t i) where
 mem:=by simp
 obj:=λi h st b hb=>by
  obtain⟨o,ho,_,hd⟩:=st;have e:b=it:=by simpa using hb
  subst e;exact⟨o,ho,λv z=>by rw[hd]at z;cases z⟩
 keep:=λi h h' st k=>by
  obtain⟨o,ho,r⟩:=st;exact⟨o,k it (by simp) o ho,r⟩
 item:=by
  intro X hP hw hK hc i pins s σ H E I hf st hg;subst hP hw hK;refine(W X.A (I.ok.hd hc)).item i s _ _ hg st λv h' tk hv st' kk=>?_;obtain⟨c,u,hx,rfl⟩:=hv;obtain⟨o,ho,hcl,hd⟩:=id st';have I1:Inv X pins σ H {s with heap:=h',toks:=tk}:=I.turnedAll hf kk;refine⟨_,rfl,zJ2 (s:={s with heap:=h',toks:=tk}) (n:=T) ho hcl hd (by rcases hT with rfl|rfl<;>decide) ⟨.str ⟨#[c]⟩,H,I1,⟨u,rfl⟩,⟨rfl,c,hx,rfl⟩,st',λb hb=>(hf b hb).1⟩⟩
 done:=by
  intro X hP hw hK hc i pins s σ H E I hf st hg;subst hP hw hK;have e:i=x.cps.size:=hg;subst e;exact(W X.A (I.ok.hd hc)).done s _ _ st λh' tk kk=>⟨rfl,I.turnedAll hf kk⟩
 self:=λA i s Q E st h=>sf A i s Q E st h
end
def iStr(tl:TE):TI:=λσ H R=>tl σ H λx H1=>∃z,x= .str z/\R (Its z) H1
theorem zFO{X:Cx}{tg l:Expr}{tl:TE}(hl:PE X l tl):PI X tg l (iStr tl):=by
 intro pins s σ H R I h;refine thn (hl pins s σ H _ I h) λv s1 ⟨x,H1,I1,r1,q1⟩=>?_;obtain⟨z,rfl,q⟩:=q1;obtain⟨t,rfl⟩:=r1;have side:∀b∈[s1.heap.objs.size],FpOk X pins H1 b:=λb hb=>by
  have e:b=s1.heap.objs.size:=by simpa using hb
  subst e;exact I1.fpOk (Nat.le_refl _) (I1.hok.fresh (Nat.le_refl _))
 cases ha:z.cps.all (· <128)
 ·refine wpAny_pyIter_wide ha ⟨s1.heap.objs.size,[s1.heap.objs.size],_,_,H1,rfl,I1.kept (t':=s1.toks) λb o e=>Heap.get?_push_of_some _ e,zGl (t:=t) (T:="str_iterator") (.inr rfl) (λA hh=>Walks.strWide hh _ z t) (λA i s Q E st h=>wpAny_pyIter_striter_wide st h),⟨_,Heap.get?_push_size _ rfl,rfl,rfl⟩,side,q⟩
 ·refine wpAny_pyIter_ascii ha ⟨s1.heap.objs.size,[s1.heap.objs.size],_,_,H1,rfl,I1.kept (t':=s1.toks) λb o e=>Heap.get?_push_of_some _ e,zGl (t:=t) (T:="str_ascii_iterator") (.inl rfl) (λA hh=>Walks.strAscii hh _ z t) (λA i s Q E st h=>wpAny_pyIter_striter_ascii st h),⟨_,Heap.get?_push_size _ rfl,rfl,rfl⟩,side,q⟩
def IteS(x:Str):It:=⟨λi _=>i<x.cps.size,λi H v H'=>∃T c,H T=none/\x.cps[i]? =some c/\v= .ref T/\H'=upd H T (.tup [.int i, .str ⟨#[c]⟩]),λi _=>i=x.cps.size⟩
section
variable{P:Program}{w:World}{K:PySem.W.Frag}{elts:List Expr}{k:Nat}{tpos:Pos}
theorem zIy{X:Cx}{pins:List (Addr×Obj)}{σ:St}{H:Hp}{s:Shared}{E:Value->Shared->Prop}{e it:Addr}{fp:List Addr}{n i:Nat}{Pr:Nat->Value->Prop}{St:Nat->Heap->Prop}{old:Value}{Qx:Value->Hp->V->Prop}{tn:Heap->Prop}
 (D:Draws X.prog X.w X.A.in1 it fp n Pr St) (I:Inv X pins σ H s) (hf:∀b∈[e,it],FpOk X pins H b) (he:IsEnum s.heap e it i old) (hst:St i s.heap) (hlt:i<n) (hne:e≠it) (hef:e∉fp)
 (tnk:∀h' o,IsEnum h' e it ((i:Int)+1) o->St (i+1) h'->tn h') (y:∀v,Pr i v->∃z,RelV z v/\Qx v H z):
 wpAny (model X.prog X.w) X.A (pyNext (.ref e)) (λr s1=>∃u,r=some u/\wpAny (model X.prog X.w) X.A (letOwnedTupleGo (.Tuple elts k tpos) (.ref e) u) (λ_ s2=>∃x H',Inv X pins σ H' s2/\RelV x u/\
  (∃T z v,H T=none/\Pr i v/\RelV z v/\Qx v H z/\x= .ref T/\H'=upd H T (.tup [.int i,z]))/\tn s2.heap/\∀b∈[e,it],H' b=none) E s1) E s:=by
 refine wpAny_pyNext_enum_itemD D he hst hlt hne hef λv h1 tk hP ho hs' hT hsz hk=>⟨_,rfl,wpAny_letOwnedTupleGo_enum ho λh2 he2 hs2=>?_⟩;obtain⟨z,rz,qz⟩:=y v hP;have hel:e<s.heap.objs.size:=Heap.lt_size he;have hil:it<s.heap.objs.size:=by obtain⟨_,q⟩:=D.live _ _ hst;exact Heap.lt_size q
 have hT2:h2.get? s.heap.objs.size=some {cls:= .type "tuple",data:= .seq #[.int i tk,v]}:=(hs2.2 _ (Nat.ne_of_gt hel)).trans hT;have ob:ObjOk X.prog X.w (upd H s.heap.objs.size (.tup [.int i,z])) h2 s.heap.objs.size (.tup [.int i,z]):=⟨(by show 2<=sizeLine;decide),[.int i tk,v], .cons ⟨tk,rfl⟩ (.cons rz .nil),⟨_,hT2,rfl,_,rfl⟩⟩;have I2:Inv X pins σ (upd H s.heap.objs.size (.tup [.int i,z])) {s with heap:=h2,toks:=tk+1}:=I.turnedLaid hf (λb u hb q=>(hs2.2 b (λz=>hb (by simp[z]))).trans (hk b u (λz=>hb (by simp[z])) (λz=>hb (by simp[z])) q)) (Nat.le_refl _) ob;refine⟨.ref s.heap.objs.size,_,I2,rfl,⟨s.heap.objs.size,z,v,I.hok.fresh (Nat.le_refl _),hP,rz,qz,rfl,rfl⟩,tnk h2 _ he2 (D.frame _ _ _ hs' λb hb o q=>(hs2.2 b λz=>hef (z▸hb)).trans q),λb hb=>?_⟩;have hb':b≠s.heap.objs.size:=by
  rcases List.mem_cons.mp hb with z|hb
  ·rw[z];exact Nat.ne_of_lt hel
  ·rw[List.mem_singleton.mp hb];exact Nat.ne_of_lt hil
 rw[zAI hb'];exact(hf b hb).1
theorem zEL{x:Str}{t:Tok}{T:String}{e it:Addr}(hne:e≠it)
 (W:∀A:Around,A.handled=none->Draws P w A it [it] x.cps.size (λi v=>∃c u,x.cps[i]? =some c/\v= .str ⟨#[c]⟩ u) (λi h=>h.IsStrIter it T x t i)):
 Turn P w K (.Tuple elts k tpos) (IteS x) [e,it] e (λi h=>(∃old,IsEnum h e it i old)/\h.IsStrIter it T x t i) where
 mem:=by simp
 obj:=λi h st b hb=>by
  obtain⟨⟨old,he⟩,o,ho,_,hd⟩:=st;rcases List.mem_cons.mp hb with z|hb
  ·subst z;exact⟨_,he,λv z=>by cases z⟩
  ·rw[List.mem_singleton.mp hb];exact⟨o,ho,λv z=>by rw[hd]at z;cases z⟩
 keep:=λi h h' st k=>by
  obtain⟨⟨old,he⟩,o,ho,r⟩:=st;exact⟨⟨old,k e (by simp) _ he⟩,o,k it (by simp) o ho,r⟩
 item:=by
  intro X hP hw hK hc i pins s σ H E I hf st hg;subst hP hw hK;obtain⟨⟨old,he⟩,st⟩:=st;refine thn (zIy (elts:=elts) (k:=k) (tpos:=tpos) (Qx:=λv H z=>∃c,x.cps[i]? =some c/\z= .str ⟨#[c]⟩) (tn:=λh=>(∃old,IsEnum h e it ((i+1:Nat):Int) old)/\h.IsStrIter it T x t (i+1)) (W X.A.in1 (I.ok.hd hc)) I hf he st hg hne (λz=>hne (List.mem_singleton.mp z)) (λh' o a b=>⟨⟨o,by simpa using a⟩,b⟩) ?_) ?_
  ·rintro v ⟨c,u,hx,rfl⟩;exact⟨.str ⟨#[c]⟩,⟨u,rfl⟩,c,hx,rfl⟩
  ·rintro r s1 ⟨u,hr,h1⟩;refine⟨u,hr,thn h1 ?_⟩;rintro _ s2 ⟨xv,H',I2,rx,⟨Ta,z,v,hT,hv,rz,⟨c,hx,rfl⟩,ex,eH⟩,tn2,fr⟩;exact⟨xv,H',I2,rx,⟨Ta,c,hT,hx,ex,eH⟩,tn2,fr⟩
 done:=by
  intro X hP hw hK hc i pins s σ H E I hf st hg;subst hP hw hK;obtain⟨⟨old,he⟩,st⟩:=st;have ei:i=x.cps.size:=hg;subst ei;exact wpAny_pyNext_enum_endD (W X.A.in1 (I.ok.hd hc)) he st λh' hx=>⟨rfl,I.turnedAll (t':=s.toks) hf λb o hb q=>hx b o (λz=>hb (by simp[z])) q⟩
 self:=λA i s Q E st h=>by
  obtain⟨⟨old,he⟩,_⟩:=st;exact wpAny_pyIter_enum he h
end
def iEnS(ta:TA):TI:=λσ H R=>ta σ H λvs H1=>∃z,vs=[.str z]/\R (IteS z) H1
section
variable{X:Cx}{a:Expr}{ta:TA}{p pos:Pos}{elts:List Expr}{k:Nat}{tpos:Pos}
theorem fresh2{pins:List (Addr×Obj)}{σ:St}{H:Hp}{s:Shared}(I:Inv X pins σ H s):∀b∈[s.heap.objs.size+1,s.heap.objs.size],FpOk X pins H b:=λb hb=>by
 rcases List.mem_cons.mp hb with z|hb
 ·subst z;exact I.fpOk (Nat.le_succ _) (I.hok.fresh (Nat.le_succ _))
 ·rw[List.mem_singleton.mp hb];exact I.fpOk (Nat.le_refl _) (I.hok.fresh (Nat.le_refl _))
theorem zJq(hg:Gl X "enumerate")(hm:X.mg "enumerate"=none)(ha:PA X [a] ta)(hs:starEach [a] X.env=[(false,eval a X.env)]:=by rfl):PI X (.Tuple elts k tpos) (.Call (.Name "enumerate" p) [a] [] pos) (iEnS ta):=by
 intro pins s σ H R I h;refine Call_ (zDz I hg hm boot_enumerate (PyProof.Rows.callWith_type1 (thn (ha pos pins s σ H _ I h) λus s1 ⟨vs,H1,I1,r1,q1⟩=>?_) hs rfl));obtain⟨z,e,q⟩:=q1;subst e
 cases r1 with
 |cons r rr=>
  cases rr
  obtain⟨t,rfl⟩:=r;refine call_enumerate_str λh' he hit hsz hk=>wpAny_pyIter_enum he ?_
  cases hall:z.cps.all (· <128)
  ·have hit':h'.IsStrIter s1.heap.objs.size "str_iterator" z t 0:=by simpa[strIterType,hall]using hit
   exact⟨s1.heap.objs.size+1,[s1.heap.objs.size+1,s1.heap.objs.size],_,_,H1,rfl,I1.kept (t':=s1.toks) hk,zEL (t:=t) (T:="str_iterator") (Nat.succ_ne_self _) (λA hh=>Draws.strWide hh _ z t),⟨⟨_,he⟩,hit'⟩,fresh2 I1,q⟩
  ·have hit':h'.IsStrIter s1.heap.objs.size "str_ascii_iterator" z t 0:=by simpa[strIterType,hall]using hit
   exact⟨s1.heap.objs.size+1,[s1.heap.objs.size+1,s1.heap.objs.size],_,_,H1,rfl,I1.kept (t':=s1.toks) hk,zEL (t:=t) (T:="str_ascii_iterator") (Nat.succ_ne_self _) (λA hh=>Draws.strAscii hh _ z t),⟨⟨_,he⟩,hit'⟩,fresh2 I1,q⟩
end
def tx(l:List Nat):V:= .str ⟨l.toArray⟩
theorem tx_inj{a b:List Nat}:tx a=tx b↔a=b:=by
 unfold tx
 constructor
 ·intro h;injection h with h
  injection h with h
  simpa using congrArg Array.toList h
 ·rintro rfl;rfl
theorem zCC(a:List Nat):(⟨a.toArray⟩:Str).length=a.length:=by simp[Str.length]
theorem zKm(a b:List Nat):eqV (tx a) (tx b)=decide (a=b):=by
 have e:eqV (tx a) (tx b)=((⟨a.toArray⟩:Str)==⟨b.toArray⟩):=rfl;rw[e]
 by_cases h:a=b
 ·subst h;simp
 ·rw[decide_eq_false h,beq_eq_false_iff_ne];intro q;exact h (tx_inj.mp (congrArg V.str q))
theorem zKp(a b:List Nat):decide (tx a=tx b)=decide (a=b):=by
 by_cases h:a=b
 ·subst h;simp
 ·rw[decide_eq_false h,decide_eq_false (λq=>h (tx_inj.mp q))]
section
variable{X:Cx}
theorem zA0{x:Str}{l:List Nat}{j pos}(h:x=⟨l.toArray⟩):PE X (.Constant (.str x) j pos) (tC (tx l)):=by
 subst h;exact zMv
theorem op_addT:OpR X (binaryOp .Add) (λx y H Q=>∃a b,x=tx a/\y=tx b/\a.length+b.length<=sizeLine/\Q (tx (a++b)) H):=by
 intro pins s σ H x y v u Q I rx ry ⟨a,b,e1,e2,hz,q⟩;subst e1 e2;refine zHZ pins s σ H _ _ v u Q I rx ry ⟨_,_,rfl,rfl,by rw[zCC,zCC];exact hz,?_⟩;have e:(V.str ((⟨a.toArray⟩:Str)++⟨b.toArray⟩))=tx (a++b):=by
  unfold tx;congr 1;show(⟨a.toArray++b.toArray⟩:Str)=_;simp
 rw[e];exact q
def rIxT':R2:=λx y H Q=>∃a i c,x=tx a/\y= .int i/\a.length<=sizeLine/\atI a i=some c/\Q (tx [c]) H
theorem ix_T:IxR X rIxT':=by
 intro value slice pins s σ H x y v u Q I rx ry ⟨a,i,c,e1,e2,hz,he,q⟩ hs;subst e1 e2;exact zNH value slice pins s σ H _ _ v u Q I rx ry ⟨_,i,c,rfl,rfl,by rw[zCC];exact hz,by simpa using he,q⟩ hs
theorem call_lenT:CallR X (.builtin "len") (λxs H Q=>∃a,xs=[tx a]/\a.length<=sizeLine/\Q (.int a.length) H):=by
 intro pins s σ H xs us Q I r ⟨a,e,hz,q⟩;subst e;refine zFo pins s σ H _ us Q I r ⟨_,rfl,by rw[zCC];exact hz,?_⟩;rw[zCC];exact q
theorem op_inT:OpR X (compareOp .In) (λx y H Q=>∃c l,x=tx [c]/\y=tx l/\Q (.bl (decide (c∈l))) H):=by
 intro pins s σ H x y v u Q I rx ry ⟨c,l,e1,e2,q⟩;subst e1 e2;refine zIZ pins s σ H _ _ v u Q I rx ry ⟨_,_,rfl,rfl,?_⟩;have e:=PySem.StrLaws.found_one (⟨l.toArray⟩:Str) c;simp only at e;rw[show(⟨[c].toArray⟩:Str)=⟨#[c]⟩from rfl,e];exact q
theorem op_notinT:OpR X (compareOp .NotIn) (λx y H Q=>∃c l,x=tx [c]/\y=tx l/\Q (.bl (!decide (c∈l))) H):=by
 intro pins s σ H x y v u Q I rx ry ⟨c,l,e1,e2,q⟩;subst e1 e2;refine zFR pins s σ H _ _ v u Q I rx ry ⟨_,_,rfl,rfl,?_⟩;have e:=PySem.StrLaws.found_one (⟨l.toArray⟩:Str) c;simp only at e;rw[show(⟨[c].toArray⟩:Str)=⟨#[c]⟩from rfl,e];exact q
theorem zGs(a:List Nat):∀ (n:Nat) (acc:Array Nat),((List.replicate n a.toArray).foldl (· ++ ·) acc)=(acc.toList++(List.replicate n a).flatten).toArray
 |0,acc=>by simp
 |n+1,acc=>by
  rw[List.replicate_succ,List.foldl_cons,zGs a n,List.replicate_succ,List.flatten_cons];simp
theorem zIW:OpR X (binaryOp .Mult) (λx y H Q=>∃a k,x=tx a/\y= .int k/\0<=k/\k<=1000/\a.length<=1000/\Q (tx (List.replicate k.toNat a).flatten) H):=by
 intro pins s σ H x y v u Q I rx ry ⟨a,k,e1,e2,h0,h1,hl,q⟩;subst e1 e2;obtain⟨t,rfl⟩:=rx;obtain⟨t',rfl⟩:=ry;have e:Txt.mul ⟨a.toArray⟩ k=⟨((List.replicate k.toNat a).flatten).toArray⟩:=by
  unfold Txt.mul
  by_cases hk:k<1
  ·have:k=0:=by omega
   subst this
   rfl
  ·rw[if_neg hk]
   split
   ·rename_i hc
    rw[zCC]at hc;simp only[Bool.or_eq_true,beq_iff_eq]at hc;rcases hc with hc|hc
    ·subst hc;simp
    ·have:a=[]:=List.length_eq_zero_iff.mp hc;subst this;simp
   ·simp only;rw[zGs];simp
 refine SB.mul ⟨by simp;omega,λh2 _=>?_,λh2 _=>?_⟩ λt2 tk=>⟨tx (List.replicate k.toNat a).flatten,H,I.tok tk,⟨t2,by rw[e]⟩,q⟩
 ·rw[zCC];have:(1000:Int)<=(2^63-1)/k:=by
   refine Int.le_ediv_of_mul_le (by omega) ?_;omega
  omega
 ·rw[zCC];unfold Builtin.Str.tooLong;have hs:sizeLine=16777216:=sizeLine_eq;have:a.length*k.toNat<=1000*1000:=Nat.mul_le_mul hl (by omega);simp;omega
def cutL{α:Type}(xs:List α)(lo hi:Option Int):List α:=(xs.drop (HT.sIx xs.length 0 lo)).take (HT.sIx xs.length xs.length hi-HT.sIx xs.length 0 lo)
theorem clipS(v:Option Int)(n d:Nat)(hd:d<=n):(match v with|none=>(d:Int)|some i=>max 0 (min (if i<0 then i+(n:Int)else i) (n:Int)))=((HT.sIx n d v:Nat):Int):=by
 cases v with
 |none=>rfl
 |some i=>
  show max 0 (min (if i<0 then i+(n:Int)else i) (n:Int))=(((if i<0 then(i+(n:Int)).toNat else min i.toNat n):Nat):Int)
  by_cases hv:i<0
  ·simp only[if_pos hv];omega
  ·simp only[if_neg hv];omega
theorem zLp(lo hi:Option Int)(n:Nat):Builtin.Str.strSliceIndices lo hi 1 n=(List.range (HT.sIx n n hi-HT.sIx n 0 lo)).map λk=>HT.sIx n 0 lo+k:=by
 have h1:(1:Int)>0:=by omega
 have key:Builtin.Str.strSliceIndices lo hi 1 n=sliceRange ((HT.sIx n 0 lo:Nat):Int) ((HT.sIx n n hi:Nat):Int) 1:=by
  unfold Builtin.Str.strSliceIndices;simp only[h1,if_true];congr 1
  ·cases lo with
   |none=>rfl
   |some i=>exact clipS (some i) n 0 (Nat.zero_le _)
  ·cases hi with
   |none=>rfl
   |some i=>exact clipS (some i) n n (Nat.le_refl _)
 rw[key];unfold sliceRange;simp only[h1,if_true];have e3:(if((HT.sIx n 0 lo:Nat):Int)<((HT.sIx n n hi:Nat):Int)then(((HT.sIx n n hi:Nat):Int)-((HT.sIx n 0 lo:Nat):Int)+1-1)/1 else 0).toNat=HT.sIx n n hi-HT.sIx n 0 lo:=by
  split<;>omega
 rw[e3];refine List.map_congr_left λk _=>?_;omega
theorem zJp(a:List Nat)(i k:Nat):((List.range k).map λm=>i+m).filterMap (λj=>a.toArray[j]?)=(a.drop i).take k:=by
 rw[List.filterMap_map]
 induction k generalizing i with
 |zero=>simp
 |succ k ih=>
  rw[List.range_succ,List.filterMap_append,ih i,List.take_add_one];congr 1;simp only[List.filterMap_cons,List.filterMap_nil,Function.comp];rw[List.getElem?_drop];simp only[List.getElem?_toArray]
  cases a[i+k]? <;>rfl
theorem zNW{α:Type}(a:List α)(lo hi:Option Int):(cutL a lo hi).length<=a.length:=by
 unfold cutL;rw[List.length_take,List.length_drop];omega
def rSlS:V->Option Int->Option Int->Hp->VK->Prop:=λx lo hi H Q=>∃a,x=tx a/\a.length<=sizeLine/\Q (tx (cutL a lo hi)) H
theorem sl_T:SlR X rSlS:=by
 intro pins s σ H x v vl vu lo hi sl Q I rx hs pl pu ⟨a,e,hz,q⟩;subst e;obtain⟨t,rfl⟩:=rx;refine⟨"str",_,F.slot_str_getitem.lookup,typeIs_str _ _ _,?_⟩;obtain⟨l,el,ml⟩:∃l:Option (Int×Tok),vl=partValue l/\l.map (·.1)=lo:=by
  cases pl with
  |none=>exact⟨none,rfl,rfl⟩
  |int i t=>exact⟨some (i,t),rfl,rfl⟩
 obtain⟨u,eu,mu⟩:∃u:Option (Int×Tok),vu=partValue u/\u.map (·.1)=hi:=by
  cases pu with
  |none=>exact⟨none,rfl,rfl⟩
  |int i t=>exact⟨some (i,t),rfl,rfl⟩
 subst el eu;refine wpAny_getItem_str_slice (l:=l) (u:=u) (st:=none) hs rfl ?_;have hle:=zNW a lo hi;have ep:slicePicked ⟨a.toArray⟩ l u none=(List.range (HT.sIx a.length a.length hi-HT.sIx a.length 0 lo)).map λk=>HT.sIx a.length 0 lo+k:=by
  unfold slicePicked;rw[ml,mu,zCC];exact zLp lo hi a.length
 have ec:((slicePicked ⟨a.toArray⟩ l u none).filterMap (a.toArray[·]?))=cutL a lo hi:=by
  rw[ep];exact zJp a _ _
 unfold sliceMade;refine post_val_or_str ?_;have fin:(if((Option.map (λx=>x.1) (none:Option (Int×Tok))).getD 1==1&&(slicePicked ⟨a.toArray⟩ l u none).length==(⟨a.toArray⟩:Str).length)=true then(⟨a.toArray⟩:Str)else⟨((slicePicked ⟨a.toArray⟩ l u none).filterMap (a.toArray[·]?)).toArray⟩)=⟨(cutL a lo hi).toArray⟩:=by
  rw[ec]
  split
  ·rename_i hc
   rw[ep,zCC]at hc;simp only[Option.map_none,Option.getD_none,beq_self_eq_true,Bool.true_and,List.length_map,List.length_range,beq_iff_eq]at hc;have hl:HT.sIx a.length a.length hi<=a.length:=HT.sIx_le _ _ (Nat.le_refl _) _;have h0:HT.sIx a.length 0 lo=0\/a.length=0:=by omega
   unfold cutL;rw[hc];rcases h0 with h0|h0
   ·rw[h0,List.drop_zero,List.take_length]
   ·have:a=[]:=List.length_eq_zero_iff.mp h0;subst this;simp
  ·rfl
 have fin':=fin;simp only at fin'⊢;rw[fin'];refine⟨by rw[zCC];omega,λt' k=>⟨tx (cutL a lo hi),H,I.tok k,⟨t',rfl⟩,q⟩⟩
theorem zKG:CallR X (.builtin "isinstance") (λxs H Q=>∃x T t b,xs=[x, .ty T]/\TyOf X.K H x t/\PySem.W.kitOne X.K t (.type T)=some b/\Q (.bl b) H):=by
 intro pins s σ H xs us Q I r ⟨x,T,t,b,e,ty,hk,q⟩;subst e;obtain⟨u,w',rfl,ru,rw'⟩:=vals2 r
 cases rw'
 exact zIm I ru ty hk λtk=>⟨.bl b,H,I.tok tk,rfl,q⟩
theorem zJF:CallR X (.builtin "all") (λxs H Q=>X.calm=true/\∃ (a:Addr) (bs:List Bool),xs=[.ref a]/\SqL X.K H a (bs.map V.bl)/\Q (.bl (bs.all id)) H):=by
 intro pins s σ H xs us Q I r ⟨hc,a,bs,e,hq,q⟩;subst e;obtain⟨u,rfl,ru⟩:=vals1 r
 cases ru
 obtain⟨its,rv,pl,hz⟩:=I.list hq;obtain⟨ol,hol,_⟩:=id pl.isList;have hl:a<s.heap.objs.size:=Heap.lt_size hol;have hlen:=rv.length;rw[List.length_map]at hlen;refine call_all_walk (wpAny_pyIter_list pl.isList ⟨s.heap.objs.size,_,_,_,_,_,λi=>bs.getD i false,rfl,Walks.list (A:=X.A.in1) (I.ok.hd hc) s.heap.objs.size a (Nat.ne_of_lt hl) its.toArray,⟨⟨_,Heap.get?_push_size _ rfl,rfl,rfl⟩,pl.isList.at λo e=>Heap.get?_push_of_some _ e⟩,?_,λh' tk kk=>?_⟩)
 ·intro i v s' Q' E' hv hQ';have hv':its[i]? =some v:=by simpa using hv
  have hi:i<bs.length:=by rw[hlen];exact(List.getElem?_eq_some_iff.mp hv').1
  obtain⟨w',e1,e2⟩:=rv.get (i:=i) (x:=V.bl bs[i]) (by simp[hi]);rw[hv']at e1
  cases e1
  cases e2
  have:bs.getD i false=bs[i]:=by simp[List.getD_eq_getElem?_getD,hi]
  simp only[this]at hQ';exact wpAny_truthy_bool hQ'
 ·have e:(List.range its.toArray.size).all (λi=>bs.getD i false)=bs.all id:=by
   rw[List.size_toArray,<-hlen];rw[Bool.eq_iff_iff];simp only[List.all_eq_true,List.mem_range,id]
   constructor
   ·intro h b hb;obtain⟨i,hi,rfl⟩:=List.mem_iff_getElem.mp hb;have:=h i hi;simpa[List.getD_eq_getElem?_getD,hi]using this
   ·intro h i hi;have:=h bs[i] (List.getElem_mem hi);simpa[List.getD_eq_getElem?_getD,hi]using this
  rw[e];have I1:Inv X pins σ H {s with heap:=s.heap.push {cls:= .type "list_iterator",data:= .fields #[.ref a, .int 0 0]}}:=I.kept (t':=s.toks) λb o z=>Heap.get?_push_of_some _ z;refine⟨.bl (bs.all id),H,I.kept (t':=tk) λb o z=>kk b o (λy=>?_) (Heap.get?_push_of_some _ z),rfl,q⟩;exact absurd (Heap.lt_size z) (by rw[List.mem_singleton.mp y];exact Nat.lt_irrefl _)
def eqVs:List V->List V->Bool
 |[],[]=>true
 |x::xs,y::ys=>eqV x y&&eqVs xs ys
 |_,_=>false
theorem zE6:∀ {xs ys:List V},xs.length≠ys.length->eqVs xs ys=false
 |[],[],h=>absurd rfl h
 |[],_::_,_=>rfl
 |_::_,[],_=>rfl
 |x::xs,y::ys,h=>by
  have:eqVs xs ys=false:=zE6 (by simpa using h);show(eqV x y&&eqVs xs ys)=false;rw[this,Bool.and_false]
theorem zCW:∀ (xs ys:List V),xs.length=ys.length->(List.range xs.length).all (λi=>eqV (xs.getD i .non) (ys.getD i .non))=eqVs xs ys
 |[],[],_=>rfl
 |x::xs,y::ys,h=>by
  have ih:=zCW xs ys (by simpa using h);rw[List.length_cons,List.range_succ_eq_map,List.all_cons,List.all_map];show(eqV x y&&_)=(eqV x y&&eqVs xs ys);rw[<-ih]
  rfl
 |[],_::_,h=>by simp at h
 |_::_,[],h=>by simp at h
theorem zDF{A:Around}{s:Shared}{xs ys:List V}{us ws:List Value}(r1:Vals xs us)(r2:Vals ys ws)(f1:xs.all flatV=true)(f2:ys.all flatV=true):
 ∀j (h1:j<us.toArray.size) (h2:j<ws.toArray.size),SeqAt.EqAt A s us.toArray[j] ws.toArray[j] (eqV (xs.getD j .non) (ys.getD j .non)):=by
 intro j h1 h2;have l1:=r1.length;have l2:=r2.length;rw[List.size_toArray]at h1 h2;have k1:j<xs.length:=by omega
 have k2:j<ys.length:=by omega
 obtain⟨u,e1,q1⟩:=r1.get (i:=j) (x:=xs[j]) (by simp[k1]);obtain⟨w',e2,q2⟩:=r2.get (i:=j) (x:=ys[j]) (by simp[k2]);have eu:us.toArray[j]=u:=by
  have:=List.getElem?_eq_getElem (l:=us) (i:=j) h1;rw[e1]at this;simpa using(Option.some.inj this).symm
 have ew:ws.toArray[j]=w':=by
  have:=List.getElem?_eq_getElem (l:=ws) (i:=j) h2;rw[e2]at this;simpa using(Option.some.inj this).symm
 rw[eu,ew];have g1:xs.getD j .non=xs[j]:=by simp[List.getD_eq_getElem?_getD,k1]
 have g2:ys.getD j .non=ys[j]:=by simp[List.getD_eq_getElem?_getD,k2]
 rw[g1,g2];exact zKo q1 q2 (List.all_eq_true.mp f1 _ (List.getElem_mem k1)) (List.all_eq_true.mp f2 _ (List.getElem_mem k2))
def rEqL(K:PySem.W.Frag)(neg:Bool):R2:=λx y H Q=>∃a b xs ys,x= .ref a/\y= .ref b/\SqL K H a xs/\SqL K H b ys/\xs.all flatV=true/\ys.all flatV=true/\Q (.bl (if neg then !eqVs xs ys else eqVs xs ys)) H
theorem zM6(hu:X.A.units<cLine):OpR X (compareOp .Eq) (rEqL X.K false):=by
 intro pins s σ H x y v u Q I rx ry ⟨a,b,xs,ys,e1,e2,q1,q2,f1,f2,q⟩;subst e1 e2
 cases rx
 cases ry
 obtain⟨us,r1,p1,z1⟩:=I.list q1;obtain⟨ws,r2,p2,z2⟩:=I.list q2;have l1:=r1.length;have l2:=r2.length
 by_cases hl:xs.length=ys.length
 ·refine SeqAt.eq_listAt p1.isList p2.isList (by simp;omega) hu (zDF r1 r2 f1 f2) ⟨.bl _,H,I,rfl,?_⟩;rw[List.size_toArray,<-l1,zCW xs ys hl];exact q
 ·refine SeqAt.eq_list_lengthsAt p1.isList p2.isList (by simp;omega) hu ⟨.bl _,H,I,rfl,?_⟩;rw[<-zE6 hl];exact q
theorem zM1(hu:X.A.units<cLine):OpR X (compareOp .NotEq) (rEqL X.K true):=by
 intro pins s σ H x y v u Q I rx ry ⟨a,b,xs,ys,e1,e2,q1,q2,f1,f2,q⟩;subst e1 e2
 cases rx
 cases ry
 obtain⟨us,r1,p1,z1⟩:=I.list q1;obtain⟨ws,r2,p2,z2⟩:=I.list q2;have l1:=r1.length;have l2:=r2.length
 by_cases hl:xs.length=ys.length
 ·refine SeqAt.RcNeAt.lists p1.isList p2.isList (by simp;omega) hu (zDF r1 r2 f1 f2) _ _ _ _ ⟨.bl _,H,I,rfl,?_⟩;rw[List.size_toArray,<-l1,zCW xs ys hl];exact q
 ·refine SeqAt.RcNeAt.lists_lengths p1.isList p2.isList (by simp;omega) hu _ _ _ _ ⟨.bl _,H,I,rfl,?_⟩;have:eqVs xs ys=false:=zE6 hl;rw[if_pos rfl,this]at q;exact q
def litV:V->Bool
 | .non=>true
 | .bl _=>true
 |_=>false
theorem zM5:OpR X (compareOp .Is) (λx y H Q=>litV y=true/\Q (.bl (decide (x=y))) H):=by
 intro pins s σ H x y v u Q I rx ry ⟨hl,q⟩;refine wpAny_is_plain ?_ ⟨.bl _,H,I,?_,q⟩
 ·cases y<;>first
   |(exact absurd hl Bool.false_ne_true)
   |(cases ry;cases x<;>first|(cases rx;rfl)|(obtain⟨t,rfl⟩:=rx;rfl))
 ·cases y<;>first
   |(exact absurd hl Bool.false_ne_true)
   |(cases ry;cases x<;>first|(cases rx;rfl)|(obtain⟨t,rfl⟩:=rx;rfl)|(cases rx;rename_i b1 _ b2;cases b1<;>cases b2<;>rfl)|(cases rx;rename_i b1 b2;cases b1<;>cases b2<;>rfl)|(cases rx;rename_i b1 _ b2 _;cases b1<;>cases b2<;>rfl))
theorem zIY:OpR X (compareOp .IsNot) (λx y H Q=>litV y=true/\Q (.bl (!decide (x=y))) H):=by
 intro pins s σ H x y v u Q I rx ry ⟨hl,q⟩;refine wpAny_isNot_plain ?_ ⟨.bl _,H,I,?_,q⟩
 ·cases y<;>first
   |(exact absurd hl Bool.false_ne_true)
   |(cases ry;cases x<;>first|(cases rx;rfl)|(obtain⟨t,rfl⟩:=rx;rfl))
 ·cases y<;>first
   |(exact absurd hl Bool.false_ne_true)
   |(cases ry;cases x<;>first|(cases rx;rfl)|(obtain⟨t,rfl⟩:=rx;rfl)|(cases rx;rename_i b1 _ b2;cases b1<;>cases b2<;>rfl)|(cases rx;rename_i b1 b2;cases b1<;>cases b2<;>rfl)|(cases rx;rename_i b1 _ b2 _;cases b1<;>cases b2<;>rfl))
def rPlus:R2:=λx y H Q=>(∃i j,x= .int i/\y= .int j/\Q (.int (i+j)) H)\/(∃a b,x=tx a/\y=tx b/\a.length+b.length<=sizeLine/\Q (tx (a++b)) H)\/rCat x y H Q
theorem zAL:OpR X (binaryOp .Add) rPlus:=op_add.or (op_addT.or zM7)
def rMulT:R2:=λx y H Q=>∃a k,x=tx a/\y= .int k/\0<=k/\k<=1000/\a.length<=1000/\Q (tx (List.replicate k.toNat a).flatten) H
def rTimes:R2:=λx y H Q=>(∃i j,x= .int i/\y= .int j/\CMul i j/\Q (.int (i*j)) H)\/rRep x y H Q\/rMulT x y H Q
theorem zAY:OpR X (binaryOp .Mult) rTimes:=op_mul.or (op_rep.or zIW)
def rEqA(K:PySem.W.Frag):R2:=λx y H Q=>rEq x y H Q\/rEqL K false x y H Q
theorem zAv(K:PySem.W.Frag)(hu:X.A.units<cLine)(hK:X.K=K:=by rfl):OpR X (compareOp .Eq) (rEqA K):=by subst hK;exact op_eq.or (zM6 hu)
def rNeA(K:PySem.W.Frag):R2:=λx y H Q=>rNe x y H Q\/rEqL K true x y H Q
theorem zBl(K:PySem.W.Frag)(hu:X.A.units<cLine)(hK:X.K=K:=by rfl):OpR X (compareOp .NotEq) (rNeA K):=by subst hK;exact op_ne.or (zM1 hu)
def rInA(K:PySem.W.Frag):R2:=λx y H Q=>(∃c l,x=tx [c]/\y=tx l/\Q (.bl (decide (c∈l))) H)\/rIn K false x y H Q
theorem zDw(K:PySem.W.Frag)(hK:X.K=K:=by rfl):OpR X (compareOp .In) (rInA K):=by subst hK;exact op_inT.or zIa
def rNotInA(K:PySem.W.Frag):R2:=λx y H Q=>(∃c l,x=tx [c]/\y=tx l/\Q (.bl (!decide (c∈l))) H)\/rIn K true x y H Q
theorem zCG(K:PySem.W.Frag)(hK:X.K=K:=by rfl):OpR X (compareOp .NotIn) (rNotInA K):=by subst hK;exact op_notinT.or zFS
def rIsA:R2:=λx y H Q=>litV y=true/\Q (.bl (decide (x=y))) H
theorem zCI:OpR X (compareOp .Is) rIsA:=zM5
def rIsNotA:R2:=λx y H Q=>litV y=true/\Q (.bl (!decide (x=y))) H
theorem zBz:OpR X (compareOp .IsNot) rIsNotA:=zIY
def rIxA(K:PySem.W.Frag):R2:=λx y H Q=>rIxT' x y H Q\/rIxL K x y H Q\/rIxT K x y H Q
theorem zAb(K:PySem.W.Frag)(hK:X.K=K:=by rfl):IxR X (rIxA K):=by subst hK;exact ix_T.or (ix_list.or zNG)
def rSlA(K:PySem.W.Frag):V->Option Int->Option Int->Hp->VK->Prop:=λx lo hi H Q=>rSlS x lo hi H Q\/rSlL K x lo hi H Q
theorem zFw(K:PySem.W.Frag)(hK:X.K=K:=by rfl):SlR X (rSlA K):=by subst hK;exact sl_T.or zK5
def rLen(K:PySem.W.Frag):List V->Hp->VK->Prop:=λxs H Q=>(∃a,xs=[tx a]/\a.length<=sizeLine/\Q (.int a.length) H)\/∃p ys,xs=[.ref p]/\(SqL K H p ys\/SqT K H p ys)/\Q (.int ys.length) H
theorem zAV(K:PySem.W.Frag)(hK:X.K=K:=by rfl):CallR X (.builtin "len") (rLen K):=by subst hK;exact call_lenT.or zFp
def rAll(K:PySem.W.Frag):List V->Hp->VK->Prop:=λxs H Q=>∃ (a:Addr) (bs:List Bool),xs=[.ref a]/\SqL K H a (bs.map V.bl)/\Q (.bl (bs.all id)) H
theorem zC2(K:PySem.W.Frag)(hc:X.calm=true)(hK:X.K=K:=by rfl):CallR X (.builtin "all") (rAll K):=by subst hK;exact λpins s σ H xs us Q I r h=>zJF pins s σ H xs us Q I r ⟨hc,h⟩
def rIsi(K:PySem.W.Frag):List V->Hp->VK->Prop:=λxs H Q=>∃x T t b,xs=[x, .ty T]/\TyOf K H x t/\PySem.W.kitOne K t (.type T)=some b/\Q (.bl b) H
theorem zBN(K:PySem.W.Frag)(hK:X.K=K:=by rfl):CallR X (.builtin "isinstance") (rIsi K):=by subst hK;exact zKG
def rInt:List V->Hp->VK->Prop:=λxs H Q=>(∃i,xs=[.int i]/\Q (.int i) H)\/∃k,xs=[.bl k]/\Q (.int (if k then 1 else 0)) H
theorem zBA:CallR X (.type "int") rInt:=zJE
def tTru(K:PySem.W.Frag)(ta:TE):TT:=λσ H Q=>ta σ H λx H'=>∃k,TruV K x H' k/\Q k H'
theorem zA4(K:PySem.W.Frag){a:Expr}{ta:TE}(ha:PE X a ta)(he:∀whole,isTrue a X.env whole=(do let v<-whole;standAt a.pos;holding [v] (truthy v)):=by intro _;rfl)(hK:X.K=K:=by rfl):PT X a (tTru K ta):=by subst hK;exact zJm ha he
theorem zCU(K:PySem.W.Frag){tg l:Expr}{tl:TE}(hl:PE X l tl)(hK:X.K=K:=by rfl):PI X tg l (iList K tl):=by subst hK;exact zLa hl
theorem zGA(K:PySem.W.Frag){es:List Expr}{k:Nat}{t:TGs}{n:Nat}{pos:Pos}(hc:X.calm=true)(h:PGs X es t)
 (hn:(assignEach es X.env).length=n:=by rfl) (hst:(assignEach es X.env).findIdx? (·.1)=none:=by rfl) (hK:X.K=K:=by rfl):PG X (.Tuple es k pos) (gTup K n t):=by subst hK;exact zMt hc h hn hst
theorem zIQ(K:PySem.W.Frag){o:Expr}{to:TE}{name:Str}{apos cpos:Pos}{T id:String}{r:V->List V->Hp->VK->Prop}(pa:PlainAttrs T)(slot:Slot T name id)(hty:typeOf (.builtin id)=pure (.type "method_descriptor"))(hm:MtR X id r)(ho:PE X o to)
 (hbase:attributeBase o name X.env (eval o X.env)=eval o X.env:=by rfl) (hline:(apos.endLine==cpos.line)=true:=by rfl) (hK:X.K=K:=by rfl):PE X (.Call (.Attribute o name apos) [] [] cpos) (tBM0 K T r to):=by subst hK;exact zMx pa slot hty hm ho hbase hline
theorem zBy(K:PySem.W.Frag){o e:Expr}{es:List Expr}{to:TE}{t:TA}{name:Str}{apos cpos:Pos}{T id:String}{r:V->List V->Hp->VK->Prop}(pa:PlainAttrs T)(slot:Slot T name id)(hty:typeOf (.builtin id)=pure (.type "method_descriptor"))(hm:MtR X id r)(ho:PE X o to)(ha:PA X (e::es) t)
 (hbase:attributeBase o name X.env (eval o X.env)=eval o X.env:=by rfl)
 (hfew:((backTo cpos (starEach (e::es) X.env)).all (λx=> !x.1)&&(backToKw cpos (keywordEach [] X.env)).all (λx=>x.1.isSome)
   &&decide ((e::es).length+([]:List Keyword).length+(if([]:List Keyword).isEmpty then 0 else 1)<30))=true:=by rfl)
 (hline:(apos.endLine==cpos.line)=true:=by rfl) (hs:starEach (e::es) X.env=(false,eval e X.env)::starEach es X.env:=by rfl) (hplain:(backTo cpos (starEach es X.env)).any (·.1)=false:=by rfl) (hK:X.K=K:=by rfl):
 PE X (.Call (.Attribute o name apos) (e::es) [] cpos) (tBM K T r to t):=by subst hK;exact zOA pa slot hty hm ho ha hbase hfew hline hs hplain
theorem zBg{x:Str}{v:V}{pos:Pos}(h:∃u,X.mg x=some u/\RelV v u)(hg:Gl X x:=by rfl)(hd:(x==("__debug__":Str))=false:=by decide):PE X (.Name x pos) (tC v):=by
 obtain⟨u,hm,r⟩:=h;exact zLc hg hm r hd
theorem zEr{x:Str}{T:String}{pos:Pos}(hm:X.mg x=none)(hv:bootBuiltins x=some (.type T))(hg:Gl X x:=by rfl)(hn:x≠"__name__":=by decide)(hd:(x==("__debug__":Str))=false:=by decide):PE X (.Name x pos) (tC (.ty T)):=
 zLe hg hm hv rfl hn hd
structure FnU (P:Program) (w:World) (K:PySem.W.Frag) (mg:Str->Option Value) (base:Heap) (k:Nat) (x:Str) (ps:List Str) (sp:Sp):Prop where
 ex:∃f fd,FnOk P w K mg base CX0 k f fd ps sp/\mg x=some (.ref f)/\PySem.W.keepIn K (.ref f)=true/\Binds K fd ps []
theorem FnU.mono{P:Program}{w:World}{K:PySem.W.Frag}{mg:Str->Option Value}{base:Heap}{j k:Nat}{x:Str}{ps:List Str}{sp:Sp}(U:FnU P w K mg base j x ps sp)(h:j<=k):FnU P w K mg base k x ps sp:=by
 obtain⟨f,fd,F,a,b,c⟩:=U.ex;exact⟨f,fd,F.mono h,a,b,c⟩
theorem zAX{k:Nat}{x:Str}{ps:List Str}{sp:Sp}{e:Expr}{es:List Expr}{t:TA}{p pos:Pos}(U:FnU X.prog X.w X.K X.mg X.base k x ps sp)(hr:Room k X.A)(ha:PA X (e::es) t)(hg:Gl X x:=by rfl)
 (hdb:(x==("__debug__":Str))=false:=by decide) (he:starEach (e::es) X.env=(false,eval e X.env)::starEach es X.env:=by rfl) (hpl:(backTo pos (starEach es X.env)).any (·.1)=false:=by rfl):
 PE X (.Call (.Name x p) (e::es) [] pos) (tCall sp [] E0 t):=by
 obtain⟨f,fd,F,hm,hk,hb⟩:=U.ex;exact zLd F hr hg hm hk hb .nil pass0 ha hdb he hpl
end
section
variable{σ:St}{H:Hp}{Q:VK}{D:Ends}{K:PySem.W.Frag}
theorem zNo{t u:TS}(h:t {D with nx:=u D} σ H):tSeq t u D σ H:=h
theorem zOM{c:TT}{t u:TS}(h:c σ H λb H1=>if b=true then t D σ H1 else u D σ H1):tIfS c t u D σ H:=h
theorem zN5{te:TE}{g:TG}(h:te σ H λx H1=>g x σ H1 D.nx):tAsg te g D σ H:=h
theorem zN4{i:Nat}{te:TE}{ti:TIp}{x:V}(e:σ[i]? =some (some x))(h:te σ H λy H1=>ti x y H1 λz H2=>D.nx (σ.set i (some z)) H2):tAug i te ti D σ H:=⟨x,e,h⟩
theorem zHU{f:Int->Int->Int}{i j:Int}(h:Q (.int (f i j)) H):ipI f (.int i) (.int j) H Q:=⟨i,j,rfl,rfl,h⟩
theorem zNp{te:TE}(h:te σ H D.rt):tRet te D σ H:=h
theorem zMW{te:TE}(h:te σ H λ_ H1=>D.nx σ H1):tDrop te D σ H:=h
theorem zMH(h:D.nx σ H):tNext D σ H:=h
theorem zMb(h:D.ct σ H):tCont D σ H:=h
theorem zMK{i:Nat}{v:V}{R:St->Hp->Prop}(h:R (σ.set i (some v)) H):gName i v σ H R:=h
theorem zMV{R:St->Hp->Prop}(h:R σ H):gNil [] σ H R:=⟨rfl,h⟩
theorem zLN{t:TG}{u:TGs}{v:V}{r:List V}{R:St->Hp->Prop}(h:t v σ H λσ' H'=>u r σ' H' R):gCons t u (v::r) σ H R:=⟨v,r,rfl,h⟩
theorem zMT{n:Nat}{t:TGs}{a:Addr}{xs:List V}{R:St->Hp->Prop}(hq:SqT K H a xs)(hl:xs.length=n)(h:t xs σ H R):gTup K n t (.ref a) σ H R:=⟨a,xs,rfl,hq,hl,h⟩
theorem zMU{to ti:TE}{t:TSet}{v:V}{R:St->Hp->Prop}(h:to σ H λo H1=>ti σ H1 λi H2=>t o i v H2 λH3=>R σ H3):gSub to ti t v σ H R:=h
theorem zNg{i:Nat}{v:V}(e:σ[i]? =some (some v))(q:Q v H):tVar i σ H Q:=⟨v,e,q⟩
theorem s_c{v:V}(q:Q v H):tC v σ H Q:=q
theorem zLD{r:R2}{ta tb:TE}(h:ta σ H λx H1=>tb σ H1 λy H2=>r x y H2 Q):tOp r ta tb σ H Q:=h
theorem zOH{r:V->Hp->VK->Prop}{ta:TE}(h:ta σ H λx H1=>r x H1 Q):tUn r ta σ H Q:=h
theorem zNr{i:Int}{g:Int->V}(h:Q (g i) H):rU g (.int i) H Q:=⟨i,rfl,h⟩
theorem zMd{sp:Sp}{dvs:List V}{E:XK}{t:TA}(h:t σ H λvs H1=>sp (vs++dvs) H1 Q E):tCall sp dvs E t σ H Q:=h
theorem zFL{ta:TE}{tr:TA}{R:List V->Hp->Prop}(h:ta σ H λx H1=>tr σ H1 λxs H2=>R (x::xs) H2):tCons ta tr σ H R:=h
theorem zLE{R:List V->Hp->Prop}(h:R [] H):tNil σ H R:=h
theorem zON{r:List V->Hp->VK->Prop}{t:TA}(h:t σ H λvs H1=>r vs H1 Q):tCB r t σ H Q:=h
theorem zNw{t:TA}(h:t σ H λxs H1=>xs.length<=sizeLine/\∀p,H1 p=none->Q (.ref p) (upd H1 p (.lst xs))):tLst t σ H Q:=h
theorem zK9{t:TA}(h:t σ H λxs H1=>xs.length<=sizeLine/\∀p,H1 p=none->Q (.ref p) (upd H1 p (.tup xs))):tTup t σ H Q:=h
theorem zNy{t:TT}{ta tb:TE}(h:t σ H λc H1=>if c=true then ta σ H1 Q else tb σ H1 Q):tIf t ta tb σ H Q:=h
theorem zN6{t u:TT}{R:Bool->Hp->Prop}(h:t σ H λc H1=>if c=true then u σ H1 R else R false H1):tAnd t u σ H R:=h
theorem zOK{t u:TT}{R:Bool->Hp->Prop}(h:t σ H λc H1=>if c=true then R true H1 else u σ H1 R):tOr t u σ H R:=h
theorem zNq{t:TT}{R:Bool->Hp->Prop}(h:t σ H λc H1=>R (!c) H1):tNot t σ H R:=h
theorem zKY{ta tb:TE}(h:ta σ H λx H1=>∃c,x= .bl c/\if c=true then tb σ H1 Q else Q (.bl false) H1):tAndV ta tb σ H Q:=h
theorem zMG{ta:TE}(h:ta σ H λx H1=>∃c,x= .bl c/\Q (.bl (!c)) H1):tNotV ta σ H Q:=h
theorem zMD{t:TE}{R:Bool->Hp->Prop}(h:t σ H λx H'=>∃k,x= .bl k/\R k H'):tTest t σ H R:=h
theorem zNj{ta:TE}{R:Bool->Hp->Prop}(h:ta σ H λx H'=>∃k,TruV K x H' k/\R k H'):tTru K ta σ H R:=h
theorem zLP{r r':R2}{ta tb tc:TE}(h:ta σ H λx H1=>tb σ H1 λy H2=>r x y H2 λz H3=>∃k,z= .bl k/\(if k=true then tc σ H3 λw' H4=>r' y w' H4 Q else Q (.bl false) H3)):tChain r r' ta tb tc σ H Q:=h
theorem zJU{c:Bool}{R:Bool->Prop}(h:R c):∃k,V.bl c=V.bl k/\R k:=⟨c,rfl,h⟩
theorem zMC{c:Bool}{R:Bool->Prop}(h:R c):∃k,TruV K (.bl c) H k/\R k:=⟨c,rfl,h⟩
theorem zKX{a:Addr}{xs:List V}{R:Bool->Prop}(hq:SqL K H a xs)(h:R (!xs.isEmpty)):∃k,TruV K (.ref a) H k/\R k:=⟨_, .inl ⟨xs,hq,rfl⟩,h⟩
theorem zMf{i j:Int}(h:Q (.int (i+j)) H):rPlus (.int i) (.int j) H Q:= .inl ⟨i,j,rfl,rfl,h⟩
theorem zDR{a b:List Nat}(hz:a.length+b.length<=sizeLine)(h:Q (tx (a++b)) H):rPlus (tx a) (tx b) H Q:= .inr (.inl ⟨a,b,rfl,rfl,hz,h⟩)
theorem zEP{a b:Addr}{xs ys:List V}(h1:H a=some (.lst xs))(h2:H b=some (.lst ys))(hz:xs.length+ys.length<=sizeLine)(h:∀p,H p=none->Q (.ref p) (upd H p (.lst (xs++ys)))):rPlus (.ref a) (.ref b) H Q:= .inr (.inr ⟨a,b,xs,ys,rfl,rfl,h1,h2,hz,h⟩)
theorem zME{g:Int->Int->V}{i j:Int}(h:Q (g i j) H):rI0 g (.int i) (.int j) H Q:=⟨i,j,rfl,rfl,h⟩
theorem zOJ{C:Int->Int->Prop}{g:Int->Int->V}{i j:Int}(hc:C i j)(h:Q (g i j) H):rI C g (.int i) (.int j) H Q:=⟨i,j,rfl,rfl,hc,h⟩
theorem zMM{i j:Int}(hc:CMul i j)(h:Q (.int (i*j)) H):rTimes (.int i) (.int j) H Q:= .inl ⟨i,j,rfl,rfl,hc,h⟩
theorem zF4{a:Addr}{k:Int}{xs:List V}(h1:H a=some (.lst xs))(h2: -(2^63)<=k)(h3:k<2^63)(hz:xs.length*k.toNat<=sizeLine)(h:∀p,H p=none->Q (.ref p) (upd H p (.lst (List.replicate k.toNat xs).flatten))):rTimes (.ref a) (.int k) H Q:= .inr (.inl ⟨a,k,xs,rfl,rfl,h1,h2,h3,hz,h⟩)
theorem zML{a:List Nat}{k:Int}(h0:0<=k)(h1:k<=1000)(hl:a.length<=1000)(h:Q (tx (List.replicate k.toNat a).flatten) H):rTimes (tx a) (.int k) H Q:= .inr (.inr ⟨a,k,rfl,rfl,h0,h1,hl,h⟩)
theorem zN2{i j:Int}(h:Q (.bl (decide (i=j))) H):rEqA K (.int i) (.int j) H Q:= .inl ⟨rfl,by rw[show decide (V.int i=V.int j)=decide (i=j)from by rw[zE7];exact(Bool.beq_eq_decide_eq i j)];exact h⟩
theorem zN0{a b:List Nat}(h:Q (.bl (decide (a=b))) H):rEqA K (tx a) (tx b) H Q:= .inl ⟨rfl,by rw[zKp];exact h⟩
theorem zN1{a b:Addr}{xs ys:List V}(h1:SqL K H a xs)(h2:SqL K H b ys)(f1:xs.all flatV=true)(f2:ys.all flatV=true)(h:Q (.bl (eqVs xs ys)) H):rEqA K (.ref a) (.ref b) H Q:= .inr ⟨a,b,xs,ys,rfl,rfl,h1,h2,f1,f2,h⟩
theorem zNt{i j:Int}(h:Q (.bl (!decide (i=j))) H):rNeA K (.int i) (.int j) H Q:= .inl ⟨rfl,by rw[show decide (V.int i=V.int j)=decide (i=j)from by rw[zE7];exact(Bool.beq_eq_decide_eq i j)];exact h⟩
theorem zNu{i j:Bool}(h:Q (.bl (!decide (i=j))) H):rNeA K (.bl i) (.bl j) H Q:= .inl ⟨rfl,by rw[show decide (V.bl i=V.bl j)=decide (i=j)from by rw[zI2];exact(Bool.beq_eq_decide_eq i j)];exact h⟩
theorem zNs{a b:List Nat}(h:Q (.bl (!decide (a=b))) H):rNeA K (tx a) (tx b) H Q:= .inl ⟨rfl,by rw[zKp];exact h⟩
theorem zMJ{a b:Addr}{xs ys:List V}(h1:SqL K H a xs)(h2:SqL K H b ys)(f1:xs.all flatV=true)(f2:ys.all flatV=true)(h:Q (.bl (!eqVs xs ys)) H):rNeA K (.ref a) (.ref b) H Q:= .inr ⟨a,b,xs,ys,rfl,rfl,h1,h2,f1,f2,h⟩
theorem zNx{c:Nat}{l:List Nat}(h:Q (.bl (decide (c∈l))) H):rInA K (tx [c]) (tx l) H Q:= .inl ⟨c,l,rfl,rfl,h⟩
theorem zJb{c:Nat}{l:List Nat}(h:Q (.bl (!decide (c∈l))) H):rNotInA K (tx [c]) (tx l) H Q:= .inl ⟨c,l,rfl,rfl,h⟩
theorem zJe{x:V}{a:Addr}{xs:List V}(h1:SqL K H a xs\/SqT K H a xs)(f1:flatV x=true)(f2:xs.all flatV=true)(h:Q (.bl (inV x xs)) H):rInA K x (.ref a) H Q:= .inr ⟨a,xs,rfl,h1,f1,f2,h⟩
theorem zJc{x:V}{a:Addr}{xs:List V}(h1:SqL K H a xs\/SqT K H a xs)(f1:flatV x=true)(f2:xs.all flatV=true)(h:Q (.bl (!inV x xs)) H):rNotInA K x (.ref a) H Q:= .inr ⟨a,xs,rfl,h1,f1,f2,h⟩
theorem zOL{x y:V}(hl:litV y=true)(h:Q (.bl (decide (x=y))) H):rIsA x y H Q:=⟨hl,h⟩
theorem zBe{a:List Nat}{i:Int}{c:Nat}(hz:a.length<=sizeLine)(he:atI a i=some c)(h:Q (tx [c]) H):rIxA K (tx a) (.int i) H Q:= .inl ⟨a,i,c,rfl,rfl,hz,he,h⟩
theorem zAZ{p:Addr}{xs:List V}{i:Int}{v:V}(hq:SqL K H p xs)(he:atI xs i=some v)(h:Q v H):rIxA K (.ref p) (.int i) H Q:= .inr (.inl ⟨p,xs,i,v,rfl,rfl,hq,he,h⟩)
theorem zBD{p:Addr}{xs:List V}{i:Int}{v:V}(hq:SqT K H p xs)(he:atI xs i=some v)(h:Q v H):rIxA K (.ref p) (.int i) H Q:= .inr (.inr ⟨p,xs,i,v,rfl,rfl,hq,he,h⟩)
theorem zOI{r:V->Option Int->Option Int->Hp->VK->Prop}{te:TE}{tl th:TO}(h:te σ H λx H1=>tl σ H1 λl H2=>th σ H2 λu H3=>r x l u H3 Q):tSl r te tl th σ H Q:=h
theorem zJd{R:Option Int->Hp->Prop}(h:R none H):tNoPart σ H R:=h
theorem zMF{t:TE}{R:Option Int->Hp->Prop}(h:t σ H λx H1=>∃i,x= .int i/\R (some i) H1):tPart t σ H R:=h
theorem zLB{i:Int}{R:Int->Prop}(h:R i):∃j,V.int i=V.int j/\R j:=⟨i,rfl,h⟩
theorem zNn{a:List Nat}{lo hi:Option Int}(hz:a.length<=sizeLine)(h:Q (tx (cutL a lo hi)) H):rSlA K (tx a) lo hi H Q:= .inl ⟨a,rfl,hz,h⟩
theorem zIG{a:List Nat}(hz:a.length<=sizeLine)(h:Q (.int a.length) H):rLen K [tx a] H Q:= .inl ⟨a,rfl,hz,h⟩
theorem zBc{p:Addr}{ys:List V}(hq:SqL K H p ys\/SqT K H p ys)(h:Q (.int ys.length) H):rLen K [.ref p] H Q:= .inr ⟨p,ys,rfl,hq,h⟩
theorem zLR{a:Addr}{bs:List Bool}(hq:SqL K H a (bs.map V.bl))(h:Q (.bl (bs.all id)) H):rAll K [.ref a] H Q:=⟨a,bs,rfl,hq,h⟩
theorem zCD{x:V}{T:String}{t:Value}{b:Bool}(ty:TyOf K H x t)(e:PySem.W.kitOne K t (.type T)=some b)(h:Q (.bl b) H):rIsi K [x, .ty T] H Q:=⟨x,T,t,b,rfl,ty,e,h⟩
theorem zMQ{k:Bool}(h:Q (.int (if k then 1 else 0)) H):rInt [.bl k] H Q:= .inr ⟨k,rfl,h⟩
theorem zOO{T:String}{r:V->List V->Hp->VK->Prop}{to:TE}{t:TA}(h:to σ H λx H1=>tyV K T x H1/\t σ H1 λxs H2=>r x xs H2 Q):tBM K T r to t σ H Q:=h
theorem zN3{T:String}{r:V->List V->Hp->VK->Prop}{to:TE}(h:to σ H λx H1=>tyV K T x H1/\r x [] H1 Q):tBM0 K T r to σ H Q:=h
end
section
variable{g:TG}{tb:TS}{D:Ends}{σ:St}{H:Hp}
def ForW(J:It)(g:TG)(tb:TS)(D:Ends)(σ:St)(H:Hp):Prop:=∃W:Nat->Nat->St->Hp->Prop,(∃m,W 0 m σ H)/\∀i m σ H,W i m σ H->
 (J.stop i H/\D.nx σ H)\/(J.go i H/\∃N:St->Hp->Prop,(∀σ' H',N σ' H'->∃m',m'<m/\W (i+1) m' σ' H')/\∀x H',J.yld i H x H'->g x σ H' λσ2 H2=>tb {D with nx:=N,ct:=N,bk:=D.nx} σ2 H2)
theorem zNz{wi:TI}(h:wi σ H λJ H1=>ForW J g tb D σ H1):tFor wi g tb D σ H:=h
theorem zLK{ta:TA}{R:It->Hp->Prop}(h:ta σ H λvs H1=>∃j:Int,vs=[.int j]/\ -(2^62)<=j/\j<2^62/\R (Itr 0 j.toNat) H1):iRng1 ta σ H R:=h
theorem zLL{K:PySem.W.Frag}{tl:TE}{R:It->Hp->Prop}(h:tl σ H λx H1=>∃a,x= .ref a/\(∃xs,SqL K H1 a xs)/\R (Itl K a) H1):iList K tl σ H R:=h
theorem zMP{tl:TE}{R:It->Hp->Prop}(h:tl σ H λx H1=>∃z,x= .str z/\R (Its z) H1):iStr tl σ H R:=h
theorem zLH{a:List Nat}{R:Str->Prop}(h:R ⟨a.toArray⟩):∃z,tx a= .str z/\R z:=⟨_,rfl,h⟩
theorem zMR{ta:TA}{R:It->Hp->Prop}(h:ta σ H λvs H1=>∃z,vs=[.str z]/\R (IteS z) H1):iEnS ta σ H R:=h
theorem zLM{a:List Nat}{R:Str->Prop}(h:R ⟨a.toArray⟩):∃z,[tx a]=[.str z]/\R z:=⟨_,rfl,h⟩
theorem zBX{lo:Int}{n:Nat}(Pv:Nat->St->Hp->Prop)(h0:Pv 0 σ H)
 (hs:∀i σ H,i<n->Pv i σ H->g (.int (lo+i)) σ H λσ2 H2=>tb {D with nx:=Pv (i+1),ct:=Pv (i+1),bk:=D.nx} σ2 H2) (hd:∀σ H,Pv n σ H->D.nx σ H):ForW (Itr lo n) g tb D σ H:=zIu Pv h0 hs hd
theorem zLu{K:PySem.W.Frag}{a:Addr}{xs:List V}(Pv:Nat->St->Hp->Prop)(h0:Pv 0 σ H)(hl:∀i σ H,i<=xs.length->Pv i σ H->SqL K H a xs)
 (hs:∀i x σ H,xs[i]? =some x->Pv i σ H->g x σ H λσ2 H2=>tb {D with nx:=Pv (i+1),ct:=Pv (i+1),bk:=D.nx} σ2 H2) (hd:∀σ H,Pv xs.length σ H->D.nx σ H):ForW (Itl K a) g tb D σ H:=zJ3 Pv h0 hl hs hd
theorem zIv{J:It}{n:Nat}(Pv:Nat->St->Hp->Prop)(h0:Pv 0 σ H)(hgo:∀i σ H,i<n->Pv i σ H->J.go i H)(hst:∀σ H,Pv n σ H->J.stop n H)
 (hs:∀i x σ H H',i<n->Pv i σ H->J.yld i H x H'->g x σ H' λσ2 H2=>tb {D with nx:=Pv (i+1),ct:=Pv (i+1),bk:=D.nx} σ2 H2) (hd:∀σ H,Pv n σ H->D.nx σ H):ForW J g tb D σ H:=by
 refine⟨λi m σ H=>m=n-i/\i<=n/\Pv i σ H,⟨n,by simp,Nat.zero_le _,h0⟩,?_⟩;rintro i m σ H ⟨rfl,hi,p⟩
 by_cases hlt:i<n
 ·exact .inr ⟨hgo i σ H hlt p,Pv (i+1),λσ' H' p'=>⟨n-(i+1),by omega,rfl,hlt,p'⟩,λx H' y=>hs i x σ H H' hlt p y⟩
 ·have e:i=n:=by omega
  subst e;exact .inl ⟨hst σ H p,hd σ H p⟩
theorem zLv{a:List Nat}(Pv:Nat->St->Hp->Prop)(h0:Pv 0 σ H)
 (hs:∀i c σ H T,a[i]? =some c->H T=none->Pv i σ H->g (.ref T) σ (upd H T (.tup [.int i,tx [c]])) λσ2 H2=>tb {D with nx:=Pv (i+1),ct:=Pv (i+1),bk:=D.nx} σ2 H2) (hd:∀σ H,Pv a.length σ H->D.nx σ H):ForW (IteS ⟨a.toArray⟩) g tb D σ H:=by
 refine zIv (n:=a.length) Pv h0 (λi σ H hi _=>by simpa[IteS]using hi) (λσ H _=>by simp[IteS]) (λi x σ H H' hi p y=>?_) hd;obtain⟨T,c,hT,e,rfl,rfl⟩:=y;exact hs i c σ H T (by simpa using e) hT p
def CW(D:Addr)(n:Nat)(Pv:Nat->List V->Hp->Prop)(i m:Nat)(H:Hp):Prop:=m=n-i/\i<=n/\∃ys,H D=some (.lst ys)/\ys.length<=i/\Pv i ys H
def CompW(J:It)(own:List Str)(sel:List Nat)(σ:St)(g:TG)(tt:TT)(te:TE)(Q:VK)(H1:Hp):Prop:=∀D,H1 D=none->
 ∃W:Nat->Nat->Hp->Prop,(∃m,W 0 m (upd H1 D (.lst [])))/\∀i m H2,W i m H2->
  (J.stop i H2/\Q (.ref D) H2)\/(J.go i H2/\∀x H3,J.yld i H2 x H3->g x (inSt own sel σ) H3 λσ4 H4=>tt σ4 H4 λb H5=>
    if b=true then te σ4 H5 λv H6=>∃ys,H6 D=some (.lst ys)/\ys.length<sizeLine/\∃m',m'<m/\W (i+1) m' (upd H6 D (.lst (ys++[v])))
    else∃m',m'<m/\W (i+1) m' H5)
theorem zMc{own:List Str}{sel:List Nat}{wi:TI}{tt:TT}{te:TE}{Q:VK}(h:wi σ H λJ H1=>CompW J own sel σ g tt te Q H1):tComp own sel wi g tt te σ H Q:=h
theorem zDO{J:It}{n:Nat}{own:List Str}{sel:List Nat}{tt:TT}{te:TE}{Q:VK}{H1:Hp}(Pv:Addr->Nat->List V->Hp->Prop)(h0:∀D,H1 D=none->Pv D 0 [] (upd H1 D (.lst [])))
 (hgo:∀D i ys H,H1 D=none->i<n->H D=some (.lst ys)->Pv D i ys H->J.go i H) (hst:∀D ys H,H1 D=none->H D=some (.lst ys)->ys.length<=n->Pv D n ys H->J.stop n H/\Q (.ref D) H)
 (hs:∀D i ys H x H3,H1 D=none->i<n->H D=some (.lst ys)->ys.length<=i->Pv D i ys H->J.yld i H x H3->g x (inSt own sel σ) H3 λσ4 H4=>tt σ4 H4 λb H5=>
   if b=true then te σ4 H5 λv H6=>∃ys,H6 D=some (.lst ys)/\ys.length<sizeLine/\∃m',m'<n-i/\CW D n (Pv D) (i+1) m' (upd H6 D (.lst (ys++[v])))
   else∃m',m'<n-i/\CW D n (Pv D) (i+1) m' H5):CompW J own sel σ g tt te Q H1:=by
 intro D hD;refine⟨CW D n (Pv D),⟨n,by simp,Nat.zero_le _,[],zAF,Nat.le_refl _,h0 D hD⟩,?_⟩;rintro i m H2 ⟨rfl,hi,ys,hy,hl,p⟩
 by_cases hlt:i<n
 ·exact .inr ⟨hgo D i ys H2 hD hlt hy p,λx H3 y=>hs D i ys H2 x H3 hD hlt hy hl p y⟩
 ·have e:i=n:=by omega
  subst e;exact .inl (hst D ys H2 hD hy hl p)
theorem zBr{D:Addr}{n i:Nat}{Pv:Nat->List V->Hp->Prop}{ys:List V}{v:V}{H:Hp}(hi:i<n)(hn:n<=sizeLine)(hD:H D=some (.lst ys))(hl:ys.length<=i)(p:Pv (i+1) (ys++[v]) (upd H D (.lst (ys++[v])))):
 ∃ys,H D=some (.lst ys)/\ys.length<sizeLine/\∃m',m'<n-i/\CW D n Pv (i+1) m' (upd H D (.lst (ys++[v]))):=
 ⟨ys,hD,by omega,n-(i+1),by omega,rfl,hi,ys++[v],zAF,by simp;omega,p⟩
theorem zNf{R:Bool->Hp->Prop}(h:R true H):tYes σ H R:=h
end
theorem small{n:Nat}(h:n<=1000):n<=sizeLine:=Nat.le_of_lt (small1000 h)
theorem zAG{H:Hp}{p:Addr}(h:H p=none)(o:HO):Same H (upd H p o):=λb u q=>by rw[zAI (zAH q h)];exact q
def SameBut1(p:Addr)(H H':Hp):Prop:=∀b o,H b=some o->b≠p->H' b=some o
theorem SameBut1.trans{p:Addr}{H H1 H2:Hp}(a:SameBut1 p H H1)(b:SameBut1 p H1 H2):SameBut1 p H H2:=λc o h n=>b c o (a c o h n) n
theorem SameBut1.of{p:Addr}{H H':Hp}(a:Same H H'):SameBut1 p H H':=λc o h _=>a c o h
theorem SameBut1.upd{p:Addr}{H:Hp}{o:HO}:SameBut1 p H (upd H p o):=λc u h n=>by rw[zAI n];exact h
def compOkB(osc:Scope)(N:List Str)(own:List Str)(sel:List Nat)(scope:Scope):Bool:=
 (scope.kind== .function)&&scope.names.all (λy=>y.2 != .cell)&&scope.names.all (λy=>y.2 != .local||scope.names.lookup y.1==some .local)&&
 scope.names.all (λy=>y.2 != .free||osc.names.lookup y.1==some .cell||osc.names.lookup y.1==some .free)&&
 sel.all (λj=>decide (j<N.length)&&scope.names.lookup (N.getD j Str.empty)==some .free&&(osc.names.lookup (N.getD j Str.empty)==some .cell||osc.names.lookup (N.getD j Str.empty)==some .free))
theorem zAs{osc:Scope}{N:List Str}{own:List Str}{sel:List Nat}{scope:Scope}(h:compOkB osc N own sel scope=true):CompOk osc N own sel scope:=by
 unfold compOkB at h;simp only[Bool.and_eq_true,List.all_eq_true]at h;obtain⟨⟨⟨⟨h1,h2⟩,h3⟩,h4⟩,h5⟩:=h;refine⟨by simpa using h1,λy hy=>by simpa using h2 y hy,λy hy e=>?_,λy hy e=>?_,λj hj=>?_⟩
 ·have:=h3 y hy;simp only[Bool.or_eq_true,bne_iff_ne,beq_iff_eq]at this;rcases this with q|q
  ·exact absurd e q
  ·exact q
 ·have:=h4 y hy;simp only[Bool.or_eq_true,bne_iff_ne,beq_iff_eq]at this;rcases this with(q|q)|q
  ·exact absurd e q
  ·exact .inl q
  ·exact .inr q
 ·have:=h5 j hj;simp only[Bool.or_eq_true,beq_iff_eq,decide_eq_true_eq]at this;exact⟨this.1.1,this.1.2,this.2⟩
structure DefAt (K:PySem.W.Frag) (mg:Str->Option Value) (x:Str) (st:Stmt) (ps:List Str) (f:Addr) (fd:FuncData):Prop where
 F:Fun K x x st f fd
 m:mg x=some (.ref f)
 b:Binds K fd ps []
theorem DefAt.fnU{P:Program}{w:World}{K:PySem.W.Frag}{mg:Str->Option Value}{base:Heap}{x:Str}{st:Stmt}{ps:List Str}{f:Addr}{fd:FuncData}{k:Nat}{sp:Sp}(d:DefAt K mg x st ps f fd)(ok:FnOk P w K mg base CX0 k f fd ps sp):FnU P w K mg base k x ps sp:=
 ⟨f,fd,ok,d.m,d.F.kp,d.b⟩
def PoolAt(H:Hp)(p:Addr)(n:Nat):Prop:=∃a b c:Int,H p=some (.lst [.int a, .int b, .int c])/\0<=c/\c<=n
theorem PoolAt.ne{H:Hp}{p q:Addr}{n:Nat}(h:PoolAt H p n)(hq:H q=none):q≠p:=by
 obtain⟨a,b,c,e,_⟩:=h;exact(zAH e hq).symm
theorem zOG{α:Type}(x:α)(r:List α):atI (x::r) 0=some x:=by simp[atI,ixN]
theorem zBk{p:Addr}{xs:List V}{k:Int}{j:Nat}{v:V}{H:Hp}{R:Hp->Prop}(h:H p=some (.lst xs))(e:ixN xs.length k=some j)(q:R (upd H p (.lst (xs.set j v)))):rSetL (.ref p) (.int k) v H R:=⟨p,xs,k,j,rfl,rfl,h,e,q⟩
theorem zGi{c:TT}{tb:TS}{D:Ends}{σ:St}{H:Hp}(Pv:St->Hp->Prop)(μ:St->Hp->Nat)(h0:Pv σ H)
 (hs:∀σ H,Pv σ H->c σ H λb H1=>if b=true then∃N:St->Hp->Prop,(∀σ' H',N σ' H'->∃m',m'<μ σ H/\(m'=μ σ' H'/\Pv σ' H'))/\tb {D with nx:=N,ct:=N,bk:=D.nx} σ H1 else D.nx σ H1):tWhile c tb D σ H:=
 ⟨λm σ H=>m=μ σ H/\Pv σ H,⟨_,rfl,h0⟩,λm σ H ⟨e,p⟩=>by subst e;exact hs σ H p⟩
theorem zHX{u:Value}{x:V}(h:absV u=some x):RelV x u:=by
 cases u<;>first
  |(cases h;rfl)
  |(cases h;exact⟨_,rfl⟩)
  |(exact absurd h (by intro z;cases z))
def tupIs(its:Array Value)(xs:List V):Bool:=decide (its.toList.map absV=xs.map some)
theorem zDm:∀ {xs:List V} {us:List Value},us.map absV=xs.map some->Vals xs us
 |[],[],_=> .nil
 |x::xs,u::us,h=>by
  rw[List.map_cons,List.map_cons]at h;injection h with h1 h2
  exact .cons (zHX h1) (zDm h2)
 |[],_::_,h=>by cases h
 |_::_,[],h=>by cases h
theorem zEM{its:Array Value}{xs:List V}(h:tupIs its xs=true):Vals xs its.toList:=zDm (of_decide_eq_true h)
theorem zHR{its:Array Value}{xs:List V}(h:tupIs its xs=true)(hx:xs.length<=1000):its.size<=sizeLine:=by
 have e:=(zEM h).length;have e2:its.toList.length=its.size:=by simp
 exact Nat.le_of_lt (small1000 (by omega))
theorem zLI{x y:V}{H:Hp}{Q:VK}(hl:litV y=true)(h:Q (.bl (!decide (x=y))) H):rIsNotA x y H Q:=⟨hl,h⟩
theorem ifd{c A B:Prop}[Decidable c](h1:c->A)(h2:¬c->B):if decide c=true then A else B:=by
 by_cases h:c
 ·rw[if_pos (decide_eq_true h)];exact h1 h
 ·rw[if_neg (by rw[decide_eq_false h];exact Bool.false_ne_true)];exact h2 h
theorem ifn{c A B:Prop}[Decidable c](h1:¬c->A)(h2:c->B):if(!decide c)=true then A else B:=by
 by_cases h:c
 ·rw[if_neg (by rw[decide_eq_true h];exact Bool.false_ne_true)];exact h2 h
 ·rw[if_pos (by rw[decide_eq_false h];rfl)];exact h1 h
theorem ifp{c:Bool}{A B:Prop}(hc:c=true)(h:A):if c=true then A else B:=by rw[if_pos hc];exact h
theorem ifq{c:Bool}{A B:Prop}(hc:c=false)(h:B):if c=true then A else B:=by rw[if_neg (by rw[hc];exact Bool.false_ne_true)];exact h
theorem zKK{ns:List Int}{k:Int}(h0:0<=k)(h:k<(ns.length:Int)):∃v:Int,atI (ns.map V.int) k=some (.int v):=by
 have hk:k.toNat<ns.length:=by omega
 have ek:k=((k.toNat:Nat):Int):=by omega
 have q:atI (ns.map V.int) ((k.toNat:Nat):Int)=some (.int ns[k.toNat]):=zAM (by rw[List.getElem?_map,List.getElem?_eq_getElem hk];rfl);rw[<-ek]at q;exact⟨_,q⟩
end L2
namespace BrM
open L2
def opn:List Nat:=[40,91,123,60]
def cls:List Nat:=[41,93,125,62]
def clo(c:Nat):Nat:=if c=40 then 41 else if c=91 then 93 else if c=123 then 125 else 62
def stp(st:List Nat)(c:Nat):Option (List Nat):=
 if c∈opn then some (clo c::st)else match st with
  |d::r=>if c=d then some r else none
  |[]=>none
def run:List Nat->List Nat->Option (List Nat)
 |st,[]=>some st
 |st,c::r=>(stp st c).bind λs=>run s r
theorem zEQ(st a b:List Nat):run st (a++b)=(run st a).bind λs=>run s b:=by
 induction a generalizing st with
 |nil=>rfl
 |cons c r ih=>
  show(stp st c).bind _=((stp st c).bind _).bind _
  cases stp st c with
  |none=>rfl
  |some s=>exact ih s
theorem zEm{st a s:List Nat}(h:run st a=some s)(c:Nat):run st (a++[c])=stp s c:=by
 rw[zEQ,h];show(stp s c).bind (λs=>some s)=stp s c
 cases stp s c<;>rfl
theorem zEd{c:Nat}(h:c∈opn)(st:List Nat):stp st c=some (clo c::st):=by unfold stp;rw[if_pos h]
theorem zDn{d:Nat}(h:d∉opn)(r:List Nat):stp (d::r) d=some r:=by unfold stp;rw[if_neg h];simp
def Rt(row:List Nat):Prop:=run [] row=some []
def kin(k:Int)(c:Nat):Prop:=c∈opn.take k.toNat\/c∈cls.take k.toNat
theorem zKg{i:Int}{k:Int}(h0:0<=i)(h1:i<k)(hk:k<=4):∃c,atI [40,91,123,60] i=some c/\c∈opn/\c∈opn.take k.toNat/\atI [41,93,125,62] i=some (clo c)/\clo c∈cls.take k.toNat/\clo c∉opn:=by
 have:i=0\/i=1\/i=2\/i=3:=by omega
 have hk':k=1\/k=2\/k=3\/k=4:=by omega
 rcases hk' with rfl|rfl|rfl|rfl<;>rcases this with rfl|rfl|rfl|rfl<;>first
  |omega
  |exact⟨40,by decide⟩
  |exact⟨91,by decide⟩
  |exact⟨123,by decide⟩
  |exact⟨60,by decide⟩
def sg(c:Nat):Int:=if c∈opn then 1 else -1
def hg:List Nat->Int
 |[]=>0
 |c::r=>sg c+hg r
theorem zIs(a b:List Nat):hg (a++b)=hg a+hg b:=by
 induction a with
 |nil=>simp[hg]
 |cons c r ih=>rw[List.cons_append,hg,hg,ih];omega
def ht(a:List Nat)(i:Nat):Int:=hg (a.take i)
theorem zIq{a:List Nat}{i c:Nat}(h:a[i]? =some c):ht a (i+1)=ht a i+sg c:=by
 unfold ht;rw[List.take_add_one,h,zIs];show _=hg _+sg c;simp[hg]
theorem zK4{st s:List Nat}{c:Nat}(h:stp st c=some s):(s.length:Int)=st.length+sg c:=by
 unfold stp at h;unfold sg
 by_cases hc:c∈opn
 ·rw[if_pos hc]at h⊢
  cases h
  simp
 ·rw[if_neg hc]at h⊢
  cases st with
  |nil=>cases h
  |cons d r=>
   simp only at h
   split at h
   ·cases h;simp;omega
   ·cases h
theorem zLV{st a s:List Nat}(h:run st a=some s):(s.length:Int)=st.length+hg a:=by
 induction a generalizing st with
 |nil=>cases h;simp[hg]
 |cons c r ih=>
  have h':(stp st c).bind (λs=>run s r)=some s:=h
  cases e:stp st c with
  |none=>rw[e]at h';cases h'
  |some s1=>
   rw[e]at h';have:=ih h';have:=zK4 e;rw[hg];omega
theorem zJf{a s:List Nat}(h:run [] a=some s)(i:Nat):∃st,run [] (a.take i)=some st:=by
 have e:a=a.take i++a.drop i:=(List.take_append_drop i a).symm;rw[e,zEQ]at h
 cases q:run [] (a.take i)with
 |none=>rw[q]at h;cases h
 |some st=>exact⟨st,rfl⟩
theorem zLq{a st:List Nat}{i:Nat}(h:run [] (a.take i)=some st):ht a i=st.length:=by
 have:=zLV h;unfold ht;simp at this;omega
def Pr(a:List Nat)(x y:Nat):Prop:=x<y/\y<a.length/\ht a (y+1)=ht a x/\∀m,x<m->m<=y->ht a x<ht a m
def IsPart(a:List Nat)(xs:List V):Prop:=xs.length=a.length/\∀k,k<a.length->∃p:Nat,xs[k]? =some (.int p)/\(Pr a k p\/Pr a p k)
inductive WS (a:List Nat) (i:Nat):List Nat->List Nat->Prop where
 |nil:WS a i [] []
 |cons {w c:Nat} {ws st:List Nat}:w<i->a[w]? =some c->c∈opn->ht a w=ws.length->(∀m,w<m->m<=i->ht a w<ht a m)->WS a i ws st->WS a i (w::ws) (clo c::st)
theorem WS.len{a ws st:List Nat}{i:Nat}(h:WS a i ws st):ws.length=st.length:=by
 induction h with
 |nil=>rfl
 |cons _ _ _ _ _ _ ih=>simp[ih]
theorem WS.lt{a ws st:List Nat}{i:Nat}(h:WS a i ws st):∀w∈ws,w<i:=by
 induction h with
 |nil=>intro w z;cases z
 |cons h1 _ _ _ _ _ ih=>
  intro w z;rcases List.mem_cons.mp z with rfl|z
  ·exact h1
  ·exact ih w z
theorem WS.ext{a ws st:List Nat}{i:Nat}(h:WS a i ws st)(hh:(ws.length:Int)<=ht a (i+1)):WS a (i+1) ws st:=by
 induction h with
 |nil=>exact .nil
 |cons h1 h2 h3 h4 h5 _ ih=>
  simp only[List.length_cons]at hh;refine .cons (by omega) h2 h3 h4 (λm hm1 hm2=>?_) (ih (by omega))
  by_cases e:m=i+1
  ·subst e;omega
  ·exact h5 m hm1 (by omega)
structure MI (a:List Nat) (i:Nat) (st ws:List Nat) (xs:List V):Prop where
 rn:run [] (a.take i)=some st
 wk:WS a i ws st
 len:xs.length=a.length
 don:∀k,k<i->k∈ws\/∃p:Nat,xs[k]? =some (.int p)/\(Pr a k p\/Pr a p k)
theorem MI.start(a:List Nat){xs:List V}(h:xs.length=a.length):MI a 0 [] [] xs:=⟨rfl, .nil,h,λk z=>by omega⟩
theorem zEn{a st:List Nat}{i c:Nat}(h:run [] (a.take i)=some st)(hc:a[i]? =some c):run [] (a.take (i+1))=stp st c:=by
 rw[List.take_add_one,hc];exact zEm h c
theorem MI.opens{a st ws:List Nat}{xs:List V}{i c:Nat}(m:MI a i st ws xs)(hc:a[i]? =some c)(ho:c∈opn):MI a (i+1) (clo c::st) (i::ws) xs:=by
 have e1:ht a (i+1)=ht a i+1:=by rw[zIq hc];unfold sg;rw[if_pos ho]
 have e2:=zLq m.rn;have e3:=m.wk.len;refine⟨by rw[zEn m.rn hc,zEd ho], .cons (by omega) hc ho (by omega) (λk h1 h2=>?_) (m.wk.ext (by omega)),m.len,λk hk=>?_⟩
 ·have:k=i+1:=by omega
  subst this;omega
 ·by_cases e:k=i
  ·subst e;exact .inl List.mem_cons_self
  ·rcases m.don k (by omega)with z|z
   ·exact .inl (List.mem_cons_of_mem _ z)
   ·exact .inr z
theorem MI.top{a st:List Nat}{w:Nat}{ws:List Nat}{xs:List V}{i:Nat}(m:MI a i st (w::ws) xs):∃c r,a[w]? =some c/\c∈opn/\st=clo c::r/\w<i:=by
 have h:=m.wk
 cases h with
 |cons h1 h2 h3 h4 h5 h6=>exact⟨_,_,h2,h3,rfl,h1⟩
theorem MI.closes{a r:List Nat}{w:Nat}{ws:List Nat}{xs:List V}{i c:Nat}(m:MI a i (c::r) (w::ws) xs)(hc:a[i]? =some c)(ho:c∉opn):MI a (i+1) r ws ((xs.set w (.int i)).set i (.int w)):=by
 have e1:ht a (i+1)=ht a i-1:=by rw[zIq hc];unfold sg;rw[if_neg ho];omega
 have e2:=zLq m.rn;have e3:=m.wk.len;have hn:i<a.length:=(List.getElem?_eq_some_iff.mp hc).1;have h:=m.wk
 cases h with
 |cons h1 h2 h3 h4 h5 h6=>
  simp only[List.length_cons]at e2 e3;have hp:Pr a w i:=⟨h1,hn,by omega,h5⟩;have hlen:=m.len;refine⟨?_,h6.ext (by omega),by simp[m.len],λk hk=>?_⟩
  ·rw[zEn m.rn hc];exact zDn ho r
  ·by_cases ek:k=i
   ·subst ek;exact .inr ⟨w,by simp[hlen,hn], .inr hp⟩
   ·by_cases ew:k=w
    ·subst ew;refine .inr ⟨i,?_, .inl hp⟩;rw[List.getElem?_set_ne (by omega),List.getElem?_set_self (by omega)]
    ·rcases m.don k (by omega)with z|⟨p,z,q⟩
     ·rcases List.mem_cons.mp z with z|z
      ·exact absurd z ew
      ·exact .inl z
     ·exact .inr ⟨p,by rw[List.getElem?_set_ne (by omega),List.getElem?_set_ne (by omega)];exact z,q⟩
theorem MI.fin{a:List Nat}{ws:List Nat}{xs:List V}(m:MI a a.length [] ws xs):IsPart a xs:=by
 have h:=m.wk
 cases h
 refine⟨m.len,λk hk=>?_⟩;rcases m.don k hk with z|z
 ·cases z
 ·exact z
end BrM
namespace BrM
open L2 PySem
def plainTy:List String:=["NoneType","bool","int","str","list","tuple","dict"]
def spWhole(K:PySem.W.Frag):Sp:=λvs H Q _=>∃x T,vs=[x]/\TyOf K H x (.type T)/\T∈plainTy/\Q (.bl (decide (T="int"))) H
theorem zDj{K:PySem.W.Frag}{H:Hp}{i:Int}{Q:VK}{E:XK}(q:Q (.bl true) H):spWhole K ([.int i]++[]) H Q E:=⟨.int i,"int",rfl, .int i,by decide,q⟩
def spKinds:Sp:=λvs H Q _=>∃k,vs=[.int k]/\1<=k/\k<=4/\Q .non H
theorem zD0{H:Hp}{k:Int}{Q:VK}{E:XK}(h1:1<=k)(h2:k<=4)(q:Q .non H):spKinds ([.int k]++[]) H Q E:=⟨k,rfl,h1,h2,q⟩
def sgn(k:Int):List Nat:=opn.take k.toNat++cls.take k.toNat++[63]
def isRow(k:Int)(a:List Nat):Bool:=decide (a.length<=40)&&a.all λc=>decide (c∈sgn k)
def spLine(K:PySem.W.Frag):Sp:=λvs H Q _=>∃k x,vs=[.int k,x]/\1<=k/\k<=4/\
 ((∃a,x=tx a/\a.length<=1000/\∀H',Same H H'->Q (.bl (isRow k a)) H')\/(∃T,TyOf K H x (.type T)/\T∈plainTy/\T≠"str"/\Q (.bl false) H))
theorem zJx{K:PySem.W.Frag}{H:Hp}{k:Int}{a:List Nat}{Q:VK}{E:XK}(h1:1<=k)(h2:k<=4)(ha:a.length<=1000)(q:∀H',Same H H'->Q (.bl (isRow k a)) H'):spLine K ([.int k,tx a]++[]) H Q E:=⟨k,_,rfl,h1,h2, .inl ⟨a,rfl,ha,q⟩⟩
def spCheckLine:Sp:=λvs H Q _=>∃k a,vs=[.int k,tx a]/\1<=k/\k<=4/\isRow k a=true/\∀H',Same H H'->Q .non H'
theorem zBi{H:Hp}{k:Int}{a:List Nat}{Q:VK}{E:XK}(h1:1<=k)(h2:k<=4)(ha:isRow k a=true)(q:∀H',Same H H'->Q .non H'):spCheckLine ([.int k,tx a]++[]) H Q E:=⟨k,a,rfl,h1,h2,ha,q⟩
instance (a:List Nat):Decidable (Rt a):=by unfold Rt;infer_instance
def spMatched:Sp:=λvs H Q _=>∃a,vs=[tx a]/\a.length<=40/\(Rt a->∀r xs H',H r=none->Same H H'->H' r=some (.lst xs)->IsPart a xs->Q (.ref r) H')/\(¬Rt a->∀H',Same H H'->Q .non H')
theorem zGL{H:Hp}{a:List Nat}{Q:VK}{E:XK}(ha:a.length<=40)(q:Rt a->∀r xs H',H r=none->Same H H'->H' r=some (.lst xs)->IsPart a xs->Q (.ref r) H')(q':¬Rt a->∀H',Same H H'->Q .non H'):spMatched ([tx a]++[]) H Q E:=⟨a,rfl,ha,q,q'⟩
def spRightP:Sp:=λvs H Q _=>∃k a,vs=[.int k,tx a]/\1<=k/\k<=4/\isRow k a=true/\∀H',Same H H'->Q (.bl (decide (Rt a))) H'
theorem zHV{H:Hp}{k:Int}{a:List Nat}{Q:VK}{E:XK}(h1:1<=k)(h2:k<=4)(ha:isRow k a=true)(q:∀H',Same H H'->Q (.bl (decide (Rt a))) H'):spRightP ([.int k,tx a]++[]) H Q E:=⟨k,a,rfl,h1,h2,ha,q⟩
def spLaw(K:PySem.W.Frag):Sp:=λvs H Q _=>∃ (a:Addr) (ns:List Int),vs=[.ref a]/\SqL K H a (ns.map V.int)/\ns.length<=63/\∀H',Q (.bl true) H'
theorem zAz{k:Int}{a:List Nat}(h:isRow k a=true):a.length<=40:=by
 unfold isRow at h;simp only[Bool.and_eq_true,decide_eq_true_eq]at h;exact h.1
theorem zC1{α:Type}(xs:List α){k:Int}(h:0<=k):cutL xs none (some k)=xs.take k.toNat:=by
 unfold cutL;obtain⟨n,rfl⟩:∃n:Nat,k=n:=⟨k.toNat,by omega⟩;rw[HT.sIx_nat,HT.sIx_none,List.drop_zero,Nat.sub_zero,Int.toNat_natCast];rcases Nat.le_total n xs.length with z|z
 ·rw[Nat.min_eq_left z]
 ·rw[Nat.min_eq_right z,List.take_length,List.take_of_length_le z]
theorem zJ0{c d:Nat}(ho:c∈opn):inV (tx [c,d]) [tx [40,41],tx [91,93],tx [123,125],tx [60,62]]=decide (d=clo c):=by
 have e:inV (tx [c,d]) [tx [40,41],tx [91,93],tx [123,125],tx [60,62]]=(decide ([40,41]=[c,d])||(decide ([91,93]=[c,d])||(decide ([123,125]=[c,d])||(decide ([60,62]=[c,d])||false)))):=by
  unfold inV;simp only[List.any_cons,List.any_nil,zKm]
 rw[e];have ho':c=40\/c=91\/c=123\/c=60:=by simpa[opn]using ho
 rcases ho' with rfl|rfl|rfl|rfl<;>simp[clo,eq_comm]
theorem flat1{α:Type}(x:α)(n:Nat):(List.replicate n [x]).flatten=List.replicate n x:=by
 induction n with
 |zero=>rfl
 |succ n ih=>rw[List.replicate_succ,List.flatten_cons,ih];rfl
theorem Same.but{H H1 H2:Hp}{p:Addr}(a:Same H H1)(b:SameBut1 p H1 H2)(h:H p=none):Same H H2:=λc o z=>b c o (a c o z) (zAH z h)
theorem SameBut1.at{H H1:Hp}{p b:Addr}{o:HO}(s:SameBut1 p H H1)(h:H b=some o)(n:b≠p):H1 b=some o:=s b o h n
def mx(a:List Nat):Nat->Int
 |0=>0
 |i+1=>if ht a (i+1)>mx a i then ht a (i+1)else mx a i
def deep(a:List Nat):Int:=mx a a.length
def piece(a:List Nat)(b e:Nat):List Nat:=cutL a (some (b:Int)) (some (e:Int))
def ct(a:List Nat):Nat->List (List Nat)×Nat
 |0=>([],0)
 |i+1=>if ht a (i+1)=0 then((ct a i).1++[piece a (ct a i).2 (i+1)],i+1)else ct a i
def pts(a:List Nat):List (List Nat):=(ct a a.length).1
theorem zG6{k:Int}{a:List Nat}(hl:a.length<=40)(h:∀c∈a,c∈sgn k):isRow k a=true:=by
 unfold isRow;simp only[Bool.and_eq_true,List.all_eq_true,decide_eq_true_eq];exact⟨hl,h⟩
theorem zNV{α:Type}(xs:List α)(i j:Nat):cutL xs (some (i:Int)) (some (j:Int))=(xs.drop i).take (j-i):=by
 unfold cutL;rw[HT.sIx_nat,HT.sIx_nat];rcases Nat.le_total i xs.length with h|h
 ·rw[Nat.min_eq_left h];rcases Nat.le_total j xs.length with g|g
  ·rw[Nat.min_eq_left g]
  ·rw[Nat.min_eq_right g,List.take_of_length_le (by rw[List.length_drop];omega),List.take_of_length_le (by rw[List.length_drop];omega)]
 ·rw[Nat.min_eq_right h,List.drop_of_length_le (Nat.le_refl _),List.drop_of_length_le h];simp
theorem zHF{α:Type}(xs:List α)(i:Nat):cutL xs (some (i:Int)) none=xs.drop i:=by
 unfold cutL;rw[HT.sIx_nat,HT.sIx_none];rcases Nat.le_total i xs.length with h|h
 ·rw[Nat.min_eq_left h,List.take_of_length_le (by rw[List.length_drop];omega)]
 ·rw[Nat.min_eq_right h,List.drop_of_length_le (Nat.le_refl _),List.drop_of_length_le h];simp
end BrM
namespace BrR
open PySem PySem.Spec PyProof.Rows
open PySem.Builtin
end BrR
namespace BrR
open PySem PySem.Spec PyProof.Rows L2
open PySem.Builtin
section
variable{prog:Program}{w:World}{A:Around}{E:Value->Shared->Prop}{s:Shared}
end
end BrR
namespace L2
open PySem PySem.Spec PyProof.Rows BrR
section
variable{X:Cx}
theorem zK3{xss:List (List Nat)}:∀ {us:List Value},Vals (xss.map tx) us->StrsAre us (xss.map λa=>⟨a.toArray⟩):=by
 induction xss with
 |nil=>intro us r;cases r;exact .nil
 |cons a r ih=>
  intro us h
  cases h with
  |cons h1 h2=>
   obtain⟨t,rfl⟩:=h1;exact .cons _ t (ih h2)
theorem zFc:∀ (xss:List (List Nat)),Str.join ⟨([]:List Nat).toArray⟩ (xss.map λa=>⟨a.toArray⟩)=⟨xss.flatten.toArray⟩
 |[]=>rfl
 |[a]=>by simp[Str.join]
 |a::b::r=>by
  have ih:=zFc (b::r);rw[List.map_cons,List.map_cons]at*
  show(⟨a.toArray⟩:Str)++⟨([]:List Nat).toArray⟩++Str.join ⟨([]:List Nat).toArray⟩ (⟨b.toArray⟩::r.map λa=>⟨a.toArray⟩)=_;rw[ih];show(⟨a.toArray++([]:List Nat).toArray++(b::r).flatten.toArray⟩:Str)=_;simp
def rJoin(K:PySem.W.Frag):V->List V->Hp->VK->Prop:=λx vs H Q=>∃ (p:Addr) (xss:List (List Nat)),x=tx []/\vs=[.ref p]/\SqL K H p (xss.map tx)/\xss.flatten.length+xss.length<=1000000/\Q (tx xss.flatten) H
theorem zEz(K:PySem.W.Frag)(hK:X.K=K:=by rfl):MtR X "str.join" (rJoin K):=by
 subst hK;intro pins s σ H x vs v us Q I rx rv h;obtain⟨p,xss,rfl,rfl,hq,hw,q⟩:=h;obtain⟨t,rfl⟩:=rx;obtain⟨u,rfl,ru⟩:=rv.one
 cases ru
 obtain⟨its,r,ht,hz⟩:=I.list hq;have hs:((xss.map λa=>(⟨a.toArray⟩:Str)).map (·.length)).sum=xss.flatten.length:=by
  rw[List.map_map,List.length_flatten];congr 1
 refine join_listW ht.isList (zK3 r) (by rw[zCC];decide) (by rw[hs,List.length_map];omega) λt' k=>?_;have e:Txt.join ⟨([]:List Nat).toArray⟩ (xss.map λa=>⟨a.toArray⟩)=⟨xss.flatten.toArray⟩:=by
  show Builtin.Str.glued _ _=_;rw[StrLaws.glued_eq_join,zFc]
 rw[e];exact⟨tx xss.flatten,H,I.tok k,⟨t',rfl⟩,q⟩
def occ1(l:List Nat)(c:Nat):Option Nat:=(Builtin.Str.occurrences ⟨l.toArray⟩ ⟨#[c]⟩ 0 (⟨l.toArray⟩:Str).length 1).head?
def rIdx:V->List V->Hp->VK->Prop:=λx vs H Q=>∃l c i,x=tx l/\vs=[tx [c]]/\occ1 l c=some i/\Q (.int (i:Nat)) H
theorem zDf:MtR X "str.index" rIdx:=by
 intro pins s σ H x vs v us Q I rx rv h;obtain⟨l,c,i,rfl,rfl,ho,q⟩:=h;obtain⟨t,rfl⟩:=rx;obtain⟨u,rfl,t2,rfl⟩:=rv.one;unfold occ1 at ho
 cases e:Builtin.Str.occurrences ⟨l.toArray⟩ ⟨#[c]⟩ 0 (⟨l.toArray⟩:Str).length 1 with
 |nil=>rw[e]at ho;cases ho
 |cons j rest=>
  rw[e]at ho
  cases ho
  exact SC.index e ⟨.int (i:Nat),H,I.tok _,⟨_,rfl⟩,q⟩
end
section
variable{σ:St}{H:Hp}{Q:VK}{K:PySem.W.Frag}
theorem zNh{a:List Nat}{P:Prop}(h:P):tyV K "str" (tx a) H/\P:=⟨rfl,h⟩
theorem zGr{p:Addr}{xss:List (List Nat)}(hq:SqL K H p (xss.map tx))(hw:xss.flatten.length+xss.length<=1000000)(h:Q (tx xss.flatten) H):rJoin K (tx []) [.ref p] H Q:=⟨p,xss,rfl,rfl,hq,hw,h⟩
theorem zMS{l:List Nat}{c i:Nat}(he:occ1 l c=some i)(h:Q (.int (i:Nat)) H):rIdx (tx l) [tx [c]] H Q:=⟨l,c,i,rfl,rfl,he,h⟩
end
end L2
namespace BrM
open L2 PySem BrR
def oth(c:Nat):Nat:=if c=40 then 41 else if c=91 then 93 else if c=123 then 125 else if c=60 then 62 else if c=41 then 40 else if c=93 then 91 else if c=125 then 123 else if c=62 then 60 else c
def trn(a:List Nat):List Nat:=a.reverse.map oth
def sgs(k:Int):List Nat:=[40,41,91,93,123,125,60,62].take (2*k).toNat++[63]
theorem zK6{k:Int}{c:Nat}(h1:1<=k)(h4:k<=4)(h:c∈sgs k):c∈sgn k:=by
 have hk:k=1\/k=2\/k=3\/k=4:=by omega
 rcases hk with rfl|rfl|rfl|rfl
 ·exact(show∀c∈sgs 1,c∈sgn 1 by decide) c h
 ·exact(show∀c∈sgs 2,c∈sgn 2 by decide) c h
 ·exact(show∀c∈sgs 3,c∈sgn 3 by decide) c h
 ·exact(show∀c∈sgs 4,c∈sgn 4 by decide) c h
theorem zKq{l:List Nat}{i:Int}(h0:0<=i)(h1:i<(l.length:Int)):∃c,atI l i=some c/\c∈l:=by
 have hk:i.toNat<l.length:=by omega
 have ek:i=((i.toNat:Nat):Int):=by omega
 have q:atI l ((i.toNat:Nat):Int)=some l[i.toNat]:=zAM (List.getElem?_eq_getElem hk);rw[<-ek]at q;exact⟨_,q,List.getElem_mem hk⟩
theorem zLn{k:Int}{c:Nat}(h:kin k c):c∈sgn k:=by
 unfold sgn;rcases h with z|z
 ·exact List.mem_append_left _ (List.mem_append_left _ z)
 ·exact List.mem_append_left _ (List.mem_append_right _ z)
end BrM
namespace L2
open PySem PySem.Spec PyProof.Rows BrR
section
variable{X:Cx}
end
section
variable{σ:St}{H:Hp}{Q:VK}{K:PySem.W.Frag}
end
end L2
namespace BrM
open L2 PySem
structure PtsOk (a:List Nat):Prop where
 flat:(pts a).flatten=a
 form:∀p∈pts a,∃o M,p=[o]++M++[clo o]/\o∈opn/\Rt M
 le:∀p∈pts a,deep p<=deep a
 top:deep a=0\/∃p∈pts a,deep p=deep a
 back:pts (trn a)=((pts a).map trn).reverse
theorem zDV{p:List Nat}:∀ {l:List (List Nat)},p∈l->p.length<=l.flatten.length
 |q::r,h=>by
  rw[List.flatten_cons,List.length_append];rcases List.mem_cons.mp h with z|z
  ·subst z;omega
  ·have:=zDV z;omega
theorem PtsOk.len{a:List Nat}(h:PtsOk a){p:List Nat}(hp:p∈pts a):p.length<=a.length:=by
 have:=zDV hp;rwa[h.flat]at this
end BrM
namespace L2
open PySem PySem.Spec PyProof.Rows BrR
section
variable{σ:St}{H:Hp}{Q:VK}{K:PySem.W.Frag}
theorem zHG{a:Addr}{xs:List V}{own:List Str}{sel:List Nat}{g:TG}{te:TE}(f:V->V)(hn:xs.length<=sizeLine)(ha:H a=some (.lst xs))
 (hst:∀D H',H D=none->Same H H'->H' D=some (.lst (xs.map f))->Q (.ref D) H')
 (hs:∀ (D:Addr) (i:Nat) (x:V) (H':Hp) (R:V->Hp->Prop),H D=none->xs[i]? =some x->Same H H'->(∀H6,Same H' H6->R (f x) H6)->g x (inSt own sel σ) H' λσ4 H4=>te σ4 H4 R):CompW (Itl K a) own sel σ g tYes te Q H:=by
 refine zDO (n:=xs.length) (λD i ys H'=>ys=(xs.take i).map f/\Same H H') (λD hD=>⟨rfl,zAG hD _⟩) (λD i ys H' hD hi hy ⟨_,sH⟩=>⟨xs,xs[i],SqL.of (sH _ _ ha),List.getElem?_eq_getElem hi⟩) (λD ys H' hD hy hl ⟨e,sH⟩=>⟨⟨_,SqL.of (sH _ _ ha),Nat.le_refl _⟩,hst D H' hD sH (by rw[hy,e,List.take_length])⟩) ?_;rintro D i ys H' x H3 hD hi hy hl ⟨e,sH⟩ ⟨rfl,hx⟩;have hx':=hx _ (SqL.of (sH _ _ ha));have ef:(fun(σ4:St) (H4:Hp)=>tYes σ4 H4 λb H5=>if b=true then te σ4 H5 λv H6=>∃ys,H6 D=some (.lst ys)/\ys.length<sizeLine/\∃m',m'<xs.length-i/\CW D xs.length (λi ys H'=>ys=(xs.take i).map f/\Same H H') (i+1) m' (upd H6 D (.lst (ys++[v])))else∃m',m'<xs.length-i/\CW D xs.length (λi ys H'=>ys=(xs.take i).map f/\Same H H') (i+1) m' H5)
  =λσ4 H4=>te σ4 H4 λv H6=>∃ys,H6 D=some (.lst ys)/\ys.length<sizeLine/\∃m',m'<xs.length-i/\CW D xs.length (λi ys H'=>ys=(xs.take i).map f/\Same H H') (i+1) m' (upd H6 D (.lst (ys++[v]))):=by
  funext σ4 H4
  simp only[tYes,if_true]
 rw[ef];refine hs D i x H3 _ hD hx' sH λH6 s6=>?_;refine zBr hi hn (s6 _ _ hy) hl ⟨?_,λb o z=>?_⟩
 ·rw[e,List.take_add_one,hx',List.map_append];rfl
 ·rw[zAI (zAH z hD)];exact s6 _ _ (sH _ _ z)
end
end L2
namespace BrM
open L2 PySem
end BrM
namespace L2
open PySem PySem.Spec PyProof.Rows
theorem zFA:∀ (names:List (Str×NameKind)) (h:Heap) (acc:List (Str×Addr)) (x:Str) (c:Addr),(cellsFrom h.objs.size names acc).lookup x=some c->
 ((x,NameKind.cell)∈names/\h.objs.size<=c/\(pushCells h names).IsCell c none)\/acc.lookup x=some c
 |[],_,_,_,_,e=> .inr e
 |(nm,k)::r,h,acc,x,c,e=>by
  unfold cellsFrom at e;unfold pushCells
  by_cases hk:(k==NameKind.cell)=true
  ·rw[if_pos hk]at e⊢;rw[<-Heap.size_push h {cls:= .type "cell",data:= .cell none}]at e;rcases zFA r _ _ x c e with⟨a,b,d⟩|q
   ·refine .inl ⟨List.mem_cons_of_mem _ a,?_,d⟩;rw[Heap.size_push]at b;omega
   ·rw[List.lookup_cons]at q
    cases hx:x==nm with
    |true=>
     rw[hx]at q
     cases q
     have e1:=eq_of_beq hx;have e2:k= .cell:=by simpa using hk
     subst e1;subst e2;exact .inl ⟨List.mem_cons_self,Nat.le_refl _,⟨_,pushCells_keeps _ _ _ _ (Heap.get?_push_size _ rfl),rfl⟩⟩
    |false=>rw[hx]at q;exact .inr q
  ·rw[if_neg hk]at e⊢;rcases zFA r h acc x c e with⟨a,b,d⟩|q
   ·exact .inl ⟨List.mem_cons_of_mem _ a,b,d⟩
   ·exact .inr q
theorem zFl:∀ (names:List (Str×NameKind)) (n:Nat) (acc:List (Str×Addr)) (x:Str),(x,NameKind.cell)∉names->(cellsFrom n names acc).lookup x=acc.lookup x
 |[],_,_,_,_=>rfl
 |(nm,k)::r,n,acc,x,hx=>by
  unfold cellsFrom;have hr:(x,NameKind.cell)∉r:=λz=>hx (List.mem_cons_of_mem _ z)
  by_cases hk:(k==NameKind.cell)=true
  ·rw[if_pos hk,zFl r _ _ x hr,List.lookup_cons];have:(x==nm)=false:=by
    cases q:x==nm with
    |false=>rfl
    |true=>
     have e1:=eq_of_beq q;have e2:k= .cell:=by simpa using hk
     subst e1;subst e2;exact absurd List.mem_cons_self hx
   rw[this]
  ·rw[if_neg hk];exact zFl r n acc x hr
theorem zI9:∀ (names:List (Str×NameKind)) (n:Nat) (acc:List (Str×Addr)) (x:Str),((x,NameKind.cell)∈names\/∃c,acc.lookup x=some c/\n<=c)->∃c,(cellsFrom n names acc).lookup x=some c/\n<=c
 |[],n,acc,x,h=>by
  rcases h with z|z
  ·cases z
  ·exact z
 |(nm,k)::r,n,acc,x,h=>by
  unfold cellsFrom
  by_cases hk:(k==NameKind.cell)=true
  ·rw[if_pos hk]
   by_cases hr:(x,NameKind.cell)∈r
   ·obtain⟨c,e,l⟩:=zI9 r (n+1) ((nm,n)::acc) x (.inl hr);exact⟨c,e,by omega⟩
   ·rw[zFl r _ _ x hr,List.lookup_cons]
    cases hx:x==nm with
    |true=>exact⟨n,rfl,Nat.le_refl _⟩
    |false=>
     rcases h with z|z
     ·rcases List.mem_cons.mp z with q|q
      ·cases q;simp at hx
      ·exact absurd q hr
     ·exact z
  ·rw[if_neg hk];refine zI9 r n acc x ?_;rcases h with z|z
   ·rcases List.mem_cons.mp z with q|q
    ·cases q;exact absurd rfl hk
    ·exact .inl q
   ·exact .inr z
theorem zJA:∀ (names:List (Str×NameKind)) (n:Nat) (acc:List (Str×Addr)),(∀x y c,acc.lookup x=some c->acc.lookup y=some c->x=y)->(∀x c,acc.lookup x=some c->c<n)->
 ∀x y c,(cellsFrom n names acc).lookup x=some c->(cellsFrom n names acc).lookup y=some c->x=y
 |[],_,_,h,_=>h
 |(nm,k)::r,n,acc,h,hb=>by
  unfold cellsFrom
  by_cases hk:(k==NameKind.cell)=true
  ·rw[if_pos hk];refine zJA r (n+1) ((nm,n)::acc) (λx y c a b=>?_) λx c a=>?_
   ·rw[List.lookup_cons]at a b
    cases hx:x==nm<;>cases hy:y==nm<;>rw[hx]at a<;>rw[hy]at b
    ·exact h x y c a b
    ·cases b;exact absurd (hb x _ a) (Nat.lt_irrefl _)
    ·cases a;exact absurd (hb y _ b) (Nat.lt_irrefl _)
    ·rw[eq_of_beq hx,eq_of_beq hy]
   ·rw[List.lookup_cons]at a
    cases hx:x==nm<;>rw[hx]at a
    ·exact Nat.lt_succ_of_lt (hb x c a)
    ·cases a;exact Nat.lt_succ_self _
  ·rw[if_neg hk];exact zJA r n acc h hb
theorem zKx{M:Model}{A:Around}{E:Value->Shared->Prop}{s:Shared}{scope:Scope}{cl:List (Str×Addr)}{env:Env}{Q:Env->Shared->Prop}
 (h:Q {scope:=scope,locals:=s.heap.objs.size,globals:=env.globals,cells:=cellsFrom (s.heap.objs.size+1) scope.names cl,qual:=env.qual,func:=none,code:=env.code,frame:=env.frame,builtins:=env.builtins}
   {s with heap:=pushCells (s.heap.push {cls:= .type "dict",data:= .dict #[]}) scope.names}):
 wpAny M A (newFunctionEnv scope env.globals cl [] env.qual none .none (some env)) Q E s:=by
 simp only[newFunctionEnv,Option.isSome_some,if_true];refine wpAny_bind (wpAny_alloc ?_);refine wpAny_bind (wpAny_layCells _ (λname kind cells=>by cases hkc:kind==NameKind.cell<;>simp[hkc]) _ _ _ _ ?_);rw[show({s with heap:=s.heap.push {cls:= .type "dict",data:= .dict #[]}}:Shared).heap.objs.size=s.heap.objs.size+1 from Heap.size_push ..];rw[List.forIn_nil];exact wpAny_bind (wpAny_pure (wpAny_pure h))
def cxInC(X:Cx)(own:List Str)(sel:List Nat)(scope:Scope)(cl:List (Str×Addr))(C:Addr)(s2:Shared)(H2:Hp)(fp:List Addr):Cx where
 prog:=X.prog
 w:=X.w
 K:=X.K
 mg:=X.mg
 base:=X.base
 A:=X.A
 N:=own++sel.map λj=>X.N.getD j Str.empty
 s₀:=s2
 H₀:=H2
 env:=compEnvC scope cl C X.env
 outer:=X.stack
 stack:=X.stack
 ex:=fp
 fn:=λx=>scope.names.lookup x==some .cell
 calm:=X.calm
 pn:=[]
 xe:=λ_ _=>False
structure CompOkC (osc:Scope) (N:List Str) (own:List Str) (sel:List Nat) (scope:Scope):Prop where
 kind:scope.kind= .function
 cell:∀y∈scope.names,y.2= .cell->scope.names.lookup y.1=some .cell
 names:∀y∈scope.names,y.2= .local->scope.names.lookup y.1=some .local
 free:∀y∈scope.names,y.2= .free->osc.names.lookup y.1=some .cell\/osc.names.lookup y.1=some .free
 seln:∀j∈sel,j<N.length/\scope.names.lookup (N.getD j Str.empty)=some .free/\(osc.names.lookup (N.getD j Str.empty)=some .cell\/osc.names.lookup (N.getD j Str.empty)=some .free)
section
variable{X:Cx}
theorem zHn{elt tg iter:Expr}{ifs:List Expr}{scope:Scope}{pos:Pos}{own:List Str}{sel:List Nat}{wi:TI}{g:TG}{tt:TT}{te:TE}{use:Option (Value->Sem Unit)}{Qo:Value->Shared->Prop}
 (S:CompOkC X.env.scope X.N own sel scope) (hc:X.calm=true) (hi:PI X tg iter wi)
 (hg:∀cl C s2 H2 fp,PG (cxInC X own sel scope cl C s2 H2 fp) tg g) (hk:GK own.length g)
 (ht:∀cl C s2 H2 fp,PIf (cxInC X own sel scope cl C s2 H2 fp) ifs tt) (he:∀cl C s2 H2 fp,PE (cxInC X own sel scope cl C s2 H2 fp) elt te)
 (hs:∀x,foldedSetIterable iter X.env x=pure x) {pins:List (Addr×Obj)} {s:Shared} {σ:St} {H:Hp} {Q:VK} {ps:Pos} (I0:Inv X pins σ H s) (h:tComp own sel wi g tt te σ H Q)
 (fin:∀ (D C:Addr) (H':Hp) (s':Shared) (m:Str->Option Value),Inv X pins σ H' s'->s'.heap.Ns C m->Far X pins H' C->Q (.ref D) H'->compPost (model X.prog X.w) X.A X.xe use Qo (.ref D) C (.ok .next) s'):
 wpAny (model X.prog X.w) X.A (comprehension (.ListComp elt [⟨tg,iter,ifs,0⟩] scope pos) scope X.env ps (newList []) false (eval iter X.env) use) Qo X.xe s:=by
 obtain⟨cl0,hclos,hcl0,hfree0⟩:=zI7 (scope:=scope) (env:=X.env) λy hy e=>I0.ok.has y.1 (S.free y hy e);refine wpAny_comprehension_free (use:=use) rfl hs hclos S.kind S.names (thn (hi pins s σ H _ I0 h) λv s1 h1=>thn h1 λitv s2 h2=>?_);obtain⟨it,fp,tn,J,H2,e,I,T,st2,f2,h3⟩:=h2;subst e;clear h h1 I0;refine wpAny_newObj_type (zKx ?_)
 dsimp only
 generalize hP:s2.heap.push {cls:= .type "list",dict:=none,data:= .seq ([]:List Value).toArray}=P1;generalize hD:s2.heap.objs.size=D;generalize hC:P1.objs.size=C;have hCD:C=D+1:=by rw[<-hC,<-hP,Heap.size_push,hD]
 have hlt:D<C:=by rw[hCD];exact Nat.lt_succ_self D
 have hDC:D≠C:=Nat.ne_of_lt hlt;have neC:∀b:Addr,b<D->b≠C:=λb hb=>Nat.ne_of_lt (Nat.lt_trans hb hlt);have neD:∀b:Addr,b<D->b≠D:=λb hb=>Nat.ne_of_lt hb;have hsD:s2.heap.objs.size<=D:=Nat.le_of_eq hD;have hsC:s2.heap.objs.size<=C:=Nat.le_trans hsD (Nat.le_of_lt hlt);have fresh:∀a,D<=a->H2 a=none:=λa ha=>I.hok.fresh (by rw[hD];exact ha);have hnD:H2 D=none:=fresh D (Nat.le_refl _);have hnC:H2 C=none:=fresh C (Nat.le_of_lt hlt);have below:∀b o,s2.heap.get? b=some o->b<D:=λb o e=>by rw[<-hD];exact Heap.lt_size e
 generalize hh1:pushCells (P1.push {cls:= .type "dict",data:= .dict #[]}) scope.names=h1;have keepP:∀b o,P1.get? b=some o->h1.get? b=some o:=λb o e=>by rw[<-hh1];exact pushCells_keeps _ _ b o (Heap.get?_push_of_some _ e)
 have keep1:∀b o,s2.heap.get? b=some o->h1.get? b=some o:=λb o e=>keepP b o (hP▸Heap.get?_push_of_some _ e);have hns1:h1.Ns C (λ_=>none):=by rw[<-hh1,<-hC];exact(Heap.Ns.new P1 (.type "dict")).keeps (pushCells_keeps _ _)
 have gD:h1.get? D=some {cls:= .type "list",dict:=none,data:= .seq ([]:List Value).toArray}:=by
  refine keepP _ _ ?_;rw[<-hP,<-hD];exact Heap.get?_push_size _ rfl
 have szP:(P1.push {cls:= .type "dict",data:= .dict #[]}).objs.size=C+1:=by rw[Heap.size_push,hC]
 have hcb:∀x c,cl0.lookup x=some c->c<D:=λx c e=>by
  obtain⟨u,o,z,_⟩:=I.cell x c (hcl0 _ _ e);exact below c o z
 generalize hcs:cellsFrom (C+1) scope.names cl0=cl;have hsplit:∀x c,cl.lookup x=some c->((x,NameKind.cell)∈scope.names/\C+1<=c/\h1.IsCell c none)\/X.env.cells.lookup x=some c:=λx c e=>by
  rw[<-hcs,<-szP]at e;rcases zFA _ _ _ x c e with⟨a,b,d⟩|q
  ·rw[szP]at b;rw[hh1]at d;exact .inl ⟨a,b,d⟩
  ·exact .inr (hcl0 _ _ q)
 have hinj:∀x y c,cl.lookup x=some c->cl.lookup y=some c->x=y:=by
  rw[<-hcs];exact zJA _ _ _ (λx y c a b=>I.ok.inj x y c (hcl0 _ _ a) (hcl0 _ _ b)) λx c e=>Nat.lt_succ_of_lt (Nat.lt_trans (hcb x c e) hlt)
 have hcell:∀x,(x,NameKind.cell)∈scope.names->∃c,cl.lookup x=some c/\C+1<=c:=λx hx=>by rw[<-hcs];exact zI9 _ _ _ x (.inl hx)
 have hfree:∀y∈scope.names,y.2= .free->∃c,cl.lookup y.1=some c:=λy hy e=>by
  by_cases hm:(y.1,NameKind.cell)∈scope.names
  ·obtain⟨c,q,_⟩:=hcell _ hm;exact⟨c,q⟩
  ·rw[<-hcs,zFl _ _ _ _ hm];exact hfree0 y hy e
 have hold:∀x,scope.names.lookup x=some .free->∃c,cl.lookup x=some c/\X.env.cells.lookup x=some c:=λx hx=>by
  have hm:(x,NameKind.cell)∉scope.names:=λz=>by have:=S.cell _ z rfl;rw[hx]at this;cases this
  obtain⟨c,q⟩:=hfree0 _ (PySem.mem_of_lookup hx) rfl;exact⟨c,by rw[<-hcs,zFl _ _ _ _ hm];exact q,hcl0 _ _ q⟩
 obtain⟨W,⟨m0,w0⟩,turn⟩:=h3 D hnD;have fpb:∀b∈fp,b<D:=λb hb=>by obtain⟨o,e,_⟩:=T.obj _ _ st2 b hb;exact below b o e
 generalize hY:cxInC X own sel scope cl C s2 H2 fp=Y;have hg:=hg cl C s2 H2 fp;have ht:=ht cl C s2 H2 fp;have he:=he cl C s2 H2 fp;rw[hY]at hg ht he;have okY:Y.Ok:=by
  subst hY;refine⟨I.ok.mod,S.kind,I.ok.glob,I.ok.blt,?_,hinj,λx hx=>?_,λx c hf e=>?_,λz=>I.ok.hd z,I.ok.frames, .inl rfl,λb hb=>⟨?_,λx c e=>?_⟩,I.bs,
   Nat.le_trans I.ok.bsz I.sz,λb o e hb=>?_,λb hb z=>?_,I.stack,I.stkFree⟩
  ·exact hsC
  ·have hx':(relabel scope X.env).names.lookup x=some .cell\/(relabel scope X.env).names.lookup x=some .free:=hx;have hf:scope.names.lookup x=some .cell\/scope.names.lookup x=some .free:=by
    rcases hx' with z|z
    ·rcases zBE z with q|q
     ·exact .inl q
     ·exact .inr q
    ·rcases zBE z with q|q<;>exact .inr q
   rcases hf with hf|hf
   ·obtain⟨c,q,_⟩:=hcell _ (PySem.mem_of_lookup hf);exact⟨c,q⟩
   ·exact hfree _ (PySem.mem_of_lookup hf) rfl
  ·have hf':scope.names.lookup x=some .cell:=by
    have:(scope.names.lookup x==some NameKind.cell)=true:=hf;exact eq_of_beq this
   obtain⟨c',q,l⟩:=hcell x (PySem.mem_of_lookup hf');have e':cl.lookup x=some c:=e;rw[q]at e'
   cases e'
   exact Nat.le_trans hsC (by omega)
  ·exact neC b (fpb b hb)
  ·rcases hsplit x c e with⟨_,l,_⟩|q
   ·have:=fpb b hb;intro z;subst z;exact absurd (Nat.lt_of_lt_of_le this (Nat.le_of_lt hlt)) (by omega)
   ·exact(f2 b hb).2.2.2.2.1 x c q
  ·rcases(f2 b hb).2.2.2.1 with z|z
   ·exact I.ok.noex b o e z
   ·exact absurd (Nat.lt_of_lt_of_le (Heap.lt_size e) (Nat.le_trans I.ok.bsz z)) (Nat.lt_irrefl _)
  ·rcases List.mem_cons.mp (I.stkSub b z)with q|q
   ·exact(f2 b hb).2.1 q
   ·exact(f2 b hb).2.2.1 q
 have eo:ObjOk X.prog X.w (upd H2 D (.lst [])) h1 D (.lst []):=⟨by decide,[],_, .nil,gD⟩;have I1:Inv Y [] (inSt own sel σ) (upd H2 D (.lst [])) {s2 with heap:=h1}:=by
  subst hY;refine⟨okY,rfl,I.bare,Un.laid keep1 hsD hnD,⟨_,hns1,λi x v e1 e2 e3=>?_⟩,λx c e=>?_,?_,λx c e=>?_,λp hp=>absurd (show p∈([]:List (Addr×Obj))from hp) (by simp),I.hok.laid keep1 hsD eo,?_⟩
  ·obtain⟨k,j,ei,ej,es⟩:=zG7 e2;subst ei;have e1':(own++sel.map λj=>X.N.getD j Str.empty)[own.length+k]? =some x:=e1;rw[List.getElem?_append_right (by omega),List.getElem?_map,show own.length+k-own.length=k by omega,ej]at e1';simp only[Option.map_some,Option.some.injEq]at e1';obtain⟨hj,hfx,hkd⟩:=S.seln j (List.mem_of_getElem? ej);have hN:X.N[j]? =some x:=by rw[<-e1',List.getD_eq_getElem?_getD,List.getElem?_eq_getElem hj];rfl
   rw[e1']at hkd hfx;obtain⟨m,_,hl⟩:=I.loc;obtain⟨u,r,lk⟩:=hl j x v hN es (.inr hkd);refine⟨u,r, .inr ⟨zCE I.ok.kind hfx,?_⟩⟩;rcases lk with⟨z1,_⟩|⟨_,c,hc1,hc2⟩
   ·have z1':X.env.scope.names.lookup x=some .local:=z1;rcases hkd with q|q<;>(rw[z1']at q;cases q)
   ·obtain⟨c',q,q2⟩:=hold _ hfx;rw[hc1]at q2
    cases q2
    exact⟨c,q,hc2.keeps keep1⟩
  ·rcases hsplit x c e with⟨_,_,z⟩|q
   ·exact⟨_,z⟩
   ·obtain⟨u,z⟩:=I.cell x c q;exact⟨u,z.keeps keep1⟩
  ·show upd H2 D (.lst []) C=none;rw[zAI (Ne.symm hDC)];exact hnC
  ·show upd H2 D (.lst []) c=none;rcases hsplit x c e with⟨_,l,_⟩|q
   ·have hcD:D<c:=Nat.lt_of_lt_of_le hlt (by omega);rw[zAI (Ne.symm (Nat.ne_of_lt hcD))];exact fresh c (Nat.le_of_lt hcD)
   ·obtain⟨u,o,z,_⟩:=I.cell x c q;rw[zAI (neD c (below c o z))];exact I.freeC x c q
  ·show(inSt own sel σ).length=(own++sel.map λj=>X.N.getD j Str.empty).length;rw[zG8];simp
 have fin:∀ (σ':St) (H':Hp) (s':Shared),Inv Y [] σ' H' s'->Q (.ref D) H'->compPost (model X.prog X.w) X.A X.xe use Qo (.ref D) C (.ok .next) s':=by
  intro σ' H' s' I' q;subst hY;obtain⟨m,hn,_⟩:=I'.loc;have J':Inv X pins σ H' s':=I.call' I'.os I'.base I'.hok I'.bare λb hb=>⟨(f2 b hb).2.2.2.1,(f2 b hb).2.1,(f2 b hb).2.2.2.2.1,(f2 b hb).2.2.2.2.2⟩;refine fin D C H' s' m J' hn ⟨I'.free,Ne.symm (neC _ (by rw[<-hD];exact I.lt)),Nat.le_trans I.sz hsC,λx c e=>?_,λp hp=>?_⟩ q
  ·obtain⟨u,o,z,_⟩:=I.cell x c e;exact neC c (below c o z)
  ·exact neC p.1 (below p.1 p.2 (I.pin p hp).1)
 have stat:∀ {H':Hp},(∀b∈fp,H' b=none)->∀b∈fp,FpOk Y [] H' b:=fun{H'} hn b hb=>by
  subst hY;refine⟨hn b hb,neC b (fpb b hb),λz=>?_, .inl hb,λx c e=>?_,λp hp=>absurd (show p∈([]:List (Addr×Obj))from hp) (by simp)⟩
  ·rcases List.mem_cons.mp (I.stkSub b z)with q|q
   ·exact(f2 b hb).2.1 q
   ·exact(f2 b hb).2.2.1 q
  ·rcases hsplit x c e with⟨_,l,_⟩|q
   ·have:=fpb b hb;intro z;subst z;exact absurd (Nat.lt_of_lt_of_le this (Nat.le_of_lt hlt)) (by omega)
   ·exact(f2 b hb).2.2.2.2.1 x c q
 have loop:∀s3:Shared,s3={s2 with heap:=h1}->
  codeAny (model X.prog X.w) X.A (.compLoop (.ListComp elt [⟨tg,iter,ifs,0⟩] scope pos) 0 (.ref it) (.ref D) (compEnvC scope cl C X.env)) (compPost (model X.prog X.w) X.A X.xe use Qo (.ref D) C) s3:=by
  rintro s3 rfl;have eP:Y.prog=X.prog:=by subst hY;rfl
  have eW:Y.w=X.w:=by subst hY;rfl
  have eA:Y.A=X.A:=by subst hY;rfl
  have eK:Y.K=X.K:=by subst hY;rfl
  have eE:Y.env=compEnvC scope cl C X.env:=by subst hY;rfl
  have eX:Y.xe=λ_ _=>False:=by subst hY;rfl
  have eC:Y.calm=true:=by subst hY;exact hc
  refine zEV (λn s'=>∃i H',Inv Y [] (inSt own sel σ) H' s'/\tn i s'.heap/\(∀b∈fp,H' b=none)/\W i n H') ?_ m0
   ⟨0,_,I1,T.keep _ _ _ st2 λb _ o e=>keep1 b o e,λb hb=>by rw[zAI (neD b (fpb b hb))];exact(f2 b hb).1,w0⟩
  rintro n s4 ⟨i,H4,I4,st4,fr4,w4⟩;rcases turn i n H4 w4 with⟨stop,q⟩|⟨go,step⟩
  ·have dn:=T.done Y eP eW eK eC i [] s4 _ H4 (λ_ _=>False) I4 (stat fr4) st4 stop;rw[eA]at dn;refine thn dn λr s5 ⟨hr,I5⟩=>?_;subst hr;exact fin _ _ _ I5 q
  ·have im:=T.item Y eP eW eK eC i [] s4 _ H4 (λ_ _=>False) I4 (stat fr4) st4 go;rw[eA]at im;refine thn im λr s5 ⟨u,hr,h5⟩=>?_;subst hr;refine thn h5 λ_ s6 ⟨x,H6,I6,r6,y6,st6,fr6⟩=>?_;have I6':=I6.pinned (stat fr6) (T.obj _ _ st6);have back:∀ {σ7:St} {H7:Hp} {s7:Shared} {k:Nat},Inv Y ([]++pinsAt fp s6.heap) σ7 H7 s7->σ7.length=(inSt own sel σ).length->(∀j,own.length<=j->σ7[j]? =(inSt own sel σ)[j]?)->(∃m',m'<n/\W (i+1) m' H7)->
    ∃m',m'<n/\∃i H',Inv Y [] (inSt own sel σ) H' s7/\tn i s7.heap/\(∀b∈fp,H' b=none)/\W i m' H':=fun{σ7 H7 s7 k} I7 l7 k7 w7=>by
    obtain⟨m',hm,w7⟩:=w7;refine⟨m',hm,i+1,H7,I7.unpinned.weak l7.symm λj v e=>?_,T.keep _ _ _ st6 λb hb o e=>(I7.pin (b,o) (List.mem_append_right _ (List.mem_append_right _ (zBj hb e)))).1,λb hb=>?_,w7⟩
    ·by_cases hj:j<own.length
     ·rw[zE2 hj]at e;cases e
     ·rw[k7 j (Nat.le_of_not_lt hj)];exact e
    ·obtain⟨o,e,d⟩:=T.obj _ _ st6 b hb;exact(I7.pin (b,o) (List.mem_append_right _ (List.mem_append_right _ (zBj hb e)))).2.1
   have ga:=hg _ s6 _ H6 x u _ I6' r6 (hk _ _ _ _ (step x H6 y6));rw[eP,eW,eA,eE,eX]at ga;refine thn ga λ_ s7 ⟨σ7,H7,I7,q7,l7,k7⟩=>?_;have ta:=ht _ s7 σ7 H7 _ I7 q7;rw[eP,eW,eA,eE,eX]at ta;refine thn ta λb s8 ⟨H8,I8,q8⟩=>?_
   cases b with
   |false=>
    rw[if_neg Bool.false_ne_true]at q8⊢;exact back (k:=0) I8 l7 k7 q8
   |true=>
    rw[if_pos rfl]at q8⊢;have ea:=he _ s8 σ7 H8 _ I8 q8;rw[eP,eW,eA,eE,eX]at ea;refine thn ea λv s9 ⟨x9,H9,I9,r9,ys,hD9,hz9,q9⟩=>?_;have aa:=zBn (X:=Y) _ s9 σ7 H9 (.ref D) [x9] (.ref D) [v] (λ_ H'=>∃m',m'<n/\W (i+1) m' H') I9 rfl (.cons r9 .nil) ⟨D,ys,x9,rfl,rfl,hD9,hz9,q9⟩;rw[eP,eW,eA,eX]at aa;exact thn aa λ_ s10 ⟨_,H10,I10,_,q10⟩=>back (k:=0) I10 l7 k7 q10
 exact codeAny_compStart_list (loop _ rfl) (T.self X.A 0 _ _ _ (T.keep _ _ _ st2 λb _ o e=>keep1 b o e) (loop _ rfl))
theorem zJs{elt tg iter:Expr}{ifs:List Expr}{scope:Scope}{pos:Pos}{own:List Str}{sel:List Nat}{wi:TI}{g:TG}{tt:TT}{te:TE}
 (S:CompOkC X.env.scope X.N own sel scope) (hc:X.calm=true) (hi:PI X tg iter wi)
 (hg:∀cl C s2 H2 fp,PG (cxInC X own sel scope cl C s2 H2 fp) tg g) (hk:GK own.length g)
 (ht:∀cl C s2 H2 fp,PIf (cxInC X own sel scope cl C s2 H2 fp) ifs tt) (he:∀cl C s2 H2 fp,PE (cxInC X own sel scope cl C s2 H2 fp) elt te)
 (hs:∀x,foldedSetIterable iter X.env x=pure x:=by intro _;rfl):
 PE X (.ListComp elt [⟨tg,iter,ifs,0⟩] scope pos) (tComp own sel wi g tt te):=by
 intro pins s σ H Q I h;rw[eval_ListComp];refine zHn (use:=none) S hc hi hg hk ht he hs I h λD C H' s' m I' hn f q=>?_;exact⟨m,hn,λh' k=>⟨.ref D,H',I'.far f k,rfl,q⟩⟩
end
def Itr3(lo c:Int)(n:Nat):It:=⟨λi _=>i<n,λi H x H'=>H'=H/\x= .int (lo+i*c),λi _=>n<=i⟩
theorem zFy{P:Program}{w:World}{K:PySem.W.Frag}{tg:Expr}(it:Addr)(lo c:Int)(n:Nat):Turn P w K tg (Itr3 lo c n) [it] it (λi h=>IsRangeIter h it (lo+(i:Nat)*c) ((n:Int)-(i:Nat)) c) where
 mem:=by simp
 obj:=λi h st b hb=>by
  obtain rfl:b=it:=by simpa using hb
  exact⟨_,st,λv z=>by
   have z':Data.fields _=Data.cell v:=z
   cases z'⟩
 keep:=λi h h' st k=>k it (by simp) _ st
 item:=by
  intro X hP hw hK hc i pins s σ H E I hf st hg;subst hP hw hK;obtain⟨f0,f1,f2,f3,f4,f5⟩:=hf it (by simp);have W:=Walks.range (prog:=X.prog) (w:=X.w) (I.ok.hd hc) it lo c n;refine W.item i s _ _ hg st λv h' tk hv st' kk=>?_;obtain⟨t,rfl⟩:=hv;have I1:Inv X pins σ H {s with heap:=h',toks:=tk}:=I.turned (λb o hb e=>kk b o (by simpa using hb) e) f0 f1 f3 f4 f5;exact⟨_,rfl,zJ2 (s:={s with heap:=h',toks:=tk}) (n:="range_iterator") st' rfl rfl (by decide) ⟨.int (lo+i*c),H,I1,⟨t,rfl⟩,⟨rfl,rfl⟩,st',λb hb=>(hf b hb).1⟩⟩
 done:=by
  intro X hP hw hK hc i pins s σ H E I hf st hg;subst hP hw hK;obtain⟨f0,f1,f2,f3,f4,f5⟩:=hf it (by simp);exact wpAny_pyNext_range_end (I.ok.hd hc) st (by have:n<=i:=hg;omega) λh' eb=>⟨rfl,I.turned (t':=s.toks) (λb o hb e=>eb b o hb e) f0 f1 f3 f4 f5⟩
 self:=λ_ _ _ _ _ st h=>wpAny_pyIter_rangeiter st h
section
variable{X:Cx}{tg:Expr}
def rN(a b c:Int):Nat:=(Builtin.Range.rangeSize a b c).toNat
theorem zIK{pins:List (Addr×Obj)}{σ:St}{H:Hp}{s:Shared}{R:It->Hp->Prop}{E:Value->Shared->Prop}{lo hi c:Int}{t u v:Tok}{tk:Nat}(I:Inv X pins σ H s)(hs:Builtin.Range.small lo hi c=true)
 (q:R (Itr3 lo c (rN lo hi c)) H):wpAny (model X.prog X.w) X.A (pyIter (.ref s.heap.objs.size)) (PIE X pins σ tg R) E {s with heap:=s.heap.push {cls:= .type "range",data:= .fields #[.int lo t, .int hi u, .int c v]},toks:=tk}:=by
 refine wpAny_pyIter_range (IsRange.new ..) hs ?_;have I1:Inv X pins σ H {s with heap:=s.heap.push {cls:= .type "range",data:= .fields #[.int lo t, .int hi u, .int c v]},toks:=tk}:=I.kept λb o e=>Heap.get?_push_of_some _ e;refine⟨(s.heap.push {cls:= .type "range",data:= .fields #[.int lo t, .int hi u, .int c v]}).objs.size,[(s.heap.push {cls:= .type "range",data:= .fields #[.int lo t, .int hi u, .int c v]}).objs.size],_,_,H,rfl,
  I1.kept (t':=tk) λb o e=>Heap.get?_push_of_some _ e,zFy _ lo c (rN lo hi c),?_,λb hb=>?_,q⟩
 ·have e1:lo+((0:Nat):Int)*c=lo:=by simp
  have e2:((rN lo hi c:Nat):Int)-((0:Nat):Int)=Builtin.Range.rangeSize lo hi c:=by unfold rN;rw[<-rangeSize_toNat];simp
  show IsRangeIter _ _ (lo+((0:Nat):Int)*c) (((rN lo hi c:Nat):Int)-((0:Nat):Int)) c;rw[e1,e2];exact Heap.get?_push_size _ rfl
 ·obtain rfl:b=(s.heap.push {cls:= .type "range",data:= .fields #[.int lo t, .int hi u, .int c v]}).objs.size:=by simpa using hb
  exact I1.fpOk (Nat.le_refl _) (I1.hok.fresh (Nat.le_refl _))
def iRng3(ta:TA):TI:=λσ H R=>ta σ H λvs H1=>∃i j c:Int,vs=[.int i, .int j, .int c]/\(c≠0/\c.natAbs<1000/\Builtin.Range.small i j c=true)/\R (Itr3 i c (rN i j c)) H1
theorem zAg{a b c:Expr}{ta:TA}{p pos:Pos}(hg:Gl X "range")(hm:X.mg "range"=none)(ha:PA X [a,b,c] ta)(hs:starEach [a,b,c] X.env=[(false,eval a X.env),(false,eval b X.env),(false,eval c X.env)]:=by rfl)(hs2:starEach [b,c] X.env=[(false,eval b X.env),(false,eval c X.env)]:=by rfl):
 PI X tg (.Call (.Name "range" p) [a,b,c] [] pos) (iRng3 ta):=by
 intro pins s σ H R I h;refine Call_ (zDz I hg hm boot_range (PyProof.Rows.callWith_type1 (thn (ha pos pins s σ H _ I h) λus s1 ⟨vs,H1,I1,r1,q1⟩=>?_) (by rw[hs,hs2]) (by rw[hs2];rfl)));obtain⟨i,j,c,e,⟨q1,q2,q3⟩,q⟩:=q1;subst e
 cases r1 with
 |cons r rr=>
  cases rr with
  |cons r' rr=>
   cases rr with
   |cons r'' rr=>
    cases rr
    obtain⟨t,rfl⟩:=r;obtain⟨t',rfl⟩:=r';obtain⟨t'',rfl⟩:=r'';exact call_range_3 q1 (zIK I1 q3 q) (Or.inl (PyProof.noPylong_small (by omega)))
end
theorem zAm{a b:Int}(ha:0<=a)(ha':a<=1000)(hb: -1000<=b)(hb':b<=1000):Builtin.Range.small a b 2=true:=by
 unfold Builtin.Range.small Builtin.Range.rangeSize;simp only[Builtin.Range.rangeFitsLong,Bool.and_eq_true,Bool.or_eq_true,decide_eq_true_eq,beq_iff_eq,show(2:Int)>0 by decide,if_true]
 split<;>omega
theorem zEO{a b c:Int}(hc:c= -1\/c= -2)(ha: -1000<=a)(ha':a<=1000)(hb: -1000<=b)(hb':b<=1000):Builtin.Range.small a b c=true:=by
 unfold Builtin.Range.small Builtin.Range.rangeSize;rcases hc with rfl|rfl
 ·simp only[Builtin.Range.rangeFitsLong,Bool.and_eq_true,Bool.or_eq_true,decide_eq_true_eq,beq_iff_eq,show¬ ((-1:Int)>0) by decide,if_false,Int.neg_neg]
  split<;>omega
 ·simp only[Builtin.Range.rangeFitsLong,Bool.and_eq_true,Bool.or_eq_true,decide_eq_true_eq,beq_iff_eq,show¬ ((-2:Int)>0) by decide,if_false,Int.neg_neg]
  split<;>omega
theorem zBV(a b:Int):rN a b 2=((b-a+1)/2).toNat:=by
 unfold rN Builtin.Range.rangeSize;simp only[show(2:Int)>0 by decide,if_true]
 split<;>omega
theorem zIL(a b:Int):rN a b (-1)=(a-b).toNat:=by
 unfold rN Builtin.Range.rangeSize;simp only[show¬ ((-1:Int)>0) by decide,if_false,Int.neg_neg]
 split<;>omega
section
variable{X:Cx}
def rSum(K:PySem.W.Frag):List V->Hp->VK->Prop:=λxs H Q=>∃ (p:Addr) (ns:List Int),xs=[.ref p]/\SqL K H p (ns.map V.int)/\Q (.int ns.sum) H
theorem zJD(K:PySem.W.Frag)(hc:X.calm=true)(hK:X.K=K:=by rfl):CallR X (.builtin "sum") (rSum K):=by
 subst hK;intro pins s σ H xs us Q I r h;obtain⟨p,ns,rfl,hq,q⟩:=h;obtain⟨u,rfl,ru⟩:=vals1 r
 cases ru
 obtain⟨its,rr,ht,hz⟩:=I.list hq;have hi:=zHk rr;obtain⟨xs,e⟩:=hi.allInts.items;have hns:ns=xs.toList.map (·.1):=by rw[<-hi.numsOf,<-nums_intItems,<-e]
 have hl:=ht.isList;rw[e]at hl;refine sum_intListG (I.ok.hd hc) hl λh' tk t' hk=>?_;have e2:preSum (numAt xs) xs.size=ns.sum:=by
  rw[preSum_eq,List.take_of_length_le (by simp),hns]
 rw[e2];exact⟨.int ns.sum,H,I.kept λb o z=>hk b o z,⟨t',rfl⟩,q⟩
def rList(K:PySem.W.Frag):List V->Hp->VK->Prop:=λxs H Q=>∃p ys,xs=[.ref p]/\(SqL K H p ys\/SqT K H p ys)/\∀l,H l=none->Q (.ref l) (upd H l (.lst ys))
theorem zEX(K:PySem.W.Frag)(hK:X.K=K:=by rfl):CallR X (.type "list") (rList K):=by subst hK;exact zFn
def rGetL(K:PySem.W.Frag):V->V->Hp->VK->Prop:=λx y H Q=>∃p xs,∃ (j:Nat),∃v,x= .ref p/\y= .int j/\SqL K H p xs/\xs[j]? =some v/\Q v H
theorem zCJ(K:PySem.W.Frag)(hK:X.K=K:=by rfl):PGet X (rGetL K):=by
 subst hK;intro pins s σ H o i ov iv Q I r1 r2 h;obtain⟨p,xs,j,z,rfl,rfl,hq,he,q⟩:=h
 cases r1
 obtain⟨t,rfl⟩:=r2;obtain⟨its,r,pl,hz⟩:=I.list hq;obtain⟨w,ew,rw'⟩:=r.get he;have hl:=r.length;have hn:=line63;have hj:=(List.getElem?_eq_some_iff.mp he).1;exact wpAny_getItem_list pl.isList (by omega) (by omega) (by simpa using ew) ⟨z,H,I,rw',q⟩
end
section
variable{σ:St}{H:Hp}{Q:VK}{D:Ends}{K:PySem.W.Frag}
theorem zLJ{ta:TA}{R:It->Hp->Prop}(h:ta σ H λvs H1=>∃i j c:Int,vs=[.int i, .int j, .int c]/\(c≠0/\c.natAbs<1000/\Builtin.Range.small i j c=true)/\R (Itr3 i c (rN i j c)) H1):iRng3 ta σ H R:=h
theorem zNl{p:Addr}{ns:List Int}(hq:SqL K H p (ns.map V.int))(h:Q (.int ns.sum) H):rSum K [.ref p] H Q:=⟨p,ns,rfl,hq,h⟩
theorem zIF{p:Addr}{ys:List V}(hq:SqL K H p ys)(h:∀l,H l=none->Q (.ref l) (upd H l (.lst ys))):rList K [.ref p] H Q:=⟨p,ys,rfl, .inl hq,h⟩
theorem zMe{to ti te:TE}{tget:V->V->Hp->VK->Prop}{tip:TIp}{tset:TSet}(h:to σ H λo H1=>ti σ H1 λi H2=>tget o i H2 λx H3=>te σ H3 λy H4=>tip x y H4 λz H5=>tset o i z H5 λH6=>D.nx σ H6):tAugS to ti te tget tip tset D σ H:=h
theorem zFK{p:Addr}{xs:List V}{j:Nat}{v:V}(hq:SqL K H p xs)(he:xs[j]? =some v)(h:Q v H):rGetL K (.ref p) (.int j) H Q:=⟨p,xs,j,v,rfl,rfl,hq,he,h⟩
theorem zAx{g:TG}{tb:TS}{lo c:Int}{n:Nat}(Pv:Nat->St->Hp->Prop)(h0:Pv 0 σ H)
 (hs:∀i σ H,i<n->Pv i σ H->g (.int (lo+i*c)) σ H λσ2 H2=>tb {D with nx:=Pv (i+1),ct:=Pv (i+1),bk:=D.nx} σ2 H2) (hd:∀σ H,Pv n σ H->D.nx σ H):ForW (Itr3 lo c n) g tb D σ H:=
 zIv (n:=n) Pv h0 (λi σ H hi _=>hi) (λσ H _=>Nat.le_refl _) (λi x σ H H' hi p y=>by obtain⟨rfl,rfl⟩:=y;exact hs i σ _ hi p) hd
end
def relabelS(scope osc:Scope):Scope:={scope with names:=scope.names.map fun(n,k)=>if(k== .free&&osc.kind== .function&&osc.names.lookup n==some .cell)then(n, .cell)else(n,k)}
theorem compOkIn{X:Cx}{osc sc:Scope}{N:List Str}{own own':List Str}{sel sel':List Nat}{scope:Scope}{cl:List (Str×Addr)}{C:Addr}{s2:Shared}{H2:Hp}{fp:List Addr}
 (e:X.env.scope=osc) (eN:(cxInC X own' sel' sc cl C s2 H2 fp).N=N) (h:compOkB (relabelS sc osc) N own sel scope=true):CompOk (cxInC X own' sel' sc cl C s2 H2 fp).env.scope (cxInC X own' sel' sc cl C s2 H2 fp).N own sel scope:=by
 subst e;subst eN;exact zAs h
def compOkCB(osc:Scope)(N:List Str)(own:List Str)(sel:List Nat)(scope:Scope):Bool:=
 (scope.kind== .function)&&scope.names.all (λy=>y.2 != .cell||scope.names.lookup y.1==some .cell)&&scope.names.all (λy=>y.2 != .local||scope.names.lookup y.1==some .local)&&
 scope.names.all (λy=>y.2 != .free||osc.names.lookup y.1==some .cell||osc.names.lookup y.1==some .free)&&
 sel.all (λj=>decide (j<N.length)&&scope.names.lookup (N.getD j Str.empty)==some .free&&(osc.names.lookup (N.getD j Str.empty)==some .cell||osc.names.lookup (N.getD j Str.empty)==some .free))
theorem zHo{osc:Scope}{N:List Str}{own:List Str}{sel:List Nat}{scope:Scope}(h:compOkCB osc N own sel scope=true):CompOkC osc N own sel scope:=by
 unfold compOkCB at h;simp only[Bool.and_eq_true,List.all_eq_true]at h;obtain⟨⟨⟨⟨h1,h2⟩,h3⟩,h4⟩,h5⟩:=h;refine⟨by simpa using h1,λy hy e=>?_,λy hy e=>?_,λy hy e=>?_,λj hj=>?_⟩
 ·have:=h2 y hy;simp only[Bool.or_eq_true,bne_iff_ne,beq_iff_eq]at this;rcases this with q|q
  ·exact absurd e q
  ·exact q
 ·have:=h3 y hy;simp only[Bool.or_eq_true,bne_iff_ne,beq_iff_eq]at this;rcases this with q|q
  ·exact absurd e q
  ·exact q
 ·have:=h4 y hy;simp only[Bool.or_eq_true,bne_iff_ne,beq_iff_eq]at this;rcases this with(q|q)|q
  ·exact absurd e q
  ·exact .inl q
  ·exact .inr q
 ·have:=h5 j hj;simp only[Bool.or_eq_true,beq_iff_eq,decide_eq_true_eq]at this;exact⟨this.1.1,this.1.2,this.2⟩
def big:Nat:=2^10000
theorem zHL{i:Int}(h:i.natAbs<big):Builtin.Int.intBits i<=2^20:=by
 refine Nat.le_trans (?_ :Builtin.Int.intBits i<=10000) (by decide);exact PySem.intBits_le_iff.mpr h
section
variable{X:Cx}
def rTimesW:R2:=λx y H Q=>(∃i j,x= .int i/\y= .int j/\(i.natAbs<big/\j.natAbs<big)/\Q (.int (i*j)) H)\/rRep x y H Q\/rMulT x y H Q
theorem op_mulW:OpR X (binaryOp .Mult) (rI (λi j=>i.natAbs<big/\j.natAbs<big) λi j=> .int (i*j)):=opI λ_ _ _ _ _ _ _ hc q=>mul_int q (PySem.IntMulOk.of_bits (zHL hc.1) (zHL hc.2))
theorem zAS:OpR X (binaryOp .Mult) rTimesW:=op_mulW.or (op_rep.or zIW)
end
section
variable{σ:St}{H:Hp}{Q:VK}{K:PySem.W.Frag}
theorem zAi{i j:Int}(h1:i.natAbs<big)(h2:j.natAbs<big)(h:Q (.int (i*j)) H):rTimesW (.int i) (.int j) H Q:= .inl ⟨i,j,rfl,rfl,⟨h1,h2⟩,h⟩
theorem zDh{J:It}{n:Nat}{own:List Str}{sel:List Nat}{g:TG}{te:TE}(f:Nat->V)(hn:n<=sizeLine)(Iv:Addr->Nat->List V->Hp->Prop)
 (hgo:∀i H',i<n->Same H H'->J.go i H') (hsp:∀H',Same H H'->J.stop n H') (hy:∀i H1 x H',i<n->Same H H1->J.yld i H1 x H'->H'=H1/\x=f i)
 (h0:∀D,H D=none->Iv D 0 [] (upd H D (.lst []))) (mono:∀D i ys H1 H2,H D=none->Iv D i ys H1->SameBut1 D H1 H2->Iv D i ys H2)
 (hst:∀D ys H',H D=none->H' D=some (.lst ys)->ys.length=n->Same H H'->Iv D n ys H'->Q (.ref D) H')
 (hs:∀ (D:Addr) (i:Nat) (ys:List V) (H':Hp) (R:V->Hp->Prop),H D=none->i<n->H' D=some (.lst ys)->ys.length=i->Same H H'->Iv D i ys H'->(∀v H6,Same H' H6->Iv D (i+1) (ys++[v]) H6->R v H6)->
   g (f i) (inSt own sel σ) H' λσ4 H4=>te σ4 H4 R):CompW J own sel σ g tYes te Q H:=by
 refine zDO (n:=n) (λD i ys H'=>ys.length=i/\Same H H'/\Iv D i ys H') (λD hD=>⟨rfl,zAG hD _,h0 D hD⟩) (λD i ys H' hD hi _ ⟨_,sH,_⟩=>hgo i H' hi sH)
  (λD ys H' hD hy' hl ⟨e,sH,iv⟩=>⟨hsp H' sH,hst D ys H' hD hy' e sH iv⟩) ?_
 rintro D i ys H1 x H3 hD hi hyD hl ⟨el,sH,iv⟩ yl;obtain⟨rfl,rfl⟩:=hy i H1 x H3 hi sH yl;have key:=hs D i ys H3 (λv H6=>∃ys,H6 D=some (.lst ys)/\ys.length<sizeLine/\∃m',m'<n-i/\CW D n (λi ys H'=>ys.length=i/\Same H H'/\Iv D i ys H') (i+1) m' (upd H6 D (.lst (ys++[v])))) hD hi hyD el sH iv (λv H6 s6 iv6=>?_)
 ·have ef:(fun(σ4:St) (H4:Hp)=>tYes σ4 H4 λb H5=>if b=true then te σ4 H5 λv H6=>∃ys,H6 D=some (.lst ys)/\ys.length<sizeLine/\∃m',m'<n-i/\CW D n (λi ys H'=>ys.length=i/\Same H H'/\Iv D i ys H') (i+1) m' (upd H6 D (.lst (ys++[v])))
   else∃m',m'<n-i/\CW D n (λi ys H'=>ys.length=i/\Same H H'/\Iv D i ys H') (i+1) m' H5)=λσ4 H4=>te σ4 H4 λv H6=>∃ys,H6 D=some (.lst ys)/\ys.length<sizeLine/\∃m',m'<n-i/\CW D n (λi ys H'=>ys.length=i/\Same H H'/\Iv D i ys H') (i+1) m' (upd H6 D (.lst (ys++[v]))):=by
   funext σ4 H4
   exact propext ⟨λz=>by have z':=z;simp only[tYes]at z';simpa using z',λz=>by show tYes _ _ _;simp only[tYes];simpa using z⟩
  rw[ef];exact key
 ·refine zBr hi hn (s6 _ _ hyD) hl ⟨by simp[el],λb o z=>?_,mono D _ _ _ _ hD iv6 SameBut1.upd⟩;rw[zAI (zAH z hD)];exact s6 b o (sH b o z)
theorem zHs{lo:Int}{n:Nat}{own:List Str}{sel:List Nat}{g:TG}{te:TE}(hn:n<=sizeLine)(Iv:Addr->Nat->List V->Hp->Prop)
 (h0:∀D,H D=none->Iv D 0 [] (upd H D (.lst []))) (mono:∀D i ys H1 H2,H D=none->Iv D i ys H1->SameBut1 D H1 H2->Iv D i ys H2)
 (hst:∀D ys H',H D=none->H' D=some (.lst ys)->ys.length=n->Same H H'->Iv D n ys H'->Q (.ref D) H')
 (hs:∀ (D:Addr) (i:Nat) (ys:List V) (H':Hp) (R:V->Hp->Prop),H D=none->i<n->H' D=some (.lst ys)->ys.length=i->Same H H'->Iv D i ys H'->(∀v H6,Same H' H6->Iv D (i+1) (ys++[v]) H6->R v H6)->
   g (.int (lo+i)) (inSt own sel σ) H' λσ4 H4=>te σ4 H4 R):CompW (Itr lo n) own sel σ g tYes te Q H:=
 zDh (λi=> .int (lo+i)) hn Iv (λi H' hi _=>hi) (λH' _=>Nat.le_refl _) (λi H1 x H' _ _ y=>y) h0 mono hst hs
theorem zJW{lo c:Int}{n:Nat}{own:List Str}{sel:List Nat}{g:TG}{te:TE}(hn:n<=sizeLine)(Iv:Addr->Nat->List V->Hp->Prop)
 (h0:∀D,H D=none->Iv D 0 [] (upd H D (.lst []))) (mono:∀D i ys H1 H2,H D=none->Iv D i ys H1->SameBut1 D H1 H2->Iv D i ys H2)
 (hst:∀D ys H',H D=none->H' D=some (.lst ys)->ys.length=n->Same H H'->Iv D n ys H'->Q (.ref D) H')
 (hs:∀ (D:Addr) (i:Nat) (ys:List V) (H':Hp) (R:V->Hp->Prop),H D=none->i<n->H' D=some (.lst ys)->ys.length=i->Same H H'->Iv D i ys H'->(∀v H6,Same H' H6->Iv D (i+1) (ys++[v]) H6->R v H6)->
   g (.int (lo+i*c)) (inSt own sel σ) H' λσ4 H4=>te σ4 H4 R):CompW (Itr3 lo c n) own sel σ g tYes te Q H:=
 zDh (λi=> .int (lo+i*c)) hn Iv (λi H' hi _=>hi) (λH' _=>Nat.le_refl _) (λi H1 x H' _ _ y=>y) h0 mono hst hs
theorem zHr{a:List Nat}{own:List Str}{sel:List Nat}{g:TG}{te:TE}(hn:a.length<=sizeLine)(Iv:Addr->Nat->List V->Hp->Prop)
 (h0:∀D,H D=none->Iv D 0 [] (upd H D (.lst []))) (mono:∀D i ys H1 H2,H D=none->Iv D i ys H1->SameBut1 D H1 H2->Iv D i ys H2)
 (hst:∀D ys H',H D=none->H' D=some (.lst ys)->ys.length=a.length->Same H H'->Iv D a.length ys H'->Q (.ref D) H')
 (hs:∀ (D:Addr) (i:Nat) (ys:List V) (H':Hp) (R:V->Hp->Prop),H D=none->i<a.length->H' D=some (.lst ys)->ys.length=i->Same H H'->Iv D i ys H'->(∀v H6,Same H' H6->Iv D (i+1) (ys++[v]) H6->R v H6)->
   g (tx [a.getD i 0]) (inSt own sel σ) H' λσ4 H4=>te σ4 H4 R):CompW (Its ⟨a.toArray⟩) own sel σ g tYes te Q H:=
 zDh (λi=>tx [a.getD i 0]) hn Iv (λi H' hi _=>by simpa[Its]using hi) (λH' _=>by simp[Its]) (λi H1 x H' hi _ y=>by
  obtain⟨rfl,c,e,rfl⟩:=y;have e':a[i]? =some c:=by simpa using e
  exact⟨rfl,by rw[List.getD_eq_getElem?_getD,e'];rfl⟩) h0 mono hst hs
theorem zH0{lo c:Int}{n:Nat}{own:List Str}{sel:List Nat}{g:TG}{te:TE}(v:Nat->V)(hn:n<=sizeLine)(hst:∀D H',H D=none->Same H H'->H' D=some (.lst ((List.range n).map v))->Q (.ref D) H')
 (hs:∀ (i:Nat) (H':Hp) (R:V->Hp->Prop),i<n->Same H H'->(∀H6,Same H' H6->R (v i) H6)->g (.int (lo+i*c)) (inSt own sel σ) H' λσ4 H4=>te σ4 H4 R):CompW (Itr3 lo c n) own sel σ g tYes te Q H:=
 zJW hn (λD i ys _=>ys=(List.range i).map v) (λ_ _=>rfl) (λ_ _ _ _ _ _ e _=>e) (λD ys H' hD hy _ sH e=>hst D H' hD sH (by rw[hy,e]))
  (λD i ys H' R hD hi hy _ sH e r=>hs i H' R hi sH λH6 s6=>r _ H6 s6 (by rw[e,List.range_succ,List.map_append];rfl))
theorem zGj{a:List Nat}{own:List Str}{sel:List Nat}{g:TG}{te:TE}(v:Nat->V)(hn:a.length<=sizeLine)(hst:∀D H',H D=none->Same H H'->H' D=some (.lst (a.map v))->Q (.ref D) H')
 (hs:∀ (i c:Nat) (H':Hp) (R:V->Hp->Prop),a[i]? =some c->Same H H'->(∀H6,Same H' H6->R (v c) H6)->g (tx [c]) (inSt own sel σ) H' λσ4 H4=>te σ4 H4 R):CompW (Its ⟨a.toArray⟩) own sel σ g tYes te Q H:=
 zHr hn (λD i ys _=>ys=(a.take i).map v) (λ_ _=>rfl) (λ_ _ _ _ _ _ e _=>e) (λD ys H' hD hy _ sH e=>hst D H' hD sH (by rw[hy,e,List.take_length]))
  (λD i ys H' R hD hi hy _ sH e r=>by
    have ec:a[i]? =some a[i]:=List.getElem?_eq_getElem hi;have eg:a.getD i 0=a[i]:=by rw[List.getD_eq_getElem?_getD,ec];rfl
    rw[eg];exact hs i a[i] H' R ec sH λH6 s6=>r _ H6 s6 (by rw[e,List.take_add_one,ec,List.map_append];rfl))
end
end L2
namespace BrC
def sm:Nat->(Nat->Int)->Int
 |0,_=>0
 |n+1,f=>sm n f+f n
theorem zAK{f g:Nat->Int}:∀n,(∀i,i<n->f i=g i)->sm n f=sm n g
 |0,_=>rfl
 |n+1,h=>by unfold sm;rw[zAK n λi hi=>h i (Nat.lt_succ_of_lt hi),h n (Nat.lt_succ_self n)]
theorem zCp(f g:Nat->Int):∀n,sm n (λi=>f i+g i)=sm n f+sm n g
 |0=>rfl
 |n+1=>by unfold sm;rw[zCp f g n];show sm n f+sm n g+(f n+g n)=_;omega
theorem zBK(c:Int)(f:Nat->Int):∀n,sm n (λi=>c*f i)=c*sm n f
 |0=>by simp[sm]
 |n+1=>by unfold sm;rw[zBK c f n,Int.mul_add]
theorem zB0(c:Int)(f:Nat->Int)(n:Nat):sm n (λi=>f i*c)=sm n f*c:=by
 rw[Int.mul_comm,<-zBK];exact zAK n λi _=>Int.mul_comm _ _
theorem sm_zero{f:Nat->Int}:∀n,(∀i,i<n->f i=0)->sm n f=0
 |0,_=>rfl
 |n+1,h=>by unfold sm;rw[sm_zero n λi hi=>h i (Nat.lt_succ_of_lt hi),h n (Nat.lt_succ_self n)];rfl
theorem zEg(f:Nat->Int):∀n,sm (n+1) f=f 0+sm n (λi=>f (i+1))
 |0=>by simp[sm]
 |n+1=>by rw[sm,zEg f n,sm];omega
theorem zB1(f:Nat->Nat->Int)(m:Nat):∀n,sm n (λi=>sm m λj=>f i j)=sm m (λj=>sm n λi=>f i j)
 |0=>by rw[sm];exact(sm_zero m λ_ _=>rfl).symm
 |n+1=>by rw[sm,zB1 f m n,<-zCp];rfl
theorem zH8(f:Nat->Nat->Int):∀L,sm L (λa=>sm (L-a-1) λb=>f a (a+1+b))=sm L (λe=>sm e λa=>f a e)
 |0=>rfl
 |L+1=>by
  rw[sm,sm];have e:sm L (λa=>sm (L+1-a-1) λb=>f a (a+1+b))=sm L (λa=>(sm (L-a-1) λb=>f a (a+1+b))+f a L):=by
   refine zAK L λa ha=>?_;have:L+1-a-1=(L-a-1)+1:=by omega
   rw[this,sm];congr 2;omega
  rw[e,zCp,zH8 f L,show L+1-L-1=0 by omega,sm];omega
theorem zAy{f:Nat->Int}:∀n,(∀i,i<n->0<=f i)->0<=sm n f
 |0,_=>Int.le_refl _
 |n+1,h=>by unfold sm;have:=zAy n λi hi=>h i (Nat.lt_succ_of_lt hi);have:=h n (Nat.lt_succ_self n);omega
theorem zC5{f g:Nat->Int}:∀n,(∀i,i<n->f i<=g i)->sm n f<=sm n g
 |0,_=>Int.le_refl _
 |n+1,h=>by unfold sm;have:=zC5 n λi hi=>h i (Nat.lt_succ_of_lt hi);have:=h n (Nat.lt_succ_self n);omega
theorem zCR(c:Int):∀n,sm n (λ_=>c)=n*c
 |0=>by simp[sm]
 |n+1=>by rw[sm,zCR c n];rw[Int.natCast_add,Int.add_mul];simp
theorem zCa{f:Nat->Int}{n i:Nat}(hi:i<n)(h:∀j,j<n->j≠i->f j=0):sm n f=f i:=by
 induction n with
 |zero=>omega
 |succ n ih=>
  unfold sm
  by_cases e:i=n
  ·subst e;rw[sm_zero i λj hj=>h j (by omega) (by omega)];omega
  ·rw[ih (by omega) λj hj=>h j (by omega),h n (by omega) (by omega)];omega
theorem zEh(f:Nat->Int):∀n,(∀i,i<n->i%2=1->f i=0)->sm n f=sm ((n+1)/2) λq=>f (2*q)
 |0,_=>rfl
 |n+1,h=>by
  rw[sm,zEh f n λi hi=>h i (Nat.lt_succ_of_lt hi)]
  by_cases e:n%2=1
  ·rw[h n (Nat.lt_succ_self n) e,show(n+1+1)/2=(n+1)/2 by omega];omega
  ·rw[show(n+1+1)/2=(n+1)/2+1 by omega,sm,show 2*((n+1)/2)=n by omega]
theorem zFF(f:Nat->Int):∀n,((List.range n).map f).sum=sm n f
 |0=>rfl
 |n+1=>by rw[List.range_succ,List.map_append,List.sum_append,zFF f n];simp[sm]
def cv(P:Nat->Nat->Int)(k:Nat):Nat->Nat->List Nat->Int
 |0,_,[]=>1
 |0,_,_::_=>0
 |n+1,i,st=>sm k (λp=>P i (2*p)*cv P k n (i+1) (p::st))+(match st with|[]=>0|o::r=>P i (2*o+1)*cv P k n (i+1) r)
variable{P:Nat->Nat->Int}{k:Nat}
theorem zBu(n i:Nat):cv P k (n+1) i []=sm k (λp=>P i (2*p)*cv P k n (i+1) [p]):=by
 rw[cv];simp
theorem zBM(n i o:Nat)(st:List Nat):cv P k (n+1) i (o::st)=sm k (λp=>P i (2*p)*cv P k n (i+1) (p::o::st))+P i (2*o+1)*cv P k n (i+1) st:=by
 rw[cv]
theorem zKA:∀ (N n i o:Nat) (st:List Nat),n<=N->cv P k n i (o::st)=sm n (λe=>cv P k e i []*P (i+e) (2*o+1)*cv P k (n-e-1) (i+e+1) st):=by
 intro N
 induction N with
 |zero=>intro n i o st h;obtain rfl:n=0:=by omega
        rfl
 |succ N ih=>
  intro n i o st h
  cases n with
  |zero=>rfl
  |succ n=>
   rw[zBM,zEg,show cv P k 0 i []=1 from rfl];have e0:(1:Int)*P (i+0) (2*o+1)*cv P k (n+1-0-1) (i+0+1) st=P i (2*o+1)*cv P k n (i+1) st:=by rw[Int.one_mul];rfl
   rw[e0,Int.add_comm];congr 1;have L:∀p,cv P k n (i+1) (p::o::st)=sm n (λe=>sm e λa=>(cv P k a (i+1) []*P (i+1+a) (2*p+1))*(cv P k (e-a-1) (i+a+2) []*P (i+e+1) (2*o+1)*cv P k (n-e-1) (i+e+2) st)):=by
    intro p;rw[ih n (i+1) p (o::st) (by omega),<-zH8];refine zAK n λa ha=>?_;rw[ih (n-a-1) (i+1+a+1) o st (by omega),<-zBK];refine zAK _ λb hb=>?_;rw[show a+1+b-a-1=b by omega,show i+1+a+1=i+a+2 by omega,show i+a+2+b=i+(a+1+b)+1 by omega,show n-a-1-b-1=n-(a+1+b)-1 by omega,show i+(a+1+b)+1+1=i+(a+1+b)+2 by omega]
   have e1:sm k (λp=>P i (2*p)*cv P k n (i+1) (p::o::st))=sm k (λp=>sm n λe=>P i (2*p)*sm e λa=>(cv P k a (i+1) []*P (i+1+a) (2*p+1))*(cv P k (e-a-1) (i+a+2) []*P (i+e+1) (2*o+1)*cv P k (n-e-1) (i+e+2) st)):=by
    refine zAK k λp _=>?_;rw[L p,<-zBK]
   rw[e1,zB1];refine zAK n λe he=>?_;rw[zBu,show i+(e+1)=i+e+1 by omega,show n+1-(e+1)-1=n-e-1 by omega,show i+e+1+1=i+e+2 by omega,Int.mul_assoc,<-zB0];refine zAK k λp _=>?_;rw[ih e (i+1) p [] (by omega),Int.mul_assoc];congr 1;rw[<-zB0];refine zAK e λa ha=>?_;rw[show i+1+a+1=i+a+2 by omega];simp only[Int.mul_assoc,Int.mul_comm,Int.mul_left_comm]
theorem zD7:∀ (n i:Nat) (st:List Nat),(n+st.length)%2=1->cv P k n i st=0
 |0,_,[],h=>by simp at h
 |0,_,_::_,_=>rfl
 |n+1,i,[],h=>by
  rw[zBu];refine sm_zero k λp _=>?_;rw[zD7 n (i+1) [p] (by simp at h⊢;omega),Int.mul_zero]
 |n+1,i,o::st,h=>by
  rw[zBM,sm_zero k λp _=>by rw[zD7 n (i+1) (p::o::st) (by simp at h⊢;omega),Int.mul_zero],zD7 n (i+1) st (by simp at h⊢;omega),Int.mul_zero]
  rfl
def pr(P:Nat->Nat->Int)(k i j:Nat):Int:=sm k λp=>P i (2*p)*P j (2*p+1)
theorem zFh(m i:Nat):cv P k (m+1) i []=sm m (λe=>pr P k i (i+1+e)*cv P k e (i+1) []*cv P k (m-e-1) (i+e+2) []):=by
 rw[zBu];have e1:sm k (λp=>P i (2*p)*cv P k m (i+1) [p])=sm k (λp=>sm m λe=>P i (2*p)*P (i+1+e) (2*p+1)*(cv P k e (i+1) []*cv P k (m-e-1) (i+e+2) [])):=by
  refine zAK k λp _=>?_;rw[zKA m m (i+1) p [] (Nat.le_refl _),<-zBK];refine zAK m λe _=>?_;rw[show i+1+e+1=i+e+2 by omega];simp only[Int.mul_assoc,Int.mul_comm,Int.mul_left_comm]
 rw[e1,zB1];refine zAK m λe _=>?_;rw[zB0,Int.mul_assoc]
 rfl
theorem zL1(m i:Nat):cv P k (m+1) i []=sm ((m+1)/2) (λq=>pr P k i (i+1+2*q)*cv P k (2*q) (i+1) []*cv P k (m-2*q-1) (i+2*q+2) []):=by
 rw[zFh,zEh];intro e _ h;rw[zD7 e (i+1) [] (by simpa using h),Int.mul_zero,Int.zero_mul]
theorem zDg{c:Int}(hc:0<=c)(h0:∀i b,0<=P i b)(h1:∀i b,P i b<=c):∀ (n i:Nat) (st:List Nat),0<=cv P k n i st/\cv P k n i st<=(((k:Int)+1)*c)^n
 |0,i,[]=>⟨by simp[cv],by simp[cv]⟩
 |0,i,_::_=>⟨by simp[cv],by simp[cv]⟩
 |n+1,i,st=>by
  have ih:=zDg hc h0 h1 n (i+1);have hB:0<=(((k:Int)+1)*c)^n:=Int.le_trans (ih []).1 (ih []).2;have tm:∀b s',0<=P i b*cv P k n (i+1) s'/\P i b*cv P k n (i+1) s'<=c*(((k:Int)+1)*c)^n:=λb s'=>
   ⟨Int.mul_nonneg (h0 i b) (ih s').1,Int.mul_le_mul (h1 i b) (ih s').2 (ih s').1 hc⟩
  have s1:0<=sm k (λp=>P i (2*p)*cv P k n (i+1) (p::st)):=zAy k λp _=>(tm _ _).1;have s2:sm k (λp=>P i (2*p)*cv P k n (i+1) (p::st))<=k*(c*(((k:Int)+1)*c)^n):=by
   rw[<-zCR];exact zC5 k λp _=>(tm _ _).2
  have e:(((k:Int)+1)*c)^(n+1)=k*(c*(((k:Int)+1)*c)^n)+c*(((k:Int)+1)*c)^n:=by
   rw[Int.pow_succ,Int.mul_comm,Int.mul_assoc,Int.add_mul,Int.one_mul]
  have s3:0<=c*(((k:Int)+1)*c)^n:=Int.mul_nonneg hc hB
  cases st with
  |nil=>rw[zBu,e];exact⟨s1,by omega⟩
  |cons o r=>
   have:=tm (2*o+1) r;rw[zBM,e];constructor<;>omega
theorem zHE{P':Nat->Nat->Int}:∀ (n i:Nat) (st:List Nat),(∀j b,i<=j->j<i+n->P j b=P' j b)->cv P k n i st=cv P' k n i st
 |0,_,[],_=>rfl
 |0,_,_::_,_=>rfl
 |n+1,i,st,h=>by
  have ih:=λs'=>zHE (P':=P') n (i+1) s' λj b h1 h2=>h j b (by omega) (by omega);have e:=zAK (f:=λp=>P i (2*p)*cv P k n (i+1) (p::st)) (g:=λp=>P' i (2*p)*cv P' k n (i+1) (p::st)) k λp _=>by rw[ih,h i _ (by omega) (by omega)]
  cases st with
  |nil=>rw[zBu,zBu];exact e
  |cons o r=>rw[zBM,zBM,e,ih,h i _ (by omega) (by omega)]
end BrC
namespace BrC
theorem zIA{f:Nat->Int}(n:Nat):∀d,(∀e,n<=e->f e=0)->sm (n+d) f=sm n f
 |0,_=>rfl
 |d+1,h=>by rw[show n+(d+1)=(n+d)+1 by omega,sm,zIA n d h,h (n+d) (by omega)];omega
variable{P:Nat->Nat->Int}{k:Nat}
theorem zFj{P':Nat->Nat->Int}:∀ (n i:Nat) (st:List Nat),(∀o∈st,o<k)->(∀j b,i<=j->j<i+n->b<2*k->P j b=P' j b)->cv P k n i st=cv P' k n i st
 |0,_,[],_,_=>rfl
 |0,_,_::_,_,_=>rfl
 |n+1,i,st,hst,h=>by
  have ih:=λs' hs'=>zFj (P':=P') n (i+1) s' hs' λj b h1 h2=>h j b (by omega) (by omega);have e:=zAK (f:=λp=>P i (2*p)*cv P k n (i+1) (p::st)) (g:=λp=>P' i (2*p)*cv P' k n (i+1) (p::st)) k λp hp=>by
   rw[ih _ (λo ho=>by rcases List.mem_cons.mp ho with rfl|z;exact hp;exact hst o z),h i _ (by omega) (by omega) (by omega)]
  cases st with
  |nil=>rw[zBu,zBu];exact e
  |cons o r=>
   have ho:=hst o List.mem_cons_self;rw[zBM,zBM,e,ih r (λx hx=>hst x (List.mem_cons_of_mem _ hx)),h i _ (by omega) (by omega) (by omega)]
end BrC
namespace BrS
open L2 PySem BrM BrC
abbrev iL(l:List Int):HO:= .lst (l.map V.int)
def Pls(H:Hp)(r:Addr)(ps:List (List Int)):Prop:=∃ad:Nat->Addr,H r=some (.lst ((List.range ps.length).map λi=>V.ref (ad i)))/\∀i,i<ps.length->H (ad i)=some (iL (ps.getD i []))
theorem Pls.same{H H':Hp}{r:Addr}{ps:List (List Int)}(h:Pls H r ps)(s:Same H H'):Pls H' r ps:=by
 obtain⟨ad,h1,h2⟩:=h;exact⟨ad,s _ _ h1,λi hi=>s _ _ (h2 i hi)⟩
def rwl(n:Nat)(f:Nat->Int):List V:=(List.range (n+1)).map λj=>V.int (f j)
theorem zCf(n:Nat)(f:Nat->Int):(rwl n f).length=n+1:=by simp[rwl]
theorem zBv{n j:Nat}{f:Nat->Int}(h:j<=n):(rwl n f)[j]? =some (.int (f j)):=by
 unfold rwl;rw[List.getElem?_map,List.getElem?_range (by omega)];rfl
theorem zLT{n j:Nat}{f:Nat->Int}{v:Int}:(rwl n f).set j (.int v)=rwl n (λx=>if x=j then v else f x):=by
 apply List.ext_getElem?;intro i;unfold rwl;rw[List.getElem?_set,List.getElem?_map,List.getElem?_map]
 by_cases e:j=i
 ·subst e
  by_cases hj:j<n+1
  ·rw[List.getElem?_range hj];simp[hj]
  ·rw[if_pos rfl,if_neg (by simpa using hj)];rw[List.getElem?_eq_none (by simpa using hj)];rfl
 ·rw[if_neg e]
  by_cases hi:i<n+1
  ·rw[List.getElem?_range hi];simp[Ne.symm e]
  ·rw[List.getElem?_eq_none (by simpa using hi)];rfl
theorem zDp{n:Nat}{f g:Nat->Int}(h:∀j,j<=n->f j=g j):rwl n f=rwl n g:=by
 unfold rwl;refine List.map_congr_left λj hj=>?_;rw[h j (by have:=List.mem_range.mp hj;omega)]
structure Tb (H0 H:Hp) (s:Addr) (ad:Nat->Addr) (n:Nat) (T:Nat->Nat->Int):Prop where
 fs:H0 s=none
 fa:∀i,i<=n->H0 (ad i)=none
 ns:∀i,i<=n->ad i≠s
 inj:∀i j,i<=n->j<=n->ad i=ad j->i=j
 top:H s=some (.lst ((List.range (n+1)).map λi=>V.ref (ad i)))
 row:∀i,i<=n->H (ad i)=some (.lst (rwl n (T i)))
 sm:Same H0 H
section
variable{H0 H H':Hp}{s:Addr}{ad:Nat->Addr}{n:Nat}{T T':Nat->Nat->Int}
theorem Tb.same(t:Tb H0 H s ad n T)(h:Same H H'):Tb H0 H' s ad n T:=⟨t.fs,t.fa,t.ns,t.inj,h _ _ t.top,λi hi=>h _ _ (t.row i hi),t.sm.trans h⟩
theorem Tb.congr(t:Tb H0 H s ad n T)(h:∀i j,i<=n->j<=n->T i j=T' i j):Tb H0 H s ad n T':=⟨t.fs,t.fa,t.ns,t.inj,t.top,λi hi=>by rw[t.row i hi,zDp λj hj=>h i j hi hj],t.sm⟩
theorem Tb.at(t:Tb H0 H s ad n T){i:Nat}(hi:i<=n):((List.range (n+1)).map λi=>V.ref (ad i))[i]? =some (.ref (ad i)):=by
 rw[List.getElem?_map,List.getElem?_range (by omega)];rfl
theorem Tb.set(t:Tb H0 H s ad n T){i j:Nat}{v:Int}(hi:i<=n):Tb H0 (upd H (ad i) (.lst ((rwl n (T i)).set j (.int v)))) s ad n (λa b=>if a=i/\b=j then v else T a b):=by
 refine⟨t.fs,t.fa,t.ns,t.inj,by rw[zAI (Ne.symm (t.ns i hi))];exact t.top,λa ha=>?_,λb o z=>?_⟩
 ·by_cases e:a=i
  ·subst e;rw[zAF,zLT];congr 2;refine zDp λx _=>?_
   by_cases q:x=j<;>simp[q]
  ·rw[zAI (λz=>e (t.inj a i ha hi z)),t.row a ha];congr 2;refine zDp λx _=>?_;simp[e]
 ·rw[zAI (zAH z (t.fa i hi))];exact t.sm b o z
end
def brs:List Nat:=[40,41,91,93,123,125,60,62]
def plw(w:List Int)(c:Nat):List Int:=if c=63 then w else(brs.take w.length).map λb=>if c=b then 1 else 0
theorem zIP{w:List Int}{c:Nat}(h:w.length<=8):(plw w c).length=w.length:=by
 unfold plw
 split
 ·rfl
 ·rw[List.length_map,List.length_take];exact Nat.min_eq_left h
abbrev PP(ps:List (List Int)):Nat->Nat->Int:=λi b=>(ps.getD i []).getD b 0
abbrev ones(k:Nat):List Int:=List.replicate (2*k) 1
def cnt(k:Nat)(a:List Nat):Int:=cv (PP (a.map (plw (ones k)))) k a.length 0 []
def spWeighed(K:PySem.W.Frag):Sp:=λvs H Q _=>∃ (a:List Nat) (p:Addr) (w:List Int),vs=[tx a, .ref p]/\a.length<=40/\SqL K H p (w.map V.int)/\w.length<=8/\∀r H',H r=none->Same H H'->Pls H' r (a.map (plw w))->Q (.ref r) H'
theorem zDl{K:PySem.W.Frag}{H:Hp}{a:List Nat}{p:Addr}{w:List Int}{Q:VK}{E:XK}(h1:a.length<=40)(h2:SqL K H p (w.map V.int))(h3:w.length<=8)(q:∀r H',H r=none->Same H H'->Pls H' r (a.map (plw w))->Q (.ref r) H'):spWeighed K ([tx a, .ref p]++[]) H Q E:=⟨a,p,w,rfl,h1,h2,h3,q⟩
def spCounted:Sp:=λvs H Q _=>∃ (k:Int) (a:List Nat),vs=[.int k,tx a]/\1<=k/\k<=4/\a.length<=40/\∀r H',H r=none->Same H H'->Pls H' r (a.map (plw (ones k.toNat)))->Q (.ref r) H'
theorem zGZ{H:Hp}{k:Int}{a:List Nat}{Q:VK}{E:XK}(h1:1<=k)(h2:k<=4)(h3:a.length<=40)(q:∀r H',H r=none->Same H H'->Pls H' r (a.map (plw (ones k.toNat)))->Q (.ref r) H'):spCounted ([.int k,tx a]++[]) H Q E:=⟨k,a,rfl,h1,h2,h3,q⟩
def top30:Int:=10^31
def Sm(l:List Int):Prop:=∀v∈l,0<=v/\v<=top30
theorem Sm.at{l:List Int}(h:Sm l)(b:Nat):0<=l.getD b 0/\l.getD b 0<=top30:=by
 rw[List.getD_eq_getElem?_getD]
 cases e:l[b]? with
 |none=>exact⟨by simp,by simp[top30]⟩
 |some v=>exact h v (List.mem_of_getElem? e)
def spPair:Sp:=λvs H Q _=>∃ (p q:Addr) (x y:List Int) (k:Nat),vs=[.ref p, .ref q]/\H p=some (iL x)/\H q=some (iL y)/\x.length=2*k/\y.length=2*k/\k<=4/\Sm x/\Sm y/\∀H',Same H H'->Q (.int (sm k λo=>x.getD (2*o) 0*y.getD (2*o+1) 0)) H'
theorem zGy{H:Hp}{p q:Addr}{x y:List Int}{k:Nat}{Q:VK}{E:XK}(h1:H p=some (iL x))(h2:H q=some (iL y))(l1:x.length=2*k)(l2:y.length=2*k)(hk:k<=4)(s1:Sm x)(s2:Sm y)(r:∀H',Same H H'->Q (.int (sm k λo=>x.getD (2*o) 0*y.getD (2*o+1) 0)) H'):spPair ([.ref p, .ref q]++[]) H Q E:=⟨p,q,x,y,k,rfl,h1,h2,l1,l2,hk,s1,s2,r⟩
def spNoSums:Sp:=λvs H Q _=>∃n:Nat,vs=[.int n]/\n<=40/\∀s ad H',Tb H H' s ad n (λ_ _=>0)->Q (.ref s) H'
theorem zER{H:Hp}{n:Nat}{Q:VK}{E:XK}(h1:n<=40)(r:∀s ad H',Tb H H' s ad n (λ_ _=>0)->Q (.ref s) H'):spNoSums ([.int n]++[]) H Q E:=⟨n,rfl,h1,r⟩
def tbl(P:Nat->Nat->Int)(k:Nat)(i j:Nat):Int:=if i<=j then cv P k (j-i) i []else 0
def spSpans:Sp:=λvs H Q _=>∃ (p:Addr) (ps:List (List Int)) (k:Nat),vs=[.ref p]/\Pls H p ps/\ps.length<=40/\k<=4/\(∀l∈ps,l.length=2*k/\Sm l)/\∀s ad H',Tb H H' s ad ps.length (tbl (PP ps) k)->Q (.ref s) H'
theorem zCo{H:Hp}{p:Addr}{ps:List (List Int)}{k:Nat}{Q:VK}{E:XK}(h1:Pls H p ps)(h2:ps.length<=40)(h3:k<=4)(h4:∀l∈ps,l.length=2*k/\Sm l)(r:∀s ad H',Tb H H' s ad ps.length (tbl (PP ps) k)->Q (.ref s) H'):spSpans ([.ref p]++[]) H Q E:=⟨p,ps,k,rfl,h1,h2,h3,h4,r⟩
def spWholeSum:Sp:=λvs H Q _=>∃H0 s ad n T,vs=[.ref s]/\Tb H0 H s ad n T/\Q (.int (T 0 n)) H
theorem zBU{H0 H:Hp}{s:Addr}{ad:Nat->Addr}{n:Nat}{T:Nat->Nat->Int}{Q:VK}{E:XK}(h:Tb H0 H s ad n T)(q:Q (.int (T 0 n)) H):spWholeSum ([.ref s]++[]) H Q E:=⟨H0,s,ad,n,T,rfl,h,q⟩
def spMany:Sp:=λvs H Q _=>∃ (k:Int) (a:List Nat),vs=[.int k,tx a]/\1<=k/\k<=4/\isRow k a=true/\∀H',Same H H'->Q (.int (cnt k.toNat a)) H'
theorem zG0{H:Hp}{k:Int}{a:List Nat}{Q:VK}{E:XK}(h1:1<=k)(h2:k<=4)(h3:isRow k a=true)(q:∀H',Same H H'->Q (.int (cnt k.toNat a)) H'):spMany ([.int k,tx a]++[]) H Q E:=⟨k,a,rfl,h1,h2,h3,q⟩
def spManyRight:Sp:=λvs H Q _=>∃ (k:Int) (n:Int),vs=[.int k, .int n]/\1<=k/\k<=4/\0<=n/\n<=40/\∀H',Same H H'->Q (.int (cnt k.toNat (List.replicate n.toNat 63))) H'
theorem zCv{H:Hp}{k n:Int}{Q:VK}{E:XK}(h1:1<=k)(h2:k<=4)(h3:0<=n)(h4:n<=40)(q:∀H',Same H H'->Q (.int (cnt k.toNat (List.replicate n.toNat 63))) H'):spManyRight ([.int k, .int n]++[]) H Q E:=⟨k,n,rfl,h1,h2,h3,h4,q⟩
theorem zLj(k:Nat):Sm (ones k):=λv hv=>by
 obtain rfl:=List.eq_of_mem_replicate hv;exact⟨by decide,by decide⟩
theorem zKc{w:List Int}(h:Sm w)(c:Nat):Sm (plw w c):=by
 unfold plw
 split
 ·exact h
 ·intro v hv;obtain⟨b,_,rfl⟩:=List.mem_map.mp hv
  split<;>exact⟨by decide,by decide⟩
theorem zAW{ps:List (List Int)}(h:∀l∈ps,Sm l)(i b:Nat):0<=PP ps i b/\PP ps i b<=top30:=by
 show 0<=(ps.getD i []).getD b 0/\(ps.getD i []).getD b 0<=top30
 cases e:ps[i]? with
 |none=>
  have q:ps.getD i []=[]:=by rw[List.getD_eq_getElem?_getD,e];rfl
  rw[q];exact⟨by simp,by simp[top30]⟩
 |some l=>
  have q:ps.getD i []=l:=by rw[List.getD_eq_getElem?_getD,e];rfl
  rw[q];exact(h l (List.mem_of_getElem? e)).at b
theorem zEp{x y:Int}(h0:0<=x)(h:x<=y):∀n:Nat,0<=x^n/\x^n<=y^n
 |0=>by simp
 |n+1=>by
  obtain⟨a,b⟩:=zEp h0 h n;rw[Int.pow_succ,Int.pow_succ];exact⟨Int.mul_nonneg a h0,Int.mul_le_mul b h h0 (Int.le_trans a b)⟩
theorem zMr{x:Int}(h1:1<=x){m n:Nat}(h:m<=n):x^m<=x^n:=by
 induction n with
 |zero=>obtain rfl:m=0:=by omega
        exact Int.le_refl _
 |succ n ih=>
  by_cases e:m=n+1
  ·subst e;exact Int.le_refl _
  ·have h2:=ih (by omega);have h3:=(zEp (x:=x) (y:=x) (by omega) (Int.le_refl _) n).1;rw[Int.pow_succ];have:=Int.mul_le_mul (Int.le_refl (x^n)) h1 (by decide) h3;omega
def cap:Int:=(5*top30)^40
theorem zDX{ps:List (List Int)}{k:Nat}(hk:k<=4)(h:∀l∈ps,Sm l){n:Nat}(hn:n<=40)(i:Nat)(st:List Nat):0<=cv (PP ps) k n i st/\cv (PP ps) k n i st<=cap:=by
 obtain⟨a,b⟩:=zDg (P:=PP ps) (k:=k) (c:=top30) (by decide) (λi b=>(zAW h i b).1) (λi b=>(zAW h i b).2) n i st;refine⟨a,Int.le_trans b ?_⟩;have h1:(0:Int)<=((k:Int)+1)*top30:=Int.mul_nonneg (by omega) (by decide);have h2:((k:Int)+1)*top30<=5*top30:=Int.mul_le_mul_of_nonneg_right (by omega) (by decide);refine Int.le_trans (zEp h1 h2 n).2 (zMr (by decide) hn)
theorem zKb{ps:List (List Int)}{k:Nat}(hk:k<=4)(h:∀l∈ps,Sm l)(i j:Nat):0<=pr (PP ps) k i j/\pr (PP ps) k i j<=4*(top30*top30):=by
 unfold pr;have tm:∀p,0<=PP ps i (2*p)*PP ps j (2*p+1)/\PP ps i (2*p)*PP ps j (2*p+1)<=top30*top30:=λp=>
  ⟨Int.mul_nonneg (zAW h _ _).1 (zAW h _ _).1,Int.mul_le_mul (zAW h _ _).2 (zAW h _ _).2 (zAW h _ _).1 (by decide)⟩
 refine⟨zAy k λp _=>(tm p).1,Int.le_trans (zC5 (g:=λ_=>top30*top30) k λp _=>(tm p).2) ?_⟩;rw[zCR];exact Int.mul_le_mul_of_nonneg_right (by omega) (by decide)
theorem zAf{i c:Int}(h0:0<=i)(h:i<=c)(hc:c.natAbs<big):i.natAbs<big:=by
 refine Nat.lt_of_le_of_lt ?_ hc;omega
theorem zCO:cap.natAbs<big:=by unfold cap big top30;decide +kernel
theorem zKF:(4*(top30*top30)*cap).natAbs<big:=by unfold cap big top30;decide +kernel
theorem zC4:top30.natAbs<big:=by unfold big top30;decide +kernel
theorem zFN:(4*(top30*top30)).natAbs<big:=by unfold big top30;decide +kernel
theorem zJj(n:Nat):(List.replicate (n+1) [V.int 0]).flatten=rwl n λ_=>0:=by
 unfold rwl;have:∀m,(List.replicate m [V.int 0]).flatten=(List.range m).map λ_=>V.int 0:=by
  intro m
  induction m with
  |zero=>rfl
  |succ m ih=>rw[List.replicate_succ',List.flatten_append,ih,List.range_succ,List.map_append];rfl
 exact this (n+1)
theorem zGf{α:Type}{xs:List α}{v:α}(h:0<xs.length)(e:xs[xs.length-1]? =some v):atI xs (-1)=some v:=by
 unfold atI ixN;rw[if_neg (by omega),if_pos (by omega)];have:((-1:Int)+xs.length).toNat=xs.length-1:=by omega
 simp only[this,Option.bind];exact e
theorem zJk(m:Nat):(List.replicate (2*m) [V.int 1]).flatten=(ones m).map V.int:=by
 unfold ones;generalize 2*m=j
 induction j with
 |zero=>rfl
 |succ j ih=>rw[List.replicate_succ,List.flatten_cons,ih,List.replicate_succ];rfl
theorem zKk{l:List Int}{j:Nat}(h:j<l.length):(l.map V.int)[j]? =some (.int (l.getD j 0)):=by
 rw[List.getElem?_map,List.getD_eq_getElem?_getD,List.getElem?_eq_getElem h];rfl
def part(P:Nat->Nat->Int)(k i q j:Nat):Int:=
 if j<=i then(if j=i then 1 else 0)else if(j-i)%2=1 then 0 else
  sm q λe=>if i+2+2*e<=j then pr P k i (i+1+2*e)*cv P k (2*e) (i+1) []*cv P k (j-(i+2+2*e)) (i+2+2*e) []else 0
section
variable{P:Nat->Nat->Int}{k i q j n:Nat}
theorem zIS:part P k i 0 j=if j=i then 1 else 0:=by
 unfold part
 by_cases h:j<=i
 ·rw[if_pos h]
 ·rw[if_neg h,if_neg (show¬ (j=i) by omega)]
  split<;>rfl
theorem zGx(h:i<j/\(j-i)%2=1):part P k i q j=0:=by
 unfold part;rw[if_neg (by omega),if_pos h.2]
theorem zIT(h:j<i+2+2*q):part P k i (q+1) j=part P k i q j:=by
 unfold part
 by_cases h1:j<=i
 ·rw[if_pos h1,if_pos h1]
 ·rw[if_neg h1,if_neg h1,sm,if_neg (show¬ (i+2+2*q<=j) by omega),Int.add_zero]
theorem zIU{en:Nat}(he:en=i+1+2*q)(h:en+1<=j)(h2:(j-i)%2=0):part P k i q j+pr P k i en*cv P k (2*q) (i+1) []*cv P k (j-(en+1)) (en+1) []=part P k i (q+1) j:=by
 subst he;unfold part;rw[if_neg (by omega),if_neg (by omega),if_neg (by omega),if_neg (by omega),sm,if_pos (show i+2+2*q<=j by omega),show i+1+2*q+1=i+2+2*q by omega]
theorem zJt(hj:j<=n):part P k i ((n-i)/2) j=tbl P k i j:=by
 unfold part tbl
 by_cases h1:j<=i
 ·rw[if_pos h1]
  by_cases h2:j=i
  ·subst h2;rw[if_pos rfl,if_pos (Nat.le_refl _),Nat.sub_self];rfl
  ·rw[if_neg h2,if_neg (by omega)]
 ·rw[if_neg h1,if_pos (show i<=j by omega)]
  by_cases h2:(j-i)%2=1
  ·rw[if_pos h2,zD7 _ _ _ (by simpa using h2)]
  ·rw[if_neg h2];obtain⟨m,hm⟩:∃m,j-i=m+1:=⟨j-i-1,by omega⟩;rw[hm,zL1];obtain⟨d,hd⟩:∃d,(n-i)/2=(m+1)/2+d:=⟨(n-i)/2-(m+1)/2,by omega⟩;rw[hd,zIA _ d λe h3=>by rw[if_neg (by omega)]];refine zAK _ λe h3=>?_;rw[if_pos (by omega),show j-(i+2+2*e)=m-2*e-1 by omega,show i+2+2*e=i+2*e+2 by omega]
end
theorem zB5{k:Nat}{a:List Nat}(hk:k<=4):∀l∈a.map (plw (ones k)),l.length=2*k/\Sm l:=λl hl=>by
 obtain⟨c,_,rfl⟩:=List.mem_map.mp hl;exact⟨by rw[zIP (by rw[List.length_replicate];omega),List.length_replicate],zKc (zLj k) c⟩
theorem zKZ(n c:Nat):(List.replicate n [c]).flatten=List.replicate n c:=by
 induction n with
 |zero=>rfl
 |succ n ih=>rw[List.replicate_succ,List.flatten_cons,ih];rfl
theorem zD1{k:Int}{n:Nat}(h:n<=40):isRow k (List.replicate n 63)=true:=by
 unfold isRow;rw[Bool.and_eq_true];refine⟨decide_eq_true (by rw[List.length_replicate];exact h),List.all_eq_true.mpr λc hc=>?_⟩;rw[List.eq_of_mem_replicate hc];refine decide_eq_true ?_;unfold sgn;exact List.mem_append_right _ (List.mem_singleton.mpr rfl)
def Deck(H:Hp)(p:Addr):Prop:=∃ds:List Int,H p=some (.lst (ds.map V.int))/\∀d∈ds,0<=d/\d<2147483648
theorem Deck.keep{H H':Hp}{p r:Addr}(h:Deck H p)(s:SameBut1 r H H')(n:p≠r):Deck H' p:=by
 obtain⟨ds,e,b⟩:=h;exact⟨ds,s _ _ e n,b⟩
theorem Deck.ne{H:Hp}{p q:Addr}(h:Deck H p)(hq:H q=none):q≠p:=by
 obtain⟨ds,e,_⟩:=h;exact(zAH e hq).symm
theorem zJ7(ds:List Int):eqVs (ds.map V.int) []=decide (ds=[]):=by
 cases ds with
 |nil=>rfl
 |cons d r=>rw[decide_eq_false (by simp)];rfl
theorem zLY(w:List Int):plw w 63=w:=by unfold plw;rw[if_pos rfl]
section
variable{σ:St}{H:Hp}{Q:VK}{K:PySem.W.Frag}
end
theorem at4{α:Type}(x y z u:α){i:Int}(h0:0<=i)(h1:i<4):∃v,atI [x,y,z,u] i=some v/\(v=x\/v=y\/v=z\/v=u):=by
 have:i=0\/i=1\/i=2\/i=3:=by omega
 rcases this with rfl|rfl|rfl|rfl
 ·exact⟨x,rfl, .inl rfl⟩
 ·exact⟨y,rfl, .inr (.inl rfl)⟩
 ·exact⟨z,rfl, .inr (.inr (.inl rfl))⟩
 ·exact⟨u,rfl, .inr (.inr (.inr rfl))⟩
def pw(k c b:Nat):Int:=(plw (ones k) c).getD b 0
def ws(k:Nat):List Nat->List Nat->Int
 |[],[]=>1
 |[],_::_=>0
 |c::r,st=>sm k (λp=>pw k c (2*p)*ws k r (p::st))+(match st with|[]=>0|o::s'=>pw k c (2*o+1)*ws k r s')
variable{k:Nat}
theorem zKa{b:Nat}(h:b<2*k):pw k 63 b=1:=by
 unfold pw;rw[zLY];unfold ones;rw[List.getD_eq_getElem?_getD,List.getElem?_replicate,if_pos h];rfl
theorem zNZ{b c:Nat}(h:brs[b]? =some c):b<8:=by
 have:=(List.getElem?_eq_some_iff.mp h).1;exact this
theorem zN9{b d c:Nat}(hb:b<2*k)(hb8:b<8)(hd:brs[d]? =some c):pw k c b=if b=d then 1 else 0:=by
 have hd8:=zNZ hd;have hn:c≠63:=by
  rintro rfl
  revert hd
  have:d=0\/d=1\/d=2\/d=3\/d=4\/d=5\/d=6\/d=7:=by omega
  rcases this with rfl|rfl|rfl|rfl|rfl|rfl|rfl|rfl<;>decide
 unfold pw plw;rw[if_neg hn,List.getD_eq_getElem?_getD,List.getElem?_map,List.getElem?_take];rw[if_pos (show b<(ones k).length by unfold ones;rw[List.length_replicate];exact hb)];have hb':b=0\/b=1\/b=2\/b=3\/b=4\/b=5\/b=6\/b=7:=by omega
 have hd':d=0\/d=1\/d=2\/d=3\/d=4\/d=5\/d=6\/d=7:=by omega
 rcases hd' with rfl|rfl|rfl|rfl|rfl|rfl|rfl|rfl<;>(cases hd;rcases hb' with rfl|rfl|rfl|rfl|rfl|rfl|rfl|rfl<;>decide)
theorem zGq(f:Nat->Int):∀k,sm (2*k) f=sm k λp=>f (2*p)+f (2*p+1)
 |0=>rfl
 |k+1=>by rw[show 2*(k+1)=2*k+1+1 by omega,sm,sm,zGq f k,sm];omega
end BrS
namespace BrS
open L2 PySem BrM BrC
def clc(p:Nat):Nat:=cls.getD p 0
section
variable{k:Int}
theorem zL2{k:Nat}{a:List Nat}(hk:k<=4)(ha:a.length<=40):0<=cnt k a/\cnt k a<=cap:=zDX hk (λl hl=>(zB5 hk l hl).2) ha 0 []
end
end BrS
namespace L2
open PySem PySem.Spec PyProof.Rows
section
variable{κ:Type}[DecidableEq κ]
def valV(kvs:List (κ×V))(k:κ):Option V:=(kvs.find? λkv=>decide (kv.1=k)).map (·.2)
def putK(kvs:List (κ×V))(k:κ)(v:V):List (κ×V):=
 if(kvs.any λkv=>decide (kv.1=k))=true then kvs.map (λkv=>if kv.1=k then(kv.1,v)else kv)else kvs++[(k,v)]
def dropK(kvs:List (κ×V))(k:κ):List (κ×V):=kvs.filter λkv=>decide (kv.1≠k)
theorem zJY{k:κ}:valV ([]:List (κ×V)) k=none:=rfl
theorem zBI{p:κ×V}{r:List (κ×V)}{k:κ}(e:p.1=k):valV (p::r) k=some p.2:=by simp[valV,List.find?_cons,e]
theorem zBJ{p:κ×V}{r:List (κ×V)}{k:κ}(e:¬p.1=k):valV (p::r) k=valV r k:=by simp[valV,List.find?_cons,e]
theorem zCm(k:κ):∀kvs:List (κ×V),(kvs.any λkv=>decide (kv.1=k))=(valV kvs k).isSome
 |[]=>rfl
 |p::r=>by
  rw[List.any_cons]
  by_cases e:p.1=k
  ·simp only[zBI e,decide_eq_true e,Bool.true_or,Option.isSome_some]
  ·rw[zBJ e,decide_eq_false e,Bool.false_or];exact zCm k r
theorem zGk(k j:κ)(y:V):∀kvs:List (κ×V),valV (kvs.map λkv=>if kv.1=k then(kv.1,y)else kv) j=(valV kvs j).map λx=>if j=k then y else x
 |[]=>rfl
 |p::r=>by
  have ih:=zGk k j y r;rw[List.map_cons]
  by_cases h:p.1=k
  ·rw[if_pos h]
   by_cases e:p.1=j
   ·rw[zBI (p:=(p.1,y)) e,zBI e,Option.map_some,if_pos (e.symm.trans h)]
   ·rw[zBJ (p:=(p.1,y)) e,zBJ e,ih]
  ·rw[if_neg h]
   by_cases e:p.1=j
   ·rw[zBI (p:=p) e,zBI e,Option.map_some,if_neg (λz=>h (e.trans z))]
   ·rw[zBJ (p:=p) e,zBJ e,ih]
theorem zFD(k j:κ)(y:V):∀kvs:List (κ×V),valV kvs k=none->valV (kvs++[(k,y)]) j=if j=k then some y else valV kvs j
 |[],_=>by
  by_cases e:k=j
  ·rw[if_pos e.symm];exact zBI (p:=(k,y)) e
  ·rw[if_neg (λz=>e z.symm)];exact zBJ (p:=(k,y)) e
 |p::r,hn=>by
  rw[List.cons_append];have hk:¬p.1=k:=λz=>by rw[zBI z]at hn;cases hn
  rw[zBJ hk]at hn;have ih:=zFD k j y r hn
  by_cases e:p.1=j
  ·rw[zBI e,zBI e,if_neg (λz=>hk (e.trans z))]
  ·rw[zBJ e,zBJ e,ih]
theorem zCP(kvs:List (κ×V))(k j:κ)(y:V):valV (putK kvs k y) j=if j=k then some y else valV kvs j:=by
 unfold putK
 by_cases a:(kvs.any λkv=>decide (kv.1=k))=true
 ·rw[if_pos a,zGk];rw[zCm]at a
  by_cases e:j=k
  ·obtain⟨x,hx⟩:=Option.isSome_iff_exists.mp a;rw[if_pos e,e,hx,Option.map_some,if_pos rfl]
  ·rw[if_neg e]
   cases valV kvs j with
   |none=>rfl
   |some x=>rw[Option.map_some,if_neg e]
 ·rw[if_neg a];refine zFD k j y kvs ?_;rw[zCm]at a
  cases q:valV kvs k with
  |none=>rfl
  |some x=>rw[q]at a;exact(a rfl).elim
theorem zBQ(kvs:List (κ×V))(k:κ)(v:V):(putK kvs k v).length<=kvs.length+1:=by
 unfold putK
 split
 ·rw[List.length_map];omega
 ·rw[List.length_append,List.length_cons,List.length_nil];omega
theorem RelO.isSome_eq{o:Option V}{u:Option Value}(r:RelO o u):o.isSome=u.isSome:=by
 cases o with
 |none=>cases u with
  |none=>rfl
  |some _=>exact(show False from r).elim
 |some _=>cases u with
  |none=>exact(show False from r).elim
  |some _=>rfl
theorem RelO.getD{o:Option V}{u:Option Value}{d:V}{d':Value}(r:RelO o u)(rd:RelV d d'):RelV (o.getD d) (u.getD d'):=by
 cases o with
 |none=>cases u with
  |none=>exact rd
  |some _=>exact(show False from r).elim
 |some _=>cases u with
  |none=>exact(show False from r).elim
  |some _=>exact r
theorem KV.val{kvs:List (κ×V)}{vs:List (κ×Value)}(r:KV kvs vs)(k:κ):RelO (valV kvs k) (valueAt vs k):=by
 unfold KV at r
 induction r with
 |nil=>exact True.intro
 | @cons p q ps qs h t ih=>
   obtain⟨h1,h2⟩:=h
   by_cases e:p.1=k
   ·have e':q.1=k:=h1.symm.trans e;have b:valueAt (q::qs) k=some q.2:=by simp[valueAt,List.find?_cons,e']
    rw[zBI e,b];exact h2
   ·have e':¬q.1=k:=λz=>e (h1.trans z);have b:valueAt (q::qs) k=valueAt qs k:=by simp[valueAt,List.find?_cons,e']
    rw[zBJ e,b];exact ih
theorem KV.any{kvs:List (κ×V)}{vs:List (κ×Value)}(r:KV kvs vs)(k:κ):(kvs.any λkv=>decide (kv.1=k))=vs.any λkv=>decide (kv.1=k):=by
 unfold KV at r
 induction r with
 |nil=>rfl
 |cons h t ih=>rw[List.any_cons,List.any_cons,ih,h.1]
theorem KV.repl{kvs:List (κ×V)}{vs:List (κ×Value)}(r:KV kvs vs)(k:κ){y:V}{u:Value}(ry:RelV y u):
 KV (kvs.map λkv=>if kv.1=k then(kv.1,y)else kv) (vs.map λkv=>if kv.1=k then(kv.1,u)else kv):=by
 unfold KV at r⊢
 induction r with
 |nil=>exact .nil
 | @cons p q ps qs h t ih=>
   rw[List.map_cons,List.map_cons];refine .cons ?_ ih;obtain⟨h1,h2⟩:=h
   by_cases e:p.1=k
   ·rw[if_pos e,if_pos (h1.symm.trans e)];exact⟨h1,ry⟩
   ·rw[if_neg e,if_neg (λz=>e (h1.trans z))];exact⟨h1,h2⟩
theorem KV.put{kvs:List (κ×V)}{vs:List (κ×Value)}(r:KV kvs vs)(k:κ){y:V}{u:Value}(ry:RelV y u):KV (putK kvs k y) (stored vs k u):=by
 unfold putK stored;rw[r.any k]
 by_cases e:(vs.any λkv=>decide (kv.1=k))=true
 ·rw[if_pos e,if_pos e];exact r.repl k ry
 ·rw[if_neg e,if_neg e];exact Paired.snoc r ⟨rfl,ry⟩
theorem KV.drop{kvs:List (κ×V)}{vs:List (κ×Value)}(r:KV kvs vs)(k:κ):KV (dropK kvs k) (without vs k):=by
 unfold KV at r⊢;unfold dropK without
 induction r with
 |nil=>exact .nil
 | @cons p q ps qs h t ih=>
   obtain⟨h1,h2⟩:=h;rw[List.filter_cons,List.filter_cons]
   by_cases e:p.1=k
   ·have a:¬decide (p.1≠k)=true:=by simp[e]
    have b:¬decide (q.1≠k)=true:=by simp[h1.symm.trans e]
    rw[if_neg a,if_neg b];exact ih
   ·have e':¬q.1=k:=λz=>e (h1.trans z);have a:decide (p.1≠k)=true:=by simp[e]
    have b:decide (q.1≠k)=true:=by simp[e']
    rw[if_pos a,if_pos b];exact .cons ⟨h1,h2⟩ ih
theorem KV.length{kvs:List (κ×V)}{vs:List (κ×Value)}(r:KV kvs vs):kvs.length=vs.length:=Paired.length r
end
theorem zHi{P:Program}{w:World}{k:Key}{u:Value}(r:RelV (kV k) u):(mixKind P w).is k u=true:=by
 cases k with
 |inl i=>obtain⟨t,e⟩:=(show∃t,u=Value.int i t from r);subst e;exact zGK P w i t
 |inr x=>obtain⟨t,e⟩:=(show∃t,u=Value.str x t from r);subst e;exact zGJ P w x t
theorem zFd{P:Program}{w:World}:∀ {ks:List Key} {us:List Value},Vals (ks.map kV) us->ItemsAre (mixKind P w) ks us
 |[],_,r=>by rw[List.map_nil]at r;cases r;exact .nil
 |k::ks,_,r=>by
  rw[List.map_cons]at r
  cases r with
  |cons h t=>exact .cons (zHi h) (zFd t)
abbrev KT(H:Hp):List (List Key×V)->List (List Key×Addr×Value)->Prop:=Paired λp q=>p.1=q.1/\H q.2.1=some (.tup (p.1.map kV))/\RelV p.2 q.2.2
theorem KT.val{H:Hp}{kvs:List (List Key×V)}{xs:List (List Key×Addr×Value)}(r:KT H kvs xs)(k:List Key):RelO (valV kvs k) ((atKey xs k).map (·.2)):=by
 induction r with
 |nil=>exact True.intro
 | @cons p q ps qs h t ih=>
   obtain⟨h1,_,h2⟩:=h
   by_cases e:p.1=k
   ·have e':q.1=k:=h1.symm.trans e;have b:atKey (q::qs) k=some q.2:=by simp[atKey,List.find?_cons,e']
    rw[zBI e,b];exact h2
   ·have e':¬q.1=k:=λz=>e (h1.trans z);have b:atKey (q::qs) k=atKey qs k:=by simp[atKey,List.find?_cons,e']
    rw[zBJ e,b];exact ih
theorem KT.repl{H:Hp}{kvs:List (List Key×V)}{xs:List (List Key×Addr×Value)}(r:KT H kvs xs)(k:List Key){y:V}{u:Value}(ry:RelV y u):
 KT H (kvs.map λkv=>if kv.1=k then(kv.1,y)else kv) (xs.map (putAt k u)):=by
 induction r with
 |nil=>exact .nil
 | @cons p q ps qs h t ih=>
   rw[List.map_cons,List.map_cons];refine .cons ?_ ih;obtain⟨h1,h2,h3⟩:=h;unfold putAt
   by_cases e:p.1=k
   ·rw[if_pos e,if_pos (h1.symm.trans e)];exact⟨h1,h2,ry⟩
   ·rw[if_neg e,if_neg (λz=>e (h1.trans z))];exact⟨h1,h2,h3⟩
theorem KT.put{H:Hp}{kvs:List (List Key×V)}{xs:List (List Key×Addr×Value)}(r:KT H kvs xs)(k:List Key){b:Addr}{y:V}{u:Value}(hb:H b=some (.tup (k.map kV)))(ry:RelV y u):
 KT H (putK kvs k y) (storedH xs k b u):=by
 have e:(kvs.any λkv=>decide (kv.1=k))=(atKey xs k).isSome:=by
  rw[zCm,(r.val k).isSome_eq,Option.isSome_map]
 unfold putK storedH;rw[e]
 by_cases q:(atKey xs k).isSome=true
 ·rw[if_pos q,if_pos q];exact r.repl k ry
 ·rw[if_neg q,if_neg q];exact Paired.snoc r ⟨rfl,hb,ry⟩
theorem KT.keeps{H H':Hp}{kvs:List (List Key×V)}{xs:List (List Key×Addr×Value)}(r:KT H kvs xs)(ht:∀b ys,H b=some (.tup ys)->H' b=some (.tup ys)):KT H' kvs xs:=
 Paired.mapP r λ_ _ z=>⟨z.1,ht _ _ z.2.1,z.2.2⟩
section
variable{P:Program}{w:World}{H:Hp}{h:Heap}{a:Addr}
theorem zMj{u:HO}(ok:HOk P w H h)(e:Rd H a u):ObjOk P w H h a u:=e.ok ok
theorem zGU{kvs:List (Key×V)}(ok:HOk P w H h)(e:Rd H a (.dK kvs)):kvs.length<=sizeLine/\(a==sysModules)=false/\∃vs,KV kvs vs/\h.DictOf (mixKind P w) a vs:=
 show ObjOk P w H h a (.dK kvs)from zMj ok e
theorem zOF{kvs:List (Key×V)}(ok:HOk P w H h)(e:H a=some (.dK kvs)):kvs.length<=sizeLine/\(a==sysModules)=false/\∃vs,KV kvs vs/\h.DictOf (mixKind P w) a vs:=zGU ok (.inl e)
theorem zES{ks:List Key}(ok:HOk P w H h)(e:H a=some (.tup (ks.map kV))):(tupleKind (mixKind P w)).is h ks a:=by
 obtain⟨_,its,r,o,h1,h2,n,h3⟩:=(show ObjOk P w H h a (.tup (ks.map kV))from ok a _ e);exact⟨o,its.toArray,n,h1,h2,h3,by simpa using zFd r⟩
theorem zGT{kvs:List (List Key×V)}(ok:HOk P w H h)(e:Rd H a (.dT kvs)):kvs.length<=sizeLine/\(a==sysModules)=false/\
 ∃xs,KT H kvs xs/\h.DictOfH (tupleKind (mixKind P w)) a xs:=by
 obtain⟨z,y,xs,r,o,es,ep,h1,h2,h3,h4,h5⟩:=(show ObjOk P w H h a (.dT kvs)from zMj ok e);refine⟨z,y,xs,r,o,es,ep,h1,h2,h3,h4,λx hx=>?_,h5⟩;have all:∀ {l:List (List Key×V)} {m:List (List Key×Addr×Value)},KT H l m->∀x∈m,(tupleKind (mixKind P w)).is h x.1 x.2.1:=by
  intro l m q
  induction q with
  |nil=>intro x hx;exact nomatch hx
  | @cons p q ps qs hq t ih=>
    intro x hx;rcases List.mem_cons.mp hx with e|hx
    ·subst e;exact zES ok (by rw[<-hq.1];exact hq.2.1)
    ·exact ih x hx
 exact all r x hx
theorem zOE{kvs:List (List Key×V)}(ok:HOk P w H h)(e:H a=some (.dT kvs)):kvs.length<=sizeLine/\(a==sysModules)=false/\
 ∃xs,KT H kvs xs/\h.DictOfH (tupleKind (mixKind P w)) a xs:=zGT ok (.inl e)
end
def DGet(H:Hp)(a:Addr)(y:V)(r:Option V):Prop:=
 (∃kvs k,Rd H a (.dK kvs)/\y=kV k/\r=valV kvs k)\/∃kvs k b,Rd H a (.dT kvs)/\y= .ref b/\H b=some (.tup (k.map kV))/\r=valV kvs k
def DPut(H:Hp)(a:Addr)(y v:V)(H':Hp):Prop:=
 (∃kvs k,H a=some (.dK kvs)/\y=kV k/\kvs.length<sizeLine/\H'=upd H a (.dK (putK kvs k v)))\/
 ∃kvs k b,H a=some (.dT kvs)/\y= .ref b/\H b=some (.tup (k.map kV))/\kvs.length<sizeLine/\H'=upd H a (.dT (putK kvs k v))
theorem DGet.k{H:Hp}{a:Addr}{kvs:List (Key×V)}{k:Key}(e:H a=some (.dK kvs)):DGet H a (kV k) (valV kvs k):= .inl ⟨kvs,k, .inl e,rfl,rfl⟩
theorem DGet.t{H:Hp}{a b:Addr}{kvs:List (List Key×V)}{k:List Key}(e:H a=some (.dT kvs))(eb:H b=some (.tup (k.map kV))):DGet H a (.ref b) (valV kvs k):= .inr ⟨kvs,k,b, .inl e,rfl,eb,rfl⟩
theorem DPut.k{H:Hp}{a:Addr}{kvs:List (Key×V)}{k:Key}{v:V}(e:H a=some (.dK kvs))(hl:kvs.length<sizeLine):DPut H a (kV k) v (upd H a (.dK (putK kvs k v))):= .inl ⟨kvs,k,e,rfl,hl,rfl⟩
theorem DPut.t{H:Hp}{a b:Addr}{kvs:List (List Key×V)}{k:List Key}{v:V}(e:H a=some (.dT kvs))(eb:H b=some (.tup (k.map kV)))(hl:kvs.length<sizeLine):
 DPut H a (.ref b) v (upd H a (.dT (putK kvs k v))):= .inr ⟨kvs,k,b,e,rfl,eb,hl,rfl⟩
section
variable{X:Cx}{pins:List (Addr×Obj)}{σ:St}{H:Hp}{s:Shared}{a:Addr}{y v:V}{u r:Value}{o:Option V}{A:Around}{E:Value->Shared->Prop}
theorem Inv.big(I:Inv X pins σ H s):sysModules<s.heap.objs.size:=by
 have h:mainGlobals<s.heap.objs.size:=(I.mod.glob.keeps I.bk).lt;exact Nat.lt_trans (by decide) h
theorem zI5{Q:Value->Shared->Prop}(hu:A.units+1<cLine)(I:Inv X pins σ H s)(g:DGet H a y (some v))(ry:RelV y u)(h:∀w' s',Inv X pins σ H s'->RelV v w'->Q w' s'):
 wpAny (model X.prog X.w) A (getItem (.ref a) u) Q E s:=by
 rcases g with⟨kvs,k,e,ey,l⟩|⟨kvs,k,b,e,ey,eb,l⟩
 ·subst ey;obtain⟨z,hd,vs,rel,dd⟩:=zGU I.hok e;obtain⟨w',hw,rw'⟩:=RelO.some_of (v:=v) (o:=valueAt vs k) (by rw[l];exact rel.val k);exact wpAny_getItem_of (zHi ry) dd.mapOf hw (h w' _ (I.tok _) rw')
 ·subst ey
  cases(show u=Value.ref b from ry)
  obtain⟨z,hd,xs,rel,dd⟩:=zGT I.hok e;obtain⟨w',hw,rw'⟩:=RelO.some_of (v:=v) (o:=(atKey xs k).map (·.2)) (by rw[l];exact rel.val k);obtain⟨p,hp,hp2⟩:=Option.map_eq_some_iff.mp hw;refine wpAny_getItem_heap (tupleKind_room_in1 hu) (zES I.hok eb) dd hp ?_;rw[hp2];exact h w' _ (I.tok _) rw'
theorem zOQ{Q:Value->Shared->Prop}(hu:A.units+1<cLine)(I:Inv X pins σ H s)(g:DGet H a y o)(ry:RelV y u)(h:∀s',Inv X pins σ H s'->Q (.bool o.isSome) s'):
 wpAny (model X.prog X.w) A (compareOp .In u (.ref a)) Q E s:=by
 rcases g with⟨kvs,k,e,ey,l⟩|⟨kvs,k,b,e,ey,eb,l⟩
 ·subst ey;obtain⟨z,hd,vs,rel,dd⟩:=zGU I.hok e;refine wpAny_in_of (zHi ry) hd dd.mapOf ?_;rw[<-(rel.val k).isSome_eq,<-l];exact h _ (I.tok _)
 ·subst ey
  cases(show u=Value.ref b from ry)
  obtain⟨z,hd,xs,rel,dd⟩:=zGT I.hok e;refine wpAny_in_heap (tupleKind_room_in1 hu) (zES I.hok eb) hd dd ?_;have q:=(rel.val k).isSome_eq;rw[Option.isSome_map]at q;rw[<-q,<-l];exact h _ (I.tok _)
theorem zL0{Q:Value->Shared->Prop}(hu:A.units+1<cLine)(I:Inv X pins σ H s)(g:DGet H a y o)(ry:RelV y u)(h:∀s',Inv X pins σ H s'->Q (.bool (!o.isSome)) s'):
 wpAny (model X.prog X.w) A (compareOp .NotIn u (.ref a)) Q E s:=by
 rcases g with⟨kvs,k,e,ey,l⟩|⟨kvs,k,b,e,ey,eb,l⟩
 ·subst ey;obtain⟨z,hd,vs,rel,dd⟩:=zGU I.hok e;refine wpAny_notIn_of (zHi ry) hd dd.mapOf ?_;rw[<-(rel.val k).isSome_eq,<-l];exact h _ (I.tok _)
 ·subst ey
  cases(show u=Value.ref b from ry)
  obtain⟨z,hd,xs,rel,dd⟩:=zGT I.hok e;refine wpAny_notIn_heap (tupleKind_room_in1 hu) (zES I.hok eb) hd dd ?_;have q:=(rel.val k).isSome_eq;rw[Option.isSome_map]at q;rw[<-q,<-l];exact h _ (I.tok _)
theorem zI3{h':Heap}{t':Nat}{ob:HO}(I:Inv X pins σ H s)(mu:Mut (H a))(hs:Heap.SameBut a s.heap h')(he:∃q,h'.get? a=some q)(new:ObjOk X.prog X.w (upd H a ob) h' a ob):
 Inv X pins σ (upd H a ob) {s with heap:=h',toks:=t'}:=
 I.write (x:=a) (e:=a) mu (.inl rfl) (λb q hb z=>(hs.2 b hb).trans z) he new
theorem zNT{P:Program}{w:World}{H':Hp}{h':Heap}{kvs:List (Key×V)}{vs:List (Key×Value)}(z:kvs.length<=sizeLine)(hd:(a==sysModules)=false)(rel:KV kvs vs)(dd:h'.DictOf (mixKind P w) a vs):
 ObjOk P w H' h' a (.dK kvs):=⟨z,hd,vs,rel,dd⟩
theorem zI4{H':Hp}{Q:Unit->Shared->Prop}(hu:A.units+1<cLine)(I:Inv X pins σ H s)(g:DPut H a y v H')(ry:RelV y u)(rv:RelV v r)(h:∀s',Inv X pins σ H' s'->Q () s'):
 wpAny (model X.prog X.w) A (setItem (.ref a) u r) Q E s:=by
 rcases g with⟨kvs,k,e,ey,l,eH⟩|⟨kvs,k,b,e,ey,eb,l,eH⟩
 ·subst ey eH;obtain⟨z,hd,vs,rel,dd⟩:=zOF I.hok e;have hz:vs.length<=sizeLine:=by rw[<-rel.length];exact z
  have hl:(putK kvs k v).length<=sizeLine:=by have:=zBQ kvs k v;omega
  refine wpAny_setItem_pairs (hsz:=hz) (zHi ry) dd λh' dd' hs=>h _ ?_;have he:∃q,h'.get? a=some q:=let⟨q,_,_,hq,_⟩:=dd';⟨q,hq⟩;exact zI3 I (by rw[e];exact True.intro) hs he (zNT hl hd (rel.put k rv) dd')
 ·subst ey eH
  cases(show u=Value.ref b from ry)
  obtain⟨z,hd,xs,rel,dd⟩:=zOE I.hok e;have hz:xs.length<=sizeLine:=by rw[<-Paired.length rel];exact z
  have hl:(putK kvs k v).length<=sizeLine:=by have:=zBQ kvs k v;omega
  refine wpAny_setItem_heap (hsz:=hz) (tupleKind_room_in1 hu) (zES I.hok eb) dd λh' dd' hs=>h _ ?_;obtain⟨q,es,ep,hq,h2,h3,h4,_,h5⟩:=dd';refine zI3 I (by rw[e];exact True.intro) hs ⟨q,hq⟩ ⟨hl,hd,_,(rel.put k eb rv).keeps λc ys ec=>?_,q,es,ep,hq,h2,h3,h4,h5⟩;rw[zAI (zJw ec e (λz=>nomatch z))];exact ec
end
section
variable{X:Cx}{pins:List (Addr×Obj)}{σ:St}{H:Hp}{s:Shared}{a:Addr}{kvs:List (Key×V)}{k:Key}{u:Value}{A:Around}{E:Value->Shared->Prop}
end
def NoSl(i:Expr):Prop:=∀ov iv,subscripted i false ov iv=operate [ov,iv] (getItem ov iv)
theorem zK2{prog:Program}{w:World}{A:Around}{E:Value->Shared->Prop}{s:Shared}{env:Env}{value slice:Expr}{pos:Pos}{T id:String}{Q:Value->Shared->Prop}
 (hl:typeLookup (.type T) "__getitem__"=pure (some (.builtin id))) (hs:NoSl slice)
 (h:wpAny (model prog w) A (eval value env) (λo s₁=>wpAny (model prog w) A (eval slice env) (λi s₂=>s₂.TypeIs o T/\wpAny (model prog w) A (getItem o i) Q E s₂) E s₁) E s):
 wpAny (model prog w) A (eval (.Subscript value slice pos) env) Q E s:=by
 refine Subscript_ (wpAny_mono h (λo s₁ h₁=>wpAny_mono h₁ (λi s₂ h₂=>?_) λ_ _ x=>x) λ_ _ x=>x);obtain⟨hT,h₂⟩:=h₂;unfold subscriptTail;refine wpAny_bind ?_;rw[getitemInPython_of_ne hT.not_modules];refine wpAny_bind (wpAny_specialOf hT hl ?_);have fin:wpAny (model prog w) A (subscripted slice false o i) (λr s₃=>wpAny (model prog w) A (letTemporaryGo value o r>>=λ_=>pure r) Q E s₃) E s₂:=by
  rw[hs o i];exact wpAny_operating (wpAny_mono h₂ (λr s₃ h₃=>wpAny_bind (wpAny_letTemporaryGo (wpAny_pure h₃))) λ_ _ x=>x)
 first
  |exact wpAny_pure (wpAny_bind fin)
  |exact wpAny_bind (wpAny_pure (wpAny_bind fin))
  |exact wpAny_bind fin
theorem zGV{X:Cx}{pins:List (Addr×Obj)}{σ:St}{H:Hp}{s:Shared}{a:Addr}{y:V}{o:Option V}(I:Inv X pins σ H s)(g:DGet H a y o):s.TypeIs (.ref a) "dict":=by
 rcases g with⟨kvs,k,e,_,_⟩|⟨kvs,k,b,e,_,_,_⟩
 ·obtain⟨_,_,vs,_,dd⟩:=zGU I.hok e;exact dd.typeIs
 ·obtain⟨_,_,xs,_,dd⟩:=zGT I.hok e;exact dd.typeIs
def tDGet(td ty:TE):TE:=λσ H Q=>td σ H λx H1=>ty σ H1 λy H2=>∃a v,x= .ref a/\DGet H2 a y (some v)/\Q v H2
def tDIn(ty td:TE):TE:=λσ H Q=>ty σ H λy H1=>td σ H1 λx H2=>∃a o,x= .ref a/\DGet H2 a y o/\Q (.bl o.isSome) H2
def tDNotIn(ty td:TE):TE:=λσ H Q=>ty σ H λy H1=>td σ H1 λx H2=>∃a o,x= .ref a/\DGet H2 a y o/\Q (.bl (!o.isSome)) H2
def sDPut(td ty tv:TE):TS:=λD σ H=>tv σ H λv H1=>td σ H1 λx H2=>ty σ H2 λy H3=>∃a H4,x= .ref a/\DPut H3 a y v H4/\D.nx σ H4
section
variable{X:Cx}{o i e value:Expr}{pos pos' tpos:Pos}{td ty tv:TE}
theorem zBw(hu:X.A.units+1<cLine)(ho:PE X o td)(hi:PE X i ty)(hs:NoSl i):PE X (.Subscript o i pos) (tDGet td ty):=by
 intro pins s σ H Q I h;refine zK2 PySem.F.slot_dict_getitem.lookup hs (thn (ho pins s σ H _ I h) λu s1 ⟨x,H1,I1,rx,q1⟩=>thn (hi pins s1 σ H1 _ I1 q1) λiv s2 ⟨y,H2,I2,ry,a,v,ex,g,q2⟩=>?_);subst ex;obtain rfl:u=Value.ref a:=rx;exact⟨zGV I2 g,zI5 hu I2 g ry λw' s3 I3 rw'=>⟨v,H2,I3,rw',q2⟩⟩
theorem zKe(hu:X.A.units+1<cLine)(hi:PE X i ty)(ho:PE X o td):PC X .In i o (tDIn ty td):=by
 intro pins s σ H Q I h;refine thn (hi pins s σ H _ I h) λiv s1 ⟨y,H1,I1,ry,q1⟩=>thn (ho pins s1 σ H1 _ I1 q1) λu s2 ⟨x,H2,I2,rx,a,ov,ex,g,q2⟩=>?_;subst ex;obtain rfl:u=Value.ref a:=rx;exact zOQ hu I2 g ry λs3 I3=>⟨.bl ov.isSome,H2,I3,rfl,q2⟩
theorem zIR(hu:X.A.units+1<cLine)(hi:PE X i ty)(ho:PE X o td):PC X .NotIn i o (tDNotIn ty td):=by
 intro pins s σ H Q I h;refine thn (hi pins s σ H _ I h) λiv s1 ⟨y,H1,I1,ry,q1⟩=>thn (ho pins s1 σ H1 _ I1 q1) λu s2 ⟨x,H2,I2,rx,a,ov,ex,g,q2⟩=>?_;subst ex;obtain rfl:u=Value.ref a:=rx;exact zL0 hu I2 g ry λs3 I3=>⟨.bl (!ov.isSome),H2,I3,rfl,q2⟩
theorem zDs(hu:X.A.units+1<cLine)(ho:PE X o td)(hi:PE X i ty)(hv:PE X value tv)(hs:swapsWith value (some (.Subscript o i pos')) pos.line X.env=pure false):
 PS X (.Assign [.Subscript o i pos'] value pos) (sDPut td ty tv):=by
 intro pins s σ H D I h;refine wpAny_Assign_Subscript (thn (hv pins s σ H _ I h) λr s1 ⟨v,H1,I1,rv,q1⟩=>thn (ho pins s1 σ H1 _ I1 q1) λu s2 ⟨x,H2,I2,rx,q2⟩=>thn (hi pins s2 σ H2 _ I2 q2) λiv s3 ⟨y,H3,I3,ry,a,H4,ex,g,q3⟩=>?_) hs;subst ex;obtain rfl:u=Value.ref a:=rx;exact zI4 hu I3 g ry rv λs4 I4=>⟨σ,H4,I4,q3⟩
end
theorem zJ9{P:Program}{w:World}{H:Hp}(h:Heap)(hb:sysModules<h.objs.size):ObjOk P w H (h.push {cls:= .type "dict",data:= .dict #[]}) h.objs.size (.dT []):=
 ⟨Nat.zero_le _,beq_eq_false_iff_ne.mpr (Ne.symm (Nat.ne_of_lt hb)),[], .nil,_,#[],0,Heap.get?_push_size _ rfl,⟨rfl,rfl,rfl⟩,rfl,rfl,List.nodup_nil⟩
def tDNewT:TE:=λ_ H Q=>∀p,H p=none->Q (.ref p) (upd H p (.dT []))
section
variable{X:Cx}{pos:Pos}
theorem zGw:PE X (.Dict [] [] pos) tDNewT:=λpins s σ H Q I h=>
 wpAny_Dict_empty ⟨.ref s.heap.objs.size,_,I.laid (a:=s.heap.objs.size) (o:= .dT []) (t':=s.toks) (λ_ _ q=>Heap.get?_push_of_some _ q) (Nat.le_refl _) (zJ9 s.heap I.big),rfl,h _ (I.hok.fresh (Nat.le_refl _))⟩
end
structure M2 (X:Cx) (o:Expr) (m:Str) (apos:Pos) (e f:Expr) (cpos:Pos):Prop where
 base:attributeBase o m X.env (eval o X.env)=eval o X.env
 few:((backTo cpos (starEach [e,f] X.env)).all (λx=> !x.1)&&(backToKw cpos (keywordEach [] X.env)).all (λx=>x.1.isSome)
  &&decide (([e,f]:List Expr).length+([]:List Keyword).length+(if([]:List Keyword).isEmpty then 0 else 1)<30))=true
 line:(apos.endLine==cpos.line)=true
 trees:backTo cpos (starEach [e,f] X.env)=[(false,eval e X.env),(false,eval f X.env)]
def IsD(H:Hp)(a:Addr):Prop:=(∃kvs,Rd H a (.dK kvs))\/∃kvs,Rd H a (.dT kvs)
theorem zNI{X:Cx}{pins:List (Addr×Obj)}{σ:St}{H:Hp}{s:Shared}{a:Addr}(I:Inv X pins σ H s)(d:IsD H a):
 s.TypeIs (.ref a) "dict"/\(∀b,Value.ref a= .ref b->∃ob,s.heap.get? b=some ob/\ob.dict=none)/\(a==sysModules)=false:=by
 rcases d with⟨kvs,e⟩|⟨kvs,e⟩
 ·obtain⟨_,hd,vs,_,dd⟩:=zGU I.hok e;refine⟨dd.typeIs,λb q=>?_,hd⟩
  cases q
  obtain⟨ob,_,_,h1,h2,_⟩:=dd;exact⟨ob,h1,h2.2.1⟩
 ·obtain⟨_,hd,xs,_,dd⟩:=zGT I.hok e;refine⟨dd.typeIs,λb q=>?_,hd⟩
  cases q
  obtain⟨ob,_,_,h1,h2,_⟩:=dd;exact⟨ob,h1,h2.2.1⟩
section
variable{X:Cx}{pins:List (Addr×Obj)}{σ:St}{H:Hp}{s:Shared}{a:Addr}{y d:V}{u r:Value}{o:Option V}{A:Around}{E:Value->Shared->Prop}
theorem zNU{Q:Value->Shared->Prop}(hu:A.units+1<cLine)(I:Inv X pins σ H s)(g:DGet H a y o)(ry:RelV y u)(rd:RelV d r)(h:∀w' s',Inv X pins σ H s'->RelV (o.getD d) w'->Q w' s'):
 wpAny (model X.prog X.w) A (call (.builtin "dict.get") [.ref a,u,r]) Q E s:=by
 rcases g with⟨kvs,k,e,ey,l⟩|⟨kvs,k,b,e,ey,eb,l⟩
 ·subst ey;obtain⟨z,hd,vs,rel,dd⟩:=zGU I.hok e;refine call_meetsIn PySem.F.slot_dict_get dd.typeIs PySem.F.entry_dict_get (PySem.F.args_dict_get_3 _ _ _) (meets_dict_get_default (mixKind X.prog X.w) a (zHi ry) hd r) ⟨_,dd.mapOf,h _ _ (I.tok _) ?_⟩;rw[l];exact(rel.val k).getD rd
 ·subst ey
  cases(show u=Value.ref b from ry)
  obtain⟨z,hd,xs,rel,dd⟩:=zGT I.hok e;refine call_meetsIn PySem.F.slot_dict_get dd.typeIs PySem.F.entry_dict_get (PySem.F.args_dict_get_3 _ _ _) (meetsH_dict_get_default (tupleKind (mixKind X.prog X.w)) a b hd r) ⟨tupleKind_room_in1 hu,k,xs,zES I.hok eb,dd,h _ _ (I.tok _) ?_⟩;rw[l];exact(rel.val k).getD rd
end
def tDGet2(td ty tx:TE):TE:=λσ H Q=>td σ H λx H1=>∃a,x= .ref a/\IsD H1 a/\ty σ H1 λy H2=>tx σ H2 λz H3=>∃o,DGet H3 a y o/\Q (o.getD z) H3
section
variable{X:Cx}{o e f:Expr}{apos cpos:Pos}{td ty tx:TE}
theorem zJr(hu:X.A.units+1<cLine)(ho:PE X o td)(he:PE X e ty)(hf:PE X f tx)(m:M2 X o "get" apos e f cpos):PE X (.Call (.Attribute o "get" apos) [e,f] [] cpos) (tDGet2 td ty tx):=by
 intro pins s σ H Q I h;refine wpAny_Call_method m.base m.few m.line PySem.F.plainAttrs_dict PySem.F.slot_dict_get PySem.F.type_dict_get (thn (ho pins s σ H _ I h) λu s1 ⟨x,H1,I1,rx,a,ex,d,q1⟩=>?_);subst ex;obtain rfl:u=Value.ref a:=rx;obtain⟨t1,t2,_⟩:=zNI I1 d;refine⟨t1,t2,?_⟩;rw[m.trees];refine Calls.callWith_builtin rfl (Calls.evalArgs_plain (Calls.spliced_cons (thn (he pins s1 σ H1 _ I1 q1) λiv s2 ⟨y,H2,I2,ry,q2⟩=>
  Calls.spliced_cons (thn (hf pins s2 σ H2 _ I2 q2) λfv s3 ⟨z,H3,I3,rz,ov,g,q3⟩=>Calls.spliced_nil ?_))))
 exact zNU hu I3 g ry rz λw' s4 I4 rw'=>⟨_,H3,I4,rw',q3⟩
end
section
variable{X:Cx}{pins:List (Addr×Obj)}{σ:St}{H:Hp}{s:Shared}{a:Addr}{kvs:List (Key×V)}{A:Around}{E:Value->Shared->Prop}
end
section
variable{X:Cx}{pins:List (Addr×Obj)}{σ:St}{H:Hp}{s:Shared}{a:Addr}{y:V}{u:Value}{A:Around}{E:Value->Shared->Prop}
end
section
variable{κ:Type}[DecidableEq κ]
end
inductive Sc:V->PyData->Prop
 |non:Sc .non .none
 |bl (b:Bool):Sc (.bl b) (.bool b)
 |int (i:Int):Sc (.int i) (.int i)
 |str (x:Str):Sc (.str x) (.str x)
def Sck(p:Key×V)(q:PyData×PyData):Prop:=Sc (kV p.1) q.1/\Sc p.2 q.2
section
variable{X:Cx}{pins:List (Addr×Obj)}{σ:St}{H:Hp}{s:Shared}
end
def ShOk(d:PyData):Prop:=d.showable=true/\d.shown.length<=sizeLine/\d.depth<=20
def Low(a:List Nat):Prop:=∀c∈a,c<16^8
theorem zFQ{α β:Type}{F:α->β->Prop}:∀ {l:List α} {m:List β},l.length=m.length->(∀ (i:Nat) x u,l[i]? =some x->m[i]? =some u->F x u)->Paired F l m
 |[],[],_,_=> .nil
 |[],_::_,h,_=>by simp at h
 |_::_,[],h,_=>by simp at h
 |a::l,b::m,h,hf=> .cons (hf 0 a b rfl rfl) (zFQ (by simpa using h) λi x u h1 h2=>hf (i+1) x u (by simpa using h1) (by simpa using h2))
section
variable{X:Cx}
def rListS:List V->Hp->VK->Prop:=λxs H Q=>∃a,xs=[tx a]/\a.length<=1000/\∀l,H l=none->Q (.ref l) (upd H l (.lst ((a.map λc=>[c]).map tx)))
theorem zHp(K:PySem.W.Frag)(hc:X.calm=true):CallR X (.type "list") rListS:=by
 intro pins s σ H xs us Q I r h;obtain⟨a,rfl,ha,q⟩:=h;obtain⟨u,rfl,rx⟩:=vals1 r;obtain⟨t,rfl⟩:=rx;refine PySem.call_list_str (I.ok.hd hc) _ t (λh' tk acc' c' hk e it=>?_) (by rw[sizeLine_eq];show a.toArray.size<=_;rw[List.size_toArray];omega);obtain⟨hsz,hit⟩:=it;have hsz':acc'.size=a.length:=by rw[hsz];simp
 have hv:Vals ((a.map λc=>[c]).map tx) acc'.toList:=by
  refine zFQ ?_ λi x u hx hu=>?_
  ·simp[hsz']
  ·have hu':acc'[i]? =some u:=by simpa using hu
   obtain⟨c,t',e1,rfl⟩:=hit i u hu';have e2:a[i]? =some c:=by simpa using e1
   rw[List.map_map,List.getElem?_map,e2]at hx
   cases hx
   exact⟨t',rfl⟩
 refine⟨.ref s.heap.objs.size,_,I.laid (t':=tk) (o:= .lst ((a.map λc=>[c]).map tx)) hk (Nat.le_refl _) ⟨?_,acc'.toList,c',hv,by simpa using e⟩,rfl,q _ (I.hok.fresh (Nat.le_refl _))⟩;rw[List.length_map,List.length_map,sizeLine_eq];omega
end
inductive PSb (X:Cx) (st:Stmt) (t:TS):Prop
 |mk (h:PS X st t):PSb X st t
theorem PSb.ps{X:Cx}{st:Stmt}{t:TS}(h:PSb X st t):PS X st t:=h.casesOn λh=>h
end L2
namespace BrM
open L2 PySem
theorem zLG{H:Hp}{Q:VK}{a:List Nat}(ha:a.length<=1000)(q:∀l,H l=none->Q (.ref l) (upd H l (.lst ((a.map λc=>[c]).map tx)))):rListS [tx a] H Q:=⟨a,rfl,ha,q⟩
def Fine(a:List Nat):Prop:=Low a/\a.length<=1000
inductive Th (p:Addr) (H:Hp):V->Prop
 |txt (a:List Nat) (h:Fine a):Th p H (tx a)
 |non:Th p H .non
 |int (i:Int) (h:i=0\/i=7):Th p H (.int i)
 |bl (b:Bool):Th p H (.bl b)
 |lst {q:Addr} {l:List (List Nat)} (h:H q=some (.lst (l.map tx))) (n:q≠p) (f:∀a∈l,Fine a) (z:l.length<=1100):Th p H (.ref q)
 |tup {q:Addr} {l:List (List Nat)} (h:H q=some (.tup (l.map tx))) (n:q≠p) (f:∀a∈l,Fine a) (z:l.length<=1):Th p H (.ref q)
 |dc0 {q:Addr} (h:H q=some (.dK [])) (n:q≠p):Th p H (.ref q)
 |dc1 {q:Addr} {a:List Nat} (h:H q=some (.dK [(.inr ⟨a.toArray⟩, .int 1)])) (n:q≠p) (f:Fine a):Th p H (.ref q)
theorem Th.keep{p:Addr}{H H':Hp}{v:V}(t:Th p H v)(s:SameBut1 p H H'):Th p H' v:=by
 cases t with
 |txt a h=>exact .txt a h
 |non=>exact .non
 |int i h=>exact .int i h
 |bl b=>exact .bl b
 |lst h n f z=>exact .lst (s _ _ h n) n f z
 |tup h n f z=>exact .tup (s _ _ h n) n f z
 |dc0 h n=>exact .dc0 (s _ _ h n) n
 |dc1 h n f=>exact .dc1 (s _ _ h n) n f
theorem Th.kind{K:PySem.W.Frag}{p:Addr}{H:Hp}{v:V}(t:Th p H v):(∃a,v=tx a/\Fine a)\/∃T,TyOf K H v (.type T)/\T∈plainTy/\T≠"str":=by
 cases t with
 |txt a h=>exact .inl ⟨a,rfl,h⟩
 |non=>exact .inr ⟨_, .non,by decide,by decide⟩
 |int i h=>exact .inr ⟨_, .int i,by decide,by decide⟩
 |bl b=>exact .inr ⟨_, .bl b,by decide,by decide⟩
 |lst h n f z=>exact .inr ⟨_, .lst h,by decide,by decide⟩
 |tup h n f z=>exact .inr ⟨_, .tup h,by decide,by decide⟩
 |dc0 h n=>exact .inr ⟨_, .dK h,by decide,by decide⟩
 |dc1 h n f=>exact .inr ⟨_, .dK h,by decide,by decide⟩
theorem Th.upd{p D:Addr}{H:Hp}{v:V}{o:HO}(t:Th p H v)(n:v≠ .ref D):Th p (upd H D o) v:=by
 cases t with
 |txt a h=>exact .txt a h
 |non=>exact .non
 |int i h=>exact .int i h
 |bl b=>exact .bl b
 |lst h m f z=>exact .lst (by rw[zAI (λe=>n (by rw[e]))];exact h) m f z
 |tup h m f z=>exact .tup (by rw[zAI (λe=>n (by rw[e]))];exact h) m f z
 |dc0 h m=>exact .dc0 (by rw[zAI (λe=>n (by rw[e]))];exact h) m
 |dc1 h m f=>exact .dc1 (by rw[zAI (λe=>n (by rw[e]))];exact h) m f
theorem zK7{k:Int}{c:Nat}(h1:1<=k)(h4:k<=4):c∈sgs k↔c∈sgn k:=by
 refine⟨zK6 h1 h4,λh=>?_⟩;have hk:k=1\/k=2\/k=3\/k=4:=by omega
 rcases hk with rfl|rfl|rfl|rfl
 ·exact(show∀c∈sgn 1,c∈sgs 1 by decide) c h
 ·exact(show∀c∈sgn 2,c∈sgs 2 by decide) c h
 ·exact(show∀c∈sgn 3,c∈sgs 3 by decide) c h
 ·exact(show∀c∈sgn 4,c∈sgs 4 by decide) c h
theorem all_cons{p:Addr}{H:Hp}{x:V}{l:List V}(h1:Th p H x)(h2:∀v∈l,Th p H v):∀v∈x::l,Th p H v:=λv hv=>(List.mem_cons.mp hv).elim (λe=>e▸h1) (h2 v)
theorem zL5{l:List V}{i:Int}(h0:0<=i)(h1:i<(l.length:Int)):∃v,atI l i=some v/\v∈l:=by
 have hk:i.toNat<l.length:=by omega
 have ek:i=((i.toNat:Nat):Int):=by omega
 have q:atI l ((i.toNat:Nat):Int)=some l[i.toNat]:=zAM (List.getElem?_eq_getElem hk);rw[<-ek]at q;exact⟨_,q,List.getElem_mem hk⟩
end BrM
namespace L2
open PySem PySem.Spec PyProof.Rows
abbrev veTail:List Value:=[.type "ValueError", .type "Exception", .type "BaseException", .type "object"]
structure ECls (K:PySem.W.Frag) (C:Addr):Prop where
 ex:PySem.W.excIn K C veTail "ValueError.__new__"=true
 ty:PySem.W.typeIn K (.ref C)=some (.type "type")
 cs:∃cd,PySem.W.clsIn K C=some cd
 bs:PySem.W.mroIn K C (.type "BaseException")=some true
 ob:PySem.W.mroIn K C (.type "object")=some true
 ga:PySem.W.findIn K (.ref C) "__getattribute__"=some (some (.builtin "BaseException.__getattribute__"))
 gk:PySem.W.findIn K (.ref C) "__getattr__"=some none
 ca:PySem.W.findIn K (.ref C) "__class__"=some (some (.builtin "object.__class__"))
 cn:PySem.W.specialIn K (.builtin "object.__class__") "__get__"=some (some (.builtin "getset_descriptor.__get__"))
 ct:PySem.W.takesIn K (.builtin "object.__class__")=some true
def ExcAt(x C:Addr)(h:Heap):Prop:=∃o vs,h.get? x=some o/\o.cls= .ref C/\o.data= .fields vs
theorem ExcAt.type{x C:Addr}{h:Heap}{M:Model}(e:ExcAt x C h):PySem.W.Looks M h (typeOf (.ref x)) (.ref C):=by
 obtain⟨o,vs,h1,h2,_⟩:=e;exact h2▸(PySem.W.Looks.ld h1).andThen .now
section
variable{prog:Program}{w:World}{A:Around}{E:Value->Shared->Prop}{s:Shared}{K:PySem.W.Frag}{x C:Addr}
end
def excO(ob:Obj)(x C:Addr):HO:= .frz ob (.ext (ExcAt x C))
theorem ObjOk.here{P:Program}{w:World}{H:Hp}{h:Heap}{a:Addr}{o:HO}(x:ObjOk P w H h a o):∃ob,h.get? a=some ob:=by
 cases o with
 |lst xs=>obtain⟨_,_,_,_,e⟩:=x;exact⟨_,e⟩
 |tup xs=>obtain⟨_,_,_,_,e,_⟩:=x;exact⟨_,e⟩
 |dK kvs=>obtain⟨_,_,_,_,_,_,_,e,_⟩:=x;exact⟨_,e⟩
 |dT kvs=>obtain⟨_,_,_,_,_,_,_,e,_⟩:=x;exact⟨_,e⟩
 |set S n=>obtain⟨_,_,_,_,e,_⟩:=x;exact⟨_,e⟩
 |ins C dx fs=>obtain⟨_,_,_,e,_⟩:=x;exact⟨_,e⟩
 |own y=>exact x
 |xd fs=>obtain⟨_,⟨_,_,_,e,_⟩,_⟩:=x;exact⟨_,e⟩
 |rng lo hi=>obtain⟨_,_,_,e⟩:=x;exact⟨_,e⟩
 |frz ob u=>obtain⟨e,_⟩:=x;exact⟨_,e⟩
 |tbl ps=>exact⟨_,(show h.get? a=some _ from x)⟩
 |met f y=>exact⟨_,(show h.get? a=some _ from x)⟩
 |ext φ=>obtain⟨_,e,_⟩:=x;exact e
theorem zNQ{P:Program}{w:World}{H:Hp}{h:Heap}{x C:Addr}{ob:Obj}(g:h.get? x=some ob)(e:ExcAt x C h):ObjOk P w H h x (excO ob x C):=by
 refine⟨g,e,?_,λh1 h2 p k=>?_⟩
 ·obtain⟨o,_,q,_⟩:=e;exact⟨o,q⟩
 ·obtain⟨o,vs,q1,q2⟩:=p;exact⟨o,vs,k _ q1,q2⟩
structure Aloft (P:Program) (w:World) (l:List Env) (H:Hp) (h:Heap) (x C:Addr) (a0:Value) (H':Hp) (B h':Heap):Prop where
 un:Un (frs l) [] H H' h h'
 ok:HOk P w H' B
 stay:∀b o,h.get? b=some o->H b=none->b∉frs l->B.get? b=some o
 here:∀b o,h.get? b=some o->b∉frs l->∃o',B.get? b=some o'
 fl:Heap.FlyingW B l x (.ref C) a0 h'
def CXE(P:Program)(w:World):CXT:=λouter H s E e s'=>∃ (x C:Addr) (a0:Value) (H':Hp) (B:Heap),e= .ref x/\s'.os=s.os/\AllBare s'.gens/\Aloft P w outer H s.heap x C a0 H' B s'.heap/\E (.ref C) (some x) H'
abbrev XR:=Addr->Addr->St->Hp->Prop
def xk(R:XR)(σ:St):XK:=λc xo H'=>∃C x,c= .ref C/\xo=some x/\R C x σ H'
def XF(X:Cx)(R:XR)(e:Value)(s':Shared):Prop:=∃ (pins:List (Addr×Obj)) (σ:St) (H:Hp) (s:Shared),Inv X pins σ H s/\CXE X.prog X.w X.stack H s (xk R σ) e s'
def XM(X:Cx)(R:XR)(e:Value)(s':Shared):Prop:=∃ (pins:List (Addr×Obj)) (σ:St) (H:Hp) (s:Shared) (x C:Addr) (args:List Value),e= .ref x/\Inv X pins σ H s/\Heap.MadeExcOf s.heap s'.heap x (.ref C) args/\
 s'.os=s.os/\AllBare s'.gens/\R C x σ H
section
variable{P:Program}{w:World}{l:List Env}{H H':Hp}{h h' h2 B:Heap}{x C:Addr}{a0:Value}
theorem Aloft.newx(q:Aloft P w l H h x C a0 H' B h'):h.get? x=none:=by
 cases e:h.get? x with
 |none=>rfl
 |some o=>
  by_cases hm:x∈frs l
  ·obtain⟨_,o',h1,h2⟩:=q.fl.2.2.1.mem hm;obtain⟨oe,vs,h3,_,h4,_⟩:=q.fl.first;rw[h1]at h3;cases h3;exact absurd h4 (h2 vs)
  ·obtain⟨o',h1⟩:=q.here x o e hm;rw[q.fl.2.1]at h1;cases h1
theorem Aloft.nox(q:Aloft P w l H h x C a0 H' B h'):H' x=none:=by
 cases e:H' x with
 |none=>rfl
 |some o=>
  obtain⟨ob,h1⟩:=(q.ok x o e).here;rw[q.fl.2.1]at h1;cases h1
theorem Aloft.on(q:Aloft P w l H h x C a0 H' B h')(up:h'.UpToSlots h2)(fl:Heap.FlyingW B l x (.ref C) a0 h2)(fr:∀b∈frs l,H b=none):Aloft P w l H h x C a0 H' B h2 where
 ok:=q.ok
 stay:=q.stay
 here:=q.here
 fl:=fl
 un:={
  keep:=λb o e n hb _=>fl.1 b o (q.stay b o e n hb)
  slot:=λb o e n hb hx=>by
   obtain⟨sl,e1⟩:=q.un.slot b o e n hb hx;obtain⟨_,o1,e2,nf⟩:=q.fl.2.2.1.mem hb;rw[e1]at e2;cases e2;obtain⟨sl2,e3⟩:=up b _ e1 nf;exact⟨sl2,e3⟩
  free:=q.un.free
  there:=λb o e hx=>by
   by_cases hb:b∈frs l
   ·obtain⟨sl,e1⟩:=q.un.slot b o e (fr b hb) hb hx;obtain⟨_,o1,e2,nf⟩:=q.fl.2.2.1.mem hb;rw[e1]at e2;cases e2;obtain⟨sl2,e3⟩:=up b _ e1 nf;exact⟨_,e3⟩
   ·obtain⟨o',e1⟩:=q.here b o e hb;exact⟨o',fl.1 b o' e1⟩
  tups:=q.un.tups
  frzs:=q.un.frzs
  tbls:=q.un.tbls}
theorem Aloft.caught(q:Aloft P w l H h x C a0 H' B h'):∃ob,Un (frs l) [] H (upd H' x (excO ob x C)) h h'/\HOk P w (upd H' x (excO ob x C)) h':=by
 have nx:=q.newx;have n':=q.nox;have bgB:∃b o,1<b/\h'.get? b=some o:=by
  obtain⟨b,o,l,e⟩:=q.ok.bg;exact⟨b,o,l,q.fl.1 _ _ e⟩
 obtain⟨oe,vs,g1,g2,g3,_⟩:=q.fl.first;refine⟨oe,⟨q.un.keep,q.un.slot,λb o e n hx=>?_,q.un.there,λb xs e=>?_,λb o u e=>?_,λb ps e=>?_⟩,⟨λb u e=>?_,λu e=>?_,bgB⟩⟩
 ·rw[zAI (λz=>by rw[z,nx]at e;cases e)];exact q.un.free b o e n hx
 ·have e':=q.un.tups b xs e;rw[zAI (zAH e' n')];exact e'
 ·have e':=q.un.frzs b o u e;rw[zAI (zAH e' n')];exact e'
 ·obtain⟨more,e'⟩:=q.un.tbls b ps e;exact⟨more,by rw[zAI (zAH e' n')];exact e'⟩
 ·by_cases hb:b=x
  ·subst hb;rw[zAF]at e;cases e;exact zNQ g1 ⟨oe,vs,g1,g2,g3⟩
  ·rw[zAI hb]at e;exact(q.ok b u e).stay (λc v _ r=>q.fl.1 c v r) (λc r=>by rw[zAI (zAH r n')];exact r) λc xs r=>by rw[zAI (zAH r n')];exact r
 ·by_cases hb:sysModules=x
  ·rw[hb,zAF]at e;cases e;exact⟨_,_,rfl⟩
  ·rw[zAI hb]at e;exact q.ok.sm u e
end
section
variable{X:Cx}{R:XR}{e:Value}{s':Shared}
structure Cx.Top (X:Cx):Prop where
 stk:X.stack=X.env::X.outer
 fr:X.env.frame=some X.env.locals
 ex:X.ex=[]
theorem Inv.old{pins:List (Addr×Obj)}{σ:St}{H:Hp}{s:Shared}(I:Inv X pins σ H s){b:Addr}{o:Obj}(e:X.s₀.heap.get? b=some o)(hb:b∉X.fs):b∉frs X.stack:=λz=>by
 rcases List.mem_cons.mp (I.stkSub b z)with q|q
 ·exact absurd (Heap.lt_size e) (by rw[q];exact Nat.not_lt.mpr I.ok.above)
 ·exact hb q
theorem Inv.oldfs{pins:List (Addr×Obj)}{σ:St}{H:Hp}{s:Shared}(T:X.Top){b:Addr}(hb:b∈X.fs):b∈frs X.stack:=by
 rw[T.stk];unfold frs;rw[List.filterMap_cons,T.fr];exact List.mem_cons_of_mem _ hb
theorem Aloft.leave{pins:List (Addr×Obj)}{σ:St}{H H':Hp}{s:Shared}{x C:Addr}{a0:Value}{B h1 h':Heap}(T:X.Top)(I:Inv X pins σ H s)(q:Aloft X.prog X.w X.stack H s.heap x C a0 H' B h1)
 (up:h1.UpToSlots h') (fl:Heap.FlyingW B X.outer x (.ref C) a0 h'):Aloft X.prog X.w X.outer X.H₀ X.s₀.heap x C a0 H' B h':=by
 have nex:∀b:Addr,b∉X.ex:=λb=>by rw[T.ex];simp
 have stay:∀b o,X.s₀.heap.get? b=some o->X.H₀ b=none->b∉X.fs->B.get? b=some o:=λb o e n hb=>q.stay b o (I.base.keep b o e n hb (nex b)) (I.base.free b o e n (nex b)) (I.old e hb);have here:∀b o,X.s₀.heap.get? b=some o->b∉X.fs->∃o',B.get? b=some o':=λb o e hb=>by
  obtain⟨o1,e1⟩:=I.base.there b o e (nex b);exact q.here b o1 e1 (I.old e hb)
 have slot:∀b o,X.s₀.heap.get? b=some o->X.H₀ b=none->b∈X.fs->∃sl,h'.get? b=some {o with slots:=sl}:=λb o e n hb=>by
  obtain⟨sl,e1⟩:=I.base.slot b o e n hb (nex b);obtain⟨sl2,e2⟩:=q.un.any e1 (I.base.free b o e n (nex b)) (by simp);obtain⟨_,o3,e3,nf⟩:=q.fl.2.2.1.mem (Inv.oldfs (pins:=pins) (σ:=σ) (H:=H) (s:=s) T hb);rw[e2]at e3;cases e3;obtain⟨sl4,e4⟩:=up b _ e2 nf;exact⟨sl4,e4⟩
 refine⟨⟨λb o e n hb _=>fl.1 b o (stay b o e n hb),λb o e n hb _=>slot b o e n hb,λb o e n _=>?_,λb o e _=>?_,λb xs e=>q.un.tups b xs (I.base.tups b xs e),λb o u e=>q.un.frzs b o u (I.base.frzs b o u e),λb ps e=>?_⟩,q.ok,stay,here,fl⟩
 ·have n1:=I.base.free b o e n (nex b);obtain⟨o1,e1⟩:=I.base.there b o e (nex b);exact q.un.free b o1 e1 n1 (by simp)
 ·by_cases hb:b∈X.fs
  ·obtain⟨sl,e1⟩:=slot b o e (I.ok.frf b hb) hb;exact⟨_,e1⟩
  ·obtain⟨o1,e1⟩:=here b o e hb;exact⟨o1,fl.1 b o1 e1⟩
 ·obtain⟨m1,e1⟩:=I.base.tbls b ps e;obtain⟨m2,e2⟩:=q.un.tbls b _ e1;exact⟨m1++m2,by rw[e2,Array.append_assoc]⟩
theorem Inv.aloft{pins:List (Addr×Obj)}{σ:St}{H:Hp}{s:Shared}(I:Inv X pins σ H s):HOk X.prog X.w H (PySem.W.hideAll s.heap (frs X.stack)):=by
 refine⟨?_,I.hok.sm,?_⟩
 rotate_left
 ·obtain⟨o,_,_,e,_⟩:=I.ok.mod.glob;refine⟨mainGlobals,o,by decide,PySem.W.hideAll_get _ (I.bk _ _ e) λz=>?_⟩;rw[(I.stack.mem z).1]at e;cases e
 exact λa o q=>(I.hok a o q).stay (λb u hb e=>PySem.W.hideAll_get _ e λz=>by
  have n:=I.stkFree b z;rcases hb with rfl|hb
  ·rw[q]at n;cases n
  ·rw[hb]at n;cases n) (λ_ z=>z) λ_ _ z=>z
theorem zHu{E':Value->Shared->Prop}(T:X.Top)(h:XF X R e s'):
 wpAny (model X.prog X.w) X.A (leaving X.env e) (λ_ s2=>CXE X.prog X.w X.outer X.H₀ X.s₀ (λc xo H'=>∃C x σ,c= .ref C/\xo=some x/\R C x σ H') e s2) E' s':=by
 obtain⟨pins,σ,H,s,I,x,C,a0,H',B,rfl,os,bare,q,C',x',e1,e2,r⟩:=h;refine wpAny_leaves_onW (by rw[I.ok.frames,T.stk]) T.fr (by rw[<-T.stk];exact q.fl) λh' fl up=>?_;exact⟨x,_,a0,H',B,rfl,os.trans I.os,bare,q.leave T I up fl,C',x',σ,e1,e2,r⟩
theorem zHt{E':Value->Shared->Prop}(T:X.Top)(h:XM X R e s'):
 wpAny (model X.prog X.w) X.A (leaving X.env e) (λ_ s2=>CXE X.prog X.w X.outer X.H₀ X.s₀ (λc xo H'=>∃C x σ,c= .ref C/\xo=some x/\R C x σ H') e s2) E' s':=by
 obtain⟨pins,σ,H,s,x,C,args,rfl,I,mk,os,bare,r⟩:=h;have nex:∀b:Addr,b∉X.ex:=λb=>by rw[T.ex];simp
 have hin:∀env∈(X.env::X.outer),∀b,env.frame=some b->b∈frs X.stack:=λenv he b hb=>by rw[T.stk];exact List.mem_filterMap.mpr ⟨env,he,hb⟩
 refine wpAny_leaves_madeW (base:=PySem.W.hideAll s.heap (frs X.stack)) (h:=s.heap) (by rw[I.ok.frames,T.stk]) T.fr (λb o q=>PySem.W.of_hideAll _ q) (PySem.W.funFrames_hide (by rw[<-T.stk];exact I.stack) hin) mk λh' t fl _ _ up=>?_;have stay:∀b o,X.s₀.heap.get? b=some o->X.H₀ b=none->b∉X.fs->(PySem.W.hideAll s.heap (frs X.stack)).get? b=some o:=λb o e n hb=>PySem.W.hideAll_get _ (I.base.keep b o e n hb (nex b)) (I.old e hb);have here:∀b o,X.s₀.heap.get? b=some o->b∉X.fs->∃o',(PySem.W.hideAll s.heap (frs X.stack)).get? b=some o':=λb o e hb=>by
  obtain⟨o1,e1⟩:=I.base.there b o e (nex b);exact⟨o1,PySem.W.hideAll_get _ e1 (I.old e hb)⟩
 have slot:∀b o,X.s₀.heap.get? b=some o->X.H₀ b=none->b∈X.fs->∃sl,h'.get? b=some {o with slots:=sl}:=λb o e n hb=>by
  obtain⟨sl,e1⟩:=I.base.slot b o e n hb (nex b);obtain⟨_,o3,e3,nf⟩:=I.stack.mem (Inv.oldfs (pins:=pins) (σ:=σ) (H:=H) (s:=s) T hb);rw[e1]at e3;cases e3;obtain⟨sl4,e4⟩:=up b _ (mk.keeps _ _ e1) nf;exact⟨sl4,e4⟩
 refine⟨x,C,_,H,_,rfl,os.trans I.os,bare,⟨⟨λb o e n hb _=>fl.1 b o (stay b o e n hb),λb o e n hb _=>slot b o e n hb,λb o e n _=>I.base.free b o e n (nex b),λb o e _=>?_,I.base.tups,I.base.frzs,I.base.tbls⟩,I.aloft,stay,here,fl⟩,C,x,σ,rfl,rfl,r⟩
 by_cases hb:b∈X.fs
 ·obtain⟨sl,e1⟩:=slot b o e (I.ok.frf b hb) hb;exact⟨_,e1⟩
 ·obtain⟨o1,e1⟩:=here b o e hb;exact⟨o1,fl.1 b o1 e1⟩
end
theorem zLy{K:PySem.W.Frag}{h:Heap}{C:Addr}(X:K.In h)(q:PySem.W.excIn K C veTail "ValueError.__new__"=true):
 ∃bm N nm qn bs hdct sn sub ab col dd k0 k1 k2 k3 k5 mN,h.get? C=some (excClassObj nm qn C N bs bm hdct sn sub ab col dd k0 k1 k2 k3 k5 "ValueError.__new__")/\h.Ns N mN/\mN "__init__"=none/\OwnTail h veTail bm:=by
 unfold PySem.W.excIn at q
 split at q
 ·rename_i dd cd sl ho
  split at q
  ·rename_i C1 bm k0 k1 k2 k3 n k5 hm hs
   simp only[Bool.and_eq_true,beq_iff_eq,Bool.not_eq_true']at q;obtain⟨⟨⟨⟨⟨rfl,rfl⟩,hdel⟩,ht⟩,hok⟩,hni⟩:=q;obtain⟨nm,bs,mro,ns,qn,hd,sn,sub,ab,col,del⟩:=cd
   dsimp only at hm hdel hok hni;subst hm hdel
   obtain⟨sl⟩:=sl;have e:sl=[k0,k1,k2,k3,some (.builtin "ValueError.__new__"),k5]:=hs;subst e;exact⟨bm,ns,nm,qn,bs,hd,sn,sub,ab,col,dd,k0,k1,k2,k3,k5,_,X _ _ ho, .of_isNs (PySem.W.isNs_of_in X hok),PySem.W.nsMap_none_of_in X hok hni,PySem.W.tail_of_in X ht⟩
  ·cases q
 ·cases q
section
variable{X:Cx}{R:XR}{C:Addr}{x:Str}{e:Expr}{es:List Expr}{t:TA}{np cpos pos p:Pos}
def tRaise(C:Addr)(R:XR)(t:TA):TS:=λ_ σ H=>t σ H λvs H1=>vs.length<=sizeLine/\∀y,H1 y=none->R C y σ H1
theorem zBS(Z:ECls X.K C)(hm:X.mg x=some (.ref C))(hh:X.A.handled=none)(hx:∀e s',XM X R e s'->X.xe e s')(ha:PA X (e::es) t)(hg:Gl X x:=by rfl)(hd:(x==("__debug__":Str))=false:=by decide)
 (he:starEach (e::es) X.env=(false,eval e X.env)::starEach es X.env:=by rfl) (hpl:(backTo cpos (starEach es X.env)).any (·.1)=false:=by rfl):
 PS X (.Raise (some (.Call (.Name x np) (e::es) [] cpos)) none pos) (tRaise C R t):=by
 intro pins s σ H D I h;obtain⟨bm,N,nm,qn,bs,hdct,sn,sub,ab,col,dd,k0,k1,k2,k3,k5,mN,hC,hN,hni,TL⟩:=zLy I.ok.mod.kin Z.ex;refine wpAny_Raise_call_subU (C:=C) (nm:=nm) (q:=qn) (N:=N) (bs:=bs) (bm:=bm) (hdct:=hdct) (sn:=sn) (sub:=sub) (ab:=ab) (col:=col) (dd:=dd) (k0:=k0) (k1:=k1) (k2:=k2) (k3:=k3) (k5:=k5)
  F.excBase_ValueError rfl F.excBase_ValueError (mN:=mN) (TL.hasType F.excBase_ValueError.hasBase) hh ?_ hni (zDy I hg hm ⟨rfl,?_⟩ hd)
 ·rw[he];show(false||(backTo cpos (starEach es X.env)).any (·.1))=false;rw[hpl];rfl
 ·have w:=ha cpos pins s σ H _ I h;rw[he]at w⊢;refine Calls.evalArgs_plain (thn w λus s2 ⟨vs,H1,I1,rv,hl,r⟩=>⟨rfl,by show us.length<=_;rw[<-rv.length];exact hl,I1.bk _ _ hC,hN.keeps I1.bk,TL.keeps I1.bk,λh' y mk=>hx _ _ ?_⟩);refine⟨pins,σ,H1,s2,y,C,_,rfl,I1,mk,rfl,I1.bare,r y ?_⟩
  cases q:H1 y with
  |none=>rfl
  |some o=>
   obtain⟨ob,h1⟩:=(I1.hok y o q).here;rw[mk.new]at h1;cases h1
structure FnUE (P:Program) (w:World) (K:PySem.W.Frag) (mg:Str->Option Value) (base:Heap) (k:Nat) (x:Str) (ps:List Str) (sp:Sp):Prop where
 ex:∃f fd,FnOk P w K mg base (CXE P w) k f fd ps sp/\mg x=some (.ref f)/\PySem.W.keepIn K (.ref f)=true/\Binds K fd ps []
theorem FnUE.mono{P:Program}{w:World}{K:PySem.W.Frag}{mg:Str->Option Value}{base:Heap}{j k:Nat}{ps:List Str}{sp:Sp}(U:FnUE P w K mg base j x ps sp)(h:j<=k):FnUE P w K mg base k x ps sp:=by
 obtain⟨f,fd,F,r⟩:=U.ex;exact⟨f,fd,F.mono h,r⟩
def tCallE(sp:Sp)(R:XR)(t:TA):TE:=λσ H Q=>t σ H λvs H1=>sp vs H1 Q (xk R σ)
theorem zAa{k:Nat}{ps:List Str}{sp:Sp}(U:FnUE X.prog X.w X.K X.mg X.base k x ps sp)(hr:Room k X.A)(hx:∀e s',XF X R e s'->X.xe e s')(ha:PA X (e::es) t)(hg:Gl X x:=by rfl)
 (hdb:(x==("__debug__":Str))=false:=by decide) (he:starEach (e::es) X.env=(false,eval e X.env)::starEach es X.env:=by rfl) (hpl:(backTo pos (starEach es X.env)).any (·.1)=false:=by rfl):
 PE X (.Call (.Name x p) (e::es) [] pos) (tCallE sp R t):=by
 obtain⟨f,fd,F,hm,hk,hb⟩:=U.ex;intro pins s σ H Q I h;refine wpAny_Call_Name_kw (zDy I hg hm ?_ hdb);refine PySem.W.callWith_K (h₀:=X.base) I.ok.mod.kin hk (thn (ha pos pins s σ H _ I h) λus s1 ⟨vs,H1,I1,r,q⟩=>⟨I1.kIn,?_⟩) he hpl;have hl:us.length=ps.length:=by rw[<-r.length];exact F.len _ _ _ _ q
 refine wpAny_call (codeAny_mono (F.run X.A X.stack s1 H1 ⟨us,[]⟩ us vs Q (xk R σ) hr I1.env0 ?_ r q) λres s' hq=>?_)
 ·have z:=hb s1 us I1.kIn (by rw[List.append_nil];exact hl);rw[List.append_nil]at z;exact z
 ·cases res with
  |error ev=>exact hx _ _ ⟨pins,σ,H1,s1,I1,hq⟩
  |ok fl=>
   cases fl with
   |ret u=>exact I1.after hq
   |next=>exact False.elim hq
   |brk=>exact False.elim hq
   |cont=>exact False.elim hq
end
section
variable{P:Program}{w:World}{K:PySem.W.Frag}{mg:Str->Option Value}{base:Heap}
def rOf(E:XK):XR:=λC x _ H'=>E (.ref C) (some x) H'
abbrev cxE(P:Program)(w:World)(K:PySem.W.Frag)(mg:Str->Option Value)(base:Heap)(N:List Str)(qual:Str)(st:Stmt)(f:Addr)(cdv:Value)(A:Around)(outer:List Env)(s:Shared)(H:Hp)(E:XK):Cx:=
 cxOf (CXE P w) P w K mg base N qual (defScope st) f cdv A outer s H E
theorem zI6{N:List Str}{qual:Str}{st:Stmt}{f:Addr}{cdv:Value}{A:Around}{outer:List Env}{s:Shared}{H:Hp}{E:XK}:(cxE P w K mg base N qual st f cdv A outer s H E).Top:=⟨rfl,rfl,rfl⟩
theorem zHC{l:List Env}{H:Hp}{s s':Shared}{E E':XK}{e:Value}(h:CXE P w l H s E e s')(k:∀c x H',E c x H'->E' c x H'):CXE P w l H s E' e s':=by
 obtain⟨x,C,a0,H',B,e1,e2,e3,q,r⟩:=h;exact⟨x,C,a0,H',B,e1,e2,e3,q,k _ _ _ r⟩
theorem zBq{N:List Str}{qual:Str}{st:Stmt}{f:Addr}{cdv:Value}{A:Around}{outer:List Env}{s:Shared}{H:Hp}{E:XK}(e:Value)(s':Shared)
 (h:XF (cxE P w K mg base N qual st f cdv A outer s H E) (rOf E) e s'):(cxE P w K mg base N qual st f cdv A outer s H E).xe e s':=
 wpAny_mono (zHu (E':=λ_ _=>False) zI6 h) (λ_ _ q=>zHC q λc x H' ⟨C,y,σ,e1,e2,r⟩=>by subst e1;subst e2;exact r) λ_ _ z=>z.elim
theorem zCd{N:List Str}{qual:Str}{st:Stmt}{f:Addr}{cdv:Value}{A:Around}{outer:List Env}{s:Shared}{H:Hp}{E:XK}(e:Value)(s':Shared)
 (h:XM (cxE P w K mg base N qual st f cdv A outer s H E) (rOf E) e s'):(cxE P w K mg base N qual st f cdv A outer s H E).xe e s':=
 wpAny_mono (zHt (E':=λ_ _=>False) zI6 h) (λ_ _ q=>zHC q λc x H' ⟨C,y,σ,e1,e2,r⟩=>by subst e1;subst e2;exact r) λ_ _ z=>z.elim
theorem Fun.okE{x qual:Str}{st:Stmt}{f:Addr}{fd:FuncData}{N ps:List Str}{k:Nat}{sp:Sp}(F:Fun K x qual st f fd)(S:FnScope N ps (defScope st))(len:∀vs H Q E,sp vs H Q E->vs.length=ps.length)
 (hbody:∀ (cdv:Value) (A:Around) (outer:List Env) (s:Shared) (H:Hp) (vs:List V) (Q:VK) (E:XK),Room k (A.deeper (envOfC qual (defScope st) s.heap.objs.size f cdv))->sp vs H Q E->
   ∃t,PSs (cxE P w K mg base N qual st f cdv A outer s H E) (defBody st) t/\t {nx:=λ_ H'=>Q .non H',rt:=Q} (start N vs) H):FnOk P w K mg base (CXE P w) (k+1) f fd ps sp:=by
 obtain⟨oc,od,kV,doc,pm,an,cdv,ct,osl,rfl,lk,hcd⟩:=F.ex;exact zNO lk hcd S len λA outer s H vs Q E hr hsp=>hbody cdv A outer s H vs Q E hr hsp
theorem FnU.e{k:Nat}{x:Str}{ps:List Str}{sp:Sp}(U:FnU P w K mg base k x ps sp):FnUE P w K mg base k x ps sp:=by
 obtain⟨f,fd,F,r⟩:=U.ex;exact⟨f,fd,⟨F.len,λA outer s H args us vs Q E h1 h2 h3 h4 h5=>codeAny_mono (F.run A outer s H args us vs Q E h1 h2 h3 h4 h5) λres s' q=>by
  cases res with
  |error ev=>exact False.elim q
  |ok fl=>cases fl<;>exact q⟩,r⟩
theorem DefAt.fnUE{x:Str}{st:Stmt}{ps:List Str}{f:Addr}{fd:FuncData}{k:Nat}{sp:Sp}(d:DefAt K mg x st ps f fd)(ok:FnOk P w K mg base (CXE P w) k f fd ps sp):FnUE P w K mg base k x ps sp:=
 ⟨f,fd,ok,d.m,d.F.kp,d.b⟩
end
section
variable{M:Model}{A:Around}{E:Value->Shared->Prop}{K:PySem.W.Frag}{x C CR:Addr}
theorem zJ6{h:Heap}(Z:ECls K C)(X:K.In h):PySem.W.Looks M h (isType (.ref C)) true:=by
 obtain⟨cd,hcd⟩:=Z.cs;unfold PySem.W.clsIn at hcd
 split at hcd
 ·rename_i ho
  intro A' Q' E' s' k q;unfold isType loadHead;exact wpAny_bind (wpAny_loadPart (k _ _ (X _ _ ho)) (wpAny_pure q))
 ·cases hcd
theorem zGS{s:Shared}{b:Bool}{Q:Bool->Shared->Prop}(ZR:ECls K CR)(X:K.In s.heap)(hb:PySem.W.mroIn K C (.ref CR)=some b)(e:ExcAt x C s.heap)(h:Q b s):wpAny M A (excMatches (.ref x) (.ref CR)) Q E s:=by
 obtain⟨hp,g,d,tk,os⟩:=s;have L0:=e.type (M:=M);have L1:=PySem.W.looks_typeIn (M:=M) X ZR.ty;have L2:=zJ6 (M:=M) ZR X;have L3:=PySem.W.looks_mroIn (M:=M) X ZR.bs;have L4:=PySem.W.looks_mroIn (M:=M) X hb;have f:=tc_notTuple;unfold excMatches isInstance;refine wpAny_bind (wpAny_bind (L1.at ?_));rw[f];refine wpAny_pure ?_;simp only[Bool.false_eq_true,if_false];refine wpAny_bind (wpAny_pure ?_);rw[List.forIn_cons];unfold isExcClass;refine wpAny_bind (wpAny_bind (wpAny_bind (wpAny_bind (L2.at ?_))));simp only[if_true];refine L3.at ?_;simp only[Bool.not_true,Bool.false_eq_true,if_false];refine wpAny_pure ?_;refine wpAny_pure (wpAny_bind (L0.at ?_));rw[List.forIn_cons];refine wpAny_bind (wpAny_bind (wpAny_bind (L4.at ?_)))
 cases b with
 |true=>
  simp only[if_true];exact wpAny_pure (wpAny_pure (wpAny_pure h))
 |false=>
  simp only[Bool.false_eq_true,if_false];exact wpAny_pure (wpAny_pure (wpAny_pure h))
end
abbrev Cx.held(X:Cx)(e:Value):Cx:={X with A:=X.A.mark (some e),calm:=false,xe:=λ_ _=>False}
abbrev Cx.tried(X:Cx)(pn:List (Addr×Obj))(xe:Value->Shared->Prop):Cx:={X with pn:=pn,xe:=xe}
section
variable{X:Cx}{pins:List (Addr×Obj)}{σ:St}{H:Hp}{s:Shared}
theorem Cx.Ok.held(ok:X.Ok)(e:Value):(X.held e).Ok:=
 ⟨ok.mod,ok.kind,ok.glob,ok.blt,ok.above,ok.inj,ok.has,ok.cab,λz=>(nomatch z),ok.frames,ok.stk,ok.exf,ok.bs,ok.bsz,ok.noex,ok.exfs,ok.funs,ok.frf⟩
theorem Inv.held(I:Inv X pins σ H s)(e:Value):Inv (X.held e) pins σ H s:=⟨I.ok.held e,I.os,I.bare,I.base,I.loc,I.cell,I.free,I.freeC,I.pin,I.hok,I.len⟩
theorem Inv.unheld{e:Value}(ok:X.Ok)(I:Inv (X.held e) pins σ H s):Inv X pins σ H s:=⟨ok,I.os,I.bare,I.base,I.loc,I.cell,I.free,I.freeC,I.pin,I.hok,I.len⟩
theorem Cx.Ok.tried(ok:X.Ok)(pn:List (Addr×Obj))(xe:Value->Shared->Prop):(X.tried pn xe).Ok:=
 ⟨ok.mod,ok.kind,ok.glob,ok.blt,ok.above,ok.inj,ok.has,ok.cab,ok.hd,ok.frames,ok.stk,ok.exf,ok.bs,ok.bsz,ok.noex,ok.exfs,ok.funs,ok.frf⟩
theorem Inv.tried(I:Inv X pins σ H s)(xe:Value->Shared->Prop):Inv (X.tried (X.pn++pins) xe) [] σ H s:=
 ⟨I.ok.tried _ _,I.os,I.bare,I.base,I.loc,I.cell,I.free,I.freeC,λp hp=>I.pin p (by simpa using hp),I.hok,I.len⟩
theorem Inv.untried{pins':List (Addr×Obj)}{xe:Value->Shared->Prop}(ok:X.Ok)(I:Inv (X.tried (X.pn++pins) xe) pins' σ H s):Inv X pins σ H s:=
 ⟨ok,I.os,I.bare,I.base,I.loc,I.cell,I.free,I.freeC,λp hp=>I.pin p (List.mem_append_left _ hp),I.hok,I.len⟩
theorem SP.untried{D:Ends}{f:Flow}{xe:Value->Shared->Prop}(ok:X.Ok)(h:SP (X.tried (X.pn++pins) xe) [] D f s):SP X pins D f s:=by
 cases f with
 |next=>obtain⟨σ',H',I,q⟩:=h;exact⟨σ',H',I.untried ok,q⟩
 |brk=>obtain⟨σ',H',I,q⟩:=h;exact⟨σ',H',I.untried ok,q⟩
 |cont=>obtain⟨σ',H',I,q⟩:=h;exact⟨σ',H',I.untried ok,q⟩
 |ret u=>obtain⟨v,σ',H',I,r,q⟩:=h;exact⟨v,σ',H',I.untried ok,r,q⟩
theorem Inv.gone{i:Nat}{n:Str}{h':Heap}{v:Option Value}{m:Str->Option Value}{tk:Nat}(I:Inv X pins σ H s)(hN:X.N.Nodup)(hi:X.N[i]? =some n)
 (hl:∀ (i:Nat) (x:Str) (v:V),X.N[i]? =some x->σ[i]? =some (some v)->Vis X.env.scope x->∃u,RelV v u/\Look X.env s.heap m x u)
 (hn:h'.Ns X.env.locals (λx=>if x=n then v else m x)) (hs:Heap.SameBut X.env.locals s.heap h'):Inv X pins (σ.set i none) H {s with heap:=h',toks:=tk}:=by
 have ne0:∀b o,X.s₀.heap.get? b=some o->b≠X.env.locals:=λb o e=>Nat.ne_of_lt (Nat.lt_of_lt_of_le (Heap.lt_size e) I.ok.above);have tr:∀b u,H b=some u->b≠X.env.locals:=λb u e z=>by rw[z,I.free]at e;cases e
 refine⟨I.ok,I.os,I.bare,⟨λb o e q hb hx=>?_,λb o e q hb hx=>?_,I.base.free,λb o e hx=>?_,I.base.tups,I.base.frzs,I.base.tbls⟩,⟨_,hn,λj y w e1 e2 e3=>?_⟩,λy c e=>?_,I.free,I.freeC,λp hp=>?_,⟨λb u e=>?_,I.hok.sm,let⟨o,_,_,e,_⟩:=I.ok.mod.glob;⟨mainGlobals,o,by decide,(hs.2 _ (ne0 _ o (I.ok.bs _ _ e).1)).trans (I.bk _ _ e)⟩⟩,by simpa using I.len⟩
 ·exact(hs.2 b (ne0 b o e)).trans (I.base.keep b o e q hb hx)
 ·obtain⟨sl,e1⟩:=I.base.slot b o e q hb hx;exact⟨sl,(hs.2 b (ne0 b o e)).trans e1⟩
 ·obtain⟨o',e1⟩:=I.base.there b o e hx;exact⟨o',(hs.2 b (ne0 b o e)).trans e1⟩
 ·have hj:j≠i:=λz=>by
   subst z
   by_cases hlt:j<σ.length
   ·rw[List.getElem?_set_self hlt]at e2;cases e2
   ·rw[List.getElem?_eq_none (by rw[List.length_set];omega)]at e2;cases e2
  rw[List.getElem?_set_ne (Ne.symm hj)]at e2;obtain⟨u,r,q⟩:=hl j y w e1 e2 e3;refine⟨u,r,?_⟩;have ny:y≠n:=λz=>hj (zEy hN e1 (z▸hi));rcases q with⟨k,e⟩|⟨k,c,e,z⟩
  ·exact .inl ⟨k,by show(if y=n then v else m y)=some u;rw[if_neg ny];exact e⟩
  ·exact .inr ⟨k,c,e,z.sameBut hs (I.cne y c e)⟩
 ·obtain⟨w',z⟩:=I.cell y c e;exact⟨w',z.sameBut hs (I.cne y c e)⟩
 ·obtain⟨e,q,ne,nf,d⟩:=I.pin p hp;exact⟨(hs.2 p.1 ne).trans e,q,ne,nf,d⟩
 ·refine(I.hok b u e).stay (λc w' hc r=>(hs.2 c ?_).trans r) (λ_ z=>z) λ_ _ z=>z;rcases hc with rfl|hc
  ·exact tr _ _ e
  ·exact tr _ _ hc
end
section
variable{X:Cx}{cn en:Str}{CR:Addr}{i:Nat}{body suite:List Stmt}{b₀:Stmt}{np hpos pos:Pos}{tb:XR->TS}{ts:TS}
def endsOff(i:Nat)(D:Ends):Ends:={nx:=λσ H=>D.nx (σ.set i none) H,rt:=D.rt,bk:=λσ H=>D.bk (σ.set i none) H,ct:=λσ H=>D.ct (σ.set i none) H}
def tTry(K:PySem.W.Frag)(i:Nat)(CR:Addr)(tb:XR->TS)(ts:TS):TS:=λD σ H=>
 tb (λC x σ' H'=>PySem.W.mroIn K C (.ref CR)=some true/\∀ob,ts (endsOff i D) (σ'.set i (some (.ref x))) (upd H' x (excO ob x C))) D σ H
theorem zMm(ZR:ECls X.K CR)(hm:X.mg cn=some (.ref CR))(T:X.Top)(hN:X.N.Nodup)(hi:X.N[i]? =some en)(hl:X.env.scope.names.lookup en=some .local)
 (hb:∀ (pn:List (Addr×Obj)) (xe:Value->Shared->Prop) (R:XR),(∀e s',XF (X.tried pn xe) R e s'->xe e s')->PSs (X.tried pn xe) body (tb R))
 (hs:∀e:Value,PSs (X.held e) (b₀::suite) ts) (hg:Gl X cn:=by rfl) (hd:(cn==("__debug__":Str))=false:=by decide):
 PS X (.Try body [.ExceptHandler (some (.Name cn np)) (some en) (b₀::suite) hpos] [] [] pos) (tTry X.K i CR tb ts):=by
 intro pins s σ H D I h;refine wpAny_Try_except ?_;refine wpAny_mono (hb (X.pn++pins) _ _ (λe s1 z=>?_) [] s σ H D (I.tried _) h) (λf s1 q=>?_) λe s1 z=>z
 ·obtain⟨pins1,σ1,H1,s1',I1,x,C,a0,H',B,rfl,os,bare,q,C',x',e1,e2,hsub,r⟩:=z
  cases e1;cases e2
  have I1:=I1.untried I.ok;refine wpAny_looks_onW (by rw[I.ok.frames,T.stk]) T.fr (by rw[<-T.stk];exact q.fl) λh4 held4 up4=>?_;refine wpAny_landsW held4 λh5 fl5 up5=>?_;have q5:=q.on (up4.trans up5) (by rw[T.stk];exact fl5) I1.stkFree;have I5:Inv X pins σ1 H' {s1 with heap:=h5}:=I1.call' (ch:=[]) os q5.un (q5.ok.kept q5.fl.1) bare (λb z=>absurd z (by simp));have X5:ExcAt x C h5:=by
   obtain⟨oe,vs,g1,g2,g3,_⟩:=q5.fl.first;exact⟨oe,vs,g1,g2,g3⟩
  refine wpAny_handleBy_cons (codeAny_handlers_test (zDy (X:=X.held (.ref x)) (I5.held _) hg hm ?_ hd)) (by intro z;cases z);refine zGS ZR I5.kIn hsub X5 ?_;refine codeAny_handlers_suite_as ?_;refine lands_againW (base:=B) (l:=X.env::X.outer) (by rw[<-T.stk];exact q5.fl) λh6 fl6 up6=>?_;have q6:=q5.on up6 (by rw[T.stk];exact fl6) I1.stkFree;obtain⟨ob,c6⟩:=q6.caught;have I6:Inv X pins σ1 (upd H' x (excO ob x C)) {s1 with heap:=h6}:=I1.call' (ch:=[]) os c6.1 c6.2 bare (λb z=>absurd z (by simp));refine zCQ (X:=X.held (.ref x)) (I6.held _) hN hi (.inl hl) (v:= .ref x) rfl (λs7 I7=>?_) (.inr hl);refine wpAny_mono (hs (.ref x) pins s7 _ _ (endsOff i D) I7 (r ob)) (λf s8 q8=>?_) λ_ _ z=>z.elim;have go:∀ {σ8:St} {H8:Hp},Inv (X.held (.ref x)) pins σ8 H8 s8->(∀s9,Inv X pins (σ8.set i none) H8 s9->SP X pins D f s9)->wpAny (model X.prog X.w) X.A (do bindName X.env en .none;unbindBehindTheSuite X.env en hpos) (λ_ s9=>SP X pins D f s9) X.xe s8:=fun{σ8 H8} I8 k=>by
   have I8:=I8.unheld I.ok;obtain⟨m,hn,hlk⟩:=id I8.loc;refine wpAny_nameGoes_keeps hl hn ?_ λh9 v hn9 hs9=>k _ (I8.gone hN hi hlk hn9 hs9);rw[I.ok.kind];rfl
  cases f with
  |next=>obtain⟨σ8,H8,I8,q9⟩:=q8;exact go I8 λs9 I9=>⟨_,_,I9,q9⟩
  |brk=>obtain⟨σ8,H8,I8,q9⟩:=q8;exact go I8 λs9 I9=>⟨_,_,I9,q9⟩
  |cont=>obtain⟨σ8,H8,I8,q9⟩:=q8;exact go I8 λs9 I9=>⟨_,_,I9,q9⟩
  |ret u=>obtain⟨v,σ8,H8,I8,rv,q9⟩:=q8;exact go I8 λs9 I9=>⟨_,_,_,I9,rv,q9⟩
 ·have q:=q.untried I.ok
  cases f with
  |next=>exact wpAny_execs_nil q
  |brk=>exact q
  |cont=>exact q
  |ret u=>exact q
end
end L2
namespace L2
open PySem PySem.Spec PyProof.Rows PySem.SeqAt
section
variable{X:Cx}
end
structure RoomH (k:Nat) (A:Around):Prop where
 dp:A.depth+3*k+5<recursionLimit
 un:A.units+16*k+200<cLine
 gd:A.guards=some []
theorem Room.h{k:Nat}{A:Around}(r:Room k A)(e:Value):RoomH k (A.mark (some e)):=⟨r.dp,r.un,r.gd⟩
section
variable{P:Program}{w:World}{K:PySem.W.Frag}{mg:Str->Option Value}{base:Heap}
end
end L2
namespace L2
open PySem PySem.Spec PyProof.Rows
mutual
inductive Sd (p:Addr) (H:Hp):V->PyData->Prop
 |sc {x:V} {d:PyData} (h:Sc x d):Sd p H x d
 |lst {a:Addr} {xs:List V} {ds:List PyData} (h:H a=some (.lst xs)) (n:a≠p) (r:Sds p H xs ds):Sd p H (.ref a) (.list ds)
 |tup {a:Addr} {xs:List V} {ds:List PyData} (h:H a=some (.tup xs)) (n:a≠p) (r:Sds p H xs ds):Sd p H (.ref a) (.tuple ds)
 |dct {a:Addr} {kvs:List (Key×V)} {ds:List (PyData×PyData)} (h:H a=some (.dK kvs)) (n:a≠p) (r:Paired Sck kvs ds):Sd p H (.ref a) (.dict ds)
inductive Sds (p:Addr) (H:Hp):List V->List PyData->Prop
 |nil:Sds p H [] []
 |cons {x:V} {d:PyData} {xs:List V} {ds:List PyData} (h:Sd p H x d) (t:Sds p H xs ds):Sds p H (x::xs) (d::ds)
end
mutual
theorem Sd.keep{p:Addr}{H H':Hp}(s:SameBut1 p H H'):∀ {x:V} {d:PyData},Sd p H x d->Sd p H' x d
 |_,_, .sc h=> .sc h
 |_,_, .lst h n r=> .lst (s _ _ h n) n (Sds.keep s r)
 |_,_, .tup h n r=> .tup (s _ _ h n) n (Sds.keep s r)
 |_,_, .dct h n r=> .dct (s _ _ h n) n r
theorem Sds.keep{p:Addr}{H H':Hp}(s:SameBut1 p H H'):∀ {xs:List V} {ds:List PyData},Sds p H xs ds->Sds p H' xs ds
 |_,_, .nil=> .nil
 |_,_, .cons h t=> .cons (Sd.keep s h) (Sds.keep s t)
end
section
variable{X:Cx}{pins:List (Addr×Obj)}{σ:St}{H:Hp}{s:Shared}
end
def Fit(n m:Nat)(d:PyData):Prop:=d.showable=true/\d.shown.length<=n/\d.depth<=m
theorem Fit.ok{n m:Nat}{d:PyData}(h:Fit n m d)(hn:n<=16777216)(hm:m<=20):ShOk d:=⟨h.1,Nat.le_trans h.2.1 (by rw[sizeLine_eq];omega),Nat.le_trans h.2.2 hm⟩
def Dt(p:Addr)(n m:Nat)(H:Hp)(v:V):Prop:=∃d,Sd p H v d/\Fit n m d
theorem Dt.keep{p:Addr}{n m:Nat}{H H':Hp}{v:V}(h:Dt p n m H v)(s:SameBut1 p H H'):Dt p n m H' v:=let⟨d,a,b⟩:=h;⟨d,a.keep s,b⟩
end L2
namespace L2
open PySem PySem.Spec PyProof.Rows BrM BrR BrS BrC
structure Cs where
 RowError:Addr
 NoKinds:Addr
 NoLine:Addr
 NotRight:Addr
 NoTree:Addr
 NoNumber:Addr
 NoWeights:Addr
 NoPlace:Addr
 NoFilling:Addr
 TooMany:Addr
 NoName:Addr
 NoRow:Addr
def eclsB(K:PySem.W.Frag)(C:Addr):Bool:=PySem.W.excIn K C veTail "ValueError.__new__"&&(PySem.W.typeIn K (.ref C)==some (.type "type"))&&(PySem.W.clsIn K C).isSome&&(PySem.W.mroIn K C (.type "BaseException")==some true)&&
 (PySem.W.mroIn K C (.type "object")==some true)&&(PySem.W.findIn K (.ref C) "__getattribute__"==some (some (.builtin "BaseException.__getattribute__")))&&(PySem.W.findIn K (.ref C) "__getattr__"==some none)&&
 (PySem.W.findIn K (.ref C) "__class__"==some (some (.builtin "object.__class__")))&&(PySem.W.specialIn K (.builtin "object.__class__") "__get__"==some (some (.builtin "getset_descriptor.__get__")))&&(PySem.W.takesIn K (.builtin "object.__class__")==some true)
theorem zDG{K:PySem.W.Frag}{C:Addr}(h:eclsB K C=true):ECls K C:=by
 unfold eclsB at h;simp only[Bool.and_eq_true,beq_iff_eq]at h;obtain⟨⟨⟨⟨⟨⟨⟨⟨⟨h1,h2⟩,h3⟩,h4⟩,h5⟩,h6⟩,h7⟩,h8⟩,h9⟩,h10⟩:=h;exact⟨h1,h2,Option.isSome_iff_exists.mp h3,h4,h5,h6,h7,h8,h9,h10⟩
def rNo:XR:=λ_ _ _ _=>False
theorem zBP{X:Cx}(e:Value)(s':Shared)(h:XF X rNo e s'):X.xe e s':=by
 obtain⟨_,_,_,_,_,_,_,_,_,_,_,_,_,_,_,_,_,_,r⟩:=h;exact r.elim
theorem zBd{X:Cx}{b:List Stmt}{R:TS->Prop}(h:∃t,PSs X.nox b t/\R t):∃t,PSs X b t/\R t:=let⟨t,p,r⟩:=h;⟨t,p.nox,r⟩
section
variable{σ:St}{H:Hp}{Q:VK}{D:Ends}
theorem zLQ{sp:Sp}{R:XR}{t:TA}(h:t σ H λvs H1=>sp vs H1 Q (xk R σ)):tCallE sp R t σ H Q:=h
theorem zLA{C:Addr}{R:XR}{t:TA}(h:t σ H λvs H1=>vs.length<=sizeLine/\∀y,H1 y=none->R C y σ H1):tRaise C R t D σ H:=h
theorem zNi{K:PySem.W.Frag}{i:Nat}{CR:Addr}{tb:XR->TS}{ts:TS}
 (h:tb (λC x σ' H'=>PySem.W.mroIn K C (.ref CR)=some true/\∀ob,ts (endsOff i D) (σ'.set i (some (.ref x))) (upd H' x (excO ob x C))) D σ H):tTry K i CR tb ts D σ H:=h
end
def Ref(E:XK)(C:Addr)(H:Hp):Prop:=∀y H',Same H H'->H y=none->E (.ref C) (some y) H'
theorem Ref.pass{E:XK}{C:Addr}{H H1:Hp}{σ:St}(r:Ref E C H)(s:Same H H1):Ref (xk (rOf E) σ) C H1:=λy H' s' h=>⟨C,y,rfl,rfl,r y H' (s.trans s') (s.free h)⟩
theorem zJa{H H':Hp}{y:Addr}{o:HO}(s:Same H H')(n:H y=none):Same H (upd H' y o):=λb u z=>by rw[zAI (zAH z n)];exact s b u z
theorem zMi{R:XR}{σ:St}{C:Addr}{H:Hp}(h:∀y H',Same H H'->H y=none->R C y σ H'):Ref (xk R σ) C H:=λy H' s n=>⟨C,y,rfl,rfl,h y H' s n⟩
def NoN(K:PySem.W.Frag)(lo hi:Int)(H:Hp)(v:V):Prop:=∃ty,TyOf K H v (.type ty)/\ty∈plainTy/\∀i,v= .int i->i<lo\/hi<i
abbrev NoK(K:PySem.W.Frag):Hp->V->Prop:=NoN K 1 4
def NoL(K:PySem.W.Frag)(k:Int)(H:Hp)(v:V):Prop:=(∃a,v=tx a/\a.length<=1000/\isRow k a=false)\/∃ty,TyOf K H v (.type ty)/\ty∈plainTy/\ty≠"str"
theorem TyOf.same{K:PySem.W.Frag}{H H':Hp}{v:V}{t:Value}(h:TyOf K H v t)(s:Same H H'):TyOf K H' v t:=by
 cases h with
 |non=>exact .non
 |bl x=>exact .bl x
 |int i=>exact .int i
 |str x=>exact .str x
 |flt x=>exact .flt x
 |lst e=>exact .lst (s _ _ e)
 |frz e=>exact .frz (s _ _ e)
 |tup e=>exact .tup (s _ _ e)
 |dK e=>exact .dK (s _ _ e)
 |dT e=>exact .dT (s _ _ e)
 |ins e cl ha hn htk hm=>exact .ins (s _ _ e) cl ha hn htk hm
theorem TyOf.keep{K:PySem.W.Frag}{p:Addr}{H H':Hp}{v:V}{t:Value}(h:TyOf K H v t)(n:∀a,v= .ref a->a≠p)(s:SameBut1 p H H'):TyOf K H' v t:=by
 cases h with
 |non=>exact .non
 |bl x=>exact .bl x
 |int i=>exact .int i
 |str x=>exact .str x
 |flt x=>exact .flt x
 |lst e=>exact .lst (s _ _ e (n _ rfl))
 |frz e=>exact .frz (s _ _ e (n _ rfl))
 |tup e=>exact .tup (s _ _ e (n _ rfl))
 |dK e=>exact .dK (s _ _ e (n _ rfl))
 |dT e=>exact .dT (s _ _ e (n _ rfl))
 |ins e cl ha hn htk hm=>exact .ins (s _ _ e (n _ rfl)) cl ha hn htk hm
theorem Dt.ne{p:Addr}{n m:Nat}{H:Hp}{v:V}(h:Dt p n m H v)(a:Addr)(e:v= .ref a):a≠p:=by
 obtain⟨d,h,_⟩:=h;subst e
 cases h with
 |sc c=>cases c
 |lst _ n _=>exact n
 |tup _ n _=>exact n
 |dct _ n _=>exact n
theorem TyOf.int_of{K:PySem.W.Frag}{H:Hp}{v:V}{t:Value}(h:TyOf K H v t)(e:t= .type "int"):∃i,v= .int i:=by
 cases h<;>first|exact⟨_,rfl⟩|(injection e with e;exact absurd e (by decide))|cases e
theorem NoN.same{K:PySem.W.Frag}{lo hi:Int}{H H':Hp}{v:V}(h:NoN K lo hi H v)(s:Same H H'):NoN K lo hi H' v:=let⟨ty,a,b⟩:=h;⟨ty,a.same s,b⟩
theorem NoL.same{K:PySem.W.Frag}{k:Int}{H H':Hp}{v:V}(h:NoL K k H v)(s:Same H H'):NoL K k H' v:=h.elim .inl λ⟨ty,a,b⟩=> .inr ⟨ty,a.same s,b⟩
theorem NoN.keep{K:PySem.W.Frag}{lo hi:Int}{p:Addr}{n m:Nat}{H H':Hp}{v:V}(h:NoN K lo hi H v)(d:Dt p n m H v)(s:SameBut1 p H H'):NoN K lo hi H' v:=let⟨ty,a,b⟩:=h;⟨ty,a.keep d.ne s,b⟩
theorem NoL.keep{K:PySem.W.Frag}{k:Int}{p:Addr}{n m:Nat}{H H':Hp}{v:V}(h:NoL K k H v)(d:Dt p n m H v)(s:SameBut1 p H H'):NoL K k H' v:=h.elim .inl λ⟨ty,a,b⟩=> .inr ⟨ty,a.keep d.ne s,b⟩
def Gate(K:PySem.W.Frag)(cs:Cs)(H:Hp)(E:XK)(kv v:V):Prop:=(NoK K H kv/\Ref E cs.NoKinds H)\/∃k:Int,kv= .int k/\1<=k/\k<=4/\NoL K k H v/\Ref E cs.NoLine H
theorem Gate.pass{K:PySem.W.Frag}{cs:Cs}{H H1:Hp}{E:XK}{kv v:V}{σ:St}(g:Gate K cs H E kv v)(s:Same H H1):Gate K cs H1 (xk (rOf E) σ) kv v:=
 g.elim (λ⟨a,r⟩=> .inl ⟨a.same s,r.pass s⟩) λ⟨k,e,h1,h2,a,r⟩=> .inr ⟨k,e,h1,h2,a.same s,r.pass s⟩
def spKindsE(K:PySem.W.Frag)(cs:Cs):Sp:=λvs H Q E=>spKinds vs H Q E\/∃v,vs=[v]/\NoK K H v/\Ref E cs.NoKinds H
def spLineE(K:PySem.W.Frag)(cs:Cs):Sp:=λvs H Q E=>spLine K vs H Q E\/∃kv v,vs=[kv,v]/\NoK K H kv/\Ref E cs.NoKinds H
def spGateE(K:PySem.W.Frag)(cs:Cs)(sp:Sp):Sp:=λvs H Q E=>sp vs H Q E\/∃kv v,vs=[kv,v]/\Gate K cs H E kv v
theorem zHg{K:PySem.W.Frag}{cs:Cs}{H:Hp}{Q:VK}{E:XK}{k:Int}{v:V}(h1:1<=k)(h2:k<=4)(n:NoL K k H v)(q:∀H',Same H H'->Q (.bl false) H'):spLineE K cs [.int k,v] H Q E:=by
 refine .inl ⟨k,v,rfl,h1,h2,?_⟩;rcases n with⟨a,rfl,ha,hr⟩|⟨ty,a,b,c⟩
 ·exact .inl ⟨a,rfl,ha,λH' s=>by rw[hr];exact q H' s⟩
 ·exact .inr ⟨ty,a,b,c,q H (Same.refl H)⟩
def spManyRightE(K:PySem.W.Frag)(cs:Cs):Sp:=λvs H Q E=>spManyRight vs H Q E\/∃kv v,vs=[kv,v]/\((NoK K H kv/\Ref E cs.NoKinds H)\/∃k:Int,kv= .int k/\1<=k/\k<=4/\NoN K 0 40 H v/\Ref E cs.NoNumber H)
end L2
namespace L2
open PySem PySem.Spec PyProof.Rows
def CDivB(i j:Int):Prop:=0<j/\j<2^200
theorem zJu{X:Cx}:OpR X (binaryOp .FloorDiv) (rI CDivB λi j=> .int (i/j)):=opI λi j _ _ _ _ _ hc q=>by
 have h1:(0:Int)<j:=hc.1;have h2:j<2^200:=hc.2;refine floordiv_int (by omega) (by rw[Int.fdiv_eq_ediv_of_nonneg i (by omega)];exact q) (.inl (PyProof.noPylong_of_log2 ?_));have h3:j.natAbs≠0:=by omega
 have h4:j.natAbs<2^200:=by omega
 exact Nat.lt_trans ((Nat.log2_lt h3).mpr h4) (by decide)
theorem SqL.ty{K:PySem.W.Frag}{H:Hp}{p:Addr}{xs:List V}(h:SqL K H p xs):tyV K "list" (.ref p) H:= .inl ⟨rfl,_,h⟩
end L2
namespace BrS
open L2 PySem BrM BrC BrR
def Po(H:Hp)(p:Addr):Prop:=∃a b c:Int,H p=some (.lst [.int a, .int b, .int c])
theorem Po.same{H H':Hp}{p:Addr}(h:Po H p)(s:Same H H'):Po H' p:=let⟨a,b,c,e⟩:=h;⟨a,b,c,s _ _ e⟩
theorem Po.keep{H H':Hp}{p q:Addr}(h:Po H p)(s:SameBut1 q H H')(n:p≠q):Po H' p:=let⟨a,b,c,e⟩:=h;⟨a,b,c,s _ _ e n⟩
theorem Po.ne{H:Hp}{p q:Addr}(h:Po H p)(hq:H q=none):q≠p:=let⟨_,_,_,e⟩:=h;(zAH e hq).symm
theorem Po.new{H:Hp}{p:Addr}{a b c:Int}:Po (upd H p (.lst [.int a, .int b, .int c])) p:=⟨a,b,c,zAF⟩
def spPoolD(K:PySem.W.Frag):Sp:=λvs H Q _=>∃ (a:Addr) (ns:List Int) (k:Int),vs=[.ref a, .int k]/\SqL K H a (ns.map V.int)/\0<=k/\k<=63/\∀p H',H p=none->Same H H'->Po H' p->Q (.ref p) H'
theorem zDu{K:PySem.W.Frag}{H:Hp}{a:Addr}{ns:List Int}{k:Int}{Q:VK}{E:XK}(hS:SqL K H a (ns.map V.int))(h0:0<=k)(h1:k<=63)(q:∀p H',H p=none->Same H H'->Po H' p->Q (.ref p) H'):spPoolD K ([.ref a, .int k]++[]) H Q E:=
 ⟨a,ns,k,rfl,hS,h0,h1,q⟩
def spDraw:Sp:=λvs H Q _=>∃p m,vs=[.ref p, .int m]/\Po H p/\0<m/\m<2^200/\∀r H',0<=r->r<m->Po H' p->SameBut1 p H H'->Q (.int r) H'
theorem zAo{H:Hp}{p:Addr}{m:Int}{Q:VK}{E:XK}(hp:Po H p)(h0:0<m)(h1:m<2^200)(q:∀r H',0<=r->r<m->Po H' p->SameBut1 p H H'->Q (.int r) H'):spDraw ([.ref p, .int m]++[]) H Q E:=⟨p,m,rfl,hp,h0,h1,q⟩
theorem put1{p a:Addr}{H H':Hp}{o:HO}(s:SameBut1 p H H')(h:H a=none):SameBut1 p H (upd H' a o):=λb u z n=>by rw[zAI (zAH z h)];exact s b u z n
theorem zCV(a:List Nat):(a.map λc=>[c]).flatten=a:=by
 induction a with
 |nil=>rfl
 |cons c r ih=>rw[List.map_cons,List.flatten_cons,ih];rfl
theorem zJ4(l:List (List Nat)):(l.map tx).all flatV=true:=by
 induction l with
 |nil=>rfl
 |cons a r ih=>rw[List.map_cons,List.all_cons,ih];rfl
theorem zIl{n j:Nat}(h:j<n):ixN n (j:Int)=some j:=by
 unfold ixN;simp[h]
def ckd(x:Int):Nat:=(atI [41,93,125,62] x).getD 0
def spRightD:Sp:=λvs H Q _=>∃ (p:Addr) (k h:Int),vs=[.ref p, .int k, .int h]/\Po H p/\1<=k/\k<=4/\0<=h/\h<=20/\
 ∀row H',Rt row->(row.length:Int)=2*h->(∀c∈row,kin k c)->Po H' p->SameBut1 p H H'->Q (tx row) H'
theorem zHW{H:Hp}{p:Addr}{k h:Int}{Q:VK}{E:XK}(hd:Po H p)(h1:1<=k)(h2:k<=4)(h3:0<=h)(h4:h<=20)
 (q:∀row H',Rt row->(row.length:Int)=2*h->(∀c∈row,kin k c)->Po H' p->SameBut1 p H H'->Q (tx row) H'):spRightD ([.ref p, .int k, .int h]++[]) H Q E:=⟨p,k,h,rfl,hd,h1,h2,h3,h4,q⟩
def spRowD:Sp:=λvs H Q _=>∃ (p:Addr) (k h:Int),vs=[.ref p, .int k, .int h]/\Po H p/\1<=k/\k<=4/\0<=h/\h<=20/\
 ∀row H',(row.length:Int)<=2*h+1->(∀c∈row,c∈sgn k)->Po H' p->SameBut1 p H H'->Q (tx row) H'
theorem zJg{H:Hp}{p:Addr}{k h:Int}{Q:VK}{E:XK}(hd:Po H p)(h1:1<=k)(h2:k<=4)(h3:0<=h)(h4:h<=20)
 (q:∀row H',(row.length:Int)<=2*h+1->(∀c∈row,c∈sgn k)->Po H' p->SameBut1 p H H'->Q (tx row) H'):spRowD ([.ref p, .int k, .int h]++[]) H Q E:=⟨p,k,h,rfl,hd,h1,h2,h3,h4,q⟩
def spPlaceE(K:PySem.W.Frag)(cs:Cs):Sp:=λvs H Q E=>∃a v,vs=[tx a,v]/\a.length<=40/\((∃i:Int,v= .int i/\0<=i/\i<a.length/\Q .non H)\/(NoN K 0 ((a.length:Int)-1) H v/\Ref E cs.NoPlace H))
def spCheckFillE(cs:Cs):Sp:=λvs H Q E=>∃H0 s ad n T,vs=[.ref s]/\Tb H0 H s ad n T/\((T 0 n≠0/\Q .non H)\/(T 0 n=0/\Ref E cs.NoFilling H))
end BrS
namespace BrS
open L2 PySem BrM BrC
abbrev En:=List Nat×List Nat
def exB(n at' c:Nat)(e:En)(b:Nat):List En:=
 if c=63\/c=brs.getD b 0 then
  (if b%2=0 then(if e.2.length+at'+1<n then [(e.1++[brs.getD b 0],b/2::e.2)]else [])
   else match e.2 with
    |[]=>[]
    |p::r=>if p=b/2 then [(e.1++[brs.getD b 0],r)]else [])
 else []
def exs(k n at' c:Nat)(e:En):List En:=(List.range (2*k)).flatMap (exB n at' c e)
def fls(k:Nat)(a:List Nat):Nat->List En
 |0=>[([],[])]
 |i+1=>(fls k a i).flatMap (exs k a.length i (a.getD i 0))
def res(k:Nat)(a:List Nat):List (List Nat):=((fls k a a.length).filter λe=>decide (e.2=[])).map (·.1)
theorem zMk{k c b:Nat}(hb:b<2*k)(hk:k<=4):pw k c b=if c=63\/c=brs.getD b 0 then 1 else 0:=by
 by_cases h:c=63
 ·subst h;rw[zKa hb,if_pos (.inl rfl)]
 ·unfold pw plw;rw[if_neg h,List.getD_eq_getElem?_getD,List.getElem?_map,List.getElem?_take];rw[if_pos (show b<(ones k).length by unfold ones;rw[List.length_replicate];exact hb)];have hb8:b<brs.length:=by show b<8;omega
  rw[List.getElem?_eq_getElem hb8];have eg:brs.getD b 0=brs[b]:=by rw[List.getD_eq_getElem?_getD,List.getElem?_eq_getElem hb8];rfl
  rw[eg]
  by_cases h2:c=brs[b]
  ·rw[if_pos (.inr h2)];simp[<-h2]
  ·rw[if_neg (λz=>by rcases z with z|z;exact h z;exact h2 z)];simp[h2]
def sts(t:List Nat):List Nat:=(t.map clc).reverse
inductive Ens (H:Hp):List Addr->List En->Prop
 |nil:Ens H [] []
 |cons {a:Addr} {e:En} {as:List Addr} {es:List En} (h:H a=some (.tup [tx e.1,tx (sts e.2)])) (r:Ens H as es):Ens H (a::as) (e::es)
theorem Ens.len{H:Hp}{as:List Addr}{es:List En}(h:Ens H as es):as.length=es.length:=by
 induction h with
 |nil=>rfl
 |cons _ _ ih=>rw[List.length_cons,List.length_cons,ih]
theorem Ens.get{H:Hp}{as:List Addr}{es:List En}(h:Ens H as es):∀ {i:Nat} {a:Addr},as[i]? =some a->∃e,es[i]? =some e/\H a=some (.tup [tx e.1,tx (sts e.2)]):=by
 induction h with
 |nil=>intro i a z;simp at z
 |cons h r ih=>
  intro i a z
  cases i with
  |zero=>simp at z;subst z;exact⟨_,rfl,h⟩
  |succ i=>simpa using ih (by simpa using z)
theorem Ens.there{H:Hp}{as:List Addr}{es:List En}(h:Ens H as es):∀a∈as,∃o,H a=some o:=by
 induction h with
 |nil=>intro a z;cases z
 |cons h r ih=>
  intro a z;rcases List.mem_cons.mp z with rfl|z
  ·exact⟨_,h⟩
  ·exact ih a z
structure Gr (H1 H':Hp) (lo:Addr) (as:List Addr) (L:List En):Prop where
 fl:H1 lo=none
 sm:Same H1 H'
 at':H' lo=some (.lst (as.map V.ref))
 en:Ens H' as L
 ni:lo∉as
theorem Gr.len{H1 H':Hp}{lo:Addr}{as:List Addr}{L:List En}(g:Gr H1 H' lo as L):as.length=L.length:=g.en.len
end BrS
namespace BrS
open L2 PySem BrM BrC BrR
def gd:V->Bool
 | .int i=>decide (0<=i)
 |_=>false
def Pln(K:PySem.W.Frag)(H:Hp)(v:V):Prop:=∃ty,TyOf K H v (.type ty)/\ty∈plainTy
theorem Pln.same{K:PySem.W.Frag}{H H':Hp}{v:V}(h:Pln K H v)(s:Same H H'):Pln K H' v:=let⟨ty,a,b⟩:=h;⟨ty,a.same s,b⟩
def NoW(K:PySem.W.Frag)(k:Int)(H:Hp)(v:V):Prop:=(∃ty,TyOf K H v (.type ty)/\ty∈plainTy/\ty≠"list")\/
 ∃q xs,v= .ref q/\H q=some (.lst xs)/\xs.length<=1000/\((xs.length:Int)≠2*k\/((∀x∈xs,Pln K H x)/\∃x∈xs,gd x=false))
theorem NoW.same{K:PySem.W.Frag}{k:Int}{H H':Hp}{v:V}(h:NoW K k H v)(s:Same H H'):NoW K k H' v:=by
 rcases h with⟨ty,a,b⟩|⟨q,xs,e,h,l,c⟩
 ·exact .inl ⟨ty,a.same s,b⟩
 ·exact .inr ⟨q,xs,e,s _ _ h,l,c.elim .inl λ⟨a,b⟩=> .inr ⟨λx hx=>(a x hx).same s,b⟩⟩
def GateW(K:PySem.W.Frag)(cs:Cs)(H:Hp)(E:XK)(kv v wv:V):Prop:=Gate K cs H E kv v\/∃ (k:Int) (a:List Nat),kv= .int k/\v=tx a/\1<=k/\k<=4/\isRow k a=true/\NoW K k H wv/\Ref E cs.NoWeights H
def WOk(H:Hp)(k:Int)(v:V)(ws:List Int):Prop:=∃q,v= .ref q/\H q=some (iL ws)/\(ws.length:Int)=2*k/\Sm ws
theorem WOk.same{H H':Hp}{k:Int}{v:V}{ws:List Int}(h:WOk H k v ws)(s:Same H H'):WOk H' k v ws:=let⟨q,a,b,c⟩:=h;⟨q,a,s _ _ b,c⟩
def spCheckW(K:PySem.W.Frag)(cs:Cs):Sp:=λvs H Q E=>∃ (k:Int) (v:V),vs=[.int k,v]/\1<=k/\k<=4/\((∃ws,WOk H k v ws/\∀H',Same H H'->Q .non H')\/(NoW K k H v/\Ref E cs.NoWeights H))
def spChk(K:PySem.W.Frag)(cs:Cs):Sp:=λvs H Q E=>∃kv v wv,vs=[kv,v,wv]/\(GateW K cs H E kv v wv\/∃ (k:Int) (a:List Nat) (ws:List Int),kv= .int k/\v=tx a/\1<=k/\k<=4/\isRow k a=true/\WOk H k wv ws/\
 ∀r H',H r=none->Same H H'->Pls H' r (a.map (plw ws))->Q (.ref r) H')
def wsm(k:Nat)(ws:List Int)(a:List Nat):Int:=cv (PP (a.map (plw ws))) k a.length 0 []
def NoB(K:PySem.W.Frag)(k:Int)(H:Hp)(v:V):Prop:=(∃a,v=tx a/\a.length<=1000/\∀c,a=[c]->c∉brs.take (2*k).toNat)\/∃ty,TyOf K H v (.type ty)/\ty∈plainTy/\ty≠"str"
def spCheckB(K:PySem.W.Frag)(cs:Cs):Sp:=λvs H Q E=>∃ (k:Int) (v:V),vs=[.int k,v]/\1<=k/\k<=4/\((∃c,v=tx [c]/\c∈brs.take (2*k).toNat/\Q .non H)\/(NoB K k H v/\Ref E cs.NoPlace H))
theorem zAe{k:Int}{ws:List Int}{a:List Nat}(h1:1<=k)(hk:k<=4)(hl:(ws.length:Int)=2*k)(hs:Sm ws):∀l∈a.map (plw ws),l.length=2*k.toNat/\Sm l:=λl hl'=>by
 obtain⟨c,_,rfl⟩:=List.mem_map.mp hl';exact⟨by rw[zIP (by omega)];omega,zKc hs c⟩
theorem sm_zero(k:Nat):sm k (λ_=>0)=0:=by
 induction k with
 |zero=>rfl
 |succ k ih=>rw[sm,ih];rfl
theorem zNe{p:Addr}{H:Hp}{v:V}{d:PyData}(h:Sd p H v d)(a:Addr)(e:v= .ref a):a≠p:=by
 subst e
 cases h with
 |sc c=>cases c
 |lst _ n _=>exact n
 |tup _ n _=>exact n
 |dct _ n _=>exact n
theorem zKW{p:Addr}{H:Hp}:∀ {xs:List V} {ds:List PyData},Sds p H xs ds->∀x∈xs,∀a,x= .ref a->a≠p
 |_,_, .nil,_,h=>nomatch h
 |_,_, .cons h t,x,hx=>by
  rcases List.mem_cons.mp hx with rfl|z
  ·exact zNe h
  ·exact zKW t x z
theorem zNS{p q:Addr}{n m:Nat}{H:Hp}{xs:List V}(h:Dt p n m H (.ref q))(e:H q=some (.lst xs)):∀x∈xs,∀a,x= .ref a->a≠p:=by
 obtain⟨d,h,_⟩:=h
 cases h with
 |sc c=>cases c
 |lst h n r=>rw[e]at h;cases h;exact zKW r
 |tup h n r=>rw[e]at h;cases h
 |dct h n r=>rw[e]at h;cases h
theorem Pln.keep{K:PySem.W.Frag}{p:Addr}{H H':Hp}{v:V}(h:Pln K H v)(n:∀a,v= .ref a->a≠p)(s:SameBut1 p H H'):Pln K H' v:=let⟨ty,a,b⟩:=h;⟨ty,a.keep n s,b⟩
theorem NoW.keep{K:PySem.W.Frag}{k:Int}{p:Addr}{n m:Nat}{H H':Hp}{v:V}(h:NoW K k H v)(d:Dt p n m H v)(s:SameBut1 p H H'):NoW K k H' v:=by
 rcases h with⟨ty,a,b⟩|⟨q,xs,rfl,h,l,c⟩
 ·exact .inl ⟨ty,a.keep d.ne s,b⟩
 ·exact .inr ⟨q,xs,rfl,s _ _ h (d.ne q rfl),l,c.elim .inl λ⟨a,b⟩=> .inr ⟨λx hx=>(a x hx).keep (zNS d h x hx) s,b⟩⟩
theorem NoB.keep{K:PySem.W.Frag}{k:Int}{p:Addr}{n m:Nat}{H H':Hp}{v:V}(h:NoB K k H v)(d:Dt p n m H v)(s:SameBut1 p H H'):NoB K k H' v:=h.elim .inl λ⟨ty,a,b⟩=> .inr ⟨ty,a.keep d.ne s,b⟩
def spWts:Sp:=λvs H Q _=>∃ (p:Addr) (k:Int),vs=[.ref p, .int k]/\Po H p/\1<=k/\k<=4/\∀ (q:Addr) (ws:List Int) H',H' q=some (iL ws)->(ws.length:Int)=2*k->(∀w∈ws,0<=w/\w<=10^30)->q≠p->H q=none->Po H' p->SameBut1 p H H'->Q (.ref q) H'
theorem zKv{H:Hp}{p:Addr}{k:Int}{Q:VK}{E:XK}(hp:Po H p)(h1:1<=k)(h2:k<=4)(q:∀ (q:Addr) (ws:List Int) H',H' q=some (iL ws)->(ws.length:Int)=2*k->(∀w∈ws,0<=w/\w<=10^30)->q≠p->H q=none->Po H' p->SameBut1 p H H'->Q (.ref q) H'):spWts ([.ref p, .int k]++[]) H Q E:=⟨p,k,rfl,hp,h1,h2,q⟩
end BrS
namespace L2
open PySem PySem.Spec PyProof.Rows
def ExcOne(x C t0:Addr)(m:Str)(tk:Tok)(h:Heap):Prop:=(∃o vs,h.get? x=some o/\o.cls= .ref C/\o.data= .fields vs/\vs[0]? =some (.ref t0))/\∃o k,h.get? t0=some o/\o.data= .seq (#[.str m tk]) k
theorem ExcOne.at{x C t0:Addr}{m:Str}{tk:Tok}{h:Heap}(e:ExcOne x C t0 m tk h):ExcAt x C h:=let⟨⟨o,vs,a,b,c,_⟩,_⟩:=e;⟨o,vs,a,b,c⟩
section
variable{prog:Program}{w:World}{A:Around}{E:Value->Shared->Prop}{s:Shared}{K:PySem.W.Frag}{x C t0:Addr}{m:Str}{tk:Tok}
end
section
variable{X:Cx}{C:Addr}{x:Str}{e:Expr}{te:TE}{np cpos sp pos:Pos}
end
section
variable{X:Cx}
end
end L2
namespace L2
open PySem PySem.Spec PyProof.Rows BrR
section
variable{σ:St}{H:Hp}{Q:VK}{K:PySem.W.Frag}
end
end L2
namespace BrS
open L2 PySem BrM BrC BrR
end BrS
namespace L2
open PySem PySem.Spec PyProof.Rows
section
variable{X:Cx}{pins:List (Addr×Obj)}{σ:St}{H:Hp}{s:Shared}{a:Addr}
end
section
variable{K:PySem.W.Frag}{g:TG}{tb:TS}{D:Ends}{σ:St}{H:Hp}{Q:VK}
end
section
variable{K:PySem.W.Frag}{σ:St}{H:Hp}{Q:VK}{D:Ends}
theorem zMa{td ty:TE}(h:td σ H λx H1=>ty σ H1 λy H2=>∃a v,x= .ref a/\DGet H2 a y (some v)/\Q v H2):tDGet td ty σ H Q:=h
theorem zLO{td ty tz:TE}(h:td σ H λx H1=>∃a,x= .ref a/\IsD H1 a/\ty σ H1 λy H2=>tz σ H2 λz H3=>∃o,DGet H3 a y o/\Q (o.getD z) H3):tDGet2 td ty tz σ H Q:=h
theorem zMX{td ty tv:TE}(h:tv σ H λv H1=>td σ H1 λx H2=>ty σ H2 λy H3=>∃a H4,x= .ref a/\DPut H3 a y v H4/\D.nx σ H4):sDPut td ty tv D σ H:=h
end
end L2
namespace BrS
open L2 PySem BrM BrC BrR
def Ok4(st:List Nat):Prop:=∀p∈st,p<4
abbrev Es:=List (List Nat×Int)
structure Wf (es:Es):Prop where
 nd:(es.map (·.1)).Nodup
 ok:∀e∈es,Ok4 e.1
 pos:∀e∈es,1<=e.2
theorem Wf.nil:Wf []:=⟨by simp,(λ_ h=>nomatch h),(λ_ h=>nomatch h)⟩
theorem Wf.tail{e:List Nat×Int}{r:Es}(w:Wf (e::r)):Wf r:=⟨(List.nodup_cons.mp w.nd).2,λx h=>w.ok x (List.mem_cons_of_mem _ h),λx h=>w.pos x (List.mem_cons_of_mem _ h)⟩
theorem units1{k:Nat}{A:Around}(r:Room k A):A.units+1<cLine:=by have:=r.un;omega
end BrS
namespace BrT
open PySem
def Rise(a:Array Nat):Prop:=a.toList.Pairwise (· < ·)
theorem Rise.lt{a:Array Nat}(r:Rise a){i j x y:Nat}(hij:i<j)(hx:a[i]? =some x)(hy:a[j]? =some y):x<y:=by
 have hx':a.toList[i]? =some x:=by simpa using hx
 have hy':a.toList[j]? =some y:=by simpa using hy
 obtain⟨hi,rfl⟩:=List.getElem?_eq_some_iff.mp hx';obtain⟨hj,rfl⟩:=List.getElem?_eq_some_iff.mp hy';exact(List.pairwise_iff_getElem.mp r) i j hi hj hij
def Tb(l:Bool)(t:SetTable):Prop:=Rise t.place/\t.led=l
theorem Tb.plain{l:Bool}{t:SetTable}(h:Tb l t):Tb l {t with plain:=false}:=h
end BrT
namespace BrT
open PySem PySem.Spec PyProof.Rows
def keyOf(e:Int×Value):Int:=match e.2 with| .int k _=>k|_=>0
section
variable{prog:Program}{w:World}{A:Around}{E:Value->Shared->Prop}{s:Shared}
def SO(prog:Program)(w:World)(l:Bool)(es:Array (Int×Value))(t:SetTable)(ms:List Int):Prop:=
 ElemsOf (intKind prog w) es.toList/\(es.toList.map keyOf).Nodup/\(∀k,k∈es.toList.map keyOf↔k∈ms)/\es.size<=ms.length/\t.fits es.size=true/\Tb l t
def SI(prog:Program)(w:World)(l:Bool)(h:Heap)(a:Addr)(ms:List Int):Prop:=
 ∃o es ep t,h.get? a=some o/\o.ExactSet/\o.data= .set es ep t/\SO prog w l es t ms
theorem SI.at{l:Bool}{h h':Heap}{a:Addr}{ms:List Int}(i:SI prog w l h a ms)(k:∀o,h.get? a=some o->h'.get? a=some o):SI prog w l h' a ms:=
 let⟨o,es,ep,t,ho,r⟩:=i;⟨o,es,ep,t,k o ho,r⟩
theorem stored{l:Bool}{h:Heap}{a:Addr}{o:Obj}{es es':Array (Int×Value)}{ep:Nat}{t t':SetTable}{ms:List Int}(ho:h.get? a=some o)(hex:o.ExactSet)(hd:o.data= .set es ep t)(i:SO prog w l es' t' ms):
 (h.update a (Obj.putSet es' t')).get? a=some {o with data:= .set es' (ep+1) t'}/\SI prog w l (h.update a (Obj.putSet es' t')) a ms:=by
 have g:=Heap.get?_update_self (Obj.putSet es' t') ho (by rw[putSet_of es' t' hd];rfl);rw[putSet_of es' t' hd]at g;exact⟨g,_,es',ep+1,t',g,hex,rfl,i⟩
def byT(w:World):Bool:=w.params.followText "set-order"
structure It (h:Heap) (I:Addr) (f:Value) (i:Nat) (S:Addr) (n ep:Nat):Prop where
 at_:∃o,h.get? I=some o/\o.cls= .type "set_iterator"/\o.data= .fields #[f, .int i 0, .ref S, .int n 0, .int ep 0]
theorem It.ty{I:Addr}{f:Value}{i:Nat}{S:Addr}{n ep:Nat}(x:It s.heap I f i S n ep):s.TypeIs (.ref I) "set_iterator":=let⟨o,ho,hc,_⟩:=x.at_;⟨o,ho,hc⟩
theorem It.keep{h h':Heap}{I:Addr}{f:Value}{i:Nat}{S:Addr}{n ep:Nat}(x:It h I f i S n ep)(k:∀o,h.get? I=some o->h'.get? I=some o):It h' I f i S n ep:=let⟨o,ho,r⟩:=x.at_;⟨o,k o ho,r⟩
def Seto(h:Heap)(S:Addr)(es:Array (Int×Value))(ep:Nat)(t:SetTable):Prop:=∃o,h.get? S=some o/\o.ExactSet/\o.data= .set es ep t/\t.fits es.size=true
theorem Seto.keep{h h':Heap}{S:Addr}{es:Array (Int×Value)}{ep:Nat}{t:SetTable}(x:Seto h S es ep t)(k:∀o,h.get? S=some o->h'.get? S=some o):Seto h' S es ep t:=let⟨o,ho,r⟩:=x;⟨o,k o ho,r⟩
def slotP(t:SetTable)(i:Nat):Nat:=if i=0 then 0 else t.place.getD (i-1) 0+1
inductive Way (w:World) (S:Addr) (h:Heap) (es:Array (Int×Value)) (ep:Nat) (t:SetTable):(Nat->Value)->List Value->Prop
 |places (hb:byT w=false) (hp:t.plain=true\/es.size<=1) (hl:t.led=true) (r:Rise t.place):Way w S h es ep t (λi=>rawInt (slotP t i:Nat)) (es.toList.map (·.2))
 |text (hb:byT w=true):Way w S h es ep t (λ_=>rawInt (0:Nat)) ((pickOrder (w.params.setOrder S ep) es).toList.map (·.2))
 |draws (T:Addr) (ps:List Nat) (o:Obj) (hT:h.get? T=some o) (hd:∃n,o.data= .seq (ps.map fun(i:Nat)=>rawInt i).toArray n) (hp:ps.Perm (List.range es.size)):Way w S h es ep t (λ_=> .ref T) (ps.map λi=>(es.getD i (0, .none)).2)
theorem Way.at{S:Addr}{h h':Heap}{es:Array (Int×Value)}{ep:Nat}{t:SetTable}{f:Nat->Value}{ys:List Value}(x:Way w S h es ep t f ys)(k:∀T,f 0= .ref T->∀o,h.get? T=some o->h'.get? T=some o):Way w S h' es ep t f ys:=by
 cases x with
 |places hb hp hl r=>exact .places hb hp hl r
 |text hb=>exact .text hb
 |draws T ps o hT hd hp=>exact .draws T ps o (k T rfl o hT) hd hp
end
end BrT
namespace L2
open PySem PySem.Spec PyProof.Rows
section
variable{X:Cx}{e:Expr}{te:TE}{np cpos sp pos:Pos}
end
end L2
namespace BrT
open PySem PySem.Spec PyProof.Rows
section
variable{prog:Program}{w:World}{A:Around}{E:Value->Shared->Prop}{s:Shared}
end
end BrT
namespace L2
open PySem PySem.Spec PyProof.Rows
section
variable{X:Cx}{e:Expr}{te:TE}{np cpos sp pos:Pos}
end
end L2
namespace BrC
variable{P:Nat->Nat->Int}{k:Nat}
theorem zGW:∀ (M m i:Nat),m<=M->cv P k (m+1) i []=sm m λa=>cv P k a i []*pr P k (i+a) (i+m)*cv P k (m-a-1) (i+a+1) []
 |_,0,i,_=>by rw[zFh];rfl
 |0,m+1,i,h=>by omega
 |M+1,m+1,i,h=>by
  rw[zFh,sm,zEg];have e0:pr P k i (i+1+m)*cv P k m (i+1) []*cv P k (m+1-m-1) (i+m+2) []=cv P k 0 i []*pr P k (i+0) (i+(m+1))*cv P k (m+1-0-1) (i+0+1) []:=by
   rw[show m+1-m-1=0 by omega,show i+1+m=i+(m+1) by omega,show m+1-0-1=m by omega,show cv P k 0 (i+m+2) []=1 from rfl,show cv P k 0 i []=1 from rfl];simp
  rw[e0,Int.add_comm];congr 1;have e1:sm m (λe=>pr P k i (i+1+e)*cv P k e (i+1) []*cv P k (m+1-e-1) (i+e+2) [])=sm m (λe=>sm (m-e-1) λb=>(pr P k i (i+1+e)*cv P k e (i+1) []*cv P k (e+1+b-e-1) (i+e+2) [])*(pr P k (i+(e+1+b)+1) (i+(m+1))*cv P k (m-(e+1+b)-1) (i+(e+1+b)+2) [])):=by
   refine zAK m λe he=>?_;rw[show m+1-e-1=(m-e-1)+1 by omega,zGW M (m-e-1) (i+e+2) (by omega),<-zBK];refine zAK _ λb hb=>?_;rw[show e+1+b-e-1=b by omega,show i+e+2+b=i+(e+1+b)+1 by omega,show i+e+2+(m-e-1)=i+(m+1) by omega,show m-e-1-b-1=m-(e+1+b)-1 by omega,show i+(e+1+b)+1+1=i+(e+1+b)+2 by omega];simp only[Int.mul_assoc]
  rw[e1,zH8 (λe q=>(pr P k i (i+1+e)*cv P k e (i+1) []*cv P k (q-e-1) (i+e+2) [])*(pr P k (i+q+1) (i+(m+1))*cv P k (m-q-1) (i+q+2) []))];refine zAK m λq hq=>?_;rw[zB0,<-zFh,show i+(q+1)=i+q+1 by omega,show m+1-(q+1)-1=m-q-1 by omega,show i+q+1+1=i+q+2 by omega,Int.mul_assoc]
theorem zKB(q i:Nat):cv P k (2*(q+1)) i []=sm (q+1) λa=>cv P k (2*a) i []*pr P k (i+2*a) (i+2*q+1)*cv P k (2*(q-a)) (i+2*a+1) []:=by
 rw[show 2*(q+1)=(2*q+1)+1 by omega,zGW _ _ _ (Nat.le_refl _),zEh]
 ·rw[show(2*q+1+1)/2=q+1 by omega];refine zAK _ λa ha=>?_;rw[show i+(2*q+1)=i+2*q+1 by omega,show 2*q+1-2*a-1=2*(q-a) by omega]
 ·intro a _ h;rw[zD7 a i [] (by simpa using h)];simp
end BrC
namespace L2
open PySem PySem.Spec PyProof.Rows BrR
section
variable{σ:St}{H:Hp}{Q:VK}{K:PySem.W.Frag}
end
end L2
namespace BrS
open L2 PySem BrM BrC BrR
def F14(k:Nat)(a:List Nat)(b e:Nat):Int:=cv (PP (a.map (plw (ones k)))) k (e-b) b []
def ky(b e:Nat):List Key:=[.inl (b:Int), .inl (e:Int)]
theorem ky_inj{b e b' e':Nat}:ky b e=ky b' e'↔b=b'/\e=e':=by
 unfold ky
 constructor
 ·intro h;injection h with h1 h2
  injection h2 with h2 _
  injection h1 with h1
  injection h2 with h2
  omega
 ·rintro⟨rfl,rfl⟩;rfl
def DW(k:Nat)(a:List Nat)(kvs:List (List Key×V))(E q:Nat):Prop:=
 (∀b e:Nat,valV kvs (ky b e)=if b<=e/\(e-b)%2=0/\(e<E\/(e=E/\E<b+2*q))then some (.int (F14 k a b e))else none)/\kvs.length<=E*41+q
theorem DW.get{k:Nat}{a:List Nat}{kvs:List (List Key×V)}{E q b e:Nat}(h:DW k a kvs E q)(h1:b<=e)(h2:(e-b)%2=0)(h3:e<E\/(e=E/\E<b+2*q)):valV kvs (ky b e)=some (.int (F14 k a b e)):=by
 rw[h.1,if_pos ⟨h1,h2,h3⟩]
theorem DW.at{k:Nat}{a:List Nat}{kvs:List (List Key×V)}{E q b e:Nat}{H:Hp}{d T:Addr}(h:DW k a kvs E q)(gd:H d=some (.dT kvs))(hT:H T=none)(h1:b<=e)(h2:(e-b)%2=0)(h3:e<E):DGet (upd H T (.tup [.int (b:Int), .int (e:Int)])) d (.ref T) (some (.int (F14 k a b e))):=by
 rw[<-h.get h1 h2 (.inl h3)];exact DGet.t (k:=ky b e) (by rw[zAI (zAH gd hT)];exact gd) zAF
theorem DW.zero{k:Nat}{a:List Nat}:DW k a [] 0 0:=⟨λb e=>by rw[zJY,if_neg (by omega)],by simp⟩
end BrS
namespace L2
open PySem PySem.Spec PyProof.Rows
section
variable{X:Cx}{k:Nat}{C:Addr}{m x:Str}{ps:List Str}{sp:Sp}{e o value:Expr}{es:List Expr}{ta tv:TE}{t:TA}{p pos apos pos' tpos:Pos}{f:Str}
end
section
variable{σ:St}{H:Hp}{Q:VK}{K:PySem.W.Frag}{D:Ends}{C:Addr}{m f:Str}{sp:Sp}{E:XK}{ta tv:TE}{t:TA}{rd:V->V->Hp->VK->Prop}
end
section
variable{X:Cx}
end
end L2
namespace BrS
open L2 PySem BrM BrC BrR
abbrev pa_(k:Nat)(a:List Nat):Nat->Nat->Int:=PP (a.map (plw (ones k)))
def W(k:Nat)(a:List Nat)(i:Nat)(st:List Nat):Int:=cv (pa_ k a) k (a.length-i) i st
def rowW(k:Nat)(a:List Nat)(st:List Nat):List Int:=(List.range (a.length+1)).map λi=>W k a i st
theorem zNb{k:Nat}{a:List Nat}(hk:k<=4)(ha:a.length<=40)(i:Nat)(st:List Nat):0<=W k a i st/\W k a i st<=cap:=zDX hk (λl hl=>(zB5 hk l hl).2) (by omega) i st
def clsV(st:List Nat):List V:=st.reverse.map λp:Nat=>V.int (2*(p:Int)+1)
def cf(pl sm cl rs:Addr)(at':Int):List (Str×V):=[("places", .ref pl),("sums", .ref sm),("at", .int at'),("closings", .ref cl),("rests", .ref rs)]
structure CoS (C:Addr) (H0 H:Hp) (co:Addr) (k:Nat) (a:List Nat) (at':Nat) (st:List Nat) (dx pl sm cl rs:Addr) (Hz Hb:Hp) (ad:Nat->Addr) (ra:List Addr):Prop where
 ob:H co=some (.ins C dx (cf pl sm cl rs at'))
 pls:Pls Hb pl (a.map (plw (ones k)))
 tb:Tb Hz Hb sm ad a.length (tbl (pa_ k a) k)
 keep:SameBut1 co Hb H
 nco:∀xs,Hb co≠some (.lst xs)
 ncl:Hb cl=none
 nrs:Hb rs=none
 ne:cl≠rs
 clo:H cl=some (.lst (clsV st))
 res:H rs=some (.lst (ra.map V.ref))
 ral:ra.length=st.length+1
 rows:∀ (j:Nat) x,ra[j]? =some x->H x=some (iL (rowW k a (st.drop (st.length-j))))/\x≠cl/\x≠rs
 h0:Same H0 H
 h0co:H0 co=none
 h0cl:H0 cl=none
 h0rs:H0 rs=none
 len:a.length<=40
 hk:k<=4
section
variable{C:Addr}{H0 H:Hp}{co:Addr}{k:Nat}{a:List Nat}{at':Nat}{st:List Nat}{dx pl sm cl rs:Addr}{Hz Hb:Hp}{ad:Nat->Addr}{ra:List Addr}
theorem CoS.lst(c:CoS C H0 H co k a at' st dx pl sm cl rs Hz Hb ad ra){b:Addr}{xs:List V}(h:Hb b=some (.lst xs)):H b=some (.lst xs):=c.keep _ _ h λz=>c.nco xs (by rw[<-z];exact h)
theorem CoS.top(c:CoS C H0 H co k a at' st dx pl sm cl rs Hz Hb ad ra):∃x,atI (ra.map V.ref) (-1)=some (.ref x)/\H x=some (iL (rowW k a st)):=by
 obtain⟨x,hx⟩:∃x,ra[st.length]? =some x:=⟨_,List.getElem?_eq_getElem (by rw[c.ral];omega)⟩;refine⟨x,zGf (by rw[List.length_map,c.ral];omega) (by rw[List.length_map,c.ral,List.getElem?_map,Nat.add_sub_cancel,hx];rfl),?_⟩;have:=(c.rows _ x hx).1;rwa[Nat.sub_self,List.drop_zero]at this
end
def mw(k:Nat)(a:List Nat)(i:Nat)(st:List Nat)(b:Nat):Int:=if b%2=0 then pa_ k a i b*W k a (i+1) (b/2::st)else match st with|[]=>0|o::s'=>if 2*o+1=b then pa_ k a i b*W k a (i+1) s' else 0
def stb(st:List Nat)(b:Nat):List Nat:=if b%2=0 then b/2::st else st.tail
end BrS
namespace L2
open PySem PySem.Spec PyProof.Rows
end L2
namespace BrS
open L2 PySem BrM BrC BrR
theorem zKf{k:Nat}{a:List Nat}(hk:k<=4)(i b:Nat):0<=pa_ k a i b/\pa_ k a i b<=top30:=zAW (λl hl=>(zB5 hk l hl).2) i b
theorem zMz{k:Nat}{a:List Nat}(hk:k<=4){i b:Nat}(hi:i<a.length):pa_ k a i b=0\/pa_ k a i b=1:=by
 show((a.map (plw (ones k))).getD i []).getD b 0=0\/((a.map (plw (ones k))).getD i []).getD b 0=1;rw[List.getD_eq_getElem?_getD (l:=a.map (plw (ones k))),List.getElem?_map,List.getElem?_eq_getElem hi];show(plw (ones k) a[i]).getD b 0=0\/(plw (ones k) a[i]).getD b 0=1;unfold plw;rw[List.getD_eq_getElem?_getD]
 split
 ·cases e:(ones k)[b]? with
  |none=>exact .inl rfl
  |some v=>
   have:=List.mem_of_getElem? e;rw[List.eq_of_mem_replicate this];exact .inr rfl
 ·rw[List.getElem?_map]
  cases e:(brs.take (ones k).length)[b]? with
  |none=>exact .inl rfl
  |some v=>
   show(if a[i]=v then(1:Int)else 0)=0\/(if a[i]=v then(1:Int)else 0)=1
   split
   ·exact .inr rfl
   ·exact .inl rfl
section
variable{C:Addr}{H0 H:Hp}{co:Addr}{k:Nat}{a:List Nat}{i:Nat}{st:List Nat}{dx pl sm cl rs:Addr}{Hz Hb:Hp}{ad:Nat->Addr}{ra:List Addr}
theorem CoS.nl(c:CoS C H0 H co k a i st dx pl sm cl rs Hz Hb ad ra){b:Addr}{xs:List V}(h:H b=some (.lst xs)):b≠co:=λz=>by rw[z,c.ob]at h;cases h
theorem CoS.at(c:CoS C H0 H co k a i st dx pl sm cl rs Hz Hb ad ra)(j:Nat):CoS C H0 (upd H co (.ins C dx (cf pl sm cl rs j))) co k a j st dx pl sm cl rs Hz Hb ad ra:=
 {ob:=zAF,pls:=c.pls,tb:=c.tb,keep:=c.keep.trans SameBut1.upd,nco:=c.nco,ncl:=c.ncl,nrs:=c.nrs,ne:=c.ne
  clo:=by rw[zAI (c.nl c.clo)];exact c.clo
  res:=by rw[zAI (c.nl c.res)];exact c.res
  ral:=c.ral
  rows:=λn x hx=>⟨by rw[zAI (c.nl (c.rows n x hx).1)];exact(c.rows n x hx).1,(c.rows n x hx).2⟩
  h0:=λb o z=>by rw[zAI (zAH z c.h0co)];exact c.h0 _ _ z
  h0co:=c.h0co,h0cl:=c.h0cl,h0rs:=c.h0rs,len:=c.len,hk:=c.hk}
theorem CoS.two(c:CoS C H0 H co k a i st dx pl sm cl rs Hz Hb ad ra)(st':List Nat)(ra':List Addr)(hl:ra'.length=st'.length+1)
 (hr:∀ (j:Nat) x,ra'[j]? =some x->H x=some (iL (rowW k a (st'.drop (st'.length-j))))/\x≠cl/\x≠rs):
 CoS C H0 (upd (upd H rs (.lst (ra'.map V.ref))) cl (.lst (clsV st'))) co k a i st' dx pl sm cl rs Hz Hb ad ra':=
 {ob:=by rw[zAI (c.nl c.clo).symm,zAI (c.nl c.res).symm];exact c.ob
  pls:=c.pls,tb:=c.tb
  keep:=λb o z hb=>by rw[zAI (zAH z c.ncl),zAI (zAH z c.nrs)];exact c.keep _ _ z hb
  nco:=c.nco,ncl:=c.ncl,nrs:=c.nrs,ne:=c.ne
  clo:=zAF
  res:=by rw[zAI c.ne.symm,zAF]
  ral:=hl
  rows:=λj x hx=>by
   obtain⟨h1,h2,h3⟩:=hr j x hx;exact⟨by rw[zAI h2,zAI h3];exact h1,h2,h3⟩
  h0:=λb o z=>by rw[zAI (zAH z c.h0cl),zAI (zAH z c.h0rs)];exact c.h0 _ _ z
  h0co:=c.h0co,h0cl:=c.h0cl,h0rs:=c.h0rs,len:=c.len,hk:=c.hk}
theorem CoS.push(c:CoS C H0 H co k a i st dx pl sm cl rs Hz Hb ad ra){D:Addr}{p:Nat}(hD:H D=some (iL (rowW k a (p::st))))(n1:D≠cl)(n2:D≠rs):
 CoS C H0 (upd (upd H rs (.lst ((ra++[D]).map V.ref))) cl (.lst (clsV (p::st)))) co k a i (p::st) dx pl sm cl rs Hz Hb ad (ra++[D]):=by
 refine c.two (p::st) (ra++[D]) (by rw[List.length_append,c.ral];rfl) λj x hx=>?_
 by_cases h:j<ra.length
 ·rw[List.getElem?_append_left h]at hx;obtain⟨h1,h2⟩:=c.rows j x hx;refine⟨?_,h2⟩;have hr:=c.ral;rw[h1,List.length_cons,show st.length+1-j=(st.length-j)+1 by omega,List.drop_succ_cons]
 ·rw[List.getElem?_append_right (by omega)]at hx;have hj:j=ra.length:=by
   have:=(List.getElem?_eq_some_iff.mp hx).1;simp at this;omega
  subst hj;rw[Nat.sub_self]at hx;have hx:D=x:=Option.some.inj hx;subst hx;rw[c.ral,List.length_cons,Nat.sub_self,List.drop_zero];exact⟨hD,n1,n2⟩
end
theorem zFb{k:Nat}{a:List Nat}(hk:k<=4)(ha:a.length<=40)(i:Nat)(st:List Nat)(b:Nat):0<=mw k a i st b:=by
 unfold mw
 split
 ·exact Int.mul_nonneg (zKf hk _ _).1 (zNb hk ha _ _).1
 ·cases st with
  |nil=>exact Int.le_refl _
  |cons o s'=>
   show 0<=(if 2*o+1=b then pa_ k a i b*W k a (i+1) s' else 0)
   split
   ·exact Int.mul_nonneg (zKf hk _ _).1 (zNb hk ha _ _).1
   ·exact Int.le_refl _
def cwq(k:Nat)(a:List Nat)(i:Nat):List Nat->Nat->Int
 |[],_=>0
 |o::s',p=>if o=p then pa_ k a i (2*p+1)*W k a (i+1) s' else 0
theorem zNB{k:Nat}{a:List Nat}{i:Nat}{st:List Nat}(hi:i<a.length)(hst:∀o∈st,o<k):sm (2*k) (mw k a i st)=W k a i st:=by
 rw[zGq];have e1:∀p,mw k a i st (2*p)=pa_ k a i (2*p)*W k a (i+1) (p::st):=λp=>by
  unfold mw;rw[if_pos (by omega),show 2*p/2=p by omega]
 have e2:∀p,mw k a i st (2*p+1)=cwq k a i st p:=λp=>by
  unfold mw;rw[if_neg (by omega)]
  cases st with
  |nil=>rfl
  |cons o s'=>
   show(if 2*o+1=2*p+1 then _ else _)=(if o=p then _ else _)
   by_cases h:o=p
   ·rw[if_pos h,if_pos (by omega)]
   ·rw[if_neg h,if_neg (by omega)]
 obtain⟨m,hm⟩:∃m,a.length-i=m+1:=⟨a.length-i-1,by omega⟩;have hm2:a.length-(i+1)=m:=by omega
 rw[zAK k λp _=>by rw[e1,e2],zCp];unfold W;rw[hm,hm2]
 cases st with
 |nil=>rw[zBu,BrC.sm_zero (f:=λi_1=>cwq k a i [] i_1) k (λ_ _=>rfl),Int.add_zero]
 |cons o s'=>
  rw[zBM];congr 1;have ho:=hst o List.mem_cons_self;rw[zCa (f:=λi_1=>cwq k a i (o::s') i_1) ho]
  ·show(if o=o then pa_ k a i (2*o+1)*W k a (i+1) s' else 0)=_;rw[if_pos rfl];unfold W;rw[hm2]
  ·intro j hj hne;show(if o=j then _ else _)=(0:Int);rw[if_neg (λz=>hne z.symm)]
def NF(k:Nat)(a:List Nat):Nat->List Nat->Int->List Nat->Prop
 |i,_,l,[]=>i=a.length/\l=0
 |i,st,l,b::bs=>b<2*k/\sm b (mw k a i st)<=l/\l<sm (b+1) (mw k a i st)/\NF k a (i+1) (stb st b) (l-sm b (mw k a i st)) bs
def brt(bs:List Nat):List Nat:=bs.map λb=>brs.getD b 0
theorem zKC{k:Nat}{a:List Nat}(hk:k<=4)(ha:a.length<=40)(i:Nat)(st:List Nat){b c:Nat}(h:b<=c):sm b (mw k a i st)<=sm c (mw k a i st):=by
 induction c with
 |zero=>rw[show b=0 by omega];exact Int.le_refl _
 |succ c ih=>
  by_cases e:b=c+1
  ·rw[e];exact Int.le_refl _
  ·have h1:=ih (by omega);have h2:=zFb hk ha i st c;show _<=sm c (mw k a i st)+mw k a i st c;omega
theorem zNA{k:Nat}{a:List Nat}(hk:k<=4)(ha:a.length<=40){i:Nat}(hi:i<a.length){st:List Nat}{b:Nat}(hst:∀o∈st,o<k)(hb:b<2*k)(h:0<mw k a i st b):mw k a i st b=W k a (i+1) (stb st b)/\(b%2=1->st≠[])/\(∀o∈stb st b,o<k)/\(stb st b).length<=st.length+1:=by
 have h01:pa_ k a i b≠0->pa_ k a i b=1:=λz=>(zMz hk hi).resolve_left z
 by_cases hev:b%2=0
 ·have e:mw k a i st b=pa_ k a i b*W k a (i+1) (b/2::st):=by unfold mw;rw[if_pos hev]
  have es:stb st b=b/2::st:=by unfold stb;rw[if_pos hev]
  rw[e]at h⊢;have h1:=h01 λz=>by rw[z,Int.zero_mul]at h;exact absurd h (Int.lt_irrefl _)
  rw[es,h1,Int.one_mul];refine⟨rfl,by omega,λo ho=>?_,by simp⟩;rcases List.mem_cons.mp ho with z|z
  ·omega
  ·exact hst o z
 ·have es:stb st b=st.tail:=by unfold stb;rw[if_neg hev]
  rw[es]
  cases st with
  |nil=>
   unfold mw at h;rw[if_neg hev]at h;exact absurd h (Int.lt_irrefl _)
  |cons o s'=>
   have e:mw k a i (o::s') b=if 2*o+1=b then pa_ k a i b*W k a (i+1) s' else 0:=by unfold mw;rw[if_neg hev]
   rw[e]at h⊢
   by_cases ho:2*o+1=b
   ·rw[if_pos ho]at h⊢;have h1:=h01 λz=>by rw[z,Int.zero_mul]at h;exact absurd h (Int.lt_irrefl _)
    rw[h1,Int.one_mul];exact⟨rfl,λ_=>by simp,λx hx=>hst x (List.mem_cons_of_mem _ hx),by simp;omega⟩
   ·rw[if_neg ho]at h;exact absurd h (Int.lt_irrefl _)
theorem zNa(k:Nat)(a:List Nat)(st:List Nat):W k a a.length st=if st=[]then 1 else 0:=by
 unfold W;rw[Nat.sub_self]
 cases st<;>rfl
def num(k:Nat)(a:List Nat):Nat->List Nat->List Nat->Int
 |_,_,[]=>0
 |i,st,b::bs=>sm b (mw k a i st)+num k a (i+1) (stb st b) bs
theorem NF.num{k:Nat}{a:List Nat}:∀ {bs:List Nat} {i:Nat} {st:List Nat} {l:Int},NF k a i st l bs->num k a i st bs=l
 |[],_,_,_,h=>h.2.symm
 |b::bs,i,st,l,h=>by
  have:=NF.num h.2.2.2;show sm b (mw k a i st)+BrS.num k a (i+1) (stb st b) bs=l;omega
def Fi(k:Nat)(a:List Nat):Nat->List Nat->List Nat->Prop
 |i,st,[]=>i=a.length/\st=[]
 |i,st,b::bs=>b<2*k/\pa_ k a i b=1/\(b%2=1->∃s',st=b/2::s')/\Fi k a (i+1) (stb st b) bs
theorem Fi.len{k:Nat}{a:List Nat}:∀ {bs:List Nat} {i:Nat} {st:List Nat},Fi k a i st bs->i+bs.length=a.length
 |[],_,_,h=>h.1
 |b::bs,i,st,h=>by
  have:=Fi.len h.2.2.2;rw[List.length_cons];omega
theorem Fi.pos{k:Nat}{a:List Nat}(hk:k<=4)(ha:a.length<=40):∀ {bs:List Nat} {i:Nat} {st:List Nat},(∀o∈st,o<k)->Fi k a i st bs->NF k a i st (BrS.num k a i st bs) bs/\0<=BrS.num k a i st bs/\BrS.num k a i st bs<W k a i st
 |[],i,st,hst,h=>by
  obtain⟨h1,h2⟩:=h;subst h1 h2;refine⟨⟨rfl,rfl⟩,Int.le_refl _,?_⟩;rw[zNa,if_pos rfl];exact Int.zero_lt_one
 |b::bs,i,st,hst,h=>by
  obtain⟨h1,h2,h3,h4⟩:=h;have hi:i<a.length:=by have:=Fi.len h4;omega
  have hst':∀o∈stb st b,o<k:=by
   unfold stb
   split
   ·intro o ho;rcases List.mem_cons.mp ho with z|z
    ·omega
    ·exact hst o z
   ·intro o ho;exact hst o (List.mem_of_mem_tail ho)
  obtain⟨g1,g2,g3⟩:=Fi.pos hk ha hst' h4;have ew:mw k a i st b=W k a (i+1) (stb st b):=by
   unfold mw stb
   by_cases hev:b%2=0
   ·rw[if_pos hev,if_pos hev,h2,Int.one_mul]
   ·obtain⟨s',rfl⟩:=h3 (by omega);rw[if_neg hev,if_neg hev];show(if 2*(b/2)+1=b then pa_ k a i b*W k a (i+1) s' else 0)=_;rw[if_pos (by omega),h2,Int.one_mul]
    rfl
  have hs:sm (b+1) (mw k a i st)=sm b (mw k a i st)+mw k a i st b:=rfl;have h0:0<=sm b (mw k a i st):=zAy b λj _=>zFb hk ha i st j;have en:BrS.num k a i st (b::bs)=sm b (mw k a i st)+BrS.num k a (i+1) (stb st b) bs:=rfl;have hm:=zKC hk ha i st (show b+1<=2*k by omega);rw[zNB hi hst]at hm;rw[en];refine⟨⟨h1,by omega,by omega,?_⟩,by omega,by omega⟩;rw[show sm b (mw k a i st)+BrS.num k a (i+1) (stb st b) bs-sm b (mw k a i st)=BrS.num k a (i+1) (stb st b) bs by omega];exact g1
theorem NF.fl{k:Nat}{a:List Nat}(hk:k<=4)(ha:a.length<=40):∀ {bs:List Nat} {i:Nat} {st:List Nat} {l:Int},i+bs.length=a.length->(∀o∈st,o<k)->0<=l->l<W k a i st->NF k a i st l bs->Fi k a i st bs
 |[],i,st,l,hn,hst,l0,l1,h=>by
  have e:i=a.length:=h.1;subst e;rw[zNa]at l1;refine⟨rfl,?_⟩
  by_cases z:st=[]
  ·exact z
  ·rw[if_neg z]at l1;omega
 |b::bs,i,st,l,hn,hst,l0,l1,h=>by
  obtain⟨h1,h2,h3,h4⟩:=h;rw[List.length_cons]at hn;have hi:i<a.length:=by omega
  have hs:sm (b+1) (mw k a i st)=sm b (mw k a i st)+mw k a i st b:=rfl;obtain⟨ew,hodd,hst',_⟩:=zNA hk ha hi hst h1 (by omega);have hp:0<mw k a i st b:=by omega
  refine⟨h1,(zMz hk hi).resolve_left λz=>?_,λho=>?_,NF.fl hk ha (by omega) hst' (by omega) (by omega) h4⟩
  ·unfold mw at hp;rw[z]at hp
   split at hp
   ·rw[Int.zero_mul]at hp;omega
   ·cases st with
    |nil=>exact absurd hp (Int.lt_irrefl _)
    |cons o s'=>
     have hp:0<(if 2*o+1=b then 0*W k a (i+1) s' else 0):=hp
     split at hp
     ·rw[Int.zero_mul]at hp;omega
     ·omega
  ·cases st with
   |nil=>exact absurd rfl (hodd ho)
   |cons o s'=>
    unfold mw at hp;rw[if_neg (by omega)]at hp;have hp:0<(if 2*o+1=b then pa_ k a i b*W k a (i+1) s' else 0):=hp
    split at hp
    ·rename_i e
     exact⟨s',by rw[show b/2=o by omega]⟩
    ·omega
end BrS
namespace L2
open PySem PySem.Spec PyProof.Rows
def fnd(l:List Nat)(c:Nat):Int:=Txt.find ⟨l.toArray⟩ ⟨#[c]⟩
end L2
namespace BrS
open L2 PySem BrM BrC BrR
theorem zLw:∀b,b<8->fnd brs (brs.getD b 0)=b:=by decide +kernel
end BrS
namespace PySem.SeqAt
open AutoSeq1 (wpAny_loadPart')
open MeetsSeq MeetsSeq2 MeetsSeq3 SeqRoads2
section
variable{prog:Program}{w:World}{A:Around}{E:Value->Shared->Prop}{s:Shared}
end
end PySem.SeqAt
namespace L2
open PySem PySem.Spec PyProof.Rows BrS
end L2
namespace PySem
open Sem (wp)
structure ZAp (z TI TO i1 i2:Addr) (fp1 fp2:List Addr):Prop where
 TIz:TI≠z
 TOz:TO≠z
 TITO:TI≠TO
 TIi1:TI≠i1
 TIi2:TI≠i2
 z1:z∉fp1
 z2:z∉fp2
 o1:TO∉fp1
 o2:TO∉fp2
 a12:i1∉fp2
 a21:i2∉fp1
 m1:i1∈fp1
 m2:i2∈fp2
section
variable{prog:Program}{w:World}{A:Around}{E:Value->Shared->Prop}{s:Shared}
variable{z TI TO i1 i2:Addr}{fp1 fp2:List Addr}{n1 n2 i:Nat}{P1 P2:Nat->Value->Prop}{S1 S2:Nat->Heap->Prop}{a b:Value}
theorem ZAp.i1z(D:ZAp z TI TO i1 i2 fp1 fp2):i1≠z:=λe=>D.z1 (e▸D.m1)
theorem ZAp.i2z(D:ZAp z TI TO i1 i2 fp1 fp2):i2≠z:=λe=>D.z2 (e▸D.m2)
theorem ZAp.i1o(D:ZAp z TI TO i1 i2 fp1 fp2):i1≠TO:=λe=>D.o1 (e▸D.m1)
theorem ZAp.i2o(D:ZAp z TI TO i1 i2 fp1 fp2):i2≠TO:=λe=>D.o2 (e▸D.m2)
theorem Draws.but{it c:Addr}{fp:List Addr}{n:Nat}{P:Nat->Value->Prop}{S:Nat->Heap->Prop}{h h':Heap}(D:Draws prog w A it fp n P S)(st:S i h)(k:Heap.ExtBut c h h')(hc:c∉fp):S i h':=D.frame _ _ _ st λx hx o e=>k x o (λq=>hc (q▸hx)) e
theorem zEC{Q:Value->Shared->Prop}(D:ZAp z TI TO i1 i2 fp1 fp2)(D1:Draws prog w A i1 fp1 n1 P1 S1)(D2:Draws prog w A i2 fp2 n2 P2 S2)
 (hz:IsZip s.heap z TI TO .none) (hTI:IsPair s.heap TI (.ref i1) (.ref i2)) (hTO:IsPair s.heap TO a b) (h1:S1 i s.heap) (h2:S2 i s.heap) (l1:i<n1) (l2:i<n2)
 (hQ:∀x y h' tk,P1 i x->P2 i y->IsZip h' z TI TO (rawInt s.heap.objs.size)->IsPair h' TO x y->S1 (i+1) h'->S2 (i+1) h'->IsPair h' s.heap.objs.size x y->h'.objs.size=s.heap.objs.size+1->
   (∀c o,c≠z->c≠TO->c≠i1->c≠i2->s.heap.get? c=some o->h'.get? c=some o)->Q (.ref s.heap.objs.size) {s with heap:=h',toks:=tk}):
 wpAny (model prog w) A (Builtin.«zip.__next__» ⟨[.ref z],[]⟩) (λfin s'=>∃v,fin= .done (.ret v)/\Q v s') E s:=by
 obtain⟨hp,g,d,tk₀,os⟩:=s;show wpAny _ _ (field (.ref z) 2>>=_) _ _ _;refine wpAny_bind (wpAny_field hz rfl (x:= .bool false) rfl ?_);show wpAny _ _ (field (.ref z) 3>>=_) _ _ _;refine wpAny_bind (wpAny_field hz rfl (x:= .ref TI) rfl ?_);refine wpAny_bind (wpAny_seqItems hTI rfl ?_);show wpAny _ _ (Builtin.SmallTypes.ownedTupleIsFree (.ref z)>>=_) _ _ _;refine wpAny_bind ?_;unfold Builtin.SmallTypes.ownedTupleIsFree;refine wpAny_bind (wpAny_field hz rfl (x:= .none) rfl (wpAny_pure ?_));simp only[if_true];refine wpAny_bind (wpAny_rule ?_);refine wpAny_bind (wpAny_field hz rfl (x:= .ref TO) rfl ?_);refine wpAny_bind (wpAny_setField_rec hz (by simp) λh₁ hz₁ hs₁=>?_)
 replace hz₁:IsZip h₁ z TI TO .ellipsis:=hz₁
 replace hs₁:Heap.SameBut z hp h₁:=hs₁
 refine wpAny_bind ?_;simp only[List.zipIdx_cons,List.zipIdx_nil,List.forIn_cons,List.forIn_nil];refine wpAny_bind (wpAny_bind (wpAny_onRaise ?_));show wpAny _ _ (Builtin.SmallTypes.nextOf (.ref i1)>>=_) _ _ _;refine wpAny_bind (D1.item i _ _ _ l1 (D1.but h1 hs₁.extBut D.z1) λx h₂ tk₂ hx h1₂ hs₂=>wpAny_pure ?_)
 replace hs₂:Heap.SameBut i1 h₁ h₂:=hs₂
 have hTO₂:IsPair h₂ TO a b:=hs₂.extBut _ _ D.i1o.symm (hs₁.extBut _ _ D.TOz hTO);refine wpAny_bind (wpAny_seqItems hTO₂ rfl ?_);refine wpAny_bind (wpAny_updateSeq_pair hTO₂ λh₃ hTO₃ hs₃=>?_)
 replace hTO₃:IsPair h₃ TO x b:=hTO₃
 replace hs₃:Heap.SameBut TO h₂ h₃:=hs₃
 refine wpAny_bind (wpAny_letGo (wpAny_pure ?_));refine wpAny_bind (wpAny_bind (wpAny_onRaise ?_));show wpAny _ _ (Builtin.SmallTypes.nextOf (.ref i2)>>=_) _ _ _;refine wpAny_bind (D2.item i _ _ _ l2 (D2.but (D2.but (D2.but h2 hs₁.extBut D.z2) hs₂.extBut D.a12) hs₃.extBut D.o2) λy h₄ tk₄ hy h2₄ hs₄=>wpAny_pure ?_)
 replace hs₄:Heap.SameBut i2 h₃ h₄:=hs₄
 have hTO₄:IsPair h₄ TO x b:=hs₄.extBut _ _ D.i2o.symm hTO₃;refine wpAny_bind (wpAny_seqItems hTO₄ rfl ?_);refine wpAny_bind (wpAny_updateSeq_pair hTO₄ λh₅ hTO₅ hs₅=>?_)
 replace hTO₅:IsPair h₅ TO x y:=hTO₅
 replace hs₅:Heap.SameBut TO h₄ h₅:=hs₅
 refine wpAny_bind (wpAny_letGo (wpAny_pure (wpAny_pure ?_)));refine wpAny_bind (wpAny_seqItems hTO₅ rfl ?_);refine wpAny_bind (wpAny_newTuple ?_);have hsz:h₅.objs.size=hp.objs.size:=by rw[hs₅.1,hs₄.1,hs₃.1,hs₂.1,hs₁.1]
 have hz₅:IsZip h₅ z TI TO .ellipsis:=hs₅.extBut _ _ D.TOz.symm (hs₄.extBut _ _ D.i2z.symm (hs₃.extBut _ _ D.TOz.symm (hs₂.extBut _ _ D.i1z.symm hz₁)));have hk₅:∀c o,c≠z->c≠TO->c≠i1->c≠i2->hp.get? c=some o->h₅.get? c=some o:=λc o c1 c2 c3 c4 e=>
  hs₅.extBut _ _ c2 (hs₄.extBut _ _ c4 (hs₃.extBut _ _ c2 (hs₂.extBut _ _ c3 (hs₁.extBut _ _ c1 e))))
 have h1₅:S1 (i+1) h₅:=D1.but (D1.but (D1.but h1₂ hs₃.extBut D.o1) hs₄.extBut D.a21) hs₅.extBut D.o1;have h2₅:S2 (i+1) h₅:=D2.but h2₄ hs₅.extBut D.o2;have hzlt:z<h₅.objs.size:=Heap.lt_size hz₅;show wpAny _ _ (Builtin.SmallTypes.ownedTupleHandOut (.ref z) (.ref h₅.objs.size)>>=_) _ _ _;refine wpAny_bind ?_;unfold Builtin.SmallTypes.ownedTupleHandOut;have hz₆:IsZip (h₅.push {cls:= .type "tuple",data:= .seq #[x,y]}) z TI TO .ellipsis:=Heap.get?_push_of_some _ hz₅;refine wpAny_bind (wpAny_setField_rec hz₆ (by simp) λh₇ hz₇ hs₇=>?_)
 replace hz₇:IsZip h₇ z TI TO (rawInt h₅.objs.size):=hz₇
 replace hs₇:Heap.SameBut z (h₅.push {cls:= .type "tuple",data:= .seq #[x,y]}) h₇:=hs₇
 refine wpAny_setField_rec hz₇ (by simp) λh₈ hz₈ hs₈=>?_
 replace hz₈:IsZip h₈ z TI TO (rawInt h₅.objs.size):=hz₈
 replace hs₈:Heap.SameBut z h₇ h₈:=hs₈
 have up:∀c o,c≠z->h₅.get? c=some o->h₈.get? c=some o:=λc o c1 e=>hs₈.extBut _ _ c1 (hs₇.extBut _ _ c1 (Heap.get?_push_of_some _ e));have hT₈:IsPair h₈ h₅.objs.size x y:=hs₈.extBut _ _ (Nat.ne_of_gt hzlt) (hs₇.extBut _ _ (Nat.ne_of_gt hzlt) (Heap.get?_push_size _ rfl));have hz8:h₈.objs.size=h₅.objs.size+1:=by rw[hs₈.1,hs₇.1,Heap.size_push]
 rw[hsz]at hz₈ hT₈ hz8;refine wpAny_pure ⟨_,rfl,?_⟩;show Q (.ref h₅.objs.size) _;rw[hsz];exact hQ x y h₈ _ hx hy hz₈ (up _ _ D.TOz hTO₅) (D1.frame _ _ _ h1₅ λc hc o e=>up c o (λq=>D.z1 (q▸hc)) e) (D2.frame _ _ _ h2₅ λc hc o e=>up c o (λq=>D.z2 (q▸hc)) e) hT₈ hz8 λc o c1 c2 c3 c4 e=>up c o c1 (hk₅ c o c1 c2 c3 c4 e)
theorem zEY{Q:Fin->Shared->Prop}(D:ZAp z TI TO i1 i2 fp1 fp2)(D1:Draws prog w A i1 fp1 n1 P1 S1)(D2:Draws prog w A i2 fp2 n2 P2 S2)
 (hz:IsZip s.heap z TI TO .none) (hTI:IsPair s.heap TI (.ref i1) (.ref i2)) (hTO:IsPair s.heap TO a b) (h1:S1 i s.heap) (h2:S2 i s.heap) (hend:i=n1\/(i<n1/\i=n2))
 (hE:∀h' tk e,(∀c o,c≠z->c≠TO->c≠i1->c≠i2->s.heap.get? c=some o->h'.get? c=some o)->(∃o,h'.get? e=some o/\o.cls= .type "StopIteration")->E (.ref e) {s with heap:=h',toks:=tk}):
 wpAny (model prog w) A (Builtin.«zip.__next__» ⟨[.ref z],[]⟩) Q E s:=by
 obtain⟨hp,g,d,tk₀,os⟩:=s;show wpAny _ _ (field (.ref z) 2>>=_) _ _ _;refine wpAny_bind (wpAny_field hz rfl (x:= .bool false) rfl ?_);show wpAny _ _ (field (.ref z) 3>>=_) _ _ _;refine wpAny_bind (wpAny_field hz rfl (x:= .ref TI) rfl ?_);refine wpAny_bind (wpAny_seqItems hTI rfl ?_);show wpAny _ _ (Builtin.SmallTypes.ownedTupleIsFree (.ref z)>>=_) _ _ _;refine wpAny_bind ?_;unfold Builtin.SmallTypes.ownedTupleIsFree;refine wpAny_bind (wpAny_field hz rfl (x:= .none) rfl (wpAny_pure ?_));simp only[if_true];refine wpAny_bind (wpAny_rule ?_);refine wpAny_bind (wpAny_field hz rfl (x:= .ref TO) rfl ?_);refine wpAny_bind (wpAny_setField_rec hz (by simp) λh₁ hz₁ hs₁=>?_)
 replace hz₁:IsZip h₁ z TI TO .ellipsis:=hz₁
 replace hs₁:Heap.SameBut z hp h₁:=hs₁
 refine wpAny_bind ?_;simp only[List.zipIdx_cons,List.zipIdx_nil,List.forIn_cons,List.forIn_nil];refine wpAny_bind (wpAny_bind (wpAny_onRaise ?_));show wpAny _ _ (Builtin.SmallTypes.nextOf (.ref i1)>>=_) _ _ _;rcases hend with rfl|⟨l1,rfl⟩
 ·refine wpAny_bind (D1.done _ _ _ (D1.but h1 hs₁.extBut D.z1) λh₂ e hs₂ he=>?_)
  replace hs₂:Heap.ExtBut i1 h₁ h₂:=hs₂
  obtain⟨oe,hoe,hce⟩:=he;have hz₂:IsZip h₂ z TI TO .ellipsis:=hs₂ _ _ D.i1z.symm hz₁;have hez:e≠z:=λx=>by subst x;rw[hz₂]at hoe;cases hoe;simp at hce
  refine wpAny_setField_rec hz₂ (by simp) λh₃ _ hs₃=>?_
  replace hs₃:Heap.SameBut z h₂ h₃:=hs₃
  exact hE h₃ _ e (λc o c1 _ c3 _ x=>hs₃.extBut _ _ c1 (hs₂ _ _ c3 (hs₁.extBut _ _ c1 x))) ⟨oe,hs₃.extBut _ _ hez hoe,hce⟩
 ·refine wpAny_bind (D1.item i _ _ _ l1 (D1.but h1 hs₁.extBut D.z1) λx h₂ tk₂ hx h1₂ hs₂=>wpAny_pure ?_)
  replace hs₂:Heap.SameBut i1 h₁ h₂:=hs₂
  have hTO₂:IsPair h₂ TO a b:=hs₂.extBut _ _ D.i1o.symm (hs₁.extBut _ _ D.TOz hTO);refine wpAny_bind (wpAny_seqItems hTO₂ rfl ?_);refine wpAny_bind (wpAny_updateSeq_pair hTO₂ λh₃ hTO₃ hs₃=>?_)
  replace hs₃:Heap.SameBut TO h₂ h₃:=hs₃
  refine wpAny_bind (wpAny_letGo (wpAny_pure ?_));refine wpAny_bind (wpAny_bind (wpAny_onRaise ?_));show wpAny _ _ (Builtin.SmallTypes.nextOf (.ref i2)>>=_) _ _ _;refine wpAny_bind (D2.done _ _ _ (D2.but (D2.but (D2.but h2 hs₁.extBut D.z2) hs₂.extBut D.a12) hs₃.extBut D.o2) λh₄ e hs₄ he=>?_)
  replace hs₄:Heap.ExtBut i2 h₃ h₄:=hs₄
  obtain⟨oe,hoe,hce⟩:=he;have hz₄:IsZip h₄ z TI TO .ellipsis:=hs₄ _ _ D.i2z.symm (hs₃.extBut _ _ D.TOz.symm (hs₂.extBut _ _ D.i1z.symm hz₁));have hez:e≠z:=λx=>by subst x;rw[hz₄]at hoe;cases hoe;simp at hce
  refine wpAny_setField_rec hz₄ (by simp) λh₅ _ hs₅=>?_
  replace hs₅:Heap.SameBut z h₄ h₅:=hs₅
  exact hE h₅ _ e (λc o c1 c2 c3 c4 x=>hs₅.extBut _ _ c1 (hs₄ _ _ c4 (hs₃.extBut _ _ c2 (hs₂.extBut _ _ c3 (hs₁.extBut _ _ c1 x))))) ⟨oe,hs₅.extBut _ _ hez hoe,hce⟩
theorem zF8{Q:Option Value->Shared->Prop}(D:ZAp z TI TO i1 i2 fp1 fp2)(D1:Draws prog w A.in1 i1 fp1 n1 P1 S1)(D2:Draws prog w A.in1 i2 fp2 n2 P2 S2)
 (hz:IsZip s.heap z TI TO .none) (hTI:IsPair s.heap TI (.ref i1) (.ref i2)) (hTO:IsPair s.heap TO a b) (h1:S1 i s.heap) (h2:S2 i s.heap) (l1:i<n1) (l2:i<n2)
 (hQ:∀x y h' tk,P1 i x->P2 i y->IsZip h' z TI TO (rawInt s.heap.objs.size)->IsPair h' TO x y->S1 (i+1) h'->S2 (i+1) h'->IsPair h' s.heap.objs.size x y->h'.objs.size=s.heap.objs.size+1->
   (∀c o,c≠z->c≠TO->c≠i1->c≠i2->s.heap.get? c=some o->h'.get? c=some o)->Q (some (.ref s.heap.objs.size)) {s with heap:=h',toks:=tk}):
 wpAny (model prog w) A (pyNext (.ref z)) Q E s:=by
 have hT:s.TypeIs (.ref z) "zip":=⟨_,hz,rfl⟩;unfold pyNext;exact wpAny_bind (wpAny_attempt (wpAny_callSpecial?_slot (name:=Str.ofString "__next__") hT F.slot_zip_next
  (wpAny_call_entry F.slot_zip_next hT F.entry_zip_next
    (zEC D D1 D2 hz hTI hTO h1 h2 l1 l2 λx y h' tk p1 p2 a1 a2 a3 a4 a5 a6 a7=>wpAny_pure (hQ x y h' tk p1 p2 a1 a2 a3 a4 a5 a6 a7)) (F.args_zip_next_1 _))))
theorem zDr{Q:Option Value->Shared->Prop}(D:ZAp z TI TO i1 i2 fp1 fp2)(D1:Draws prog w A.in1 i1 fp1 n1 P1 S1)(D2:Draws prog w A.in1 i2 fp2 n2 P2 S2)
 (hz:IsZip s.heap z TI TO .none) (hTI:IsPair s.heap TI (.ref i1) (.ref i2)) (hTO:IsPair s.heap TO a b) (h1:S1 i s.heap) (h2:S2 i s.heap) (hend:i=n1\/(i<n1/\i=n2))
 (hQ:∀h' tk,(∀c o,c≠z->c≠TO->c≠i1->c≠i2->s.heap.get? c=some o->h'.get? c=some o)->Q none {s with heap:=h',toks:=tk}):wpAny (model prog w) A (pyNext (.ref z)) Q E s:=by
 have hT:s.TypeIs (.ref z) "zip":=⟨_,hz,rfl⟩;unfold pyNext;refine wpAny_bind (wpAny_attempt (wpAny_callSpecial?_slot (name:=Str.ofString "__next__") hT F.slot_zip_next
  (wpAny_call_entry F.slot_zip_next hT F.entry_zip_next (zEY D D1 D2 hz hTI hTO h1 h2 hend λh' tk e hk he=>?_) (F.args_zip_next_1 _))))
 obtain⟨o,ho,hc⟩:=he;refine wpAny_bind (wpAny_isInstance (T:="StopIteration") (b:=true) ⟨o,ho,hc⟩ isSubtype_stop ?_);exact wpAny_pure (hQ _ _ hk)
end
abbrev sit(x:Str)(t:Tok):Obj:={cls:= .type (strIterType x),data:= .fields #[.str x t, .int 0 0]}
abbrev zs2(h:Heap)(x y:Str)(t u:Tok):Heap:=(h.push (sit x t)).push (sit y u)
abbrev zs3(h:Heap)(x y:Str)(t u:Tok):Heap:=(zs2 h x y t u).push {cls:= .type "tuple",data:= .seq #[.ref h.objs.size, .ref (h.push (sit x t)).objs.size]}
abbrev zs4(h:Heap)(x y:Str)(t u:Tok):Heap:=(zs3 h x y t u).push {cls:= .type "tuple",data:= .seq #[.none, .none]}
abbrev zs5(h:Heap)(x y:Str)(t u:Tok):Heap:=(zs4 h x y t u).push {cls:= .type "zip",data:= .fields #[.none, .bool false, .bool false, .ref (zs2 h x y t u).objs.size, .ref (zs3 h x y t u).objs.size]}
theorem zEK(x y:Str)(t u:Tok):
 Meets (Builtin.«zip.__new__» ⟨[.type "zip", .str x t, .str y u],[]⟩) (λ_ R s=>R (.ok (.ret (.ref (zs4 s.heap x y t u).objs.size))) {s with heap:=zs5 s.heap x y t u}):=
 .of_wp λprog w A R s h=>by
   obtain⟨hp,g,d,tk,os⟩:=s;have hsub:=sub_zip
   wp_walk using wpAny_pyIter_strU (x:=x) (t:=t),wpAny_pyIter_strU (x:=y) (t:=u)
   exact⟨_,rfl,h⟩
theorem zJC{prog:Program}{w:World}{A:Around}{E:Value->Shared->Prop}{s:Shared}{x y:Str}{t u:Tok}{Q:Value->Shared->Prop}
 (h:∀h',IsZip h' (s.heap.objs.size+4) (s.heap.objs.size+2) (s.heap.objs.size+3) .none->IsPair h' (s.heap.objs.size+2) (.ref s.heap.objs.size) (.ref (s.heap.objs.size+1))->
   IsPair h' (s.heap.objs.size+3) .none .none->h'.IsStrIter s.heap.objs.size (strIterType x) x t 0->h'.IsStrIter (s.heap.objs.size+1) (strIterType y) y u 0->h'.objs.size=s.heap.objs.size+5->
   (∀c o,s.heap.get? c=some o->h'.get? c=some o)->Q (.ref (s.heap.objs.size+4)) {s with heap:=h'}):
 wpAny (model prog w) A (call (.type "zip") [.str x t, .str y u]) Q E s:=by
 refine callType_new F.called_zip (by decide) (F.typeCall_zip_2 _ _) (F.newCall_zip_2 _ _) (λobj=>F.args_object_init_3 obj _ _) F.entry_zip_new
  (zEK x y t u) ?_
 have z1:(s.heap.push (sit x t)).objs.size=s.heap.objs.size+1:=Heap.size_push ..;have z2:(zs2 s.heap x y t u).objs.size=s.heap.objs.size+2:=by rw[Heap.size_push,z1]
 have z3:(zs3 s.heap x y t u).objs.size=s.heap.objs.size+3:=by rw[Heap.size_push,z2]
 have z4:(zs4 s.heap x y t u).objs.size=s.heap.objs.size+4:=by rw[Heap.size_push,z3]
 have z5:(zs5 s.heap x y t u).objs.size=s.heap.objs.size+5:=by rw[Heap.size_push,z4]
 have g5:(zs5 s.heap x y t u).get? (zs4 s.heap x y t u).objs.size=some _:=Heap.get?_push_size _ rfl;have g4:(zs5 s.heap x y t u).get? (zs3 s.heap x y t u).objs.size=some _:=Heap.get?_push_of_some _ (Heap.get?_push_size _ rfl);have g3:(zs5 s.heap x y t u).get? (zs2 s.heap x y t u).objs.size=some _:=Heap.get?_push_of_some _ (Heap.get?_push_of_some _ (Heap.get?_push_size _ rfl));have g2:(zs5 s.heap x y t u).get? (s.heap.push (sit x t)).objs.size=some _:=Heap.get?_push_of_some _ (Heap.get?_push_of_some _ (Heap.get?_push_of_some _ (Heap.get?_push_size _ rfl)));have g1:(zs5 s.heap x y t u).get? s.heap.objs.size=some _:=Heap.get?_push_of_some _ (Heap.get?_push_of_some _ (Heap.get?_push_of_some _ (Heap.get?_push_of_some _ (Heap.get?_push_size _ rfl))));show _/\_;rw[z2,z3,z4]at g5;rw[z1,z2]at g3;rw[z3]at g4;rw[z1]at g2;rw[z4];exact⟨⟨_,g5,rfl⟩,h _ g5 g3 g4 ⟨_,g1,rfl,rfl⟩ ⟨_,g2,rfl,rfl⟩ z5 λc o x=>
  Heap.get?_push_of_some _ (Heap.get?_push_of_some _ (Heap.get?_push_of_some _ (Heap.get?_push_of_some _ (Heap.get?_push_of_some _ x))))⟩
end PySem
namespace L2
open PySem PySem.Spec PyProof.Rows
def IzS(x y:Str):It:=⟨λi _=>i<x.cps.size/\i<y.cps.size,λi H v H'=>∃T c d,H T=none/\x.cps[i]? =some c/\y.cps[i]? =some d/\v= .ref T/\H'=upd H T (.tup [.str ⟨#[c]⟩, .str ⟨#[d]⟩]),λi _=>i=x.cps.size\/(i<x.cps.size/\i=y.cps.size)⟩
section
variable{P:Program}{w:World}{K:PySem.W.Frag}{elts:List Expr}{k:Nat}{tpos:Pos}
theorem zJV{X:Cx}{pins:List (Addr×Obj)}{σ:St}{H:Hp}{s:Shared}{E:Value->Shared->Prop}{z TI TO i1 i2:Addr}{fp1 fp2:List Addr}{n1 n2 i:Nat}{P1 P2:Nat->Value->Prop}{S1 S2:Nat->Heap->Prop}{a b:Value}{Qx Qy:Value->V->Prop}{tn:Heap->Prop}
 (D:ZAp z TI TO i1 i2 fp1 fp2) (D1:Draws X.prog X.w X.A.in1 i1 fp1 n1 P1 S1) (D2:Draws X.prog X.w X.A.in1 i2 fp2 n2 P2 S2) (I:Inv X pins σ H s) (hf:∀b∈[z,TI,TO,i1,i2],FpOk X pins H b)
 (hz:IsZip s.heap z TI TO .none) (hTI:IsPair s.heap TI (.ref i1) (.ref i2)) (hTO:IsPair s.heap TO a b) (h1:S1 i s.heap) (h2:S2 i s.heap) (l1:i<n1) (l2:i<n2)
 (tnk:∀h' x y,IsZip h' z TI TO .none->IsPair h' TI (.ref i1) (.ref i2)->IsPair h' TO x y->S1 (i+1) h'->S2 (i+1) h'->tn h') (y1:∀v,P1 i v->∃q,RelV q v/\Qx v q) (y2:∀v,P2 i v->∃q,RelV q v/\Qy v q):
 wpAny (model X.prog X.w) X.A (pyNext (.ref z)) (λr s1=>∃u,r=some u/\wpAny (model X.prog X.w) X.A (letOwnedTupleGo (.Tuple elts k tpos) (.ref z) u) (λ_ s2=>∃x H',Inv X pins σ H' s2/\RelV x u/\
  (∃T q1 q2 v1 v2,H T=none/\Qx v1 q1/\Qy v2 q2/\x= .ref T/\H'=upd H T (.tup [q1,q2]))/\tn s2.heap/\∀b∈[z,TI,TO,i1,i2],H' b=none) E s1) E s:=by
 refine zF8 D D1 D2 hz hTI hTO h1 h2 l1 l2 λx y h1' tk p1 p2 a1 a2 a3 a4 a5 a6 a7=>⟨_,rfl,wpAny_letOwnedTupleGo_zip a1 λh2' hz2 hs2=>?_⟩
 replace hs2:Heap.SameBut z h1' h2':=hs2
 obtain⟨q1,r1,e1⟩:=y1 x p1;obtain⟨q2,r2,e2⟩:=y2 y p2;have hzl:z<s.heap.objs.size:=Heap.lt_size hz;have hT2:h2'.get? s.heap.objs.size=some {cls:= .type "tuple",data:= .seq #[x,y]}:=(hs2.2 _ (Nat.ne_of_gt hzl)).trans a5;have ob:ObjOk X.prog X.w (upd H s.heap.objs.size (.tup [q1,q2])) h2' s.heap.objs.size (.tup [q1,q2]):=⟨(by show 2<=sizeLine;decide),[x,y], .cons r1 (.cons r2 .nil),⟨_,hT2,rfl,_,rfl⟩⟩;have I2:Inv X pins σ (upd H s.heap.objs.size (.tup [q1,q2])) {s with heap:=h2',toks:=tk}:=I.turnedLaid hf (λb u hb q=>(hs2.2 b (λz=>hb (by simp[z]))).trans (a7 b u (λz=>hb (by simp[z])) (λz=>hb (by simp[z])) (λz=>hb (by simp[z])) (λz=>hb (by simp[z])) q)) (Nat.le_refl _) ob;have up:∀c o,c≠z->h1'.get? c=some o->h2'.get? c=some o:=λc o hc e=>(hs2.2 c hc).trans e;refine⟨.ref s.heap.objs.size,_,I2,rfl,⟨s.heap.objs.size,q1,q2,x,y,I.hok.fresh (Nat.le_refl _),e1,e2,rfl,rfl⟩,tnk h2' x y hz2 (up _ _ D.TIz (a7 _ _ D.TIz D.TITO D.TIi1 D.TIi2 hTI)) (up _ _ D.TOz a2) (D1.frame _ _ _ a3 λc hc o e=>up c o (λq=>D.z1 (q▸hc)) e) (D2.frame _ _ _ a4 λc hc o e=>up c o (λq=>D.z2 (q▸hc)) e),λb hb=>?_⟩;have hlt:b<s.heap.objs.size:=by
  simp only[List.mem_cons,List.not_mem_nil,or_false]at hb;rcases hb with e|e|e|e|e
  ·rw[e];exact hzl
  ·rw[e];exact Heap.lt_size hTI
  ·rw[e];exact Heap.lt_size hTO
  ·rw[e];obtain⟨_,q⟩:=D1.live _ _ h1;exact Heap.lt_size q
  ·rw[e];obtain⟨_,q⟩:=D2.live _ _ h2;exact Heap.lt_size q
 rw[zAI (Nat.ne_of_lt hlt)];exact(hf b hb).1
theorem zH1{x y:Str}{t u:Tok}{T1 T2:String}{z TI TO i1 i2:Addr}(D:ZAp z TI TO i1 i2 [i1] [i2])
 (W1:∀A:Around,A.handled=none->Draws P w A i1 [i1] x.cps.size (λi v=>∃c u,x.cps[i]? =some c/\v= .str ⟨#[c]⟩ u) (λi h=>h.IsStrIter i1 T1 x t i))
 (W2:∀A:Around,A.handled=none->Draws P w A i2 [i2] y.cps.size (λi v=>∃c u,y.cps[i]? =some c/\v= .str ⟨#[c]⟩ u) (λi h=>h.IsStrIter i2 T2 y u i)):
 Turn P w K (.Tuple elts k tpos) (IzS x y) [z,TI,TO,i1,i2] z (λi h=>IsZip h z TI TO .none/\IsPair h TI (.ref i1) (.ref i2)/\(∃a b,IsPair h TO a b)/\h.IsStrIter i1 T1 x t i/\h.IsStrIter i2 T2 y u i) where
 mem:=by simp
 obj:=λi h st b hb=>by
  obtain⟨hz,hTI,⟨a,b',hTO⟩,⟨o1,ho1,_,hd1⟩,⟨o2,ho2,_,hd2⟩⟩:=st;simp only[List.mem_cons,List.not_mem_nil,or_false]at hb;rcases hb with e|e|e|e|e
  ·rw[e];exact⟨_,hz,λv z=>by cases z⟩
  ·rw[e];exact⟨_,hTI,λv z=>by cases z⟩
  ·rw[e];exact⟨_,hTO,λv z=>by cases z⟩
  ·rw[e];exact⟨_,ho1,λv z=>by rw[hd1]at z;cases z⟩
  ·rw[e];exact⟨_,ho2,λv z=>by rw[hd2]at z;cases z⟩
 keep:=λi h h' st k=>by
  obtain⟨hz,hTI,⟨a,b',hTO⟩,⟨o1,ho1,r1⟩,⟨o2,ho2,r2⟩⟩:=st;exact⟨k z (by simp) _ hz,k TI (by simp) _ hTI,⟨a,b',k TO (by simp) _ hTO⟩,⟨o1,k i1 (by simp) _ ho1,r1⟩,⟨o2,k i2 (by simp) _ ho2,r2⟩⟩
 item:=by
  intro X hP hw hK hc i pins s σ H E I hf st hg;subst hP hw hK;obtain⟨hz,hTI,⟨a,b',hTO⟩,h1,h2⟩:=st;refine thn (zJV (elts:=elts) (k:=k) (tpos:=tpos) (Qx:=λv q=>∃c,x.cps[i]? =some c/\q= .str ⟨#[c]⟩) (Qy:=λv q=>∃c,y.cps[i]? =some c/\q= .str ⟨#[c]⟩)
   (tn:=λh=>IsZip h z TI TO .none/\IsPair h TI (.ref i1) (.ref i2)/\(∃a b,IsPair h TO a b)/\h.IsStrIter i1 T1 x t (i+1)/\h.IsStrIter i2 T2 y u (i+1)) D (W1 X.A.in1 (I.ok.hd hc)) (W2 X.A.in1 (I.ok.hd hc)) I hf hz hTI hTO h1 h2 hg.1 hg.2
   (λh' _ _ a1 a2 a3 a4 a5=>⟨a1,a2,⟨_,_,a3⟩,a4,a5⟩) ?_ ?_) ?_
  ·rintro v ⟨c,u,hx,rfl⟩;exact⟨.str ⟨#[c]⟩,⟨u,rfl⟩,c,hx,rfl⟩
  ·rintro v ⟨c,u,hx,rfl⟩;exact⟨.str ⟨#[c]⟩,⟨u,rfl⟩,c,hx,rfl⟩
  ·rintro r s1 ⟨u,hr,h1⟩;refine⟨u,hr,thn h1 ?_⟩;rintro _ s2 ⟨xv,H',I2,rx,⟨Ta,q1,q2,v1,v2,hT,⟨c,hx,rfl⟩,⟨d,hy,rfl⟩,ex,eH⟩,tn2,fr⟩;exact⟨xv,H',I2,rx,⟨Ta,c,d,hT,hx,hy,ex,eH⟩,tn2,fr⟩
 done:=by
  intro X hP hw hK hc i pins s σ H E I hf st hg;subst hP hw hK;obtain⟨hz,hTI,⟨a,b',hTO⟩,h1,h2⟩:=st;exact zDr D (W1 X.A.in1 (I.ok.hd hc)) (W2 X.A.in1 (I.ok.hd hc)) hz hTI hTO h1 h2 hg λh' tk hx=>⟨rfl,I.turnedAll (t':=tk) hf λb o hb q=>hx b o (λz=>hb (by simp[z])) (λz=>hb (by simp[z])) (λz=>hb (by simp[z])) (λz=>hb (by simp[z])) q⟩
 self:=λA i s Q E st h=>wpAny_pyIter_zip st.1 h
end
theorem drawsU{P:Program}{w:World}(it:Addr)(x:Str)(t:Tok):∀A:Around,A.handled=none->Draws P w A it [it] x.cps.size (λi v=>∃c u,x.cps[i]? =some c/\v= .str ⟨#[c]⟩ u) (λi h=>h.IsStrIter it (strIterType x) x t i):=λA hh=>by
 cases ha:x.cps.all (· <128)
 ·have e:strIterType x="str_iterator":=by simp[strIterType,ha]
  rw[e];exact Draws.strWide hh _ x t
 ·have e:strIterType x="str_ascii_iterator":=by simp[strIterType,ha]
  rw[e];exact Draws.strAscii hh _ x t
def iZiS(ta:TA):TI:=λσ H R=>ta σ H λvs H1=>∃x y,vs=[.str x, .str y]/\R (IzS x y) H1
section
variable{X:Cx}{a b:Expr}{ta:TA}{p pos:Pos}{elts:List Expr}{k:Nat}{tpos:Pos}
theorem fresh5{pins:List (Addr×Obj)}{σ:St}{H:Hp}{s:Shared}(I:Inv X pins σ H s):∀b∈[s.heap.objs.size+4,s.heap.objs.size+2,s.heap.objs.size+3,s.heap.objs.size,s.heap.objs.size+1],FpOk X pins H b:=λb hb=>by
 have:s.heap.objs.size<=b:=by
  simp only[List.mem_cons,List.not_mem_nil,or_false]at hb;rcases hb with e|e|e|e|e<;>omega
 exact I.fpOk this (I.hok.fresh this)
theorem zap5(n:Nat):ZAp (n+4) (n+2) (n+3) n (n+1) [n] [n+1]:=by
 constructor<;>simp<;>omega
theorem zLZ(hg:Gl X "zip")(hm:X.mg "zip"=none)(ha:PA X [a,b] ta)(hs:starEach [a,b] X.env=[(false,eval a X.env),(false,eval b X.env)]:=by rfl)(hs2:starEach [b] X.env=[(false,eval b X.env)]:=by rfl):PI X (.Tuple elts k tpos) (.Call (.Name "zip" p) [a,b] [] pos) (iZiS ta):=by
 intro pins s σ H R I h;refine Call_ (zDz I hg hm boot_zip (PyProof.Rows.callWith_type1 (thn (ha pos pins s σ H _ I h) λus s1 ⟨vs,H1,I1,r1,q1⟩=>?_) (by rw[hs,hs2]) (by rw[hs2];rfl)));obtain⟨x,y,e,q⟩:=q1;subst e
 cases r1 with
 |cons r rr=>
  cases rr with
  |cons r2 rr=>
   cases rr
   obtain⟨t,rfl⟩:=r;obtain⟨u,rfl⟩:=r2;refine zJC λh' hz hTI hTO h1 h2 hsz hk=>wpAny_pyIter_zip hz ?_;exact⟨s1.heap.objs.size+4,[s1.heap.objs.size+4,s1.heap.objs.size+2,s1.heap.objs.size+3,s1.heap.objs.size,s1.heap.objs.size+1],_,_,H1,rfl,I1.kept (t':=s1.toks) hk,zH1 (zap5 _) (drawsU _ x t) (drawsU _ y u),⟨hz,hTI,⟨_,_,hTO⟩,h1,h2⟩,fresh5 I1,q⟩
end
section
variable{σ:St}{H:Hp}{Q:VK}{K:PySem.W.Frag}
theorem zMO{ta:TA}{R:It->Hp->Prop}(h:ta σ H λvs H1=>∃x y,vs=[.str x, .str y]/\R (IzS x y) H1):iZiS ta σ H R:=h
end
end L2
namespace BrS
open L2 PySem BrM BrC BrR
theorem zCA{b:Nat}(h:b<8):brs[b]? =some (brs.getD b 0):=by
 match b,h with
 |0,_=>rfl
 |1,_=>rfl
 |2,_=>rfl
 |3,_=>rfl
 |4,_=>rfl
 |5,_=>rfl
 |6,_=>rfl
 |7,_=>rfl
theorem zJJ:∀o,o<4->brs.getD (2*o) 0∈opn/\clo (brs.getD (2*o) 0)=brs.getD (2*o+1) 0/\brs.getD (2*o+1) 0∉opn:=by decide
theorem zJH:∀b,b<8->brs.getD b 0≠63:=by decide
theorem zJI:∀b,b<8->∀c,c<8->brs.getD b 0=brs.getD c 0->b=c:=by decide
theorem zJG:∀k:Nat,k<=4->∀b,b<2*k->brs.getD b 0∈sgn (k:Int):=by decide +kernel
def cl_(st:List Nat):List Nat:=st.map λo=>brs.getD (2*o+1) 0
theorem Fi.run{k:Nat}{a:List Nat}(hk:k<=4):∀ {bs:List Nat} {i:Nat} {st:List Nat},(∀o∈st,o<k)->Fi k a i st bs->run (cl_ st) (brt bs)=some []
 |[],i,st,hst,h=>by
  obtain⟨_,rfl⟩:=h
  rfl
 |b::bs,i,st,hst,h=>by
  obtain⟨h1,h2,h3,h4⟩:=h;have e:brt (b::bs)=brs.getD b 0::brt bs:=rfl;rw[e];show(BrM.stp (cl_ st) (brs.getD b 0)).bind _=_
  by_cases hev:b%2=0
  ·obtain⟨q1,q2,q3⟩:=zJJ (b/2) (by omega);rw[show 2*(b/2)=b by omega]at q1 q2 q3;rw[zEd q1,q2];have es:stb st b=b/2::st:=by unfold stb;rw[if_pos hev]
   rw[es]at h4;have:=Fi.run hk (st:=b/2::st) (λo ho=>by
    rcases List.mem_cons.mp ho with z|z
    ·omega
    ·exact hst o z) h4
   have ec:cl_ (b/2::st)=brs.getD (b+1) 0::cl_ st:=by
    show brs.getD (2*(b/2)+1) 0::cl_ st=_;rw[show 2*(b/2)=b by omega]
   rw[ec]at this;exact this
  ·obtain⟨s',rfl⟩:=h3 (by omega);obtain⟨q1,q2,q3⟩:=zJJ (b/2) (by omega);have eb:2*(b/2)+1=b:=by omega
   rw[eb]at q3;have ec:cl_ (b/2::s')=brs.getD b 0::cl_ s':=by
    show brs.getD (2*(b/2)+1) 0::cl_ s'=_;rw[eb]
   rw[ec,zDn q3];have es:stb (b/2::s') b=s':=by unfold stb;rw[if_neg hev];rfl
   rw[es]at h4;exact Fi.run hk (λo ho=>hst o (List.mem_cons_of_mem _ ho)) h4
theorem zIM{k c b:Nat}(hk:k<=4)(hb:b<2*k)(h:pw k c b=1):c=63\/c=brs.getD b 0:=by
 by_cases hc:c=63
 ·exact .inl hc
 ·refine .inr ?_;unfold pw plw at h;rw[if_neg hc,List.getD_eq_getElem?_getD,List.getElem?_map,List.getElem?_take,if_pos (show b<(ones k).length by unfold ones;rw[List.length_replicate];exact hb),zCA (by omega)]at h;have h:(if c=brs.getD b 0 then(1:Int)else 0)=1:=h
  split at h
  ·assumption
  ·cases h
theorem zMy{k:Nat}{a:List Nat}{i c:Nat}(h:a[i]? =some c)(b:Nat):pa_ k a i b=pw k c b:=by
 show((a.map (plw (ones k))).getD i []).getD b 0=_;have e:(a.map (plw (ones k))).getD i []=plw (ones k) c:=by rw[List.getD_eq_getElem?_getD,List.getElem?_map,h];rfl
 rw[e];rfl
def Fll(k:Nat):List Nat->List Nat->List Nat->Prop
 |[],st,[]=>st=[]
 |c::r,st,b::bs=>b<2*k/\pw k c b=1/\(b%2=1->∃s',st=b/2::s')/\Fll k r (stb st b) bs
 |_,_,_=>False
theorem Fi.l{k:Nat}{a:List Nat}:∀ {bs:List Nat} {i:Nat} {st:List Nat},Fi k a i st bs->Fll k (a.drop i) st bs
 |[],i,st,h=>by
  obtain⟨rfl,rfl⟩:=h;rw[List.drop_length]
  rfl
 |b::bs,i,st,h=>by
  have hi:i<a.length:=by have:=h.len;rw[List.length_cons]at this;omega
  obtain⟨h1,h2,h3,h4⟩:=h;rw[List.drop_eq_getElem_cons hi];rw[zMy (List.getElem?_eq_getElem hi)]at h2;exact⟨h1,h2,h3,Fi.l h4⟩
theorem Fll.fl{k:Nat}{a:List Nat}:∀ {bs:List Nat} {i:Nat} {st:List Nat},i<=a.length->Fll k (a.drop i) st bs->Fi k a i st bs
 |[],i,st,hi,h=>by
  cases e:a.drop i with
  |nil=>
   rw[e]at h;have:=List.drop_eq_nil_iff.mp e;exact⟨by omega,h⟩
  |cons c r=>rw[e]at h;exact h.elim
 |b::bs,i,st,hi,h=>by
  by_cases hi':i<a.length
  ·rw[List.drop_eq_getElem_cons hi']at h;obtain⟨h1,h2,h3,h4⟩:=h;exact⟨h1,by rw[zMy (List.getElem?_eq_getElem hi')];exact h2,h3,Fll.fl hi' h4⟩
  ·rw[List.drop_eq_nil_iff.mpr (by omega)]at h;exact h.elim
theorem Fll.len{k:Nat}:∀ {a st bs:List Nat},Fll k a st bs->bs.length=a.length
 |[],_,[],_=>rfl
 |c::r,st,b::bs,h=>by rw[List.length_cons,List.length_cons,Fll.len h.2.2.2]
 |[],_,_::_,h=>h.elim
 |_::_,_,[],h=>h.elim
theorem Fll.at{k:Nat}:∀ {a st bs:List Nat},Fll k a st bs->∀ {i c b:Nat},a[i]? =some c->bs[i]? =some b->b<2*k/\pw k c b=1
 |c::r,st,b::bs,h,0,c',b',h1,h2=>by
  obtain rfl:c=c':=Option.some.inj h1;obtain rfl:b=b':=Option.some.inj h2;exact⟨h.1,h.2.1⟩
 |c::r,st,b::bs,h,i+1,c',b',h1,h2=>Fll.at h.2.2.2 (i:=i) h1 h2
 |[],_,_,_,i,_,_,h1,_=>by simp at h1
 |_::_,_,[],_,i,_,_,_,h2=>by simp at h2
def exk(p q o:Nat):Nat:=if o=p then q else if o=q then p else o
def exb(p q b:Nat):Nat:=2*exk p q (b/2)+b%2
def exc(p q c:Nat):Nat:=if c=63 then 63 else brs.getD (exb p q (fnd brs c).toNat) 0
theorem zNP{p q o k:Nat}(hp:p<k)(hq:q<k)(ho:o<k):exk p q o<k:=by unfold exk;split;exact hq;split;exact hp;exact ho
theorem zNR{p q b k:Nat}(hp:p<k)(hq:q<k)(hb:b<2*k):exb p q b<2*k:=by
 have:=zNP hp hq (show b/2<k by omega);unfold exb;omega
theorem zHB(p q b:Nat):exb p q b/2=exk p q (b/2):=by unfold exb;omega
theorem zIw(p q b:Nat):exb p q b%2=b%2:=by unfold exb;omega
theorem zLz{p q b:Nat}(h:b<8):exc p q (brs.getD b 0)=brs.getD (exb p q b) 0:=by
 unfold exc;rw[if_neg (zJH b h),zLw b h,Int.toNat_natCast]
theorem Fll.ex{p q k:Nat}(hk:k<=4)(hp:p<k)(hq:q<k):∀ {a st bs:List Nat},Fll k a st bs->Fll k (a.map (exc p q)) (st.map (exk p q)) (bs.map (exb p q))
 |[],st,[],h=>by
  have h:st=[]:=h;subst h
  rfl
 |c::r,st,b::bs,h=>by
  obtain⟨h1,h2,h3,h4⟩:=h;have hb':=zNR hp hq h1;have es:stb (st.map (exk p q)) (exb p q b)=(stb st b).map (exk p q):=by
   unfold stb;rw[zIw,zHB]
   split
   ·rfl
   ·rw[List.map_tail]
  refine⟨hb',?_,λho=>?_,?_⟩
  ·rcases zIM hk h1 h2 with rfl|rfl
   ·exact zKa hb'
   ·show pw k (exc p q (brs.getD b 0)) _=1;rw[zLz (by omega),zN9 hb' (by omega) (zCA (by omega)),if_pos rfl]
  ·rw[zIw]at ho;obtain⟨s',rfl⟩:=h3 ho;exact⟨s'.map (exk p q),by rw[zHB];rfl⟩
  ·rw[es];exact Fll.ex hk hp hq h4
 |[],_,_::_,h=>h.elim
 |_::_,_,[],h=>h.elim
theorem Fll.lt{k:Nat}:∀ {a st bs:List Nat},Fll k a st bs->∀b∈bs,b<2*k
 |[],_,[],_,_,hb=>nomatch hb
 |c::r,st,b::bs,h,x,hx=>by
  rcases List.mem_cons.mp hx with z|z
  ·rw[z];exact h.1
  ·exact Fll.lt h.2.2.2 x z
 |[],_,_::_,h,_,_=>h.elim
 |_::_,_,[],h,_,_=>h.elim
theorem zFf{k:Nat}{bs:List Nat}(hk:k<=4)(hl:bs.length<=40)(h:∀b∈bs,b<2*k):isRow (k:Int) (brt bs)=true:=by
 unfold isRow brt;rw[Bool.and_eq_true,List.length_map];refine⟨decide_eq_true hl,?_⟩;rw[List.all_eq_true];intro c hc;obtain⟨b,hb,rfl⟩:=List.mem_map.mp hc;exact decide_eq_true (zJG k hk b (h b hb))
theorem zIn{k:Int}{a:List Nat}(h:isRow k a=true):∀c∈a,c∈sgn k:=λc hc=>by
 unfold isRow at h;rw[Bool.and_eq_true,List.all_eq_true]at h;exact of_decide_eq_true (h.2 c hc)
end BrS
namespace L2
open PySem PySem.Spec PyProof.Rows
section
variable{σ:St}{H:Hp}{Q:VK}{K:PySem.W.Frag}
end
theorem zIx(ns:List Int):eqVs (ns.map V.int) (ns.map V.int)=true:=by
 induction ns with
 |nil=>rfl
 |cons n r ih=>
  show(decide (n=n)&&eqVs (r.map V.int) (r.map V.int))=true;rw[ih,decide_eq_true rfl];rfl
end L2
namespace L2
open PySem
theorem zLC{i j:Nat}{ta:TA}{D:Ends}{σ:St}{H:Hp}(h:ta σ H λvs H1=>∃v w,vs=[v,w]/\D.nx ((σ.set i (some v)).set j (some w)) H1):tPar i j ta D σ H:=h
end L2
namespace BrS
open L2 PySem BrM BrC BrR
def filB(k:Int)(a b:List Nat):Bool:=isRow k b&&decide (b.length=a.length)&&decide (Rt b)&&(List.range a.length).all λi=>decide (a.getD i 0=63)||decide (a.getD i 0=b.getD i 0)
theorem Fi.filB{k:Nat}{a bs:List Nat}(hk:k<=4)(hl:a.length<=40)(hf:Fi k a 0 [] bs):filB (k:Int) a (brt bs)=true:=by
 have hbl:=hf.len;have hbt:(brt bs).length=bs.length:=by unfold brt;rw[List.length_map]
 have hll:=hf.l;rw[List.drop_zero]at hll;have hrt:Rt (brt bs):=hf.run hk (by simp);unfold BrS.filB;rw[zFf hk (by omega) hll.lt,decide_eq_true (show(brt bs).length=a.length by omega),decide_eq_true hrt,Bool.true_and,Bool.true_and,Bool.true_and,List.all_eq_true];intro i hi;have hi:=List.mem_range.mp hi;have e1:a[i]? =some (a.getD i 0):=by rw[List.getD_eq_getElem?_getD,List.getElem?_eq_getElem hi];rfl
 have e2:bs[i]? =some (bs.getD i 0):=by rw[List.getD_eq_getElem?_getD,List.getElem?_eq_getElem (show i<bs.length by omega)];rfl
 have e3:(brt bs).getD i 0=brs.getD (bs.getD i 0) 0:=by unfold brt;rw[List.getD_eq_getElem?_getD,List.getElem?_map,e2];rfl
 obtain⟨q1,q2⟩:=hll.at e1 e2;rw[e3,Bool.or_eq_true];rcases zIM hk q1 q2 with z|z
 ·exact .inl (decide_eq_true z)
 ·exact .inr (decide_eq_true z)
def NoF(K:PySem.W.Frag)(k:Int)(a:List Nat)(H:Hp)(v:V):Prop:=(∃b,v=tx b/\b.length<=1000/\filB k a b=false)\/∃ty,TyOf K H v (.type ty)/\ty∈plainTy/\ty≠"str"
theorem NoF.keep{K:PySem.W.Frag}{k:Int}{a:List Nat}{p:Addr}{n m:Nat}{H H':Hp}{v:V}(h:NoF K k a H v)(d:Dt p n m H v)(s:SameBut1 p H H'):NoF K k a H' v:=h.elim .inl λ⟨ty,a,b⟩=> .inr ⟨ty,a.keep d.ne s,b⟩
end BrS
namespace BrB
open BrM BrC
def cl:List Nat->Nat->Option (List Nat)
 |[],_=>none
 |p::s,q=>if p=q then some s else none
theorem zGb(p:Nat)(s:List Nat)(q:Nat):cl (p::s) q=if p=q then some s else none:=rfl
def nx(k:Nat)(st:List Nat)(b:Nat):Option (List Nat):=if b<2*k then(if b%2=0 then some (b/2::st)else cl st (b/2))else none
def go(k:Nat):List Nat->List Nat->Option (List Nat)
 |st,[]=>some st
 |st,b::r=>(nx k st b).bind λs=>go k s r
theorem zBW{k:Nat}(st:List Nat):go k st []=some st:=by rw[go]
theorem zBG{k:Nat}(st:List Nat)(b:Nat)(r:List Nat):go k st (b::r)=(nx k st b).bind λs=>go k s r:=by rw[go]
theorem zBm{k:Nat}{st s:List Nat}{b:Nat}(h:nx k st b=some s):b<2*k/\((b%2=0/\s=b/2::st)\/(b%2=1/\st=b/2::s)):=by
 unfold nx at h
 by_cases h1:b<2*k
 ·rw[if_pos h1]at h
  by_cases h2:b%2=0
  ·rw[if_pos h2]at h;cases h;exact⟨h1, .inl ⟨h2,rfl⟩⟩
  ·rw[if_neg h2]at h
   cases st with
   |nil=>cases h
   |cons p q=>
    rw[zGb]at h
    by_cases h3:p=b/2
    ·rw[if_pos h3]at h;cases h;exact⟨h1, .inr ⟨by omega,by rw[h3]⟩⟩
    ·rw[if_neg h3]at h;cases h
 ·rw[if_neg h1]at h;cases h
theorem zLl{k p:Nat}(st:List Nat)(h:p<k):nx k st (2*p)=some (p::st):=by
 unfold nx;rw[if_pos (by omega),if_pos (by omega),show 2*p/2=p by omega]
theorem zJv{k p:Nat}(st:List Nat)(h:p<k):nx k (p::st) (2*p+1)=some st:=by
 unfold nx;rw[if_pos (by omega),if_neg (by omega),show(2*p+1)/2=p by omega];rw[zGb,if_pos rfl]
theorem zM9{k:Nat}{st s:List Nat}{b:Nat}(h1:b<2*k)(h:(b%2=0/\s=b/2::st)\/(b%2=1/\st=b/2::s)):nx k st b=some s:=by
 rcases h with⟨h2,rfl⟩|⟨h2,rfl⟩
 ·unfold nx;rw[if_pos h1,if_pos h2]
 ·unfold nx;rw[if_pos h1,if_neg (by omega)];rw[zGb,if_pos rfl]
def Rg(k:Nat)(l:List Nat):Prop:=go k [] l=some []
theorem zGP{k p:Nat}(st r:List Nat)(h:p<k):go k st (2*p::r)=go k (p::st) r:=by rw[zBG,zLl st h];rfl
theorem zE4{k p:Nat}(st r:List Nat)(h:p<k):go k (p::st) ((2*p+1)::r)=go k st r:=by rw[zBG,zJv st h];rfl
theorem zDW{k:Nat}:∀ (l r st:List Nat),go k st (l++r)=(go k st l).bind λs=>go k s r
 |[],r,st=>by rw[List.nil_append,zBW];rfl
 |b::l,r,st=>by
  rw[List.cons_append,zBG,zBG]
  cases nx k st b with
  |none=>rfl
  |some s=>exact zDW l r s
theorem zOB{k:Nat}{st s:List Nat}{b:Nat}(more:List Nat)(h:nx k st b=some s):nx k (st++more) b=some (s++more):=by
 obtain⟨h1,h2⟩:=zBm h;refine zM9 h1 (h2.imp (λ⟨a,e⟩=>⟨a,by rw[e];rfl⟩) λ⟨a,e⟩=>⟨a,by rw[e];rfl⟩)
theorem zLt{k:Nat}:∀ (l st s more:List Nat),go k st l=some s->go k (st++more) l=some (s++more)
 |[],st,s,more,h=>by rw[zBW]at h⊢;cases h;rfl
 |b::l,st,s,more,h=>by
  rw[zBG]at h⊢;obtain⟨s1,h1,h2⟩:=Option.bind_eq_some_iff.mp h;rw[zOB more h1];exact zLt l s1 s more h2
theorem zF7{k p:Nat}{u v:List Nat}(hp:p<k)(hu:Rg k u)(hv:Rg k v):Rg k (2*p::(u++(2*p+1)::v)):=by
 unfold Rg;have h:=zLt u [] [] [p] hu;rw[List.nil_append]at h;rw[zGP _ _ hp,zDW,h];show go k [p] _=_;rw[zE4 _ _ hp];exact hv
theorem zE3{k:Nat}:∀ (n:Nat) (r:List Nat) (p:Nat) (st:List Nat),r.length<=n->go k (p::st) r=some []->p<k->∃u v,r=u++(2*p+1)::v/\Rg k u/\go k st v=some []
 |0,[],p,st,_,h,_=>by rw[zBW]at h;cases h
 |n+1,[],p,st,_,h,_=>by rw[zBW]at h;cases h
 |n+1,b::r,p,st,hl,h,hp=>by
  rw[zBG]at h;obtain⟨s1,h1,h2⟩:=Option.bind_eq_some_iff.mp h;obtain⟨hb,⟨h3,rfl⟩|⟨h3,h4⟩⟩:=zBm h1
  ·have hl':r.length<=n:=by simpa using hl
   obtain⟨u1,v1,e1,g1,g2⟩:=zE3 n r (b/2) (p::st) hl' h2 (by omega);have hv1:v1.length<=n:=by rw[e1]at hl';simp at hl';omega
   obtain⟨u2,v2,e2,g3,g4⟩:=zE3 n v1 p st hv1 g2 hp;refine⟨2*(b/2)::(u1++(2*(b/2)+1)::u2),v2,?_,zF7 (by omega) g1 g3,g4⟩;rw[e1,e2,show 2*(b/2)=b by omega];simp
  ·cases h4
   exact⟨[],r,by rw[List.nil_append,show 2*(b/2)+1=b by omega],by unfold Rg;rw[zBW],h2⟩
theorem zJh{k:Nat}{l:List Nat}(h:Rg k l):l=[]\/∃p u v,p<k/\l=2*p::(u++(2*p+1)::v)/\Rg k u/\Rg k v:=by
 cases l with
 |nil=>exact .inl rfl
 |cons b r=>
  unfold Rg at h;rw[zBG]at h;obtain⟨s1,h1,h2⟩:=Option.bind_eq_some_iff.mp h;obtain⟨hb,⟨h3,rfl⟩|⟨h3,h4⟩⟩:=zBm h1
  ·obtain⟨u,v,e,g1,g2⟩:=zE3 r.length r (b/2) [] (Nat.le_refl _) h2 (by omega);exact .inr ⟨b/2,u,v,by omega,by rw[e,show 2*(b/2)=b by omega],g1,g2⟩
  ·cases h4
theorem zIt{k:Nat}:∀ (l st s:List Nat),go k st l=some s->st.length<=s.length+l.length/\(st.length+s.length+l.length)%2=0
 |[],st,s,h=>by rw[zBW]at h;cases h;simp;omega
 |b::l,st,s,h=>by
  rw[zBG]at h;obtain⟨s1,h1,h2⟩:=Option.bind_eq_some_iff.mp h;have:=zIt l _ _ h2;obtain⟨hb,⟨h3,rfl⟩|⟨h3,rfl⟩⟩:=zBm h1
  ·simp only[List.length_cons]at this⊢;omega
  ·simp only[List.length_cons]at this⊢;omega
theorem zEo{k:Nat}{l:List Nat}(h:Rg k l):l.length%2=0:=by have:=(zIt l [] [] h).2;simpa using this
theorem zD3{k:Nat}:∀ (l st s:List Nat),go k st l=some s->∀b∈l,b<2*k
 |[],_,_,_,b,hb=>nomatch hb
 |c::l,st,s,h,b,hb=>by
  rw[zBG]at h;obtain⟨s1,h1,h2⟩:=Option.bind_eq_some_iff.mp h;rcases List.mem_cons.mp hb with rfl|hb
  ·exact(zBm h1).1
  ·exact zD3 l _ _ h2 b hb
theorem zIf:∀ {a b c d:List Nat},a.length=c.length->(a++b<c++d↔a<c\/(a=c/\b<d))
 |[],b,[],d,_=>by simp
 |x::a,b,y::c,d,h=>by
  have h':a.length=c.length:=by simpa using h
  clear h;rw[List.cons_append,List.cons_append,List.cons_lt_cons_iff,List.cons_lt_cons_iff,zIf h']
  constructor
  ·rintro(h|⟨rfl,h|⟨rfl,h⟩⟩)
   ·exact .inl (.inl h)
   ·exact .inl (.inr ⟨rfl,h⟩)
   ·exact .inr ⟨rfl,h⟩
  ·rintro((h|⟨rfl,h⟩)|⟨e,h⟩)
   ·exact .inl h
   ·exact .inr ⟨rfl, .inl h⟩
   ·cases e;exact .inr ⟨rfl, .inr ⟨rfl,h⟩⟩
theorem zId(a b:List Nat):a<b\/a=b\/b<a:=by
 by_cases h:a<b
 ·exact .inl h
 ·by_cases h2:b<a
  ·exact .inr (.inr h2)
  ·exact .inr (.inl (List.le_antisymm (List.not_lt.mp h2) (List.not_lt.mp h)))
theorem zFa{a b c:List Nat}(h1:¬b<a)(h2:¬c<b):¬c<a:=λh=>by
 rcases zId b c with z|z|z
 ·exact h1 (List.lt_trans z h)
 ·exact h1 (z▸h)
 ·exact h2 z
abbrev O:=Option (Int×List Nat)
def lik:O->O->O
 |none,b=>b
 |some a,none=>some a
 |some (x,l),some (y,m)=>if x=y then(if l<m then some (x,l)else some (y,m))else if x>y then some (x,l)else some (y,m)
def Best(S:List Nat->Prop)(f:List Nat->Int):O->Prop
 |none=>∀l,S l->f l<=0
 |some (w,l)=>S l/\f l=w/\0<w/\∀m,S m->f m<w\/(f m=w/\¬m<l)
theorem Best.uniq{S:List Nat->Prop}{f:List Nat->Int}:∀ {a b:O},Best S f a->Best S f b->a=b
 |none,none,_,_=>rfl
 |none,some (w,l),h,⟨h1,h2,h3,_⟩=>by have:=h l h1;omega
 |some (w,l),none,⟨h1,h2,h3,_⟩,h=>by have:=h l h1;omega
 |some (w,l),some (v,m),⟨h1,h2,h3,h4⟩,⟨g1,g2,g3,g4⟩=>by
  have a1:=h4 m g1;have a2:=g4 l h1;have e:w=v:=by rcases a1 with z|⟨z,_⟩<;>rcases a2 with y|⟨y,_⟩<;>omega
  subst e;rcases a1 with z|⟨_,z⟩
  ·omega
  ·rcases a2 with y|⟨_,y⟩
   ·omega
   ·rcases zId l m with t|t|t
    ·exact absurd t y
    ·rw[t]
    ·exact absurd t z
theorem Best.iff{S S':List Nat->Prop}{f:List Nat->Int}{o:O}(h:Best S f o)(e:∀l,S l↔S' l):Best S' f o:=by
 have:S=S':=funext λl=>propext (e l);rw[<-this];exact h
theorem Best.cong{S:List Nat->Prop}{f g:List Nat->Int}{o:O}(h:Best S f o)(e:∀l,S l->f l=g l):Best S g o:=by
 match o,h with
 |none,h=>exact λl hl=>by rw[<-e l hl];exact h l hl
 |some (w,l),⟨h1,h2,h3,h4⟩=>exact⟨h1,by rw[<-e l h1];exact h2,h3,λm hm=>by rw[<-e m hm];exact h4 m hm⟩
theorem Best.un{S S':List Nat->Prop}{f:List Nat->Int}:∀ {a b:O},Best S f a->Best S' f b->Best (λl=>S l\/S' l) f (lik a b)
 |none,none,h,g=>λl hl=>hl.elim (h l) (g l)
 |none,some (v,m),h,⟨g1,g2,g3,g4⟩=>⟨.inr g1,g2,g3,λx hx=>hx.elim (λz=> .inl (by have:=h x z;omega)) (g4 x)⟩
 |some (w,l),none,⟨h1,h2,h3,h4⟩,g=>⟨.inl h1,h2,h3,λx hx=>hx.elim (h4 x) (λz=> .inl (by have:=g x z;omega))⟩
 |some (w,l),some (v,m),⟨h1,h2,h3,h4⟩,⟨g1,g2,g3,g4⟩=>by
  show Best _ f (if w=v then(if l<m then some (w,l)else some (v,m))else if w>v then some (w,l)else some (v,m))
  by_cases e:w=v
  ·subst e;rw[if_pos rfl]
   by_cases e2:l<m
   ·rw[if_pos e2];refine⟨.inl h1,h2,h3,λx hx=>hx.elim (h4 x) λz=>(g4 x z).imp id λ⟨a,b⟩=>⟨a,zFa (λt=>List.lt_irrefl _ (List.lt_trans t e2)) b⟩⟩
   ·rw[if_neg e2];refine⟨.inr g1,g2,g3,λx hx=>hx.elim (λz=>(h4 x z).imp id λ⟨a,b⟩=>⟨a,zFa e2 b⟩) (g4 x)⟩
  ·rw[if_neg e]
   by_cases e2:w>v
   ·rw[if_pos e2];exact⟨.inl h1,h2,h3,λx hx=>hx.elim (h4 x) λz=> .inl (by rcases g4 x z with y|⟨y,_⟩<;>omega)⟩
   ·rw[if_neg e2];exact⟨.inr g1,g2,g3,λx hx=>hx.elim (λz=> .inl (by rcases h4 x z with y|⟨y,_⟩<;>omega)) (g4 x)⟩
theorem Best.pos{S:List Nat->Prop}{f:List Nat->Int}{w:Int}{l:List Nat}(h:Best S f (some (w,l))):0<w:=h.2.2.1
theorem zGv{x y a b:Int}(ha0:0<=a)(hb0:0<=b)(hx:0<x)(hy:0<y)(ha:a<=x)(hb:b<=y):a*b<x*y\/(a=x/\b=y):=by
 by_cases e1:a=x
 ·by_cases e2:b=y
  ·exact .inr ⟨e1,e2⟩
  ·subst e1;exact .inl (Int.mul_lt_mul_of_pos_left (by omega) hx)
 ·left
  calc a*b<=a*y:=Int.mul_le_mul_of_nonneg_left hb ha0
   _<x*y:=Int.mul_lt_mul_of_pos_right (by omega) hy
def beh:O->O->O
 |some (x,l),some (y,m)=>some (x*y,l++m)
 |_,_=>none
def rnd:O->O->O
 |some (x,l),some (y,m)=>some (x*y,[l.getD 0 0]++m++[l.getD 1 0])
 |_,_=>none
theorem Best.beh{S S' T:List Nat->Prop}{f g h:List Nat->Int}{n:Nat}(hS:∀l,S l->l.length=n/\0<=f l)(hS':∀l,S' l->0<=g l)(hT:∀l,T l↔∃u v,l=u++v/\S u/\S' v)(hh:∀u v,S u->S' v->h (u++v)=f u*g v):∀ {a b:O},Best S f a->Best S' g b->Best T h (beh a b)
 |none,b,ha,hb=>λl hl=>by
  obtain⟨u,v,rfl,h1,h2⟩:=(hT l).mp hl;have e:f u=0:=by have:=ha u h1;have:=(hS u h1).2;omega
  rw[hh u v h1 h2,e];omega
 |some (x,l),none,ha,hb=>λl' hl=>by
  obtain⟨u,v,rfl,h1,h2⟩:=(hT l').mp hl;have e:g v=0:=by have:=hb v h2;have:=hS' v h2;omega
  rw[hh u v h1 h2,e];omega
 |some (x,l),some (y,m),⟨a1,a2,a3,a4⟩,⟨b1,b2,b3,b4⟩=>by
  refine⟨(hT _).mpr ⟨l,m,rfl,a1,b1⟩,by rw[hh l m a1 b1,a2,b2],Int.mul_pos a3 b3,λz hz=>?_⟩;obtain⟨u,v,rfl,h1,h2⟩:=(hT z).mp hz;rw[hh u v h1 h2];have c1:=a4 u h1;have c2:=b4 v h2;have l1:f u<=x:=by rcases c1 with t|⟨t,_⟩<;>omega
  have l2:g v<=y:=by rcases c2 with t|⟨t,_⟩<;>omega
  rcases zGv (hS u h1).2 (hS' v h2) a3 b3 l1 l2 with t|⟨t1,t2⟩
  ·exact .inl t
  ·refine .inr ⟨by rw[t1,t2],λhlt=>?_⟩;have n1:¬u<l:=by rcases c1 with t|⟨_,t⟩;omega;exact t
   have n2:¬v<m:=by rcases c2 with t|⟨_,t⟩;omega;exact t
   rcases(zIf (by rw[(hS u h1).1,(hS l a1).1])).mp hlt with t|⟨_,t⟩
   ·exact n1 t
   ·exact n2 t
theorem Best.rnd{S T:List Nat->Prop}{f g h:List Nat->Int}{k n:Nat}(hf:∀p,p<k->0<=f [2*p,2*p+1])(hS:∀l,S l->l.length=n/\0<=g l)(hT:∀l,T l↔∃p u,p<k/\l=2*p::(u++[2*p+1])/\S u)(hh:∀p u,p<k->S u->h (2*p::(u++[2*p+1]))=f [2*p,2*p+1]*g u):
 ∀ {a b:O},Best (λl=>∃p,p<k/\l=[2*p,2*p+1]) f a->Best S g b->Best T h (BrB.rnd a b)
 |none,b,ha,hb=>λl hl=>by
  obtain⟨p,u,hp,rfl,h2⟩:=(hT l).mp hl;have e:f [2*p,2*p+1]=0:=by have:=ha _ ⟨p,hp,rfl⟩;have:=hf p hp;omega
  rw[hh p u hp h2,e];omega
 |some (x,l),none,ha,hb=>λl' hl=>by
  obtain⟨p,u,hp,rfl,h2⟩:=(hT l').mp hl;have e:g u=0:=by have:=hb u h2;have:=(hS u h2).2;omega
  rw[hh p u hp h2,e];omega
 |some (x,l),some (y,m),⟨⟨p,hp,a1⟩,a2,a3,a4⟩,⟨b1,b2,b3,b4⟩=>by
  subst a1;refine⟨(hT _).mpr ⟨p,m,hp,rfl,b1⟩,?_,Int.mul_pos a3 b3,λz hz=>?_⟩
  ·show h (2*p::(m++[2*p+1]))=x*y;rw[hh p m hp b1,a2,b2]
  obtain⟨q,u,hq,rfl,h2⟩:=(hT z).mp hz;rw[hh q u hq h2];have c1:=a4 _ ⟨q,hq,rfl⟩;have c2:=b4 u h2;have l1:f [2*q,2*q+1]<=x:=by rcases c1 with t|⟨t,_⟩<;>omega
  have l2:g u<=y:=by rcases c2 with t|⟨t,_⟩<;>omega
  rcases zGv (hf q hq) (hS u h2).2 a3 b3 l1 l2 with t|⟨t1,t2⟩
  ·exact .inl t
  ·refine .inr ⟨by rw[t1,t2],λhlt=>?_⟩;have n1:¬ [2*q,2*q+1]<[2*p,2*p+1]:=by rcases c1 with t|⟨_,t⟩;omega;exact t
   have n2:¬u<m:=by rcases c2 with t|⟨_,t⟩;omega;exact t
   have hlt:2*q::(u++[2*q+1])<2*p::(m++[2*p+1]):=hlt;rw[List.cons_lt_cons_iff]at hlt;rcases hlt with t|⟨t,hlt⟩
   ·exact n1 (by rw[List.cons_lt_cons_iff];exact .inl t)
   ·have:q=p:=by omega
    subst this;rcases(zIf (by rw[(hS u h2).1,(hS m b1).1])).mp hlt with t|⟨_,t⟩
    ·exact n2 t
    ·exact List.lt_irrefl _ t
def wtl(P:Nat->Nat->Int):Nat->List Nat->Int
 |_,[]=>1
 |s,b::r=>P s b*wtl P (s+1) r
theorem zCe{P:Nat->Nat->Int}:∀ (u v:List Nat) (s:Nat),wtl P s (u++v)=wtl P s u*wtl P (s+u.length) v
 |[],v,s=>by rw[List.nil_append,wtl,Int.one_mul];rfl
 |b::u,v,s=>by
  rw[List.cons_append,wtl,wtl,zCe u v,Int.mul_assoc,List.length_cons,show s+1+u.length=s+(u.length+1) by omega]
theorem zCB{P:Nat->Nat->Int}(h:∀i b,0<=P i b):∀ (l:List Nat) (s:Nat),0<=wtl P s l
 |[],_=>by rw[wtl];decide
 |b::l,s=>by rw[wtl];exact Int.mul_nonneg (h s b) (zCB h l _)
def Dn(k s t:Nat)(l:List Nat):Prop:=Rg k l/\s+l.length=t
def Sq(k s q t:Nat)(l:List Nat):Prop:=∃j p u v,j<q/\p<k/\l=2*p::(u++(2*p+1)::v)/\Rg k u/\u.length=2*j/\Rg k v/\s+2+2*j+v.length=t
def Nw(k s q t:Nat)(l:List Nat):Prop:=∃p u v,p<k/\l=2*p::(u++(2*p+1)::v)/\Rg k u/\u.length=2*q/\Rg k v/\s+2+2*q+v.length=t
theorem Sq.zero(k s t:Nat)(l:List Nat):¬Sq k s 0 t l:=λ⟨j,_,_,_,h,_⟩=>absurd h (Nat.not_lt_zero _)
theorem Sq.next(k s q t:Nat)(l:List Nat):Sq k s (q+1) t l↔Sq k s q t l\/Nw k s q t l:=by
 constructor
 ·rintro⟨j,p,u,v,hj,h⟩
  by_cases e:j=q
  ·subst e;exact .inr ⟨p,u,v,h⟩
  ·exact .inl ⟨j,p,u,v,by omega,h⟩
 ·rintro(⟨j,p,u,v,hj,h⟩|⟨p,u,v,h⟩)
  ·exact⟨j,p,u,v,by omega,h⟩
  ·exact⟨q,p,u,v,by omega,h⟩
theorem Nw.par{k s q t:Nat}{l:List Nat}(h:Nw k s q t l):∃r,t=s+2+2*q+2*r:=by
 obtain⟨p,u,v,_,_,_,_,hv,e⟩:=h;have:=zEo hv;exact⟨v.length/2,by omega⟩
theorem Sq.same{k s q t:Nat}(h:∀r,t≠s+2+2*q+2*r)(l:List Nat):Sq k s q t l↔Sq k s (q+1) t l:=by
 rw[Sq.next];exact⟨.inl,λz=>z.elim id λw=>by obtain⟨r,e⟩:=w.par;exact absurd e (h r)⟩
theorem Sq.len{k s q t:Nat}{l:List Nat}(h:Sq k s q t l):s+l.length=t:=by
 obtain⟨j,p,u,v,_,_,rfl,_,hu,_,e⟩:=h;simp only[List.length_cons,List.length_append];omega
theorem Nw.len{k s q t:Nat}{l:List Nat}(h:Nw k s q t l):s+l.length=t:=by
 obtain⟨p,u,v,_,rfl,_,hu,_,e⟩:=h;simp only[List.length_cons,List.length_append];omega
theorem Sq.apart{k s q t:Nat}{l m:List Nat}(h:Sq k s q t l)(g:Nw k s q t m):l≠m:=by
 rintro rfl;obtain⟨j,p,u,v,hj,hp,rfl,ru,lu,rv,e⟩:=h;obtain⟨p',u',v',hp',e',ru',lu',rv',_⟩:=g;obtain⟨e1,e2⟩:=List.cons.inj e';have:p=p':=by omega
 subst this;have e3:u++((2*p+1)::v)=u'++((2*p+1)::v'):=e2;rcases List.append_eq_append_iff.mp e3 with⟨w,h1,h2⟩|⟨w,h1,h2⟩
 ·cases w with
  |nil=>rw[List.append_nil]at h1;rw[h1]at lu';omega
  |cons x w=>
   rw[List.cons_append]at h2;obtain⟨rfl,_⟩:=List.cons.inj h2;unfold Rg at ru';rw[h1,zDW,ru]at ru';rw[Option.bind_some,zBG]at ru';obtain⟨s1,z,_⟩:=Option.bind_eq_some_iff.mp ru';obtain⟨_,⟨z1,_⟩|⟨_,z2⟩⟩:=zBm z
   ·omega
   ·cases z2
 ·rw[h1]at lu;simp at lu;omega
theorem Dn.iff{k s t q:Nat}(h:s<t)(hq:t<s+2+2*q)(l:List Nat):Sq k s q t l↔Dn k s t l:=by
 constructor
 ·intro z;refine⟨?_,z.len⟩;obtain⟨j,p,u,v,_,hp,rfl,ru,_,rv,_⟩:=z;exact zF7 hp ru rv
 ·rintro⟨r,e⟩;rcases zJh r with rfl|⟨p,u,v,hp,rfl,ru,rv⟩
  ·simp at e;omega
  ·have:=zEo ru;simp only[List.length_cons,List.length_append]at e;exact⟨u.length/2,p,u,v,by omega,hp,rfl,ru,by omega,rv,by omega⟩
theorem Dn.nil(k s:Nat)(l:List Nat):Dn k s s l↔l=[]:=by
 constructor
 ·rintro⟨_,e⟩;exact List.eq_nil_of_length_eq_zero (by omega)
 ·rintro rfl;exact⟨by unfold Rg;rw[zBW],rfl⟩
def Pk(k:Nat)(l:List Nat):Prop:=∃p,p<k/\l=[2*p,2*p+1]
def pf(P:Nat->Nat->Int)(s e:Nat)(l:List Nat):Int:=P s (l.getD 0 0)*P e (l.getD 1 0)
theorem zKI{P:Nat->Nat->Int}(hP:∀i b,0<=P i b){k s q t r:Nat}(ht:t=s+2+2*q+2*r){a b c:O}(ha:Best (Pk k) (pf P s (s+1+2*q)) a)(hb:Best (Dn k (s+1) (s+1+2*q)) (wtl P (s+1)) b)(hc:Best (Dn k (s+2+2*q) t) (wtl P (s+2+2*q)) c):
 Best (Nw k s q t) (wtl P s) (beh (rnd a b) c):=by
 have h1:Best (λl=>∃p u,p<k/\l=2*p::(u++[2*p+1])/\Dn k (s+1) (s+1+2*q) u) (wtl P s) (rnd a b):=by
  refine Best.rnd (k:=k) (n:=2*q) (f:=pf P s (s+1+2*q)) (g:=wtl P (s+1)) (λp _=>Int.mul_nonneg (hP _ _) (hP _ _)) (λl hl=>⟨by have:=hl.2;omega,zCB hP l _⟩) (λl=>Iff.rfl) (λp u hp hu=>?_) ha hb;have hl:=hu.2;rw[wtl,zCe,wtl,wtl,show s+1+u.length=s+1+2*q by omega];show P s (2*p)*(wtl P (s+1) u*(P (s+1+2*q) (2*p+1)*1))=P s (2*p)*P (s+1+2*q) (2*p+1)*wtl P (s+1) u;rw[Int.mul_one,Int.mul_comm (wtl P (s+1) u),Int.mul_assoc]
 refine Best.beh (n:=2*q+2) (f:=wtl P s) (g:=wtl P (s+2+2*q)) (λl hl=>⟨?_,zCB hP l _⟩) (λl _=>zCB hP l _) (λl=>?_) (λu v hu hv=>?_) h1 hc
 ·obtain⟨p,u,_,rfl,hu⟩:=hl;have:=hu.2;simp only[List.length_cons,List.length_append,List.length_nil];omega
 ·constructor
  ·rintro⟨p,u,v,hp,rfl,ru,lu,rv,e⟩;exact⟨2*p::(u++[2*p+1]),v,by simp,⟨p,u,hp,rfl,ru,by omega⟩,rv,e⟩
  ·rintro⟨x,v,rfl,⟨p,u,hp,rfl,ru,lu⟩,rv,e⟩;exact⟨p,u,v,hp,by simp,ru,by omega,rv,e⟩
 ·obtain⟨p,x,_,rfl,hx⟩:=hu;have:=hx.2;rw[zCe];congr 2;simp only[List.length_cons,List.length_append,List.length_nil];omega
theorem zJO{P:Nat->Nat->Int}{k s q t:Nat}{a b:O}(ha:Best (Sq k s q t) (wtl P s) a)(hb:Best (Nw k s q t) (wtl P s) b):Best (Sq k s (q+1) t) (wtl P s) (lik a b):=(Best.un ha hb).iff λl=>(Sq.next k s q t l).symm
theorem zHN{P:Nat->Nat->Int}(s:Nat)(k:Nat):Best (Dn k s s) (wtl P s) (some (1,[])):=⟨(Dn.nil k s []).mpr rfl,rfl,by decide,λm hm=>by rw[(Dn.nil k s m).mp hm];exact .inr ⟨rfl,List.lt_irrefl _⟩⟩
end BrB
namespace PySem.SeqAt
open AutoSeq1 (wpAny_loadPart')
open MeetsSeq MeetsSeq2 MeetsSeq3 SeqRoads2
theorem zIe(l b:Addr)(items items2:Array Value)(n n2:Nat)(dd dd2:Option Addr)(sl sl2:Array (Option Value))(e:Nat->Bool)(j:Nat)(x y:Int)(t u:Tok)(h1:items[j]? =some (.int x t))(h2:items2[j]? =some (.int y u))(hj:e j=false)(k:Nat):
 ∀i:Nat,j-i=k->i<=j->(∀m,i<=m->m<j->e m=true)->Meets (Builtin.«list.__eq__.loop» ⟨[.ref l, .ref b,rawInt i,rawInt 0],[]⟩)
  (λA R s=>s.heap.get? l=some {cls:= .type "list",dict:=dd,data:= .seq items n,slots:=sl}/\s.heap.get? b=some {cls:= .type "list",dict:=dd2,data:= .seq items2 n2,slots:=sl2}/\
    (∀j (h1:j<items.size) (h2:j<items2.size),EqAt A.in1 s items[j] items2[j] (e j))/\
    R (.ok (.ret (.bool (decide (x<y))))) s):=by
 have q1:j<items.size:=(Array.getElem?_eq_some_iff.mp h1).1;have q2:j<items2.size:=(Array.getElem?_eq_some_iff.mp h2).1
 induction k with
 |zero=>
  intro i hk hle hno prog w A R s h;obtain⟨hp,g,d,tk,os⟩:=s;obtain⟨hl,hb,he,h⟩:=h;have:i=j:=by omega
  subst this
  wp_walk using wpAny_loadPart' hl,wpAny_loadPart' hb
  have hi1:items[((i:Nat):Int).toNat]? =some (.int x t):=by simpa using h1
  have hi2:items2[((i:Nat):Int).toNat]? =some (.int y u):=by simpa using h2
  have g1:items[i]= .int x t:=(Array.getElem?_eq_some_iff.mp h1).2;have g2:items2[i]= .int y u:=(Array.getElem?_eq_some_iff.mp h2).2;rw[hi1,hi2];have hei:=he i q1 q2;rw[g1,g2]at hei;refine wpAny_bind (hei prog w _ _ ?_);rw[hj]
  wp_walk using wpAny_loadPart' hl,wpAny_loadPart' hb
  rw[hi1,hi2];show wpAny _ _ (compareOp .Lt (.int x t) (.int y u)>>=_) _ _ _;refine wpAny_bind (PyProof.Rows.lt_int ?_);exact wpAny_pure h
 |succ k ih=>
  intro i hk hle hno prog w A R s h;obtain⟨hp,g,d,tk,os⟩:=s;obtain⟨hl,hb,he,h⟩:=h
  wp_walk using wpAny_loadPart' hl,wpAny_loadPart' hb
  have hlt:i<items.size:=by omega
  have hlt2:i<items2.size:=by omega
  have hi1:items[((i:Nat):Int).toNat]? =some items[i]:=by simp[hlt]
  have hi2:items2[((i:Nat):Int).toNat]? =some items2[i]:=by simp[hlt2]
  have hc:((i:Int)+1)=((i+1:Nat):Int):=by push_cast;rfl
  rw[hi1,hi2];refine wpAny_bind (he i hlt hlt2 prog w _ _ ?_);rw[hno i (Nat.le_refl _) (by omega)]
  wp_walk
  rw[hc];exact⟨plainId_quiet plain_eq_loop _,codeAny_builtin entry_eq_loop (by
   rw[Around.under_plainId plain_eq_loop _];exact ih (i+1) (by omega) (by omega) (λm a b=>hno m (by omega) b) prog w A R _ ⟨hl,hb,he,h⟩)⟩
theorem zIh(l b:Addr)(items items2:Array Value)(n n2:Nat)(dd dd2:Option Addr)(sl sl2:Array (Option Value))(e:Nat->Bool)(j:Nat)(x y:Int)(t u:Tok)(h1:items[j]? =some (.int x t))(h2:items2[j]? =some (.int y u))(hj:e j=false)(hno:∀m,m<j->e m=true):
 Meets (Builtin.«list.__lt__» ⟨[.ref l, .ref b],[]⟩)
  (λA R s=>s.heap.get? l=some {cls:= .type "list",dict:=dd,data:= .seq items n,slots:=sl}/\s.heap.get? b=some {cls:= .type "list",dict:=dd2,data:= .seq items2 n2,slots:=sl2}/\
    (∀j (h1:j<items.size) (h2:j<items2.size),EqAt A.in1 s items[j] items2[j] (e j))/\
    R (.ok (.ret (.bool (decide (x<y))))) s):=by
 intro prog w A R s h;obtain⟨hp,g,d,tk,os⟩:=s;obtain⟨hl,hb,he,h⟩:=h;have f3:=AutoSeq1.sub_list_list
 wp_walk using wpAny_loadPart' hl,wpAny_loadPart' hb
 exact⟨plainId_quiet plain_eq_loop _,codeAny_builtin entry_eq_loop (by
  rw[Around.under_plainId plain_eq_loop _];exact zIe l b items items2 n n2 dd dd2 sl sl2 e j x y t u h1 h2 hj _ 0 rfl (Nat.zero_le _) (λm _ b=>hno m b) prog w A R _ ⟨hl,hb,he,h⟩)⟩
section
variable{prog:Program}{w:World}{A:Around}{E:Value->Shared->Prop}{s:Shared}
theorem lt_listAt{l b:Addr}{items items2:Array Value}{e:Nat->Bool}{j:Nat}{x y:Int}{t u:Tok}{Q:Value->Shared->Prop}(hl:s.heap.IsList l items)(hb:s.heap.IsList b items2)(hu:A.units<cLine)
 (he:∀j (h1:j<items.size) (h2:j<items2.size),EqAt A.in1 s items[j] items2[j] (e j)) (h1:items[j]? =some (.int x t)) (h2:items2[j]? =some (.int y u)) (hj:e j=false) (hno:∀m,m<j->e m=true)
 (h:Q (.bool (decide (x<y))) s):wpAny (model prog w) A (compareOp .Lt (.ref l) (.ref b)) Q E s:=by
 obtain⟨⟨cls,dd,data,sl⟩,ho,hc,n,hd⟩:=id hl;obtain⟨⟨cls2,dd2,data2,sl2⟩,ho2,hc2,n2,hd2⟩:=id hb;simp only at hc hd hc2 hd2;subst hc hd hc2 hd2;show wpAny _ _ (richCompare .Lt (.ref l) (.ref b)) Q E s;exact richCompare_meets_room (op:= .Lt) ⟨_,ho,rfl⟩ ⟨_,ho2,rfl⟩ F.slot_list_lt F.entry_list_lt (F.args_list_lt_2 _ _) (zIh l b items items2 n n2 dd dd2 sl sl2 e j x y t u h1 h2 hj hno)
  ⟨ho,ho2,he,show Value.bool (decide (x<y))≠Value.notImplemented/\Q (.bool (decide (x<y))) s from⟨(λx=>nomatch x),h⟩⟩ hu
end
end PySem.SeqAt
namespace L2
open PySem PySem.Spec PyProof.Rows
theorem zE1:∀ {bs cs:List Nat},bs.length=cs.length->bs≠cs->∃ (j b c:Nat),bs[j]? =some b/\cs[j]? =some c/\b≠c/\(b<c↔bs<cs)/\∀m,m<j->bs.getD m 0=cs.getD m 0
 |[],[],_,h=>absurd rfl h
 |b::bs,c::cs,hl,h=>by
  by_cases e:b=c
  ·subst e;obtain⟨j,x,y,h1,h2,h3,h5,h4⟩:=zE1 (bs:=bs) (cs:=cs) (by simpa using hl) (λz=>h (by rw[z]));refine⟨j+1,x,y,h1,h2,h3,?_,λm hm=>?_⟩
   ·rw[h5,List.cons_lt_cons_iff]
    constructor
    ·exact λz=> .inr ⟨rfl,z⟩
    ·rintro(z|⟨_,z⟩)
     ·exact absurd z (Nat.lt_irrefl _)
     ·exact z
   ·cases m with
    |zero=>rfl
    |succ m=>exact h4 m (by omega)
  ·refine⟨0,b,c,rfl,rfl,e,?_,λm hm=>by omega⟩;rw[List.cons_lt_cons_iff];exact⟨.inl,λz=>z.elim id λw=>absurd w.1 e⟩
abbrev nL(bs:List Nat):List V:=bs.map λb:Nat=>V.int (b:Int)
def rLtL(K:PySem.W.Frag):R2:=λx y H Q=>∃a b bs cs,x= .ref a/\y= .ref b/\SqL K H a (nL bs)/\SqL K H b (nL cs)/\bs.length=cs.length/\bs≠cs/\Q (.bl (decide (bs<cs))) H
theorem zM4{X:Cx}(K:PySem.W.Frag)(hr:X.A.units<cLine)(hK:X.K=K:=by rfl):OpR X (compareOp .Lt) (rLtL K):=by
 subst hK;intro pins s σ H x y v u Q I rx ry ⟨a,b,bs,cs,e1,e2,q1,q2,hl,hne,q⟩;subst e1 e2
 cases rx
 cases ry
 obtain⟨us,r1,p1,z1⟩:=I.list q1;obtain⟨ws,r2,p2,z2⟩:=I.list q2;obtain⟨j,m,n,h1,h2,h3,h5,h4⟩:=zE1 hl hne;have l1:=r1.length;have l2:=r2.length;rw[List.length_map]at l1 l2;obtain⟨u1,e1,t1,rfl⟩:=r1.get (i:=j) (x:= .int (m:Int)) (by rw[List.getElem?_map,h1];rfl);obtain⟨u2,e2,t2,rfl⟩:=r2.get (i:=j) (x:= .int (n:Int)) (by rw[List.getElem?_map,h2];rfl);have fl:∀bs:List Nat,(bs.map λb:Nat=>V.int (b:Int)).all flatV=true:=λbs=>by rw[List.all_map,List.all_eq_true];intro _ _;rfl
 refine SeqAt.lt_listAt (e:=λi=>eqV ((bs.map λb:Nat=>V.int (b:Int)).getD i .non) ((cs.map λb:Nat=>V.int (b:Int)).getD i .non)) (j:=j) (x:=(m:Int)) (y:=(n:Int)) (t:=t1) (u:=t2) p1.isList p2.isList hr (zDF r1 r2 (fl _) (fl _)) (by simpa using e1) (by simpa using e2) ?_ ?_ ?_
 ·show eqV _ _=false;rw[List.getD_eq_getElem?_getD,List.getD_eq_getElem?_getD,List.getElem?_map,List.getElem?_map,h1,h2];show decide ((m:Int)=(n:Int))=false;exact decide_eq_false (by omega)
 ·intro i hi;have g:=h4 i hi;have k1:j<bs.length:=(List.getElem?_eq_some_iff.mp h1).1;have k2:j<cs.length:=(List.getElem?_eq_some_iff.mp h2).1;have a1:bs[i]? =some (bs.getD i 0):=by rw[List.getD_eq_getElem?_getD,List.getElem?_eq_getElem (by omega)];rfl
  have a2:cs[i]? =some (cs.getD i 0):=by rw[List.getD_eq_getElem?_getD,List.getElem?_eq_getElem (by omega)];rfl
  show eqV _ _=true;rw[List.getD_eq_getElem?_getD,List.getD_eq_getElem?_getD,List.getElem?_map,List.getElem?_map,a1,a2,g];show decide (((cs.getD i 0:Nat):Int)=((cs.getD i 0:Nat):Int))=true;exact decide_eq_true rfl
 ·refine⟨.bl (decide (bs<cs)),H,I,?_,q⟩;show Value.bool (decide ((m:Int)<(n:Int)))=Value.bool (decide (bs<cs));congr 1;rw[decide_eq_decide,<-h5];omega
section
variable{X:Cx}
def gTupL(K:PySem.W.Frag)(n:Nat)(t:TGs):TG:=λv σ H Q=>∃a xs,v= .ref a/\SqL K H a xs/\xs.length=n/\t xs σ H Q
theorem zLb(K:PySem.W.Frag){es:List Expr}{k:Nat}{t:TGs}{n:Nat}{pos:Pos}(hc:X.calm=true)(h:PGs X es t)
 (hn:(assignEach es X.env).length=n:=by rfl) (hst:(assignEach es X.env).findIdx? (·.1)=none:=by rfl) (hK:X.K=K:=by rfl):PG X (.Tuple es k pos) (gTupL K n t):=by
 subst hK;intro pins s σ H v u Q I r hw;obtain⟨a,xs,e1,hq,hl,hw⟩:=hw;subst e1
 cases r
 obtain⟨its,rv,ht,hz⟩:=I.list hq;have hln:=rv.length;rw[assign_Tuple];refine wpAny_bind (wpAny_standAt ?_);unfold unpack;rw[show(assignEach es X.env).length=its.toArray.size by rw[hn,List.size_toArray];omega,hst];refine wpAny_bind (wpAny_holding (PySem.W.kun_itemsOf (I.ok.hd hc) ht.isList λh' hx=>?_));have I1:Inv X pins σ H {s with heap:=h'}:=I.kept (t':=s.toks) λb o e=>hx b o (Nat.ne_of_lt (Heap.lt_size e)) e;exact h pins _ σ H xs _ Q I1 (by simpa using rv) hw
end
end L2
namespace BrS
open L2 PySem BrM BrC BrB
def Bt(F:Addr->Prop)(H:Hp)(v:V):O->Prop
 |none=>v= .non
 |some (w,l)=>∃T a,v= .ref T/\F T/\F a/\H T=some (.tup [.int w, .ref a])/\H a=some (.lst (nL l))
theorem Bt.keep{F:Addr->Prop}{H H':Hp}{v:V}{o:O}(h:Bt F H v o)(k:∀b x,F b->H b=some x->H' b=some x):Bt F H' v o:=by
 match o,h with
 |none,h=>exact h
 |some (w,l),⟨T,a,e,f1,f2,g1,g2⟩=>exact⟨T,a,e,f1,f2,k _ _ f1 g1,k _ _ f2 g2⟩
theorem Bt.same{F:Addr->Prop}{H H':Hp}{v:V}{o:O}(h:Bt F H v o)(s:Same H H'):Bt F H' v o:=h.keep λb x _ z=>s b x z
theorem Bt.imp{F G:Addr->Prop}{H:Hp}{v:V}{o:O}(h:Bt F H v o)(k:∀b x,F b->H b=some x->G b):Bt G H v o:=by
 match o,h with
 |none,h=>exact h
 |some (w,l),⟨T,a,e,f1,f2,g1,g2⟩=>exact⟨T,a,e,k _ _ f1 g1,k _ _ f2 g2,g1,g2⟩
abbrev Any:Addr->Prop:=λ_=>True
def spLikelier:Sp:=λvs H Q _=>∃ (v1 v2:V) (o1 o2:O),vs=[v1,v2]/\Bt Any H v1 o1/\Bt Any H v2 o2/\(∀w l x m,o1=some (w,l)->o2=some (x,m)->l.length=m.length/\l≠m)/\∀v H',Same H H'->((v=v1/\lik o1 o2=o1)\/(v=v2/\lik o1 o2=o2))->Q v H'
def spLPair:Sp:=λvs H Q _=>∃ (p1 p2:Addr) (x y:List Int) (k:Nat),vs=[.ref p1, .ref p2]/\H p1=some (iL x)/\H p2=some (iL y)/\x.length=2*k/\y.length=2*k/\k<=4/\Sm x/\Sm y/\
 ∀v o H',Same H H'->Bt (λb=>H b=none) H' v o->Best (Pk k) (λl=>x.getD (l.getD 0 0) 0*y.getD (l.getD 1 0) 0) o->Q v H'
def Sz(o:O):Prop:=∀w l,o=some (w,l)->w.natAbs<big/\l.length<=40
def spRound:Sp:=λvs H Q _=>∃ (v1 v2:V) (o1 o2:O),vs=[v1,v2]/\Bt Any H v1 o1/\Bt Any H v2 o2/\(∀w l,o1=some (w,l)->l.length=2)/\Sz o1/\Sz o2/\∀v H',Same H H'->Bt (λb=>H b=none) H' v (rnd o1 o2)->Q v H'
def spBehindO:Sp:=λvs H Q _=>∃ (v1 v2:V) (o1 o2:O),vs=[v1,v2]/\Bt Any H v1 o1/\Bt Any H v2 o2/\Sz o1/\Sz o2/\∀v H',Same H H'->Bt (λb=>H b=none) H' v (beh o1 o2)->Q v H'
def rwv(n:Nat)(f:Nat->V):List V:=(List.range (n+1)).map f
theorem zIH(n:Nat)(f:Nat->V):(rwv n f).length=n+1:=by simp[rwv]
theorem zF5{n j:Nat}{f:Nat->V}(h:j<=n):(rwv n f)[j]? =some (f j):=by
 unfold rwv;rw[List.getElem?_map,List.getElem?_range (by omega)];rfl
theorem zLS{n j:Nat}{f:Nat->V}{v:V}:(rwv n f).set j v=rwv n (λx=>if x=j then v else f x):=by
 apply List.ext_getElem?;intro i;unfold rwv;rw[List.getElem?_set,List.getElem?_map,List.getElem?_map]
 by_cases e:j=i
 ·subst e
  by_cases hj:j<n+1
  ·rw[List.getElem?_range hj];simp[hj]
  ·rw[if_pos rfl,if_neg (by simpa using hj)];rw[List.getElem?_eq_none (by simpa using hj)];rfl
 ·rw[if_neg e]
  by_cases hi:i<n+1
  ·rw[List.getElem?_range hi];simp[Ne.symm e]
  ·rw[List.getElem?_eq_none (by simpa using hi)];rfl
structure Tv (H0 H1 H:Hp) (s:Addr) (ad:Nat->Addr) (n:Nat) (T:Nat->Nat->V):Prop where
 fs:H0 s=none
 fa:∀i,i<=n->H0 (ad i)=none
 ns:∀i,i<=n->ad i≠s
 inj:∀i j,i<=n->j<=n->ad i=ad j->i=j
 old:∀i,i<=n->H1 (ad i)≠none
 top:H s=some (.lst ((List.range (n+1)).map λi=>V.ref (ad i)))
 row:∀i,i<=n->H (ad i)=some (.lst (rwv n (T i)))
 sm:Same H0 H
 gr:∀b,H b=none->H1 b=none
section
variable{H0 H1 H H':Hp}{s:Addr}{ad:Nat->Addr}{n:Nat}{T T':Nat->Nat->V}
theorem Tv.same(t:Tv H0 H1 H s ad n T)(h:Same H H'):Tv H0 H1 H' s ad n T:=⟨t.fs,t.fa,t.ns,t.inj,t.old,h _ _ t.top,λi hi=>h _ _ (t.row i hi),t.sm.trans h,λb z=>t.gr b (h.free z)⟩
theorem Tv.at(t:Tv H0 H1 H s ad n T){i:Nat}(hi:i<=n):((List.range (n+1)).map λi=>V.ref (ad i))[i]? =some (.ref (ad i)):=by
 rw[List.getElem?_map,List.getElem?_range (by omega)];rfl
theorem Tv.set(t:Tv H0 H1 H s ad n T){i j:Nat}{v:V}(hi:i<=n):Tv H0 H1 (upd H (ad i) (.lst ((rwv n (T i)).set j v))) s ad n (λa b=>if a=i then(if b=j then v else T a b)else T a b):=by
 refine⟨t.fs,t.fa,t.ns,t.inj,t.old,by rw[zAI (Ne.symm (t.ns i hi))];exact t.top,λa ha=>?_,λb o z=>?_,λb z=>?_⟩
 ·by_cases e:a=i
  ·subst e;rw[zAF,zLS];simp
  ·rw[zAI (λz=>e (t.inj a i ha hi z)),t.row a ha];simp[e]
 ·rw[zAI (zAH z (t.fa i hi))];exact t.sm b o z
 ·by_cases e:b=ad i
  ·subst e;rw[zAF]at z;cases z
  ·rw[zAI e]at z;exact t.gr b z
theorem Tv.keep(t:Tv H0 H1 H s ad n T){i:Nat}(hi:i<=n){o:HO}(b:Addr)(x:HO)(f:H1 b=none)(z:H b=some x):(upd H (ad i) o) b=some x:=by
 have ne:b≠ad i:=λe=>t.old i hi (by rw[<-e];exact f);rw[zAI ne];exact z
end
def spSpansL:Sp:=λvs H Q _=>∃ (p:Addr) (ps:List (List Int)) (k:Nat),vs=[.ref p]/\Pls H p ps/\ps.length<=40/\k<=4/\(∀l∈ps,l.length=2*k/\Sm l)/\
 ∀ (s r:Addr) (rs:List V) (xs:List V) (v:V) (o:O) (H':Hp),Same H H'->H' s=some (.lst (.ref r::rs))->H' r=some (.lst (xs++[v]))->Bt Any H' v o->Best (Dn k 0 ps.length) (wtl (PP ps) 0) o->Q (.ref s) H'
theorem zHS{H:Hp}{p:Addr}{ps:List (List Int)}{k:Nat}{Q:VK}{E:XK}(h1:Pls H p ps)(h2:ps.length<=40)(h3:k<=4)(h4:∀l∈ps,l.length=2*k/\Sm l)
 (q:∀ (s r:Addr) (rs:List V) (xs:List V) (v:V) (o:O) (H':Hp),Same H H'->H' s=some (.lst (.ref r::rs))->H' r=some (.lst (xs++[v]))->Bt Any H' v o->Best (Dn k 0 ps.length) (wtl (PP ps) 0) o->Q (.ref s) H'):spSpansL ([.ref p]++[]) H Q E:=⟨p,ps,k,rfl,h1,h2,h3,h4,q⟩
def brx(l:List Nat):List Nat:=l.map λb=>brs.getD b 0
def Ft(H:Hp)(v:V):O->Prop
 |none=>v= .non
 |some (w,l)=>∃T,v= .ref T/\H T=some (.tup [.int w,tx (brx l)])
def spFirstL:Sp:=λvs H Q _=>∃ (p:Addr) (ps:List (List Int)) (k:Nat),vs=[.ref p]/\Pls H p ps/\ps.length<=40/\k<=4/\(∀l∈ps,l.length=2*k/\Sm l)/\
 ∀ (v:V) (o:O) (H':Hp),Same H H'->Ft H' v o->Best (Dn k 0 ps.length) (wtl (PP ps) 0) o->Q v H'
theorem zEa{ps:List (List Int)}(h:∀l∈ps,Sm l):∀ (l:List Nat) (s:Nat),0<=wtl (PP ps) s l/\wtl (PP ps) s l<=top30^l.length
 |[],s=>by rw[wtl];exact⟨by decide,by decide⟩
 |b::l,s=>by
  obtain⟨a1,a2⟩:=zEa h l (s+1);obtain⟨b1,b2⟩:=zAW h s b;rw[wtl,List.length_cons,Int.pow_succ,Int.mul_comm (top30^l.length)];exact⟨Int.mul_nonneg b1 a1,Int.mul_le_mul b2 a2 a1 (by decide)⟩
theorem zEb{n:Nat}(h:n<=40):top30^n<=top30^40:=by
 have:∀m,top30^n<=top30^(n+m):=by
  intro m
  induction m with
  |zero=>exact Int.le_refl _
  |succ m ih=>
   rw[show n+(m+1)=(n+m)+1 by omega,Int.pow_succ];have h0:0<=top30^(n+m):=Int.pow_nonneg (by decide);have h1:(1:Int)<=top30:=by decide
   calc top30^n<=top30^(n+m)*1:=by rw[Int.mul_one];exact ih
    _<=top30^(n+m)*top30:=Int.mul_le_mul_of_nonneg_left h1 h0
 have:=this (40-n);rwa[show n+(40-n)=40 by omega]at this
theorem zJZ:(top30^40).natAbs<big:=by unfold big top30;decide +kernel
theorem zJL{ps:List (List Int)}(h:∀l∈ps,Sm l){S:List Nat->Prop}{s:Nat}{o:O}(hS:∀l,S l->l.length<=40)(hb:Best S (wtl (PP ps) s) o):Sz o:=by
 rintro w l rfl;obtain⟨b1,b2,_⟩:=hb;have hl:=hS l b1;obtain⟨c1,c2⟩:=zEa h l s;rw[b2]at c1 c2;exact⟨zAf c1 (Int.le_trans c2 (zEb hl)) zJZ,hl⟩
theorem zH5:(top30*top30*top30^40).natAbs<big:=by unfold big top30;decide +kernel
end BrS
namespace PySem
open Sem (wp)
end PySem
namespace L2
open PySem PySem.Spec PyProof.Rows
section
variable{P:Program}{w:World}{K:PySem.W.Frag}{elts:List Expr}{k:Nat}{tpos:Pos}
end
section
variable{X:Cx}{a b:Expr}{ta:TA}{p pos:Pos}{elts:List Expr}{k:Nat}{tpos:Pos}
end
end L2
namespace BrB
open BrM BrC BrS
abbrev Fe:=List Nat×List Nat
def okc(c b:Nat):Bool:=decide (c=63\/c=brs.getD b 0)
end BrB
namespace BrS
open L2 PySem BrM BrC BrB BrR
def chg:List Nat->List Nat->Nat
 |c::a,b::l=>(if okc c b=true then 0 else 1)+chg a l
 |_,_=>0
theorem zIp(c b:Nat):inV (tx [c]) [tx [63],tx [b]]=decide (c=63\/c=b):=by
 unfold inV;simp only[List.any_cons,List.any_nil,zKm]
 by_cases h1:c=63<;>by_cases h2:c=b<;>simp[h1,h2,eq_comm]<;>omega
theorem zJz(ds:List V)(x:V):atI (ds++[x]) (-1)=some x:=zGf (by simp) (by simp)
def Fs(fu:Addr)(H:Hp)(vs:List V)(es:List Fe):Prop:=vs.length=es.length/\∀ (i:Nat) (e:Fe),es[i]? =some e->∃T p s:Addr,vs[i]? =some (V.ref T)/\T≠fu/\p≠fu/\s≠fu/\H T=some (.tup [.ref p, .ref s])/\H p=some (.lst (nL e.1))/\H s=some (.lst (nL e.2.reverse))
theorem Fs.keep{fu:Addr}{H H':Hp}{vs:List V}{es:List Fe}(h:Fs fu H vs es)(k:SameBut1 fu H H'):Fs fu H' vs es:=⟨h.1,λi e he=>by
 obtain⟨T,p,s,a1,a2,a3,a4,a5,a6,a7⟩:=h.2 i e he;exact⟨T,p,s,a1,a2,a3,a4,k _ _ a5 a2,k _ _ a6 a3,k _ _ a7 a4⟩⟩
theorem Fs.nil(fu:Addr)(H:Hp):Fs fu H [] []:=⟨rfl,λi e he=>by simp at he⟩
theorem zCn{α β:Type}(f:α->List β)(n:Nat)(hf:∀x,(f x).length<=n):∀ (l:List α),(l.flatMap f).length<=n*l.length
 |[]=>by simp
 |x::l=>by
  have:=zCn f n hf l;have:=hf x;rw[List.flatMap_cons,List.length_append,List.length_cons,Nat.mul_succ];omega
end BrS
namespace L2
open PySem PySem.Spec PyProof.Rows
section
variable{σ:St}{H:Hp}{Q:VK}{K:PySem.W.Frag}
end
end L2
namespace BrS
open L2 PySem BrM BrC BrB BrR
end BrS
namespace BrS
open L2 PySem PyProof.Rows BrM BrC BrB BrR
theorem zMI{K:PySem.W.Frag}{x:Str}{H:Hp}{Q:VK}(h:Q (.bl false) H):rNeA K (.str x) (.str x) H Q:= .inl ⟨rfl,by rw[decide_eq_true rfl];exact h⟩
end BrS
namespace BrB
open BrM BrC BrS
def sms(L:List Int):Int:=L.foldr (· + ·) 0
theorem zGo(x:Int)(L:List Int):sms (x::L)=x+sms L:=rfl
theorem zEe:∀ (L M:List Int),sms (L++M)=sms L+sms M
 |[],M=>by simp[sms]
 |x::L,M=>by rw[List.cons_append,zGo,zGo,zEe L M];omega
theorem zGn{α β:Type}(f:α->List β)(g:β->Int):∀ (L:List α),sms ((L.flatMap f).map g)=sms (L.map λe=>sms ((f e).map g))
 |[]=>rfl
 |e::L=>by rw[List.flatMap_cons,List.map_append,zEe,zGn f g L];rfl
end BrB
namespace BrS
open L2 PySem PySem.Spec PyProof.Rows BrM BrC BrB BrR
def Gd25(vs:List V)(H:Hp)(k:Int)(a:List Nat)(ws:List Int):Prop:=∃wv,vs=[.int k,tx a,wv]/\1<=k/\k<=4/\isRow k a=true/\WOk H k wv ws
def spWSum25:Sp:=λvs H Q _=>∃k a ws,Gd25 vs H k a ws/\∀H',Same H H'->Q (.int (wsm k.toNat ws a)) H'
def spLik25:Sp:=λvs H Q _=>∃k a ws,Gd25 vs H k a ws/\∀ (v:V) (o:O) (H':Hp),Same H H'->Ft H' v o->Best (Dn k.toNat 0 a.length) (wtl (PP (a.map (plw ws))) 0) o->Q v H'
def wg(ws:List Int):List Nat->List Nat->Int
 |c::a,b::l=>(if c=63 then ws.getD b 0 else 1)*wg ws a l
 |_,_=>1
theorem zKR{ws:List Int}(h:Sm ws):∀ (a l:List Nat),0<=wg ws a l/\wg ws a l<=top30^a.length
 |[],l=>by unfold wg;exact⟨by decide,by decide⟩
 |c::a,[]=>by
  unfold wg;refine⟨by decide,?_⟩;have:(1:Int)<=top30^(c::a).length:=Int.pow_pos (by decide);exact this
 |c::a,b::l=>by
  obtain⟨a1,a2⟩:=zKR h a l;unfold wg;rw[List.length_cons,Int.pow_succ,Int.mul_comm (top30^a.length)];have hb:0<=(if c=63 then ws.getD b 0 else 1)/\(if c=63 then ws.getD b 0 else(1:Int))<=top30:=by
   split
   ·exact h.at b
   ·exact⟨by decide,by decide⟩
  exact⟨Int.mul_nonneg hb.1 a1,Int.mul_le_mul hb.2 a2 a1 (by decide)⟩
theorem zHz{ws:List Int}:∀ {a l:List Nat} {i c b:Nat},a[i]? =some c->l[i]? =some b->wg ws (a.take (i+1)) (l.take (i+1))=wg ws (a.take i) (l.take i)*(if c=63 then ws.getD b 0 else 1)
 |x::a,y::l,0,c,b,h1,h2=>by
  cases h1;cases h2
  rw[List.take_succ_cons,List.take_succ_cons,List.take_zero,List.take_zero,List.take_zero,List.take_zero,wg];show _*wg ws [] []=wg ws [] []*_;unfold wg;rw[Int.mul_one,Int.one_mul]
 |x::a,y::l,i+1,c,b,h1,h2=>by
  have ih:=zHz (ws:=ws) (a:=a) (l:=l) (i:=i) (c:=c) (b:=b) h1 h2;rw[List.take_succ_cons,List.take_succ_cons,List.take_succ_cons,List.take_succ_cons,wg,wg,ih,Int.mul_assoc]
 |[],_,_,_,_,h1,_=>by simp at h1
 |_::_,[],_,_,_,_,h2=>by simp at h2
theorem zMs{ws:List Int}{c b:Nat}(hw:ws.length<=8)(hb:b<ws.length):(plw ws c).getD b 0=if c=63 then ws.getD b 0 else if c=brs.getD b 0 then 1 else 0:=by
 unfold plw
 by_cases h:c=63
 ·rw[if_pos h,if_pos h]
 ·rw[if_neg h,if_neg h,List.getD_eq_getElem?_getD,List.getElem?_map,List.getElem?_take_of_lt hb,zCA (by omega)];rfl
theorem zEB{ws:List Int}{a:List Nat}{i b:Nat}(hi:i<a.length)(hw:ws.length<=8)(hb:b<ws.length):PP (a.map (plw ws)) i b=if a.getD i 0=63 then ws.getD b 0 else if a.getD i 0=brs.getD b 0 then 1 else 0:=by
 show((a.map (plw ws)).getD i []).getD b 0=_;have:(a.map (plw ws)).getD i []=plw ws (a.getD i 0):=by
  simp only[List.getD_eq_getElem?_getD,List.getElem?_map,List.getElem?_eq_getElem hi];rfl
 rw[this,zMs hw hb]
theorem zKQ{ws:List Int}:∀ (a l:List Nat) (P:Nat->Nat->Int) (s:Nat),a.length=l.length->(∀i,i<l.length->P (s+i) (l.getD i 0)=if a.getD i 0=63 then ws.getD (l.getD i 0) 0 else 1)->wtl P s l=wg ws a l
 |[],[],P,s,_,_=>rfl
 |c::a,b::l,P,s,hl,hp=>by
  have h0:P s b=if c=63 then ws.getD b 0 else 1:=hp 0 (by simp)
  have ih:=zKQ (ws:=ws) a l P (s+1) (by simpa using hl) (λi hi=>by
   have:=hp (i+1) (by simpa using hi);rw[show s+1+i=s+(i+1) by omega];exact this)
  rw[wtl,wg,ih,h0]
 |[],_::_,_,_,hl,_=>by cases hl
 |_::_,[],_,_,hl,_=>by cases hl
theorem zGO{x y:Int}(h0:0<=x)(h:x<=y):∀n:Nat,x^n<=y^n
 |0=>by rw[Int.pow_zero,Int.pow_zero];exact Int.le_refl _
 |n+1=>by rw[Int.pow_succ,Int.pow_succ];exact Int.mul_le_mul (zGO h0 h n) h h0 (Int.pow_nonneg (by omega))
theorem zGN{y:Int}(h:1<=y){n m:Nat}(hnm:n<=m):y^n<=y^m:=by
 obtain⟨d,rfl⟩:∃d,m=n+d:=⟨m-n,by omega⟩;clear hnm
 induction d with
 |zero=>exact Int.le_refl _
 |succ d ih=>
  rw[<-Nat.add_assoc,Int.pow_succ];have h0:0<=y^(n+d):=Int.pow_nonneg (by omega)
  calc y^n<=y^(n+d)*1:=by rw[Int.mul_one];exact ih
   _<=y^(n+d)*y:=Int.mul_le_mul_of_nonneg_left h h0
end BrS
namespace BrI
open BrM BrC BrS
theorem zEf(f:Nat->Int)(a:Nat):∀m,sm (a+m) f=sm a f+sm m (λe=>f (a+e))
 |0=>by rw[Nat.add_zero];simp[sm]
 |m+1=>by rw[<-Nat.add_assoc,sm,zEf f a m,sm];omega
theorem zGp{f:Nat->Int}{n a m:Nat}(h:a+m<=n)(h0:∀e,e<n->(e<a\/a+m<=e)->f e=0):sm n f=sm m (λe=>f (a+e)):=by
 obtain⟨d,rfl⟩:∃d,n=a+m+d:=⟨n-(a+m),by omega⟩;rw[zEf f (a+m) d,zEf f a m,sm_zero a λe he=>h0 e (by omega) (.inl he),sm_zero d λe he=>h0 _ (by omega) (.inr (by omega))];omega
section
variable{P:Nat->Nat->Int}{k n:Nat}
theorem zEc(i:Nat):tbl P k i i=1:=by unfold tbl;rw[if_pos (Nat.le_refl _),Nat.sub_self];rfl
theorem zAp{i j:Nat}(h:j<i):tbl P k i j=0:=by unfold tbl;rw[if_neg (by omega)]
theorem zGm{i j:Nat}(h:i<j)(hj:j<=n):tbl P k i j=sm n (λe=>pr P k i e*(tbl P k (i+1) e*tbl P k (e+1) j)):=by
 rw[zGp (a:=i+1) (m:=j-i-1) (by omega) (λe he z=>by
  rcases z with z|z
  ·rw[zAp (i:=i+1) (j:=e) z];simp
  ·rw[zAp (i:=e+1) (j:=j) (by omega)];simp)]
 unfold tbl;rw[if_pos (by omega),show j-i=(j-i-1)+1 by omega,zFh];refine zAK _ λe he=>?_;rw[if_pos (by omega),if_pos (by omega),show i+1+e-(i+1)=e by omega,show j-(i+1+e+1)=j-i-1-e-1 by omega,show i+1+e+1=i+e+2 by omega,Int.mul_assoc]
theorem zH6{i t:Nat}(h:i<=t)(ht:t<n):tbl P k i (t+1)=sm n (λs=>tbl P k i s*(pr P k s t*tbl P k (s+1) t)):=by
 rw[zGp (a:=i) (m:=t-i) (by omega) (λe he z=>by
  rcases z with z|z
  ·rw[zAp (i:=i) (j:=e) z];simp
  ·rw[zAp (i:=e+1) (j:=t) (by omega)];simp)]
 unfold tbl;rw[if_pos (by omega),show t+1-i=(t-i)+1 by omega,zGW (t-i) (t-i) i (Nat.le_refl _)];refine zAK _ λe he=>?_;rw[if_pos (by omega),if_pos (by omega),show i+e-i=e by omega,show t-(i+e+1)=t-i-e-1 by omega,show i+(t-i)=t by omega,Int.mul_assoc]
def Of(P:Nat->Nat->Int)(k n:Nat):Nat->Nat->Nat->Int
 |0,_,_=>0
 |f+1,t,j=>(if j=n then tbl P k 0 t else 0)+sm n (λu=>tbl P k (u+1) t*(pr P k u j*sm (n+1) (λs=>Of P k n f u s*tbl P k (j+1) s)))
theorem zJT:∀ (f t j:Nat),t<f->Of P k n f t j=Of P k n (f+1) t j
 |0,t,j,h=>absurd h (Nat.not_lt_zero _)
 |f+1,t,j,h=>by
  rw[Of,Of.eq_def (n:=n) (P:=P) (k:=k) (f+1+1)];simp only;congr 1;refine zAK n λu hu=>?_
  by_cases e:u<t
  ·congr 2;exact zAK (n+1) λs _=>by rw[zJT f u s (by omega)]
  ·rw[zAp (i:=u+1) (j:=t) (by omega)];simp
def Oo(P:Nat->Nat->Int)(k n t j:Nat):Int:=Of P k n (n+1) t j
def out(P:Nat->Nat->Int)(k n u j:Nat):Int:=sm (n+1) (λs=>Oo P k n u s*tbl P k (j+1) s)
theorem zJS{t j:Nat}(h:t<=n):Oo P k n t j=(if j=n then tbl P k 0 t else 0)+sm n (λu=>tbl P k (u+1) t*(pr P k u j*out P k n u j)):=by
 unfold Oo out;rw[Of];congr 1;refine zAK n λu hu=>?_
 by_cases e:u<t
 ·congr 2;refine zAK (n+1) λs _=>?_;unfold Oo;rw[zJT n u s (by omega)]
 ·rw[zAp (i:=u+1) (j:=t) (by omega)];simp
theorem zFB(j:Nat):Oo P k n 0 j=if j=n then 1 else 0:=by
 rw[zJS (Nat.zero_le _),zEc,sm_zero n λu _=>by rw[zAp (i:=u+1) (j:=0) (by omega)];simp];omega
theorem zGg{t j:Nat}(h:t<n):Oo P k n (t+1) j=pr P k t j*out P k n t j+sm n (λs=>Oo P k n s j*(pr P k s t*tbl P k (s+1) t)):=by
 rw[zJS (by omega)];have e1:sm n (λu=>tbl P k (u+1) (t+1)*(pr P k u j*out P k n u j))=pr P k t j*out P k n t j+sm n (λu=>(if u<t then tbl P k (u+1) (t+1)else 0)*(pr P k u j*out P k n u j)):=by
  have h1:sm n (λu=>(if u=t then pr P k t j*out P k n t j else 0)+(if u<t then tbl P k (u+1) (t+1)else 0)*(pr P k u j*out P k n u j))=sm n (λu=>tbl P k (u+1) (t+1)*(pr P k u j*out P k n u j)):=zAK n λu _=>by
   by_cases z:u=t
   ·subst z;rw[if_pos rfl,if_neg (Nat.lt_irrefl _),zEc];simp
   ·rw[if_neg z]
    by_cases w:u<t
    ·rw[if_pos w];omega
    ·rw[if_neg w,zAp (i:=u+1) (j:=t+1) (by omega)];simp
  rw[<-h1,zCp];congr 1;exact(zCa (f:=λu=>if u=t then pr P k t j*out P k n t j else 0) h (λi _ hi=>if_neg hi)).trans (if_pos rfl)
 have e2:∀s,s<n->Oo P k n s j*(pr P k s t*tbl P k (s+1) t)=(if j=n then tbl P k 0 s else 0)*(pr P k s t*tbl P k (s+1) t)+sm n (λu=>tbl P k (u+1) s*(pr P k u j*out P k n u j)*(pr P k s t*tbl P k (s+1) t)):=λs hs=>by
  rw[zJS (by omega),Int.add_mul,zB0]
 rw[e1,zAK n e2,zCp,zB1];have e3:(if j=n then tbl P k 0 (t+1)else 0)=sm n (λs=>(if j=n then tbl P k 0 s else 0)*(pr P k s t*tbl P k (s+1) t)):=by
  by_cases z:j=n
  ·rw[if_pos z,zH6 (n:=n) (Nat.zero_le _) h];exact zAK n λs _=>by rw[if_pos z]
  ·rw[if_neg z,sm_zero n λs _=>by rw[if_neg z];simp]
 have e4:sm n (λu=>(if u<t then tbl P k (u+1) (t+1)else 0)*(pr P k u j*out P k n u j))=sm n (λu=>sm n (λs=>tbl P k (u+1) s*(pr P k u j*out P k n u j)*(pr P k s t*tbl P k (s+1) t))):=zAK n λu _=>by
  by_cases w:u<t
  ·rw[if_pos w,zH6 (n:=n) (by omega) h,<-zB0];exact zAK n λs _=>Int.mul_right_comm _ _ _
  ·rw[if_neg w,Int.zero_mul,sm_zero n λs hs=>?_]
   by_cases z:s<t
   ·rw[zAp (i:=u+1) (j:=s) (by omega)];simp
   ·rw[zAp (i:=s+1) (j:=t) (by omega)];simp
 rw[e3,e4];omega
theorem zGh:∀s,s<=n->sm (n+1) (λt=>Oo P k n s t*tbl P k s t)=tbl P k 0 n
 |0,_=>by
  rw[zCa (f:=λt=>Oo P k n 0 t*tbl P k 0 t) (i:=n) (by omega) λj _ hj=>by rw[zFB,if_neg hj,Int.zero_mul]];rw[zFB,if_pos rfl,Int.one_mul]
 |s+1,h=>by
  rw[<-zGh s (by omega)];have hs:s<n:=h;have a1:sm (n+1) (λt=>Oo P k n s t*tbl P k s t)=Oo P k n s s+sm n (λe=>pr P k s e*(tbl P k (s+1) e*out P k n s e)):=by
   have h1:∀t,t<n+1->Oo P k n s t*tbl P k s t=(if t=s then Oo P k n s s else 0)+sm n (λe=>pr P k s e*(tbl P k (s+1) e*(Oo P k n s t*tbl P k (e+1) t))):=λt ht=>by
    by_cases z:t=s
    ·subst z;rw[zEc,if_pos rfl,sm_zero n λe _=>?_]
     ·omega
     ·by_cases w:e+1<=t
      ·rw[zAp (i:=t+1) (j:=e) (by omega)];simp
      ·rw[zAp (i:=e+1) (j:=t) (by omega)];simp
    ·rw[if_neg z,Int.zero_add]
     by_cases w:s<t
     ·rw[zGm (n:=n) w (by omega),<-zBK];exact zAK n λe _=>by
       rw[Int.mul_left_comm,Int.mul_left_comm (Oo P k n s t)]
     ·rw[zAp (i:=s) (j:=t) (by omega),Int.mul_zero,sm_zero n λe _=>?_]
      by_cases y:e+1<=t
      ·rw[zAp (i:=s+1) (j:=e) (by omega)];simp
      ·rw[zAp (i:=e+1) (j:=t) (by omega)];simp
   rw[zAK (n+1) h1,zCp,zB1];congr 1
   ·exact(zCa (f:=λt=>if t=s then Oo P k n s s else 0) (by omega) (λi _ hi=>if_neg hi)).trans (if_pos rfl)
   ·refine zAK n λe _=>?_;unfold out;rw[<-zBK,<-zBK]
  have a2:sm (n+1) (λt=>Oo P k n (s+1) t*tbl P k (s+1) t)=sm n (λe=>pr P k s e*(tbl P k (s+1) e*out P k n s e))+sm n (λu=>pr P k u s*(tbl P k (u+1) s*out P k n u s)):=by
   have h1:∀t,t<n+1->Oo P k n (s+1) t*tbl P k (s+1) t=pr P k s t*(tbl P k (s+1) t*out P k n s t)+sm n (λu=>pr P k u s*(tbl P k (u+1) s*(Oo P k n u t*tbl P k (s+1) t))):=λt ht=>by
    rw[zGg hs,Int.add_mul,<-zB0];congr 1
    ·rw[Int.mul_assoc,Int.mul_comm (out P k n s t)]
    ·exact zAK n λu _=>by
      rw[Int.mul_assoc,Int.mul_assoc,Int.mul_left_comm (Oo P k n u t),Int.mul_left_comm (Oo P k n u t)]
   rw[zAK (n+1) h1,zCp,zB1];congr 1
   ·rw[sm];have:out P k n s n=0:=by
     unfold out;refine sm_zero (n+1) λt ht=>?_;rw[zAp (i:=n+1) (j:=t) (by omega)];simp
    rw[this];simp
   ·refine zAK n λu _=>?_;unfold out;rw[<-zBK,<-zBK]
  have a3:Oo P k n s s=sm n (λu=>pr P k u s*(tbl P k (u+1) s*out P k n u s)):=by
   rw[zJS (by omega),if_neg (by omega),Int.zero_add];exact zAK n λu _=>by rw[Int.mul_left_comm]
  rw[a1,a2,a3];omega
end
section
variable{P P':Nat->Nat->Int}{k n i:Nat}
theorem zDQ{x y:Nat}(h:∀j b,j≠i->P' j b=P j b)(hx:y<=i\/i<x):tbl P' k x y=tbl P k x y:=by
 unfold tbl
 by_cases z:x<=y
 ·rw[if_pos z,if_pos z];exact zHE _ _ _ λj b h1 h2=>h j b (by omega)
 ·rw[if_neg z,if_neg z]
theorem zMq{x y:Nat}(h:∀j b,j≠i->P' j b=P j b)(hx:x≠i)(hy:y≠i):pr P' k x y=pr P k x y:=by
 unfold pr;exact zAK k λp _=>by rw[h x _ hx,h y _ hy]
theorem zKt(h:∀j b,j≠i->P' j b=P j b):∀ (f t j:Nat),t<=i->i<j->Of P' k n f t j=Of P k n f t j
 |0,_,_,_,_=>rfl
 |f+1,t,j,ht,hj=>by
  rw[Of,Of];congr 1
  ·rw[zDQ h (.inl ht)]
  ·refine zAK n λu hu=>?_
   by_cases e:u<t
   ·rw[zDQ h (x:=u+1) (y:=t) (.inl ht),zMq h (x:=u) (y:=j) (by omega) (by omega)];congr 2;refine zAK (n+1) λs hs=>?_
    by_cases z:j+1<=s
    ·rw[zKt h f u s (by omega) (by omega),zDQ h (x:=j+1) (y:=s) (.inr (by omega))]
    ·rw[zAp (P:=P') (i:=j+1) (j:=s) (by omega),zAp (P:=P) (i:=j+1) (j:=s) (by omega),Int.mul_zero,Int.mul_zero]
   ·rw[zAp (P:=P') (i:=u+1) (j:=t) (by omega),zAp (P:=P) (i:=u+1) (j:=t) (by omega),Int.zero_mul,Int.zero_mul]
theorem zEs(h:∀j b,j≠i->P' j b=P j b){u j:Nat}(hu:u<=i)(hj:i<=j):out P' k n u j=out P k n u j:=by
 unfold out;refine zAK (n+1) λs hs=>?_
 by_cases z:j+1<=s
 ·unfold Oo;rw[zKt h (n+1) u s hu (by omega),zDQ h (x:=j+1) (y:=s) (.inr (by omega))]
 ·rw[zAp (P:=P') (i:=j+1) (j:=s) (by omega),zAp (P:=P) (i:=j+1) (j:=s) (by omega),Int.mul_zero,Int.mul_zero]
def Pat(P:Nat->Nat->Int)(i b:Nat):Nat->Nat->Int:=λj c=>if j=i/\c≠b then 0 else P j c
theorem zJR(P:Nat->Nat->Int)(i b:Nat):∀j c,j≠i->Pat P i b j c=P j c:=λj c h=>if_neg λz=>h z.1
theorem zKs(P:Nat->Nat->Int)(i b:Nat):Pat P i b i b=P i b:=if_neg λz=>z.2 rfl
theorem zHP(P:Nat->Nat->Int)(i b:Nat){c:Nat}(h:c≠b):Pat P i b i c=0:=if_pos ⟨rfl,h⟩
theorem zDk(P:Nat->Nat->Int)(h:i<n):tbl P k 0 n=sm n (λu=>pr P k u i*(tbl P k (u+1) i*out P k n u i))+sm n (λe=>pr P k i e*(tbl P k (i+1) e*out P k n i e)):=by
 rw[<-zGh i (by omega)];have a1:sm (n+1) (λt=>Oo P k n i t*tbl P k i t)=Oo P k n i i+sm n (λe=>pr P k i e*(tbl P k (i+1) e*out P k n i e)):=by
  have h1:∀t,t<n+1->Oo P k n i t*tbl P k i t=(if t=i then Oo P k n i i else 0)+sm n (λe=>pr P k i e*(tbl P k (i+1) e*(Oo P k n i t*tbl P k (e+1) t))):=λt ht=>by
   by_cases z:t=i
   ·subst z;rw[zEc,if_pos rfl,sm_zero n λe _=>?_]
    ·omega
    ·by_cases w:e+1<=t
     ·rw[zAp (i:=t+1) (j:=e) (by omega)];simp
     ·rw[zAp (i:=e+1) (j:=t) (by omega)];simp
   ·rw[if_neg z,Int.zero_add]
    by_cases w:i<t
    ·rw[zGm (n:=n) w (by omega),<-zBK];exact zAK n λe _=>by rw[Int.mul_left_comm,Int.mul_left_comm (Oo P k n i t)]
    ·rw[zAp (i:=i) (j:=t) (by omega),Int.mul_zero,sm_zero n λe _=>?_]
     by_cases y:e+1<=t
     ·rw[zAp (i:=i+1) (j:=e) (by omega)];simp
     ·rw[zAp (i:=e+1) (j:=t) (by omega)];simp
  rw[zAK (n+1) h1,zCp,zB1];congr 1
  ·exact(zCa (f:=λt=>if t=i then Oo P k n i i else 0) (by omega) (λi _ hi=>if_neg hi)).trans (if_pos rfl)
  ·refine zAK n λe _=>?_;unfold out;rw[<-zBK,<-zBK]
 have a3:Oo P k n i i=sm n (λu=>pr P k u i*(tbl P k (u+1) i*out P k n u i)):=by
  rw[zJS (by omega),if_neg (by omega),Int.zero_add];exact zAK n λu _=>by rw[Int.mul_left_comm]
 rw[a1,a3]
theorem zD8(P:Nat->Nat->Int){p:Nat}(h:i<n)(hp:p<k):tbl (Pat P i (2*p)) k 0 n=sm n (λe=>P i (2*p)*P e (2*p+1)*(tbl P k (i+1) e*out P k n i e)):=by
 have off:=zJR P i (2*p);rw[zDk _ h];have z1:∀u,u<n->pr (Pat P i (2*p)) k u i*(tbl (Pat P i (2*p)) k (u+1) i*out (Pat P i (2*p)) k n u i)=0:=λu _=>by
  have:pr (Pat P i (2*p)) k u i=0:=by
   unfold pr;exact sm_zero k λq _=>by rw[zHP P i (2*p) (c:=2*q+1) (by omega),Int.mul_zero]
  rw[this,Int.zero_mul]
 rw[sm_zero n z1,Int.zero_add];refine zAK n λe _=>?_
 by_cases z:i+1<=e
 ·rw[zDQ off (x:=i+1) (y:=e) (.inr (by omega)),zEs off (Nat.le_refl _) (by omega)];congr 1;unfold pr;rw[zCa (f:=λq=>Pat P i (2*p) i (2*q)*Pat P i (2*p) e (2*q+1)) hp (λq _ hq=>by rw[zHP P i (2*p) (c:=2*q) (by omega),Int.zero_mul])];rw[zKs,off e _ (by omega)]
 ·rw[zAp (P:=Pat P i (2*p)) (i:=i+1) (j:=e) (by omega),zAp (P:=P) (i:=i+1) (j:=e) (by omega)];simp
theorem zC3(P:Nat->Nat->Int){p:Nat}(h:i<n)(hp:p<k):tbl (Pat P i (2*p+1)) k 0 n=sm n (λu=>P u (2*p)*P i (2*p+1)*(tbl P k (u+1) i*out P k n u i)):=by
 have off:=zJR P i (2*p+1);rw[zDk _ h];have z1:∀e,e<n->pr (Pat P i (2*p+1)) k i e*(tbl (Pat P i (2*p+1)) k (i+1) e*out (Pat P i (2*p+1)) k n i e)=0:=λe _=>by
  have:pr (Pat P i (2*p+1)) k i e=0:=by
   unfold pr;exact sm_zero k λq _=>by rw[zHP P i (2*p+1) (c:=2*q) (by omega),Int.zero_mul]
  rw[this,Int.zero_mul]
 rw[sm_zero n z1,Int.add_zero];refine zAK n λu _=>?_
 by_cases z:u+1<=i
 ·rw[zDQ off (x:=u+1) (y:=i) (.inl (Nat.le_refl _)),zEs off (by omega) (Nat.le_refl _)];congr 1;unfold pr;rw[zCa (f:=λq=>Pat P i (2*p+1) u (2*q)*Pat P i (2*p+1) i (2*q+1)) hp (λq _ hq=>by rw[zHP P i (2*p+1) (c:=2*q+1) (by omega),Int.mul_zero])];rw[zKs,off u _ (by omega)]
 ·rw[zAp (P:=Pat P i (2*p+1)) (i:=u+1) (j:=i) (by omega),zAp (P:=P) (i:=u+1) (j:=i) (by omega)];simp
end
section
variable{P:Nat->Nat->Int}{k n:Nat}{c:Int}
theorem ipl{x y:Int}(h0:0<=x)(h:x<=y):∀n:Nat,x^n<=y^n
 |0=>by rw[Int.pow_zero,Int.pow_zero];exact Int.le_refl _
 |n+1=>by rw[Int.pow_succ,Int.pow_succ];exact Int.mul_le_mul (ipl h0 h n) h h0 (Int.pow_nonneg (by omega))
theorem zK1(hc:1<=c)(h0:∀i b,0<=P i b)(h1:∀i b,P i b<=c)(hk:k<=4)(x y:Nat):0<=tbl P k x y/\tbl P k x y<=(5*c)^(y-x):=by
 unfold tbl
 by_cases z:x<=y
 ·rw[if_pos z];obtain⟨a,b⟩:=zDg (P:=P) (k:=k) (c:=c) (by omega) h0 h1 (y-x) x [];refine⟨a,Int.le_trans b (ipl (Int.mul_nonneg (by omega) (by omega)) ?_ _)⟩;exact Int.mul_le_mul_of_nonneg_right (by omega) (by omega)
 ·rw[if_neg z];exact⟨Int.le_refl _,Int.pow_nonneg (by omega)⟩
theorem zOP(hc:1<=c)(h0:∀i b,0<=P i b)(h1:∀i b,P i b<=c)(hk:k<=4)(x y:Nat):0<=pr P k x y/\pr P k x y<=(5*c)^2:=by
 have hb:∀p,p<k->0<=P x (2*p)*P y (2*p+1)/\P x (2*p)*P y (2*p+1)<=c*c:=λp _=>⟨Int.mul_nonneg (h0 _ _) (h0 _ _),Int.mul_le_mul (h1 _ _) (h1 _ _) (h0 _ _) (by omega)⟩;unfold pr;refine⟨zAy k λp hp=>(hb p hp).1,?_⟩;refine Int.le_trans (zC5 k λp hp=>(hb p hp).2) ?_;rw[zCR];have hcc:0<=c*c:=Int.mul_nonneg (by omega) (by omega);have e:(5*c)^2=25*(c*c):=by rw[show(2:Nat)=1+1 from rfl,Int.pow_succ,Int.pow_succ,Int.pow_zero,Int.one_mul,Int.mul_assoc,Int.mul_left_comm c,<-Int.mul_assoc];rfl
 rw[e];exact Int.mul_le_mul_of_nonneg_right (by omega) hcc
theorem up2{D:Int}(hD:0<=D){m E:Nat}(h:2<=m):10000*((100*D)^E*D^m)<=(100*D)^(E+m):=by
 have h1:(10000:Int)*D^m<=(100*D)^m:=by
  obtain⟨d,rfl⟩:∃d,m=2+d:=⟨m-2,by omega⟩;rw[Int.mul_pow];refine Int.mul_le_mul_of_nonneg_right ?_ (Int.pow_nonneg hD);rw[Int.pow_add];have:(1:Int)<=100^d:=Int.pow_pos (by decide);have e:(100:Int)^2=10000:=by decide
  rw[e];omega
 rw[Int.pow_add,Int.mul_left_comm];exact Int.mul_le_mul_of_nonneg_left h1 (Int.pow_nonneg (by omega))
theorem zKU{f:Nat->Int}{Y:Int}{m:Nat}(h:∀i,i<m->10000*f i<=Y):10000*sm m f<=m*Y:=by
 rw[<-zBK];refine Int.le_trans (zC5 m h) ?_;rw[zCR];exact Int.le_refl _
theorem zE9{P:Nat->Nat->Int}{k:Nat}(h0:∀i b,0<=P i b):∀ (n i:Nat) (st:List Nat),0<=cv P k n i st
 |0,_,[]=>by rw[cv];decide
 |0,_,_::_=>by rw[cv];decide
 |n+1,i,[]=>by rw[zBu];exact zAy k λp _=>Int.mul_nonneg (h0 _ _) (zE9 h0 _ _ _)
 |n+1,i,o::r=>by rw[zBM];exact Int.add_nonneg (zAy k λp _=>Int.mul_nonneg (h0 _ _) (zE9 h0 _ _ _)) (Int.mul_nonneg (h0 _ _) (zE9 h0 _ _ _))
theorem zKO(h0:∀i b,0<=P i b):∀ (f t j:Nat),0<=Of P k n f t j
 |0,_,_=>Int.le_refl _
 |f+1,t,j=>by
  have tb0:∀x y,0<=tbl P k x y:=λx y=>by
   unfold tbl
   split
   ·exact zE9 h0 _ _ _
   ·exact Int.le_refl _
  have pr0:∀x y,0<=pr P k x y:=λx y=>zAy k λp _=>Int.mul_nonneg (h0 _ _) (h0 _ _);rw[Of];refine Int.add_nonneg ?_ (zAy n λu _=>Int.mul_nonneg (tb0 _ _) (Int.mul_nonneg (pr0 _ _) (zAy (n+1) λs _=>Int.mul_nonneg (zKO h0 f u s) (tb0 _ _))))
  split
  ·exact tb0 _ _
  ·exact Int.le_refl _
theorem zNd(hc:1<=c)(h0:∀i b,0<=P i b)(h1:∀i b,P i b<=c)(hk:k<=4)(hn:n<=40):∀ (t j:Nat),t<=j->j<=n->Oo P k n t j<=(100*(5*c))^(n-j+t)
 |0,j,_,hj=>by
  rw[zFB];have:(1:Int)<=(100*(5*c))^(n-j+0):=Int.pow_pos (by omega)
  split<;>omega
 |t+1,j,ht,hj=>by
  have hD:(0:Int)<=5*c:=by omega
  have T:=zK1 hc h0 h1 hk;have R:=zOP hc h0 h1 hk;have nn:∀x y,0<=Oo P k n x y:=λx y=>zKO h0 _ _ _;rw[zGg (by omega)];have Y0:0<=(100*(5*c))^(n-j+(t+1)):=Int.pow_nonneg (by omega);have a1:10000*(pr P k t j*out P k n t j)<=((n+1:Nat):Int)*(100*(5*c))^(n-j+(t+1)):=by
   unfold out;rw[<-zBK];refine zKU λs hs=>?_
   by_cases z:j+1<=s
   ·have b1:=zNd hc h0 h1 hk hn t s (by omega) (by omega);have b2:=T (j+1) s;have b3:=R t j;have b4:pr P k t j*(Oo P k n t s*tbl P k (j+1) s)<=(100*(5*c))^(n-s+t)*(5*c)^(s-j+1):=by
     refine Int.le_trans (Int.mul_le_mul b3.2 (Int.mul_le_mul b1 b2.2 b2.1 (Int.pow_nonneg (by omega))) (Int.mul_nonneg (nn _ _) b2.1) (Int.pow_nonneg hD)) ?_;rw[Int.mul_left_comm,<-Int.pow_add,show 2+(s-(j+1))=s-j+1 by omega];exact Int.le_refl _
    refine Int.le_trans (Int.mul_le_mul_of_nonneg_left b4 (by decide)) (Int.le_trans (up2 hD (by omega)) ?_);rw[show n-s+t+(s-j+1)=n-j+(t+1) by omega];exact Int.le_refl _
   ·rw[zAp (i:=j+1) (j:=s) (by omega)];simpa using Y0
  have a2:10000*sm n (λs=>Oo P k n s j*(pr P k s t*tbl P k (s+1) t))<=(n:Int)*(100*(5*c))^(n-j+(t+1)):=by
   refine zKU λs hs=>?_
   by_cases z:s<t
   ·have b1:=zNd hc h0 h1 hk hn s j (by omega) hj;have b2:=T (s+1) t;have b3:=R s t;have b4:Oo P k n s j*(pr P k s t*tbl P k (s+1) t)<=(100*(5*c))^(n-j+s)*(5*c)^(t-s+1):=by
     refine Int.le_trans (Int.mul_le_mul b1 (Int.mul_le_mul b3.2 b2.2 b2.1 (Int.pow_nonneg hD)) (Int.mul_nonneg b3.1 b2.1) (Int.pow_nonneg (by omega))) ?_;rw[<-Int.pow_add,show 2+(t-(s+1))=t-s+1 by omega];exact Int.le_refl _
    refine Int.le_trans (Int.mul_le_mul_of_nonneg_left b4 (by decide)) (Int.le_trans (up2 hD (by omega)) ?_);rw[show n-j+s+(t-s+1)=n-j+(t+1) by omega];exact Int.le_refl _
   ·rw[zAp (i:=s+1) (j:=t) (by omega)];simpa using Y0
  generalize(100*(5*c))^(n-j+(t+1))=Y at*
  generalize pr P k t j*out P k n t j=A at*
  generalize sm n (λs=>Oo P k n s j*(pr P k s t*tbl P k (s+1) t))=B at*
  have e1:((n+1:Nat):Int)*Y<=41*Y:=Int.mul_le_mul_of_nonneg_right (by omega) Y0;have e2:(n:Int)*Y<=40*Y:=Int.mul_le_mul_of_nonneg_right (by omega) Y0;omega
end
end BrI
namespace BrS
open L2 PySem BrM BrC BrB BrI BrR
def prs(n:Nat):List (Nat×Nat):=(List.range n).flatMap λs=>(List.range ((n-s)/2)).map λq=>(s,s+1+2*q)
def rst(P:Nat->Nat->Int)(k n s e:Nat):Int:=tbl P k (s+1) e*out P k n s e
def Fp(P:Nat->Nat->Int)(k n:Nat)(H:Hp)(vs:List V)(L:List (Nat×Nat)):Prop:=vs.length=L.length/\∀ (m:Nat) (x:Nat×Nat),L[m]? =some x->∃T:Addr,vs[m]? =some (V.ref T)/\H T=some (.tup [.int x.1, .int x.2, .int (rst P k n x.1 x.2)])
theorem Fp.same{P:Nat->Nat->Int}{k n:Nat}{H H':Hp}{vs:List V}{L:List (Nat×Nat)}(h:Fp P k n H vs L)(s:Same H H'):Fp P k n H' vs L:=⟨h.1,λm x hx=>let⟨T,a,b⟩:=h.2 m x hx;⟨T,a,s _ _ b⟩⟩
theorem Fp.lst{P:Nat->Nat->Int}{k n:Nat}{H:Hp}{vs:List V}{L:List (Nat×Nat)}{a:Addr}{xs:List V}{o:HO}(h:Fp P k n H vs L)(ha:H a=some (.lst xs)):Fp P k n (upd H a o) vs L:=⟨h.1,λm x hx=>by
 obtain⟨T,e,b⟩:=h.2 m x hx;exact⟨T,e,by rw[zAI (zJw b ha (λz=>by cases z))];exact b⟩⟩
theorem Fp.more{P:Nat->Nat->Int}{k n:Nat}{H:Hp}{vs:List V}{L:List (Nat×Nat)}{T:Addr}{s e:Nat}(h:Fp P k n H vs L)(b:H T=some (.tup [.int (s:Int), .int (e:Int), .int (rst P k n s e)])):Fp P k n H (vs++[.ref T]) (L++[(s,e)]):=by
 refine⟨by rw[List.length_append,List.length_append,h.1];rfl,λi x hx=>?_⟩
 by_cases c:i<L.length
 ·rw[List.getElem?_append_left c]at hx;obtain⟨T',b1,b2⟩:=h.2 i x hx;exact⟨T',by rw[List.getElem?_append_left (by rw[h.1];exact c)];exact b1,b2⟩
 ·rw[List.getElem?_append_right (by omega)]at hx;have hi:i=L.length:=by
   have:=(List.getElem?_eq_some_iff.mp hx).1;simp at this;omega
  subst hi;rw[Nat.sub_self]at hx
  cases hx
  exact⟨T,by rw[List.getElem?_append_right (by rw[h.1];exact Nat.le_refl _),h.1,Nat.sub_self];rfl,b⟩
theorem Tb.but{H0 H H':Hp}{s F:Addr}{ad:Nat->Addr}{n:Nat}{T:Nat->Nat->Int}(t:Tb H0 H s ad n T)(hF:H0 F=none)(h1:F≠s)(h2:∀i,i<=n->F≠ad i)(h:SameBut1 F H H'):Tb H0 H' s ad n T:=
 ⟨t.fs,t.fa,t.ns,t.inj,h _ _ t.top h1.symm,λi hi=>h _ _ (t.row i hi) (h2 i hi).symm,λb o z=>h _ _ (t.sm b o z) (zAH z hF)⟩
def ot(P:Nat->Nat->Int)(k n s q r i j:Nat):Int:=
 if i<=s then Oo P k n i j else
  sm s (λu=>Oo P k n u j*(pr P k u (i-1)*tbl P k (u+1) (i-1)))+
  (if s<i-1/\(i-1<s+1+2*q\/(i-1=s+1+2*q/\j<r))then Oo P k n s j*(pr P k s (i-1)*tbl P k (s+1) (i-1))else 0)+
  (if i=s+1/\j<s+1+2*q then pr P k s j*out P k n s j else 0)
def OkT(P:Nat->Nat->Int)(k n s q r:Nat)(T:Nat->Nat->Int):Prop:=∀i j,i<=j->j<=n->(j-i)%2=0->T i j=ot P k n s q r i j
theorem zEN{P:Nat->Nat->Int}{k x y:Nat}(h:(y-x)%2=1):tbl P k x y=0:=by
 unfold tbl
 split
 ·exact zD7 _ _ _ (by simpa using h)
 ·rfl
theorem OkT.zero{P:Nat->Nat->Int}{k n:Nat}{T:Nat->Nat->Int}(h:∀i j,T i j=if i=0/\j=n then 1 else 0):OkT P k n 0 0 0 T:=by
 intro i j h1 h2 h3;rw[h];unfold ot
 by_cases e:i=0
 ·subst e;rw[if_pos (Nat.le_refl _),zFB]
  by_cases z:j=n
  ·rw[if_pos ⟨rfl,z⟩,if_pos z]
  ·rw[if_neg (λw=>z w.2),if_neg z]
 ·rw[if_neg (λw=>e w.1),if_neg (by omega),if_neg (by omega),if_neg (by omega)];rfl
theorem OkT.start{P:Nat->Nat->Int}{k n s:Nat}{T:Nat->Nat->Int}(hs:s<n)(h:OkT P k n s ((n-s)/2) 0 T):OkT P k n (s+1) 0 0 T:=by
 intro i j h1 h2 h3;rw[h i j h1 h2 h3];unfold ot
 by_cases e:i<=s
 ·rw[if_pos e,if_pos (by omega)]
 ·rw[if_neg e]
  by_cases e2:i=s+1
  ·subst e2;rw[if_pos (Nat.le_refl _),if_neg (by omega),zGg hs];have e3:sm n (λu=>Oo P k n u j*(pr P k u s*tbl P k (u+1) s))=sm s (λu=>Oo P k n u j*(pr P k u s*tbl P k (u+1) s)):=by
    refine(zGp (a:=0) (m:=s) (by omega) λe _ z=>?_).trans (zAK s λu _=>by rw[Nat.zero_add]);rw[zAp (i:=e+1) (j:=s) (by omega)];simp
   rw[e3,show s+1-1=s from rfl]
   by_cases z:j<s+1+2*((n-s)/2)
   ·rw[if_pos ⟨rfl,z⟩];omega
   ·rw[if_neg (λw=>z w.2)];have hj:j=n:=by omega
    have:out P k n s j=0:=by
     unfold out;refine BrC.sm_zero (n+1) λt ht=>?_;rw[zAp (i:=j+1) (j:=t) (by omega)];simp
    rw[this];omega
  ·rw[if_pos (show s<i-1/\(i-1<s+1+2*((n-s)/2)\/(i-1=s+1+2*((n-s)/2)/\j<0))from⟨by omega, .inl (by omega)⟩),if_neg (show¬ (i=s+1/\j<s+1+2*((n-s)/2))from λw=>e2 w.1),if_neg (show¬i<=s+1 by omega),if_neg (show¬ (s+1<i-1/\(i-1<s+1+1+2*0\/(i-1=s+1+1+2*0/\j<0))) by omega),if_neg (show¬ (i=s+1+1/\j<s+1+1+2*0) by omega),sm];omega
theorem OkT.stop{P:Nat->Nat->Int}{k n s q r:Nat}{T:Nat->Nat->Int}{v:Int}(h:OkT P k n s q (s+2+2*q+2*r) T)(hv:v=T (s+2+2*q) (s+2+2*q+2*r)+Oo P k n s (s+2+2*q+2*r)*pr P k s (s+1+2*q)*tbl P k (s+1) (s+1+2*q))(hn:s+2+2*q+2*r<=n):
 OkT P k n s q (s+2+2*q+2*(r+1)) (λa b=>if a=s+2+2*q/\b=s+2+2*q+2*r then v else T a b):=by
 intro i j h1 h2 h3
 dsimp only
 by_cases z:i=s+2+2*q/\j=s+2+2*q+2*r
 ·obtain⟨rfl,rfl⟩:=z;rw[if_pos ⟨rfl,rfl⟩,hv,h _ _ (by omega) hn (by omega)];unfold ot;rw[if_neg (by omega),if_neg (by omega),show s+2+2*q-1=s+1+2*q by omega,if_neg (by omega),if_neg (by omega),if_pos (by omega),Int.mul_assoc];omega
 ·rw[if_neg z,h i j h1 h2 h3];unfold ot
  by_cases e:i<=s
  ·rw[if_pos e,if_pos e]
  ·rw[if_neg e,if_neg e];congr 2
   by_cases w:i-1=s+1+2*q
   ·have hi:i=s+2+2*q:=by omega
    have hj:j≠s+2+2*q+2*r:=λy=>z ⟨hi,y⟩
    by_cases y:j<s+2+2*q+2*r
    ·rw[if_pos (by omega),if_pos (by omega)]
    ·rw[if_neg (by omega),if_neg (by omega)]
   ·by_cases y:s<i-1/\i-1<s+1+2*q
    ·rw[if_pos (by omega),if_pos (by omega)]
    ·rw[if_neg (by omega),if_neg (by omega)]
theorem OkT.fin{P:Nat->Nat->Int}{k n s q r:Nat}{T:Nat->Nat->Int}{v:Int}(h:OkT P k n s q r T)(hr:n<r)(hv:v=T (s+1) (s+1+2*q)+pr P k s (s+1+2*q)*out P k n s (s+1+2*q))(hn:s+1+2*q<n):
 OkT P k n s (q+1) 0 (λa b=>if a=s+1/\b=s+1+2*q then v else T a b):=by
 intro i j h1 h2 h3
 dsimp only
 by_cases z:i=s+1/\j=s+1+2*q
 ·obtain⟨rfl,rfl⟩:=z;rw[if_pos ⟨rfl,rfl⟩,hv,h _ _ (by omega) (by omega) (by omega)];unfold ot;rw[if_neg (by omega),if_neg (by omega),if_neg (by omega),if_neg (by omega),if_neg (by omega),if_pos (by omega)];omega
 ·rw[if_neg z,h i j h1 h2 h3];unfold ot
  by_cases e:i<=s
  ·rw[if_pos e,if_pos e]
  ·rw[if_neg e,if_neg e];have e1:(if s<i-1/\(i-1<s+1+2*q\/(i-1=s+1+2*q/\j<r))then Oo P k n s j*(pr P k s (i-1)*tbl P k (s+1) (i-1))else 0)=(if s<i-1/\(i-1<s+1+2*(q+1)\/(i-1=s+1+2*(q+1)/\j<0))then Oo P k n s j*(pr P k s (i-1)*tbl P k (s+1) (i-1))else 0):=by
    by_cases y:i-1=s+2+2*q
    ·rw[zEN (x:=s+1) (y:=i-1) (by omega)];simp
    ·by_cases w:s<i-1/\i-1<=s+1+2*q
     ·rw[if_pos (by omega),if_pos (by omega)]
     ·rw[if_neg (by omega),if_neg (by omega)]
   have e2:(if i=s+1/\j<s+1+2*q then pr P k s j*out P k n s j else 0)=(if i=s+1/\j<s+1+2*(q+1)then pr P k s j*out P k n s j else 0):=by
    by_cases y:i=s+1
    ·have hj:j≠s+1+2*q:=λw=>z ⟨y,w⟩
     by_cases w:j<s+1+2*q
     ·rw[if_pos (by omega),if_pos (by omega)]
     ·rw[if_neg (by omega),if_neg (by omega)]
    ·rw[if_neg (λw=>y w.1),if_neg (λw=>y w.1)]
   rw[e1,e2]
theorem OkT.row{P:Nat->Nat->Int}{k n s q r j:Nat}{T:Nat->Nat->Int}(h:OkT P k n s q r T)(h1:s<=j)(h2:j<=n)(h3:(j-s)%2=0):T s j=Oo P k n s j:=by
 rw[h s j h1 h2 h3];unfold ot;rw[if_pos (Nat.le_refl _)]
abbrev Cb:Int:=100*(5*top30)
section
variable{ps:List (List Int)}{k n:Nat}
theorem zNc(h:∀l∈ps,Sm l)(hk:k<=4)(hn:n<=40){t j:Nat}(h1:t<=j)(h2:j<=n):0<=Oo (PP ps) k n t j/\Oo (PP ps) k n t j<=Cb^40:=by
 have h0:∀i b,0<=PP ps i b:=λi b=>(zAW h i b).1;exact⟨zKO h0 _ _ _,Int.le_trans (zNd (c:=top30) (by decide) h0 (λi b=>(zAW h i b).2) hk hn t j h1 h2) (zGN (by decide) (by omega))⟩
theorem zM0(h:∀l∈ps,Sm l)(hk:k<=4)(hn:n<=40){s e:Nat}(h1:s<=e)(h2:e<n):0<=out (PP ps) k n s e/\out (PP ps) k n s e<=41*Cb^(n-e-1+s):=by
 have h0:∀i b,0<=PP ps i b:=λi b=>(zAW h i b).1;have T:=zK1 (P:=PP ps) (k:=k) (c:=top30) (by decide) h0 (λi b=>(zAW h i b).2) hk;have Y0:0<=Cb^(n-e-1+s):=Int.pow_nonneg (by decide);unfold out;refine⟨zAy (n+1) λt _=>Int.mul_nonneg (zKO h0 _ _ _) (T _ _).1,?_⟩;refine Int.le_trans (zC5 (g:=λ_=>Cb^(n-e-1+s)) (n+1) λt ht=>?_) ?_
 ·by_cases z:e+1<=t
  ·have b1:=zNd (P:=PP ps) (c:=top30) (k:=k) (n:=n) (by decide) h0 (λi b=>(zAW h i b).2) hk hn s t (by omega) (by omega);have b2:=T (e+1) t;have b3:(5*top30)^(t-(e+1))<=Cb^(t-(e+1)):=zGO (by decide) (by decide) _;refine Int.le_trans (Int.mul_le_mul b1 (Int.le_trans b2.2 b3) b2.1 (Int.pow_nonneg (by decide))) ?_;rw[<-Int.pow_add,show n-t+s+(t-(e+1))=n-e-1+s by omega];exact Int.le_refl _
  ·rw[zAp (i:=e+1) (j:=t) (by omega),Int.mul_zero];exact Y0
 ·rw[zCR];exact Int.mul_le_mul_of_nonneg_right (by omega) Y0
theorem zN7(h:∀l∈ps,Sm l)(hk:k<=4)(hn:n<=40){s e:Nat}(h1:s<e)(h2:e<n):0<=rst (PP ps) k n s e/\rst (PP ps) k n s e<=41*Cb^40:=by
 have h0:∀i b,0<=PP ps i b:=λi b=>(zAW h i b).1;have T:=zK1 (P:=PP ps) (k:=k) (c:=top30) (by decide) h0 (λi b=>(zAW h i b).2) hk (s+1) e;have O:=zM0 (ps:=ps) (k:=k) h hk hn (s:=s) (e:=e) (by omega) h2;unfold rst;refine⟨Int.mul_nonneg T.1 O.1,?_⟩;have b3:(5*top30)^(e-(s+1))<=Cb^(e-(s+1)):=zGO (by decide) (by decide) _;refine Int.le_trans (Int.mul_le_mul (Int.le_trans T.2 b3) O.2 O.1 (Int.pow_nonneg (by decide))) ?_;rw[Int.mul_left_comm,<-Int.pow_add];exact Int.mul_le_mul_of_nonneg_left (zGN (by decide) (by omega)) (by decide)
end
theorem zHJ:(Cb^40).natAbs<big:=by unfold big Cb top30;decide +kernel
theorem zHI:(41*Cb^40).natAbs<big:=by unfold big Cb top30;decide +kernel
theorem zKD:(Cb^40*(4*(top30*top30))).natAbs<big:=by unfold big Cb top30;decide +kernel
def spPairsR:Sp:=λvs H Q _=>∃ (p s:Addr) (ps:List (List Int)) (k:Nat) (ads:Nat->Addr) (H0:Hp),vs=[.ref p, .ref s]/\Pls H p ps/\ps.length<=40/\k<=4/\(∀l∈ps,l.length=2*k/\Sm l)/\Tb H0 H s ads ps.length (tbl (PP ps) k)/\
 ∀ (F:Addr) (vs':List V) (H':Hp),H F=none->Same H H'->H' F=some (.lst vs')->Fp (PP ps) k ps.length H' vs' (prs ps.length)->Q (.ref F) H'
def prsp(n s q:Nat):List (Nat×Nat):=((List.range s).flatMap λs=>(List.range ((n-s)/2)).map λq=>(s,s+1+2*q))++(List.range q).map λq=>(s,s+1+2*q)
theorem zMp(n s q:Nat):prsp n s (q+1)=prsp n s q++[(s,s+1+2*q)]:=by
 unfold prsp;rw[List.range_succ,List.map_append,<-List.append_assoc];rfl
theorem zMo(n s:Nat):prsp n (s+1) 0=prsp n s ((n-s)/2):=by
 unfold prsp;rw[List.range_succ,List.flatMap_append];simp
theorem zJo(n:Nat):prsp n n 0=prs n:=by unfold prsp prs;simp
theorem zJn(n s q:Nat)(hs:s<=n)(hq:q<=n)(hn:n<=40):(prsp n s q).length<=1700:=by
 unfold prsp;rw[List.length_append,List.length_map,List.length_range];have:=zCn (λs=>(List.range ((n-s)/2)).map λq=>(s,s+1+2*q)) 20 (λx=>by rw[List.length_map,List.length_range];omega) (List.range s);rw[List.length_range]at this;omega
def rw2(m:Nat)(f:Nat->Int):List V:=(List.range m).map λj=>V.int (f j)
theorem zII(m:Nat)(f:Nat->Int):(rw2 m f).length=m:=by simp[rw2]
theorem zF6{m j:Nat}{f:Nat->Int}(h:j<m):(rw2 m f)[j]? =some (.int (f j)):=by
 unfold rw2;rw[List.getElem?_map,List.getElem?_range h];rfl
theorem zLU{m j:Nat}{f:Nat->Int}{v:Int}:(rw2 m f).set j (.int v)=rw2 m (λx=>if x=j then v else f x):=by
 apply List.ext_getElem?;intro i;unfold rw2;rw[List.getElem?_set,List.getElem?_map,List.getElem?_map]
 by_cases e:j=i
 ·subst e
  by_cases hj:j<m
  ·rw[List.getElem?_range hj];simp[hj]
  ·rw[if_pos rfl,if_neg (by simpa using hj)];rw[List.getElem?_eq_none (by simpa using hj)];rfl
 ·rw[if_neg e]
  by_cases hi:i<m
  ·rw[List.getElem?_range hi];simp[Ne.symm e]
  ·rw[List.getElem?_eq_none (by simpa using hi)];rfl
theorem zDq{m:Nat}{f g:Nat->Int}(h:∀j,j<m->f j=g j):rw2 m f=rw2 m g:=by
 unfold rw2;refine List.map_congr_left λj hj=>?_;rw[h j (List.mem_range.mp hj)]
structure Tw (H0 H:Hp) (s:Addr) (ad:Nat->Addr) (n m:Nat) (T:Nat->Nat->Int):Prop where
 fs:H0 s=none
 fa:∀i,i<n->H0 (ad i)=none
 ns:∀i,i<n->ad i≠s
 inj:∀i j,i<n->j<n->ad i=ad j->i=j
 top:H s=some (.lst ((List.range n).map λi=>V.ref (ad i)))
 row:∀i,i<n->H (ad i)=some (.lst (rw2 m (T i)))
 sm:Same H0 H
section
variable{H0 H H':Hp}{s:Addr}{ad:Nat->Addr}{n m:Nat}{T T':Nat->Nat->Int}
theorem Tw.same(t:Tw H0 H s ad n m T)(h:Same H H'):Tw H0 H' s ad n m T:=⟨t.fs,t.fa,t.ns,t.inj,h _ _ t.top,λi hi=>h _ _ (t.row i hi),t.sm.trans h⟩
theorem Tw.congr(t:Tw H0 H s ad n m T)(h:∀i j,i<n->j<m->T i j=T' i j):Tw H0 H s ad n m T':=⟨t.fs,t.fa,t.ns,t.inj,t.top,λi hi=>by rw[t.row i hi,zDq λj hj=>h i j hi hj],t.sm⟩
theorem Tw.at(t:Tw H0 H s ad n m T){i:Nat}(hi:i<n):((List.range n).map λi=>V.ref (ad i))[i]? =some (.ref (ad i)):=by
 rw[List.getElem?_map,List.getElem?_range hi];rfl
theorem Tw.set(t:Tw H0 H s ad n m T){i j:Nat}{v:Int}(hi:i<n):Tw H0 (upd H (ad i) (.lst ((rw2 m (T i)).set j (.int v)))) s ad n m (λa b=>if a=i/\b=j then v else T a b):=by
 refine⟨t.fs,t.fa,t.ns,t.inj,by rw[zAI (Ne.symm (t.ns i hi))];exact t.top,λa ha=>?_,λb o z=>?_⟩
 ·by_cases e:a=i
  ·subst e;rw[zAF,zLU];congr 2;refine zDq λx _=>?_
   by_cases q:x=j<;>simp[q]
  ·rw[zAI (λz=>e (t.inj a i ha hi z)),t.row a ha];congr 2;refine zDq λx _=>?_;simp[e]
 ·rw[zAI (zAH z (t.fa i hi))];exact t.sm b o z
end
def ga(P:Nat->Nat->Int)(k n i b:Nat)(x:Nat×Nat):Int:=
 if b%2=0 then(if x.1=i then P x.1 b*P x.2 (b+1)*rst P k n x.1 x.2 else 0)else(if x.2=i then P x.1 (b-1)*P x.2 b*rst P k n x.1 x.2 else 0)
theorem zDo(f:Nat->Int):∀m,sms ((List.range m).map f)=sm m f
 |0=>rfl
 |m+1=>by rw[List.range_succ,List.map_append,zEe,zDo f m,sm];simp[sms]
theorem zNM(P:Nat->Nat->Int){k n i b:Nat}(hi:i<n)(hb:b<2*k):sms ((prs n).map (ga P k n i b))=tbl (Pat P i b) k 0 n:=by
 have e0:sms ((prs n).map (ga P k n i b))=sm n (λs=>sm ((n-s)/2) λq=>ga P k n i b (s,s+1+2*q)):=by
  unfold prs;rw[zGn,zDo];refine zAK n λs _=>?_;rw[List.map_map,zDo];rfl
 rw[e0]
 by_cases hev:b%2=0
 ·obtain⟨p,rfl⟩:∃p,b=2*p:=⟨b/2,by omega⟩;have e1:sm n (λe=>P i (2*p)*P e (2*p+1)*(tbl P k (i+1) e*out P k n i e))=sm (n-i-1) (λd=>P i (2*p)*P (i+1+d) (2*p+1)*(tbl P k (i+1) (i+1+d)*out P k n i (i+1+d))):=zGp (by omega) λe _ z=>by
   rw[zAp (i:=i+1) (j:=e) (by omega)];simp
  have e2:=zEh (λd=>P i (2*p)*P (i+1+d) (2*p+1)*(tbl P k (i+1) (i+1+d)*out P k n i (i+1+d))) (n-i-1) (λd _ hd=>by
   show P i (2*p)*P (i+1+d) (2*p+1)*(tbl P k (i+1) (i+1+d)*out P k n i (i+1+d))=0;rw[zEN (x:=i+1) (y:=i+1+d) (by omega)];simp)
  have e3:sm n (λs=>sm ((n-s)/2) λq=>ga P k n i (2*p) (s,s+1+2*q))=sm ((n-i)/2) λq=>ga P k n i (2*p) (i,i+1+2*q):=
   zCa (f:=λs=>sm ((n-s)/2) λq=>ga P k n i (2*p) (s,s+1+2*q)) hi (λs _ hs=>by
    refine BrC.sm_zero _ λq _=>?_;unfold ga;rw[if_pos hev,if_neg hs])
  rw[e3,zD8 P hi (by omega),e1,e2,show(n-i-1+1)/2=(n-i)/2 by omega];refine zAK _ λq _=>?_;unfold ga rst;rw[if_pos hev,if_pos rfl]
 ·obtain⟨p,rfl⟩:∃p,b=2*p+1:=⟨b/2,by omega⟩;rw[zC3 P hi (by omega)];refine zAK n λs _=>?_
  by_cases z:s<i/\(i-s)%2=1
  ·refine(zCa (f:=λq=>ga P k n i (2*p+1) (s,s+1+2*q)) (i:=(i-s-1)/2) (by omega) (λq _ hq=>by
    show ga P k n i (2*p+1) (s,s+1+2*q)=0;unfold ga;rw[if_neg hev,if_neg (show¬s+1+2*q=i by omega)])).trans ?_
   unfold ga rst;rw[if_neg hev,if_pos (show s+1+2*((i-s-1)/2)=i by omega)];simp only;rw[show s+1+2*((i-s-1)/2)=i by omega,show 2*p+1-1=2*p by omega]
  ·have e2:tbl P k (s+1) i=0:=by
    by_cases w:s<i
    ·exact zEN (by omega)
    ·exact zAp (by omega)
   rw[e2,Int.zero_mul,Int.mul_zero];refine BrC.sm_zero _ λq _=>?_;unfold ga;rw[if_neg hev,if_neg (show¬s+1+2*q=i by omega)]
theorem zIJ(m:Nat):(List.replicate m [V.int 0]).flatten=rw2 m λ_=>0:=by
 unfold rw2
 induction m with
 |zero=>rfl
 |succ m ih=>rw[List.range_succ,List.map_append,<-ih,List.replicate_succ',List.flatten_append];rfl
section
variable{K:PySem.W.Frag}{σ:St}{H:Hp}{Q:VK}
theorem zJX{a:Addr}{xs:List V}{own:List Str}{sel:List Nat}{g:TG}{te:TE}(hn:xs.length<=sizeLine)(ha:H a=some (.lst xs))(Iv:Addr->Nat->List V->Hp->Prop)
 (h0:∀D,H D=none->Iv D 0 [] (upd H D (.lst []))) (mono:∀D i ys H1 H2,H D=none->Iv D i ys H1->SameBut1 D H1 H2->Iv D i ys H2)
 (hst:∀D ys H',H D=none->H' D=some (.lst ys)->ys.length=xs.length->Same H H'->Iv D xs.length ys H'->Q (.ref D) H')
 (hs:∀ (D:Addr) (i:Nat) (x:V) (ys:List V) (H':Hp) (R:V->Hp->Prop),H D=none->xs[i]? =some x->H' D=some (.lst ys)->ys.length=i->Same H H'->Iv D i ys H'->(∀v H6,Same H' H6->Iv D (i+1) (ys++[v]) H6->R v H6)->g x (inSt own sel σ) H' λσ4 H4=>te σ4 H4 R):CompW (Itl K a) own sel σ g tYes te Q H:=by
 refine zDh (λi=>xs.getD i .non) hn Iv (λi H' hi sH=>⟨_,xs[i],SqL.of (sH _ _ ha),List.getElem?_eq_getElem hi⟩) (λH' sH=>⟨_,SqL.of (sH _ _ ha),Nat.le_refl _⟩) (λi H1 x H' hi sH y=>?_) h0 mono hst
  (λD i ys H' R hD hi hy hl sH e r=>?_)
 ·obtain⟨rfl,hx⟩:=y;have:=hx _ (SqL.of (sH _ _ ha));exact⟨rfl,by rw[List.getD_eq_getElem?_getD,this];rfl⟩
 ·have ec:xs[i]? =some xs[i]:=List.getElem?_eq_getElem hi;have eg:xs.getD i .non=xs[i]:=by rw[List.getD_eq_getElem?_getD,ec];rfl
  rw[eg];exact hs D i xs[i] ys H' R hD ec hy hl sH e r
end
def spBrSums:Sp:=λvs H Q _=>∃ (p s:Addr) (ps:List (List Int)) (k:Nat) (ads:Nat->Addr) (H0:Hp),vs=[.ref p, .ref s]/\Pls H p ps/\ps.length<=40/\k<=4/\(∀l∈ps,l.length=2*k/\Sm l)/\Tb H0 H s ads ps.length (tbl (PP ps) k)/\
 ∀ (F:Addr) (ad:Nat->Addr) (H':Hp),Tw H H' F ad ps.length (2*k) (λi b=>tbl (Pat (PP ps) i b) k 0 ps.length)->Q (.ref F) H'
theorem zHY{H H0:Hp}{p s:Addr}{ps:List (List Int)}{k:Nat}{ads:Nat->Addr}{Q:VK}{E:XK}(h1:Pls H p ps)(h2:ps.length<=40)(h3:k<=4)(h4:∀l∈ps,l.length=2*k/\Sm l)(h5:Tb H0 H s ads ps.length (tbl (PP ps) k))
 (r:∀ (F:Addr) (vs':List V) (H':Hp),H F=none->Same H H'->H' F=some (.lst vs')->Fp (PP ps) k ps.length H' vs' (prs ps.length)->Q (.ref F) H'):spPairsR ([.ref p, .ref s]++[]) H Q E:=⟨p,s,ps,k,ads,H0,rfl,h1,h2,h3,h4,h5,r⟩
theorem zHq{H H0:Hp}{p s:Addr}{ps:List (List Int)}{k:Nat}{ads:Nat->Addr}{Q:VK}{E:XK}(h1:Pls H p ps)(h2:ps.length<=40)(h3:k<=4)(h4:∀l∈ps,l.length=2*k/\Sm l)(h5:Tb H0 H s ads ps.length (tbl (PP ps) k))
 (r:∀ (F:Addr) (ad:Nat->Addr) (H':Hp),Tw H H' F ad ps.length (2*k) (λi b=>tbl (Pat (PP ps) i b) k 0 ps.length)->Q (.ref F) H'):spBrSums ([.ref p, .ref s]++[]) H Q E:=⟨p,s,ps,k,ads,H0,rfl,h1,h2,h3,h4,h5,r⟩
theorem zLX{n:Nat}{x:Nat×Nat}(h:x∈prs n):x.1<x.2/\x.2<n:=by
 unfold prs at h;obtain⟨s,hs,h⟩:=List.mem_flatMap.mp h;obtain⟨q,hq,rfl⟩:=List.mem_map.mp h;have:=List.mem_range.mp hs;have:=List.mem_range.mp hq
 dsimp only
 omega
def gp(P:Nat->Nat->Int)(k n m o i b:Nat)(x:Nat×Nat):Int:=sms (((prs n).take m).map (ga P k n i b))+(if b/2<o then ga P k n i b x else 0)
theorem zLr(P:Nat->Nat->Int)(k n m i b:Nat)(x:Nat×Nat):gp P k n m 0 i b x=sms (((prs n).take m).map (ga P k n i b)):=by
 unfold gp;rw[if_neg (by omega),Int.add_zero]
theorem zNJ{P:Nat->Nat->Int}{k n m i b:Nat}{x:Nat×Nat}(hx:(prs n)[m]? =some x)(hb:b<2*k):gp P k n m k i b x=sms (((prs n).take (m+1)).map (ga P k n i b)):=by
 unfold gp;rw[if_pos (by omega),List.take_add_one,hx,List.map_append,zEe];simp[sms]
theorem zLs{P:Nat->Nat->Int}{k n m o i b:Nat}{s e:Nat}(w:Int)(hw:w=P s (2*o)*P e (2*o+1)*rst P k n s e):
 (if i=e/\b=2*o+1 then(if e=s/\2*o+1=2*o then gp P k n m o s (2*o) (s,e)+w else gp P k n m o e (2*o+1) (s,e))+w else if i=s/\b=2*o then gp P k n m o s (2*o) (s,e)+w else gp P k n m o i b (s,e))=gp P k n m (o+1) i b (s,e):=by
 rw[if_neg (show¬ (e=s/\2*o+1=2*o) by omega)]
 by_cases b0:b=2*o
 ·subst b0;rw[if_neg (by omega)];unfold gp;rw[if_neg (show¬2*o/2<o by omega),if_pos (show 2*o/2<o+1 by omega)]
  by_cases z:i=s
  ·subst z;rw[if_pos ⟨rfl,rfl⟩];unfold ga;rw[if_pos (show 2*o%2=0 by omega),if_pos rfl,hw,Int.add_zero]
  ·rw[if_neg (λw=>z w.1),if_neg (show¬2*o/2<o by omega)];have:ga P k n i (2*o) (s,e)=0:=by
    unfold ga;rw[if_pos (by omega),if_neg (λw=>z w.symm)]
   rw[this]
 ·by_cases b1:b=2*o+1
  ·subst b1;unfold gp;rw[if_pos (show(2*o+1)/2<o+1 by omega),if_neg (show¬ (2*o+1)/2<o by omega)]
   by_cases z:i=e
   ·subst z;rw[if_pos ⟨rfl,rfl⟩];have:ga P k n i (2*o+1) (s,i)=w:=by
     unfold ga;rw[if_neg (by omega),if_pos rfl,hw,show 2*o+1-1=2*o by omega]
    rw[this,Int.add_zero]
   ·rw[if_neg (λw=>z w.1),if_neg (by omega),if_neg (show¬ (2*o+1)/2<o by omega)];have:ga P k n i (2*o+1) (s,e)=0:=by
     unfold ga;rw[if_neg (by omega),if_neg (λw=>z w.symm)]
    rw[this]
  ·rw[if_neg (λw=>b1 w.2),if_neg (λw=>b0 w.2)];unfold gp
   by_cases z:b/2<o
   ·rw[if_pos z,if_pos (by omega)]
   ·rw[if_neg z,if_neg (by omega)]
end BrS
namespace PySem
open Sem (wp)
end PySem
namespace L2
open PySem PySem.Spec PyProof.Rows
section
variable{P:Program}{w:World}{K:PySem.W.Frag}{elts:List Expr}{k:Nat}{tpos:Pos}
end
section
variable{X:Cx}{a b:Expr}{ta:TA}{p pos:Pos}{elts:List Expr}{k:Nat}{tpos:Pos}
end
def CDivW(i j:Int):Prop:=0<j/\j.natAbs<2^8999
theorem zDe{X:Cx}:OpR X (binaryOp .FloorDiv) (rI CDivW λi j=> .int (i/j)):=opI λi j _ _ _ _ _ hc q=>by
 have h1:(0:Int)<j:=hc.1;refine floordiv_int (by omega) (by rw[Int.fdiv_eq_ediv_of_nonneg i (by omega)];exact q) (.inl (PyProof.noPylong_of_log2 ?_));have h3:j.natAbs≠0:=by omega
 exact Nat.lt_trans ((Nat.log2_lt h3).mpr hc.2) (by decide)
end L2
namespace BrS
open L2 PySem PySem.Spec PyProof.Rows BrM BrC BrB BrI BrR
def gcI(t b:Int):Int:=(Nat.gcd b.toNat t.toNat:Int)
theorem zGQ{t b:Int}(hb:0<b):0<gcI t b:=by
 have:=Nat.gcd_pos_of_pos_left t.toNat (show 0<b.toNat by omega);unfold gcI;omega
theorem zNL{t b:Int}(hb:0<b):gcI t b<=b:=by
 have:=Nat.gcd_le_left (n:=t.toNat) (show 0<b.toNat by omega);unfold gcI;omega
theorem zG9(d l:Nat):Nat.gcd l (d%l)=Nat.gcd d l:=by
 rw[Nat.gcd_comm l (d%l),<-Nat.gcd_rec,Nat.gcd_comm]
def tpw(k:Nat)(ws:List Int)(a:List Nat)(i b:Nat):Int:=tbl (Pat (PP (a.map (plw ws))) i b) k 0 a.length
theorem zEx{b:Nat}(h:b<8):occ1 brs (brs.getD b 0)=some b:=by
 have:b=0\/b=1\/b=2\/b=3\/b=4\/b=5\/b=6\/b=7:=by omega
 rcases this with rfl|rfl|rfl|rfl|rfl|rfl|rfl|rfl<;>decide +kernel
theorem zL7{k:Int}{ws:List Int}{a:List Nat}(h1:1<=k)(hk:k<=4)(hl:(ws.length:Int)=2*k)(hs:Sm ws):0<=wsm k.toNat ws a:=by
 have hb:=zAW (ps:=a.map (plw ws)) (λl hl'=>(zAe h1 hk hl hs l hl').2);exact(zDg (P:=PP (a.map (plw ws))) (k:=k.toNat) (c:=top30) (by decide) (λi b=>(hb i b).1) (λi b=>(hb i b).2) a.length 0 []).1
theorem zMB(k:Nat)(ws:List Int)(a:List Nat)(i b:Nat):tpw k ws a i b=cv (Pat (PP (a.map (plw ws))) i b) k a.length 0 []:=by
 unfold tpw tbl;rw[if_pos (Nat.zero_le _),Nat.sub_zero]
theorem zEZ{P P':Nat->Nat->Int}:∀ (l:List Nat) (s:Nat),(∀j,j<l.length->P (s+j) (l.getD j 0)=P' (s+j) (l.getD j 0))->wtl P s l=wtl P' s l
 |[],s,_=>rfl
 |b::l,s,h=>by
  have h0:P s b=P' s b:=h 0 (by simp);have ih:=zEZ (P:=P) (P':=P') l (s+1) (λj hj=>by
   have:=h (j+1) (by simpa using hj);rw[show s+1+j=s+(j+1) by omega];exact this)
  rw[wtl,wtl,h0,ih]
section
variable{σ:L2.St}{H:Hp}{Q:VK}
end
end BrS
namespace L2
open PySem PySem.Spec PyProof.Rows
section
variable{X:Cx}{pins:List (Addr×Obj)}{σ:St}{H:Hp}{s:Shared}{a:Addr}{kvs:List (Key×V)}{k:Key}{v:V}{u r:Value}{A:Around}{E:Value->Shared->Prop}
end
section
variable{prog:Program}{w:World}{A:Around}{R:Result->Shared->Prop}{s:Shared}
end
section
variable{X:Cx}
end
end L2
namespace L2
open PySem PySem.Spec PyProof.Rows PySem.SeqAt
end L2
namespace BrS
open L2 PySem PySem.Spec PyProof.Rows BrM BrC BrB BrI BrR
def Prl(H:Hp)(vs:List V)(L:List (Nat×Nat)):Prop:=vs.length=L.length/\∀ (m:Nat) (x:Nat×Nat),L[m]? =some x->∃T:Addr,vs[m]? =some (V.ref T)/\H T=some (.tup [.int x.1, .int x.2])
theorem Prl.lst{H:Hp}{vs:List V}{L:List (Nat×Nat)}{a:Addr}{xs:List V}{o:HO}(h:Prl H vs L)(ha:H a=some (.lst xs)):Prl (upd H a o) vs L:=⟨h.1,λm x hx=>by
 obtain⟨T,e,b⟩:=h.2 m x hx;exact⟨T,e,by rw[zAI (zJw b ha (λz=>by cases z))];exact b⟩⟩
def Sll(H:Hp)(vs:List V)(L:List (Nat×Nat)):Prop:=vs.length=L.length/\∀ (m:Nat) (x:Nat×Nat),L[m]? =some x->∃T:Addr,vs[m]? =some (V.ref T)/\H T=some (.tup [.int x.1,tx [brs.getD x.2 0]])
theorem Sll.lst{H:Hp}{vs:List V}{L:List (Nat×Nat)}{a:Addr}{xs:List V}{o:HO}(h:Sll H vs L)(ha:H a=some (.lst xs)):Sll (upd H a o) vs L:=⟨h.1,λm x hx=>by
 obtain⟨T,e,b⟩:=h.2 m x hx;exact⟨T,e,by rw[zAI (zJw b ha (λz=>by cases z))];exact b⟩⟩
end BrS
namespace BrI
open BrM BrC BrS BrB
theorem zKT{f:Nat->Int}:∀ {n:Nat},(∀i,i<n->0<=f i)->(0<sm n f↔∃i,i<n/\0<f i)
 |0,_=>⟨λh=>absurd h (by simp[sm]),λ⟨i,h,_⟩=>absurd h (Nat.not_lt_zero _)⟩
 |n+1,h=>by
  have ih:=zKT (f:=f) (n:=n) λi hi=>h i (by omega);have h1:=zAy (f:=f) n λi hi=>h i (by omega);have h2:=h n (by omega);rw[sm]
  constructor
  ·intro q
   by_cases e:0<f n
   ·exact⟨n,by omega,e⟩
   ·obtain⟨i,hi,hf⟩:=ih.mp (by omega);exact⟨i,by omega,hf⟩
  ·rintro⟨i,hi,hf⟩
   by_cases e:i=n
   ·subst e;omega
   ·have:=ih.mpr ⟨i,by omega,hf⟩;omega
theorem zB4{x y:Int}(hx:0<=x)(hy:0<=y):0<x*y↔0<x/\0<y:=by
 constructor
 ·intro h;refine⟨?_,?_⟩
  ·by_cases e:x=0
   ·subst e;simp at h
   ·omega
  ·by_cases e:y=0
   ·subst e;simp at h
   ·omega
 ·rintro⟨a,b⟩;exact Int.mul_pos a b
def Fits(P:Nat->Nat->Int)(i:Nat)(v:List Nat):Prop:=∀j,j<v.length->0<P (i+j) (v.getD j 0)
theorem fit_cons{P:Nat->Nat->Int}{i b:Nat}{v:List Nat}:Fits P i (b::v)↔0<P i b/\Fits P (i+1) v:=by
 constructor
 ·intro h;refine⟨h 0 (by simp),λj hj=>?_⟩;have:=h (j+1) (by simpa using hj);rw[show i+1+j=i+(j+1) by omega];exact this
 ·rintro⟨h1,h2⟩ j hj
  cases j with
  |zero=>exact h1
  |succ j=>
   have:=h2 j (by simpa using hj);rw[show i+(j+1)=i+1+j by omega];exact this
theorem zLx(P:Nat->Nat->Int)(i:Nat):Fits P i []:=λj hj=>absurd hj (Nat.not_lt_zero _)
section
variable{P:Nat->Nat->Int}{k:Nat}
theorem zFi(h0:∀i b,0<=P i b):∀ (m i:Nat) (st:List Nat),(∀o∈st,o<k)->(0<cv P k m i st↔∃v:List Nat,v.length=m/\go k st v=some []/\Fits P i v)
 |0,i,[],_=>⟨λ_=>⟨[],rfl,zBW _,zLx P i⟩,λ_=>by simp[cv]⟩
 |0,i,o::s,_=>by
  refine⟨λh=>absurd h (by simp[cv]),?_⟩;rintro⟨v,hv,hg,_⟩;have:v=[]:=List.length_eq_zero_iff.mp hv;subst this;rw[zBW]at hg
  cases hg
 |m+1,i,st,hst=>by
  have nn:∀i st,0<=cv P k m i st:=λi st=>zE9 h0 m i st;have key:0<cv P k (m+1) i st↔(∃p,p<k/\0<P i (2*p)/\0<cv P k m (i+1) (p::st))\/(∃o s,st=o::s/\0<P i (2*o+1)/\0<cv P k m (i+1) s):=by
   have hs:=zKT (f:=λp=>P i (2*p)*cv P k m (i+1) (p::st)) (n:=k) λp _=>Int.mul_nonneg (h0 _ _) (nn _ _);have hsn:=zAy (f:=λp=>P i (2*p)*cv P k m (i+1) (p::st)) k λp _=>Int.mul_nonneg (h0 _ _) (nn _ _);have h1:(0<sm k λp=>P i (2*p)*cv P k m (i+1) (p::st))↔∃p,p<k/\0<P i (2*p)/\0<cv P k m (i+1) (p::st):=by
    rw[hs]
    constructor
    ·rintro⟨p,hp,q⟩;exact⟨p,hp,(zB4 (h0 _ _) (nn _ _)).mp q⟩
    ·rintro⟨p,hp,q⟩;exact⟨p,hp,(zB4 (h0 _ _) (nn _ _)).mpr q⟩
   cases st with
   |nil=>
    rw[zBu,h1];exact⟨.inl,λz=>z.elim id λ⟨o,s,e,_⟩=>nomatch e⟩
   |cons o s=>
    have h2:=zB4 (h0 i (2*o+1)) (nn (i+1) s);have h3:=Int.mul_nonneg (h0 i (2*o+1)) (nn (i+1) s);rw[zBM]
    constructor
    ·intro z
     by_cases e:0<sm k λp=>P i (2*p)*cv P k m (i+1) (p::o::s)
     ·exact .inl (h1.mp e)
     ·exact .inr ⟨o,s,rfl,h2.mp (by omega)⟩
    ·rintro(z|⟨o',s',e,z⟩)
     ·have:=h1.mpr z;omega
     ·cases e
      have:=h2.mpr z;omega
  rw[key]
  constructor
  ·rintro(⟨p,hp,h1,h2⟩|⟨o,s,rfl,h1,h2⟩)
   ·obtain⟨v,hv,hg,hf⟩:=(zFi h0 m (i+1) (p::st) (λo ho=>by rcases List.mem_cons.mp ho with rfl|ho;exact hp;exact hst o ho)).mp h2;exact⟨2*p::v,by simp[hv],by rw[zGP _ _ hp];exact hg,fit_cons.mpr ⟨h1,hf⟩⟩
   ·have ho:=hst o List.mem_cons_self;obtain⟨v,hv,hg,hf⟩:=(zFi h0 m (i+1) s (λx hx=>hst x (List.mem_cons_of_mem _ hx))).mp h2;exact⟨(2*o+1)::v,by simp[hv],by rw[zE4 _ _ ho];exact hg,fit_cons.mpr ⟨h1,hf⟩⟩
  ·rintro⟨v,hv,hg,hf⟩
   cases v with
   |nil=>cases hv
   |cons b v=>
    obtain⟨f1,f2⟩:=fit_cons.mp hf;rw[zBG]at hg
    cases en:nx k st b with
    |none=>rw[en]at hg;cases hg
    |some s1=>
     rw[en]at hg;have hg:go k s1 v=some []:=hg;obtain⟨hb,⟨e1,e2⟩|⟨e1,e2⟩⟩:=zBm en
     ·refine .inl ⟨b/2,by omega,by rw[show 2*(b/2)=b by omega];exact f1,?_⟩;rw[<-e2];exact(zFi h0 m (i+1) s1 (λo ho=>by rw[e2]at ho;rcases List.mem_cons.mp ho with rfl|ho;omega;exact hst o ho)).mpr ⟨v,by simpa using hv,hg,f2⟩
     ·refine .inr ⟨b/2,s1,e2,by rw[show 2*(b/2)+1=b by omega];exact f1,?_⟩;exact(zFi h0 m (i+1) s1 (λo ho=>hst o (by rw[e2];exact List.mem_cons_of_mem _ ho))).mpr ⟨v,by simpa using hv,hg,f2⟩
end
theorem zOC{k:Nat}{v:List Nat}(h:Rg k v)(st:List Nat):go k st v=some st:=by
 have:=zLt v [] [] st h;simpa using this
theorem zNK{k:Nat}:∀ (u:List Nat) (o:Nat) (r:List Nat),go k [] u=some (o::r)->∃u0 v,u=u0++2*o::v/\go k [] u0=some r/\Rg k v/\o<k:=by
 intro u
 induction hn:u.length using Nat.strongRecOn generalizing u with
 |_ n ih=>
  intro o r h;rcases List.eq_nil_or_concat u with rfl|⟨u',b,rfl⟩
  ·rw[zBW]at h;cases h
  ·rw[List.concat_eq_append,zDW]at h;have hl:u'.length<n:=by rw[<-hn];simp
   cases e:go k [] u' with
   |none=>rw[e]at h;cases h
   |some s1=>
    rw[e]at h;have h:go k s1 [b]=some (o::r):=h;rw[zBG]at h
    cases en:nx k s1 b with
    |none=>rw[en]at h;cases h
    |some s2=>
     rw[en]at h;have h:go k s2 []=some (o::r):=h;rw[zBW]at h
     cases h
     obtain⟨hb,⟨e1,e2⟩|⟨e1,e2⟩⟩:=zBm en
     ·cases e2
      exact⟨u',[],by rw[show 2*(b/2)=b by omega,List.concat_eq_append],e,zBW _,by omega⟩
     ·subst e2;have hk:b/2<k:=by omega
      obtain⟨u1,v1,eu1,g1,r1,_⟩:=ih u'.length hl u' rfl _ _ e;have hl1:u1.length<n:=by rw[eu1]at hl;simp at hl;omega
      obtain⟨u0,v0,eu0,g0,r0,hk0⟩:=ih u1.length hl1 u1 rfl _ _ g1;refine⟨u0,v0++(2*(b/2)::v1++[b]),?_,g0,?_,hk0⟩
      ·rw[List.concat_eq_append,eu1,eu0];simp
      ·unfold Rg;rw[zDW,show go k [] v0=some []from r0];show go k [] (2*(b/2)::v1++[b])=some [];rw[List.cons_append,zGP _ _ hk,zDW,zOC r1 [b/2]];show go k [b/2] [b]=some [];have h9:go k [b/2] [2*(b/2)+1]=some []:=by rw[zE4 _ _ hk,zBW]
       rw[show 2*(b/2)+1=b by omega]at h9;exact h9
section
variable{P:Nat->Nat->Int}{k n:Nat}
end
end BrI
namespace PySem
section
variable{prog:Program}{w:World}{A:Around}{R:Result->Shared->Prop}{I:Addr}{fp wr:List Addr}{n:Nat}{P:Nat->Value->Prop}{St:Nat->Heap->Prop}
end
section
variable{prog:Program}{w:World}{A:Around}{E:Value->Shared->Prop}{s:Shared}
end
end PySem
namespace PySem.SeqAt
open AutoSeq1 (wpAny_loadPart')
open MeetsSeq MeetsSeq2 MeetsSeq3 SeqRoads2
def LtAt(A:Around)(s:Shared)(x y:Value)(r:Bool):Prop:=∀ (prog:Program) (w:World) (Q E:Value->Shared->Prop),Q (.bool r) s->wpAny (model prog w) A (richCompare .Lt x y) Q E s
theorem zKz(l b:Addr)(x1 x2 y1 y2:Value)(n n2:Nat)(dd dd2:Option Addr)(sl sl2:Array (Option Value))(e1 e2 r:Bool):
 Meets (Builtin.«tuple.__lt__» ⟨[.ref l, .ref b],[]⟩)
  (λA R s=>s.heap.get? l=some {cls:= .type "tuple",dict:=dd,data:= .seq #[x1,x2] n,slots:=sl}/\s.heap.get? b=some {cls:= .type "tuple",dict:=dd2,data:= .seq #[y1,y2] n2,slots:=sl2}/\
    EqAt A.in1 s x1 y1 e1/\(e1=true->EqAt A.in1 s x2 y2 e2)/\(e1=false->LtAt A.in1 s x1 y1 r)/\(e1=true->e2=false->LtAt A.in1 s x2 y2 r)/\(e1=true->e2=true->r=false)/\R (.ok (.ret (.bool r))) s):=
 .of_wp λprog w A R s h=>by
   obtain⟨hp,g,d,tk,os⟩:=s;obtain⟨hl,hb,q1,q2,q3,q4,q5,h⟩:=h;have f2:=AutoSeq1.sub_tuple_tuple
   wp_walk using wpAny_loadPart' hl,wpAny_loadPart' hb,wpAny_forIn_list _ (λrest b s'=>b.1=none/\s'=⟨hp,g,d,tk,os⟩/\(rest=[(x1,y1),(x2,y2)]\/(rest=[(x2,y2)]/\e1=true)\/(rest=[]/\e1=true/\e2=true))) _
   case turn=>
    rintro⟨y,x⟩ rest b s' ⟨hb',rfl,hz⟩;rcases hz with hz|⟨hz,c1⟩|⟨hz,_,_⟩
    ·injection hz with hyx hrest
     injection hyx with hy hx
     subst hy hx;refine wpAny_bind (q1 prog w _ _ ?_)
     cases e1 with
     |true=>wp_walk;exact⟨rfl,rfl, .inr (.inl ⟨hrest,rfl⟩)⟩
     |false=>
      have hri:=q3 rfl prog w
      wp_walk using hri
      exact⟨_,rfl,by simpa using h⟩
    ·injection hz with hyx hrest
     injection hyx with hy hx
     subst hy hx;refine wpAny_bind (q2 c1 prog w _ _ ?_)
     cases e2 with
     |true=>wp_walk;exact⟨rfl,rfl, .inr (.inr ⟨hrest,c1,rfl⟩)⟩
     |false=>
      have hri:=q4 c1 rfl prog w
      wp_walk using hri
      exact⟨_,rfl,by simpa using h⟩
    ·cases hz
   case fin=>
    rintro⟨b1,b2⟩ s' ⟨hb',rfl,hz⟩;simp only at hb';subst hb';rcases hz with hz|⟨hz,_⟩|⟨_,c1,c2⟩
    ·cases hz
    ·cases hz
    ·rw[q5 c1 c2]at h
     wp_walk
     exact⟨_,rfl,by simpa[Builtin.Tuple.tupleCompareSizes]using h⟩
   case h=>exact⟨rfl,rfl, .inl rfl⟩
theorem lt_tup2{A:Around}{s:Shared}{l b:Addr}{x1 x2 y1 y2:Value}{e1 e2 r:Bool}(hl:s.heap.IsTuple l #[x1,x2])(hb:s.heap.IsTuple b #[y1,y2])(hu:A.units<cLine)
 (q1:EqAt A.in1 s x1 y1 e1) (q2:e1=true->EqAt A.in1 s x2 y2 e2) (q3:e1=false->LtAt A.in1 s x1 y1 r) (q4:e1=true->e2=false->LtAt A.in1 s x2 y2 r) (q5:e1=true->e2=true->r=false):LtAt A s (.ref l) (.ref b) r:=λprog w Q E h=>by
 obtain⟨⟨cls,dd,data,sl⟩,ho,hc,n,hd⟩:=id hl;obtain⟨⟨cls2,dd2,data2,sl2⟩,ho2,hc2,n2,hd2⟩:=id hb;simp only at hc hd hc2 hd2;subst hc hd hc2 hd2;exact richCompare_meets_room (op:= .Lt) ⟨_,ho,rfl⟩ ⟨_,ho2,rfl⟩ F.slot_tuple_lt F.entry_tuple_lt (F.args_tuple_lt_2 _ _) (zKz l b x1 x2 y1 y2 n n2 dd dd2 sl sl2 e1 e2 r)
  ⟨ho,ho2,q1,q2,q3,q4,q5,show Value.bool r≠Value.notImplemented/\Q (.bool r) s from⟨(λx=>nomatch x),h⟩⟩ hu
end PySem.SeqAt
namespace L2
open PySem PySem.Spec PyProof.Rows
def ltP(x y:Int×List Nat):Bool:=decide (x.1<y.1)||(decide (x.1=y.1)&&decide (x.2<y.2))
theorem ltP_iff{x y:Int×List Nat}:ltP x y=true↔x.1<y.1\/(x.1=y.1/\x.2<y.2):=by simp[ltP]
theorem ltP_no{x y:Int×List Nat}:ltP x y=false↔y.1<x.1\/(x.1=y.1/\¬x.2<y.2):=by
 rw[<-Bool.not_eq_true,ltP_iff]
 constructor
 ·intro h
  by_cases c:y.1<x.1
  ·exact .inl c
  ·by_cases d:x.1<y.1
   ·exact absurd (.inl d) h
   ·exact .inr ⟨by omega,λz=>h (.inr ⟨by omega,z⟩)⟩
 ·rintro(h|⟨h1,h2⟩) (g|⟨g1,g2⟩)
  ·omega
  ·omega
  ·omega
  ·exact h2 g2
theorem zJ5(bs:List Nat):(nL bs).all flatV=true:=by rw[List.all_map,List.all_eq_true];intro _ _;rfl
theorem zE5:∀ (bs cs:List Nat),eqVs (nL bs) (nL cs)=decide (bs=cs)
 |[],[]=>by simp[eqVs]
 |[],_::_=>by simp[eqVs]
 |_::_,[]=>by simp[eqVs]
 |b::bs,c::cs=>by
  have ih:=zE5 bs cs;show(decide ((b:Int)=(c:Int))&&eqVs (nL bs) (nL cs))=_;rw[ih]
  by_cases h:b=c
  ·subst h;simp
  ·have:¬ ((b:Int)=(c:Int)):=by omega
   simp[h,this]
section
variable{A:Around}{s:Shared}{p p':Addr}{bs cs:List Nat}{us ws:List Value}
theorem zG2(r1:Vals (nL bs) us)(r2:Vals (nL cs) ws)(h1:s.heap.IsList p us.toArray)(h2:s.heap.IsList p' ws.toArray)(hl:bs.length=cs.length)(hs:p=p'->bs=cs)(hu:A.units<cLine):SeqAt.EqAt A s (.ref p) (.ref p') (decide (bs=cs)):=by
 by_cases e:p=p'
 ·rw[decide_eq_true (hs e),e];exact SeqAt.EqAt.same _
 ·refine SeqAt.EqAt.of_refs e ?_;have l1:=r1.length;have l2:=r2.length;rw[List.length_map]at l1 l2;have:=SeqAt.RcAt.lists (A:=A) h1 h2 (by simp;omega) hu (zDF r1 r2 (zJ5 _) (zJ5 _));rw[List.size_toArray,<-l1,<-List.length_map (f:=λb:Nat=>V.int (b:Int)),zCW _ _ (by simpa using hl),zE5]at this;exact this
theorem zG1(r1:Vals (nL bs) us)(r2:Vals (nL cs) ws)(p1:s.heap.IsList p us.toArray)(p2:s.heap.IsList p' ws.toArray)(hl:bs.length=cs.length)(hne:bs≠cs)(hu:A.units<cLine):SeqAt.LtAt A s (.ref p) (.ref p') (decide (bs<cs)):=by
 intro prog w Q E q;obtain⟨j,m,n,h1,h2,h3,h5,h4⟩:=zE1 hl hne;have l1:=r1.length;have l2:=r2.length;rw[List.length_map]at l1 l2;obtain⟨u1,e1,t1,rfl⟩:=r1.get (i:=j) (x:= .int (m:Int)) (by rw[List.getElem?_map,h1];rfl);obtain⟨u2,e2,t2,rfl⟩:=r2.get (i:=j) (x:= .int (n:Int)) (by rw[List.getElem?_map,h2];rfl);refine SeqAt.lt_listAt (prog:=prog) (w:=w) (e:=λi=>eqV ((nL bs).getD i .non) ((nL cs).getD i .non)) (j:=j) (x:=(m:Int)) (y:=(n:Int)) (t:=t1) (u:=t2) p1 p2 hu (zDF r1 r2 (zJ5 _) (zJ5 _)) (by simpa using e1) (by simpa using e2) ?_ ?_ ?_
 ·show eqV _ _=false;rw[List.getD_eq_getElem?_getD,List.getD_eq_getElem?_getD,List.getElem?_map,List.getElem?_map,h1,h2];exact decide_eq_false (show¬ ((m:Int)=(n:Int)) by omega)
 ·intro i hi;have g:=h4 i hi;have k1:j<bs.length:=(List.getElem?_eq_some_iff.mp h1).1;have k2:j<cs.length:=(List.getElem?_eq_some_iff.mp h2).1;have a1:bs[i]? =some (bs.getD i 0):=by rw[List.getD_eq_getElem?_getD,List.getElem?_eq_getElem (by omega)];rfl
  have a2:cs[i]? =some (cs.getD i 0):=by rw[List.getD_eq_getElem?_getD,List.getElem?_eq_getElem (by omega)];rfl
  show eqV _ _=true;rw[List.getD_eq_getElem?_getD,List.getD_eq_getElem?_getD,List.getElem?_map,List.getElem?_map,a1,a2,g];exact decide_eq_true rfl
 ·have:decide (bs<cs)=decide ((m:Int)<(n:Int)):=by rw[decide_eq_decide,<-h5];omega
  rw[<-this];exact q
end
end L2
namespace BrS
open L2 PySem BrM BrC BrB BrR BrI
def C32(k:Nat)(a:List Nat)(i j:Nat)(x:Int×List Nat):Prop:=Rg k x.2/\i+x.2.length=j/\x.1=(chg (a.drop i) x.2:Nat)
structure MnS (k:Nat) (a:List Nat) (i j:Nat) (x:Int×List Nat):Prop where
 is:C32 k a i j x
 le:∀y,C32 k a i j y->ltP y x=false
def cs1(c b:Nat):Nat:=if okc c b=true then 0 else 1
theorem zL3(a:List Nat):chg a []=0:=by cases a<;>rfl
theorem zCY(c:Nat)(a:List Nat)(b:Nat)(l:List Nat):chg (c::a) (b::l)=cs1 c b+chg a l:=rfl
def jn(p:Nat)(u v:List Nat):List Nat:=u++([2*p]++(v++[2*p+1]))
theorem zLW{k:Nat}{l:List Nat}(h:Rg k l)(hl:0<l.length):∃p u v,p<k/\l=jn p u v/\Rg k u/\Rg k v:=by
 obtain⟨l0,b,rfl⟩:∃l0 b,l=l0++[b]:=⟨l.dropLast,l.getLast (by intro z;rw[z]at hl;exact absurd hl (by decide)),(List.dropLast_concat_getLast _).symm⟩;unfold Rg at h;rw[zDW]at h;obtain⟨s,h1,h2⟩:=Option.bind_eq_some_iff.mp h;rw[zBG]at h2;obtain⟨s2,h3,h4⟩:=Option.bind_eq_some_iff.mp h2;rw[zBW]at h4
 cases h4
 obtain⟨hb,⟨_,z⟩|⟨hm,z⟩⟩:=zBm h3
 ·cases z
 ·subst z;obtain⟨u,v,e,g1,g2,g3⟩:=zNK l0 (b/2) [] h1;refine⟨b/2,u,v,g3,?_,g1,g2⟩;unfold jn;rw[e,show b=2*(b/2)+1 by omega,show(2*(b/2)+1)/2=b/2 by omega];simp
theorem zN8{k p:Nat}{u v:List Nat}(hp:p<k)(hu:Rg k u)(hv:Rg k v):Rg k (jn p u v):=by
 have h1:=zF7 hp hv (zBW (k:=k) []);unfold Rg jn;rw[zDW,show go k [] u=some []from hu];show go k [] ([2*p]++(v++[2*p+1]))=some [];exact h1
theorem zG5(p:Nat)(u v:List Nat):(jn p u v).length=u.length+v.length+2:=by unfold jn;simp;omega
structure Cov (k:Nat) (a:List Nat) (i last t q:Nat) (L:List (Int×List Nat)):Prop where
 ok:∀x∈L,C32 k a i (last+1) x
 all:∀z,C32 k a i (last+1) z->∀p u v,p<k->z.2=jn p u v->Rg k u->Rg k v->(u.length<2*t\/(u.length=2*t/\p<q))->∃x∈L,ltP z x=false
 len:L.length=t*k+q
theorem Cov.nil(k:Nat)(a:List Nat)(i last:Nat):Cov k a i last 0 0 []:=⟨λx h=>(nomatch h),λz _ p u v _ _ _ _ h=>by omega,by simp⟩
theorem zGc:∀ {a l:List Nat} {i c:Nat},a.length=l.length->i<a.length->chg (a.set i c) l+cs1 (a.getD i 0) (l.getD i 0)=chg a l+cs1 c (l.getD i 0)
 |x::a,b::l,0,c,_,_=>by
  show chg (c::a) (b::l)+cs1 x b=chg (x::a) (b::l)+cs1 c b;rw[zCY,zCY];omega
 |x::a,b::l,i+1,c,hl,hi=>by
  have ih:=zGc (a:=a) (l:=l) (i:=i) (c:=c) (by simpa using hl) (by simpa using hi);show chg (x::a.set i c) (b::l)+cs1 (a.getD i 0) (l.getD i 0)=chg (x::a) (b::l)+cs1 c (l.getD i 0);rw[zCY,zCY];omega
 |[],_,_,_,_,hi=>by simp at hi
 |_::_,[],_,_,hl,_=>by simp at hl
theorem zNX(c b:Nat):cs1 c b<=1:=by unfold cs1;split<;>omega
theorem zGY(b:Nat):cs1 (brs.getD b 0) b=0:=by unfold cs1 okc;simp
theorem zIC{a:List Nat}{i c:Nat}(h:i<a.length):a.take i++[c]++a.drop (i+1)=a.set i c:=by
 rw[List.set_eq_take_append_cons_drop,if_pos h];simp
theorem zI8:∀l:List Nat,chg (brx l) l=0
 |[]=>rfl
 |b::l=>by
  show chg (brs.getD b 0::brx l) (b::l)=0;rw[zCY,zGY,zI8 l]
theorem MnS.back{k:Nat}(hk:k<=4){a:List Nat}{l:List Nat}{i:Nat}(hi:i<a.length)(h:MnS k a 0 a.length ((chg a l:Nat),l))(hn:okc (a.getD i 0) (l.getD i 0)=false):MnS k (a.set i (brs.getD (l.getD i 0) 0)) 0 (a.set i (brs.getD (l.getD i 0) 0)).length (((chg a l:Nat):Int)-1,l):=by
 obtain⟨h1,h2,_⟩:=h.is;have hl:l.length=a.length:=by simpa using h2
 have b8:∀x:List Nat,Rg k x->x.length=a.length->x.getD i 0<8:=λx hx he=>by
  have:=zD3 x [] [] hx (x.getD i 0) (by rw[List.getD_eq_getElem?_getD,List.getElem?_eq_getElem (by omega)];exact List.getElem_mem _);omega
 have e1:cs1 (a.getD i 0) (l.getD i 0)=1:=by unfold cs1;rw[hn];rfl
 have e:=zGc (c:=brs.getD (l.getD i 0) 0) hl.symm hi;rw[e1,zGY]at e;refine⟨⟨h1,by show 0+l.length=_;rw[List.length_set];omega,by show((chg a l:Nat):Int)-1=((chg ((a.set i _).drop 0) l:Nat):Int);rw[List.drop_zero];omega⟩,λy hy=>?_⟩;obtain⟨g1,g2,g3⟩:=hy;rw[List.drop_zero]at g3;have g2:y.2.length=a.length:=by rw[List.length_set]at g2;omega
 have f:=zGc (c:=brs.getD (l.getD i 0) 0) g2.symm hi;have m:=h.le ((chg a y.2:Nat),y.2) ⟨g1,by show 0+y.2.length=_;omega,rfl⟩;rw[ltP_no]at m⊢;show((chg a l:Nat):Int)-1<y.1\/(y.1=((chg a l:Nat):Int)-1/\¬y.2<l);have m:((chg a l:Nat):Int)<((chg a y.2:Nat):Int)\/(((chg a y.2:Nat):Int)=((chg a l:Nat):Int)/\¬y.2<l):=m
 by_cases z:y.2.getD i 0=l.getD i 0
 ·rw[z,e1,zGY]at f;rcases m with m|⟨m,m2⟩
  ·exact .inl (by omega)
  ·exact .inr ⟨by omega,m2⟩
 ·left
  have c1:cs1 (brs.getD (l.getD i 0) 0) (y.2.getD i 0)=1:=by
   unfold cs1 okc;rw[if_neg];intro w;rcases of_decide_eq_true w with w|w
   ·exact zJH _ (b8 l h1 hl) w
   ·exact z (zJI _ (b8 l h1 hl) _ (b8 y.2 g1 g2) w).symm
  have c2:=zNX (a.getD i 0) (y.2.getD i 0);rcases m with m|⟨m,m2⟩<;>omega
theorem zGR{k:Nat}(hk:k<=4):∀ {a bs st:List Nat},bs.length=a.length->(Fll k a st bs↔go k st bs=some []/\chg a bs=0)
 |[],[],st,_=>by
  rw[zBW,zL3];exact⟨λh=>⟨by rw[show st=[]from h],rfl⟩,λh=>Option.some.inj h.1⟩
 |c::a,b::bs,st,hl=>by
  have hl:bs.length=a.length:=by simpa using hl
  rw[zCY,zBG]
  constructor
  ·rintro⟨h1,h2,h3,h4⟩;have hn:nx k st b=some (stb st b):=by
    refine zM9 h1 ?_;unfold stb
    by_cases c:b%2=0
    ·rw[if_pos c];exact .inl ⟨c,rfl⟩
    ·obtain⟨s,e⟩:=h3 (by omega);rw[if_neg c,e];exact .inr ⟨by omega,rfl⟩
   obtain⟨g1,g2⟩:=(zGR hk hl).mp h4;rw[hn];refine⟨g1,?_⟩;have ok:okc c b=true:=decide_eq_true (zIM hk h1 h2);unfold cs1;rw[if_pos ok,g2]
  ·rintro⟨h1,h2⟩;obtain⟨s,g1,g2⟩:=Option.bind_eq_some_iff.mp h1;obtain⟨hb,g3⟩:=zBm g1;have ok:okc c b=true:=by
    cases o:okc c b with
    |true=>rfl
    |false=>unfold cs1 at h2;rw[o]at h2;simp at h2
   have es:s=stb st b:=by
    unfold stb;rcases g3 with⟨z,e⟩|⟨z,e⟩
    ·rw[if_pos z];exact e
    ·rw[if_neg (by omega),e];rfl
   refine⟨hb,?_,λz=>?_,(zGR hk hl).mpr ⟨by rw[<-es];exact g2,by omega⟩⟩
   ·rw[zMk hb hk,if_pos (of_decide_eq_true ok)]
   ·rcases g3 with⟨w,_⟩|⟨_,e⟩
    ·omega
    ·exact⟨s,e⟩
 |[],_::_,_,hl=>by simp at hl
 |_::_,[],_,hl=>by simp at hl
theorem zOD{k:Nat}(hk:k<=4){a l:List Nat}(hl:l.length=a.length)(h:Rg k l)(h0:chg a l=0):Fi k a 0 [] l:=Fll.fl (Nat.zero_le _) (by rw[List.drop_zero];exact(zGR hk hl).mpr ⟨h,h0⟩)
theorem zMh{k:Nat}(hk:k<=4){l:List Nat}(h:Rg k l):Rt (brx l):=Fi.run hk (st:=[]) (λ_ z=>nomatch z) (zOD (a:=brx l) hk (by unfold brx;simp) h (zI8 l))
def sx(s:Nat×Nat)(c:Nat):Nat×Nat:=if c=40 then(s.1,s.2+1)else if 0<s.2 then(s.1,s.2-1)else(s.1+1,s.2)
def eo(a:List Nat):Nat×Nat:=a.foldl sx (0,0)
def TD(k:Nat)(a:List Nat)(d:Addr)(H:Hp)(kvs:List (List Key×V))(P:Nat->Nat->Prop):Prop:=
 ∀i j:Nat,P i j->∃ (T p:Addr) (x:Int×List Nat),valV kvs (ky i j)=some (.ref T)/\T≠d/\p≠d/\H T=some (.tup [.int x.1, .ref p])/\H p=some (.lst (nL x.2))/\MnS k a i j x
theorem TD.keep{k:Nat}{a:List Nat}{d:Addr}{H H':Hp}{kvs:List (List Key×V)}{P:Nat->Nat->Prop}(h:TD k a d H kvs P)(s:SameBut1 d H H'):TD k a d H' kvs P:=λi j hp=>by
 obtain⟨T,p,x,h1,h2,h3,h4,h5,h6⟩:=h i j hp;exact⟨T,p,x,h1,h2,h3,s _ _ h4 h2,s _ _ h5 h3,h6⟩
end BrS
namespace L2
open PySem PySem.Spec PyProof.Rows
section
variable{X:Cx}
theorem zJ8{x:V}(h:flatV x=true):eqV x x=true:=by cases x<;>simp_all[eqV,flatV]
def rSmU(b:Bool)(K:PySem.W.Frag):R2:=λx y H Q=>∃a c xs,x= .ref a/\y= .ref c/\SqT K H a xs/\SqT K H c xs/\xs.all flatV=true/\Q (.bl b) H
theorem zK8{A:Around}{s:Shared}{xs:List V}{us ws:List Value}(r1:Vals xs us)(r2:Vals xs ws)(hf:xs.all flatV=true):∀j (h1:j<us.toArray.size) (h2:j<ws.toArray.size),SeqAt.EqAt A s us.toArray[j] ws.toArray[j] true:=λj h1 h2=>by
 have:=zDF (A:=A) (s:=s) r1 r2 hf hf j h1 h2;have l1:=r1.length;have hj:j<xs.length:=by simpa[l1]using h1
 have e:xs.getD j .non=xs[j]:=by rw[List.getD_eq_getElem?_getD,List.getElem?_eq_getElem hj];rfl
 rw[e,zJ8 (List.all_eq_true.mp hf _ (List.getElem_mem hj))]at this;exact this
theorem zLg(K:PySem.W.Frag)(hu:X.A.units<cLine)(hK:X.K=K:=by rfl):OpR X (compareOp .NotEq) (rSmU false K):=by
 subst hK;intro pins s σ H x y v u Q I rx ry ⟨a,b,xs,e1,e2,q1,q2,hf,q⟩;subst e1 e2
 cases rx
 cases ry
 obtain⟨us,r1,p1,z1⟩:=I.tuple q1;obtain⟨ws,r2,p2,z2⟩:=I.tuple q2;have l1:=r1.length;have l2:=r2.length;refine SeqAt.RcNeAt.tuples (e:=λ_=>true) p1 p2 hu (zK8 r1 r2 hf) _ _ _ _ ⟨.bl false,H,I,?_,q⟩;show Value.bool (!(((List.range (min us.toArray.size ws.toArray.size)).all λ_=>true)&&us.toArray.size==ws.toArray.size))=Value.bool false;simp;omega
end
theorem zNm{b:Bool}{K:PySem.W.Frag}{a c:Addr}{xs:List V}{H:Hp}{Q:VK}(h1:H a=some (.tup xs))(h2:H c=some (.tup xs))(hf:xs.all flatV=true)(q:Q (.bl b) H):rSmU b K (.ref a) (.ref c) H Q:=⟨a,c,xs,rfl,rfl,SqT.of h1,SqT.of h2,hf,q⟩
section
variable{σ:St}{H:Hp}{Q:VK}
end
end L2
namespace BrS
open L2 PySem BrM BrC BrB BrR BrI
theorem zFe{kk:Int}{a:List Nat}{i c:Nat}(h:isRow kk a=true)(hc:c∈sgn kk):isRow kk (a.set i c)=true:=
 zG6 (by rw[List.length_set];exact zAz h) λx hx=>(List.mem_or_eq_of_mem_set hx).elim (λz=>zIn h x z) λe=>by rw[e];exact hc
theorem zKV{kk:Int}{b:Nat}(h1:1<=kk)(h4:kk<=4)(hb:b<2*kk.toNat):brs.getD b 0∈sgn kk:=by
 have:=zJG kk.toNat (by omega) b hb;rwa[show((kk.toNat:Nat):Int)=kk by omega]at this
def PSp(n s i x y:Nat):Prop:=∃t,y=x+2*t/\y<=n/\(t<s\/(t=s/\x<i))
theorem TD.at{k:Nat}{a:List Nat}{d:Addr}{H H':Hp}{kvs:List (List Key×V)}{P:Nat->Nat->Prop}(h:TD k a d H kvs P){i j:Nat}(hp:P i j)(gd:H' d=some (.dT kvs)){T:Addr}(hT:H' T=none):∃ (T' p:Addr) (x:Int×List Nat),DGet (upd H' T (.tup [.int (i:Int), .int (j:Int)])) d (.ref T) (some (.ref T'))/\H T'=some (.tup [.int x.1, .ref p])/\H p=some (.lst (nL x.2))/\MnS k a i j x:=by
 obtain⟨T',p,x,h1,h2,h3,h4,h5,h6⟩:=h i j hp;refine⟨T',p,x,?_,h4,h5,h6⟩;rw[<-h1];exact DGet.t (k:=ky i j) (by rw[zAI (zAH gd hT)];exact gd) zAF
def Tq(sm:Addr)(H:Hp)(vs:List V)(L:List (Int×List Nat)):Prop:=vs.length=L.length/\∀ (i:Nat) (x:Int×List Nat),L[i]? =some x->∃T p:Addr,vs[i]? =some (V.ref T)/\T≠sm/\p≠sm/\H T=some (.tup [.int x.1, .ref p])/\H p=some (.lst (nL x.2))
theorem Tq.nil(sm:Addr)(H:Hp):Tq sm H [] []:=⟨rfl,λi e he=>by simp at he⟩
theorem Tq.keep{sm:Addr}{H H':Hp}{vs:List V}{L:List (Int×List Nat)}(h:Tq sm H vs L)(s:SameBut1 sm H H'):Tq sm H' vs L:=⟨h.1,λi x hx=>by
 obtain⟨T,p,a1,a2,a3,a4,a5⟩:=h.2 i x hx;exact⟨T,p,a1,a2,a3,s _ _ a4 a2,s _ _ a5 a3⟩⟩
theorem zGz{q:Nat}(h:q<4):cutL brs (some ((2*q:Nat):Int)) (some ((2*q+2:Nat):Int))=[brs.getD (2*q) 0,brs.getD (2*q+1) 0]:=by
 rw[zNV];have:q=0\/q=1\/q=2\/q=3:=by omega
 rcases this with rfl|rfl|rfl|rfl<;>decide
end BrS
namespace L2
open PySem
theorem units5{k:Nat}{A:Around}(r:Room k A):A.units+5<cLine:=by have:=r.units;omega
end L2
namespace PySem
def NoDig(h:Heap):Prop:=∃m:Str->Option Value,h.Ns cStatics m/\m "sys.int_max_str_digits"=none
theorem zLf{prog:Program}{w:World}{A:Around}{E:Value->Shared->Prop}{s:Shared}{a:Int}{Q:Option Nat->Shared->Prop}(hl:a.natAbs.log2<12000)(hn:NoDig s.heap)(q:Q none s):wpAny (model prog w) A (Builtin.overDigitLimit? a) Q E s:=by
 unfold Builtin.overDigitLimit?
 by_cases c:a.natAbs.log2<1920
 ·rw[if_pos c];exact wpAny_pure q
 ·rw[if_neg c];obtain⟨m,h1,h2⟩:=hn;refine wpAny_bind ?_;unfold Builtin.intMaxStrDigits;refine wpAny_bind (wpAny_nsGet h1 ?_);rw[h2];refine wpAny_pure ?_;have c1:¬ (a.natAbs.log2/30+1>1000):=by omega
  have c2:((4300:Nat)==0||decide (a.natAbs.log2<3*4300))=true:=by
   rw[decide_eq_true (by omega)];rfl
  simp only[c1,if_false,c2,if_true];exact wpAny_pure q
theorem zE0(a:Int)(t:Tok)(hl:a.natAbs.log2<12000)(hz:(Str.ofString (toString a)).length<=sizeLine):Meets (Builtin.«int.__repr__» ⟨[.int a t],[]⟩)
 (λ_ R s=>NoDig s.heap/\∀tk,R (.ok (.ret (.str (Str.ofString (toString a)) s.toks))) {s with toks:=tk}):=
 .of_wp λprog w A R s h=>by
   obtain⟨hn,h⟩:=h;unfold Builtin.«int.__repr__»;show wpAny _ _ (Builtin.overDigitLimit? a>>=_) _ _ s;refine wpAny_bind (zLf hl hn ?_);show wpAny _ _ (mkStr (Str.ofString (toString a))>>=_) _ _ s;refine wpAny_bind (wpAny_mkStr (wpAny_pure ⟨_,rfl,h _⟩) hz)
theorem zFM{prog:Program}{w:World}{g:Heap}{a:Int}(t:Tok)(hl:a.natAbs.log2<12000)(hz:(Str.ofString (toString a)).length<=sizeLine)(hn:∀h:Heap,(∀b o,g.get? b=some o->h.get? b=some o)->NoDig h):ReprK prog w [] g 1 (.int a t) (Str.ofString (toString a)):=by
 intro base hb A gs E s Q hg hcl hu hk hQ;have hb':base<=sizeLine:=by omega
 rw[pyReprUnder_leaf (v:= .int a t) hb' (λ_ e=>nomatch e)];unfold pyRepr;refine wpAny_bind (wpAny_pyReprObj_slot (by omega) (typeIs_int s a t) F.slot_int_repr.toG (call_meets F.slot_int_repr (typeIs_int s a t) F.entry_int_repr (F.args_int_repr_1 _) (zE0 a t hl hz) ⟨hn s.heap hk,λtk=>?_⟩));exact⟨_,_,rfl,wpAny_pure (hQ s.heap tk λ_ _ e=>e)⟩
theorem zJi{prog:Program}{w:World}{A:Around}{E:Value->Shared->Prop}{s:Shared}{T:Addr}{x y:Int}{t u:Tok}{Q:Value->Shared->Prop}(hT:s.heap.IsTuple T #[.int x t, .int y u])(hx:x.natAbs.log2<12000)(hy:y.natAbs.log2<12000)
 (zx:(Str.ofString (toString x)).length<=sizeLine) (zy:(Str.ofString (toString y)).length<=sizeLine) (hz:(tupleText [Str.ofString (toString x),Str.ofString (toString y)]).length<=sizeLine) (hn:∀h:Heap,(∀b o,s.heap.get? b=some o->h.get? b=some o)->NoDig h) (hg:A.guards=some []) (hu:A.units+4<cLine)
 (q:∀h' v tk,(∀b o,s.heap.get? b=some o->h'.get? b=some o)->Q (.str (tupleText [Str.ofString (toString x),Str.ofString (toString y)]) v) {s with heap:=h',toks:=tk}):wpAny (model prog w) A (call (.builtin "repr") [.ref T]) Q E s:=by
 obtain⟨o,ho,hc,n,hd⟩:=hT;refine call_repr_slot (by omega) ⟨o,ho,hc⟩ F.slot_tuple_repr (call_tuple_reprK (A:=A.in1) (as:=[]) (d:=1) ho hc hd List.not_mem_nil (.cons (zFM t hx zx hn) (.cons (zFM u hy zy hn) .nil)) hg (λb _=>Clear.nil b) (by show A.units+1+2<cLine;omega) (λ_ _ e=>e) (λh' v tk hk=>⟨_,_,rfl,q h' v tk hk⟩) hz)
end PySem
namespace L2
open PySem PySem.Spec PyProof.Rows
structure DigK (K:PySem.W.Frag):Prop where
 ok:PySem.W.nsOkIn K cStatics=true
 no:PySem.W.nsIn K cStatics "sys.int_max_str_digits"=some none
theorem DigK.dig{K:PySem.W.Frag}{h:Heap}(d:DigK K)(X:K.In h):NoDig h:=⟨h.nsMap cStatics, .of_isNs (PySem.W.isNs_of_in X d.ok),PySem.W.nsMap_none_of_in X d.ok d.no⟩
def frT(x y:Int):Str:=tupleText [Str.ofString (toString x),Str.ofString (toString y)]
def rReprT:List V->Hp->VK->Prop:=λxs H Q=>∃T x y,xs=[.ref T]/\H T=some (.tup [.int x, .int y])/\x.natAbs.log2<12000/\y.natAbs.log2<12000/\Q (.str (frT x y)) H
theorem zJK{a:Int}(h:a.natAbs.log2<12000):(Str.ofString (toString a)).length<=12001:=by
 have:=int_text_length_le (by decide) h;rw[PySem.ofString_length];exact this
theorem zEW{X:Cx}{k:Nat}(hr:Room k X.A)(K:PySem.W.Frag)(d:DigK K)(hK:X.K=K:=by rfl):CallR X (.builtin "repr") rReprT:=by
 subst hK;intro pins s σ H xs us Q I r h;obtain⟨T,x,y,rfl,hT,hx,hy,q⟩:=h;obtain⟨u,rfl,ru⟩:=vals1 r
 cases ru
 obtain⟨us,r1,p1,_⟩:=I.tuple (SqT.of hT);have hu:=hr.units;have l1:=zJK hx;have l2:=zJK hy;have hz:(tupleText [Str.ofString (toString x),Str.ofString (toString y)]).length<=sizeLine:=by
  refine Nat.le_trans (tupleText_len_le _) ?_;rw[List.map_cons,List.map_cons,List.map_nil,List.sum_cons,List.sum_cons,List.sum_nil,sizeLine_eq];simp only[List.length_cons,List.length_nil];omega
 cases r1 with
 |cons ra rb=>
  cases rb with
  |cons rb rc=>
   cases rc
   obtain⟨t1,rfl⟩:=ra;obtain⟨t2,rfl⟩:=rb;refine zJi (t:=t1) (u:=t2) p1 hx hy (by rw[sizeLine_eq];omega) (by rw[sizeLine_eq];omega) hz (λh hk=>d.dig (I.kIn.keeps hk)) hr.gd (by omega) λh' v tk hk=>⟨.str (frT x y),H,I.kept hk,⟨v,rfl⟩,q⟩
theorem zIE{H:Hp}{Q:VK}{T:Addr}{x y:Int}(h:H T=some (.tup [.int x, .int y]))(hx:x.natAbs.log2<12000)(hy:y.natAbs.log2<12000)(q:Q (.str (frT x y)) H):rReprT [.ref T] H Q:=⟨T,x,y,rfl,h,hx,hy,q⟩
end L2
namespace BrI
open BrM BrC BrS BrB
theorem zIB(f:Nat->Int):∀k,sm (2*k) f=sm k (λp=>f (2*p))+sm k (λp=>f (2*p+1))
 |0=>by simp[sm]
 |k+1=>by
  rw[show 2*(k+1)=2*k+1+1 by omega,sm,sm,zIB f k,sm,sm];omega
theorem zKr(P:Nat->Nat->Int){k n i:Nat}(h:i<n):sm (2*k) (λb=>tbl (Pat P i b) k 0 n)=tbl P k 0 n:=by
 rw[zIB,zDk P h];have e1:sm k (λp=>tbl (Pat P i (2*p)) k 0 n)=sm n (λe=>pr P k i e*(tbl P k (i+1) e*out P k n i e)):=by
  rw[zAK k λp hp=>zD8 P h hp,zB1];refine zAK n λe _=>?_;unfold pr;rw[<-zB0]
 have e2:sm k (λp=>tbl (Pat P i (2*p+1)) k 0 n)=sm n (λu=>pr P k u i*(tbl P k (u+1) i*out P k n u i)):=by
  rw[zAK k λp hp=>zC3 P h hp,zB1];refine zAK n λu _=>?_;unfold pr;rw[<-zB0]
 rw[e1,e2];omega
def PairAt(k:Nat)(l:List Nat)(s e:Nat):Prop:=∃p u v w,p<k/\l=u++2*p::(v++(2*p+1)::w)/\u.length=s/\s+1+v.length=e/\Rg k v
theorem PairAt.lt{k:Nat}{l:List Nat}{s e:Nat}(h:PairAt k l s e):s<e/\e<l.length/\(e-s)%2=1:=by
 obtain⟨p,u,v,w,_,rfl,hu,he,hv⟩:=h;have:=(zIt v [] [] hv).2;simp at this⊢;omega
section
variable{P P':Nat->Nat->Int}{k n n' i d:Nat}
end
end BrI
namespace BrS
open L2 PySem BrM BrC BrB BrR BrI
theorem zGt{κ:Type}[DecidableEq κ]{kvs:List (κ×V)}{k:κ}{v x:V}(h:valV kvs k=some x):(putK kvs k v).length=kvs.length:=by
 have ha:(kvs.any λkv=>decide (kv.1=k))=true:=by rw[zCm,h];rfl
 unfold putK;rw[if_pos ha,List.length_map]
abbrev Pw(ws:List Int)(a:List Nat):Nat->Nat->Int:=PP (a.map (plw ws))
def FS(k:Nat)(ws:List Int)(a:List Nat)(i j:Nat):Int:=cv (Pw ws a) k (j-i) i []
def S33(P:Nat->Nat->Int)(k i u t q:Nat):Int:=(sm t λe=>cv P k (2*e) i []*pr P k (i+2*e) (i+2*u+1)*cv P k (2*(u-e)) (i+2*e+1) [])+cv P k (2*t) i []*cv P k (2*(u-t)) (i+2*t+1) []*sm q λp=>P (i+2*t) (2*p)*P (i+2*u+1) (2*p+1)
theorem zKN(P:Nat->Nat->Int)(k i u t q:Nat):S33 P k i u t (q+1)=S33 P k i u t q+cv P k (2*t) i []*cv P k (2*(u-t)) (i+2*t+1) []*(P (i+2*t) (2*q)*P (i+2*u+1) (2*q+1)):=by
 unfold S33;rw[sm,Int.mul_add,<-Int.add_assoc]
theorem zHO(P:Nat->Nat->Int)(k i u t:Nat):S33 P k i u t k=S33 P k i u (t+1) 0:=by
 unfold S33;have e:∀f:Nat->Int,sm (t+1) f=sm t f+f t:=λ_=>rfl;have e0:∀f:Nat->Int,sm 0 f=0:=λ_=>rfl;rw[e,e0,Int.mul_zero,Int.add_zero];congr 1;unfold pr;rw[Int.mul_assoc,Int.mul_assoc];congr 1;exact Int.mul_comm _ _
theorem zKM{P:Nat->Nat->Int}{k i u t:Nat}(h:cv P k (2*t) i []*cv P k (2*(u-t)) (i+2*t+1) []=0):S33 P k i u (t+1) 0=S33 P k i u t 0:=by
 rw[<-zHO];unfold S33;rw[h,Int.zero_mul,Int.zero_mul]
theorem zKL(P:Nat->Nat->Int)(k i u:Nat):S33 P k i u 0 0=0:=by
 unfold S33;rw[show sm 0 _=0 from rfl,show sm 0 _=0 from rfl,Int.mul_zero];rfl
theorem zL6(P:Nat->Nat->Int)(k i u:Nat):S33 P k i u (u+1) 0=cv P k (2*(u+1)) i []:=by
 rw[zKB];unfold S33;rw[show sm 0 _=0 from rfl,Int.mul_zero,Int.add_zero]
def DS(k:Nat)(ws:List Int)(a:List Nat)(kvs:List (List Key×V))(Pr:Nat->Nat->Prop):Prop:=∀x y:Nat,Pr x y->valV kvs (ky x y)=some (.int (FS k ws a x y))
theorem DS.put{k:Nat}{ws:List Int}{a:List Nat}{kvs:List (List Key×V)}{Pr Pr':Nat->Nat->Prop}{i j:Nat}{v:Int}(h:DS k ws a kvs Pr)(hP:∀x y,Pr' x y->Pr x y\/(x=i/\y=j))(hv:v=FS k ws a i j):DS k ws a (putK kvs (ky i j) (.int v)) Pr':=λx y hp=>by
 rw[zCP]
 by_cases c:x=i/\y=j
 ·obtain⟨rfl,rfl⟩:=c;rw[if_pos rfl,hv]
 ·rw[if_neg (λz=>c (ky_inj.mp z))];exact h x y ((hP x y hp).resolve_right c)
theorem DS.off{k:Nat}{ws:List Int}{a:List Nat}{kvs:List (List Key×V)}{Pr:Nat->Nat->Prop}{i j:Nat}{v:V}(h:DS k ws a kvs Pr)(hn:¬Pr i j):DS k ws a (putK kvs (ky i j) v) Pr:=λx y hp=>by
 rw[zCP,if_neg (λz=>hn (by obtain⟨rfl,rfl⟩:=ky_inj.mp z;exact hp))];exact h x y hp
theorem DS.at{k:Nat}{ws:List Int}{a:List Nat}{kvs:List (List Key×V)}{Pr:Nat->Nat->Prop}{H:Hp}{d T:Addr}{i j:Nat}(h:DS k ws a kvs Pr)(hp:Pr i j)(gd:H d=some (.dT kvs))(hT:H T=none):DGet (upd H T (.tup [.int (i:Int), .int (j:Int)])) d (.ref T) (some (.int (FS k ws a i j))):=by
 rw[<-h i j hp];exact DGet.t (k:=ky i j) (by rw[zAI (zAH gd hT)];exact gd) zAF
theorem zD9{kvs:List (List Key×V)}{H:Hp}{d T:Addr}{i j:Nat}{v:V}(h:valV kvs (ky i j)=some v)(gd:H d=some (.dT kvs))(hT:H T=none):DGet (upd H T (.tup [.int (i:Int), .int (j:Int)])) d (.ref T) (some v):=by
 rw[<-h];exact DGet.t (k:=ky i j) (by rw[zAI (zAH gd hT)];exact gd) zAF
def spSum33:Sp:=λvs H Q _=>∃ (k:Int) (a:List Nat) (ws:List Int) (p:Addr),vs=[.int k,tx a, .ref p]/\1<=k/\k<=4/\isRow k a=true/\H p=some (iL ws)/\(ws.length:Int)=2*k/\Sm ws/\∀H',Same H H'->Q (.int (wsm k.toNat ws a)) H'
theorem zKw{k:Nat}{ws:List Int}{a:List Nat}(h:a.length%2=1):wsm k ws a=0:=by
 have:=zEN (P:=Pw ws a) (k:=k) (x:=0) (y:=a.length) (by omega);unfold tbl at this;rw[if_pos (Nat.zero_le _),Nat.sub_zero]at this;exact this
theorem zKu{k:Int}{ws:List Int}{a:List Nat}(h1:1<=k)(hk:k<=4)(hl:(ws.length:Int)=2*k)(hs:Sm ws){i j:Nat}(h:j<=40):0<=FS k.toNat ws a i j/\FS k.toNat ws a i j<=cap:=zDX (by omega) (λl hl'=>(zAe h1 hk hl hs l hl').2) (by omega) i []
theorem zKE:(cap*cap*top30*top30).natAbs<big:=by unfold cap big top30;decide +kernel
theorem bigI{x c:Int}(h0:0<=x)(h:x<=c)(hc:c.natAbs<big):x.natAbs<big:=zAf h0 h hc
theorem zDi{ws:List Int}{a:List Nat}{i b:Nat}(hi:i<a.length)(hw:ws.length<=8)(hb:b<ws.length):Pw ws a i b=(if a.getD i 0=63\/a.getD i 0=brs.getD b 0 then 1 else 0)*(if a.getD i 0=63 then ws.getD b 0 else 1):=by
 show PP (a.map (plw ws)) i b=_;rw[zEB hi hw hb]
 by_cases h:a.getD i 0=63
 ·rw[if_pos h,if_pos (.inl h),if_pos h,Int.one_mul]
 ·rw[if_neg h,if_neg h,Int.mul_one]
  by_cases g:a.getD i 0=brs.getD b 0
  ·rw[if_pos g,if_pos (.inr g)]
  ·rw[if_neg g,if_neg (λz=>z.elim h g)]
theorem zCy{t b:Int}(x:Int)(hb:0<b)(h:b.natAbs<2^8000):CDivW x (gcI t b):=by
 refine⟨zGQ hb,?_⟩;have h1:=zGQ (t:=t) hb;have h2:=zNL (t:=t) hb;have h3:(gcI t b).natAbs<=b.natAbs:=by omega
 exact Nat.lt_of_le_of_lt h3 (Nat.lt_of_lt_of_le h (Nat.pow_le_pow_right (by decide) (by decide)))
def spReduced33:Sp:=λvs H Q _=>∃t b:Int,vs=[.int t, .int b]/\0<=t/\0<b/\b.natAbs<2^8000/\∀T H',H T=none->Same H H'->H' T=some (.tup [.int (t/gcI t b), .int (b/gcI t b)])->Q (.ref T) H'
def Gd33(vs:List V)(H:Hp)(k:Int)(a:List Nat)(ws:List Int)(i b:Nat):Prop:=∃wv,vs=[.int k,tx a,wv, .int (i:Int),tx [brs.getD b 0]]/\1<=k/\k<=4/\isRow k a=true/\WOk H k wv ws/\i<a.length/\b<2*k.toNat
def spChance33(cs:Cs):Sp:=λvs H Q E=>∃k a ws i b,Gd33 vs H k a ws i b/\((wsm k.toNat ws a=0/\Ref E cs.NoFilling H)\/(wsm k.toNat ws a≠0/\
 ∀T H',Same H H'->H' T=some (.tup [.int (tpw k.toNat ws a i b/gcI (tpw k.toNat ws a i b) (wsm k.toNat ws a)), .int (wsm k.toNat ws a/gcI (tpw k.toNat ws a i b) (wsm k.toNat ws a))])->Q (.ref T) H'))
theorem zHK:cap.natAbs<2^8000:=by unfold cap top30;decide +kernel
theorem zGM{x:Int}(h0:0<=x)(h:x<=cap):x.natAbs<2^8000:=by
 have:=zHK;have h2:x.natAbs<=cap.natAbs:=by omega
 exact Nat.lt_of_le_of_lt h2 this
theorem zFx{k:Int}{ws:List Int}{a:List Nat}(h1:1<=k)(hk:k<=4)(hl:(ws.length:Int)=2*k)(hs:Sm ws)(ha:a.length<=40):0<=wsm k.toNat ws a/\wsm k.toNat ws a<=cap:=zDX (by omega) (λl hl'=>(zAe h1 hk hl hs l hl').2) ha 0 []
theorem zH4{k:Int}{ws:List Int}{a:List Nat}(h1:1<=k)(hk:k<=4)(hl:(ws.length:Int)=2*k)(hs:Sm ws)(i b:Nat):0<=tpw k.toNat ws a i b:=by
 rw[zMB];refine zE9 (λj c=>?_) _ _ _;unfold Pat
 split
 ·exact Int.le_refl _
 ·exact(zAW (λl hl'=>(zAe h1 hk hl hs l hl').2) j c).1
end BrS
namespace BrS
open L2 PySem
theorem bigS{x:Int}(h:x.natAbs<1000):x.natAbs<big:=Nat.lt_of_lt_of_le h (by unfold big;decide +kernel)
end BrS
namespace BrS
open L2 PySem BrM BrC BrB BrR BrI
def one1(P:Nat->Nat->Int)(s b:Nat):O:=if 0<P s b then some (P s b,[b])else none
theorem zFu{P:Nat->Nat->Int}(s b:Nat):Best (λl=>l=[b]) (wtl P s) (one1 P s b):=by
 have e:wtl P s [b]=P s b:=by rw[wtl,wtl,Int.mul_one]
 unfold one1
 by_cases h:0<P s b
 ·rw[if_pos h];exact⟨rfl,e,h,λm hm=>by subst hm;exact .inr ⟨e,List.lt_irrefl _⟩⟩
 ·rw[if_neg h];intro l hl;subst hl;rw[e];omega
def cand(P:Nat->Nat->Int)(m last p:Nat)(o1 o2:O):O:=beh o1 (beh (one1 P m (2*p)) (beh o2 (one1 P last (2*p+1))))
def EJ(k i m last p:Nat)(l:List Nat):Prop:=∃u v,l=jn p u v/\Dn k i m u/\Dn k (m+1) last v
theorem zFv{P:Nat->Nat->Int}(hP:∀i b,0<=P i b){k i m last p:Nat}{o1 o2:O}(h1:Best (Dn k i m) (wtl P i) o1)(h2:Best (Dn k (m+1) last) (wtl P (m+1)) o2):Best (EJ k i m last p) (wtl P i) (cand P m last p o1 o2):=by
 have b3:Best (λl=>∃v,l=v++[2*p+1]/\Dn k (m+1) last v) (wtl P (m+1)) (beh o2 (one1 P last (2*p+1))):=
  Best.beh (n:=last-(m+1)) (S:=Dn k (m+1) last) (S':=λl=>l=[2*p+1]) (f:=wtl P (m+1)) (g:=wtl P last) (λl hl=>⟨by have:=hl.2;omega,zCB hP _ _⟩) (λl _=>zCB hP _ _)
   (λl=>⟨λ⟨v,e,hv⟩=>⟨v,_,e,hv,rfl⟩,λ⟨u,v,e,hu,hv⟩=>⟨u,by rw[e,hv],hu⟩⟩) (λu v hu hv=>by rw[zCe,hu.2]) h2 (zFu _ _)
 have b2:Best (λl=>∃v,l=[2*p]++(v++[2*p+1])/\Dn k (m+1) last v) (wtl P m) (beh (one1 P m (2*p)) (beh o2 (one1 P last (2*p+1)))):=
  Best.beh (n:=1) (S:=λl=>l=[2*p]) (S':=λl=>∃v,l=v++[2*p+1]/\Dn k (m+1) last v) (f:=wtl P m) (g:=wtl P (m+1)) (λl hl=>⟨by rw[hl];rfl,zCB hP _ _⟩) (λl _=>zCB hP _ _)
   (λl=>⟨λ⟨v,e,hv⟩=>⟨_,_,e,rfl,v,rfl,hv⟩,λ⟨u,w,e,hu,v,hv,hd⟩=>⟨v,by rw[e,hu,hv],hd⟩⟩) (λu v hu hv=>by rw[zCe,hu];rfl) (zFu _ _) b3
 exact Best.beh (n:=m-i) (S:=Dn k i m) (S':=λl=>∃v,l=[2*p]++(v++[2*p+1])/\Dn k (m+1) last v) (f:=wtl P i) (g:=wtl P m) (λl hl=>⟨by have:=hl.2;omega,zCB hP _ _⟩) (λl _=>zCB hP _ _)
  (λl=>⟨λ⟨u,v,e,hu,hv⟩=>⟨u,_,e,hu,v,rfl,hv⟩,λ⟨u,w,e,hu,v,hv,hd⟩=>⟨u,v,by rw[e,hv];rfl,hu,hd⟩⟩) (λu v hu hv=>by rw[zCe,hu.2]) h1 b2
def Lq(k i last t q:Nat)(l:List Nat):Prop:=Dn k i (last+1) l/\∃p u v,p<k/\l=jn p u v/\Rg k u/\Rg k v/\(u.length<2*t\/(u.length=2*t/\p<q))
theorem Lq.zero(k i last:Nat)(l:List Nat):¬Lq k i last 0 0 l:=λ⟨_,p,u,v,_,_,_,_,h⟩=>by omega
theorem Lq.next{k i last t q m:Nat}(hm:m=i+2*t)(hq:q<k)(hl:m<last)(l:List Nat):Lq k i last t (q+1) l↔Lq k i last t q l\/EJ k i m last q l:=by
 constructor
 ·rintro⟨dn,p,u,v,hp,e,hu,hv,h⟩
  by_cases c:u.length=2*t/\p=q
  ·obtain⟨c1,rfl⟩:=c;have:=dn.2;rw[e,zG5]at this;exact .inr ⟨u,v,e,⟨hu,by omega⟩,⟨hv,by omega⟩⟩
  ·exact .inl ⟨dn,p,u,v,hp,e,hu,hv,by omega⟩
 ·rintro(⟨dn,p,u,v,hp,e,hu,hv,h⟩|⟨u,v,e,hu,hv⟩)
  ·exact⟨dn,p,u,v,hp,e,hu,hv,by omega⟩
  ·have h1:=hu.2;have h2:=hv.2;exact⟨⟨by rw[e];exact zN8 hq hu.1 hv.1,by rw[e,zG5];omega⟩,q,u,v,hq,e,hu.1,hv.1, .inr ⟨by omega,by omega⟩⟩
theorem Lq.row{k i last t:Nat}(l:List Nat):Lq k i last t k l↔Lq k i last (t+1) 0 l:=by
 constructor
 ·rintro⟨dn,p,u,v,hp,e,hu,hv,h⟩;exact⟨dn,p,u,v,hp,e,hu,hv,by omega⟩
 ·rintro⟨dn,p,u,v,hp,e,hu,hv,h⟩;have:=zEo hu;exact⟨dn,p,u,v,hp,e,hu,hv,by omega⟩
theorem Lq.all{k i last n:Nat}(h:last+1=i+2*n)(hn:0<n)(l:List Nat):Lq k i last n 0 l↔Dn k i (last+1) l:=by
 refine⟨λz=>z.1,λdn=>?_⟩;obtain⟨p,u,v,hp,e,hu,hv⟩:=zLW dn.1 (by have:=dn.2;omega);have:=dn.2;rw[e,zG5]at this;exact⟨dn,p,u,v,hp,e,hu,hv, .inl (by omega)⟩
theorem zG3{x w:Int}{l m:List Nat}(h:ltP (-w,m) (-x,l)=true):lik (some (x,l)) (some (w,m))=some (w,m):=by
 rcases ltP_iff.mp h with z|⟨z1,z2⟩
 ·have z: -w< -x:=z;show(if x=w then _ else if x>w then _ else _)=_;rw[if_neg (by omega),if_neg (by omega)]
 ·have z1: -w= -x:=z1;have z2:m<l:=z2;show(if x=w then(if l<m then _ else _)else _)=_;rw[if_pos (by omega),if_neg (λz=>List.lt_irrefl _ (List.lt_trans z z2))]
theorem zG4{x w:Int}{l m:List Nat}(h:ltP (-w,m) (-x,l)=false):lik (some (x,l)) (some (w,m))=some (x,l):=by
 rcases ltP_no.mp h with z|⟨z1,z2⟩
 ·have z: -x< -w:=z;show(if x=w then _ else if x>w then _ else _)=_;rw[if_neg (by omega),if_pos (by omega)]
 ·have z1: -w= -x:=z1;have z2:¬m<l:=z2;have e:x=w:=by omega
  subst e;show(if x=x then(if l<m then _ else _)else _)=_;rw[if_pos rfl]
  by_cases c:l<m
  ·rw[if_pos c]
  ·rw[if_neg c];rcases zId l m with y|y|y
   ·exact absurd y c
   ·rw[y]
   ·exact absurd y z2
theorem zCx(o:O):lik o none=o:=by cases o<;>rfl
def Ent(d:Addr)(H:Hp)(x:Option V):O->Prop
 |none=>x=none
 |some (w,l)=>∃T p:Addr,x=some (.ref T)/\T≠d/\p≠d/\H T=some (.tup [.int (-w), .ref p])/\H p=some (.lst (nL l))
theorem Ent.keep{d:Addr}{H H':Hp}{x:Option V}:∀ {o:O},Ent d H x o->SameBut1 d H H'->Ent d H' x o
 |none,h,_=>h
 |some (w,l),⟨T,p,h1,h2,h3,h4,h5⟩,s=>⟨T,p,h1,h2,h3,s _ _ h4 h2,s _ _ h5 h3⟩
def BD(k:Nat)(P:Nat->Nat->Int)(d:Addr)(H:Hp)(kvs:List (List Key×V))(Pr:Nat->Nat->Prop):Prop:=∀x y:Nat,(Pr x y->∃o,Best (Dn k x y) (wtl P x) o/\Ent d H (valV kvs (ky x y)) o)/\(¬Pr x y->valV kvs (ky x y)=none)
theorem BD.keep{k:Nat}{P:Nat->Nat->Int}{d:Addr}{H H':Hp}{kvs:List (List Key×V)}{Pr:Nat->Nat->Prop}(h:BD k P d H kvs Pr)(s:SameBut1 d H H'):BD k P d H' kvs Pr:=λx y=>⟨λhp=>by
 obtain⟨o,h1,h2⟩:=(h x y).1 hp;exact⟨o,h1,h2.keep s⟩,(h x y).2⟩
end BrS
namespace PySem.SeqAt
open AutoSeq1 (wpAny_loadPart')
open MeetsSeq MeetsSeq2 MeetsSeq3 SeqRoads2
theorem zKy(l b:Addr)(x1 x2 x3 y1 y2 y3:Value)(n n2:Nat)(dd dd2:Option Addr)(sl sl2:Array (Option Value))(e1 r:Bool):
 Meets (Builtin.«tuple.__lt__» ⟨[.ref l, .ref b],[]⟩)
  (λA R s=>s.heap.get? l=some {cls:= .type "tuple",dict:=dd,data:= .seq #[x1,x2,x3] n,slots:=sl}/\s.heap.get? b=some {cls:= .type "tuple",dict:=dd2,data:= .seq #[y1,y2,y3] n2,slots:=sl2}/\
    EqAt A.in1 s x1 y1 e1/\(e1=true->EqAt A.in1 s x2 y2 false)/\(e1=false->LtAt A.in1 s x1 y1 r)/\(e1=true->LtAt A.in1 s x2 y2 r)/\R (.ok (.ret (.bool r))) s):=
 .of_wp λprog w A R s h=>by
   obtain⟨hp,g,d,tk,os⟩:=s;obtain⟨hl,hb,q1,q2,q3,q4,h⟩:=h;have f2:=AutoSeq1.sub_tuple_tuple
   wp_walk using wpAny_loadPart' hl,wpAny_loadPart' hb,wpAny_forIn_list _ (λrest b s'=>b.1=none/\s'=⟨hp,g,d,tk,os⟩/\(rest=[(x1,y1),(x2,y2),(x3,y3)]\/(rest=[(x2,y2),(x3,y3)]/\e1=true))) _
   case turn=>
    rintro⟨y,x⟩ rest b s' ⟨hb',rfl,hz⟩;rcases hz with hz|⟨hz,c1⟩
    ·injection hz with hyx hrest
     injection hyx with hy hx
     subst hy hx;refine wpAny_bind (q1 prog w _ _ ?_)
     cases e1 with
     |true=>wp_walk;exact⟨rfl,rfl, .inr ⟨hrest,rfl⟩⟩
     |false=>
      have hri:=q3 rfl prog w
      wp_walk using hri
      exact⟨_,rfl,by simpa using h⟩
    ·injection hz with hyx hrest
     injection hyx with hy hx
     subst hy hx;refine wpAny_bind (q2 c1 prog w _ _ ?_);have hri:=q4 c1 prog w
     wp_walk using hri
     exact⟨_,rfl,by simpa using h⟩
   case fin=>
    rintro⟨b1,b2⟩ s' ⟨hb',rfl,hz⟩;rcases hz with hz|⟨hz,_⟩
    ·cases hz
    ·cases hz
   case h=>exact⟨rfl,rfl, .inl rfl⟩
theorem lt_tup3{A:Around}{s:Shared}{l b:Addr}{x1 x2 x3 y1 y2 y3:Value}{e1 r:Bool}(hl:s.heap.IsTuple l #[x1,x2,x3])(hb:s.heap.IsTuple b #[y1,y2,y3])(hu:A.units<cLine)
 (q1:EqAt A.in1 s x1 y1 e1) (q2:e1=true->EqAt A.in1 s x2 y2 false) (q3:e1=false->LtAt A.in1 s x1 y1 r) (q4:e1=true->LtAt A.in1 s x2 y2 r):LtAt A s (.ref l) (.ref b) r:=λprog w Q E h=>by
 obtain⟨⟨cls,dd,data,sl⟩,ho,hc,n,hd⟩:=id hl;obtain⟨⟨cls2,dd2,data2,sl2⟩,ho2,hc2,n2,hd2⟩:=id hb;simp only at hc hd hc2 hd2;subst hc hd hc2 hd2;exact richCompare_meets_room (op:= .Lt) ⟨_,ho,rfl⟩ ⟨_,ho2,rfl⟩ F.slot_tuple_lt F.entry_tuple_lt (F.args_tuple_lt_2 _ _) (zKy l b x1 x2 x3 y1 y2 y3 n n2 dd dd2 sl sl2 e1 r)
  ⟨ho,ho2,q1,q2,q3,q4,show Value.bool r≠Value.notImplemented/\Q (.bool r) s from⟨(λx=>nomatch x),h⟩⟩ hu
end PySem.SeqAt
namespace L2
open PySem PySem.Spec PyProof.Rows
section
variable{X:Cx}
def rLtV:R2:=λx y H Q=>∃ (T U p r:Addr) (a b:Int) (l m:List Nat),x= .ref T/\y= .ref U/\H T=some (.tup [.int a, .ref p])/\H p=some (.lst (nL l))/\H U=some (.tup [.int b, .ref r])/\H r=some (.lst (nL m))/\(a=b->l.length=m.length)/\Q (.bl (ltP (a,l) (b,m))) H
theorem zKi{l m:List Nat}(h:nL l=nL m):l=m:=by
 have:=zE5 l m;rw[h,zE5,decide_eq_true rfl]at this;exact of_decide_eq_true this.symm
theorem zM2(hu:X.A.units+5<cLine):OpR X (compareOp .Lt) rLtV:=by
 intro pins s σ H x y v u Q I rx ry ⟨T,U,p,r,a,b,l,m,e1,e2,g1,g2,g3,g4,hl,q⟩;subst e1 e2
 cases rx
 cases ry
 obtain⟨us,r1,p1,_⟩:=I.tuple (SqT.of g1);obtain⟨ws,r2,p2,_⟩:=I.tuple (SqT.of g3);obtain⟨ys,r3,p3,_⟩:=I.list (SqL.of g2);obtain⟨zs,r4,p4,_⟩:=I.list (SqL.of g4)
 cases r1 with
 |cons ra rb=>
  cases rb with
  |cons rb rc=>
   cases rc;cases rb
   obtain⟨t1,rfl⟩:=ra
   cases r2 with
   |cons sa sb=>
    cases sb with
    |cons sb sc=>
     cases sc;cases sb
     obtain⟨t2,rfl⟩:=sa;have hs:p=r->l=m:=λe=>by
      subst e;rw[g2]at g4;exact zKi (by injection g4 with g4;injection g4)
     refine SeqAt.lt_tup2 (A:=X.A) (e1:=(a==b)) (e2:=decide (l=m)) (r:=ltP (a,l) (b,m)) p1 p2 (show X.A.units<cLine by omega) (SeqAt.EqAt.int_int _ _ _ _) (λh=>zG2 r3 r4 p3.isList p4.isList (hl (by simpa using h)) hs (show X.A.units+1<cLine by omega)) ?_ ?_ ?_ X.prog X.w _ _ ⟨.bl (ltP (a,l) (b,m)),H,I,rfl,q⟩
     ·intro h1 prog w Q3 E3 q3;have h1:¬a=b:=by simpa using h1
      have:ltP (a,l) (b,m)=decide (a<b):=by simp[ltP,h1]
      rw[this]at q3;exact(PyProof.Rows.lt_int q3:wpAny (model prog w) _ (compareOp .Lt _ _) Q3 E3 s)
     ·intro h1 h2;have h1:a=b:=by simpa using h1
      have:ltP (a,l) (b,m)=decide (l<m):=by simp[ltP,h1]
      rw[this];exact zG1 r3 r4 p3.isList p4.isList (hl h1) (of_decide_eq_false h2) (show X.A.units+1<cLine by omega)
     ·intro h1 h2;have h1:a=b:=by simpa using h1
      exact ltP_no.mpr (.inr ⟨h1,by rw[of_decide_eq_true h2];exact List.lt_irrefl _⟩)
def rLtU:R2:=λx y H Q=>∃ (T U p r:Addr) (a b:Int) (l m:List Nat) (c d:V),x= .ref T/\y= .ref U/\H T=some (.tup [.int a, .ref p,c])/\H p=some (.lst (nL l))/\H U=some (.tup [.int b, .ref r,d])/\H r=some (.lst (nL m))/\l.length=m.length/\l≠m/\Q (.bl (ltP (a,l) (b,m))) H
theorem zM3(hu:X.A.units+5<cLine):OpR X (compareOp .Lt) rLtU:=by
 intro pins s σ H x y v u Q I rx ry ⟨T,U,p,r,a,b,l,m,c,d,e1,e2,g1,g2,g3,g4,hl,hne,q⟩;subst e1 e2
 cases rx
 cases ry
 obtain⟨us,r1,p1,_⟩:=I.tuple (SqT.of g1);obtain⟨ws,r2,p2,_⟩:=I.tuple (SqT.of g3);obtain⟨ys,r3,p3,_⟩:=I.list (SqL.of g2);obtain⟨zs,r4,p4,_⟩:=I.list (SqL.of g4)
 cases r1 with
 |cons ra rb=>
  cases rb with
  |cons rb rc=>
   cases rc with
   |cons rc rd=>
    cases rd;cases rb
    obtain⟨t1,rfl⟩:=ra
    cases r2 with
    |cons sa sb=>
     cases sb with
     |cons sb sc=>
      cases sc with
      |cons sc sd=>
       cases sd;cases sb
       obtain⟨t2,rfl⟩:=sa;have hs:p=r->l=m:=λe=>by
        subst e;rw[g2]at g4;exact zKi (by injection g4 with g4;injection g4)
       have hq:=zG2 (A:=X.A.in1) r3 r4 p3.isList p4.isList hl hs (show X.A.units+1<cLine by omega);rw[decide_eq_false hne]at hq;refine SeqAt.lt_tup3 (A:=X.A) (e1:=(a==b)) (r:=ltP (a,l) (b,m)) p1 p2 (show X.A.units<cLine by omega) (SeqAt.EqAt.int_int _ _ _ _) (λ_=>hq) ?_ ?_ X.prog X.w _ _ ⟨.bl (ltP (a,l) (b,m)),H,I,rfl,q⟩
       ·intro h1 prog w Q3 E3 q3;have h1:¬a=b:=by simpa using h1
        have:ltP (a,l) (b,m)=decide (a<b):=by simp[ltP,h1]
        rw[this]at q3;exact(PyProof.Rows.lt_int q3:wpAny (model prog w) _ (compareOp .Lt _ _) Q3 E3 s)
       ·intro h1;have h1:a=b:=by simpa using h1
        have:ltP (a,l) (b,m)=decide (l<m):=by simp[ltP,h1]
        rw[this];exact zG1 r3 r4 p3.isList p4.isList hl hne (show X.A.units+1<cLine by omega)
end
section
variable{σ:St}{H:Hp}{Q:VK}{td ty:TE}
theorem zMZ(h:ty σ H λy H1=>td σ H1 λx H2=>∃a o,x= .ref a/\DGet H2 a y o/\Q (.bl o.isSome) H2):tDIn ty td σ H Q:=h
theorem zMY(h:ty σ H λy H1=>td σ H1 λx H2=>∃a o,x= .ref a/\DGet H2 a y o/\Q (.bl (!o.isSome)) H2):tDNotIn ty td σ H Q:=h
theorem zNk{t:TE}{R:Bool->Hp->Prop}(h:t σ H λx H1=>∃c,x= .bl c/\R c H1):tB t σ H R:=h
theorem zMN{T U p r:Addr}{a b:Int}{l m:List Nat}(g1:H T=some (.tup [.int a, .ref p]))(g2:H p=some (.lst (nL l)))(g3:H U=some (.tup [.int b, .ref r]))(g4:H r=some (.lst (nL m)))(hl:a=b->l.length=m.length)(q:Q (.bl (ltP (a,l) (b,m))) H):rLtV (.ref T) (.ref U) H Q:=⟨T,U,p,r,a,b,l,m,rfl,rfl,g1,g2,g3,g4,hl,q⟩
theorem zNv{T U p r:Addr}{a b:Int}{l m:List Nat}{c d:V}(g1:H T=some (.tup [.int a, .ref p,c]))(g2:H p=some (.lst (nL l)))(g3:H U=some (.tup [.int b, .ref r,d]))(g4:H r=some (.lst (nL m)))(hl:l.length=m.length)(hne:l≠m)(q:Q (.bl (ltP (a,l) (b,m))) H):rLtU (.ref T) (.ref U) H Q:=⟨T,U,p,r,a,b,l,m,c,d,rfl,rfl,g1,g2,g3,g4,hl,hne,q⟩
end
end L2
namespace BrS
open L2 PySem BrM BrC BrB BrR BrI
def spFirst33:Sp:=λvs H Q _=>∃ (k:Int) (a:List Nat) (ws:List Int) (p:Addr),vs=[.int k,tx a, .ref p]/\1<=k/\k<=4/\isRow k a=true/\H p=some (iL ws)/\(ws.length:Int)=2*k/\Sm ws/\∀ (v:V) (o:O) (H':Hp),Same H H'->Ft H' v o->Best (Dn k.toNat 0 a.length) (wtl (Pw ws a) 0) o->Q v H'
section
variable{k:Nat}{P:Nat->Nat->Int}{d:Addr}{H H':Hp}{kvs:List (List Key×V)}{Pr Pr':Nat->Nat->Prop}{i j:Nat}
def BD1(k:Nat)(P:Nat->Nat->Int)(d:Addr)(H:Hp)(kvs:List (List Key×V))(Pr:Nat->Nat->Prop)(i j:Nat):Prop:=∀x y:Nat,¬ (x=i/\y=j)->(Pr x y->∃o,Best (Dn k x y) (wtl P x) o/\Ent d H (valV kvs (ky x y)) o)/\(¬Pr x y->valV kvs (ky x y)=none)
theorem BD.one(h:BD k P d H kvs Pr)(i j:Nat):BD1 k P d H kvs Pr i j:=λx y _=>h x y
theorem BD1.keep(h:BD1 k P d H kvs Pr i j)(s:SameBut1 d H H'):BD1 k P d H' kvs Pr i j:=λx y hn=>⟨λhp=>by
 obtain⟨o,h1,h2⟩:=(h x y hn).1 hp;exact⟨o,h1,h2.keep s⟩,(h x y hn).2⟩
theorem BD1.put(h:BD1 k P d H kvs Pr i j)(v:V):BD1 k P d (upd H d (.dT (putK kvs (ky i j) v))) (putK kvs (ky i j) v) Pr i j:=λx y hn=>by
 have e:valV (putK kvs (ky i j) v) (ky x y)=valV kvs (ky x y):=by rw[zCP,if_neg (λz=>hn (ky_inj.mp z))]
 rw[e];exact(h.keep SameBut1.upd) x y hn
theorem BD1.all(h:BD1 k P d H kvs Pr i j)(e:∃o,Best (Dn k i j) (wtl P i) o/\Ent d H (valV kvs (ky i j)) o)(hP:∀x y,Pr' x y↔Pr x y\/(x=i/\y=j)):BD k P d H kvs Pr':=λx y=>by
 by_cases c:x=i/\y=j
 ·obtain⟨rfl,rfl⟩:=c;exact⟨λ_=>e,λz=>absurd ((hP x y).mpr (.inr ⟨rfl,rfl⟩)) z⟩
 ·obtain⟨h1,h2⟩:=h x y c;exact⟨λhp=>h1 (((hP x y).mp hp).resolve_right c),λhn=>h2 (λz=>hn ((hP x y).mpr (.inl z)))⟩
theorem Ent.new{w:Int}{l:List Nat}{T p:Addr}(h2:T≠d)(h3:p≠d)(h4:H T=some (.tup [.int (-w), .ref p]))(h5:H p=some (.lst (nL l)))(kvs:List (List Key×V))(i j:Nat):Ent d (upd H d (.dT (putK kvs (ky i j) (.ref T)))) (valV (putK kvs (ky i j) (.ref T)) (ky i j)) (some (w,l)):=⟨T,p,by rw[zCP,if_pos rfl],h2,h3,by rw[zAI h2];exact h4,by rw[zAI h3];exact h5⟩
theorem Ent.is{x:Option V}:∀ {o:O},Ent d H x o->x.isSome=o.isSome
 |none,h=>by rw[show x=none from h];rfl
 |some _,⟨T,p,h,_⟩=>by rw[h];rfl
end
theorem zJM{P:Nat->Nat->Int}(hP:∀i b,0<=P i b){k i last t m:Nat}{o o1 o2:O}(hm:m=i+2*t)(hl:m<last)(h1:Best (Dn k i m) (wtl P i) o1)(h2:Best (Dn k (m+1) last) (wtl P (m+1)) o2)(hn:o1=none\/o2=none)(hb:Best (Lq k i last t 0) (wtl P i) o):Best (Lq k i last (t+1) 0) (wtl P i) o:=by
 have go:∀q,q<=k->Best (Lq k i last t q) (wtl P i) o:=by
  intro q
  induction q with
  |zero=>intro _;exact hb
  |succ q ih=>
   intro hq;have b:=(ih (by omega)).un (zFv hP (p:=q) h1 h2);have e:cand P m last q o1 o2=none:=by
    unfold cand;rcases hn with rfl|rfl
    ·rfl
    ·cases o1 with
     |none=>rfl
     |some x=>
      have:beh (one1 P m (2*q)) (beh none (one1 P last (2*q+1)))=none:=by
       show beh (one1 P m (2*q)) none=none
       cases one1 P m (2*q)<;>rfl
      rw[this];rfl
   rw[e,zCx]at b;exact b.iff λl=>(Lq.next hm (by omega) hl l).symm
 exact(go k (Nat.le_refl _)).iff λl=>Lq.row l
theorem zJN{P:Nat->Nat->Int}(hP:∀i b,0<=P i b){k i last t m q:Nat}{o o1 o2:O}(hm:m=i+2*t)(hl:m<last)(hq:q<k)(h1:Best (Dn k i m) (wtl P i) o1)(h2:Best (Dn k (m+1) last) (wtl P (m+1)) o2)(hb:Best (Lq k i last t q) (wtl P i) o):Best (Lq k i last t (q+1)) (wtl P i) (lik o (cand P m last q o1 o2)):=(hb.un (zFv hP (p:=q) h1 h2)).iff λl=>(Lq.next hm hq hl l).symm
theorem zJB{P:Nat->Nat->Int}{m last p:Nat}{w1 w2:Int}{u v:List Nat}(h1:0<P m (2*p))(h2:0<P last (2*p+1)):cand P m last p (some (w1,u)) (some (w2,v))=some (w1*w2*P m (2*p)*P last (2*p+1),jn p u v):=by
 unfold cand one1;rw[if_pos h1,if_pos h2];show some (w1*(P m (2*p)*(w2*P last (2*p+1))),u++([2*p]++(v++[2*p+1])))=_;rw[show w1*(P m (2*p)*(w2*P last (2*p+1)))=w1*w2*P m (2*p)*P last (2*p+1) by simp only[Int.mul_comm,Int.mul_left_comm,Int.mul_assoc]]
 rfl
theorem zFm{P:Nat->Nat->Int}{m last p:Nat}{o1 o2:O}(h:¬ (0<P m (2*p)/\0<P last (2*p+1))):cand P m last p o1 o2=none:=by
 unfold cand one1
 by_cases h1:0<P m (2*p)
 ·have h2:¬0<P last (2*p+1):=λz=>h ⟨h1,z⟩;rw[if_neg h2]
  cases o1<;>cases o2<;>rw[if_pos h1]<;>rfl
 ·rw[if_neg h1]
  cases o1<;>rfl
theorem zHM{ps:List (List Int)}(h:∀l∈ps,Sm l){k x y:Nat}(hy:y<=40){w:Int}{l:List Nat}(hb:Best (Dn k x y) (wtl (PP ps) x) (some (w,l))):0<w/\w<=top30^40/\l.length<=40/\x+l.length=y:=by
 obtain⟨⟨b1,b0⟩,b2,b3,_⟩:=hb;have hl:l.length<=40:=by omega
 obtain⟨c1,c2⟩:=zEa h l x;rw[b2]at c1 c2;exact⟨b3,Int.le_trans c2 (zEb hl),hl,b0⟩
end BrS
namespace BrS
open L2 PySem BrM
theorem zGd{kvs:List (List Key×V)}{H:Hp}{d T:Addr}(i j:Nat)(gd:H d=some (.dT kvs))(hT:H T=none):DGet (upd H T (.tup [.int (i:Int), .int (j:Int)])) d (.ref T) (valV kvs (ky i j)):=DGet.t (k:=ky i j) (by rw[zAI (zAH gd hT)];exact gd) zAF
theorem negneg33(w:Int):(0:Int)- -w=w:=by omega
end BrS
namespace BrS
open L2 PySem BrM BrC BrB BrR BrI
def spPlaces33:Sp:=λvs H Q _=>∃l:List Nat,vs=[tx (brx l)]/\(∀b∈l,b<8)/\l.length<=40/\∀p H',H p=none->Same H H'->H' p=some (.lst (nL l))->Q (.ref p) H'
def spFills33:Sp:=λvs H Q _=>∃ (a l:List Nat) (ws:List Int) (T p:Addr) (k:Int),vs=[tx a, .ref T, .ref p]/\1<=k/\k<=4/\isRow k a=true/\H T=some (.tup [.int (wtl (Pw ws a) 0 l),tx (brx l)])/\H p=some (iL ws)/\(ws.length:Int)=2*k/\Sm ws/\Dn k.toNat 0 a.length l/\0<wtl (Pw ws a) 0 l/\∀H',Same H H'->Q (.bl true) H'
theorem zNY{l:List Nat}(h:∀b∈l,b<8):((brx l).map λc=>V.int (((occ1 brs c).getD 0:Nat):Int))=nL l:=by
 unfold brx nL;rw[List.map_map];refine List.map_congr_left λb hb=>?_;show V.int (((occ1 brs (brs.getD b 0)).getD 0:Nat):Int)=_;rw[zEx (h b hb)];rfl
theorem zHx{P:Nat->Nat->Int}(hP:∀i b,0<=P i b):∀ (l:List Nat) (s:Nat),0<wtl P s l->∀i,i<l.length->0<P (s+i) (l.getD i 0)
 |[],_,_,_,hi=>absurd hi (Nat.not_lt_zero _)
 |b::l,s,h,i,hi=>by
  rw[wtl]at h;obtain⟨h1,h2⟩:=(zB4 (hP s b) (zCB hP l (s+1))).mp h
  cases i with
  |zero=>exact h1
  |succ i=>
   have:=zHx hP l (s+1) h2 i (by simpa using hi);rw[show s+1+i=s+(i+1) by omega]at this;exact this
theorem zKl{k:Int}{ws:List Int}{a l:List Nat}(k1:1<=k)(k4:k<=4)(hl:(ws.length:Int)=2*k)(hs:Sm ws)(dn:Dn k.toNat 0 a.length l)(hp:0<wtl (Pw ws a) 0 l){i:Nat}(hi:i<a.length):(a.getD i 0=63\/a.getD i 0=brs.getD (l.getD i 0) 0)/\Pw ws a i (l.getD i 0)=if a.getD i 0=63 then ws.getD (l.getD i 0) 0 else 1:=by
 have hl2:l.length=a.length:=by have:=dn.2;omega
 have hb:l.getD i 0<2*k.toNat:=zD3 l [] [] dn.1 _ (by rw[List.getD_eq_getElem?_getD,List.getElem?_eq_getElem (by omega)];exact List.getElem_mem _);have hP:∀i b,0<=Pw ws a i b:=λi b=>(zAW (λl hl'=>(zAe k1 k4 hl hs l hl').2) i b).1;have h:=zHx hP l 0 hp i (by omega);rw[Nat.zero_add]at h;have e:=zEB (ws:=ws) (a:=a) hi (by omega) (b:=l.getD i 0) (by omega);have e:Pw ws a i (l.getD i 0)=_:=e;rw[e]at h
 by_cases c:a.getD i 0=63
 ·exact⟨.inl c,by rw[e,if_pos c,if_pos c]⟩
 ·rw[if_neg c]at h
  by_cases g:a.getD i 0=brs.getD (l.getD i 0) 0
  ·exact⟨.inr g,by rw[e,if_neg c,if_pos g,if_neg c]⟩
  ·rw[if_neg g]at h;exact absurd h (Int.lt_irrefl _)
theorem zL8{k:Int}{ws:List Int}{a l:List Nat}(k1:1<=k)(k4:k<=4)(hl:(ws.length:Int)=2*k)(hs:Sm ws)(dn:Dn k.toNat 0 a.length l)(hp:0<wtl (Pw ws a) 0 l):wtl (Pw ws a) 0 l=wg ws a l:=by
 have hl2:l.length=a.length:=by have:=dn.2;omega
 exact zKQ a l (Pw ws a) 0 hl2.symm λi hi=>by rw[Nat.zero_add];exact(zKl k1 k4 hl hs dn hp (by omega)).2
theorem zH7:(top30^40).natAbs<big:=by unfold top30 big;decide +kernel
theorem zJQ{ws:List Int}{a:List Nat}{i c:Nat}:∀j b,j≠i->Pw ws (a.set i c) j b=Pw ws a j b:=λj b h=>by
 show(((a.set i c).map (plw ws)).getD j []).getD b 0=((a.map (plw ws)).getD j []).getD b 0;have e:((a.set i c).map (plw ws)).getD j []=(a.map (plw ws)).getD j []:=by rw[List.getD_eq_getElem?_getD,List.getElem?_map,List.getElem?_set_ne (Ne.symm h),List.getD_eq_getElem?_getD,List.getElem?_map]
 rw[e]
theorem zJP{ws:List Int}{a:List Nat}{i b x:Nat}(hi:i<a.length)(hw:ws.length<=8)(hb:b<ws.length)(hx:x<ws.length):Pw ws (a.set i (brs.getD b 0)) i x=if x=b then 1 else 0:=by
 have e:=zEB (ws:=ws) (a:=a.set i (brs.getD b 0)) (i:=i) (b:=x) (by rw[List.length_set];exact hi) hw hx;have g:(a.set i (brs.getD b 0)).getD i 0=brs.getD b 0:=by rw[List.getD_eq_getElem?_getD,List.getElem?_set_self hi];rfl
 have e:Pw ws (a.set i (brs.getD b 0)) i x=_:=e;rw[e,g,if_neg (zJH b (by omega))]
 by_cases h:x=b
 ·subst h;rw[if_pos rfl,if_pos rfl]
 ·rw[if_neg (λz=>h (zJI b (by omega) x (by omega) z).symm),if_neg h]
theorem zK0{k:Int}{ws:List Int}{a:List Nat}{i b:Nat}(k1:1<=k)(k4:k<=4)(hl:(ws.length:Int)=2*k)(hi:i<a.length)(hb:b<2*k.toNat):tpw k.toNat ws a i b=Pw ws a i b*wsm k.toNat ws (a.set i (brs.getD b 0)):=by
 have off:∀j x,j≠i->Pw ws (a.set i (brs.getD b 0)) j x=Pw ws a j x:=zJQ;have e1:wsm k.toNat ws (a.set i (brs.getD b 0))=tbl (Pat (Pw ws (a.set i (brs.getD b 0))) i b) k.toNat 0 a.length:=by
  have e:=zKr (k:=k.toNat) (Pw ws (a.set i (brs.getD b 0))) hi;have e0:tbl (Pw ws (a.set i (brs.getD b 0))) k.toNat 0 a.length=wsm k.toNat ws (a.set i (brs.getD b 0)):=by
   unfold tbl wsm;rw[if_pos (Nat.zero_le _),Nat.sub_zero,List.length_set]
  rw[<-e0,<-e];have z:∀x,x<2*k.toNat->x≠b->tbl (Pat (Pw ws (a.set i (brs.getD b 0))) i x) k.toNat 0 a.length=0:=λx hx hne=>by
   have p0:Pw ws (a.set i (brs.getD b 0)) i x=0:=by rw[zJP hi (by omega) (by omega) (by omega),if_neg hne]
   by_cases c:x%2=0
   ·rw[show x=2*(x/2) by omega,zD8 _ hi (by omega)];refine BrC.sm_zero _ λe _=>?_;rw[show 2*(x/2)=x by omega,p0,Int.zero_mul,Int.zero_mul]
   ·rw[show x=2*(x/2)+1 by omega,zC3 _ hi (by omega)];refine BrC.sm_zero _ λe _=>?_;rw[show 2*(x/2)+1=x by omega,p0,Int.mul_zero,Int.zero_mul]
  exact zCa hb z
 rw[e1];have p1:Pw ws (a.set i (brs.getD b 0)) i b=1:=by rw[zJP hi (by omega) (by omega) (by omega),if_pos rfl]
 unfold tpw
 by_cases c:b%2=0
 ·rw[show b=2*(b/2) by omega]at p1 off⊢;rw[zD8 _ hi (by omega),zD8 _ hi (by omega),<-zBK];refine zAK _ λe he=>?_;rw[p1,Int.one_mul]
  by_cases ne:e=i
  ·subst ne;rw[zAp (by omega),zAp (by omega)];simp only[Int.zero_mul,Int.mul_zero]
  ·by_cases lt:e<i
   ·rw[zAp (show e<i+1 by omega),zAp (show e<i+1 by omega)];simp only[Int.zero_mul,Int.mul_zero]
   ·rw[off e _ ne,zDQ off (.inr (by omega)),zEs off (Nat.le_refl _) (by omega),Int.mul_assoc]
 ·rw[show b=2*(b/2)+1 by omega]at p1 off⊢;rw[zC3 _ hi (by omega),zC3 _ hi (by omega),<-zBK];refine zAK _ λe he=>?_;rw[p1,Int.mul_one]
  by_cases ne:e<i
  ·rw[off e _ (by omega),zDQ off (.inl (Nat.le_refl _)),zEs off (by omega) (Nat.le_refl _)];simp only[Int.mul_comm,Int.mul_left_comm,Int.mul_assoc]
  ·rw[zAp (show i<e+1 by omega),zAp (show i<e+1 by omega)];simp only[Int.zero_mul,Int.mul_zero]
theorem zHw{P:Nat->Nat->Int}(l:List Nat){i:Nat}(hi:i<l.length):wtl P 0 l=wtl P 0 (l.take i)*(P i (l.getD i 0)*wtl P (i+1) (l.drop (i+1))):=by
 have e:l=l.take i++(l.getD i 0::l.drop (i+1)):=by
  rw[List.getD_eq_getElem?_getD,List.getElem?_eq_getElem hi];show l=l.take i++(l[i]::l.drop (i+1));rw[<-List.drop_eq_getElem_cons hi,List.take_append_drop]
 have h:wtl P 0 l=wtl P 0 (l.take i++(l.getD i 0::l.drop (i+1))):=congrArg (wtl P 0) e;rw[h,zCe,wtl,List.length_take,Nat.min_eq_left (by omega),Nat.zero_add]
theorem zHv{ws:List Int}{a l:List Nat}{i c:Nat}(hi:i<l.length):wtl (Pw ws (a.set i c)) 0 l=wtl (Pw ws a) 0 (l.take i)*(Pw ws (a.set i c) i (l.getD i 0)*wtl (Pw ws a) (i+1) (l.drop (i+1))):=by
 rw[zHw l hi];have e1:wtl (Pw ws (a.set i c)) 0 (l.take i)=wtl (Pw ws a) 0 (l.take i):=zEZ _ _ λj hj=>by
  rw[List.length_take]at hj;exact zJQ _ _ (by omega)
 have e2:wtl (Pw ws (a.set i c)) (i+1) (l.drop (i+1))=wtl (Pw ws a) (i+1) (l.drop (i+1)):=zEZ _ _ λj hj=>zJQ _ _ (by omega);rw[e1,e2]
def sc(c:Int):O->O
 |some (w,l)=>if 0<c then some (c*w,l)else none
 |none=>none
theorem zL4{k:Int}{ws:List Int}{a:List Nat}{i b:Nat}(k1:1<=k)(k4:k<=4)(hl:(ws.length:Int)=2*k)(hs:Sm ws)(hi:i<a.length)(hb:b<2*k.toNat){o:O}(h:Best (Dn k.toNat 0 a.length) (wtl (Pw ws (a.set i (brs.getD b 0))) 0) o):Best (λl=>Dn k.toNat 0 a.length l/\l.getD i 0=b) (wtl (Pw ws a) 0) (sc (Pw ws a i b) o):=by
 have hP:∀i b,0<=Pw ws a i b:=λi b=>(zAW (λl hl'=>(zAe k1 k4 hl hs l hl').2) i b).1;have hPb:∀j x,0<=Pw ws (a.set i (brs.getD b 0)) j x:=λi b=>(zAW (λl hl'=>(zAe k1 k4 hl hs l hl').2) i b).1;have rel:∀l,Dn k.toNat 0 a.length l->l.getD i 0=b->wtl (Pw ws a) 0 l=Pw ws a i b*wtl (Pw ws (a.set i (brs.getD b 0))) 0 l:=λl dn e=>by
  have hil:i<l.length:=by have:=dn.2;omega
  rw[zHv hil,zHw l hil,e,zJP hi (by omega) (by omega) (by omega),if_pos rfl,Int.one_mul];exact Int.mul_left_comm _ _ _
 have zero:∀l,Dn k.toNat 0 a.length l->l.getD i 0≠b->wtl (Pw ws (a.set i (brs.getD b 0))) 0 l=0:=λl dn e=>by
  have hil:i<l.length:=by have:=dn.2;omega
  have hbl:l.getD i 0<2*k.toNat:=zD3 l [] [] dn.1 _ (by rw[List.getD_eq_getElem?_getD,List.getElem?_eq_getElem hil];exact List.getElem_mem _);rw[zHv hil,zJP hi (by omega) (by omega) (by omega),if_neg e,Int.zero_mul,Int.mul_zero]
 match o,h with
 |none,h=>
  intro l hl';have h1:=h l hl'.1;have h2:=zCB hPb l 0;rw[rel l hl'.1 hl'.2,show wtl (Pw ws (a.set i (brs.getD b 0))) 0 l=0 by omega,Int.mul_zero];exact Int.le_refl _
 |some (w,m),⟨h1,h2,h3,h4⟩=>
  have hm:m.getD i 0=b:=by
   by_cases c:m.getD i 0=b
   ·exact c
   ·rw[zero m h1 c]at h2;omega
  show Best _ _ (if 0<Pw ws a i b then some (Pw ws a i b*w,m)else none)
  by_cases c:0<Pw ws a i b
  ·rw[if_pos c];refine⟨⟨h1,hm⟩,by rw[rel m h1 hm,h2],Int.mul_pos c h3,λz hz=>?_⟩;rw[rel z hz.1 hz.2];rcases h4 z hz.1 with y|⟨y,y2⟩
   ·exact .inl (Int.mul_lt_mul_of_pos_left y c)
   ·exact .inr ⟨by rw[y],y2⟩
  ·rw[if_neg c];intro l hl';have c0:Pw ws a i b=0:=by have:=hP i b;omega
   rw[rel l hl'.1 hl'.2,c0,Int.zero_mul];exact Int.le_refl _
def Lb(k n i q:Nat)(l:List Nat):Prop:=Dn k 0 n l/\l.getD i 0<q
theorem Lb.next{k n i q:Nat}(l:List Nat):Lb k n i (q+1) l↔Lb k n i q l\/(Dn k 0 n l/\l.getD i 0=q):=by
 constructor
 ·rintro⟨h1,h2⟩
  by_cases c:l.getD i 0=q
  ·exact .inr ⟨h1,c⟩
  ·exact .inl ⟨h1,by omega⟩
 ·rintro(⟨h1,h2⟩|⟨h1,h2⟩)
  ·exact⟨h1,by omega⟩
  ·exact⟨h1,by omega⟩
theorem Lb.all{k n i:Nat}(hi:i<n)(l:List Nat):Lb k n i (2*k) l↔Dn k 0 n l:=⟨λh=>h.1,λh=>⟨h,zD3 l [] [] h.1 _ (by rw[List.getD_eq_getElem?_getD,List.getElem?_eq_getElem (by have:=h.2;omega)];exact List.getElem_mem _)⟩⟩
theorem Lb.zero{k n i:Nat}(f:List Nat->Int):Best (Lb k n i 0) f none:=λl h=>absurd h.2 (Nat.not_lt_zero _)
theorem zH9{f:Nat->Int}{n j:Nat}(h:∀i,i<n->0<=f i)(hj:j<n):f j<=sm n f:=by
 induction n with
 |zero=>omega
 |succ n ih=>
  have h0:=h n (by omega);show f j<=sm n f+f n
  by_cases c:j=n
  ·subst c;have:0<=sm j f:=by
    clear ih hj h0
    induction j with
    |zero=>exact Int.le_refl _
    |succ j ih=>
     have:=ih λi hi=>h i (by omega);have h1:=h j (by omega);show 0<=sm j f+f j;omega
   omega
  ·have:=ih (λi hi=>h i (by omega)) (by omega);omega
theorem zKP{P:Nat->Nat->Int}(hP:∀i b,0<=P i b){k:Nat}:∀ (l:List Nat) (i:Nat) (st:List Nat),go k st l=some []->wtl P i l<=cv P k l.length i st
 |[],i,st,h=>by
  rw[zBW]at h
  cases h
  exact Int.le_refl _
 |b::l,i,st,h=>by
  rw[zBG]at h;obtain⟨s,h1,h2⟩:=Option.bind_eq_some_iff.mp h;have ih:=zKP hP l (i+1) s h2;obtain⟨hb,hs⟩:=zBm h1;have nn:∀p,p<k->0<=P i (2*p)*cv P k l.length (i+1) (p::st):=λp _=>Int.mul_nonneg (hP _ _) (zE9 hP _ _ _);have h0:0<=sm k (λp=>P i (2*p)*cv P k l.length (i+1) (p::st)):=by
   have:∀n,n<=k->0<=sm n (λp=>P i (2*p)*cv P k l.length (i+1) (p::st)):=by
    intro n
    induction n with
    |zero=>intro _;exact Int.le_refl _
    |succ n ih=>intro hn;have:=ih (by omega);have:=nn n (by omega);show 0<=sm n (λp=>P i (2*p)*cv P k l.length (i+1) (p::st))+P i (2*n)*cv P k l.length (i+1) (n::st);omega
   exact this k (Nat.le_refl _)
  rw[wtl,List.length_cons];have m:=Int.mul_le_mul_of_nonneg_left ih (hP i b);rcases hs with⟨he,rfl⟩|⟨ho,hs⟩
  ·have t:=zH9 nn (show b/2<k by omega);have eb:2*(b/2)=b:=by omega
   simp only[eb]at t
   cases st with
   |nil=>rw[zBu];omega
   |cons o r=>
    have hc:=Int.mul_nonneg (hP i (2*o+1)) (zE9 hP (k:=k) l.length (i+1) r);rw[zBM];omega
  ·subst hs;rw[zBM];have eb:2*(b/2)+1=b:=by omega
   rw[eb];omega
theorem zHA{P:Nat->Nat->Int}:∀ (v:List Nat) (i:Nat),Fits P i v->0<wtl P i v
 |[],_,_=>by rw[wtl];decide
 |b::v,i,h=>by
  obtain⟨h1,h2⟩:=fit_cons.mp h;rw[wtl];exact Int.mul_pos h1 (zHA v (i+1) h2)
theorem zKH{k:Int}{ws:List Int}{a:List Nat}(k1:1<=k)(k4:k<=4)(hl:(ws.length:Int)=2*k)(hs:Sm ws):∀ {o:O},Best (Dn k.toNat 0 a.length) (wtl (Pw ws a) 0) o->(o=none/\wsm k.toNat ws a=0)\/∃w l,o=some (w,l)/\0<w/\w<=wsm k.toNat ws a
 |none,h=>by
  have hP:∀i b,0<=Pw ws a i b:=λi b=>(zAW (λl hl'=>(zAe k1 k4 hl hs l hl').2) i b).1;refine .inl ⟨rfl,?_⟩;have h0:0<=wsm k.toNat ws a:=zE9 hP _ _ _
  by_cases c:0<wsm k.toNat ws a
  ·obtain⟨v,e1,e2,e3⟩:=(zFi hP a.length 0 [] (λ_ z=>nomatch z)).mp c;have h1:=h v ⟨e2,by omega⟩;have h2:=zHA v 0 e3;omega
  ·omega
 |some (w,l),⟨⟨h1,h2⟩,h3,h4,_⟩=>by
  have hP:∀i b,0<=Pw ws a i b:=λi b=>(zAW (λl hl'=>(zAe k1 k4 hl hs l hl').2) i b).1;refine .inr ⟨w,l,rfl,h4,?_⟩;have:=zKP hP l 0 [] h1;rw[h3,show l.length=a.length by omega]at this;exact this
theorem zHD(P:Nat->Nat->Int)(c:Int)(k:Nat):∀ (n i:Nat) (st:List Nat),cv (λj b=>c*P j b) k n i st=c^n*cv P k n i st
 |0,i,[]=>by rw[Int.pow_zero,Int.one_mul];rfl
 |0,i,_::_=>by rw[Int.pow_zero,Int.one_mul];rfl
 |n+1,i,st=>by
  have e:∀s,cv (λj b=>c*P j b) k n (i+1) s=c^n*cv P k n (i+1) s:=λs=>zHD P c k n (i+1) s;have e1:sm k (λp=>c*P i (2*p)*cv (λj b=>c*P j b) k n (i+1) (p::st))=c^(n+1)*sm k (λp=>P i (2*p)*cv P k n (i+1) (p::st)):=by
   rw[<-zBK];refine zAK _ λp _=>?_;rw[e,Int.pow_succ];simp only[Int.mul_comm,Int.mul_left_comm,Int.mul_assoc]
  cases st with
  |nil=>rw[zBu,zBu];exact e1
  |cons o r=>
   rw[zBM,zBM,e1,e,Int.mul_add,Int.pow_succ];congr 1;simp only[Int.mul_comm,Int.mul_left_comm,Int.mul_assoc]
theorem zHy{k:Nat}(hk:k<=4)(c:Int)(n:Nat):wsm k (List.replicate (2*k) c) (List.replicate n 63)=c^n*cnt k (List.replicate n 63):=by
 unfold wsm cnt;rw[List.length_replicate,<-zHD];refine zFj _ _ _ (by simp) λj b _ hj hb=>?_;have hj:j<n:=by omega
 have e1:=zEB (ws:=List.replicate (2*k) c) (a:=List.replicate n 63) (i:=j) (b:=b) (by rw[List.length_replicate];exact hj) (by rw[List.length_replicate];omega) (by rw[List.length_replicate];exact hb);have e2:=zEB (ws:=ones k) (a:=List.replicate n 63) (i:=j) (b:=b) (by rw[List.length_replicate];exact hj) (by unfold ones;rw[List.length_replicate];omega) (by unfold ones;rw[List.length_replicate];exact hb);have g:(List.replicate n 63).getD j 0=63:=by rw[List.getD_eq_getElem?_getD,List.getElem?_replicate,if_pos hj];rfl
 rw[e1,e2,g,if_pos rfl,if_pos rfl];unfold ones;simp only[List.getD_eq_getElem?_getD,List.getElem?_replicate,if_pos hb,Option.getD_some,Int.mul_one]
def Bv(H:Hp)(v:V):O->Prop
 |none=>v= .non
 |some (w,l)=>∃T p:Addr,v= .ref T/\H T=some (.tup [.int (-w), .ref p,tx (brx l)])/\H p=some (.lst (nL l))
theorem Bv.same{H H':Hp}{v:V}:∀ {o:O},Bv H v o->Same H H'->Bv H' v o
 |none,h,_=>h
 |some (w,l),⟨T,p,h1,h2,h3⟩,s=>⟨T,p,h1,s _ _ h2,s _ _ h3⟩
def spBest33:Sp:=λvs H Q _=>∃ (k:Int) (a:List Nat) (ws:List Int) (p:Addr) (i:Nat),vs=[.int k,tx a, .ref p, .int (i:Int)]/\1<=k/\k<=4/\isRow k a=true/\H p=some (iL ws)/\(ws.length:Int)=2*k/\Sm ws/\i<a.length/\a.getD i 0=63/\∀ (v:V) (o:O) (H':Hp),Same H H'->Ft H' v o->Best (Dn k.toNat 0 a.length) (wtl (Pw ws a) 0) o->Q v H'
def spChances33:Sp:=λvs H Q _=>∃ (k:Int) (a:List Nat) (ws:List Int) (p:Addr) (i:Nat),vs=[.int k,tx a, .ref p, .int (i:Int), .int (wsm k.toNat ws a)]/\1<=k/\k<=4/\isRow k a=true/\H p=some (iL ws)/\(ws.length:Int)=2*k/\Sm ws/\i<a.length/\∀H',Same H H'->Q (.bl true) H'
theorem zH3{k:Int}{ws:List Int}{a:List Nat}{i b:Nat}(k1:1<=k)(k4:k<=4)(hl:(ws.length:Int)=2*k)(hi:i<a.length)(hb:b<2*k.toNat):tpw k.toNat ws a i b=if a.getD i 0=63 then ws.getD b 0*wsm k.toNat ws (a.set i (brs.getD b 0))else if a.getD i 0=brs.getD b 0 then wsm k.toNat ws a else 0:=by
 rw[zK0 k1 k4 hl hi hb];have e:=zEB (ws:=ws) (a:=a) hi (by omega) (b:=b) (by omega);have e:Pw ws a i b=_:=e;rw[e]
 by_cases c:a.getD i 0=63
 ·rw[if_pos c,if_pos c]
 ·rw[if_neg c,if_neg c]
  by_cases g:a.getD i 0=brs.getD b 0
  ·rw[if_pos g,if_pos g,Int.one_mul,<-g];congr 1;rw[List.getD_eq_getElem?_getD,List.getElem?_eq_getElem hi];exact List.set_getElem_self hi
  ·rw[if_neg g,if_neg g,Int.zero_mul]
theorem zFE{k:Nat}{ws:List Int}{a:List Nat}{i:Nat}(hi:i<a.length):sm (2*k) (tpw k ws a i)=wsm k ws a:=by
 have:=zKr (k:=k) (Pw ws a) hi;have e:tbl (Pw ws a) k 0 a.length=wsm k ws a:=by unfold tbl wsm;rw[if_pos (Nat.zero_le _),Nat.sub_zero]
 rw[<-e];exact this
theorem zMA{k:Int}{ws:List Int}{a:List Nat}{i b:Nat}(k1:1<=k)(k4:k<=4)(hl:(ws.length:Int)=2*k)(hs:Sm ws)(hi:i<a.length)(hb:b<2*k.toNat):tpw k.toNat ws a i b<=wsm k.toNat ws a:=by
 rw[<-zFE hi];exact zH9 (λj _=>zH4 k1 k4 hl hs i j) hb
theorem zCw{x:Int}(h0:0<=x)(h:x<=cap):x.natAbs.log2<12000:=by
 by_cases c:x.natAbs=0
 ·rw[c];decide
 ·exact(Nat.log2_lt c).mpr (Nat.lt_of_lt_of_le (zGM h0 h) (Nat.pow_le_pow_right (by decide) (by decide)))
theorem zIz{x g:Int}(h0:0<=x)(h:x<=cap)(hg:0<g):0<=x/g/\x/g<=cap:=⟨Int.ediv_nonneg h0 (by omega),Int.le_trans (Int.ediv_le_self _ h0) h⟩
end BrS
namespace L2
open PySem PySem.Spec PyProof.Rows
def rNeO(K:PySem.W.Frag):R2:=λx y H Q=>(x= .non/\y= .non/\Q (.bl false) H)\/rSmU false K x y H Q
theorem zIV{X:Cx}(K:PySem.W.Frag)(hu:X.A.units<cLine)(hK:X.K=K:=by rfl):OpR X (compareOp .NotEq) (rNeO K):=by
 intro pins s σ H x y v u Q I rx ry h;rcases h with⟨rfl,rfl,q⟩|h
 ·exact zBl K hu hK pins s σ H _ _ v u Q I rx ry (.inl ⟨rfl,by simpa using q⟩)
 ·exact zLg K hu hK pins s σ H _ _ v u Q I rx ry h
end L2
namespace BrS
open L2 PySem BrM BrC BrB BrR BrI
theorem zLF{K:PySem.W.Frag}{H:Hp}{Q:VK}{v v':V}:∀ {o:O},Ft H v o->Ft H v' o->Q (.bl false) H->rNeO K v v' H Q
 |none,h,h',q=> .inl ⟨h,h',q⟩
 |some (w,l),⟨T,e,g⟩,⟨T',e',g'⟩,q=>by
  subst e e';exact .inr (zNm g g' rfl q)
theorem Ft.same33{H H':Hp}{v:V}:∀ {o:O},Ft H v o->Same H H'->Ft H' v o
 |none,h,_=>h
 |some (w,l),⟨T,e,g⟩,s=>⟨T,e,s _ _ g⟩
theorem Ft.but33{H H':Hp}{v:V}{p:Addr}:∀ {o:O},Ft H v o->Po H p->SameBut1 p H H'->Ft H' v o
 |none,h,_,_=>h
 |some (w,l),⟨T,e,g⟩,⟨x1,x2,x3,hp⟩,s=>⟨T,e,s _ _ g λz=>by rw[z,hp]at g;cases g⟩
end BrS
namespace Bk
open PySem L2 BrM BrR BrS BrC BrB BrI
def top(i:Nat):Stmt:=PySem.Challenge.pw_bracketrows_k33_whole_weights_in_long_ro.main.body.getD i (.Pass ⟨0,0,0,0⟩)
abbrev zDL:Stmt:=top 15
abbrev zB9:Stmt:=top 16
abbrev zCM:Stmt:=top 17
abbrev zCN:Stmt:=top 18
abbrev zB8:Stmt:=top 19
abbrev zD5:Stmt:=top 20
abbrev zDM:Stmt:=top 21
abbrev zA5:Stmt:=top 23
abbrev zBa:Stmt:=top 24
abbrev zCX:Stmt:=top 25
abbrev zCz:Stmt:=top 26
abbrev zCi:Stmt:=top 27
abbrev zCh:Stmt:=top 28
abbrev zBo:Stmt:=top 29
abbrev zBR:Stmt:=top 30
abbrev zBT:Stmt:=top 31
abbrev zA9:Stmt:=top 33
abbrev zBb:Stmt:=top 34
abbrev zCK:Stmt:=top 35
abbrev zDH:Stmt:=top 36
abbrev zBY:Stmt:=top 37
abbrev zB6:Stmt:=top 38
abbrev zA7:Stmt:=top 39
abbrev zBB:Stmt:=top 40
abbrev zBC:Stmt:=top 41
abbrev zCj:Stmt:=top 42
abbrev zBp:Stmt:=top 43
abbrev zD4:Stmt:=top 44
abbrev zE8:Stmt:=top 45
abbrev zDN:Stmt:=top 47
abbrev zBZ:Stmt:=top 48
abbrev zDI:Stmt:=top 50
abbrev zDJ:Stmt:=top 51
abbrev zCk:Stmt:=top 52
abbrev zC0:Stmt:=top 53
abbrev zBh:Stmt:=top 54
abbrev zBt:Stmt:=top 55
abbrev zDK:Stmt:=top 56
abbrev zCL:Stmt:=top 57
abbrev zA3:Stmt:=top 58
abbrev zD6:Stmt:=top 59
abbrev zB7:Stmt:=top 60
abbrev zCl:Stmt:=top 61
abbrev zHm:Stmt:=top 62
structure Txt (K:PySem.W.Frag) (mg:Str->Option Value) (aK:Addr) (cs:Cs):Prop where
 dig:DigK K
 n_all:mg "all"=none
 n_bool:mg "bool"=none
 n_enumerate:mg "enumerate"=none
 n_int:mg "int"=none
 n_isinstance:mg "isinstance"=none
 n_len:mg "len"=none
 n_list:mg "list"=none
 n_range:mg "range"=none
 n_repr:mg "repr"=none
 n_str:mg "str"=none
 n_sum:mg "sum"=none
 n_zip:mg "zip"=none
 g_OPENING:∃u,mg "OPENING"=some u/\RelV (tx [40,91,123,60]) u
 g_CLOSING:∃u,mg "CLOSING"=some u/\RelV (tx [41,93,125,62]) u
 g_KINDS:∃u,mg "KINDS"=some u/\RelV (.ref aK) u
 t_KINDS:∀H,SqT K H aK [tx [40,41],tx [91,93],tx [123,125],tx [60,62]]
 g_BRACKETS:∃u,mg "BRACKETS"=some u/\RelV (tx [40,41,91,93,123,125,60,62]) u
 g_UNKNOWN:∃u,mg "UNKNOWN"=some u/\RelV (tx [63]) u
 g_MOST_SIGNS:∃u,mg "MOST_SIGNS"=some u/\RelV (.int 40) u
 c_NoKinds:mg "NoKinds"=some (.ref cs.NoKinds)
 e_NoKinds:ECls K cs.NoKinds
 c_NoLine:mg "NoLine"=some (.ref cs.NoLine)
 e_NoLine:ECls K cs.NoLine
 c_NoNumber:mg "NoNumber"=some (.ref cs.NoNumber)
 e_NoNumber:ECls K cs.NoNumber
 c_NoWeights:mg "NoWeights"=some (.ref cs.NoWeights)
 e_NoWeights:ECls K cs.NoWeights
 c_NoPlace:mg "NoPlace"=some (.ref cs.NoPlace)
 e_NoPlace:ECls K cs.NoPlace
 c_NoFilling:mg "NoFilling"=some (.ref cs.NoFilling)
 e_NoFilling:ECls K cs.NoFilling
 mm_NoFilling:PySem.W.mroIn K cs.NoFilling (.ref cs.NoFilling)=some true
section
variable{P:Program}{w:World}{K:PySem.W.Frag}{mg:Str->Option Value}{base:Heap}{f aK aC:Addr}{cs:Cs}{fd:FuncData}{k:Nat}
local macro_rules | `(tactic| walk_at"s") => `(tactic| first
  | with_reducible refine zNo ?_
  | with_reducible refine zN5 ?_
  | with_reducible refine zMK ?_
  | ((with_reducible refine zNg (v := ?v) ?e ?_); (case e => exact rfl))
  | with_reducible refine s_c ?_
  | with_reducible refine zLD ?_
  | with_reducible refine zOM ?_
  | with_reducible refine zMD ?_
  | with_reducible refine zJU ?_
  | with_reducible refine zMd ?_
  | with_reducible refine zLQ ?_
  | with_reducible refine zLA ?_
  | with_reducible refine zNi ?_
  | with_reducible refine s_try0 ?_
  | with_reducible refine zFL ?_
  | with_reducible refine zLE ?_
  | with_reducible refine zON ?_
  | with_reducible refine zNp ?_
  | with_reducible refine zNw ?_
  | with_reducible refine zK9 ?_
  | with_reducible refine zMW ?_
  | with_reducible refine zMH ?_
  | with_reducible refine zMb ?_
  | with_reducible refine s_break ?_
  | with_reducible refine zMV ?_
  | with_reducible refine zLN ?_
  | with_reducible refine zMU ?_
  | with_reducible refine zOH ?_
  | with_reducible refine zNr ?_
  | with_reducible refine zNy ?_
  | with_reducible refine zN6 ?_
  | with_reducible refine zOK ?_
  | with_reducible refine zNq ?_
  | with_reducible refine zKY ?_
  | with_reducible refine s_orV ?_
  | with_reducible refine zMG ?_
  | with_reducible refine zNj ?_
  | with_reducible refine zLP ?_
  | with_reducible refine zMC ?_
  | with_reducible refine s_truN ?_
  | with_reducible refine zMf ?_
  | with_reducible refine zME ?_
  | with_reducible refine zN2 ?_
  | with_reducible refine zN0 ?_
  | with_reducible refine s_eqB ?_
  | with_reducible refine zNt ?_
  | with_reducible refine zNs ?_
  | with_reducible refine zNu ?_
  | with_reducible refine zNx ?_
  | with_reducible refine zJb ?_
  | with_reducible refine zOI ?_
  | with_reducible refine zJd ?_
  | with_reducible refine zMF ?_
  | with_reducible refine zLB ?_
  | with_reducible refine s_max ?_
  | with_reducible refine s_min ?_
  | with_reducible refine zMQ ?_
  | with_reducible refine s_intI ?_
  | with_reducible refine zOO ?_
  | with_reducible refine zN3 ?_
  | with_reducible refine zNz ?_
  | with_reducible refine zLK ?_
  | with_reducible refine s_irng2 ?_
  | with_reducible refine zLJ ?_
  | with_reducible refine zMe ?_
  | with_reducible refine zLL ?_
  | with_reducible refine zMP ?_
  | with_reducible refine zLH ?_
  | with_reducible refine zMR ?_
  | with_reducible refine zLM ?_
  | with_reducible refine s_ienL ?_
  | with_reducible refine zMc ?_
  | with_reducible refine s_rev ?_
  | with_reducible refine s_revI ?_
  | with_reducible refine s_irev ?_
  | with_reducible refine zNh ?_
  | ((with_reducible refine s_irevT ?e ?_); (case e => first | assumption | exact small (by omega)))
  | ((with_reducible refine s_revT ?e ?_); (case e => first | assumption | exact small (by omega)))
  | with_reducible refine zNf ?_
  | with_reducible refine zMa ?_
  | with_reducible refine zLO ?_
  | with_reducible refine zMX ?_
  | with_reducible refine zMZ ?_
  | with_reducible refine zMY ?_
  | with_reducible refine zNk ?_
  | with_reducible refine zMO ?_
  | ((with_reducible refine zN4 (x := ?x) ?e ?_); (case e => exact rfl))
  | with_reducible refine zHU ?_
  | ((with_reducible refine zOL ?e ?_); (case e => exact rfl))
  | ((with_reducible refine zLI ?e ?_); (case e => exact rfl))
  | ((with_reducible refine zAZ (xs := ?xs) (v := ?v) ?h ?e ?_); (case h => assumption); (case e => exact rfl))
  | ((with_reducible refine zOJ ?e ?_); (case e => first | (exact (show (0 : Int) < _ by omega)) | (exact ⟨by omega, by omega⟩) | (exact ⟨by decide, by decide, by decide⟩)))
  | ((with_reducible refine zMM ?e ?_); (case e => first | exact .inl ⟨by omega, by omega⟩ | exact .inr ⟨by omega, by omega⟩))
  | ((with_reducible refine zIG ?e ?_); (case e => first | assumption | exact small (by omega)))
  | ((with_reducible refine zDR ?e ?_); (case e => first | exact small (by omega) | exact small (by simp only [List.length_append, List.length_cons, List.length_nil]; omega)))
  | ((with_reducible refine zNn ?e ?_); (case e => first | assumption | exact small (by omega) | exact small (by simp only [List.length_append, List.length_cons, List.length_nil]; omega)))
  )
local macro_rules | `(tactic| walk_at"g") => `(tactic| repeat (walk_at"s"))
theorem scM{N ps:List Str}{sc:Scope}(a:sc.kind= .function:=by rfl)(b:sc.isCoroutine=false:=by rfl)(c:sc.isGenerator=false:=by rfl)(d:N.Nodup:=by decide +kernel)(e:N.take ps.length=ps:=by rfl)(f:∀x∈ps,sc.names.lookup x=some .local\/sc.names.lookup x=some .cell:=by decide +kernel)(g:∀y∈sc.names,y.2≠ .free:=by decide +kernel):FnScope N ps sc:=⟨a,b,c,d,e,f,g⟩
theorem zF1:FnScope ["thing"] ["thing"] (defScope zDL):=scM
theorem zGG(F:Fun K "is_whole" "is_whole" zDL f fd)(T:Txt K mg aK cs):FnOk P w K mg base CX0 (k+1) f fd ["thing"] (spWhole K):=by
 refine F.ok zF1 (λvs H Q E h=>?_) (λcdv A outer s H vs Q E hr h=>?_)
 ·obtain⟨x,T',rfl,_⟩:=h;rfl
 obtain⟨x,ty,rfl,hT,hp,q⟩:=h;refine⟨_,(zAE (zAU (zDU (zAQ (zBN K) rfl T.n_isinstance PyProof.Rows.boot_isinstance (zAA (pv 0) (zAA (zEr T.n_int PyProof.Rows.boot_int) zAB))) (zDT (zMw (zAQ (zBN K) rfl T.n_isinstance PyProof.Rows.boot_isinstance (zAA (pv 0) (zAA (zEr T.n_bool PyProof.Rows.boot_bool) zAB)))))))),?_⟩;walk_at"g";have hp':ty="NoneType"\/ty="bool"\/ty="int"\/ty="str"\/ty="list"\/ty="tuple"\/ty="dict":=by simpa[plainTy]using hp
 rcases hp' with rfl|rfl|rfl|rfl|rfl|rfl|rfl
 ·refine zCD (b:=false) hT (by with_unfolding_all rfl) (zJU (iteF ?_));exact q
 ·refine zCD (b:=true) hT (by with_unfolding_all rfl) (zJU (iteT ?_));walk_at"g";refine zCD (b:=true) hT (by with_unfolding_all rfl) (zJU ?_);exact q
 ·refine zCD (b:=true) hT (by with_unfolding_all rfl) (zJU (iteT ?_));walk_at"g";refine zCD (b:=false) hT (by with_unfolding_all rfl) (zJU ?_);exact q
 ·refine zCD (b:=false) hT (by with_unfolding_all rfl) (zJU (iteF ?_));exact q
 ·refine zCD (b:=false) hT (by with_unfolding_all rfl) (zJU (iteF ?_));exact q
 ·refine zCD (b:=false) hT (by with_unfolding_all rfl) (zJU (iteF ?_));exact q
 ·refine zCD (b:=false) hT (by with_unfolding_all rfl) (zJU (iteF ?_));exact q
theorem zEE:FnScope ["k"] ["k"] (defScope zB9):=scM
theorem zEJ(F:Fun K "check_kinds" "check_kinds" zB9 f fd)(T:Txt K mg aK cs)(U_is_whole:FnU P w K mg base k "is_whole" ["thing"] (spWhole K)):FnOk P w K mg base (CXE P w) (k+1) f fd ["k"] (spKindsE K cs):=by
 refine F.okE zEE (λvs H Q E h=>?_) (λcdv A outer s H vs Q E hr h=>?_)
 ·rcases h with⟨x,rfl,_⟩|⟨v,rfl,_⟩<;>rfl
 rcases h with⟨x,rfl,h1,h2,q⟩|⟨v,rfl,⟨ty,hT,hp,hi⟩,r⟩
 ·refine zBd ⟨_,(zAE (zAh (PW.pt (zBO (zAt (zA4 K (zAX U_is_whole hr (zAA (pv 0) zAB)))) (zA8 (zAt (zCS zEF zEF zAD (pv 0) (zAQ (zAV K) rfl T.n_len PySem.boot_len (zAA (zBg T.g_KINDS) zAB))))))) (zAE zBs) zAT)),?_⟩;walk_at"g";refine zDj ?_;walk_at"g";refine ifq rfl ?_;walk_at"g";refine ifp (decide_eq_true h1) ?_;walk_at"g";refine zBc (.inr (T.t_KINDS H)) ?_;walk_at"g";refine ifq (by simp;omega) ?_;walk_at"g";exact q
 ·refine⟨_,(zAE (zAh (PW.pt (zBO (zAt (zA4 K (zAX U_is_whole hr (zAA (pv 0) zAB)))) (zA8 (zAt (zCS zEF zEF zAD (pv 0) (zAQ (zAV K) rfl T.n_len PySem.boot_len (zAA (zBg T.g_KINDS) zAB))))))) (zAE (zBS T.e_NoKinds T.c_NoKinds hr.hd zCd (zAA (zA0 (l:=[116,104,101,32,110,117,109,98,101,114,32,111,102,32,107,105,110,100,115,32,105,115,32,97,32,119,104,111,108,101,32,110,117,109,98,101,114,32,102,114,111,109,32,49,32,116,111,32,52]) (by decide +kernel)) zAB))) zAT)),?_⟩;walk_at"g";refine⟨v,ty,rfl,hT,hp,?_⟩;walk_at"g"
  by_cases e:ty="int"
  ·subst e;obtain⟨i,rfl⟩:=hT.int_of rfl
   ·have hi:=hi i rfl;rw[decide_eq_true rfl];refine ifq rfl ?_;walk_at"g"
    by_cases h1:1<=i
    ·refine ifp (decide_eq_true h1) ?_;walk_at"g";refine zBc (.inr (T.t_KINDS H)) ?_;walk_at"g";refine ifp (by simp;omega) ?_;walk_at"g";exact⟨small (by decide),λy hy=>r y H (Same.refl H) hy⟩
    ·refine ifq (decide_eq_false h1) ?_;walk_at"g";refine ifp rfl ?_;walk_at"g";exact⟨small (by decide),λy hy=>r y H (Same.refl H) hy⟩
  ·rw[decide_eq_false e];refine ifp rfl ?_;walk_at"g";refine ifp rfl ?_;walk_at"g";exact⟨small (by decide),λy hy=>r y H (Same.refl H) hy⟩
theorem sc_is_line:FnScope ["k","thing","signs"] ["k","thing"] (defScope zCM):=scM
theorem zHf(F:Fun K "is_line" "is_line" zCM f fd)(T:Txt K mg aK cs)(U_check_kinds:FnUE P w K mg base k "check_kinds" ["k"] (spKindsE K cs)):FnOk P w K mg base (CXE P w) (k+1) f fd ["k","thing"] (spLineE K cs):=by
 refine F.okE sc_is_line (λvs H Q E h=>?_) (λcdv A outer s H vs Q E hr h=>?_)
 ·rcases h with⟨kk,x,rfl,_⟩|⟨kv,v,rfl,_⟩<;>rfl
 rcases h with⟨kk,x,rfl,h1,h2,hx⟩|⟨kv,v,rfl,hk,r⟩
 rotate_left
 ·refine⟨_,(zAC (zAj (zAa U_check_kinds hr zBq (zAA (pv 0) zAB))) (zAC (zAh (PW.pt (zBO (zAt (zA4 K (zAQ (zBN K) rfl T.n_isinstance PyProof.Rows.boot_isinstance (zAA (pv 1) (zAA (zEr T.n_str PyProof.Rows.boot_str) zAB))))) (zA8 (zAP zFT (zAQ (zAV K) rfl T.n_len PySem.boot_len (zAA (pv 1) zAB)) (zBg T.g_MOST_SIGNS) (nomark _))))) (zAE (zAU zDv)) zAT) (zAC (zAN (i:=2) sc_is_line.nd rfl (Or.inr rfl) (zAJ zAL (zAJ zAL (zAw (zFw K) (zBg T.g_OPENING) zBL (zA6 (pv 0))) (zAw (zFw K) (zBg T.g_CLOSING) zBL (zA6 (pv 0)))) (zBg T.g_UNKNOWN))) (zAE (zAU (zAQ (zC2 K rfl) rfl T.n_all PyProof.Rows.boot_all (zAA (zBx (own:=["sign"]) (sel:=[2]) (zAs (osc:=(defScope zCM)) (N:=["k","thing","signs"]) (by decide +kernel)) rfl (zFO (pv 1)) (λ_ _ _ _ _=>(zAR (i:=0) (show(["sign","signs"]:List Str).Nodup from by decide +kernel) rfl (Or.inl rfl))) (zBH (by decide)) (λ_ _ _ _ _=>zBF) (λ_ _ _ _ _=>(zAd (zDw K) (pv 0) (pv 1) (by with_unfolding_all rfl)))) zAB))))))),?_⟩;walk_at"g";exact .inr ⟨kv,rfl,hk,r.pass (Same.refl H)⟩
 ·refine zBd ⟨_,(zAC (zAj (zAa U_check_kinds hr zBP (zAA (pv 0) zAB))) (zAC (zAh (PW.pt (zBO (zAt (zA4 K (zAQ (zBN K) rfl T.n_isinstance PyProof.Rows.boot_isinstance (zAA (pv 1) (zAA (zEr T.n_str PyProof.Rows.boot_str) zAB))))) (zA8 (zAP zFT (zAQ (zAV K) rfl T.n_len PySem.boot_len (zAA (pv 1) zAB)) (zBg T.g_MOST_SIGNS) (nomark _))))) (zAE (zAU zDv)) zAT) (zAC (zAN (i:=2) sc_is_line.nd rfl (Or.inr rfl) (zAJ zAL (zAJ zAL (zAw (zFw K) (zBg T.g_OPENING) zBL (zA6 (pv 0))) (zAw (zFw K) (zBg T.g_CLOSING) zBL (zA6 (pv 0)))) (zBg T.g_UNKNOWN))) (zAE (zAU (zAQ (zC2 K rfl) rfl T.n_all PyProof.Rows.boot_all (zAA (zBx (own:=["sign"]) (sel:=[2]) (zAs (osc:=(defScope zCM)) (N:=["k","thing","signs"]) (by decide +kernel)) rfl (zFO (pv 1)) (λ_ _ _ _ _=>(zAR (i:=0) (show(["sign","signs"]:List Str).Nodup from by decide +kernel) rfl (Or.inl rfl))) (zBH (by decide)) (λ_ _ _ _ _=>zBF) (λ_ _ _ _ _=>(zAd (zDw K) (pv 0) (pv 1) (by with_unfolding_all rfl)))) zAB))))))),?_⟩;walk_at"g";refine .inl (zD0 h1 h2 ?_);walk_at"g";rcases hx with⟨a,rfl,ha,q⟩|⟨ty,hT,hp,hs,q⟩
  ·refine zCD (b:=true) (TyOf.str _) (by with_unfolding_all rfl) ?_;walk_at"g";refine ifq rfl ?_;walk_at"g";refine ifd (λhc=>?_) (λhc=>?_)
   ·walk_at"g";have e:isRow kk a=false:=by unfold isRow;rw[decide_eq_false (by omega),Bool.false_and]
    have:=q H (Same.refl H);rw[e]at this;exact this
   ·walk_at"g";rw[zC1 _ (by omega),zC1 _ (by omega)];have l1:((([40,91,123,60]:List Nat)).take kk.toNat).length<=4:=by rw[List.length_take];exact Nat.min_le_right _ _
    have l2:((([41,93,125,62]:List Nat)).take kk.toNat).length<=4:=by rw[List.length_take];exact Nat.min_le_right _ _
    first|refine zDR (small (by omega)) ?_ |skip
    walk_at"g"
    first|refine zDR (small (by rw[List.length_append,List.length_singleton];omega)) ?_ |skip
    walk_at"g";refine zDO (n:=a.length) (λD i ys H'=>ys=((a.take i).map λc=>V.bl (decide (c∈sgn kk)))/\SameBut1 D H H') (λD hD=>⟨rfl,SameBut1.of (zAG hD _)⟩) (λD i ys H' _ hi _ _=>by simpa[Its]using hi) (λD ys H' hD hD' hl ⟨e,sH⟩=>⟨by simp[Its],?_⟩) ?_
    ·rw[List.take_length]at e;subst e;have hS:SqL K H' D ((a.map λc=>decide (c∈sgn kk)).map V.bl):=by
      rw[List.map_map];exact SqL.of hD'
     refine zLR hS ?_;have e2:((a.map λc=>decide (c∈sgn kk)).all id)=isRow kk a:=by
      unfold isRow;rw[decide_eq_true (by omega),Bool.true_and,List.all_map]
      rfl
     rw[e2];exact q H' λb o z=>sH b o z (zAH z hD)
    ·rintro D i ys H' x H3 hD hi hD' hl ⟨e,sH⟩ ⟨rfl,c,ec,rfl⟩;have ec':a[i]? =some c:=by simpa using ec
     show gName 0 (tx [c]) _ _ _;walk_at"g";refine iteT ?_;walk_at"g";refine zBr hi (small (by omega)) hD' hl ⟨?_,sH.trans SameBut1.upd⟩;rw[e,List.take_add_one,ec'];simp only[Option.toList_some,List.map_append,List.map_cons,List.map_nil]
     rfl
  ·have hp':ty="NoneType"\/ty="bool"\/ty="int"\/ty="list"\/ty="tuple"\/ty="dict":=by
    have:ty="NoneType"\/ty="bool"\/ty="int"\/ty="str"\/ty="list"\/ty="tuple"\/ty="dict":=by simpa[plainTy]using hp
    rcases this with z|z|z|z|z|z|z
    ·exact .inl z
    ·exact .inr (.inl z)
    ·exact .inr (.inr (.inl z))
    ·exact absurd z hs
    ·exact .inr (.inr (.inr (.inl z)))
    ·exact .inr (.inr (.inr (.inr (.inl z))))
    ·exact .inr (.inr (.inr (.inr (.inr z))))
   have fin:PySem.W.kitOne K (.type ty) (.type "str")=some false:=by
    rcases hp' with rfl|rfl|rfl|rfl|rfl|rfl<;>with_unfolding_all rfl
   refine zCD (b:=false) hT fin ?_;walk_at"g";refine ifp rfl ?_;walk_at"g";refine ifp rfl ?_;walk_at"g";exact q
theorem zEl:FnScope ["k","row"] ["k","row"] (defScope zCN):=scM
theorem zEw(F:Fun K "check_line" "check_line" zCN f fd)(T:Txt K mg aK cs)(U_is_line:FnUE P w K mg base k "is_line" ["k","thing"] (spLineE K cs)):FnOk P w K mg base (CXE P w) (k+1) f fd ["k","row"] (spGateE K cs spCheckLine):=by
 refine F.okE zEl (λvs H Q E h=>?_) (λcdv A outer s H vs Q E hr h=>?_)
 ·rcases h with⟨kk,a,rfl,_⟩|⟨kv,v,rfl,_⟩<;>rfl
 rcases h with⟨kk,a,rfl,h1,h2,ha,q⟩|⟨kv,v,rfl,⟨hk,r⟩|⟨kk,rfl,h1,h2,hn,r⟩⟩
 ·refine zBd ⟨_,(zAE (zAh (zAt (zA4 K (zAa U_is_line hr zBP (zAA (pv 0) (zAA (pv 1) zAB))))) (zAE zBs) zAT)),?_⟩;have hl:=zAz ha;walk_at"g";refine .inl (zJx h1 h2 (by omega) (λH' sH=>?_));walk_at"g";refine ifq (by rw[ha];rfl) ?_;walk_at"g";exact q H' sH
 ·refine⟨_,(zAE (zAh (zAt (zA4 K (zAa U_is_line hr zBq (zAA (pv 0) (zAA (pv 1) zAB))))) (zAE (zBS T.e_NoLine T.c_NoLine hr.hd zCd (zAA (zA0 (l:=[97,32,114,111,119,32,105,115,32,97,32,116,101,120,116,32,111,102,32,97,116,32,109,111,115,116,32,102,111,114,116,121,32,98,114,97,99,107,101,116,115,32,111,102,32,116,104,101,32,107,105,110,100,115,32,116,104,101,114,101,32,97,114,101,44,32,97,110,100,32,63]) (by decide +kernel)) zAB))) zAT)),?_⟩;walk_at"g";exact .inr ⟨kv,v,rfl,hk,r.pass (Same.refl H)⟩
 ·refine⟨_,(zAE (zAh (zAt (zA4 K (zAa U_is_line hr zBq (zAA (pv 0) (zAA (pv 1) zAB))))) (zAE (zBS T.e_NoLine T.c_NoLine hr.hd zCd (zAA (zA0 (l:=[97,32,114,111,119,32,105,115,32,97,32,116,101,120,116,32,111,102,32,97,116,32,109,111,115,116,32,102,111,114,116,121,32,98,114,97,99,107,101,116,115,32,111,102,32,116,104,101,32,107,105,110,100,115,32,116,104,101,114,101,32,97,114,101,44,32,97,110,100,32,63]) (by decide +kernel)) zAB))) zAT)),?_⟩;walk_at"g";refine zHg h1 h2 hn (λH1 s1=>?_);walk_at"g";refine ifp rfl ?_;walk_at"g";exact⟨small (by decide),λy hy=>r y H1 s1 (s1.free hy)⟩
theorem zED:FnScope ["row","i"] ["row","i"] (defScope zB8):=scM
theorem zEI(F:Fun K "check_place" "check_place" zB8 f fd)(T:Txt K mg aK cs)(U_is_whole:FnU P w K mg base k "is_whole" ["thing"] (spWhole K)):FnOk P w K mg base (CXE P w) (k+1) f fd ["row","i"] (spPlaceE K cs):=by
 refine F.okE zED (λvs H Q E h=>?_) (λcdv A outer s H vs Q E hr h=>?_)
 ·obtain⟨a,v,rfl,_⟩:=h;rfl
 obtain⟨a,v,rfl,hl,⟨i,rfl,h0,h1,q⟩|⟨⟨ty,hT,hp,hi⟩,r⟩⟩:=h
 ·refine zBd ⟨_,(zAE (zAh (PW.pt (zBO (zAt (zA4 K (zAX U_is_whole hr (zAA (pv 1) zAB)))) (zA8 (zAt (zCS zEF zIX zAD (pv 1) (zAQ (zAV K) rfl T.n_len PySem.boot_len (zAA (pv 0) zAB))))))) (zAE zBs) zAT)),?_⟩;walk_at"g";refine zDj ?_;walk_at"g";refine ifq rfl ?_;walk_at"g";refine ifp (decide_eq_true h0) ?_;walk_at"g";refine ifq (by simp;omega) ?_;walk_at"g";exact q
 ·refine⟨_,(zAE (zAh (PW.pt (zBO (zAt (zA4 K (zAX U_is_whole hr (zAA (pv 1) zAB)))) (zA8 (zAt (zCS zEF zIX zAD (pv 1) (zAQ (zAV K) rfl T.n_len PySem.boot_len (zAA (pv 0) zAB))))))) (zAE (zBS T.e_NoPlace T.c_NoPlace hr.hd zCd (zAA (zA0 (l:=[97,32,112,108,97,99,101,32,105,115,32,97,32,119,104,111,108,101,32,110,117,109,98,101,114,32,102,114,111,109,32,48,32,111,110,44,32,98,101,108,111,119,32,116,104,101,32,108,101,110,103,116,104,32,111,102,32,116,104,101,32,114,111,119]) (by decide +kernel)) zAB))) zAT)),?_⟩;walk_at"g";refine⟨v,ty,rfl,hT,hp,?_⟩;walk_at"g"
  by_cases e:ty="int"
  ·subst e;obtain⟨i,rfl⟩:=hT.int_of rfl;have hi:=hi i rfl;rw[decide_eq_true rfl];refine ifq rfl ?_;walk_at"g"
   by_cases h1:0<=i
   ·refine ifp (decide_eq_true h1) ?_;walk_at"g";refine ifp (by simp;omega) ?_;walk_at"g";exact⟨small (by decide),λy hy=>r y H (Same.refl H) hy⟩
   ·refine ifq (decide_eq_false h1) ?_;walk_at"g";refine ifp rfl ?_;walk_at"g";exact⟨small (by decide),λy hy=>r y H (Same.refl H) hy⟩
  ·rw[decide_eq_false e];refine ifp rfl ?_;walk_at"g";refine ifp rfl ?_;walk_at"g";exact⟨small (by decide),λy hy=>r y H (Same.refl H) hy⟩
theorem sc_matched:FnScope ["row","found","waiting","at","sign","start"] ["row"] (defScope zD5):=scM
theorem zHc(F:Fun K "matched" "matched" zD5 f fd)(T:Txt K mg aK cs):FnOk P w K mg base CX0 (k+1) f fd ["row"] (spMatched):=by
 refine F.ok sc_matched (λvs H Q E h=>?_) (λcdv A outer s H vs Q E hr h=>?_)
 ·obtain⟨a,rfl,_⟩:=h;rfl
 obtain⟨a,rfl,ha,q,q'⟩:=h;have hu:=hr.units0;refine⟨_,(zAC (zAN (i:=1) sc_matched.nd rfl (Or.inl rfl) (zAJ zAY (zAq (zAA zAD zAB)) (zAQ (zAV K) rfl T.n_len PySem.boot_len (zAA (pv 0) zAB)))) (zAC (zAN (i:=2) sc_matched.nd rfl (Or.inl rfl) (zAq zAB)) (zAC (zAn PassesOwn.never rfl (zJq rfl T.n_enumerate (zAA (pv 0) zAB)) (zGA (n:=2) K rfl (zBf (zAR (i:=3) sc_matched.nd rfl (Or.inl rfl)) (zBf (zAR (i:=4) sc_matched.nd rfl (Or.inl rfl)) zEq))) (zAC (zAh (zAP (zDw K) (pv 4) (zBg T.g_OPENING) (by with_unfolding_all rfl)) (zAC (zAj (zBy K PySem.F.plainAttrs_list PySem.F.slot_list_append PySem.F.type_list_append zBn (pv 2) (zAA (pv 3) zAB))) (zAE zF9)) zAT) (zAC (zAh (PW.pt (zBO (zAt (zA4 K (pv 2))) (zA8 (zAP (zCG K) (zAJ zAL (zAO (zAb K) (pv 0) (zAO (zAb K) (pv 2) (zFP zDP zAD) (λ_ _=>rfl)) (λ_ _=>rfl)) (pv 4)) (zBg T.g_KINDS) (by with_unfolding_all rfl))))) (zAE (zAU zAu)) zAT) (zAC (zAN (i:=5) sc_matched.nd rfl (Or.inl rfl) (zIQ K PySem.F.plainAttrs_list PySem.F.slot_list_pop PySem.F.type_list_pop zKj (pv 2))) (zAC (zCF (pv 3) (zCb (pv 1) (pv 5) zA1)) (zAE (zCF (pv 5) (zCb (pv 1) (pv 3) zA1)))))))) (zAE (zAU (zCq (zA4 K (pv 2)) zAu (pv 1))))))),?_⟩;walk_at"g";refine⟨small (show 1<=1000 by decide),λp0 hp0=>?_⟩;walk_at"g";refine zF4 zAF (by omega) (by omega) (small (by simp;omega)) (λfo hfo=>?_);rw[Int.toNat_natCast,flat1];walk_at"g";refine⟨small (show 0<=1000 by decide),λwa hwa=>?_⟩;walk_at"g";have sH:Same H (upd (upd (upd H p0 (.lst [.int 0])) fo (.lst (List.replicate a.length (V.int 0)))) wa (.lst [])):=(zAG hp0 _).trans ((zAG hfo _).trans (zAG hwa _));have hfw:fo≠wa:=zAH zAF hwa;have hHf:H fo=none:=(zAG hp0 _).free hfo;have hHw:H wa=none:=(zAG hp0 _).free ((zAG hfo _).free hwa);refine zLv (λi σ H'=>∃ (st ws:List Nat) (xs:List V) (o3 o4 o5:Option V),σ=[some (tx a),some (.ref fo),some (.ref wa),o3,o4,o5]/\MI a i st ws xs/\H' fo=some (.lst xs)/\H' wa=some (.lst (ws.reverse.map fun(w:Nat)=>V.int w))/\Same H H') ⟨[],[],List.replicate a.length (V.int 0),_,_,_,rfl,MI.start a (by simp),?_,zAF,sH⟩ ?_ ?_
 ·rw[zAI hfw,zAF]
 ·rintro i c σ H1 tt hc ht ⟨st,ws,xs,o3,o4,o5,rfl,m,hf1,hw1,s1⟩;have hi:i<a.length:=(List.getElem?_eq_some_iff.mp hc).1;have s2:Same H1 (upd H1 tt (.tup [.int i,tx [c]])):=zAG ht _;have hf2:=s2 _ _ hf1;have hw2:=s2 _ _ hw1;have hwl:ws.length<=40:=by
   have e1:=m.wk.len;have e2:=zLq m.rn;have:∀l:List Nat,hg l<=l.length:=by
    intro l
    induction l with
    |nil=>simp[hg]
    |cons d r ih=>rw[hg,List.length_cons];unfold sg;split<;>omega
   have e3:=this (a.take i);unfold BrM.ht at e2;rw[List.length_take]at e3;omega
  refine zMT (SqT.of zAF) rfl ?_;walk_at"g";refine ifd (λho=>?_) (λho=>?_)
  ·walk_at"g";refine⟨.inl ⟨rfl,_,SqL.of hw2⟩,?_⟩;walk_at"g";refine⟨wa,_, .int i,rfl,rfl,hw2,small1000 (by simp;omega),?_⟩;walk_at"g";refine⟨_,i::ws,xs,_,_,_,rfl,m.opens hc ho,?_,?_,?_⟩
   ·rw[zAI hfw];exact hf2
   ·rw[zAF];simp
   ·intro b o z;rw[zAI (zAH z hHw)];exact s2 b o (s1 b o z)
  ·walk_at"g";refine zKX (SqL.of hw2) ?_;have ho:c∉opn:=ho;have hne:∀ (hn:¬ (∃w wr r,ws=w::wr/\st=c::r)),¬Rt a:=by
    intro hn hR;obtain⟨s',e⟩:=zJf hR (i+1);rw[zEn m.rn hc]at e;unfold BrM.stp at e;rw[if_neg ho]at e
    cases st with
    |nil=>cases e
    |cons d r=>
     simp only at e
     split at e
     ·rename_i hd
      cases ws with
      |nil=>have:=m.wk.len;simp at this
      |cons w wr=>exact hn ⟨w,wr,r,rfl,by rw[hd]⟩
     ·cases e
   cases ws with
   |nil=>
    refine ifp rfl ?_;walk_at"g";exact q' (hne (by rintro⟨_,_,_,z,_⟩;cases z)) _ (s1.trans s2)
   |cons w wr=>
    refine ifq (by simp) ?_;obtain⟨cw,r,hcw,hcwo,rfl,hwi⟩:=m.top;have hwa':w<a.length:=by omega
    have elast:((w::wr).reverse.map fun(w:Nat)=>V.int w)=(wr.reverse.map fun(w:Nat)=>V.int w)++[V.int w]:=by simp
    have hl2:atI ((w::wr).reverse.map fun(w:Nat)=>V.int w) (-1)=some (.int w):=by rw[elast];exact zKJ _ _
    walk_at"s";walk_at"s";walk_at"s";walk_at"s";walk_at"s";walk_at"s";walk_at"g";refine zAZ (SqL.of hw2) hl2 ?_;refine zBe (small (by omega)) (zAM hcw) ?_;walk_at"g";refine zJc (.inr (T.t_KINDS _)) rfl rfl ?_;have ek:inV (tx ([cw]++[c])) [tx [40,41],tx [91,93],tx [123,125],tx [60,62]]=decide (c=clo cw):=zJ0 hcwo;rw[ek];walk_at"g";refine ifn (λhcc=>?_) (λhcc=>?_)
    ·walk_at"g";exact q' (hne (by rintro⟨_,_,_,_,z⟩;injection z with z _;exact hcc z.symm)) _ (s1.trans s2)
    ·walk_at"g";refine⟨.inl ⟨rfl,_,SqL.of hw2⟩,?_⟩;refine⟨wa,_, .int w,rfl,rfl,hw2,?_,?_⟩
     ·rw[elast];simp
     ·walk_at"g";have hf3:(upd (upd H1 tt (.tup [.int i,tx [c]])) wa (.lst ((w::wr).reverse.map fun(w:Nat)=>V.int w).dropLast)) fo=some (.lst xs):=by rw[zAI hfw];exact hf2
      have hxl:=m.len;refine zBk (j:=w) hf3 (by simp[ixN];omega) ?_;walk_at"g";refine zBk (j:=i) zAF (by simp[ixN];omega) ?_;walk_at"g";refine⟨r,wr,_,_,_,_,rfl,MI.closes (c:=c) (by rw[hcc];exact m) hc ho,zAF,?_,?_⟩
      ·rw[zAI hfw.symm,zAI hfw.symm,zAF,elast];simp
      ·intro b o z;rw[zAI (zAH z hHf),zAI (zAH z hHf),zAI (zAH z hHw)];exact s2 b o (s1 b o z)
 ·rintro σ H1 ⟨st,ws,xs,o3,o4,o5,rfl,m,hf1,hw1,s1⟩;have hrun:=m.rn;rw[List.take_length]at hrun;walk_at"g";refine zKX (SqL.of hw1) ?_;have hl:=m.wk.len
  cases ws with
  |nil=>
   refine ifq rfl ?_;walk_at"g"
   cases st with
   |nil=>exact q hrun fo xs H1 hHf s1 hf1 m.fin
   |cons d r=>simp at hl
  |cons w wr=>
   refine ifp (by simp) ?_;walk_at"g";refine q' (λhR=>?_) H1 s1;have hR':run [] a=some []:=hR;rw[hrun]at hR'
   cases hR'
   simp at hl
theorem zF2:FnScope ["k","row"] ["k","row"] (defScope zDM):=scM
theorem zGH(F:Fun K "is_right" "is_right" zDM f fd)(T:Txt K mg aK cs)(U_check_line:FnUE P w K mg base k "check_line" ["k","row"] (spGateE K cs spCheckLine))(U_matched:FnU P w K mg base k "matched" ["row"] (spMatched)):FnOk P w K mg base (CXE P w) (k+1) f fd ["k","row"] (spGateE K cs spRightP):=by
 refine F.okE zF2 (λvs H Q E h=>?_) (λcdv A outer s H vs Q E hr h=>?_)
 ·rcases h with⟨kk,a,rfl,_⟩|⟨kv,v,rfl,_⟩<;>rfl
 rcases h with⟨kk,a,rfl,h1,h2,ha,q⟩|⟨kv,v,rfl,g⟩
 rotate_left
 ·refine⟨_,(zAC (zAj (zAa U_check_line hr zBq (zAA (pv 0) (zAA (pv 1) zAB)))) (zAE (zAU (zAd zBz (zAX U_matched hr (zAA (pv 1) zAB)) zAu (nomark _))))),?_⟩;walk_at"g";exact .inr ⟨kv,v,rfl,g.pass (Same.refl H)⟩
 have hl:=zAz ha;refine zBd ⟨_,(zAC (zAj (zAa U_check_line hr zBP (zAA (pv 0) (zAA (pv 1) zAB)))) (zAE (zAU (zAd zBz (zAX U_matched hr (zAA (pv 1) zAB)) zAu (nomark _))))),?_⟩;walk_at"g";refine .inl (zBi h1 h2 ha (λH1 s1=>?_));walk_at"g";refine zGL hl (λhR r xs H2 hr2 s2 hx hP=>?_) (λhn H2 s2=>?_)
 ·walk_at"g";have:=q H2 (s1.trans s2);rw[decide_eq_true hR]at this;exact this
 ·walk_at"g";have:=q H2 (s1.trans s2);rw[decide_eq_false hn]at this;exact this
theorem zC6:FnScope ["row","weights"] ["row","weights"] (defScope zA5):=scM
theorem zDA(F:Fun K "weighed_places" "weighed_places" zA5 f fd)(T:Txt K mg aK cs):FnOk P w K mg base CX0 (k+1) f fd ["row","weights"] (spWeighed K):=by
 refine F.ok zC6 (λvs H Q E h=>?_) (λcdv A outer s H vs Q E hr h=>?_)
 ·obtain⟨a,p,w',rfl,_⟩:=h;rfl
 obtain⟨a,p,w',rfl,ha,hp,hw,q⟩:=h;have hu:=hr.units0;refine⟨_,(zAE (zAU (zJs (own:=["sign"]) (sel:=[1]) (zHo (osc:=(defScope zA5)) (N:=["row","weights"]) (by decide +kernel)) rfl (zFO (pv 0)) (λ_ _ _ _ _=>(zAR (i:=0) (show(["sign","weights"]:List Str).Nodup from by decide +kernel) rfl (Or.inr rfl))) (zBH (by decide)) (λ_ _ _ _ _=>zBF) (λ_ _ _ _ _=>(zCq (zAP (zAv K hu) (pv 0) (zBg T.g_UNKNOWN) (nomark _)) (zAr (zEX K) rfl T.n_list PyProof.Rows.boot_list (zAA (pv 1) zAB)) (zBx (own:=["bracket"]) (sel:=[0]) (compOkIn (osc:=(defScope zA5)) (N:=["sign","weights"]) rfl rfl (by decide +kernel)) rfl (zFO (zAw (zFw K) (zBg T.g_BRACKETS) zBL (zA6 (zAQ (zAV K) rfl T.n_len PySem.boot_len (zAA (pv 1) zAB))))) (λ_ _ _ _ _=>(zAR (i:=0) (show(["bracket","sign"]:List Str).Nodup from by decide +kernel) rfl (Or.inl rfl))) (zBH (by decide)) (λ_ _ _ _ _=>zBF) (λ_ _ _ _ _=>(zAr zBA rfl T.n_int PyProof.Rows.boot_int (zAA (zAd (zAv K hu) (pv 1) (pv 0) (nomark _)) zAB))))))))),?_⟩;walk_at"g";refine zHr (small (by omega)) (λD i ys H'=>∃ad:Nat->Addr,ys=(List.range i).map (λj=>V.ref (ad j))/\∀j,j<i->H' (ad j)=some (iL (plw w' (a.getD j 0)))/\ad j≠D)
  (λD _=>⟨λ_=>D,rfl,λj hj=>absurd hj (by omega)⟩) (λD i ys H1 H2 _ ⟨ad,e,h1⟩ s12=>⟨ad,e,λj hj=>⟨s12 _ _ (h1 j hj).1 (h1 j hj).2,(h1 j hj).2⟩⟩)
  (λD ys H' hD hy _ sH ⟨ad,e,h1⟩=>?_) ?_
 ·subst e;refine q D H' hD sH ⟨ad,by rw[List.length_map];exact hy,λi hi=>?_⟩;rw[List.length_map]at hi;have eg:(a.map (plw w')).getD i []=plw w' (a.getD i 0):=by
   simp only[List.getD_eq_getElem?_getD,List.getElem?_map,List.getElem?_eq_getElem hi];rfl
  rw[eg];exact(h1 i hi).1
 ·rintro D i ys H' R hD hi hy hl sH ⟨ad,e,h1⟩ r;have fin:∀l H6,H' l=none->Same H' H6->H6 l=some (iL (plw w' (a.getD i 0)))->R (.ref l) H6:=by
   intro l H6 hl' s6 h6;have hlD:l≠D:=λz=>by rw[z,hy]at hl';cases hl'
   refine r _ _ s6 ⟨λj=>if j=i then l else ad j,?_,λj hj=>?_⟩
   ·subst e;rw[List.range_succ,List.map_append];congr 1
    ·refine List.map_congr_left λj hj=>?_;have:=List.mem_range.mp hj;show V.ref (ad j)=V.ref (if j=i then l else ad j);rw[if_neg (by omega)]
    ·simp
   ·by_cases ej:j=i
    ·subst ej;simp only[if_true];exact⟨h6,hlD⟩
    ·simp only[if_neg ej];obtain⟨a1,a2⟩:=h1 j (by omega);exact⟨s6 _ _ a1,a2⟩
  walk_at"g";refine ifd (λhc=>?_) (λhc=>?_)
  ·walk_at"g";refine zIF (sH.seq hp) (λl hl'=>?_);refine fin l _ hl' (zAG hl' _) ?_;have e63:a.getD i 0=63:=by simpa using hc
   rw[zAF];unfold plw;rw[if_pos e63]
  ·have n63:¬ (a.getD i 0=63):=by simpa using hc
   walk_at"g";refine zBc (.inl (sH.seq hp)) ?_;walk_at"g";have el:(((w'.map V.int).length:Nat):Int)=(w'.length:Int):=by rw[List.length_map]
   rw[el,zC1 _ (by omega),Int.toNat_natCast];walk_at"g";refine zGj (λb=> .int (if a.getD i 0=b then 1 else 0)) (small (by rw[List.length_take];exact Nat.le_trans (Nat.min_le_right _ _) (by decide))) (λD2 H2 hD2 s2 h2=>?_) (λi2 c H2 R2 hc2 s2 r2=>?_)
   ·refine fin D2 H2 hD2 s2 ?_;rw[h2];unfold plw;rw[if_neg n63];show some (HO.lst _)=some (HO.lst (List.map V.int (List.map _ _)));rw[List.map_map]
    rfl
   ·walk_at"g";have eb:(if(decide ([a.getD i 0]=[c]))=true then(1:Int)else 0)=if a.getD i 0=c then 1 else 0:=by
     by_cases z:a.getD i 0=c<;>simp[z]
    rw[eb];exact r2 H2 (Same.refl _)
theorem zC8:FnScope ["k","row"] ["k","row"] (defScope zBa):=scM
theorem zDD(F:Fun K "counted_places" "counted_places" zBa f fd)(T:Txt K mg aK cs)(U_weighed_places:FnU P w K mg base k "weighed_places" ["row","weights"] (spWeighed K)):FnOk P w K mg base CX0 (k+1) f fd ["k","row"] (spCounted):=by
 refine F.ok zC8 (λvs H Q E h=>?_) (λcdv A outer s H vs Q E hr h=>?_)
 ·obtain⟨kk,a,rfl,_⟩:=h;rfl
 obtain⟨kk,a,rfl,h1,h2,ha,q⟩:=h;refine⟨_,(zAE (zAU (zAX U_weighed_places hr (zAA (pv 1) (zAA (zAJ zAY (zAq (zAA zAD zAB)) (zAJ zAY zAD (pv 0))) zAB))))),?_⟩;walk_at"g";refine⟨small (show 1<=1000 by decide),λz hz=>?_⟩;walk_at"g";have e2:(2*kk).toNat=2*kk.toNat:=by omega
 refine zF4 (xs:=[.int 1]) zAF (by omega) (by omega) (small (by rw[List.length_singleton,e2];omega)) (λp hp=>?_);walk_at"g";have ew:(List.replicate (2*kk).toNat [V.int 1]).flatten=(ones kk.toNat).map V.int:=by rw[e2,zJk]
 rw[ew]at*
 have sp:Same H (upd (upd H z (.lst [.int 1])) p (.lst ((ones kk.toNat).map V.int))):=(zAG hz _).trans (zAG hp _);refine zDl ha (SqL.of zAF) (by rw[List.length_replicate];omega) (λr H' hr' sH hP=>?_);exact q r H' (sp.free hr') (sp.trans sH) hP
theorem zFz:FnScope ["first","last"] ["first","last"] (defScope zCX):=scM
theorem zGB(F:Fun K "pair_sum" "pair_sum" zCX f fd)(T:Txt K mg aK cs):FnOk P w K mg base CX0 (k+1) f fd ["first","last"] (spPair):=by
 refine F.ok zFz (λvs H Q E h=>?_) (λcdv A outer s H vs Q E hr h=>?_)
 ·obtain⟨p,q,x,y,kk,rfl,_⟩:=h;rfl
 obtain⟨p,q,x,y,kk,rfl,hp,hq,lx,ly,hk,sx,sy,r⟩:=h;have hu:=hr.units0;refine⟨_,(zAE (zAU (zAQ (zJD K rfl) rfl T.n_sum PyProof.Rows.boot_sum (zAA (zBx (own:=["opening"]) (sel:=[0,1]) (zAs (osc:=(defScope zCX)) (N:=["first","last"]) (by decide +kernel)) rfl (zAg rfl T.n_range (zAA zAD (zAA (zAQ (zAV K) rfl T.n_len PySem.boot_len (zAA (pv 0) zAB)) (zAA zAD zAB)))) (λ_ _ _ _ _=>(zAR (i:=0) (show(["opening","first","last"]:List Str).Nodup from by decide +kernel) rfl (Or.inl rfl))) (zBH (by decide)) (λ_ _ _ _ _=>zBF) (λ_ _ _ _ _=>(zAJ zAS (zAO (zAb K) (pv 1) (pv 0) (λ_ _=>rfl)) (zAO (zAb K) (pv 2) (zAJ zAL (pv 0) zAD) (λ_ _=>rfl))))) zAB)))),?_⟩;walk_at"g";refine zBc (.inl (SqL.of hp)) ?_;walk_at"g";have el:(((x.map V.int).length:Nat):Int)=((2*kk:Nat):Int):=by rw[List.length_map,lx]
 rw[el];refine⟨0,((2*kk:Nat):Int),2,rfl,⟨by decide,by decide,zAm (by decide) (by decide) (by omega) (by omega)⟩,?_⟩;have er:rN 0 ((2*kk:Nat):Int) 2=kk:=by rw[zBV];omega
 rw[er];refine zH0 (λi=> .int (x.getD (2*i) 0*y.getD (2*i+1) 0)) (small (by omega)) (λD H' hD sH hy=>?_) (λi H' R hi sH r'=>?_)
 ·have ns:SqL K H' D (((List.range kk).map λi=>x.getD (2*i) 0*y.getD (2*i+1) 0).map V.int):=by rw[List.map_map];exact SqL.of hy
  refine zNl ns ?_;rw[zFF];exact r H' sH
 ·walk_at"g";have e1:(0+((i:Nat):Int)*2)=((2*i:Nat):Int):=by omega
  rw[e1];refine zAZ (SqL.of (sH _ _ hp)) (v:= .int (x.getD (2*i) 0)) (zAM (zKk (by omega))) ?_;walk_at"g";have e2:(((2*i:Nat):Int)+1)=((2*i+1:Nat):Int):=by omega
  rw[e2];refine zAZ (SqL.of (sH _ _ hq)) (v:= .int (y.getD (2*i+1) 0)) (zAM (zKk (by omega))) ?_;refine zAi (zAf (sx.at _).1 (sx.at _).2 zC4) (zAf (sy.at _).1 (sy.at _).2 zC4) ?_;exact r' H' (Same.refl _)
theorem zHT:FnScope ["many"] ["many"] (defScope zCz):=scM
theorem zHb(F:Fun K "no_sums" "no_sums" zCz f fd)(T:Txt K mg aK cs):FnOk P w K mg base CX0 (k+1) f fd ["many"] (spNoSums):=by
 refine F.ok zHT (λvs H Q E h=>?_) (λcdv A outer s H vs Q E hr h=>?_)
 ·obtain⟨n,rfl,_⟩:=h;rfl
 obtain⟨n,rfl,hn,q⟩:=h;have hu:=hr.units0;refine⟨_,(zAE (zAU (zBx (own:=["start"]) (sel:=[0]) (zAs (osc:=(defScope zCz)) (N:=["many"]) (by decide +kernel)) rfl (zAk rfl T.n_range (zAA (zAJ zAL (pv 0) zAD) zAB)) (λ_ _ _ _ _=>(zAR (i:=0) (show(["start","many"]:List Str).Nodup from by decide +kernel) rfl (Or.inl rfl))) (zBH (by decide)) (λ_ _ _ _ _=>zBF) (λ_ _ _ _ _=>(zAJ zAY (zAq (zAA zAD zAB)) (zAJ zAL (pv 1) zAD)))))),?_⟩;walk_at"g";refine⟨_,rfl,by omega,by omega,?_⟩;have en:((n:Int)+1).toNat=n+1:=by omega
 rw[en];refine zHs (small (by omega)) (λD i ys H'=>∃ad:Nat->Addr,ys=(List.range i).map (λj=>V.ref (ad j))/\(∀j,j<i->H' (ad j)=some (.lst (rwl n λ_=>0))/\H (ad j)=none/\ad j≠D)/\∀j j',j<i->j'<i->ad j=ad j'->j=j')
  (λD _=>⟨λ_=>D,rfl,λj hj=>absurd hj (by omega),λj _ hj=>absurd hj (by omega)⟩) (λD i ys H1 H2 _ ⟨ad,e,h1,h2⟩ s12=>⟨ad,e,λj hj=>⟨s12 _ _ (h1 j hj).1 (h1 j hj).2.2,(h1 j hj).2⟩,h2⟩)
  (λD ys H' hD hy _ sH ⟨ad,e,h1,h2⟩=>?_) ?_
 ·subst e;exact q D ad H' ⟨hD,λi hi=>(h1 i (by omega)).2.1,λi hi=>(h1 i (by omega)).2.2,λi j hi hj=>h2 i j (by omega) (by omega),hy,λi hi=>(h1 i (by omega)).1,sH⟩
 ·rintro D i ys H' R hD hi hy hl sH ⟨ad,e,h1,h2⟩ r;walk_at"g";refine⟨small (show 1<=1000 by decide),λz hz=>?_⟩;walk_at"g";refine zF4 (xs:=[.int 0]) zAF (by omega) (by omega) (small (by rw[List.length_singleton,en];omega)) (λp hp=>?_);have hpz:p≠z:=λw=>by rw[w,zAF]at hp;cases hp
  have hp':H' p=none:=by rw[zAI hpz]at hp;exact hp
  have hpD:p≠D:=λw=>by rw[w,hy]at hp';cases hp'
  have sp:Same H' (upd (upd H' z (.lst [.int 0])) p (.lst (List.replicate ((n:Int)+1).toNat [V.int 0]).flatten)):=(zAG hz _).trans (zAG hp _);refine r _ _ sp ⟨λj=>if j=i then p else ad j,?_,?_,?_⟩
  ·subst e;rw[List.range_succ,List.map_append];congr 1
   ·refine List.map_congr_left λj hj=>?_;have:=List.mem_range.mp hj;show V.ref (ad j)=V.ref (if j=i then p else ad j);rw[if_neg (by omega)]
   ·simp
  ·intro j hj
   by_cases ej:j=i
   ·subst ej;simp only[if_true];refine⟨?_,?_,hpD⟩
    ·rw[zAF,en,zJj]
    ·exact sH.free hp'
   ·simp only[if_neg ej];obtain⟨a1,a2,a3⟩:=h1 j (by omega);exact⟨sp _ _ a1,a2,a3⟩
  ·intro j j' hj hj' ee;have nq:∀j,j<i->ad j≠p:=λj hj w=>by have:=(h1 j hj).1;rw[w,hp']at this;cases this
   by_cases e1:j=i<;>by_cases e2:j'=i
   ·omega
   ·simp only[if_pos e1,if_neg e2]at ee;exact absurd ee.symm (nq j' (by omega))
   ·simp only[if_neg e1,if_pos e2]at ee;exact absurd ee (nq j (by omega))
   ·simp only[if_neg e1,if_neg e2]at ee;exact h2 j j' (by omega) (by omega) ee
theorem sc_span_sums:FnScope ["places","many","sums","start","end","first_part","stop"] ["places"] (defScope zCi):=scM
theorem zFV(F:Fun K "span_sums" "span_sums" zCi f fd)(T:Txt K mg aK cs)(U_no_sums:FnU P w K mg base k "no_sums" ["many"] (spNoSums))(U_pair_sum:FnU P w K mg base k "pair_sum" ["first","last"] (spPair)):FnOk P w K mg base CX0 (k+1) f fd ["places"] (spSpans):=by
 refine F.ok sc_span_sums (λvs H Q E h=>?_) (λcdv A outer s H vs Q E hr h=>?_)
 ·obtain⟨p,ps,kk,rfl,_⟩:=h;rfl
 obtain⟨p,ps,kk,rfl,hP,hn,hk,hl,q⟩:=h;have hu:=hr.units0;have hsm:∀l∈ps,Sm l:=λl z=>(hl l z).2;obtain⟨pa,hp0,hpa⟩:=id hP;refine⟨_,(zAC (zAN (i:=1) sc_span_sums.nd rfl (Or.inl rfl) (zAQ (zAV K) rfl T.n_len PySem.boot_len (zAA (pv 0) zAB))) (zAC (zAN (i:=2) sc_span_sums.nd rfl (Or.inl rfl) (zAX U_no_sums hr (zAA (pv 1) zAB))) (zAC (zAn PassesOwn.never rfl (zAg rfl T.n_range (zAA (pv 1) (zAA (zFP zDP zAD) (zAA (zFP zDP zAD) zAB)))) (zAR (i:=3) sc_span_sums.nd rfl (Or.inl rfl)) (zAC (zCF zAD (zCb (zAO (zAb K) (pv 2) (pv 3) (λ_ _=>rfl)) (pv 3) zA1)) (zAE (zAn PassesOwn.never rfl (zAg rfl T.n_range (zAA (zAJ zAL (pv 3) zAD) (zAA (pv 1) (zAA zAD zAB)))) (zAR (i:=4) sc_span_sums.nd rfl (Or.inl rfl)) (zAC (zAN (i:=5) sc_span_sums.nd rfl (Or.inl rfl) (zAJ zAS (zAX U_pair_sum hr (zAA (zAO (zAb K) (pv 0) (pv 3) (λ_ _=>rfl)) (zAA (zAO (zAb K) (pv 0) (pv 4) (λ_ _=>rfl)) zAB))) (zAO (zAb K) (zAO (zAb K) (pv 2) (zAJ zAL (pv 3) zAD) (λ_ _=>rfl)) (pv 4) (λ_ _=>rfl)))) (zAE (zAn PassesOwn.never rfl (zAg rfl T.n_range (zAA (zAJ zAL (pv 4) zAD) (zAA (zAJ zAL (pv 1) zAD) (zAA zAD zAB)))) (zAR (i:=6) sc_span_sums.nd rfl (Or.inl rfl)) (zAE (zDt (zAO (zAb K) (pv 2) (pv 3) (λ_ _=>rfl)) (pv 6) (zCJ K) (zAJ zAS (pv 5) (zAO (zAb K) (zAO (zAb K) (pv 2) (zAJ zAL (pv 4) zAD) (λ_ _=>rfl)) (pv 6) (λ_ _=>rfl))) zEU zA1))))))))) (zAE (zAU (pv 2)))))),?_⟩;walk_at"g";refine zBc (.inl (SqL.of hp0)) ?_;have en:((((List.range ps.length).map λi=>V.ref (pa i)).length:Nat):Int)=(ps.length:Int):=by rw[List.length_map,List.length_range]
 rw[en];generalize hN:ps.length=n at*
 walk_at"g";refine zER hn (λs' ad H1 tb1=>?_);walk_at"g";refine⟨n,-1,-1,rfl,⟨by decide,by decide,zEO (.inl rfl) (by omega) (by omega) (by decide) (by decide)⟩,?_⟩;have er:rN (n:Int) (-1) (-1)=n+1:=by rw[zIL];omega
 rw[er];have place:∀ {H':Hp} {i:Nat},Same H H'->i<n->∃l,H' (pa i)=some (iL l)/\l.length=2*kk/\Sm l/\∀b,PP ps i b=l.getD b 0:=by
  intro H' i sH hi;have e:ps[i]? =some ps[i]:=List.getElem?_eq_getElem (by omega);have eg:ps.getD i []=ps[i]:=by rw[List.getD_eq_getElem?_getD,e];rfl
  refine⟨ps[i],?_,(hl _ (List.getElem_mem _)).1,(hl _ (List.getElem_mem _)).2,λb=>by show(ps.getD i []).getD b 0=_;rw[eg]⟩;have:=sH _ _ (hpa i (by omega));rw[eg]at this;exact this
 have pix:∀ {i:Nat},i<n->((List.range n).map λi=>V.ref (pa i))[i]? =some (.ref (pa i)):=fun{i} hi=>by rw[List.getElem?_map,List.getElem?_range hi];rfl
 refine zAx (λt σ H'=>∃o3 o4 o5 o6,σ=[some (.ref p),some (.int n),some (.ref s'),o3,o4,o5,o6]/\Tb H H' s' ad n (λi j=>if n<i+t then tbl (PP ps) kk i j else 0)) ?_ ?_ ?_
 ·exact⟨_,_,_,_,rfl,tb1.congr λi j hi hj=>by rw[if_neg (by omega)]⟩
 rotate_left
 ·rintro σ H' ⟨o3,o4,o5,o6,rfl,tb⟩;walk_at"g";exact q s' ad H' (tb.congr λi j hi hj=>by rw[if_pos (by omega)])
 rintro t σ H2 ht ⟨o3,o4,o5,o6,rfl,tb2⟩;obtain⟨st,est⟩:∃st:Nat,st+t=n:=⟨n-t,by omega⟩;have e1:((n:Int)+(t:Int)* -1)=(st:Int):=by omega
 rw[e1];walk_at"g";refine zAZ (SqL.of tb2.top) (zAM (tb2.at (i:=st) (by omega))) ?_;walk_at"g";refine zBk (tb2.row st (by omega)) (j:=st) (by rw[zCf];unfold ixN;rw[if_pos (by omega),if_pos (by omega)];simp) ?_;have tb3:=(tb2.set (i:=st) (j:=st) (v:=1) (by omega)).congr (T':=λi j=>if st<i then tbl (PP ps) kk i j else if i=st then part (PP ps) kk st 0 j else 0) (λi j hi hj=>by
  by_cases h1:i=st
  ·subst h1;rw[if_neg (Nat.lt_irrefl _),if_pos rfl,zIS]
   by_cases h2:j=i
   ·rw[if_pos ⟨rfl,h2⟩,if_pos h2]
   ·rw[if_neg (λz=>h2 z.2),if_neg h2,if_neg (by omega)]
  ·rw[if_neg (λz=>h1 z.1)]
   by_cases h2:st<i
   ·rw[if_pos (by omega),if_pos h2]
   ·rw[if_neg (by omega),if_neg h2,if_neg h1])
 generalize upd H2 (ad st) _=H3 at tb3;clear tb2;walk_at"g";refine⟨_,_,2,rfl,⟨by decide,by decide,zAm (by omega) (by omega) (by omega) (by omega)⟩,?_⟩;have er2:rN ((st:Int)+1) n 2=(n-st)/2:=by rw[zBV];omega
 rw[er2];refine zAx (λq' σ H'=>∃o4 o5 o6,σ=[some (.ref p),some (.int n),some (.ref s'),some (.int st),o4,o5,o6]/\Tb H H' s' ad n (λi j=>if st<i then tbl (PP ps) kk i j else if i=st then part (PP ps) kk st q' j else 0)) ?_ ?_ ?_
 ·exact⟨_,_,_,rfl,tb3⟩
 rotate_left
 ·rintro σ H' ⟨o4,o5,o6,rfl,tb⟩;walk_at"g";refine⟨_,_,_,_,rfl,tb.congr λi j hi hj=>?_⟩
  by_cases h2:st<i
  ·rw[if_pos h2,if_pos (by omega)]
  ·by_cases h1:i=st
   ·subst h1;rw[if_neg h2,if_pos rfl,if_pos (by omega)];exact zJt hj
   ·rw[if_neg h2,if_neg h1,if_neg (by omega)]
 rintro q' σ H4 hq' ⟨o4,o5,o6,rfl,tb4⟩;obtain⟨en',hen⟩:∃e:Nat,e=st+1+2*q':=⟨_,rfl⟩;have e2:((st:Int)+1+(q':Int)*2)=(en':Int):=by omega
 have hen2:en'<n:=by omega
 rw[e2];walk_at"g";obtain⟨x,hx,lx,sx,ex⟩:=place tb4.sm (show st<n by omega);obtain⟨y,hy,ly,sy,ey⟩:=place tb4.sm (show en'<n by omega);refine zAZ (SqL.of (tb4.sm _ _ hp0)) (zAM (pix (i:=st) (by omega))) ?_;walk_at"g";refine zAZ (SqL.of (tb4.sm _ _ hp0)) (zAM (pix (i:=en') (by omega))) ?_;walk_at"g";refine zGy hx hy lx ly hk sx sy (λH5 s5=>?_);have epr:sm kk (λo=>x.getD (2*o) 0*y.getD (2*o+1) 0)=pr (PP ps) kk st en':=by
  unfold pr;exact zAK kk λo _=>by rw[ex,ey]
 rw[epr];have tb5:=tb4.same s5;clear tb4;have e3:((st:Int)+1)=((st+1:Nat):Int):=by omega
 walk_at"g";rw[e3];refine zAZ (SqL.of tb5.top) (zAM (tb5.at (i:=st+1) (by omega))) ?_;walk_at"g";refine zAZ (SqL.of (tb5.row (st+1) (by omega))) (zAM (zBv (j:=en') (by omega))) ?_;have ev:(if st<st+1 then tbl (PP ps) kk (st+1) en' else if st+1=st then part (PP ps) kk st q' en' else 0)=cv (PP ps) kk (2*q') (st+1) []:=by
  rw[if_pos (by omega)];unfold tbl;rw[if_pos (by omega),show en'-(st+1)=2*q' by omega]
 rw[ev];have b1:=zKb hk hsm st en';have b2:=zDX hk hsm (n:=2*q') (by omega) (st+1) [];refine zAi (zAf b1.1 b1.2 zFN) (zAf b2.1 b2.2 zCO) ?_;have b3:0<=pr (PP ps) kk st en'*cv (PP ps) kk (2*q') (st+1) []:=Int.mul_nonneg b1.1 b2.1;have b4:pr (PP ps) kk st en'*cv (PP ps) kk (2*q') (st+1) []<=4*(top30*top30)*cap:=Int.mul_le_mul b1.2 b2.2 b2.1 (by decide);walk_at"g";refine⟨_,_,2,rfl,⟨by decide,by decide,zAm (by omega) (by omega) (by omega) (by omega)⟩,?_⟩;have er3:rN ((en':Int)+1) ((n:Int)+1) 2=(n+1-en')/2:=by rw[zBV];omega
 rw[er3];refine zAx (λr σ H'=>∃o6,σ=[some (.ref p),some (.int n),some (.ref s'),some (.int st),some (.int en'),some (.int (pr (PP ps) kk st en'*cv (PP ps) kk (2*q') (st+1) [])),o6]/\Tb H H' s' ad n (λi j=>if st<i then tbl (PP ps) kk i j else if i=st then(if j<en'+1+2*r then part (PP ps) kk st (q'+1) j else part (PP ps) kk st q' j)else 0)) ?_ ?_ ?_
 ·refine⟨_,rfl,tb5.congr λi j hi hj=>?_⟩
  by_cases h2:st<i
  ·rw[if_pos h2,if_pos h2]
  ·rw[if_neg h2,if_neg h2]
   by_cases h1:i=st
   ·rw[if_pos h1,if_pos h1]
    by_cases h3:j<en'+1+2*0
    ·rw[if_pos h3,zIT (by omega)]
    ·rw[if_neg h3]
   ·rw[if_neg h1,if_neg h1]
 rotate_left
 ·rintro σ H' ⟨o6,rfl,tb⟩;refine⟨_,_,_,rfl,tb.congr λi j hi hj=>?_⟩
  by_cases h2:st<i
  ·rw[if_pos h2,if_pos h2]
  ·rw[if_neg h2,if_neg h2]
   by_cases h1:i=st
   ·rw[if_pos h1,if_pos h1,if_pos (by omega)]
   ·rw[if_neg h1,if_neg h1]
 rintro r σ H6 hr6 ⟨o6,rfl,tb6⟩;obtain⟨sp,hsp⟩:∃e:Nat,e=en'+1+2*r:=⟨_,rfl⟩;have e4:((en':Int)+1+(r:Int)*2)=(sp:Int):=by omega
 have hsp2:sp<=n:=by omega
 rw[e4];walk_at"g";refine zAZ (SqL.of tb6.top) (zAM (tb6.at (i:=st) (by omega))) ?_;walk_at"g";refine zFK (SqL.of (tb6.row st (by omega))) (zBv (j:=sp) hsp2) ?_;have ev2:(if st<st then tbl (PP ps) kk st sp else if st=st then(if sp<en'+1+2*r then part (PP ps) kk st (q'+1) sp else part (PP ps) kk st q' sp)else 0)=part (PP ps) kk st q' sp:=by
  rw[if_neg (by omega),if_pos rfl,if_neg (by omega)]
 rw[ev2];have e5:((en':Int)+1)=((en'+1:Nat):Int):=by omega
 walk_at"g";rw[e5];refine zAZ (SqL.of tb6.top) (zAM (tb6.at (i:=en'+1) (by omega))) ?_;walk_at"g";refine zAZ (SqL.of (tb6.row (en'+1) (by omega))) (zAM (zBv (j:=sp) hsp2)) ?_;have ev3:(if st<en'+1 then tbl (PP ps) kk (en'+1) sp else if en'+1=st then(if sp<en'+1+2*r then part (PP ps) kk st (q'+1) sp else part (PP ps) kk st q' sp)else 0)=cv (PP ps) kk (sp-(en'+1)) (en'+1) []:=by
  rw[if_pos (by omega)];unfold tbl;rw[if_pos (by omega)]
 rw[ev3];have b5:=zDX hk hsm (n:=sp-(en'+1)) (by omega) (en'+1) [];refine zAi (zAf b3 b4 zKF) (zAf b5.1 b5.2 zCO) ?_;refine zHU ?_;refine zBk (tb6.row st (by omega)) (j:=sp) (by rw[zCf];unfold ixN;rw[if_pos (by omega),if_pos (by omega)];simp) ?_;refine⟨_,rfl,(tb6.set (i:=st) (j:=sp) (by omega)).congr λi j hi hj=>?_⟩
 by_cases h1:i=st
 ·subst h1;simp only[Nat.lt_irrefl,if_false,if_true,true_and]
  by_cases h2:j=sp
  ·subst h2;rw[if_pos rfl,if_pos (by omega)];exact zIU hen (by omega) (by omega)
  ·rw[if_neg h2]
   by_cases h3:j<en'+1+2*r
   ·rw[if_pos h3,if_pos (by omega)]
   ·rw[if_neg h3]
    by_cases h4:j<en'+1+2*(r+1)
    ·rw[if_pos h4,zGx (by omega),zGx (by omega)]
    ·rw[if_neg h4]
 ·rw[if_neg (λz=>h1 z.1)]
  by_cases h2:st<i
  ·rw[if_pos h2,if_pos h2]
  ·rw[if_neg h2,if_neg h2,if_neg h1,if_neg h1]
theorem zFI:FnScope ["sums"] ["sums"] (defScope zCh):=scM
theorem zFU(F:Fun K "whole_sum" "whole_sum" zCh f fd)(T:Txt K mg aK cs):FnOk P w K mg base CX0 (k+1) f fd ["sums"] (spWholeSum):=by
 refine F.ok zFI (λvs H Q E h=>?_) (λcdv A outer s H vs Q E hr h=>?_)
 ·obtain⟨H0,s',ad,n,T',rfl,_⟩:=h;rfl
 obtain⟨H0,s',ad,n,T',rfl,tb,q⟩:=h;refine⟨_,(zAE (zAU (zAO (zAb K) (zAO (zAb K) (pv 0) zAD (λ_ _=>rfl)) (zFP zDP zAD) (λ_ _=>rfl)))),?_⟩;walk_at"g";refine zAZ (SqL.of tb.top) (zAM (j:=0) (tb.at (Nat.zero_le _))) ?_;walk_at"g";refine zAZ (SqL.of (tb.row 0 (Nat.zero_le _))) (v:= .int (T' 0 n)) (zGf ?_ ?_) ?_
 ·rw[zCf];omega
 ·rw[zCf];exact zBv (Nat.le_refl _)
 exact q
theorem zDZ:FnScope ["sums"] ["sums"] (defScope zBo):=scM
theorem zDc(F:Fun K "check_filling" "check_filling" zBo f fd)(T:Txt K mg aK cs)(U_whole_sum:FnU P w K mg base k "whole_sum" ["sums"] (spWholeSum)):FnOk P w K mg base (CXE P w) (k+1) f fd ["sums"] (spCheckFillE cs):=by
 refine F.okE zDZ (λvs H Q E h=>?_) (λcdv A outer s H vs Q E hr h=>?_)
 ·obtain⟨H0,s,ad,n,T,rfl,_⟩:=h;rfl
 have hu:=hr.units0;obtain⟨H0,sa,ad,n,tab,rfl,tb,⟨hne,q⟩|⟨he,r⟩⟩:=h
 ·refine zBd ⟨_,(zAE (zAh (zAP (zAv K hu) (zAX U_whole_sum hr (zAA (pv 0) zAB)) zAD (nomark _)) (zAE zBs) zAT)),?_⟩;walk_at"g";refine zBU tb ?_;walk_at"g";refine ifq (decide_eq_false hne) ?_;walk_at"g";exact q
 ·refine⟨_,(zAE (zAh (zAP (zAv K hu) (zAX U_whole_sum hr (zAA (pv 0) zAB)) zAD (nomark _)) (zAE (zBS T.e_NoFilling T.c_NoFilling hr.hd zCd (zAA (zA0 (l:=[116,104,101,32,114,111,119,32,104,97,115,32,110,111,32,114,105,103,104,116,32,102,105,108,108,105,110,103,44,32,111,114,32,110,111,110,101,32,116,104,97,116,32,119,101,105,103,104,115,32,109,111,114,101,32,116,104,97,110,32,48]) (by decide +kernel)) zAB))) zAT)),?_⟩;walk_at"g";refine zBU tb ?_;walk_at"g";refine ifp (decide_eq_true he) ?_;walk_at"g";exact⟨small (by decide),λy hy=>r y H (Same.refl H) hy⟩
theorem sc_pairs_with_rest:FnScope ["places","sums","many","outer","found","start","end","pair","within","outside","stop"] ["places","sums"] (defScope zBR):=scM
theorem zCr(F:Fun K "pairs_with_rest" "pairs_with_rest" zBR f fd)(T:Txt K mg aK cs)(U_no_sums:FnU P w K mg base k "no_sums" ["many"] (spNoSums))(U_pair_sum:FnU P w K mg base k "pair_sum" ["first","last"] (spPair)):FnOk P w K mg base CX0 (k+1) f fd ["places","sums"] (spPairsR):=by
 refine F.ok sc_pairs_with_rest (λvs H Q E h=>?_) (λcdv A outer s H vs Q E hr h=>?_)
 ·obtain⟨p,s,ps,k,ads,H0,rfl,_⟩:=h;rfl
 obtain⟨p,ss,ps,kk,ads,H0,rfl,hP,hn,hk,hl,tbS,q⟩:=h;have hu:=hr.units0;have hsm:∀l∈ps,Sm l:=λl z=>(hl l z).2;obtain⟨pa,hp0,hpa⟩:=id hP;refine⟨_,(zAC (zAN (i:=2) sc_pairs_with_rest.nd rfl (Or.inl rfl) (zAQ (zAV K) rfl T.n_len PySem.boot_len (zAA (pv 0) zAB))) (zAC (zAN (i:=3) sc_pairs_with_rest.nd rfl (Or.inl rfl) (zAX U_no_sums hr (zAA (pv 2) zAB))) (zAC (zCF zAD (zCb (zAO (zAb K) (pv 3) zAD (λ_ _=>rfl)) (pv 2) zA1)) (zAC (zAN (i:=4) sc_pairs_with_rest.nd rfl (Or.inl rfl) (zAq zAB)) (zAC (zAn PassesOwn.never rfl (zAk rfl T.n_range (zAA (pv 2) zAB)) (zAR (i:=5) sc_pairs_with_rest.nd rfl (Or.inl rfl)) (zAE (zAn PassesOwn.never rfl (zAg rfl T.n_range (zAA (zAJ zAL (pv 5) zAD) (zAA (pv 2) (zAA zAD zAB)))) (zAR (i:=6) sc_pairs_with_rest.nd rfl (Or.inl rfl)) (zAC (zAN (i:=7) sc_pairs_with_rest.nd rfl (Or.inl rfl) (zAX U_pair_sum hr (zAA (zAO (zAb K) (pv 0) (pv 5) (λ_ _=>rfl)) (zAA (zAO (zAb K) (pv 0) (pv 6) (λ_ _=>rfl)) zAB)))) (zAC (zAN (i:=8) sc_pairs_with_rest.nd rfl (Or.inl rfl) (zAO (zAb K) (zAO (zAb K) (pv 1) (zAJ zAL (pv 5) zAD) (λ_ _=>rfl)) (pv 6) (λ_ _=>rfl))) (zAC (zAN (i:=9) sc_pairs_with_rest.nd rfl (Or.inl rfl) zAD) (zAC (zAn PassesOwn.never rfl (zAg rfl T.n_range (zAA (zAJ zAL (pv 6) zAD) (zAA (zAJ zAL (pv 2) zAD) (zAA zAD zAB)))) (zAR (i:=10) sc_pairs_with_rest.nd rfl (Or.inl rfl)) (zAC (zDt (zAO (zAb K) (pv 3) (zAJ zAL (pv 6) zAD) (λ_ _=>rfl)) (pv 10) (zCJ K) (zAJ zAS (zAJ zAS (zAO (zAb K) (zAO (zAb K) (pv 3) (pv 5) (λ_ _=>rfl)) (pv 10) (λ_ _=>rfl)) (pv 7)) (pv 8)) zEU zA1) (zAE (zMn (i:=9) sc_pairs_with_rest.nd rfl (Or.inl rfl) (zAJ zAS (zAO (zAb K) (zAO (zAb K) (pv 3) (pv 5) (λ_ _=>rfl)) (pv 10) (λ_ _=>rfl)) (zAO (zAb K) (zAO (zAb K) (pv 1) (zAJ zAL (pv 6) zAD) (λ_ _=>rfl)) (pv 10) (λ_ _=>rfl))) zEU)))) (zAC (zDt (zAO (zAb K) (pv 3) (zAJ zAL (pv 5) zAD) (λ_ _=>rfl)) (pv 6) (zCJ K) (zAJ zAS (pv 7) (pv 9)) zEU zA1) (zAE (zAj (zBy K PySem.F.plainAttrs_list PySem.F.slot_list_append PySem.F.type_list_append zBn (pv 4) (zAA (zAc (zAA (pv 5) (zAA (pv 6) (zAA (zAJ zAS (pv 8) (pv 9)) zAB)))) zAB)))))))))))) (zAE (zAU (pv 4)))))))),?_⟩;walk_at"g";refine zBc (.inl (SqL.of hp0)) ?_;have en:((((List.range ps.length).map λi=>V.ref (pa i)).length:Nat):Int)=(ps.length:Int):=by rw[List.length_map,List.length_range]
 rw[en];generalize hN:ps.length=n at*
 walk_at"g";refine zER hn (λs' ad H1 tb1=>?_);have place:∀ {H':Hp} {i:Nat},Same H H'->i<n->∃l,H' (pa i)=some (iL l)/\l.length=2*kk/\Sm l/\∀b,PP ps i b=l.getD b 0:=by
  intro H' i sH hi;have e:ps[i]? =some ps[i]:=List.getElem?_eq_getElem (by omega);have eg:ps.getD i []=ps[i]:=by rw[List.getD_eq_getElem?_getD,e];rfl
  refine⟨ps[i],?_,(hl _ (List.getElem_mem _)).1,(hl _ (List.getElem_mem _)).2,λb=>by show(ps.getD i []).getD b 0=_;rw[eg]⟩;have:=sH _ _ (hpa i (by omega));rw[eg]at this;exact this
 have pix:∀ {i:Nat},i<n->((List.range n).map λi=>V.ref (pa i))[i]? =some (.ref (pa i)):=fun{i} hi=>by rw[List.getElem?_map,List.getElem?_range hi];rfl
 walk_at"g";refine zAZ (SqL.of tb1.top) (zAM (j:=0) (tb1.at (Nat.zero_le _))) ?_;walk_at"g";refine zBk (tb1.row 0 (Nat.zero_le _)) (j:=n) (by rw[zCf];unfold ixN;rw[if_pos (by omega),if_pos (by omega)];simp) ?_;have tb2:=tb1.set (i:=0) (j:=n) (v:=1) (Nat.zero_le _);have ok2:OkT (PP ps) kk n 0 0 0 (λa b=>if a=0/\b=n then 1 else 0):=OkT.zero λi j=>rfl;generalize upd H1 (ad 0) _=H2 at*
 walk_at"g";refine⟨small (show 0<=1000 by decide),λF0 hF0=>?_⟩;have t3:=zAG hF0 (.lst []);have g3:(upd H2 F0 (.lst [])) F0=some (.lst []):=zAF;have tb3:=tb2.same t3;have hHF:H F0=none:=tb2.sm.free hF0;have nFs:F0≠s':=λz=>by rw[z,tb2.top]at hF0;cases hF0
 have nFa:∀i,i<=n->F0≠ad i:=λi hi z=>by rw[z,tb2.row i hi]at hF0;cases hF0
 have fp3:Fp (PP ps) kk n (upd H2 F0 (.lst [])) [] (prsp n 0 0):=⟨rfl,λm x hx=>by simp[prsp]at hx⟩;generalize upd H2 F0 _=H3 at*
 generalize(λa b=>if a=0/\b=n then(1:Int)else 0)=T3 at*
 clear tb1 tb2 t3;walk_at"g";refine⟨_,rfl,by omega,by omega,?_⟩;rw[Int.toNat_natCast];refine zBX (λst σ H'=>∃ (T:Nat->Nat->Int) (vs:List V) (o5 o6 o7 o8 o9 o10:Option V),σ=[some (.ref p),some (.ref ss),some (.int (n:Int)),some (.ref s'),some (.ref F0),o5,o6,o7,o8,o9,o10]/\Tb H H' s' ad n T/\OkT (PP ps) kk n st 0 0 T/\H' F0=some (.lst vs)/\Fp (PP ps) kk n H' vs (prsp n st 0)) ⟨T3,[],_,_,_,_,_,_,rfl,tb3,ok2,g3,fp3⟩ ?_ ?_
 rotate_left
 ·rintro σ H4 ⟨T,vs,o5,o6,o7,o8,o9,o10,rfl,tb,_,gF,fp⟩;walk_at"g";rw[zJo]at fp;exact q F0 vs H4 hHF tb.sm gF fp
 clear tb3 ok2 g3 fp3;rintro st σ H4 hst ⟨T4,vs4,o5,o6,o7,o8,o9,o10,rfl,tb4,ok4,gF4,fp4⟩;have e0:(0:Int)+(st:Int)=(st:Int):=by omega
 rw[e0];walk_at"g";refine⟨_,_,2,rfl,⟨by decide,by decide,zAm (by omega) (by omega) (by omega) (by omega)⟩,?_⟩;have er2:rN ((st:Int)+1) n 2=(n-st)/2:=by rw[zBV];omega
 rw[er2];refine zAx (λq' σ H'=>∃ (T:Nat->Nat->Int) (vs:List V) (o6 o7 o8 o9 o10:Option V),σ=[some (.ref p),some (.ref ss),some (.int (n:Int)),some (.ref s'),some (.ref F0),some (.int (st:Int)),o6,o7,o8,o9,o10]/\Tb H H' s' ad n T/\OkT (PP ps) kk n st q' 0 T/\H' F0=some (.lst vs)/\Fp (PP ps) kk n H' vs (prsp n st q')) ⟨T4,vs4,_,_,_,_,_,rfl,tb4,ok4,gF4,fp4⟩ ?_ ?_
 rotate_left
 ·rintro σ H5 ⟨T,vs,o6,o7,o8,o9,o10,rfl,tb,ok,gF,fp⟩;walk_at"g";exact⟨T,vs,_,_,_,_,_,_,rfl,tb,ok.start hst,gF,by rw[zMo];exact fp⟩
 clear tb4 ok4 gF4 fp4;rintro q' σ H5 hq' ⟨T5,vs5,o6,o7,o8,o9,o10,rfl,tb5,ok5,gF5,fp5⟩;obtain⟨en',hen⟩:∃e:Nat,e=st+1+2*q':=⟨_,rfl⟩;have e2:((st:Int)+1+(q':Int)*2)=(en':Int):=by omega
 have hen2:en'<n:=by omega
 rw[e2];walk_at"g";obtain⟨x,hx,lx,sx,ex⟩:=place tb5.sm (show st<n by omega);obtain⟨y,hy,ly,sy,ey⟩:=place tb5.sm (show en'<n by omega);refine zAZ (SqL.of (tb5.sm _ _ hp0)) (zAM (pix (i:=st) (by omega))) ?_;walk_at"g";refine zAZ (SqL.of (tb5.sm _ _ hp0)) (zAM (pix (i:=en') (by omega))) ?_;walk_at"g";refine zGy hx hy lx ly hk sx sy (λH6 s6=>?_);have epr:sm kk (λo=>x.getD (2*o) 0*y.getD (2*o+1) 0)=pr (PP ps) kk st en':=by
  unfold pr;exact zAK kk λo _=>by rw[ex,ey]
 rw[epr];have tb6:=tb5.same s6;have gF6:=s6 _ _ gF5;have fp6:=fp5.same s6;clear tb5 gF5 fp5;have e3:((st:Int)+1)=((st+1:Nat):Int):=by omega
 walk_at"g";rw[e3];refine zAZ (SqL.of (tb6.sm _ _ tbS.top)) (zAM (tbS.at (i:=st+1) (by omega))) ?_;walk_at"g";refine zAZ (SqL.of (tb6.sm _ _ (tbS.row (st+1) (by omega)))) (zAM (zBv (j:=en') (by omega))) ?_;have bpr:=zKb hk hsm st en';have btb:0<=tbl (PP ps) kk (st+1) en'/\tbl (PP ps) kk (st+1) en'<=cap:=by
  unfold tbl;rw[if_pos (by omega)];exact zDX hk hsm (by omega) _ _
 walk_at"g";refine⟨_,_,2,rfl,⟨by decide,by decide,zAm (by omega) (by omega) (by omega) (by omega)⟩,?_⟩;have er3:rN ((en':Int)+1) ((n:Int)+1) 2=(n+1-en')/2:=by rw[zBV];omega
 rw[er3];refine zAx (λr σ H'=>∃ (T:Nat->Nat->Int) (o10:Option V),σ=[some (.ref p),some (.ref ss),some (.int (n:Int)),some (.ref s'),some (.ref F0),some (.int (st:Int)),some (.int (en':Int)),some (.int (pr (PP ps) kk st en')),some (.int (tbl (PP ps) kk (st+1) en')),some (.int (sm (en'+1+2*r) λt=>Oo (PP ps) kk n st t*tbl (PP ps) kk (en'+1) t)),o10]/\Tb H H' s' ad n T/\OkT (PP ps) kk n st q' (en'+1+2*r) T/\H' F0=some (.lst vs5)/\Fp (PP ps) kk n H' vs5 (prsp n st q')) ?_ ?_ ?_
 ·refine⟨T5,o10,?_,tb6,?_,gF6,fp6⟩
  ·rw[BrC.sm_zero (en'+1+2*0) λt ht=>by rw[zAp (i:=en'+1) (j:=t) (by omega),Int.mul_zero]];rfl
  ·intro i j h1 h2 h3;rw[ok5 i j h1 h2 h3];unfold ot
   by_cases e:i<=st
   ·rw[if_pos e,if_pos e]
   ·rw[if_neg e,if_neg e];congr 2
    by_cases z:st<i-1/\i-1<st+1+2*q'
    ·rw[if_pos (by omega),if_pos (by omega)]
    ·rw[if_neg (by omega),if_neg (by omega)]
 rotate_left
 ·rintro σ H7 ⟨T7,o10,rfl,tb7,ok7,gF7,fp7⟩;have eout:(sm (en'+1+2*((n+1-en')/2)) λt=>Oo (PP ps) kk n st t*tbl (PP ps) kk (en'+1) t)=out (PP ps) kk n st en':=by
   unfold out
   by_cases z:en'+1+2*((n+1-en')/2)=n+1
   ·rw[z]
   ·rw[show en'+1+2*((n+1-en')/2)=n+1+1 by omega,sm,zEN (x:=en'+1) (y:=n+1) (by omega),Int.mul_zero,Int.add_zero]
  rw[eout];have bout:=zM0 (ps:=ps) (k:=kk) hsm hk hn (s:=st) (e:=en') (by omega) hen2;have bout2:(out (PP ps) kk n st en').natAbs<big:=zAf bout.1 (Int.le_trans bout.2 (Int.mul_le_mul_of_nonneg_left (zGN (by decide) (show n-en'-1+st<=40 by omega)) (by decide))) zHI;walk_at"g";rw[e3];refine zAZ (SqL.of tb7.top) (zAM (tb7.at (i:=st+1) (by omega))) ?_;walk_at"g";refine zFK (SqL.of (tb7.row (st+1) (by omega))) (zBv (j:=en') (by omega)) ?_;walk_at"g";refine zAi (zAf bpr.1 bpr.2 zFN) bout2 ?_;refine zHU ?_;refine zBk (tb7.row (st+1) (by omega)) (j:=en') (by rw[zCf];unfold ixN;rw[if_pos (by omega),if_pos (by omega)];simp) ?_;have tb8:=tb7.set (i:=st+1) (j:=en') (v:=T7 (st+1) en'+pr (PP ps) kk st en'*out (PP ps) kk n st en') (by omega);have ok8:=ok7.fin (by omega) (v:=T7 (st+1) en'+pr (PP ps) kk st en'*out (PP ps) kk n st en') (by rw[hen]) (by omega);rw[<-hen]at ok8;have gF8:(upd H7 (ad (st+1)) (.lst ((rwl n (T7 (st+1))).set en' (.int (T7 (st+1) en'+pr (PP ps) kk st en'*out (PP ps) kk n st en'))))) F0=some (.lst vs5):=by rw[zAI (nFa (st+1) (by omega))];exact gF7
  have fp8:=fp7.lst (o:= .lst ((rwl n (T7 (st+1))).set en' (.int (T7 (st+1) en'+pr (PP ps) kk st en'*out (PP ps) kk n st en')))) (tb7.row (st+1) (by omega));generalize upd H7 (ad (st+1)) _=H8 at*
  generalize(λa b=>if a=st+1/\b=en' then T7 (st+1) en'+pr (PP ps) kk st en'*out (PP ps) kk n st en' else T7 a b)=T8 at*
  walk_at"g";refine⟨.inl ⟨rfl,_,SqL.of gF8⟩,?_⟩;walk_at"g";refine zAi (zAf btb.1 btb.2 zCO) bout2 ?_;walk_at"g";refine⟨small (show 3<=1000 by decide),λT' hT=>?_⟩;have t9:=zAG hT (.tup [.int (st:Int), .int (en':Int), .int (tbl (PP ps) kk (st+1) en'*out (PP ps) kk n st en')]);have g9:(upd H8 T' (.tup [.int (st:Int), .int (en':Int), .int (tbl (PP ps) kk (st+1) en'*out (PP ps) kk n st en')])) T'=some (.tup [.int (st:Int), .int (en':Int), .int (rst (PP ps) kk n st en')]):=zAF;have tb9:=tb8.same t9;have gF9:=t9 _ _ gF8;have fp9:=fp8.same t9;have nTF:T'≠F0:=λz=>by rw[z,gF8]at hT;cases hT
  generalize upd H8 T' _=H9 at*
  walk_at"g";refine⟨F0,_,_,rfl,rfl,gF9,?_,?_⟩
  ·have:=zJn n st q' (by omega) (by omega) hn;rw[fp9.1,PySem.sizeLine_eq];omega
  have up:SameBut1 F0 H9 (upd H9 F0 (.lst (vs5++[.ref T']))):=SameBut1.upd;walk_at"g";refine⟨_,_,_,_,_,_,_,rfl,tb9.but hHF nFs nFa up,ok8,zAF,?_⟩;rw[zMp,<-hen];exact(fp9.lst gF9).more (up _ _ g9 nTF)
 rintro r σ H7 hr7 ⟨T7,o10,rfl,tb7,ok7,gF7,fp7⟩;obtain⟨sp,hsp⟩:∃e:Nat,e=en'+1+2*r:=⟨_,rfl⟩;have e4:((en':Int)+1+(r:Int)*2)=(sp:Int):=by omega
 have hsp2:sp<=n:=by omega
 rw[e4];have e5:((en':Int)+1)=((en'+1:Nat):Int):=by omega
 have eOo:T7 st sp=Oo (PP ps) kk n st sp:=ok7.row (by omega) hsp2 (by omega);have bOo:=zNc (ps:=ps) (k:=kk) hsm hk hn (t:=st) (j:=sp) (by omega) hsp2;have btb2:0<=tbl (PP ps) kk (en'+1) sp/\tbl (PP ps) kk (en'+1) sp<=cap:=by
  unfold tbl;rw[if_pos (by omega)];exact zDX hk hsm (by omega) _ _
 walk_at"g";rw[e5];refine zAZ (SqL.of tb7.top) (zAM (tb7.at (i:=en'+1) (by omega))) ?_;walk_at"g";refine zFK (SqL.of (tb7.row (en'+1) (by omega))) (zBv (j:=sp) hsp2) ?_;walk_at"g";refine zAZ (SqL.of tb7.top) (zAM (tb7.at (i:=st) (by omega))) ?_;walk_at"g";refine zAZ (SqL.of (tb7.row st (by omega))) (zAM (zBv (j:=sp) hsp2)) ?_;rw[eOo];walk_at"g";refine zAi (zAf bOo.1 bOo.2 zHJ) (zAf bpr.1 bpr.2 zFN) ?_;walk_at"g";refine zAi (zAf (Int.mul_nonneg bOo.1 bpr.1) (Int.mul_le_mul bOo.2 bpr.2 bpr.1 (Int.pow_nonneg (by decide))) zKD) (zAf btb.1 btb.2 zCO) ?_;refine zHU ?_;refine zBk (tb7.row (en'+1) (by omega)) (j:=sp) (by rw[zCf];unfold ixN;rw[if_pos (by omega),if_pos (by omega)];simp) ?_;have tb8:=tb7.set (i:=en'+1) (j:=sp) (v:=T7 (en'+1) sp+Oo (PP ps) kk n st sp*pr (PP ps) kk st en'*tbl (PP ps) kk (st+1) en') (by omega);have ok8:=OkT.stop (r:=r) (v:=T7 (en'+1) sp+Oo (PP ps) kk n st sp*pr (PP ps) kk st en'*tbl (PP ps) kk (st+1) en') (h:=(show OkT (PP ps) kk n st q' (st+2+2*q'+2*r) T7 by rw[show st+2+2*q'+2*r=en'+1+2*r by omega];exact ok7)) (by rw[show st+2+2*q'+2*r=sp by omega,show st+2+2*q'=en'+1 by omega,<-hen]) (by omega);rw[show st+2+2*q'+2*r=sp by omega,show st+2+2*q'=en'+1 by omega]at ok8;have gF8:(upd H7 (ad (en'+1)) (.lst ((rwl n (T7 (en'+1))).set sp (.int (T7 (en'+1) sp+Oo (PP ps) kk n st sp*pr (PP ps) kk st en'*tbl (PP ps) kk (st+1) en'))))) F0=some (.lst vs5):=by rw[zAI (nFa (en'+1) (by omega))];exact gF7
 have fp8:=fp7.lst (o:= .lst ((rwl n (T7 (en'+1))).set sp (.int (T7 (en'+1) sp+Oo (PP ps) kk n st sp*pr (PP ps) kk st en'*tbl (PP ps) kk (st+1) en')))) (tb7.row (en'+1) (by omega));generalize upd H7 (ad (en'+1)) _=H8 at*
 generalize(λa b=>if a=en'+1/\b=sp then T7 (en'+1) sp+Oo (PP ps) kk n st sp*pr (PP ps) kk st en'*tbl (PP ps) kk (st+1) en' else T7 a b)=T8 at*
 have eOo8:T8 st sp=Oo (PP ps) kk n st sp:=ok8.row (by omega) hsp2 (by omega);walk_at"g";refine zAZ (SqL.of tb8.top) (zAM (tb8.at (i:=st) (by omega))) ?_;walk_at"g";refine zAZ (SqL.of (tb8.row st (by omega))) (zAM (zBv (j:=sp) hsp2)) ?_;walk_at"g";rw[e5,eOo8];refine zAZ (SqL.of (tb8.sm _ _ tbS.top)) (zAM (tbS.at (i:=en'+1) (by omega))) ?_;walk_at"g";refine zAZ (SqL.of (tb8.sm _ _ (tbS.row (en'+1) (by omega)))) (zAM (zBv (j:=sp) hsp2)) ?_;refine zAi (zAf bOo.1 bOo.2 zHJ) (zAf btb2.1 btb2.2 zCO) ?_;walk_at"g";refine⟨T8,some (.int (sp:Int)),?_,tb8,ok8,gF8,fp8⟩;have es:(sm (en'+1+2*(r+1)) λt=>Oo (PP ps) kk n st t*tbl (PP ps) kk (en'+1) t)=(sm (en'+1+2*r) λt=>Oo (PP ps) kk n st t*tbl (PP ps) kk (en'+1) t)+Oo (PP ps) kk n st sp*tbl (PP ps) kk (en'+1) sp:=by
  rw[show en'+1+2*(r+1)=(en'+1+2*r)+1+1 by omega,sm,sm,zEN (x:=en'+1) (y:=en'+1+2*r+1) (by omega),Int.mul_zero,Int.add_zero,<-hsp]
 rw[es]
 rfl
theorem sc_bracket_sums:FnScope ["places","sums","found","start","end","rest","opening","weight"] ["places","sums"] (defScope zBT):=scM
theorem zDx(F:Fun K "bracket_sums" "bracket_sums" zBT f fd)(T:Txt K mg aK cs)(U_pairs_with_rest:FnU P w K mg base k "pairs_with_rest" ["places","sums"] (spPairsR)):FnOk P w K mg base CX0 (k+1) f fd ["places","sums"] (spBrSums):=by
 refine F.ok sc_bracket_sums (λvs H Q E h=>?_) (λcdv A outer s H vs Q E hr h=>?_)
 ·obtain⟨p,s,ps,k,ads,H0,rfl,_⟩:=h;rfl
 obtain⟨p,ss,ps,kk,ads,H0,rfl,hP,hn,hk,hl,tbS,q⟩:=h;have hu:=hr.units0;have hsm:∀l∈ps,Sm l:=λl z=>(hl l z).2;obtain⟨pa,hp0,hpa⟩:=id hP;refine⟨_,(zAC (zCT (i:=2) sc_bracket_sums.nd rfl (Or.inl rfl) (own:=["place"]) (sel:=[]) (zAs (osc:=(defScope zBT)) (N:=["places","sums","found","start","end","rest","opening","weight"]) (by decide +kernel)) rfl (zCU K (pv 0)) (λ_ _ _ _ _=>(zAR (i:=0) (show(["place"]:List Str).Nodup from by decide +kernel) rfl (Or.inl rfl))) (zBH (by decide)) (λ_ _ _ _ _=>zBF) (λ_ _ _ _ _=>(zAJ zAY (zAq (zAA zAD zAB)) (zAQ (zAV K) rfl T.n_len PySem.boot_len (zAA (pv 0) zAB))))) (zAC (zAn PassesOwn.never rfl (zCU K (zAX U_pairs_with_rest hr (zAA (pv 0) (zAA (pv 1) zAB)))) (zGA (n:=3) K rfl (zBf (zAR (i:=3) sc_bracket_sums.nd rfl (Or.inl rfl)) (zBf (zAR (i:=4) sc_bracket_sums.nd rfl (Or.inl rfl)) (zBf (zAR (i:=5) sc_bracket_sums.nd rfl (Or.inl rfl)) zEq)))) (zAE (zAn PassesOwn.never rfl (zAg rfl T.n_range (zAA zAD (zAA (zAQ (zAV K) rfl T.n_len PySem.boot_len (zAA (zAO (zAb K) (pv 0) (pv 3) (λ_ _=>rfl)) zAB)) (zAA zAD zAB)))) (zAR (i:=6) sc_bracket_sums.nd rfl (Or.inl rfl)) (zAC (zAN (i:=7) sc_bracket_sums.nd rfl (Or.inl rfl) (zAJ zAS (zAJ zAS (zAO (zAb K) (zAO (zAb K) (pv 0) (pv 3) (λ_ _=>rfl)) (pv 6) (λ_ _=>rfl)) (zAO (zAb K) (zAO (zAb K) (pv 0) (pv 4) (λ_ _=>rfl)) (zAJ zAL (pv 6) zAD) (λ_ _=>rfl))) (pv 5))) (zAC (zDt (zAO (zAb K) (pv 2) (pv 3) (λ_ _=>rfl)) (pv 6) (zCJ K) (pv 7) zEU zA1) (zAE (zDt (zAO (zAb K) (pv 2) (pv 4) (λ_ _=>rfl)) (zAJ zAL (pv 6) zAD) (zCJ K) (pv 7) zEU zA1))))))) (zAE (zAU (pv 2))))),?_⟩;have place:∀ {H':Hp} {i:Nat},Same H H'->i<ps.length->∃l,H' (pa i)=some (iL l)/\l.length=2*kk/\Sm l/\∀b,PP ps i b=l.getD b 0:=by
  intro H' i sH hi;have e:ps[i]? =some ps[i]:=List.getElem?_eq_getElem (by omega);have eg:ps.getD i []=ps[i]:=by rw[List.getD_eq_getElem?_getD,e];rfl
  refine⟨ps[i],?_,(hl _ (List.getElem_mem _)).1,(hl _ (List.getElem_mem _)).2,λb=>by show(ps.getD i []).getD b 0=_;rw[eg]⟩;have:=sH _ _ (hpa i (by omega));rw[eg]at this;exact this
 have pix:∀ {i:Nat},i<ps.length->((List.range ps.length).map λi=>V.ref (pa i))[i]? =some (.ref (pa i)):=fun{i} hi=>by rw[List.getElem?_map,List.getElem?_range hi];rfl
 have hlen:((List.range ps.length).map λi=>V.ref (pa i)).length=ps.length:=by rw[List.length_map,List.length_range]
 walk_at"g";refine⟨p,rfl,⟨_,SqL.of hp0⟩,?_⟩;refine zJX (small (by rw[hlen];omega)) hp0 (λD i ys H'=>∃ad:Nat->Addr,ys=(List.range i).map (λj=>V.ref (ad j))/\(∀j,j<i->H' (ad j)=some (.lst (rw2 (2*kk) λ_=>0))/\H (ad j)=none/\ad j≠D)/\∀j j',j<i->j'<i->ad j=ad j'->j=j')
  (λD _=>⟨λ_=>D,rfl,λj hj=>absurd hj (by omega),λj _ hj=>absurd hj (by omega)⟩) (λD i ys H1 H2 _ ⟨ad,e,h1,h2⟩ s12=>⟨ad,e,λj hj=>⟨s12 _ _ (h1 j hj).1 (h1 j hj).2.2,(h1 j hj).2⟩,h2⟩)
  (λD ys H' hD hy _ sH ⟨ad,e,h1,h2⟩=>?_) ?_
 rotate_left
 ·rintro D i x ys H' R hD hx hy hl' sH ⟨ad,e,h1,h2⟩ r;have hi:i<ps.length:=by
   have:=(List.getElem?_eq_some_iff.mp hx).1;rw[hlen]at this;exact this
  rw[pix hi]at hx
  cases hx
  obtain⟨l,gl,ll,_,_⟩:=place sH hi;walk_at"g";refine⟨small (show 1<=1000 by decide),λz hz=>?_⟩;walk_at"g";refine zBc (.inl (SqL.of (zAG hz _ _ _ gl))) ?_;have el:(((l.map V.int).length:Nat):Int)=((2*kk:Nat):Int):=by rw[List.length_map,ll]
  rw[el];refine zF4 (k:=((2*kk:Nat):Int)) (xs:=[.int 0]) zAF (by omega) (by omega) (small (by rw[List.length_singleton,Int.toNat_natCast];omega)) (λp' hp'=>?_);have hpz:p'≠z:=λw=>by rw[w,zAF]at hp';cases hp'
  have hp2:H' p'=none:=by rw[zAI hpz]at hp';exact hp'
  have hpD:p'≠D:=λw=>by rw[w,hy]at hp2;cases hp2
  have sp:Same H' (upd (upd H' z (.lst [.int 0])) p' (.lst (List.replicate ((2*kk:Nat):Int).toNat [V.int 0]).flatten)):=(zAG hz _).trans (zAG hp' _);refine r _ _ sp ⟨λj=>if j=i then p' else ad j,?_,?_,?_⟩
  ·subst e;rw[List.range_succ,List.map_append];congr 1
   ·refine List.map_congr_left λj hj=>?_;have:=List.mem_range.mp hj;show V.ref (ad j)=V.ref (if j=i then p' else ad j);rw[if_neg (by omega)]
   ·simp
  ·intro j hj
   by_cases ej:j=i
   ·subst ej;simp only[if_true];refine⟨?_,?_,hpD⟩
    ·rw[zAF,Int.toNat_natCast,zIJ]
    ·exact sH.free hp2
   ·simp only[if_neg ej];obtain⟨a1,a2,a3⟩:=h1 j (by omega);exact⟨sp _ _ a1,a2,a3⟩
  ·intro j j' hj hj' ee;have nq:∀j,j<i->ad j≠p':=λj hj w=>by have:=(h1 j hj).1;rw[w,hp2]at this;cases this
   by_cases e1:j=i<;>by_cases e2:j'=i
   ·omega
   ·simp only[if_pos e1,if_neg e2]at ee;exact absurd ee.symm (nq j' (by omega))
   ·simp only[if_neg e1,if_pos e2]at ee;exact absurd ee (nq j (by omega))
   ·simp only[if_neg e1,if_neg e2]at ee;exact h2 j j' (by omega) (by omega) ee
 rw[hlen]at e h1 h2;subst e;have tw0:Tw H H' D ad ps.length (2*kk) (λi b=>sms (((prs ps.length).take 0).map (ga (PP ps) kk ps.length i b))):=⟨hD,λi hi=>(h1 i (by omega)).2.1,λi hi=>(h1 i (by omega)).2.2,λi j hi hj=>h2 i j (by omega) (by omega),hy,λi hi=>(h1 i (by omega)).1,sH⟩;clear h1 h2 hD hy;walk_at"g";refine zHY (hP.same sH) hn hk hl (ads:=ads) (H0:=H0) ?_ (λF0 vs' H2 hF0 s2 gF fp=>?_)
 ·exact tbS.same sH
 have tw1:=tw0.same s2;have nFa:∀i,i<ps.length->F0≠ad i:=λi hi z=>by rw[z,tw0.row i hi]at hF0;cases hF0
 clear tw0;walk_at"g";refine⟨F0,rfl,⟨_,SqL.of gF⟩,?_⟩;refine zLu (xs:=vs') (λm σ H'=>∃ (o3 o4 o5 o6 o7:Option V),σ=[some (.ref p),some (.ref ss),some (.ref D),o3,o4,o5,o6,o7]/\Tw H H' D ad ps.length (2*kk) (λi b=>sms (((prs ps.length).take m).map (ga (PP ps) kk ps.length i b)))/\H' F0=some (.lst vs')/\Fp (PP ps) kk ps.length H' vs' (prs ps.length)) ⟨_,_,_,_,_,rfl,tw1,gF,fp⟩ (λm σ H' _ ⟨_,_,_,_,_,_,_,g,_⟩=>SqL.of g) ?_ ?_
 rotate_left
 ·rintro σ H3 ⟨o3,o4,o5,o6,o7,rfl,tw,g3,fp3⟩;walk_at"g";refine q D ad H3 (tw.congr λi j hi hj=>?_);rw[fp3.1,List.take_length];exact zNM _ hi hj
 clear tw1 gF fp;rintro m x σ H3 hx ⟨o3,o4,o5,o6,o7,rfl,tw3,g3,fp3⟩;have hm:m<(prs ps.length).length:=by
  have:=(List.getElem?_eq_some_iff.mp hx).1;rw[fp3.1]at this;exact this
 obtain⟨⟨st,en⟩,hse⟩:∃y,(prs ps.length)[m]? =some y:=⟨_,List.getElem?_eq_getElem hm⟩;obtain⟨T,eT,gT⟩:=fp3.2 m _ hse;rw[hx]at eT
 cases eT
 have hmem:=zLX (List.mem_of_getElem? hse);have hst:st<ps.length:=by have h1:=hmem.1;have h2:=hmem.2;dsimp only at h1 h2;omega
 have hen:en<ps.length:=hmem.2;have hlt:st<en:=hmem.1
 dsimp only at gT
 walk_at"g";refine⟨T,_,rfl,SqT.of gT,rfl,?_⟩;obtain⟨l1,gl1,ll1,sm1,e1⟩:=place tw3.sm hst;walk_at"g";refine zAZ (SqL.of (tw3.sm _ _ hp0)) (zAM (pix hst)) ?_;walk_at"g";refine zBc (.inl (SqL.of gl1)) ?_;have el:(((l1.map V.int).length:Nat):Int)=((2*kk:Nat):Int):=by rw[List.length_map,ll1]
 rw[el];walk_at"g";refine⟨0,_,2,rfl,⟨by decide,by decide,zAm (by omega) (by omega) (by omega) (by omega)⟩,?_⟩;have er:rN 0 ((2*kk:Nat):Int) 2=kk:=by rw[zBV];omega
 rw[er];have br:=zN7 (ps:=ps) (k:=kk) hsm hk hn hlt hen;refine zAx (λo σ H'=>∃ (o6 o7:Option V),σ=[some (.ref p),some (.ref ss),some (.ref D),some (.int (st:Int)),some (.int (en:Int)),some (.int (rst (PP ps) kk ps.length st en)),o6,o7]/\Tw H H' D ad ps.length (2*kk) (λi b=>gp (PP ps) kk ps.length m o i b (st,en))/\H' F0=some (.lst vs')/\Fp (PP ps) kk ps.length H' vs' (prs ps.length)) ⟨_,_,rfl,tw3.congr λi j _ _=>(zLr _ _ _ _ _ _ _).symm,g3,fp3⟩ ?_ ?_
 rotate_left
 ·rintro σ H4 ⟨o6,o7,rfl,tw4,g4,fp4⟩;exact⟨_,_,_,_,_,rfl,tw4.congr λi j _ hj=>zNJ hse hj,g4,fp4⟩
 clear tw3 g3 fp3 gl1;rintro o σ H4 ho ⟨o6,o7,rfl,tw4,g4,fp4⟩;have e0:(0:Int)+(o:Int)*2=((2*o:Nat):Int):=by omega
 have e2:((2*o:Nat):Int)+1=((2*o+1:Nat):Int):=by omega
 rw[e0];obtain⟨l1,gl1,ll1,sm1,e1⟩:=place tw4.sm hst;obtain⟨l2,gl2,ll2,sm2,e3⟩:=place tw4.sm hen;have gx:l1[2*o]? =some (l1.getD (2*o) 0):=by rw[List.getD_eq_getElem?_getD,List.getElem?_eq_getElem (by omega)];rfl
 have gy:l2[2*o+1]? =some (l2.getD (2*o+1) 0):=by rw[List.getD_eq_getElem?_getD,List.getElem?_eq_getElem (by omega)];rfl
 have bx:=sm1.at (2*o);have by':=sm2.at (2*o+1);walk_at"g";refine zAZ (SqL.of (tw4.sm _ _ hp0)) (zAM (pix hst)) ?_;walk_at"g";refine zAZ (SqL.of gl1) (zAM (by rw[List.getElem?_map,gx];rfl)) ?_;walk_at"g";refine zAZ (SqL.of (tw4.sm _ _ hp0)) (zAM (pix hen)) ?_;walk_at"g"
 first|rw[e2]|skip
 refine zAZ (SqL.of gl2) (zAM (by rw[List.getElem?_map,gy];rfl)) ?_;refine zAi (zAf bx.1 bx.2 zC4) (zAf by'.1 by'.2 zC4) ?_;walk_at"g";refine zAi (zAf (Int.mul_nonneg bx.1 by'.1) (Int.le_trans (Int.mul_le_mul bx.2 by'.2 by'.1 (by decide)) (by decide:top30*top30<=4*(top30*top30))) zFN) (zAf br.1 br.2 zHI) ?_;have hw:l1.getD (2*o) 0*l2.getD (2*o+1) 0*rst (PP ps) kk ps.length st en=PP ps st (2*o)*PP ps en (2*o+1)*rst (PP ps) kk ps.length st en:=by rw[e1,e3]
 generalize l1.getD (2*o) 0*l2.getD (2*o+1) 0*rst (PP ps) kk ps.length st en=w at hw⊢;walk_at"g";refine zAZ (SqL.of tw4.top) (zAM (tw4.at hst)) ?_;walk_at"g";refine zFK (SqL.of (tw4.row st hst)) (zF6 (j:=2*o) (by omega)) ?_;walk_at"g"
 first|refine zHU ?_ |skip
 refine zBk (tw4.row st hst) (j:=2*o) (by rw[zII];unfold ixN;rw[if_pos (by omega),if_pos (by omega)];exact congrArg some (Int.toNat_natCast _)) ?_;have tw5:=tw4.set (i:=st) (j:=2*o) (v:=gp (PP ps) kk ps.length m o st (2*o) (st,en)+w) hst;have g5:(upd H4 (ad st) (.lst ((rw2 (2*kk) (λb=>gp (PP ps) kk ps.length m o st b (st,en))).set (2*o) (.int (gp (PP ps) kk ps.length m o st (2*o) (st,en)+w))))) F0=some (.lst vs'):=by rw[zAI (nFa st hst)];exact g4
 have fp5:=fp4.lst (o:= .lst ((rw2 (2*kk) (λb=>gp (PP ps) kk ps.length m o st b (st,en))).set (2*o) (.int (gp (PP ps) kk ps.length m o st (2*o) (st,en)+w)))) (tw4.row st hst);generalize upd H4 (ad st) _=H5 at*
 walk_at"g";refine zAZ (SqL.of tw5.top) (zAM (tw5.at hen)) ?_;walk_at"g"
 first|rw[e2]|skip
 refine zFK (SqL.of (tw5.row en hen)) (zF6 (j:=2*o+1) (by omega)) ?_;walk_at"g"
 first|refine zHU ?_ |skip
 refine zBk (tw5.row en hen) (j:=2*o+1) (by rw[zII];unfold ixN;rw[if_pos (by omega),if_pos (by omega)];exact congrArg some (Int.toNat_natCast _)) ?_;have tw6:=tw5.set (i:=en) (j:=2*o+1) (v:=(if en=st/\2*o+1=2*o then gp (PP ps) kk ps.length m o st (2*o) (st,en)+w else gp (PP ps) kk ps.length m o en (2*o+1) (st,en))+w) hen;have g6:=zAI (H:=H5) (o:= .lst ((rw2 (2*kk) (λb=>if en=st/\b=2*o then gp (PP ps) kk ps.length m o st (2*o) (st,en)+w else gp (PP ps) kk ps.length m o en b (st,en))).set (2*o+1) (.int ((if en=st/\2*o+1=2*o then gp (PP ps) kk ps.length m o st (2*o) (st,en)+w else gp (PP ps) kk ps.length m o en (2*o+1) (st,en))+w)))) (nFa en hen);have fp6:=fp5.lst (o:= .lst ((rw2 (2*kk) (λb=>if en=st/\b=2*o then gp (PP ps) kk ps.length m o st (2*o) (st,en)+w else gp (PP ps) kk ps.length m o en b (st,en))).set (2*o+1) (.int ((if en=st/\2*o+1=2*o then gp (PP ps) kk ps.length m o st (2*o) (st,en)+w else gp (PP ps) kk ps.length m o en (2*o+1) (st,en))+w)))) (tw5.row en hen);rw[g5]at g6;exact⟨_,_,rfl,tw6.congr λi j _ _=>zLs w hw,g6,fp6⟩
theorem zDY:FnScope ["k","weights"] ["k","weights"] (defScope zA9):=scM
theorem zDb(F:Fun K "check_weights" "check_weights" zA9 f fd)(T:Txt K mg aK cs)(U_is_whole:FnU P w K mg base k "is_whole" ["thing"] (spWhole K)):FnOk P w K mg base (CXE P w) (k+1) f fd ["k","weights"] (spCheckW K cs):=by
 refine F.okE zDY (λvs H Q E h=>?_) (λcdv A outer s H vs Q E hr h=>?_)
 ·obtain⟨k,v,rfl,_⟩:=h;rfl
 obtain⟨kk,v,rfl,k1,k4,h⟩:=h;have hu:=hr.units0;have comp:∀ {G:Hp} {q:Addr} {xs:List V} {Q':VK},Same H G->G q=some (.lst xs)->xs.length<=1000->(∀x∈xs,Pln K G x)->(∀D H',Same G H'->H' D=some (.lst (xs.map λx=>V.bl (gd x)))->Q' (.ref D) H')->
  CompW (Itl K q) ["weight"] [] [some (.int kk),some (.ref q)] (gName 0) tYes (tAndV (tCall (spWhole K) [] E0 (tCons (tVar 0) tNil)) (tOp (rI0 λi j=>V.bl (decide (j<=i))) (tVar 0) (tC (V.int 0)))) Q' G:=by
  intro G q xs Q' sG hq hl hx q';refine zDO (n:=xs.length) (λD i ys H'=>ys=((xs.take i).map λx=>V.bl (gd x))/\SameBut1 D G H') (λD hD=>⟨rfl,SameBut1.of (zAG hD _)⟩) (λD i ys H' hD hi _ ⟨_,sH⟩=>⟨xs,xs[i],SqL.of (sH _ _ hq (zAH hq hD)),by simp[hi]⟩) (λD ys H' hD hD' hll ⟨e,sH⟩=>⟨⟨xs,SqL.of (sH _ _ hq (zAH hq hD)),Nat.le_refl _⟩,?_⟩) ?_
  ·rw[List.take_length]at e;subst e;exact q' D H' (λb o z=>sH b o z (zAH z hD)) hD'
  ·rintro D i ys H' x H3 hD hi hD' hll ⟨e,sH⟩ ⟨rfl,ex⟩;have ex':xs[i]? =some x:=ex xs (SqL.of (sH _ _ hq (zAH hq hD)));have hxm:=List.mem_of_getElem? ex';show gName 0 x _ _ _;walk_at"g";refine iteT ?_;obtain⟨ty,hT,hp⟩:=hx x hxm;have nD:∀a,x= .ref a->a≠D:=λa z=>by
    subst z;rintro rfl
    cases hT with
    |lst e=>rw[hD]at e;cases e
    |frz e=>rw[hD]at e;cases e
    |tup e=>rw[hD]at e;cases e
    |dK e=>rw[hD]at e;cases e
    |dT e=>rw[hD]at e;cases e
   walk_at"g";refine⟨x,ty,rfl,hT.keep nD sH,hp,?_⟩;walk_at"g"
   by_cases ei:ty="int"
   ·subst ei;obtain⟨i',rfl⟩:=hT.int_of rfl;rw[decide_eq_true rfl];refine iteT ?_;walk_at"g";refine zBr hi (small (by omega)) hD' hll ⟨?_,sH.trans SameBut1.upd⟩;rw[e,List.take_add_one,ex'];simp[gd]
   ·rw[decide_eq_false ei];have hg:gd x=false:=by
     cases x with
     |int i=>cases hT;exact absurd rfl ei
     |_=>rfl
    refine iteF ?_;refine zBr hi (small (by omega)) hD' hll ⟨?_,sH.trans SameBut1.upd⟩;rw[e,List.take_add_one,ex'];simp[hg]
 rcases h with⟨ws,⟨q,rfl,hq,hl,hs⟩,r⟩|⟨hn,r⟩
 ·refine zBd ⟨_,(zAC (zAh (PW.pt (zBO (zAt (zA4 K (zAQ (zBN K) rfl T.n_isinstance PyProof.Rows.boot_isinstance (zAA (pv 1) (zAA (zEr T.n_list PyProof.Rows.boot_list) zAB))))) (zA8 (zAP (zBl K hu) (zAQ (zAV K) rfl T.n_len PySem.boot_len (zAA (pv 1) zAB)) (zAJ zAY zAD (pv 0)) (nomark _))))) (zAE zBs) zAT) (zAE (zAh (zAt (zA4 K (zAQ (zC2 K rfl) rfl T.n_all PyProof.Rows.boot_all (zAA (zBx (own:=["weight"]) (sel:=[]) (zAs (osc:=(defScope zA9)) (N:=["k","weights"]) (by decide +kernel)) rfl (zCU K (pv 1)) (λ_ _ _ _ _=>(zAR (i:=0) (show(["weight"]:List Str).Nodup from by decide +kernel) rfl (Or.inl rfl))) (zBH (by decide)) (λ_ _ _ _ _=>zBF) (λ_ _ _ _ _=>(zDU (zAX U_is_whole hr (zAA (pv 0) zAB)) (zDT (zAd zLh (pv 0) zAD (nomark _)))))) zAB)))) (zAE zBs) zAT))),?_⟩;walk_at"g";refine zCD (b:=true) (TyOf.lst hq) (by with_unfolding_all rfl) ?_;walk_at"g";refine ifq rfl ?_;walk_at"g";refine zBc (.inl (SqL.of hq)) ?_;walk_at"g";refine ifq (by rw[List.length_map];simp[hl]) ?_;walk_at"g";refine⟨q,rfl,⟨_,SqL.of hq⟩,?_⟩;refine comp (Same.refl H) hq (by rw[List.length_map];omega) (λx hx=>by obtain⟨i,_,rfl⟩:=List.mem_map.mp hx;exact⟨"int", .int i,by decide⟩) λD H' s1 hD=>?_;walk_at"g";have hS:SqL K H' D (((ws.map V.int).map gd).map V.bl):=by rw[List.map_map];exact SqL.of hD
  refine zLR hS ?_;have:((ws.map V.int).map gd).all id=true:=by
   rw[List.all_map,List.all_map,List.all_eq_true];intro x hx;exact decide_eq_true (hs x hx).1
  rw[this];walk_at"g";refine ifq rfl ?_;walk_at"g";exact r _ s1
 ·refine⟨_,(zAC (zAh (PW.pt (zBO (zAt (zA4 K (zAQ (zBN K) rfl T.n_isinstance PyProof.Rows.boot_isinstance (zAA (pv 1) (zAA (zEr T.n_list PyProof.Rows.boot_list) zAB))))) (zA8 (zAP (zBl K hu) (zAQ (zAV K) rfl T.n_len PySem.boot_len (zAA (pv 1) zAB)) (zAJ zAY zAD (pv 0)) (nomark _))))) (zAE (zBS T.e_NoWeights T.c_NoWeights hr.hd zCd (zAA (zA0 (l:=[119,101,105,103,104,116,115,32,97,114,101,32,97,32,108,105,115,116,32,111,102,32,111,110,101,32,102,111,114,32,101,97,99,104,32,98,114,97,99,107,101,116,32,111,102,32,116,104,101,32,107,105,110,100,115,32,116,104,101,114,101,32,97,114,101]) (by decide +kernel)) zAB))) zAT) (zAE (zAh (zAt (zA4 K (zAQ (zC2 K rfl) rfl T.n_all PyProof.Rows.boot_all (zAA (zBx (own:=["weight"]) (sel:=[]) (zAs (osc:=(defScope zA9)) (N:=["k","weights"]) (by decide +kernel)) rfl (zCU K (pv 1)) (λ_ _ _ _ _=>(zAR (i:=0) (show(["weight"]:List Str).Nodup from by decide +kernel) rfl (Or.inl rfl))) (zBH (by decide)) (λ_ _ _ _ _=>zBF) (λ_ _ _ _ _=>(zDU (zAX U_is_whole hr (zAA (pv 0) zAB)) (zDT (zAd zLh (pv 0) zAD (nomark _)))))) zAB)))) (zAE (zBS T.e_NoWeights T.c_NoWeights hr.hd zCd (zAA (zA0 (l:=[97,32,119,101,105,103,104,116,32,105,115,32,97,32,119,104,111,108,101,32,110,117,109,98,101,114,32,102,114,111,109,32,48,32,111,110]) (by decide +kernel)) zAB))) zAT))),?_⟩;walk_at"g";rcases hn with⟨ty,hT,hp,hne⟩|⟨q,xs,rfl,hq,hll,hx⟩
  ·have fin:PySem.W.kitOne K (.type ty) (.type "list")=some false:=by
    have:ty="NoneType"\/ty="bool"\/ty="int"\/ty="str"\/ty="list"\/ty="tuple"\/ty="dict":=by simpa[plainTy]using hp
    rcases this with rfl|rfl|rfl|rfl|rfl|rfl|rfl<;>first|exact absurd rfl hne|with_unfolding_all rfl
   refine zCD (b:=false) hT fin ?_;walk_at"g";refine ifp rfl ?_;walk_at"g";refine ifp rfl ?_;walk_at"g";exact⟨small (by decide),λy hy=>r y H (Same.refl H) hy⟩
  ·refine zCD (b:=true) (TyOf.lst hq) (by with_unfolding_all rfl) ?_;walk_at"g";refine ifq rfl ?_;walk_at"g";refine zBc (.inl (SqL.of hq)) ?_;walk_at"g"
   by_cases hl:(xs.length:Int)=2*kk
   ·obtain⟨hP,x,hxm,hg⟩:=hx.resolve_left λz=>z hl;refine ifq (by simp[hl]) ?_;walk_at"g";refine⟨q,rfl,⟨_,SqL.of hq⟩,?_⟩;refine comp (Same.refl H) hq hll hP λD H' s1 hD=>?_;walk_at"g";have hS:SqL K H' D ((xs.map gd).map V.bl):=by rw[List.map_map];exact SqL.of hD
    refine zLR hS ?_;have:(xs.map gd).all id=false:=by
     rw[List.all_map,List.all_eq_false];exact⟨x,hxm,by simp[hg]⟩
    rw[this];walk_at"g";refine ifp rfl ?_;walk_at"g";exact⟨small (by decide),λy hy=>r y H' s1 (s1.free hy)⟩
   ·refine ifp (by simp[hl]) ?_;walk_at"g"
    first|(refine ifp (A:=_) (B:=_) rfl ?_;walk_at"g")|skip
    exact⟨small (by decide),λy hy=>r y H (Same.refl H) hy⟩
theorem zC9:FnScope ["k","row","weights"] ["k","row","weights"] (defScope zBb):=scM
theorem zDE(F:Fun K "checked_places" "checked_places" zBb f fd)(T:Txt K mg aK cs)(U_check_line:FnUE P w K mg base k "check_line" ["k","row"] (spGateE K cs spCheckLine))(U_check_weights:FnUE P w K mg base k "check_weights" ["k","weights"] (spCheckW K cs))(U_weighed_places:FnU P w K mg base k "weighed_places" ["row","weights"] (spWeighed K)):FnOk P w K mg base (CXE P w) (k+1) f fd ["k","row","weights"] (spChk K cs):=by
 refine F.okE zC9 (λvs H Q E h=>?_) (λcdv A outer s H vs Q E hr h=>?_)
 ·obtain⟨kv,v,wv,rfl,_⟩:=h;rfl
 obtain⟨kv,v,wv,rfl,(g|⟨kk,a,rfl,rfl,h1,h2,ha,hn,r⟩)|⟨kk,a,ws,rfl,rfl,h1,h2,ha,hw,q⟩⟩:=h
 ·refine⟨_,(zAC (zAj (zAa U_check_line hr zBq (zAA (pv 0) (zAA (pv 1) zAB)))) (zAC (zAj (zAa U_check_weights hr zBq (zAA (pv 0) (zAA (pv 2) zAB)))) (zAE (zAU (zAX U_weighed_places hr (zAA (pv 1) (zAA (pv 2) zAB))))))),?_⟩;walk_at"g";exact .inr ⟨kv,v,rfl,g.pass (Same.refl H)⟩
 ·refine⟨_,(zAC (zAj (zAa U_check_line hr zBq (zAA (pv 0) (zAA (pv 1) zAB)))) (zAC (zAj (zAa U_check_weights hr zBq (zAA (pv 0) (zAA (pv 2) zAB)))) (zAE (zAU (zAX U_weighed_places hr (zAA (pv 1) (zAA (pv 2) zAB))))))),?_⟩;walk_at"g";refine .inl (zBi h1 h2 ha (λH1 s1=>?_));walk_at"g";exact⟨kk,wv,rfl,h1,h2, .inr ⟨hn.same s1,r.pass s1⟩⟩
 ·refine zBd ⟨_,(zAC (zAj (zAa U_check_line hr zBP (zAA (pv 0) (zAA (pv 1) zAB)))) (zAC (zAj (zAa U_check_weights hr zBP (zAA (pv 0) (zAA (pv 2) zAB)))) (zAE (zAU (zAX U_weighed_places hr (zAA (pv 1) (zAA (pv 2) zAB))))))),?_⟩;walk_at"g";refine .inl (zBi h1 h2 ha (λH1 s1=>?_));walk_at"g";refine⟨kk,wv,rfl,h1,h2, .inl ⟨ws,hw.same s1,λH2 s2=>?_⟩⟩;have s12:=s1.trans s2;obtain⟨p,rfl,hp,hl,hs⟩:=hw;walk_at"g";exact zDl (zAz ha) (SqL.of (s12 _ _ hp)) (by omega) λr H3 hr3 s3 hP=>q r H3 (by cases e:H r with|none=>rfl|some o=>rw[s12 _ _ e]at hr3;cases hr3) (s12.trans s3) hP
theorem zEj:FnScope ["k","row","weights"] ["k","row","weights"] (defScope zCK):=scM
theorem zEt(F:Fun K "weight_sum" "weight_sum" zCK f fd)(T:Txt K mg aK cs)(U_whole_sum:FnU P w K mg base k "whole_sum" ["sums"] (spWholeSum))(U_span_sums:FnU P w K mg base k "span_sums" ["places"] (spSpans))(U_checked_places:FnUE P w K mg base k "checked_places" ["k","row","weights"] (spChk K cs)):FnOk P w K mg base (CXE P w) (k+1) f fd ["k","row","weights"] (spWSum25):=by
 refine F.okE zEj (λvs H Q E h=>?_) (λcdv A outer s H vs Q E hr h=>?_)
 ·obtain⟨k,a,ws,⟨wv,rfl,_⟩,_⟩:=h;rfl
 obtain⟨kk,a,ws,⟨wv,rfl,h1,h2,ha,hw⟩,q⟩:=h;refine zBd ⟨_,(zAE (zAU (zAX U_whole_sum hr (zAA (zAX U_span_sums hr (zAA (zAa U_checked_places hr zBP (zAA (pv 0) (zAA (pv 1) (zAA (pv 2) zAB)))) zAB)) zAB)))),?_⟩;have hl:=zAz ha;walk_at"g";refine⟨.int kk,tx a,wv,rfl, .inr ⟨kk,a,ws,rfl,rfl,h1,h2,ha,hw,λr H2 hr2 s2 hP=>?_⟩⟩;obtain⟨p,rfl,hp,hlw,hs⟩:=hw;walk_at"g";refine zCo (k:=kk.toNat) hP (by rw[List.length_map];exact hl) (by omega) (zAe h1 h2 hlw hs) (λs3 ad H3 tb=>?_);walk_at"g";refine zBU tb ?_;have e:tbl (PP (a.map (plw ws))) kk.toNat 0 (a.map (plw ws)).length=wsm kk.toNat ws a:=by
  unfold tbl wsm;rw[if_pos (Nat.zero_le _),Nat.sub_zero,List.length_map]
 rw[e];exact q H3 (s2.trans tb.sm)
theorem zF0:FnScope ["one","other"] ["one","other"] (defScope zDH):=scM
theorem zGC(F:Fun K "likelier" "likelier" zDH f fd)(T:Txt K mg aK cs):FnOk P w K mg base CX0 (k+1) f fd ["one","other"] (spLikelier):=by
 refine F.ok zF0 (λvs H Q E h=>?_) (λcdv A outer s H vs Q E hr h=>?_)
 ·obtain⟨v1,v2,o1,o2,rfl,_⟩:=h;rfl
 obtain⟨v1,v2,o1,o2,rfl,h1,h2,hd,q⟩:=h;have hu:=hr.units0;refine⟨_,(zAC (zAh (PW.pt (zBO (zAP zCI (pv 0) zAu (nomark _)) (zA8 (zAP zCI (pv 1) zAu (nomark _))))) (zAE (zAU (zCq (zAP zCI (pv 1) zAu (nomark _)) (pv 0) (pv 1)))) zAT) (zAC (zAh (zAP (zAv K hu) (zAO (zAb K) (pv 0) zAD (λ_ _=>rfl)) (zAO (zAb K) (pv 1) zAD (λ_ _=>rfl)) (nomark _)) (zAE (zAU (zCq (zAP (zM4 K hu) (zAO (zAb K) (pv 0) zAD (λ_ _=>rfl)) (zAO (zAb K) (pv 1) zAD (λ_ _=>rfl)) (nomark _)) (pv 0) (pv 1)))) zAT) (zAE (zAU (zCq (zAP zFT (zAO (zAb K) (pv 0) zAD (λ_ _=>rfl)) (zAO (zAb K) (pv 1) zAD (λ_ _=>rfl)) (nomark _)) (pv 0) (pv 1)))))),?_⟩
 match o1,o2,h1,h2,hd,q with
 |none,none,h1,h2,hd,q=>
  cases(show v1= .non from h1)
  cases(show v2= .non from h2)
  walk_at"g";refine ifp rfl ?_
  first|refine ifp rfl ?_ |skip
  walk_at"g";refine ifp rfl ?_;walk_at"g";exact q _ _ (Same.refl H) (.inl ⟨rfl,rfl⟩)
 |none,some (x,m),h1,⟨T2,a2,e2,_,_,g1,g2⟩,hd,q=>
  cases(show v1= .non from h1)
  subst e2;walk_at"g";refine ifp rfl ?_
  first|refine ifp rfl ?_ |skip
  walk_at"g";refine ifq rfl ?_;walk_at"g";exact q _ _ (Same.refl H) (.inr ⟨rfl,rfl⟩)
 |some (w,l),none,⟨T1,a1,e1,_,_,f1,f2⟩,h2,hd,q=>
  cases(show v2= .non from h2)
  subst e1;walk_at"g";refine ifq rfl ?_;walk_at"g";refine ifp rfl ?_
  first|refine ifp rfl ?_ |skip
  walk_at"g";refine ifp rfl ?_;walk_at"g";exact q _ _ (Same.refl H) (.inl ⟨rfl,rfl⟩)
 |some (w,l),some (x,m),⟨T1,a1,e1,_,_,f1,f2⟩,⟨T2,a2,e2,_,_,g1,g2⟩,hd,q=>
  subst e1 e2;obtain⟨hlen,hne⟩:=hd w l x m rfl rfl;have q:∀v H',Same H H'->((v= .ref T1/\(if w=x then(if l<m then some (w,l)else some (x,m))else if w>x then some (w,l)else some (x,m))=some (w,l))\/(v= .ref T2/\(if w=x then(if l<m then some (w,l)else some (x,m))else if w>x then some (w,l)else some (x,m))=some (x,m)))->Q v H':=q;walk_at"g";refine ifq rfl ?_;walk_at"g";refine ifq rfl ?_
  first|refine ifq rfl ?_ |skip
  walk_at"g";refine zBD (SqT.of f1) (v:= .int w) rfl ?_;walk_at"g";refine zBD (SqT.of g1) (v:= .int x) rfl ?_;walk_at"g";refine ifd (λh3=>?_) (λh3=>?_)
  ·walk_at"g";refine zBD (SqT.of f1) (v:= .ref a1) rfl ?_;walk_at"g";refine zBD (SqT.of g1) (v:= .ref a2) rfl ?_;refine⟨a1,a2,l,m,rfl,rfl,SqL.of f2,SqL.of g2,hlen,hne,?_⟩;walk_at"g";rw[if_pos h3]at q;refine ifd (λh4=>?_) (λh4=>?_)
   ·walk_at"g";exact q _ _ (Same.refl H) (.inl ⟨rfl,if_pos h4⟩)
   ·walk_at"g";exact q _ _ (Same.refl H) (.inr ⟨rfl,if_neg h4⟩)
  ·walk_at"g";refine zBD (SqT.of f1) (v:= .int w) rfl ?_;walk_at"g";refine zBD (SqT.of g1) (v:= .int x) rfl ?_;walk_at"g";rw[if_neg h3]at q;refine ifd (λh4=>?_) (λh4=>?_)
   ·walk_at"g";exact q _ _ (Same.refl H) (.inl ⟨rfl,if_pos h4⟩)
   ·walk_at"g";exact q _ _ (Same.refl H) (.inr ⟨rfl,if_neg h4⟩)
theorem sc_likeliest_pair:FnScope ["first","last","best","opening","weight"] ["first","last"] (defScope zBY):=scM
theorem zDB(F:Fun K "likeliest_pair" "likeliest_pair" zBY f fd)(T:Txt K mg aK cs)(U_likelier:FnU P w K mg base k "likelier" ["one","other"] (spLikelier)):FnOk P w K mg base CX0 (k+1) f fd ["first","last"] (spLPair):=by
 refine F.ok sc_likeliest_pair (λvs H Q E h=>?_) (λcdv A outer s H vs Q E hr h=>?_)
 ·obtain⟨p1,p2,x,y,k,rfl,_⟩:=h;rfl
 obtain⟨p1,p2,x,y,kk,rfl,h1,h2,lx,ly,hk,sx,sy,q⟩:=h;have hu:=hr.units0;refine⟨_,(zAC (zAN (i:=2) sc_likeliest_pair.nd rfl (Or.inl rfl) zAu) (zAC (zAn PassesOwn.never rfl (zAg rfl T.n_range (zAA zAD (zAA (zAQ (zAV K) rfl T.n_len PySem.boot_len (zAA (pv 0) zAB)) (zAA zAD zAB)))) (zAR (i:=3) sc_likeliest_pair.nd rfl (Or.inl rfl)) (zAC (zAN (i:=4) sc_likeliest_pair.nd rfl (Or.inl rfl) (zAJ zAS (zAO (zAb K) (pv 0) (pv 3) (λ_ _=>rfl)) (zAO (zAb K) (pv 1) (zAJ zAL (pv 3) zAD) (λ_ _=>rfl)))) (zAE (zAh (zAP zFT (pv 4) zAD (nomark _)) (zAE (zAN (i:=2) sc_likeliest_pair.nd rfl (Or.inl rfl) (zAX U_likelier hr (zAA (pv 2) (zAA (zAc (zAA (pv 4) (zAA (zAq (zAA (pv 3) (zAA (zAJ zAL (pv 3) zAD) zAB))) zAB))) zAB))))) zAT)))) (zAE (zAU (pv 2))))),?_⟩;walk_at"g";refine zBc (.inl (SqL.of h1)) ?_;rw[List.length_map,lx];walk_at"g";refine⟨0,_,2,rfl,⟨by decide,by decide,zAm (by omega) (by omega) (by omega) (by omega)⟩,?_⟩;have er:rN 0 ((2*kk:Nat):Int) 2=kk:=by rw[zBV];omega
 rw[er];refine zAx (λt σ H'=>∃ (v:V) (o:O) (o3 o4:Option V),σ=[some (.ref p1),some (.ref p2),some v,o3,o4]/\Same H H'/\Bt (λb=>H b=none) H' v o/\Best (Pk t) (λl=>x.getD (l.getD 0 0) 0*y.getD (l.getD 1 0) 0) o) ⟨.non,none,_,_,rfl,Same.refl H,rfl,λl hl=>by obtain⟨p,hp,_⟩:=hl;omega⟩ ?_ ?_
 rotate_left
 ·rintro σ H1 ⟨v,o,o3,o4,rfl,s1,b1,c1⟩;walk_at"g";exact q v o H1 s1 b1 c1
 rintro t σ H1 ht ⟨v,o,o3,o4,rfl,s1,b1,c1⟩;have e0:(0:Int)+(t:Int)*2=((2*t:Nat):Int):=by omega
 have e1:((2*t:Nat):Int)+1=((2*t+1:Nat):Int):=by omega
 rw[e0];walk_at"g";have gx:x[2*t]? =some (x.getD (2*t) 0):=by rw[List.getD_eq_getElem?_getD,List.getElem?_eq_getElem (by omega)];rfl
 have gy:y[2*t+1]? =some (y.getD (2*t+1) 0):=by rw[List.getD_eq_getElem?_getD,List.getElem?_eq_getElem (by omega)];rfl
 refine zAZ (SqL.of (s1 _ _ h1)) (zAM (by rw[List.getElem?_map,gx];rfl)) ?_;walk_at"g"
 first|rw[e1]|skip
 refine zAZ (SqL.of (s1 _ _ h2)) (zAM (by rw[List.getElem?_map,gy];rfl)) ?_;have bx:=sx.at (2*t);have by':=sy.at (2*t+1);refine zAi (zAf bx.1 bx.2 zC4) (zAf by'.1 by'.2 zC4) ?_;have hw:(λl:List Nat=>x.getD (l.getD 0 0) 0*y.getD (l.getD 1 0) 0) [2*t,2*t+1]=x.getD (2*t) 0*y.getD (2*t+1) 0:=rfl;generalize x.getD (2*t) 0*y.getD (2*t+1) 0=wt at hw⊢;have un:∀o',Best (λl=>l=[2*t,2*t+1]) (λl=>x.getD (l.getD 0 0) 0*y.getD (l.getD 1 0) 0) o'->Best (Pk (t+1)) (λl=>x.getD (l.getD 0 0) 0*y.getD (l.getD 1 0) 0) (lik o o'):=λo' ho=>(Best.un c1 ho).iff λl=>by
  constructor
  ·rintro(⟨p,hp,e⟩|e)
   ·exact⟨p,by omega,e⟩
   ·exact⟨t,by omega,e⟩
  ·rintro⟨p,hp,e⟩
   by_cases z:p=t
   ·subst z;exact .inr e
   ·exact .inl ⟨p,by omega,e⟩
 walk_at"g";refine ifd (λh3=>?_) (λh3=>?_)
 ·have h3:0<wt:=h3;walk_at"g";rw[e1];refine⟨small (show 2<=1000 by decide),λa ha=>?_⟩;have t1:=zAG ha (.lst [.int ((2*t:Nat):Int), .int ((2*t+1:Nat):Int)]);have k1:(upd H1 a (.lst [.int ((2*t:Nat):Int), .int ((2*t+1:Nat):Int)])) a=_:=zAF;generalize upd H1 a _=H2 at*
  walk_at"g";refine⟨small (show 2<=1000 by decide),λT hT=>?_⟩;have t2:=zAG hT (.tup [.int wt, .ref a]);have k2:(upd H2 T (.tup [.int wt, .ref a])) T=_:=zAF;have k12:=t2 _ _ k1;have s3:=t1.trans t2;have fT:H1 T=none:=t1.free hT;generalize upd H2 T _=H3 at*
  refine⟨v, .ref T,o,some (wt,[2*t,2*t+1]),rfl,(b1.same s3).imp (λ_ _ _ _=>trivial),⟨T,a,rfl,trivial,trivial,k2,k12⟩,?_,λv' H4 s4 hv=>?_⟩
  ·rintro w l x' m rfl e
   cases e
   obtain⟨p,hp,rfl⟩:=c1.1;exact⟨rfl,λz=>by have:=(List.cons.inj z).1;omega⟩
  have B:Best (λl=>l=[2*t,2*t+1]) (λl=>x.getD (l.getD 0 0) 0*y.getD (l.getD 1 0) 0) (some (wt,[2*t,2*t+1])):=⟨rfl,hw,h3,λm hm=>by rw[hm];exact .inr ⟨hw,List.lt_irrefl _⟩⟩;have:=un _ B;refine⟨v',_,_,_,rfl,(s1.trans s3).trans s4,?_,this⟩;rcases hv with⟨rfl,e⟩|⟨rfl,e⟩
  ·rw[e];exact b1.same (s3.trans s4)
  ·rw[e];exact⟨T,a,rfl,s1.free fT,s1.free ha,s4 _ _ k2,s4 _ _ k12⟩
 ·walk_at"g";have e:lik o none=o:=by cases o<;>rfl
  have:=un none (λl hl=>by rw[hl,hw];omega);rw[e]at this;exact⟨v,o,_,_,rfl,s1,b1,this⟩
theorem sc_round_about:FnScope ["pair","within","opening","closing"] ["pair","within"] (defScope zB6):=scM
theorem zEG(F:Fun K "round_about" "round_about" zB6 f fd)(T:Txt K mg aK cs):FnOk P w K mg base CX0 (k+1) f fd ["pair","within"] (spRound):=by
 refine F.ok sc_round_about (λvs H Q E h=>?_) (λcdv A outer s H vs Q E hr h=>?_)
 ·obtain⟨v1,v2,o1,o2,rfl,_⟩:=h;rfl
 obtain⟨v1,v2,o1,o2,rfl,h1,h2,h22,z1,z2,q⟩:=h;have hu:=hr.units0;refine⟨_,(zAC (zAh (PW.pt (zBO (zAP zCI (pv 0) zAu (nomark _)) (zA8 (zAP zCI (pv 1) zAu (nomark _))))) (zAE (zAU zAu)) zAT) (zAC (zCF (zAO (zAb K) (pv 0) zAD (λ_ _=>rfl)) (zLb (n:=2) K rfl (zBf (zAR (i:=2) sc_round_about.nd rfl (Or.inl rfl)) (zBf (zAR (i:=3) sc_round_about.nd rfl (Or.inl rfl)) zEq)))) (zAE (zAU (zAc (zAA (zAJ zAS (zAO (zAb K) (pv 0) zAD (λ_ _=>rfl)) (zAO (zAb K) (pv 1) zAD (λ_ _=>rfl))) (zAA (zAJ zAL (zAJ zAL (zAq (zAA (pv 2) zAB)) (zAO (zAb K) (pv 1) zAD (λ_ _=>rfl))) (zAq (zAA (pv 3) zAB))) zAB))))))),?_⟩
 match o1,o2,h1,h2,h22,z1,z2,q with
 |none,o2,h1,h2,h22,z1,z2,q=>
  cases(show v1= .non from h1)
  walk_at"g";refine ifp rfl ?_
  first|refine ifp rfl ?_ |skip
  walk_at"g";exact q _ _ (Same.refl H) rfl
 |some (w,l),none,⟨T1,a1,e1,_,_,f1,f2⟩,h2,h22,z1,z2,q=>
  cases(show v2= .non from h2)
  subst e1;walk_at"g";refine ifq rfl ?_;walk_at"g";refine ifp rfl ?_
  first|refine ifp rfl ?_ |skip
  walk_at"g";exact q _ _ (Same.refl H) rfl
 |some (w,l),some (x,m),⟨T1,a1,e1,_,_,f1,f2⟩,⟨T2,a2,e2,_,_,g1,g2⟩,h22,z1,z2,q=>
  subst e1 e2;obtain⟨b1,l1⟩:=z1 w l rfl;obtain⟨b2,l2⟩:=z2 x m rfl;obtain⟨c1,c2,rfl⟩:∃c1 c2,l=[c1,c2]:=by
   match l,h22 w l rfl with
   |[c1,c2],_=>exact⟨c1,c2,rfl⟩
  walk_at"g";refine ifq rfl ?_;walk_at"g";refine ifq rfl ?_
  first|refine ifq rfl ?_ |skip
  walk_at"g";refine zBD (SqT.of f1) (v:= .ref a1) rfl ?_;refine⟨a1,[.int (c1:Int), .int (c2:Int)],rfl,SqL.of f2,rfl,?_⟩;walk_at"g";refine zBD (SqT.of f1) (v:= .int w) rfl ?_;walk_at"g";refine zBD (SqT.of g1) (v:= .int x) rfl ?_;refine zAi b1 b2 ?_;walk_at"g";refine⟨small (show 1<=1000 by decide),λd1 hd1=>?_⟩;have t1:=zAG hd1 (.lst [.int (c1:Int)]);have k1:(upd H d1 (.lst [.int (c1:Int)])) d1=_:=zAF;generalize upd H d1 _=H1 at*
  walk_at"g";refine zBD (SqT.of (t1 _ _ g1)) (v:= .ref a2) rfl ?_;refine zEP k1 (t1 _ _ g2) (small (by rw[List.length_map];simp;omega)) (λd2 hd2=>?_);have t2:=zAG hd2 (.lst ([.int (c1:Int)]++nL m));have k2:(upd H1 d2 (.lst ([.int (c1:Int)]++nL m))) d2=_:=zAF;generalize upd H1 d2 _=H2 at*
  walk_at"g";refine⟨small (show 1<=1000 by decide),λd3 hd3=>?_⟩;have t3:=zAG hd3 (.lst [.int (c2:Int)]);have k3:(upd H2 d3 (.lst [.int (c2:Int)])) d3=_:=zAF;generalize upd H2 d3 _=H3 at*
  refine zEP (t3 _ _ k2) k3 (small (by simp;omega)) (λd4 hd4=>?_);have t4:=zAG hd4 (.lst (([.int (c1:Int)]++nL m)++[.int (c2:Int)]));have k4:(upd H3 d4 (.lst (([.int (c1:Int)]++nL m)++[.int (c2:Int)]))) d4=_:=zAF;generalize upd H3 d4 _=H4 at*
  walk_at"g";have t34:=(t1.trans t2).trans (t3.trans t4);refine⟨small (show 2<=1000 by decide),λT hT=>?_⟩;have t5:=zAG hT (.tup [.int (w*x), .ref d4]);refine q _ _ (t34.trans t5) ⟨T,d4,rfl,t34.free hT,((t1.trans t2).trans t3).free hd4,zAF,?_⟩;rw[t5 _ _ k4];show some (HO.lst _)=some (HO.lst (nL ([c1]++m++[c2])));simp[nL]
theorem zB2:FnScope ["first","second"] ["first","second"] (defScope zA7):=scM
theorem zB3(F:Fun K "one_behind_the_other" "one_behind_the_other" zA7 f fd)(T:Txt K mg aK cs):FnOk P w K mg base CX0 (k+1) f fd ["first","second"] (spBehindO):=by
 refine F.ok zB2 (λvs H Q E h=>?_) (λcdv A outer s H vs Q E hr h=>?_)
 ·obtain⟨v1,v2,o1,o2,rfl,_⟩:=h;rfl
 obtain⟨v1,v2,o1,o2,rfl,h1,h2,z1,z2,q⟩:=h;have hu:=hr.units0;refine⟨_,(zAC (zAh (PW.pt (zBO (zAP zCI (pv 0) zAu (nomark _)) (zA8 (zAP zCI (pv 1) zAu (nomark _))))) (zAE (zAU zAu)) zAT) (zAE (zAU (zAc (zAA (zAJ zAS (zAO (zAb K) (pv 0) zAD (λ_ _=>rfl)) (zAO (zAb K) (pv 1) zAD (λ_ _=>rfl))) (zAA (zAJ zAL (zAO (zAb K) (pv 0) zAD (λ_ _=>rfl)) (zAO (zAb K) (pv 1) zAD (λ_ _=>rfl))) zAB)))))),?_⟩
 match o1,o2,h1,h2,z1,z2,q with
 |none,o2,h1,h2,z1,z2,q=>
  cases(show v1= .non from h1)
  walk_at"g";refine ifp rfl ?_
  first|refine ifp rfl ?_ |skip
  walk_at"g";exact q _ _ (Same.refl H) rfl
 |some (w,l),none,⟨T1,a1,e1,_,_,f1,f2⟩,h2,z1,z2,q=>
  cases(show v2= .non from h2)
  subst e1;walk_at"g";refine ifq rfl ?_;walk_at"g";refine ifp rfl ?_
  first|refine ifp rfl ?_ |skip
  walk_at"g";exact q _ _ (Same.refl H) rfl
 |some (w,l),some (x,m),⟨T1,a1,e1,_,_,f1,f2⟩,⟨T2,a2,e2,_,_,g1,g2⟩,z1,z2,q=>
  subst e1 e2;obtain⟨b1,l1⟩:=z1 w l rfl;obtain⟨b2,l2⟩:=z2 x m rfl;walk_at"g";refine ifq rfl ?_;walk_at"g";refine ifq rfl ?_
  first|refine ifq rfl ?_ |skip
  walk_at"g";refine zBD (SqT.of f1) (v:= .int w) rfl ?_;walk_at"g";refine zBD (SqT.of g1) (v:= .int x) rfl ?_;refine zAi b1 b2 ?_;walk_at"g";refine zBD (SqT.of f1) (v:= .ref a1) rfl ?_;walk_at"g";refine zBD (SqT.of g1) (v:= .ref a2) rfl ?_;refine zEP f2 g2 (small (by rw[List.length_map,List.length_map];omega)) (λc hc=>?_);have t1:=zAG hc (.lst (nL l++nL m));walk_at"g";refine⟨small (show 2<=1000 by decide),λT hT=>?_⟩;have t2:=zAG hT (.tup [.int (w*x), .ref c]);refine q _ _ (t1.trans t2) ⟨T,c,rfl,t1.free hT,hc,zAF,?_⟩;rw[t2 _ _ zAF,<-List.map_append]
theorem sc_likeliest_spans:FnScope ["places","many","best","start","end","part","stop","found"] ["places"] (defScope zBB):=scM
theorem zCs(F:Fun K "likeliest_spans" "likeliest_spans" zBB f fd)(T:Txt K mg aK cs)(U_round_about:FnU P w K mg base k "round_about" ["pair","within"] (spRound))(U_likeliest_pair:FnU P w K mg base k "likeliest_pair" ["first","last"] (spLPair))(U_one_behind_the_other:FnU P w K mg base k "one_behind_the_other" ["first","second"] (spBehindO))(U_likelier:FnU P w K mg base k "likelier" ["one","other"] (spLikelier)):FnOk P w K mg base CX0 (k+1) f fd ["places"] (spSpansL):=by
 refine F.ok sc_likeliest_spans (λvs H Q E h=>?_) (λcdv A outer s H vs Q E hr h=>?_)
 ·obtain⟨p,ps,kk,rfl,_⟩:=h;rfl
 obtain⟨p,ps,kk,rfl,hP,hn,hk,hl,q⟩:=h;have hu:=hr.units0;have hsm:∀l∈ps,Sm l:=λl z=>(hl l z).2;have hPP:∀i b,0<=PP ps i b:=λi b=>(zAW hsm i b).1;obtain⟨pa,hp0,hpa⟩:=id hP;refine⟨_,(zAC (zAN (i:=1) sc_likeliest_spans.nd rfl (Or.inr rfl) (zAQ (zAV K) rfl T.n_len PySem.boot_len (zAA (pv 0) zAB))) (zAC (zCT (i:=2) sc_likeliest_spans.nd rfl (Or.inl rfl) (own:=["start"]) (sel:=[1]) (zAs (osc:=(defScope zBB)) (N:=["places","many","best","start","end","part","stop","found"]) (by decide +kernel)) rfl (zAk rfl T.n_range (zAA (zAJ zAL (pv 1) zAD) zAB)) (λ_ _ _ _ _=>(zAR (i:=0) (show(["start","many"]:List Str).Nodup from by decide +kernel) rfl (Or.inl rfl))) (zBH (by decide)) (λ_ _ _ _ _=>zBF) (λ_ _ _ _ _=>(zAJ zAY (zAq (zAA zAu zAB)) (zAJ zAL (pv 1) zAD)))) (zAC (zAn PassesOwn.never rfl (zAg rfl T.n_range (zAA (pv 1) (zAA (zFP zDP zAD) (zAA (zFP zDP zAD) zAB)))) (zAR (i:=3) sc_likeliest_spans.nd rfl (Or.inl rfl)) (zAC (zCF (zAc (zAA zAD (zAA (zAq zAB) zAB))) (zCb (zAO (zAb K) (pv 2) (pv 3) (λ_ _=>rfl)) (pv 3) zA1)) (zAE (zAn PassesOwn.never rfl (zAg rfl T.n_range (zAA (zAJ zAL (pv 3) zAD) (zAA (pv 1) (zAA zAD zAB)))) (zAR (i:=4) sc_likeliest_spans.nd rfl (Or.inl rfl)) (zAC (zAN (i:=5) sc_likeliest_spans.nd rfl (Or.inl rfl) (zAX U_round_about hr (zAA (zAX U_likeliest_pair hr (zAA (zAO (zAb K) (pv 0) (pv 3) (λ_ _=>rfl)) (zAA (zAO (zAb K) (pv 0) (pv 4) (λ_ _=>rfl)) zAB))) (zAA (zAO (zAb K) (zAO (zAb K) (pv 2) (zAJ zAL (pv 3) zAD) (λ_ _=>rfl)) (pv 4) (λ_ _=>rfl)) zAB)))) (zAE (zAn PassesOwn.never rfl (zAg rfl T.n_range (zAA (zAJ zAL (pv 4) zAD) (zAA (zAJ zAL (pv 1) zAD) (zAA zAD zAB)))) (zAR (i:=6) sc_likeliest_spans.nd rfl (Or.inl rfl)) (zAC (zAN (i:=7) sc_likeliest_spans.nd rfl (Or.inl rfl) (zAX U_one_behind_the_other hr (zAA (pv 5) (zAA (zAO (zAb K) (zAO (zAb K) (pv 2) (zAJ zAL (pv 4) zAD) (λ_ _=>rfl)) (pv 6) (λ_ _=>rfl)) zAB)))) (zAE (zCF (zAX U_likelier hr (zAA (zAO (zAb K) (zAO (zAb K) (pv 2) (pv 3) (λ_ _=>rfl)) (pv 6) (λ_ _=>rfl)) (zAA (pv 7) zAB))) (zCb (zAO (zAb K) (pv 2) (pv 3) (λ_ _=>rfl)) (pv 6) zA1))))))))))) (zAE (zAU (pv 2)))))),?_⟩;walk_at"g";refine zBc (.inl (SqL.of hp0)) ?_;have en:((((List.range ps.length).map λi=>V.ref (pa i)).length:Nat):Int)=(ps.length:Int):=by rw[List.length_map,List.length_range]
 rw[en];generalize hN:ps.length=n at*
 walk_at"g";refine⟨_,rfl,by omega,by omega,?_⟩;have en:((n:Int)+1).toNat=n+1:=by omega
 rw[en];refine zHs (small (by omega)) (λD i ys H'=>∃ad:Nat->Addr,ys=(List.range i).map (λj=>V.ref (ad j))/\(∀j,j<i->H' (ad j)=some (.lst (rwv n λ_=> .non))/\H (ad j)=none/\ad j≠D)/\∀j j',j<i->j'<i->ad j=ad j'->j=j')
  (λD _=>⟨λ_=>D,rfl,λj hj=>absurd hj (by omega),λj _ hj=>absurd hj (by omega)⟩) (λD i ys H1 H2 _ ⟨ad,e,h1,h2⟩ s12=>⟨ad,e,λj hj=>⟨s12 _ _ (h1 j hj).1 (h1 j hj).2.2,(h1 j hj).2⟩,h2⟩)
  (λs' ys H1 hD hy _ sH ⟨ad,e,h1,h2⟩=>?_) ?_
 rotate_left
 ·rintro D i ys H' R hD hi hy hl sH ⟨ad,e,h1,h2⟩ r;walk_at"g";refine⟨small (show 1<=1000 by decide),λz hz=>?_⟩;walk_at"g";refine zF4 (xs:=[.non]) zAF (by omega) (by omega) (small (by rw[List.length_singleton,en];omega)) (λp hp=>?_);have hpz:p≠z:=λw=>by rw[w,zAF]at hp;cases hp
  have hp':H' p=none:=by rw[zAI hpz]at hp;exact hp
  have hpD:p≠D:=λw=>by rw[w,hy]at hp';cases hp'
  have sp:Same H' (upd (upd H' z (.lst [.non])) p (.lst (List.replicate ((n:Int)+1).toNat [V.non]).flatten)):=(zAG hz _).trans (zAG hp _);refine r _ _ sp ⟨λj=>if j=i then p else ad j,?_,?_,?_⟩
  ·subst e;rw[List.range_succ,List.map_append];congr 1
   ·refine List.map_congr_left λj hj=>?_;have:=List.mem_range.mp hj;show V.ref (ad j)=V.ref (if j=i then p else ad j);rw[if_neg (by omega)]
   ·simp
  ·intro j hj
   by_cases ej:j=i
   ·subst ej;simp only[if_true];refine⟨?_,?_,hpD⟩
    ·rw[zAF,en];congr 2;unfold rwv;have:∀m:Nat,(List.replicate m [V.non]).flatten=(List.range m).map λ_=>V.non:=by
      intro m
      induction m with
      |zero=>rfl
      |succ m ih=>rw[List.replicate_succ',List.flatten_append,ih,List.range_succ,List.map_append];rfl
     exact this (n+1)
    ·exact sH.free hp'
   ·simp only[if_neg ej];obtain⟨a1,a2,a3⟩:=h1 j (by omega);exact⟨sp _ _ a1,a2,a3⟩
  ·intro j j' hj hj' he
   by_cases ej:j=i<;>by_cases ej':j'=i
   ·omega
   ·simp only[if_pos ej,if_neg ej']at he;have:=(h1 j' (by omega)).1;rw[<-he,hp']at this;cases this
   ·simp only[if_neg ej,if_pos ej']at he;have:=(h1 j (by omega)).1;rw[he,hp']at this;cases this
   ·simp only[if_neg ej,if_neg ej']at he;exact h2 j j' (by omega) (by omega) he
 subst e;have tb1:Tv H H1 H1 s' ad n (λ_ _=> .non):=⟨hD,λi hi=>(h1 i (by omega)).2.1,λi hi=>(h1 i (by omega)).2.2,λi j hi hj=>h2 i j (by omega) (by omega),λi hi=>by rw[(h1 i (by omega)).1];simp,hy,λi hi=>(h1 i (by omega)).1,sH,λb z=>z⟩;clear h1 h2 hy hD;walk_at"g";refine⟨n,-1,-1,rfl,⟨by decide,by decide,zEO (.inl rfl) (by omega) (by omega) (by decide) (by decide)⟩,?_⟩;have er:rN (n:Int) (-1) (-1)=n+1:=by rw[zIL];omega
 rw[er];have place:∀ {H':Hp} {i:Nat},Same H H'->i<n->∃l,H' (pa i)=some (iL l)/\l.length=2*kk/\Sm l/\∀b,PP ps i b=l.getD b 0:=by
  intro H' i sH hi;have e:ps[i]? =some ps[i]:=List.getElem?_eq_getElem (by omega);have eg:ps.getD i []=ps[i]:=by rw[List.getD_eq_getElem?_getD,e];rfl
  refine⟨ps[i],?_,(hl _ (List.getElem_mem _)).1,(hl _ (List.getElem_mem _)).2,λb=>by show(ps.getD i []).getD b 0=_;rw[eg]⟩;have:=sH _ _ (hpa i (by omega));rw[eg]at this;exact this
 have pix:∀ {i:Nat},i<n->((List.range n).map λi=>V.ref (pa i))[i]? =some (.ref (pa i)):=fun{i} hi=>by rw[List.getElem?_map,List.getElem?_range hi];rfl
 obtain⟨Gd,eGd⟩:∃Gd:(Nat->Nat->V)->Hp->Nat->Prop,Gd=λT H' i0=>∀i j,i0<=i->i<=j->j<=n->∃o,Bt (λb=>H1 b=none) H' (T i j) o/\Best (Dn kk i j) (wtl (PP ps) i) o:=⟨_,rfl⟩;refine zAx (λt σ H'=>∃ (T:Nat->Nat->V) (o3 o4 o5 o6 o7:Option V),σ=[some (.ref p),some (.int n),some (.ref s'),o3,o4,o5,o6,o7]/\Tv H H1 H' s' ad n T/\Gd T H' (n+1-t)/\∀i j,i<n+1-t->T i j= .non) ?_ ?_ ?_
 ·exact⟨_,_,_,_,_,_,rfl,tb1,by rw[eGd];intro i j h1 h2 h3;omega,λ_ _ _=>rfl⟩
 rotate_left
 ·rintro σ H' ⟨T,o3,o4,o5,o6,o7,rfl,tb,gd,_⟩;walk_at"g";rw[eGd]at gd;obtain⟨o,b1,b2⟩:=gd 0 n (by omega) (by omega) (Nat.le_refl _);refine q s' (ad 0) ((List.range n).map λi=>V.ref (ad (i+1))) ((List.range n).map (T 0)) (T 0 n) o H' tb.sm ?_ ?_ (b1.imp λ_ _ _ _=>trivial) b2
  ·rw[tb.top,List.range_succ_eq_map,List.map_cons,List.map_map];rfl
  ·rw[tb.row 0 (Nat.zero_le _)];unfold rwv;rw[List.range_succ,List.map_append];rfl
 rintro t σ H2 ht ⟨T,o3,o4,o5,o6,o7,rfl,tb2,gd2,no2⟩;obtain⟨st,est⟩:∃st:Nat,st+t=n:=⟨n-t,by omega⟩;have e1:((n:Int)+(t:Int)* -1)=(st:Int):=by omega
 rw[show n+1-t=st+1 by omega]at gd2 no2;rw[show n+1-(t+1)=st by omega];rw[e1];walk_at"g";refine⟨small (show 0<=1000 by decide),λz hz=>?_⟩;have t3:=zAG hz (.lst []);have k3:(upd H2 z (.lst [])) z=_:=zAF;generalize upd H2 z _=H3 at*
 walk_at"g";refine⟨small (show 2<=1000 by decide),λT1 hT1=>?_⟩;have t4:=zAG hT1 (.tup [.int 1, .ref z]);have k4:(upd H3 T1 (.tup [.int 1, .ref z])) T1=_:=zAF;have k34:=t4 _ _ k3;have fz:H1 z=none:=tb2.gr z hz;have fT1:H1 T1=none:=tb2.gr T1 (t3.free hT1);have tb4:=tb2.same (t3.trans t4);have gd4:Gd T (upd H3 T1 (.tup [.int 1, .ref z])) (st+1):=by
  rw[eGd]at gd2⊢;exact λi j a b c=>let⟨o,x,y⟩:=gd2 i j a b c;⟨o,x.same (t3.trans t4),y⟩
 generalize upd H3 T1 _=H4 at*
 walk_at"g";refine zAZ (SqL.of tb4.top) (zAM (tb4.at (i:=st) (by omega))) ?_;walk_at"g";refine zBk (tb4.row st (by omega)) (j:=st) (by rw[zIH];unfold ixN;rw[if_pos (by omega),if_pos (by omega)];simp) ?_;obtain⟨RO,eRO⟩:∃RO:(Nat->Nat->V)->Hp->(Nat->Nat)->Prop,RO=λT H' f=>∀j,st<=j->j<=n->∃o,Bt (λb=>H1 b=none) H' (T st j) o/\Best (λl=>(j=st/\l=[])\/Sq kk st (f j) j l) (wtl (PP ps) st) o:=⟨_,rfl⟩;have keepG:∀ {T T':Nat->Nat->V} {G G':Hp},(∀i j,st+1<=i->T' i j=T i j)->(∀b x,H1 b=none->G b=some x->G' b=some x)->Gd T G (st+1)->Gd T' G' (st+1):=by
  intro T T' G G' e k g;rw[eGd]at g⊢;intro i j a b c;obtain⟨o,x,y⟩:=g i j a b c;exact⟨o,by rw[e i j a];exact x.keep k,y⟩
 have tb5:=tb4.set (i:=st) (j:=st) (v:= .ref T1) (by omega);have kp5:=λb x f z=>tb4.keep (i:=st) (by omega) (o:= .lst ((rwv n (T st)).set st (.ref T1))) b x f z;have gd5:=keepG (T':=λa b=>if a=st then(if b=st then .ref T1 else T a b)else T a b) (λi j h=>if_neg (by omega)) kp5 gd4;have ro5:RO (λa b=>if a=st then(if b=st then .ref T1 else T a b)else T a b) (upd H4 (ad st) (.lst ((rwv n (T st)).set st (.ref T1)))) (λ_=>0):=by
  rw[eRO];intro j h1 h2
  (try dsimp only)
  by_cases e:j=st
  ·subst e;refine⟨some (1,[]),?_,?_⟩
   ·rw[if_pos rfl,if_pos rfl];exact⟨T1,z,rfl,fT1,fz,kp5 _ _ fT1 k4,kp5 _ _ fz k34⟩
   ·refine(zHN (P:=PP ps) j kk).iff λl=>?_;rw[Dn.nil];exact⟨λh=> .inl ⟨rfl,h⟩,λh=>h.elim (·.2) λw=>absurd w (Sq.zero _ _ _ _)⟩
  ·refine⟨none,?_,λl hl=>?_⟩
   ·rw[if_pos rfl,if_neg e];exact no2 st j (by omega)
   ·rcases hl with⟨w,_⟩|w
    ·exact absurd w e
    ·exact absurd w (Sq.zero _ _ _ _)
 have no5:∀i j,i<st->(λa b=>if a=st then(if b=st then V.ref T1 else T a b)else T a b) i j=V.non:=λi j h=>(if_neg (by omega)).trans (no2 i j (by omega));generalize(λa b=>if a=st then(if b=st then V.ref T1 else T a b)else T a b)=T5 at*
 generalize upd H4 (ad st) _=H5 at*
 clear tb4 gd4 kp5 k4 k34 fz fT1 tb2 gd2 no2 t3 t4 k3 hz hT1;walk_at"g";refine⟨_,_,2,rfl,⟨by decide,by decide,zAm (by omega) (by omega) (by omega) (by omega)⟩,?_⟩;have er2:rN ((st:Int)+1) n 2=(n-st)/2:=by rw[zBV];omega
 rw[er2];refine zAx (λq' σ H'=>∃ (T:Nat->Nat->V) (o4 o5 o6 o7:Option V),σ=[some (.ref p),some (.int n),some (.ref s'),some (.int st),o4,o5,o6,o7]/\Tv H H1 H' s' ad n T/\Gd T H' (st+1)/\RO T H' (λ_=>q')/\∀i j,i<st->T i j= .non) ⟨T5,_,_,_,_,rfl,tb5,gd5,ro5,no5⟩ ?_ ?_
 rotate_left
 ·rintro σ H' ⟨T,o4,o5,o6,o7,rfl,tb,gd,ro,no⟩;walk_at"g";refine⟨T,_,_,_,_,_,rfl,tb,?_,no⟩;rw[eGd]at gd⊢;rw[eRO]at ro;intro i j h1 h2 h3
  by_cases e:i=st
  ·subst e;obtain⟨o,x,y⟩:=ro j h2 h3;refine⟨o,x,y.iff λl=>?_⟩
   by_cases e2:j=i
   ·subst e2;rw[Dn.nil];refine⟨λh=>h.elim (·.2) λw=>?_,λh=> .inl ⟨rfl,h⟩⟩;exact List.eq_nil_of_length_eq_zero (by have:=w.len;omega)
   ·rw[<-Dn.iff (q:=(n-i)/2) (by omega) (by omega)];exact⟨λh=>h.elim (λw=>absurd w.1 e2) id, .inr⟩
  ·exact gd i j (by omega) h2 h3
 clear tb5 gd5 ro5 no5;rintro q' σ H6 hq' ⟨T,o4,o5,o6,o7,rfl,tb6,gd6,ro6,no6⟩;obtain⟨en',hen⟩:∃e:Nat,e=st+1+2*q':=⟨_,rfl⟩;have e2:((st:Int)+1+(q':Int)*2)=(en':Int):=by omega
 have hen2:en'<n:=by omega
 rw[e2];walk_at"g";obtain⟨x,hx,lx,sx,ex⟩:=place tb6.sm (show st<n by omega);obtain⟨y,hy,ly,sy,ey⟩:=place tb6.sm (show en'<n by omega);refine zAZ (SqL.of (tb6.sm _ _ hp0)) (zAM (pix (i:=st) (by omega))) ?_;walk_at"g";refine zAZ (SqL.of (tb6.sm _ _ hp0)) (zAM (pix (i:=en') (by omega))) ?_;walk_at"g";refine⟨pa st,pa en',x,y,kk,rfl,hx,hy,lx,ly,hk,sx,sy,λvp op H7 s7 bp cp=>?_⟩;have cp:Best (Pk kk) (pf (PP ps) st en') op:=cp.cong λl _=>by unfold pf;rw[ex,ey]
 have tb7:=tb6.same s7;have e3:((st:Int)+1)=((st+1:Nat):Int):=by omega
 walk_at"g";rw[e3];refine zAZ (SqL.of tb7.top) (zAM (tb7.at (i:=st+1) (by omega))) ?_;walk_at"g";refine zAZ (SqL.of (tb7.row (st+1) (by omega))) (zAM (zF5 (j:=en') (by omega))) ?_;obtain⟨ob,bb,cb⟩:∃o,Bt (λb=>H1 b=none) H6 (T (st+1) en') o/\Best (Dn kk (st+1) en') (wtl (PP ps) (st+1)) o:=by rw[eGd]at gd6;exact gd6 (st+1) en' (Nat.le_refl _) (by omega) (by omega)
 have szp:Sz op:=λw l e=>by
  subst e;obtain⟨⟨p',hp',rfl⟩,e5,_⟩:=cp;have b1:=zAW hsm st (2*p');have b2:=zAW hsm en' (2*p'+1);have e6:PP ps st (2*p')*PP ps en' (2*p'+1)=w:=e5;rw[<-e6];refine⟨zAf (Int.mul_nonneg b1.1 b2.1) (c:=4*(top30*top30)) ?_ zFN,by show 2<=40;decide⟩;have:=Int.mul_le_mul b1.2 b2.2 b2.1 (show(0:Int)<=top30 by decide);have h0:(0:Int)<=top30*top30:=by decide
  omega
 have szb:Sz ob:=zJL hsm (λl hl=>by have:=hl.2;omega) cb;walk_at"g";refine⟨vp,T (st+1) en',op,ob,rfl,bp.imp (λ_ _ _ _=>trivial),(bb.same s7).imp (λ_ _ _ _=>trivial),λw l e=>by subst e;obtain⟨⟨p',_,rfl⟩,_⟩:=cp;rfl,szp,szb,λvr H8 s8 br=>?_⟩;have br:Bt (λb=>H1 b=none) H8 vr (rnd op ob):=br.imp λb x f _=>tb7.gr b f;have tb8:=tb7.same s8;have gd8:=keepG (λ_ _ _=>rfl) (λb x _ z=>(s7.trans s8) b x z) gd6;have ro8:RO T H8 (λj=>if j<en'+1+2*0 then q'+1 else q'):=by
  rw[eRO]at ro6⊢;intro j h1 h2;obtain⟨o,a,b⟩:=ro6 j h1 h2;refine⟨o,a.same (s7.trans s8),?_⟩
  (try dsimp only at b);(try dsimp only)
  by_cases e:j<en'+1+2*0
  ·rw[if_pos e];exact b.iff λl=>or_congr Iff.rfl (Sq.same (λr=>by omega) l)
  ·rw[if_neg e];exact b
 clear tb6 tb7 ro6 gd6 hx hy bp bb s7 s8;walk_at"g";refine⟨_,_,2,rfl,⟨by decide,by decide,zAm (by omega) (by omega) (by omega) (by omega)⟩,?_⟩;have er3:rN ((en':Int)+1) ((n:Int)+1) 2=(n+1-en')/2:=by rw[zBV];omega
 rw[er3];refine zAx (λr σ H'=>∃ (T:Nat->Nat->V) (o6 o7:Option V),σ=[some (.ref p),some (.int n),some (.ref s'),some (.int st),some (.int en'),some vr,o6,o7]/\Tv H H1 H' s' ad n T/\Gd T H' (st+1)/\RO T H' (λj=>if j<en'+1+2*r then q'+1 else q')/\(∀i j,i<st->T i j= .non)/\Bt (λb=>H1 b=none) H' vr (rnd op ob)) ⟨T,_,_,rfl,tb8,gd8,ro8,no6,br⟩ ?_ ?_
 rotate_left
 ·rintro σ H' ⟨T,o6,o7,rfl,tb,gd,ro,no,_⟩;refine⟨T,_,_,_,_,rfl,tb,gd,?_,no⟩;rw[eRO]at ro⊢;intro j h1 h2;obtain⟨o,a,b⟩:=ro j h1 h2;refine⟨o,a,?_⟩
  (try dsimp only at b)
  rw[if_pos (by omega)]at b;exact b
 clear tb8 gd8 ro8 no6 br;rintro r σ H9 hr9 ⟨T,o6,o7,rfl,tb9,gd9,ro9,no9,br9⟩;obtain⟨sp,hsp⟩:∃e:Nat,e=en'+1+2*r:=⟨_,rfl⟩;have e4:((en':Int)+1+(r:Int)*2)=(sp:Int):=by omega
 have hsp2:sp<=n:=by omega
 rw[e4];have e5:((en':Int)+1)=((en'+1:Nat):Int):=by omega
 walk_at"g";rw[e5];refine zAZ (SqL.of tb9.top) (zAM (tb9.at (i:=en'+1) (by omega))) ?_;walk_at"g";refine zAZ (SqL.of (tb9.row (en'+1) (by omega))) (zAM (zF5 (j:=sp) hsp2)) ?_;obtain⟨oc,bc,cc⟩:∃o,Bt (λb=>H1 b=none) H9 (T (en'+1) sp) o/\Best (Dn kk (en'+1) sp) (wtl (PP ps) (en'+1)) o:=by rw[eGd]at gd9;exact gd9 (en'+1) sp (by omega) (by omega) (by omega)
 obtain⟨od,bd,cd⟩:∃o,Bt (λb=>H1 b=none) H9 (T st sp) o/\Best (λl=>(sp=st/\l=[])\/Sq kk st q' sp l) (wtl (PP ps) st) o:=by
  rw[eRO]at ro9;obtain⟨o,a,b⟩:=ro9 sp (by omega) hsp2
  (try dsimp only at b)
  rw[if_neg (by omega)]at b;exact⟨o,a,b⟩
 have cd:Best (Sq kk st q' sp) (wtl (PP ps) st) od:=cd.iff λl=>⟨λh=>h.elim (λw=>by omega) id, .inr⟩;have cn:=zKI hPP (show sp=st+2+2*q'+2*r by omega) (k:=kk) (a:=op) (b:=ob) (c:=oc) (by rw[<-hen];exact cp) (by rw[<-hen];exact cb) (by rw[show st+2+2*q'=en'+1 by omega];exact cc);have szc:Sz oc:=zJL hsm (λl hl=>by have:=hl.2;omega) cc;have szr:Sz (rnd op ob):=λw l e=>by
  match op,ob,e,szp,szb,cp,cb with
  |some (w1,l1),some (w2,l2),e,szp,szb,cp,cb=>
   cases e
   have h2:=(cb.1).2;obtain⟨⟨p',hp',e7⟩,e8,_⟩:=cp;have c1:=zEa hsm l2 (st+1);rw[cb.2.1]at c1;have b1:=zAW hsm st (2*p');have b2:=zAW hsm en' (2*p'+1);have e6:PP ps st (2*p')*PP ps en' (2*p'+1)=w1:=by rw[<-e8,e7];rfl
   constructor
   ·rw[<-e6];refine zAf (Int.mul_nonneg (Int.mul_nonneg b1.1 b2.1) c1.1) (c:=top30*top30*top30^40) ?_ zH5;exact Int.mul_le_mul (Int.mul_le_mul b1.2 b2.2 b2.1 (by decide)) (Int.le_trans c1.2 (zEb (by omega))) c1.1 (by decide)
   ·simp only[List.length_append,List.length_singleton];omega
 walk_at"g";refine⟨vr,T (en'+1) sp,rnd op ob,oc,rfl,br9.imp (λ_ _ _ _=>trivial),bc.imp (λ_ _ _ _=>trivial),szr,szc,λvf H10 s10 bf=>?_⟩;have bf:Bt (λb=>H1 b=none) H10 vf (beh (rnd op ob) oc):=bf.imp λb x f _=>tb9.gr b f;have tb10:=tb9.same s10;walk_at"g";refine zAZ (SqL.of tb10.top) (zAM (tb10.at (i:=st) (by omega))) ?_;walk_at"g";refine zAZ (SqL.of (tb10.row st (by omega))) (zAM (zF5 (j:=sp) hsp2)) ?_;walk_at"g";refine⟨T st sp,vf,od,beh (rnd op ob) oc,rfl,(bd.same s10).imp (λ_ _ _ _=>trivial),bf.imp (λ_ _ _ _=>trivial),?_,λvn H11 s11 hv=>?_⟩
 ·intro w l x' m e1 e2;rw[e1]at cd;rw[e2]at cn;exact⟨by have:=cd.1.len;have:=cn.1.len;omega,cd.1.apart cn.1⟩
 have s911:=s10.trans s11;have tb11:=tb9.same s911;have bn:Bt (λb=>H1 b=none) H11 vn (lik od (beh (rnd op ob) oc)):=by
  rcases hv with⟨rfl,e⟩|⟨rfl,e⟩
  ·rw[e];exact bd.same s911
  ·rw[e];exact bf.same s11
 walk_at"g";refine zAZ (SqL.of tb11.top) (zAM (tb11.at (i:=st) (by omega))) ?_;walk_at"g";refine zBk (tb11.row st (by omega)) (j:=sp) (by rw[zIH];unfold ixN;rw[if_pos (by omega),if_pos (by omega)];simp) ?_;have tb12:=tb11.set (i:=st) (j:=sp) (v:=vn) (by omega);have kp12:=λb x f z=>tb11.keep (i:=st) (by omega) (o:= .lst ((rwv n (T st)).set sp vn)) b x f z;refine⟨_,_,_,rfl,tb12,keepG (T:=T) (λi j h=>if_neg (by omega)) (λb x f z=>kp12 b x f (s911 b x z)) gd9,?_,λi j h=>(if_neg (by omega)).trans (no9 i j h),(br9.same s911).keep kp12⟩;rw[eRO]at ro9⊢;intro j h1 h2
 (try dsimp only)
 rw[if_pos rfl]
 by_cases e:j=sp
 ·subst e;refine⟨_,by rw[if_pos rfl];exact bn.keep kp12,?_⟩;rw[if_pos (by omega)];exact(zJO cd cn).iff λl=>⟨.inr,λh=>h.elim (λw=>by omega) id⟩
 ·obtain⟨o,a,b⟩:=ro9 j h1 h2
  (try dsimp only at b)
  refine⟨o,by rw[if_neg e];exact(a.same s911).keep kp12,?_⟩
  by_cases h3:j<en'+1+2*r
  ·rw[if_pos h3]at b;rw[if_pos (by omega)];exact b
  ·rw[if_neg h3]at b
   by_cases h4:j<en'+1+2*(r+1)
   ·rw[if_pos h4];exact b.iff λl=>or_congr Iff.rfl (Sq.same (λr'=>by omega) l)
   ·rw[if_neg h4];exact b
theorem sc_first_likeliest:FnScope ["places","best"] ["places"] (defScope zBC):=scM
theorem zCt(F:Fun K "first_likeliest" "first_likeliest" zBC f fd)(T:Txt K mg aK cs)(U_likeliest_spans:FnU P w K mg base k "likeliest_spans" ["places"] (spSpansL)):FnOk P w K mg base CX0 (k+1) f fd ["places"] (spFirstL):=by
 refine F.ok sc_first_likeliest (λvs H Q E h=>?_) (λcdv A outer s H vs Q E hr h=>?_)
 ·obtain⟨p,ps,kk,rfl,_⟩:=h;rfl
 obtain⟨p,ps,kk,rfl,hP,hn,hk,hl,q⟩:=h;have hu:=hr.units0;refine⟨_,(zAC (zAN (i:=1) sc_first_likeliest.nd rfl (Or.inl rfl) (zAO (zAb K) (zAO (zAb K) (zAX U_likeliest_spans hr (zAA (pv 0) zAB)) zAD (λ_ _=>rfl)) (zFP zDP zAD) (λ_ _=>rfl))) (zAC (zAh (zAP zCI (pv 1) zAu (nomark _)) (zAE (zAU zAu)) zAT) (zAE (zAU (zAc (zAA (zAO (zAb K) (pv 1) zAD (λ_ _=>rfl)) (zAA (zBy K PySem.F.plainAttrs_str PySem.F.slot_str_join PySem.F.type_str_join (zEz K) (zA0 (l:=[]) (by decide +kernel)) (zAA (zBx (own:=["bracket"]) (sel:=[]) (zAs (osc:=(defScope zBC)) (N:=["places","best"]) (by decide +kernel)) rfl (zCU K (zAO (zAb K) (pv 1) zAD (λ_ _=>rfl))) (λ_ _ _ _ _=>(zAR (i:=0) (show(["bracket"]:List Str).Nodup from by decide +kernel) rfl (Or.inl rfl))) (zBH (by decide)) (λ_ _ _ _ _=>zBF) (λ_ _ _ _ _=>(zAO (zAb K) (zBg T.g_BRACKETS) (pv 0) (λ_ _=>rfl)))) zAB)) zAB))))))),?_⟩;walk_at"g";refine zHS hP hn hk hl (λs' r rs xs v o H1 s1 e1 e2 bt be=>?_);walk_at"g";refine zAZ (SqL.of e1) (v:= .ref r) (zOG _ _) ?_;walk_at"g";refine zAZ (SqL.of e2) (zJz xs v) ?_
 match o,bt,be with
 |none,bt,be=>
  cases(show v= .non from bt)
  walk_at"g";refine ifp rfl ?_;walk_at"g";exact q _ none H1 s1 rfl be
 |some (w,l),⟨T1,a1,ev,_,_,f1,f2⟩,be=>
  subst ev;have hlen:l.length<=40:=by have:=be.1.2;omega
  have hbd:∀b∈l,b<8:=λb hb=>by have:=zD3 l [] [] be.1.1 b hb;omega
  walk_at"g";refine ifq rfl ?_;walk_at"g";refine zBD (SqT.of f1) (v:= .int w) rfl ?_;walk_at"g";refine zBD (SqT.of f1) (v:= .ref a1) rfl ?_;walk_at"g";refine⟨a1,rfl,⟨_,SqL.of f2⟩,?_⟩;refine zHG (λx=>match x with| .int i=>tx [brs.getD i.toNat 0]|y=>y) (small (by rw[List.length_map];omega)) f2 (λD H2 hD s2 h2=>?_) (λD i x H2 R hD hx s2 hR=>?_)
  ·have e:((nL l).map λx=>match x with| .int i=>tx [brs.getD i.toNat 0]|y=>y)=(l.map λb=>[brs.getD b 0]).map tx:=by
    unfold nL;rw[List.map_map,List.map_map]
    rfl
   rw[e]at h2;walk_at"g";have ef:(l.map λb=>[brs.getD b 0]).flatten=brx l:=by
    unfold brx;rw[<-zCV (l.map λb=>brs.getD b 0),List.map_map];rfl
   refine zGr (xss:=l.map λb=>[brs.getD b 0]) (SqL.of h2) (by rw[ef,List.length_map];unfold brx;rw[List.length_map];omega) ?_;rw[ef];walk_at"g";refine⟨small (show 2<=1000 by decide),λT' hT=>?_⟩;exact q _ (some (w,l)) _ ((s1.trans s2).trans (zAG hT _)) ⟨T',rfl,zAF⟩ be
  ·rw[List.getElem?_map]at hx;obtain⟨b,hb,rfl⟩:=Option.map_eq_some_iff.mp hx;have hb8:=hbd b (List.mem_of_getElem? hb);walk_at"g";refine zBe (small (by decide)) (zAM (zCA hb8)) ?_;exact hR H2 (Same.refl _)
theorem zFJ:FnScope ["k","row","weights"] ["k","row","weights"] (defScope zCj):=scM
theorem zFW(F:Fun K "likeliest" "likeliest" zCj f fd)(T:Txt K mg aK cs)(U_first_likeliest:FnU P w K mg base k "first_likeliest" ["places"] (spFirstL))(U_checked_places:FnUE P w K mg base k "checked_places" ["k","row","weights"] (spChk K cs)):FnOk P w K mg base (CXE P w) (k+1) f fd ["k","row","weights"] (spLik25):=by
 refine F.okE zFJ (λvs H Q E h=>?_) (λcdv A outer s H vs Q E hr h=>?_)
 ·obtain⟨k,a,ws,⟨wv,rfl,_⟩,_⟩:=h;rfl
 obtain⟨kk,a,ws,⟨wv,rfl,h1,h2,ha,hw⟩,q⟩:=h;refine zBd ⟨_,(zAE (zAU (zAX U_first_likeliest hr (zAA (zAa U_checked_places hr zBP (zAA (pv 0) (zAA (pv 1) (zAA (pv 2) zAB)))) zAB)))),?_⟩;have hl:=zAz ha;walk_at"g";refine⟨.int kk,tx a,wv,rfl, .inr ⟨kk,a,ws,rfl,rfl,h1,h2,ha,hw,λr H2 hr2 s2 hP=>?_⟩⟩;obtain⟨p,rfl,hp,hlw,hs⟩:=hw;walk_at"g";refine⟨r,_,kk.toNat,rfl,hP,by rw[List.length_map];exact hl,by omega,zAe h1 h2 hlw hs,λv o H3 s3 ft be=>?_⟩;rw[List.length_map]at be;exact q v o H3 (s2.trans s3) ft be
theorem zDa:FnScope ["k","thing"] ["k","thing"] (defScope zBp):=scM
theorem zDd(F:Fun K "check_bracket" "check_bracket" zBp f fd)(T:Txt K mg aK cs):FnOk P w K mg base (CXE P w) (k+1) f fd ["k","thing"] (spCheckB K cs):=by
 refine F.okE zDa (λvs H Q E h=>?_) (λcdv A outer s H vs Q E hr h=>?_)
 ·obtain⟨k,v,rfl,_⟩:=h;rfl
 have hu:=hr.units0;obtain⟨kk,v,rfl,k1,k4,⟨c,rfl,hc,q⟩|⟨⟨a,rfl,hl,hn⟩|⟨ty,hT,hp,hne⟩,r⟩⟩:=h
 ·refine zBd ⟨_,(zAE (zAh (PW.pt (zBO (zAt (zA4 K (zAQ (zBN K) rfl T.n_isinstance PyProof.Rows.boot_isinstance (zAA (pv 1) (zAA (zEr T.n_str PyProof.Rows.boot_str) zAB))))) (zBO (zAP (zBl K hu) (zAQ (zAV K) rfl T.n_len PySem.boot_len (zAA (pv 1) zAB)) zAD (nomark _)) (zA8 (zAP (zCG K) (pv 1) (zAw (zFw K) (zBg T.g_BRACKETS) zBL (zA6 (zAJ zAY zAD (pv 0)))) (by with_unfolding_all rfl)))))) (zAE zBs) zAT)),?_⟩;walk_at"g";refine zCD (b:=true) (TyOf.str _) (by with_unfolding_all rfl) ?_;walk_at"g";refine ifq rfl ?_;walk_at"g";refine zIG (small (by simp)) ?_;walk_at"g";refine ifq rfl ?_;walk_at"g";rw[zC1 _ (by omega)];walk_at"g";refine ifq (by simpa[brs]using hc) ?_;walk_at"g";exact q
 ·refine⟨_,(zAE (zAh (PW.pt (zBO (zAt (zA4 K (zAQ (zBN K) rfl T.n_isinstance PyProof.Rows.boot_isinstance (zAA (pv 1) (zAA (zEr T.n_str PyProof.Rows.boot_str) zAB))))) (zBO (zAP (zBl K hu) (zAQ (zAV K) rfl T.n_len PySem.boot_len (zAA (pv 1) zAB)) zAD (nomark _)) (zA8 (zAP (zCG K) (pv 1) (zAw (zFw K) (zBg T.g_BRACKETS) zBL (zA6 (zAJ zAY zAD (pv 0)))) (by with_unfolding_all rfl)))))) (zAE (zBS T.e_NoPlace T.c_NoPlace hr.hd zCd (zAA (zA0 (l:=[97,116,32,97,32,112,108,97,99,101,32,115,116,97,110,100,115,32,111,110,101,32,98,114,97,99,107,101,116,32,111,102,32,116,104,101,32,107,105,110,100,115,32,116,104,101,114,101,32,97,114,101]) (by decide +kernel)) zAB))) zAT)),?_⟩;walk_at"g";refine zCD (b:=true) (TyOf.str _) (by with_unfolding_all rfl) ?_;walk_at"g";refine ifq rfl ?_;walk_at"g"
  first|refine zIG (small (by omega)) ?_ |skip
  walk_at"g"
  by_cases h1:a.length=1
  ·obtain⟨c,rfl⟩:∃c,a=[c]:=by
    cases a with
    |nil=>cases h1
    |cons c r=>cases r with
     |nil=>exact⟨c,rfl⟩
     |cons d r=>simp at h1
   refine ifq rfl ?_;walk_at"g";rw[zC1 _ (by omega)];walk_at"g";refine ifp (by simpa[brs]using hn c rfl) ?_;walk_at"g";exact⟨small (by decide),λy hy=>r y H (Same.refl H) hy⟩
  ·refine ifp (by simp;omega) ?_;walk_at"g";refine ifp rfl ?_;walk_at"g";exact⟨small (by decide),λy hy=>r y H (Same.refl H) hy⟩
 ·refine⟨_,(zAE (zAh (PW.pt (zBO (zAt (zA4 K (zAQ (zBN K) rfl T.n_isinstance PyProof.Rows.boot_isinstance (zAA (pv 1) (zAA (zEr T.n_str PyProof.Rows.boot_str) zAB))))) (zBO (zAP (zBl K hu) (zAQ (zAV K) rfl T.n_len PySem.boot_len (zAA (pv 1) zAB)) zAD (nomark _)) (zA8 (zAP (zCG K) (pv 1) (zAw (zFw K) (zBg T.g_BRACKETS) zBL (zA6 (zAJ zAY zAD (pv 0)))) (by with_unfolding_all rfl)))))) (zAE (zBS T.e_NoPlace T.c_NoPlace hr.hd zCd (zAA (zA0 (l:=[97,116,32,97,32,112,108,97,99,101,32,115,116,97,110,100,115,32,111,110,101,32,98,114,97,99,107,101,116,32,111,102,32,116,104,101,32,107,105,110,100,115,32,116,104,101,114,101,32,97,114,101]) (by decide +kernel)) zAB))) zAT)),?_⟩;walk_at"g";have fin:PySem.W.kitOne K (.type ty) (.type "str")=some false:=by
   have:ty="NoneType"\/ty="bool"\/ty="int"\/ty="str"\/ty="list"\/ty="tuple"\/ty="dict":=by simpa[plainTy]using hp
   rcases this with rfl|rfl|rfl|rfl|rfl|rfl|rfl<;>first|exact absurd rfl hne|with_unfolding_all rfl
  refine zCD (b:=false) hT fin ?_;walk_at"g";refine ifp rfl ?_;walk_at"g";refine ifp rfl ?_;walk_at"g"
  first|refine ifp rfl ?_ |skip
  walk_at"g";exact⟨small (by decide),λy hy=>r y H (Same.refl H) hy⟩
theorem sc_reduced:FnScope ["top","bottom","divisor","left"] ["top","bottom"] (defScope zD4):=scM
theorem zHa(F:Fun K "reduced" "reduced" zD4 f fd)(T:Txt K mg aK cs):FnOk P w K mg base CX0 (k+1) f fd ["top","bottom"] (spReduced33):=by
 refine F.ok sc_reduced (λvs H Q E h=>?_) (λcdv A outer s H vs Q E hr h=>?_)
 ·obtain⟨t,b,rfl,_⟩:=h;rfl
 obtain⟨tp,bt,rfl,t0,b0,bs,q⟩:=h;have hu:=hr.units0;refine⟨_,(zAC (zAN (i:=2) sc_reduced.nd rfl (Or.inl rfl) (pv 1)) (zAC (zAN (i:=3) sc_reduced.nd rfl (Or.inl rfl) (pv 0)) (zAC (zGu PassesOwn.never (zA4 K (pv 3)) (zAE (zIN (i:=2) (j:=3) rfl sc_reduced.nd rfl rfl (by decide) rfl rfl (zAA (pv 3) (zAA (zAJ zCH (pv 2) (pv 3)) zAB)) (by with_unfolding_all rfl)))) (zAE (zAU (zAc (zAA (zAJ zDe (pv 0) (pv 2)) (zAA (zAJ zDe (pv 1) (pv 2)) zAB)))))))),?_⟩;walk_at"g";refine zGi (λσ H'=>∃d l:Nat,σ=[some (.int tp),some (.int bt),some (.int (d:Int)),some (.int (l:Int))]/\Nat.gcd d l=Nat.gcd bt.toNat tp.toNat/\H'=H) (λσ _=>match σ with|[_,_,_,some (.int l)]=>l.toNat|_=>0) ⟨bt.toNat,tp.toNat,by rw[Int.toNat_of_nonneg t0,Int.toNat_of_nonneg (by omega)];rfl,rfl,rfl⟩ ?_;rintro σ H1 ⟨d,l,rfl,hg,rfl⟩;walk_at"g";refine⟨decide (l≠0),?_,?_⟩
 ·show decide (l≠0)=((l:Int) !=0)
  by_cases e:l=0
  ·subst e;rfl
  ·rw[decide_eq_true e];have:(l:Int)≠0:=by omega
   simp[e]
 refine ifd (λhc=>?_) (λhc=>?_)
 ·have hl0:0<l:=by omega
  refine⟨λσ H'=>∃d' l':Nat,σ=[some (.int tp),some (.int bt),some (.int (d':Int)),some (.int (l':Int))]/\Nat.gcd d' l'=Nat.gcd bt.toNat tp.toNat/\H'=H1/\l'<l,?_,?_⟩
  ·rintro σ' H' ⟨d',l',rfl,e1,rfl,e2⟩;exact⟨l',by simpa using e2,by simp,d',l',rfl,e1,rfl⟩
  walk_at"g"
  first|refine zLC ?_ |skip
  walk_at"g";exact⟨_,_,rfl,l,d%l,rfl,(zG9 d l).trans hg,rfl,Nat.mod_lt _ hl0⟩
 ·have hl0:l=0:=by omega
  subst hl0;have hd:(d:Int)=gcI tp bt:=by unfold gcI;rw[<-hg,Nat.gcd_zero_right]
  rw[hd];walk_at"g";refine⟨_,_,rfl,rfl,zCy _ b0 bs,?_⟩;walk_at"g";refine⟨_,_,rfl,rfl,zCy _ b0 bs,?_⟩;walk_at"g";refine⟨small (show 2<=1000 by decide),λT hT=>?_⟩;exact q T _ hT (zAG hT _) zAF
theorem sc_chance:FnScope ["k","row","weights","i","bracket","places","sums"] ["k","row","weights","i","bracket"] (defScope zE8):=scM
theorem zIb(F:Fun K "chance" "chance" zE8 f fd)(T:Txt K mg aK cs)(U_checked_places:FnUE P w K mg base k "checked_places" ["k","row","weights"] (spChk K cs))(U_check_place:FnUE P w K mg base k "check_place" ["row","i"] (spPlaceE K cs))(U_check_bracket:FnUE P w K mg base k "check_bracket" ["k","thing"] (spCheckB K cs))(U_span_sums:FnU P w K mg base k "span_sums" ["places"] (spSpans))(U_check_filling:FnUE P w K mg base k "check_filling" ["sums"] (spCheckFillE cs))(U_reduced:FnU P w K mg base k "reduced" ["top","bottom"] (spReduced33))(U_whole_sum:FnU P w K mg base k "whole_sum" ["sums"] (spWholeSum))(U_bracket_sums:FnU P w K mg base k "bracket_sums" ["places","sums"] (spBrSums)):FnOk P w K mg base (CXE P w) (k+1) f fd ["k","row","weights","i","bracket"] (spChance33 cs):=by
 refine F.okE sc_chance (λvs H Q E h=>?_) (λcdv A outer s H vs Q E hr h=>?_)
 ·obtain⟨k,a,ws,i,b,⟨wv,rfl,_⟩,_⟩:=h;rfl
 obtain⟨kk,a,ws,i,b,⟨wv,rfl,h1,h2,ha,hw,hi,hb⟩,h⟩:=h;have hl:=zAz ha;have hb8:b<8:=by omega
 have hc:brs.getD b 0∈brs.take (2*kk).toNat:=by
  rw[List.getD_eq_getElem?_getD,zCA hb8];have:(brs.take (2*kk).toNat)[b]? =some (brs.getD b 0):=by rw[List.getElem?_take_of_lt (by omega),zCA hb8]
  exact List.mem_of_getElem? this
 have e:tbl (PP (a.map (plw ws))) kk.toNat 0 (a.map (plw ws)).length=wsm kk.toNat ws a:=by
  unfold tbl wsm;rw[if_pos (Nat.zero_le _),Nat.sub_zero,List.length_map]
 obtain⟨wq,rfl,hq,hwl,hs⟩:=id hw;rcases h with⟨he,r⟩|⟨hne,q⟩
 ·refine⟨_,(zAC (zAN (i:=5) sc_chance.nd rfl (Or.inl rfl) (zAa U_checked_places hr zBq (zAA (pv 0) (zAA (pv 1) (zAA (pv 2) zAB))))) (zAC (zAj (zAa U_check_place hr zBq (zAA (pv 1) (zAA (pv 3) zAB)))) (zAC (zAj (zAa U_check_bracket hr zBq (zAA (pv 0) (zAA (pv 4) zAB)))) (zAC (zAN (i:=6) sc_chance.nd rfl (Or.inl rfl) (zAX U_span_sums hr (zAA (pv 5) zAB))) (zAC (zAj (zAa U_check_filling hr zBq (zAA (pv 6) zAB))) (zAE (zAU (zAX U_reduced hr (zAA (zAO (zAb K) (zAO (zAb K) (zAX U_bracket_sums hr (zAA (pv 5) (zAA (pv 6) zAB))) (pv 3) (λ_ _=>rfl)) (zBy K PySem.F.plainAttrs_str PySem.F.slot_str_index PySem.F.type_str_index zDf (zBg T.g_BRACKETS) (zAA (pv 4) zAB)) (λ_ _=>rfl)) (zAA (zAX U_whole_sum hr (zAA (pv 6) zAB)) zAB)))))))))),?_⟩;walk_at"g";refine⟨.int kk,tx a, .ref wq,rfl, .inr ⟨kk,a,ws,rfl,rfl,h1,h2,ha,hw,λp H1 hp s1 hP=>?_⟩⟩;walk_at"g";refine⟨a,_,rfl,hl, .inl ⟨i,rfl,by omega,by omega,?_⟩⟩;walk_at"g";refine⟨kk,_,rfl,h1,h2, .inl ⟨brs.getD b 0,rfl,hc,?_⟩⟩;walk_at"g";refine zCo (k:=kk.toNat) hP (by rw[List.length_map];exact hl) (by omega) (zAe h1 h2 hwl hs) (λs3 ad H3 tb=>?_);walk_at"g";exact⟨_,s3,ad,_,_,rfl,tb, .inr ⟨e.trans he,r.pass (s1.trans tb.sm)⟩⟩
 ·refine zBd ⟨_,(zAC (zAN (i:=5) sc_chance.nd rfl (Or.inl rfl) (zAa U_checked_places hr zBP (zAA (pv 0) (zAA (pv 1) (zAA (pv 2) zAB))))) (zAC (zAj (zAa U_check_place hr zBP (zAA (pv 1) (zAA (pv 3) zAB)))) (zAC (zAj (zAa U_check_bracket hr zBP (zAA (pv 0) (zAA (pv 4) zAB)))) (zAC (zAN (i:=6) sc_chance.nd rfl (Or.inl rfl) (zAX U_span_sums hr (zAA (pv 5) zAB))) (zAC (zAj (zAa U_check_filling hr zBP (zAA (pv 6) zAB))) (zAE (zAU (zAX U_reduced hr (zAA (zAO (zAb K) (zAO (zAb K) (zAX U_bracket_sums hr (zAA (pv 5) (zAA (pv 6) zAB))) (pv 3) (λ_ _=>rfl)) (zBy K PySem.F.plainAttrs_str PySem.F.slot_str_index PySem.F.type_str_index zDf (zBg T.g_BRACKETS) (zAA (pv 4) zAB)) (λ_ _=>rfl)) (zAA (zAX U_whole_sum hr (zAA (pv 6) zAB)) zAB)))))))))),?_⟩;walk_at"g";refine⟨.int kk,tx a, .ref wq,rfl, .inr ⟨kk,a,ws,rfl,rfl,h1,h2,ha,hw,λp H1 hp s1 hP=>?_⟩⟩;walk_at"g";refine⟨a,_,rfl,hl, .inl ⟨i,rfl,by omega,by omega,?_⟩⟩;walk_at"g";refine⟨kk,_,rfl,h1,h2, .inl ⟨brs.getD b 0,rfl,hc,?_⟩⟩;walk_at"g";refine zCo (k:=kk.toNat) hP (by rw[List.length_map];exact hl) (by omega) (zAe h1 h2 hwl hs) (λs3 ad H3 tb=>?_);walk_at"g";refine⟨_,s3,ad,_,_,rfl,tb, .inl ⟨λz=>hne (e.symm.trans z),?_⟩⟩;walk_at"g";refine zHq (k:=kk.toNat) (hP.same tb.sm) (by rw[List.length_map];exact hl) (by omega) (zAe h1 h2 hwl hs) tb (λF0 ad4 H4 tw=>?_);have hi':i<(a.map (plw ws)).length:=by rw[List.length_map];exact hi
  walk_at"g";refine zAZ (SqL.of tw.top) (zAM (tw.at hi')) ?_;walk_at"g";refine⟨_,_,b,rfl,rfl,zEx hb8,?_⟩;walk_at"g";refine zAZ (SqL.of (tw.row i hi')) (zAM (zF6 (j:=b) hb)) ?_;walk_at"g";refine zBU (tb.same tw.sm) ?_;rw[e];have et:tbl (Pat (PP (a.map (plw ws))) i b) kk.toNat 0 (a.map (plw ws)).length=tpw kk.toNat ws a i b:=by unfold tpw;rw[List.length_map]
  rw[et];walk_at"g";have hw0:0<=wsm kk.toNat ws a:=zL7 h1 h2 hwl hs;exact⟨_,_,rfl,zH4 h1 h2 hwl hs i b,by omega,zGM hw0 (zFx h1 h2 hwl hs hl).2,λT H5 _ s5 g5=>q T H5 (((s1.trans tb.sm).trans tw.sm).trans s5) g5⟩
theorem zF3:FnScope ["k","row"] ["k","row"] (defScope zDN):=scM
theorem zGI(F:Fun K "how_many" "how_many" zDN f fd)(T:Txt K mg aK cs)(U_check_line:FnUE P w K mg base k "check_line" ["k","row"] (spGateE K cs spCheckLine))(U_whole_sum:FnU P w K mg base k "whole_sum" ["sums"] (spWholeSum))(U_span_sums:FnU P w K mg base k "span_sums" ["places"] (spSpans))(U_counted_places:FnU P w K mg base k "counted_places" ["k","row"] (spCounted)):FnOk P w K mg base (CXE P w) (k+1) f fd ["k","row"] (spGateE K cs spMany):=by
 refine F.okE zF3 (λvs H Q E h=>?_) (λcdv A outer s H vs Q E hr h=>?_)
 ·rcases h with⟨kk,a,rfl,_⟩|⟨kv,v,rfl,_⟩<;>rfl
 rcases h with⟨kk,a,rfl,h1,h2,ha,q⟩|⟨kv,v,rfl,g⟩
 rotate_left
 ·refine⟨_,(zAC (zAj (zAa U_check_line hr zBq (zAA (pv 0) (zAA (pv 1) zAB)))) (zAE (zAU (zAX U_whole_sum hr (zAA (zAX U_span_sums hr (zAA (zAX U_counted_places hr (zAA (pv 0) (zAA (pv 1) zAB))) zAB)) zAB))))),?_⟩;walk_at"g";exact .inr ⟨kv,v,rfl,g.pass (Same.refl H)⟩
 ·refine zBd ⟨_,(zAC (zAj (zAa U_check_line hr zBP (zAA (pv 0) (zAA (pv 1) zAB)))) (zAE (zAU (zAX U_whole_sum hr (zAA (zAX U_span_sums hr (zAA (zAX U_counted_places hr (zAA (pv 0) (zAA (pv 1) zAB))) zAB)) zAB))))),?_⟩;have hl:=zAz ha;walk_at"g";refine .inl (zBi h1 h2 ha (λH1 s1=>?_));walk_at"g";refine zGZ h1 h2 hl (λr H2 hr2 s2 hP=>?_);walk_at"g";refine zCo (k:=kk.toNat) hP (by rw[List.length_map];exact hl) (by omega) (zB5 (by omega)) (λs3 ad H3 tb=>?_);walk_at"g";refine zBU tb ?_;have e:tbl (PP (a.map (plw (ones kk.toNat)))) kk.toNat 0 (a.map (plw (ones kk.toNat))).length=cnt kk.toNat a:=by
   unfold tbl cnt;rw[if_pos (Nat.zero_le _),Nat.sub_zero,List.length_map]
  rw[e];exact q H3 ((s1.trans s2).trans tb.sm)
theorem zC7:FnScope ["k","n"] ["k","n"] (defScope zBZ):=scM
theorem zDC(F:Fun K "how_many_right" "how_many_right" zBZ f fd)(T:Txt K mg aK cs)(U_check_kinds:FnUE P w K mg base k "check_kinds" ["k"] (spKindsE K cs))(U_how_many:FnUE P w K mg base k "how_many" ["k","row"] (spGateE K cs spMany))(U_is_whole:FnU P w K mg base k "is_whole" ["thing"] (spWhole K)):FnOk P w K mg base (CXE P w) (k+1) f fd ["k","n"] (spManyRightE K cs):=by
 refine F.okE zC7 (λvs H Q E h=>?_) (λcdv A outer s H vs Q E hr h=>?_)
 ·rcases h with⟨kk,n,rfl,_⟩|⟨kv,v,rfl,_⟩<;>rfl
 rcases h with⟨kk,n,rfl,h1,h2,h3,h4,q⟩|⟨kv,v,rfl,g⟩
 ·refine zBd ⟨_,(zAC (zAj (zAa U_check_kinds hr zBP (zAA (pv 0) zAB))) (zAC (zAh (PW.pt (zBO (zAt (zA4 K (zAX U_is_whole hr (zAA (pv 1) zAB)))) (zA8 (zAt (zCS zEF zEF zAD (pv 1) (zBg T.g_MOST_SIGNS)))))) (zAE zBs) zAT) (zAE (zAU (zAa U_how_many hr zBP (zAA (pv 0) (zAA (zAJ zAY (zBg T.g_UNKNOWN) (pv 1)) zAB))))))),?_⟩;walk_at"g";refine .inl (zD0 h1 h2 ?_);walk_at"g";refine zDj ?_;walk_at"g";refine ifq rfl ?_;walk_at"g";refine ifp (decide_eq_true h3) ?_;walk_at"g";refine ifq (by simp;omega) ?_;walk_at"g";refine zML h3 (by omega) (by decide) ?_;walk_at"g";rw[zKZ];exact .inl (zG0 h1 h2 (zD1 (by omega)) (λH1 s1=>q H1 s1))
 ·refine⟨_,(zAC (zAj (zAa U_check_kinds hr zBq (zAA (pv 0) zAB))) (zAC (zAh (PW.pt (zBO (zAt (zA4 K (zAX U_is_whole hr (zAA (pv 1) zAB)))) (zA8 (zAt (zCS zEF zEF zAD (pv 1) (zBg T.g_MOST_SIGNS)))))) (zAE (zBS T.e_NoNumber T.c_NoNumber hr.hd zCd (zAA (zA0 (l:=[97,32,114,111,119,32,104,97,115,32,102,114,111,109,32,48,32,116,111,32,102,111,114,116,121,32,98,114,97,99,107,101,116,115]) (by decide +kernel)) zAB))) zAT) (zAE (zAU (zAa U_how_many hr zBq (zAA (pv 0) (zAA (zAJ zAY (zBg T.g_UNKNOWN) (pv 1)) zAB))))))),?_⟩;rcases g with⟨hk,r⟩|⟨kk,rfl,k1,k4,⟨ty,hT,hp,hi⟩,r⟩
  ·walk_at"g";exact .inr ⟨kv,rfl,hk,r.pass (Same.refl H)⟩
  ·walk_at"g";refine .inl (zD0 k1 k4 ?_);walk_at"g";refine⟨v,ty,rfl,hT,hp,?_⟩;walk_at"g"
   by_cases e:ty="int"
   ·subst e;obtain⟨i,rfl⟩:=hT.int_of rfl;have hi:=hi i rfl;rw[decide_eq_true rfl];refine ifq rfl ?_;walk_at"g"
    by_cases h1:0<=i
    ·refine ifp (decide_eq_true h1) ?_;walk_at"g";refine ifp (by simp;omega) ?_;walk_at"g";exact⟨small (by decide),λy hy=>r y H (Same.refl H) hy⟩
    ·refine ifq (decide_eq_false h1) ?_;walk_at"g";refine ifp rfl ?_;walk_at"g";exact⟨small (by decide),λy hy=>r y H (Same.refl H) hy⟩
   ·rw[decide_eq_false e];refine ifp rfl ?_;walk_at"g";refine ifp rfl ?_;walk_at"g";exact⟨small (by decide),λy hy=>r y H (Same.refl H) hy⟩
theorem sc_law_pool:FnScope ["script","k","cell"] ["script","k"] (defScope zDI):=scM
theorem zGD(F:Fun K "_law_pool" "_law_pool" zDI f fd)(T:Txt K mg aK cs):FnOk P w K mg base CX0 (k+1) f fd ["script","k"] (spPoolD K):=by
 refine F.ok sc_law_pool (λvs H Q E h=>?_) (λcdv A outer s H vs Q E hr h=>?_)
 ·obtain⟨a,ns,k,rfl,_⟩:=h;rfl
 obtain⟨a,ns,k,rfl,hS,h0,h1,q⟩:=h;have hu:=hr.units0;have big:∀ (cell:Int),CPow 10 18:=λ_=>⟨by decide,by decide,by decide⟩;refine⟨_,(zAC (zAN (i:=2) sc_law_pool.nd rfl (Or.inl rfl) zAD) (zAC (zAh (zAP zIX (pv 1) (zAQ (zAV K) rfl T.n_len PySem.boot_len (zAA (pv 0) zAB)) (nomark _)) (zAE (zAN (i:=2) sc_law_pool.nd rfl (Or.inl rfl) (zAO (zAb K) (pv 0) (pv 1) (λ_ _=>rfl)))) zAT) (zAE (zAU (zAq (zAA (pv 2) (zAA (zAr zBA rfl T.n_int PyProof.Rows.boot_int (zAA (zAd zLh (pv 2) (zAJ zKh zAD zAD) (nomark _)) zAB)) (zAA (zAJ zAY zAD (pv 1)) zAB)))))))),?_⟩;walk_at"g";refine zBc (.inl hS) ?_;walk_at"g";refine ifd (λc=>?_) (λc=>?_)
 ·rw[List.length_map]at c;obtain⟨v,hv⟩:=zKK (ns:=ns) h0 c;walk_at"g";refine zAZ hS hv ?_;walk_at"g";refine⟨small (show 3<=1000 by decide),λp hp=>?_⟩;exact q p _ hp (zAG hp _) Po.new
 ·walk_at"g";refine⟨small (show 3<=1000 by decide),λp hp=>?_⟩;exact q p _ hp (zAG hp _) Po.new
theorem sc_law_draw:FnScope ["pool","many","found","x"] ["pool","many"] (defScope zDJ):=scM
theorem zGE(F:Fun K "_law_draw" "_law_draw" zDJ f fd)(T:Txt K mg aK cs):FnOk P w K mg base CX0 (k+1) f fd ["pool","many"] (spDraw):=by
 refine F.ok sc_law_draw (λvs H Q E h=>?_) (λcdv A outer s H vs Q E hr h=>?_)
 ·obtain⟨p,m,rfl,_⟩:=h;rfl
 obtain⟨p,m,rfl,⟨a,b,c,hp⟩,hm0,hm1,q⟩:=h;have hu:=hr.units0;have hS:SqL K H p [.int a, .int b, .int c]:=SqL.of hp;refine⟨_,(zAC (zAh (zAP (zAv K hu) (zAO (zAb K) (pv 0) zAD (λ_ _=>rfl)) zAD (nomark _)) (zAC (zAN (i:=2) sc_law_draw.nd rfl (Or.inl rfl) (zAJ zCH (zAO (zAb K) (pv 0) zAD (λ_ _=>rfl)) (pv 1))) (zAC (zCF (zAJ zJu (zAO (zAb K) (pv 0) zAD (λ_ _=>rfl)) (pv 1)) (zCb (pv 0) zAD zA1)) (zAE (zAU (pv 2))))) zAT) (zAC (zCF (zAJ zAL (zAO (zAb K) (pv 0) zAD (λ_ _=>rfl)) zAD) (zCb (pv 0) zAD zA1)) (zAC (zAN (i:=3) sc_law_draw.nd rfl (Or.inl rfl) (zAJ zCH (zAJ zAL (zAJ zCH (zAO (zAb K) (pv 0) zAD (λ_ _=>rfl)) zAD) (zAJ zAY zAD (zAO (zAb K) (pv 0) zAD (λ_ _=>rfl)))) zAD)) (zAC (zAN (i:=3) sc_law_draw.nd rfl (Or.inl rfl) (zAJ zCH (zAJ zAY (pv 3) (pv 3)) zAD)) (zAC (zAN (i:=3) sc_law_draw.nd rfl (Or.inl rfl) (zAJ zCH (zAJ zAY (zAJ zAL (pv 3) zAD) (pv 3)) zAD)) (zAE (zAU (zAJ zCH (zAJ zLi (pv 3) zAD) (pv 1))))))))),?_⟩;walk_at"g";refine ifd (λhb=>?_) (λhb=>?_)
 ·walk_at"g";refine zBk hp (j:=0) rfl ?_;walk_at"g";exact q _ _ (Int.emod_nonneg _ (by omega)) (Int.emod_lt_of_pos _ hm0) Po.new SameBut1.upd
 ·walk_at"g";refine zBk hp (j:=2) rfl ?_;have hS2:SqL K (upd H p (.lst [.int a, .int b, .int (c+1)])) p [.int a, .int b, .int (c+1)]:=SqL.of zAF;walk_at"g";exact q _ _ (Int.emod_nonneg _ (by omega)) (Int.emod_lt_of_pos _ hm0) Po.new SameBut1.upd
theorem sc_law_right:FnScope ["pool","kinds","many","found","stack","k","left","kind"] ["pool","kinds","many"] (defScope zCk):=scM
theorem zFX(F:Fun K "_law_right" "_law_right" zCk f fd)(T:Txt K mg aK cs)(U_law_draw:FnU P w K mg base k "_law_draw" ["pool","many"] (spDraw)):FnOk P w K mg base CX0 (k+1) f fd ["pool","kinds","many"] (spRightD):=by
 refine F.ok sc_law_right (λvs H Q E h=>?_) (λcdv A outer s H vs Q E hr h=>?_)
 ·obtain⟨p,k,hf,rfl,_⟩:=h;rfl
 obtain⟨p,kk,hf,rfl,hd,hk1,hk4,hm0,hm1,q⟩:=h;have hu:=hr.units0;refine⟨_,(zAC (zAN (i:=3) sc_law_right.nd rfl (Or.inl rfl) (zAq zAB)) (zAC (zAN (i:=4) sc_law_right.nd rfl (Or.inl rfl) (zAq zAB)) (zAC (zAn PassesOwn.never rfl (zAk rfl T.n_range (zAA (zAJ zAY zAD (pv 2)) zAB)) (zAR (i:=5) sc_law_right.nd rfl (Or.inl rfl)) (zAC (zAN (i:=6) sc_law_right.nd rfl (Or.inl rfl) (zAJ zCc (zAJ zAY zAD (pv 2)) (pv 5))) (zAE (zAh (PW.pt (zBO (zAP (zAv K hu) (pv 4) (zAq zAB) (nomark _)) (zA8 (PW.pt (zDS (zAP zIX (zAQ (zAV K) rfl T.n_len PySem.boot_len (zAA (pv 4) zAB)) (pv 6) (nomark _)) (zCg (zAP (zAv K hu) (zAX U_law_draw hr (zAA (pv 0) (zAA zAD zAB))) zAD (nomark _)))))))) (zAC (zAN (i:=7) sc_law_right.nd rfl (Or.inl rfl) (zAX U_law_draw hr (zAA (pv 0) (zAA (pv 1) zAB)))) (zAC (zAj (zBy K PySem.F.plainAttrs_list PySem.F.slot_list_append PySem.F.type_list_append zBn (pv 4) (zAA (pv 7) zAB))) (zAE (zAj (zBy K PySem.F.plainAttrs_list PySem.F.slot_list_append PySem.F.type_list_append zBn (pv 3) (zAA (zAO (zAb K) (zA0 (l:=[40,91,123,60]) (by decide +kernel)) (pv 7) (λ_ _=>rfl)) zAB)))))) (zAE (zAj (zBy K PySem.F.plainAttrs_list PySem.F.slot_list_append PySem.F.type_list_append zBn (pv 3) (zAA (zAO (zAb K) (zA0 (l:=[41,93,125,62]) (by decide +kernel)) (zIQ K PySem.F.plainAttrs_list PySem.F.slot_list_pop PySem.F.type_list_pop zKj (pv 4)) (λ_ _=>rfl)) zAB)))))))) (zAE (zAU (zBy K PySem.F.plainAttrs_str PySem.F.slot_str_join PySem.F.type_str_join (zEz K) (zA0 (l:=[]) (by decide +kernel)) (zAA (pv 3) zAB))))))),?_⟩;walk_at"g";refine⟨small (show 0<=1000 by decide),λfa hfa=>?_⟩;walk_at"g";refine⟨small (show 0<=1000 by decide),λsa hsa=>?_⟩;have nfp:=hd.ne hfa;have hd1:=hd.same (zAG hfa (.lst []));have nsp:=hd1.ne hsa;have hF1:=zAG hsa (.lst []) _ _ (zAF (H:=H) (a:=fa) (o:= .lst []));have nsf:sa≠fa:=(zAH (zAF (H:=H) (a:=fa) (o:= .lst [])) hsa).symm;have hd2:=hd1.same (zAG hsa (.lst []));have hS1:=zAF (H:=upd H fa (.lst [])) (a:=sa) (o:= .lst []);have u2:=(zAG hfa (.lst [])).trans (zAG hsa (.lst []));have hHs:H sa=none:=(zAG hfa (.lst [])).free hsa;generalize upd (upd H fa _) sa _=G at*
 walk_at"g";refine⟨_,rfl,by omega,by omega,?_⟩;have e2:((2*hf).toNat:Int)=2*hf:=by omega
 refine zBX (λi σ H'=>∃ (row:List Nat) (st:List Int) (o5 o6 o7:Option V),σ=[some (.ref p),some (.int kk),some (.int hf),some (.ref fa),some (.ref sa),o5,o6,o7]/\H' fa=some (.lst ((row.map λc=>[c]).map tx))/\
  H' sa=some (.lst (st.map V.int))/\run [] row=some (st.reverse.map ckd)/\(∀c∈row,kin kk c)/\(∀x∈st,0<=x/\x<kk)/\row.length=i/\st.length+i<=(2*hf).toNat/\(st.length+i)%2=0/\Po H' p/\SameBut1 p H H')
  ⟨[],[],_,_,_,rfl,hF1,hS1,rfl,(λ_ z=>nomatch z),(λ_ z=>nomatch z),rfl,by simp,by simp,hd2,SameBut1.of u2⟩ ?_ ?_
 rotate_left
 ·rintro σ H1 ⟨row,st,o5,o6,o7,rfl,hF,hS,hrun,hkin,hst,hrl,hle,hpar,hp1,s1⟩;have e0:st=[]:=List.length_eq_zero_iff.mp (by omega);subst e0;walk_at"g";refine zGr (SqL.of hF) (by rw[List.length_map,zCV];omega) ?_;rw[zCV];exact q row H1 hrun (by omega) hkin hp1 s1
 rintro i σ H1 hi ⟨row,st,o5,o6,o7,rfl,hF,hS,hrun,hkin,hst,hrl,hle,hpar,hp1,s1⟩;have ei:(0:Int)+(i:Int)=(i:Int):=by omega
 rw[ei];have hsl:st.length<=40:=by omega
 have opens:∀ {H2:Hp} (o6:Option V) {D:Ends},H2 fa=some (.lst ((row.map λc=>[c]).map tx))->H2 sa=some (.lst (st.map V.int))->Po H2 p->SameBut1 p H H2->st.length+2+i<=(2*hf).toNat->
  (∀σ' H',(∃ (row:List Nat) (st:List Int) (o5 o6 o7:Option V),σ'=[some (.ref p),some (.int kk),some (.int hf),some (.ref fa),some (.ref sa),o5,o6,o7]/\H' fa=some (.lst ((row.map λc=>[c]).map tx))/\
  H' sa=some (.lst (st.map V.int))/\run [] row=some (st.reverse.map ckd)/\(∀c∈row,kin kk c)/\(∀x∈st,0<=x/\x<kk)/\row.length=i+1/\st.length+(i+1)<=(2*hf).toNat/\(st.length+(i+1))%2=0/\Po H' p/\SameBut1 p H H')->D.nx σ' H')->
  (tSeq (tAsg (tCall spDraw [] E0 (tCons (tVar 0) (tCons (tVar 1) tNil))) (gName 7))
    (tSeq (tDrop (tBM K "list" rAppend (tVar 4) (tCons (tVar 7) tNil)))
      (tDrop (tBM K "list" rAppend (tVar 3) (tCons (tOp (rIxA K) (tC (tx [40,91,123,60])) (tVar 7)) tNil))))) D [some (.ref p),some (.int kk),some (.int hf),some (.ref fa),some (.ref sa),some (.int i),o6,o7] H2:=by
  intro H2 o6 D f2 g2 p2 s2 hl2 k2;walk_at"g";refine zAo p2 (by omega) (by omega) (λr H3 r0 r1 p3 s3=>?_);obtain⟨oc,ho1,ho2,ho3,ho4,ho5,ho6⟩:=zKg r0 r1 hk4;have g3:=s3 _ _ g2 nsp;have f3:=s3 _ _ f2 nfp;walk_at"g";refine⟨SqL.ty (SqL.of g3),?_⟩;walk_at"g";refine⟨sa,_,_,rfl,rfl,g3,small1000 (by rw[List.length_map];omega),?_⟩;walk_at"g";have f4:(upd H3 sa (.lst (st.map V.int++[.int r]))) fa=some (.lst ((row.map λc=>[c]).map tx)):=by rw[zAI (Ne.symm nsf)];exact f3
  refine⟨SqL.ty (SqL.of f4),?_⟩;walk_at"g";refine zBe (small (show 4<=1000 by decide)) ho1 ?_;walk_at"g";refine⟨fa,_,_,rfl,rfl,f4,small1000 (by rw[List.length_map,List.length_map];omega),?_⟩;walk_at"g";refine k2 _ _ ⟨row++[oc],st++[r],_,_,_,rfl,?_,?_,?_,?_,?_,by simp[hrl],by simp;omega,by simp;omega,?_,?_⟩
  ·rw[zAF,List.map_append,List.map_append];rfl
  ·rw[zAI nsf,zAF,List.map_append];rfl
  ·rw[zEm hrun,zEd ho2,List.reverse_append,List.map_append];show some (clo oc::_)=some (ckd r::_);rw[show ckd r=clo oc from by unfold ckd;rw[ho4];rfl]
   rfl
  ·intro c hc;rcases List.mem_append.mp hc with z|z
   ·exact hkin c z
   ·rw[List.mem_singleton.mp z];exact .inl ho3
  ·intro x hx;rcases List.mem_append.mp hx with z|z
   ·exact hst x z
   ·rw[List.mem_singleton.mp z];exact⟨r0,r1⟩
  ·exact(p3.keep SameBut1.upd (Ne.symm nsp)).keep SameBut1.upd (Ne.symm nfp)
  ·exact put1 (put1 (s2.trans s3) hHs) hfa
 have closes:∀ {H2:Hp} (o6:Option V) {D:Ends},H2 fa=some (.lst ((row.map λc=>[c]).map tx))->H2 sa=some (.lst (st.map V.int))->Po H2 p->SameBut1 p H H2->st≠[]->
  (∀σ' H',(∃ (row:List Nat) (st:List Int) (o5 o6 o7:Option V),σ'=[some (.ref p),some (.int kk),some (.int hf),some (.ref fa),some (.ref sa),o5,o6,o7]/\H' fa=some (.lst ((row.map λc=>[c]).map tx))/\
  H' sa=some (.lst (st.map V.int))/\run [] row=some (st.reverse.map ckd)/\(∀c∈row,kin kk c)/\(∀x∈st,0<=x/\x<kk)/\row.length=i+1/\st.length+(i+1)<=(2*hf).toNat/\(st.length+(i+1))%2=0/\Po H' p/\SameBut1 p H H')->D.nx σ' H')->
  (tDrop (tBM K "list" rAppend (tVar 3) (tCons (tOp (rIxA K) (tC (tx [41,93,125,62])) (tBM0 K "list" rPop (tVar 4))) tNil))) D [some (.ref p),some (.int kk),some (.int hf),some (.ref fa),some (.ref sa),some (.int i),o6,o7] H2:=by
  intro H2 o6 D f2 g2 p2 s2 hne k2;obtain⟨sr,x,rfl⟩:∃sr x,st=sr++[x]:=⟨st.dropLast,st.getLast hne,(List.dropLast_concat_getLast hne).symm⟩;obtain⟨x0,x1⟩:=hst x (List.mem_append_right _ List.mem_cons_self);obtain⟨oc,ho1,ho2,ho3,ho4,ho5,ho6⟩:=zKg x0 x1 hk4;walk_at"g";refine⟨SqL.ty (SqL.of f2),?_⟩;walk_at"g";refine⟨SqL.ty (SqL.of g2),?_⟩;refine⟨sa,_, .int x,rfl,rfl,g2,by simp,?_⟩;walk_at"g";refine zBe (small (show 4<=1000 by decide)) ho4 ?_;walk_at"g";refine⟨fa,_,_,rfl,rfl,(zAI (Ne.symm nsf)).trans f2,small1000 (by rw[List.length_map,List.length_map];omega),?_⟩;walk_at"g";refine k2 _ _ ⟨row++[clo oc],sr,_,_,_,rfl,?_,?_,?_,?_,λy hy=>hst y (List.mem_append_left _ hy),by simp[hrl],by simp at hle;omega,by simp at hpar;omega,?_,?_⟩
  ·rw[zAF,List.map_append,List.map_append];rfl
  ·rw[zAI nsf,zAF];simp
  ·rw[List.reverse_append,List.map_append]at hrun;rw[zEm hrun];have e:ckd x=clo oc:=by unfold ckd;rw[ho4];rfl
   show stp (ckd x::_) _=_;rw[e];exact zDn ho6 _
  ·intro c hc;rcases List.mem_append.mp hc with z|z
   ·exact hkin c z
   ·rw[List.mem_singleton.mp z];exact .inr ho5
  ·exact(p2.keep SameBut1.upd (Ne.symm nsp)).keep SameBut1.upd (Ne.symm nfp)
  ·exact put1 (put1 s2 hHs) hfa
 walk_at"g";refine⟨small (show 0<=1000 by decide),λl hl=>?_⟩;have t1:=zAG hl (.lst []);walk_at"g";refine zN1 (SqL.of (t1 _ _ hS)) (SqL.of zAF) (by simp[flatV]) rfl ?_;rw[zJ7];walk_at"g";refine ifd (λhc=>?_) (λhc=>?_)
 ·refine ifp rfl ?_;exact opens _ (t1 _ _ hF) (t1 _ _ hS) (hp1.same t1) (s1.trans (SameBut1.of t1)) (by subst hc;simp at hpar hle⊢;omega) (λ_ _ z=>z)
 ·walk_at"g";refine zBc (.inl (SqL.of (t1 _ _ hS))) ?_;walk_at"g";refine ifd (λhc2=>?_) (λhc2=>?_)
  ·walk_at"g";refine zAo (hp1.same t1) (by omega) (by omega) (λr H3 r0 r1 p3 s3=>?_);walk_at"g";have f3:=s3 _ _ (t1 _ _ hF) nfp;have g3:=s3 _ _ (t1 _ _ hS) nsp;refine ifd (λhc3=>?_) (λhc3=>?_)
   ·exact opens _ f3 g3 p3 ((s1.trans (SameBut1.of t1)).trans s3) (by rw[List.length_map]at hc2;omega) (λ_ _ z=>z)
   ·exact closes _ f3 g3 p3 ((s1.trans (SameBut1.of t1)).trans s3) hc (λ_ _ z=>z)
  ·refine ifq rfl ?_;exact closes _ (t1 _ _ hF) (t1 _ _ hS) (hp1.same t1) (s1.trans (SameBut1.of t1)) hc (λ_ _ z=>z)
theorem sc_law_row:FnScope ["pool","kinds","many","signs","found","part","i","turn"] ["pool","kinds","many"] (defScope zC0):=scM
theorem zHe(F:Fun K "_law_row" "_law_row" zC0 f fd)(T:Txt K mg aK cs)(U_law_right:FnU P w K mg base k "_law_right" ["pool","kinds","many"] (spRightD))(U_law_draw:FnU P w K mg base k "_law_draw" ["pool","many"] (spDraw)):FnOk P w K mg base CX0 (k+1) f fd ["pool","kinds","many"] (spRowD):=by
 refine F.ok sc_law_row (λvs H Q E h=>?_) (λcdv A outer s H vs Q E hr h=>?_)
 ·obtain⟨p,k,hf,rfl,_⟩:=h;rfl
 obtain⟨p,kk,hf,rfl,hd,hk1,hk4,hm0,hm1,q⟩:=h;have hu:=hr.units0;have hsg0:∀c∈([40,41,91,93,123,125,60,62]:List Nat).take (2*kk).toNat,c∈sgn kk:=λc hc=>(zK7 hk1 hk4).mp (List.mem_append_left _ hc);have hsl0:(([40,41,91,93,123,125,60,62]:List Nat).take (2*kk).toNat).length=(2*kk).toNat:=by rw[List.length_take];simp;omega
 have unk:63∈sgn kk:=by unfold sgn;simp
 have tail:∀ (sg:List Nat) (fa:Addr) (row:List Nat) (H2:Hp),(∀c∈sg,c∈sgn kk)->sg.length=(2*kk).toNat->H2 fa=some (.lst ((row.map λc=>[c]).map tx))->(∀c∈row,c∈sgn kk)->(row.length:Int)<=2*hf+1->Po H2 p->SameBut1 p H H2->H fa=none->fa≠p->
  (tSeq (tAsg (tOp (rIxA K) (tLst (tCons (tC (V.int 2)) (tCons (tC (V.int 1)) (tCons (tC (V.int 3)) (tCons (tC (V.int 8)) tNil))))) (tCall spDraw [] E0 (tCons (tVar 0) (tCons (tC (V.int 4)) tNil)))) (gName 5))
  (tSeq (tFor (iRng1 (tCons (tCB (rLen K) (tCons (tVar 4) tNil)) tNil)) (gName 6) (tIfS (tTest (tOp (rEqA K) (tCall spDraw [] E0 (tCons (tVar 0) (tCons (tVar 5) tNil))) (tC (V.int 0)))) (tAsg (tC (tx [63])) (gSub (tVar 4) (tVar 6) rSetL)) tNext))
    (tSeq (tFor (iRng1 (tCons (tOp rTimes (tOp (rIxA K) (tLst (tCons (tC (V.int 0)) (tCons (tC (V.int 0)) (tCons (tC (V.int 1)) (tCons (tC (V.int 2)) tNil))))) (tCall spDraw [] E0 (tCons (tVar 0) (tCons (tC (V.int 4)) tNil)))) (tCB rInt (tCons (tOp (rNeA K) (tVar 4) (tLst tNil)) tNil))) tNil)) (gName 7)
      (tAsg (tOp (rIxA K) (tVar 3) (tCall spDraw [] E0 (tCons (tVar 0) (tCons (tOp rTimes (tC (V.int 2)) (tVar 1)) tNil)))) (gSub (tVar 4) (tCall spDraw [] E0 (tCons (tVar 0) (tCons (tCB (rLen K) (tCons (tVar 4) tNil)) tNil))) rSetL)))
      (tRet (tBM K "str" (rJoin K) (tC (tx [])) (tCons (tVar 4) tNil)))))) {nx:=λ_ H'=>Q .non H',rt:=Q} [some (.ref p),some (.int kk),some (.int hf),some (tx sg),some (.ref fa),none,none,none] H2:=by
  intro sg fa row H2 hsg hsl f2 hrow hrl p2 s2 hfa nfp;walk_at"g";refine⟨small (show 4<=1000 by decide),λl1 hl1=>?_⟩;have t1:=zAG hl1 (.lst [.int 2, .int 1, .int 3, .int 8]);walk_at"g";refine zAo (p2.same t1) (by omega) (by omega) (λr1 H3 r10 r11 p3 s3=>?_);obtain⟨vp,eix,hvp⟩:=at4 (V.int 2) (V.int 1) (V.int 3) (V.int 8) r10 r11;obtain⟨pt,rfl,hp0,hp9⟩:∃pt:Int,vp= .int pt/\0<pt/\pt<10:=by rcases hvp with rfl|rfl|rfl|rfl<;>exact⟨_,rfl,by decide,by decide⟩
  have f3:=s3 _ _ (t1 _ _ f2) nfp;walk_at"g";refine zAZ (SqL.of (s3 _ _ zAF (p2.ne hl1))) eix ?_;have u3:SameBut1 p H H3:=(s2.trans (SameBut1.of t1)).trans s3;clear hvp eix;walk_at"g";refine zBc (.inl (SqL.of f3)) ?_;walk_at"g";rw[List.length_map,List.length_map];obtain⟨n1,en1⟩:∃n1,row.length=n1:=⟨_,rfl⟩;rw[en1];refine⟨_,rfl,by omega,by omega,?_⟩;refine zBX (λi σ H'=>∃ (row:List Nat) (o6:Option V),σ=[some (.ref p),some (.int kk),some (.int hf),some (tx sg),some (.ref fa),some (.int pt),o6,none]/\H' fa=some (.lst ((row.map λc=>[c]).map tx))/\(∀c∈row,c∈sgn kk)/\row.length=n1/\Po H' p/\SameBut1 p H H')
   ⟨row,none,rfl,f3,hrow,en1,p3,u3⟩ ?_ ?_
  ·rintro i σ H4 hi ⟨row',o6,rfl,f4,hrow',hrl',p4,s4⟩;have ei:(0:Int)+(i:Int)=(i:Int):=by omega
   rw[ei];walk_at"g";refine zAo p4 hp0 (by omega) (λr5 H5 r50 r51 p5 s5=>?_);have f5:=s5 _ _ f4 nfp;walk_at"g";refine ifd (λhc=>?_) (λhc=>?_)
   ·walk_at"g";refine zBk f5 (j:=i) (zIl (by rw[List.length_map,List.length_map];omega)) ?_;walk_at"g";refine⟨row'.set i 63,_,rfl,?_,λc hc=>?_,by rw[List.length_set];exact hrl',p5.keep SameBut1.upd (Ne.symm nfp),put1 (s4.trans s5) hfa⟩
    ·rw[zAF,List.map_set,List.map_set]
    ·rcases List.mem_or_eq_of_mem_set hc with z|z
     ·exact hrow' c z
     ·rw[z];exact unk
   ·walk_at"g";exact⟨row',_,rfl,f5,hrow',hrl',p5,s4.trans s5⟩
  ·rintro σ H4 ⟨row',o6,rfl,f4,hrow',hrl',p4,s4⟩;walk_at"g";refine⟨small (show 4<=1000 by decide),λl2 hl2=>?_⟩;have t2:=zAG hl2 (.lst [.int 0, .int 0, .int 1, .int 2]);walk_at"g";refine zAo (p4.same t2) (by omega) (by omega) (λr6 H6 r60 r61 p6 s6=>?_);obtain⟨vp,eix,hvp⟩:=at4 (V.int 0) (V.int 0) (V.int 1) (V.int 2) r60 r61;obtain⟨tn,rfl,ht0,ht9⟩:∃tn:Int,vp= .int tn/\0<=tn/\tn<3:=by rcases hvp with rfl|rfl|rfl|rfl<;>exact⟨_,rfl,by decide,by decide⟩
   have f6:=s6 _ _ (t2 _ _ f4) nfp;walk_at"g";refine zAZ (SqL.of (s6 _ _ zAF (p4.ne hl2))) eix ?_;have u6:SameBut1 p H H6:=(s4.trans (SameBut1.of t2)).trans s6;clear hvp eix;walk_at"g";refine⟨small (show 0<=1000 by decide),λl3 hl3=>?_⟩;have t3:=zAG hl3 (.lst []);walk_at"g";refine zMJ (SqL.of (t3 _ _ f6)) (SqL.of zAF) (zJ4 _) rfl ?_;walk_at"g";have hev:eqVs ((row'.map λc=>[c]).map tx) []=decide (row'=[]):=by cases row'<;>rfl
   rw[hev];refine⟨_,rfl,by split<;>omega,by split<;>omega,?_⟩;refine zBX (λi σ H'=>∃ (row:List Nat) (o6 o7:Option V),σ=[some (.ref p),some (.int kk),some (.int hf),some (tx sg),some (.ref fa),some (.int pt),o6,o7]/\H' fa=some (.lst ((row.map λc=>[c]).map tx))/\(∀c∈row,c∈sgn kk)/\row.length=n1/\Po H' p/\SameBut1 p H H')
    ⟨row',_,_,rfl,t3 _ _ f6,hrow',hrl',p6.same t3,u6.trans (SameBut1.of t3)⟩ ?_ ?_
   ·rintro i σ H7 hi ⟨row7,o6,o7,rfl,f7,hrow7,hrl7,p7,s7⟩;have hne:row'≠[]:=λz=>by subst z;simp at hi
    have hn0:0<n1:=by rw[<-hrl'];exact List.length_pos_iff.mpr hne
    walk_at"g";refine zAo p7 (by omega) (by omega) (λr8 H8 r80 r81 p8 s8=>?_);obtain⟨c,hc8,hcm⟩:=zKq (l:=sg) r80 (by rw[hsl];omega);walk_at"g";refine zBe (small (by omega)) hc8 ?_;have f8:=s8 _ _ f7 nfp;walk_at"g";refine zBc (.inl (SqL.of f8)) ?_;walk_at"g";rw[List.length_map,List.length_map];refine zAo p8 (by omega) (by omega) (λr9 H9 r90 r91 p9 s9=>?_);obtain⟨j,rfl⟩:∃j:Nat,r9=j:=⟨r9.toNat,by omega⟩;have f9:=s9 _ _ f8 nfp;walk_at"g";refine zBk f9 (j:=j) (zIl (by rw[List.length_map,List.length_map];omega)) ?_;walk_at"g";refine⟨row7.set j c,_,_,rfl,?_,λd hd=>?_,by rw[List.length_set];exact hrl7,p9.keep SameBut1.upd (Ne.symm nfp),put1 ((s7.trans s8).trans s9) hfa⟩
    ·rw[zAF,List.map_set,List.map_set]
    ·rcases List.mem_or_eq_of_mem_set hd with z|z
     ·exact hrow7 d z
     ·rw[z];exact hsg c hcm
   ·rintro σ H7 ⟨row7,o6,o7,rfl,f7,hrow7,hrl7,p7,s7⟩;walk_at"g";refine zGr (SqL.of f7) (by rw[List.length_map,zCV];omega) ?_;rw[zCV];exact q row7 H7 (by omega) hrow7 p7 s7
 refine⟨_,(zAC (zAN (i:=3) sc_law_row.nd rfl (Or.inr rfl) (zAw (zFw K) (zA0 (l:=[40,41,91,93,123,125,60,62]) (by decide +kernel)) zBL (zA6 (zAJ zAY zAD (pv 1))))) (zAC (zAN (i:=4) sc_law_row.nd rfl (Or.inl rfl) (zAr (zHp K rfl) rfl T.n_list PyProof.Rows.boot_list (zAA (zAX U_law_right hr (zAA (pv 0) (zAA (pv 1) (zAA (pv 2) zAB)))) zAB))) (zAC (zAh (zAP (zAv K hu) (zAX U_law_draw hr (zAA (pv 0) (zAA zAD zAB))) zAD (nomark _)) (zAE (zCT (i:=4) sc_law_row.nd rfl (Or.inl rfl) (own:=["k"]) (sel:=[3,0,1]) (zAs (osc:=(defScope zC0)) (N:=["pool","kinds","many","signs","found","part","i","turn"]) (by decide +kernel)) rfl (zAk rfl T.n_range (zAA (zAJ zAL (zAJ zAY zAD (pv 2)) (zAX U_law_draw hr (zAA (pv 0) (zAA zAD zAB)))) zAB)) (λ_ _ _ _ _=>(zAR (i:=0) (show(["k","signs","pool","kinds"]:List Str).Nodup from by decide +kernel) rfl (Or.inl rfl))) (zBH (by decide)) (λ_ _ _ _ _=>zBF) (λ_ _ _ _ _=>(zAO (zAb K) (zAJ zAL (pv 1) (zA0 (l:=[63,63]) (by decide +kernel))) (zAX U_law_draw hr (zAA (pv 2) (zAA (zAJ zAL (zAJ zAY zAD (pv 3)) zAD) zAB))) (λ_ _=>rfl))))) zAT) (zAC (zAN (i:=5) sc_law_row.nd rfl (Or.inl rfl) (zAO (zAb K) (zAq (zAA zAD (zAA zAD (zAA zAD (zAA zAD zAB))))) (zAX U_law_draw hr (zAA (pv 0) (zAA zAD zAB))) (λ_ _=>rfl))) (zAC (zAn PassesOwn.never rfl (zAk rfl T.n_range (zAA (zAQ (zAV K) rfl T.n_len PySem.boot_len (zAA (pv 4) zAB)) zAB)) (zAR (i:=6) sc_law_row.nd rfl (Or.inl rfl)) (zAE (zAh (zAP (zAv K hu) (zAX U_law_draw hr (zAA (pv 0) (zAA (pv 5) zAB))) zAD (nomark _)) (zAE (zCF (zA0 (l:=[63]) (by decide +kernel)) (zCb (pv 4) (pv 6) zA1))) zAT))) (zAC (zAn PassesOwn.never rfl (zAk rfl T.n_range (zAA (zAJ zAY (zAO (zAb K) (zAq (zAA zAD (zAA zAD (zAA zAD (zAA zAD zAB))))) (zAX U_law_draw hr (zAA (pv 0) (zAA zAD zAB))) (λ_ _=>rfl)) (zAr zBA rfl T.n_int PyProof.Rows.boot_int (zAA (zAd (zBl K hu) (pv 4) (zAq zAB) (nomark _)) zAB))) zAB)) (zAR (i:=7) sc_law_row.nd rfl (Or.inl rfl)) (zAE (zCF (zAO (zAb K) (pv 3) (zAX U_law_draw hr (zAA (pv 0) (zAA (zAJ zAY zAD (pv 1)) zAB))) (λ_ _=>rfl)) (zCb (pv 4) (zAX U_law_draw hr (zAA (pv 0) (zAA (zAQ (zAV K) rfl T.n_len PySem.boot_len (zAA (pv 4) zAB)) zAB))) zA1)))) (zAE (zAU (zBy K PySem.F.plainAttrs_str PySem.F.slot_str_join PySem.F.type_str_join (zEz K) (zA0 (l:=[]) (by decide +kernel)) (zAA (pv 4) zAB)))))))))),?_⟩;walk_at"g";rw[zC1 _ (by omega)];generalize([40,41,91,93,123,125,60,62]:List Nat).take (2*kk).toNat=sg at hsg0 hsl0⊢;walk_at"g";refine zHW hd hk1 hk4 hm0 hm1 (λrow0 H1 _ hl0 hkin p1 s1=>?_);walk_at"g";refine zLG (by omega) (λfa hfa=>?_);have t1:=zAG hfa (.lst ((row0.map λc=>[c]).map tx));have f1:=zAF (H:=H1) (a:=fa) (o:= .lst ((row0.map λc=>[c]).map tx));have nfp:=p1.ne hfa;have hHf:H fa=none:=by
  cases z:H fa with
  |none=>rfl
  |some o=>rw[s1 _ _ z nfp]at hfa;cases hfa
 walk_at"g";refine zAo (p1.same t1) (by omega) (by omega) (λr2 H2 r20 r21 p2 s2=>?_);have u2:SameBut1 p H H2:=(s1.trans (SameBut1.of t1)).trans s2;walk_at"g";refine ifd (λhc=>?_) (λhc=>?_)
 ·walk_at"g";refine zAo p2 (by omega) (by omega) (λr3 H3 r30 r31 p3 s3=>?_);walk_at"g";refine⟨_,rfl,by omega,by omega,?_⟩;have hn:(2*hf+r3).toNat<=41:=by omega
  refine zDO (n:=(2*hf+r3).toNat) (λD i ys H'=>∃row:List Nat,ys=(row.map λc=>[c]).map tx/\row.length=i/\(∀c∈row,c∈sgn kk)/\Po H' p/\∀b o,H3 b=some o->b≠p->H' b=some o) (λD hD=>⟨[],rfl,rfl,(λ_ z=>nomatch z),p3.same (zAG hD _),λb o z _=>by rw[zAI (zAH z hD)];exact z⟩) (λD i ys H' _ hi _ _=>hi) (λD ys H' hD hD' hl ⟨row,e,hrl,hrow,p4,s4⟩=>⟨Nat.le_refl _,?_⟩) ?_
  ·subst e;walk_at"g";exact tail sg D row H' hsg0 hsl0 hD' hrow (by omega) p4 (λb o z n=>s4 b o (s3 b o (u2 b o z n) n) n) (by
    cases z:H D with
    |none=>rfl
    |some o=>rw[s3 _ _ (u2 _ _ z ((p3.ne hD))) (p3.ne hD)]at hD;cases hD) (p3.ne hD)
  ·rintro D i ys H' x H5 hD hi hD' hl ⟨row,e,hrl,hrow,p4,s4⟩ ⟨rfl,rfl⟩;have nDp:=p3.ne hD;show gName 0 _ _ _ _;walk_at"g";refine iteT ?_;walk_at"g"
   first|refine zDR (small (by rw[hsl0];simp;omega)) ?_ |skip
   walk_at"g";refine zAo p4 (by omega) (by omega) (λr4 H6 r40 r41 p6 s6=>?_);obtain⟨c,hc4,hcm⟩:=zKq (l:=sg++[63,63]) r40 (by rw[List.length_append,hsl0];simp;omega);walk_at"g";refine zBe (small (by rw[List.length_append,hsl0];simp;omega)) hc4 ?_;refine zBr hi (small (by omega)) (s6 _ _ hD' nDp) hl ⟨row++[c],?_,by simp[hrl],?_,p6.keep SameBut1.upd (Ne.symm nDp),?_⟩
   ·rw[e,List.map_append,List.map_append];rfl
   ·intro d hd;rcases List.mem_append.mp hd with z|z
    ·exact hrow d z
    ·rw[List.mem_singleton.mp z];rcases List.mem_append.mp hcm with y|y
     ·exact hsg0 c y
     ·have:c=63:=by simpa using y
      rw[this];exact unk
   ·intro b o z n;rw[zAI (zAH z hD)];exact s6 b o (s4 b o z n) n
 ·walk_at"g";exact tail sg fa row0 H2 hsg0 hsl0 (s2 _ _ f1 nfp) (λc hc=>zLn (hkin c hc)) (by omega) p2 u2 hHf nfp
theorem sc_law_weights:FnScope ["pool","kinds","way","far","found"] ["pool","kinds"] (defScope zBh):=scM
theorem zEH(F:Fun K "_law_weights" "_law_weights" zBh f fd)(T:Txt K mg aK cs)(U_law_draw:FnU P w K mg base k "_law_draw" ["pool","many"] (spDraw)):FnOk P w K mg base CX0 (k+1) f fd ["pool","kinds"] (spWts):=by
 refine F.ok sc_law_weights (λvs H Q E h=>?_) (λcdv A outer s H vs Q E hr h=>?_)
 ·obtain⟨p,k,rfl,_⟩:=h;rfl
 obtain⟨p,kk,rfl,hp,k1,k4,q⟩:=h;have hu:=hr.units0;refine⟨_,(zAC (zAN (i:=2) sc_law_weights.nd rfl (Or.inl rfl) (zAX U_law_draw hr (zAA (pv 0) (zAA zAD zAB)))) (zAC (zAN (i:=3) sc_law_weights.nd rfl (Or.inr rfl) (zAO (zAb K) (zAq (zAA zAD (zAA zAD (zAA zAD (zAA (zAJ zKh zAD zAD) (zAA zAD zAB)))))) (pv 2) (λ_ _=>rfl))) (zAC (zCT (i:=4) sc_law_weights.nd rfl (Or.inl rfl) (own:=["k"]) (sel:=[0,3]) (zAs (osc:=(defScope zBh)) (N:=["pool","kinds","way","far","found"]) (by decide +kernel)) rfl (zAk rfl T.n_range (zAA (zAJ zAY zAD (pv 1)) zAB)) (λ_ _ _ _ _=>(zAR (i:=0) (show(["k","pool","far"]:List Str).Nodup from by decide +kernel) rfl (Or.inl rfl))) (zBH (by decide)) (λ_ _ _ _ _=>zBF) (λ_ _ _ _ _=>(zAX U_law_draw hr (zAA (pv 1) (zAA (pv 2) zAB))))) (zAC (zAh (zAP (zAv K hu) (pv 2) zAD (nomark _)) (zAE (zAN (i:=4) sc_law_weights.nd rfl (Or.inl rfl) (zAJ zAY (zAq (zAA (zAJ zAL zAD (zAX U_law_draw hr (zAA (pv 0) (zAA zAD zAB)))) zAB)) (zAJ zAY zAD (pv 1))))) zAT) (zAE (zAU (pv 4))))))),?_⟩;walk_at"g";refine zAo hp (by decide) (by decide) (λr1 H1 a1 b1 p1 s1=>?_);walk_at"g";refine⟨small (show 5<=1000 by decide),λl1 hl1=>?_⟩;have e30:(10:Int)^(30:Int).toNat=10^30:=rfl;rw[e30]at*
 have t1:=zAG hl1 (.lst [.int 10, .int 3, .int 1, .int (10^30), .int 100]);have hL1:=zAF (H:=H1) (a:=l1) (o:= .lst [.int 10, .int 3, .int 1, .int (10^30), .int 100]);have p2:=p1.same t1;generalize upd H1 l1 _=G1 at*
 obtain⟨vf,ef,hvf⟩:=zL5 (l:=[.int 10, .int 3, .int 1, .int (10^30), .int 100]) a1 (by simpa using b1);obtain⟨far,rfl,hf0,hf1⟩:∃far:Int,vf= .int far/\0<far/\far<=10^30:=by
  simp only[List.mem_cons,List.not_mem_nil,or_false]at hvf;rcases hvf with rfl|rfl|rfl|rfl|rfl<;>exact⟨_,rfl,by decide,by decide⟩
 clear hvf;walk_at"g";refine zAZ (SqL.of hL1) ef ?_;walk_at"g";refine⟨_,rfl,by omega,by omega,?_⟩;have hn:(2*kk).toNat<=8:=by omega
 have v1:SameBut1 p H G1:=s1.trans (SameBut1.of t1);have new:∀ {D:Addr} {G:Hp},SameBut1 p H G->Po G p->G D=none->H D=none:=fun{D G} sg pg hD=>by
  cases z:H D with
  |none=>rfl
  |some o=>rw[sg _ _ z (pg.ne hD)]at hD;cases hD
 refine zDO (n:=(2*kk).toNat) (λD i ys H'=>∃ws:List Int,ys=ws.map V.int/\ws.length=i/\(∀w∈ws,0<=w/\w<=10^30)/\Po H' p/\∀b o,G1 b=some o->b≠p->H' b=some o) (λD hD=>⟨[],rfl,rfl,(λ_ z=>nomatch z),p2.same (zAG hD _),λb o z _=>by rw[zAI (zAH z hD)];exact z⟩) (λD i ys H' _ hi _ _=>hi) (λD ys H' hD hD' hl ⟨ws,e,hwl,hws,p4,s4⟩=>⟨Nat.le_refl _,?_⟩) ?_
 ·subst e;walk_at"g";refine ifd (λhc=>?_) (λhc=>?_)
  ·walk_at"g";refine zAo p4 (by decide) (by decide) (λr5 H5 a5 b5 p5 s5=>?_);have v5:SameBut1 p H H5:=(v1.trans s4).trans s5;walk_at"g";refine⟨small (show 1<=1000 by decide),λl2 hl2=>?_⟩;have t2:=zAG hl2 (.lst [.int (1+r5)]);have hL2:=zAF (H:=H5) (a:=l2) (o:= .lst [.int (1+r5)]);have p6:=p5.same t2;generalize upd H5 l2 _=G2 at*
   walk_at"g";refine zF4 hL2 (by omega) (by omega) (small (by rw[List.length_singleton];omega)) (λl3 hl3=>?_);have t3:=zAG hl3 (.lst (List.replicate (2*kk).toNat [V.int (1+r5)]).flatten);have hL3:=zAF (H:=G2) (a:=l3) (o:= .lst (List.replicate (2*kk).toNat [V.int (1+r5)]).flatten);have p7:=p6.same t3;have v7:=v5.trans (SameBut1.of t2);have n3:=p6.ne hl3;have h3:=new v7 p6 hl3;generalize upd G2 l3 _=G3 at*
   have er:∀n,(List.replicate n [V.int (1+r5)]).flatten=(List.replicate n (1+r5)).map V.int:=λn=>by
    induction n with
    |zero=>rfl
    |succ n ih=>rw[List.replicate_succ,List.flatten_cons,ih,List.replicate_succ];rfl
   rw[er]at hL3;walk_at"g";exact q l3 _ G3 hL3 (by rw[List.length_replicate];omega) (λw hw=>by rw[List.eq_of_mem_replicate hw];omega) n3 h3 p7 (v7.trans (SameBut1.of t3))
  ·walk_at"g";exact q D ws H' hD' (by omega) hws (p2.ne hD) (new v1 p2 hD) p4 (v1.trans s4)
 ·rintro D i ys H' x H5 hD hi hD' hl ⟨ws,e,hwl,hws,p4,s4⟩ ⟨rfl,rfl⟩;show gName 0 _ _ _ _;walk_at"g";refine iteT ?_;walk_at"g";refine zAo p4 hf0 (by omega) (λr5 H5 a5 b5 p5 s5=>?_);refine zBr hi (small (by omega)) (s5 _ _ hD' (p2.ne hD)) hl ⟨ws++[r5],?_,by simp[hwl],λw hw=>?_,p5.keep SameBut1.upd (Ne.symm (p2.ne hD)),λb o z n=>?_⟩
  ·rw[e,List.map_append];rfl
  ·rcases List.mem_append.mp hw with z|z
   ·exact hws w z
   ·rw[List.mem_singleton.mp z];omega
  ·rw[zAI (zAH z hD)];exact s5 _ _ (s4 b o z n) n
theorem zEk:FnScope ["row"] ["row"] (defScope zBt):=scM
theorem zEu(F:Fun K "_law_places" "_law_places" zBt f fd)(T:Txt K mg aK cs):FnOk P w K mg base CX0 (k+1) f fd ["row"] (spPlaces33):=by
 refine F.ok zEk (λvs H Q E h=>?_) (λcdv A outer s H vs Q E hr h=>?_)
 ·obtain⟨l,rfl,_⟩:=h;rfl
 obtain⟨l,rfl,hb,hl,q⟩:=h;have hu:=hr.units0;refine⟨_,(zAE (zAU (zBx (own:=["sign"]) (sel:=[]) (zAs (osc:=(defScope zBt)) (N:=["row"]) (by decide +kernel)) rfl (zFO (pv 0)) (λ_ _ _ _ _=>(zAR (i:=0) (show(["sign"]:List Str).Nodup from by decide +kernel) rfl (Or.inl rfl))) (zBH (by decide)) (λ_ _ _ _ _=>zBF) (λ_ _ _ _ _=>(zBy K PySem.F.plainAttrs_str PySem.F.slot_str_index PySem.F.type_str_index zDf (zA0 (l:=[40,41,91,93,123,125,60,62]) (by decide +kernel)) (zAA (pv 0) zAB)))))),?_⟩;walk_at"g";refine zGj (λc=>V.int (((occ1 brs c).getD 0:Nat):Int)) (small (by unfold brx;rw[List.length_map];omega)) (λD H1 hD s1 g1=>?_) (λi c H1 R hc s1 hR=>?_)
 ·rw[zNY hb]at g1;exact q D H1 hD s1 g1
 ·unfold brx at hc;rw[List.getElem?_map]at hc;obtain⟨b,hb',rfl⟩:=Option.map_eq_some_iff.mp hc;have ho:=zEx (hb b (List.mem_of_getElem? hb'));have hR:=hR H1 (Same.refl _);rw[ho]at hR;walk_at"g";refine zMS (l:=brs) ho ?_;exact hR
theorem sc_law_best:FnScope ["kinds","row","weights","i","best","place","bracket","found","weight","made"] ["kinds","row","weights","i"] (defScope zDK):=scM
theorem zGF(F:Fun K "_law_best" "_law_best" zDK f fd)(T:Txt K mg aK cs)(U_likeliest:FnUE P w K mg base k "likeliest" ["k","row","weights"] (spLik25))(U_law_places:FnU P w K mg base k "_law_places" ["row"] (spPlaces33)):FnOk P w K mg base (CXE P w) (k+1) f fd ["kinds","row","weights","i"] (spBest33):=by
 refine F.okE sc_law_best (λvs H Q E h=>?_) (λcdv A outer s H vs Q E hr h=>?_)
 ·obtain⟨kk,a,ws,p,i,rfl,_⟩:=h;rfl
 obtain⟨kk,a,ws,pw',i,rfl,k1,k4,hro,hw,hwl,hsm,hi,h63,q⟩:=h;have hu:=hr.units0;have hu5:=units5 hr;have hal:=zAz hro;have hk4:kk.toNat<=4:=by omega
 refine zBd ⟨_,(zAC (zAN (i:=4) sc_law_best.nd rfl (Or.inl rfl) zAu) (zAC (zAn PassesOwn.never rfl (zAk rfl T.n_range (zAA (zAJ zAS zAD (pv 0)) zAB)) (zAR (i:=5) sc_law_best.nd rfl (Or.inl rfl)) (zAC (zAN (i:=6) sc_law_best.nd rfl (Or.inl rfl) (zAO (zAb K) (zA0 (l:=[40,41,91,93,123,125,60,62]) (by decide +kernel)) (pv 5) (λ_ _=>rfl))) (zAC (zAN (i:=7) sc_law_best.nd rfl (Or.inl rfl) (zAa U_likeliest hr zBP (zAA (pv 0) (zAA (zAJ zAL (zAJ zAL (zAw (zFw K) (pv 1) zBL (zA6 (pv 3))) (pv 6)) (zAw (zFw K) (pv 1) (zA6 (zAJ zAL (pv 3) zAD)) zBL)) (zAA (pv 2) zAB))))) (zAE (zAh (PW.pt (zDS (zAP zBz (pv 7) zAu (nomark _)) (zCg (zAP zFT (zAO (zAb K) (pv 2) (pv 5) (λ_ _=>rfl)) zAD (nomark _))))) (zAC (zAN (i:=8) sc_law_best.nd rfl (Or.inl rfl) (zAJ zAS (zAO (zAb K) (pv 2) (pv 5) (λ_ _=>rfl)) (zAO (zAb K) (pv 7) zAD (λ_ _=>rfl)))) (zAC (zAN (i:=9) sc_law_best.nd rfl (Or.inl rfl) (zAc (zAA (zAJ zCc zAD (pv 8)) (zAA (zAX U_law_places hr (zAA (zAO (zAb K) (pv 7) zAD (λ_ _=>rfl)) zAB)) (zAA (zAO (zAb K) (pv 7) zAD (λ_ _=>rfl)) zAB))))) (zAE (zAh (PW.pt (zBO (zAP zCI (pv 4) zAu (nomark _)) (zA8 (zAP (zM3 hu5) (pv 9) (pv 4) (nomark _))))) (zAE (zAN (i:=4) sc_law_best.nd rfl (Or.inl rfl) (pv 9))) zAT)))) zAT))))) (zAC (zAh (zAP zCI (pv 4) zAu (nomark _)) (zAE (zAU zAu)) zAT) (zAE (zAU (zAc (zAA (zAJ zCc zAD (zAO (zAb K) (pv 4) zAD (λ_ _=>rfl))) (zAA (zAO (zAb K) (pv 4) zAD (λ_ _=>rfl)) zAB)))))))),?_⟩;walk_at"g";refine zAi (bigS (by decide)) (bigS (by omega)) ?_;walk_at"g";refine⟨_,rfl,by omega,by omega,?_⟩;rw[show(2*kk).toNat=2*kk.toNat by omega];refine zBX (λb σ H'=>∃ (v:V) (o:O) (o5 o6 o7 o8 o9:Option V),σ=[some (.int kk),some (tx a),some (.ref pw'),some (.int (i:Int)),some v,o5,o6,o7,o8,o9]/\Same H H'/\Bv H' v o/\Best (Lb kk.toNat a.length i b) (wtl (Pw ws a) 0) o)
  ⟨.non,none,_,_,_,_,_,rfl,Same.refl _,rfl,Lb.zero _⟩ ?_ ?_
 rotate_left
 ·rintro σ H1 ⟨v,o,o5,o6,o7,o8,o9,rfl,s1,bv,be⟩;have be:=be.iff λl=>Lb.all hi l
  match o,bv,be with
  |none,bv,be=>
   cases(show v= .non from bv)
   walk_at"g";refine ifp rfl ?_;walk_at"g";exact q .non none H1 s1 rfl be
  |some (w,l),⟨T1,p1,ev,g1,g2⟩,be=>
   subst ev;walk_at"g";refine ifq rfl ?_;walk_at"g";refine zBD (SqT.of g1) (v:= .int (-w)) rfl ?_;walk_at"g";rw[negneg33];refine zBD (SqT.of g1) (v:=tx (brx l)) rfl ?_;walk_at"g";refine⟨small (show 2<=1000 by decide),λT2 hT2=>?_⟩;exact q _ (some (w,l)) _ (s1.trans (zAG hT2 _)) ⟨T2,rfl,zAF⟩ be
 rintro b σ H1 hb ⟨v,o,o5,o6,o7,o8,o9,rfl,s1,bv,be⟩;have ei:(0:Int)+(b:Int)=(b:Int):=by omega
 rw[ei];walk_at"g";refine zBe (small (show 8<=1000 by decide)) (c:=brs.getD b 0) (zAM (zCA (by omega))) ?_;walk_at"g";rw[zC1 a (k:=(i:Int)) (by omega),Int.toNat_natCast];refine zDR (small (by rw[List.length_take,List.length_singleton];omega)) ?_;walk_at"g";rw[show((i:Int)+1)=((i+1:Nat):Int) by omega,zHF];refine zDR (small (by rw[List.length_append,List.length_take,List.length_drop,List.length_singleton];omega)) ?_;rw[zIC hi];walk_at"g";have hws1:H1 pw'=some (iL ws):=s1 _ _ hw;refine⟨kk,a.set i (brs.getD b 0),ws,⟨.ref pw',rfl,k1,k4,zFe hro (zKV k1 k4 hb),⟨pw',rfl,hws1,hwl,hsm⟩⟩,λv2 o2 H2 s2 ft be2=>?_⟩;rw[List.length_set]at be2;have bat:=zL4 k1 k4 hwl hsm hi hb be2;have bun:=(be.un bat).iff λl=>(Lb.next l).symm;have ePw:Pw ws a i b=ws.getD b 0:=by
  have e:=zEB (ws:=ws) (a:=a) hi (by omega) (b:=b) (by omega);have e:Pw ws a i b=_:=e;rw[e,if_pos h63]
 rw[ePw]at bun;have s12:=s1.trans s2;have bv2:=bv.same s2;have hws2:=s2 _ _ hws1;have hwb:atI (ws.map V.int) (b:Int)=some (V.int (ws.getD b 0)):=zAM (by rw[List.getElem?_map,List.getElem?_eq_getElem (show b<ws.length by omega),List.getD_eq_getElem?_getD,List.getElem?_eq_getElem (show b<ws.length by omega)];rfl)
 match o2,ft,be2,bun with
 |none,ft,be2,bun=>
  cases(show v2= .non from ft)
  walk_at"g";refine ifq rfl ?_
  first|refine ifq rfl ?_ |skip
  walk_at"g";rw[show sc (ws.getD b 0) none=none from rfl,zCx]at bun;exact⟨v,o,_,_,_,_,_,rfl,s12,bv2,bun⟩
 |some (w,l),⟨T2,ev,g2⟩,be2,bun=>
  subst ev;have hps:∀x∈(a.set i (brs.getD b 0)).map (plw ws),Sm x:=λx hx=>(zAe k1 k4 hwl hsm x hx).2;obtain⟨w0,w40,hll,hle⟩:=zHM hps hal be2;have hlb:l.length=a.length:=by omega
  have hb8:∀x∈l,x<8:=λx hx=>by have:=zD3 l [] [] be2.1.1 x hx;omega
  have hPb:∀j x,0<=Pw ws (a.set i (brs.getD b 0)) j x:=λj x=>(zAW hps j x).1;have hli:l.getD i 0=b:=by
   by_cases c:l.getD i 0=b
   ·exact c
   ·exfalso;have h0:=zHx hPb l 0 (by rw[be2.2.1];exact w0) i (by omega);have hbl:l.getD i 0<2*kk.toNat:=zD3 l [] [] be2.1.1 _ (by rw[List.getD_eq_getElem?_getD,List.getElem?_eq_getElem (by omega)];exact List.getElem_mem _);rw[Nat.zero_add,zJP hi (by omega) (by omega) (by omega),if_neg c]at h0;exact absurd h0 (Int.lt_irrefl _)
  walk_at"g";refine ifp rfl ?_;walk_at"g";refine zAZ (SqL.of hws2) hwb ?_;walk_at"g";refine ifd (λhp=>?_) (λhp=>?_)
  rotate_left
  ·walk_at"g";rw[show sc (ws.getD b 0) (some (w,l))=none from if_neg hp,zCx]at bun;exact⟨v,o,_,_,_,_,_,rfl,s12,bv2,bun⟩
  rw[show sc (ws.getD b 0) (some (w,l))=some (ws.getD b 0*w,l)from if_pos hp]at bun;have cb:=hsm.at b;walk_at"g";refine zAZ (SqL.of hws2) hwb ?_;walk_at"g";refine zBD (SqT.of g2) (v:= .int w) rfl ?_;refine zAi (zAf cb.1 cb.2 (by unfold top30 big;decide +kernel)) (zAf (by omega) w40 zH7) ?_;walk_at"g";refine zBD (SqT.of g2) (v:=tx (brx l)) rfl ?_;walk_at"g";refine⟨l,rfl,hb8,by omega,λp3 H3 hp3 s3 g3=>?_⟩;have g23:=s3 _ _ g2;walk_at"g";refine zBD (SqT.of g23) (v:=tx (brx l)) rfl ?_;walk_at"g";refine⟨small (show 3<=1000 by decide),λT4 hT4=>?_⟩;rw[show(0:Int)-ws.getD b 0*w= -(ws.getD b 0*w) by omega];have t4:=zAG hT4 (.tup [.int (-(ws.getD b 0*w)), .ref p3,tx (brx l)]);have g4:(upd H3 T4 (.tup [.int (-(ws.getD b 0*w)), .ref p3,tx (brx l)])) T4=_:=zAF;have s4:=(s12.trans s3).trans t4;have bv4:=(bv2.same s3).same t4;have g34:=t4 _ _ g3;generalize upd H3 T4 _=H4 at*
  have new:Bv H4 (.ref T4) (some (ws.getD b 0*w,l)):=⟨T4,p3,rfl,g4,g34⟩
  match o,bv4,be,bun with
  |none,bv4,be,bun=>
   cases(show v= .non from bv4)
   walk_at"g";refine ifp rfl ?_
   first|refine ifp rfl ?_ |skip
   walk_at"g";exact⟨.ref T4,some (ws.getD b 0*w,l),_,_,_,_,_,rfl,s4,new,bun⟩
  |some (x,m),⟨T5,p5,ev,g5,g6⟩,be,bun=>
   subst ev;have hm:m.getD i 0<b:=be.1.2;have hml:m.length=a.length:=by have:=be.1.1.2;omega
   walk_at"g";refine ifq rfl ?_;walk_at"g";refine zNv g4 g34 g5 g6 (by omega) (λz=>by rw[z]at hli;omega) ?_
   cases hlt:ltP (-(ws.getD b 0*w),l) (-x,m)with
   |true=>
    walk_at"g";refine ifp rfl ?_
    first|refine ifp rfl ?_ |skip
    walk_at"g";rw[zG3 hlt]at bun;exact⟨.ref T4,some (ws.getD b 0*w,l),_,_,_,_,_,rfl,s4,new,bun⟩
   |false=>
    walk_at"g";refine ifq rfl ?_
    first|refine ifq rfl ?_ |skip
    walk_at"g";rw[zG4 hlt]at bun;exact⟨.ref T5,some (x,m),_,_,_,_,_,rfl,s4,⟨T5,p5,rfl,g5,g6⟩,bun⟩
theorem sc_law_lowest:FnScope ["top","bottom","one","other"] ["top","bottom"] (defScope zCL):=scM
theorem zEv(F:Fun K "_law_lowest" "_law_lowest" zCL f fd)(T:Txt K mg aK cs):FnOk P w K mg base CX0 (k+1) f fd ["top","bottom"] (spReduced33):=by
 refine F.ok sc_law_lowest (λvs H Q E h=>?_) (λcdv A outer s H vs Q E hr h=>?_)
 ·obtain⟨t,b,rfl,_⟩:=h;rfl
 obtain⟨tp,bt,rfl,t0,b0,bs,q⟩:=h;have hu:=hr.units0;refine⟨_,(zAC (zIN (i:=2) (j:=3) rfl sc_law_lowest.nd rfl rfl (by decide) rfl rfl (zAA (pv 1) (zAA (pv 0) zAB)) (by with_unfolding_all rfl)) (zAC (zGu PassesOwn.never (zAP (zBl K hu) (pv 3) zAD (nomark _)) (zAE (zIN (i:=2) (j:=3) rfl sc_law_lowest.nd rfl rfl (by decide) rfl rfl (zAA (pv 3) (zAA (zAJ zCH (pv 2) (pv 3)) zAB)) (by with_unfolding_all rfl)))) (zAE (zAU (zAc (zAA (zAJ zDe (pv 0) (pv 2)) (zAA (zAJ zDe (pv 1) (pv 2)) zAB))))))),?_⟩;walk_at"g";refine zLC ?_;walk_at"g";refine⟨_,_,rfl,?_⟩;walk_at"g";refine zGi (λσ H'=>∃d l:Nat,σ=[some (.int tp),some (.int bt),some (.int (d:Int)),some (.int (l:Int))]/\Nat.gcd d l=Nat.gcd bt.toNat tp.toNat/\H'=H) (λσ _=>match σ with|[_,_,_,some (.int l)]=>l.toNat|_=>0) ⟨bt.toNat,tp.toNat,by rw[Int.toNat_of_nonneg t0,Int.toNat_of_nonneg (by omega)];rfl,rfl,rfl⟩ ?_;rintro σ H1 ⟨d,l,rfl,hg,rfl⟩;walk_at"g"
 by_cases hc:l=0
 rotate_left
 ·have hl0:0<l:=by omega
  refine ifp (by simp;omega) ?_;refine⟨λσ H'=>∃d' l':Nat,σ=[some (.int tp),some (.int bt),some (.int (d':Int)),some (.int (l':Int))]/\Nat.gcd d' l'=Nat.gcd bt.toNat tp.toNat/\H'=H1/\l'<l,?_,?_⟩
  ·rintro σ' H' ⟨d',l',rfl,e1,rfl,e2⟩;exact⟨l',by simpa using e2,by simp,d',l',rfl,e1,rfl⟩
  walk_at"g";refine zLC ?_;walk_at"g";exact⟨_,_,rfl,l,d%l,rfl,(zG9 d l).trans hg,rfl,Nat.mod_lt _ hl0⟩
 ·subst hc;refine ifq rfl ?_;have hd:(d:Int)=gcI tp bt:=by unfold gcI;rw[<-hg,Nat.gcd_zero_right]
  rw[hd];walk_at"g";refine⟨_,_,rfl,rfl,zCy _ b0 bs,?_⟩;walk_at"g";refine⟨_,_,rfl,rfl,zCy _ b0 bs,?_⟩;walk_at"g";refine⟨small (show 2<=1000 by decide),λT hT=>?_⟩;exact q T _ hT (zAG hT _) zAF
theorem sc_law_chances_right:FnScope ["kinds","row","weights","i","total","tops","place","bracket","there","caught","found","e"] ["kinds","row","weights","i","total"] (defScope zA3):=scM
theorem zCZ(F:Fun K "_law_chances_right" "_law_chances_right" zA3 f fd)(T:Txt K mg aK cs)(U_chance:FnUE P w K mg base k "chance" ["k","row","weights","i","bracket"] (spChance33 cs))(U_weight_sum:FnUE P w K mg base k "weight_sum" ["k","row","weights"] (spWSum25))(U_law_lowest:FnU P w K mg base k "_law_lowest" ["top","bottom"] (spReduced33)):FnOk P w K mg base (CXE P w) (k+1) f fd ["kinds","row","weights","i","total"] (spChances33):=by
 refine F.okE sc_law_chances_right (λvs H Q E h=>?_) (λcdv A outer s H vs Q E hr h=>?_)
 ·obtain⟨kk,a,ws,p,i,rfl,_⟩:=h;rfl
 obtain⟨kk,a,ws,pw',i,rfl,k1,k4,hro,hw,hwl,hsm,hi,q⟩:=h;have hu:=hr.units0;have hal:=zAz hro;have hk4:kk.toNat<=4:=by omega
 obtain⟨tot,etot⟩:∃tot:Int,tot=wsm kk.toNat ws a:=⟨_,rfl⟩;have ct:=zFx k1 k4 hwl hsm hal;rw[<-etot]at ct⊢;obtain⟨ci,hci⟩:∃c,a[i]? =some c:=⟨_,List.getElem?_eq_getElem hi⟩;have eci:a.getD i 0=ci:=by rw[List.getD_eq_getElem?_getD,hci];rfl
 refine zBd ⟨_,(zAC (zAN (i:=5) sc_law_chances_right.nd rfl (Or.inl rfl) zAD) (zAC (zAn PassesOwn.never rfl (zAk rfl T.n_range (zAA (zAJ zAS zAD (pv 0)) zAB)) (zAR (i:=6) sc_law_chances_right.nd rfl (Or.inl rfl)) (zAC (zAN (i:=7) sc_law_chances_right.nd rfl (Or.inl rfl) (zAO (zAb K) (zA0 (l:=[40,41,91,93,123,125,60,62]) (by decide +kernel)) (pv 6) (λ_ _=>rfl))) (zAC (zAN (i:=8) sc_law_chances_right.nd rfl (Or.inl rfl) zAD) (zAC (zAh (zAP (zAv K hu) (zAO (zAb K) (pv 1) (pv 3) (λ_ _=>rfl)) (zA0 (l:=[63]) (by decide +kernel)) (nomark _)) (zAE (zAN (i:=8) sc_law_chances_right.nd rfl (Or.inl rfl) (zAJ zAS (zAO (zAb K) (pv 2) (pv 6) (λ_ _=>rfl)) (zAa U_weight_sum hr zBP (zAA (pv 0) (zAA (zAJ zAL (zAJ zAL (zAw (zFw K) (pv 1) zBL (zA6 (pv 3))) (pv 7)) (zAw (zFw K) (pv 1) (zA6 (zAJ zAL (pv 3) zAD)) zBL)) (zAA (pv 2) zAB))))))) (zAE (zAh (zAP (zAv K hu) (zAO (zAb K) (pv 1) (pv 3) (λ_ _=>rfl)) (pv 7) (nomark _)) (zAE (zAN (i:=8) sc_law_chances_right.nd rfl (Or.inl rfl) (pv 4))) zAT))) (zAC (zAN (i:=5) sc_law_chances_right.nd rfl (Or.inl rfl) (zAJ zAL (pv 5) (pv 8))) (zAC (zAN (i:=9) sc_law_chances_right.nd rfl (Or.inl rfl) zAu) (zAC (zAN (i:=10) sc_law_chances_right.nd rfl (Or.inl rfl) (zAc (zAA zAD (zAA zAD zAB)))) (zAC (zMm (i:=11) T.e_NoFilling T.c_NoFilling ⟨rfl,rfl,rfl⟩ sc_law_chances_right.nd rfl rfl (λpn xe R hx=>(zAE (zAN (i:=10) sc_law_chances_right.nd rfl (Or.inl rfl) (zAa U_chance hr hx (zAA (pv 0) (zAA (pv 1) (zAA (pv 2) (zAA (pv 3) (zAA (pv 7) zAB))))))))) (λev=>(zAE (zAN (i:=9) sc_law_chances_right.nd rfl (Or.inl rfl) (pv 11))))) (zAC (zAh (zAP (zBl K hu) (zAd zBz (pv 9) zAu (nomark _)) (zAd (zAv K hu) (pv 4) zAD (nomark _)) (nomark _)) (zAE (zAU zDv)) zAT) (zAE (zAh (PW.pt (zDS (zAP zFT (pv 4) zAD (nomark _)) (zCg (zAP (zBl K hu) (zAQ (zEW hr K T.dig) rfl T.n_repr PyProof.Rows.boot_repr (zAA (pv 10) zAB)) (zAQ (zEW hr K T.dig) rfl T.n_repr PyProof.Rows.boot_repr (zAA (zAX U_law_lowest hr (zAA (pv 8) (zAA (pv 4) zAB))) zAB)) (nomark _))))) (zAE (zAU zDv)) zAT))))))))))) (zAE (zAU (zAd (zAv K hu) (pv 5) (pv 4) (nomark _)))))),?_⟩;walk_at"g";refine zAi (bigS (by decide)) (bigS (by omega)) ?_;walk_at"g";refine⟨_,rfl,by omega,by omega,?_⟩;rw[show(2*kk).toNat=2*kk.toNat by omega];refine zBX (λb σ H'=>∃ (o6 o7 o8 o9 o10 o11:Option V),σ=[some (.int kk),some (tx a),some (.ref pw'),some (.int (i:Int)),some (.int tot),some (.int (sm b (tpw kk.toNat ws a i))),o6,o7,o8,o9,o10,o11]/\Same H H')
  ⟨_,_,_,_,_,_,rfl,Same.refl _⟩ ?_ ?_
 rotate_left
 ·rintro σ H1 ⟨o6,o7,o8,o9,o10,o11,rfl,s1⟩;rw[zFE hi,<-etot];walk_at"g";rw[decide_eq_true rfl];exact q _ s1
 rintro b σ H1 hb ⟨o6,o7,o8,o9,o10,o11,rfl,s1⟩;have ei:(0:Int)+(b:Int)=(b:Int):=by omega
 rw[ei];have hth:=zH3 (a:=a) (ws:=ws) k1 k4 hwl hi hb;rw[eci,<-etot]at hth;walk_at"g";refine zBe (small (show 8<=1000 by decide)) (c:=brs.getD b 0) (zAM (zCA (by omega))) ?_;walk_at"g";refine zBe (small (by omega)) (zAM hci) ?_;obtain⟨th,eth⟩:∃th:Int,th=tpw kk.toNat ws a i b:=⟨_,rfl⟩;have hnn:0<=th:=by rw[eth];exact zH4 k1 k4 hwl hsm i b
 have hle:th<=tot:=by rw[eth,etot];exact zMA k1 k4 hwl hsm hi hb
 have rest:∀ {D:Ends} (G:Hp) (y9 y10:Option V),Same H G->(∀σ' G',(∃ (o6 o7 o8 o9 o10 o11:Option V),σ'=[some (.int kk),some (tx a),some (.ref pw'),some (.int (i:Int)),some (.int tot),some (.int (sm (b+1) (tpw kk.toNat ws a i))),o6,o7,o8,o9,o10,o11]/\Same H G')->D.nx σ' G')->
  (tSeq (tAsg (tOp rPlus (tVar 5) (tVar 8)) (gName 5))
        (tSeq (tAsg (tC V.non) (gName 9))
          (tSeq (tAsg (tTup (tCons (tC (V.int 0)) (tCons (tC (V.int 1)) tNil))) (gName 10))
            (tSeq
              (tTry
                (cxE P w K mg base
                      [Str.ofString "kinds",Str.ofString "row",Str.ofString "weights",Str.ofString "i",
                        Str.ofString "total",Str.ofString "tops",Str.ofString "place",Str.ofString "bracket",
                        Str.ofString "there",Str.ofString "caught",Str.ofString "found",Str.ofString "e"]
                      (Str.ofString "_law_chances_right") zA3 f cdv A outer s H E).nox.K
                11 cs.NoFilling
                (λR=>
                  tAsg
                   (tCallE (spChance33 cs) R
                     (tCons (tVar 0) (tCons (tVar 1) (tCons (tVar 2) (tCons (tVar 3) (tCons (tVar 7) tNil))))))
                   (gName 10))
                (tAsg (tVar 11) (gName 9)))
              (tSeq
                (tIfS
                  (tTest (tOp (rNeA K) (tOp rIsNotA (tVar 9) (tC V.non)) (tOp (rEqA K) (tVar 4) (tC (V.int 0)))))
                  (tRet (tC (V.bl false))) tNext)
                (tIfS
                  (tAnd (tTest (tOp (rI0 λi j=>V.bl (decide (j<i))) (tVar 4) (tC (V.int 0))))
                    (tTest
                      (tOp (rNeA K) (tCB rReprT (tCons (tVar 10) tNil))
                        (tCB rReprT
                          (tCons (tCall spReduced33 [] E0 (tCons (tVar 8) (tCons (tVar 4) tNil))) tNil)))))
                  (tRet (tC (V.bl false))) tNext)))))
        ) D [some (.int kk),some (tx a),some (.ref pw'),some (.int (i:Int)),some (.int tot),some (.int (sm b (tpw kk.toNat ws a i))),some (.int (b:Int)),some (tx [brs.getD b 0]),some (.int th),y9,y10,o11] G:=by
  intro D G y9 y10 sG hD;have esm:sm b (tpw kk.toNat ws a i)+th=sm (b+1) (tpw kk.toNat ws a i):=by rw[eth];rfl
  walk_at"g";rw[esm];refine⟨small (show 2<=1000 by decide),λT2 hT2=>?_⟩;have s2:=sG.trans (zAG hT2 (.tup [.int 0, .int 1]));generalize upd G T2 _=G2 at*
  have hG:Gd33 [.int kk,tx a, .ref pw', .int (i:Int),tx [brs.getD b 0]] G2 kk a ws i b:=⟨.ref pw',rfl,k1,k4,hro,⟨pw',rfl,s2 _ _ hw,hwl,hsm⟩,hi,hb⟩;walk_at"g"
  by_cases hz:wsm kk.toNat ws a=0
  ·refine⟨kk,a,ws,i,b,hG, .inl ⟨hz,zMi λy H' s' n=>⟨T.mm_NoFilling,λob=>?_⟩⟩⟩;have t0:tot=0:=by rw[etot];exact hz
   have s1':Same G2 (upd H' y (excO ob y cs.NoFilling)):=zJa s' n;generalize upd H' y _=G3 at*
   walk_at"g";refine(show∀ (_:tSeq (tIfS (tTest (tOp (rNeA K) (tOp rIsNotA (tVar 9) (tC V.non)) (tOp (rEqA K) (tVar 4) (tC (V.int 0)))))
          (tRet (tC (V.bl false))) tNext)
    (tIfS
      (tAnd (tTest (tOp (rI0 λi j=>V.bl (decide (j<i))) (tVar 4) (tC (V.int 0))))
        (tTest
          (tOp (rNeA K) (tCB rReprT (tCons (tVar 10) tNil))
            (tCB rReprT (tCons (tCall spReduced33 [] E0 (tCons (tVar 8) (tCons (tVar 4) tNil))) tNil)))))
      (tRet (tC (V.bl false))) tNext) D [some (.int kk),some (tx a),some (.ref pw'),some (.int (i:Int)),some (.int tot),some (.int (sm (b+1) (tpw kk.toNat ws a i))),some (.int (b:Int)),some (tx [brs.getD b 0]),some (.int th),some (.ref y),some (.ref T2),none] G3),_ from λz=>z) ?_
   walk_at"g";rw[show decide (tot=0)=true from decide_eq_true t0];refine ifq rfl ?_;walk_at"g";rw[show decide (0<tot)=false from decide_eq_false (by omega)];refine ifq rfl ?_
   first|refine ifq rfl ?_ |skip
   walk_at"g";exact hD _ _ ⟨_,_,_,_,_,_,rfl,s2.trans s1'⟩
  ·refine⟨kk,a,ws,i,b,hG, .inr ⟨hz,λT3 H3 s3 g3=>?_⟩⟩;have tpos:0<tot:=by rw[etot];rw[etot]at ct;omega
   have s23:=s2.trans s3;rw[<-eth,<-etot]at g3;walk_at"g";rw[show decide (tot=0)=false from decide_eq_false (by omega)];refine ifq rfl ?_;walk_at"g";rw[show decide (0<tot)=true from decide_eq_true tpos];refine ifp rfl ?_;have gp:=zGQ (t:=th) tpos;have d1:=zIz hnn (Int.le_trans hle ct.2) gp;have d2:=zIz ct.1 ct.2 gp;walk_at"g";refine zIE g3 (zCw d1.1 d1.2) (zCw d2.1 d2.2) ?_;walk_at"g";refine⟨th,tot,rfl,hnn,tpos,zGM ct.1 ct.2,λT4 H4 _ s4 g4=>?_⟩;walk_at"g";refine zIE g4 (zCw d1.1 d1.2) (zCw d2.1 d2.2) ?_;refine zMI ?_;walk_at"g";refine ifq rfl ?_
   first|refine ifq rfl ?_ |skip
   walk_at"g";exact hD _ _ ⟨_,_,_,_,_,_,rfl,s23.trans s4⟩
 by_cases z1:ci=63
 ·rw[if_pos z1]at hth;walk_at"g";refine ifp (by rw[z1];rfl) ?_;walk_at"g";have hws1:H1 pw'=some (iL ws):=s1 _ _ hw;refine zAZ (SqL.of hws1) (v:= .int (ws.getD b 0)) (zAM (by rw[List.getElem?_map,List.getElem?_eq_getElem (show b<ws.length by omega),List.getD_eq_getElem?_getD,List.getElem?_eq_getElem (show b<ws.length by omega)];rfl)) ?_;walk_at"g";rw[zC1 a (k:=(i:Int)) (by omega),Int.toNat_natCast];refine zDR (small (by rw[List.length_take,List.length_singleton];omega)) ?_;walk_at"g";rw[show((i:Int)+1)=((i+1:Nat):Int) by omega,zHF];refine zDR (small (by rw[List.length_append,List.length_take,List.length_drop,List.length_singleton];omega)) ?_;rw[zIC hi];walk_at"g";refine⟨kk,a.set i (brs.getD b 0),ws,⟨.ref pw',rfl,k1,k4,zFe hro (zKV k1 k4 hb),⟨pw',rfl,hws1,hwl,hsm⟩⟩,λH2 s2=>?_⟩;have cb:=hsm.at b;have cw:=zFx (a:=a.set i (brs.getD b 0)) k1 k4 hwl hsm (by rw[List.length_set];exact hal);refine zAi (zAf cb.1 cb.2 (by unfold top30 big;decide +kernel)) (zAf cw.1 cw.2 zCO) ?_;rw[show ws.getD b 0*wsm kk.toNat ws (a.set i (brs.getD b 0))=th by rw[eth,hth]];walk_at"s";exact rest _ _ _ (s1.trans s2) (λσ' G' h=>h)
 ·rw[if_neg z1]at hth;walk_at"g";refine ifq (by simp[z1]) ?_;walk_at"g";refine zBe (small (by omega)) (zAM hci) ?_;walk_at"g"
  by_cases z2:ci=brs.getD b 0
  ·rw[if_pos z2]at hth;refine ifp (by rw[z2];exact decide_eq_true rfl) ?_;have e:th=tot:=eth.trans hth;walk_at"s";walk_at"s";walk_at"s";subst e;exact rest _ _ _ s1 (λσ' G' h=>h)
  ·rw[if_neg z2]at hth;refine ifq (decide_eq_false λz=>z2 (by injection z)) ?_;have e:th=0:=eth.trans hth;subst e;exact rest _ _ _ s1 (λσ' G' h=>h)
theorem sc_law_sum:FnScope ["kinds","row","weights","many","sums","i","size","last","m","both","place","pair","weight"] ["kinds","row","weights"] (defScope zD6):=scM
theorem zHd(F:Fun K "_law_sum" "_law_sum" zD6 f fd)(T:Txt K mg aK cs):FnOk P w K mg base CX0 (k+1) f fd ["kinds","row","weights"] (spSum33):=by
 refine F.ok sc_law_sum (λvs H Q E h=>?_) (λcdv A outer s H vs Q E hr h=>?_)
 ·obtain⟨kk,a,ws,p,rfl,_⟩:=h;rfl
 obtain⟨kk,a,ws,pw',rfl,k1,k4,hro,hw,hwl,hsm,q⟩:=h;have hu:=hr.units0;have hu2:=units1 hr;have hal:=zAz hro;have hk4:kk.toNat<=4:=by omega
 refine⟨_,(zAC (zAN (i:=3) sc_law_sum.nd rfl (Or.inl rfl) (zAQ (zAV K) rfl T.n_len PySem.boot_len (zAA (pv 1) zAB))) (zAC (zAh (zAP (zAv K hu) (zAJ zCH (pv 3) zAD) zAD (nomark _)) (zAE (zAU zAD)) zAT) (zAC (zAN (i:=4) sc_law_sum.nd rfl (Or.inl rfl) zGw) (zAC (zAn PassesOwn.never rfl (zAk rfl T.n_range (zAA (zAJ zAL (pv 3) zAD) zAB)) (zAR (i:=5) sc_law_sum.nd rfl (Or.inl rfl)) (zAE (zDs hu2 (pv 4) (zAc (zAA (pv 5) (zAA (pv 5) zAB))) zAD rfl))) (zAC (zAn PassesOwn.never rfl (zAg rfl T.n_range (zAA zAD (zAA (zAJ zAL (pv 3) zAD) (zAA zAD zAB)))) (zAR (i:=6) sc_law_sum.nd rfl (Or.inl rfl)) (zAE (zAn PassesOwn.never rfl (zAk rfl T.n_range (zAA (zAJ zAL (zAJ zCc (pv 3) (pv 6)) zAD) zAB)) (zAR (i:=5) sc_law_sum.nd rfl (Or.inl rfl)) (zAC (zAN (i:=7) sc_law_sum.nd rfl (Or.inl rfl) (zAJ zCc (zAJ zAL (pv 5) (pv 6)) zAD)) (zAC (zDs hu2 (pv 4) (zAc (zAA (pv 5) (zAA (zAJ zAL (pv 7) zAD) zAB))) zAD rfl) (zAE (zAn PassesOwn.never rfl (zAg rfl T.n_range (zAA (pv 5) (zAA (pv 7) (zAA zAD zAB)))) (zAR (i:=8) sc_law_sum.nd rfl (Or.inl rfl)) (zAC (zAN (i:=9) sc_law_sum.nd rfl (Or.inl rfl) (zAJ zAS (zBw hu2 (pv 4) (zAc (zAA (pv 5) (zAA (pv 8) zAB))) (λ_ _=>rfl)) (zBw hu2 (pv 4) (zAc (zAA (zAJ zAL (pv 8) zAD) (zAA (pv 7) zAB))) (λ_ _=>rfl)))) (zAE (zAn PassesOwn.never rfl (zAg rfl T.n_range (zAA zAD (zAA (zAJ zAS (zAJ zAS zAD (pv 0)) (zAr zBA rfl T.n_int PyProof.Rows.boot_int (zAA (zAd zFT (pv 9) zAD (nomark _)) zAB))) (zAA zAD zAB)))) (zAR (i:=10) sc_law_sum.nd rfl (Or.inl rfl)) (zAC (zAN (i:=11) sc_law_sum.nd rfl (Or.inl rfl) (zAw (zFw K) (zA0 (l:=[40,41,91,93,123,125,60,62]) (by decide +kernel)) (zA6 (pv 10)) (zA6 (zAJ zAL (pv 10) zAD)))) (zAC (zAN (i:=12) sc_law_sum.nd rfl (Or.inl rfl) (zAJ zAS (zAr zBA rfl T.n_int PyProof.Rows.boot_int (zAA (zDU (zAd (zDw K) (zAO (zAb K) (pv 1) (pv 8) (λ_ _=>rfl)) (zAc (zAA (zA0 (l:=[63]) (by decide +kernel)) (zAA (zAO (zAb K) (pv 11) zAD (λ_ _=>rfl)) zAB))) (by with_unfolding_all rfl)) (zDT (zAd (zDw K) (zAO (zAb K) (pv 1) (pv 7) (λ_ _=>rfl)) (zAc (zAA (zA0 (l:=[63]) (by decide +kernel)) (zAA (zAO (zAb K) (pv 11) zAD (λ_ _=>rfl)) zAB))) (by with_unfolding_all rfl)))) zAB)) (pv 9))) (zAC (zAN (i:=12) sc_law_sum.nd rfl (Or.inl rfl) (zAJ zAS (pv 12) (zAO (zAb K) (zAq (zAA zAD (zAA (zAO (zAb K) (pv 2) (pv 10) (λ_ _=>rfl)) zAB))) (zAr zBA rfl T.n_int PyProof.Rows.boot_int (zAA (zAd (zAv K hu) (zAO (zAb K) (pv 1) (pv 8) (λ_ _=>rfl)) (zA0 (l:=[63]) (by decide +kernel)) (nomark _)) zAB)) (λ_ _=>rfl)))) (zAC (zAN (i:=12) sc_law_sum.nd rfl (Or.inl rfl) (zAJ zAS (pv 12) (zAO (zAb K) (zAq (zAA zAD (zAA (zAO (zAb K) (pv 2) (zAJ zAL (pv 10) zAD) (λ_ _=>rfl)) zAB))) (zAr zBA rfl T.n_int PyProof.Rows.boot_int (zAA (zAd (zAv K hu) (zAO (zAb K) (pv 1) (pv 7) (λ_ _=>rfl)) (zA0 (l:=[63]) (by decide +kernel)) (nomark _)) zAB)) (λ_ _=>rfl)))) (zAE (zDs hu2 (pv 4) (zAc (zAA (pv 5) (zAA (zAJ zAL (pv 7) zAD) zAB))) (zAJ zAL (zBw hu2 (pv 4) (zAc (zAA (pv 5) (zAA (zAJ zAL (pv 7) zAD) zAB))) (λ_ _=>rfl)) (pv 12)) rfl)))))))))))))))) (zAE (zAU (zBw hu2 (pv 4) (zAc (zAA zAD (zAA (pv 3) zAB))) (λ_ _=>rfl))))))))),?_⟩;walk_at"g";refine ifd (λho=>?_) (λho=>?_)
 ·walk_at"g";have:=q H (Same.refl H);rw[zKw (by omega)]at this;exact this
 have hev:a.length%2=0:=by omega
 walk_at"g";intro d hd;walk_at"g";refine⟨_,rfl,by omega,by omega,?_⟩;have etn:((a.length:Int)+1).toNat=a.length+1:=by omega
 rw[etn];refine zBX (λi σ H'=>∃ (kvs:List (List Key×V)) (o5 o6 o7 o8 o9 o10 o11 o12:Option V),σ=[some (.int kk),some (tx a),some (.ref pw'),some (.int (a.length:Int)),some (.ref d),o5,o6,o7,o8,o9,o10,o11,o12]/\Same H H'/\H' d=some (.dT kvs)/\DS kk.toNat ws a kvs (λx y=>x=y/\x<i)/\kvs.length<=i)
  ⟨[],_,_,_,_,_,_,_,_,rfl,zAG hd _,zAF,λx y h=>absurd h.2 (Nat.not_lt_zero _),Nat.le_refl _⟩ ?_ ?_
 ·rintro i σ H1 hi ⟨kvs,o5,o6,o7,o8,o9,o10,o11,o12,rfl,s1,gd,ds,kl⟩;have ei:(0:Int)+(i:Int)=(i:Int):=by omega
  rw[ei];walk_at"g";refine⟨small (show 2<=1000 by decide),λT2 hT2=>?_⟩;have t4:=zAG hT2 (.tup [.int (i:Int), .int (i:Int)]);have g4:(upd H1 T2 (.tup [.int (i:Int), .int (i:Int)])) T2=_:=zAF;have gd4:=t4 _ _ gd;generalize upd H1 T2 _=H4 at*
  have lk:kvs.length<sizeLine:=by rw[sizeLine_eq];omega
  refine⟨d,_,rfl,DPut.t (k:=ky i i) gd4 g4 lk,?_⟩;refine⟨_,some (.int (i:Int)),o6,o7,o8,o9,o10,o11,o12,rfl,?_,zAF,?_,Nat.le_trans (zBQ _ _ _) (by omega)⟩
  ·exact λb o z=>by rw[zAI (zAH z hd)];exact t4 _ _ (s1 _ _ z)
  ·exact ds.put (λx y h=>(Nat.lt_or_ge x i).elim (λz=> .inl ⟨h.1,z⟩) (λz=> .inr ⟨by omega,by omega⟩)) (by unfold FS;rw[Nat.sub_self];rfl)
 rintro σ H1 ⟨kvs,o5,o6,o7,o8,o9,o10,o11,o12,rfl,s1,gd,ds,kl⟩;walk_at"g";refine⟨_,_,2,rfl,⟨by decide,by decide,zAm (by omega) (by omega) (by omega) (by omega)⟩,?_⟩;have er:rN (2:Int) ((a.length:Int)+1) 2=a.length/2:=by rw[zBV];omega
 rw[er];refine zAx (λu σ H'=>∃ (kvs:List (List Key×V)) (o5 o6 o7 o8 o9 o10 o11 o12:Option V),σ=[some (.int kk),some (tx a),some (.ref pw'),some (.int (a.length:Int)),some (.ref d),o5,o6,o7,o8,o9,o10,o11,o12]/\Same H H'/\H' d=some (.dT kvs)/\DS kk.toNat ws a kvs (PSp a.length (u+1) 0)/\kvs.length<=41+u*41)
  ⟨kvs,_,_,_,_,_,_,_,_,rfl,s1,gd,λx y ⟨t,h1,h2,h3⟩=>ds x y ⟨by omega,by omega⟩,by omega⟩ ?_ ?_
 rotate_left
 ·rintro σ H2 ⟨kvs,o5,o6,o7,o8,o9,o10,o11,o12,rfl,s2,gd,ds,kl⟩;walk_at"g";refine⟨small (show 2<=1000 by decide),λT1 hT1=>?_⟩;refine⟨d,_,rfl,ds.at (i:=0) (j:=a.length) ⟨a.length/2,by omega,by omega, .inl (by omega)⟩ gd hT1,?_⟩;have e:FS kk.toNat ws a 0 a.length=wsm kk.toNat ws a:=by unfold FS wsm;rw[Nat.sub_zero]
  rw[e];exact q _ (s2.trans (zAG hT1 _))
 clear gd ds kl;rintro u σ H2 hu3 ⟨kvs,p5,p6,p7,p8,p9,p10,p11,p12,rfl,s2,gd,ds,kl⟩;have es:(2:Int)+(u:Int)*2=((2*u+2:Nat):Int):=by omega
 rw[es];walk_at"g";refine⟨_,rfl,by omega,by omega,?_⟩;have en:((a.length:Int)-((2*u+2:Nat):Int)+1).toNat=a.length-(2*u+2)+1:=by omega
 rw[en];refine zBX (λi σ H'=>∃ (kvs:List (List Key×V)) (o5 o7 o8 o9 o10 o11 o12:Option V),σ=[some (.int kk),some (tx a),some (.ref pw'),some (.int (a.length:Int)),some (.ref d),o5,some (.int ((2*u+2:Nat):Int)),o7,o8,o9,o10,o11,o12]/\Same H H'/\H' d=some (.dT kvs)/\DS kk.toNat ws a kvs (PSp a.length (u+1) i)/\kvs.length<=41+u*41+i)
  ⟨kvs,_,_,_,_,_,_,_,rfl,s2,gd,ds,by omega⟩ ?_ ?_
 rotate_left
 ·rintro σ H3 ⟨kvs,o5,o7,o8,o9,o10,o11,o12,rfl,s3,gd,ds,kl⟩;exact⟨kvs,_,_,_,_,_,_,_,_,rfl,s3,gd,λx y ⟨t,h1,h2,h3⟩=>ds x y ⟨t,h1,h2,by omega⟩,by omega⟩
 clear gd ds kl;rintro i σ H3 hi ⟨kvs,o5,o7,o8,o9,o10,o11,o12,rfl,s3,gd,ds,kl⟩;have ei:(0:Int)+(i:Int)=(i:Int):=by omega
 rw[ei];walk_at"g";obtain⟨last,elast⟩:∃last:Nat,last=i+2*u+1:=⟨_,rfl⟩;have el:(i:Int)+((2*u+2:Nat):Int)-1=(last:Int):=by omega
 rw[el];rw[show((last:Int)+1)=((last+1:Nat):Int) by omega];refine⟨small (show 2<=1000 by decide),λT4 hT4=>?_⟩;have t4:=zAG hT4 (.tup [.int (i:Int), .int ((last+1:Nat):Int)]);have g4:(upd H3 T4 (.tup [.int (i:Int), .int ((last+1:Nat):Int)])) T4=_:=zAF;have gd4:=t4 _ _ gd;have lk:kvs.length<sizeLine:=by rw[sizeLine_eq];omega
 generalize upd H3 T4 _=H4 at*
 refine⟨d,_,rfl,DPut.t (k:=ky i (last+1)) gd4 g4 lk,?_⟩;have nP:¬PSp a.length (u+1) i i (last+1):=λ⟨t,h1,h2,h3⟩=>by omega
 have v5:valV (putK kvs (ky i (last+1)) (.int 0)) (ky i (last+1))=some (.int (S33 (Pw ws a) kk.toNat i u 0 0)):=by rw[zCP,if_pos rfl,zKL]
 have ds5:=ds.off (v:= .int 0) nP;have kl5:(putK kvs (ky i (last+1)) (.int 0)).length<=41+u*41+(i+1):=Nat.le_trans (zBQ _ _ _) (by omega);have s5:Same H (upd H4 d (.dT (putK kvs (ky i (last+1)) (.int 0)))):=λb o z=>by rw[zAI (zAH z hd)];exact t4 _ _ (s3 _ _ z)
 have gd5:(upd H4 d (.dT (putK kvs (ky i (last+1)) (.int 0)))) d=_:=zAF;generalize putK kvs (ky i (last+1)) (.int 0)=kvs5 at*
 generalize upd H4 d _=H5 at*
 clear s3 gd ds kl t4 g4 gd4 lk;walk_at"g";refine⟨_,_,2,rfl,⟨by decide,by decide,zAm (by omega) (by omega) (by omega) (by omega)⟩,?_⟩;have er2:rN (i:Int) (last:Int) 2=u+1:=by rw[zBV];omega
 rw[er2];refine zAx (λt σ H'=>∃ (kvs:List (List Key×V)) (o8 o9 o10 o11 o12:Option V),σ=[some (.int kk),some (tx a),some (.ref pw'),some (.int (a.length:Int)),some (.ref d),some (.int (i:Int)),some (.int ((2*u+2:Nat):Int)),some (.int (last:Int)),o8,o9,o10,o11,o12]/\Same H H'/\H' d=some (.dT kvs)/\DS kk.toNat ws a kvs (PSp a.length (u+1) i)/\kvs.length<=41+u*41+(i+1)/\valV kvs (ky i (last+1))=some (.int (S33 (Pw ws a) kk.toNat i u t 0)))
  ⟨kvs5,_,_,_,_,_,rfl,s5,gd5,ds5,kl5,v5⟩ ?_ ?_
 rotate_left
 ·rintro σ H6 ⟨kvs,o8,o9,o10,o11,o12,rfl,s6,gd,ds,kl,v6⟩;refine⟨kvs,_,_,_,_,_,_,_,rfl,s6,gd,λx y ⟨t',h1,h2,h3⟩=>?_,kl⟩
  by_cases c:t'=u+1/\x=i
  ·obtain⟨rfl,rfl⟩:=c;have ey:y=last+1:=by omega
   subst ey;rw[v6,zL6];unfold FS;rw[show last+1-x=2*(u+1) by omega]
  ·exact ds x y ⟨t',h1,h2,by omega⟩
 clear s5 gd5 ds5 kl5 v5;rintro t σ H6 ht ⟨kvs,o8,o9,o10,o11,o12,rfl,s6,gd,ds,kl,v6⟩;obtain⟨m,em⟩:∃m:Nat,m=i+2*t:=⟨_,rfl⟩;have em2:(i:Int)+(t:Int)*2=(m:Int):=by omega
 rw[em2];walk_at"g";refine⟨small (show 2<=1000 by decide),λT7 hT7=>?_⟩;refine⟨d,_,rfl,ds.at (i:=i) (j:=m) ⟨t,by omega,by omega, .inl (by omega)⟩ gd hT7,?_⟩;have t7:=zAG hT7 (.tup [.int (i:Int), .int (m:Int)]);have gd7:=t7 _ _ gd;have s7:=s6.trans t7;generalize upd H6 T7 _=H7 at*
 walk_at"g";rw[show((m:Int)+1)=((m+1:Nat):Int) by omega];refine⟨small (show 2<=1000 by decide),λT8 hT8=>?_⟩;refine⟨d,_,rfl,ds.at (i:=m+1) (j:=last) ⟨u-t,by omega,by omega, .inl (by omega)⟩ gd7 hT8,?_⟩;have t8:=zAG hT8 (.tup [.int ((m+1:Nat):Int), .int (last:Int)]);have gd8:=t8 _ _ gd7;have s8:=s7.trans t8;generalize upd H7 T8 _=H8 at*
 have b1:=zKu (a:=a) (i:=i) (j:=m) k1 k4 hwl hsm (by omega);have b2:=zKu (a:=a) (i:=m+1) (j:=last) k1 k4 hwl hsm (by omega);refine zAi (zAf b1.1 b1.2 zCO) (zAf b2.1 b2.2 zCO) ?_;have eF1:FS kk.toNat ws a i m=cv (Pw ws a) kk.toNat (2*t) i []:=by unfold FS;rw[show m-i=2*t by omega]
 have eF2:FS kk.toNat ws a (m+1) last=cv (Pw ws a) kk.toNat (2*(u-t)) (i+2*t+1) []:=by unfold FS;rw[show last-(m+1)=2*(u-t) by omega,em]
 obtain⟨both,eboth⟩:∃both:Int,both=FS kk.toNat ws a i m*FS kk.toNat ws a (m+1) last:=⟨_,rfl⟩;have bb:0<=both/\both<=cap*cap:=by
  rw[eboth];exact⟨Int.mul_nonneg b1.1 b2.1,Int.mul_le_mul b1.2 b2.2 b2.1 (Int.le_trans b1.1 b1.2)⟩
 rw[<-eboth];clear t7 t8 gd7 s7;walk_at"g";refine zAi (bigS (by decide)) (bigS (by omega)) ?_;walk_at"g";obtain⟨nq,enq⟩:∃nq:Nat,nq=if 0<both then kk.toNat else 0:=⟨_,rfl⟩
 obtain⟨mq,emq⟩:∃mq:Int,mq=if decide (0<both)=true then(1:Int)else 0:=⟨_,rfl⟩
 rw[<-emq];have hmq:(mq=1/\nq=kk.toNat/\0<both)\/(mq=0/\nq=0/\both=0):=by
  by_cases c:0<both
  ·rw[decide_eq_true c]at emq;rw[if_pos c]at enq;exact .inl ⟨emq,enq,c⟩
  ·rw[decide_eq_false c]at emq;rw[if_neg c]at enq;exact .inr ⟨emq,enq,by omega⟩
 clear emq enq;refine zAi (bigS (by omega)) (bigS (by omega)) ?_;have er3:rN (0:Int) (2*kk*mq) 2=nq:=by
  rcases hmq with⟨h1,h2,_⟩|⟨h1,h2,_⟩
  ·rw[zBV,h1,h2];omega
  ·rw[zBV,h1,h2];omega
 have hm2:0<=2*kk*mq/\2*kk*mq<=8:=by rcases hmq with⟨h1,_⟩|⟨h1,_⟩<;>rw[h1]<;>omega
 walk_at"g";refine⟨_,_,2,rfl,⟨by decide,by decide,zAm (by omega) (by omega) (by omega) (by omega)⟩,?_⟩;rw[er3];have hnq:nq<=kk.toNat:=by rcases hmq with⟨_,h2,_⟩|⟨_,h2,_⟩<;>omega
 refine zAx (λw σ H'=>∃ (kvs:List (List Key×V)) (o10 o11 o12:Option V),σ=[some (.int kk),some (tx a),some (.ref pw'),some (.int (a.length:Int)),some (.ref d),some (.int (i:Int)),some (.int ((2*u+2:Nat):Int)),some (.int (last:Int)),some (.int (m:Int)),some (.int both),o10,o11,o12]/\Same H H'/\H' d=some (.dT kvs)/\DS kk.toNat ws a kvs (PSp a.length (u+1) i)/\kvs.length<=41+u*41+(i+1)/\valV kvs (ky i (last+1))=some (.int (S33 (Pw ws a) kk.toNat i u t w)))
  ⟨kvs,_,_,_,rfl,s8,gd8,ds,kl,v6⟩ ?_ ?_
 rotate_left
 ·rintro σ H9 ⟨kvs,o10,o11,o12,rfl,s9,gd9,ds9,kl9,v9⟩;refine⟨kvs,_,_,_,_,_,rfl,s9,gd9,ds9,kl9,?_⟩;rw[v9];rcases hmq with⟨_,h2,_⟩|⟨_,h2,h3⟩
  ·rw[h2,zHO]
  ·rw[h2,zKM (by rw[<-eF1,<-eF2,<-eboth];exact h3)]
 clear s6 gd ds kl v6 s8 gd8;rintro w σ H9 hw9 ⟨kvs,o10,o11,o12,rfl,s9,gd9,ds9,kl9,v9⟩;have hwk:w<kk.toNat:=by omega
 have ew:(0:Int)+(w:Int)*2=((2*w:Nat):Int):=by omega
 rw[ew];walk_at"g";have ecut:cutL [40,41,91,93,123,125,60,62] (some ((2*w:Nat):Int)) (some (((2*w:Nat):Int)+2))=[brs.getD (2*w) 0,brs.getD (2*w+1) 0]:=by
  rw[show(((2*w:Nat):Int)+2)=((2*w+2:Nat):Int) by omega];exact zGz (by omega)
 rw[ecut];obtain⟨c,hc⟩:∃c,a[m]? =some c:=⟨_,List.getElem?_eq_getElem (by omega)⟩;obtain⟨e,he⟩:∃e,a[last]? =some e:=⟨_,List.getElem?_eq_getElem (by omega)⟩;have ec:a.getD m 0=c:=by rw[List.getD_eq_getElem?_getD,hc];rfl
 have ee:a.getD last 0=e:=by rw[List.getD_eq_getElem?_getD,he];rfl
 have hw2:2*w+1<ws.length:=by omega
 have wx:∀j,j<ws.length->atI (ws.map V.int) (j:Int)=some (V.int (ws.getD j 0)):=λj hj=>zAM (by rw[List.getElem?_map,List.getElem?_eq_getElem hj,List.getD_eq_getElem?_getD,List.getElem?_eq_getElem hj];rfl);have rest:∀ {D:Ends} (f:Int) (G:Hp),f=(if(c=63\/c=brs.getD (2*w) 0)/\(e=63\/e=brs.getD (2*w+1) 0)then(1:Int)else 0)->Same H G->G d=some (.dT kvs)->
  (∀σ' G',(∃ (kvs:List (List Key×V)) (o10 o11 o12:Option V),σ'=[some (.int kk),some (tx a),some (.ref pw'),some (.int (a.length:Int)),some (.ref d),some (.int (i:Int)),some (.int ((2*u+2:Nat):Int)),some (.int (last:Int)),some (.int (m:Int)),some (.int both),o10,o11,o12]/\Same H G'/\G' d=some (.dT kvs)/\DS kk.toNat ws a kvs (PSp a.length (u+1) i)/\kvs.length<=41+u*41+(i+1)/\valV kvs (ky i (last+1))=some (.int (S33 (Pw ws a) kk.toNat i u t (w+1))))->D.nx σ' G')->
  (tSeq
    (tAsg
      (tOp rTimesW (tVar 12)
        (tOp (rIxA K) (tLst (tCons (tC (V.int 1)) (tCons (tOp (rIxA K) (tVar 2) (tVar 10)) tNil)))
          (tCB rInt (tCons (tOp (rEqA K) (tOp (rIxA K) (tVar 1) (tVar 8)) (tC (tx [63]))) tNil))))
      (gName 12))
    (tSeq
      (tAsg
        (tOp rTimesW (tVar 12)
          (tOp (rIxA K)
            (tLst
              (tCons (tC (V.int 1))
                (tCons (tOp (rIxA K) (tVar 2) (tOp rPlus (tVar 10) (tC (V.int 1)))) tNil)))
            (tCB rInt (tCons (tOp (rEqA K) (tOp (rIxA K) (tVar 1) (tVar 7)) (tC (tx [63]))) tNil))))
        (gName 12))
      (sDPut (tVar 4) (tTup (tCons (tVar 5) (tCons (tOp rPlus (tVar 7) (tC (V.int 1))) tNil)))
        (tOp rPlus (tDGet (tVar 4) (tTup (tCons (tVar 5) (tCons (tOp rPlus (tVar 7) (tC (V.int 1))) tNil))))
          (tVar 12))))) D [some (.int kk),some (tx a),some (.ref pw'),some (.int (a.length:Int)),some (.ref d),some (.int (i:Int)),some (.int ((2*u+2:Nat):Int)),some (.int (last:Int)),some (.int (m:Int)),some (.int both),some (.int ((2*w:Nat):Int)),some (tx [brs.getD (2*w) 0,brs.getD (2*w+1) 0]),some (.int (f*both))] G:=by
  intro D f G hf sG gG hD;have hf01:0<=f/\f<=1:=by rw[hf];split<;>omega
  have cc0:(0:Int)<=cap*cap:=Int.le_trans bb.1 bb.2;have q1:0<=f*both/\f*both<=cap*cap:=by
   refine⟨Int.mul_nonneg hf01.1 bb.1,?_⟩;have:=Int.mul_le_mul hf01.2 bb.2 bb.1 (by decide);rwa[Int.one_mul]at this
  have w1:=hsm.at (2*w);have w2:=hsm.at (2*w+1);have hwG:G pw'=some (.lst (ws.map V.int)):=sG _ _ hw;walk_at"g";refine zAZ (SqL.of hwG) (wx (2*w) (by omega)) ?_;walk_at"g";refine⟨small (show 2<=1000 by decide),λl1 hl1=>?_⟩;have t1:=zAG hl1 (.lst [.int 1, .int (ws.getD (2*w) 0)]);have g1:(upd G l1 (.lst [.int 1, .int (ws.getD (2*w) 0)])) l1=_:=zAF;have sG1:=sG.trans t1;have gG1:=t1 _ _ gG;have hwG1:=t1 _ _ hwG;generalize upd G l1 _=G1 at*
  walk_at"g";refine zBe (small (by omega)) (zAM hc) ?_;walk_at"g";obtain⟨v1,ev1⟩:∃v1:Int,v1=if c=63 then ws.getD (2*w) 0 else 1:=⟨_,rfl⟩
  have b1':0<=v1/\v1<=top30:=by rw[ev1];split;exact w1;exact⟨by decide,by decide⟩
  refine zAZ (SqL.of g1) (v:= .int v1) (by rw[ev1];by_cases z:c=63<;>simp[z]<;>rfl) ?_;refine zAi (bigI q1.1 q1.2 (by have:=zKE;unfold cap top30 big at*;decide +kernel)) (bigI b1'.1 b1'.2 (by unfold top30 big;decide +kernel)) ?_;have q2:0<=f*both*v1/\f*both*v1<=cap*cap*top30:=⟨Int.mul_nonneg q1.1 b1'.1,Int.mul_le_mul q1.2 b1'.2 b1'.1 cc0⟩;walk_at"g";rw[show(((2*w:Nat):Int)+1)=((2*w+1:Nat):Int) by omega];refine zAZ (SqL.of hwG1) (wx (2*w+1) (by omega)) ?_;walk_at"g";refine⟨small (show 2<=1000 by decide),λl2 hl2=>?_⟩;have t2:=zAG hl2 (.lst [.int 1, .int (ws.getD (2*w+1) 0)]);have g2:(upd G1 l2 (.lst [.int 1, .int (ws.getD (2*w+1) 0)])) l2=_:=zAF;have sG2:=sG1.trans t2;have gG2:=t2 _ _ gG1;generalize upd G1 l2 _=G2 at*
  walk_at"g";refine zBe (small (by omega)) (zAM he) ?_;walk_at"g";obtain⟨v2,ev2⟩:∃v2:Int,v2=if e=63 then ws.getD (2*w+1) 0 else 1:=⟨_,rfl⟩
  have b2':0<=v2/\v2<=top30:=by rw[ev2];split;exact w2;exact⟨by decide,by decide⟩
  refine zAZ (SqL.of g2) (v:= .int v2) (by rw[ev2];by_cases z:e=63<;>simp[z]<;>rfl) ?_;refine zAi (bigI q2.1 q2.2 (by unfold cap top30 big;decide +kernel)) (bigI b2'.1 b2'.2 (by unfold top30 big;decide +kernel)) ?_;walk_at"g";rw[show((last:Int)+1)=((last+1:Nat):Int) by omega];refine⟨small (show 2<=1000 by decide),λT5 hT5=>?_⟩;refine⟨d,_,rfl,zD9 v9 gG2 hT5,?_⟩;have t5:=zAG hT5 (.tup [.int (i:Int), .int ((last+1:Nat):Int)]);have sG5:=sG2.trans t5;have gG5:=t5 _ _ gG2;generalize upd G2 T5 _=G5 at*
  walk_at"g";rw[show((last:Int)+1)=((last+1:Nat):Int) by omega];refine⟨small (show 2<=1000 by decide),λT6 hT6=>?_⟩;have t6:=zAG hT6 (.tup [.int (i:Int), .int ((last+1:Nat):Int)]);have g6:(upd G5 T6 (.tup [.int (i:Int), .int ((last+1:Nat):Int)])) T6=_:=zAF;have sG6:=sG5.trans t6;have gG6:=t6 _ _ gG5;generalize upd G5 T6 _=G6 at*
  have lk:kvs.length<sizeLine:=by rw[sizeLine_eq];omega
  refine⟨d,_,rfl,DPut.t (k:=ky i (last+1)) gG6 g6 lk,?_⟩;refine hD _ _ ⟨_,some (.int ((2*w:Nat):Int)),_,_,rfl,λb o z=>by rw[zAI (zAH z hd)];exact sG6 _ _ z,zAF,ds9.off nP,by rw[zGt v9];exact kl9,?_⟩;rw[zCP,if_pos rfl];have p1:=zDi (ws:=ws) (a:=a) (i:=m) (b:=2*w) (by omega) (by omega) (by omega);have p2:=zDi (ws:=ws) (a:=a) (i:=last) (b:=2*w+1) (by omega) (by omega) (by omega);rw[ec,<-ev1]at p1;rw[ee,<-ev2]at p2;have em':i+2*t=m:=em.symm;have el':i+2*u+1=last:=elast.symm;have ef:f=(if c=63\/c=brs.getD (2*w) 0 then(1:Int)else 0)*(if e=63\/e=brs.getD (2*w+1) 0 then 1 else 0):=by
   rw[hf]
   by_cases y1:c=63\/c=brs.getD (2*w) 0
   ·by_cases y2:e=63\/e=brs.getD (2*w+1) 0
    ·rw[if_pos ⟨y1,y2⟩,if_pos y1,if_pos y2];rfl
    ·rw[if_neg (λz=>y2 z.2),if_pos y1,if_neg y2];rfl
   ·rw[if_neg (λz=>y1 z.1),if_neg y1,Int.zero_mul]
  rw[zKN,<-eF1,<-eF2,<-eboth,em',el',p1,p2,ef];congr 2;generalize(if c=63\/c=brs.getD (2*w) 0 then(1:Int)else 0)=x1;generalize(if e=63\/e=brs.getD (2*w+1) 0 then(1:Int)else 0)=x2;congr 1;rw[show x1*x2*both*v1*v2=both*(x1*v1*(x2*v2)) by simp only[Int.mul_comm,Int.mul_left_comm,Int.mul_assoc]]
 refine zBe (small (by omega)) (zAM hc) ?_;walk_at"g";refine zBe (small (show 2<=1000 by decide)) (c:=brs.getD (2*w) 0) rfl ?_;walk_at"g";refine⟨small (show 2<=1000 by decide),λT3 hT3=>?_⟩;have t10:=zAG hT3 (.tup [tx [63],tx [brs.getD (2*w) 0]]);refine zJe (.inr (SqT.of zAF)) rfl rfl ?_;rw[zIp];have s10:=s9.trans t10;have gd10:=t10 _ _ gd9;generalize upd H9 T3 _=H10 at*
 walk_at"g"
 by_cases z1:c=63\/c=brs.getD (2*w) 0
 ·rw[decide_eq_true z1];refine ifp rfl ?_;walk_at"g";refine zBe (small (by omega)) (zAM he) ?_;walk_at"g";refine zBe (small (show 2<=1000 by decide)) (c:=brs.getD (2*w+1) 0) rfl ?_;walk_at"g";refine⟨small (show 2<=1000 by decide),λT4 hT4=>?_⟩;have t11:=zAG hT4 (.tup [tx [63],tx [brs.getD (2*w+1) 0]]);refine zJe (.inr (SqT.of zAF)) rfl rfl ?_;rw[zIp];have s11:=s10.trans t11;have gd11:=t11 _ _ gd10;generalize upd H10 T4 _=H11 at*
  walk_at"g";refine zAi (bigS (by split<;>decide)) (bigI bb.1 bb.2 (by unfold cap top30 big;decide +kernel)) ?_;refine rest _ H11 ?_ s11 gd11 (λσ' G' h=>h)
  by_cases z2:e=63\/e=brs.getD (2*w+1) 0
  ·rw[decide_eq_true z2];exact(if_pos ⟨z1,z2⟩).symm
  ·rw[decide_eq_false z2];exact(if_neg (λz=>z2 z.2)).symm
 ·rw[decide_eq_false z1];refine ifq rfl ?_;walk_at"g";refine zAi (bigS (by decide)) (bigI bb.1 bb.2 (by unfold cap top30 big;decide +kernel)) ?_;refine rest _ H10 ?_ s10 gd10 (λσ' G' h=>h);exact(if_neg (λz=>z1 z.1)).symm
theorem sc_law_first:FnScope ["kinds","row","weights","many","best","i","size","last","m","place","pair","weight","fits","made"] ["kinds","row","weights"] (defScope zB7):=scM
theorem zFY(F:Fun K "_law_first" "_law_first" zB7 f fd)(T:Txt K mg aK cs):FnOk P w K mg base CX0 (k+1) f fd ["kinds","row","weights"] (spFirst33):=by
 refine F.ok sc_law_first (λvs H Q E h=>?_) (λcdv A outer s H vs Q E hr h=>?_)
 ·obtain⟨kk,a,ws,p,rfl,_⟩:=h;rfl
 obtain⟨kk,a,ws,pw',rfl,k1,k4,hro,hw,hwl,hsm,q⟩:=h;have hu:=hr.units0;have hu2:=units1 hr;have hu5:=units5 hr;have hal:=zAz hro;have hk4:kk.toNat<=4:=by omega
 have hP:∀i b,0<=Pw ws a i b:=λi b=>(zAW (λl hl'=>(zAe k1 k4 hwl hsm l hl').2) i b).1;refine⟨_,(zAC (zAN (i:=3) sc_law_first.nd rfl (Or.inl rfl) (zAQ (zAV K) rfl T.n_len PySem.boot_len (zAA (pv 1) zAB))) (zAC (zAN (i:=4) sc_law_first.nd rfl (Or.inl rfl) zGw) (zAC (zAn PassesOwn.never rfl (zAk rfl T.n_range (zAA (zAJ zAL (pv 3) zAD) zAB)) (zAR (i:=5) sc_law_first.nd rfl (Or.inl rfl)) (zAE (zDs hu2 (pv 4) (zAc (zAA (pv 5) (zAA (pv 5) zAB))) (zAc (zAA (zFP zDP zAD) (zAA (zAq zAB) zAB))) rfl))) (zAC (zAn PassesOwn.never rfl (zAg rfl T.n_range (zAA zAD (zAA (zAJ zCc (zAJ zAL (pv 3) zAD) (zAJ zCH (pv 3) zAD)) (zAA zAD zAB)))) (zAR (i:=6) sc_law_first.nd rfl (Or.inl rfl)) (zAE (zAn PassesOwn.never rfl (zAk rfl T.n_range (zAA (zAJ zAL (zAJ zCc (pv 3) (pv 6)) zAD) zAB)) (zAR (i:=5) sc_law_first.nd rfl (Or.inl rfl)) (zAC (zAN (i:=7) sc_law_first.nd rfl (Or.inl rfl) (zAJ zCc (zAJ zAL (pv 5) (pv 6)) zAD)) (zAE (zAn PassesOwn.never rfl (zAg rfl T.n_range (zAA (pv 5) (zAA (pv 7) (zAA zAD zAB)))) (zAR (i:=8) sc_law_first.nd rfl (Or.inl rfl)) (zAE (zAn PassesOwn.never rfl (zAg rfl T.n_range (zAA zAD (zAA (zAJ zAS (zAJ zAS zAD (pv 0)) (zAr zBA rfl T.n_int PyProof.Rows.boot_int (zAA (zDU (zKd (zKe hu2 (zAc (zAA (pv 5) (zAA (pv 8) zAB))) (pv 4)) (by with_unfolding_all rfl)) (zDT (zKd (zKe hu2 (zAc (zAA (zAJ zAL (pv 8) zAD) (zAA (pv 7) zAB))) (pv 4)) (by with_unfolding_all rfl)))) zAB))) (zAA zAD zAB)))) (zAR (i:=9) sc_law_first.nd rfl (Or.inl rfl)) (zAC (zAN (i:=10) sc_law_first.nd rfl (Or.inl rfl) (zAw (zFw K) (zA0 (l:=[40,41,91,93,123,125,60,62]) (by decide +kernel)) (zA6 (pv 9)) (zA6 (zAJ zAL (pv 9) zAD)))) (zAC (zAN (i:=11) sc_law_first.nd rfl (Or.inl rfl) (zAJ zCc zAD (zAJ zAS (zAO (zAb K) (zBw hu2 (pv 4) (zAc (zAA (pv 5) (zAA (pv 8) zAB))) (λ_ _=>rfl)) zAD (λ_ _=>rfl)) (zAO (zAb K) (zBw hu2 (pv 4) (zAc (zAA (zAJ zAL (pv 8) zAD) (zAA (pv 7) zAB))) (λ_ _=>rfl)) zAD (λ_ _=>rfl))))) (zAC (zAN (i:=11) sc_law_first.nd rfl (Or.inl rfl) (zAJ zAS (pv 11) (zAO (zAb K) (zAq (zAA zAD (zAA (zAO (zAb K) (pv 2) (pv 9) (λ_ _=>rfl)) zAB))) (zAr zBA rfl T.n_int PyProof.Rows.boot_int (zAA (zAd (zAv K hu) (zAO (zAb K) (pv 1) (pv 8) (λ_ _=>rfl)) (zA0 (l:=[63]) (by decide +kernel)) (nomark _)) zAB)) (λ_ _=>rfl)))) (zAC (zAN (i:=11) sc_law_first.nd rfl (Or.inl rfl) (zAJ zAS (pv 11) (zAO (zAb K) (zAq (zAA zAD (zAA (zAO (zAb K) (pv 2) (zAJ zAL (pv 9) zAD) (λ_ _=>rfl)) zAB))) (zAr zBA rfl T.n_int PyProof.Rows.boot_int (zAA (zAd (zAv K hu) (zAO (zAb K) (pv 1) (pv 7) (λ_ _=>rfl)) (zA0 (l:=[63]) (by decide +kernel)) (nomark _)) zAB)) (λ_ _=>rfl)))) (zAC (zAN (i:=12) sc_law_first.nd rfl (Or.inl rfl) (zDU (zAd (zDw K) (zAO (zAb K) (pv 1) (pv 8) (λ_ _=>rfl)) (zAc (zAA (zA0 (l:=[63]) (by decide +kernel)) (zAA (zAO (zAb K) (pv 10) zAD (λ_ _=>rfl)) zAB))) (by with_unfolding_all rfl)) (zDT (zAd (zDw K) (zAO (zAb K) (pv 1) (pv 7) (λ_ _=>rfl)) (zAc (zAA (zA0 (l:=[63]) (by decide +kernel)) (zAA (zAO (zAb K) (pv 10) zAD (λ_ _=>rfl)) zAB))) (by with_unfolding_all rfl))))) (zAC (zAN (i:=13) sc_law_first.nd rfl (Or.inl rfl) (zAc (zAA (pv 11) (zAA (zAJ zAL (zAJ zAL (zAJ zAL (zAO (zAb K) (zBw hu2 (pv 4) (zAc (zAA (pv 5) (zAA (pv 8) zAB))) (λ_ _=>rfl)) zAD (λ_ _=>rfl)) (zAq (zAA (pv 9) zAB))) (zAO (zAb K) (zBw hu2 (pv 4) (zAc (zAA (zAJ zAL (pv 8) zAD) (zAA (pv 7) zAB))) (λ_ _=>rfl)) zAD (λ_ _=>rfl))) (zAq (zAA (zAJ zAL (pv 9) zAD) zAB))) zAB)))) (zAE (zAh (PW.pt (zDS (zA4 K (pv 12)) (zDS (zAP zIX (pv 11) zAD (nomark _)) (zCg (zAP (zM2 hu5) (pv 13) (zJr hu2 (pv 4) (zAc (zAA (pv 5) (zAA (zAJ zAL (pv 7) zAD) zAB))) (zAc (zAA zAD (zAA (zAq zAB) zAB))) ⟨rfl,rfl,rfl,rfl⟩) (nomark _)))))) (zAE (zDs hu2 (pv 4) (zAc (zAA (pv 5) (zAA (zAJ zAL (pv 7) zAD) zAB))) (pv 13) rfl)) zAT)))))))))))))))) (zAC (zAh (PW.pt (zBO (zAP (zAv K hu) (zAJ zCH (pv 3) zAD) zAD (nomark _)) (zA8 (zMl (zIR hu2 (zAc (zAA zAD (zAA (pv 3) zAB))) (pv 4)) (by with_unfolding_all rfl))))) (zAE (zAU zAu)) zAT) (zAE (zAU (zAc (zAA (zAJ zCc zAD (zAO (zAb K) (zBw hu2 (pv 4) (zAc (zAA zAD (zAA (pv 3) zAB))) (λ_ _=>rfl)) zAD (λ_ _=>rfl))) (zAA (zBy K PySem.F.plainAttrs_str PySem.F.slot_str_join PySem.F.type_str_join (zEz K) (zA0 (l:=[]) (by decide +kernel)) (zAA (zBx (own:=["place"]) (sel:=[]) (zAs (osc:=(defScope zB7)) (N:=["kinds","row","weights","many","best","i","size","last","m","place","pair","weight","fits","made"]) (by decide +kernel)) rfl (zCU K (zAO (zAb K) (zBw hu2 (pv 4) (zAc (zAA zAD (zAA (pv 3) zAB))) (λ_ _=>rfl)) zAD (λ_ _=>rfl))) (λ_ _ _ _ _=>(zAR (i:=0) (show(["place"]:List Str).Nodup from by decide +kernel) rfl (Or.inl rfl))) (zBH (by decide)) (λ_ _ _ _ _=>zBF) (λ_ _ _ _ _=>(zAO (zAb K) (zA0 (l:=[40,41,91,93,123,125,60,62]) (by decide +kernel)) (pv 0) (λ_ _=>rfl)))) zAB)) zAB)))))))))),?_⟩;walk_at"g";intro d hd;walk_at"g";refine⟨_,rfl,by omega,by omega,?_⟩;have etn:((a.length:Int)+1).toNat=a.length+1:=by omega
 rw[etn];refine zBX (λi σ H'=>∃ (kvs:List (List Key×V)) (o5 o6 o7 o8 o9 o10 o11 o12 o13:Option V),σ=[some (.int kk),some (tx a),some (.ref pw'),some (.int (a.length:Int)),some (.ref d),o5,o6,o7,o8,o9,o10,o11,o12,o13]/\Same H H'/\H' d=some (.dT kvs)/\BD kk.toNat (Pw ws a) d H' kvs (λx y=>x=y/\x<i)/\kvs.length<=i)
  ⟨[],_,_,_,_,_,_,_,_,_,rfl,zAG hd _,zAF,λx y=>⟨λh=>absurd h.2 (Nat.not_lt_zero _),λ_=>rfl⟩,Nat.le_refl _⟩ ?_ ?_
 ·rintro i σ H1 hi ⟨kvs,o5,o6,o7,o8,o9,o10,o11,o12,o13,rfl,s1,gd,bd,kl⟩;have ei:(0:Int)+(i:Int)=(i:Int):=by omega
  rw[ei];walk_at"g";refine⟨small (show 0<=1000 by decide),λp hp=>?_⟩;have t2:=zAG hp (.lst []);have g2:(upd H1 p (.lst [])) p=some (.lst (nL [])):=zAF;have npd:p≠d:=(zAH gd hp).symm;have gd2:=t2 _ _ gd;generalize upd H1 p _=H2 at*
  walk_at"g";refine⟨small (show 2<=1000 by decide),λT1 hT1=>?_⟩;have t3:=zAG hT1 (.tup [.int (-1), .ref p]);have g3:(upd H2 T1 (.tup [.int (-1), .ref p])) T1=_:=zAF;have ntd:T1≠d:=(zAH gd2 hT1).symm;have gd3:=t3 _ _ gd2;generalize upd H2 T1 _=H3 at*
  walk_at"g";refine⟨small (show 2<=1000 by decide),λT2 hT2=>?_⟩;have t4:=zAG hT2 (.tup [.int (i:Int), .int (i:Int)]);have g4:(upd H3 T2 (.tup [.int (i:Int), .int (i:Int)])) T2=_:=zAF;have gd4:=t4 _ _ gd3;have t24:=(t2.trans t3).trans t4;generalize upd H3 T2 _=H4 at*
  have lk:kvs.length<sizeLine:=by rw[sizeLine_eq];omega
  refine⟨d,_,rfl,DPut.t (k:=ky i i) gd4 g4 lk,?_⟩;refine⟨_,some (.int (i:Int)),o6,o7,o8,o9,o10,o11,o12,o13,rfl,?_,zAF,?_,Nat.le_trans (zBQ _ _ _) (by omega)⟩
  ·exact λb o z=>by rw[zAI (zAH z hd)];exact t24 _ _ (s1 _ _ z)
  ·exact(((bd.keep (SameBut1.of t24)).one i i).put (.ref T1)).all ⟨some (1,[]),zHN i _,Ent.new (w:=1) ntd npd (t4 _ _ g3) (t4 _ _ (t3 _ _ g2)) kvs i i⟩ (λx y=>⟨λh=>(Nat.lt_or_ge x i).elim (λz=> .inl ⟨h.1,z⟩) (λz=> .inr ⟨by omega,by omega⟩),λh=>by rcases h with h|h<;>exact⟨by omega,by omega⟩⟩)
 rintro σ H1 ⟨kvs,o5,o6,o7,o8,o9,o10,o11,o12,o13,rfl,s1,gd,bd,kl⟩;walk_at"g";refine⟨_,_,2,rfl,⟨by decide,by decide,zAm (by omega) (by omega) (by omega) (by omega)⟩,?_⟩;have er:rN (2:Int) ((a.length:Int)+1-(a.length:Int)%2) 2=a.length/2:=by rw[zBV];omega
 rw[er];refine zAx (λu σ H'=>∃ (kvs:List (List Key×V)) (o5 o6 o7 o8 o9 o10 o11 o12 o13:Option V),σ=[some (.int kk),some (tx a),some (.ref pw'),some (.int (a.length:Int)),some (.ref d),o5,o6,o7,o8,o9,o10,o11,o12,o13]/\Same H H'/\H' d=some (.dT kvs)/\BD kk.toNat (Pw ws a) d H' kvs (PSp a.length (u+1) 0)/\kvs.length<=41+u*41)
  ⟨kvs,_,_,_,_,_,_,_,_,_,rfl,s1,gd,λx y=>⟨λ⟨t,h1,h2,h3⟩=>(bd x y).1 ⟨by omega,by omega⟩,λhn=>(bd x y).2 λz=>hn ⟨0,by omega,by omega,by omega⟩⟩,by omega⟩ ?_ ?_
 rotate_left
 ·rintro σ H2 ⟨kvs,o5,o6,o7,o8,o9,o10,o11,o12,o13,rfl,s2,gd,bd,kl⟩;walk_at"g";refine ifd (λho=>?_) (λho=>?_)
  ·first|refine iteT ?_ |skip
   walk_at"g";exact q .non none H2 s2 rfl (λl hl=>absurd (zEo hl.1) (by have:=hl.2;omega))
  walk_at"g";refine⟨small (show 2<=1000 by decide),λT3 hT3=>?_⟩;walk_at"g";refine⟨d,_,rfl,zGd 0 a.length gd hT3,?_⟩;obtain⟨o,be,en⟩:=(bd 0 a.length).1 ⟨a.length/2,by omega,by omega, .inl (by omega)⟩;rw[en.is];have t3:=zAG hT3 (.tup [.int 0, .int (a.length:Int)]);have s3:=s2.trans t3;have gd3:=t3 _ _ gd;have en3:=en.keep (SameBut1.of t3);refine⟨!o.isSome,rfl,?_⟩;generalize hG3:upd H2 T3 (.tup [.int ((0:Nat):Int), .int (a.length:Int)])=H3 at*
  match o,be,en3 with
  |none,be,en3=>
   refine ifp rfl ?_;walk_at"g";exact q .non none H3 s3 rfl be
  |some (w,l),be,⟨T',p,ev,_,_,f1,f2⟩=>
   refine ifq rfl ?_;obtain⟨w0,w1,hll,hle⟩:=zHM (ps:=a.map (plw ws)) (λl hl'=>(zAe k1 k4 hwl hsm l hl').2) hal be;have hbx:∀b∈l,b<8:=λb hb=>by have:=zD3 l [] [] be.1.1 b hb;omega
   walk_at"g";refine⟨small (show 2<=1000 by decide),λT4 hT4=>?_⟩;refine⟨d,_,rfl,zD9 (i:=0) (j:=a.length) ev gd3 hT4,?_⟩;have t4:=zAG hT4 (.tup [.int ((0:Nat):Int), .int (a.length:Int)]);have gd4:=t4 _ _ gd3;have f1:=t4 _ _ f1;have f2:=t4 _ _ f2;have s4:=s3.trans t4;generalize hG4:upd H3 T4 (.tup [.int ((0:Nat):Int), .int (a.length:Int)])=H4 at*
   refine zBD (SqT.of f1) (v:= .int (-w)) rfl ?_;walk_at"g";rw[negneg33];refine⟨small (show 2<=1000 by decide),λT5 hT5=>?_⟩;refine⟨d,_,rfl,zD9 (i:=0) (j:=a.length) ev gd4 hT5,?_⟩;have t5:=zAG hT5 (.tup [.int ((0:Nat):Int), .int (a.length:Int)]);have f1:=t5 _ _ f1;have f2:=t5 _ _ f2;have s5:=s4.trans t5;generalize hG5:upd H4 T5 (.tup [.int ((0:Nat):Int), .int (a.length:Int)])=H5 at*
   refine zBD (SqT.of f1) (v:= .ref p) rfl ?_;walk_at"g";refine⟨p,rfl,⟨_,SqL.of f2⟩,?_⟩;refine zHG (λx=>match x with| .int i=>tx [brs.getD i.toNat 0]|y=>y) (small (by rw[List.length_map];omega)) f2 (λD H6 hD s6 h6=>?_) (λD j y H6 R hD hy s6 hR=>?_)
   ·have e:((nL l).map λx=>match x with| .int i=>tx [brs.getD i.toNat 0]|y=>y)=(l.map λb=>[brs.getD b 0]).map tx:=by
     unfold nL;rw[List.map_map,List.map_map]
     rfl
    rw[e]at h6;walk_at"g";have ef:(l.map λb=>[brs.getD b 0]).flatten=brx l:=by
     unfold brx;rw[<-zCV (l.map λb=>brs.getD b 0),List.map_map];rfl
    refine zGr (xss:=l.map λb=>[brs.getD b 0]) (SqL.of h6) (by rw[ef,List.length_map];unfold brx;rw[List.length_map];omega) ?_;rw[ef];walk_at"g";refine⟨small (show 2<=1000 by decide),λT7 hT7=>?_⟩;exact q _ (some (w,l)) _ ((s5.trans s6).trans (zAG hT7 _)) ⟨T7,rfl,zAF⟩ be
   ·rw[List.getElem?_map]at hy;obtain⟨b,hb,rfl⟩:=Option.map_eq_some_iff.mp hy;have hb8:=hbx b (List.mem_of_getElem? hb);walk_at"g";refine zBe (small (by decide)) (zAM (zCA hb8)) ?_;exact hR H6 (Same.refl _)
 clear gd bd kl;rintro u σ H2 hu3 ⟨kvs,p5,p6,p7,p8,p9,p10,p11,p12,p13,rfl,s2,gd,bd,kl⟩;have es:(2:Int)+(u:Int)*2=((2*u+2:Nat):Int):=by omega
 rw[es];walk_at"g";refine⟨_,rfl,by omega,by omega,?_⟩;have en:((a.length:Int)-((2*u+2:Nat):Int)+1).toNat=a.length-(2*u+2)+1:=by omega
 rw[en];refine zBX (λi σ H'=>∃ (kvs:List (List Key×V)) (o5 o7 o8 o9 o10 o11 o12 o13:Option V),σ=[some (.int kk),some (tx a),some (.ref pw'),some (.int (a.length:Int)),some (.ref d),o5,some (.int ((2*u+2:Nat):Int)),o7,o8,o9,o10,o11,o12,o13]/\Same H H'/\H' d=some (.dT kvs)/\BD kk.toNat (Pw ws a) d H' kvs (PSp a.length (u+1) i)/\kvs.length<=41+u*41+i)
  ⟨kvs,_,_,_,_,_,_,_,_,rfl,s2,gd,bd,by omega⟩ ?_ ?_
 rotate_left
 ·rintro σ H3 ⟨kvs,o5,o7,o8,o9,o10,o11,o12,o13,rfl,s3,gd,bd,kl⟩;exact⟨kvs,_,_,_,_,_,_,_,_,_,rfl,s3,gd,λx y=>⟨λ⟨t,h1,h2,h3⟩=>(bd x y).1 ⟨t,h1,h2,by omega⟩,λhn=>(bd x y).2 λ⟨t,h1,h2,h3⟩=>hn ⟨t,h1,h2,by omega⟩⟩,by omega⟩
 clear gd bd kl;rintro i σ H3 hi ⟨kvs,o5,o7,o8,o9,o10,o11,o12,o13,rfl,s3,gd,bd,kl⟩;have ei:(0:Int)+(i:Int)=(i:Int):=by omega
 rw[ei];walk_at"g";obtain⟨last,elast⟩:∃last:Nat,last=i+2*u+1:=⟨_,rfl⟩;have el:(i:Int)+((2*u+2:Nat):Int)-1=(last:Int):=by omega
 rw[el];have nP:¬PSp a.length (u+1) i i (last+1):=λ⟨t,h1,h2,h3⟩=>by omega
 have bd1:=bd.one i (last+1);have v0:valV kvs (ky i (last+1))=none:=(bd i (last+1)).2 nP;refine⟨_,_,2,rfl,⟨by decide,by decide,zAm (by omega) (by omega) (by omega) (by omega)⟩,?_⟩;have er2:rN (i:Int) (last:Int) 2=u+1:=by rw[zBV];omega
 rw[er2];refine zAx (λt σ H'=>∃ (kvs:List (List Key×V)) (o:O) (o8 o9 o10 o11 o12 o13:Option V),σ=[some (.int kk),some (tx a),some (.ref pw'),some (.int (a.length:Int)),some (.ref d),some (.int (i:Int)),some (.int ((2*u+2:Nat):Int)),some (.int (last:Int)),o8,o9,o10,o11,o12,o13]/\Same H H'/\H' d=some (.dT kvs)/\BD1 kk.toNat (Pw ws a) d H' kvs (PSp a.length (u+1) i) i (last+1)/\Best (Lq kk.toNat i last t 0) (wtl (Pw ws a) i) o/\Ent d H' (valV kvs (ky i (last+1))) o/\(o=none->kvs.length<=41+u*41+i)/\kvs.length<=41+u*41+i+1)
  ⟨kvs,none,_,_,_,_,_,_,rfl,s3,gd,bd1,λl hl=>absurd hl (Lq.zero _ _ _ _),v0,λ_=>kl,by omega⟩ ?_ ?_
 rotate_left
 ·rintro σ H6 ⟨kvs,o,o8,o9,o10,o11,o12,o13,rfl,s6,gd6,bd6,be6,en6,_,kl6⟩;refine⟨kvs,_,_,_,_,_,_,_,_,rfl,s6,gd6,bd6.all ⟨o,be6.iff λl=>Lq.all (by omega) (by omega) l,en6⟩ (λx y=>⟨λ⟨t',h1,h2,h3⟩=>?_,λh=>?_⟩),kl6⟩
  ·by_cases c:t'=u+1/\x=i
   ·exact .inr ⟨c.2,by omega⟩
   ·exact .inl ⟨t',h1,h2,by omega⟩
  ·rcases h with⟨t',h1,h2,h3⟩|⟨rfl,rfl⟩
   ·exact⟨t',h1,h2,by omega⟩
   ·exact⟨u+1,by omega,by omega, .inr ⟨rfl,by omega⟩⟩
 clear s3 gd bd kl bd1 v0;rintro t σ H6 ht ⟨kvs,o,o8,o9,o10,o11,o12,o13,rfl,s6,gd6,bd6,be6,en6,kn6,kl6⟩;obtain⟨m,em⟩:∃m:Nat,m=i+2*t:=⟨_,rfl⟩;have em2:(i:Int)+(t:Int)*2=(m:Int):=by omega
 rw[em2];obtain⟨q1,be1,en1⟩:=(bd6 i m (by omega)).1 ⟨t,by omega,by omega, .inl (by omega)⟩;obtain⟨q2,be2,en2⟩:=(bd6 (m+1) last (by omega)).1 ⟨u-t,by omega,by omega, .inl (by omega)⟩;have two:∀ {K1:V->Hp->Prop},(∀ (b:Bool) (G:Hp),b=(q1.isSome&&q2.isSome)->Same H6 G->K1 (.int (if b=true then 1 else 0)) G)->tCB rInt (tCons (tAndV (tDIn (tTup (tCons (tVar 5) (tCons (tVar 8) tNil))) (tVar 4)) (tDIn (tTup (tCons (tOp rPlus (tVar 8) (tC (V.int 1))) (tCons (tVar 7) tNil))) (tVar 4))) tNil)
  ([some (V.int kk),some (tx a),some (V.ref pw'),some (V.int (a.length:Int)),some (V.ref d),some (V.int (i:Int)),some (V.int ((2*u+2:Nat):Int)),some (V.int (last:Int)),o8,o9,o10,o11,o12,o13].set 8 (some (V.int (m:Int)))) H6 K1:=by
  intro K1 hK;walk_at"g";refine⟨small (show 2<=1000 by decide),λT7 hT7=>?_⟩;walk_at"g";refine⟨d,_,rfl,zGd i m gd6 hT7,?_⟩;rw[en1.is];have t7:=zAG hT7 (.tup [.int (i:Int), .int (m:Int)]);have gd7:=t7 _ _ gd6;generalize upd H6 T7 _=H7 at*
  walk_at"g"
  cases hq1:q1.isSome with
  |false=>
   refine ifq rfl ?_;walk_at"g";exact hK false H7 (by rw[hq1];rfl) t7
  |true=>
   refine ifp rfl ?_;walk_at"g";rw[show((m:Int)+1)=((m+1:Nat):Int) by omega];refine⟨small (show 2<=1000 by decide),λT8 hT8=>?_⟩;walk_at"g";refine⟨d,_,rfl,zGd (m+1) last gd7 hT8,?_⟩;rw[en2.is];walk_at"g";exact hK _ _ (by rw[hq1];rfl) (t7.trans (zAG hT8 _))
 walk_at"g";refine zAi (bigS (by decide)) (bigS (by omega)) ?_;refine two λbq H7 hbq t7=>?_;have s7:=s6.trans t7;have gd7:=t7 _ _ gd6;have bd7:=bd6.keep (SameBut1.of t7);have en7:=en6.keep (SameBut1.of t7);have en1:=en1.keep (SameBut1.of t7);have en2:=en2.keep (SameBut1.of t7);clear two s6 gd6 bd6 en6 t7;obtain⟨nq,enq⟩:∃nq:Nat,nq=if bq=true then kk.toNat else 0:=⟨_,rfl⟩
 obtain⟨mq,emq⟩:∃mq:Int,mq=if bq=true then(1:Int)else 0:=⟨_,rfl⟩
 rw[<-emq];have hmq:(mq=1/\nq=kk.toNat/\bq=true)\/(mq=0/\nq=0/\bq=false):=by
  cases bq with
  |true=>exact .inl ⟨emq,enq,rfl⟩
  |false=>exact .inr ⟨emq,enq,rfl⟩
 clear emq enq;refine zAi (bigS (by omega)) (bigS (by omega)) ?_;have er3:rN (0:Int) (2*kk*mq) 2=nq:=by
  rcases hmq with⟨h1,h2,_⟩|⟨h1,h2,_⟩
  ·rw[zBV,h1,h2];omega
  ·rw[zBV,h1,h2];omega
 have hm2:0<=2*kk*mq/\2*kk*mq<=8:=by rcases hmq with⟨h1,_⟩|⟨h1,_⟩<;>rw[h1]<;>omega
 walk_at"g";refine⟨_,_,2,rfl,⟨by decide,by decide,zAm (by omega) (by omega) (by omega) (by omega)⟩,?_⟩;rw[er3];have hnq:nq<=kk.toNat:=by rcases hmq with⟨_,h2,_⟩|⟨_,h2,_⟩<;>omega
 refine zAx (λw σ H'=>∃ (kvs:List (List Key×V)) (o:O) (o9 o10 o11 o12 o13:Option V),σ=[some (.int kk),some (tx a),some (.ref pw'),some (.int (a.length:Int)),some (.ref d),some (.int (i:Int)),some (.int ((2*u+2:Nat):Int)),some (.int (last:Int)),some (.int (m:Int)),o9,o10,o11,o12,o13]/\Same H H'/\H' d=some (.dT kvs)/\BD1 kk.toNat (Pw ws a) d H' kvs (PSp a.length (u+1) i) i (last+1)/\Best (Lq kk.toNat i last t w) (wtl (Pw ws a) i) o/\Ent d H' (valV kvs (ky i (last+1))) o/\(o=none->kvs.length<=41+u*41+i)/\kvs.length<=41+u*41+i+1)
  ⟨kvs,o,_,_,_,_,_,rfl,s7,gd7,bd7,be6,en7,kn6,kl6⟩ ?_ ?_
 rotate_left
 ·rintro σ H9 ⟨kvs,o,o9,o10,o11,o12,o13,rfl,s9,gd9,bd9,be9,en9,kn9,kl9⟩;refine⟨kvs,o,_,_,_,_,_,_,rfl,s9,gd9,bd9,?_,en9,kn9,kl9⟩;rcases hmq with⟨_,h2,_⟩|⟨_,h2,h3⟩
  ·rw[h2]at be9;exact be9.iff λl=>Lq.row l
  ·rw[h2]at be9;refine zJM hP em (by omega) be1 be2 ?_ be9;rw[h3]at hbq
   cases q1 with
   |none=>exact .inl rfl
   |some _=>
    cases q2 with
    |none=>exact .inr rfl
    |some _=>cases hbq
 clear s7 gd7 bd7 be6 en7 kn6 kl6;rintro w σ H9 hw9 ⟨kvs,o,o9,o10,o11,o12,o13,rfl,s9,gd9,bd9,be9,en9,kn9,kl9⟩;have hwk:w<kk.toNat:=by omega
 have hbt:bq=true:=by rcases hmq with⟨_,_,h⟩|⟨_,h,_⟩;exact h;omega
 rw[hbt]at hbq;obtain⟨⟨w1,u1⟩,rfl⟩:∃x,q1=some x:=by cases q1 with|none=>cases hbq|some x=>exact⟨x,rfl⟩
 obtain⟨⟨w2,u2⟩,rfl⟩:∃x,q2=some x:=by cases q2 with|none=>cases hbq|some x=>exact⟨x,rfl⟩
 have hps:∀l∈a.map (plw ws),Sm l:=λl hl'=>(zAe k1 k4 hwl hsm l hl').2;obtain⟨w10,w11,hl1,hl1'⟩:=zHM hps (by omega) be1;obtain⟨w20,w21,hl2,hl2'⟩:=zHM hps (by omega) be2;obtain⟨r1,er1,en1'⟩:=(bd9 i m (by omega)).1 ⟨t,by omega,by omega, .inl (by omega)⟩;have hr1:r1=some (w1,u1):=er1.uniq be1;subst hr1;obtain⟨r2,er2',en2'⟩:=(bd9 (m+1) last (by omega)).1 ⟨u-t,by omega,by omega, .inl (by omega)⟩;have hr2:r2=some (w2,u2):=er2'.uniq be2;subst hr2;obtain⟨T1,p1,v1,_,_,g11,g12⟩:=en1';obtain⟨T2,p2,v2,_,_,g21,g22⟩:=en2';clear en1 en2 er1 er2';have ew:(0:Int)+(w:Int)*2=((2*w:Nat):Int):=by omega
 rw[ew];have ecut:cutL [40,41,91,93,123,125,60,62] (some ((2*w:Nat):Int)) (some (((2*w:Nat):Int)+2))=[brs.getD (2*w) 0,brs.getD (2*w+1) 0]:=by
  rw[show(((2*w:Nat):Int)+2)=((2*w+2:Nat):Int) by omega];exact zGz (by omega)
 obtain⟨c,hc⟩:∃c,a[m]? =some c:=⟨_,List.getElem?_eq_getElem (by omega)⟩;obtain⟨e,he⟩:∃e,a[last]? =some e:=⟨_,List.getElem?_eq_getElem (by omega)⟩;have ec:a.getD m 0=c:=by rw[List.getD_eq_getElem?_getD,hc];rfl
 have ee:a.getD last 0=e:=by rw[List.getD_eq_getElem?_getD,he];rfl
 have hw2:2*w+1<ws.length:=by omega
 have wx:∀j,j<ws.length->atI (ws.map V.int) (j:Int)=some (V.int (ws.getD j 0)):=λj hj=>zAM (by rw[List.getElem?_map,List.getElem?_eq_getElem hj,List.getD_eq_getElem?_getD,List.getElem?_eq_getElem hj];rfl);have fitsL:∀ {K1:V->Hp->Prop} (σ0:St) (G:Hp),σ0[1]? =some (some (tx a))->σ0[8]? =some (some (V.int (m:Int)))->σ0[7]? =some (some (V.int (last:Int)))->σ0[10]? =some (some (tx [brs.getD (2*w) 0,brs.getD (2*w+1) 0]))->(∀ (b:Bool) (G':Hp),b=decide ((c=63\/c=brs.getD (2*w) 0)/\(e=63\/e=brs.getD (2*w+1) 0))->Same G G'->K1 (.bl b) G')->
  tAndV (tOp (rInA K) (tOp (rIxA K) (tVar 1) (tVar 8)) (tTup (tCons (tC (tx [63])) (tCons (tOp (rIxA K) (tVar 10) (tC (V.int 0))) tNil)))) (tOp (rInA K) (tOp (rIxA K) (tVar 1) (tVar 7)) (tTup (tCons (tC (tx [63])) (tCons (tOp (rIxA K) (tVar 10) (tC (V.int 1))) tNil)))) σ0 G K1:=by
  intro K1 σ0 G x1 x8 x7 x10 hK;have vv:∀ {n:Nat} {v:V} {G0:Hp} {Q0:VK},σ0[n]? =some (some v)->Q0 v G0->tVar n σ0 G0 Q0:=λh q0=>⟨_,h,q0⟩;refine zKY (zLD (zLD (vv x1 (vv x8 ?_))));refine zBe (small (by omega)) (zAM hc) ?_;refine zK9 (zFL (s_c (zFL (zLD (vv x10 (s_c ?_))))));refine zBe (small (show 2<=1000 by decide)) (c:=brs.getD (2*w) 0) rfl ?_;refine zLE ⟨small (show 2<=1000 by decide),λT3 hT3=>?_⟩;have t3:=zAG hT3 (.tup [tx [63],tx [brs.getD (2*w) 0]]);refine zJe (.inr (SqT.of zAF)) rfl rfl ?_;rw[zIp];refine⟨_,rfl,?_⟩
  by_cases z1:c=63\/c=brs.getD (2*w) 0
  ·rw[decide_eq_true z1];refine ifp rfl ?_;refine zLD (zLD (vv x1 (vv x7 ?_)));refine zBe (small (by omega)) (zAM he) ?_;refine zK9 (zFL (s_c (zFL (zLD (vv x10 (s_c ?_))))));refine zBe (small (show 2<=1000 by decide)) (c:=brs.getD (2*w+1) 0) rfl ?_;refine zLE ⟨small (show 2<=1000 by decide),λT4 hT4=>?_⟩;refine zJe (.inr (SqT.of zAF)) rfl rfl ?_;rw[zIp];exact hK _ _ (by rw[decide_eq_decide];exact⟨λz=>⟨z1,z⟩,λz=>z.2⟩) (t3.trans (zAG hT4 _))
  ·rw[decide_eq_false z1];refine ifq rfl ?_;exact hK _ _ (decide_eq_false (λz=>z1 z.1)).symm t3
 have BB:(top30^40*top30^40*top30*top30).natAbs<big:=by unfold top30 big;decide +kernel
 have T40:(0:Int)<=top30^40:=by unfold top30;decide +kernel
 have ng:∀ {x:Int},0<=x->x<=top30^40*top30^40*top30*top30->(-x).natAbs<big:=λh0 h=>by rw[Int.natAbs_neg];exact zAf h0 h BB
 have b0:0<=w1*w2/\w1*w2<=top30^40*top30^40:=⟨Int.mul_nonneg (by omega) (by omega),Int.mul_le_mul w11 w21 (by omega) T40⟩;have TT:∀ {x y z:Int},0<=x->x<=y->0<=z->z<=top30->0<=x*z/\x*z<=y*top30:=λh0 h1 h2 h3=>⟨Int.mul_nonneg h0 h2,Int.mul_le_mul h1 h3 h2 (Int.le_trans h0 h1)⟩;have up1:∀ {x y:Int},0<=y->x<=y->x<=y*top30:=fun{x y} h0 h=>Int.le_trans h (by
  have:=Int.mul_le_mul_of_nonneg_left (show(1:Int)<=top30 by decide) h0;rwa[Int.mul_one]at this)
 have B0:(0:Int)<=top30^40*top30^40:=Int.mul_nonneg T40 T40;have B1:(0:Int)<=top30^40*top30^40*top30:=Int.mul_nonneg B0 (by decide);walk_at"g";rw[ecut];refine⟨small (show 2<=1000 by decide),λTa hTa=>?_⟩;refine⟨d,_,rfl,zD9 (i:=i) (j:=m) v1 gd9 hTa,?_⟩;have xa:=zAG hTa (.tup [.int (i:Int), .int (m:Int)]);generalize upd H9 Ta _=Ha at*
 walk_at"g";refine zBD (SqT.of (xa _ _ g11)) (v:= .int (-w1)) rfl ?_;walk_at"g";rw[show((m:Int)+1)=((m+1:Nat):Int) by omega];refine⟨small (show 2<=1000 by decide),λTb hTb=>?_⟩;refine⟨d,_,rfl,zD9 (i:=m+1) (j:=last) v2 (xa _ _ gd9) hTb,?_⟩;have xb:=xa.trans (zAG hTb (.tup [.int ((m+1:Nat):Int), .int (last:Int)]));generalize upd Ha Tb _=Hb at*
 walk_at"g";refine zBD (SqT.of (xb _ _ g21)) (v:= .int (-w2)) rfl ?_;refine zAi (ng (by omega) (up1 B1 (up1 B0 (Int.le_trans w11 (by have:=Int.mul_le_mul_of_nonneg_left (show(1:Int)<=top30^40 by unfold top30;decide +kernel) T40;rwa[Int.mul_one]at this))))) (ng (by omega) (up1 B1 (up1 B0 (Int.le_trans w21 (by have:=Int.mul_le_mul_of_nonneg_left (show(1:Int)<=top30^40 by unfold top30;decide +kernel) T40;rwa[Int.mul_one]at this))))) ?_;rw[show -w1* -w2=w1*w2 by rw[Int.neg_mul_neg]];walk_at"g";rw[show(0:Int)-w1*w2= -(w1*w2) by omega];have hwb:Hb pw'=some (.lst (ws.map V.int)):=(s9.trans xb) _ _ hw;refine zAZ (SqL.of hwb) (wx (2*w) (by omega)) ?_;walk_at"g";refine⟨small (show 2<=1000 by decide),λlc hlc=>?_⟩;have tc:=zAG hlc (.lst [.int 1, .int (ws.getD (2*w) 0)]);have xc:=xb.trans tc;have gc:(upd Hb lc (.lst [.int 1, .int (ws.getD (2*w) 0)])) lc=_:=zAF;generalize upd Hb lc _=Hc at*
 walk_at"g";refine zBe (small (by omega)) (zAM hc) ?_;walk_at"g";obtain⟨x1,ex1⟩:∃x1:Int,x1=if c=63 then ws.getD (2*w) 0 else 1:=⟨_,rfl⟩
 have bx1:0<=x1/\x1<=top30:=by rw[ex1];split;exact hsm.at (2*w);exact⟨by decide,by decide⟩
 refine zAZ (SqL.of gc) (v:= .int x1) (by rw[ex1];by_cases z:c=63<;>simp[z]<;>rfl) ?_;refine zAi (ng b0.1 (up1 B1 (up1 B0 b0.2))) (zAf bx1.1 bx1.2 (by unfold top30 big;decide +kernel)) ?_;have b1':=TT b0.1 b0.2 bx1.1 bx1.2;rw[Int.neg_mul];walk_at"g";rw[show(((2*w:Nat):Int)+1)=((2*w+1:Nat):Int) by omega];refine zAZ (SqL.of (tc _ _ hwb)) (wx (2*w+1) (by omega)) ?_;walk_at"g";refine⟨small (show 2<=1000 by decide),λld hld=>?_⟩;have xd:=xc.trans (zAG hld (.lst [.int 1, .int (ws.getD (2*w+1) 0)]));have gdd:(upd Hc ld (.lst [.int 1, .int (ws.getD (2*w+1) 0)])) ld=_:=zAF;generalize upd Hc ld _=Hd at*
 walk_at"g";refine zBe (small (by omega)) (zAM he) ?_;walk_at"g";obtain⟨x2,ex2⟩:∃x2:Int,x2=if e=63 then ws.getD (2*w+1) 0 else 1:=⟨_,rfl⟩
 have bx2:0<=x2/\x2<=top30:=by rw[ex2];split;exact hsm.at (2*w+1);exact⟨by decide,by decide⟩
 refine zAZ (SqL.of gdd) (v:= .int x2) (by rw[ex2];by_cases z:e=63<;>simp[z]<;>rfl) ?_;refine zAi (ng b1'.1 (up1 B1 b1'.2)) (zAf bx2.1 bx2.2 (by unfold top30 big;decide +kernel)) ?_;rw[Int.neg_mul];walk_at"s";walk_at"s";walk_at"s";refine fitsL _ _ rfl rfl rfl rfl λfb He hfb te=>?_;have xe:=xd.trans te;clear fitsL te gc gdd xa xb xc tc xd hwb;walk_at"g";refine⟨small (show 2<=1000 by decide),λTf hTf=>?_⟩;refine⟨d,_,rfl,zD9 (i:=i) (j:=m) v1 (xe _ _ gd9) hTf,?_⟩;have xf:=xe.trans (zAG hTf (.tup [.int (i:Int), .int (m:Int)]));generalize upd He Tf _=Hf at*
 walk_at"g";refine zBD (SqT.of (xf _ _ g11)) (v:= .ref p1) rfl ?_;walk_at"g";refine⟨small (show 1<=1000 by decide),λl1 hd1=>?_⟩;have t1:=zAG hd1 (.lst [.int ((2*w:Nat):Int)]);have k1':(upd Hf l1 (.lst [.int ((2*w:Nat):Int)])) l1=_:=zAF;have x1':=xf.trans t1;generalize upd Hf l1 _=I1 at*
 refine zEP (x1' _ _ g12) k1' (small (by rw[List.length_map];simp;omega)) (λl2 hd2=>?_);have t2:=zAG hd2 (.lst (nL u1++[.int ((2*w:Nat):Int)]));have k2':(upd I1 l2 (.lst (nL u1++[.int ((2*w:Nat):Int)]))) l2=_:=zAF;have x2':=x1'.trans t2;generalize upd I1 l2 _=I2 at*
 walk_at"g";rw[show((m:Int)+1)=((m+1:Nat):Int) by omega];refine⟨small (show 2<=1000 by decide),λTg hTg=>?_⟩;refine⟨d,_,rfl,zD9 (i:=m+1) (j:=last) v2 (x2' _ _ gd9) hTg,?_⟩;have tg:=zAG hTg (.tup [.int ((m+1:Nat):Int), .int (last:Int)]);have k2':=tg _ _ k2';have xg:=x2'.trans tg;generalize upd I2 Tg _=Ig at*
 walk_at"g";refine zBD (SqT.of (xg _ _ g21)) (v:= .ref p2) rfl ?_;refine zEP k2' (xg _ _ g22) (small (by simp;omega)) (λl3 hd3=>?_);have t3:=zAG hd3 (.lst (nL u1++[.int ((2*w:Nat):Int)]++nL u2));have k3':(upd Ig l3 (.lst (nL u1++[.int ((2*w:Nat):Int)]++nL u2))) l3=_:=zAF;have x3':=xg.trans t3;generalize upd Ig l3 _=I3 at*
 walk_at"g";rw[show(((2*w:Nat):Int)+1)=((2*w+1:Nat):Int) by omega];refine⟨small (show 1<=1000 by decide),λl4 hd4=>?_⟩;have t4:=zAG hd4 (.lst [.int ((2*w+1:Nat):Int)]);have k4':(upd I3 l4 (.lst [.int ((2*w+1:Nat):Int)])) l4=_:=zAF;have k3':=t4 _ _ k3';have x4':=x3'.trans t4;generalize upd I3 l4 _=I4 at*
 refine zEP k3' k4' (small (by simp;omega)) (λl5 hd5=>?_);have ej:nL u1++[.int ((2*w:Nat):Int)]++nL u2++[.int ((2*w+1:Nat):Int)]=nL (jn w u1 u2):=by unfold jn nL;simp
 rw[ej];have t5:=zAG hd5 (.lst (nL (jn w u1 u2)));have k5':(upd I4 l5 (.lst (nL (jn w u1 u2)))) l5=_:=zAF;have x5':=x4'.trans t5;have n5:l5≠d:=(zAH (x4' _ _ gd9) hd5).symm;generalize upd I4 l5 _=I5 at*
 walk_at"g";refine⟨small (show 2<=1000 by decide),λTm hTm=>?_⟩;obtain⟨W,eW⟩:∃W:Int,W=w1*w2*x1*x2:=⟨_,rfl⟩;rw[<-eW];have tm:=zAG hTm (.tup [.int (-W), .ref l5]);have gm:(upd I5 Tm (.tup [.int (-W), .ref l5])) Tm=_:=zAF;have g5:=tm _ _ k5';have xm:=x5'.trans tm;have nm':Tm≠d:=(zAH (x5' _ _ gd9) hTm).symm;generalize upd I5 Tm _=Hm at*
 clear x1' x2' x3' x4' x5' t1 t2 t3 t4 t5 tg tm xf xe xg k1' k2' k3' k4' k5' ej;have sm':=s9.trans xm;have gdm:=xm _ _ gd9;have bdm:=bd9.keep (SameBut1.of xm);have enm:=en9.keep (SameBut1.of xm);have pm:=zDi (ws:=ws) (a:=a) (i:=m) (b:=2*w) (by omega) (by omega) (by omega);have pl:=zDi (ws:=ws) (a:=a) (i:=last) (b:=2*w+1) (by omega) (by omega) (by omega);rw[ec,<-ex1]at pm;rw[ee,<-ex2]at pl;have bn:=zJN hP em (by omega) hwk be1 be2 be9;have jl:i+(jn w u1 u2).length=last+1:=by rw[zG5];omega
 have stay:∀ (G:Hp) (y11 y12 y13:Option V),Same Hm G->lik o (cand (Pw ws a) m last w (some (w1,u1)) (some (w2,u2)))=o->∃ (kvs:List (List Key×V)) (o:O) (o9 o10 o11 o12 o13:Option V),[some (V.int kk),some (tx a),some (V.ref pw'),some (V.int (a.length:Int)),some (V.ref d),some (V.int (i:Int)),some (V.int ((2*u+2:Nat):Int)),some (V.int (last:Int)),some (V.int (m:Int)),some (V.int ((2*w:Nat):Int)),some (tx [brs.getD (2*w) 0,brs.getD (2*w+1) 0]),y11,y12,y13]=[some (V.int kk),some (tx a),some (V.ref pw'),some (V.int (a.length:Int)),some (V.ref d),some (V.int (i:Int)),some (V.int ((2*u+2:Nat):Int)),some (V.int (last:Int)),some (V.int (m:Int)),o9,o10,o11,o12,o13]/\Same H G/\G d=some (.dT kvs)/\BD1 kk.toNat (Pw ws a) d G kvs (PSp a.length (u+1) i) i (last+1)/\Best (Lq kk.toNat i last t (w+1)) (wtl (Pw ws a) i) o/\Ent d G (valV kvs (ky i (last+1))) o/\(o=none->kvs.length<=41+u*41+i)/\kvs.length<=41+u*41+i+1:=by
  intro G y11 y12 y13 sG hlk;rw[hlk]at bn;exact⟨kvs,o,_,_,_,_,_,rfl,sm'.trans sG,sG _ _ gdm,bdm.keep (SameBut1.of sG),bn,enm.keep (SameBut1.of sG),kn9,kl9⟩
 have store:∀ {D:Ends} (G:Hp) (y11 y12:Option V),Same Hm G->lik o (cand (Pw ws a) m last w (some (w1,u1)) (some (w2,u2)))=some (W,jn w u1 u2)->
  (∀σ' G',(∃ (kvs:List (List Key×V)) (o:O) (o9 o10 o11 o12 o13:Option V),σ'=[some (V.int kk),some (tx a),some (V.ref pw'),some (V.int (a.length:Int)),some (V.ref d),some (V.int (i:Int)),some (V.int ((2*u+2:Nat):Int)),some (V.int (last:Int)),some (V.int (m:Int)),o9,o10,o11,o12,o13]/\Same H G'/\G' d=some (.dT kvs)/\BD1 kk.toNat (Pw ws a) d G' kvs (PSp a.length (u+1) i) i (last+1)/\Best (Lq kk.toNat i last t (w+1)) (wtl (Pw ws a) i) o/\Ent d G' (valV kvs (ky i (last+1))) o/\(o=none->kvs.length<=41+u*41+i)/\kvs.length<=41+u*41+i+1)->D.nx σ' G')->
  sDPut (tVar 4) (tTup (tCons (tVar 5) (tCons (tOp rPlus (tVar 7) (tC (V.int 1))) tNil))) (tVar 13) D [some (V.int kk),some (tx a),some (V.ref pw'),some (V.int (a.length:Int)),some (V.ref d),some (V.int (i:Int)),some (V.int ((2*u+2:Nat):Int)),some (V.int (last:Int)),some (V.int (m:Int)),some (V.int ((2*w:Nat):Int)),some (tx [brs.getD (2*w) 0,brs.getD (2*w+1) 0]),y11,y12,some (V.ref Tm)] G:=by
  intro D G y11 y12 sG hlk hD;rw[hlk]at bn;walk_at"g";rw[show((last:Int)+1)=((last+1:Nat):Int) by omega];refine⟨small (show 2<=1000 by decide),λTq hTq=>?_⟩;have tq:=zAG hTq (.tup [.int (i:Int), .int ((last+1:Nat):Int)]);have gq:(upd G Tq (.tup [.int (i:Int), .int ((last+1:Nat):Int)])) Tq=_:=zAF;have xq:=sG.trans tq;generalize upd G Tq _=Gq at*
  have lk:kvs.length<sizeLine:=by rw[sizeLine_eq];omega
  refine⟨d,_,rfl,DPut.t (k:=ky i (last+1)) (xq _ _ gdm) gq lk,?_⟩;refine hD _ _ ⟨_,some (W,jn w u1 u2),_,_,_,_,_,rfl,λb o' z=>by rw[zAI (zAH z hd)];exact xq _ _ (sm' _ _ z),zAF,(bdm.keep (SameBut1.of xq)).put (.ref Tm),bn,Ent.new nm' n5 (xq _ _ gm) (xq _ _ g5) kvs i (last+1),(λz=>nomatch z),?_⟩
  match o,enm,kn9 with
  |none,_,kn9=>exact Nat.le_trans (zBQ _ _ _) (by have:=kn9 rfl;omega)
  |some (x,l),⟨T5,p5,ev,_⟩,_=>rw[zGt ev];exact kl9
 have hWn:0<=W:=by rw[eW];exact(TT b1'.1 b1'.2 bx2.1 bx2.2).1
 walk_at"g"
 cases fb with
 |false=>
  refine ifq rfl ?_
  first|refine ifq rfl ?_ |skip
  walk_at"g";refine stay _ _ _ _ (Same.refl _) ?_;rw[zFm,zCx];have nf:=of_decide_eq_false hfb.symm;rw[pm,pl];rintro⟨y1,y2⟩;refine nf ⟨?_,?_⟩
  ·by_cases z:c=63\/c=brs.getD (2*w) 0
   ·exact z
   ·rw[if_neg z,Int.zero_mul]at y1;exact absurd y1 (Int.lt_irrefl _)
  ·by_cases z:e=63\/e=brs.getD (2*w+1) 0
   ·exact z
   ·rw[if_neg z,Int.zero_mul]at y2;exact absurd y2 (Int.lt_irrefl _)
 |true=>
  have ft:=of_decide_eq_true hfb.symm;rw[if_pos ft.1,Int.one_mul]at pm;rw[if_pos ft.2,Int.one_mul]at pl;refine ifp rfl ?_;walk_at"g";refine ifd (λhneg=>?_) (λhneg=>?_)
  rotate_left
  ·first|refine ifq rfl ?_ |skip
   walk_at"g";refine stay _ _ _ _ (Same.refl _) ?_;rw[zFm,zCx];rw[pm,pl];rintro⟨y1,y2⟩;refine hneg ?_;have:0<W:=by rw[eW];exact Int.mul_pos (Int.mul_pos (Int.mul_pos w10 w20) y1) y2
   omega
  have hW:0<W:=by omega
  have hx1:0<x1:=by
   by_cases z:0<x1
   ·exact z
   ·rw[eW,show x1=0 by omega,Int.mul_zero,Int.zero_mul]at hW;exact absurd hW (Int.lt_irrefl _)
  have hx2:0<x2:=by
   by_cases z:0<x2
   ·exact z
   ·rw[eW,show x2=0 by omega,Int.mul_zero]at hW;exact absurd hW (Int.lt_irrefl _)
  have ecd:cand (Pw ws a) m last w (some (w1,u1)) (some (w2,u2))=some (W,jn w u1 u2):=by
   rw[zJB (by rw[pm];exact hx1) (by rw[pl];exact hx2),pm,pl,eW]
  walk_at"g";refine⟨d,rfl, .inr ⟨kvs, .inl gdm⟩,?_⟩;walk_at"g";rw[show((last:Int)+1)=((last+1:Nat):Int) by omega];refine⟨small (show 2<=1000 by decide),λTk hTk=>?_⟩;have tk1:=zAG hTk (.tup [.int (i:Int), .int ((last+1:Nat):Int)]);have gk:(upd Hm Tk (.tup [.int (i:Int), .int ((last+1:Nat):Int)])) Tk=_:=zAF;generalize upd Hm Tk _=Hk at*
  walk_at"g";refine⟨small (show 0<=1000 by decide),λln hln=>?_⟩;have tn:=zAG hln (.lst []);have gn:(upd Hk ln (.lst [])) ln=some (.lst (nL [])):=zAF;generalize upd Hk ln _=Hn at*
  walk_at"g";refine⟨small (show 2<=1000 by decide),λTz hTz=>?_⟩;have tz:=zAG hTz (.tup [.int 0, .ref ln]);have gz:(upd Hn Tz (.tup [.int 0, .ref ln])) Tz=_:=zAF;have xz:=(tk1.trans tn).trans tz;have gk:=tz _ _ (tn _ _ gk);have gn:=tz _ _ gn;generalize upd Hn Tz _=Hz at*
  refine⟨_,DGet.t (k:=ky i (last+1)) (xz _ _ gdm) gk,?_⟩;have gmz:=xz _ _ gm;have g5z:=xz _ _ g5;have hlen:∀x l,o=some (x,l)->i+l.length=last+1:=λx l h=>by rw[h]at be9;exact be9.1.1.2
  have co:o=none\/∃x l,o=some (x,l):=by
   cases o with
   |none=>exact .inl rfl
   |some x=>exact .inr ⟨x.1,x.2,rfl⟩
  rcases co with eo|⟨x,l,eo⟩
  ·have enm':=enm;rw[eo]at enm';rw[show valV kvs (ky i (last+1))=none from enm'];refine zMN gmz g5z gz gn (λh=>absurd h (by omega)) ?_;rw[show ltP (-W,jn w u1 u2) (0,[])=true from ltP_iff.mpr (.inl (show -W<0 by omega))];walk_at"g";refine ifp rfl ?_
   first|refine ifp rfl ?_ |skip
   exact store Hz _ _ xz (by rw[eo,ecd];rfl) (λσ' G' h=>h)
  ·have enm':=enm;rw[eo]at enm';obtain⟨T5,p5,ev,_,_,f1,f2⟩:=enm';rw[ev];refine zMN gmz g5z (xz _ _ f1) (xz _ _ f2) (λ_=>by have:=hlen x l eo;omega) ?_
   cases hlt:ltP (-W,jn w u1 u2) (-x,l)with
   |true=>
    walk_at"g";refine ifp rfl ?_
    first|refine ifp rfl ?_ |skip
    exact store Hz _ _ xz (by rw[eo,ecd,zG3 hlt]) (λσ' G' h=>h)
   |false=>
    walk_at"g";refine ifq rfl ?_
    first|refine ifq rfl ?_ |skip
    walk_at"g";exact stay Hz _ _ _ xz (by rw[eo,ecd,zG4 hlt])
theorem sc_law_fills:FnScope ["row","told","weights","weight","sign","bracket"] ["row","told","weights"] (defScope zCl):=scM
theorem zFZ(F:Fun K "_law_fills" "_law_fills" zCl f fd)(T:Txt K mg aK cs):FnOk P w K mg base CX0 (k+1) f fd ["row","told","weights"] (spFills33):=by
 refine F.ok sc_law_fills (λvs H Q E h=>?_) (λcdv A outer s H vs Q E hr h=>?_)
 ·obtain⟨a,l,ws,Tu,p,kk,rfl,_⟩:=h;rfl
 obtain⟨a,l,ws,Tu,pw',kk,rfl,k1,k4,hro,gT,hw,hwl,hsm,dn,hpos,q⟩:=h;have hu:=hr.units0;have hal:=zAz hro;have hl:l.length=a.length:=by have:=dn.2;omega
 have hb8:∀b∈l,b<2*kk.toNat:=zD3 l [] [] dn.1;have hbl:(brx l).length=a.length:=by unfold brx;rw[List.length_map];exact hl
 refine⟨_,(zAC (zAN (i:=3) sc_law_fills.nd rfl (Or.inl rfl) zAD) (zAC (zAn PassesOwn.never rfl (zLZ rfl T.n_zip (zAA (pv 0) (zAA (zAO (zAb K) (pv 1) zAD (λ_ _=>rfl)) zAB))) (zGA (n:=2) K rfl (zBf (zAR (i:=4) sc_law_fills.nd rfl (Or.inl rfl)) (zBf (zAR (i:=5) sc_law_fills.nd rfl (Or.inl rfl)) zEq))) (zAC (zAh (zAP (zCG K) (pv 4) (zAc (zAA (zA0 (l:=[63]) (by decide +kernel)) (zAA (pv 5) zAB))) (by with_unfolding_all rfl)) (zAE (zAU zDv)) zAT) (zAE (zAh (zAP (zAv K hu) (pv 4) (zA0 (l:=[63]) (by decide +kernel)) (nomark _)) (zAE (zAN (i:=3) sc_law_fills.nd rfl (Or.inl rfl) (zAJ zAS (pv 3) (zAO (zAb K) (pv 2) (zBy K PySem.F.plainAttrs_str PySem.F.slot_str_index PySem.F.type_str_index zDf (zA0 (l:=[40,41,91,93,123,125,60,62]) (by decide +kernel)) (zAA (pv 5) zAB)) (λ_ _=>rfl))))) zAT)))) (zAE (zAU (zDU (zAd (zAv K hu) (zAQ (zAV K) rfl T.n_len PySem.boot_len (zAA (zAO (zAb K) (pv 1) zAD (λ_ _=>rfl)) zAB)) (zAQ (zAV K) rfl T.n_len PySem.boot_len (zAA (pv 0) zAB)) (nomark _)) (zDT (zAd (zAv K hu) (pv 3) (zAO (zAb K) (pv 1) zAD (λ_ _=>rfl)) (nomark _)))))))),?_⟩;walk_at"g";refine zBD (SqT.of gT) (v:=tx (brx l)) rfl ?_;walk_at"g";refine⟨_,_,rfl,?_⟩;refine zIv (n:=a.length) (λm σ H'=>∃ (o4 o5:Option V),σ=[some (tx a),some (.ref Tu),some (.ref pw'),some (.int (wg ws (a.take m) (l.take m))),o4,o5]/\Same H H') ⟨_,_,rfl,Same.refl _⟩ (λm σ H' hm _=>⟨by simpa using hm,by simpa[hbl]using hm⟩) (λσ H' _=> .inl (by simp)) ?_ ?_
 ·rintro m y σ H1 H2 hm ⟨o4,o5,rfl,s1⟩ ⟨T',c,dd,hT,hc,hd,rfl,rfl⟩;have hc:a[m]? =some c:=by simpa using hc
  have hd:(brx l)[m]? =some dd:=by simpa using hd
  unfold brx at hd;rw[List.getElem?_map]at hd;obtain⟨b,hb,rfl⟩:=Option.map_eq_some_iff.mp hd;have hb2:=hb8 b (List.mem_of_getElem? hb);have ec:a.getD m 0=c:=by rw[List.getD_eq_getElem?_getD,hc];rfl
  have eb:l.getD m 0=b:=by rw[List.getD_eq_getElem?_getD,hb];rfl
  obtain⟨hf,_⟩:=zKl k1 k4 hwl hsm dn hpos hm;rw[ec,eb]at hf;have t2:=zAG hT (.tup [tx [c],tx [brs.getD b 0]]);have g2:(upd H1 T' (.tup [tx [c],tx [brs.getD b 0]])) T'=_:=zAF;have s2:=s1.trans t2;show gTup K 2 _ (.ref T') _ (upd H1 T' (.tup [tx [c],tx [brs.getD b 0]])) _;generalize upd H1 T' _=H2 at*
  walk_at"g";refine⟨T',_,rfl,SqT.of g2,rfl,?_⟩;walk_at"g";refine⟨small (show 2<=1000 by decide),λT3 hT3=>?_⟩;have t3:=zAG hT3 (.tup [tx [63],tx [brs.getD b 0]]);refine .inr ⟨T3,_,rfl, .inr (SqT.of zAF),rfl,rfl,?_⟩;rw[zIp,decide_eq_true hf];have s3:=s2.trans t3;generalize upd H2 T3 _=H3 at*
  walk_at"g";refine ifq rfl ?_;walk_at"g";have ew:=zHz (ws:=ws) hc hb
  by_cases z:c=63
  ·subst z;refine ifp rfl ?_;walk_at"g";refine zMS (l:=brs) (zEx (show b<8 by omega)) ?_;walk_at"g";refine zAZ (SqL.of (s3 _ _ hw)) (v:= .int (ws.getD b 0)) (zAM (by rw[List.getElem?_map,List.getElem?_eq_getElem (show b<ws.length by omega),List.getD_eq_getElem?_getD,List.getElem?_eq_getElem (show b<ws.length by omega)];rfl)) ?_;have cw:=zKR hsm (a.take m) (l.take m);have c40:wg ws (a.take m) (l.take m)<=top30^40:=Int.le_trans cw.2 (zEb (by rw[List.length_take];omega));have cb:=hsm.at b;refine zAi (zAf cw.1 c40 zH7) (zAf cb.1 cb.2 (by unfold top30 big;decide +kernel)) ?_;walk_at"g";refine⟨some (tx [63]),some (tx [brs.getD b 0]),?_,s3⟩;rw[ew,if_pos rfl]
   rfl
  ·refine ifq (by simp[z]) ?_;walk_at"g";refine⟨some (tx [c]),some (tx [brs.getD b 0]),?_,s3⟩;rw[ew,if_neg z,Int.mul_one]
   rfl
 ·rintro σ H1 ⟨o4,o5,rfl,s1⟩;have e1:wg ws (a.take a.length) (l.take a.length)=wg ws a l:=by rw[List.take_length,<-hl,List.take_length]
  rw[e1,<-zL8 k1 k4 hwl hsm dn hpos];have gT1:=s1 _ _ gT;walk_at"g";refine zBD (SqT.of gT1) (v:=tx (brx l)) rfl ?_;walk_at"g";rw[hbl];rw[decide_eq_true rfl];refine ifp rfl ?_;walk_at"g";refine zBD (SqT.of gT1) (v:= .int (wtl (Pw ws a) 0 l)) rfl ?_;walk_at"g";rw[decide_eq_true rfl];exact q _ s1
theorem sc_law:FnScope ["script","pool","kinds","row","weights","handed","total","best","turn","i","many","alike","due","k","unknown"] ["script"] (defScope zHm):=scM
theorem zM8(F:Fun K "law" "law" zHm f fd)(T:Txt K mg aK cs)(U_law_pool:FnU P w K mg base k "_law_pool" ["script","k"] (spPoolD K))(U_law_weights:FnU P w K mg base k "_law_weights" ["pool","kinds"] (spWts))(U_weight_sum:FnUE P w K mg base k "weight_sum" ["k","row","weights"] (spWSum25))(U_likeliest:FnUE P w K mg base k "likeliest" ["k","row","weights"] (spLik25))(U_how_many_right:FnUE P w K mg base k "how_many_right" ["k","n"] (spManyRightE K cs))(U_law_draw:FnU P w K mg base k "_law_draw" ["pool","many"] (spDraw))(U_law_row:FnU P w K mg base k "_law_row" ["pool","kinds","many"] (spRowD))(U_law_sum:FnU P w K mg base k "_law_sum" ["kinds","row","weights"] (spSum33))(U_law_first:FnU P w K mg base k "_law_first" ["kinds","row","weights"] (spFirst33))(U_law_fills:FnU P w K mg base k "_law_fills" ["row","told","weights"] (spFills33))(U_law_chances_right:FnUE P w K mg base k "_law_chances_right" ["kinds","row","weights","i","total"] (spChances33))(U_how_many:FnUE P w K mg base k "how_many" ["k","row"] (spGateE K cs spMany))(U_law_best:FnUE P w K mg base k "_law_best" ["kinds","row","weights","i"] (spBest33))(U_is_right:FnUE P w K mg base k "is_right" ["k","row"] (spGateE K cs spRightP)):FnOk P w K mg base CX0 (k+1) f fd ["script"] (spLaw K):=by
 refine F.ok sc_law (λvs H Q E h=>?_) (λcdv A outer s H vs Q E hr h=>?_)
 ·obtain⟨a,ns,rfl,_⟩:=h;rfl
 obtain⟨sa,ns,rfl,hS,h63,q⟩:=h;have hu:=hr.units0;refine⟨_,(zAC (zAN (i:=1) sc_law.nd rfl (Or.inl rfl) (zAX U_law_pool hr (zAA (pv 0) (zAA zAD zAB)))) (zAC (zAN (i:=2) sc_law.nd rfl (Or.inl rfl) (zAJ zAL zAD (zAX U_law_draw hr (zAA (pv 1) (zAA zAD zAB))))) (zAC (zAN (i:=3) sc_law.nd rfl (Or.inl rfl) (zAw (zFw K) (zAX U_law_row hr (zAA (zAX U_law_pool hr (zAA (pv 0) (zAA zAD zAB))) (zAA (pv 2) (zAA (zAX U_law_draw hr (zAA (pv 1) (zAA zAD zAB))) zAB)))) zBL (zA6 zAD))) (zAC (zAN (i:=4) sc_law.nd rfl (Or.inl rfl) (zAX U_law_weights hr (zAA (zAX U_law_pool hr (zAA (pv 0) (zAA zAD zAB))) (zAA (pv 2) zAB)))) (zAC (zAN (i:=5) sc_law.nd rfl (Or.inl rfl) (zAr (zEX K) rfl T.n_list PyProof.Rows.boot_list (zAA (pv 4) zAB))) (zAC (zAN (i:=6) sc_law.nd rfl (Or.inl rfl) (zAa U_weight_sum hr zBP (zAA (pv 2) (zAA (pv 3) (zAA (pv 5) zAB))))) (zAC (zAN (i:=7) sc_law.nd rfl (Or.inl rfl) (zAa U_likeliest hr zBP (zAA (pv 2) (zAA (pv 3) (zAA (pv 5) zAB))))) (zAC (zAh (PW.pt (zBO (zAP (zBl K hu) (zAd zCI (pv 7) zAu (nomark _)) (zAd (zAv K hu) (pv 6) zAD (nomark _)) (nomark _)) (zA8 (PW.pt (zDS (zAP zBz (pv 7) zAu (nomark _)) (zCg (PW.pt (zBO (zAt (zA4 K (zAa U_is_right hr zBP (zAA (pv 2) (zAA (zAO (zAb K) (pv 7) zAD (λ_ _=>rfl)) zAB))))) (zA8 (zAP zFT (zAO (zAb K) (pv 7) zAD (λ_ _=>rfl)) (pv 6) (nomark _))))))))))) (zAE (zAU zDv)) zAT) (zAC (zAh (PW.pt (zBO (zAP (zBl K hu) (pv 6) (zAX U_law_sum hr (zAA (pv 2) (zAA (pv 3) (zAA (pv 4) zAB)))) (nomark _)) (zA8 (zAP (zIV K hu) (pv 7) (zAX U_law_first hr (zAA (pv 2) (zAA (pv 3) (zAA (pv 4) zAB)))) (nomark _))))) (zAE (zAU zDv)) zAT) (zAC (zAh (PW.pt (zDS (zAP zBz (pv 7) zAu (nomark _)) (zCg (zAt (zA4 K (zAX U_law_fills hr (zAA (pv 3) (zAA (pv 7) (zAA (pv 4) zAB))))))))) (zAE (zAU zDv)) zAT) (zAC (zAn PassesOwn.never rfl (zAk rfl T.n_range (zAA (zAJ zAS zAD (zAr zBA rfl T.n_int PyProof.Rows.boot_int (zAA (zAd (zBl K hu) (pv 3) (zA0 (l:=[]) (by decide +kernel)) (nomark _)) zAB))) zAB)) (zAR (i:=8) sc_law.nd rfl (Or.inl rfl)) (zAC (zAN (i:=9) sc_law.nd rfl (Or.inl rfl) (zAX U_law_draw hr (zAA (pv 1) (zAA (zAQ (zAV K) rfl T.n_len PySem.boot_len (zAA (pv 3) zAB)) zAB)))) (zAC (zAh (zAt (zA4 K (zAa U_law_chances_right hr zBP (zAA (pv 2) (zAA (pv 3) (zAA (pv 4) (zAA (pv 9) (zAA (pv 6) zAB)))))))) (zAE (zAU zDv)) zAT) (zAE (zAh (PW.pt (zDS (zAP (zAv K hu) (zAO (zAb K) (pv 3) (pv 9) (λ_ _=>rfl)) (zA0 (l:=[63]) (by decide +kernel)) (nomark _)) (zCg (zAP (zIV K hu) (zAa U_law_best hr zBP (zAA (pv 2) (zAA (pv 3) (zAA (pv 4) (zAA (pv 9) zAB))))) (pv 7) (nomark _))))) (zAE (zAU zDv)) zAT))))) (zAC (zAh (PW.pt (zBO (zAP (zBl K hu) (zAa U_weight_sum hr zBP (zAA (pv 2) (zAA (pv 3) (zAA (pv 5) zAB)))) (pv 6) (nomark _)) (zBO (zAP (zIV K hu) (zAa U_likeliest hr zBP (zAA (pv 2) (zAA (pv 3) (zAA (pv 5) zAB)))) (pv 7) (nomark _)) (zA8 (zAP (zBl K hu) (pv 5) (pv 4) (nomark _)))))) (zAE (zAU zDv)) zAT) (zAC (zAN (i:=10) sc_law.nd rfl (Or.inl rfl) (zAJ zAS zAD (zAX U_law_draw hr (zAA (pv 1) (zAA zAD zAB))))) (zAC (zAN (i:=11) sc_law.nd rfl (Or.inl rfl) (zAJ zAY (zAq (zAA (zAJ zAL zAD (zAX U_law_draw hr (zAA (pv 1) (zAA zAD zAB)))) zAB)) (zAJ zAS zAD (pv 2)))) (zAC (zAN (i:=12) sc_law.nd rfl (Or.inl rfl) (zAa U_how_many_right hr zBP (zAA (pv 2) (zAA (pv 10) zAB)))) (zAC (zAn PassesOwn.never rfl (zAk rfl T.n_range (zAA (pv 10) zAB)) (zAR (i:=13) sc_law.nd rfl (Or.inl rfl)) (zAE (zAN (i:=12) sc_law.nd rfl (Or.inl rfl) (zAJ zAS (pv 12) (zAO (zAb K) (pv 11) zAD (λ_ _=>rfl)))))) (zAC (zAN (i:=14) sc_law.nd rfl (Or.inl rfl) (zAJ zAS (zA0 (l:=[63]) (by decide +kernel)) (pv 10))) (zAE (zAU (zDU (zAd (zAv K hu) (zAa U_weight_sum hr zBP (zAA (pv 2) (zAA (pv 14) (zAA (pv 11) zAB)))) (pv 12) (nomark _)) (zDT (zAd (zAv K hu) (zAa U_how_many hr zBP (zAA (pv 2) (zAA (pv 14) zAB))) (zAa U_how_many_right hr zBP (zAA (pv 2) (zAA (pv 10) zAB))) (nomark _))))))))))))))))))))))),?_⟩;walk_at"g";refine zDu hS (by decide) (by decide) (λp H1 hp s1 d1=>?_);walk_at"g";refine zAo d1 (by decide) (by decide) (λr2 H2 r20 r21 d2 s2=>?_);have u2:Same H H2:=Same.but s1 s2 hp;walk_at"g";obtain⟨kk,ekk⟩:∃kk:Int,kk=1+r2:=⟨_,rfl⟩;have k1:1<=kk:=by omega
 have k4:kk<=4:=by omega
 rw[<-ekk];clear ekk;have hk4:kk.toNat<=4:=by omega
 have e2:(2*kk).toNat=2*kk.toNat:=by omega
 have em2:∃m,2*kk.toNat=m+1:=⟨2*kk.toNat-1,by omega⟩;have el2:((2*kk.toNat:Nat):Int)=2*kk:=by omega
 refine zDu (u2.seq hS) (by decide) (by decide) (λp2 H3 hp2 s3 e3=>?_);have hHp2:H p2=none:=u2.free hp2;have np:p≠p2:=(d2.ne hp2).symm;have d3:=d2.same s3;have u3:=u2.trans s3;walk_at"g";refine zAo d3 (by decide) (by decide) (λr4 H4 r40 r41 d4 s4=>?_);have u4:Same H H4:=Same.but u3 s4 hp;have e4:=e3.keep s4 (Ne.symm np);walk_at"g";refine zJg e4 k1 k4 r40 (by omega) (λrow1 H5 hr1 hs1 e5 s5=>?_);have u5:Same H H5:=Same.but u4 s5 hHp2;have d5:=d4.keep s5 np;walk_at"g";have eb:cutL row1 none (some 40)=row1.take 40:=zC1 row1 (by decide);rw[eb];obtain⟨a,ebb⟩:∃b,b=row1.take 40:=⟨_,rfl⟩;have hal:a.length<=40:=by rw[ebb,List.length_take];omega
 have hro:isRow kk a=true:=zG6 hal (λc hc=>hs1 c (by rw[ebb]at hc;exact List.mem_of_mem_take hc));rw[<-ebb];clear ebb eb e3 e4 e5 s1 s2 s3 s4 s5 u2 u3 u4 d1 d2 d3 d4 hr1 hs1;refine zDu (u5.seq hS) (by decide) (by decide) (λp3 H6 hp3 s6 e6=>?_);have hHp3:H p3=none:=u5.free hp3;have np3:p≠p3:=(d5.ne hp3).symm;have d6:=d5.same s6;have u6:=u5.trans s6;walk_at"g";refine zKv e6 k1 k4 (λpw' ws H7 hw hwl hws nwp hw0 e7 s7=>?_);have hsm:Sm ws:=λx hx=>⟨(hws x hx).1,Int.le_trans (hws x hx).2 (by unfold top30;decide)⟩;have u7:Same H H7:=Same.but u6 s7 hHp3;have d7:=d6.keep s7 np3;have nwp':pw'≠p:=d6.ne hw0;clear e6 e7 s6 s7 u5 u6 d5 d6;walk_at"g";refine zIF (SqL.of hw) (λph hph=>?_);have t8:=zAG hph (.lst (ws.map V.int));have gh8:(upd H7 ph (.lst (ws.map V.int))) ph=some (iL ws):=zAF;have u8:=u7.trans t8;have d8:=d7.same t8;have gw8:=t8 _ _ hw;have nhp:ph≠p:=d7.ne hph;generalize upd H7 ph _=H8 at*
 walk_at"g";refine⟨kk,a,ws,⟨.ref ph,rfl,k1,k4,hro,⟨ph,rfl,gh8,hwl,hsm⟩⟩,λH9 s9=>?_⟩;have gh9:=s9 _ _ gh8;obtain⟨tot,etot⟩:∃tot:Int,tot=wsm kk.toNat ws a:=⟨_,rfl⟩;rw[<-etot];walk_at"g";refine⟨kk,a,ws,⟨.ref ph,rfl,k1,k4,hro,⟨ph,rfl,gh9,hwl,hsm⟩⟩,λv o H10 s10 ft be=>?_⟩;have u10:=(u8.trans s9).trans s10;have d10:=(d8.same s9).same s10;have gh10:=s10 _ _ gh9;have gw10:=s10 _ _ (s9 _ _ gw8);have bsm:=zKH k1 k4 hwl hsm be;rw[<-etot]at bsm;clear s9 s10 u7 u8 d7 d8 gh8 gh9 gw8 hw t8;have tail2:∀ (G:Hp) (v:V) (o:O),Same H G->Po G p->G ph=some (iL ws)->G pw'=some (iL ws)->Ft G v o->Best (Dn kk.toNat 0 a.length) (wtl (Pw ws a) 0) o->
  (tSeq
    (tFor
      (iRng1
        (tCons (tOp rTimesW (tC (V.int 2)) (tCB rInt (tCons (tOp (rNeA K) (tVar 3) (tC (tx []))) tNil)))
          tNil))
      (gName 8)
      (tSeq
        (tAsg (tCall spDraw [] E0 (tCons (tVar 1) (tCons (tCB (rLen K) (tCons (tVar 3) tNil)) tNil)))
          (gName 9))
        (tSeq
          (tIfS
            (tNot
              (tTru K
                (tCallE spChances33 rNo
                  (tCons (tVar 2)
                    (tCons (tVar 3) (tCons (tVar 4) (tCons (tVar 9) (tCons (tVar 6) tNil))))))))
            (tRet (tC (V.bl false))) tNext)
          (tIfS
            (tAnd (tTest (tOp (rEqA K) (tOp (rIxA K) (tVar 3) (tVar 9)) (tC (tx [63]))))
              (tTest
                (tOp (rNeO K)
                  (tCallE spBest33 rNo
                    (tCons (tVar 2) (tCons (tVar 3) (tCons (tVar 4) (tCons (tVar 9) tNil)))))
                  (tVar 7))))
            (tRet (tC (V.bl false))) tNext))))
    (tSeq
      (tIfS
        (tOr
          (tTest
            (tOp (rNeA K) (tCallE spWSum25 rNo (tCons (tVar 2) (tCons (tVar 3) (tCons (tVar 5) tNil))))
              (tVar 6)))
          (tOr
            (tTest
              (tOp (rNeO K) (tCallE spLik25 rNo (tCons (tVar 2) (tCons (tVar 3) (tCons (tVar 5) tNil))))
                (tVar 7)))
            (tTest (tOp (rNeA K) (tVar 5) (tVar 4)))))
        (tRet (tC (V.bl false))) tNext)
      (tSeq
        (tAsg
          (tOp rTimesW (tC (V.int 2)) (tCall spDraw [] E0 (tCons (tVar 1) (tCons (tC (V.int 21)) tNil))))
          (gName 10))
        (tSeq
          (tAsg
            (tOp rTimes
              (tLst
                (tCons
                  (tOp rPlus (tC (V.int 1))
                    (tCall spDraw [] E0 (tCons (tVar 1) (tCons (tC (V.int 9)) tNil))))
                  tNil))
              (tOp rTimesW (tC (V.int 2)) (tVar 2)))
            (gName 11))
          (tSeq (tAsg (tCallE (spManyRightE K cs) rNo (tCons (tVar 2) (tCons (tVar 10) tNil))) (gName 12))
            (tSeq
              (tFor (iRng1 (tCons (tVar 10) tNil)) (gName 13)
                (tAsg (tOp rTimesW (tVar 12) (tOp (rIxA K) (tVar 11) (tC (V.int 0)))) (gName 12)))
              (tSeq (tAsg (tOp rTimesW (tC (tx [63])) (tVar 10)) (gName 14))
                (tRet
                  (tAndV
                    (tOp (rEqA K)
                      (tCallE spWSum25 rNo (tCons (tVar 2) (tCons (tVar 14) (tCons (tVar 11) tNil))))
                      (tVar 12))
                    (tOp (rEqA K)
                      (tCallE (spGateE K cs spMany) rNo (tCons (tVar 2) (tCons (tVar 14) tNil)))
                      (tCallE (spManyRightE K cs) rNo (tCons (tVar 2) (tCons (tVar 10) tNil)))))))))))))
  {nx:=λx H'=>Q V.non H',rt:=Q} [some (V.ref sa),some (V.ref p),some (V.int kk),some (tx a),some (V.ref pw'),some (V.ref ph),some (V.int tot),some v,none,none,none,none,none,none,none] G:=by
  intro G v o uG dG ghG gwG ft be;walk_at"g";refine zAi (bigS (by decide)) (bigS (by split<;>decide)) ?_;walk_at"g";obtain⟨cn,ecn⟩:∃cn:Int,cn=2*(if(!decide (a=[]))=true then(1:Int)else 0):=⟨_,rfl⟩;rw[<-ecn];have cn0:0<=cn/\cn<=2/\(0<cn->0<a.length):=by
   rw[ecn]
   by_cases z:a=[]
   ·rw[decide_eq_true z];exact⟨by decide,by decide,λy=>absurd y (by decide)⟩
   ·rw[decide_eq_false z];exact⟨by decide,by decide,λ_=>List.length_pos_iff.mpr z⟩
  refine⟨_,rfl,by omega,by omega,?_⟩;refine zBX (λn σ G'=>∃ (o8 o9:Option V),σ=[some (V.ref sa),some (V.ref p),some (V.int kk),some (tx a),some (V.ref pw'),some (V.ref ph),some (V.int tot),some v,o8,o9,none,none,none,none,none]/\Same H G'/\Po G' p/\G' ph=some (iL ws)/\G' pw'=some (iL ws)/\Ft G' v o)
   ⟨_,_,rfl,uG,dG,ghG,gwG,ft⟩ ?_ ?_
  ·rintro n σ G1 hn ⟨o8,o9,rfl,u1,d1,gh1,gw1,ft1⟩;have hpos:0<a.length:=cn0.2.2 (by omega);walk_at"g";refine zAo d1 (by omega) (by omega) (λr2 G2 r20 r21 d2 s2=>?_);obtain⟨i,rfl⟩:∃i:Nat,r2=i:=⟨r2.toNat,by omega⟩;have hi:i<a.length:=by omega
   have u2:Same H G2:=Same.but u1 s2 hp;have gh2:=s2 _ _ gh1 nhp;have gw2:=s2 _ _ gw1 nwp';have ft2:=ft1.but33 d1 s2;walk_at"g";refine⟨kk,a,ws,pw',i,by rw[etot],k1,k4,hro,gw2,hwl,hsm,hi,λG3 s3=>?_⟩;have ft3:=ft2.same33 s3;walk_at"g"
   first|refine⟨true,rfl,ifq rfl ?_⟩|refine ifq rfl ?_
   obtain⟨c,hc⟩:∃c,a[i]? =some c:=⟨_,List.getElem?_eq_getElem hi⟩;have ec:a.getD i 0=c:=by rw[List.getD_eq_getElem?_getD,hc];rfl
   walk_at"g";refine zBe (small (by omega)) (zAM hc) ?_;walk_at"g"
   by_cases z:c=63
   ·subst z;refine ifp rfl ?_;walk_at"g";refine⟨kk,a,ws,pw',i,rfl,k1,k4,hro,s3 _ _ gw2,hwl,hsm,hi,ec,λv4 o4 G4 s4 ft4 be4=>?_⟩;have eo:o4=o:=be4.uniq be;subst eo;walk_at"g";refine zLF ft4 (ft3.same33 s4) ?_;walk_at"g";refine ifq rfl ?_
    first|refine ifq rfl ?_ |skip
    walk_at"g";exact⟨_,_,rfl,(u2.trans s3).trans s4,(d2.same s3).same s4,s4 _ _ (s3 _ _ gh2),s4 _ _ (s3 _ _ gw2),ft3.same33 s4⟩
   ·refine ifq (decide_eq_false λy=>z (by injection y)) ?_
    first|refine ifq rfl ?_ |skip
    walk_at"g";exact⟨_,_,rfl,u2.trans s3,d2.same s3,s3 _ _ gh2,s3 _ _ gw2,ft3⟩
  rintro σ G1 ⟨o8,o9,rfl,u1,d1,gh1,gw1,ft1⟩;walk_at"g";refine⟨kk,a,ws,⟨.ref ph,rfl,k1,k4,hro,⟨ph,rfl,gh1,hwl,hsm⟩⟩,λG2 s2=>?_⟩;rw[<-etot];walk_at"g";rw[decide_eq_true rfl];refine ifq rfl ?_;walk_at"g";refine⟨kk,a,ws,⟨.ref ph,rfl,k1,k4,hro,⟨ph,rfl,s2 _ _ gh1,hwl,hsm⟩⟩,λv3 o3 G3 s3 ft3 be3=>?_⟩;have eo:o3=o:=be3.uniq be;subst eo;have s23:=s2.trans s3;walk_at"g";refine zLF ft3 (ft1.same33 s23) ?_;walk_at"g";refine ifq rfl ?_;walk_at"g";have fl:(ws.map V.int).all flatV=true:=by rw[List.all_map,List.all_eq_true];intro _ _;rfl
  refine zMJ (SqL.of (s23 _ _ gh1)) (SqL.of (s23 _ _ gw1)) fl fl ?_;rw[zIx];walk_at"g";refine ifq rfl ?_
  first|refine ifq rfl ?_ |skip
  have u3:=u1.trans s23;have d3:=d1.same s23;walk_at"g";refine zAo d3 (by decide) (by decide) (λr4 G4 r40 r41 d4 s4=>?_);have u4:Same H G4:=Same.but u3 s4 hp;walk_at"g";refine zAi (bigS (by decide)) (bigS (by omega)) ?_;obtain⟨n,en⟩:∃n:Nat,(n:Int)=2*r4:=⟨(2*r4).toNat,by omega⟩;rw[<-en];have hn40:n<=40:=by omega
  walk_at"g";refine zAo d4 (by decide) (by decide) (λr5 G5 r50 r51 d5 s5=>?_);have u5:Same H G5:=Same.but u4 s5 hp;walk_at"g";obtain⟨c,ec⟩:∃c:Int,c=1+r5:=⟨_,rfl⟩;rw[<-ec];refine⟨small (show 1<=1000 by decide),λz hz=>?_⟩;have t6:=zAG hz (.lst [.int c]);walk_at"g";refine zAi (bigS (by decide)) (bigS (by omega)) ?_;refine zF4 (xs:=[.int c]) zAF (by omega) (by omega) (small (by rw[List.length_singleton,e2];omega)) (λpa hpa=>?_);have ew:(List.replicate (2*kk).toNat [V.int c]).flatten=(List.replicate (2*kk.toNat) c).map V.int:=by rw[e2];simp
  rw[ew];have t7:=zAG hpa (.lst ((List.replicate (2*kk.toNat) c).map V.int));have g7:(upd (upd G5 z (.lst [.int c])) pa (.lst ((List.replicate (2*kk.toNat) c).map V.int))) pa=_:=zAF;have u7:=(u5.trans t6).trans t7;generalize upd (upd G5 z _) pa _=G7 at*
  walk_at"g";refine .inl (zCv k1 k4 (by omega) (by omega) (λG8 s8=>?_));rw[Int.toNat_natCast];have g8:=s8 _ _ g7;have u8:=u7.trans s8;obtain⟨cv',ecv⟩:∃x:Int,x=cnt kk.toNat (List.replicate n 63):=⟨_,rfl⟩;have ccap:=zL2 (k:=kk.toNat) (a:=List.replicate n 63) hk4 (by rw[List.length_replicate];exact hn40);rw[<-ecv]at ccap⊢;walk_at"g";have c9:1<=c/\c<=9:=by omega
  have pb:∀j,j<=40->(cv'*c^j).natAbs<big:=λj hj=>by
   rw[Int.natAbs_mul,Int.natAbs_pow];have x1:cv'.natAbs<=cap.natAbs:=by omega
   have x2:c.natAbs^j<=9^40:=Nat.le_trans (Nat.pow_le_pow_left (by omega) j) (Nat.pow_le_pow_right (by decide) hj);refine Nat.lt_of_le_of_lt (Nat.mul_le_mul (Nat.le_trans x1 (Nat.le_of_lt zHK)) x2) ?_;unfold big
   decide +kernel
  have a0:atI ((List.replicate (2*kk.toNat) c).map V.int) 0=some (V.int c):=by
   obtain⟨m,em⟩:=em2;rw[em,List.replicate_succ];simp[atI,ixN]
  refine⟨_,rfl,by omega,by omega,?_⟩;rw[Int.toNat_natCast];refine zBX (λj σ G'=>∃ (o13:Option V),σ=[some (V.ref sa),some (V.ref p),some (V.int kk),some (tx a),some (V.ref pw'),some (V.ref ph),some (V.int tot),some v,o8,o9,some (V.int n),some (V.ref pa),some (V.int (cv'*c^j)),o13,none]/\Same G8 G')
   ⟨none,by rw[Int.pow_zero,Int.mul_one];rfl,Same.refl _⟩ ?_ ?_
  ·rintro j σ G9 hj ⟨o13,rfl,s9⟩;walk_at"g";refine zAZ (SqL.of (s9 _ _ g8)) a0 ?_;refine zAi (pb j (by omega)) (bigS (by omega)) ?_;walk_at"g";exact⟨_,by rw[Int.pow_succ,Int.mul_assoc];rfl,s9⟩
  rintro σ G9 ⟨o13,rfl,s9⟩;have g9:=s9 _ _ g8;walk_at"g";refine .inr (.inr ⟨[63],n,rfl,rfl,by omega,by omega,by decide,?_⟩);rw[zKZ,Int.toNat_natCast];walk_at"g";have hsA:Sm (List.replicate (2*kk.toNat) c):=λx hx=>by
   rw[List.eq_of_mem_replicate hx];exact⟨by omega,Int.le_trans c9.2 (by unfold top30;decide)⟩
  refine⟨kk,List.replicate n 63,List.replicate (2*kk.toNat) c,⟨.ref pa,rfl,k1,k4,zD1 hn40,⟨pa,rfl,g9,by rw[List.length_replicate];exact el2,hsA⟩⟩,λG10 s10=>?_⟩;rw[zHy hk4 c n,<-ecv,Int.mul_comm (c^n)];walk_at"g";rw[decide_eq_true rfl];refine ifp rfl ?_;walk_at"g";refine .inl (zG0 k1 k4 (zD1 hn40) (λG11 s11=>?_));walk_at"g";refine .inl (zCv k1 k4 (by omega) (by omega) (λG12 s12=>?_));rw[Int.toNat_natCast];walk_at"g";rw[decide_eq_true rfl];exact q _
 have tail:∀ (G:Hp) (v:V) (o:O),Same H G->Po G p->G ph=some (iL ws)->G pw'=some (iL ws)->Ft G v o->Best (Dn kk.toNat 0 a.length) (wtl (Pw ws a) 0) o->(
          tSeq
           (tIfS
             (tOr
               (tTest
                 (tOp (rNeA K) (tVar 6)
                   (tCall spSum33 [] E0 (tCons (tVar 2) (tCons (tVar 3) (tCons (tVar 4) tNil))))))
               (tTest
                 (tOp (rNeO K) (tVar 7)
                   (tCall spFirst33 [] E0 (tCons (tVar 2) (tCons (tVar 3) (tCons (tVar 4) tNil)))))))
             (tRet (tC (V.bl false))) tNext)
           (tSeq
             (tIfS
               (tAnd (tTest (tOp rIsNotA (tVar 7) (tC V.non)))
                 (tNot (tTru K (tCall spFills33 [] E0 (tCons (tVar 3) (tCons (tVar 7) (tCons (tVar 4) tNil)))))))
               (tRet (tC (V.bl false))) tNext)
             (tSeq
               (tFor
                 (iRng1
                   (tCons (tOp rTimesW (tC (V.int 2)) (tCB rInt (tCons (tOp (rNeA K) (tVar 3) (tC (tx []))) tNil)))
                     tNil))
                 (gName 8)
                 (tSeq
                   (tAsg (tCall spDraw [] E0 (tCons (tVar 1) (tCons (tCB (rLen K) (tCons (tVar 3) tNil)) tNil)))
                     (gName 9))
                   (tSeq
                     (tIfS
                       (tNot
                         (tTru K
                           (tCallE spChances33 rNo
                             (tCons (tVar 2)
                               (tCons (tVar 3) (tCons (tVar 4) (tCons (tVar 9) (tCons (tVar 6) tNil))))))))
                       (tRet (tC (V.bl false))) tNext)
                     (tIfS
                       (tAnd (tTest (tOp (rEqA K) (tOp (rIxA K) (tVar 3) (tVar 9)) (tC (tx [63]))))
                         (tTest
                           (tOp (rNeO K)
                             (tCallE spBest33 rNo
                               (tCons (tVar 2) (tCons (tVar 3) (tCons (tVar 4) (tCons (tVar 9) tNil)))))
                             (tVar 7))))
                       (tRet (tC (V.bl false))) tNext))))
               (tSeq
                 (tIfS
                   (tOr
                     (tTest
                       (tOp (rNeA K) (tCallE spWSum25 rNo (tCons (tVar 2) (tCons (tVar 3) (tCons (tVar 5) tNil))))
                         (tVar 6)))
                     (tOr
                       (tTest
                         (tOp (rNeO K) (tCallE spLik25 rNo (tCons (tVar 2) (tCons (tVar 3) (tCons (tVar 5) tNil))))
                           (tVar 7)))
                       (tTest (tOp (rNeA K) (tVar 5) (tVar 4)))))
                   (tRet (tC (V.bl false))) tNext)
                 (tSeq
                   (tAsg
                     (tOp rTimesW (tC (V.int 2)) (tCall spDraw [] E0 (tCons (tVar 1) (tCons (tC (V.int 21)) tNil))))
                     (gName 10))
                   (tSeq
                     (tAsg
                       (tOp rTimes
                         (tLst
                           (tCons
                             (tOp rPlus (tC (V.int 1))
                               (tCall spDraw [] E0 (tCons (tVar 1) (tCons (tC (V.int 9)) tNil))))
                             tNil))
                         (tOp rTimesW (tC (V.int 2)) (tVar 2)))
                       (gName 11))
                     (tSeq (tAsg (tCallE (spManyRightE K cs) rNo (tCons (tVar 2) (tCons (tVar 10) tNil))) (gName 12))
                       (tSeq
                         (tFor (iRng1 (tCons (tVar 10) tNil)) (gName 13)
                           (tAsg (tOp rTimesW (tVar 12) (tOp (rIxA K) (tVar 11) (tC (V.int 0)))) (gName 12)))
                         (tSeq (tAsg (tOp rTimesW (tC (tx [63])) (tVar 10)) (gName 14))
                           (tRet
                             (tAndV
                               (tOp (rEqA K)
                                 (tCallE spWSum25 rNo (tCons (tVar 2) (tCons (tVar 14) (tCons (tVar 11) tNil))))
                                 (tVar 12))
                               (tOp (rEqA K)
                                 (tCallE (spGateE K cs spMany) rNo (tCons (tVar 2) (tCons (tVar 14) tNil)))
                                 (tCallE (spManyRightE K cs) rNo (tCons (tVar 2) (tCons (tVar 10) tNil)))))))))))))))
  {nx:=λx H'=>Q V.non H',rt:=Q} [some (V.ref sa),some (V.ref p),some (V.int kk),some (tx a),some (V.ref pw'),some (V.ref ph),some (V.int tot),some v,none,none,none,none,none,none,none] G:=by
  intro G v o uG dG ghG gwG ft be;walk_at"g";refine⟨kk,a,ws,pw',rfl,k1,k4,hro,gwG,hwl,hsm,λG1 s1=>?_⟩;rw[<-etot];walk_at"g";rw[decide_eq_true rfl];refine ifq rfl ?_;walk_at"g";refine⟨kk,a,ws,pw',rfl,k1,k4,hro,s1 _ _ gwG,hwl,hsm,λv2 o2 G2 s2 ft2 be2=>?_⟩;have eo:o2=o:=be2.uniq be;subst eo;have s12:=s1.trans s2;have ftG:=ft.same33 s12;walk_at"g";refine zLF ftG ft2 ?_;walk_at"g";refine ifq rfl ?_
  match o2,ft,ftG,be with
  |none,ft,ftG,be=>
   have fn:=ftG
   cases(show v= .non from ft)
   walk_at"g";refine ifq rfl ?_
   first|refine ifq rfl ?_ |skip
   exact tail2 G2 .non none (uG.trans s12) (dG.same s12) (s12 _ _ ghG) (s12 _ _ gwG) fn be
  |some (w,l),⟨Tb,ev,gb⟩,ftG,be=>
   subst ev;have gb2:=s12 _ _ gb;have ew:wtl (Pw ws a) 0 l=w:=be.2.1;walk_at"g";refine ifp rfl ?_;walk_at"g";refine⟨a,l,ws,Tb,pw',kk,rfl,k1,k4,hro,by rw[ew];exact gb2,s12 _ _ gwG,hwl,hsm,be.1,by rw[ew];exact be.2.2.1,λG3 s3=>?_⟩;walk_at"g"
   first|refine⟨true,rfl,ifq rfl ?_⟩|refine ifq rfl ?_
   first|refine ifq rfl ?_ |skip
   exact tail2 G3 _ (some (w,l)) ((uG.trans s12).trans s3) ((dG.same s12).same s3) (s3 _ _ (s12 _ _ ghG)) (s3 _ _ (s12 _ _ gwG)) (ftG.same33 s3) be
 rcases bsm with⟨eo,et⟩|⟨w,l,eo,w0,wle⟩
 ·subst eo;have ft0:=ft
  cases(show v= .non from ft)
  walk_at"g";rw[show decide (tot=0)=true from decide_eq_true et];refine ifq rfl ?_;walk_at"g";refine ifq rfl ?_
  first|refine ifq rfl ?_ |skip
  exact tail H10 .non none u10 d10 gh10 gw10 ft0 be
 ·subst eo;have ft0:=ft;obtain⟨Tb,ev,gb⟩:=ft;subst ev;have hll:l.length=a.length:=by have:=be.1.2;omega
  have hbd:∀b∈l,b<2*kk.toNat:=zD3 l [] [] be.1.1;walk_at"g";rw[show decide (tot=0)=false from decide_eq_false (by omega)];refine ifq rfl ?_;walk_at"g";refine ifp rfl ?_;walk_at"g";refine zBD (SqT.of gb) (v:=tx (brx l)) rfl ?_;walk_at"g";refine .inl (zHV k1 k4 (by rw[show kk=((kk.toNat:Nat):Int) by omega];exact zFf hk4 (by omega) hbd) (λH11 s11=>?_));rw[decide_eq_true (zMh hk4 be.1.1)];walk_at"g";refine ifq rfl ?_;walk_at"g";refine zBD (SqT.of (s11 _ _ gb)) (v:= .int w) rfl ?_;walk_at"g";rw[show decide (tot<w)=false from decide_eq_false (by omega)];refine ifq rfl ?_
  first|refine ifq rfl ?_ |skip
  exact tail H11 _ (some (w,l)) (u10.trans s11) (d10.same s11) (s11 _ _ gh10) (s11 _ _ gw10) (ft0.same33 s11) be
end
theorem len1{P:List Value->Prop}(h:∀a,P [a]):∀us,us.length=1->P us|[_],_=>h _
theorem len2{P:List Value->Prop}(h:∀a b,P [a,b]):∀us,us.length=2->P us|[_,_],_=>h _ _
theorem len3{P:List Value->Prop}(h:∀a b c,P [a,b,c]):∀us,us.length=3->P us|[_,_,_],_=>h _ _ _
theorem len4{P:List Value->Prop}(h:∀a b c d,P [a,b,c,d]):∀us,us.length=4->P us|[_,_,_,_],_=>h _ _ _ _
theorem len5{P:List Value->Prop}(h:∀a b c d e,P [a,b,c,d,e]):∀us,us.length=5->P us|[_,_,_,_,_],_=>h _ _ _ _ _
def FnAt(K:PySem.W.Frag)(x:Str)(st:Stmt):Prop:=∃f fd,PySem.W.nsIn K mainGlobals x=some (some (.ref f))/\Fun K x x st f fd
theorem FnAt.mk{K:PySem.W.Frag}{x:Str}{st:Stmt}{f:Addr}{oc:Value}{od an:Option Addr}{osl:Array (Option Value)}{kV doc pm cdv ct:Value}(a:PySem.W.nsIn K mainGlobals x=some (some (.ref f)))(l:K.lookup f=some ⟨oc,od, .func (PySem.W.fnOf x x (defArgs st) (defBody st) (defScope st) .none kV doc pm an cdv ct),osl⟩)(c:PySem.W.codeIn K cdv x=true)(k:PySem.W.keepIn K (.ref f)=true):FnAt K x st:=⟨f,_,a,zNN l c k⟩
theorem FnAt.at{K:PySem.W.Frag}{h:Heap}{mg:Str->Option Value}{x:Str}{st:Stmt}{ps:List Str}(p:FnAt K x st)(X:K.In h)(G:h.Ns mainGlobals mg)(hb:∀ (kV doc pm:Value) (an:Option Addr) (cdv ct:Value) (us:List Value),us.length=ps.length->bindArgs (PySem.W.fnOf x x (defArgs st) (defBody st) (defScope st) .none kV doc pm an cdv ct) ⟨us,[]⟩=pure (ps.zip us)):∃f fd,DefAt K mg x st ps f fd:=let⟨f,fd,a,F⟩:=p;⟨f,fd,F,PySem.W.mg_of X G a,F.binds hb⟩
theorem all_mk{l:PySem.W.OpenLaw}{w:World}{K:PySem.W.Frag}{h:Heap}{mg:Str->Option Value}{fa:Addr}(X:K.In h)(G:h.Ns mainGlobals mg)(hfa:mg "law"=some (.ref fa)){x_NoKinds:Addr}{x_NoLine:Addr}{x_NoNumber:Addr}{x_NoWeights:Addr}{x_NoPlace:Addr}{x_NoFilling:Addr}{x_OPENING:Str}{t_OPENING:Tok}{x_CLOSING:Str}{t_CLOSING:Tok}{aK:Addr}{oK:Obj}{itK:Array Value}{nK:Nat}{x_BRACKETS:Str}{t_BRACKETS:Tok}{x_UNKNOWN:Str}{t_UNKNOWN:Tok}{x_MOST_SIGNS:Int}{t_MOST_SIGNS:Tok}
 (p0:FnAt K "is_whole" zDL)
 (p1:FnAt K "check_kinds" zB9)
 (p2:FnAt K "is_line" zCM)
 (p3:FnAt K "check_line" zCN)
 (p4:FnAt K "check_place" zB8)
 (p5:FnAt K "matched" zD5)
 (p6:FnAt K "is_right" zDM)
 (p7:FnAt K "weighed_places" zA5)
 (p8:FnAt K "counted_places" zBa)
 (p9:FnAt K "pair_sum" zCX)
 (p10:FnAt K "no_sums" zCz)
 (p11:FnAt K "span_sums" zCi)
 (p12:FnAt K "whole_sum" zCh)
 (p13:FnAt K "check_filling" zBo)
 (p14:FnAt K "pairs_with_rest" zBR)
 (p15:FnAt K "bracket_sums" zBT)
 (p16:FnAt K "check_weights" zA9)
 (p17:FnAt K "checked_places" zBb)
 (p18:FnAt K "weight_sum" zCK)
 (p19:FnAt K "likelier" zDH)
 (p20:FnAt K "likeliest_pair" zBY)
 (p21:FnAt K "round_about" zB6)
 (p22:FnAt K "one_behind_the_other" zA7)
 (p23:FnAt K "likeliest_spans" zBB)
 (p24:FnAt K "first_likeliest" zBC)
 (p25:FnAt K "likeliest" zCj)
 (p26:FnAt K "check_bracket" zBp)
 (p27:FnAt K "reduced" zD4)
 (p28:FnAt K "chance" zE8)
 (p29:FnAt K "how_many" zDN)
 (p30:FnAt K "how_many_right" zBZ)
 (p31:FnAt K "_law_pool" zDI)
 (p32:FnAt K "_law_draw" zDJ)
 (p33:FnAt K "_law_right" zCk)
 (p34:FnAt K "_law_row" zC0)
 (p35:FnAt K "_law_weights" zBh)
 (p36:FnAt K "_law_places" zBt)
 (p37:FnAt K "_law_best" zDK)
 (p38:FnAt K "_law_lowest" zCL)
 (p39:FnAt K "_law_chances_right" zA3)
 (p40:FnAt K "_law_sum" zD6)
 (p41:FnAt K "_law_first" zB7)
 (p42:FnAt K "_law_fills" zCl)
 (p43:FnAt K "law" zHm)
 (y_NoKinds:PySem.W.nsIn K mainGlobals "NoKinds"=some (some (.ref x_NoKinds))) (w_NoKinds:eclsB K x_NoKinds=true)
 (y_NoLine:PySem.W.nsIn K mainGlobals "NoLine"=some (some (.ref x_NoLine))) (w_NoLine:eclsB K x_NoLine=true)
 (y_NoNumber:PySem.W.nsIn K mainGlobals "NoNumber"=some (some (.ref x_NoNumber))) (w_NoNumber:eclsB K x_NoNumber=true)
 (y_NoWeights:PySem.W.nsIn K mainGlobals "NoWeights"=some (some (.ref x_NoWeights))) (w_NoWeights:eclsB K x_NoWeights=true)
 (y_NoPlace:PySem.W.nsIn K mainGlobals "NoPlace"=some (some (.ref x_NoPlace))) (w_NoPlace:eclsB K x_NoPlace=true)
 (y_NoFilling:PySem.W.nsIn K mainGlobals "NoFilling"=some (some (.ref x_NoFilling))) (w_NoFilling:eclsB K x_NoFilling=true)
 (mm_NoFilling:PySem.W.mroIn K x_NoFilling (.ref x_NoFilling)=some true)
 (z_all:PySem.W.nsIn K mainGlobals "all"=some none)
 (z_bool:PySem.W.nsIn K mainGlobals "bool"=some none)
 (z_enumerate:PySem.W.nsIn K mainGlobals "enumerate"=some none)
 (z_int:PySem.W.nsIn K mainGlobals "int"=some none)
 (z_isinstance:PySem.W.nsIn K mainGlobals "isinstance"=some none)
 (z_len:PySem.W.nsIn K mainGlobals "len"=some none)
 (z_list:PySem.W.nsIn K mainGlobals "list"=some none)
 (z_range:PySem.W.nsIn K mainGlobals "range"=some none)
 (z_repr:PySem.W.nsIn K mainGlobals "repr"=some none)
 (z_str:PySem.W.nsIn K mainGlobals "str"=some none)
 (z_sum:PySem.W.nsIn K mainGlobals "sum"=some none)
 (z_zip:PySem.W.nsIn K mainGlobals "zip"=some none)
 (dg1:PySem.W.nsOkIn K cStatics=true)
 (dg2:PySem.W.nsIn K cStatics "sys.int_max_str_digits"=some none)
 (g_OPENING:PySem.W.nsIn K mainGlobals "OPENING"=some (some (.str x_OPENING t_OPENING))) (h_OPENING:x_OPENING=⟨([40,91,123,60]:List Nat).toArray⟩)
 (g_CLOSING:PySem.W.nsIn K mainGlobals "CLOSING"=some (some (.str x_CLOSING t_CLOSING))) (h_CLOSING:x_CLOSING=⟨([41,93,125,62]:List Nat).toArray⟩)
 (g_K:PySem.W.nsIn K mainGlobals "KINDS"=some (some (.ref aK))) (l_K:K.lookup aK=some oK) (c_K:oK.cls= .type "tuple") (s_K:oK.data= .seq itK nK) (r_K:tupIs itK [tx [40,41],tx [91,93],tx [123,125],tx [60,62]]=true)
 (g_BRACKETS:PySem.W.nsIn K mainGlobals "BRACKETS"=some (some (.str x_BRACKETS t_BRACKETS))) (h_BRACKETS:x_BRACKETS=⟨([40,41,91,93,123,125,60,62]:List Nat).toArray⟩)
 (g_UNKNOWN:PySem.W.nsIn K mainGlobals "UNKNOWN"=some (some (.str x_UNKNOWN t_UNKNOWN))) (h_UNKNOWN:x_UNKNOWN=⟨([63]:List Nat).toArray⟩)
 (g_MOST_SIGNS:PySem.W.nsIn K mainGlobals "MOST_SIGNS"=some (some (.int x_MOST_SIGNS t_MOST_SIGNS))) (h_MOST_SIGNS:x_MOST_SIGNS=40):
 ∃fd:FuncData,(∀ (s:Shared) (v:Value),BindsTo s fd ⟨[v],[]⟩ [("script",v)])/\∀base:Heap,K.In base->base.Ns mainGlobals mg->FnOk l.prog w K mg base CX0 8 fa fd ["script"] (spLaw K):=by
 have T:Txt K mg aK ⟨0,x_NoKinds,x_NoLine,0,0,x_NoNumber,x_NoWeights,x_NoPlace,x_NoFilling,0,0,0⟩:=⟨⟨dg1,dg2⟩,PySem.W.mg_none_of X G z_all,PySem.W.mg_none_of X G z_bool,PySem.W.mg_none_of X G z_enumerate,PySem.W.mg_none_of X G z_int,PySem.W.mg_none_of X G z_isinstance,PySem.W.mg_none_of X G z_len,PySem.W.mg_none_of X G z_list,PySem.W.mg_none_of X G z_range,PySem.W.mg_none_of X G z_repr,PySem.W.mg_none_of X G z_str,PySem.W.mg_none_of X G z_sum,PySem.W.mg_none_of X G z_zip,⟨_,PySem.W.mg_of X G g_OPENING,by rw[h_OPENING];exact⟨_,rfl⟩⟩,⟨_,PySem.W.mg_of X G g_CLOSING,by rw[h_CLOSING];exact⟨_,rfl⟩⟩,⟨_,PySem.W.mg_of X G g_K,rfl⟩,λH=> .inr ⟨oK,itK,nK,l_K,c_K,s_K,zHR r_K (by decide),zEM r_K⟩,⟨_,PySem.W.mg_of X G g_BRACKETS,by rw[h_BRACKETS];exact⟨_,rfl⟩⟩,⟨_,PySem.W.mg_of X G g_UNKNOWN,by rw[h_UNKNOWN];exact⟨_,rfl⟩⟩,⟨_,PySem.W.mg_of X G g_MOST_SIGNS,by rw[h_MOST_SIGNS];exact⟨_,rfl⟩⟩,PySem.W.mg_of X G y_NoKinds,zDG w_NoKinds,PySem.W.mg_of X G y_NoLine,zDG w_NoLine,PySem.W.mg_of X G y_NoNumber,zDG w_NoNumber,PySem.W.mg_of X G y_NoWeights,zDG w_NoWeights,PySem.W.mg_of X G y_NoPlace,zDG w_NoPlace,PySem.W.mg_of X G y_NoFilling,zDG w_NoFilling,mm_NoFilling⟩;obtain⟨f0,e0,D0⟩:=p0.at (ps:=["thing"]) X G λ_ _ _ _ _ _=>len1 λ_=>rfl;obtain⟨f1,e1,D1⟩:=p1.at (ps:=["k"]) X G λ_ _ _ _ _ _=>len1 λ_=>rfl;obtain⟨f2,e2,D2⟩:=p2.at (ps:=["k","thing"]) X G λ_ _ _ _ _ _=>len2 λ_ _=>rfl;obtain⟨f3,e3,D3⟩:=p3.at (ps:=["k","row"]) X G λ_ _ _ _ _ _=>len2 λ_ _=>rfl;obtain⟨f4,e4,D4⟩:=p4.at (ps:=["row","i"]) X G λ_ _ _ _ _ _=>len2 λ_ _=>rfl;obtain⟨f5,e5,D5⟩:=p5.at (ps:=["row"]) X G λ_ _ _ _ _ _=>len1 λ_=>rfl;obtain⟨f6,e6,D6⟩:=p6.at (ps:=["k","row"]) X G λ_ _ _ _ _ _=>len2 λ_ _=>rfl;obtain⟨f7,e7,D7⟩:=p7.at (ps:=["row","weights"]) X G λ_ _ _ _ _ _=>len2 λ_ _=>rfl;obtain⟨f8,e8,D8⟩:=p8.at (ps:=["k","row"]) X G λ_ _ _ _ _ _=>len2 λ_ _=>rfl;obtain⟨f9,e9,D9⟩:=p9.at (ps:=["first","last"]) X G λ_ _ _ _ _ _=>len2 λ_ _=>rfl;obtain⟨f10,e10,D10⟩:=p10.at (ps:=["many"]) X G λ_ _ _ _ _ _=>len1 λ_=>rfl;obtain⟨f11,e11,D11⟩:=p11.at (ps:=["places"]) X G λ_ _ _ _ _ _=>len1 λ_=>rfl;obtain⟨f12,e12,D12⟩:=p12.at (ps:=["sums"]) X G λ_ _ _ _ _ _=>len1 λ_=>rfl;obtain⟨f13,e13,D13⟩:=p13.at (ps:=["sums"]) X G λ_ _ _ _ _ _=>len1 λ_=>rfl;obtain⟨f14,e14,D14⟩:=p14.at (ps:=["places","sums"]) X G λ_ _ _ _ _ _=>len2 λ_ _=>rfl;obtain⟨f15,e15,D15⟩:=p15.at (ps:=["places","sums"]) X G λ_ _ _ _ _ _=>len2 λ_ _=>rfl;obtain⟨f16,e16,D16⟩:=p16.at (ps:=["k","weights"]) X G λ_ _ _ _ _ _=>len2 λ_ _=>rfl;obtain⟨f17,e17,D17⟩:=p17.at (ps:=["k","row","weights"]) X G λ_ _ _ _ _ _=>len3 λ_ _ _=>rfl;obtain⟨f18,e18,D18⟩:=p18.at (ps:=["k","row","weights"]) X G λ_ _ _ _ _ _=>len3 λ_ _ _=>rfl;obtain⟨f19,e19,D19⟩:=p19.at (ps:=["one","other"]) X G λ_ _ _ _ _ _=>len2 λ_ _=>rfl;obtain⟨f20,e20,D20⟩:=p20.at (ps:=["first","last"]) X G λ_ _ _ _ _ _=>len2 λ_ _=>rfl;obtain⟨f21,e21,D21⟩:=p21.at (ps:=["pair","within"]) X G λ_ _ _ _ _ _=>len2 λ_ _=>rfl;obtain⟨f22,e22,D22⟩:=p22.at (ps:=["first","second"]) X G λ_ _ _ _ _ _=>len2 λ_ _=>rfl;obtain⟨f23,e23,D23⟩:=p23.at (ps:=["places"]) X G λ_ _ _ _ _ _=>len1 λ_=>rfl;obtain⟨f24,e24,D24⟩:=p24.at (ps:=["places"]) X G λ_ _ _ _ _ _=>len1 λ_=>rfl;obtain⟨f25,e25,D25⟩:=p25.at (ps:=["k","row","weights"]) X G λ_ _ _ _ _ _=>len3 λ_ _ _=>rfl;obtain⟨f26,e26,D26⟩:=p26.at (ps:=["k","thing"]) X G λ_ _ _ _ _ _=>len2 λ_ _=>rfl;obtain⟨f27,e27,D27⟩:=p27.at (ps:=["top","bottom"]) X G λ_ _ _ _ _ _=>len2 λ_ _=>rfl;obtain⟨f28,e28,D28⟩:=p28.at (ps:=["k","row","weights","i","bracket"]) X G λ_ _ _ _ _ _=>len5 λ_ _ _ _ _=>rfl;obtain⟨f29,e29,D29⟩:=p29.at (ps:=["k","row"]) X G λ_ _ _ _ _ _=>len2 λ_ _=>rfl;obtain⟨f30,e30,D30⟩:=p30.at (ps:=["k","n"]) X G λ_ _ _ _ _ _=>len2 λ_ _=>rfl;obtain⟨f31,e31,D31⟩:=p31.at (ps:=["script","k"]) X G λ_ _ _ _ _ _=>len2 λ_ _=>rfl;obtain⟨f32,e32,D32⟩:=p32.at (ps:=["pool","many"]) X G λ_ _ _ _ _ _=>len2 λ_ _=>rfl;obtain⟨f33,e33,D33⟩:=p33.at (ps:=["pool","kinds","many"]) X G λ_ _ _ _ _ _=>len3 λ_ _ _=>rfl;obtain⟨f34,e34,D34⟩:=p34.at (ps:=["pool","kinds","many"]) X G λ_ _ _ _ _ _=>len3 λ_ _ _=>rfl;obtain⟨f35,e35,D35⟩:=p35.at (ps:=["pool","kinds"]) X G λ_ _ _ _ _ _=>len2 λ_ _=>rfl;obtain⟨f36,e36,D36⟩:=p36.at (ps:=["row"]) X G λ_ _ _ _ _ _=>len1 λ_=>rfl;obtain⟨f37,e37,D37⟩:=p37.at (ps:=["kinds","row","weights","i"]) X G λ_ _ _ _ _ _=>len4 λ_ _ _ _=>rfl;obtain⟨f38,e38,D38⟩:=p38.at (ps:=["top","bottom"]) X G λ_ _ _ _ _ _=>len2 λ_ _=>rfl;obtain⟨f39,e39,D39⟩:=p39.at (ps:=["kinds","row","weights","i","total"]) X G λ_ _ _ _ _ _=>len5 λ_ _ _ _ _=>rfl;obtain⟨f40,e40,D40⟩:=p40.at (ps:=["kinds","row","weights"]) X G λ_ _ _ _ _ _=>len3 λ_ _ _=>rfl;obtain⟨f41,e41,D41⟩:=p41.at (ps:=["kinds","row","weights"]) X G λ_ _ _ _ _ _=>len3 λ_ _ _=>rfl;obtain⟨f42,e42,D42⟩:=p42.at (ps:=["row","told","weights"]) X G λ_ _ _ _ _ _=>len3 λ_ _ _=>rfl;obtain⟨f43,e43,D43⟩:=p43.at (ps:=["script"]) X G λ_ _ _ _ _ _=>len1 λ_=>rfl;have e:=hfa.symm.trans D43.m
 cases e
 obtain⟨_,_,kV43,dc43,pm43,an43,cd43,ct43,_,rfl,_,_⟩:=D43.F.ex;refine⟨PySem.W.fnOf "law" "law" (defArgs zHm) (defBody zHm) (defScope zHm) .none kV43 dc43 pm43 an43 cd43 ct43,λs v=> .of_eq rfl,λbase _ _=>?_⟩;have U_is_whole:FnU l.prog w K mg base 1 "is_whole" ["thing"] (spWhole K):=D0.fnU (zGG (k:=0) D0.F T);have U_check_kinds:FnUE l.prog w K mg base 2 "check_kinds" ["k"] (spKindsE K (⟨0,x_NoKinds,x_NoLine,0,0,x_NoNumber,x_NoWeights,x_NoPlace,x_NoFilling,0,0,0⟩:Cs)):=D1.fnUE (zEJ (k:=1) D1.F T (U_is_whole.mono (by decide)));have U_is_line:FnUE l.prog w K mg base 3 "is_line" ["k","thing"] (spLineE K (⟨0,x_NoKinds,x_NoLine,0,0,x_NoNumber,x_NoWeights,x_NoPlace,x_NoFilling,0,0,0⟩:Cs)):=D2.fnUE (zHf (k:=2) D2.F T (U_check_kinds.mono (by decide)));have U_check_line:FnUE l.prog w K mg base 4 "check_line" ["k","row"] (spGateE K (⟨0,x_NoKinds,x_NoLine,0,0,x_NoNumber,x_NoWeights,x_NoPlace,x_NoFilling,0,0,0⟩:Cs) spCheckLine):=D3.fnUE (zEw (k:=3) D3.F T (U_is_line.mono (by decide)));have U_check_place:FnUE l.prog w K mg base 2 "check_place" ["row","i"] (spPlaceE K (⟨0,x_NoKinds,x_NoLine,0,0,x_NoNumber,x_NoWeights,x_NoPlace,x_NoFilling,0,0,0⟩:Cs)):=D4.fnUE (zEI (k:=1) D4.F T (U_is_whole.mono (by decide)));have U_matched:FnU l.prog w K mg base 1 "matched" ["row"] (spMatched):=D5.fnU (zHc (k:=0) D5.F T);have U_is_right:FnUE l.prog w K mg base 5 "is_right" ["k","row"] (spGateE K (⟨0,x_NoKinds,x_NoLine,0,0,x_NoNumber,x_NoWeights,x_NoPlace,x_NoFilling,0,0,0⟩:Cs) spRightP):=D6.fnUE (zGH (k:=4) D6.F T (U_check_line.mono (by decide)) (U_matched.mono (by decide)));have U_weighed_places:FnU l.prog w K mg base 1 "weighed_places" ["row","weights"] (spWeighed K):=D7.fnU (zDA (k:=0) D7.F T);have U_counted_places:FnU l.prog w K mg base 2 "counted_places" ["k","row"] (spCounted):=D8.fnU (zDD (k:=1) D8.F T (U_weighed_places.mono (by decide)));have U_pair_sum:FnU l.prog w K mg base 1 "pair_sum" ["first","last"] (spPair):=D9.fnU (zGB (k:=0) D9.F T);have U_no_sums:FnU l.prog w K mg base 1 "no_sums" ["many"] (spNoSums):=D10.fnU (zHb (k:=0) D10.F T);have U_span_sums:FnU l.prog w K mg base 2 "span_sums" ["places"] (spSpans):=D11.fnU (zFV (k:=1) D11.F T (U_no_sums.mono (by decide)) (U_pair_sum.mono (by decide)));have U_whole_sum:FnU l.prog w K mg base 1 "whole_sum" ["sums"] (spWholeSum):=D12.fnU (zFU (k:=0) D12.F T);have U_check_filling:FnUE l.prog w K mg base 2 "check_filling" ["sums"] (spCheckFillE (⟨0,x_NoKinds,x_NoLine,0,0,x_NoNumber,x_NoWeights,x_NoPlace,x_NoFilling,0,0,0⟩:Cs)):=D13.fnUE (zDc (k:=1) D13.F T (U_whole_sum.mono (by decide)));have U_pairs_with_rest:FnU l.prog w K mg base 2 "pairs_with_rest" ["places","sums"] (spPairsR):=D14.fnU (zCr (k:=1) D14.F T (U_no_sums.mono (by decide)) (U_pair_sum.mono (by decide)));have U_bracket_sums:FnU l.prog w K mg base 3 "bracket_sums" ["places","sums"] (spBrSums):=D15.fnU (zDx (k:=2) D15.F T (U_pairs_with_rest.mono (by decide)));have U_check_weights:FnUE l.prog w K mg base 2 "check_weights" ["k","weights"] (spCheckW K (⟨0,x_NoKinds,x_NoLine,0,0,x_NoNumber,x_NoWeights,x_NoPlace,x_NoFilling,0,0,0⟩:Cs)):=D16.fnUE (zDb (k:=1) D16.F T (U_is_whole.mono (by decide)));have U_checked_places:FnUE l.prog w K mg base 5 "checked_places" ["k","row","weights"] (spChk K (⟨0,x_NoKinds,x_NoLine,0,0,x_NoNumber,x_NoWeights,x_NoPlace,x_NoFilling,0,0,0⟩:Cs)):=D17.fnUE (zDE (k:=4) D17.F T (U_check_line.mono (by decide)) (U_check_weights.mono (by decide)) (U_weighed_places.mono (by decide)));have U_weight_sum:FnUE l.prog w K mg base 6 "weight_sum" ["k","row","weights"] (spWSum25):=D18.fnUE (zEt (k:=5) D18.F T (U_whole_sum.mono (by decide)) (U_span_sums.mono (by decide)) (U_checked_places.mono (by decide)));have U_likelier:FnU l.prog w K mg base 1 "likelier" ["one","other"] (spLikelier):=D19.fnU (zGC (k:=0) D19.F T);have U_likeliest_pair:FnU l.prog w K mg base 2 "likeliest_pair" ["first","last"] (spLPair):=D20.fnU (zDB (k:=1) D20.F T (U_likelier.mono (by decide)));have U_round_about:FnU l.prog w K mg base 1 "round_about" ["pair","within"] (spRound):=D21.fnU (zEG (k:=0) D21.F T);have U_one_behind_the_other:FnU l.prog w K mg base 1 "one_behind_the_other" ["first","second"] (spBehindO):=D22.fnU (zB3 (k:=0) D22.F T);have U_likeliest_spans:FnU l.prog w K mg base 3 "likeliest_spans" ["places"] (spSpansL):=D23.fnU (zCs (k:=2) D23.F T (U_round_about.mono (by decide)) (U_likeliest_pair.mono (by decide)) (U_one_behind_the_other.mono (by decide)) (U_likelier.mono (by decide)));have U_first_likeliest:FnU l.prog w K mg base 4 "first_likeliest" ["places"] (spFirstL):=D24.fnU (zCt (k:=3) D24.F T (U_likeliest_spans.mono (by decide)));have U_likeliest:FnUE l.prog w K mg base 6 "likeliest" ["k","row","weights"] (spLik25):=D25.fnUE (zFW (k:=5) D25.F T (U_first_likeliest.mono (by decide)) (U_checked_places.mono (by decide)));have U_check_bracket:FnUE l.prog w K mg base 1 "check_bracket" ["k","thing"] (spCheckB K (⟨0,x_NoKinds,x_NoLine,0,0,x_NoNumber,x_NoWeights,x_NoPlace,x_NoFilling,0,0,0⟩:Cs)):=D26.fnUE (zDd (k:=0) D26.F T);have U_reduced:FnU l.prog w K mg base 1 "reduced" ["top","bottom"] (spReduced33):=D27.fnU (zHa (k:=0) D27.F T);have U_chance:FnUE l.prog w K mg base 6 "chance" ["k","row","weights","i","bracket"] (spChance33 (⟨0,x_NoKinds,x_NoLine,0,0,x_NoNumber,x_NoWeights,x_NoPlace,x_NoFilling,0,0,0⟩:Cs)):=D28.fnUE (zIb (k:=5) D28.F T (U_checked_places.mono (by decide)) (U_check_place.mono (by decide)) (U_check_bracket.mono (by decide)) (U_span_sums.mono (by decide)) (U_check_filling.mono (by decide)) (U_reduced.mono (by decide)) (U_whole_sum.mono (by decide)) (U_bracket_sums.mono (by decide)));have U_how_many:FnUE l.prog w K mg base 5 "how_many" ["k","row"] (spGateE K (⟨0,x_NoKinds,x_NoLine,0,0,x_NoNumber,x_NoWeights,x_NoPlace,x_NoFilling,0,0,0⟩:Cs) spMany):=D29.fnUE (zGI (k:=4) D29.F T (U_check_line.mono (by decide)) (U_whole_sum.mono (by decide)) (U_span_sums.mono (by decide)) (U_counted_places.mono (by decide)));have U_how_many_right:FnUE l.prog w K mg base 6 "how_many_right" ["k","n"] (spManyRightE K (⟨0,x_NoKinds,x_NoLine,0,0,x_NoNumber,x_NoWeights,x_NoPlace,x_NoFilling,0,0,0⟩:Cs)):=D30.fnUE (zDC (k:=5) D30.F T (U_check_kinds.mono (by decide)) (U_how_many.mono (by decide)) (U_is_whole.mono (by decide)));have U_law_pool:FnU l.prog w K mg base 1 "_law_pool" ["script","k"] (spPoolD K):=D31.fnU (zGD (k:=0) D31.F T);have U_law_draw:FnU l.prog w K mg base 1 "_law_draw" ["pool","many"] (spDraw):=D32.fnU (zGE (k:=0) D32.F T);have U_law_right:FnU l.prog w K mg base 2 "_law_right" ["pool","kinds","many"] (spRightD):=D33.fnU (zFX (k:=1) D33.F T (U_law_draw.mono (by decide)));have U_law_row:FnU l.prog w K mg base 3 "_law_row" ["pool","kinds","many"] (spRowD):=D34.fnU (zHe (k:=2) D34.F T (U_law_right.mono (by decide)) (U_law_draw.mono (by decide)));have U_law_weights:FnU l.prog w K mg base 2 "_law_weights" ["pool","kinds"] (spWts):=D35.fnU (zEH (k:=1) D35.F T (U_law_draw.mono (by decide)));have U_law_places:FnU l.prog w K mg base 1 "_law_places" ["row"] (spPlaces33):=D36.fnU (zEu (k:=0) D36.F T);have U_law_best:FnUE l.prog w K mg base 7 "_law_best" ["kinds","row","weights","i"] (spBest33):=D37.fnUE (zGF (k:=6) D37.F T (U_likeliest.mono (by decide)) (U_law_places.mono (by decide)));have U_law_lowest:FnU l.prog w K mg base 1 "_law_lowest" ["top","bottom"] (spReduced33):=D38.fnU (zEv (k:=0) D38.F T);have U_law_chances_right:FnUE l.prog w K mg base 7 "_law_chances_right" ["kinds","row","weights","i","total"] (spChances33):=D39.fnUE (zCZ (k:=6) D39.F T (U_chance.mono (by decide)) (U_weight_sum.mono (by decide)) (U_law_lowest.mono (by decide)));have U_law_sum:FnU l.prog w K mg base 1 "_law_sum" ["kinds","row","weights"] (spSum33):=D40.fnU (zHd (k:=0) D40.F T);have U_law_first:FnU l.prog w K mg base 1 "_law_first" ["kinds","row","weights"] (spFirst33):=D41.fnU (zFY (k:=0) D41.F T);have U_law_fills:FnU l.prog w K mg base 1 "_law_fills" ["row","told","weights"] (spFills33):=D42.fnU (zFZ (k:=0) D42.F T);exact zM8 (k:=7) D43.F T (U_law_pool.mono (by decide)) (U_law_weights.mono (by decide)) (U_weight_sum.mono (by decide)) (U_likeliest.mono (by decide)) (U_how_many_right.mono (by decide)) (U_law_draw.mono (by decide)) (U_law_row.mono (by decide)) (U_law_sum.mono (by decide)) (U_law_first.mono (by decide)) (U_law_fills.mono (by decide)) (U_law_chances_right.mono (by decide)) (U_how_many.mono (by decide)) (U_law_best.mono (by decide)) (U_is_right.mono (by decide))
theorem walk{l:PySem.W.OpenLaw}{q:Program}{loose:List Str}{XP:(Str->Option Value)->Heap->Prop}{YP:World->Heap->Prop}{d:DefRec}{K:Params->PySem.W.Frag}(hn:l.most=some 63)(hdf:d.params.defaults=[])
 (hY:∀ (w:World) (h:Heap),YP w h->(K w.params).In h)
 (F:∀ (w:World) (mg:Str->Option Value) (fa:Addr) (h:Heap),(K w.params).In h->h.Ns mainGlobals mg->mg d.name=some (.ref fa)->
   ∃fd:FuncData,(∀ (s:Shared) (u:Value),BindsTo s fd ⟨[u],[]⟩ [("script",u)])/\∀base:Heap,(K w.params).In base->base.Ns mainGlobals mg->FnOk l.prog w (K w.params) mg base CX0 8 fa fd ["script"] (spLaw (K w.params))):
 PySem.W.WalkO q loose XP YP l.row.toRowW d [] (λf vs=>PySem.call f vs):=
 L2.walk_of (n:=63) (k:=8) (x:="script") (CX:=λ_=>CX0) (sp:=λw=>spLaw (K w.params)) hn (by decide) hdf ⟨rfl,by decide,by decide,rfl⟩ hY F (λ_ _ a ns hl _ hS=>⟨a,ns,rfl,hS,hl,λ_=>rfl⟩) λ_ _ _ _ _ z=>z
end Bk
namespace PySem.W.Fast
theorem tw10041983342407104107:True:=⟨⟩
theorem tw10196313365518146518:True:=⟨⟩
theorem tw1020313480908436336:True:=⟨⟩
theorem tw10356883166068661344:True:=⟨⟩
theorem tw10442503315542070196:True:=⟨⟩
theorem tw10461665507607052680:True:=⟨⟩
theorem tw10549115138518583749:True:=⟨⟩
theorem tw10612921467961060051:True:=⟨⟩
theorem tw10662566578932013693:True:=⟨⟩
theorem tw10983693786635302251:True:=⟨⟩
theorem tw11211931227801169234:True:=⟨⟩
theorem tw11219713426861541870:True:=⟨⟩
theorem tw11270133443973869750:True:=⟨⟩
theorem tw11273742329648345058:True:=⟨⟩
theorem tw11279101658140689720:True:=⟨⟩
theorem tw11288061079864185006:True:=⟨⟩
theorem tw11485196769940769959:True:=⟨⟩
theorem tw11589029597103199413:True:=⟨⟩
theorem tw11630516297839276414:True:=⟨⟩
theorem tw11953470140076734679:True:=⟨⟩
theorem tw11954228119247212657:True:=⟨⟩
theorem tw12004550635774036072:True:=⟨⟩
theorem tw12131772736498757085:True:=⟨⟩
theorem tw12146065025983120897:True:=⟨⟩
theorem tw12152455443426307754:True:=⟨⟩
theorem tw12740802863834153967:True:=⟨⟩
theorem tw1281976704500085059:True:=⟨⟩
theorem tw12970309559569262341:True:=⟨⟩
theorem tw130566969009922684:True:=⟨⟩
theorem tw13192691920869976298:True:=⟨⟩
theorem tw13268313644802234036:True:=⟨⟩
theorem tw13269853357737681074:True:=⟨⟩
theorem tw13487015018108022648:True:=⟨⟩
theorem tw13765541781283245180:True:=⟨⟩
theorem tw13788437223029931355:True:=⟨⟩
theorem tw14021254834806036040:True:=⟨⟩
theorem tw14139017752250722437:True:=⟨⟩
theorem tw14269329363607690078:True:=⟨⟩
theorem tw14276172048318421901:True:=⟨⟩
theorem tw14358382129688512581:True:=⟨⟩
theorem tw14415703526440633166:True:=⟨⟩
theorem tw14415967567888920690:True:=⟨⟩
theorem tw14695106648491409758:True:=⟨⟩
theorem tw14897763858904285090:True:=⟨⟩
theorem tw14929325725909133981:True:=⟨⟩
theorem tw14930797196153417433:True:=⟨⟩
theorem tw15144915247603804549:True:=⟨⟩
theorem tw15196684746504077283:True:=⟨⟩
theorem tw15217329613123992927:True:=⟨⟩
theorem tw15283051646525028249:True:=⟨⟩
theorem tw15412902144676158472:True:=⟨⟩
theorem tw15664311854582925190:True:=⟨⟩
theorem tw15864627277083636227:True:=⟨⟩
theorem tw15936940962862893714:True:=⟨⟩
theorem tw15991983326417869973:True:=⟨⟩
theorem tw16004288403604380012:True:=⟨⟩
theorem tw16211237975331828317:True:=⟨⟩
theorem tw16273551878836856636:True:=⟨⟩
theorem tw16376082409406095824:True:=⟨⟩
theorem tw16529849214262854772:True:=⟨⟩
theorem tw16665712246388117354:True:=⟨⟩
theorem tw16724697503927414773:True:=⟨⟩
theorem tw16824211093255120445:True:=⟨⟩
theorem tw1752496796567554717:True:=⟨⟩
theorem tw17590685196018897140:True:=⟨⟩
theorem tw17683610735906545444:True:=⟨⟩
theorem tw17706684933707671382:True:=⟨⟩
theorem tw17736074017937132080:True:=⟨⟩
theorem tw17752920463477978132:True:=⟨⟩
theorem tw17906889843930582892:True:=⟨⟩
theorem tw17947619911192422356:True:=⟨⟩
theorem tw17949656900806412556:True:=⟨⟩
theorem tw17975318829412190795:True:=⟨⟩
theorem tw18111683673121414850:True:=⟨⟩
theorem tw18264505824849788493:True:=⟨⟩
theorem tw18286667268480652424:True:=⟨⟩
theorem tw18333137153080396324:True:=⟨⟩
theorem tw1834867832689277483:True:=⟨⟩
theorem tw18361699732175915774:True:=⟨⟩
theorem tw1896902110754666488:True:=⟨⟩
theorem tw2222848392484111047:True:=⟨⟩
theorem tw2327876091193082908:True:=⟨⟩
theorem tw2705954075407902443:True:=⟨⟩
theorem tw2786601273387824619:True:=⟨⟩
theorem tw2953692179318402945:True:=⟨⟩
theorem tw2957501639540421064:True:=⟨⟩
theorem tw2974082555893498239:True:=⟨⟩
theorem tw3100031372751227960:True:=⟨⟩
theorem tw3111121310341495976:True:=⟨⟩
theorem tw3265052323265778123:True:=⟨⟩
theorem tw3310948645770460354:True:=⟨⟩
theorem tw3707273703303240090:True:=⟨⟩
theorem tw3854575415444405617:True:=⟨⟩
theorem tw3988861431340881649:True:=⟨⟩
theorem tw4111730466742038719:True:=⟨⟩
theorem tw4214942706752927371:True:=⟨⟩
theorem tw450321668892248557:True:=⟨⟩
theorem tw4749390474809851213:True:=⟨⟩
theorem tw5092178500350241917:True:=⟨⟩
theorem tw5128742670031344427:True:=⟨⟩
theorem tw5337059088212914781:True:=⟨⟩
theorem tw5464958489236951252:True:=⟨⟩
theorem tw5793763824794218459:True:=⟨⟩
theorem tw5805672914880898298:True:=⟨⟩
theorem tw5915028658359429086:True:=⟨⟩
theorem tw5945749367121364050:True:=⟨⟩
theorem tw5981918380328193139:True:=⟨⟩
theorem tw6161876960145127814:True:=⟨⟩
theorem tw6251023564746589996:True:=⟨⟩
theorem tw6280493630432967893:True:=⟨⟩
theorem tw6393319988614367659:True:=⟨⟩
theorem tw6515630221014820331:True:=⟨⟩
theorem tw6611213203438933324:True:=⟨⟩
theorem tw6701717777643581519:True:=⟨⟩
theorem tw6814340514300932683:True:=⟨⟩
theorem tw692859137860060680:True:=⟨⟩
theorem tw7005737163958755762:True:=⟨⟩
theorem tw7030659788702105245:True:=⟨⟩
theorem tw7188949907317230907:True:=⟨⟩
theorem tw7201413569639406521:True:=⟨⟩
theorem tw7229534624625311458:True:=⟨⟩
theorem tw7236459888748328170:True:=⟨⟩
theorem tw753378078479757286:True:=⟨⟩
theorem tw7852072235279864308:True:=⟨⟩
theorem tw7939759459511068230:True:=⟨⟩
theorem tw8034138014880736570:True:=⟨⟩
theorem tw8085734216815305841:True:=⟨⟩
theorem tw8356267565781537641:True:=⟨⟩
theorem tw8359383702301703473:True:=⟨⟩
theorem tw849004968774377704:True:=⟨⟩
theorem tw8530807015366664405:True:=⟨⟩
theorem tw8567995320649892396:True:=⟨⟩
theorem tw8666790655064866084:True:=⟨⟩
theorem tw875095600588498585:True:=⟨⟩
theorem tw885187626970948536:True:=⟨⟩
theorem tw8873368238715515045:True:=⟨⟩
theorem tw8914983755042283997:True:=⟨⟩
theorem tw8982634432225226079:True:=⟨⟩
theorem tw9247372520844803801:True:=⟨⟩
theorem tw9285718065367954873:True:=⟨⟩
theorem tw9289004497113248133:True:=⟨⟩
theorem tw9310127528320178363:True:=⟨⟩
theorem tw9397055224400303279:True:=⟨⟩
theorem tw9409085002741379758:True:=⟨⟩
theorem tw942501603638957039:True:=⟨⟩
theorem tw9610642664803902770:True:=⟨⟩
theorem tw9888915568569483075:True:=⟨⟩
theorem tw9938673745292032141:True:=⟨⟩
end PySem.W.Fast
end
open PySem PySem.W PyProof.Rows
set_option maxRecDepth 100000 in
set_option maxHeartbeats 0 in
theorem PySem.Challenge.cw_bracketrows_k33_whole_weights_in_long_ro_holds : PySem.Challenge.rw_bracketrows_k33_whole_weights_in_long_ro.Holds := by
  w_on; o_law; k_head; (case hw => w_witness2)
  k_fill
  refine Bk.walk (l := PySem.Challenge.rw_bracketrows_k33_whole_weights_in_long_ro) rfl rfl (fun w h Y => PySem.W.kIn_of Y) ?F
  case F =>
    intro w mg fa h KX G hmg
    refine' Bk.all_mk KX G hmg ?p0 ?p1 ?p2 ?p3 ?p4 ?p5 ?p6 ?p7 ?p8 ?p9 ?p10 ?p11 ?p12 ?p13 ?p14 ?p15 ?p16 ?p17 ?p18 ?p19 ?p20 ?p21 ?p22 ?p23 ?p24 ?p25 ?p26 ?p27 ?p28 ?p29 ?p30 ?p31 ?p32 ?p33 ?p34 ?p35 ?p36 ?p37 ?p38 ?p39 ?p40 ?p41 ?p42 ?p43 ?y_NoKinds ?w_NoKinds ?y_NoLine ?w_NoLine ?y_NoNumber ?w_NoNumber ?y_NoWeights ?w_NoWeights ?y_NoPlace ?w_NoPlace ?y_NoFilling ?w_NoFilling ?mm_NoFilling ?z_all ?z_bool ?z_enumerate ?z_int ?z_isinstance ?z_len ?z_list ?z_range ?z_repr ?z_str ?z_sum ?z_zip ?dg1 ?dg2 ?g_OPENING ?h_OPENING ?g_CLOSING ?h_CLOSING ?g_K ?l_K ?c_K ?s_K ?r_K ?g_BRACKETS ?h_BRACKETS ?g_UNKNOWN ?h_UNKNOWN ?g_MOST_SIGNS ?h_MOST_SIGNS
    (case p0 | p1 | p2 | p3 | p4 | p5 | p6 | p7 | p8 | p9 | p10 | p11 | p12 | p13 | p14 | p15 | p16 | p17 | p18 | p19 | p20 | p21 | p22 | p23 | p24 | p25 | p26 | p27 | p28 | p29 | p30 | p31 | p32 | p33 | p34 | p35 | p36 | p37 | p38 | p39 | p40 | p41 | p42 | p43 => (apply Bk.FnAt.mk; k_is; k_is; k_is; k_is))
    (case y_NoKinds => k_is)
    (case w_NoKinds => kernel_rfl)
    (case y_NoLine => k_is)
    (case w_NoLine => kernel_rfl)
    (case y_NoNumber => k_is)
    (case w_NoNumber => kernel_rfl)
    (case y_NoWeights => k_is)
    (case w_NoWeights => kernel_rfl)
    (case y_NoPlace => k_is)
    (case w_NoPlace => kernel_rfl)
    (case y_NoFilling => k_is)
    (case w_NoFilling => kernel_rfl)
    (case mm_NoFilling => kernel_rfl)
    (case z_all | z_bool | z_enumerate | z_int | z_isinstance | z_len | z_list | z_range | z_repr | z_str | z_sum | z_zip => k_is)
    (case dg1 => first | kernel_rfl | rfl | decide +kernel)
    (case dg2 | g_OPENING => k_is)
    (case h_OPENING => first | rfl | decide +kernel)
    (case g_CLOSING => k_is)
    (case h_CLOSING => first | rfl | decide +kernel)
    (case g_K | l_K => k_is)
    (case c_K => rfl)
    (case s_K => rfl)
    (case r_K => decide +kernel)
    (case g_BRACKETS => k_is)
    (case h_BRACKETS => first | rfl | decide +kernel)
    (case g_UNKNOWN => k_is)
    (case h_UNKNOWN => first | rfl | decide +kernel)
    (case g_MOST_SIGNS => k_is)
    (case h_MOST_SIGNS => rfl)
