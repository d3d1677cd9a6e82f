import PyProof.Rows.All
import Wide.All
import OpenK.AllK
import Wide.FinOn
import PyProof.EqAt
import PyProof.EqKinds
import PyProof.TupleCall
import Lean
import PyProof.SetNew
import PyProof.SetRoads
import PySem.Challenge.RW_pactway_k28_text_ends
set_option Elab.async false
set_option linter.all false
set_option maxRecDepth 100000
namespace L2
open PySem PySem.Spec PyProof.Rows
noncomputable abbrev Key:=Sum Int Str
noncomputable def rf:Key→Value→Bool
 | .inl k,v=>Value.isInt k v
 | .inr x,v=>Value.isStrOf x v
noncomputable def Yp (w:World):Key→Int
 | .inl k=>hashInt k
 | .inr x=>hashStr w x
theorem xk:∀{k:Key} {v:Value},rf k v=true→(∃i t,k=Sum.inl i∧v=Value.int i t)∨(∃x t,k=Sum.inr x∧v=Value.str x t)
 | .inl i,v,h=>by
  obtain⟨t,e⟩:=Value.isInt_shape (k:=i) (v:=v) h
  exact .inl ⟨i,t,rfl,e⟩
 | .inr x,v,h=>by
  obtain⟨t,e⟩:=Value.isStrOf_shape (x:=x) (v:=v) h
  exact .inr ⟨x,t,rfl,e⟩
theorem af (i:Int) (t:Tok):rf (.inl i) (.int i t)=true:=by simp [rf,Value.isInt]
theorem eL (x:Str) (t:Tok):rf (.inr x) (.str x t)=true:=by simp [rf,Value.isStrOf]
theorem Vq (a b:Int):decide ((Sum.inl a:Key)=Sum.inl b)=(a == b):=by
 by_cases e:a=b
 ·subst e;simp
 ·have h:¬(Sum.inl a:Key)=Sum.inl b:=fun q=>e (Sum.inl.inj q)
  rw[decide_eq_false h]
  exact(beq_eq_false_iff_ne.mpr e).symm
theorem K8 (a b:Str):decide ((Sum.inr a:Key)=Sum.inr b)=decide (a=b):=by
 by_cases e:a=b
 ·subst e;simp
 ·have h:¬(Sum.inr a:Key)=Sum.inr b:=fun q=>e (Sum.inr.inj q)
  rw[decide_eq_false h,decide_eq_false e]
theorem Vg (a:Int) (b:Str):decide ((Sum.inl a:Key)=Sum.inr b)=false:=decide_eq_false (fun q=>nomatch q)
theorem K6 (a:Str) (b:Int):decide ((Sum.inr a:Key)=Sum.inl b)=false:=decide_eq_false (fun q=>nomatch q)
noncomputable def km (prog:Program) (w:World):PySem.KeyKind prog w Key where
 is:=rf
 hash:=Yp w
 inj:=fun v a b ha hb=>by
  rcases xk ha with ⟨i,t,rfl,rfl⟩ | ⟨x,t,rfl,rfl⟩
  ·rcases xk hb with ⟨j,u,rfl,e⟩ | ⟨y,u,rfl,e⟩
   ·injection e with e1 _;rw[e1]
   ·exact nomatch e
  ·rcases xk hb with ⟨j,u,rfl,e⟩ | ⟨y,u,rfl,e⟩
   ·exact nomatch e
   ·injection e with e1 _;rw[e1]
 byValue:=fun k v h=>by
  rcases xk h with ⟨i,t,rfl,rfl⟩ | ⟨x,t,rfl,rfl⟩<;>rfl
 pyHash:=fun hv h=>by
  rcases xk hv with ⟨i,t,rfl,rfl⟩ | ⟨x,t,rfl,rfl⟩
  ·exact wpAny_pyHash_int h
  ·exact wpAny_pyHash_str h
 eqBool:=fun hu hv h=>by
  rcases xk hu with ⟨i,t,rfl,rfl⟩ | ⟨x,t,rfl,rfl⟩
  ·rcases xk hv with ⟨j,u,rfl,rfl⟩ | ⟨y,u,rfl,rfl⟩
   ·rw[Vq] at h;exact wpAny_eqBool_int h
   ·rw[Vg] at h;exact SeqAt.EqAt.int_str i t y u _ _ _ _ h
  ·rcases xk hv with ⟨j,u,rfl,rfl⟩ | ⟨y,u,rfl,rfl⟩
   ·rw[K6] at h;exact SeqAt.EqAt.str_int x t j u _ _ _ _ h
   ·rw[K8] at h;exact wpAny_eqBool_str h
 «strs»:=fun k x t v h=>by
  rcases xk h with ⟨i,u,rfl,e⟩ | ⟨y,u,rfl,e⟩
  ·exact nomatch e
  ·injection e with e1 _
   subst e1
   cases v<;>rfl
theorem sI (prog:Program) (w:World) (i:Int) (t:Tok):(km prog w).is (.inl i) (.int i t)=true:=af i t
theorem tX (prog:Program) (w:World) (x:Str) (t:Tok):(km prog w).is (.inr x) (.str x t)=true:=eL x t
end L2
namespace L2
open PySem PySem.Spec PyProof.Rows
inductive V where
 | non | bl (b:Bool) | int (i:Int) | str (x:Str) | byt (b:Array UInt8) | flt (b:UInt64) | ref (a:Addr) | ty (n:String)
 deriving DecidableEq
noncomputable def RelV:V→Value→Prop
 | .non,u=>u=Value.none
 | .bl b,u=>u=Value.bool b
 | .int i,u=>∃t,u=Value.int i t
 | .str x,u=>∃t,u=Value.str x t
 | .byt b,u=>∃t,u=Value.bytes b t
 | .flt b,u=>∃t,u=Value.float b t
 | .ref a,u=>u=Value.ref a
 | .ty n,u=>u=Value.type n
noncomputable abbrev Vals:List V→List Value→Prop:=Paired RelV
theorem Vals.length {xs:List V} {us:List Value} (r:Vals xs us):xs.length=us.length:=Paired.length r
theorem Vals.get:∀{xs:List V} {us:List Value} {i:Nat} {x:V},Vals xs us→xs[i]?=some x→∃u,us[i]?=some u∧RelV x u
 | _,_,_,_,.nil,e=>by simp at e
 | _,_,0,_,.cons r _,e=>by simp at e;subst e;exact⟨_,rfl,r⟩
 | _,_,i + 1,x,.cons _ t,e=>by
  obtain⟨u,h1,h2⟩:=Vals.get (i:=i) (x:=x) t (by simpa using e)
  exact⟨u,by simpa using h1,h2⟩
theorem Vals.append:∀{xs ys:List V} {us ws:List Value},Vals xs us→Vals ys ws→Vals (xs ++ ys) (us ++ ws)
 | _,_,_,_,.nil,s=>s
 | _,_,_,_,.cons r t,s=>.cons r (Vals.append t s)
theorem Vals.take:∀{xs:List V} {us:List Value} (n:Nat),Vals xs us→Vals (xs.take n) (us.take n)
 | _,_,0,_=>.nil
 | _,_,_ + 1,.nil=>.nil
 | _,_,n + 1,.cons r t=>.cons r (Vals.take n t)
theorem Vals.drop:∀{xs:List V} {us:List Value} (n:Nat),Vals xs us→Vals (xs.drop n) (us.drop n)
 | _,_,0,r=>r
 | _,_,_ + 1,.nil=>.nil
 | _,_,n + 1,.cons _ t=>Vals.drop n t
noncomputable def yT:Option V→Option Value→Prop
 | some v,some u=>RelV v u
 | none,none=>True
 | _,_=>False
noncomputable def KV {κ:Type}:List (κ × V)→List (κ × Value)→Prop:=Paired fun (p:κ × V) (q:κ × Value)=>p.1=q.1∧RelV p.2 q.2
noncomputable def kV:Key→V
 | .inl i=>.int i
 | .inr x=>.str x
inductive HO where
 | lst (xs:List V)
 | tup (xs:List V)
 | dK (kvs:List (Key × V)) | dT (kvs:List (List Key × V))
 | set (S:Int→Bool) (n:Nat)
 | ins (C dx:Addr) (fs:List (Str × V))
 | own (x:Addr)
 | xd (fs:List (Str × V))
 | met (f x:Addr)
 | rng (lo hi:Int)
 | frz (o:Obj) (u:HO)
 | tbl (ps:Array Value)
 | ext (φ:Heap→Prop)
noncomputable abbrev Hp:=Addr→Option HO
noncomputable def upd (H:Hp) (a:Addr) (o:HO):Hp:=fun b=>if b=a then some o else H b
theorem qw {H:Hp} {a:Addr} {o:HO}:upd H a o a=some o:=by unfold upd;rw[if_pos rfl]
theorem qW {H:Hp} {a b:Addr} {o:HO} (h:b≠a):upd H a o b=H b:=by unfold upd;rw[if_neg h]
theorem yQ {H:Hp} {a:Addr} {o u:HO}:upd (upd H a o) a u=upd H a u:=by
 funext b;unfold upd;split<;>rfl
theorem df {H:Hp} {a b:Addr} {o u:HO} (h:H a=some o) (h':H b=some u) (d:o≠u):a≠b:=by
 intro e;subst e;rw[h] at h';exact d (Option.some.inj h')
theorem qv {H:Hp} {a b:Addr} {o:HO} (h:H a=some o) (h':H b=none):a≠b:=by
 intro e;subst e;rw[h] at h';cases h'
section
variable (P:Program) (w:World)
noncomputable def jL (H:Hp) (h:Heap) (a:Addr):HO→Prop
 | .lst xs=>xs.length≤sizeLine∧∃(its:List Value) (n:Nat),Vals xs its∧h.get? a=some { cls:=.type "list",data:=.seq its.toArray n }
 | .tup xs=>xs.length≤sizeLine∧∃its:List Value,Vals xs its∧IsTup h a its.toArray
 | .dK kvs=>kvs.length≤sizeLine∧(a == sysModules)=false∧∃vs,KV kvs vs∧h.DictOf (km P w) a vs
 | .dT kvs=>kvs.length≤sizeLine∧(a == sysModules)=false∧∃xs:List (List Key × Addr × Value),
   Paired (fun (p:List Key × V) (q:List Key × Addr × Value)=>p.1=q.1∧H q.2.1=some (.tup (p.1.map kV))∧RelV p.2 q.2.2) kvs xs∧
   ∃o es ep,h.get? a=some o∧o.ExactDict∧o.data=.dict es ep∧es.toList=xs.map (entryOfKey (tupleKind (km P w)))∧(xs.map (·.1)).Nodup
 | .set S n=>h.SetOf (intKind P w) a S n
 | .ins C dx fs=>H dx=some (.own a)∧fs.length≤1000∧dx≠a∧h.get? a=some (PySem.W.instObj C dx)∧
   ∃mA,h.Ns1 dx mA∧(∀f,yT (fs.lookup f) (mA f))∧PySem.Within mA (fs.map (·.1))
 | .own _=>∃o,h.get? a=some o
 | .xd fs=>∃mA,h.Ns1 a mA∧∀f,yT (fs.lookup f) (mA f)
 | .rng lo hi=>∃t u v,h.get? a=some { cls:=.type "range",data:=.fields #[.int lo t,.int hi u,.int 1 v] }
 | .frz o u=>h.get? a=some o∧jL H h a u
 | .tbl ps=>h.get? a=some { cls:=.none,data:=.fields ps }
 | .met f x=>h.get? a=some (PySem.W.methodObj (.ref f) (.ref x))
 | .ext φ=>φ h∧(∃o,h.get? a=some o)∧∀h1 h2:Heap,φ h1→(∀o,h1.get? a=some o→h2.get? a=some o)→φ h2
noncomputable def gF (H:Hp) (h:Heap):Prop:=∀a o,H a=some o→jL P w H h a o
end
section
variable {P:Program} {w:World} {H H':Hp} {h h':Heap} {a:Addr} {o:HO}
theorem jL.lt (x:jL P w H h a o):a < h.objs.size:=by
 cases o with
 | lst xs=>obtain⟨_,_,_,_,e⟩:=x;exact Heap.lt_size e
 | tup xs=>obtain⟨_,_,_,p⟩:=x;exact p.lt
 | dK kvs=>obtain⟨_,_,_,_,o,_,_,e,_⟩:=x;exact Heap.lt_size e
 | dT kvs=>obtain⟨_,_,_,_,o,_,_,e,_⟩:=x;exact Heap.lt_size e
 | set S n=>obtain⟨o,_,_,_,e,_⟩:=x;exact Heap.lt_size e
 | ins C dx fs=>obtain⟨_,_,_,e,_⟩:=x;exact Heap.lt_size e
 | own y=>obtain⟨_,e⟩:=x;exact Heap.lt_size e
 | xd fs=>obtain⟨_,⟨_,_,_,e,_⟩,_⟩:=x;exact Heap.lt_size e
 | rng lo hi=>obtain⟨_,_,_,e⟩:=x;exact Heap.lt_size e
 | frz ob u=>obtain⟨e,_⟩:=x;exact Heap.lt_size e
 | tbl ps=>exact Heap.lt_size (show h.get? a=some _ from x)
 | met f y=>exact Heap.lt_size (show h.get? a=some _ from x)
 | ext φ=>obtain⟨_,⟨_,e⟩,_⟩:=x;exact Heap.lt_size e
theorem Paired.ZA {α β:Type} {F G:α→β→Prop}:∀{l₁:List α} {l₂:List β},Paired F l₁ l₂→(∀a b,F a b→G a b)→Paired G l₁ l₂
 | _,_,.nil,_=>.nil
 | _,_,.cons r t,f=>.cons (f _ _ r) (Paired.ZA t f)
theorem Paired.imp' {α β:Type} {F G:α→β→Prop} (f:∀a b,F a b→G a b) {l₁:List α} {l₂:List β} (r:Paired F l₁ l₂):Paired G l₁ l₂:=Paired.ZA r f
theorem jL.lR (x:jL P w H h a o) (k:∀b u,(b=a∨H b=some (.own a))→h.get? b=some u→h'.get? b=some u)
  (ho:∀b,H b=some (.own a)→H' b=some (.own a)) (ht:∀b xs,H b=some (.tup xs)→H' b=some (.tup xs)):jL P w H' h' a o:=by
 induction o with
 | lst xs=>obtain⟨z,its,n,r,e⟩:=x;exact⟨z,its,n,r,k _ _ (.inl rfl) e⟩
 | tup xs=>obtain⟨z,its,r,ob,e,c⟩:=x;exact⟨z,its,r,ob,k _ _ (.inl rfl) e,c⟩
 | dK kvs=>obtain⟨z,y,vs,r,ob,es,ep,e,c⟩:=x;exact⟨z,y,vs,r,ob,es,ep,k _ _ (.inl rfl) e,c⟩
 | dT kvs=>
  obtain⟨z,y,xs,r,ob,es,ep,e,c⟩:=x
  exact⟨z,y,xs,Paired.ZA r fun p q z=>⟨z.1,ht _ _ z.2.1,z.2.2⟩,ob,es,ep,k _ _ (.inl rfl) e,c⟩
 | set S n=>obtain⟨ob,es,ep,t,e,c⟩:=x;exact⟨ob,es,ep,t,k _ _ (.inl rfl) e,c⟩
 | ins C dx fs=>
  obtain⟨d,z,ne,e,mA,⟨od,es,ep,e2,c⟩,r⟩:=x
  exact⟨ho _ d,z,ne,k _ _ (.inl rfl) e,mA,⟨od,es,ep,k _ _ (.inr d) e2,c⟩,r⟩
 | own y=>obtain⟨ob,e⟩:=x;exact⟨ob,k _ _ (.inl rfl) e⟩
 | xd fs=>obtain⟨mA,⟨od,es,ep,e,c⟩,r⟩:=x;exact⟨mA,⟨od,es,ep,k _ _ (.inl rfl) e,c⟩,r⟩
 | rng lo hi=>obtain⟨t,u,v,e⟩:=x;exact⟨t,u,v,k _ _ (.inl rfl) e⟩
 | frz ob u ih=>obtain⟨e,q⟩:=x;exact⟨k _ _ (.inl rfl) e,ih q⟩
 | tbl ps=>
  have e:h.get? a=some { cls:=.none,data:=.fields ps }:=x
  show h'.get? a=some { cls:=.none,data:=.fields ps }
  exact k a _ (.inl rfl) e
 | met f y=>
  have e:h.get? a=some (PySem.W.methodObj (.ref f) (.ref y)):=x
  show h'.get? a=some (PySem.W.methodObj (.ref f) (.ref y))
  exact k a _ (.inl rfl) e
 | ext φ=>obtain⟨p,⟨o,e⟩,st⟩:=x;exact⟨st _ _ p fun o q=>k _ _ (.inl rfl) q,⟨o,k _ _ (.inl rfl) e⟩,st⟩
theorem gF.lt (x:gF P w H h) (e:H a=some o):a < h.objs.size:=(x a o e).lt
theorem gF.fresh (x:gF P w H h) (e:h.objs.size≤a):H a=none:=by
 cases q:H a with
 | none=>rfl
 | some u=>exact absurd (Nat.lt_of_lt_of_le (x.lt q) e) (Nat.lt_irrefl _)
theorem gF.kept (x:gF P w H h) (k:∀b u,h.get? b=some u→h'.get? b=some u):gF P w H h':=fun a o e=>
 (x a o e).lR (fun b u _ q=>k b u q) (fun _ q=>q) fun _ _ q=>q
theorem gF.laid (x:gF P w H h) (k:∀b u,h.get? b=some u→h'.get? b=some u) (hp:h.objs.size≤a) (new:jL P w (upd H a o) h' a o):gF P w (upd H a o) h':=fun b u e=>by
 have hn:=x.fresh hp
 by_cases hb:b=a
 ·subst hb;rw[qw] at e;cases e;exact new
 ·rw[qW hb] at e
  exact(x b u e).lR (fun c v _ q=>k c v q) (fun c q=>by rw[qW (qv q hn)];exact q) fun c xs q=>by rw[qW (qv q hn)];exact q
end
noncomputable def Rd (H:Hp) (a:Addr) (u:HO):Prop:=H a=some u∨∃o,H a=some (.frz o u)
theorem Rd.ok {P:Program} {w:World} {H:Hp} {h:Heap} {a:Addr} {u:HO} (r:Rd H a u) (x:gF P w H h):jL P w H h a u:=by
 rcases r with r | ⟨o,r⟩
 ·exact x a u r
 ·obtain⟨_,q⟩:=x a _ r
  exact q
noncomputable def VQ:Option HO→Prop
 | some (.lst _)=>True
 | some (.dK _)=>True
 | some (.dT _)=>True
 | some (.set _ _)=>True
 | some (.ins _ _ _)=>True
 | some (.ext _)=>True
 | _=>False
section
variable {P:Program} {w:World} {H:Hp} {h h':Heap} {x e:Addr} {o':HO}
theorem gF.write (ok:gF P w H h) (mu:VQ (H x)) (he:e=x∨H e=some (.own x)) (k:∀b u,b≠e→h.get? b=some u→h'.get? b=some u) (heo:∃u,h'.get? e=some u)
  (new:jL P w (upd H x o') h' x o'):gF P w (upd H x o') h':=fun b u q=>by
 have nown:∀c y,H c=some (.own y)→c≠x:=fun c y r z=>by subst z;rw[r] at mu;exact mu
 have ntup:∀c xs,H c=some (.tup xs)→c≠x:=fun c xs r z=>by subst z;rw[r] at mu;exact mu
 by_cases hb:b=x
 ·subst hb;rw[qw] at q;cases q;exact new
 ·rw[qW hb] at q
  by_cases hbe:b=e
  ·have q':H b=some (.own x):=by
    rcases he with z | z
    ·exact absurd (hbe.trans z) hb
    ·rw[hbe];exact z
   rw[q] at q';cases q'
   obtain⟨v,hv⟩:=heo
   exact⟨v,by rw[hbe];exact hv⟩
  ·refine(ok b u q).lR (fun c v hc r=>k c v ?_ r) (fun c r=>by rw[qW (nown c b r)];exact r) fun c xs r=>by rw[qW (ntup c xs r)];exact r
   rcases hc with rfl | hc
   ·exact hbe
   ·rintro rfl
    rcases he with z | z
    ·exact nown c b hc z
    ·rw[hc] at z;cases z;exact hb rfl
end
structure Un (fs ex:List Addr) (H H':Hp) (h h':Heap):Prop where
 keep:∀b o,h.get? b=some o→H b=none→b∉fs→b∉ex→h'.get? b=some o
 slot:∀b o,h.get? b=some o→H b=none→b∈fs→b∉ex→∃sl,h'.get? b=some { o with slots:=sl }
 free:∀b o,h.get? b=some o→H b=none→b∉ex→H' b=none
 there:∀b o,h.get? b=some o→b∉ex→∃o',h'.get? b=some o'
 uG:∀b xs,H b=some (.tup xs)→H' b=some (.tup xs)
 cL:∀b o u,H b=some (.frz o u)→H' b=some (.frz o u)
 uU:∀b ps,H b=some (.tbl ps)→∃more,H' b=some (.tbl (ps ++ more))
section
variable {fs fs' ex ex':List Addr} {H H1 H2:Hp} {h h1 h2 h':Heap} {a x e:Addr} {o:HO}
theorem Un.any (u:Un fs ex H H1 h h1) {b:Addr} {ob:Obj} (q:h.get? b=some ob) (n:H b=none) (hx:b∉ex):∃sl,h1.get? b=some { ob with slots:=sl }:=by
 by_cases hb:b∈fs
 ·exact u.slot b ob q n hb hx
 ·exact⟨ob.slots,u.keep b ob q n hb hx⟩
theorem Un.kept (k:∀b u,h.get? b=some u→h'.get? b=some u):Un fs ex H H h h':=
 ⟨fun b ob q _ _ _=>k b ob q,fun b ob q _ _ _=>⟨ob.slots,k b ob q⟩,fun _ _ _ n _=>n,fun b ob q _=>⟨ob,k b ob q⟩,fun _ _ q=>q,fun _ _ _ q=>q,fun _ ps q=>⟨#[],by rw[q];simp⟩⟩
theorem Un.refl:Un fs ex H H h h:=Un.kept fun _ _ q=>q
theorem Un.laid (k:∀b u,h.get? b=some u→h'.get? b=some u) (hp:h.objs.size≤a) (hn:H a=none):Un fs ex H (upd H a o) h h' where
 keep:=fun b u q _ _ _=>k b u q
 slot:=fun b u q _ _ _=>⟨u.slots,k b u q⟩
 free:=fun b u q n _=>by rw[qW (Nat.ne_of_lt (Nat.lt_of_lt_of_le (Heap.lt_size q) hp))];exact n
 there:=fun b u q _=>⟨u,k b u q⟩
 uG:=fun b xs q=>by rw[qW (qv q hn)];exact q
 cL:=fun b u xs q=>by rw[qW (qv q hn)];exact q
 uU:=fun b ps q=>⟨#[],by rw[qW (qv q hn),q];simp⟩
theorem Un.write (mu:VQ (H x)) (he:e=x∨H e=some (.own x)) (k:∀b u,b≠e→h.get? b=some u→h'.get? b=some u) (heo:∃u,h'.get? e=some u):Un fs ex H (upd H x o) h h':=by
 have hx:∀b,H b=none→b≠x:=fun b n z=>by subst z;rw[n] at mu;exact mu
 have hb:∀b,H b=none→b≠e:=fun b n z=>by
  subst z
  rcases he with r | r
  ·exact hx b n r
  ·rw[n] at r;cases r
 have hm:∀b u,H b=some u→¬VQ (some u)→b≠x:=fun b u q nm z=>by subst z;rw[q] at mu;exact nm mu
 refine⟨fun b u q n _ _=>k b u (hb b n) q,fun b u q n _ _=>⟨u.slots,k b u (hb b n) q⟩,fun b u q n _=>by rw[qW (hx b n)];exact n,fun b u q _=>?_,
  fun b xs q=>by rw[qW (hm b _ q fun z=>z)];exact q,fun b u xs q=>by rw[qW (hm b _ q fun z=>z)];exact q,fun b ps q=>⟨#[],by rw[qW (hm b _ q fun z=>z),q];simp⟩⟩
 by_cases hbe:b=e
 ·subst hbe;exact heo
 ·exact⟨u,k b u hbe q⟩
end
noncomputable def WW (h:Heap) (H:Hp):List Addr:=(List.range h.objs.size).filter fun a=>(H a).isSome
noncomputable def lP (h:Heap) (H:Hp):Heap:=PySem.W.hideAll h (WW h H)
theorem aP (h:Heap) (H:Hp):(lP h H).objs.size=h.objs.size:=PySem.W.hideAll_size _ _
theorem Z4 {h:Heap} {H:Hp} {b:Addr} {o:Obj} (e:h.get? b=some o) (n:H b=none):(lP h H).get? b=some o:=
 PySem.W.hideAll_get _ e fun hm=>by
  have q:(H b).isSome=true:=(List.mem_filter.mp hm).2
  rw[n] at q;simp at q
theorem JU {h:Heap} {H:Hp} {b:Addr} {o:Obj} (e:(lP h H).get? b=some o):h.get? b=some o∧H b=none:=by
 have e':h.get? b=some o:=PySem.W.of_hideAll (WW h H) e
 refine⟨e',?_⟩
 cases q:H b with
 | none=>rfl
 | some x=>
  have hm:b∈WW h H:=List.mem_filter.mpr ⟨List.mem_range.mpr (Heap.lt_size e'),by simp [q]⟩
  have z:(lP h H).get? b=none:=PySem.W.hideAll_none (WW h H) hm
  rw[z] at e;cases e
noncomputable def Je (g h:Heap) (L:Addr):List (Addr × Obj):=(List.range h.objs.size).filterMap fun a=>if a=L∨(g.get? a).isSome=true then none else (h.get? a).map fun o=>(a,o)
noncomputable def rest (g h:Heap) (L d:Addr):List (Addr × Obj):=(Je g h L).filter fun p=>decide (p.1≠d)
end L2
namespace L2
open PySem PySem.Spec PyProof.Rows
structure Mod (K:PySem.W.Frag) (mg:Str→Option Value) (base:Heap):Prop where
 a7:K.In base
 glob:base.Ns mainGlobals mg
 blt:∃mb,base.Ns builtinsNs mb∧∀x:Str,x≠"__name__"→mb x=bootBuiltins x
 nolimit:base.NoLimit
structure Cx where
 prog:Program
 w:World
 K:PySem.W.Frag
 mg:Str→Option Value
 base:Heap
 A:Around
 N:List Str
 s₀:Shared
 H₀:Hp
 env:Env
 outer:List Env
 stack:List Env
 ex:List Addr
 fn:Str→Bool
 calm:Bool
 pn:List (Addr × Obj)
 xe:Value→Shared→Prop
noncomputable def sy (l:List Env):List Addr:=l.filterMap (·.frame)
noncomputable abbrev Cx.fs (X:Cx):List Addr:=sy X.outer
noncomputable def WH (sc:Scope) (x:Str):Prop:=sc.names.lookup x=some .local∨sc.names.lookup x=some .cell∨sc.names.lookup x=some .free
noncomputable def Loc (sc:Scope) (x:Str):Prop:=sc.names.lookup x=some .local∨sc.names.lookup x=some .cell
noncomputable def Look (env:Env) (h:Heap) (m:Str→Option Value) (x:Str) (u:Value):Prop:=
 (env.kindOf x=some .local∧m x=some u)∨((env.kindOf x=some .cell∨env.kindOf x=some .free)∧∃c,env.cells.lookup x=some c∧h.IsCell c (some u))
structure Cx.Ok (X:Cx):Prop where
 mod:Mod X.K X.mg X.base
 kind:X.env.scope.kind=.function
 glob:X.env.globals=mainGlobals
 blt:X.env.builtins=builtinsNs
 above:X.s₀.heap.objs.size≤X.env.locals
 inj:∀x y c,X.env.cells.lookup x=some c→X.env.cells.lookup y=some c→x=y
 has:∀x,(X.env.kindOf x=some .cell∨X.env.kindOf x=some .free)→∃c,X.env.cells.lookup x=some c
 Vs:∀x c,X.fn x=true→X.env.cells.lookup x=some c→X.s₀.heap.objs.size≤c
 hd:X.calm=true→X.A.handled=none
 frames:X.A.frames=some X.stack
 VH:X.stack=X.outer∨(X.stack=X.env :: X.outer∧X.env.frame=some X.env.locals)
 Kc:∀b∈X.ex,b≠X.env.locals∧∀x c,X.env.cells.lookup x=some c→c≠b
 bs:∀b o,X.base.get? b=some o→X.s₀.heap.get? b=some o∧X.H₀ b=none
 eP:X.base.objs.size≤X.s₀.heap.objs.size
 oI:∀b o,X.base.get? b=some o→b∉X.ex
 oQ:∀b∈X.ex,b∉X.fs
 m5:X.s₀.heap.FunFrames X.base X.outer
 XW:∀b∈X.fs,X.H₀ b=none
structure Inv (X:Cx) (pins:List (Addr × Obj)) (σ:List (Option V)) (H:Hp) (s:Shared):Prop where
 ok:X.Ok
 os:s.os=X.s₀.os
 bare:AllBare s.gens
 base:Un X.fs X.ex X.H₀ H X.s₀.heap s.heap
 loc:∃m,s.heap.Ns X.env.locals m∧∀(i:Nat) (x:Str) (v:V),X.N[i]?=some x→σ[i]?=some (some v)→WH X.env.scope x→∃u,RelV v u∧Look X.env s.heap m x u
 cell:∀x c,X.env.cells.lookup x=some c→∃v,s.heap.IsCell c v
 free:H X.env.locals=none
 wR:∀x c,X.env.cells.lookup x=some c→H c=none
 pin:∀p∈X.pn ++ pins,s.heap.get? p.1=some p.2∧H p.1=none∧p.1≠X.env.locals∧p.1∉X.fs∧∀v,p.2.data≠.cell v
 jz:gF X.prog X.w H s.heap
 len:σ.length=X.N.length
section
variable {X:Cx} {pins:List (Addr × Obj)} {σ:List (Option V)} {H H':Hp} {s:Shared} {h':Heap}
theorem Cx.Ok.YD (ok:X.Ok) {b:Addr} {o:Obj} (e:X.base.get? b=some o):b∉X.fs:=fun hb=>by
 have:=(ok.m5.mem hb).1
 rw[e] at this;cases this
theorem Inv.bs (I:Inv X pins σ H s):∀b o,X.base.get? b=some o→s.heap.get? b=some o∧H b=none:=fun b o e=>
 ⟨I.base.keep b o (I.ok.bs b o e).1 (I.ok.bs b o e).2 (I.ok.YD e) (I.ok.oI b o e),I.base.free b o (I.ok.bs b o e).1 (I.ok.bs b o e).2 (I.ok.oI b o e)⟩
theorem Inv.bk (I:Inv X pins σ H s):∀b o,X.base.get? b=some o→s.heap.get? b=some o:=fun b o e=>(I.bs b o e).1
theorem Inv.mod (I:Inv X pins σ H s):Mod X.K X.mg X.base:=I.ok.mod
theorem Inv.y7 (I:Inv X pins σ H s):X.K.In s.heap:=I.ok.mod.a7.keeps I.bk
theorem Inv.fr (I:Inv X pins σ H s):∃m,Fr X.base X.env.locals s.heap m:=
 let ⟨m,hn,_⟩:=I.loc
 ⟨m,hn,I.bk,Nat.le_trans I.ok.eP I.ok.above⟩
theorem Inv.lt (I:Inv X pins σ H s):X.env.locals < s.heap.objs.size:=let ⟨_,hn,_⟩:=I.loc;hn.lt
theorem Inv.sz (I:Inv X pins σ H s):X.s₀.heap.objs.size≤s.heap.objs.size:=Nat.le_trans I.ok.above (Nat.le_of_lt I.lt)
theorem Inv.Ya (I:Inv X pins σ H s) {a:Addr} (h:s.heap.objs.size≤a):a∉X.fs:=fun hb=>by
 obtain⟨_,o,ho,_⟩:=I.ok.m5.mem hb
 exact absurd (Nat.lt_of_lt_of_le (Heap.lt_size ho) (Nat.le_trans I.sz h)) (Nat.lt_irrefl _)
theorem Inv.Xl (I:Inv X pins σ H s):∀x c,X.env.cells.lookup x=some c→c≠X.env.locals:=fun x c e z=>by
 obtain⟨v,o,ho,hd⟩:=I.cell x c e
 obtain⟨m,⟨o',es,ep,ho',hd',_⟩,_⟩:=I.loc
 rw[z,ho'] at ho;cases ho;rw[hd'] at hd;cases hd
theorem Inv.m5 (I:Inv X pins σ H s):s.heap.FunFrames X.base X.outer:=by
 have all:∀(l:List Env),(∀b∈sy l,b∈X.fs)→X.s₀.heap.FunFrames X.base l→s.heap.FunFrames X.base l:=by
  intro l
  induction l with
  | nil=>intro _ _;trivial
  | cons env r ih=>
   intro hs hl
   obtain⟨hk,⟨L,o,hf,hn,ho,hd⟩,hr⟩:=hl
   have hL:L∈X.fs:=hs L (by unfold sy;rw[List.filterMap_cons,hf];exact List.mem_cons_self)
   obtain⟨sl,e⟩:=I.base.slot L o ho (I.ok.XW L hL) hL fun z=>I.ok.oQ L z hL
   exact⟨hk,⟨L,_,hf,hn,e,hd⟩,ih (fun b hb=>hs b (by unfold sy;rw[List.filterMap_cons,hf];exact List.mem_cons_of_mem _ hb)) hr⟩
 exact all X.outer (fun _ hb=>hb) I.ok.m5
theorem Inv.stack (I:Inv X pins σ H s):s.heap.FunFrames X.base X.stack:=by
 rcases I.ok.VH with e | ⟨e,hf⟩
 ·rw[e];exact I.m5
 ·rw[e]
  obtain⟨m,hn,_⟩:=I.loc
  refine .cons (by rw[I.ok.kind];decide) hf hn ?_ I.m5
  exact Heap.get?_none_of_le (Nat.le_trans I.ok.eP I.ok.above)
theorem Inv.cE (I:Inv X pins σ H s):∀b∈sy X.stack,b∈X.env.locals :: X.fs:=fun b hb=>by
 rcases I.ok.VH with e | ⟨e,hf⟩
 ·rw[e] at hb;exact List.mem_cons_of_mem _ hb
 ·rw[e] at hb
  unfold sy at hb
  rw[List.filterMap_cons,hf] at hb
  exact hb
theorem Inv.pX (I:Inv X pins σ H s):∀b∈sy X.stack,H b=none:=fun b hb=>by
 rcases List.mem_cons.mp (I.cE b hb) with e | hb
 ·rw[e];exact I.free
 ·obtain⟨_,o,ho,_⟩:=I.ok.m5.mem hb
  exact I.base.free b o ho (I.ok.XW b hb) fun z=>I.ok.oQ b z hb
theorem Inv.step {g':Array GenState} {t':Nat} {d':Drawn} {ch:List Addr} (I:Inv X pins σ H s)
  (hch:∀b∈ch,(b∈X.ex∨X.s₀.heap.objs.size≤b)∧b≠X.env.locals∧(∀x c,X.env.cells.lookup x=some c→c≠b)∧∀p∈X.pn ++ pins,p.1≠b)
  (keep:∀b o,b≠X.env.locals→b∉X.fs→b∉ch→s.heap.get? b=some o→H b=none→h'.get? b=some o)
  (slot:∀b o,b≠X.env.locals→b∈X.fs→b∉ch→s.heap.get? b=some o→H b=none→∃sl,h'.get? b=some { o with slots:=sl }) (free:∀b o,b∉ch→s.heap.get? b=some o→H b=none→H' b=none)
  (there:∀b o,b∉ch→s.heap.get? b=some o→∃o',h'.get? b=some o')
  (uG:∀b xs,H b=some (.tup xs)→H' b=some (.tup xs)) (cL:∀b o u,H b=some (.frz o u)→H' b=some (.frz o u)) (uU:∀b ps,H b=some (.tbl ps)→∃more,H' b=some (.tbl (ps ++ more)))
  (ns:∀m,s.heap.Ns X.env.locals m→h'.Ns X.env.locals m) (jz:gF X.prog X.w H' h') (hg:AllBare g') :
  Inv X pins σ H' { s with heap:=h',gens:=g',drawn:=d',toks:=t' }:=by
 have neL:∀b o,X.s₀.heap.get? b=some o→b≠X.env.locals:=fun b o e=>Nat.ne_of_lt (Nat.lt_of_lt_of_le (Heap.lt_size e) I.ok.above)
 have neC:∀b o,X.s₀.heap.get? b=some o→b∉X.ex→b∉ch:=fun b o e hx hb=>by
  rcases(hch b hb).1 with z | z
  ·exact hx z
  ·exact absurd (Nat.lt_of_lt_of_le (Heap.lt_size e) z) (Nat.lt_irrefl _)
 have cellK:∀x c,X.env.cells.lookup x=some c→∀v,s.heap.IsCell c v→h'.IsCell c v:=fun x c e v ⟨o,ho,hd⟩=>by
  have nch:c∉ch:=fun z=>(hch c z).2.2.1 x c e rfl
  by_cases hc:c∈X.fs
  ·obtain⟨sl,q⟩:=slot c o (I.Xl x c e) hc nch ho (I.wR x c e)
   exact⟨_,q,hd⟩
  ·exact⟨o,keep c o (I.Xl x c e) hc nch ho (I.wR x c e),hd⟩
 refine⟨I.ok,I.os,hg,⟨fun b o e n hb hx=>?_,fun b o e n hb hx=>?_,fun b o e n hx=>?_,fun b o e hx=>?_,fun b xs e=>uG b xs (I.base.uG b xs e),fun b o xs e=>cL b o xs (I.base.cL b o xs e),fun b ps e=>?_⟩,?_,fun x c e=>?_,?_,fun x c e=>?_,fun p hp=>?_,jz,I.len⟩
 ·exact keep b o (neL b o e) hb (neC b o e hx) (I.base.keep b o e n hb hx) (I.base.free b o e n hx)
 ·obtain⟨sl,e1⟩:=I.base.slot b o e n hb hx
  obtain⟨sl',e2⟩:=slot b _ (neL b o e) hb (neC b o e hx) e1 (I.base.free b o e n hx)
  exact⟨sl',e2⟩
 ·obtain⟨o',e1⟩:=I.base.there b o e hx
  exact free b o' (neC b o e hx) e1 (I.base.free b o e n hx)
 ·obtain⟨o',e1⟩:=I.base.there b o e hx
  exact there b o' (neC b o e hx) e1
 ·obtain⟨m1,e1⟩:=I.base.uU b ps e
  obtain⟨m2,e2⟩:=uU b _ e1
  exact⟨m1 ++ m2,by rw[e2,Array.append_assoc]⟩
 ·obtain⟨m,hn,hl⟩:=I.loc
  refine⟨m,ns m hn,fun i x v e1 e2 e3=>?_⟩
  obtain⟨u,r,l⟩:=hl i x v e1 e2 e3
  refine⟨u,r,?_⟩
  rcases l with l | ⟨k,c,e,z⟩
  ·exact .inl l
  ·exact .inr ⟨k,c,e,cellK x c e _ z⟩
 ·obtain⟨v,z⟩:=I.cell x c e
  exact⟨v,cellK x c e v z⟩
 ·obtain⟨m,⟨o,_,_,ho,_⟩,_⟩:=I.loc
  exact free _ o (fun z=>(hch _ z).2.1 rfl) ho I.free
 ·obtain⟨v,o,ho,hd⟩:=I.cell x c e
  exact free c o (fun z=>(hch c z).2.2.1 x c e rfl) ho (I.wR x c e)
 ·obtain⟨e,n,ne,nf,d⟩:=I.pin p hp
  have nch:p.1∉ch:=fun z=>(hch p.1 z).2.2.2 p hp rfl
  exact⟨keep p.1 p.2 ne nf nch e n,free p.1 p.2 nch e n,ne,nf,d⟩
theorem Inv.un {t':Nat} (I:Inv X pins σ H s) (u:Un X.fs [] H H' s.heap h') (jz:gF X.prog X.w H' h'):Inv X pins σ H' { s with heap:=h',toks:=t' }:=by
 obtain⟨m,⟨o,es,ep,ho,r⟩,_⟩:=id I.loc
 obtain⟨sl,hL⟩:=u.any ho I.free (by simp)
 exact I.step (g':=s.gens) (d':=s.drawn) (ch:=[]) (fun _ z=>nomatch z) (fun b o _ hb _ e n=>u.keep b o e n hb (by simp)) (fun b o _ hb _ e n=>u.slot b o e n hb (by simp)) (fun b o _ e n=>u.free b o e n (by simp)) (fun b o _ e=>u.there b o e (by simp)) u.uG u.cL u.uU (fun m' hm=>by
  obtain⟨o',es',ep',ho',r'⟩:=hm
  rw[ho] at ho';cases ho'
  exact⟨_,es',ep',hL,r'⟩) jz I.bare
theorem Inv.call {g':Array GenState} {t':Nat} {d':Drawn} {ch:List Addr} (I:Inv X pins σ H s) (u:Un (sy X.stack) ch H H' s.heap h') (jz:gF X.prog X.w H' h') (hg:AllBare g')
  (hch:∀b∈ch,(b∈X.ex∨X.s₀.heap.objs.size≤b)∧b≠X.env.locals∧(∀x c,X.env.cells.lookup x=some c→c≠b)∧∀p∈X.pn ++ pins,p.1≠b) :
  Inv X pins σ H' { s with heap:=h',gens:=g',drawn:=d',toks:=t' }:=by
 obtain⟨m,⟨o,es,ep,ho,r⟩,_⟩:=id I.loc
 obtain⟨sl,hL⟩:=u.any ho I.free fun z=>(hch _ z).2.1 rfl
 exact I.step (ch:=ch) hch (fun b o hL hb hc e n=>u.keep b o e n (fun z=>(List.mem_cons.mp (I.cE b z)).elim hL hb) hc) (fun b o _ _ hc e n=>u.any e n hc) (fun b o hc e n=>u.free b o e n hc) (fun b o hc e=>u.there b o e hc) u.uG u.cL u.uU (fun m' hm=>by
  obtain⟨o',es',ep',ho',r'⟩:=hm
  rw[ho] at ho';cases ho'
  exact⟨_,es',ep',hL,r'⟩) jz hg
theorem Inv.turned {t':Nat} {it:Addr} (I:Inv X pins σ H s) (k:∀b o,b≠it→s.heap.get? b=some o→h'.get? b=some o) (hn:H it=none) (hL:it≠X.env.locals)
  (h1:it∈X.ex∨X.s₀.heap.objs.size≤it) (h2:∀x c,X.env.cells.lookup x=some c→c≠it) (h3:∀p∈X.pn ++ pins,p.1≠it):Inv X pins σ H { s with heap:=h',toks:=t' }:=by
 have nit:∀b u,H b=some u→b≠it:=fun b u e z=>by rw[z,hn] at e;cases e
 refine I.step (g':=s.gens) (d':=s.drawn) (ch:=[it]) (fun b hb=>?_) (fun b o _ _ hc e _=>k b o (fun z=>hc (by simp [z])) e) (fun b o _ _ hc e _=>⟨o.slots,k b o (fun z=>hc (by simp [z])) e⟩) (fun _ _ _ _ n=>n)
  (fun b o hc e=>⟨o,k b o (fun z=>hc (by simp [z])) e⟩) (fun _ _ e=>e) (fun _ _ _ e=>e) (fun b ps e=>⟨#[],by rw[e];simp⟩) (fun m hm=>?_) (fun b u e=>?_) I.bare
 ·have e:b=it:=by simpa using hb
  subst e
  exact⟨h1,hL,h2,h3⟩
 ·obtain⟨o,es,ep,ho,r⟩:=hm
  exact⟨o,es,ep,k _ o (Ne.symm hL) ho,r⟩
 ·refine(I.jz b u e).lR (fun c v hc q=>k c v ?_ q) (fun _ q=>q) fun _ _ q=>q
  rcases hc with z | z
  ·rw[z];exact nit b u e
  ·exact nit c _ z
theorem Inv.tok (I:Inv X pins σ H s) (t:Nat):Inv X pins σ H { s with toks:=t }:=I.un (h':=s.heap) (t':=t) Un.refl I.jz
theorem Inv.kept {t':Nat} (I:Inv X pins σ H s) (k:∀b u,s.heap.get? b=some u→h'.get? b=some u):Inv X pins σ H { s with heap:=h',toks:=t' }:=I.un (Un.kept k) (I.jz.kept k)
theorem Inv.laid {a:Addr} {o:HO} {t':Nat} (I:Inv X pins σ H s) (k:∀b u,s.heap.get? b=some u→h'.get? b=some u) (hp:s.heap.objs.size≤a) (new:jL X.prog X.w (upd H a o) h' a o) :
  Inv X pins σ (upd H a o) { s with heap:=h',toks:=t' }:=I.un (Un.laid k hp (I.jz.fresh hp)) (I.jz.laid k hp new)
theorem Inv.write {x e:Addr} {o:HO} {t':Nat} (I:Inv X pins σ H s) (mu:VQ (H x)) (he:e=x∨H e=some (.own x)) (k:∀b u,b≠e→s.heap.get? b=some u→h'.get? b=some u) (heo:∃u,h'.get? e=some u)
  (new:jL X.prog X.w (upd H x o) h' x o):Inv X pins σ (upd H x o) { s with heap:=h',toks:=t' }:=I.un (Un.write mu he k heo) (I.jz.write mu he k heo new)
theorem Inv.weak {σ':List (Option V)} (I:Inv X pins σ H s) (hl:σ'.length=σ.length) (w:∀(i:Nat) v,σ'[i]?=some (some v)→σ[i]?=some (some v)):Inv X pins σ' H s:=
 ⟨I.ok,I.os,I.bare,I.base,let ⟨m,hn,hl'⟩:=I.loc;⟨m,hn,fun i x v e1 e2 e3=>hl' i x v e1 (w i v e2) e3⟩,I.cell,I.free,I.wR,I.pin,I.jz,hl.trans I.len⟩
theorem Inv.sX {pins':List (Addr × Obj)} (I:Inv X pins σ H s) (h:∀p∈pins',s.heap.get? p.1=some p.2∧H p.1=none∧p.1≠X.env.locals∧p.1∉X.fs∧∀v,p.2.data≠.cell v):Inv X pins' σ H s:=
 ⟨I.ok,I.os,I.bare,I.base,I.loc,I.cell,I.free,I.wR,fun p hp=>(List.mem_append.mp hp).elim (fun z=>I.pin p (List.mem_append_left _ z)) (h p),I.jz,I.len⟩
theorem mx {N:List Str} (hN:N.Nodup) {i j:Nat} {x:Str} (a:N[i]?=some x) (b:N[j]?=some x):i=j:=by
 obtain⟨h1,e1⟩:=List.getElem?_eq_some_iff.mp a
 obtain⟨h2,e2⟩:=List.getElem?_eq_some_iff.mp b
 exact(List.getElem_inj hN).mp (e1.trans e2.symm)
theorem aB {M:Model} {A:Around} {E:Value→Shared→Prop} {i:Nat} {x:Str} {v:V} {u:Value} {Q:Unit→Shared→Prop} (I:Inv X pins σ H s) (hN:X.N.Nodup) (hi:X.N[i]?=some x) (hx:Loc X.env.scope x) (r:RelV v u)
  (h:∀s',Inv X pins (σ.set i (some v)) H s'→(∃a,Heap.SameBut a s.heap s'.heap∧(a=X.env.locals∨X.env.cells.lookup x=some a))→Q () s') (hf:X.fn x=true∨X.env.scope.names.lookup x=some .local:=by first | exact .inl rfl | exact .inr rfl | assumption):wpAny M A (storeName X.env x u) Q E s:=by
 obtain⟨m,hn,hl⟩:=id I.loc
 have hcls:(X.env.scope.kind == .class || (X.env.scope.kind == .module && X.env.locals != X.env.globals))=false:=by rw[I.ok.kind];rfl
 have hiσ:i < σ.length:=by rw[I.len];exact(List.getElem?_eq_some_iff.mp hi).1
 have Xl:=I.Xl
 have tracked:∀{a:Addr} {h':Heap},(∃o,s.heap.get? a=some o∧H a=none)→Heap.SameBut a s.heap h'→gF X.prog X.w H h':=fun {a h'} ha hs b ob e=>by
  obtain⟨_,_,hfree⟩:=ha
  refine(I.jz b ob e).lR (fun c w' hc q=>(hs.2 c ?_).trans q) (fun _ q=>q) fun _ _ q=>q
  rintro rfl
  rcases hc with rfl | hc
  ·rw[hfree] at e;cases e
  ·rw[hfree] at hc;cases hc
 rcases hx with hk | hk
 ·refine wpAny_storeName_local hk hn (fun h' hn' hs=>?_) hcls
  obtain⟨oL,_,_,hoL,_⟩:=id hn
  refine h _ ⟨I.ok,I.os,I.bare,⟨fun b o e n hb hx=>?_,fun b o e n hb hx=>?_,I.base.free,fun b o e hx=>?_,I.base.uG,I.base.cL,I.base.uU⟩,⟨_,hn',fun j y v' e1 e2 e3=>?_⟩,fun y c e=>?_,I.free,I.wR,fun p hp=>?_,tracked ⟨oL,hoL,I.free⟩ hs,by simpa using I.len⟩ ⟨_,hs,.inl rfl⟩
  ·exact(hs.2 b (Nat.ne_of_lt (Nat.lt_of_lt_of_le (Heap.lt_size e) I.ok.above))).trans (I.base.keep b o e n hb hx)
  ·obtain⟨sl,e1⟩:=I.base.slot b o e n hb hx
   exact⟨sl,(hs.2 b (Nat.ne_of_lt (Nat.lt_of_lt_of_le (Heap.lt_size e) I.ok.above))).trans e1⟩
  ·obtain⟨o',e1⟩:=I.base.there b o e hx
   exact⟨o',(hs.2 b (Nat.ne_of_lt (Nat.lt_of_lt_of_le (Heap.lt_size e) I.ok.above))).trans e1⟩
  ·by_cases hj:j=i
   ·subst hj
    rw[hi] at e1;cases e1
    rw[List.getElem?_set_self hiσ] at e2
    cases e2
    exact⟨u,r,.inl ⟨hk,by simp⟩⟩
   ·rw[List.getElem?_set_ne (Ne.symm hj)] at e2
    obtain⟨u',r',q⟩:=hl j y v' e1 e2 e3
    refine⟨u',r',?_⟩
    rcases q with ⟨k,e⟩ | ⟨k,c,e,z⟩
    ·refine .inl ⟨k,?_⟩
     have:y≠x:=fun e=>hj (mx hN e1 (e▸hi))
     simp [this,e]
    ·exact .inr ⟨k,c,e,z.sameBut hs (Xl y c e)⟩
  ·obtain⟨w',z⟩:=I.cell y c e
   exact⟨w',z.sameBut hs (Xl y c e)⟩
  ·obtain⟨e,n,ne,nf,d⟩:=I.pin p hp
   exact⟨(hs.2 p.1 ne).trans e,n,ne,nf,d⟩
 ·have hfn:X.fn x=true:=by
   rcases hf with z | z
   ·exact z
   ·rw[z] at hk;cases hk
  obtain⟨c,hc⟩:=I.ok.has x (.inl hk)
  obtain⟨w',z⟩:=I.cell x c hc
  refine wpAny_storeName_cell I.ok.kind hk hc z (fun h' hc' hs=>?_)
  obtain⟨oc,hoc,hocd⟩:=id z
  refine h { s with heap:=h' } ⟨I.ok,I.os,I.bare,⟨fun b o e n hb hx=>?_,fun b o e n hb hx=>?_,I.base.free,fun b o e hx=>?_,I.base.uG,I.base.cL,I.base.uU⟩,⟨m,hn.sameBut hs (Ne.symm (Xl x c hc)),fun j y v' e1 e2 e3=>?_⟩,fun y c' e=>?_,I.free,I.wR,fun p hp=>?_,tracked ⟨oc,hoc,I.wR x c hc⟩ hs,by simpa using I.len⟩ ⟨c,hs,.inr hc⟩
  ·exact(hs.2 b (Nat.ne_of_lt (Nat.lt_of_lt_of_le (Heap.lt_size e) (I.ok.Vs x c hfn hc)))).trans (I.base.keep b o e n hb hx)
  ·obtain⟨sl,e1⟩:=I.base.slot b o e n hb hx
   exact⟨sl,(hs.2 b (Nat.ne_of_lt (Nat.lt_of_lt_of_le (Heap.lt_size e) (I.ok.Vs x c hfn hc)))).trans e1⟩
  ·obtain⟨o',e1⟩:=I.base.there b o e hx
   exact⟨o',(hs.2 b (Nat.ne_of_lt (Nat.lt_of_lt_of_le (Heap.lt_size e) (I.ok.Vs x c hfn hc)))).trans e1⟩
  ·by_cases hj:j=i
   ·subst hj
    rw[hi] at e1;cases e1
    rw[List.getElem?_set_self hiσ] at e2
    cases e2
    exact⟨u,r,.inr ⟨.inl hk,c,hc,hc'⟩⟩
   ·rw[List.getElem?_set_ne (Ne.symm hj)] at e2
    obtain⟨u',r',q⟩:=hl j y v' e1 e2 e3
    refine⟨u',r',?_⟩
    rcases q with q | ⟨k,c',e,z'⟩
    ·exact .inl q
    ·refine .inr ⟨k,c',e,z'.sameBut hs ?_⟩
     rintro rfl
     exact hj (mx hN e1 (I.ok.inj _ _ _ e hc▸hi))
  ·by_cases hcc:c'=c
   ·subst hcc;exact⟨_,hc'⟩
   ·obtain⟨w2,z2⟩:=I.cell y c' e
    exact⟨w2,z2.sameBut hs hcc⟩
  ·obtain⟨e,n,ne,nf,d⟩:=I.pin p hp
   refine⟨(hs.2 p.1 ?_).trans e,n,ne,nf,d⟩
   intro q
   rw[q,hoc] at e
   have q':oc=p.2:=Option.some.inj e
   exact d w' (by rw[←q'];exact hocd)
theorem bB {M:Model} {A:Around} {E:Value→Shared→Prop} {i:Nat} {x:Str} {v:V} {u:Value} {Q:Unit→Shared→Prop} (I:Inv X pins σ H s) (hN:X.N.Nodup) (hi:X.N[i]?=some x) (hx:Loc X.env.scope x) (r:RelV v u)
  (h:∀s',Inv X pins (σ.set i (some v)) H s'→Q () s') (hf:X.fn x=true∨X.env.scope.names.lookup x=some .local:=by first | exact .inl rfl | exact .inr rfl | assumption):wpAny M A (storeName X.env x u) Q E s:=
 aB I hN hi hx r (fun s' I' _=>h s' I') hf
theorem Inv.nW {s':Shared} {ch:List Addr} (I:Inv X pins σ H s) (ho:s'.os=s.os) (u:Un (sy X.stack) ch H H' s.heap s'.heap) (jz:gF X.prog X.w H' s'.heap) (hg:AllBare s'.gens)
  (hch:∀b∈ch,(b∈X.ex∨X.s₀.heap.objs.size≤b)∧b≠X.env.locals∧(∀x c,X.env.cells.lookup x=some c→c≠b)∧∀p∈X.pn ++ pins,p.1≠b):Inv X pins σ H' s':=by
 obtain⟨h',g',d',t',o'⟩:=s'
 have e:o'=s.os:=ho
 subst e
 exact I.call (g':=g') (t':=t') (d':=d') u jz hg hch
end
noncomputable abbrev XK:=Value→Option Addr→Hp→Prop
noncomputable abbrev St:=List (Option V)
noncomputable abbrev VK:=V→Hp→Prop
noncomputable abbrev TE:=St→Hp→VK→Prop
noncomputable abbrev TT:=St→Hp→(Bool→Hp→Prop)→Prop
noncomputable abbrev TA:=St→Hp→(List V→Hp→Prop)→Prop
structure Ends where
 nx:St→Hp→Prop
 rt:VK
 bk:St→Hp→Prop:=fun _ _=>False
 ct:St→Hp→Prop:=fun _ _=>False
noncomputable abbrev TS:=Ends→St→Hp→Prop
noncomputable def EP (X:Cx) (pins:List (Addr × Obj)) (σ:St) (Q:VK) (u:Value) (s':Shared):Prop:=∃v H',Inv X pins σ H' s'∧RelV v u∧Q v H'
noncomputable def TP (X:Cx) (pins:List (Addr × Obj)) (σ:St) (Q:Bool→Hp→Prop) (b:Bool) (s':Shared):Prop:=∃H',Inv X pins σ H' s'∧Q b H'
noncomputable def AP (X:Cx) (pins:List (Addr × Obj)) (σ:St) (Q:List V→Hp→Prop) (us:List Value) (s':Shared):Prop:=∃vs H',Inv X pins σ H' s'∧Vals vs us∧Q vs H'
noncomputable def SP (X:Cx) (pins:List (Addr × Obj)) (D:Ends) (f:Flow) (s':Shared):Prop:=
 match f with
 | .next=>∃σ' H',Inv X pins σ' H' s'∧D.nx σ' H'
 | .brk=>∃σ' H',Inv X pins σ' H' s'∧D.bk σ' H'
 | .cont=>∃σ' H',Inv X pins σ' H' s'∧D.ct σ' H'
 | .ret u=>∃v σ' H',Inv X pins σ' H' s'∧RelV v u∧D.rt v H'
noncomputable def PE (X:Cx) (e:Expr) (t:TE):Prop:=
 ∀(pins:List (Addr × Obj)) (s:Shared) (σ:St) (H:Hp) (Q:VK),Inv X pins σ H s→t σ H Q→wpAny (model X.prog X.w) X.A (eval e X.env) (EP X pins σ Q) X.xe s
noncomputable def PT (X:Cx) (e:Expr) (t:TT):Prop:=
 ∀(pins:List (Addr × Obj)) (s:Shared) (σ:St) (H:Hp) (Q:Bool→Hp→Prop),Inv X pins σ H s→t σ H Q→wpAny (model X.prog X.w) X.A (isTrue e X.env (eval e X.env)) (TP X pins σ Q) X.xe s
noncomputable def PW (X:Cx) (e:Expr) (t:TT):Prop:=
 ∀(whole:Sem Value) (pins:List (Addr × Obj)) (s:Shared) (σ:St) (H:Hp) (Q:Bool→Hp→Prop),Inv X pins σ H s→t σ H Q→wpAny (model X.prog X.w) X.A (isTrue e X.env whole) (TP X pins σ Q) X.xe s
theorem PW.pt {X:Cx} {e:Expr} {t:TT} (h:PW X e t):PT X e t:=h _
noncomputable def PA (X:Cx) (es:List Expr) (t:TA):Prop:=
 ∀(pos:Pos) (pins:List (Addr × Obj)) (s:Shared) (σ:St) (H:Hp) (Q:List V→Hp→Prop),Inv X pins σ H s→t σ H Q→wpAny (model X.prog X.w) X.A (spliced (backTo pos (starEach es X.env))) (AP X pins σ Q) X.xe s
noncomputable def PS (X:Cx) (st:Stmt) (t:TS):Prop:=
 ∀(pins:List (Addr × Obj)) (s:Shared) (σ:St) (H:Hp) (D:Ends),Inv X pins σ H s→t D σ H→wpAny (model X.prog X.w) X.A (exec st X.env) (SP X pins D) X.xe s
noncomputable def iy (X:Cx) (st:List Stmt) (t:TS):Prop:=
 ∀(pins:List (Addr × Obj)) (s:Shared) (σ:St) (H:Hp) (D:Ends),Inv X pins σ H s→t D σ H→wpAny (model X.prog X.w) X.A (execs st X.env) (SP X pins D) X.xe s
theorem jO {α:Type} {t:Sem α} {Q Q':α→Shared→Prop} {M:Model} {A:Around} {E:Value→Shared→Prop} {s:Shared} (h:wpAny M A t Q E s) (hQ:∀a s,Q a s→Q' a s):wpAny M A t Q' E s:=wpAny_mono h hQ fun _ _ x=>x
end L2
namespace L2
open PySem PySem.Spec PyProof.Rows
section
variable {X:Cx}
theorem bin {a b:Expr} {ta tb:TE} (ha:PE X a ta) (hb:PE X b tb) {pins:List (Addr × Obj)} {s:Shared} {σ:St} {H:Hp} {R:V→V→Hp→Prop} (I:Inv X pins σ H s) (h:ta σ H fun x H1=>tb σ H1 fun y H2=>R x y H2)
  {α:Type} {Q:α→Shared→Prop} {f:Value→Value→Sem α}
  (hf:∀v u s2 x y H2,Inv X pins σ H2 s2→RelV x v→RelV y u→R x y H2→wpAny (model X.prog X.w) X.A (f v u) Q X.xe s2) :
  wpAny (model X.prog X.w) X.A (eval a X.env) (fun v s₁=>wpAny (model X.prog X.w) X.A (eval b X.env) (fun u s₂=>wpAny (model X.prog X.w) X.A (f v u) Q X.xe s₂) X.xe s₁) X.xe s:=by
 refine jO (ha pins s σ H _ I h) fun v s1 ⟨x,H1,I1,r1,q1⟩=>?_
 refine jO (hb pins s1 σ H1 _ I1 q1) fun u s2 ⟨y,H2,I2,r2,q2⟩=>?_
 exact hf v u s2 x y H2 I2 r1 r2 q2
noncomputable def Wg (i:Nat):TE:=fun σ H Q=>∃v,σ[i]?=some (some v)∧Q v H
noncomputable def tC (v:V):TE:=fun _ H Q=>Q v H
theorem K5 {i:Nat} {x:Str} {pos:Pos} (hN:X.N[i]?=some x) (hv:WH X.env.scope x) (hd:(x == ("__debug__" : Str))=false:=by decide) (hcd:(x == ("__classdict__" : Str))=false:=by decide):PE X (.Name x pos) (Wg i):=by
 intro pins s σ H Q I h
 obtain⟨v,e,h⟩:=h
 obtain⟨m,hn,hl⟩:=I.loc
 obtain⟨u,r,l⟩:=hl i x v hN e hv
 have fin:EP X pins σ Q u s:=⟨v,H,I,r,h⟩
 rcases l with ⟨hk,hm⟩ | ⟨hk,c,hc,hcell⟩
 ·exact wpAny_Name (wpAny_loadName_local I.ok.kind hk hn hm fin) hd
 ·rcases hk with hk | hk
  ·exact wpAny_Name (wpAny_loadName_cell I.ok.kind hk hc hcell fin) hd
  ·exact wpAny_Name (wpAny_loadName_free I.ok.kind hk hc hcell fin hcd) hd
theorem z8 {i j pos}:PE X (.Constant (.int i) j pos) (tC (.int i)):=fun _ _ _ H _ I h=>wpAny_Constant_int ⟨.int i,H,I.tok _,⟨_,rfl⟩,h⟩
theorem kI {b j pos}:PE X (.Constant (.bool b) j pos) (tC (.bl b)):=fun _ _ _ H _ I h=>Constant_bool ⟨.bl b,H,I,rfl,h⟩
theorem vi {j pos}:PE X (.Constant .none j pos) (tC .non):=fun _ _ _ H _ I h=>Constant_none ⟨.non,H,I,rfl,h⟩
theorem qj {x j pos}:PE X (.Constant (.str x) j pos) (tC (.str x)):=fun _ _ _ H _ I h=>Calls.Constant_str ⟨.str x,H,I.tok _,⟨_,rfl⟩,h⟩
noncomputable def Gl (X:Cx) (x:Str):Prop:=X.env.kindOf x=some .globalImplicit
theorem yX {E:Value→Shared→Prop} {pins:List (Addr × Obj)} {s:Shared} {σ:St} {H:Hp} {x:Str} {u:Value} {pos:Pos} {Q:Value→Shared→Prop} (I:Inv X pins σ H s) (hg:Gl X x) (hm:X.mg x=some u) (h:Q u s)
  (hd:(x == ("__debug__" : Str))=false:=by decide):wpAny (model X.prog X.w) X.A (eval (.Name x pos) X.env) Q E s:=
 Calls.Name_function_global I.ok.kind hg (Calls.loadGlobal_global (by rw[I.ok.glob];exact I.mod.glob.keeps I.bk) hm h) hd
theorem mS {E:Value→Shared→Prop} {pins:List (Addr × Obj)} {s:Shared} {σ:St} {H:Hp} {x:Str} {u:Value} {pos:Pos} {Q:Value→Shared→Prop} (I:Inv X pins σ H s) (hg:Gl X x) (hm:X.mg x=none) (hv:bootBuiltins x=some u) (h:Q u s)
  (hn:x≠"__name__":=by decide) (hd:(x == ("__debug__" : Str))=false:=by decide):wpAny (model X.prog X.w) X.A (eval (.Name x pos) X.env) Q E s:=by
 obtain⟨mb,h1,h2⟩:=I.mod.blt
 exact Calls.Name_function_global I.ok.kind hg (Calls.loadGlobal_builtin (by rw[I.ok.glob];exact I.mod.glob.keeps I.bk) hm (by rw[I.ok.blt];exact h1.keeps I.bk) ((h2 x hn).trans hv) h) hd
theorem jv {x:Str} {v:V} {u:Value} {pos:Pos} (hg:Gl X x) (hm:X.mg x=some u) (r:RelV v u) (hd:(x == ("__debug__" : Str))=false:=by decide):PE X (.Name x pos) (tC v):=
 fun _ _ _ H _ I h=>yX I hg hm ⟨v,H,I,r,h⟩ hd
theorem rR {x:Str} {v:V} {u:Value} {pos:Pos} (hg:Gl X x) (hm:X.mg x=none) (hv:bootBuiltins x=some u) (r:RelV v u) (hn:x≠"__name__":=by decide) (hd:(x == ("__debug__" : Str))=false:=by decide):PE X (.Name x pos) (tC v):=
 fun _ _ _ H _ I h=>mS I hg hm hv ⟨v,H,I,r,h⟩ hn hd
noncomputable def WY (ta tb:TE) (k:Int→Int→Hp→Prop):St→Hp→Prop:=fun σ H=>ta σ H fun x H1=>tb σ H1 fun y H2=>∃i j,x=.int i∧y=.int j∧k i j H2
noncomputable def Gr (ta tb:TE):TE:=fun σ H Q=>WY ta tb (fun i j H2=>Q (.int (i + j)) H2) σ H
noncomputable def GO (ta tb:TE):TE:=fun σ H Q=>WY ta tb (fun i j H2=>Q (.int (i - j)) H2) σ H
noncomputable def GA (ta tb:TE):TE:=fun σ H Q=>WY ta tb (fun i j H2=>(-(2 ^ 64) < i∧i < 2 ^ 64)∧Q (.int (i * j)) H2) σ H
variable {a b:Expr} {ta tb:TE} {pos:Pos}
noncomputable def PC (X:Cx) (op:CmpOp) (a b:Expr) (t:TE):Prop:=
 ∀(pins:List (Addr × Obj)) (s:Shared) (σ:St) (H:Hp) (Q:VK),Inv X pins σ H s→t σ H Q→
  wpAny (model X.prog X.w) X.A (eval a X.env) (fun v s₁=>wpAny (model X.prog X.w) X.A (eval b X.env) (fun u s₂=>wpAny (model X.prog X.w) X.A (compareOp op v u) (EP X pins σ Q) X.xe s₂) X.xe s₁) X.xe s
noncomputable def aF (p:Int→Int→Bool) (ta tb:TE):TE:=fun σ H Q=>WY ta tb (fun i j H2=>Q (.bl (p i j)) H2) σ H
noncomputable abbrev Hm:TE→TE→TE:=aF fun i j=>decide (i < j)
noncomputable abbrev Hj:TE→TE→TE:=aF fun i j=>decide (i≤j)
noncomputable abbrev G9:TE→TE→TE:=aF fun i j=>decide (j < i)
noncomputable abbrev Hx:TE→TE→TE:=aF fun i j=>decide (j≤i)
noncomputable abbrev G5:TE→TE→TE:=aF fun i j=>decide (i=j)
noncomputable abbrev GG:TE→TE→TE:=aF fun i j=>!decide (i=j)
noncomputable def GC (ta:TE):TE:=fun σ H Q=>ta σ H fun x H1=>Q (.bl (decide (x=.non))) H1
noncomputable def Gu (ta:TE):TE:=fun σ H Q=>ta σ H fun x H1=>Q (.bl (!decide (x=.non))) H1
noncomputable def tB (t:TE):TT:=fun σ H Q=>t σ H fun x H1=>∃c,x=.bl c∧Q c H1
theorem Qa {op:CmpOp} {t:TE} (h:PC X op a b t) (h1:behindInMarks op b=false:=by first | exact nobehind _ (by decide) (by decide) | rfl):PT X (.Compare a [op] [b] pos) (tB t):=by
 intro pins s σ H Q I hw
 refine wpAny_isTrue_Compare1 (jO (h pins s σ H _ I hw) fun v s1 h1=>jO h1 fun u s2 h2=>jO h2 fun c s3 ⟨x,H1,I1,r1,q1⟩=>?_) h1
 obtain⟨d,rfl,q⟩:=q1
 cases r1
 exact wpAny_truthy_bool ⟨H1,I1,q⟩
theorem jC {e:Expr} {t:TE} (h:PE X e t) (he:∀whole,isTrue e X.env whole=(do let v ←whole;standAt e.pos;holding [v] (truthy v)):=by intro _;rfl):PT X e (tB t):=by
 intro pins s σ H Q I hw
 refine isTrue_plain (jO (h pins s σ H _ I hw) fun v s1 ⟨x,H1,I1,r1,q1⟩=>?_) (he _)
 obtain⟨d,rfl,q⟩:=q1
 cases r1
 exact wpAny_truthy_bool ⟨H1,I1,q⟩
variable {tA tB':TT} {rest:List Expr}
noncomputable def YQ (t u:TT):TT:=fun σ H Q=>t σ H fun c H1=>if c=true then u σ H1 Q else Q false H1
noncomputable def GL (t u:TT):TT:=fun σ H Q=>t σ H fun c H1=>if c=true then Q true H1 else u σ H1 Q
noncomputable def YU (t:TT):TT:=fun σ H Q=>t σ H fun c H1=>Q (!c) H1
theorem bN (ha:PT X a tA):PW X (.BoolOp .And [a] pos) tA:=by
 intro wh pins s σ H Q I h
 refine isTrue_and (jO (ha pins s σ H Q I h) fun c s1 e=>?_)
 cases c with
 | true=>exact isTrue_and_nil e
 | false=>exact e
theorem kP (ha:PT X a tA):PW X (.BoolOp .Or [a] pos) tA:=by
 intro wh pins s σ H Q I h
 refine isTrue_or (jO (ha pins s σ H Q I h) fun c s1 e=>?_)
 cases c with
 | false=>exact isTrue_or_nil e
 | true=>exact e
theorem mR (ha:PT X a tA) (hb:PW X (.BoolOp .And (b :: rest) pos) tB'):PW X (.BoolOp .And (a :: b :: rest) pos) (YQ tA tB'):=by
 intro wh pins s σ H Q I h
 refine isTrue_and (jO (ha pins s σ H _ I h) fun c s1 ⟨H1,I1,q1⟩=>?_)
 cases c with
 | true=>exact hb wh pins s1 σ H1 Q I1 q1
 | false=>exact⟨H1,I1,q1⟩
theorem kR (ha:PT X a tA) (hb:PW X (.BoolOp .Or (b :: rest) pos) tB'):PW X (.BoolOp .Or (a :: b :: rest) pos) (GL tA tB'):=by
 intro wh pins s σ H Q I h
 refine isTrue_or (jO (ha pins s σ H _ I h) fun c s1 ⟨H1,I1,q1⟩=>?_)
 cases c with
 | true=>exact⟨H1,I1,q1⟩
 | false=>exact hb wh pins s1 σ H1 Q I1 q1
theorem w4 (ha:PT X a tA):PT X (.UnaryOp .Not a pos) (YU tA):=by
 intro pins s σ H Q I h
 exact isTrue_not (ha pins s σ H (fun c H1=>Q (!c) H1) I h)
noncomputable def VJ (ta tb:TE):TE:=fun σ H Q=>ta σ H fun x H1=>∃c,x=.bl c∧if c=true then tb σ H1 Q else Q (.bl false) H1
noncomputable def Yy (ta tb:TE):TE:=fun σ H Q=>ta σ H fun x H1=>∃c,x=.bl c∧if c=true then Q (.bl true) H1 else tb σ H1 Q
noncomputable def V2 (ta:TE):TE:=fun σ H Q=>ta σ H fun x H1=>∃c,x=.bl c∧Q (.bl (!c)) H1
theorem lU {op} {t:TE} (h:PE X a t):PE X (.BoolOp op [a] pos) t:=fun pins s σ H Q I hw=>BoolOp_one (h pins s σ H Q I hw)
theorem lW (ha:PE X a ta) (hb:PE X (.BoolOp .And (b :: rest) pos) tb):PE X (.BoolOp .And (a :: b :: rest) pos) (VJ ta tb):=by
 intro pins s σ H Q I h
 refine BoolOp_and (jO (ha pins s σ H _ I h) fun v s1 ⟨x,H1,I1,r1,q1⟩=>?_)
 obtain⟨c,rfl,q1⟩:=q1
 cases r1
 refine wpAny_truthy_bool ?_
 cases c with
 | true=>exact hb pins s1 σ H1 Q I1 q1
 | false=>exact⟨.bl false,H1,I1,rfl,q1⟩
theorem Wc (ha:PE X a ta) (hb:PE X (.BoolOp .Or (b :: rest) pos) tb):PE X (.BoolOp .Or (a :: b :: rest) pos) (Yy ta tb):=by
 intro pins s σ H Q I h
 refine BoolOp_or (jO (ha pins s σ H _ I h) fun v s1 ⟨x,H1,I1,r1,q1⟩=>?_)
 obtain⟨c,rfl,q1⟩:=q1
 cases r1
 refine wpAny_truthy_bool ?_
 cases c with
 | false=>exact hb pins s1 σ H1 Q I1 q1
 | true=>exact⟨.bl true,H1,I1,rfl,q1⟩
theorem Vh (ha:PE X a ta):PE X (.UnaryOp .Not a pos) (V2 ta):=by
 intro pins s σ H Q I h
 refine UnaryOp_ (jO (ha pins s σ H _ I h) fun v s1 ⟨x,H1,I1,r1,q1⟩=>?_)
 obtain⟨c,rfl,q1⟩:=q1
 cases r1
 exact not_of (wpAny_truthy_bool ⟨.bl (!c),H1,I1,rfl,q1⟩)
noncomputable def Hy (t:TT) (ta tb:TE):TE:=fun σ H Q=>t σ H fun c H1=>if c=true then ta σ H1 Q else tb σ H1 Q
end
end L2
namespace L2
open PySem PySem.Spec PyProof.Rows
noncomputable def q0 (K:PySem.W.Frag) (H:Hp) (a:Addr) (xs:List V):Prop:=
 Rd H a (.lst xs)∨
  ∃(o:Obj) (its:Array Value) (n:Nat),K.lookup a=some o∧o.cls=.type "list"∧o.dict=none∧o.data=.seq its n∧its.size≤sizeLine∧Vals xs its.toList
noncomputable def pD (K:PySem.W.Frag) (H:Hp) (a:Addr) (xs:List V):Prop:=
 Rd H a (.tup xs)∨
  ∃(o:Obj) (its:Array Value) (n:Nat),K.lookup a=some o∧o.cls=.type "tuple"∧o.data=.seq its n∧its.size≤sizeLine∧Vals xs its.toList
noncomputable def Yn:Value→Option V
 | .none=>some .non
 | .bool b=>some (.bl b)
 | .int i _=>some (.int i)
 | .str x _=>some (.str x)
 | .bytes b _=>some (.byt b)
 | .float b _=>some (.flt b)
 | .ref a=>some (.ref a)
 | .type n=>some (.ty n)
 | _=>none
theorem RelV.abs {x:V} {u:Value} (r:RelV x u):Yn u=some x:=by
 cases x with
 | non=>cases r;rfl
 | bl _=>cases r;rfl
 | int _=>obtain⟨t,rfl⟩:=r;rfl
 | str _=>obtain⟨t,rfl⟩:=r;rfl
 | byt _=>obtain⟨t,rfl⟩:=r;rfl
 | flt _=>obtain⟨t,rfl⟩:=r;rfl
 | ref _=>cases r;rfl
 | ty _=>cases r;rfl
theorem RelV.inj {x y:V} {u:Value} (r:RelV x u) (q:RelV y u):x=y:=Option.some.inj (r.abs.symm.trans q.abs)
theorem Vals.inj:∀{xs ys:List V} {us:List Value},Vals xs us→Vals ys us→xs=ys
 | _,_,_,.nil,.nil=>rfl
 | _,_,_,.cons r t,.cons r' t'=>by rw[r.inj r',Vals.inj t t']
section
variable {X:Cx} {pins:List (Addr × Obj)} {σ:St} {H:Hp} {s:Shared} {a:Addr} {xs ys:List V}
theorem q0.of {K:PySem.W.Frag} (h:H a=some (.lst xs)):q0 K H a xs:=.inl (.inl h)
theorem pD.of {K:PySem.W.Frag} (h:H a=some (.tup xs)):pD K H a xs:=.inl (.inl h)
theorem Inv.list (I:Inv X pins σ H s) (h:q0 X.K H a xs):∃its:List Value,Vals xs its∧PlainL s.heap a its.toArray∧xs.length≤sizeLine:=by
 rcases h with h | ⟨o,its,n,hk,hc,hd,hs,hz,r⟩
 ·obtain⟨z,its,n,r,e⟩:=h.ok I.jz
  exact⟨its,r,⟨_,n,e,rfl,rfl,rfl⟩,z⟩
 ·refine⟨its.toList,r,⟨o,n,I.y7 a o hk,hc,hd,by simpa using hs⟩,?_⟩
  have e:=r.length
  simp only[Array.length_toList] at e
  omega
theorem Inv.tuple (I:Inv X pins σ H s) (h:pD X.K H a xs):∃its:List Value,Vals xs its∧IsTup s.heap a its.toArray∧xs.length≤sizeLine:=by
 rcases h with h | ⟨o,its,n,hk,hc,hs,hz,r⟩
 ·obtain⟨z,its,r,p⟩:=h.ok I.jz
  exact⟨its,r,p,z⟩
 ·refine⟨its.toList,r,⟨o,I.y7 a o hk,hc,n,by simpa using hs⟩,?_⟩
  have e:=r.length
  simp only[Array.length_toList] at e
  omega
theorem Inv.uJ (I:Inv X pins σ H s) (h:q0 X.K H a xs) (h':q0 X.K H a ys):xs=ys:=by
 obtain⟨its,r,⟨o,n,e,_,_,d⟩,_⟩:=I.list h
 obtain⟨its',r',⟨o',n',e',_,_,d'⟩,_⟩:=I.list h'
 rw[e] at e';cases e'
 rw[d] at d'
 injection d' with d1 _
 have:its=its':=by simpa using congrArg Array.toList d1
 subst this
 exact r.inj r'
end
noncomputable abbrev Cx.uS (X:Cx) (E:Value→Shared→Prop):Cx:={ X with xe:=E }
noncomputable abbrev Cx.WG (X:Cx):Cx:=X.uS fun _ _=>False
theorem Cx.Ok.uS {X:Cx} (ok:X.Ok) (E:Value→Shared→Prop):(X.uS E).Ok:=
 ⟨ok.mod,ok.kind,ok.glob,ok.blt,ok.above,ok.inj,ok.has,ok.Vs,ok.hd,ok.frames,ok.VH,ok.Kc,ok.bs,ok.eP,ok.oI,ok.oQ,ok.m5,ok.XW⟩
theorem Cx.Ok.bJ {X:Cx} {E:Value→Shared→Prop} (ok:(X.uS E).Ok):X.Ok:=
 ⟨ok.mod,ok.kind,ok.glob,ok.blt,ok.above,ok.inj,ok.has,ok.Vs,ok.hd,ok.frames,ok.VH,ok.Kc,ok.bs,ok.eP,ok.oI,ok.oQ,ok.m5,ok.XW⟩
section
variable {X:Cx} {pins:List (Addr × Obj)} {σ:St} {H:Hp} {s:Shared} {E:Value→Shared→Prop}
theorem Inv.uS (I:Inv X pins σ H s) (E:Value→Shared→Prop):Inv (X.uS E) pins σ H s:=⟨I.ok.uS E,I.os,I.bare,I.base,I.loc,I.cell,I.free,I.wR,I.pin,I.jz,I.len⟩
theorem Inv.bJ (I:Inv (X.uS E) pins σ H s):Inv X pins σ H s:=⟨I.ok.bJ,I.os,I.bare,I.base,I.loc,I.cell,I.free,I.wR,I.pin,I.jz,I.len⟩
theorem SP.bJ {D:Ends} {f:Flow} {s':Shared} (h:SP (X.uS E) pins D f s'):SP X pins D f s':=by
 cases f with
 | next=>obtain⟨σ',H',I,q⟩:=h;exact⟨σ',H',I.bJ,q⟩
 | brk=>obtain⟨σ',H',I,q⟩:=h;exact⟨σ',H',I.bJ,q⟩
 | cont=>obtain⟨σ',H',I,q⟩:=h;exact⟨σ',H',I.bJ,q⟩
 | ret u=>obtain⟨v,σ',H',I,r,q⟩:=h;exact⟨v,σ',H',I.bJ,r,q⟩
theorem iy.WG {st:List Stmt} {t:TS} (h:iy X.WG st t):iy X st t:=fun pins s σ H D I hw=>
 wpAny_mono (h pins s σ H D (I.uS _) hw) (fun _ _ q=>q.bJ) fun _ _ z=>False.elim z
end
section
variable {X:Cx} {st:Stmt} {rest:List Stmt} {t u:TS} {e:Expr} {te:TE} {pos:Pos}
noncomputable def Wm:TS:=fun D σ H=>D.nx σ H
noncomputable def W3 (t u:TS):TS:=fun D σ H=>t { D with nx:=u D } σ H
theorem qm:iy X [] Wm:=fun _ _ σ H _ I h=>wpAny_execs_nil ⟨σ,H,I,h⟩
theorem z6 (h1:PS X st t) (h2:iy X rest u):iy X (st :: rest) (W3 t u):=by
 intro pins s σ H D I h
 refine wpAny_execs_cons (jO (h1 pins s σ H { D with nx:=u D } I h) fun f s1 q=>?_)
 cases f with
 | next=>
  obtain⟨σ',H',I',q⟩:=q
  exact h2 pins s1 σ' H' D I' q
 | ret v=>exact q
 | brk=>exact q
 | cont=>exact q
theorem z9 (h1:PS X st t):iy X [st] t:=by
 intro pins s σ H D I h
 refine wpAny_execs_cons (jO (h1 pins s σ H D I h) fun f s1 q=>?_)
 cases f with
 | next=>exact wpAny_execs_nil q
 | ret v=>exact q
 | brk=>exact q
 | cont=>exact q
noncomputable def Vz:TS:=fun D σ H=>D.bk σ H
noncomputable def Gj:TS:=fun D σ H=>D.ct σ H
theorem Zk:PS X (.Break pos) Vz:=fun _ _ σ H _ I h=>wpAny_Break ⟨σ,H,I,h⟩
theorem Inv.quiet {pins:List (Addr × Obj)} {σ:St} {H:Hp} {s:Shared} (I:Inv X pins σ H s):interactive X.env=false:=by simp [interactive,I.ok.kind]
noncomputable def Wh (te:TE):TS:=fun D σ H=>te σ H fun _ H1=>D.nx σ H1
theorem xS (he:PE X e te) (hs:swapsWith e none pos.line X.env=pure false:=by rfl):PS X (.Expr e pos) (Wh te):=by
 intro pins s σ H D I h
 exact wpAny_Expr_any (jO (he pins s σ H _ I h) fun v s1 ⟨x,H1,I1,r1,q1⟩=>⟨σ,H1,I1,q1⟩) I.quiet hs
noncomputable def YX (te:TE):TS:=fun D σ H=>te σ H D.rt
theorem qy (he:PE X e te):PS X (.Return (some e) pos) (YX te):=by
 intro pins s σ H D I h
 exact wpAny_Return_some (jO (he pins s σ H _ I h) fun v s1 ⟨x,H1,I1,r1,q1⟩=>⟨x,σ,H1,I1,r1,q1⟩)
noncomputable def Y2:TS:=fun D _ H=>D.rt .non H
noncomputable def YO (c:TT) (t u:TS):TS:=fun D σ H=>c σ H fun b H1=>if b=true then t D σ H1 else u D σ H1
theorem qG {c:Expr} {a b:List Stmt} {tc:TT} (hc:PT X c tc) (ha:iy X a t) (hb:iy X b u):PS X (.If c a b pos) (YO tc t u):=by
 intro pins s σ H D I h
 refine wpAny_If (jO (hc pins s σ H _ I h) fun d s1 ⟨H1,I1,q1⟩=>?_)
 cases d with
 | true=>exact ha pins s1 σ H1 D I1 q1
 | false=>exact hb pins s1 σ H1 D I1 q1
noncomputable def YE:TS:=fun _ _ _=>False
end
noncomputable abbrev TG:=V→St→Hp→(St→Hp→Prop)→Prop
noncomputable abbrev Xg:=List V→St→Hp→(St→Hp→Prop)→Prop
noncomputable def PG (X:Cx) (target:Expr) (t:TG):Prop:=
 ∀(pins:List (Addr × Obj)) (s:Shared) (σ:St) (H:Hp) (v:V) (u:Value) (Q:St→Hp→Prop),Inv X pins σ H s→RelV v u→t v σ H Q→
  wpAny (model X.prog X.w) X.A (assign target X.env u) (fun _ s'=>∃σ' H',Inv X pins σ' H' s'∧Q σ' H') X.xe s
noncomputable def Vt (X:Cx) (ts:List Expr) (t:Xg):Prop:=
 ∀(pins:List (Addr × Obj)) (s:Shared) (σ:St) (H:Hp) (vs:List V) (us:List Value) (Q:St→Hp→Prop),Inv X pins σ H s→Vals vs us→t vs σ H Q→
  wpAny (model X.prog X.w) X.A (assignInOrder ((assignEach ts X.env).map (·.2)) us) (fun _ s'=>∃σ' H',Inv X pins σ' H' s'∧Q σ' H') X.xe s
noncomputable abbrev J8:=V→V→V→Hp→(Hp→Prop)→Prop
noncomputable def VD (X:Cx) (t:J8):Prop:=
 ∀(pins:List (Addr × Obj)) (s:Shared) (σ:St) (H:Hp) (o i v:V) (ov iv u:Value) (Q:Hp→Prop),Inv X pins σ H s→RelV o ov→RelV i iv→RelV v u→t o i v H Q→
  wpAny (model X.prog X.w) X.A (setItem ov iv u) (fun _ s'=>∃H',Inv X pins σ H' s'∧Q H') X.xe s
noncomputable abbrev WD:=V→V→Hp→VK→Prop
noncomputable def Hv (X:Cx) (op:Operator) (t:WD):Prop:=
 ∀(pins:List (Addr × Obj)) (s:Shared) (σ:St) (H:Hp) (x y:V) (v u:Value) (Q:VK),Inv X pins σ H s→RelV x v→RelV y u→t x y H Q→
  wpAny (model X.prog X.w) X.A (inplaceOp op v u) (EP X pins σ Q) X.xe s
section
variable {X:Cx} {pos:Pos}
noncomputable def cO (i:Nat):TG:=fun v σ H Q=>Q (σ.set i (some v)) H
theorem kh {i:Nat} {x:Str} (hN:X.N.Nodup) (hi:X.N[i]?=some x) (hx:Loc X.env.scope x) (hf:X.fn x=true∨X.env.scope.names.lookup x=some .local:=by first | exact .inl rfl | exact .inr rfl | assumption):PG X (.Name x pos) (cO i):=by
 intro pins s σ H v u Q I r h
 exact wpAny_assign_Name (bB I hN hi hx r (fun s' I'=>⟨_,H,I',h⟩) hf)
noncomputable def VE:Xg:=fun vs σ H Q=>vs=[]∧Q σ H
noncomputable def Z3 (t:TG) (u:Xg):Xg:=fun vs σ H Q=>∃v r,vs=v :: r∧t v σ H fun σ' H'=>u r σ' H' Q
theorem lC:Vt X [] VE:=by
 intro pins s σ H vs us Q I r h
 obtain⟨e,h⟩:=h
 subst e
 cases r
 exact assignInOrder_nil ⟨σ,H,I,h⟩
theorem yC {e:Expr} {es:List Expr} {t:TG} {u:Xg} (h1:PG X e t) (h2:Vt X es u)
  (hs:(assignEach (e :: es) X.env).map (·.2)=assign e X.env :: (assignEach es X.env).map (·.2):=by rfl):Vt X (e :: es) (Z3 t u):=by
 intro pins s σ H vs us Q I r h
 obtain⟨v,vr,e1,h⟩:=h
 subst e1
 cases r with
 | cons r rr=>
  rw[hs]
  refine assignInOrder_cons (jO (h1 pins s σ H _ _ _ I r h) fun _ s1 ⟨σ1,H1,I1,q1⟩=>?_)
  exact h2 pins s1 σ1 H1 _ _ Q I1 rr q1
noncomputable def KG (K:PySem.W.Frag) (n:Nat) (t:Xg):TG:=fun v σ H Q=>∃a xs,v=.ref a∧pD K H a xs∧xs.length=n∧t xs σ H Q
theorem K0 {es:List Expr} {k:Nat} {t:Xg} {n:Nat} (hc:X.calm=true) (h:Vt X es t)
  (hn:(assignEach es X.env).length=n:=by rfl) (hst:(assignEach es X.env).findIdx? (·.1)=none:=by rfl):PG X (.Tuple es k pos) (KG X.K n t):=by
 intro pins s σ H v u Q I r hw
 obtain⟨a,xs,e1,hq,hl,hw⟩:=hw
 subst e1
 cases r
 obtain⟨its,rv,ht,hz⟩:=I.tuple hq
 refine assign_Tuple_tuple (I.ok.hd hc) ht (by simp [hn,←hl,rv.length]) hst fun h' hx=>?_
 have I1:Inv X pins σ H { s with heap:=h' }:=I.kept (t':=s.toks) fun b o e=>hx b o (Nat.ne_of_lt (Heap.lt_size e)) e
 exact h pins _ σ H xs _ Q I1 (by simpa using rv) hw
noncomputable def Ym (to ti:TE) (t:J8):TG:=fun v σ H Q=>to σ H fun o H1=>ti σ H1 fun i H2=>t o i v H2 fun H3=>Q σ H3
theorem Qq {o i:Expr} {to ti:TE} {t:J8} (ho:PE X o to) (hi:PE X i ti) (hs:VD X t)
  (ha:∀v,assign (.Subscript o i pos) X.env v=(do
   let ov ←holding [v] (eval o X.env)
   let iv ←holding [v,ov] (eval i X.env)
   standAt pos
   holding [v,ov,iv] (setItem ov iv v)
   release [v,ov,iv] []):=by intro _;rfl):PG X (.Subscript o i pos) (Ym to ti t):=by
 intro pins s σ H v u Q I r h
 rw[ha]
 refine wpAny_bind (wpAny_holding (jO (ho pins s σ H _ I h) fun ov s1 ⟨x,H1,I1,r1,q1⟩=>?_))
 refine wpAny_bind (wpAny_holding (jO (hi pins s1 σ H1 _ I1 q1) fun iv s2 ⟨y,H2,I2,r2,q2⟩=>?_))
 refine wpAny_bind (wpAny_standAt (wpAny_bind (wpAny_holding (jO (hs pins s2 σ H2 x y v ov iv u _ I2 r1 r2 r q2) fun _ s3 ⟨H3,I3,q3⟩=>?_))))
 exact wpAny_release ⟨σ,H3,I3,q3⟩
noncomputable def Vm (te:TE) (g:TG):TS:=fun D σ H=>te σ H fun x H1=>g x σ H1 D.nx
theorem ZT {tg e:Expr} {te:TE} {g:TG} (he:PE X e te) (hg:PG X tg g) (hs:swapsWithSole [tg] e pos.line X.env=pure false:=by rfl) (hw:swappedStores [tg] e X.env=pure none:=by rfl)
  (h1:(assignEach [tg] X.env).map (·.2)=[assign tg X.env]:=by rfl):PS X (.Assign [tg] e pos) (Vm te g):=by
 intro pins s σ H D I h
 refine wpAny_Assign_stores (jO (he pins s σ H _ I h) fun v s1 ⟨x,H1,I1,r1,q1⟩=>?_) hs hw
 rw[h1]
 exact jO (hg pins s1 σ H1 x v _ I1 r1 q1) fun _ s2 q=>q
theorem qi {i:Nat} {x:Str} {e:Expr} {te:TE} {pos':Pos} (hN:X.N.Nodup) (hi:X.N[i]?=some x) (hx:Loc X.env.scope x) (he:PE X e te) (hs:swapsWith e (some (.Name x pos')) pos.line X.env=pure false:=by rfl) (hf:X.fn x=true∨X.env.scope.names.lookup x=some .local:=by first | exact .inl rfl | exact .inr rfl | assumption) :
  PS X (.Assign [.Name x pos'] e pos) (Vm te (cO i)):=by
 intro pins s σ H D I h
 refine wpAny_Assign_Name (jO (he pins s σ H _ I h) fun v s1 ⟨y,H1,I1,r1,q1⟩=>?_) hs
 exact bB I1 hN hi hx r1 (fun s2 I2=>⟨_,H1,I2,q1⟩) hf
noncomputable def Gi (i j:Nat) (ta:TA):TS:=fun D σ H=>ta σ H fun vs H1=>∃v w,vs=[v,w]∧D.nx ((σ.set i (some v)).set j (some w)) H1
noncomputable def G3 (i:Nat) (te:TE) (ti:WD):TS:=fun D σ H=>∃x,σ[i]?=some (some x)∧te σ H fun y H1=>ti x y H1 fun z H2=>D.nx (σ.set i (some z)) H2
noncomputable def Y5 (to ti te:TE) (tget:V→V→Hp→VK→Prop) (tip:WD) (tset:J8):TS:=fun D σ H=>to σ H fun o H1=>ti σ H1 fun i H2=>tget o i H2 fun x H3=>te σ H3 fun y H4=>tip x y H4 fun z H5=>tset o i z H5 fun H6=>D.nx σ H6
noncomputable def GN (X:Cx) (t:V→V→Hp→VK→Prop):Prop:=
 ∀(pins:List (Addr × Obj)) (s:Shared) (σ:St) (H:Hp) (o i:V) (ov iv:Value) (Q:VK),Inv X pins σ H s→RelV o ov→RelV i iv→t o i H Q→
  wpAny (model X.prog X.w) X.A (getItem ov iv) (EP X pins σ Q) X.xe s
noncomputable def Hk (f:Int→Int→Int):WD:=fun x y H Q=>∃i j,x=.int i∧y=.int j∧Q (.int (f i j)) H
end
section
variable {X:Cx} {pos:Pos}
noncomputable def Yo (c:TT) (tb:TS):TS:=fun D σ H=>∃W:Nat→St→Hp→Prop,(∃m,W m σ H)∧∀m σ H,W m σ H→
 c σ H fun b H1=>if b=true then ∃N:St→Hp→Prop,(∀σ' H',N σ' H'→∃m',m' < m∧W m' σ' H')∧tb { D with nx:=N,ct:=N,bk:=D.nx } σ H1 else D.nx σ H1
end
structure It where
 go:Nat→Hp→Prop
 Xb:Nat→Hp→V→Hp→Prop
 stop:Nat→Hp→Prop
noncomputable def yH (X:Cx) (pins:List (Addr × Obj)) (H:Hp) (b:Addr):Prop:=
 H b=none∧b≠X.env.locals∧b∉X.fs∧(b∈X.ex∨X.s₀.heap.objs.size≤b)∧(∀x c,X.env.cells.lookup x=some c→c≠b)∧∀p∈X.pn ++ pins,p.1≠b
theorem Inv.eB {X:Cx} {pins:List (Addr × Obj)} {σ:St} {H H':Hp} {s:Shared} {b:Addr} (I:Inv X pins σ H s) (hb:s.heap.objs.size≤b) (hn:H' b=none):yH X pins H' b:=by
 refine⟨hn,Nat.ne_of_gt (Nat.lt_of_lt_of_le I.lt hb),I.Ya hb,.inr (Nat.le_trans I.sz hb),fun x c e z=>?_,fun p hp z=>?_⟩
 ·obtain⟨v,q⟩:=I.cell x c e
  exact absurd (Nat.lt_of_lt_of_le q.lt (by rw[z];exact hb)) (Nat.lt_irrefl _)
 ·exact absurd (Nat.lt_of_lt_of_le (Heap.lt_size (I.pin p hp).1) (by rw[z];exact hb)) (Nat.lt_irrefl _)
structure Turn (P:Program) (w:World) (K:PySem.W.Frag) (tg:Expr) (J:It) (fp:List Addr) (it:Addr) (tn:Nat→Heap→Prop):Prop where
 mem:it∈fp
 obj:∀i h,tn i h→∀b∈fp,∃o,h.get? b=some o∧∀v,o.data≠.cell v
 keep:∀i h h',tn i h→(∀b∈fp,∀o,h.get? b=some o→h'.get? b=some o)→tn i h'
 item:∀(X:Cx),X.prog=P→X.w=w→X.K=K→X.calm=true→∀(i:Nat) (pins:List (Addr × Obj)) (s:Shared) (σ:St) (H:Hp) (E:Value→Shared→Prop),Inv X pins σ H s→(∀b∈fp,yH X pins H b)→tn i s.heap→J.go i H→
  wpAny (model P w) X.A (pyNext (.ref it)) (fun r s1=>∃u,r=some u∧
   wpAny (model P w) X.A (letOwnedTupleGo tg (.ref it) u) (fun _ s2=>∃x H',Inv X pins σ H' s2∧RelV x u∧J.Xb i H x H'∧tn (i + 1) s2.heap∧∀b∈fp,H' b=none) E s1) E s
 done:∀(X:Cx),X.prog=P→X.w=w→X.K=K→X.calm=true→∀(i:Nat) (pins:List (Addr × Obj)) (s:Shared) (σ:St) (H:Hp) (E:Value→Shared→Prop),Inv X pins σ H s→(∀b∈fp,yH X pins H b)→tn i s.heap→J.stop i H→
  wpAny (model P w) X.A (pyNext (.ref it)) (fun r s1=>r=none∧Inv X pins σ H s1) E s
 self:∀(A:Around) (i:Nat) (s:Shared) (Q:Value→Shared→Prop) (E:Value→Shared→Prop),tn i s.heap→Q (.ref it) s→wpAny (model P w) A (pyIter (.ref it)) Q E s
noncomputable abbrev TI:=St→Hp→(It→Hp→Prop)→Prop
noncomputable def Gx (X:Cx) (pins:List (Addr × Obj)) (σ:St) (tg:Expr) (R:It→Hp→Prop) (itv:Value) (s2:Shared):Prop:=
 ∃(it:Addr) (fp:List Addr) (tn:Nat→Heap→Prop) (J:It) (H':Hp),itv=.ref it∧Inv X pins σ H' s2∧Turn X.prog X.w X.K tg J fp it tn∧tn 0 s2.heap∧(∀b∈fp,yH X pins H' b)∧R J H'
noncomputable def PI (X:Cx) (tg iter:Expr) (wi:TI):Prop:=
 ∀(pins:List (Addr × Obj)) (s:Shared) (σ:St) (H:Hp) (R:It→Hp→Prop),Inv X pins σ H s→wi σ H R→
  wpAny (model X.prog X.w) X.A (eval iter X.env) (fun v s1=>wpAny (model X.prog X.w) X.A (pyIter v) (Gx X pins σ tg R) X.xe s1) X.xe s
theorem Qr {M:Model} {A:Around} {E:Value→Shared→Prop} {s:Shared} {tg:Expr} {it:Addr} {u:Value} {o:Obj} {n:String} {vs:Array Value} {Q:Unit→Shared→Prop} (ho:s.heap.get? it=some o) (hc:o.cls=.type n) (hd:o.data=.fields vs)
  (hn:["enumerate","zip","dict_itemiterator","dict_reverseitemiterator","odict_iterator","itertools.zip_longest","itertools.pairwise"].contains n=false) (hQ:Q () s):wpAny M A (letOwnedTupleGo tg (.ref it) u) Q E s:=by
 unfold letOwnedTupleGo
 cases tg<;>first
  | exact wpAny_pure hQ
  | (cases u<;>first
    | exact wpAny_pure hQ
    | (refine wpAny_bind (wpAny_load ho ?_);rw[hc,hd];show wpAny M A (if (["enumerate","zip","dict_itemiterator","dict_reverseitemiterator","odict_iterator","itertools.zip_longest","itertools.pairwise"].contains n && vs[0]? == some (rawInt _))=true then _ else _) Q E s;rw[if_neg (by intro h;rw[hn,Bool.false_and] at h;cases h)];exact wpAny_pure hQ))
noncomputable def Vo (K:PySem.W.Frag) (a:Addr):It:=
 ⟨fun i H=>∃xs x,q0 K H a xs∧xs[i]?=some x,fun i H x H'=>H'=H∧∀xs,q0 K H a xs→xs[i]?=some x,fun i H=>∃xs,q0 K H a xs∧xs.length≤i⟩
noncomputable def GU (K:PySem.W.Frag) (a:Addr):It:=
 ⟨fun i H=>∃xs x,pD K H a xs∧xs[i]?=some x,fun i H x H'=>H'=H∧∀xs,pD K H a xs→xs[i]?=some x,fun i H=>∃xs,pD K H a xs∧xs.length≤i⟩
noncomputable def XT (lo:Int) (n:Nat):It:=⟨fun i _=>i < n,fun i H x H'=>H'=H∧x=.int (lo + i),fun i _=>n≤i⟩
theorem ai {P:Program} {w:World} {K:PySem.W.Frag} {tg:Expr} (a it:Addr):Turn P w K tg (Vo K a) [it] it (fun i h=>h.IsListIter it a i) where
 mem:=by simp
 obj:=fun i h st b hb=>by
  have e:b=it:=by simpa using hb
  subst e
  obtain⟨o,e,c,d⟩:=st
  exact⟨o,e,fun v z=>by rw[d] at z;cases z⟩
 keep:=fun i h h' st k=>st.at fun o e=>k it (by simp) o e
 item:=by
  intro X hP hw hK hc i pins s σ H E I hf st hg
  subst hP hw hK
  obtain⟨xs,x,hq,hx⟩:=hg
  obtain⟨its,rv,p,hz⟩:=I.list hq
  obtain⟨u,hu,ru⟩:=rv.get hx
  obtain⟨f0,f1,f2,f3,f4,f5⟩:=hf it (by simp)
  refine wpAny_pyNext_list_item st p.isList (x:=u) (by simpa using hu) fun h' st' sb=>?_
  have I1:Inv X pins σ H { s with heap:=h' }:=I.turned (t':=s.toks) (fun b o hb e=>(sb.2 b hb).trans e) f0 f1 f3 f4 f5
  obtain⟨o,e,c,d⟩:=id st'
  exact⟨u,rfl,Qr (s:={ s with heap:=h' }) e c d (by decide) ⟨x,H,I1,ru,⟨rfl,fun ys hy=>by rw[I.uJ hy hq];exact hx⟩,st',fun b hb=>(hf b hb).1⟩⟩
 done:=by
  intro X hP hw hK hc i pins s σ H E I hf st hg
  subst hP hw hK
  obtain⟨xs,hq,hx⟩:=hg
  obtain⟨its,rv,p,hz⟩:=I.list hq
  obtain⟨f0,f1,f2,f3,f4,f5⟩:=hf it (by simp)
  have hl:=rv.length
  exact wpAny_pyNext_list_end (I.ok.hd hc) st p.isList (by simp;omega) fun h' eb=>⟨rfl,I.turned (t':=s.toks) (fun b o hb e=>eb b o hb e) f0 f1 f3 f4 f5⟩
 self:=fun _ _ _ _ _ st h=>wpAny_pyIter_listiter st h
theorem ig {P:Program} {w:World} {K:PySem.W.Frag} {tg:Expr} (it:Addr) (lo:Int) (n:Nat):Turn P w K tg (XT lo n) [it] it (fun i h=>IsRangeIter h it (lo + (i:Nat) * 1) ((n:Int) - (i:Nat)) 1) where
 mem:=by simp
 obj:=fun i h st b hb=>by
  have e:b=it:=by simpa using hb
  subst e
  exact⟨_,st,fun v z=>by
   have z':Data.fields _=Data.cell v:=z
   cases z'⟩
 keep:=fun i h h' st k=>k it (by simp) _ st
 item:=by
  intro X hP hw hK hc i pins s σ H E I hf st hg
  subst hP hw hK
  obtain⟨f0,f1,f2,f3,f4,f5⟩:=hf it (by simp)
  have W:=Walks.range (prog:=X.prog) (w:=X.w) (I.ok.hd hc) it lo 1 n
  refine W.item i s _ _ hg st fun v h' tk hv st' kk=>?_
  obtain⟨t,rfl⟩:=hv
  have I1:Inv X pins σ H { s with heap:=h',toks:=tk }:=I.turned (fun b o hb e=>kk b o (by simpa using hb) e) f0 f1 f3 f4 f5
  refine⟨_,rfl,Qr (s:={ s with heap:=h',toks:=tk }) (n:="range_iterator") st' rfl rfl (by decide) ⟨.int (lo + i),H,I1,⟨t,?_⟩,⟨rfl,rfl⟩,st',fun b hb=>(hf b hb).1⟩⟩
  rw[Int.mul_one]
 done:=by
  intro X hP hw hK hc i pins s σ H E I hf st hg
  subst hP hw hK
  obtain⟨f0,f1,f2,f3,f4,f5⟩:=hf it (by simp)
  exact wpAny_pyNext_range_end (I.ok.hd hc) st (by have:n≤i:=hg;omega) fun h' eb=>⟨rfl,I.turned (t':=s.toks) (fun b o hb e=>eb b o hb e) f0 f1 f3 f4 f5⟩
 self:=fun _ _ _ _ _ st h=>wpAny_pyIter_rangeiter st h
end L2
namespace L2
open PySem PySem.Spec PyProof.Rows
section
variable {X:Cx} {tg:Expr}
noncomputable def XG (K:PySem.W.Frag) (tl:TE):TI:=fun σ H R=>tl σ H fun x H1=>∃a,x=.ref a∧(∃xs,q0 K H1 a xs)∧R (Vo K a) H1
noncomputable def GI (K:PySem.W.Frag) (tl:TE):TI:=fun σ H R=>tl σ H fun x H1=>∃a,x=.ref a∧(∃xs,pD K H1 a xs)∧R (GU K a) H1
theorem Jb {l:Expr} {tl:TE} (hl:PE X l tl):PI X tg l (XG X.K tl):=by
 intro pins s σ H R I h
 refine jO (hl pins s σ H _ I h) fun v s1 ⟨x,H1,I1,r1,q1⟩=>?_
 obtain⟨a,e,⟨xs,hq⟩,q⟩:=q1
 subst e
 cases r1
 obtain⟨its,rv,p,hz⟩:=I1.list hq
 refine wpAny_pyIter_list p.isList ?_
 refine⟨s1.heap.objs.size,[s1.heap.objs.size],_,_,H1,rfl,I1.kept (t':=s1.toks) fun b o e=>Heap.get?_push_of_some _ e,ai a _,⟨_,Heap.get?_push_size _ rfl,rfl,rfl⟩,fun b hb=>?_,q⟩
 have e:b=s1.heap.objs.size:=by simpa using hb
 subst e
 exact I1.eB (Nat.le_refl _) (I1.jz.fresh (Nat.le_refl _))
theorem tf {pins:List (Addr × Obj)} {σ:St} {H:Hp} {s:Shared} {R:It→Hp→Prop} {E:Value→Shared→Prop} {lo hi:Int} {t u v:Tok} {tk:Nat} (I:Inv X pins σ H s) (h1:-(2 ^ 62)≤lo) (h2:lo < 2 ^ 62) (h3:-(2 ^ 62)≤hi) (h4:hi < 2 ^ 62)
  (q:R (XT lo (hi - lo).toNat) H):wpAny (model X.prog X.w) X.A (pyIter (.ref s.heap.objs.size)) (Gx X pins σ tg R) E { s with heap:=s.heap.push { cls:=.type "range",data:=.fields #[.int lo t,.int hi u,.int 1 v] },toks:=tk }:=by
 refine wpAny_pyIter_range (IsRange.new ..) (small_one h1 h2 h3 h4) ?_
 have I1:Inv X pins σ H { s with heap:=s.heap.push { cls:=.type "range",data:=.fields #[.int lo t,.int hi u,.int 1 v] },toks:=tk }:=I.kept fun b o e=>Heap.get?_push_of_some _ e
 refine⟨(s.heap.push { cls:=.type "range",data:=.fields #[.int lo t,.int hi u,.int 1 v] }).objs.size,[(s.heap.push { cls:=.type "range",data:=.fields #[.int lo t,.int hi u,.int 1 v] }).objs.size],_,_,H,rfl,
  I1.kept (t':=tk) fun b o e=>Heap.get?_push_of_some _ e,ig _ lo (hi - lo).toNat,?_,fun b hb=>?_,q⟩
 ·have e1:lo + ((0:Nat):Int) * 1=lo:=by simp
  have e2:(((hi - lo).toNat:Nat):Int) - ((0:Nat):Int)=Builtin.Range.rangeSize lo hi 1:=by rw[rangeSize_one];split<;>omega
  show IsRangeIter _ _ (lo + ((0:Nat):Int) * 1) ((((hi - lo).toNat:Nat):Int) - ((0:Nat):Int)) 1
  rw[e1,e2]
  exact Heap.get?_push_size _ rfl
 ·have e:b=(s.heap.push { cls:=.type "range",data:=.fields #[.int lo t,.int hi u,.int 1 v] }).objs.size:=by simpa using hb
  subst e
  exact I1.eB (Nat.le_refl _) (I1.jz.fresh (Nat.le_refl _))
noncomputable def VL (ta:TA):TI:=fun σ H R=>ta σ H fun vs H1=>∃j:Int,vs=[.int j]∧-(2 ^ 62)≤j∧j < 2 ^ 62∧R (XT 0 j.toNat) H1
noncomputable def Wq (ta:TA):TI:=fun σ H R=>ta σ H fun vs H1=>∃i j:Int,vs=[.int i,.int j]∧(-(2 ^ 62)≤i∧i < 2 ^ 62∧-(2 ^ 62)≤j∧j < 2 ^ 62)∧R (XT i (j - i).toNat) H1
theorem wF {a:Expr} {ta:TA} {p pos:Pos} (hg:Gl X "range") (hm:X.mg "range" = none) (ha:PA X [a] ta) (hs:starEach [a] X.env=[(false,eval a X.env)]:=by rfl):PI X tg (.Call (.Name "range" p) [a] [] pos) (VL ta):=by
 intro pins s σ H R I h
 refine Call_ (mS I hg hm boot_range (PyProof.Rows.callWith_type1 (jO (ha pos pins s σ H _ I h) fun us s1 ⟨vs,H1,I1,r1,q1⟩=>?_) hs rfl))
 obtain⟨j,e,q1,q2,q⟩:=q1
 subst e
 cases r1 with
 | cons r rr=>
  cases rr
  obtain⟨t,rfl⟩:=r
  exact call_range_1 (tf I1 (by omega) (by omega) q1 q2 (by simpa using q))
theorem aV {a b:Expr} {ta:TA} {p pos:Pos} (hg:Gl X "range") (hm:X.mg "range" = none) (ha:PA X [a,b] ta) (hs:starEach [a,b] X.env=[(false,eval a X.env),(false,eval b X.env)]:=by rfl) (hs2:starEach [b] X.env=[(false,eval b X.env)]:=by rfl) :
  PI X tg (.Call (.Name "range" p) [a,b] [] pos) (Wq ta):=by
 intro pins s σ H R I h
 refine Call_ (mS I hg hm boot_range (PyProof.Rows.callWith_type1 (jO (ha pos pins s σ H _ I h) fun us s1 ⟨vs,H1,I1,r1,q1⟩=>?_) (by rw[hs,hs2]) (by rw[hs2];rfl)))
 obtain⟨i,j,e,⟨q1,q2,q3,q4⟩,q⟩:=q1
 subst e
 cases r1 with
 | cons r rr=>
  cases rr with
  | cons r' rr=>
   cases rr
   obtain⟨t,rfl⟩:=r
   obtain⟨t',rfl⟩:=r'
   exact call_range_2 (tf I1 q1 q2 q3 q4 q)
noncomputable def WA (wi:TI) (g:TG) (tb:TS):TS:=fun D σ H=>wi σ H fun J H1=>∃W:Nat→Nat→St→Hp→Prop,(∃m,W 0 m σ H1)∧∀i m σ H,W i m σ H→
 (J.stop i H∧D.nx σ H)∨(J.go i H∧∃N:St→Hp→Prop,(∀σ' H',N σ' H'→∃m',m' < m∧W (i + 1) m' σ' H')∧∀x H',J.Xb i H x H'→g x σ H' fun σ2 H2=>tb { D with nx:=N,ct:=N,bk:=D.nx } σ2 H2)
noncomputable def cD (fp:List Addr) (h:Heap):List (Addr × Obj):=fp.filterMap fun b=>(h.get? b).map fun o=>(b,o)
theorem vG {fp:List Addr} {h:Heap} {b:Addr} {o:Obj} (hb:b∈fp) (e:h.get? b=some o):(b,o)∈cD fp h:=List.mem_filterMap.mpr ⟨b,hb,by rw[e];rfl⟩
theorem eO {fp:List Addr} {h:Heap} {p:Addr × Obj} (hp:p∈cD fp h):p.1∈fp∧h.get? p.1=some p.2:=by
 obtain⟨b,hb,e⟩:=List.mem_filterMap.mp hp
 cases q:h.get? b with
 | none=>rw[q] at e;cases e
 | some o=>
  rw[q] at e
  have e':(b,o)=p:=Option.some.inj e
  subst e'
  exact⟨hb,q⟩
theorem Inv.pinned {pins:List (Addr × Obj)} {σ:St} {H:Hp} {s:Shared} {fp:List Addr} (I:Inv X pins σ H s) (hf:∀b∈fp,yH X pins H b) (ho:∀b∈fp,∃o,s.heap.get? b=some o∧∀v,o.data≠.cell v):Inv X (pins ++ cD fp s.heap) σ H s:=
 I.sX fun p hp=>(List.mem_append.mp hp).elim (fun z=>I.pin p (List.mem_append_right _ z)) fun z=>by
  obtain⟨hb,e⟩:=eO z
  obtain⟨f0,f1,f2,_⟩:=hf p.1 hb
  obtain⟨o,e',d⟩:=ho p.1 hb
  rw[e] at e';cases e'
  exact⟨e,f0,f1,f2,d⟩
theorem Inv.wO {pins pl:List (Addr × Obj)} {σ:St} {H:Hp} {s:Shared} (I:Inv X (pins ++ pl) σ H s):Inv X pins σ H s:=I.sX fun p hp=>I.pin p (List.mem_append_right _ (List.mem_append_left _ hp))
theorem pN {iter:Expr} {body:List Stmt} {wi:TI} {g:TG} {tb:TS} {pos:Pos} (hp:PassesOwn (model X.prog X.w) X.A X.env X.xe) (hc:X.calm=true) (hi:PI X tg iter wi) (hg:PG X tg g) (hb:iy X body tb)
  (hs:∀x,foldedSetIterable iter X.env x=pure x:=by intro _;rfl):PS X (.For tg iter body [] pos) (WA wi g tb):=by
 intro pins s σ H D I h
 refine wpAny_For (jO (hi pins s σ H _ I h) fun v s1 h1=>jO h1 fun itv s2 h2=>?_) hs
 obtain⟨it,fp,tn,J,H2,e,I2,T,st2,f2,W,⟨m0,w0⟩,turn⟩:=h2
 subst e
 have stat:∀{H':Hp},(∀b∈fp,H' b=none)→∀b∈fp,yH X pins H' b:=fun hn b hb=>⟨hn b hb,(f2 b hb).2⟩
 refine codeAny_forLoop_any (fun n s'=>∃i σ' H',Inv X pins σ' H' s'∧tn i s'.heap∧(∀b∈fp,H' b=none)∧W i n σ' H') ?_ m0 ⟨0,σ,H2,I2,st2,fun b hb=>(f2 b hb).1,w0⟩
 rintro n s3 ⟨i,σ3,H3,I3,st3,fr3,w3⟩
 rcases turn i n σ3 H3 w3 with ⟨stop,qn⟩ | ⟨go,N,hN,step⟩
 ·refine wpAny_passesOwn hp (jO (T.done X rfl rfl rfl hc i pins s3 σ3 H3 X.xe I3 (stat fr3) st3 stop) fun r s4 ⟨hr,I4⟩=>?_)
  subst hr
  exact wpAny_execs_nil ⟨σ3,H3,I4,qn⟩
 ·refine wpAny_passesOwn hp (jO (T.item X rfl rfl rfl hc i pins s3 σ3 H3 X.xe I3 (stat fr3) st3 go) fun r s4 ⟨u,hr,h4⟩=>?_)
  subst hr
  refine wpAny_passesOwn hp (jO h4 fun _ s5 ⟨x,H5,I5,r5,y5,st5,fr5⟩=>?_)
  have I5':=I5.pinned (stat fr5) (T.obj _ _ st5)
  refine wpAny_passesOwn hp (jO (hg _ s5 σ3 H5 x u _ I5' r5 (step x H5 y5)) fun _ s6 ⟨σ6,H6,I6,q6⟩=>?_)
  refine wpAny_passesOwn hp (jO (hb _ s6 σ6 H6 _ I6 q6) fun f s7 q7=>?_)
  have again:∀{σ7:St} {H7:Hp},Inv X (pins ++ cD fp s5.heap) σ7 H7 s7→N σ7 H7→∃m,m < n∧∃i σ' H',Inv X pins σ' H' s7∧tn i s7.heap∧(∀b∈fp,H' b=none)∧W i m σ' H':=fun {σ7 H7} I7 n7=>by
   obtain⟨m',hm,w7⟩:=hN σ7 H7 n7
   refine⟨m',hm,i + 1,σ7,H7,I7.wO,T.keep _ _ _ st5 fun b hb o e=>(I7.pin (b,o) (List.mem_append_right _ (List.mem_append_right _ (vG hb e)))).1,fun b hb=>?_,w7⟩
   obtain⟨o,e,d⟩:=T.obj _ _ st5 b hb
   exact(I7.pin (b,o) (List.mem_append_right _ (List.mem_append_right _ (vG hb e)))).2.1
  cases f with
  | next=>obtain⟨σ7,H7,I7,n7⟩:=q7;exact again I7 n7
  | cont=>obtain⟨σ7,H7,I7,n7⟩:=q7;exact again I7 n7
  | brk=>obtain⟨σ7,H7,I7,q7⟩:=q7;exact⟨σ7,H7,I7.wO,q7⟩
  | ret v=>obtain⟨x7,σ7,H7,I7,r7,q7⟩:=q7;exact⟨x7,σ7,H7,I7.wO,r7,q7⟩
end
theorem cU {K:PySem.W.Frag} {a:Addr} {xs:List V} {g:TG} {tb:TS} {D:Ends} {σ:St} {H:Hp} (Pv:Nat→St→Hp→Prop) (h0:Pv 0 σ H) (hl:∀i σ H,i≤xs.length→Pv i σ H→q0 K H a xs)
  (hs:∀i x σ H,xs[i]?=some x→Pv i σ H→g x σ H fun σ2 H2=>tb { D with nx:=Pv (i + 1),ct:=Pv (i + 1),bk:=D.nx } σ2 H2) (hd:∀σ H,Pv xs.length σ H→D.nx σ H) :
  ∃W:Nat→Nat→St→Hp→Prop,(∃m,W 0 m σ H)∧∀i m σ H,W i m σ H→
   ((Vo K a).stop i H∧D.nx σ H)∨((Vo K a).go i H∧∃N:St→Hp→Prop,(∀σ' H',N σ' H'→∃m',m' < m∧W (i + 1) m' σ' H')∧∀x H',(Vo K a).Xb i H x H'→g x σ H' fun σ2 H2=>tb { D with nx:=N,ct:=N,bk:=D.nx } σ2 H2):=by
 refine⟨fun i m σ H=>m=xs.length - i∧i≤xs.length∧Pv i σ H,⟨xs.length,by simp,Nat.zero_le _,h0⟩,?_⟩
 rintro i m σ H ⟨rfl,hi,p⟩
 have q:=hl i σ H hi p
 by_cases hlt:i < xs.length
 ·refine .inr ⟨⟨xs,xs[i],q,by simp [hlt]⟩,Pv (i + 1),fun σ' H' p'=>⟨xs.length - (i + 1),by omega,rfl,hlt,p'⟩,fun x H' y=>?_⟩
  obtain⟨e,y⟩:=y
  subst e
  exact hs i x σ _ (y xs q) p
 ·have e:i=xs.length:=by omega
  subst e
  exact .inl ⟨⟨xs,q,Nat.le_refl _⟩,hd σ H p⟩
theorem pk {lo:Int} {n:Nat} {g:TG} {tb:TS} {D:Ends} {σ:St} {H:Hp} (Pv:Nat→St→Hp→Prop) (h0:Pv 0 σ H)
  (hs:∀i σ H,i < n→Pv i σ H→g (.int (lo + i)) σ H fun σ2 H2=>tb { D with nx:=Pv (i + 1),ct:=Pv (i + 1),bk:=D.nx } σ2 H2) (hd:∀σ H,Pv n σ H→D.nx σ H) :
  ∃W:Nat→Nat→St→Hp→Prop,(∃m,W 0 m σ H)∧∀i m σ H,W i m σ H→
   ((XT lo n).stop i H∧D.nx σ H)∨((XT lo n).go i H∧∃N:St→Hp→Prop,(∀σ' H',N σ' H'→∃m',m' < m∧W (i + 1) m' σ' H')∧∀x H',(XT lo n).Xb i H x H'→g x σ H' fun σ2 H2=>tb { D with nx:=N,ct:=N,bk:=D.nx } σ2 H2):=by
 refine⟨fun i m σ H=>m=n - i∧i≤n∧Pv i σ H,⟨n,by simp,Nat.zero_le _,h0⟩,?_⟩
 rintro i m σ H ⟨rfl,hi,p⟩
 by_cases hlt:i < n
 ·refine .inr ⟨hlt,Pv (i + 1),fun σ' H' p'=>⟨n - (i + 1),by omega,rfl,hlt,p'⟩,fun x H' y=>?_⟩
  obtain⟨e,y⟩:=y
  subst e y
  exact hs i σ _ hlt p
 ·have e:i=n:=by omega
  subst e
  exact .inl ⟨Nat.le_refl _,hd σ H p⟩
end L2
namespace L2
open PySem PySem.Spec PyProof.Rows
noncomputable abbrev R2:=V→V→Hp→VK→Prop
noncomputable def bG (X:Cx) (f:Value→Value→Sem Value) (r:R2):Prop:=
 ∀(pins:List (Addr × Obj)) (s:Shared) (σ:St) (H:Hp) (x y:V) (v u:Value) (Q:VK),Inv X pins σ H s→RelV x v→RelV y u→r x y H Q→
  wpAny (model X.prog X.w) X.A (f v u) (EP X pins σ Q) X.xe s
noncomputable def YC (X:Cx) (f:Value→Sem Value) (r:V→Hp→VK→Prop):Prop:=
 ∀(pins:List (Addr × Obj)) (s:Shared) (σ:St) (H:Hp) (x:V) (v:Value) (Q:VK),Inv X pins σ H s→RelV x v→r x H Q→
  wpAny (model X.prog X.w) X.A (f v) (EP X pins σ Q) X.xe s
noncomputable def kD (X:Cx) (f:Value) (r:List V→Hp→VK→Prop):Prop:=
 ∀(pins:List (Addr × Obj)) (s:Shared) (σ:St) (H:Hp) (xs:List V) (us:List Value) (Q:VK),Inv X pins σ H s→Vals xs us→r xs H Q→
  wpAny (model X.prog X.w) X.A (call f us) (EP X pins σ Q) X.xe s
noncomputable def GP (X:Cx) (r:V→Hp→(Bool→Hp→Prop)→Prop):Prop:=
 ∀(pins:List (Addr × Obj)) (s:Shared) (σ:St) (H:Hp) (x:V) (v:Value) (Q:Bool→Hp→Prop),Inv X pins σ H s→RelV x v→r x H Q→
  wpAny (model X.prog X.w) X.A (truthy v) (TP X pins σ Q) X.xe s
noncomputable def WV (r:R2) (ta tb:TE):TE:=fun σ H Q=>ta σ H fun x H1=>tb σ H1 fun y H2=>r x y H2 Q
noncomputable def GB (r:V→Hp→VK→Prop) (ta:TE):TE:=fun σ H Q=>ta σ H fun x H1=>r x H1 Q
noncomputable def rI (C:Int→Int→Prop) (g:Int→Int→V):R2:=fun x y H Q=>∃i j,x=.int i∧y=.int j∧C i j∧Q (g i j) H
noncomputable def KA (g:Int→Int→V):R2:=fun x y H Q=>∃i j,x=.int i∧y=.int j∧Q (g i j) H
noncomputable def rU (g:Int→V):V→Hp→VK→Prop:=fun x H Q=>∃i,x=.int i∧Q (g i) H
section
variable {X:Cx} {a b c:Expr} {ta tb tc:TE} {pos:Pos}
theorem Kh (ha:PE X a ta) (hb:PE X b tb) {pins:List (Addr × Obj)} {s:Shared} {σ:St} {H:Hp} {R:V→V→Hp→Prop} (I:Inv X pins σ H s)
  (h:ta σ H fun x H1=>tb σ H1 fun y H2=>R x y H2) {Q:Value→Shared→Prop} {f:Value→Value→Sem Value}
  (hf:∀v u s2 x y H2,Inv X pins σ H2 s2→RelV x v→RelV y u→R x y H2→wpAny (model X.prog X.w) X.A (f v u) Q X.xe s2) :
  wpAny (model X.prog X.w) X.A (eval a X.env) (fun v s₁=>wpAny (model X.prog X.w) X.A (eval b X.env) (fun u s₂=>wpAny (model X.prog X.w) X.A (f v u) Q X.xe s₂) X.xe s₁) X.xe s:=by
 refine jO (ha pins s σ H _ I h) fun v s1 ⟨x,H1,I1,r1,q1⟩=>?_
 refine jO (hb pins s1 σ H1 _ I1 q1) fun u s2 ⟨y,H2,I2,r2,q2⟩=>?_
 exact hf v u s2 x y H2 I2 r1 r2 q2
theorem qk {op:Operator} {r:R2} (ho:bG X (binaryOp op) r) (ha:PE X a ta) (hb:PE X b tb):PE X (.BinOp a op b pos) (WV r ta tb):=by
 intro pins s σ H Q I h
 exact wpAny_BinOp (Kh ha hb I h fun v u s2 x y H2 I2 rx ry q=>ho pins s2 σ H2 x y v u Q I2 rx ry q)
theorem XM {op:UnaryOp} {r:V→Hp→VK→Prop} (ho:YC X (unaryOp op) r) (ha:PE X a ta):PE X (.UnaryOp op a pos) (GB r ta):=by
 intro pins s σ H Q I h
 exact UnaryOp_ (jO (ha pins s σ H _ I h) fun v s1 ⟨x,H1,I1,r1,q1⟩=>ho pins s1 σ H1 x v Q I1 r1 q1)
theorem WU {f:Value→Value→Sem Value} {C:Int→Int→Prop} {g:Int→Int→Int}
  (rule:∀(i j:Int) (t u:Tok) (s:Shared) (Q:Value→Shared→Prop) (E:Value→Shared→Prop),C i j→Q (.int (g i j) s.toks) { s with toks:=s.toks + 1 }→wpAny (model X.prog X.w) X.A (f (.int i t) (.int j u)) Q E s) :
  bG X f (rI C fun i j=>.int (g i j)):=by
 intro pins s σ H x y v u Q I rx ry h
 obtain⟨i,j,rfl,rfl,hc,q⟩:=h
 obtain⟨t,rfl⟩:=rx
 obtain⟨t',rfl⟩:=ry
 exact rule i j t t' s _ _ hc ⟨.int (g i j),H,I.tok _,⟨_,rfl⟩,q⟩
theorem VF {f:Value→Value→Sem Value} {g:Int→Int→Int}
  (rule:∀(i j:Int) (t u:Tok) (s:Shared) (Q:Value→Shared→Prop) (E:Value→Shared→Prop),Q (.int (g i j) s.toks) { s with toks:=s.toks + 1 }→wpAny (model X.prog X.w) X.A (f (.int i t) (.int j u)) Q E s) :
  bG X f (KA fun i j=>.int (g i j)):=by
 intro pins s σ H x y v u Q I rx ry h
 obtain⟨i,j,rfl,rfl,q⟩:=h
 obtain⟨t,rfl⟩:=rx
 obtain⟨t',rfl⟩:=ry
 exact rule i j t t' s _ _ ⟨.int (g i j),H,I.tok _,⟨_,rfl⟩,q⟩
theorem Kd {f:Value→Value→Sem Value} {g:Int→Int→Bool}
  (rule:∀(i j:Int) (t u:Tok) (s:Shared) (Q:Value→Shared→Prop) (E:Value→Shared→Prop),Q (.bool (g i j)) s→wpAny (model X.prog X.w) X.A (f (.int i t) (.int j u)) Q E s) :
  bG X f (KA fun i j=>.bl (g i j)):=by
 intro pins s σ H x y v u Q I rx ry h
 obtain⟨i,j,rfl,rfl,q⟩:=h
 obtain⟨t,rfl⟩:=rx
 obtain⟨t',rfl⟩:=ry
 exact rule i j t t' s _ _ ⟨.bl (g i j),H,I,rfl,q⟩
noncomputable def Yf (i j:Int):Prop:=0 < j∧j < 1073741824
noncomputable def Gg (i j:Int):Prop:=j≠0∧j.natAbs < 1073741824
noncomputable def Yv (i j:Int):Prop:=0≤j∧j≤1000000∧i.natAbs < 2 ^ 64
noncomputable def Vk (i j:Int):Prop:=(-(2 ^ 64) < i∧i < 2 ^ 64)∨(-(2 ^ 64) < j∧j < 2 ^ 64)
theorem Vk.ok {i j:Int} (h:Vk i j):IntMulOk i j:=by
 rcases h with ⟨h1,h2⟩ | ⟨h1,h2⟩
 ·exact .of_left (intBits_le_64 h1 h2)
 ·exact .of_right (intBits_le_64 h1 h2)
theorem jI:bG X (binaryOp .Add) (KA fun i j=>.int (i + j)):=VF fun _ _ _ _ _ _ _ q=>add_int q
theorem fz:bG X (binaryOp .Sub) (KA fun i j=>.int (i - j)):=VF fun _ _ _ _ _ _ _ q=>sub_int q
theorem d9:bG X (binaryOp .Mult) (rI Vk fun i j=>.int (i * j)):=WU fun _ _ _ _ _ _ _ hc q=>mul_int q hc.ok
theorem kY:bG X (binaryOp .FloorDiv) (rI Yf fun i j=>.int (i / j)):=WU fun i j _ _ _ _ _ hc q=>by
 have h1:(0:Int) < j:=hc.1
 have h2:j < 1073741824:=hc.2
 exact floordiv_int (by omega) (by rw[Int.fdiv_eq_ediv_of_nonneg i (by omega)];exact q) (.inl (PyProof.noPylong_small (by omega)))
theorem qE:bG X (binaryOp .Mod) (rI (fun _ j=>0 < j) fun i j=>.int (i % j)):=WU fun i j _ _ _ _ _ hc q=>by
 have h1:(0:Int) < j:=hc
 exact mod_int' (by omega) (by rw[Int.fmod_eq_emod_of_nonneg i (by omega)];exact q)
theorem Kp:bG X (binaryOp .Pow) (rI Yv fun i j=>.int (i ^ j.toNat)):=WU fun _ _ _ _ _ _ _ hc q=>pow_int_small hc.1 hc.2.1 hc.2.2 q
theorem G4 {f:Value→Sem Value} {g:Int→Int}
  (rule:∀(i:Int) (t:Tok) (s:Shared) (Q:Value→Shared→Prop) (E:Value→Shared→Prop),Q (.int (g i) s.toks) { s with toks:=s.toks + 1 }→wpAny (model X.prog X.w) X.A (f (.int i t)) Q E s) :
  YC X f (rU fun i=>.int (g i)):=by
 intro pins s σ H x v Q I rx h
 obtain⟨i,rfl,q⟩:=h
 obtain⟨t,rfl⟩:=rx
 exact rule i t s _ _ ⟨.int (g i),H,I.tok _,⟨_,rfl⟩,q⟩
theorem QZ:YC X (unaryOp .USub) (rU fun i=>.int (-i)):=G4 fun _ _ _ _ _ q=>neg_int q
end
noncomputable def KD:V→V→Bool
 | .non,.non=>true | .non,.int _=>true | .int _,.non=>true | .non,.bl _=>true | .bl _,.non=>true | .non,.str _=>true | .str _,.non=>true
 | .int _,.int _=>true | .bl _,.bl _=>true | .str _,.str _=>true | .byt _,.byt _=>true
 | .int _,.str _=>true | .str _,.int _=>true | .bl _,.str _=>true | .str _,.bl _=>true
 | _,_=>false
noncomputable def GR:R2:=fun x y H Q=>KD x y=true∧Q (.bl (decide (x=y))) H
noncomputable def GW:R2:=fun x y H Q=>KD x y=true∧Q (.bl (!decide (x=y))) H
theorem eu {i j:Int}:decide (V.int i=V.int j)=(i == j):=by
 rw[Bool.eq_iff_iff]
 simp
theorem Qt {i j:Bool}:decide (V.bl i=V.bl j)=(i == j):=by
 rw[Bool.eq_iff_iff]
 simp
theorem eg {i j:Str}:decide (V.str i=V.str j)=(i == j):=by
 rw[Bool.eq_iff_iff]
 simp
theorem iG {i j:Array UInt8}:decide (V.byt i=V.byt j)=(i.toList == j.toList):=by
 rw[Bool.eq_iff_iff]
 cases i
 cases j
 simp
section
variable {X:Cx} {a b c:Expr} {ta tb tc:TE} {pos:Pos}
theorem jj {pins:List (Addr × Obj)} {σ:St} {H:Hp} {s:Shared} {Q:VK} {k k':Bool} (I:Inv X pins σ H s) (q:Q (.bl k) H) (e:k=k'):EP X pins σ Q (.bool k') s:=by
 subst e
 exact⟨.bl k,H,I,rfl,q⟩
theorem jh:bG X (compareOp .Eq) GR:=by
 intro pins s σ H x y v u Q I rx ry h
 obtain⟨hs,q⟩:=h
 cases x with
 | non=>
  cases rx
  cases y with
  | non=>cases ry;exact PySem.EqNone.eq_none_none (jj I q (by simp))
  | bl j=>cases ry;exact PySem.EqNone.eq_none_bool (jj I q (by simp))
  | int j=>obtain⟨t',rfl⟩:=ry;exact PySem.EqNone.eq_none_int (jj I q (by simp))
  | str j=>obtain⟨t',rfl⟩:=ry;exact PySem.EqNone.eq_none_str (jj I q (by simp))
  | _=>exact absurd (show false=true from hs) Bool.false_ne_true
 | bl i=>
  cases rx
  cases y with
  | non=>cases ry;exact PySem.EqNone.eq_bool_none (jj I q (by simp))
  | bl j=>cases ry;exact eq_bool (jj I q Qt)
  | str j=>obtain⟨t',rfl⟩:=ry;exact PySem.EqMixed.eq_bool_str (jj I q (by simp))
  | _=>exact absurd (show false=true from hs) Bool.false_ne_true
 | int i=>
  obtain⟨t,rfl⟩:=rx
  cases y with
  | non=>cases ry;exact PySem.EqNone.eq_int_none (jj I q (by simp))
  | int j=>obtain⟨t',rfl⟩:=ry;exact eq_int (jj I q eu)
  | str j=>obtain⟨t',rfl⟩:=ry;exact PySem.EqMixed.eq_int_str (jj I q (by simp))
  | _=>exact absurd (show false=true from hs) Bool.false_ne_true
 | str i=>
  obtain⟨t,rfl⟩:=rx
  cases y with
  | non=>cases ry;exact PySem.EqNone.eq_str_none (jj I q (by simp))
  | bl j=>cases ry;exact PySem.EqMixed.eq_str_bool (jj I q (by simp))
  | int j=>obtain⟨t',rfl⟩:=ry;exact PySem.EqMixed.eq_str_int (jj I q (by simp))
  | str j=>obtain⟨t',rfl⟩:=ry;exact eq_str (jj I q eg)
  | _=>exact absurd (show false=true from hs) Bool.false_ne_true
 | byt i=>
  obtain⟨t,rfl⟩:=rx
  cases y with
  | byt j=>obtain⟨t',rfl⟩:=ry;exact PySem.W.eq_bytes (jj I q iG)
  | _=>exact absurd (show false=true from hs) Bool.false_ne_true
 | _=>cases y<;>exact absurd (show false=true from hs) Bool.false_ne_true
theorem m6:bG X (compareOp .NotEq) GW:=by
 intro pins s σ H x y v u Q I rx ry h
 obtain⟨hs,q⟩:=h
 cases x with
 | non=>
  cases rx
  cases y with
  | non=>cases ry;exact PySem.EqNone.ne_none_none (jj I q (by simp))
  | bl j=>cases ry;exact PySem.EqNone.ne_none_bool (jj I q (by simp))
  | int j=>obtain⟨t',rfl⟩:=ry;exact PySem.EqNone.ne_none_int (jj I q (by simp))
  | str j=>obtain⟨t',rfl⟩:=ry;exact PySem.EqNone.ne_none_str (jj I q (by simp))
  | _=>exact absurd (show false=true from hs) Bool.false_ne_true
 | bl i=>
  cases rx
  cases y with
  | non=>cases ry;exact PySem.EqNone.ne_bool_none (jj I q (by simp))
  | bl j=>cases ry;exact ne_bool (jj I q (congrArg not Qt))
  | str j=>obtain⟨t',rfl⟩:=ry;exact PySem.EqMixed.ne_bool_str (jj I q (by simp))
  | _=>exact absurd (show false=true from hs) Bool.false_ne_true
 | int i=>
  obtain⟨t,rfl⟩:=rx
  cases y with
  | non=>cases ry;exact PySem.EqNone.ne_int_none (jj I q (by simp))
  | int j=>obtain⟨t',rfl⟩:=ry;exact ne_int (jj I q (congrArg not eu))
  | str j=>obtain⟨t',rfl⟩:=ry;exact PySem.EqMixed.ne_int_str (jj I q (by simp))
  | _=>exact absurd (show false=true from hs) Bool.false_ne_true
 | str i=>
  obtain⟨t,rfl⟩:=rx
  cases y with
  | non=>cases ry;exact PySem.EqNone.ne_str_none (jj I q (by simp))
  | bl j=>cases ry;exact PySem.EqMixed.ne_str_bool (jj I q (by simp))
  | int j=>obtain⟨t',rfl⟩:=ry;exact PySem.EqMixed.ne_str_int (jj I q (by simp))
  | str j=>obtain⟨t',rfl⟩:=ry;exact ne_str (jj I q (congrArg not eg))
  | _=>exact absurd (show false=true from hs) Bool.false_ne_true
 | byt i=>
  obtain⟨t,rfl⟩:=rx
  cases y with
  | byt j=>obtain⟨t',rfl⟩:=ry;exact PySem.W.ne_bytes (jj I q (congrArg not iG))
  | _=>exact absurd (show false=true from hs) Bool.false_ne_true
 | _=>cases y<;>exact absurd (show false=true from hs) Bool.false_ne_true
theorem cT:bG X (compareOp .Lt) (KA fun i j=>.bl (decide (i < j))):=Kd fun _ _ _ _ _ _ _ q=>lt_int q
theorem Xm:bG X (compareOp .LtE) (KA fun i j=>.bl (decide (i≤j))):=Kd fun _ _ _ _ _ _ _ q=>le_int q
theorem uz:bG X (compareOp .Gt) (KA fun i j=>.bl (decide (j < i))):=Kd fun _ _ _ _ _ _ _ q=>gt_int q
theorem aX:bG X (compareOp .In) (fun x y H Q=>∃i j,x=.str i∧y=.str j∧Q (.bl (!(Builtin.Str.occurrences j i 0 j.length 1).isEmpty)) H):=by
 intro pins s σ H x y v u Q I rx ry h
 obtain⟨i,j,rfl,rfl,q⟩:=h
 obtain⟨t,rfl⟩:=rx
 obtain⟨t',rfl⟩:=ry
 exact in_str (jj I q rfl)
theorem nN:bG X (compareOp .Is) (fun x y H Q=>y=.non∧Q (.bl (decide (x=.non))) H):=by
 intro pins s σ H x y v u Q I rx ry h
 obtain⟨rfl,q⟩:=h
 cases ry
 refine is_none_gen (jj I q ?_)
 cases x<;>first
  | (cases rx;rfl)
  | (obtain⟨t,rfl⟩:=rx;rfl)
theorem dA:bG X (compareOp .IsNot) (fun x y H Q=>y=.non∧Q (.bl (!decide (x=.non))) H):=by
 intro pins s σ H x y v u Q I rx ry h
 obtain⟨rfl,q⟩:=h
 cases ry
 refine isnot_none_gen (jj I q ?_)
 cases x<;>first
  | (cases rx;rfl)
  | (obtain⟨t,rfl⟩:=rx;rfl)
noncomputable def isObj:HO→Bool
 | .lst _=>true
 | .ins _ _ _=>true
 | _=>false
theorem qr (b:Expr) {op:CmpOp} (h:op≠.In:=by decide) (h2:op≠.NotIn:=by decide):behindInMarks op b=false:=by
 have e1:(op == CmpOp.In)=false:=by cases op<;>first | rfl | exact absurd rfl h
 have e2:(op == CmpOp.NotIn)=false:=by cases op<;>first | rfl | exact absurd rfl h2
 cases b<;>simp [behindInMarks,e1,e2]
theorem kg {op:CmpOp} {r:R2} (ho:bG X (compareOp op) r) (ha:PE X a ta) (hb:PE X b tb) (hm:behindInMarks op b=false):PE X (.Compare a [op] [b] pos) (WV r ta tb):=by
 intro pins s σ H Q I h
 exact wpAny_Compare1 (Kh ha hb I h fun v u s2 x y H2 I2 rx ry q=>ho pins s2 σ H2 x y v u Q I2 rx ry q) hm
noncomputable def VA (t:TE):TT:=fun σ H Q=>t σ H fun x H'=>∃k,x=.bl k∧Q k H'
theorem qp {op:CmpOp} {r:R2} (ho:bG X (compareOp op) r) (ha:PE X a ta) (hb:PE X b tb) (hm:behindInMarks op b=false):PT X (.Compare a [op] [b] pos) (VA (WV r ta tb)):=by
 intro pins s σ H Q I h
 refine wpAny_isTrue_Compare1 (jO (ha pins s σ H _ I h) fun v s1 ⟨x,H1,I1,r1,q1⟩=>jO (hb pins s1 σ H1 _ I1 q1) fun u s2 ⟨y,H2,I2,r2,q2⟩=>
  jO (ho pins s2 σ H2 x y v u _ I2 r1 r2 q2) fun c s3 ⟨z,H3,I3,r3,k,e,q3⟩=>?_) hm
 subst e
 cases r3
 exact wpAny_truthy_bool ⟨H3,I3,q3⟩
noncomputable def XE (r r':R2) (ta tb tc:TE):TE:=fun σ H Q=>ta σ H fun x H1=>tb σ H1 fun y H2=>r x y H2 fun z H3=>∃k,z=.bl k∧
 (if k=true then tc σ H3 fun w' H4=>r' y w' H4 Q else Q (.bl false) H3)
theorem ZG {op op':CmpOp} {r r':R2} (ho:bG X (compareOp op) r) (ho':bG X (compareOp op') r') (ha:PE X a ta) (hb:PE X b tb) (hc:PE X c tc)
  (hm:lastMarks [op,op'] [b,c]=false:=by with_unfolding_all rfl):PE X (.Compare a [op,op'] [b,c] pos) (XE r r' ta tb tc):=by
 intro pins s σ H Q I h
 refine Compare_chain (jO (ha pins s σ H _ I h) fun v s1 ⟨x,H1,I1,r1,q1⟩=>chain_link (jO (hb pins s1 σ H1 _ I1 q1) fun u s2 ⟨y,H2,I2,r2,q2⟩=>
  jO (ho pins s2 σ H2 x y v u _ I2 r1 r2 q2) fun d s3 ⟨z,H3,I3,r3,k,e,q3⟩=>?_)) hm
 subst e
 cases r3
 refine wpAny_truthy_bool ?_
 cases k with
 | false=>exact ite_ff ⟨.bl false,H3,I3,rfl,q3⟩
 | true=>exact ite_tt (chain_last (jO (hc pins s3 σ H3 _ I3 q3) fun w' s4 ⟨z',H4,I4,r4,q4⟩=>ho' pins s4 σ H4 y z' u w' Q I4 r2 r4 q4))
noncomputable def GD (K:PySem.W.Frag) (x:V) (H:Hp) (k:Bool):Prop:=
 match x with
 | .non=>k=false
 | .bl b=>k=b
 | .int i=>k=(i != 0)
 | .str y=>y.length≤sizeLine∧k=((y.length:Int) != 0)
 | .byt y=>y.size≤sizeLine∧k=((y.size:Int) != 0)
 | .ref p=>(∃xs,q0 K H p xs∧k = !xs.isEmpty)∨(∃xs,pD K H p xs∧k = !xs.isEmpty)∨∃kvs,H p=some (.dK kvs)∧k = !kvs.isEmpty
 | _=>False
theorem cC:(sizeLine:Nat) < 2 ^ 63:=by rw[sizeLine_eq];decide
theorem ql:bG X (binaryOp .Add) (fun x y H Q=>∃i j,x=.str i∧y=.str j∧i.length + j.length≤sizeLine∧Q (.str (i ++ j)) H):=by
 intro pins s σ H x y v u Q I rx ry h
 obtain⟨i,j,rfl,rfl,hz,q⟩:=h
 obtain⟨t,rfl⟩:=rx
 obtain⟨t',rfl⟩:=ry
 exact add_str (fun t' tk=>⟨.str (i ++ j),H,I.tok _,⟨_,rfl⟩,q⟩) hz
noncomputable def Wy (b:Expr):Prop:=∀o i,subscripted b false o i=operate [o,i] (getItem o i)
theorem vals1 {x:V} {us:List Value} (r:Vals [x] us):∃u,us=[u]∧RelV x u:=by
 cases r with
 | cons r1 r2=>cases r2;exact⟨_,rfl,r1⟩
theorem vals2 {x y:V} {us:List Value} (r:Vals [x,y] us):∃u w',us=[u,w']∧RelV x u∧RelV y w':=by
 cases r with
 | cons r1 r2=>
  cases r2 with
  | cons r3 r4=>cases r4;exact⟨_,_,rfl,r1,r3⟩
theorem wG:kD X (.type "int") (fun xs H Q=>(∃i,xs=[.int i]∧Q (.int i) H)∨∃k,xs=[.bl k]∧Q (.int (if k then 1 else 0)) H):=by
 intro pins s σ H xs us Q I r h
 rcases h with ⟨i,rfl,q⟩ | ⟨k,rfl,q⟩
 ·obtain⟨u,rfl,t,rfl⟩:=vals1 r
  exact call_int_int ⟨.int i,H,I,⟨_,rfl⟩,q⟩
 ·obtain⟨u,rfl,r1⟩:=vals1 r
  cases r1
  exact call_int_bool ⟨.int (if k then 1 else 0),H,I.tok _,⟨_,rfl⟩,q⟩
theorem sq:kD X (.type "str") (fun xs H Q=>∃i,xs=[.int i]∧i.natAbs.log2 < 1920∧Q (.str (toString i)) H):=by
 intro pins s σ H xs us Q I r h
 obtain⟨i,rfl,hz,q⟩:=h
 obtain⟨u,rfl,t,rfl⟩:=vals1 r
 exact PySem.P.str_of_int hz ⟨.str _,H,I.tok _,⟨_,rfl⟩,q⟩
noncomputable def GS (K:PySem.W.Frag) (x:V) (H:Hp) (n:Nat):Prop:=
 match x with
 | .str y=>y.length≤sizeLine∧n=y.length
 | .byt y=>y.size≤sizeLine∧n=y.size
 | .ref p=>(∃xs,q0 K H p xs∧n=xs.length)∨∃xs,pD K H p xs∧n=xs.length
 | _=>False
end
end L2
namespace L2
open PySem PySem.Spec PyProof.Rows
structure oW (h:Heap) (x dx C:Addr) (mA:Str→Option Value):Prop where
 obj:h.get? x=some (PySem.W.instObj C dx)
 ns:h.Ns1 dx mA
 ne:dx≠x
theorem mH {h:Heap} {dx:Addr} {mA:Str→Option Value} (n:h.Ns1 dx mA):∃od,h.get? dx=some od∧∀name,PySem.W.lookIn name od=some (mA name):=by
 obtain⟨o,es,ep,ho,hd,hk,_,hm⟩:=n
 refine⟨o,ho,fun name=>?_⟩
 have e:=hm name
 unfold nsFind findBy at e
 rw[←Array.find?_toList] at e
 unfold PySem.W.lookIn
 rw[hd]
 dsimp only
 split
 ·rename_i y q
  rw[q] at e
  exact congrArg some e
 ·rename_i q
  rw[q] at e
  have a:es.toList.any (·.refKey)=false:=by
   rw[List.any_eq_false]
   intro y hy
   obtain⟨z,t,hkey⟩:=hk y (Array.mem_toList_iff.mp hy)
   simp [DictEntry.refKey,hkey]
  have a':¬es.toList.any (·.refKey)=true:=by rw[a];exact Bool.false_ne_true
  rw[if_neg a']
  exact congrArg some e
theorem oW.look {h:Heap} {x dx C:Addr} {mA:Str→Option Value} (I:oW h x dx C mA):∃od,PySem.W.InstAt h x (PySem.W.instObj C dx) C (some od)∧∀name,PySem.W.lookIn name od=some (mA name):=
 let ⟨od,ho,hl⟩:=mH I.ns
 ⟨od,⟨I.obj,rfl,rfl,ho⟩,hl⟩
section
variable {prog:Program} {w:World} {A:Around} {E:Value→Shared→Prop} {s:Shared} {K:PySem.W.Frag} {x dx C f:Addr} {mA:Str→Option Value} {name:Str} {v:Value}
theorem get_map {expr:Bool} {Q:Value→Shared→Prop} (X:K.In s.heap) (I:oW s.heap x dx C mA) (hg:PySem.W.plainGet K C name=true) (hh:PySem.W.hasDictIn K C=true)
  (ha:PySem.W.findIn K (.ref C) name=some none) (hv:mA name=some v) (hv':PySem.W.handedIn v=true) (h:Q v { s with toks:=s.toks + 1 }) :
  wpAny (model prog w) A (getAttr (.ref x) name expr) Q E s:=by
 obtain⟨od,J,hl⟩:=I.look
 exact PySem.W.get_value X J (PySem.W.plainGet_of hg).1 (PySem.W.findObj_own hh ha rfl (by rw[hl,hv])) hv' h
theorem QV {pl:Sem Bool} {Q:Value × List Value→Shared→Prop} (X:K.In s.heap) (I:oW s.heap x dx C mA) (hg:PySem.W.plainGet K C name=true)
  (hf:PySem.W.findIn K (.ref C) name=some (some (.ref f))) (ht:PySem.W.isFn K (.ref f)=true) (hv:mA name=none) (h:Q (.ref f,[.ref x]) s) :
  wpAny (model prog w) A (getMethod (.ref x) name pl) Q E s:=by
 obtain⟨od,J,hl⟩:=I.look
 exact PySem.W.method_fn X J (PySem.W.plainGet_of hg).1 (PySem.W.plainGet_of hg).2 hf (beq_iff_eq.mp ht) (by show (PySem.W.lookIn name od).map (·.isSome)=some false;rw[hl,hv];rfl) h
theorem JI {ns:List Str} {Q:Unit→Shared→Prop} (X:K.In s.heap) (I:oW s.heap x dx C mA)
  (hs:PySem.W.findIn K (.ref C) "__setattr__" = some (some (.builtin "object.__setattr__"))) (hp:PySem.W.plainOver K C=true) (ht:PySem.W.takerIn K C name=some none) (hh:PySem.W.hasDictIn K C=true)
  (hw:PySem.Within mA ns) (hsz:ns.length≤sizeLine)
  (h:∀h',oW h' x dx C (fun y=>if y=name then some v else mA y)→Heap.SameBut dx s.heap h'→Q () { s with heap:=h',toks:=s.toks + 2 }) :
  wpAny (model prog w) A (setAttr (.ref x) name v) Q E s:=by
 obtain⟨od,J,hl⟩:=I.look
 refine PySem.W.set_plain X J hs (PySem.W.osa_open (s:={ s with toks:=s.toks + 1 }) (r:=none) X J hp ht fun b=>?_)
 obtain⟨cd,hc,hd'⟩:=PySem.W.any_some hh
 have hx:s.heap.get? x=some ⟨.ref C,some dx,.plain,#[]⟩:=I.obj
 refine wpAny_bind (wpAny_pure (wpAny_bind (wpAny_bind (wpAny_loadPart hx (wpAny_bind (PySem.W.Looks.here (s:={ s with toks:=s.toks + 1 }) (PySem.W.looks_clsIn X hc) ?_))))))
 rw[hd']
 refine wpAny_pure (a:=some dx) (wpAny_bind (wpAny_pure (wpAny_bind ?_)))
 refine wpAny_nsSet1 (s:={ s with toks:=s.toks + 1 }) I.ns fun h' hn2 hs2=>?_
 obtain⟨oD,esD,epD,hoD,hdD,hcD⟩:=hn2.count (PySem.Within.cons name v hw)
 refine wpAny_bind (wpAny_lookBehind hoD (by rw[hdD];exact pastItsLine_dict (Nat.le_trans hcD (by rw[List.length_cons];omega))) ?_)
 exact wpAny_pure (h _ ⟨(hs2.2 _ (Ne.symm I.ne)).trans I.obj,hn2,I.ne⟩ hs2)
theorem Zz {R:Result→Shared→Prop} {vs:List Value} {kw:List (Str × Value)} (X:K.In s.heap) (hm:PySem.W.makesIn K C=true)
  (hi:PySem.W.findIn K (.ref C) "__init__" = some (some (.ref f))) (hf:PySem.W.typeIn K (.ref f)=some (.type "function"))
  (h:codeAny (model prog w) (A.under (.builtin "type.__call__" ⟨.ref C :: vs,kw⟩)) (.call (.ref f) ⟨.ref (s.heap.objs.size + 1) :: vs,kw⟩) (PySem.W.InitBack (s.heap.objs.size + 1) R)
   { s with heap:=(s.heap.push PySem.W.emptyDict).push (PySem.W.instObj C s.heap.objs.size) }) :
  codeAny (model prog w) A (.call (.ref C) ⟨vs,kw⟩) R s:=by
 obtain⟨hh,g,d,t,os⟩:=s
 exact PySem.W.make_core (PySem.W.makes_of X hm) (PySem.W.looks_findIn X hi) (fun self=>PySem.W.bind_fn X self hf) (.inl rfl) h
end
noncomputable def qY (f:Str) (v:V):List (Str × V)→List (Str × V)
 | []=>[(f,v)]
 | (g,x) :: r=>if g=f then (g,v) :: r else (g,x) :: qY f v r
theorem bt (f g:Str) (v:V):∀fs:List (Str × V),(qY f v fs).lookup g=if g=f then some v else fs.lookup g
 | []=>by
  show List.lookup g [(f,v)]=_
  by_cases h:g=f
  ·have hb:(g == f)=true:=beq_iff_eq.mpr h
   simp only[List.lookup,hb,if_pos h]
  ·have hb:(g == f)=false:=beq_eq_false_iff_ne.mpr h
   simp only[List.lookup,hb,if_neg h]
 | (k,x) :: r=>by
  have ih:=bt f g v r
  rw[show qY f v ((k,x) :: r)=(if k=f then (k,v) :: r else (k,x) :: qY f v r) from rfl]
  by_cases hk:k=f
  ·rw[if_pos hk]
   by_cases h:g=k
   ·have hb:(g == k)=true:=beq_iff_eq.mpr h
    simp only[List.lookup,hb,if_pos (h.trans hk)]
   ·have hb:(g == k)=false:=beq_eq_false_iff_ne.mpr h
    simp only[List.lookup,hb,if_neg (fun e:g=f=>h (e.trans hk.symm))]
  ·rw[if_neg hk]
   by_cases h:g=k
   ·have hb:(g == k)=true:=beq_iff_eq.mpr h
    simp only[List.lookup,hb,if_neg (fun e:g=f=>hk (h.symm.trans e))]
   ·have hb:(g == k)=false:=beq_eq_false_iff_ne.mpr h
    simp only[List.lookup,hb]
    exact ih
theorem yP (f:Str) (v:V):∀fs:List (Str × V),f∈(qY f v fs).map (·.1)∧∀g,g∈fs.map (·.1)→g∈(qY f v fs).map (·.1)
 | []=>⟨by simp [qY],fun g h=>by simp at h⟩
 | (k,x) :: r=>by
  obtain⟨i1,i2⟩:=yP f v r
  rw[show qY f v ((k,x) :: r)=(if k=f then (k,v) :: r else (k,x) :: qY f v r) from rfl]
  by_cases hk:k=f
  ·rw[if_pos hk]
   subst hk
   exact⟨by simp,fun g h=>by simpa using h⟩
  ·rw[if_neg hk]
   refine⟨?_,fun g h=>?_⟩
   ·rw[List.map_cons]
    exact List.mem_cons_of_mem _ i1
   ·rw[List.map_cons] at h ⊢
    rcases List.mem_cons.mp h with e | e
    ·exact List.mem_cons.mpr (.inl e)
    ·exact List.mem_cons_of_mem _ (i2 g e)
theorem xt (f:Str) (v:V):∀fs:List (Str × V),(qY f v fs).length≤fs.length + 1
 | []=>by simp [qY]
 | (k,x) :: r=>by
  have ih:=xt f v r
  rw[show qY f v ((k,x) :: r)=(if k=f then (k,v) :: r else (k,x) :: qY f v r) from rfl]
  by_cases hk:k=f
  ·rw[if_pos hk,List.length_cons,List.length_cons];omega
  ·rw[if_neg hk,List.length_cons,List.length_cons];omega
theorem yT.some_of {v:V} {o:Option Value} (r:yT (some v) o):∃u,o=some u∧RelV v u:=by
 cases o with
 | none=>exact(show False from r).elim
 | some u=>exact⟨u,rfl,r⟩
theorem yT.none_of {o:Option Value} (r:yT none o):o=none:=by
 cases o with
 | none=>rfl
 | some u=>exact(show False from r).elim
theorem uE {v:V} {u:Value} (r:RelV v u):PySem.W.handedIn u=true:=by
 cases v with
 | non=>cases (show u=Value.none from r);rfl
 | bl b=>cases (show u=Value.bool b from r);rfl
 | int i=>obtain⟨t,e⟩:=(show ∃t,u=Value.int i t from r);cases e;rfl
 | str x=>obtain⟨t,e⟩:=(show ∃t,u=Value.str x t from r);cases e;rfl
 | byt b=>obtain⟨t,e⟩:=(show ∃t,u=Value.bytes b t from r);cases e;rfl
 | flt b=>obtain⟨t,e⟩:=(show ∃t,u=Value.float b t from r);cases e;rfl
 | ref a=>cases (show u=Value.ref a from r);rfl
 | ty n=>cases (show u=Value.type n from r);rfl
section
variable {P:Program} {w:World} {H H':Hp} {h h':Heap} {a C dx:Addr} {fs fs':List (Str × V)}
theorem dO (jz:gF P w H h) (e:H a=some (.ins C dx fs)):∃mA,oW h a dx C mA∧(∀f,yT (fs.lookup f) (mA f))∧PySem.Within mA (fs.map (·.1))∧fs.length≤1000∧H dx=some (.own a):=by
 obtain⟨d,z,ne,ob,mA,n,r,q⟩:=(show jL P w H h a (.ins C dx fs) from jz a _ e)
 exact⟨mA,⟨ob,n,ne⟩,r,q,z,d⟩
end
structure dI (K:PySem.W.Frag) (C:Addr):Prop where
 pg:PySem.W.plainGet K C Str.empty=true
 hd:PySem.W.hasDictIn K C=true
 po:PySem.W.plainOver K C=true
 sa:PySem.W.findIn K (.ref C) "__setattr__" = some (some (.builtin "object.__setattr__"))
theorem dI.get {K:PySem.W.Frag} {C:Addr} (c:dI K C) (f:Str):PySem.W.plainGet K C f=true:=c.pg
noncomputable def qK (K:PySem.W.Frag) (C:Addr) (f:Str):Prop:=PySem.W.findIn K (.ref C) f=some none
theorem qK.Wb {K:PySem.W.Frag} {C:Addr} {f:Str} (n:qK K C f):PySem.W.takerIn K C f=some none:=by
 unfold PySem.W.takerIn
 rw[show PySem.W.findIn K (.ref C) f=some none from n]
 rfl
structure GV (K:PySem.W.Frag) (C:Addr) (f:Str) (v:V) (u:Value):Prop where
 at_:PySem.W.findIn K (.ref C) f=some (some u)
 rel:RelV v u
 get:PySem.W.specialIn K u "__get__" = some none
 cp:PySem.W.copiedNames.contains f=false
structure Meth (K:PySem.W.Frag) (C:Addr) (m:Str) (f:Addr):Prop where
 at_:PySem.W.findIn K (.ref C) m=some (some (.ref f))
 fn:PySem.W.isFn K (.ref f)=true
 kp:PySem.W.keepIn K (.ref f)=true
section
variable {X:Cx} {pins:List (Addr × Obj)} {σ:St} {H:Hp} {s:Shared} {a C dx:Addr} {fs:List (Str × V)} {f:Str} {v:V} {A:Around} {E:Value→Shared→Prop}
theorem oA {b:Bool} {Q:Value→Shared→Prop} (I:Inv X pins σ H s) (e:H a=some (.ins C dx fs)) (c:dI X.K C) (n:qK X.K C f) (l:fs.lookup f=some v)
  (h:∀u s',Inv X pins σ H s'→RelV v u→Q u s'):wpAny (model X.prog X.w) A (getAttr (.ref a) f b) Q E s:=by
 obtain⟨mA,O,r,_,_,_⟩:=dO I.jz e
 obtain⟨u,hu,ru⟩:=yT.some_of (v:=v) (o:=mA f) (by rw[←l];exact r f)
 exact get_map I.y7 O (c.get f) c.hd n hu (uE ru) (h u _ (I.tok _) ru)
theorem fb {m:Str} {g:Addr} {pl:Sem Bool} {Q:Value × List Value→Shared→Prop} (I:Inv X pins σ H s) (e:H a=some (.ins C dx fs)) (c:dI X.K C) (k:Meth X.K C m g) (l:fs.lookup m=none)
  (h:Q (.ref g,[.ref a]) s):wpAny (model X.prog X.w) A (getMethod (.ref a) m pl) Q E s:=by
 obtain⟨mA,O,r,_,_,_⟩:=dO I.jz e
 have hn:mA m=none:=yT.none_of (by rw[←l];exact r m)
 exact QV I.y7 O (c.get m) k.at_ k.fn hn h
theorem oH {y:V} {u:Value} {Q:Unit→Shared→Prop} (I:Inv X pins σ H s) (e:H a=some (.ins C dx fs)) (c:dI X.K C) (n:qK X.K C f) (hl:fs.length < 1000) (ry:RelV y u)
  (h:∀s',Inv X pins σ (upd H a (.ins C dx (qY f y fs))) s'→Q () s'):wpAny (model X.prog X.w) A (setAttr (.ref a) f u) Q E s:=by
 obtain⟨mA,O,r,wi,_,ho⟩:=dO I.jz e
 have hz:(fs.map (·.1)).length≤sizeLine:=by rw[List.length_map,sizeLine_eq];omega
 refine JI I.y7 O c.sa c.po n.Wb c.hd wi hz fun h' O' sb=>h _ ?_
 have hd:∃o,h'.get? dx=some o:=let ⟨o,_,_,e',_⟩:=O'.ns;⟨o,e'⟩
 refine I.write (x:=a) (e:=dx) (by rw[e];exact True.intro) (.inr ho) (fun b q hb z=>(sb.2 b hb).trans z) hd ?_
 refine⟨by rw[qW O.ne];exact ho,?_,O.ne,O'.obj,_,O'.ns,fun g=>?_,fun g hg=>?_⟩
 ·have:=xt f y fs;omega
 ·show yT ((qY f y fs).lookup g) (if g=f then some u else mA g)
  rw[bt]
  by_cases q:g=f
  ·rw[if_pos q,if_pos q];exact ry
  ·rw[if_neg q,if_neg q];exact r g
 ·by_cases q:g=f
  ·rw[q];exact(yP f y fs).1
  ·refine(yP f y fs).2 g (wi g fun z=>hg ?_)
   show (if g=f then some u else mA g)=none
   rw[if_neg q];exact z
theorem Inv.made (I:Inv X pins σ H s):Inv X pins σ (upd (upd H s.heap.objs.size (.own (s.heap.objs.size + 1))) (s.heap.objs.size + 1) (.ins C s.heap.objs.size []))
  { s with heap:=(s.heap.push PySem.W.emptyDict).push (PySem.W.instObj C s.heap.objs.size) }:=by
 have e1:(s.heap.push PySem.W.emptyDict).get? s.heap.objs.size=some PySem.W.emptyDict:=Heap.get?_push_size s.heap rfl
 have e2:((s.heap.push PySem.W.emptyDict).push (PySem.W.instObj C s.heap.objs.size)).get? (s.heap.objs.size + 1)=some (PySem.W.instObj C s.heap.objs.size):=by
  have:=Heap.get?_push_size (s.heap.push PySem.W.emptyDict) (o:=PySem.W.instObj C s.heap.objs.size) rfl
  rwa [Heap.size_push] at this
 have e3:(s.heap.push PySem.W.emptyDict).Ns s.heap.objs.size (fun _=>none):=⟨PySem.W.emptyDict,#[],_,e1,rfl,(fun e he=>absurd he (by simp)),fun _=>rfl⟩
 have I1:=I.laid (a:=s.heap.objs.size) (o:=.own (s.heap.objs.size + 1)) (h':=s.heap.push PySem.W.emptyDict) (t':=s.toks) (fun b u q=>Heap.get?_push_of_some _ q) (Nat.le_refl _) ⟨_,e1⟩
 refine I1.laid (a:=s.heap.objs.size + 1) (o:=.ins C s.heap.objs.size []) (t':=s.toks) (fun b u q=>Heap.get?_push_of_some _ q) (Nat.le_of_eq (Heap.size_push _ _)) ?_
 have ne:s.heap.objs.size≠s.heap.objs.size + 1:=Nat.ne_of_lt (Nat.lt_succ_self _)
 refine⟨by rw[qW ne,qw],Nat.zero_le _,ne,e2,fun _=>none,(Heap.Ns1.of_empty e3).at fun o q=>Heap.get?_push_of_some _ q,fun _=>True.intro,fun y hy=>absurd rfl hy⟩
theorem iX {prog:Program} {w:World} {env:Env} {e:Expr} {f:Str} {pos:Pos} {s:Shared} {Q:Value→Shared→Prop} (hb:attributeBase e f env (eval e env)=eval e env)
  (h:wpAny (model prog w) A (eval e env) (fun o s₁=>wpAny (model prog w) A (getAttr o f true) Q E s₁) E s):wpAny (model prog w) A (eval (.Attribute e f pos) env) Q E s:=
 Attribute_any_ h (by rw[arm_eval_Attribute,hb])
end
noncomputable def W7 (K:PySem.W.Frag) (ta:TE) (f:Str):TE:=fun σ H Q=>ta σ H fun x H1=>∃a C dx fs v,x=.ref a∧H1 a=some (.ins C dx fs)∧dI K C∧qK K C f∧fs.lookup f=some v∧Q v H1
noncomputable def GK (K:PySem.W.Frag) (ta:TE) (f:Str):TE:=fun σ H Q=>ta σ H fun x H1=>∃a C dx fs v u,x=.ref a∧H1 a=some (.ins C dx fs)∧dI K C∧GV K C f v u∧fs.lookup f=none∧Q v H1
noncomputable def Yd (K:PySem.W.Frag) (ta tv:TE) (f:Str):TS:=fun D σ H=>tv σ H fun y H1=>ta σ H1 fun x H2=>∃a C dx fs,x=.ref a∧H2 a=some (.ins C dx fs)∧dI K C∧qK K C f∧fs.length < 1000∧
 D.nx σ (upd H2 a (.ins C dx (qY f y fs)))
noncomputable def Gs (X:Cx) (op:Operator) (rd:V→V→Hp→VK→Prop):Prop:=
 ∀(pins:List (Addr × Obj)) (s:Shared) (σ:St) (H:Hp) (x y:V) (u v:Value) (Q:VK),Inv X pins σ H s→RelV x u→RelV y v→rd x y H Q→wpAny (model X.prog X.w) X.A (inplaceOp op u v) (EP X pins σ Q) X.xe s
noncomputable def WB (K:PySem.W.Frag) (ta tv:TE) (rd:V→V→Hp→VK→Prop) (f:Str):TS:=fun D σ H=>ta σ H fun x H1=>∃a C dx fs v,x=.ref a∧H1 a=some (.ins C dx fs)∧dI K C∧qK K C f∧fs.lookup f=some v∧
 tv σ H1 fun y H2=>rd v y H2 fun z H3=>∃dx' fs',H3 a=some (.ins C dx' fs')∧fs'.length < 1000∧D.nx σ (upd H3 a (.ins C dx' (qY f z fs')))
section
variable {X:Cx} {o e value:Expr} {f:Str} {pos pos' tpos:Pos} {ta tv:TE}
theorem X9 (he:PE X e ta) (hb:attributeBase e f X.env (eval e X.env)=eval e X.env):PE X (.Attribute e f pos) (W7 X.K ta f):=by
 intro pins s σ H Q I h
 refine iX hb (jO (he pins s σ H _ I h) fun u s1 ⟨x,H1,I1,rx,a,C,dx,fs,v,ex,ea,c,n,l,q⟩=>?_)
 subst ex
 obtain rfl:u=Value.ref a:=rx
 exact oA I1 ea c n l fun u' s2 I2 ru=>⟨v,H1,I2,ru,q⟩
theorem xX (ha:PE X o ta) (hv:PE X value tv) (hs:swapsWith value (some (.Attribute o f pos')) pos.line X.env=pure false):PS X (.Assign [.Attribute o f pos'] value pos) (Yd X.K ta tv f):=by
 intro pins s σ H D I h
 refine plainObj_wpAny_Assign_Attribute (jO (hv pins s σ H _ I h) fun u s1 ⟨y,H1,I1,ry,q⟩=>jO (ha pins s1 σ H1 _ I1 q) fun ov s2 ⟨x,H2,I2,rx,a,C,dx,fs,ex,ea,c,n,l,q2⟩=>?_) hs
 subst ex
 obtain rfl:ov=Value.ref a:=rx
 exact oH I2 ea c n l ry fun s3 I3=>⟨σ,_,I3,q2⟩
noncomputable def GJ:V→V→Hp→VK→Prop:=fun x y H Q=>∃i j,x=.int i∧y=.int j∧Q (.int (i + j)) H
noncomputable def Ga:V→V→Hp→VK→Prop:=fun x y H Q=>∃i j,x=.int i∧y=.int j∧Q (.int (i - j)) H
theorem Xa {pl:Sem Bool} {m:Str} {apos:Pos} {args:List Expr} {pins:List (Addr × Obj)} {s:Shared} {σ:St} {H:Hp} {Q:Value→Shared→Prop} {te:TE} (he:PE X e te) (I:Inv X pins σ H s)
  (h:te σ H fun x H1=>∃a C dx fs g,x=.ref a∧H1 a=some (.ins C dx fs)∧dI X.K C∧Meth X.K C m g∧fs.lookup m=none∧
   ∀s1,Inv X pins σ H1 s1→wpAny (model X.prog X.w) X.A (callWith pos (.ref g) [.ref a] (backTo pos (starEach args X.env)) (backToKw pos (keywordEach [] X.env))) Q X.xe s1)
  (ht:eval (.Call (.Attribute e m apos) args [] pos) X.env=(do
   let ov ←eval e X.env
   standAt apos.atName
   let (f,first) ←holding [ov] (getMethod ov m pl)
   callWith pos f first (backTo pos (starEach args X.env)) (backToKw pos (keywordEach [] X.env)))) :
  wpAny (model X.prog X.w) X.A (eval (.Call (.Attribute e m apos) args [] pos) X.env) Q X.xe s:=by
 refine PySem.W.methodCall_KW (pl:=pl) (jO (he pins s σ H _ I h) fun u s1 ⟨x,H1,I1,rx,a,C,dx,fs,g,ex,ea,c,k,l,q⟩=>?_) ht
 subst ex
 obtain rfl:u=Value.ref a:=rx
 exact fb I1 ea c k l (q s1 I1)
end
section
variable {X:Cx} {pins:List (Addr × Obj)} {σ:St} {H:Hp} {s:Shared} {A:Around} {E:Value→Shared→Prop} {Q:Value→Shared→Prop} {c:Value} {b:Bool}
inductive gp (K:PySem.W.Frag) (H:Hp):V→Value→Prop where
 | non:gp K H .non (.type "NoneType")
 | bl (x:Bool):gp K H (.bl x) (.type "bool")
 | int (i:Int):gp K H (.int i) (.type "int")
 | str (x:Str):gp K H (.str x) (.type "str")
 | flt (x:UInt64):gp K H (.flt x) (.type "float")
 | lst {a:Addr} {xs:List V} (e:H a=some (.lst xs)):gp K H (.ref a) (.type "list")
 | frz {a:Addr} {o:Obj} {xs:List V} (e:H a=some (.frz o (.lst xs))):gp K H (.ref a) (.type "list")
 | tup {a:Addr} {xs:List V} (e:H a=some (.tup xs)):gp K H (.ref a) (.type "tuple")
 | dK {a:Addr} {kvs:List (Key × V)} (e:H a=some (.dK kvs)):gp K H (.ref a) (.type "dict")
 | dT {a:Addr} {kvs:List (List Key × V)} (e:H a=some (.dT kvs)):gp K H (.ref a) (.type "dict")
 | ins {a C dx:Addr} {fs:List (Str × V)} (e:H a=some (.ins C dx fs)) (cl:dI K C) (ha:PySem.W.findIn K (.ref C) "__class__" = some (some (.builtin "object.__class__")))
   (hn:PySem.W.specialIn K (.builtin "object.__class__") "__get__" = some (some (.builtin "getset_descriptor.__get__"))) (WR:PySem.W.takesIn K (.builtin "object.__class__")=some true)
   (hm:PySem.W.mroIn K C (.type "object")=some true):gp K H (.ref a) (.ref C)
theorem ar {x:V} {u t:Value} (I:Inv X pins σ H s) (rx:RelV x u) (ty:gp X.K H x t) (e:PySem.W.kitOne X.K t c=some b) (h:∀tk,Q (.bool b) { s with toks:=tk }) :
  wpAny (model X.prog X.w) A (call (.builtin "isinstance") [u,c]) Q E s:=by
 cases ty with
 | non=>cases (show u=Value.none from rx);exact PySem.W.kia_one PySem.W.kitx_none I.y7 True.intro e (fun z=>nomatch z) h
 | bl y=>cases (show u=Value.bool y from rx);exact PySem.W.kia_one PySem.W.kitx_bool I.y7 True.intro e (fun z=>nomatch z) h
 | int i=>obtain⟨t,q⟩:=(show ∃t,u=Value.int i t from rx);cases q;exact PySem.W.kia_one PySem.W.kitx_int I.y7 True.intro e (fun z=>nomatch z) h
 | str y=>obtain⟨t,q⟩:=(show ∃t,u=Value.str y t from rx);cases q;exact PySem.W.kia_one PySem.W.kitx_str I.y7 True.intro e (fun z=>nomatch z) h
 | flt y=>obtain⟨t,q⟩:=(show ∃t,u=Value.float y t from rx);cases q;exact PySem.W.kia_one PySem.W.kitx_float I.y7 True.intro e (fun z=>nomatch z) h
 | @lst a xs ea=>
  cases (show u=Value.ref a from rx)
  obtain⟨_,_,n,_,h1⟩:=(show jL X.prog X.w H s.heap a (.lst xs) from I.jz a _ ea)
  exact PySem.W.kia_one PySem.W.kitx_list I.y7 ⟨_,h1,rfl⟩ e (fun z=>nomatch z) h
 | @frz a ob xs ea=>
  cases (show u=Value.ref a from rx)
  obtain⟨_,_,_,n,_,h1⟩:=(show jL X.prog X.w H s.heap a (.frz ob (.lst xs)) from I.jz a _ ea)
  exact PySem.W.kia_one PySem.W.kitx_list I.y7 ⟨_,h1,rfl⟩ e (fun z=>nomatch z) h
 | @tup a xs ea=>
  cases (show u=Value.ref a from rx)
  obtain⟨_,_,_,p⟩:=(show jL X.prog X.w H s.heap a (.tup xs) from I.jz a _ ea)
  obtain⟨o,h1,h2,_⟩:=p
  exact PySem.W.kia_one PySem.W.kitx_tuple I.y7 ⟨o,h1,h2⟩ e (fun z=>nomatch z) h
 | @dK a kvs ea=>
  cases (show u=Value.ref a from rx)
  obtain⟨_,_,vs,_,p⟩:=(show jL X.prog X.w H s.heap a (.dK kvs) from I.jz a _ ea)
  obtain⟨o,es,ep,h1,h2,_⟩:=p
  exact PySem.W.kia_one PySem.W.kitx_dict I.y7 ⟨o,h1,h2.1⟩ e (fun z=>nomatch z) h
 | @dT a kvs ea=>
  cases (show u=Value.ref a from rx)
  obtain⟨_,_,xs,_,o,es,ep,h1,h2,_⟩:=(show jL X.prog X.w H s.heap a (.dT kvs) from I.jz a _ ea)
  exact PySem.W.kia_one PySem.W.kitx_dict I.y7 ⟨o,h1,h2.1⟩ e (fun z=>nomatch z) h
 | @ins a C dx fs ea cl ha hn WR hm=>
  cases (show u=Value.ref a from rx)
  obtain⟨mA,O,_⟩:=dO I.jz ea
  obtain⟨od,J,_⟩:=O.look
  exact PySem.W.kia_one (PySem.W.kitx_own (cl.get _) cl.hd ha hn WR hm) I.y7 J e (fun z=>nomatch z) h
end
end L2
namespace L2
open PySem PySem.Spec PyProof.Rows
structure kc (k:Nat) (A:Around):Prop where
 hd:A.handled=none
 dp:A.depth + 3 * k + 5 < recursionLimit
 un:A.units + 16 * k + 200 < cLine
theorem kc.mono {j k:Nat} {A:Around} (r:kc k A) (h:j≤k):kc j A:=⟨r.hd,by have:=r.dp;omega,by have:=r.un;omega⟩
theorem kc.deeper {k:Nat} {A:Around} (r:kc (k + 1) A) (env:Env):kc k (A.deeper env):=
 ⟨r.hd,by have:=r.dp;show A.depth + 1 + 3 * k + 5 < _;omega,by have:=r.un;show A.units + 3 + 16 * k + 200 < _;omega⟩
theorem nE {A:Around} {C:Addr} {us:List Value} {kw:List (Str × Value)}:(A.under (.builtin "type.__call__" ⟨.ref C :: us,kw⟩)).depth=A.depth + 1:=by
 first | rfl | simp [Around.under,Code.weight,Code.isCreation,Code.isGuard,Code.isCaller,Code.frames,Code.isFrame,guardIds]
theorem oZ {A:Around} {C:Addr} {us:List Value} {kw:List (Str × Value)}:(A.under (.builtin "type.__call__" ⟨.ref C :: us,kw⟩)).units=A.units + 1:=by
 first | rfl | simp [Around.under,Code.cUnits,Code.frames,Code.isFrame]
theorem kc.make {k:Nat} {A:Around} (r:kc (k + 1) A) (C:Addr) (us:List Value) (kw:List (Str × Value)):kc k (A.under (.builtin "type.__call__" ⟨.ref C :: us,kw⟩)):=
 ⟨r.hd,by have:=r.dp;rw[nE];omega,by have:=r.un;rw[oZ];omega⟩
theorem kc.depth {k:Nat} {A:Around} (r:kc k A):A.depth < recursionLimit:=by have:=r.dp;omega
theorem kc.units {k:Nat} {A:Around} (r:kc k A):A.units + 64 < cLine:=by have:=r.un;omega
noncomputable def Vu:TA:=fun _ H Q=>Q [] H
noncomputable def VN (ta:TE) (tr:TA):TA:=fun σ H Q=>ta σ H fun x H1=>tr σ H1 fun xs H2=>Q (x :: xs) H2
section
variable {X:Cx} {e:Expr} {es:List Expr} {te:TE} {t:TA} {pos:Pos}
theorem z7:PA X [] Vu:=fun _ _ _ _ H Q I h=>Calls.spliced_nil ⟨[],H,I,.nil,h⟩
theorem z4 (ha:PE X e te) (hr:PA X es t) (hs:starEach (e :: es) X.env=(false,eval e X.env) :: starEach es X.env:=by rfl):PA X (e :: es) (VN te t):=by
 intro pos pins s σ H Q I h
 rw[hs]
 show wpAny _ _ (spliced ((false,eval e X.env) :: backTo pos (starEach es X.env))) _ _ s
 refine Calls.spliced_cons (jO (ha pins s σ H _ I h) fun u s1 ⟨x,H1,I1,r1,q1⟩=>?_)
 exact jO (hr pos pins s1 σ H1 _ I1 q1) fun us s2 ⟨xs,H2,I2,r2,q2⟩=>⟨x :: xs,H2,I2,.cons r1 r2,q2⟩
noncomputable def YS (t:TA):TE:=fun σ H Q=>t σ H fun xs H1=>xs.length≤sizeLine∧∀p,H1 p=none→Q (.ref p) (upd H1 p (.tup xs))
noncomputable def YK (t:TA):TE:=fun σ H Q=>t σ H fun xs H1=>xs.length≤sizeLine∧∀p,H1 p=none→Q (.ref p) (upd H1 p (.lst xs))
theorem Kv {x1} (h:PA X es t):PE X (.Tuple es x1 pos) (YS t):=by
 intro pins s σ H Q I hq
 refine wpAny_Tuple_spliced (jO (h pos pins s σ H _ I hq) fun us s1 ⟨xs,H1,I1,r,z,q⟩=>⟨by rw[←r.length];exact z,?_⟩)
 have hf:H1 s1.heap.objs.size=none:=I1.jz.fresh (Nat.le_refl _)
 refine⟨.ref s1.heap.objs.size,upd H1 s1.heap.objs.size (.tup xs),I1.laid (t':=s1.toks) (fun b u e=>Heap.get?_push_of_some _ e) (Nat.le_refl _) ?_,rfl,q _ hf⟩
 exact⟨z,us,r,⟨_,Heap.get?_push_size _ rfl,rfl,_,rfl⟩⟩
theorem X8 (h:PA X es t):PE X (.List es pos) (YK t):=by
 intro pins s σ H Q I hq
 refine wpAny_List_spliced (jO (h pos pins s σ H _ I hq) fun us s1 ⟨xs,H1,I1,r,z,q⟩=>⟨by rw[←r.length];exact z,?_⟩)
 have hf:H1 s1.heap.objs.size=none:=I1.jz.fresh (Nat.le_refl _)
 refine⟨.ref s1.heap.objs.size,upd H1 s1.heap.objs.size (.lst xs),I1.laid (t':=s1.toks) (fun b u e=>Heap.get?_push_of_some _ e) (Nat.le_refl _) ?_,rfl,q _ hf⟩
 exact⟨z,us,0,r,Heap.get?_push_size _ rfl⟩
end
noncomputable abbrev Sp:=List V→Hp→VK→XK→Prop
noncomputable abbrev uX:=List Env→Hp→Shared→XK→Value→Shared→Prop
structure nP (P:Program) (w:World) (K:PySem.W.Frag) (mg:Str→Option Value) (base:Heap) (A:Around) (outer:List Env) (s:Shared) (H:Hp):Prop where
 frames:A.frames=some outer
 mod:Mod K mg base
 bs:∀b o,base.get? b=some o→s.heap.get? b=some o∧H b=none
 eP:base.objs.size≤s.heap.objs.size
 m5:s.heap.FunFrames base outer
 XW:∀b∈sy outer,H b=none
 jz:gF P w H s.heap
 bare:AllBare s.gens
noncomputable def CE (outer:List Env) (P:Program) (w:World) (H:Hp) (s:Shared) (Q:VK) (u:Value) (s':Shared):Prop:=
 ∃v H',s'.os=s.os∧AllBare s'.gens∧Un (sy outer) [] H H' s.heap s'.heap∧gF P w H' s'.heap∧RelV v u∧Q v H'
noncomputable def CR (CX:uX) (outer:List Env) (P:Program) (w:World) (H:Hp) (s:Shared) (Q:VK) (E:XK) (r:Result) (s':Shared):Prop:=
 match r with
 | .ok (.ret u)=>CE outer P w H s Q u s'
 | .ok _=>False
 | .error e=>CX outer H s E e s'
structure qJ (P:Program) (w:World) (K:PySem.W.Frag) (mg:Str→Option Value) (base:Heap) (CX:uX) (k:Nat) (f:Addr) (fd:FuncData) (ps:List Str) (sp:Sp):Prop where
 len:∀vs H Q E,sp vs H Q E→vs.length=ps.length
 run:∀(A:Around) (outer:List Env) (s:Shared) (H:Hp) (args:Args) (us:List Value) (vs:List V) (Q:VK) (E:XK),kc k A→nP P w K mg base A outer s H→BindsTo s fd args (ps.zip us)→Vals vs us→sp vs H Q E→
  codeAny (model P w) A (.call (.ref f) args) (CR CX outer P w H s Q E) s
theorem qJ.mono {P:Program} {w:World} {K:PySem.W.Frag} {mg:Str→Option Value} {base:Heap} {CX:uX} {j k:Nat} {f:Addr} {fd:FuncData} {ps:List Str} {sp:Sp} (F:qJ P w K mg base CX j f fd ps sp) (h:j≤k) :
  qJ P w K mg base CX k f fd ps sp:=⟨F.len,fun A outer s H args us vs Q E hr=>F.run A outer s H args us vs Q E (hr.mono h)⟩
theorem nP.make {P:Program} {w:World} {K:PySem.W.Frag} {mg:Str→Option Value} {base:Heap} {A:Around} {outer:List Env} {s:Shared} {H:Hp} (e:nP P w K mg base A outer s H) (C:Addr) (us:List Value) (kw:List (Str × Value)) :
  nP P w K mg base (A.under (.builtin "type.__call__" ⟨.ref C :: us,kw⟩)) outer s H:=⟨by first | exact e.frames | (simpa [Around.under,Code.envs,Code.isFrame,pushEnvs] using e.frames),e.mod,e.bs,e.eP,e.m5,e.XW,e.jz,e.bare⟩
section
variable {X:Cx} {pins:List (Addr × Obj)} {σ:St} {H:Hp} {s s':Shared}
theorem Inv.JG (I:Inv X pins σ H s):nP X.prog X.w X.K X.mg X.base X.A X.stack s H:=
 ⟨I.ok.frames,I.ok.mod,I.bs,Nat.le_trans I.ok.eP I.sz,I.stack,I.pX,I.jz,I.bare⟩
theorem Inv.after {Q:VK} {u:Value} (I:Inv X pins σ H s) (h:CE X.stack X.prog X.w H s Q u s'):EP X pins σ Q u s':=by
 obtain⟨v,H',os,bare,un,jz,r,q⟩:=h
 obtain⟨hh,g,d,t,os'⟩:=s'
 obtain rfl:os'=s.os:=os
 exact⟨v,H',I.call (h':=hh) (g':=g) (d':=d) (t':=t) (ch:=[]) un jz bare (fun b z=>absurd z (by simp)),r,q⟩
end
noncomputable def QX (sp:Sp) (dvs:List V) (E:XK) (t:TA):TE:=fun σ H Q=>t σ H fun vs H1=>sp (vs ++ dvs) H1 Q E
noncomputable def Y4 (C:Addr) (m:Str) (sp:Sp) (dvs:List V) (E:XK) (ta:TE) (t:TA):TE:=fun σ H Q=>ta σ H fun x H1=>∃a dx fs,x=.ref a∧H1 a=some (.ins C dx fs)∧fs.lookup m=none∧
 t σ H1 fun vs H2=>sp (x :: (vs ++ dvs)) H2 Q E
noncomputable def Xr (C:Addr) (sp:Sp) (dvs:List V) (E:XK) (t:TA):TE:=fun σ H Q=>t σ H fun vs H1=>∀x dx,H1 x=none→H1 dx=none→dx≠x→
 sp (.ref x :: (vs ++ dvs)) (upd (upd H1 dx (.own x)) x (.ins C dx [])) (fun v H2=>v=.non∧Q (.ref x) H2) E
noncomputable def Binds (K:PySem.W.Frag) (fd:FuncData) (ps:List Str) (ds:List Value):Prop:=
 ∀(s:Shared) (us:List Value),K.In s.heap→(us ++ ds).length=ps.length→BindsTo s fd ⟨us,[]⟩ (ps.zip (us ++ ds))
theorem Binds.all {K:PySem.W.Frag} {fd:FuncData} {ps:List Str} (h:∀us:List Value,us.length=ps.length→bindArgs fd ⟨us,[]⟩=pure (ps.zip us)):Binds K fd ps []:=fun s us _ hl=>by
 rw[List.append_nil] at hl ⊢
 exact .of_eq (h us hl)
noncomputable def Passes (CX:uX) (X:Cx) (E:XK):Prop:=∀(pins:List (Addr × Obj)) (σ:St) (H:Hp) (s:Shared) (e:Value) (s':Shared),Inv X pins σ H s→CX X.stack H s E e s'→X.xe e s'
section
variable {X:Cx} {CX:uX} {k:Nat} {f C:Addr} {fd:FuncData} {ps:List Str} {sp:Sp} {dvs:List V} {ds:List Value} {E:XK} {x m:Str} {p pos apos:Pos} {e o:Expr} {es:List Expr} {ta:TE} {t:TA}
theorem lY {pins:List (Addr × Obj)} {σ:St} {H:Hp} {s:Shared} {Q:VK} {us:List Value} {vs:List V} (F:qJ X.prog X.w X.K X.mg X.base CX k f fd ps sp) (hr:kc k X.A) (hb:Binds X.K fd ps ds) (hd:Vals dvs ds) (hx:Passes CX X E)
  (I:Inv X pins σ H s) (r:Vals vs us) (h:sp (vs ++ dvs) H Q E):wpAny (model X.prog X.w) X.A (call (.ref f) us) (EP X pins σ Q) X.xe s:=by
 have r2:Vals (vs ++ dvs) (us ++ ds):=r.append hd
 have hl:(us ++ ds).length=ps.length:=by rw[←r2.length];exact F.len _ _ _ _ h
 refine wpAny_call (codeAny_mono (F.run X.A X.stack s H ⟨us,[]⟩ (us ++ ds) (vs ++ dvs) Q E hr I.JG (hb s us I.y7 hl) r2 h) fun r s' hq=>?_)
 cases r with
 | error e=>exact hx pins σ H s e s' I hq
 | ok fl=>
  cases fl with
  | ret u=>exact I.after hq
  | next=>exact False.elim hq
  | brk=>exact False.elim hq
  | cont=>exact False.elim hq
theorem qu (F:qJ X.prog X.w X.K X.mg X.base CX k f fd ps sp) (hr:kc k X.A) (hg:Gl X x) (hm:X.mg x=some (.ref f)) (hk:PySem.W.keepIn X.K (.ref f)=true) (hb:Binds X.K fd ps ds) (hd:Vals dvs ds) (hx:Passes CX X E)
  (ha:PA X (e :: es) t) (hdb:(x == ("__debug__" : Str))=false:=by decide) (he:starEach (e :: es) X.env=(false,eval e X.env) :: starEach es X.env:=by rfl) (hpl:(backTo pos (starEach es X.env)).any (·.1)=false:=by rfl) :
  PE X (.Call (.Name x p) (e :: es) [] pos) (QX sp dvs E t):=by
 intro pins s σ H Q I h
 refine wpAny_Call_Name_kw (yX I hg hm ?_ hdb)
 refine PySem.W.callWith_K (h₀:=X.base) I.ok.mod.a7 hk (jO (ha pos pins s σ H _ I h) fun us s1 ⟨vs,H1,I1,r,q⟩=>⟨I1.y7,?_⟩) he hpl
 exact lY F hr hb hd hx I1 r q
structure Mk (K:PySem.W.Frag) (C f:Addr):Prop where
 makes:PySem.W.makesIn K C=true
 init:PySem.W.findIn K (.ref C) "__init__" = some (some (.ref f))
 fn:PySem.W.isFn K (.ref f)=true
 kp:PySem.W.keepIn K (.ref C)=true
theorem tU {pins:List (Addr × Obj)} {σ:St} {H:Hp} {s:Shared} {Q:VK} {us:List Value} {vs:List V} (M:Mk X.K C f) (F:qJ X.prog X.w X.K X.mg X.base CX k f fd ps sp) (hr:kc (k + 1) X.A) (hb:Binds X.K fd ps ds) (hd:Vals dvs ds)
  (hx:Passes CX X E) (I:Inv X pins σ H s) (r:Vals vs us)
  (h:∀x dx,H x=none→H dx=none→dx≠x→sp (.ref x :: (vs ++ dvs)) (upd (upd H dx (.own x)) x (.ins C dx [])) (fun v H2=>v=.non∧Q (.ref x) H2) E) :
  wpAny (model X.prog X.w) X.A (call (.ref C) us) (EP X pins σ Q) X.xe s:=by
 have hq:=h (s.heap.objs.size + 1) s.heap.objs.size (I.jz.fresh (Nat.le_succ _)) (I.jz.fresh (Nat.le_refl _)) (Nat.ne_of_lt (Nat.lt_succ_self _))
 have I2:=Inv.made (C:=C) I
 have r2:Vals (V.ref (s.heap.objs.size + 1) :: (vs ++ dvs)) (Value.ref (s.heap.objs.size + 1) :: (us ++ ds)):=.cons rfl (r.append hd)
 have hl:(Value.ref (s.heap.objs.size + 1) :: us ++ ds).length=ps.length:=by
  have e:=r2.length
  rw[F.len _ _ _ _ hq] at e
  exact e.symm
 refine wpAny_call (Zz (f:=f) I.y7 M.makes M.init (beq_iff_eq.mp M.fn) (codeAny_mono (F.run _ X.stack _ _ ⟨Value.ref (s.heap.objs.size + 1) :: us,[]⟩ (Value.ref (s.heap.objs.size + 1) :: (us ++ ds)) _ _ E (hr.make C us [])
  (I2.JG.make C us []) (hb _ (Value.ref (s.heap.objs.size + 1) :: us) I2.y7 hl) r2 hq) fun r s' hq'=>?_))
 cases r with
 | error e=>exact hx pins σ _ _ e s' I2 hq'
 | ok fl=>
  cases fl with
  | ret u=>
   obtain⟨v,H',I3,rv,ev,q3⟩:=I2.after hq'
   subst ev
   exact⟨rv,⟨V.ref (s.heap.objs.size + 1),H',I3,rfl,q3⟩⟩
  | next=>exact False.elim hq'
  | brk=>exact False.elim hq'
  | cont=>exact False.elim hq'
theorem vL (M:Mk X.K C f) (F:qJ X.prog X.w X.K X.mg X.base CX k f fd ps sp) (hr:kc (k + 1) X.A) (hg:Gl X x) (hm:X.mg x=some (.ref C)) (hb:Binds X.K fd ps ds) (hd:Vals dvs ds) (hx:Passes CX X E)
  (ha:PA X (e :: es) t) (hdb:(x == ("__debug__" : Str))=false:=by decide) (he:starEach (e :: es) X.env=(false,eval e X.env) :: starEach es X.env:=by rfl) (hpl:(backTo pos (starEach es X.env)).any (·.1)=false:=by rfl) :
  PE X (.Call (.Name x p) (e :: es) [] pos) (Xr C sp dvs E t):=by
 intro pins s σ H Q I h
 refine wpAny_Call_Name_kw (yX I hg hm ?_ hdb)
 refine PySem.W.callWith_K (h₀:=X.base) I.ok.mod.a7 M.kp (jO (ha pos pins s σ H _ I h) fun us s1 ⟨vs,H1,I1,r,q⟩=>⟨I1.y7,?_⟩) he hpl
 exact tU M F hr hb hd hx I1 r q
theorem Zx (M:Mk X.K C f) (F:qJ X.prog X.w X.K X.mg X.base CX k f fd ps sp) (hr:kc (k + 1) X.A) (hg:Gl X x) (hm:X.mg x=some (.ref C)) (hb:Binds X.K fd ps ds) (hd:Vals dvs ds) (hx:Passes CX X E)
  (hdb:(x == ("__debug__" : Str))=false:=by decide):PE X (.Call (.Name x p) [] [] pos) (Xr C sp dvs E Vu):=by
 intro pins s σ H Q I h
 refine wpAny_Call_Name_kw (yX I hg hm ?_ hdb)
 exact PySem.W.callWith_K0 I.y7 M.kp (tU (us:=[]) M F hr hb hd hx I .nil h)
end
noncomputable def PK (X:Cx) (kws:List Keyword) (t:TA):Prop:=
 ∀(pos:Pos) (pins:List (Addr × Obj)) (s:Shared) (σ:St) (H:Hp) (Q:List V→Hp→Prop),Inv X pins σ H s→t σ H Q→wpAny (model X.prog X.w) X.A (evalAll ((backToKw pos (keywordEach kws X.env)).map (·.2))) (AP X pins σ Q) X.xe s
section
variable {X:Cx} {CX:uX} {k:Nat} {f C:Addr} {fd:FuncData} {ps ks:List Str} {sp:Sp} {E:XK} {x m:Str} {p pos apos kpos:Pos} {e o:Expr} {es:List Expr} {kws:List Keyword} {te ta:TE} {t tk:TA} {nm:Option Str}
structure Yq (K:PySem.W.Frag) (fd:FuncData) (ps ks:List Str) (g:List Value→List Value→List Value) (gV:List V→List V→List V):Prop where
 to:∀(s:Shared) (us ws:List Value),K.In s.heap→(g us ws).length=ps.length→BindsTo s fd ⟨us,ks.zip ws⟩ (ps.zip (g us ws))
 rel:∀{vs:List V} {us:List Value} {zs:List V} {ws:List Value},Vals vs us→Vals zs ws→Vals (gV vs zs) (g us ws)
noncomputable def W6 (sp:Sp) (gV:List V→List V→List V) (E:XK) (t tk:TA):TE:=fun σ H Q=>t σ H fun vs H1=>tk σ H1 fun zs H2=>sp (gV vs zs) H2 Q E
variable {g:List Value→List Value→List Value} {gV:List V→List V→List V}
end
structure qQ (N P:List Str) (sc:Scope):Prop where
 kind:sc.kind=.function
 co:sc.isCoroutine=false
 gen:sc.isGenerator=false
 nd:N.Nodup
 pre:N.take P.length=P
 par:∀x∈P,sc.names.lookup x=some .local∨sc.names.lookup x=some .cell
 Kk:∀y∈sc.names,y.2≠.free
theorem rZ {kindOf:Str→Option NameKind} {x:Str}:∀{binds:List (Str × Value)} {m:Str→Option Value},(∀v,(x,v)∉binds)→bindL kindOf binds m x=m x
 | [],_,_=>rfl
 | (n,v) :: r,m,h=>by
  unfold bindL
  rw[rZ fun w hw=>h w (List.mem_cons_of_mem _ hw)]
  split
  ·have:x≠n:=by rintro rfl;exact h v List.mem_cons_self
   simp [this]
  ·rfl
theorem rK {kindOf:Str→Option NameKind} {x:Str}:∀{binds:List (Str × Value)} {m:Str→Option Value},(∀v,(x,v)∉binds)→bindC kindOf binds m x=m x
 | [],_,_=>rfl
 | (n,v) :: r,m,h=>by
  unfold bindC
  rw[rK fun w hw=>h w (List.mem_cons_of_mem _ hw)]
  split
  ·rfl
  ·have:x≠n:=by rintro rfl;exact h v List.mem_cons_self
   simp [this]
theorem uN {kindOf:Str→Option NameKind} {x:Str} {v:Value}:∀{P:List Str} {vs:List Value} {i:Nat} {m:Str→Option Value},P.Nodup→P[i]?=some x→vs[i]?=some v→kindOf x=some .local→
  bindL kindOf (P.zip vs) m x=some v
 | [],_,_,_,_,h,_,_=>by simp at h
 | _ :: _,[],_,_,_,_,h,_=>by simp at h
 | p :: P,w :: vs,0,m,nd,h1,h2,hk=>by
  simp at h1 h2;subst h1;subst h2
  show bindL kindOf ((p,w) :: P.zip vs) m p=_
  unfold bindL
  rw[rZ fun v hv=>(List.nodup_cons.mp nd).1 (List.of_mem_zip hv).1,if_pos hk]
  simp
 | p :: P,w :: vs,i + 1,m,nd,h1,h2,hk=>by
  show bindL kindOf ((p,w) :: P.zip vs) m x=_
  unfold bindL
  exact uN (i:=i) (List.nodup_cons.mp nd).2 (by simpa using h1) (by simpa using h2) hk
theorem rj {kindOf:Str→Option NameKind} {x:Str} {v:Value}:∀{P:List Str} {vs:List Value} {i:Nat} {m:Str→Option Value},P.Nodup→P[i]?=some x→vs[i]?=some v→kindOf x≠some .local→
  bindC kindOf (P.zip vs) m x=some v
 | [],_,_,_,_,h,_,_=>by simp at h
 | _ :: _,[],_,_,_,_,h,_=>by simp at h
 | p :: P,w :: vs,0,m,nd,h1,h2,hk=>by
  simp at h1 h2;subst h1;subst h2
  show bindC kindOf ((p,w) :: P.zip vs) m p=_
  unfold bindC
  rw[rK fun v hv=>(List.nodup_cons.mp nd).1 (List.of_mem_zip hv).1,if_neg hk]
  simp
 | p :: P,w :: vs,i + 1,m,nd,h1,h2,hk=>by
  show bindC kindOf ((p,w) :: P.zip vs) m x=_
  unfold bindC
  exact rj (i:=i) (List.nodup_cons.mp nd).2 (by simpa using h1) (by simpa using h2) hk
noncomputable def start (N:List Str) (vs:List V):St:=vs.map some ++ List.replicate (N.length - vs.length) none
noncomputable def lz (CX:uX) (P:Program) (w:World) (K:PySem.W.Frag) (mg:Str→Option Value) (base:Heap) (N:List Str) (qual:Str) (scope:Scope) (f:Addr) (cd:Value) (A:Around) (outer:List Env) (s:Shared) (H:Hp) (E:XK):Cx where
 prog:=P
 w:=w
 K:=K
 mg:=mg
 base:=base
 A:=A.deeper (envOfC qual scope s.heap.objs.size f cd)
 N:=N
 s₀:=s
 H₀:=H
 env:=envOfC qual scope s.heap.objs.size f cd
 outer:=outer
 stack:=envOfC qual scope s.heap.objs.size f cd :: outer
 ex:=[]
 calm:=true
 fn:=fun _=>true
 pn:=[]
 xe:=fun e s'=>wpAny (model P w) (A.deeper (envOfC qual scope s.heap.objs.size f cd)) (leaving (envOfC qual scope s.heap.objs.size f cd) e) (fun _ s''=>CX outer H s E e s'') (fun e' s''=>CX outer H s E e' s'') s'
theorem nY {sc:Scope} {n:Nat} {x:Str} (h:sc.names.lookup x=some .cell):∃c,(cellsFrom n sc.names []).lookup x=some c:=by
 have q:=PySem.W.cellsFrom_some sc.names n [] (.inl h)
 exact Option.isSome_iff_exists.mp q
theorem ae {CX:uX} {P:Program} {w:World} {K:PySem.W.Frag} {mg:Str→Option Value} {base:Heap} {N ps:List Str} {qual:Str} {scope:Scope} {f:Addr} {cd:Value} {A:Around} {outer:List Env} {s s1:Shared} {H:Hp} {E:XK} {us:List Value} {vs:List V}
  (S:qQ N ps scope) (hd:A.handled=none) (e0:nP P w K mg base A outer s H) (hl:vs.length=ps.length) (r:Vals vs us)
  (x:InCallC s s.heap.objs.size (bindL (envOfC qual scope s.heap.objs.size f cd).kindOf (ps.zip us) fun _=>none) (cellsFrom (s.heap.objs.size + 1) scope.names []) (bindC (envOfC qual scope s.heap.objs.size f cd).kindOf (ps.zip us) fun _=>none) s1) :
  Inv (lz CX P w K mg base N qual scope f cd A outer s H E) [] (start N vs) H s1:=by
 have hpl:ps.length≤N.length:=by have:=congrArg List.length S.pre;rw[List.length_take] at this;omega
 obtain⟨h1,tk,rfl,hk⟩:=x.done
 have noA:∀b:Addr,b∉(lz CX P w K mg base N qual scope f cd A outer s H E).ex:=fun b z=>absurd (show b∈([]:List Addr) from z) (by simp)
 refine⟨⟨e0.mod,S.kind,rfl,rfl,Nat.le_refl _,fun y z c h1 h2=>?_,fun y hy=>?_,fun y c _ h=>?_,fun _=>hd,Around.frames_deeper e0.frames,.inr ⟨rfl,rfl⟩,fun b z=>absurd z (noA b),e0.bs,e0.eP,fun b _ _=>noA b,fun b z=>absurd z (noA b),e0.m5,e0.XW⟩,
  rfl,e0.bare,Un.kept hk,⟨_,x.toInCall.ns,fun i y v h1 h2 h3=>?_⟩,fun y c h=>⟨_,x.cell y c h⟩,e0.jz.fresh (Nat.le_refl _),fun y c h=>?_,fun p hp=>absurd (show p∈([]:List (Addr × Obj)) from hp) (by simp),e0.jz.kept hk,?_⟩
 ·exact name_of_addr x.apart (PySem.mem_of_lookup h1) (PySem.mem_of_lookup h2)
 ·have hy:scope.names.lookup y=some .cell∨scope.names.lookup y=some .free:=hy
  rcases hy with hy | hy
  ·exact nY hy
  ·exact absurd rfl (S.Kk _ (PySem.mem_of_lookup hy))
 ·exact Nat.le_of_lt (x.above y c (PySem.mem_of_lookup h))
 ·have hi:i < vs.length:=by
   unfold start at h2
   by_cases hi:i < vs.length
   ·exact hi
   ·rw[List.getElem?_append_right (by simpa using hi)] at h2
    rw[List.getElem?_replicate] at h2
    split at h2<;>cases h2
  have ha:vs[i]?=some v:=by
   unfold start at h2
   rw[List.getElem?_append_left (by simpa using hi),List.getElem?_map] at h2
   cases e:vs[i]? with
   | none=>rw[e] at h2;cases h2
   | some a=>rw[e] at h2;cases h2;rfl
  obtain⟨u,hu,rv⟩:=r.get ha
  have hp:ps[i]?=some y:=by
   rw[←S.pre,List.getElem?_take_of_lt (by omega)];exact h1
  have ndP:ps.Nodup:=by rw[←S.pre];exact S.nd.sublist (List.take_sublist _ _)
  refine⟨u,rv,?_⟩
  rcases S.par y (List.mem_of_getElem? hp) with k | k
  ·exact .inl ⟨k,uN ndP hp hu k⟩
  ·obtain⟨c,e⟩:=nY (n:=s.heap.objs.size + 1) k
   refine .inr ⟨.inl k,c,e,?_⟩
   have q:=x.cell y c e
   rw[rj ndP hp hu (by show scope.names.lookup y≠_;rw[k];decide)] at q
   exact q
 ·exact e0.jz.fresh (Nat.le_of_lt (x.above y c (PySem.mem_of_lookup h)))
 ·unfold start
  show _=N.length
  rw[List.length_append,List.length_map,List.length_replicate]
  omega
theorem Xc {CX:uX} {P:Program} {w:World} {K:PySem.W.Frag} {mg:Str→Option Value} {base:Heap} {k:Nat} {f:Addr} {name qual:Str} {params:Arguments} {body:List Stmt} {scope:Scope} {dV kV doc pm cdv ct oc:Value} {an od:Option Addr}
  {osl:Array (Option Value)} {N ps:List Str} {sp:Sp} (lk:K.lookup f=some ⟨oc,od,.func (PySem.W.fnOf name qual params body scope dV kV doc pm an cdv ct),osl⟩) (hcd:PySem.W.codeIn K cdv qual=true) (S:qQ N ps scope)
  (len:∀vs H Q E,sp vs H Q E→vs.length=ps.length)
  (hbody:∀(A:Around) (outer:List Env) (s:Shared) (H:Hp) (vs:List V) (Q:VK) (E:XK),kc k (A.deeper (envOfC qual scope s.heap.objs.size f cdv))→sp vs H Q E→
   ∃t,iy (lz CX P w K mg base N qual scope f cdv A outer s H E) body t∧t { nx:=fun _ H'=>Q .non H',rt:=Q } (start N vs) H) :
  qJ P w K mg base CX (k + 1) f (PySem.W.fnOf name qual params body scope dV kV doc pm an cdv ct) ps sp:=by
 refine⟨len,fun A outer s H args us vs Q E hr e0 hb r hsp=>?_⟩
 have hl:=len _ _ _ _ hsp
 have KX:K.In s.heap:=e0.mod.a7.keeps fun b o e=>(e0.bs b o e).1
 have lim:s.heap.NoLimit:=e0.mod.nolimit.keeps fun b o e=>(e0.bs b o e).1
 have hkind:∀y∈ps.zip us,scope.names.lookup y.1=some .local∨(scope.names.lookup y.1=some .cell∧((cellsFrom (s.heap.objs.size + 1) scope.names []).lookup y.1).isSome=true):=fun ⟨n,v⟩ hy=>by
  rcases S.par n (List.of_mem_zip hy).1 with q | q
  ·exact .inl q
  ·exact .inr ⟨q,PySem.W.cellsFrom_some _ _ _ (.inl q)⟩
 refine codeAny_call_function hr.depth (KX _ _ lk) rfl S.co S.gen rfl (PySem.W.codeRec_of KX hcd) (hb _ _ _ _ ?_)
 refine wpAny_newFunctionEnv_cells S.kind hkind fun env he s1 x=>?_
 subst he
 refine⟨lim.keeps x.toInCall.keep,codeAny_func ?_⟩
 obtain⟨t,ht,hq⟩:=hbody A outer s H vs Q E (hr.deeper _) hsp
 have I:Inv (lz CX P w K mg base N qual scope f cdv A outer s H E) [] (start N vs) H s1:=ae S hr.hd e0 hl r x
 refine wpAny_mono (ht [] s1 (start N vs) H _ I hq) (fun fl s' hs=>?_) fun e s' hs=>hs
 have fin:∀{σ':St} {H':Hp} {v:V} {u:Value},Inv (lz CX P w K mg base N qual scope f cdv A outer s H E) [] σ' H' s'→RelV v u→Q v H'→CE outer P w H s Q u s':=
  fun {σ' H' v u} J rv q=>⟨v,H',J.os,J.bare,J.base,J.jz,rv,q⟩
 cases fl with
 | ret u=>
  obtain⟨v,σ',H',J,rv,q⟩:=hs
  exact fin J rv q
 | next=>
  obtain⟨σ',H',J,q⟩:=hs
  exact fin (v:=V.non) (u:=Value.none) J rfl q
 | brk=>
  obtain⟨_,_,_,q⟩:=hs
  exact False.elim q
 | cont=>
  obtain⟨_,_,_,q⟩:=hs
  exact False.elim q
end L2
namespace L2
open PySem PySem.Spec PyProof.Rows
section
variable {X:Cx} {x:Str} {p pos:Pos} {e:Expr} {es:List Expr} {t:TA} {id T:String} {r:List V→Hp→VK→Prop}
noncomputable def YA (r:List V→Hp→VK→Prop) (t:TA):TE:=fun σ H Q=>t σ H fun vs H1=>r vs H1 Q
theorem qZ (hc:kD X (.builtin id) r) (hg:Gl X x) (hm:X.mg x=none) (hv:bootBuiltins x=some (.builtin id)) (ha:PA X (e :: es) t) (hn:x≠"__name__":=by decide) (hdb:(x == ("__debug__" : Str))=false:=by decide)
  (he:starEach (e :: es) X.env=(false,eval e X.env) :: starEach es X.env:=by rfl) (hpl:(backTo pos (starEach es X.env)).any (·.1)=false:=by rfl):PE X (.Call (.Name x p) (e :: es) [] pos) (YA r t):=by
 intro pins s σ H Q I h
 refine wpAny_Call_Name_kw (mS I hg hm hv ?_ hn hdb)
 exact PyProof.Rows.callWith_builtin1 (jO (ha pos pins s σ H _ I h) fun us s1 ⟨vs,H1,I1,r1,q1⟩=>hc pins s1 σ H1 vs us Q I1 r1 q1) he hpl
theorem jB (hc:kD X (.type T) r) (hg:Gl X x) (hm:X.mg x=none) (hv:bootBuiltins x=some (.type T)) (ha:PA X (e :: es) t) (hn:x≠"__name__":=by decide) (hdb:(x == ("__debug__" : Str))=false:=by decide)
  (he:starEach (e :: es) X.env=(false,eval e X.env) :: starEach es X.env:=by rfl) (hpl:(backTo pos (starEach es X.env)).any (·.1)=false:=by rfl):PE X (.Call (.Name x p) (e :: es) [] pos) (YA r t):=by
 intro pins s σ H Q I h
 refine wpAny_Call_Name_kw (mS I hg hm hv ?_ hn hdb)
 exact PyProof.Rows.callWith_type1 (jO (ha pos pins s σ H _ I h) fun us s1 ⟨vs,H1,I1,r1,q1⟩=>hc pins s1 σ H1 vs us Q I1 r1 q1) he hpl
end
end L2
namespace HT
open PySem PyProof.Rows
noncomputable def lexLt:List Int→List Int→Bool
 | [],[]=>false
 | [],_ :: _=>true
 | _ :: _,[]=>false
 | x :: xs,y :: ys=>if x=y then lexLt xs ys else decide (x < y)
section
open PySem.SeqAt
open PySem.AutoSeq1 (wpAny_loadPart')
open PySem.MeetsSeq PySem.MeetsSeq2 PySem.MeetsSeq3
end
section
variable {prog:Program} {w:World} {A:Around} {E:Value→Shared→Prop} {s:Shared}
noncomputable def lG (n d:Nat):Option Int→Nat
 | none=>d
 | some v=>if v < 0 then (v + (n:Int)).toNat else min v.toNat n
theorem tY (n d:Nat):lG n d none=d:=rfl
theorem pZ (n d k:Nat):lG n d (some (k:Int))=min k n:=by
 show (if (k:Int) < 0 then ((k:Int) + (n:Int)).toNat else min (k:Int).toNat n)=min k n
 rw[if_neg (by omega),Int.toNat_natCast]
end
end HT
namespace L2
open PySem PySem.Spec PyProof.Rows
noncomputable abbrev TO:=St→Hp→(Option Int→Hp→Prop)→Prop
noncomputable def PO (X:Cx) (e:Option Expr) (t:TO):Prop:=
 ∀(pins:List (Addr × Obj)) (s:Shared) (σ:St) (H:Hp) (Q:Option Int→Hp→Prop),Inv X pins σ H s→t σ H Q→
  wpAny (model X.prog X.w) X.A (evalPart e X.env) (fun u s'=>∃o H',Inv X pins σ H' s'∧IsPart u o∧Q o H') X.xe s
noncomputable def Ji:TO:=fun _ H Q=>Q none H
noncomputable def We (t:TE):TO:=fun σ H Q=>t σ H fun x H1=>∃i,x=.int i∧Q (some i) H1
section
variable {X:Cx} {e:Expr} {te:TE} {lo hi:Option Expr} {tl th:TO} {pos p2:Pos}
theorem vU:PO X none Ji:=by
 intro pins s σ H Q I h
 rw[evalPart_none]
 exact wpAny_pure ⟨none,H,I,.none,h⟩
theorem xR (h:PE X e te):PO X (some e) (We te):=by
 intro pins s σ H Q I hw
 rw[evalPart_some]
 refine jO (h pins s σ H _ I hw) fun u s1 ⟨x,H1,I1,r1,q1⟩=>?_
 obtain⟨i,rfl,q⟩:=q1
 obtain⟨t,rfl⟩:=r1
 exact⟨some i,H1,I1,.int i t,q⟩
noncomputable def XI (X:Cx) (r:V→Option Int→Option Int→Hp→VK→Prop):Prop:=
 ∀(pins:List (Addr × Obj)) (s:Shared) (σ:St) (H:Hp) (x:V) (v vl vu:Value) (lo hi:Option Int) (sl:Addr) (Q:VK),Inv X pins σ H s→RelV x v→s.heap.IsSliceOf sl vl vu .none→IsPart vl lo→IsPart vu hi→r x lo hi H Q→
  ∃T id,typeLookup (.type T) "__getitem__" = pure (some (.builtin id))∧s.TypeIs v T∧wpAny (model X.prog X.w) X.A (getItem v (.ref sl)) (EP X pins σ Q) X.xe s
noncomputable def G1 (r:V→Option Int→Option Int→Hp→VK→Prop) (te:TE) (tl th:TO):TE:=fun σ H Q=>te σ H fun x H1=>tl σ H1 fun l H2=>th σ H2 fun u H3=>r x l u H3 Q
theorem xH {r:V→Option Int→Option Int→Hp→VK→Prop} (hr:XI X r) (he:PE X e te) (hl:PO X lo tl) (hu:PO X hi th):PE X (.Subscript e (.Slice lo hi none p2) pos) (G1 r te tl th):=by
 intro pins s σ H Q I h
 refine Subscript_ (jO (he pins s σ H _ I h) fun v s1 ⟨x,H1,I1,r1,q1⟩=>?_)
 refine wpAny_Slice (jO (hl pins s1 σ H1 _ I1 q1) fun vl s2 ⟨l,H2,I2,pl,q2⟩=>jO (hu pins s2 σ H2 _ I2 q2) fun vu s3 ⟨u,H3,I3,pu,q3⟩=>?_)
 rw[evalPart_none]
 refine wpAny_pure ?_
 have I4:Inv X pins σ H3 { s3 with heap:=s3.heap.push { cls:=.type "slice",data:=.fields #[vl,vu,.none] } }:=I3.kept (t':=s3.toks) fun b ob q=>Heap.get?_push_of_some _ q
 obtain⟨T,id,hT,ht,hg⟩:=hr pins { s3 with heap:=s3.heap.push { cls:=.type "slice",data:=.fields #[vl,vu,.none] } } σ H3 x v vl vu l u s3.heap.objs.size Q I4 r1 (Heap.IsSliceOf.new ..) pl pu q3
 show wpAny (model X.prog X.w) X.A (subscriptTail e (.Slice lo hi none p2) v (.ref s3.heap.objs.size)) (EP X pins σ Q) X.xe { s3 with heap:=s3.heap.push { cls:=.type "slice",data:=.fields #[vl,vu,.none] } }
 exact tail_any (ops:=[.ref s3.heap.objs.size,v]) ht hT hg (by with_unfolding_all rfl)
noncomputable def hU (xs:List V) (lo hi:Option Int):List V:=(xs.drop (HT.lG xs.length 0 lo)).take (HT.lG xs.length xs.length hi - HT.lG xs.length 0 lo)
theorem sF (xs:List V) (lo hi:Option Int):(hU xs lo hi).length≤xs.length:=by
 unfold hU
 rw[List.length_take,List.length_drop]
 omega
noncomputable def GQ (K:PySem.W.Frag):V→Option Int→Option Int→Hp→VK→Prop:=fun x lo hi H Q=>∃a xs,x=.ref a∧pD K H a xs∧
 ¬(HT.lG xs.length 0 lo=0∧HT.lG xs.length xs.length hi=xs.length)∧∀p,H p=none→Q (.ref p) (upd H p (.tup (hU xs lo hi)))
noncomputable def G6 (K:PySem.W.Frag):R2:=fun x y H Q=>∃a b ns ms,x=.ref a∧y=.ref b∧pD K H a (ns.map V.int)∧pD K H b (ms.map V.int)∧Q (.bl (HT.lexLt ns ms)) H
noncomputable def Gw (K:PySem.W.Frag):R2:=fun x y H Q=>∃a b xs ys,x=.ref a∧y=.ref b∧pD K H a xs∧pD K H b ys∧xs≠[]∧xs.length + ys.length≤sizeLine∧
 (ys=[]→Q (.ref a) H)∧(ys≠[]→∀p,H p=none→Q (.ref p) (upd H p (.tup (xs ++ ys))))
end
end L2
namespace L2
open PySem PySem.Spec PyProof.Rows
noncomputable def J9 (n:Nat) (i:Int):Option Nat:=if 0≤i then (if i < n then some i.toNat else none) else if -(n:Int)≤i then some (i + n).toNat else none
noncomputable def uL {α:Type} (xs:List α) (i:Int):Option α:=(J9 xs.length i).bind fun j=>xs[j]?
theorem Xy {n:Nat} {i:Int} {j:Nat} (h:J9 n i=some j):seqIndex? i n=some j∧j < n∧-(n:Int)≤i∧i < n:=by
 unfold J9 at h
 by_cases h0:0≤i
 ·rw[if_pos h0] at h
  by_cases h1:i < n
  ·rw[if_pos h1] at h
   have e:i.toNat=j:=Option.some.inj h
   exact⟨by rw[seqIndex_of h0 h1,e],by omega,by omega,h1⟩
  ·rw[if_neg h1] at h;cases h
 ·rw[if_neg h0] at h
  by_cases h1:-(n:Int)≤i
  ·rw[if_pos h1] at h
   have e:(i + n).toNat=j:=Option.some.inj h
   exact⟨by rw[seqIndex_neg (by omega) h1,e],by omega,h1,by omega⟩
  ·rw[if_neg h1] at h;cases h
theorem sv {α:Type} {xs:List α} {i:Int} {v:α} (h:uL xs i=some v):∃j,seqIndex? i xs.length=some j∧xs[j]?=some v∧j < xs.length∧-(xs.length:Int)≤i∧i < xs.length:=by
 unfold uL at h
 cases e:J9 xs.length i with
 | none=>rw[e] at h;cases h
 | some j=>
  rw[e] at h
  obtain⟨h1,h2,h3,h4⟩:=Xy e
  exact⟨j,h1,h,h2,h3,h4⟩
theorem sr {α:Type} {xs:List α} {j:Nat} {v:α} (h:xs[j]?=some v):uL xs (j:Int)=some v:=by
 have hj:j < xs.length:=(List.getElem?_eq_some_iff.mp h).1
 have e:J9 xs.length (j:Int)=some j:=by
  unfold J9
  rw[if_pos (by omega),if_pos (by omega)];simp
 unfold uL;rw[e];exact h
theorem Z0 {α:Type} (xs:List α) (v:α):uL (xs ++ [v]) (-1)=some v:=by
 have hl:(xs ++ [v]).length=xs.length + 1:=by simp
 have e:J9 (xs ++ [v]).length (-1)=some xs.length:=by
  unfold J9
  rw[hl,if_neg (by decide),if_pos (by omega)]
  congr 1
  omega
 unfold uL
 rw[e]
 show (xs ++ [v])[xs.length]?=some v
 simp
noncomputable def JV (b:Expr):Prop:=∀o i,subscripted b false o i=operate [o,i] (getItem o i)
noncomputable def Ve (X:Cx) (r:R2):Prop:=
 ∀(value slice:Expr) (pins:List (Addr × Obj)) (s:Shared) (σ:St) (H:Hp) (x y:V) (v u:Value) (Q:VK),Inv X pins σ H s→RelV x v→RelV y u→r x y H Q→
  subscripted slice false v u=operate [v,u] (getItem v u)→wpAny (model X.prog X.w) X.A (subscriptTail value slice v u) (EP X pins σ Q) X.xe s
noncomputable def aE (X:Cx) (id:String) (r:V→List V→Hp→VK→Prop):Prop:=
 ∀(pins:List (Addr × Obj)) (s:Shared) (σ:St) (H:Hp) (x:V) (xs:List V) (v:Value) (us:List Value) (Q:VK),Inv X pins σ H s→RelV x v→Vals xs us→r x xs H Q→
  wpAny (model X.prog X.w) X.A (call (.builtin id) (v :: us)) (EP X pins σ Q) X.xe s
section
variable {X:Cx} {a b:Expr} {ta tb:TE} {pos:Pos}
theorem qo {r:R2} (hr:Ve X r) (ha:PE X a ta) (hb:PE X b tb) (hs:JV b):PE X (.Subscript a b pos) (WV r ta tb):=by
 intro pins s σ H Q I h
 exact Subscript_ (Kh ha hb I h fun v u s2 x y H2 I2 rx ry q=>hr a b pins s2 σ H2 x y v u Q I2 rx ry q (hs _ _))
noncomputable def KO (K:PySem.W.Frag):R2:=fun x y H Q=>∃p xs i v,x=.ref p∧y=.int i∧q0 K H p xs∧uL xs i=some v∧Q v H
noncomputable def KI (K:PySem.W.Frag):R2:=fun x y H Q=>∃p xs i v,x=.ref p∧y=.int i∧pD K H p xs∧uL xs i=some v∧Q v H
noncomputable def VX:R2:=fun x y H Q=>∃z i c,x=.str z∧y=.int i∧z.length≤sizeLine∧uL z.cps.toList i=some c∧Q (.str ⟨#[c]⟩) H
theorem Jh:Ve X (KO X.K):=by
 intro value slice pins s σ H x y v u Q I rx ry h hs
 obtain⟨p,xs,i,z,rfl,rfl,hq,he,q⟩:=h
 cases rx
 obtain⟨t,rfl⟩:=ry
 obtain⟨its,r,pl,hz⟩:=I.list hq
 obtain⟨j,h1,h2,h3,h4,h5⟩:=sv he
 obtain⟨w,ew,rw'⟩:=r.get h2
 have hl:=r.length
 have hn:=cC
 have fin:EP X pins σ Q w s:=⟨z,H,I,rw',q⟩
 by_cases h0:0≤i
 ·have hj:i.toNat=j:=by
   rw[seqIndex_of h0 h5] at h1
   exact Option.some.inj h1
  exact item_listR pl.isList h0 (by omega) (by rw[hj];simpa using ew) fin hs
 ·have hj:(i + (its.toArray.size:Int)).toNat=j:=by
   rw[seqIndex_neg (by omega) h4] at h1
   rw[List.size_toArray,←hl]
   exact Option.some.inj h1
  exact subscriptTail_builtinR (x:=w) pl.isList.typeIs slot_list_getitem.lookup
   (wpAny_getItem_list_neg (Q:=fun r s'=>r=w∧EP X pins σ Q r s') pl.isList (by omega) (by rw[List.size_toArray]<;>omega) (by omega) (by rw[hj];simpa using ew) ⟨rfl,fin⟩) hs
theorem K3:Ve X (KI X.K):=by
 intro value slice pins s σ H x y v u Q I rx ry h hs
 obtain⟨p,xs,i,z,rfl,rfl,hq,he,q⟩:=h
 cases rx
 obtain⟨t,rfl⟩:=ry
 obtain⟨its,r,pl,hz⟩:=I.tuple hq
 obtain⟨j,h1,h2,h3,h4,h5⟩:=sv he
 obtain⟨w,ew,rw'⟩:=r.get h2
 have hl:=r.length
 have hn:=cC
 have fin:EP X pins σ Q w s:=⟨z,H,I,rw',q⟩
 exact subscriptTail_builtinR (x:=w) pl.typeIs slot_tuple_getitem.lookup
  (getItem_tuple (j:=j) (Q:=fun r s'=>r=w∧EP X pins σ Q r s') pl (by omega) (by omega) (by rw[List.size_toArray,←hl];exact h1) (by simpa using ew) ⟨rfl,fin⟩) hs
theorem bP:Ve X VX:=by
 intro value slice pins s σ H x y v u Q I rx ry h hs
 obtain⟨z,i,c,rfl,rfl,hz,he,q⟩:=h
 obtain⟨t,rfl⟩:=rx
 obtain⟨t',rfl⟩:=ry
 obtain⟨j,h1,h2,h3,h4,h5⟩:=sv he
 have hl:z.cps.toList.length=z.length:=by simp [Str.length]
 rw[hl] at h1 h4 h5
 have hn:=cC
 exact tail_any (typeIs_str s z t) slot_str_getitem.lookup (getItem_str (c:=c) (by
  have e1:decide (i < -(2 ^ 63:Int))=false:=decide_eq_false (by omega)
  have e2:decide (i≥2 ^ 63)=false:=decide_eq_false (by omega)
  rw[e1,e2,Bool.or_false]) (by rw[h1];simpa using h2) ⟨.str ⟨#[c]⟩,H,I.tok _,⟨_,rfl⟩,q⟩) hs
noncomputable def Hf (K:PySem.W.Frag):R2:=fun x y H Q=>KO K x y H Q∨KI K x y H Q∨VX x y H Q
noncomputable def Gm:V→V→V→Hp→(Hp→Prop)→Prop:=fun o i v H Q=>∃p xs k j,o=.ref p∧i=.int k∧H p=some (.lst xs)∧J9 xs.length k=some j∧Q (upd H p (.lst (xs.set j v)))
theorem sY (lo hi:Option Int) (n:Nat):(sliceBounds lo hi none n).1=((HT.lG n 0 lo:Nat):Int)∧(sliceBounds lo hi none n).2.1=((HT.lG n n hi:Nat):Int)∧(sliceBounds lo hi none n).2.2=1:=by
 refine⟨?_,?_,rfl⟩
 ·cases lo with
  | none=>simp [sliceBounds,HT.lG]
  | some i=>
   simp only[sliceBounds,HT.lG,Option.getD_none,show (1:Int) > 0 by decide,if_true]
   by_cases h:i < 0
   ·simp only[h,if_true]<;>omega
   ·simp only[h,if_false]<;>omega
 ·cases hi with
  | none=>simp [sliceBounds,HT.lG]
  | some i=>
   simp only[sliceBounds,HT.lG,Option.getD_none,show (1:Int) > 0 by decide,if_true]
   by_cases h:i < 0
   ·simp only[h,if_true]<;>omega
   ·simp only[h,if_false]<;>omega
theorem uR (its:List Value) (lo hi:Option Int):slicePick its.toArray lo hi none=((its.drop (HT.lG its.length 0 lo)).take (HT.lG its.length its.length hi - HT.lG its.length 0 lo)).toArray:=by
 obtain⟨h1,h2,h3⟩:=sY lo hi its.toArray.size
 unfold slicePick
 rw[h1,h2,h3]
 simp only[sliceRange_one,pick_run,List.size_toArray]<;>rfl
noncomputable def YR (K:PySem.W.Frag):V→Option Int→Option Int→Hp→VK→Prop:=fun x lo hi H Q=>∃a xs,x=.ref a∧q0 K H a xs∧∀p,H p=none→Q (.ref p) (upd H p (.lst (hU xs lo hi)))
theorem Jo:XI X (YR X.K):=by
 intro pins s σ H x v vl vu lo hi sl Q I rx hs pl pu h
 obtain⟨a,xs,rfl,hx,q⟩:=h
 cases rx
 obtain⟨its,r,ht,hz⟩:=I.list hx
 have hlen:=r.length
 refine⟨"list",_,slot_list_getitem.lookup,ht.isList.typeIs,?_⟩
 refine wpAny_getItem_list_slice ht.isList hs pl pu .none (by simp) ?_ (by rw[List.size_toArray]<;>omega)
 rw[uR,←hlen]
 refine⟨.ref s.heap.objs.size,_,I.laid (t':=s.toks) (o:=.lst (hU xs lo hi)) (fun b ob q=>Heap.get?_push_of_some _ q) (Nat.le_refl _) ?_,rfl,q _ (I.jz.fresh (Nat.le_refl _))⟩
 exact⟨Nat.le_trans (sF xs lo hi) hz,_,0,(r.drop (HT.lG xs.length 0 lo)).take (HT.lG xs.length xs.length hi - HT.lG xs.length 0 lo),Heap.get?_push_size _ rfl⟩
noncomputable def pF:V→Bool
 | .non=>true
 | .bl _=>true
 | .int _=>true
 | .str _=>true
 | _=>false
noncomputable def Xk:V→V→Bool
 | .non,.non=>true
 | .bl a,.bl b=>a == b
 | .bl a,.int b=>(if a then 1 else 0) == b
 | .int a,.bl b=>a == (if b then 1 else 0)
 | .int a,.int b=>a == b
 | .str a,.str b=>a == b
 | _,_=>false
theorem KP {A:Around} {s:Shared} {y x:V} {u v:Value} (ry:RelV y u) (rx:RelV x v) (fy:pF y=true) (fx:pF x=true):SeqAt.EqAt A s u v (Xk y x):=by
 cases y with
 | non=>
  cases ry
  cases x with
  | non=>cases rx;exact SeqAt.EqAt.same _
  | bl b=>cases rx;exact SeqAt.EqAt.none_bool b
  | int b=>obtain⟨t,rfl⟩:=rx;exact SeqAt.EqAt.none_int b t
  | str b=>obtain⟨t,rfl⟩:=rx;exact SeqAt.EqAt.none_str b t
  | _=>exact absurd (show false=true from fx) Bool.false_ne_true
 | bl a=>
  cases ry
  cases x with
  | non=>cases rx;exact SeqAt.EqAt.bool_none a
  | bl b=>cases rx;exact SeqAt.EqAt.bool_bool a b
  | int b=>obtain⟨t,rfl⟩:=rx;exact SeqAt.EqAt.bool_int a b t
  | str b=>obtain⟨t,rfl⟩:=rx;exact SeqAt.EqAt.bool_str a b t
  | _=>exact absurd (show false=true from fx) Bool.false_ne_true
 | int a=>
  obtain⟨t',rfl⟩:=ry
  cases x with
  | non=>cases rx;exact SeqAt.EqAt.int_none a t'
  | bl b=>cases rx;exact SeqAt.EqAt.int_bool a t' b
  | int b=>obtain⟨t,rfl⟩:=rx;exact SeqAt.EqAt.int_int a t' b t
  | str b=>obtain⟨t,rfl⟩:=rx;exact SeqAt.EqAt.int_str a t' b t
  | _=>exact absurd (show false=true from fx) Bool.false_ne_true
 | str a=>
  obtain⟨t',rfl⟩:=ry
  cases x with
  | non=>cases rx;exact SeqAt.EqAt.str_none a t'
  | bl b=>cases rx;exact SeqAt.EqAt.str_bool a t' b
  | int b=>obtain⟨t,rfl⟩:=rx;exact SeqAt.EqAt.str_int a t' b t
  | str b=>obtain⟨t,rfl⟩:=rx;exact SeqAt.EqAt.str_str a t' b t
  | _=>exact absurd (show false=true from fx) Bool.false_ne_true
 | _=>exact absurd (show false=true from fy) Bool.false_ne_true
noncomputable def Jm (x:V) (u:Value):Bool:=match u with
 | .none=>Xk .non x
 | .bool b=>Xk (.bl b) x
 | .int i _=>Xk (.int i) x
 | .str z _=>Xk (.str z) x
 | _=>false
theorem ZO {x y:V} {u:Value} (r:RelV y u) (f:pF y=true):Jm x u=Xk y x:=by
 cases y with
 | non=>cases r;rfl
 | bl b=>cases r;rfl
 | int i=>obtain⟨t,rfl⟩:=r;rfl
 | str z=>obtain⟨t,rfl⟩:=r;rfl
 | _=>exact absurd (show false=true from f) Bool.false_ne_true
theorem sV {x:V}:∀{xs:List V} {us:List Value},Vals xs us→xs.all pF=true→us.any (Jm x)=xs.any fun y=>Xk y x
 | _,_,.nil,_=>rfl
 | y :: xs,u :: us,.cons r t,f=>by
  rw[List.all_cons,Bool.and_eq_true] at f
  rw[List.any_cons,List.any_cons,ZO r f.1,sV t f.2]
theorem uc {A:Around} {s:Shared} {x:V} {v:Value} (rx:RelV x v) (fx:pF x=true):∀{xs:List V} {us:List Value},Vals xs us→xs.all pF=true→∀u∈us,SeqAt.EqAt A s u v (Jm x u)
 | _,_,.nil,_=>fun u hu=>by cases hu
 | y :: xs,u :: us,.cons r t,f=>fun u' hu=>by
  rw[List.all_cons,Bool.and_eq_true] at f
  rcases List.mem_cons.mp hu with rfl | hu
  ·rw[ZO r f.1];exact KP r rx f.1 fx
  ·exact uc rx fx t f.2 u' hu
noncomputable def JT (x:V) (xs:List V):Bool:=xs.any fun y=>Xk y x
noncomputable def Y9 (K:PySem.W.Frag) (neg:Bool):R2:=fun x y H Q=>∃p xs,y=.ref p∧(q0 K H p xs∨pD K H p xs)∧pF x=true∧xs.all pF=true∧Q (.bl (if neg then !JT x xs else JT x xs)) H
theorem lK:bG X (compareOp .NotIn) (Y9 X.K true):=by
 intro pins s σ H x y v u Q I rx ry h
 obtain⟨p,xs,rfl,hq,fx,fs,q⟩:=h
 cases ry
 rcases hq with hq | hq
 ·obtain⟨its,r,pl,hz⟩:=I.list hq
  refine SeqAt.notIn_listAt (Jm x) pl.isList (fun w hw=>uc rx fx r fs w (by simpa using hw)) ⟨.bl _,H,I,rfl,?_⟩
  rw[show its.toArray.any (Jm x)=its.any (Jm x) by simp,sV r fs]
  exact q
 ·obtain⟨its,r,pl,hz⟩:=I.tuple hq
  refine SeqAt.notIn_tupleAt (Jm x) pl (fun w hw=>uc rx fx r fs w (by simpa using hw)) ⟨.bl _,H,I,rfl,?_⟩
  rw[show its.toArray.any (Jm x)=its.any (Jm x) by simp,sV r fs]
  exact q
theorem rD:kD X (.builtin "len") (fun xs H Q=>∃p ys,xs=[.ref p]∧(q0 X.K H p ys∨pD X.K H p ys)∧Q (.int ys.length) H):=by
 intro pins s σ H xs us Q I r h
 obtain⟨p,ys,rfl,hq,q⟩:=h
 obtain⟨u,rfl,rx⟩:=vals1 r
 cases rx
 have hn:=cC
 rcases hq with hq | hq
 ·obtain⟨its,r',pl,hz⟩:=I.list hq
  have hlen:=r'.length
  exact Calls.call_len_list pl.isList (by simp only[List.size_toArray]<;>omega) ⟨.int ys.length,H,I.tok _,⟨s.toks + 1,by rw[List.size_toArray,hlen]⟩,q⟩
 ·obtain⟨its,r',pl,hz⟩:=I.tuple hq
  have hlen:=r'.length
  exact len_tuple pl (by simp only[List.size_toArray]<;>omega) ⟨.int ys.length,H,I.tok _,⟨s.toks + 1,by rw[List.size_toArray,hlen]⟩,q⟩
theorem fi:kD X (.builtin "len") (fun xs H Q=>∃z,xs=[.str z]∧z.length≤sizeLine∧Q (.int z.length) H):=by
 intro pins s σ H xs us Q I r h
 obtain⟨z,rfl,hz,q⟩:=h
 obtain⟨u,rfl,t,rfl⟩:=vals1 r
 have hn:=cC
 exact len_str (by omega) ⟨.int z.length,H,I.tok _,⟨_,rfl⟩,q⟩
theorem l9:kD X (.type "list") (fun xs H Q=>∃p ys,xs=[.ref p]∧(q0 X.K H p ys∨pD X.K H p ys)∧∀l,H l=none→Q (.ref l) (upd H l (.lst ys))):=by
 intro pins s σ H xs us Q I r h
 obtain⟨p,ys,rfl,hq,q⟩:=h
 obtain⟨u,rfl,rx⟩:=vals1 r
 cases rx
 have fin:∀(its:List Value),Vals ys its→ys.length≤sizeLine→∀(h':Heap) (c':Nat),(∀b o',s.heap.get? b=some o'→h'.get? b=some o')→
   h'.get? s.heap.objs.size=some { cls:=.type "list",dict:=none,data:=.seq its.toArray c',slots:=#[] }→EP X pins σ Q (.ref s.heap.objs.size) { s with heap:=h' }:=fun its r' hz h' c' kp e=>
  ⟨.ref s.heap.objs.size,_,I.laid (t':=s.toks) kp (Nat.le_refl _) (show jL X.prog X.w _ h' _ (.lst ys) from ⟨hz,its,c',r',e⟩),rfl,q _ (I.jz.fresh (Nat.le_refl _))⟩
 rcases hq with hq | hq
 ·obtain⟨its,r',pl,hz⟩:=I.list hq
  have hlen:=r'.length
  obtain⟨o,ho,hc,n,hd⟩:=pl.isList
  exact call_list_seq p (.inl rfl) ho hc hd (fun h' c' kp e=>fin its r' hz h' c' kp e) (by simp only[List.size_toArray]<;>omega)
 ·obtain⟨its,r',pl,hz⟩:=I.tuple hq
  have hlen:=r'.length
  obtain⟨o,ho,hc,n,hd⟩:=pl
  exact call_list_seq p (.inr rfl) ho hc hd (fun h' c' kp e=>fin its r' hz h' c' kp e) (by simp only[List.size_toArray]<;>omega)
noncomputable def Yx (K:PySem.W.Frag) (T:String) (x:V) (H:Hp):Prop:=match x with
 | .str _=>T = "str"
 | .int _=>T = "int"
 | .ref p=>(T = "list"∧∃xs,q0 K H p xs)∨(T = "tuple"∧∃o,K.lookup p=some o∧o.cls=.type "tuple"∧o.dict=none)∨
   (T = "dict"∧((∃kvs,H p=some (.dK kvs))∨∃kvs,H p=some (.dT kvs)))∨(T = "set"∧∃S n,H p=some (.set S n))
 | _=>False
theorem Zu {pins:List (Addr × Obj)} {σ:St} {H:Hp} {s:Shared} {T:String} {x:V} {v:Value} (I:Inv X pins σ H s) (r:RelV x v) (ty:Yx X.K T x H) :
  s.TypeIs v T∧∀a,v=.ref a→∃ob,s.heap.get? a=some ob∧ob.dict=none:=by
 cases x with
 | str z=>
  obtain⟨t,rfl⟩:=r
  cases (show T = "str" from ty)
  exact⟨typeIs_str s z t,fun _ e=>nomatch e⟩
 | int i=>
  obtain⟨t,rfl⟩:=r
  cases (show T = "int" from ty)
  exact⟨typeIs_int s i t,fun _ e=>nomatch e⟩
 | ref p=>
  cases r
  rcases ty with ⟨rfl,xs,hq⟩ | ⟨rfl,o,hk,hc,hd⟩ | ⟨rfl,hk⟩ | ⟨rfl,S,n,hk⟩
  ·obtain⟨its,_,pl,_⟩:=I.list hq
   refine⟨pl.isList.typeIs,fun a e=>?_⟩
   cases e
   obtain⟨o,n,e,c,hd,_⟩:=pl
   exact⟨o,e,hd⟩
  ·refine⟨⟨o,I.y7 p o hk,hc⟩,fun a e=>?_⟩
   cases e
   exact⟨o,I.y7 _ o hk,hd⟩
  ·have z:∃o,s.heap.get? p=some o∧o.ExactDict:=by
    rcases hk with ⟨kvs,hk⟩ | ⟨kvs,hk⟩
    ·obtain⟨_,_,_,_,o,_,_,e,ex,_⟩:=I.jz p _ hk
     exact⟨o,e,ex⟩
    ·obtain⟨_,_,_,_,o,_,_,e,ex,_⟩:=I.jz p _ hk
     exact⟨o,e,ex⟩
   obtain⟨o,e,ex⟩:=z
   refine⟨⟨o,e,ex.1⟩,fun a e2=>?_⟩
   cases e2
   exact⟨o,e,ex.2.1⟩
  ·obtain⟨o,_,_,_,e,ex,_⟩:=I.jz p _ hk
   refine⟨⟨o,e,ex.1⟩,fun a e2=>?_⟩
   cases e2
   exact⟨o,e,ex.2.1⟩
 | _=>exact False.elim ty
noncomputable def WE (K:PySem.W.Frag) (T:String) (r:V→List V→Hp→VK→Prop) (to:TE):TE:=fun σ H Q=>to σ H fun x H1=>Yx K T x H1∧r x [] H1 Q
noncomputable def G7 (K:PySem.W.Frag) (T:String) (r:V→List V→Hp→VK→Prop) (to:TE) (t:TA):TE:=fun σ H Q=>to σ H fun x H1=>Yx K T x H1∧t σ H1 fun xs H2=>r x xs H2 Q
variable {o e:Expr} {es:List Expr} {to:TE} {t:TA} {name:Str} {apos cpos:Pos} {T id:String} {r:V→List V→Hp→VK→Prop}
theorem ZP (pa:PlainAttrs T) (slot:Slot T name id) (hty:typeOf (.builtin id)=pure (.type "method_descriptor")) (hm:aE X id r) (ho:PE X o to)
  (hbase:attributeBase o name X.env (eval o X.env)=eval o X.env:=by rfl) (hline:(apos.endLine == cpos.line)=true:=by rfl):PE X (.Call (.Attribute o name apos) [] [] cpos) (WE X.K T r to):=by
 intro pins s σ H Q I h
 refine wpAny_Call_method0_late hbase hline (jO (ho pins s σ H _ I h) fun v s1 ⟨x,H1,I1,r1,ty,q1⟩=>?_)
 obtain⟨h1,h2⟩:=Zu I1 r1 ty
 exact⟨T,id,pa,slot,hty,h1,h2,Calls.callWith_builtin rfl (PySem.evalArgs_none (hm pins s1 σ H1 x [] v [] Q I1 r1 .nil q1))⟩
theorem ko (pa:PlainAttrs T) (slot:Slot T name id) (hty:typeOf (.builtin id)=pure (.type "method_descriptor")) (hm:aE X id r) (ho:PE X o to) (ha:PA X (e :: es) t)
  (hbase:attributeBase o name X.env (eval o X.env)=eval o X.env:=by rfl)
  (hfew:((backTo cpos (starEach (e :: es) X.env)).all (fun x=>!x.1) && (backToKw cpos (keywordEach [] X.env)).all (fun x=>x.1.isSome)
   && decide ((e :: es).length + ([]:List Keyword).length + (if ([]:List Keyword).isEmpty then 0 else 1) < 30))=true:=by rfl)
  (hline:(apos.endLine == cpos.line)=true:=by rfl) (hs:starEach (e :: es) X.env=(false,eval e X.env) :: starEach es X.env:=by rfl) (hplain:(backTo cpos (starEach es X.env)).any (·.1)=false:=by rfl) :
  PE X (.Call (.Attribute o name apos) (e :: es) [] cpos) (G7 X.K T r to t):=by
 intro pins s σ H Q I h
 refine wpAny_Call_method_late hbase hfew hline rfl (jO (ho pins s σ H _ I h) fun v s1 ⟨x,H1,I1,r1,ty,q1⟩=>?_)
 obtain⟨h1,h2⟩:=Zu I1 r1 ty
 refine⟨T,id,pa,slot,hty,h1,h2,?_⟩
 have hA:=ha cpos pins s1 σ H1 _ I1 q1
 rw[hs] at hA ⊢
 refine Calls.callWith_builtin (by show (false || (backTo cpos (starEach es X.env)).any (·.1))=false;rw[hplain]<;>rfl) (Calls.evalArgs_plain ?_)
 exact jO hA fun us s2 ⟨vs,H2,I2,r2,q2⟩=>hm pins s2 σ H2 x vs v us Q I2 r1 r2 q2
end
end L2
namespace L2
open PySem PySem.Spec PyProof.Rows
noncomputable def Yk (X:Cx) (id:String) (r:V→List V→Hp→VK→Prop):Prop:=
 ∀(pins:List (Addr × Obj)) (s:Shared) (σ:St) (H:Hp) (x:V) (xs:List V) (v:Value) (us:List Value) (Q:VK),Inv X pins σ H s→RelV x v→Vals xs us→r x xs H Q→
  wpAny (model X.prog X.w) X.A (call (.builtin id) (v :: us)) (EP X pins σ Q) X.xe s
theorem Vals.one:∀{x:V} {us:List Value},Vals [x] us→∃u,us=[u]∧RelV x u
 | _,_,.cons r .nil=>⟨_,rfl,r⟩
theorem Vals.zero:∀{us:List Value},Vals [] us→us=[]
 | _,.nil=>rfl
theorem Vals.dropLast {xs:List V} {us:List Value} (h:Vals xs us):Vals xs.dropLast us.dropLast:=by
 induction h with
 | nil=>exact .nil
 | cons r t ih=>
  cases t with
  | nil=>exact .nil
  | cons q t'=>exact .cons r ih
theorem Vals.rep {xs:List V} {us:List Value} (h:Vals xs us):∀k:Nat,Vals (List.replicate k xs).flatten (List.replicate k us).flatten
 | 0=>.nil
 | k + 1=>by
  rw[List.replicate_succ,List.replicate_succ,List.flatten_cons,List.flatten_cons]
  exact Vals.append h (Vals.rep h k)
theorem oG {α:Type} (l:List α):l.eraseIdx (l.length - 1)=l.dropLast:=by
 induction l with
 | nil=>rfl
 | cons a r ih=>
  cases r with
  | nil=>rfl
  | cons b r=>
   have e:(a :: b :: r).length - 1=((b :: r).length - 1) + 1:=by
    have h1:(a :: b :: r).length=r.length + 2:=rfl
    have h2:(b :: r).length=r.length + 1:=rfl
    omega
   rw[e,List.eraseIdx_cons_succ,ih]
   all_goals rfl
theorem foldl_rep (its:List Value):∀(k:Nat) (acc:List Value),
  List.foldl (fun x1 x2=>x1 ++ x2) acc.toArray (List.replicate k its.toArray)=(acc ++ (List.replicate k its).flatten).toArray
 | 0,acc=>by simp
 | k + 1,acc=>by
  have e:acc.toArray ++ its.toArray=(acc ++ its).toArray:=by simp
  have e2:(acc ++ its) ++ (List.replicate k its).flatten=acc ++ (List.replicate (k + 1) its).flatten:=by
   rw[List.replicate_succ,List.flatten_cons,List.append_assoc]
  rw[←e2,←foldl_rep its k (acc ++ its),←e,List.replicate_succ,List.foldl_cons]
section
variable {X:Cx} {pins:List (Addr × Obj)} {σ:St} {H:Hp} {s:Shared} {l b:Addr} {xs ys zs:List V}
theorem Inv.K1 {its its':List Value} {n:Nat} {f:Array Value→Array Value} {t':Nat} (I:Inv X pins σ H s) (hH:H l=some (.lst xs))
  (e:s.heap.get? l=some { cls:=.type "list",data:=.seq its.toArray n }) (hf:f its.toArray=its'.toArray) (hv:Vals ys its') (hz:ys.length≤sizeLine) :
  Inv X pins σ (upd H l (.lst ys)) { s with heap:=s.heap.update l (Obj.mapSeq f),toks:=t' }:=by
 have q:=PySem.IsL.update e f
 rw[hf] at q
 refine I.write (x:=l) (e:=l) (by rw[hH];exact trivial) (.inl rfl) (fun b' u hb hu=>(Heap.get?_update_other s.heap (Obj.mapSeq f) (Ne.symm hb)).trans hu) ⟨_,q⟩ ?_
 exact⟨hz,its',_,hv,q⟩
theorem Inv.Qj {its:List Value} {t':Nat} (I:Inv X pins σ H s) (hv:Vals ys its) (hz:ys.length≤sizeLine) :
  Inv X pins σ (upd H s.heap.objs.size (.lst ys)) { s with heap:=s.heap.push { cls:=.type "list",data:=.seq its.toArray },toks:=t' }:=
 I.laid (fun _ _ q=>Heap.get?_push_of_some _ q) (Nat.le_refl _) ⟨hz,its,0,hv,Heap.get?_push_size _ rfl⟩
theorem Inv.fresh (I:Inv X pins σ H s):H s.heap.objs.size=none:=I.jz.fresh (Nat.le_refl _)
theorem Inv.iz (I:Inv X pins σ H s) (hH:H l=some (.lst xs)):xs.length≤sizeLine∧∃(its:List Value) (n:Nat),Vals xs its∧xs.length=its.length∧s.heap.get? l=some { cls:=.type "list",data:=.seq its.toArray n }:=by
 obtain⟨z,its,n,r,e⟩:=I.jz l _ hH
 exact⟨z,its,n,r,r.length,e⟩
theorem sU {n:Nat} (h:n≤sizeLine):Builtin.List.listTooLong n=false:=by
 unfold Builtin.List.listTooLong
 exact decide_eq_false (by omega)
end
section
variable {X:Cx}
noncomputable def JW:V→List V→Hp→VK→Prop:=fun x vs H Q=>∃l xs y,x=.ref l∧vs=[y]∧H l=some (.lst xs)∧xs.length < sizeLine∧Q .non (upd H l (.lst (xs ++ [y])))
theorem mY:Yk X "list.append" JW:=by
 intro pins s σ H x vs v us Q I rx rv h
 obtain⟨l,xs,y,rfl,rfl,hH,hz,q⟩:=h
 cases rx
 obtain⟨u,rfl,ru⟩:=rv.one
 obtain⟨z,its,n,r,hl,e⟩:=I.iz hH
 refine call_meets F.slot_list_append ⟨_,e,rfl⟩ F.entry_list_append (F.args_list_append_2 _ _) (PySem.list_append l its.toArray n u (by rw[List.size_toArray];omega)) ⟨e,?_⟩
 refine⟨.non,_,I.K1 (its':=its ++ [u]) hH e (by simp) (r.append (.cons ru .nil)) ?_,rfl,q⟩
 rw[List.length_append,List.length_singleton]
 omega
noncomputable def J0:V→List V→Hp→VK→Prop:=fun x vs H Q=>∃l b xs zs,x=.ref l∧vs=[.ref b]∧H l=some (.lst xs)∧H b=some (.lst zs)∧xs.length + zs.length≤sizeLine∧Q .non (upd H l (.lst (xs ++ zs)))
theorem Vr:Yk X "list.extend" J0:=by
 intro pins s σ H x vs v us Q I rx rv h
 obtain⟨l,b,xs,zs,rfl,rfl,hH,hB,hz,q⟩:=h
 cases rx
 obtain⟨u,rfl,ru⟩:=rv.one
 cases ru
 obtain⟨z,its,n,r,hl,e⟩:=I.iz hH
 obtain⟨z2,its2,n2,r2,hl2,e2⟩:=I.iz hB
 have hsz:its.toArray.size + its2.toArray.size≤sizeLine:=by rw[List.size_toArray,List.size_toArray];omega
 have hlong:¬(!its.toArray.isEmpty && Builtin.List.listTooLong (its.toArray.size + its2.toArray.size))=true:=by
  rw[sU hsz,Bool.and_false]
  exact Bool.false_ne_true
 refine call_meets F.slot_list_extend ⟨_,e,rfl⟩ F.entry_list_extend (F.args_list_extend_2 _ _)
  (AutoSeq1.list_extend_list_list_0 l its.toArray n b its2.toArray n2 hlong (by rw[List.size_toArray];omega) (by omega)) ⟨e,e2,?_⟩
 refine⟨.non,_,I.K1 (its':=its ++ its2) hH e (by simp) (r.append r2) ?_,rfl,q⟩
 rw[List.length_append]
 omega
noncomputable def YB:V→List V→Hp→VK→Prop:=fun x vs H Q=>∃l xs y,x=.ref l∧vs=[]∧H l=some (.lst xs)∧xs[xs.length - 1]?=some y∧Q y (upd H l (.lst xs.dropLast))
theorem Km:Yk X "list.pop" YB:=by
 intro pins s σ H x vs v us Q I rx rv h
 obtain⟨l,xs,y,rfl,rfl,hH,hy,q⟩:=h
 cases rx
 have hus:=rv.zero
 subst hus
 obtain⟨z,its,n,r,hl,e⟩:=I.iz hH
 obtain⟨u,hu,ru⟩:=r.get hy
 have hy':its.toArray[its.toArray.size - 1]?=some u:=by
  show its.toArray[its.length - 1]?=some u
  rw[←Array.getElem?_toList,←hl]
  exact hu
 refine call_meets F.slot_list_pop ⟨_,e,rfl⟩ F.entry_list_pop (F.args_list_pop_1 _) (MeetsSeq.list_pop_last l its.toArray n u hy' (by rw[List.size_toArray];omega)) ⟨e,?_⟩
 refine⟨y,_,I.K1 (its':=its.dropLast) hH e ?_ r.dropLast ?_,ru,q⟩
 ·show its.toArray.eraseIdxIfInBounds (its.toArray.size - 1)=its.dropLast.toArray
  rw[List.size_toArray,List.eraseIdxIfInBounds_toArray,oG]
 ·rw[List.length_dropLast]
  omega
noncomputable def WO:V→List V→Hp→VK→Prop:=fun x vs H Q=>∃l xs i k y,x=.ref l∧vs=[.int i]∧H l=some (.lst xs)∧-(2 ^ 63)≤i∧i < 2 ^ 63∧seqIndex? i xs.length=some k∧xs[k]?=some y∧Q y (upd H l (.lst (xs.eraseIdx k)))
noncomputable def WJ:V→List V→Hp→VK→Prop:=fun x vs H Q=>∃l xs,x=.ref l∧vs=[]∧H l=some (.lst xs)∧Q .non (upd H l (.lst xs.reverse))
noncomputable def YF:V→List V→Hp→VK→Prop:=fun x vs H Q=>∃l xs,x=.ref l∧vs=[]∧H l=some (.lst xs)∧Q .non (upd H l (.lst []))
noncomputable def W9:R2:=fun x y H Q=>∃l b xs zs,x=.ref l∧y=.ref b∧H l=some (.lst xs)∧H b=some (.lst zs)∧xs.length + zs.length≤sizeLine∧∀p,H p=none→Q (.ref p) (upd H p (.lst (xs ++ zs)))
theorem Kx:bG X (binaryOp .Add) W9:=by
 intro pins s σ H x y v u Q I rx ry h
 obtain⟨l,b,xs,zs,rfl,rfl,hH,hB,hz,q⟩:=h
 cases rx
 cases ry
 obtain⟨z,its,n,r,hl,e⟩:=I.iz hH
 obtain⟨z2,its2,n2,r2,hl2,e2⟩:=I.iz hB
 refine PySem.P.add_list e e2 ?_ (by rw[List.size_toArray,List.size_toArray];omega)
 have ea:its.toArray ++ its2.toArray=(its ++ its2).toArray:=by simp
 rw[ea]
 exact⟨.ref _,_,I.Qj (t':=s.toks) (r.append r2) (by rw[List.length_append];omega),rfl,q _ I.fresh⟩
noncomputable def W4:R2:=fun x y H Q=>∃l k xs,x=.ref l∧y=.int k∧H l=some (.lst xs)∧-(2 ^ 63)≤k∧k < 2 ^ 63∧xs.length * k.toNat≤sizeLine∧
 ∀p,H p=none→Q (.ref p) (upd H p (.lst (List.replicate k.toNat xs).flatten))
theorem len_rep {α:Type} (xs:List α) (k:Nat):(List.replicate k xs).flatten.length=k * xs.length:=by
 induction k with
 | zero=>simp
 | succ k ih=>rw[List.replicate_succ,List.flatten_cons,List.length_append,ih,Nat.succ_mul,Nat.add_comm]
theorem rL:bG X (binaryOp .Mult) W4:=by
 intro pins s σ H x y v u Q I rx ry h
 obtain⟨l,k,xs,rfl,rfl,hH,h1,h2,hz,q⟩:=h
 cases rx
 obtain⟨t,rfl⟩:=ry
 obtain⟨z,its,n,r,hl,e⟩:=I.iz hH
 have hlen:its.toArray.size * k.toNat≤sizeLine:=by rw[List.size_toArray,←hl];exact hz
 have hcap:¬its.toArray.size * k.toNat > (2 ^ 63 - 1) / 8:=by
  have:(sizeLine:Nat)≤(2 ^ 63 - 1) / 8:=by decide
  omega
 have hfit:¬(!Builtin.List.listFitsIndex k)=true:=by
  rw[fitsIndex_both h1 h2]
  exact Bool.false_ne_true
 have hlong:¬Builtin.List.listTooLong (its.toArray.size * k.toNat)=true:=by
  rw[sU hlen]
  exact Bool.false_ne_true
 have hnew:List.foldl (fun x1 x2=>x1 ++ x2) #[] (List.replicate (if its.toArray.isEmpty=true then 0 else k.toNat) its.toArray)=(List.replicate k.toNat its).flatten.toArray:=by
  have f0:∀m:Nat,List.foldl (fun x1 x2=>x1 ++ x2) #[] (List.replicate m its.toArray)=(List.replicate m its).flatten.toArray:=fun m=>by
   have:=foldl_rep its m []
   rw[List.nil_append] at this
   exact this
  rw[f0]
  cases its with
  | nil=>simp
  | cons a r'=>rw[if_neg (by simp)]
 refine wpAny_binaryOp_repeat_ref (T:="list") (U:="int") (by decide) ⟨_,e,rfl⟩ (fun s'=>typeIs_int s' k t) noFill_list_mul F.fills_int_mul F.slot_int_rmul repeat_list F.slot_int_index.lookup
  (call_meets F.slot_int_rmul (typeIs_int s k t) F.entry_int_rmul (F.args_int_rmul_2 _ _) (int___rmul___int_list k t l its.toArray n)
   ⟨e,rfl,⟨_,e,rfl⟩,call_meets F.slot_list_mul ⟨_,e,rfl⟩ F.entry_list_mul (F.args_list_mul_2 _ _) (AutoListH.list___mul___list_int_3 l its.toArray n k t hfit hcap hlong) ⟨e,?_⟩⟩)
 rw[hnew]
 exact⟨.ref _,_,I.Qj (t':=s.toks) (r.rep k.toNat) (by rw[len_rep,Nat.mul_comm];exact hz),rfl,q _ I.fresh⟩
end
section
variable {prog:Program} {w:World} {A:Around} {E:Value→Shared→Prop} {s:Shared}
end
section
variable {X:Cx}
end
end L2
namespace Att
open PySem PySem.W PySem.Calls PyProof.Rows
theorem de {P:Params} {h:Heap}:∀(ns:List Int) (vs:List Value),WellAll P h vs (ns.map WData.int)→IntsAre vs ns:=by
 intro ns
 induction ns with
 | nil=>
  intro vs w
  rw[List.map_nil] at w
  cases w
  exact .nil
 | cons n ns ih=>
  intro vs w
  rw[List.map_cons] at w
  cases w with
  | cons a b=>
   cases a
   exact .cons _ _ (ih _ b)
theorem aG {l:OpenLaw} {n:Nat} (hn:l.most=some n) {P:Params} {h:Heap} {args:List WData} {vals:List Value}
  (hpre:l.row.toRowW.claim.pre args=true) (hwl:WellAll P h vals args) :
  ∃a vs ns,vals=[Value.ref a]∧args=[WData.list (ns.map WData.int)]∧h.get? a=some { cls:=.type "list",data:=.seq vs.toArray }∧IntsAre vs ns∧ns.length≤n:=by
 have hsh:WShape.hasAll [] args [.list .int]=true:=(pre_splitW hpre).1
 have hc:l.pre.holds [] { args:=args }=true:=(pre_splitW hpre).2
 obtain⟨d,r,rfl,h1,h2⟩:=hasAllW_cons hsh
 obtain rfl:=hasAllW_nil h2
 obtain⟨xs,rfl,h3⟩:=hasW_list h1
 obtain⟨ns,rfl⟩:=items_int h3
 have hlen:ns.length≤n:=by
  unfold OpenLaw.pre at hc
  have h4:(WTm.not (.lt (.lit (.int (n:Int))) (.len (.arg 0)))).holds [] { args:=[.list (ns.map .int)] }=true:=by
   have h4:=(holds_andW hc).1
   rw[hn] at h4
   exact h4
  have h5:=condW_of h4 (w_not (w_lt w_lit (w_len_list (w_arg rfl))))
  rw[List.length_map] at h5
  refine Nat.le_of_not_lt fun q=>?_
  have q':(n:Int) < ((ns.length:Nat):Int):=by omega
  first
   | (rw[decide_eq_true q'] at h5;exact absurd h5 (by decide))
   | (simp at h5;omega)
 cases hwl with
 | cons w1 w2=>
  cases w2
  cases w1 with
  | list ho hall=>exact⟨_,_,ns,rfl,rfl,ho,de ns _ hall,hlen⟩
theorem eU (l:OpenLaw) (args:List WData):l.row.toRowW.claim.post args (.bool true) args=true:=
 postW_of (r:=l.row.toRowW) (X:=(true == true))
  (show WShape.has [] (.bool true) .bool=true by first | rfl | decide | simp [WShape.has,WShape.arms,WShape.armsAll])
  (show (WTm.eq .res (.lit (.bool true))).value [] { args:=args,res:=some (.bool true),after:=args }=some (.bool (true == true)) from w_eq_bool (w_res rfl) w_lit) rfl
theorem ng {l:OpenLaw} {n:Nat} {q:Program} {loose:List Str} {XP:(Str→Option Value)→Heap→Prop} {YP:World→Heap→Prop} {d:DefRec}
  (hn:l.most=some n) (hdf:d.params.defaults=[])
  (call:∀(w:World) (s₀ s₁:Shared) (mg mb:Str→Option Value) (fa:Addr) (o:Obj) (pm cd doc:Value) (a:Addr) (vs:List Value) (ns:List Int),
   Ground q loose [] XP w s₀ mg mb s₁.heap→YP w s₁.heap→
   s₁.heap.get? fa=some o→o.data=.func (docDef d.name d.params d.body d.scope pm cd doc)→s₁.heap.CodeRec cd d.name→mg d.name=some (.ref fa)→
   s₁.heap.get? a=some { cls:=.type "list",data:=.seq vs.toArray }→IntsAre vs ns→ns.length≤n→s₁.gens = #[]→
   codeAny (model l.prog w) callerA (.call (.ref fa) ⟨[.ref a],[]⟩) (fun r s'=>r=.ok (.ret (.bool true))∧OldK s₁.heap s'.heap∧s'.os=s₁.os∧AllBare s'.gens) s₁) :
  WalkO q loose XP YP l.row.toRowW d [] (fun f vs=>PySem.call f vs):=by
 intro w s₀ s₁ mg mb G Y fa o pm cd doc dV kV ho hd hcd hD hmg hg args vals as hpre hlay hrd hwl hlo
 obtain rfl:dV=.none:=Dflts.none hD hdf
 obtain rfl:kV=.none:=Dflts.noKw hD
 obtain⟨a,vs,ns,rfl,rfl,hobj,hints,hlen⟩:=aG hn hpre hwl
 refine enter_call (codeAny_mono (call w s₀ s₁ mg mb fa o pm cd doc a vs ns G Y ho (fd_plain hd) hcd hmg hobj hints hlen hg) fun r s' hq=>?_)
 obtain⟨rfl,h2,h3,h4⟩:=hq
 exact⟨.inl ⟨.bool true,.bool true,[],rfl,fun _=>rfl,.bool true,eU l _,fun _=>⟨List.Pairwise.nil,fun _ hm=>(nomatch hm)⟩⟩,h2,h3,h4⟩
section
variable {prog:Program} {w:World} {A:Around} {E:Value→Shared→Prop} {s:Shared} {K:Frag}
noncomputable def Ys (h:Heap):Heap:={ h with objs:=#[] }
noncomputable def ledger (h:Heap) (L d:Addr):List (Addr × Obj):=(List.range h.objs.size).filterMap fun a=>if a=L∨a=d then none else (h.get? a).map fun o=>(a,o)
end
end Att
namespace L2
open PySem PySem.Spec PyProof.Rows
theorem rH:∀{vs:List Value} {ns:List Int},IntsAre vs ns→Vals (ns.map V.int) vs
 | _,_,.nil=>.nil
 | _,_,.cons n t h=>.cons ⟨t,rfl⟩ (rH h)
noncomputable def ZQ (H:Hp):Prop:=∀b,H b=none∨∃o xs,H b=some (.frz o (.lst xs))
theorem Z2 {P:Program} {w:World} {K:PySem.W.Frag} {mg mb:Str→Option Value} {CX:uX} {k:Nat} {fa a:Addr} {fd:FuncData} {x:Str} {sp:Sp} {s₁:Shared} {vs:List Value} {ns:List Int}
  (KX:K.In s₁.heap) (hns:s₁.heap.Ns mainGlobals mg) (hb:s₁.heap.Ns builtinsNs mb) (hbb:∀x:Str,x≠"__name__"→mb x=bootBuiltins x) (hlim:s₁.heap.NoLimit) (hg:s₁.gens = #[])
  (ha:s₁.heap.get? a=some { cls:=.type "list",data:=.seq vs.toArray }) (hi:IntsAre vs ns) (hl:ns.length≤sizeLine) (hr:kc k callerA)
  (F:∀base:Heap,K.In base→base.Ns mainGlobals mg→qJ P w K mg base CX k fa fd [x] sp) (hbind:∀(s:Shared) (u:Value),BindsTo s fd ⟨[u],[]⟩ [(x,u)])
  (hsp:∀H:Hp,ZQ H→q0 K H a (ns.map V.int)→sp [.ref a] H (fun v _=>v=.bl true) fun _ _ _=>False)
  (hCX:∀H e s',CX [] H s₁ (fun _ _ _=>False) e s'→False) :
  codeAny (model P w) callerA (.call (.ref fa) ⟨[.ref a],[]⟩) (fun r s'=>r=.ok (.ret (.bool true))∧OldK s₁.heap s'.heap∧s'.os=s₁.os∧AllBare s'.gens) s₁:=by
 have rv:=rH hi
 have lenV:=hi.length
 have core:∀H:Hp,ZQ H→q0 K H a (ns.map V.int)→gF P w H s₁.heap→(∀b,H b≠none→b=a)→(H a≠none→K.lookup a=none)→
   codeAny (model P w) callerA (.call (.ref fa) ⟨[.ref a],[]⟩) (fun r s'=>r=.ok (.ret (.bool true))∧OldK s₁.heap s'.heap∧s'.os=s₁.os∧AllBare s'.gens) s₁:=by
  intro H hO hS jz hA hK
  have base_of:∀{b:Addr} {o:Obj},s₁.heap.get? b=some o→H b=none→(lP s₁.heap H).get? b=some o:=fun e n=>Z4 e n
  have noA:∀{b:Addr} {o:Obj} {es:Array DictEntry} {ep:Nat},s₁.heap.get? b=some o→o.data=.dict es ep→H b=none:=fun {b o es ep} e d=>by
   cases q:H b with
   | none=>rfl
   | some u=>
    have e':b=a:=hA b (by rw[q];simp)
    subst e'
    rw[ha] at e;cases e
    have d':Data.seq vs.toArray _=Data.dict es ep:=d
    cases d'
  have nsK:∀{b:Addr} {m:Str→Option Value},s₁.heap.Ns b m→(lP s₁.heap H).Ns b m:=fun {b m} ⟨o,es,ep,e,d,r⟩=>⟨o,es,ep,base_of e (noA e d),d,r⟩
  have hKb:K.In (lP s₁.heap H):=fun b o e=>base_of (KX b o e) (by
   cases q:H b with
   | none=>rfl
   | some u=>
    have e':b=a:=hA b (by rw[q];simp)
    subst e'
    rw[hK (by rw[q];simp)] at e;cases e)
  have hM:Mod K mg (lP s₁.heap H):=⟨hKb,nsK hns,⟨mb,nsK hb,hbb⟩,let ⟨mc,h1,h2⟩:=hlim;⟨mc,nsK h1,h2⟩⟩
  have e0:nP P w K mg (lP s₁.heap H) callerA [] s₁ H:=⟨rfl,hM,fun b o e=>JU e,Nat.le_of_eq (aP _ _),trivial,fun b hb=>absurd (show b∈([]:List Addr) from hb) (by simp),jz,.of_eq hg⟩
  refine codeAny_mono ((F _ hKb (nsK hns)).run callerA [] s₁ H ⟨[.ref a],[]⟩ [.ref a] [.ref a] _ _ hr e0 (hbind s₁ (.ref a)) (.cons rfl .nil) (hsp H hO hS)) fun r s' h=>?_
  cases r with
  | error e=>exact(hCX H e s' h).elim
  | ok fl=>
   cases fl with
   | next=>exact False.elim h
   | brk=>exact False.elim h
   | cont=>exact False.elim h
   | ret u=>
    obtain⟨v,H',os,bare,un,hok',r',q⟩:=h
    have q':v=.bl true:=q
    subst q'
    obtain rfl:u=Value.bool true:=r'
    refine⟨rfl,OldK.of_keep fun b o e=>?_,os,bare⟩
    cases q:H b with
    | none=>exact un.keep b o e q (by intro z;exact absurd (show b∈([]:List Addr) from z) (by simp)) (by simp)
    | some u=>
     rcases hO b with z | ⟨ob,xs,z⟩
     ·rw[q] at z;cases z
     ·have z2:=un.cL b ob _ z
      obtain⟨e1,_⟩:=jz b _ z
      obtain⟨e2,_⟩:=hok' b _ z2
      rw[e] at e1;cases e1
      exact e2
 cases hk:K.lookup a with
 | some o=>
  have e:=KX a o hk
  rw[ha] at e
  cases e
  refine core (fun _=>none) (fun _=>.inl rfl) (.inr ⟨_,vs.toArray,_,hk,rfl,rfl,rfl,by rw[List.size_toArray,lenV];exact hl,by simpa using rv⟩) (fun b u z=>by have z':(none:Option HO)=some u:=z;cases z') (fun b z=>absurd rfl z) fun z=>absurd rfl z
 | none=>
  refine core (fun b=>if b=a then some (.frz { cls:=.type "list",data:=.seq vs.toArray } (.lst (ns.map V.int))) else none) (fun b=>?_) (.inl (.inr ⟨{ cls:=.type "list",data:=.seq vs.toArray },if_pos rfl⟩)) (fun b u z=>?_) (fun b z=>?_) fun _=>hk
  ·by_cases hb:b=a
   ·exact .inr ⟨_,_,if_pos hb⟩
   ·exact .inl (if_neg hb)
  ·by_cases hb:b=a
   ·have z':=(if_pos hb).symm.trans z
    cases z'
    subst hb
    exact⟨ha,by rw[List.length_map];exact hl,vs,_,rv,ha⟩
   ·have z':=(if_neg hb).symm.trans z
    cases z'
  ·by_cases hb:b=a
   ·exact hb
   ·exact absurd (if_neg hb) z
end L2
namespace L2
open PySem PySem.Spec PyProof.Rows
noncomputable abbrev Gz {K:PySem.W.Frag} {h:Heap} (_:K.In h):PySem.W.Frag:=K
theorem JB {l:PySem.W.OpenLaw} {n k:Nat} {q:Program} {loose:List Str} {XP:(Str→Option Value)→Heap→Prop} {YP:World→Heap→Prop} {d:DefRec} {K:Params→PySem.W.Frag} {CX:World→uX} {sp:World→Sp} {x:Str}
  (hn:l.most=some n) (hn2:n≤sizeLine) (hdf:d.params.defaults=[]) (hr:kc k callerA)
  (hY:∀(w:World) (h:Heap),YP w h→(K w.params).In h)
  (F:∀(w:World) (mg:Str→Option Value) (fa:Addr) (h:Heap),(K w.params).In h→h.Ns mainGlobals mg→mg d.name=some (.ref fa)→
   ∃fd:FuncData,(∀(s:Shared) (u:Value),BindsTo s fd ⟨[u],[]⟩ [(x,u)])∧
    ∀base:Heap,(K w.params).In base→base.Ns mainGlobals mg→qJ l.prog w (K w.params) mg base (CX w) k fa fd [x] (sp w))
  (hsp:∀(w:World) (H:Hp) (a:Addr) (ns:List Int),ns.length≤n→ZQ H→q0 (K w.params) H a (ns.map V.int)→sp w [.ref a] H (fun v _=>v=.bl true) fun _ _ _=>False)
  (hCX:∀(w:World) (H:Hp) (s:Shared) (e:Value) (s':Shared),CX w [] H s (fun _ _ _=>False) e s'→False) :
  PySem.W.WalkO q loose XP YP l.row.toRowW d [] (fun f vs=>PySem.call f vs):=by
 refine Att.ng hn hdf fun w s₀ s₁ mg mb fa o pm cd doc a vs ns G Y ho hd hcd hmg hobj hints hlen hg=>?_
 have KX:=hY w _ Y
 obtain⟨fd,hb,hF⟩:=F w mg fa _ KX G.T.g hmg
 exact Z2 KX G.T.g G.T.b G.T.builtins G.T.nolimit hg hobj hints (Nat.le_trans hlen hn2) hr hF hb (fun H hO hS=>hsp w H a ns hlen hO hS) fun H e s'=>hCX w H s₁ e s'
theorem ZE {l:PySem.W.OpenLaw} {n k:Nat} {q:Program} {loose:List Str} {XP:(Str→Option Value)→Heap→Prop} {YP:World→Heap→Prop} {d:DefRec} {K:Params→PySem.W.Frag} {CX:uX} {sp:PySem.W.Frag→Sp} {x:Str}
  (hn:l.most=some n) (hn2:n≤sizeLine) (hdf:d.params.defaults=[]) (hr:kc k callerA)
  (hY:∀(w:World) (h:Heap),YP w h→(K w.params).In h)
  (F:∀(w:World) (mg:Str→Option Value) (fa:Addr) (h:Heap),(K w.params).In h→h.Ns mainGlobals mg→mg d.name=some (.ref fa)→
   ∃fd:FuncData,(∀(s:Shared) (u:Value),BindsTo s fd ⟨[u],[]⟩ [(x,u)])∧
    ∀base:Heap,(K w.params).In base→base.Ns mainGlobals mg→qJ l.prog w (K w.params) mg base CX k fa fd [x] (sp (K w.params)))
  (hsp:∀(K:PySem.W.Frag) (H:Hp) (a:Addr) (ns:List Int),ns.length≤n→ZQ H→q0 K H a (ns.map V.int)→sp K [.ref a] H (fun v _=>v=.bl true) fun _ _ _=>False)
  (hCX:∀(H:Hp) (s:Shared) (e:Value) (s':Shared),CX [] H s (fun _ _ _=>False) e s'→False) :
  PySem.W.WalkO q loose XP YP l.row.toRowW d [] (fun f vs=>PySem.call f vs):=
 JB (K:=K) (CX:=fun _=>CX) (sp:=fun w=>sp (K w.params)) hn hn2 hdf hr hY F (fun w H a ns h1 h2 h3=>hsp (K w.params) H a ns h1 h2 h3) fun _ H s e s'=>hCX H s e s'
end L2
namespace L2
open PySem PySem.Spec PyProof.Rows
noncomputable def inClass (s:Stmt) (j:Nat):Stmt:=match s with
 | .ClassDef _ _ _ body _ _ _ _ _ _ _=>body.getD j (.Pass ⟨0,0,0,0⟩)
 | _=>.Pass ⟨0,0,0,0⟩
noncomputable def qq (s:Stmt):Arguments:=match s with
 | .FunctionDef _ a _ _ _ _ _ _ _ _=>a
 | _=>{ posonlyargs:=[],args:=[],vararg:=none,kwonlyargs:=[],kw_defaults:=[],kwarg:=none,defaults:=[] }
noncomputable def qz (s:Stmt):List Stmt:=match s with
 | .FunctionDef _ _ b _ _ _ _ _ _ _=>b
 | _=>[]
noncomputable def z5 (s:Stmt):Scope:=match s with
 | .FunctionDef _ _ _ _ _ _ sc _ _ _=>sc
 | _=>{ kind:=.function,names:=[],isGenerator:=false,isCoroutine:=false }
noncomputable abbrev jX:uX:=fun _ _ _ _ _ _=>False
noncomputable abbrev E0:XK:=fun _ _ _=>False
theorem qX {X:Cx}:Passes jX X E0:=fun _ _ _ _ _ _ _ h=>h.elim
structure Jn (K:PySem.W.Frag) (x qual:Str) (st:Stmt) (f:Addr) (fd:FuncData):Prop where
 ex:∃(oc:Value) (od:Option Addr) (kV doc pm:Value) (an:Option Addr) (cdv ct:Value) (osl:Array (Option Value)),
  fd=PySem.W.fnOf x qual (qq st) (qz st) (z5 st) .none kV doc pm an cdv ct∧K.lookup f=some ⟨oc,od,.func fd,osl⟩∧PySem.W.codeIn K cdv qual=true
 kp:PySem.W.keepIn K (.ref f)=true
section
variable {P:Program} {w:World} {K:PySem.W.Frag} {mg:Str→Option Value} {base:Heap}
theorem Jn.ok {x qual:Str} {st:Stmt} {f:Addr} {fd:FuncData} {N ps:List Str} {k:Nat} {sp:Sp} (F:Jn K x qual st f fd) (S:qQ N ps (z5 st)) (len:∀vs H Q E,sp vs H Q E→vs.length=ps.length)
  (hbody:∀(cdv:Value) (A:Around) (outer:List Env) (s:Shared) (H:Hp) (vs:List V) (Q:VK) (E:XK),kc k (A.deeper (envOfC qual (z5 st) s.heap.objs.size f cdv))→sp vs H Q E→
   ∃t,iy (lz jX P w K mg base N qual (z5 st) f cdv A outer s H E).WG (qz st) t∧t { nx:=fun _ H'=>Q .non H',rt:=Q } (start N vs) H):qJ P w K mg base jX (k + 1) f fd ps sp:=by
 obtain⟨oc,od,kV,doc,pm,an,cdv,ct,osl,rfl,lk,hcd⟩:=F.ex
 refine Xc lk hcd S len fun A outer s H vs Q E hr hsp=>?_
 obtain⟨t,h,q⟩:=hbody cdv A outer s H vs Q E hr hsp
 exact⟨t,h.WG,q⟩
theorem Jn.binds {x qual:Str} {st:Stmt} {f:Addr} {fd:FuncData} {ps:List Str} (F:Jn K x qual st f fd)
  (h:∀(kV doc pm:Value) (an:Option Addr) (cdv ct:Value) (us:List Value),us.length=ps.length→bindArgs (PySem.W.fnOf x qual (qq st) (qz st) (z5 st) .none kV doc pm an cdv ct) ⟨us,[]⟩=pure (ps.zip us)):Binds K fd ps []:=by
 obtain⟨oc,od,kV,doc,pm,an,cdv,ct,osl,rfl,lk,hcd⟩:=F.ex
 exact .all (h kV doc pm an cdv ct)
theorem qB {x qual:Str} {st:Stmt} {f:Addr} {oc:Value} {od an:Option Addr} {osl:Array (Option Value)} {kV doc pm cdv ct:Value} (l:K.lookup f=some ⟨oc,od,.func (PySem.W.fnOf x qual (qq st) (qz st) (z5 st) .none kV doc pm an cdv ct),osl⟩)
  (c:PySem.W.codeIn K cdv qual=true) (k:PySem.W.keepIn K (.ref f)=true):Jn K x qual st f (PySem.W.fnOf x qual (qq st) (qz st) (z5 st) .none kV doc pm an cdv ct):=⟨⟨oc,od,kV,doc,pm,an,cdv,ct,osl,rfl,l,c⟩,k⟩
end
theorem iV {A:Around} {k:Nat} (hr:kc k A):A.units + 1 < cLine:=Nat.lt_of_le_of_lt (Nat.add_le_add_left (by decide:1≤64) _) hr.units
theorem mP {n:Nat} (h:n≤1000):n < sizeLine:=Nat.lt_of_le_of_lt h (by decide)
section
variable {X:Cx}
theorem pv (i:Nat) {x:Str} {pos:Pos} (hN:X.N[i]?=some x:=by rfl) (hv:WH X.env.scope x:=by first | exact Or.inl rfl | exact Or.inr (Or.inl rfl) | exact Or.inr (Or.inr rfl)) (hd:(x == ("__debug__" : Str))=false:=by decide)
  (hcd:(x == ("__classdict__" : Str))=false:=by decide):PE X (.Name x pos) (Wg i):=K5 hN hv hd hcd
end
theorem gI {A B:Prop} (h:B):if false=true then A else B:=by
 rw[if_neg Bool.false_ne_true]
 exact h
theorem uW {A B:Prop} (h:A):if true=true then A else B:=by
 rw[if_pos rfl]
 exact h
theorem jy {c A B:Prop} [Decidable c] (h1:c→A) (h2:¬c→B):if c then A else B:=by
 by_cases h:c
 ·rw[if_pos h]
  exact h1 h
 ·rw[if_neg h]
  exact h2 h
theorem WZ {c A B:Prop} [Decidable c] (hc:c) (h:B):if (!decide c)=true then A else B:=by
 rw[decide_eq_true hc]
 exact gI h
noncomputable def qg (H H':Hp):Prop:=∀b o,H b=some o→H' b=some o
theorem qg.refl (H:Hp):qg H H:=fun _ _ h=>h
theorem qg.trans {H H1 H2:Hp} (a:qg H H1) (b:qg H1 H2):qg H H2:=fun c o h=>b c o (a c o h)
theorem qg.free {H H':Hp} (e:qg H H') {l:Addr} (h:H' l=Option.none):H l=Option.none:=by
 cases q:H l with
 | none=>rfl
 | some o=>
  rw[e l o q] at h
  cases h
theorem qg.seq {K:PySem.W.Frag} {H H':Hp} {a:Addr} {xs:List V} (e:qg H H') (h:q0 K H a xs):q0 K H' a xs:=by
 rcases h with (h | ⟨o,h⟩) | h
 ·exact .inl (.inl (e _ _ h))
 ·exact .inl (.inr ⟨o,e _ _ h⟩)
 ·exact .inr h
end L2
namespace L2
open PySem PySem.Spec PyProof.Rows
section
variable {X:Cx}
end
noncomputable def WS (z:Str):It:=⟨fun i _=>i < z.length,fun i H x H'=>H'=H∧∃c,z.cps[i]?=some c∧x=.str ⟨#[c]⟩,fun i _=>i=z.length⟩
theorem u9 {prog:Program} {w:World} {A:Around} (hh:A.handled=none) (I:Addr) (x:Str) (t:Tok) :
  Walks prog w A I [I] [I] x.cps.size (SignAt x) (fun i h=>h.IsStrIter I (strIterType x) x t i):=by
 unfold strIterType
 split
 ·exact Walks.strAscii hh I x t
 ·exact Walks.strWide hh I x t
theorem uM (z:Str):["enumerate","zip","dict_itemiterator","dict_reverseitemiterator","odict_iterator","itertools.zip_longest","itertools.pairwise"].contains (strIterType z)=false:=by
 unfold strIterType
 split<;>decide
theorem ZR {P:Program} {w:World} {K:PySem.W.Frag} {tg:Expr} (z:Str) (t:Tok) (it:Addr):Turn P w K tg (WS z) [it] it (fun i h=>h.IsStrIter it (strIterType z) z t i) where
 mem:=by simp
 obj:=fun i h st b hb=>by
  have e:b=it:=by simpa using hb
  subst e
  obtain⟨o,e,c,d⟩:=st
  exact⟨o,e,fun v q=>by rw[d] at q;cases q⟩
 keep:=fun i h h' st k=>by
  obtain⟨o,e,r⟩:=st
  exact⟨o,k it (by simp) o e,r⟩
 item:=by
  intro X hP hw hK hc i pins s σ H E I hf st hg
  subst hP hw hK
  obtain⟨f0,f1,f2,f3,f4,f5⟩:=hf it (by simp)
  have W:=u9 (prog:=X.prog) (w:=X.w) (I.ok.hd hc) it z t
  refine W.item i s _ _ (show i < z.cps.size from hg) st fun v h' tk hv st' kk=>?_
  obtain⟨c,u,hcx,rfl⟩:=hv
  have I1:Inv X pins σ H { s with heap:=h',toks:=tk }:=I.turned (fun b o hb e=>kk b o (by simpa using hb) e) f0 f1 f3 f4 f5
  obtain⟨o,e,hcl,d⟩:=id st'
  exact⟨_,rfl,Qr (s:={ s with heap:=h',toks:=tk }) e hcl d (uM z) ⟨.str ⟨#[c]⟩,H,I1,⟨u,rfl⟩,⟨rfl,c,hcx,rfl⟩,st',fun b hb=>(hf b hb).1⟩⟩
 done:=by
  intro X hP hw hK hc i pins s σ H E I hf st hg
  subst hP hw hK
  obtain⟨f0,f1,f2,f3,f4,f5⟩:=hf it (by simp)
  have hi:i=z.length:=hg
  subst hi
  have W:=u9 (prog:=X.prog) (w:=X.w) (I.ok.hd hc) it z t
  exact W.done s _ _ st fun h' tk kk=>⟨rfl,I.turned (fun b o hb e=>kk b o (by simpa using hb) e) f0 f1 f3 f4 f5⟩
 self:=fun A i s Q E st h=>by
  revert st
  unfold strIterType
  split
  ·intro st
   exact wpAny_pyIter_striter_ascii st h
  ·intro st
   exact wpAny_pyIter_striter_wide st h
section
variable {X:Cx} {tg:Expr}
noncomputable def Yw (tl:TE):TI:=fun σ H R=>tl σ H fun x H1=>∃z,x=.str z∧R (WS z) H1
theorem K4 {l:Expr} {tl:TE} (hl:PE X l tl):PI X tg l (Yw tl):=by
 intro pins s σ H R I h
 refine jO (hl pins s σ H _ I h) fun v s1 ⟨x,H1,I1,r1,q1⟩=>?_
 obtain⟨z,e,q⟩:=q1
 subst e
 obtain⟨t,rfl⟩:=r1
 refine wpAny_pyIter_strU ?_
 refine⟨s1.heap.objs.size,[s1.heap.objs.size],_,_,H1,rfl,I1.kept (t':=s1.toks) fun b o e=>Heap.get?_push_of_some _ e,ZR z t _,⟨_,Heap.get?_push_size _ rfl,rfl,rfl⟩,fun b hb=>?_,q⟩
 have e:b=s1.heap.objs.size:=by simpa using hb
 subst e
 exact I1.eB (Nat.le_refl _) (I1.jz.fresh (Nat.le_refl _))
end
noncomputable def YY:V→Option Int→Option Int→Hp→VK→Prop:=fun x lo hi H Q=>∃z,x=.str z∧z.length≤sizeLine∧Q (.str (Txt.slice z lo hi)) H
section
variable {X:Cx}
theorem KY:XI X YY:=by
 intro pins s σ H x v vl vu lo hi sl Q I rx hs pl pu h
 obtain⟨z,rfl,hz,q⟩:=h
 obtain⟨t,rfl⟩:=rx
 refine⟨"str",_,PySem.F.slot_str_getitem.lookup,typeIs_str _ _ _,?_⟩
 obtain⟨o,ho,hc,hd⟩:=hs
 have fin:∀t' k,EP X pins σ Q (.str (Txt.slice z lo hi) t') { s with toks:=k }:=fun t' k=>⟨.str (Txt.slice z lo hi),H,I.tok _,⟨t',rfl⟩,q⟩
 cases pl with
 | none=>
  cases pu with
  | none=>exact wpAny_getItem_str_slice (l:=none) (u:=none) (st:=none) ⟨o,ho,hc,hd⟩ rfl (post_val_or_str ⟨Nat.le_trans (Txt.slice_le z _ _) hz,fin⟩)
  | int j uj=>exact wpAny_getItem_str_slice (l:=none) (u:=some (j,uj)) (st:=none) ⟨o,ho,hc,hd⟩ rfl (post_val_or_str ⟨Nat.le_trans (Txt.slice_le z _ _) hz,fin⟩)
 | int i ui=>
  cases pu with
  | none=>exact wpAny_getItem_str_slice (l:=some (i,ui)) (u:=none) (st:=none) ⟨o,ho,hc,hd⟩ rfl (post_val_or_str ⟨Nat.le_trans (Txt.slice_le z _ _) hz,fin⟩)
  | int j uj=>exact wpAny_getItem_str_slice (l:=some (i,ui)) (u:=some (j,uj)) (st:=none) ⟨o,ho,hc,hd⟩ rfl (post_val_or_str ⟨Nat.le_trans (Txt.slice_le z _ _) hz,fin⟩)
theorem oX {ns:List Str}:∀{us:List Value},Vals (ns.map V.str) us→StrsAre us ns:=by
 induction ns with
 | nil=>intro us h;cases h;exact .nil
 | cons n ns ih=>
  intro us h
  cases h with
  | cons r t=>
   obtain⟨tk,rfl⟩:=r
   exact .cons n tk (ih t)
noncomputable def rJoin (K:PySem.W.Frag):V→List V→Hp→VK→Prop:=fun x vs H Q=>∃z p ys,x=.str z∧vs=[.ref p]∧q0 K H p (ys.map V.str)∧(ys.map (·.length)).sum + ys.length * z.length≤16777216∧Q (.str (Txt.join z ys)) H
theorem Jf:aE X "str.join" (rJoin X.K):=by
 intro pins s σ H x vs v us Q I rx rv h
 obtain⟨z,p,ys,rfl,rfl,hq,hz,q⟩:=h
 obtain⟨t,rfl⟩:=rx
 obtain⟨u,rfl,ru⟩:=rv.one
 cases ru
 obtain⟨its,r,pl,_⟩:=I.list hq
 exact join_list pl.isList (oX (by simpa using r)) hz fun t' k=>⟨.str (Txt.join z ys),H,I.tok _,⟨t',rfl⟩,q⟩
noncomputable def Gk:R2:=fun x y H Q=>∃z n,x=.str z∧y=.int n∧MulOk z n∧Q (.str (Txt.mul z n)) H
noncomputable def Y6:V→List V→Hp→VK→Prop:=fun x vs H Q=>∃z y,x=.str z∧vs=[.str y]∧Q (.int (Txt.find z y)) H
theorem uF:kD X (.type "int") (fun xs H Q=>∃z n,xs=[.str z]∧PySem.intText? z=some n∧z.length≤640∧Q (.int n) H):=by
 intro pins s σ H xs us Q I r h
 obtain⟨z,n,rfl,hn,hl,q⟩:=h
 obtain⟨u,rfl,t,rfl⟩:=vals1 r
 exact PySem.W.KIN.call_text hn hl ⟨.int n,H,I.tok _,⟨_,rfl⟩,q⟩
noncomputable def QH:V→Value
 | .ty n=>.type n
 | .ref a=>.ref a
 | _=>.none
theorem tu:kD X (.builtin "isinstance") (fun xs H Q=>∃x c t b,xs=[x,c]∧((∃n,c=.ty n)∨∃a,c=.ref a)∧gp X.K H x t∧PySem.W.kitOne X.K t (QH c)=some b∧Q (.bl b) H):=by
 intro pins s σ H xs us Q I r h
 obtain⟨x,c,t,b,rfl,hc,ty,hk,q⟩:=h
 obtain⟨u,u',rfl,rx,rc⟩:=vals2 r
 have e:u'=QH c:=by
  rcases hc with ⟨n,rfl⟩ | ⟨a,rfl⟩
  ·exact rc
  ·exact rc
 subst e
 exact ar I rx ty hk fun tk=>⟨.bl b,H,I.tok _,rfl,q⟩
theorem range_all (bs:List Bool):(List.range bs.length).all (fun i=>bs.getD i true)=bs.all id:=by
 rw[Bool.eq_iff_iff,List.all_eq_true,List.all_eq_true]
 constructor
 ·intro h x hx
  obtain⟨i,hi,e⟩:=List.getElem_of_mem hx
  have:=h i (List.mem_range.mpr hi)
  rw[List.getD_eq_getElem?_getD,List.getElem?_eq_getElem hi] at this
  rw[←e]
  exact this
 ·intro h i hi
  have hi':=List.mem_range.mp hi
  rw[List.getD_eq_getElem?_getD,List.getElem?_eq_getElem hi']
  exact h _ (List.getElem_mem hi')
theorem yY (hc:X.calm=true):kD X (.builtin "all") (fun xs H Q=>∃(p:Addr) (bs:List Bool),xs=[.ref p]∧q0 X.K H p (bs.map V.bl)∧Q (.bl (bs.all id)) H):=by
 intro pins s σ H xs us Q I r h
 obtain⟨p,bs,rfl,hq,q⟩:=h
 obtain⟨u,rfl,ru⟩:=vals1 r
 cases ru
 obtain⟨its,rv,pl,_⟩:=I.list hq
 have hl:=rv.length
 rw[List.length_map] at hl
 refine call_all_walk (wpAny_pyIter_list pl.isList ?_)
 have hne:p≠s.heap.objs.size:=Nat.ne_of_lt (by obtain⟨o,n,e,_⟩:=pl;exact Heap.lt_size e)
 refine⟨s.heap.objs.size,_,_,_,_,_,fun i=>bs.getD i true,rfl,Walks.list (show X.A.in1.handled=none from I.ok.hd hc) s.heap.objs.size p hne its.toArray,⟨⟨_,Heap.get?_push_size _ rfl,rfl,rfl⟩,?_⟩,?_,?_⟩
 ·obtain⟨o,e,rest⟩:=pl.isList
  exact⟨o,Heap.get?_push_of_some _ e,rest⟩
 ·intro i v s' Q' E' hv hQ'
  have hv':its[i]?=some v:=by simpa using hv
  have hi:i < bs.length:=by rw[hl];exact(List.getElem?_eq_some_iff.mp hv').1
  obtain⟨u,e1,e2⟩:=rv.get (i:=i) (x:=V.bl bs[i]) (by rw[List.getElem?_map,List.getElem?_eq_getElem hi];rfl)
  rw[hv'] at e1
  cases e1
  cases e2
  dsimp only at hQ'
  rw[List.getD_eq_getElem?_getD,List.getElem?_eq_getElem hi] at hQ'
  exact wpAny_truthy_bool hQ'
 ·intro h' tk kk
  have I1:Inv X pins σ H { s with heap:=h',toks:=tk }:=I.kept fun b o e=>kk b o (by
   intro z
   have z':b=s.heap.objs.size:=by simpa using z
   exact absurd (Heap.lt_size e) (by rw[z'];exact Nat.lt_irrefl _)) (Heap.get?_push_of_some _ e)
  refine⟨.bl _,H,I1,?_,q⟩
  show Value.bool _=Value.bool _
  rw[List.size_toArray,←hl,range_all]
mutual
inductive su (K:PySem.W.Frag) (H:Hp):V→PyData→Prop where
 | non:su K H .non .none
 | bl (b:Bool):su K H (.bl b) (.bool b)
 | int (i:Int):su K H (.int i) (.int i)
 | str (x:Str):su K H (.str x) (.str x)
 | lst {a:Addr} {xs:List V} {ds:List PyData}:q0 K H a xs→gG K H xs ds→su K H (.ref a) (.list ds)
 | tup {a:Addr} {xs:List V} {ds:List PyData}:pD K H a xs→gG K H xs ds→su K H (.ref a) (.tuple ds)
inductive gG (K:PySem.W.Frag) (H:Hp):List V→List PyData→Prop where
 | nil:gG K H [] []
 | cons {x:V} {xs:List V} {d:PyData} {ds:List PyData}:su K H x d→gG K H xs ds→gG K H (x :: xs) (d :: ds)
end
mutual
theorem su.reads {pins:List (Addr × Obj)} {σ:St} {H:Hp} {s:Shared} (I:Inv X pins σ H s):∀{x:V} {d:PyData} {v:Value},su X.K H x d→RelV x v→∃as,Reads s.heap v d as
 | _,_,_,.non,r=>by cases r;exact⟨_,.none⟩
 | _,_,_,.bl b,r=>by cases r;exact⟨_,.bool b⟩
 | _,_,_,.int i,r=>by obtain⟨t,rfl⟩:=r;exact⟨_,.int i t⟩
 | _,_,_,.str x,r=>by obtain⟨t,rfl⟩:=r;exact⟨_,.str x t⟩
 | _,_,_,.lst hq rs,r=>by
  cases r
  obtain⟨its,rv,pl,_⟩:=I.list hq
  obtain⟨as,ra⟩:=gG.reads I rs rv
  obtain⟨o,n,e,c,_,d⟩:=pl
  exact⟨_,.list e c d (by simpa using ra)⟩
 | _,_,_,.tup hq rs,r=>by
  cases r
  obtain⟨its,rv,pl,_⟩:=I.tuple hq
  obtain⟨as,ra⟩:=gG.reads I rs rv
  obtain⟨o,e,c,n,d⟩:=pl
  exact⟨_,.tuple e c d (by simpa using ra)⟩
theorem gG.reads {pins:List (Addr × Obj)} {σ:St} {H:Hp} {s:Shared} (I:Inv X pins σ H s):∀{xs:List V} {ds:List PyData} {vs:List Value},gG X.K H xs ds→Vals xs vs→∃as,ReadsAll s.heap vs ds as
 | _,_,_,.nil,r=>by cases r;exact⟨_,.nil⟩
 | _,_,_,.cons q qs,r=>by
  cases r with
  | cons r rs=>
   obtain⟨as,ra⟩:=su.reads I q r
   obtain⟨bs,rb⟩:=gG.reads I qs rs
   exact⟨_,.cons ra rb⟩
end
noncomputable def Jx (K:PySem.W.Frag) (neg:Bool):R2:=fun x y H Q=>∃d e,su K H x d∧su K H y e∧SeqAt.shaped d=true∧SeqAt.shaped e=true∧Q (.bl (if neg then !PyData.eqv d e else PyData.eqv d e)) H
theorem KR (hu:X.A.units + 64 < cLine):bG X (compareOp .Eq) (Jx X.K false):=by
 intro pins s σ H x y v u Q I rx ry h
 obtain⟨d,e,h1,h2,h3,h4,q⟩:=h
 obtain⟨as,ra⟩:=h1.reads I rx
 obtain⟨bs,rb⟩:=h2.reads I ry
 exact eq_dataH ra rb h3 h4 hu ⟨.bl _,H,I,rfl,q⟩
theorem Kw (hu:X.A.units + 64 < cLine):bG X (compareOp .NotEq) (Jx X.K true):=by
 intro pins s σ H x y v u Q I rx ry h
 obtain⟨d,e,h1,h2,h3,h4,q⟩:=h
 obtain⟨as,ra⟩:=h1.reads I rx
 obtain⟨bs,rb⟩:=h2.reads I ry
 exact ne_dataH ra rb h3 h4 hu ⟨.bl _,H,I,rfl,q⟩
theorem gG.strs {K:PySem.W.Frag} {H:Hp}:∀xs:List Str,gG K H (xs.map V.str) (xs.map PyData.str)
 | []=>.nil
 | x :: r=>.cons (.str x) (gG.strs r)
theorem eqvAll_map {α : Type} [DecidableEq α] {f : α → PyData} (hf : ∀ x y, PyData.eqv (f x) (f y) = decide (x = y)) (xs : List α) : ∀ ys : List α, PyData.eqvAll (xs.map f) (ys.map f) = decide (xs = ys) := by
  induction xs with
  | nil => intro ys; cases ys <;> simp [PyData.eqvAll]
  | cons x r ih =>
    intro ys
    cases ys
    · simp [PyData.eqvAll]
    · simp [PyData.eqvAll, hf, ih]
theorem dv (xs ys : List Str) : PyData.eqvAll (xs.map PyData.str) (ys.map PyData.str) = decide (xs = ys) := eqvAll_map (fun x y => by rw [PyData.eqv]; by_cases h : x = y <;> simp [h]) xs ys
theorem dz:∀xs:List Str,(∀x∈xs,PyData.strOk x=true)→PyData.canLayAll0 (xs.map PyData.str)=true∧PyData.depthAll (xs.map PyData.str)=0
 | [],_=>⟨rfl,rfl⟩
 | x :: r,h=>by
  have q:=dz r fun y hy=>h y (List.mem_cons_of_mem _ hy)
  simp [PyData.canLayAll0,PyData.canLay0,PyData.depthAll,PyData.depth,q.1,q.2,h x List.mem_cons_self]
theorem v8 {xs:List Str} (h:∀x∈xs,PyData.strOk x=true):SeqAt.shaped (.list (xs.map PyData.str))=true:=by
 have q:=dz xs h
 simp [SeqAt.shaped,PyData.canLay0,PyData.depth,q.1,q.2]
end
section
variable {X:Cx} {CX:uX} {k:Nat} {f C:Addr} {fd:FuncData} {ps:List Str} {sp:Sp} {dvs:List V} {ds:List Value} {E:XK} {x m:Str} {p pos apos:Pos} {e:Expr} {es:List Expr} {t:TA}
structure Qh (K:PySem.W.Frag) (C:Addr) (m:Str) (f:Addr):Prop where
 ga:PySem.W.specialIn K (.ref C) "__getattribute__" = some (some (.builtin "type.__getattribute__"))
 rd:PySem.W.readsIn K C (.type "type")=true
 at_:PySem.W.findCls K (.ref C) (.type "type") m=some (.val (.ref f))
 kp:PySem.W.keepIn K (.ref f)=true
theorem uv {pl:Sem Bool} (hg:Gl X x) (hm:X.mg x=some (.ref C)) (c:Qh X.K C m f) (F:qJ X.prog X.w X.K X.mg X.base CX k f fd ps sp) (hr:kc k X.A) (hb:Binds X.K fd ps ds) (hd:Vals dvs ds) (hx:Passes CX X E) (ha:PA X (e :: es) t)
  (hst:starEach (e :: es) X.env=(false,eval e X.env) :: starEach es X.env:=by rfl) (hpl:(backTo pos (starEach es X.env)).any (·.1)=false:=by rfl) (hdb:(x == ("__debug__" : Str))=false:=by decide)
  (ht:eval (.Call (.Attribute (.Name x p) m apos) (e :: es) [] pos) X.env=(do
   let ov ←eval (.Name x p) X.env
   standAt apos.atName
   let (f,first) ←holding [ov] (getMethod ov m pl)
   callWith pos f first (backTo pos (starEach (e :: es) X.env)) (backToKw pos (keywordEach [] X.env))):=by rfl) :
  PE X (.Call (.Attribute (.Name x p) m apos) (e :: es) [] pos) (QX sp dvs E t):=by
 intro pins s σ H Q I h
 refine PySem.W.methodCall_KW (pl:=pl) (yX I hg hm ?_ hdb) ht
 refine PySem.W.method_cls I.y7 c.ga (PySem.W.cls_value I.y7 c.rd c.at_ rfl ?_)
 refine PySem.W.callWith_K (first:=[]) (h₀:=X.base) I.ok.mod.a7 c.kp (jO (ha pos pins _ σ H _ (I.tok _) h) fun us s1 ⟨vs,H1,I1,r,q⟩=>⟨I1.y7,?_⟩) hst hpl
 exact lY F hr hb hd hx I1 r q
end
end L2
namespace L2
open PySem PySem.Spec PyProof.Rows
noncomputable def jq (env:Env):List (Str × NameKind)→List (Str × Addr)→List (Str × Addr)
 | [],acc=>acc
 | (n,k) :: r,acc=>jq env r (if k == .free then (n,(env.cells.lookup n).getD 0) :: acc else acc)
theorem pY {sc:Scope} {env:Env} (h:∀y∈sc.names,y.2=.free→∃c,env.cells.lookup y.1=some c):closureFor sc env=pure (jq env sc.names []):=by
 simp only[closureFor]
 have key:∀(l:List (Str × NameKind)) (acc:List (Str × Addr)),(∀y∈l,y.2=.free→∃c,env.cells.lookup y.1=some c)→
   (forIn l acc (fun (x:Str × NameKind) (r:List (Str × Addr))=>if (x.2 == NameKind.free)=true then do let a ←cellOf env x.1;pure (ForInStep.yield ((x.1,a) :: r)) else pure (ForInStep.yield r)):Sem (List (Str × Addr)))=pure (jq env l acc):=by
  intro l
  induction l with
  | nil=>intro acc _;rfl
  | cons y r ih=>
   intro acc hl
   obtain⟨n,k⟩:=y
   rw[List.forIn_cons]
   have ih':=fun acc=>ih acc fun z hz=>hl z (List.mem_cons_of_mem _ hz)
   by_cases hk:(k == NameKind.free)=true
   ·obtain⟨c,hc⟩:=hl (n,k) List.mem_cons_self (by simpa using hk)
    have hc':env.cells.lookup n=some c:=hc
    have e1:cellOf env n=pure c:=by unfold cellOf;rw[hc']
    simp only[hk,if_true,e1,jq,hc',Option.getD_some]
    exact ih' _
   ·simp only[hk,jq]
    exact ih' _
 rw[key sc.names [] h]
 rfl
theorem kO {env:Env}:∀(l:List (Str × NameKind)) (acc:List (Str × Addr)),(∀z c,acc.lookup z=some c→c=(env.cells.lookup z).getD 0)→
  (∀z c,(jq env l acc).lookup z=some c→c=(env.cells.lookup z).getD 0)∧(∀z,(jq env l acc).lookup z=none↔(acc.lookup z=none∧(z,NameKind.free)∉l))
 | [],acc,h=>⟨h,fun z=>by simp [jq]⟩
 | (n,k) :: r,acc,h=>by
  by_cases hk:(k == NameKind.free)=true
  ·have hk':k=.free:=by simpa using hk
   subst hk'
   have h':∀z c,((n,(env.cells.lookup n).getD 0) :: acc).lookup z=some c→c=(env.cells.lookup z).getD 0:=by
    intro z c e
    rw[List.lookup_cons] at e
    cases hz:z == n with
    | true=>
     rw[hz] at e
     have e':(env.cells.lookup n).getD 0=c:=by simpa using e
     rw[beq_iff_eq.mp hz,e']
    | false=>
     rw[hz] at e
     exact h z c (by simpa using e)
   obtain⟨a,b⟩:=kO r _ h'
   refine⟨by simpa [jq] using a,fun z=>?_⟩
   have b':=b z
   show (jq env r (if (NameKind.free == NameKind.free)=true then _ else acc)).lookup z=none↔_
   rw[if_pos hk,b',List.lookup_cons]
   cases hz:z == n with
   | true=>
    have:z=n:=beq_iff_eq.mp hz
    subst this
    simp
   | false=>
    have hne:z≠n:=by intro q;subst q;simp at hz
    simp [hne]
  ·obtain⟨a,b⟩:=kO r acc h
   have e0:jq env ((n,k) :: r) acc=jq env r acc:=by
    show jq env r (if (k == NameKind.free)=true then _ else acc)=_
    rw[if_neg hk]
   rw[e0]
   refine⟨a,fun z=>?_⟩
   rw[b z]
   have hne:¬(NameKind.free=k):=by intro q;subst q;exact hk rfl
   simp [hne]
/-- a map that KL the keys alone changes what stands behind a key, and nothing else -/
theorem lookup_vals {α β : Type} {f : Str × α → Str × β} (hf : ∀ p, (f p).1 = p.1) (x : Str) (l : List (Str × α)) : (l.map f).lookup x = (l.lookup x).map fun k => (f (x, k)).2 := by
  induction l with
  | nil => rfl
  | cons p r ih =>
    obtain ⟨n, k⟩ := p
    have e : f (n, k) = (n, (f (n, k)).2) := Prod.ext (hf _) rfl
    rw [List.map_cons, e]
    by_cases q : x = n
    · subst q
      simp [List.lookup_cons]
    · simp [List.lookup_cons, beq_false_of_ne q, ih]
theorem x9 {env : Env} {sc : Scope} {x : Str} : (relabel sc env).names.lookup x = (sc.names.lookup x).map fun k => if k == .free && env.scope.kind == .function && env.kindOf x == some .cell then .cell else k := by
  show (List.map _ sc.names).lookup x = _
  rw [lookup_vals (fun p => by dsimp only; split <;> rfl)]
  congr 1
  funext k
  dsimp only
  split <;> rfl
structure yM (osc:Scope) (N:List Str) (sc:Scope) (x:Str) (names:List Str) (qM:List Nat):Prop where
 kind:sc.kind=.function
 ug:∀y∈sc.names,y.2≠.cell
 locs:∀y∈sc.names,y.2=.local→sc.names.lookup y.1=some .local
 frees:∀y∈sc.names,y.2=.free→osc.names.lookup y.1=some .cell
 own:sc.names.lookup x=some .local
 qM:names.map some=qM.map fun i=>N[i]?
 nO:∀y∈names,sc.names.lookup y=some .free
 nd:(x :: names).Nodup
noncomputable def wo (X:Cx) (sc:Scope) (x:Str) (names:List Str) (fp:List Addr) (s₀:Shared) (H₀:Hp):Cx where
 prog:=X.prog
 w:=X.w
 K:=X.K
 mg:=X.mg
 base:=X.base
 A:=X.A
 N:=x :: names
 s₀:=s₀
 H₀:=H₀
 env:=compEnvC sc (jq X.env sc.names []) s₀.heap.objs.size X.env
 outer:=X.stack
 stack:=X.stack
 ex:=fp
 fn:=fun _=>false
 calm:=X.calm
 pn:=[]
 xe:=fun _ _=>False
noncomputable def wm (σ:St) (qM:List Nat):St:=qM.map fun i=>(σ[i]?).join
noncomputable def QB (J:It) (qM:List Nat) (te:TE) (σ:St) (Q:VK) (H1:Hp):Prop:=∀D,H1 D=none→∃W:Nat→Nat→Hp→Prop,(∃m,W 0 m (upd H1 D (.lst [])))∧∀i m H2,W i m H2→
 (J.stop i H2∧Q (.ref D) H2)∨(J.go i H2∧∀y H3,J.Xb i H2 y H3→te (some y :: wm σ qM) H3 fun v H4=>∃ys,H4 D=some (.lst ys)∧ys.length < sizeLine∧∃m',m' < m∧W (i + 1) m' (upd H4 D (.lst (ys ++ [v]))))
noncomputable def XR (qM:List Nat) (wi:TI) (te:TE):TE:=fun σ H Q=>wi σ H fun J H1=>QB J qM te σ Q H1
/-- what comes behind what is known of a first step -/
theorem sq2 {M : Model} {A : Around} {E : Value → Shared → Prop} {s : Shared} {α β : Type} {x : Sem α} {f : α → Sem β} {Q1 : α → Shared → Prop} {Q : β → Shared → Prop} (h : wpAny M A x Q1 E s) (k : ∀ a s1, Q1 a s1 → wpAny M A (f a) Q E s1) : wpAny M A (x >>= f) Q E s := wpAny_bind (jO h k)
/-- a step of a comprehension's turn: what it raises is noted in the comprehension's own frame -/
abbrev Noted (prog : Program) (w : World) (A : Around) (env : Env) (R : Result → Shared → Prop) {α : Type} (x : Sem α) (Q : α → Shared → Prop) (s : Shared) : Prop := wpAny (model prog w) A x Q (notedBy (model prog w) A env fun e => R (.error e)) s
abbrev testB (env : Env) (c : Expr) (r : Bool) : Sem (ForInStep Bool) := if r = true then isTrue c env (eval c env) >>= fun ok => pure (.yield ok) else pure (.yield r)
section
variable {prog:Program} {w:World} {A:Around} {R:Result→Shared→Prop} {s:Shared}
theorem tI {el tg src : Expr} {scope : Scope} {pos : Pos} {it acc : Value} {env : Env} (I : Nat → Shared → Prop)
    (turn : ∀ n s, I n s → Noted prog w A env R (pyNext it) (fun r s1 => match r with
      | none => R (.ok .next) s1
      | some v => Noted prog w A env R (letOwnedTupleGo tg it v) (fun _ => Noted prog w A env R (assign tg env v) fun _ => Noted prog w A env R (eval el env) fun x => Noted prog w A env R (call (.builtin "list.append") [acc, x]) fun _ s5 => ∃ m, m < n ∧ I m s5) s1) s) (n : Nat) (h : I n s) :
    codeAny (model prog w) A (.compLoop (.ListComp el [⟨tg, src, [], 0⟩] scope pos) 0 it acc env) R s := by
  refine codeAny_loop rfl I (fun k s1 hI => (?_ : wpAny _ _ (Sem.onRaise _ _) _ _ _)) n h
  refine wpAny_noted (compTurn_list .. ▸ wpAny_bind (wpAny_standAt (sq2 (turn k s1 hI) fun r s2 hr => ?_)))
  cases r
  · exact wpAny_pure hr
  · exact sq2 hr fun _ _ a => sq2 a fun _ _ b => wpAny_bind (wpAny_tests_nil (sq2 (sq2 b fun _ _ c => sq2 c fun _ _ d => wpAny_pure d) fun _ _ e => wpAny_pure ⟨rfl, e⟩))
end
section
variable {X:Cx}
theorem Ks {pins:List (Addr × Obj)} {σ:St} {H:Hp} {s:Shared} {osc:Scope} {N:List Str} {sc:Scope} {x:Str} {names:List Str} {qM:List Nat} {fp:List Addr}
  (hos:X.env.scope=osc) (cs:yM osc N sc x names qM) (I:Inv X pins σ H s) (hf:∀b∈fp,yH X pins H b) (hlt:∀b∈fp,b < s.heap.objs.size):(wo X sc x names fp s H).Ok:=by
 subst hos
 have cl:=kO (env:=X.env) sc.names [] (fun z c e=>by simp at e)
 have hcl:∀y c,(jq X.env sc.names []).lookup y=some c→X.env.cells.lookup y=some c:=fun y c e=>by
  have e1:=cl.1 y c e
  have hm:(y,NameKind.free)∈sc.names:=by
   by_cases q:(y,NameKind.free)∈sc.names
   ·exact q
   ·have:=(cl.2 y).mpr ⟨rfl,q⟩
    rw[this] at e;cases e
  obtain⟨c',hc'⟩:=I.ok.has y (.inl (cs.frees _ hm rfl))
  rw[hc'] at e1 ⊢
  rw[e1];rfl
 refine⟨I.ok.mod,?_,I.ok.glob,I.ok.blt,Nat.le_refl _,fun y z c h1 h2=>I.ok.inj y z c (hcl y c h1) (hcl z c h2),fun y hy=>?_,fun y c h=>?_,I.ok.hd,I.ok.frames,.inl rfl,fun b hb=>⟨?_,fun y c h=>?_⟩,
  I.bs,Nat.le_trans I.ok.eP I.sz,fun b o e hb=>?_,fun b hb z=>?_,I.stack,I.pX⟩
 ·exact cs.kind
 ·have hy':(relabel sc X.env).names.lookup y=some .cell∨(relabel sc X.env).names.lookup y=some .free:=hy
  have key:sc.names.lookup y=some .free:=by
   rw[x9] at hy'
   cases q:sc.names.lookup y with
   | none=>rw[q] at hy';simp at hy'
   | some k=>
    rw[q] at hy'
    have hm:=PySem.mem_of_lookup q
    have hnc:=cs.ug _ hm
    by_cases hk:k=.free
    ·rw[hk]
    ·have e:(if (k == NameKind.free && X.env.scope.kind == .function && X.env.kindOf y == some .cell)=true then NameKind.cell else k)=k:=if_neg (by simp [hk])
     rw[Option.map_some,e] at hy'
     rcases hy' with z | z
     ·exact absurd (Option.some.inj z) hnc
     ·exact absurd (Option.some.inj z) hk
  have hm:=PySem.mem_of_lookup key
  cases q:(jq X.env sc.names []).lookup y with
  | some c=>exact⟨c,q⟩
  | none=>exact absurd hm ((cl.2 y).mp q).2
 ·exact absurd (show false=true from h) (by simp)
 ·exact Nat.ne_of_lt (hlt b hb)
 ·exact(hf b hb).2.2.2.2.1 y c (hcl y c h)
 ·rcases(hf b hb).2.2.2.1 with z | z
  ·exact I.ok.oI b o e z
  ·exact absurd (Nat.lt_of_lt_of_le (Heap.lt_size e) (Nat.le_trans I.ok.eP z)) (Nat.lt_irrefl _)
 ·rcases List.mem_cons.mp (I.cE b z) with q | q
  ·exact(hf b hb).2.1 q
  ·exact(hf b hb).2.2.1 q
theorem tJ {pins:List (Addr × Obj)} {σ:St} {s₂:Shared} {osc:Scope} {N:List Str} {sc:Scope} {x:Str} {px pos:Pos} {elt iter:Expr} {names:List Str} {qM:List Nat} {te:TE} {E:Value→Shared→Prop}
  {RR:Value→Addr→Result→Shared→Prop} {H2:Hp} {it:Addr} {fp:List Addr} {tn:Nat→Heap→Prop} {J:It} {Qd:V→Hp→Prop}
  (hc:X.calm=true) (hos:X.env.scope=osc) (hN:X.N=N) (cs:yM osc N sc x names qM) (he:∀fp s₀ H₀,PE (wo X sc x names fp s₀ H₀) elt te)
  (I2:Inv X pins σ H2 s₂) (T:Turn X.prog X.w X.K (.Name x px) J fp it tn) (st2:tn 0 s₂.heap) (f2:∀b∈fp,yH X pins H2 b)
  (hW:QB J qM te σ Qd H2)
  (cont:∀D C H5 s6 m,Inv X pins σ H5 s6→s6.heap.Ns C m→yH X pins H5 C→Qd (.ref D) H5→RR (.ref D) C (.ok .next) s6) :
  wpAny (model X.prog X.w) X.A (newList []) (fun acc s₃=>wpAny (model X.prog X.w) X.A (newFunctionEnv sc X.env.globals (jq X.env sc.names []) [] X.env.qual none .none (some X.env)) (fun cenv s₄=>
   codeAny (model X.prog X.w) X.A (.compStart (.ListComp elt [⟨.Name x px,iter,[],0⟩] sc pos) 0 (.ref it) acc { cenv with scope:=relabel sc X.env }) (RR acc cenv.locals) s₄) E s₃) E s₂:=by
 subst hN
 refine wpAny_newObj_type (wpAny_newFunctionEnv cs.ug (by intro y hy;simp at hy) (fun h₁ hns₁ hsb₁=>?_) cs.kind)
 dsimp only at hns₁ hsb₁ ⊢
 have fp2:∀b∈fp,b < s₂.heap.objs.size:=fun b hb=>by
  obtain⟨o,e,_⟩:=T.obj _ _ st2 b hb
  exact Heap.lt_size e
 have I3:Inv X pins σ (upd H2 s₂.heap.objs.size (.lst [])) { s₂ with heap:=s₂.heap.push { cls:=.type "list",dict:=none,data:=.seq ([]:List Value).toArray } }:=I2.Qj (t':=s₂.toks) (its:=[]) .nil (Nat.zero_le _)
 obtain⟨W,⟨m0,w0⟩,turn⟩:=hW s₂.heap.objs.size I2.fresh
 have f3:∀b∈fp,yH X pins (upd H2 s₂.heap.objs.size (.lst [])) b:=fun b hb=>⟨by rw[qW (Nat.ne_of_lt (fp2 b hb))];exact(f2 b hb).1,(f2 b hb).2⟩
 have hD:∀b o,s₂.heap.get? b=some o→(s₂.heap.push { cls:=.type "list",dict:=none,data:=.seq ([]:List Value).toArray }).get? b=some o:=fun b o e=>Heap.get?_push_of_some _ e
 generalize hs3:({ s₂ with heap:=s₂.heap.push { cls:=.type "list",dict:=none,data:=.seq ([]:List Value).toArray } }:Shared)=s₃ at *
 have hs3h:s₃.heap=s₂.heap.push { cls:=.type "list",dict:=none,data:=.seq ([]:List Value).toArray }:=by rw[←hs3]
 rw[←hs3h] at hns₁ hsb₁ hD ⊢
 have eI:∀b∈fp,b < s₃.heap.objs.size:=fun b hb=>by
  rw[hs3h,Heap.size_push];exact Nat.lt_succ_of_lt (fp2 b hb)
 have k3:∀b o,s₃.heap.get? b=some o→h₁.get? b=some o:=fun b o e=>hsb₁.extBut b o (Nat.ne_of_lt (Heap.lt_size e)) (Heap.get?_push_of_some _ e)
 have ok:=Ks hos cs I3 f3 eI
 have cl:=kO (env:=X.env) sc.names [] (fun z c e=>by simp at e)
 have hcl:∀y c,(jq X.env sc.names []).lookup y=some c→X.env.cells.lookup y=some c:=fun y c e=>by
  have e1:=cl.1 y c e
  have hm:(y,NameKind.free)∈sc.names:=by
   by_cases q:(y,NameKind.free)∈sc.names
   ·exact q
   ·have:=(cl.2 y).mpr ⟨rfl,q⟩
    rw[this] at e;cases e
  obtain⟨c',hc'⟩:=I3.ok.has y (.inl (by show X.env.scope.names.lookup y=_;rw[hos];exact cs.frees _ hm rfl))
  rw[hc'] at e1 ⊢
  rw[e1];rfl
 have cell4:∀y c,(jq X.env sc.names []).lookup y=some c→∀v,s₃.heap.IsCell c v→h₁.IsCell c v:=fun y c e v ⟨o,ho,hd⟩=>⟨o,k3 _ _ ho,hd⟩
 have lenC:qM.length=names.length:=by have:=congrArg List.length cs.qM;simpa using this.symm
 have I4:∀tk,Inv (wo X sc x names fp s₃ (upd H2 s₂.heap.objs.size (.lst []))) [] (none :: wm σ qM) (upd H2 s₂.heap.objs.size (.lst [])) { s₃ with heap:=h₁,toks:=tk }:=fun tk=>by
  refine⟨ok,rfl,I3.bare,Un.kept k3,⟨_,hns₁,fun i y v e1 e2 e3=>?_⟩,fun y c e=>?_,I3.fresh,fun y c e=>I3.wR y c (hcl y c e),fun p hp=>absurd (show p∈([]:List (Addr × Obj)) from hp) (by simp),I3.jz.kept k3,?_⟩
  ·cases i with
   | zero=>simp at e2
   | succ j=>
    have e1':names[j]?=some y:=by simpa [wo] using e1
    have e2':(wm σ qM)[j]?=some (some v):=by simpa using e2
    unfold wm at e2'
    rw[List.getElem?_map] at e2'
    cases qc:qM[j]? with
    | none=>rw[qc] at e2';cases e2'
    | some i0=>
     rw[qc] at e2'
     have e2'':(σ[i0]?).join=some v:=by simpa using e2'
     have e3':σ[i0]?=some (some v):=by
      cases qs:σ[i0]? with
      | none=>rw[qs] at e2'';cases e2''
      | some o=>rw[qs] at e2'';rw[show o=some v from by simpa using e2'']
     have eN:X.N[i0]?=some y:=by
      have q1:(names.map some)[j]?=(qM.map fun i=>X.N[i]?)[j]?:=by rw[cs.qM]
      rw[List.getElem?_map,List.getElem?_map,e1',qc] at q1
      have q2:some y=X.N[i0]?:=by simpa using q1
      exact q2.symm
     have hfree:=cs.nO y (List.mem_of_getElem? e1')
     have hm:=PySem.mem_of_lookup hfree
     have hcell:X.env.scope.names.lookup y=some .cell:=by rw[hos];exact cs.frees _ hm rfl
     obtain⟨m,hn,hl⟩:=I3.loc
     obtain⟨u,ru,lk⟩:=hl i0 y v eN e3' (.inr (.inl hcell))
     refine⟨u,ru,?_⟩
     rcases lk with ⟨kk,_⟩ | ⟨kk,c,ec,hcl'⟩
     ·have kk':X.env.scope.names.lookup y=some .local:=kk
      rw[hcell] at kk';cases kk'
     ·refine .inr ⟨?_,c,?_,?_⟩
      ·left
       show (relabel sc X.env).names.lookup y=some .cell
       rw[x9,hfree]
       have ef:(X.env.scope.kind == ScopeKind.function)=true:=by rw[I3.ok.kind];rfl
       have ek:(X.env.kindOf y == some NameKind.cell)=true:=by
        show (X.env.scope.names.lookup y == some NameKind.cell)=true
        rw[hcell];rfl
       simp [ef,ek]
      ·show (jq X.env sc.names []).lookup y=some c
       cases q:(jq X.env sc.names []).lookup y with
       | none=>exact absurd hm ((cl.2 y).mp q).2
       | some c'=>
        have:=hcl y c' q
        rw[ec] at this
        exact this.symm
      ·obtain⟨o,ho,hd⟩:=hcl'
       exact⟨o,k3 _ _ ho,hd⟩
  ·obtain⟨v,hv⟩:=I3.cell y c (hcl y c e)
   exact⟨v,cell4 y c e v hv⟩
  ·show (none :: wm σ qM).length=(x :: names).length
   unfold wm
   simp [lenC]
 have st4:tn 0 h₁:=T.keep _ _ _ st2 fun b hb o e=>k3 b o (by rw[hs3h];exact Heap.get?_push_of_some _ e)
 have fpok:∀{H':Hp},(∀b∈fp,H' b=none)→∀b∈fp,yH (wo X sc x names fp s₃ (upd H2 s₂.heap.objs.size (.lst []))) [] H' b:=fun hn b hb=>
  ⟨hn b hb,(ok.Kc b hb).1,ok.oQ b hb,.inl hb,(ok.Kc b hb).2,fun p hp=>absurd (show p∈([]:List (Addr × Obj)) from hp) (by simp)⟩
 have loop:∀s₄:Shared,s₄={ s₃ with heap:=h₁,toks:=s₃.toks + ([]:List (Str × Value)).length }→
   codeAny (model X.prog X.w) X.A (.compLoop (.ListComp elt [⟨.Name x px,iter,[],0⟩] sc pos) 0 (.ref it) (.ref s₂.heap.objs.size) (compEnvC sc (jq X.env sc.names []) s₃.heap.objs.size X.env))
    (RR (.ref s₂.heap.objs.size) s₃.heap.objs.size) s₄:=by
  rintro s₄ rfl
  refine tI (fun n s'=>∃i H',Inv (wo X sc x names fp s₃ (upd H2 s₂.heap.objs.size (.lst []))) [] (none :: wm σ qM) H' s'∧tn i s'.heap∧(∀b∈fp,H' b=none)∧W i n H') ?_ m0
   ⟨0,_,I4 _,st4,fun b hb=>(f3 b hb).1,w0⟩
  rintro n s5 ⟨i,H5,I5,st5,fr5,w5⟩
  rcases turn i n H5 w5 with ⟨stop,q⟩ | ⟨go,step⟩
  ·refine jO (T.done (wo X sc x names fp s₃ (upd H2 s₂.heap.objs.size (.lst []))) rfl rfl rfl hc i [] s5 _ H5 _ I5 (fpok fr5) st5 stop) fun r s6 ⟨hr,I6⟩=>?_
   subst hr
   obtain⟨m,hn,_⟩:=I6.loc
   have J6:Inv X pins σ H5 s6:=I3.nW (ch:=fp) I6.os I6.base I6.jz I6.bare fun b hb=>⟨(f3 b hb).2.2.2.1,(f3 b hb).2.1,(f3 b hb).2.2.2.2.1,(f3 b hb).2.2.2.2.2⟩
   exact cont _ _ H5 s6 m J6 hn (I3.eB (H':=H5) (Nat.le_refl _) I6.free) q
  ·refine jO (T.item (wo X sc x names fp s₃ (upd H2 s₂.heap.objs.size (.lst []))) rfl rfl rfl hc i [] s5 _ H5 _ I5 (fpok fr5) st5 go) fun r s6 ⟨u,hr,h6⟩=>?_
   subst hr
   refine jO h6 fun _ s6' ⟨y,H6,I6,r6,y6,st6,fr6⟩=>?_
   have I6':=I6.pinned (fpok fr6) (T.obj _ _ st6)
   have own':(relabel sc X.env).names.lookup x=some .local:=lookup_relabel_local cs.own
   refine wpAny_mono (kh (X:=wo X sc x names fp s₃ (upd H2 s₂.heap.objs.size (.lst []))) (i:=0) (x:=x) (pos:=px) cs.nd rfl (.inl own') (.inr own') _ s6' _ H6 y u (fun σ' H'=>σ'=(none :: wm σ qM).set 0 (some y)∧H'=H6) I6' r6 ⟨rfl,rfl⟩)
    (fun _ s7 ⟨σ7,H7,I7,e7,e7'⟩=>?_) fun _ _ z=>False.elim z
   subst e7 e7'
   refine wpAny_mono (he fp s₃ _ _ s7 _ H7 _ I7 (step y H7 y6)) (fun v s8 ⟨vv,H8,I8,r8,ys,hD8,hz8,m',hm',w8⟩=>?_) fun _ _ z=>False.elim z
   refine wpAny_mono (mY (X:=wo X sc x names fp s₃ (upd H2 s₂.heap.objs.size (.lst []))) _ s8 _ H8 (.ref s₂.heap.objs.size) [vv] (.ref s₂.heap.objs.size) [v] (fun _ H'=>H'=upd H8 s₂.heap.objs.size (.lst (ys ++ [vv]))) I8 rfl (.cons r8 .nil)
    ⟨_,ys,vv,rfl,rfl,hD8,hz8,rfl⟩) (fun _ s9 ⟨_,H9,I9,_,e9⟩=>?_) fun _ _ z=>False.elim z
   subst e9
   refine⟨m',hm',i + 1,_,(I9.wO).weak ?_ ?_,T.keep _ _ _ st6 fun b hb o e=>(I9.pin (b,o) (List.mem_append_right _ (List.mem_append_right _ (vG hb e)))).1,fun b hb=>?_,w8⟩
   ·simp
   ·intro j v' ej
    cases j with
    | zero=>simp at ej
    | succ j=>simpa using ej
   ·obtain⟨o,e,d⟩:=T.obj _ _ st6 b hb
    exact(I9.pin (b,o) (List.mem_append_right _ (List.mem_append_right _ (vG hb e)))).2.1
 exact codeAny_compStart_list (loop _ (by rw[←hs3])) (T.self _ 0 _ _ _ st4 (loop _ (by rw[←hs3])))
theorem rV {pins:List (Addr × Obj)} {σ:St} {H:Hp} {s:Shared} {osc:Scope} {N:List Str} {sc:Scope} {x:Str} {names:List Str} {qM:List Nat} (hos:X.env.scope=osc) (cs:yM osc N sc x names qM) (I:Inv X pins σ H s) :
  closureFor sc X.env=pure (jq X.env sc.names []):=
 pY fun y hy hk=>I.ok.has y.1 (.inl (by show X.env.scope.names.lookup y.1=_;rw[hos];exact cs.frees y hy hk))
theorem mr {osc:Scope} {N:List Str} {sc:Scope} {x:Str} {px pos:Pos} {elt iter:Expr} {names:List Str} {qM:List Nat} {wi:TI} {te:TE}
  (hc:X.calm=true) (hos:X.env.scope=osc) (hN:X.N=N) (cs:yM osc N sc x names qM) (hi:PI X (.Name x px) iter wi) (he:∀fp s₀ H₀,PE (wo X sc x names fp s₀ H₀) elt te)
  (hs:∀v,foldedSetIterable iter X.env v=pure v:=by intro _;rfl):PE X (.ListComp elt [⟨.Name x px,iter,[],0⟩] sc pos) (XR qM wi te):=by
 intro pins s σ H Q I h
 rw[eval_ListComp]
 refine wpAny_comprehension_free (use:=none) rfl hs (rV hos cs I) cs.kind cs.locs (jO (hi pins s σ H _ I h) fun xv s1 h1=>jO h1 fun itv s2 h2=>?_)
 obtain⟨it,fp,tn,J,H2,rfl,I2,T,st2,f2,hW⟩:=h2
 refine tJ (Qd:=Q) (RR:=fun acc C=>compPost (model X.prog X.w) X.A X.xe none (EP X pins σ Q) acc C) hc hos hN cs he I2 T st2 f2 hW fun D C H5 s6 m I6 hn fC q=>?_
 refine⟨m,hn,fun h' sb=>?_⟩
 obtain⟨g0,g1,g2,g3,g4,g5⟩:=fC
 exact⟨.ref D,H5,I6.turned (t':=s6.toks) (it:=C) (fun b o hb e=>sb.extBut b o hb e) g0 g1 g3 g4 g5,rfl,q⟩
theorem mQ {osc:Scope} {N:List Str} {sc:Scope} {x y:Str} {px py pos spos:Pos} {elt iter:Expr} {names:List Str} {qM:List Nat} {wi:TI} {te:TE} {i:Nat}
  (hc:X.calm=true) (hos:X.env.scope=osc) (hN:X.N=N) (nd:X.N.Nodup) (cs:yM osc N sc x names qM) (hi':X.N[i]?=some y) (hy:X.env.scope.names.lookup y=some .local) (hi:PI X (.Name x px) iter wi)
  (he:∀fp s₀ H₀,PE (wo X sc x names fp s₀ H₀) elt te) (hsw:swapsWith (.ListComp elt [⟨.Name x px,iter,[],0⟩] sc pos) (some (.Name y py)) spos.line X.env=pure true:=by rfl)
  (hs:∀v,foldedSetIterable iter X.env v=pure v:=by intro _;rfl):PS X (.Assign [.Name y py] (.ListComp elt [⟨.Name x px,iter,[],0⟩] sc pos) spos) (Vm (XR qM wi te) (cO i)):=by
 intro pins s σ H D I h
 rw[exec_Assign_Name_used _ _ _ _ hsw]
 refine wpAny_bind (wpAny_standAt (wpAny_bind ?_))
 show wpAny _ X.A (do let _ ←comprehension (.ListComp elt [⟨.Name x px,iter,[],0⟩] sc pos) sc X.env _ (newList []) false (eval iter X.env) (some (assign (.Name y py) X.env))) _ _ s
 refine wpAny_bind (wpAny_mono (wpAny_comprehension_free (use:=some (assign (.Name y py) X.env)) (Q:=fun _ s'=>SP X pins D .next s') rfl hs (rV hos cs I) cs.kind cs.locs
  (jO (hi pins s σ H _ I h) fun xv s1 h1=>jO h1 fun itv s2 h2=>?_)) (fun _ s' hq=>wpAny_pure (wpAny_pure hq)) fun _ _ e=>e)
 obtain⟨it,fp,tn,J,H2,rfl,I2,T,st2,f2,hW⟩:=h2
 refine tJ (Qd:=fun x H1=>cO i x σ H1 D.nx) (RR:=fun acc C=>compPost (model X.prog X.w) X.A X.xe (some (assign (.Name y py) X.env)) (fun _ s'=>SP X pins D .next s') acc C) hc hos hN cs he I2 T st2 f2 hW fun D' C H5 s6 m I6 hn fC q=>?_
 show wpAny _ X.A (assign (.Name y py) X.env (.ref D')) _ _ _
 obtain⟨oC,es,ep,eC,dC,rC⟩:=id hn
 obtain⟨g0,g1,g2,g3,g4,g5⟩:=id fC
 have I6p:Inv X (pins ++ [(C,oC)]) σ H5 s6:=I6.sX fun p hp=>(List.mem_append.mp hp).elim (fun z=>I6.pin p (List.mem_append_right _ z)) fun z=>by
  have e:p=(C,oC):=by simpa using z
  subst e
  exact⟨eC,g0,g1,g2,fun v z=>by rw[dC] at z;cases z⟩
 refine wpAny_assign_Name (bB I6p nd hi' (.inl hy) (v:=.ref D') rfl (fun s7 I7=>?_) (.inr hy))
 have e7:=(I7.pin (C,oC) (List.mem_append_right _ (List.mem_append_right _ (by simp)))).1
 refine⟨m,⟨oC,es,ep,e7,dC,rC⟩,fun h' sb=>?_⟩
 exact⟨_,H5,(I7.wO).turned (t':=s7.toks) (it:=C) (fun b o hb e=>sb.extBut b o hb e) g0 g1 g3 g4 g5,q⟩
end
noncomputable def eW (J:It) (H:Hp) (xs:List V):Prop:=∀(i:Nat) (H':Hp),qg H H'→
 (i < xs.length→J.go i H')∧(∀y H3,J.Xb i H' y H3→H3=H'∧(i < xs.length→xs[i]?=some y))∧(i=xs.length→J.stop i H')
theorem mU {K:PySem.W.Frag} {a:Addr} {xs:List V} {H:Hp} (h:q0 K H a xs):eW (Vo K a) H xs:=fun i H' s=>
 ⟨fun hi=>⟨xs,xs[i],s.seq h,by simp [hi]⟩,fun y H3 q=>⟨q.1,fun _=>q.2 xs (s.seq h)⟩,fun e=>⟨xs,s.seq h,Nat.le_of_eq e.symm⟩⟩
theorem fj {lo:Int} {n:Nat} {H:Hp}:eW (XT lo n) H ((List.range n).map fun (i:Nat)=>V.int (lo + (i:Int))):=fun i H' s=>
 ⟨fun hi=>by show i < n;simpa using hi,fun y H3 q=>⟨q.1,fun hi=>by
  have hi':i < n:=by simpa using hi
  rw[q.2,List.getElem?_map,List.getElem?_range hi'];rfl⟩,fun e=>by
  have:i=n:=by simpa using e
  exact Nat.le_of_eq this.symm⟩
theorem Za {z:Str} {H:Hp}:eW (WS z) H (z.cps.toList.map fun c=>V.str ⟨#[c]⟩):=fun i H' s=>
 ⟨fun hi=>by simpa [WS,Str.length] using hi,fun y H3 q=>⟨q.1,fun hi=>by
  obtain⟨_,c,hc,e⟩:=q
  rw[e,List.getElem?_map]
  have:z.cps.toList[i]?=some c:=by simpa using hc
  rw[this];rfl⟩,fun e=>by
  have:i=z.length:=by simpa [Str.length] using e
  exact this⟩
theorem gq {J:It} {H:Hp} {xs:List V} {qM:List Nat} {te:TE} {σ:St} {Q:VK} (hJ:eW J H xs) (Pr:Nat→V→V→Prop) (hsz:xs.length≤sizeLine)
  (hs:∀(i:Nat) (y:V) (H':Hp) (Q':VK),xs[i]?=some y→qg H H'→(∀v H4,qg H' H4→Pr i y v→Q' v H4)→te (some y :: wm σ qM) H' Q')
  (hd:∀(D:Addr) (H':Hp) (ys:List V),qg H H'→H D=none→H' D=some (.lst ys)→ys.length=xs.length→(∀(i:Nat) (y v:V),xs[i]?=some y→ys[i]?=some v→Pr i y v)→Q (.ref D) H') :
  QB J qM te σ Q H:=by
 intro D hD
 refine⟨fun i m H2=>m=xs.length - i∧i≤xs.length∧qg H H2∧∃ys,H2 D=some (.lst ys)∧ys.length=i∧∀(j:Nat) (y v:V),xs[j]?=some y→ys[j]?=some v→Pr j y v,
  ⟨xs.length,by simp,Nat.zero_le _,fun b o e=>by rw[qW (qv e hD)];exact e,[],qw,rfl,fun j y v _ e=>by simp at e⟩,?_⟩
 rintro i m H2 ⟨rfl,hi,s2,ys,hy,hl,hp⟩
 obtain⟨j1,j2,j3⟩:=hJ i H2 s2
 by_cases hlt:i < xs.length
 ·refine .inr ⟨j1 hlt,fun y H3 q=>?_⟩
  obtain⟨e3,ey⟩:=j2 y H3 q
  subst e3
  refine hs i y _ _ (ey hlt) s2 fun v H4 s4 pr=>⟨ys,s4 D _ hy,by omega,xs.length - (i + 1),by omega,rfl,hlt,fun b o e=>?_,ys ++ [v],qw,by simp [hl],fun j y' v' e1 e2=>?_⟩
  ·rw[qW (qv e hD)]
   exact s4 b o (s2 b o e)
  ·by_cases hj:j < ys.length
   ·rw[List.getElem?_append_left hj] at e2
    exact hp j y' v' e1 e2
   ·have hje:j=i:=by
     have:=(List.getElem?_eq_some_iff.mp e2).1
     simp at this;omega
    subst hje
    rw[List.getElem?_append_right (by omega),hl,Nat.sub_self] at e2
    rw[ey hlt] at e1
    cases e1
    have:v=v':=by simpa using e2
    subst this
    exact pr
 ·have e:i=xs.length:=by omega
  subst e
  exact .inl ⟨j3 rfl,hd D H2 ys s2 hD hy hl hp⟩
end L2
namespace L2
open PySem PySem.Spec PyProof.Rows
theorem qg.new {H H':Hp} {l:Addr} {o:HO} (e:qg H H') (hl:H' l=none):qg H (upd H' l o):=fun b u q=>by
 have q':=e b u q
 rw[qW (qv q' hl)]
 exact q'
theorem qg.put {H H':Hp} {l:Addr} {o:HO} (e:qg H H') (hl:H l=none):qg H (upd H' l o):=fun b u q=>by
 rw[qW (qv q hl)]
 exact e b u q
theorem qg.uP {H:Hp} {l:Addr} {o:HO} (hl:H l=none):qg H (upd H l o):=(qg.refl H).new hl
theorem sW:∀(ys:List V),(∀v∈ys,∃b,v=V.bl b)→∃bs:List Bool,ys=bs.map V.bl
 | [],_=>⟨[],rfl⟩
 | v :: r,h=>by
  obtain⟨b,rfl⟩:=h v List.mem_cons_self
  obtain⟨bs,rfl⟩:=sW r fun u hu=>h u (List.mem_cons_of_mem _ hu)
  exact⟨b :: bs,rfl⟩
theorem tw (sep:Str) (l:List Str):(Txt.join sep l).length≤(l.map (·.length)).sum + l.length * sep.length:=by
 have e:Txt.join sep l=Str.join sep l:=beq_iff_eq.mp (join_plain_closes sep l)
 rw[e]
 exact StrLaws.join_length_le sep l
theorem cB (a b:Str):(a ++ b).length=a.length + b.length:=by
 show (a.cps ++ b.cps).size=_
 rw[Array.size_append]
 rfl
noncomputable def Ka:List Expr→Bool
 | []=>true
 | .Constant (.str _) _ _ :: r=>Ka r
 | _=>false
noncomputable def Xp:List Expr→List V
 | []=>[]
 | .Constant (.str x) _ _ :: r=>V.str x :: Xp r
 | _=>[]
noncomputable def Y8 (es:List Expr):TA:=fun _ H Q=>Q (Xp es) H
theorem bO {es:List Expr} {p:Pos} {t:Option Expr} {l:Nat} {env:Env}:swapsWith (.List es p) t l env=pure false:=rfl
theorem qx {n:Nat} (h:n≤1000):n≤sizeLine:=Nat.le_of_lt (mP h)
end L2
namespace L2
open PySem PySem.Spec PyProof.Rows
section
variable {X:Cx} {CX:uX} {k:Nat} {f:Addr} {fd:FuncData} {ps:List Str} {sp:Sp} {dvs:List V} {ds:List Value} {E:XK} {m:Str} {pos apos:Pos} {e o:Expr} {es:List Expr} {ta:TE} {t:TA}
theorem PS.join {st:Stmt} {t:TS} (h:PS X st t):PS X st (fun D σ H=>∃M:St→Hp→Prop,t { D with nx:=M } σ H∧∀σ' H',M σ' H'→D.nx σ' H'):=by
 intro pins s σ H D I ⟨M,q,hM⟩
 refine jO (h pins s σ H _ I q) fun fl s' r=>?_
 cases fl with
 | next=>obtain⟨σ',H',I',r⟩:=r;exact⟨σ',H',I',hM _ _ r⟩
 | brk=>exact r
 | cont=>exact r
 | ret u=>exact r
theorem PE.cut {e:Expr} {t:TE} (h:PE X e t):PE X e (fun σ H Q=>∃M:VK,t σ H M∧∀v H',M v H'→Q v H'):=by
 intro pins s σ H Q I ⟨M,q,hM⟩
 exact jO (h pins s σ H _ I q) fun u s' ⟨v,H',I',r,z⟩=>⟨v,H',I',r,hM v H' z⟩
noncomputable def YN (K:PySem.W.Frag) (f:Addr) (m:Str) (sp:Sp) (dvs:List V) (E:XK) (ta:TE) (t:TA):TE:=fun σ H Q=>ta σ H fun x H1=>∃a C dx fs,x=.ref a∧H1 a=some (.ins C dx fs)∧dI K C∧Meth K C m f∧fs.lookup m=none∧
 t σ H1 fun vs H2=>sp (x :: (vs ++ dvs)) H2 Q E
end
noncomputable def asc (x:Str):Prop:=∀c∈x.cps.toList,c < 128
theorem asc.ok {x:Str} (h:asc x):PyData.strOk x=true:=by
 unfold PyData.strOk
 rw[Array.all_eq_true]
 intro i hi
 have:=h x.cps[i] (by simp)
 exact decide_eq_true (by omega)
theorem cps_append (a b:Str):(a ++ b).cps.toList=a.cps.toList ++ b.cps.toList:=by
 show (a.cps ++ b.cps).toList=_
 simp
theorem join_eq (sep:Str) (l:List Str):Txt.join sep l=Str.join sep l:=beq_iff_eq.mp (join_plain_closes sep l)
theorem dH {x:Str} {xs:List Str}:JT (.str x) (xs.map V.str)=decide (x∈xs):=by
 induction xs with
 | nil=>rfl
 | cons y r ih=>
  unfold JT at ih ⊢
  rw[List.map_cons,List.any_cons,ih]
  have:Xk (.str y) (.str x)=decide (x=y):=by
   show (y == x)=_
   by_cases h:x=y
   ·subst h;simp
   ·rw[decide_eq_false h];exact beq_eq_false_iff_ne.mpr fun q=>h q.symm
  rw[this]
  by_cases h:x=y<;>by_cases h':x∈r<;>simp [h,h']
end L2
namespace L2
open PySem PySem.Spec PyProof.Rows
noncomputable def Nw (H:Hp) (o:HO) (Q:VK):Prop:=∀p H',qg H H'→H p=none→H' p=some o→Q (.ref p) H'
theorem Nw.el {H:Hp} {o:HO} {Q:VK} (h:Nw H o Q) (p:Addr) (hp:H p=none):Q (.ref p) (upd H p o):=h p _ (qg.uP hp) hp qw
noncomputable def Keeps (l:Addr) (H H':Hp):Prop:=∀b,b≠l→H' b=H b
theorem Keeps.upd {H:Hp} {l:Addr} {o:HO}:Keeps l H (upd H l o):=fun _ h=>qW h
noncomputable def Ch (H:Hp) (l:Addr) (o:HO) (Q:Hp→Prop):Prop:=∀H',Keeps l H H'→H' l=some o→Q H'
theorem Ch.el {H:Hp} {l:Addr} {o:HO} {Q:Hp→Prop} (h:Ch H l o Q):Q (L2.upd H l o):=h _ Keeps.upd qw
theorem Keeps.put {H H1 H2:Hp} {l:Addr} (k:Keeps l H1 H2) (s:qg H H1) (n:H l=none):qg H H2:=fun b o e=>by
 rw[k b (qv e n)]
 exact s b o e
theorem Keeps.look {H1 H2:Hp} {l b:Addr} {o:HO} (k:Keeps l H1 H2) (e:H1 b=some o) (n:b≠l):H2 b=some o:=by rw[k b n];exact e
noncomputable def Fx (H H':Hp):Prop:=(∀b xs,H b=some (.tup xs)→H' b=some (.tup xs))∧∀b C dx fs,H b=some (.ins C dx fs)→H' b=some (.ins C dx fs)
section
variable {X:Cx}
theorem PE.mono {e:Expr} {t t':TE} (h:PE X e t) (m:∀σ H Q,t' σ H Q→t σ H Q):PE X e t':=fun pins s σ H Q I q=>h pins s σ H Q I (m σ H Q q)
theorem kD.mono {f:Value} {r r':List V→Hp→VK→Prop} (h:kD X f r) (m:∀xs H Q,r' xs H Q→r xs H Q):kD X f r':=fun pins s σ H xs us Q I rv q=>h pins s σ H xs us Q I rv (m xs H Q q)
theorem aE.mono {id:String} {r r':V→List V→Hp→VK→Prop} (h:aE X id r) (m:∀x xs H Q,r' x xs H Q→r x xs H Q):aE X id r':=fun pins s σ H x vs v us Q I rx rv q=>h pins s σ H x vs v us Q I rx rv (m x vs H Q q)
theorem bG.mono {f:Value→Value→Sem Value} {r r':R2} (h:bG X f r) (m:∀x y H Q,r' x y H Q→r x y H Q):bG X f r':=fun pins s σ H x y v u Q I rx ry q=>h pins s σ H x y v u Q I rx ry (m x y H Q q)
theorem XI.mono {r r':V→Option Int→Option Int→Hp→VK→Prop} (h:XI X r) (m:∀x l u H Q,r' x l u H Q→r x l u H Q):XI X r':=fun pins s σ H x v vl vu lo hi sl Q I rx hs pl pu q=>h pins s σ H x v vl vu lo hi sl Q I rx hs pl pu (m x lo hi H Q q)
noncomputable def Yb (t:TA):TE:=fun σ H Q=>t σ H fun xs H1=>xs.length≤sizeLine∧Nw H1 (.tup xs) Q
noncomputable def YH (t:TA):TE:=fun σ H Q=>t σ H fun xs H1=>xs.length≤sizeLine∧Nw H1 (.lst xs) Q
theorem PA.cut {es:List Expr} {t:TA} (h:PA X es t):PA X es (fun σ H Q=>∃M:List V→Hp→Prop,t σ H M∧∀vs H',M vs H'→Q vs H'):=by
 intro pos pins s σ H Q I ⟨M,q,hM⟩
 exact jO (h pos pins s σ H _ I q) fun u s' ⟨v,H',I',r,z⟩=>⟨v,H',I',r,hM v H' z⟩
theorem yg {es:List Expr} {t:TA} {pos:Pos} {x1} (h:PA X es t):PE X (.Tuple es x1 pos) (Yb t):=(Kv h.cut).mono fun _ _ _ q=>⟨_,q,fun _ _ q=>⟨q.1,q.2.el⟩⟩
theorem jx {es:List Expr} {t:TA} {pos:Pos} (h:PA X es t):PE X (.List es pos) (YH t):=(X8 h.cut).mono fun _ _ _ q=>⟨_,q,fun _ _ q=>⟨q.1,q.2.el⟩⟩
theorem ow:kD X (.type "list") (fun xs H Q=>∃p ys,xs=[.ref p]∧(q0 X.K H p ys∨pD X.K H p ys)∧Nw H (.lst ys) Q):=
 l9.mono fun _ _ _ ⟨p,ys,a,b,c⟩=>⟨p,ys,a,b,c.el⟩
theorem J3:XI X (fun x lo hi H Q=>∃a xs,x=.ref a∧q0 X.K H a xs∧Nw H (.lst (hU xs lo hi)) Q):=
 Jo.mono fun _ _ _ _ _ ⟨a,xs,e,b,c⟩=>⟨a,xs,e,b,c.el⟩
theorem wA:bG X (binaryOp .Add) (fun x y H Q=>∃l b xs zs,x=.ref l∧y=.ref b∧H l=some (.lst xs)∧H b=some (.lst zs)∧xs.length + zs.length≤sizeLine∧Nw H (.lst (xs ++ zs)) Q):=
 Kx.mono fun _ _ _ _ ⟨l,b,xs,zs,a,c,d,e,f,g⟩=>⟨l,b,xs,zs,a,c,d,e,f,g.el⟩
theorem kN:aE X "list.append" (fun x vs H Q=>∃l xs y,x=.ref l∧vs=[y]∧H l=some (.lst xs)∧xs.length < sizeLine∧Ch H l (.lst (xs ++ [y])) (Q .non)):=
 aE.mono mY fun _ _ _ _ ⟨l,xs,y,a,b,c,d,e⟩=>⟨l,xs,y,a,b,c,d,e.el⟩
theorem Qu:aE X "list.pop" (fun x vs H Q=>∃l xs y,x=.ref l∧vs=[]∧H l=some (.lst xs)∧xs[xs.length - 1]?=some y∧Ch H l (.lst xs.dropLast) (Q y)):=
 aE.mono Km fun _ _ _ _ ⟨l,xs,y,a,b,c,d,e⟩=>⟨l,xs,y,a,b,c,d,e.el⟩
end
structure kB (P:Program) (w:World) (K:PySem.W.Frag) (mg:Str→Option Value) (base:Heap) (CX:uX) (k:Nat) (C:Addr) (m:Str) (sp:Sp):Prop where
 ex:∃f fd ps,Meth K C m f∧qJ P w K mg base CX k f fd ps sp∧Binds K fd ps []
theorem kB.mk' {P:Program} {w:World} {K:PySem.W.Frag} {mg:Str→Option Value} {base:Heap} {CX:uX} {j k:Nat} {C f:Addr} {m:Str} {sp:Sp} {fd:FuncData} {ps:List Str} (h1:Meth K C m f) (h2:qJ P w K mg base CX j f fd ps sp) (h3:Binds K fd ps []) (h:j≤k) :
  kB P w K mg base CX k C m sp:=⟨f,fd,ps,h1,h2.mono h,h3⟩
noncomputable def Q5 (X:Cx) (CX:uX) (k:Nat) (m:Str) (E:XK) (ta:TE) (t:TA):TE:=fun σ H Q=>ta σ H fun x H1=>∃a C dx fs,x=.ref a∧H1 a=some (.ins C dx fs)∧dI X.K C∧fs.lookup m=none∧
 ∃sp,kB X.prog X.w X.K X.mg X.base CX k C m sp∧t σ H1 fun vs H2=>sp (x :: vs) H2 Q E
section
variable {X:Cx} {k:Nat} {m:Str} {pos apos:Pos} {e o:Expr} {es:List Expr} {ta:TE} {t:TA}
theorem yF {pl:Sem Bool} (hr:kc k X.A) (he:PE X o ta) (ha:PA X (e :: es) t)
  (hst:starEach (e :: es) X.env=(false,eval e X.env) :: starEach es X.env:=by rfl) (hpl:(backTo pos (starEach es X.env)).any (·.1)=false:=by rfl)
  (ht:eval (.Call (.Attribute o m apos) (e :: es) [] pos) X.env=(do
   let ov ←eval o X.env
   standAt apos.atName
   let (f,first) ←holding [ov] (getMethod ov m pl)
   callWith pos f first (backTo pos (starEach (e :: es) X.env)) (backToKw pos (keywordEach [] X.env))):=by rfl) :
  PE X (.Call (.Attribute o m apos) (e :: es) [] pos) (Q5 X jX k m E0 ta t):=by
 intro pins s σ H Q I h
 refine PySem.W.methodCall_KW (pl:=pl) (jO (he pins s σ H _ I h) fun u s1 ⟨x,H1,I1,rx,a,C,dx,fs,ex,ea,c,l,sp,M,q⟩=>?_) ht
 subst ex
 obtain⟨f,fd,ps,hm,F,hb⟩:=M.ex
 obtain rfl:u=Value.ref a:=rx
 refine fb I1 ea c hm l ?_
 refine PySem.W.callWith_K (first:=[.ref a]) (h₀:=X.base) I.ok.mod.a7 hm.kp (jO (ha pos pins s1 σ H1 _ I1 q) fun us s2 ⟨vs,H2,I2,r,q2⟩=>⟨I2.y7,?_⟩) hst hpl
 exact lY (us:=.ref a :: us) (vs:=.ref a :: vs) F hr hb .nil qX I2 (.cons rfl r) (by rw[List.append_nil];exact q2)
theorem wM {pl:Sem Bool} (hr:kc k X.A) (he:PE X o ta)
  (ht:eval (.Call (.Attribute o m apos) [] [] pos) X.env=(do
   let ov ←eval o X.env
   standAt apos.atName
   let (f,first) ←holding [ov] (getMethod ov m pl)
   callWith pos f first (backTo pos (starEach [] X.env)) (backToKw pos (keywordEach [] X.env))):=by rfl) :
  PE X (.Call (.Attribute o m apos) [] [] pos) (Q5 X jX k m E0 ta Vu):=by
 intro pins s σ H Q I h
 refine PySem.W.methodCall_KW (pl:=pl) (jO (he pins s σ H _ I h) fun u s1 ⟨x,H1,I1,rx,a,C,dx,fs,ex,ea,c,l,sp,M,q⟩=>?_) ht
 subst ex
 obtain⟨f,fd,ps,hm,F,hb⟩:=M.ex
 obtain rfl:u=Value.ref a:=rx
 refine fb I1 ea c hm l ?_
 exact PySem.W.callWith_K0 (first:=[.ref a]) I1.y7 hm.kp (lY (us:=[.ref a]) (vs:=[.ref a]) F hr hb .nil qX I1 (.cons rfl .nil) q)
end
theorem X4 {α:Type} [Inhabited α] {xs:List α} {i:Int} (h0:0≤i) (h1:i < xs.length):uL xs i=some (xs.getD i.toNat default):=by
 have hj:i.toNat < xs.length:=by omega
 have e:=sr (xs:=xs) (j:=i.toNat) (v:=xs[i.toNat]) (by simp [hj])
 rw[Int.toNat_of_nonneg h0] at e
 rw[e,List.getD_eq_getElem?_getD,List.getElem?_eq_getElem hj]
 rfl
theorem i8 {α:Type} {f:α→V} {xs:List α} {i:Int} (d:α) (h0:0≤i) (h1:i < xs.length):uL (xs.map f) i=some (f (xs.getD i.toNat d)):=by
 have hj:i.toNat < (xs.map f).length:=by rw[List.length_map];omega
 have e:=sr (xs:=xs.map f) (j:=i.toNat) (v:=(xs.map f)[i.toNat]) (List.getElem?_eq_getElem hj)
 rw[Int.toNat_of_nonneg h0] at e
 rw[e,List.getElem_map,List.getD_eq_getElem?_getD,List.getElem?_eq_getElem (by omega)]
 rfl
theorem ZI {xs:List Int} {i:Int} (h0:0≤i) (h1:i < xs.length):uL (xs.map V.int) i=some (.int (xs.getD i.toNat 0)):=i8 0 h0 h1
theorem ba {xs:List Str} {i:Int} (h0:0≤i) (h1:i < xs.length):uL (xs.map V.str) i=some (.str (xs.getD i.toNat "")):=i8 (f:=V.str) ("" : Str) h0 h1
theorem ZV {z:Str} {i:Int} (h0:0≤i) (h1:i < z.length):uL z.cps.toList i=some (z.cps.toList.getD i.toNat 0):=X4 h0 (by simpa [Str.length] using h1)
theorem xx {a b:Str} (h:a.cps.toList=b.cps.toList):a=b:=by
 cases a;cases b
 simp only at h
 rw[Array.toList_inj.mp h]
theorem nH (s x y:Str) (r:List Str):Str.join s (x :: y :: r)=x ++ s ++ Str.join s (y :: r):=rfl
theorem join_one (s x:Str):Str.join s [x]=x:=rfl
end L2
namespace L2
open PySem PySem.Spec PyProof.Rows
theorem X7 {x y:Str} {n m:Nat} (hx:x.length≤n) (hy:y.length≤m) (h:n + m≤1000):x.length + y.length≤sizeLine:=qx (by omega)
theorem Jr {x y:Str} {n m:Nat} (hx:x.length≤n) (hy:y.length≤m):(x ++ y).length≤n + m:=by rw[cB];omega
theorem Ze (x:Str):x.length≤x.length:=Nat.le_refl _
theorem Jg {c:Nat}:(⟨#[c]⟩:Str).length≤1:=Nat.le_refl _
theorem Q4 {n m:Nat} (h:n≤m) (h':m≤1000):n≤sizeLine:=qx (Nat.le_trans h h')
end L2
namespace L2
open PySem PySem.Spec PyProof.Rows
noncomputable def Vf (K:PySem.W.Frag) (H:Hp) (x:V) (f:Str) (v:V):Prop:=∃a C dx fs,x=.ref a∧H a=some (.ins C dx fs)∧dI K C∧qK K C f∧fs.lookup f=some v
noncomputable def WI (K:PySem.W.Frag) (ta:TE) (f:Str):TE:=fun σ H Q=>ta σ H fun x H1=>∃v,Vf K H1 x f v∧Q v H1
theorem ku {X:Cx} {K:PySem.W.Frag} (hK:X.K=K) {e:Expr} {ta:TE} {f:Str} {pos:Pos} (he:PE X e ta) (hb:attributeBase e f X.env (eval e X.env)=eval e X.env):PE X (.Attribute e f pos) (WI K ta f):=by
 subst hK
 refine(X9 he.cut hb).mono fun σ H Q q=>⟨_,q,fun x H1 z=>?_⟩
 obtain⟨v,⟨a,C,dx,fs,h1,h2,h3,h4,h5⟩,q⟩:=z
 exact⟨a,C,dx,fs,v,h1,h2,h3,h4,h5,q⟩
theorem ml (K:PySem.W.Frag) (t:Value):PySem.W.kitOne K t t=some true:=by
 unfold PySem.W.kitOne
 rw[if_pos (by simp)]
end L2
namespace L2
open PySem PySem.Spec PyProof.Rows
structure Hh (K:PySem.W.Frag) (C:Addr):Prop where
 makes:PySem.W.makesIn K C=true
 init:PySem.W.findIn K (.ref C) "__init__" = some (some (.builtin "object.__init__"))
 kp:PySem.W.keepIn K (.ref C)=true
section
variable {X:Cx} {C:Addr} {x:Str} {p pos:Pos}
end
end L2
namespace L2
open PySem PySem.Spec PyProof.Rows
theorem Zt {n:Int} (h0:0≤n) (h1:n≤10 ^ 20):(Str.ofString (toString n)).length≤21∧1≤(Str.ofString (toString n)).length∧asc (Str.ofString (toString n)):=by
 obtain⟨m,rfl⟩:=Int.eq_ofNat_of_zero_le h0
 have e:=PySem.W.KIN.signs_num m
 have hl:(Str.ofString (toString ((m:Nat):Int))).length=(Nat.toDigits 10 m).length:=by
  have:=congrArg List.length e
  rw[List.length_map] at this
  rw[←this]
  simp [Str.length]
 refine⟨?_,?_,fun c hc=>?_⟩
 ·rw[hl]
  refine digits10_le (by decide) ?_
  have:(m:Int) < 10 ^ 21:=by omega
  exact_mod_cast this
 ·rw[hl];exact toDigits_len_ge 10 m
 ·rw[e] at hc
  obtain⟨ch,hch,rfl⟩:=List.mem_map.mp hc
  have r:=PyProof.Rows.digit_range (Nat.isDigit_of_mem_toDigits (by decide) (by decide) hch)
  omega
theorem aS {n:Int} (h0:0≤n) (h1:n≤10 ^ 20):n.natAbs.log2 < 1920:=by
 have:n.natAbs < 2 ^ 67:=by omega
 by_cases h:n.natAbs=0
 ·rw[h];decide
 ·exact Nat.lt_trans ((Nat.log2_lt h).mpr this) (by decide)
theorem ny (xs ys:List Str):PyData.eqv (.list (xs.map PyData.str)) (.list (ys.map PyData.str))=decide (xs=ys):=by
 simp only[PyData.eqv,dv]
end L2
namespace L2
open PySem PySem.Spec PyProof.Rows
theorem VB {H H':Hp} {b:Addr} {o:HO} (e:H b=some o) (s:qg H H'):H' b=some o:=s b o e
theorem Vv {K:PySem.W.Frag} {H H':Hp} {a:Addr} {xs:List V} (h:q0 K H a xs) (s:qg H H'):q0 K H' a xs:=s.seq h
end L2
namespace L2
open PySem PySem.Spec PyProof.Rows
end L2
namespace L2
open PySem PySem.Spec PyProof.Rows
section
variable {X:Cx} {K:PySem.W.Frag}
theorem so {es:List Expr} {k:Nat} {t:Xg} {n:Nat} {pos:Pos} (hK:X.K=K) (hc:X.calm=true) (h:Vt X es t)
  (hn:(assignEach es X.env).length=n:=by rfl) (hst:(assignEach es X.env).findIdx? (·.1)=none:=by rfl):PG X (.Tuple es k pos) (KG K n t):=hK▸K0 hc h hn hst
theorem qf (hK:X.K=K):Ve X (KO K):=hK▸Jh
theorem jk (hK:X.K=K):Ve X (KI K):=hK▸K3
theorem xA (hK:X.K=K):XI X (fun x lo hi H Q=>∃a xs,x=.ref a∧q0 K H a xs∧Nw H (.lst (hU xs lo hi)) Q):=hK▸J3
theorem rz (hK:X.K=K):bG X (compareOp .NotIn) (Y9 K true):=hK▸lK
theorem iB (hK:X.K=K) (hu:X.A.units + 64 < cLine):bG X (compareOp .Eq) (Jx K false):=hK▸KR hu
theorem JS (hK:X.K=K) (hu:X.A.units + 64 < cLine):bG X (compareOp .NotEq) (Jx K true):=hK▸Kw hu
theorem qT (hK:X.K=K):kD X (.builtin "len") (fun xs H Q=>∃p ys,xs=[.ref p]∧(q0 K H p ys∨pD K H p ys)∧Q (.int ys.length) H):=hK▸rD
theorem bo (hK:X.K=K):kD X (.type "list") (fun xs H Q=>∃p ys,xs=[.ref p]∧(q0 K H p ys∨pD K H p ys)∧Nw H (.lst ys) Q):=hK▸ow
theorem fN (hK:X.K=K):kD X (.builtin "isinstance") (fun xs H Q=>∃x c t b,xs=[x,c]∧((∃n,c=.ty n)∨∃a,c=.ref a)∧gp K H x t∧PySem.W.kitOne K t (QH c)=some b∧Q (.bl b) H):=hK▸tu
theorem w6 (hK:X.K=K):aE X "str.join" (rJoin K):=hK▸Jf
theorem yA {tg l:Expr} {tl:TE} (hK:X.K=K) (hl:PE X l tl):PI X tg l (XG K tl):=hK▸Jb hl
end
end L2
namespace L2
open PySem PySem.Spec PyProof.Rows
structure gu (osc:Scope) (N:List Str) (sc:Scope) (xs names:List Str) (qM:List Nat):Prop where
 kind:sc.kind=.function
 ug:∀y∈sc.names,y.2≠.cell
 locs:∀y∈sc.names,y.2=.local→sc.names.lookup y.1=some .local
 frees:∀y∈sc.names,y.2=.free→osc.names.lookup y.1=some .cell
 own:∀x∈xs,sc.names.lookup x=some .local
 qM:names.map some=qM.map fun i=>N[i]?
 nO:∀y∈names,sc.names.lookup y=some .free
 nd:(xs ++ names).Nodup
noncomputable def xZ (X:Cx) (sc:Scope) (xs names:List Str) (fp:List Addr) (s₀:Shared) (H₀:Hp):Cx where
 prog:=X.prog
 w:=X.w
 K:=X.K
 mg:=X.mg
 base:=X.base
 A:=X.A
 N:=xs ++ names
 s₀:=s₀
 H₀:=H₀
 env:=compEnvC sc (jq X.env sc.names []) s₀.heap.objs.size X.env
 outer:=X.stack
 stack:=X.stack
 ex:=fp
 fn:=fun _=>false
 calm:=X.calm
 pn:=[]
 xe:=fun _ _=>False
theorem nF {X:Cx} {sc:Scope} {xs names:List Str} {fp:List Addr} {s₀:Shared} {H₀:Hp} {x:Str} (h:sc.names.lookup x=some .local):(xZ X sc xs names fp s₀ H₀).env.scope.names.lookup x=some .local:=lookup_relabel_local h
noncomputable def Ye (X:Cx) (ifs:List Expr) (t:TT):Prop:=
 ∀(pins:List (Addr × Obj)) (s:Shared) (σ:St) (H:Hp) (Q:Bool→Hp→Prop),Inv X pins σ H s→t σ H Q→
  wpAny (model X.prog X.w) X.A (forIn ifs true fun c r=>if r=true then do let ok ←isTrue c X.env (eval c X.env);pure (ForInStep.yield ok) else pure (ForInStep.yield r)) (TP X pins σ Q) X.xe s
noncomputable def JM:TT:=fun _ H Q=>Q true H
theorem i6 {X:Cx}:Ye X [] JM:=fun _ _ _ H _ I q=>wpAny_tests_nil ⟨H,I,q⟩
noncomputable def nv (J:It) (n:Nat) (qM:List Nat) (g:TG) (tt:TT) (te:TE) (σ:St) (Q:VK) (H1:Hp):Prop:=∀D,H1 D=none→∃W:Nat→Nat→St→Hp→Prop,(∃m,W 0 m (List.replicate n none ++ wm σ qM) (upd H1 D (.lst [])))∧∀i m σ1 H2,W i m σ1 H2→
 (J.stop i H2∧Q (.ref D) H2)∨(J.go i H2∧∀y H3,J.Xb i H2 y H3→g y σ1 H3 fun σ2 H4=>tt σ2 H4 fun b H5=>if b=true then te σ2 H5 fun v H6=>∃ys,H6 D=some (.lst ys)∧ys.length < sizeLine∧∃m',m' < m∧W (i + 1) m' σ2 (upd H6 D (.lst (ys ++ [v])))
  else ∃m',m' < m∧W (i + 1) m' σ2 H5)
noncomputable def Kn (n:Nat) (qM:List Nat) (wi:TI) (g:TG) (tt:TT) (te:TE):TE:=fun σ H Q=>wi σ H fun J H1=>nv J n qM g tt te σ Q H1
section
variable {prog:Program} {w:World} {A:Around} {R:Result→Shared→Prop} {s:Shared}
theorem rN {el tg src : Expr} {ifs : List Expr} {scope : Scope} {pos : Pos} {it acc : Value} {env : Env} (I : Nat → Shared → Prop)
    (turn : ∀ n s, I n s → Noted prog w A env R (pyNext it) (fun r s1 => match r with
      | none => R (.ok .next) s1
      | some v => Noted prog w A env R (letOwnedTupleGo tg it v) (fun _ => Noted prog w A env R (assign tg env v) fun _ => Noted prog w A env R (forIn ifs true (testB env)) fun ok s4 =>
        if ok = true then Noted prog w A env R (eval el env) (fun x => Noted prog w A env R (call (.builtin "list.append") [acc, x]) fun _ s6 => ∃ m, m < n ∧ I m s6) s4 else ∃ m, m < n ∧ I m s4) s1) s) (n : Nat) (h : I n s) :
    codeAny (model prog w) A (.compLoop (.ListComp el [⟨tg, src, ifs, 0⟩] scope pos) 0 it acc env) R s := by
  refine codeAny_loop rfl I (fun k s1 hI => (?_ : wpAny _ _ (Sem.onRaise _ _) _ _ _)) n h
  refine wpAny_noted (compTurn_list .. ▸ wpAny_bind (wpAny_standAt (sq2 (turn k s1 hI) fun r s2 hr => ?_)))
  cases r
  · exact wpAny_pure hr
  · exact sq2 hr fun _ _ a => sq2 a fun _ _ b => sq2 b fun ok _ c => by
      cases ok
      · exact wpAny_pure ⟨rfl, c⟩
      · exact sq2 (sq2 c fun _ _ d => sq2 d fun _ _ e => wpAny_pure e) fun _ _ e => wpAny_pure ⟨rfl, e⟩
end
section
variable {X:Cx}
theorem Jp {pins:List (Addr × Obj)} {σ:St} {H:Hp} {s:Shared} {osc:Scope} {N:List Str} {sc:Scope} {xs names:List Str} {qM:List Nat} {fp:List Addr}
  (hos:X.env.scope=osc) (cs:gu osc N sc xs names qM) (I:Inv X pins σ H s) (hf:∀b∈fp,yH X pins H b) (hlt:∀b∈fp,b < s.heap.objs.size):(xZ X sc xs names fp s H).Ok:=by
 subst hos
 have cl:=kO (env:=X.env) sc.names [] (fun z c e=>by simp at e)
 have hcl:∀y c,(jq X.env sc.names []).lookup y=some c→X.env.cells.lookup y=some c:=fun y c e=>by
  have e1:=cl.1 y c e
  have hm:(y,NameKind.free)∈sc.names:=by
   by_cases q:(y,NameKind.free)∈sc.names
   ·exact q
   ·have:=(cl.2 y).mpr ⟨rfl,q⟩
    rw[this] at e;cases e
  obtain⟨c',hc'⟩:=I.ok.has y (.inl (cs.frees _ hm rfl))
  rw[hc'] at e1 ⊢
  rw[e1];rfl
 refine⟨I.ok.mod,?_,I.ok.glob,I.ok.blt,Nat.le_refl _,fun y z c h1 h2=>I.ok.inj y z c (hcl y c h1) (hcl z c h2),fun y hy=>?_,fun y c h=>?_,I.ok.hd,I.ok.frames,.inl rfl,fun b hb=>⟨?_,fun y c h=>?_⟩,
  I.bs,Nat.le_trans I.ok.eP I.sz,fun b o e hb=>?_,fun b hb z=>?_,I.stack,I.pX⟩
 ·exact cs.kind
 ·have hy':(relabel sc X.env).names.lookup y=some .cell∨(relabel sc X.env).names.lookup y=some .free:=hy
  have key:sc.names.lookup y=some .free:=by
   rw[x9] at hy'
   cases q:sc.names.lookup y with
   | none=>rw[q] at hy';simp at hy'
   | some k=>
    rw[q] at hy'
    have hm:=PySem.mem_of_lookup q
    have hnc:=cs.ug _ hm
    by_cases hk:k=.free
    ·rw[hk]
    ·have e:(if (k == NameKind.free && X.env.scope.kind == .function && X.env.kindOf y == some .cell)=true then NameKind.cell else k)=k:=if_neg (by simp [hk])
     rw[Option.map_some,e] at hy'
     rcases hy' with z | z
     ·exact absurd (Option.some.inj z) hnc
     ·exact absurd (Option.some.inj z) hk
  have hm:=PySem.mem_of_lookup key
  cases q:(jq X.env sc.names []).lookup y with
  | some c=>exact⟨c,q⟩
  | none=>exact absurd hm ((cl.2 y).mp q).2
 ·exact absurd (show false=true from h) (by simp)
 ·exact Nat.ne_of_lt (hlt b hb)
 ·exact(hf b hb).2.2.2.2.1 y c (hcl y c h)
 ·rcases(hf b hb).2.2.2.1 with z | z
  ·exact I.ok.oI b o e z
  ·exact absurd (Nat.lt_of_lt_of_le (Heap.lt_size e) (Nat.le_trans I.ok.eP z)) (Nat.lt_irrefl _)
 ·rcases List.mem_cons.mp (I.cE b z) with q | q
  ·exact(hf b hb).2.1 q
  ·exact(hf b hb).2.2.1 q
theorem ay {pins:List (Addr × Obj)} {σ:St} {s₂:Shared} {osc:Scope} {N:List Str} {sc:Scope} {pos:Pos} {elt iter tg:Expr} {ifs:List Expr} {xs names:List Str} {qM:List Nat} {g:TG} {tt:TT} {te:TE} {E:Value→Shared→Prop}
  {RR:Value→Addr→Result→Shared→Prop} {H2:Hp} {it:Addr} {fp:List Addr} {tn:Nat→Heap→Prop} {J:It} {Qd:V→Hp→Prop}
  (hc:X.calm=true) (hos:X.env.scope=osc) (hN:X.N=N) (cs:gu osc N sc xs names qM) (hg:∀fp s₀ H₀,PG (xZ X sc xs names fp s₀ H₀) tg g) (ht:∀fp s₀ H₀,Ye (xZ X sc xs names fp s₀ H₀) ifs tt) (he:∀fp s₀ H₀,PE (xZ X sc xs names fp s₀ H₀) elt te)
  (I2:Inv X pins σ H2 s₂) (T:Turn X.prog X.w X.K tg J fp it tn) (st2:tn 0 s₂.heap) (f2:∀b∈fp,yH X pins H2 b)
  (hW:nv J xs.length qM g tt te σ Qd H2)
  (cont:∀D C H5 s6 m,Inv X pins σ H5 s6→s6.heap.Ns C m→yH X pins H5 C→Qd (.ref D) H5→RR (.ref D) C (.ok .next) s6) :
  wpAny (model X.prog X.w) X.A (newList []) (fun acc s₃=>wpAny (model X.prog X.w) X.A (newFunctionEnv sc X.env.globals (jq X.env sc.names []) [] X.env.qual none .none (some X.env)) (fun cenv s₄=>
   codeAny (model X.prog X.w) X.A (.compStart (.ListComp elt [⟨tg,iter,ifs,0⟩] sc pos) 0 (.ref it) acc { cenv with scope:=relabel sc X.env }) (RR acc cenv.locals) s₄) E s₃) E s₂:=by
 subst hN
 refine wpAny_newObj_type (wpAny_newFunctionEnv cs.ug (by intro y hy;simp at hy) (fun h₁ hns₁ hsb₁=>?_) cs.kind)
 dsimp only at hns₁ hsb₁ ⊢
 have fp2:∀b∈fp,b < s₂.heap.objs.size:=fun b hb=>by
  obtain⟨o,e,_⟩:=T.obj _ _ st2 b hb
  exact Heap.lt_size e
 have I3:Inv X pins σ (upd H2 s₂.heap.objs.size (.lst [])) { s₂ with heap:=s₂.heap.push { cls:=.type "list",dict:=none,data:=.seq ([]:List Value).toArray } }:=I2.Qj (t':=s₂.toks) (its:=[]) .nil (Nat.zero_le _)
 obtain⟨W,⟨m0,w0⟩,turn⟩:=hW s₂.heap.objs.size I2.fresh
 have f3:∀b∈fp,yH X pins (upd H2 s₂.heap.objs.size (.lst [])) b:=fun b hb=>⟨by rw[qW (Nat.ne_of_lt (fp2 b hb))];exact(f2 b hb).1,(f2 b hb).2⟩
 have hD:∀b o,s₂.heap.get? b=some o→(s₂.heap.push { cls:=.type "list",dict:=none,data:=.seq ([]:List Value).toArray }).get? b=some o:=fun b o e=>Heap.get?_push_of_some _ e
 generalize hs3:({ s₂ with heap:=s₂.heap.push { cls:=.type "list",dict:=none,data:=.seq ([]:List Value).toArray } }:Shared)=s₃ at *
 have hs3h:s₃.heap=s₂.heap.push { cls:=.type "list",dict:=none,data:=.seq ([]:List Value).toArray }:=by rw[←hs3]
 rw[←hs3h] at hns₁ hsb₁ hD ⊢
 have eI:∀b∈fp,b < s₃.heap.objs.size:=fun b hb=>by
  rw[hs3h,Heap.size_push];exact Nat.lt_succ_of_lt (fp2 b hb)
 have k3:∀b o,s₃.heap.get? b=some o→h₁.get? b=some o:=fun b o e=>hsb₁.extBut b o (Nat.ne_of_lt (Heap.lt_size e)) (Heap.get?_push_of_some _ e)
 have ok:=Jp hos cs I3 f3 eI
 have cl:=kO (env:=X.env) sc.names [] (fun z c e=>by simp at e)
 have hcl:∀y c,(jq X.env sc.names []).lookup y=some c→X.env.cells.lookup y=some c:=fun y c e=>by
  have e1:=cl.1 y c e
  have hm:(y,NameKind.free)∈sc.names:=by
   by_cases q:(y,NameKind.free)∈sc.names
   ·exact q
   ·have:=(cl.2 y).mpr ⟨rfl,q⟩
    rw[this] at e;cases e
  obtain⟨c',hc'⟩:=I3.ok.has y (.inl (by show X.env.scope.names.lookup y=_;rw[hos];exact cs.frees _ hm rfl))
  rw[hc'] at e1 ⊢
  rw[e1];rfl
 have cell4:∀y c,(jq X.env sc.names []).lookup y=some c→∀v,s₃.heap.IsCell c v→h₁.IsCell c v:=fun y c e v ⟨o,ho,hd⟩=>⟨o,k3 _ _ ho,hd⟩
 have lenC:qM.length=names.length:=by have:=congrArg List.length cs.qM;simpa using this.symm
 have I4:∀tk,Inv (xZ X sc xs names fp s₃ (upd H2 s₂.heap.objs.size (.lst []))) [] (List.replicate xs.length none ++ wm σ qM) (upd H2 s₂.heap.objs.size (.lst [])) { s₃ with heap:=h₁,toks:=tk }:=fun tk=>by
  refine⟨ok,rfl,I3.bare,Un.kept k3,⟨_,hns₁,fun i y v e1 e2 e3=>?_⟩,fun y c e=>?_,I3.fresh,fun y c e=>I3.wR y c (hcl y c e),fun p hp=>absurd (show p∈([]:List (Addr × Obj)) from hp) (by simp),I3.jz.kept k3,?_⟩
  ·have hle:xs.length≤i:=by
    by_cases q:i < xs.length
    ·rw[List.getElem?_append_left (by rw[List.length_replicate];exact q),List.getElem?_replicate,if_pos q] at e2
     cases e2
    ·omega
   obtain⟨j,rfl⟩:∃j,i=xs.length + j:=⟨i - xs.length,by omega⟩
   ·have e1':names[j]?=some y:=by
     have e1z:(xs ++ names)[xs.length + j]?=some y:=e1
     rw[List.getElem?_append_right (Nat.le_add_right _ _),Nat.add_sub_cancel_left] at e1z
     exact e1z
    have e2':(wm σ qM)[j]?=some (some v):=by
     rw[List.getElem?_append_right (by rw[List.length_replicate];exact Nat.le_add_right _ _),List.length_replicate,Nat.add_sub_cancel_left] at e2
     exact e2
    unfold wm at e2'
    rw[List.getElem?_map] at e2'
    cases qc:qM[j]? with
    | none=>rw[qc] at e2';cases e2'
    | some i0=>
     rw[qc] at e2'
     have e2'':(σ[i0]?).join=some v:=by simpa using e2'
     have e3':σ[i0]?=some (some v):=by
      cases qs:σ[i0]? with
      | none=>rw[qs] at e2'';cases e2''
      | some o=>rw[qs] at e2'';rw[show o=some v from by simpa using e2'']
     have eN:X.N[i0]?=some y:=by
      have q1:(names.map some)[j]?=(qM.map fun i=>X.N[i]?)[j]?:=by rw[cs.qM]
      rw[List.getElem?_map,List.getElem?_map,e1',qc] at q1
      have q2:some y=X.N[i0]?:=by simpa using q1
      exact q2.symm
     have hfree:=cs.nO y (List.mem_of_getElem? e1')
     have hm:=PySem.mem_of_lookup hfree
     have hcell:X.env.scope.names.lookup y=some .cell:=by rw[hos];exact cs.frees _ hm rfl
     obtain⟨m,hn,hl⟩:=I3.loc
     obtain⟨u,ru,lk⟩:=hl i0 y v eN e3' (.inr (.inl hcell))
     refine⟨u,ru,?_⟩
     rcases lk with ⟨kk,_⟩ | ⟨kk,c,ec,hcl'⟩
     ·have kk':X.env.scope.names.lookup y=some .local:=kk
      rw[hcell] at kk';cases kk'
     ·refine .inr ⟨?_,c,?_,?_⟩
      ·left
       show (relabel sc X.env).names.lookup y=some .cell
       rw[x9,hfree]
       have ef:(X.env.scope.kind == ScopeKind.function)=true:=by rw[I3.ok.kind];rfl
       have ek:(X.env.kindOf y == some NameKind.cell)=true:=by
        show (X.env.scope.names.lookup y == some NameKind.cell)=true
        rw[hcell];rfl
       simp [ef,ek]
      ·show (jq X.env sc.names []).lookup y=some c
       cases q:(jq X.env sc.names []).lookup y with
       | none=>exact absurd hm ((cl.2 y).mp q).2
       | some c'=>
        have:=hcl y c' q
        rw[ec] at this
        exact this.symm
      ·obtain⟨o,ho,hd⟩:=hcl'
       exact⟨o,k3 _ _ ho,hd⟩
  ·obtain⟨v,hv⟩:=I3.cell y c (hcl y c e)
   exact⟨v,cell4 y c e v hv⟩
  ·show (List.replicate xs.length none ++ wm σ qM).length=(xs ++ names).length
   unfold wm
   simp [lenC]
 have st4:tn 0 h₁:=T.keep _ _ _ st2 fun b hb o e=>k3 b o (by rw[hs3h];exact Heap.get?_push_of_some _ e)
 have fpok:∀{H':Hp},(∀b∈fp,H' b=none)→∀b∈fp,yH (xZ X sc xs names fp s₃ (upd H2 s₂.heap.objs.size (.lst []))) [] H' b:=fun hn b hb=>
  ⟨hn b hb,(ok.Kc b hb).1,ok.oQ b hb,.inl hb,(ok.Kc b hb).2,fun p hp=>absurd (show p∈([]:List (Addr × Obj)) from hp) (by simp)⟩
 have loop:∀s₄:Shared,s₄={ s₃ with heap:=h₁,toks:=s₃.toks + ([]:List (Str × Value)).length }→
   codeAny (model X.prog X.w) X.A (.compLoop (.ListComp elt [⟨tg,iter,ifs,0⟩] sc pos) 0 (.ref it) (.ref s₂.heap.objs.size) (compEnvC sc (jq X.env sc.names []) s₃.heap.objs.size X.env))
    (RR (.ref s₂.heap.objs.size) s₃.heap.objs.size) s₄:=by
  rintro s₄ rfl
  refine rN (fun n s'=>∃i σ' H',Inv (xZ X sc xs names fp s₃ (upd H2 s₂.heap.objs.size (.lst []))) [] σ' H' s'∧tn i s'.heap∧(∀b∈fp,H' b=none)∧W i n σ' H') ?_ m0
   ⟨0,_,_,I4 _,st4,fun b hb=>(f3 b hb).1,w0⟩
  rintro n s5 ⟨i,σ5,H5,I5,st5,fr5,w5⟩
  rcases turn i n σ5 H5 w5 with ⟨stop,q⟩ | ⟨go,step⟩
  ·refine jO (T.done (xZ X sc xs names fp s₃ (upd H2 s₂.heap.objs.size (.lst []))) rfl rfl rfl hc i [] s5 _ H5 _ I5 (fpok fr5) st5 stop) fun r s6 ⟨hr,I6⟩=>?_
   subst hr
   obtain⟨m,hn,_⟩:=I6.loc
   have J6:Inv X pins σ H5 s6:=I3.nW (ch:=fp) I6.os I6.base I6.jz I6.bare fun b hb=>⟨(f3 b hb).2.2.2.1,(f3 b hb).2.1,(f3 b hb).2.2.2.2.1,(f3 b hb).2.2.2.2.2⟩
   exact cont _ _ H5 s6 m J6 hn (I3.eB (H':=H5) (Nat.le_refl _) I6.free) q
  ·refine jO (T.item (xZ X sc xs names fp s₃ (upd H2 s₂.heap.objs.size (.lst []))) rfl rfl rfl hc i [] s5 _ H5 _ I5 (fpok fr5) st5 go) fun r s6 ⟨u,hr,h6⟩=>?_
   subst hr
   refine jO h6 fun _ s6' ⟨y,H6,I6,r6,y6,st6,fr6⟩=>?_
   have I6':=I6.pinned (fpok fr6) (T.obj _ _ st6)
   have back:∀{σ':St} {H':Hp} {s':Shared},Inv (xZ X sc xs names fp s₃ (upd H2 s₂.heap.objs.size (.lst []))) ([] ++ cD fp s6'.heap) σ' H' s'→tn (i + 1) s'.heap∧∀b∈fp,H' b=none:=fun I9=>
    ⟨T.keep _ _ _ st6 fun b hb o e=>(I9.pin (b,o) (List.mem_append_right _ (List.mem_append_right _ (vG hb e)))).1,fun b hb=>by
     obtain⟨o,e,d⟩:=T.obj _ _ st6 b hb
     exact(I9.pin (b,o) (List.mem_append_right _ (List.mem_append_right _ (vG hb e)))).2.1⟩
   refine wpAny_mono (hg fp s₃ _ _ s6' _ H6 y u _ I6' r6 (step y H6 y6)) (fun _ s7 ⟨σ7,H7,I7,q7⟩=>?_) fun _ _ z=>False.elim z
   refine wpAny_mono (ht fp s₃ _ _ s7 _ H7 _ I7 q7) (fun b s8 ⟨H8,I8,q8⟩=>?_) fun _ _ z=>False.elim z
   cases b with
   | false=>
    rw[if_neg Bool.false_ne_true] at q8 ⊢
    obtain⟨m',hm',w8⟩:=q8
    exact⟨m',hm',i + 1,σ7,H8,I8.wO,(back I8).1,(back I8).2,w8⟩
   | true=>
    rw[if_pos rfl] at q8 ⊢
    refine wpAny_mono (he fp s₃ _ _ s8 _ H8 _ I8 q8) (fun v s9 ⟨vv,H9,I9,r9,ys,hD9,hz9,m',hm',w9⟩=>?_) fun _ _ z=>False.elim z
    refine wpAny_mono (mY (X:=xZ X sc xs names fp s₃ (upd H2 s₂.heap.objs.size (.lst []))) _ s9 _ H9 (.ref s₂.heap.objs.size) [vv] (.ref s₂.heap.objs.size) [v] (fun _ H'=>H'=upd H9 s₂.heap.objs.size (.lst (ys ++ [vv]))) I9 rfl (.cons r9 .nil)
     ⟨_,ys,vv,rfl,rfl,hD9,hz9,rfl⟩) (fun _ s10 ⟨_,H10,I10,_,e10⟩=>?_) fun _ _ z=>False.elim z
    subst e10
    exact⟨m',hm',i + 1,σ7,_,I10.wO,(back I10).1,(back I10).2,w9⟩
 exact codeAny_compStart_list (loop _ (by rw[←hs3])) (T.self _ 0 _ _ _ st4 (loop _ (by rw[←hs3])))
theorem oS {pins:List (Addr × Obj)} {σ:St} {H:Hp} {s:Shared} {osc:Scope} {N:List Str} {sc:Scope} {xs names:List Str} {qM:List Nat} (hos:X.env.scope=osc) (cs:gu osc N sc xs names qM) (I:Inv X pins σ H s) :
  closureFor sc X.env=pure (jq X.env sc.names []):=
 pY fun y hy hk=>I.ok.has y.1 (.inl (by show X.env.scope.names.lookup y.1=_;rw[hos];exact cs.frees y hy hk))
theorem rF {osc:Scope} {N:List Str} {sc:Scope} {pos:Pos} {elt iter tg:Expr} {ifs:List Expr} {g:TG} {tt:TT} {xs names:List Str} {qM:List Nat} {wi:TI} {te:TE}
  (hc:X.calm=true) (hos:X.env.scope=osc) (hN:X.N=N) (cs:gu osc N sc xs names qM) (hi:PI X tg iter wi) (hg:∀fp s₀ H₀,PG (xZ X sc xs names fp s₀ H₀) tg g) (ht:∀fp s₀ H₀,Ye (xZ X sc xs names fp s₀ H₀) ifs tt) (he:∀fp s₀ H₀,PE (xZ X sc xs names fp s₀ H₀) elt te)
  (hs:∀v,foldedSetIterable iter X.env v=pure v:=by intro _;rfl):PE X (.ListComp elt [⟨tg,iter,ifs,0⟩] sc pos) (Kn xs.length qM wi g tt te):=by
 intro pins s σ H Q I h
 rw[eval_ListComp]
 refine wpAny_comprehension_free (use:=none) rfl hs (oS hos cs I) cs.kind cs.locs (jO (hi pins s σ H _ I h) fun xv s1 h1=>jO h1 fun itv s2 h2=>?_)
 obtain⟨it,fp,tn,J,H2,rfl,I2,T,st2,f2,hW⟩:=h2
 refine ay (Qd:=Q) (RR:=fun acc C=>compPost (model X.prog X.w) X.A X.xe none (EP X pins σ Q) acc C) hc hos hN cs hg ht he I2 T st2 f2 hW fun D C H5 s6 m I6 hn fC q=>?_
 refine⟨m,hn,fun h' sb=>?_⟩
 obtain⟨g0,g1,g2,g3,g4,g5⟩:=fC
 exact⟨.ref D,H5,I6.turned (t':=s6.toks) (it:=C) (fun b o hb e=>sb.extBut b o hb e) g0 g1 g3 g4 g5,rfl,q⟩
end
theorem Q2 {J:It} {H:Hp} {xs:List V} {n:Nat} {qM:List Nat} {g:TG} {tt:TT} {te:TE} {σ:St} {Q:VK} (hJ:eW J H xs) (tv:V→List (Option V)) (hn:∀y,(tv y).length=n) (p:V→Bool) (Pr:V→V→Prop) (hsz:xs.length≤sizeLine)
  (hg:∀(i:Nat) (y:V) (ts:List (Option V)) (H':Hp) (K':St→Hp→Prop),xs[i]?=some y→ts.length=n→qg H H'→K' (tv y ++ wm σ qM) H'→g y (ts ++ wm σ qM) H' K')
  (ht:∀(i:Nat) (y:V) (H':Hp) (Q':Bool→Hp→Prop),xs[i]?=some y→qg H H'→(∀H4,qg H' H4→Q' (p y) H4)→tt (tv y ++ wm σ qM) H' Q')
  (he:∀(i:Nat) (y:V) (H':Hp) (Q':VK),xs[i]?=some y→p y=true→qg H H'→(∀v H4,qg H' H4→Pr y v→Q' v H4)→te (tv y ++ wm σ qM) H' Q')
  (hd:∀(D:Addr) (H':Hp) (ys:List V),qg H H'→H D=none→H' D=some (.lst ys)→Paired Pr (xs.filter p) ys→Q (.ref D) H') :
  nv J n qM g tt te σ Q H:=by
 intro D hD
 refine⟨fun i m σ1 H2=>m=xs.length - i∧i≤xs.length∧(∃ts:List (Option V),ts.length=n∧σ1=ts ++ wm σ qM)∧qg H H2∧∃ys,H2 D=some (.lst ys)∧Paired Pr ((xs.take i).filter p) ys,
  ⟨xs.length,by simp,Nat.zero_le _,⟨_,List.length_replicate,rfl⟩,qg.uP hD,[],qw,by simpa using Paired.nil⟩,?_⟩
 rintro i m σ1 H2 ⟨rfl,hi,⟨ts,htl,rfl⟩,s2,ys,hy,hp⟩
 obtain⟨j1,j2,j3⟩:=hJ i H2 s2
 by_cases hlt:i < xs.length
 ·refine .inr ⟨j1 hlt,fun y H3 q=>?_⟩
  obtain⟨e3,ey⟩:=j2 y H3 q
  subst e3
  have hyi:=ey hlt
  have htake:xs.take (i + 1)=xs.take i ++ [y]:=by
   rw[List.take_add_one,hyi];rfl
  have hlen:ys.length≤i:=by
   rw[←hp.length]
   exact Nat.le_trans (List.length_filter_le _ _) (by rw[List.length_take];omega)
  refine hg i y ts _ _ hyi htl s2 ?_
  refine ht i y _ _ hyi s2 fun H5 s5=>?_
  cases hpy:p y with
  | false=>
   rw[if_neg Bool.false_ne_true]
   refine⟨xs.length - (i + 1),by omega,rfl,hlt,⟨tv y,hn y,rfl⟩,s2.trans s5,ys,s5 _ _ hy,?_⟩
   rw[htake,List.filter_append,show [y].filter p=[] by simp [hpy],List.append_nil]
   exact hp
  | true=>
   rw[if_pos rfl]
   refine he i y _ _ hyi hpy (s2.trans s5) fun v H6 s6 pr=>⟨ys,s6 _ _ (s5 _ _ hy),by omega,xs.length - (i + 1),by omega,rfl,hlt,⟨tv y,hn y,rfl⟩,((s2.trans s5).trans s6).put hD,ys ++ [v],qw,?_⟩
   rw[htake,List.filter_append,show [y].filter p=[y] by simp [hpy]]
   exact hp.snoc pr
 ·have e:i=xs.length:=by omega
  subst e
  refine .inl ⟨j3 rfl,hd D H2 ys s2 hD hy ?_⟩
  rw[List.take_length] at hp
  exact hp
theorem aL {J:It} {H:Hp} {xs:List V} {n:Nat} {qM:List Nat} {g:TG} {te:TE} {σ:St} {Q:VK} (hJ:eW J H xs) (tv:V→List (Option V)) (hn:∀y,(tv y).length=n) (Pr:V→V→Prop) (hsz:xs.length≤sizeLine)
  (hg:∀(i:Nat) (y:V) (ts:List (Option V)) (H':Hp) (K':St→Hp→Prop),xs[i]?=some y→ts.length=n→qg H H'→K' (tv y ++ wm σ qM) H'→g y (ts ++ wm σ qM) H' K')
  (he:∀(i:Nat) (y:V) (H':Hp) (Q':VK),xs[i]?=some y→qg H H'→(∀v H4,qg H' H4→Pr y v→Q' v H4)→te (tv y ++ wm σ qM) H' Q')
  (hd:∀(D:Addr) (H':Hp) (ys:List V),qg H H'→H D=none→H' D=some (.lst ys)→Paired Pr xs ys→Q (.ref D) H') :
  nv J n qM g JM te σ Q H:=
 Q2 hJ tv hn (fun _=>true) Pr hsz hg (fun i y H' Q' _ s' k=>k H' (qg.refl _)) (fun i y H' Q' hy _ s' k=>he i y H' Q' hy s' k) (fun D H' ys s' hD e q=>hd D H' ys s' hD e (by rw[List.filter_eq_self.mpr (fun _ _=>rfl)] at q;exact q))
end L2
namespace L2
open PySem PySem.Spec PyProof.Rows
section
variable {X:Cx} {pins:List (Addr × Obj)} {σ:St} {H:Hp} {s:Shared} {h':Heap}
theorem Inv.Ge {ch:List Addr} {a:Addr} {o:HO} {t':Nat} (I:Inv X pins σ H s) (hf:∀b∈ch,yH X pins H b) (k:∀b u,b∉ch→s.heap.get? b=some u→h'.get? b=some u)
  (hp:s.heap.objs.size≤a) (new:jL X.prog X.w (upd H a o) h' a o):Inv X pins σ (upd H a o) { s with heap:=h',toks:=t' }:=by
 have hn:=I.jz.fresh hp
 have nit:∀b u,H b=some u→b∉ch:=fun b u e z=>by rw[(hf b z).1] at e;cases e
 have ne:∀b u,s.heap.get? b=some u→b≠a:=fun b u e z=>absurd (Nat.lt_of_lt_of_le (Heap.lt_size (z▸e)) hp) (Nat.lt_irrefl _)
 refine I.step (g':=s.gens) (d':=s.drawn) (ch:=ch) (fun b hb=>?_) (fun b o _ _ hc e _=>k b o hc e) (fun b o _ _ hc e _=>⟨o.slots,k b o hc e⟩) (fun b o hc e n=>?_) (fun b o hc e=>⟨o,k b o hc e⟩) (fun b xs e=>?_) (fun b o u e=>?_) (fun b ps e=>⟨#[],?_⟩) (fun m hm=>?_) (fun b u e=>?_) I.bare
 ·obtain⟨_,f1,_,f3,f4,f5⟩:=hf b hb
  exact⟨f3,f1,f4,f5⟩
 ·rw[qW (ne b o e)];exact n
 ·rw[qW (qv e hn)];exact e
 ·rw[qW (qv e hn)];exact e
 ·rw[qW (qv e hn),e];simp
 ·obtain⟨o,es,ep,ho,r⟩:=hm
  exact⟨o,es,ep,k _ o (fun z=>(hf _ z).2.1 rfl) ho,r⟩
 ·by_cases hb:b=a
  ·subst hb;rw[qw] at e;cases e;exact new
  ·rw[qW hb] at e
   refine(I.jz b u e).lR (fun c v hc q=>k c v ?_ q) (fun c q=>by rw[qW (qv q hn)];exact q) fun c xs q=>by rw[qW (qv q hn)];exact q
   rcases hc with z | z
   ·rw[z];exact nit b u e
   ·exact nit c _ z
theorem Inv.YZ {ch:List Addr} {t':Nat} (I:Inv X pins σ H s) (hf:∀b∈ch,yH X pins H b) (k:∀b u,b∉ch→s.heap.get? b=some u→h'.get? b=some u):Inv X pins σ H { s with heap:=h',toks:=t' }:=by
 have nit:∀b u,H b=some u→b∉ch:=fun b u e z=>by rw[(hf b z).1] at e;cases e
 refine I.step (g':=s.gens) (d':=s.drawn) (ch:=ch) (fun b hb=>?_) (fun b o _ _ hc e _=>k b o hc e) (fun b o _ _ hc e _=>⟨o.slots,k b o hc e⟩) (fun b o hc e n=>n) (fun b o hc e=>⟨o,k b o hc e⟩) (fun b xs e=>e) (fun b o u e=>e) (fun b ps e=>⟨#[],by rw[e];simp⟩) (fun m hm=>?_) (fun b u e=>?_) I.bare
 ·obtain⟨_,f1,_,f3,f4,f5⟩:=hf b hb
  exact⟨f3,f1,f4,f5⟩
 ·obtain⟨o,es,ep,ho,r⟩:=hm
  exact⟨o,es,ep,k _ o (fun z=>(hf _ z).2.1 rfl) ho,r⟩
 ·refine(I.jz b u e).lR (fun c v hc q=>k c v ?_ q) (fun c q=>q) fun c xs q=>q
  rcases hc with z | z
  ·rw[z];exact nit b u e
  ·exact nit c _ z
end
noncomputable def Yj (K:PySem.W.Frag) (a b:Addr):It:=
 ⟨fun i H=>∃xs ys x y,q0 K H a xs∧q0 K H b ys∧xs[i]?=some x∧ys[i]?=some y,
  fun i H v H'=>∃t x y,H t=none∧v=.ref t∧H'=upd H t (.tup [x,y])∧(∀xs,q0 K H a xs→xs[i]?=some x)∧∀ys,q0 K H b ys→ys[i]?=some y,
  fun i H=>∃xs ys,q0 K H a xs∧q0 K H b ys∧(xs.length≤i∨ys.length≤i)⟩
noncomputable def Wz (z TI TO i1 i2 l1 l2:Addr) (i:Nat) (h:Heap):Prop:=
 IsZip h z TI TO .none∧IsPair h TI (.ref i1) (.ref i2)∧(∃a b,IsPair h TO a b)∧h.IsListIter i1 l1 i∧h.IsListIter i2 l2 i
theorem ZJ {P:Program} {w:World} {K:PySem.W.Frag} {es:List Expr} {k1:Nat} {pos:Pos} {z TI TO i1 i2 l1 l2:Addr} (D:ZipApart z TI TO i1 i2 l1 l2) :
  Turn P w K (.Tuple es k1 pos) (Yj K l1 l2) [z,TI,TO,i1,i2] z (Wz z TI TO i1 i2 l1 l2) where
 mem:=by simp
 obj:=fun i h st b hb=>by
  obtain⟨a1,a2,⟨x,y,a3⟩,⟨o4,e4,_,d4⟩,o5,e5,_,d5⟩:=st
  simp only[List.mem_cons,List.not_mem_nil,or_false] at hb
  rcases hb with rfl | rfl | rfl | rfl | rfl
  ·exact⟨_,a1,fun v q=>by cases q⟩
  ·exact⟨_,a2,fun v q=>by cases q⟩
  ·exact⟨_,a3,fun v q=>by cases q⟩
  ·exact⟨_,e4,fun v q=>by rw[d4] at q;cases q⟩
  ·exact⟨_,e5,fun v q=>by rw[d5] at q;cases q⟩
 keep:=fun i h h' st k=>by
  obtain⟨a1,a2,⟨x,y,a3⟩,a4,a5⟩:=st
  exact⟨k z (by simp) _ a1,k TI (by simp) _ a2,⟨x,y,k TO (by simp) _ a3⟩,a4.at fun o e=>k i1 (by simp) o e,a5.at fun o e=>k i2 (by simp) o e⟩
 item:=by
  intro X hP hw hK hc i pins s σ H E I hf st hg
  subst hP hw hK
  obtain⟨xs,ys,x,y,hq1,hq2,hx,hy⟩:=hg
  obtain⟨its1,rv1,p1,_⟩:=I.list hq1
  obtain⟨its2,rv2,p2,_⟩:=I.list hq2
  obtain⟨u1,hu1,ru1⟩:=rv1.get hx
  obtain⟨u2,hu2,ru2⟩:=rv2.get hy
  obtain⟨a1,a2,⟨a,b,a3⟩,a4,a5⟩:=st
  refine wpAny_pyNext_zip_item D a1 a2 a3 a4 a5 p1.isList p2.isList (x:=u1) (y:=u2) (by simpa using hu1) (by simpa using hu2) fun h' b1 b2 b3 b4 b5 b6 bk=>?_
  refine⟨_,rfl,wpAny_letOwnedTupleGo_zip b1 fun h2 c1 c2=>?_⟩
  have lt:∀{c o},s.heap.get? c=some o→s.heap.objs.size≠c:=fun e=>Nat.ne_of_gt (Heap.lt_size e)
  have keepA:∀c o,c∉[z,TI,TO,i1,i2]→s.heap.get? c=some o→h2.get? c=some o:=fun c o hc e=>by
   simp only[List.mem_cons,List.not_mem_nil,or_false,not_or] at hc
   exact c2.extBut _ _ hc.1 (bk c o hc.1 hc.2.2.1 hc.2.2.2.1 hc.2.2.2.2 e)
  have T2:IsPair h2 s.heap.objs.size u1 u2:=c2.extBut _ _ (lt a1) b5
  refine⟨.ref s.heap.objs.size,upd H s.heap.objs.size (.tup [x,y]),I.Ge (t':=s.toks) hf keepA (Nat.le_refl _) ?_,rfl,⟨_,x,y,I.fresh,rfl,rfl,fun zs hz=>by rw[I.uJ hz hq1];exact hx,fun zs hz=>by rw[I.uJ hz hq2];exact hy⟩,?_,fun b hb=>?_⟩
  ·exact⟨by show 2≤sizeLine;decide,[u1,u2],.cons ru1 (.cons ru2 .nil),_,T2,rfl,0,rfl⟩
  ·exact⟨c1,c2.extBut _ _ D.TIz (bk TI _ D.TIz D.TITO D.TIi1 D.TIi2 a2),⟨_,_,c2.extBut _ _ D.TOz b2⟩,b3.extBut c2.extBut D.i1z,b4.extBut c2.extBut D.i2z⟩
  ·have hb':∃o,s.heap.get? b=some o:=by
    obtain⟨o4,e4,_⟩:=a4
    obtain⟨o5,e5,_⟩:=a5
    simp only[List.mem_cons,List.not_mem_nil,or_false] at hb
    rcases hb with rfl | rfl | rfl | rfl | rfl
    ·exact⟨_,a1⟩
    ·exact⟨_,a2⟩
    ·exact⟨_,a3⟩
    ·exact⟨_,e4⟩
    ·exact⟨_,e5⟩
   obtain⟨o,e⟩:=hb'
   rw[qW (Ne.symm (lt e))]
   exact(hf b hb).1
 done:=by
  intro X hP hw hK hc i pins s σ H E I hf st hg
  subst hP hw hK
  obtain⟨xs,ys,hq1,hq2,he⟩:=hg
  obtain⟨its1,rv1,p1,_⟩:=I.list hq1
  obtain⟨its2,rv2,p2,_⟩:=I.list hq2
  have l1':=rv1.length
  have l2':=rv2.length
  obtain⟨a1,a2,⟨a,b,a3⟩,a4,a5⟩:=st
  refine wpAny_pyNext_zip_end (I.ok.hd hc) D a1 a2 a3 a4 a5 p1.isList p2.isList ?_ fun h' bk=>⟨rfl,I.YZ (t':=s.toks) hf fun c o hc e=>?_⟩
  ·rcases he with he | he
   ·exact .inl (by simp;omega)
   ·exact .inr (by simp;omega)
  ·simp only[List.mem_cons,List.not_mem_nil,or_false,not_or] at hc
   exact bk c o hc.1 hc.2.2.1 hc.2.2.2.1 hc.2.2.2.2 e
 self:=fun _ _ _ _ _ st h=>wpAny_pyIter_zip st.1 h
noncomputable def VW (K:PySem.W.Frag) (ta:TA):TI:=fun σ H R=>ta σ H fun vs H1=>∃a b xs ys,vs=[.ref a,.ref b]∧q0 K H1 a xs∧q0 K H1 b ys∧R (Yj K a b) H1
section
variable {X:Cx}
theorem Vj {es:List Expr} {k1:Nat} {tpos:Pos} {a b:Expr} {ta:TA} {p pos:Pos} (hg:Gl X "zip") (hm:X.mg "zip" = none) (ha:PA X [a,b] ta) (hv:bootBuiltins "zip" = some (.type "zip"))
  (he:starEach [a,b] X.env=(false,eval a X.env) :: starEach [b] X.env:=by rfl) (hpl:(backTo pos (starEach [b] X.env)).any (·.1)=false:=by rfl) :
  PI X (.Tuple es k1 tpos) (.Call (.Name "zip" p) [a,b] [] pos) (VW X.K ta):=by
 intro pins s σ H R I h
 refine wpAny_Call_Name_kw (mS I hg hm hv ?_)
 refine PyProof.Rows.callWith_type1 (jO (ha pos pins s σ H _ I h) fun us s1 ⟨vs,H1,I1,r1,q1⟩=>?_) he hpl
 obtain⟨l1,l2,xs,ys,rfl,hq1,hq2,q⟩:=q1
 obtain⟨its1,rv1,p1,_⟩:=I1.list hq1
 obtain⟨its2,rv2,p2,_⟩:=I1.list hq2
 cases r1 with
 | cons r rr=>
  cases rr with
  | cons r' rr=>
   cases rr
   cases r
   cases r'
   have b1:l1 < s1.heap.objs.size:=by obtain⟨_,_,e,_⟩:=p1;exact Heap.lt_size e
   have b2:l2 < s1.heap.objs.size:=by obtain⟨_,_,e,_⟩:=p2;exact Heap.lt_size e
   refine call_zip_2 p1.isList p2.isList fun h' c1 c2 c3 c4 c5 c6 ck=>?_
   refine wpAny_pyIter_zip (s:={ s1 with heap:=h' }) c1 ?_
   refine⟨_,_,_,_,H1,rfl,I1.kept (t':=s1.toks) ck,ZJ (zipApart_new b1 b2),⟨c1,c2,⟨_,_,c3⟩,c4,c5⟩,fun c hc=>?_,q⟩
   have:s1.heap.objs.size≤c:=by
    simp only[List.mem_cons,List.not_mem_nil,or_false] at hc
    rcases hc with rfl | rfl | rfl | rfl | rfl<;>omega
   exact I1.eB this (I1.jz.fresh this)
theorem rh:∀(tk:Nat) (xs:List Str),Vals (xs.map V.str) (strsFrom tk xs)
 | _,[]=>.nil
 | tk,x :: r=>.cons ⟨tk,rfl⟩ (rh (tk + 1) r)
noncomputable def Kj:V→List V→Hp→VK→Prop:=fun x vs H Q=>∃z y,x=.str z∧vs=[.str y]∧(y.length == 0)=false∧z.length + 2≤sizeLine∧Nw H (.lst ((Txt.split z y).map V.str)) Q
theorem gk:aE X "str.split" Kj:=by
 intro pins s σ H x vs v us Q I rx rv h
 obtain⟨z,y,rfl,rfl,hy,hz,q⟩:=h
 obtain⟨t,rfl⟩:=rx
 obtain⟨u,rfl,ru⟩:=rv.one
 obtain⟨t',rfl⟩:=ru
 have hsz:z.length≤sizeLine:=by omega
 have hle:=PyProof.Rows.split_le z y
 have fin:∀(l:List Value) (tk:Nat),Vals ((Txt.split z y).map V.str) l→EP X pins σ Q (.ref s.heap.objs.size) { s with heap:=s.heap.push { cls:=.type "list",data:=.seq l.toArray },toks:=tk }:=fun l tk r=>
  ⟨.ref s.heap.objs.size,_,I.Qj (t':=tk) r (by rw[List.length_map];omega),rfl,q.el _ I.fresh⟩
 cases h1:(decide (z.length < y.length) || decide (Builtin.Str.strKind z < Builtin.Str.strKind y)) with
 | true=>
  refine call_meets F.slot_str_split (typeIs_str _ _ _) F.entry_str_split (F.args_str_split_2 _ _) (meets_str_split_cannot_occur z y t t' h1) ?_
  refine fin [.str z t] s.toks ?_
  have e:Txt.split z y=[z]:=if_pos h1
  rw[e];exact .cons ⟨t,rfl⟩ .nil
 | false=>
  cases hf:(Builtin.Str.occurrences z y 0 z.length (z.length + 1)).isEmpty with
  | true=>
   refine call_meets F.slot_str_split (typeIs_str _ _ _) F.entry_str_split (F.args_str_split_2 _ _) (meets_str_split_not_found z y t t' h1 hy hf) ?_
   refine fin [.str z t] s.toks ?_
   have e:Txt.split z y=[z]:=(if_neg (ne_true_of_eq_false h1)).trans (if_pos hf)
   rw[e];exact .cons ⟨t,rfl⟩ .nil
  | false=>
   have e:Txt.split z y=Builtin.Str.partsBetween z (Builtin.Str.occurrences z y 0 z.length (z.length + 1)) y.length:=(if_neg (ne_true_of_eq_false h1)).trans (if_neg (ne_true_of_eq_false hf))
   rw[e] at hle
   refine call_meets F.slot_str_split (typeIs_str _ _ _) F.entry_str_split (F.args_str_split_2 _ _) (meets_str_split_sep z y t t' h1 hy hf hsz (by omega)) ?_
   refine fin _ _ ?_
   rw[e];exact rh _ _
theorem Jc {K:PySem.W.Frag} {es:List Expr} {k1:Nat} {tpos:Pos} {a b:Expr} {ta:TA} {p pos:Pos} (hK:X.K=K) (hg:Gl X "zip") (hm:X.mg "zip" = none) (ha:PA X [a,b] ta) (hv:bootBuiltins "zip" = some (.type "zip"))
  (he:starEach [a,b] X.env=(false,eval a X.env) :: starEach [b] X.env:=by rfl) (hpl:(backTo pos (starEach [b] X.env)).any (·.1)=false:=by rfl) :
  PI X (.Tuple es k1 tpos) (.Call (.Name "zip" p) [a,b] [] pos) (VW K ta):=hK▸Vj hg hm ha hv he hpl
end
theorem QI {K:PySem.W.Frag} {a b:Addr} {H:Hp} {xs ys:List V} {qM:List Nat} {te:TE} {σ:St} {Q:VK} (hx:q0 K H a xs) (hy:q0 K H b ys) (Pr:V→V→V→Prop) (hsz:xs.length≤sizeLine)
  (he:∀(i:Nat) (x y:V) (H':Hp) (Q':VK),xs[i]?=some x→ys[i]?=some y→qg H H'→(∀v H4,qg H' H4→Pr x y v→Q' v H4)→te ([some x,some y] ++ wm σ qM) H' Q')
  (hd:∀(D:Addr) (H':Hp) (vs:List V),qg H H'→H D=none→H' D=some (.lst vs)→vs.length=min xs.length ys.length→(∀(i:Nat) x y v,xs[i]?=some x→ys[i]?=some y→vs[i]?=some v→Pr x y v)→Q (.ref D) H') :
  nv (Yj K a b) 2 qM (KG K 2 (Z3 (cO 0) (Z3 (cO 1) VE))) JM te σ Q H:=by
 intro D hD
 refine⟨fun i m σ1 H2=>m=min xs.length ys.length - i∧i≤min xs.length ys.length∧(∃ts:List (Option V),ts.length=2∧σ1=ts ++ wm σ qM)∧qg H H2∧∃vs,H2 D=some (.lst vs)∧vs.length=i∧∀(j:Nat) x y v,xs[j]?=some x→ys[j]?=some y→vs[j]?=some v→Pr x y v,
  ⟨min xs.length ys.length,by omega,Nat.zero_le _,⟨_,List.length_replicate,rfl⟩,qg.uP hD,[],qw,rfl,fun j x y v _ _ e=>by simp at e⟩,?_⟩
 rintro i m σ1 H2 ⟨rfl,hi,⟨ts,htl,rfl⟩,s2,vs,hv,hvl,hp⟩
 have hx2:q0 K H2 a xs:=Vv hx s2
 have hy2:q0 K H2 b ys:=Vv hy s2
 by_cases hlt:i < min xs.length ys.length
 ·have h1:i < xs.length:=by omega
  have h2:i < ys.length:=by omega
  refine .inr ⟨⟨xs,ys,_,_,hx2,hy2,List.getElem?_eq_getElem h1,List.getElem?_eq_getElem h2⟩,fun u H3 q=>?_⟩
  obtain⟨tp,x,y,htn,rfl,rfl,ex,ey⟩:=q
  have ex:=ex xs hx2
  have ey:=ey ys hy2
  have s3:qg H2 (upd H2 tp (.tup [x,y])):=qg.uP htn
  match ts,htl with
  | [_,_],_=>
   refine⟨tp,[x,y],rfl,pD.of qw,rfl,x,[y],rfl,y,[],rfl,rfl,?_⟩
   unfold JM
   dsimp only
   rw[if_pos rfl]
   refine he i x y _ _ ex ey (s2.trans s3) fun v H6 s6 pr=>⟨vs,s6 _ _ (s3 _ _ hv),by omega,min xs.length ys.length - (i + 1),by omega,rfl,hlt,⟨[some x,some y],rfl,rfl⟩,((s2.trans s3).trans s6).put hD,vs ++ [v],qw,by rw[List.length_append,hvl];rfl,fun j x' y' v' e1 e2 e3=>?_⟩
   by_cases hj:j < vs.length
   ·rw[List.getElem?_append_left hj] at e3
    exact hp j x' y' v' e1 e2 e3
   ·have hji:j=i:=by
     have:=(List.getElem?_eq_some_iff.mp e3).1
     rw[List.length_append,List.length_singleton] at this
     omega
    subst hji
    rw[List.getElem?_append_right (by omega),hvl,Nat.sub_self] at e3
    rw[ex] at e1
    rw[ey] at e2
    cases e1
    cases e2
    cases e3
    exact pr
 ·have e:i=min xs.length ys.length:=by omega
  refine .inl ⟨⟨xs,ys,hx2,hy2,by omega⟩,hd D H2 vs s2 hD hv (by omega) hp⟩
end L2
namespace L2
open PyProof.Rows PySem PySem.Spec
noncomputable def dk (h:Heap) (e C:Addr) (d:Option Addr) (tb:Value):Prop:=∃vs sl,h.get? e=some ⟨.ref C,d,.fields vs,sl⟩∧vs.size=6∧vs[1]?=some tb∧vs[2]?=some .none
noncomputable def a8 (h:Heap) (T:Addr) (fl:Value):Prop:=∃oT ts,h.get? T=some oT∧oT.data=.fields ts∧ts[3]?=some fl
structure fc (fs ch:List Addr) (h h':Heap):Prop where
 keep:∀b o,h.get? b=some o→b∉fs→b∉ch→h'.get? b=some o
 slot:∀b o,h.get? b=some o→b∈fs→b∉ch→∃sl,h'.get? b=some { o with slots:=sl }
 there:∀b o,h.get? b=some o→∃o',h'.get? b=some o'
theorem fc.trans {fs ch:List Addr} {h h1 h2:Heap} (a:fc fs ch h h1) (b:fc fs ch h1 h2):fc fs ch h h2 where
 keep:=fun c o e hf hc=>b.keep c o (a.keep c o e hf hc) hf hc
 slot:=fun c o e hf hc=>by
  obtain⟨sl,e1⟩:=a.slot c o e hf hc
  obtain⟨sl',e2⟩:=b.slot c _ e1 hf hc
  exact⟨sl',e2⟩
 there:=fun c o e=>by
  obtain⟨o',e1⟩:=a.there c o e
  exact b.there c o' e1
theorem fc.mono {fs ch ch':List Addr} {h h1:Heap} (a:fc fs ch h h1) (hs:∀b∈ch,b∈ch'):fc fs ch' h h1:=
 ⟨fun c o e hf hc=>a.keep c o e hf fun z=>hc (hs c z),fun c o e hf hc=>a.slot c o e hf fun z=>hc (hs c z),a.there⟩
section
variable {M:Model} {A:Around} {E:Value→Shared→Prop} {s:Shared} {base:Heap} {env:Env} {outer:List Env} {L e C:Addr} {d:Option Addr}
theorem fc.one {fs:List Addr} {h:Heap} {a:Addr} {f:Obj→Obj} {o:Obj} (ha:h.get? a=some o) (hf:(f o).isFreed=false):fc fs [a] h (h.update a f):=by
 have ne:∀b,b∉[a]→a≠b:=fun b hb q=>hb (by rw[q];exact List.mem_singleton.mpr rfl)
 refine⟨fun b u e _ hc=>(Heap.get?_update_other _ _ (ne b hc)).trans e,fun b u e _ hc=>⟨u.slots,(Heap.get?_update_other _ _ (ne b hc)).trans e⟩,fun b u e=>?_⟩
 by_cases q:a=b
 ·subst q;exact⟨_,Heap.get?_update_self _ ha hf⟩
 ·exact⟨u,(Heap.get?_update_other _ _ q).trans e⟩
theorem fc.push {fs ch:List Addr} {h:Heap} {o:Obj}:fc fs ch h (h.push o):=
 ⟨fun b u e _ _=>Heap.get?_push_of_some _ e,fun b u e _ _=>⟨u.slots,Heap.get?_push_of_some _ e⟩,fun b u e=>⟨u,Heap.get?_push_of_some _ e⟩⟩
theorem fc.slots {fs ch:List Addr} {h h':Heap} (x:Heap.SlotsOnly fs h h'):fc fs ch h h':=
 ⟨fun b u e hf _=>(x.2.1 b hf).trans e,fun b u e _ _=>x.2.2 b u e,fun b u e=>by obtain⟨sl,q⟩:=x.2.2 b u e;exact⟨_,q⟩⟩
theorem dk.slots {h h1 : Heap} {l : List Env} {tb : Value} (hx : dk h e C d tb) (hl : h.FunFrames base l) (k : Heap.SlotsOnly (l.filterMap (·.frame)) h h1) : dk h1 e C d tb := by
  obtain ⟨vs, sl, he, r⟩ := hx
  refine ⟨vs, sl, (k.2.1 e fun m => ?_).trans he, r⟩
  obtain ⟨_, o, ho, no⟩ := hl.mem m
  cases he.symm.trans ho
  exact no vs rfl
theorem entry_put {tb top : Value} {pl : List Value} {Q : Unit → Shared → Prop} (ip : IsPlace pl) (hx : dk s.heap e C d tb)
    (q : ∀ h' T, s.heap.objs.size ≤ T → dk h' e C d (.ref T) → a8 h' T (rawInt L) → (∀ fs, fc fs [e] s.heap h') → Q () { s with heap := h' }) : wpAny M A (EntryCells.newEntry top (.ref L) .none (rawInt L) .none pl >>= setField (.ref e) 1) Q E s := by
  obtain ⟨vs, sl, he, hsz, h1, h2⟩ := hx
  have lV := ip.sizeOk5 top (.ref L) .none (rawInt L) .none
  unfold EntryCells.newEntry newFields
  generalize ets : List.toArray _ = ts at lV
  have h3 : ts[3]? = some (rawInt L) := by rw [← ets]; rfl
  refine wpAny_bind (wpAny_newObj_type ?_ lV)
  generalize eot : ({ cls := .type "traceback", data := .fields ts } : Obj) = ot
  have nf : (Obj.mapFields (·.setIfInBounds 1 (Value.ref s.heap.objs.size)) ⟨.ref C, d, .fields vs, sl⟩).isFreed = false := Obj.isFreed_of_fields (Obj.data_mapFields rfl _)
  have ge : (s.heap.push ot).get? e = some ⟨.ref C, d, .fields vs, sl⟩ := Heap.get?_push_of_some _ he
  refine wpAny_setField ge rfl (by omega) (q _ s.heap.objs.size (Nat.le_refl _) ⟨vs.setIfInBounds 1 (Value.ref s.heap.objs.size), sl, Heap.get?_update_self _ ge nf, by simpa using hsz, by simp [hsz], ?_⟩ ⟨ot, ts, (Heap.get?_update_other _ _ (Nat.ne_of_lt (Heap.lt_size he))).trans (Heap.get?_push_size _ (by rw [← eot]; rfl)), by rw [← eot], h3⟩ fun fs => fc.push.trans (fc.one ge nf))
  rw [Array.getElem?_setIfInBounds_ne (by decide)]
  exact h2
theorem ir {Q : Unit → Shared → Prop} (hfr : A.frames = some (env :: outer)) (hl : s.heap.FunFrames base (env :: outer)) (hf : env.frame = some L) (hx : dk s.heap e C d .none)
    (hQ : ∀ h' T, s.heap.objs.size ≤ T → dk h' e C d (.ref T) → a8 h' T (rawInt L) → fc ((env :: outer).filterMap (·.frame)) [e] s.heap h' → Q () { s with heap := h' }) : wpAny M A (noteFrame (.ref e) env) Q E s := by
  obtain ⟨_, _, he, _, h1, _⟩ := id hx
  unfold noteFrame
  rw [hf]
  refine wpAny_bind (wpAny_field he rfl h1 ?_)
  rw [if_neg (by decide)]
  exact wpAny_bind (wpAny_frameOf_fun hfr hl hf fun h0 k0 => wpAny_bind (wpAny_entryPlaceOf fun _ ip => entry_put ip (hx.slots hl k0) fun h' T k1 k2 k3 k4 => hQ h' T (k0.1 ▸ k1) k2 k3 ((fc.slots k0).trans (k4 _))))
theorem rY {T0 : Addr} {Q : Unit → Shared → Prop} (hfr : A.frames = some (env :: outer)) (hl : s.heap.FunFrames base (env :: outer)) (hf : env.frame = some L) (hx : dk s.heap e C d (.ref T0)) (ht : a8 s.heap T0 .none) (hne : T0 ≠ e)
    (hQ : ∀ h' T, s.heap.objs.size ≤ T → dk h' e C d (.ref T) → a8 h' T (rawInt L) → fc ((env :: outer).filterMap (·.frame)) [e, T0] s.heap h' → Q () { s with heap := h' }) : wpAny M A (noteFrame (.ref e) env) Q E s := by
  obtain ⟨vs, sl, he, hsz, h1, h2⟩ := hx
  obtain ⟨oT, ts, gT, dT, h3⟩ := ht
  have t0 : fc ((env :: outer).filterMap (·.frame)) [T0] s.heap (s.heap.update T0 (Obj.mapFields (·.setIfInBounds 3 Value.none))) := fc.one gT (Obj.isFreed_of_fields (Obj.data_mapFields dT _))
  have x0 : dk (s.heap.update T0 (Obj.mapFields (·.setIfInBounds 3 Value.none))) e C d (.ref T0) := ⟨vs, sl, (Heap.get?_update_other _ _ hne).trans he, hsz, h1, h2⟩
  have l0 : (s.heap.update T0 (Obj.mapFields (·.setIfInBounds 3 Value.none))).FunFrames base (env :: outer) := hl.of_keeps fun b o gb no => by
    refine ⟨o, (Heap.get?_update_other _ _ fun z => ?_).trans gb, rfl⟩
    cases gT.symm.trans (z ▸ gb)
    exact no ts dT
  unfold noteFrame
  rw [hf]
  refine wpAny_bind (wpAny_field he rfl h1 ?_)
  rw [if_pos (by simp)]
  refine wpAny_bind (wpAny_field gT dT h3 ?_)
  rw [if_neg (by simp [rawInt])]
  refine wpAny_bind (wpAny_setField gT dT (Array.getElem?_eq_some_iff.mp h3).1 (wpAny_bind (wpAny_frameOf_fun hfr l0 hf fun h4 k0 => wpAny_bind (wpAny_entryPlaceOf fun _ ip => entry_put ip (x0.slots l0 k0) fun h' T k1 k2 k3 k4 => ?_))))
  refine hQ h' T ?_ k2 k3 ((t0.mono (by simp)).trans ((fc.slots k0).trans ((k4 _).mono (by simp))))
  rw [← Heap.size_update s.heap T0, ← k0.1]
  exact k1
theorem land {T:Addr} {fl:Value} {Q:Unit→Shared→Prop} (hx:dk s.heap e C d (.ref T)) (ht:a8 s.heap T fl) (hne:T≠e)
  (hQ:∀h',dk h' e C d (.ref T)→a8 h' T .none→(∀fs,fc fs [T] s.heap h')→Q () { s with heap:=h' }):wpAny M A (setFlight (.ref e) none) Q E s:=by
 obtain⟨vs,sl,he,hsz,h1,h2⟩:=hx
 obtain⟨oT,ts,hT,hdT,h3⟩:=ht
 have h3':3 < ts.size:=(Array.getElem?_eq_some_iff.mp h3).1
 have nf:(Obj.mapFields (·.setIfInBounds 3 Value.none) oT).isFreed=false:=Obj.isFreed_of_fields (Obj.data_mapFields hdT _)
 unfold setFlight
 refine wpAny_bind (wpAny_field he rfl h1 ?_)
 rw[if_pos (show (Value.ref T != Value.none)=true from by simp)];refine wpAny_setField hT hdT h3' (hQ _ ⟨vs,sl,(Heap.get?_update_other _ _ hne).trans he,hsz,h1,h2⟩ ⟨_,_,Heap.get?_update_self _ hT nf,Obj.data_mapFields hdT _,by simp [h3']⟩ fun fs=>fc.one hT nf)
theorem tL {Q:Unit→Shared→Prop} (hfr:A.frames=some (env :: outer)) (hl:s.heap.FunFrames base (env :: outer)) (hf:env.frame=some L) (hx:dk s.heap e C d .none)
  (hQ:∀h' T,s.heap.objs.size≤T→T≠e→dk h' e C d (.ref T)→a8 h' T .none→fc ((env :: outer).filterMap (·.frame)) [e,T] s.heap h'→Q () { s with heap:=h' }):wpAny M A (leaving env (.ref e)) Q E s:=by
 have he:e < s.heap.objs.size:=by obtain⟨vs,sl,he,_⟩:=hx;exact Heap.lt_size he
 unfold leaving
 refine wpAny_bind (ir hfr hl hf hx fun h1 T k1 k2 k3 k4=>?_)
 have hne:T≠e:=Nat.ne_of_gt (Nat.lt_of_lt_of_le he k1)
 exact land k2 k3 hne fun h2 j1 j2 j3=>hQ h2 T k1 hne j1 j2 ((k4.mono (by simp)).trans ((j3 _).mono (by simp)))
theorem oR {T0:Addr} {Q:Unit→Shared→Prop} (hfr:A.frames=some (env :: outer)) (hl:s.heap.FunFrames base (env :: outer)) (hf:env.frame=some L) (hx:dk s.heap e C d (.ref T0)) (ht:a8 s.heap T0 .none) (hne0:T0≠e)
  (hQ:∀h' T,s.heap.objs.size≤T→T≠e→dk h' e C d (.ref T)→a8 h' T .none→fc ((env :: outer).filterMap (·.frame)) [e,T0,T] s.heap h'→Q () { s with heap:=h' }):wpAny M A (leaving env (.ref e)) Q E s:=by
 have he:e < s.heap.objs.size:=by obtain⟨vs,sl,he,_⟩:=hx;exact Heap.lt_size he
 unfold leaving
 refine wpAny_bind (rY hfr hl hf hx ht hne0 fun h1 T k1 k2 k3 k4=>?_)
 have hne:T≠e:=Nat.ne_of_gt (Nat.lt_of_lt_of_le he k1)
 exact land k2 k3 hne fun h2 j1 j2 j3=>hQ h2 T k1 hne j1 j2 ((k4.mono (by simp)).trans ((j3 _).mono (by simp)))
end
end L2
namespace L2
open PyProof.Rows PySem PySem.Spec
noncomputable def xO (e C:Addr) (d:Option Addr):HO:=.ext fun h=>∃tb,dk h e C d tb
theorem XN {P:Program} {w:World} {H:Hp} {h:Heap} {e C:Addr} {d:Option Addr} {tb:Value} (x:dk h e C d tb):jL P w H h e (xO e C d):=by
 obtain⟨vs,sl,he,r⟩:=x
 refine⟨⟨tb,vs,sl,he,r⟩,⟨_,he⟩,fun h1 h2 ⟨tb',vs',sl',he',r'⟩ k=>⟨tb',vs',sl',k _ he',r'⟩⟩
theorem Xh {P:Program} {w:World} {H:Hp} {h:Heap} {e C:Addr} {d:Option Addr} (x:gF P w H h) (q:H e=some (xO e C d)):∃tb,dk h e C d tb:=(x e _ q).1
structure Kq (a C:Addr) (d:Option Addr) (n:Nat) (H:Hp) (h:Heap) (T:Addr):Prop where
 at':dk h a C d (.ref T)
 tr:a8 h T .none
 ne:T≠a
 new:n≤T
 free:H T=none
 is:H a=some (xO a C d)
noncomputable def si (P:Program) (w:World):uX:=fun outer H s E e s'=>∃(a C:Addr) (d:Option Addr) (T:Addr) (H':Hp),e=.ref a∧s'.os=s.os∧AllBare s'.gens∧Un (sy outer) [] H H' s.heap s'.heap∧gF P w H' s'.heap∧Kq a C d s.heap.objs.size H' s'.heap T∧E (.ref C) (some a) H'
theorem sj {P:Program} {w:World} {H:Hp} {h h':Heap} {fs ch:List Addr} {a C:Addr} {d:Option Addr} {tb:Value} (x:gF P w H h) (t:fc fs ch h h') (hf:∀b∈fs,H b=none) (hc:∀b∈ch,b=a∨H b=none) (ha:H a=some (xO a C d)) (hx:dk h' a C d tb):gF P w H h':=by
 intro b o e
 by_cases q:b=a
 ·subst q
  rw[ha] at e
  cases e
  exact XN hx
 ·have kp:∀c u,c≠a→H c≠none→h.get? c=some u→h'.get? c=some u:=fun c u hca hcn e=>t.keep c u e (fun z=>hcn (hf c z)) fun z=>(hc c z).elim hca hcn
  refine(x b o e).lR (fun c u hcu e'=>?_) (fun _ z=>z) (fun _ _ z=>z)
  rcases hcu with rfl | hcu
  ·exact kp c u q (by rw[e];exact fun z=>nomatch z) e'
  ·refine kp c u (fun z=>?_) (by rw[hcu];exact fun z=>nomatch z) e'
   rw[z,ha] at hcu
   cases hcu
end L2
namespace L2
open PyProof.Rows PySem PySem.Spec
section
variable {X:Cx} {pins:List (Addr × Obj)} {σ:St} {H:Hp} {s:Shared} {a C:Addr} {d:Option Addr} {E:XK}
theorem Inv.Y0 (I:Inv X pins σ H s) {h':Heap} {ch:List Addr} (hex:X.ex=[]) (t:fc (sy X.stack) ch s.heap h') (hc:∀b∈ch,H b≠none∨X.s₀.heap.objs.size≤b):Un X.fs [] X.H₀ H X.s₀.heap h':=by
 have u:=I.base
 rw[hex] at u
 have nch:∀b o,X.s₀.heap.get? b=some o→X.H₀ b=none→b∉ch:=fun b o e n hb=>by
  rcases hc b hb with q | q
  ·exact q (u.free b o e n (by simp))
  ·exact absurd (Heap.lt_size e) (Nat.not_lt.mpr q)
 have nloc:∀b o,X.s₀.heap.get? b=some o→b≠X.env.locals:=fun b o e z=>absurd (Heap.lt_size e) (Nat.not_lt.mpr (by rw[z];exact I.ok.above))
 refine⟨fun b o e n hb _=>?_,fun b o e n hb _=>?_,u.free,fun b o e _=>?_,u.uG,u.cL,u.uU⟩
 ·refine t.keep b o (u.keep b o e n hb (by simp)) (fun z=>?_) (nch b o e n)
  rcases List.mem_cons.mp (I.cE b z) with q | q
  ·exact nloc b o e q
  ·exact hb q
 ·obtain⟨sl,e1⟩:=u.slot b o e n hb (by simp)
  by_cases q:b∈sy X.stack
  ·obtain⟨sl',e2⟩:=t.slot b _ e1 q (nch b o e n)
   exact⟨sl',e2⟩
  ·exact⟨sl,t.keep b _ e1 q (nch b o e n)⟩
 ·obtain⟨o',e1⟩:=u.there b o e (by simp)
  exact t.there b o' e1
theorem Inv.KL {M:Model} {EE:Value→Shared→Prop} (I:Inv X pins σ H s) (hst:X.stack=X.env :: X.outer) (hf:X.env.frame=some X.env.locals) (hex:X.ex=[]) (ha:H a=some (xO a C d)) (hx:dk s.heap a C d .none) (hE:E (.ref C) (some a) H) :
  wpAny M X.A (leaving X.env (.ref a)) (fun _ s''=>si X.prog X.w X.outer X.H₀ X.s₀ E (.ref a) s'') EE s:=by
 have hfr:=I.ok.frames
 have hst':=I.stack
 have hfree:=I.pX
 rw[hst] at hfr hst'
 refine tL hfr hst' hf hx fun h' T k1 k2 k3 k4 k5=>?_
 have hT:H T=none:=I.jz.fresh k1
 have hs:X.s₀.heap.objs.size≤T:=Nat.le_trans I.sz k1
 have k5':fc (sy X.stack) [a,T] s.heap h':=by rw[hst];exact k5
 refine⟨a,C,d,T,H,rfl,I.os,I.bare,I.Y0 hex k5' (fun b hb=>?_),sj I.jz k5' hfree (fun b hb=>?_) ha k3,⟨k3,k4,k2,hs,hT,ha⟩,hE⟩
 ·simp only[List.mem_cons,List.not_mem_nil,or_false] at hb
  rcases hb with rfl | rfl
  ·exact .inl (by rw[ha];exact fun z=>nomatch z)
  ·exact .inr hs
 ·simp only[List.mem_cons,List.not_mem_nil,or_false] at hb
  rcases hb with rfl | rfl
  ·exact .inl rfl
  ·exact .inr hT
theorem Inv.Qe {M:Model} {EE:Value→Shared→Prop} {T0:Addr} {n:Nat} (I:Inv X pins σ H s) (hst:X.stack=X.env :: X.outer) (hf:X.env.frame=some X.env.locals) (hex:X.ex=[]) (F:Kq a C d n H s.heap T0) (hn:X.s₀.heap.objs.size≤n) (hE:E (.ref C) (some a) H) :
  wpAny M X.A (leaving X.env (.ref a)) (fun _ s''=>si X.prog X.w X.outer X.H₀ X.s₀ E (.ref a) s'') EE s:=by
 have hfr:=I.ok.frames
 have hst':=I.stack
 have hfree:=I.pX
 rw[hst] at hfr hst'
 refine oR hfr hst' hf F.at' F.tr F.ne fun h' T k1 k2 k3 k4 k5=>?_
 have hT:H T=none:=I.jz.fresh k1
 have hs:X.s₀.heap.objs.size≤T:=Nat.le_trans I.sz k1
 have k5':fc (sy X.stack) [a,T0,T] s.heap h':=by rw[hst];exact k5
 refine⟨a,C,d,T,H,rfl,I.os,I.bare,I.Y0 hex k5' (fun b hb=>?_),sj I.jz k5' hfree (fun b hb=>?_) F.is k3,⟨k3,k4,k2,hs,hT,F.is⟩,hE⟩
 ·simp only[List.mem_cons,List.not_mem_nil,or_false] at hb
  rcases hb with (rfl | rfl | rfl)
  ·exact .inl (by rw[F.is];exact fun z=>nomatch z)
  ·exact .inr (Nat.le_trans hn F.new)
  ·exact .inr hs
 ·simp only[List.mem_cons,List.not_mem_nil,or_false] at hb
  rcases hb with (rfl | rfl | rfl)
  ·exact .inl rfl
  ·exact .inr F.free
  ·exact .inr hT
theorem Inv.Wa {e:Value} {s':Shared} (I:Inv X pins σ H s) (h:si X.prog X.w X.stack H s E e s'):∃a C d T H',e=.ref a∧Inv X pins σ H' s'∧Kq a C d X.s₀.heap.objs.size H' s'.heap T∧E (.ref C) (some a) H':=by
 obtain⟨a,C,d,T,H',rfl,os,bare,un,jz,F,q⟩:=h
 refine⟨a,C,d,T,H',rfl,I.nW os (ch:=[]) un jz bare (fun b z=>absurd z (by simp)),⟨F.at',F.tr,F.ne,Nat.le_trans I.sz F.new,F.free,F.is⟩,q⟩
end
end L2
namespace L2
open PyProof.Rows PySem PySem.Spec
section
variable {P:Program} {w:World} {K:PySem.W.Frag} {mg:Str→Option Value} {base:Heap}
theorem en {N:List Str} {qual:Str} {scope:Scope} {f:Addr} {cd:Value} {A:Around} {outer:List Env} {s:Shared} {H:Hp} {E E':XK} (hE:∀c a H,E c a H→E' c a H):Passes (si P w) (lz (si P w) P w K mg base N qual scope f cd A outer s H E') E:=by
 intro pins σ H1 s1 e s' I h
 obtain⟨a,C,d,T,H',rfl,I',F,q⟩:=I.Wa h
 exact I'.Qe rfl rfl rfl F (Nat.le_refl _) (hE _ _ _ q)
theorem Jn.WX {x qual:Str} {st:Stmt} {f:Addr} {fd:FuncData} {N ps:List Str} {k:Nat} {sp:Sp} (F:Jn K x qual st f fd) (S:qQ N ps (z5 st)) (len:∀vs H Q E,sp vs H Q E→vs.length=ps.length)
  (hbody:∀(cdv:Value) (A:Around) (outer:List Env) (s:Shared) (H:Hp) (vs:List V) (Q:VK) (E:XK),kc k (A.deeper (envOfC qual (z5 st) s.heap.objs.size f cdv))→sp vs H Q E→
   ∃t,iy (lz (si P w) P w K mg base N qual (z5 st) f cdv A outer s H E) (qz st) t∧t { nx:=fun _ H'=>Q .non H',rt:=Q } (start N vs) H):qJ P w K mg base (si P w) (k + 1) f fd ps sp:=by
 obtain⟨oc,od,kV,doc,pm,an,cdv,ct,osl,rfl,lk,hcd⟩:=F.ex
 exact Xc lk hcd S len fun A outer s H vs Q E hr hsp=>hbody cdv A outer s H vs Q E hr hsp
end
end L2
namespace L2
open PyProof.Rows PySem PySem.Spec
noncomputable def qP:List Value→Bool
 | .ref _ :: r=>qP r
 | l=>l == [.type "ValueError",.type "Exception",.type "BaseException",.type "object"]
theorem cG (self:Value):∀{l:List Value},qP l=true→refuseLoop self "__setattr__" l=pure ()
 | .ref c :: r,e=>by rw[refuseLoop_ref];exact cG self e
 | [],e=>by simp [qP] at e
 | .type n :: r,e=>by
  have:(Value.type n :: r)=[.type "ValueError",.type "Exception",.type "BaseException",.type "object"]:=by simpa [qP] using e
  rw[this];exact PySem.F.store_ValueError.passes self
 | .none :: r,e=>by simp [qP] at e
 | .bool _ :: r,e=>by simp [qP] at e
 | .int _ _ :: r,e=>by simp [qP] at e
 | .str _ _ :: r,e=>by simp [qP] at e
 | .builtin _ :: r,e=>by simp [qP] at e
 | .float _ _ :: r,e=>by simp [qP] at e
theorem ia:∀{l:List Value},qP l=true→l.contains (.type "object")=true∧l.isEmpty=false
 | .ref c :: r,e=>⟨by rw[List.contains_cons,(ia (l:=r) e).1,Bool.or_true],rfl⟩
 | [],e=>by simp [qP] at e
 | .type n :: r,e=>by
  have:(Value.type n :: r)=[.type "ValueError",.type "Exception",.type "BaseException",.type "object"]:=by simpa [qP] using e
  rw[this];exact⟨by decide,rfl⟩
 | .none :: r,e=>by simp [qP] at e
 | .bool _ :: r,e=>by simp [qP] at e
 | .int _ _ :: r,e=>by simp [qP] at e
 | .str _ _ :: r,e=>by simp [qP] at e
 | .builtin _ :: r,e=>by simp [qP] at e
 | .float _ _ :: r,e=>by simp [qP] at e
structure Xs (K:PySem.W.Frag) (C:Addr):Prop where
 mro:(PySem.W.clsIn K C).any (fun cd=>qP cd.mro && cd.hasDict)=true
 sa:PySem.W.findIn K (.ref C) "__setattr__" = some (some (.builtin "object.__setattr__"))
section
variable {prog:Program} {w:World} {A:Around} {K:PySem.W.Frag} {C x:Addr} {s:Shared} {R:Result→Shared→Prop}
theorem sT {ox : Obj} {od : Option Obj} {name : Str} {tk : Tok} {v : Value} (X : K.In s.heap) (I : PySem.W.InstAt s.heap x ox C od) (hp : (PySem.W.clsIn K C).any (fun cd => qP cd.mro && cd.hasDict) = true) (ht : PySem.W.findIn K (.ref C) name = some none)
    (h : ∀ b, wpAny (model prog w) A.in1 (Builtin.ObjectAttr.storeInOwnDict (.ref x) (.ref C) (.str name tk) name v b) (fun f s' => f = .done (.ret .none) ∧ R (.ok (.ret .none)) s') (fun _ _ => False) s) : codeAny (model prog w) A (.call (.builtin "object.__setattr__") ⟨[.ref x, .str name tk, v], []⟩) R s := by
  obtain ⟨cd, hc, ho⟩ := PySem.W.any_some hp
  have ov := (Bool.and_eq_true_iff.mp ho).1
  obtain ⟨top, some'⟩ := ia ov
  have lists : PySem.W.Looks (model prog w) s.heap (mroOf (.ref C)) cd.mro := (PySem.W.looks_clsIn X hc).andThen .now
  have over : PySem.W.mroIn K C (.type "object") = some true := by
    unfold PySem.W.mroIn
    simp only [hc, Option.bind_some, some', top, Bool.false_eq_true, if_false]
  have St := PySem.F.store_object
  have is : PySem.W.Looks (model prog w) s.heap (isInstance (.ref x) (.type "object")) true := I.type.andThen (PySem.W.looks_mroIn X over)
  have fit := St.args (.ref x) (.str name tk) v
  refine codeAny_call_builtin St.slot.plain St.entry (PySem.W.check_slot (M := model prog w) (i := "object.__setattr__") (owner := "object") (n := "__setattr__") St.kind St.split is fit ?_)
  rw [PySem.W.osa_eq, refuse_eq]
  refine wpAny_bind (wpAny_bind (I.type.here (wpAny_bind (lists.here ((cG _ ov).symm ▸ wpAny_pure ?_)))))
  refine wpAny_bind (I.type.here (wpAny_bind ((PySem.W.looks_findIn X ht).here (wpAny_bind (wpAny_pure (wpAny_mono (h _) (fun f s' z => ?_) fun _ _ z => z.elim))))))
  obtain ⟨rfl, z⟩ := z
  exact z
theorem bare_ns {h : Heap} {a : Addr} (g : h.get? a = some { cls := .type "dict", data := .dict #[] }) : h.Ns1 a fun _ => none := Heap.Ns1.of_empty ⟨_, _, _, g, rfl, fun _ z => absurd z (Array.not_mem_empty _), fun _ => rfl⟩
theorem ns_line {h : Heap} {a : Addr} {m : Str → Option Value} {ns : List Str} (n : h.Ns1 a m) (hw : PySem.Within m ns) (lV : ns.length ≤ 1001) {Q : Unit → Shared → Prop} {E : Value → Shared → Prop} {g : Array GenState} {dr : Drawn} {t : Nat} {os : OsState} (q : Q () ⟨h, g, dr, t, os⟩) : wpAny (model prog w) A (lookBehind a) Q E ⟨h, g, dr, t, os⟩ := by
  obtain ⟨o, es, ep, ho, hd, hcnt⟩ := n.count hw
  exact wpAny_lookBehind ho (by rw [hd]; exact pastItsLine_dict (by rw [sizeLine_eq]; omega)) q
theorem oM {E : Value → Shared → Prop} {name : Str} {v : Value} {vs : Array Value} {sl : Array (Option Value)} {Q : Unit → Shared → Prop} (X : K.In s.heap) (c : Xs K C) (hn : PySem.W.findIn K (.ref C) name = some none) (he : s.heap.get? x = some ⟨.ref C, none, .fields vs, sl⟩)
    (h : ∀ h' tk, h'.get? x = some ⟨.ref C, some s.heap.objs.size, .fields vs, sl⟩ → h'.Ns1 s.heap.objs.size (fun y => if y = name then some v else none) → (∀ b o, b ≠ x → s.heap.get? b = some o → h'.get? b = some o) → Q () { s with heap := h', toks := tk }) : wpAny (model prog w) A (setAttr (.ref x) name v) Q E s := by
  have I : PySem.W.InstAt s.heap x ⟨.ref C, none, .fields vs, sl⟩ C none := ⟨he, rfl, rfl, trivial⟩
  obtain ⟨cd, hc, ho⟩ := PySem.W.any_some c.mro
  have hd := (Bool.and_eq_true_iff.mp ho).2
  have far := Nat.ne_of_lt (Heap.lt_size he)
  have up : ∀ {b : Addr} {o : Obj}, s.heap.get? b = some o → (s.heap.push { cls := .type "dict", data := .dict #[] }).get? b = some o := fun q => Heap.get?_push_of_some _ q
  have clsd : PySem.W.Looks (model prog w) s.heap _ _ := PySem.W.looks_clsIn X hc
  refine PySem.W.set_plain X I c.sa (sT (s := { s with toks := s.toks + 1 }) X I c.mro hn fun b => ?_)
  refine wpAny_bind (wpAny_pure (wpAny_bind (wpAny_bind (wpAny_loadPart he (wpAny_bind (clsd.here (s := { s with toks := s.toks + 1 }) ?_))))))
  simp only [hd, Bool.not_true, Bool.false_eq_true, if_false, typeHasDict]
  refine wpAny_bind (wpAny_alloc (wpAny_bind (wpAny_update (up he) (wpAny_pure (a := some s.heap.objs.size) ?_))))
  refine wpAny_bind (wpAny_pure (wpAny_bind (?_ : wpAny _ _ (nsSet _ _ _) _ _ _)))
  refine wpAny_nsSet1 (bare_ns ((Heap.get?_update_other _ _ far).trans (Heap.get?_push_at rfl rfl))) fun h' n k => ?_
  refine wpAny_bind (ns_line n (PySem.Within.cons name v PySem.Within.nil) (Nat.succ_le_succ (Nat.zero_le 1000)) (wpAny_pure ⟨rfl, h h' _ ((k.2 x far).trans (Heap.get?_update_self _ (up he) rfl)) n fun b o nb q => ?_⟩))
  exact (k.2 b (Nat.ne_of_lt (Heap.lt_size q))).trans ((Heap.get?_update_other _ _ (Ne.symm nb)).trans (up q))
theorem ag {E : Value → Shared → Prop} {name : Str} {v : Value} {vs : Array Value} {sl : Array (Option Value)} {dx : Addr} {mA : Str → Option Value} {ns : List Str} {Q : Unit → Shared → Prop} (X : K.In s.heap) (c : Xs K C) (hn : PySem.W.findIn K (.ref C) name = some none) (he : s.heap.get? x = some ⟨.ref C, some dx, .fields vs, sl⟩)
    (hd : s.heap.Ns1 dx mA) (hw : PySem.Within mA ns) (hsz : ns.length ≤ 1000) (h : ∀ h' tk, h'.Ns1 dx (fun y => if y = name then some v else mA y) → Heap.SameBut dx s.heap h' → Q () { s with heap := h', toks := tk }) : wpAny (model prog w) A (setAttr (.ref x) name v) Q E s := by
  obtain ⟨od, gd, _⟩ := mH hd
  have I : PySem.W.InstAt s.heap x ⟨.ref C, some dx, .fields vs, sl⟩ C (some od) := ⟨he, rfl, rfl, gd⟩
  obtain ⟨cd, hc, ho⟩ := PySem.W.any_some c.mro
  have hasd := (Bool.and_eq_true_iff.mp ho).2
  have clsd : PySem.W.Looks (model prog w) s.heap _ _ := PySem.W.looks_clsIn X hc
  refine PySem.W.set_plain X I c.sa (sT (s := { s with toks := s.toks + 1 }) X I c.mro hn fun b => ?_)
  refine wpAny_bind (wpAny_pure (wpAny_bind (wpAny_bind (wpAny_loadPart he (wpAny_bind (clsd.here (s := { s with toks := s.toks + 1 }) ?_))))))
  rw [hasd]
  refine wpAny_pure (a := some dx) (wpAny_bind (wpAny_pure (wpAny_bind (wpAny_nsSet1 (s := { s with toks := s.toks + 1 }) hd fun h' n k => ?_))))
  exact wpAny_bind (ns_line n (PySem.Within.cons name v hw) (Nat.succ_le_succ hsz) (wpAny_pure ⟨rfl, h h' _ n k⟩))
end
end L2
namespace L2
open PyProof.Rows PySem PySem.Spec
section
end
end L2
namespace L2
open PyProof.Rows PySem PySem.Spec
noncomputable def xN (e C:Addr) (d:Option Addr):HO:=.ext fun h=>dk h e C d .none
noncomputable def xD (dx:Addr) (fs:List (Str × V)):HO:=.ext fun h=>∃mA,h.Ns1 dx mA∧(∀f,yT (fs.lookup f) (mA f))∧PySem.Within mA (fs.map (·.1))
theorem XZ {P:Program} {w:World} {H:Hp} {h:Heap} {e C:Addr} {d:Option Addr} (x:dk h e C d .none):jL P w H h e (xN e C d):=by
 obtain⟨vs,sl,he,r⟩:=x
 refine⟨⟨vs,sl,he,r⟩,⟨_,he⟩,fun h1 h2 ⟨vs',sl',he',r'⟩ k=>⟨vs',sl',k _ he',r'⟩⟩
theorem QY {P:Program} {w:World} {H:Hp} {h:Heap} {e C:Addr} {d:Option Addr} (x:gF P w H h) (q:H e=some (xN e C d)):dk h e C d .none:=(x e _ q).1
theorem XS {P:Program} {w:World} {H:Hp} {h:Heap} {dx:Addr} {fs:List (Str × V)} {mA:Str→Option Value} (n:h.Ns1 dx mA) (r:∀f,yT (fs.lookup f) (mA f)) (wi:PySem.Within mA (fs.map (·.1))):jL P w H h dx (xD dx fs):=by
 have n':=n
 obtain⟨o,es,ep,ho,_⟩:=n'
 refine⟨⟨mA,n,r,wi⟩,⟨o,ho⟩,fun h1 h2 ⟨mA',⟨o',es',ep',ho',q⟩,r'⟩ k=>⟨mA',⟨o',es',ep',k _ ho',q⟩,r'⟩⟩
theorem XD {P:Program} {w:World} {H:Hp} {h:Heap} {dx:Addr} {fs:List (Str × V)} (x:gF P w H h) (q:H dx=some (xD dx fs)):∃mA,h.Ns1 dx mA∧(∀f,yT (fs.lookup f) (mA f))∧PySem.Within mA (fs.map (·.1)):=(x dx _ q).1
section
variable {X:Cx} {pins:List (Addr × Obj)} {σ:St} {H:Hp} {s:Shared} {a C dx:Addr} {f:Str} {y:V} {u:Value} {o value:Expr} {ta tv:TE} {pos pos':Pos}
theorem nk {fs:List (Str × V)} {mA:Str→Option Value} (r:∀g,yT (fs.lookup g) (mA g)) (ry:RelV y u) (f:Str):∀g,yT ((qY f y fs).lookup g) ((fun z=>if z=f then some u else mA z) g):=fun g=>by
 rw[bt]
 by_cases q:g=f
 ·simp only[q,if_true];exact ry
 ·simp only[q,if_false];exact r g
theorem cF {fs:List (Str × V)} {mA:Str→Option Value} (wi:PySem.Within mA (fs.map (·.1))) (f:Str):PySem.Within (fun z=>if z=f then some u else mA z) ((qY f y fs).map (·.1)):=fun g hg=>by
 by_cases q:g=f
 ·rw[q];exact(yP f y fs).1
 ·refine(yP f y fs).2 g (wi g fun z=>hg ?_)
  show (if g=f then some u else mA g)=none
  rw[if_neg q];exact z
theorem Qi {A:Around} {E:Value→Shared→Prop} {Q:Unit→Shared→Prop} (I:Inv X pins σ H s) (e:H a=some (xN a C none)) (c:Xs X.K C) (n:qK X.K C f) (ry:RelV y u)
  (h:∀dx s',H dx=none→dx≠a→Inv X pins σ (upd (upd H dx (xD dx [(f,y)])) a (xN a C (some dx))) s'→Q () s'):wpAny (model X.prog X.w) A (setAttr (.ref a) f u) Q E s:=by
 obtain⟨vs,sl,he,hsz,h1,h2⟩:=QY I.jz e
 refine oM I.y7 c n he fun h' tk k1 k2 k3=>h s.heap.objs.size _ (I.jz.fresh (Nat.le_refl _)) (Nat.ne_of_gt (Heap.lt_size he)) ?_
 have hax:a≠s.heap.objs.size:=Nat.ne_of_lt (Heap.lt_size he)
 have k2':=k2
 obtain⟨od,es,ep,ho,hd,hr⟩:=k2'
 have nf:od.isFreed=false:=(Heap.get?_some_iff.mp ho).2
 have g1:(s.heap.push od).get? s.heap.objs.size=some od:=Heap.get?_push_size _ nf
 have n1:(s.heap.push od).Ns1 s.heap.objs.size (fun z=>if z=f then some u else none):=⟨od,es,ep,g1,hd,hr⟩
 have r0:∀g,yT (List.lookup g ([(f,y)]:List (Str × V))) ((fun z=>if z=f then some u else none) g):=nk (fs:=[]) (mA:=fun _=>none) (fun _=>True.intro) ry f
 have w0:PySem.Within (fun z=>if z=f then some u else none) (([(f,y)]:List (Str × V)).map (·.1)):=cF (fs:=[]) (mA:=fun _=>none) (y:=y) (fun g hg=>absurd rfl hg) f
 have I1:=I.laid (a:=s.heap.objs.size) (o:=xD s.heap.objs.size [(f,y)]) (h':=s.heap.push od) (t':=s.toks) (fun b q z=>Heap.get?_push_of_some _ z) (Nat.le_refl _) (XS n1 r0 w0)
 refine I1.write (x:=a) (e:=a) (h':=h') (t':=tk) (by rw[qW hax,e];exact True.intro) (.inl rfl) (fun b q hb z=>?_) ⟨_,k1⟩ (XZ ⟨vs,sl,k1,hsz,h1,h2⟩)
 by_cases qb:b=s.heap.objs.size
 ·subst qb
  rw[show (s.heap.push od).get? s.heap.objs.size=some od from g1] at z
  cases z
  exact ho
 ·refine k3 b q hb ?_
  rwa [Heap.get?_push_ne _ _ _ qb] at z
theorem Q1 {A:Around} {E:Value→Shared→Prop} {Q:Unit→Shared→Prop} {fs:List (Str × V)} (I:Inv X pins σ H s) (e:H a=some (xN a C (some dx))) (ed:H dx=some (xD dx fs)) (c:Xs X.K C) (n:qK X.K C f) (hl:fs.length≤900) (ry:RelV y u)
  (h:∀s',Inv X pins σ (upd H dx (xD dx (qY f y fs))) s'→Q () s'):wpAny (model X.prog X.w) A (setAttr (.ref a) f u) Q E s:=by
 obtain⟨vs,sl,he,hsz,h1,h2⟩:=QY I.jz e
 obtain⟨mA,n1,r1,w1⟩:=XD I.jz ed
 refine ag I.y7 c n he n1 w1 (by rw[List.length_map];omega) fun h' tk k1 k2=>h _ ?_
 have hd:∃o,h'.get? dx=some o:=let ⟨o,_,_,e',_⟩:=k1;⟨o,e'⟩
 exact I.write (x:=dx) (e:=dx) (by rw[ed];exact True.intro) (.inl rfl) (fun b q hb z=>(k2.2 b hb).trans z) hd (XS k1 (nk r1 ry f) (cF w1 f))
noncomputable def GX (K:PySem.W.Frag) (ta tv:TE) (f:Str):TS:=fun D σ H=>tv σ H fun y H1=>ta σ H1 fun x H2=>∃a C,x=.ref a∧Xs K C∧qK K C f∧
 ((H2 a=some (xN a C none)∧∀dx,H2 dx=none→dx≠a→D.nx σ (upd (upd H2 dx (xD dx [(f,y)])) a (xN a C (some dx))))∨
  (∃dx fs,H2 a=some (xN a C (some dx))∧H2 dx=some (xD dx fs)∧fs.length≤900∧D.nx σ (upd H2 dx (xD dx (qY f y fs)))))
theorem JY (ha:PE X o ta) (hv:PE X value tv) (hs:swapsWith value (some (.Attribute o f pos')) pos.line X.env=pure false):PS X (.Assign [.Attribute o f pos'] value pos) (GX X.K ta tv f):=by
 intro pins s σ H D I h
 refine plainObj_wpAny_Assign_Attribute (jO (hv pins s σ H _ I h) fun u s1 ⟨y,H1,I1,ry,q⟩=>jO (ha pins s1 σ H1 _ I1 q) fun ov s2 ⟨x,H2,I2,rx,a,C,ex,c,n,q2⟩=>?_) hs
 subst ex
 obtain rfl:ov=Value.ref a:=rx
 rcases q2 with ⟨e1,k⟩ | ⟨dx,fs,e1,e2,hl,k⟩
 ·exact Qi I2 e1 c n ry fun dx s3 hn hne I3=>⟨σ,_,I3,k dx hn hne⟩
 ·exact Q1 I2 e1 e2 c n hl ry fun s3 I3=>⟨σ,_,I3,k⟩
theorem cc:∀{l:List Value},qP l=true→l.contains (.type "ValueError")=true∧l.contains (.type "BaseException")=true∧l.contains (.type "AttributeError")=false∧l.contains (.type "NameError")=false
 | .ref c :: r,e=>by
  obtain⟨a,b,c,d⟩:=cc (l:=r) e
  exact⟨by rw[List.contains_cons,a,Bool.or_true],by rw[List.contains_cons,b,Bool.or_true],by rw[List.contains_cons,c];rfl,by rw[List.contains_cons,d];rfl⟩
 | [],e=>by simp [qP] at e
 | .type n :: r,e=>by
  have:(Value.type n :: r)=[.type "ValueError",.type "Exception",.type "BaseException",.type "object"]:=by simpa [qP] using e
  rw[this];decide
 | .none :: r,e=>by simp [qP] at e
 | .bool _ :: r,e=>by simp [qP] at e
 | .int _ _ :: r,e=>by simp [qP] at e
 | .str _ _ :: r,e=>by simp [qP] at e
 | .builtin _ :: r,e=>by simp [qP] at e
 | .float _ _ :: r,e=>by simp [qP] at e
noncomputable def y8 (K:PySem.W.Frag) (C:Addr):Bool:=match K.lookup C with
 | some ⟨c,_,.cls cd,sl⟩=>c == .type "type" && cd.mro.head? == some (.ref C) && qP cd.mro && !cd.hasDel && sl.size == 6 && sl[4]? == some (some (.builtin "ValueError.__new__"))
 | _=>false
theorem Z1 {K : PySem.W.Frag} {h : Heap} (x : K.In h) (e : y8 K C = true) : ∃ n1 n2 N l1 bm b1 l2 l3 b2 c1 d1 v0 v1 v2 v3 v5, h.get? C = some (excClassObj n1 n2 C N l1 bm b1 l2 l3 b2 c1 d1 v0 v1 v2 v3 v5 "ValueError.__new__") ∧ qP (.ref C :: bm) = true := by
  unfold y8 at e
  split at e
  · rename_i c dd cd sl hk
    simp only [Bool.and_eq_true, beq_iff_eq, Bool.not_eq_true'] at e
    obtain ⟨⟨⟨⟨⟨rfl, hm⟩, hv⟩, hdel⟩, hsz⟩, h4⟩ := e
    rcases cd with ⟨n1, l1, mro, N, n2, b1, l2, l3, b2, c1, del⟩
    cases hdel
    cases mro with
    | nil => cases hm
    | cons m bm =>
      cases hm
      obtain ⟨v0, v1, v2, v3, v5, hl⟩ := six_places (l := sl.toList) (v := some (.builtin "ValueError.__new__")) (by simpa using hsz) (by simpa using h4)
      cases sl
      cases hl
      exact ⟨n1, n2, N, l1, bm, b1, l2, l3, b2, c1, dd, v0, v1, v2, v3, v5, x _ _ hk, hv⟩
  · cases e
noncomputable def Vi (C:Addr) (o:Obj):Bool:=match o with
 | ⟨c,_,.cls cd,sl⟩=>c == .type "type" && cd.mro.head? == some (.ref C) && qP cd.mro && !cd.hasDel && sl.size == 6 && sl[4]? == some (some (.builtin "ValueError.__new__")) && cd.hasDict
 | _=>false
theorem Qv {K:PySem.W.Frag} {o:Obj} (l:K.lookup C=some o) (h:Vi C o=true):y8 K C=true:=by
 unfold Vi at h
 split at h
 ·unfold y8
  rw[l]
  exact(Bool.and_eq_true_iff.mp h).1
 ·cases h
theorem JO {K:PySem.W.Frag} {o:Obj} (l:K.lookup C=some o) (h:Vi C o=true):(PySem.W.clsIn K C).any (fun cd=>qP cd.mro && cd.hasDict)=true:=by
 unfold Vi at h
 split at h
 ·rename_i c d cd sl
  unfold PySem.W.clsIn
  rw[l]
  simp only[Bool.and_eq_true] at h;simp [h.1.1.1.1.2,h.2]
 ·cases h
theorem K2 {K:PySem.W.Frag} {P:Addr} {c:Value} {b:Bool} (hx:y8 K P=true) (hs:PySem.W.subIn K (.ref P) (.type "BaseException")=some true) (ht:PySem.W.typeIn K (.ref P)=some (.type "type")) (hk:PySem.W.subIn K c (.ref P)=some b):PySem.W.exmOne K c (.ref P)=some b:=by
 have hc:(PySem.W.clsIn K P).isSome=true:=by
  unfold y8 at hx
  unfold PySem.W.clsIn
  split at hx
  ·rename_i l
   rw[l];rfl
  ·cases hx
 unfold PySem.W.exmOne PySem.W.kitCls
 simp [hs,ht,hk,hc]
section
open PySem.W
variable {w : World} {A : Around} {E : Value → Shared → Prop} {h : Heap} {g : Array GenState} {dr : Drawn} {t : Nat} {os : OsState} {prog : Program} {M : Model} {C : Addr}
/-- what a class of exceptions of ours, made by ValueError, answers to the asking for it -/
structure Xcl (M : Model) (h : Heap) (C : Addr) : Prop where
  obj : ∃ n1 n2 N l1 bm b1 l2 l3 b2 c1 d1 v0 v1 v2 v3 v5, h.get? C = some (excClassObj n1 n2 C N l1 bm b1 l2 l3 b2 c1 d1 v0 v1 v2 v3 v5 "ValueError.__new__")
  made : Looks M h (Bind.madeBy (.ref C)) (some "ValueError.__new__")
  base : Looks M h (Bind.staticBase (.ref C)) (.ref C)
  here : Looks M h (Bind.madeHere "BaseException.__new__" (.ref C)) ()
  val : Looks M h (isSubtype (.ref C) (.type "ValueError")) true
  exc : Looks M h (isSubtype (.ref C) (.type "BaseException")) true
  att : Looks M h (isSubtype (.ref C) (.type "AttributeError")) false
  nam : Looks M h (isSubtype (.ref C) (.type "NameError")) false
  self : Looks M h (isSubtype (.ref C) (.ref C)) true
theorem xcl_looks {K : Frag} (X : K.In h) (e : y8 K C = true) : Xcl M h C := by
  obtain ⟨n1, n2, N, l1, bm, b1, l2, l3, b2, c1, d1, v0, v1, v2, v3, v5, hC, hv⟩ := Z1 X e
  obtain ⟨a1, a2, a3, a4⟩ := cc hv
  have on : ∀ b r, (Value.ref C :: bm).contains b = r → Looks M h (isSubtype (.ref C) b) r := fun b r er A Q E s k q => wpAny_isSubtype_exc (k _ _ hC) (er ▸ q)
  exact ⟨⟨n1, n2, N, l1, bm, b1, l2, l3, b2, c1, d1, v0, v1, v2, v3, v5, hC⟩, fun A Q E s k q => wpAny_madeBy_exc (k _ _ hC) q, fun A Q E s k q => wpAny_staticBase_exc (k _ _ hC) q, fun A Q E s k q => wpAny_madeHere_exc PySem.F.excBase_ValueError.canon (k _ _ hC) q, on _ _ a1, on _ _ a2, on _ _ a3, on _ _ a4, on _ _ (by simp)⟩
theorem Xcl.keeps {h' : Heap} (x : Xcl M h C) (k : ∀ b o, h.get? b = some o → h'.get? b = some o) : Xcl M h' C := by
  obtain ⟨n1, n2, N, l1, bm, b1, l2, l3, b2, c1, d1, v0, v1, v2, v3, v5, hC⟩ := x.obj
  exact ⟨⟨n1, n2, N, l1, bm, b1, l2, l3, b2, c1, d1, v0, v1, v2, v3, v5, k _ _ hC⟩, x.made.keeps k, x.base.keeps k, x.here.keeps k, x.val.keeps k, x.exc.keeps k, x.att.keeps k, x.nam.keeps k, x.self.keeps k⟩
theorem Xcl.new_may (x : Xcl M h C) {rest : List Value} {Q : Unit → Shared → Prop} (q : Q () ⟨h, g, dr, t, os⟩) : wpAny M A (checkBuiltinCall "ValueError.__new__" ⟨.ref C :: rest, []⟩) Q E ⟨h, g, dr, t, os⟩ := by
  have F := PySem.F.excBase_ValueError
  have star := F.noStar
  obtain ⟨x1, x2, x3⟩ : _ ∧ _ ∧ _ := ⟨x.made, x.base, x.val⟩
  obtain ⟨_, _, _, _, _, _, _, _, _, _, _, _, _, _, _, _, hC⟩ := x.obj
  simp only [checkBuiltinCall, F.newKind, F.newSplit, F.newRow]
  repeat first | with_reducible refine wpAny_loadPart_at hC ?_ | simp only [bne_self_eq_false, Bool.false_eq_true, if_false, Bool.not_true] | with_reducible refine Looks.here (by assumption) ?_ | wp_step
  exact q
/-- the two things that are made: its args, and it -/
abbrev argsObj (rest : List Value) : Obj := { cls := .type "tuple", data := .seq rest.toArray }
abbrev excObj (C T : Addr) : Obj := { cls := .ref C, data := .fields #[.ref T, .none, .none, .none, .bool false, .none] }
theorem Xcl.new {R : Result → Shared → Prop} (x : Xcl (model prog w) h C) {rest : List Value} (lV : rest.length ≤ sizeLine)
    (q : R (.ok (.ret (.ref (h.objs.size + 1)))) ⟨(h.push (argsObj rest)).push (excObj C h.objs.size), g, dr, t, os⟩) : codeAny (model prog w) A (.builtin "ValueError.__new__" ⟨.ref C :: rest, []⟩) R ⟨h, g, dr, t, os⟩ := by
  have F := PySem.F.excBase_ValueError
  have ends := F.ends
  obtain ⟨_, _, _, _, _, _, _, _, _, _, _, _, _, _, _, _, hC⟩ := x.obj
  obtain ⟨x1, x2, x3, x4⟩ : _ ∧ _ ∧ _ ∧ _ := ⟨x.here, x.att, x.nam, x.val⟩
  refine codeAny_builtinAt F.entry ?_
  unfold Builtin.«BaseException.__new__»
  refine PySem.wpAt_bind (?_ : PySem.wpAt _ _ _ (stack >>= _) _ _ _)
  refine PySem.wpAt_bind (PySem.wpAt_stack fun p below => PySem.wpAt_of_wpAny ?_)
  wp_walk
  refine PySem.wpAt_of_wpAny (F.owner.symm ▸ ?_)
  repeat first | with_reducible refine wpAny_loadPart_at hC ?_ | with_reducible refine Looks.here (by assumption) ?_ | wp_step
  rw [← Heap.size_push] at q
  exact q
/-- C(rest): a new exception, and its own __init__ -/
theorem Xcl.make (x : Xcl (model prog w) h C) {rest : List Value} {init : Value} {Q : Value → Shared → Prop} (lV : rest.length ≤ sizeLine) (hi : Looks (model prog w) h (typeLookup (.ref C) "__init__") (some init)) (hb : ∀ v, Looks (model prog w) h (bindSpecial init v) (init, [v]))
    (go : wpAny (model prog w) (A.under (.builtin "type.__call__" ⟨.ref C :: rest, []⟩)) (call init (.ref (h.objs.size + 1) :: rest)) (fun r s' => r = .none ∧ Q (.ref (h.objs.size + 1)) s') E ⟨(h.push (argsObj rest)).push (excObj C h.objs.size), g, dr, t, os⟩) :
    wpAny (model prog w) A (call (.ref C) rest) Q E ⟨h, g, dr, t, os⟩ := by
  have F := PySem.F.excBase_ValueError
  obtain ⟨_, _, _, _, _, _, _, _, _, _, _, _, _, _, _, _, hC⟩ := x.obj
  have ty : Shared.TypeIs ⟨h, g, dr, t, os⟩ (.ref C) "type" := ⟨_, hC, rfl⟩
  obtain ⟨c1, c2⟩ : _ ∧ _ := ⟨tc_lookup, tc_bind (.ref C)⟩
  refine wpAny_call (codeAny_of_tree (?_ : wpAny _ _ (callAny (.ref C) _) _ _ _))
  repeat any_goals first | assumption | with_reducible refine wpAny_loadPart_at hC ?_ | wp_step
  refine ⟨rfl, codeAny_call_builtin_at (Code.quiet_builtin _ (by decide +kernel)) entry_typeCall (wpAny_check_type_call_sub hC ?_)⟩
  have made := x.made
  repeat first | with_reducible refine wpAny_loadPart_at hC ?_ | with_reducible refine Looks.here made ?_ | wp_step
  refine codeAny_call_builtin_code (Code.quiet_builtin _ F.quiet) (x.new_may (x.new lV (?_ : wpAny _ _ _ _ _ ⟨(h.push (argsObj rest)).push (excObj C h.objs.size), g, dr, t, os⟩)))
  have up : ∀ b o, h.get? b = some o → ((h.push (argsObj rest)).push (excObj C h.objs.size)).get? b = some o := fun b o e => Heap.get?_push_of_some _ (Heap.get?_push_of_some _ e)
  have new : ((h.push (argsObj rest)).push (excObj C h.objs.size)).get? (h.objs.size + 1) = some (excObj C h.objs.size) := Heap.get?_push_at (Heap.size_push ..).symm rfl
  obtain ⟨y1, y2, y3⟩ : _ ∧ _ ∧ _ := ⟨x.self.keeps up, hi.keeps up, (hb (.ref (h.objs.size + 1))).keeps up⟩
  generalize (h.push (argsObj rest)).push (excObj C h.objs.size) = h2 at go new y1 y2 y3
  unfold isInstance
  repeat first | with_reducible refine wpAny_loadPart_at new ?_ | with_reducible refine Looks.here y1 ?_ | wp_step
  refine (?_ : wpAny _ _ (typeLookup (.ref C) _) _ _ _)
  refine y2.here ?_
  refine wpAny_holding (wpAny_bind ?_)
  refine y3.here ?_
  refine wpAny_bind (jO go fun r s' z => ?_)
  obtain ⟨rfl, z⟩ := z
  wp_walk
  exact z
theorem born (h : Heap) (C : Addr) (rest : List Value) : Heap.MadeExcOf h ((h.push (argsObj rest)).push (excObj C h.objs.size)) (h.objs.size + 1) (.ref C) rest where
  keeps := fun b o e => Heap.get?_push_of_some _ (Heap.get?_push_of_some _ e)
  new := Heap.get?_none_of_le (Nat.le_succ _)
  there := ⟨h.objs.size, Heap.get?_push_at (Heap.size_push ..).symm rfl, Heap.get?_none_of_le (Nat.le_refl _), Heap.get?_push_of_some _ (Heap.get?_push_at rfl rfl)⟩
/-- the __init__ that every ValueError has, of no args: its args are told anew -/
theorem bare_init {e T : Addr} {Q : Value → Shared → Prop} (x : Xcl (model prog w) h C) (ge : h.get? e = some (excObj C T)) (q : Q .none ⟨(h.push (argsObj [])).update e (Obj.mapFields (·.setIfInBounds 0 (.ref h.objs.size))), g, dr, t, os⟩) :
    wpAny (model prog w) A (call (.builtin "ValueError.__init__") [.ref e]) Q E ⟨h, g, dr, t, os⟩ := by
  have F := PySem.F.excBase_ValueError
  have is : Looks (model prog w) h (isInstance (.ref e) (.type "ValueError")) true := ((Looks.ld ge).andThen .now).andThen x.val
  have star := F.noStar
  have may : ∀ {Q1 : Unit → Shared → Prop} {E1 : Value → Shared → Prop} {A1 : Around}, Q1 () ⟨h, g, dr, t, os⟩ → wpAny (model prog w) A1 (checkBuiltinCall "ValueError.__init__" ⟨[.ref e], []⟩) Q1 E1 ⟨h, g, dr, t, os⟩ := fun q1 => by
    obtain ⟨_, _, _, _, _, _, _, _, _, _, _, _, _, _, _, _, hC⟩ := x.obj
    have val := x.val
    simp only [checkBuiltinCall, F.initKind, F.initSplit, F.initRow]
    repeat first | with_reducible refine Looks.here is ?_ | with_reducible refine wpAny_loadPart_at ge ?_ | with_reducible refine wpAny_loadPart_at hC ?_ | wp_step
    exact q1
  refine wpAny_call (codeAny_call_builtin F.init.plain F.initEntry (may ?_))
  repeat first | with_reducible refine wpAny_loadPart_at ge ?_ | wp_step

  exact q
end
structure YT (K:PySem.W.Frag) (C f:Addr):Prop where
 xc:y8 K C=true
 init:PySem.W.findIn K (.ref C) "__init__" = some (some (.ref f))
 fn:PySem.W.isFn K (.ref f)=true
 kp:PySem.W.keepIn K (.ref C)=true
section
variable {CX:uX} {k:Nat} {fI:Addr} {fd:FuncData} {ps:List Str} {sp:Sp} {dvs vs:List V} {ds us:List Value} {E:XK} {Q:VK} {x:Str} {p:Pos} {e:Expr} {es:List Expr} {t:TA}
theorem J5 {h h':Heap} {e:Addr} {args:List Value} (m:Heap.MadeExcOf h h' e (.ref C) args):dk h' e C none .none:=by
 obtain⟨t,he,_⟩:=m.there
 exact⟨_,_,he,rfl,rfl,rfl⟩
theorem aw (M : YT X.K C fI) (F : qJ X.prog X.w X.K X.mg X.base CX k fI fd ps sp) (hr : kc (k + 1) X.A) (hb : Binds X.K fd ps ds) (hd : Vals dvs ds) (hx : Passes CX X E) (I : Inv X pins σ H s) (r : Vals vs us) (hz : vs.length ≤ sizeLine)
    (h : ∀ a, H a = none → sp (.ref a :: (vs ++ dvs)) (upd H a (xN a C none)) (fun v H2 => v = .non ∧ Q (.ref a) H2) E) : wpAny (model X.prog X.w) X.A (call (.ref C) us) (EP X pins σ Q) X.xe s := by
  have a7 := I.y7
  rcases s with ⟨hp, g, d, tk, os⟩
  refine (xcl_looks a7 M.xc).make (by rw [← r.length]; exact hz) (PySem.W.looks_findIn a7 M.init) (fun v => PySem.W.bind_fn a7 v (beq_iff_eq.mp M.fn)) ?_
  have hm := born hp C us
  have hn : hp.objs.size ≤ hp.objs.size + 1 := Nat.le_succ _
  generalize (hp.push (argsObj us)).push (excObj C hp.objs.size) = h', hp.objs.size + 1 = e at hm hn
  have hq := h e (I.jz.fresh hn)
  have I2 : Inv X pins σ (upd H e (xN e C none)) ⟨h', g, d, tk, os⟩ := I.laid (a := e) (o := xN e C none) (h' := h') (t' := tk) hm.keeps hn (XZ (J5 hm))
  have r2 : Vals (V.ref e :: (vs ++ dvs)) (Value.ref e :: (us ++ ds)) := .cons rfl (r.append hd)
  have hl : (Value.ref e :: us ++ ds).length = ps.length := by
    have e' := r2.length
    rw [F.len _ _ _ _ hq] at e'
    exact e'.symm
  refine wpAny_call (codeAny_mono (F.run _ X.stack _ _ ⟨Value.ref e :: us, []⟩ (Value.ref e :: (us ++ ds)) _ _ E (hr.make C us []) (I2.JG.make C us []) (hb _ (Value.ref e :: us) I2.y7 hl) r2 hq) fun r s' hq' => ?_)
  cases r with
  | error e' => exact hx pins σ _ _ e' s' I2 hq'
  | ok fl =>
    cases fl with
    | ret u =>
      obtain ⟨v, H', I3, rv, ev, q3⟩ := I2.after hq'
      subst ev
      exact ⟨rv, ⟨V.ref e, H', I3, rfl, q3⟩⟩
    | next => exact False.elim hq'
    | brk => exact False.elim hq'
    | cont => exact False.elim hq'
noncomputable def Vp (C:Addr) (sp:Sp) (dvs:List V) (E:XK) (t:TA):TE:=fun σ H Q=>t σ H fun vs H1=>vs.length≤sizeLine∧∀a,H1 a=none→sp (.ref a :: (vs ++ dvs)) (upd H1 a (xN a C none)) (fun v H2=>v=.non∧Q (.ref a) H2) E
theorem yR {pos:Pos} (M:YT X.K C fI) (F:qJ X.prog X.w X.K X.mg X.base CX k fI fd ps sp) (hr:kc (k + 1) X.A) (hg:Gl X x) (hm:X.mg x=some (.ref C)) (hb:Binds X.K fd ps ds) (hd:Vals dvs ds) (hx:Passes CX X E)
  (ha:PA X (e :: es) t) (hdb:(x == ("__debug__" : Str))=false:=by decide) (he:starEach (e :: es) X.env=(false,eval e X.env) :: starEach es X.env:=by rfl) (hpl:(backTo pos (starEach es X.env)).any (·.1)=false:=by rfl) :
  PE X (.Call (.Name x p) (e :: es) [] pos) (Vp C sp dvs E t):=by
 intro pins s σ H Q I h
 refine wpAny_Call_Name_kw (yX I hg hm ?_ hdb)
 refine PySem.W.callWith_K (h₀:=X.base) I.ok.mod.a7 M.kp (jO (ha pos pins s σ H _ I h) fun us s1 ⟨vs,H1,I1,r,hz,q⟩=>⟨I1.y7,?_⟩) he hpl
 exact aw M F hr hb hd hx I1 r hz q
structure GH (K:PySem.W.Frag) (C:Addr):Prop where
 xc:y8 K C=true
 init:PySem.W.findIn K (.ref C) "__init__" = some (some (.builtin "ValueError.__init__"))
 kp:PySem.W.keepIn K (.ref C)=true
noncomputable def WT (C:Addr):TE:=fun _ H Q=>∀a,H a=none→Q (.ref a) (upd H a (xN a C none))
end
end
end L2
namespace L2
open PyProof.Rows PySem PySem.Spec
section
variable {X:Cx} {pins:List (Addr × Obj)} {σ:St} {H:Hp} {s:Shared} {a C:Addr} {d:Option Addr} {e:Expr} {te:TE} {pos:Pos} {E:XK}
theorem J1 {K : PySem.W.Frag} {M : Model} {A : Around} {EE : Value → Shared → Prop} {env : Env} {x : Sem Value} {Q : Flow → Shared → Prop} (hh : A.handled = none)
    (h : wpAny M A x (fun v s1 => ∃ e C d, v = .ref e ∧ K.In s1.heap ∧ y8 K C = true ∧ dk s1.heap e C d .none ∧ EE (.ref e) s1) EE s) : wpAny M A (raiseStmt env (some x) none) Q EE s := by
  unfold raiseStmt
  refine wpAny_bind (wpAny_mono h (fun v s1 h1 => ?_) fun _ _ z => z)
  obtain ⟨e, C, d, rfl, a7, hk, ⟨vs, sl, he, hsz, h1, h2⟩, hE⟩ := h1
  have x := (xcl_looks (M := M) a7 hk).exc
  obtain ⟨_, _, _, _, _, _, _, _, _, _, _, _, _, _, _, _, hC⟩ := (xcl_looks (M := M) a7 hk).obj
  rcases s1 with ⟨hp, g, dr, tk, os⟩
  (repeat first | with_reducible refine wpAny_loadPart_at he ?_ | with_reducible refine wpAny_loadPart_at hC ?_ | with_reducible refine PySem.W.Looks.here x ?_ | wp_step); rw [h1]
  refine wpAny_pure ?_
  rw [if_neg (by decide)]
  exact wpAny_pure (wpAny_raiseNew_none hh hE)
noncomputable def Raises (X:Cx) (E:XK):Prop:=∀(pins:List (Addr × Obj)) (σ:St) (H:Hp) (s:Shared) (a C:Addr) (d:Option Addr),Inv X pins σ H s→H a=some (xO a C d)→dk s.heap a C d .none→E (.ref C) (some a) H→X.xe (.ref a) s
theorem pQ {P:Program} {w:World} {K:PySem.W.Frag} {mg:Str→Option Value} {base:Heap} {N:List Str} {qual:Str} {scope:Scope} {f:Addr} {cd:Value} {A:Around} {outer:List Env} {s:Shared} {H:Hp} {E:XK}:Raises (lz (si P w) P w K mg base N qual scope f cd A outer s H E) E:=
 fun _ _ _ _ _ _ _ I ha hx hE=>I.KL rfl rfl rfl ha hx hE
noncomputable def Ku (K:PySem.W.Frag) (E:XK) (te:TE):TS:=fun _ σ H=>te σ H fun v H1=>∃a C d,v=.ref a∧y8 K C=true∧H1 a=some (xN a C d)∧E (.ref C) (some a) (upd H1 a (xO a C d))
theorem gz (hX:Raises X E) (hc:X.calm=true) (he:PE X e te):PS X (.Raise (some e) none pos) (Ku X.K E te):=by
 intro pins s σ H D I h
 rw[arm_exec_Raise]
 refine wpAny_bind (wpAny_standAt (J1 (K:=X.K) (I.ok.hd hc) ?_))
 refine wpAny_bind (jO (he pins s σ H _ I h) fun u s1 ⟨v,H1,I1,rv,a,C,d,ev,hk,ha,hE⟩=>wpAny_bind (wpAny_standAt (wpAny_pure ?_)))
 subst ev
 obtain rfl:u=Value.ref a:=rv
 have hx:=QY I1.jz ha
 obtain⟨vs,sl,hg,r⟩:=id hx
 have I2:Inv X pins σ (upd H1 a (xO a C d)) s1:=I1.write (x:=a) (e:=a) (h':=s1.heap) (t':=s1.toks) (by rw[ha];exact True.intro) (.inl rfl) (fun b q _ z=>z) ⟨_,hg⟩ (XN hx)
 exact⟨a,C,d,rfl,I1.y7,hk,hx,hX pins σ _ s1 a C d I2 qw hx hE⟩
end
end L2
namespace L2
open PyProof.Rows PySem PySem.Spec
section
variable {X:Cx} {pins:List (Addr × Obj)} {σ:St} {H:Hp} {s:Shared} {a C:Addr} {d:Option Addr} {E Eh:XK}
noncomputable def Zc (X:Cx) (pins:List (Addr × Obj)) (σ:St) (Eh:XK) (ex:Value) (s':Shared):Prop:=∃a C d T H',ex=.ref a∧Inv X pins σ H' s'∧Kq a C d X.s₀.heap.objs.size H' s'.heap T∧(∀p∈X.pn ++ pins,p.1≠T)∧Eh (.ref C) (some a) H'
theorem Inv.K7 {e:Value} {s':Shared} (I:Inv X pins σ H s) (h:si X.prog X.w X.stack H s E e s'):Zc X pins σ E e s':=by
 obtain⟨a,C,d,T,H',rfl,os,bare,un,jz,F,q⟩:=h
 refine⟨a,C,d,T,H',rfl,I.nW os (ch:=[]) un jz bare (fun b z=>absurd z (by simp)),⟨F.at',F.tr,F.ne,Nat.le_trans I.sz F.new,F.free,F.is⟩,fun p hp=>?_,q⟩
 exact Nat.ne_of_lt (Nat.lt_of_lt_of_le (Heap.lt_size (I.pin p hp).1) F.new)
noncomputable def YW (X:Cx) (Eh:XK) (e:Expr) (te:TE):Prop:=∀(pins:List (Addr × Obj)) (s:Shared) (σ:St) (H:Hp) (Q:VK),Inv X pins σ H s→te σ H Q→wpAny (model X.prog X.w) X.A (eval e X.env) (EP X pins σ Q) (Zc X pins σ Eh) s
section
variable {k:Nat} {f:Addr} {fd:FuncData} {ps:List Str} {sp:Sp} {dvs:List V} {ds:List Value} {x:Str} {p pos:Pos} {e:Expr} {es:List Expr} {t:TA}
theorem JC {Q:VK} {us:List Value} {vs:List V} (F:qJ X.prog X.w X.K X.mg X.base (si X.prog X.w) k f fd ps sp) (hr:kc k X.A) (hb:Binds X.K fd ps ds) (hd:Vals dvs ds)
  (I:Inv X pins σ H s) (r:Vals vs us) (h:sp (vs ++ dvs) H Q Eh):wpAny (model X.prog X.w) X.A (call (.ref f) us) (EP X pins σ Q) (Zc X pins σ Eh) s:=by
 have r2:Vals (vs ++ dvs) (us ++ ds):=r.append hd
 have hl:(us ++ ds).length=ps.length:=by rw[←r2.length];exact F.len _ _ _ _ h
 refine wpAny_call (codeAny_mono (F.run X.A X.stack s H ⟨us,[]⟩ (us ++ ds) (vs ++ dvs) Q Eh hr I.JG (hb s us I.y7 hl) r2 h) fun r s' hq=>?_)
 cases r with
 | error e=>exact I.K7 hq
 | ok fl=>
  cases fl with
  | ret u=>exact I.after hq
  | next=>exact False.elim hq
  | brk=>exact False.elim hq
  | cont=>exact False.elim hq
theorem Q0 (hxe:∀e s,X.xe e s→False) (F:qJ X.prog X.w X.K X.mg X.base (si X.prog X.w) k f fd ps sp) (hr:kc k X.A) (hg:Gl X x) (hm:X.mg x=some (.ref f)) (hk:PySem.W.keepIn X.K (.ref f)=true) (hb:Binds X.K fd ps ds) (hd:Vals dvs ds)
  (ha:PA X (e :: es) t) (hdb:(x == ("__debug__" : Str))=false:=by decide) (he:starEach (e :: es) X.env=(false,eval e X.env) :: starEach es X.env:=by rfl) (hpl:(backTo pos (starEach es X.env)).any (·.1)=false:=by rfl) :
  YW X Eh (.Call (.Name x p) (e :: es) [] pos) (QX sp dvs Eh t):=by
 intro pins s σ H Q I h
 refine wpAny_Call_Name_kw (yX I hg hm ?_ hdb)
 refine PySem.W.callWith_K (h₀:=X.base) I.ok.mod.a7 hk (wpAny_mono (ha pos pins s σ H _ I h) (fun us s1 ⟨vs,H1,I1,r,q⟩=>⟨I1.y7,?_⟩) fun e s z=>(hxe e s z).elim) he hpl
 exact JC F hr hb hd I1 r q
end
theorem Inv.Gv {h':Heap} {ch:List Addr} {tb:Value} (I:Inv X pins σ H s) (t:fc (sy X.stack) ch s.heap h') (ha:H a=some (xO a C d)) (hx:dk h' a C d tb)
  (hc:∀b∈ch,b=a∨s.heap.objs.size≤b∨(H b=none∧X.s₀.heap.objs.size≤b∧(∃fl,a8 s.heap b fl)∧∀p∈X.pn ++ pins,p.1≠b)):Inv X pins σ H { s with heap:=h' }:=by
 have hn:∀b∈ch,b=a∨H b=none:=fun b hb=>by
  rcases hc b hb with q | q | q
  ·exact .inl q
  ·exact .inr (I.jz.fresh q)
  ·exact .inr q.1
 have jz:gF X.prog X.w H h':=sj I.jz t I.pX hn ha hx
 have nch:∀b o,s.heap.get? b=some o→H b=none→b∉ch.filter (fun b=>decide (b≠a∧b < s.heap.objs.size))→b∉ch:=fun b o e n hb z=>by
  refine hb (List.mem_filter.mpr ⟨z,decide_eq_true ⟨fun q=>?_,Heap.lt_size e⟩⟩)
  rw[q,ha] at n
  cases n
 have u:Un (sy X.stack) (ch.filter (fun b=>decide (b≠a∧b < s.heap.objs.size))) H H s.heap h':=by
  refine⟨fun b o e n hf hx=>t.keep b o e hf (nch b o e n hx),fun b o e n hf hx=>t.slot b o e hf (nch b o e n hx),fun _ _ _ n _=>n,fun b o e _=>t.there b o e,fun _ _ z=>z,fun _ _ _ z=>z,fun _ ps z=>⟨#[],by rw[z];simp⟩⟩
 refine I.nW (s':={ s with heap:=h' }) rfl u jz I.bare fun b hb=>?_
 obtain⟨hb,hb2⟩:=List.mem_filter.mp hb
 have hb2:=of_decide_eq_true hb2
 rcases hc b hb with q | q | ⟨q1,q2,⟨fl,oT,ts,q3,q4,q5⟩,q6⟩
 ·exact absurd q hb2.1
 ·exact absurd hb2.2 (Nat.not_lt.mpr q)
 ·refine⟨.inr q2,fun z=>?_,fun x c e z=>?_,q6⟩
  ·obtain⟨m,⟨o,es,ep,ho,hd,_⟩,_⟩:=I.loc
   rw[←z,q3] at ho
   cases ho
   rw[q4] at hd
   cases hd
  ·obtain⟨v,hv⟩:=I.cell x c e
   rw[z] at hv
   obtain⟨o,ho,hd⟩:=hv
   rw[q3] at ho
   cases ho
   rw[q4] at hd
   cases hd
theorem Inv.lands {M:Model} {A:Around} {EE:Value→Shared→Prop} {T:Addr} {fl:Value} {Q:Unit→Shared→Prop} (I:Inv X pins σ H s) (ha:H a=some (xO a C d)) (hx:dk s.heap a C d (.ref T)) (ht:a8 s.heap T fl) (hne:T≠a) (hT:H T=none) (hn:X.s₀.heap.objs.size≤T) (hp:∀p∈X.pn ++ pins,p.1≠T)
  (hQ:∀h',Inv X pins σ H { s with heap:=h' }→Kq a C d X.s₀.heap.objs.size H h' T→Q () { s with heap:=h' }):wpAny M A (setFlight (.ref a) none) Q EE s:=by
 refine land hx ht hne fun h' k1 k2 k3=>hQ h' (I.Gv (k3 _) ha k1 fun b hb=>?_) ⟨k1,k2,hne,hn,hT,ha⟩
 rw[List.mem_singleton.mp hb]
 exact .inr (.inr ⟨hT,hn,⟨fl,ht⟩,hp⟩)
theorem Inv.Vd {M:Model} {EE:Value→Shared→Prop} {T:Addr} {Q:Unit→Shared→Prop} (I:Inv X pins σ H s) (hst:X.stack=X.env :: X.outer) (hf:X.env.frame=some X.env.locals) (F:Kq a C d X.s₀.heap.objs.size H s.heap T) (hp:∀p∈X.pn ++ pins,p.1≠T)
  (hQ:∀h' T',Inv X pins σ H { s with heap:=h' }→Kq a C d X.s₀.heap.objs.size H h' T'→(∀p∈X.pn ++ pins,p.1≠T')→Q () { s with heap:=h' }) :
  wpAny M X.A (noteFrame (.ref a) X.env) (fun _ s2=>wpAny M X.A (setFlight (.ref a) none) Q EE s2) EE s:=by
 have hfr:=I.ok.frames
 have hst':=I.stack
 rw[hst] at hfr hst'
 refine rY hfr hst' hf F.at' F.tr F.ne fun h1 T1 k1 k2 k3 k4=>?_
 have hne:T1≠a:=Nat.ne_of_gt (Nat.lt_of_lt_of_le (I.jz.lt F.is) k1)
 have hT1:H T1=none:=I.jz.fresh k1
 have k4':fc (sy X.stack) [a,T] s.heap h1:=by rw[hst];exact k4
 have I1:Inv X pins σ H { s with heap:=h1 }:=I.Gv k4' F.is k2 fun b hb=>by
  simp only[List.mem_cons,List.not_mem_nil,or_false] at hb;rcases hb with rfl | rfl
  ·exact .inl rfl
  ·exact .inr (.inr ⟨F.free,F.new,⟨_,F.tr⟩,hp⟩)
 have hp1:∀p∈X.pn ++ pins,p.1≠T1:=fun p hp=>Nat.ne_of_lt (Nat.lt_of_lt_of_le (Heap.lt_size (I.pin p hp).1) k1)
 exact I1.lands F.is k2 k3 hne hT1 (Nat.le_trans I.sz k1) hp1 fun h2 I2 F2=>hQ h2 T1 I2 F2 hp1
noncomputable def Cx.held (X:Cx) (a:Addr):Cx:={ X with A:=X.A.mark (some (.ref a)),calm:=false }
theorem Inv.held (I:Inv X pins σ H s) (a:Addr):Inv (X.held a) pins σ H s:=
 ⟨⟨I.ok.mod,I.ok.kind,I.ok.glob,I.ok.blt,I.ok.above,I.ok.inj,I.ok.has,I.ok.Vs,fun z=>(nomatch z),I.ok.frames,I.ok.VH,I.ok.Kc,I.ok.bs,I.ok.eP,I.ok.oI,I.ok.oQ,I.ok.m5,I.ok.XW⟩,I.os,I.bare,I.base,I.loc,I.cell,I.free,I.wR,I.pin,I.jz,I.len⟩
theorem Inv.lZ (ok:X.Ok) (I:Inv (X.held a) pins σ H s):Inv X pins σ H s:=⟨ok,I.os,I.bare,I.base,I.loc,I.cell,I.free,I.wR,I.pin,I.jz,I.len⟩
theorem Inv.gone {h':Heap} {t':Nat} {i:Nat} {n:Str} {v:Option Value} {m:Str→Option Value} (I:Inv X pins σ H s) (hN:X.N.Nodup) (hi:X.N[i]?=some n) (hl:∀(i:Nat) (x:Str) (v:V),X.N[i]?=some x→σ[i]?=some (some v)→WH X.env.scope x→∃u,RelV v u∧Look X.env s.heap m x u)
  (hn:h'.Ns X.env.locals (fun x=>if x=n then v else m x)) (hs:Heap.SameBut X.env.locals s.heap h'):Inv X pins (σ.set i none) H { s with heap:=h',toks:=t' }:=by
 have neL:∀b o,X.s₀.heap.get? b=some o→b≠X.env.locals:=fun b o e=>Nat.ne_of_lt (Nat.lt_of_lt_of_le (Heap.lt_size e) I.ok.above)
 have tr:∀b u,H b=some u→b≠X.env.locals:=fun b u e z=>by rw[z,I.free] at e;cases e
 have cl:∀x c,X.env.cells.lookup x=some c→c≠X.env.locals:=fun x c e=>I.Xl x c e
 have hcell:∀c v,c≠X.env.locals→s.heap.IsCell c v→h'.IsCell c v:=fun c v hc ⟨o,ho,hd⟩=>⟨o,(hs.2 c hc).trans ho,hd⟩
 refine⟨I.ok,I.os,I.bare,⟨fun b o e nn hb hx=>(hs.2 b (neL b o e)).trans (I.base.keep b o e nn hb hx),fun b o e nn hb hx=>?_,I.base.free,fun b o e hx=>?_,I.base.uG,I.base.cL,I.base.uU⟩,⟨_,hn,fun j x w e1 e2 e3=>?_⟩,fun x c e=>?_,I.free,I.wR,fun p hp=>?_,fun b u e=>?_,by rw[List.length_set];exact I.len⟩
 ·obtain⟨sl,q⟩:=I.base.slot b o e nn hb hx
  exact⟨sl,(hs.2 b (neL b o e)).trans q⟩
 ·obtain⟨o',q⟩:=I.base.there b o e hx
  exact⟨o',(hs.2 b (neL b o e)).trans q⟩
 ·have hij:i≠j:=fun z=>by
   subst z
   rw[List.getElem?_set] at e2
   split at e2
   ·split at e2<;>cases e2
   ·exact absurd rfl (by assumption)
  rw[List.getElem?_set_ne hij] at e2
  have hxn:x≠n:=fun z=>hij (mx hN hi (z▸e1))
  obtain⟨u,r,l⟩:=hl j x w e1 e2 e3
  refine⟨u,r,?_⟩
  rcases l with ⟨k,l⟩ | ⟨k,c,e,z⟩
  ·exact .inl ⟨k,by show (if x=n then v else m x)=some u;rw[if_neg hxn];exact l⟩
  ·exact .inr ⟨k,c,e,hcell c _ (cl x c e) z⟩
 ·obtain⟨w,z⟩:=I.cell x c e
  exact⟨w,hcell c w (cl x c e) z⟩
 ·obtain⟨e,q,ne,r⟩:=I.pin p hp
  exact⟨(hs.2 _ ne).trans e,q,ne,r⟩
 ·refine(I.jz b u e).lR (fun c w hc q=>(hs.2 c ?_).trans q) (fun _ q=>q) fun _ _ q=>q
  rcases hc with z | z
  ·rw[z];exact tr b u e
  ·exact tr c _ z
theorem name_goes {M:Model} {A:Around} {EE:Value→Shared→Prop} {Q:Unit→Shared→Prop} {i:Nat} {n:Str} {pos:Pos} (I:Inv X pins σ H s) (hN:X.N.Nodup) (hi:X.N[i]?=some n) (hx:X.env.scope.names.lookup n=some .local) (hlen:i < σ.length)
  (h:∀s',Inv X pins (σ.set i none) H s'→Q () s'):wpAny M A (do bindName X.env n .none;unbindBehindTheSuite X.env n pos) Q EE s:=by
 have hp:(X.env.scope.kind == .class || (X.env.scope.kind == .module && X.env.locals != X.env.globals))=false:=by rw[I.ok.kind];rfl
 have hk:X.env.kindOf n=some .local:=hx
 refine wpAny_bind (wpAny_bindName (bB I hN hi (.inl hx) (v:=.non) (u:=.none) rfl (fun s1 I1=>?_) (.inr hx)))
 obtain⟨m,hn,hl⟩:=id I1.loc
 obtain⟨u,r,l⟩:=hl i n .non hi (by rw[List.getElem?_set_self hlen]) (.inl hx)
 have hm:m n=some u:=by
  rcases l with ⟨_,l⟩ | ⟨k,_⟩
  ·exact l
  ·rw[hk] at k;rcases k with k | k<;>cases k
 unfold unbindBehindTheSuite
 refine wpAny_onRaise ?_
 unfold unbindName
 refine wpAny_bind (wpAny_point (wpAny_bind ?_));unfold deleteName
 simp only[hk,hp]
 rw[if_neg (by decide)]
 refine wpAny_bind (wpAny_nsDel_keeps hn fun h' v hn' hs'=>?_)
 rw[hm]
 simp only[if_true,Option.isSome_some,Bool.not_true,Bool.false_eq_true,if_false];refine wpAny_pure (wpAny_point (h _ ?_))
 have:=I1.gone (t':=s1.toks) hN hi hl hn' hs'
 rw[List.set_set] at this
 exact this
theorem SP.Yu {M:Model} {A:Around} {EE:Value→Shared→Prop} {D:Ends} {i:Nat} {n:Str} {pos:Pos} {f:Flow} (ok:X.Ok) (hN:X.N.Nodup) (hi:X.N[i]?=some n) (hx:X.env.scope.names.lookup n=some .local)
  (h:SP (X.held a) pins { nx:=fun σ H=>D.nx (σ.set i none) H,rt:=D.rt,bk:=fun σ H=>D.bk (σ.set i none) H,ct:=fun σ H=>D.ct (σ.set i none) H } f s) :
  wpAny M A (do bindName X.env n .none;unbindBehindTheSuite X.env n pos) (fun _ s'=>SP X pins D f s') EE s:=by
 have hlen:∀{σ':St} {H':Hp} {s':Shared},Inv X pins σ' H' s'→i < σ'.length:=fun J=>by rw[J.len];exact(List.getElem?_eq_some_iff.mp hi).1
 cases f with
 | next=>
  obtain⟨σ',H',J,q⟩:=h
  have J:=J.lZ ok
  exact name_goes J hN hi hx (hlen J) fun s' J'=>⟨_,H',J',q⟩
 | ret u=>
  obtain⟨v,σ',H',J,r,q⟩:=h
  have J:=J.lZ ok
  exact name_goes J hN hi hx (hlen J) fun s' J'=>⟨v,_,H',J',r,q⟩
 | brk=>
  obtain⟨σ',H',J,q⟩:=h
  have J:=J.lZ ok
  exact name_goes J hN hi hx (hlen J) fun s' J'=>⟨_,H',J',q⟩
 | cont=>
  obtain⟨σ',H',J,q⟩:=h
  have J:=J.lZ ok
  exact name_goes J hN hi hx (hlen J) fun s' J'=>⟨_,H',J',q⟩
noncomputable def VT (K:PySem.W.Frag) (Eh:XK) (P:Addr) (i:Nat) (te:TE) (th:Addr→TS):TS:=fun D σ H=>(te σ H fun _ H1=>D.nx σ H1)∧∀C a H',Eh (.ref C) (some a) H'→PySem.W.exmOne K (.ref C) (.ref P)=some true∧
 th a { nx:=fun σ H=>D.nx (σ.set i none) H,rt:=D.rt,bk:=fun σ H=>D.bk (σ.set i none) H,ct:=fun σ H=>D.ct (σ.set i none) H } (σ.set i (some (.ref a))) H'
theorem Xx {P:Addr} {x n:Str} {i:Nat} {e:Expr} {te:TE} {th:Addr→TS} {b0:Stmt} {suite:List Stmt} {p1 pc ph pos:Pos} (hxe:∀e s,X.xe e s→False) (hst:X.stack=X.env :: X.outer) (hf:X.env.frame=some X.env.locals)
  (hN:X.N.Nodup) (hi:X.N[i]?=some n) (hx:X.env.scope.names.lookup n=some .local) (hg:Gl X x) (hm:X.mg x=some (.ref P)) (he:YW X Eh e te) (hs:∀a,iy (X.held a) (b0 :: suite) (th a))
  (hdb:(x == ("__debug__" : Str))=false:=by decide) (hsw:swapsWith e none p1.line X.env=pure false:=by rfl) :
  PS X (.Try [.Expr e p1] [.ExceptHandler (some (.Name x pc)) (some n) (b0 :: suite) ph] [] [] pos) (VT X.K Eh P i te th):=by
 intro pins s σ H D I ⟨h1,h2⟩
 refine wpAny_Try_except ?_
 refine wpAny_execs_cons (wpAny_Expr_any (wpAny_mono (he pins s σ H _ I h1) (fun u s1 ⟨v,H1,I1,r1,q1⟩=>wpAny_execs_nil (wpAny_execs_nil ⟨σ,H1,I1,q1⟩)) fun ex s1 hfl=>?_) I.quiet hsw)
 obtain⟨a,C,d,T,H1,rfl,I1,F,hp,hE⟩:=hfl
 obtain⟨hex,hth⟩:=h2 C a H1 hE
 refine I1.Vd hst hf F hp fun h2' T2 I2 F2 hp2=>?_
 have J2:=I2.held a
 refine wpAny_handleBy_cons (codeAny_handlers_test (yX J2 hg hm ?_ hdb)) (by intro q;cases q)
 obtain⟨vs,sl,hg2,_⟩:=id F2.at'
 have LT:PySem.W.Looks (model X.prog X.w) h2' (typeOf (.ref a)) (.ref C):=(PySem.W.Looks.ld hg2).andThen .now
 refine(PySem.W.exm_one I2.y7 LT hex).here ?_
 show codeAny _ _ _ _ _
 refine codeAny_handlers_suite_as ?_;refine I2.lands F2.is F2.at' F2.tr F2.ne F2.free F2.new hp2 fun h3 I3 F3=>?_
 refine bB I3 hN hi (.inl hx) (v:=.ref a) (u:=.ref a) rfl (fun s4 I4=>?_) (.inr hx)
 refine wpAny_mono (hs a pins s4 _ H1 _ (I4.held a) hth) (fun f s5 hsp=>?_) (fun ex s5 hz=>(hxe ex s5 hz).elim)
 exact SP.Yu I4.ok hN hi hx hsp
end
end L2
namespace L2
open PyProof.Rows PySem PySem.Spec
noncomputable def KZ (H:Hp) (a C:Addr) (fs:List (Str × V)):Prop:=(fs=[]∧H a=some (xO a C none))∨∃dx,H a=some (xO a C (some dx))∧H dx=some (xD dx fs)
theorem KZ.look {P:Program} {w:World} {H:Hp} {h:Heap} {a C:Addr} {fs:List (Str × V)} (x:gF P w H h) (q:KZ H a C fs):∃ox od,PySem.W.InstAt h a ox C od∧∀f v,fs.lookup f=some v→∃o u,od=some o∧PySem.W.lookIn f o=some (some u)∧RelV v u:=by
 rcases q with ⟨rfl,q⟩ | ⟨dx,q1,q2⟩
 ·obtain⟨tb,vs,sl,he,_⟩:=Xh x q
  exact⟨_,none,⟨he,rfl,rfl,trivial⟩,fun f v e=>by cases e⟩
 ·obtain⟨tb,vs,sl,he,_⟩:=Xh x q1
  obtain⟨mA,n1,r1,_⟩:=XD x q2
  obtain⟨od,ho,hl⟩:=mH n1
  refine⟨_,some od,⟨he,rfl,rfl,ho⟩,fun f v e=>?_⟩
  have r:=r1 f
  rw[e] at r
  cases hm:mA f with
  | none=>rw[hm] at r;exact False.elim r
  | some u=>rw[hm] at r;exact⟨od,u,rfl,by rw[hl,hm],r⟩
section
variable {prog:Program} {w:World} {A:Around} {E:Value→Shared→Prop} {s:Shared} {K:PySem.W.Frag} {x C:Addr} {ox:Obj} {od:Option Obj} {name:Str} {tk:Tok} {v:Value} {R:Result→Shared→Prop}
theorem Jt (X:K.In s.heap) (I:PySem.W.InstAt s.heap x ox C od) (hm:PySem.W.mroIn K C (.type "BaseException")=some true):PySem.W.Looks (model prog w) s.heap (isInstance (.ref x) (.type "BaseException")) true:=I.type.andThen (PySem.W.looks_mroIn X hm)
theorem tW (X : K.In s.heap) (I : PySem.W.InstAt s.heap x ox C od) (hm : PySem.W.mroIn K C (.type "BaseException") = some true)
    (h : wpAny (model prog w) A.in1 (Builtin.«object.__getattribute__» ⟨[.ref x, .str name tk], []⟩) (fun f s' => ∃ v, f = .done (.ret v) ∧ R (.ok (.ret v)) s') (fun _ _ => False) s) : codeAny (model prog w) A (.call (.builtin "BaseException.__getattribute__") ⟨[.ref x, .str name tk], []⟩) R s := by
  have fit := PySem.F.args_bexc_ga (.ref x) (.str name tk)
  have sub := Jt (prog := prog) (w := w) X I hm
  refine codeAny_call_builtin PySem.F.attr_ValueError.ga.plain PySem.F.entry_bexc_ga (PySem.W.check_slot (i := "BaseException.__getattribute__") (owner := "BaseException") (n := "__getattribute__") (by decide +kernel) (by decide +kernel) sub fit (wpAny_mono h (fun f s' z => ?_) fun _ _ z => z.elim))
  obtain ⟨v, rfl, z⟩ := z
  exact z
theorem QE {fill expr:Bool} {Q:Value→Shared→Prop} (X:K.In s.heap) (I:PySem.W.InstAt s.heap x ox C od) (hga:PySem.W.findIn K (.ref C) "__getattribute__" = some (some (.builtin "BaseException.__getattribute__"))) (hgn:PySem.W.findIn K (.ref C) "__getattr__" = some none) (hm:PySem.W.mroIn K C (.type "BaseException")=some true)
  (h:codeAny (model prog w) A (.call (.builtin "BaseException.__getattribute__") ⟨[.ref x,.str name tk],[]⟩) (fun r s'=>match r with | .ok (.ret v)=>wpAny (model prog w) A (handedOut v) Q E s' | _=>False) s) :
  wpAny (model prog w) A (getAttrBy (.ref x) (.str name tk) fill expr) Q E s:=by
 unfold getAttrBy
 refine wpAny_holding (wpAny_bind (I.type.here (wpAny_bind ((PySem.W.looks_findIn X hga).here ?_))))
 have hne:(Value.builtin "BaseException.__getattribute__" == Value.builtin "object.__getattribute__")=false:=by decide +kernel
 dsimp only
 rw[hne,Bool.and_false,if_neg Bool.false_ne_true]
 unfold getAttrByItsOwn hookBefore
 rw[show onTheHeap (Value.ref C)=true from rfl,if_pos rfl]
 refine wpAny_bind ((PySem.W.looks_findIn X hgn).here (wpAny_bind (wpAny_attempt (wpAny_holding ?_))))
 unfold callGetattribute
 rw[if_neg (by cases expr<;>decide +kernel)]
 unfold boundAndCalled
 refine wpAny_bind (wpAny_of_eq (PySem.F.attr_ValueError.ga.bind (.ref x)) ?_)
 refine wpAny_call (codeAny_mono h fun r s' z=>?_)
 rcases r with e | (u | _ | _ | _)<;>first | exact z | exact z.elim
theorem ix {fill expr : Bool} {Q : Value → Shared → Prop} (X : K.In s.heap) (I : PySem.W.InstAt s.heap x ox C od) (hga : PySem.W.findIn K (.ref C) "__getattribute__" = some (some (.builtin "BaseException.__getattribute__"))) (hgn : PySem.W.findIn K (.ref C) "__getattr__" = some none) (hm : PySem.W.mroIn K C (.type "BaseException") = some true)
    (hf : PySem.W.findObj K C od name = some (.value v)) (hh : PySem.W.handedIn v = true) (h : Q v s) : wpAny (model prog w) A (getAttrBy (.ref x) (.str name tk) fill expr) Q E s := by
  refine QE X I hga hgn hm (tW X I hm ?_)
  obtain ⟨hp, g, d, t, os⟩ := s
  unfold Builtin.«object.__getattribute__»; refine wpAny_bind (wpAny_pure ?_)
  refine wpAny_bind (wpAny_pure (wpAny_bind ((I.type (M := model prog w)).at (wpAny_bind ((PySem.W.looks_find (M := model prog w) X I hf).at ?_)))))
  refine wpAny_pure ⟨_, rfl, (?_ : wpAny _ _ (handedOut v) _ _ _)⟩; rw [PySem.W.handedOut_of hh]
  exact wpAny_pure h
theorem iw {Q : Option Value → Shared → Prop} (X : K.In s.heap) (I : PySem.W.InstAt s.heap x ox C od) (hga : PySem.W.findIn K (.ref C) "__getattribute__" = some (some (.builtin "BaseException.__getattribute__"))) (hgn : PySem.W.findIn K (.ref C) "__getattr__" = some none) (hm : PySem.W.mroIn K C (.type "BaseException") = some true)
    (hf : PySem.W.findObj K C od "__class__" = some (.bind (.builtin "getset_descriptor.__get__") (.builtin "object.__class__"))) (ho : PySem.W.mroIn K C (.type "object") = some true) (h : Q (some (.ref C)) { s with toks := s.toks + 1 }) : wpAny (model prog w) A (getAttr? (.ref x) "__class__") Q E s := by
  unfold getAttr? getAttrBy?
  refine wpAny_bind (wpAny_mkText (wpAny_bind (wpAny_attempt ?_)))
  refine QE (s := { s with toks := s.toks + 1 }) X I hga hgn hm (tW (s := { s with toks := s.toks + 1 }) X I hm ?_)
  obtain ⟨hp, g, d, t, os⟩ := s
  unfold Builtin.«object.__getattribute__»; refine wpAny_bind (wpAny_pure ?_)
  refine wpAny_bind (wpAny_pure (wpAny_bind ((I.type (M := model prog w)).at (wpAny_bind ((PySem.W.looks_find (M := model prog w) X I hf).at ?_)))))
  dsimp only
  show wpAny _ _ (holding [Value.builtin "object.__class__"] (call (.builtin "getset_descriptor.__get__") [.builtin "object.__class__", .ref x, .ref C]) >>= ret) _ _ _
  refine wpAny_bind (wpAny_holding (wpAny_call (PySem.W.class_get (s := ⟨hp, g, d, t + 1, os⟩) (ox := ox) (od := od) X I ho ?_)))
  exact wpAny_pure ⟨_, rfl, PySem.W.handed_on rfl (wpAny_pure h)⟩
end
structure WN (K:PySem.W.Frag) (C:Addr):Prop where
 ga:PySem.W.findIn K (.ref C) "__getattribute__" = some (some (.builtin "BaseException.__getattribute__"))
 gn:PySem.W.findIn K (.ref C) "__getattr__" = some none
 bx:PySem.W.mroIn K C (.type "BaseException")=some true
 hd:PySem.W.hasDictIn K C=true
 ha:PySem.W.findIn K (.ref C) "__class__" = some (some (.builtin "object.__class__"))
 hn:PySem.W.specialIn K (.builtin "object.__class__") "__get__" = some (some (.builtin "getset_descriptor.__get__"))
 WR:PySem.W.takesIn K (.builtin "object.__class__")=some true
 hm:PySem.W.mroIn K C (.type "object")=some true
theorem ZZ {K:PySem.W.Frag} {x D:Addr} {ox:Obj} {od:Option Obj} (ty:WN K D):PySem.W.KitX K (.ref x) (.ref D) (fun h=>PySem.W.InstAt h x ox D od):=by
 have hcl:∃c' d' cd' sl',K.lookup D=some ⟨c',d',.cls cd',sl'⟩:=by
  obtain⟨cdD,hcD,_⟩:=PySem.W.any_some ty.hd
  unfold PySem.W.clsIn at hcD
  split at hcD
  ·rename_i c' d' cd' sl' ho
   exact⟨c',d',cd',sl',ho⟩
  ·cases hcD
 have hf:PySem.W.findObj K D od "__class__" = some (.bind (.builtin "getset_descriptor.__get__") (.builtin "object.__class__")):=by
  obtain⟨cd,hc,_⟩:=PySem.W.any_some ty.hd
  unfold PySem.W.findObj
  rw[hc,Option.bind_some,ty.ha,Option.bind_some]
  simp [ty.hn,ty.WR]
 refine⟨fun _ _ _ I=>I.type,fun M h X _=>?_,fun h tp dd its n sl X htp=>?_,fun {prog w A E Q s} X I k=>?_⟩
 ·obtain⟨c',d',cd',sl',ho⟩:=hcl
  intro A' Q' E' s' k q
  unfold isType loadHead;exact wpAny_bind (wpAny_loadPart (k _ _ (X _ _ ho)) (wpAny_pure q))
 ·obtain⟨c',d',cd',sl',ho⟩:=hcl
  refine Bool.eq_false_iff.mpr fun q=>?_;have e:D=tp:=Value.ref.inj (beq_iff_eq.mp q)
  subst e;have z:=(X _ _ ho).symm.trans htp
  cases z
 ·exact iw X I ty.ga ty.gn ty.bx hf ty.hm k
section
variable {X:Cx} {K:PySem.W.Frag}
theorem jm (hK:X.K=K):kD X (.builtin "isinstance") (fun xs H Q=>∃a C fs c b,xs=[.ref a,c]∧((∃n,c=.ty n)∨∃a,c=.ref a)∧KZ H a C fs∧WN K C∧PySem.W.kitOne K (.ref C) (QH c)=some b∧Q (.bl b) H):=by
 subst hK
 intro pins s σ H xs us Q I r h
 obtain⟨a,C,fs,c,b,rfl,hc,hx,ty,hk,q⟩:=h
 obtain⟨u,u',rfl,rx,rc⟩:=vals2 r
 have e:u'=QH c:=by
  rcases hc with ⟨n,rfl⟩ | ⟨a,rfl⟩
  ·exact rc
  ·exact rc
 subst e
 cases (show u=Value.ref a from rx)
 obtain⟨ox,od,J,_⟩:=hx.look I.jz
 exact PySem.W.kia_one (ZZ ty) I.y7 J hk (fun z=>nomatch z) fun tk=>⟨.bl b,H,I.tok _,rfl,q⟩
noncomputable def V1 (K:PySem.W.Frag) (ta:TE) (f:Str):TE:=fun σ H Q=>ta σ H fun x H1=>∃a C fs v,x=.ref a∧KZ H1 a C fs∧WN K C∧qK K C f∧fs.lookup f=some v∧Q v H1
theorem sd {e:Expr} {f:Str} {ta:TE} {pos:Pos} (hK:X.K=K) (he:PE X e ta) (hb:attributeBase e f X.env (eval e X.env)=eval e X.env):PE X (.Attribute e f pos) (V1 K ta f):=by
 subst hK
 intro pins s σ H Q I h
 refine iX hb (jO (he pins s σ H _ I h) fun u s1 ⟨x,H1,I1,rx,a,C,fs,v,ex,hx,ty,n,l,q⟩=>?_)
 subst ex
 obtain rfl:u=Value.ref a:=rx
 obtain⟨ox,od,J,hl⟩:=hx.look I1.jz
 obtain⟨o,u',rfl,lk,ru⟩:=hl f v l
 exact wpAny_bind (wpAny_mkText (ix (s:={ s1 with toks:=s1.toks + 1 }) I1.y7 J ty.ga ty.gn ty.bx (PySem.W.findObj_own ty.hd n rfl lk) (uE ru) ⟨v,H1,I1.tok _,ru,q⟩))
end
end L2
namespace L2
open PyProof.Rows PySem PySem.Spec
structure VS (k:Nat) (A:Around):Prop where
 dp:A.depth + 3 * k + 5 < recursionLimit
 un:A.units + 16 * k + 200 < cLine
structure Gp (P:Program) (w:World) (K:PySem.W.Frag) (mg:Str→Option Value) (base:Heap) (CX:uX) (k:Nat) (f:Addr) (fd:FuncData) (ps:List Str) (sp:Sp):Prop where
 len:∀vs H Q E,sp vs H Q E→vs.length=ps.length
 run:∀(A:Around) (outer:List Env) (s:Shared) (H:Hp) (args:Args) (us:List Value) (vs:List V) (Q:VK) (E:XK),VS k A→nP P w K mg base A outer s H→BindsTo s fd args (ps.zip us)→Vals vs us→sp vs H Q E→codeAny (model P w) A (.call (.ref f) args) (CR CX outer P w H s Q E) s
section
variable {P:Program} {w:World} {K:PySem.W.Frag} {mg:Str→Option Value} {base:Heap} {CX:uX}
noncomputable def Cx.any (X:Cx):Cx:={ X with calm:=false,xe:=fun _ _=>False }
section
variable {X:Cx} {pins:List (Addr × Obj)} {σ:St} {H:Hp} {s:Shared} {k:Nat} {f:Addr} {fd:FuncData} {ps:List Str} {sp:Sp} {dvs:List V} {ds:List Value} {x:Str} {p pos:Pos} {e:Expr} {es:List Expr} {t:TA}
end
end
end L2
namespace L2
open PyProof.Rows PySem PySem.Spec
section
variable {prog:Program} {w:World} {A:Around} {E:Value→Shared→Prop} {s:Shared} {a e C:Addr} {d:Option Addr} {tb:Value} {oe:Obj} {vs:Array Value}
end
end L2
namespace L2
open PyProof.Rows PySem PySem.Spec
structure Wx (aa:Addr) (P:Program) (w:World) (K:PySem.W.Frag) (tg:Expr) (J:It) (fp:List Addr) (it:Addr) (tn:Nat→Heap→Prop):Prop where
 mem:it∈fp
 obj:∀i h,tn i h→∀b∈fp,∃o,h.get? b=some o∧∀v,o.data≠.cell v
 keep:∀i h h',tn i h→(∀b∈fp,∀o,h.get? b=some o→h'.get? b=some o)→tn i h'
 item:∀(X:Cx),X.prog=P→X.w=w→X.K=K→X.A.handled=some (.ref aa)→∀(i:Nat) (pins:List (Addr × Obj)) (s:Shared) (σ:St) (H:Hp) (E:Value→Shared→Prop),Inv X pins σ H s→(∀b∈fp,yH X pins H b)→tn i s.heap→J.go i H→
  wpAny (model P w) X.A (pyNext (.ref it)) (fun r s1=>∃u,r=some u∧wpAny (model P w) X.A (letOwnedTupleGo tg (.ref it) u) (fun _ s2=>∃x H',Inv X pins σ H' s2∧RelV x u∧J.Xb i H x H'∧tn (i + 1) s2.heap∧∀b∈fp,H' b=none) E s1) E s
 done:∀(X:Cx),X.prog=P→X.w=w→X.K=K→X.A.handled=some (.ref aa)→∀(i:Nat) (pins:List (Addr × Obj)) (s:Shared) (σ:St) (H:Hp) (E:Value→Shared→Prop),Inv X pins σ H s→(∀b∈fp,yH X pins H b)→tn i s.heap→J.stop i H→wpAny (model P w) X.A (pyNext (.ref it)) (fun r s1=>r=none∧Inv X pins σ H s1) E s
 self:∀(A:Around) (i:Nat) (s:Shared) (Q:Value→Shared→Prop) (E:Value→Shared→Prop),tn i s.heap→Q (.ref it) s→wpAny (model P w) A (pyIter (.ref it)) Q E s
noncomputable def W2 (aa:Addr) (lo:Int) (n:Nat):It:=⟨fun i _=>i < n,fun i H x H'=>H'=H∧x=.int (lo + i),fun i H=>n≤i∧∃C d,H aa=some (xO aa C d)⟩
section
variable {X:Cx}
noncomputable def GZ (X:Cx) (aa:Addr) (tg iter:Expr) (wi:TI):Prop:=∀(pins:List (Addr × Obj)) (s:Shared) (σ:St) (H:Hp) (R:It→Hp→Prop),Inv X pins σ H s→wi σ H R→
 wpAny (model X.prog X.w) X.A (eval iter X.env) (fun v s1=>wpAny (model X.prog X.w) X.A (pyIter v) (fun itv s2=>∃(it:Addr) (fp:List Addr) (tn:Nat→Heap→Prop) (J:It) (H':Hp),itv=.ref it∧Inv X pins σ H' s2∧Wx aa X.prog X.w X.K tg J fp it tn∧tn 0 s2.heap∧(∀b∈fp,yH X pins H' b)∧R J H') X.xe s1) X.xe s
noncomputable def YL (aa:Addr) (ta:TA):TI:=fun σ H R=>ta σ H fun vs H1=>∃j:Int,vs=[.int j]∧-(2 ^ 62)≤j∧j < 2 ^ 62∧R (W2 aa 0 j.toNat) H1
end
end L2
namespace L2
open PySem PySem.Spec PyProof.Rows
section
variable {κ:Type} [DecidableEq κ]
noncomputable def gO (kvs:List (κ × V)) (k:κ):Option V:=(kvs.find? fun kv=>decide (kv.1=k)).map (·.2)
noncomputable def putK (kvs:List (κ × V)) (k:κ) (v:V):List (κ × V):=
 if (kvs.any fun kv=>decide (kv.1=k))=true then kvs.map (fun kv=>if kv.1=k then (kv.1,v) else kv) else kvs ++ [(k,v)]
noncomputable def ZU (kvs:List (κ × V)) (k:κ):List (κ × V):=kvs.filter fun kv=>decide (kv.1≠k)
theorem cW {p:κ × V} {r:List (κ × V)} {k:κ} (e:p.1=k):gO (p :: r) k=some p.2:=by simp [gO,List.find?_cons,e]
theorem um {p:κ × V} {r:List (κ × V)} {k:κ} (e:¬p.1=k):gO (p :: r) k=gO r k:=by simp [gO,List.find?_cons,e]
theorem fU (k:κ):∀kvs:List (κ × V),(kvs.any fun kv=>decide (kv.1=k))=(gO kvs k).isSome
 | []=>rfl
 | p :: r=>by
  rw[List.any_cons]
  by_cases e:p.1=k
  ·simp only[cW e,decide_eq_true e,Bool.true_or,Option.isSome_some]
  ·rw[um e,decide_eq_false e,Bool.false_or];exact fU k r
theorem dh (kvs:List (κ × V)) (k:κ) (v:V):(putK kvs k v).length≤kvs.length + 1:=by
 unfold putK
 split
 ·rw[List.length_map];omega
 ·rw[List.length_append,List.length_cons,List.length_nil];omega
theorem Qx {kvs:List (κ × V)} {k:κ} (v:V) (h:gO kvs k=none):putK kvs k v=kvs ++ [(k,v)]:=by
 unfold putK
 rw[fU,h]
 exact if_neg (by decide)
theorem yT.mT {o:Option V} {u:Option Value} (r:yT o u):o.isSome=u.isSome:=by
 cases o with
 | none=>cases u with
  | none=>rfl
  | some _=>exact(show False from r).elim
 | some _=>cases u with
  | none=>exact(show False from r).elim
  | some _=>rfl
theorem KV.val {kvs:List (κ × V)} {vs:List (κ × Value)} (r:KV kvs vs) (k:κ):yT (gO kvs k) (valueAt vs k):=by
 unfold KV at r
 induction r with
 | nil=>exact True.intro
 | @cons p q ps qs h t ih=>
  obtain⟨h1,h2⟩:=h
  by_cases e:p.1=k
  ·have e':q.1=k:=h1.symm.trans e
   have b:valueAt (q :: qs) k=some q.2:=by simp [valueAt,List.find?_cons,e']
   rw[cW e,b];exact h2
  ·have e':¬q.1=k:=fun z=>e (h1.trans z)
   have b:valueAt (q :: qs) k=valueAt qs k:=by simp [valueAt,List.find?_cons,e']
   rw[um e,b];exact ih
theorem KV.any {kvs:List (κ × V)} {vs:List (κ × Value)} (r:KV kvs vs) (k:κ):(kvs.any fun kv=>decide (kv.1=k))=vs.any fun kv=>decide (kv.1=k):=by
 unfold KV at r
 induction r with
 | nil=>rfl
 | cons h t ih=>rw[List.any_cons,List.any_cons,ih,h.1]
theorem KV.X2 {kvs:List (κ × V)} {vs:List (κ × Value)} (r:KV kvs vs) (k:κ) {y:V} {u:Value} (ry:RelV y u) :
  KV (kvs.map fun kv=>if kv.1=k then (kv.1,y) else kv) (vs.map fun kv=>if kv.1=k then (kv.1,u) else kv):=by
 unfold KV at r ⊢
 induction r with
 | nil=>exact .nil
 | @cons p q ps qs h t ih=>
  rw[List.map_cons,List.map_cons]
  refine .cons ?_ ih
  obtain⟨h1,h2⟩:=h
  by_cases e:p.1=k
  ·rw[if_pos e,if_pos (h1.symm.trans e)];exact⟨h1,ry⟩
  ·rw[if_neg e,if_neg (fun z=>e (h1.trans z))];exact⟨h1,h2⟩
theorem KV.put {kvs:List (κ × V)} {vs:List (κ × Value)} (r:KV kvs vs) (k:κ) {y:V} {u:Value} (ry:RelV y u):KV (putK kvs k y) (stored vs k u):=by
 unfold putK stored
 rw[r.any k]
 by_cases e:(vs.any fun kv=>decide (kv.1=k))=true
 ·rw[if_pos e,if_pos e];exact r.X2 k ry
 ·rw[if_neg e,if_neg e];exact Paired.snoc r ⟨rfl,ry⟩
theorem KV.length {kvs:List (κ × V)} {vs:List (κ × Value)} (r:KV kvs vs):kvs.length=vs.length:=Paired.length r
end
theorem Zj {P:Program} {w:World} {k:Key} {u:Value} (r:RelV (kV k) u):(km P w).is k u=true:=by
 cases k with
 | inl i=>obtain⟨t,e⟩:=(show ∃t,u=Value.int i t from r);subst e;exact sI P w i t
 | inr x=>obtain⟨t,e⟩:=(show ∃t,u=Value.str x t from r);subst e;exact tX P w x t
theorem rQ {P:Program} {w:World}:∀{ks:List Key} {us:List Value},Vals (ks.map kV) us→ItemsAre (km P w) ks us
 | [],_,r=>by rw[List.map_nil] at r;cases r;exact .nil
 | k :: ks,_,r=>by
  rw[List.map_cons] at r
  cases r with
  | cons h t=>exact .cons (Zj h) (rQ t)
noncomputable abbrev KT (H:Hp):List (List Key × V)→List (List Key × Addr × Value)→Prop:=Paired fun p q=>p.1=q.1∧H q.2.1=some (.tup (p.1.map kV))∧RelV p.2 q.2.2
theorem KT.val {H:Hp} {kvs:List (List Key × V)} {xs:List (List Key × Addr × Value)} (r:KT H kvs xs) (k:List Key):yT (gO kvs k) ((atKey xs k).map (·.2)):=by
 induction r with
 | nil=>exact True.intro
 | @cons p q ps qs h t ih=>
  obtain⟨h1,_,h2⟩:=h
  by_cases e:p.1=k
  ·have e':q.1=k:=h1.symm.trans e
   have b:atKey (q :: qs) k=some q.2:=by simp [atKey,List.find?_cons,e']
   rw[cW e,b];exact h2
  ·have e':¬q.1=k:=fun z=>e (h1.trans z)
   have b:atKey (q :: qs) k=atKey qs k:=by simp [atKey,List.find?_cons,e']
   rw[um e,b];exact ih
theorem KT.X2 {H:Hp} {kvs:List (List Key × V)} {xs:List (List Key × Addr × Value)} (r:KT H kvs xs) (k:List Key) {y:V} {u:Value} (ry:RelV y u) :
  KT H (kvs.map fun kv=>if kv.1=k then (kv.1,y) else kv) (xs.map (putAt k u)):=by
 induction r with
 | nil=>exact .nil
 | @cons p q ps qs h t ih=>
  rw[List.map_cons,List.map_cons]
  refine .cons ?_ ih
  obtain⟨h1,h2,h3⟩:=h
  unfold putAt
  by_cases e:p.1=k
  ·rw[if_pos e,if_pos (h1.symm.trans e)];exact⟨h1,h2,ry⟩
  ·rw[if_neg e,if_neg (fun z=>e (h1.trans z))];exact⟨h1,h2,h3⟩
theorem KT.put {H:Hp} {kvs:List (List Key × V)} {xs:List (List Key × Addr × Value)} (r:KT H kvs xs) (k:List Key) {b:Addr} {y:V} {u:Value} (hb:H b=some (.tup (k.map kV))) (ry:RelV y u) :
  KT H (putK kvs k y) (storedH xs k b u):=by
 have e:(kvs.any fun kv=>decide (kv.1=k))=(atKey xs k).isSome:=by
  rw[fU,(r.val k).mT,Option.isSome_map]
 unfold putK storedH
 rw[e]
 by_cases q:(atKey xs k).isSome=true
 ·rw[if_pos q,if_pos q];exact r.X2 k ry
 ·rw[if_neg q,if_neg q];exact Paired.snoc r ⟨rfl,hb,ry⟩
theorem KT.keeps {H H':Hp} {kvs:List (List Key × V)} {xs:List (List Key × Addr × Value)} (r:KT H kvs xs) (ht:∀b ys,H b=some (.tup ys)→H' b=some (.tup ys)):KT H' kvs xs:=
 Paired.ZA r fun _ _ z=>⟨z.1,ht _ _ z.2.1,z.2.2⟩
section
variable {P:Program} {w:World} {H:Hp} {h:Heap} {a:Addr}
theorem XC {u:HO} (ok:gF P w H h) (e:Rd H a u):jL P w H h a u:=e.ok ok
theorem XH {kvs:List (Key × V)} (ok:gF P w H h) (e:Rd H a (.dK kvs)):kvs.length≤sizeLine∧(a == sysModules)=false∧∃vs,KV kvs vs∧h.DictOf (km P w) a vs:=
 show jL P w H h a (.dK kvs) from XC ok e
theorem VC {kvs:List (Key × V)} (ok:gF P w H h) (e:H a=some (.dK kvs)):kvs.length≤sizeLine∧(a == sysModules)=false∧∃vs,KV kvs vs∧h.DictOf (km P w) a vs:=XH ok (.inl e)
theorem oy {ks:List Key} (ok:gF P w H h) (e:H a=some (.tup (ks.map kV))):(tupleKind (km P w)).is h ks a:=by
 obtain⟨_,its,r,o,h1,h2,n,h3⟩:=(show jL P w H h a (.tup (ks.map kV)) from ok a _ e)
 exact⟨o,its.toArray,n,h1,h2,h3,by simpa using rQ r⟩
theorem Xi {kvs:List (List Key × V)} (ok:gF P w H h) (e:Rd H a (.dT kvs)):kvs.length≤sizeLine∧(a == sysModules)=false∧
  ∃xs,KT H kvs xs∧h.DictOfH (tupleKind (km P w)) a xs:=by
 obtain⟨z,y,xs,r,o,es,ep,h1,h2,h3,h4,h5⟩:=(show jL P w H h a (.dT kvs) from XC ok e)
 refine⟨z,y,xs,r,o,es,ep,h1,h2,h3,h4,fun x hx=>?_,h5⟩
 have all:∀{l:List (List Key × V)} {m:List (List Key × Addr × Value)},KT H l m→∀x∈m,(tupleKind (km P w)).is h x.1 x.2.1:=by
  intro l m q
  induction q with
  | nil=>intro x hx;exact nomatch hx
  | @cons p q ps qs hq t ih=>
   intro x hx
   rcases List.mem_cons.mp hx with e | hx
   ·subst e
    exact oy ok (by rw[←hq.1];exact hq.2.1)
   ·exact ih x hx
 exact all r x hx
theorem V8 {kvs:List (List Key × V)} (ok:gF P w H h) (e:H a=some (.dT kvs)):kvs.length≤sizeLine∧(a == sysModules)=false∧
  ∃xs,KT H kvs xs∧h.DictOfH (tupleKind (km P w)) a xs:=Xi ok (.inl e)
end
noncomputable def cj (H:Hp) (a:Addr) (y:V) (r:Option V):Prop:=
 (∃kvs k,Rd H a (.dK kvs)∧y=kV k∧r=gO kvs k)∨∃kvs k b,Rd H a (.dT kvs)∧y=.ref b∧H b=some (.tup (k.map kV))∧r=gO kvs k
noncomputable def aH (H:Hp) (a:Addr) (y v:V) (H':Hp):Prop:=
 (∃kvs k,H a=some (.dK kvs)∧y=kV k∧kvs.length < sizeLine∧H'=upd H a (.dK (putK kvs k v)))∨
 ∃kvs k b,H a=some (.dT kvs)∧y=.ref b∧H b=some (.tup (k.map kV))∧kvs.length < sizeLine∧H'=upd H a (.dT (putK kvs k v))
theorem cj.k {H:Hp} {a:Addr} {kvs:List (Key × V)} {k:Key} (e:H a=some (.dK kvs)):cj H a (kV k) (gO kvs k):=.inl ⟨kvs,k,.inl e,rfl,rfl⟩
theorem aH.k {H:Hp} {a:Addr} {kvs:List (Key × V)} {k:Key} {v:V} (e:H a=some (.dK kvs)) (hl:kvs.length < sizeLine):aH H a (kV k) v (upd H a (.dK (putK kvs k v))):=.inl ⟨kvs,k,e,rfl,hl,rfl⟩
section
variable {X:Cx} {pins:List (Addr × Obj)} {σ:St} {H:Hp} {s:Shared} {a:Addr} {y v:V} {u r:Value} {o:Option V} {A:Around} {E:Value→Shared→Prop}
theorem Inv.big (I:Inv X pins σ H s):sysModules < s.heap.objs.size:=by
 have h:mainGlobals < s.heap.objs.size:=(I.mod.glob.keeps I.bk).lt
 exact Nat.lt_trans (by decide) h
theorem Yr {Q:Value→Shared→Prop} (hu:A.units + 1 < cLine) (I:Inv X pins σ H s) (g:cj H a y o) (ry:RelV y u) (h:∀s',Inv X pins σ H s'→Q (.bool o.isSome) s') :
  wpAny (model X.prog X.w) A (compareOp .In u (.ref a)) Q E s:=by
 rcases g with ⟨kvs,k,e,ey,l⟩ | ⟨kvs,k,b,e,ey,eb,l⟩
 ·subst ey
  obtain⟨z,hd,vs,rel,dd⟩:=XH I.jz e
  refine wpAny_in_of (Zj ry) hd dd.mapOf ?_
  rw[←(rel.val k).mT,←l]
  exact h _ (I.tok _)
 ·subst ey
  cases (show u=Value.ref b from ry)
  obtain⟨z,hd,xs,rel,dd⟩:=Xi I.jz e
  refine wpAny_in_heap (tupleKind_room_in1 hu) (oy I.jz eb) hd dd ?_
  have q:=(rel.val k).mT
  rw[Option.isSome_map] at q
  rw[←q,←l]
  exact h _ (I.tok _)
theorem iP {h':Heap} {t':Nat} {ob:HO} (I:Inv X pins σ H s) (mu:VQ (H a)) (hs:Heap.SameBut a s.heap h') (he:∃q,h'.get? a=some q) (new:jL X.prog X.w (upd H a ob) h' a ob) :
  Inv X pins σ (upd H a ob) { s with heap:=h',toks:=t' }:=
 I.write (x:=a) (e:=a) mu (.inl rfl) (fun b q hb z=>(hs.2 b hb).trans z) he new
theorem KJ {P:Program} {w:World} {H':Hp} {h':Heap} {kvs:List (Key × V)} {vs:List (Key × Value)} (z:kvs.length≤sizeLine) (hd:(a == sysModules)=false) (rel:KV kvs vs) (dd:h'.DictOf (km P w) a vs) :
  jL P w H' h' a (.dK kvs):=⟨z,hd,vs,rel,dd⟩
theorem ao {H':Hp} {Q:Unit→Shared→Prop} (hu:A.units + 1 < cLine) (I:Inv X pins σ H s) (g:aH H a y v H') (ry:RelV y u) (rv:RelV v r) (h:∀s',Inv X pins σ H' s'→Q () s') :
  wpAny (model X.prog X.w) A (setItem (.ref a) u r) Q E s:=by
 rcases g with ⟨kvs,k,e,ey,l,eH⟩ | ⟨kvs,k,b,e,ey,eb,l,eH⟩
 ·subst ey eH
  obtain⟨z,hd,vs,rel,dd⟩:=VC I.jz e
  have hz:vs.length≤sizeLine:=by rw[←rel.length];exact z
  have hl:(putK kvs k v).length≤sizeLine:=by have:=dh kvs k v;omega
  refine wpAny_setItem_pairs (hsz:=hz) (Zj ry) dd fun h' dd' hs=>h _ ?_
  have he:∃q,h'.get? a=some q:=let ⟨q,_,_,hq,_⟩:=dd';⟨q,hq⟩
  exact iP I (by rw[e];exact True.intro) hs he (KJ hl hd (rel.put k rv) dd')
 ·subst ey eH
  cases (show u=Value.ref b from ry)
  obtain⟨z,hd,xs,rel,dd⟩:=V8 I.jz e
  have hz:xs.length≤sizeLine:=by rw[←Paired.length rel];exact z
  have hl:(putK kvs k v).length≤sizeLine:=by have:=dh kvs k v;omega
  refine wpAny_setItem_heap (hsz:=hz) (tupleKind_room_in1 hu) (oy I.jz eb) dd fun h' dd' hs=>h _ ?_
  obtain⟨q,es,ep,hq,h2,h3,h4,_,h5⟩:=dd'
  refine iP I (by rw[e];exact True.intro) hs ⟨q,hq⟩ ⟨hl,hd,_,(rel.put k eb rv).keeps fun c ys ec=>?_,q,es,ep,hq,h2,h3,h4,h5⟩
  rw[qW (df ec e (fun z=>nomatch z))]
  exact ec
end
section
variable {X:Cx} {pins:List (Addr × Obj)} {σ:St} {H:Hp} {s:Shared} {a:Addr} {kvs:List (Key × V)} {k:Key} {u:Value} {A:Around} {E:Value→Shared→Prop}
end
noncomputable def G0 (i:Expr):Prop:=∀ov iv,subscripted i false ov iv=operate [ov,iv] (getItem ov iv)
noncomputable def Gf (td ty:TE):TE:=fun σ H Q=>td σ H fun x H1=>ty σ H1 fun y H2=>∃a v,x=.ref a∧cj H2 a y (some v)∧Q v H2
noncomputable def W5 (ty td:TE):TE:=fun σ H Q=>ty σ H fun y H1=>td σ H1 fun x H2=>∃a o,x=.ref a∧cj H2 a y o∧Q (.bl o.isSome) H2
noncomputable def WC (ty td:TE):TE:=fun σ H Q=>ty σ H fun y H1=>td σ H1 fun x H2=>∃a o,x=.ref a∧cj H2 a y o∧Q (.bl (!o.isSome)) H2
noncomputable def Y7 (td ty tv:TE):TS:=fun D σ H=>tv σ H fun v H1=>td σ H1 fun x H2=>ty σ H2 fun y H3=>∃a H4,x=.ref a∧aH H3 a y v H4∧D.nx σ H4
noncomputable def Gh (td ty tv:TE) (rd:V→V→Hp→VK→Prop):TS:=fun D σ H=>td σ H fun x H1=>ty σ H1 fun y H2=>∃a v,x=.ref a∧cj H2 a y (some v)∧
 tv σ H2 fun y2 H3=>rd v y2 H3 fun z H4=>∃H5,aH H4 a y z H5∧D.nx σ H5
noncomputable def Gb (td ty:TE):TS:=fun D σ H=>td σ H fun x H1=>ty σ H1 fun y H2=>∃a kvs k,x=.ref a∧H2 a=some (.dK kvs)∧y=kV k∧(gO kvs k).isSome=true∧D.nx σ (upd H2 a (.dK (ZU kvs k)))
section
variable {X:Cx} {o i e value:Expr} {pos pos' tpos:Pos} {td ty tv:TE}
theorem Zq (hu:X.A.units + 1 < cLine) (hi:PE X i ty) (ho:PE X o td):PC X .In i o (W5 ty td):=by
 intro pins s σ H Q I h
 refine jO (hi pins s σ H _ I h) fun iv s1 ⟨y,H1,I1,ry,q1⟩=>jO (ho pins s1 σ H1 _ I1 q1) fun u s2 ⟨x,H2,I2,rx,a,ov,ex,g,q2⟩=>?_
 subst ex
 obtain rfl:u=Value.ref a:=rx
 exact Yr hu I2 g ry fun s3 I3=>⟨.bl ov.isSome,H2,I3,rfl,q2⟩
end
theorem Zf {P:Program} {w:World} {H:Hp} (h:Heap) (hb:sysModules < h.objs.size):jL P w H (h.push { cls:=.type "dict",data:=.dict #[] }) h.objs.size (.dK []):=
 ⟨Nat.zero_le _,beq_eq_false_iff_ne.mpr (Ne.symm (Nat.ne_of_lt hb)),[],.nil,Heap.DictOf.new h⟩
noncomputable def Kl:TE:=fun _ H Q=>∀p,H p=none→Q (.ref p) (upd H p (.dK []))
noncomputable def W0:TE:=fun _ H Q=>∀p,H p=none→Q (.ref p) (upd H p (.dT []))
section
variable {X:Cx} {pos:Pos}
theorem ZD:PE X (.Dict [] [] pos) Kl:=fun pins s σ H Q I h=>
 wpAny_Dict_empty ⟨.ref s.heap.objs.size,_,I.laid (a:=s.heap.objs.size) (o:=.dK []) (t':=s.toks) (fun _ _ q=>Heap.get?_push_of_some _ q) (Nat.le_refl _) (Zf s.heap I.big),rfl,h _ (I.jz.fresh (Nat.le_refl _))⟩
end
noncomputable def oo:List (TE × TE)→St→Hp→(List (V × V)→Hp→Prop)→Prop
 | [],_,H,Q=>Q [] H
 | (tk,tv) :: r,σ,H,Q=>tk σ H fun x H1=>tv σ H1 fun y H2=>oo r σ H2 fun ps H3=>Q ((x,y) :: ps) H3
noncomputable abbrev VV:List (V × V)→List (Value × Value)→Prop:=Paired fun p q=>RelV p.1 q.1∧RelV p.2 q.2
noncomputable def Hb (X:Cx) (pos:Pos) (keys:List (Option Expr)) (values:List Expr) (trs:List (TE × TE)):Prop:=
 ∀(pins:List (Addr × Obj)) (s:Shared) (σ:St) (H:Hp) (Q:List (V × V)→Hp→Prop),Inv X pins σ H s→oo trs σ H Q→
  wpAny (model X.prog X.w) X.A (evalPairs (pairTrees keys values X.env pos)) (fun vs s'=>∃ps H',Inv X pins σ H' s'∧VV ps vs∧Q ps H') X.xe s
noncomputable def Vw (kvs more:List (Key × V)):List (Key × V):=more.foldl (fun acc kv=>putK acc kv.1 kv.2) kvs
noncomputable def Gy (trs:List (TE × TE)):TE:=fun σ H Q=>∀p,H p=none→oo trs σ (upd H p (.dK [])) fun ps H2=>H2 p=some (.dK [])∧∃kvs:List (Key × V),ps=kvs.map (fun kv=>(kV kv.1,kv.2))∧kvs.length≤15∧Q (.ref p) (upd H2 p (.dK (Vw [] kvs)))
structure M1 (X:Cx) (o:Expr) (m:Str) (apos:Pos) (e:Expr) (cpos:Pos):Prop where
 base:attributeBase o m X.env (eval o X.env)=eval o X.env
 lV:((backTo cpos (starEach [e] X.env)).all (fun x=>!x.1) && (backToKw cpos (keywordEach [] X.env)).all (fun x=>x.1.isSome)
  && decide (([e]:List Expr).length + ([]:List Keyword).length + (if ([]:List Keyword).isEmpty then 0 else 1) < 30))=true
 line:(apos.endLine == cpos.line)=true
 trees:backTo cpos (starEach [e] X.env)=[(false,eval e X.env)]
structure M2 (X:Cx) (o:Expr) (m:Str) (apos:Pos) (e f:Expr) (cpos:Pos):Prop where
 base:attributeBase o m X.env (eval o X.env)=eval o X.env
 lV:((backTo cpos (starEach [e,f] X.env)).all (fun x=>!x.1) && (backToKw cpos (keywordEach [] X.env)).all (fun x=>x.1.isSome)
  && decide (([e,f]:List Expr).length + ([]:List Keyword).length + (if ([]:List Keyword).isEmpty then 0 else 1) < 30))=true
 line:(apos.endLine == cpos.line)=true
 trees:backTo cpos (starEach [e,f] X.env)=[(false,eval e X.env),(false,eval f X.env)]
noncomputable def WM (H:Hp) (a:Addr):Prop:=(∃kvs,Rd H a (.dK kvs))∨∃kvs,Rd H a (.dT kvs)
section
variable {X:Cx} {pins:List (Addr × Obj)} {σ:St} {H:Hp} {s:Shared} {a:Addr} {y d:V} {u r:Value} {o:Option V} {A:Around} {E:Value→Shared→Prop}
end
noncomputable def Yg (td ty:TE):TE:=fun σ H Q=>td σ H fun x H1=>∃a,x=.ref a∧WM H1 a∧ty σ H1 fun y H2=>∃o,cj H2 a y o∧Q (o.getD .non) H2
noncomputable def Yt (td ty tx:TE):TE:=fun σ H Q=>td σ H fun x H1=>∃a,x=.ref a∧WM H1 a∧ty σ H1 fun y H2=>tx σ H2 fun z H3=>∃o,cj H3 a y o∧Q (o.getD z) H3
noncomputable def Yi (td ty:TE):TE:=fun σ H Q=>td σ H fun x H1=>∃a,x=.ref a∧WM H1 a∧ty σ H1 fun y H2=>∃kvs k v,H2 a=some (.dK kvs)∧y=kV k∧gO kvs k=some v∧Q v (upd H2 a (.dK (ZU kvs k)))
noncomputable def W8 (td ty tx:TE):TE:=fun σ H Q=>td σ H fun x H1=>∃a,x=.ref a∧WM H1 a∧ty σ H1 fun y H2=>tx σ H2 fun z H3=>∃kvs k,H3 a=some (.dK kvs)∧y=kV k∧
 (∀v,gO kvs k=some v→Q v (upd H3 a (.dK (ZU kvs k))))∧(gO kvs k=none→Q z H3)
section
variable {X:Cx} {o e f:Expr} {apos cpos:Pos} {td ty tx:TE}
end
section
variable {X:Cx} {pins:List (Addr × Obj)} {σ:St} {H:Hp} {s:Shared} {a:Addr} {kvs:List (Key × V)} {A:Around} {E:Value→Shared→Prop}
end
section
variable {X:Cx} {pins:List (Addr × Obj)} {σ:St} {H:Hp} {s:Shared} {a:Addr} {y:V} {u:Value} {A:Around} {E:Value→Shared→Prop}
end
end L2
namespace L2
open PySem PySem.Spec PyProof.Rows
section
variable {X:Cx}
end
section
variable {κ:Type} [DecidableEq κ]
end
end L2
namespace L2
open PySem PySem.Spec PyProof.Rows
section
variable {X:Cx}
theorem JP {pos:Pos}:PE X (.Dict [] [] pos) (fun _ H Q=>Nw H (.dK []) Q):=ZD.mono fun _ _ _ q=>q.el
theorem rG (hu:X.A.units + 1 < cLine):VD X (fun o i v H Q=>∃a kvs k,o=.ref a∧i=kV k∧H a=some (.dK kvs)∧kvs.length < sizeLine∧Ch H a (.dK (putK kvs k v)) Q):=by
 intro pins s σ H o i v ov iv u Q I ro ri rv h
 obtain⟨a,kvs,k,rfl,rfl,e,l,q⟩:=h
 cases ro
 exact ao hu I (aH.k e l) ri rv fun s' I'=>⟨_,I',q.el⟩
end
end L2
namespace L2
open PyProof.Rows PySem PySem.Spec
section
variable {w:World} {A:Around} {E:Value→Shared→Prop} {s:Shared} {prog:Program}
end
noncomputable def tV:List Str→List Str→Nat
 | _,[]=>0
 | seen,z :: r=>(if z∈seen then 0 else 1) + tV (z :: seen) r
section
variable {w:World} {A:Around} {E:Value→Shared→Prop} {prog:Program}
theorem om {K:Type} [DecidableEq K] {knd:KeyKind prog w K} {h h':Heap} {a it:Addr} {S:K→Bool} {n:Nat} (x:Heap.SetOf knd h a S n) (hb:Heap.SameBut it h h') (hne:a≠it):Heap.SetOf knd h' a S n:=by
 obtain⟨o,es,ep,t,ho,r⟩:=x
 exact⟨o,es,ep,t,(hb.2 a hne).trans ho,r⟩
theorem Qb {K:Type} [DecidableEq K] {knd:KeyKind prog w K} {h:Heap} {a:Addr} {S S':K→Bool} {n:Nat} (x:Heap.SetOf knd h a S n) (e:∀y,S' y=S y):Heap.SetOf knd h a S' n:=by
 have:S'=S:=funext e
 rw[this];exact x
theorem QA {a it l : Addr} {items : Array Value} (hh : A.handled = none) (hia : it ≠ a) (hli : l ≠ it) (hla : l ≠ a) : ∀ (rest : List Str) (i : Nat) (s : Shared) (seen : List Str) (n : Nat) (R : Result → Shared → Prop), s.heap.IsListIter it l i → s.heap.IsList l items → items.size = i + rest.length → (∀ (j : Nat) (z : Str), rest[j]? = some z → ∃ t, items[i + j]? = some (.str z t)) →
    s.heap.SetOf (strKind prog w) a (fun y => decide (y ∈ seen)) n → n + rest.length < 1000 →
    (∀ h' tk S', (∀ b o, b ≠ it → b ≠ a → s.heap.get? b = some o → h'.get? b = some o) → h'.SetOf (strKind prog w) a S' (n + tV seen rest) → R (.ok (.ret .none)) { s with heap := h', toks := tk }) →
    codeAny (model prog w) A (.builtin "set.update.loop" ⟨[.ref a, .ref it], []⟩) R s := by
  intro rest
  induction rest with
  | nil =>
    intro i s seen n R h1 h2 h3 h4 h5 h6 k
    refine codeAny_builtin F.entry_set_update_loop ?_
    show wpAny _ _ (pyNext (.ref it) >>= _) _ _ s
    refine wpAny_bind (wpAny_pyNext_list_end ?_ h1 h2 (by rw [Array.getElem?_eq_none_iff]; simp at h3; omega) fun h' hx => ?_)
    · exact hh
    · refine wpAny_pure (k h' s.toks (fun y => decide (y ∈ seen)) (fun b o hb _ e => hx b o hb e) ?_)
      obtain ⟨o, es, ep, t, ho, q⟩ := h5
      exact ⟨o, es, ep, t, hx _ _ (Ne.symm hia) ho, q⟩
  | cons z r ih =>
    intro i s seen n R h1 h2 h3 h4 h5 h6 k
    obtain ⟨t, ht⟩ := h4 0 z rfl
    refine codeAny_builtin F.entry_set_update_loop ?_
    show wpAny _ _ (pyNext (.ref it) >>= _) _ _ s
    refine wpAny_bind (wpAny_pyNext_list_item h1 h2 ht fun h' hi' hb => ?_)
    dsimp only
    unfold setAdd
    refine wpAny_bind (wpAny_holding (wpAny_holding (wpAny_bind ((strKind prog w).pyHash (strKind_is prog w z t) ?_))))
    have h5' := om h5 hb (Ne.symm hia)
    have hl' : h'.IsList l items := by
      obtain ⟨o, ho, q⟩ := h2
      exact ⟨o, (hb.2 l hli).trans ho, q⟩
    refine wpAny_setAddHashed_of (s := { s with heap := h', toks := s.toks + 1 }) (strKind_is prog w z t) rfl h5' (by simp only [List.length_cons] at h6; unfold scanBound; omega) fun h2' hb2 h52 => ?_
    refine wpAny_pure ⟨Code.quiet_builtin _ (by decide +kernel), ?_⟩
    have hl2 : h2'.IsList l items := by
      obtain ⟨o, ho, q⟩ := hl'
      exact ⟨o, (hb2.2 l hla).trans ho, q⟩
    have hi2 : h2'.IsListIter it l (i + 1) := by
      obtain ⟨o, ho, q⟩ := hi'
      exact ⟨o, (hb2.2 it hia).trans ho, q⟩
    have h53 : h2'.SetOf (strKind prog w) a (fun y => decide (y ∈ z :: seen)) (n + if z ∈ seen then 0 else 1) := by
      have e : (if decide (z ∈ seen) = true then n else n + 1) = n + if z ∈ seen then 0 else 1 := by by_cases q : z ∈ seen <;> simp [q]
      rw [← e]
      exact Qb h52 fun y => by by_cases q : y = z <;> by_cases q' : y ∈ seen <;> simp [q, q']
    refine ih (i + 1) { s with heap := h2', toks := s.toks + 1 } (z :: seen) _ R hi2 hl2 (by simp only [List.length_cons] at h3; omega) (fun j y hj => ?_) h53 ?_ fun h3' tk S' q1 q2 => ?_
    · obtain ⟨t', ht'⟩ := h4 (j + 1) y (by simpa using hj)
      exact ⟨t', by rw [← ht']; congr 1; omega⟩
    · simp only [List.length_cons] at h6
      split <;> omega
    · refine k h3' tk S' (fun b o b1 b2 e => q1 b o b1 b2 ((hb2.2 b b2).trans ((hb.2 b b1).trans e))) ?_
      rw [show n + tV seen (z :: r) = n + (if z ∈ seen then 0 else 1) + tV (z :: seen) r by simp only [tV]; omega]
      exact q2
set_option maxHeartbeats 1000001 in
theorem eG {s : Shared} {a l : Addr} {led : Bool} {items : Array Value} {zs : List Str} {Q : Fin → Shared → Prop} (hh : A.handled = none) (ha : s.heap.get? a = some { cls := .type "set", dict := none, data := .set #[] 0 (.fresh 0 0 led) }) (hl : s.heap.IsList l items) (hz : items.size = zs.length) (hi : ∀ (j : Nat) (z : Str), zs[j]? = some z → ∃ t, items[j]? = some (.str z t)) (hn : zs.length < 1000) (hla : l ≠ a)
    (h : ∀ h' tk S', (∀ b o, b ≠ a → s.heap.get? b = some o → h'.get? b = some o) → h'.SetOf (strKind prog w) a S' (tV [] zs) → Q (.done (.ret .none)) { s with heap := h', toks := tk }) : wpAny (model prog w) A (Builtin.«set.__init__» ⟨[.ref a, .ref l], []⟩) Q E s := by
  have hT : Shared.TypeIs s (.ref a) "set" := ⟨_, ha, rfl⟩
  unfold Builtin.«set.__init__» noKeywords
  obtain ⟨ol, hol, hcl, nl, hdl⟩ := id hl
  have hTl : Shared.TypeIs s (.ref l) "list" := ⟨ol, hol, hcl⟩
  wp_walk
  refine wpAny_of_eq F.sub_list_set (wpAny_isInstance hTl F.sub_list_frozenset ?_)
  (rw [if_neg Bool.false_ne_true])
  refine wpAny_bind (wpAny_typeOf hTl ?_)
  rw [if_neg (by decide)]
  refine wpAny_bind (wpAny_pyIter_list hl ?_)
  generalize hoi : ({ cls := .type "list_iterator", data := .fields #[.ref l, .int 0 0] } : Obj) = oi
  show wpAny _ _ (runValue (.builtin "set.update.loop" ⟨[.ref a, .ref s.heap.objs.size], []⟩) >>= _) _ _ { s with heap := s.heap.push oi }
  have sa : a < s.heap.objs.size := Heap.lt_size ha
  have sl : l < s.heap.objs.size := Heap.lt_size hol
  have k0 : ∀ b o, s.heap.get? b = some o → (s.heap.push oi).get? b = some o := fun b o e => Heap.get?_push_of_some _ e
  refine wpAny_bind (wpAny_runValue (QA hh (Nat.ne_of_gt sa) (Nat.ne_of_lt sl) hla zs 0 { s with heap := s.heap.push oi } [] 0 _ ?_ ⟨ol, k0 _ _ hol, hcl, nl, hdl⟩ (by omega) (fun j z e => by simpa using hi j z e) ⟨_, #[], 0, _, k0 _ _ ha, ⟨rfl, rfl, rfl⟩, rfl, fun e he => by simp at he, fun y => by simp, by unfold scanBound; simp, rfl, rfl⟩ (by omega) fun h' tk S' q1 q2 => ?_))
  · exact ⟨oi, Heap.get?_push_size _ (by rw [← hoi]; rfl), by rw [← hoi], by rw [← hoi]; rfl⟩
  · refine wpAny_pure (wpAny_pure (h h' tk S' (fun b o hb e => q1 b o (Nat.ne_of_lt (Heap.lt_size e)) hb (k0 b o e)) ?_))
    rw [Nat.zero_add] at q2; exact q2
set_option maxHeartbeats 1000001 in
/-- what a call may come to: a value, or an exception -/
theorem wants_or {Q : Value → Shared → Prop} {E : Value → Shared → Prop} {r : Result} {s : Shared} (h : wants Q E r s) : (∃ v, r = .ok (.ret v) ∧ Q v s) ∨ ∃ e, r = .error e ∧ E e s := by
  rcases r with e | f
  · exact .inr ⟨e, rfl, h⟩
  · cases f <;> first | exact .inl ⟨_, rfl, h⟩ | exact h.elim
set_option maxHeartbeats 1000001 in
theorem aW {s : Shared} {l : Addr} {items : Array Value} {zs : List Str} {Q : Value → Shared → Prop} (hh : A.handled = none) (hl : s.heap.IsList l items) (hz : items.size = zs.length) (hi : ∀ (j : Nat) (z : Str), zs[j]? = some z → ∃ t, items[j]? = some (.str z t)) (hn : zs.length < 1000)
    (h : ∀ h' tk a S', s.heap.objs.size ≤ a → (∀ b o, s.heap.get? b = some o → h'.get? b = some o) → h'.SetOf (strKind prog w) a S' (tV [] zs) → Q (.ref a) { s with heap := h', toks := tk }) : wpAny (model prog w) A (call (.type "set") [.ref l]) Q E s := by
  have C := F.called_set
  obtain ⟨_, _, m⟩ := C.mro
  obtain ⟨c1, c2, c3, c4, c5⟩ : _ ∧ _ ∧ _ ∧ _ ∧ _ := ⟨C.made, C.sub, C.notType, C.canCreate, F.typeCall_set_1 (.ref l)⟩
  have up : ∀ {o : Obj} {b : Addr} {u : Obj}, s.heap.get? b = some u → (s.heap.push o).get? b = some u := fun e => Heap.get?_push_of_some _ e
  have lo : ∀ {b : Addr} {u : Obj}, s.heap.get? b = some u → b ≠ s.heap.objs.size := fun e => Nat.ne_of_lt (Heap.lt_size e)
  obtain ⟨ol, gl, dl⟩ := hl
  refine wpAny_call (codeAny_of_tree (?_ : wpAny _ _ (callAny (.type "set") _) _ _ _))
  refine wpAny_pure ⟨Code.quiet_builtin _ (by decide +kernel), codeAny_builtin F.entry_type_call (Around.under_plain (weight_type_call_type "set" [.ref l] []) rfl ▸ ?_)⟩
  repeat any_goals first | assumption | wp_step
  refine codeAny_mono (code_set_new_1 _ (E := E) (Q₁ := fun v s1 => v = .ref s.heap.objs.size ∧ ∃ led, s1 = { s with heap := s.heap.push { cls := .type "set", data := .set #[] 0 (.fresh 0 0 led) } }) fun led => ⟨rfl, led, rfl⟩) fun r s1 hr => ?_
  rcases wants_or hr with ⟨_, rfl, rfl, led, rfl⟩ | ⟨_, rfl, he⟩
  · have g := Heap.get?_push_size s.heap (o := { cls := .type "set", data := .set #[] 0 (.fresh 0 0 led) }) rfl
    have ty : Shared.TypeIs { s with heap := s.heap.push _ } (.ref s.heap.objs.size) "set" := ⟨_, g, rfl⟩
    obtain ⟨c6, c7⟩ : _ ∧ _ := ⟨C.init.lookup, C.init.bind (.ref s.heap.objs.size)⟩
    repeat any_goals first | assumption | wp_step
    have run := eG (s := { s with heap := s.heap.push _ }) (prog := prog) (w := w) (A := A.in1.in1) (E := E) (Q := fun f s2 => f = .done (.ret .none) ∧ Q (.ref s.heap.objs.size) s2) hh g ⟨ol, up gl, dl⟩ hz hi hn (lo gl) fun h' tk S' k1 k2 => ⟨rfl, h h' tk _ S' (Nat.le_refl _) (fun b u e => k1 b u (lo e) (up e)) k2⟩
    refine codeAny_mono (codeAny_call_builtin (R := wants (fun v s2 => v = .none ∧ Q (.ref s.heap.objs.size) s2) E) C.init.plain F.entry_set_init (check_set_init_1 ty (jO run fun f s2 ⟨e, q⟩ => e ▸ ⟨rfl, q⟩))) fun r s2 hr => ?_
    rcases wants_or hr with ⟨_, rfl, rfl, q⟩ | ⟨_, rfl, he⟩
    · repeat any_goals first | assumption | wp_step
    · exact he
  · exact he
end
end L2
namespace L2
open PyProof.Rows PySem PySem.Spec
noncomputable def Vn (P:Program) (w:World) (a:Addr) (n:Nat):HO:=.ext fun h=>∃S,Heap.SetOf (strKind P w) h a S n
theorem Ke {P:Program} {w:World} {H:Hp} {h:Heap} {a:Addr} {S:Str→Bool} {n:Nat} (x:Heap.SetOf (strKind P w) h a S n):jL P w H h a (Vn P w a n):=by
 have x':=x
 obtain⟨o,es,ep,t,ho,r⟩:=x'
 refine⟨⟨S,x⟩,⟨o,ho⟩,fun h1 h2 ⟨S',o',es',ep',t',ho',r'⟩ k=>⟨S',o',es',ep',t',k _ ho',r'⟩⟩
theorem XA {P:Program} {w:World} {H:Hp} {h:Heap} {a:Addr} {n:Nat} (x:gF P w H h) (q:H a=some (Vn P w a n)):∃S,Heap.SetOf (strKind P w) h a S n:=(x a _ q).1
section
variable {X:Cx} {K:PySem.W.Frag}
theorem JZ (hK:X.K=K) (hc:X.calm=true):kD X (.type "set") (fun xs H Q=>∃p zs,xs=[.ref p]∧q0 K H p (zs.map V.str)∧zs.length < 1000∧∀a,H a=none→Q (.ref a) (upd H a (Vn X.prog X.w a (tV [] zs)))):=by
 subst hK
 (intro pins s σ H xs us Q I r h)
 obtain⟨p,zs,rfl,hl,hn,k⟩:=h
 (obtain⟨u,rfl,ru⟩:=vals1 r)
 cases ru
 obtain⟨its,rv,⟨o,n,ho,hcl,_,hd⟩,_⟩:=I.list hl
 have hz:its.length=zs.length:=by rw[←rv.length,List.length_map]
 refine aW (zs:=zs) (I.ok.hd hc) ⟨o,ho,hcl,n,hd⟩ (by simpa using hz) (fun j z e=>?_) hn fun h' tk a S' q1 q2 q3=>?_
 ·obtain⟨u,e1,⟨t,rfl⟩⟩:=rv.get (i:=j) (x:=.str z) (by rw[List.getElem?_map,e];rfl)
  exact⟨t,by simpa using e1⟩
 ·exact⟨.ref a,_,I.laid (a:=a) (o:=Vn X.prog X.w a (tV [] zs)) (h':=h') (t':=tk) q2 q1 (Ke q3),rfl,k a (I.jz.fresh q1)⟩
theorem eF:kD X (.builtin "len") (fun xs H Q=>∃a n,xs=[V.ref a]∧H a=some (Vn X.prog X.w a n)∧Q (.int (n:Nat)) H):=by
 (intro pins s σ H xs us Q I r h)
 obtain⟨a,n,rfl,ha,q⟩:=h
 (obtain⟨u,rfl,ru⟩:=vals1 r)
 cases ru
 obtain⟨S,o,es,ep,t,ho,hex,hd,_,_,hb,hf,hn⟩:=XA I.jz ha
 refine call_len_set ho hex hd hf (by have:es.size < 4096:=hb;omega) ?_
 rw[hn]
 exact⟨.int n,H,I.tok _,⟨_,rfl⟩,q⟩
end
end L2
namespace L2
theorem Zg:∀(seen zs:List PySem.Str),tV seen zs≤zs.length
 | _,[]=>Nat.le_refl _
 | seen,z :: r=>by
  have:=Zg (z :: seen) r
  simp only[tV,List.length_cons]
  split<;>omega
theorem i4:∀(seen zs:List PySem.Str),tV seen zs=zs.length↔zs.Nodup∧∀z∈zs,z∉seen
 | _,[]=>by simp [tV]
 | seen,z :: r=>by
  have h1:=Zg (z :: seen) r
  have h2:=i4 (z :: seen) r
  simp only[tV,List.length_cons,List.nodup_cons,List.mem_cons]
  by_cases q:z∈seen
  ·rw[if_pos q]
   constructor
   ·intro e;omega
   ·rintro ⟨_,h⟩;exact absurd q (h z (.inl rfl))
  ·rw[if_neg q]
   constructor
   ·intro e
    obtain⟨a,b⟩:=h2.mp (by omega)
    refine⟨⟨fun hz=>(b z hz) (by simp),a⟩,?_⟩
    rintro y (rfl | hy)
    ·exact q
    ·exact fun hs=>b y hy (List.mem_cons_of_mem _ hs)
   ·rintro ⟨⟨a,b⟩,c⟩
    have:=h2.mpr ⟨b,fun y hy hs=>?_⟩
    ·omega
    ·rcases List.mem_cons.mp hs with rfl | hs
     ·exact a hy
     ·exact c y (.inr hy) hs
theorem X5 (zs:List PySem.Str):decide (((tV [] zs:Nat):Int)=(zs.length:Nat))=decide zs.Nodup:=by
 have:=i4 [] zs
 rw[decide_eq_decide]
 constructor
 ·intro e;exact(this.mp (by omega)).1
 ·intro e;have:=this.mpr ⟨e,fun _ _ h=>by cases h⟩;omega
end L2
set_option maxRecDepth 100000
namespace My
open PySem PySem.Spec PyProof.Rows L2
seal PE PT PW PA PS iy PI PG Vt PO PC GZ YW
local macro_rules | `(tactic| walk_at "lk")=>`(tactic| first | assumption | exact qw | exact VB (by assumption) (by walk_at "sm") | (refine qg.look (by assumption) ?_;walk_at "lk"))
local macro_rules | `(tactic| walk_at "sq")=>`(tactic| first | assumption | exact q0.of (by walk_at "lk") | exact Vv (by assumption) (by walk_at "sm"))
local macro_rules | `(tactic| walk_at "sqT")=>`(tactic| first | assumption | exact pD.of (by walk_at "lk") | exact seqTS (by assumption) (by walk_at "sm"))
local macro_rules | `(tactic| walk_at "sm")=>`(tactic| first | assumption | exact qg.refl _ | (refine qg.trans ?_ (by assumption);walk_at "sm"))
local macro_rules | `(tactic| walk_at "sz")=>`(tactic| first | with_reducible assumption | with_reducible exact Jg | ((with_reducible apply Jr)<;>walk_at "sz") | ((with_reducible apply slice_len);walk_at "sz") | with_reducible exact Ze _)
local macro_rules | `(tactic| walk_at "num")=>`(tactic| first | decide +kernel | omega | (simp only[List.length_cons,List.length_nil];omega))
local macro_rules | `(tactic| walk_at "lsz")=>`(tactic| first
 | ((with_reducible apply X7);(focus walk_at "sz");(focus walk_at "sz");walk_at "num")
 | ((with_reducible apply qx);first | decide +kernel | (simp only[List.length_cons,List.length_nil,List.length_map,List.length_append];omega))
 | ((with_reducible apply Q4);(focus walk_at "sz");walk_at "num"))
local macro_rules | `(tactic| walk_at "ar")=>`(tactic| first
 | walk_at "lsz"
 | omega
 | (refine And.intro ?_ ?_<;>omega)
 | (refine Or.inl (And.intro ?_ ?_)<;>omega)
 | (refine Or.inr (And.intro ?_ ?_)<;>omega)
 | decide +kernel
 | (show (0:Int) < _;decide +kernel)
 | (show (0:Int) < _;omega)
 | (refine And.intro ?_ (And.intro ?_ ?_)<;>decide +kernel))
local macro_rules | `(tactic| walk_at "lsl")=>`(tactic| first
 | exact mP (by simp only[List.length_cons,List.length_nil,List.length_map,List.length_append];omega)
 | exact mP (by omega))
local macro_rules | `(tactic| walk_at "own")=>`(tactic| fail)
local macro_rules | `(tactic| walk_at "fld")=>`(tactic| fail)
local macro_rules | `(tactic| walk_at "r1")=>`(tactic| (fail_if_success (refine Exists.intro (α:=Nat→Nat→L2.St→Hp→Prop) ?_ ?_));first
 | refine⟨_,rfl,?_⟩
 | refine⟨_,(by walk_at "fld" : Vf _ _ _ _ _),?_⟩
 | refine⟨_,_,rfl,rfl,?_⟩
 | refine⟨_,_,_,_,rfl,rfl,by walk_at "sq",ZI (by walk_at "num") (by walk_at "num"),?_⟩
 | refine⟨_,_,_,_,rfl,rfl,by walk_at "sq",ba (by walk_at "num") (by walk_at "num"),?_⟩
 | refine⟨_,_,_,_,rfl,rfl,by walk_at "sqT",rfl,?_⟩
 | refine⟨_,_,rfl,.inr (by walk_at "sqT"),rfl,rfl,?_⟩
 | refine⟨_,_,rfl,.inl (by walk_at "sq"),rfl,rfl,?_⟩
 | refine⟨_,_,_,rfl,rfl,by walk_at "lsz",ZV (by omega) (by omega),?_⟩
 | refine⟨_,_,_,rfl,rfl,by walk_at "lk",by walk_at "lsl",?_⟩
 | refine⟨_,_,rfl,by walk_at "sq",?_⟩
 | refine⟨_,_,rfl,by walk_at "sqT",rfl,?_⟩
 | (refine And.intro ?_ ?_;· (apply Exists.intro;walk_at "sq"))
 | (refine And.intro (Or.inl (And.intro rfl ?_)) ?_;· (apply Exists.intro;walk_at "sq"))
 | refine⟨_,_,rfl,?_⟩
 | refine⟨_,_,_,rfl,?_⟩
 | refine And.intro rfl ?_
 | (refine And.intro ?_ ?_;· assumption)
 | refine⟨_,_,.type "bool",true,rfl,.inl ⟨_,rfl⟩,gp.bl _,ml _ _,?_⟩
 | refine⟨_,_,.type "str",true,rfl,.inl ⟨_,rfl⟩,gp.str _,ml _ _,?_⟩
 | refine⟨_,_,.type "int",true,rfl,.inl ⟨_,rfl⟩,gp.int _,ml _ _,?_⟩
 | refine⟨_,_,.type "list",true,rfl,.inl ⟨_,rfl⟩,gp.lst (by walk_at "lk"),ml _ _,?_⟩
 | (refine And.intro ?_ ?_;· walk_at "ar")
 | refine gI ?_
 | refine uW ?_
 | refine WZ rfl ?_)
local macro_rules | `(tactic| walk_at "rd")=>`(tactic| repeat (first | walk_at "own" | walk_at "r1"))
local macro_rules | `(tactic| walk_at "rdi")=>`(tactic| repeat (first | walk_at "own" | walk_at "r1" | ((show Nw _ _ _);intro _ _ _ _ _)))
set_option genInjectivity false
set_option genSizeOf false
noncomputable def top (i:Nat):Stmt:=PySem.Challenge.pw_pactway_k28_text_ends.main.body.getD i (.Pass ⟨0,0,0,0⟩)
noncomputable abbrev jV:Stmt:=inClass (top 3) 0
noncomputable abbrev jJ:Stmt:=inClass (top 15) 0
noncomputable abbrev jt:Stmt:=inClass (top 15) 6
noncomputable abbrev j8:Stmt:=inClass (top 16) 0
noncomputable abbrev jR:Stmt:=inClass (top 16) 4
noncomputable abbrev xQ:Stmt:=inClass (top 18) 0
noncomputable abbrev jU:Stmt:=inClass (top 19) 0
noncomputable abbrev xK:Stmt:=inClass (top 21) 0
noncomputable abbrev j7:Stmt:=inClass (top 22) 0
noncomputable abbrev xq:Stmt:=inClass (top 23) 0
noncomputable abbrev j6:Stmt:=top 30
noncomputable abbrev je:Stmt:=top 31
noncomputable abbrev qL:Stmt:=top 32
noncomputable abbrev jM:Stmt:=top 36
noncomputable abbrev jb:Stmt:=top 37
noncomputable abbrev j0:Stmt:=top 38
noncomputable abbrev xJ:Stmt:=top 39
noncomputable abbrev xy:Stmt:=top 40
noncomputable abbrev jW:Stmt:=top 41
noncomputable abbrev jf:Stmt:=top 42
noncomputable abbrev jr:Stmt:=top 43
noncomputable abbrev vw:Stmt:=top 50
noncomputable abbrev ju:Stmt:=top 51
noncomputable abbrev jK:Stmt:=top 52
noncomputable abbrev jw:Stmt:=top 53
noncomputable abbrev jc:Stmt:=top 54
noncomputable abbrev xg:Stmt:=inClass (top 55) 0
noncomputable abbrev q9:Stmt:=inClass (top 55) 1
noncomputable abbrev jD:Stmt:=inClass (top 55) 2
noncomputable abbrev qN:Stmt:=inClass (top 55) 3
noncomputable abbrev qI:Stmt:=inClass (top 55) 4
noncomputable abbrev qF:Stmt:=inClass (top 55) 5
noncomputable abbrev jQ:Stmt:=inClass (top 55) 6
noncomputable abbrev ja:Stmt:=inClass (top 55) 7
noncomputable abbrev j9:Stmt:=top 57
noncomputable abbrev wY:Stmt:=top 58
noncomputable abbrev vp:Stmt:=top 59
noncomputable abbrev xr:Stmt:=top 60
noncomputable abbrev xV:Stmt:=top 61
noncomputable abbrev xW:Stmt:=top 62
noncomputable abbrev wX:Stmt:=top 63
noncomputable abbrev kn:Stmt:=top 64
noncomputable abbrev xj:Stmt:=top 65
noncomputable abbrev jd:Stmt:=top 66
noncomputable abbrev vy:Stmt:=top 67
noncomputable abbrev vC:Stmt:=top 68
structure Def (K:PySem.W.Frag) (mg:Str→Option Value) (x:Str) (st:Stmt) (ps:List Str) (f:Addr) (fd:FuncData):Prop where
 fn:Jn K x x st f fd
 bd:Binds K fd ps []
 mg:mg x=some (.ref f)
structure gE (K:PySem.W.Frag) (x q:Str) (st:Stmt) (ps:List Str) (f:Addr) (fd:FuncData):Prop where
 fn:Jn K x q st f fd
 bd:Binds K fd ps []
structure xh where
 xp:Addr
 xB:FuncData
 qS:Addr
 xb:FuncData
 gC:Addr
 gS:FuncData
 kA:Addr
 yV:FuncData
 pW:Addr
 pT:FuncData
 vV:Addr
 gB:FuncData
 kj:Addr
 wW:FuncData
 yp:Addr
 gi:FuncData
 xE:Addr
 kL:FuncData
 wz:Addr
 yi:FuncData
 kS:Addr
 kC:FuncData
 ka:Addr
 kl:FuncData
 xl:Addr
 xu:FuncData
 wK:Addr
 wQ:FuncData
 kK:Addr
 kX:FuncData
 yn:Addr
 ya:FuncData
 gc:Addr
 gd:FuncData
 yZ:Addr
 yl:FuncData
 vM:Addr
 vR:FuncData
 xF:Addr
 xP:FuncData
 vn:Addr
 vd:FuncData
 mq:Addr
 fK:FuncData
 vq:Addr
 k6:FuncData
 kJ:Addr
 kZ:FuncData
 vj:Addr
 vm:FuncData
 vb:Addr
 vc:FuncData
 wb:Addr
 yu:FuncData
 kf:Addr
 vY:FuncData
 wZ:Addr
 gg:FuncData
 xI:Addr
 vJ:FuncData
 xC:Addr
 vo:FuncData
 xf:Addr
 kd:FuncData
 vP:Addr
 yG:FuncData
 vF:Addr
 yW:FuncData
 wy:Addr
 vT:FuncData
 gK:Addr
 gh:FuncData
 fG:Addr
 mv:FuncData
 bA:Addr
 pe:FuncData
 gP:Addr
 gm:FuncData
 gH:Addr
 gs:FuncData
 dR:Addr
 dP:FuncData
 fF:Addr
 fV:FuncData
 ym:Addr
 yd:FuncData
 vf:Addr
 vz:FuncData
 mX:Addr
 f9:FuncData
 fE:Addr
 dG:FuncData
 bC:Addr
 qU:Addr
 fW:Addr
 gv:Addr
 mW:Addr
 bI:Addr
 fP:Addr
 pz:Addr
 ma:Addr
 gZ:Addr
 d6:Addr
 Xt:Addr
 xG:Addr
 yk:Addr
 kH:Addr
 bg:Addr
 vh:Addr
 md:Addr
 jH:Addr
 jE:Addr
 qC:Addr
 uh:Addr
 fL:Addr
noncomputable def yc:List Str:=["acts","any","be","by","calm","done","else","end","in","let","may","must","not","part","parties","rest","sore","to","whole"]
noncomputable def xw:List Str:=["calm","sore","end"]
noncomputable abbrev qD:Str:="abcdefghijklmnopqrstuvwxyz"
noncomputable abbrev ky:Str:="0123456789"
structure Txt (K:PySem.W.Frag) (mg:Str→Option Value) (t:xh):Prop where
 xn:gE K "__init__" "NoText.__init__" jV ["self","row"] t.xp t.xB
 kM:gE K "__init__" "Clause.__init__" jJ ["self","label","who","act"] t.qS t.xb
 uV:gE K "number" "Clause.number" jt ["self"] t.gC t.gS
 mL:gE K "__init__" "Duty.__init__" j8 ["self","label","who","act","turns","room"] t.kA t.yV
 nL:gE K "number" "Duty.number" jR ["self"] t.pW t.pT
 cH:gE K "__init__" "Ban.__init__" xQ ["self","label","who","act","room"] t.vV t.gB
 pO:gE K "__init__" "Power.__init__" jU ["self","label","who","act","room"] t.kj t.wW
 cM:gE K "__init__" "Let.__init__" xK ["self","name","value"] t.yp t.gi
 wH:gE K "__init__" "Part.__init__" j7 ["self","name","rooms","rows"] t.xE t.kL
 mF:gE K "__init__" "Pact.__init__" xq ["self","parties","acts","rooms","whole"] t.wz t.yi
 jP:Def K mg "is_name" j6 ["word"] t.kS t.kC
 xa:Def K mg "number_of" je ["word"] t.ka t.kl
 jY:Def K mg "written_with" qL ["word","signs","most"] t.xl t.xu
 wN:Def K mg "names_of" jM ["row","word","most"] t.wK t.wQ
 xi:Def K mg "are_names" jb ["words","most"] t.kK t.kX
 yL:Def K mg "room_of" j0 ["row"] t.yn t.ya
 bQ:Def K mg "let_of" xJ ["row"] t.gc t.gd
 y9:Def K mg "part_of" xy ["row"] t.yZ t.yl
 vN:Def K mg "clause_of" jW ["row"] t.vM t.vR
 qH:Def K mg "fits_form" jf ["words","form"] t.xF t.xP
 vk:Def K mg "fits_place" jr ["word","place"] t.vn t.vd
 cy:Def K mg "read" vw ["text"] t.mq t.fK
 j4:Def K mg "read_names" ju ["rows","number","word","most","taken"] t.vq t.k6
 xo:Def K mg "told_once" jK ["names"] t.kJ t.kZ
 vg:Def K mg "read_rooms" jw ["rows","taken"] t.vj t.vm
 k9:Def K mg "read_whole" jc ["rows","start"] t.vb t.vc
 mM:gE K "__init__" "Body.__init__" xg ["self"] t.wb t.yu
 x4:gE K "many_open" "Body.many_open" q9 ["self"] t.kf t.vY
 p8:gE K "takes" "Body.takes" jD ["self","row"] t.wZ t.gg
 wt:gE K "takes_done" "Body.takes_done" qN ["self"] t.xI t.vJ
 wc:gE K "takes_head" "Body.takes_head" qI ["self","head"] t.xC t.vo
 vt:gE K "takes_clause" "Body.takes_clause" qF ["self","clause"] t.xf t.kd
 wx:gE K "put_in" "Body.put_in" jQ ["self","row"] t.vP t.yG
 yJ:gE K "closed" "Body.closed" ja ["self"] t.vF t.yW
 jg:Def K mg "_law_cell_at" j9 ["_law_script","_law_k"] t.wy t.vT
 jl:Def K mg "_law_mix" wY ["_law_cell","_law_k"] t.gK t.gh
 cK:Def K mg "_law_name" vp ["_law_cell","_law_k"] t.fG t.mv
 mK:Def K mg "_law_event" xr ["_law_names","_law_cell","_law_label","_law_depth"] t.bA t.pe
 bf:Def K mg "_law_events" xV ["_law_names","_law_script"] t.gP t.gm
 bZ:Def K mg "_law_header" xW ["_law_names","_law_cell"] t.gH t.gs
 tK:Def K mg "_law_row" wX ["_law_event_here"] t.dR t.dP
 uk:Def K mg "_law_rows" kn ["_law_header_here","_law_events_here"] t.fF t.fV
 yE:Def K mg "_law_no_text" xj ["_law_e"] t.ym t.yd
 qV:Def K mg "_law_refused_at" jd ["_law_text"] t.vf t.vz
 bK:Def K mg "_law_open" vy ["_law_rows_here"] t.mX t.f9
 QQ:Def K mg "law" vC ["_law_script"] t.fE t.dG
 mD:mg "list" = none
 xY:mg "len" = none
 yr:mg "range" = none
 eJ:mg "all" = none
 fH:mg "int" = none
 Xd:mg "str" = none
 qO:mg "isinstance" = none
 Qm:mg "bool" = none
 XX:mg "zip" = none
 fZ:mg "ValueError" = none
 Xu:mg "set" = none
 Zv:mg "KEPT" = some (.ref t.uh)
 rJ:∃tk,mg "LETTERS" = some (.str "abcdefghijklmnopqrstuvwxyz" tk)
 uI:∃tk,mg "FIGURES" = some (.str "0123456789" tk)
 bb:∃tk,mg "MOST_LETTERS" = some (.int 8 tk)
 hZ:∃tk,mg "MOST_FIGURES" = some (.int 20 tk)
 iL:mg "MARKS" = some (.ref t.fL)
 gX:∃tk,mg "MOST_ROOMS" = some (.int 12 tk)
 bF:∃tk,mg "MOST_PARTIES" = some (.int 4 tk)
 dc:∃tk,mg "MOST_ACTS" = some (.int 6 tk)
 dm:∃tk,mg "MOST_ROWS" = some (.int 90 tk)
 du:∃tk,mg "MOST_OPEN" = some (.int 6 tk)
 ve:∃tk,mg "FIRST_ROOM" = some (.int 2 tk)
 dq:mg "PactError" = some (.ref t.bC)
 v7:mg "NoText" = some (.ref t.qU)
 nV:mg "NoName" = some (.ref t.fW)
 cZ:mg "CalmRoom" = some (.ref t.gv)
 nQ:mg "NoDeed" = some (.ref t.mW)
 rk:mg "TooMany" = some (.ref t.bI)
 tH:mg "Breach" = some (.ref t.fP)
 rp:mg "NoStand" = some (.ref t.pz)
 nM:mg "NoPair" = some (.ref t.ma)
 cV:mg "NoChange" = some (.ref t.gZ)
 iU:mg "NoRow" = some (.ref t.d6)
 Wl:mg "Row" = some (.ref t.Xt)
 cb:mg "Clause" = some (.ref t.xG)
 Zm:mg "Duty" = some (.ref t.yk)
 sx:mg "Leave" = some (.ref t.kH)
 XO:mg "Ban" = some (.ref t.bg)
 eX:mg "Power" = some (.ref t.vh)
 XF:mg "Let" = some (.ref t.md)
 ur:mg "Part" = some (.ref t.jH)
 Zw:mg "Pact" = some (.ref t.jE)
 Z8:mg "Body" = some (.ref t.qC)
 Zl:∃(o:Obj) (its:Array Value) (n:Nat),K.lookup t.uh=some o∧o.cls=.type "tuple"∧o.data=.seq its n∧its.size≤sizeLine∧Vals (yc.map V.str) its.toList
 iC:∃(o:Obj) (its:Array Value) (n:Nat),K.lookup t.fL=some o∧o.cls=.type "tuple"∧o.data=.seq its n∧its.size≤sizeLine∧Vals (xw.map V.str) its.toList
 rX:dI K t.xG
 pG:qK K t.xG "act"
 gD:qK K t.xG "label"
 hV:qK K t.xG "room"
 gT:qK K t.xG "turns"
 pR:qK K t.xG "who"
 uO:Mk K t.xG t.qS
 eh:dI K t.yk
 dy:qK K t.yk "act"
 pL:qK K t.yk "label"
 fQ:qK K t.yk "room"
 pP:qK K t.yk "turns"
 m8:qK K t.yk "who"
 lu:Mk K t.yk t.kA
 nK:dI K t.kH
 mj:qK K t.kH "act"
 bR:qK K t.kH "label"
 pB:qK K t.kH "room"
 bu:qK K t.kH "turns"
 mV:qK K t.kH "who"
 cu:Mk K t.kH t.qS
 ZK:dI K t.bg
 cf:qK K t.bg "act"
 fR:qK K t.bg "label"
 di:qK K t.bg "room"
 fe:qK K t.bg "turns"
 cN:qK K t.bg "who"
 oh:Mk K t.bg t.vV
 nu:dI K t.vh
 mw:qK K t.vh "act"
 bH:qK K t.vh "label"
 pS:qK K t.vh "room"
 bw:qK K t.vh "turns"
 mf:qK K t.vh "who"
 ub:Mk K t.vh t.kj
 ik:dI K t.md
 dt:qK K t.md "name"
 fS:qK K t.md "value"
 ZW:Mk K t.md t.yp
 gQ:dI K t.jH
 wJ:qK K t.jH "name"
 yB:qK K t.jH "rooms"
 fO:qK K t.jH "rows"
 fJ:Mk K t.jH t.xE
 mm:dI K t.jE
 mi:qK K t.jE "acts"
 gN:qK K t.jE "parties"
 pC:qK K t.jE "rooms"
 pU:qK K t.jE "whole"
 eZ:Mk K t.jE t.wz
 jn:dI K t.qC
 x5:qK K t.qC "bodies"
 vB:qK K t.qC "heads"
 yv:qK K t.qC "labels"
 il:Mk K t.qC t.wb
 xM:Meth K t.qC "many_open" t.kf
 pH:Meth K t.qC "takes" t.wZ
 wL:Meth K t.qC "takes_done" t.xI
 yq:Meth K t.qC "takes_head" t.xC
 wg:Meth K t.qC "takes_clause" t.xf
 va:Meth K t.qC "put_in" t.vP
 wI:Meth K t.qC "closed" t.vF
 uA:Xs K t.qU
 p9:WN K t.qU
 kU:YT K t.qU t.xp
 ki:qK K t.qU "row"
 wa:PySem.W.exmOne K (.ref t.qU) (.ref t.bC)=some true
 mG:Qh K t.xG "__init__" t.qS
 tE:Qh K t.kH "__init__" t.qS
 y3:PySem.W.kitOne K (.ref t.qU) (.ref t.fW)=some false
 yy:PySem.W.kitOne K (.ref t.qU) (.ref t.gv)=some false
 yS:PySem.W.kitOne K (.ref t.qU) (.ref t.mW)=some false
 ye:PySem.W.kitOne K (.ref t.qU) (.ref t.bI)=some false
 yI:PySem.W.kitOne K (.ref t.qU) (.ref t.fP)=some false
 yo:PySem.W.kitOne K (.ref t.qU) (.ref t.pz)=some false
 yN:PySem.W.kitOne K (.ref t.qU) (.ref t.ma)=some false
 wC:PySem.W.kitOne K (.ref t.qU) (.ref t.gZ)=some false
 gR:PySem.W.kitOne K (.ref t.qU) (.ref t.d6)=some false
 yU:PySem.W.kitOne K (.ref t.qU) (.ref t.qU)=some true
 vI:PySem.W.kitOne K (.ref t.qU) (.type "ValueError")=some true
 dg:PySem.W.kitOne K (.type "int") (.type "bool")=some false
section
variable {P:Program} {w:World} {K:PySem.W.Frag} {mg:Str→Option Value} {base:Heap} {t:xh}
end
structure Good (N:Nat) (x:Str):Prop where
 lo:1≤x.length
 hi:x.length≤N
 as:asc x
structure CF (K:PySem.W.Frag) (C fI:Addr):Prop where
 cl:dI K C
 nl:qK K C "label"
 nw:qK K C "who"
 na:qK K C "act"
 nt:qK K C "turns"
 nr:qK K C "room"
 Hz:Mk K C fI
noncomputable def f3 (l w a:Str):List (Str × V):=[("label",.str l),("who",.str w),("act",.str a)]
noncomputable def f4 (l w a r:Str):List (Str × V):=[("label",.str l),("who",.str w),("act",.str a),("room",.str r)]
noncomputable def f5 (l w a:Str) (n:Int) (r:Str):List (Str × V):=[("label",.str l),("who",.str w),("act",.str a),("turns",.int n),("room",.str r)]
theorem n1:¬(("label" : Str) = "who"):=by decide +kernel
theorem n2:¬(("label" : Str) = "act"):=by decide +kernel
theorem n3:¬(("who" : Str) = "act"):=by decide +kernel
theorem n4:¬(("label" : Str) = "room"):=by decide +kernel
theorem n5:¬(("who" : Str) = "room"):=by decide +kernel
theorem n6:¬(("act" : Str) = "room"):=by decide +kernel
theorem n7:¬(("label" : Str) = "turns"):=by decide +kernel
theorem n8:¬(("who" : Str) = "turns"):=by decide +kernel
theorem n9:¬(("act" : Str) = "turns"):=by decide +kernel
theorem GF:¬(("turns" : Str) = "room"):=by decide +kernel
theorem put3 (l w a:Str):qY "act" (.str a) (qY "who" (.str w) (qY "label" (.str l) []))=f3 l w a:=by
 simp only[qY,f3,if_neg n1,if_neg n2,if_neg n3]
theorem Wj (l w a r:Str):qY "room" (.str r) (f3 l w a)=f4 l w a r:=by
 simp only[qY,f3,f4,if_neg n4,if_neg n5,if_neg n6]
theorem Yc (l w a:Str) (n:Int) (r:Str):qY "room" (.str r) (qY "turns" (.int n) (f3 l w a))=f5 l w a n r:=by
 simp only[qY,f3,f5,if_neg n7,if_neg n8,if_neg n9,if_neg n4,if_neg n5,if_neg n6,if_neg GF]
noncomputable def Kz (k:Int) (l w a:Str) (n:Int) (r:Str):List (Str × V):=if k=0 then f5 l w a n r else if k=2∨k=3 then f4 l w a r else f3 l w a
theorem j5 {x:Str} {v:V} {r:List (Str × V)}:List.lookup x ((x,v) :: r)=some v:=by simp [List.lookup]
theorem kx {x y:Str} {v:V} {r:List (Str × V)} (h:¬(x=y)):List.lookup x ((y,v) :: r)=List.lookup x r:=by
 have:(x == y)=false:=beq_eq_false_iff_ne.mpr h
 simp [List.lookup,this]
theorem og (k:Int) (l w a:Str) (n:Int) (r:Str):(Kz k l w a n r).lookup ("label" : Str)=some (.str l):=by
 unfold Kz;split
 ·exact j5
 ·split<;>exact j5
noncomputable def Z6 (t:xh) (k:Int):Addr:=if k=0 then t.yk else if k=1 then t.kH else if k=2 then t.bg else if k=3 then t.vh else t.xG
noncomputable def At (t:xh) (H:Hp) (p:Addr) (k:Int) (l w a:Str) (n:Int) (r:Str):Prop:=∃dx,H p=some (.ins (Z6 t k) dx (Kz k l w a n r))
noncomputable def Z7 (K:PySem.W.Frag):Sp:=fun vs H Q _=>∃(p C dx fI:Addr) (l w a:Str),vs=[.ref p,.str l,.str w,.str a]∧CF K C fI∧H p=some (.ins C dx [])∧Q .non (upd H p (.ins C dx (f3 l w a)))
noncomputable def Jj (K:PySem.W.Frag):Sp:=fun vs H Q _=>∃(p C dx fI:Addr) (l w a r:Str),vs=[.ref p,.str l,.str w,.str a,.str r]∧CF K C fI∧H p=some (.ins C dx [])∧Q .non (upd H p (.ins C dx (f4 l w a r)))
noncomputable def Ws (K:PySem.W.Frag):Sp:=fun vs H Q _=>∃(p C dx fI:Addr) (l w a:Str) (n:Int) (r:Str),vs=[.ref p,.str l,.str w,.str a,.int n,.str r]∧CF K C fI∧H p=some (.ins C dx [])∧Q .non (upd H p (.ins C dx (f5 l w a n r)))
theorem ie {K:PySem.W.Frag} {mg:Str→Option Value} {t:xh} (T:Txt K mg t):CF K t.yk t.kA:=⟨T.eh,T.pL,T.m8,T.dy,T.pP,T.fQ,T.lu⟩
theorem tS {K:PySem.W.Frag} {mg:Str→Option Value} {t:xh} (T:Txt K mg t):CF K t.kH t.qS:=⟨T.nK,T.bR,T.mV,T.mj,T.bu,T.pB,T.cu⟩
theorem Q7 {K:PySem.W.Frag} {mg:Str→Option Value} {t:xh} (T:Txt K mg t):CF K t.bg t.vV:=⟨T.ZK,T.fR,T.cN,T.cf,T.fe,T.di,T.oh⟩
theorem sH {K:PySem.W.Frag} {mg:Str→Option Value} {t:xh} (T:Txt K mg t):CF K t.vh t.kj:=⟨T.nu,T.bH,T.mf,T.mw,T.bw,T.pS,T.ub⟩
theorem eE {K:PySem.W.Frag} {mg:Str→Option Value} {t:xh} (T:Txt K mg t):CF K t.xG t.qS:=⟨T.rX,T.gD,T.pR,T.pG,T.gT,T.hV,T.uO⟩
theorem VG {K:PySem.W.Frag} {mg:Str→Option Value} {t:xh} (T:Txt K mg t) (k:Int):∃fI,CF K (Z6 t k) fI:=by
 unfold Z6
 split
 ·exact⟨_,ie T⟩
 split
 ·exact⟨_,tS T⟩
 split
 ·exact⟨_,Q7 T⟩
 split
 ·exact⟨_,sH T⟩
 ·exact⟨_,eE T⟩
section
variable {K:PySem.W.Frag} {mg:Str→Option Value} {t:xh} {H:Hp} {p:Addr} {k:Int} {l w a:Str} {n:Int} {r:Str} {Q:VK}
theorem At.fl (T:Txt K mg t) (h:At t H p k l w a n r):Vf K H (.ref p) "label" (.str l):=by
 obtain⟨dx,e⟩:=h
 obtain⟨fI,F⟩:=VG T k
 exact⟨p,_,dx,_,rfl,e,F.cl,F.nl,og _ _ _ _ _ _⟩
end
section
variable {P:Program} {w:World} {K:PySem.W.Frag} {mg:Str→Option Value} {base:Heap} {t:xh}
theorem cJ:qQ ["self","label","who","act"] ["self","label","who","act"] (z5 jJ):=⟨rfl,rfl,rfl,by decide +kernel,rfl,by decide +kernel,by decide +kernel⟩
set_option maxHeartbeats 400000 in
theorem vZ (T:Txt K mg t):qJ P w K mg base jX 1 t.qS t.xb ["self","label","who","act"] (Z7 K):=by
 refine T.kM.fn.ok cJ (fun vs H Q E h=>(by obtain⟨_,_,_,_,_,_,_,rfl,_⟩:=h;rfl)) (fun cdv A outer s H vs Q E hr h=>?_)
 obtain⟨p,C,dx,fI,l,w,a,rfl,F,hp,k⟩:=h
 refine⟨_,(z6 (xX (pv 0) (pv 1) rfl)
   (z6 (xX (pv 0) (pv 2) rfl)
   (z9 (xX (pv 0) (pv 3) rfl)))),?_⟩
 refine⟨_,rfl,_,rfl,p,C,dx,[],rfl,hp,F.cl,F.nl,(by show 0 < 1000;decide),?_⟩
 refine⟨_,rfl,_,rfl,p,C,dx,_,rfl,qw,F.cl,F.nw,(by show 1 < 1000;decide),?_⟩
 refine⟨_,rfl,_,rfl,p,C,dx,_,rfl,qw,F.cl,F.na,?_,?_⟩
 ·have:=xt ("who" : Str) (.str w) (qY "label" (.str l) [])
  have e:(qY ("label" : Str) (.str l) []).length=1:=rfl
  omega
 ·rw[yQ,yQ,put3]
  exact k
theorem sk:qQ ["self","label","who","act","turns","room"] ["self","label","who","act","turns","room"] (z5 j8):=⟨rfl,rfl,rfl,by decide +kernel,rfl,by decide +kernel,by decide +kernel⟩
set_option maxHeartbeats 400000 in
theorem rT (T:Txt K mg t):qJ P w K mg base jX 2 t.kA t.yV ["self","label","who","act","turns","room"] (Ws K):=by
 have G_Clause_init:qJ P w K mg base jX 1 t.qS t.xb ["self","label","who","act"] (Z7 K):=(vZ T).mono (by decide)
 refine T.mL.fn.ok sk (fun vs H Q E h=>(by obtain⟨_,_,_,_,_,_,_,_,_,rfl,_⟩:=h;rfl)) (fun cdv A outer s H vs Q E hr h=>?_)
 obtain⟨p,C,dx,fI,l,w,a,n,r,rfl,F,hp,k⟩:=h
 refine⟨_,(z6 (xS (uv rfl T.cb T.mG G_Clause_init hr T.kM.bd .nil qX (z4 (pv 0) (z4 (pv 1) (z4 (pv 2) (z4 (pv 3) z7))))))
   (z6 (xX (pv 0) (pv 4) rfl)
   (z9 (xX (pv 0) (pv 5) rfl)))),?_⟩
 refine⟨_,rfl,_,rfl,_,rfl,_,rfl,p,C,dx,fI,l,w,a,rfl,F,hp,?_⟩
 refine⟨_,rfl,_,rfl,p,C,dx,_,rfl,qw,F.cl,F.nt,(by show 3 < 1000;decide),?_⟩
 refine⟨_,rfl,_,rfl,p,C,dx,_,rfl,qw,F.cl,F.nr,?_,?_⟩
 ·have:=xt ("turns" : Str) (.int n) (f3 l w a)
  have e:(f3 l w a).length=3:=rfl
  omega
 ·rw[yQ,yQ,Yc]
  exact k
theorem tF:qQ ["self","label","who","act","room"] ["self","label","who","act","room"] (z5 xQ):=⟨rfl,rfl,rfl,by decide +kernel,rfl,by decide +kernel,by decide +kernel⟩
set_option maxHeartbeats 400000 in
theorem nZ (T:Txt K mg t):qJ P w K mg base jX 2 t.vV t.gB ["self","label","who","act","room"] (Jj K):=by
 have G_Clause_init:qJ P w K mg base jX 1 t.qS t.xb ["self","label","who","act"] (Z7 K):=(vZ T).mono (by decide)
 refine T.cH.fn.ok tF (fun vs H Q E h=>(by obtain⟨_,_,_,_,_,_,_,_,rfl,_⟩:=h;rfl)) (fun cdv A outer s H vs Q E hr h=>?_)
 obtain⟨p,C,dx,fI,l,w,a,r,rfl,F,hp,k⟩:=h
 refine⟨_,(z6 (xS (uv rfl T.cb T.mG G_Clause_init hr T.kM.bd .nil qX (z4 (pv 0) (z4 (pv 1) (z4 (pv 2) (z4 (pv 3) z7))))))
   (z9 (xX (pv 0) (pv 4) rfl))),?_⟩
 refine⟨_,rfl,_,rfl,_,rfl,_,rfl,p,C,dx,fI,l,w,a,rfl,F,hp,?_⟩
 refine⟨_,rfl,_,rfl,p,C,dx,_,rfl,qw,F.cl,F.nr,(by show 3 < 1000;decide),?_⟩
 rw[yQ,Wj]
 exact k
theorem uH:qQ ["self","label","who","act","room"] ["self","label","who","act","room"] (z5 jU):=⟨rfl,rfl,rfl,by decide +kernel,rfl,by decide +kernel,by decide +kernel⟩
set_option maxHeartbeats 400000 in
theorem uY (T:Txt K mg t):qJ P w K mg base jX 2 t.kj t.wW ["self","label","who","act","room"] (Jj K):=by
 have G_Clause_init:qJ P w K mg base jX 1 t.qS t.xb ["self","label","who","act"] (Z7 K):=(vZ T).mono (by decide)
 refine T.pO.fn.ok uH (fun vs H Q E h=>(by obtain⟨_,_,_,_,_,_,_,_,rfl,_⟩:=h;rfl)) (fun cdv A outer s H vs Q E hr h=>?_)
 obtain⟨p,C,dx,fI,l,w,a,r,rfl,F,hp,k⟩:=h
 refine⟨_,(z6 (xS (uv rfl T.sx T.tE G_Clause_init hr T.kM.bd .nil qX (z4 (pv 0) (z4 (pv 1) (z4 (pv 2) (z4 (pv 3) z7))))))
   (z9 (xX (pv 0) (pv 4) rfl))),?_⟩
 refine⟨_,rfl,_,rfl,_,rfl,_,rfl,p,C,dx,fI,l,w,a,rfl,F,hp,?_⟩
 refine⟨_,rfl,_,rfl,p,C,dx,_,rfl,qw,F.cl,F.nr,(by show 3 < 1000;decide),?_⟩
 rw[yQ,Wj]
 exact k
theorem y4 {H:Hp} {x dx:Addr} {o o':HO} (hx:H x=none) (hdx:H dx=none) (hne:dx≠x):qg H (upd (upd (upd H dx (.own x)) x o) x o'):=by
 rw[yQ]
 exact(qg.uP hdx).new (by rw[qW (Ne.symm hne)];exact hx)
end
theorem iZ:ky.length=10∧ky.cps.toList=[48,49,50,51,52,53,54,55,56,57]:=by decide +kernel
theorem iT:qD.length=26∧qD.cps.toList.length=26∧∀c∈qD.cps.toList,c < 128:=by decide +kernel
noncomputable def has (z:Str) (c:Nat):Bool:=!(Builtin.Str.occurrences z ⟨#[c]⟩ 0 z.length 1).isEmpty
noncomputable def g7 (x z:Str) (m:Int):Bool:=decide (1≤x.length) && decide ((x.length:Int)≤m) && x.cps.toList.all (has z)
noncomputable def qe (x:Str):Bool:=g7 x qD 8 && !JT (.str x) (yc.map V.str)
theorem aq:(yc.map V.str).all pF=true:=by decide +kernel
theorem tP (c:Nat):has ky c=decide (48≤c∧c≤57):=by
 unfold has
 rw[StrLaws.found_one,iZ.2]
 by_cases h:48≤c∧c≤57
 ·rw[decide_eq_true h]
  simp
  omega
 ·rw[decide_eq_false h]
  simp
  omega
noncomputable def gw (x:Str):Int:=if g7 x ky 20=true∧x.cps.toList.head?≠some 48 then ((PySem.NumText.digitsVal x.cps.toList:Nat):Int) else 0
noncomputable def oY:Sp:=fun vs H Q _=>∃(x z:Str) (m:Int),vs=[.str x,.str z,.int m]∧x.length≤400∧z.length≤100∧∀H',qg H H'→Q (.bl (g7 x z m)) H'
noncomputable def lN:Sp:=fun vs H Q _=>∃(x:Str),vs=[.str x]∧x.length≤400∧∀H',qg H H'→Q (.bl (qe x)) H'
noncomputable def ZY:Sp:=fun vs H Q _=>∃(x:Str),vs=[.str x]∧x.length≤400∧∀H',qg H H'→Q (.int (gw x)) H'
theorem ZX {x z:Str} {bs:List Bool} (hl:bs.length=x.length) (h:∀(i:Nat) (c:Nat) (b:Bool),x.cps.toList[i]?=some c→bs[i]?=some b→b=has z c):bs.all id=x.cps.toList.all (has z):=by
 have e:bs=x.cps.toList.map (has z):=by
  apply List.ext_getElem?
  intro i
  rw[List.getElem?_map]
  cases q:x.cps.toList[i]? with
  | none=>
   have:x.cps.toList.length≤i:=List.getElem?_eq_none_iff.mp q
   exact List.getElem?_eq_none_iff.mpr (by rw[hl];simpa [Str.length] using this)
  | some c=>
   have hi:i < bs.length:=by
    rw[hl]
    have:=(List.getElem?_eq_some_iff.mp q).1
    simpa [Str.length] using this
   rw[List.getElem?_eq_getElem hi,Option.map_some,h i c _ q (List.getElem?_eq_getElem hi)]
 rw[e,List.all_map]
 rfl
theorem m9 {x:Str} {m:Int} (h:g7 x ky m=true):1≤x.length∧(x.length:Int)≤m∧PySem.NumText.AllDigits x.cps.toList:=by
 unfold g7 at h
 rw[Bool.and_eq_true,Bool.and_eq_true] at h
 obtain⟨⟨h1,h2⟩,h3⟩:=h
 refine⟨of_decide_eq_true h1,of_decide_eq_true h2,fun c hc=>?_⟩
 have:=List.all_eq_true.mp h3 c hc
 rw[tP] at this
 exact of_decide_eq_true this
theorem nD {x:Str} (h:1≤x.length):∃c,x.cps.toList.head?=some c∧uL x.cps.toList 0=some c:=by
 have hl:0 < x.cps.toList.length:=by have h':1≤x.cps.size:=h;rw[Array.length_toList];omega
 cases e:x.cps.toList with
 | nil=>rw[e] at hl;simp at hl
 | cons c r=>exact⟨c,rfl,sr (xs:=c :: r) (j:=0) (v:=c) rfl⟩
theorem KW (c d:Nat):decide (V.str ⟨#[c]⟩=V.str ⟨#[d]⟩)=decide (c=d):=by
 by_cases h:c=d
 ·subst h;simp
 ·have:¬(V.str ⟨#[c]⟩=V.str ⟨#[d]⟩):=fun q=>h (by injection q with q;injection q with q;simpa using q)
  rw[decide_eq_false this,decide_eq_false h]
theorem ZL:("0" : Str)=⟨#[48]⟩:=by decide +kernel
section
variable {P:Program} {w:World} {K:PySem.W.Frag} {mg:Str→Option Value} {base:Heap} {t:xh}
theorem JK (T:Txt K mg t) (H:Hp):pD K H t.uh (yc.map V.str):=.inr T.Zl
theorem mJ:qQ ["word","signs","most"] ["word","signs","most"] (z5 qL):=⟨rfl,rfl,rfl,by decide +kernel,rfl,by decide +kernel,by decide +kernel⟩
set_option maxHeartbeats 400000 in
theorem yK (T:Txt K mg t):qJ P w K mg base jX 1 t.xl t.xu ["word","signs","most"] oY:=by
 refine T.jY.fn.ok mJ (fun vs H Q E h=>(by obtain⟨_,_,_,rfl,_⟩:=h;rfl)) (fun cdv A outer s H vs Q E hr h=>?_)
 obtain⟨x,z,m,rfl,hx,hz,k⟩:=h
 refine⟨_,(z6 (qG (PW.pt (kR (qp cT (qZ fi rfl T.xY PySem.boot_len (z4 (pv 0) z7)) z8 (qr _)) (kP (qp uz (qZ fi rfl T.xY PySem.boot_len (z4 (pv 0) z7)) (pv 2) (qr _)))))
    (z9 (qy kI)) qm)
   (z9 (qy (qZ (yY rfl) rfl T.eJ PyProof.Rows.boot_all (z4 (mr (osc:=z5 qL) (N:=["word","signs","most"]) (names:=["signs"]) (qM:=[1]) rfl rfl rfl ⟨rfl,by decide +kernel,by decide +kernel,by decide +kernel,rfl,rfl,by decide +kernel,by decide +kernel⟩ (K4 (pv 0)) (fun _ _ _=>(kg aX (pv 0) (pv 1) rfl))) z7))))),?_⟩
 refine⟨_,rfl,x,rfl,qx (by omega),_,_,rfl,rfl,_,rfl,?_⟩
 refine jy (fun h1=>uW ?_) (fun h1=>?_)
 ·have e:g7 x z m=false:=by
   have:¬(1≤x.length):=by have:=of_decide_eq_true h1;omega
   simp [g7,this]
  have:=k H (qg.refl H)
  rw[e] at this
  exact this
 refine⟨_,rfl,x,rfl,qx (by omega),_,rfl,_,_,rfl,rfl,_,rfl,?_⟩
 refine jy (fun h2=>?_) (fun h2=>?_)
 ·have e:g7 x z m=false:=by
   have:¬((x.length:Int)≤m):=by have:=of_decide_eq_true h2;omega
   simp [g7,this]
  have:=k H (qg.refl H)
  rw[e] at this
  exact this
 have e1:1≤x.length:=by have:¬((x.length:Int) < 1):=fun q=>h1 (decide_eq_true q);omega
 have e2:(x.length:Int)≤m:=by have:¬(m < (x.length:Int)):=fun q=>h2 (decide_eq_true q);omega
 refine⟨_,rfl,x,rfl,gq (Za (z:=x)) (fun _ y v=>∀c,y=.str ⟨#[c]⟩→v=.bl (has z c)) (qx (by simp [Str.length] at hx ⊢;omega)) ?_ ?_⟩
 ·intro i y H' Q' hy s' kk
  rw[List.getElem?_map] at hy
  cases q:x.cps.toList[i]? with
  | none=>rw[q] at hy;cases hy
  | some c=>
   rw[q] at hy
   cases hy
   refine⟨_,rfl,_,rfl,_,_,rfl,rfl,kk _ _ (qg.refl _) fun c' e=>?_⟩
   have:c=c':=by simpa using e
   subst this
   rfl
 ·intro D H' ys s' hD hy hlen hp
  have hlen':ys.length=x.length:=by simpa [Str.length] using hlen
  obtain⟨bs,rfl⟩:=sW ys fun v hv=>by
   obtain⟨i,hi,e⟩:=List.getElem_of_mem hv
   have hix:i < x.cps.toList.length:=by rw[hlen'] at hi;simpa [Str.length] using hi
   exact⟨_,hp i _ v (by rw[List.getElem?_map,List.getElem?_eq_getElem hix];rfl) (by rw[List.getElem?_eq_getElem hi,e]) _ rfl⟩
  refine⟨D,bs,rfl,q0.of hy,?_⟩
  have e3:bs.all id=x.cps.toList.all (has z):=ZX (by simpa using hlen') fun i c b q1 q2=>by
   have:=hp i (.str ⟨#[c]⟩) (.bl b) (by rw[List.getElem?_map,q1];rfl) (by rw[List.getElem?_map,q2];rfl) c rfl
   simpa using this
  have:=k H' s'
  rw[show g7 x z m=bs.all id by rw[e3];simp [g7,e1,e2]] at this
  exact this
theorem lL:qQ ["word"] ["word"] (z5 j6):=⟨rfl,rfl,rfl,by decide +kernel,rfl,by decide +kernel,by decide +kernel⟩
set_option maxHeartbeats 400000 in
theorem gb (T:Txt K mg t):qJ P w K mg base jX 2 t.kS t.kC ["word"] lN:=by
 have G_v_written_with:qJ P w K mg base jX 1 t.xl t.xu ["word","signs","most"] oY:=(yK T).mono (by decide)
 refine T.jP.fn.ok lL (fun vs H Q E h=>(by obtain⟨_,rfl,_⟩:=h;rfl)) (fun cdv A outer s H vs Q E hr h=>?_)
 obtain⟨x,rfl,hx,k⟩:=h
 refine⟨_,(z9 (qy (lW (qu G_v_written_with hr rfl T.jY.mg T.jY.fn.kp T.jY.bd .nil qX (z4 (pv 0) (z4 (jv rfl (T.rJ).choose_spec (v:=.str qD) ⟨_,rfl⟩) (z4 (jv rfl (T.bb).choose_spec (v:=.int 8) ⟨_,rfl⟩) z7)))) (lU (kg (rz (K:=K) rfl) (pv 0) (jv rfl T.Zv (v:=.ref t.uh) rfl) rfl))))),?_⟩
 refine⟨_,rfl,x,qD,8,rfl,hx,by decide +kernel,fun H' s'=>⟨_,rfl,?_⟩⟩
 refine jy (fun h1=>?_) (fun h1=>?_)
 ·refine⟨_,rfl,_,_,rfl,.inr (JK T H'),rfl,aq,?_⟩
  have:=k H' s'
  rw[show qe x = !JT (.str x) (yc.map V.str) by simp [qe,h1]] at this
  exact this
 ·have:=k H' s'
  rw[show qe x=false by simp [qe,h1]] at this
  exact this
theorem cS:qQ ["word"] ["word"] (z5 je):=⟨rfl,rfl,rfl,by decide +kernel,rfl,by decide +kernel,by decide +kernel⟩
set_option maxHeartbeats 400000 in
theorem bD (T:Txt K mg t):qJ P w K mg base jX 2 t.ka t.kl ["word"] ZY:=by
 have G_v_written_with:qJ P w K mg base jX 1 t.xl t.xu ["word","signs","most"] oY:=(yK T).mono (by decide)
 refine T.xa.fn.ok cS (fun vs H Q E h=>(by obtain⟨_,rfl,_⟩:=h;rfl)) (fun cdv A outer s H vs Q E hr h=>?_)
 obtain⟨x,rfl,hx,k⟩:=h
 refine⟨_,(z6 (qG (PW.pt (kR (w4 (jC (qu G_v_written_with hr rfl T.jY.mg T.jY.fn.kp T.jY.bd .nil qX (z4 (pv 0) (z4 (jv rfl (T.uI).choose_spec (v:=.str ky) ⟨_,rfl⟩) (z4 (jv rfl (T.hZ).choose_spec (v:=.int 20) ⟨_,rfl⟩) z7)))))) (kP (qp jh (qo bP (pv 0) z8 (fun _ _=>rfl)) qj (qr _)))))
    (z9 (qy z8)) qm)
   (z9 (qy (jB uF rfl T.fH PyProof.Rows.boot_int (z4 (pv 0) z7))))),?_⟩
 refine⟨_,rfl,x,ky,20,rfl,hx,by rw[iZ.1];decide,fun H' s'=>⟨_,rfl,?_⟩⟩
 cases hw:g7 x ky 20 with
 | false=>
  refine uW (uW ?_)
  have:=k H' s'
  rw[show gw x=0 by unfold gw;rw[if_neg (by rw[hw];simp)]] at this
  exact this
 | true=>
  refine gI ?_
  obtain⟨h1,h2,h3⟩:=m9 hw
  obtain⟨c,e1,e2⟩:=nD h1
  refine⟨_,rfl,x,_,c,rfl,rfl,qx (by omega),e2,rfl,_,rfl,?_⟩
  have hz:=KW c 48
  rw[←ZL] at hz
  refine jy (fun h4=>?_) (fun h4=>?_)
  ·have h4':decide (V.str ⟨#[c]⟩=V.str ("0" : Str))=true:=h4
   rw[hz] at h4'
   have hc:c=48:=of_decide_eq_true h4'
   have:=k H' s'
   rw[show gw x=0 by unfold gw;rw[if_neg (by rw[e1,hc];simp)]] at this
   exact this
  ·have hc:c≠48:=fun q=>h4 (by show decide (V.str ⟨#[c]⟩=V.str ("0" : Str))=true;rw[hz];exact decide_eq_true q)
   have hne:x.cps.toList≠[]:=fun q=>by rw[q] at e1;cases e1
   refine⟨_,rfl,x,_,rfl,PySem.intText_digits h3 hne (by omega),by omega,?_⟩
   have:=k H' s'
   rw[show gw x=((PySem.NumText.digitsVal x.cps.toList:Nat):Int) by unfold gw;rw[if_pos ⟨hw,by rw[e1];simpa using hc⟩]] at this
   exact this
end
local macro_rules | `(tactic| walk_at "at")=>`(tactic| first | assumption | exact At.same (by assumption) (by walk_at "sm"))
local macro_rules | `(tactic| walk_at "fld")=>`(tactic| first
 | with_reducible exact At.fl (by assumption) (by walk_at "at") | with_reducible exact At.fw (by assumption) (by walk_at "at") | with_reducible exact At.fa (by assumption) (by walk_at "at")
 | with_reducible exact At.ft (by assumption) (by walk_at "at") | with_reducible exact At.fr (by assumption) (by walk_at "at") (by first | assumption | omega))
section
variable {P:Program} {w:World} {K:PySem.W.Frag} {mg:Str→Option Value} {base:Heap} {t:xh}
end
noncomputable def wq (x p:Str):Bool:=if p = "NAME" then qe x else if p = "WHO" then qe x || decide (x = "any") else if p = "NUMBER" then decide (gw x > 0) else decide (x=p)
noncomputable def xU (ws fs:List Str):Bool:=decide (ws.length=fs.length) && (ws.zip fs).all fun p=>wq p.1 p.2
noncomputable def pV (ws:List Str) (m:Int):Bool:=decide (1≤ws.length) && decide ((ws.length:Int)≤m) && ws.all qe
structure Sh (ws:List Str):Prop where
 lV:ws.length≤200
 short:∀x∈ws,x.length≤400
theorem Sh.drop {ws:List Str} (h:Sh ws) (n:Nat):Sh (ws.drop n):=⟨by have:=h.lV;rw[List.length_drop];omega,fun x hx=>h.short x (List.mem_of_mem_drop hx)⟩
theorem Sh.take {ws:List Str} (h:Sh ws) (n:Nat):Sh (ws.take n):=⟨by have:=h.lV;rw[List.length_take];omega,fun x hx=>h.short x (List.mem_of_mem_take hx)⟩
theorem b9 (a b:Str):decide (V.str a=V.str b)=decide (a=b):=by
 by_cases h:a=b
 ·subst h;simp
 ·have:¬(V.str a=V.str b):=fun q=>h (by injection q)
  rw[decide_eq_false this,decide_eq_false h]
theorem dM {a b:Str} (h:decide (V.str a=V.str b)=true):a=b:=by rw[b9] at h;exact of_decide_eq_true h
theorem dB {a b:Str} (h:¬decide (V.str a=V.str b)=true):a≠b:=fun q=>h (by rw[b9];exact decide_eq_true q)
theorem iS {a b:Str} (h:(!decide (V.str a=V.str b))=true):a≠b:=fun q=>by subst q;simp at h
theorem i3 {a b:Str} (h:¬(!decide (V.str a=V.str b))=true):a=b:=by
 rw[b9] at h
 by_cases q:a=b
 ·exact q
 ·exact absurd (by rw[decide_eq_false q];rfl) h
theorem cY {b:Bool} (h:(!b)=true):b=false:=by cases b;rfl;cases h
theorem uy {b:Bool} (h:¬(!b)=true):b=true:=by cases b;exact absurd rfl h;rfl
theorem p7 {ws:List Str} {i:Nat} (h:i < ws.length):ws.getD i ""∈ws:=by
 rw[List.getD_eq_getElem?_getD,List.getElem?_eq_getElem h]
 exact List.getElem_mem h
noncomputable def iF:Sp:=fun vs H Q _=>∃(x p:Str),vs=[.str x,.str p]∧x.length≤400∧∀H',qg H H'→Q (.bl (wq x p)) H'
noncomputable def lx (K:PySem.W.Frag):Sp:=fun vs H Q _=>∃(a b:Addr) (ws fs:List Str),vs=[.ref a,.ref b]∧q0 K H a (ws.map V.str)∧q0 K H b (fs.map V.str)∧Sh ws∧∀H',qg H H'→Q (.bl (xU ws fs)) H'
noncomputable def Zi (K:PySem.W.Frag):Sp:=fun vs H Q _=>∃(a:Addr) (m:Int) (ws:List Str),vs=[.ref a,.int m]∧q0 K H a (ws.map V.str)∧Sh ws∧∀H',qg H H'→Q (.bl (pV ws m)) H'
theorem all_map {α:Type} {xs:List α} {bs:List Bool} {f:α→Bool} (hl:bs.length=xs.length) (h:∀(i:Nat) x b,xs[i]?=some x→bs[i]?=some b→b=f x):bs.all id=xs.all f:=by
 have e:bs=xs.map f:=by
  apply List.ext_getElem?
  intro i
  rw[List.getElem?_map]
  cases q:xs[i]? with
  | none=>exact List.getElem?_eq_none_iff.mpr (by rw[hl];exact List.getElem?_eq_none_iff.mp q)
  | some c=>
   have hi:i < bs.length:=by rw[hl];exact(List.getElem?_eq_some_iff.mp q).1
   rw[List.getElem?_eq_getElem hi,Option.map_some,h i c _ q (List.getElem?_eq_getElem hi)]
 rw[e,List.all_map]
 rfl
section
variable {P:Program} {w:World} {K:PySem.W.Frag} {mg:Str→Option Value} {base:Heap} {t:xh}
theorem da:qQ ["word","place"] ["word","place"] (z5 jr):=⟨rfl,rfl,rfl,by decide +kernel,rfl,by decide +kernel,by decide +kernel⟩
set_option maxHeartbeats 400000 in
theorem dQ (T:Txt K mg t):qJ P w K mg base jX 3 t.vn t.vd ["word","place"] iF:=by
 have G_v_is_name:qJ P w K mg base jX 2 t.kS t.kC ["word"] lN:=(gb T).mono (by decide)
 have G_v_number_of:qJ P w K mg base jX 2 t.ka t.kl ["word"] ZY:=(bD T).mono (by decide)
 refine T.vk.fn.ok da (fun vs H Q E h=>(by obtain⟨_,_,rfl,_⟩:=h;rfl)) (fun cdv A outer s H vs Q E hr h=>?_)
 obtain⟨x,p,rfl,hx,k⟩:=h
 refine⟨_,(z6 (qG (qp jh (pv 1) qj (qr _))
    (z9 (qy (qu G_v_is_name hr rfl T.jP.mg T.jP.fn.kp T.jP.bd .nil qX (z4 (pv 0) z7)))) qm)
   (z6 (qG (qp jh (pv 1) qj (qr _))
    (z9 (qy (Wc (qu G_v_is_name hr rfl T.jP.mg T.jP.fn.kp T.jP.bd .nil qX (z4 (pv 0) z7)) (lU (kg jh (pv 0) qj (qr _)))))) qm)
   (z6 (qG (qp jh (pv 1) qj (qr _))
    (z9 (qy (kg uz (qu G_v_number_of hr rfl T.xa.mg T.xa.fn.kp T.xa.bd .nil qX (z4 (pv 0) z7)) z8 (qr _)))) qm)
   (z9 (qy (kg jh (pv 0) (pv 1) (qr _))))))),?_⟩
 walk_at "rd"
 refine jy (fun h1=>?_) (fun h1=>?_)
 ·have e:=dM h1
  subst e
  walk_at "rd"
  intro H' s'
  have:=k H' s'
  unfold wq at this
  rw[if_pos rfl] at this
  exact this
 have n1:=dB h1
 walk_at "rd"
 refine jy (fun h2=>?_) (fun h2=>?_)
 ·have e:=dM h2
  subst e
  walk_at "rd"
  intro H' s'
  have:=k H' s'
  unfold wq at this
  rw[if_neg n1,if_pos rfl] at this
  refine⟨_,rfl,?_⟩
  refine jy (fun h3=>?_) (fun h3=>?_)
  ·rw[h3] at this;exact this
  ·walk_at "rd"
   rw[b9]
   rw[Bool.eq_false_iff.mpr h3] at this
   exact this
 have n2:=dB h2
 walk_at "rd"
 refine jy (fun h3=>?_) (fun h3=>?_)
 ·have e:=dM h3
  subst e
  walk_at "rd"
  intro H' s'
  walk_at "rd"
  have:=k H' s'
  unfold wq at this
  rw[if_neg n1,if_neg n2,if_pos rfl] at this
  exact this
 have n3:=dB h3
 walk_at "rd"
 have:=k H (qg.refl H)
 unfold wq at this
 rw[if_neg n1,if_neg n2,if_neg n3] at this
 rw[b9]
 exact this
theorem uq:qQ ["words","form"] ["words","form"] (z5 jf):=⟨rfl,rfl,rfl,by decide +kernel,rfl,by decide +kernel,by decide +kernel⟩
set_option maxHeartbeats 400000 in
theorem yh (T:Txt K mg t):qJ P w K mg base jX 4 t.xF t.xP ["words","form"] (lx K):=by
 have G_v_fits_place:qJ P w K mg base jX 3 t.vn t.vd ["word","place"] iF:=(dQ T).mono (by decide)
 refine T.qH.fn.ok uq (fun vs H Q E h=>(by obtain⟨_,_,_,_,rfl,_⟩:=h;rfl)) (fun cdv A outer s H vs Q E hr h=>?_)
 obtain⟨a,b,ws,fs,rfl,hA,hB,hS,k⟩:=h
 refine⟨_,(z6 (qG (qp m6 (qZ (qT (K:=K) rfl) rfl T.xY PySem.boot_len (z4 (pv 0) z7)) (qZ (qT (K:=K) rfl) rfl T.xY PySem.boot_len (z4 (pv 1) z7)) (qr _))
    (z9 (qy kI)) qm)
   (z9 (qy (qZ (yY rfl) rfl T.eJ PyProof.Rows.boot_all (z4 (rF (osc:=z5 jf) (N:=["words","form"]) (xs:=["word","place"]) (names:=[]) (qM:=[]) rfl rfl rfl ⟨rfl,by decide +kernel,by decide +kernel,by decide +kernel,by decide +kernel,rfl,by decide +kernel,by decide +kernel⟩ (Jc (K:=K) rfl rfl T.XX (z4 (pv 0) (z4 (pv 1) z7)) PyProof.Rows.boot_zip) (fun _ _ _=>(so (K:=K) (n:=2) rfl rfl (yC (kh (i:=0) (show (["word","place"]:List Str).Nodup from by decide +kernel) rfl (.inl (nF rfl)) (.inr (nF rfl))) (yC (kh (i:=1) (show (["word","place"]:List Str).Nodup from by decide +kernel) rfl (.inl (nF rfl)) (.inr (nF rfl))) lC)) rfl rfl)) (fun _ _ _=>i6) (fun _ _ _=>(qu G_v_fits_place hr rfl T.vk.mg T.vk.fn.kp T.vk.bd .nil qX (z4 (pv 0) (z4 (pv 1) z7))))) z7))))),?_⟩
 refine⟨_,rfl,a,_,rfl,.inl hA,_,rfl,b,_,rfl,.inl hB,rfl,_,rfl,?_⟩
 rw[List.length_map,List.length_map]
 refine jy (fun h1=>?_) (fun h1=>?_)
 ·have:=k H (qg.refl H)
  have e:¬ws.length=fs.length:=by
   intro q;rw[q] at h1;simp at h1
  unfold xU at this
  rw[decide_eq_false e] at this
  exact this
 have hl:ws.length=fs.length:=by
  by_cases q:ws.length=fs.length
  ·exact q
  ·exact absurd (by simp;omega) h1
 refine⟨_,rfl,_,rfl,a,b,_,_,rfl,hA,hB,?_⟩
 refine QI hA hB (fun x y v=>∀x' y',x=.str x'→y=.str y'→v=.bl (wq x' y')) (qx (by have:=hS.lV;rw[List.length_map];omega)) ?_ ?_
 ·intro i x y H' Q' e1 e2 s' kk
  rw[List.getElem?_map] at e1 e2
  cases q1:ws[i]? with
  | none=>rw[q1] at e1;cases e1
  | some x'=>
   cases q2:fs[i]? with
   | none=>rw[q2] at e2;cases e2
   | some y'=>
    rw[q1] at e1
    rw[q2] at e2
    cases e1
    cases e2
    refine⟨_,rfl,_,rfl,x',y',rfl,hS.short x' (List.mem_of_getElem? q1),fun H4 s4=>kk _ _ s4 fun a b ea eb=>?_⟩
    cases ea
    cases eb
    rfl
 ·intro D H' vs s' hD hv hvl hp
  rw[List.length_map,List.length_map,hl,Nat.min_self] at hvl
  obtain⟨bs,rfl⟩:=sW vs fun v hv'=>by
   obtain⟨i,hi,e⟩:=List.getElem_of_mem hv'
   have h1:i < ws.length:=by omega
   have h2:i < fs.length:=by omega
   exact⟨_,hp i _ _ v (by rw[List.getElem?_map,List.getElem?_eq_getElem h1];rfl) (by rw[List.getElem?_map,List.getElem?_eq_getElem h2];rfl) (by rw[List.getElem?_eq_getElem hi,e]) _ _ rfl rfl⟩
  refine⟨D,bs,rfl,q0.of hv,?_⟩
  have e:bs.all id=(ws.zip fs).all fun p=>wq p.1 p.2:=all_map (by rw[List.length_zip,hl,Nat.min_self];simpa using hvl) fun i p b q1 q2=>by
   rw[List.getElem?_zip_eq_some] at q1
   have:=hp i _ _ (.bl b) (by rw[List.getElem?_map,q1.1];rfl) (by rw[List.getElem?_map,q1.2];rfl) (by rw[List.getElem?_map,q2];rfl) _ _ rfl rfl
   simpa using this
  have:=k H' s'
  unfold xU at this
  rw[decide_eq_true hl,←e] at this
  exact this
theorem cQ:qQ ["words","most"] ["words","most"] (z5 jb):=⟨rfl,rfl,rfl,by decide +kernel,rfl,by decide +kernel,by decide +kernel⟩
set_option maxHeartbeats 400000 in
theorem g9 (T:Txt K mg t):qJ P w K mg base jX 3 t.kK t.kX ["words","most"] (Zi K):=by
 have G_v_is_name:qJ P w K mg base jX 2 t.kS t.kC ["word"] lN:=(gb T).mono (by decide)
 refine T.xi.fn.ok cQ (fun vs H Q E h=>(by obtain⟨_,_,_,rfl,_⟩:=h;rfl)) (fun cdv A outer s H vs Q E hr h=>?_)
 obtain⟨a,m,ws,rfl,hA,hS,k⟩:=h
 refine⟨_,(z9 (qy (lW (ZG Xm Xm z8 (qZ (qT (K:=K) rfl) rfl T.xY PySem.boot_len (z4 (pv 0) z7)) (pv 1)) (lU (qZ (yY rfl) rfl T.eJ PyProof.Rows.boot_all (z4 (mr (osc:=z5 jb) (N:=["words","most"]) (names:=[]) (qM:=[]) rfl rfl rfl ⟨rfl,by decide +kernel,by decide +kernel,by decide +kernel,rfl,rfl,by decide +kernel,by decide +kernel⟩ (yA (K:=K) rfl (pv 0)) (fun _ _ _=>(qu G_v_is_name hr rfl T.jP.mg T.jP.fn.kp T.jP.bd .nil qX (z4 (pv 0) z7)))) z7)))))),?_⟩
 walk_at "rd"
 refine⟨a,_,rfl,.inl hA,_,_,rfl,rfl,_,rfl,?_⟩
 rw[List.length_map]
 have no:∀H',qg H H'→pV ws m=false→Q (.bl false) H':=fun H' s' e=>by have:=k H' s';rw[e] at this;exact this
 refine jy (fun h1=>?_) (fun h1=>?_)
 ·have h1':1≤ws.length:=by have:=of_decide_eq_true h1;omega
  refine⟨_,rfl,_,_,rfl,rfl,_,rfl,?_⟩
  refine jy (fun h2=>?_) (fun h2=>?_)
  ·have h2':(ws.length:Int)≤m:=of_decide_eq_true h2
   refine⟨_,rfl,a,rfl,⟨_,hA⟩,gq (mU hA) (fun _ y v=>∀x,y=.str x→v=.bl (qe x)) (qx (by have:=hS.lV;rw[List.length_map];omega)) ?_ ?_⟩
   ·intro i y H' Q' e1 s' kk
    rw[List.getElem?_map] at e1
    cases q1:ws[i]? with
    | none=>rw[q1] at e1;cases e1
    | some x'=>
     rw[q1] at e1
     cases e1
     exact⟨_,rfl,x',rfl,hS.short x' (List.mem_of_getElem? q1),fun H4 s4=>kk _ _ s4 fun a ea=>by cases ea;rfl⟩
   ·intro D H' vs s' hD hv hvl hp
    rw[List.length_map] at hvl
    obtain⟨bs,rfl⟩:=sW vs fun v hv'=>by
     obtain⟨i,hi,e⟩:=List.getElem_of_mem hv'
     have h1:i < ws.length:=by omega
     exact⟨_,hp i _ v (by rw[List.getElem?_map,List.getElem?_eq_getElem h1];rfl) (by rw[List.getElem?_eq_getElem hi,e]) _ rfl⟩
    refine⟨D,bs,rfl,q0.of hv,?_⟩
    have e:bs.all id=ws.all qe:=all_map (by simpa using hvl) fun i p b q1 q2=>by
     have:=hp i _ (.bl b) (by rw[List.getElem?_map,q1];rfl) (by rw[List.getElem?_map,q2];rfl) _ rfl
     simpa using this
    have:=k H' s'
    unfold pV at this
    rw[decide_eq_true h1',decide_eq_true h2',←e] at this
    exact this
  ·refine no H (qg.refl H) ?_
   have:¬(ws.length:Int)≤m:=fun q=>h2 (decide_eq_true q)
   simp [pV,this]
 ·refine⟨false,rfl,gI ?_⟩
  refine no H (qg.refl H) ?_
  have:¬1≤ws.length:=fun q=>h1 (decide_eq_true (by omega))
  simp only[pV,decide_eq_false this,Bool.false_and]
end
noncomputable def vX (x:Str):List Str:=Txt.split x " "
theorem dE (x:Str):1≤(vX x).length∧(vX x).length≤x.length + 2:=⟨PyProof.Rows.split_pos x " ",PyProof.Rows.split_le x " "⟩
theorem cq {x:Str} (h:x.length≤190):Sh (vX x):=⟨by have:=(dE x).2;omega,fun y hy=>by have:=PyProof.Rows.part_short (x:=x) (y:=" ") hy;omega⟩
theorem gj {α:Type} (f:α→V) (xs:List α) (n:Nat):hU (xs.map f) (some (n:Int)) none=(xs.drop n).map f:=by
 unfold hU
 rw[HT.pZ,HT.tY,List.length_map,←List.map_drop,←List.map_take]
 by_cases h:n≤xs.length
 ·rw[Nat.min_eq_left h,List.take_of_length_le (by rw[List.length_drop];omega)]
 ·rw[Nat.min_eq_right (by omega),Nat.sub_self,List.drop_eq_nil_of_le (Nat.le_refl _),List.drop_eq_nil_of_le (by omega)]
  rfl
theorem uw {α:Type} (f:α→V) (xs:List α) (n:Nat):hU (xs.map f) none (some (n:Int))=(xs.take n).map f:=by
 unfold hU
 rw[HT.pZ,HT.tY,List.length_map,List.drop_zero,Nat.sub_zero,←List.map_take]
 by_cases h:n≤xs.length
 ·rw[Nat.min_eq_left h]
 ·rw[Nat.min_eq_right (by omega),List.take_length,List.take_of_length_le (by omega)]
noncomputable def wd (ws:List Str) (i:Nat):Str:=ws.getD i ""
noncomputable def Qc:List Str:=["let","NAME","be","NAME"]
noncomputable def cP:List Str:=["part","NAME"]
noncomputable def iN:List Str:=["NAME","NAME","must","NAME","by","NUMBER","else","NAME"]
noncomputable def lE:List Str:=["NAME","WHO","may","NAME"]
noncomputable def JJ:List Str:=["NAME","WHO","may","not","NAME","else","NAME"]
noncomputable def nA:List Str:=["NAME","WHO","by","NAME","to","NAME"]
noncomputable def kr (ws:List Str) (x:Str) (m:Int):List Str:=if wd ws 0≠x∨pV (ws.drop 1) m=false then [] else ws.drop 1
noncomputable def bT (ws:List Str):Option (Str × Str):=if ws.length=2∧JT (.str (wd ws 0)) (xw.map V.str)=true∧qe (wd ws 1)=true then some (wd ws 0,wd ws 1) else none
noncomputable def aU (ws:List Str):Option (Str × Str):=if xU ws Qc=true then some (wd ws 1,wd ws 3) else none
noncomputable def vQ (ws:List Str):Option (Str × List Str):=if xU (ws.take 2) cP=true then (if ws.length=2 then some (wd ws 1,[]) else if wd ws 2≠"in"∨pV (ws.drop 3) 12=false then none else some (wd ws 1,ws.drop 3)) else none
noncomputable def jZ (ws:List Str):Option (Int × Str × Str × Str × Int × Str):=
 if xU ws iN=true then some (0,wd ws 0,wd ws 1,wd ws 3,gw (wd ws 5),wd ws 7)
 else if xU ws lE=true then some (1,wd ws 0,wd ws 1,wd ws 3,0,"")
 else if xU ws JJ=true then some (2,wd ws 0,wd ws 1,wd ws 4,0,wd ws 6)
 else if xU ws nA=true then some (3,wd ws 0,wd ws 1,wd ws 3,0,wd ws 5)
 else none
theorem yO {ws fs:List Str} (h:xU ws fs=true):ws.length=fs.length:=by
 unfold xU at h
 rw[Bool.and_eq_true] at h
 exact of_decide_eq_true h.1
noncomputable def WK (n v:Str):List (Str × V):=[("name",.str n),("value",.str v)]
noncomputable def eI (n:Str) (a b:Addr):List (Str × V):=[("name",.str n),("rooms",.ref a),("rows",.ref b)]
theorem m1:¬(("name" : Str) = "value"):=by decide +kernel
theorem m2:¬(("name" : Str) = "rooms"):=by decide +kernel
theorem m3:¬(("name" : Str) = "rows"):=by decide +kernel
theorem m4:¬(("rooms" : Str) = "rows"):=by decide +kernel
theorem VU (n v:Str):qY "value" (.str v) (qY "name" (.str n) [])=WK n v:=by
 simp only[qY,WK,if_neg m1]
theorem V4 (n:Str) (a b:Addr):qY "rows" (.ref b) (qY "rooms" (.ref a) (qY "name" (.str n) []))=eI n a b:=by
 simp only[qY,eI,if_neg m2,if_neg m3,if_neg m4]
noncomputable def Y3 (t:xh) (H:Hp) (p:Addr) (n v:Str):Prop:=∃dx,H p=some (.ins t.md dx (WK n v))
noncomputable def Zr (t:xh) (H0 H:Hp) (p:Addr) (n:Str) (rs:List Str) (ys:List V):Prop:=∃dx a b,H p=some (.ins t.jH dx (eI n a b))∧H a=some (.lst (rs.map V.str))∧H b=some (.lst ys)∧H0 a=none∧H0 b=none
noncomputable abbrev GY (t:xh) (H0 H:Hp) (p:Addr) (n:Str) (rs:List Str):Prop:=Zr t H0 H p n rs []
theorem Zr.back {t:xh} {H0 H1 H:Hp} {p:Addr} {n:Str} {rs:List Str} {ys:List V} (h:Zr t H1 H p n rs ys) (s:qg H0 H1):Zr t H0 H p n rs ys:=by
 obtain⟨dx,a,b,e1,e2,e3,f1,f2⟩:=h
 exact⟨dx,a,b,e1,e2,e3,s.free f1,s.free f2⟩
noncomputable def Off (p:Addr) (H H':Hp):Prop:=∀b o,b≠p→H b=some o→H' b=some o
noncomputable def VI (t:xh):Sp:=fun vs H Q _=>∃(p dx:Addr) (n v:Str),vs=[.ref p,.str n,.str v]∧H p=some (.ins t.md dx [])∧Q .non (upd H p (.ins t.md dx (WK n v)))
noncomputable def JQ (K:PySem.W.Frag) (t:xh):Sp:=fun vs H Q _=>∃(p dx a b:Addr) (n:Str) (xs:List Str) (ys:List V),vs=[.ref p,.str n,.ref a,.ref b]∧H p=some (.ins t.jH dx [])∧H a=some (.lst (xs.map V.str))∧H b=some (.lst ys)∧
 ∀H',Off p H H'→Zr t H H' p n xs ys→Q .non H'
noncomputable def Xo:Sp:=fun vs H Q _=>∃(x y:Str) (m:Int),vs=[.str x,.str y,.int m]∧x.length≤190∧∀l H',qg H H'→H l=none→H' l=some (.lst ((kr (vX x) y m).map V.str))→Q (.ref l) H'
noncomputable def QW:Sp:=fun vs H Q _=>∃(x:Str),vs=[.str x]∧x.length≤190∧∀H',qg H H'→(bT (vX x)=none→Q .non H')∧∀p m n,bT (vX x)=some (m,n)→H p=none→H' p=some (.tup [.str m,.str n])→Q (.ref p) H'
noncomputable def XY (t:xh):Sp:=fun vs H Q _=>∃(x:Str),vs=[.str x]∧x.length≤190∧∀H',qg H H'→(aU (vX x)=none→Q .non H')∧∀p n v,aU (vX x)=some (n,v)→H p=none→Y3 t H' p n v→Q (.ref p) H'
noncomputable def Zp (t:xh):Sp:=fun vs H Q _=>∃(x:Str),vs=[.str x]∧x.length≤190∧∀H',qg H H'→(vQ (vX x)=none→Q .non H')∧∀p n rs,vQ (vX x)=some (n,rs)→H p=none→GY t H H' p n rs→Q (.ref p) H'
noncomputable def nR (t:xh):Sp:=fun vs H Q _=>∃(x:Str),vs=[.str x]∧x.length≤190∧∀H',qg H H'→(jZ (vX x)=none→Q .non H')∧∀p k l u a n r,jZ (vX x)=some (k,l,u,a,n,r)→H p=none→At t H' p k l u a n r→Q (.ref p) H'
theorem yt {H:Hp} {p dx:Addr} {o o2:HO} (hp:H p=none) (hdx:H dx=none):qg H (upd (upd H dx o) p o2):=fun b u e=>by rw[qW (qv e hp),qW (qv e hdx)];exact e
theorem nB {H H':Hp} {p dx:Addr} {o o2:HO} (hp:H p=none) (hdx:H dx=none) (f:Off p (upd (upd H dx o) p o2) H'):qg H H':=fun b u e=>f b u (qv e hp) (yt hp hdx b u e)
section
variable {P:Program} {w:World} {K:PySem.W.Frag} {mg:Str→Option Value} {base:Heap} {t:xh}
theorem QP (T:Txt K mg t) (H:Hp):pD K H t.fL (xw.map V.str):=.inr T.iC
theorem oF:(xw.map V.str).all pF=true:=by decide +kernel
theorem sE:qQ ["self","name","value"] ["self","name","value"] (z5 xK):=⟨rfl,rfl,rfl,by decide +kernel,rfl,by decide +kernel,by decide +kernel⟩
set_option maxHeartbeats 400000 in
theorem tG (T:Txt K mg t):qJ P w K mg base jX 1 t.yp t.gi ["self","name","value"] (VI t):=by
 refine T.cM.fn.ok sE (fun vs H Q E h=>(by obtain⟨_,_,_,_,rfl,_⟩:=h;rfl)) (fun cdv A outer s H vs Q E hr h=>?_)
 obtain⟨p,dx,n,v,rfl,hp,k⟩:=h
 refine⟨_,(z6 (xX (pv 0) (pv 1) rfl)
   (z9 (xX (pv 0) (pv 2) rfl))),?_⟩
 refine⟨_,rfl,_,rfl,p,_,dx,[],rfl,hp,T.ik,T.dt,(by show 0 < 1000;decide),?_⟩
 refine⟨_,rfl,_,rfl,p,_,dx,_,rfl,qw,T.ik,T.fS,(by show 1 < 1000;decide),?_⟩
 rw[yQ,VU]
 exact k
theorem sZ:qQ ["self","name","rooms","rows"] ["self","name","rooms","rows"] (z5 j7):=⟨rfl,rfl,rfl,by decide +kernel,rfl,by decide +kernel,by decide +kernel⟩
set_option maxHeartbeats 400000 in
theorem gr (T:Txt K mg t):qJ P w K mg base jX 1 t.xE t.kL ["self","name","rooms","rows"] (JQ K t):=by
 refine T.wH.fn.ok sZ (fun vs H Q E h=>(by obtain⟨_,_,_,_,_,_,_,rfl,_⟩:=h;rfl)) (fun cdv A outer s H vs Q E hr h=>?_)
 obtain⟨p,dx,a,b,n,xs,ys,rfl,hp,hA,hB,k⟩:=h
 refine⟨_,(z6 (xX (pv 0) (pv 1) rfl)
   (z6 (xX (pv 0) (jB (bo (K:=K) rfl) rfl T.mD PyProof.Rows.boot_list (z4 (pv 2) z7)) rfl)
   (z9 (xX (pv 0) (jB (bo (K:=K) rfl) rfl T.mD PyProof.Rows.boot_list (z4 (pv 3) z7)) rfl)))),?_⟩
 have na:a≠p:=df hA hp (by intro z;cases z)
 have nb:b≠p:=df hB hp (by intro z;cases z)
 refine⟨_,rfl,_,rfl,p,_,dx,[],rfl,hp,T.gQ,T.wJ,(by show 0 < 1000;decide),?_⟩
 have o1:Off p H (upd H p (.ins t.jH dx (qY "name" (.str n) []))):=fun c o hc e=>by rw[qW hc];exact e
 generalize hH1:upd H p (.ins t.jH dx (qY "name" (.str n) []))=H1 at o1 ⊢
 have e1:H1 p=some (.ins t.jH dx (qY "name" (.str n) [])):=by rw[←hH1];exact qw
 refine⟨_,rfl,a,_,rfl,.inl (q0.of (o1 _ _ na hA)),?_⟩
 intro q1 H2 s2 hq1 e2
 refine⟨_,rfl,p,_,dx,_,rfl,s2 _ _ e1,T.gQ,T.yB,(by show 1 < 1000;decide),?_⟩
 have nq1:q1≠p:=Ne.symm (qv e1 hq1)
 have o2:Off p H2 (upd H2 p (.ins t.jH dx (qY "rooms" (.ref q1) (qY "name" (.str n) [])))):=fun c o hc e=>by rw[qW hc];exact e
 generalize hH3:upd H2 p (.ins t.jH dx (qY "rooms" (.ref q1) (qY "name" (.str n) [])))=H3 at o2 ⊢
 have e3:H3 p=some (.ins t.jH dx (qY "rooms" (.ref q1) (qY "name" (.str n) []))):=by rw[←hH3];exact qw
 refine⟨_,rfl,b,_,rfl,.inl (q0.of (o2 _ _ nb (s2 _ _ (o1 _ _ nb hB)))),?_⟩
 intro q2 H4 s4 hq2 e4
 refine⟨_,rfl,p,_,dx,_,rfl,s4 _ _ e3,T.gQ,T.fO,?_,?_⟩
 ·have:=xt ("rooms" : Str) (.ref q1) (qY "name" (.str n) [])
  have e:(qY ("name" : Str) (.str n) []).length=1:=rfl
  omega
 have nq2:q2≠p:=Ne.symm (qv e3 hq2)
 rw[V4]
 refine k _ (fun c o hc e=>by rw[qW hc];exact s4 _ _ (o2 _ _ hc (s2 _ _ (o1 _ _ hc e)))) ⟨dx,q1,q2,qw,?_,?_,?_,?_⟩
 ·rw[qW nq1];exact s4 _ _ (o2 _ _ nq1 e2)
 ·rw[qW nq2];exact e4
 ·rw[←hH1,qW nq1] at hq1;exact hq1
 ·have z:H2 q2=none:=by rw[←hH3,qW nq2] at hq2;exact hq2
  have z1:=s2.free z
  rw[←hH1,qW nq2] at z1;exact z1
theorem pM:qQ ["row","word","most","words"] ["row","word","most"] (z5 jM):=⟨rfl,rfl,rfl,by decide +kernel,rfl,by decide +kernel,by decide +kernel⟩
set_option maxHeartbeats 400000 in
theorem uB (T:Txt K mg t):qJ P w K mg base jX 4 t.wK t.wQ ["row","word","most"] Xo:=by
 have G_v_are_names:qJ P w K mg base jX 3 t.kK t.kX ["words","most"] (Zi K):=(g9 T).mono (by decide)
 refine T.wN.fn.ok pM (fun vs H Q E h=>(by obtain⟨_,_,_,rfl,_⟩:=h;rfl)) (fun cdv A outer s H vs Q E hr h=>?_)
 obtain⟨x,y,m,rfl,hx,k⟩:=h
 refine⟨_,(z6 (qi (i:=3) pM.nd rfl (Or.inl rfl) (ko PySem.F.plainAttrs_str PySem.F.slot_str_split PySem.F.type_str_split gk (pv 0) (z4 qj z7)))
   (z6 (qG (PW.pt (kR (qp m6 (qo (qf (K:=K) rfl) (pv 3) z8 (fun _ _=>rfl)) (pv 1) (qr _)) (kP (w4 (jC (qu G_v_are_names hr rfl T.xi.mg T.xi.fn.kp T.xi.bd .nil qX (z4 (xH (xA (K:=K) rfl) (pv 3) (xR z8) vU) (z4 (pv 2) z7))))))))
    (z9 (qy (jx z7))) qm)
   (z9 (qy (xH (xA (K:=K) rfl) (pv 3) (xR z8) vU))))),?_⟩
 walk_at "rd"
 refine⟨qx (by omega),?_⟩
 intro lw H1 s1 hlw e1
 have hS:=cq hx
 have hl:=(dE x).1
 have e1':H1 lw=some (.lst ((vX x).map V.str)):=e1
 clear e1
 generalize vX x=ws at *
 walk_at "rd"
 refine jy (fun h1=>?_) (fun h1=>?_)
 ·have n:kr ws y m=[]:=if_pos (.inl (iS h1))
  walk_at "rd"
  intro l H2 s2 hl2 e2
  exact k l H2 (s1.trans s2) (s1.free hl2) (by rw[n];exact e2)
 have w0:=i3 h1
 walk_at "rd"
 intro lc H2 s2 hlc e2
 replace e2:H2 lc=some (.lst ((ws.drop 1).map V.str)):=by rw[←gj V.str ws 1];exact e2
 refine⟨_,rfl,lc,m,_,rfl,q0.of e2,hS.drop 1,fun H3 s3=>?_⟩
 walk_at "rd"
 cases hN:pV (ws.drop 1) m with
 | false=>
  refine uW ?_
  have n:kr ws y m=[]:=if_pos (.inr hN)
  walk_at "rd"
  intro l H4 s4 hl4 e4
  exact k l H4 (((s1.trans s2).trans s3).trans s4) (((s1.trans s2).trans s3).free hl4) (by rw[n];exact e4)
 | true=>
  refine gI ?_
  have n:kr ws y m=ws.drop 1:=if_neg (fun q=>q.elim (fun q=>q w0) (fun q=>by rw[hN] at q;cases q))
  walk_at "rd"
  intro l H4 s4 hl4 e4
  replace e4:H4 l=some (.lst ((ws.drop 1).map V.str)):=by rw[←gj V.str ws 1];exact e4
  exact k l H4 (((s1.trans s2).trans s3).trans s4) (((s1.trans s2).trans s3).free hl4) (by rw[n];exact e4)
theorem fo:qQ ["row","words"] ["row"] (z5 j0):=⟨rfl,rfl,rfl,by decide +kernel,rfl,by decide +kernel,by decide +kernel⟩
set_option maxHeartbeats 400000 in
theorem sm (T:Txt K mg t):qJ P w K mg base jX 3 t.yn t.ya ["row"] QW:=by
 have G_v_is_name:qJ P w K mg base jX 2 t.kS t.kC ["word"] lN:=(gb T).mono (by decide)
 refine T.yL.fn.ok fo (fun vs H Q E h=>(by obtain⟨_,rfl,_⟩:=h;rfl)) (fun cdv A outer s H vs Q E hr h=>?_)
 obtain⟨x,rfl,hx,k⟩:=h
 refine⟨_,(z6 (qi (i:=1) fo.nd rfl (Or.inl rfl) (ko PySem.F.plainAttrs_str PySem.F.slot_str_split PySem.F.type_str_split gk (pv 0) (z4 qj z7)))
   (z6 (qG (PW.pt (kR (qp m6 (qZ (qT (K:=K) rfl) rfl T.xY PySem.boot_len (z4 (pv 1) z7)) z8 (qr _)) (kR (qp (rz (K:=K) rfl) (qo (qf (K:=K) rfl) (pv 1) z8 (fun _ _=>rfl)) (jv rfl T.iL (v:=.ref t.fL) rfl) rfl) (kP (w4 (jC (qu G_v_is_name hr rfl T.jP.mg T.jP.fn.kp T.jP.bd .nil qX (z4 (qo (qf (K:=K) rfl) (pv 1) z8 (fun _ _=>rfl)) z7))))))))
    (z9 (qy vi)) qm)
   (z9 (qy (yg (z4 (qo (qf (K:=K) rfl) (pv 1) z8 (fun _ _=>rfl)) (z4 (qo (qf (K:=K) rfl) (pv 1) z8 (fun _ _=>rfl)) z7))))))),?_⟩
 walk_at "rd"
 refine⟨qx (by omega),?_⟩
 intro lw H1 s1 hlw e1
 have hS:=cq hx
 have e1':H1 lw=some (.lst ((vX x).map V.str)):=e1
 clear e1
 generalize vX x=ws at *
 refine⟨_,rfl,lw,_,rfl,.inl (q0.of e1'),rfl,_,rfl,?_⟩
 rw[List.length_map]
 have no:∀H',qg H H'→bT ws=none→Q .non H':=fun H' s' e=>(k H' s').1 e
 refine jy (fun h1=>uW (no _ s1 (if_neg fun q=>?_))) (fun h1=>?_)
 ·rw[q.1] at h1;simp at h1
 have hl:ws.length=2:=by
  by_cases q:ws.length=2
  ·exact q
  ·exact absurd (by simp;omega) h1
 walk_at "rd"
 refine⟨_,_,rfl,.inr (QP T _),rfl,oF,_,rfl,?_⟩
 refine jy (fun h2=>uW (no _ s1 (if_neg fun q=>?_))) (fun h2=>?_)
 ·have z:JT (.str (wd ws 0)) (xw.map V.str)=false:=cY h2
  rw[z] at q
  cases q.2.1
 have hM:JT (.str (wd ws 0)) (xw.map V.str)=true:=uy h2
 walk_at "rd"
 refine⟨hS.short _ (p7 (by omega)),fun H2 s2=>?_⟩
 walk_at "rd"
 refine jy (fun h3=>no _ (s1.trans s2) (if_neg fun q=>?_)) (fun h3=>?_)
 ·have z:qe (wd ws 1)=false:=cY h3
  rw[z] at q
  cases q.2.2
 have hN:qe (wd ws 1)=true:=uy h3
 walk_at "rd"
 intro p H3 s3 hp e3
 exact(k H3 ((s1.trans s2).trans s3)).2 p (wd ws 0) (wd ws 1) (if_pos ⟨hl,hM,hN⟩) ((s1.trans s2).free hp) e3
theorem dw:qQ ["row","words"] ["row"] (z5 xJ):=⟨rfl,rfl,rfl,by decide +kernel,rfl,by decide +kernel,by decide +kernel⟩
set_option maxHeartbeats 400000 in
theorem tj (T:Txt K mg t):qJ P w K mg base jX 5 t.gc t.gd ["row"] (XY t):=by
 have G_v_fits_form:qJ P w K mg base jX 4 t.xF t.xP ["words","form"] (lx K):=(yh T).mono (by decide)
 have M_Let_init:qJ P w K mg base jX 3 t.yp t.gi ["self","name","value"] (VI t):=(tG T).mono (by decide)
 refine T.bQ.fn.ok dw (fun vs H Q E h=>(by obtain⟨_,rfl,_⟩:=h;rfl)) (fun cdv A outer s H vs Q E hr h=>?_)
 obtain⟨x,rfl,hx,k⟩:=h
 refine⟨_,(z6 (qi (i:=1) dw.nd rfl (Or.inl rfl) (ko PySem.F.plainAttrs_str PySem.F.slot_str_split PySem.F.type_str_split gk (pv 0) (z4 qj z7)))
   (z6 (qG (w4 (jC (qu G_v_fits_form hr rfl T.qH.mg T.qH.fn.kp T.qH.bd .nil qX (z4 (pv 1) (z4 (jx (z4 qj (z4 qj (z4 qj (z4 qj z7))))) z7)))))
    (z9 (qy vi)) qm)
   (z9 (qy (vL T.ZW M_Let_init hr rfl T.XF T.cM.bd .nil qX (z4 (qo (qf (K:=K) rfl) (pv 1) z8 (fun _ _=>rfl)) (z4 (qo (qf (K:=K) rfl) (pv 1) z8 (fun _ _=>rfl)) z7))))))),?_⟩
 walk_at "rd"
 refine⟨qx (by omega),?_⟩
 intro lw H1 s1 hlw e1
 have hS:=cq hx
 have e1':H1 lw=some (.lst ((vX x).map V.str)):=e1
 clear e1
 generalize vX x=ws at *
 walk_at "rd"
 intro lf H2 s2 hlf e2
 refine⟨lw,lf,ws,Qc,rfl,q0.of (s2 _ _ e1'),q0.of e2,hS,fun H3 s3=>?_⟩
 walk_at "rd"
 refine jy (fun h3=>(k _ ((s1.trans s2).trans s3)).1 (if_neg fun q=>?_)) (fun h3=>?_)
 ·have z:xU ws Qc=false:=cY h3
  rw[z] at q
  cases q
 have hF:xU ws Qc=true:=uy h3
 have hl:ws.length=4:=yO hF
 walk_at "rd"
 intro p dx hp hdx hne
 refine⟨p,dx,_,_,rfl,qw,rfl,?_⟩
 exact(k _ (((s1.trans s2).trans s3).trans (y4 hp hdx hne))).2 p _ _ (if_pos hF) (((s1.trans s2).trans s3).free hp) ⟨dx,qw⟩
theorem mz:qQ ["row","words"] ["row"] (z5 xy):=⟨rfl,rfl,rfl,by decide +kernel,rfl,by decide +kernel,by decide +kernel⟩
set_option maxHeartbeats 400000 in
theorem lF (T:Txt K mg t):qJ P w K mg base jX 5 t.yZ t.yl ["row"] (Zp t):=by
 have G_v_are_names:qJ P w K mg base jX 4 t.kK t.kX ["words","most"] (Zi K):=(g9 T).mono (by decide)
 have G_v_fits_form:qJ P w K mg base jX 4 t.xF t.xP ["words","form"] (lx K):=(yh T).mono (by decide)
 have M_Part_init:qJ P w K mg base jX 3 t.xE t.kL ["self","name","rooms","rows"] (JQ K t):=(gr T).mono (by decide)
 refine T.y9.fn.ok mz (fun vs H Q E h=>(by obtain⟨_,rfl,_⟩:=h;rfl)) (fun cdv A outer s H vs Q E hr h=>?_)
 obtain⟨x,rfl,hx,k⟩:=h
 refine⟨_,(z6 (qi (i:=1) mz.nd rfl (Or.inl rfl) (ko PySem.F.plainAttrs_str PySem.F.slot_str_split PySem.F.type_str_split gk (pv 0) (z4 qj z7)))
   (z6 (qG (w4 (jC (qu G_v_fits_form hr rfl T.qH.mg T.qH.fn.kp T.qH.bd .nil qX (z4 (xH (xA (K:=K) rfl) (pv 1) vU (xR z8)) (z4 (jx (z4 qj (z4 qj z7))) z7)))))
    (z9 (qy vi)) qm)
   (z6 (qG (qp jh (qZ (qT (K:=K) rfl) rfl T.xY PySem.boot_len (z4 (pv 1) z7)) z8 (qr _))
    (z9 (qy (vL T.fJ M_Part_init hr rfl T.ur T.wH.bd .nil qX (z4 (qo (qf (K:=K) rfl) (pv 1) z8 (fun _ _=>rfl)) (z4 (jx z7) (z4 (jx z7) z7)))))) qm)
   (z6 (qG (PW.pt (kR (qp m6 (qo (qf (K:=K) rfl) (pv 1) z8 (fun _ _=>rfl)) qj (qr _)) (kP (w4 (jC (qu G_v_are_names hr rfl T.xi.mg T.xi.fn.kp T.xi.bd .nil qX (z4 (xH (xA (K:=K) rfl) (pv 1) (xR z8) vU) (z4 (jv rfl (T.gX).choose_spec (v:=.int 12) ⟨_,rfl⟩) z7))))))))
    (z9 (qy vi)) qm)
   (z9 (qy (vL T.fJ M_Part_init hr rfl T.ur T.wH.bd .nil qX (z4 (qo (qf (K:=K) rfl) (pv 1) z8 (fun _ _=>rfl)) (z4 (xH (xA (K:=K) rfl) (pv 1) (xR z8) vU) (z4 (jx z7) z7)))))))))),?_⟩
 walk_at "rd"
 refine⟨qx (by omega),?_⟩
 intro lw H1 s1 hlw e1
 have hS:=cq hx
 have e1':H1 lw=some (.lst ((vX x).map V.str)):=e1
 clear e1
 generalize vX x=ws at *
 walk_at "rd"
 intro lc H2 s2 hlc e2
 replace e2:H2 lc=some (.lst ((ws.take 2).map V.str)):=by rw[←uw V.str ws 2];exact e2
 walk_at "rd"
 intro lf H3 s3 hlf e3
 refine⟨lc,lf,ws.take 2,cP,rfl,q0.of (s3 _ _ e2),q0.of e3,hS.take 2,fun H4 s4=>?_⟩
 have sA:qg H H4:=((s1.trans s2).trans s3).trans s4
 walk_at "rd"
 refine jy (fun h3=>(k _ sA).1 (if_neg fun q=>?_)) (fun h3=>?_)
 ·have z:xU (ws.take 2) cP=false:=cY h3
  rw[z] at q
  cases q
 have hF:xU (ws.take 2) cP=true:=uy h3
 have hl:2≤ws.length:=by have:(ws.take 2).length=2:=yO hF;rw[List.length_take] at this;omega
 have e4:H4 lw=some (.lst (ws.map V.str)):=s4 _ _ (s3 _ _ (s2 _ _ e1'))
 clear e1' e2 e3 s1 s2 s3 s4
 refine⟨_,rfl,lw,_,rfl,.inl (q0.of e4),rfl,_,rfl,?_⟩
 rw[List.length_map]
 refine jy (fun h4=>?_) (fun h4=>?_)
 ·have hl2:ws.length=2:=by have:=of_decide_eq_true h4;injection this with this;omega
  walk_at "rd"
  intro a1 H5 s5 ha1 e5
  walk_at "rd"
  intro a2 H6 s6 ha2 e6
  walk_at "rd"
  intro p dx hp hdx hne
  have sM:=yt (o:=HO.own p) (o2:=HO.ins t.jH dx []) hp hdx
  refine⟨p,dx,a1,a2,_,[],[],rfl,qw,sM _ _ (s6 _ _ e5),sM _ _ e6,fun H7 o7 h7=>⟨rfl,?_⟩⟩
  exact(k H7 (((sA.trans s5).trans s6).trans (nB hp hdx o7))).2 p _ _ (by unfold vQ;rw[if_pos hF,if_pos hl2];rfl) (((sA.trans s5).trans s6).free hp) (h7.back (((sA.trans s5).trans s6).trans sM))
 have hl3:¬ws.length=2:=fun q=>h4 (decide_eq_true (by rw[q];rfl))
 walk_at "rd"
 refine jy (fun h5=>uW ((k _ sA).1 ?_)) (fun h5=>?_)
 ·unfold vQ
  rw[if_pos hF,if_neg hl3,if_pos (.inl (iS h5))]
 have hin:wd ws 2 = "in":=i3 h5
 walk_at "rd"
 intro lc H5 s5 hlc e5
 replace e5:H5 lc=some (.lst ((ws.drop 3).map V.str)):=by rw[←gj V.str ws 3];exact e5
 refine⟨lc,_,_,rfl,q0.of e5,hS.drop 3,fun H6 s6=>?_⟩
 walk_at "rd"
 refine jy (fun h6=>(k _ ((sA.trans s5).trans s6)).1 ?_) (fun h6=>?_)
 ·unfold vQ
  rw[if_pos hF,if_neg hl3,if_pos (.inr (cY h6))]
 have hN:pV (ws.drop 3) 12=true:=uy h6
 have e6:H6 lw=some (.lst (ws.map V.str)):=s6 _ _ (s5 _ _ e4)
 clear e4 e5
 walk_at "rd"
 intro a1 H7 s7 ha1 e7
 replace e7:H7 a1=some (.lst ((ws.drop 3).map V.str)):=by rw[←gj V.str ws 3];exact e7
 walk_at "rd"
 intro a2 H8 s8 ha2 e8
 walk_at "rd"
 intro p dx hp hdx hne
 have sM:=yt (o:=HO.own p) (o2:=HO.ins t.jH dx []) hp hdx
 refine⟨p,dx,a1,a2,_,_,[],rfl,qw,sM _ _ (s8 _ _ e7),sM _ _ e8,fun H9 o9 h9=>⟨rfl,?_⟩⟩
 exact(k H9 (((((sA.trans s5).trans s6).trans s7).trans s8).trans (nB hp hdx o9))).2 p _ _ (by unfold vQ;rw[if_pos hF,if_neg hl3,if_neg (fun q=>q.elim (fun q=>q hin) (fun q=>by rw[hN] at q;cases q))];rfl) (((((sA.trans s5).trans s6).trans s7).trans s8).free hp) (h9.back (((((sA.trans s5).trans s6).trans s7).trans s8).trans sM))
theorem bY:qQ ["row","words"] ["row"] (z5 jW):=⟨rfl,rfl,rfl,by decide +kernel,rfl,by decide +kernel,by decide +kernel⟩
set_option maxHeartbeats 400000 in
theorem cX (T:Txt K mg t):qJ P w K mg base jX 5 t.vM t.vR ["row"] (nR t):=by
 have G_v_fits_form:qJ P w K mg base jX 4 t.xF t.xP ["words","form"] (lx K):=(yh T).mono (by decide)
 have G_v_number_of:qJ P w K mg base jX 4 t.ka t.kl ["word"] ZY:=(bD T).mono (by decide)
 have M_Ban_init:qJ P w K mg base jX 3 t.vV t.gB ["self","label","who","act","room"] (Jj K):=(nZ T).mono (by decide)
 have M_Clause_init:qJ P w K mg base jX 3 t.qS t.xb ["self","label","who","act"] (Z7 K):=(vZ T).mono (by decide)
 have M_Duty_init:qJ P w K mg base jX 3 t.kA t.yV ["self","label","who","act","turns","room"] (Ws K):=(rT T).mono (by decide)
 have M_Power_init:qJ P w K mg base jX 3 t.kj t.wW ["self","label","who","act","room"] (Jj K):=(uY T).mono (by decide)
 refine T.vN.fn.ok bY (fun vs H Q E h=>(by obtain⟨_,rfl,_⟩:=h;rfl)) (fun cdv A outer s H vs Q E hr h=>?_)
 obtain⟨x,rfl,hx,k⟩:=h
 refine⟨_,(z6 (qi (i:=1) bY.nd rfl (Or.inl rfl) (ko PySem.F.plainAttrs_str PySem.F.slot_str_split PySem.F.type_str_split gk (pv 0) (z4 qj z7)))
   (z6 (qG (jC (qu G_v_fits_form hr rfl T.qH.mg T.qH.fn.kp T.qH.bd .nil qX (z4 (pv 1) (z4 (jx (z4 qj (z4 qj (z4 qj (z4 qj (z4 qj (z4 qj (z4 qj (z4 qj z7))))))))) z7))))
    (z9 (qy (vL T.lu M_Duty_init hr rfl T.Zm T.mL.bd .nil qX (z4 (qo (qf (K:=K) rfl) (pv 1) z8 (fun _ _=>rfl)) (z4 (qo (qf (K:=K) rfl) (pv 1) z8 (fun _ _=>rfl)) (z4 (qo (qf (K:=K) rfl) (pv 1) z8 (fun _ _=>rfl)) (z4 (qu G_v_number_of hr rfl T.xa.mg T.xa.fn.kp T.xa.bd .nil qX (z4 (qo (qf (K:=K) rfl) (pv 1) z8 (fun _ _=>rfl)) z7)) (z4 (qo (qf (K:=K) rfl) (pv 1) z8 (fun _ _=>rfl)) z7)))))))) qm)
   (z6 (qG (jC (qu G_v_fits_form hr rfl T.qH.mg T.qH.fn.kp T.qH.bd .nil qX (z4 (pv 1) (z4 (jx (z4 qj (z4 qj (z4 qj (z4 qj z7))))) z7))))
    (z9 (qy (vL T.cu M_Clause_init hr rfl T.sx T.kM.bd .nil qX (z4 (qo (qf (K:=K) rfl) (pv 1) z8 (fun _ _=>rfl)) (z4 (qo (qf (K:=K) rfl) (pv 1) z8 (fun _ _=>rfl)) (z4 (qo (qf (K:=K) rfl) (pv 1) z8 (fun _ _=>rfl)) z7)))))) qm)
   (z6 (qG (jC (qu G_v_fits_form hr rfl T.qH.mg T.qH.fn.kp T.qH.bd .nil qX (z4 (pv 1) (z4 (jx (z4 qj (z4 qj (z4 qj (z4 qj (z4 qj (z4 qj (z4 qj z7)))))))) z7))))
    (z9 (qy (vL T.oh M_Ban_init hr rfl T.XO T.cH.bd .nil qX (z4 (qo (qf (K:=K) rfl) (pv 1) z8 (fun _ _=>rfl)) (z4 (qo (qf (K:=K) rfl) (pv 1) z8 (fun _ _=>rfl)) (z4 (qo (qf (K:=K) rfl) (pv 1) z8 (fun _ _=>rfl)) (z4 (qo (qf (K:=K) rfl) (pv 1) z8 (fun _ _=>rfl)) z7))))))) qm)
   (z6 (qG (jC (qu G_v_fits_form hr rfl T.qH.mg T.qH.fn.kp T.qH.bd .nil qX (z4 (pv 1) (z4 (jx (z4 qj (z4 qj (z4 qj (z4 qj (z4 qj (z4 qj z7))))))) z7))))
    (z9 (qy (vL T.ub M_Power_init hr rfl T.eX T.pO.bd .nil qX (z4 (qo (qf (K:=K) rfl) (pv 1) z8 (fun _ _=>rfl)) (z4 (qo (qf (K:=K) rfl) (pv 1) z8 (fun _ _=>rfl)) (z4 (qo (qf (K:=K) rfl) (pv 1) z8 (fun _ _=>rfl)) (z4 (qo (qf (K:=K) rfl) (pv 1) z8 (fun _ _=>rfl)) z7))))))) qm)
   (z9 (qy vi))))))),?_⟩
 walk_at "rd"
 refine⟨qx (by omega),?_⟩
 intro lw H1 s1 hlw e1
 have hS:=cq hx
 have e1':H1 lw=some (.lst ((vX x).map V.str)):=e1
 clear e1
 generalize vX x=ws at *
 walk_at "rd"
 intro lf H2 s2 hlf e2
 refine⟨lw,lf,ws,iN,rfl,q0.of (s2 _ _ e1'),q0.of e2,hS,fun H3 s3=>?_⟩
 have e3:H3 lw=some (.lst (ws.map V.str)):=s3 _ _ (s2 _ _ e1')
 have sA:qg H H3:=(s1.trans s2).trans s3
 clear e1' e2 s1 s2 s3
 walk_at "rd"
 refine jy (fun h1=>?_) (fun h1=>?_)
 ·have hl:ws.length=8:=yO h1
  walk_at "rd"
  refine⟨hS.short _ (p7 (by omega)),fun H4 s4=>?_⟩
  have e4:H4 lw=some (.lst (ws.map V.str)):=s4 _ _ e3
  clear e3
  walk_at "rd"
  intro p dx hp hdx hne
  refine⟨p,_,dx,_,_,_,_,_,_,rfl,ie T,qw,rfl,?_⟩
  exact(k _ ((sA.trans s4).trans (y4 hp hdx hne))).2 p 0 _ _ _ _ _ (by unfold jZ;rw[if_pos h1];rfl) ((sA.trans s4).free hp) ⟨dx,qw⟩
 have f1:¬xU ws iN=true:=h1
 walk_at "rd"
 intro lf2 H4 s4 hlf2 e4
 refine⟨lw,lf2,ws,lE,rfl,q0.of (s4 _ _ e3),q0.of e4,hS,fun H5 s5=>?_⟩
 have e5:H5 lw=some (.lst (ws.map V.str)):=s5 _ _ (s4 _ _ e3)
 have sB:qg H H5:=(sA.trans s4).trans s5
 clear e3 e4 s4 s5 sA
 walk_at "rd"
 refine jy (fun h2=>?_) (fun h2=>?_)
 ·have hl:ws.length=4:=yO h2
  walk_at "rd"
  intro p dx hp hdx hne
  refine⟨p,_,dx,_,_,_,_,rfl,tS T,qw,rfl,?_⟩
  exact(k _ (sB.trans (y4 hp hdx hne))).2 p 1 _ _ _ 0 "" (by unfold jZ;rw[if_neg f1,if_pos h2];rfl) (sB.free hp) ⟨dx,qw⟩
 have f2:¬xU ws lE=true:=h2
 walk_at "rd"
 intro lf3 H6 s6 hlf3 e6
 refine⟨lw,lf3,ws,JJ,rfl,q0.of (s6 _ _ e5),q0.of e6,hS,fun H7 s7=>?_⟩
 have e7:H7 lw=some (.lst (ws.map V.str)):=s7 _ _ (s6 _ _ e5)
 have sC:qg H H7:=(sB.trans s6).trans s7
 clear e5 e6 s6 s7 sB
 walk_at "rd"
 refine jy (fun h3=>?_) (fun h3=>?_)
 ·have hl:ws.length=7:=yO h3
  walk_at "rd"
  intro p dx hp hdx hne
  refine⟨p,_,dx,_,_,_,_,_,rfl,Q7 T,qw,rfl,?_⟩
  exact(k _ (sC.trans (y4 hp hdx hne))).2 p 2 _ _ _ 0 _ (by unfold jZ;rw[if_neg f1,if_neg f2,if_pos h3];rfl) (sC.free hp) ⟨dx,qw⟩
 have f3:¬xU ws JJ=true:=h3
 walk_at "rd"
 intro lf4 H8 s8 hlf4 e8
 refine⟨lw,lf4,ws,nA,rfl,q0.of (s8 _ _ e7),q0.of e8,hS,fun H9 s9=>?_⟩
 have e9:H9 lw=some (.lst (ws.map V.str)):=s9 _ _ (s8 _ _ e7)
 have sD:qg H H9:=(sC.trans s8).trans s9
 clear e7 e8 s8 s9 sC
 walk_at "rd"
 refine jy (fun h4=>?_) (fun h4=>?_)
 ·have hl:ws.length=6:=yO h4
  walk_at "rd"
  intro p dx hp hdx hne
  refine⟨p,_,dx,_,_,_,_,_,rfl,sH T,qw,rfl,?_⟩
  exact(k _ (sD.trans (y4 hp hdx hne))).2 p 3 _ _ _ 0 _ (by unfold jZ;rw[if_neg f1,if_neg f2,if_neg f3,if_pos h4];rfl) (sD.free hp) ⟨dx,qw⟩
 exact(k _ sD).1 (by unfold jZ;rw[if_neg f1,if_neg f2,if_neg f3,if_neg h4])
end
theorem boot_set:bootBuiltins (Str.ofString "set")=some (Value.type "set"):=by kernel_rfl
noncomputable def Z5 (t:xh) (n:Int) (H:Hp):XK:=fun c o H'=>∃a,o=some a∧c=.ref t.qU∧qg H H'∧KZ H' a t.qU [("row",.int n)]
theorem Z5.back {t:xh} {n:Int} {H0 H:Hp} {c:Value} {o:Option Addr} {H':Hp} (h:Z5 t n H c o H') (s:qg H0 H):Z5 t n H0 c o H':=by
 obtain⟨a,h1,h2,h3,h4⟩:=h
 exact⟨a,h1,h2,s.trans h3,h4⟩
noncomputable def aQ (K:PySem.W.Frag) (f:Str):Sp:=fun vs H Q _=>∃(a C:Addr) (v:V),vs=[.ref a,v]∧Xs K C∧qK K C f∧H a=some (xN a C none)∧∀dx,H dx=none→dx≠a→Q .non (upd (upd H dx (xD dx [(f,v)])) a (xN a C (some dx)))
structure bj (rows:List Str):Prop where
 lV:rows.length≤400
 short:∀x∈rows,x.length≤190
noncomputable def jA (rows:List Str) (i:Nat) (x:Str) (m:Int) (taken:List Str):Option (List Str):=
 if i=rows.length then none else
  let ns:=kr (vX (wd rows i)) x m
  if ns=[]∨¬(taken ++ ns).Nodup then none else some ns
theorem X0 {z:Str} {c:Nat} (h:has z c=true):c∈z.cps.toList:=by
 unfold has at h
 rw[StrLaws.found_one] at h
 simpa using h
theorem ud {x:Str} (h:qe x=true):asc x:=fun c hc=>by
 unfold qe g7 at h
 (simp only[Bool.and_eq_true] at h)
 exact iT.2.2 c (X0 (List.all_eq_true.mp h.1.2 c hc))
theorem rm {ws:List Str} {x:Str} {m:Int}:(kr ws x m).length≤ws.length∧∀y∈kr ws x m,qe y=true:=by
 unfold kr
 split
 ·exact⟨Nat.zero_le _,fun y hy=>by cases hy⟩
 ·rename_i h
  refine⟨by rw[List.length_drop];omega,fun y hy=>?_⟩
  have:pV (ws.drop 1) m=true:=by
   cases q:pV (ws.drop 1) m with
   | true=>rfl
   | false=>exact absurd (.inr q) h
  unfold pV at this
  rw[Bool.and_eq_true] at this
  exact List.all_eq_true.mp this.2 y hy
noncomputable def ij (K:PySem.W.Frag):Sp:=fun vs H Q _=>∃(l:Addr) (zs:List Str),vs=[.ref l]∧q0 K H l (zs.map V.str)∧zs.length < 1000∧∀H',qg H H'→Q (.bl (decide zs.Nodup)) H'
noncomputable def VO (K:PySem.W.Frag) (t:xh):Sp:=fun vs H Q E=>∃(a b:Addr) (i:Nat) (x:Str) (m:Int) (rows taken:List Str),vs=[.ref a,.int i,.str x,.int m,.ref b]∧q0 K H a (rows.map V.str)∧H b=some (.lst (taken.map V.str))∧i≤rows.length∧bj rows∧taken.length≤300∧m≤100∧
 (jA rows i x m taken=none→∀c o H',Z5 t i H c o H'→E c o H')∧∀ns l H',jA rows i x m taken=some ns→qg H H'→H l=none→H' l=some (.lst (ns.map V.str))→Q (.ref l) H'
section
variable {P:Program} {w:World} {K:PySem.W.Frag} {mg:Str→Option Value} {base:Heap} {t:xh}
theorem cm:qQ ["self","row"] ["self","row"] (z5 jV):=⟨rfl,rfl,rfl,by decide +kernel,rfl,by decide +kernel,by decide +kernel⟩
set_option maxHeartbeats 400000 in
theorem yf (T:Txt K mg t):qJ P w K mg base jX 1 t.xp t.xB ["self","row"] (aQ K "row"):=by
 refine T.xn.fn.ok cm (fun vs H Q E h=>(by obtain⟨_,_,_,rfl,_⟩:=h;rfl)) (fun cdv A outer s H vs Q E hr h=>?_)
 obtain⟨a,C,v,rfl,c,n,e,k⟩:=h
 exact⟨_,(z9 (JY (pv 0) (pv 1) rfl)),_,rfl,_,rfl,a,C,rfl,c,n,.inl ⟨e,k⟩⟩
theorem Kr {C:Addr} {f:Str} {v:V} {H:Hp} {E:XK} {X:XK} (c:Xs K C) (n:qK K C f) (xc:y8 K C=true) (k:∀a H',qg H H'→KZ H' a C [(f,v)]→E (.ref C) (some a) H') :
  ∀a,H a=none→aQ K f (.ref a :: ([v] ++ [])) (upd H a (xN a C none)) (fun u H2=>u=.non∧∃a' C' d,V.ref a=.ref a'∧y8 K C'=true∧H2 a'=some (xN a' C' d)∧E (.ref C') (some a') (upd H2 a' (xO a' C' d))) X:=by
 intro a ha
 refine⟨a,C,v,rfl,c,n,qw,fun dx hd hne=>⟨rfl,a,C,some dx,rfl,xc,qw,k a _ (fun b o e=>?_) (.inr ⟨dx,qw,?_⟩)⟩⟩
 ·have q:=qv e ha
  have e':(upd H a (xN a C none)) b=some o:=by rw[qW q];exact e
  rw[qW q,qW q,qW (qv e' hd)];exact e'
 ·rw[qW hne,qW hne];exact qw
theorem gW (T:Txt K mg t) {n:Int} {H:Hp} {E:XK} {X:XK} (k:∀c o H',Z5 t n H c o H'→E c o H') :
  ∀a,H a=none→aQ K "row" (.ref a :: ([V.int n] ++ [])) (upd H a (xN a t.qU none)) (fun u H2=>u=.non∧∃a' C' d,V.ref a=.ref a'∧y8 K C'=true∧H2 a'=some (xN a' C' d)∧E (.ref C') (some a') (upd H2 a' (xO a' C' d))) X:=
 Kr T.uA T.ki T.kU.xc fun a H' s x=>k _ _ _ ⟨a,rfl,rfl,s,x⟩
theorem uu:qQ ["names"] ["names"] (z5 jK):=⟨rfl,rfl,rfl,by decide +kernel,rfl,by decide +kernel,by decide +kernel⟩
set_option maxHeartbeats 400000 in
theorem bX (T:Txt K mg t):qJ P w K mg base jX 1 t.kJ t.kZ ["names"] (ij K):=by
 refine T.xo.fn.ok uu (fun vs H Q E h=>(by obtain⟨_,_,rfl,_⟩:=h;rfl)) (fun cdv A outer s H vs Q E hr h=>?_)
 obtain⟨l,zs,rfl,hl,hn,k⟩:=h
 refine⟨_,(z9 (qy (kg jh (qZ eF rfl T.xY PySem.boot_len (z4 (jB (JZ (K:=K) rfl rfl) rfl T.Xu boot_set (z4 (pv 0) z7)) z7)) (qZ (qT (K:=K) rfl) rfl T.xY PySem.boot_len (z4 (pv 0) z7)) (qr _)))),?_⟩
 refine⟨_,rfl,l,zs,rfl,hl,hn,fun a ha=>?_⟩
 refine⟨a,_,rfl,qw,?_⟩
 have s1:qg H (upd H a (Vn P w a (tV [] zs))):=qg.uP ha
 refine⟨_,rfl,l,_,rfl,.inl (s1.seq hl),rfl,?_⟩
 rw[show decide (V.int ((tV [] zs:Nat):Int)=V.int ((zs.map V.str).length:Nat))=decide zs.Nodup from by rw[List.length_map,←X5];simp]
 exact k _ s1
theorem gM:qQ ["rows","number","word","most","taken","names"] ["rows","number","word","most","taken"] (z5 ju):=⟨rfl,rfl,rfl,by decide +kernel,rfl,by decide +kernel,by decide +kernel⟩
set_option maxHeartbeats 400000 in
theorem dX (T:Txt K mg t):qJ P w K mg base (si P w) 6 t.vq t.k6 ["rows","number","word","most","taken"] (VO K t):=by
 have G_v_names_of:qJ P w K mg base jX 5 t.wK t.wQ ["row","word","most"] Xo:=(uB T).mono (by decide)
 have G_v_told_once:qJ P w K mg base jX 5 t.kJ t.kZ ["names"] (ij K):=(bX T).mono (by decide)
 have M_NoText_init:qJ P w K mg base jX 4 t.xp t.xB ["self","row"] (aQ K "row"):=(yf T).mono (by decide)
 refine T.j4.fn.WX gM (fun vs H Q E h=>(by obtain⟨_,_,_,_,_,_,_,rfl,_⟩:=h;rfl)) (fun cdv A outer s H vs Q E hr h=>?_)
 obtain⟨a,b,i,x,m,rows,taken,rfl,hA,hB,hi,hR,hT,hm,kE,kQ⟩:=h
 refine⟨_,(z6 (qG (qp jh (pv 1) (qZ (qT (K:=K) rfl) rfl T.xY PySem.boot_len (z4 (pv 0) z7)) (qr _))
    (z9 (gz pQ rfl (yR T.kU M_NoText_init hr rfl T.v7 T.xn.bd .nil qX (z4 (pv 1) z7)))) qm)
   (z6 (qi (i:=5) gM.nd rfl (Or.inl rfl) (qu G_v_names_of hr rfl T.wN.mg T.wN.fn.kp T.wN.bd .nil qX (z4 (qo (qf (K:=K) rfl) (pv 0) (pv 1) (fun _ _=>rfl)) (z4 (pv 2) (z4 (pv 3) z7)))))
   (z6 (qG (PW.pt (kR (qp (iB (K:=K) rfl hr.units) (pv 5) (jx z7) (qr _)) (kP (w4 (jC (qu G_v_told_once hr rfl T.xo.mg T.xo.fn.kp T.xo.bd .nil qX (z4 (qk wA (pv 4) (pv 5)) z7)))))))
    (z9 (gz pQ rfl (yR T.kU M_NoText_init hr rfl T.v7 T.xn.bd .nil qX (z4 (pv 1) z7)))) qm)
   (z9 (qy (pv 5)))))),?_⟩
 walk_at "rd"
 refine⟨a,_,rfl,.inl hA,rfl,_,rfl,?_⟩
 refine jy (fun h1=>?_) (fun h1=>?_)
 ·walk_at "rd"
  exact gW T (kE (by
   have:(i:Int)=((rows.map V.str).length:Nat):=by simpa using h1
   rw[List.length_map] at this
   unfold jA;rw[if_pos (by omega)]))
 have hi':i < rows.length:=by
  have:¬(i:Int)=((rows.map V.str).length:Nat):=by simpa using h1
  rw[List.length_map] at this;omega
 have hwd:wd rows i∈rows:=p7 hi'
 have eR:jA rows i x m taken=(if kr (vX (wd rows i)) x m=[]∨¬(taken ++ kr (vX (wd rows i)) x m).Nodup then none else some (kr (vX (wd rows i)) x m)):=by
  unfold jA;rw[if_neg (by omega)]
 walk_at "rd"
 simp only[Int.toNat_natCast]
 refine⟨hR.short _ hwd,fun l H1 s1 hl e1=>?_⟩
 have e1':H1 l=some (.lst ((kr (vX (wd rows i)) x m).map V.str)):=e1
 clear e1
 have hn:=@rm (vX (wd rows i)) x m
 have hw:=(dE (wd rows i)).2
 have hw2:=hR.short _ hwd
 have hb:(kr (vX (wd rows i)) x m).length≤192:=by omega
 have ho:=hn.2
 clear hn hw hw2
 generalize kr (vX (wd rows i)) x m=ns at *
 have sh:SeqAt.shaped (.list (ns.map PyData.str))=true:=v8 fun y hy=>(ud (ho y hy)).ok
 walk_at "rd"
 intro l2 H2 s2 hl2 e2
 have sh0:SeqAt.shaped (.list (([]:List Str).map PyData.str))=true:=v8 (xs:=[]) fun y hy=>by cases hy
 refine⟨_,_,su.lst (q0.of (s2 _ _ e1')) (gG.strs ns),su.lst (q0.of e2) (gG.strs []),sh,sh0,_,rfl,?_⟩
 rw[ny]
 refine jy (fun h2=>?_) (fun h2=>?_)
 ·walk_at "rd"
  exact gW T fun c o H' z=>kE (by rw[eR,if_pos (.inl (of_decide_eq_true h2))]) c o H' (z.back (s1.trans s2))
 have hne:¬ns=[]:=fun q=>h2 (decide_eq_true q)
 walk_at "rd"
 refine⟨b,l,_,_,rfl,rfl,s2 _ _ (s1 _ _ hB),s2 _ _ e1',qx (by simp only[List.length_map];omega),?_⟩
 intro l3 H3 s3 hl3 e3
 refine⟨l3,taken ++ ns,rfl,q0.of (by rw[e3,List.map_append]),(by rw[List.length_append];omega),fun H4 s4=>?_⟩
 have sA:qg H H4:=((s1.trans s2).trans s3).trans s4
 walk_at "rd"
 refine jy (fun h3=>?_) (fun h3=>?_)
 ·walk_at "rd"
  exact gW T fun c o H' z=>kE (by rw[eR,if_pos (.inr (of_decide_eq_false (cY h3)))]) c o H' (z.back sA)
 walk_at "rd"
 exact kQ ns l H4 (by rw[eR,if_neg (fun q=>q.elim hne (fun q=>q (of_decide_eq_true (uy h3))))]) sA hl (s4 _ _ (s3 _ _ (s2 _ _ e1')))
noncomputable def xm (taken:List Str):List (Str × Str)→List Str→Except Nat (List (Str × Str))
 | found,[]=>if found=[] then .error 2 else .ok found
 | found,x :: r=>match bT (vX x) with
  | none=>if found=[] then .error 2 else .ok found
  | some mn=>if found.length=12∨¬(taken ++ (found ++ [mn]).map (·.2)).Nodup then .error (2 + found.length) else xm taken (found ++ [mn]) r
noncomputable def vK (H:Hp) (v:V) (mn:Str × Str):Prop:=∃p,v=.ref p∧H p=some (.tup [.str mn.1,.str mn.2])
noncomputable def mC (mn:Str × Str):Prop:=mn.1∈xw∧qe mn.2=true
theorem QS {ws:List Str} {m n:Str} (h:bT ws=some (m,n)):mC (m,n):=by
 unfold bT at h
 split at h
 ·rename_i q
  cases h
  rw[dH] at q
  exact⟨of_decide_eq_true q.2.1,q.2.2⟩
 ·cases h
theorem QC:∀x∈xw,PyData.strOk x=true:=by decide +kernel
noncomputable def Vl (mn:Str × Str):PyData:=.tuple [.str mn.1,.str mn.2]
theorem QK:∀{fnd:List (Str × Str)},(∀mn∈fnd,mC mn)→PyData.canLayAll0 (fnd.map Vl)=true∧PyData.depthAll (fnd.map Vl)≤2
 | [],_=>⟨rfl,Nat.zero_le _⟩
 | mn :: r,h=>by
  have q:=QK (fnd:=r) fun x hx=>h x (List.mem_cons_of_mem _ hx)
  have h1:=QC _ (h mn List.mem_cons_self).1
  have h2:=(ud (h mn List.mem_cons_self).2).ok
  have q2:=q.2
  simp [PyData.canLayAll0,PyData.canLay0,PyData.depthAll,PyData.depth,Vl,q.1,h1,h2]
  omega
theorem au {fnd:List (Str × Str)} (h:∀mn∈fnd,mC mn):SeqAt.shaped (.list (fnd.map Vl))=true:=by
 have q:=QK h
 simp [SeqAt.shaped,PyData.canLay0,PyData.depth,q.1]
 omega
theorem vK.same {H H':Hp} {v:V} {mn:Str × Str} (h:vK H v mn) (s:qg H H'):vK H' v mn:=by
 obtain⟨p,e,q⟩:=h
 exact⟨p,e,s _ _ q⟩
theorem vK.keeps {H H':Hp} {v:V} {mn:Str × Str} {l:Addr} {xs:List V} (h:vK H v mn) (k:Keeps l H H') (e:H l=some (.lst xs)):vK H' v mn:=by
 obtain⟨p,e',q⟩:=h
 exact⟨p,e',k.look q (df q e (by intro z;cases z))⟩
theorem Paired.snoc {α β:Type} {F:α→β→Prop} {a:α} {b:β}:∀{xs:List α} {ys:List β},Paired F xs ys→F a b→Paired F (xs ++ [a]) (ys ++ [b])
 | [],[],_,h=>.cons h .nil
 | _ :: _,_ :: _,.cons h t,q=>.cons h (Paired.snoc t q)
noncomputable def Vb (H:Hp) (y:V):List (Option V):=match y with
 | .ref p=>(match H p with | some (.tup [u,v])=>[some u,some v] | _=>[none,none])
 | _=>[none,none]
theorem Xz (H:Hp) (y:V):(Vb H y).length=2:=by
 unfold Vb
 split
 ·split<;>rfl
 ·rfl
theorem Paired.Ko {α β:Type} {F:α→β→Prop} {a:α}:∀{xs:List α} {ys:List β},Paired F xs ys→a∈xs→∃b∈ys,F a b
 | _ :: _,_ :: _,.cons h t,q=>by
  rcases List.mem_cons.mp q with rfl | q
  ·exact⟨_,List.mem_cons_self,h⟩
  ·obtain⟨b,hb,hF⟩:=Paired.Ko t q
   exact⟨b,List.mem_cons_of_mem _ hb,hF⟩
theorem uo {H:Hp}:∀{vs:List V} {fnd:List (Str × Str)} {ys:List V},Paired (vK H) vs fnd→Paired (fun y v=>∀p m n,y=V.ref p→H p=some (.tup [.str m,.str n])→v=V.str n) vs ys→ys=(fnd.map (·.2)).map V.str
 | [],[],[],_,_=>rfl
 | _ :: _,_ :: _,_ :: _,.cons ⟨p,e,q⟩ t,.cons h t'=>by
  rw[h p _ _ e q,uo t t']
  rfl
theorem nU {K:PySem.W.Frag} {H:Hp}:∀{vs:List V} {fnd:List (Str × Str)},Paired (vK H) vs fnd→gG K H vs (fnd.map Vl)
 | [],[],_=>.nil
 | _ :: _,_ :: _,.cons ⟨p,e,q⟩ t=>by
  subst e
  exact .cons (su.tup (pD.of q) (.cons (.str _) (.cons (.str _) .nil))) (nU t)
theorem KU (fnd:List (Str × Str)):PyData.eqv (.list (fnd.map Vl)) (.list (([]:List Str).map PyData.str))=decide (fnd=[]):=by
 cases fnd<;>simp [PyData.eqv,PyData.eqvAll]
noncomputable def Wv (K:PySem.W.Frag) (t:xh):Sp:=fun vs H Q E=>∃(a b:Addr) (rows taken:List Str),vs=[.ref a,.ref b]∧q0 K H a (rows.map V.str)∧H b=some (.lst (taken.map V.str))∧bj rows∧taken.length≤400∧
 (∀n:Nat,xm taken [] (rows.drop 2)=.error n→∀c o H',Z5 t n H c o H'→E c o H')∧∀rs l H' vs,xm taken [] (rows.drop 2)=.ok rs→qg H H'→H l=none→H' l=some (.lst vs)→Paired (vK H') vs rs→Q (.ref l) H'
theorem kG:qQ ["rows","taken","rooms","row","room"] ["rows","taken"] (z5 jw):=⟨rfl,rfl,rfl,by decide +kernel,rfl,by decide +kernel,by decide +kernel⟩
set_option maxHeartbeats 400000 in
theorem dW (T:Txt K mg t):qJ P w K mg base (si P w) 6 t.vj t.vm ["rows","taken"] (Wv K t):=by
 have G_v_room_of:qJ P w K mg base jX 5 t.yn t.ya ["row"] QW:=(sm T).mono (by decide)
 have G_v_told_once:qJ P w K mg base jX 5 t.kJ t.kZ ["names"] (ij K):=(bX T).mono (by decide)
 have M_NoText_init:qJ P w K mg base jX 4 t.xp t.xB ["self","row"] (aQ K "row"):=(yf T).mono (by decide)
 refine T.vg.fn.WX kG (fun vs H Q E h=>(by obtain⟨_,_,_,_,rfl,_⟩:=h;rfl)) (fun cdv A outer s H vs Q E hr h=>?_)
 obtain⟨a,b,rows,taken,rfl,hA,hB,hR,hT,kE,kQ⟩:=h
 refine⟨_,(z6 (qi (i:=2) kG.nd rfl (Or.inl rfl) (jx z7) bO)
   (z6 (PS.join (pN PassesOwn.leaving rfl (yA (K:=K) rfl (xH (xA (K:=K) rfl) (pv 0) (xR (jv rfl (T.ve).choose_spec (v:=.int 2) ⟨_,rfl⟩)) vU)) (kh (i:=3) kG.nd rfl (Or.inl rfl))
    (z6 (qi (i:=4) kG.nd rfl (Or.inl rfl) (qu G_v_room_of hr rfl T.yL.mg T.yL.fn.kp T.yL.bd .nil qX (z4 (pv 3) z7)))
   (z6 (qG (qp nN (pv 4) vi (qr _))
    (z9 (Zk)) qm)
   (z6 (qG (PW.pt (kR (qp jh (qZ (qT (K:=K) rfl) rfl T.xY PySem.boot_len (z4 (pv 2) z7)) (jv rfl (T.gX).choose_spec (v:=.int 12) ⟨_,rfl⟩) (qr _)) (kP (w4 (jC (qu G_v_told_once hr rfl T.xo.mg T.xo.fn.kp T.xo.bd .nil qX (z4 (qk wA (pv 1) (rF (osc:=z5 jw) (N:=["rows","taken","rooms","row","room"]) (xs:=["mark","name"]) (names:=[]) (qM:=[]) rfl rfl rfl ⟨rfl,by decide +kernel,by decide +kernel,by decide +kernel,by decide +kernel,rfl,by decide +kernel,by decide +kernel⟩ (yA (K:=K) rfl (qk wA (pv 2) (jx (z4 (pv 4) z7)))) (fun _ _ _=>(so (K:=K) (n:=2) rfl rfl (yC (kh (i:=0) (show (["mark","name"]:List Str).Nodup from by decide +kernel) rfl (.inl (nF rfl)) (.inr (nF rfl))) (yC (kh (i:=1) (show (["mark","name"]:List Str).Nodup from by decide +kernel) rfl (.inl (nF rfl)) (.inr (nF rfl))) lC)) rfl rfl)) (fun _ _ _=>i6) (fun _ _ _=>(pv 1)))) z7)))))))
    (z9 (gz pQ rfl (yR T.kU M_NoText_init hr rfl T.v7 T.xn.bd .nil qX (z4 (qk jI (jv rfl (T.ve).choose_spec (v:=.int 2) ⟨_,rfl⟩) (qZ (qT (K:=K) rfl) rfl T.xY PySem.boot_len (z4 (pv 2) z7))) z7)))) qm)
   (z9 (xS (ko PySem.F.plainAttrs_list PySem.F.slot_list_append PySem.F.type_list_append kN (pv 2) (z4 (pv 4) z7)))))))))
   (z6 (qG (qp (iB (K:=K) rfl hr.units) (pv 2) (jx z7) (qr _))
    (z9 (gz pQ rfl (yR T.kU M_NoText_init hr rfl T.v7 T.xn.bd .nil qX (z4 (jv rfl (T.ve).choose_spec (v:=.int 2) ⟨_,rfl⟩) z7)))) qm)
   (z9 (qy (pv 2)))))),?_⟩
 refine⟨Nat.zero_le _,?_⟩
 intro l H1 s1 hl e1
 refine⟨fun σ' H'=>(∃(vs:List V) (fnd:List (Str × Str)) (v3 v4:Option V),σ'=[some (.ref a),some (.ref b),some (.ref l),v3,v4]∧qg H H'∧H' l=some (.lst vs)∧Paired (vK H') vs fnd∧fnd.length≤12∧(∀mn∈fnd,mC mn)∧xm taken [] (rows.drop 2)=(if fnd=[] then .error 2 else .ok fnd))∨False,?_,?_⟩
 ·walk_at "rd"
  intro l0 H2 s2 hl0 e2
  have e2':H2 l0=some (.lst ((rows.drop 2).map V.str)):=by rw[←gj V.str rows 2];exact e2
  clear e2
  walk_at "rd"
  have hne0:l0≠l:=Ne.symm (qv e1 hl0)
  refine cU (K:=K) (a:=l0) (xs:=(rows.drop 2).map V.str) (fun i σ H'=>∃(vs:List V) (fnd:List (Str × Str)) (v3 v4:Option V),σ=[some (.ref a),some (.ref b),some (.ref l),v3,v4]∧qg H H'∧H' l=some (.lst vs)∧H' l0=some (.lst ((rows.drop 2).map V.str))∧Paired (vK H') vs fnd∧fnd.length≤12∧(∀mn∈fnd,mC mn)∧xm taken [] (rows.drop 2)=xm taken fnd ((rows.drop 2).drop i))
   ⟨[],[],none,none,rfl,s1.trans s2,s2 _ _ e1,e2',.nil,Nat.zero_le _,fun _ z=>(by cases z),by rw[List.drop_zero]⟩ (fun i σ H' _ ⟨_,_,_,_,_,_,_,q,_⟩=>q0.of q) ?_ ?_
  ·rintro i y σ H3 hi ⟨vs,fnd,v3,v4,rfl,s3,e3,e30,hP,hf,jz,hr'⟩
   rw[List.getElem?_map] at hi
   cases q:(rows.drop 2)[i]? with
   | none=>rw[q] at hi;cases hi
   | some x=>
    rw[q] at hi
    cases hi
    have hx:x∈rows:=List.mem_of_mem_drop (List.mem_of_getElem? q)
    have hd:(rows.drop 2).drop i=x :: (rows.drop 2).drop (i + 1):=by
     obtain⟨hi',e⟩:=List.getElem?_eq_some_iff.mp q
     rw[←e];exact List.drop_eq_getElem_cons hi'
    rw[hd] at hr'
    walk_at "rd"
    refine⟨hR.short _ hx,fun H4 s4=>⟨fun h0=>?_,fun p m n h0 hp e4=>?_⟩⟩
    ·walk_at "rd"
     refine .inl ⟨vs,fnd,_,_,rfl,s3.trans s4,s4 _ _ e3,Paired.imp' (fun _ _ z=>z.same s4) hP,hf,jz,?_⟩
     rw[hr',xm,h0]
    ·have hP4:Paired (vK H4) (vs ++ [.ref p]) (fnd ++ [(m,n)]):=Paired.snoc (Paired.imp' (fun _ _ z=>z.same s4) hP) ⟨p,rfl,e4⟩
     have hlen:vs.length=fnd.length:=Paired.length hP
     have eRR:xm taken fnd (x :: List.drop (i + 1) (List.drop 2 rows))=if fnd.length=12∨¬(taken ++ (fnd ++ [(m,n)]).map (·.2)).Nodup then .error (2 + fnd.length) else xm taken (fnd ++ [(m,n)]) (List.drop (i + 1) (List.drop 2 rows)):=by rw[xm,h0]
     rw[eRR] at hr'
     have e34:=s4 _ _ e3
     have raise2:(fnd.length=12∨¬(taken ++ (fnd ++ [(m,n)]).map (·.2)).Nodup)→∀c o H',Z5 t (2 + (vs.length:Nat):Int) H c o H'→E c o H':=fun z c o H' q=>kE (2 + fnd.length) (by rw[hr',if_pos z]) c o H' (by rw[←hlen];exact q)
     walk_at "rd"
     refine⟨l,_,rfl,.inl (q0.of e34),rfl,_,rfl,?_⟩
     refine jy (fun h12=>?_) (fun h12=>?_)
     ·walk_at "rd"
      refine⟨l,_,rfl,.inl (q0.of e34),?_⟩
      walk_at "rd"
      exact gW T fun c o H' z=>raise2 (.inl (by
       have:((vs.length:Nat):Int)=12:=by simpa using h12
       omega)) c o H' (z.back (s3.trans s4))
     have hn12:¬fnd.length=12:=fun q=>h12 (by rw[hlen,q];rfl)
     walk_at "rd"
     intro l5 H5 s5 hl5 e5
     refine⟨l,l5,_,_,rfl,rfl,s5 _ _ e34,e5,qx (by simp only[List.length_cons,List.length_nil];omega),?_⟩
     intro l6 H6 s6 hl6 e6
     have hP6:Paired (vK H6) (vs ++ [.ref p]) (fnd ++ [(m,n)]):=Paired.imp' (fun _ _ z=>z.same (s5.trans s6)) hP4
     refine⟨l6,rfl,⟨_,q0.of e6⟩,aL (mU (q0.of e6)) (Vb H6) (Xz H6) (fun y v=>∀p m n,y=V.ref p→H6 p=some (.tup [.str m,.str n])→v=V.str n) (qx (by rw[List.length_append];simp only[List.length_cons,List.length_nil];omega)) ?_ ?_ ?_⟩
     ·intro j y ts H' K' hy hts s' k'
      obtain⟨mn,_,p',rfl,ep⟩:=Paired.Ko hP6 (List.mem_of_getElem? hy)
      have et:Vb H6 (.ref p')=[some (.str mn.1),some (.str mn.2)]:=by unfold Vb;simp only[ep]
      rw[et] at k'
      match ts,hts with
      | [t1,t2],_=>exact⟨p',_,rfl,pD.of (s' _ _ ep),rfl,_,_,rfl,_,_,rfl,rfl,k'⟩
     ·intro j y H' Q' hy s' kk
      obtain⟨mn,_,p',rfl,ep⟩:=Paired.Ko hP6 (List.mem_of_getElem? hy)
      have et:Vb H6 (.ref p')=[some (.str mn.1),some (.str mn.2)]:=by unfold Vb;simp only[ep]
      rw[et]
      refine⟨_,rfl,kk _ _ (qg.refl _) fun p2 m2 n2 e q=>?_⟩
      cases e
      rw[ep] at q
      cases q
      rfl
     intro D H7 ys s7 hD e7 hPr
     rw[uo hP6 hPr] at e7
     have sA:qg H H7:=(((s3.trans s4).trans s5).trans s6).trans s7
     walk_at "rd"
     refine⟨b,D,_,_,rfl,rfl,sA _ _ hB,e7,qx (by simp only[List.length_map,List.length_append,List.length_cons,List.length_nil];omega),?_⟩
     intro l8 H8 s8 hl8 e8
     refine⟨l8,taken ++ (fnd ++ [(m,n)]).map (·.2),rfl,q0.of (by rw[e8,←List.map_append]),(by simp only[List.length_map,List.length_append,List.length_cons,List.length_nil];omega),fun H9 s9=>?_⟩
     have sB:qg H4 H9:=(((s5.trans s6).trans s7).trans s8).trans s9
     walk_at "rd"
     refine jy (fun h3=>?_) (fun h3=>?_)
     ·walk_at "rd"
      refine⟨l,_,rfl,.inl (q0.of (sB _ _ e34)),?_⟩
      walk_at "rd"
      exact gW T fun c o H' z=>raise2 (.inr (of_decide_eq_false (cY h3))) c o H' (z.back ((s3.trans s4).trans sB))
     walk_at "rd"
     intro H10 k10 e10
     have e9l:=sB _ _ e34
     refine⟨vs ++ [.ref p],fnd ++ [(m,n)],_,_,rfl,k10.put ((s3.trans s4).trans sB) hl,e10,k10.look (sB _ _ (s4 _ _ e30)) (fun q=>?_),Paired.imp' (fun _ _ z=>(z.same sB).keeps k10 e9l) hP4,(by rw[List.length_append];simp only[List.length_cons,List.length_nil];omega),(fun z hz=>(List.mem_append.mp hz).elim (jz z) (fun hz=>by rw[List.mem_singleton.mp hz];exact QS h0)),?_⟩
     ·exact hne0 q
     ·rw[hr',if_neg (fun q=>q.elim hn12 (fun q=>q (of_decide_eq_true (uy h3))))]
  ·rintro σ H3 ⟨vs,fnd,v3,v4,rfl,s3,e3,e30,hP,hf,jz,hr'⟩
   rw[List.length_map,List.drop_length,xm] at hr'
   exact .inl ⟨vs,fnd,v3,v4,rfl,s3,e3,hP,hf,jz,hr'⟩
 ·rintro σ H3 (⟨vs,fnd,v3,v4,rfl,s3,e3,hP,hf,jz,hr'⟩ | ⟨⟨⟩⟩)
  walk_at "rd"
  intro l4 H4 s4 hl4 e4
  have sh0:SeqAt.shaped (.list (([]:List Str).map PyData.str))=true:=v8 (xs:=[]) fun y hy=>by cases hy
  have hP4:Paired (vK H4) vs fnd:=Paired.imp' (fun _ _ z=>z.same s4) hP
  refine⟨_,_,su.lst (q0.of (s4 _ _ e3)) (nU hP4),su.lst (q0.of e4) (gG.strs []),au jz,sh0,_,rfl,?_⟩
  rw[KU]
  refine jy (fun h2=>?_) (fun h2=>?_)
  ·walk_at "rd"
   exact gW T fun c o H' z=>kE 2 (by rw[hr',if_pos (of_decide_eq_true h2)]) c o H' (z.back (s3.trans s4))
  walk_at "rd"
  exact kQ fnd l H4 vs (by rw[hr',if_neg (fun q=>h2 (decide_eq_true q))]) (s3.trans s4) hl (s4 _ _ e3) hP4
end
inductive Rw where
 | lt (n v:Str)
 | cl (k:Int) (l u a:Str) (n:Int) (r:Str)
 | pt (n:Str) (rs:List Str) (rows:List Rw)
mutual
noncomputable def bq (t:xh) (ms:List Addr) (H:Hp):Rw→V→Prop
 | .lt n v,x=>∃p,x=.ref p∧p∉ms∧Y3 t H p n v
 | .cl k l u a n r,x=>∃p,x=.ref p∧p∉ms∧At t H p k l u a n r
 | .pt n rs rows,x=>∃p dx a b ys,x=.ref p∧p∉ms∧a∉ms∧b∉ms∧H p=some (.ins t.jH dx (eI n a b))∧H a=some (.lst (rs.map V.str))∧H b=some (.lst ys)∧jN t ms H rows ys
noncomputable def jN (t:xh) (ms:List Addr) (H:Hp):List Rw→List V→Prop
 | [],ys=>ys=[]
 | r :: rs,ys=>∃y ys',ys=y :: ys'∧bq t ms H r y∧jN t ms H rs ys'
end
noncomputable def Fm (ms:List Addr) (H H':Hp):Prop:=∀b o,b∉ms→H b=some o→H' b=some o
theorem Fm.trans {ms ms':List Addr} {H H1 H2:Hp} (a:Fm ms H H1) (b:Fm ms' H1 H2) (hm:∀b∈ms',b∈ms∨H b=none):Fm ms H H2:=fun c o hc e=>b c o (fun z=>(hm c z).elim hc (fun q=>by rw[e] at q;cases q)) (a c o hc e)
theorem Fm.of {ms:List Addr} {H H1:Hp} (s:qg H H1):Fm ms H H1:=fun c o _ e=>s _ _ e
theorem Fm.ou {ms:List Addr} {H0 H H1:Hp} (a:Fm ms H H1) (s:qg H0 H) (h:∀b∈ms,H0 b=none):qg H0 H1:=fun c o e=>a c o (fun z=>by rw[h c z] at e;cases e) (s c o e)
theorem mZ {ms ms':List Addr} {H:Hp} {b:Addr} {o:HO} (hm:∀b∈ms',b∈ms∨H b=none) (h:b∉ms) (e:H b=some o):b∉ms':=fun z=>(hm b z).elim h (fun q=>by rw[e] at q;cases q)
mutual
theorem bq.move {t:xh} {ms ms':List Addr} {H H':Hp} (hk:Fm ms H H') (hm:∀b∈ms',b∈ms∨H b=none):∀{r:Rw} {x:V},bq t ms H r x→bq t ms' H' r x
 | .lt n v,x,h=>by
  unfold bq at h ⊢
  obtain⟨p,e,hp,dx,q⟩:=h
  exact⟨p,e,mZ hm hp q,dx,hk _ _ hp q⟩
 | .cl k l u a n r,x,h=>by
  unfold bq at h ⊢
  obtain⟨p,e,hp,dx,q⟩:=h
  exact⟨p,e,mZ hm hp q,dx,hk _ _ hp q⟩
 | .pt n rs rows,x,h=>by
  unfold bq at h ⊢
  obtain⟨p,dx,a,b,ys,e,hp,ha,hb,e1,e2,e3,q⟩:=h
  exact⟨p,dx,a,b,ys,e,mZ hm hp e1,mZ hm ha e2,mZ hm hb e3,hk _ _ hp e1,hk _ _ ha e2,hk _ _ hb e3,jN.move hk hm q⟩
theorem jN.move {t:xh} {ms ms':List Addr} {H H':Hp} (hk:Fm ms H H') (hm:∀b∈ms',b∈ms∨H b=none):∀{rs:List Rw} {ys:List V},jN t ms H rs ys→jN t ms' H' rs ys
 | [],ys,h=>by unfold jN at h ⊢;exact h
 | r :: rs,ys,h=>by
  unfold jN at h ⊢
  obtain⟨y,ys',e,h1,h2⟩:=h
  exact⟨y,ys',e,bq.move hk hm h1,jN.move hk hm h2⟩
end
theorem jN.snoc {t:xh} {ms:List Addr} {H:Hp} {r:Rw} {y:V} (h:bq t ms H r y):∀{rs:List Rw} {ys:List V},jN t ms H rs ys→jN t ms H (rs ++ [r]) (ys ++ [y])
 | [],ys,q=>by
  unfold jN at q
  subst q
  show jN t ms H [r] [y]
  unfold jN
  exact⟨y,[],rfl,h,by unfold jN;rfl⟩
 | r' :: rs,ys,q=>by
  unfold jN at q
  obtain⟨y',ys',rfl,h1,h2⟩:=q
  show jN t ms H (r' :: (rs ++ [r])) (y' :: (ys' ++ [y]))
  unfold jN
  exact⟨y',_,rfl,h1,jN.snoc h h2⟩
theorem jN.len {t:xh} {ms:List Addr} {H:Hp}:∀{rs:List Rw} {ys:List V},jN t ms H rs ys→ys.length=rs.length
 | [],ys,q=>by unfold jN at q;rw[q];rfl
 | r' :: rs,ys,q=>by
  unfold jN at q
  obtain⟨y',ys',rfl,h1,h2⟩:=q
  rw[List.length_cons,List.length_cons,jN.len h2]
noncomputable abbrev Fr:=Str × List Str × List Rw
noncomputable def bL (t:xh) (ms:List Addr) (H:Hp) (B:Nat):List Addr→List Addr→List Fr→Prop
 | [],[],[]=>True
 | p :: ps,q :: qs,(n,rs,rows) :: fr=>(∃dx a b,p∉ms∧a∉ms∧H p=some (.ins t.jH dx (eI n a b))∧H a=some (.lst (rs.map V.str)))∧(∃ys,H q=some (.lst ys)∧jN t ms H rows ys∧rows.length≤B)∧bL t ms H B ps qs fr
 | _,_,_=>False
noncomputable def oa (a b c:Addr):List (Str × V):=[("heads",.ref a),("bodies",.ref b),("labels",.ref c)]
noncomputable def Q9 (ls:List Str):List (Key × V):=ls.map fun l=>(.inr l,.bl true)
structure lX (t:xh) (H:Hp) (me dx hd bd lb:Addr) (hps bqs:List Addr) (fr:List Fr) (ls:List Str) (B:Nat):Prop where
 nd:(me :: hd :: bd :: lb :: bqs).Nodup
 se:H me=some (.ins t.qC dx (oa hd bd lb))
 hh:H hd=some (.lst (hps.map V.ref).reverse)
 hb:H bd=some (.lst (bqs.map V.ref).reverse)
 hl:H lb=some (.dK (Q9 ls))
 fa:bL t (me :: hd :: bd :: lb :: bqs) H B hps bqs fr
 lV:ls.length≤B
noncomputable def wj (t:xh) (H:Hp) (me:Addr) (fr:List Fr) (ls:List Str) (B:Nat) (ms:List Addr):Prop:=∃dx hd bd lb hps bqs,ms=me :: hd :: bd :: lb :: bqs∧lX t H me dx hd bd lb hps bqs fr ls B
theorem bL.len {t:xh} {ms:List Addr} {H:Hp} {B:Nat}:∀{ps qs:List Addr} {fr:List Fr},bL t ms H B ps qs fr→ps.length=fr.length∧qs.length=fr.length
 | [],[],[],_=>⟨rfl,rfl⟩
 | p :: ps,q :: qs,(n,rs,rows) :: fr,h=>by
  have:=bL.len h.2.2
  simp [this.1,this.2]
theorem bL.move {t:xh} {ms ms':List Addr} {H H':Hp} {B B':Nat} (hk:Fm ms H H') (hm:∀b∈ms',b∈ms∨H b=none) (hB:B≤B'):∀{ps qs:List Addr} {fr:List Fr},bL t ms H B ps qs fr→(∀q∈qs,∀o,H q=some o→H' q=some o)→bL t ms' H' B' ps qs fr
 | [],[],[],_,_=>True.intro
 | p :: ps,q :: qs,(n,rs,rows) :: fr,h,hq=>by
  obtain⟨⟨dx,a,b,h1,h2,h3,h4⟩,⟨ys,h5,h6,h7⟩,h8⟩:=h
  exact⟨⟨dx,a,b,mZ hm h1 h3,mZ hm h2 h4,hk _ _ h1 h3,hk _ _ h2 h4⟩,⟨ys,hq q List.mem_cons_self _ h5,h6.move hk hm,by omega⟩,bL.move hk hm hB h8 fun c hc=>hq c (List.mem_cons_of_mem _ hc)⟩
theorem bL.aA {t:xh} {ms:List Addr} {H:Hp} {B:Nat}:∀{ps qs:List Addr} {fr:List Fr},bL t ms H B ps qs fr→∀q∈qs,∃o,H q=some o
 | [],[],[],_,q,hq=>by cases hq
 | p :: ps,q :: qs,(n,rs,rows) :: fr,h,c,hc=>by
  obtain⟨_,⟨ys,h5,_,_⟩,h8⟩:=h
  (rcases List.mem_cons.mp hc with rfl | hc)
  ·exact⟨_,h5⟩
  ·exact bL.aA h8 c hc
theorem lX.aA {t:xh} {H:Hp} {me dx hd bd lb:Addr} {hps bqs:List Addr} {fr:List Fr} {ls:List Str} {B:Nat} (h:lX t H me dx hd bd lb hps bqs fr ls B):∀b∈me :: hd :: bd :: lb :: bqs,∃o,H b=some o:=by
 intro b hb
 simp only[List.mem_cons] at hb
 rcases hb with rfl | rfl | rfl | rfl | hb
 ·exact⟨_,h.se⟩
 ·exact⟨_,h.hh⟩
 ·exact⟨_,h.hb⟩
 ·exact⟨_,h.hl⟩
 ·exact h.fa.aA b hb
theorem bL.inv {t:xh} {ms:List Addr} {H:Hp} {B:Nat} {n:Str} {rs:List Str} {rows:List Rw} {fr:List Fr}:∀{hps bqs:List Addr},bL t ms H B hps bqs ((n,rs,rows) :: fr)→∃p ps q qs,hps=p :: ps∧bqs=q :: qs∧(∃dx a b,p∉ms∧a∉ms∧H p=some (.ins t.jH dx (eI n a b))∧H a=some (.lst (rs.map V.str)))∧(∃ys,H q=some (.lst ys)∧jN t ms H rows ys∧rows.length≤B)∧bL t ms H B ps qs fr
 | [],_,h=>by simp [bL] at h
 | _ :: _,[],h=>by simp [bL] at h
 | p :: ps,q :: qs,h=>⟨p,ps,q,qs,rfl,rfl,h.1,h.2.1,h.2.2⟩
section
variable {P:Program} {w:World} {K:PySem.W.Frag} {mg:Str→Option Value} {base:Heap} {t:xh}
end
noncomputable def lJ (t:xh):Sp:=fun vs H Q _=>∃(self:Addr) (fr:List Fr) (ls:List Str) (B:Nat) (ms:List Addr),vs=[.ref self]∧wj t H self fr ls B ms∧Q (.int (((fr.length:Nat):Int) - 1)) H
noncomputable def iJ (t:xh):Sp:=fun vs H Q _=>∃(self:Addr) (y:V) (n:Str) (rs:List Str) (rows:List Rw) (fr:List Fr) (ls:List Str) (B:Nat) (ms:List Addr) (r:Rw),vs=[.ref self,y]∧wj t H self ((n,rs,rows) :: fr) ls B ms∧bq t ms H r y∧B < 1000∧∀H',Fm ms H H'→wj t H' self ((n,rs,rows ++ [r]) :: fr) ls (B + 1) ms→Q .non H'
noncomputable def cn (t:xh):Sp:=fun vs H Q _=>∃(self:Addr) (n:Str) (rs:List Str) (rows:List Rw) (fr:List Fr) (ls:List Str) (B:Nat) (ms:List Addr),vs=[.ref self]∧wj t H self ((n,rs,rows) :: fr) ls B ms∧B≤1000∧∀p H' ms',Fm ms H H'→(∀b∈ms',b∈ms)→wj t H' self fr ls B ms'→bq t ms' H' (.pt n rs rows) (.ref p)→Q (.ref p) H'
section
variable {P:Program} {w:World} {K:PySem.W.Frag} {mg:Str→Option Value} {base:Heap} {t:xh}
theorem b1:¬(("bodies" : Str) = "heads"):=by decide +kernel
theorem b2:¬(("labels" : Str) = "heads"):=by decide +kernel
theorem b3:¬(("labels" : Str) = "bodies"):=by decide +kernel
section
variable {H:Hp} {self dx hd bd lb:Addr} {hps bqs:List Addr} {fr:List Fr} {ls:List Str} {B:Nat}
theorem lX.f1 (h:lX t H self dx hd bd lb hps bqs fr ls B) (T:Txt K mg t):Vf K H (.ref self) "heads" (.ref hd):=⟨self,_,dx,_,rfl,h.se,T.jn,T.vB,j5⟩
theorem lX.f2 (h:lX t H self dx hd bd lb hps bqs fr ls B) (T:Txt K mg t):Vf K H (.ref self) "bodies" (.ref bd):=⟨self,_,dx,_,rfl,h.se,T.jn,T.x5,(kx b1).trans j5⟩
theorem lX.f3 (h:lX t H self dx hd bd lb hps bqs fr ls B) (T:Txt K mg t):Vf K H (.ref self) "labels" (.ref lb):=⟨self,_,dx,_,rfl,h.se,T.jn,T.yv,(kx b2).trans ((kx b3).trans j5)⟩
end
theorem mh:qQ ["self"] ["self"] (z5 q9):=⟨rfl,rfl,rfl,by decide +kernel,rfl,by decide +kernel,by decide +kernel⟩
set_option maxHeartbeats 400000 in
theorem vx (T:Txt K mg t):qJ P w K mg base jX 1 t.kf t.vY ["self"] (lJ t):=by
 refine T.x4.fn.ok mh (fun vs H Q E h=>(by obtain⟨_,_,_,_,_,rfl,_⟩:=h;rfl)) (fun cdv A outer s H vs Q E hr h=>?_)
 obtain⟨self,fr,ls,B,ms,rfl,⟨dx,hd,bd,lb,hps,bqs,rfl,h⟩,k⟩:=h
 refine⟨_,(z9 (qy (qk fz (qZ (qT (K:=K) rfl) rfl T.xY PySem.boot_len (z4 (ku (K:=K) rfl (pv 0) rfl) z7)) z8))),?_⟩
 refine⟨_,rfl,_,h.f1 T,hd,_,rfl,.inl (q0.of h.hh),?_⟩
 refine⟨_,_,rfl,rfl,?_⟩
 have:(hps.map V.ref).reverse.length=fr.length:=by rw[List.length_reverse,List.length_map];exact h.fa.len.1
 rw[this]
 exact k
theorem ua:qQ ["self","row"] ["self","row"] (z5 jQ):=⟨rfl,rfl,rfl,by decide +kernel,rfl,by decide +kernel,by decide +kernel⟩
set_option maxHeartbeats 400000 in
theorem yz (T:Txt K mg t):qJ P w K mg base jX 1 t.vP t.yG ["self","row"] (iJ t):=by
 refine T.wx.fn.ok ua (fun vs H Q E h=>(by obtain⟨_,_,_,_,_,_,_,_,_,_,rfl,_⟩:=h;rfl)) (fun cdv A outer s H vs Q E hr h=>?_)
 obtain⟨self,y,n,rs,rows,fr,ls,B,ms,r,rfl,⟨dx,hd,bd,lb,hps,bqs,rfl,h⟩,hr',hB,k⟩:=h
 refine⟨_,(z9 (xS (ko PySem.F.plainAttrs_list PySem.F.slot_list_append PySem.F.type_list_append kN (qo (qf (K:=K) rfl) (ku (K:=K) rfl (pv 0) rfl) (XM QZ z8) (fun _ _=>rfl)) (z4 (pv 1) z7)))),?_⟩
 obtain⟨nd,se,hh,hb,hl,fa,lV⟩:=id h
 obtain⟨p,ps,q,qs,rfl,rfl,f1,⟨ys,e1,e2,e3⟩,f3⟩:=fa.inv
 refine⟨_,rfl,_,h.f2 T,?_⟩
 refine⟨_,rfl,bd,_,_,.ref q,rfl,rfl,q0.of hb,(by rw[List.map_cons,List.reverse_cons];exact Z0 _ _),?_⟩
 have hq:q∈self :: hd :: bd :: lb :: q :: qs:=by simp
 refine⟨.inl ⟨rfl,_,q0.of e1⟩,_,rfl,q,ys,_,rfl,rfl,e1,qx (by have:=e2.len;omega),?_⟩
 intro H' k' e'
 have fm:Fm (self :: hd :: bd :: lb :: q :: qs) H H':=fun b o hb e=>by rw[k' b (fun z=>hb (by rw[z];exact hq))];exact e
 have ne:∀b,b∈self :: hd :: bd :: lb :: qs→b≠q:=fun b hx z=>by
  subst z
  simp only[List.nodup_cons,List.mem_cons,not_or] at nd hx
  rcases hx with hx | hx | hx | hx | hx
  ·exact nd.1.2.2.2.1 hx.symm
  ·exact nd.2.1.2.2.1 hx.symm
  ·exact nd.2.2.1.2.1 hx.symm
  ·exact nd.2.2.2.1.1 hx.symm
  ·exact nd.2.2.2.2.1 hx
 have hm:∀b∈self :: hd :: bd :: lb :: q :: qs,b∈self :: hd :: bd :: lb :: q :: qs∨H b=none:=fun b hb=>.inl hb
 refine k H' fm ⟨dx,hd,bd,lb,p :: ps,q :: qs,rfl,nd,?_,?_,?_,?_,⟨?_,⟨ys ++ [y],e',jN.snoc (hr'.move fm hm) (e2.move fm hm),?_⟩,f3.move fm hm (Nat.le_succ _) fun c hc o e=>by rw[k' c (ne c (by simp [hc]))];exact e⟩,by omega⟩
 ·rw[k' self (ne self (by simp))];exact se
 ·rw[k' hd (ne hd (by simp))];exact hh
 ·rw[k' bd (ne bd (by simp))];exact hb
 ·rw[k' lb (ne lb (by simp))];exact hl
 ·obtain⟨dx',a,b,g1,g2,g3,g4⟩:=f1
  exact⟨dx',a,b,g1,g2,fm _ _ g1 g3,fm _ _ g2 g4⟩
 ·rw[List.length_append];simp only[List.length_cons,List.length_nil];omega
theorem VM {a b c d q:Addr} {qs:List Addr} (h:(a :: b :: c :: d :: q :: qs).Nodup):(a :: b :: c :: d :: qs).Nodup∧∀x∈a :: b :: c :: d :: qs,x≠q:=by
 have h':=h
 simp only[List.nodup_cons,List.mem_cons,not_or] at h ⊢
 refine⟨⟨⟨h.1.1,h.1.2.1,h.1.2.2.1,h.1.2.2.2.2⟩,⟨h.2.1.1,h.2.1.2.1,h.2.1.2.2.2⟩,⟨h.2.2.1.1,h.2.2.1.2.2⟩,h.2.2.2.1.2,h.2.2.2.2.2⟩,fun x hx z=>?_⟩
 subst z
 rcases hx with hx | hx | hx | hx | hx
 ·exact h.1.2.2.2.1 hx.symm
 ·exact h.2.1.2.2.1 hx.symm
 ·exact h.2.2.1.2.1 hx.symm
 ·exact h.2.2.2.1.1 hx.symm
 ·exact h.2.2.2.2.1 hx
theorem bh:qQ ["self","head"] ["self"] (z5 ja):=⟨rfl,rfl,rfl,by decide +kernel,rfl,by decide +kernel,by decide +kernel⟩
set_option maxHeartbeats 400000 in
theorem bV (T:Txt K mg t):qJ P w K mg base jX 3 t.vF t.yW ["self"] (cn t):=by
 have M_Part_init:qJ P w K mg base jX 1 t.xE t.kL ["self","name","rooms","rows"] (JQ K t):=(gr T).mono (by decide)
 refine T.yJ.fn.ok bh (fun vs H Q E h=>(by obtain⟨_,_,_,_,_,_,_,_,rfl,_⟩:=h;rfl)) (fun cdv A outer s H vs Q E hr h=>?_)
 obtain⟨self,n,rs,rows,fr,ls,B,ms,rfl,⟨dx,hd,bd,lb,hps,bqs,rfl,h⟩,hB,k⟩:=h
 refine⟨_,(z6 (qi (i:=1) bh.nd rfl (Or.inl rfl) (ZP PySem.F.plainAttrs_list PySem.F.slot_list_pop PySem.F.type_list_pop Qu (ku (K:=K) rfl (pv 0) rfl)))
   (z9 (qy (vL T.fJ M_Part_init hr rfl T.ur T.wH.bd .nil qX (z4 (ku (K:=K) rfl (pv 1) rfl) (z4 (ku (K:=K) rfl (pv 1) rfl) (z4 (ZP PySem.F.plainAttrs_list PySem.F.slot_list_pop PySem.F.type_list_pop Qu (ku (K:=K) rfl (pv 0) rfl)) z7))))))),?_⟩
 obtain⟨nd,se,hh,hb,hl,fa,lV⟩:=id h
 obtain⟨p,ps,q,qs,rfl,rfl,⟨dx',a,b,g1,g2,g3,g4⟩,⟨ys,e1,e2,e3⟩,f3⟩:=fa.inv
 have aA:=h.aA
 refine⟨_,rfl,_,h.f1 T,?_⟩
 refine⟨.inl ⟨rfl,_,q0.of hh⟩,hd,_,.ref p,rfl,rfl,hh,(by rw[List.map_cons,List.reverse_cons];simp),?_⟩
 intro H1 k1 e1'
 rw[List.map_cons,List.reverse_cons,List.dropLast_concat] at e1'
 obtain⟨nd2,nq⟩:=VM nd
 have nab:hd≠bd:=by simp only[List.nodup_cons,List.mem_cons,not_or] at nd;exact nd.2.1.1
 have nsh:self≠hd:=by simp only[List.nodup_cons,List.mem_cons,not_or] at nd;exact nd.1.1
 have nsb:self≠bd:=by simp only[List.nodup_cons,List.mem_cons,not_or] at nd;exact nd.1.2.1
 have nlh:lb≠hd:=by simp only[List.nodup_cons,List.mem_cons,not_or] at nd;exact fun z=>nd.2.1.2.1 z.symm
 have nlb:lb≠bd:=by simp only[List.nodup_cons,List.mem_cons,not_or] at nd;exact fun z=>nd.2.2.1.1 z.symm
 have ph:p≠hd:=fun z=>g1 (by rw[z];simp)
 have ah:a≠hd:=fun z=>g2 (by rw[z];simp)
 have p1:H1 p=some (.ins t.jH dx' (eI n a b)):=by rw[k1 p ph];exact g3
 have a1:H1 a=some (.lst (rs.map V.str)):=by rw[k1 a ah];exact g4
 have s1:H1 self=some (.ins t.qC dx (oa hd bd lb)):=by rw[k1 self nsh];exact se
 have b1':H1 bd=some (.lst ((q :: qs).map V.ref).reverse):=by rw[k1 bd (Ne.symm nab)];exact hb
 refine⟨_,rfl,_,⟨p,_,dx',_,rfl,p1,T.gQ,T.wJ,j5⟩,?_⟩
 refine⟨_,rfl,_,⟨p,_,dx',_,rfl,p1,T.gQ,T.yB,(kx (fun z=>m2 z.symm)).trans j5⟩,?_⟩
 refine⟨_,rfl,_,⟨self,_,dx,_,rfl,s1,T.jn,T.x5,(kx b1).trans j5⟩,?_⟩
 refine⟨.inl ⟨rfl,_,q0.of b1'⟩,bd,_,.ref q,rfl,rfl,b1',(by rw[List.map_cons,List.reverse_cons];simp),?_⟩
 intro H2 k2 e2'
 rw[List.map_cons,List.reverse_cons,List.dropLast_concat] at e2'
 intro x dxx hx hdx hne
 have keep2:∀c o,c≠hd→c≠bd→H c=some o→H2 c=some o:=fun c o h1 h2 e=>by rw[k2 c h2,k1 c h1];exact e
 have keepm:∀c o,H2 c=some o→(upd (upd H2 dxx (HO.own x)) x (HO.ins t.jH dxx [])) c=some o:=yt hx hdx
 have ab:a≠bd:=fun z=>g2 (by rw[z];simp)
 have qh:q≠hd:=Ne.symm (nq hd (by simp))
 have qb':q≠bd:=Ne.symm (nq bd (by simp))
 refine⟨x,dxx,a,q,n,rs,ys,rfl,qw,keepm _ _ (keep2 _ _ ah ab g4),keepm _ _ (keep2 _ _ qh qb' e1),fun H3 o3 h3=>⟨rfl,?_⟩⟩
 obtain⟨dx3,qa,qb,r1,r2,r3,z1,z2⟩:=h3
 have keep3:∀c o,H2 c=some o→H3 c=some o:=fun c o e=>o3 c o (qv e hx) (keepm c o e)
 have ke:∀c o,c≠hd→c≠bd→H c=some o→H3 c=some o:=fun c o h1 h2 e=>keep3 c o (keep2 c o h1 h2 e)
 have h2h:H2 hd=some (.lst (ps.map V.ref).reverse):=by rw[k2 hd nab];exact e1'
 have sub:∀c∈self :: hd :: bd :: lb :: qs,c∈self :: hd :: bd :: lb :: q :: qs:=fun c hc=>by
  simp only[List.mem_cons] at hc ⊢
  rcases hc with z | z | z | z | z<;>simp [z]
 have fm:Fm (self :: hd :: bd :: lb :: q :: qs) H H3:=fun c o hc e=>ke c o (fun z=>hc (by rw[z];simp)) (fun z=>hc (by rw[z];simp)) e
 have dom2:∀c∈self :: hd :: bd :: lb :: qs,∃o,H2 c=some o:=fun c hc=>by
  by_cases q1:c=hd
  ·subst q1;exact⟨_,h2h⟩
  ·by_cases q2:c=bd
   ·subst q2;exact⟨_,e2'⟩
   ·obtain⟨o,e⟩:=aA c (sub c hc)
    exact⟨o,keep2 c o q1 q2 e⟩
 have ni:∀y,(upd (upd H2 dxx (HO.own x)) x (HO.ins t.jH dxx [])) y=none→y∉self :: hd :: bd :: lb :: qs:=fun y e hy=>by
  obtain⟨o,e'⟩:=dom2 y hy
  rw[keepm y o e'] at e;cases e
 have hm:∀c∈self :: hd :: bd :: lb :: qs,c∈self :: hd :: bd :: lb :: q :: qs∨H c=none:=fun c hc=>.inl (sub c hc)
 have nqs:∀c∈qs,c≠hd∧c≠bd:=fun c hc=>by
  simp only[List.nodup_cons,List.mem_cons,not_or] at nd2
  exact⟨fun z=>nd2.2.1.2.2 (by rw[←z];exact hc),fun z=>nd2.2.2.1.2 (by rw[←z];exact hc)⟩
 refine k x H3 (self :: hd :: bd :: lb :: qs) fm sub ⟨dx,hd,bd,lb,ps,qs,rfl,nd2,ke _ _ nsh nsb se,keep3 _ _ h2h,keep3 _ _ e2',ke _ _ nlh nlb hl,f3.move fm hm (Nat.le_refl _) (fun c hc o e=>ke c o (nqs c hc).1 (nqs c hc).2 e),lV⟩ ?_
 unfold bq
 refine⟨x,dx3,qa,qb,ys,rfl,fun hxm=>?_,ni qa z1,ni qb z2,r1,r2,r3,e2.move fm hm⟩
 obtain⟨o,e'⟩:=dom2 x hxm
 rw[hx] at e';cases e'
end
noncomputable def ZF (t:xh):Sp:=fun vs H Q _=>∃(self:Addr) (fr:List Fr) (ls:List Str) (B:Nat) (ms:List Addr),vs=[.ref self]∧wj t H self fr ls B ms∧B < 1000∧fr≠[]∧(fr.length=1→Q (.bl false) H)∧
 ∀n rs rows n2 rs2 rows2 fr',fr=(n,rs,rows) :: (n2,rs2,rows2) :: fr'→∀H' ms',Fm ms H H'→(∀b∈ms',b∈ms)→wj t H' self ((n2,rs2,rows2 ++ [.pt n rs rows]) :: fr') ls (B + 1) ms'→Q (.bl true) H'
noncomputable def QL (t:xh):Sp:=fun vs H Q _=>∃(self p dx a b:Addr) (n:Str) (rs:List Str) (fr:List Fr) (ls:List Str) (B:Nat) (ms:List Addr),vs=[.ref self,.ref p]∧wj t H self fr ls B ms∧B < 1000∧fr.length≤7∧p∉ms∧a∉ms∧H p=some (.ins t.jH dx (eI n a b))∧H a=some (.lst (rs.map V.str))∧(fr.length=7∨n∈ls→Q (.bl false) H)∧
 (¬(fr.length=7∨n∈ls)→∀H' ms',Fm ms H H'→(∀b∈ms',b∈ms∨H b=none)→wj t H' self ((n,rs,[]) :: fr) (ls ++ [n]) (B + 1) ms'→Q (.bl true) H')
noncomputable def Zb (t:xh):Sp:=fun vs H Q _=>∃(self p:Addr) (k:Int) (l u a:Str) (n:Int) (r:Str) (pn:Str) (rs:List Str) (rows:List Rw) (fr:List Fr) (ls:List Str) (B:Nat) (ms:List Addr),vs=[.ref self,.ref p]∧wj t H self ((pn,rs,rows) :: fr) ls B ms∧B < 998∧p∉ms∧At t H p k l u a n r∧(l∈ls→Q (.bl false) H)∧
 (l∉ls→∀H',Fm ms H H'→wj t H' self ((pn,rs,rows ++ [.cl k l u a n r]) :: fr) (ls ++ [l]) (B + 2) ms→Q (.bl true) H')
theorem p3 {a b c:Addr} {m:Str} (h1:¬m = "heads") (h2:¬m = "bodies") (h3:¬m = "labels"):(oa a b c).lookup m=none:=(kx h1).trans ((kx h2).trans ((kx h3).trans rfl))
theorem lg {a b c:Addr}:(oa a b c).lookup ("many_open" : Str)=none:=p3 (by decide +kernel) (by decide +kernel) (by decide +kernel)
theorem oV {a b c:Addr}:(oa a b c).lookup ("put_in" : Str)=none:=p3 (by decide +kernel) (by decide +kernel) (by decide +kernel)
theorem rP {a b c:Addr}:(oa a b c).lookup ("closed" : Str)=none:=p3 (by decide +kernel) (by decide +kernel) (by decide +kernel)
theorem Wr {a b c:Addr}:(oa a b c).lookup ("takes_done" : Str)=none:=p3 (by decide +kernel) (by decide +kernel) (by decide +kernel)
theorem Wf {a b c:Addr}:(oa a b c).lookup ("takes_head" : Str)=none:=p3 (by decide +kernel) (by decide +kernel) (by decide +kernel)
theorem Wd {a b c:Addr}:(oa a b c).lookup ("takes_clause" : Str)=none:=p3 (by decide +kernel) (by decide +kernel) (by decide +kernel)
theorem V7 {a b c:Addr}:(oa a b c).lookup ("takes" : Str)=none:=p3 (by decide +kernel) (by decide +kernel) (by decide +kernel)
theorem oE {ls:List Str} {n:Str}:(gO (Q9 ls) (.inr n)).isSome=decide (n∈ls):=by
 rw[←fU]
 unfold Q9
 rw[List.any_map]
 rw[Bool.eq_iff_iff]
 simp
theorem i7 {ls:List Str} {n:Str} (h:n∉ls):putK (Q9 ls) (.inr n) (.bl true)=Q9 (ls ++ [n]):=by
 rw[Qx]
 ·unfold Q9;rw[List.map_append];rfl
 ·have:=@oE ls n
  rw[decide_eq_false h] at this
  cases q:gO (Q9 ls) (.inr n) with
  | none=>rfl
  | some v=>rw[q] at this;cases this
section
variable {P:Program} {w:World} {K:PySem.W.Frag} {mg:Str→Option Value} {base:Heap} {t:xh}
theorem ff:qQ ["self"] ["self"] (z5 qN):=⟨rfl,rfl,rfl,by decide +kernel,rfl,by decide +kernel,by decide +kernel⟩
set_option maxHeartbeats 400000 in
theorem pI (T:Txt K mg t):qJ P w K mg base jX 5 t.xI t.vJ ["self"] (ZF t):=by
 refine T.wt.fn.ok ff (fun vs H Q E h=>(by obtain⟨_,_,_,_,_,rfl,_⟩:=h;rfl)) (fun cdv A outer s H vs Q E hr h=>?_)
 obtain⟨self,fr,ls,B,ms,rfl,hb,hB,hne,k0,k1⟩:=h
 refine⟨_,(z6 (qG (qp jh (wM hr (pv 0)) z8 (qr _))
    (z9 (qy kI)) qm)
   (z6 (xS (yF hr (pv 0) (z4 (wM hr (pv 0)) z7)))
   (z9 (qy kI)))),?_⟩
 have M1:kB P w K mg base jX 4 t.qC "many_open" (lJ t):=.mk' T.xM (vx T) T.x4.bd (by decide)
 have M2:kB P w K mg base jX 4 t.qC "put_in" (iJ t):=.mk' T.va (yz T) T.wx.bd (by decide)
 have M3:kB P w K mg base jX 4 t.qC "closed" (cn t):=.mk' T.wI (bV T) T.yJ.bd (by decide)
 obtain⟨dx,hd,bd,lb,hps,bqs,e,h⟩:=id hb
 refine⟨_,rfl,self,_,dx,_,rfl,h.se,T.jn,lg,_,M1,?_⟩
 refine⟨self,fr,ls,B,ms,rfl,hb,?_⟩
 walk_at "rd"
 refine jy (fun h1=>?_) (fun h1=>?_)
 ·walk_at "rd"
  exact k0 (by
   have:((fr.length:Nat):Int) - 1=0:=by simpa using h1
   omega)
 match fr,hne with
 | [(n,rs,rows)],_=>exact absurd rfl h1
 | (n,rs,rows) :: (n2,rs2,rows2) :: fr',_=>
  walk_at "rd"
  refine⟨self,_,dx,_,rfl,h.se,T.jn,oV,_,M2,?_⟩
  refine⟨_,rfl,self,_,dx,_,rfl,h.se,T.jn,rP,_,M3,?_⟩
  refine⟨self,n,rs,rows,_,ls,B,ms,rfl,hb,by omega,fun p H1 ms1 fm1 sub1 hb1 hr1=>?_⟩
  refine⟨self,.ref p,n2,rs2,rows2,fr',ls,B,ms1,.pt n rs rows,rfl,hb1,hr1,hB,fun H2 fm2 hb2=>?_⟩
  exact k1 _ _ _ _ _ _ _ rfl H2 ms1 (fm1.trans fm2 (fun b hb=>.inl (sub1 b hb))) sub1 hb2
theorem fh:qQ ["self","head"] ["self","head"] (z5 qI):=⟨rfl,rfl,rfl,by decide +kernel,rfl,by decide +kernel,by decide +kernel⟩
set_option maxHeartbeats 400000 in
theorem fq (T:Txt K mg t):qJ P w K mg base jX 3 t.xC t.vo ["self","head"] (QL t):=by
 refine T.wc.fn.ok fh (fun vs H Q E h=>(by obtain⟨_,_,_,_,_,_,_,_,_,_,_,rfl,_⟩:=h;rfl)) (fun cdv A outer s H vs Q E hr h=>?_)
 obtain⟨self,p,dxp,a,b,n,rs,fr,ls,B,ms,rfl,hb,hB,h7,hp,ha,ep,ea,k0,k1⟩:=h
 refine⟨_,(z6 (qG (PW.pt (kR (qp jh (wM hr (pv 0)) (jv rfl (T.du).choose_spec (v:=.int 6) ⟨_,rfl⟩) (qr _)) (kP (Qa (Zq (iV hr) (ku (K:=K) rfl (pv 1) rfl) (ku (K:=K) rfl (pv 0) rfl))))))
    (z9 (qy kI)) qm)
   (z6 (ZT kI (Qq (ku (K:=K) rfl (pv 0) rfl) (ku (K:=K) rfl (pv 1) rfl) (rG (iV hr))))
   (z6 (xS (ko PySem.F.plainAttrs_list PySem.F.slot_list_append PySem.F.type_list_append kN (ku (K:=K) rfl (pv 0) rfl) (z4 (pv 1) z7)))
   (z6 (xS (ko PySem.F.plainAttrs_list PySem.F.slot_list_append PySem.F.type_list_append kN (ku (K:=K) rfl (pv 0) rfl) (z4 (jx z7) z7)))
   (z9 (qy kI)))))),?_⟩
 have M1:kB P w K mg base jX 2 t.qC "many_open" (lJ t):=.mk' T.xM (vx T) T.x4.bd (by decide)
 obtain⟨dx,hd,bd,lb,hps,bqs,e,h⟩:=id hb
 have fnm:Vf K H (.ref p) "name" (.str n):=⟨p,_,dxp,_,rfl,ep,T.gQ,T.wJ,j5⟩
 refine⟨_,rfl,self,_,dx,_,rfl,h.se,T.jn,lg,_,M1,?_⟩
 refine⟨self,fr,ls,B,ms,rfl,hb,?_⟩
 walk_at "rd"
 refine jy (fun h1=>?_) (fun h1=>?_)
 ·walk_at "rd"
  exact k0 (.inl (by
   have:((fr.length:Nat):Int) - 1=6:=by simpa using h1
   omega))
 have n7:¬fr.length=7:=fun z=>h1 (by rw[z];rfl)
 refine⟨_,rfl,_,fnm,_,rfl,_,h.f3 T,lb,_,rfl,cj.k (k:=.inr n) h.hl,?_⟩
 rw[oE]
 subst e
 obtain⟨nd,se,hh,hbb,hl,fa,lV⟩:=id h
 have ndx:=nd
 simp only[List.nodup_cons,List.mem_cons,not_or] at ndx
 obtain⟨⟨nsh,nsb,nsl,_⟩,⟨nhb,nhl,_⟩,⟨nbl,_⟩,_,_⟩:=ndx
 refine⟨_,rfl,?_⟩
 refine jy (fun h2=>?_) (fun h2=>?_)
 ·exact k0 (.inr (of_decide_eq_true h2))
 have hnl:n∉ls:=fun z=>h2 (decide_eq_true z)
 refine⟨_,rfl,_,h.f3 T,_,rfl,_,fnm,lb,_,.inr n,rfl,rfl,hl,qx (by unfold Q9;rw[List.length_map];omega),?_⟩
 intro H1 k1' e1
 rw[i7 hnl] at e1
 have s1:H1 self=some (.ins t.qC dx (oa hd bd lb)):=by rw[k1' self nsl];exact se
 have h1':H1 hd=some (.lst (hps.map V.ref).reverse):=by rw[k1' hd nhl];exact hh
 have b1':H1 bd=some (.lst (bqs.map V.ref).reverse):=by rw[k1' bd nbl];exact hbb
 have lh:=fa.len
 refine⟨_,rfl,_,⟨self,_,dx,_,rfl,s1,T.jn,T.vB,j5⟩,.inl ⟨rfl,_,q0.of h1'⟩,_,rfl,hd,_,_,rfl,rfl,h1',qx (by rw[List.length_reverse,List.length_map];omega),?_⟩
 intro H2 k2 e2
 have s2:H2 self=some (.ins t.qC dx (oa hd bd lb)):=by rw[k2 self nsh];exact s1
 have b2':H2 bd=some (.lst (bqs.map V.ref).reverse):=by rw[k2 bd (Ne.symm nhb)];exact b1'
 have l2':H2 lb=some (.dK (Q9 (ls ++ [n]))):=by rw[k2 lb (Ne.symm nhl)];exact e1
 refine⟨_,rfl,_,⟨self,_,dx,_,rfl,s2,T.jn,T.x5,(kx b1).trans j5⟩,.inl ⟨rfl,_,q0.of b2'⟩,Nat.zero_le _,?_⟩
 intro q H3 s3 hq e3
 refine⟨bd,_,_,rfl,rfl,s3 _ _ b2',qx (by rw[List.length_reverse,List.length_map];omega),?_⟩
 intro H4 k4 e4
 have ke:∀c o,c≠hd→c≠bd→c≠lb→H c=some o→H4 c=some o:=fun c o z1 z2 z3 e=>by
  rw[k4 c z2];refine s3 _ _ ?_;rw[k2 c z1,k1' c z3];exact e
 have aA:=h.aA
 have dom2:∀c∈self :: hd :: bd :: lb :: bqs,∃o,H2 c=some o:=fun c hc=>by
  by_cases q1:c=hd
  ·subst q1;exact⟨_,e2⟩
  ·rw[k2 c q1]
   by_cases q3:c=lb
   ·subst q3;exact⟨_,e1⟩
   ·rw[k1' c q3];exact aA c hc
 have qn:q∉self :: hd :: bd :: lb :: bqs:=fun z=>by
  obtain⟨o,e⟩:=dom2 q z
  rw[hq] at e;cases e
 have Hq:H q=none:=by
  cases z:H q with
  | none=>rfl
  | some o=>
   have q1:q≠hd:=fun y=>qn (by rw[y];simp)
   have q3:q≠lb:=fun y=>qn (by rw[y];simp)
   rw[k2 q q1,k1' q q3,z] at hq;cases hq
 have fm:Fm (self :: hd :: bd :: lb :: bqs) H H4:=fun c o hc e=>ke c o (fun z=>hc (by rw[z];simp)) (fun z=>hc (by rw[z];simp)) (fun z=>hc (by rw[z];simp)) e
 have hm:∀c∈self :: hd :: bd :: lb :: q :: bqs,c∈self :: hd :: bd :: lb :: bqs∨H c=none:=fun c hc=>by
  simp only[List.mem_cons] at hc
  rcases hc with z | z | z | z | z | z
  ·exact .inl (by simp [z])
  ·exact .inl (by simp [z])
  ·exact .inl (by simp [z])
  ·exact .inl (by simp [z])
  ·exact .inr (by rw[z];exact Hq)
  ·exact .inl (by simp [z])
 have qb:q≠bd:=fun y=>qn (by rw[y];simp)
 have q4:H4 q=some (.lst []):=by rw[k4 q qb];exact e3
 have nqs:∀c∈bqs,c≠hd∧c≠bd∧c≠lb:=fun c hc=>by
  simp only[List.nodup_cons,List.mem_cons,not_or] at nd
  exact⟨fun z=>nd.2.1.2.2 (by rw[←z];exact hc),fun z=>nd.2.2.1.2 (by rw[←z];exact hc),fun z=>nd.2.2.2.1 (by rw[←z];exact hc)⟩
 refine k1 (fun z=>z.elim n7 hnl) H4 (self :: hd :: bd :: lb :: q :: bqs) fm hm ⟨dx,hd,bd,lb,p :: hps,q :: bqs,rfl,?_,ke _ _ nsh nsb nsl se,?_,?_,?_,⟨⟨dxp,a,b,mZ hm hp ep,mZ hm ha ea,fm _ _ hp ep,fm _ _ ha ea⟩,⟨[],q4,by unfold jN;rfl,Nat.zero_le _⟩,fa.move fm hm (Nat.le_succ _) (fun c hc o e=>ke c o (nqs c hc).1 (nqs c hc).2.1 (nqs c hc).2.2 e)⟩,by rw[List.length_append];simp only[List.length_cons,List.length_nil];omega⟩
 ·have nd':=nd
  simp only[List.nodup_cons,List.mem_cons,not_or] at nd' qn ⊢
  exact⟨⟨nd'.1.1,nd'.1.2.1,nd'.1.2.2.1,Ne.symm qn.1,nd'.1.2.2.2⟩,⟨nd'.2.1.1,nd'.2.1.2.1,Ne.symm qn.2.1,nd'.2.1.2.2⟩,⟨nd'.2.2.1.1,Ne.symm qn.2.2.1,nd'.2.2.1.2⟩,⟨Ne.symm qn.2.2.2.1,nd'.2.2.2.1⟩,qn.2.2.2.2,nd'.2.2.2.2⟩
 ·rw[k4 hd nhb,List.map_cons,List.reverse_cons];exact s3 _ _ e2
 ·rw[List.map_cons,List.reverse_cons];exact e4
 ·rw[k4 lb (Ne.symm nbl)];exact s3 _ _ l2'
end
theorem wj.same {t:xh} {H H':Hp} {me:Addr} {fr:List Fr} {ls:List Str} {B:Nat} {ms:List Addr} (h:wj t H me fr ls B ms) (s:qg H H'):wj t H' me fr ls B ms:=by
 obtain⟨dx,hd,bd,lb,hps,bqs,e,h⟩:=h
 subst e
 exact⟨dx,hd,bd,lb,hps,bqs,rfl,h.nd,s _ _ h.se,s _ _ h.hh,s _ _ h.hb,s _ _ h.hl,h.fa.move (Fm.of s) (fun b hb=>.inl hb) (Nat.le_refl _) (fun c _ o e=>s _ _ e),h.lV⟩
theorem wj.up {t:xh} {H:Hp} {me:Addr} {fr:List Fr} {ls:List Str} {B B':Nat} {ms:List Addr} (h:wj t H me fr ls B ms) (hB:B≤B'):wj t H me fr ls B' ms:=by
 obtain⟨dx,hd,bd,lb,hps,bqs,e,h⟩:=h
 subst e
 exact⟨dx,hd,bd,lb,hps,bqs,rfl,h.nd,h.se,h.hh,h.hb,h.hl,h.fa.move (Fm.of (qg.refl _)) (fun b hb=>.inl hb) hB (fun c _ o e=>e),Nat.le_trans h.lV hB⟩
theorem wj.aA {t:xh} {H:Hp} {me:Addr} {fr:List Fr} {ls:List Str} {B:Nat} {ms:List Addr} (h:wj t H me fr ls B ms):∀b∈ms,∃o,H b=some o:=by
 obtain⟨dx,hd,bd,lb,hps,bqs,e,h⟩:=h
 subst e
 exact h.aA
theorem wj.out {t:xh} {H:Hp} {me:Addr} {fr:List Fr} {ls:List Str} {B:Nat} {ms:List Addr} {p:Addr} (h:wj t H me fr ls B ms) (hp:H p=none):p∉ms:=fun z=>by
 obtain⟨o,e⟩:=h.aA p z
 rw[hp] at e;cases e
noncomputable def push:List Fr→Rw→List Fr
 | (n,rs,rows) :: fr,r=>(n,rs,rows ++ [r]) :: fr
 | [],_=>[]
noncomputable def gL (fr:List Fr) (ls:List Str) (x:Str):Option (List Fr × List Str):=
 if x = "done" then (match fr with
  | (n,rs,rows) :: (n2,rs2,rows2) :: fr'=>some ((n2,rs2,rows2 ++ [.pt n rs rows]) :: fr',ls)
  | _=>none)
 else match vQ (vX x) with
  | some (n,rs)=>if fr.length=7∨n∈ls then none else some ((n,rs,[]) :: fr,ls ++ [n])
  | none=>match jZ (vX x) with
   | some (k,l,u,a,n,r)=>if l∈ls then none else some (push fr (.cl k l u a n r),ls ++ [l])
   | none=>match aU (vX x) with
    | none=>none
    | some (n,v)=>some (push fr (.lt n v),ls)
noncomputable def iD (t:xh):Sp:=fun vs H Q _=>∃(self:Addr) (x:Str) (fr:List Fr) (ls:List Str) (B:Nat) (ms:List Addr),vs=[.ref self,.str x]∧wj t H self fr ls B ms∧B < 998∧x.length≤190∧fr≠[]∧fr.length≤7∧(gL fr ls x=none→∀H',Fm ms H H'→Q (.bl false) H')∧
 ∀fr' ls' H' ms',gL fr ls x=some (fr',ls')→Fm ms H H'→(∀b∈ms',b∈ms∨H b=none)→wj t H' self fr' ls' (B + 2) ms'→Q (.bl true) H'
section
variable {P:Program} {w:World} {K:PySem.W.Frag} {mg:Str→Option Value} {base:Heap} {t:xh}
theorem bc:qQ ["self","clause"] ["self","clause"] (z5 qF):=⟨rfl,rfl,rfl,by decide +kernel,rfl,by decide +kernel,by decide +kernel⟩
set_option maxHeartbeats 400000 in
theorem bM (T:Txt K mg t):qJ P w K mg base jX 3 t.xf t.kd ["self","clause"] (Zb t):=by
 refine T.vt.fn.ok bc (fun vs H Q E h=>(by obtain⟨_,_,_,_,_,_,_,_,_,_,_,_,_,_,_,rfl,_⟩:=h;rfl)) (fun cdv A outer s H vs Q E hr h=>?_)
 obtain⟨self,p,k,l,u,a,n,r,pn,rs,rows,fr,ls,B,ms,rfl,hb,hB,hp,hA,k0,k1⟩:=h
 refine⟨_,(z6 (qG (Qa (Zq (iV hr) (ku (K:=K) rfl (pv 1) rfl) (ku (K:=K) rfl (pv 0) rfl)))
    (z9 (qy kI)) qm)
   (z6 (ZT kI (Qq (ku (K:=K) rfl (pv 0) rfl) (ku (K:=K) rfl (pv 1) rfl) (rG (iV hr))))
   (z6 (xS (yF hr (pv 0) (z4 (pv 1) z7)))
   (z9 (qy kI))))),?_⟩
 have M2:kB P w K mg base jX 2 t.qC "put_in" (iJ t):=.mk' T.va (yz T) T.wx.bd (by decide)
 obtain⟨dx,hd,bd,lb,hps,bqs,e,h⟩:=id hb
 subst e
 have fl:=hA.fl T
 refine⟨_,rfl,_,fl,_,rfl,_,h.f3 T,lb,_,rfl,cj.k (k:=.inr l) h.hl,?_⟩
 rw[oE]
 refine⟨_,rfl,?_⟩
 refine jy (fun h2=>?_) (fun h2=>?_)
 ·exact k0 (of_decide_eq_true h2)
 have hnl:l∉ls:=fun z=>h2 (decide_eq_true z)
 obtain⟨nd,se,hh,hbb,hl,fa,lV⟩:=id h
 have ndx:=nd
 simp only[List.nodup_cons,List.mem_cons,not_or] at ndx
 obtain⟨⟨nsh,nsb,nsl,_⟩,⟨nhb,nhl,_⟩,⟨nbl,_⟩,nlq,_⟩:=ndx
 refine⟨_,rfl,_,h.f3 T,_,rfl,_,fl,lb,_,.inr l,rfl,rfl,hl,qx (by unfold Q9;rw[List.length_map];omega),?_⟩
 intro H1 k1' e1
 rw[i7 hnl] at e1
 have fm:Fm (self :: hd :: bd :: lb :: bqs) H H1:=fun c o hc e=>by rw[k1' c (fun z=>hc (by rw[z];simp))];exact e
 have hm:∀c∈self :: hd :: bd :: lb :: bqs,c∈self :: hd :: bd :: lb :: bqs∨H c=none:=fun c hc=>.inl hc
 have s1:H1 self=some (.ins t.qC dx (oa hd bd lb)):=by rw[k1' self nsl];exact se
 have hb1:wj t H1 self ((pn,rs,rows) :: fr) (ls ++ [l]) (B + 1) (self :: hd :: bd :: lb :: bqs):=⟨dx,hd,bd,lb,hps,bqs,rfl,nd,s1,by rw[k1' hd nhl];exact hh,by rw[k1' bd nbl];exact hbb,e1,fa.move fm hm (Nat.le_succ _) (fun c hc o e=>by rw[k1' c (fun z=>nlq (by rw[←z];exact hc))];exact e),by rw[List.length_append];simp only[List.length_cons,List.length_nil];omega⟩
 refine⟨_,rfl,self,_,dx,_,rfl,s1,T.jn,oV,_,M2,?_⟩
 obtain⟨dxc,ec⟩:=hA
 have hr1:bq t (self :: hd :: bd :: lb :: bqs) H1 (.cl k l u a n r) (.ref p):=by unfold bq;exact⟨p,rfl,hp,dxc,fm _ _ hp ec⟩
 refine⟨_,rfl,self,.ref p,pn,rs,rows,fr,_,_,_,_,rfl,hb1,hr1,by omega,fun H2 fm2 hb2=>?_⟩
 exact k1 hnl H2 (fm.trans fm2 hm) hb2
theorem vS:qQ ["self","row","head","clause","let"] ["self","row"] (z5 jD):=⟨rfl,rfl,rfl,by decide +kernel,rfl,by decide +kernel,by decide +kernel⟩
set_option maxHeartbeats 400000 in
theorem uC (T:Txt K mg t):qJ P w K mg base jX 7 t.wZ t.gg ["self","row"] (iD t):=by
 have G_v_clause_of:qJ P w K mg base jX 6 t.vM t.vR ["row"] (nR t):=(cX T).mono (by decide)
 have G_v_let_of:qJ P w K mg base jX 6 t.gc t.gd ["row"] (XY t):=(tj T).mono (by decide)
 have G_v_part_of:qJ P w K mg base jX 6 t.yZ t.yl ["row"] (Zp t):=(lF T).mono (by decide)
 refine T.p8.fn.ok vS (fun vs H Q E h=>(by obtain⟨_,_,_,_,_,_,rfl,_⟩:=h;rfl)) (fun cdv A outer s H vs Q E hr h=>?_)
 obtain⟨self,x,fr,ls,B,ms,rfl,hb,hB,hx,hne,h7,k0,k1⟩:=h
 refine⟨_,(z6 (qG (qp jh (pv 1) qj (qr _))
    (z9 (qy (wM hr (pv 0)))) qm)
   (z6 (qi (i:=2) vS.nd rfl (Or.inl rfl) (qu G_v_part_of hr rfl T.y9.mg T.y9.fn.kp T.y9.bd .nil qX (z4 (pv 1) z7)))
   (z6 (qG (qp dA (pv 2) vi (qr _))
    (z9 (qy (yF hr (pv 0) (z4 (pv 2) z7)))) qm)
   (z6 (qi (i:=3) vS.nd rfl (Or.inl rfl) (qu G_v_clause_of hr rfl T.vN.mg T.vN.fn.kp T.vN.bd .nil qX (z4 (pv 1) z7)))
   (z6 (qG (qp dA (pv 3) vi (qr _))
    (z9 (qy (yF hr (pv 0) (z4 (pv 3) z7)))) qm)
   (z6 (qi (i:=4) vS.nd rfl (Or.inl rfl) (qu G_v_let_of hr rfl T.bQ.mg T.bQ.fn.kp T.bQ.bd .nil qX (z4 (pv 1) z7)))
   (z6 (qG (qp nN (pv 4) vi (qr _))
    (z9 (qy kI)) qm)
   (z6 (xS (yF hr (pv 0) (z4 (pv 4) z7)))
   (z9 (qy kI)))))))))),?_⟩
 have M1:kB P w K mg base jX 6 t.qC "takes_done" (ZF t):=.mk' T.wL (pI T) T.wt.bd (by decide)
 have M2:kB P w K mg base jX 6 t.qC "takes_head" (QL t):=.mk' T.yq (fq T) T.wc.bd (by decide)
 have M3:kB P w K mg base jX 6 t.qC "takes_clause" (Zb t):=.mk' T.wg (bM T) T.vt.bd (by decide)
 have M4:kB P w K mg base jX 6 t.qC "put_in" (iJ t):=.mk' T.va (yz T) T.wx.bd (by decide)
 obtain⟨dx,hd,bd,lb,hps,bqs,e,h⟩:=id hb
 obtain⟨pn,prs,prow,fr0,rfl⟩:∃pn prs prow fr0,fr=(pn,prs,prow) :: fr0:=by
  match fr,hne with
  | (a,b,c) :: r,_=>exact⟨a,b,c,r,rfl⟩
 have se:=h.se
 have hmm:∀c∈ms,c∈ms∨H c=none:=fun c hc=>.inl hc
 walk_at "rd"
 refine jy (fun h1=>?_) (fun h1=>?_)
 ·have hxd:x = "done":=dM h1
  refine⟨_,rfl,self,_,dx,_,rfl,se,T.jn,Wr,_,M1,?_⟩
  refine⟨self,_,ls,B,ms,rfl,hb,by omega,hne,fun hl1=>?_,fun n rs rows n2 rs2 rows2 fr' ef H' ms' fm sub hb'=>?_⟩
  ·refine k0 ?_ H (fun _ _ _ e=>e)
   unfold gL
   rw[if_pos hxd]
   have hf0:fr0=[]:=List.length_eq_zero_iff.mp (by simpa using hl1)
   rw[hf0]
  ·refine k1 _ _ H' ms' ?_ fm (fun b hb=>.inl (sub b hb)) (hb'.up (by omega))
   unfold gL
   rw[if_pos hxd,ef]
 have hxd:¬x = "done":=dB h1
 have eT:gL ((pn,prs,prow) :: fr0) ls x=(match vQ (vX x) with
  | some (n,rs)=>if ((pn,prs,prow) :: fr0).length=7∨n∈ls then none else some ((n,rs,[]) :: (pn,prs,prow) :: fr0,ls ++ [n])
  | none=>match jZ (vX x) with
   | some (k,l,u,a,n,r)=>if l∈ls then none else some (push ((pn,prs,prow) :: fr0) (.cl k l u a n r),ls ++ [l])
   | none=>match aU (vX x) with
    | none=>none
    | some (n,v)=>some (push ((pn,prs,prow) :: fr0) (.lt n v),ls)):=by unfold gL;rw[if_neg hxd]
 walk_at "rd"
 refine fun H1 s1=>⟨fun h0=>?_,fun p n rs h0 hp hP=>?_⟩
 ·rw[h0] at eT
  walk_at "rd"
  refine fun H2 s2=>⟨fun h0c=>?_,fun p k l u a n r h0c hp hA=>?_⟩
  ·rw[h0c] at eT
   walk_at "rd"
   refine fun H3 s3=>⟨fun h0l=>?_,fun p n v h0l hp hL=>?_⟩
   ·rw[h0l] at eT
    walk_at "rd"
    exact k0 eT H3 (Fm.of ((s1.trans s2).trans s3))
   ·rw[h0l] at eT
    have sA:qg H H3:=(s1.trans s2).trans s3
    have hout:p∉ms:=(hb.same (s1.trans s2)).out hp
    walk_at "rd"
    refine⟨self,_,dx,_,rfl,sA _ _ se,T.jn,oV,_,M4,?_⟩
    refine⟨_,rfl,self,.ref p,pn,prs,prow,fr0,ls,B,ms,.lt n v,rfl,hb.same sA,(by unfold bq;exact⟨p,rfl,hout,hL⟩),by omega,fun H4 fm4 hb4=>?_⟩
    exact k1 _ _ H4 ms eT ((Fm.of sA).trans fm4 hmm) hmm (hb4.up (by omega))
  ·rw[h0c] at eT
   have sA:qg H H2:=s1.trans s2
   have hout:p∉ms:=(hb.same s1).out hp
   walk_at "rd"
   refine⟨self,_,dx,_,rfl,sA _ _ se,T.jn,Wd,_,M3,?_⟩
   refine⟨_,rfl,self,p,k,l,u,a,n,r,pn,prs,prow,fr0,ls,B,ms,rfl,hb.same sA,hB,hout,hA,fun hl=>?_,fun hl H' fm hb'=>?_⟩
   ·exact k0 (by rw[eT];exact if_pos hl) H2 (Fm.of sA)
   ·exact k1 _ _ H' ms (by rw[eT];exact if_neg hl) ((Fm.of sA).trans fm hmm) hmm hb'
 ·rw[h0] at eT
  obtain⟨dxp,a,b,q1,q2,q3,z1,z2⟩:=hP
  walk_at "rd"
  refine⟨self,_,dx,_,rfl,s1 _ _ se,T.jn,Wf,_,M2,?_⟩
  refine⟨_,rfl,self,p,dxp,a,b,n,rs,_,ls,B,ms,rfl,hb.same s1,by omega,h7,hb.out hp,hb.out z1,q1,q2,fun hl=>?_,fun hl H' ms' fm hm' hb'=>?_⟩
  ·exact k0 (by rw[eT];exact if_pos hl) H1 (Fm.of s1)
  ·exact k1 _ _ H' ms' (by rw[eT];exact if_neg hl) ((Fm.of s1).trans fm hmm) (fun c hc=>(hm' c hc).elim .inl (fun z=>.inr (s1.free z))) (hb'.up (by omega))
end
noncomputable def V6 (t:xh):Sp:=fun vs H Q _=>∃(self dx:Addr),vs=[.ref self]∧H self=some (.ins t.qC dx [])∧∀H' ms,(∀b o,b≠self→H b=some o→H' b=some o)→(∀b∈ms,b=self∨H b=none)→wj t H' self [("whole",[],[])] [] 0 ms→Q .non H'
noncomputable def gx:Nat→List Str→List Fr→List Str→Except Nat (List Fr)
 | _,[],fr,_=>.ok fr
 | i,x :: r,fr,ls=>if i=90 then .error i else match gL fr ls x with
  | none=>.error i
  | some (fr',ls')=>gx (i + 1) r fr' ls'
noncomputable def KN (n:Nat):Except Nat (List Fr)→Except Nat Rw
 | .error i=>.error i
 | .ok [(a,b,c)]=>.ok (.pt a b c)
 | .ok _=>.error n
noncomputable def pE (rows:List Str) (start:Nat):Except Nat Rw:=KN rows.length (gx start (rows.drop start) [("whole",[],[])] [])
theorem aR {fr fr':List Fr} {ls ls':List Str} {x:Str} (h:gL fr ls x=some (fr',ls')) (h0:fr≠[]) (h7:fr.length≤7):fr'≠[]∧fr'.length≤7:=by
 obtain⟨pn,prs,prow,fr0,rfl⟩:∃pn prs prow fr0,fr=(pn,prs,prow) :: fr0:=by
  match fr,h0 with
  | (a,b,c) :: r,_=>exact⟨a,b,c,r,rfl⟩
 have hp:∀r,(push ((pn,prs,prow) :: fr0) r)≠[]∧(push ((pn,prs,prow) :: fr0) r).length≤7:=fun r=>⟨by simp [push],by simpa [push] using h7⟩
 unfold gL at h
 split at h
 ·match fr0,h with
  | (a,b,c) :: r,h=>
   cases h
   refine⟨by simp,?_⟩
   simp only[List.length_cons] at h7 ⊢
   omega
 ·split at h
  ·split at h
   ·cases h
   ·rename_i hn
    cases h
    refine⟨by simp,?_⟩
    have:¬((pn,prs,prow) :: fr0).length=7:=fun z=>hn (.inl z)
    simp only[List.length_cons] at h7 this ⊢
    omega
  ·split at h
   ·split at h
    ·cases h
    ·cases h;exact hp _
   ·split at h
    ·cases h
    ·cases h;exact hp _
noncomputable def V9 (K:PySem.W.Frag) (t:xh):Sp:=fun vs H Q E=>∃(a:Addr) (start:Nat) (rows:List Str),vs=[.ref a,.int start]∧q0 K H a (rows.map V.str)∧start≤rows.length∧bj rows∧
 (∀n:Nat,pE rows start=.error n→∀c o H',Z5 t n H c o H'→E c o H')∧∀rw p H',pE rows start=.ok rw→qg H H'→bq t [] H' rw (.ref p)→Q (.ref p) H'
theorem VP (a b c:Addr):qY "labels" (.ref c) (qY "bodies" (.ref b) (qY "heads" (.ref a) []))=oa a b c:=by
 simp only[qY,oa,if_neg (fun z=>b1 (Eq.symm z)),if_neg (fun z=>b2 (Eq.symm z)),if_neg (fun z=>b3 (Eq.symm z))]
theorem gY {H:Hp} {p:Addr} {o:HO}:Off p H (upd H p o):=fun c o' hc e=>by rw[qW hc];exact e
section
variable {P:Program} {w:World} {K:PySem.W.Frag} {mg:Str→Option Value} {base:Heap} {t:xh}
theorem sf:qQ ["self"] ["self"] (z5 xg):=⟨rfl,rfl,rfl,by decide +kernel,rfl,by decide +kernel,by decide +kernel⟩
set_option maxHeartbeats 400000 in
theorem lA (T:Txt K mg t):qJ P w K mg base jX 3 t.wb t.yu ["self"] (V6 t):=by
 have M_Part_init:qJ P w K mg base jX 1 t.xE t.kL ["self","name","rooms","rows"] (JQ K t):=(gr T).mono (by decide)
 refine T.mM.fn.ok sf (fun vs H Q E h=>(by obtain⟨_,_,rfl,_⟩:=h;rfl)) (fun cdv A outer s H vs Q E hr h=>?_)
 obtain⟨self,dx,rfl,se,k⟩:=h
 refine⟨_,(z6 (xX (pv 0) (jx (z4 (vL T.fJ M_Part_init hr rfl T.ur T.wH.bd .nil qX (z4 qj (z4 (jx z7) (z4 (jx z7) z7)))) z7)) rfl)
   (z6 (xX (pv 0) (jx (z4 (jx z7) z7)) rfl)
   (z9 (xX (pv 0) JP rfl)))),?_⟩
 refine⟨Nat.zero_le _,?_⟩
 intro a1 H1 s1 ha1 ea1
 refine⟨Nat.zero_le _,?_⟩
 intro a2 H2 s2 ha2 ea2
 intro p dxp hp hdxp hne
 have mk:∀c o,H2 c=some o→(upd (upd H2 dxp (HO.own p)) p (HO.ins t.jH dxp [])) c=some o:=yt hp hdxp
 refine⟨p,dxp,a1,a2,"whole",[],[],rfl,qw,mk _ _ (s2 _ _ ea1),mk _ _ ea2,fun H3 o3 h3=>⟨rfl,?_⟩⟩
 obtain⟨dx3,qa,qb,r1,r2,r3,z1,z2⟩:=h3
 have k3:qg H H3:=fun c o e=>o3 c o (qv (s2 _ _ (s1 _ _ e)) hp) (mk c o (s2 _ _ (s1 _ _ e)))
 refine⟨qx (by show 1≤1000;decide),?_⟩
 intro hd H4 s4 hhd ehd
 have se4:=s4 _ _ (k3 _ _ se)
 refine⟨_,rfl,self,_,dx,[],rfl,se4,T.jn,T.vB,(by show 0 < 1000;decide),?_⟩
 have o5:Off self H4 (upd H4 self (.ins t.qC dx (qY "heads" (.ref hd) []))):=gY
 generalize hH5:upd H4 self (.ins t.qC dx (qY "heads" (.ref hd) []))=H5 at o5 ⊢
 have e5:H5 self=some (.ins t.qC dx (qY "heads" (.ref hd) [])):=by rw[←hH5];exact qw
 refine⟨Nat.zero_le _,?_⟩
 intro q H6 s6 hq eq
 refine⟨qx (by show 1≤1000;decide),?_⟩
 intro bd H7 s7 hbd ebd
 refine⟨_,rfl,self,_,dx,_,rfl,s7 _ _ (s6 _ _ e5),T.jn,T.x5,(by show 1 < 1000;decide),?_⟩
 have o8:Off self H7 (upd H7 self (.ins t.qC dx (qY "bodies" (.ref bd) (qY "heads" (.ref hd) [])))):=gY
 generalize hH8:upd H7 self (.ins t.qC dx (qY "bodies" (.ref bd) (qY "heads" (.ref hd) [])))=H8 at o8 ⊢
 have e8:H8 self=some (.ins t.qC dx (qY "bodies" (.ref bd) (qY "heads" (.ref hd) []))):=by rw[←hH8];exact qw
 intro lb H9 s9 hlb elb
 refine⟨_,rfl,self,_,dx,_,rfl,s9 _ _ e8,T.jn,T.yv,?_,?_⟩
 ·have:=xt ("bodies" : Str) (.ref bd) (qY "heads" (.ref hd) [])
  have e:(qY ("heads" : Str) (.ref hd) []).length=1:=rfl
  omega
 have o10:Off self H9 (upd H9 self (.ins t.qC dx (qY "labels" (.ref lb) (qY "bodies" (.ref bd) (qY "heads" (.ref hd) []))))):=gY
 rw[VP] at o10 ⊢
 have hds:hd≠self:=Ne.symm (qv (k3 _ _ se) hhd)
 have qs:q≠self:=Ne.symm (qv e5 hq)
 have bs:bd≠self:=Ne.symm (qv (s6 _ _ e5) hbd)
 have lbs':lb≠self:=Ne.symm (qv e8 hlb)
 have ps:p≠self:=Ne.symm (qv (s2 _ _ (s1 _ _ se)) hp)
 have qas:qa≠self:=Ne.symm (qv (mk _ _ (s2 _ _ (s1 _ _ se))) z1)
 have up:∀c o,c≠self→H3 c=some o→H9 c=some o:=fun c o hc e=>s9 _ _ (o8 _ _ hc (s7 _ _ (s6 _ _ (o5 _ _ hc (s4 _ _ e)))))
 have h5d:H5 hd=some (.lst [.ref p]):=o5 _ _ hds ehd
 have h6d:=s6 _ _ h5d
 have h8d:H8 hd=some (.lst [.ref p]):=o8 _ _ hds (s7 _ _ h6d)
 have h8q:H8 q=some (.lst []):=o8 _ _ qs (s7 _ _ eq)
 have h8b:H8 bd=some (.lst [.ref q]):=o8 _ _ bs ebd
 have hqd:hd≠q:=qv h5d hq
 have hdb:hd≠bd:=qv h6d hbd
 have hdl:hd≠lb:=qv h8d hlb
 have bql:bd≠q:=Ne.symm (qv eq hbd)
 have bl:bd≠lb:=qv h8b hlb
 have lq:lb≠q:=Ne.symm (qv h8q hlb)
 have h5p:H5 p=some (.ins t.jH dx3 (eI "whole" qa qb)):=o5 _ _ ps (s4 _ _ r1)
 have h5a:H5 qa=some (.lst (([]:List Str).map V.str)):=o5 _ _ qas (s4 _ _ r2)
 have nin:∀c o,c≠self→H3 c=some o→c∉[self,hd,bd,lb,q]:=fun c o hc e hm=>by
  have e5':H5 c=some o:=o5 _ _ hc (s4 _ _ e)
  (simp only[List.mem_cons,List.not_mem_nil,or_false] at hm)
  rcases hm with z | z | z | z | z
  ·exact hc z
  ·rw[z,hhd] at e;cases e
  ·have:=s6 _ _ e5';rw[z,hbd] at this;cases this
  ·have:=o8 _ _ hc (s7 _ _ (s6 _ _ e5'));rw[z,hlb] at this;cases this
  ·rw[z,hq] at e5';cases e5'
 have free:∀c,c∈[self,hd,bd,lb,q]→c=self∨H c=none:=fun c hm=>by
  (simp only[List.mem_cons,List.not_mem_nil,or_false] at hm)
  by_cases hc:c=self
  ·exact .inl hc
  ·refine .inr ?_
   cases z:H c with
   | none=>rfl
   | some o=>
    have:=nin c o hc (k3 _ _ z)
    exact absurd (by simpa using hm) this
 refine k _ [self,hd,bd,lb,q] (fun c o hc e=>o10 _ _ hc (up c o hc (k3 _ _ e))) free ⟨dx,hd,bd,lb,[p],[q],rfl,?_,qw,o10 _ _ hds (s9 _ _ h8d),o10 _ _ bs (s9 _ _ h8b),o10 _ _ lbs' elb,⟨⟨dx3,qa,qb,nin p _ ps r1,nin qa _ qas r2,o10 _ _ ps (up _ _ ps r1),o10 _ _ qas (up _ _ qas r2)⟩,⟨[],o10 _ _ qs (s9 _ _ h8q),by unfold jN;rfl,Nat.le_refl _⟩,True.intro⟩,Nat.le_refl _⟩
 simp only[List.nodup_cons,List.mem_cons,List.not_mem_nil,not_or,or_false,List.nodup_nil,not_false_eq_true,and_true]
 exact⟨⟨Ne.symm hds,Ne.symm bs,Ne.symm lbs',Ne.symm qs⟩,⟨hdb,hdl,hqd⟩,⟨bl,bql⟩,lq⟩
theorem we:qQ ["rows","start","body","number"] ["rows","start"] (z5 jc):=⟨rfl,rfl,rfl,by decide +kernel,rfl,by decide +kernel,by decide +kernel⟩
set_option maxHeartbeats 400000 in
theorem dJ (T:Txt K mg t):qJ P w K mg base (si P w) 8 t.vb t.vc ["rows","start"] (V9 K t):=by
 have M_Body_init:qJ P w K mg base jX 6 t.wb t.yu ["self"] (V6 t):=(lA T).mono (by decide)
 have M_NoText_init:qJ P w K mg base jX 6 t.xp t.xB ["self","row"] (aQ K "row"):=(yf T).mono (by decide)
 refine T.k9.fn.WX we (fun vs H Q E h=>(by obtain⟨_,_,_,rfl,_⟩:=h;rfl)) (fun cdv A outer s H vs Q E hr h=>?_)
 obtain⟨a,start,rows,rfl,hA,hst,hR,kE,kQ⟩:=h
 refine⟨_,(z6 (qi (i:=2) we.nd rfl (Or.inl rfl) (Zx T.il M_Body_init hr rfl T.Z8 T.mM.bd .nil qX))
   (z6 (pN PassesOwn.leaving rfl (aV rfl T.yr (z4 (pv 1) (z4 (qZ (qT (K:=K) rfl) rfl T.xY PySem.boot_len (z4 (pv 0) z7)) z7))) (kh (i:=3) we.nd rfl (Or.inl rfl))
    (z9 (qG (PW.pt (kR (qp jh (pv 3) (jv rfl (T.dm).choose_spec (v:=.int 90) ⟨_,rfl⟩) (qr _)) (kP (w4 (jC (yF hr (pv 2) (z4 (qo (qf (K:=K) rfl) (pv 0) (pv 3) (fun _ _=>rfl)) z7)))))))
    (z9 (gz pQ rfl (yR T.kU M_NoText_init hr rfl T.v7 T.xn.bd .nil qX (z4 (pv 3) z7)))) qm)))
   (z6 (qG (qp uz (wM hr (pv 2)) z8 (qr _))
    (z9 (gz pQ rfl (yR T.kU M_NoText_init hr rfl T.v7 T.xn.bd .nil qX (z4 (qZ (qT (K:=K) rfl) rfl T.xY PySem.boot_len (z4 (pv 0) z7)) z7)))) qm)
   (z9 (qy (wM hr (pv 2))))))),?_⟩
 have M1:kB P w K mg base jX 7 t.qC "takes" (iD t):=.mk' T.pH (uC T) T.p8.bd (by decide)
 have M2:kB P w K mg base jX 7 t.qC "many_open" (lJ t):=.mk' T.xM (vx T) T.x4.bd (by decide)
 have M3:kB P w K mg base jX 7 t.qC "closed" (cn t):=.mk' T.wI (bV T) T.yJ.bd (by decide)
 intro self dx hs hdx hne
 refine⟨self,dx,rfl,qw,fun H1 ms k1 fr1 hb1=>⟨rfl,?_⟩⟩
 have s1:qg H H1:=fun c o e=>k1 c o (qv e hs) (yt hs hdx c o e)
 have f1:∀c∈ms,H c=none:=fun c hc=>by
  rcases fr1 c hc with z | z
  ·rw[z];exact hs
  ·cases q:H c with
   | none=>rfl
   | some o=>rw[yt hs hdx c o q] at z;cases z
 walk_at "rd"
 refine⟨a,_,rfl,.inl (s1.seq hA),?_⟩
 have hlen:(rows.map V.str).length=rows.length:=List.length_map ..
 refine⟨_,_,rfl,⟨by omega,by have:=hR.lV;omega,by omega,by have:=hR.lV;omega⟩,?_⟩
 have hn:(((rows.map V.str).length:Nat) - (start:Int)).toNat=rows.length - start:=by rw[hlen];omega
 rw[hn]
 refine pk (lo:=(start:Int)) (n:=rows.length - start) (fun i σ H'=>∃(fr:List Fr) (ls:List Str) (ms:List Addr) (v3:Option V),σ=[some (.ref a),some (.int start),some (.ref self),v3]∧qg H H'∧(∀c∈ms,H c=none)∧wj t H' self fr ls (2 * i) ms∧fr≠[]∧fr.length≤7∧gx start (rows.drop start) [("whole",[],[])] []=gx (start + i) (rows.drop (start + i)) fr ls)
  ⟨_,_,ms,none,rfl,s1,f1,hb1,by simp,by simp,by rw[Nat.add_zero]⟩ ?_ ?_
 ·rintro i σ H2 hi ⟨fr,ls,ms2,v3,rfl,s2,f2,hb2,hne2,h72,hr2⟩
  have hi':start + i < rows.length:=by omega
  have hwd:wd rows (start + i)∈rows:=p7 hi'
  have hd:rows.drop (start + i)=wd rows (start + i) :: rows.drop (start + i + 1):=by
   unfold wd
   rw[List.getD_eq_getElem?_getD,List.getElem?_eq_getElem hi']
   exact List.drop_eq_getElem_cons hi'
  rw[hd] at hr2
  have hfew:=hR.lV
  have eb:gx (start + i) (wd rows (start + i) :: rows.drop (start + i + 1)) fr ls=if start + i=90 then .error (start + i) else match gL fr ls (wd rows (start + i)) with
   | none=>.error (start + i)
   | some (fr',ls')=>gx (start + i + 1) (rows.drop (start + i + 1)) fr' ls':=by rw[gx]
  have bad:gx (start + i) (wd rows (start + i) :: rows.drop (start + i + 1)) fr ls=.error (start + i)→∀c o H',Z5 t ((start:Int) + i) H c o H'→E c o H':=fun z c o H' q=>kE (start + i) (by unfold pE;rw[hr2,z];rfl) c o H' (by rw[Int.natCast_add];exact q)
  walk_at "rd"
  refine jy (fun h1=>?_) (fun h1=>?_)
  ·walk_at "rd"
   exact gW T fun c o H' z=>bad (by
    have:(start:Int) + i=90:=by simpa using h1
    rw[eb,if_pos (by omega)]) c o H' (z.back s2)
  have h90:¬start + i=90:=fun z=>h1 (by
   have:(start:Int) + i=90:=by omega
   simp [this])
  rw[if_neg h90] at eb
  obtain⟨dx2,hd2,bd2,lb2,hps2,bqs2,e2,h2⟩:=id hb2
  walk_at "rd"
  refine⟨self,_,dx2,_,rfl,h2.se,T.jn,V7,_,M1,?_⟩
  have hix:uL (rows.map V.str) ((start:Int) + i)=some (.str (wd rows (start + i))):=by
   have:=ba (xs:=rows) (i:=(start:Int) + i) (by omega) (by omega)
   rw[this]
   unfold wd
   rw[show ((start:Int) + i).toNat=start + i by omega]
  refine⟨_,rfl,_,rfl,a,_,_,_,rfl,rfl,s2.seq hA,hix,?_⟩
  refine⟨self,_,fr,ls,2 * i,ms2,rfl,hb2,by omega,hR.short _ hwd,hne2,h72,fun hN H3 fm3=>?_,fun fr' ls' H3 ms3 hS fm3 hm3 hb3=>?_⟩
  ·rw[hN] at eb
   walk_at "rd"
   exact gW T fun c o H' z=>bad eb c o H' (z.back (fm3.ou s2 f2))
  ·rw[hS] at eb
   obtain⟨g1,g2⟩:=aR hS hne2 h72
   walk_at "rd"
   exact⟨fr',ls',ms3,_,rfl,fm3.ou s2 f2,fun c hc=>(hm3 c hc).elim (f2 c) (fun z=>s2.free z),hb3.up (by omega),g1,g2,by rw[hr2,eb];rfl⟩
 ·rintro σ H2 ⟨fr,ls,ms2,v3,rfl,s2,f2,hb2,hne2,h72,hr2⟩
  have hfew:=hR.lV
  rw[show start + (rows.length - start)=rows.length by omega,List.drop_length,gx] at hr2
  obtain⟨dx2,hd2,bd2,lb2,hps2,bqs2,e2,h2⟩:=id hb2
  walk_at "rd"
  refine⟨self,_,dx2,_,rfl,h2.se,T.jn,lg,_,M2,?_⟩
  refine⟨self,fr,ls,_,ms2,rfl,hb2,?_⟩
  walk_at "rd"
  refine jy (fun h1=>?_) (fun h1=>?_)
  ·have h1':(0:Int) < ((fr.length:Nat):Int) - 1:=of_decide_eq_true h1
   walk_at "rd"
   refine⟨a,_,rfl,.inl (s2.seq hA),?_⟩
   rw[hlen]
   walk_at "rd"
   exact gW T fun c o H' z=>kE rows.length (by
    unfold pE
    rw[hr2]
    match fr,h1' with
    | _ :: _ :: _,_=>rfl
    | [_],h=>exact absurd h (by simp)) c o H' (z.back s2)
  have h1':¬(0:Int) < ((fr.length:Nat):Int) - 1:=fun z=>h1 (decide_eq_true z)
  obtain⟨n,rs,rws,rfl⟩:∃n rs rws,fr=[(n,rs,rws)]:=by
   match fr,hne2,h1' with
   | [(n,rs,rws)],_,_=>exact⟨n,rs,rws,rfl⟩
   | _ :: _ :: _,_,h=>exact absurd (by simp only[List.length_cons];omega) h
  walk_at "rd"
  refine⟨self,_,dx2,_,rfl,h2.se,T.jn,rP,_,M3,?_⟩
  refine⟨self,n,rs,rws,[],ls,_,ms2,rfl,hb2,by omega,fun p H3 ms3 fm3 sub3 hb3 hr3=>?_⟩
  exact kQ _ p H3 (by unfold pE;rw[hr2];rfl) (fm3.ou s2 f2) (hr3.move (fun _ _ _ e=>e) (fun b hb=>by cases hb))
end
noncomputable def WL (a b c:Addr) (x:V):List (Str × V):=[("parties",.ref a),("acts",.ref b),("rooms",.ref c),("whole",x)]
theorem a1:¬(("parties" : Str) = "acts"):=by decide +kernel
theorem a2:¬(("parties" : Str) = "rooms"):=by decide +kernel
theorem a3:¬(("parties" : Str) = "whole"):=by decide +kernel
theorem a4:¬(("acts" : Str) = "rooms"):=by decide +kernel
theorem a5:¬(("acts" : Str) = "whole"):=by decide +kernel
theorem a6:¬(("rooms" : Str) = "whole"):=by decide +kernel
theorem Wu (a b c:Addr) (x:V):qY "whole" x (qY "rooms" (.ref c) (qY "acts" (.ref b) (qY "parties" (.ref a) [])))=WL a b c x:=by
 simp only[qY,WL,if_neg a1,if_neg a2,if_neg a3,if_neg a4,if_neg a5,if_neg a6]
noncomputable def XU (K:PySem.W.Frag) (t:xh):Sp:=fun vs H Q _=>∃(p dx a b c:Addr) (x:V) (xs ys zs:List V),vs=[.ref p,.ref a,.ref b,.ref c,x]∧H p=some (.ins t.jE dx [])∧H a=some (.lst xs)∧H b=some (.lst ys)∧H c=some (.lst zs)∧
 ∀H' a' b' c',Off p H H'→H' p=some (.ins t.jE dx (WL a' b' c' x))→H' a'=some (.lst xs)→H' b'=some (.lst ys)→H' c'=some (.lst zs)→Q .non H'
noncomputable def Kf (t:xh) (H:Hp) (p:Addr) (ps as:List Str) (qR:List (Str × Str)) (rw:Rw):Prop:=∃dx a b c x vs,H p=some (.ins t.jE dx (WL a b c x))∧H a=some (.lst (ps.map V.str))∧H b=some (.lst (as.map V.str))∧H c=some (.lst vs)∧Paired (vK H) vs qR∧bq t [] H rw x
noncomputable def jS (rows:List Str):Except Nat (List Str × List Str × List (Str × Str) × Rw):=
 match jA rows 0 "parties" 4 [] with
 | none=>.error 0
 | some ps=>match jA rows 1 "acts" 6 ps with
  | none=>.error 1
  | some as=>match xm (ps ++ as) [] (rows.drop 2) with
   | .error n=>.error n
   | .ok qR=>match pE rows (2 + qR.length) with
    | .error n=>.error n
    | .ok rw=>.ok (ps,as,qR,rw)
theorem pA {taken:List Str}:∀{rest:List Str} {found qR:List (Str × Str)},xm taken found rest=.ok qR→qR.length≤found.length + rest.length∧qR≠[]
 | [],found,qR,h=>by
  unfold xm at h
  split at h
  ·cases h
  ·rename_i z;cases h;exact⟨by simp,z⟩
 | x :: r,found,qR,h=>by
  unfold xm at h
  split at h
  ·split at h
   ·cases h
   ·rename_i z;cases h;exact⟨by omega,z⟩
  ·split at h
   ·cases h
   ·have:=pA h
    rw[List.length_append] at this
    simp only[List.length_cons,List.length_nil] at this ⊢
    exact⟨by omega,this.2⟩
theorem QT {rows:List Str} (hR:bj rows) (i:Nat):(wd rows i).length≤190:=by
 by_cases hi:i < rows.length
 ·exact hR.short _ (p7 hi)
 ·have hz:(wd rows i).length=0:=by
   unfold wd
   rw[List.getD_eq_getElem?_getD,List.getElem?_eq_none_iff.mpr (by omega)]
   decide +kernel
  omega
theorem ue {rows:List Str} {i:Nat} {x:Str} {m:Int} {taken ns:List Str} (hR:bj rows) (h:jA rows i x m taken=some ns):ns.length≤192:=by
 unfold jA at h
 split at h
 ·cases h
 ·dsimp only at h
  split at h
  ·cases h
  ·cases h
   have hn:=@rm (vX (wd rows i)) x m
   have hw:=(dE (wd rows i)).2
   have:=QT hR i
   omega
noncomputable def QG (t:xh):Sp:=fun vs H Q E=>∃(x:Str),vs=[.str x]∧x.length≤60000∧bj (Txt.split x "; ")∧
 (∀n:Nat,jS (Txt.split x "; ")=.error n→∀c o H',Z5 t n H c o H'→E c o H')∧∀ps as qR rw p H',jS (Txt.split x "; ")=.ok (ps,as,qR,rw)→qg H H'→Kf t H' p ps as qR rw→Q (.ref p) H'
section
variable {P:Program} {w:World} {K:PySem.W.Frag} {mg:Str→Option Value} {base:Heap} {t:xh}
theorem sQ:qQ ["self","parties","acts","rooms","whole"] ["self","parties","acts","rooms","whole"] (z5 xq):=⟨rfl,rfl,rfl,by decide +kernel,rfl,by decide +kernel,by decide +kernel⟩
set_option maxHeartbeats 400000 in
theorem lD (T:Txt K mg t):qJ P w K mg base jX 1 t.wz t.yi ["self","parties","acts","rooms","whole"] (XU K t):=by
 refine T.mF.fn.ok sQ (fun vs H Q E h=>(by obtain⟨_,_,_,_,_,_,_,_,_,rfl,_⟩:=h;rfl)) (fun cdv A outer s H vs Q E hr h=>?_)
 obtain⟨p,dx,a,b,c,x,xs,ys,zs,rfl,hp,hA,hB,hC,k⟩:=h
 refine⟨_,(z6 (xX (pv 0) (jB (bo (K:=K) rfl) rfl T.mD PyProof.Rows.boot_list (z4 (pv 1) z7)) rfl)
   (z6 (xX (pv 0) (jB (bo (K:=K) rfl) rfl T.mD PyProof.Rows.boot_list (z4 (pv 2) z7)) rfl)
   (z6 (xX (pv 0) (jB (bo (K:=K) rfl) rfl T.mD PyProof.Rows.boot_list (z4 (pv 3) z7)) rfl)
   (z9 (xX (pv 0) (pv 4) rfl))))),?_⟩
 have na:a≠p:=df hA hp (by intro z;cases z)
 have nb:b≠p:=df hB hp (by intro z;cases z)
 have nc:c≠p:=df hC hp (by intro z;cases z)
 refine⟨_,rfl,a,_,rfl,.inl (q0.of hA),?_⟩
 intro q1 H1 s1 hq1 e1
 refine⟨_,rfl,p,_,dx,_,rfl,s1 _ _ hp,T.mm,T.gN,(by show 0 < 1000;decide),?_⟩
 have o2:Off p H1 (upd H1 p (.ins t.jE dx (qY "parties" (.ref q1) []))):=gY
 generalize hH2:upd H1 p (.ins t.jE dx (qY "parties" (.ref q1) []))=H2 at o2 ⊢
 have e2:H2 p=some (.ins t.jE dx (qY "parties" (.ref q1) [])):=by rw[←hH2];exact qw
 refine⟨_,rfl,b,_,rfl,.inl (q0.of (o2 _ _ nb (s1 _ _ hB))),?_⟩
 intro q3 H3 s3 hq3 e3
 refine⟨_,rfl,p,_,dx,_,rfl,s3 _ _ e2,T.mm,T.mi,(by show 1 < 1000;decide),?_⟩
 have o4:Off p H3 (upd H3 p (.ins t.jE dx (qY "acts" (.ref q3) (qY "parties" (.ref q1) [])))):=gY
 generalize hH4:upd H3 p (.ins t.jE dx (qY "acts" (.ref q3) (qY "parties" (.ref q1) [])))=H4 at o4 ⊢
 have e4:H4 p=some (.ins t.jE dx (qY "acts" (.ref q3) (qY "parties" (.ref q1) []))):=by rw[←hH4];exact qw
 refine⟨_,rfl,c,_,rfl,.inl (q0.of (o4 _ _ nc (s3 _ _ (o2 _ _ nc (s1 _ _ hC))))),?_⟩
 intro q5 H5 s5 hq5 e5
 have l2:(qY ("acts" : Str) (.ref q3) (qY "parties" (.ref q1) [])).length≤2:=by
  have:=xt ("acts" : Str) (.ref q3) (qY "parties" (.ref q1) [])
  have e:(qY ("parties" : Str) (.ref q1) []).length=1:=rfl
  omega
 refine⟨_,rfl,p,_,dx,_,rfl,s5 _ _ e4,T.mm,T.pC,by omega,?_⟩
 have o6:Off p H5 (upd H5 p (.ins t.jE dx (qY "rooms" (.ref q5) (qY "acts" (.ref q3) (qY "parties" (.ref q1) []))))):=gY
 generalize hH6:upd H5 p (.ins t.jE dx (qY "rooms" (.ref q5) (qY "acts" (.ref q3) (qY "parties" (.ref q1) []))))=H6 at o6 ⊢
 have e6:H6 p=some (.ins t.jE dx (qY "rooms" (.ref q5) (qY "acts" (.ref q3) (qY "parties" (.ref q1) [])))):=by rw[←hH6];exact qw
 refine⟨_,rfl,_,rfl,p,_,dx,_,rfl,e6,T.mm,T.pU,?_,?_⟩
 ·have:=xt ("rooms" : Str) (.ref q5) (qY "acts" (.ref q3) (qY "parties" (.ref q1) []))
  omega
 have o7:Off p H6 (upd H6 p (.ins t.jE dx (qY "whole" x (qY "rooms" (.ref q5) (qY "acts" (.ref q3) (qY "parties" (.ref q1) [])))))):=gY
 rw[Wu] at o7 ⊢
 have n1:q1≠p:=Ne.symm (qv hp hq1)
 have n3:q3≠p:=Ne.symm (qv e2 hq3)
 have n5:q5≠p:=Ne.symm (qv e4 hq5)
 exact k _ q1 q3 q5 (fun d o hd e=>o7 _ _ hd (o6 _ _ hd (s5 _ _ (o4 _ _ hd (s3 _ _ (o2 _ _ hd (s1 _ _ e))))))) qw (o7 _ _ n1 (o6 _ _ n1 (s5 _ _ (o4 _ _ n1 (s3 _ _ (o2 _ _ n1 e1)))))) (o7 _ _ n3 (o6 _ _ n3 (s5 _ _ (o4 _ _ n3 e3)))) (o7 _ _ n5 (o6 _ _ n5 e5))
theorem wD:qQ ["text","rows","parties","acts","rooms","whole"] ["text"] (z5 vw):=⟨rfl,rfl,rfl,by decide +kernel,rfl,by decide +kernel,by decide +kernel⟩
set_option maxHeartbeats 400000 in
theorem eY (T:Txt K mg t):qJ P w K mg base (si P w) 9 t.mq t.fK ["text"] (QG t):=by
 have G_v_read_names:qJ P w K mg base (si P w) 8 t.vq t.k6 ["rows","number","word","most","taken"] (VO K t):=(dX T).mono (by decide)
 have G_v_read_rooms:qJ P w K mg base (si P w) 8 t.vj t.vm ["rows","taken"] (Wv K t):=(dW T).mono (by decide)
 have G_v_read_whole:qJ P w K mg base (si P w) 8 t.vb t.vc ["rows","start"] (V9 K t):=(dJ T).mono (by decide)
 have M_Pact_init:qJ P w K mg base jX 7 t.wz t.yi ["self","parties","acts","rooms","whole"] (XU K t):=(lD T).mono (by decide)
 refine T.cy.fn.WX wD (fun vs H Q E h=>(by obtain⟨_,rfl,_⟩:=h;rfl)) (fun cdv A outer s H vs Q E hr h=>?_)
 obtain⟨x,rfl,hx,hR,kE,kQ⟩:=h
 refine⟨_,(z6 (qi (i:=1) wD.nd rfl (Or.inl rfl) (ko PySem.F.plainAttrs_str PySem.F.slot_str_split PySem.F.type_str_split gk (pv 0) (z4 qj z7)))
   (z6 (qi (i:=2) wD.nd rfl (Or.inl rfl) (qu G_v_read_names hr rfl T.j4.mg T.j4.fn.kp T.j4.bd .nil (en fun _ _ _ z=>z) (z4 (pv 1) (z4 z8 (z4 qj (z4 (jv rfl (T.bF).choose_spec (v:=.int 4) ⟨_,rfl⟩) (z4 (jx z7) z7)))))))
   (z6 (qi (i:=3) wD.nd rfl (Or.inl rfl) (qu G_v_read_names hr rfl T.j4.mg T.j4.fn.kp T.j4.bd .nil (en fun _ _ _ z=>z) (z4 (pv 1) (z4 z8 (z4 qj (z4 (jv rfl (T.dc).choose_spec (v:=.int 6) ⟨_,rfl⟩) (z4 (pv 2) z7)))))))
   (z6 (qi (i:=4) wD.nd rfl (Or.inl rfl) (qu G_v_read_rooms hr rfl T.vg.mg T.vg.fn.kp T.vg.bd .nil (en fun _ _ _ z=>z) (z4 (pv 1) (z4 (qk wA (pv 2) (pv 3)) z7))))
   (z6 (qi (i:=5) wD.nd rfl (Or.inl rfl) (qu G_v_read_whole hr rfl T.k9.mg T.k9.fn.kp T.k9.bd .nil (en fun _ _ _ z=>z) (z4 (pv 1) (z4 (qk jI (jv rfl (T.ve).choose_spec (v:=.int 2) ⟨_,rfl⟩) (qZ (qT (K:=K) rfl) rfl T.xY PySem.boot_len (z4 (pv 4) z7))) z7))))
   (z9 (qy (vL T.eZ M_Pact_init hr rfl T.Zw T.mF.bd .nil qX (z4 (pv 2) (z4 (pv 3) (z4 (pv 4) (z4 (pv 5) z7)))))))))))),?_⟩
 walk_at "rd"
 refine⟨by rw[sizeLine_eq];omega,?_⟩
 intro lr H1 s1 hlr e1
 have hpos:1≤(Txt.split x (Str.ofString "; ")).length:=PyProof.Rows.split_pos x "; "
 have e1':H1 lr=some (.lst ((Txt.split x "; ").map V.str)):=e1
 clear e1
 generalize Txt.split x (Str.ofString "; ")=rows at *
 walk_at "rd"
 intro l0 H2 s2 hl0 e2
 have sA:qg H H2:=s1.trans s2
 refine⟨lr,l0,0,_,_,rows,[],rfl,q0.of (s2 _ _ e1'),e2,Nat.zero_le _,hR,Nat.zero_le _,by decide,fun hN c o H' z=>?_,fun ps lp H3 hS s3 hlp e3=>?_⟩
 ·exact kE 0 (by unfold jS;rw[hN]) c o H' (z.back sA)
 have hps:=ue hR hS
 walk_at "rd"
 refine⟨lr,lp,1,_,_,rows,ps,rfl,q0.of (s3 _ _ (s2 _ _ e1')),e3,hpos,hR,by omega,by decide,fun hN c o H' z=>?_,fun as la H4 hS4 s4 hla e4=>?_⟩
 ·exact kE 1 (by unfold jS;rw[hS];dsimp only;rw[hN]) c o H' (z.back (sA.trans s3))
 have has:=ue hR hS4
 walk_at "rd"
 refine⟨lp,la,_,_,rfl,rfl,s4 _ _ e3,e4,qx (by simp only[List.length_map];omega),?_⟩
 intro lt H5 s5 hlt e5
 have e5':H5 lt=some (.lst ((ps ++ as).map V.str)):=by rw[e5,List.map_append]
 have sB:qg H H5:=((sA.trans s3).trans s4).trans s5
 refine⟨lr,lt,rows,ps ++ as,rfl,q0.of (s5 _ _ (s4 _ _ (s3 _ _ (s2 _ _ e1')))),e5',hR,by rw[List.length_append];omega,fun n hN c o H' z=>?_,fun qR l6 H6 vs hS6 s6 hl6 e6 hP6=>?_⟩
 ·exact kE n (by unfold jS;rw[hS];dsimp only;rw[hS4];dsimp only;rw[hN]) c o H' (z.back sB)
 have hrl:=(pA hS6).1
 have hr0:=List.length_pos_iff.mpr (pA hS6).2
 rw[List.length_drop,List.length_nil,Nat.zero_add] at hrl
 have hvl:vs.length=qR.length:=Paired.length hP6
 walk_at "rd"
 refine⟨l6,_,rfl,.inl (q0.of e6),?_⟩
 refine⟨_,_,rfl,rfl,?_⟩
 have ecast:(2:Int) + ((vs.length:Nat):Int)=((2 + qR.length:Nat):Int):=by rw[hvl];omega
 have sC:qg H H6:=sB.trans s6
 refine⟨lr,2 + qR.length,rows,by rw[←ecast];rfl,q0.of (s6 _ _ (s5 _ _ (s4 _ _ (s3 _ _ (s2 _ _ e1'))))),by omega,hR,fun n hN c o H' z=>?_,fun rw' p H7 hS7 s7 hr7=>?_⟩
 ·exact kE n (by unfold jS;rw[hS];dsimp only;rw[hS4];dsimp only;rw[hS6];dsimp only;rw[hN]) c o H' (z.back sC)
 walk_at "rd"
 intro q dxq hq hdq hne
 have mk:∀c o,H7 c=some o→(upd (upd H7 dxq (HO.own q)) q (HO.ins t.jE dxq [])) c=some o:=yt hq hdq
 refine⟨q,dxq,lp,la,l6,.ref p,_,_,_,rfl,qw,mk _ _ (s7 _ _ (s6 _ _ (s5 _ _ (s4 _ _ e3)))),mk _ _ (s7 _ _ (s6 _ _ (s5 _ _ e4))),mk _ _ (s7 _ _ e6),fun H8 a' b' c' o8 g1 g2 g3 g4=>⟨rfl,?_⟩⟩
 have s8:qg H7 H8:=fun c o e=>o8 c o (qv e hq) (mk c o e)
 exact kQ ps as qR rw' q H8 (by unfold jS;rw[hS];dsimp only;rw[hS4];dsimp only;rw[hS6];dsimp only;rw[hS7]) ((sC.trans s7).trans s8) ⟨_,a',b',c',_,_,g1,g2,g3,g4,Paired.imp' (fun _ _ z=>z.same (s7.trans s8)) hP6,hr7.move (fun _ _ _ e=>s8 _ _ e) (fun b hb=>by cases hb)⟩
end
noncomputable def lits:List Str:=["any","must","may","not","by","else","to","let","be","part","in","calm","sore","end"]
noncomputable def Rt (k:Nat) (x:Str):Prop:=(k=0∧qe x=true)∨(k=1∧qe x=false∧0 < gw x∧x∉lits)∨(k=2∧qe x=false∧gw x=0∧x∉lits)∨(3≤k∧lits[k - 3]?=some x)
noncomputable def iQ (k p:Nat):Bool:=if p=100 then k == 0 else if p=101 then k == 0 || k == 3 else if p=102 then k == 1 else k == p
noncomputable def jF (ks ps:List Nat):Bool:=decide (ks.length=ps.length) && (ks.zip ps).all fun q=>iQ q.1 q.2
noncomputable def ib (p:Nat):Str:=if p=100 then "NAME" else if p=101 then "WHO" else if p=102 then "NUMBER" else lits.getD (p - 3) ""
noncomputable def dj:List Nat:=[100,100,4,100,7,102,8,100]
noncomputable def bS:List Nat:=[100,101,5,100]
noncomputable def oP:List Nat:=[100,101,5,6,100,8,100]
noncomputable def mN:List Nat:=[100,101,7,100,9,100]
noncomputable def JN:List Nat:=[10,100,11,100]
noncomputable def u0:List Nat:=[12,100]
noncomputable def Qp (p:Nat):Bool:=p == 100 || p == 101 || p == 102 || (decide (3≤p) && decide (p≤16))
theorem jT:iN=dj.map ib∧lE=bS.map ib∧JJ=oP.map ib∧nA=mN.map ib∧Qc=JN.map ib∧cP=u0.map ib:=by decide +kernel
theorem dD:∀x∈lits,qe x=false∧gw x=0:=by decide +kernel
theorem J7:lits.Nodup:=by decide +kernel
theorem lj:∀c∈qD.cps.toList,¬(48≤c∧c≤57):=by decide +kernel
theorem ee (z:Str) (c:Nat):has z c=decide (c∈z.cps.toList):=StrLaws.found_one z c
theorem cg {x z:Str} {m:Int} (h:g7 x z m=true):1≤x.length∧(x.length:Int)≤m∧∀c∈x.cps.toList,c∈z.cps.toList:=by
 unfold g7 at h
 rw[Bool.and_eq_true,Bool.and_eq_true] at h
 obtain⟨⟨h1,h2⟩,h3⟩:=h
 refine⟨of_decide_eq_true h1,of_decide_eq_true h2,fun c hc=>?_⟩
 have:=List.all_eq_true.mp h3 c hc
 rw[ee] at this
 exact of_decide_eq_true this
theorem name_num {x:Str} (h:qe x=true):gw x=0:=by
 unfold qe at h
 rw[Bool.and_eq_true] at h
 obtain⟨h1,_,h3⟩:=cg h.1
 unfold gw
 refine if_neg fun q=>?_
 obtain⟨_,_,d3⟩:=m9 q.1
 obtain⟨c,e,_⟩:=nD h1
 have hc:c∈x.cps.toList:=List.mem_of_mem_head? e
 exact lj c (h3 c hc) (d3 c hc)
theorem QD {x:Str} (h:qe x=true):x∉lits:=fun q=>by rw[(dD x q).1] at h;cases h
theorem Vy {k j:Nat} {x:Str} (hk:lits[k]?=some x) (hj:lits[j]?=some x):k=j:=mx J7 hk hj
theorem Rt.num {k:Nat} {x:Str} (h:Rt k x):decide (gw x > 0)=(k == 1):=by
 rcases h with ⟨rfl,h⟩ | ⟨rfl,h1,h2,h3⟩ | ⟨rfl,h1,h2,h3⟩ | ⟨h1,h2⟩
 ·rw[name_num h];rfl
 ·rw[decide_eq_true h2];rfl
 ·rw[h2];rfl
 ·have hm:=List.mem_of_getElem? h2
  rw[(dD x hm).2]
  have:(k == 1)=false:=beq_eq_false_iff_ne.mpr (by omega)
  rw[this];rfl
theorem Rt.name {k:Nat} {x:Str} (h:Rt k x):qe x=(k == 0):=by
 rcases h with ⟨rfl,h⟩ | ⟨rfl,h1,h2,h3⟩ | ⟨rfl,h1,h2,h3⟩ | ⟨h1,h2⟩
 ·rw[h];rfl
 ·rw[h1];rfl
 ·rw[h1];rfl
 ·have hm:=List.mem_of_getElem? h2
  rw[(dD x hm).1]
  exact(beq_eq_false_iff_ne.mpr (by omega)).symm
theorem Rt.lit {k j:Nat} {x y:Str} (h:Rt k x) (hj:lits[j]?=some y):decide (x=y)=(k == j + 3):=by
 have nm:x∉lits→k < 3→decide (x=y)=(k == j + 3):=fun h h3=>by
  have:¬x=y:=fun q=>h (by rw[q];exact List.mem_of_getElem? hj)
  rw[decide_eq_false this]
  exact(beq_eq_false_iff_ne.mpr (by omega)).symm
 rcases h with ⟨rfl,h⟩ | ⟨rfl,h1,h2,h3⟩ | ⟨rfl,h1,h2,h3⟩ | ⟨h1,h2⟩
 ·exact nm (QD h) (by omega)
 ·exact nm h3 (by omega)
 ·exact nm h3 (by omega)
 ·by_cases q:k=j + 3
  ·subst q
   rw[Nat.add_sub_cancel] at h2
   rw[hj] at h2
   cases h2
   simp
  ·have:¬x=y:=fun e=>q (by subst e;have:=Vy h2 hj;omega)
   rw[decide_eq_false this]
   exact(beq_eq_false_iff_ne.mpr q).symm
theorem Kt:∀p < 17,3≤p→ib p≠"NAME"∧ib p≠"WHO"∧ib p≠"NUMBER"∧lits[p - 3]?=some (ib p):=by decide +kernel
theorem oJ (x:Str):wq x "NAME" = qe x:=if_pos rfl
theorem nI:("WHO" : Str)≠"NAME"∧("NUMBER" : Str)≠"NAME"∧("NUMBER" : Str)≠"WHO":=by decide +kernel
theorem Rt.fits {k p:Nat} {x:Str} (h:Rt k x) (hp:Qp p=true):wq x (ib p)=iQ k p:=by
 unfold iQ
 by_cases h1:p=100
 ·subst h1
  rw[if_pos rfl]
  show wq x "NAME" = _
  rw[oJ,h.name]
 rw[if_neg h1]
 by_cases h2:p=101
 ·subst h2
  rw[if_pos rfl]
  show wq x "WHO" = _
  unfold wq
  rw[if_neg nI.1,if_pos rfl,h.name,h.lit (j:=0) rfl]
 rw[if_neg h2]
 by_cases h3:p=102
 ·subst h3
  rw[if_pos rfl]
  show wq x "NUMBER" = _
  unfold wq
  rw[if_neg nI.2.1,if_neg nI.2.2,if_pos rfl,h.num]
 rw[if_neg h3]
 have hp':3≤p∧p≤16:=by
  unfold Qp at hp
  simp [h1,h2,h3] at hp
  exact hp
 obtain⟨a,b,c,d⟩:=Kt p (by omega) hp'.1
 unfold wq
 rw[if_neg a,if_neg b,if_neg c,h.lit d,Nat.sub_add_cancel hp'.1]
noncomputable abbrev pK:List Nat→List Str→Prop:=Paired Rt
theorem pK.fits:∀{ks:List Nat} {ws:List Str},pK ks ws→∀{ps:List Nat},ps.all Qp=true→xU ws (ps.map ib)=jF ks ps:=by
 intro ks ws r ps hp
 unfold xU jF
 rw[List.length_map,←r.length]
 congr 1
 induction r generalizing ps with
 | nil=>rfl
 | cons h t ih=>
  cases ps with
  | nil=>rfl
  | cons p ps=>
   rw[List.all_cons,Bool.and_eq_true] at hp
   rw[List.map_cons,List.zip_cons_cons,List.zip_cons_cons,List.all_cons,List.all_cons,ih hp.2]
   rw[show wq _ (ib p)=iQ _ p from h.fits hp.1]
noncomputable def u3 (ks:List Nat):Bool:=jF (ks.take 2) u0 && (ks.length == 2 || (ks.getD 2 99 == 13 && (decide (1≤(ks.drop 3).length) && decide ((ks.drop 3).length≤12) && (ks.drop 3).all (· == 0))))
noncomputable def XQ (ks:List Nat):Bool:=ks.length == 2 && (decide (14≤ks.getD 0 99) && decide (ks.getD 0 99≤16)) && ks.getD 1 99 == 0
noncomputable def Gq (ks:List Nat):Bool:=!jF ks dj && !jF ks bS && !jF ks oP && !jF ks mN && !jF ks JN && !u3 ks && !XQ ks
noncomputable def YG (ws:List Str):Prop:=jZ ws=none∧aU ws=none∧vQ ws=none∧bT ws=none
theorem pK.take:∀{ks:List Nat} {ws:List Str} (n:Nat),pK ks ws→pK (ks.take n) (ws.take n)
 | _,_,0,_=>.nil
 | _,_,_ + 1,.nil=>.nil
 | _,_,n + 1,.cons r t=>.cons r (pK.take n t)
theorem pK.drop:∀{ks:List Nat} {ws:List Str} (n:Nat),pK ks ws→pK (ks.drop n) (ws.drop n)
 | _,_,0,r=>r
 | _,_,_ + 1,.nil=>.nil
 | _,_,n + 1,.cons _ t=>pK.drop n t
theorem pK.append:∀{ks js:List Nat} {ws zs:List Str},pK ks ws→pK js zs→pK (ks ++ js) (ws ++ zs)
 | _,_,_,_,.nil,s=>s
 | _,_,_,_,.cons r t,s=>.cons r (pK.append t s)
theorem pK.pick:∀{ks:List Nat} {ws:List Str} {i:Nat},pK ks ws→i < ks.length→Rt (ks.getD i 99) (My.wd ws i)
 | _,_,_,.nil,h=>by simp at h
 | _,_,0,.cons r _,_=>r
 | _,_,i + 1,.cons _ t,h=>pK.pick (i:=i) t (by simpa using h)
theorem pK.names:∀{ks:List Nat} {ws:List Str},pK ks ws→ws.all qe=ks.all (· == 0)
 | _,_,.nil=>rfl
 | _,_,.cons r t=>by rw[List.all_cons,List.all_cons,pK.names t,r.name]
theorem oj:dj.all Qp=true∧bS.all Qp=true∧oP.all Qp=true∧mN.all Qp=true∧JN.all Qp=true∧u0.all Qp=true:=by decide
theorem yx {ks ps:List Nat} {ws fs:List Str} (r:pK ks ws) (hp:ps.all Qp=true) (e:fs=ps.map ib) (h:jF ks ps=false):¬xU ws fs=true:=by
 rw[e,r.fits hp,h]
 simp
theorem b8 {ks ps:List Nat} {ws fs:List Str} (r:pK ks ws) (hp:ps.all Qp=true) (e:fs=ps.map ib) (h:jF ks ps=true):xU ws fs=true:=by
 rw[e,r.fits hp,h]
theorem aK {ks ps:List Nat} (h:jF ks ps=true):ks.length=ps.length:=by
 unfold jF at h
 rw[Bool.and_eq_true] at h
 exact of_decide_eq_true h.1
theorem pK.part {ks:List Nat} {ws:List Str} (r:pK ks ws) (h:u3 ks=false):vQ ws=none:=by
 have hl:=r.length
 unfold vQ
 by_cases hf:xU (ws.take 2) cP=true
 ·rw[if_pos hf]
  have hT:jF (ks.take 2) u0=true:=by
   have:=(r.take 2).fits oj.2.2.2.2.2
   rw[←jT.2.2.2.2.2,hf] at this
   exact this.symm
  have h2:2≤ks.length:=by have:(ks.take 2).length=2:=aK hT;rw[List.length_take] at this;omega
  unfold u3 at h
  rw[hT,Bool.true_and,Bool.or_eq_false_iff] at h
  have hn:¬ws.length=2:=fun q=>by
   have:ks.length=2:=by omega
   rw[this] at h
   simp at h
  rw[if_neg hn]
  refine if_pos ?_
  by_cases hin:wd ws 2 = "in"
  ·refine .inr ?_
   have r2:=pK.pick (i:=2) r (by omega)
   have e13:(ks.getD 2 99 == 13)=true:=by rw[←r2.lit (j:=10) (y:="in") rfl];exact decide_eq_true hin
   have h3:=h.2
   rw[e13,Bool.true_and] at h3
   unfold pV
   rw[(r.drop 3).names,←(r.drop 3).length]
   have hc:decide (((ks.drop 3).length:Int)≤12)=decide ((ks.drop 3).length≤12):=by
    by_cases q:(ks.drop 3).length≤12
    ·rw[decide_eq_true q,decide_eq_true (by omega)]
    ·rw[decide_eq_false q,decide_eq_false (by omega)]
   rw[hc]
   exact h3
  ·exact .inl hin
 ·exact if_neg hf
section
variable {P:Program} {w:World} {K:PySem.W.Frag} {mg:Str→Option Value} {base:Heap} {t:xh}
end
theorem dY {c:Nat}:∀{xs ys X Y:List Nat},c∉xs→c∉ys→xs ++ c :: X=ys ++ c :: Y→xs=ys∧X=Y
 | [],[],_,_,_,_,h=>by simpa using h
 | [],y :: ys,_,_,_,hy,h=>by
  simp only[List.nil_append,List.cons_append,List.cons.injEq] at h
  exact absurd (by rw[h.1];simp) hy
 | x :: xs,[],_,_,hx,_,h=>by
  simp only[List.nil_append,List.cons_append,List.cons.injEq] at h
  exact absurd (by rw[←h.1];simp) hx
 | x :: xs,y :: ys,X,Y,hx,hy,h=>by
  simp only[List.cons_append,List.cons.injEq] at h
  obtain⟨e1,e2⟩:=dY (c:=c) (fun q=>hx (List.mem_cons_of_mem _ q)) (fun q=>hy (List.mem_cons_of_mem _ q)) h.2
  exact⟨by rw[h.1,e1],e2⟩
theorem az:(" " : Str).cps.toList=[32]:=by decide +kernel
theorem ZH:(" " : Str)=⟨#[32]⟩:=by decide +kernel
theorem qt (x y:Str) (r:List Str):(Str.join " " (x :: y :: r)).cps.toList=x.cps.toList ++ 32 :: (Str.join " " (y :: r)).cps.toList:=by
 rw[nH,cps_append,cps_append,az]
 simp
theorem tO:∀{as bs:List Str},as≠[]→bs≠[]→(∀x∈as,32∉x.cps.toList)→(∀x∈bs,32∉x.cps.toList)→Str.join " " as=Str.join " " bs→as=bs
 | [],_,h,_,_,_,_=>absurd rfl h
 | _ :: _,[],_,h,_,_,_=>absurd rfl h
 | [a],[b],_,_,_,_,e=>by rw[show a=b from e]
 | [a],b :: b' :: r,_,_,ha,_,e=>by
  have e':=congrArg (fun z=>z.cps.toList) e
  simp only[qt,L2.join_one] at e'
  exact absurd (by rw[e'];simp) (ha a (by simp))
 | a :: a' :: r,[b],_,_,_,hb,e=>by
  have e':=congrArg (fun z=>z.cps.toList) e
  simp only[qt,L2.join_one] at e'
  exact absurd (by rw[←e'];simp) (hb b (by simp))
 | a :: a' :: r,b :: b' :: r',_,_,ha,hb,e=>by
  have e':=congrArg (fun z=>z.cps.toList) e
  simp only[qt] at e'
  obtain⟨e1,e2⟩:=dY (ha a (by simp)) (hb b (by simp)) e'
  have:=tO (as:=a' :: r) (bs:=b' :: r') (by simp) (by simp) (fun x hx=>ha x (List.mem_cons_of_mem _ hx)) (fun x hx=>hb x (List.mem_cons_of_mem _ hx)) (xx e2)
  rw[xx e1,this]
theorem cR {ws:List Str} (h:ws≠[]) (hb:∀x∈ws,32∉x.cps.toList):vX (Txt.join " " ws)=ws:=by
 unfold vX
 rw[join_eq]
 refine(tO h ?_ hb ?_ ?_).symm
 ·intro q
  have:=PyProof.Rows.split_pos (Str.join " " ws) " "
  rw[q] at this
  simp at this
 ·intro x hx
  rw[ZH] at hx
  exact StrLaws.split_free _ 32 x hx
 ·exact(StrLaws.join_split _ _).symm
structure Wk (x:Str):Prop where
 as:asc x
 nb:32∉x.cps.toList
noncomputable def sP (ws:List Str):Nat:=(ws.map (·.length)).sum + ws.length
theorem Jk (as bs:List Str):sP (as ++ bs)=sP as + sP bs:=by
 unfold sP
 rw[List.map_append,List.sum_append,List.length_append]
 omega
theorem Xj (x:Str):sP [x]=x.length + 1:=by simp [sP]
theorem mE {n:Nat}:∀{ws:List Str},(∀x∈ws,x.length≤n)→sP ws≤(n + 1) * ws.length
 | [],_=>by simp [sP]
 | x :: r,h=>by
  have h1:=h x (by simp)
  have h2:=mE (n:=n) (ws:=r) fun y hy=>h y (List.mem_cons_of_mem _ hy)
  have e:sP (x :: r)=sP [x] + sP r:=Jk [x] r
  rw[e,Xj,List.length_cons,Nat.mul_add]
  omega
theorem d8 (ws:List Str):(Txt.join " " ws).length≤sP ws:=by
 have:=tw " " ws
 have e:(" " : Str).length=1:=by decide +kernel
 rw[e] at this
 unfold sP
 omega
theorem lO (ws:List Str):(ws.map (·.length)).sum + ws.length * (" " : Str).length=sP ws:=by
 have e:(" " : Str).length=1:=by decide +kernel
 rw[e];unfold sP;omega
section
variable {P:Program} {w:World} {K:PySem.W.Frag} {mg:Str→Option Value} {base:Heap} {t:xh}
end
noncomputable def yb (c k:Int):Int:=(c % 2147483629 + 104729 * (k + 1)) % 2147483629 * ((c % 2147483629 + 104729 * (k + 1)) % 2147483629) % 2147483647 * 48271 % 2147483647 / 7
theorem rS (c k:Int):0≤yb c k∧yb c k < 306783379:=by
 unfold yb
 generalize (c % 2147483629 + 104729 * (k + 1)) % 2147483629 * ((c % 2147483629 + 104729 * (k + 1)) % 2147483629) % 2147483647 * 48271=z
 omega
noncomputable def kT (ns:List Int) (k:Int):Int:=if k < (ns.length:Int) then ns.getD k.toNat 0 % 1000000000000000000000007 else 0
theorem iH (ns:List Int) (k:Int):0≤kT ns k∧kT ns k < 1000000000000000000000007:=by
 unfold kT
 split
 ·exact⟨Int.emod_nonneg _ (by decide),Int.emod_lt_of_pos _ (by decide)⟩
 ·decide
noncomputable def oN (K:PySem.W.Frag):Sp:=fun vs H Q _=>∃(a:Addr) (k:Int) (ns:List Int),vs=[.ref a,.int k]∧q0 K H a (ns.map V.int)∧0≤k∧Q (.int (kT ns k)) H
noncomputable def sN:Sp:=fun vs H Q _=>∃(c k:Int),vs=[.int c,.int k]∧0≤k∧k≤1000∧Q (.int (yb c k)) H
noncomputable abbrev sS:Str:="fgjkqvxz"
noncomputable def aO:List Nat:=[102,103,106,107,113,118,120,122]
theorem iM:sS.length=8∧sS.cps.toList=aO:=by decide +kernel
theorem dN:qD.length=26∧qD.cps.toList.length=26:=by decide +kernel
theorem oK:∀c∈aO,c∈qD.cps.toList:=by decide +kernel
theorem aY:∀x∈yc,∀c∈x.cps.toList,c∉aO:=by decide +kernel
noncomputable def nT (j:Int):Nat:=aO.getD j.toNat 0
theorem Xv {x:Str} (h1:1≤x.length) (h2:x.length≤8) (h3:∀c∈x.cps.toList,c∈qD.cps.toList) (h4:∃c∈x.cps.toList,c∈aO):qe x=true:=by
 unfold qe g7
 rw[decide_eq_true h1,decide_eq_true (show (x.length:Int)≤8 by omega)]
 have e:x.cps.toList.all (has qD)=true:=List.all_eq_true.mpr fun c hc=>by rw[ee];exact decide_eq_true (h3 c hc)
 rw[e,dH]
 obtain⟨c,hc,hs⟩:=h4
 rw[decide_eq_false (fun q=>aY x q c hc hs)]
 rfl
theorem kq {x:Str} (h:qe x=true):1≤x.length∧x.length≤8∧Wk x:=by
 unfold qe at h
 rw[Bool.and_eq_true] at h
 obtain⟨h1,h2,h3⟩:=cg h.1
 refine⟨h1,by omega,fun c hc=>iT.2.2 c (h3 c hc),fun hc=>?_⟩
 have:¬32∈qD.cps.toList:=by decide +kernel
 exact this (h3 32 hc)
noncomputable def yj:List Str:=["part","done","let","calm","sore","end","acts","any","in","else","may","not"]
theorem sR:∀x∈yj,1≤x.length∧x.length≤4∧∀c∈x.cps.toList,c∈qD.cps.toList:=by decide +kernel
noncomputable def uK (c:Int):Int:=2 + c / 81 % (7 - (if c % 3=1 then 1 else 0))
noncomputable def aI (c:Int):Int:=c / 500 % uK c
noncomputable def Hw (c:Int):Nat:=(yj.getD (c / 12 % 12).toNat "").length
theorem nz (c:Int):2≤uK c∧uK c≤8∧(c % 3=1→uK c≤7):=by
 unfold uK
 by_cases h:c % 3=1
 ·rw[if_pos h]
  omega
 ·rw[if_neg h]
  omega
noncomputable def Jq (c:Int):Int:=(aI c + 1 + c / 3600 % (uK c - 1)) % uK c
theorem ez (c:Int):0≤aI c∧aI c < uK c:=by
 have h:=(nz c).1
 exact⟨Int.emod_nonneg _ (by omega),Int.emod_lt_of_pos _ (by omega)⟩
theorem QN (c:Int):0≤Jq c∧Jq c < uK c∧Jq c≠aI c:=by
 have h:=(nz c).1
 have ha:=ez c
 have r0:0≤c / 3600 % (uK c - 1):=Int.emod_nonneg _ (by omega)
 have r1:c / 3600 % (uK c - 1) < uK c - 1:=Int.emod_lt_of_pos _ (by omega)
 refine⟨Int.emod_nonneg _ (by omega),Int.emod_lt_of_pos _ (by omega),?_⟩
 unfold Jq
 generalize c / 3600 % (uK c - 1)=r at *
 generalize uK c=z at *
 generalize aI c=a at *
 by_cases q:a + 1 + r < z
 ·rw[Int.emod_eq_of_lt (by omega) q]
  omega
 ·have e:a + 1 + r=(a + 1 + r - z) + z:=by omega
  rw[e,Int.add_emod_right,Int.emod_eq_of_lt (by omega) (by omega)]
  omega
theorem eM (b:Bool):(0:Int) < 7 - (if b=true then 1 else 0):=by cases b<;>decide
theorem Wi (c:Int):(2 + c / 81 % (7 - (if decide (V.int (c % 3)=V.int 1)=true then (1:Int) else 0)))=uK c:=by
 unfold uK
 by_cases q:c % 3=1
 ·rw[if_pos q,if_pos (by rw[q];exact decide_eq_true rfl)]
 ·rw[if_neg q,if_neg (fun h=>q (by have:=of_decide_eq_true h;injection this))]
noncomputable def uf (j:Int):Nat:=qD.cps.toList.getD (j % 26).toNat 0
noncomputable def Jz (c k:Int) (j:Nat):Nat:=if (j:Int)=Jq c then uf (k / 8 + c / 7) else if (j:Int)=aI c then nT (k % 8) else uf (yb c j)
noncomputable def fg (c k:Int):List Nat:=(List.range (uK c).toNat).map (Jz c k)
noncomputable def uQ (c k:Int):List Nat:=if c % 12=5∧k < 8 then [nT (k % 8)] else if c % 12=7 then (yj.getD (c / 12 % 12).toNat "").cps.toList ++ [nT (k % 8),uf (k / 8)] else if c % 3=1∧k % 2=1 then fg c (k - 1) ++ [uf (c / 3)] else fg c k
noncomputable def wV (c k:Int):Str:=⟨(uQ c k).toArray⟩
theorem bE (c k:Int):(wV c k).cps.toList=uQ c k:=rfl
noncomputable def iR:Sp:=fun vs H Q _=>∃(c k:Int),vs=[.int c,.int k]∧0≤c∧c < 1000000000∧0≤k∧k < 208∧∀H',qg H H'→Q (.str (wV c k)) H'
theorem gy (k:Int):nT (k % 8)∈aO:=by
 unfold nT
 have h0:0≤k % 8:=Int.emod_nonneg _ (by omega)
 have h1:k % 8 < 8:=Int.emod_lt_of_pos _ (by omega)
 have hj:(k % 8).toNat < aO.length:=by show (k % 8).toNat < 8;omega
 rw[List.getD_eq_getElem?_getD,List.getElem?_eq_getElem hj]
 exact List.getElem_mem hj
theorem dU (k:Int):qD.cps.toList.getD (k % 26).toNat 0∈qD.cps.toList:=by
 have h0:0≤k % 26:=Int.emod_nonneg _ (by omega)
 have h1:k % 26 < 26:=Int.emod_lt_of_pos _ (by omega)
 have hj:(k % 26).toNat < qD.cps.toList.length:=by rw[dN.2];omega
 rw[List.getD_eq_getElem?_getD,List.getElem?_eq_getElem hj]
 exact List.getElem_mem hj
noncomputable def LS (x:Str):Prop:=∀c∈x.cps.toList,c∈qD.cps.toList
noncomputable def V0 (c k k':Int) (tl:Str):Prop:=(c % 3=1∧k % 2=1∧k'=k - 1∧tl.cps.toList=[uf (c / 3)])∨(¬(c % 3=1∧k % 2=1)∧k'=k∧tl = "")
theorem u5 {a b:Int} (h:decide (V.int a=V.int b)=true):a=b:=by have:=of_decide_eq_true h;injection this
theorem u4 {a b:Int} (h:a=b):decide (V.int a=V.int b)=true:=by subst h;exact decide_eq_true rfl
section
variable {P:Program} {w:World} {K:PySem.W.Frag} {mg:Str→Option Value} {base:Heap} {t:xh}
theorem lI:qQ ["_law_script","_law_k"] ["_law_script","_law_k"] (z5 j9):=⟨rfl,rfl,rfl,by decide +kernel,rfl,by decide +kernel,by decide +kernel⟩
set_option maxHeartbeats 400000 in
theorem fA (T:Txt K mg t):qJ P w K mg base jX 1 t.wy t.vT ["_law_script","_law_k"] (oN K):=by
 refine T.jg.fn.ok lI (fun vs H Q E h=>(by obtain⟨_,_,_,rfl,_⟩:=h;rfl)) (fun cdv A outer s H vs Q E hr h=>?_)
 obtain⟨a,k,ns,rfl,hA,k0,kk⟩:=h
 refine⟨_,(z6 (qG (qp cT (pv 1) (qZ (qT (K:=K) rfl) rfl T.xY PySem.boot_len (z4 (pv 0) z7)) (qr _))
    (z9 (qy (qk qE (qo (qf (K:=K) rfl) (pv 0) (pv 1) (fun _ _=>rfl)) z8))) qm)
   (z9 (qy z8))),?_⟩
 refine⟨_,rfl,_,rfl,a,_,rfl,.inl hA,_,_,rfl,rfl,_,rfl,?_⟩
 rw[List.length_map]
 refine jy (fun h1=>?_) (fun h1=>?_)
 ·have h1':=of_decide_eq_true h1
  rw[show kT ns k=ns.getD k.toNat 0 % 1000000000000000000000007 from if_pos h1'] at kk
  walk_at "rd"
  exact kk
 ·have h1':¬k < (ns.length:Int):=fun q=>h1 (decide_eq_true q)
  rw[show kT ns k=0 from if_neg h1'] at kk
  walk_at "rd"
  exact kk
theorem nJ:qQ ["_law_cell","_law_k","_law_number"] ["_law_cell","_law_k"] (z5 wY):=⟨rfl,rfl,rfl,by decide +kernel,rfl,by decide +kernel,by decide +kernel⟩
set_option maxHeartbeats 400000 in
theorem fY (T:Txt K mg t):qJ P w K mg base jX 1 t.gK t.gh ["_law_cell","_law_k"] sN:=by
 refine T.jl.fn.ok nJ (fun vs H Q E h=>(by obtain⟨_,_,rfl,_⟩:=h;rfl)) (fun cdv A outer s H vs Q E hr h=>?_)
 obtain⟨c,k,rfl,k0,k1,kk⟩:=h
 refine⟨_,(z6 (qi (i:=2) nJ.nd rfl (Or.inl rfl) (qk qE (qk jI (qk qE (pv 0) z8) (qk d9 z8 (qk jI (pv 1) z8))) z8))
   (z9 (qy (qk kY (qk qE (qk d9 (qk qE (qk d9 (pv 2) (pv 2)) z8) z8) z8) z8)))),?_⟩
 walk_at "rd"
 exact kk
theorem ji:qQ ["_law_cell","_law_k","_law_letters","_law_heads","_law_tail","_law_size","_law_at","_law_other","_law_name_here","_law_j","_law_letter"] ["_law_cell","_law_k"] (z5 vp):=⟨rfl,rfl,rfl,by decide +kernel,rfl,by decide +kernel,by decide +kernel⟩
set_option maxHeartbeats 400000 in
theorem aZ (T:Txt K mg t):qJ P w K mg base jX 2 t.fG t.mv ["_law_cell","_law_k"] iR:=by
 have G_w_mix:qJ P w K mg base jX 1 t.gK t.gh ["_law_cell","_law_k"] sN:=(fY T).mono (by decide)
 refine T.cK.fn.ok ji (fun vs H Q E h=>(by obtain⟨_,_,rfl,_⟩:=h;rfl)) (fun cdv A outer s H vs Q E hr h=>?_)
 obtain⟨c,k,rfl,c0,c1,k0,k1,kk⟩:=h
 refine⟨_,(z6 (qi (i:=2) ji.nd rfl (Or.inl rfl) qj)
   (z6 (PS.join (qG (PW.pt (mR (qp jh (qk qE (pv 0) z8) z8 (qr _)) (bN (qp cT (pv 1) z8 (qr _)))))
    (z9 (qy (qo bP qj (pv 1) (fun _ _=>rfl)))) qm))
   (z6 (qG (qp jh (qk qE (pv 0) z8) z8 (qr _))
    (z6 (qi (i:=3) ji.nd rfl (Or.inl rfl) (jx (z4 qj (z4 qj (z4 qj (z4 qj (z4 qj (z4 qj (z4 qj (z4 qj (z4 qj (z4 qj (z4 qj (z4 qj z7))))))))))))) bO)
   (z9 (qy (qk ql (qk ql (qo (qf (K:=K) rfl) (pv 3) (qk qE (qk kY (pv 0) z8) z8) (fun _ _=>rfl)) (qo bP qj (qk qE (pv 1) z8) (fun _ _=>rfl))) (qo bP (pv 2) (qk qE (qk kY (pv 1) z8) z8) (fun _ _=>rfl)))))) qm)
   (z6 (qi (i:=4) ji.nd rfl (Or.inl rfl) qj)
   (z6 (PS.join (qG (PW.pt (mR (qp jh (qk qE (pv 0) z8) z8 (qr _)) (bN (qp jh (qk qE (pv 1) z8) z8 (qr _)))))
    (z6 (qi (i:=4) ji.nd rfl (Or.inl rfl) (qo bP (pv 2) (qk qE (qk kY (pv 0) z8) z8) (fun _ _=>rfl)))
   (z9 (qi (i:=1) ji.nd rfl (Or.inl rfl) (qk fz (pv 1) z8)))) qm))
   (z6 (qi (i:=5) ji.nd rfl (Or.inl rfl) (qk jI z8 (qk qE (qk kY (pv 0) z8) (qk fz z8 (jB wG rfl T.fH PyProof.Rows.boot_int (z4 (kg jh (qk qE (pv 0) z8) z8 (qr _)) z7))))))
   (z6 (qi (i:=6) ji.nd rfl (Or.inl rfl) (qk qE (qk kY (pv 0) z8) (pv 5)))
   (z6 (qi (i:=7) ji.nd rfl (Or.inl rfl) (qk qE (qk jI (qk jI (pv 6) z8) (qk qE (qk kY (pv 0) z8) (qk fz (pv 5) z8))) (pv 5)))
   (z6 (qi (i:=8) ji.nd rfl (Or.inl rfl) qj)
   (z6 (pN PassesOwn.never rfl (wF rfl T.yr (z4 (pv 5) z7)) (kh (i:=9) ji.nd rfl (Or.inl rfl))
    (z6 (qi (i:=10) ji.nd rfl (Or.inl rfl) (qo bP (pv 2) (qk qE (qu G_w_mix hr rfl T.jl.mg T.jl.fn.kp T.jl.bd .nil qX (z4 (pv 0) (z4 (pv 9) z7))) z8) (fun _ _=>rfl)))
   (z6 (PS.join (qG (qp jh (pv 9) (pv 6) (qr _))
    (z9 (qi (i:=10) ji.nd rfl (Or.inl rfl) (qo bP qj (qk qE (pv 1) z8) (fun _ _=>rfl)))) qm))
   (z6 (PS.join (qG (qp jh (pv 9) (pv 7) (qr _))
    (z9 (qi (i:=10) ji.nd rfl (Or.inl rfl) (qo bP (pv 2) (qk qE (qk jI (qk kY (pv 1) z8) (qk kY (pv 0) z8)) z8) (fun _ _=>rfl)))) qm))
   (z9 (qi (i:=8) ji.nd rfl (Or.inl rfl) (qk ql (pv 8) (pv 10))))))))
   (z9 (qy (qk ql (pv 8) (pv 4)))))))))))))),?_⟩
 have hs:(Str.ofString "fgjkqvxz").length=8:=iM.1
 have hl:(Str.ofString "abcdefghijklmnopqrstuvwxyz").length=26:=dN.1
 have k8:0≤k % 8:=Int.emod_nonneg _ (by decide)
 have k8':k % 8 < 8:=Int.emod_lt_of_pos _ (by decide)
 walk_at "rd"
 refine⟨fun σ' H'=>(σ'=[some (.int c),some (.int k),some (.str (Str.ofString "abcdefghijklmnopqrstuvwxyz")),none,none,none,none,none,none,none,none]∧H'=H∧¬(c % 12=5∧k < 8))∨False,?_,?_⟩
 ·walk_at "rd"
  refine jy (fun h1=>?_) (fun h1=>.inl ⟨rfl,rfl,fun q=>h1 (u4 q.1)⟩)
  walk_at "rd"
  refine jy (fun h2=>?_) (fun h2=>.inl ⟨rfl,rfl,fun q=>h2 (decide_eq_true q.2)⟩)
  have h2':k < 8:=of_decide_eq_true h2
  walk_at "rd"
  have em:(⟨#[(Str.ofString "fgjkqvxz").cps.toList.getD k.toNat 0]⟩:Str)=wV c k:=by
   refine xx ?_
   rw[bE]
   unfold uQ
   rw[if_pos ⟨u5 h1,h2'⟩,show (Str.ofString "fgjkqvxz").cps.toList=aO from iM.2,show k % 8=k by omega]
   rfl
  rw[em]
  exact kk _ (qg.refl _)
 intro σ' H' q
 obtain⟨rfl,rfl,hA⟩:=q.resolve_right fun z=>z
 walk_at "rd"
 refine jy (fun h1=>?_) (fun h1=>?_)
 ·have e7:c % 12=7:=u5 h1
  walk_at "rd"
  intro lh H1 s1 hlh e1
  have e2:H1 lh=some (.lst (yj.map V.str)):=e1
  clear e1
  have hk:yj.length=12:=rfl
  have b0:0≤c / 12 % 12:=Int.emod_nonneg _ (by decide)
  have b1:c / 12 % 12 < 12:=Int.emod_lt_of_pos _ (by decide)
  have b2:0≤k / 8 % 26:=Int.emod_nonneg _ (by decide)
  have b3:k / 8 % 26 < 26:=Int.emod_lt_of_pos _ (by decide)
  obtain⟨g1,g2,g3⟩:=sR _ (p7 (ws:=yj) (i:=(c / 12 % 12).toNat) (by omega))
  walk_at "rd"
  rw[show (yj.getD (c / 12 % 12).toNat (Str.ofString "") ++ (⟨#[(Str.ofString "fgjkqvxz").cps.toList.getD (k % 8).toNat 0]⟩:Str) ++ (⟨#[(Str.ofString "abcdefghijklmnopqrstuvwxyz").cps.toList.getD (k / 8 % 26).toNat 0]⟩:Str))=wV c k from by
   refine xx ?_
   rw[cps_append,cps_append,bE]
   unfold uQ
   rw[if_neg hA,if_pos e7,List.append_assoc,show (Str.ofString "fgjkqvxz").cps.toList=aO from iM.2]
   rfl]
  exact kk H1 (by walk_at "sm")
 have n7:¬c % 12=7:=fun q=>h1 (u4 q)
 walk_at "rd"
 refine⟨fun σ' H2=>(∃(tl:Str) (k':Int),σ'=[some (.int c),some (.int k'),some (.str (Str.ofString "abcdefghijklmnopqrstuvwxyz")),none,some (.str tl),none,none,none,none,none,none]∧H2=H'∧V0 c k k' tl)∨False,?_,?_⟩
 ·walk_at "rd"
  refine jy (fun h2=>?_) (fun h2=>.inl ⟨_,_,rfl,rfl,.inr ⟨fun q=>h2 (u4 q.1),rfl,rfl⟩⟩)
  walk_at "rd"
  refine jy (fun h3=>?_) (fun h3=>.inl ⟨_,_,rfl,rfl,.inr ⟨fun q=>h3 (u4 q.2),rfl,rfl⟩⟩)
  have b2:0≤c / 3 % 26:=Int.emod_nonneg _ (by decide)
  have b3:c / 3 % 26 < 26:=Int.emod_lt_of_pos _ (by decide)
  walk_at "rd"
  exact .inl ⟨_,_,rfl,rfl,.inl ⟨u5 h2,u5 h3,rfl,rfl⟩⟩
 intro σ' H2 q
 obtain⟨tl,k',rfl,rfl,hT⟩:=q.resolve_right fun z=>z
 clear q
 have z1:=nz c
 have a1:=ez c
 have o1:=QN c
 have k'0:0≤k'∧k' < 208:=by rcases hT with ⟨_,_,e,_⟩ | ⟨_,e,_⟩<;>omega
 walk_at "rd"
 refine .inr ⟨_,rfl,_,_,rfl,rfl,_,_,rfl,rfl,eM _,_,_,rfl,rfl,?_⟩
 show cO 5 (V.int (2 + c / 81 % (7 - (if decide (V.int (c % 3)=V.int 1)=true then (1:Int) else 0)))) _ _ _
 rw[Wi c]
 walk_at "rd"
 refine pk (lo:=0) (n:=(uK c).toNat) (fun i σ H3=>∃(x:Str) (v9 v10:Option V),σ=[some (.int c),some (.int k'),some (.str (Str.ofString "abcdefghijklmnopqrstuvwxyz")),none,some (.str tl),some (.int (uK c)),some (.int (aI c)),some (.int (Jq c)),some (.str x),v9,v10]∧H3=H2∧x.cps.toList=(List.range i).map (Jz c k')∧(i=i∨False))
  ⟨"",none,none,rfl,rfl,(show ("" : Str).cps.toList=[] from by decide +kernel),.inl rfl⟩ ?_ ?_
 ·rintro i σ H3 hi ⟨x,v9,v10,rfl,rfl,hx,_⟩
  have k'8:0≤k' % 8:=Int.emod_nonneg _ (by decide)
  have k'8':k' % 8 < 8:=Int.emod_lt_of_pos _ (by decide)
  have em:(Str.ofString "fgjkqvxz").cps.toList.getD (k' % 8).toNat 0=nT (k' % 8):=by
   rw[show (Str.ofString "fgjkqvxz").cps.toList=aO from iM.2];rfl
  have b0:0≤(k' / 8 + c / 7) % 26:=Int.emod_nonneg _ (by decide)
  have b1:(k' / 8 + c / 7) % 26 < 26:=Int.emod_lt_of_pos _ (by decide)
  have bm:=rS c (0 + (i:Int))
  walk_at "rd"
  refine⟨fun σ' H'=>(∃ch:Nat,σ'=[some (.int c),some (.int k'),some (.str (Str.ofString "abcdefghijklmnopqrstuvwxyz")),none,some (.str tl),some (.int (uK c)),some (.int (aI c)),some (.int (Jq c)),some (.str x),some (.int (0 + (i:Int))),some (.str ⟨#[ch]⟩)]∧H'=H3∧ch=(if (i:Int)=aI c then nT (k' % 8) else uf (yb c i)))∨False,?_,?_⟩
  ·walk_at "rd"
   refine jy (fun h2=>?_) (fun h2=>.inl ⟨_,rfl,rfl,?_⟩)
   ·have h2':=u5 h2
    walk_at "rd"
    exact .inl ⟨_,rfl,rfl,by rw[if_pos (by omega)];exact em⟩
   ·rw[if_neg (fun q=>h2 (u4 (by omega))),Int.zero_add]
    rfl
  intro σ' H' q
  obtain⟨ch,rfl,rfl,m1⟩:=q.resolve_right fun z=>z
  clear q
  refine⟨fun σ' H3=>(∃ch:Nat,σ'=[some (.int c),some (.int k'),some (.str (Str.ofString "abcdefghijklmnopqrstuvwxyz")),none,some (.str tl),some (.int (uK c)),some (.int (aI c)),some (.int (Jq c)),some (.str x),some (.int (0 + (i:Int))),some (.str ⟨#[ch]⟩)]∧H3=H'∧ch=Jz c k' i)∨False,?_,?_⟩
  ·walk_at "rd"
   refine jy (fun h2=>?_) (fun h2=>.inl ⟨_,rfl,rfl,?_⟩)
   ·have h2':=u5 h2
    walk_at "rd"
    exact .inl ⟨_,rfl,rfl,by unfold Jz;rw[if_pos (by omega)];rfl⟩
   ·unfold Jz
    rw[if_neg (fun q=>h2 (u4 (by omega)))]
    exact m1
  intro σ' H3 q
  obtain⟨ch,rfl,rfl,m1⟩:=q.resolve_right fun z=>z
  clear q
  have hx9:x.length≤8:=by
   have:=congrArg List.length hx
   rw[List.length_map,List.length_range] at this
   (have e:x.cps.toList.length=x.length:=by simp [Str.length])
   omega
  walk_at "rd"
  refine⟨?_,.inl rfl⟩
  rw[cps_append,hx,List.range_succ,List.map_append,m1]
  rfl
 ·rintro σ H3 ⟨x,v9,v10,rfl,rfl,hx,_⟩
  have e:x ++ tl=wV c k:=by
   refine xx ?_
   rw[cps_append,bE]
   unfold uQ
   rw[if_neg hA,if_neg n7]
   rcases hT with ⟨e1,e2,e3,e4⟩ | ⟨e1,e2,e3⟩
   ·rw[if_pos ⟨e1,e2⟩,e4,hx,e3];rfl
   ·rw[if_neg e1,e3,hx,e2,show ("" : Str).cps.toList=[] from by decide +kernel,List.append_nil];rfl
  have hx9:x.length≤8:=by
   have:=congrArg List.length hx
   rw[List.length_map,List.length_range] at this
   (have e:x.cps.toList.length=x.length:=by simp [Str.length])
   omega
  have hT9:tl.length≤1:=by
   rcases hT with ⟨_,_,_,e⟩ | ⟨_,_,e⟩
   ·have:=congrArg List.length e
    have e':tl.cps.toList.length=tl.length:=by simp [Str.length]
    rw[e'] at this;simp only[List.length_cons,List.length_nil] at this;omega
   ·rw[e];decide +kernel
  walk_at "rd"
  rw[e]
  exact kk _ (qg.refl _)
end
theorem YI:qD.cps.toList.Nodup:=by decide +kernel
theorem Gn:aO.Nodup:=by decide +kernel
theorem getD_inj {L:List Nat} (h:L.Nodup) {i j:Nat} (hi:i < L.length) (hj:j < L.length) (e:L.getD i 0=L.getD j 0):i=j:=by
 rw[List.getD_eq_getElem?_getD,List.getD_eq_getElem?_getD,List.getElem?_eq_getElem hi,List.getElem?_eq_getElem hj] at e
 have e':L[i]=L[j]:=e
 have hp:=List.nodup_iff_pairwise_ne.mp h
 rcases Nat.lt_trichotomy i j with q | q | q
 ·exact absurd e' (List.pairwise_iff_getElem.mp hp i j hi hj q)
 ·exact q
 ·exact absurd e'.symm (List.pairwise_iff_getElem.mp hp j i hj hi q)
theorem nX {a b:Int} (e:uf a=uf b):a % 26=b % 26:=by
 have a0:0≤a % 26:=Int.emod_nonneg _ (by decide)
 have a1:a % 26 < 26:=Int.emod_lt_of_pos _ (by decide)
 have b0:0≤b % 26:=Int.emod_nonneg _ (by decide)
 have b1:b % 26 < 26:=Int.emod_lt_of_pos _ (by decide)
 have:=getD_inj YI (i:=(a % 26).toNat) (j:=(b % 26).toNat) (by rw[dN.2];omega) (by rw[dN.2];omega) e
 omega
theorem lT {a b:Int} (e:nT (a % 8)=nT (b % 8)):a % 8=b % 8:=by
 have a0:0≤a % 8:=Int.emod_nonneg _ (by decide)
 have a1:a % 8 < 8:=Int.emod_lt_of_pos _ (by decide)
 have b0:0≤b % 8:=Int.emod_nonneg _ (by decide)
 have b1:b % 8 < 8:=Int.emod_lt_of_pos _ (by decide)
 have:=getD_inj Gn (i:=(a % 8).toNat) (j:=(b % 8).toNat) (by show _ < 8;omega) (by show _ < 8;omega) e
 omega
theorem vD (c k:Int):(fg c k).length=(uK c).toNat:=by unfold fg;rw[List.length_map,List.length_range]
theorem sJ (c k:Int):(fg c k)[(aI c).toNat]?=some (nT (k % 8)):=by
 have a1:=ez c
 have o1:=QN c
 unfold fg
 rw[List.getElem?_map,List.getElem?_range (by omega)]
 show some (Jz c k (aI c).toNat)=_
 unfold Jz
 rw[if_neg (by omega),if_pos (by omega)]
theorem ZC (c k:Int):(fg c k)[(Jq c).toNat]?=some (uf (k / 8 + c / 7)):=by
 have o1:=QN c
 unfold fg
 rw[List.getElem?_map,List.getElem?_range (by omega)]
 show some (Jz c k (Jq c).toNat)=_
 unfold Jz
 rw[if_pos (by omega)]
theorem iO (c k:Int):∀x∈fg c k,x∈qD.cps.toList:=by
 intro x hx
 unfold fg at hx
 obtain⟨j,_,rfl⟩:=List.mem_map.mp hx
 unfold Jz
 split
 ·exact dU _
 ·split
  ·exact oK _ (gy k)
  ·exact dU _
theorem d7 {c k1 k2:Int} (h1:0≤k1∧k1 < 208) (h2:0≤k2∧k2 < 208) (e:fg c k1=fg c k2):k1=k2:=by
 have e1:=sJ c k1
 rw[e,sJ c k2] at e1
 have e2:=ZC c k1
 rw[e,ZC c k2] at e2
 have f1:=lT (Option.some.inj e1)
 have f2:=nX (Option.some.inj e2)
 omega
theorem gU (c:Int) {k:Int}:qe (wV c k)=true:=by
 have z1:=nz c
 have a1:=ez c
 have len:(wV c k).length=(uQ c k).length:=by rw[←bE];simp [Str.length]
 have key:1≤(uQ c k).length∧(uQ c k).length≤8∧(∀x∈uQ c k,x∈qD.cps.toList)∧∃x∈uQ c k,x∈aO:=by
  unfold uQ
  split
  ·exact⟨by simp,by simp,fun x hx=>by rw[List.mem_singleton.mp hx];exact oK _ (gy k),_,List.mem_singleton.mpr rfl,gy k⟩
  ·split
   ·have b0:0≤c / 12 % 12:=Int.emod_nonneg _ (by decide)
    have b1:c / 12 % 12 < 12:=Int.emod_lt_of_pos _ (by decide)
    obtain⟨g1,g2,g3⟩:=sR _ (p7 (ws:=yj) (i:=(c / 12 % 12).toNat) (by show _ < 12;omega))
    have e:(yj.getD (c / 12 % 12).toNat "").cps.toList.length=(yj.getD (c / 12 % 12).toNat "").length:=by simp [Str.length]
    refine⟨by rw[List.length_append];simp only[List.length_cons,List.length_nil];omega,by rw[List.length_append];simp only[List.length_cons,List.length_nil];omega,fun x hx=>?_,nT (k % 8),by simp,gy k⟩
    (rcases List.mem_append.mp hx with hx | hx)
    ·exact g3 x hx
    ·simp only[List.mem_cons,List.not_mem_nil,or_false] at hx
     rcases hx with rfl | rfl
     ·exact oK _ (gy k)
     ·exact dU _
   ·split
    ·rename_i h
     have:=z1.2.2 h.1
     refine⟨by rw[List.length_append,vD];simp only[List.length_cons,List.length_nil];omega,by rw[List.length_append,vD];simp only[List.length_cons,List.length_nil];omega,fun x hx=>?_,nT ((k - 1) % 8),List.mem_append_left _ (List.mem_of_getElem? (sJ c (k - 1))),gy _⟩
     (rcases List.mem_append.mp hx with hx | hx)
     ·exact iO _ _ x hx
     ·rw[List.mem_singleton.mp hx];exact dU _
    ·exact⟨by rw[vD];omega,by rw[vD];omega,iO c k,nT (k % 8),List.mem_of_getElem? (sJ c k),gy k⟩
 exact Xv (by rw[len];exact key.1) (by rw[len];exact key.2.1) key.2.2.1 key.2.2.2
theorem Jl {c k:Int} (h:c % 12=5) (q:k < 8):uQ c k=[nT (k % 8)]:=by unfold uQ;rw[if_pos ⟨h,q⟩]
theorem iW {c k:Int} (h:c % 12=5) (q:¬k < 8):uQ c k=fg c k:=by unfold uQ;rw[if_neg (fun z=>q z.2),if_neg (by omega),if_neg (by omega)]
theorem Wo {c k:Int} (h:c % 12=7):uQ c k=(yj.getD (c / 12 % 12).toNat "").cps.toList ++ [nT (k % 8),uf (k / 8)]:=by unfold uQ;rw[if_neg (by omega),if_pos h]
theorem Xw {c k:Int} (h:¬c % 12=5) (h7:¬c % 12=7) (h3:c % 3=1) (q:k % 2=1):uQ c k=fg c (k - 1) ++ [uf (c / 3)]:=by unfold uQ;rw[if_neg (fun z=>h z.1),if_neg h7,if_pos ⟨h3,q⟩]
theorem aD {c k:Int} (h:¬c % 12=5) (h7:¬c % 12=7) (q:¬(c % 3=1∧k % 2=1)):uQ c k=fg c k:=by unfold uQ;rw[if_neg (fun z=>h z.1),if_neg h7,if_neg q]
theorem KS {c k1 k2:Int} (h1:0≤k1∧k1 < 208) (h2:0≤k2∧k2 < 208) (e:wV c k1=wV c k2):k1=k2:=by
 have e':uQ c k1=uQ c k2:=by rw[←bE,←bE,e]
 have z1:=nz c
 have el:=congrArg List.length e'
 by_cases c5:c % 12=5
 ·by_cases q1:k1 < 8<;>by_cases q2:k2 < 8
  ·rw[Jl c5 q1,Jl c5 q2] at e'
   have:=lT (List.cons.inj e').1
   omega
  ·rw[Jl c5 q1,iW c5 q2,vD] at el
   simp only[List.length_cons,List.length_nil] at el
   omega
  ·rw[iW c5 q1,Jl c5 q2,vD] at el
   simp only[List.length_cons,List.length_nil] at el
   omega
  ·rw[iW c5 q1,iW c5 q2] at e'
   exact d7 h1 h2 e'
 by_cases c7:c % 12=7
 ·rw[Wo c7,Wo c7] at e'
  have:=List.append_cancel_left e'
  obtain⟨f1,f2⟩:=List.cons.inj this
  have g1:=lT f1
  have g2:=nX (List.cons.inj f2).1
  omega
 by_cases c3:c % 3=1
 ·by_cases q1:k1 % 2=1<;>by_cases q2:k2 % 2=1
  ·rw[Xw c5 c7 c3 q1,Xw c5 c7 c3 q2] at e'
   have:=d7 (by omega) (by omega) (List.append_cancel_right e')
   omega
  ·rw[Xw c5 c7 c3 q1,aD c5 c7 (fun z=>q2 z.2),List.length_append,vD,vD] at el
   simp only[List.length_cons,List.length_nil] at el
   omega
  ·rw[aD c5 c7 (fun z=>q1 z.2),Xw c5 c7 c3 q2,List.length_append,vD,vD] at el
   simp only[List.length_cons,List.length_nil] at el
   omega
  ·rw[aD c5 c7 (fun z=>q1 z.2),aD c5 c7 (fun z=>q2 z.2)] at e'
   exact d7 h1 h2 e'
 ·rw[aD c5 c7 (fun z=>c3 z.1),aD c5 c7 (fun z=>c3 z.1)] at e'
  exact d7 h1 h2 e'
section
variable {P:Program} {w:World} {K:PySem.W.Frag} {mg:Str→Option Value} {base:Heap} {t:xh}
end
theorem Jd:("; " : Str)=⟨#[59,32]⟩:=by decide +kernel
theorem ZN:("; " : Str).cps.toList=[59,32]:=by decide +kernel
noncomputable def WQ (l:List Nat):Prop:=∀j:Nat,l[j]?=some 59→l[j + 1]?=some 32→False
theorem QO {x:Str} {i:Nat} (h1:x.cps.toList[i]?=some 59) (h2:x.cps.toList[i + 1]?=some 32):StrLaws.At x ⟨#[59,32]⟩ x.length i:=by
 obtain⟨g1,e1⟩:=List.getElem?_eq_some_iff.mp h1
 obtain⟨g2,e2⟩:=List.getElem?_eq_some_iff.mp h2
 have hl:x.cps.toList.length=x.length:=by simp [Str.length]
 refine⟨by show i + 2≤x.length;omega,?_⟩
 rw[StrLaws.subAt_eq]
 show ((x.cps.toList.drop i).take 2 == [59,32])=true
 rw[List.drop_eq_getElem_cons g1,List.drop_eq_getElem_cons g2,e1,e2]
 rfl
theorem nG {x:Str} {a b:Nat} (hn:∀k,a≤k→k < b→¬StrLaws.At x ⟨#[59,32]⟩ x.length k):WQ (Builtin.Str.strSub x a b).cps.toList:=by
 intro j h1 h2
 rw[StrLaws.strSub_toList] at h1 h2
 have hj:j + 1 < b - a:=by
  have:=(List.getElem?_eq_some_iff.mp h2).1
  rw[List.length_take] at this
  omega
 rw[List.getElem?_take_of_lt (by omega),List.getElem?_drop] at h1
 rw[List.getElem?_take_of_lt hj,List.getElem?_drop] at h2
 exact hn (a + j) (by omega) (by omega) (QO h1 (by rw[Nat.add_assoc];exact h2))
theorem rW {x:Str}:∀{cuts:List Nat} {a f:Nat},StrLaws.ChainG x ⟨#[59,32]⟩ x.length a cuts f→(∀k,f≤k→¬StrLaws.At x ⟨#[59,32]⟩ x.length k)→∀p∈StrLaws.partsFrom x 2 a cuts,WQ p.cps.toList
 | [],a,f,h,hn,y,hy=>by
  obtain rfl:f=a:=h
  rw[List.mem_singleton.mp hy]
  exact nG fun k h1 _=>hn k h1
 | d :: r,a,f,h,hn,y,hy=>by
  rcases List.mem_cons.mp hy with rfl | hy'
  ·exact nG h.2.2.1
  ·exact rW h.2.2.2 hn y hy'
theorem aT (x:Str):∀p∈Txt.split x ⟨#[59,32]⟩,WQ p.cps.toList:=by
 obtain⟨f,hG,hn⟩:=StrLaws.occ_tight x ⟨#[59,32]⟩ (by show 1≤2;decide)
 intro p hp
 have whole:(∀k,¬StrLaws.At x ⟨#[59,32]⟩ x.length k)→WQ x.cps.toList:=fun h j h1 h2=>h j (QO h1 h2)
 unfold Txt.split at hp
 split at hp
 ·rename_i hc
  rw[List.mem_singleton.mp hp]
  refine whole fun k hA=>?_
  (rw[Bool.or_eq_true,decide_eq_true_eq,decide_eq_true_eq] at hc)
  rcases hc with q | q
  ·have:=hA.1;omega
  ·have e:Builtin.Str.strKind ⟨#[59,32]⟩=1:=by decide +kernel
   rw[e] at q
   unfold Builtin.Str.strKind at q
   split at q
   ·omega
   ·split at q<;>omega
 ·split at hp
  ·rename_i he
   rw[List.mem_singleton.mp hp]
   rw[List.isEmpty_iff.mp he] at hG
   obtain rfl:f=0:=hG
   exact whole fun k=>hn k (Nat.zero_le _)
  ·rw[StrLaws.partsBetween_eq] at hp
   exact rW hG hn p hp
noncomputable def G2 (l:List Nat):Prop:=∀j:Nat,l[j]?=some 59→l[j + 1]?=some 32
theorem G2.free {l:List Nat} (h:59∉l):G2 l:=fun j e=>absurd (List.mem_of_getElem? e) h
theorem yw (x y:Str) (r:List Str):(Str.join "; " (x :: y :: r)).cps.toList=x.cps.toList ++ 59 :: 32 :: (Str.join "; " (y :: r)).cps.toList:=by
 rw[nH,cps_append,cps_append,ZN]
 simp
theorem G2.glue {x l:List Nat} (hx:59∉x) (hl:G2 l):G2 (x ++ 59 :: 32 :: l):=by
 intro j e
 by_cases q:j < x.length
 ·rw[List.getElem?_append_left q] at e
  exact absurd (List.mem_of_getElem? e) hx
 ·rw[List.getElem?_append_right (by omega)] at e ⊢
  rw[show j + 1 - x.length=(j - x.length) + 1 by omega]
  generalize j - x.length=i at e ⊢
  match i,e with
  | 0,_=>rfl
  | 1,e=>cases e
  | i + 2,e=>exact hl i e
theorem G2.join:∀{rows:List Str},(∀x∈rows,59∉x.cps.toList)→G2 (Str.join "; " rows).cps.toList
 | [],_=>G2.free (by decide +kernel)
 | [x],h=>by rw[L2.join_one];exact G2.free (h x (by simp))
 | x :: y :: r,h=>by
  rw[yw]
  exact G2.glue (h x (by simp)) (G2.join fun z hz=>h z (List.mem_cons_of_mem _ hz))
theorem cI:∀{ps:List Str},G2 (Str.join "; " ps).cps.toList→(∀p∈ps,WQ p.cps.toList)→∀p∈ps,59∉p.cps.toList
 | [],_,_,p,hp=>by cases hp
 | [x],h,hn,p,hp=>by
  rw[L2.join_one] at h
  rw[List.mem_singleton.mp hp]
  intro hm
  (obtain⟨j,hj⟩:=List.getElem?_of_mem hm)
  exact hn x (by simp) j hj (h j hj)
 | x :: y :: r,h,hn,p,hp=>by
  rw[yw] at h
  have h':G2 (Str.join "; " (y :: r)).cps.toList:=fun j e=>by
   have:=h (x.cps.toList.length + (j + 2)) (by rw[List.getElem?_append_right (by omega),Nat.add_sub_cancel_left];exact e)
   rw[List.getElem?_append_right (by omega),show x.cps.toList.length + (j + 2) + 1 - x.cps.toList.length=j + 1 + 2 by omega] at this
   exact this
  (rcases List.mem_cons.mp hp with rfl | hp)
  ·intro hm
   (obtain⟨j,hj⟩:=List.getElem?_of_mem hm)
   have hjl:=(List.getElem?_eq_some_iff.mp hj).1
   have e:=h j (by rw[List.getElem?_append_left hjl];exact hj)
   by_cases q:j + 1 < p.cps.toList.length
   ·rw[List.getElem?_append_left q] at e
    exact hn p (by simp) j hj e
   ·rw[List.getElem?_append_right (by omega),show j + 1 - p.cps.toList.length=0 by omega] at e
    cases e
  ·exact cI h' (fun z hz=>hn z (List.mem_cons_of_mem _ hz)) p hp
theorem u7:∀{as bs:List Str},as≠[]→bs≠[]→(∀x∈as,59∉x.cps.toList)→(∀x∈bs,59∉x.cps.toList)→Str.join "; " as=Str.join "; " bs→as=bs
 | [],_,h,_,_,_,_=>absurd rfl h
 | _ :: _,[],_,h,_,_,_=>absurd rfl h
 | [a],[b],_,_,_,_,e=>by rw[show a=b from e]
 | [a],b :: b' :: r,_,_,ha,_,e=>by
  have e':=congrArg (fun z=>z.cps.toList) e
  simp only[yw,L2.join_one] at e'
  exact absurd (by rw[e'];simp) (ha a (by simp))
 | a :: a' :: r,[b],_,_,_,hb,e=>by
  have e':=congrArg (fun z=>z.cps.toList) e
  simp only[yw,L2.join_one] at e'
  exact absurd (by rw[←e'];simp) (hb b (by simp))
 | a :: a' :: r,b :: b' :: r',_,_,ha,hb,e=>by
  have e':=congrArg (fun z=>z.cps.toList) e
  simp only[yw] at e'
  obtain⟨e1,e2⟩:=dY (ha a (by simp)) (hb b (by simp)) e'
  have:=u7 (as:=a' :: r) (bs:=b' :: r') (by simp) (by simp) (fun x hx=>ha x (List.mem_cons_of_mem _ hx)) (fun x hx=>hb x (List.mem_cons_of_mem _ hx)) (xx (List.cons.inj e2).2)
  rw[xx e1,this]
theorem av {rows:List Str} (h:rows≠[]) (hb:∀x∈rows,59∉x.cps.toList):Txt.split (Txt.join "; " rows) "; " = rows:=by
 rw[join_eq]
 have hj:Str.join "; " (Txt.split (Str.join "; " rows) "; ")=Str.join "; " rows:=StrLaws.join_split _ _
 refine(u7 h ?_ hb ?_ hj.symm).symm
 ·intro q
  have:=PyProof.Rows.split_pos (Str.join "; " rows) "; "
  rw[q] at this
  simp at this
 ·refine cI ?_ ?_
  ·rw[hj];exact G2.join hb
  ·rw[Jd];exact aT _
section
variable {P:Program} {w:World} {K:PySem.W.Frag} {mg:Str→Option Value} {base:Heap} {t:xh}
end
noncomputable def jG (ws:List Str):Str:=Txt.join " " ws
theorem b7 {x:Str} (h:qe x=true):32∉x.cps.toList:=(kq h).2.2.nb
theorem rO:∀x∈(["let","be","part","done","parties","acts","calm","sore","end"]:List Str),32∉x.cps.toList∧59∉x.cps.toList∧x.length≤7:=by decide +kernel
theorem Jw {a b:Str} (ha:qe a=true) (hb:qe b=true):pK [10,0,11,0] ["let",a,"be",b]:=.cons (.inr (.inr (.inr ⟨by decide,rfl⟩))) (.cons (.inl ⟨rfl,ha⟩) (.cons (.inr (.inr (.inr ⟨by decide,rfl⟩))) (.cons (.inl ⟨rfl,hb⟩) .nil)))
theorem QJ {n:Str} (h:qe n=true):pK [12,0] ["part",n]:=.cons (.inr (.inr (.inr ⟨by decide,rfl⟩))) (.cons (.inl ⟨rfl,h⟩) .nil)
theorem g8 {fr:List Fr} {r:Rw}:(push fr r).length=fr.length:=by
 cases fr with
 | nil=>rfl
 | cons f fr=>obtain⟨a,b,c⟩:=f;rfl
section
variable {P:Program} {w:World} {K:PySem.W.Frag} {mg:Str→Option Value} {base:Heap} {t:xh}
end
theorem sg {n:Int} (h1:1≤n) (h2:n < 10 ^ 20):Rt 1 (Str.ofString (toString n))∧gw (Str.ofString (toString n))=n∧Wk (Str.ofString (toString n))∧(Str.ofString (toString n)).length≤20:=by
 obtain⟨m,rfl⟩:=Int.eq_ofNat_of_zero_le (show 0≤n by omega)
 have e:=PySem.W.KIN.signs_num m
 have hg:=Zt (n:=(m:Int)) (by omega) (by omega)
 generalize hs:Str.ofString (toString ((m:Nat):Int))=s at *
 have hl:s.length=(Nat.toDigits 10 m).length:=by
  have:=congrArg List.length e
  rw[List.length_map] at this
  rw[←this]
  simp [Str.length]
 have hdig:PySem.NumText.AllDigits s.cps.toList:=by
  rw[e]
  intro c hc
  obtain⟨ch,hch,rfl⟩:=List.mem_map.mp hc
  have:=Nat.isDigit_of_mem_toDigits (b:=10) (by decide) (by decide) hch
  simp [Char.isDigit] at this
  exact⟨by have:=this.1;exact this,by have:=this.2;exact this⟩
 have hv:PySem.NumText.digitsVal s.cps.toList=m:=by rw[e];exact PySem.W.KIN.val_back m
 have hhead:s.cps.toList.head?≠some 48:=by
  intro q
  have ta:=PySem.NumText.toDigits_all s.cps.toList hdig
  rw[hv] at ta
  cases qc:s.cps.toList with
  | nil=>rw[qc] at q;cases q
  | cons c r=>
   rw[qc] at q ta hv
   have hc:c=48:=by simpa using q
   subst hc
   rw[List.dropWhile_cons] at ta
   have hlen:(Nat.toDigits 10 m).length=r.length + 1:=by
    rw[←hl]
    have:s.length=s.cps.toList.length:=by simp [Str.length]
    rw[this,qc];rfl
   have hd:(r.dropWhile (· == 48)).length≤r.length:=(List.dropWhile_sublist _).length_le
   cases qd:r.dropWhile (· == 48) with
   | nil=>
    simp only[show ((48:Nat) == 48)=true from rfl,if_true,qd] at ta
    rw[ta] at hlen
    have:r=[]:=by cases r;rfl;simp at hlen
    subst this
    have:PySem.NumText.digitsVal [48]=0:=rfl
    omega
   | cons d r'=>
    simp only[show ((48:Nat) == 48)=true from rfl,if_true,qd] at ta
    rw[ta,List.length_map] at hlen
    rw[qd] at hd
    omega
 have hlen20:s.length≤20:=by
  rw[hl]
  refine digits10_le (by decide) ?_
  exact_mod_cast h2
 have hw:g7 s ky 20=true:=by
  unfold g7
  rw[decide_eq_true hg.2.1,decide_eq_true (show (s.length:Int)≤20 by omega)]
  simp only[Bool.true_and]
  exact List.all_eq_true.mpr fun c hc=>by rw[tP];exact decide_eq_true (hdig c hc)
 have hn:gw s=(m:Int):=by
  unfold gw
  rw[if_pos ⟨hw,hhead⟩,hv]
 have nl:qe s=false:=by
  cases q:qe s with
  | false=>rfl
  | true=>rw[name_num q] at hn;omega
 refine⟨.inr (.inl ⟨rfl,nl,by rw[hn];omega,fun q=>?_⟩),hn,⟨hg.2.2,fun hc=>?_⟩,hlen20⟩
 ·rw[(dD s q).2] at hn;omega
 ·have:=hdig 32 hc;omega
theorem J4:∀x∈lits,(∀c∈x.cps.toList,c < 128)∧32∉x.cps.toList∧x.length≤4:=by decide +kernel
theorem rn {x:Str} (h:qe x=true):Rt 0 x:=.inl ⟨rfl,h⟩
theorem rl {x:Str} {k:Nat} (h:lits[k]?=some x):Rt (k + 3) x:=.inr (.inr (.inr ⟨by omega,by rw[Nat.add_sub_cancel];exact h⟩))
structure Wt (k:Nat) (x:Str):Prop where
 rt:Rt k x
 wk:Wk x
 len:x.length≤20
theorem wn {x:Str} (h:qe x=true):Wt 0 x:=⟨rn h,(kq h).2.2,by have:=(kq h).2.1;omega⟩
theorem wl {x:Str} {k:Nat} (h:lits[k]?=some x):Wt (k + 3) x:=by
 obtain⟨h1,h2,h3⟩:=J4 x (List.mem_of_getElem? h)
 exact⟨rl h,⟨h1,h2⟩,by omega⟩
noncomputable abbrev a9:List Nat→List Str→Prop:=Paired Wt
theorem a9.Va {ks:List Nat} {ws:List Str} (h:a9 ks ws):pK ks ws:=Paired.ZA h fun _ _ q=>q.rt
theorem a9.wk:∀{ks:List Nat} {ws:List Str},a9 ks ws→∀x∈ws,Wk x∧x.length≤20
 | _,_,.nil,x,hx=>by cases hx
 | _,_,.cons r t,x,hx=>by
  (rcases List.mem_cons.mp hx with rfl | hx)
  ·exact⟨r.wk,r.len⟩
  ·exact a9.wk t x hx
theorem JD {ks:List Nat} {ws:List Str} (r:pK ks ws) (h1:jF ks dj=false) (h2:jF ks bS=false) (h3:jF ks oP=false) (h4:jF ks mN=false):jZ ws=none:=by
 obtain⟨f1,f2,f3,f4,f5,f6⟩:=jT
 obtain⟨o1,o2,o3,o4,o5,o6⟩:=oj
 unfold jZ
 rw[if_neg (yx r o1 f1 h1),if_neg (yx r o2 f2 h2),if_neg (yx r o3 f3 h3),if_neg (yx r o4 f4 h4)]
noncomputable def oB (u:Str):Prop:=qe u=true∨u = "any"
theorem wu {u:Str} (h:oB u):∃k,(k=0∨k=3)∧Wt k u:=by
 rcases h with h | rfl
 ·exact⟨0,.inl rfl,wn h⟩
 ·exact⟨3,.inr rfl,wl (k:=0) rfl⟩
theorem tT {ks:List Nat} {ws:List Str} (r:pK ks ws) (h:jF (ks.take 2) u0=true):xU (ws.take 2) cP=true:=b8 (r.take 2) oj.2.2.2.2.2 jT.2.2.2.2.2 h
theorem mB:∀{rs:List Str},(∀x∈rs,qe x=true)→a9 (List.replicate rs.length 0) rs
 | [],_=>.nil
 | x :: r,h=>.cons (wn (h x (by simp))) (mB fun y hy=>h y (List.mem_cons_of_mem _ hy))
noncomputable def p6 (m:Nat):List Nat:=[12,0,13] ++ List.replicate m 0
noncomputable def XJ (m:Nat):Bool:=!jF (p6 m) dj && !jF (p6 m) bS && !jF (p6 m) oP && !jF (p6 m) mN && !jF (p6 m) JN && !XQ (p6 m) && jF ((p6 m).take 2) u0
theorem YM:∀m < 13,1≤m→XJ m=true:=by decide +kernel
inductive Ew where
 | lt (a b:Str)
 | mu (l w a:Str) (n:Int) (r:Str)
 | my (l w a:Str)
 | bn (l w a r:Str)
 | pw (l w a r:Str)
 | pt (n:Str) (rs:List Str)
 | dn
noncomputable def Ew.ws:Ew→List Str
 | .lt a b=>["let",a,"be",b]
 | .mu l w a n r=>[l,w,"must",a,"by",Str.ofString (toString n),"else",r]
 | .my l w a=>[l,w,"may",a]
 | .bn l w a r=>[l,w,"may","not",a,"else",r]
 | .pw l w a r=>[l,w,"by",a,"to",r]
 | .pt n []=>["part",n]
 | .pt n (x :: rs)=>"part" :: n :: "in" :: x :: rs
 | .dn=>["done"]
noncomputable def Ew.row (e:Ew):Str:=Txt.join " " e.ws
noncomputable def Ew.ok:Ew→Prop
 | .lt a b=>qe a=true∧qe b=true
 | .mu l w a n r=>qe l=true∧qe w=true∧qe a=true∧1≤n∧n < 10 ^ 20∧qe r=true
 | .my l w a=>qe l=true∧oB w∧qe a=true
 | .bn l w a r=>qe l=true∧oB w∧qe a=true∧qe r=true
 | .pw l w a r=>qe l=true∧oB w∧qe a=true∧qe r=true
 | .pt n rs=>qe n=true∧(∀x∈rs,qe x=true)∧rs.length≤12
 | .dn=>True
noncomputable def Ew.take (fr:List Fr) (ls:List Str):Ew→Option (List Fr × List Str)
 | .lt a b=>some (push fr (.lt a b),ls)
 | .mu l w a n r=>if l∈ls then none else some (push fr (.cl 0 l w a n r),ls ++ [l])
 | .my l w a=>if l∈ls then none else some (push fr (.cl 1 l w a 0 ""),ls ++ [l])
 | .bn l w a r=>if l∈ls then none else some (push fr (.cl 2 l w a 0 r),ls ++ [l])
 | .pw l w a r=>if l∈ls then none else some (push fr (.cl 3 l w a 0 r),ls ++ [l])
 | .pt n rs=>if fr.length=7∨n∈ls then none else some ((n,rs,[]) :: fr,ls ++ [n])
 | .dn=>match fr with
  | (n,rs,rows) :: (n2,rs2,rows2) :: fr'=>some ((n2,rs2,rows2 ++ [.pt n rs rows]) :: fr',ls)
  | _=>none
theorem Ew.G8:∀{e:Ew},e.ok→(∃ks,a9 ks e.ws)∨e=.dn
 | .lt a b,h=>.inl ⟨_,.cons (wl (k:=7) rfl) (.cons (wn h.1) (.cons (wl (k:=8) rfl) (.cons (wn h.2) .nil)))⟩
 | .mu l w a n r,h=>by
  obtain⟨t1,t2,t3,t4⟩:=sg h.2.2.2.1 h.2.2.2.2.1
  exact .inl ⟨[0,0,4,0,7,1,8,0],.cons (wn h.1) (.cons (wn h.2.1) (.cons (wl (k:=1) rfl) (.cons (wn h.2.2.1) (.cons (wl (k:=4) rfl) (.cons ⟨t1,t3,t4⟩ (.cons (wl (k:=5) rfl) (.cons (wn h.2.2.2.2.2) .nil)))))))⟩
 | .my l w a,h=>by
  obtain⟨k,hk,hw⟩:=wu h.2.1
  exact .inl ⟨[0,k,5,0],.cons (wn h.1) (.cons hw (.cons (wl (k:=2) rfl) (.cons (wn h.2.2) .nil)))⟩
 | .bn l w a r,h=>by
  obtain⟨k,hk,hw⟩:=wu h.2.1
  exact .inl ⟨[0,k,5,6,0,8,0],.cons (wn h.1) (.cons hw (.cons (wl (k:=2) rfl) (.cons (wl (k:=3) rfl) (.cons (wn h.2.2.1) (.cons (wl (k:=5) rfl) (.cons (wn h.2.2.2) .nil))))))⟩
 | .pw l w a r,h=>by
  obtain⟨k,hk,hw⟩:=wu h.2.1
  exact .inl ⟨[0,k,7,0,9,0],.cons (wn h.1) (.cons hw (.cons (wl (k:=4) rfl) (.cons (wn h.2.2.1) (.cons (wl (k:=6) rfl) (.cons (wn h.2.2.2) .nil)))))⟩
 | .pt n [],h=>.inl ⟨_,.cons (wl (k:=9) rfl) (.cons (wn h.1) .nil)⟩
 | .pt n (x :: rs),h=>.inl ⟨_,.cons (wl (k:=9) rfl) (.cons (wn h.1) (.cons (wl (k:=10) rfl) (mB h.2.1)))⟩
 | .dn,_=>.inr rfl
theorem Ew.wk {e:Ew} (h:e.ok):∀x∈e.ws,Wk x∧x.length≤20:=by
 rcases Ew.G8 h with ⟨ks,w⟩ | rfl
 ·exact w.wk
 ·intro x hx
  simp only[Ew.ws,List.mem_cons,List.not_mem_nil,or_false] at hx
  subst hx
  exact⟨⟨by unfold asc;decide +kernel,by decide +kernel⟩,by decide +kernel⟩
theorem Ew.ne (e:Ew):e.ws≠[]:=by
 cases e with
 | pt n rs=>cases rs<;>simp [Ew.ws]
 | _=>simp [Ew.ws]
theorem Ew.vX {e:Ew} (h:e.ok):vX e.row=e.ws:=cR e.ne fun x hx=>(Ew.wk h x hx).1.nb
theorem vH:Ew.row .dn = "done":=by decide +kernel
theorem Ew.Q3 {e:Ew} (h:e.ok) (hn:e≠.dn):¬e.row = "done":=fun q=>by
 have e1:=Ew.vX h
 have e2:My.vX (Ew.row .dn)=(["done"]:List Str):=Ew.vX (e:=.dn) True.intro
 rw[q,←vH,e2] at e1
 cases e with
 | dn=>exact hn rfl
 | pt n rs=>cases rs<;>simp [Ew.ws] at e1
 | _=>simp [Ew.ws] at e1
theorem Ew.takes {e:Ew} (h:e.ok) (fr:List Fr) (ls:List Str):gL fr ls e.row=e.take fr ls:=by
 unfold gL
 by_cases hd:e=.dn
 ·subst hd
  rw[if_pos vH]
  rfl
 rw[if_neg (Ew.Q3 h hd),Ew.vX h]
 cases e with
 | dn=>exact absurd rfl hd
 | lt a b=>
  have r:=Jw h.1 h.2
  have f5:vQ (Ew.lt a b).ws=none:=if_neg (yx (r.take 2) oj.2.2.2.2.2 jT.2.2.2.2.2 (by decide))
  have f6:jZ (Ew.lt a b).ws=none:=JD r (by decide) (by decide) (by decide) (by decide)
  have f7:aU (Ew.lt a b).ws=some (a,b):=if_pos (b8 r oj.2.2.2.2.1 jT.2.2.2.2.1 (by decide))
  rw[f5]
  dsimp only
  rw[f6]
  dsimp only
  rw[f7]
  rfl
 | mu l w a n r'=>
  obtain⟨t1,t2,t3,t4⟩:=sg h.2.2.2.1 h.2.2.2.2.1
  have hw:a9 [0,0,4,0,7,1,8,0] (Ew.mu l w a n r').ws:=.cons (wn h.1) (.cons (wn h.2.1) (.cons (wl (k:=1) rfl) (.cons (wn h.2.2.1) (.cons (wl (k:=4) rfl) (.cons ⟨t1,t3,t4⟩ (.cons (wl (k:=5) rfl) (.cons (wn h.2.2.2.2.2) .nil)))))))
  have r:=hw.Va
  have f5:vQ (Ew.mu l w a n r').ws=none:=r.part (by decide)
  have f6:jZ (Ew.mu l w a n r').ws=some (0,l,w,a,n,r'):=by
   unfold jZ
   rw[if_pos (b8 r oj.1 jT.1 (by decide))]
   show some ((0:Int),l,w,a,gw (Str.ofString (toString n)),r')=_
   rw[t2]
  rw[f5]
  dsimp only
  rw[f6]
  rfl
 | my l w a=>
  obtain⟨k,hk,hu⟩:=wu h.2.1
  have hw:a9 [0,k,5,0] (Ew.my l w a).ws:=.cons (wn h.1) (.cons hu (.cons (wl (k:=2) rfl) (.cons (wn h.2.2) .nil)))
  have r:=hw.Va
  have hdd:∀j,j=0∨j=3→(jF [0,j,5,0] dj=false∧jF [0,j,5,0] bS=true∧u3 [0,j,5,0]=false):=by
   rintro j (rfl | rfl)<;>decide
  obtain⟨d1,d2,d4⟩:=hdd k hk
  have f5:vQ (Ew.my l w a).ws=none:=r.part d4
  have f6:jZ (Ew.my l w a).ws=some ((1:Int),l,w,a,(0:Int),("" : Str)):=by
   unfold jZ
   rw[if_neg (yx r oj.1 jT.1 d1),if_pos (b8 r oj.2.1 jT.2.1 d2)]
   rfl
  rw[f5]
  dsimp only
  rw[f6]
  rfl
 | bn l w a r'=>
  obtain⟨k,hk,hu⟩:=wu h.2.1
  have hw:a9 [0,k,5,6,0,8,0] (Ew.bn l w a r').ws:=.cons (wn h.1) (.cons hu (.cons (wl (k:=2) rfl) (.cons (wl (k:=3) rfl) (.cons (wn h.2.2.1) (.cons (wl (k:=5) rfl) (.cons (wn h.2.2.2) .nil))))))
  have r:=hw.Va
  have hdd:∀j,j=0∨j=3→(jF [0,j,5,6,0,8,0] dj=false∧jF [0,j,5,6,0,8,0] bS=false∧jF [0,j,5,6,0,8,0] oP=true∧u3 [0,j,5,6,0,8,0]=false):=by
   rintro j (rfl | rfl)<;>decide
  obtain⟨d1,d2,d3,d4⟩:=hdd k hk
  have f5:vQ (Ew.bn l w a r').ws=none:=r.part d4
  have f6:jZ (Ew.bn l w a r').ws=some (2,l,w,a,0,r'):=by
   unfold jZ
   rw[if_neg (yx r oj.1 jT.1 d1),if_neg (yx r oj.2.1 jT.2.1 d2),if_pos (b8 r oj.2.2.1 jT.2.2.1 d3)]
   rfl
  rw[f5]
  dsimp only
  rw[f6]
  rfl
 | pw l w a r'=>
  obtain⟨k,hk,hu⟩:=wu h.2.1
  have hw:a9 [0,k,7,0,9,0] (Ew.pw l w a r').ws:=.cons (wn h.1) (.cons hu (.cons (wl (k:=4) rfl) (.cons (wn h.2.2.1) (.cons (wl (k:=6) rfl) (.cons (wn h.2.2.2) .nil)))))
  have r:=hw.Va
  have hdd:∀j,j=0∨j=3→(jF [0,j,7,0,9,0] dj=false∧jF [0,j,7,0,9,0] bS=false∧jF [0,j,7,0,9,0] oP=false∧jF [0,j,7,0,9,0] mN=true∧u3 [0,j,7,0,9,0]=false):=by
   rintro j (rfl | rfl)<;>decide
  obtain⟨d1,d2,d3,d5,d4⟩:=hdd k hk
  have f5:vQ (Ew.pw l w a r').ws=none:=r.part d4
  have f6:jZ (Ew.pw l w a r').ws=some (3,l,w,a,0,r'):=by
   unfold jZ
   rw[if_neg (yx r oj.1 jT.1 d1),if_neg (yx r oj.2.1 jT.2.1 d2),if_neg (yx r oj.2.2.1 jT.2.2.1 d3),if_pos (b8 r oj.2.2.2.1 jT.2.2.2.1 d5)]
   rfl
  rw[f5]
  dsimp only
  rw[f6]
  rfl
 | pt n rs=>
  have f5:vQ (Ew.pt n rs).ws=some (n,rs):=by
   cases rs with
   | nil=>
    have r:pK [12,0] (Ew.pt n []).ws:=QJ h.1
    unfold vQ
    rw[if_pos (tT r (by decide)),if_pos (show (Ew.pt n []).ws.length=2 from rfl)]
    rfl
   | cons x rs=>
    have h3:a9 [12,0,13] ["part",n,"in"]:=.cons (wl (k:=9) rfl) (.cons (wn h.1) (.cons (wl (k:=10) rfl) .nil))
    have r:pK (p6 (x :: rs).length) (Ew.pt n (x :: rs)).ws:=h3.Va.append (mB h.2.1).Va
    have h2:(x :: rs).length≤12:=h.2.2
    have hpat:=YM (x :: rs).length (by omega) (by simp)
    unfold XJ at hpat
    simp only[Bool.and_eq_true,Bool.not_eq_true'] at hpat
    have ha:pV (x :: rs) 12=true:=by
     unfold pV
     rw[decide_eq_true (show 1≤(x :: rs).length by simp),decide_eq_true (show ((x :: rs).length:Int)≤12 by omega)]
     exact List.all_eq_true.mpr h.2.1
    unfold vQ
    have hl:¬(Ew.pt n (x :: rs)).ws.length=2:=by simp [Ew.ws]
    have hdr:(Ew.pt n (x :: rs)).ws.drop 3=x :: rs:=rfl
    rw[if_pos (tT r hpat.2),if_neg hl,hdr,if_neg (fun q=>q.elim (fun q=>q rfl) (fun q=>by rw[ha] at q;cases q))]
    rfl
  rw[f5]
  rfl
section
variable {P:Program} {w:World} {K:PySem.W.Frag} {mg:Str→Option Value} {base:Heap} {t:xh}
end
structure XB (ps as:List Str) (qR:List (Str × Str)):Prop where
 p1:1≤ps.length
 p2:ps.length≤4
 a1:1≤as.length
 a2:as.length≤6
 r1:1≤qR.length
 r2:qR.length≤12
 pn:∀x∈ps,qe x=true
 an:∀x∈as,qe x=true
 rn:∀mn∈qR,mC mn
 nd:(ps ++ as ++ qR.map (·.2)).Nodup
noncomputable def yD (mn:Str × Str):Str:=jG [mn.1,mn.2]
noncomputable def rowsOf (ps as:List Str) (qR:List (Str × Str)) (evs:List Ew):List Str:=jG ("parties" :: ps) :: jG ("acts" :: as) :: (qR.map yD ++ evs.map Ew.row)
theorem br {x:Str} {ns:List Str} (hx:x∈(["parties","acts"]:List Str)) (hn:∀y∈ns,qe y=true):vX (jG (x :: ns))=x :: ns:=by
 refine cR (by simp) fun y hy=>?_
 rcases List.mem_cons.mp hy with rfl | hy
 ·simp only[List.mem_cons,List.not_mem_nil,or_false] at hx
  rcases hx with rfl | rfl
  ·exact(rO _ (by simp)).1
  ·exact(rO _ (by simp)).1
 ·exact b7 (hn y hy)
theorem ax {ns:List Str} (hn:∀y∈ns,qe y=true):ns.all qe=true:=List.all_eq_true.mpr hn
theorem vO {x:Str} {ns:List Str} {m:Int} (h1:1≤ns.length) (hn:∀y∈ns,qe y=true) (hm:(ns.length:Int)≤m):kr (x :: ns) x m=ns:=by
 unfold kr pV
 rw[List.drop_one,List.tail_cons,ax hn,decide_eq_true h1,show wd (x :: ns) 0=x from rfl,decide_eq_true hm,if_neg (by simp)]
theorem dF:∀x∈xw,32∉x.cps.toList∧59∉x.cps.toList∧x.length≤4∧x≠"part"∧x≠"done":=by decide +kernel
theorem Ki {mn:Str × Str} (h:mC mn):vX (yD mn)=[mn.1,mn.2]:=by
 refine cR (by simp) fun y hy=>?_
 simp only[List.mem_cons,List.not_mem_nil,or_false] at hy
 rcases hy with rfl | rfl
 ·exact(dF _ h.1).1
 ·exact b7 h.2
theorem Ql {mn:Str × Str} (h:mC mn):bT (vX (yD mn))=some mn:=by
 rw[Ki h]
 unfold bT
 rw[if_pos ⟨rfl,by rw[dH];exact decide_eq_true h.1,h.2⟩]
 rfl
theorem Qs {e:Ew} (h:e.ok):bT (vX e.row)=none:=by
 rw[Ew.vX h]
 unfold bT
 refine if_neg fun q=>?_
 have hp:("part" : Str)∉xw:=by decide +kernel
 have two:∀{x y:Str} {r:List Str},1≤r.length→¬(x :: y :: r).length=2:=fun {x y r} h=>by simp only[List.length_cons];omega
 cases e with
 | pt n rs=>
  cases rs with
  | nil=>
   have:=q.2.1
   rw[dH] at this
   exact hp (of_decide_eq_true this)
  | cons x rs=>exact two (by simp) q.1
 | dn=>exact absurd q.1 (by simp [Ew.ws])
 | lt a b=>exact two (by simp) q.1
 | mu l w a n r=>exact two (by simp) q.1
 | my l w a=>exact two (by simp) q.1
 | bn l w a r=>exact two (by simp) q.1
 | pw l w a r=>exact two (by simp) q.1
theorem u6 {taken:List Str} {evs:List Ew} (he:∀e∈evs,e.ok):∀{qR found:List (Str × Str)},(∀mn∈qR,mC mn)→(taken ++ (found ++ qR).map (·.2)).Nodup→found ++ qR≠[]→found.length + qR.length≤12→
  xm taken found (qR.map yD ++ evs.map Ew.row)=.ok (found ++ qR)
 | [],found,_,_,hne,hf=>by
  rw[List.append_nil] at hne
  rw[List.map_nil,List.nil_append,List.append_nil]
  cases evs with
  | nil=>simp only[List.map_nil,xm,if_neg hne]
  | cons e r=>
   rw[List.map_cons,xm,Qs (he e List.mem_cons_self)]
   dsimp only
   rw[if_neg hne]
 | mn :: r,found,hr,hnd,hne,hf=>by
  have e:found ++ mn :: r=(found ++ [mn]) ++ r:=by simp
  rw[e] at hnd hne
  rw[List.map_cons,List.cons_append,xm,Ql (hr mn List.mem_cons_self)]
  dsimp only
  have hnd1:(taken ++ (found ++ [mn]).map (·.2)).Nodup:=by
   rw[List.map_append,←List.append_assoc] at hnd
   exact(List.nodup_append.mp hnd).1
  simp only[List.length_cons] at hf
  rw[if_neg (fun z=>z.elim (fun z=>by omega) (fun z=>z hnd1)),u6 he (fun x hx=>hr x (List.mem_cons_of_mem _ hx)) hnd hne (by rw[List.length_append];simp only[List.length_cons,List.length_nil];omega),e]
theorem iK {ps as:List Str} {qR:List (Str × Str)} {evs:List Ew} (h:XB ps as qR) (he:∀e∈evs,e.ok) :
  jS (rowsOf ps as qR evs)=match KN (rowsOf ps as qR evs).length (gx (2 + qR.length) (evs.map Ew.row) [("whole",[],[])] []) with
   | .error n=>.error n
   | .ok rw=>.ok (ps,as,qR,rw):=by
 have e0:vX (wd (rowsOf ps as qR evs) 0)=("parties" : Str) :: ps:=br (by simp) h.pn
 have e1:vX (wd (rowsOf ps as qR evs) 1)=("acts" : Str) :: as:=br (by simp) h.an
 have hlen:(rowsOf ps as qR evs).length=2 + qR.length + evs.length:=by unfold rowsOf;simp only[List.length_cons,List.length_append,List.length_map];omega
 have nd:=h.nd
 have nd2:(ps ++ as).Nodup:=(List.nodup_append.mp nd).1
 have nd1:ps.Nodup:=(List.nodup_append.mp nd2).1
 have h1:=h.p1;have h2:=h.p2;have h3:=h.a1;have h4:=h.a2;have h5:=h.r1;have h6:=h.r2
 have nps:ps≠[]:=fun z=>by rw[z] at h1;simp at h1
 have nas:as≠[]:=fun z=>by rw[z] at h3;simp at h3
 have nrm:qR≠[]:=fun z=>by rw[z] at h5;simp at h5
 have hn0:jA (rowsOf ps as qR evs) 0 "parties" 4 []=some ps:=by
  unfold jA
  rw[if_neg (by omega),e0]
  dsimp only
  rw[vO h.p1 h.pn (by omega),if_neg (fun z=>z.elim nps (fun z=>z (by simpa using nd1)))]
 have hn1:jA (rowsOf ps as qR evs) 1 "acts" 6 ps=some as:=by
  unfold jA
  rw[if_neg (by omega),e1]
  dsimp only
  rw[vO h.a1 h.an (by omega),if_neg (fun z=>z.elim nas (fun z=>z nd2))]
 have hrr:xm (ps ++ as) [] ((rowsOf ps as qR evs).drop 2)=.ok qR:=by
  have:=u6 (taken:=ps ++ as) (evs:=evs) he (qR:=qR) (found:=[]) h.rn (by simpa using nd) (by simpa using nrm) (by simpa using h6)
  simpa [rowsOf] using this
 have hdrop:(rowsOf ps as qR evs).drop (2 + qR.length)=evs.map Ew.row:=by
  unfold rowsOf
  rw[show 2 + qR.length=qR.length + 1 + 1 by omega,List.drop_succ_cons,List.drop_succ_cons]
  rw[show qR.length=(qR.map yD).length by rw[List.length_map],List.drop_left]
 unfold jS
 rw[hn0]
 dsimp only
 rw[hn1]
 dsimp only
 rw[hrr]
 dsimp only
 unfold pE
 rw[hdrop]
 all_goals (cases KN (rowsOf ps as qR evs).length (gx (2 + qR.length) (evs.map Ew.row) [("whole",[],[])] [])<;>rfl)
noncomputable def fk:Nat→List Ew→List Fr→List Str→Except Nat (List Fr)
 | _,[],fr,_=>.ok fr
 | i,e :: r,fr,ls=>if i=90 then .error i else match e.take fr ls with
  | none=>.error i
  | some (fr',ls')=>fk (i + 1) r fr' ls'
theorem c9:∀{evs:List Ew} {i:Nat} {fr:List Fr} {ls:List Str},(∀e∈evs,e.ok)→gx i (evs.map Ew.row) fr ls=fk i evs fr ls
 | [],_,_,_,_=>rfl
 | e :: r,i,fr,ls,h=>by
  rw[List.map_cons,gx,fk,Ew.takes (h e List.mem_cons_self)]
  by_cases q:i=90
  ·rw[if_pos q,if_pos q]
  ·rw[if_neg q,if_neg q]
   cases e.take fr ls with
   | none=>rfl
   | some p=>exact c9 fun x hx=>h x (List.mem_cons_of_mem _ hx)
noncomputable def gA:Ew→List Str
 | .mu l _ _ _ _=>[l]
 | .my l _ _=>[l]
 | .bn l _ _ _=>[l]
 | .pw l _ _ _=>[l]
 | .pt n _=>[n]
 | _=>[]
noncomputable def xT (evs:List Ew):List Str:=evs.flatMap gA
noncomputable def dp (d:Nat):Ew→Option Nat
 | .pt _ _=>if d < 6 then some (d + 1) else none
 | .dn=>if 0 < d then some (d - 1) else none
 | _=>some d
noncomputable def cw:Nat→List Ew→Option Nat
 | d,[]=>some d
 | d,e :: r=>(dp d e).bind fun d'=>cw d' r
theorem JH {d d':Nat} {e:Ew} {fr:List Fr} {ls:List Str} (hd:dp d e=some d') (hf:fr.length=d + 1) (h6:d≤6) (hl:∀x∈gA e,x∉ls):∃fr',e.take fr ls=some (fr',ls ++ gA e)∧fr'.length=d' + 1∧d'≤6:=by
 cases e with
 | lt a b=>
  cases hd
  exact⟨push fr (.lt a b),by simp [Ew.take,gA],by rw[g8];exact hf,h6⟩
 | mu l w a n r=>
  cases hd
  exact⟨_,by rw[Ew.take,if_neg (hl l (by simp [gA]))];rfl,by rw[g8];exact hf,h6⟩
 | my l w a=>
  cases hd
  exact⟨_,by rw[Ew.take,if_neg (hl l (by simp [gA]))];rfl,by rw[g8];exact hf,h6⟩
 | bn l w a r=>
  cases hd
  exact⟨_,by rw[Ew.take,if_neg (hl l (by simp [gA]))];rfl,by rw[g8];exact hf,h6⟩
 | pw l w a r=>
  cases hd
  exact⟨_,by rw[Ew.take,if_neg (hl l (by simp [gA]))];rfl,by rw[g8];exact hf,h6⟩
 | pt n rs=>
  simp only[dp] at hd
  split at hd
  ·cases hd
   exact⟨_,by rw[Ew.take,if_neg (fun z=>z.elim (fun z=>by omega) (hl n (by simp [gA])))];rfl,by simp only[List.length_cons];omega,by omega⟩
  ·cases hd
 | dn=>
  simp only[dp] at hd
  split at hd
  ·cases hd
   match fr,hf with
   | [f],hf=>simp only[List.length_cons,List.length_nil] at hf;omega
   | (n,rs,rows) :: (n2,rs2,rows2) :: fr',hf=>
    exact⟨(n2,rs2,rows2 ++ [.pt n rs rows]) :: fr',by simp [Ew.take,gA],by simp only[List.length_cons] at hf ⊢;omega,by omega⟩
  ·cases hd
theorem nS:∀{evs:List Ew} {i d d':Nat} {fr:List Fr} {ls:List Str},cw d evs=some d'→fr.length=d + 1→d≤6→(ls ++ xT evs).Nodup→i + evs.length≤90→∃fr',fk i evs fr ls=.ok fr'∧fr'.length=d' + 1
 | [],i,d,d',fr,ls,h,hf,_,_,_=>by cases h;exact⟨fr,rfl,hf⟩
 | e :: r,i,d,d',fr,ls,h,hf,h6,hn,hi=>by
  rw[cw] at h
  cases hd:dp d e with
  | none=>rw[hd] at h;cases h
  | some d1=>
   rw[hd,Option.bind_some] at h
   have hn':((ls ++ gA e) ++ xT r).Nodup:=by
    have:xT (e :: r)=gA e ++ xT r:=by simp [xT]
    rw[this,←List.append_assoc] at hn
    exact hn
   have hl:∀x∈gA e,x∉ls:=fun x hx hs=>by
    have:=(List.nodup_append.mp hn').1
    exact(List.nodup_append.mp this).2.2 x hs x hx rfl
   obtain⟨fr1,e1,l1,s1⟩:=JH hd hf h6 hl
   simp only[List.length_cons] at hi
   rw[fk,if_neg (by omega),e1]
   exact nS h l1 s1 hn' (by omega)
theorem iA:∀{e1 e2:List Ew} {i:Nat} {fr fr':List Fr} {ls:List Str},fk i e1 fr ls=.ok fr'→fk i (e1 ++ e2) fr ls=fk (i + e1.length) e2 fr' (ls ++ xT e1)∨∃ls',fk i (e1 ++ e2) fr ls=fk (i + e1.length) e2 fr' ls'
 | [],e2,i,fr,fr',ls,h=>by cases h;exact .inr ⟨ls,rfl⟩
 | e :: r,e2,i,fr,fr',ls,h=>by
  rw[List.cons_append,fk]
  rw[fk] at h
  by_cases q:i=90
  ·rw[if_pos q] at h;cases h
  rw[if_neg q] at h ⊢
  cases ht:e.take fr ls with
  | none=>rw[ht] at h;cases h
  | some p=>
   rw[ht] at h
   obtain⟨f1,l1⟩:=p
   dsimp only at h ⊢
   simp only[List.length_cons]
   rw[show i + (r.length + 1)=i + 1 + r.length by omega]
   rcases iA (e2:=e2) h with z | ⟨ls',z⟩
   ·exact .inr ⟨_,z⟩
   ·exact .inr ⟨ls',z⟩
section
variable {P:Program} {w:World} {K:PySem.W.Frag} {mg:Str→Option Value} {base:Heap} {t:xh}
end
noncomputable def NN (c:Int):List Str:=(List.range 104).map fun (k:Nat)=>wV c k
theorem uZ (c:Int):(NN c).length=104:=by unfold NN;rw[List.length_map,List.length_range]
theorem bW (c:Int) {i:Nat} (h:i < 104):(NN c).getD i "" = wV c i:=by
 unfold NN
 rw[List.getD_eq_getElem?_getD,List.getElem?_map,List.getElem?_range h]
 rfl
noncomputable def aj (H:Hp) (v:V):Ew→Prop
 | .lt a b=>∃p,v=.ref p∧H p=some (.tup [.str "let",.str a,.str b])
 | .mu l w a n r=>∃p,v=.ref p∧H p=some (.tup [.str "must",.str l,.str w,.str a,.int n,.str r])
 | .my l w a=>∃p,v=.ref p∧H p=some (.tup [.str "may",.str l,.str w,.str a])
 | .bn l w a r=>∃p,v=.ref p∧H p=some (.tup [.str "ban",.str l,.str w,.str a,.str r])
 | .pw l w a r=>∃p,v=.ref p∧H p=some (.tup [.str "power",.str l,.str w,.str a,.str r])
 | .pt n rs=>∃p q,v=.ref p∧H p=some (.tup [.str "part",.str n,.ref q])∧H q=some (.lst (rs.map V.str))
 | .dn=>∃p,v=.ref p∧H p=some (.tup [.str "done"])
theorem aj.same {H H':Hp} {v:V} {e:Ew} (h:aj H v e) (s:qg H H'):aj H' v e:=by
 cases e with
 | pt n rs=>obtain⟨p,q,e,h1,h2⟩:=h;exact⟨p,q,e,s _ _ h1,s _ _ h2⟩
 | lt a b=>obtain⟨p,e,h⟩:=h;exact⟨p,e,s _ _ h⟩
 | mu l w a n r=>obtain⟨p,e,h⟩:=h;exact⟨p,e,s _ _ h⟩
 | my l w a=>obtain⟨p,e,h⟩:=h;exact⟨p,e,s _ _ h⟩
 | bn l w a r=>obtain⟨p,e,h⟩:=h;exact⟨p,e,s _ _ h⟩
 | pw l w a r=>obtain⟨p,e,h⟩:=h;exact⟨p,e,s _ _ h⟩
 | dn=>obtain⟨p,e,h⟩:=h;exact⟨p,e,s _ _ h⟩
noncomputable def Qw (l:Addr) (H:Hp) (v:V):Ew→Prop
 | .pt n rs=>∃p q,v=.ref p∧H p=some (.tup [.str "part",.str n,.ref q])∧H q=some (.lst (rs.map V.str))∧q≠l
 | e=>aj H v e
theorem Qw.ev {l:Addr} {H:Hp} {v:V} {e:Ew} (h:Qw l H v e):aj H v e:=by
 cases e with
 | pt n rs=>obtain⟨p,q,e,h1,h2,_⟩:=h;exact⟨p,q,e,h1,h2⟩
 | _=>exact h
theorem Qw.same {l:Addr} {H H':Hp} {v:V} {e:Ew} (h:Qw l H v e) (s:qg H H'):Qw l H' v e:=by
 cases e with
 | pt n rs=>obtain⟨p,q,e,h1,h2,h3⟩:=h;exact⟨p,q,e,s _ _ h1,s _ _ h2,h3⟩
 | lt a b=>obtain⟨p,e,h⟩:=h;exact⟨p,e,s _ _ h⟩
 | mu l w a n r=>obtain⟨p,e,h⟩:=h;exact⟨p,e,s _ _ h⟩
 | my l w a=>obtain⟨p,e,h⟩:=h;exact⟨p,e,s _ _ h⟩
 | bn l w a r=>obtain⟨p,e,h⟩:=h;exact⟨p,e,s _ _ h⟩
 | pw l w a r=>obtain⟨p,e,h⟩:=h;exact⟨p,e,s _ _ h⟩
 | dn=>obtain⟨p,e,h⟩:=h;exact⟨p,e,s _ _ h⟩
theorem Qw.keeps {l:Addr} {H H':Hp} {v:V} {e:Ew} {xs:List V} (h:Qw l H v e) (k:Keeps l H H') (el:H l=some (.lst xs)):Qw l H' v e:=by
 have ne:∀{p:Addr} {ys:List V},H p=some (.tup ys)→H' p=some (.tup ys):=fun q=>k.look q (df q el (by intro z;cases z))
 cases e with
 | pt n rs=>obtain⟨p,q,e,h1,h2,h3⟩:=h;exact⟨p,q,e,ne h1,k.look h2 h3,h3⟩
 | lt a b=>obtain⟨p,e,h⟩:=h;exact⟨p,e,ne h⟩
 | mu l w a n r=>obtain⟨p,e,h⟩:=h;exact⟨p,e,ne h⟩
 | my l w a=>obtain⟨p,e,h⟩:=h;exact⟨p,e,ne h⟩
 | bn l w a r=>obtain⟨p,e,h⟩:=h;exact⟨p,e,ne h⟩
 | pw l w a r=>obtain⟨p,e,h⟩:=h;exact⟨p,e,ne h⟩
 | dn=>obtain⟨p,e,h⟩:=h;exact⟨p,e,ne h⟩
noncomputable def Yz (lb:Str) (d:Nat) (e:Ew):Prop:=e.ok∧(gA e=[]∨gA e=[lb])∧(dp d e).isSome=true
noncomputable def iY (K:PySem.W.Frag):Sp:=fun vs H Q _=>∃(a:Addr) (c cell:Int) (lb:Str) (d:Nat),vs=[.ref a,.int cell,.str lb,.int d]∧q0 K H a ((NN c).map V.str)∧0≤cell∧qe lb=true∧∀v e H',qg H H'→(∀l,H l≠none→Qw l H' v e)→Yz lb d e→Q v H'
theorem iI:∀{ys:List V},(∀v∈ys,∃x,v=V.str x∧qe x=true)→∃xs:List Str,ys=xs.map V.str∧∀x∈xs,qe x=true
 | [],_=>⟨[],rfl,fun _ z=>(by cases z)⟩
 | y :: ys,h=>by
  obtain⟨x,rfl,hx⟩:=h y List.mem_cons_self
  obtain⟨xs,rfl,hs⟩:=iI fun v hv=>h v (List.mem_cons_of_mem _ hv)
  exact⟨x :: xs,rfl,fun z hz=>(List.mem_cons.mp hz).elim (fun e=>by rw[e];exact hx) (hs z)⟩
theorem oz {ys:List V} (hl:ys.length=3) (h:∀(i:Nat) (v:V),i < 3→ys[i]?=some v→∃x,v=V.str x∧qe x=true):∃x0 x1 x2,ys=[x0,x1,x2].map V.str∧qe x0=true∧qe x1=true∧qe x2=true:=by
 match ys,hl with
 | [a,b,c],_=>
  obtain⟨x0,rfl,h0⟩:=h 0 a (by decide) rfl
  obtain⟨x1,rfl,h1⟩:=h 1 b (by decide) rfl
  obtain⟨x2,rfl,h2⟩:=h 2 c (by decide) rfl
  exact⟨x0,x1,x2,rfl,h0,h1,h2⟩
section
variable {P:Program} {w:World} {K:PySem.W.Frag} {mg:Str→Option Value} {base:Heap} {t:xh}
theorem x8:qQ ["_law_names","_law_cell","_law_label","_law_depth","_law_what","_law_some","_law_who","_law_number","_law_many"] ["_law_names","_law_cell","_law_label","_law_depth"] (z5 xr):=⟨rfl,rfl,rfl,by decide +kernel,rfl,by decide +kernel,by decide +kernel⟩
set_option maxHeartbeats 400000 in
theorem ic (T:Txt K mg t):qJ P w K mg base jX 2 t.bA t.pe ["_law_names","_law_cell","_law_label","_law_depth"] (iY K):=by
 have G_w_mix:qJ P w K mg base jX 1 t.gK t.gh ["_law_cell","_law_k"] sN:=(fY T).mono (by decide)
 refine T.mK.fn.ok x8 (fun vs H Q E h=>(by obtain⟨_,_,_,_,_,rfl,_⟩:=h;rfl)) (fun cdv A outer s H vs Q E hr h=>?_)
 obtain⟨a,c,cell,lb,d,rfl,hA,hc,hlb,k⟩:=h
 refine⟨_,(z6 (qi (i:=4) x8.nd rfl (Or.inl rfl) (qk qE (pv 1) z8))
   (z6 (mQ (i:=5) (osc:=z5 xr) (N:=["_law_names","_law_cell","_law_label","_law_depth","_law_what","_law_some","_law_who","_law_number","_law_many"]) (names:=["_law_names","_law_cell"]) (qM:=[0,1]) rfl rfl rfl x8.nd ⟨rfl,by decide +kernel,by decide +kernel,by decide +kernel,rfl,rfl,by decide +kernel,by decide +kernel⟩ rfl rfl (wF rfl T.yr (z4 z8 z7)) (fun _ _ _=>(qo (qf (K:=K) rfl) (pv 1) (qk qE (qu G_w_mix hr rfl T.jl.mg T.jl.fn.kp T.jl.bd .nil qX (z4 (pv 2) (z4 (pv 0) z7))) z8) (fun _ _=>rfl))))
   (z6 (qi (i:=6) x8.nd rfl (Or.inl rfl) (qo (qf (K:=K) rfl) (pv 5) z8 (fun _ _=>rfl)))
   (z6 (PS.join (qG (qp jh (qk qE (qu G_w_mix hr rfl T.jl.mg T.jl.fn.kp T.jl.bd .nil qX (z4 (pv 1) (z4 z8 z7))) z8) z8 (qr _))
    (z9 (qi (i:=6) x8.nd rfl (Or.inl rfl) qj)) qm))
   (z6 (qi (i:=7) x8.nd rfl (Or.inl rfl) (qk jI z8 (qk qE (qu G_w_mix hr rfl T.jl.mg T.jl.fn.kp T.jl.bd .nil qX (z4 (pv 1) (z4 z8 z7))) z8)))
   (z6 (PS.join (qG (qp jh (qk qE (qu G_w_mix hr rfl T.jl.mg T.jl.fn.kp T.jl.bd .nil qX (z4 (pv 1) (z4 z8 z7))) z8) z8 (qr _))
    (z9 (qi (i:=7) x8.nd rfl (Or.inl rfl) (qk jI z8 (qk qE (qk d9 (pv 1) z8) (qk fz (qk Kp z8 z8) z8))))) qm))
   (z6 (PS.join (qG (PW.pt (mR (PW.pt (kR (qp jh (pv 4) z8 (qr _)) (kP (qp jh (pv 4) z8 (qr _))))) (bN (qp cT (pv 3) z8 (qr _)))))
    (z6 (qi (i:=8) x8.nd rfl (Or.inl rfl) (qk qE (qu G_w_mix hr rfl T.jl.mg T.jl.fn.kp T.jl.bd .nil qX (z4 (pv 1) (z4 z8 z7))) z8))
   (z9 (qy (yg (z4 qj (z4 (pv 2) (z4 (mr (osc:=z5 xr) (N:=["_law_names","_law_cell","_law_label","_law_depth","_law_what","_law_some","_law_who","_law_number","_law_many"]) (names:=["_law_names","_law_cell"]) (qM:=[0,1]) rfl rfl rfl ⟨rfl,by decide +kernel,by decide +kernel,by decide +kernel,rfl,rfl,by decide +kernel,by decide +kernel⟩ (wF rfl T.yr (z4 (pv 8) z7)) (fun _ _ _=>(qo (qf (K:=K) rfl) (pv 1) (qk qE (qu G_w_mix hr rfl T.jl.mg T.jl.fn.kp T.jl.bd .nil qX (z4 (pv 2) (z4 (qk jI z8 (pv 0)) z7))) z8) (fun _ _=>rfl)))) z7))))))) qm))
   (z6 (PS.join (qG (PW.pt (mR (qp jh (pv 4) z8 (qr _)) (bN (qp uz (pv 3) z8 (qr _)))))
    (z9 (qy (yg (z4 qj z7)))) qm))
   (z6 (qG (qp cT (pv 4) z8 (qr _))
    (z9 (qy (yg (z4 qj (z4 (qo (qf (K:=K) rfl) (pv 5) z8 (fun _ _=>rfl)) (z4 (qo (qf (K:=K) rfl) (pv 5) z8 (fun _ _=>rfl)) z7)))))) qm)
   (z6 (qG (qp cT (pv 4) z8 (qr _))
    (z9 (qy (yg (z4 qj (z4 (pv 2) (z4 (qo (qf (K:=K) rfl) (pv 5) z8 (fun _ _=>rfl)) (z4 (qo (qf (K:=K) rfl) (pv 5) z8 (fun _ _=>rfl)) (z4 (pv 7) (z4 (qo (qf (K:=K) rfl) (pv 5) z8 (fun _ _=>rfl)) z7))))))))) qm)
   (z6 (qG (qp jh (pv 4) z8 (qr _))
    (z9 (qy (yg (z4 qj (z4 (pv 2) (z4 (pv 6) (z4 (qo (qf (K:=K) rfl) (pv 5) z8 (fun _ _=>rfl)) z7))))))) qm)
   (z6 (qG (qp jh (pv 4) z8 (qr _))
    (z9 (qy (yg (z4 qj (z4 (pv 2) (z4 (pv 6) (z4 (qo (qf (K:=K) rfl) (pv 5) z8 (fun _ _=>rfl)) (z4 (qo (qf (K:=K) rfl) (pv 5) z8 (fun _ _=>rfl)) z7)))))))) qm)
   (z9 (qy (yg (z4 qj (z4 (pv 2) (z4 (pv 6) (z4 (qo (qf (K:=K) rfl) (pv 5) z8 (fun _ _=>rfl)) (z4 (qo (qf (K:=K) rfl) (pv 5) z8 (fun _ _=>rfl)) z7)))))))))))))))))))),?_⟩
 have hN:=uZ c
 have w0:0≤cell % 9:=Int.emod_nonneg _ (by decide)
 have w1:cell % 9 < 9:=Int.emod_lt_of_pos _ (by decide)
 walk_at "rd"
 refine gq fj (fun _ _ v=>∃x,v=V.str x∧qe x=true) (qx (by decide +kernel)) ?_ ?_
 ·intro i y H' Q' hy s' kk
  have hi:i < 3:=by
   have:=(List.getElem?_eq_some_iff.mp hy).1
   simpa using this
  have hy':y=V.int (0 + (i:Int)):=by
   rw[List.getElem?_map,List.getElem?_range (show i < (3:Int).toNat from hi)] at hy
   exact(Option.some.inj hy).symm
  subst hy'
  have x0:0≤yb cell (0 + (i:Int)) % 40:=Int.emod_nonneg _ (by decide)
  have x1:yb cell (0 + (i:Int)) % 40 < 40:=Int.emod_lt_of_pos _ (by decide)
  have hA':=s'.seq hA
  walk_at "rd"
  exact kk _ _ (qg.refl _) ⟨_,rfl,by rw[bW c (by omega)];exact gU c⟩
 intro l5 H1 ys s1 hl5 e1 hlen hp
 obtain⟨x0,x1,x2,rfl,g0,g1,g2⟩:=oz (by simpa using hlen) fun i v hi hv=>hp i (V.int (0 + (i:Int))) v (by rw[List.getElem?_map,List.getElem?_range (show i < (3:Int).toNat from hi)];rfl) hv
 clear hp hlen
 have hA1:=s1.seq hA
 have ex0:uL ([x0,x1,x2].map V.str) 0=some (.str x0):=rfl
 have ex1:uL ([x0,x1,x2].map V.str) 1=some (.str x1):=rfl
 have ex2:uL ([x0,x1,x2].map V.str) 2=some (.str x2):=rfl
 have hX:q0 K H1 l5 ([x0,x1,x2].map V.str):=q0.of e1
 refine⟨_,rfl,l5,_,_,_,rfl,rfl,hX,ex0,?_⟩
 refine⟨fun σ' H'=>(∃u,σ'=[some (.ref a),some (.int cell),some (.str lb),some (.int d),some (.int (cell % 9)),some (.ref l5),some (.str u),none,none]∧oB u∧H'=H1)∨False,?_,?_⟩
 ·walk_at "rd"
  refine jy (fun _=>?_) (fun _=>.inl ⟨_,rfl,.inl g0,rfl⟩)
  walk_at "rd"
  exact .inl ⟨_,rfl,.inr rfl,rfl⟩
 rintro σ' H2 (⟨u,rfl,hu,rfl⟩ | ⟨⟨⟩⟩)
 walk_at "rd"
 refine⟨fun σ' H'=>(∃n,σ'=[some (.ref a),some (.int cell),some (.str lb),some (.int d),some (.int (cell % 9)),some (.ref l5),some (.str u),some (.int n),none]∧1≤n∧n < 10 ^ 20∧H'=H2)∨False,?_,?_⟩
 ·walk_at "rd"
  refine jy (fun _=>?_) (fun _=>.inl ⟨_,rfl,?_,?_,rfl⟩)
  ·walk_at "rd"
   have e20:(10:Int) ^ (Int.toNat 20) - 1=99999999999999999999:=by decide +kernel
   have p0:=Int.emod_nonneg (cell * 48271) (show (99999999999999999999:Int)≠0 by decide)
   have p1:=Int.emod_lt_of_pos (cell * 48271) (show (0:Int) < 99999999999999999999 by decide)
   refine .inl ⟨_,rfl,?_,?_,rfl⟩
   ·show 1≤1 + cell * 48271 % (10 ^ (Int.toNat 20) - 1)
    rw[e20];omega
   ·show 1 + cell * 48271 % (10 ^ (Int.toNat 20) - 1) < 10 ^ 20
    rw[e20];omega
  ·show 1≤1 + yb cell 4 % 5
   omega
  ·show 1 + yb cell 4 % 5 < 10 ^ 20
   omega
 rintro σ' H3 (⟨n,rfl,n1,n2,rfl⟩ | ⟨⟨⟩⟩)
 refine⟨fun σ' H'=>(σ'=[some (.ref a),some (.int cell),some (.str lb),some (.int d),some (.int (cell % 9)),some (.ref l5),some (.str u),some (.int n),none]∧H'=H3)∨False,?_,?_⟩
 ·walk_at "rd"
  refine jy (fun _=>uW ?pa) (fun _=>?pb)
  case' pb=>
   walk_at "rd"
   refine jy (fun _=>?_) (fun _=>gI (.inl ⟨rfl,rfl⟩))
  all_goals
   walk_at "rd"
   refine jy (fun hd=>?_) (fun _=>.inl ⟨rfl,rfl⟩)
   have hd':(d:Int) < 6:=of_decide_eq_true hd
   have m0:0≤yb cell 6 % 13:=Int.emod_nonneg _ (by decide)
   have m1:yb cell 6 % 13 < 13:=Int.emod_lt_of_pos _ (by decide)
   walk_at "rd"
   generalize (yb cell 6 % 13)=m at *
   refine gq fj (fun _ _ v=>∃x,v=V.str x∧qe x=true) (qx (by rw[List.length_map,List.length_range];omega)) ?_ ?_
   ·intro i y H' Q' hy s' kk
    have hi:i < m.toNat:=by
     have:=(List.getElem?_eq_some_iff.mp hy).1
     simpa using this
    have hy':y=V.int (0 + (i:Int)):=by
     rw[List.getElem?_map,List.getElem?_range hi] at hy
     exact(Option.some.inj hy).symm
    subst hy'
    have x0:0≤yb cell (7 + (0 + (i:Int))) % 40:=Int.emod_nonneg _ (by decide)
    have x1:yb cell (7 + (0 + (i:Int))) % 40 < 40:=Int.emod_lt_of_pos _ (by decide)
    have hA':=s'.seq hA1
    walk_at "rd"
    exact kk _ _ (qg.refl _) ⟨_,rfl,by rw[bW c (by omega)];exact gU c⟩
   intro l6 H4 ys s4 hl6 e4 hlen hp
   obtain⟨xs,rfl,hxs⟩:=iI (ys:=ys) fun v hv=>by
    obtain⟨i,hi⟩:=List.mem_iff_getElem?.mp hv
    have hi':i < m.toNat:=by
     have:=(List.getElem?_eq_some_iff.mp hi).1
     rw[hlen] at this
     simpa using this
    exact hp i (V.int (0 + (i:Int))) v (by rw[List.getElem?_map,List.getElem?_range hi'];rfl) hi
   have hl':xs.length≤12:=by
    rw[List.length_map,List.length_map,List.length_range] at hlen
    omega
   walk_at "rd"
   intro q H6 s6 hq e6
   exact k (.ref q) (.pt lb xs) H6 ((s1.trans s4).trans s6) (fun l hl=>⟨q,l6,rfl,e6,s6 _ _ e4,fun z=>hl (by rw[←z];exact s1.free hl6)⟩) ⟨⟨hlb,hxs,hl'⟩,.inr rfl,by simp only[dp];rw[if_pos (by omega)];rfl⟩
 rintro σ' H4 (⟨rfl,rfl⟩ | ⟨⟨⟩⟩)
 refine⟨fun σ' H'=>(σ'=[some (.ref a),some (.int cell),some (.str lb),some (.int d),some (.int (cell % 9)),some (.ref l5),some (.str u),some (.int n),none]∧H'=H4)∨False,?_,?_⟩
 ·walk_at "rd"
  refine jy (fun _=>?_) (fun _=>gI (.inl ⟨rfl,rfl⟩))
  walk_at "rd"
  refine jy (fun hd=>?_) (fun _=>.inl ⟨rfl,rfl⟩)
  have hd':0 < (d:Int):=of_decide_eq_true hd
  walk_at "rd"
  intro q H6 s6 hq e6
  exact k (.ref q) .dn H6 (s1.trans s6) (fun _ _=>⟨q,rfl,e6⟩) ⟨True.intro,.inl rfl,by simp only[dp];rw[if_pos (by omega)];rfl⟩
 rintro σ' H5 (⟨rfl,rfl⟩ | ⟨⟨⟩⟩)
 walk_at "rd"
 refine jy (fun _=>?_) (fun _=>?_)
 ·walk_at "rd"
  intro q H6 s6 hq e6
  exact k (.ref q) (.lt x0 x1) H6 (s1.trans s6) (fun _ _=>⟨q,rfl,e6⟩) ⟨⟨g0,g1⟩,.inl rfl,rfl⟩
 walk_at "rd"
 refine jy (fun _=>?_) (fun _=>?_)
 ·walk_at "rd"
  intro q H6 s6 hq e6
  exact k (.ref q) (.mu lb x0 x1 n x2) H6 (s1.trans s6) (fun _ _=>⟨q,rfl,e6⟩) ⟨⟨hlb,g0,g1,n1,n2,g2⟩,.inr rfl,rfl⟩
 walk_at "rd"
 refine jy (fun _=>?_) (fun _=>?_)
 ·walk_at "rd"
  intro q H6 s6 hq e6
  exact k (.ref q) (.my lb u x1) H6 (s1.trans s6) (fun _ _=>⟨q,rfl,e6⟩) ⟨⟨hlb,hu,g1⟩,.inr rfl,rfl⟩
 walk_at "rd"
 refine jy (fun _=>?_) (fun _=>?_)
 ·walk_at "rd"
  intro q H6 s6 hq e6
  exact k (.ref q) (.bn lb u x1 x2) H6 (s1.trans s6) (fun _ _=>⟨q,rfl,e6⟩) ⟨⟨hlb,hu,g1,g2⟩,.inr rfl,rfl⟩
 walk_at "rd"
 intro q H6 s6 hq e6
 exact k (.ref q) (.pw lb u x1 x2) H6 (s1.trans s6) (fun _ _=>⟨q,rfl,e6⟩) ⟨⟨hlb,hu,g1,g2⟩,.inr rfl,rfl⟩
end
structure VR (evs:List Ew):Prop where
 ok:∀e∈evs,e.ok
 dp:cw 0 evs=some 0
 nd:(xT evs).Nodup
 len:evs.length≤66
theorem gf:∀{e1 e2:List Ew} {d:Nat},cw d (e1 ++ e2)=(cw d e1).bind fun d'=>cw d' e2
 | [],_,_=>rfl
 | e :: r,e2,d=>by
  rw[List.cons_append,cw,cw]
  cases dp d e with
  | none=>rfl
  | some d'=>exact gf (e1:=r)
theorem Xn {d d':Nat} {e:Ew} (h:dp d e=some d') (h6:d≤6):d'≤6:=by
 cases e with
 | pt n rs=>
  simp only[dp] at h
  split at h
  ·cases h;omega
  ·cases h
 | dn=>
  simp only[dp] at h
  split at h
  ·cases h;omega
  ·cases h
 | _=>cases h;exact h6
theorem rE:∀(d:Nat),cw d (List.replicate d Ew.dn)=some 0
 | 0=>rfl
 | d + 1=>by
  rw[List.replicate_succ,cw,dp,if_pos (by omega)]
  exact rE d
theorem wB (e1 e2:List Ew):xT (e1 ++ e2)=xT e1 ++ xT e2:=by unfold xT;rw[List.flatMap_append]
theorem fu:∀(d:Nat),xT (List.replicate d Ew.dn)=[]
 | 0=>rfl
 | d + 1=>by
  rw[List.replicate_succ]
  show gA Ew.dn ++ xT (List.replicate d Ew.dn)=[]
  rw[fu d];rfl
theorem Paired.app {α β:Type} {F:α→β→Prop}:∀{a a':List α} {b b':List β},Paired F a b→Paired F a' b'→Paired F (a ++ a') (b ++ b')
 | [],_,[],_,_,h=>h
 | _ :: _,_,_ :: _,_,.cons h t,q=>.cons h (Paired.app t q)
theorem ux {α β:Type} {F:α→β→Prop} {a:α} {b:β} (h:F a b):∀n,Paired F (List.replicate n a) (List.replicate n b)
 | 0=>.nil
 | n + 1=>.cons h (ux h n)
noncomputable def kw:Ew→Str
 | .lt _ _=>"let"
 | .mu _ _ _ _ _=>"must"
 | .my _ _ _=>"may"
 | .bn _ _ _ _=>"ban"
 | .pw _ _ _ _=>"power"
 | .pt _ _=>"part"
 | .dn=>"done"
theorem aj.first {H:Hp} {v:V} {e:Ew} (h:aj H v e):∃p xs,v=.ref p∧H p=some (.tup xs)∧uL xs 0=some (.str (kw e)):=by
 cases e with
 | pt n rs=>obtain⟨p,q,e,h1,h2⟩:=h;exact⟨p,_,e,h1,rfl⟩
 | lt a b=>obtain⟨p,e,h⟩:=h;exact⟨p,_,e,h,rfl⟩
 | mu l w a n r=>obtain⟨p,e,h⟩:=h;exact⟨p,_,e,h,rfl⟩
 | my l w a=>obtain⟨p,e,h⟩:=h;exact⟨p,_,e,h,rfl⟩
 | bn l w a r=>obtain⟨p,e,h⟩:=h;exact⟨p,_,e,h,rfl⟩
 | pw l w a r=>obtain⟨p,e,h⟩:=h;exact⟨p,_,e,h,rfl⟩
 | dn=>obtain⟨p,e,h⟩:=h;exact⟨p,_,e,h,rfl⟩
noncomputable def Hg (b:Bool):Int:=if b=true then 1 else 0
theorem VZ {d d':Nat} {e:Ew} (h:dp d e=some d'):(d:Int) + (if decide (V.str (kw e)=V.str (Str.ofString "part"))=true then (1:Int) else 0) - (if decide (V.str (kw e)=V.str (Str.ofString "done"))=true then (1:Int) else 0)=(d':Nat):=by
 have k1:∀x∈(["let","must","may","ban","power"]:List Str),¬x = "part"∧¬x = "done":=by decide +kernel
 have k2:¬("part" : Str) = "done":=by decide +kernel
 have none:∀{x:Str},x∈(["let","must","may","ban","power"]:List Str)→(d:Int) + (if decide (V.str x=V.str (Str.ofString "part"))=true then (1:Int) else 0) - (if decide (V.str x=V.str (Str.ofString "done"))=true then (1:Int) else 0)=d:=fun {x} hx=>by
  have h1:¬V.str x=V.str (Str.ofString "part"):=fun z=>(k1 x hx).1 (V.str.inj z)
  have h2:¬V.str x=V.str (Str.ofString "done"):=fun z=>(k1 x hx).2 (V.str.inj z)
  rw[decide_eq_false h1,decide_eq_false h2];simp
 cases e with
 | pt n rs=>
  simp only[dp] at h
  split at h
  ·cases h
   have h2:¬V.str (kw (.pt n rs))=V.str (Str.ofString "done"):=fun z=>k2 (V.str.inj z)
   rw[decide_eq_false h2,decide_eq_true (show V.str (kw (.pt n rs))=V.str (Str.ofString "part") from rfl)]
   simp
  ·cases h
 | dn=>
  simp only[dp] at h
  split at h
  ·cases h
   have h2:¬V.str (kw .dn)=V.str (Str.ofString "part"):=fun z=>k2 (V.str.inj z).symm
   rw[decide_eq_false h2,decide_eq_true (show V.str (kw .dn)=V.str (Str.ofString "done") from rfl)]
   simp;omega
  ·cases h
 | lt a b=>cases h;exact none (by simp [kw])
 | mu l w a n r=>cases h;exact none (by simp [kw])
 | my l w a=>cases h;exact none (by simp [kw])
 | bn l w a r=>cases h;exact none (by simp [kw])
 | pw l w a r=>cases h;exact none (by simp [kw])
theorem fX {α:Type} (x:α):∀n:Nat,(List.replicate n [x]).flatten=List.replicate n x
 | 0=>rfl
 | n + 1=>by rw[List.replicate_succ,List.flatten_cons,fX x n];rfl
theorem cx {c:Int} {I:List Nat} (h:I.Nodup) (hb:∀i∈I,i < 208):(I.map fun (i:Nat)=>wV c (i:Int)).Nodup:=by
 induction I with
 | nil=>simp
 | cons a r ih=>
  rw[List.nodup_cons] at h
  (rw[List.map_cons,List.nodup_cons])
  refine⟨fun hm=>?_,ih h.2 fun i hi=>hb i (List.mem_cons_of_mem _ hi)⟩
  obtain⟨b,hbm,e⟩:=List.mem_map.mp hm
  have ha:=hb a List.mem_cons_self
  have hb':=hb b (List.mem_cons_of_mem _ hbm)
  have:=KS (c:=c) (k1:=b) (k2:=a) (by omega) (by omega) e
  exact h.1 (by rw[show a=b by omega];exact hbm)
noncomputable def tM (K:PySem.W.Frag):Sp:=fun vs H Q _=>∃(a b:Addr) (c:Int) (ns:List Int),vs=[.ref a,.ref b]∧q0 K H a ((NN c).map V.str)∧q0 K H b (ns.map V.int)∧ns.length≤63∧∀l H' ws evs,qg H H'→H l=none→H' l=some (.lst ws)→Paired (aj H') ws evs→VR evs→Q (.ref l) H'
section
variable {P:Program} {w:World} {K:PySem.W.Frag} {mg:Str→Option Value} {base:Heap} {t:xh}
theorem kz:qQ ["_law_names","_law_script","_law_base","_law_events_here","_law_depth","_law_number","_law_event_here"] ["_law_names","_law_script"] (z5 xV):=⟨rfl,rfl,rfl,by decide +kernel,rfl,by decide +kernel,by decide +kernel⟩
set_option maxHeartbeats 400000 in
theorem nj (T:Txt K mg t):qJ P w K mg base jX 3 t.gP t.gm ["_law_names","_law_script"] (tM K):=by
 have G_w_cell_at:qJ P w K mg base jX 2 t.wy t.vT ["_law_script","_law_k"] (oN K):=(fA T).mono (by decide)
 have G_w_event:qJ P w K mg base jX 2 t.bA t.pe ["_law_names","_law_cell","_law_label","_law_depth"] (iY K):=(ic T).mono (by decide)
 refine T.bf.fn.ok kz (fun vs H Q E h=>(by obtain⟨_,_,_,_,rfl,_⟩:=h;rfl)) (fun cdv A outer s H vs Q E hr h=>?_)
 obtain⟨a,b,c,ns,rfl,hA,hS,hl,k⟩:=h
 refine⟨_,(z6 (qi (i:=2) kz.nd rfl (Or.inl rfl) (qk d9 (qk qE (qu G_w_cell_at hr rfl T.jg.mg T.jg.fn.kp T.jg.bd .nil qX (z4 (pv 1) (z4 z8 z7))) z8) z8))
   (z6 (qi (i:=3) kz.nd rfl (Or.inl rfl) (jx z7) bO)
   (z6 (qi (i:=4) kz.nd rfl (Or.inl rfl) z8)
   (z6 (pN PassesOwn.never rfl (wF rfl T.yr (z4 (qZ (qT (K:=K) rfl) rfl T.xY PySem.boot_len (z4 (xH (xA (K:=K) rfl) (pv 1) (xR z8) (xR z8)) z7)) z7)) (kh (i:=5) kz.nd rfl (Or.inl rfl))
    (z6 (qi (i:=6) kz.nd rfl (Or.inl rfl) (qu G_w_event hr rfl T.mK.mg T.mK.fn.kp T.mK.bd .nil qX (z4 (pv 0) (z4 (qu G_w_cell_at hr rfl T.jg.mg T.jg.fn.kp T.jg.bd .nil qX (z4 (pv 1) (z4 (qk jI z8 (pv 5)) z7))) (z4 (qo (qf (K:=K) rfl) (pv 0) (qk jI (pv 2) (pv 5)) (fun _ _=>rfl)) (z4 (pv 4) z7))))))
   (z6 (qi (i:=4) kz.nd rfl (Or.inl rfl) (qk fz (qk jI (pv 4) (jB wG rfl T.fH PyProof.Rows.boot_int (z4 (kg jh (qo (jk (K:=K) rfl) (pv 6) z8 (fun _ _=>rfl)) qj (qr _)) z7))) (jB wG rfl T.fH PyProof.Rows.boot_int (z4 (kg jh (qo (jk (K:=K) rfl) (pv 6) z8 (fun _ _=>rfl)) qj (qr _)) z7))))
   (z9 (xS (ko PySem.F.plainAttrs_list PySem.F.slot_list_append PySem.F.type_list_append kN (pv 3) (z4 (pv 6) z7)))))))
   (z9 (qy (qk wA (pv 3) (qk rL (jx (z4 (yg (z4 qj z7)) z7)) (pv 4))))))))),?_⟩
 have hN:=uZ c
 refine⟨_,rfl,b,2,ns,rfl,hS,by decide,?_⟩
 have b0:0≤kT ns 2 % 2:=Int.emod_nonneg _ (by decide)
 have b1:kT ns 2 % 2 < 2:=Int.emod_lt_of_pos _ (by decide)
 obtain⟨bs,ebs,hbs⟩:∃bs:Nat,kT ns 2 % 2 * 22=bs∧bs≤22:=⟨(kT ns 2 % 2 * 22).toNat,by omega,by omega⟩
 walk_at "rd"
 intro le H1 s1 hle e1
 walk_at "rd"
 intro l2 H2 s2 hl2 e2
 refine⟨l2,_,rfl,.inl (q0.of e2),?_⟩
 have hcl:(hU (ns.map V.int) (some 3) (some 63)).length≤60:=by
  show (hU (ns.map V.int) (some ((3:Nat):Int)) (some ((63:Nat):Int))).length≤60
  unfold hU
  rw[HT.pZ,HT.pZ,List.length_take,List.length_drop,List.length_map]
  omega
 generalize hm:(hU (ns.map V.int) (some 3) (some 63)).length=m at *
 refine⟨_,rfl,by omega,by omega,?_⟩
 have emt:((m:Int)).toNat=m:=Int.toNat_natCast m
 rw[emt]
 refine pk (lo:=0) (n:=m) (fun i σ H'=>∃(ws:List V) (evs:List Ew) (I:List Nat) (d:Nat) (v5 v6:Option V),σ=[some (.ref a),some (.ref b),some (.int bs),some (.ref le),some (.int d),v5,v6]∧qg H H'∧H' le=some (.lst ws)∧Paired (Qw le H') ws evs∧(∀e∈evs,e.ok)∧cw 0 evs=some d∧d≤6∧evs.length=i∧xT evs=I.map (fun (j:Nat)=>wV c (j:Int))∧I.Nodup∧∀x∈I,x < bs + i)
  ⟨[],[],[],0,none,none,by rw[←ebs];rfl,s1.trans s2,s2 _ _ e1,.nil,fun _ z=>(by cases z),rfl,by omega,rfl,rfl,by simp,fun _ z=>(by cases z)⟩ ?_ ?_
 ·rintro i σ H3 hi ⟨ws,evs,I,d,v5,v6,rfl,s3,e3,hP,jz,hdp,h6,hlen,hlab,hnd,hI⟩
  have hA3:=s3.seq hA
  have hS3:=s3.seq hS
  have hm':i < m:=by omega
  walk_at "rd"
  refine⟨b,3 + (0 + (i:Int)),ns,rfl,hS3,by omega,?_⟩
  have hix:uL ((NN c).map V.str) ((bs:Int) + (0 + (i:Int)))=some (.str (wV c ((bs + i:Nat):Int))):=by
   rw[ba (by omega) (by omega),show ((bs:Int) + (0 + (i:Int))).toNat=bs + i by omega,bW c (by omega)]
  refine⟨_,rfl,_,rfl,_,rfl,_,_,rfl,rfl,a,_,_,_,rfl,rfl,hA3,hix,?_⟩
  refine⟨_,rfl,a,c,_,_,d,rfl,hA3,(iH ns _).1,gU c,fun v e H4 s4 he hg=>?_⟩
  obtain⟨g1,g2,g3⟩:=hg
  obtain⟨d',ed⟩:=Option.isSome_iff_exists.mp g3
  have hF:Qw le H4 v e:=he le (by rw[e3];intro z;cases z)
  obtain⟨p,xs,rfl,ep,ex⟩:=hF.ev.first
  refine⟨_,rfl,_,rfl,p,_,_,_,rfl,rfl,pD.of ep,ex,?_⟩
  walk_at "rd"
  refine .inr ⟨_,rfl,?_⟩
  walk_at "rd"
  refine⟨p,_,_,_,rfl,rfl,pD.of ep,ex,?_⟩
  walk_at "rd"
  refine .inr ⟨_,rfl,?_⟩
  walk_at "rd"
  have e4:=s4 _ _ e3
  refine⟨le,_,_,rfl,rfl,e4,qx (by have:=Paired.length hP;omega),?_⟩
  intro H5 k5 e5
  have sB:qg H H5:=k5.put (s3.trans s4) hle
  have hd6:d'≤6:=Xn ed h6
  refine⟨ws ++ [.ref p],evs ++ [e],if gA e=[] then I else I ++ [bs + i],d',_,_,by rw[←VZ ed];rfl,sB,e5,Paired.snoc (Paired.imp' (fun _ _ z=>(z.same s4).keeps k5 e4) hP) (hF.keeps k5 e4),fun x hx=>?_,by rw[gf,hdp];show (dp d e).bind _=_;rw[ed];rfl,hd6,by rw[List.length_append,hlen];rfl,?_,?_,fun x hx=>?_⟩
  ·(rcases List.mem_append.mp hx with hx | hx)
   ·exact jz x hx
   ·rw[List.mem_singleton.mp hx];exact g1
  ·rw[wB,hlab]
   have e1:xT [e]=gA e:=by simp [xT]
   rw[e1]
   rcases g2 with g2 | g2
   ·rw[if_pos g2,g2,List.append_nil]
   ·rw[if_neg (by rw[g2];simp),g2,List.map_append];rfl
  ·split
   ·exact hnd
   ·rw[List.nodup_append]
    exact⟨hnd,by simp,fun x hx y hy z=>by have:=hI x hx;rw[List.mem_singleton.mp hy] at z;omega⟩
  ·split at hx
   ·have:=hI x hx;omega
   ·(rcases List.mem_append.mp hx with hx | hx)
    ·have:=hI x hx;omega
    ·rw[List.mem_singleton.mp hx];omega
 ·rintro σ H3 ⟨ws,evs,I,d,v5,v6,rfl,s3,e3,hP,jz,hdp,h6,hlen,hlab,hnd,hI⟩
  walk_at "rd"
  intro tq H4 s4 htq e4
  walk_at "rd"
  intro lq H5 s5 hlq e5
  refine⟨_,rfl,lq,(d:Int),_,rfl,rfl,e5,by omega,by omega,qx (by simp only[List.length_cons,List.length_nil,Int.toNat_natCast];omega),fun q hq=>?_⟩
  have s6:qg H5 (upd H5 q (.lst (List.replicate ((d:Nat):Int).toNat [V.ref tq]).flatten)):=qg.uP hq
  have hwl:ws.length=evs.length:=Paired.length hP
  refine⟨le,q,_,_,rfl,rfl,s6 _ _ (s5 _ _ (s4 _ _ e3)),qw,qx (by rw[len_rep];simp only[List.length_cons,List.length_nil,Int.toNat_natCast];omega),?_⟩
  intro l7 H7 s7 hl7 e7
  have sA:=(((s3.trans s4).trans s5).trans s6).trans s7
  rw[Int.toNat_natCast,fX] at e7
  refine k l7 H7 _ (evs ++ List.replicate d .dn) sA ((((s3.trans s4).trans s5).trans s6).free hl7) e7 (Paired.app (Paired.imp' (fun _ _ z=>(z.ev).same (((s4.trans s5).trans s6).trans s7)) hP) (ux (show aj H7 (.ref tq) .dn from ⟨tq,rfl,((s5.trans s6).trans s7) _ _ e4⟩) d)) ⟨fun e he=>?_,?_,?_,?_⟩
  ·(rcases List.mem_append.mp he with he | he)
   ·exact jz e he
   ·rw[(List.mem_replicate.mp he).2];exact True.intro
  ·rw[gf,hdp];exact rE d
  ·rw[wB,fu,List.append_nil,hlab];exact cx hnd fun x hx=>by have:=hI x hx;omega
  ·rw[List.length_append,List.length_replicate];omega
end
theorem Jv {α:Type} (f:α→V) (xs:List α) (n m:Nat) (h:n + m≤xs.length):hU (xs.map f) (some (n:Int)) (some ((n + m:Nat):Int))=((xs.drop n).take m).map f:=by
 unfold hU
 rw[HT.pZ,HT.pZ,List.length_map,Nat.min_eq_left (show n≤xs.length by omega),Nat.min_eq_left (show n + m≤xs.length from h),←List.map_drop,←List.map_take,Nat.add_sub_cancel_left]
theorem Qn (c:Int) {n m:Nat} (h:n + m≤104):((NN c).drop n).take m=(List.range m).map fun (j:Nat)=>wV c ((n + j:Nat):Int):=by
 apply List.ext_getElem?
 intro i
 by_cases q:i < m
 ·rw[List.getElem?_take_of_lt q,List.getElem?_drop,List.getElem?_map,List.getElem?_range q]
  unfold NN
  rw[List.getElem?_map,List.getElem?_range (by omega)]
  rfl
 ·rw[List.getElem?_eq_none_iff.mpr (by rw[List.length_take];omega),List.getElem?_eq_none_iff.mpr (by rw[List.length_map,List.length_range];omega)]
structure Gd (c:Int) (ps as:List Str) (qR:List (Str × Str)):Prop where
 hd:XB ps as qR
 ps:ps=(List.range ps.length).map fun (j:Nat)=>wV c (j:Int)
 as:as=(List.range as.length).map fun (j:Nat)=>wV c ((4 + j:Nat):Int)
 qR:qR.map (·.2)=(List.range qR.length).map fun (j:Nat)=>wV c ((10 + j:Nat):Int)
theorem tQ (c:Int) {n0 n1 n2:Nat} (h0:n0≤4) (h1:n1≤6) (h2:n2≤12):((List.range n0).map (fun (j:Nat)=>wV c (j:Int)) ++ (List.range n1).map (fun (j:Nat)=>wV c ((4 + j:Nat):Int)) ++ (List.range n2).map (fun (j:Nat)=>wV c ((10 + j:Nat):Int))).Nodup:=by
 have:=cx (c:=c) (I:=List.range n0 ++ (List.range n1).map (4 + ·) ++ (List.range n2).map (10 + ·)) ?_ ?_
 ·rw[List.map_append,List.map_append,List.map_map,List.map_map] at this
  exact this
 ·rw[List.nodup_append,List.nodup_append]
  refine⟨⟨List.nodup_range,?_,?_⟩,?_,?_⟩
  ·exact List.Pairwise.map _ (fun a b h z=>h (by omega)) List.nodup_range
  ·intro x hx y hy z
   obtain⟨j,_,rfl⟩:=List.mem_map.mp hy
   have:=List.mem_range.mp hx
   omega
  ·exact List.Pairwise.map _ (fun a b h z=>h (by omega)) List.nodup_range
  ·intro x hx y hy z
   obtain⟨j,_,rfl⟩:=List.mem_map.mp hy
   (rcases List.mem_append.mp hx with hx | hx)
   ·have:=List.mem_range.mp hx;omega
   ·obtain⟨j',hj',rfl⟩:=List.mem_map.mp hx
    have:=List.mem_range.mp hj'
    omega
 ·intro x hx
  (rcases List.mem_append.mp hx with hx | hx)
  ·(rcases List.mem_append.mp hx with hx | hx)
   ·have:=List.mem_range.mp hx;omega
   ·obtain⟨j',hj',rfl⟩:=List.mem_map.mp hx
    have:=List.mem_range.mp hj'
    omega
  ·obtain⟨j',hj',rfl⟩:=List.mem_map.mp hx
   have:=List.mem_range.mp hj'
   omega
theorem lQ (c k:Int):(wV c k).length≤8:=(kq (gU c)).2.1
noncomputable def ZM (H:Hp) (p:Addr) (ps as:List Str) (qR:List (Str × Str)):Prop:=∃lp la lr vs,H p=some (.tup [.ref lp,.ref la,.ref lr])∧H lp=some (.lst (ps.map V.str))∧H la=some (.lst (as.map V.str))∧H lr=some (.lst vs)∧Paired (vK H) vs qR
theorem ZM.same {H H':Hp} {p:Addr} {ps as:List Str} {qR:List (Str × Str)} (h:ZM H p ps as qR) (s:qg H H'):ZM H' p ps as qR:=by
 obtain⟨lp,la,lr,vs,h1,h2,h3,h4,h5⟩:=h
 exact⟨lp,la,lr,vs,s _ _ h1,s _ _ h2,s _ _ h3,s _ _ h4,Paired.imp' (fun _ _ z=>z.same s) h5⟩
noncomputable def Zo (K:PySem.W.Frag):Sp:=fun vs H Q _=>∃(a:Addr) (c cell:Int),vs=[.ref a,.int cell]∧q0 K H a ((NN c).map V.str)∧0≤cell∧∀ps as qR p H',Gd c ps as qR→qg H H'→H p=none→ZM H' p ps as qR→Q (.ref p) H'
noncomputable def YJ:List Str:=["calm","sore","end"]
theorem VY:∀j < 3,YJ.getD j ""∈xw:=by decide +kernel
section
variable {P:Program} {w:World} {K:PySem.W.Frag} {mg:Str→Option Value} {base:Heap} {t:xh}
theorem vA:qQ ["_law_names","_law_cell","_law_parties","_law_acts","_law_rooms","_law_k"] ["_law_names","_law_cell"] (z5 xW):=⟨rfl,rfl,rfl,by decide +kernel,rfl,by decide +kernel,by decide +kernel⟩
set_option maxHeartbeats 400000 in
theorem sO (T:Txt K mg t):qJ P w K mg base jX 2 t.gH t.gs ["_law_names","_law_cell"] (Zo K):=by
 have G_w_mix:qJ P w K mg base jX 1 t.gK t.gh ["_law_cell","_law_k"] sN:=(fY T).mono (by decide)
 refine T.bZ.fn.ok vA (fun vs H Q E h=>(by obtain⟨_,_,_,rfl,_⟩:=h;rfl)) (fun cdv A outer s H vs Q E hr h=>?_)
 obtain⟨a,c,cell,rfl,hA,hc,k⟩:=h
 refine⟨_,(z6 (qi (i:=2) vA.nd rfl (Or.inl rfl) (xH (xA (K:=K) rfl) (pv 0) vU (xR (qk jI z8 (qk qE (pv 1) z8)))))
   (z6 (qi (i:=3) vA.nd rfl (Or.inl rfl) (xH (xA (K:=K) rfl) (pv 0) (xR z8) (xR (qk jI z8 (qk qE (qk kY (pv 1) z8) z8)))))
   (z6 (qi (i:=4) vA.nd rfl (Or.inl rfl) (jx z7) bO)
   (z6 (pN PassesOwn.never rfl (wF rfl T.yr (z4 (qk jI z8 (qk qE (qk kY (pv 1) z8) z8)) z7)) (kh (i:=5) vA.nd rfl (Or.inl rfl))
    (z9 (xS (ko PySem.F.plainAttrs_list PySem.F.slot_list_append PySem.F.type_list_append kN (pv 4) (z4 (yg (z4 (qo (qf (K:=K) rfl) (jx (z4 qj (z4 qj (z4 qj z7)))) (qk qE (qu G_w_mix hr rfl T.jl.mg T.jl.fn.kp T.jl.bd .nil qX (z4 (pv 1) (z4 (pv 5) z7))) z8) (fun _ _=>rfl)) (z4 (qo (qf (K:=K) rfl) (pv 0) (qk jI z8 (pv 5)) (fun _ _=>rfl)) z7))) z7)))))
   (z9 (qy (yg (z4 (pv 2) (z4 (pv 3) (z4 (pv 4) z7)))))))))),?_⟩
 have hN:=uZ c
 have m0a:0≤cell % 4:=Int.emod_nonneg _ (by decide)
 have m0b:cell % 4 < 4:=Int.emod_lt_of_pos _ (by decide)
 have m1a:0≤cell / 4 % 6:=Int.emod_nonneg _ (by decide)
 have m1b:cell / 4 % 6 < 6:=Int.emod_lt_of_pos _ (by decide)
 have m2a:0≤cell / 24 % 12:=Int.emod_nonneg _ (by decide)
 have m2b:cell / 24 % 12 < 12:=Int.emod_lt_of_pos _ (by decide)
 obtain⟨n0,en0⟩:=Int.eq_ofNat_of_zero_le (show 0≤1 + cell % 4 by omega)
 obtain⟨n1,en1⟩:=Int.eq_ofNat_of_zero_le (show 0≤1 + cell / 4 % 6 by omega)
 obtain⟨n2,en2⟩:=Int.eq_ofNat_of_zero_le (show 0≤1 + cell / 24 % 12 by omega)
 walk_at "rd"
 intro lp H1 s1 hlp e1
 have e1':H1 lp=some (.lst (((NN c).take n0).map V.str)):=by rw[←uw V.str (NN c) n0,←en0];exact e1
 clear e1
 have hA1:=s1.seq hA
 walk_at "rd"
 intro la H2 s2 hla e2
 have e2':H2 la=some (.lst ((((NN c).drop 4).take n1).map V.str)):=by
  rw[←Jv V.str (NN c) 4 n1 (by omega),show ((4 + n1:Nat):Int)=5 + cell / 4 % 6 by omega]
  exact e2
 clear e2
 walk_at "rd"
 intro lr H3 s3 hlr e3
 walk_at "rd"
 have ent:(1 + cell / 24 % 12).toNat=n2:=by omega
 have sA:qg H H3:=(s1.trans s2).trans s3
 have hlr0:H lr=none:=(s1.trans s2).free hlr
 have ne1:lp≠lr:=qv (s2 _ _ e1') hlr
 have ne2:la≠lr:=qv e2' hlr
 refine pk (lo:=0) (n:=(1 + cell / 24 % 12).toNat) (fun i σ H'=>∃(vs:List V) (qR:List (Str × Str)) (v5:Option V),σ=[some (.ref a),some (.int cell),some (.ref lp),some (.ref la),some (.ref lr),v5]∧qg H H'∧H' lr=some (.lst vs)∧H' lp=some (.lst (((NN c).take n0).map V.str))∧H' la=some (.lst ((((NN c).drop 4).take n1).map V.str))∧Paired (vK H') vs qR∧(∀mn∈qR,mC mn)∧qR.map (·.2)=(List.range i).map (fun (j:Nat)=>wV c ((10 + j:Nat):Int)))
  ⟨[],[],none,rfl,sA,e3,s3 _ _ (s2 _ _ e1'),s3 _ _ e2',.nil,fun _ z=>(by cases z),rfl⟩ ?_ ?_
 ·rintro i σ H4 hi ⟨vs,qR,v5,rfl,s4,e4,p4,a4,hP,h4,g4⟩
  rw[ent] at hi
  have hA4:=s4.seq hA
  have x0:0≤yb cell (0 + (i:Int)) % 3:=Int.emod_nonneg _ (by decide)
  have x1:yb cell (0 + (i:Int)) % 3 < 3:=Int.emod_lt_of_pos _ (by decide)
  have hlen:qR.length=i:=by have:=congrArg List.length g4;simpa using this
  have ei:(NN c).getD (10 + (0 + (i:Int))).toNat (Str.ofString "")=wV c ((10 + i:Nat):Int):=by
   rw[show (10 + (0 + (i:Int))).toNat=10 + i by omega];exact bW c (by omega)
  walk_at "rd"
  intro l8 H8 s8 hl8 e8
  have e8':H8 l8=some (.lst (YJ.map V.str)):=e8
  clear e8
  have hA8:=s8.seq hA4
  refine⟨_,rfl,_,rfl,cell,_,rfl,by omega,by omega,?_⟩
  refine⟨_,_,rfl,rfl,(show (0:Int) < 3 by decide),?_⟩
  refine⟨l8,_,_,_,rfl,rfl,q0.of e8',ba x0 (show _ < (3:Int) from x1),?_⟩
  refine⟨_,rfl,_,rfl,_,_,rfl,rfl,a,_,_,_,rfl,rfl,hA8,ba (by omega) (by omega),?_⟩
  rw[ei]
  have hm:=VY (yb cell (0 + (i:Int)) % 3).toNat (by omega)
  walk_at "rd"
  intro q H9 s9 hq e9
  have e49:=s9 _ _ (s8 _ _ e4)
  refine⟨lr,_,_,rfl,rfl,e49,qx (by have:=Paired.length hP;omega),?_⟩
  intro H10 k10 e10
  have hP9:Paired (vK H9) (vs ++ [.ref q]) (qR ++ [(YJ.getD (yb cell (0 + (i:Int)) % 3).toNat "",wV c ((10 + i:Nat):Int))]):=Paired.snoc (Paired.imp' (fun _ _ z=>z.same (s8.trans s9)) hP) ⟨q,rfl,e9⟩
  refine⟨_,_,_,rfl,k10.put ((s4.trans s8).trans s9) hlr0,e10,k10.look (s9 _ _ (s8 _ _ p4)) ne1,k10.look (s9 _ _ (s8 _ _ a4)) ne2,Paired.imp' (fun _ _ z=>z.keeps k10 e49) hP9,fun mn hmn=>?_,?_⟩
  ·(rcases List.mem_append.mp hmn with q | q)
   ·exact h4 mn q
   ·rw[List.mem_singleton.mp q];exact⟨hm,gU c⟩
  ·rw[List.map_append,g4,List.range_succ,List.map_append];rfl
 ·rintro σ H4 ⟨vs,qR,v5,rfl,s4,e4,p4,a4,hP,h4,g4⟩
  rw[ent] at g4
  have hlen:qR.length=n2:=by have:=congrArg List.length g4;simpa using this
  have lps:((NN c).take n0).length=n0:=by rw[List.length_take,hN];omega
  have las:(((NN c).drop 4).take n1).length=n1:=by rw[List.length_take,List.length_drop,hN];omega
  have e0:(NN c).take n0=(List.range n0).map fun (j:Nat)=>wV c (j:Int):=by
   have:=Qn c (n:=0) (m:=n0) (by omega)
   rw[List.drop_zero] at this
   rw[this]
   exact List.map_congr_left fun j _=>by rw[Nat.zero_add]
  have e1:=Qn c (n:=4) (m:=n1) (by omega)
  have nd:=tQ c (n0:=n0) (n1:=n1) (n2:=n2) (by omega) (by omega) (by omega)
  walk_at "rd"
  intro q H5 s5 hq e5
  refine k _ _ qR q H5 ⟨⟨by omega,by omega,by omega,by omega,by omega,by omega,fun x hx=>?_,fun x hx=>?_,h4,by rw[g4,e0,e1];exact nd⟩,by rw[lps];exact e0,by rw[las];exact e1,by rw[hlen];exact g4⟩ (s4.trans s5) (s4.free hq) ⟨lp,la,lr,vs,e5,s5 _ _ p4,s5 _ _ a4,s5 _ _ e4,Paired.imp' (fun _ _ z=>z.same s5) hP⟩
  ·rw[e0] at hx
   obtain⟨j,_,rfl⟩:=List.mem_map.mp hx
   exact gU c
  ·rw[e1] at hx
   obtain⟨j,_,rfl⟩:=List.mem_map.mp hx
   exact gU c
end
theorem sL:("let " : Str).cps.toList=("let" : Str).cps.toList ++ [32]∧(" be " : Str).cps.toList=32 :: (("be" : Str).cps.toList ++ [32])∧(" " : Str).cps.toList=[32]∧("must " : Str).cps.toList=("must" : Str).cps.toList ++ [32]∧(" by " : Str).cps.toList=32 :: (("by" : Str).cps.toList ++ [32])∧(" else " : Str).cps.toList=32 :: (("else" : Str).cps.toList ++ [32])∧("may " : Str).cps.toList=("may" : Str).cps.toList ++ [32]∧("may not " : Str).cps.toList=("may" : Str).cps.toList ++ 32 :: (("not" : Str).cps.toList ++ [32])∧("by " : Str).cps.toList=("by" : Str).cps.toList ++ [32]∧(" to " : Str).cps.toList=32 :: (("to" : Str).cps.toList ++ [32]):=by decide +kernel
theorem KQ (a b:Str):Str.ofString "let " ++ a ++ Str.ofString " be " ++ b=Ew.row (.lt a b):=by
 obtain⟨h1,h2,h3,h4,h5,h6,h7,h8,h9,h10⟩:=sL
 refine xx ?_
 unfold Ew.row Ew.ws
 rw[join_eq,qt,qt,qt,L2.join_one,cps_append,cps_append,cps_append,h1,h2]
 simp
theorem X6 (l w a s r:Str):l ++ Str.ofString " " ++ w ++ Str.ofString " " ++ Str.ofString "must " ++ a ++ Str.ofString " by " ++ s ++ Str.ofString " else " ++ r=Txt.join " " [l,w,"must",a,"by",s,"else",r]:=by
 obtain⟨h1,h2,h3,h4,h5,h6,h7,h8,h9,h10⟩:=sL
 refine xx ?_
 rw[join_eq,qt,qt,qt,qt,qt,qt,qt,L2.join_one,cps_append,cps_append,cps_append,cps_append,cps_append,cps_append,cps_append,cps_append,cps_append,h3,h4,h5,h6]
 simp
theorem KH (l w a:Str):l ++ Str.ofString " " ++ w ++ Str.ofString " " ++ Str.ofString "may " ++ a=Ew.row (.my l w a):=by
 obtain⟨h1,h2,h3,h4,h5,h6,h7,h8,h9,h10⟩:=sL
 refine xx ?_
 unfold Ew.row Ew.ws
 rw[join_eq,qt,qt,qt,L2.join_one,cps_append,cps_append,cps_append,cps_append,cps_append,h3,h7]
 simp
theorem Kb (l w a r:Str):l ++ Str.ofString " " ++ w ++ Str.ofString " " ++ Str.ofString "may not " ++ a ++ Str.ofString " else " ++ r=Ew.row (.bn l w a r):=by
 obtain⟨h1,h2,h3,h4,h5,h6,h7,h8,h9,h10⟩:=sL
 refine xx ?_
 unfold Ew.row Ew.ws
 rw[join_eq,qt,qt,qt,qt,qt,qt,L2.join_one,cps_append,cps_append,cps_append,cps_append,cps_append,cps_append,cps_append,h3,h6,h8]
 simp
theorem Vc (l w a r:Str):l ++ Str.ofString " " ++ w ++ Str.ofString " " ++ Str.ofString "by " ++ a ++ Str.ofString " to " ++ r=Ew.row (.pw l w a r):=by
 obtain⟨h1,h2,h3,h4,h5,h6,h7,h8,h9,h10⟩:=sL
 refine xx ?_
 unfold Ew.row Ew.ws
 rw[join_eq,qt,qt,qt,qt,qt,L2.join_one,cps_append,cps_append,cps_append,cps_append,cps_append,cps_append,cps_append,h3,h9,h10]
 simp
theorem rA {u:Str} (h:oB u):u.length≤8:=by
 rcases h with h | rfl
 ·exact(kq h).2.1
 ·decide +kernel
theorem jo {u:Str} (h:qe u=true):u.length≤8:=(kq h).2.1
noncomputable def Xf:Sp:=fun vs H Q _=>∃(v:V) (e:Ew),vs=[v]∧aj H v e∧e.ok∧∀H',qg H H'→Q (.str e.row) H'
section
variable {P:Program} {w:World} {K:PySem.W.Frag} {mg:Str→Option Value} {base:Heap} {t:xh}
theorem cA:qQ ["_law_event_here","_law_head"] ["_law_event_here"] (z5 wX):=⟨rfl,rfl,rfl,by decide +kernel,rfl,by decide +kernel,by decide +kernel⟩
set_option maxHeartbeats 400000 in
theorem Qf (T:Txt K mg t):qJ P w K mg base jX 1 t.dR t.dP ["_law_event_here"] Xf:=by
 refine T.tK.fn.ok cA (fun vs H Q E h=>(by obtain⟨_,_,rfl,_⟩:=h;rfl)) (fun cdv A outer s H vs Q E hr h=>?_)
 obtain⟨v,e,rfl,hE,jz,k⟩:=h
 refine⟨_,(z6 (qG (qp jh (qo (jk (K:=K) rfl) (pv 0) z8 (fun _ _=>rfl)) qj (qr _))
    (z9 (qy qj)) qm)
   (z6 (qG (qp jh (qo (jk (K:=K) rfl) (pv 0) z8 (fun _ _=>rfl)) qj (qr _))
    (z9 (qy (qk ql (qk ql (qk ql qj (qo (jk (K:=K) rfl) (pv 0) z8 (fun _ _=>rfl))) qj) (qo (jk (K:=K) rfl) (pv 0) z8 (fun _ _=>rfl))))) qm)
   (z6 (qG (qp jh (qo (jk (K:=K) rfl) (pv 0) z8 (fun _ _=>rfl)) qj (qr _))
    (z9 (qy (ko PySem.F.plainAttrs_str PySem.F.slot_str_join PySem.F.type_str_join (w6 (K:=K) rfl) qj (z4 (qk wA (qk wA (jx (z4 qj (z4 (qo (jk (K:=K) rfl) (pv 0) z8 (fun _ _=>rfl)) z7))) (qk rL (jx (z4 qj z7)) (jB wG rfl T.fH PyProof.Rows.boot_int (z4 (kg (JS (K:=K) rfl hr.units) (qo (jk (K:=K) rfl) (pv 0) z8 (fun _ _=>rfl)) (jx z7) (qr _)) z7)))) (qo (jk (K:=K) rfl) (pv 0) z8 (fun _ _=>rfl))) z7)))) qm)
   (z6 (qi (i:=1) cA.nd rfl (Or.inl rfl) (qk ql (qk ql (qk ql (qo (jk (K:=K) rfl) (pv 0) z8 (fun _ _=>rfl)) qj) (qo (jk (K:=K) rfl) (pv 0) z8 (fun _ _=>rfl))) qj))
   (z6 (qG (qp jh (qo (jk (K:=K) rfl) (pv 0) z8 (fun _ _=>rfl)) qj (qr _))
    (z6 (qi (i:=1) cA.nd rfl (Or.inl rfl) (qk ql (qk ql (qk ql (pv 1) qj) (qo (jk (K:=K) rfl) (pv 0) z8 (fun _ _=>rfl))) qj))
   (z9 (qy (qk ql (qk ql (qk ql (pv 1) (jB sq rfl T.Xd PyProof.Rows.boot_str (z4 (qo (jk (K:=K) rfl) (pv 0) z8 (fun _ _=>rfl)) z7))) qj) (qo (jk (K:=K) rfl) (pv 0) z8 (fun _ _=>rfl)))))) qm)
   (z6 (qG (qp jh (qo (jk (K:=K) rfl) (pv 0) z8 (fun _ _=>rfl)) qj (qr _))
    (z9 (qy (qk ql (qk ql (pv 1) qj) (qo (jk (K:=K) rfl) (pv 0) z8 (fun _ _=>rfl))))) qm)
   (z6 (qG (qp jh (qo (jk (K:=K) rfl) (pv 0) z8 (fun _ _=>rfl)) qj (qr _))
    (z9 (qy (qk ql (qk ql (qk ql (qk ql (pv 1) qj) (qo (jk (K:=K) rfl) (pv 0) z8 (fun _ _=>rfl))) qj) (qo (jk (K:=K) rfl) (pv 0) z8 (fun _ _=>rfl))))) qm)
   (z9 (qy (qk ql (qk ql (qk ql (qk ql (pv 1) qj) (qo (jk (K:=K) rfl) (pv 0) z8 (fun _ _=>rfl))) qj) (qo (jk (K:=K) rfl) (pv 0) z8 (fun _ _=>rfl)))))))))))),?_⟩
 cases e with
 | dn=>
  obtain⟨p,rfl,ep⟩:=hE
  have:=k H (qg.refl _)
  rw[vH] at this
  walk_at "rd"
  exact this
 | lt a b=>
  obtain⟨p,rfl,ep⟩:=hE
  have:=k H (qg.refl _)
  rw[←KQ] at this
  have l1:=jo jz.1
  have l2:=jo jz.2
  walk_at "rd"
  exact this
 | mu l w a n r=>
  obtain⟨p,rfl,ep⟩:=hE
  have:=k H (qg.refl _)
  have er:Ew.row (.mu l w a n r)=_:=(X6 l w a (Str.ofString (toString n)) r).symm
  rw[er] at this
  have l1:=jo jz.1
  have l2:=jo jz.2.1
  have l3:=jo jz.2.2.1
  have l4:=jo jz.2.2.2.2.2
  have n1:=jz.2.2.2.1
  have n2:=jz.2.2.2.2.1
  have l5:=(sg n1 n2).2.2.2
  have l6:=aS (n:=n) (by omega) (by omega)
  walk_at "rd"
  exact this
 | my l w a=>
  obtain⟨p,rfl,ep⟩:=hE
  have:=k H (qg.refl _)
  rw[←KH] at this
  have l1:=jo jz.1
  have l2:=rA jz.2.1
  have l3:=jo jz.2.2
  walk_at "rd"
  exact this
 | bn l w a r=>
  obtain⟨p,rfl,ep⟩:=hE
  have:=k H (qg.refl _)
  rw[←Kb] at this
  have l1:=jo jz.1
  have l2:=rA jz.2.1
  have l3:=jo jz.2.2.1
  have l4:=jo jz.2.2.2
  walk_at "rd"
  exact this
 | pw l w a r=>
  obtain⟨p,rfl,ep⟩:=hE
  have:=k H (qg.refl _)
  rw[←Vc] at this
  have l1:=jo jz.1
  have l2:=rA jz.2.1
  have l3:=jo jz.2.2.1
  have l4:=jo jz.2.2.2
  walk_at "rd"
  exact this
 | pt n rs=>
  obtain⟨p,q,rfl,ep,eq⟩:=hE
  have hl12:=jz.2.2
  walk_at "rd"
  intro l1 H1 s1 hl1 e1
  walk_at "rd"
  intro l2 H2 s2 hl2 e2
  walk_at "rd"
  intro l3 H3 s3 hl3 e3
  have sh:SeqAt.shaped (.list (rs.map PyData.str))=true:=v8 fun y hy=>(ud (jz.2.1 y hy)).ok
  have sh0:SeqAt.shaped (.list (([]:List Str).map PyData.str))=true:=v8 (xs:=[]) fun y hy=>by cases hy
  have eq3:=s3 _ _ (s2 _ _ (s1 _ _ eq))
  refine⟨_,_,su.lst (q0.of eq3) (gG.strs rs),su.lst (q0.of e3) (gG.strs []),sh,sh0,?_⟩
  rw[ny]
  refine .inr ⟨_,rfl,?_⟩
  have eb:(if (if true=true then !decide (rs=[]) else decide (rs=[]))=true then (1:Int) else 0)=((if rs=[] then 0 else 1:Nat):Int):=by by_cases z:rs=[]<;>simp [z]
  rw[eb]
  have hm:(if rs=[] then 0 else 1:Nat)≤1:=by split<;>decide
  have ew:(Ew.ws (.pt n rs))=(["part",n]:List Str) ++ List.replicate (if rs=[] then 0 else 1:Nat) ("in" : Str) ++ rs:=by cases rs<;>rfl
  generalize (if rs=[] then 0 else 1:Nat)=m at *
  refine⟨l2,_,_,rfl,rfl,s3 _ _ e2,by omega,by omega,qx (by simp only[List.length_cons,List.length_nil,Int.toNat_natCast];omega),fun q4 hq4=>?_⟩
  have s4:qg H3 (upd H3 q4 (.lst (List.replicate ((m:Nat):Int).toNat [V.str (Str.ofString "in")]).flatten)):=qg.uP hq4
  have e13:=s4 _ _ (s3 _ _ (s2 _ _ e1))
  refine⟨l1,q4,_,_,rfl,rfl,e13,qw,qx (by rw[len_rep];simp only[List.length_cons,List.length_nil,Int.toNat_natCast];omega),?_⟩
  intro l5 H5 s5 hl5 e5
  rw[Int.toNat_natCast,fX] at e5
  have ep5:=s5 _ _ (s4 _ _ (s3 _ _ (s2 _ _ (s1 _ _ ep))))
  have eq5:=s5 _ _ (s4 _ _ eq3)
  walk_at "rd"
  refine⟨l5,q,_,_,rfl,rfl,e5,eq5,qx (by simp only[List.length_append,List.length_cons,List.length_nil,List.length_replicate,List.length_map];omega),?_⟩
  intro l6 H6 s6 hl6 e6
  have e6':H6 l6=some (.lst ((Ew.ws (.pt n rs)).map V.str)):=by
   rw[e6,ew,List.map_append,List.map_append,List.map_replicate]
   rfl
  have ht:=mE (n:=20) (ws:=Ew.ws (.pt n rs)) fun x hx=>(Ew.wk jz x hx).2
  have hwl:(Ew.ws (.pt n rs)).length≤15:=by rw[ew];simp only[List.length_append,List.length_cons,List.length_nil,List.length_replicate];omega
  walk_at "rd"
  refine⟨_,l6,_,rfl,rfl,q0.of e6',by rw[lO];omega,?_⟩
  exact k H6 (((((s1.trans s2).trans s3).trans s4).trans s5).trans s6)
end
structure Yh (ps as:List Str) (qR:List (Str × Str)):Prop where
 p1:1≤ps.length
 p2:ps.length≤4
 a1:1≤as.length
 a2:as.length≤6
 r2:qR.length≤12
 pn:∀x∈ps,qe x=true
 an:∀x∈as,qe x=true
 rn:∀mn∈qR,mC mn
theorem XB.w {ps as:List Str} {qR:List (Str × Str)} (h:XB ps as qR):Yh ps as qR:=⟨h.p1,h.p2,h.a1,h.a2,h.r2,h.pn,h.an,h.rn⟩
theorem tN {x y:Str} (e:y.cps.toList=x.cps.toList ++ [32]) {ns:List Str} (h:ns≠[]):y ++ Txt.join " " ns=jG (x :: ns):=by
 obtain⟨a,r,rfl⟩:=List.exists_cons_of_ne_nil h
 refine xx ?_
 unfold jG
 rw[cps_append,join_eq,join_eq,qt,e]
 simp
theorem cv:("parties " : Str).cps.toList=("parties" : Str).cps.toList ++ [32]∧("acts " : Str).cps.toList=("acts" : Str).cps.toList ++ [32]∧(" " : Str).cps.toList=[32]∧("sore " : Str).cps.toList=("sore" : Str).cps.toList ++ [32]:=by decide +kernel
theorem Vx (m n:Str):m ++ Str.ofString " " ++ n=yD (m,n):=by
 refine xx ?_
 unfold yD jG
 rw[cps_append,cps_append,join_eq,qt,L2.join_one,cv.2.2.1]
 simp
theorem Paired.YV {α β:Type} {F:α→β→Prop} {a:α}:∀{xs:List α} {ys:List β} {i:Nat},Paired F xs ys→xs[i]?=some a→∃b,ys[i]?=some b∧F a b
 | _ :: _,_ :: _,0,.cons h t,e=>by cases e;exact⟨_,rfl,h⟩
 | _ :: _,_ :: _,i + 1,.cons h t,e=>Paired.YV (i:=i) t e
theorem take_snoc {α:Type} {xs:List α} {i:Nat} {b:α} (h:xs[i]?=some b):xs.take (i + 1)=xs.take i ++ [b]:=by
 rw[List.take_succ,h];rfl
theorem mO (ps as:List Str) (qR:List (Str × Str)) (e1 e2:List Ew):rowsOf ps as qR (e1 ++ e2)=rowsOf ps as qR e1 ++ e2.map Ew.row:=by unfold rowsOf;simp
theorem JX (ps as:List Str) (qR:List (Str × Str)) (mn:Str × Str):rowsOf ps as (qR ++ [mn]) []=rowsOf ps as qR [] ++ [yD mn]:=by unfold rowsOf;simp
theorem vE {ps as:List Str} {qR:List (Str × Str)} {evs:List Ew}:(rowsOf ps as qR evs).length=2 + qR.length + evs.length:=by unfold rowsOf;simp only[List.length_cons,List.length_append,List.length_map];omega
theorem tm:∀{ws:List V} {evs:List Ew} {H:Hp} {ys:List V},Paired (aj H) ws evs→ys.length=ws.length→(∀(i:Nat) (v:V) (e:Ew),evs[i]?=some e→ys[i]?=some v→v=.str e.row)→ys=(evs.map Ew.row).map V.str
 | [],[],_,ys,_,hl,_=>by cases ys with | nil=>rfl | cons a r=>simp at hl
 | _ :: ws,e :: evs,H,ys,.cons h t,hl,hv=>by
  cases ys with
  | nil=>simp at hl
  | cons y r=>
   rw[hv 0 y e rfl rfl,tm t (by simpa using hl) fun i v e' h1 h2=>hv (i + 1) v e' h1 h2]
   rfl
noncomputable def Q6 (K:PySem.W.Frag):Sp:=fun vs H Q _=>∃(p l:Addr) (ps as:List Str) (qR:List (Str × Str)) (ws:List V) (evs:List Ew),vs=[.ref p,.ref l]∧ZM H p ps as qR∧Yh ps as qR∧q0 K H l ws∧Paired (aj H) ws evs∧(∀e∈evs,e.ok)∧evs.length≤150∧∀lr H',qg H H'→H lr=none→H' lr=some (.lst ((rowsOf ps as qR evs).map V.str))→Q (.ref lr) H'
section
variable {P:Program} {w:World} {K:PySem.W.Frag} {mg:Str→Option Value} {base:Heap} {t:xh}
theorem pJ:qQ ["_law_header_here","_law_events_here","_law_rows_here","_law_mark","_law_name_here"] ["_law_header_here","_law_events_here"] (z5 kn):=⟨rfl,rfl,rfl,by decide +kernel,rfl,by decide +kernel,by decide +kernel⟩
set_option maxHeartbeats 400000 in
theorem aN (T:Txt K mg t):qJ P w K mg base jX 2 t.fF t.fV ["_law_header_here","_law_events_here"] (Q6 K):=by
 have G_w_row:qJ P w K mg base jX 1 t.dR t.dP ["_law_event_here"] Xf:=(Qf T).mono (by decide)
 refine T.uk.fn.ok pJ (fun vs H Q E h=>(by obtain⟨_,_,_,_,_,_,_,rfl,_⟩:=h;rfl)) (fun cdv A outer s H vs Q E hr h=>?_)
 obtain⟨p,l,ps,as,qR,ws,evs,rfl,hH,hW,hL,hP,jz,hlen,k⟩:=h
 refine⟨_,(z6 (qi (i:=2) pJ.nd rfl (Or.inl rfl) (jx (z4 (qk ql qj (ko PySem.F.plainAttrs_str PySem.F.slot_str_join PySem.F.type_str_join (w6 (K:=K) rfl) qj (z4 (qo (jk (K:=K) rfl) (pv 0) z8 (fun _ _=>rfl)) z7))) (z4 (qk ql qj (ko PySem.F.plainAttrs_str PySem.F.slot_str_join PySem.F.type_str_join (w6 (K:=K) rfl) qj (z4 (qo (jk (K:=K) rfl) (pv 0) z8 (fun _ _=>rfl)) z7))) z7))) bO)
   (z6 (pN PassesOwn.never rfl (yA (K:=K) rfl (qo (jk (K:=K) rfl) (pv 0) z8 (fun _ _=>rfl))) (so (K:=K) rfl rfl (yC (kh (i:=3) pJ.nd rfl (Or.inl rfl)) (yC (kh (i:=4) pJ.nd rfl (Or.inl rfl)) lC)))
    (z9 (xS (ko PySem.F.plainAttrs_list PySem.F.slot_list_append PySem.F.type_list_append kN (pv 2) (z4 (qk ql (qk ql (pv 3) qj) (pv 4)) z7)))))
   (z9 (qy (qk wA (pv 2) (mr (osc:=z5 kn) (N:=["_law_header_here","_law_events_here","_law_rows_here","_law_mark","_law_name_here"]) (names:=[]) (qM:=[]) rfl rfl rfl ⟨rfl,by decide +kernel,by decide +kernel,by decide +kernel,rfl,rfl,by decide +kernel,by decide +kernel⟩ (yA (K:=K) rfl (pv 1)) (fun _ _ _=>(qu G_w_row hr rfl T.tK.mg T.tK.fn.kp T.tK.bd .nil qX (z4 (pv 0) z7))))))))),?_⟩
 obtain⟨lp,la,lr,vs,ep,elp,ela,elr,hR⟩:=hH
 have tp:=mE (n:=8) (ws:=ps) fun x hx=>(kq (hW.pn x hx)).2.1
 have ta:=mE (n:=8) (ws:=as) fun x hx=>(kq (hW.an x hx)).2.1
 have p1:=hW.p1;have p2:=hW.p2;have a1:=hW.a1;have a2:=hW.a2;have r2:=hW.r2
 have tp':(8 + 1) * ps.length≤9 * 4:=by omega
 have ta':(8 + 1) * as.length≤9 * 6:=by omega
 have j1:(Txt.join (Str.ofString " ") ps).length≤36:=by have:=d8 ps;exact Nat.le_trans this (by omega)
 have j2:(Txt.join (Str.ofString " ") as).length≤54:=by have:=d8 as;exact Nat.le_trans this (by omega)
 have w1:(Str.ofString "parties ").length=8:=by decide +kernel
 have w2:(Str.ofString "acts ").length=5:=by decide +kernel
 have np:ps≠[]:=fun z=>by rw[z] at p1;simp at p1
 have na:as≠[]:=fun z=>by rw[z] at a1;simp at a1
 walk_at "rd"
 refine⟨_,lp,ps,rfl,rfl,q0.of elp,by rw[lO];omega,?_⟩
 refine⟨_,_,rfl,rfl,qx (by omega),?_⟩
 rw[show Str.ofString "parties " ++ Txt.join (Str.ofString " ") ps=jG ("parties" :: ps) from tN cv.1 np]
 walk_at "rd"
 refine⟨_,la,as,rfl,rfl,q0.of ela,by rw[lO];omega,?_⟩
 refine⟨_,_,rfl,rfl,qx (by omega),?_⟩
 rw[show Str.ofString "acts " ++ Txt.join (Str.ofString " ") as=jG ("acts" :: as) from tN cv.2.1 na]
 refine⟨qx (by show 2≤1000;decide),?_⟩
 intro lq H1 s1 hlq e1
 have hvl:vs.length=qR.length:=Paired.length hR
 have hwl:ws.length=evs.length:=Paired.length hP
 have ep1:=s1 _ _ ep
 walk_at "rd"
 refine cU (K:=K) (a:=lr) (xs:=vs) (fun i σ H'=>∃v3 v4:Option V,σ=[some (.ref p),some (.ref l),some (.ref lq),v3,v4]∧qg H H'∧H' lq=some (.lst ((rowsOf ps as (qR.take i) []).map V.str)))
  ⟨none,none,rfl,s1,e1⟩ (fun i σ H' _ ⟨_,_,_,q,_⟩=>q0.of (q _ _ elr)) ?_ ?_
 ·rintro i y σ H2 hi ⟨v3,v4,rfl,s2,e2⟩
  obtain⟨mn,hmn,q,rfl,eq⟩:=Paired.YV hR hi
  have hi':i < qR.length:=(List.getElem?_eq_some_iff.mp hmn).1
  have hm:=hW.rn mn (List.mem_of_getElem? hmn)
  have eq2:=s2 _ _ eq
  have g1:=(dF _ hm.1).2.2.1
  have g2:=(kq hm.2).2.1
  refine⟨q,_,rfl,pD.of eq2,rfl,_,_,rfl,_,_,rfl,rfl,?_⟩
  walk_at "rd"
  have hrl:=@vE ps as (qR.take i) []
  refine⟨lq,_,_,rfl,rfl,e2,qx (by rw[List.length_map,hrl,List.length_take];simp only[List.length_nil];omega),?_⟩
  intro H3 k3 e3
  refine⟨_,_,rfl,k3.put s2 hlq,?_⟩
  rw[e3,Vx,take_snoc hmn,JX,List.map_append]
  rfl
 ·rintro σ H2 ⟨v3,v4,rfl,s2,e2⟩
  rw[hvl,List.take_length] at e2
  walk_at "rd"
  have hL2:=s2.seq hL
  have hP2:Paired (aj H2) ws evs:=Paired.imp' (fun _ _ z=>z.same s2) hP
  refine gq (mU hL2) (fun i _ v=>∀e,evs[i]?=some e→v=.str e.row) (qx (by omega)) ?_ ?_
  ·intro i y H' Q' hy s' kk
   obtain⟨e,he,hE⟩:=Paired.YV hP2 hy
   refine⟨_,rfl,y,e,rfl,hE.same s',jz e (List.mem_of_getElem? he),fun H4 s4=>kk _ _ s4 fun e' h'=>?_⟩
   rw[he] at h'
   cases h'
   rfl
  intro D H3 ys s3 hD e3 hlen3 hp
  have eys:=tm hP2 hlen3 fun i v e h1 h2=>by
   have hi:i < ws.length:=by
    have:=(List.getElem?_eq_some_iff.mp h1).1
    omega
   exact hp i _ v (List.getElem?_eq_getElem hi) h2 e h1
  subst eys
  have hrl:=@vE ps as qR []
  refine⟨lq,D,_,_,rfl,rfl,s3 _ _ e2,e3,qx (by rw[List.length_map,hrl,List.length_map,List.length_map];simp only[List.length_nil];omega),?_⟩
  intro l4 H4 s4 hl4 e4
  refine k l4 H4 ((s2.trans s3).trans s4) ((s2.trans s3).free hl4) ?_
  have:=mO ps as qR [] evs
  rw[List.nil_append] at this
  rw[e4,this,List.map_append]
end
theorem pq:∀{ws:List Str},(∀x∈ws,59∉x.cps.toList)→59∉(jG ws).cps.toList
 | [],_=>by unfold jG;decide +kernel
 | [x],h=>by unfold jG;rw[join_eq,L2.join_one];exact h x (by simp)
 | x :: y :: r,h=>by
  have ih:=pq (ws:=y :: r) fun z hz=>h z (List.mem_cons_of_mem _ hz)
  unfold jG at ih ⊢
  rw[join_eq] at ih ⊢
  rw[qt]
  intro hm
  (rcases List.mem_append.mp hm with hm | hm)
  ·exact h x (by simp) hm
  ·rcases List.mem_cons.mp hm with hm | hm
   ·cases hm
   ·exact ih hm
theorem qA {x:Str} (h:qe x=true):59∉x.cps.toList:=fun hc=>by
 have h':=h
 unfold qe at h'
 rw[Bool.and_eq_true] at h'
 have:¬59∈qD.cps.toList:=by decide +kernel
 exact this ((cg h'.1).2.2 59 hc)
theorem Zy {n:Nat}:∀{xs:List Str},(∀x∈xs,x.length≤n)→(xs.map (·.length)).sum≤n * xs.length
 | [],_=>by simp
 | x :: r,h=>by
  have h1:=h x (by simp)
  have h2:=Zy (n:=n) (xs:=r) fun y hy=>h y (List.mem_cons_of_mem _ hy)
  rw[List.map_cons,List.sum_cons,List.length_cons,Nat.mul_add]
  omega
theorem fT:∀x∈lits,59∉x.cps.toList∧x.length≤8:=by decide +kernel
theorem rB:∀x∈(["done","parties","acts"]:List Str),59∉x.cps.toList∧x.length≤8:=by decide +kernel
theorem Qz {n:Int} (h1:1≤n):59∉(Str.ofString (toString n)).cps.toList:=by
 obtain⟨m,rfl⟩:=Int.eq_ofNat_of_zero_le (show 0≤n by omega)
 have e:=PySem.W.KIN.signs_num m
 intro hc
 rw[e] at hc
 obtain⟨ch,hch,e2⟩:=List.mem_map.mp hc
 have:=Nat.isDigit_of_mem_toDigits (b:=10) (by decide) (by decide) hch
 simp [Char.isDigit] at this
 have h2:ch.toNat≤57:=this.2
 have e3:ch.toNat=59:=e2
 omega
theorem Ky {u:Str} (h:oB u):59∉u.cps.toList:=by
 rcases h with h | rfl
 ·exact qA h
 ·exact(fT _ (by simp [lits])).1
theorem lf {x:Str} (h:x∈lits):59∉x.cps.toList:=(fT x h).1
theorem Ew.free {e:Ew} (h:e.ok):∀x∈e.ws,59∉x.cps.toList:=by
 intro x hx
 cases e with
 | lt a b=>
  simp only[Ew.ws,List.mem_cons,List.not_mem_nil,or_false] at hx
  rcases hx with rfl | rfl | rfl | rfl
  ·exact lf (by simp [lits])
  ·exact qA h.1
  ·exact lf (by simp [lits])
  ·exact qA h.2
 | mu l w a n r=>
  simp only[Ew.ws,List.mem_cons,List.not_mem_nil,or_false] at hx
  rcases hx with rfl | rfl | rfl | rfl | rfl | rfl | rfl | rfl
  ·exact qA h.1
  ·exact qA h.2.1
  ·exact lf (by simp [lits])
  ·exact qA h.2.2.1
  ·exact lf (by simp [lits])
  ·exact Qz h.2.2.2.1
  ·exact lf (by simp [lits])
  ·exact qA h.2.2.2.2.2
 | my l w a=>
  simp only[Ew.ws,List.mem_cons,List.not_mem_nil,or_false] at hx
  rcases hx with rfl | rfl | rfl | rfl
  ·exact qA h.1
  ·exact Ky h.2.1
  ·exact lf (by simp [lits])
  ·exact qA h.2.2
 | bn l w a r=>
  simp only[Ew.ws,List.mem_cons,List.not_mem_nil,or_false] at hx
  rcases hx with rfl | rfl | rfl | rfl | rfl | rfl | rfl
  ·exact qA h.1
  ·exact Ky h.2.1
  ·exact lf (by simp [lits])
  ·exact lf (by simp [lits])
  ·exact qA h.2.2.1
  ·exact lf (by simp [lits])
  ·exact qA h.2.2.2
 | pw l w a r=>
  simp only[Ew.ws,List.mem_cons,List.not_mem_nil,or_false] at hx
  rcases hx with rfl | rfl | rfl | rfl | rfl | rfl
  ·exact qA h.1
  ·exact Ky h.2.1
  ·exact lf (by simp [lits])
  ·exact qA h.2.2.1
  ·exact lf (by simp [lits])
  ·exact qA h.2.2.2
 | dn=>
  simp only[Ew.ws,List.mem_cons,List.not_mem_nil,or_false] at hx
  rw[hx];exact(rB _ (by simp)).1
 | pt n rs=>
  cases rs with
  | nil=>
   simp only[Ew.ws,List.mem_cons,List.not_mem_nil,or_false] at hx
   rcases hx with rfl | rfl
   ·exact lf (by simp [lits])
   ·exact qA h.1
  | cons y rs=>
   simp only[Ew.ws] at hx
   (rcases List.mem_cons.mp hx with rfl | hx)
   ·exact lf (by simp [lits])
   (rcases List.mem_cons.mp hx with rfl | hx)
   ·exact qA h.1
   (rcases List.mem_cons.mp hx with rfl | hx)
   ·exact lf (by simp [lits])
   ·exact qA (h.2.1 x hx)
structure uD (x:Str):Prop where
 fr:59∉x.cps.toList
 sh:x.length≤180
theorem lH {ws:List Str} (h:∀x∈ws,x.length≤8) (hl:ws.length≤20):(jG ws).length≤180:=by
 have h1:(jG ws).length≤sP ws:=d8 ws
 have h2:=mE (n:=8) (ws:=ws) h
 omega
theorem Ew.eA {e:Ew} (h:e.ok):uD e.row:=by
 refine⟨pq (Ew.free h),?_⟩
 have h1:e.row.length≤sP e.ws:=d8 e.ws
 by_cases q:e.ws.length≤8
 ·have h2:=mE (n:=20) (ws:=e.ws) fun x hx=>(Ew.wk h x hx).2
  omega
 cases e with
 | pt n rs=>
  cases rs with
  | nil=>exact absurd (by simp [Ew.ws]) q
  | cons y rs=>
   refine lH (ws:=(Ew.pt n (y :: rs)).ws) (fun x hx=>?_) ?_
   ·simp only[Ew.ws] at hx
    (rcases List.mem_cons.mp hx with rfl | hx)
    ·exact(fT _ (by simp [lits])).2
    (rcases List.mem_cons.mp hx with rfl | hx)
    ·exact jo h.1
    (rcases List.mem_cons.mp hx with rfl | hx)
    ·exact(fT _ (by simp [lits])).2
    ·exact jo (h.2.1 x hx)
   ·have:=h.2.2
    simp only[Ew.ws,List.length_cons] at this ⊢
    omega
 | dn=>exact absurd (by simp [Ew.ws]) q
 | lt a b=>exact absurd (by simp [Ew.ws]) q
 | mu l w a n r=>exact absurd (by simp [Ew.ws]) q
 | my l w a=>exact absurd (by simp [Ew.ws]) q
 | bn l w a r=>exact absurd (by simp [Ew.ws]) q
 | pw l w a r=>exact absurd (by simp [Ew.ws]) q
theorem pj {x:Str} {ns:List Str} (hx:x∈(["done","parties","acts"]:List Str)) (hn:∀y∈ns,qe y=true) (hl:ns.length≤6):uD (jG (x :: ns)):=by
 have key:∀y∈x :: ns,59∉y.cps.toList∧y.length≤8:=fun y hy=>by
  (rcases List.mem_cons.mp hy with rfl | hy)
  ·exact rB _ hx
  ·exact⟨qA (hn y hy),jo (hn y hy)⟩
 exact⟨pq fun y hy=>(key y hy).1,lH (fun y hy=>(key y hy).2) (by simp only[List.length_cons];omega)⟩
theorem V5 {mn:Str × Str} (h:mC mn):uD (yD mn):=by
 have key:∀y∈[mn.1,mn.2],59∉y.cps.toList∧y.length≤8:=fun y hy=>by
  simp only[List.mem_cons,List.not_mem_nil,or_false] at hy
  rcases hy with rfl | rfl
  ·have:=dF _ h.1;exact⟨this.2.1,by omega⟩
  ·exact⟨qA h.2,jo h.2⟩
 exact⟨pq fun y hy=>(key y hy).1,lH (fun y hy=>(key y hy).2) (by simp)⟩
theorem JR {ps as:List Str} {qR:List (Str × Str)} {evs:List Ew} (h:Yh ps as qR) (he:∀e∈evs,e.ok):∀x∈rowsOf ps as qR evs,uD x:=by
 intro x hx
 unfold rowsOf at hx
 (rcases List.mem_cons.mp hx with rfl | hx)
 ·exact pj (by simp) h.pn (by have:=h.p2;omega)
 (rcases List.mem_cons.mp hx with rfl | hx)
 ·exact pj (by simp) h.an (by have:=h.a2;omega)
 (rcases List.mem_append.mp hx with hx | hx)
 ·obtain⟨mn,hmn,rfl⟩:=List.mem_map.mp hx
  exact V5 (h.rn mn hmn)
 ·obtain⟨e,hee,rfl⟩:=List.mem_map.mp hx
  exact Ew.eA (he e hee)
theorem Js {ps as:List Str} {qR:List (Str × Str)} {evs:List Ew} {d:Nat} (h:XB ps as qR) (he:∀e∈evs,e.ok) (hd:cw 0 evs=some d) (hn:(xT evs).Nodup) (hl:evs.length≤76) :
  (d=0→∃r,jS (rowsOf ps as qR evs)=.ok r)∧(0 < d→jS (rowsOf ps as qR evs)=.error (rowsOf ps as qR evs).length):=by
 have h6:=h.r2
 obtain⟨fr,e1,l1⟩:=nS (i:=2 + qR.length) (fr:=[("whole",[],[])]) (ls:=[]) hd rfl (by decide) (by simpa using hn) (by omega)
 rw[iK h he,c9 he,e1]
 match fr,l1 with
 | [(a,b,c)],l1=>exact⟨fun _=>⟨_,rfl⟩,fun q=>by simp only[List.length_cons,List.length_nil] at l1;omega⟩
 | f :: g :: r,l1=>exact⟨fun q=>by simp only[List.length_cons] at l1;omega,fun _=>rfl⟩
theorem nC {ps as:List Str} {qR:List (Str × Str)} {evs:List Ew} {d:Nat} (h:XB ps as qR) (he:∀e∈evs,e.ok) (hd:cw 0 evs=some d) (hn:(xT evs).Nodup) (hl:evs.length + d≤75) :
  jS (rowsOf ps as qR (evs ++ List.replicate (d + 1) .dn))=.error ((rowsOf ps as qR evs).length + d):=by
 have h6:=h.r2
 have hd2:cw 0 (evs ++ List.replicate d .dn)=some 0:=by rw[gf,hd];exact rE d
 have hn2:(xT (evs ++ List.replicate d .dn)).Nodup:=by rw[wB,fu,List.append_nil];exact hn
 obtain⟨fr,e1,l1⟩:=nS (i:=2 + qR.length) (fr:=[("whole",[],[])]) (ls:=[]) hd2 rfl (by decide) (by simpa using hn2) (by rw[List.length_append,List.length_replicate];omega)
 have he':∀e∈evs ++ List.replicate (d + 1) .dn,e.ok:=fun e hm=>by
  (rcases List.mem_append.mp hm with hm | hm)
  ·exact he e hm
  ·rw[(List.mem_replicate.mp hm).2];exact True.intro
 have ea:evs ++ List.replicate (d + 1) Ew.dn=(evs ++ List.replicate d .dn) ++ [.dn]:=by rw[List.replicate_succ',List.append_assoc]
 have key:∃ls',fk (2 + qR.length) (evs ++ List.replicate (d + 1) .dn) [("whole",[],[])] []=fk (2 + qR.length + (evs ++ List.replicate d Ew.dn).length) [.dn] fr ls':=by
  rw[ea]
  rcases iA (e2:=[.dn]) e1 with z | ⟨ls',z⟩
  ·exact⟨_,z⟩
  ·exact⟨ls',z⟩
 obtain⟨ls',ek⟩:=key
 rw[iK h he',c9 he',ek,fk,if_neg (by rw[List.length_append,List.length_replicate];omega)]
 match fr,l1 with
 | [f],l1=>
  show Except.error _=_
  rw[vE,List.length_append,List.length_replicate]
  exact congrArg Except.error (by omega)
 | f :: g :: r,l1=>simp only[List.length_cons] at l1;omega
section
variable {P:Program} {w:World} {K:PySem.W.Frag} {mg:Str→Option Value} {base:Heap} {t:xh}
end
theorem ll:∀{evs:List Ew} {d d':Nat},cw d evs=some d'→d≤6→d'≤6
 | [],d,d',h,h6=>by cases h;exact h6
 | e :: r,d,d',h,h6=>by
  rw[cw] at h
  cases hd:dp d e with
  | none=>rw[hd] at h;cases h
  | some d1=>rw[hd,Option.bind_some] at h;exact ll h (Xn hd h6)
theorem Xq {e1 e2:List Ew} {d d':Nat} (h:cw d (e1 ++ e2)=some d'):∃d1,cw d e1=some d1:=by
 rw[gf] at h
 cases q:cw d e1 with
 | none=>rw[q] at h;cases h
 | some d1=>exact⟨d1,rfl⟩
noncomputable def names0 (c:Int) (n:Nat):List Str:=(List.range n).map fun (j:Nat)=>wV c (j:Int)
noncomputable def names1 (c:Int) (n:Nat):List Str:=(List.range n).map fun (j:Nat)=>wV c ((4 + j:Nat):Int)
theorem vW {c:Int} {n:Nat}:∀x∈names0 c n,qe x=true:=fun x hx=>by
 obtain⟨j,_,rfl⟩:=List.mem_map.mp hx
 exact gU c
theorem mI {c:Int} {n:Nat}:∀x∈names1 c n,qe x=true:=fun x hx=>by
 obtain⟨j,_,rfl⟩:=List.mem_map.mp hx
 exact gU c
theorem kF {c:Int} {n:Nat}:(names0 c n).length=n:=by unfold names0;rw[List.length_map,List.length_range]
theorem p5 {c:Int} {n:Nat}:(names1 c n).length=n:=by unfold names1;rw[List.length_map,List.length_range]
theorem eK {c:Int} {n m:Nat} (h0:n≤4) (h1:m≤6):(names0 c n ++ names1 c m).Nodup:=(List.nodup_append.mp (tQ c (n0:=n) (n1:=m) (n2:=0) h0 h1 (by decide))).1
theorem uT:jS [""]=.error 0:=by
 have e:jA [""] 0 "parties" 4 []=none:=by decide +kernel
 unfold jS
 rw[e]
theorem tD {c:Int} {n:Nat} (h1:1≤n) (h4:n≤4):jS [jG ("parties" :: names0 c n)]=.error 1:=by
 have e0:vX (wd [jG ("parties" :: names0 c n)] 0)=("parties" : Str) :: names0 c n:=br (by simp) vW
 have hl:=@kF c n
 have np:names0 c n≠[]:=fun z=>by rw[z] at hl;simp at hl;omega
 have nd:(names0 c n).Nodup:=(List.nodup_append.mp (eK (m:=0) h4 (by decide))).1
 have hn0:jA [jG ("parties" :: names0 c n)] 0 "parties" 4 []=some (names0 c n):=by
  unfold jA
  rw[if_neg (by simp),e0]
  dsimp only
  rw[vO (by omega) vW (by omega),if_neg (fun z=>z.elim np (fun z=>z (by simpa using nd)))]
 have hn1:jA [jG ("parties" :: names0 c n)] 1 "acts" 6 (names0 c n)=none:=by
  unfold jA
  exact if_pos rfl
 unfold jS
 rw[hn0]
 dsimp only
 rw[hn1]
theorem QF {c:Int} {n m:Nat} (h1:1≤n) (h4:n≤4) (g1:1≤m) (g6:m≤6):jS [jG ("parties" :: names0 c n),jG ("acts" :: names1 c m)]=.error 2:=by
 have e0:vX (wd [jG ("parties" :: names0 c n),jG ("acts" :: names1 c m)] 0)=("parties" : Str) :: names0 c n:=br (by simp) vW
 have e1:vX (wd [jG ("parties" :: names0 c n),jG ("acts" :: names1 c m)] 1)=("acts" : Str) :: names1 c m:=br (by simp) mI
 have hl:=@kF c n
 have hl1:=@p5 c m
 have np:names0 c n≠[]:=fun z=>by rw[z] at hl;simp at hl;omega
 have na:names1 c m≠[]:=fun z=>by rw[z] at hl1;simp at hl1;omega
 have nd2:=eK (c:=c) h4 g6
 have nd:(names0 c n).Nodup:=(List.nodup_append.mp nd2).1
 have hn0:jA [jG ("parties" :: names0 c n),jG ("acts" :: names1 c m)] 0 "parties" 4 []=some (names0 c n):=by
  unfold jA
  rw[if_neg (by simp),e0]
  dsimp only
  rw[vO (by omega) vW (by omega),if_neg (fun z=>z.elim np (fun z=>z (by simpa using nd)))]
 have hn1:jA [jG ("parties" :: names0 c n),jG ("acts" :: names1 c m)] 1 "acts" 6 (names0 c n)=some (names1 c m):=by
  unfold jA
  rw[if_neg (by simp),e1]
  dsimp only
  rw[vO (by omega) mI (by omega),if_neg (fun z=>z.elim na (fun z=>z nd2))]
 unfold jS
 rw[hn0]
 dsimp only
 rw[hn1]
 dsimp only
 rfl
inductive Cut (c:Int) (m:Nat):List Str→Nat→Prop
 | none:Cut c m [] 0
 | one {n:Nat}:1≤n→n≤4→Cut c m [jG ("parties" :: names0 c n)] 0
 | two {n k:Nat}:1≤n→n≤4→1≤k→k≤6→Cut c m [jG ("parties" :: names0 c n),jG ("acts" :: names1 c k)] 0
 | more {ps as:List Str} {qR:List (Str × Str)} {evs:List Ew} {d:Nat}:XB ps as qR→(∀e∈evs,e.ok)→cw 0 evs=some d→(xT evs).Nodup→evs.length≤m→Cut c m (rowsOf ps as qR evs) d
theorem Qg {c:Int} {ps as:List Str} {qR:List (Str × Str)} {evs:List Ew} (h:Gd c ps as qR) (he:VR evs) (k:Nat):∃d,Cut c 66 ((rowsOf ps as qR evs).take k) d:=by
 have hd:=h.hd
 have ep:ps=names0 c ps.length:=h.ps
 have ea:as=names1 c as.length:=h.as
 match k with
 | 0=>exact⟨0,.none⟩
 | 1=>
  refine⟨0,?_⟩
  show Cut c 66 [jG ("parties" :: ps)] 0
  rw[ep];exact .one hd.p1 hd.p2
 | 2=>
  refine⟨0,?_⟩
  show Cut c 66 [jG ("parties" :: ps),jG ("acts" :: as)] 0
  rw[ep,ea];exact .two hd.p1 hd.p2 hd.a1 hd.a2
 | j + 3=>
  have e:(rowsOf ps as qR evs).take (j + 3)=rowsOf ps as (qR.take (j + 1)) (evs.take (j + 1 - qR.length)):=by
   unfold rowsOf
   rw[List.take_succ_cons,List.take_succ_cons,List.take_append,List.length_map,List.map_take,List.map_take]
  have hev:=List.take_append_drop (j + 1 - qR.length) evs
  have hdp:=he.dp
  rw[←hev] at hdp
  obtain⟨d,ed⟩:=Xq hdp
  have hnd:=he.nd
  rw[←hev,wB] at hnd
  have hrm:=List.take_append_drop (j + 1) qR
  have hnd2:=hd.nd
  rw[←hrm,List.map_append,←List.append_assoc] at hnd2
  have r1:=hd.r1;have r2:=hd.r2;have len:=he.len
  refine⟨d,?_⟩
  rw[e]
  exact .more ⟨hd.p1,hd.p2,hd.a1,hd.a2,by rw[List.length_take];omega,by rw[List.length_take];omega,hd.pn,hd.an,fun mn hm=>hd.rn mn (List.mem_of_mem_take hm),(List.nodup_append.mp hnd2).1⟩ (fun x hx=>he.ok x (List.mem_of_mem_take hx)) ed (List.nodup_append.mp hnd).1 (by rw[List.length_take];omega)
theorem Cut.le {c:Int} {m m':Nat} {rows:List Str} {d:Nat} (h:Cut c m rows d) (hm:m≤m'):Cut c m' rows d:=by
 cases h with
 | none=>exact .none
 | one a b=>exact .one a b
 | two a b x y=>exact .two a b x y
 | more a b x y z=>exact .more a b x y (Nat.le_trans z hm)
theorem Cut.done {c:Int} {m:Nat} {rows:List Str} {d:Nat} (h:Cut c m rows d) (hd:0 < d):Cut c (m + 1) (rows ++ [("done" : Str)]) (d - 1):=by
 cases h with
 | none=>omega
 | one a b=>omega
 | two a b x y=>omega
 | more a b x y z=>
  rename_i ps as qR evs
  have e:rowsOf ps as qR evs ++ [("done" : Str)]=rowsOf ps as qR (evs ++ [.dn]):=by rw[mO,List.map_cons,vH];rfl
  rw[e]
  refine .more a (fun q hq=>?_) ?_ ?_ (by rw[List.length_append];simp only[List.length_cons,List.length_nil];omega)
  ·(rcases List.mem_append.mp hq with hq | hq)
   ·exact b q hq
   ·rw[List.mem_singleton.mp hq];exact True.intro
  ·rw[gf,x]
   show (dp d .dn).bind _=_
   rw[dp,if_pos hd];rfl
  ·rw[wB]
   have:xT [Ew.dn]=[]:=rfl
   rw[this,List.append_nil];exact y
theorem Cut.eA {c:Int} {m:Nat} {rows:List Str} {d:Nat} (h:Cut c m rows d):(∀x∈rows,uD x)∧rows.length≤14 + m∧d≤6:=by
 cases h with
 | none=>exact⟨fun x hx=>(by cases hx),by simp,by decide⟩
 | one a b=>
  refine⟨fun x hx=>?_,by simp only[List.length_cons,List.length_nil];omega,by decide⟩
  rw[List.mem_singleton.mp hx]
  exact pj (by simp) vW (by rw[kF];omega)
 | two a b x y=>
  refine⟨fun z hz=>?_,by simp only[List.length_cons,List.length_nil];omega,by decide⟩
  (rcases List.mem_cons.mp hz with rfl | hz)
  ·exact pj (by simp) vW (by rw[kF];omega)
  ·rw[List.mem_singleton.mp hz];exact pj (by simp) mI (by rw[p5];omega)
 | more a b x y z=>exact⟨JR a.w b,by rw[vE];have:=a.r2;omega,ll x (by decide)⟩
noncomputable def sG (rows:List Str):List Str:=if rows=[] then [""] else rows
theorem rq (ps as:List Str) (qR:List (Str × Str)) (evs:List Ew):rowsOf ps as qR evs≠[]:=by unfold rowsOf;simp
theorem Cut.read {c:Int} {m:Nat} {rows:List Str} {d:Nat} (h:Cut c m rows d) (hm:m≤76):(rows.length < 3∨0 < d→jS (sG rows)=.error rows.length)∧(¬(rows.length < 3∨0 < d)→∃r,jS (sG rows)=.ok r):=by
 cases h with
 | none=>exact⟨fun _=>uT,fun q=>absurd (.inl (by decide)) q⟩
 | one a b=>exact⟨fun _=>tD a b,fun q=>absurd (.inl (by simp)) q⟩
 | two a b x y=>exact⟨fun _=>QF a b x y,fun q=>absurd (.inl (by simp)) q⟩
 | more a b x y z=>
  rename_i ps as qR evs
  have hl:=@vE ps as qR evs
  have r1:=a.r1
  obtain⟨k0,k1⟩:=Js a b x y (by omega)
  rw[sG,if_neg (rq _ _ _ _)]
  exact⟨fun q=>k1 (q.elim (fun q=>by omega) id),fun q=>k0 (by have:¬0 < d:=fun z=>q (.inr z);omega)⟩
theorem m7 (ps as:List Str) (qR:List (Str × Str)) (evs:List Ew) (n:Nat):rowsOf ps as qR evs ++ List.replicate n ("done" : Str)=rowsOf ps as qR (evs ++ List.replicate n .dn):=by
 rw[mO,List.map_replicate,vH]
theorem Cut.beyond {c:Int} {m:Nat} {rows:List Str} {d:Nat} (h:Cut c m rows d) (hm:m≤69) (h2:2 < rows.length):jS (sG (rows ++ List.replicate (d + 1) ("done" : Str)))=.error (rows.length + d):=by
 cases h with
 | none=>simp at h2
 | one a b=>simp at h2
 | two a b x y=>simp at h2
 | more a b x y z=>
  have:=ll x (by decide)
  rw[m7,sG,if_neg (rq _ _ _ _)]
  exact nC a b x y (by omega)
noncomputable def cz (c:Int):List Str:=[jG ["parties",wV c 100],jG ["acts",wV c 101],yD ("sore",wV c 102)]
theorem Zd {c:Int} {I J:List Nat} {k:Nat} (h1:1≤I.length) (h4:I.length≤4) (g1:1≤J.length) (g6:J.length≤6) (hn:(I ++ J ++ [k]).Nodup) (hb:∀i∈I ++ J ++ [k],i < 208):XB (I.map fun (i:Nat)=>wV c (i:Int)) (J.map fun (i:Nat)=>wV c (i:Int)) [("sore",wV c ((k:Nat):Int))]:=by
 refine⟨by rw[List.length_map];exact h1,by rw[List.length_map];exact h4,by rw[List.length_map];exact g1,by rw[List.length_map];exact g6,by simp,by simp,fun x hx=>?_,fun x hx=>?_,fun mn hmn=>?_,?_⟩
 ·obtain⟨j,_,rfl⟩:=List.mem_map.mp hx
  exact gU c
 ·obtain⟨j,_,rfl⟩:=List.mem_map.mp hx
  exact gU c
 ·rw[List.mem_singleton.mp hmn];exact⟨by simp [xw],gU c⟩
 ·have:=cx (c:=c) hn hb
  rw[List.map_append,List.map_append] at this
  exact this
theorem Cut.made {c:Int} {m:Nat} {rows:List Str} {d:Nat} (h:Cut c m rows d):Cut c (m + 6) (rows ++ (cz c).drop rows.length ++ List.replicate d ("done" : Str)) 0∧2 < (rows ++ (cz c).drop rows.length ++ List.replicate d ("done" : Str)).length:=by
 cases h with
 | none=>
  refine⟨?_,by simp [cz]⟩
  exact .more (evs:=[]) (Zd (c:=c) (I:=[100]) (J:=[101]) (k:=102) (by simp) (by simp) (by simp) (by simp) (by decide) (by decide)) (fun _ z=>by cases z) rfl (by simp [xT]) (by simp)
 | one a b=>
  rename_i n
  refine⟨?_,by simp [cz]⟩
  refine .more (evs:=[]) (Zd (c:=c) (I:=List.range n) (J:=[101]) (k:=102) (by rw[List.length_range];exact a) (by rw[List.length_range];exact b) (by simp) (by simp) ?_ ?_) (fun _ z=>by cases z) rfl (by simp [xT]) (by simp)
  ·rw[List.nodup_append,List.nodup_append]
   refine⟨⟨List.nodup_range,by simp,fun x hx y hy z=>?_⟩,by simp,fun x hx y hy z=>?_⟩
   ·have:=List.mem_range.mp hx;rw[List.mem_singleton.mp hy] at z;omega
   ·rw[List.mem_singleton.mp hy] at z
    (rcases List.mem_append.mp hx with hx | hx)
    ·have:=List.mem_range.mp hx;omega
    ·rw[List.mem_singleton.mp hx] at z;omega
  ·intro x hx
   (rcases List.mem_append.mp hx with hx | hx)
   ·rcases List.mem_append.mp hx with hx | hx
    ·have:=List.mem_range.mp hx;omega
    ·rw[List.mem_singleton.mp hx];decide
   ·rw[List.mem_singleton.mp hx];decide
 | two a b x y=>
  rename_i n k
  refine⟨?_,by simp [cz]⟩
  have hh:=Zd (c:=c) (I:=List.range n) (J:=(List.range k).map (4 + ·)) (k:=102) (by rw[List.length_range];exact a) (by rw[List.length_range];exact b) (by rw[List.length_map,List.length_range];exact x) (by rw[List.length_map,List.length_range];exact y) ?_ ?_
  ·rw[List.map_map] at hh
   exact .more (evs:=[]) hh (fun _ z=>by cases z) rfl (by simp [xT]) (by simp)
  ·rw[List.nodup_append,List.nodup_append]
   refine⟨⟨List.nodup_range,List.Pairwise.map _ (fun a b h z=>h (by omega)) List.nodup_range,fun x hx y hy z=>?_⟩,by simp,fun x hx y hy z=>?_⟩
   ·obtain⟨j,_,rfl⟩:=List.mem_map.mp hy
    have:=List.mem_range.mp hx;omega
   ·rw[List.mem_singleton.mp hy] at z
    (rcases List.mem_append.mp hx with hx | hx)
    ·have:=List.mem_range.mp hx;omega
    ·obtain⟨j,hj,rfl⟩:=List.mem_map.mp hx
     have:=List.mem_range.mp hj;omega
  ·intro x hx
   (rcases List.mem_append.mp hx with hx | hx)
   ·rcases List.mem_append.mp hx with hx | hx
    ·have:=List.mem_range.mp hx;omega
    ·obtain⟨j,hj,rfl⟩:=List.mem_map.mp hx
     have:=List.mem_range.mp hj;omega
   ·rw[List.mem_singleton.mp hx];decide
 | more a b x y z=>
  rename_i ps as qR evs
  have hl:=@vE ps as qR evs
  have r1:=a.r1
  have h6:=ll x (by decide)
  have e:(cz c).drop (rowsOf ps as qR evs).length=[]:=List.drop_eq_nil_of_le (by rw[hl];simp only[cz,List.length_cons,List.length_nil];omega)
  rw[e,List.append_nil,m7]
  refine⟨.more a (fun q hq=>?_) (by rw[gf,x];exact rE d) (by rw[wB,fu,List.append_nil];exact y) (by rw[List.length_append,List.length_replicate];omega),by rw[vE,List.length_append];omega⟩
  (rcases List.mem_append.mp hq with hq | hq)
  ·exact b q hq
  ·rw[(List.mem_replicate.mp hq).2];exact True.intro
section
variable {P:Program} {w:World} {K:PySem.W.Frag} {mg:Str→Option Value} {base:Heap} {t:xh}
end
theorem JE:bootBuiltins (Str.ofString "ValueError")=some (Value.type "ValueError"):=by kernel_rfl
noncomputable def Xe (t:xh):Sp:=fun vs H Q _=>∃(a:Addr) (n:Int),vs=[.ref a]∧KZ H a t.qU [("row",.int n)]∧Q (.bl true) H
noncomputable def Yl (t:xh) (rows:List Str) (H:Hp):XK:=fun c o H'=>∃n:Nat,jS rows=.error n∧Z5 t n H c o H'
noncomputable def bU:Sp:=fun vs H Q _=>∃(x:Str),vs=[.str x]∧x.length≤60000∧bj (Txt.split x "; ")∧(∀r H',jS (Txt.split x "; ")=.ok r→qg H H'→Q .non H')∧∀(n:Nat) H',jS (Txt.split x "; ")=.error n→qg H H'→Q (.int n) H'
section
variable {P:Program} {w:World} {K:PySem.W.Frag} {mg:Str→Option Value} {base:Heap} {t:xh}
theorem lS:qQ ["_law_e"] ["_law_e"] (z5 xj):=⟨rfl,rfl,rfl,by decide +kernel,rfl,by decide +kernel,by decide +kernel⟩
set_option maxHeartbeats 400000 in
theorem ly (T:Txt K mg t):qJ P w K mg base jX 1 t.ym t.yd ["_law_e"] (Xe t):=by
 refine T.yE.fn.ok lS (fun vs H Q E h=>(by obtain⟨_,_,rfl,_⟩:=h;rfl)) (fun cdv A outer s H vs Q E hr h=>?_)
 obtain⟨a,n,rfl,hx,k⟩:=h
 refine⟨_,(z6 (qG (PW.pt (kR (jC (qZ (jm (K:=K) rfl) rfl T.qO PyProof.Rows.boot_isinstance (z4 (pv 0) (z4 (jv rfl T.nV (v:=.ref t.fW) rfl) z7)))) (kR (jC (qZ (jm (K:=K) rfl) rfl T.qO PyProof.Rows.boot_isinstance (z4 (pv 0) (z4 (jv rfl T.cZ (v:=.ref t.gv) rfl) z7)))) (kR (jC (qZ (jm (K:=K) rfl) rfl T.qO PyProof.Rows.boot_isinstance (z4 (pv 0) (z4 (jv rfl T.nQ (v:=.ref t.mW) rfl) z7)))) (kP (jC (qZ (jm (K:=K) rfl) rfl T.qO PyProof.Rows.boot_isinstance (z4 (pv 0) (z4 (jv rfl T.rk (v:=.ref t.bI) rfl) z7)))))))))
    (z9 (qy kI)) qm)
   (z6 (qG (PW.pt (kR (jC (qZ (jm (K:=K) rfl) rfl T.qO PyProof.Rows.boot_isinstance (z4 (pv 0) (z4 (jv rfl T.tH (v:=.ref t.fP) rfl) z7)))) (kR (jC (qZ (jm (K:=K) rfl) rfl T.qO PyProof.Rows.boot_isinstance (z4 (pv 0) (z4 (jv rfl T.rp (v:=.ref t.pz) rfl) z7)))) (kP (jC (qZ (jm (K:=K) rfl) rfl T.qO PyProof.Rows.boot_isinstance (z4 (pv 0) (z4 (jv rfl T.nM (v:=.ref t.ma) rfl) z7))))))))
    (z9 (qy kI)) qm)
   (z6 (qG (PW.pt (kR (jC (qZ (jm (K:=K) rfl) rfl T.qO PyProof.Rows.boot_isinstance (z4 (pv 0) (z4 (jv rfl T.cV (v:=.ref t.gZ) rfl) z7)))) (kR (jC (qZ (jm (K:=K) rfl) rfl T.qO PyProof.Rows.boot_isinstance (z4 (pv 0) (z4 (jv rfl T.iU (v:=.ref t.d6) rfl) z7)))) (kP (w4 (jC (qZ (jm (K:=K) rfl) rfl T.qO PyProof.Rows.boot_isinstance (z4 (pv 0) (z4 (rR rfl T.fZ JE (v:=.ty "ValueError") rfl) z7)))))))))
    (z9 (qy kI)) qm)
   (z9 (qy (lW (qZ (jm (K:=K) rfl) rfl T.qO PyProof.Rows.boot_isinstance (z4 (pv 0) (z4 (jv rfl T.v7 (v:=.ref t.qU) rfl) z7))) (lW (qZ (fN (K:=K) rfl) rfl T.qO PyProof.Rows.boot_isinstance (z4 (sd (K:=K) rfl (pv 0) rfl) (z4 (rR rfl T.fH PyProof.Rows.boot_int (v:=.ty "int") rfl) z7))) (lU (Vh (qZ (fN (K:=K) rfl) rfl T.qO PyProof.Rows.boot_isinstance (z4 (sd (K:=K) rfl (pv 0) rfl) (z4 (rR rfl T.Qm PyProof.Rows.boot_bool (v:=.ty "bool") rfl) z7)))))))))))),?_⟩
 have ty:=T.p9
 refine⟨_,rfl,a,_,_,_,_,rfl,.inr ⟨_,rfl⟩,hx,ty,T.y3,_,rfl,gI ?_⟩
 refine⟨_,rfl,a,_,_,_,_,rfl,.inr ⟨_,rfl⟩,hx,ty,T.yy,_,rfl,gI ?_⟩
 refine⟨_,rfl,a,_,_,_,_,rfl,.inr ⟨_,rfl⟩,hx,ty,T.yS,_,rfl,gI ?_⟩
 refine⟨_,rfl,a,_,_,_,_,rfl,.inr ⟨_,rfl⟩,hx,ty,T.ye,_,rfl,gI ?_⟩
 refine⟨_,rfl,a,_,_,_,_,rfl,.inr ⟨_,rfl⟩,hx,ty,T.yI,_,rfl,gI ?_⟩
 refine⟨_,rfl,a,_,_,_,_,rfl,.inr ⟨_,rfl⟩,hx,ty,T.yo,_,rfl,gI ?_⟩
 refine⟨_,rfl,a,_,_,_,_,rfl,.inr ⟨_,rfl⟩,hx,ty,T.yN,_,rfl,gI ?_⟩
 refine⟨_,rfl,a,_,_,_,_,rfl,.inr ⟨_,rfl⟩,hx,ty,T.wC,_,rfl,gI ?_⟩
 refine⟨_,rfl,a,_,_,_,_,rfl,.inr ⟨_,rfl⟩,hx,ty,T.gR,_,rfl,gI ?_⟩
 refine⟨_,rfl,a,_,_,_,_,rfl,.inl ⟨_,rfl⟩,hx,ty,T.vI,_,rfl,?_⟩
 walk_at "rd"
 refine⟨a,_,_,_,_,rfl,.inr ⟨_,rfl⟩,hx,ty,T.yU,?_⟩
 walk_at "rd"
 refine⟨a,_,_,.int n,rfl,hx,ty,T.ki,j5,?_⟩
 walk_at "rd"
 refine⟨a,_,_,.int n,rfl,hx,ty,T.ki,j5,?_⟩
 walk_at "rd"
 refine⟨_,_,.type "int",false,rfl,.inl ⟨_,rfl⟩,gp.int _,T.dg,?_⟩
 walk_at "rd"
 exact k
theorem kW:qQ ["_law_text","_law_caught","_law_e"] ["_law_text"] (z5 jd):=⟨rfl,rfl,rfl,by decide +kernel,rfl,by decide +kernel,by decide +kernel⟩
set_option maxHeartbeats 400000 in
theorem dZ (T:Txt K mg t):qJ P w K mg base jX 10 t.vf t.vz ["_law_text"] bU:=by
 have G_w_no_text:qJ P w K mg base jX 9 t.ym t.yd ["_law_e"] (Xe t):=(ly T).mono (by decide)
 have G_v_read:qJ P w K mg base (si P w) 9 t.mq t.fK ["text"] (QG t):=(eY T).mono (by decide)
 refine T.qV.fn.ok kW (fun vs H Q E h=>(by obtain⟨_,rfl,_⟩:=h;rfl)) (fun cdv A outer s H vs Q E hr h=>?_)
 obtain⟨x,rfl,hx,hR,k0,k1⟩:=h
 refine⟨_,(z6 (qi (i:=1) kW.nd rfl (Or.inl rfl) vi)
   (z6 (Xx (Eh:=(Yl t (Txt.split x "; ") H)) (i:=2) (fun _ _ z=>z) rfl rfl kW.nd rfl rfl rfl T.dq (Q0 (fun _ _ z=>z) G_v_read hr rfl T.cy.mg T.cy.fn.kp T.cy.bd .nil (z4 (pv 0) z7))
   (fun aa=>(z9 (qi (i:=1) kW.nd rfl (Or.inl rfl) (pv 2)))))
   (z6 (qG (qp nN (pv 1) vi (qr _))
    (z9 (qy vi)) qm)
   (z6 (qG (w4 (jC (qu G_w_no_text hr rfl T.yE.mg T.yE.fn.kp T.yE.bd .nil qX (z4 (pv 1) z7))))
    (z9 (qy (XM QZ z8))) qm)
   (z9 (qy (sd (K:=K) rfl (pv 1) rfl))))))),?_⟩
 refine⟨?_,?_⟩
 ·refine⟨_,rfl,x,rfl,hx,hR,fun n hN c o H' z=>⟨n,hN,z⟩,fun ps as qR rw p H' hS s' _=>?_⟩
  walk_at "rd"
  exact k0 _ H' hS s'
 rintro C a H1 ⟨n,hN,a',ea,ec,s1,hx1⟩
 obtain rfl:a=a':=Option.some.inj ea
 obtain rfl:C=t.qU:=Value.ref.inj ec
 refine⟨T.wa,?_⟩
 walk_at "rd"
 exact⟨a,_,_,.int n,rfl,hx1,T.p9,T.ki,j5,k1 n H1 hN s1⟩
end
theorem Zh (x:Str):(Txt.slice x none (some 5)).cps.toList=x.cps.toList.take 5:=by
 have e:=beq_iff_eq.mp (PyProof.Rows.slice_to_min_closes (x:=x) (n:=5) (by decide) rfl)
 have hl:x.cps.toList.length=x.length:=by simp [Str.length]
 rw[e]
 by_cases h:(x.length:Int) < 5
 ·rw[if_pos h]
  show ((x.cps.toList.drop (0:Int).toNat).take ((x.length:Int) - 0).toNat).toArray.toList=_
  rw[Int.sub_zero,Int.toNat_natCast,Int.toNat_zero,List.drop_zero,←hl,List.take_length,List.take_of_length_le (by omega)]
 ·rw[if_neg h];rfl
theorem wU:("part " : Str).cps.toList=("part" : Str).cps.toList ++ [32]∧32∉("part" : Str).cps.toList∧("part" : Str).cps.toList.length=4∧32∉("done" : Str).cps.toList:=by decide +kernel
noncomputable def JF (x:Str):Bool:=decide (x.cps.toList.take 5=("part " : Str).cps.toList)
theorem Ju (x:Str):decide (V.str (Txt.slice x none (some 5))=V.str (Str.ofString "part "))=JF x:=by
 unfold JF
 by_cases h:x.cps.toList.take 5=("part " : Str).cps.toList
 ·rw[decide_eq_true h]
  exact decide_eq_true (congrArg V.str (xx (by rw[Zh];exact h)))
 ·rw[decide_eq_false h]
  exact decide_eq_false fun z=>h (by rw[←Zh];exact congrArg (fun y:Str=>y.cps.toList) (V.str.inj z))
noncomputable def oU (d:Int) (x:Str):Int:=d + (if JF x=true then 1 else 0) - (if x = "done" then 1 else 0)
theorem tR (x y:Str) (r:List Str):∃R,(jG (x :: y :: r)).cps.toList=x.cps.toList ++ 32 :: R:=⟨_,by unfold jG;rw[join_eq,qt]⟩
theorem Qy (x y:Str) (r:List Str):¬jG (x :: y :: r) = "done":=fun z=>by
 obtain⟨R,e⟩:=tR x y r
 rw[z] at e
 exact wU.2.2.2 (by rw[e];simp)
theorem i9 {x:Str} (y:Str) (r:List Str) (hx:32∉x.cps.toList):JF (jG (x :: y :: r))=decide (x = "part"):=by
 obtain⟨R,e⟩:=tR x y r
 unfold JF
 rw[e]
 by_cases q:x = "part"
 ·subst q
  rw[decide_eq_true rfl]
  refine decide_eq_true ?_
  rw[wU.1,List.take_append,List.take_of_length_le (by rw[wU.2.2.1];decide),wU.2.2.1]
  rfl
 ·rw[decide_eq_false q]
  refine decide_eq_false fun z=>q (xx ?_)
  have h1:=List.take_append_drop 5 (x.cps.toList ++ 32 :: R)
  rw[z,wU.1,List.append_assoc] at h1
  exact(dY wU.2.1 hx h1).1.symm
theorem gJ {d:Int} {x:Str} (y:Str) (r:List Str) (hx:32∉x.cps.toList) (hp:¬x = "part"):oU d (jG (x :: y :: r))=d:=by
 unfold oU
 rw[i9 y r hx,decide_eq_false hp,if_neg (Qy x y r)]
 simp
theorem tZ {d:Int} (y:Str) (r:List Str):oU d (jG ("part" :: y :: r))=d + 1:=by
 unfold oU
 rw[i9 y r wU.2.1,decide_eq_true rfl,if_neg (Qy _ y r)]
 simp
theorem QU {d:Int}:oU d "done" = d - 1:=by
 have h:JF "done" = false:=by decide +kernel
 unfold oU
 rw[h,if_pos rfl]
 simp
theorem dS {x:Str} (h:qe x=true):¬x = "part":=fun z=>by
 have:qe "part" = false:=by decide +kernel
 rw[z,this] at h
 cases h
theorem KC {d d':Nat} {e:Ew} (h:e.ok) (hd:dp d e=some d'):oU (d:Int) e.row=(d':Nat):=by
 cases e with
 | pt n rs=>
  simp only[dp] at hd
  split at hd
  ·cases hd
   cases rs with
   | nil=>exact tZ n []
   | cons y rs=>exact tZ n _
  ·cases hd
 | dn=>
  simp only[dp] at hd
  split at hd
  ·cases hd
   rw[vH,QU];omega
  ·cases hd
 | lt a b=>cases hd;exact gJ (x:="let") _ _ (rO _ (by simp)).1 (by decide +kernel)
 | mu l w a n r=>cases hd;exact gJ _ _ (b7 h.1) (dS h.1)
 | my l w a=>cases hd;exact gJ _ _ (b7 h.1) (dS h.1)
 | bn l w a r=>cases hd;exact gJ _ _ (b7 h.1) (dS h.1)
 | pw l w a r=>cases hd;exact gJ _ _ (b7 h.1) (dS h.1)
theorem iE:∀{evs:List Ew} {d d':Nat},(∀e∈evs,e.ok)→cw d evs=some d'→(evs.map Ew.row).foldl oU (d:Int)=(d':Nat)
 | [],d,d',_,h=>by cases h;rfl
 | e :: r,d,d',ho,h=>by
  rw[cw] at h
  cases hd:dp d e with
  | none=>rw[hd] at h;cases h
  | some d1=>
   rw[hd,Option.bind_some] at h
   rw[List.map_cons,List.foldl_cons,KC (ho e List.mem_cons_self) hd]
   exact iE (fun x hx=>ho x (List.mem_cons_of_mem _ hx)) h
theorem eQ {d:Int}:∀{qR:List (Str × Str)},(∀mn∈qR,mC mn)→(qR.map yD).foldl oU d=d
 | [],_=>rfl
 | mn :: r,h=>by
  have hm:=h mn List.mem_cons_self
  have g:=dF _ hm.1
  rw[List.map_cons,List.foldl_cons,show oU d (yD mn)=d from gJ _ _ g.1 g.2.2.2.1]
  exact eQ fun x hx=>h x (List.mem_cons_of_mem _ hx)
theorem bz {d:Int} {x:Str} {ns:List Str} (hx:x∈(["parties","acts"]:List Str)) (hn:1≤ns.length):oU d (jG (x :: ns))=d:=by
 have key:∀x∈(["parties","acts"]:List Str),32∉x.cps.toList∧¬x = "part":=by decide +kernel
 match ns,hn with
 | y :: r,_=>exact gJ y r (key x hx).1 (key x hx).2
theorem Cut.Y1 {c:Int} {m:Nat} {rows:List Str} {d:Nat} (h:Cut c m rows d):rows.foldl oU 0=(d:Int):=by
 cases h with
 | none=>rfl
 | one a b=>exact bz (by simp) (by rw[kF];exact a)
 | two a b x y=>
  rw[List.foldl_cons,bz (by simp) (by rw[kF];exact a)]
  exact bz (by simp) (by rw[p5];exact x)
 | more a b x y z=>
  unfold rowsOf
  rw[List.foldl_cons,bz (by simp) a.p1,List.foldl_cons,bz (by simp) a.a1,List.foldl_append,eQ a.rn]
  exact iE (d:=0) b x
noncomputable def Qo (K:PySem.W.Frag):Sp:=fun vs H Q _=>∃(l:Addr) (rows:List Str),vs=[.ref l]∧q0 K H l (rows.map V.str)∧rows.length≤150∧(∀x∈rows,x.length≤180)∧∀H',qg H H'→Q (.int (rows.foldl oU 0)) H'
section
variable {P:Program} {w:World} {K:PySem.W.Frag} {mg:Str→Option Value} {base:Heap} {t:xh}
theorem pf:qQ ["_law_rows_here","_law_depth","_law_row_here"] ["_law_rows_here"] (z5 vy):=⟨rfl,rfl,rfl,by decide +kernel,rfl,by decide +kernel,by decide +kernel⟩
set_option maxHeartbeats 400000 in
theorem eV (T:Txt K mg t):qJ P w K mg base jX 1 t.mX t.f9 ["_law_rows_here"] (Qo K):=by
 refine T.bK.fn.ok pf (fun vs H Q E h=>(by obtain⟨_,_,rfl,_⟩:=h;rfl)) (fun cdv A outer s H vs Q E hr h=>?_)
 obtain⟨l,rows,rfl,hL,hl,hF,k⟩:=h
 refine⟨_,(z6 (qi (i:=1) pf.nd rfl (Or.inl rfl) z8)
   (z6 (pN PassesOwn.never rfl (yA (K:=K) rfl (pv 0)) (kh (i:=2) pf.nd rfl (Or.inl rfl))
    (z9 (qi (i:=1) pf.nd rfl (Or.inl rfl) (qk fz (qk jI (pv 1) (jB wG rfl T.fH PyProof.Rows.boot_int (z4 (kg jh (xH KY (pv 2) vU (xR z8)) qj (qr _)) z7))) (jB wG rfl T.fH PyProof.Rows.boot_int (z4 (kg jh (pv 2) qj (qr _)) z7))))))
   (z9 (qy (pv 1))))),?_⟩
 walk_at "rd"
 refine cU (K:=K) (a:=l) (xs:=rows.map V.str) (fun i σ H'=>∃(D:Int) (v2:Option V),σ=[some (.ref l),some (.int D),v2]∧qg H H'∧D=(rows.take i).foldl oU 0∧-(i:Int)≤D∧D≤i)
  ⟨0,none,rfl,qg.refl _,rfl,by omega,by omega⟩ (fun i σ H' _ ⟨_,_,_,q,_⟩=>q.seq hL) ?_ ?_
 ·rintro i y σ H2 hi ⟨D,v2,rfl,s2,eD,d1,d2⟩
  rw[List.getElem?_map] at hi
  obtain⟨x,hx,rfl⟩:=Option.map_eq_some_iff.mp hi
  have hxl:=hF x (List.mem_of_getElem? hx)
  have hil:=(List.getElem?_eq_some_iff.mp hx).1
  walk_at "rd"
  refine .inr ⟨_,rfl,?_⟩
  walk_at "rd"
  refine .inr ⟨_,rfl,?_⟩
  walk_at "rd"
  rw[Ju]
  have x3:(if decide (V.str x=V.str (Str.ofString "done"))=true then (1:Int) else 0)=if x = "done" then 1 else 0:=by rw[b9];by_cases q:x = "done"<;>simp [q]
  rw[x3]
  have eo:oU D x=D + (if JF x=true then 1 else 0) - (if x = "done" then 1 else 0):=rfl
  have y1:0≤(if JF x=true then (1:Int) else 0)∧(if JF x=true then (1:Int) else 0)≤1:=by split<;>decide
  have y2:0≤(if x = "done" then (1:Int) else 0)∧(if x = "done" then (1:Int) else 0)≤1:=by split<;>decide
  refine⟨?_,?_,?_⟩
  ·rw[take_snoc hx,List.foldl_append,←eD];rfl
  ·omega
  ·omega
 ·rintro σ H2 ⟨D,v2,rfl,s2,eD,d1,d2⟩
  rw[List.length_map,List.take_length] at eD
  walk_at "rd"
  rw[eD]
  exact k H2 s2
end
theorem Wn {c:Int} {ys:List V} (hlen:ys.length=104) (hp:∀(i:Nat) (v:V),i < 104→ys[i]?=some v→v=.str (wV c (i:Int))):ys=(NN c).map V.str:=by
 apply List.ext_getElem?
 intro i
 by_cases hi:i < 104
 ·have hi':i < ys.length:=by omega
  rw[List.getElem?_eq_getElem hi',List.getElem?_map]
  unfold NN
  rw[List.getElem?_map,List.getElem?_range hi]
  exact congrArg some (hp i _ hi (List.getElem?_eq_getElem hi'))
 ·rw[List.getElem?_eq_none_iff.mpr (by omega),List.getElem?_eq_none_iff.mpr (by rw[List.length_map,uZ];omega)]
noncomputable def aC {α:Type}:Except Nat α→V
 | .error n=>.int (n:Nat)
 | .ok _=>.non
theorem oq:Txt.split (Txt.join (Str.ofString "; ") []) (Str.ofString "; ")=[("" : Str)]:=by decide +kernel
theorem bp {rows:List Str} (hF:∀x∈rows,uD x) (hl:rows.length≤150):(rows.map (·.length)).sum + rows.length * (Str.ofString "; ").length≤30000:=by
 have h1:=Zy (n:=180) (xs:=rows) fun x hx=>(hF x hx).sh
 have h2:(Str.ofString "; ").length=2:=by decide +kernel
 rw[h2]
 omega
theorem y0 {rows:List Str} {H:Hp} {Q:VK} {E:XK} (hF:∀x∈rows,uD x) (hl:rows.length≤150) (k:∀H',qg H H'→Q (aC (jS (sG rows))) H'):bU [.str (Txt.join (Str.ofString "; ") rows)] H Q E:=by
 have hsp:Txt.split (Txt.join (Str.ofString "; ") rows) (Str.ofString "; ")=sG rows:=by
  unfold sG
  split
  ·rename_i q;rw[q];exact oq
  ·rename_i q;exact av q fun x hx=>(hF x hx).fr
 have h1:=bp hF hl
 have h2:=tw (Str.ofString "; ") rows
 have hR:bj (sG rows):=by
  unfold sG
  split
  ·exact⟨by decide,fun x hx=>by rw[List.mem_singleton.mp hx];decide +kernel⟩
  ·exact⟨by omega,fun x hx=>Nat.le_trans (hF x hx).sh (by decide)⟩
 refine⟨_,rfl,by omega,by rw[hsp];exact hR,fun r H' e s=>?_,fun n H' e s=>?_⟩
 ·rw[hsp] at e
  have:=k H' s
  rw[e] at this
  exact this
 ·rw[hsp] at e
  have:=k H' s
  rw[e] at this
  exact this
theorem i5 {x y:Str} (e:y.cps.toList=x.cps.toList ++ [32]) (n:Str):y ++ n=jG [x,n]:=by
 refine xx ?_
 unfold jG
 rw[cps_append,join_eq,qt,L2.join_one,e]
 simp
theorem V3 (x:Str):x=Txt.join (Str.ofString "; ") [x]:=by rw[join_eq,L2.join_one]
theorem Ww:Str.ofString "" = Txt.join (Str.ofString "; ") []:=by decide +kernel
theorem names0_1 (c:Int):names0 c 1=[wV c 0]:=by
 unfold names0
 rw[List.range_succ,List.range_zero]
 rfl
theorem JA (c:Int):Str.ofString "parties " ++ wV c 0=Txt.join (Str.ofString "; ") [jG ("parties" :: names0 c 1)]:=by
 rw[names0_1]
 exact(i5 cv.1 (wV c 0)).trans (V3 _)
theorem Zs (c:Int):jS (sG [jG ("parties" :: names0 c 1)])=.error 1:=by
 rw[sG,if_neg (by simp)]
 exact tD (by decide) (by decide)
theorem Kg (c:Int):∀x∈[jG ("parties" :: names0 c 1)],uD x:=fun x hx=>by
 rw[List.mem_singleton.mp hx]
 exact pj (by simp) vW (by rw[kF];decide)
theorem ZS:jS (sG [])=.error 0:=by
 rw[sG,if_pos rfl]
 exact uT
noncomputable def Z9 (K:PySem.W.Frag):Sp:=fun vs H Q _=>∃(a:Addr) (ns:List Int),vs=[.ref a]∧q0 K H a (ns.map V.int)∧ns.length≤63∧∀H',Q (.bl true) H'
section
variable {P:Program} {w:World} {K:PySem.W.Frag} {mg:Str→Option Value} {base:Heap} {t:xh}
seal bU
theorem x6:qQ ["_law_script","_law_names","_law_header_here","_law_rows_here","_law_cell","_law_depth","_law_found","_law_beyond","_law_lacking","_law_made"] ["_law_script"] (z5 vC):=⟨rfl,rfl,rfl,by decide +kernel,rfl,by decide +kernel,by decide +kernel⟩
set_option maxHeartbeats 2000000 in
theorem Qk (T:Txt K mg t):qJ P w K mg base jX 11 t.fE t.dG ["_law_script"] (Z9 K):=by
 have G_w_cell_at:qJ P w K mg base jX 10 t.wy t.vT ["_law_script","_law_k"] (oN K):=(fA T).mono (by decide)
 have G_w_events:qJ P w K mg base jX 10 t.gP t.gm ["_law_names","_law_script"] (tM K):=(nj T).mono (by decide)
 have G_w_header:qJ P w K mg base jX 10 t.gH t.gs ["_law_names","_law_cell"] (Zo K):=(sO T).mono (by decide)
 have G_w_mix:qJ P w K mg base jX 10 t.gK t.gh ["_law_cell","_law_k"] sN:=(fY T).mono (by decide)
 have G_w_name:qJ P w K mg base jX 10 t.fG t.mv ["_law_cell","_law_k"] iR:=(aZ T).mono (by decide)
 have G_w_open:qJ P w K mg base jX 10 t.mX t.f9 ["_law_rows_here"] (Qo K):=(eV T).mono (by decide)
 have G_w_refused_at:qJ P w K mg base jX 10 t.vf t.vz ["_law_text"] bU:=(dZ T).mono (by decide)
 have G_w_rows:qJ P w K mg base jX 10 t.fF t.fV ["_law_header_here","_law_events_here"] (Q6 K):=(aN T).mono (by decide)
 refine T.QQ.fn.ok x6 (fun vs H Q E h=>(by obtain⟨_,_,rfl,_⟩:=h;rfl)) (fun cdv A outer s H vs Q E hr h=>?_)
 obtain⟨a,ns,rfl,hS,hl,k⟩:=h
 refine⟨_,(z6 (mQ (i:=1) (osc:=z5 vC) (N:=["_law_script","_law_names","_law_header_here","_law_rows_here","_law_cell","_law_depth","_law_found","_law_beyond","_law_lacking","_law_made"]) (names:=["_law_script"]) (qM:=[0]) rfl rfl rfl x6.nd ⟨rfl,by decide +kernel,by decide +kernel,by decide +kernel,rfl,rfl,by decide +kernel,by decide +kernel⟩ rfl rfl (wF rfl T.yr (z4 z8 z7)) (fun _ _ _=>(qu G_w_name hr rfl T.cK.mg T.cK.fn.kp T.cK.bd .nil qX (z4 (qu G_w_mix hr rfl T.jl.mg T.jl.fn.kp T.jl.bd .nil qX (z4 (qu G_w_cell_at hr rfl T.jg.mg T.jg.fn.kp T.jg.bd .nil qX (z4 (pv 1) (z4 z8 z7))) (z4 z8 z7))) (z4 (pv 0) z7)))))
   (z6 (qi (i:=2) x6.nd rfl (Or.inl rfl) (qu G_w_header hr rfl T.bZ.mg T.bZ.fn.kp T.bZ.bd .nil qX (z4 (pv 1) (z4 (qu G_w_mix hr rfl T.jl.mg T.jl.fn.kp T.jl.bd .nil qX (z4 (qu G_w_cell_at hr rfl T.jg.mg T.jg.fn.kp T.jg.bd .nil qX (z4 (pv 0) (z4 z8 z7))) (z4 z8 z7))) z7))))
   (z6 (qi (i:=3) x6.nd rfl (Or.inl rfl) (qu G_w_rows hr rfl T.uk.mg T.uk.fn.kp T.uk.bd .nil qX (z4 (pv 2) (z4 (qu G_w_events hr rfl T.bf.mg T.bf.fn.kp T.bf.bd .nil qX (z4 (pv 1) (z4 (pv 0) z7))) z7))))
   (z6 (qi (i:=4) x6.nd rfl (Or.inl rfl) (qk kY (qu G_w_cell_at hr rfl T.jg.mg T.jg.fn.kp T.jg.bd .nil qX (z4 (pv 0) (z4 z8 z7))) z8))
   (z6 (qi (i:=3) x6.nd rfl (Or.inl rfl) (xH (xA (K:=K) rfl) (pv 3) vU (xR (qk qE (qu G_w_mix hr rfl T.jl.mg T.jl.fn.kp T.jl.bd .nil qX (z4 (pv 4) (z4 z8 z7))) (qk jI (qZ (qT (K:=K) rfl) rfl T.xY PySem.boot_len (z4 (pv 3) z7)) z8)))))
   (z6 (PS.join (qG (PW.pt (mR (qp jh (qk qE (qu G_w_mix hr rfl T.jl.mg T.jl.fn.kp T.jl.bd .nil qX (z4 (pv 4) (z4 z8 z7))) z8) z8 (qr _)) (bN (qp uz (qu G_w_open hr rfl T.bK.mg T.bK.fn.kp T.bK.bd .nil qX (z4 (pv 3) z7)) z8 (qr _)))))
    (z9 (xS (ko PySem.F.plainAttrs_list PySem.F.slot_list_append PySem.F.type_list_append kN (pv 3) (z4 qj z7)))) qm))
   (z6 (qi (i:=5) x6.nd rfl (Or.inl rfl) (qu G_w_open hr rfl T.bK.mg T.bK.fn.kp T.bK.bd .nil qX (z4 (pv 3) z7)))
   (z6 (qi (i:=6) x6.nd rfl (Or.inl rfl) (qu G_w_refused_at hr rfl T.qV.mg T.qV.fn.kp T.qV.bd .nil qX (z4 (ko PySem.F.plainAttrs_str PySem.F.slot_str_join PySem.F.type_str_join (w6 (K:=K) rfl) qj (z4 (pv 3) z7)) z7)))
   (z6 (PS.join (qG (PW.pt (kR (qp cT (qZ (qT (K:=K) rfl) rfl T.xY PySem.boot_len (z4 (pv 3) z7)) z8 (qr _)) (kP (qp uz (pv 5) z8 (qr _)))))
    (z9 (qG (qp m6 (pv 6) (qZ (qT (K:=K) rfl) rfl T.xY PySem.boot_len (z4 (pv 3) z7)) (qr _))
    (z9 (qy kI)) qm)) (z9 (qG (qp dA (pv 6) vi (qr _))
    (z9 (qy kI)) qm))))
   (z6 (qi (i:=7) x6.nd rfl (Or.inl rfl) (ko PySem.F.plainAttrs_str PySem.F.slot_str_join PySem.F.type_str_join (w6 (K:=K) rfl) qj (z4 (qk wA (pv 3) (qk rL (jx (z4 qj z7)) (qk jI (pv 5) z8))) z7)))
   (z6 (PS.join (qG (PW.pt (mR (qp uz (qZ (qT (K:=K) rfl) rfl T.xY PySem.boot_len (z4 (pv 3) z7)) z8 (qr _)) (bN (qp m6 (qu G_w_refused_at hr rfl T.qV.mg T.qV.fn.kp T.qV.bd .nil qX (z4 (pv 7) z7)) (qk jI (qZ (qT (K:=K) rfl) rfl T.xY PySem.boot_len (z4 (pv 3) z7)) (pv 5)) (qr _)))))
    (z9 (qy kI)) qm))
   (z6 (qi (i:=8) x6.nd rfl (Or.inl rfl) (jx (z4 (qk ql qj (qo (qf (K:=K) rfl) (pv 1) z8 (fun _ _=>rfl))) (z4 (qk ql qj (qo (qf (K:=K) rfl) (pv 1) z8 (fun _ _=>rfl))) (z4 (qk ql qj (qo (qf (K:=K) rfl) (pv 1) z8 (fun _ _=>rfl))) z7)))) bO)
   (z6 (qi (i:=9) x6.nd rfl (Or.inl rfl) (qk wA (qk wA (pv 3) (xH (xA (K:=K) rfl) (pv 8) (xR (qZ (qT (K:=K) rfl) rfl T.xY PySem.boot_len (z4 (pv 3) z7))) vU)) (qk rL (jx (z4 qj z7)) (pv 5))))
   (z6 (qG (qp dA (qu G_w_refused_at hr rfl T.qV.mg T.qV.fn.kp T.qV.bd .nil qX (z4 (ko PySem.F.plainAttrs_str PySem.F.slot_str_join PySem.F.type_str_join (w6 (K:=K) rfl) qj (z4 (pv 9) z7)) z7)) vi (qr _))
    (z9 (qy kI)) qm)
   (z6 (qG (PW.pt (kR (qp m6 (qu G_w_refused_at hr rfl T.qV.mg T.qV.fn.kp T.qV.bd .nil qX (z4 (qk ql qj (qo (qf (K:=K) rfl) (pv 1) z8 (fun _ _=>rfl))) z7)) z8 (qr _)) (kP (qp m6 (qu G_w_refused_at hr rfl T.qV.mg T.qV.fn.kp T.qV.bd .nil qX (z4 qj z7)) z8 (qr _)))))
    (z9 (qy kI)) qm)
   (z9 (qy (kg jh (qu G_w_refused_at hr rfl T.qV.mg T.qV.fn.kp T.qV.bd .nil qX (z4 (ko PySem.F.plainAttrs_str PySem.F.slot_str_join PySem.F.type_str_join (w6 (K:=K) rfl) qj (z4 (pv 3) z7)) z7)) (pv 6) (qr _))))))))))))))))))),?_⟩
 walk_at "rd"
 have hc:=rS (kT ns 1) 60
 have hcell:=rS (kT ns 0) 61
 refine gq fj (fun i _ v=>v=.str (wV (yb (kT ns 1) 60) (i:Int))) (qx (by decide +kernel)) ?_ ?_
 ·intro i y H' Q' hy s' kk
  have hi:i < 104:=by
   have:=(List.getElem?_eq_some_iff.mp hy).1
   simpa using this
  have hy':y=V.int (0 + (i:Int)):=by
   rw[List.getElem?_map,List.getElem?_range (show i < (104:Int).toNat from hi)] at hy
   exact(Option.some.inj hy).symm
  subst hy'
  refine⟨_,rfl,a,1,ns,rfl,s'.seq hS,by decide,?_⟩
  refine⟨_,_,rfl,by decide,by decide,?_⟩
  refine⟨_,rfl,_,_,rfl,hc.1,by omega,by omega,by omega,fun H4 s4=>?_⟩
  rw[Int.zero_add]
  exact kk _ _ s4 rfl
 intro D H1 ys s1 hD e1 hlen hp
 generalize hcc:yb (kT ns 1) 60=c at *
 generalize hce:yb (kT ns 0) 61=cell at *
 obtain rfl:=Wn (c:=c) (ys:=ys) (by rw[hlen];simp) fun i v hi hv=>hp i _ v (by rw[List.getElem?_map,List.getElem?_range (show i < (104:Int).toNat from hi)];rfl) hv
 clear hp hlen
 have hA1:q0 K H1 D ((NN c).map V.str):=q0.of e1
 have hS1:=s1.seq hS
 refine⟨_,rfl,_,rfl,a,0,ns,rfl,hS1,by decide,?_⟩
 refine⟨_,_,rfl,by decide,by decide,?_⟩
 rw[hce]
 walk_at "rd"
 refine⟨D,c,cell,rfl,hA1,hcell.1,fun ps as qR p H2 hH s2 hp2 eH=>?_⟩
 have hS2:=s2.seq hS1
 have hA2:=s2.seq hA1
 walk_at "rd"
 refine⟨D,a,c,ns,rfl,hA2,hS2,hl,fun le H3 ws evs s3 hle e3 hP he=>?_⟩
 have hS3:=s3.seq hS2
 have hA3:=s3.seq hA2
 have hel:=he.len
 refine⟨p,le,ps,as,qR,ws,evs,rfl,eH.same s3,hH.hd.w,q0.of e3,hP,he.ok,by omega,fun lr H4 s4 hlr e4=>?_⟩
 have hS4:=s4.seq hS3
 have hA4:=s4.seq hA3
 refine⟨_,rfl,a,2,ns,rfl,hS4,by decide,?_⟩
 have hcl:=iH ns 2
 walk_at "rd"
 refine⟨lr,_,rfl,.inl (q0.of e4),?_⟩
 rw[List.length_map]
 have hrl:=@vE ps as qR evs
 generalize hR:rowsOf ps as qR evs=rows at *
 refine⟨_,_,rfl,rfl,_,_,rfl,rfl,(show (0:Int) < (rows.length:Int) + 1 by omega),_,rfl,?_⟩
 have z0:0≤yb (kT ns 2 / 2) 1 % ((rows.length:Int) + 1):=Int.emod_nonneg _ (by omega)
 refine⟨lr,_,rfl,q0.of e4,?_⟩
 intro l5 H5 s5 hl5 e5
 obtain⟨n5,en5⟩:=Int.eq_ofNat_of_zero_le z0
 have e5':H5 l5=some (.lst ((rows.take n5).map V.str)):=by
  rw[←uw V.str rows n5,←en5];exact e5
 clear e5
 obtain⟨d5,hc5⟩:∃d,Cut c 66 (rows.take n5) d:=by rw[←hR];exact Qg hH he n5
 generalize rows.take n5=rw5 at *
 have hmx:=rS (kT ns 2 / 2) 2
 obtain⟨hF5,hl5',hd5⟩:=hc5.eA
 have hop:=hc5.Y1
 refine⟨fun σ' H'=>(∃(rw:List Str) (d:Nat),σ'=[some (.ref a),some (.ref D),some (.ref p),some (.ref l5),some (.int (kT ns 2 / 2)),none,none,none,none,none]∧qg H4 H'∧H' l5=some (.lst (rw.map V.str))∧Cut c 67 rw d)∨False,?_,?_⟩
 ·walk_at "rd"
  refine jy (fun _=>?_) (fun _=>gI (.inl ⟨_,_,rfl,s5,e5',hc5.le (by decide)⟩))
  refine⟨_,rfl,l5,rw5,rfl,q0.of e5',by omega,fun x hx=>(hF5 x hx).sh,fun H6 s6=>?_⟩
  rw[hop]
  walk_at "rd"
  refine jy (fun hq=>?_) (fun _=>.inl ⟨_,_,rfl,s5.trans s6,s6 _ _ e5',hc5.le (by decide)⟩)
  have hq':0 < (d5:Int):=of_decide_eq_true hq
  have e6:=s6 _ _ e5'
  walk_at "rd"
  intro H7 k7 e7
  refine .inl ⟨_,_,rfl,k7.put (s5.trans s6) hl5,?_,hc5.done (by omega)⟩
  rw[e7,List.map_append];rfl
 rintro σ' H6 (⟨rw6,d,rfl,s6,e6,hc6⟩ | ⟨⟨⟩⟩)
 clear hc5 hF5 hl5' hd5 hop e5'
 obtain⟨hF,hlen6,hd6⟩:=hc6.eA
 have hop:=hc6.Y1
 refine⟨_,rfl,l5,rw6,rfl,q0.of e6,by omega,fun x hx=>(hF x hx).sh,fun H7 s7=>?_⟩
 rw[hop]
 have e7:=s7 _ _ e6
 walk_at "rd"
 refine⟨_,l5,rw6,rfl,rfl,q0.of e7,Nat.le_trans (bp hF (by omega)) (by decide),?_⟩
 show bU [.str (Txt.join (Str.ofString "; ") rw6)] H7 _ _
 refine y0 hF (by omega) fun H8 s8=>?_
 obtain⟨rb,rg⟩:=hc6.read (by decide)
 have hbad:rw6.length < 3∨0 < d→aC (jS (sG rw6))=.int (rw6.length:Nat):=fun q=>by rw[rb q];rfl
 have hgood:¬(rw6.length < 3∨0 < d)→aC (jS (sG rw6))=.non:=fun q=>by obtain⟨r,e⟩:=rg q;rw[e];rfl
 have hrf:∀{H:Hp} {Q:VK} {E:XK},(∀H',qg H H'→Q (aC (jS (sG rw6))) H')→bU [.str (Txt.join (Str.ofString "; ") rw6)] H Q E:=fun kk=>y0 hF (by omega) kk
 clear rb rg
 generalize aC (jS (sG rw6))=fv at *
 have e8:=s8 _ _ e7
 refine⟨fun σ' H'=>(σ'=[some (.ref a),some (.ref D),some (.ref p),some (.ref l5),some (.int (kT ns 2 / 2)),some (.int d),some fv,none,none,none]∧H'=H8)∨False,?_,?_⟩
 ·walk_at "rd"
  refine⟨l5,_,rfl,.inl (q0.of e8),_,_,rfl,rfl,_,rfl,?_⟩
  rw[List.length_map]
  refine jy (fun h1=>uW ?pa) (fun h1=>?pb)
  case' pb=>
   walk_at "rd"
   refine jy (fun h2=>?pc) (fun h2=>?pd)
  case pd=>
   have h1':¬(rw6.length:Int) < 3:=fun z=>h1 (decide_eq_true z)
   have h2':¬0 < (d:Int):=fun z=>h2 (decide_eq_true z)
   obtain rfl:fv=.non:=hgood (by omega)
   walk_at "rd"
   exact .inl ⟨rfl,rfl⟩
  case pa=>
   have h1':(rw6.length:Int) < 3:=of_decide_eq_true h1
   obtain rfl:fv=.int (rw6.length:Nat):=hbad (by omega)
   walk_at "rd"
   refine⟨l5,_,rfl,.inl (q0.of e8),?_⟩
   rw[List.length_map]
   walk_at "rd"
   exact .inl ⟨rfl,rfl⟩
  case pc=>
   have h2':0 < (d:Int):=of_decide_eq_true h2
   obtain rfl:fv=.int (rw6.length:Nat):=hbad (by omega)
   walk_at "rd"
   refine⟨l5,_,rfl,.inl (q0.of e8),?_⟩
   rw[List.length_map]
   walk_at "rd"
   exact .inl ⟨rfl,rfl⟩
 rintro σ' H9 (⟨rfl,rfl⟩ | ⟨⟨⟩⟩)
 walk_at "rd"
 intro l10 H10 s10 hl10 e10
 have d0:0≤(d:Int) + 1:=by omega
 refine⟨_,rfl,_,_,rfl,rfl,l10,(d:Int) + 1,_,rfl,rfl,e10,by omega,by omega,qx (by simp only[List.length_cons,List.length_nil];omega),fun q hq=>?_⟩
 have s11:qg H10 (upd H10 q (.lst (List.replicate ((d:Int) + 1).toNat [V.str (Str.ofString "done")]).flatten)):=qg.uP hq
 have e811:=s11 _ _ (s10 _ _ e8)
 refine⟨l5,q,_,_,rfl,rfl,e811,qw,qx (by rw[len_rep];simp only[List.length_map,List.length_cons,List.length_nil];omega),?_⟩
 intro l12 H12 s12 hl12 e12
 have e12':H12 l12=some (.lst ((rw6 ++ List.replicate (d + 1) ("done" : Str)).map V.str)):=by
  rw[e12,show ((d:Int) + 1).toNat=d + 1 by omega,fX,List.map_append,List.map_replicate]
 have s912:qg H9 H12:=(s10.trans s11).trans s12
 clear e12 s11 s12 s10 hl10 e10 hq
 have fD:uD ("done" : Str):=by
  have:=Ew.eA (e:=.dn) True.intro
  rw[vH] at this
  exact this
 have fB:∀x∈rw6 ++ List.replicate (d + 1) ("done" : Str),uD x:=fun x hx=>(List.mem_append.mp hx).elim (hF x) (fun z=>by rw[(List.mem_replicate.mp z).2];exact fD)
 have lB:(rw6 ++ List.replicate (d + 1) ("done" : Str)).length≤150:=by rw[List.length_append,List.length_replicate];omega
 refine⟨_,l12,_,rfl,rfl,q0.of e12',Nat.le_trans (bp fB lB) (by decide),?_⟩
 refine⟨fun σ' H'=>(σ'=[some (.ref a),some (.ref D),some (.ref p),some (.ref l5),some (.int (kT ns 2 / 2)),some (.int d),some fv,some (.str (Txt.join (Str.ofString "; ") (rw6 ++ List.replicate (d + 1) ("done" : Str)))),none,none]∧qg H9 H')∨False,?_,?_⟩
 ·walk_at "rd"
  have e912:=s912 _ _ e8
  refine⟨l5,_,rfl,.inl (q0.of e912),_,_,rfl,rfl,_,rfl,?_⟩
  rw[List.length_map]
  refine jy (fun h1=>?_) (fun _=>gI (.inl ⟨rfl,s912⟩))
  have h1':2 < (rw6.length:Int):=of_decide_eq_true h1
  refine⟨_,rfl,?_⟩
  show bU [.str (Txt.join (Str.ofString "; ") (rw6 ++ List.replicate (d + 1) ("done" : Str)))] H12 _ _
  refine y0 fB lB fun H13 s13=>?_
  rw[hc6.beyond (by decide) (by omega)]
  have e913:=s13 _ _ e912
  walk_at "rd"
  have er:aC (Except.error (ε:=Nat) (α:=List Str × List Str × List (Str × Str) × Rw) (rw6.length + d))=V.int ((rw6.length:Int) + (d:Int)):=by
   show V.int ((rw6.length + d:Nat):Int)=_
   rw[Int.natCast_add]
  refine⟨l5,_,rfl,.inl (q0.of e913),_,rfl,_,_,rfl,rfl,rfl,_,rfl,?_⟩
  rw[List.length_map,er]
  exact jy (fun q=>absurd q (by simp)) (fun _=>.inl ⟨rfl,s912.trans s13⟩)
 clear s912 e12' hl12 fB lB e811
 rintro σ' H13 (⟨rfl,s13⟩ | ⟨⟨⟩⟩)
 have e13:=s13 _ _ e8
 have s9:qg H4 H13:=((s6.trans s7).trans s8).trans s13
 have hA13:=s9.seq hA4
 have hN:=uZ c
 have g100:(NN c).getD (100:Int).toNat (Str.ofString "")=wV c 100:=bW c (i:=100) (by decide)
 have g101:(NN c).getD (101:Int).toNat (Str.ofString "")=wV c 101:=bW c (i:=101) (by decide)
 have g102:(NN c).getD (102:Int).toNat (Str.ofString "")=wV c 102:=bW c (i:=102) (by decide)
 have g0:(NN c).getD (0:Int).toNat (Str.ofString "")=wV c 0:=bW c (i:=0) (by decide)
 have n100:=lQ c 100
 have n101:=lQ c 101
 have n102:=lQ c 102
 have n0:=lQ c 0
 have w1:(Str.ofString "parties ").length=8:=by decide +kernel
 have w2:(Str.ofString "acts ").length=5:=by decide +kernel
 have w3:(Str.ofString "sore ").length=5:=by decide +kernel
 walk_at "rd"
 rw[g100]
 refine⟨qx (by omega),?_⟩
 rw[show Str.ofString "parties " ++ wV c 100=jG ["parties",wV c 100] from i5 cv.1 _]
 walk_at "rd"
 rw[g101]
 refine⟨qx (by omega),?_⟩
 rw[show Str.ofString "acts " ++ wV c 101=jG ["acts",wV c 101] from i5 cv.2.1 _]
 walk_at "rd"
 rw[g102]
 refine⟨qx (by omega),?_⟩
 rw[show Str.ofString "sore " ++ wV c 102=yD ("sore",wV c 102) from i5 cv.2.2.2 _]
 refine⟨qx (by show 3≤1000;decide),?_⟩
 intro l14 H14 s14 hl14 e14
 have e14':H14 l14=some (.lst ((cz c).map V.str)):=e14
 clear e14
 have e514:=s14 _ _ e13
 walk_at "rd"
 refine⟨l5,_,rfl,.inl (q0.of e514),_,rfl,l14,_,rfl,q0.of e14',?_⟩
 rw[List.length_map,gj]
 intro l15 H15 s15 hl15 e15
 have hld:((cz c).drop rw6.length).length≤3:=by rw[List.length_drop];show 3 - _≤3;omega
 refine⟨l5,l15,_,_,rfl,rfl,s15 _ _ e514,e15,qx (by rw[List.length_map,List.length_map];omega),?_⟩
 intro l16 H16 s16 hl16 e16
 walk_at "rd"
 intro l17 H17 s17 hl17 e17
 refine⟨_,rfl,l17,(d:Int),_,rfl,rfl,e17,by omega,by omega,qx (by simp only[List.length_cons,List.length_nil,Int.toNat_natCast];omega),fun q hq=>?_⟩
 have s18:qg H17 (upd H17 q (.lst (List.replicate ((d:Nat):Int).toNat [V.str (Str.ofString "done")]).flatten)):=qg.uP hq
 refine⟨l16,q,_,_,rfl,rfl,s18 _ _ (s17 _ _ e16),qw,qx (by rw[len_rep];simp only[List.length_append,List.length_map,List.length_cons,List.length_nil,Int.toNat_natCast];omega),?_⟩
 intro l19 H19 s19 hl19 e19
 obtain⟨hcM,hlM⟩:=hc6.made
 have e19':H19 l19=some (.lst ((rw6 ++ (cz c).drop rw6.length ++ List.replicate d ("done" : Str)).map V.str)):=by
  rw[e19,Int.toNat_natCast,fX,List.map_append,List.map_append,List.map_replicate]
 have sM:qg H13 H19:=((((s14.trans s15).trans s16).trans s17).trans s18).trans s19
 clear e19 s19 s18 s17 s16 s15 s14 e14' e15 e16 e17 hq hl14 hl15 hl16 hl17 e514
 generalize rw6 ++ (cz c).drop rw6.length ++ List.replicate d ("done" : Str)=rwM at *
 obtain⟨fM,lM,_⟩:=hcM.eA
 obtain⟨_,rM⟩:=hcM.read (by decide)
 obtain⟨rr,erM⟩:=rM (by omega)
 have e519:=sM _ _ e13
 have hA19:=sM.seq hA13
 walk_at "rd"
 refine⟨_,l19,rwM,rfl,rfl,q0.of e19',Nat.le_trans (bp fM (by omega)) (by decide),?_⟩
 show bU [.str (Txt.join (Str.ofString "; ") rwM)] H19 _ _
 refine y0 fM (by omega) fun H20 s20=>?_
 rw[erM]
 walk_at "rd"
 rw[g0]
 refine⟨qx (by omega),?_⟩
 rw[JA]
 show bU [.str (Txt.join (Str.ofString "; ") [jG ("parties" :: names0 c 1)])] H20 _ _
 refine y0 (Kg c) (by simp) fun H21 s21=>?_
 rw[Zs]
 have e521:=s21 _ _ (s20 _ _ e519)
 walk_at "rd"
 rw[Ww]
 show bU [.str (Txt.join (Str.ofString "; ") [])] H21 _ _
 refine y0 (fun x hx=>by cases hx) (by simp) fun H22 s22=>?_
 rw[ZS]
 have e522:=s22 _ _ e521
 walk_at "rd"
 refine⟨_,l5,rw6,rfl,rfl,q0.of e522,Nat.le_trans (bp hF (by omega)) (by decide),?_⟩
 show bU [.str (Txt.join (Str.ofString "; ") rw6)] H22 _ _
 refine hrf fun H23 s23=>?_
 have hsc:KD fv fv=true:=by
  by_cases q:rw6.length < 3∨0 < d
  ·rw[hbad q];rfl
  ·rw[hgood q];rfl
 refine⟨_,rfl,hsc,?_⟩
 rw[decide_eq_true rfl]
 exact k H23
theorem aJ (T:Txt K mg t) (s:Shared) (u:Value):BindsTo s t.dG ⟨[u],[]⟩ [("_law_script",u)]:=by
 obtain⟨oc,od,kV,doc,pm,an,cdv,ct,osl,e,_⟩:=T.QQ.fn.ex
 rw[e]
 exact .of_eq rfl
theorem ak {H:Hp} {a:Addr} {ns:List Int} (hl:ns.length≤63) (_:ZQ H) (hS:q0 K H a (ns.map V.int)):Z9 K [.ref a] H (fun v _=>v=.bl true) fun _ _ _=>False:=
 ⟨a,ns,rfl,hS,hl,fun _=>rfl⟩
end
theorem Jy:(19:Nat)≤sizeLine:=qx (by decide)
theorem JL {t0 t1 t2 t3 t4 t5 t6 t7 t8 t9 t10 t11 t12 t13 t14 t15 t16 t17 t18:Tok}:Vals (yc.map V.str) ([.str "acts" t0,.str "any" t1,.str "be" t2,.str "by" t3,.str "calm" t4,.str "done" t5,.str "else" t6,.str "end" t7,.str "in" t8,.str "let" t9,.str "may" t10,.str "must" t11,.str "not" t12,.str "part" t13,.str "parties" t14,.str "rest" t15,.str "sore" t16,.str "to" t17,.str "whole" t18]:List Value):=by
 repeat (first | exact .nil | refine .cons ⟨_,rfl⟩ ?_)
theorem QR:(3:Nat)≤sizeLine:=qx (by decide)
theorem Zn {t0 t1 t2:Tok}:Vals (xw.map V.str) ([.str "calm" t0,.str "sore" t1,.str "end" t2]:List Value):=by
 repeat (first | exact .nil | refine .cons ⟨_,rfl⟩ ?_)
set_option maxHeartbeats 4000000 in
theorem X3 {K:PySem.W.Frag} {h:Heap} {mg:Str→Option Value} (X:K.In h) (G:h.Ns mainGlobals mg)
  {za zb zc zd ze zf zg zh zi zj zk zl zm zn zo zp zq zr zs zt zu zv zw zx zy zz zA zB zC zD zE zF zG zH zI zJ zK zL zM zN zO zP zQ zR zS zT zU zV zW zX zY zZ zaa zab zac zad zae zaf zag zah zai zaj zak zal zam zan zao zap zaq:Addr}
  {zar zas:Option Addr} {zat:Array (Option Value)} {zau zav zaw zax zay zaz:Value}
  {zaA zaB:Option Addr} {zaC:Array (Option Value)} {zaD zaE zaF zaG zaH zaI:Value}
  {zaJ zaK:Option Addr} {zaL:Array (Option Value)} {zaM zaN zaO zaP zaQ zaR:Value}
  {zaS zaT:Option Addr} {zaU:Array (Option Value)} {zaV zaW zaX zaY zaZ zba:Value}
  {zbb zbc:Option Addr} {zbd:Array (Option Value)} {zbe zbf zbg zbh zbi zbj:Value}
  {zbk zbl:Option Addr} {zbm:Array (Option Value)} {zbn zbo zbp zbq zbr zbs:Value}
  {zbt zbu:Option Addr} {zbv:Array (Option Value)} {zbw zbx zby zbz zbA zbB:Value}
  {zbC zbD:Option Addr} {zbE:Array (Option Value)} {zbF zbG zbH zbI zbJ zbK:Value}
  {zbL zbM:Option Addr} {zbN:Array (Option Value)} {zbO zbP zbQ zbR zbS zbT:Value}
  {zbU zbV:Option Addr} {zbW:Array (Option Value)} {zbX zbY zbZ zca zcb zcc:Value}
  {zcd zce:Option Addr} {zcf:Array (Option Value)} {zcg zch zci zcj zck zcl:Value}
  {zcm zcn:Option Addr} {zco:Array (Option Value)} {zcp zcq zcr zcs zct zcu:Value}
  {zcv zcw:Option Addr} {zcx:Array (Option Value)} {zcy zcz zcA zcB zcC zcD:Value}
  {zcE zcF:Option Addr} {zcG:Array (Option Value)} {zcH zcI zcJ zcK zcL zcM:Value}
  {zcN zcO:Option Addr} {zcP:Array (Option Value)} {zcQ zcR zcS zcT zcU zcV:Value}
  {zcW zcX:Option Addr} {zcY:Array (Option Value)} {zcZ zda zdb zdc zdd zde:Value}
  {zdf zdg:Option Addr} {zdh:Array (Option Value)} {zdi zdj zdk zdl zdm zdn:Value}
  {zdo zdp:Option Addr} {zdq:Array (Option Value)} {zdr zds zdt zdu zdv zdw:Value}
  {zdx zdy:Option Addr} {zdz:Array (Option Value)} {zdA zdB zdC zdD zdE zdF:Value}
  {zdG zdH:Option Addr} {zdI:Array (Option Value)} {zdJ zdK zdL zdM zdN zdO:Value}
  {zdP zdQ:Option Addr} {zdR:Array (Option Value)} {zdS zdT zdU zdV zdW zdX:Value}
  {zdY zdZ:Option Addr} {zea:Array (Option Value)} {zeb zec zed zee zef zeg:Value}
  {zeh zei:Option Addr} {zej:Array (Option Value)} {zek zel zem zen zeo zep:Value}
  {zeq zer:Option Addr} {zes:Array (Option Value)} {zet zeu zev zew zex zey:Value}
  {zez zeA:Option Addr} {zeB:Array (Option Value)} {zeC zeD zeE zeF zeG zeH:Value}
  {zeI zeJ:Option Addr} {zeK:Array (Option Value)} {zeL zeM zeN zeO zeP zeQ:Value}
  {zeR zeS:Option Addr} {zeT:Array (Option Value)} {zeU zeV zeW zeX zeY zeZ:Value}
  {zfa zfb:Option Addr} {zfc:Array (Option Value)} {zfd zfe zff zfg zfh zfi:Value}
  {zfj zfk:Option Addr} {zfl:Array (Option Value)} {zfm zfn zfo zfp zfq zfr:Value}
  {zfs zft:Option Addr} {zfu:Array (Option Value)} {zfv zfw zfx zfy zfz zfA:Value}
  {zfB zfC:Option Addr} {zfD:Array (Option Value)} {zfE zfF zfG zfH zfI zfJ:Value}
  {zfK zfL:Option Addr} {zfM:Array (Option Value)} {zfN zfO zfP zfQ zfR zfS:Value}
  {zfT zfU:Option Addr} {zfV:Array (Option Value)} {zfW zfX zfY zfZ zga zgb:Value}
  {zgc zgd:Option Addr} {zge:Array (Option Value)} {zgf zgg zgh zgi zgj zgk:Value}
  {zgl zgm:Option Addr} {zgn:Array (Option Value)} {zgo zgp zgq zgr zgs zgt:Value}
  {zgu zgv:Option Addr} {zgw:Array (Option Value)} {zgx zgy zgz zgA zgB zgC:Value}
  {zgD zgE:Option Addr} {zgF:Array (Option Value)} {zgG zgH zgI zgJ zgK zgL:Value}
  {zgM zgN:Option Addr} {zgO:Array (Option Value)} {zgP zgQ zgR zgS zgT zgU:Value}
  {zgV zgW:Option Addr} {zgX:Array (Option Value)} {zgY zgZ zha zhb zhc zhd:Value}
  {zhe zhf:Option Addr} {zhg:Array (Option Value)} {zhh zhi zhj zhk zhl zhm:Value}
  {zhn zho:Option Addr} {zhp:Array (Option Value)} {zhq zhr zhs zht zhu zhv:Value}
  {zhw zhx:Option Addr} {zhy:Array (Option Value)} {zhz zhA zhB zhC zhD zhE:Value}
  {zhF zhG:Option Addr} {zhH:Array (Option Value)} {zhI zhJ zhK zhL zhM zhN:Value}
  {zhO zhP:Option Addr} {zhQ:Array (Option Value)} {zhR zhS zhT zhU zhV zhW:Value}
  {zhX zhY:Option Addr} {zhZ:Array (Option Value)} {zia zib zic zid zie zif:Value}
  {zig zih:Option Addr} {zii:Array (Option Value)} {zij zik zil zim zin zio:Value}
  {ziq zir zis zit ziu ziv ziw zix ziy ziz:Tok}
  {ziA:Obj} {ziB:Obj} {ziC:Obj} {ziD:Obj}
  (ziE:PySem.W.nsIn K mainGlobals "PactError" = some (some (.ref zU)))
  (ziF:PySem.W.nsIn K mainGlobals "NoText" = some (some (.ref zV)))
  (ziG:PySem.W.nsIn K mainGlobals "NoName" = some (some (.ref zW)))
  (ziH:PySem.W.nsIn K mainGlobals "CalmRoom" = some (some (.ref zX)))
  (ziI:PySem.W.nsIn K mainGlobals "NoDeed" = some (some (.ref zY)))
  (ziJ:PySem.W.nsIn K mainGlobals "TooMany" = some (some (.ref zZ)))
  (ziK:PySem.W.nsIn K mainGlobals "Breach" = some (some (.ref zaa)))
  (ziL:PySem.W.nsIn K mainGlobals "NoStand" = some (some (.ref zab)))
  (ziM:PySem.W.nsIn K mainGlobals "NoPair" = some (some (.ref zac)))
  (ziN:PySem.W.nsIn K mainGlobals "NoChange" = some (some (.ref zad)))
  (ziO:PySem.W.nsIn K mainGlobals "NoRow" = some (some (.ref zae)))
  (ziP:PySem.W.nsIn K mainGlobals "Row" = some (some (.ref zaf)))
  (ziQ:PySem.W.nsIn K mainGlobals "Clause" = some (some (.ref zag)))
  (ziR:PySem.W.nsIn K mainGlobals "Duty" = some (some (.ref zah)))
  (ziS:PySem.W.nsIn K mainGlobals "Leave" = some (some (.ref zai)))
  (ziT:PySem.W.nsIn K mainGlobals "Ban" = some (some (.ref zaj)))
  (ziU:PySem.W.nsIn K mainGlobals "Power" = some (some (.ref zak)))
  (ziV:PySem.W.nsIn K mainGlobals "Let" = some (some (.ref zal)))
  (ziW:PySem.W.nsIn K mainGlobals "Part" = some (some (.ref zam)))
  (ziX:PySem.W.nsIn K mainGlobals "Pact" = some (some (.ref zan)))
  (ziY:PySem.W.nsIn K mainGlobals "Body" = some (some (.ref zao)))
  (ziZ:PySem.W.nsIn K mainGlobals "KEPT" = some (some (.ref zap)))
  (zja:PySem.W.nsIn K mainGlobals "LETTERS" = some (some (.str "abcdefghijklmnopqrstuvwxyz" ziq)))
  (zjb:PySem.W.nsIn K mainGlobals "FIGURES" = some (some (.str "0123456789" zir)))
  (zjc:PySem.W.nsIn K mainGlobals "MOST_LETTERS" = some (some (.int 8 zis)))
  (zjd:PySem.W.nsIn K mainGlobals "MOST_FIGURES" = some (some (.int 20 zit)))
  (zje:PySem.W.nsIn K mainGlobals "MARKS" = some (some (.ref zaq)))
  (zjf:PySem.W.nsIn K mainGlobals "MOST_ROOMS" = some (some (.int 12 ziu)))
  (zjg:PySem.W.nsIn K mainGlobals "MOST_PARTIES" = some (some (.int 4 ziv)))
  (zjh:PySem.W.nsIn K mainGlobals "MOST_ACTS" = some (some (.int 6 ziw)))
  (zji:PySem.W.nsIn K mainGlobals "MOST_ROWS" = some (some (.int 90 zix)))
  (zjj:PySem.W.nsIn K mainGlobals "MOST_OPEN" = some (some (.int 6 ziy)))
  (zjk:PySem.W.nsIn K mainGlobals "FIRST_ROOM" = some (some (.int 2 ziz)))
  (zjl:PySem.W.findIn K (.ref zV) "__init__" = some (some (.ref za)))
  (zjm:K.lookup za=some ⟨zau,zar,.func (PySem.W.fnOf "__init__" "NoText.__init__" (qq jV) (qz jV) (z5 jV) .none zav zaw zax zas zay zaz),zat⟩)
  (zjn:PySem.W.codeIn K zay "NoText.__init__" = true)
  (zjo:PySem.W.keepIn K (.ref za)=true)
  (zjp:PySem.W.findIn K (.ref zag) "__init__" = some (some (.ref zb)))
  (zjq:K.lookup zb=some ⟨zaD,zaA,.func (PySem.W.fnOf "__init__" "Clause.__init__" (qq jJ) (qz jJ) (z5 jJ) .none zaE zaF zaG zaB zaH zaI),zaC⟩)
  (zjr:PySem.W.codeIn K zaH "Clause.__init__" = true)
  (zjs:PySem.W.keepIn K (.ref zb)=true)
  (zjt:PySem.W.findIn K (.ref zag) "number" = some (some (.ref zc)))
  (zju:K.lookup zc=some ⟨zaM,zaJ,.func (PySem.W.fnOf "number" "Clause.number" (qq jt) (qz jt) (z5 jt) .none zaN zaO zaP zaK zaQ zaR),zaL⟩)
  (zjv:PySem.W.codeIn K zaQ "Clause.number" = true)
  (zjw:PySem.W.keepIn K (.ref zc)=true)
  (zjx:PySem.W.findIn K (.ref zah) "__init__" = some (some (.ref zd)))
  (zjy:K.lookup zd=some ⟨zaV,zaS,.func (PySem.W.fnOf "__init__" "Duty.__init__" (qq j8) (qz j8) (z5 j8) .none zaW zaX zaY zaT zaZ zba),zaU⟩)
  (zjz:PySem.W.codeIn K zaZ "Duty.__init__" = true)
  (zjA:PySem.W.keepIn K (.ref zd)=true)
  (zjB:PySem.W.findIn K (.ref zah) "number" = some (some (.ref ze)))
  (zjC:K.lookup ze=some ⟨zbe,zbb,.func (PySem.W.fnOf "number" "Duty.number" (qq jR) (qz jR) (z5 jR) .none zbf zbg zbh zbc zbi zbj),zbd⟩)
  (zjD:PySem.W.codeIn K zbi "Duty.number" = true)
  (zjE:PySem.W.keepIn K (.ref ze)=true)
  (zjF:PySem.W.findIn K (.ref zaj) "__init__" = some (some (.ref zf)))
  (zjG:K.lookup zf=some ⟨zbn,zbk,.func (PySem.W.fnOf "__init__" "Ban.__init__" (qq xQ) (qz xQ) (z5 xQ) .none zbo zbp zbq zbl zbr zbs),zbm⟩)
  (zjH:PySem.W.codeIn K zbr "Ban.__init__" = true)
  (zjI:PySem.W.keepIn K (.ref zf)=true)
  (zjJ:PySem.W.findIn K (.ref zak) "__init__" = some (some (.ref zg)))
  (zjK:K.lookup zg=some ⟨zbw,zbt,.func (PySem.W.fnOf "__init__" "Power.__init__" (qq jU) (qz jU) (z5 jU) .none zbx zby zbz zbu zbA zbB),zbv⟩)
  (zjL:PySem.W.codeIn K zbA "Power.__init__" = true)
  (zjM:PySem.W.keepIn K (.ref zg)=true)
  (zjN:PySem.W.findIn K (.ref zal) "__init__" = some (some (.ref zh)))
  (zjO:K.lookup zh=some ⟨zbF,zbC,.func (PySem.W.fnOf "__init__" "Let.__init__" (qq xK) (qz xK) (z5 xK) .none zbG zbH zbI zbD zbJ zbK),zbE⟩)
  (zjP:PySem.W.codeIn K zbJ "Let.__init__" = true)
  (zjQ:PySem.W.keepIn K (.ref zh)=true)
  (zjR:PySem.W.findIn K (.ref zam) "__init__" = some (some (.ref zi)))
  (zjS:K.lookup zi=some ⟨zbO,zbL,.func (PySem.W.fnOf "__init__" "Part.__init__" (qq j7) (qz j7) (z5 j7) .none zbP zbQ zbR zbM zbS zbT),zbN⟩)
  (zjT:PySem.W.codeIn K zbS "Part.__init__" = true)
  (zjU:PySem.W.keepIn K (.ref zi)=true)
  (zjV:PySem.W.findIn K (.ref zan) "__init__" = some (some (.ref zj)))
  (zjW:K.lookup zj=some ⟨zbX,zbU,.func (PySem.W.fnOf "__init__" "Pact.__init__" (qq xq) (qz xq) (z5 xq) .none zbY zbZ zca zbV zcb zcc),zbW⟩)
  (zjX:PySem.W.codeIn K zcb "Pact.__init__" = true)
  (zjY:PySem.W.keepIn K (.ref zj)=true)
  (zjZ:PySem.W.nsIn K mainGlobals "is_name" = some (some (.ref zk)))
  (zka:K.lookup zk=some ⟨zcg,zcd,.func (PySem.W.fnOf "is_name" "is_name" (qq j6) (qz j6) (z5 j6) .none zch zci zcj zce zck zcl),zcf⟩)
  (zkb:PySem.W.codeIn K zck "is_name" = true)
  (zkc:PySem.W.keepIn K (.ref zk)=true)
  (zkd:PySem.W.nsIn K mainGlobals "number_of" = some (some (.ref zl)))
  (zke:K.lookup zl=some ⟨zcp,zcm,.func (PySem.W.fnOf "number_of" "number_of" (qq je) (qz je) (z5 je) .none zcq zcr zcs zcn zct zcu),zco⟩)
  (zkf:PySem.W.codeIn K zct "number_of" = true)
  (zkg:PySem.W.keepIn K (.ref zl)=true)
  (zkh:PySem.W.nsIn K mainGlobals "written_with" = some (some (.ref zm)))
  (zki:K.lookup zm=some ⟨zcy,zcv,.func (PySem.W.fnOf "written_with" "written_with" (qq qL) (qz qL) (z5 qL) .none zcz zcA zcB zcw zcC zcD),zcx⟩)
  (zkj:PySem.W.codeIn K zcC "written_with" = true)
  (zkk:PySem.W.keepIn K (.ref zm)=true)
  (zkl:PySem.W.nsIn K mainGlobals "names_of" = some (some (.ref zn)))
  (zkm:K.lookup zn=some ⟨zcH,zcE,.func (PySem.W.fnOf "names_of" "names_of" (qq jM) (qz jM) (z5 jM) .none zcI zcJ zcK zcF zcL zcM),zcG⟩)
  (zkn:PySem.W.codeIn K zcL "names_of" = true)
  (zko:PySem.W.keepIn K (.ref zn)=true)
  (zkp:PySem.W.nsIn K mainGlobals "are_names" = some (some (.ref zo)))
  (zkq:K.lookup zo=some ⟨zcQ,zcN,.func (PySem.W.fnOf "are_names" "are_names" (qq jb) (qz jb) (z5 jb) .none zcR zcS zcT zcO zcU zcV),zcP⟩)
  (zkr:PySem.W.codeIn K zcU "are_names" = true)
  (zks:PySem.W.keepIn K (.ref zo)=true)
  (zkt:PySem.W.nsIn K mainGlobals "room_of" = some (some (.ref zp)))
  (zku:K.lookup zp=some ⟨zcZ,zcW,.func (PySem.W.fnOf "room_of" "room_of" (qq j0) (qz j0) (z5 j0) .none zda zdb zdc zcX zdd zde),zcY⟩)
  (zkv:PySem.W.codeIn K zdd "room_of" = true)
  (zkw:PySem.W.keepIn K (.ref zp)=true)
  (zkx:PySem.W.nsIn K mainGlobals "let_of" = some (some (.ref zq)))
  (zky:K.lookup zq=some ⟨zdi,zdf,.func (PySem.W.fnOf "let_of" "let_of" (qq xJ) (qz xJ) (z5 xJ) .none zdj zdk zdl zdg zdm zdn),zdh⟩)
  (zkz:PySem.W.codeIn K zdm "let_of" = true)
  (zkA:PySem.W.keepIn K (.ref zq)=true)
  (zkB:PySem.W.nsIn K mainGlobals "part_of" = some (some (.ref zr)))
  (zkC:K.lookup zr=some ⟨zdr,zdo,.func (PySem.W.fnOf "part_of" "part_of" (qq xy) (qz xy) (z5 xy) .none zds zdt zdu zdp zdv zdw),zdq⟩)
  (zkD:PySem.W.codeIn K zdv "part_of" = true)
  (zkE:PySem.W.keepIn K (.ref zr)=true)
  (zkF:PySem.W.nsIn K mainGlobals "clause_of" = some (some (.ref zs)))
  (zkG:K.lookup zs=some ⟨zdA,zdx,.func (PySem.W.fnOf "clause_of" "clause_of" (qq jW) (qz jW) (z5 jW) .none zdB zdC zdD zdy zdE zdF),zdz⟩)
  (zkH:PySem.W.codeIn K zdE "clause_of" = true)
  (zkI:PySem.W.keepIn K (.ref zs)=true)
  (zkJ:PySem.W.nsIn K mainGlobals "fits_form" = some (some (.ref zt)))
  (zkK:K.lookup zt=some ⟨zdJ,zdG,.func (PySem.W.fnOf "fits_form" "fits_form" (qq jf) (qz jf) (z5 jf) .none zdK zdL zdM zdH zdN zdO),zdI⟩)
  (zkL:PySem.W.codeIn K zdN "fits_form" = true)
  (zkM:PySem.W.keepIn K (.ref zt)=true)
  (zkN:PySem.W.nsIn K mainGlobals "fits_place" = some (some (.ref zu)))
  (zkO:K.lookup zu=some ⟨zdS,zdP,.func (PySem.W.fnOf "fits_place" "fits_place" (qq jr) (qz jr) (z5 jr) .none zdT zdU zdV zdQ zdW zdX),zdR⟩)
  (zkP:PySem.W.codeIn K zdW "fits_place" = true)
  (zkQ:PySem.W.keepIn K (.ref zu)=true)
  (zkR:PySem.W.nsIn K mainGlobals "read" = some (some (.ref zv)))
  (zkS:K.lookup zv=some ⟨zeb,zdY,.func (PySem.W.fnOf "read" "read" (qq vw) (qz vw) (z5 vw) .none zec zed zee zdZ zef zeg),zea⟩)
  (zkT:PySem.W.codeIn K zef "read" = true)
  (zkU:PySem.W.keepIn K (.ref zv)=true)
  (zkV:PySem.W.nsIn K mainGlobals "read_names" = some (some (.ref zw)))
  (zkW:K.lookup zw=some ⟨zek,zeh,.func (PySem.W.fnOf "read_names" "read_names" (qq ju) (qz ju) (z5 ju) .none zel zem zen zei zeo zep),zej⟩)
  (zkX:PySem.W.codeIn K zeo "read_names" = true)
  (zkY:PySem.W.keepIn K (.ref zw)=true)
  (zkZ:PySem.W.nsIn K mainGlobals "told_once" = some (some (.ref zx)))
  (zla:K.lookup zx=some ⟨zet,zeq,.func (PySem.W.fnOf "told_once" "told_once" (qq jK) (qz jK) (z5 jK) .none zeu zev zew zer zex zey),zes⟩)
  (zlb:PySem.W.codeIn K zex "told_once" = true)
  (zlc:PySem.W.keepIn K (.ref zx)=true)
  (zld:PySem.W.nsIn K mainGlobals "read_rooms" = some (some (.ref zy)))
  (zle:K.lookup zy=some ⟨zeC,zez,.func (PySem.W.fnOf "read_rooms" "read_rooms" (qq jw) (qz jw) (z5 jw) .none zeD zeE zeF zeA zeG zeH),zeB⟩)
  (zlf:PySem.W.codeIn K zeG "read_rooms" = true)
  (zlg:PySem.W.keepIn K (.ref zy)=true)
  (zlh:PySem.W.nsIn K mainGlobals "read_whole" = some (some (.ref zz)))
  (zli:K.lookup zz=some ⟨zeL,zeI,.func (PySem.W.fnOf "read_whole" "read_whole" (qq jc) (qz jc) (z5 jc) .none zeM zeN zeO zeJ zeP zeQ),zeK⟩)
  (zlj:PySem.W.codeIn K zeP "read_whole" = true)
  (zlk:PySem.W.keepIn K (.ref zz)=true)
  (zll:PySem.W.findIn K (.ref zao) "__init__" = some (some (.ref zA)))
  (zlm:K.lookup zA=some ⟨zeU,zeR,.func (PySem.W.fnOf "__init__" "Body.__init__" (qq xg) (qz xg) (z5 xg) .none zeV zeW zeX zeS zeY zeZ),zeT⟩)
  (zln:PySem.W.codeIn K zeY "Body.__init__" = true)
  (zlo:PySem.W.keepIn K (.ref zA)=true)
  (zlp:PySem.W.findIn K (.ref zao) "many_open" = some (some (.ref zB)))
  (zlq:K.lookup zB=some ⟨zfd,zfa,.func (PySem.W.fnOf "many_open" "Body.many_open" (qq q9) (qz q9) (z5 q9) .none zfe zff zfg zfb zfh zfi),zfc⟩)
  (zlr:PySem.W.codeIn K zfh "Body.many_open" = true)
  (zls:PySem.W.keepIn K (.ref zB)=true)
  (zlt:PySem.W.findIn K (.ref zao) "takes" = some (some (.ref zC)))
  (zlu:K.lookup zC=some ⟨zfm,zfj,.func (PySem.W.fnOf "takes" "Body.takes" (qq jD) (qz jD) (z5 jD) .none zfn zfo zfp zfk zfq zfr),zfl⟩)
  (zlv:PySem.W.codeIn K zfq "Body.takes" = true)
  (zlw:PySem.W.keepIn K (.ref zC)=true)
  (zlx:PySem.W.findIn K (.ref zao) "takes_done" = some (some (.ref zD)))
  (zly:K.lookup zD=some ⟨zfv,zfs,.func (PySem.W.fnOf "takes_done" "Body.takes_done" (qq qN) (qz qN) (z5 qN) .none zfw zfx zfy zft zfz zfA),zfu⟩)
  (zlz:PySem.W.codeIn K zfz "Body.takes_done" = true)
  (zlA:PySem.W.keepIn K (.ref zD)=true)
  (zlB:PySem.W.findIn K (.ref zao) "takes_head" = some (some (.ref zE)))
  (zlC:K.lookup zE=some ⟨zfE,zfB,.func (PySem.W.fnOf "takes_head" "Body.takes_head" (qq qI) (qz qI) (z5 qI) .none zfF zfG zfH zfC zfI zfJ),zfD⟩)
  (zlD:PySem.W.codeIn K zfI "Body.takes_head" = true)
  (zlE:PySem.W.keepIn K (.ref zE)=true)
  (zlF:PySem.W.findIn K (.ref zao) "takes_clause" = some (some (.ref zF)))
  (zlG:K.lookup zF=some ⟨zfN,zfK,.func (PySem.W.fnOf "takes_clause" "Body.takes_clause" (qq qF) (qz qF) (z5 qF) .none zfO zfP zfQ zfL zfR zfS),zfM⟩)
  (zlH:PySem.W.codeIn K zfR "Body.takes_clause" = true)
  (zlI:PySem.W.keepIn K (.ref zF)=true)
  (zlJ:PySem.W.findIn K (.ref zao) "put_in" = some (some (.ref zG)))
  (zlK:K.lookup zG=some ⟨zfW,zfT,.func (PySem.W.fnOf "put_in" "Body.put_in" (qq jQ) (qz jQ) (z5 jQ) .none zfX zfY zfZ zfU zga zgb),zfV⟩)
  (zlL:PySem.W.codeIn K zga "Body.put_in" = true)
  (zlM:PySem.W.keepIn K (.ref zG)=true)
  (zlN:PySem.W.findIn K (.ref zao) "closed" = some (some (.ref zH)))
  (zlO:K.lookup zH=some ⟨zgf,zgc,.func (PySem.W.fnOf "closed" "Body.closed" (qq ja) (qz ja) (z5 ja) .none zgg zgh zgi zgd zgj zgk),zge⟩)
  (zlP:PySem.W.codeIn K zgj "Body.closed" = true)
  (zlQ:PySem.W.keepIn K (.ref zH)=true)
  (zlR:PySem.W.nsIn K mainGlobals "_law_cell_at" = some (some (.ref zI)))
  (zlS:K.lookup zI=some ⟨zgo,zgl,.func (PySem.W.fnOf "_law_cell_at" "_law_cell_at" (qq j9) (qz j9) (z5 j9) .none zgp zgq zgr zgm zgs zgt),zgn⟩)
  (zlT:PySem.W.codeIn K zgs "_law_cell_at" = true)
  (zlU:PySem.W.keepIn K (.ref zI)=true)
  (zlV:PySem.W.nsIn K mainGlobals "_law_mix" = some (some (.ref zJ)))
  (zlW:K.lookup zJ=some ⟨zgx,zgu,.func (PySem.W.fnOf "_law_mix" "_law_mix" (qq wY) (qz wY) (z5 wY) .none zgy zgz zgA zgv zgB zgC),zgw⟩)
  (zlX:PySem.W.codeIn K zgB "_law_mix" = true)
  (zlY:PySem.W.keepIn K (.ref zJ)=true)
  (zlZ:PySem.W.nsIn K mainGlobals "_law_name" = some (some (.ref zK)))
  (zma:K.lookup zK=some ⟨zgG,zgD,.func (PySem.W.fnOf "_law_name" "_law_name" (qq vp) (qz vp) (z5 vp) .none zgH zgI zgJ zgE zgK zgL),zgF⟩)
  (zmb:PySem.W.codeIn K zgK "_law_name" = true)
  (zmc:PySem.W.keepIn K (.ref zK)=true)
  (zmd:PySem.W.nsIn K mainGlobals "_law_event" = some (some (.ref zL)))
  (zme:K.lookup zL=some ⟨zgP,zgM,.func (PySem.W.fnOf "_law_event" "_law_event" (qq xr) (qz xr) (z5 xr) .none zgQ zgR zgS zgN zgT zgU),zgO⟩)
  (zmf:PySem.W.codeIn K zgT "_law_event" = true)
  (zmg:PySem.W.keepIn K (.ref zL)=true)
  (zmh:PySem.W.nsIn K mainGlobals "_law_events" = some (some (.ref zM)))
  (zmi:K.lookup zM=some ⟨zgY,zgV,.func (PySem.W.fnOf "_law_events" "_law_events" (qq xV) (qz xV) (z5 xV) .none zgZ zha zhb zgW zhc zhd),zgX⟩)
  (zmj:PySem.W.codeIn K zhc "_law_events" = true)
  (zmk:PySem.W.keepIn K (.ref zM)=true)
  (zml:PySem.W.nsIn K mainGlobals "_law_header" = some (some (.ref zN)))
  (zmm:K.lookup zN=some ⟨zhh,zhe,.func (PySem.W.fnOf "_law_header" "_law_header" (qq xW) (qz xW) (z5 xW) .none zhi zhj zhk zhf zhl zhm),zhg⟩)
  (zmn:PySem.W.codeIn K zhl "_law_header" = true)
  (zmo:PySem.W.keepIn K (.ref zN)=true)
  (zmp:PySem.W.nsIn K mainGlobals "_law_row" = some (some (.ref zO)))
  (zmq:K.lookup zO=some ⟨zhq,zhn,.func (PySem.W.fnOf "_law_row" "_law_row" (qq wX) (qz wX) (z5 wX) .none zhr zhs zht zho zhu zhv),zhp⟩)
  (zmr:PySem.W.codeIn K zhu "_law_row" = true)
  (zms:PySem.W.keepIn K (.ref zO)=true)
  (zmt:PySem.W.nsIn K mainGlobals "_law_rows" = some (some (.ref zP)))
  (zmu:K.lookup zP=some ⟨zhz,zhw,.func (PySem.W.fnOf "_law_rows" "_law_rows" (qq kn) (qz kn) (z5 kn) .none zhA zhB zhC zhx zhD zhE),zhy⟩)
  (zmv:PySem.W.codeIn K zhD "_law_rows" = true)
  (zmw:PySem.W.keepIn K (.ref zP)=true)
  (zmx:PySem.W.nsIn K mainGlobals "_law_no_text" = some (some (.ref zQ)))
  (zmy:K.lookup zQ=some ⟨zhI,zhF,.func (PySem.W.fnOf "_law_no_text" "_law_no_text" (qq xj) (qz xj) (z5 xj) .none zhJ zhK zhL zhG zhM zhN),zhH⟩)
  (zmz:PySem.W.codeIn K zhM "_law_no_text" = true)
  (zmA:PySem.W.keepIn K (.ref zQ)=true)
  (zmB:PySem.W.nsIn K mainGlobals "_law_refused_at" = some (some (.ref zR)))
  (zmC:K.lookup zR=some ⟨zhR,zhO,.func (PySem.W.fnOf "_law_refused_at" "_law_refused_at" (qq jd) (qz jd) (z5 jd) .none zhS zhT zhU zhP zhV zhW),zhQ⟩)
  (zmD:PySem.W.codeIn K zhV "_law_refused_at" = true)
  (zmE:PySem.W.keepIn K (.ref zR)=true)
  (zmF:PySem.W.nsIn K mainGlobals "_law_open" = some (some (.ref zS)))
  (zmG:K.lookup zS=some ⟨zia,zhX,.func (PySem.W.fnOf "_law_open" "_law_open" (qq vy) (qz vy) (z5 vy) .none zib zic zid zhY zie zif),zhZ⟩)
  (zmH:PySem.W.codeIn K zie "_law_open" = true)
  (zmI:PySem.W.keepIn K (.ref zS)=true)
  (zmJ:PySem.W.nsIn K mainGlobals "law" = some (some (.ref zT)))
  (zmK:K.lookup zT=some ⟨zij,zig,.func (PySem.W.fnOf "law" "law" (qq vC) (qz vC) (z5 vC) .none zik zil zim zih zin zio),zii⟩)
  (zmL:PySem.W.codeIn K zin "law" = true)
  (zmM:PySem.W.keepIn K (.ref zT)=true)
  (zmN:PySem.W.nsIn K mainGlobals "list" = some none)
  (zmO:PySem.W.nsIn K mainGlobals "len" = some none)
  (zmP:PySem.W.nsIn K mainGlobals "range" = some none)
  (zmQ:PySem.W.nsIn K mainGlobals "all" = some none)
  (zmR:PySem.W.nsIn K mainGlobals "int" = some none)
  (zmS:PySem.W.nsIn K mainGlobals "str" = some none)
  (zmT:PySem.W.nsIn K mainGlobals "isinstance" = some none)
  (zmU:PySem.W.nsIn K mainGlobals "bool" = some none)
  (zmV:PySem.W.nsIn K mainGlobals "zip" = some none)
  (zmW:PySem.W.nsIn K mainGlobals "ValueError" = some none)
  (zmX:PySem.W.nsIn K mainGlobals "set" = some none)
  (zmY:K.lookup zap=some ziA)
  (zmZ:∃(its:Array Value) (n:Nat),ziA.cls=.type "tuple"∧ziA.data=.seq its n∧its.size≤sizeLine∧Vals (yc.map V.str) its.toList)
  (zna:K.lookup zaq=some ziB)
  (znb:∃(its:Array Value) (n:Nat),ziB.cls=.type "tuple"∧ziB.data=.seq its n∧its.size≤sizeLine∧Vals (xw.map V.str) its.toList)
  (znc:PySem.W.plainGet K zag Str.empty=true)
  (znd:PySem.W.hasDictIn K zag=true)
  (zne:PySem.W.plainOver K zag=true)
  (znf:PySem.W.findIn K (.ref zag) "__setattr__" = some (some (.builtin "object.__setattr__")))
  (zng:PySem.W.findIn K (.ref zag) "act" = some none)
  (znh:PySem.W.findIn K (.ref zag) "label" = some none)
  (zni:PySem.W.findIn K (.ref zag) "room" = some none)
  (znj:PySem.W.findIn K (.ref zag) "turns" = some none)
  (znk:PySem.W.findIn K (.ref zag) "who" = some none)
  (znl:PySem.W.makesIn K zag=true)
  (znm:PySem.W.findIn K (.ref zag) "__init__" = some (some (.ref zb)))
  (znn:PySem.W.isFn K (.ref zb)=true)
  (zno:PySem.W.keepIn K (.ref zag)=true)
  (znp:PySem.W.plainGet K zah Str.empty=true)
  (znq:PySem.W.hasDictIn K zah=true)
  (znr:PySem.W.plainOver K zah=true)
  (zns:PySem.W.findIn K (.ref zah) "__setattr__" = some (some (.builtin "object.__setattr__")))
  (znt:PySem.W.findIn K (.ref zah) "act" = some none)
  (znu:PySem.W.findIn K (.ref zah) "label" = some none)
  (znv:PySem.W.findIn K (.ref zah) "room" = some none)
  (znw:PySem.W.findIn K (.ref zah) "turns" = some none)
  (znx:PySem.W.findIn K (.ref zah) "who" = some none)
  (zny:PySem.W.makesIn K zah=true)
  (znz:PySem.W.findIn K (.ref zah) "__init__" = some (some (.ref zd)))
  (znA:PySem.W.isFn K (.ref zd)=true)
  (znB:PySem.W.keepIn K (.ref zah)=true)
  (znC:PySem.W.plainGet K zai Str.empty=true)
  (znD:PySem.W.hasDictIn K zai=true)
  (znE:PySem.W.plainOver K zai=true)
  (znF:PySem.W.findIn K (.ref zai) "__setattr__" = some (some (.builtin "object.__setattr__")))
  (znG:PySem.W.findIn K (.ref zai) "act" = some none)
  (znH:PySem.W.findIn K (.ref zai) "label" = some none)
  (znI:PySem.W.findIn K (.ref zai) "room" = some none)
  (znJ:PySem.W.findIn K (.ref zai) "turns" = some none)
  (znK:PySem.W.findIn K (.ref zai) "who" = some none)
  (znL:PySem.W.makesIn K zai=true)
  (znM:PySem.W.findIn K (.ref zai) "__init__" = some (some (.ref zb)))
  (znN:PySem.W.isFn K (.ref zb)=true)
  (znO:PySem.W.keepIn K (.ref zai)=true)
  (znP:PySem.W.plainGet K zaj Str.empty=true)
  (znQ:PySem.W.hasDictIn K zaj=true)
  (znR:PySem.W.plainOver K zaj=true)
  (znS:PySem.W.findIn K (.ref zaj) "__setattr__" = some (some (.builtin "object.__setattr__")))
  (znT:PySem.W.findIn K (.ref zaj) "act" = some none)
  (znU:PySem.W.findIn K (.ref zaj) "label" = some none)
  (znV:PySem.W.findIn K (.ref zaj) "room" = some none)
  (znW:PySem.W.findIn K (.ref zaj) "turns" = some none)
  (znX:PySem.W.findIn K (.ref zaj) "who" = some none)
  (znY:PySem.W.makesIn K zaj=true)
  (znZ:PySem.W.findIn K (.ref zaj) "__init__" = some (some (.ref zf)))
  (zoa:PySem.W.isFn K (.ref zf)=true)
  (zob:PySem.W.keepIn K (.ref zaj)=true)
  (zoc:PySem.W.plainGet K zak Str.empty=true)
  (zod:PySem.W.hasDictIn K zak=true)
  (zoe:PySem.W.plainOver K zak=true)
  (zof:PySem.W.findIn K (.ref zak) "__setattr__" = some (some (.builtin "object.__setattr__")))
  (zog:PySem.W.findIn K (.ref zak) "act" = some none)
  (zoh:PySem.W.findIn K (.ref zak) "label" = some none)
  (zoi:PySem.W.findIn K (.ref zak) "room" = some none)
  (zoj:PySem.W.findIn K (.ref zak) "turns" = some none)
  (zok:PySem.W.findIn K (.ref zak) "who" = some none)
  (zol:PySem.W.makesIn K zak=true)
  (zom:PySem.W.findIn K (.ref zak) "__init__" = some (some (.ref zg)))
  (zon:PySem.W.isFn K (.ref zg)=true)
  (zoo:PySem.W.keepIn K (.ref zak)=true)
  (zop:PySem.W.plainGet K zal Str.empty=true)
  (zoq:PySem.W.hasDictIn K zal=true)
  (zor:PySem.W.plainOver K zal=true)
  (zos:PySem.W.findIn K (.ref zal) "__setattr__" = some (some (.builtin "object.__setattr__")))
  (zot:PySem.W.findIn K (.ref zal) "name" = some none)
  (zou:PySem.W.findIn K (.ref zal) "value" = some none)
  (zov:PySem.W.makesIn K zal=true)
  (zow:PySem.W.findIn K (.ref zal) "__init__" = some (some (.ref zh)))
  (zox:PySem.W.isFn K (.ref zh)=true)
  (zoy:PySem.W.keepIn K (.ref zal)=true)
  (zoz:PySem.W.plainGet K zam Str.empty=true)
  (zoA:PySem.W.hasDictIn K zam=true)
  (zoB:PySem.W.plainOver K zam=true)
  (zoC:PySem.W.findIn K (.ref zam) "__setattr__" = some (some (.builtin "object.__setattr__")))
  (zoD:PySem.W.findIn K (.ref zam) "name" = some none)
  (zoE:PySem.W.findIn K (.ref zam) "rooms" = some none)
  (zoF:PySem.W.findIn K (.ref zam) "rows" = some none)
  (zoG:PySem.W.makesIn K zam=true)
  (zoH:PySem.W.findIn K (.ref zam) "__init__" = some (some (.ref zi)))
  (zoI:PySem.W.isFn K (.ref zi)=true)
  (zoJ:PySem.W.keepIn K (.ref zam)=true)
  (zoK:PySem.W.plainGet K zan Str.empty=true)
  (zoL:PySem.W.hasDictIn K zan=true)
  (zoM:PySem.W.plainOver K zan=true)
  (zoN:PySem.W.findIn K (.ref zan) "__setattr__" = some (some (.builtin "object.__setattr__")))
  (zoO:PySem.W.findIn K (.ref zan) "acts" = some none)
  (zoP:PySem.W.findIn K (.ref zan) "parties" = some none)
  (zoQ:PySem.W.findIn K (.ref zan) "rooms" = some none)
  (zoR:PySem.W.findIn K (.ref zan) "whole" = some none)
  (zoS:PySem.W.makesIn K zan=true)
  (zoT:PySem.W.findIn K (.ref zan) "__init__" = some (some (.ref zj)))
  (zoU:PySem.W.isFn K (.ref zj)=true)
  (zoV:PySem.W.keepIn K (.ref zan)=true)
  (zoW:PySem.W.plainGet K zao Str.empty=true)
  (zoX:PySem.W.hasDictIn K zao=true)
  (zoY:PySem.W.plainOver K zao=true)
  (zoZ:PySem.W.findIn K (.ref zao) "__setattr__" = some (some (.builtin "object.__setattr__")))
  (zpa:PySem.W.findIn K (.ref zao) "bodies" = some none)
  (zpb:PySem.W.findIn K (.ref zao) "heads" = some none)
  (zpc:PySem.W.findIn K (.ref zao) "labels" = some none)
  (zpd:PySem.W.makesIn K zao=true)
  (zpe:PySem.W.findIn K (.ref zao) "__init__" = some (some (.ref zA)))
  (zpf:PySem.W.isFn K (.ref zA)=true)
  (zpg:PySem.W.keepIn K (.ref zao)=true)
  (zph:PySem.W.findIn K (.ref zao) "many_open" = some (some (.ref zB)))
  (zpi:PySem.W.isFn K (.ref zB)=true)
  (zpj:PySem.W.findIn K (.ref zao) "takes" = some (some (.ref zC)))
  (zpk:PySem.W.isFn K (.ref zC)=true)
  (zpl:PySem.W.findIn K (.ref zao) "takes_done" = some (some (.ref zD)))
  (zpm:PySem.W.isFn K (.ref zD)=true)
  (zpn:PySem.W.findIn K (.ref zao) "takes_head" = some (some (.ref zE)))
  (zpo:PySem.W.isFn K (.ref zE)=true)
  (zpp:PySem.W.findIn K (.ref zao) "takes_clause" = some (some (.ref zF)))
  (zpq:PySem.W.isFn K (.ref zF)=true)
  (zpr:PySem.W.findIn K (.ref zao) "put_in" = some (some (.ref zG)))
  (zps:PySem.W.isFn K (.ref zG)=true)
  (zpt:PySem.W.findIn K (.ref zao) "closed" = some (some (.ref zH)))
  (zpu:PySem.W.isFn K (.ref zH)=true)
  (zpv:K.lookup zU=some ziC)
  (zpw:Vi zU ziC=true)
  (zpx:K.lookup zV=some ziD)
  (zpy:Vi zV ziD=true)
  (zpz:PySem.W.findIn K (.ref zV) "__setattr__" = some (some (.builtin "object.__setattr__")))
  (zpA:PySem.W.findIn K (.ref zV) "__getattribute__" = some (some (.builtin "BaseException.__getattribute__")))
  (zpB:PySem.W.findIn K (.ref zV) "__getattr__" = some none)
  (zpC:PySem.W.mroIn K zV (.type "BaseException")=some true)
  (zpD:PySem.W.hasDictIn K zV=true)
  (zpE:PySem.W.findIn K (.ref zV) "__class__" = some (some (.builtin "object.__class__")))
  (zpF:PySem.W.specialIn K (.builtin "object.__class__") "__get__" = some (some (.builtin "getset_descriptor.__get__")))
  (zpG:PySem.W.takesIn K (.builtin "object.__class__")=some true)
  (zpH:PySem.W.mroIn K zV (.type "object")=some true)
  (zpI:PySem.W.findIn K (.ref zV) "__init__" = some (some (.ref za)))
  (zpJ:PySem.W.isFn K (.ref za)=true)
  (zpK:PySem.W.keepIn K (.ref zV)=true)
  (zpL:PySem.W.findIn K (.ref zV) "row" = some none)
  (zpM:PySem.W.subIn K (.ref zU) (.type "BaseException")=some true)
  (zpN:PySem.W.typeIn K (.ref zU)=some (.type "type"))
  (zpO:PySem.W.subIn K (.ref zV) (.ref zU)=some true)
  (zpP:PySem.W.specialIn K (.ref zag) "__getattribute__" = some (some (.builtin "type.__getattribute__")))
  (zpQ:PySem.W.readsIn K zag (.type "type")=true)
  (zpR:PySem.W.findCls K (.ref zag) (.type "type") "__init__" = some (.val (.ref zb)))
  (zpS:PySem.W.specialIn K (.ref zai) "__getattribute__" = some (some (.builtin "type.__getattribute__")))
  (zpT:PySem.W.readsIn K zai (.type "type")=true)
  (zpU:PySem.W.findCls K (.ref zai) (.type "type") "__init__" = some (.val (.ref zb)))
  (zpV:PySem.W.kitOne K (.ref zV) (.ref zW)=some false)
  (zpW:PySem.W.kitOne K (.ref zV) (.ref zX)=some false)
  (zpX:PySem.W.kitOne K (.ref zV) (.ref zY)=some false)
  (zpY:PySem.W.kitOne K (.ref zV) (.ref zZ)=some false)
  (zpZ:PySem.W.kitOne K (.ref zV) (.ref zaa)=some false)
  (zqa:PySem.W.kitOne K (.ref zV) (.ref zab)=some false)
  (zqb:PySem.W.kitOne K (.ref zV) (.ref zac)=some false)
  (zqc:PySem.W.kitOne K (.ref zV) (.ref zad)=some false)
  (zqd:PySem.W.kitOne K (.ref zV) (.ref zae)=some false)
  (zqe:PySem.W.kitOne K (.ref zV) (.ref zV)=some true)
  (zqf:PySem.W.kitOne K (.ref zV) (.type "ValueError")=some true)
  (zqg:PySem.W.kitOne K (.type "int") (.type "bool")=some false)
  : ∃t:xh,Txt K mg t∧mg "law" = some (.ref t.fE):=by
 have F_NoText_init:=qB (st:=jV) zjm zjn zjo
 have B_NoText_init:=F_NoText_init.binds (ps:=["self","row"]) fun _ _ _ _ _ _ us hl=>match us,hl with | [_,_],_=>rfl
 have F_Clause_init:=qB (st:=jJ) zjq zjr zjs
 have B_Clause_init:=F_Clause_init.binds (ps:=["self","label","who","act"]) fun _ _ _ _ _ _ us hl=>match us,hl with | [_,_,_,_],_=>rfl
 have F_Clause_number:=qB (st:=jt) zju zjv zjw
 have B_Clause_number:=F_Clause_number.binds (ps:=["self"]) fun _ _ _ _ _ _ us hl=>match us,hl with | [_],_=>rfl
 have F_Duty_init:=qB (st:=j8) zjy zjz zjA
 have B_Duty_init:=F_Duty_init.binds (ps:=["self","label","who","act","turns","room"]) fun _ _ _ _ _ _ us hl=>match us,hl with | [_,_,_,_,_,_],_=>rfl
 have F_Duty_number:=qB (st:=jR) zjC zjD zjE
 have B_Duty_number:=F_Duty_number.binds (ps:=["self"]) fun _ _ _ _ _ _ us hl=>match us,hl with | [_],_=>rfl
 have F_Ban_init:=qB (st:=xQ) zjG zjH zjI
 have B_Ban_init:=F_Ban_init.binds (ps:=["self","label","who","act","room"]) fun _ _ _ _ _ _ us hl=>match us,hl with | [_,_,_,_,_],_=>rfl
 have F_Power_init:=qB (st:=jU) zjK zjL zjM
 have B_Power_init:=F_Power_init.binds (ps:=["self","label","who","act","room"]) fun _ _ _ _ _ _ us hl=>match us,hl with | [_,_,_,_,_],_=>rfl
 have F_Let_init:=qB (st:=xK) zjO zjP zjQ
 have B_Let_init:=F_Let_init.binds (ps:=["self","name","value"]) fun _ _ _ _ _ _ us hl=>match us,hl with | [_,_,_],_=>rfl
 have F_Part_init:=qB (st:=j7) zjS zjT zjU
 have B_Part_init:=F_Part_init.binds (ps:=["self","name","rooms","rows"]) fun _ _ _ _ _ _ us hl=>match us,hl with | [_,_,_,_],_=>rfl
 have F_Pact_init:=qB (st:=xq) zjW zjX zjY
 have B_Pact_init:=F_Pact_init.binds (ps:=["self","parties","acts","rooms","whole"]) fun _ _ _ _ _ _ us hl=>match us,hl with | [_,_,_,_,_],_=>rfl
 have F_v_is_name:=qB (st:=j6) zka zkb zkc
 have B_v_is_name:=F_v_is_name.binds (ps:=["word"]) fun _ _ _ _ _ _ us hl=>match us,hl with | [_],_=>rfl
 have F_v_number_of:=qB (st:=je) zke zkf zkg
 have B_v_number_of:=F_v_number_of.binds (ps:=["word"]) fun _ _ _ _ _ _ us hl=>match us,hl with | [_],_=>rfl
 have F_v_written_with:=qB (st:=qL) zki zkj zkk
 have B_v_written_with:=F_v_written_with.binds (ps:=["word","signs","most"]) fun _ _ _ _ _ _ us hl=>match us,hl with | [_,_,_],_=>rfl
 have F_v_names_of:=qB (st:=jM) zkm zkn zko
 have B_v_names_of:=F_v_names_of.binds (ps:=["row","word","most"]) fun _ _ _ _ _ _ us hl=>match us,hl with | [_,_,_],_=>rfl
 have F_v_are_names:=qB (st:=jb) zkq zkr zks
 have B_v_are_names:=F_v_are_names.binds (ps:=["words","most"]) fun _ _ _ _ _ _ us hl=>match us,hl with | [_,_],_=>rfl
 have F_v_room_of:=qB (st:=j0) zku zkv zkw
 have B_v_room_of:=F_v_room_of.binds (ps:=["row"]) fun _ _ _ _ _ _ us hl=>match us,hl with | [_],_=>rfl
 have F_v_let_of:=qB (st:=xJ) zky zkz zkA
 have B_v_let_of:=F_v_let_of.binds (ps:=["row"]) fun _ _ _ _ _ _ us hl=>match us,hl with | [_],_=>rfl
 have F_v_part_of:=qB (st:=xy) zkC zkD zkE
 have B_v_part_of:=F_v_part_of.binds (ps:=["row"]) fun _ _ _ _ _ _ us hl=>match us,hl with | [_],_=>rfl
 have F_v_clause_of:=qB (st:=jW) zkG zkH zkI
 have B_v_clause_of:=F_v_clause_of.binds (ps:=["row"]) fun _ _ _ _ _ _ us hl=>match us,hl with | [_],_=>rfl
 have F_v_fits_form:=qB (st:=jf) zkK zkL zkM
 have B_v_fits_form:=F_v_fits_form.binds (ps:=["words","form"]) fun _ _ _ _ _ _ us hl=>match us,hl with | [_,_],_=>rfl
 have F_v_fits_place:=qB (st:=jr) zkO zkP zkQ
 have B_v_fits_place:=F_v_fits_place.binds (ps:=["word","place"]) fun _ _ _ _ _ _ us hl=>match us,hl with | [_,_],_=>rfl
 have F_v_read:=qB (st:=vw) zkS zkT zkU
 have B_v_read:=F_v_read.binds (ps:=["text"]) fun _ _ _ _ _ _ us hl=>match us,hl with | [_],_=>rfl
 have F_v_read_names:=qB (st:=ju) zkW zkX zkY
 have B_v_read_names:=F_v_read_names.binds (ps:=["rows","number","word","most","taken"]) fun _ _ _ _ _ _ us hl=>match us,hl with | [_,_,_,_,_],_=>rfl
 have F_v_told_once:=qB (st:=jK) zla zlb zlc
 have B_v_told_once:=F_v_told_once.binds (ps:=["names"]) fun _ _ _ _ _ _ us hl=>match us,hl with | [_],_=>rfl
 have F_v_read_rooms:=qB (st:=jw) zle zlf zlg
 have B_v_read_rooms:=F_v_read_rooms.binds (ps:=["rows","taken"]) fun _ _ _ _ _ _ us hl=>match us,hl with | [_,_],_=>rfl
 have F_v_read_whole:=qB (st:=jc) zli zlj zlk
 have B_v_read_whole:=F_v_read_whole.binds (ps:=["rows","start"]) fun _ _ _ _ _ _ us hl=>match us,hl with | [_,_],_=>rfl
 have F_Body_init:=qB (st:=xg) zlm zln zlo
 have B_Body_init:=F_Body_init.binds (ps:=["self"]) fun _ _ _ _ _ _ us hl=>match us,hl with | [_],_=>rfl
 have F_Body_many_open:=qB (st:=q9) zlq zlr zls
 have B_Body_many_open:=F_Body_many_open.binds (ps:=["self"]) fun _ _ _ _ _ _ us hl=>match us,hl with | [_],_=>rfl
 have F_Body_takes:=qB (st:=jD) zlu zlv zlw
 have B_Body_takes:=F_Body_takes.binds (ps:=["self","row"]) fun _ _ _ _ _ _ us hl=>match us,hl with | [_,_],_=>rfl
 have F_Body_takes_done:=qB (st:=qN) zly zlz zlA
 have B_Body_takes_done:=F_Body_takes_done.binds (ps:=["self"]) fun _ _ _ _ _ _ us hl=>match us,hl with | [_],_=>rfl
 have F_Body_takes_head:=qB (st:=qI) zlC zlD zlE
 have B_Body_takes_head:=F_Body_takes_head.binds (ps:=["self","head"]) fun _ _ _ _ _ _ us hl=>match us,hl with | [_,_],_=>rfl
 have F_Body_takes_clause:=qB (st:=qF) zlG zlH zlI
 have B_Body_takes_clause:=F_Body_takes_clause.binds (ps:=["self","clause"]) fun _ _ _ _ _ _ us hl=>match us,hl with | [_,_],_=>rfl
 have F_Body_put_in:=qB (st:=jQ) zlK zlL zlM
 have B_Body_put_in:=F_Body_put_in.binds (ps:=["self","row"]) fun _ _ _ _ _ _ us hl=>match us,hl with | [_,_],_=>rfl
 have F_Body_closed:=qB (st:=ja) zlO zlP zlQ
 have B_Body_closed:=F_Body_closed.binds (ps:=["self"]) fun _ _ _ _ _ _ us hl=>match us,hl with | [_],_=>rfl
 have F_w_cell_at:=qB (st:=j9) zlS zlT zlU
 have B_w_cell_at:=F_w_cell_at.binds (ps:=["_law_script","_law_k"]) fun _ _ _ _ _ _ us hl=>match us,hl with | [_,_],_=>rfl
 have F_w_mix:=qB (st:=wY) zlW zlX zlY
 have B_w_mix:=F_w_mix.binds (ps:=["_law_cell","_law_k"]) fun _ _ _ _ _ _ us hl=>match us,hl with | [_,_],_=>rfl
 have F_w_name:=qB (st:=vp) zma zmb zmc
 have B_w_name:=F_w_name.binds (ps:=["_law_cell","_law_k"]) fun _ _ _ _ _ _ us hl=>match us,hl with | [_,_],_=>rfl
 have F_w_event:=qB (st:=xr) zme zmf zmg
 have B_w_event:=F_w_event.binds (ps:=["_law_names","_law_cell","_law_label","_law_depth"]) fun _ _ _ _ _ _ us hl=>match us,hl with | [_,_,_,_],_=>rfl
 have F_w_events:=qB (st:=xV) zmi zmj zmk
 have B_w_events:=F_w_events.binds (ps:=["_law_names","_law_script"]) fun _ _ _ _ _ _ us hl=>match us,hl with | [_,_],_=>rfl
 have F_w_header:=qB (st:=xW) zmm zmn zmo
 have B_w_header:=F_w_header.binds (ps:=["_law_names","_law_cell"]) fun _ _ _ _ _ _ us hl=>match us,hl with | [_,_],_=>rfl
 have F_w_row:=qB (st:=wX) zmq zmr zms
 have B_w_row:=F_w_row.binds (ps:=["_law_event_here"]) fun _ _ _ _ _ _ us hl=>match us,hl with | [_],_=>rfl
 have F_w_rows:=qB (st:=kn) zmu zmv zmw
 have B_w_rows:=F_w_rows.binds (ps:=["_law_header_here","_law_events_here"]) fun _ _ _ _ _ _ us hl=>match us,hl with | [_,_],_=>rfl
 have F_w_no_text:=qB (st:=xj) zmy zmz zmA
 have B_w_no_text:=F_w_no_text.binds (ps:=["_law_e"]) fun _ _ _ _ _ _ us hl=>match us,hl with | [_],_=>rfl
 have F_w_refused_at:=qB (st:=jd) zmC zmD zmE
 have B_w_refused_at:=F_w_refused_at.binds (ps:=["_law_text"]) fun _ _ _ _ _ _ us hl=>match us,hl with | [_],_=>rfl
 have F_w_open:=qB (st:=vy) zmG zmH zmI
 have B_w_open:=F_w_open.binds (ps:=["_law_rows_here"]) fun _ _ _ _ _ _ us hl=>match us,hl with | [_],_=>rfl
 have F_v_law:=qB (st:=vC) zmK zmL zmM
 have B_v_law:=F_v_law.binds (ps:=["_law_script"]) fun _ _ _ _ _ _ us hl=>match us,hl with | [_],_=>rfl
 refine⟨{ xp:=za,xB:=PySem.W.fnOf "__init__" "NoText.__init__" (qq jV) (qz jV) (z5 jV) .none zav zaw zax zas zay zaz,qS:=zb,xb:=PySem.W.fnOf "__init__" "Clause.__init__" (qq jJ) (qz jJ) (z5 jJ) .none zaE zaF zaG zaB zaH zaI,gC:=zc,gS:=PySem.W.fnOf "number" "Clause.number" (qq jt) (qz jt) (z5 jt) .none zaN zaO zaP zaK zaQ zaR,kA:=zd,yV:=PySem.W.fnOf "__init__" "Duty.__init__" (qq j8) (qz j8) (z5 j8) .none zaW zaX zaY zaT zaZ zba,pW:=ze,pT:=PySem.W.fnOf "number" "Duty.number" (qq jR) (qz jR) (z5 jR) .none zbf zbg zbh zbc zbi zbj,vV:=zf,gB:=PySem.W.fnOf "__init__" "Ban.__init__" (qq xQ) (qz xQ) (z5 xQ) .none zbo zbp zbq zbl zbr zbs,kj:=zg,wW:=PySem.W.fnOf "__init__" "Power.__init__" (qq jU) (qz jU) (z5 jU) .none zbx zby zbz zbu zbA zbB,yp:=zh,gi:=PySem.W.fnOf "__init__" "Let.__init__" (qq xK) (qz xK) (z5 xK) .none zbG zbH zbI zbD zbJ zbK,xE:=zi,kL:=PySem.W.fnOf "__init__" "Part.__init__" (qq j7) (qz j7) (z5 j7) .none zbP zbQ zbR zbM zbS zbT,wz:=zj,yi:=PySem.W.fnOf "__init__" "Pact.__init__" (qq xq) (qz xq) (z5 xq) .none zbY zbZ zca zbV zcb zcc,kS:=zk,kC:=PySem.W.fnOf "is_name" "is_name" (qq j6) (qz j6) (z5 j6) .none zch zci zcj zce zck zcl,ka:=zl,kl:=PySem.W.fnOf "number_of" "number_of" (qq je) (qz je) (z5 je) .none zcq zcr zcs zcn zct zcu,xl:=zm,xu:=PySem.W.fnOf "written_with" "written_with" (qq qL) (qz qL) (z5 qL) .none zcz zcA zcB zcw zcC zcD,wK:=zn,wQ:=PySem.W.fnOf "names_of" "names_of" (qq jM) (qz jM) (z5 jM) .none zcI zcJ zcK zcF zcL zcM,kK:=zo,kX:=PySem.W.fnOf "are_names" "are_names" (qq jb) (qz jb) (z5 jb) .none zcR zcS zcT zcO zcU zcV,yn:=zp,ya:=PySem.W.fnOf "room_of" "room_of" (qq j0) (qz j0) (z5 j0) .none zda zdb zdc zcX zdd zde,gc:=zq,gd:=PySem.W.fnOf "let_of" "let_of" (qq xJ) (qz xJ) (z5 xJ) .none zdj zdk zdl zdg zdm zdn,yZ:=zr,yl:=PySem.W.fnOf "part_of" "part_of" (qq xy) (qz xy) (z5 xy) .none zds zdt zdu zdp zdv zdw,vM:=zs,vR:=PySem.W.fnOf "clause_of" "clause_of" (qq jW) (qz jW) (z5 jW) .none zdB zdC zdD zdy zdE zdF,xF:=zt,xP:=PySem.W.fnOf "fits_form" "fits_form" (qq jf) (qz jf) (z5 jf) .none zdK zdL zdM zdH zdN zdO,vn:=zu,vd:=PySem.W.fnOf "fits_place" "fits_place" (qq jr) (qz jr) (z5 jr) .none zdT zdU zdV zdQ zdW zdX,mq:=zv,fK:=PySem.W.fnOf "read" "read" (qq vw) (qz vw) (z5 vw) .none zec zed zee zdZ zef zeg,vq:=zw,k6:=PySem.W.fnOf "read_names" "read_names" (qq ju) (qz ju) (z5 ju) .none zel zem zen zei zeo zep,kJ:=zx,kZ:=PySem.W.fnOf "told_once" "told_once" (qq jK) (qz jK) (z5 jK) .none zeu zev zew zer zex zey,vj:=zy,vm:=PySem.W.fnOf "read_rooms" "read_rooms" (qq jw) (qz jw) (z5 jw) .none zeD zeE zeF zeA zeG zeH,vb:=zz,vc:=PySem.W.fnOf "read_whole" "read_whole" (qq jc) (qz jc) (z5 jc) .none zeM zeN zeO zeJ zeP zeQ,wb:=zA,yu:=PySem.W.fnOf "__init__" "Body.__init__" (qq xg) (qz xg) (z5 xg) .none zeV zeW zeX zeS zeY zeZ,kf:=zB,vY:=PySem.W.fnOf "many_open" "Body.many_open" (qq q9) (qz q9) (z5 q9) .none zfe zff zfg zfb zfh zfi,wZ:=zC,gg:=PySem.W.fnOf "takes" "Body.takes" (qq jD) (qz jD) (z5 jD) .none zfn zfo zfp zfk zfq zfr,xI:=zD,vJ:=PySem.W.fnOf "takes_done" "Body.takes_done" (qq qN) (qz qN) (z5 qN) .none zfw zfx zfy zft zfz zfA,xC:=zE,vo:=PySem.W.fnOf "takes_head" "Body.takes_head" (qq qI) (qz qI) (z5 qI) .none zfF zfG zfH zfC zfI zfJ,xf:=zF,kd:=PySem.W.fnOf "takes_clause" "Body.takes_clause" (qq qF) (qz qF) (z5 qF) .none zfO zfP zfQ zfL zfR zfS,vP:=zG,yG:=PySem.W.fnOf "put_in" "Body.put_in" (qq jQ) (qz jQ) (z5 jQ) .none zfX zfY zfZ zfU zga zgb,vF:=zH,yW:=PySem.W.fnOf "closed" "Body.closed" (qq ja) (qz ja) (z5 ja) .none zgg zgh zgi zgd zgj zgk,wy:=zI,vT:=PySem.W.fnOf "_law_cell_at" "_law_cell_at" (qq j9) (qz j9) (z5 j9) .none zgp zgq zgr zgm zgs zgt,gK:=zJ,gh:=PySem.W.fnOf "_law_mix" "_law_mix" (qq wY) (qz wY) (z5 wY) .none zgy zgz zgA zgv zgB zgC,fG:=zK,mv:=PySem.W.fnOf "_law_name" "_law_name" (qq vp) (qz vp) (z5 vp) .none zgH zgI zgJ zgE zgK zgL,bA:=zL,pe:=PySem.W.fnOf "_law_event" "_law_event" (qq xr) (qz xr) (z5 xr) .none zgQ zgR zgS zgN zgT zgU,gP:=zM,gm:=PySem.W.fnOf "_law_events" "_law_events" (qq xV) (qz xV) (z5 xV) .none zgZ zha zhb zgW zhc zhd,gH:=zN,gs:=PySem.W.fnOf "_law_header" "_law_header" (qq xW) (qz xW) (z5 xW) .none zhi zhj zhk zhf zhl zhm,dR:=zO,dP:=PySem.W.fnOf "_law_row" "_law_row" (qq wX) (qz wX) (z5 wX) .none zhr zhs zht zho zhu zhv,fF:=zP,fV:=PySem.W.fnOf "_law_rows" "_law_rows" (qq kn) (qz kn) (z5 kn) .none zhA zhB zhC zhx zhD zhE,ym:=zQ,yd:=PySem.W.fnOf "_law_no_text" "_law_no_text" (qq xj) (qz xj) (z5 xj) .none zhJ zhK zhL zhG zhM zhN,vf:=zR,vz:=PySem.W.fnOf "_law_refused_at" "_law_refused_at" (qq jd) (qz jd) (z5 jd) .none zhS zhT zhU zhP zhV zhW,mX:=zS,f9:=PySem.W.fnOf "_law_open" "_law_open" (qq vy) (qz vy) (z5 vy) .none zib zic zid zhY zie zif,fE:=zT,dG:=PySem.W.fnOf "law" "law" (qq vC) (qz vC) (z5 vC) .none zik zil zim zih zin zio,bC:=zU,qU:=zV,fW:=zW,gv:=zX,mW:=zY,bI:=zZ,fP:=zaa,pz:=zab,ma:=zac,gZ:=zad,d6:=zae,Xt:=zaf,xG:=zag,yk:=zah,kH:=zai,bg:=zaj,vh:=zak,md:=zal,jH:=zam,jE:=zan,qC:=zao,uh:=zap,fL:=zaq },?_,PySem.W.mg_of X G zmJ⟩
 exact {
  xn:=⟨F_NoText_init,B_NoText_init⟩,
  kM:=⟨F_Clause_init,B_Clause_init⟩,
  uV:=⟨F_Clause_number,B_Clause_number⟩,
  mL:=⟨F_Duty_init,B_Duty_init⟩,
  nL:=⟨F_Duty_number,B_Duty_number⟩,
  cH:=⟨F_Ban_init,B_Ban_init⟩,
  pO:=⟨F_Power_init,B_Power_init⟩,
  cM:=⟨F_Let_init,B_Let_init⟩,
  wH:=⟨F_Part_init,B_Part_init⟩,
  mF:=⟨F_Pact_init,B_Pact_init⟩,
  jP:=⟨F_v_is_name,B_v_is_name,PySem.W.mg_of X G zjZ⟩,
  xa:=⟨F_v_number_of,B_v_number_of,PySem.W.mg_of X G zkd⟩,
  jY:=⟨F_v_written_with,B_v_written_with,PySem.W.mg_of X G zkh⟩,
  wN:=⟨F_v_names_of,B_v_names_of,PySem.W.mg_of X G zkl⟩,
  xi:=⟨F_v_are_names,B_v_are_names,PySem.W.mg_of X G zkp⟩,
  yL:=⟨F_v_room_of,B_v_room_of,PySem.W.mg_of X G zkt⟩,
  bQ:=⟨F_v_let_of,B_v_let_of,PySem.W.mg_of X G zkx⟩,
  y9:=⟨F_v_part_of,B_v_part_of,PySem.W.mg_of X G zkB⟩,
  vN:=⟨F_v_clause_of,B_v_clause_of,PySem.W.mg_of X G zkF⟩,
  qH:=⟨F_v_fits_form,B_v_fits_form,PySem.W.mg_of X G zkJ⟩,
  vk:=⟨F_v_fits_place,B_v_fits_place,PySem.W.mg_of X G zkN⟩,
  cy:=⟨F_v_read,B_v_read,PySem.W.mg_of X G zkR⟩,
  j4:=⟨F_v_read_names,B_v_read_names,PySem.W.mg_of X G zkV⟩,
  xo:=⟨F_v_told_once,B_v_told_once,PySem.W.mg_of X G zkZ⟩,
  vg:=⟨F_v_read_rooms,B_v_read_rooms,PySem.W.mg_of X G zld⟩,
  k9:=⟨F_v_read_whole,B_v_read_whole,PySem.W.mg_of X G zlh⟩,
  mM:=⟨F_Body_init,B_Body_init⟩,
  x4:=⟨F_Body_many_open,B_Body_many_open⟩,
  p8:=⟨F_Body_takes,B_Body_takes⟩,
  wt:=⟨F_Body_takes_done,B_Body_takes_done⟩,
  wc:=⟨F_Body_takes_head,B_Body_takes_head⟩,
  vt:=⟨F_Body_takes_clause,B_Body_takes_clause⟩,
  wx:=⟨F_Body_put_in,B_Body_put_in⟩,
  yJ:=⟨F_Body_closed,B_Body_closed⟩,
  jg:=⟨F_w_cell_at,B_w_cell_at,PySem.W.mg_of X G zlR⟩,
  jl:=⟨F_w_mix,B_w_mix,PySem.W.mg_of X G zlV⟩,
  cK:=⟨F_w_name,B_w_name,PySem.W.mg_of X G zlZ⟩,
  mK:=⟨F_w_event,B_w_event,PySem.W.mg_of X G zmd⟩,
  bf:=⟨F_w_events,B_w_events,PySem.W.mg_of X G zmh⟩,
  bZ:=⟨F_w_header,B_w_header,PySem.W.mg_of X G zml⟩,
  tK:=⟨F_w_row,B_w_row,PySem.W.mg_of X G zmp⟩,
  uk:=⟨F_w_rows,B_w_rows,PySem.W.mg_of X G zmt⟩,
  yE:=⟨F_w_no_text,B_w_no_text,PySem.W.mg_of X G zmx⟩,
  qV:=⟨F_w_refused_at,B_w_refused_at,PySem.W.mg_of X G zmB⟩,
  bK:=⟨F_w_open,B_w_open,PySem.W.mg_of X G zmF⟩,
  QQ:=⟨F_v_law,B_v_law,PySem.W.mg_of X G zmJ⟩,
  mD:=PySem.W.mg_none_of X G zmN,
  xY:=PySem.W.mg_none_of X G zmO,
  yr:=PySem.W.mg_none_of X G zmP,
  eJ:=PySem.W.mg_none_of X G zmQ,
  fH:=PySem.W.mg_none_of X G zmR,
  Xd:=PySem.W.mg_none_of X G zmS,
  qO:=PySem.W.mg_none_of X G zmT,
  Qm:=PySem.W.mg_none_of X G zmU,
  XX:=PySem.W.mg_none_of X G zmV,
  fZ:=PySem.W.mg_none_of X G zmW,
  Xu:=PySem.W.mg_none_of X G zmX,
  Zv:=PySem.W.mg_of X G ziZ,
  rJ:=⟨_,PySem.W.mg_of X G zja⟩,
  uI:=⟨_,PySem.W.mg_of X G zjb⟩,
  bb:=⟨_,PySem.W.mg_of X G zjc⟩,
  hZ:=⟨_,PySem.W.mg_of X G zjd⟩,
  iL:=PySem.W.mg_of X G zje,
  gX:=⟨_,PySem.W.mg_of X G zjf⟩,
  bF:=⟨_,PySem.W.mg_of X G zjg⟩,
  dc:=⟨_,PySem.W.mg_of X G zjh⟩,
  dm:=⟨_,PySem.W.mg_of X G zji⟩,
  du:=⟨_,PySem.W.mg_of X G zjj⟩,
  ve:=⟨_,PySem.W.mg_of X G zjk⟩,
  dq:=PySem.W.mg_of X G ziE,
  v7:=PySem.W.mg_of X G ziF,
  nV:=PySem.W.mg_of X G ziG,
  cZ:=PySem.W.mg_of X G ziH,
  nQ:=PySem.W.mg_of X G ziI,
  rk:=PySem.W.mg_of X G ziJ,
  tH:=PySem.W.mg_of X G ziK,
  rp:=PySem.W.mg_of X G ziL,
  nM:=PySem.W.mg_of X G ziM,
  cV:=PySem.W.mg_of X G ziN,
  iU:=PySem.W.mg_of X G ziO,
  Wl:=PySem.W.mg_of X G ziP,
  cb:=PySem.W.mg_of X G ziQ,
  Zm:=PySem.W.mg_of X G ziR,
  sx:=PySem.W.mg_of X G ziS,
  XO:=PySem.W.mg_of X G ziT,
  eX:=PySem.W.mg_of X G ziU,
  XF:=PySem.W.mg_of X G ziV,
  ur:=PySem.W.mg_of X G ziW,
  Zw:=PySem.W.mg_of X G ziX,
  Z8:=PySem.W.mg_of X G ziY,
  Zl:=(by obtain⟨its,n,h1,h2,h3,h4⟩:=zmZ;exact⟨ziA,its,n,zmY,h1,h2,h3,h4⟩),
  iC:=(by obtain⟨its,n,h1,h2,h3,h4⟩:=znb;exact⟨ziB,its,n,zna,h1,h2,h3,h4⟩),
  rX:=⟨znc,znd,zne,znf⟩,
  pG:=zng,
  gD:=znh,
  hV:=zni,
  gT:=znj,
  pR:=znk,
  uO:=⟨znl,znm,znn,zno⟩,
  eh:=⟨znp,znq,znr,zns⟩,
  dy:=znt,
  pL:=znu,
  fQ:=znv,
  pP:=znw,
  m8:=znx,
  lu:=⟨zny,znz,znA,znB⟩,
  nK:=⟨znC,znD,znE,znF⟩,
  mj:=znG,
  bR:=znH,
  pB:=znI,
  bu:=znJ,
  mV:=znK,
  cu:=⟨znL,znM,znN,znO⟩,
  ZK:=⟨znP,znQ,znR,znS⟩,
  cf:=znT,
  fR:=znU,
  di:=znV,
  fe:=znW,
  cN:=znX,
  oh:=⟨znY,znZ,zoa,zob⟩,
  nu:=⟨zoc,zod,zoe,zof⟩,
  mw:=zog,
  bH:=zoh,
  pS:=zoi,
  bw:=zoj,
  mf:=zok,
  ub:=⟨zol,zom,zon,zoo⟩,
  ik:=⟨zop,zoq,zor,zos⟩,
  dt:=zot,
  fS:=zou,
  ZW:=⟨zov,zow,zox,zoy⟩,
  gQ:=⟨zoz,zoA,zoB,zoC⟩,
  wJ:=zoD,
  yB:=zoE,
  fO:=zoF,
  fJ:=⟨zoG,zoH,zoI,zoJ⟩,
  mm:=⟨zoK,zoL,zoM,zoN⟩,
  mi:=zoO,
  gN:=zoP,
  pC:=zoQ,
  pU:=zoR,
  eZ:=⟨zoS,zoT,zoU,zoV⟩,
  jn:=⟨zoW,zoX,zoY,zoZ⟩,
  x5:=zpa,
  vB:=zpb,
  yv:=zpc,
  il:=⟨zpd,zpe,zpf,zpg⟩,
  xM:=⟨zph,zpi,zls⟩,
  pH:=⟨zpj,zpk,zlw⟩,
  wL:=⟨zpl,zpm,zlA⟩,
  yq:=⟨zpn,zpo,zlE⟩,
  wg:=⟨zpp,zpq,zlI⟩,
  va:=⟨zpr,zps,zlM⟩,
  wI:=⟨zpt,zpu,zlQ⟩,
  uA:=⟨JO zpx zpy,zpz⟩,
  p9:=⟨zpA,zpB,zpC,zpD,zpE,zpF,zpG,zpH⟩,
  kU:=⟨Qv zpx zpy,zpI,zpJ,zpK⟩,
  ki:=zpL,
  wa:=(K2 (Qv zpv zpw) zpM zpN zpO),
  mG:=⟨zpP,zpQ,zpR,zjs⟩,
  tE:=⟨zpS,zpT,zpU,zjs⟩,
  y3:=zpV,
  yy:=zpW,
  yS:=zpX,
  ye:=zpY,
  yI:=zpZ,
  yo:=zqa,
  yN:=zqb,
  wC:=zqc,
  gR:=zqd,
  yU:=zqe,
  vI:=zqf,
  dg:=zqg }
end My
theorem PySem.W.Fast.tw10142917191518330683:True:=trivial
theorem PySem.W.Fast.tw10203597604940329413:True:=trivial
theorem PySem.W.Fast.tw10247252069682657479:True:=trivial
theorem PySem.W.Fast.tw10286332129673431613:True:=trivial
theorem PySem.W.Fast.tw10465150222576863136:True:=trivial
theorem PySem.W.Fast.tw10557633015068518540:True:=trivial
theorem PySem.W.Fast.tw10569557299711390688:True:=trivial
theorem PySem.W.Fast.tw10588898170390636062:True:=trivial
theorem PySem.W.Fast.tw10599055070960243704:True:=trivial
theorem PySem.W.Fast.tw10854586573876703038:True:=trivial
theorem PySem.W.Fast.tw10918564425779872510:True:=trivial
theorem PySem.W.Fast.tw10918684958999004618:True:=trivial
theorem PySem.W.Fast.tw1096077640213960934:True:=trivial
theorem PySem.W.Fast.tw1113107097774189113:True:=trivial
theorem PySem.W.Fast.tw11146677438146237500:True:=trivial
theorem PySem.W.Fast.tw11466479211668919394:True:=trivial
theorem PySem.W.Fast.tw11471434826632574623:True:=trivial
theorem PySem.W.Fast.tw11857910798083738431:True:=trivial
theorem PySem.W.Fast.tw12150030201102204031:True:=trivial
theorem PySem.W.Fast.tw12324178782598786810:True:=trivial
theorem PySem.W.Fast.tw12629825781944398867:True:=trivial
theorem PySem.W.Fast.tw12637219119655942463:True:=trivial
theorem PySem.W.Fast.tw12897870950958125508:True:=trivial
theorem PySem.W.Fast.tw12900856022298612572:True:=trivial
theorem PySem.W.Fast.tw12908342025015257731:True:=trivial
theorem PySem.W.Fast.tw12932587692655584745:True:=trivial
theorem PySem.W.Fast.tw13178548531137964030:True:=trivial
theorem PySem.W.Fast.tw13212038239380087265:True:=trivial
theorem PySem.W.Fast.tw13245991872344036959:True:=trivial
theorem PySem.W.Fast.tw13567802087930788144:True:=trivial
theorem PySem.W.Fast.tw13650655533974981846:True:=trivial
theorem PySem.W.Fast.tw13832626129954107500:True:=trivial
theorem PySem.W.Fast.tw14087293960518541938:True:=trivial
theorem PySem.W.Fast.tw1409664673316337520:True:=trivial
theorem PySem.W.Fast.tw14113706547950337745:True:=trivial
theorem PySem.W.Fast.tw14204363644949017271:True:=trivial
theorem PySem.W.Fast.tw14213019971732481508:True:=trivial
theorem PySem.W.Fast.tw14221867901854255335:True:=trivial
theorem PySem.W.Fast.tw14402926616572368459:True:=trivial
theorem PySem.W.Fast.tw14500493722156681570:True:=trivial
theorem PySem.W.Fast.tw14600209402849527040:True:=trivial
theorem PySem.W.Fast.tw14607735004887301941:True:=trivial
theorem PySem.W.Fast.tw14744736161394164746:True:=trivial
theorem PySem.W.Fast.tw14937188520892179551:True:=trivial
theorem PySem.W.Fast.tw15006432461395101738:True:=trivial
theorem PySem.W.Fast.tw15076713707827149613:True:=trivial
theorem PySem.W.Fast.tw15142344316196124552:True:=trivial
theorem PySem.W.Fast.tw15158938086109756217:True:=trivial
theorem PySem.W.Fast.tw15235521209845271799:True:=trivial
theorem PySem.W.Fast.tw15269880841261918261:True:=trivial
theorem PySem.W.Fast.tw15545554281655164018:True:=trivial
theorem PySem.W.Fast.tw15645214350294846817:True:=trivial
theorem PySem.W.Fast.tw15863054555218857568:True:=trivial
theorem PySem.W.Fast.tw15866646520834407158:True:=trivial
theorem PySem.W.Fast.tw16024388998767582345:True:=trivial
theorem PySem.W.Fast.tw16049772211190618185:True:=trivial
theorem PySem.W.Fast.tw16052630455454051590:True:=trivial
theorem PySem.W.Fast.tw16298982862925558266:True:=trivial
theorem PySem.W.Fast.tw16418800535966215273:True:=trivial
theorem PySem.W.Fast.tw16426278102123647859:True:=trivial
theorem PySem.W.Fast.tw16476385842511036191:True:=trivial
theorem PySem.W.Fast.tw16487913082957882194:True:=trivial
theorem PySem.W.Fast.tw16601466889666639507:True:=trivial
theorem PySem.W.Fast.tw16761928800282992650:True:=trivial
theorem PySem.W.Fast.tw16945155110268480118:True:=trivial
theorem PySem.W.Fast.tw17463788746940325647:True:=trivial
theorem PySem.W.Fast.tw1759260667150761047:True:=trivial
theorem PySem.W.Fast.tw17855957636334002768:True:=trivial
theorem PySem.W.Fast.tw17963591011872201391:True:=trivial
theorem PySem.W.Fast.tw18082405736324111706:True:=trivial
theorem PySem.W.Fast.tw18182954696915386545:True:=trivial
theorem PySem.W.Fast.tw18275231989962474689:True:=trivial
theorem PySem.W.Fast.tw187985788979901283:True:=trivial
theorem PySem.W.Fast.tw2018175920262057413:True:=trivial
theorem PySem.W.Fast.tw2074715411402537606:True:=trivial
theorem PySem.W.Fast.tw222409316369470052:True:=trivial
theorem PySem.W.Fast.tw2338620074288912532:True:=trivial
theorem PySem.W.Fast.tw2340789583142289501:True:=trivial
theorem PySem.W.Fast.tw2357672611767576390:True:=trivial
theorem PySem.W.Fast.tw2367346580993137650:True:=trivial
theorem PySem.W.Fast.tw2422412990501952989:True:=trivial
theorem PySem.W.Fast.tw2503855047472202081:True:=trivial
theorem PySem.W.Fast.tw2508299106787167330:True:=trivial
theorem PySem.W.Fast.tw2753853813094304341:True:=trivial
theorem PySem.W.Fast.tw2819828092824351557:True:=trivial
theorem PySem.W.Fast.tw308729389335138762:True:=trivial
theorem PySem.W.Fast.tw321934302497754352:True:=trivial
theorem PySem.W.Fast.tw3263627282197909221:True:=trivial
theorem PySem.W.Fast.tw3551256441354160974:True:=trivial
theorem PySem.W.Fast.tw3675151073474068859:True:=trivial
theorem PySem.W.Fast.tw3725614442104260118:True:=trivial
theorem PySem.W.Fast.tw3808663885782528854:True:=trivial
theorem PySem.W.Fast.tw4061538432398821023:True:=trivial
theorem PySem.W.Fast.tw4072944871909112911:True:=trivial
theorem PySem.W.Fast.tw4088149534740124715:True:=trivial
theorem PySem.W.Fast.tw429305166757781573:True:=trivial
theorem PySem.W.Fast.tw4297941615787235723:True:=trivial
theorem PySem.W.Fast.tw431071961792277540:True:=trivial
theorem PySem.W.Fast.tw4328550007845548854:True:=trivial
theorem PySem.W.Fast.tw4393724614465368570:True:=trivial
theorem PySem.W.Fast.tw469877799592932735:True:=trivial
theorem PySem.W.Fast.tw4967782242145880019:True:=trivial
theorem PySem.W.Fast.tw510447665120237995:True:=trivial
theorem PySem.W.Fast.tw535283532576588187:True:=trivial
theorem PySem.W.Fast.tw5396697793521228882:True:=trivial
theorem PySem.W.Fast.tw5420466913914762230:True:=trivial
theorem PySem.W.Fast.tw5429851307252125230:True:=trivial
theorem PySem.W.Fast.tw5473753443770798677:True:=trivial
theorem PySem.W.Fast.tw5526010318179894688:True:=trivial
theorem PySem.W.Fast.tw5864963911371253537:True:=trivial
theorem PySem.W.Fast.tw596286521148416436:True:=trivial
theorem PySem.W.Fast.tw5982360797557833403:True:=trivial
theorem PySem.W.Fast.tw6041771918824178391:True:=trivial
theorem PySem.W.Fast.tw6253976524392102221:True:=trivial
theorem PySem.W.Fast.tw6367875117395387341:True:=trivial
theorem PySem.W.Fast.tw6429407252459613435:True:=trivial
theorem PySem.W.Fast.tw6596556371161757632:True:=trivial
theorem PySem.W.Fast.tw6687181719581308594:True:=trivial
theorem PySem.W.Fast.tw6712947651704616479:True:=trivial
theorem PySem.W.Fast.tw6786000083409541220:True:=trivial
theorem PySem.W.Fast.tw7069394368414752617:True:=trivial
theorem PySem.W.Fast.tw709847596240771237:True:=trivial
theorem PySem.W.Fast.tw7101317272902487532:True:=trivial
theorem PySem.W.Fast.tw7131575217611518503:True:=trivial
theorem PySem.W.Fast.tw7516833257661819454:True:=trivial
theorem PySem.W.Fast.tw7559167928223827173:True:=trivial
theorem PySem.W.Fast.tw7578692147048339041:True:=trivial
theorem PySem.W.Fast.tw7636260282717947376:True:=trivial
theorem PySem.W.Fast.tw7721707875637695388:True:=trivial
theorem PySem.W.Fast.tw7788565218734359796:True:=trivial
theorem PySem.W.Fast.tw8092455542085786060:True:=trivial
theorem PySem.W.Fast.tw8331920475070246249:True:=trivial
theorem PySem.W.Fast.tw8475501864013280585:True:=trivial
theorem PySem.W.Fast.tw8484289634596725758:True:=trivial
theorem PySem.W.Fast.tw860895431725684807:True:=trivial
theorem PySem.W.Fast.tw8705680178232490118:True:=trivial
theorem PySem.W.Fast.tw8768412466406521778:True:=trivial
theorem PySem.W.Fast.tw8889232397886410360:True:=trivial
theorem PySem.W.Fast.tw9211954063079708188:True:=trivial
theorem PySem.W.Fast.tw923145652819265072:True:=trivial
theorem PySem.W.Fast.tw9308167485619578800:True:=trivial
theorem PySem.W.Fast.tw9374517303118375176:True:=trivial
theorem PySem.W.Fast.tw9474037476496081653:True:=trivial
theorem PySem.W.Fast.tw9562656766668140973:True:=trivial
theorem PySem.W.Fast.tw9629391792901749674:True:=trivial
theorem PySem.W.Fast.tw9688766394415783027:True:=trivial
theorem PySem.W.Fast.tw973597326297853300:True:=trivial
theorem PySem.W.Fast.tw9889372020941040944:True:=trivial
open PySem PySem.W PyProof.Rows
set_option maxRecDepth 100000 in
set_option maxHeartbeats 0 in
theorem PySem.Challenge.cw_pactway_k28_text_ends_holds : PySem.Challenge.rw_pactway_k28_text_ends.Holds := by
 w_on;o_law;k_head;(case hw=>w_witness2)
 k_fill
 refine L2.ZE (l:=PySem.Challenge.rw_pactway_k28_text_ends) (n:=63) (k:=11) (x:="_law_script") (CX:=L2.jX) (sp:=My.Z9) rfl (by decide) rfl ⟨rfl,by decide,by decide⟩ (fun w h Y=>PySem.W.kIn_of Y) ?F ?S ?C
 case F=>
  intro w mg fa h KX G hmg
  have T:∃t:My.xh,My.Txt (L2.Gz KX) mg t∧mg "law" = some (.ref t.fE):=by
   dsimp only[L2.Gz]
   refine' My.X3 KX G ?za_ ?zb_ ?zc_ ?zd_ ?ze_ ?zf_ ?zg_ ?zh_ ?zi_ ?zj_ ?zk_ ?zl_ ?zm_ ?zn_ ?zo_ ?zp_ ?zq_ ?zr_ ?zs_ ?zt_ ?zu_ ?zv_ ?zw_ ?zx_ ?zy_ ?zz_ ?zA_ ?zB_ ?zC_ ?zD_ ?zE_ ?zF_ ?zG_ ?zH_ ?zI_ ?zJ_ ?zK_ ?zL_ ?zM_ ?zN_ ?zO_ ?zP_ ?zQ_ ?zR_ ?zS_ ?zT_ ?zU_ ?zV_ ?zW_ ?zX_ ?zY_ ?zZ_ ?zaa_ ?zab_ ?zac_ ?zad_ ?zae_ ?zaf_ ?zag_ ?zah_ ?zai_ ?zaj_ ?zak_ ?zal_ ?zam_ ?zan_ ?zao_ ?zap_ ?zaq_ ?zar_ ?zas_ ?zat_ ?zau_ ?zav_ ?zaw_ ?zax_ ?zay_ ?zaz_ ?zaA_ ?zaB_ ?zaC_ ?zaD_ ?zaE_ ?zaF_ ?zaG_ ?zaH_ ?zaI_ ?zaJ_ ?zaK_ ?zaL_ ?zaM_ ?zaN_ ?zaO_ ?zaP_ ?zaQ_ ?zaR_ ?zaS_ ?zaT_ ?zaU_ ?zaV_ ?zaW_ ?zaX_ ?zaY_ ?zaZ_ ?zba_ ?zbb_ ?zbc_ ?zbd_ ?zbe_ ?zbf_ ?zbg_ ?zbh_ ?zbi_ ?zbj_ ?zbk_ ?zbl_ ?zbm_ ?zbn_ ?zbo_ ?zbp_ ?zbq_ ?zbr_ ?zbs_ ?zbt_ ?zbu_ ?zbv_ ?zbw_ ?zbx_ ?zby_ ?zbz_ ?zbA_ ?zbB_ ?zbC_ ?zbD_ ?zbE_ ?zbF_ ?zbG_ ?zbH_ ?zbI_ ?zbJ_ ?zbK_ ?zbL_ ?zbM_ ?zbN_ ?zbO_ ?zbP_ ?zbQ_ ?zbR_ ?zbS_ ?zbT_ ?zbU_ ?zbV_ ?zbW_ ?zbX_ ?zbY_ ?zbZ_ ?zca_ ?zcb_ ?zcc_ ?zcd_ ?zce_ ?zcf_ ?zcg_ ?zch_ ?zci_ ?zcj_ ?zck_ ?zcl_ ?zcm_ ?zcn_ ?zco_ ?zcp_ ?zcq_ ?zcr_ ?zcs_ ?zct_ ?zcu_ ?zcv_ ?zcw_ ?zcx_ ?zcy_ ?zcz_ ?zcA_ ?zcB_ ?zcC_ ?zcD_ ?zcE_ ?zcF_ ?zcG_ ?zcH_ ?zcI_ ?zcJ_ ?zcK_ ?zcL_ ?zcM_ ?zcN_ ?zcO_ ?zcP_ ?zcQ_ ?zcR_ ?zcS_ ?zcT_ ?zcU_ ?zcV_ ?zcW_ ?zcX_ ?zcY_ ?zcZ_ ?zda_ ?zdb_ ?zdc_ ?zdd_ ?zde_ ?zdf_ ?zdg_ ?zdh_ ?zdi_ ?zdj_ ?zdk_ ?zdl_ ?zdm_ ?zdn_ ?zdo_ ?zdp_ ?zdq_ ?zdr_ ?zds_ ?zdt_ ?zdu_ ?zdv_ ?zdw_ ?zdx_ ?zdy_ ?zdz_ ?zdA_ ?zdB_ ?zdC_ ?zdD_ ?zdE_ ?zdF_ ?zdG_ ?zdH_ ?zdI_ ?zdJ_ ?zdK_ ?zdL_ ?zdM_ ?zdN_ ?zdO_ ?zdP_ ?zdQ_ ?zdR_ ?zdS_ ?zdT_ ?zdU_ ?zdV_ ?zdW_ ?zdX_ ?zdY_ ?zdZ_ ?zea_ ?zeb_ ?zec_ ?zed_ ?zee_ ?zef_ ?zeg_ ?zeh_ ?zei_ ?zej_ ?zek_ ?zel_ ?zem_ ?zen_ ?zeo_ ?zep_ ?zeq_ ?zer_ ?zes_ ?zet_ ?zeu_ ?zev_ ?zew_ ?zex_ ?zey_ ?zez_ ?zeA_ ?zeB_ ?zeC_ ?zeD_ ?zeE_ ?zeF_ ?zeG_ ?zeH_ ?zeI_ ?zeJ_ ?zeK_ ?zeL_ ?zeM_ ?zeN_ ?zeO_ ?zeP_ ?zeQ_ ?zeR_ ?zeS_ ?zeT_ ?zeU_ ?zeV_ ?zeW_ ?zeX_ ?zeY_ ?zeZ_ ?zfa_ ?zfb_ ?zfc_ ?zfd_ ?zfe_ ?zff_ ?zfg_ ?zfh_ ?zfi_ ?zfj_ ?zfk_ ?zfl_ ?zfm_ ?zfn_ ?zfo_ ?zfp_ ?zfq_ ?zfr_ ?zfs_ ?zft_ ?zfu_ ?zfv_ ?zfw_ ?zfx_ ?zfy_ ?zfz_ ?zfA_ ?zfB_ ?zfC_ ?zfD_ ?zfE_ ?zfF_ ?zfG_ ?zfH_ ?zfI_ ?zfJ_ ?zfK_ ?zfL_ ?zfM_ ?zfN_ ?zfO_ ?zfP_ ?zfQ_ ?zfR_ ?zfS_ ?zfT_ ?zfU_ ?zfV_ ?zfW_ ?zfX_ ?zfY_ ?zfZ_ ?zga_ ?zgb_ ?zgc_ ?zgd_ ?zge_ ?zgf_ ?zgg_ ?zgh_ ?zgi_ ?zgj_ ?zgk_ ?zgl_ ?zgm_ ?zgn_ ?zgo_ ?zgp_ ?zgq_ ?zgr_ ?zgs_ ?zgt_ ?zgu_ ?zgv_ ?zgw_ ?zgx_ ?zgy_ ?zgz_ ?zgA_ ?zgB_ ?zgC_
   (case za_ | zb_ | zc_ | zd_ | ze_ | zf_ | zg_ | zh_ | zi_ | zj_ | zk_ | zl_ | zm_ | zn_ | zo_ | zp_ | zq_ | zr_ | zs_ | zt_ | zu_ | zv_ | zw_ | zx_ | zy_ | zz_ | zA_ | zB_ | zC_ | zD_ | zE_ | zF_ | zG_ | zH_ | zI_ | zJ_ | zK_ | zL_ | zM_ | zN_ | zO_ | zP_ | zQ_ | zR_ | zS_ | zT_ | zU_ | zV_ | zW_ | zX_ | zY_ | zZ_ | zaa_ | zab_ | zac_ | zad_ | zae_ | zaf_ | zag_ | zah_ | zai_ | zaj_ | zak_ | zal_ | zam_ | zan_ | zao_ | zap_ | zaq_ | zar_ | zas_ | zat_ | zau_ | zav_ | zaw_ | zax_ | zay_ | zaz_ | zaA_ | zaB_ | zaC_ | zaD_ | zaE_ | zaF_ | zaG_ | zaH_ | zaI_ | zaJ_ | zaK_ | zaL_ | zaM_ | zaN_ | zaO_ | zaP_ | zaQ_ | zaR_ | zaS_ | zaT_ | zaU_ | zaV_ | zaW_ | zaX_ | zaY_ | zaZ_ | zba_ | zbb_ | zbc_ | zbd_ | zbe_ | zbf_ | zbg_ | zbh_ | zbi_ | zbj_ | zbk_ | zbl_ | zbm_ | zbn_ | zbo_ | zbp_ | zbq_ | zbr_ | zbs_ | zbt_ | zbu_ | zbv_ | zbw_ | zbx_ | zby_ | zbz_ | zbA_ | zbB_ | zbC_ | zbD_ | zbE_ | zbF_ | zbG_ | zbH_ | zbI_ | zbJ_ | zbK_ | zbL_ | zbM_ | zbN_ | zbO_ | zbP_ | zbQ_ | zbR_ | zbS_ | zbT_ | zbU_ | zbV_ | zbW_ | zbX_ | zbY_ | zbZ_ | zca_ | zcb_ | zcc_ | zcd_ | zce_ | zcf_ | zcg_ | zch_ | zci_ | zcj_ | zck_ | zcl_ | zcm_ | zcn_ | zco_ | zcp_ | zcq_ | zcr_ | zcs_ | zct_ | zcu_ | zcv_ | zcw_ | zcx_ | zcy_ | zcz_ | zcA_ | zcB_ | zcC_ | zcD_ | zcE_ | zcF_ | zcG_ | zcH_ | zcI_ | zcJ_ | zcK_ | zcL_ | zcM_ | zcN_ | zcO_ | zcP_ | zcQ_ | zcR_ | zcS_ | zcT_ | zcU_ | zcV_ | zcW_ | zcX_ | zcY_ | zcZ_ | zda_ | zdb_ | zdc_ | zdd_ | zde_ | zdf_ | zdg_ | zdh_ | zdi_ | zdj_ | zdk_ | zdl_ | zdm_ | zdn_ | zdo_ | zdp_ | zdq_ | zdr_ | zds_ | zdt_ | zdu_=>k_is)
   (case zdv_=>exact⟨_,_,rfl,rfl,My.Jy,My.JL⟩)
   (case zdw_=>k_is)
   (case zdx_=>exact⟨_,_,rfl,rfl,My.QR,My.Zn⟩)
   (case zdy_ | zdz_ | zdA_ | zdB_ | zdC_ | zdD_ | zdE_ | zdF_ | zdG_ | zdH_ | zdI_ | zdJ_ | zdK_ | zdL_ | zdM_ | zdN_ | zdO_ | zdP_ | zdQ_ | zdR_ | zdS_ | zdT_ | zdU_ | zdV_ | zdW_ | zdX_ | zdY_ | zdZ_ | zea_ | zeb_ | zec_ | zed_ | zee_ | zef_ | zeg_ | zeh_ | zei_ | zej_ | zek_ | zel_ | zem_ | zen_ | zeo_ | zep_ | zeq_ | zer_ | zes_ | zet_ | zeu_ | zev_ | zew_ | zex_ | zey_ | zez_ | zeA_ | zeB_ | zeC_ | zeD_ | zeE_ | zeF_ | zeG_ | zeH_ | zeI_ | zeJ_ | zeK_ | zeL_ | zeM_ | zeN_ | zeO_ | zeP_ | zeQ_ | zeR_ | zeS_ | zeT_ | zeU_ | zeV_ | zeW_ | zeX_ | zeY_ | zeZ_ | zfa_ | zfb_ | zfc_ | zfd_ | zfe_ | zff_ | zfg_ | zfh_ | zfi_ | zfj_ | zfk_ | zfl_ | zfm_ | zfn_ | zfo_ | zfp_ | zfq_ | zfr_ | zfs_ | zft_ | zfu_ | zfv_ | zfw_ | zfx_ | zfy_ | zfz_ | zfA_ | zfB_ | zfC_ | zfD_ | zfE_ | zfF_ | zfG_ | zfH_ | zfI_ | zfJ_ | zfK_ | zfL_ | zfM_ | zfN_ | zfO_ | zfP_ | zfQ_ | zfR_=>k_is)
   (case zfS_=>rfl)
   (case zfT_=>k_is)
   (case zfU_=>rfl)
   (case zfV_ | zfW_ | zfX_ | zfY_ | zfZ_ | zga_ | zgb_ | zgc_ | zgd_ | zge_ | zgf_ | zgg_ | zgh_ | zgi_ | zgj_ | zgk_ | zgl_ | zgm_ | zgn_ | zgo_ | zgp_ | zgq_=>k_is)
   (case zgr_ | zgs_ | zgt_ | zgu_ | zgv_ | zgw_ | zgx_ | zgy_ | zgz_ | zgA_ | zgB_ | zgC_=>kit_is)
  obtain⟨t,T,hl⟩:=T
  have e0:=hmg.symm.trans hl
  cases e0
  exact⟨_,My.aJ T,fun base kb nb=>My.Qk T⟩
 case S=>exact fun K H a ns hl hO hS=>My.ak hl hO hS
 case C=>exact fun _ _ _ _ z=>z
