import PyProof.Rows.All
import Wide.All
import OpenK.AllK
import Wide.FinOn
import PyProof.EqAt
import PyProof.EqKinds
import PyProof.TupleCall
import Lean
import PyProof.SetNew
import PyProof.SetRoads
import PySem.Challenge.RW_pactway_k23_read
set_option Elab.async false
set_option linter.all false
set_option maxRecDepth 100000
namespace L2
open PySem PySem.Spec PyProof.Rows
noncomputable abbrev Key:=Sum Int Str
noncomputable def u3:Key→Value→Bool
 | .inl k,v=>Value.isInt k v
 | .inr x,v=>Value.isStrOf x v
noncomputable def Yr (w:World):Key→Int
 | .inl k=>hashInt k
 | .inr x=>hashStr w x
theorem xy:∀{k:Key} {v:Value},u3 k v=true→(∃i t,k=Sum.inl i∧v=Value.int i t)∨(∃x t,k=Sum.inr x∧v=Value.str x t)
 | .inl i,v,h=>by
  obtain⟨t,e⟩:=Value.isInt_shape (k:=i) (v:=v) h
  exact .inl ⟨i,t,rfl,e⟩
 | .inr x,v,h=>by
  obtain⟨t,e⟩:=Value.isStrOf_shape (x:=x) (v:=v) h
  exact .inr ⟨x,t,rfl,e⟩
theorem eB (i:Int) (t:Tok):u3 (.inl i) (.int i t)=true:=by simp [u3,Value.isInt]
theorem aC (x:Str) (t:Tok):u3 (.inr x) (.str x t)=true:=by simp [u3,Value.isStrOf]
theorem Ku (a b:Int):decide ((Sum.inl a:Key)=Sum.inl b)=(a == b):=by
 by_cases e:a=b
 ·subst e;simp
 ·have h:¬(Sum.inl a:Key)=Sum.inl b:=fun q=>e (Sum.inl.inj q)
  rw[decide_eq_false h]
  exact(beq_eq_false_iff_ne.mpr e).symm
theorem Kp (a b:Str):decide ((Sum.inr a:Key)=Sum.inr b)=decide (a=b):=by
 by_cases e:a=b
 ·subst e;simp
 ·have h:¬(Sum.inr a:Key)=Sum.inr b:=fun q=>e (Sum.inr.inj q)
  rw[decide_eq_false h,decide_eq_false e]
theorem Kb (a:Int) (b:Str):decide ((Sum.inl a:Key)=Sum.inr b)=false:=decide_eq_false (fun q=>nomatch q)
theorem K6 (a:Str) (b:Int):decide ((Sum.inr a:Key)=Sum.inl b)=false:=decide_eq_false (fun q=>nomatch q)
noncomputable def kq (prog:Program) (w:World):PySem.KeyKind prog w Key where
 is:=u3
 hash:=Yr w
 inj:=fun v a b ha hb=>by
  rcases xy ha with ⟨i,t,rfl,rfl⟩ | ⟨x,t,rfl,rfl⟩
  ·rcases xy hb with ⟨j,u,rfl,e⟩ | ⟨y,u,rfl,e⟩
   ·injection e with e1 _;rw[e1]
   ·exact nomatch e
  ·rcases xy hb with ⟨j,u,rfl,e⟩ | ⟨y,u,rfl,e⟩
   ·exact nomatch e
   ·injection e with e1 _;rw[e1]
 byValue:=fun k v h=>by
  rcases xy h with ⟨i,t,rfl,rfl⟩ | ⟨x,t,rfl,rfl⟩<;>rfl
 pyHash:=fun hv h=>by
  rcases xy hv with ⟨i,t,rfl,rfl⟩ | ⟨x,t,rfl,rfl⟩
  ·exact wpAny_pyHash_int h
  ·exact wpAny_pyHash_str h
 eqBool:=fun hu hv h=>by
  rcases xy hu with ⟨i,t,rfl,rfl⟩ | ⟨x,t,rfl,rfl⟩
  ·rcases xy hv with ⟨j,u,rfl,rfl⟩ | ⟨y,u,rfl,rfl⟩
   ·rw[Ku] at h;exact wpAny_eqBool_int h
   ·rw[Kb] at h;exact SeqAt.EqAt.int_str i t y u _ _ _ _ h
  ·rcases xy hv with ⟨j,u,rfl,rfl⟩ | ⟨y,u,rfl,rfl⟩
   ·rw[K6] at h;exact SeqAt.EqAt.str_int x t j u _ _ _ _ h
   ·rw[Kp] at h;exact wpAny_eqBool_str h
 «strs»:=fun k x t v h=>by
  rcases xy h with ⟨i,u,rfl,e⟩ | ⟨y,u,rfl,e⟩
  ·exact nomatch e
  ·injection e with e1 _
   subst e1
   cases v<;>rfl
theorem sT (prog:Program) (w:World) (i:Int) (t:Tok):(kq prog w).is (.inl i) (.int i t)=true:=eB i t
theorem sy (prog:Program) (w:World) (x:Str) (t:Tok):(kq prog w).is (.inr x) (.str x t)=true:=aC x t
end L2
namespace L2
open PySem PySem.Spec PyProof.Rows
inductive V where
 | non | bl (b:Bool) | int (i:Int) | str (x:Str) | byt (b:Array UInt8) | flt (b:UInt64) | ref (a:Addr) | ty (n:String)
 deriving DecidableEq
noncomputable def RelV:V→Value→Prop
 | .non,u=>u=Value.none
 | .bl b,u=>u=Value.bool b
 | .int i,u=>∃t,u=Value.int i t
 | .str x,u=>∃t,u=Value.str x t
 | .byt b,u=>∃t,u=Value.bytes b t
 | .flt b,u=>∃t,u=Value.float b t
 | .ref a,u=>u=Value.ref a
 | .ty n,u=>u=Value.type n
noncomputable abbrev Vals:List V→List Value→Prop:=Paired RelV
theorem Vals.length {xs:List V} {us:List Value} (r:Vals xs us):xs.length=us.length:=Paired.length r
theorem Vals.get:∀{xs:List V} {us:List Value} {i:Nat} {x:V},Vals xs us→xs[i]?=some x→∃u,us[i]?=some u∧RelV x u
 | _,_,_,_,.nil,e=>by simp at e
 | _,_,0,_,.cons r _,e=>by simp at e;subst e;exact⟨_,rfl,r⟩
 | _,_,i + 1,x,.cons _ t,e=>by
  obtain⟨u,h1,h2⟩:=Vals.get (i:=i) (x:=x) t (by simpa using e)
  exact⟨u,by simpa using h1,h2⟩
theorem Vals.append:∀{xs ys:List V} {us ws:List Value},Vals xs us→Vals ys ws→Vals (xs ++ ys) (us ++ ws)
 | _,_,_,_,.nil,s=>s
 | _,_,_,_,.cons r t,s=>.cons r (Vals.append t s)
theorem Vals.take:∀{xs:List V} {us:List Value} (n:Nat),Vals xs us→Vals (xs.take n) (us.take n)
 | _,_,0,_=>.nil
 | _,_,_ + 1,.nil=>.nil
 | _,_,n + 1,.cons r t=>.cons r (Vals.take n t)
theorem Vals.drop:∀{xs:List V} {us:List Value} (n:Nat),Vals xs us→Vals (xs.drop n) (us.drop n)
 | _,_,0,r=>r
 | _,_,_ + 1,.nil=>.nil
 | _,_,n + 1,.cons _ t=>Vals.drop n t
noncomputable def yB:Option V→Option Value→Prop
 | some v,some u=>RelV v u
 | none,none=>True
 | _,_=>False
noncomputable def KV {κ:Type}:List (κ × V)→List (κ × Value)→Prop:=Paired fun (p:κ × V) (q:κ × Value)=>p.1=q.1∧RelV p.2 q.2
noncomputable def kV:Key→V
 | .inl i=>.int i
 | .inr x=>.str x
inductive HO where
 | lst (xs:List V)
 | tup (xs:List V)
 | dK (kvs:List (Key × V)) | dT (kvs:List (List Key × V))
 | set (S:Int→Bool) (n:Nat)
 | ins (C dx:Addr) (fs:List (Str × V))
 | own (x:Addr)
 | xd (fs:List (Str × V))
 | met (f x:Addr)
 | rng (lo hi:Int)
 | frz (o:Obj) (u:HO)
 | tbl (ps:Array Value)
 | ext (φ:Heap→Prop)
noncomputable abbrev Hp:=Addr→Option HO
noncomputable def upd (H:Hp) (a:Addr) (o:HO):Hp:=fun b=>if b=a then some o else H b
theorem qv {H:Hp} {a:Addr} {o:HO}:upd H a o a=some o:=by unfold upd;rw[if_pos rfl]
theorem qW {H:Hp} {a b:Addr} {o:HO} (h:b≠a):upd H a o b=H b:=by unfold upd;rw[if_neg h]
theorem yy {H:Hp} {a:Addr} {o u:HO}:upd (upd H a o) a u=upd H a u:=by
 funext b;unfold upd;split<;>rfl
theorem fN {H:Hp} {a b:Addr} {o u:HO} (h:H a=some o) (h':H b=some u) (d:o≠u):a≠b:=by
 intro e;subst e;rw[h] at h';exact d (Option.some.inj h')
theorem qk {H:Hp} {a b:Addr} {o:HO} (h:H a=some o) (h':H b=none):a≠b:=by
 intro e;subst e;rw[h] at h';cases h'
section
variable (P:Program) (w:World)
noncomputable def jO (H:Hp) (h:Heap) (a:Addr):HO→Prop
 | .lst xs=>xs.length≤sizeLine∧∃(its:List Value) (n:Nat),Vals xs its∧h.get? a=some { cls:=.type "list",data:=.seq its.toArray n }
 | .tup xs=>xs.length≤sizeLine∧∃its:List Value,Vals xs its∧IsTup h a its.toArray
 | .dK kvs=>kvs.length≤sizeLine∧(a == sysModules)=false∧∃vs,KV kvs vs∧h.DictOf (kq P w) a vs
 | .dT kvs=>kvs.length≤sizeLine∧(a == sysModules)=false∧∃xs:List (List Key × Addr × Value),
   Paired (fun (p:List Key × V) (q:List Key × Addr × Value)=>p.1=q.1∧H q.2.1=some (.tup (p.1.map kV))∧RelV p.2 q.2.2) kvs xs∧
   ∃o es ep,h.get? a=some o∧o.ExactDict∧o.data=.dict es ep∧es.toList=xs.map (entryOfKey (tupleKind (kq P w)))∧(xs.map (·.1)).Nodup
 | .set S n=>h.SetOf (intKind P w) a S n
 | .ins C dx fs=>H dx=some (.own a)∧fs.length≤1000∧dx≠a∧h.get? a=some (PySem.W.instObj C dx)∧
   ∃mA,h.Ns1 dx mA∧(∀f,yB (fs.lookup f) (mA f))∧PySem.Within mA (fs.map (·.1))
 | .own _=>∃o,h.get? a=some o
 | .xd fs=>∃mA,h.Ns1 a mA∧∀f,yB (fs.lookup f) (mA f)
 | .rng lo hi=>∃t u v,h.get? a=some { cls:=.type "range",data:=.fields #[.int lo t,.int hi u,.int 1 v] }
 | .frz o u=>h.get? a=some o∧jO H h a u
 | .tbl ps=>h.get? a=some { cls:=.none,data:=.fields ps }
 | .met f x=>h.get? a=some (PySem.W.methodObj (.ref f) (.ref x))
 | .ext φ=>φ h∧(∃o,h.get? a=some o)∧∀h1 h2:Heap,φ h1→(∀o,h1.get? a=some o→h2.get? a=some o)→φ h2
noncomputable def gF (H:Hp) (h:Heap):Prop:=∀a o,H a=some o→jO P w H h a o
end
section
variable {P:Program} {w:World} {H H':Hp} {h h':Heap} {a:Addr} {o:HO}
theorem jO.lt (x:jO P w H h a o):a < h.objs.size:=by
 cases o with
 | lst xs=>obtain⟨_,_,_,_,e⟩:=x;exact Heap.lt_size e
 | tup xs=>obtain⟨_,_,_,p⟩:=x;exact p.lt
 | dK kvs=>obtain⟨_,_,_,_,o,_,_,e,_⟩:=x;exact Heap.lt_size e
 | dT kvs=>obtain⟨_,_,_,_,o,_,_,e,_⟩:=x;exact Heap.lt_size e
 | set S n=>obtain⟨o,_,_,_,e,_⟩:=x;exact Heap.lt_size e
 | ins C dx fs=>obtain⟨_,_,_,e,_⟩:=x;exact Heap.lt_size e
 | own y=>obtain⟨_,e⟩:=x;exact Heap.lt_size e
 | xd fs=>obtain⟨_,⟨_,_,_,e,_⟩,_⟩:=x;exact Heap.lt_size e
 | rng lo hi=>obtain⟨_,_,_,e⟩:=x;exact Heap.lt_size e
 | frz ob u=>obtain⟨e,_⟩:=x;exact Heap.lt_size e
 | tbl ps=>exact Heap.lt_size (show h.get? a=some _ from x)
 | met f y=>exact Heap.lt_size (show h.get? a=some _ from x)
 | ext φ=>obtain⟨_,⟨_,e⟩,_⟩:=x;exact Heap.lt_size e
theorem Paired.Zc {α β:Type} {F G:α→β→Prop}:∀{l₁:List α} {l₂:List β},Paired F l₁ l₂→(∀a b,F a b→G a b)→Paired G l₁ l₂
 | _,_,.nil,_=>.nil
 | _,_,.cons r t,f=>.cons (f _ _ r) (Paired.Zc t f)
theorem Paired.imp' {α β:Type} {F G:α→β→Prop} (f:∀a b,F a b→G a b) {l₁:List α} {l₂:List β} (r:Paired F l₁ l₂):Paired G l₁ l₂:=Paired.Zc r f
theorem jO.sd (x:jO P w H h a o) (k:∀b u,(b=a∨H b=some (.own a))→h.get? b=some u→h'.get? b=some u)
  (ho:∀b,H b=some (.own a)→H' b=some (.own a)) (ht:∀b xs,H b=some (.tup xs)→H' b=some (.tup xs)):jO P w H' h' a o:=by
 induction o with
 | lst xs=>obtain⟨z,its,n,r,e⟩:=x;exact⟨z,its,n,r,k _ _ (.inl rfl) e⟩
 | tup xs=>obtain⟨z,its,r,ob,e,c⟩:=x;exact⟨z,its,r,ob,k _ _ (.inl rfl) e,c⟩
 | dK kvs=>obtain⟨z,y,vs,r,ob,es,ep,e,c⟩:=x;exact⟨z,y,vs,r,ob,es,ep,k _ _ (.inl rfl) e,c⟩
 | dT kvs=>
  obtain⟨z,y,xs,r,ob,es,ep,e,c⟩:=x
  exact⟨z,y,xs,Paired.Zc r fun p q z=>⟨z.1,ht _ _ z.2.1,z.2.2⟩,ob,es,ep,k _ _ (.inl rfl) e,c⟩
 | set S n=>obtain⟨ob,es,ep,t,e,c⟩:=x;exact⟨ob,es,ep,t,k _ _ (.inl rfl) e,c⟩
 | ins C dx fs=>
  obtain⟨d,z,ne,e,mA,⟨od,es,ep,e2,c⟩,r⟩:=x
  exact⟨ho _ d,z,ne,k _ _ (.inl rfl) e,mA,⟨od,es,ep,k _ _ (.inr d) e2,c⟩,r⟩
 | own y=>obtain⟨ob,e⟩:=x;exact⟨ob,k _ _ (.inl rfl) e⟩
 | xd fs=>obtain⟨mA,⟨od,es,ep,e,c⟩,r⟩:=x;exact⟨mA,⟨od,es,ep,k _ _ (.inl rfl) e,c⟩,r⟩
 | rng lo hi=>obtain⟨t,u,v,e⟩:=x;exact⟨t,u,v,k _ _ (.inl rfl) e⟩
 | frz ob u ih=>obtain⟨e,q⟩:=x;exact⟨k _ _ (.inl rfl) e,ih q⟩
 | tbl ps=>
  have e:h.get? a=some { cls:=.none,data:=.fields ps }:=x
  show h'.get? a=some { cls:=.none,data:=.fields ps }
  exact k a _ (.inl rfl) e
 | met f y=>
  have e:h.get? a=some (PySem.W.methodObj (.ref f) (.ref y)):=x
  show h'.get? a=some (PySem.W.methodObj (.ref f) (.ref y))
  exact k a _ (.inl rfl) e
 | ext φ=>obtain⟨p,⟨o,e⟩,st⟩:=x;exact⟨st _ _ p fun o q=>k _ _ (.inl rfl) q,⟨o,k _ _ (.inl rfl) e⟩,st⟩
theorem gF.lt (x:gF P w H h) (e:H a=some o):a < h.objs.size:=(x a o e).lt
theorem gF.fresh (x:gF P w H h) (e:h.objs.size≤a):H a=none:=by
 cases q:H a with
 | none=>rfl
 | some u=>exact absurd (Nat.lt_of_lt_of_le (x.lt q) e) (Nat.lt_irrefl _)
theorem gF.kept (x:gF P w H h) (k:∀b u,h.get? b=some u→h'.get? b=some u):gF P w H h':=fun a o e=>
 (x a o e).sd (fun b u _ q=>k b u q) (fun _ q=>q) fun _ _ q=>q
theorem gF.laid (x:gF P w H h) (k:∀b u,h.get? b=some u→h'.get? b=some u) (hp:h.objs.size≤a) (new:jO P w (upd H a o) h' a o):gF P w (upd H a o) h':=fun b u e=>by
 have hn:=x.fresh hp
 by_cases hb:b=a
 ·subst hb;rw[qv] at e;cases e;exact new
 ·rw[qW hb] at e
  exact(x b u e).sd (fun c v _ q=>k c v q) (fun c q=>by rw[qW (qk q hn)];exact q) fun c xs q=>by rw[qW (qk q hn)];exact q
end
noncomputable def Rd (H:Hp) (a:Addr) (u:HO):Prop:=H a=some u∨∃o,H a=some (.frz o u)
theorem Rd.ok {P:Program} {w:World} {H:Hp} {h:Heap} {a:Addr} {u:HO} (r:Rd H a u) (x:gF P w H h):jO P w H h a u:=by
 rcases r with r | ⟨o,r⟩
 ·exact x a u r
 ·obtain⟨_,q⟩:=x a _ r
  exact q
noncomputable def VE:Option HO→Prop
 | some (.lst _)=>True
 | some (.dK _)=>True
 | some (.dT _)=>True
 | some (.set _ _)=>True
 | some (.ins _ _ _)=>True
 | some (.ext _)=>True
 | _=>False
section
variable {P:Program} {w:World} {H:Hp} {h h':Heap} {x e:Addr} {o':HO}
theorem gF.write (ok:gF P w H h) (mu:VE (H x)) (he:e=x∨H e=some (.own x)) (k:∀b u,b≠e→h.get? b=some u→h'.get? b=some u) (heo:∃u,h'.get? e=some u)
  (new:jO P w (upd H x o') h' x o'):gF P w (upd H x o') h':=fun b u q=>by
 have nown:∀c y,H c=some (.own y)→c≠x:=fun c y r z=>by subst z;rw[r] at mu;exact mu
 have ntup:∀c xs,H c=some (.tup xs)→c≠x:=fun c xs r z=>by subst z;rw[r] at mu;exact mu
 by_cases hb:b=x
 ·subst hb;rw[qv] at q;cases q;exact new
 ·rw[qW hb] at q
  by_cases hbe:b=e
  ·have q':H b=some (.own x):=by
    rcases he with z | z
    ·exact absurd (hbe.trans z) hb
    ·rw[hbe];exact z
   rw[q] at q';cases q'
   obtain⟨v,hv⟩:=heo
   exact⟨v,by rw[hbe];exact hv⟩
  ·refine(ok b u q).sd (fun c v hc r=>k c v ?_ r) (fun c r=>by rw[qW (nown c b r)];exact r) fun c xs r=>by rw[qW (ntup c xs r)];exact r
   rcases hc with rfl | hc
   ·exact hbe
   ·rintro rfl
    rcases he with z | z
    ·exact nown c b hc z
    ·rw[hc] at z;cases z;exact hb rfl
end
structure Un (fs ex:List Addr) (H H':Hp) (h h':Heap):Prop where
 keep:∀b o,h.get? b=some o→H b=none→b∉fs→b∉ex→h'.get? b=some o
 slot:∀b o,h.get? b=some o→H b=none→b∈fs→b∉ex→∃sl,h'.get? b=some { o with slots:=sl }
 free:∀b o,h.get? b=some o→H b=none→b∉ex→H' b=none
 there:∀b o,h.get? b=some o→b∉ex→∃o',h'.get? b=some o'
 lW:∀b xs,H b=some (.tup xs)→H' b=some (.tup xs)
 ua:∀b o u,H b=some (.frz o u)→H' b=some (.frz o u)
 rK:∀b ps,H b=some (.tbl ps)→∃more,H' b=some (.tbl (ps ++ more))
section
variable {fs fs' ex ex':List Addr} {H H1 H2:Hp} {h h1 h2 h':Heap} {a x e:Addr} {o:HO}
theorem Un.any (u:Un fs ex H H1 h h1) {b:Addr} {ob:Obj} (q:h.get? b=some ob) (n:H b=none) (hx:b∉ex):∃sl,h1.get? b=some { ob with slots:=sl }:=by
 by_cases hb:b∈fs
 ·exact u.slot b ob q n hb hx
 ·exact⟨ob.slots,u.keep b ob q n hb hx⟩
theorem Un.kept (k:∀b u,h.get? b=some u→h'.get? b=some u):Un fs ex H H h h':=
 ⟨fun b ob q _ _ _=>k b ob q,fun b ob q _ _ _=>⟨ob.slots,k b ob q⟩,fun _ _ _ n _=>n,fun b ob q _=>⟨ob,k b ob q⟩,fun _ _ q=>q,fun _ _ _ q=>q,fun _ ps q=>⟨#[],by rw[q];simp⟩⟩
theorem Un.refl:Un fs ex H H h h:=Un.kept fun _ _ q=>q
theorem Un.laid (k:∀b u,h.get? b=some u→h'.get? b=some u) (hp:h.objs.size≤a) (hn:H a=none):Un fs ex H (upd H a o) h h' where
 keep:=fun b u q _ _ _=>k b u q
 slot:=fun b u q _ _ _=>⟨u.slots,k b u q⟩
 free:=fun b u q n _=>by rw[qW (Nat.ne_of_lt (Nat.lt_of_lt_of_le (Heap.lt_size q) hp))];exact n
 there:=fun b u q _=>⟨u,k b u q⟩
 lW:=fun b xs q=>by rw[qW (qk q hn)];exact q
 ua:=fun b u xs q=>by rw[qW (qk q hn)];exact q
 rK:=fun b ps q=>⟨#[],by rw[qW (qk q hn),q];simp⟩
theorem Un.write (mu:VE (H x)) (he:e=x∨H e=some (.own x)) (k:∀b u,b≠e→h.get? b=some u→h'.get? b=some u) (heo:∃u,h'.get? e=some u):Un fs ex H (upd H x o) h h':=by
 have hx:∀b,H b=none→b≠x:=fun b n z=>by subst z;rw[n] at mu;exact mu
 have hb:∀b,H b=none→b≠e:=fun b n z=>by
  subst z
  rcases he with r | r
  ·exact hx b n r
  ·rw[n] at r;cases r
 have hm:∀b u,H b=some u→¬VE (some u)→b≠x:=fun b u q nm z=>by subst z;rw[q] at mu;exact nm mu
 refine⟨fun b u q n _ _=>k b u (hb b n) q,fun b u q n _ _=>⟨u.slots,k b u (hb b n) q⟩,fun b u q n _=>by rw[qW (hx b n)];exact n,fun b u q _=>?_,
  fun b xs q=>by rw[qW (hm b _ q fun z=>z)];exact q,fun b u xs q=>by rw[qW (hm b _ q fun z=>z)];exact q,fun b ps q=>⟨#[],by rw[qW (hm b _ q fun z=>z),q];simp⟩⟩
 by_cases hbe:b=e
 ·subst hbe;exact heo
 ·exact⟨u,k b u hbe q⟩
end
noncomputable def WK (h:Heap) (H:Hp):List Addr:=(List.range h.objs.size).filter fun a=>(H a).isSome
noncomputable def rJ (h:Heap) (H:Hp):Heap:=PySem.W.hideAll h (WK h H)
theorem aU (h:Heap) (H:Hp):(rJ h H).objs.size=h.objs.size:=PySem.W.hideAll_size _ _
theorem ZE {h:Heap} {H:Hp} {b:Addr} {o:Obj} (e:h.get? b=some o) (n:H b=none):(rJ h H).get? b=some o:=
 PySem.W.hideAll_get _ e fun hm=>by
  have q:(H b).isSome=true:=(List.mem_filter.mp hm).2
  rw[n] at q;simp at q
theorem Jg {h:Heap} {H:Hp} {b:Addr} {o:Obj} (e:(rJ h H).get? b=some o):h.get? b=some o∧H b=none:=by
 have e':h.get? b=some o:=PySem.W.of_hideAll (WK h H) e
 refine⟨e',?_⟩
 cases q:H b with
 | none=>rfl
 | some x=>
  have hm:b∈WK h H:=List.mem_filter.mpr ⟨List.mem_range.mpr (Heap.lt_size e'),by simp [q]⟩
  have z:(rJ h H).get? b=none:=PySem.W.hideAll_none (WK h H) hm
  rw[z] at e;cases e
noncomputable def JL (g h:Heap) (L:Addr):List (Addr × Obj):=(List.range h.objs.size).filterMap fun a=>if a=L∨(g.get? a).isSome=true then none else (h.get? a).map fun o=>(a,o)
noncomputable def rest (g h:Heap) (L d:Addr):List (Addr × Obj):=(JL g h L).filter fun p=>decide (p.1≠d)
end L2
namespace L2
open PySem PySem.Spec PyProof.Rows
structure Mod (K:PySem.W.Frag) (mg:Str→Option Value) (base:Heap):Prop where
 Zi:K.In base
 glob:base.Ns mainGlobals mg
 blt:∃mb,base.Ns builtinsNs mb∧∀x:Str,x≠"__name__"→mb x=bootBuiltins x
 nolimit:base.NoLimit
structure Cx where
 prog:Program
 w:World
 K:PySem.W.Frag
 mg:Str→Option Value
 base:Heap
 A:Around
 N:List Str
 s₀:Shared
 H₀:Hp
 env:Env
 outer:List Env
 stack:List Env
 ex:List Addr
 fn:Str→Bool
 calm:Bool
 pn:List (Addr × Obj)
 xe:Value→Shared→Prop
noncomputable def nW (l:List Env):List Addr:=l.filterMap (·.frame)
noncomputable abbrev Cx.fs (X:Cx):List Addr:=nW X.outer
noncomputable def YK (sc:Scope) (x:Str):Prop:=sc.names.lookup x=some .local∨sc.names.lookup x=some .cell∨sc.names.lookup x=some .free
noncomputable def Loc (sc:Scope) (x:Str):Prop:=sc.names.lookup x=some .local∨sc.names.lookup x=some .cell
noncomputable def Look (env:Env) (h:Heap) (m:Str→Option Value) (x:Str) (u:Value):Prop:=
 (env.kindOf x=some .local∧m x=some u)∨((env.kindOf x=some .cell∨env.kindOf x=some .free)∧∃c,env.cells.lookup x=some c∧h.IsCell c (some u))
structure Cx.Ok (X:Cx):Prop where
 mod:Mod X.K X.mg X.base
 kind:X.env.scope.kind=.function
 glob:X.env.globals=mainGlobals
 blt:X.env.builtins=builtinsNs
 above:X.s₀.heap.objs.size≤X.env.locals
 inj:∀x y c,X.env.cells.lookup x=some c→X.env.cells.lookup y=some c→x=y
 has:∀x,(X.env.kindOf x=some .cell∨X.env.kindOf x=some .free)→∃c,X.env.cells.lookup x=some c
 VO:∀x c,X.fn x=true→X.env.cells.lookup x=some c→X.s₀.heap.objs.size≤c
 hd:X.calm=true→X.A.handled=none
 frames:X.A.frames=some X.stack
 Wu:X.stack=X.outer∨(X.stack=X.env :: X.outer∧X.env.frame=some X.env.locals)
 Vp:∀b∈X.ex,b≠X.env.locals∧∀x c,X.env.cells.lookup x=some c→c≠b
 bs:∀b o,X.base.get? b=some o→X.s₀.heap.get? b=some o∧X.H₀ b=none
 Zx:X.base.objs.size≤X.s₀.heap.objs.size
 aS:∀b o,X.base.get? b=some o→b∉X.ex
 aI:∀b∈X.ex,b∉X.fs
 dw:X.s₀.heap.FunFrames X.base X.outer
 KO:∀b∈X.fs,X.H₀ b=none
structure Inv (X:Cx) (pins:List (Addr × Obj)) (σ:List (Option V)) (H:Hp) (s:Shared):Prop where
 ok:X.Ok
 os:s.os=X.s₀.os
 bare:AllBare s.gens
 base:Un X.fs X.ex X.H₀ H X.s₀.heap s.heap
 loc:∃m,s.heap.Ns X.env.locals m∧∀(i:Nat) (x:Str) (v:V),X.N[i]?=some x→σ[i]?=some (some v)→YK X.env.scope x→∃u,RelV v u∧Look X.env s.heap m x u
 cell:∀x c,X.env.cells.lookup x=some c→∃v,s.heap.IsCell c v
 free:H X.env.locals=none
 gX:∀x c,X.env.cells.lookup x=some c→H c=none
 pin:∀p∈X.pn ++ pins,s.heap.get? p.1=some p.2∧H p.1=none∧p.1≠X.env.locals∧p.1∉X.fs∧∀v,p.2.data≠.cell v
 jg:gF X.prog X.w H s.heap
 len:σ.length=X.N.length
section
variable {X:Cx} {pins:List (Addr × Obj)} {σ:List (Option V)} {H H':Hp} {s:Shared} {h':Heap}
theorem Cx.Ok.Yc (ok:X.Ok) {b:Addr} {o:Obj} (e:X.base.get? b=some o):b∉X.fs:=fun hb=>by
 have:=(ok.dw.mem hb).1
 rw[e] at this;cases this
theorem Inv.bs (I:Inv X pins σ H s):∀b o,X.base.get? b=some o→s.heap.get? b=some o∧H b=none:=fun b o e=>
 ⟨I.base.keep b o (I.ok.bs b o e).1 (I.ok.bs b o e).2 (I.ok.Yc e) (I.ok.aS b o e),I.base.free b o (I.ok.bs b o e).1 (I.ok.bs b o e).2 (I.ok.aS b o e)⟩
theorem Inv.bk (I:Inv X pins σ H s):∀b o,X.base.get? b=some o→s.heap.get? b=some o:=fun b o e=>(I.bs b o e).1
theorem Inv.mod (I:Inv X pins σ H s):Mod X.K X.mg X.base:=I.ok.mod
theorem Inv.gP (I:Inv X pins σ H s):X.K.In s.heap:=I.ok.mod.Zi.keeps I.bk
theorem Inv.fr (I:Inv X pins σ H s):∃m,Fr X.base X.env.locals s.heap m:=
 let ⟨m,hn,_⟩:=I.loc
 ⟨m,hn,I.bk,Nat.le_trans I.ok.Zx I.ok.above⟩
theorem Inv.lt (I:Inv X pins σ H s):X.env.locals < s.heap.objs.size:=let ⟨_,hn,_⟩:=I.loc;hn.lt
theorem Inv.sz (I:Inv X pins σ H s):X.s₀.heap.objs.size≤s.heap.objs.size:=Nat.le_trans I.ok.above (Nat.le_of_lt I.lt)
theorem Inv.WD (I:Inv X pins σ H s) {a:Addr} (h:s.heap.objs.size≤a):a∉X.fs:=fun hb=>by
 obtain⟨_,o,ho,_⟩:=I.ok.dw.mem hb
 exact absurd (Nat.lt_of_lt_of_le (Heap.lt_size ho) (Nat.le_trans I.sz h)) (Nat.lt_irrefl _)
theorem Inv.Kx (I:Inv X pins σ H s):∀x c,X.env.cells.lookup x=some c→c≠X.env.locals:=fun x c e z=>by
 obtain⟨v,o,ho,hd⟩:=I.cell x c e
 obtain⟨m,⟨o',es,ep,ho',hd',_⟩,_⟩:=I.loc
 rw[z,ho'] at ho;cases ho;rw[hd'] at hd;cases hd
theorem Inv.dw (I:Inv X pins σ H s):s.heap.FunFrames X.base X.outer:=by
 have all:∀(l:List Env),(∀b∈nW l,b∈X.fs)→X.s₀.heap.FunFrames X.base l→s.heap.FunFrames X.base l:=by
  intro l
  induction l with
  | nil=>intro _ _;trivial
  | cons env r ih=>
   intro hs hl
   obtain⟨hk,⟨L,o,hf,hn,ho,hd⟩,hr⟩:=hl
   have hL:L∈X.fs:=hs L (by unfold nW;rw[List.filterMap_cons,hf];exact List.mem_cons_self)
   obtain⟨sl,e⟩:=I.base.slot L o ho (I.ok.KO L hL) hL fun z=>I.ok.aI L z hL
   exact⟨hk,⟨L,_,hf,hn,e,hd⟩,ih (fun b hb=>hs b (by unfold nW;rw[List.filterMap_cons,hf];exact List.mem_cons_of_mem _ hb)) hr⟩
 exact all X.outer (fun _ hb=>hb) I.ok.dw
theorem Inv.stack (I:Inv X pins σ H s):s.heap.FunFrames X.base X.stack:=by
 rcases I.ok.Wu with e | ⟨e,hf⟩
 ·rw[e];exact I.dw
 ·rw[e]
  obtain⟨m,hn,_⟩:=I.loc
  refine .cons (by rw[I.ok.kind];decide) hf hn ?_ I.dw
  exact Heap.get?_none_of_le (Nat.le_trans I.ok.Zx I.ok.above)
theorem Inv.cy (I:Inv X pins σ H s):∀b∈nW X.stack,b∈X.env.locals :: X.fs:=fun b hb=>by
 rcases I.ok.Wu with e | ⟨e,hf⟩
 ·rw[e] at hb;exact List.mem_cons_of_mem _ hb
 ·rw[e] at hb
  unfold nW at hb
  rw[List.filterMap_cons,hf] at hb
  exact hb
theorem Inv.fM (I:Inv X pins σ H s):∀b∈nW X.stack,H b=none:=fun b hb=>by
 rcases List.mem_cons.mp (I.cy b hb) with e | hb
 ·rw[e];exact I.free
 ·obtain⟨_,o,ho,_⟩:=I.ok.dw.mem hb
  exact I.base.free b o ho (I.ok.KO b hb) fun z=>I.ok.aI b z hb
theorem Inv.step {g':Array GenState} {t':Nat} {d':Drawn} {ch:List Addr} (I:Inv X pins σ H s)
  (hch:∀b∈ch,(b∈X.ex∨X.s₀.heap.objs.size≤b)∧b≠X.env.locals∧(∀x c,X.env.cells.lookup x=some c→c≠b)∧∀p∈X.pn ++ pins,p.1≠b)
  (keep:∀b o,b≠X.env.locals→b∉X.fs→b∉ch→s.heap.get? b=some o→H b=none→h'.get? b=some o)
  (slot:∀b o,b≠X.env.locals→b∈X.fs→b∉ch→s.heap.get? b=some o→H b=none→∃sl,h'.get? b=some { o with slots:=sl }) (free:∀b o,b∉ch→s.heap.get? b=some o→H b=none→H' b=none)
  (there:∀b o,b∉ch→s.heap.get? b=some o→∃o',h'.get? b=some o')
  (lW:∀b xs,H b=some (.tup xs)→H' b=some (.tup xs)) (ua:∀b o u,H b=some (.frz o u)→H' b=some (.frz o u)) (rK:∀b ps,H b=some (.tbl ps)→∃more,H' b=some (.tbl (ps ++ more)))
  (ns:∀m,s.heap.Ns X.env.locals m→h'.Ns X.env.locals m) (jg:gF X.prog X.w H' h') (hg:AllBare g') :
  Inv X pins σ H' { s with heap:=h',gens:=g',drawn:=d',toks:=t' }:=by
 have neL:∀b o,X.s₀.heap.get? b=some o→b≠X.env.locals:=fun b o e=>Nat.ne_of_lt (Nat.lt_of_lt_of_le (Heap.lt_size e) I.ok.above)
 have neC:∀b o,X.s₀.heap.get? b=some o→b∉X.ex→b∉ch:=fun b o e hx hb=>by
  rcases(hch b hb).1 with z | z
  ·exact hx z
  ·exact absurd (Nat.lt_of_lt_of_le (Heap.lt_size e) z) (Nat.lt_irrefl _)
 have cellK:∀x c,X.env.cells.lookup x=some c→∀v,s.heap.IsCell c v→h'.IsCell c v:=fun x c e v ⟨o,ho,hd⟩=>by
  have nch:c∉ch:=fun z=>(hch c z).2.2.1 x c e rfl
  by_cases hc:c∈X.fs
  ·obtain⟨sl,q⟩:=slot c o (I.Kx x c e) hc nch ho (I.gX x c e)
   exact⟨_,q,hd⟩
  ·exact⟨o,keep c o (I.Kx x c e) hc nch ho (I.gX x c e),hd⟩
 refine⟨I.ok,I.os,hg,⟨fun b o e n hb hx=>?_,fun b o e n hb hx=>?_,fun b o e n hx=>?_,fun b o e hx=>?_,fun b xs e=>lW b xs (I.base.lW b xs e),fun b o xs e=>ua b o xs (I.base.ua b o xs e),fun b ps e=>?_⟩,?_,fun x c e=>?_,?_,fun x c e=>?_,fun p hp=>?_,jg,I.len⟩
 ·exact keep b o (neL b o e) hb (neC b o e hx) (I.base.keep b o e n hb hx) (I.base.free b o e n hx)
 ·obtain⟨sl,e1⟩:=I.base.slot b o e n hb hx
  obtain⟨sl',e2⟩:=slot b _ (neL b o e) hb (neC b o e hx) e1 (I.base.free b o e n hx)
  exact⟨sl',e2⟩
 ·obtain⟨o',e1⟩:=I.base.there b o e hx
  exact free b o' (neC b o e hx) e1 (I.base.free b o e n hx)
 ·obtain⟨o',e1⟩:=I.base.there b o e hx
  exact there b o' (neC b o e hx) e1
 ·obtain⟨m1,e1⟩:=I.base.rK b ps e
  obtain⟨m2,e2⟩:=rK b _ e1
  exact⟨m1 ++ m2,by rw[e2,Array.append_assoc]⟩
 ·obtain⟨m,hn,hl⟩:=I.loc
  refine⟨m,ns m hn,fun i x v e1 e2 e3=>?_⟩
  obtain⟨u,r,l⟩:=hl i x v e1 e2 e3
  refine⟨u,r,?_⟩
  rcases l with l | ⟨k,c,e,z⟩
  ·exact .inl l
  ·exact .inr ⟨k,c,e,cellK x c e _ z⟩
 ·obtain⟨v,z⟩:=I.cell x c e
  exact⟨v,cellK x c e v z⟩
 ·obtain⟨m,⟨o,_,_,ho,_⟩,_⟩:=I.loc
  exact free _ o (fun z=>(hch _ z).2.1 rfl) ho I.free
 ·obtain⟨v,o,ho,hd⟩:=I.cell x c e
  exact free c o (fun z=>(hch c z).2.2.1 x c e rfl) ho (I.gX x c e)
 ·obtain⟨e,n,ne,nf,d⟩:=I.pin p hp
  have nch:p.1∉ch:=fun z=>(hch p.1 z).2.2.2 p hp rfl
  exact⟨keep p.1 p.2 ne nf nch e n,free p.1 p.2 nch e n,ne,nf,d⟩
theorem Inv.un {t':Nat} (I:Inv X pins σ H s) (u:Un X.fs [] H H' s.heap h') (jg:gF X.prog X.w H' h'):Inv X pins σ H' { s with heap:=h',toks:=t' }:=by
 obtain⟨m,⟨o,es,ep,ho,r⟩,_⟩:=id I.loc
 obtain⟨sl,hL⟩:=u.any ho I.free (by simp)
 exact I.step (g':=s.gens) (d':=s.drawn) (ch:=[]) (fun _ z=>nomatch z) (fun b o _ hb _ e n=>u.keep b o e n hb (by simp)) (fun b o _ hb _ e n=>u.slot b o e n hb (by simp)) (fun b o _ e n=>u.free b o e n (by simp)) (fun b o _ e=>u.there b o e (by simp)) u.lW u.ua u.rK (fun m' hm=>by
  obtain⟨o',es',ep',ho',r'⟩:=hm
  rw[ho] at ho';cases ho'
  exact⟨_,es',ep',hL,r'⟩) jg I.bare
theorem Inv.call {g':Array GenState} {t':Nat} {d':Drawn} {ch:List Addr} (I:Inv X pins σ H s) (u:Un (nW X.stack) ch H H' s.heap h') (jg:gF X.prog X.w H' h') (hg:AllBare g')
  (hch:∀b∈ch,(b∈X.ex∨X.s₀.heap.objs.size≤b)∧b≠X.env.locals∧(∀x c,X.env.cells.lookup x=some c→c≠b)∧∀p∈X.pn ++ pins,p.1≠b) :
  Inv X pins σ H' { s with heap:=h',gens:=g',drawn:=d',toks:=t' }:=by
 obtain⟨m,⟨o,es,ep,ho,r⟩,_⟩:=id I.loc
 obtain⟨sl,hL⟩:=u.any ho I.free fun z=>(hch _ z).2.1 rfl
 exact I.step (ch:=ch) hch (fun b o hL hb hc e n=>u.keep b o e n (fun z=>(List.mem_cons.mp (I.cy b z)).elim hL hb) hc) (fun b o _ _ hc e n=>u.any e n hc) (fun b o hc e n=>u.free b o e n hc) (fun b o hc e=>u.there b o e hc) u.lW u.ua u.rK (fun m' hm=>by
  obtain⟨o',es',ep',ho',r'⟩:=hm
  rw[ho] at ho';cases ho'
  exact⟨_,es',ep',hL,r'⟩) jg hg
theorem Inv.turned {t':Nat} {it:Addr} (I:Inv X pins σ H s) (k:∀b o,b≠it→s.heap.get? b=some o→h'.get? b=some o) (hn:H it=none) (hL:it≠X.env.locals)
  (h1:it∈X.ex∨X.s₀.heap.objs.size≤it) (h2:∀x c,X.env.cells.lookup x=some c→c≠it) (h3:∀p∈X.pn ++ pins,p.1≠it):Inv X pins σ H { s with heap:=h',toks:=t' }:=by
 have nit:∀b u,H b=some u→b≠it:=fun b u e z=>by rw[z,hn] at e;cases e
 refine I.step (g':=s.gens) (d':=s.drawn) (ch:=[it]) (fun b hb=>?_) (fun b o _ _ hc e _=>k b o (fun z=>hc (by simp [z])) e) (fun b o _ _ hc e _=>⟨o.slots,k b o (fun z=>hc (by simp [z])) e⟩) (fun _ _ _ _ n=>n)
  (fun b o hc e=>⟨o,k b o (fun z=>hc (by simp [z])) e⟩) (fun _ _ e=>e) (fun _ _ _ e=>e) (fun b ps e=>⟨#[],by rw[e];simp⟩) (fun m hm=>?_) (fun b u e=>?_) I.bare
 ·have e:b=it:=by simpa using hb
  subst e
  exact⟨h1,hL,h2,h3⟩
 ·obtain⟨o,es,ep,ho,r⟩:=hm
  exact⟨o,es,ep,k _ o (Ne.symm hL) ho,r⟩
 ·refine(I.jg b u e).sd (fun c v hc q=>k c v ?_ q) (fun _ q=>q) fun _ _ q=>q
  rcases hc with z | z
  ·rw[z];exact nit b u e
  ·exact nit c _ z
theorem Inv.tok (I:Inv X pins σ H s) (t:Nat):Inv X pins σ H { s with toks:=t }:=I.un (h':=s.heap) (t':=t) Un.refl I.jg
theorem Inv.kept {t':Nat} (I:Inv X pins σ H s) (k:∀b u,s.heap.get? b=some u→h'.get? b=some u):Inv X pins σ H { s with heap:=h',toks:=t' }:=I.un (Un.kept k) (I.jg.kept k)
theorem Inv.laid {a:Addr} {o:HO} {t':Nat} (I:Inv X pins σ H s) (k:∀b u,s.heap.get? b=some u→h'.get? b=some u) (hp:s.heap.objs.size≤a) (new:jO X.prog X.w (upd H a o) h' a o) :
  Inv X pins σ (upd H a o) { s with heap:=h',toks:=t' }:=I.un (Un.laid k hp (I.jg.fresh hp)) (I.jg.laid k hp new)
theorem Inv.write {x e:Addr} {o:HO} {t':Nat} (I:Inv X pins σ H s) (mu:VE (H x)) (he:e=x∨H e=some (.own x)) (k:∀b u,b≠e→s.heap.get? b=some u→h'.get? b=some u) (heo:∃u,h'.get? e=some u)
  (new:jO X.prog X.w (upd H x o) h' x o):Inv X pins σ (upd H x o) { s with heap:=h',toks:=t' }:=I.un (Un.write mu he k heo) (I.jg.write mu he k heo new)
theorem Inv.weak {σ':List (Option V)} (I:Inv X pins σ H s) (hl:σ'.length=σ.length) (w:∀(i:Nat) v,σ'[i]?=some (some v)→σ[i]?=some (some v)):Inv X pins σ' H s:=
 ⟨I.ok,I.os,I.bare,I.base,let ⟨m,hn,hl'⟩:=I.loc;⟨m,hn,fun i x v e1 e2 e3=>hl' i x v e1 (w i v e2) e3⟩,I.cell,I.free,I.gX,I.pin,I.jg,hl.trans I.len⟩
theorem Inv.rD {pins':List (Addr × Obj)} (I:Inv X pins σ H s) (h:∀p∈pins',s.heap.get? p.1=some p.2∧H p.1=none∧p.1≠X.env.locals∧p.1∉X.fs∧∀v,p.2.data≠.cell v):Inv X pins' σ H s:=
 ⟨I.ok,I.os,I.bare,I.base,I.loc,I.cell,I.free,I.gX,fun p hp=>(List.mem_append.mp hp).elim (fun z=>I.pin p (List.mem_append_left _ z)) (h p),I.jg,I.len⟩
theorem cc {N:List Str} (hN:N.Nodup) {i j:Nat} {x:Str} (a:N[i]?=some x) (b:N[j]?=some x):i=j:=by
 obtain⟨h1,e1⟩:=List.getElem?_eq_some_iff.mp a
 obtain⟨h2,e2⟩:=List.getElem?_eq_some_iff.mp b
 exact(List.getElem_inj hN).mp (e1.trans e2.symm)
theorem aL {M:Model} {A:Around} {E:Value→Shared→Prop} {i:Nat} {x:Str} {v:V} {u:Value} {Q:Unit→Shared→Prop} (I:Inv X pins σ H s) (hN:X.N.Nodup) (hi:X.N[i]?=some x) (hx:Loc X.env.scope x) (r:RelV v u)
  (h:∀s',Inv X pins (σ.set i (some v)) H s'→(∃a,Heap.SameBut a s.heap s'.heap∧(a=X.env.locals∨X.env.cells.lookup x=some a))→Q () s') (hf:X.fn x=true∨X.env.scope.names.lookup x=some .local:=by first | exact .inl rfl | exact .inr rfl | assumption):wpAny M A (storeName X.env x u) Q E s:=by
 obtain⟨m,hn,hl⟩:=id I.loc
 have hcls:(X.env.scope.kind == .class || (X.env.scope.kind == .module && X.env.locals != X.env.globals))=false:=by rw[I.ok.kind];rfl
 have hiσ:i < σ.length:=by rw[I.len];exact(List.getElem?_eq_some_iff.mp hi).1
 have Kx:=I.Kx
 have tracked:∀{a:Addr} {h':Heap},(∃o,s.heap.get? a=some o∧H a=none)→Heap.SameBut a s.heap h'→gF X.prog X.w H h':=fun {a h'} ha hs b ob e=>by
  obtain⟨_,_,hfree⟩:=ha
  refine(I.jg b ob e).sd (fun c w' hc q=>(hs.2 c ?_).trans q) (fun _ q=>q) fun _ _ q=>q
  rintro rfl
  rcases hc with rfl | hc
  ·rw[hfree] at e;cases e
  ·rw[hfree] at hc;cases hc
 rcases hx with hk | hk
 ·refine wpAny_storeName_local hk hn (fun h' hn' hs=>?_) hcls
  obtain⟨oL,_,_,hoL,_⟩:=id hn
  refine h _ ⟨I.ok,I.os,I.bare,⟨fun b o e n hb hx=>?_,fun b o e n hb hx=>?_,I.base.free,fun b o e hx=>?_,I.base.lW,I.base.ua,I.base.rK⟩,⟨_,hn',fun j y v' e1 e2 e3=>?_⟩,fun y c e=>?_,I.free,I.gX,fun p hp=>?_,tracked ⟨oL,hoL,I.free⟩ hs,by simpa using I.len⟩ ⟨_,hs,.inl rfl⟩
  ·exact(hs.2 b (Nat.ne_of_lt (Nat.lt_of_lt_of_le (Heap.lt_size e) I.ok.above))).trans (I.base.keep b o e n hb hx)
  ·obtain⟨sl,e1⟩:=I.base.slot b o e n hb hx
   exact⟨sl,(hs.2 b (Nat.ne_of_lt (Nat.lt_of_lt_of_le (Heap.lt_size e) I.ok.above))).trans e1⟩
  ·obtain⟨o',e1⟩:=I.base.there b o e hx
   exact⟨o',(hs.2 b (Nat.ne_of_lt (Nat.lt_of_lt_of_le (Heap.lt_size e) I.ok.above))).trans e1⟩
  ·by_cases hj:j=i
   ·subst hj
    rw[hi] at e1;cases e1
    rw[List.getElem?_set_self hiσ] at e2
    cases e2
    exact⟨u,r,.inl ⟨hk,by simp⟩⟩
   ·rw[List.getElem?_set_ne (Ne.symm hj)] at e2
    obtain⟨u',r',q⟩:=hl j y v' e1 e2 e3
    refine⟨u',r',?_⟩
    rcases q with ⟨k,e⟩ | ⟨k,c,e,z⟩
    ·refine .inl ⟨k,?_⟩
     have:y≠x:=fun e=>hj (cc hN e1 (e▸hi))
     simp [this,e]
    ·exact .inr ⟨k,c,e,z.sameBut hs (Kx y c e)⟩
  ·obtain⟨w',z⟩:=I.cell y c e
   exact⟨w',z.sameBut hs (Kx y c e)⟩
  ·obtain⟨e,n,ne,nf,d⟩:=I.pin p hp
   exact⟨(hs.2 p.1 ne).trans e,n,ne,nf,d⟩
 ·have hfn:X.fn x=true:=by
   rcases hf with z | z
   ·exact z
   ·rw[z] at hk;cases hk
  obtain⟨c,hc⟩:=I.ok.has x (.inl hk)
  obtain⟨w',z⟩:=I.cell x c hc
  refine wpAny_storeName_cell I.ok.kind hk hc z (fun h' hc' hs=>?_)
  obtain⟨oc,hoc,hocd⟩:=id z
  refine h { s with heap:=h' } ⟨I.ok,I.os,I.bare,⟨fun b o e n hb hx=>?_,fun b o e n hb hx=>?_,I.base.free,fun b o e hx=>?_,I.base.lW,I.base.ua,I.base.rK⟩,⟨m,hn.sameBut hs (Ne.symm (Kx x c hc)),fun j y v' e1 e2 e3=>?_⟩,fun y c' e=>?_,I.free,I.gX,fun p hp=>?_,tracked ⟨oc,hoc,I.gX x c hc⟩ hs,by simpa using I.len⟩ ⟨c,hs,.inr hc⟩
  ·exact(hs.2 b (Nat.ne_of_lt (Nat.lt_of_lt_of_le (Heap.lt_size e) (I.ok.VO x c hfn hc)))).trans (I.base.keep b o e n hb hx)
  ·obtain⟨sl,e1⟩:=I.base.slot b o e n hb hx
   exact⟨sl,(hs.2 b (Nat.ne_of_lt (Nat.lt_of_lt_of_le (Heap.lt_size e) (I.ok.VO x c hfn hc)))).trans e1⟩
  ·obtain⟨o',e1⟩:=I.base.there b o e hx
   exact⟨o',(hs.2 b (Nat.ne_of_lt (Nat.lt_of_lt_of_le (Heap.lt_size e) (I.ok.VO x c hfn hc)))).trans e1⟩
  ·by_cases hj:j=i
   ·subst hj
    rw[hi] at e1;cases e1
    rw[List.getElem?_set_self hiσ] at e2
    cases e2
    exact⟨u,r,.inr ⟨.inl hk,c,hc,hc'⟩⟩
   ·rw[List.getElem?_set_ne (Ne.symm hj)] at e2
    obtain⟨u',r',q⟩:=hl j y v' e1 e2 e3
    refine⟨u',r',?_⟩
    rcases q with q | ⟨k,c',e,z'⟩
    ·exact .inl q
    ·refine .inr ⟨k,c',e,z'.sameBut hs ?_⟩
     rintro rfl
     exact hj (cc hN e1 (I.ok.inj _ _ _ e hc▸hi))
  ·by_cases hcc:c'=c
   ·subst hcc;exact⟨_,hc'⟩
   ·obtain⟨w2,z2⟩:=I.cell y c' e
    exact⟨w2,z2.sameBut hs hcc⟩
  ·obtain⟨e,n,ne,nf,d⟩:=I.pin p hp
   refine⟨(hs.2 p.1 ?_).trans e,n,ne,nf,d⟩
   intro q
   rw[q,hoc] at e
   have q':oc=p.2:=Option.some.inj e
   exact d w' (by rw[←q'];exact hocd)
theorem cz {M:Model} {A:Around} {E:Value→Shared→Prop} {i:Nat} {x:Str} {v:V} {u:Value} {Q:Unit→Shared→Prop} (I:Inv X pins σ H s) (hN:X.N.Nodup) (hi:X.N[i]?=some x) (hx:Loc X.env.scope x) (r:RelV v u)
  (h:∀s',Inv X pins (σ.set i (some v)) H s'→Q () s') (hf:X.fn x=true∨X.env.scope.names.lookup x=some .local:=by first | exact .inl rfl | exact .inr rfl | assumption):wpAny M A (storeName X.env x u) Q E s:=
 aL I hN hi hx r (fun s' I' _=>h s' I') hf
theorem Inv.Qf {s':Shared} {ch:List Addr} (I:Inv X pins σ H s) (ho:s'.os=s.os) (u:Un (nW X.stack) ch H H' s.heap s'.heap) (jg:gF X.prog X.w H' s'.heap) (hg:AllBare s'.gens)
  (hch:∀b∈ch,(b∈X.ex∨X.s₀.heap.objs.size≤b)∧b≠X.env.locals∧(∀x c,X.env.cells.lookup x=some c→c≠b)∧∀p∈X.pn ++ pins,p.1≠b):Inv X pins σ H' s':=by
 obtain⟨h',g',d',t',o'⟩:=s'
 have e:o'=s.os:=ho
 subst e
 exact I.call (g':=g') (t':=t') (d':=d') u jg hg hch
end
noncomputable abbrev XK:=Value→Option Addr→Hp→Prop
noncomputable abbrev St:=List (Option V)
noncomputable abbrev VK:=V→Hp→Prop
noncomputable abbrev TE:=St→Hp→VK→Prop
noncomputable abbrev TT:=St→Hp→(Bool→Hp→Prop)→Prop
noncomputable abbrev TA:=St→Hp→(List V→Hp→Prop)→Prop
structure Ends where
 nx:St→Hp→Prop
 rt:VK
 bk:St→Hp→Prop:=fun _ _=>False
 ct:St→Hp→Prop:=fun _ _=>False
noncomputable abbrev TS:=Ends→St→Hp→Prop
noncomputable def EP (X:Cx) (pins:List (Addr × Obj)) (σ:St) (Q:VK) (u:Value) (s':Shared):Prop:=∃v H',Inv X pins σ H' s'∧RelV v u∧Q v H'
noncomputable def TP (X:Cx) (pins:List (Addr × Obj)) (σ:St) (Q:Bool→Hp→Prop) (b:Bool) (s':Shared):Prop:=∃H',Inv X pins σ H' s'∧Q b H'
noncomputable def AP (X:Cx) (pins:List (Addr × Obj)) (σ:St) (Q:List V→Hp→Prop) (us:List Value) (s':Shared):Prop:=∃vs H',Inv X pins σ H' s'∧Vals vs us∧Q vs H'
noncomputable def SP (X:Cx) (pins:List (Addr × Obj)) (D:Ends) (f:Flow) (s':Shared):Prop:=
 match f with
 | .next=>∃σ' H',Inv X pins σ' H' s'∧D.nx σ' H'
 | .brk=>∃σ' H',Inv X pins σ' H' s'∧D.bk σ' H'
 | .cont=>∃σ' H',Inv X pins σ' H' s'∧D.ct σ' H'
 | .ret u=>∃v σ' H',Inv X pins σ' H' s'∧RelV v u∧D.rt v H'
noncomputable def PE (X:Cx) (e:Expr) (t:TE):Prop:=
 ∀(pins:List (Addr × Obj)) (s:Shared) (σ:St) (H:Hp) (Q:VK),Inv X pins σ H s→t σ H Q→wpAny (model X.prog X.w) X.A (eval e X.env) (EP X pins σ Q) X.xe s
noncomputable def PT (X:Cx) (e:Expr) (t:TT):Prop:=
 ∀(pins:List (Addr × Obj)) (s:Shared) (σ:St) (H:Hp) (Q:Bool→Hp→Prop),Inv X pins σ H s→t σ H Q→wpAny (model X.prog X.w) X.A (isTrue e X.env (eval e X.env)) (TP X pins σ Q) X.xe s
noncomputable def PW (X:Cx) (e:Expr) (t:TT):Prop:=
 ∀(whole:Sem Value) (pins:List (Addr × Obj)) (s:Shared) (σ:St) (H:Hp) (Q:Bool→Hp→Prop),Inv X pins σ H s→t σ H Q→wpAny (model X.prog X.w) X.A (isTrue e X.env whole) (TP X pins σ Q) X.xe s
theorem PW.pt {X:Cx} {e:Expr} {t:TT} (h:PW X e t):PT X e t:=h _
noncomputable def PA (X:Cx) (es:List Expr) (t:TA):Prop:=
 ∀(pos:Pos) (pins:List (Addr × Obj)) (s:Shared) (σ:St) (H:Hp) (Q:List V→Hp→Prop),Inv X pins σ H s→t σ H Q→wpAny (model X.prog X.w) X.A (spliced (backTo pos (starEach es X.env))) (AP X pins σ Q) X.xe s
noncomputable def PS (X:Cx) (st:Stmt) (t:TS):Prop:=
 ∀(pins:List (Addr × Obj)) (s:Shared) (σ:St) (H:Hp) (D:Ends),Inv X pins σ H s→t D σ H→wpAny (model X.prog X.w) X.A (exec st X.env) (SP X pins D) X.xe s
noncomputable def eu (X:Cx) (st:List Stmt) (t:TS):Prop:=
 ∀(pins:List (Addr × Obj)) (s:Shared) (σ:St) (H:Hp) (D:Ends),Inv X pins σ H s→t D σ H→wpAny (model X.prog X.w) X.A (execs st X.env) (SP X pins D) X.xe s
theorem j5 {α:Type} {t:Sem α} {Q Q':α→Shared→Prop} {M:Model} {A:Around} {E:Value→Shared→Prop} {s:Shared} (h:wpAny M A t Q E s) (hQ:∀a s,Q a s→Q' a s):wpAny M A t Q' E s:=wpAny_mono h hQ fun _ _ x=>x
end L2
namespace L2
open PySem PySem.Spec PyProof.Rows
section
variable {X:Cx}
theorem bin {a b:Expr} {ta tb:TE} (ha:PE X a ta) (hb:PE X b tb) {pins:List (Addr × Obj)} {s:Shared} {σ:St} {H:Hp} {R:V→V→Hp→Prop} (I:Inv X pins σ H s) (h:ta σ H fun x H1=>tb σ H1 fun y H2=>R x y H2)
  {α:Type} {Q:α→Shared→Prop} {f:Value→Value→Sem α}
  (hf:∀v u s2 x y H2,Inv X pins σ H2 s2→RelV x v→RelV y u→R x y H2→wpAny (model X.prog X.w) X.A (f v u) Q X.xe s2) :
  wpAny (model X.prog X.w) X.A (eval a X.env) (fun v s₁=>wpAny (model X.prog X.w) X.A (eval b X.env) (fun u s₂=>wpAny (model X.prog X.w) X.A (f v u) Q X.xe s₂) X.xe s₁) X.xe s:=by
 refine j5 (ha pins s σ H _ I h) fun v s1 ⟨x,H1,I1,r1,q1⟩=>?_
 refine j5 (hb pins s1 σ H1 _ I1 q1) fun u s2 ⟨y,H2,I2,r2,q2⟩=>?_
 exact hf v u s2 x y H2 I2 r1 r2 q2
noncomputable def Vf (i:Nat):TE:=fun σ H Q=>∃v,σ[i]?=some (some v)∧Q v H
noncomputable def tC (v:V):TE:=fun _ H Q=>Q v H
theorem Vx {i:Nat} {x:Str} {pos:Pos} (hN:X.N[i]?=some x) (hv:YK X.env.scope x) (hd:(x == ("__debug__" : Str))=false:=by decide) (hcd:(x == ("__classdict__" : Str))=false:=by decide):PE X (.Name x pos) (Vf i):=by
 intro pins s σ H Q I h
 obtain⟨v,e,h⟩:=h
 obtain⟨m,hn,hl⟩:=I.loc
 obtain⟨u,r,l⟩:=hl i x v hN e hv
 have fin:EP X pins σ Q u s:=⟨v,H,I,r,h⟩
 rcases l with ⟨hk,hm⟩ | ⟨hk,c,hc,hcell⟩
 ·exact wpAny_Name (wpAny_loadName_local I.ok.kind hk hn hm fin) hd
 ·rcases hk with hk | hk
  ·exact wpAny_Name (wpAny_loadName_cell I.ok.kind hk hc hcell fin) hd
  ·exact wpAny_Name (wpAny_loadName_free I.ok.kind hk hc hcell fin hcd) hd
theorem z7 {i j pos}:PE X (.Constant (.int i) j pos) (tC (.int i)):=fun _ _ _ H _ I h=>wpAny_Constant_int ⟨.int i,H,I.tok _,⟨_,rfl⟩,h⟩
theorem vX {b j pos}:PE X (.Constant (.bool b) j pos) (tC (.bl b)):=fun _ _ _ H _ I h=>Constant_bool ⟨.bl b,H,I,rfl,h⟩
theorem y9 {j pos}:PE X (.Constant .none j pos) (tC .non):=fun _ _ _ H _ I h=>Constant_none ⟨.non,H,I,rfl,h⟩
theorem qq {x j pos}:PE X (.Constant (.str x) j pos) (tC (.str x)):=fun _ _ _ H _ I h=>Calls.Constant_str ⟨.str x,H,I.tok _,⟨_,rfl⟩,h⟩
noncomputable def Gl (X:Cx) (x:Str):Prop:=X.env.kindOf x=some .globalImplicit
theorem bU {E:Value→Shared→Prop} {pins:List (Addr × Obj)} {s:Shared} {σ:St} {H:Hp} {x:Str} {u:Value} {pos:Pos} {Q:Value→Shared→Prop} (I:Inv X pins σ H s) (hg:Gl X x) (hm:X.mg x=some u) (h:Q u s)
  (hd:(x == ("__debug__" : Str))=false:=by decide):wpAny (model X.prog X.w) X.A (eval (.Name x pos) X.env) Q E s:=
 Calls.Name_function_global I.ok.kind hg (Calls.loadGlobal_global (by rw[I.ok.glob];exact I.mod.glob.keeps I.bk) hm h) hd
theorem mX {E:Value→Shared→Prop} {pins:List (Addr × Obj)} {s:Shared} {σ:St} {H:Hp} {x:Str} {u:Value} {pos:Pos} {Q:Value→Shared→Prop} (I:Inv X pins σ H s) (hg:Gl X x) (hm:X.mg x=none) (hv:bootBuiltins x=some u) (h:Q u s)
  (hn:x≠"__name__":=by decide) (hd:(x == ("__debug__" : Str))=false:=by decide):wpAny (model X.prog X.w) X.A (eval (.Name x pos) X.env) Q E s:=by
 obtain⟨mb,h1,h2⟩:=I.mod.blt
 exact Calls.Name_function_global I.ok.kind hg (Calls.loadGlobal_builtin (by rw[I.ok.glob];exact I.mod.glob.keeps I.bk) hm (by rw[I.ok.blt];exact h1.keeps I.bk) ((h2 x hn).trans hv) h) hd
theorem jh {x:Str} {v:V} {u:Value} {pos:Pos} (hg:Gl X x) (hm:X.mg x=some u) (r:RelV v u) (hd:(x == ("__debug__" : Str))=false:=by decide):PE X (.Name x pos) (tC v):=
 fun _ _ _ H _ I h=>bU I hg hm ⟨v,H,I,r,h⟩ hd
theorem fY {x:Str} {v:V} {u:Value} {pos:Pos} (hg:Gl X x) (hm:X.mg x=none) (hv:bootBuiltins x=some u) (r:RelV v u) (hn:x≠"__name__":=by decide) (hd:(x == ("__debug__" : Str))=false:=by decide):PE X (.Name x pos) (tC v):=
 fun _ _ _ H _ I h=>mX I hg hm hv ⟨v,H,I,r,h⟩ hn hd
noncomputable def Wo (ta tb:TE) (k:Int→Int→Hp→Prop):St→Hp→Prop:=fun σ H=>ta σ H fun x H1=>tb σ H1 fun y H2=>∃i j,x=.int i∧y=.int j∧k i j H2
noncomputable def GB (ta tb:TE):TE:=fun σ H Q=>Wo ta tb (fun i j H2=>Q (.int (i + j)) H2) σ H
noncomputable def Ge (ta tb:TE):TE:=fun σ H Q=>Wo ta tb (fun i j H2=>Q (.int (i - j)) H2) σ H
noncomputable def GW (ta tb:TE):TE:=fun σ H Q=>Wo ta tb (fun i j H2=>(-(2 ^ 64) < i∧i < 2 ^ 64)∧Q (.int (i * j)) H2) σ H
variable {a b:Expr} {ta tb:TE} {pos:Pos}
noncomputable def PC (X:Cx) (op:CmpOp) (a b:Expr) (t:TE):Prop:=
 ∀(pins:List (Addr × Obj)) (s:Shared) (σ:St) (H:Hp) (Q:VK),Inv X pins σ H s→t σ H Q→
  wpAny (model X.prog X.w) X.A (eval a X.env) (fun v s₁=>wpAny (model X.prog X.w) X.A (eval b X.env) (fun u s₂=>wpAny (model X.prog X.w) X.A (compareOp op v u) (EP X pins σ Q) X.xe s₂) X.xe s₁) X.xe s
noncomputable def Zz (p:Int→Int→Bool) (ta tb:TE):TE:=fun σ H Q=>Wo ta tb (fun i j H2=>Q (.bl (p i j)) H2) σ H
noncomputable abbrev G8:TE→TE→TE:=Zz fun i j=>decide (i < j)
noncomputable abbrev Hj:TE→TE→TE:=Zz fun i j=>decide (i≤j)
noncomputable abbrev Hz:TE→TE→TE:=Zz fun i j=>decide (j < i)
noncomputable abbrev G6:TE→TE→TE:=Zz fun i j=>decide (j≤i)
noncomputable abbrev Gy:TE→TE→TE:=Zz fun i j=>decide (i=j)
noncomputable abbrev G1:TE→TE→TE:=Zz fun i j=>!decide (i=j)
noncomputable def GU (ta:TE):TE:=fun σ H Q=>ta σ H fun x H1=>Q (.bl (decide (x=.non))) H1
noncomputable def Y3 (ta:TE):TE:=fun σ H Q=>ta σ H fun x H1=>Q (.bl (!decide (x=.non))) H1
noncomputable def tB (t:TE):TT:=fun σ H Q=>t σ H fun x H1=>∃c,x=.bl c∧Q c H1
theorem QQ {op:CmpOp} {t:TE} (h:PC X op a b t) (h1:behindInMarks op b=false:=by first | exact nobehind _ (by decide) (by decide) | rfl):PT X (.Compare a [op] [b] pos) (tB t):=by
 intro pins s σ H Q I hw
 refine wpAny_isTrue_Compare1 (j5 (h pins s σ H _ I hw) fun v s1 h1=>j5 h1 fun u s2 h2=>j5 h2 fun c s3 ⟨x,H1,I1,r1,q1⟩=>?_) h1
 obtain⟨d,rfl,q⟩:=q1
 cases r1
 exact wpAny_truthy_bool ⟨H1,I1,q⟩
theorem ja {e:Expr} {t:TE} (h:PE X e t) (he:∀whole,isTrue e X.env whole=(do let v ←whole;standAt e.pos;holding [v] (truthy v)):=by intro _;rfl):PT X e (tB t):=by
 intro pins s σ H Q I hw
 refine isTrue_plain (j5 (h pins s σ H _ I hw) fun v s1 ⟨x,H1,I1,r1,q1⟩=>?_) (he _)
 obtain⟨d,rfl,q⟩:=q1
 cases r1
 exact wpAny_truthy_bool ⟨H1,I1,q⟩
variable {tA tB':TT} {rest:List Expr}
noncomputable def WN (t u:TT):TT:=fun σ H Q=>t σ H fun c H1=>if c=true then u σ H1 Q else Q false H1
noncomputable def Gm (t u:TT):TT:=fun σ H Q=>t σ H fun c H1=>if c=true then Q true H1 else u σ H1 Q
noncomputable def WA (t:TT):TT:=fun σ H Q=>t σ H fun c H1=>Q (!c) H1
theorem dG (ha:PT X a tA):PW X (.BoolOp .And [a] pos) tA:=by
 intro wh pins s σ H Q I h
 refine isTrue_and (j5 (ha pins s σ H Q I h) fun c s1 e=>?_)
 cases c with
 | true=>exact isTrue_and_nil e
 | false=>exact e
theorem k7 (ha:PT X a tA):PW X (.BoolOp .Or [a] pos) tA:=by
 intro wh pins s σ H Q I h
 refine isTrue_or (j5 (ha pins s σ H Q I h) fun c s1 e=>?_)
 cases c with
 | false=>exact isTrue_or_nil e
 | true=>exact e
theorem rS (ha:PT X a tA) (hb:PW X (.BoolOp .And (b :: rest) pos) tB'):PW X (.BoolOp .And (a :: b :: rest) pos) (WN tA tB'):=by
 intro wh pins s σ H Q I h
 refine isTrue_and (j5 (ha pins s σ H _ I h) fun c s1 ⟨H1,I1,q1⟩=>?_)
 cases c with
 | true=>exact hb wh pins s1 σ H1 Q I1 q1
 | false=>exact⟨H1,I1,q1⟩
theorem vJ (ha:PT X a tA) (hb:PW X (.BoolOp .Or (b :: rest) pos) tB'):PW X (.BoolOp .Or (a :: b :: rest) pos) (Gm tA tB'):=by
 intro wh pins s σ H Q I h
 refine isTrue_or (j5 (ha pins s σ H _ I h) fun c s1 ⟨H1,I1,q1⟩=>?_)
 cases c with
 | true=>exact⟨H1,I1,q1⟩
 | false=>exact hb wh pins s1 σ H1 Q I1 q1
theorem kd (ha:PT X a tA):PT X (.UnaryOp .Not a pos) (WA tA):=by
 intro pins s σ H Q I h
 exact isTrue_not (ha pins s σ H (fun c H1=>Q (!c) H1) I h)
noncomputable def VA (ta tb:TE):TE:=fun σ H Q=>ta σ H fun x H1=>∃c,x=.bl c∧if c=true then tb σ H1 Q else Q (.bl false) H1
noncomputable def W3 (ta tb:TE):TE:=fun σ H Q=>ta σ H fun x H1=>∃c,x=.bl c∧if c=true then Q (.bl true) H1 else tb σ H1 Q
noncomputable def Y7 (ta:TE):TE:=fun σ H Q=>ta σ H fun x H1=>∃c,x=.bl c∧Q (.bl (!c)) H1
theorem rG {op} {t:TE} (h:PE X a t):PE X (.BoolOp op [a] pos) t:=fun pins s σ H Q I hw=>BoolOp_one (h pins s σ H Q I hw)
theorem nC (ha:PE X a ta) (hb:PE X (.BoolOp .And (b :: rest) pos) tb):PE X (.BoolOp .And (a :: b :: rest) pos) (VA ta tb):=by
 intro pins s σ H Q I h
 refine BoolOp_and (j5 (ha pins s σ H _ I h) fun v s1 ⟨x,H1,I1,r1,q1⟩=>?_)
 obtain⟨c,rfl,q1⟩:=q1
 cases r1
 refine wpAny_truthy_bool ?_
 cases c with
 | true=>exact hb pins s1 σ H1 Q I1 q1
 | false=>exact⟨.bl false,H1,I1,rfl,q1⟩
theorem VZ (ha:PE X a ta) (hb:PE X (.BoolOp .Or (b :: rest) pos) tb):PE X (.BoolOp .Or (a :: b :: rest) pos) (W3 ta tb):=by
 intro pins s σ H Q I h
 refine BoolOp_or (j5 (ha pins s σ H _ I h) fun v s1 ⟨x,H1,I1,r1,q1⟩=>?_)
 obtain⟨c,rfl,q1⟩:=q1
 cases r1
 refine wpAny_truthy_bool ?_
 cases c with
 | false=>exact hb pins s1 σ H1 Q I1 q1
 | true=>exact⟨.bl true,H1,I1,rfl,q1⟩
noncomputable def Hk (t:TT) (ta tb:TE):TE:=fun σ H Q=>t σ H fun c H1=>if c=true then ta σ H1 Q else tb σ H1 Q
end
end L2
namespace L2
open PySem PySem.Spec PyProof.Rows
noncomputable def qI (K:PySem.W.Frag) (H:Hp) (a:Addr) (xs:List V):Prop:=
 Rd H a (.lst xs)∨
  ∃(o:Obj) (its:Array Value) (n:Nat),K.lookup a=some o∧o.cls=.type "list"∧o.dict=none∧o.data=.seq its n∧its.size≤sizeLine∧Vals xs its.toList
noncomputable def yT (K:PySem.W.Frag) (H:Hp) (a:Addr) (xs:List V):Prop:=
 Rd H a (.tup xs)∨
  ∃(o:Obj) (its:Array Value) (n:Nat),K.lookup a=some o∧o.cls=.type "tuple"∧o.data=.seq its n∧its.size≤sizeLine∧Vals xs its.toList
noncomputable def WI:Value→Option V
 | .none=>some .non
 | .bool b=>some (.bl b)
 | .int i _=>some (.int i)
 | .str x _=>some (.str x)
 | .bytes b _=>some (.byt b)
 | .float b _=>some (.flt b)
 | .ref a=>some (.ref a)
 | .type n=>some (.ty n)
 | _=>none
theorem RelV.abs {x:V} {u:Value} (r:RelV x u):WI u=some x:=by
 cases x with
 | non=>cases r;rfl
 | bl _=>cases r;rfl
 | int _=>obtain⟨t,rfl⟩:=r;rfl
 | str _=>obtain⟨t,rfl⟩:=r;rfl
 | byt _=>obtain⟨t,rfl⟩:=r;rfl
 | flt _=>obtain⟨t,rfl⟩:=r;rfl
 | ref _=>cases r;rfl
 | ty _=>cases r;rfl
theorem RelV.inj {x y:V} {u:Value} (r:RelV x u) (q:RelV y u):x=y:=Option.some.inj (r.abs.symm.trans q.abs)
theorem Vals.inj:∀{xs ys:List V} {us:List Value},Vals xs us→Vals ys us→xs=ys
 | _,_,_,.nil,.nil=>rfl
 | _,_,_,.cons r t,.cons r' t'=>by rw[r.inj r',Vals.inj t t']
section
variable {X:Cx} {pins:List (Addr × Obj)} {σ:St} {H:Hp} {s:Shared} {a:Addr} {xs ys:List V}
theorem qI.of {K:PySem.W.Frag} (h:H a=some (.lst xs)):qI K H a xs:=.inl (.inl h)
theorem yT.of {K:PySem.W.Frag} (h:H a=some (.tup xs)):yT K H a xs:=.inl (.inl h)
theorem Inv.list (I:Inv X pins σ H s) (h:qI X.K H a xs):∃its:List Value,Vals xs its∧PlainL s.heap a its.toArray∧xs.length≤sizeLine:=by
 rcases h with h | ⟨o,its,n,hk,hc,hd,hs,hz,r⟩
 ·obtain⟨z,its,n,r,e⟩:=h.ok I.jg
  exact⟨its,r,⟨_,n,e,rfl,rfl,rfl⟩,z⟩
 ·refine⟨its.toList,r,⟨o,n,I.gP a o hk,hc,hd,by simpa using hs⟩,?_⟩
  have e:=r.length
  simp only[Array.length_toList] at e
  omega
theorem Inv.tuple (I:Inv X pins σ H s) (h:yT X.K H a xs):∃its:List Value,Vals xs its∧IsTup s.heap a its.toArray∧xs.length≤sizeLine:=by
 rcases h with h | ⟨o,its,n,hk,hc,hs,hz,r⟩
 ·obtain⟨z,its,r,p⟩:=h.ok I.jg
  exact⟨its,r,p,z⟩
 ·refine⟨its.toList,r,⟨o,I.gP a o hk,hc,n,by simpa using hs⟩,?_⟩
  have e:=r.length
  simp only[Array.length_toList] at e
  omega
theorem Inv.d6 (I:Inv X pins σ H s) (h:qI X.K H a xs) (h':qI X.K H a ys):xs=ys:=by
 obtain⟨its,r,⟨o,n,e,_,_,d⟩,_⟩:=I.list h
 obtain⟨its',r',⟨o',n',e',_,_,d'⟩,_⟩:=I.list h'
 rw[e] at e';cases e'
 rw[d] at d'
 injection d' with d1 _
 have:its=its':=by simpa using congrArg Array.toList d1
 subst this
 exact r.inj r'
end
noncomputable abbrev Cx.uQ (X:Cx) (E:Value→Shared→Prop):Cx:={ X with xe:=E }
noncomputable abbrev Cx.Wl (X:Cx):Cx:=X.uQ fun _ _=>False
theorem Cx.Ok.uQ {X:Cx} (ok:X.Ok) (E:Value→Shared→Prop):(X.uQ E).Ok:=
 ⟨ok.mod,ok.kind,ok.glob,ok.blt,ok.above,ok.inj,ok.has,ok.VO,ok.hd,ok.frames,ok.Wu,ok.Vp,ok.bs,ok.Zx,ok.aS,ok.aI,ok.dw,ok.KO⟩
theorem Cx.Ok.bG {X:Cx} {E:Value→Shared→Prop} (ok:(X.uQ E).Ok):X.Ok:=
 ⟨ok.mod,ok.kind,ok.glob,ok.blt,ok.above,ok.inj,ok.has,ok.VO,ok.hd,ok.frames,ok.Wu,ok.Vp,ok.bs,ok.Zx,ok.aS,ok.aI,ok.dw,ok.KO⟩
section
variable {X:Cx} {pins:List (Addr × Obj)} {σ:St} {H:Hp} {s:Shared} {E:Value→Shared→Prop}
theorem Inv.uQ (I:Inv X pins σ H s) (E:Value→Shared→Prop):Inv (X.uQ E) pins σ H s:=⟨I.ok.uQ E,I.os,I.bare,I.base,I.loc,I.cell,I.free,I.gX,I.pin,I.jg,I.len⟩
theorem Inv.bG (I:Inv (X.uQ E) pins σ H s):Inv X pins σ H s:=⟨I.ok.bG,I.os,I.bare,I.base,I.loc,I.cell,I.free,I.gX,I.pin,I.jg,I.len⟩
theorem SP.bG {D:Ends} {f:Flow} {s':Shared} (h:SP (X.uQ E) pins D f s'):SP X pins D f s':=by
 cases f with
 | next=>obtain⟨σ',H',I,q⟩:=h;exact⟨σ',H',I.bG,q⟩
 | brk=>obtain⟨σ',H',I,q⟩:=h;exact⟨σ',H',I.bG,q⟩
 | cont=>obtain⟨σ',H',I,q⟩:=h;exact⟨σ',H',I.bG,q⟩
 | ret u=>obtain⟨v,σ',H',I,r,q⟩:=h;exact⟨v,σ',H',I.bG,r,q⟩
theorem eu.Wl {st:List Stmt} {t:TS} (h:eu X.Wl st t):eu X st t:=fun pins s σ H D I hw=>
 wpAny_mono (h pins s σ H D (I.uQ _) hw) (fun _ _ q=>q.bG) fun _ _ z=>False.elim z
end
section
variable {X:Cx} {st:Stmt} {rest:List Stmt} {t u:TS} {e:Expr} {te:TE} {pos:Pos}
noncomputable def Vl:TS:=fun D σ H=>D.nx σ H
noncomputable def YQ (t u:TS):TS:=fun D σ H=>t { D with nx:=u D } σ H
theorem qp:eu X [] Vl:=fun _ _ σ H _ I h=>wpAny_execs_nil ⟨σ,H,I,h⟩
theorem z6 (h1:PS X st t) (h2:eu X rest u):eu X (st :: rest) (YQ t u):=by
 intro pins s σ H D I h
 refine wpAny_execs_cons (j5 (h1 pins s σ H { D with nx:=u D } I h) fun f s1 q=>?_)
 cases f with
 | next=>
  obtain⟨σ',H',I',q⟩:=q
  exact h2 pins s1 σ' H' D I' q
 | ret v=>exact q
 | brk=>exact q
 | cont=>exact q
theorem z8 (h1:PS X st t):eu X [st] t:=by
 intro pins s σ H D I h
 refine wpAny_execs_cons (j5 (h1 pins s σ H D I h) fun f s1 q=>?_)
 cases f with
 | next=>exact wpAny_execs_nil q
 | ret v=>exact q
 | brk=>exact q
 | cont=>exact q
noncomputable def Vk:TS:=fun D σ H=>D.bk σ H
noncomputable def YO:TS:=fun D σ H=>D.ct σ H
theorem QR:PS X (.Break pos) Vk:=fun _ _ σ H _ I h=>wpAny_Break ⟨σ,H,I,h⟩
theorem Inv.quiet {pins:List (Addr × Obj)} {σ:St} {H:Hp} {s:Shared} (I:Inv X pins σ H s):interactive X.env=false:=by simp [interactive,I.ok.kind]
noncomputable def Wm (te:TE):TS:=fun D σ H=>te σ H fun _ H1=>D.nx σ H1
theorem j0 (he:PE X e te) (hs:swapsWith e none pos.line X.env=pure false:=by rfl):PS X (.Expr e pos) (Wm te):=by
 intro pins s σ H D I h
 exact wpAny_Expr_any (j5 (he pins s σ H _ I h) fun v s1 ⟨x,H1,I1,r1,q1⟩=>⟨σ,H1,I1,q1⟩) I.quiet hs
noncomputable def Yj (te:TE):TS:=fun D σ H=>te σ H D.rt
theorem qw (he:PE X e te):PS X (.Return (some e) pos) (Yj te):=by
 intro pins s σ H D I h
 exact wpAny_Return_some (j5 (he pins s σ H _ I h) fun v s1 ⟨x,H1,I1,r1,q1⟩=>⟨x,σ,H1,I1,r1,q1⟩)
noncomputable def Gx:TS:=fun D _ H=>D.rt .non H
noncomputable def YF (c:TT) (t u:TS):TS:=fun D σ H=>c σ H fun b H1=>if b=true then t D σ H1 else u D σ H1
theorem qG {c:Expr} {a b:List Stmt} {tc:TT} (hc:PT X c tc) (ha:eu X a t) (hb:eu X b u):PS X (.If c a b pos) (YF tc t u):=by
 intro pins s σ H D I h
 refine wpAny_If (j5 (hc pins s σ H _ I h) fun d s1 ⟨H1,I1,q1⟩=>?_)
 cases d with
 | true=>exact ha pins s1 σ H1 D I1 q1
 | false=>exact hb pins s1 σ H1 D I1 q1
noncomputable def Yk:TS:=fun _ _ _=>False
end
noncomputable abbrev TG:=V→St→Hp→(St→Hp→Prop)→Prop
noncomputable abbrev Xu:=List V→St→Hp→(St→Hp→Prop)→Prop
noncomputable def PG (X:Cx) (target:Expr) (t:TG):Prop:=
 ∀(pins:List (Addr × Obj)) (s:Shared) (σ:St) (H:Hp) (v:V) (u:Value) (Q:St→Hp→Prop),Inv X pins σ H s→RelV v u→t v σ H Q→
  wpAny (model X.prog X.w) X.A (assign target X.env u) (fun _ s'=>∃σ' H',Inv X pins σ' H' s'∧Q σ' H') X.xe s
noncomputable def Vh (X:Cx) (ts:List Expr) (t:Xu):Prop:=
 ∀(pins:List (Addr × Obj)) (s:Shared) (σ:St) (H:Hp) (vs:List V) (us:List Value) (Q:St→Hp→Prop),Inv X pins σ H s→Vals vs us→t vs σ H Q→
  wpAny (model X.prog X.w) X.A (assignInOrder ((assignEach ts X.env).map (·.2)) us) (fun _ s'=>∃σ' H',Inv X pins σ' H' s'∧Q σ' H') X.xe s
noncomputable abbrev Jm:=V→V→V→Hp→(Hp→Prop)→Prop
noncomputable def Wy (X:Cx) (t:Jm):Prop:=
 ∀(pins:List (Addr × Obj)) (s:Shared) (σ:St) (H:Hp) (o i v:V) (ov iv u:Value) (Q:Hp→Prop),Inv X pins σ H s→RelV o ov→RelV i iv→RelV v u→t o i v H Q→
  wpAny (model X.prog X.w) X.A (setItem ov iv u) (fun _ s'=>∃H',Inv X pins σ H' s'∧Q H') X.xe s
noncomputable abbrev Wr:=V→V→Hp→VK→Prop
noncomputable def Hx (X:Cx) (op:Operator) (t:Wr):Prop:=
 ∀(pins:List (Addr × Obj)) (s:Shared) (σ:St) (H:Hp) (x y:V) (v u:Value) (Q:VK),Inv X pins σ H s→RelV x v→RelV y u→t x y H Q→
  wpAny (model X.prog X.w) X.A (inplaceOp op v u) (EP X pins σ Q) X.xe s
section
variable {X:Cx} {pos:Pos}
noncomputable def cg (i:Nat):TG:=fun v σ H Q=>Q (σ.set i (some v)) H
theorem kz {i:Nat} {x:Str} (hN:X.N.Nodup) (hi:X.N[i]?=some x) (hx:Loc X.env.scope x) (hf:X.fn x=true∨X.env.scope.names.lookup x=some .local:=by first | exact .inl rfl | exact .inr rfl | assumption):PG X (.Name x pos) (cg i):=by
 intro pins s σ H v u Q I r h
 exact wpAny_assign_Name (cz I hN hi hx r (fun s' I'=>⟨_,H,I',h⟩) hf)
noncomputable def V6:Xu:=fun vs σ H Q=>vs=[]∧Q σ H
noncomputable def Zp (t:TG) (u:Xu):Xu:=fun vs σ H Q=>∃v r,vs=v :: r∧t v σ H fun σ' H'=>u r σ' H' Q
theorem lC:Vh X [] V6:=by
 intro pins s σ H vs us Q I r h
 obtain⟨e,h⟩:=h
 subst e
 cases r
 exact assignInOrder_nil ⟨σ,H,I,h⟩
theorem yV {e:Expr} {es:List Expr} {t:TG} {u:Xu} (h1:PG X e t) (h2:Vh X es u)
  (hs:(assignEach (e :: es) X.env).map (·.2)=assign e X.env :: (assignEach es X.env).map (·.2):=by rfl):Vh X (e :: es) (Zp t u):=by
 intro pins s σ H vs us Q I r h
 obtain⟨v,vr,e1,h⟩:=h
 subst e1
 cases r with
 | cons r rr=>
  rw[hs]
  refine assignInOrder_cons (j5 (h1 pins s σ H _ _ _ I r h) fun _ s1 ⟨σ1,H1,I1,q1⟩=>?_)
  exact h2 pins s1 σ1 H1 _ _ Q I1 rr q1
noncomputable def KS (K:PySem.W.Frag) (n:Nat) (t:Xu):TG:=fun v σ H Q=>∃a xs,v=.ref a∧yT K H a xs∧xs.length=n∧t xs σ H Q
theorem K8 {es:List Expr} {k:Nat} {t:Xu} {n:Nat} (hc:X.calm=true) (h:Vh X es t)
  (hn:(assignEach es X.env).length=n:=by rfl) (hst:(assignEach es X.env).findIdx? (·.1)=none:=by rfl):PG X (.Tuple es k pos) (KS X.K n t):=by
 intro pins s σ H v u Q I r hw
 obtain⟨a,xs,e1,hq,hl,hw⟩:=hw
 subst e1
 cases r
 obtain⟨its,rv,ht,hz⟩:=I.tuple hq
 refine assign_Tuple_tuple (I.ok.hd hc) ht (by simp [hn,←hl,rv.length]) hst fun h' hx=>?_
 have I1:Inv X pins σ H { s with heap:=h' }:=I.kept (t':=s.toks) fun b o e=>hx b o (Nat.ne_of_lt (Heap.lt_size e)) e
 exact h pins _ σ H xs _ Q I1 (by simpa using rv) hw
noncomputable def Ym (to ti:TE) (t:Jm):TG:=fun v σ H Q=>to σ H fun o H1=>ti σ H1 fun i H2=>t o i v H2 fun H3=>Q σ H3
theorem Zr {o i:Expr} {to ti:TE} {t:Jm} (ho:PE X o to) (hi:PE X i ti) (hs:Wy X t)
  (ha:∀v,assign (.Subscript o i pos) X.env v=(do
   let ov ←holding [v] (eval o X.env)
   let iv ←holding [v,ov] (eval i X.env)
   standAt pos
   holding [v,ov,iv] (setItem ov iv v)
   release [v,ov,iv] []):=by intro _;rfl):PG X (.Subscript o i pos) (Ym to ti t):=by
 intro pins s σ H v u Q I r h
 rw[ha]
 refine wpAny_bind (wpAny_holding (j5 (ho pins s σ H _ I h) fun ov s1 ⟨x,H1,I1,r1,q1⟩=>?_))
 refine wpAny_bind (wpAny_holding (j5 (hi pins s1 σ H1 _ I1 q1) fun iv s2 ⟨y,H2,I2,r2,q2⟩=>?_))
 refine wpAny_bind (wpAny_standAt (wpAny_bind (wpAny_holding (j5 (hs pins s2 σ H2 x y v ov iv u _ I2 r1 r2 r q2) fun _ s3 ⟨H3,I3,q3⟩=>?_))))
 exact wpAny_release ⟨σ,H3,I3,q3⟩
noncomputable def X5 (te:TE) (g:TG):TS:=fun D σ H=>te σ H fun x H1=>g x σ H1 D.nx
theorem ZS {tg e:Expr} {te:TE} {g:TG} (he:PE X e te) (hg:PG X tg g) (hs:swapsWithSole [tg] e pos.line X.env=pure false:=by rfl) (hw:swappedStores [tg] e X.env=pure none:=by rfl)
  (h1:(assignEach [tg] X.env).map (·.2)=[assign tg X.env]:=by rfl):PS X (.Assign [tg] e pos) (X5 te g):=by
 intro pins s σ H D I h
 refine wpAny_Assign_stores (j5 (he pins s σ H _ I h) fun v s1 ⟨x,H1,I1,r1,q1⟩=>?_) hs hw
 rw[h1]
 exact j5 (hg pins s1 σ H1 x v _ I1 r1 q1) fun _ s2 q=>q
theorem qX {i:Nat} {x:Str} {e:Expr} {te:TE} {pos':Pos} (hN:X.N.Nodup) (hi:X.N[i]?=some x) (hx:Loc X.env.scope x) (he:PE X e te) (hs:swapsWith e (some (.Name x pos')) pos.line X.env=pure false:=by rfl) (hf:X.fn x=true∨X.env.scope.names.lookup x=some .local:=by first | exact .inl rfl | exact .inr rfl | assumption) :
  PS X (.Assign [.Name x pos'] e pos) (X5 te (cg i)):=by
 intro pins s σ H D I h
 refine wpAny_Assign_Name (j5 (he pins s σ H _ I h) fun v s1 ⟨y,H1,I1,r1,q1⟩=>?_) hs
 exact cz I1 hN hi hx r1 (fun s2 I2=>⟨_,H1,I2,q1⟩) hf
noncomputable def GF (i j:Nat) (ta:TA):TS:=fun D σ H=>ta σ H fun vs H1=>∃v w,vs=[v,w]∧D.nx ((σ.set i (some v)).set j (some w)) H1
noncomputable def Ga (i:Nat) (te:TE) (ti:Wr):TS:=fun D σ H=>∃x,σ[i]?=some (some x)∧te σ H fun y H1=>ti x y H1 fun z H2=>D.nx (σ.set i (some z)) H2
noncomputable def YI (to ti te:TE) (tget:V→V→Hp→VK→Prop) (tip:Wr) (tset:Jm):TS:=fun D σ H=>to σ H fun o H1=>ti σ H1 fun i H2=>tget o i H2 fun x H3=>te σ H3 fun y H4=>tip x y H4 fun z H5=>tset o i z H5 fun H6=>D.nx σ H6
noncomputable def Gn (X:Cx) (t:V→V→Hp→VK→Prop):Prop:=
 ∀(pins:List (Addr × Obj)) (s:Shared) (σ:St) (H:Hp) (o i:V) (ov iv:Value) (Q:VK),Inv X pins σ H s→RelV o ov→RelV i iv→t o i H Q→
  wpAny (model X.prog X.w) X.A (getItem ov iv) (EP X pins σ Q) X.xe s
noncomputable def Hv (f:Int→Int→Int):Wr:=fun x y H Q=>∃i j,x=.int i∧y=.int j∧Q (.int (f i j)) H
end
section
variable {X:Cx} {pos:Pos}
noncomputable def WL (c:TT) (tb:TS):TS:=fun D σ H=>∃W:Nat→St→Hp→Prop,(∃m,W m σ H)∧∀m σ H,W m σ H→
 c σ H fun b H1=>if b=true then ∃N:St→Hp→Prop,(∀σ' H',N σ' H'→∃m',m' < m∧W m' σ' H')∧tb { D with nx:=N,ct:=N,bk:=D.nx } σ H1 else D.nx σ H1
end
structure It where
 go:Nat→Hp→Prop
 Js:Nat→Hp→V→Hp→Prop
 stop:Nat→Hp→Prop
noncomputable def yQ (X:Cx) (pins:List (Addr × Obj)) (H:Hp) (b:Addr):Prop:=
 H b=none∧b≠X.env.locals∧b∉X.fs∧(b∈X.ex∨X.s₀.heap.objs.size≤b)∧(∀x c,X.env.cells.lookup x=some c→c≠b)∧∀p∈X.pn ++ pins,p.1≠b
theorem Inv.aZ {X:Cx} {pins:List (Addr × Obj)} {σ:St} {H H':Hp} {s:Shared} {b:Addr} (I:Inv X pins σ H s) (hb:s.heap.objs.size≤b) (hn:H' b=none):yQ X pins H' b:=by
 refine⟨hn,Nat.ne_of_gt (Nat.lt_of_lt_of_le I.lt hb),I.WD hb,.inr (Nat.le_trans I.sz hb),fun x c e z=>?_,fun p hp z=>?_⟩
 ·obtain⟨v,q⟩:=I.cell x c e
  exact absurd (Nat.lt_of_lt_of_le q.lt (by rw[z];exact hb)) (Nat.lt_irrefl _)
 ·exact absurd (Nat.lt_of_lt_of_le (Heap.lt_size (I.pin p hp).1) (by rw[z];exact hb)) (Nat.lt_irrefl _)
structure Turn (P:Program) (w:World) (K:PySem.W.Frag) (tg:Expr) (J:It) (fp:List Addr) (it:Addr) (tn:Nat→Heap→Prop):Prop where
 mem:it∈fp
 obj:∀i h,tn i h→∀b∈fp,∃o,h.get? b=some o∧∀v,o.data≠.cell v
 keep:∀i h h',tn i h→(∀b∈fp,∀o,h.get? b=some o→h'.get? b=some o)→tn i h'
 item:∀(X:Cx),X.prog=P→X.w=w→X.K=K→X.calm=true→∀(i:Nat) (pins:List (Addr × Obj)) (s:Shared) (σ:St) (H:Hp) (E:Value→Shared→Prop),Inv X pins σ H s→(∀b∈fp,yQ X pins H b)→tn i s.heap→J.go i H→
  wpAny (model P w) X.A (pyNext (.ref it)) (fun r s1=>∃u,r=some u∧
   wpAny (model P w) X.A (letOwnedTupleGo tg (.ref it) u) (fun _ s2=>∃x H',Inv X pins σ H' s2∧RelV x u∧J.Js i H x H'∧tn (i + 1) s2.heap∧∀b∈fp,H' b=none) E s1) E s
 done:∀(X:Cx),X.prog=P→X.w=w→X.K=K→X.calm=true→∀(i:Nat) (pins:List (Addr × Obj)) (s:Shared) (σ:St) (H:Hp) (E:Value→Shared→Prop),Inv X pins σ H s→(∀b∈fp,yQ X pins H b)→tn i s.heap→J.stop i H→
  wpAny (model P w) X.A (pyNext (.ref it)) (fun r s1=>r=none∧Inv X pins σ H s1) E s
 self:∀(A:Around) (i:Nat) (s:Shared) (Q:Value→Shared→Prop) (E:Value→Shared→Prop),tn i s.heap→Q (.ref it) s→wpAny (model P w) A (pyIter (.ref it)) Q E s
noncomputable abbrev TI:=St→Hp→(It→Hp→Prop)→Prop
noncomputable def YC (X:Cx) (pins:List (Addr × Obj)) (σ:St) (tg:Expr) (R:It→Hp→Prop) (itv:Value) (s2:Shared):Prop:=
 ∃(it:Addr) (fp:List Addr) (tn:Nat→Heap→Prop) (J:It) (H':Hp),itv=.ref it∧Inv X pins σ H' s2∧Turn X.prog X.w X.K tg J fp it tn∧tn 0 s2.heap∧(∀b∈fp,yQ X pins H' b)∧R J H'
noncomputable def PI (X:Cx) (tg iter:Expr) (wi:TI):Prop:=
 ∀(pins:List (Addr × Obj)) (s:Shared) (σ:St) (H:Hp) (R:It→Hp→Prop),Inv X pins σ H s→wi σ H R→
  wpAny (model X.prog X.w) X.A (eval iter X.env) (fun v s1=>wpAny (model X.prog X.w) X.A (pyIter v) (YC X pins σ tg R) X.xe s1) X.xe s
theorem QH {M:Model} {A:Around} {E:Value→Shared→Prop} {s:Shared} {tg:Expr} {it:Addr} {u:Value} {o:Obj} {n:String} {vs:Array Value} {Q:Unit→Shared→Prop} (ho:s.heap.get? it=some o) (hc:o.cls=.type n) (hd:o.data=.fields vs)
  (hn:["enumerate","zip","dict_itemiterator","dict_reverseitemiterator","odict_iterator","itertools.zip_longest","itertools.pairwise"].contains n=false) (hQ:Q () s):wpAny M A (letOwnedTupleGo tg (.ref it) u) Q E s:=by
 unfold letOwnedTupleGo
 cases tg<;>first
  | exact wpAny_pure hQ
  | (cases u<;>first
    | exact wpAny_pure hQ
    | (refine wpAny_bind (wpAny_load ho ?_);rw[hc,hd];show wpAny M A (if (["enumerate","zip","dict_itemiterator","dict_reverseitemiterator","odict_iterator","itertools.zip_longest","itertools.pairwise"].contains n && vs[0]? == some (rawInt _))=true then _ else _) Q E s;rw[if_neg (by intro h;rw[hn,Bool.false_and] at h;cases h)];exact wpAny_pure hQ))
noncomputable def Xy (K:PySem.W.Frag) (a:Addr):It:=
 ⟨fun i H=>∃xs x,qI K H a xs∧xs[i]?=some x,fun i H x H'=>H'=H∧∀xs,qI K H a xs→xs[i]?=some x,fun i H=>∃xs,qI K H a xs∧xs.length≤i⟩
noncomputable def Gs (K:PySem.W.Frag) (a:Addr):It:=
 ⟨fun i H=>∃xs x,yT K H a xs∧xs[i]?=some x,fun i H x H'=>H'=H∧∀xs,yT K H a xs→xs[i]?=some x,fun i H=>∃xs,yT K H a xs∧xs.length≤i⟩
noncomputable def XF (lo:Int) (n:Nat):It:=⟨fun i _=>i < n,fun i H x H'=>H'=H∧x=.int (lo + i),fun i _=>n≤i⟩
theorem ae {P:Program} {w:World} {K:PySem.W.Frag} {tg:Expr} (a it:Addr):Turn P w K tg (Xy K a) [it] it (fun i h=>h.IsListIter it a i) where
 mem:=by simp
 obj:=fun i h st b hb=>by
  have e:b=it:=by simpa using hb
  subst e
  obtain⟨o,e,c,d⟩:=st
  exact⟨o,e,fun v z=>by rw[d] at z;cases z⟩
 keep:=fun i h h' st k=>st.at fun o e=>k it (by simp) o e
 item:=by
  intro X hP hw hK hc i pins s σ H E I hf st hg
  subst hP hw hK
  obtain⟨xs,x,hq,hx⟩:=hg
  obtain⟨its,rv,p,hz⟩:=I.list hq
  obtain⟨u,hu,ru⟩:=rv.get hx
  obtain⟨f0,f1,f2,f3,f4,f5⟩:=hf it (by simp)
  refine wpAny_pyNext_list_item st p.isList (x:=u) (by simpa using hu) fun h' st' sb=>?_
  have I1:Inv X pins σ H { s with heap:=h' }:=I.turned (t':=s.toks) (fun b o hb e=>(sb.2 b hb).trans e) f0 f1 f3 f4 f5
  obtain⟨o,e,c,d⟩:=id st'
  exact⟨u,rfl,QH (s:={ s with heap:=h' }) e c d (by decide) ⟨x,H,I1,ru,⟨rfl,fun ys hy=>by rw[I.d6 hy hq];exact hx⟩,st',fun b hb=>(hf b hb).1⟩⟩
 done:=by
  intro X hP hw hK hc i pins s σ H E I hf st hg
  subst hP hw hK
  obtain⟨xs,hq,hx⟩:=hg
  obtain⟨its,rv,p,hz⟩:=I.list hq
  obtain⟨f0,f1,f2,f3,f4,f5⟩:=hf it (by simp)
  have hl:=rv.length
  exact wpAny_pyNext_list_end (I.ok.hd hc) st p.isList (by simp;omega) fun h' eb=>⟨rfl,I.turned (t':=s.toks) (fun b o hb e=>eb b o hb e) f0 f1 f3 f4 f5⟩
 self:=fun _ _ _ _ _ st h=>wpAny_pyIter_listiter st h
theorem nP {P:Program} {w:World} {K:PySem.W.Frag} {tg:Expr} (it:Addr) (lo:Int) (n:Nat):Turn P w K tg (XF lo n) [it] it (fun i h=>IsRangeIter h it (lo + (i:Nat) * 1) ((n:Int) - (i:Nat)) 1) where
 mem:=by simp
 obj:=fun i h st b hb=>by
  have e:b=it:=by simpa using hb
  subst e
  exact⟨_,st,fun v z=>by
   have z':Data.fields _=Data.cell v:=z
   cases z'⟩
 keep:=fun i h h' st k=>k it (by simp) _ st
 item:=by
  intro X hP hw hK hc i pins s σ H E I hf st hg
  subst hP hw hK
  obtain⟨f0,f1,f2,f3,f4,f5⟩:=hf it (by simp)
  have W:=Walks.range (prog:=X.prog) (w:=X.w) (I.ok.hd hc) it lo 1 n
  refine W.item i s _ _ hg st fun v h' tk hv st' kk=>?_
  obtain⟨t,rfl⟩:=hv
  have I1:Inv X pins σ H { s with heap:=h',toks:=tk }:=I.turned (fun b o hb e=>kk b o (by simpa using hb) e) f0 f1 f3 f4 f5
  refine⟨_,rfl,QH (s:={ s with heap:=h',toks:=tk }) (n:="range_iterator") st' rfl rfl (by decide) ⟨.int (lo + i),H,I1,⟨t,?_⟩,⟨rfl,rfl⟩,st',fun b hb=>(hf b hb).1⟩⟩
  rw[Int.mul_one]
 done:=by
  intro X hP hw hK hc i pins s σ H E I hf st hg
  subst hP hw hK
  obtain⟨f0,f1,f2,f3,f4,f5⟩:=hf it (by simp)
  exact wpAny_pyNext_range_end (I.ok.hd hc) st (by have:n≤i:=hg;omega) fun h' eb=>⟨rfl,I.turned (t':=s.toks) (fun b o hb e=>eb b o hb e) f0 f1 f3 f4 f5⟩
 self:=fun _ _ _ _ _ st h=>wpAny_pyIter_rangeiter st h
end L2
namespace L2
open PySem PySem.Spec PyProof.Rows
section
variable {X:Cx} {tg:Expr}
noncomputable def Xb (K:PySem.W.Frag) (tl:TE):TI:=fun σ H R=>tl σ H fun x H1=>∃a,x=.ref a∧(∃xs,qI K H1 a xs)∧R (Xy K a) H1
noncomputable def Gd (K:PySem.W.Frag) (tl:TE):TI:=fun σ H R=>tl σ H fun x H1=>∃a,x=.ref a∧(∃xs,yT K H1 a xs)∧R (Gs K a) H1
theorem Xv {l:Expr} {tl:TE} (hl:PE X l tl):PI X tg l (Xb X.K tl):=by
 intro pins s σ H R I h
 refine j5 (hl pins s σ H _ I h) fun v s1 ⟨x,H1,I1,r1,q1⟩=>?_
 obtain⟨a,e,⟨xs,hq⟩,q⟩:=q1
 subst e
 cases r1
 obtain⟨its,rv,p,hz⟩:=I1.list hq
 refine wpAny_pyIter_list p.isList ?_
 refine⟨s1.heap.objs.size,[s1.heap.objs.size],_,_,H1,rfl,I1.kept (t':=s1.toks) fun b o e=>Heap.get?_push_of_some _ e,ae a _,⟨_,Heap.get?_push_size _ rfl,rfl,rfl⟩,fun b hb=>?_,q⟩
 have e:b=s1.heap.objs.size:=by simpa using hb
 subst e
 exact I1.aZ (Nat.le_refl _) (I1.jg.fresh (Nat.le_refl _))
theorem sx {pins:List (Addr × Obj)} {σ:St} {H:Hp} {s:Shared} {R:It→Hp→Prop} {E:Value→Shared→Prop} {lo hi:Int} {t u v:Tok} {tk:Nat} (I:Inv X pins σ H s) (h1:-(2 ^ 62)≤lo) (h2:lo < 2 ^ 62) (h3:-(2 ^ 62)≤hi) (h4:hi < 2 ^ 62)
  (q:R (XF lo (hi - lo).toNat) H):wpAny (model X.prog X.w) X.A (pyIter (.ref s.heap.objs.size)) (YC X pins σ tg R) E { s with heap:=s.heap.push { cls:=.type "range",data:=.fields #[.int lo t,.int hi u,.int 1 v] },toks:=tk }:=by
 refine wpAny_pyIter_range (IsRange.new ..) (small_one h1 h2 h3 h4) ?_
 have I1:Inv X pins σ H { s with heap:=s.heap.push { cls:=.type "range",data:=.fields #[.int lo t,.int hi u,.int 1 v] },toks:=tk }:=I.kept fun b o e=>Heap.get?_push_of_some _ e
 refine⟨(s.heap.push { cls:=.type "range",data:=.fields #[.int lo t,.int hi u,.int 1 v] }).objs.size,[(s.heap.push { cls:=.type "range",data:=.fields #[.int lo t,.int hi u,.int 1 v] }).objs.size],_,_,H,rfl,
  I1.kept (t':=tk) fun b o e=>Heap.get?_push_of_some _ e,nP _ lo (hi - lo).toNat,?_,fun b hb=>?_,q⟩
 ·have e1:lo + ((0:Nat):Int) * 1=lo:=by simp
  have e2:(((hi - lo).toNat:Nat):Int) - ((0:Nat):Int)=Builtin.Range.rangeSize lo hi 1:=by rw[rangeSize_one];split<;>omega
  show IsRangeIter _ _ (lo + ((0:Nat):Int) * 1) ((((hi - lo).toNat:Nat):Int) - ((0:Nat):Int)) 1
  rw[e1,e2]
  exact Heap.get?_push_size _ rfl
 ·have e:b=(s.heap.push { cls:=.type "range",data:=.fields #[.int lo t,.int hi u,.int 1 v] }).objs.size:=by simpa using hb
  subst e
  exact I1.aZ (Nat.le_refl _) (I1.jg.fresh (Nat.le_refl _))
noncomputable def Vo (ta:TA):TI:=fun σ H R=>ta σ H fun vs H1=>∃j:Int,vs=[.int j]∧-(2 ^ 62)≤j∧j < 2 ^ 62∧R (XF 0 j.toNat) H1
noncomputable def VD (ta:TA):TI:=fun σ H R=>ta σ H fun vs H1=>∃i j:Int,vs=[.int i,.int j]∧(-(2 ^ 62)≤i∧i < 2 ^ 62∧-(2 ^ 62)≤j∧j < 2 ^ 62)∧R (XF i (j - i).toNat) H1
theorem wY {a:Expr} {ta:TA} {p pos:Pos} (hg:Gl X "range") (hm:X.mg "range" = none) (ha:PA X [a] ta) (hs:starEach [a] X.env=[(false,eval a X.env)]:=by rfl):PI X tg (.Call (.Name "range" p) [a] [] pos) (Vo ta):=by
 intro pins s σ H R I h
 refine Call_ (mX I hg hm boot_range (PyProof.Rows.callWith_type1 (j5 (ha pos pins s σ H _ I h) fun us s1 ⟨vs,H1,I1,r1,q1⟩=>?_) hs rfl))
 obtain⟨j,e,q1,q2,q⟩:=q1
 subst e
 cases r1 with
 | cons r rr=>
  cases rr
  obtain⟨t,rfl⟩:=r
  exact call_range_1 (sx I1 (by omega) (by omega) q1 q2 (by simpa using q))
theorem av {a b:Expr} {ta:TA} {p pos:Pos} (hg:Gl X "range") (hm:X.mg "range" = none) (ha:PA X [a,b] ta) (hs:starEach [a,b] X.env=[(false,eval a X.env),(false,eval b X.env)]:=by rfl) (hs2:starEach [b] X.env=[(false,eval b X.env)]:=by rfl) :
  PI X tg (.Call (.Name "range" p) [a,b] [] pos) (VD ta):=by
 intro pins s σ H R I h
 refine Call_ (mX I hg hm boot_range (PyProof.Rows.callWith_type1 (j5 (ha pos pins s σ H _ I h) fun us s1 ⟨vs,H1,I1,r1,q1⟩=>?_) (by rw[hs,hs2]) (by rw[hs2];rfl)))
 obtain⟨i,j,e,⟨q1,q2,q3,q4⟩,q⟩:=q1
 subst e
 cases r1 with
 | cons r rr=>
  cases rr with
  | cons r' rr=>
   cases rr
   obtain⟨t,rfl⟩:=r
   obtain⟨t',rfl⟩:=r'
   exact call_range_2 (sx I1 q1 q2 q3 q4 q)
noncomputable def Yi (wi:TI) (g:TG) (tb:TS):TS:=fun D σ H=>wi σ H fun J H1=>∃W:Nat→Nat→St→Hp→Prop,(∃m,W 0 m σ H1)∧∀i m σ H,W i m σ H→
 (J.stop i H∧D.nx σ H)∨(J.go i H∧∃N:St→Hp→Prop,(∀σ' H',N σ' H'→∃m',m' < m∧W (i + 1) m' σ' H')∧∀x H',J.Js i H x H'→g x σ H' fun σ2 H2=>tb { D with nx:=N,ct:=N,bk:=D.nx } σ2 H2)
noncomputable def c8 (fp:List Addr) (h:Heap):List (Addr × Obj):=fp.filterMap fun b=>(h.get? b).map fun o=>(b,o)
theorem vV {fp:List Addr} {h:Heap} {b:Addr} {o:Obj} (hb:b∈fp) (e:h.get? b=some o):(b,o)∈c8 fp h:=List.mem_filterMap.mpr ⟨b,hb,by rw[e];rfl⟩
theorem eP {fp:List Addr} {h:Heap} {p:Addr × Obj} (hp:p∈c8 fp h):p.1∈fp∧h.get? p.1=some p.2:=by
 obtain⟨b,hb,e⟩:=List.mem_filterMap.mp hp
 cases q:h.get? b with
 | none=>rw[q] at e;cases e
 | some o=>
  rw[q] at e
  have e':(b,o)=p:=Option.some.inj e
  subst e'
  exact⟨hb,q⟩
theorem Inv.pinned {pins:List (Addr × Obj)} {σ:St} {H:Hp} {s:Shared} {fp:List Addr} (I:Inv X pins σ H s) (hf:∀b∈fp,yQ X pins H b) (ho:∀b∈fp,∃o,s.heap.get? b=some o∧∀v,o.data≠.cell v):Inv X (pins ++ c8 fp s.heap) σ H s:=
 I.rD fun p hp=>(List.mem_append.mp hp).elim (fun z=>I.pin p (List.mem_append_right _ z)) fun z=>by
  obtain⟨hb,e⟩:=eP z
  obtain⟨f0,f1,f2,_⟩:=hf p.1 hb
  obtain⟨o,e',d⟩:=ho p.1 hb
  rw[e] at e';cases e'
  exact⟨e,f0,f1,f2,d⟩
theorem Inv.wF {pins pl:List (Addr × Obj)} {σ:St} {H:Hp} {s:Shared} (I:Inv X (pins ++ pl) σ H s):Inv X pins σ H s:=I.rD fun p hp=>I.pin p (List.mem_append_right _ (List.mem_append_left _ hp))
theorem p3 {iter:Expr} {body:List Stmt} {wi:TI} {g:TG} {tb:TS} {pos:Pos} (hp:PassesOwn (model X.prog X.w) X.A X.env X.xe) (hc:X.calm=true) (hi:PI X tg iter wi) (hg:PG X tg g) (hb:eu X body tb)
  (hs:∀x,foldedSetIterable iter X.env x=pure x:=by intro _;rfl):PS X (.For tg iter body [] pos) (Yi wi g tb):=by
 intro pins s σ H D I h
 refine wpAny_For (j5 (hi pins s σ H _ I h) fun v s1 h1=>j5 h1 fun itv s2 h2=>?_) hs
 obtain⟨it,fp,tn,J,H2,e,I2,T,st2,f2,W,⟨m0,w0⟩,turn⟩:=h2
 subst e
 have stat:∀{H':Hp},(∀b∈fp,H' b=none)→∀b∈fp,yQ X pins H' b:=fun hn b hb=>⟨hn b hb,(f2 b hb).2⟩
 refine codeAny_forLoop_any (fun n s'=>∃i σ' H',Inv X pins σ' H' s'∧tn i s'.heap∧(∀b∈fp,H' b=none)∧W i n σ' H') ?_ m0 ⟨0,σ,H2,I2,st2,fun b hb=>(f2 b hb).1,w0⟩
 rintro n s3 ⟨i,σ3,H3,I3,st3,fr3,w3⟩
 rcases turn i n σ3 H3 w3 with ⟨stop,qn⟩ | ⟨go,N,hN,step⟩
 ·refine wpAny_passesOwn hp (j5 (T.done X rfl rfl rfl hc i pins s3 σ3 H3 X.xe I3 (stat fr3) st3 stop) fun r s4 ⟨hr,I4⟩=>?_)
  subst hr
  exact wpAny_execs_nil ⟨σ3,H3,I4,qn⟩
 ·refine wpAny_passesOwn hp (j5 (T.item X rfl rfl rfl hc i pins s3 σ3 H3 X.xe I3 (stat fr3) st3 go) fun r s4 ⟨u,hr,h4⟩=>?_)
  subst hr
  refine wpAny_passesOwn hp (j5 h4 fun _ s5 ⟨x,H5,I5,r5,y5,st5,fr5⟩=>?_)
  have I5':=I5.pinned (stat fr5) (T.obj _ _ st5)
  refine wpAny_passesOwn hp (j5 (hg _ s5 σ3 H5 x u _ I5' r5 (step x H5 y5)) fun _ s6 ⟨σ6,H6,I6,q6⟩=>?_)
  refine wpAny_passesOwn hp (j5 (hb _ s6 σ6 H6 _ I6 q6) fun f s7 q7=>?_)
  have again:∀{σ7:St} {H7:Hp},Inv X (pins ++ c8 fp s5.heap) σ7 H7 s7→N σ7 H7→∃m,m < n∧∃i σ' H',Inv X pins σ' H' s7∧tn i s7.heap∧(∀b∈fp,H' b=none)∧W i m σ' H':=fun {σ7 H7} I7 n7=>by
   obtain⟨m',hm,w7⟩:=hN σ7 H7 n7
   refine⟨m',hm,i + 1,σ7,H7,I7.wF,T.keep _ _ _ st5 fun b hb o e=>(I7.pin (b,o) (List.mem_append_right _ (List.mem_append_right _ (vV hb e)))).1,fun b hb=>?_,w7⟩
   obtain⟨o,e,d⟩:=T.obj _ _ st5 b hb
   exact(I7.pin (b,o) (List.mem_append_right _ (List.mem_append_right _ (vV hb e)))).2.1
  cases f with
  | next=>obtain⟨σ7,H7,I7,n7⟩:=q7;exact again I7 n7
  | cont=>obtain⟨σ7,H7,I7,n7⟩:=q7;exact again I7 n7
  | brk=>obtain⟨σ7,H7,I7,q7⟩:=q7;exact⟨σ7,H7,I7.wF,q7⟩
  | ret v=>obtain⟨x7,σ7,H7,I7,r7,q7⟩:=q7;exact⟨x7,σ7,H7,I7.wF,r7,q7⟩
end
theorem sG {K:PySem.W.Frag} {a:Addr} {xs:List V} {g:TG} {tb:TS} {D:Ends} {σ:St} {H:Hp} (Pv:Nat→St→Hp→Prop) (h0:Pv 0 σ H) (hl:∀i σ H,i≤xs.length→Pv i σ H→qI K H a xs)
  (hs:∀i x σ H,xs[i]?=some x→Pv i σ H→g x σ H fun σ2 H2=>tb { D with nx:=Pv (i + 1),ct:=Pv (i + 1),bk:=D.nx } σ2 H2) (hd:∀σ H,Pv xs.length σ H→D.nx σ H) :
  ∃W:Nat→Nat→St→Hp→Prop,(∃m,W 0 m σ H)∧∀i m σ H,W i m σ H→
   ((Xy K a).stop i H∧D.nx σ H)∨((Xy K a).go i H∧∃N:St→Hp→Prop,(∀σ' H',N σ' H'→∃m',m' < m∧W (i + 1) m' σ' H')∧∀x H',(Xy K a).Js i H x H'→g x σ H' fun σ2 H2=>tb { D with nx:=N,ct:=N,bk:=D.nx } σ2 H2):=by
 refine⟨fun i m σ H=>m=xs.length - i∧i≤xs.length∧Pv i σ H,⟨xs.length,by simp,Nat.zero_le _,h0⟩,?_⟩
 rintro i m σ H ⟨rfl,hi,p⟩
 have q:=hl i σ H hi p
 by_cases hlt:i < xs.length
 ·refine .inr ⟨⟨xs,xs[i],q,by simp [hlt]⟩,Pv (i + 1),fun σ' H' p'=>⟨xs.length - (i + 1),by omega,rfl,hlt,p'⟩,fun x H' y=>?_⟩
  obtain⟨e,y⟩:=y
  subst e
  exact hs i x σ _ (y xs q) p
 ·have e:i=xs.length:=by omega
  subst e
  exact .inl ⟨⟨xs,q,Nat.le_refl _⟩,hd σ H p⟩
theorem b7 {lo:Int} {n:Nat} {g:TG} {tb:TS} {D:Ends} {σ:St} {H:Hp} (Pv:Nat→St→Hp→Prop) (h0:Pv 0 σ H)
  (hs:∀i σ H,i < n→Pv i σ H→g (.int (lo + i)) σ H fun σ2 H2=>tb { D with nx:=Pv (i + 1),ct:=Pv (i + 1),bk:=D.nx } σ2 H2) (hd:∀σ H,Pv n σ H→D.nx σ H) :
  ∃W:Nat→Nat→St→Hp→Prop,(∃m,W 0 m σ H)∧∀i m σ H,W i m σ H→
   ((XF lo n).stop i H∧D.nx σ H)∨((XF lo n).go i H∧∃N:St→Hp→Prop,(∀σ' H',N σ' H'→∃m',m' < m∧W (i + 1) m' σ' H')∧∀x H',(XF lo n).Js i H x H'→g x σ H' fun σ2 H2=>tb { D with nx:=N,ct:=N,bk:=D.nx } σ2 H2):=by
 refine⟨fun i m σ H=>m=n - i∧i≤n∧Pv i σ H,⟨n,by simp,Nat.zero_le _,h0⟩,?_⟩
 rintro i m σ H ⟨rfl,hi,p⟩
 by_cases hlt:i < n
 ·refine .inr ⟨hlt,Pv (i + 1),fun σ' H' p'=>⟨n - (i + 1),by omega,rfl,hlt,p'⟩,fun x H' y=>?_⟩
  obtain⟨e,y⟩:=y
  subst e y
  exact hs i σ _ hlt p
 ·have e:i=n:=by omega
  subst e
  exact .inl ⟨Nat.le_refl _,hd σ H p⟩
end L2
namespace L2
open PySem PySem.Spec PyProof.Rows
noncomputable abbrev R2:=V→V→Hp→VK→Prop
noncomputable def bY (X:Cx) (f:Value→Value→Sem Value) (r:R2):Prop:=
 ∀(pins:List (Addr × Obj)) (s:Shared) (σ:St) (H:Hp) (x y:V) (v u:Value) (Q:VK),Inv X pins σ H s→RelV x v→RelV y u→r x y H Q→
  wpAny (model X.prog X.w) X.A (f v u) (EP X pins σ Q) X.xe s
noncomputable def Ya (X:Cx) (f:Value→Sem Value) (r:V→Hp→VK→Prop):Prop:=
 ∀(pins:List (Addr × Obj)) (s:Shared) (σ:St) (H:Hp) (x:V) (v:Value) (Q:VK),Inv X pins σ H s→RelV x v→r x H Q→
  wpAny (model X.prog X.w) X.A (f v) (EP X pins σ Q) X.xe s
noncomputable def vf (X:Cx) (f:Value) (r:List V→Hp→VK→Prop):Prop:=
 ∀(pins:List (Addr × Obj)) (s:Shared) (σ:St) (H:Hp) (xs:List V) (us:List Value) (Q:VK),Inv X pins σ H s→Vals xs us→r xs H Q→
  wpAny (model X.prog X.w) X.A (call f us) (EP X pins σ Q) X.xe s
noncomputable def GP (X:Cx) (r:V→Hp→(Bool→Hp→Prop)→Prop):Prop:=
 ∀(pins:List (Addr × Obj)) (s:Shared) (σ:St) (H:Hp) (x:V) (v:Value) (Q:Bool→Hp→Prop),Inv X pins σ H s→RelV x v→r x H Q→
  wpAny (model X.prog X.w) X.A (truthy v) (TP X pins σ Q) X.xe s
noncomputable def We (r:R2) (ta tb:TE):TE:=fun σ H Q=>ta σ H fun x H1=>tb σ H1 fun y H2=>r x y H2 Q
noncomputable def Gw (r:V→Hp→VK→Prop) (ta:TE):TE:=fun σ H Q=>ta σ H fun x H1=>r x H1 Q
noncomputable def rI (C:Int→Int→Prop) (g:Int→Int→V):R2:=fun x y H Q=>∃i j,x=.int i∧y=.int j∧C i j∧Q (g i j) H
noncomputable def Kw (g:Int→Int→V):R2:=fun x y H Q=>∃i j,x=.int i∧y=.int j∧Q (g i j) H
noncomputable def rU (g:Int→V):V→Hp→VK→Prop:=fun x H Q=>∃i,x=.int i∧Q (g i) H
section
variable {X:Cx} {a b c:Expr} {ta tb tc:TE} {pos:Pos}
theorem Kv (ha:PE X a ta) (hb:PE X b tb) {pins:List (Addr × Obj)} {s:Shared} {σ:St} {H:Hp} {R:V→V→Hp→Prop} (I:Inv X pins σ H s)
  (h:ta σ H fun x H1=>tb σ H1 fun y H2=>R x y H2) {Q:Value→Shared→Prop} {f:Value→Value→Sem Value}
  (hf:∀v u s2 x y H2,Inv X pins σ H2 s2→RelV x v→RelV y u→R x y H2→wpAny (model X.prog X.w) X.A (f v u) Q X.xe s2) :
  wpAny (model X.prog X.w) X.A (eval a X.env) (fun v s₁=>wpAny (model X.prog X.w) X.A (eval b X.env) (fun u s₂=>wpAny (model X.prog X.w) X.A (f v u) Q X.xe s₂) X.xe s₁) X.xe s:=by
 refine j5 (ha pins s σ H _ I h) fun v s1 ⟨x,H1,I1,r1,q1⟩=>?_
 refine j5 (hb pins s1 σ H1 _ I1 q1) fun u s2 ⟨y,H2,I2,r2,q2⟩=>?_
 exact hf v u s2 x y H2 I2 r1 r2 q2
theorem qx {op:Operator} {r:R2} (ho:bY X (binaryOp op) r) (ha:PE X a ta) (hb:PE X b tb):PE X (.BinOp a op b pos) (We r ta tb):=by
 intro pins s σ H Q I h
 exact wpAny_BinOp (Kv ha hb I h fun v u s2 x y H2 I2 rx ry q=>ho pins s2 σ H2 x y v u Q I2 rx ry q)
theorem VR {op:UnaryOp} {r:V→Hp→VK→Prop} (ho:Ya X (unaryOp op) r) (ha:PE X a ta):PE X (.UnaryOp op a pos) (Gw r ta):=by
 intro pins s σ H Q I h
 exact UnaryOp_ (j5 (ha pins s σ H _ I h) fun v s1 ⟨x,H1,I1,r1,q1⟩=>ho pins s1 σ H1 x v Q I1 r1 q1)
theorem WW {f:Value→Value→Sem Value} {C:Int→Int→Prop} {g:Int→Int→Int}
  (rule:∀(i j:Int) (t u:Tok) (s:Shared) (Q:Value→Shared→Prop) (E:Value→Shared→Prop),C i j→Q (.int (g i j) s.toks) { s with toks:=s.toks + 1 }→wpAny (model X.prog X.w) X.A (f (.int i t) (.int j u)) Q E s) :
  bY X f (rI C fun i j=>.int (g i j)):=by
 intro pins s σ H x y v u Q I rx ry h
 obtain⟨i,j,rfl,rfl,hc,q⟩:=h
 obtain⟨t,rfl⟩:=rx
 obtain⟨t',rfl⟩:=ry
 exact rule i j t t' s _ _ hc ⟨.int (g i j),H,I.tok _,⟨_,rfl⟩,q⟩
theorem Vt {f:Value→Value→Sem Value} {g:Int→Int→Int}
  (rule:∀(i j:Int) (t u:Tok) (s:Shared) (Q:Value→Shared→Prop) (E:Value→Shared→Prop),Q (.int (g i j) s.toks) { s with toks:=s.toks + 1 }→wpAny (model X.prog X.w) X.A (f (.int i t) (.int j u)) Q E s) :
  bY X f (Kw fun i j=>.int (g i j)):=by
 intro pins s σ H x y v u Q I rx ry h
 obtain⟨i,j,rfl,rfl,q⟩:=h
 obtain⟨t,rfl⟩:=rx
 obtain⟨t',rfl⟩:=ry
 exact rule i j t t' s _ _ ⟨.int (g i j),H,I.tok _,⟨_,rfl⟩,q⟩
theorem Ke {f:Value→Value→Sem Value} {g:Int→Int→Bool}
  (rule:∀(i j:Int) (t u:Tok) (s:Shared) (Q:Value→Shared→Prop) (E:Value→Shared→Prop),Q (.bool (g i j)) s→wpAny (model X.prog X.w) X.A (f (.int i t) (.int j u)) Q E s) :
  bY X f (Kw fun i j=>.bl (g i j)):=by
 intro pins s σ H x y v u Q I rx ry h
 obtain⟨i,j,rfl,rfl,q⟩:=h
 obtain⟨t,rfl⟩:=rx
 obtain⟨t',rfl⟩:=ry
 exact rule i j t t' s _ _ ⟨.bl (g i j),H,I,rfl,q⟩
noncomputable def W7 (i j:Int):Prop:=0 < j∧j < 1073741824
noncomputable def Y8 (i j:Int):Prop:=j≠0∧j.natAbs < 1073741824
noncomputable def WS (i j:Int):Prop:=0≤j∧j≤1000000∧i.natAbs < 2 ^ 64
noncomputable def Kr (i j:Int):Prop:=(-(2 ^ 64) < i∧i < 2 ^ 64)∨(-(2 ^ 64) < j∧j < 2 ^ 64)
theorem Kr.ok {i j:Int} (h:Kr i j):IntMulOk i j:=by
 rcases h with ⟨h1,h2⟩ | ⟨h1,h2⟩
 ·exact .of_left (intBits_le_64 h1 h2)
 ·exact .of_right (intBits_le_64 h1 h2)
theorem xC:bY X (binaryOp .Add) (Kw fun i j=>.int (i + j)):=Vt fun _ _ _ _ _ _ _ q=>add_int q
theorem mY:bY X (binaryOp .Sub) (Kw fun i j=>.int (i - j)):=Vt fun _ _ _ _ _ _ _ q=>sub_int q
theorem uj:bY X (binaryOp .Mult) (rI Kr fun i j=>.int (i * j)):=WW fun _ _ _ _ _ _ _ hc q=>mul_int q hc.ok
theorem vQ:bY X (binaryOp .FloorDiv) (rI W7 fun i j=>.int (i / j)):=WW fun i j _ _ _ _ _ hc q=>by
 have h1:(0:Int) < j:=hc.1
 have h2:j < 1073741824:=hc.2
 exact floordiv_int (by omega) (by rw[Int.fdiv_eq_ediv_of_nonneg i (by omega)];exact q) (.inl (PyProof.noPylong_small (by omega)))
theorem jj:bY X (binaryOp .Mod) (rI (fun _ j=>0 < j) fun i j=>.int (i % j)):=WW fun i j _ _ _ _ _ hc q=>by
 have h1:(0:Int) < j:=hc
 exact mod_int' (by omega) (by rw[Int.fmod_eq_emod_of_nonneg i (by omega)];exact q)
theorem XT:bY X (binaryOp .Pow) (rI WS fun i j=>.int (i ^ j.toNat)):=WW fun _ _ _ _ _ _ _ hc q=>pow_int_small hc.1 hc.2.1 hc.2.2 q
theorem GV {f:Value→Sem Value} {g:Int→Int}
  (rule:∀(i:Int) (t:Tok) (s:Shared) (Q:Value→Shared→Prop) (E:Value→Shared→Prop),Q (.int (g i) s.toks) { s with toks:=s.toks + 1 }→wpAny (model X.prog X.w) X.A (f (.int i t)) Q E s) :
  Ya X f (rU fun i=>.int (g i)):=by
 intro pins s σ H x v Q I rx h
 obtain⟨i,rfl,q⟩:=h
 obtain⟨t,rfl⟩:=rx
 exact rule i t s _ _ ⟨.int (g i),H,I.tok _,⟨_,rfl⟩,q⟩
theorem KH:Ya X (unaryOp .USub) (rU fun i=>.int (-i)):=GV fun _ _ _ _ _ q=>neg_int q
end
noncomputable def Vu:V→V→Bool
 | .non,.non=>true | .non,.int _=>true | .int _,.non=>true | .non,.bl _=>true | .bl _,.non=>true | .non,.str _=>true | .str _,.non=>true
 | .int _,.int _=>true | .bl _,.bl _=>true | .str _,.str _=>true | .byt _,.byt _=>true
 | .int _,.str _=>true | .str _,.int _=>true | .bl _,.str _=>true | .str _,.bl _=>true
 | _,_=>false
noncomputable def GD:R2:=fun x y H Q=>Vu x y=true∧Q (.bl (decide (x=y))) H
noncomputable def GS:R2:=fun x y H Q=>Vu x y=true∧Q (.bl (!decide (x=y))) H
theorem i4 {i j:Int}:decide (V.int i=V.int j)=(i == j):=by
 rw[Bool.eq_iff_iff]
 simp
theorem Qj {i j:Bool}:decide (V.bl i=V.bl j)=(i == j):=by
 rw[Bool.eq_iff_iff]
 simp
theorem i6 {i j:Str}:decide (V.str i=V.str j)=(i == j):=by
 rw[Bool.eq_iff_iff]
 simp
theorem iO {i j:Array UInt8}:decide (V.byt i=V.byt j)=(i.toList == j.toList):=by
 rw[Bool.eq_iff_iff]
 cases i
 cases j
 simp
section
variable {X:Cx} {a b c:Expr} {ta tb tc:TE} {pos:Pos}
theorem jk {pins:List (Addr × Obj)} {σ:St} {H:Hp} {s:Shared} {Q:VK} {k k':Bool} (I:Inv X pins σ H s) (q:Q (.bl k) H) (e:k=k'):EP X pins σ Q (.bool k') s:=by
 subst e
 exact⟨.bl k,H,I,rfl,q⟩
theorem jQ:bY X (compareOp .Eq) GD:=by
 intro pins s σ H x y v u Q I rx ry h
 obtain⟨hs,q⟩:=h
 cases x with
 | non=>
  cases rx
  cases y with
  | non=>cases ry;exact PySem.EqNone.eq_none_none (jk I q (by simp))
  | bl j=>cases ry;exact PySem.EqNone.eq_none_bool (jk I q (by simp))
  | int j=>obtain⟨t',rfl⟩:=ry;exact PySem.EqNone.eq_none_int (jk I q (by simp))
  | str j=>obtain⟨t',rfl⟩:=ry;exact PySem.EqNone.eq_none_str (jk I q (by simp))
  | _=>exact absurd (show false=true from hs) Bool.false_ne_true
 | bl i=>
  cases rx
  cases y with
  | non=>cases ry;exact PySem.EqNone.eq_bool_none (jk I q (by simp))
  | bl j=>cases ry;exact eq_bool (jk I q Qj)
  | str j=>obtain⟨t',rfl⟩:=ry;exact PySem.EqMixed.eq_bool_str (jk I q (by simp))
  | _=>exact absurd (show false=true from hs) Bool.false_ne_true
 | int i=>
  obtain⟨t,rfl⟩:=rx
  cases y with
  | non=>cases ry;exact PySem.EqNone.eq_int_none (jk I q (by simp))
  | int j=>obtain⟨t',rfl⟩:=ry;exact eq_int (jk I q i4)
  | str j=>obtain⟨t',rfl⟩:=ry;exact PySem.EqMixed.eq_int_str (jk I q (by simp))
  | _=>exact absurd (show false=true from hs) Bool.false_ne_true
 | str i=>
  obtain⟨t,rfl⟩:=rx
  cases y with
  | non=>cases ry;exact PySem.EqNone.eq_str_none (jk I q (by simp))
  | bl j=>cases ry;exact PySem.EqMixed.eq_str_bool (jk I q (by simp))
  | int j=>obtain⟨t',rfl⟩:=ry;exact PySem.EqMixed.eq_str_int (jk I q (by simp))
  | str j=>obtain⟨t',rfl⟩:=ry;exact eq_str (jk I q i6)
  | _=>exact absurd (show false=true from hs) Bool.false_ne_true
 | byt i=>
  obtain⟨t,rfl⟩:=rx
  cases y with
  | byt j=>obtain⟨t',rfl⟩:=ry;exact PySem.W.eq_bytes (jk I q iO)
  | _=>exact absurd (show false=true from hs) Bool.false_ne_true
 | _=>cases y<;>exact absurd (show false=true from hs) Bool.false_ne_true
theorem sE:bY X (compareOp .NotEq) GS:=by
 intro pins s σ H x y v u Q I rx ry h
 obtain⟨hs,q⟩:=h
 cases x with
 | non=>
  cases rx
  cases y with
  | non=>cases ry;exact PySem.EqNone.ne_none_none (jk I q (by simp))
  | bl j=>cases ry;exact PySem.EqNone.ne_none_bool (jk I q (by simp))
  | int j=>obtain⟨t',rfl⟩:=ry;exact PySem.EqNone.ne_none_int (jk I q (by simp))
  | str j=>obtain⟨t',rfl⟩:=ry;exact PySem.EqNone.ne_none_str (jk I q (by simp))
  | _=>exact absurd (show false=true from hs) Bool.false_ne_true
 | bl i=>
  cases rx
  cases y with
  | non=>cases ry;exact PySem.EqNone.ne_bool_none (jk I q (by simp))
  | bl j=>cases ry;exact ne_bool (jk I q (congrArg not Qj))
  | str j=>obtain⟨t',rfl⟩:=ry;exact PySem.EqMixed.ne_bool_str (jk I q (by simp))
  | _=>exact absurd (show false=true from hs) Bool.false_ne_true
 | int i=>
  obtain⟨t,rfl⟩:=rx
  cases y with
  | non=>cases ry;exact PySem.EqNone.ne_int_none (jk I q (by simp))
  | int j=>obtain⟨t',rfl⟩:=ry;exact ne_int (jk I q (congrArg not i4))
  | str j=>obtain⟨t',rfl⟩:=ry;exact PySem.EqMixed.ne_int_str (jk I q (by simp))
  | _=>exact absurd (show false=true from hs) Bool.false_ne_true
 | str i=>
  obtain⟨t,rfl⟩:=rx
  cases y with
  | non=>cases ry;exact PySem.EqNone.ne_str_none (jk I q (by simp))
  | bl j=>cases ry;exact PySem.EqMixed.ne_str_bool (jk I q (by simp))
  | int j=>obtain⟨t',rfl⟩:=ry;exact PySem.EqMixed.ne_str_int (jk I q (by simp))
  | str j=>obtain⟨t',rfl⟩:=ry;exact ne_str (jk I q (congrArg not i6))
  | _=>exact absurd (show false=true from hs) Bool.false_ne_true
 | byt i=>
  obtain⟨t,rfl⟩:=rx
  cases y with
  | byt j=>obtain⟨t',rfl⟩:=ry;exact PySem.W.ne_bytes (jk I q (congrArg not iO))
  | _=>exact absurd (show false=true from hs) Bool.false_ne_true
 | _=>cases y<;>exact absurd (show false=true from hs) Bool.false_ne_true
theorem uD:bY X (compareOp .Lt) (Kw fun i j=>.bl (decide (i < j))):=Ke fun _ _ _ _ _ _ _ q=>lt_int q
theorem XM:bY X (compareOp .LtE) (Kw fun i j=>.bl (decide (i≤j))):=Ke fun _ _ _ _ _ _ _ q=>le_int q
theorem iU:bY X (compareOp .Gt) (Kw fun i j=>.bl (decide (j < i))):=Ke fun _ _ _ _ _ _ _ q=>gt_int q
theorem aB:bY X (compareOp .In) (fun x y H Q=>∃i j,x=.str i∧y=.str j∧Q (.bl (!(Builtin.Str.occurrences j i 0 j.length 1).isEmpty)) H):=by
 intro pins s σ H x y v u Q I rx ry h
 obtain⟨i,j,rfl,rfl,q⟩:=h
 obtain⟨t,rfl⟩:=rx
 obtain⟨t',rfl⟩:=ry
 exact in_str (jk I q rfl)
theorem ZY:bY X (compareOp .Is) (fun x y H Q=>y=.non∧Q (.bl (decide (x=.non))) H):=by
 intro pins s σ H x y v u Q I rx ry h
 obtain⟨rfl,q⟩:=h
 cases ry
 refine is_none_gen (jk I q ?_)
 cases x<;>first
  | (cases rx;rfl)
  | (obtain⟨t,rfl⟩:=rx;rfl)
theorem iQ:bY X (compareOp .IsNot) (fun x y H Q=>y=.non∧Q (.bl (!decide (x=.non))) H):=by
 intro pins s σ H x y v u Q I rx ry h
 obtain⟨rfl,q⟩:=h
 cases ry
 refine isnot_none_gen (jk I q ?_)
 cases x<;>first
  | (cases rx;rfl)
  | (obtain⟨t,rfl⟩:=rx;rfl)
noncomputable def isObj:HO→Bool
 | .lst _=>true
 | .ins _ _ _=>true
 | _=>false
theorem qt (b:Expr) {op:CmpOp} (h:op≠.In:=by decide) (h2:op≠.NotIn:=by decide):behindInMarks op b=false:=by
 have e1:(op == CmpOp.In)=false:=by cases op<;>first | rfl | exact absurd rfl h
 have e2:(op == CmpOp.NotIn)=false:=by cases op<;>first | rfl | exact absurd rfl h2
 cases b<;>simp [behindInMarks,e1,e2]
theorem va {op:CmpOp} {r:R2} (ho:bY X (compareOp op) r) (ha:PE X a ta) (hb:PE X b tb) (hm:behindInMarks op b=false):PE X (.Compare a [op] [b] pos) (We r ta tb):=by
 intro pins s σ H Q I h
 exact wpAny_Compare1 (Kv ha hb I h fun v u s2 x y H2 I2 rx ry q=>ho pins s2 σ H2 x y v u Q I2 rx ry q) hm
noncomputable def V7 (t:TE):TT:=fun σ H Q=>t σ H fun x H'=>∃k,x=.bl k∧Q k H'
theorem qu {op:CmpOp} {r:R2} (ho:bY X (compareOp op) r) (ha:PE X a ta) (hb:PE X b tb) (hm:behindInMarks op b=false):PT X (.Compare a [op] [b] pos) (V7 (We r ta tb)):=by
 intro pins s σ H Q I h
 refine wpAny_isTrue_Compare1 (j5 (ha pins s σ H _ I h) fun v s1 ⟨x,H1,I1,r1,q1⟩=>j5 (hb pins s1 σ H1 _ I1 q1) fun u s2 ⟨y,H2,I2,r2,q2⟩=>
  j5 (ho pins s2 σ H2 x y v u _ I2 r1 r2 q2) fun c s3 ⟨z,H3,I3,r3,k,e,q3⟩=>?_) hm
 subst e
 cases r3
 exact wpAny_truthy_bool ⟨H3,I3,q3⟩
noncomputable def KU (r r':R2) (ta tb tc:TE):TE:=fun σ H Q=>ta σ H fun x H1=>tb σ H1 fun y H2=>r x y H2 fun z H3=>∃k,z=.bl k∧
 (if k=true then tc σ H3 fun w' H4=>r' y w' H4 Q else Q (.bl false) H3)
theorem ZW {op op':CmpOp} {r r':R2} (ho:bY X (compareOp op) r) (ho':bY X (compareOp op') r') (ha:PE X a ta) (hb:PE X b tb) (hc:PE X c tc)
  (hm:lastMarks [op,op'] [b,c]=false:=by with_unfolding_all rfl):PE X (.Compare a [op,op'] [b,c] pos) (KU r r' ta tb tc):=by
 intro pins s σ H Q I h
 refine Compare_chain (j5 (ha pins s σ H _ I h) fun v s1 ⟨x,H1,I1,r1,q1⟩=>chain_link (j5 (hb pins s1 σ H1 _ I1 q1) fun u s2 ⟨y,H2,I2,r2,q2⟩=>
  j5 (ho pins s2 σ H2 x y v u _ I2 r1 r2 q2) fun d s3 ⟨z,H3,I3,r3,k,e,q3⟩=>?_)) hm
 subst e
 cases r3
 refine wpAny_truthy_bool ?_
 cases k with
 | false=>exact ite_ff ⟨.bl false,H3,I3,rfl,q3⟩
 | true=>exact ite_tt (chain_last (j5 (hc pins s3 σ H3 _ I3 q3) fun w' s4 ⟨z',H4,I4,r4,q4⟩=>ho' pins s4 σ H4 y z' u w' Q I4 r2 r4 q4))
noncomputable def GH (K:PySem.W.Frag) (x:V) (H:Hp) (k:Bool):Prop:=
 match x with
 | .non=>k=false
 | .bl b=>k=b
 | .int i=>k=(i != 0)
 | .str y=>y.length≤sizeLine∧k=((y.length:Int) != 0)
 | .byt y=>y.size≤sizeLine∧k=((y.size:Int) != 0)
 | .ref p=>(∃xs,qI K H p xs∧k = !xs.isEmpty)∨(∃xs,yT K H p xs∧k = !xs.isEmpty)∨∃kvs,H p=some (.dK kvs)∧k = !kvs.isEmpty
 | _=>False
theorem cU:(sizeLine:Nat) < 2 ^ 63:=by rw[sizeLine_eq];decide
theorem qm:bY X (binaryOp .Add) (fun x y H Q=>∃i j,x=.str i∧y=.str j∧i.length + j.length≤sizeLine∧Q (.str (i ++ j)) H):=by
 intro pins s σ H x y v u Q I rx ry h
 obtain⟨i,j,rfl,rfl,hz,q⟩:=h
 obtain⟨t,rfl⟩:=rx
 obtain⟨t',rfl⟩:=ry
 exact add_str (fun t' tk=>⟨.str (i ++ j),H,I.tok _,⟨_,rfl⟩,q⟩) hz
noncomputable def VQ (b:Expr):Prop:=∀o i,subscripted b false o i=operate [o,i] (getItem o i)
theorem vals1 {x:V} {us:List Value} (r:Vals [x] us):∃u,us=[u]∧RelV x u:=by
 cases r with
 | cons r1 r2=>cases r2;exact⟨_,rfl,r1⟩
theorem vals2 {x y:V} {us:List Value} (r:Vals [x,y] us):∃u w',us=[u,w']∧RelV x u∧RelV y w':=by
 cases r with
 | cons r1 r2=>
  cases r2 with
  | cons r3 r4=>cases r4;exact⟨_,_,rfl,r1,r3⟩
theorem bO:vf X (.type "int") (fun xs H Q=>(∃i,xs=[.int i]∧Q (.int i) H)∨∃k,xs=[.bl k]∧Q (.int (if k then 1 else 0)) H):=by
 intro pins s σ H xs us Q I r h
 rcases h with ⟨i,rfl,q⟩ | ⟨k,rfl,q⟩
 ·obtain⟨u,rfl,t,rfl⟩:=vals1 r
  exact call_int_int ⟨.int i,H,I,⟨_,rfl⟩,q⟩
 ·obtain⟨u,rfl,r1⟩:=vals1 r
  cases r1
  exact call_int_bool ⟨.int (if k then 1 else 0),H,I.tok _,⟨_,rfl⟩,q⟩
theorem lu:vf X (.type "str") (fun xs H Q=>∃i,xs=[.int i]∧i.natAbs.log2 < 1920∧Q (.str (toString i)) H):=by
 intro pins s σ H xs us Q I r h
 obtain⟨i,rfl,hz,q⟩:=h
 obtain⟨u,rfl,t,rfl⟩:=vals1 r
 exact PySem.P.str_of_int hz ⟨.str _,H,I.tok _,⟨_,rfl⟩,q⟩
noncomputable def Gg (K:PySem.W.Frag) (x:V) (H:Hp) (n:Nat):Prop:=
 match x with
 | .str y=>y.length≤sizeLine∧n=y.length
 | .byt y=>y.size≤sizeLine∧n=y.size
 | .ref p=>(∃xs,qI K H p xs∧n=xs.length)∨∃xs,yT K H p xs∧n=xs.length
 | _=>False
end
end L2
namespace L2
open PySem PySem.Spec PyProof.Rows
structure nO (h:Heap) (x dx C:Addr) (mA:Str→Option Value):Prop where
 obj:h.get? x=some (PySem.W.instObj C dx)
 ns:h.Ns1 dx mA
 ne:dx≠x
theorem uU {h:Heap} {dx:Addr} {mA:Str→Option Value} (n:h.Ns1 dx mA):∃od,h.get? dx=some od∧∀name,PySem.W.lookIn name od=some (mA name):=by
 obtain⟨o,es,ep,ho,hd,hk,_,hm⟩:=n
 refine⟨o,ho,fun name=>?_⟩
 have e:=hm name
 unfold nsFind findBy at e
 rw[←Array.find?_toList] at e
 unfold PySem.W.lookIn
 rw[hd]
 dsimp only
 split
 ·rename_i y q
  rw[q] at e
  exact congrArg some e
 ·rename_i q
  rw[q] at e
  have a:es.toList.any (·.refKey)=false:=by
   rw[List.any_eq_false]
   intro y hy
   obtain⟨z,t,hkey⟩:=hk y (Array.mem_toList_iff.mp hy)
   simp [DictEntry.refKey,hkey]
  have a':¬es.toList.any (·.refKey)=true:=by rw[a];exact Bool.false_ne_true
  rw[if_neg a']
  exact congrArg some e
theorem nO.look {h:Heap} {x dx C:Addr} {mA:Str→Option Value} (I:nO h x dx C mA):∃od,PySem.W.InstAt h x (PySem.W.instObj C dx) C (some od)∧∀name,PySem.W.lookIn name od=some (mA name):=
 let ⟨od,ho,hl⟩:=uU I.ns
 ⟨od,⟨I.obj,rfl,rfl,ho⟩,hl⟩
section
variable {prog:Program} {w:World} {A:Around} {E:Value→Shared→Prop} {s:Shared} {K:PySem.W.Frag} {x dx C f:Addr} {mA:Str→Option Value} {name:Str} {v:Value}
theorem get_map {expr:Bool} {Q:Value→Shared→Prop} (X:K.In s.heap) (I:nO s.heap x dx C mA) (hg:PySem.W.plainGet K C name=true) (hh:PySem.W.hasDictIn K C=true)
  (ha:PySem.W.findIn K (.ref C) name=some none) (hv:mA name=some v) (hv':PySem.W.handedIn v=true) (h:Q v { s with toks:=s.toks + 1 }) :
  wpAny (model prog w) A (getAttr (.ref x) name expr) Q E s:=by
 obtain⟨od,J,hl⟩:=I.look
 exact PySem.W.get_value X J (PySem.W.plainGet_of hg).1 (PySem.W.findObj_own hh ha rfl (by rw[hl,hv])) hv' h
theorem Z8 {pl:Sem Bool} {Q:Value × List Value→Shared→Prop} (X:K.In s.heap) (I:nO s.heap x dx C mA) (hg:PySem.W.plainGet K C name=true)
  (hf:PySem.W.findIn K (.ref C) name=some (some (.ref f))) (ht:PySem.W.isFn K (.ref f)=true) (hv:mA name=none) (h:Q (.ref f,[.ref x]) s) :
  wpAny (model prog w) A (getMethod (.ref x) name pl) Q E s:=by
 obtain⟨od,J,hl⟩:=I.look
 exact PySem.W.method_fn X J (PySem.W.plainGet_of hg).1 (PySem.W.plainGet_of hg).2 hf (beq_iff_eq.mp ht) (by show (PySem.W.lookIn name od).map (·.isSome)=some false;rw[hl,hv];rfl) h
theorem Xz {ns:List Str} {Q:Unit→Shared→Prop} (X:K.In s.heap) (I:nO s.heap x dx C mA)
  (hs:PySem.W.findIn K (.ref C) "__setattr__" = some (some (.builtin "object.__setattr__"))) (hp:PySem.W.plainOver K C=true) (ht:PySem.W.takerIn K C name=some none) (hh:PySem.W.hasDictIn K C=true)
  (hw:PySem.Within mA ns) (hsz:ns.length≤sizeLine)
  (h:∀h',nO h' x dx C (fun y=>if y=name then some v else mA y)→Heap.SameBut dx s.heap h'→Q () { s with heap:=h',toks:=s.toks + 2 }) :
  wpAny (model prog w) A (setAttr (.ref x) name v) Q E s:=by
 obtain⟨od,J,hl⟩:=I.look
 refine PySem.W.set_plain X J hs (PySem.W.osa_open (s:={ s with toks:=s.toks + 1 }) (r:=none) X J hp ht fun b=>?_)
 obtain⟨cd,hc,hd'⟩:=PySem.W.any_some hh
 have hx:s.heap.get? x=some ⟨.ref C,some dx,.plain,#[]⟩:=I.obj
 refine wpAny_bind (wpAny_pure (wpAny_bind (wpAny_bind (wpAny_loadPart hx (wpAny_bind (PySem.W.Looks.here (s:={ s with toks:=s.toks + 1 }) (PySem.W.looks_clsIn X hc) ?_))))))
 rw[hd']
 refine wpAny_pure (a:=some dx) (wpAny_bind (wpAny_pure (wpAny_bind ?_)))
 refine wpAny_nsSet1 (s:={ s with toks:=s.toks + 1 }) I.ns fun h' hn2 hs2=>?_
 obtain⟨oD,esD,epD,hoD,hdD,hcD⟩:=hn2.count (PySem.Within.cons name v hw)
 refine wpAny_bind (wpAny_lookBehind hoD (by rw[hdD];exact pastItsLine_dict (Nat.le_trans hcD (by rw[List.length_cons];omega))) ?_)
 exact wpAny_pure (h _ ⟨(hs2.2 _ (Ne.symm I.ne)).trans I.obj,hn2,I.ne⟩ hs2)
theorem Ql {R:Result→Shared→Prop} {vs:List Value} {kw:List (Str × Value)} (X:K.In s.heap) (hm:PySem.W.makesIn K C=true)
  (hi:PySem.W.findIn K (.ref C) "__init__" = some (some (.ref f))) (hf:PySem.W.typeIn K (.ref f)=some (.type "function"))
  (h:codeAny (model prog w) (A.under (.builtin "type.__call__" ⟨.ref C :: vs,kw⟩)) (.call (.ref f) ⟨.ref (s.heap.objs.size + 1) :: vs,kw⟩) (PySem.W.InitBack (s.heap.objs.size + 1) R)
   { s with heap:=(s.heap.push PySem.W.emptyDict).push (PySem.W.instObj C s.heap.objs.size) }) :
  codeAny (model prog w) A (.call (.ref C) ⟨vs,kw⟩) R s:=by
 obtain⟨hh,g,d,t,os⟩:=s
 exact PySem.W.make_core (PySem.W.makes_of X hm) (PySem.W.looks_findIn X hi) (fun self=>PySem.W.bind_fn X self hf) (.inl rfl) h
end
noncomputable def qY (f:Str) (v:V):List (Str × V)→List (Str × V)
 | []=>[(f,v)]
 | (g,x) :: r=>if g=f then (g,v) :: r else (g,x) :: qY f v r
theorem bq (f g:Str) (v:V):∀fs:List (Str × V),(qY f v fs).lookup g=if g=f then some v else fs.lookup g
 | []=>by
  show List.lookup g [(f,v)]=_
  by_cases h:g=f
  ·have hb:(g == f)=true:=beq_iff_eq.mpr h
   simp only[List.lookup,hb,if_pos h]
  ·have hb:(g == f)=false:=beq_eq_false_iff_ne.mpr h
   simp only[List.lookup,hb,if_neg h]
 | (k,x) :: r=>by
  have ih:=bq f g v r
  rw[show qY f v ((k,x) :: r)=(if k=f then (k,v) :: r else (k,x) :: qY f v r) from rfl]
  by_cases hk:k=f
  ·rw[if_pos hk]
   by_cases h:g=k
   ·have hb:(g == k)=true:=beq_iff_eq.mpr h
    simp only[List.lookup,hb,if_pos (h.trans hk)]
   ·have hb:(g == k)=false:=beq_eq_false_iff_ne.mpr h
    simp only[List.lookup,hb,if_neg (fun e:g=f=>h (e.trans hk.symm))]
  ·rw[if_neg hk]
   by_cases h:g=k
   ·have hb:(g == k)=true:=beq_iff_eq.mpr h
    simp only[List.lookup,hb,if_neg (fun e:g=f=>hk (h.symm.trans e))]
   ·have hb:(g == k)=false:=beq_eq_false_iff_ne.mpr h
    simp only[List.lookup,hb]
    exact ih
theorem yC (f:Str) (v:V):∀fs:List (Str × V),f∈(qY f v fs).map (·.1)∧∀g,g∈fs.map (·.1)→g∈(qY f v fs).map (·.1)
 | []=>⟨by simp [qY],fun g h=>by simp at h⟩
 | (k,x) :: r=>by
  obtain⟨i1,i2⟩:=yC f v r
  rw[show qY f v ((k,x) :: r)=(if k=f then (k,v) :: r else (k,x) :: qY f v r) from rfl]
  by_cases hk:k=f
  ·rw[if_pos hk]
   subst hk
   exact⟨by simp,fun g h=>by simpa using h⟩
  ·rw[if_neg hk]
   refine⟨?_,fun g h=>?_⟩
   ·rw[List.map_cons]
    exact List.mem_cons_of_mem _ i1
   ·rw[List.map_cons] at h ⊢
    rcases List.mem_cons.mp h with e | e
    ·exact List.mem_cons.mpr (.inl e)
    ·exact List.mem_cons_of_mem _ (i2 g e)
theorem xi (f:Str) (v:V):∀fs:List (Str × V),(qY f v fs).length≤fs.length + 1
 | []=>by simp [qY]
 | (k,x) :: r=>by
  have ih:=xi f v r
  rw[show qY f v ((k,x) :: r)=(if k=f then (k,v) :: r else (k,x) :: qY f v r) from rfl]
  by_cases hk:k=f
  ·rw[if_pos hk,List.length_cons,List.length_cons];omega
  ·rw[if_neg hk,List.length_cons,List.length_cons];omega
theorem yB.some_of {v:V} {o:Option Value} (r:yB (some v) o):∃u,o=some u∧RelV v u:=by
 cases o with
 | none=>exact(show False from r).elim
 | some u=>exact⟨u,rfl,r⟩
theorem yB.none_of {o:Option Value} (r:yB none o):o=none:=by
 cases o with
 | none=>rfl
 | some u=>exact(show False from r).elim
theorem eD {v:V} {u:Value} (r:RelV v u):PySem.W.handedIn u=true:=by
 cases v with
 | non=>cases (show u=Value.none from r);rfl
 | bl b=>cases (show u=Value.bool b from r);rfl
 | int i=>obtain⟨t,e⟩:=(show ∃t,u=Value.int i t from r);cases e;rfl
 | str x=>obtain⟨t,e⟩:=(show ∃t,u=Value.str x t from r);cases e;rfl
 | byt b=>obtain⟨t,e⟩:=(show ∃t,u=Value.bytes b t from r);cases e;rfl
 | flt b=>obtain⟨t,e⟩:=(show ∃t,u=Value.float b t from r);cases e;rfl
 | ref a=>cases (show u=Value.ref a from r);rfl
 | ty n=>cases (show u=Value.type n from r);rfl
section
variable {P:Program} {w:World} {H H':Hp} {h h':Heap} {a C dx:Addr} {fs fs':List (Str × V)}
theorem dZ (jg:gF P w H h) (e:H a=some (.ins C dx fs)):∃mA,nO h a dx C mA∧(∀f,yB (fs.lookup f) (mA f))∧PySem.Within mA (fs.map (·.1))∧fs.length≤1000∧H dx=some (.own a):=by
 obtain⟨d,z,ne,ob,mA,n,r,q⟩:=(show jO P w H h a (.ins C dx fs) from jg a _ e)
 exact⟨mA,⟨ob,n,ne⟩,r,q,z,d⟩
end
structure dW (K:PySem.W.Frag) (C:Addr):Prop where
 pg:PySem.W.plainGet K C Str.empty=true
 hd:PySem.W.hasDictIn K C=true
 po:PySem.W.plainOver K C=true
 sa:PySem.W.findIn K (.ref C) "__setattr__" = some (some (.builtin "object.__setattr__"))
theorem dW.get {K:PySem.W.Frag} {C:Addr} (c:dW K C) (f:Str):PySem.W.plainGet K C f=true:=c.pg
noncomputable def qQ (K:PySem.W.Frag) (C:Addr) (f:Str):Prop:=PySem.W.findIn K (.ref C) f=some none
theorem qQ.Wv {K:PySem.W.Frag} {C:Addr} {f:Str} (n:qQ K C f):PySem.W.takerIn K C f=some none:=by
 unfold PySem.W.takerIn
 rw[show PySem.W.findIn K (.ref C) f=some none from n]
 rfl
structure GQ (K:PySem.W.Frag) (C:Addr) (f:Str) (v:V) (u:Value):Prop where
 at_:PySem.W.findIn K (.ref C) f=some (some u)
 rel:RelV v u
 get:PySem.W.specialIn K u "__get__" = some none
 cp:PySem.W.copiedNames.contains f=false
structure Meth (K:PySem.W.Frag) (C:Addr) (m:Str) (f:Addr):Prop where
 at_:PySem.W.findIn K (.ref C) m=some (some (.ref f))
 fn:PySem.W.isFn K (.ref f)=true
 kp:PySem.W.keepIn K (.ref f)=true
section
variable {X:Cx} {pins:List (Addr × Obj)} {σ:St} {H:Hp} {s:Shared} {a C dx:Addr} {fs:List (Str × V)} {f:Str} {v:V} {A:Around} {E:Value→Shared→Prop}
theorem iq {b:Bool} {Q:Value→Shared→Prop} (I:Inv X pins σ H s) (e:H a=some (.ins C dx fs)) (c:dW X.K C) (n:qQ X.K C f) (l:fs.lookup f=some v)
  (h:∀u s',Inv X pins σ H s'→RelV v u→Q u s'):wpAny (model X.prog X.w) A (getAttr (.ref a) f b) Q E s:=by
 obtain⟨mA,O,r,_,_,_⟩:=dZ I.jg e
 obtain⟨u,hu,ru⟩:=yB.some_of (v:=v) (o:=mA f) (by rw[←l];exact r f)
 exact get_map I.gP O (c.get f) c.hd n hu (eD ru) (h u _ (I.tok _) ru)
theorem fz {m:Str} {g:Addr} {pl:Sem Bool} {Q:Value × List Value→Shared→Prop} (I:Inv X pins σ H s) (e:H a=some (.ins C dx fs)) (c:dW X.K C) (k:Meth X.K C m g) (l:fs.lookup m=none)
  (h:Q (.ref g,[.ref a]) s):wpAny (model X.prog X.w) A (getMethod (.ref a) m pl) Q E s:=by
 obtain⟨mA,O,r,_,_,_⟩:=dZ I.jg e
 have hn:mA m=none:=yB.none_of (by rw[←l];exact r m)
 exact Z8 I.gP O (c.get m) k.at_ k.fn hn h
theorem oa {y:V} {u:Value} {Q:Unit→Shared→Prop} (I:Inv X pins σ H s) (e:H a=some (.ins C dx fs)) (c:dW X.K C) (n:qQ X.K C f) (hl:fs.length < 1000) (ry:RelV y u)
  (h:∀s',Inv X pins σ (upd H a (.ins C dx (qY f y fs))) s'→Q () s'):wpAny (model X.prog X.w) A (setAttr (.ref a) f u) Q E s:=by
 obtain⟨mA,O,r,wi,_,ho⟩:=dZ I.jg e
 have hz:(fs.map (·.1)).length≤sizeLine:=by rw[List.length_map,sizeLine_eq];omega
 refine Xz I.gP O c.sa c.po n.Wv c.hd wi hz fun h' O' sb=>h _ ?_
 have hd:∃o,h'.get? dx=some o:=let ⟨o,_,_,e',_⟩:=O'.ns;⟨o,e'⟩
 refine I.write (x:=a) (e:=dx) (by rw[e];exact True.intro) (.inr ho) (fun b q hb z=>(sb.2 b hb).trans z) hd ?_
 refine⟨by rw[qW O.ne];exact ho,?_,O.ne,O'.obj,_,O'.ns,fun g=>?_,fun g hg=>?_⟩
 ·have:=xi f y fs;omega
 ·show yB ((qY f y fs).lookup g) (if g=f then some u else mA g)
  rw[bq]
  by_cases q:g=f
  ·rw[if_pos q,if_pos q];exact ry
  ·rw[if_neg q,if_neg q];exact r g
 ·by_cases q:g=f
  ·rw[q];exact(yC f y fs).1
  ·refine(yC f y fs).2 g (wi g fun z=>hg ?_)
   show (if g=f then some u else mA g)=none
   rw[if_neg q];exact z
theorem Inv.made (I:Inv X pins σ H s):Inv X pins σ (upd (upd H s.heap.objs.size (.own (s.heap.objs.size + 1))) (s.heap.objs.size + 1) (.ins C s.heap.objs.size []))
  { s with heap:=(s.heap.push PySem.W.emptyDict).push (PySem.W.instObj C s.heap.objs.size) }:=by
 have e1:(s.heap.push PySem.W.emptyDict).get? s.heap.objs.size=some PySem.W.emptyDict:=Heap.get?_push_size s.heap rfl
 have e2:((s.heap.push PySem.W.emptyDict).push (PySem.W.instObj C s.heap.objs.size)).get? (s.heap.objs.size + 1)=some (PySem.W.instObj C s.heap.objs.size):=by
  have:=Heap.get?_push_size (s.heap.push PySem.W.emptyDict) (o:=PySem.W.instObj C s.heap.objs.size) rfl
  rwa [Heap.size_push] at this
 have e3:(s.heap.push PySem.W.emptyDict).Ns s.heap.objs.size (fun _=>none):=⟨PySem.W.emptyDict,#[],_,e1,rfl,(fun e he=>absurd he (by simp)),fun _=>rfl⟩
 have I1:=I.laid (a:=s.heap.objs.size) (o:=.own (s.heap.objs.size + 1)) (h':=s.heap.push PySem.W.emptyDict) (t':=s.toks) (fun b u q=>Heap.get?_push_of_some _ q) (Nat.le_refl _) ⟨_,e1⟩
 refine I1.laid (a:=s.heap.objs.size + 1) (o:=.ins C s.heap.objs.size []) (t':=s.toks) (fun b u q=>Heap.get?_push_of_some _ q) (Nat.le_of_eq (Heap.size_push _ _)) ?_
 have ne:s.heap.objs.size≠s.heap.objs.size + 1:=Nat.ne_of_lt (Nat.lt_succ_self _)
 refine⟨by rw[qW ne,qv],Nat.zero_le _,ne,e2,fun _=>none,(Heap.Ns1.of_empty e3).at fun o q=>Heap.get?_push_of_some _ q,fun _=>True.intro,fun y hy=>absurd rfl hy⟩
theorem JK {prog:Program} {w:World} {env:Env} {e:Expr} {f:Str} {pos:Pos} {s:Shared} {Q:Value→Shared→Prop} (hb:attributeBase e f env (eval e env)=eval e env)
  (h:wpAny (model prog w) A (eval e env) (fun o s₁=>wpAny (model prog w) A (getAttr o f true) Q E s₁) E s):wpAny (model prog w) A (eval (.Attribute e f pos) env) Q E s:=
 Attribute_any_ h (by rw[arm_eval_Attribute,hb])
end
noncomputable def W4 (K:PySem.W.Frag) (ta:TE) (f:Str):TE:=fun σ H Q=>ta σ H fun x H1=>∃a C dx fs v,x=.ref a∧H1 a=some (.ins C dx fs)∧dW K C∧qQ K C f∧fs.lookup f=some v∧Q v H1
noncomputable def G0 (K:PySem.W.Frag) (ta:TE) (f:Str):TE:=fun σ H Q=>ta σ H fun x H1=>∃a C dx fs v u,x=.ref a∧H1 a=some (.ins C dx fs)∧dW K C∧GQ K C f v u∧fs.lookup f=none∧Q v H1
noncomputable def W5 (K:PySem.W.Frag) (ta tv:TE) (f:Str):TS:=fun D σ H=>tv σ H fun y H1=>ta σ H1 fun x H2=>∃a C dx fs,x=.ref a∧H2 a=some (.ins C dx fs)∧dW K C∧qQ K C f∧fs.length < 1000∧
 D.nx σ (upd H2 a (.ins C dx (qY f y fs)))
noncomputable def GK (X:Cx) (op:Operator) (rd:V→V→Hp→VK→Prop):Prop:=
 ∀(pins:List (Addr × Obj)) (s:Shared) (σ:St) (H:Hp) (x y:V) (u v:Value) (Q:VK),Inv X pins σ H s→RelV x u→RelV y v→rd x y H Q→wpAny (model X.prog X.w) X.A (inplaceOp op u v) (EP X pins σ Q) X.xe s
noncomputable def Wa (K:PySem.W.Frag) (ta tv:TE) (rd:V→V→Hp→VK→Prop) (f:Str):TS:=fun D σ H=>ta σ H fun x H1=>∃a C dx fs v,x=.ref a∧H1 a=some (.ins C dx fs)∧dW K C∧qQ K C f∧fs.lookup f=some v∧
 tv σ H1 fun y H2=>rd v y H2 fun z H3=>∃dx' fs',H3 a=some (.ins C dx' fs')∧fs'.length < 1000∧D.nx σ (upd H3 a (.ins C dx' (qY f z fs')))
section
variable {X:Cx} {o e value:Expr} {f:Str} {pos pos' tpos:Pos} {ta tv:TE}
theorem Vq (he:PE X e ta) (hb:attributeBase e f X.env (eval e X.env)=eval e X.env):PE X (.Attribute e f pos) (W4 X.K ta f):=by
 intro pins s σ H Q I h
 refine JK hb (j5 (he pins s σ H _ I h) fun u s1 ⟨x,H1,I1,rx,a,C,dx,fs,v,ex,ea,c,n,l,q⟩=>?_)
 subst ex
 obtain rfl:u=Value.ref a:=rx
 exact iq I1 ea c n l fun u' s2 I2 ru=>⟨v,H1,I2,ru,q⟩
theorem xW (ha:PE X o ta) (hv:PE X value tv) (hs:swapsWith value (some (.Attribute o f pos')) pos.line X.env=pure false):PS X (.Assign [.Attribute o f pos'] value pos) (W5 X.K ta tv f):=by
 intro pins s σ H D I h
 refine plainObj_wpAny_Assign_Attribute (j5 (hv pins s σ H _ I h) fun u s1 ⟨y,H1,I1,ry,q⟩=>j5 (ha pins s1 σ H1 _ I1 q) fun ov s2 ⟨x,H2,I2,rx,a,C,dx,fs,ex,ea,c,n,l,q2⟩=>?_) hs
 subst ex
 obtain rfl:ov=Value.ref a:=rx
 exact oa I2 ea c n l ry fun s3 I3=>⟨σ,_,I3,q2⟩
noncomputable def Gf:V→V→Hp→VK→Prop:=fun x y H Q=>∃i j,x=.int i∧y=.int j∧Q (.int (i + j)) H
noncomputable def Gu:V→V→Hp→VK→Prop:=fun x y H Q=>∃i j,x=.int i∧y=.int j∧Q (.int (i - j)) H
theorem Xn {pl:Sem Bool} {m:Str} {apos:Pos} {args:List Expr} {pins:List (Addr × Obj)} {s:Shared} {σ:St} {H:Hp} {Q:Value→Shared→Prop} {te:TE} (he:PE X e te) (I:Inv X pins σ H s)
  (h:te σ H fun x H1=>∃a C dx fs g,x=.ref a∧H1 a=some (.ins C dx fs)∧dW X.K C∧Meth X.K C m g∧fs.lookup m=none∧
   ∀s1,Inv X pins σ H1 s1→wpAny (model X.prog X.w) X.A (callWith pos (.ref g) [.ref a] (backTo pos (starEach args X.env)) (backToKw pos (keywordEach [] X.env))) Q X.xe s1)
  (ht:eval (.Call (.Attribute e m apos) args [] pos) X.env=(do
   let ov ←eval e X.env
   standAt apos.atName
   let (f,first) ←holding [ov] (getMethod ov m pl)
   callWith pos f first (backTo pos (starEach args X.env)) (backToKw pos (keywordEach [] X.env)))) :
  wpAny (model X.prog X.w) X.A (eval (.Call (.Attribute e m apos) args [] pos) X.env) Q X.xe s:=by
 refine PySem.W.methodCall_KW (pl:=pl) (j5 (he pins s σ H _ I h) fun u s1 ⟨x,H1,I1,rx,a,C,dx,fs,g,ex,ea,c,k,l,q⟩=>?_) ht
 subst ex
 obtain rfl:u=Value.ref a:=rx
 exact fz I1 ea c k l (q s1 I1)
end
section
variable {X:Cx} {pins:List (Addr × Obj)} {σ:St} {H:Hp} {s:Shared} {A:Around} {E:Value→Shared→Prop} {Q:Value→Shared→Prop} {c:Value} {b:Bool}
inductive ki (K:PySem.W.Frag) (H:Hp):V→Value→Prop where
 | non:ki K H .non (.type "NoneType")
 | bl (x:Bool):ki K H (.bl x) (.type "bool")
 | int (i:Int):ki K H (.int i) (.type "int")
 | str (x:Str):ki K H (.str x) (.type "str")
 | flt (x:UInt64):ki K H (.flt x) (.type "float")
 | lst {a:Addr} {xs:List V} (e:H a=some (.lst xs)):ki K H (.ref a) (.type "list")
 | frz {a:Addr} {o:Obj} {xs:List V} (e:H a=some (.frz o (.lst xs))):ki K H (.ref a) (.type "list")
 | tup {a:Addr} {xs:List V} (e:H a=some (.tup xs)):ki K H (.ref a) (.type "tuple")
 | dK {a:Addr} {kvs:List (Key × V)} (e:H a=some (.dK kvs)):ki K H (.ref a) (.type "dict")
 | dT {a:Addr} {kvs:List (List Key × V)} (e:H a=some (.dT kvs)):ki K H (.ref a) (.type "dict")
 | ins {a C dx:Addr} {fs:List (Str × V)} (e:H a=some (.ins C dx fs)) (cl:dW K C) (ha:PySem.W.findIn K (.ref C) "__class__" = some (some (.builtin "object.__class__")))
   (hn:PySem.W.specialIn K (.builtin "object.__class__") "__get__" = some (some (.builtin "getset_descriptor.__get__"))) (YY:PySem.W.takesIn K (.builtin "object.__class__")=some true)
   (hm:PySem.W.mroIn K C (.type "object")=some true):ki K H (.ref a) (.ref C)
theorem aG {x:V} {u t:Value} (I:Inv X pins σ H s) (rx:RelV x u) (ty:ki X.K H x t) (e:PySem.W.kitOne X.K t c=some b) (h:∀tk,Q (.bool b) { s with toks:=tk }) :
  wpAny (model X.prog X.w) A (call (.builtin "isinstance") [u,c]) Q E s:=by
 cases ty with
 | non=>cases (show u=Value.none from rx);exact PySem.W.kia_one PySem.W.kitx_none I.gP True.intro e (fun z=>nomatch z) h
 | bl y=>cases (show u=Value.bool y from rx);exact PySem.W.kia_one PySem.W.kitx_bool I.gP True.intro e (fun z=>nomatch z) h
 | int i=>obtain⟨t,q⟩:=(show ∃t,u=Value.int i t from rx);cases q;exact PySem.W.kia_one PySem.W.kitx_int I.gP True.intro e (fun z=>nomatch z) h
 | str y=>obtain⟨t,q⟩:=(show ∃t,u=Value.str y t from rx);cases q;exact PySem.W.kia_one PySem.W.kitx_str I.gP True.intro e (fun z=>nomatch z) h
 | flt y=>obtain⟨t,q⟩:=(show ∃t,u=Value.float y t from rx);cases q;exact PySem.W.kia_one PySem.W.kitx_float I.gP True.intro e (fun z=>nomatch z) h
 | @lst a xs ea=>
  cases (show u=Value.ref a from rx)
  obtain⟨_,_,n,_,h1⟩:=(show jO X.prog X.w H s.heap a (.lst xs) from I.jg a _ ea)
  exact PySem.W.kia_one PySem.W.kitx_list I.gP ⟨_,h1,rfl⟩ e (fun z=>nomatch z) h
 | @frz a ob xs ea=>
  cases (show u=Value.ref a from rx)
  obtain⟨_,_,_,n,_,h1⟩:=(show jO X.prog X.w H s.heap a (.frz ob (.lst xs)) from I.jg a _ ea)
  exact PySem.W.kia_one PySem.W.kitx_list I.gP ⟨_,h1,rfl⟩ e (fun z=>nomatch z) h
 | @tup a xs ea=>
  cases (show u=Value.ref a from rx)
  obtain⟨_,_,_,p⟩:=(show jO X.prog X.w H s.heap a (.tup xs) from I.jg a _ ea)
  obtain⟨o,h1,h2,_⟩:=p
  exact PySem.W.kia_one PySem.W.kitx_tuple I.gP ⟨o,h1,h2⟩ e (fun z=>nomatch z) h
 | @dK a kvs ea=>
  cases (show u=Value.ref a from rx)
  obtain⟨_,_,vs,_,p⟩:=(show jO X.prog X.w H s.heap a (.dK kvs) from I.jg a _ ea)
  obtain⟨o,es,ep,h1,h2,_⟩:=p
  exact PySem.W.kia_one PySem.W.kitx_dict I.gP ⟨o,h1,h2.1⟩ e (fun z=>nomatch z) h
 | @dT a kvs ea=>
  cases (show u=Value.ref a from rx)
  obtain⟨_,_,xs,_,o,es,ep,h1,h2,_⟩:=(show jO X.prog X.w H s.heap a (.dT kvs) from I.jg a _ ea)
  exact PySem.W.kia_one PySem.W.kitx_dict I.gP ⟨o,h1,h2.1⟩ e (fun z=>nomatch z) h
 | @ins a C dx fs ea cl ha hn YY hm=>
  cases (show u=Value.ref a from rx)
  obtain⟨mA,O,_⟩:=dZ I.jg ea
  obtain⟨od,J,_⟩:=O.look
  exact PySem.W.kia_one (PySem.W.kitx_own (cl.get _) cl.hd ha hn YY hm) I.gP J e (fun z=>nomatch z) h
end
end L2
namespace L2
open PySem PySem.Spec PyProof.Rows
structure kH (k:Nat) (A:Around):Prop where
 hd:A.handled=none
 dp:A.depth + 3 * k + 5 < recursionLimit
 un:A.units + 16 * k + 200 < cLine
theorem kH.mono {j k:Nat} {A:Around} (r:kH k A) (h:j≤k):kH j A:=⟨r.hd,by have:=r.dp;omega,by have:=r.un;omega⟩
theorem kH.deeper {k:Nat} {A:Around} (r:kH (k + 1) A) (env:Env):kH k (A.deeper env):=
 ⟨r.hd,by have:=r.dp;show A.depth + 1 + 3 * k + 5 < _;omega,by have:=r.un;show A.units + 3 + 16 * k + 200 < _;omega⟩
theorem iw {A:Around} {C:Addr} {us:List Value} {kw:List (Str × Value)}:(A.under (.builtin "type.__call__" ⟨.ref C :: us,kw⟩)).depth=A.depth + 1:=by
 first | rfl | simp [Around.under,Code.weight,Code.isCreation,Code.isGuard,Code.isCaller,Code.frames,Code.isFrame,guardIds]
theorem nA {A:Around} {C:Addr} {us:List Value} {kw:List (Str × Value)}:(A.under (.builtin "type.__call__" ⟨.ref C :: us,kw⟩)).units=A.units + 1:=by
 first | rfl | simp [Around.under,Code.cUnits,Code.frames,Code.isFrame]
theorem kH.make {k:Nat} {A:Around} (r:kH (k + 1) A) (C:Addr) (us:List Value) (kw:List (Str × Value)):kH k (A.under (.builtin "type.__call__" ⟨.ref C :: us,kw⟩)):=
 ⟨r.hd,by have:=r.dp;rw[iw];omega,by have:=r.un;rw[nA];omega⟩
theorem kH.depth {k:Nat} {A:Around} (r:kH k A):A.depth < recursionLimit:=by have:=r.dp;omega
theorem kH.units {k:Nat} {A:Around} (r:kH k A):A.units + 64 < cLine:=by have:=r.un;omega
noncomputable def KI:TA:=fun _ H Q=>Q [] H
noncomputable def VU (ta:TE) (tr:TA):TA:=fun σ H Q=>ta σ H fun x H1=>tr σ H1 fun xs H2=>Q (x :: xs) H2
section
variable {X:Cx} {e:Expr} {es:List Expr} {te:TE} {t:TA} {pos:Pos}
theorem z5:PA X [] KI:=fun _ _ _ _ H Q I h=>Calls.spliced_nil ⟨[],H,I,.nil,h⟩
theorem z0 (ha:PE X e te) (hr:PA X es t) (hs:starEach (e :: es) X.env=(false,eval e X.env) :: starEach es X.env:=by rfl):PA X (e :: es) (VU te t):=by
 intro pos pins s σ H Q I h
 rw[hs]
 show wpAny _ _ (spliced ((false,eval e X.env) :: backTo pos (starEach es X.env))) _ _ s
 refine Calls.spliced_cons (j5 (ha pins s σ H _ I h) fun u s1 ⟨x,H1,I1,r1,q1⟩=>?_)
 exact j5 (hr pos pins s1 σ H1 _ I1 q1) fun us s2 ⟨xs,H2,I2,r2,q2⟩=>⟨x :: xs,H2,I2,.cons r1 r2,q2⟩
noncomputable def Ys (t:TA):TE:=fun σ H Q=>t σ H fun xs H1=>xs.length≤sizeLine∧∀p,H1 p=none→Q (.ref p) (upd H1 p (.tup xs))
noncomputable def Yb (t:TA):TE:=fun σ H Q=>t σ H fun xs H1=>xs.length≤sizeLine∧∀p,H1 p=none→Q (.ref p) (upd H1 p (.lst xs))
theorem XI {x1} (h:PA X es t):PE X (.Tuple es x1 pos) (Ys t):=by
 intro pins s σ H Q I hq
 refine wpAny_Tuple_spliced (j5 (h pos pins s σ H _ I hq) fun us s1 ⟨xs,H1,I1,r,z,q⟩=>⟨by rw[←r.length];exact z,?_⟩)
 have hf:H1 s1.heap.objs.size=none:=I1.jg.fresh (Nat.le_refl _)
 refine⟨.ref s1.heap.objs.size,upd H1 s1.heap.objs.size (.tup xs),I1.laid (t':=s1.toks) (fun b u e=>Heap.get?_push_of_some _ e) (Nat.le_refl _) ?_,rfl,q _ hf⟩
 exact⟨z,us,r,⟨_,Heap.get?_push_size _ rfl,rfl,_,rfl⟩⟩
theorem Kh (h:PA X es t):PE X (.List es pos) (Yb t):=by
 intro pins s σ H Q I hq
 refine wpAny_List_spliced (j5 (h pos pins s σ H _ I hq) fun us s1 ⟨xs,H1,I1,r,z,q⟩=>⟨by rw[←r.length];exact z,?_⟩)
 have hf:H1 s1.heap.objs.size=none:=I1.jg.fresh (Nat.le_refl _)
 refine⟨.ref s1.heap.objs.size,upd H1 s1.heap.objs.size (.lst xs),I1.laid (t':=s1.toks) (fun b u e=>Heap.get?_push_of_some _ e) (Nat.le_refl _) ?_,rfl,q _ hf⟩
 exact⟨z,us,0,r,Heap.get?_push_size _ rfl⟩
end
noncomputable abbrev Sp:=List V→Hp→VK→XK→Prop
noncomputable abbrev uh:=List Env→Hp→Shared→XK→Value→Shared→Prop
structure sQ (P:Program) (w:World) (K:PySem.W.Frag) (mg:Str→Option Value) (base:Heap) (A:Around) (outer:List Env) (s:Shared) (H:Hp):Prop where
 frames:A.frames=some outer
 mod:Mod K mg base
 bs:∀b o,base.get? b=some o→s.heap.get? b=some o∧H b=none
 Zx:base.objs.size≤s.heap.objs.size
 dw:s.heap.FunFrames base outer
 KO:∀b∈nW outer,H b=none
 jg:gF P w H s.heap
 bare:AllBare s.gens
noncomputable def CE (outer:List Env) (P:Program) (w:World) (H:Hp) (s:Shared) (Q:VK) (u:Value) (s':Shared):Prop:=
 ∃v H',s'.os=s.os∧AllBare s'.gens∧Un (nW outer) [] H H' s.heap s'.heap∧gF P w H' s'.heap∧RelV v u∧Q v H'
noncomputable def CR (CX:uh) (outer:List Env) (P:Program) (w:World) (H:Hp) (s:Shared) (Q:VK) (E:XK) (r:Result) (s':Shared):Prop:=
 match r with
 | .ok (.ret u)=>CE outer P w H s Q u s'
 | .ok _=>False
 | .error e=>CX outer H s E e s'
structure qi (P:Program) (w:World) (K:PySem.W.Frag) (mg:Str→Option Value) (base:Heap) (CX:uh) (k:Nat) (f:Addr) (fd:FuncData) (ps:List Str) (sp:Sp):Prop where
 len:∀vs H Q E,sp vs H Q E→vs.length=ps.length
 run:∀(A:Around) (outer:List Env) (s:Shared) (H:Hp) (args:Args) (us:List Value) (vs:List V) (Q:VK) (E:XK),kH k A→sQ P w K mg base A outer s H→BindsTo s fd args (ps.zip us)→Vals vs us→sp vs H Q E→
  codeAny (model P w) A (.call (.ref f) args) (CR CX outer P w H s Q E) s
theorem qi.mono {P:Program} {w:World} {K:PySem.W.Frag} {mg:Str→Option Value} {base:Heap} {CX:uh} {j k:Nat} {f:Addr} {fd:FuncData} {ps:List Str} {sp:Sp} (F:qi P w K mg base CX j f fd ps sp) (h:j≤k) :
  qi P w K mg base CX k f fd ps sp:=⟨F.len,fun A outer s H args us vs Q E hr=>F.run A outer s H args us vs Q E (hr.mono h)⟩
theorem sQ.make {P:Program} {w:World} {K:PySem.W.Frag} {mg:Str→Option Value} {base:Heap} {A:Around} {outer:List Env} {s:Shared} {H:Hp} (e:sQ P w K mg base A outer s H) (C:Addr) (us:List Value) (kw:List (Str × Value)) :
  sQ P w K mg base (A.under (.builtin "type.__call__" ⟨.ref C :: us,kw⟩)) outer s H:=⟨by first | exact e.frames | (simpa [Around.under,Code.envs,Code.isFrame,pushEnvs] using e.frames),e.mod,e.bs,e.Zx,e.dw,e.KO,e.jg,e.bare⟩
section
variable {X:Cx} {pins:List (Addr × Obj)} {σ:St} {H:Hp} {s s':Shared}
theorem Inv.Vz (I:Inv X pins σ H s):sQ X.prog X.w X.K X.mg X.base X.A X.stack s H:=
 ⟨I.ok.frames,I.ok.mod,I.bs,Nat.le_trans I.ok.Zx I.sz,I.stack,I.fM,I.jg,I.bare⟩
theorem Inv.after {Q:VK} {u:Value} (I:Inv X pins σ H s) (h:CE X.stack X.prog X.w H s Q u s'):EP X pins σ Q u s':=by
 obtain⟨v,H',os,bare,un,jg,r,q⟩:=h
 obtain⟨hh,g,d,t,os'⟩:=s'
 obtain rfl:os'=s.os:=os
 exact⟨v,H',I.call (h':=hh) (g':=g) (d':=d) (t':=t) (ch:=[]) un jg bare (fun b z=>absurd z (by simp)),r,q⟩
end
noncomputable def Xr (sp:Sp) (dvs:List V) (E:XK) (t:TA):TE:=fun σ H Q=>t σ H fun vs H1=>sp (vs ++ dvs) H1 Q E
noncomputable def YS (C:Addr) (m:Str) (sp:Sp) (dvs:List V) (E:XK) (ta:TE) (t:TA):TE:=fun σ H Q=>ta σ H fun x H1=>∃a dx fs,x=.ref a∧H1 a=some (.ins C dx fs)∧fs.lookup m=none∧
 t σ H1 fun vs H2=>sp (x :: (vs ++ dvs)) H2 Q E
noncomputable def XR (C:Addr) (sp:Sp) (dvs:List V) (E:XK) (t:TA):TE:=fun σ H Q=>t σ H fun vs H1=>∀x dx,H1 x=none→H1 dx=none→dx≠x→
 sp (.ref x :: (vs ++ dvs)) (upd (upd H1 dx (.own x)) x (.ins C dx [])) (fun v H2=>v=.non∧Q (.ref x) H2) E
noncomputable def Binds (K:PySem.W.Frag) (fd:FuncData) (ps:List Str) (ds:List Value):Prop:=
 ∀(s:Shared) (us:List Value),K.In s.heap→(us ++ ds).length=ps.length→BindsTo s fd ⟨us,[]⟩ (ps.zip (us ++ ds))
theorem Binds.all {K:PySem.W.Frag} {fd:FuncData} {ps:List Str} (h:∀us:List Value,us.length=ps.length→bindArgs fd ⟨us,[]⟩=pure (ps.zip us)):Binds K fd ps []:=fun s us _ hl=>by
 rw[List.append_nil] at hl ⊢
 exact .of_eq (h us hl)
noncomputable def Passes (CX:uh) (X:Cx) (E:XK):Prop:=∀(pins:List (Addr × Obj)) (σ:St) (H:Hp) (s:Shared) (e:Value) (s':Shared),Inv X pins σ H s→CX X.stack H s E e s'→X.xe e s'
section
variable {X:Cx} {CX:uh} {k:Nat} {f C:Addr} {fd:FuncData} {ps:List Str} {sp:Sp} {dvs:List V} {ds:List Value} {E:XK} {x m:Str} {p pos apos:Pos} {e o:Expr} {es:List Expr} {ta:TE} {t:TA}
theorem lg {pins:List (Addr × Obj)} {σ:St} {H:Hp} {s:Shared} {Q:VK} {us:List Value} {vs:List V} (F:qi X.prog X.w X.K X.mg X.base CX k f fd ps sp) (hr:kH k X.A) (hb:Binds X.K fd ps ds) (hd:Vals dvs ds) (hx:Passes CX X E)
  (I:Inv X pins σ H s) (r:Vals vs us) (h:sp (vs ++ dvs) H Q E):wpAny (model X.prog X.w) X.A (call (.ref f) us) (EP X pins σ Q) X.xe s:=by
 have r2:Vals (vs ++ dvs) (us ++ ds):=r.append hd
 have hl:(us ++ ds).length=ps.length:=by rw[←r2.length];exact F.len _ _ _ _ h
 refine wpAny_call (codeAny_mono (F.run X.A X.stack s H ⟨us,[]⟩ (us ++ ds) (vs ++ dvs) Q E hr I.Vz (hb s us I.gP hl) r2 h) fun r s' hq=>?_)
 cases r with
 | error e=>exact hx pins σ H s e s' I hq
 | ok fl=>
  cases fl with
  | ret u=>exact I.after hq
  | next=>exact False.elim hq
  | brk=>exact False.elim hq
  | cont=>exact False.elim hq
theorem qf (F:qi X.prog X.w X.K X.mg X.base CX k f fd ps sp) (hr:kH k X.A) (hg:Gl X x) (hm:X.mg x=some (.ref f)) (hk:PySem.W.keepIn X.K (.ref f)=true) (hb:Binds X.K fd ps ds) (hd:Vals dvs ds) (hx:Passes CX X E)
  (ha:PA X (e :: es) t) (hdb:(x == ("__debug__" : Str))=false:=by decide) (he:starEach (e :: es) X.env=(false,eval e X.env) :: starEach es X.env:=by rfl) (hpl:(backTo pos (starEach es X.env)).any (·.1)=false:=by rfl) :
  PE X (.Call (.Name x p) (e :: es) [] pos) (Xr sp dvs E t):=by
 intro pins s σ H Q I h
 refine wpAny_Call_Name_kw (bU I hg hm ?_ hdb)
 refine PySem.W.callWith_K (h₀:=X.base) I.ok.mod.Zi hk (j5 (ha pos pins s σ H _ I h) fun us s1 ⟨vs,H1,I1,r,q⟩=>⟨I1.gP,?_⟩) he hpl
 exact lg F hr hb hd hx I1 r q
structure Mk (K:PySem.W.Frag) (C f:Addr):Prop where
 makes:PySem.W.makesIn K C=true
 init:PySem.W.findIn K (.ref C) "__init__" = some (some (.ref f))
 fn:PySem.W.isFn K (.ref f)=true
 kp:PySem.W.keepIn K (.ref C)=true
theorem sO {pins:List (Addr × Obj)} {σ:St} {H:Hp} {s:Shared} {Q:VK} {us:List Value} {vs:List V} (M:Mk X.K C f) (F:qi X.prog X.w X.K X.mg X.base CX k f fd ps sp) (hr:kH (k + 1) X.A) (hb:Binds X.K fd ps ds) (hd:Vals dvs ds)
  (hx:Passes CX X E) (I:Inv X pins σ H s) (r:Vals vs us)
  (h:∀x dx,H x=none→H dx=none→dx≠x→sp (.ref x :: (vs ++ dvs)) (upd (upd H dx (.own x)) x (.ins C dx [])) (fun v H2=>v=.non∧Q (.ref x) H2) E) :
  wpAny (model X.prog X.w) X.A (call (.ref C) us) (EP X pins σ Q) X.xe s:=by
 have hq:=h (s.heap.objs.size + 1) s.heap.objs.size (I.jg.fresh (Nat.le_succ _)) (I.jg.fresh (Nat.le_refl _)) (Nat.ne_of_lt (Nat.lt_succ_self _))
 have I2:=Inv.made (C:=C) I
 have r2:Vals (V.ref (s.heap.objs.size + 1) :: (vs ++ dvs)) (Value.ref (s.heap.objs.size + 1) :: (us ++ ds)):=.cons rfl (r.append hd)
 have hl:(Value.ref (s.heap.objs.size + 1) :: us ++ ds).length=ps.length:=by
  have e:=r2.length
  rw[F.len _ _ _ _ hq] at e
  exact e.symm
 refine wpAny_call (Ql (f:=f) I.gP M.makes M.init (beq_iff_eq.mp M.fn) (codeAny_mono (F.run _ X.stack _ _ ⟨Value.ref (s.heap.objs.size + 1) :: us,[]⟩ (Value.ref (s.heap.objs.size + 1) :: (us ++ ds)) _ _ E (hr.make C us [])
  (I2.Vz.make C us []) (hb _ (Value.ref (s.heap.objs.size + 1) :: us) I2.gP hl) r2 hq) fun r s' hq'=>?_))
 cases r with
 | error e=>exact hx pins σ _ _ e s' I2 hq'
 | ok fl=>
  cases fl with
  | ret u=>
   obtain⟨v,H',I3,rv,ev,q3⟩:=I2.after hq'
   subst ev
   exact⟨rv,⟨V.ref (s.heap.objs.size + 1),H',I3,rfl,q3⟩⟩
  | next=>exact False.elim hq'
  | brk=>exact False.elim hq'
  | cont=>exact False.elim hq'
theorem vD (M:Mk X.K C f) (F:qi X.prog X.w X.K X.mg X.base CX k f fd ps sp) (hr:kH (k + 1) X.A) (hg:Gl X x) (hm:X.mg x=some (.ref C)) (hb:Binds X.K fd ps ds) (hd:Vals dvs ds) (hx:Passes CX X E)
  (ha:PA X (e :: es) t) (hdb:(x == ("__debug__" : Str))=false:=by decide) (he:starEach (e :: es) X.env=(false,eval e X.env) :: starEach es X.env:=by rfl) (hpl:(backTo pos (starEach es X.env)).any (·.1)=false:=by rfl) :
  PE X (.Call (.Name x p) (e :: es) [] pos) (XR C sp dvs E t):=by
 intro pins s σ H Q I h
 refine wpAny_Call_Name_kw (bU I hg hm ?_ hdb)
 refine PySem.W.callWith_K (h₀:=X.base) I.ok.mod.Zi M.kp (j5 (ha pos pins s σ H _ I h) fun us s1 ⟨vs,H1,I1,r,q⟩=>⟨I1.gP,?_⟩) he hpl
 exact sO M F hr hb hd hx I1 r q
theorem QS (M:Mk X.K C f) (F:qi X.prog X.w X.K X.mg X.base CX k f fd ps sp) (hr:kH (k + 1) X.A) (hg:Gl X x) (hm:X.mg x=some (.ref C)) (hb:Binds X.K fd ps ds) (hd:Vals dvs ds) (hx:Passes CX X E)
  (hdb:(x == ("__debug__" : Str))=false:=by decide):PE X (.Call (.Name x p) [] [] pos) (XR C sp dvs E KI):=by
 intro pins s σ H Q I h
 refine wpAny_Call_Name_kw (bU I hg hm ?_ hdb)
 exact PySem.W.callWith_K0 I.gP M.kp (sO (us:=[]) M F hr hb hd hx I .nil h)
end
noncomputable def PK (X:Cx) (kws:List Keyword) (t:TA):Prop:=
 ∀(pos:Pos) (pins:List (Addr × Obj)) (s:Shared) (σ:St) (H:Hp) (Q:List V→Hp→Prop),Inv X pins σ H s→t σ H Q→wpAny (model X.prog X.w) X.A (evalAll ((backToKw pos (keywordEach kws X.env)).map (·.2))) (AP X pins σ Q) X.xe s
section
variable {X:Cx} {CX:uh} {k:Nat} {f C:Addr} {fd:FuncData} {ps ks:List Str} {sp:Sp} {E:XK} {x m:Str} {p pos apos kpos:Pos} {e o:Expr} {es:List Expr} {kws:List Keyword} {te ta:TE} {t tk:TA} {nm:Option Str}
structure Yd (K:PySem.W.Frag) (fd:FuncData) (ps ks:List Str) (g:List Value→List Value→List Value) (gV:List V→List V→List V):Prop where
 to:∀(s:Shared) (us ws:List Value),K.In s.heap→(g us ws).length=ps.length→BindsTo s fd ⟨us,ks.zip ws⟩ (ps.zip (g us ws))
 rel:∀{vs:List V} {us:List Value} {zs:List V} {ws:List Value},Vals vs us→Vals zs ws→Vals (gV vs zs) (g us ws)
noncomputable def WU (sp:Sp) (gV:List V→List V→List V) (E:XK) (t tk:TA):TE:=fun σ H Q=>t σ H fun vs H1=>tk σ H1 fun zs H2=>sp (gV vs zs) H2 Q E
variable {g:List Value→List Value→List Value} {gV:List V→List V→List V}
end
structure qe (N P:List Str) (sc:Scope):Prop where
 kind:sc.kind=.function
 co:sc.isCoroutine=false
 gen:sc.isGenerator=false
 nd:N.Nodup
 pre:N.take P.length=P
 par:∀x∈P,sc.names.lookup x=some .local∨sc.names.lookup x=some .cell
 K3:∀y∈sc.names,y.2≠.free
theorem uF {kindOf:Str→Option NameKind} {x:Str}:∀{binds:List (Str × Value)} {m:Str→Option Value},(∀v,(x,v)∉binds)→bindL kindOf binds m x=m x
 | [],_,_=>rfl
 | (n,v) :: r,m,h=>by
  unfold bindL
  rw[uF fun w hw=>h w (List.mem_cons_of_mem _ hw)]
  split
  ·have:x≠n:=by rintro rfl;exact h v List.mem_cons_self
   simp [this]
  ·rfl
theorem rh {kindOf:Str→Option NameKind} {x:Str}:∀{binds:List (Str × Value)} {m:Str→Option Value},(∀v,(x,v)∉binds)→bindC kindOf binds m x=m x
 | [],_,_=>rfl
 | (n,v) :: r,m,h=>by
  unfold bindC
  rw[rh fun w hw=>h w (List.mem_cons_of_mem _ hw)]
  split
  ·rfl
  ·have:x≠n:=by rintro rfl;exact h v List.mem_cons_self
   simp [this]
theorem uY {kindOf:Str→Option NameKind} {x:Str} {v:Value}:∀{P:List Str} {vs:List Value} {i:Nat} {m:Str→Option Value},P.Nodup→P[i]?=some x→vs[i]?=some v→kindOf x=some .local→
  bindL kindOf (P.zip vs) m x=some v
 | [],_,_,_,_,h,_,_=>by simp at h
 | _ :: _,[],_,_,_,_,h,_=>by simp at h
 | p :: P,w :: vs,0,m,nd,h1,h2,hk=>by
  simp at h1 h2;subst h1;subst h2
  show bindL kindOf ((p,w) :: P.zip vs) m p=_
  unfold bindL
  rw[uF fun v hv=>(List.nodup_cons.mp nd).1 (List.of_mem_zip hv).1,if_pos hk]
  simp
 | p :: P,w :: vs,i + 1,m,nd,h1,h2,hk=>by
  show bindL kindOf ((p,w) :: P.zip vs) m x=_
  unfold bindL
  exact uY (i:=i) (List.nodup_cons.mp nd).2 (by simpa using h1) (by simpa using h2) hk
theorem rZ {kindOf:Str→Option NameKind} {x:Str} {v:Value}:∀{P:List Str} {vs:List Value} {i:Nat} {m:Str→Option Value},P.Nodup→P[i]?=some x→vs[i]?=some v→kindOf x≠some .local→
  bindC kindOf (P.zip vs) m x=some v
 | [],_,_,_,_,h,_,_=>by simp at h
 | _ :: _,[],_,_,_,_,h,_=>by simp at h
 | p :: P,w :: vs,0,m,nd,h1,h2,hk=>by
  simp at h1 h2;subst h1;subst h2
  show bindC kindOf ((p,w) :: P.zip vs) m p=_
  unfold bindC
  rw[rh fun v hv=>(List.nodup_cons.mp nd).1 (List.of_mem_zip hv).1,if_neg hk]
  simp
 | p :: P,w :: vs,i + 1,m,nd,h1,h2,hk=>by
  show bindC kindOf ((p,w) :: P.zip vs) m x=_
  unfold bindC
  exact rZ (i:=i) (List.nodup_cons.mp nd).2 (by simpa using h1) (by simpa using h2) hk
noncomputable def start (N:List Str) (vs:List V):St:=vs.map some ++ List.replicate (N.length - vs.length) none
noncomputable def rO (CX:uh) (P:Program) (w:World) (K:PySem.W.Frag) (mg:Str→Option Value) (base:Heap) (N:List Str) (qual:Str) (scope:Scope) (f:Addr) (cd:Value) (A:Around) (outer:List Env) (s:Shared) (H:Hp) (E:XK):Cx where
 prog:=P
 w:=w
 K:=K
 mg:=mg
 base:=base
 A:=A.deeper (envOfC qual scope s.heap.objs.size f cd)
 N:=N
 s₀:=s
 H₀:=H
 env:=envOfC qual scope s.heap.objs.size f cd
 outer:=outer
 stack:=envOfC qual scope s.heap.objs.size f cd :: outer
 ex:=[]
 calm:=true
 fn:=fun _=>true
 pn:=[]
 xe:=fun e s'=>wpAny (model P w) (A.deeper (envOfC qual scope s.heap.objs.size f cd)) (leaving (envOfC qual scope s.heap.objs.size f cd) e) (fun _ s''=>CX outer H s E e s'') (fun e' s''=>CX outer H s E e' s'') s'
theorem nQ {sc:Scope} {n:Nat} {x:Str} (h:sc.names.lookup x=some .cell):∃c,(cellsFrom n sc.names []).lookup x=some c:=by
 have q:=PySem.W.cellsFrom_some sc.names n [] (.inl h)
 exact Option.isSome_iff_exists.mp q
theorem aA {CX:uh} {P:Program} {w:World} {K:PySem.W.Frag} {mg:Str→Option Value} {base:Heap} {N ps:List Str} {qual:Str} {scope:Scope} {f:Addr} {cd:Value} {A:Around} {outer:List Env} {s s1:Shared} {H:Hp} {E:XK} {us:List Value} {vs:List V}
  (S:qe N ps scope) (hd:A.handled=none) (e0:sQ P w K mg base A outer s H) (hl:vs.length=ps.length) (r:Vals vs us)
  (x:InCallC s s.heap.objs.size (bindL (envOfC qual scope s.heap.objs.size f cd).kindOf (ps.zip us) fun _=>none) (cellsFrom (s.heap.objs.size + 1) scope.names []) (bindC (envOfC qual scope s.heap.objs.size f cd).kindOf (ps.zip us) fun _=>none) s1) :
  Inv (rO CX P w K mg base N qual scope f cd A outer s H E) [] (start N vs) H s1:=by
 have hpl:ps.length≤N.length:=by have:=congrArg List.length S.pre;rw[List.length_take] at this;omega
 obtain⟨h1,tk,rfl,hk⟩:=x.done
 have noA:∀b:Addr,b∉(rO CX P w K mg base N qual scope f cd A outer s H E).ex:=fun b z=>absurd (show b∈([]:List Addr) from z) (by simp)
 refine⟨⟨e0.mod,S.kind,rfl,rfl,Nat.le_refl _,fun y z c h1 h2=>?_,fun y hy=>?_,fun y c _ h=>?_,fun _=>hd,Around.frames_deeper e0.frames,.inr ⟨rfl,rfl⟩,fun b z=>absurd z (noA b),e0.bs,e0.Zx,fun b _ _=>noA b,fun b z=>absurd z (noA b),e0.dw,e0.KO⟩,
  rfl,e0.bare,Un.kept hk,⟨_,x.toInCall.ns,fun i y v h1 h2 h3=>?_⟩,fun y c h=>⟨_,x.cell y c h⟩,e0.jg.fresh (Nat.le_refl _),fun y c h=>?_,fun p hp=>absurd (show p∈([]:List (Addr × Obj)) from hp) (by simp),e0.jg.kept hk,?_⟩
 ·exact name_of_addr x.apart (PySem.mem_of_lookup h1) (PySem.mem_of_lookup h2)
 ·have hy:scope.names.lookup y=some .cell∨scope.names.lookup y=some .free:=hy
  rcases hy with hy | hy
  ·exact nQ hy
  ·exact absurd rfl (S.K3 _ (PySem.mem_of_lookup hy))
 ·exact Nat.le_of_lt (x.above y c (PySem.mem_of_lookup h))
 ·have hi:i < vs.length:=by
   unfold start at h2
   by_cases hi:i < vs.length
   ·exact hi
   ·rw[List.getElem?_append_right (by simpa using hi)] at h2
    rw[List.getElem?_replicate] at h2
    split at h2<;>cases h2
  have ha:vs[i]?=some v:=by
   unfold start at h2
   rw[List.getElem?_append_left (by simpa using hi),List.getElem?_map] at h2
   cases e:vs[i]? with
   | none=>rw[e] at h2;cases h2
   | some a=>rw[e] at h2;cases h2;rfl
  obtain⟨u,hu,rv⟩:=r.get ha
  have hp:ps[i]?=some y:=by
   rw[←S.pre,List.getElem?_take_of_lt (by omega)];exact h1
  have ndP:ps.Nodup:=by rw[←S.pre];exact S.nd.sublist (List.take_sublist _ _)
  refine⟨u,rv,?_⟩
  rcases S.par y (List.mem_of_getElem? hp) with k | k
  ·exact .inl ⟨k,uY ndP hp hu k⟩
  ·obtain⟨c,e⟩:=nQ (n:=s.heap.objs.size + 1) k
   refine .inr ⟨.inl k,c,e,?_⟩
   have q:=x.cell y c e
   rw[rZ ndP hp hu (by show scope.names.lookup y≠_;rw[k];decide)] at q
   exact q
 ·exact e0.jg.fresh (Nat.le_of_lt (x.above y c (PySem.mem_of_lookup h)))
 ·unfold start
  show _=N.length
  rw[List.length_append,List.length_map,List.length_replicate]
  omega
theorem Xc {CX:uh} {P:Program} {w:World} {K:PySem.W.Frag} {mg:Str→Option Value} {base:Heap} {k:Nat} {f:Addr} {name qual:Str} {params:Arguments} {body:List Stmt} {scope:Scope} {dV kV doc pm cdv ct oc:Value} {an od:Option Addr}
  {osl:Array (Option Value)} {N ps:List Str} {sp:Sp} (lk:K.lookup f=some ⟨oc,od,.func (PySem.W.fnOf name qual params body scope dV kV doc pm an cdv ct),osl⟩) (hcd:PySem.W.codeIn K cdv qual=true) (S:qe N ps scope)
  (len:∀vs H Q E,sp vs H Q E→vs.length=ps.length)
  (hbody:∀(A:Around) (outer:List Env) (s:Shared) (H:Hp) (vs:List V) (Q:VK) (E:XK),kH k (A.deeper (envOfC qual scope s.heap.objs.size f cdv))→sp vs H Q E→
   ∃t,eu (rO CX P w K mg base N qual scope f cdv A outer s H E) body t∧t { nx:=fun _ H'=>Q .non H',rt:=Q } (start N vs) H) :
  qi P w K mg base CX (k + 1) f (PySem.W.fnOf name qual params body scope dV kV doc pm an cdv ct) ps sp:=by
 refine⟨len,fun A outer s H args us vs Q E hr e0 hb r hsp=>?_⟩
 have hl:=len _ _ _ _ hsp
 have KX:K.In s.heap:=e0.mod.Zi.keeps fun b o e=>(e0.bs b o e).1
 have lim:s.heap.NoLimit:=e0.mod.nolimit.keeps fun b o e=>(e0.bs b o e).1
 have hkind:∀y∈ps.zip us,scope.names.lookup y.1=some .local∨(scope.names.lookup y.1=some .cell∧((cellsFrom (s.heap.objs.size + 1) scope.names []).lookup y.1).isSome=true):=fun ⟨n,v⟩ hy=>by
  rcases S.par n (List.of_mem_zip hy).1 with q | q
  ·exact .inl q
  ·exact .inr ⟨q,PySem.W.cellsFrom_some _ _ _ (.inl q)⟩
 refine codeAny_call_function hr.depth (KX _ _ lk) rfl S.co S.gen rfl (PySem.W.codeRec_of KX hcd) (hb _ _ _ _ ?_)
 refine wpAny_newFunctionEnv_cells S.kind hkind fun env he s1 x=>?_
 subst he
 refine⟨lim.keeps x.toInCall.keep,codeAny_func ?_⟩
 obtain⟨t,ht,hq⟩:=hbody A outer s H vs Q E (hr.deeper _) hsp
 have I:Inv (rO CX P w K mg base N qual scope f cdv A outer s H E) [] (start N vs) H s1:=aA S hr.hd e0 hl r x
 refine wpAny_mono (ht [] s1 (start N vs) H _ I hq) (fun fl s' hs=>?_) fun e s' hs=>hs
 have fin:∀{σ':St} {H':Hp} {v:V} {u:Value},Inv (rO CX P w K mg base N qual scope f cdv A outer s H E) [] σ' H' s'→RelV v u→Q v H'→CE outer P w H s Q u s':=
  fun {σ' H' v u} J rv q=>⟨v,H',J.os,J.bare,J.base,J.jg,rv,q⟩
 cases fl with
 | ret u=>
  obtain⟨v,σ',H',J,rv,q⟩:=hs
  exact fin J rv q
 | next=>
  obtain⟨σ',H',J,q⟩:=hs
  exact fin (v:=V.non) (u:=Value.none) J rfl q
 | brk=>
  obtain⟨_,_,_,q⟩:=hs
  exact False.elim q
 | cont=>
  obtain⟨_,_,_,q⟩:=hs
  exact False.elim q
end L2
namespace L2
open PySem PySem.Spec PyProof.Rows
section
variable {X:Cx} {x:Str} {p pos:Pos} {e:Expr} {es:List Expr} {t:TA} {id T:String} {r:List V→Hp→VK→Prop}
noncomputable def Y2 (r:List V→Hp→VK→Prop) (t:TA):TE:=fun σ H Q=>t σ H fun vs H1=>r vs H1 Q
theorem qK (hc:vf X (.builtin id) r) (hg:Gl X x) (hm:X.mg x=none) (hv:bootBuiltins x=some (.builtin id)) (ha:PA X (e :: es) t) (hn:x≠"__name__":=by decide) (hdb:(x == ("__debug__" : Str))=false:=by decide)
  (he:starEach (e :: es) X.env=(false,eval e X.env) :: starEach es X.env:=by rfl) (hpl:(backTo pos (starEach es X.env)).any (·.1)=false:=by rfl):PE X (.Call (.Name x p) (e :: es) [] pos) (Y2 r t):=by
 intro pins s σ H Q I h
 refine wpAny_Call_Name_kw (mX I hg hm hv ?_ hn hdb)
 exact PyProof.Rows.callWith_builtin1 (j5 (ha pos pins s σ H _ I h) fun us s1 ⟨vs,H1,I1,r1,q1⟩=>hc pins s1 σ H1 vs us Q I1 r1 q1) he hpl
theorem j4 (hc:vf X (.type T) r) (hg:Gl X x) (hm:X.mg x=none) (hv:bootBuiltins x=some (.type T)) (ha:PA X (e :: es) t) (hn:x≠"__name__":=by decide) (hdb:(x == ("__debug__" : Str))=false:=by decide)
  (he:starEach (e :: es) X.env=(false,eval e X.env) :: starEach es X.env:=by rfl) (hpl:(backTo pos (starEach es X.env)).any (·.1)=false:=by rfl):PE X (.Call (.Name x p) (e :: es) [] pos) (Y2 r t):=by
 intro pins s σ H Q I h
 refine wpAny_Call_Name_kw (mX I hg hm hv ?_ hn hdb)
 exact PyProof.Rows.callWith_type1 (j5 (ha pos pins s σ H _ I h) fun us s1 ⟨vs,H1,I1,r1,q1⟩=>hc pins s1 σ H1 vs us Q I1 r1 q1) he hpl
end
end L2
namespace HT
open PySem PyProof.Rows
noncomputable def lexLt:List Int→List Int→Bool
 | [],[]=>false
 | [],_ :: _=>true
 | _ :: _,[]=>false
 | x :: xs,y :: ys=>if x=y then lexLt xs ys else decide (x < y)
section
open PySem.SeqAt
open PySem.AutoSeq1 (wpAny_loadPart')
open PySem.MeetsSeq PySem.MeetsSeq2 PySem.MeetsSeq3
end
section
variable {prog:Program} {w:World} {A:Around} {E:Value→Shared→Prop} {s:Shared}
noncomputable def lM (n d:Nat):Option Int→Nat
 | none=>d
 | some v=>if v < 0 then (v + (n:Int)).toNat else min v.toNat n
theorem tJ (n d:Nat):lM n d none=d:=rfl
theorem pz (n d k:Nat):lM n d (some (k:Int))=min k n:=by
 show (if (k:Int) < 0 then ((k:Int) + (n:Int)).toNat else min (k:Int).toNat n)=min k n
 rw[if_neg (by omega),Int.toNat_natCast]
end
end HT
namespace L2
open PySem PySem.Spec PyProof.Rows
noncomputable abbrev TO:=St→Hp→(Option Int→Hp→Prop)→Prop
noncomputable def PO (X:Cx) (e:Option Expr) (t:TO):Prop:=
 ∀(pins:List (Addr × Obj)) (s:Shared) (σ:St) (H:Hp) (Q:Option Int→Hp→Prop),Inv X pins σ H s→t σ H Q→
  wpAny (model X.prog X.w) X.A (evalPart e X.env) (fun u s'=>∃o H',Inv X pins σ H' s'∧IsPart u o∧Q o H') X.xe s
noncomputable def JU:TO:=fun _ H Q=>Q none H
noncomputable def VL (t:TE):TO:=fun σ H Q=>t σ H fun x H1=>∃i,x=.int i∧Q (some i) H1
section
variable {X:Cx} {e:Expr} {te:TE} {lo hi:Option Expr} {tl th:TO} {pos p2:Pos}
theorem yO:PO X none JU:=by
 intro pins s σ H Q I h
 rw[evalPart_none]
 exact wpAny_pure ⟨none,H,I,.none,h⟩
theorem vb (h:PE X e te):PO X (some e) (VL te):=by
 intro pins s σ H Q I hw
 rw[evalPart_some]
 refine j5 (h pins s σ H _ I hw) fun u s1 ⟨x,H1,I1,r1,q1⟩=>?_
 obtain⟨i,rfl,q⟩:=q1
 obtain⟨t,rfl⟩:=r1
 exact⟨some i,H1,I1,.int i t,q⟩
noncomputable def KY (X:Cx) (r:V→Option Int→Option Int→Hp→VK→Prop):Prop:=
 ∀(pins:List (Addr × Obj)) (s:Shared) (σ:St) (H:Hp) (x:V) (v vl vu:Value) (lo hi:Option Int) (sl:Addr) (Q:VK),Inv X pins σ H s→RelV x v→s.heap.IsSliceOf sl vl vu .none→IsPart vl lo→IsPart vu hi→r x lo hi H Q→
  ∃T id,typeLookup (.type T) "__getitem__" = pure (some (.builtin id))∧s.TypeIs v T∧wpAny (model X.prog X.w) X.A (getItem v (.ref sl)) (EP X pins σ Q) X.xe s
noncomputable def GO (r:V→Option Int→Option Int→Hp→VK→Prop) (te:TE) (tl th:TO):TE:=fun σ H Q=>te σ H fun x H1=>tl σ H1 fun l H2=>th σ H2 fun u H3=>r x l u H3 Q
theorem vz {r:V→Option Int→Option Int→Hp→VK→Prop} (hr:KY X r) (he:PE X e te) (hl:PO X lo tl) (hu:PO X hi th):PE X (.Subscript e (.Slice lo hi none p2) pos) (GO r te tl th):=by
 intro pins s σ H Q I h
 refine Subscript_ (j5 (he pins s σ H _ I h) fun v s1 ⟨x,H1,I1,r1,q1⟩=>?_)
 refine wpAny_Slice (j5 (hl pins s1 σ H1 _ I1 q1) fun vl s2 ⟨l,H2,I2,pl,q2⟩=>j5 (hu pins s2 σ H2 _ I2 q2) fun vu s3 ⟨u,H3,I3,pu,q3⟩=>?_)
 rw[evalPart_none]
 refine wpAny_pure ?_
 have I4:Inv X pins σ H3 { s3 with heap:=s3.heap.push { cls:=.type "slice",data:=.fields #[vl,vu,.none] } }:=I3.kept (t':=s3.toks) fun b ob q=>Heap.get?_push_of_some _ q
 obtain⟨T,id,hT,ht,hg⟩:=hr pins { s3 with heap:=s3.heap.push { cls:=.type "slice",data:=.fields #[vl,vu,.none] } } σ H3 x v vl vu l u s3.heap.objs.size Q I4 r1 (Heap.IsSliceOf.new ..) pl pu q3
 show wpAny (model X.prog X.w) X.A (subscriptTail e (.Slice lo hi none p2) v (.ref s3.heap.objs.size)) (EP X pins σ Q) X.xe { s3 with heap:=s3.heap.push { cls:=.type "slice",data:=.fields #[vl,vu,.none] } }
 exact tail_any (ops:=[.ref s3.heap.objs.size,v]) ht hT hg (by with_unfolding_all rfl)
noncomputable def bB (xs:List V) (lo hi:Option Int):List V:=(xs.drop (HT.lM xs.length 0 lo)).take (HT.lM xs.length xs.length hi - HT.lM xs.length 0 lo)
theorem nK (xs:List V) (lo hi:Option Int):(bB xs lo hi).length≤xs.length:=by
 unfold bB
 rw[List.length_take,List.length_drop]
 omega
noncomputable def GX (K:PySem.W.Frag):V→Option Int→Option Int→Hp→VK→Prop:=fun x lo hi H Q=>∃a xs,x=.ref a∧yT K H a xs∧
 ¬(HT.lM xs.length 0 lo=0∧HT.lM xs.length xs.length hi=xs.length)∧∀p,H p=none→Q (.ref p) (upd H p (.tup (bB xs lo hi)))
noncomputable def GJ (K:PySem.W.Frag):R2:=fun x y H Q=>∃a b ns ms,x=.ref a∧y=.ref b∧yT K H a (ns.map V.int)∧yT K H b (ms.map V.int)∧Q (.bl (HT.lexLt ns ms)) H
noncomputable def YR (K:PySem.W.Frag):R2:=fun x y H Q=>∃a b xs ys,x=.ref a∧y=.ref b∧yT K H a xs∧yT K H b ys∧xs≠[]∧xs.length + ys.length≤sizeLine∧
 (ys=[]→Q (.ref a) H)∧(ys≠[]→∀p,H p=none→Q (.ref p) (upd H p (.tup (xs ++ ys))))
end
end L2
namespace L2
open PySem PySem.Spec PyProof.Rows
noncomputable def Xg (n:Nat) (i:Int):Option Nat:=if 0≤i then (if i < n then some i.toNat else none) else if -(n:Int)≤i then some (i + n).toNat else none
noncomputable def ui {α:Type} (xs:List α) (i:Int):Option α:=(Xg xs.length i).bind fun j=>xs[j]?
theorem JG {n:Nat} {i:Int} {j:Nat} (h:Xg n i=some j):seqIndex? i n=some j∧j < n∧-(n:Int)≤i∧i < n:=by
 unfold Xg at h
 by_cases h0:0≤i
 ·rw[if_pos h0] at h
  by_cases h1:i < n
  ·rw[if_pos h1] at h
   have e:i.toNat=j:=Option.some.inj h
   exact⟨by rw[seqIndex_of h0 h1,e],by omega,by omega,h1⟩
  ·rw[if_neg h1] at h;cases h
 ·rw[if_neg h0] at h
  by_cases h1:-(n:Int)≤i
  ·rw[if_pos h1] at h
   have e:(i + n).toNat=j:=Option.some.inj h
   exact⟨by rw[seqIndex_neg (by omega) h1,e],by omega,h1,by omega⟩
  ·rw[if_neg h1] at h;cases h
theorem lV {α:Type} {xs:List α} {i:Int} {v:α} (h:ui xs i=some v):∃j,seqIndex? i xs.length=some j∧xs[j]?=some v∧j < xs.length∧-(xs.length:Int)≤i∧i < xs.length:=by
 unfold ui at h
 cases e:Xg xs.length i with
 | none=>rw[e] at h;cases h
 | some j=>
  rw[e] at h
  obtain⟨h1,h2,h3,h4⟩:=JG e
  exact⟨j,h1,h,h2,h3,h4⟩
theorem rM {α:Type} {xs:List α} {j:Nat} {v:α} (h:xs[j]?=some v):ui xs (j:Int)=some v:=by
 have hj:j < xs.length:=(List.getElem?_eq_some_iff.mp h).1
 have e:Xg xs.length (j:Int)=some j:=by
  unfold Xg
  rw[if_pos (by omega),if_pos (by omega)];simp
 unfold ui;rw[e];exact h
theorem Qs {α:Type} (xs:List α) (v:α):ui (xs ++ [v]) (-1)=some v:=by
 have hl:(xs ++ [v]).length=xs.length + 1:=by simp
 have e:Xg (xs ++ [v]).length (-1)=some xs.length:=by
  unfold Xg
  rw[hl,if_neg (by decide),if_pos (by omega)]
  congr 1
  omega
 unfold ui
 rw[e]
 show (xs ++ [v])[xs.length]?=some v
 simp
noncomputable def Xw (b:Expr):Prop:=∀o i,subscripted b false o i=operate [o,i] (getItem o i)
noncomputable def Vw (X:Cx) (r:R2):Prop:=
 ∀(value slice:Expr) (pins:List (Addr × Obj)) (s:Shared) (σ:St) (H:Hp) (x y:V) (v u:Value) (Q:VK),Inv X pins σ H s→RelV x v→RelV y u→r x y H Q→
  subscripted slice false v u=operate [v,u] (getItem v u)→wpAny (model X.prog X.w) X.A (subscriptTail value slice v u) (EP X pins σ Q) X.xe s
noncomputable def i9 (X:Cx) (id:String) (r:V→List V→Hp→VK→Prop):Prop:=
 ∀(pins:List (Addr × Obj)) (s:Shared) (σ:St) (H:Hp) (x:V) (xs:List V) (v:Value) (us:List Value) (Q:VK),Inv X pins σ H s→RelV x v→Vals xs us→r x xs H Q→
  wpAny (model X.prog X.w) X.A (call (.builtin id) (v :: us)) (EP X pins σ Q) X.xe s
section
variable {X:Cx} {a b:Expr} {ta tb:TE} {pos:Pos}
theorem qr {r:R2} (hr:Vw X r) (ha:PE X a ta) (hb:PE X b tb) (hs:Xw b):PE X (.Subscript a b pos) (We r ta tb):=by
 intro pins s σ H Q I h
 exact Subscript_ (Kv ha hb I h fun v u s2 x y H2 I2 rx ry q=>hr a b pins s2 σ H2 x y v u Q I2 rx ry q (hs _ _))
noncomputable def X4 (K:PySem.W.Frag):R2:=fun x y H Q=>∃p xs i v,x=.ref p∧y=.int i∧qI K H p xs∧ui xs i=some v∧Q v H
noncomputable def XE (K:PySem.W.Frag):R2:=fun x y H Q=>∃p xs i v,x=.ref p∧y=.int i∧yT K H p xs∧ui xs i=some v∧Q v H
noncomputable def Wf:R2:=fun x y H Q=>∃z i c,x=.str z∧y=.int i∧z.length≤sizeLine∧ui z.cps.toList i=some c∧Q (.str ⟨#[c]⟩) H
theorem Jd:Vw X (X4 X.K):=by
 intro value slice pins s σ H x y v u Q I rx ry h hs
 obtain⟨p,xs,i,z,rfl,rfl,hq,he,q⟩:=h
 cases rx
 obtain⟨t,rfl⟩:=ry
 obtain⟨its,r,pl,hz⟩:=I.list hq
 obtain⟨j,h1,h2,h3,h4,h5⟩:=lV he
 obtain⟨w,ew,rw'⟩:=r.get h2
 have hl:=r.length
 have hn:=cU
 have fin:EP X pins σ Q w s:=⟨z,H,I,rw',q⟩
 by_cases h0:0≤i
 ·have hj:i.toNat=j:=by
   rw[seqIndex_of h0 h5] at h1
   exact Option.some.inj h1
  exact item_listR pl.isList h0 (by omega) (by rw[hj];simpa using ew) fin hs
 ·have hj:(i + (its.toArray.size:Int)).toNat=j:=by
   rw[seqIndex_neg (by omega) h4] at h1
   rw[List.size_toArray,←hl]
   exact Option.some.inj h1
  exact subscriptTail_builtinR (x:=w) pl.isList.typeIs slot_list_getitem.lookup
   (wpAny_getItem_list_neg (Q:=fun r s'=>r=w∧EP X pins σ Q r s') pl.isList (by omega) (by rw[List.size_toArray]<;>omega) (by omega) (by rw[hj];simpa using ew) ⟨rfl,fin⟩) hs
theorem X7:Vw X (XE X.K):=by
 intro value slice pins s σ H x y v u Q I rx ry h hs
 obtain⟨p,xs,i,z,rfl,rfl,hq,he,q⟩:=h
 cases rx
 obtain⟨t,rfl⟩:=ry
 obtain⟨its,r,pl,hz⟩:=I.tuple hq
 obtain⟨j,h1,h2,h3,h4,h5⟩:=lV he
 obtain⟨w,ew,rw'⟩:=r.get h2
 have hl:=r.length
 have hn:=cU
 have fin:EP X pins σ Q w s:=⟨z,H,I,rw',q⟩
 exact subscriptTail_builtinR (x:=w) pl.typeIs slot_tuple_getitem.lookup
  (getItem_tuple (j:=j) (Q:=fun r s'=>r=w∧EP X pins σ Q r s') pl (by omega) (by omega) (by rw[List.size_toArray,←hl];exact h1) (by simpa using ew) ⟨rfl,fin⟩) hs
theorem bM:Vw X Wf:=by
 intro value slice pins s σ H x y v u Q I rx ry h hs
 obtain⟨z,i,c,rfl,rfl,hz,he,q⟩:=h
 obtain⟨t,rfl⟩:=rx
 obtain⟨t',rfl⟩:=ry
 obtain⟨j,h1,h2,h3,h4,h5⟩:=lV he
 have hl:z.cps.toList.length=z.length:=by simp [Str.length]
 rw[hl] at h1 h4 h5
 have hn:=cU
 exact tail_any (typeIs_str s z t) slot_str_getitem.lookup (getItem_str (c:=c) (by
  have e1:decide (i < -(2 ^ 63:Int))=false:=decide_eq_false (by omega)
  have e2:decide (i≥2 ^ 63)=false:=decide_eq_false (by omega)
  rw[e1,e2,Bool.or_false]) (by rw[h1];simpa using h2) ⟨.str ⟨#[c]⟩,H,I.tok _,⟨_,rfl⟩,q⟩) hs
noncomputable def G5 (K:PySem.W.Frag):R2:=fun x y H Q=>X4 K x y H Q∨XE K x y H Q∨Wf x y H Q
noncomputable def YU:V→V→V→Hp→(Hp→Prop)→Prop:=fun o i v H Q=>∃p xs k j,o=.ref p∧i=.int k∧H p=some (.lst xs)∧Xg xs.length k=some j∧Q (upd H p (.lst (xs.set j v)))
theorem lF (lo hi:Option Int) (n:Nat):(sliceBounds lo hi none n).1=((HT.lM n 0 lo:Nat):Int)∧(sliceBounds lo hi none n).2.1=((HT.lM n n hi:Nat):Int)∧(sliceBounds lo hi none n).2.2=1:=by
 refine⟨?_,?_,rfl⟩
 ·cases lo with
  | none=>simp [sliceBounds,HT.lM]
  | some i=>
   simp only[sliceBounds,HT.lM,Option.getD_none,show (1:Int) > 0 by decide,if_true]
   by_cases h:i < 0
   ·simp only[h,if_true]<;>omega
   ·simp only[h,if_false]<;>omega
 ·cases hi with
  | none=>simp [sliceBounds,HT.lM]
  | some i=>
   simp only[sliceBounds,HT.lM,Option.getD_none,show (1:Int) > 0 by decide,if_true]
   by_cases h:i < 0
   ·simp only[h,if_true]<;>omega
   ·simp only[h,if_false]<;>omega
theorem ue (its:List Value) (lo hi:Option Int):slicePick its.toArray lo hi none=((its.drop (HT.lM its.length 0 lo)).take (HT.lM its.length its.length hi - HT.lM its.length 0 lo)).toArray:=by
 obtain⟨h1,h2,h3⟩:=lF lo hi its.toArray.size
 unfold slicePick
 rw[h1,h2,h3]
 simp only[sliceRange_one,pick_run,List.size_toArray]<;>rfl
noncomputable def WB (K:PySem.W.Frag):V→Option Int→Option Int→Hp→VK→Prop:=fun x lo hi H Q=>∃a xs,x=.ref a∧qI K H a xs∧∀p,H p=none→Q (.ref p) (upd H p (.lst (bB xs lo hi)))
theorem J0:KY X (WB X.K):=by
 intro pins s σ H x v vl vu lo hi sl Q I rx hs pl pu h
 obtain⟨a,xs,rfl,hx,q⟩:=h
 cases rx
 obtain⟨its,r,ht,hz⟩:=I.list hx
 have hlen:=r.length
 refine⟨"list",_,slot_list_getitem.lookup,ht.isList.typeIs,?_⟩
 refine wpAny_getItem_list_slice ht.isList hs pl pu .none (by simp) ?_ (by rw[List.size_toArray]<;>omega)
 rw[ue,←hlen]
 refine⟨.ref s.heap.objs.size,_,I.laid (t':=s.toks) (o:=.lst (bB xs lo hi)) (fun b ob q=>Heap.get?_push_of_some _ q) (Nat.le_refl _) ?_,rfl,q _ (I.jg.fresh (Nat.le_refl _))⟩
 exact⟨Nat.le_trans (nK xs lo hi) hz,_,0,(r.drop (HT.lM xs.length 0 lo)).take (HT.lM xs.length xs.length hi - HT.lM xs.length 0 lo),Heap.get?_push_size _ rfl⟩
noncomputable def pG:V→Bool
 | .non=>true
 | .bl _=>true
 | .int _=>true
 | .str _=>true
 | _=>false
noncomputable def Xq:V→V→Bool
 | .non,.non=>true
 | .bl a,.bl b=>a == b
 | .bl a,.int b=>(if a then 1 else 0) == b
 | .int a,.bl b=>a == (if b then 1 else 0)
 | .int a,.int b=>a == b
 | .str a,.str b=>a == b
 | _,_=>false
theorem KJ {A:Around} {s:Shared} {y x:V} {u v:Value} (ry:RelV y u) (rx:RelV x v) (fy:pG y=true) (fx:pG x=true):SeqAt.EqAt A s u v (Xq y x):=by
 cases y with
 | non=>
  cases ry
  cases x with
  | non=>cases rx;exact SeqAt.EqAt.same _
  | bl b=>cases rx;exact SeqAt.EqAt.none_bool b
  | int b=>obtain⟨t,rfl⟩:=rx;exact SeqAt.EqAt.none_int b t
  | str b=>obtain⟨t,rfl⟩:=rx;exact SeqAt.EqAt.none_str b t
  | _=>exact absurd (show false=true from fx) Bool.false_ne_true
 | bl a=>
  cases ry
  cases x with
  | non=>cases rx;exact SeqAt.EqAt.bool_none a
  | bl b=>cases rx;exact SeqAt.EqAt.bool_bool a b
  | int b=>obtain⟨t,rfl⟩:=rx;exact SeqAt.EqAt.bool_int a b t
  | str b=>obtain⟨t,rfl⟩:=rx;exact SeqAt.EqAt.bool_str a b t
  | _=>exact absurd (show false=true from fx) Bool.false_ne_true
 | int a=>
  obtain⟨t',rfl⟩:=ry
  cases x with
  | non=>cases rx;exact SeqAt.EqAt.int_none a t'
  | bl b=>cases rx;exact SeqAt.EqAt.int_bool a t' b
  | int b=>obtain⟨t,rfl⟩:=rx;exact SeqAt.EqAt.int_int a t' b t
  | str b=>obtain⟨t,rfl⟩:=rx;exact SeqAt.EqAt.int_str a t' b t
  | _=>exact absurd (show false=true from fx) Bool.false_ne_true
 | str a=>
  obtain⟨t',rfl⟩:=ry
  cases x with
  | non=>cases rx;exact SeqAt.EqAt.str_none a t'
  | bl b=>cases rx;exact SeqAt.EqAt.str_bool a t' b
  | int b=>obtain⟨t,rfl⟩:=rx;exact SeqAt.EqAt.str_int a t' b t
  | str b=>obtain⟨t,rfl⟩:=rx;exact SeqAt.EqAt.str_str a t' b t
  | _=>exact absurd (show false=true from fx) Bool.false_ne_true
 | _=>exact absurd (show false=true from fy) Bool.false_ne_true
noncomputable def JP (x:V) (u:Value):Bool:=match u with
 | .none=>Xq .non x
 | .bool b=>Xq (.bl b) x
 | .int i _=>Xq (.int i) x
 | .str z _=>Xq (.str z) x
 | _=>false
theorem ZT {x y:V} {u:Value} (r:RelV y u) (f:pG y=true):JP x u=Xq y x:=by
 cases y with
 | non=>cases r;rfl
 | bl b=>cases r;rfl
 | int i=>obtain⟨t,rfl⟩:=r;rfl
 | str z=>obtain⟨t,rfl⟩:=r;rfl
 | _=>exact absurd (show false=true from f) Bool.false_ne_true
theorem lj {x:V}:∀{xs:List V} {us:List Value},Vals xs us→xs.all pG=true→us.any (JP x)=xs.any fun y=>Xq y x
 | _,_,.nil,_=>rfl
 | y :: xs,u :: us,.cons r t,f=>by
  rw[List.all_cons,Bool.and_eq_true] at f
  rw[List.any_cons,List.any_cons,ZT r f.1,lj t f.2]
theorem cG {A:Around} {s:Shared} {x:V} {v:Value} (rx:RelV x v) (fx:pG x=true):∀{xs:List V} {us:List Value},Vals xs us→xs.all pG=true→∀u∈us,SeqAt.EqAt A s u v (JP x u)
 | _,_,.nil,_=>fun u hu=>by cases hu
 | y :: xs,u :: us,.cons r t,f=>fun u' hu=>by
  rw[List.all_cons,Bool.and_eq_true] at f
  rcases List.mem_cons.mp hu with rfl | hu
  ·rw[ZT r f.1];exact KJ r rx f.1 fx
  ·exact cG rx fx t f.2 u' hu
noncomputable def Jt (x:V) (xs:List V):Bool:=xs.any fun y=>Xq y x
noncomputable def YN (K:PySem.W.Frag) (neg:Bool):R2:=fun x y H Q=>∃p xs,y=.ref p∧(qI K H p xs∨yT K H p xs)∧pG x=true∧xs.all pG=true∧Q (.bl (if neg then !Jt x xs else Jt x xs)) H
theorem rE:bY X (compareOp .NotIn) (YN X.K true):=by
 intro pins s σ H x y v u Q I rx ry h
 obtain⟨p,xs,rfl,hq,fx,fs,q⟩:=h
 cases ry
 rcases hq with hq | hq
 ·obtain⟨its,r,pl,hz⟩:=I.list hq
  refine SeqAt.notIn_listAt (JP x) pl.isList (fun w hw=>cG rx fx r fs w (by simpa using hw)) ⟨.bl _,H,I,rfl,?_⟩
  rw[show its.toArray.any (JP x)=its.any (JP x) by simp,lj r fs]
  exact q
 ·obtain⟨its,r,pl,hz⟩:=I.tuple hq
  refine SeqAt.notIn_tupleAt (JP x) pl (fun w hw=>cG rx fx r fs w (by simpa using hw)) ⟨.bl _,H,I,rfl,?_⟩
  rw[show its.toArray.any (JP x)=its.any (JP x) by simp,lj r fs]
  exact q
theorem lO:vf X (.builtin "len") (fun xs H Q=>∃p ys,xs=[.ref p]∧(qI X.K H p ys∨yT X.K H p ys)∧Q (.int ys.length) H):=by
 intro pins s σ H xs us Q I r h
 obtain⟨p,ys,rfl,hq,q⟩:=h
 obtain⟨u,rfl,rx⟩:=vals1 r
 cases rx
 have hn:=cU
 rcases hq with hq | hq
 ·obtain⟨its,r',pl,hz⟩:=I.list hq
  have hlen:=r'.length
  exact Calls.call_len_list pl.isList (by simp only[List.size_toArray]<;>omega) ⟨.int ys.length,H,I.tok _,⟨s.toks + 1,by rw[List.size_toArray,hlen]⟩,q⟩
 ·obtain⟨its,r',pl,hz⟩:=I.tuple hq
  have hlen:=r'.length
  exact len_tuple pl (by simp only[List.size_toArray]<;>omega) ⟨.int ys.length,H,I.tok _,⟨s.toks + 1,by rw[List.size_toArray,hlen]⟩,q⟩
theorem mv:vf X (.builtin "len") (fun xs H Q=>∃z,xs=[.str z]∧z.length≤sizeLine∧Q (.int z.length) H):=by
 intro pins s σ H xs us Q I r h
 obtain⟨z,rfl,hz,q⟩:=h
 obtain⟨u,rfl,t,rfl⟩:=vals1 r
 have hn:=cU
 exact len_str (by omega) ⟨.int z.length,H,I.tok _,⟨_,rfl⟩,q⟩
theorem lE:vf X (.type "list") (fun xs H Q=>∃p ys,xs=[.ref p]∧(qI X.K H p ys∨yT X.K H p ys)∧∀l,H l=none→Q (.ref l) (upd H l (.lst ys))):=by
 intro pins s σ H xs us Q I r h
 obtain⟨p,ys,rfl,hq,q⟩:=h
 obtain⟨u,rfl,rx⟩:=vals1 r
 cases rx
 have fin:∀(its:List Value),Vals ys its→ys.length≤sizeLine→∀(h':Heap) (c':Nat),(∀b o',s.heap.get? b=some o'→h'.get? b=some o')→
   h'.get? s.heap.objs.size=some { cls:=.type "list",dict:=none,data:=.seq its.toArray c',slots:=#[] }→EP X pins σ Q (.ref s.heap.objs.size) { s with heap:=h' }:=fun its r' hz h' c' kp e=>
  ⟨.ref s.heap.objs.size,_,I.laid (t':=s.toks) kp (Nat.le_refl _) (show jO X.prog X.w _ h' _ (.lst ys) from ⟨hz,its,c',r',e⟩),rfl,q _ (I.jg.fresh (Nat.le_refl _))⟩
 rcases hq with hq | hq
 ·obtain⟨its,r',pl,hz⟩:=I.list hq
  have hlen:=r'.length
  obtain⟨o,ho,hc,n,hd⟩:=pl.isList
  exact call_list_seq p (.inl rfl) ho hc hd (fun h' c' kp e=>fin its r' hz h' c' kp e) (by simp only[List.size_toArray]<;>omega)
 ·obtain⟨its,r',pl,hz⟩:=I.tuple hq
  have hlen:=r'.length
  obtain⟨o,ho,hc,n,hd⟩:=pl
  exact call_list_seq p (.inr rfl) ho hc hd (fun h' c' kp e=>fin its r' hz h' c' kp e) (by simp only[List.size_toArray]<;>omega)
noncomputable def YB (K:PySem.W.Frag) (T:String) (x:V) (H:Hp):Prop:=match x with
 | .str _=>T = "str"
 | .int _=>T = "int"
 | .ref p=>(T = "list"∧∃xs,qI K H p xs)∨(T = "tuple"∧∃o,K.lookup p=some o∧o.cls=.type "tuple"∧o.dict=none)∨
   (T = "dict"∧((∃kvs,H p=some (.dK kvs))∨∃kvs,H p=some (.dT kvs)))∨(T = "set"∧∃S n,H p=some (.set S n))
 | _=>False
theorem Zf {pins:List (Addr × Obj)} {σ:St} {H:Hp} {s:Shared} {T:String} {x:V} {v:Value} (I:Inv X pins σ H s) (r:RelV x v) (ty:YB X.K T x H) :
  s.TypeIs v T∧∀a,v=.ref a→∃ob,s.heap.get? a=some ob∧ob.dict=none:=by
 cases x with
 | str z=>
  obtain⟨t,rfl⟩:=r
  cases (show T = "str" from ty)
  exact⟨typeIs_str s z t,fun _ e=>nomatch e⟩
 | int i=>
  obtain⟨t,rfl⟩:=r
  cases (show T = "int" from ty)
  exact⟨typeIs_int s i t,fun _ e=>nomatch e⟩
 | ref p=>
  cases r
  rcases ty with ⟨rfl,xs,hq⟩ | ⟨rfl,o,hk,hc,hd⟩ | ⟨rfl,hk⟩ | ⟨rfl,S,n,hk⟩
  ·obtain⟨its,_,pl,_⟩:=I.list hq
   refine⟨pl.isList.typeIs,fun a e=>?_⟩
   cases e
   obtain⟨o,n,e,c,hd,_⟩:=pl
   exact⟨o,e,hd⟩
  ·refine⟨⟨o,I.gP p o hk,hc⟩,fun a e=>?_⟩
   cases e
   exact⟨o,I.gP _ o hk,hd⟩
  ·have z:∃o,s.heap.get? p=some o∧o.ExactDict:=by
    rcases hk with ⟨kvs,hk⟩ | ⟨kvs,hk⟩
    ·obtain⟨_,_,_,_,o,_,_,e,ex,_⟩:=I.jg p _ hk
     exact⟨o,e,ex⟩
    ·obtain⟨_,_,_,_,o,_,_,e,ex,_⟩:=I.jg p _ hk
     exact⟨o,e,ex⟩
   obtain⟨o,e,ex⟩:=z
   refine⟨⟨o,e,ex.1⟩,fun a e2=>?_⟩
   cases e2
   exact⟨o,e,ex.2.1⟩
  ·obtain⟨o,_,_,_,e,ex,_⟩:=I.jg p _ hk
   refine⟨⟨o,e,ex.1⟩,fun a e2=>?_⟩
   cases e2
   exact⟨o,e,ex.2.1⟩
 | _=>exact False.elim ty
noncomputable def WY (K:PySem.W.Frag) (T:String) (r:V→List V→Hp→VK→Prop) (to:TE):TE:=fun σ H Q=>to σ H fun x H1=>YB K T x H1∧r x [] H1 Q
noncomputable def GC (K:PySem.W.Frag) (T:String) (r:V→List V→Hp→VK→Prop) (to:TE) (t:TA):TE:=fun σ H Q=>to σ H fun x H1=>YB K T x H1∧t σ H1 fun xs H2=>r x xs H2 Q
variable {o e:Expr} {es:List Expr} {to:TE} {t:TA} {name:Str} {apos cpos:Pos} {T id:String} {r:V→List V→Hp→VK→Prop}
theorem QW (pa:PlainAttrs T) (slot:Slot T name id) (hty:typeOf (.builtin id)=pure (.type "method_descriptor")) (hm:i9 X id r) (ho:PE X o to)
  (hbase:attributeBase o name X.env (eval o X.env)=eval o X.env:=by rfl) (hline:(apos.endLine == cpos.line)=true:=by rfl):PE X (.Call (.Attribute o name apos) [] [] cpos) (WY X.K T r to):=by
 intro pins s σ H Q I h
 refine wpAny_Call_method0_late hbase hline (j5 (ho pins s σ H _ I h) fun v s1 ⟨x,H1,I1,r1,ty,q1⟩=>?_)
 obtain⟨h1,h2⟩:=Zf I1 r1 ty
 exact⟨T,id,pa,slot,hty,h1,h2,Calls.callWith_builtin rfl (PySem.evalArgs_none (hm pins s1 σ H1 x [] v [] Q I1 r1 .nil q1))⟩
theorem kh (pa:PlainAttrs T) (slot:Slot T name id) (hty:typeOf (.builtin id)=pure (.type "method_descriptor")) (hm:i9 X id r) (ho:PE X o to) (ha:PA X (e :: es) t)
  (hbase:attributeBase o name X.env (eval o X.env)=eval o X.env:=by rfl)
  (hfew:((backTo cpos (starEach (e :: es) X.env)).all (fun x=>!x.1) && (backToKw cpos (keywordEach [] X.env)).all (fun x=>x.1.isSome)
   && decide ((e :: es).length + ([]:List Keyword).length + (if ([]:List Keyword).isEmpty then 0 else 1) < 30))=true:=by rfl)
  (hline:(apos.endLine == cpos.line)=true:=by rfl) (hs:starEach (e :: es) X.env=(false,eval e X.env) :: starEach es X.env:=by rfl) (hplain:(backTo cpos (starEach es X.env)).any (·.1)=false:=by rfl) :
  PE X (.Call (.Attribute o name apos) (e :: es) [] cpos) (GC X.K T r to t):=by
 intro pins s σ H Q I h
 refine wpAny_Call_method_late hbase hfew hline rfl (j5 (ho pins s σ H _ I h) fun v s1 ⟨x,H1,I1,r1,ty,q1⟩=>?_)
 obtain⟨h1,h2⟩:=Zf I1 r1 ty
 refine⟨T,id,pa,slot,hty,h1,h2,?_⟩
 have hA:=ha cpos pins s1 σ H1 _ I1 q1
 rw[hs] at hA ⊢
 refine Calls.callWith_builtin (by show (false || (backTo cpos (starEach es X.env)).any (·.1))=false;rw[hplain]<;>rfl) (Calls.evalArgs_plain ?_)
 exact j5 hA fun us s2 ⟨vs,H2,I2,r2,q2⟩=>hm pins s2 σ H2 x vs v us Q I2 r1 r2 q2
end
end L2
namespace L2
open PySem PySem.Spec PyProof.Rows
noncomputable def YW (X:Cx) (id:String) (r:V→List V→Hp→VK→Prop):Prop:=
 ∀(pins:List (Addr × Obj)) (s:Shared) (σ:St) (H:Hp) (x:V) (xs:List V) (v:Value) (us:List Value) (Q:VK),Inv X pins σ H s→RelV x v→Vals xs us→r x xs H Q→
  wpAny (model X.prog X.w) X.A (call (.builtin id) (v :: us)) (EP X pins σ Q) X.xe s
theorem Vals.one:∀{x:V} {us:List Value},Vals [x] us→∃u,us=[u]∧RelV x u
 | _,_,.cons r .nil=>⟨_,rfl,r⟩
theorem Vals.zero:∀{us:List Value},Vals [] us→us=[]
 | _,.nil=>rfl
theorem Vals.dropLast {xs:List V} {us:List Value} (h:Vals xs us):Vals xs.dropLast us.dropLast:=by
 induction h with
 | nil=>exact .nil
 | cons r t ih=>
  cases t with
  | nil=>exact .nil
  | cons q t'=>exact .cons r ih
theorem Vals.rep {xs:List V} {us:List Value} (h:Vals xs us):∀k:Nat,Vals (List.replicate k xs).flatten (List.replicate k us).flatten
 | 0=>.nil
 | k + 1=>by
  rw[List.replicate_succ,List.replicate_succ,List.flatten_cons,List.flatten_cons]
  exact Vals.append h (Vals.rep h k)
theorem oh {α:Type} (l:List α):l.eraseIdx (l.length - 1)=l.dropLast:=by
 induction l with
 | nil=>rfl
 | cons a r ih=>
  cases r with
  | nil=>rfl
  | cons b r=>
   have e:(a :: b :: r).length - 1=((b :: r).length - 1) + 1:=by
    have h1:(a :: b :: r).length=r.length + 2:=rfl
    have h2:(b :: r).length=r.length + 1:=rfl
    omega
   rw[e,List.eraseIdx_cons_succ,ih]
   all_goals rfl
theorem foldl_rep (its:List Value):∀(k:Nat) (acc:List Value),
  List.foldl (fun x1 x2=>x1 ++ x2) acc.toArray (List.replicate k its.toArray)=(acc ++ (List.replicate k its).flatten).toArray
 | 0,acc=>by simp
 | k + 1,acc=>by
  have e:acc.toArray ++ its.toArray=(acc ++ its).toArray:=by simp
  have e2:(acc ++ its) ++ (List.replicate k its).flatten=acc ++ (List.replicate (k + 1) its).flatten:=by
   rw[List.replicate_succ,List.flatten_cons,List.append_assoc]
  rw[←e2,←foldl_rep its k (acc ++ its),←e,List.replicate_succ,List.foldl_cons]
section
variable {X:Cx} {pins:List (Addr × Obj)} {σ:St} {H:Hp} {s:Shared} {l b:Addr} {xs ys zs:List V}
theorem Inv.Km {its its':List Value} {n:Nat} {f:Array Value→Array Value} {t':Nat} (I:Inv X pins σ H s) (hH:H l=some (.lst xs))
  (e:s.heap.get? l=some { cls:=.type "list",data:=.seq its.toArray n }) (hf:f its.toArray=its'.toArray) (hv:Vals ys its') (hz:ys.length≤sizeLine) :
  Inv X pins σ (upd H l (.lst ys)) { s with heap:=s.heap.update l (Obj.mapSeq f),toks:=t' }:=by
 have q:=PySem.IsL.update e f
 rw[hf] at q
 refine I.write (x:=l) (e:=l) (by rw[hH];exact trivial) (.inl rfl) (fun b' u hb hu=>(Heap.get?_update_other s.heap (Obj.mapSeq f) (Ne.symm hb)).trans hu) ⟨_,q⟩ ?_
 exact⟨hz,its',_,hv,q⟩
theorem Inv.ZK {its:List Value} {t':Nat} (I:Inv X pins σ H s) (hv:Vals ys its) (hz:ys.length≤sizeLine) :
  Inv X pins σ (upd H s.heap.objs.size (.lst ys)) { s with heap:=s.heap.push { cls:=.type "list",data:=.seq its.toArray },toks:=t' }:=
 I.laid (fun _ _ q=>Heap.get?_push_of_some _ q) (Nat.le_refl _) ⟨hz,its,0,hv,Heap.get?_push_size _ rfl⟩
theorem Inv.fresh (I:Inv X pins σ H s):H s.heap.objs.size=none:=I.jg.fresh (Nat.le_refl _)
theorem Inv.ib (I:Inv X pins σ H s) (hH:H l=some (.lst xs)):xs.length≤sizeLine∧∃(its:List Value) (n:Nat),Vals xs its∧xs.length=its.length∧s.heap.get? l=some { cls:=.type "list",data:=.seq its.toArray n }:=by
 obtain⟨z,its,n,r,e⟩:=I.jg l _ hH
 exact⟨z,its,n,r,r.length,e⟩
theorem tZ {n:Nat} (h:n≤sizeLine):Builtin.List.listTooLong n=false:=by
 unfold Builtin.List.listTooLong
 exact decide_eq_false (by omega)
end
section
variable {X:Cx}
noncomputable def Jp:V→List V→Hp→VK→Prop:=fun x vs H Q=>∃l xs y,x=.ref l∧vs=[y]∧H l=some (.lst xs)∧xs.length < sizeLine∧Q .non (upd H l (.lst (xs ++ [y])))
theorem mJ:YW X "list.append" Jp:=by
 intro pins s σ H x vs v us Q I rx rv h
 obtain⟨l,xs,y,rfl,rfl,hH,hz,q⟩:=h
 cases rx
 obtain⟨u,rfl,ru⟩:=rv.one
 obtain⟨z,its,n,r,hl,e⟩:=I.ib hH
 refine call_meets F.slot_list_append ⟨_,e,rfl⟩ F.entry_list_append (F.args_list_append_2 _ _) (PySem.list_append l its.toArray n u (by rw[List.size_toArray];omega)) ⟨e,?_⟩
 refine⟨.non,_,I.Km (its':=its ++ [u]) hH e (by simp) (r.append (.cons ru .nil)) ?_,rfl,q⟩
 rw[List.length_append,List.length_singleton]
 omega
noncomputable def JQ:V→List V→Hp→VK→Prop:=fun x vs H Q=>∃l b xs zs,x=.ref l∧vs=[.ref b]∧H l=some (.lst xs)∧H b=some (.lst zs)∧xs.length + zs.length≤sizeLine∧Q .non (upd H l (.lst (xs ++ zs)))
theorem aK:YW X "list.extend" JQ:=by
 intro pins s σ H x vs v us Q I rx rv h
 obtain⟨l,b,xs,zs,rfl,rfl,hH,hB,hz,q⟩:=h
 cases rx
 obtain⟨u,rfl,ru⟩:=rv.one
 cases ru
 obtain⟨z,its,n,r,hl,e⟩:=I.ib hH
 obtain⟨z2,its2,n2,r2,hl2,e2⟩:=I.ib hB
 have hsz:its.toArray.size + its2.toArray.size≤sizeLine:=by rw[List.size_toArray,List.size_toArray];omega
 have hlong:¬(!its.toArray.isEmpty && Builtin.List.listTooLong (its.toArray.size + its2.toArray.size))=true:=by
  rw[tZ hsz,Bool.and_false]
  exact Bool.false_ne_true
 refine call_meets F.slot_list_extend ⟨_,e,rfl⟩ F.entry_list_extend (F.args_list_extend_2 _ _)
  (AutoSeq1.list_extend_list_list_0 l its.toArray n b its2.toArray n2 hlong (by rw[List.size_toArray];omega) (by omega)) ⟨e,e2,?_⟩
 refine⟨.non,_,I.Km (its':=its ++ its2) hH e (by simp) (r.append r2) ?_,rfl,q⟩
 rw[List.length_append]
 omega
noncomputable def W9:V→List V→Hp→VK→Prop:=fun x vs H Q=>∃l xs y,x=.ref l∧vs=[]∧H l=some (.lst xs)∧xs[xs.length - 1]?=some y∧Q y (upd H l (.lst xs.dropLast))
theorem K5:YW X "list.pop" W9:=by
 intro pins s σ H x vs v us Q I rx rv h
 obtain⟨l,xs,y,rfl,rfl,hH,hy,q⟩:=h
 cases rx
 have hus:=rv.zero
 subst hus
 obtain⟨z,its,n,r,hl,e⟩:=I.ib hH
 obtain⟨u,hu,ru⟩:=r.get hy
 have hy':its.toArray[its.toArray.size - 1]?=some u:=by
  show its.toArray[its.length - 1]?=some u
  rw[←Array.getElem?_toList,←hl]
  exact hu
 refine call_meets F.slot_list_pop ⟨_,e,rfl⟩ F.entry_list_pop (F.args_list_pop_1 _) (MeetsSeq.list_pop_last l its.toArray n u hy' (by rw[List.size_toArray];omega)) ⟨e,?_⟩
 refine⟨y,_,I.Km (its':=its.dropLast) hH e ?_ r.dropLast ?_,ru,q⟩
 ·show its.toArray.eraseIdxIfInBounds (its.toArray.size - 1)=its.dropLast.toArray
  rw[List.size_toArray,List.eraseIdxIfInBounds_toArray,oh]
 ·rw[List.length_dropLast]
  omega
noncomputable def W0:V→List V→Hp→VK→Prop:=fun x vs H Q=>∃l xs i k y,x=.ref l∧vs=[.int i]∧H l=some (.lst xs)∧-(2 ^ 63)≤i∧i < 2 ^ 63∧seqIndex? i xs.length=some k∧xs[k]?=some y∧Q y (upd H l (.lst (xs.eraseIdx k)))
noncomputable def V3:V→List V→Hp→VK→Prop:=fun x vs H Q=>∃l xs,x=.ref l∧vs=[]∧H l=some (.lst xs)∧Q .non (upd H l (.lst xs.reverse))
noncomputable def YZ:V→List V→Hp→VK→Prop:=fun x vs H Q=>∃l xs,x=.ref l∧vs=[]∧H l=some (.lst xs)∧Q .non (upd H l (.lst []))
noncomputable def WT:R2:=fun x y H Q=>∃l b xs zs,x=.ref l∧y=.ref b∧H l=some (.lst xs)∧H b=some (.lst zs)∧xs.length + zs.length≤sizeLine∧∀p,H p=none→Q (.ref p) (upd H p (.lst (xs ++ zs)))
theorem Kj:bY X (binaryOp .Add) WT:=by
 intro pins s σ H x y v u Q I rx ry h
 obtain⟨l,b,xs,zs,rfl,rfl,hH,hB,hz,q⟩:=h
 cases rx
 cases ry
 obtain⟨z,its,n,r,hl,e⟩:=I.ib hH
 obtain⟨z2,its2,n2,r2,hl2,e2⟩:=I.ib hB
 refine PySem.P.add_list e e2 ?_ (by rw[List.size_toArray,List.size_toArray];omega)
 have ea:its.toArray ++ its2.toArray=(its ++ its2).toArray:=by simp
 rw[ea]
 exact⟨.ref _,_,I.ZK (t':=s.toks) (r.append r2) (by rw[List.length_append];omega),rfl,q _ I.fresh⟩
noncomputable def Yx:R2:=fun x y H Q=>∃l k xs,x=.ref l∧y=.int k∧H l=some (.lst xs)∧-(2 ^ 63)≤k∧k < 2 ^ 63∧xs.length * k.toNat≤sizeLine∧
 ∀p,H p=none→Q (.ref p) (upd H p (.lst (List.replicate k.toNat xs).flatten))
theorem len_rep {α:Type} (xs:List α) (k:Nat):(List.replicate k xs).flatten.length=k * xs.length:=by
 induction k with
 | zero=>simp
 | succ k ih=>rw[List.replicate_succ,List.flatten_cons,List.length_append,ih,Nat.succ_mul,Nat.add_comm]
theorem oO:bY X (binaryOp .Mult) Yx:=by
 intro pins s σ H x y v u Q I rx ry h
 obtain⟨l,k,xs,rfl,rfl,hH,h1,h2,hz,q⟩:=h
 cases rx
 obtain⟨t,rfl⟩:=ry
 obtain⟨z,its,n,r,hl,e⟩:=I.ib hH
 have hlen:its.toArray.size * k.toNat≤sizeLine:=by rw[List.size_toArray,←hl];exact hz
 have hcap:¬its.toArray.size * k.toNat > (2 ^ 63 - 1) / 8:=by
  have:(sizeLine:Nat)≤(2 ^ 63 - 1) / 8:=by decide
  omega
 have hfit:¬(!Builtin.List.listFitsIndex k)=true:=by
  rw[fitsIndex_both h1 h2]
  exact Bool.false_ne_true
 have hlong:¬Builtin.List.listTooLong (its.toArray.size * k.toNat)=true:=by
  rw[tZ hlen]
  exact Bool.false_ne_true
 have hnew:List.foldl (fun x1 x2=>x1 ++ x2) #[] (List.replicate (if its.toArray.isEmpty=true then 0 else k.toNat) its.toArray)=(List.replicate k.toNat its).flatten.toArray:=by
  have f0:∀m:Nat,List.foldl (fun x1 x2=>x1 ++ x2) #[] (List.replicate m its.toArray)=(List.replicate m its).flatten.toArray:=fun m=>by
   have:=foldl_rep its m []
   rw[List.nil_append] at this
   exact this
  rw[f0]
  cases its with
  | nil=>simp
  | cons a r'=>rw[if_neg (by simp)]
 refine wpAny_binaryOp_repeat_ref (T:="list") (U:="int") (by decide) ⟨_,e,rfl⟩ (fun s'=>typeIs_int s' k t) noFill_list_mul F.fills_int_mul F.slot_int_rmul repeat_list F.slot_int_index.lookup
  (call_meets F.slot_int_rmul (typeIs_int s k t) F.entry_int_rmul (F.args_int_rmul_2 _ _) (int___rmul___int_list k t l its.toArray n)
   ⟨e,rfl,⟨_,e,rfl⟩,call_meets F.slot_list_mul ⟨_,e,rfl⟩ F.entry_list_mul (F.args_list_mul_2 _ _) (AutoListH.list___mul___list_int_3 l its.toArray n k t hfit hcap hlong) ⟨e,?_⟩⟩)
 rw[hnew]
 exact⟨.ref _,_,I.ZK (t':=s.toks) (r.rep k.toNat) (by rw[len_rep,Nat.mul_comm];exact hz),rfl,q _ I.fresh⟩
end
section
variable {prog:Program} {w:World} {A:Around} {E:Value→Shared→Prop} {s:Shared}
end
section
variable {X:Cx}
end
end L2
namespace Att
open PySem PySem.W PySem.Calls PyProof.Rows
theorem df {P:Params} {h:Heap}:∀(ns:List Int) (vs:List Value),WellAll P h vs (ns.map WData.int)→IntsAre vs ns:=by
 intro ns
 induction ns with
 | nil=>
  intro vs w
  rw[List.map_nil] at w
  cases w
  exact .nil
 | cons n ns ih=>
  intro vs w
  rw[List.map_cons] at w
  cases w with
  | cons a b=>
   cases a
   exact .cons _ _ (ih _ b)
theorem aD {l:OpenLaw} {n:Nat} (hn:l.most=some n) {P:Params} {h:Heap} {args:List WData} {vals:List Value}
  (hpre:l.row.toRowW.claim.pre args=true) (hwl:WellAll P h vals args) :
  ∃a vs ns,vals=[Value.ref a]∧args=[WData.list (ns.map WData.int)]∧h.get? a=some { cls:=.type "list",data:=.seq vs.toArray }∧IntsAre vs ns∧ns.length≤n:=by
 have hsh:WShape.hasAll [] args [.list .int]=true:=(pre_splitW hpre).1
 have hc:l.pre.holds [] { args:=args }=true:=(pre_splitW hpre).2
 obtain⟨d,r,rfl,h1,h2⟩:=hasAllW_cons hsh
 obtain rfl:=hasAllW_nil h2
 obtain⟨xs,rfl,h3⟩:=hasW_list h1
 obtain⟨ns,rfl⟩:=items_int h3
 have hlen:ns.length≤n:=by
  unfold OpenLaw.pre at hc
  have h4:(WTm.not (.lt (.lit (.int (n:Int))) (.len (.arg 0)))).holds [] { args:=[.list (ns.map .int)] }=true:=by
   have h4:=(holds_andW hc).1
   rw[hn] at h4
   exact h4
  have h5:=condW_of h4 (w_not (w_lt w_lit (w_len_list (w_arg rfl))))
  rw[List.length_map] at h5
  refine Nat.le_of_not_lt fun q=>?_
  have q':(n:Int) < ((ns.length:Nat):Int):=by omega
  first
   | (rw[decide_eq_true q'] at h5;exact absurd h5 (by decide))
   | (simp at h5;omega)
 cases hwl with
 | cons w1 w2=>
  cases w2
  cases w1 with
  | list ho hall=>exact⟨_,_,ns,rfl,rfl,ho,df ns _ hall,hlen⟩
theorem aM (l:OpenLaw) (args:List WData):l.row.toRowW.claim.post args (.bool true) args=true:=
 postW_of (r:=l.row.toRowW) (X:=(true == true))
  (show WShape.has [] (.bool true) .bool=true by first | rfl | decide | simp [WShape.has,WShape.arms,WShape.armsAll])
  (show (WTm.eq .res (.lit (.bool true))).value [] { args:=args,res:=some (.bool true),after:=args }=some (.bool (true == true)) from w_eq_bool (w_res rfl) w_lit) rfl
theorem sg {l:OpenLaw} {n:Nat} {q:Program} {loose:List Str} {XP:(Str→Option Value)→Heap→Prop} {YP:World→Heap→Prop} {d:DefRec}
  (hn:l.most=some n) (hdf:d.params.defaults=[])
  (call:∀(w:World) (s₀ s₁:Shared) (mg mb:Str→Option Value) (fa:Addr) (o:Obj) (pm cd doc:Value) (a:Addr) (vs:List Value) (ns:List Int),
   Ground q loose [] XP w s₀ mg mb s₁.heap→YP w s₁.heap→
   s₁.heap.get? fa=some o→o.data=.func (docDef d.name d.params d.body d.scope pm cd doc)→s₁.heap.CodeRec cd d.name→mg d.name=some (.ref fa)→
   s₁.heap.get? a=some { cls:=.type "list",data:=.seq vs.toArray }→IntsAre vs ns→ns.length≤n→s₁.gens = #[]→
   codeAny (model l.prog w) callerA (.call (.ref fa) ⟨[.ref a],[]⟩) (fun r s'=>r=.ok (.ret (.bool true))∧OldK s₁.heap s'.heap∧s'.os=s₁.os∧AllBare s'.gens) s₁) :
  WalkO q loose XP YP l.row.toRowW d [] (fun f vs=>PySem.call f vs):=by
 intro w s₀ s₁ mg mb G Y fa o pm cd doc dV kV ho hd hcd hD hmg hg args vals as hpre hlay hrd hwl hlo
 obtain rfl:dV=.none:=Dflts.none hD hdf
 obtain rfl:kV=.none:=Dflts.noKw hD
 obtain⟨a,vs,ns,rfl,rfl,hobj,hints,hlen⟩:=aD hn hpre hwl
 refine enter_call (codeAny_mono (call w s₀ s₁ mg mb fa o pm cd doc a vs ns G Y ho (fd_plain hd) hcd hmg hobj hints hlen hg) fun r s' hq=>?_)
 obtain⟨rfl,h2,h3,h4⟩:=hq
 exact⟨.inl ⟨.bool true,.bool true,[],rfl,fun _=>rfl,.bool true,aM l _,fun _=>⟨List.Pairwise.nil,fun _ hm=>(nomatch hm)⟩⟩,h2,h3,h4⟩
section
variable {prog:Program} {w:World} {A:Around} {E:Value→Shared→Prop} {s:Shared} {K:Frag}
noncomputable def Yy (h:Heap):Heap:={ h with objs:=#[] }
noncomputable def ledger (h:Heap) (L d:Addr):List (Addr × Obj):=(List.range h.objs.size).filterMap fun a=>if a=L∨a=d then none else (h.get? a).map fun o=>(a,o)
end
end Att
namespace L2
open PySem PySem.Spec PyProof.Rows
theorem uE:∀{vs:List Value} {ns:List Int},IntsAre vs ns→Vals (ns.map V.int) vs
 | _,_,.nil=>.nil
 | _,_,.cons n t h=>.cons ⟨t,rfl⟩ (uE h)
noncomputable def Q2 (H:Hp):Prop:=∀b,H b=none∨∃o xs,H b=some (.frz o (.lst xs))
theorem ZM {P:Program} {w:World} {K:PySem.W.Frag} {mg mb:Str→Option Value} {CX:uh} {k:Nat} {fa a:Addr} {fd:FuncData} {x:Str} {sp:Sp} {s₁:Shared} {vs:List Value} {ns:List Int}
  (KX:K.In s₁.heap) (hns:s₁.heap.Ns mainGlobals mg) (hb:s₁.heap.Ns builtinsNs mb) (hbb:∀x:Str,x≠"__name__"→mb x=bootBuiltins x) (hlim:s₁.heap.NoLimit) (hg:s₁.gens = #[])
  (ha:s₁.heap.get? a=some { cls:=.type "list",data:=.seq vs.toArray }) (hi:IntsAre vs ns) (hl:ns.length≤sizeLine) (hr:kH k callerA)
  (F:∀base:Heap,K.In base→base.Ns mainGlobals mg→qi P w K mg base CX k fa fd [x] sp) (hbind:∀(s:Shared) (u:Value),BindsTo s fd ⟨[u],[]⟩ [(x,u)])
  (hsp:∀H:Hp,Q2 H→qI K H a (ns.map V.int)→sp [.ref a] H (fun v _=>v=.bl true) fun _ _ _=>False)
  (hCX:∀H e s',CX [] H s₁ (fun _ _ _=>False) e s'→False) :
  codeAny (model P w) callerA (.call (.ref fa) ⟨[.ref a],[]⟩) (fun r s'=>r=.ok (.ret (.bool true))∧OldK s₁.heap s'.heap∧s'.os=s₁.os∧AllBare s'.gens) s₁:=by
 have rv:=uE hi
 have lenV:=hi.length
 have core:∀H:Hp,Q2 H→qI K H a (ns.map V.int)→gF P w H s₁.heap→(∀b,H b≠none→b=a)→(H a≠none→K.lookup a=none)→
   codeAny (model P w) callerA (.call (.ref fa) ⟨[.ref a],[]⟩) (fun r s'=>r=.ok (.ret (.bool true))∧OldK s₁.heap s'.heap∧s'.os=s₁.os∧AllBare s'.gens) s₁:=by
  intro H hO hS jg hA hK
  have base_of:∀{b:Addr} {o:Obj},s₁.heap.get? b=some o→H b=none→(rJ s₁.heap H).get? b=some o:=fun e n=>ZE e n
  have noA:∀{b:Addr} {o:Obj} {es:Array DictEntry} {ep:Nat},s₁.heap.get? b=some o→o.data=.dict es ep→H b=none:=fun {b o es ep} e d=>by
   cases q:H b with
   | none=>rfl
   | some u=>
    have e':b=a:=hA b (by rw[q];simp)
    subst e'
    rw[ha] at e;cases e
    have d':Data.seq vs.toArray _=Data.dict es ep:=d
    cases d'
  have nsK:∀{b:Addr} {m:Str→Option Value},s₁.heap.Ns b m→(rJ s₁.heap H).Ns b m:=fun {b m} ⟨o,es,ep,e,d,r⟩=>⟨o,es,ep,base_of e (noA e d),d,r⟩
  have hKb:K.In (rJ s₁.heap H):=fun b o e=>base_of (KX b o e) (by
   cases q:H b with
   | none=>rfl
   | some u=>
    have e':b=a:=hA b (by rw[q];simp)
    subst e'
    rw[hK (by rw[q];simp)] at e;cases e)
  have hM:Mod K mg (rJ s₁.heap H):=⟨hKb,nsK hns,⟨mb,nsK hb,hbb⟩,let ⟨mc,h1,h2⟩:=hlim;⟨mc,nsK h1,h2⟩⟩
  have e0:sQ P w K mg (rJ s₁.heap H) callerA [] s₁ H:=⟨rfl,hM,fun b o e=>Jg e,Nat.le_of_eq (aU _ _),trivial,fun b hb=>absurd (show b∈([]:List Addr) from hb) (by simp),jg,.of_eq hg⟩
  refine codeAny_mono ((F _ hKb (nsK hns)).run callerA [] s₁ H ⟨[.ref a],[]⟩ [.ref a] [.ref a] _ _ hr e0 (hbind s₁ (.ref a)) (.cons rfl .nil) (hsp H hO hS)) fun r s' h=>?_
  cases r with
  | error e=>exact(hCX H e s' h).elim
  | ok fl=>
   cases fl with
   | next=>exact False.elim h
   | brk=>exact False.elim h
   | cont=>exact False.elim h
   | ret u=>
    obtain⟨v,H',os,bare,un,hok',r',q⟩:=h
    have q':v=.bl true:=q
    subst q'
    obtain rfl:u=Value.bool true:=r'
    refine⟨rfl,OldK.of_keep fun b o e=>?_,os,bare⟩
    cases q:H b with
    | none=>exact un.keep b o e q (by intro z;exact absurd (show b∈([]:List Addr) from z) (by simp)) (by simp)
    | some u=>
     rcases hO b with z | ⟨ob,xs,z⟩
     ·rw[q] at z;cases z
     ·have z2:=un.ua b ob _ z
      obtain⟨e1,_⟩:=jg b _ z
      obtain⟨e2,_⟩:=hok' b _ z2
      rw[e] at e1;cases e1
      exact e2
 cases hk:K.lookup a with
 | some o=>
  have e:=KX a o hk
  rw[ha] at e
  cases e
  refine core (fun _=>none) (fun _=>.inl rfl) (.inr ⟨_,vs.toArray,_,hk,rfl,rfl,rfl,by rw[List.size_toArray,lenV];exact hl,by simpa using rv⟩) (fun b u z=>by have z':(none:Option HO)=some u:=z;cases z') (fun b z=>absurd rfl z) fun z=>absurd rfl z
 | none=>
  refine core (fun b=>if b=a then some (.frz { cls:=.type "list",data:=.seq vs.toArray } (.lst (ns.map V.int))) else none) (fun b=>?_) (.inl (.inr ⟨{ cls:=.type "list",data:=.seq vs.toArray },if_pos rfl⟩)) (fun b u z=>?_) (fun b z=>?_) fun _=>hk
  ·by_cases hb:b=a
   ·exact .inr ⟨_,_,if_pos hb⟩
   ·exact .inl (if_neg hb)
  ·by_cases hb:b=a
   ·have z':=(if_pos hb).symm.trans z
    cases z'
    subst hb
    exact⟨ha,by rw[List.length_map];exact hl,vs,_,rv,ha⟩
   ·have z':=(if_neg hb).symm.trans z
    cases z'
  ·by_cases hb:b=a
   ·exact hb
   ·exact absurd (if_neg hb) z
end L2
namespace L2
open PySem PySem.Spec PyProof.Rows
noncomputable abbrev Y4 {K:PySem.W.Frag} {h:Heap} (_:K.In h):PySem.W.Frag:=K
theorem J7 {l:PySem.W.OpenLaw} {n k:Nat} {q:Program} {loose:List Str} {XP:(Str→Option Value)→Heap→Prop} {YP:World→Heap→Prop} {d:DefRec} {K:Params→PySem.W.Frag} {CX:World→uh} {sp:World→Sp} {x:Str}
  (hn:l.most=some n) (hn2:n≤sizeLine) (hdf:d.params.defaults=[]) (hr:kH k callerA)
  (hY:∀(w:World) (h:Heap),YP w h→(K w.params).In h)
  (F:∀(w:World) (mg:Str→Option Value) (fa:Addr) (h:Heap),(K w.params).In h→h.Ns mainGlobals mg→mg d.name=some (.ref fa)→
   ∃fd:FuncData,(∀(s:Shared) (u:Value),BindsTo s fd ⟨[u],[]⟩ [(x,u)])∧
    ∀base:Heap,(K w.params).In base→base.Ns mainGlobals mg→qi l.prog w (K w.params) mg base (CX w) k fa fd [x] (sp w))
  (hsp:∀(w:World) (H:Hp) (a:Addr) (ns:List Int),ns.length≤n→Q2 H→qI (K w.params) H a (ns.map V.int)→sp w [.ref a] H (fun v _=>v=.bl true) fun _ _ _=>False)
  (hCX:∀(w:World) (H:Hp) (s:Shared) (e:Value) (s':Shared),CX w [] H s (fun _ _ _=>False) e s'→False) :
  PySem.W.WalkO q loose XP YP l.row.toRowW d [] (fun f vs=>PySem.call f vs):=by
 refine Att.sg hn hdf fun w s₀ s₁ mg mb fa o pm cd doc a vs ns G Y ho hd hcd hmg hobj hints hlen hg=>?_
 have KX:=hY w _ Y
 obtain⟨fd,hb,hF⟩:=F w mg fa _ KX G.T.g hmg
 exact ZM KX G.T.g G.T.b G.T.builtins G.T.nolimit hg hobj hints (Nat.le_trans hlen hn2) hr hF hb (fun H hO hS=>hsp w H a ns hlen hO hS) fun H e s'=>hCX w H s₁ e s'
theorem QK {l:PySem.W.OpenLaw} {n k:Nat} {q:Program} {loose:List Str} {XP:(Str→Option Value)→Heap→Prop} {YP:World→Heap→Prop} {d:DefRec} {K:Params→PySem.W.Frag} {CX:uh} {sp:PySem.W.Frag→Sp} {x:Str}
  (hn:l.most=some n) (hn2:n≤sizeLine) (hdf:d.params.defaults=[]) (hr:kH k callerA)
  (hY:∀(w:World) (h:Heap),YP w h→(K w.params).In h)
  (F:∀(w:World) (mg:Str→Option Value) (fa:Addr) (h:Heap),(K w.params).In h→h.Ns mainGlobals mg→mg d.name=some (.ref fa)→
   ∃fd:FuncData,(∀(s:Shared) (u:Value),BindsTo s fd ⟨[u],[]⟩ [(x,u)])∧
    ∀base:Heap,(K w.params).In base→base.Ns mainGlobals mg→qi l.prog w (K w.params) mg base CX k fa fd [x] (sp (K w.params)))
  (hsp:∀(K:PySem.W.Frag) (H:Hp) (a:Addr) (ns:List Int),ns.length≤n→Q2 H→qI K H a (ns.map V.int)→sp K [.ref a] H (fun v _=>v=.bl true) fun _ _ _=>False)
  (hCX:∀(H:Hp) (s:Shared) (e:Value) (s':Shared),CX [] H s (fun _ _ _=>False) e s'→False) :
  PySem.W.WalkO q loose XP YP l.row.toRowW d [] (fun f vs=>PySem.call f vs):=
 J7 (K:=K) (CX:=fun _=>CX) (sp:=fun w=>sp (K w.params)) hn hn2 hdf hr hY F (fun w H a ns h1 h2 h3=>hsp (K w.params) H a ns h1 h2 h3) fun _ H s e s'=>hCX H s e s'
end L2
namespace L2
open PySem PySem.Spec PyProof.Rows
noncomputable def inClass (s:Stmt) (j:Nat):Stmt:=match s with
 | .ClassDef _ _ _ body _ _ _ _ _ _ _=>body.getD j (.Pass ⟨0,0,0,0⟩)
 | _=>.Pass ⟨0,0,0,0⟩
noncomputable def qz (s:Stmt):Arguments:=match s with
 | .FunctionDef _ a _ _ _ _ _ _ _ _=>a
 | _=>{ posonlyargs:=[],args:=[],vararg:=none,kwonlyargs:=[],kw_defaults:=[],kwarg:=none,defaults:=[] }
noncomputable def z9 (s:Stmt):List Stmt:=match s with
 | .FunctionDef _ _ b _ _ _ _ _ _ _=>b
 | _=>[]
noncomputable def z4 (s:Stmt):Scope:=match s with
 | .FunctionDef _ _ _ _ _ _ sc _ _ _=>sc
 | _=>{ kind:=.function,names:=[],isGenerator:=false,isCoroutine:=false }
noncomputable abbrev jn:uh:=fun _ _ _ _ _ _=>False
noncomputable abbrev E0:XK:=fun _ _ _=>False
theorem qJ {X:Cx}:Passes jn X E0:=fun _ _ _ _ _ _ _ h=>h.elim
structure JE (K:PySem.W.Frag) (x qual:Str) (st:Stmt) (f:Addr) (fd:FuncData):Prop where
 ex:∃(oc:Value) (od:Option Addr) (kV doc pm:Value) (an:Option Addr) (cdv ct:Value) (osl:Array (Option Value)),
  fd=PySem.W.fnOf x qual (qz st) (z9 st) (z4 st) .none kV doc pm an cdv ct∧K.lookup f=some ⟨oc,od,.func fd,osl⟩∧PySem.W.codeIn K cdv qual=true
 kp:PySem.W.keepIn K (.ref f)=true
section
variable {P:Program} {w:World} {K:PySem.W.Frag} {mg:Str→Option Value} {base:Heap}
theorem JE.ok {x qual:Str} {st:Stmt} {f:Addr} {fd:FuncData} {N ps:List Str} {k:Nat} {sp:Sp} (F:JE K x qual st f fd) (S:qe N ps (z4 st)) (len:∀vs H Q E,sp vs H Q E→vs.length=ps.length)
  (hbody:∀(cdv:Value) (A:Around) (outer:List Env) (s:Shared) (H:Hp) (vs:List V) (Q:VK) (E:XK),kH k (A.deeper (envOfC qual (z4 st) s.heap.objs.size f cdv))→sp vs H Q E→
   ∃t,eu (rO jn P w K mg base N qual (z4 st) f cdv A outer s H E).Wl (z9 st) t∧t { nx:=fun _ H'=>Q .non H',rt:=Q } (start N vs) H):qi P w K mg base jn (k + 1) f fd ps sp:=by
 obtain⟨oc,od,kV,doc,pm,an,cdv,ct,osl,rfl,lk,hcd⟩:=F.ex
 refine Xc lk hcd S len fun A outer s H vs Q E hr hsp=>?_
 obtain⟨t,h,q⟩:=hbody cdv A outer s H vs Q E hr hsp
 exact⟨t,h.Wl,q⟩
theorem JE.binds {x qual:Str} {st:Stmt} {f:Addr} {fd:FuncData} {ps:List Str} (F:JE K x qual st f fd)
  (h:∀(kV doc pm:Value) (an:Option Addr) (cdv ct:Value) (us:List Value),us.length=ps.length→bindArgs (PySem.W.fnOf x qual (qz st) (z9 st) (z4 st) .none kV doc pm an cdv ct) ⟨us,[]⟩=pure (ps.zip us)):Binds K fd ps []:=by
 obtain⟨oc,od,kV,doc,pm,an,cdv,ct,osl,rfl,lk,hcd⟩:=F.ex
 exact .all (h kV doc pm an cdv ct)
theorem qB {x qual:Str} {st:Stmt} {f:Addr} {oc:Value} {od an:Option Addr} {osl:Array (Option Value)} {kV doc pm cdv ct:Value} (l:K.lookup f=some ⟨oc,od,.func (PySem.W.fnOf x qual (qz st) (z9 st) (z4 st) .none kV doc pm an cdv ct),osl⟩)
  (c:PySem.W.codeIn K cdv qual=true) (k:PySem.W.keepIn K (.ref f)=true):JE K x qual st f (PySem.W.fnOf x qual (qz st) (z9 st) (z4 st) .none kV doc pm an cdv ct):=⟨⟨oc,od,kV,doc,pm,an,cdv,ct,osl,rfl,l,c⟩,k⟩
end
theorem iD {A:Around} {k:Nat} (hr:kH k A):A.units + 1 < cLine:=Nat.lt_of_le_of_lt (Nat.add_le_add_left (by decide:1≤64) _) hr.units
theorem mD {n:Nat} (h:n≤1000):n < sizeLine:=Nat.lt_of_le_of_lt h (by decide)
section
variable {X:Cx}
theorem pv (i:Nat) {x:Str} {pos:Pos} (hN:X.N[i]?=some x:=by rfl) (hv:YK X.env.scope x:=by first | exact Or.inl rfl | exact Or.inr (Or.inl rfl) | exact Or.inr (Or.inr rfl)) (hd:(x == ("__debug__" : Str))=false:=by decide)
  (hcd:(x == ("__classdict__" : Str))=false:=by decide):PE X (.Name x pos) (Vf i):=Vx hN hv hd hcd
end
theorem pq {A B:Prop} (h:B):if false=true then A else B:=by
 rw[if_neg Bool.false_ne_true]
 exact h
theorem pe {A B:Prop} (h:A):if true=true then A else B:=by
 rw[if_pos rfl]
 exact h
theorem je {c A B:Prop} [Decidable c] (h1:c→A) (h2:¬c→B):if c then A else B:=by
 by_cases h:c
 ·rw[if_pos h]
  exact h1 h
 ·rw[if_neg h]
  exact h2 h
noncomputable def qg (H H':Hp):Prop:=∀b o,H b=some o→H' b=some o
theorem qg.refl (H:Hp):qg H H:=fun _ _ h=>h
theorem qg.trans {H H1 H2:Hp} (a:qg H H1) (b:qg H1 H2):qg H H2:=fun c o h=>b c o (a c o h)
theorem qg.free {H H':Hp} (e:qg H H') {l:Addr} (h:H' l=Option.none):H l=Option.none:=by
 cases q:H l with
 | none=>rfl
 | some o=>
  rw[e l o q] at h
  cases h
theorem qg.seq {K:PySem.W.Frag} {H H':Hp} {a:Addr} {xs:List V} (e:qg H H') (h:qI K H a xs):qI K H' a xs:=by
 rcases h with (h | ⟨o,h⟩) | h
 ·exact .inl (.inl (e _ _ h))
 ·exact .inl (.inr ⟨o,e _ _ h⟩)
 ·exact .inr h
end L2
namespace L2
open PySem PySem.Spec PyProof.Rows
section
variable {X:Cx}
end
noncomputable def WX (z:Str):It:=⟨fun i _=>i < z.length,fun i H x H'=>H'=H∧∃c,z.cps[i]?=some c∧x=.str ⟨#[c]⟩,fun i _=>i=z.length⟩
theorem uI {prog:Program} {w:World} {A:Around} (hh:A.handled=none) (I:Addr) (x:Str) (t:Tok) :
  Walks prog w A I [I] [I] x.cps.size (SignAt x) (fun i h=>h.IsStrIter I (strIterType x) x t i):=by
 unfold strIterType
 split
 ·exact Walks.strAscii hh I x t
 ·exact Walks.strWide hh I x t
theorem uZ (z:Str):["enumerate","zip","dict_itemiterator","dict_reverseitemiterator","odict_iterator","itertools.zip_longest","itertools.pairwise"].contains (strIterType z)=false:=by
 unfold strIterType
 split<;>decide
theorem ZH {P:Program} {w:World} {K:PySem.W.Frag} {tg:Expr} (z:Str) (t:Tok) (it:Addr):Turn P w K tg (WX z) [it] it (fun i h=>h.IsStrIter it (strIterType z) z t i) where
 mem:=by simp
 obj:=fun i h st b hb=>by
  have e:b=it:=by simpa using hb
  subst e
  obtain⟨o,e,c,d⟩:=st
  exact⟨o,e,fun v q=>by rw[d] at q;cases q⟩
 keep:=fun i h h' st k=>by
  obtain⟨o,e,r⟩:=st
  exact⟨o,k it (by simp) o e,r⟩
 item:=by
  intro X hP hw hK hc i pins s σ H E I hf st hg
  subst hP hw hK
  obtain⟨f0,f1,f2,f3,f4,f5⟩:=hf it (by simp)
  have W:=uI (prog:=X.prog) (w:=X.w) (I.ok.hd hc) it z t
  refine W.item i s _ _ (show i < z.cps.size from hg) st fun v h' tk hv st' kk=>?_
  obtain⟨c,u,hcx,rfl⟩:=hv
  have I1:Inv X pins σ H { s with heap:=h',toks:=tk }:=I.turned (fun b o hb e=>kk b o (by simpa using hb) e) f0 f1 f3 f4 f5
  obtain⟨o,e,hcl,d⟩:=id st'
  exact⟨_,rfl,QH (s:={ s with heap:=h',toks:=tk }) e hcl d (uZ z) ⟨.str ⟨#[c]⟩,H,I1,⟨u,rfl⟩,⟨rfl,c,hcx,rfl⟩,st',fun b hb=>(hf b hb).1⟩⟩
 done:=by
  intro X hP hw hK hc i pins s σ H E I hf st hg
  subst hP hw hK
  obtain⟨f0,f1,f2,f3,f4,f5⟩:=hf it (by simp)
  have hi:i=z.length:=hg
  subst hi
  have W:=uI (prog:=X.prog) (w:=X.w) (I.ok.hd hc) it z t
  exact W.done s _ _ st fun h' tk kk=>⟨rfl,I.turned (fun b o hb e=>kk b o (by simpa using hb) e) f0 f1 f3 f4 f5⟩
 self:=fun A i s Q E st h=>by
  revert st
  unfold strIterType
  split
  ·intro st
   exact wpAny_pyIter_striter_ascii st h
  ·intro st
   exact wpAny_pyIter_striter_wide st h
section
variable {X:Cx} {tg:Expr}
noncomputable def Yl (tl:TE):TI:=fun σ H R=>tl σ H fun x H1=>∃z,x=.str z∧R (WX z) H1
theorem Kd {l:Expr} {tl:TE} (hl:PE X l tl):PI X tg l (Yl tl):=by
 intro pins s σ H R I h
 refine j5 (hl pins s σ H _ I h) fun v s1 ⟨x,H1,I1,r1,q1⟩=>?_
 obtain⟨z,e,q⟩:=q1
 subst e
 obtain⟨t,rfl⟩:=r1
 refine wpAny_pyIter_strU ?_
 refine⟨s1.heap.objs.size,[s1.heap.objs.size],_,_,H1,rfl,I1.kept (t':=s1.toks) fun b o e=>Heap.get?_push_of_some _ e,ZH z t _,⟨_,Heap.get?_push_size _ rfl,rfl,rfl⟩,fun b hb=>?_,q⟩
 have e:b=s1.heap.objs.size:=by simpa using hb
 subst e
 exact I1.aZ (Nat.le_refl _) (I1.jg.fresh (Nat.le_refl _))
end
noncomputable def Gp:V→Option Int→Option Int→Hp→VK→Prop:=fun x lo hi H Q=>∃z,x=.str z∧z.length≤sizeLine∧Q (.str (Txt.slice z lo hi)) H
section
variable {X:Cx}
theorem oA {ns:List Str}:∀{us:List Value},Vals (ns.map V.str) us→StrsAre us ns:=by
 induction ns with
 | nil=>intro us h;cases h;exact .nil
 | cons n ns ih=>
  intro us h
  cases h with
  | cons r t=>
   obtain⟨tk,rfl⟩:=r
   exact .cons n tk (ih t)
noncomputable def rJoin (K:PySem.W.Frag):V→List V→Hp→VK→Prop:=fun x vs H Q=>∃z p ys,x=.str z∧vs=[.ref p]∧qI K H p (ys.map V.str)∧(ys.map (·.length)).sum + ys.length * z.length≤16777216∧Q (.str (Txt.join z ys)) H
theorem JZ:i9 X "str.join" (rJoin X.K):=by
 intro pins s σ H x vs v us Q I rx rv h
 obtain⟨z,p,ys,rfl,rfl,hq,hz,q⟩:=h
 obtain⟨t,rfl⟩:=rx
 obtain⟨u,rfl,ru⟩:=rv.one
 cases ru
 obtain⟨its,r,pl,_⟩:=I.list hq
 exact join_list pl.isList (oA (by simpa using r)) hz fun t' k=>⟨.str (Txt.join z ys),H,I.tok _,⟨t',rfl⟩,q⟩
noncomputable def Y9:R2:=fun x y H Q=>∃z n,x=.str z∧y=.int n∧MulOk z n∧Q (.str (Txt.mul z n)) H
noncomputable def Gq:V→List V→Hp→VK→Prop:=fun x vs H Q=>∃z y,x=.str z∧vs=[.str y]∧Q (.int (Txt.find z y)) H
theorem um:vf X (.type "int") (fun xs H Q=>∃z n,xs=[.str z]∧PySem.intText? z=some n∧z.length≤640∧Q (.int n) H):=by
 intro pins s σ H xs us Q I r h
 obtain⟨z,n,rfl,hn,hl,q⟩:=h
 obtain⟨u,rfl,t,rfl⟩:=vals1 r
 exact PySem.W.KIN.call_text hn hl ⟨.int n,H,I.tok _,⟨_,rfl⟩,q⟩
noncomputable def Qp:V→Value
 | .ty n=>.type n
 | .ref a=>.ref a
 | _=>.none
theorem tQ:vf X (.builtin "isinstance") (fun xs H Q=>∃x c t b,xs=[x,c]∧((∃n,c=.ty n)∨∃a,c=.ref a)∧ki X.K H x t∧PySem.W.kitOne X.K t (Qp c)=some b∧Q (.bl b) H):=by
 intro pins s σ H xs us Q I r h
 obtain⟨x,c,t,b,rfl,hc,ty,hk,q⟩:=h
 obtain⟨u,u',rfl,rx,rc⟩:=vals2 r
 have e:u'=Qp c:=by
  rcases hc with ⟨n,rfl⟩ | ⟨a,rfl⟩
  ·exact rc
  ·exact rc
 subst e
 exact aG I rx ty hk fun tk=>⟨.bl b,H,I.tok _,rfl,q⟩
theorem range_all (bs:List Bool):(List.range bs.length).all (fun i=>bs.getD i true)=bs.all id:=by
 rw[Bool.eq_iff_iff,List.all_eq_true,List.all_eq_true]
 constructor
 ·intro h x hx
  obtain⟨i,hi,e⟩:=List.getElem_of_mem hx
  have:=h i (List.mem_range.mpr hi)
  rw[List.getD_eq_getElem?_getD,List.getElem?_eq_getElem hi] at this
  rw[←e]
  exact this
 ·intro h i hi
  have hi':=List.mem_range.mp hi
  rw[List.getD_eq_getElem?_getD,List.getElem?_eq_getElem hi']
  exact h _ (List.getElem_mem hi')
theorem yZ (hc:X.calm=true):vf X (.builtin "all") (fun xs H Q=>∃(p:Addr) (bs:List Bool),xs=[.ref p]∧qI X.K H p (bs.map V.bl)∧Q (.bl (bs.all id)) H):=by
 intro pins s σ H xs us Q I r h
 obtain⟨p,bs,rfl,hq,q⟩:=h
 obtain⟨u,rfl,ru⟩:=vals1 r
 cases ru
 obtain⟨its,rv,pl,_⟩:=I.list hq
 have hl:=rv.length
 rw[List.length_map] at hl
 refine call_all_walk (wpAny_pyIter_list pl.isList ?_)
 have hne:p≠s.heap.objs.size:=Nat.ne_of_lt (by obtain⟨o,n,e,_⟩:=pl;exact Heap.lt_size e)
 refine⟨s.heap.objs.size,_,_,_,_,_,fun i=>bs.getD i true,rfl,Walks.list (show X.A.in1.handled=none from I.ok.hd hc) s.heap.objs.size p hne its.toArray,⟨⟨_,Heap.get?_push_size _ rfl,rfl,rfl⟩,?_⟩,?_,?_⟩
 ·obtain⟨o,e,rest⟩:=pl.isList
  exact⟨o,Heap.get?_push_of_some _ e,rest⟩
 ·intro i v s' Q' E' hv hQ'
  have hv':its[i]?=some v:=by simpa using hv
  have hi:i < bs.length:=by rw[hl];exact(List.getElem?_eq_some_iff.mp hv').1
  obtain⟨u,e1,e2⟩:=rv.get (i:=i) (x:=V.bl bs[i]) (by rw[List.getElem?_map,List.getElem?_eq_getElem hi];rfl)
  rw[hv'] at e1
  cases e1
  cases e2
  dsimp only at hQ'
  rw[List.getD_eq_getElem?_getD,List.getElem?_eq_getElem hi] at hQ'
  exact wpAny_truthy_bool hQ'
 ·intro h' tk kk
  have I1:Inv X pins σ H { s with heap:=h',toks:=tk }:=I.kept fun b o e=>kk b o (by
   intro z
   have z':b=s.heap.objs.size:=by simpa using z
   exact absurd (Heap.lt_size e) (by rw[z'];exact Nat.lt_irrefl _)) (Heap.get?_push_of_some _ e)
  refine⟨.bl _,H,I1,?_,q⟩
  show Value.bool _=Value.bool _
  rw[List.size_toArray,←hl,range_all]
mutual
inductive pj (K:PySem.W.Frag) (H:Hp):V→PyData→Prop where
 | non:pj K H .non .none
 | bl (b:Bool):pj K H (.bl b) (.bool b)
 | int (i:Int):pj K H (.int i) (.int i)
 | str (x:Str):pj K H (.str x) (.str x)
 | lst {a:Addr} {xs:List V} {ds:List PyData}:qI K H a xs→kB K H xs ds→pj K H (.ref a) (.list ds)
 | tup {a:Addr} {xs:List V} {ds:List PyData}:yT K H a xs→kB K H xs ds→pj K H (.ref a) (.tuple ds)
inductive kB (K:PySem.W.Frag) (H:Hp):List V→List PyData→Prop where
 | nil:kB K H [] []
 | cons {x:V} {xs:List V} {d:PyData} {ds:List PyData}:pj K H x d→kB K H xs ds→kB K H (x :: xs) (d :: ds)
end
mutual
theorem pj.reads {pins:List (Addr × Obj)} {σ:St} {H:Hp} {s:Shared} (I:Inv X pins σ H s):∀{x:V} {d:PyData} {v:Value},pj X.K H x d→RelV x v→∃as,Reads s.heap v d as
 | _,_,_,.non,r=>by cases r;exact⟨_,.none⟩
 | _,_,_,.bl b,r=>by cases r;exact⟨_,.bool b⟩
 | _,_,_,.int i,r=>by obtain⟨t,rfl⟩:=r;exact⟨_,.int i t⟩
 | _,_,_,.str x,r=>by obtain⟨t,rfl⟩:=r;exact⟨_,.str x t⟩
 | _,_,_,.lst hq rs,r=>by
  cases r
  obtain⟨its,rv,pl,_⟩:=I.list hq
  obtain⟨as,ra⟩:=kB.reads I rs rv
  obtain⟨o,n,e,c,_,d⟩:=pl
  exact⟨_,.list e c d (by simpa using ra)⟩
 | _,_,_,.tup hq rs,r=>by
  cases r
  obtain⟨its,rv,pl,_⟩:=I.tuple hq
  obtain⟨as,ra⟩:=kB.reads I rs rv
  obtain⟨o,e,c,n,d⟩:=pl
  exact⟨_,.tuple e c d (by simpa using ra)⟩
theorem kB.reads {pins:List (Addr × Obj)} {σ:St} {H:Hp} {s:Shared} (I:Inv X pins σ H s):∀{xs:List V} {ds:List PyData} {vs:List Value},kB X.K H xs ds→Vals xs vs→∃as,ReadsAll s.heap vs ds as
 | _,_,_,.nil,r=>by cases r;exact⟨_,.nil⟩
 | _,_,_,.cons q qs,r=>by
  cases r with
  | cons r rs=>
   obtain⟨as,ra⟩:=pj.reads I q r
   obtain⟨bs,rb⟩:=kB.reads I qs rs
   exact⟨_,.cons ra rb⟩
end
noncomputable def Je (K:PySem.W.Frag) (neg:Bool):R2:=fun x y H Q=>∃d e,pj K H x d∧pj K H y e∧SeqAt.shaped d=true∧SeqAt.shaped e=true∧Q (.bl (if neg then !PyData.eqv d e else PyData.eqv d e)) H
theorem K1 (hu:X.A.units + 64 < cLine):bY X (compareOp .Eq) (Je X.K false):=by
 intro pins s σ H x y v u Q I rx ry h
 obtain⟨d,e,h1,h2,h3,h4,q⟩:=h
 obtain⟨as,ra⟩:=h1.reads I rx
 obtain⟨bs,rb⟩:=h2.reads I ry
 exact eq_dataH ra rb h3 h4 hu ⟨.bl _,H,I,rfl,q⟩
theorem Ka (hu:X.A.units + 64 < cLine):bY X (compareOp .NotEq) (Je X.K true):=by
 intro pins s σ H x y v u Q I rx ry h
 obtain⟨d,e,h1,h2,h3,h4,q⟩:=h
 obtain⟨as,ra⟩:=h1.reads I rx
 obtain⟨bs,rb⟩:=h2.reads I ry
 exact ne_dataH ra rb h3 h4 hu ⟨.bl _,H,I,rfl,q⟩
theorem kB.strs {K:PySem.W.Frag} {H:Hp}:∀xs:List Str,kB K H (xs.map V.str) (xs.map PyData.str)
 | []=>.nil
 | x :: r=>.cons (.str x) (kB.strs r)
theorem kB.Yq {K:PySem.W.Frag} {H:Hp}:∀xs:List Bool,kB K H (xs.map V.bl) (xs.map PyData.bool)
 | []=>.nil
 | x :: r=>.cons (.bl x) (kB.Yq r)
theorem eqvAll_map {α : Type} [DecidableEq α] {f : α → PyData} (hf : ∀ x y, PyData.eqv (f x) (f y) = decide (x = y)) (xs : List α) : ∀ ys : List α, PyData.eqvAll (xs.map f) (ys.map f) = decide (xs = ys) := by
  induction xs with
  | nil => intro ys; cases ys <;> simp [PyData.eqvAll]
  | cons x r ih =>
    intro ys
    cases ys
    · simp [PyData.eqvAll]
    · simp [PyData.eqvAll, hf, ih]
theorem gT (xs ys : List Str) : PyData.eqvAll (xs.map PyData.str) (ys.map PyData.str) = decide (xs = ys) := eqvAll_map (fun x y => by rw [PyData.eqv]; by_cases h : x = y <;> simp [h]) xs ys
theorem cD (xs ys : List Bool) : PyData.eqvAll (xs.map PyData.bool) (ys.map PyData.bool) = decide (xs = ys) := eqvAll_map (fun x y => by cases x <;> cases y <;> rfl) xs ys
theorem gL:∀xs:List Str,(∀x∈xs,PyData.strOk x=true)→PyData.canLayAll0 (xs.map PyData.str)=true∧PyData.depthAll (xs.map PyData.str)=0
 | [],_=>⟨rfl,rfl⟩
 | x :: r,h=>by
  have q:=gL r fun y hy=>h y (List.mem_cons_of_mem _ hy)
  simp [PyData.canLayAll0,PyData.canLay0,PyData.depthAll,PyData.depth,q.1,q.2,h x List.mem_cons_self]
theorem x8 {xs:List Str} (h:∀x∈xs,PyData.strOk x=true):SeqAt.shaped (.list (xs.map PyData.str))=true:=by
 have q:=gL xs h
 simp [SeqAt.shaped,PyData.canLay0,PyData.depth,q.1,q.2]
theorem cu:∀xs:List Bool,PyData.canLayAll0 (xs.map PyData.bool)=true∧PyData.depthAll (xs.map PyData.bool)=0
 | []=>⟨rfl,rfl⟩
 | x :: r=>by
  have q:=cu r
  simp [PyData.canLayAll0,PyData.canLay0,PyData.depthAll,PyData.depth,q.1,q.2]
theorem uw (xs:List Bool):SeqAt.shaped (.list (xs.map PyData.bool))=true:=by
 have q:=cu xs
 simp [SeqAt.shaped,PyData.canLay0,PyData.depth,q.1,q.2]
end
section
variable {X:Cx} {CX:uh} {k:Nat} {f C:Addr} {fd:FuncData} {ps:List Str} {sp:Sp} {dvs:List V} {ds:List Value} {E:XK} {x m:Str} {p pos apos:Pos} {e:Expr} {es:List Expr} {t:TA}
structure ZR (K:PySem.W.Frag) (C:Addr) (m:Str) (f:Addr):Prop where
 ga:PySem.W.specialIn K (.ref C) "__getattribute__" = some (some (.builtin "type.__getattribute__"))
 rd:PySem.W.readsIn K C (.type "type")=true
 at_:PySem.W.findCls K (.ref C) (.type "type") m=some (.val (.ref f))
 kp:PySem.W.keepIn K (.ref f)=true
theorem cf {pl:Sem Bool} (hg:Gl X x) (hm:X.mg x=some (.ref C)) (c:ZR X.K C m f) (F:qi X.prog X.w X.K X.mg X.base CX k f fd ps sp) (hr:kH k X.A) (hb:Binds X.K fd ps ds) (hd:Vals dvs ds) (hx:Passes CX X E) (ha:PA X (e :: es) t)
  (hst:starEach (e :: es) X.env=(false,eval e X.env) :: starEach es X.env:=by rfl) (hpl:(backTo pos (starEach es X.env)).any (·.1)=false:=by rfl) (hdb:(x == ("__debug__" : Str))=false:=by decide)
  (ht:eval (.Call (.Attribute (.Name x p) m apos) (e :: es) [] pos) X.env=(do
   let ov ←eval (.Name x p) X.env
   standAt apos.atName
   let (f,first) ←holding [ov] (getMethod ov m pl)
   callWith pos f first (backTo pos (starEach (e :: es) X.env)) (backToKw pos (keywordEach [] X.env))):=by rfl) :
  PE X (.Call (.Attribute (.Name x p) m apos) (e :: es) [] pos) (Xr sp dvs E t):=by
 intro pins s σ H Q I h
 refine PySem.W.methodCall_KW (pl:=pl) (bU I hg hm ?_ hdb) ht
 refine PySem.W.method_cls I.gP c.ga (PySem.W.cls_value I.gP c.rd c.at_ rfl ?_)
 refine PySem.W.callWith_K (first:=[]) (h₀:=X.base) I.ok.mod.Zi c.kp (j5 (ha pos pins _ σ H _ (I.tok _) h) fun us s1 ⟨vs,H1,I1,r,q⟩=>⟨I1.gP,?_⟩) hst hpl
 exact lg F hr hb hd hx I1 r q
end
end L2
namespace L2
open PySem PySem.Spec PyProof.Rows
noncomputable def jx (env:Env):List (Str × NameKind)→List (Str × Addr)→List (Str × Addr)
 | [],acc=>acc
 | (n,k) :: r,acc=>jx env r (if k == .free then (n,(env.cells.lookup n).getD 0) :: acc else acc)
theorem pF {sc:Scope} {env:Env} (h:∀y∈sc.names,y.2=.free→∃c,env.cells.lookup y.1=some c):closureFor sc env=pure (jx env sc.names []):=by
 simp only[closureFor]
 have key:∀(l:List (Str × NameKind)) (acc:List (Str × Addr)),(∀y∈l,y.2=.free→∃c,env.cells.lookup y.1=some c)→
   (forIn l acc (fun (x:Str × NameKind) (r:List (Str × Addr))=>if (x.2 == NameKind.free)=true then do let a ←cellOf env x.1;pure (ForInStep.yield ((x.1,a) :: r)) else pure (ForInStep.yield r)):Sem (List (Str × Addr)))=pure (jx env l acc):=by
  intro l
  induction l with
  | nil=>intro acc _;rfl
  | cons y r ih=>
   intro acc hl
   obtain⟨n,k⟩:=y
   rw[List.forIn_cons]
   have ih':=fun acc=>ih acc fun z hz=>hl z (List.mem_cons_of_mem _ hz)
   by_cases hk:(k == NameKind.free)=true
   ·obtain⟨c,hc⟩:=hl (n,k) List.mem_cons_self (by simpa using hk)
    have hc':env.cells.lookup n=some c:=hc
    have e1:cellOf env n=pure c:=by unfold cellOf;rw[hc']
    simp only[hk,if_true,e1,jx,hc',Option.getD_some]
    exact ih' _
   ·simp only[hk,jx]
    exact ih' _
 rw[key sc.names [] h]
 rfl
theorem kC {env:Env}:∀(l:List (Str × NameKind)) (acc:List (Str × Addr)),(∀z c,acc.lookup z=some c→c=(env.cells.lookup z).getD 0)→
  (∀z c,(jx env l acc).lookup z=some c→c=(env.cells.lookup z).getD 0)∧(∀z,(jx env l acc).lookup z=none↔(acc.lookup z=none∧(z,NameKind.free)∉l))
 | [],acc,h=>⟨h,fun z=>by simp [jx]⟩
 | (n,k) :: r,acc,h=>by
  by_cases hk:(k == NameKind.free)=true
  ·have hk':k=.free:=by simpa using hk
   subst hk'
   have h':∀z c,((n,(env.cells.lookup n).getD 0) :: acc).lookup z=some c→c=(env.cells.lookup z).getD 0:=by
    intro z c e
    rw[List.lookup_cons] at e
    cases hz:z == n with
    | true=>
     rw[hz] at e
     have e':(env.cells.lookup n).getD 0=c:=by simpa using e
     rw[beq_iff_eq.mp hz,e']
    | false=>
     rw[hz] at e
     exact h z c (by simpa using e)
   obtain⟨a,b⟩:=kC r _ h'
   refine⟨by simpa [jx] using a,fun z=>?_⟩
   have b':=b z
   show (jx env r (if (NameKind.free == NameKind.free)=true then _ else acc)).lookup z=none↔_
   rw[if_pos hk,b',List.lookup_cons]
   cases hz:z == n with
   | true=>
    have:z=n:=beq_iff_eq.mp hz
    subst this
    simp
   | false=>
    have hne:z≠n:=by intro q;subst q;simp at hz
    simp [hne]
  ·obtain⟨a,b⟩:=kC r acc h
   have e0:jx env ((n,k) :: r) acc=jx env r acc:=by
    show jx env r (if (k == NameKind.free)=true then _ else acc)=_
    rw[if_neg hk]
   rw[e0]
   refine⟨a,fun z=>?_⟩
   rw[b z]
   have hne:¬(NameKind.free=k):=by intro q;subst q;exact hk rfl
   simp [hne]
/-- a map that Kk the keys alone changes what stands behind a key, and nothing else -/
theorem lookup_vals {α β : Type} {f : Str × α → Str × β} (hf : ∀ p, (f p).1 = p.1) (x : Str) (l : List (Str × α)) : (l.map f).lookup x = (l.lookup x).map fun k => (f (x, k)).2 := by
  induction l with
  | nil => rfl
  | cons p r ih =>
    obtain ⟨n, k⟩ := p
    have e : f (n, k) = (n, (f (n, k)).2) := Prod.ext (hf _) rfl
    rw [List.map_cons, e]
    by_cases q : x = n
    · subst q
      simp [List.lookup_cons]
    · simp [List.lookup_cons, beq_false_of_ne q, ih]
theorem xE {env : Env} {sc : Scope} {x : Str} : (relabel sc env).names.lookup x = (sc.names.lookup x).map fun k => if k == .free && env.scope.kind == .function && env.kindOf x == some .cell then .cell else k := by
  show (List.map _ sc.names).lookup x = _
  rw [lookup_vals (fun p => by dsimp only; split <;> rfl)]
  congr 1
  funext k
  dsimp only
  split <;> rfl
structure yU (osc:Scope) (N:List Str) (sc:Scope) (x:Str) (names:List Str) (qD:List Nat):Prop where
 kind:sc.kind=.function
 cq:∀y∈sc.names,y.2≠.cell
 locs:∀y∈sc.names,y.2=.local→sc.names.lookup y.1=some .local
 frees:∀y∈sc.names,y.2=.free→osc.names.lookup y.1=some .cell
 own:sc.names.lookup x=some .local
 qD:names.map some=qD.map fun i=>N[i]?
 nS:∀y∈names,sc.names.lookup y=some .free
 nd:(x :: names).Nodup
noncomputable def wy (X:Cx) (sc:Scope) (x:Str) (names:List Str) (fp:List Addr) (s₀:Shared) (H₀:Hp):Cx where
 prog:=X.prog
 w:=X.w
 K:=X.K
 mg:=X.mg
 base:=X.base
 A:=X.A
 N:=x :: names
 s₀:=s₀
 H₀:=H₀
 env:=compEnvC sc (jx X.env sc.names []) s₀.heap.objs.size X.env
 outer:=X.stack
 stack:=X.stack
 ex:=fp
 fn:=fun _=>false
 calm:=X.calm
 pn:=[]
 xe:=fun _ _=>False
noncomputable def wc (σ:St) (qD:List Nat):St:=qD.map fun i=>(σ[i]?).join
noncomputable def Qz (J:It) (qD:List Nat) (te:TE) (σ:St) (Q:VK) (H1:Hp):Prop:=∀D,H1 D=none→∃W:Nat→Nat→Hp→Prop,(∃m,W 0 m (upd H1 D (.lst [])))∧∀i m H2,W i m H2→
 (J.stop i H2∧Q (.ref D) H2)∨(J.go i H2∧∀y H3,J.Js i H2 y H3→te (some y :: wc σ qD) H3 fun v H4=>∃ys,H4 D=some (.lst ys)∧ys.length < sizeLine∧∃m',m' < m∧W (i + 1) m' (upd H4 D (.lst (ys ++ [v]))))
noncomputable def XZ (qD:List Nat) (wi:TI) (te:TE):TE:=fun σ H Q=>wi σ H fun J H1=>Qz J qD te σ Q H1
/-- what comes behind what is known of a first step -/
theorem sq2 {M : Model} {A : Around} {E : Value → Shared → Prop} {s : Shared} {α β : Type} {x : Sem α} {f : α → Sem β} {Q1 : α → Shared → Prop} {Q : β → Shared → Prop} (h : wpAny M A x Q1 E s) (k : ∀ a s1, Q1 a s1 → wpAny M A (f a) Q E s1) : wpAny M A (x >>= f) Q E s := wpAny_bind (j5 h k)
/-- a step of a comprehension's turn: what it raises is noted in the comprehension's own frame -/
abbrev Noted (prog : Program) (w : World) (A : Around) (env : Env) (R : Result → Shared → Prop) {α : Type} (x : Sem α) (Q : α → Shared → Prop) (s : Shared) : Prop := wpAny (model prog w) A x Q (notedBy (model prog w) A env fun e => R (.error e)) s
abbrev testB (env : Env) (c : Expr) (r : Bool) : Sem (ForInStep Bool) := if r = true then isTrue c env (eval c env) >>= fun ok => pure (.yield ok) else pure (.yield r)
section
variable {prog:Program} {w:World} {A:Around} {R:Result→Shared→Prop} {s:Shared}
theorem nh {el tg src : Expr} {scope : Scope} {pos : Pos} {it acc : Value} {env : Env} (I : Nat → Shared → Prop)
    (turn : ∀ n s, I n s → Noted prog w A env R (pyNext it) (fun r s1 => match r with
      | none => R (.ok .next) s1
      | some v => Noted prog w A env R (letOwnedTupleGo tg it v) (fun _ => Noted prog w A env R (assign tg env v) fun _ => Noted prog w A env R (eval el env) fun x => Noted prog w A env R (call (.builtin "list.append") [acc, x]) fun _ s5 => ∃ m, m < n ∧ I m s5) s1) s) (n : Nat) (h : I n s) :
    codeAny (model prog w) A (.compLoop (.ListComp el [⟨tg, src, [], 0⟩] scope pos) 0 it acc env) R s := by
  refine codeAny_loop rfl I (fun k s1 hI => (?_ : wpAny _ _ (Sem.onRaise _ _) _ _ _)) n h
  refine wpAny_noted (compTurn_list .. ▸ wpAny_bind (wpAny_standAt (sq2 (turn k s1 hI) fun r s2 hr => ?_)))
  cases r
  · exact wpAny_pure hr
  · exact sq2 hr fun _ _ a => sq2 a fun _ _ b => wpAny_bind (wpAny_tests_nil (sq2 (sq2 b fun _ _ c => sq2 c fun _ _ d => wpAny_pure d) fun _ _ e => wpAny_pure ⟨rfl, e⟩))
end
section
variable {X:Cx}
theorem X3 {pins:List (Addr × Obj)} {σ:St} {H:Hp} {s:Shared} {osc:Scope} {N:List Str} {sc:Scope} {x:Str} {names:List Str} {qD:List Nat} {fp:List Addr}
  (hos:X.env.scope=osc) (cs:yU osc N sc x names qD) (I:Inv X pins σ H s) (hf:∀b∈fp,yQ X pins H b) (hlt:∀b∈fp,b < s.heap.objs.size):(wy X sc x names fp s H).Ok:=by
 subst hos
 have cl:=kC (env:=X.env) sc.names [] (fun z c e=>by simp at e)
 have hcl:∀y c,(jx X.env sc.names []).lookup y=some c→X.env.cells.lookup y=some c:=fun y c e=>by
  have e1:=cl.1 y c e
  have hm:(y,NameKind.free)∈sc.names:=by
   by_cases q:(y,NameKind.free)∈sc.names
   ·exact q
   ·have:=(cl.2 y).mpr ⟨rfl,q⟩
    rw[this] at e;cases e
  obtain⟨c',hc'⟩:=I.ok.has y (.inl (cs.frees _ hm rfl))
  rw[hc'] at e1 ⊢
  rw[e1];rfl
 refine⟨I.ok.mod,?_,I.ok.glob,I.ok.blt,Nat.le_refl _,fun y z c h1 h2=>I.ok.inj y z c (hcl y c h1) (hcl z c h2),fun y hy=>?_,fun y c h=>?_,I.ok.hd,I.ok.frames,.inl rfl,fun b hb=>⟨?_,fun y c h=>?_⟩,
  I.bs,Nat.le_trans I.ok.Zx I.sz,fun b o e hb=>?_,fun b hb z=>?_,I.stack,I.fM⟩
 ·exact cs.kind
 ·have hy':(relabel sc X.env).names.lookup y=some .cell∨(relabel sc X.env).names.lookup y=some .free:=hy
  have key:sc.names.lookup y=some .free:=by
   rw[xE] at hy'
   cases q:sc.names.lookup y with
   | none=>rw[q] at hy';simp at hy'
   | some k=>
    rw[q] at hy'
    have hm:=PySem.mem_of_lookup q
    have hnc:=cs.cq _ hm
    by_cases hk:k=.free
    ·rw[hk]
    ·have e:(if (k == NameKind.free && X.env.scope.kind == .function && X.env.kindOf y == some .cell)=true then NameKind.cell else k)=k:=if_neg (by simp [hk])
     rw[Option.map_some,e] at hy'
     rcases hy' with z | z
     ·exact absurd (Option.some.inj z) hnc
     ·exact absurd (Option.some.inj z) hk
  have hm:=PySem.mem_of_lookup key
  cases q:(jx X.env sc.names []).lookup y with
  | some c=>exact⟨c,q⟩
  | none=>exact absurd hm ((cl.2 y).mp q).2
 ·exact absurd (show false=true from h) (by simp)
 ·exact Nat.ne_of_lt (hlt b hb)
 ·exact(hf b hb).2.2.2.2.1 y c (hcl y c h)
 ·rcases(hf b hb).2.2.2.1 with z | z
  ·exact I.ok.aS b o e z
  ·exact absurd (Nat.lt_of_lt_of_le (Heap.lt_size e) (Nat.le_trans I.ok.Zx z)) (Nat.lt_irrefl _)
 ·rcases List.mem_cons.mp (I.cy b z) with q | q
  ·exact(hf b hb).2.1 q
  ·exact(hf b hb).2.2.1 q
theorem tR {pins:List (Addr × Obj)} {σ:St} {s₂:Shared} {osc:Scope} {N:List Str} {sc:Scope} {x:Str} {px pos:Pos} {elt iter:Expr} {names:List Str} {qD:List Nat} {te:TE} {E:Value→Shared→Prop}
  {RR:Value→Addr→Result→Shared→Prop} {H2:Hp} {it:Addr} {fp:List Addr} {tn:Nat→Heap→Prop} {J:It} {Qd:V→Hp→Prop}
  (hc:X.calm=true) (hos:X.env.scope=osc) (hN:X.N=N) (cs:yU osc N sc x names qD) (he:∀fp s₀ H₀,PE (wy X sc x names fp s₀ H₀) elt te)
  (I2:Inv X pins σ H2 s₂) (T:Turn X.prog X.w X.K (.Name x px) J fp it tn) (st2:tn 0 s₂.heap) (f2:∀b∈fp,yQ X pins H2 b)
  (hW:Qz J qD te σ Qd H2)
  (cont:∀D C H5 s6 m,Inv X pins σ H5 s6→s6.heap.Ns C m→yQ X pins H5 C→Qd (.ref D) H5→RR (.ref D) C (.ok .next) s6) :
  wpAny (model X.prog X.w) X.A (newList []) (fun acc s₃=>wpAny (model X.prog X.w) X.A (newFunctionEnv sc X.env.globals (jx X.env sc.names []) [] X.env.qual none .none (some X.env)) (fun cenv s₄=>
   codeAny (model X.prog X.w) X.A (.compStart (.ListComp elt [⟨.Name x px,iter,[],0⟩] sc pos) 0 (.ref it) acc { cenv with scope:=relabel sc X.env }) (RR acc cenv.locals) s₄) E s₃) E s₂:=by
 subst hN
 refine wpAny_newObj_type (wpAny_newFunctionEnv cs.cq (by intro y hy;simp at hy) (fun h₁ hns₁ hsb₁=>?_) cs.kind)
 dsimp only at hns₁ hsb₁ ⊢
 have fp2:∀b∈fp,b < s₂.heap.objs.size:=fun b hb=>by
  obtain⟨o,e,_⟩:=T.obj _ _ st2 b hb
  exact Heap.lt_size e
 have I3:Inv X pins σ (upd H2 s₂.heap.objs.size (.lst [])) { s₂ with heap:=s₂.heap.push { cls:=.type "list",dict:=none,data:=.seq ([]:List Value).toArray } }:=I2.ZK (t':=s₂.toks) (its:=[]) .nil (Nat.zero_le _)
 obtain⟨W,⟨m0,w0⟩,turn⟩:=hW s₂.heap.objs.size I2.fresh
 have f3:∀b∈fp,yQ X pins (upd H2 s₂.heap.objs.size (.lst [])) b:=fun b hb=>⟨by rw[qW (Nat.ne_of_lt (fp2 b hb))];exact(f2 b hb).1,(f2 b hb).2⟩
 have hD:∀b o,s₂.heap.get? b=some o→(s₂.heap.push { cls:=.type "list",dict:=none,data:=.seq ([]:List Value).toArray }).get? b=some o:=fun b o e=>Heap.get?_push_of_some _ e
 generalize hs3:({ s₂ with heap:=s₂.heap.push { cls:=.type "list",dict:=none,data:=.seq ([]:List Value).toArray } }:Shared)=s₃ at *
 have hs3h:s₃.heap=s₂.heap.push { cls:=.type "list",dict:=none,data:=.seq ([]:List Value).toArray }:=by rw[←hs3]
 rw[←hs3h] at hns₁ hsb₁ hD ⊢
 have nY:∀b∈fp,b < s₃.heap.objs.size:=fun b hb=>by
  rw[hs3h,Heap.size_push];exact Nat.lt_succ_of_lt (fp2 b hb)
 have k3:∀b o,s₃.heap.get? b=some o→h₁.get? b=some o:=fun b o e=>hsb₁.extBut b o (Nat.ne_of_lt (Heap.lt_size e)) (Heap.get?_push_of_some _ e)
 have ok:=X3 hos cs I3 f3 nY
 have cl:=kC (env:=X.env) sc.names [] (fun z c e=>by simp at e)
 have hcl:∀y c,(jx X.env sc.names []).lookup y=some c→X.env.cells.lookup y=some c:=fun y c e=>by
  have e1:=cl.1 y c e
  have hm:(y,NameKind.free)∈sc.names:=by
   by_cases q:(y,NameKind.free)∈sc.names
   ·exact q
   ·have:=(cl.2 y).mpr ⟨rfl,q⟩
    rw[this] at e;cases e
  obtain⟨c',hc'⟩:=I3.ok.has y (.inl (by show X.env.scope.names.lookup y=_;rw[hos];exact cs.frees _ hm rfl))
  rw[hc'] at e1 ⊢
  rw[e1];rfl
 have cell4:∀y c,(jx X.env sc.names []).lookup y=some c→∀v,s₃.heap.IsCell c v→h₁.IsCell c v:=fun y c e v ⟨o,ho,hd⟩=>⟨o,k3 _ _ ho,hd⟩
 have lenC:qD.length=names.length:=by have:=congrArg List.length cs.qD;simpa using this.symm
 have I4:∀tk,Inv (wy X sc x names fp s₃ (upd H2 s₂.heap.objs.size (.lst []))) [] (none :: wc σ qD) (upd H2 s₂.heap.objs.size (.lst [])) { s₃ with heap:=h₁,toks:=tk }:=fun tk=>by
  refine⟨ok,rfl,I3.bare,Un.kept k3,⟨_,hns₁,fun i y v e1 e2 e3=>?_⟩,fun y c e=>?_,I3.fresh,fun y c e=>I3.gX y c (hcl y c e),fun p hp=>absurd (show p∈([]:List (Addr × Obj)) from hp) (by simp),I3.jg.kept k3,?_⟩
  ·cases i with
   | zero=>simp at e2
   | succ j=>
    have e1':names[j]?=some y:=by simpa [wy] using e1
    have e2':(wc σ qD)[j]?=some (some v):=by simpa using e2
    unfold wc at e2'
    rw[List.getElem?_map] at e2'
    cases qc:qD[j]? with
    | none=>rw[qc] at e2';cases e2'
    | some i0=>
     rw[qc] at e2'
     have e2'':(σ[i0]?).join=some v:=by simpa using e2'
     have e3':σ[i0]?=some (some v):=by
      cases qs:σ[i0]? with
      | none=>rw[qs] at e2'';cases e2''
      | some o=>rw[qs] at e2'';rw[show o=some v from by simpa using e2'']
     have eN:X.N[i0]?=some y:=by
      have q1:(names.map some)[j]?=(qD.map fun i=>X.N[i]?)[j]?:=by rw[cs.qD]
      rw[List.getElem?_map,List.getElem?_map,e1',qc] at q1
      have q2:some y=X.N[i0]?:=by simpa using q1
      exact q2.symm
     have hfree:=cs.nS y (List.mem_of_getElem? e1')
     have hm:=PySem.mem_of_lookup hfree
     have hcell:X.env.scope.names.lookup y=some .cell:=by rw[hos];exact cs.frees _ hm rfl
     obtain⟨m,hn,hl⟩:=I3.loc
     obtain⟨u,ru,lk⟩:=hl i0 y v eN e3' (.inr (.inl hcell))
     refine⟨u,ru,?_⟩
     rcases lk with ⟨kk,_⟩ | ⟨kk,c,ec,hcl'⟩
     ·have kk':X.env.scope.names.lookup y=some .local:=kk
      rw[hcell] at kk';cases kk'
     ·refine .inr ⟨?_,c,?_,?_⟩
      ·left
       show (relabel sc X.env).names.lookup y=some .cell
       rw[xE,hfree]
       have ef:(X.env.scope.kind == ScopeKind.function)=true:=by rw[I3.ok.kind];rfl
       have ek:(X.env.kindOf y == some NameKind.cell)=true:=by
        show (X.env.scope.names.lookup y == some NameKind.cell)=true
        rw[hcell];rfl
       simp [ef,ek]
      ·show (jx X.env sc.names []).lookup y=some c
       cases q:(jx X.env sc.names []).lookup y with
       | none=>exact absurd hm ((cl.2 y).mp q).2
       | some c'=>
        have:=hcl y c' q
        rw[ec] at this
        exact this.symm
      ·obtain⟨o,ho,hd⟩:=hcl'
       exact⟨o,k3 _ _ ho,hd⟩
  ·obtain⟨v,hv⟩:=I3.cell y c (hcl y c e)
   exact⟨v,cell4 y c e v hv⟩
  ·show (none :: wc σ qD).length=(x :: names).length
   unfold wc
   simp [lenC]
 have st4:tn 0 h₁:=T.keep _ _ _ st2 fun b hb o e=>k3 b o (by rw[hs3h];exact Heap.get?_push_of_some _ e)
 have fpok:∀{H':Hp},(∀b∈fp,H' b=none)→∀b∈fp,yQ (wy X sc x names fp s₃ (upd H2 s₂.heap.objs.size (.lst []))) [] H' b:=fun hn b hb=>
  ⟨hn b hb,(ok.Vp b hb).1,ok.aI b hb,.inl hb,(ok.Vp b hb).2,fun p hp=>absurd (show p∈([]:List (Addr × Obj)) from hp) (by simp)⟩
 have loop:∀s₄:Shared,s₄={ s₃ with heap:=h₁,toks:=s₃.toks + ([]:List (Str × Value)).length }→
   codeAny (model X.prog X.w) X.A (.compLoop (.ListComp elt [⟨.Name x px,iter,[],0⟩] sc pos) 0 (.ref it) (.ref s₂.heap.objs.size) (compEnvC sc (jx X.env sc.names []) s₃.heap.objs.size X.env))
    (RR (.ref s₂.heap.objs.size) s₃.heap.objs.size) s₄:=by
  rintro s₄ rfl
  refine nh (fun n s'=>∃i H',Inv (wy X sc x names fp s₃ (upd H2 s₂.heap.objs.size (.lst []))) [] (none :: wc σ qD) H' s'∧tn i s'.heap∧(∀b∈fp,H' b=none)∧W i n H') ?_ m0
   ⟨0,_,I4 _,st4,fun b hb=>(f3 b hb).1,w0⟩
  rintro n s5 ⟨i,H5,I5,st5,fr5,w5⟩
  rcases turn i n H5 w5 with ⟨stop,q⟩ | ⟨go,step⟩
  ·refine j5 (T.done (wy X sc x names fp s₃ (upd H2 s₂.heap.objs.size (.lst []))) rfl rfl rfl hc i [] s5 _ H5 _ I5 (fpok fr5) st5 stop) fun r s6 ⟨hr,I6⟩=>?_
   subst hr
   obtain⟨m,hn,_⟩:=I6.loc
   have J6:Inv X pins σ H5 s6:=I3.Qf (ch:=fp) I6.os I6.base I6.jg I6.bare fun b hb=>⟨(f3 b hb).2.2.2.1,(f3 b hb).2.1,(f3 b hb).2.2.2.2.1,(f3 b hb).2.2.2.2.2⟩
   exact cont _ _ H5 s6 m J6 hn (I3.aZ (H':=H5) (Nat.le_refl _) I6.free) q
  ·refine j5 (T.item (wy X sc x names fp s₃ (upd H2 s₂.heap.objs.size (.lst []))) rfl rfl rfl hc i [] s5 _ H5 _ I5 (fpok fr5) st5 go) fun r s6 ⟨u,hr,h6⟩=>?_
   subst hr
   refine j5 h6 fun _ s6' ⟨y,H6,I6,r6,y6,st6,fr6⟩=>?_
   have I6':=I6.pinned (fpok fr6) (T.obj _ _ st6)
   have own':(relabel sc X.env).names.lookup x=some .local:=lookup_relabel_local cs.own
   refine wpAny_mono (kz (X:=wy X sc x names fp s₃ (upd H2 s₂.heap.objs.size (.lst []))) (i:=0) (x:=x) (pos:=px) cs.nd rfl (.inl own') (.inr own') _ s6' _ H6 y u (fun σ' H'=>σ'=(none :: wc σ qD).set 0 (some y)∧H'=H6) I6' r6 ⟨rfl,rfl⟩)
    (fun _ s7 ⟨σ7,H7,I7,e7,e7'⟩=>?_) fun _ _ z=>False.elim z
   subst e7 e7'
   refine wpAny_mono (he fp s₃ _ _ s7 _ H7 _ I7 (step y H7 y6)) (fun v s8 ⟨vv,H8,I8,r8,ys,hD8,hz8,m',hm',w8⟩=>?_) fun _ _ z=>False.elim z
   refine wpAny_mono (mJ (X:=wy X sc x names fp s₃ (upd H2 s₂.heap.objs.size (.lst []))) _ s8 _ H8 (.ref s₂.heap.objs.size) [vv] (.ref s₂.heap.objs.size) [v] (fun _ H'=>H'=upd H8 s₂.heap.objs.size (.lst (ys ++ [vv]))) I8 rfl (.cons r8 .nil)
    ⟨_,ys,vv,rfl,rfl,hD8,hz8,rfl⟩) (fun _ s9 ⟨_,H9,I9,_,e9⟩=>?_) fun _ _ z=>False.elim z
   subst e9
   refine⟨m',hm',i + 1,_,(I9.wF).weak ?_ ?_,T.keep _ _ _ st6 fun b hb o e=>(I9.pin (b,o) (List.mem_append_right _ (List.mem_append_right _ (vV hb e)))).1,fun b hb=>?_,w8⟩
   ·simp
   ·intro j v' ej
    cases j with
    | zero=>simp at ej
    | succ j=>simpa using ej
   ·obtain⟨o,e,d⟩:=T.obj _ _ st6 b hb
    exact(I9.pin (b,o) (List.mem_append_right _ (List.mem_append_right _ (vV hb e)))).2.1
 exact codeAny_compStart_list (loop _ (by rw[←hs3])) (T.self _ 0 _ _ _ st4 (loop _ (by rw[←hs3])))
theorem rp {pins:List (Addr × Obj)} {σ:St} {H:Hp} {s:Shared} {osc:Scope} {N:List Str} {sc:Scope} {x:Str} {names:List Str} {qD:List Nat} (hos:X.env.scope=osc) (cs:yU osc N sc x names qD) (I:Inv X pins σ H s) :
  closureFor sc X.env=pure (jx X.env sc.names []):=
 pF fun y hy hk=>I.ok.has y.1 (.inl (by show X.env.scope.names.lookup y.1=_;rw[hos];exact cs.frees y hy hk))
theorem bc {osc:Scope} {N:List Str} {sc:Scope} {x:Str} {px pos:Pos} {elt iter:Expr} {names:List Str} {qD:List Nat} {wi:TI} {te:TE}
  (hc:X.calm=true) (hos:X.env.scope=osc) (hN:X.N=N) (cs:yU osc N sc x names qD) (hi:PI X (.Name x px) iter wi) (he:∀fp s₀ H₀,PE (wy X sc x names fp s₀ H₀) elt te)
  (hs:∀v,foldedSetIterable iter X.env v=pure v:=by intro _;rfl):PE X (.ListComp elt [⟨.Name x px,iter,[],0⟩] sc pos) (XZ qD wi te):=by
 intro pins s σ H Q I h
 rw[eval_ListComp]
 refine wpAny_comprehension_free (use:=none) rfl hs (rp hos cs I) cs.kind cs.locs (j5 (hi pins s σ H _ I h) fun xv s1 h1=>j5 h1 fun itv s2 h2=>?_)
 obtain⟨it,fp,tn,J,H2,rfl,I2,T,st2,f2,hW⟩:=h2
 refine tR (Qd:=Q) (RR:=fun acc C=>compPost (model X.prog X.w) X.A X.xe none (EP X pins σ Q) acc C) hc hos hN cs he I2 T st2 f2 hW fun D C H5 s6 m I6 hn fC q=>?_
 refine⟨m,hn,fun h' sb=>?_⟩
 obtain⟨g0,g1,g2,g3,g4,g5⟩:=fC
 exact⟨.ref D,H5,I6.turned (t':=s6.toks) (it:=C) (fun b o hb e=>sb.extBut b o hb e) g0 g1 g3 g4 g5,rfl,q⟩
theorem fS {osc:Scope} {N:List Str} {sc:Scope} {x y:Str} {px py pos spos:Pos} {elt iter:Expr} {names:List Str} {qD:List Nat} {wi:TI} {te:TE} {i:Nat}
  (hc:X.calm=true) (hos:X.env.scope=osc) (hN:X.N=N) (nd:X.N.Nodup) (cs:yU osc N sc x names qD) (hi':X.N[i]?=some y) (hy:X.env.scope.names.lookup y=some .local) (hi:PI X (.Name x px) iter wi)
  (he:∀fp s₀ H₀,PE (wy X sc x names fp s₀ H₀) elt te) (hsw:swapsWith (.ListComp elt [⟨.Name x px,iter,[],0⟩] sc pos) (some (.Name y py)) spos.line X.env=pure true:=by rfl)
  (hs:∀v,foldedSetIterable iter X.env v=pure v:=by intro _;rfl):PS X (.Assign [.Name y py] (.ListComp elt [⟨.Name x px,iter,[],0⟩] sc pos) spos) (X5 (XZ qD wi te) (cg i)):=by
 intro pins s σ H D I h
 rw[exec_Assign_Name_used _ _ _ _ hsw]
 refine wpAny_bind (wpAny_standAt (wpAny_bind ?_))
 show wpAny _ X.A (do let _ ←comprehension (.ListComp elt [⟨.Name x px,iter,[],0⟩] sc pos) sc X.env _ (newList []) false (eval iter X.env) (some (assign (.Name y py) X.env))) _ _ s
 refine wpAny_bind (wpAny_mono (wpAny_comprehension_free (use:=some (assign (.Name y py) X.env)) (Q:=fun _ s'=>SP X pins D .next s') rfl hs (rp hos cs I) cs.kind cs.locs
  (j5 (hi pins s σ H _ I h) fun xv s1 h1=>j5 h1 fun itv s2 h2=>?_)) (fun _ s' hq=>wpAny_pure (wpAny_pure hq)) fun _ _ e=>e)
 obtain⟨it,fp,tn,J,H2,rfl,I2,T,st2,f2,hW⟩:=h2
 refine tR (Qd:=fun x H1=>cg i x σ H1 D.nx) (RR:=fun acc C=>compPost (model X.prog X.w) X.A X.xe (some (assign (.Name y py) X.env)) (fun _ s'=>SP X pins D .next s') acc C) hc hos hN cs he I2 T st2 f2 hW fun D' C H5 s6 m I6 hn fC q=>?_
 show wpAny _ X.A (assign (.Name y py) X.env (.ref D')) _ _ _
 obtain⟨oC,es,ep,eC,dC,rC⟩:=id hn
 obtain⟨g0,g1,g2,g3,g4,g5⟩:=id fC
 have I6p:Inv X (pins ++ [(C,oC)]) σ H5 s6:=I6.rD fun p hp=>(List.mem_append.mp hp).elim (fun z=>I6.pin p (List.mem_append_right _ z)) fun z=>by
  have e:p=(C,oC):=by simpa using z
  subst e
  exact⟨eC,g0,g1,g2,fun v z=>by rw[dC] at z;cases z⟩
 refine wpAny_assign_Name (cz I6p nd hi' (.inl hy) (v:=.ref D') rfl (fun s7 I7=>?_) (.inr hy))
 have e7:=(I7.pin (C,oC) (List.mem_append_right _ (List.mem_append_right _ (by simp)))).1
 refine⟨m,⟨oC,es,ep,e7,dC,rC⟩,fun h' sb=>?_⟩
 exact⟨_,H5,(I7.wF).turned (t':=s7.toks) (it:=C) (fun b o hb e=>sb.extBut b o hb e) g0 g1 g3 g4 g5,q⟩
end
noncomputable def ax (J:It) (H:Hp) (xs:List V):Prop:=∀(i:Nat) (H':Hp),qg H H'→
 (i < xs.length→J.go i H')∧(∀y H3,J.Js i H' y H3→H3=H'∧(i < xs.length→xs[i]?=some y))∧(i=xs.length→J.stop i H')
theorem bC {K:PySem.W.Frag} {a:Addr} {xs:List V} {H:Hp} (h:qI K H a xs):ax (Xy K a) H xs:=fun i H' s=>
 ⟨fun hi=>⟨xs,xs[i],s.seq h,by simp [hi]⟩,fun y H3 q=>⟨q.1,fun _=>q.2 xs (s.seq h)⟩,fun e=>⟨xs,s.seq h,Nat.le_of_eq e.symm⟩⟩
theorem p8 {lo:Int} {n:Nat} {H:Hp}:ax (XF lo n) H ((List.range n).map fun (i:Nat)=>V.int (lo + (i:Int))):=fun i H' s=>
 ⟨fun hi=>by show i < n;simpa using hi,fun y H3 q=>⟨q.1,fun hi=>by
  have hi':i < n:=by simpa using hi
  rw[q.2,List.getElem?_map,List.getElem?_range hi'];rfl⟩,fun e=>by
  have:i=n:=by simpa using e
  exact Nat.le_of_eq this.symm⟩
theorem Z7 {z:Str} {H:Hp}:ax (WX z) H (z.cps.toList.map fun c=>V.str ⟨#[c]⟩):=fun i H' s=>
 ⟨fun hi=>by simpa [WX,Str.length] using hi,fun y H3 q=>⟨q.1,fun hi=>by
  obtain⟨_,c,hc,e⟩:=q
  rw[e,List.getElem?_map]
  have:z.cps.toList[i]?=some c:=by simpa using hc
  rw[this];rfl⟩,fun e=>by
  have:i=z.length:=by simpa [Str.length] using e
  exact this⟩
theorem wB {J:It} {H:Hp} {xs:List V} {qD:List Nat} {te:TE} {σ:St} {Q:VK} (hJ:ax J H xs) (Pr:Nat→V→V→Prop) (hsz:xs.length≤sizeLine)
  (hs:∀(i:Nat) (y:V) (H':Hp) (Q':VK),xs[i]?=some y→qg H H'→(∀v H4,qg H' H4→Pr i y v→Q' v H4)→te (some y :: wc σ qD) H' Q')
  (hd:∀(D:Addr) (H':Hp) (ys:List V),qg H H'→H D=none→H' D=some (.lst ys)→ys.length=xs.length→(∀(i:Nat) (y v:V),xs[i]?=some y→ys[i]?=some v→Pr i y v)→Q (.ref D) H') :
  Qz J qD te σ Q H:=by
 intro D hD
 refine⟨fun i m H2=>m=xs.length - i∧i≤xs.length∧qg H H2∧∃ys,H2 D=some (.lst ys)∧ys.length=i∧∀(j:Nat) (y v:V),xs[j]?=some y→ys[j]?=some v→Pr j y v,
  ⟨xs.length,by simp,Nat.zero_le _,fun b o e=>by rw[qW (qk e hD)];exact e,[],qv,rfl,fun j y v _ e=>by simp at e⟩,?_⟩
 rintro i m H2 ⟨rfl,hi,s2,ys,hy,hl,hp⟩
 obtain⟨j1,j2,j3⟩:=hJ i H2 s2
 by_cases hlt:i < xs.length
 ·refine .inr ⟨j1 hlt,fun y H3 q=>?_⟩
  obtain⟨e3,ey⟩:=j2 y H3 q
  subst e3
  refine hs i y _ _ (ey hlt) s2 fun v H4 s4 pr=>⟨ys,s4 D _ hy,by omega,xs.length - (i + 1),by omega,rfl,hlt,fun b o e=>?_,ys ++ [v],qv,by simp [hl],fun j y' v' e1 e2=>?_⟩
  ·rw[qW (qk e hD)]
   exact s4 b o (s2 b o e)
  ·by_cases hj:j < ys.length
   ·rw[List.getElem?_append_left hj] at e2
    exact hp j y' v' e1 e2
   ·have hje:j=i:=by
     have:=(List.getElem?_eq_some_iff.mp e2).1
     simp at this;omega
    subst hje
    rw[List.getElem?_append_right (by omega),hl,Nat.sub_self] at e2
    rw[ey hlt] at e1
    cases e1
    have:v=v':=by simpa using e2
    subst this
    exact pr
 ·have e:i=xs.length:=by omega
  subst e
  exact .inl ⟨j3 rfl,hd D H2 ys s2 hD hy hl hp⟩
end L2
namespace L2
open PySem PySem.Spec PyProof.Rows
theorem qg.new {H H':Hp} {l:Addr} {o:HO} (e:qg H H') (hl:H' l=none):qg H (upd H' l o):=fun b u q=>by
 have q':=e b u q
 rw[qW (qk q' hl)]
 exact q'
theorem qg.put {H H':Hp} {l:Addr} {o:HO} (e:qg H H') (hl:H l=none):qg H (upd H' l o):=fun b u q=>by
 rw[qW (qk q hl)]
 exact e b u q
theorem qg.rF {H:Hp} {l:Addr} {o:HO} (hl:H l=none):qg H (upd H l o):=(qg.refl H).new hl
theorem rT:∀(ys:List V),(∀v∈ys,∃b,v=V.bl b)→∃bs:List Bool,ys=bs.map V.bl
 | [],_=>⟨[],rfl⟩
 | v :: r,h=>by
  obtain⟨b,rfl⟩:=h v List.mem_cons_self
  obtain⟨bs,rfl⟩:=rT r fun u hu=>h u (List.mem_cons_of_mem _ hu)
  exact⟨b :: bs,rfl⟩
theorem sN (sep:Str) (l:List Str):(Txt.join sep l).length≤(l.map (·.length)).sum + l.length * sep.length:=by
 have e:Txt.join sep l=Str.join sep l:=beq_iff_eq.mp (join_plain_closes sep l)
 rw[e]
 exact StrLaws.join_length_le sep l
theorem jE (a b:Str):(a ++ b).length=a.length + b.length:=by
 show (a.cps ++ b.cps).size=_
 rw[Array.size_append]
 rfl
noncomputable def Kl:List Expr→Bool
 | []=>true
 | .Constant (.str _) _ _ :: r=>Kl r
 | _=>false
noncomputable def XQ:List Expr→List V
 | []=>[]
 | .Constant (.str x) _ _ :: r=>V.str x :: XQ r
 | _=>[]
noncomputable def YM (es:List Expr):TA:=fun _ H Q=>Q (XQ es) H
theorem bS {es:List Expr} {p:Pos} {t:Option Expr} {l:Nat} {env:Env}:swapsWith (.List es p) t l env=pure false:=rfl
theorem qj {n:Nat} (h:n≤1000):n≤sizeLine:=Nat.le_of_lt (mD h)
end L2
namespace L2
open PySem PySem.Spec PyProof.Rows
section
variable {X:Cx} {CX:uh} {k:Nat} {f:Addr} {fd:FuncData} {ps:List Str} {sp:Sp} {dvs:List V} {ds:List Value} {E:XK} {m:Str} {pos apos:Pos} {e o:Expr} {es:List Expr} {ta:TE} {t:TA}
theorem PS.join {st:Stmt} {t:TS} (h:PS X st t):PS X st (fun D σ H=>∃M:St→Hp→Prop,t { D with nx:=M } σ H∧∀σ' H',M σ' H'→D.nx σ' H'):=by
 intro pins s σ H D I ⟨M,q,hM⟩
 refine j5 (h pins s σ H _ I q) fun fl s' r=>?_
 cases fl with
 | next=>obtain⟨σ',H',I',r⟩:=r;exact⟨σ',H',I',hM _ _ r⟩
 | brk=>exact r
 | cont=>exact r
 | ret u=>exact r
theorem PE.cut {e:Expr} {t:TE} (h:PE X e t):PE X e (fun σ H Q=>∃M:VK,t σ H M∧∀v H',M v H'→Q v H'):=by
 intro pins s σ H Q I ⟨M,q,hM⟩
 exact j5 (h pins s σ H _ I q) fun u s' ⟨v,H',I',r,z⟩=>⟨v,H',I',r,hM v H' z⟩
noncomputable def W8 (K:PySem.W.Frag) (f:Addr) (m:Str) (sp:Sp) (dvs:List V) (E:XK) (ta:TE) (t:TA):TE:=fun σ H Q=>ta σ H fun x H1=>∃a C dx fs,x=.ref a∧H1 a=some (.ins C dx fs)∧dW K C∧Meth K C m f∧fs.lookup m=none∧
 t σ H1 fun vs H2=>sp (x :: (vs ++ dvs)) H2 Q E
end
noncomputable def asc (x:Str):Prop:=∀c∈x.cps.toList,c < 128
theorem asc.ok {x:Str} (h:asc x):PyData.strOk x=true:=by
 unfold PyData.strOk
 rw[Array.all_eq_true]
 intro i hi
 have:=h x.cps[i] (by simp)
 exact decide_eq_true (by omega)
theorem cps_append (a b:Str):(a ++ b).cps.toList=a.cps.toList ++ b.cps.toList:=by
 show (a.cps ++ b.cps).toList=_
 simp
theorem join_eq (sep:Str) (l:List Str):Txt.join sep l=Str.join sep l:=beq_iff_eq.mp (join_plain_closes sep l)
theorem dQ {x:Str} {xs:List Str}:Jt (.str x) (xs.map V.str)=decide (x∈xs):=by
 induction xs with
 | nil=>rfl
 | cons y r ih=>
  unfold Jt at ih ⊢
  rw[List.map_cons,List.any_cons,ih]
  have:Xq (.str y) (.str x)=decide (x=y):=by
   show (y == x)=_
   by_cases h:x=y
   ·subst h;simp
   ·rw[decide_eq_false h];exact beq_eq_false_iff_ne.mpr fun q=>h q.symm
  rw[this]
  by_cases h:x=y<;>by_cases h':x∈r<;>simp [h,h']
end L2
namespace L2
open PySem PySem.Spec PyProof.Rows
noncomputable def Nw (H:Hp) (o:HO) (Q:VK):Prop:=∀p H',qg H H'→H p=none→H' p=some o→Q (.ref p) H'
theorem Nw.el {H:Hp} {o:HO} {Q:VK} (h:Nw H o Q) (p:Addr) (hp:H p=none):Q (.ref p) (upd H p o):=h p _ (qg.rF hp) hp qv
noncomputable def Keeps (l:Addr) (H H':Hp):Prop:=∀b,b≠l→H' b=H b
theorem Keeps.upd {H:Hp} {l:Addr} {o:HO}:Keeps l H (upd H l o):=fun _ h=>qW h
noncomputable def Ch (H:Hp) (l:Addr) (o:HO) (Q:Hp→Prop):Prop:=∀H',Keeps l H H'→H' l=some o→Q H'
theorem Ch.el {H:Hp} {l:Addr} {o:HO} {Q:Hp→Prop} (h:Ch H l o Q):Q (L2.upd H l o):=h _ Keeps.upd qv
theorem Keeps.put {H H1 H2:Hp} {l:Addr} (k:Keeps l H1 H2) (s:qg H H1) (n:H l=none):qg H H2:=fun b o e=>by
 rw[k b (qk e n)]
 exact s b o e
theorem Keeps.look {H1 H2:Hp} {l b:Addr} {o:HO} (k:Keeps l H1 H2) (e:H1 b=some o) (n:b≠l):H2 b=some o:=by rw[k b n];exact e
noncomputable def Fx (H H':Hp):Prop:=(∀b xs,H b=some (.tup xs)→H' b=some (.tup xs))∧∀b C dx fs,H b=some (.ins C dx fs)→H' b=some (.ins C dx fs)
section
variable {X:Cx}
theorem PE.mono {e:Expr} {t t':TE} (h:PE X e t) (m:∀σ H Q,t' σ H Q→t σ H Q):PE X e t':=fun pins s σ H Q I q=>h pins s σ H Q I (m σ H Q q)
theorem vf.mono {f:Value} {r r':List V→Hp→VK→Prop} (h:vf X f r) (m:∀xs H Q,r' xs H Q→r xs H Q):vf X f r':=fun pins s σ H xs us Q I rv q=>h pins s σ H xs us Q I rv (m xs H Q q)
theorem i9.mono {id:String} {r r':V→List V→Hp→VK→Prop} (h:i9 X id r) (m:∀x xs H Q,r' x xs H Q→r x xs H Q):i9 X id r':=fun pins s σ H x vs v us Q I rx rv q=>h pins s σ H x vs v us Q I rx rv (m x vs H Q q)
theorem bY.mono {f:Value→Value→Sem Value} {r r':R2} (h:bY X f r) (m:∀x y H Q,r' x y H Q→r x y H Q):bY X f r':=fun pins s σ H x y v u Q I rx ry q=>h pins s σ H x y v u Q I rx ry (m x y H Q q)
theorem KY.mono {r r':V→Option Int→Option Int→Hp→VK→Prop} (h:KY X r) (m:∀x l u H Q,r' x l u H Q→r x l u H Q):KY X r':=fun pins s σ H x v vl vu lo hi sl Q I rx hs pl pu q=>h pins s σ H x v vl vu lo hi sl Q I rx hs pl pu (m x lo hi H Q q)
noncomputable def Yw (t:TA):TE:=fun σ H Q=>t σ H fun xs H1=>xs.length≤sizeLine∧Nw H1 (.tup xs) Q
noncomputable def YJ (t:TA):TE:=fun σ H Q=>t σ H fun xs H1=>xs.length≤sizeLine∧Nw H1 (.lst xs) Q
theorem PA.cut {es:List Expr} {t:TA} (h:PA X es t):PA X es (fun σ H Q=>∃M:List V→Hp→Prop,t σ H M∧∀vs H',M vs H'→Q vs H'):=by
 intro pos pins s σ H Q I ⟨M,q,hM⟩
 exact j5 (h pos pins s σ H _ I q) fun u s' ⟨v,H',I',r,z⟩=>⟨v,H',I',r,hM v H' z⟩
theorem jN {es:List Expr} {t:TA} {pos:Pos} {x1} (h:PA X es t):PE X (.Tuple es x1 pos) (Yw t):=(XI h.cut).mono fun _ _ _ q=>⟨_,q,fun _ _ q=>⟨q.1,q.2.el⟩⟩
theorem qS {es:List Expr} {t:TA} {pos:Pos} (h:PA X es t):PE X (.List es pos) (YJ t):=(Kh h.cut).mono fun _ _ _ q=>⟨_,q,fun _ _ q=>⟨q.1,q.2.el⟩⟩
theorem oQ:vf X (.type "list") (fun xs H Q=>∃p ys,xs=[.ref p]∧(qI X.K H p ys∨yT X.K H p ys)∧Nw H (.lst ys) Q):=
 lE.mono fun _ _ _ ⟨p,ys,a,b,c⟩=>⟨p,ys,a,b,c.el⟩
theorem J5:KY X (fun x lo hi H Q=>∃a xs,x=.ref a∧qI X.K H a xs∧Nw H (.lst (bB xs lo hi)) Q):=
 J0.mono fun _ _ _ _ _ ⟨a,xs,e,b,c⟩=>⟨a,xs,e,b,c.el⟩
theorem gI:bY X (binaryOp .Add) (fun x y H Q=>∃l b xs zs,x=.ref l∧y=.ref b∧H l=some (.lst xs)∧H b=some (.lst zs)∧xs.length + zs.length≤sizeLine∧Nw H (.lst (xs ++ zs)) Q):=
 Kj.mono fun _ _ _ _ ⟨l,b,xs,zs,a,c,d,e,f,g⟩=>⟨l,b,xs,zs,a,c,d,e,f,g.el⟩
theorem xu:i9 X "list.append" (fun x vs H Q=>∃l xs y,x=.ref l∧vs=[y]∧H l=some (.lst xs)∧xs.length < sizeLine∧Ch H l (.lst (xs ++ [y])) (Q .non)):=
 i9.mono mJ fun _ _ _ _ ⟨l,xs,y,a,b,c,d,e⟩=>⟨l,xs,y,a,b,c,d,e.el⟩
theorem Qi:i9 X "list.pop" (fun x vs H Q=>∃l xs y,x=.ref l∧vs=[]∧H l=some (.lst xs)∧xs[xs.length - 1]?=some y∧Ch H l (.lst xs.dropLast) (Q y)):=
 i9.mono K5 fun _ _ _ _ ⟨l,xs,y,a,b,c,d,e⟩=>⟨l,xs,y,a,b,c,d,e.el⟩
theorem ao:i9 X "list.extend" (fun x vs H Q=>∃l b xs zs,x=.ref l∧vs=[.ref b]∧H l=some (.lst xs)∧H b=some (.lst zs)∧xs.length + zs.length≤sizeLine∧Ch H l (.lst (xs ++ zs)) (Q .non)):=
 i9.mono aK fun _ _ _ _ ⟨l,b,xs,zs,a,a',c,d,e,f⟩=>⟨l,b,xs,zs,a,a',c,d,e,f.el⟩
end
structure kY (P:Program) (w:World) (K:PySem.W.Frag) (mg:Str→Option Value) (base:Heap) (CX:uh) (k:Nat) (C:Addr) (m:Str) (sp:Sp):Prop where
 ex:∃f fd ps,Meth K C m f∧qi P w K mg base CX k f fd ps sp∧Binds K fd ps []
theorem kY.mk' {P:Program} {w:World} {K:PySem.W.Frag} {mg:Str→Option Value} {base:Heap} {CX:uh} {j k:Nat} {C f:Addr} {m:Str} {sp:Sp} {fd:FuncData} {ps:List Str} (h1:Meth K C m f) (h2:qi P w K mg base CX j f fd ps sp) (h3:Binds K fd ps []) (h:j≤k) :
  kY P w K mg base CX k C m sp:=⟨f,fd,ps,h1,h2.mono h,h3⟩
noncomputable def Qa (X:Cx) (CX:uh) (k:Nat) (m:Str) (E:XK) (ta:TE) (t:TA):TE:=fun σ H Q=>ta σ H fun x H1=>∃a C dx fs,x=.ref a∧H1 a=some (.ins C dx fs)∧dW X.K C∧fs.lookup m=none∧
 ∃sp,kY X.prog X.w X.K X.mg X.base CX k C m sp∧t σ H1 fun vs H2=>sp (x :: vs) H2 Q E
section
variable {X:Cx} {k:Nat} {m:Str} {pos apos:Pos} {e o:Expr} {es:List Expr} {ta:TE} {t:TA}
theorem yJ {pl:Sem Bool} (hr:kH k X.A) (he:PE X o ta) (ha:PA X (e :: es) t)
  (hst:starEach (e :: es) X.env=(false,eval e X.env) :: starEach es X.env:=by rfl) (hpl:(backTo pos (starEach es X.env)).any (·.1)=false:=by rfl)
  (ht:eval (.Call (.Attribute o m apos) (e :: es) [] pos) X.env=(do
   let ov ←eval o X.env
   standAt apos.atName
   let (f,first) ←holding [ov] (getMethod ov m pl)
   callWith pos f first (backTo pos (starEach (e :: es) X.env)) (backToKw pos (keywordEach [] X.env))):=by rfl) :
  PE X (.Call (.Attribute o m apos) (e :: es) [] pos) (Qa X jn k m E0 ta t):=by
 intro pins s σ H Q I h
 refine PySem.W.methodCall_KW (pl:=pl) (j5 (he pins s σ H _ I h) fun u s1 ⟨x,H1,I1,rx,a,C,dx,fs,ex,ea,c,l,sp,M,q⟩=>?_) ht
 subst ex
 obtain⟨f,fd,ps,hm,F,hb⟩:=M.ex
 obtain rfl:u=Value.ref a:=rx
 refine fz I1 ea c hm l ?_
 refine PySem.W.callWith_K (first:=[.ref a]) (h₀:=X.base) I.ok.mod.Zi hm.kp (j5 (ha pos pins s1 σ H1 _ I1 q) fun us s2 ⟨vs,H2,I2,r,q2⟩=>⟨I2.gP,?_⟩) hst hpl
 exact lg (us:=.ref a :: us) (vs:=.ref a :: vs) F hr hb .nil qJ I2 (.cons rfl r) (by rw[List.append_nil];exact q2)
theorem wW {pl:Sem Bool} (hr:kH k X.A) (he:PE X o ta)
  (ht:eval (.Call (.Attribute o m apos) [] [] pos) X.env=(do
   let ov ←eval o X.env
   standAt apos.atName
   let (f,first) ←holding [ov] (getMethod ov m pl)
   callWith pos f first (backTo pos (starEach [] X.env)) (backToKw pos (keywordEach [] X.env))):=by rfl) :
  PE X (.Call (.Attribute o m apos) [] [] pos) (Qa X jn k m E0 ta KI):=by
 intro pins s σ H Q I h
 refine PySem.W.methodCall_KW (pl:=pl) (j5 (he pins s σ H _ I h) fun u s1 ⟨x,H1,I1,rx,a,C,dx,fs,ex,ea,c,l,sp,M,q⟩=>?_) ht
 subst ex
 obtain⟨f,fd,ps,hm,F,hb⟩:=M.ex
 obtain rfl:u=Value.ref a:=rx
 refine fz I1 ea c hm l ?_
 exact PySem.W.callWith_K0 (first:=[.ref a]) I1.gP hm.kp (lg (us:=[.ref a]) (vs:=[.ref a]) F hr hb .nil qJ I1 (.cons rfl .nil) q)
end
theorem K9 {α:Type} [Inhabited α] {xs:List α} {i:Int} (h0:0≤i) (h1:i < xs.length):ui xs i=some (xs.getD i.toNat default):=by
 have hj:i.toNat < xs.length:=by omega
 have e:=rM (xs:=xs) (j:=i.toNat) (v:=xs[i.toNat]) (by simp [hj])
 rw[Int.toNat_of_nonneg h0] at e
 rw[e,List.getD_eq_getElem?_getD,List.getElem?_eq_getElem hj]
 rfl
theorem ic {α:Type} {f:α→V} {xs:List α} {i:Int} (d:α) (h0:0≤i) (h1:i < xs.length):ui (xs.map f) i=some (f (xs.getD i.toNat d)):=by
 have hj:i.toNat < (xs.map f).length:=by rw[List.length_map];omega
 have e:=rM (xs:=xs.map f) (j:=i.toNat) (v:=(xs.map f)[i.toNat]) (List.getElem?_eq_getElem hj)
 rw[Int.toNat_of_nonneg h0] at e
 rw[e,List.getElem_map,List.getD_eq_getElem?_getD,List.getElem?_eq_getElem (by omega)]
 rfl
theorem Jz {xs:List Int} {i:Int} (h0:0≤i) (h1:i < xs.length):ui (xs.map V.int) i=some (.int (xs.getD i.toNat 0)):=ic 0 h0 h1
theorem ba {xs:List Str} {i:Int} (h0:0≤i) (h1:i < xs.length):ui (xs.map V.str) i=some (.str (xs.getD i.toNat "")):=ic (f:=V.str) ("" : Str) h0 h1
theorem Q9 {z:Str} {i:Int} (h0:0≤i) (h1:i < z.length):ui z.cps.toList i=some (z.cps.toList.getD i.toNat 0):=K9 h0 (by simpa [Str.length] using h1)
theorem xH {a b:Str} (h:a.cps.toList=b.cps.toList):a=b:=by
 cases a;cases b
 simp only at h
 rw[Array.toList_inj.mp h]
theorem sZ (s x y:Str) (r:List Str):Str.join s (x :: y :: r)=x ++ s ++ Str.join s (y :: r):=rfl
theorem join_one (s x:Str):Str.join s [x]=x:=rfl
end L2
namespace L2
open PySem PySem.Spec PyProof.Rows
theorem Kq {x y:Str} {n m:Nat} (hx:x.length≤n) (hy:y.length≤m) (h:n + m≤1000):x.length + y.length≤sizeLine:=qj (by omega)
theorem Jb {x y:Str} {n m:Nat} (hx:x.length≤n) (hy:y.length≤m):(x ++ y).length≤n + m:=by rw[jE];omega
theorem Zg (x:Str):x.length≤x.length:=Nat.le_refl _
theorem Jn {c:Nat}:(⟨#[c]⟩:Str).length≤1:=Nat.le_refl _
end L2
namespace L2
open PySem PySem.Spec PyProof.Rows
noncomputable def rm (K:PySem.W.Frag) (H:Hp) (x:V) (f:Str) (v:V):Prop:=∃a C dx fs,x=.ref a∧H a=some (.ins C dx fs)∧dW K C∧qQ K C f∧fs.lookup f=some v
noncomputable def WH (K:PySem.W.Frag) (ta:TE) (f:Str):TE:=fun σ H Q=>ta σ H fun x H1=>∃v,rm K H1 x f v∧Q v H1
theorem qV {X:Cx} {K:PySem.W.Frag} (hK:X.K=K) {e:Expr} {ta:TE} {f:Str} {pos:Pos} (he:PE X e ta) (hb:attributeBase e f X.env (eval e X.env)=eval e X.env):PE X (.Attribute e f pos) (WH K ta f):=by
 subst hK
 refine(Vq he.cut hb).mono fun σ H Q q=>⟨_,q,fun x H1 z=>?_⟩
 obtain⟨v,⟨a,C,dx,fs,h1,h2,h3,h4,h5⟩,q⟩:=z
 exact⟨a,C,dx,fs,v,h1,h2,h3,h4,h5,q⟩
theorem gS (K:PySem.W.Frag) (t:Value):PySem.W.kitOne K t t=some true:=by
 unfold PySem.W.kitOne
 rw[if_pos (by simp)]
end L2
namespace L2
open PySem PySem.Spec PyProof.Rows
structure G7 (K:PySem.W.Frag) (C:Addr):Prop where
 makes:PySem.W.makesIn K C=true
 init:PySem.W.findIn K (.ref C) "__init__" = some (some (.builtin "object.__init__"))
 kp:PySem.W.keepIn K (.ref C)=true
section
variable {X:Cx} {C:Addr} {x:Str} {p pos:Pos}
end
end L2
namespace L2
open PySem PySem.Spec PyProof.Rows
theorem QB {n:Int} (h0:0≤n) (h1:n≤10 ^ 20):(Str.ofString (toString n)).length≤21∧1≤(Str.ofString (toString n)).length∧asc (Str.ofString (toString n)):=by
 obtain⟨m,rfl⟩:=Int.eq_ofNat_of_zero_le h0
 have e:=PySem.W.KIN.signs_num m
 have hl:(Str.ofString (toString ((m:Nat):Int))).length=(Nat.toDigits 10 m).length:=by
  have:=congrArg List.length e
  rw[List.length_map] at this
  rw[←this]
  simp [Str.length]
 refine⟨?_,?_,fun c hc=>?_⟩
 ·rw[hl]
  refine digits10_le (by decide) ?_
  have:(m:Int) < 10 ^ 21:=by omega
  exact_mod_cast this
 ·rw[hl];exact toDigits_len_ge 10 m
 ·rw[e] at hc
  obtain⟨ch,hch,rfl⟩:=List.mem_map.mp hc
  have r:=PyProof.Rows.digit_range (Nat.isDigit_of_mem_toDigits (by decide) (by decide) hch)
  omega
theorem aH {n:Int} (h0:0≤n) (h1:n≤10 ^ 20):n.natAbs.log2 < 1920:=by
 have:n.natAbs < 2 ^ 67:=by omega
 by_cases h:n.natAbs=0
 ·rw[h];decide
 ·exact Nat.lt_trans ((Nat.log2_lt h).mpr this) (by decide)
theorem fE (xs ys:List Str):PyData.eqv (.list (xs.map PyData.str)) (.list (ys.map PyData.str))=decide (xs=ys):=by
 simp only[PyData.eqv,gT]
end L2
namespace L2
open PySem PySem.Spec PyProof.Rows
theorem Wg {H H':Hp} {b:Addr} {o:HO} (e:H b=some o) (s:qg H H'):H' b=some o:=s b o e
theorem Vv {K:PySem.W.Frag} {H H':Hp} {a:Addr} {xs:List V} (h:qI K H a xs) (s:qg H H'):qI K H' a xs:=s.seq h
end L2
namespace L2
open PySem PySem.Spec PyProof.Rows
end L2
namespace L2
open PySem PySem.Spec PyProof.Rows
section
variable {X:Cx} {K:PySem.W.Frag}
theorem lD {es:List Expr} {k:Nat} {t:Xu} {n:Nat} {pos:Pos} (hK:X.K=K) (hc:X.calm=true) (h:Vh X es t)
  (hn:(assignEach es X.env).length=n:=by rfl) (hst:(assignEach es X.env).findIdx? (·.1)=none:=by rfl):PG X (.Tuple es k pos) (KS K n t):=hK▸K8 hc h hn hst
theorem qy (hK:X.K=K):Vw X (X4 K):=hK▸Jd
theorem qT (hK:X.K=K):Vw X (XE K):=hK▸X7
theorem kN (hK:X.K=K):KY X (fun x lo hi H Q=>∃a xs,x=.ref a∧qI K H a xs∧Nw H (.lst (bB xs lo hi)) Q):=hK▸J5
theorem uW (hK:X.K=K):bY X (compareOp .NotIn) (YN K true):=hK▸rE
theorem lT (hK:X.K=K) (hu:X.A.units + 64 < cLine):bY X (compareOp .Eq) (Je K false):=hK▸K1 hu
theorem bI (hK:X.K=K) (hu:X.A.units + 64 < cLine):bY X (compareOp .NotEq) (Je K true):=hK▸Ka hu
theorem jr (hK:X.K=K):vf X (.builtin "len") (fun xs H Q=>∃p ys,xs=[.ref p]∧(qI K H p ys∨yT K H p ys)∧Q (.int ys.length) H):=hK▸lO
theorem gE (hK:X.K=K):vf X (.type "list") (fun xs H Q=>∃p ys,xs=[.ref p]∧(qI K H p ys∨yT K H p ys)∧Nw H (.lst ys) Q):=hK▸oQ
theorem jq (hK:X.K=K):vf X (.builtin "isinstance") (fun xs H Q=>∃x c t b,xs=[x,c]∧((∃n,c=.ty n)∨∃a,c=.ref a)∧ki K H x t∧PySem.W.kitOne K t (Qp c)=some b∧Q (.bl b) H):=hK▸tQ
theorem fH (hK:X.K=K):i9 X "str.join" (rJoin K):=hK▸JZ
theorem wD {tg l:Expr} {tl:TE} (hK:X.K=K) (hl:PE X l tl):PI X tg l (Xb K tl):=hK▸Xv hl
end
end L2
namespace L2
open PySem PySem.Spec PyProof.Rows
structure gf (osc:Scope) (N:List Str) (sc:Scope) (xs names:List Str) (qD:List Nat):Prop where
 kind:sc.kind=.function
 cq:∀y∈sc.names,y.2≠.cell
 locs:∀y∈sc.names,y.2=.local→sc.names.lookup y.1=some .local
 frees:∀y∈sc.names,y.2=.free→osc.names.lookup y.1=some .cell
 own:∀x∈xs,sc.names.lookup x=some .local
 qD:names.map some=qD.map fun i=>N[i]?
 nS:∀y∈names,sc.names.lookup y=some .free
 nd:(xs ++ names).Nodup
noncomputable def xQ (X:Cx) (sc:Scope) (xs names:List Str) (fp:List Addr) (s₀:Shared) (H₀:Hp):Cx where
 prog:=X.prog
 w:=X.w
 K:=X.K
 mg:=X.mg
 base:=X.base
 A:=X.A
 N:=xs ++ names
 s₀:=s₀
 H₀:=H₀
 env:=compEnvC sc (jx X.env sc.names []) s₀.heap.objs.size X.env
 outer:=X.stack
 stack:=X.stack
 ex:=fp
 fn:=fun _=>false
 calm:=X.calm
 pn:=[]
 xe:=fun _ _=>False
theorem su {X:Cx} {sc:Scope} {xs names:List Str} {fp:List Addr} {s₀:Shared} {H₀:Hp} {x:Str} (h:sc.names.lookup x=some .local):(xQ X sc xs names fp s₀ H₀).env.scope.names.lookup x=some .local:=lookup_relabel_local h
noncomputable def W2 (X:Cx) (ifs:List Expr) (t:TT):Prop:=
 ∀(pins:List (Addr × Obj)) (s:Shared) (σ:St) (H:Hp) (Q:Bool→Hp→Prop),Inv X pins σ H s→t σ H Q→
  wpAny (model X.prog X.w) X.A (forIn ifs true fun c r=>if r=true then do let ok ←isTrue c X.env (eval c X.env);pure (ForInStep.yield ok) else pure (ForInStep.yield r)) (TP X pins σ Q) X.xe s
noncomputable def Ja:TT:=fun _ H Q=>Q true H
theorem iP {X:Cx}:W2 X [] Ja:=fun _ _ _ H _ I q=>wpAny_tests_nil ⟨H,I,q⟩
noncomputable def nk (J:It) (n:Nat) (qD:List Nat) (g:TG) (tt:TT) (te:TE) (σ:St) (Q:VK) (H1:Hp):Prop:=∀D,H1 D=none→∃W:Nat→Nat→St→Hp→Prop,(∃m,W 0 m (List.replicate n none ++ wc σ qD) (upd H1 D (.lst [])))∧∀i m σ1 H2,W i m σ1 H2→
 (J.stop i H2∧Q (.ref D) H2)∨(J.go i H2∧∀y H3,J.Js i H2 y H3→g y σ1 H3 fun σ2 H4=>tt σ2 H4 fun b H5=>if b=true then te σ2 H5 fun v H6=>∃ys,H6 D=some (.lst ys)∧ys.length < sizeLine∧∃m',m' < m∧W (i + 1) m' σ2 (upd H6 D (.lst (ys ++ [v])))
  else ∃m',m' < m∧W (i + 1) m' σ2 H5)
noncomputable def Vj (n:Nat) (qD:List Nat) (wi:TI) (g:TG) (tt:TT) (te:TE):TE:=fun σ H Q=>wi σ H fun J H1=>nk J n qD g tt te σ Q H1
section
variable {prog:Program} {w:World} {A:Around} {R:Result→Shared→Prop} {s:Shared}
theorem lI {el tg src : Expr} {ifs : List Expr} {scope : Scope} {pos : Pos} {it acc : Value} {env : Env} (I : Nat → Shared → Prop)
    (turn : ∀ n s, I n s → Noted prog w A env R (pyNext it) (fun r s1 => match r with
      | none => R (.ok .next) s1
      | some v => Noted prog w A env R (letOwnedTupleGo tg it v) (fun _ => Noted prog w A env R (assign tg env v) fun _ => Noted prog w A env R (forIn ifs true (testB env)) fun ok s4 =>
        if ok = true then Noted prog w A env R (eval el env) (fun x => Noted prog w A env R (call (.builtin "list.append") [acc, x]) fun _ s6 => ∃ m, m < n ∧ I m s6) s4 else ∃ m, m < n ∧ I m s4) s1) s) (n : Nat) (h : I n s) :
    codeAny (model prog w) A (.compLoop (.ListComp el [⟨tg, src, ifs, 0⟩] scope pos) 0 it acc env) R s := by
  refine codeAny_loop rfl I (fun k s1 hI => (?_ : wpAny _ _ (Sem.onRaise _ _) _ _ _)) n h
  refine wpAny_noted (compTurn_list .. ▸ wpAny_bind (wpAny_standAt (sq2 (turn k s1 hI) fun r s2 hr => ?_)))
  cases r
  · exact wpAny_pure hr
  · exact sq2 hr fun _ _ a => sq2 a fun _ _ b => sq2 b fun ok _ c => by
      cases ok
      · exact wpAny_pure ⟨rfl, c⟩
      · exact sq2 (sq2 c fun _ _ d => sq2 d fun _ _ e => wpAny_pure e) fun _ _ e => wpAny_pure ⟨rfl, e⟩
end
section
variable {X:Cx}
theorem Jc {pins:List (Addr × Obj)} {σ:St} {H:Hp} {s:Shared} {osc:Scope} {N:List Str} {sc:Scope} {xs names:List Str} {qD:List Nat} {fp:List Addr}
  (hos:X.env.scope=osc) (cs:gf osc N sc xs names qD) (I:Inv X pins σ H s) (hf:∀b∈fp,yQ X pins H b) (hlt:∀b∈fp,b < s.heap.objs.size):(xQ X sc xs names fp s H).Ok:=by
 subst hos
 have cl:=kC (env:=X.env) sc.names [] (fun z c e=>by simp at e)
 have hcl:∀y c,(jx X.env sc.names []).lookup y=some c→X.env.cells.lookup y=some c:=fun y c e=>by
  have e1:=cl.1 y c e
  have hm:(y,NameKind.free)∈sc.names:=by
   by_cases q:(y,NameKind.free)∈sc.names
   ·exact q
   ·have:=(cl.2 y).mpr ⟨rfl,q⟩
    rw[this] at e;cases e
  obtain⟨c',hc'⟩:=I.ok.has y (.inl (cs.frees _ hm rfl))
  rw[hc'] at e1 ⊢
  rw[e1];rfl
 refine⟨I.ok.mod,?_,I.ok.glob,I.ok.blt,Nat.le_refl _,fun y z c h1 h2=>I.ok.inj y z c (hcl y c h1) (hcl z c h2),fun y hy=>?_,fun y c h=>?_,I.ok.hd,I.ok.frames,.inl rfl,fun b hb=>⟨?_,fun y c h=>?_⟩,
  I.bs,Nat.le_trans I.ok.Zx I.sz,fun b o e hb=>?_,fun b hb z=>?_,I.stack,I.fM⟩
 ·exact cs.kind
 ·have hy':(relabel sc X.env).names.lookup y=some .cell∨(relabel sc X.env).names.lookup y=some .free:=hy
  have key:sc.names.lookup y=some .free:=by
   rw[xE] at hy'
   cases q:sc.names.lookup y with
   | none=>rw[q] at hy';simp at hy'
   | some k=>
    rw[q] at hy'
    have hm:=PySem.mem_of_lookup q
    have hnc:=cs.cq _ hm
    by_cases hk:k=.free
    ·rw[hk]
    ·have e:(if (k == NameKind.free && X.env.scope.kind == .function && X.env.kindOf y == some .cell)=true then NameKind.cell else k)=k:=if_neg (by simp [hk])
     rw[Option.map_some,e] at hy'
     rcases hy' with z | z
     ·exact absurd (Option.some.inj z) hnc
     ·exact absurd (Option.some.inj z) hk
  have hm:=PySem.mem_of_lookup key
  cases q:(jx X.env sc.names []).lookup y with
  | some c=>exact⟨c,q⟩
  | none=>exact absurd hm ((cl.2 y).mp q).2
 ·exact absurd (show false=true from h) (by simp)
 ·exact Nat.ne_of_lt (hlt b hb)
 ·exact(hf b hb).2.2.2.2.1 y c (hcl y c h)
 ·rcases(hf b hb).2.2.2.1 with z | z
  ·exact I.ok.aS b o e z
  ·exact absurd (Nat.lt_of_lt_of_le (Heap.lt_size e) (Nat.le_trans I.ok.Zx z)) (Nat.lt_irrefl _)
 ·rcases List.mem_cons.mp (I.cy b z) with q | q
  ·exact(hf b hb).2.1 q
  ·exact(hf b hb).2.2.1 q
theorem aX {pins:List (Addr × Obj)} {σ:St} {s₂:Shared} {osc:Scope} {N:List Str} {sc:Scope} {pos:Pos} {elt iter tg:Expr} {ifs:List Expr} {xs names:List Str} {qD:List Nat} {g:TG} {tt:TT} {te:TE} {E:Value→Shared→Prop}
  {RR:Value→Addr→Result→Shared→Prop} {H2:Hp} {it:Addr} {fp:List Addr} {tn:Nat→Heap→Prop} {J:It} {Qd:V→Hp→Prop}
  (hc:X.calm=true) (hos:X.env.scope=osc) (hN:X.N=N) (cs:gf osc N sc xs names qD) (hg:∀fp s₀ H₀,PG (xQ X sc xs names fp s₀ H₀) tg g) (ht:∀fp s₀ H₀,W2 (xQ X sc xs names fp s₀ H₀) ifs tt) (he:∀fp s₀ H₀,PE (xQ X sc xs names fp s₀ H₀) elt te)
  (I2:Inv X pins σ H2 s₂) (T:Turn X.prog X.w X.K tg J fp it tn) (st2:tn 0 s₂.heap) (f2:∀b∈fp,yQ X pins H2 b)
  (hW:nk J xs.length qD g tt te σ Qd H2)
  (cont:∀D C H5 s6 m,Inv X pins σ H5 s6→s6.heap.Ns C m→yQ X pins H5 C→Qd (.ref D) H5→RR (.ref D) C (.ok .next) s6) :
  wpAny (model X.prog X.w) X.A (newList []) (fun acc s₃=>wpAny (model X.prog X.w) X.A (newFunctionEnv sc X.env.globals (jx X.env sc.names []) [] X.env.qual none .none (some X.env)) (fun cenv s₄=>
   codeAny (model X.prog X.w) X.A (.compStart (.ListComp elt [⟨tg,iter,ifs,0⟩] sc pos) 0 (.ref it) acc { cenv with scope:=relabel sc X.env }) (RR acc cenv.locals) s₄) E s₃) E s₂:=by
 subst hN
 refine wpAny_newObj_type (wpAny_newFunctionEnv cs.cq (by intro y hy;simp at hy) (fun h₁ hns₁ hsb₁=>?_) cs.kind)
 dsimp only at hns₁ hsb₁ ⊢
 have fp2:∀b∈fp,b < s₂.heap.objs.size:=fun b hb=>by
  obtain⟨o,e,_⟩:=T.obj _ _ st2 b hb
  exact Heap.lt_size e
 have I3:Inv X pins σ (upd H2 s₂.heap.objs.size (.lst [])) { s₂ with heap:=s₂.heap.push { cls:=.type "list",dict:=none,data:=.seq ([]:List Value).toArray } }:=I2.ZK (t':=s₂.toks) (its:=[]) .nil (Nat.zero_le _)
 obtain⟨W,⟨m0,w0⟩,turn⟩:=hW s₂.heap.objs.size I2.fresh
 have f3:∀b∈fp,yQ X pins (upd H2 s₂.heap.objs.size (.lst [])) b:=fun b hb=>⟨by rw[qW (Nat.ne_of_lt (fp2 b hb))];exact(f2 b hb).1,(f2 b hb).2⟩
 have hD:∀b o,s₂.heap.get? b=some o→(s₂.heap.push { cls:=.type "list",dict:=none,data:=.seq ([]:List Value).toArray }).get? b=some o:=fun b o e=>Heap.get?_push_of_some _ e
 generalize hs3:({ s₂ with heap:=s₂.heap.push { cls:=.type "list",dict:=none,data:=.seq ([]:List Value).toArray } }:Shared)=s₃ at *
 have hs3h:s₃.heap=s₂.heap.push { cls:=.type "list",dict:=none,data:=.seq ([]:List Value).toArray }:=by rw[←hs3]
 rw[←hs3h] at hns₁ hsb₁ hD ⊢
 have nY:∀b∈fp,b < s₃.heap.objs.size:=fun b hb=>by
  rw[hs3h,Heap.size_push];exact Nat.lt_succ_of_lt (fp2 b hb)
 have k3:∀b o,s₃.heap.get? b=some o→h₁.get? b=some o:=fun b o e=>hsb₁.extBut b o (Nat.ne_of_lt (Heap.lt_size e)) (Heap.get?_push_of_some _ e)
 have ok:=Jc hos cs I3 f3 nY
 have cl:=kC (env:=X.env) sc.names [] (fun z c e=>by simp at e)
 have hcl:∀y c,(jx X.env sc.names []).lookup y=some c→X.env.cells.lookup y=some c:=fun y c e=>by
  have e1:=cl.1 y c e
  have hm:(y,NameKind.free)∈sc.names:=by
   by_cases q:(y,NameKind.free)∈sc.names
   ·exact q
   ·have:=(cl.2 y).mpr ⟨rfl,q⟩
    rw[this] at e;cases e
  obtain⟨c',hc'⟩:=I3.ok.has y (.inl (by show X.env.scope.names.lookup y=_;rw[hos];exact cs.frees _ hm rfl))
  rw[hc'] at e1 ⊢
  rw[e1];rfl
 have cell4:∀y c,(jx X.env sc.names []).lookup y=some c→∀v,s₃.heap.IsCell c v→h₁.IsCell c v:=fun y c e v ⟨o,ho,hd⟩=>⟨o,k3 _ _ ho,hd⟩
 have lenC:qD.length=names.length:=by have:=congrArg List.length cs.qD;simpa using this.symm
 have I4:∀tk,Inv (xQ X sc xs names fp s₃ (upd H2 s₂.heap.objs.size (.lst []))) [] (List.replicate xs.length none ++ wc σ qD) (upd H2 s₂.heap.objs.size (.lst [])) { s₃ with heap:=h₁,toks:=tk }:=fun tk=>by
  refine⟨ok,rfl,I3.bare,Un.kept k3,⟨_,hns₁,fun i y v e1 e2 e3=>?_⟩,fun y c e=>?_,I3.fresh,fun y c e=>I3.gX y c (hcl y c e),fun p hp=>absurd (show p∈([]:List (Addr × Obj)) from hp) (by simp),I3.jg.kept k3,?_⟩
  ·have hle:xs.length≤i:=by
    by_cases q:i < xs.length
    ·rw[List.getElem?_append_left (by rw[List.length_replicate];exact q),List.getElem?_replicate,if_pos q] at e2
     cases e2
    ·omega
   obtain⟨j,rfl⟩:∃j,i=xs.length + j:=⟨i - xs.length,by omega⟩
   ·have e1':names[j]?=some y:=by
     have e1z:(xs ++ names)[xs.length + j]?=some y:=e1
     rw[List.getElem?_append_right (Nat.le_add_right _ _),Nat.add_sub_cancel_left] at e1z
     exact e1z
    have e2':(wc σ qD)[j]?=some (some v):=by
     rw[List.getElem?_append_right (by rw[List.length_replicate];exact Nat.le_add_right _ _),List.length_replicate,Nat.add_sub_cancel_left] at e2
     exact e2
    unfold wc at e2'
    rw[List.getElem?_map] at e2'
    cases qc:qD[j]? with
    | none=>rw[qc] at e2';cases e2'
    | some i0=>
     rw[qc] at e2'
     have e2'':(σ[i0]?).join=some v:=by simpa using e2'
     have e3':σ[i0]?=some (some v):=by
      cases qs:σ[i0]? with
      | none=>rw[qs] at e2'';cases e2''
      | some o=>rw[qs] at e2'';rw[show o=some v from by simpa using e2'']
     have eN:X.N[i0]?=some y:=by
      have q1:(names.map some)[j]?=(qD.map fun i=>X.N[i]?)[j]?:=by rw[cs.qD]
      rw[List.getElem?_map,List.getElem?_map,e1',qc] at q1
      have q2:some y=X.N[i0]?:=by simpa using q1
      exact q2.symm
     have hfree:=cs.nS y (List.mem_of_getElem? e1')
     have hm:=PySem.mem_of_lookup hfree
     have hcell:X.env.scope.names.lookup y=some .cell:=by rw[hos];exact cs.frees _ hm rfl
     obtain⟨m,hn,hl⟩:=I3.loc
     obtain⟨u,ru,lk⟩:=hl i0 y v eN e3' (.inr (.inl hcell))
     refine⟨u,ru,?_⟩
     rcases lk with ⟨kk,_⟩ | ⟨kk,c,ec,hcl'⟩
     ·have kk':X.env.scope.names.lookup y=some .local:=kk
      rw[hcell] at kk';cases kk'
     ·refine .inr ⟨?_,c,?_,?_⟩
      ·left
       show (relabel sc X.env).names.lookup y=some .cell
       rw[xE,hfree]
       have ef:(X.env.scope.kind == ScopeKind.function)=true:=by rw[I3.ok.kind];rfl
       have ek:(X.env.kindOf y == some NameKind.cell)=true:=by
        show (X.env.scope.names.lookup y == some NameKind.cell)=true
        rw[hcell];rfl
       simp [ef,ek]
      ·show (jx X.env sc.names []).lookup y=some c
       cases q:(jx X.env sc.names []).lookup y with
       | none=>exact absurd hm ((cl.2 y).mp q).2
       | some c'=>
        have:=hcl y c' q
        rw[ec] at this
        exact this.symm
      ·obtain⟨o,ho,hd⟩:=hcl'
       exact⟨o,k3 _ _ ho,hd⟩
  ·obtain⟨v,hv⟩:=I3.cell y c (hcl y c e)
   exact⟨v,cell4 y c e v hv⟩
  ·show (List.replicate xs.length none ++ wc σ qD).length=(xs ++ names).length
   unfold wc
   simp [lenC]
 have st4:tn 0 h₁:=T.keep _ _ _ st2 fun b hb o e=>k3 b o (by rw[hs3h];exact Heap.get?_push_of_some _ e)
 have fpok:∀{H':Hp},(∀b∈fp,H' b=none)→∀b∈fp,yQ (xQ X sc xs names fp s₃ (upd H2 s₂.heap.objs.size (.lst []))) [] H' b:=fun hn b hb=>
  ⟨hn b hb,(ok.Vp b hb).1,ok.aI b hb,.inl hb,(ok.Vp b hb).2,fun p hp=>absurd (show p∈([]:List (Addr × Obj)) from hp) (by simp)⟩
 have loop:∀s₄:Shared,s₄={ s₃ with heap:=h₁,toks:=s₃.toks + ([]:List (Str × Value)).length }→
   codeAny (model X.prog X.w) X.A (.compLoop (.ListComp elt [⟨tg,iter,ifs,0⟩] sc pos) 0 (.ref it) (.ref s₂.heap.objs.size) (compEnvC sc (jx X.env sc.names []) s₃.heap.objs.size X.env))
    (RR (.ref s₂.heap.objs.size) s₃.heap.objs.size) s₄:=by
  rintro s₄ rfl
  refine lI (fun n s'=>∃i σ' H',Inv (xQ X sc xs names fp s₃ (upd H2 s₂.heap.objs.size (.lst []))) [] σ' H' s'∧tn i s'.heap∧(∀b∈fp,H' b=none)∧W i n σ' H') ?_ m0
   ⟨0,_,_,I4 _,st4,fun b hb=>(f3 b hb).1,w0⟩
  rintro n s5 ⟨i,σ5,H5,I5,st5,fr5,w5⟩
  rcases turn i n σ5 H5 w5 with ⟨stop,q⟩ | ⟨go,step⟩
  ·refine j5 (T.done (xQ X sc xs names fp s₃ (upd H2 s₂.heap.objs.size (.lst []))) rfl rfl rfl hc i [] s5 _ H5 _ I5 (fpok fr5) st5 stop) fun r s6 ⟨hr,I6⟩=>?_
   subst hr
   obtain⟨m,hn,_⟩:=I6.loc
   have J6:Inv X pins σ H5 s6:=I3.Qf (ch:=fp) I6.os I6.base I6.jg I6.bare fun b hb=>⟨(f3 b hb).2.2.2.1,(f3 b hb).2.1,(f3 b hb).2.2.2.2.1,(f3 b hb).2.2.2.2.2⟩
   exact cont _ _ H5 s6 m J6 hn (I3.aZ (H':=H5) (Nat.le_refl _) I6.free) q
  ·refine j5 (T.item (xQ X sc xs names fp s₃ (upd H2 s₂.heap.objs.size (.lst []))) rfl rfl rfl hc i [] s5 _ H5 _ I5 (fpok fr5) st5 go) fun r s6 ⟨u,hr,h6⟩=>?_
   subst hr
   refine j5 h6 fun _ s6' ⟨y,H6,I6,r6,y6,st6,fr6⟩=>?_
   have I6':=I6.pinned (fpok fr6) (T.obj _ _ st6)
   have back:∀{σ':St} {H':Hp} {s':Shared},Inv (xQ X sc xs names fp s₃ (upd H2 s₂.heap.objs.size (.lst []))) ([] ++ c8 fp s6'.heap) σ' H' s'→tn (i + 1) s'.heap∧∀b∈fp,H' b=none:=fun I9=>
    ⟨T.keep _ _ _ st6 fun b hb o e=>(I9.pin (b,o) (List.mem_append_right _ (List.mem_append_right _ (vV hb e)))).1,fun b hb=>by
     obtain⟨o,e,d⟩:=T.obj _ _ st6 b hb
     exact(I9.pin (b,o) (List.mem_append_right _ (List.mem_append_right _ (vV hb e)))).2.1⟩
   refine wpAny_mono (hg fp s₃ _ _ s6' _ H6 y u _ I6' r6 (step y H6 y6)) (fun _ s7 ⟨σ7,H7,I7,q7⟩=>?_) fun _ _ z=>False.elim z
   refine wpAny_mono (ht fp s₃ _ _ s7 _ H7 _ I7 q7) (fun b s8 ⟨H8,I8,q8⟩=>?_) fun _ _ z=>False.elim z
   cases b with
   | false=>
    rw[if_neg Bool.false_ne_true] at q8 ⊢
    obtain⟨m',hm',w8⟩:=q8
    exact⟨m',hm',i + 1,σ7,H8,I8.wF,(back I8).1,(back I8).2,w8⟩
   | true=>
    rw[if_pos rfl] at q8 ⊢
    refine wpAny_mono (he fp s₃ _ _ s8 _ H8 _ I8 q8) (fun v s9 ⟨vv,H9,I9,r9,ys,hD9,hz9,m',hm',w9⟩=>?_) fun _ _ z=>False.elim z
    refine wpAny_mono (mJ (X:=xQ X sc xs names fp s₃ (upd H2 s₂.heap.objs.size (.lst []))) _ s9 _ H9 (.ref s₂.heap.objs.size) [vv] (.ref s₂.heap.objs.size) [v] (fun _ H'=>H'=upd H9 s₂.heap.objs.size (.lst (ys ++ [vv]))) I9 rfl (.cons r9 .nil)
     ⟨_,ys,vv,rfl,rfl,hD9,hz9,rfl⟩) (fun _ s10 ⟨_,H10,I10,_,e10⟩=>?_) fun _ _ z=>False.elim z
    subst e10
    exact⟨m',hm',i + 1,σ7,_,I10.wF,(back I10).1,(back I10).2,w9⟩
 exact codeAny_compStart_list (loop _ (by rw[←hs3])) (T.self _ 0 _ _ _ st4 (loop _ (by rw[←hs3])))
theorem oB {pins:List (Addr × Obj)} {σ:St} {H:Hp} {s:Shared} {osc:Scope} {N:List Str} {sc:Scope} {xs names:List Str} {qD:List Nat} (hos:X.env.scope=osc) (cs:gf osc N sc xs names qD) (I:Inv X pins σ H s) :
  closureFor sc X.env=pure (jx X.env sc.names []):=
 pF fun y hy hk=>I.ok.has y.1 (.inl (by show X.env.scope.names.lookup y.1=_;rw[hos];exact cs.frees y hy hk))
theorem uP {osc:Scope} {N:List Str} {sc:Scope} {pos:Pos} {elt iter tg:Expr} {ifs:List Expr} {g:TG} {tt:TT} {xs names:List Str} {qD:List Nat} {wi:TI} {te:TE}
  (hc:X.calm=true) (hos:X.env.scope=osc) (hN:X.N=N) (cs:gf osc N sc xs names qD) (hi:PI X tg iter wi) (hg:∀fp s₀ H₀,PG (xQ X sc xs names fp s₀ H₀) tg g) (ht:∀fp s₀ H₀,W2 (xQ X sc xs names fp s₀ H₀) ifs tt) (he:∀fp s₀ H₀,PE (xQ X sc xs names fp s₀ H₀) elt te)
  (hs:∀v,foldedSetIterable iter X.env v=pure v:=by intro _;rfl):PE X (.ListComp elt [⟨tg,iter,ifs,0⟩] sc pos) (Vj xs.length qD wi g tt te):=by
 intro pins s σ H Q I h
 rw[eval_ListComp]
 refine wpAny_comprehension_free (use:=none) rfl hs (oB hos cs I) cs.kind cs.locs (j5 (hi pins s σ H _ I h) fun xv s1 h1=>j5 h1 fun itv s2 h2=>?_)
 obtain⟨it,fp,tn,J,H2,rfl,I2,T,st2,f2,hW⟩:=h2
 refine aX (Qd:=Q) (RR:=fun acc C=>compPost (model X.prog X.w) X.A X.xe none (EP X pins σ Q) acc C) hc hos hN cs hg ht he I2 T st2 f2 hW fun D C H5 s6 m I6 hn fC q=>?_
 refine⟨m,hn,fun h' sb=>?_⟩
 obtain⟨g0,g1,g2,g3,g4,g5⟩:=fC
 exact⟨.ref D,H5,I6.turned (t':=s6.toks) (it:=C) (fun b o hb e=>sb.extBut b o hb e) g0 g1 g3 g4 g5,rfl,q⟩
end
theorem Qh {J:It} {H:Hp} {xs:List V} {n:Nat} {qD:List Nat} {g:TG} {tt:TT} {te:TE} {σ:St} {Q:VK} (hJ:ax J H xs) (tv:V→List (Option V)) (hn:∀y,(tv y).length=n) (p:V→Bool) (Pr:V→V→Prop) (hsz:xs.length≤sizeLine)
  (hg:∀(i:Nat) (y:V) (ts:List (Option V)) (H':Hp) (K':St→Hp→Prop),xs[i]?=some y→ts.length=n→qg H H'→K' (tv y ++ wc σ qD) H'→g y (ts ++ wc σ qD) H' K')
  (ht:∀(i:Nat) (y:V) (H':Hp) (Q':Bool→Hp→Prop),xs[i]?=some y→qg H H'→(∀H4,qg H' H4→Q' (p y) H4)→tt (tv y ++ wc σ qD) H' Q')
  (he:∀(i:Nat) (y:V) (H':Hp) (Q':VK),xs[i]?=some y→p y=true→qg H H'→(∀v H4,qg H' H4→Pr y v→Q' v H4)→te (tv y ++ wc σ qD) H' Q')
  (hd:∀(D:Addr) (H':Hp) (ys:List V),qg H H'→H D=none→H' D=some (.lst ys)→Paired Pr (xs.filter p) ys→Q (.ref D) H') :
  nk J n qD g tt te σ Q H:=by
 intro D hD
 refine⟨fun i m σ1 H2=>m=xs.length - i∧i≤xs.length∧(∃ts:List (Option V),ts.length=n∧σ1=ts ++ wc σ qD)∧qg H H2∧∃ys,H2 D=some (.lst ys)∧Paired Pr ((xs.take i).filter p) ys,
  ⟨xs.length,by simp,Nat.zero_le _,⟨_,List.length_replicate,rfl⟩,qg.rF hD,[],qv,by simpa using Paired.nil⟩,?_⟩
 rintro i m σ1 H2 ⟨rfl,hi,⟨ts,htl,rfl⟩,s2,ys,hy,hp⟩
 obtain⟨j1,j2,j3⟩:=hJ i H2 s2
 by_cases hlt:i < xs.length
 ·refine .inr ⟨j1 hlt,fun y H3 q=>?_⟩
  obtain⟨e3,ey⟩:=j2 y H3 q
  subst e3
  have hyi:=ey hlt
  have htake:xs.take (i + 1)=xs.take i ++ [y]:=by
   rw[List.take_add_one,hyi];rfl
  have hlen:ys.length≤i:=by
   rw[←hp.length]
   exact Nat.le_trans (List.length_filter_le _ _) (by rw[List.length_take];omega)
  refine hg i y ts _ _ hyi htl s2 ?_
  refine ht i y _ _ hyi s2 fun H5 s5=>?_
  cases hpy:p y with
  | false=>
   rw[if_neg Bool.false_ne_true]
   refine⟨xs.length - (i + 1),by omega,rfl,hlt,⟨tv y,hn y,rfl⟩,s2.trans s5,ys,s5 _ _ hy,?_⟩
   rw[htake,List.filter_append,show [y].filter p=[] by simp [hpy],List.append_nil]
   exact hp
  | true=>
   rw[if_pos rfl]
   refine he i y _ _ hyi hpy (s2.trans s5) fun v H6 s6 pr=>⟨ys,s6 _ _ (s5 _ _ hy),by omega,xs.length - (i + 1),by omega,rfl,hlt,⟨tv y,hn y,rfl⟩,((s2.trans s5).trans s6).put hD,ys ++ [v],qv,?_⟩
   rw[htake,List.filter_append,show [y].filter p=[y] by simp [hpy]]
   exact hp.snoc pr
 ·have e:i=xs.length:=by omega
  subst e
  refine .inl ⟨j3 rfl,hd D H2 ys s2 hD hy ?_⟩
  rw[List.take_length] at hp
  exact hp
theorem eF {J:It} {H:Hp} {xs:List V} {n:Nat} {qD:List Nat} {g:TG} {te:TE} {σ:St} {Q:VK} (hJ:ax J H xs) (tv:V→List (Option V)) (hn:∀y,(tv y).length=n) (Pr:V→V→Prop) (hsz:xs.length≤sizeLine)
  (hg:∀(i:Nat) (y:V) (ts:List (Option V)) (H':Hp) (K':St→Hp→Prop),xs[i]?=some y→ts.length=n→qg H H'→K' (tv y ++ wc σ qD) H'→g y (ts ++ wc σ qD) H' K')
  (he:∀(i:Nat) (y:V) (H':Hp) (Q':VK),xs[i]?=some y→qg H H'→(∀v H4,qg H' H4→Pr y v→Q' v H4)→te (tv y ++ wc σ qD) H' Q')
  (hd:∀(D:Addr) (H':Hp) (ys:List V),qg H H'→H D=none→H' D=some (.lst ys)→Paired Pr xs ys→Q (.ref D) H') :
  nk J n qD g Ja te σ Q H:=
 Qh hJ tv hn (fun _=>true) Pr hsz hg (fun i y H' Q' _ s' k=>k H' (qg.refl _)) (fun i y H' Q' hy _ s' k=>he i y H' Q' hy s' k) (fun D H' ys s' hD e q=>hd D H' ys s' hD e (by rw[List.filter_eq_self.mpr (fun _ _=>rfl)] at q;exact q))
end L2
namespace L2
open PySem PySem.Spec PyProof.Rows
section
variable {X:Cx} {pins:List (Addr × Obj)} {σ:St} {H:Hp} {s:Shared} {h':Heap}
theorem Inv.GR {ch:List Addr} {a:Addr} {o:HO} {t':Nat} (I:Inv X pins σ H s) (hf:∀b∈ch,yQ X pins H b) (k:∀b u,b∉ch→s.heap.get? b=some u→h'.get? b=some u)
  (hp:s.heap.objs.size≤a) (new:jO X.prog X.w (upd H a o) h' a o):Inv X pins σ (upd H a o) { s with heap:=h',toks:=t' }:=by
 have hn:=I.jg.fresh hp
 have nit:∀b u,H b=some u→b∉ch:=fun b u e z=>by rw[(hf b z).1] at e;cases e
 have ne:∀b u,s.heap.get? b=some u→b≠a:=fun b u e z=>absurd (Nat.lt_of_lt_of_le (Heap.lt_size (z▸e)) hp) (Nat.lt_irrefl _)
 refine I.step (g':=s.gens) (d':=s.drawn) (ch:=ch) (fun b hb=>?_) (fun b o _ _ hc e _=>k b o hc e) (fun b o _ _ hc e _=>⟨o.slots,k b o hc e⟩) (fun b o hc e n=>?_) (fun b o hc e=>⟨o,k b o hc e⟩) (fun b xs e=>?_) (fun b o u e=>?_) (fun b ps e=>⟨#[],?_⟩) (fun m hm=>?_) (fun b u e=>?_) I.bare
 ·obtain⟨_,f1,_,f3,f4,f5⟩:=hf b hb
  exact⟨f3,f1,f4,f5⟩
 ·rw[qW (ne b o e)];exact n
 ·rw[qW (qk e hn)];exact e
 ·rw[qW (qk e hn)];exact e
 ·rw[qW (qk e hn),e];simp
 ·obtain⟨o,es,ep,ho,r⟩:=hm
  exact⟨o,es,ep,k _ o (fun z=>(hf _ z).2.1 rfl) ho,r⟩
 ·by_cases hb:b=a
  ·subst hb;rw[qv] at e;cases e;exact new
  ·rw[qW hb] at e
   refine(I.jg b u e).sd (fun c v hc q=>k c v ?_ q) (fun c q=>by rw[qW (qk q hn)];exact q) fun c xs q=>by rw[qW (qk q hn)];exact q
   rcases hc with z | z
   ·rw[z];exact nit b u e
   ·exact nit c _ z
theorem Inv.YV {ch:List Addr} {t':Nat} (I:Inv X pins σ H s) (hf:∀b∈ch,yQ X pins H b) (k:∀b u,b∉ch→s.heap.get? b=some u→h'.get? b=some u):Inv X pins σ H { s with heap:=h',toks:=t' }:=by
 have nit:∀b u,H b=some u→b∉ch:=fun b u e z=>by rw[(hf b z).1] at e;cases e
 refine I.step (g':=s.gens) (d':=s.drawn) (ch:=ch) (fun b hb=>?_) (fun b o _ _ hc e _=>k b o hc e) (fun b o _ _ hc e _=>⟨o.slots,k b o hc e⟩) (fun b o hc e n=>n) (fun b o hc e=>⟨o,k b o hc e⟩) (fun b xs e=>e) (fun b o u e=>e) (fun b ps e=>⟨#[],by rw[e];simp⟩) (fun m hm=>?_) (fun b u e=>?_) I.bare
 ·obtain⟨_,f1,_,f3,f4,f5⟩:=hf b hb
  exact⟨f3,f1,f4,f5⟩
 ·obtain⟨o,es,ep,ho,r⟩:=hm
  exact⟨o,es,ep,k _ o (fun z=>(hf _ z).2.1 rfl) ho,r⟩
 ·refine(I.jg b u e).sd (fun c v hc q=>k c v ?_ q) (fun c q=>q) fun c xs q=>q
  rcases hc with z | z
  ·rw[z];exact nit b u e
  ·exact nit c _ z
end
noncomputable def Yh (K:PySem.W.Frag) (a b:Addr):It:=
 ⟨fun i H=>∃xs ys x y,qI K H a xs∧qI K H b ys∧xs[i]?=some x∧ys[i]?=some y,
  fun i H v H'=>∃t x y,H t=none∧v=.ref t∧H'=upd H t (.tup [x,y])∧(∀xs,qI K H a xs→xs[i]?=some x)∧∀ys,qI K H b ys→ys[i]?=some y,
  fun i H=>∃xs ys,qI K H a xs∧qI K H b ys∧(xs.length≤i∨ys.length≤i)⟩
noncomputable def Vr (z TI TO i1 i2 l1 l2:Addr) (i:Nat) (h:Heap):Prop:=
 IsZip h z TI TO .none∧IsPair h TI (.ref i1) (.ref i2)∧(∃a b,IsPair h TO a b)∧h.IsListIter i1 l1 i∧h.IsListIter i2 l2 i
theorem Ze {P:Program} {w:World} {K:PySem.W.Frag} {es:List Expr} {k1:Nat} {pos:Pos} {z TI TO i1 i2 l1 l2:Addr} (D:ZipApart z TI TO i1 i2 l1 l2) :
  Turn P w K (.Tuple es k1 pos) (Yh K l1 l2) [z,TI,TO,i1,i2] z (Vr z TI TO i1 i2 l1 l2) where
 mem:=by simp
 obj:=fun i h st b hb=>by
  obtain⟨a1,a2,⟨x,y,a3⟩,⟨o4,e4,_,d4⟩,o5,e5,_,d5⟩:=st
  simp only[List.mem_cons,List.not_mem_nil,or_false] at hb
  rcases hb with rfl | rfl | rfl | rfl | rfl
  ·exact⟨_,a1,fun v q=>by cases q⟩
  ·exact⟨_,a2,fun v q=>by cases q⟩
  ·exact⟨_,a3,fun v q=>by cases q⟩
  ·exact⟨_,e4,fun v q=>by rw[d4] at q;cases q⟩
  ·exact⟨_,e5,fun v q=>by rw[d5] at q;cases q⟩
 keep:=fun i h h' st k=>by
  obtain⟨a1,a2,⟨x,y,a3⟩,a4,a5⟩:=st
  exact⟨k z (by simp) _ a1,k TI (by simp) _ a2,⟨x,y,k TO (by simp) _ a3⟩,a4.at fun o e=>k i1 (by simp) o e,a5.at fun o e=>k i2 (by simp) o e⟩
 item:=by
  intro X hP hw hK hc i pins s σ H E I hf st hg
  subst hP hw hK
  obtain⟨xs,ys,x,y,hq1,hq2,hx,hy⟩:=hg
  obtain⟨its1,rv1,p1,_⟩:=I.list hq1
  obtain⟨its2,rv2,p2,_⟩:=I.list hq2
  obtain⟨u1,hu1,ru1⟩:=rv1.get hx
  obtain⟨u2,hu2,ru2⟩:=rv2.get hy
  obtain⟨a1,a2,⟨a,b,a3⟩,a4,a5⟩:=st
  refine wpAny_pyNext_zip_item D a1 a2 a3 a4 a5 p1.isList p2.isList (x:=u1) (y:=u2) (by simpa using hu1) (by simpa using hu2) fun h' b1 b2 b3 b4 b5 b6 bk=>?_
  refine⟨_,rfl,wpAny_letOwnedTupleGo_zip b1 fun h2 c1 c2=>?_⟩
  have lt:∀{c o},s.heap.get? c=some o→s.heap.objs.size≠c:=fun e=>Nat.ne_of_gt (Heap.lt_size e)
  have keepA:∀c o,c∉[z,TI,TO,i1,i2]→s.heap.get? c=some o→h2.get? c=some o:=fun c o hc e=>by
   simp only[List.mem_cons,List.not_mem_nil,or_false,not_or] at hc
   exact c2.extBut _ _ hc.1 (bk c o hc.1 hc.2.2.1 hc.2.2.2.1 hc.2.2.2.2 e)
  have T2:IsPair h2 s.heap.objs.size u1 u2:=c2.extBut _ _ (lt a1) b5
  refine⟨.ref s.heap.objs.size,upd H s.heap.objs.size (.tup [x,y]),I.GR (t':=s.toks) hf keepA (Nat.le_refl _) ?_,rfl,⟨_,x,y,I.fresh,rfl,rfl,fun zs hz=>by rw[I.d6 hz hq1];exact hx,fun zs hz=>by rw[I.d6 hz hq2];exact hy⟩,?_,fun b hb=>?_⟩
  ·exact⟨by show 2≤sizeLine;decide,[u1,u2],.cons ru1 (.cons ru2 .nil),_,T2,rfl,0,rfl⟩
  ·exact⟨c1,c2.extBut _ _ D.TIz (bk TI _ D.TIz D.TITO D.TIi1 D.TIi2 a2),⟨_,_,c2.extBut _ _ D.TOz b2⟩,b3.extBut c2.extBut D.i1z,b4.extBut c2.extBut D.i2z⟩
  ·have hb':∃o,s.heap.get? b=some o:=by
    obtain⟨o4,e4,_⟩:=a4
    obtain⟨o5,e5,_⟩:=a5
    simp only[List.mem_cons,List.not_mem_nil,or_false] at hb
    rcases hb with rfl | rfl | rfl | rfl | rfl
    ·exact⟨_,a1⟩
    ·exact⟨_,a2⟩
    ·exact⟨_,a3⟩
    ·exact⟨_,e4⟩
    ·exact⟨_,e5⟩
   obtain⟨o,e⟩:=hb'
   rw[qW (Ne.symm (lt e))]
   exact(hf b hb).1
 done:=by
  intro X hP hw hK hc i pins s σ H E I hf st hg
  subst hP hw hK
  obtain⟨xs,ys,hq1,hq2,he⟩:=hg
  obtain⟨its1,rv1,p1,_⟩:=I.list hq1
  obtain⟨its2,rv2,p2,_⟩:=I.list hq2
  have l1':=rv1.length
  have l2':=rv2.length
  obtain⟨a1,a2,⟨a,b,a3⟩,a4,a5⟩:=st
  refine wpAny_pyNext_zip_end (I.ok.hd hc) D a1 a2 a3 a4 a5 p1.isList p2.isList ?_ fun h' bk=>⟨rfl,I.YV (t':=s.toks) hf fun c o hc e=>?_⟩
  ·rcases he with he | he
   ·exact .inl (by simp;omega)
   ·exact .inr (by simp;omega)
  ·simp only[List.mem_cons,List.not_mem_nil,or_false,not_or] at hc
   exact bk c o hc.1 hc.2.2.1 hc.2.2.2.1 hc.2.2.2.2 e
 self:=fun _ _ _ _ _ st h=>wpAny_pyIter_zip st.1 h
noncomputable def Wx (K:PySem.W.Frag) (ta:TA):TI:=fun σ H R=>ta σ H fun vs H1=>∃a b xs ys,vs=[.ref a,.ref b]∧qI K H1 a xs∧qI K H1 b ys∧R (Yh K a b) H1
section
variable {X:Cx}
theorem Ks {es:List Expr} {k1:Nat} {tpos:Pos} {a b:Expr} {ta:TA} {p pos:Pos} (hg:Gl X "zip") (hm:X.mg "zip" = none) (ha:PA X [a,b] ta) (hv:bootBuiltins "zip" = some (.type "zip"))
  (he:starEach [a,b] X.env=(false,eval a X.env) :: starEach [b] X.env:=by rfl) (hpl:(backTo pos (starEach [b] X.env)).any (·.1)=false:=by rfl) :
  PI X (.Tuple es k1 tpos) (.Call (.Name "zip" p) [a,b] [] pos) (Wx X.K ta):=by
 intro pins s σ H R I h
 refine wpAny_Call_Name_kw (mX I hg hm hv ?_)
 refine PyProof.Rows.callWith_type1 (j5 (ha pos pins s σ H _ I h) fun us s1 ⟨vs,H1,I1,r1,q1⟩=>?_) he hpl
 obtain⟨l1,l2,xs,ys,rfl,hq1,hq2,q⟩:=q1
 obtain⟨its1,rv1,p1,_⟩:=I1.list hq1
 obtain⟨its2,rv2,p2,_⟩:=I1.list hq2
 cases r1 with
 | cons r rr=>
  cases rr with
  | cons r' rr=>
   cases rr
   cases r
   cases r'
   have b1:l1 < s1.heap.objs.size:=by obtain⟨_,_,e,_⟩:=p1;exact Heap.lt_size e
   have b2:l2 < s1.heap.objs.size:=by obtain⟨_,_,e,_⟩:=p2;exact Heap.lt_size e
   refine call_zip_2 p1.isList p2.isList fun h' c1 c2 c3 c4 c5 c6 ck=>?_
   refine wpAny_pyIter_zip (s:={ s1 with heap:=h' }) c1 ?_
   refine⟨_,_,_,_,H1,rfl,I1.kept (t':=s1.toks) ck,Ze (zipApart_new b1 b2),⟨c1,c2,⟨_,_,c3⟩,c4,c5⟩,fun c hc=>?_,q⟩
   have:s1.heap.objs.size≤c:=by
    simp only[List.mem_cons,List.not_mem_nil,or_false] at hc
    rcases hc with rfl | rfl | rfl | rfl | rfl<;>omega
   exact I1.aZ this (I1.jg.fresh this)
theorem uK:∀(tk:Nat) (xs:List Str),Vals (xs.map V.str) (strsFrom tk xs)
 | _,[]=>.nil
 | tk,x :: r=>.cons ⟨tk,rfl⟩ (uK (tk + 1) r)
noncomputable def K4:V→List V→Hp→VK→Prop:=fun x vs H Q=>∃z y,x=.str z∧vs=[.str y]∧(y.length == 0)=false∧z.length + 2≤sizeLine∧Nw H (.lst ((Txt.split z y).map V.str)) Q
theorem yF:i9 X "str.split" K4:=by
 intro pins s σ H x vs v us Q I rx rv h
 obtain⟨z,y,rfl,rfl,hy,hz,q⟩:=h
 obtain⟨t,rfl⟩:=rx
 obtain⟨u,rfl,ru⟩:=rv.one
 obtain⟨t',rfl⟩:=ru
 have hsz:z.length≤sizeLine:=by omega
 have hle:=PyProof.Rows.split_le z y
 have fin:∀(l:List Value) (tk:Nat),Vals ((Txt.split z y).map V.str) l→EP X pins σ Q (.ref s.heap.objs.size) { s with heap:=s.heap.push { cls:=.type "list",data:=.seq l.toArray },toks:=tk }:=fun l tk r=>
  ⟨.ref s.heap.objs.size,_,I.ZK (t':=tk) r (by rw[List.length_map];omega),rfl,q.el _ I.fresh⟩
 cases h1:(decide (z.length < y.length) || decide (Builtin.Str.strKind z < Builtin.Str.strKind y)) with
 | true=>
  refine call_meets F.slot_str_split (typeIs_str _ _ _) F.entry_str_split (F.args_str_split_2 _ _) (meets_str_split_cannot_occur z y t t' h1) ?_
  refine fin [.str z t] s.toks ?_
  have e:Txt.split z y=[z]:=if_pos h1
  rw[e];exact .cons ⟨t,rfl⟩ .nil
 | false=>
  cases hf:(Builtin.Str.occurrences z y 0 z.length (z.length + 1)).isEmpty with
  | true=>
   refine call_meets F.slot_str_split (typeIs_str _ _ _) F.entry_str_split (F.args_str_split_2 _ _) (meets_str_split_not_found z y t t' h1 hy hf) ?_
   refine fin [.str z t] s.toks ?_
   have e:Txt.split z y=[z]:=(if_neg (ne_true_of_eq_false h1)).trans (if_pos hf)
   rw[e];exact .cons ⟨t,rfl⟩ .nil
  | false=>
   have e:Txt.split z y=Builtin.Str.partsBetween z (Builtin.Str.occurrences z y 0 z.length (z.length + 1)) y.length:=(if_neg (ne_true_of_eq_false h1)).trans (if_neg (ne_true_of_eq_false hf))
   rw[e] at hle
   refine call_meets F.slot_str_split (typeIs_str _ _ _) F.entry_str_split (F.args_str_split_2 _ _) (meets_str_split_sep z y t t' h1 hy hf hsz (by omega)) ?_
   refine fin _ _ ?_
   rw[e];exact uK _ _
theorem Xh {K:PySem.W.Frag} {es:List Expr} {k1:Nat} {tpos:Pos} {a b:Expr} {ta:TA} {p pos:Pos} (hK:X.K=K) (hg:Gl X "zip") (hm:X.mg "zip" = none) (ha:PA X [a,b] ta) (hv:bootBuiltins "zip" = some (.type "zip"))
  (he:starEach [a,b] X.env=(false,eval a X.env) :: starEach [b] X.env:=by rfl) (hpl:(backTo pos (starEach [b] X.env)).any (·.1)=false:=by rfl) :
  PI X (.Tuple es k1 tpos) (.Call (.Name "zip" p) [a,b] [] pos) (Wx K ta):=hK▸Ks hg hm ha hv he hpl
end
theorem Zs {K:PySem.W.Frag} {a b:Addr} {H:Hp} {xs ys:List V} {qD:List Nat} {te:TE} {σ:St} {Q:VK} (hx:qI K H a xs) (hy:qI K H b ys) (Pr:V→V→V→Prop) (hsz:xs.length≤sizeLine)
  (he:∀(i:Nat) (x y:V) (H':Hp) (Q':VK),xs[i]?=some x→ys[i]?=some y→qg H H'→(∀v H4,qg H' H4→Pr x y v→Q' v H4)→te ([some x,some y] ++ wc σ qD) H' Q')
  (hd:∀(D:Addr) (H':Hp) (vs:List V),qg H H'→H D=none→H' D=some (.lst vs)→vs.length=min xs.length ys.length→(∀(i:Nat) x y v,xs[i]?=some x→ys[i]?=some y→vs[i]?=some v→Pr x y v)→Q (.ref D) H') :
  nk (Yh K a b) 2 qD (KS K 2 (Zp (cg 0) (Zp (cg 1) V6))) Ja te σ Q H:=by
 intro D hD
 refine⟨fun i m σ1 H2=>m=min xs.length ys.length - i∧i≤min xs.length ys.length∧(∃ts:List (Option V),ts.length=2∧σ1=ts ++ wc σ qD)∧qg H H2∧∃vs,H2 D=some (.lst vs)∧vs.length=i∧∀(j:Nat) x y v,xs[j]?=some x→ys[j]?=some y→vs[j]?=some v→Pr x y v,
  ⟨min xs.length ys.length,by omega,Nat.zero_le _,⟨_,List.length_replicate,rfl⟩,qg.rF hD,[],qv,rfl,fun j x y v _ _ e=>by simp at e⟩,?_⟩
 rintro i m σ1 H2 ⟨rfl,hi,⟨ts,htl,rfl⟩,s2,vs,hv,hvl,hp⟩
 have hx2:qI K H2 a xs:=Vv hx s2
 have hy2:qI K H2 b ys:=Vv hy s2
 by_cases hlt:i < min xs.length ys.length
 ·have h1:i < xs.length:=by omega
  have h2:i < ys.length:=by omega
  refine .inr ⟨⟨xs,ys,_,_,hx2,hy2,List.getElem?_eq_getElem h1,List.getElem?_eq_getElem h2⟩,fun u H3 q=>?_⟩
  obtain⟨tp,x,y,htn,rfl,rfl,ex,ey⟩:=q
  have ex:=ex xs hx2
  have ey:=ey ys hy2
  have s3:qg H2 (upd H2 tp (.tup [x,y])):=qg.rF htn
  match ts,htl with
  | [_,_],_=>
   refine⟨tp,[x,y],rfl,yT.of qv,rfl,x,[y],rfl,y,[],rfl,rfl,?_⟩
   unfold Ja
   dsimp only
   rw[if_pos rfl]
   refine he i x y _ _ ex ey (s2.trans s3) fun v H6 s6 pr=>⟨vs,s6 _ _ (s3 _ _ hv),by omega,min xs.length ys.length - (i + 1),by omega,rfl,hlt,⟨[some x,some y],rfl,rfl⟩,((s2.trans s3).trans s6).put hD,vs ++ [v],qv,by rw[List.length_append,hvl];rfl,fun j x' y' v' e1 e2 e3=>?_⟩
   by_cases hj:j < vs.length
   ·rw[List.getElem?_append_left hj] at e3
    exact hp j x' y' v' e1 e2 e3
   ·have hji:j=i:=by
     have:=(List.getElem?_eq_some_iff.mp e3).1
     rw[List.length_append,List.length_singleton] at this
     omega
    subst hji
    rw[List.getElem?_append_right (by omega),hvl,Nat.sub_self] at e3
    rw[ex] at e1
    rw[ey] at e2
    cases e1
    cases e2
    cases e3
    exact pr
 ·have e:i=min xs.length ys.length:=by omega
  refine .inl ⟨⟨xs,ys,hx2,hy2,by omega⟩,hd D H2 vs s2 hD hv (by omega) hp⟩
end L2
namespace L2
open PyProof.Rows PySem PySem.Spec
noncomputable def cC (h:Heap) (e C:Addr) (d:Option Addr) (tb:Value):Prop:=∃vs sl,h.get? e=some ⟨.ref C,d,.fields vs,sl⟩∧vs.size=6∧vs[1]?=some tb∧vs[2]?=some .none
noncomputable def Jw (h:Heap) (T:Addr) (fl:Value):Prop:=∃oT ts,h.get? T=some oT∧oT.data=.fields ts∧ts[3]?=some fl
structure mr (fs ch:List Addr) (h h':Heap):Prop where
 keep:∀b o,h.get? b=some o→b∉fs→b∉ch→h'.get? b=some o
 slot:∀b o,h.get? b=some o→b∈fs→b∉ch→∃sl,h'.get? b=some { o with slots:=sl }
 there:∀b o,h.get? b=some o→∃o',h'.get? b=some o'
theorem mr.trans {fs ch:List Addr} {h h1 h2:Heap} (a:mr fs ch h h1) (b:mr fs ch h1 h2):mr fs ch h h2 where
 keep:=fun c o e hf hc=>b.keep c o (a.keep c o e hf hc) hf hc
 slot:=fun c o e hf hc=>by
  obtain⟨sl,e1⟩:=a.slot c o e hf hc
  obtain⟨sl',e2⟩:=b.slot c _ e1 hf hc
  exact⟨sl',e2⟩
 there:=fun c o e=>by
  obtain⟨o',e1⟩:=a.there c o e
  exact b.there c o' e1
theorem mr.mono {fs ch ch':List Addr} {h h1:Heap} (a:mr fs ch h h1) (hs:∀b∈ch,b∈ch'):mr fs ch' h h1:=
 ⟨fun c o e hf hc=>a.keep c o e hf fun z=>hc (hs c z),fun c o e hf hc=>a.slot c o e hf fun z=>hc (hs c z),a.there⟩
section
variable {M:Model} {A:Around} {E:Value→Shared→Prop} {s:Shared} {base:Heap} {env:Env} {outer:List Env} {L e C:Addr} {d:Option Addr}
theorem mr.one {fs:List Addr} {h:Heap} {a:Addr} {f:Obj→Obj} {o:Obj} (ha:h.get? a=some o) (hf:(f o).isFreed=false):mr fs [a] h (h.update a f):=by
 have ne:∀b,b∉[a]→a≠b:=fun b hb q=>hb (by rw[q];exact List.mem_singleton.mpr rfl)
 refine⟨fun b u e _ hc=>(Heap.get?_update_other _ _ (ne b hc)).trans e,fun b u e _ hc=>⟨u.slots,(Heap.get?_update_other _ _ (ne b hc)).trans e⟩,fun b u e=>?_⟩
 by_cases q:a=b
 ·subst q;exact⟨_,Heap.get?_update_self _ ha hf⟩
 ·exact⟨u,(Heap.get?_update_other _ _ q).trans e⟩
theorem mr.push {fs ch:List Addr} {h:Heap} {o:Obj}:mr fs ch h (h.push o):=
 ⟨fun b u e _ _=>Heap.get?_push_of_some _ e,fun b u e _ _=>⟨u.slots,Heap.get?_push_of_some _ e⟩,fun b u e=>⟨u,Heap.get?_push_of_some _ e⟩⟩
theorem mr.slots {fs ch:List Addr} {h h':Heap} (x:Heap.SlotsOnly fs h h'):mr fs ch h h':=
 ⟨fun b u e hf _=>(x.2.1 b hf).trans e,fun b u e _ _=>x.2.2 b u e,fun b u e=>by obtain⟨sl,q⟩:=x.2.2 b u e;exact⟨_,q⟩⟩
theorem cC.slots {h h1 : Heap} {l : List Env} {tb : Value} (hx : cC h e C d tb) (hl : h.FunFrames base l) (k : Heap.SlotsOnly (l.filterMap (·.frame)) h h1) : cC h1 e C d tb := by
  obtain ⟨vs, sl, he, r⟩ := hx
  refine ⟨vs, sl, (k.2.1 e fun m => ?_).trans he, r⟩
  obtain ⟨_, o, ho, no⟩ := hl.mem m
  cases he.symm.trans ho
  exact no vs rfl
theorem entry_put {tb top : Value} {pl : List Value} {Q : Unit → Shared → Prop} (ip : IsPlace pl) (hx : cC s.heap e C d tb)
    (q : ∀ h' T, s.heap.objs.size ≤ T → cC h' e C d (.ref T) → Jw h' T (rawInt L) → (∀ fs, mr fs [e] s.heap h') → Q () { s with heap := h' }) : wpAny M A (EntryCells.newEntry top (.ref L) .none (rawInt L) .none pl >>= setField (.ref e) 1) Q E s := by
  obtain ⟨vs, sl, he, hsz, h1, h2⟩ := hx
  have lA := ip.sizeOk5 top (.ref L) .none (rawInt L) .none
  unfold EntryCells.newEntry newFields
  generalize ets : List.toArray _ = ts at lA
  have h3 : ts[3]? = some (rawInt L) := by rw [← ets]; rfl
  refine wpAny_bind (wpAny_newObj_type ?_ lA)
  generalize eot : ({ cls := .type "traceback", data := .fields ts } : Obj) = ot
  have nf : (Obj.mapFields (·.setIfInBounds 1 (Value.ref s.heap.objs.size)) ⟨.ref C, d, .fields vs, sl⟩).isFreed = false := Obj.isFreed_of_fields (Obj.data_mapFields rfl _)
  have ge : (s.heap.push ot).get? e = some ⟨.ref C, d, .fields vs, sl⟩ := Heap.get?_push_of_some _ he
  refine wpAny_setField ge rfl (by omega) (q _ s.heap.objs.size (Nat.le_refl _) ⟨vs.setIfInBounds 1 (Value.ref s.heap.objs.size), sl, Heap.get?_update_self _ ge nf, by simpa using hsz, by simp [hsz], ?_⟩ ⟨ot, ts, (Heap.get?_update_other _ _ (Nat.ne_of_lt (Heap.lt_size he))).trans (Heap.get?_push_size _ (by rw [← eot]; rfl)), by rw [← eot], h3⟩ fun fs => mr.push.trans (mr.one ge nf))
  rw [Array.getElem?_setIfInBounds_ne (by decide)]
  exact h2
theorem nB {Q : Unit → Shared → Prop} (hfr : A.frames = some (env :: outer)) (hl : s.heap.FunFrames base (env :: outer)) (hf : env.frame = some L) (hx : cC s.heap e C d .none)
    (hQ : ∀ h' T, s.heap.objs.size ≤ T → cC h' e C d (.ref T) → Jw h' T (rawInt L) → mr ((env :: outer).filterMap (·.frame)) [e] s.heap h' → Q () { s with heap := h' }) : wpAny M A (noteFrame (.ref e) env) Q E s := by
  obtain ⟨_, _, he, _, h1, _⟩ := id hx
  unfold noteFrame
  rw [hf]
  refine wpAny_bind (wpAny_field he rfl h1 ?_)
  rw [if_neg (by decide)]
  exact wpAny_bind (wpAny_frameOf_fun hfr hl hf fun h0 k0 => wpAny_bind (wpAny_entryPlaceOf fun _ ip => entry_put ip (hx.slots hl k0) fun h' T k1 k2 k3 k4 => hQ h' T (k0.1 ▸ k1) k2 k3 ((mr.slots k0).trans (k4 _))))
theorem eU {T0 : Addr} {Q : Unit → Shared → Prop} (hfr : A.frames = some (env :: outer)) (hl : s.heap.FunFrames base (env :: outer)) (hf : env.frame = some L) (hx : cC s.heap e C d (.ref T0)) (ht : Jw s.heap T0 .none) (hne : T0 ≠ e)
    (hQ : ∀ h' T, s.heap.objs.size ≤ T → cC h' e C d (.ref T) → Jw h' T (rawInt L) → mr ((env :: outer).filterMap (·.frame)) [e, T0] s.heap h' → Q () { s with heap := h' }) : wpAny M A (noteFrame (.ref e) env) Q E s := by
  obtain ⟨vs, sl, he, hsz, h1, h2⟩ := hx
  obtain ⟨oT, ts, gT, dT, h3⟩ := ht
  have t0 : mr ((env :: outer).filterMap (·.frame)) [T0] s.heap (s.heap.update T0 (Obj.mapFields (·.setIfInBounds 3 Value.none))) := mr.one gT (Obj.isFreed_of_fields (Obj.data_mapFields dT _))
  have x0 : cC (s.heap.update T0 (Obj.mapFields (·.setIfInBounds 3 Value.none))) e C d (.ref T0) := ⟨vs, sl, (Heap.get?_update_other _ _ hne).trans he, hsz, h1, h2⟩
  have l0 : (s.heap.update T0 (Obj.mapFields (·.setIfInBounds 3 Value.none))).FunFrames base (env :: outer) := hl.of_keeps fun b o gb no => by
    refine ⟨o, (Heap.get?_update_other _ _ fun z => ?_).trans gb, rfl⟩
    cases gT.symm.trans (z ▸ gb)
    exact no ts dT
  unfold noteFrame
  rw [hf]
  refine wpAny_bind (wpAny_field he rfl h1 ?_)
  rw [if_pos (by simp)]
  refine wpAny_bind (wpAny_field gT dT h3 ?_)
  rw [if_neg (by simp [rawInt])]
  refine wpAny_bind (wpAny_setField gT dT (Array.getElem?_eq_some_iff.mp h3).1 (wpAny_bind (wpAny_frameOf_fun hfr l0 hf fun h4 k0 => wpAny_bind (wpAny_entryPlaceOf fun _ ip => entry_put ip (x0.slots l0 k0) fun h' T k1 k2 k3 k4 => ?_))))
  refine hQ h' T ?_ k2 k3 ((t0.mono (by simp)).trans ((mr.slots k0).trans ((k4 _).mono (by simp))))
  rw [← Heap.size_update s.heap T0, ← k0.1]
  exact k1
theorem land {T:Addr} {fl:Value} {Q:Unit→Shared→Prop} (hx:cC s.heap e C d (.ref T)) (ht:Jw s.heap T fl) (hne:T≠e)
  (hQ:∀h',cC h' e C d (.ref T)→Jw h' T .none→(∀fs,mr fs [T] s.heap h')→Q () { s with heap:=h' }):wpAny M A (setFlight (.ref e) none) Q E s:=by
 obtain⟨vs,sl,he,hsz,h1,h2⟩:=hx
 obtain⟨oT,ts,hT,hdT,h3⟩:=ht
 have h3':3 < ts.size:=(Array.getElem?_eq_some_iff.mp h3).1
 have nf:(Obj.mapFields (·.setIfInBounds 3 Value.none) oT).isFreed=false:=Obj.isFreed_of_fields (Obj.data_mapFields hdT _)
 unfold setFlight
 refine wpAny_bind (wpAny_field he rfl h1 ?_)
 rw[if_pos (show (Value.ref T != Value.none)=true from by simp)];refine wpAny_setField hT hdT h3' (hQ _ ⟨vs,sl,(Heap.get?_update_other _ _ hne).trans he,hsz,h1,h2⟩ ⟨_,_,Heap.get?_update_self _ hT nf,Obj.data_mapFields hdT _,by simp [h3']⟩ fun fs=>mr.one hT nf)
theorem tU {Q:Unit→Shared→Prop} (hfr:A.frames=some (env :: outer)) (hl:s.heap.FunFrames base (env :: outer)) (hf:env.frame=some L) (hx:cC s.heap e C d .none)
  (hQ:∀h' T,s.heap.objs.size≤T→T≠e→cC h' e C d (.ref T)→Jw h' T .none→mr ((env :: outer).filterMap (·.frame)) [e,T] s.heap h'→Q () { s with heap:=h' }):wpAny M A (leaving env (.ref e)) Q E s:=by
 have he:e < s.heap.objs.size:=by obtain⟨vs,sl,he,_⟩:=hx;exact Heap.lt_size he
 unfold leaving
 refine wpAny_bind (nB hfr hl hf hx fun h1 T k1 k2 k3 k4=>?_)
 have hne:T≠e:=Nat.ne_of_gt (Nat.lt_of_lt_of_le he k1)
 exact land k2 k3 hne fun h2 j1 j2 j3=>hQ h2 T k1 hne j1 j2 ((k4.mono (by simp)).trans ((j3 _).mono (by simp)))
theorem nU {T0:Addr} {Q:Unit→Shared→Prop} (hfr:A.frames=some (env :: outer)) (hl:s.heap.FunFrames base (env :: outer)) (hf:env.frame=some L) (hx:cC s.heap e C d (.ref T0)) (ht:Jw s.heap T0 .none) (hne0:T0≠e)
  (hQ:∀h' T,s.heap.objs.size≤T→T≠e→cC h' e C d (.ref T)→Jw h' T .none→mr ((env :: outer).filterMap (·.frame)) [e,T0,T] s.heap h'→Q () { s with heap:=h' }):wpAny M A (leaving env (.ref e)) Q E s:=by
 have he:e < s.heap.objs.size:=by obtain⟨vs,sl,he,_⟩:=hx;exact Heap.lt_size he
 unfold leaving
 refine wpAny_bind (eU hfr hl hf hx ht hne0 fun h1 T k1 k2 k3 k4=>?_)
 have hne:T≠e:=Nat.ne_of_gt (Nat.lt_of_lt_of_le he k1)
 exact land k2 k3 hne fun h2 j1 j2 j3=>hQ h2 T k1 hne j1 j2 ((k4.mono (by simp)).trans ((j3 _).mono (by simp)))
end
end L2
namespace L2
open PyProof.Rows PySem PySem.Spec
noncomputable def xO (e C:Addr) (d:Option Addr):HO:=.ext fun h=>∃tb,cC h e C d tb
theorem Xt {P:Program} {w:World} {H:Hp} {h:Heap} {e C:Addr} {d:Option Addr} {tb:Value} (x:cC h e C d tb):jO P w H h e (xO e C d):=by
 obtain⟨vs,sl,he,r⟩:=x
 refine⟨⟨tb,vs,sl,he,r⟩,⟨_,he⟩,fun h1 h2 ⟨tb',vs',sl',he',r'⟩ k=>⟨tb',vs',sl',k _ he',r'⟩⟩
structure WQ (a C:Addr) (d:Option Addr) (n:Nat) (H:Hp) (h:Heap) (T:Addr):Prop where
 at':cC h a C d (.ref T)
 tr:Jw h T .none
 ne:T≠a
 new:n≤T
 free:H T=none
 is:H a=some (xO a C d)
noncomputable def nG (P:Program) (w:World):uh:=fun outer H s E e s'=>∃(a C:Addr) (d:Option Addr) (T:Addr) (H':Hp),e=.ref a∧s'.os=s.os∧AllBare s'.gens∧Un (nW outer) [] H H' s.heap s'.heap∧gF P w H' s'.heap∧WQ a C d s.heap.objs.size H' s'.heap T∧E (.ref C) (some a) H'
theorem i8 {P:Program} {w:World} {H:Hp} {h h':Heap} {fs ch:List Addr} {a C:Addr} {d:Option Addr} {tb:Value} (x:gF P w H h) (t:mr fs ch h h') (hf:∀b∈fs,H b=none) (hc:∀b∈ch,b=a∨H b=none) (ha:H a=some (xO a C d)) (hx:cC h' a C d tb):gF P w H h':=by
 intro b o e
 by_cases q:b=a
 ·subst q
  rw[ha] at e
  cases e
  exact Xt hx
 ·have kp:∀c u,c≠a→H c≠none→h.get? c=some u→h'.get? c=some u:=fun c u hca hcn e=>t.keep c u e (fun z=>hcn (hf c z)) fun z=>(hc c z).elim hca hcn
  refine(x b o e).sd (fun c u hcu e'=>?_) (fun _ z=>z) (fun _ _ z=>z)
  rcases hcu with rfl | hcu
  ·exact kp c u q (by rw[e];exact fun z=>nomatch z) e'
  ·refine kp c u (fun z=>?_) (by rw[hcu];exact fun z=>nomatch z) e'
   rw[z,ha] at hcu
   cases hcu
end L2
namespace L2
open PyProof.Rows PySem PySem.Spec
section
variable {X:Cx} {pins:List (Addr × Obj)} {σ:St} {H:Hp} {s:Shared} {a C:Addr} {d:Option Addr} {E:XK}
theorem Inv.Y5 (I:Inv X pins σ H s) {h':Heap} {ch:List Addr} (hex:X.ex=[]) (t:mr (nW X.stack) ch s.heap h') (hc:∀b∈ch,H b≠none∨X.s₀.heap.objs.size≤b):Un X.fs [] X.H₀ H X.s₀.heap h':=by
 have u:=I.base
 rw[hex] at u
 have nch:∀b o,X.s₀.heap.get? b=some o→X.H₀ b=none→b∉ch:=fun b o e n hb=>by
  rcases hc b hb with q | q
  ·exact q (u.free b o e n (by simp))
  ·exact absurd (Heap.lt_size e) (Nat.not_lt.mpr q)
 have nloc:∀b o,X.s₀.heap.get? b=some o→b≠X.env.locals:=fun b o e z=>absurd (Heap.lt_size e) (Nat.not_lt.mpr (by rw[z];exact I.ok.above))
 refine⟨fun b o e n hb _=>?_,fun b o e n hb _=>?_,u.free,fun b o e _=>?_,u.lW,u.ua,u.rK⟩
 ·refine t.keep b o (u.keep b o e n hb (by simp)) (fun z=>?_) (nch b o e n)
  rcases List.mem_cons.mp (I.cy b z) with q | q
  ·exact nloc b o e q
  ·exact hb q
 ·obtain⟨sl,e1⟩:=u.slot b o e n hb (by simp)
  by_cases q:b∈nW X.stack
  ·obtain⟨sl',e2⟩:=t.slot b _ e1 q (nch b o e n)
   exact⟨sl',e2⟩
  ·exact⟨sl,t.keep b _ e1 q (nch b o e n)⟩
 ·obtain⟨o',e1⟩:=u.there b o e (by simp)
  exact t.there b o' e1
theorem Inv.Kk {M:Model} {EE:Value→Shared→Prop} (I:Inv X pins σ H s) (hst:X.stack=X.env :: X.outer) (hf:X.env.frame=some X.env.locals) (hex:X.ex=[]) (ha:H a=some (xO a C d)) (hx:cC s.heap a C d .none) (hE:E (.ref C) (some a) H) :
  wpAny M X.A (leaving X.env (.ref a)) (fun _ s''=>nG X.prog X.w X.outer X.H₀ X.s₀ E (.ref a) s'') EE s:=by
 have hfr:=I.ok.frames
 have hst':=I.stack
 have hfree:=I.fM
 rw[hst] at hfr hst'
 refine tU hfr hst' hf hx fun h' T k1 k2 k3 k4 k5=>?_
 have hT:H T=none:=I.jg.fresh k1
 have hs:X.s₀.heap.objs.size≤T:=Nat.le_trans I.sz k1
 have k5':mr (nW X.stack) [a,T] s.heap h':=by rw[hst];exact k5
 refine⟨a,C,d,T,H,rfl,I.os,I.bare,I.Y5 hex k5' (fun b hb=>?_),i8 I.jg k5' hfree (fun b hb=>?_) ha k3,⟨k3,k4,k2,hs,hT,ha⟩,hE⟩
 ·simp only[List.mem_cons,List.not_mem_nil,or_false] at hb
  rcases hb with rfl | rfl
  ·exact .inl (by rw[ha];exact fun z=>nomatch z)
  ·exact .inr hs
 ·simp only[List.mem_cons,List.not_mem_nil,or_false] at hb
  rcases hb with rfl | rfl
  ·exact .inl rfl
  ·exact .inr hT
theorem Inv.ZI {M:Model} {EE:Value→Shared→Prop} {T0:Addr} {n:Nat} (I:Inv X pins σ H s) (hst:X.stack=X.env :: X.outer) (hf:X.env.frame=some X.env.locals) (hex:X.ex=[]) (F:WQ a C d n H s.heap T0) (hn:X.s₀.heap.objs.size≤n) (hE:E (.ref C) (some a) H) :
  wpAny M X.A (leaving X.env (.ref a)) (fun _ s''=>nG X.prog X.w X.outer X.H₀ X.s₀ E (.ref a) s'') EE s:=by
 have hfr:=I.ok.frames
 have hst':=I.stack
 have hfree:=I.fM
 rw[hst] at hfr hst'
 refine nU hfr hst' hf F.at' F.tr F.ne fun h' T k1 k2 k3 k4 k5=>?_
 have hT:H T=none:=I.jg.fresh k1
 have hs:X.s₀.heap.objs.size≤T:=Nat.le_trans I.sz k1
 have k5':mr (nW X.stack) [a,T0,T] s.heap h':=by rw[hst];exact k5
 refine⟨a,C,d,T,H,rfl,I.os,I.bare,I.Y5 hex k5' (fun b hb=>?_),i8 I.jg k5' hfree (fun b hb=>?_) F.is k3,⟨k3,k4,k2,hs,hT,F.is⟩,hE⟩
 ·simp only[List.mem_cons,List.not_mem_nil,or_false] at hb
  rcases hb with (rfl | rfl | rfl)
  ·exact .inl (by rw[F.is];exact fun z=>nomatch z)
  ·exact .inr (Nat.le_trans hn F.new)
  ·exact .inr hs
 ·simp only[List.mem_cons,List.not_mem_nil,or_false] at hb
  rcases hb with (rfl | rfl | rfl)
  ·exact .inl rfl
  ·exact .inr F.free
  ·exact .inr hT
theorem Inv.VS {e:Value} {s':Shared} (I:Inv X pins σ H s) (h:nG X.prog X.w X.stack H s E e s'):∃a C d T H',e=.ref a∧Inv X pins σ H' s'∧WQ a C d X.s₀.heap.objs.size H' s'.heap T∧E (.ref C) (some a) H':=by
 obtain⟨a,C,d,T,H',rfl,os,bare,un,jg,F,q⟩:=h
 refine⟨a,C,d,T,H',rfl,I.Qf os (ch:=[]) un jg bare (fun b z=>absurd z (by simp)),⟨F.at',F.tr,F.ne,Nat.le_trans I.sz F.new,F.free,F.is⟩,q⟩
end
end L2
namespace L2
open PyProof.Rows PySem PySem.Spec
section
variable {P:Program} {w:World} {K:PySem.W.Frag} {mg:Str→Option Value} {base:Heap}
theorem iN {N:List Str} {qual:Str} {scope:Scope} {f:Addr} {cd:Value} {A:Around} {outer:List Env} {s:Shared} {H:Hp} {E E':XK} (hE:∀c a H,E c a H→E' c a H):Passes (nG P w) (rO (nG P w) P w K mg base N qual scope f cd A outer s H E') E:=by
 intro pins σ H1 s1 e s' I h
 obtain⟨a,C,d,T,H',rfl,I',F,q⟩:=I.VS h
 exact I'.ZI rfl rfl rfl F (Nat.le_refl _) (hE _ _ _ q)
theorem JE.WZ {x qual:Str} {st:Stmt} {f:Addr} {fd:FuncData} {N ps:List Str} {k:Nat} {sp:Sp} (F:JE K x qual st f fd) (S:qe N ps (z4 st)) (len:∀vs H Q E,sp vs H Q E→vs.length=ps.length)
  (hbody:∀(cdv:Value) (A:Around) (outer:List Env) (s:Shared) (H:Hp) (vs:List V) (Q:VK) (E:XK),kH k (A.deeper (envOfC qual (z4 st) s.heap.objs.size f cdv))→sp vs H Q E→
   ∃t,eu (rO (nG P w) P w K mg base N qual (z4 st) f cdv A outer s H E) (z9 st) t∧t { nx:=fun _ H'=>Q .non H',rt:=Q } (start N vs) H):qi P w K mg base (nG P w) (k + 1) f fd ps sp:=by
 obtain⟨oc,od,kV,doc,pm,an,cdv,ct,osl,rfl,lk,hcd⟩:=F.ex
 exact Xc lk hcd S len fun A outer s H vs Q E hr hsp=>hbody cdv A outer s H vs Q E hr hsp
end
end L2
namespace L2
open PyProof.Rows PySem PySem.Spec
noncomputable def qF:List Value→Bool
 | .ref _ :: r=>qF r
 | l=>l == [.type "ValueError",.type "Exception",.type "BaseException",.type "object"]
theorem cS (self:Value):∀{l:List Value},qF l=true→refuseLoop self "__setattr__" l=pure ()
 | .ref c :: r,e=>by rw[refuseLoop_ref];exact cS self e
 | [],e=>by simp [qF] at e
 | .type n :: r,e=>by
  have:(Value.type n :: r)=[.type "ValueError",.type "Exception",.type "BaseException",.type "object"]:=by simpa [qF] using e
  rw[this];exact PySem.F.store_ValueError.passes self
 | .none :: r,e=>by simp [qF] at e
 | .bool _ :: r,e=>by simp [qF] at e
 | .int _ _ :: r,e=>by simp [qF] at e
 | .str _ _ :: r,e=>by simp [qF] at e
 | .builtin _ :: r,e=>by simp [qF] at e
 | .float _ _ :: r,e=>by simp [qF] at e
theorem iu:∀{l:List Value},qF l=true→l.contains (.type "object")=true∧l.isEmpty=false
 | .ref c :: r,e=>⟨by rw[List.contains_cons,(iu (l:=r) e).1,Bool.or_true],rfl⟩
 | [],e=>by simp [qF] at e
 | .type n :: r,e=>by
  have:(Value.type n :: r)=[.type "ValueError",.type "Exception",.type "BaseException",.type "object"]:=by simpa [qF] using e
  rw[this];exact⟨by decide,rfl⟩
 | .none :: r,e=>by simp [qF] at e
 | .bool _ :: r,e=>by simp [qF] at e
 | .int _ _ :: r,e=>by simp [qF] at e
 | .str _ _ :: r,e=>by simp [qF] at e
 | .builtin _ :: r,e=>by simp [qF] at e
 | .float _ _ :: r,e=>by simp [qF] at e
structure XD (K:PySem.W.Frag) (C:Addr):Prop where
 mro:(PySem.W.clsIn K C).any (fun cd=>qF cd.mro && cd.hasDict)=true
 sa:PySem.W.findIn K (.ref C) "__setattr__" = some (some (.builtin "object.__setattr__"))
section
variable {prog:Program} {w:World} {A:Around} {K:PySem.W.Frag} {C x:Addr} {s:Shared} {R:Result→Shared→Prop}
theorem sU {ox : Obj} {od : Option Obj} {name : Str} {tk : Tok} {v : Value} (X : K.In s.heap) (I : PySem.W.InstAt s.heap x ox C od) (hp : (PySem.W.clsIn K C).any (fun cd => qF cd.mro && cd.hasDict) = true) (ht : PySem.W.findIn K (.ref C) name = some none)
    (h : ∀ b, wpAny (model prog w) A.in1 (Builtin.ObjectAttr.storeInOwnDict (.ref x) (.ref C) (.str name tk) name v b) (fun f s' => f = .done (.ret .none) ∧ R (.ok (.ret .none)) s') (fun _ _ => False) s) : codeAny (model prog w) A (.call (.builtin "object.__setattr__") ⟨[.ref x, .str name tk, v], []⟩) R s := by
  obtain ⟨cd, hc, ho⟩ := PySem.W.any_some hp
  have ov := (Bool.and_eq_true_iff.mp ho).1
  obtain ⟨top, some'⟩ := iu ov
  have lists : PySem.W.Looks (model prog w) s.heap (mroOf (.ref C)) cd.mro := (PySem.W.looks_clsIn X hc).andThen .now
  have over : PySem.W.mroIn K C (.type "object") = some true := by
    unfold PySem.W.mroIn
    simp only [hc, Option.bind_some, some', top, Bool.false_eq_true, if_false]
  have St := PySem.F.store_object
  have is : PySem.W.Looks (model prog w) s.heap (isInstance (.ref x) (.type "object")) true := I.type.andThen (PySem.W.looks_mroIn X over)
  have fit := St.args (.ref x) (.str name tk) v
  refine codeAny_call_builtin St.slot.plain St.entry (PySem.W.check_slot (M := model prog w) (i := "object.__setattr__") (owner := "object") (n := "__setattr__") St.kind St.split is fit ?_)
  rw [PySem.W.osa_eq, refuse_eq]
  refine wpAny_bind (wpAny_bind (I.type.here (wpAny_bind (lists.here ((cS _ ov).symm ▸ wpAny_pure ?_)))))
  refine wpAny_bind (I.type.here (wpAny_bind ((PySem.W.looks_findIn X ht).here (wpAny_bind (wpAny_pure (wpAny_mono (h _) (fun f s' z => ?_) fun _ _ z => z.elim))))))
  obtain ⟨rfl, z⟩ := z
  exact z
theorem bare_ns {h : Heap} {a : Addr} (g : h.get? a = some { cls := .type "dict", data := .dict #[] }) : h.Ns1 a fun _ => none := Heap.Ns1.of_empty ⟨_, _, _, g, rfl, fun _ z => absurd z (Array.not_mem_empty _), fun _ => rfl⟩
theorem ns_line {h : Heap} {a : Addr} {m : Str → Option Value} {ns : List Str} (n : h.Ns1 a m) (hw : PySem.Within m ns) (lA : ns.length ≤ 1001) {Q : Unit → Shared → Prop} {E : Value → Shared → Prop} {g : Array GenState} {dr : Drawn} {t : Nat} {os : OsState} (q : Q () ⟨h, g, dr, t, os⟩) : wpAny (model prog w) A (lookBehind a) Q E ⟨h, g, dr, t, os⟩ := by
  obtain ⟨o, es, ep, ho, hd, hcnt⟩ := n.count hw
  exact wpAny_lookBehind ho (by rw [hd]; exact pastItsLine_dict (by rw [sizeLine_eq]; omega)) q
theorem nI {E : Value → Shared → Prop} {name : Str} {v : Value} {vs : Array Value} {sl : Array (Option Value)} {Q : Unit → Shared → Prop} (X : K.In s.heap) (c : XD K C) (hn : PySem.W.findIn K (.ref C) name = some none) (he : s.heap.get? x = some ⟨.ref C, none, .fields vs, sl⟩)
    (h : ∀ h' tk, h'.get? x = some ⟨.ref C, some s.heap.objs.size, .fields vs, sl⟩ → h'.Ns1 s.heap.objs.size (fun y => if y = name then some v else none) → (∀ b o, b ≠ x → s.heap.get? b = some o → h'.get? b = some o) → Q () { s with heap := h', toks := tk }) : wpAny (model prog w) A (setAttr (.ref x) name v) Q E s := by
  have I : PySem.W.InstAt s.heap x ⟨.ref C, none, .fields vs, sl⟩ C none := ⟨he, rfl, rfl, trivial⟩
  obtain ⟨cd, hc, ho⟩ := PySem.W.any_some c.mro
  have hd := (Bool.and_eq_true_iff.mp ho).2
  have far := Nat.ne_of_lt (Heap.lt_size he)
  have up : ∀ {b : Addr} {o : Obj}, s.heap.get? b = some o → (s.heap.push { cls := .type "dict", data := .dict #[] }).get? b = some o := fun q => Heap.get?_push_of_some _ q
  have clsd : PySem.W.Looks (model prog w) s.heap _ _ := PySem.W.looks_clsIn X hc
  refine PySem.W.set_plain X I c.sa (sU (s := { s with toks := s.toks + 1 }) X I c.mro hn fun b => ?_)
  refine wpAny_bind (wpAny_pure (wpAny_bind (wpAny_bind (wpAny_loadPart he (wpAny_bind (clsd.here (s := { s with toks := s.toks + 1 }) ?_))))))
  simp only [hd, Bool.not_true, Bool.false_eq_true, if_false, typeHasDict]
  refine wpAny_bind (wpAny_alloc (wpAny_bind (wpAny_update (up he) (wpAny_pure (a := some s.heap.objs.size) ?_))))
  refine wpAny_bind (wpAny_pure (wpAny_bind (?_ : wpAny _ _ (nsSet _ _ _) _ _ _)))
  refine wpAny_nsSet1 (bare_ns ((Heap.get?_update_other _ _ far).trans (Heap.get?_push_at rfl rfl))) fun h' n k => ?_
  refine wpAny_bind (ns_line n (PySem.Within.cons name v PySem.Within.nil) (Nat.succ_le_succ (Nat.zero_le 1000)) (wpAny_pure ⟨rfl, h h' _ ((k.2 x far).trans (Heap.get?_update_self _ (up he) rfl)) n fun b o nb q => ?_⟩))
  exact (k.2 b (Nat.ne_of_lt (Heap.lt_size q))).trans ((Heap.get?_update_other _ _ (Ne.symm nb)).trans (up q))
theorem eE {E : Value → Shared → Prop} {name : Str} {v : Value} {vs : Array Value} {sl : Array (Option Value)} {dx : Addr} {mA : Str → Option Value} {ns : List Str} {Q : Unit → Shared → Prop} (X : K.In s.heap) (c : XD K C) (hn : PySem.W.findIn K (.ref C) name = some none) (he : s.heap.get? x = some ⟨.ref C, some dx, .fields vs, sl⟩)
    (hd : s.heap.Ns1 dx mA) (hw : PySem.Within mA ns) (hsz : ns.length ≤ 1000) (h : ∀ h' tk, h'.Ns1 dx (fun y => if y = name then some v else mA y) → Heap.SameBut dx s.heap h' → Q () { s with heap := h', toks := tk }) : wpAny (model prog w) A (setAttr (.ref x) name v) Q E s := by
  obtain ⟨od, gd, _⟩ := uU hd
  have I : PySem.W.InstAt s.heap x ⟨.ref C, some dx, .fields vs, sl⟩ C (some od) := ⟨he, rfl, rfl, gd⟩
  obtain ⟨cd, hc, ho⟩ := PySem.W.any_some c.mro
  have hasd := (Bool.and_eq_true_iff.mp ho).2
  have clsd : PySem.W.Looks (model prog w) s.heap _ _ := PySem.W.looks_clsIn X hc
  refine PySem.W.set_plain X I c.sa (sU (s := { s with toks := s.toks + 1 }) X I c.mro hn fun b => ?_)
  refine wpAny_bind (wpAny_pure (wpAny_bind (wpAny_bind (wpAny_loadPart he (wpAny_bind (clsd.here (s := { s with toks := s.toks + 1 }) ?_))))))
  rw [hasd]
  refine wpAny_pure (a := some dx) (wpAny_bind (wpAny_pure (wpAny_bind (wpAny_nsSet1 (s := { s with toks := s.toks + 1 }) hd fun h' n k => ?_))))
  exact wpAny_bind (ns_line n (PySem.Within.cons name v hw) (Nat.succ_le_succ hsz) (wpAny_pure ⟨rfl, h h' _ n k⟩))
end
end L2
namespace L2
open PyProof.Rows PySem PySem.Spec
section
end
end L2
namespace L2
open PyProof.Rows PySem PySem.Spec
noncomputable def xN (e C:Addr) (d:Option Addr):HO:=.ext fun h=>cC h e C d .none
noncomputable def xD (dx:Addr) (fs:List (Str × V)):HO:=.ext fun h=>∃mA,h.Ns1 dx mA∧(∀f,yB (fs.lookup f) (mA f))∧PySem.Within mA (fs.map (·.1))
theorem Xd {P:Program} {w:World} {H:Hp} {h:Heap} {e C:Addr} {d:Option Addr} (x:cC h e C d .none):jO P w H h e (xN e C d):=by
 obtain⟨vs,sl,he,r⟩:=x
 refine⟨⟨vs,sl,he,r⟩,⟨_,he⟩,fun h1 h2 ⟨vs',sl',he',r'⟩ k=>⟨vs',sl',k _ he',r'⟩⟩
theorem Z2 {P:Program} {w:World} {H:Hp} {h:Heap} {e C:Addr} {d:Option Addr} (x:gF P w H h) (q:H e=some (xN e C d)):cC h e C d .none:=(x e _ q).1
theorem XC {P:Program} {w:World} {H:Hp} {h:Heap} {dx:Addr} {fs:List (Str × V)} {mA:Str→Option Value} (n:h.Ns1 dx mA) (r:∀f,yB (fs.lookup f) (mA f)) (wi:PySem.Within mA (fs.map (·.1))):jO P w H h dx (xD dx fs):=by
 have n':=n
 obtain⟨o,es,ep,ho,_⟩:=n'
 refine⟨⟨mA,n,r,wi⟩,⟨o,ho⟩,fun h1 h2 ⟨mA',⟨o',es',ep',ho',q⟩,r'⟩ k=>⟨mA',⟨o',es',ep',k _ ho',q⟩,r'⟩⟩
theorem VI {P:Program} {w:World} {H:Hp} {h:Heap} {dx:Addr} {fs:List (Str × V)} (x:gF P w H h) (q:H dx=some (xD dx fs)):∃mA,h.Ns1 dx mA∧(∀f,yB (fs.lookup f) (mA f))∧PySem.Within mA (fs.map (·.1)):=(x dx _ q).1
section
variable {X:Cx} {pins:List (Addr × Obj)} {σ:St} {H:Hp} {s:Shared} {a C dx:Addr} {f:Str} {y:V} {u:Value} {o value:Expr} {ta tv:TE} {pos pos':Pos}
theorem nv {fs:List (Str × V)} {mA:Str→Option Value} (r:∀g,yB (fs.lookup g) (mA g)) (ry:RelV y u) (f:Str):∀g,yB ((qY f y fs).lookup g) ((fun z=>if z=f then some u else mA z) g):=fun g=>by
 rw[bq]
 by_cases q:g=f
 ·simp only[q,if_true];exact ry
 ·simp only[q,if_false];exact r g
theorem cm {fs:List (Str × V)} {mA:Str→Option Value} (wi:PySem.Within mA (fs.map (·.1))) (f:Str):PySem.Within (fun z=>if z=f then some u else mA z) ((qY f y fs).map (·.1)):=fun g hg=>by
 by_cases q:g=f
 ·rw[q];exact(yC f y fs).1
 ·refine(yC f y fs).2 g (wi g fun z=>hg ?_)
  show (if g=f then some u else mA g)=none
  rw[if_neg q];exact z
theorem ZD {A:Around} {E:Value→Shared→Prop} {Q:Unit→Shared→Prop} (I:Inv X pins σ H s) (e:H a=some (xN a C none)) (c:XD X.K C) (n:qQ X.K C f) (ry:RelV y u)
  (h:∀dx s',H dx=none→dx≠a→Inv X pins σ (upd (upd H dx (xD dx [(f,y)])) a (xN a C (some dx))) s'→Q () s'):wpAny (model X.prog X.w) A (setAttr (.ref a) f u) Q E s:=by
 obtain⟨vs,sl,he,hsz,h1,h2⟩:=Z2 I.jg e
 refine nI I.gP c n he fun h' tk k1 k2 k3=>h s.heap.objs.size _ (I.jg.fresh (Nat.le_refl _)) (Nat.ne_of_gt (Heap.lt_size he)) ?_
 have hax:a≠s.heap.objs.size:=Nat.ne_of_lt (Heap.lt_size he)
 have k2':=k2
 obtain⟨od,es,ep,ho,hd,hr⟩:=k2'
 have nf:od.isFreed=false:=(Heap.get?_some_iff.mp ho).2
 have g1:(s.heap.push od).get? s.heap.objs.size=some od:=Heap.get?_push_size _ nf
 have n1:(s.heap.push od).Ns1 s.heap.objs.size (fun z=>if z=f then some u else none):=⟨od,es,ep,g1,hd,hr⟩
 have r0:∀g,yB (List.lookup g ([(f,y)]:List (Str × V))) ((fun z=>if z=f then some u else none) g):=nv (fs:=[]) (mA:=fun _=>none) (fun _=>True.intro) ry f
 have w0:PySem.Within (fun z=>if z=f then some u else none) (([(f,y)]:List (Str × V)).map (·.1)):=cm (fs:=[]) (mA:=fun _=>none) (y:=y) (fun g hg=>absurd rfl hg) f
 have I1:=I.laid (a:=s.heap.objs.size) (o:=xD s.heap.objs.size [(f,y)]) (h':=s.heap.push od) (t':=s.toks) (fun b q z=>Heap.get?_push_of_some _ z) (Nat.le_refl _) (XC n1 r0 w0)
 refine I1.write (x:=a) (e:=a) (h':=h') (t':=tk) (by rw[qW hax,e];exact True.intro) (.inl rfl) (fun b q hb z=>?_) ⟨_,k1⟩ (Xd ⟨vs,sl,k1,hsz,h1,h2⟩)
 by_cases qb:b=s.heap.objs.size
 ·subst qb
  rw[show (s.heap.push od).get? s.heap.objs.size=some od from g1] at z
  cases z
  exact ho
 ·refine k3 b q hb ?_
  rwa [Heap.get?_push_ne _ _ _ qb] at z
theorem Z6 {A:Around} {E:Value→Shared→Prop} {Q:Unit→Shared→Prop} {fs:List (Str × V)} (I:Inv X pins σ H s) (e:H a=some (xN a C (some dx))) (ed:H dx=some (xD dx fs)) (c:XD X.K C) (n:qQ X.K C f) (hl:fs.length≤900) (ry:RelV y u)
  (h:∀s',Inv X pins σ (upd H dx (xD dx (qY f y fs))) s'→Q () s'):wpAny (model X.prog X.w) A (setAttr (.ref a) f u) Q E s:=by
 obtain⟨vs,sl,he,hsz,h1,h2⟩:=Z2 I.jg e
 obtain⟨mA,n1,r1,w1⟩:=VI I.jg ed
 refine eE I.gP c n he n1 w1 (by rw[List.length_map];omega) fun h' tk k1 k2=>h _ ?_
 have hd:∃o,h'.get? dx=some o:=let ⟨o,_,_,e',_⟩:=k1;⟨o,e'⟩
 exact I.write (x:=dx) (e:=dx) (by rw[ed];exact True.intro) (.inl rfl) (fun b q hb z=>(k2.2 b hb).trans z) hd (XC k1 (nv r1 ry f) (cm w1 f))
noncomputable def GZ (K:PySem.W.Frag) (ta tv:TE) (f:Str):TS:=fun D σ H=>tv σ H fun y H1=>ta σ H1 fun x H2=>∃a C,x=.ref a∧XD K C∧qQ K C f∧
 ((H2 a=some (xN a C none)∧∀dx,H2 dx=none→dx≠a→D.nx σ (upd (upd H2 dx (xD dx [(f,y)])) a (xN a C (some dx))))∨
  (∃dx fs,H2 a=some (xN a C (some dx))∧H2 dx=some (xD dx fs)∧fs.length≤900∧D.nx σ (upd H2 dx (xD dx (qY f y fs)))))
theorem JV (ha:PE X o ta) (hv:PE X value tv) (hs:swapsWith value (some (.Attribute o f pos')) pos.line X.env=pure false):PS X (.Assign [.Attribute o f pos'] value pos) (GZ X.K ta tv f):=by
 intro pins s σ H D I h
 refine plainObj_wpAny_Assign_Attribute (j5 (hv pins s σ H _ I h) fun u s1 ⟨y,H1,I1,ry,q⟩=>j5 (ha pins s1 σ H1 _ I1 q) fun ov s2 ⟨x,H2,I2,rx,a,C,ex,c,n,q2⟩=>?_) hs
 subst ex
 obtain rfl:ov=Value.ref a:=rx
 rcases q2 with ⟨e1,k⟩ | ⟨dx,fs,e1,e2,hl,k⟩
 ·exact ZD I2 e1 c n ry fun dx s3 hn hne I3=>⟨σ,_,I3,k dx hn hne⟩
 ·exact Z6 I2 e1 e2 c n hl ry fun s3 I3=>⟨σ,_,I3,k⟩
theorem cL:∀{l:List Value},qF l=true→l.contains (.type "ValueError")=true∧l.contains (.type "BaseException")=true∧l.contains (.type "AttributeError")=false∧l.contains (.type "NameError")=false
 | .ref c :: r,e=>by
  obtain⟨a,b,c,d⟩:=cL (l:=r) e
  exact⟨by rw[List.contains_cons,a,Bool.or_true],by rw[List.contains_cons,b,Bool.or_true],by rw[List.contains_cons,c];rfl,by rw[List.contains_cons,d];rfl⟩
 | [],e=>by simp [qF] at e
 | .type n :: r,e=>by
  have:(Value.type n :: r)=[.type "ValueError",.type "Exception",.type "BaseException",.type "object"]:=by simpa [qF] using e
  rw[this];decide
 | .none :: r,e=>by simp [qF] at e
 | .bool _ :: r,e=>by simp [qF] at e
 | .int _ _ :: r,e=>by simp [qF] at e
 | .str _ _ :: r,e=>by simp [qF] at e
 | .builtin _ :: r,e=>by simp [qF] at e
 | .float _ _ :: r,e=>by simp [qF] at e
noncomputable def bj (K:PySem.W.Frag) (C:Addr):Bool:=match K.lookup C with
 | some ⟨c,_,.cls cd,sl⟩=>c == .type "type" && cd.mro.head? == some (.ref C) && qF cd.mro && !cd.hasDel && sl.size == 6 && sl[4]? == some (some (.builtin "ValueError.__new__"))
 | _=>false
theorem Qb {K : PySem.W.Frag} {h : Heap} (x : K.In h) (e : bj K C = true) : ∃ n1 n2 N l1 bm b1 l2 l3 b2 c1 d1 v0 v1 v2 v3 v5, h.get? C = some (excClassObj n1 n2 C N l1 bm b1 l2 l3 b2 c1 d1 v0 v1 v2 v3 v5 "ValueError.__new__") ∧ qF (.ref C :: bm) = true := by
  unfold bj at e
  split at e
  · rename_i c dd cd sl hk
    simp only [Bool.and_eq_true, beq_iff_eq, Bool.not_eq_true'] at e
    obtain ⟨⟨⟨⟨⟨rfl, hm⟩, hv⟩, hdel⟩, hsz⟩, h4⟩ := e
    rcases cd with ⟨n1, l1, mro, N, n2, b1, l2, l3, b2, c1, del⟩
    cases hdel
    cases mro with
    | nil => cases hm
    | cons m bm =>
      cases hm
      obtain ⟨v0, v1, v2, v3, v5, hl⟩ := six_places (l := sl.toList) (v := some (.builtin "ValueError.__new__")) (by simpa using hsz) (by simpa using h4)
      cases sl
      cases hl
      exact ⟨n1, n2, N, l1, bm, b1, l2, l3, b2, c1, dd, v0, v1, v2, v3, v5, x _ _ hk, hv⟩
  · cases e
noncomputable def VG (C:Addr) (o:Obj):Bool:=match o with
 | ⟨c,_,.cls cd,sl⟩=>c == .type "type" && cd.mro.head? == some (.ref C) && qF cd.mro && !cd.hasDel && sl.size == 6 && sl[4]? == some (some (.builtin "ValueError.__new__")) && cd.hasDict
 | _=>false
theorem K2 {K:PySem.W.Frag} {o:Obj} (l:K.lookup C=some o) (h:VG C o=true):bj K C=true:=by
 unfold VG at h
 split at h
 ·unfold bj
  rw[l]
  exact(Bool.and_eq_true_iff.mp h).1
 ·cases h
theorem JN {K:PySem.W.Frag} {o:Obj} (l:K.lookup C=some o) (h:VG C o=true):(PySem.W.clsIn K C).any (fun cd=>qF cd.mro && cd.hasDict)=true:=by
 unfold VG at h
 split at h
 ·rename_i c d cd sl
  unfold PySem.W.clsIn
  rw[l]
  simp only[Bool.and_eq_true] at h;simp [h.1.1.1.1.2,h.2]
 ·cases h
section
open PySem.W
variable {w : World} {A : Around} {E : Value → Shared → Prop} {h : Heap} {g : Array GenState} {dr : Drawn} {t : Nat} {os : OsState} {prog : Program} {M : Model} {C : Addr}
/-- what a class of exceptions of ours, made by ValueError, answers to the asking for it -/
structure Xcl (M : Model) (h : Heap) (C : Addr) : Prop where
  obj : ∃ n1 n2 N l1 bm b1 l2 l3 b2 c1 d1 v0 v1 v2 v3 v5, h.get? C = some (excClassObj n1 n2 C N l1 bm b1 l2 l3 b2 c1 d1 v0 v1 v2 v3 v5 "ValueError.__new__")
  made : Looks M h (Bind.madeBy (.ref C)) (some "ValueError.__new__")
  base : Looks M h (Bind.staticBase (.ref C)) (.ref C)
  here : Looks M h (Bind.madeHere "BaseException.__new__" (.ref C)) ()
  val : Looks M h (isSubtype (.ref C) (.type "ValueError")) true
  exc : Looks M h (isSubtype (.ref C) (.type "BaseException")) true
  att : Looks M h (isSubtype (.ref C) (.type "AttributeError")) false
  nam : Looks M h (isSubtype (.ref C) (.type "NameError")) false
  self : Looks M h (isSubtype (.ref C) (.ref C)) true
theorem xcl_looks {K : Frag} (X : K.In h) (e : bj K C = true) : Xcl M h C := by
  obtain ⟨n1, n2, N, l1, bm, b1, l2, l3, b2, c1, d1, v0, v1, v2, v3, v5, hC, hv⟩ := Qb X e
  obtain ⟨a1, a2, a3, a4⟩ := cL hv
  have on : ∀ b r, (Value.ref C :: bm).contains b = r → Looks M h (isSubtype (.ref C) b) r := fun b r er A Q E s k q => wpAny_isSubtype_exc (k _ _ hC) (er ▸ q)
  exact ⟨⟨n1, n2, N, l1, bm, b1, l2, l3, b2, c1, d1, v0, v1, v2, v3, v5, hC⟩, fun A Q E s k q => wpAny_madeBy_exc (k _ _ hC) q, fun A Q E s k q => wpAny_staticBase_exc (k _ _ hC) q, fun A Q E s k q => wpAny_madeHere_exc PySem.F.excBase_ValueError.canon (k _ _ hC) q, on _ _ a1, on _ _ a2, on _ _ a3, on _ _ a4, on _ _ (by simp)⟩
theorem Xcl.keeps {h' : Heap} (x : Xcl M h C) (k : ∀ b o, h.get? b = some o → h'.get? b = some o) : Xcl M h' C := by
  obtain ⟨n1, n2, N, l1, bm, b1, l2, l3, b2, c1, d1, v0, v1, v2, v3, v5, hC⟩ := x.obj
  exact ⟨⟨n1, n2, N, l1, bm, b1, l2, l3, b2, c1, d1, v0, v1, v2, v3, v5, k _ _ hC⟩, x.made.keeps k, x.base.keeps k, x.here.keeps k, x.val.keeps k, x.exc.keeps k, x.att.keeps k, x.nam.keeps k, x.self.keeps k⟩
theorem Xcl.new_may (x : Xcl M h C) {rest : List Value} {Q : Unit → Shared → Prop} (q : Q () ⟨h, g, dr, t, os⟩) : wpAny M A (checkBuiltinCall "ValueError.__new__" ⟨.ref C :: rest, []⟩) Q E ⟨h, g, dr, t, os⟩ := by
  have F := PySem.F.excBase_ValueError
  have star := F.noStar
  obtain ⟨x1, x2, x3⟩ : _ ∧ _ ∧ _ := ⟨x.made, x.base, x.val⟩
  obtain ⟨_, _, _, _, _, _, _, _, _, _, _, _, _, _, _, _, hC⟩ := x.obj
  simp only [checkBuiltinCall, F.newKind, F.newSplit, F.newRow]
  repeat first | with_reducible refine wpAny_loadPart_at hC ?_ | simp only [bne_self_eq_false, Bool.false_eq_true, if_false, Bool.not_true] | with_reducible refine Looks.here (by assumption) ?_ | wp_step
  exact q
/-- the two things that are made: its args, and it -/
abbrev argsObj (rest : List Value) : Obj := { cls := .type "tuple", data := .seq rest.toArray }
abbrev excObj (C T : Addr) : Obj := { cls := .ref C, data := .fields #[.ref T, .none, .none, .none, .bool false, .none] }
theorem Xcl.new {R : Result → Shared → Prop} (x : Xcl (model prog w) h C) {rest : List Value} (lA : rest.length ≤ sizeLine)
    (q : R (.ok (.ret (.ref (h.objs.size + 1)))) ⟨(h.push (argsObj rest)).push (excObj C h.objs.size), g, dr, t, os⟩) : codeAny (model prog w) A (.builtin "ValueError.__new__" ⟨.ref C :: rest, []⟩) R ⟨h, g, dr, t, os⟩ := by
  have F := PySem.F.excBase_ValueError
  have ends := F.ends
  obtain ⟨_, _, _, _, _, _, _, _, _, _, _, _, _, _, _, _, hC⟩ := x.obj
  obtain ⟨x1, x2, x3, x4⟩ : _ ∧ _ ∧ _ ∧ _ := ⟨x.here, x.att, x.nam, x.val⟩
  refine codeAny_builtinAt F.entry ?_
  unfold Builtin.«BaseException.__new__»
  refine PySem.wpAt_bind (?_ : PySem.wpAt _ _ _ (stack >>= _) _ _ _)
  refine PySem.wpAt_bind (PySem.wpAt_stack fun p below => PySem.wpAt_of_wpAny ?_)
  wp_walk
  refine PySem.wpAt_of_wpAny (F.owner.symm ▸ ?_)
  repeat first | with_reducible refine wpAny_loadPart_at hC ?_ | with_reducible refine Looks.here (by assumption) ?_ | wp_step
  rw [← Heap.size_push] at q
  exact q
/-- C(rest): a new exception, and its own __init__ -/
theorem Xcl.make (x : Xcl (model prog w) h C) {rest : List Value} {init : Value} {Q : Value → Shared → Prop} (lA : rest.length ≤ sizeLine) (hi : Looks (model prog w) h (typeLookup (.ref C) "__init__") (some init)) (hb : ∀ v, Looks (model prog w) h (bindSpecial init v) (init, [v]))
    (go : wpAny (model prog w) (A.under (.builtin "type.__call__" ⟨.ref C :: rest, []⟩)) (call init (.ref (h.objs.size + 1) :: rest)) (fun r s' => r = .none ∧ Q (.ref (h.objs.size + 1)) s') E ⟨(h.push (argsObj rest)).push (excObj C h.objs.size), g, dr, t, os⟩) :
    wpAny (model prog w) A (call (.ref C) rest) Q E ⟨h, g, dr, t, os⟩ := by
  have F := PySem.F.excBase_ValueError
  obtain ⟨_, _, _, _, _, _, _, _, _, _, _, _, _, _, _, _, hC⟩ := x.obj
  have ty : Shared.TypeIs ⟨h, g, dr, t, os⟩ (.ref C) "type" := ⟨_, hC, rfl⟩
  obtain ⟨c1, c2⟩ : _ ∧ _ := ⟨tc_lookup, tc_bind (.ref C)⟩
  refine wpAny_call (codeAny_of_tree (?_ : wpAny _ _ (callAny (.ref C) _) _ _ _))
  repeat any_goals first | assumption | with_reducible refine wpAny_loadPart_at hC ?_ | wp_step
  refine ⟨rfl, codeAny_call_builtin_at (Code.quiet_builtin _ (by decide +kernel)) entry_typeCall (wpAny_check_type_call_sub hC ?_)⟩
  have made := x.made
  repeat first | with_reducible refine wpAny_loadPart_at hC ?_ | with_reducible refine Looks.here made ?_ | wp_step
  refine codeAny_call_builtin_code (Code.quiet_builtin _ F.quiet) (x.new_may (x.new lA (?_ : wpAny _ _ _ _ _ ⟨(h.push (argsObj rest)).push (excObj C h.objs.size), g, dr, t, os⟩)))
  have up : ∀ b o, h.get? b = some o → ((h.push (argsObj rest)).push (excObj C h.objs.size)).get? b = some o := fun b o e => Heap.get?_push_of_some _ (Heap.get?_push_of_some _ e)
  have new : ((h.push (argsObj rest)).push (excObj C h.objs.size)).get? (h.objs.size + 1) = some (excObj C h.objs.size) := Heap.get?_push_at (Heap.size_push ..).symm rfl
  obtain ⟨y1, y2, y3⟩ : _ ∧ _ ∧ _ := ⟨x.self.keeps up, hi.keeps up, (hb (.ref (h.objs.size + 1))).keeps up⟩
  generalize (h.push (argsObj rest)).push (excObj C h.objs.size) = h2 at go new y1 y2 y3
  unfold isInstance
  repeat first | with_reducible refine wpAny_loadPart_at new ?_ | with_reducible refine Looks.here y1 ?_ | wp_step
  refine (?_ : wpAny _ _ (typeLookup (.ref C) _) _ _ _)
  refine y2.here ?_
  refine wpAny_holding (wpAny_bind ?_)
  refine y3.here ?_
  refine wpAny_bind (j5 go fun r s' z => ?_)
  obtain ⟨rfl, z⟩ := z
  wp_walk
  exact z
theorem born (h : Heap) (C : Addr) (rest : List Value) : Heap.MadeExcOf h ((h.push (argsObj rest)).push (excObj C h.objs.size)) (h.objs.size + 1) (.ref C) rest where
  keeps := fun b o e => Heap.get?_push_of_some _ (Heap.get?_push_of_some _ e)
  new := Heap.get?_none_of_le (Nat.le_succ _)
  there := ⟨h.objs.size, Heap.get?_push_at (Heap.size_push ..).symm rfl, Heap.get?_none_of_le (Nat.le_refl _), Heap.get?_push_of_some _ (Heap.get?_push_at rfl rfl)⟩
/-- the __init__ that every ValueError has, of no args: its args are told anew -/
theorem bare_init {e T : Addr} {Q : Value → Shared → Prop} (x : Xcl (model prog w) h C) (ge : h.get? e = some (excObj C T)) (q : Q .none ⟨(h.push (argsObj [])).update e (Obj.mapFields (·.setIfInBounds 0 (.ref h.objs.size))), g, dr, t, os⟩) :
    wpAny (model prog w) A (call (.builtin "ValueError.__init__") [.ref e]) Q E ⟨h, g, dr, t, os⟩ := by
  have F := PySem.F.excBase_ValueError
  have is : Looks (model prog w) h (isInstance (.ref e) (.type "ValueError")) true := ((Looks.ld ge).andThen .now).andThen x.val
  have star := F.noStar
  have may : ∀ {Q1 : Unit → Shared → Prop} {E1 : Value → Shared → Prop} {A1 : Around}, Q1 () ⟨h, g, dr, t, os⟩ → wpAny (model prog w) A1 (checkBuiltinCall "ValueError.__init__" ⟨[.ref e], []⟩) Q1 E1 ⟨h, g, dr, t, os⟩ := fun q1 => by
    obtain ⟨_, _, _, _, _, _, _, _, _, _, _, _, _, _, _, _, hC⟩ := x.obj
    have val := x.val
    simp only [checkBuiltinCall, F.initKind, F.initSplit, F.initRow]
    repeat first | with_reducible refine Looks.here is ?_ | with_reducible refine wpAny_loadPart_at ge ?_ | with_reducible refine wpAny_loadPart_at hC ?_ | wp_step
    exact q1
  refine wpAny_call (codeAny_call_builtin F.init.plain F.initEntry (may ?_))
  repeat first | with_reducible refine wpAny_loadPart_at ge ?_ | wp_step

  exact q
end
structure Ye (K:PySem.W.Frag) (C f:Addr):Prop where
 xc:bj K C=true
 init:PySem.W.findIn K (.ref C) "__init__" = some (some (.ref f))
 fn:PySem.W.isFn K (.ref f)=true
 kp:PySem.W.keepIn K (.ref C)=true
section
variable {CX:uh} {k:Nat} {fI:Addr} {fd:FuncData} {ps:List Str} {sp:Sp} {dvs vs:List V} {ds us:List Value} {E:XK} {Q:VK} {x:Str} {p:Pos} {e:Expr} {es:List Expr} {t:TA}
theorem Xk {h h':Heap} {e:Addr} {args:List Value} (m:Heap.MadeExcOf h h' e (.ref C) args):cC h' e C none .none:=by
 obtain⟨t,he,_⟩:=m.there
 exact⟨_,_,he,rfl,rfl,rfl⟩
theorem eM (M : Ye X.K C fI) (F : qi X.prog X.w X.K X.mg X.base CX k fI fd ps sp) (hr : kH (k + 1) X.A) (hb : Binds X.K fd ps ds) (hd : Vals dvs ds) (hx : Passes CX X E) (I : Inv X pins σ H s) (r : Vals vs us) (hz : vs.length ≤ sizeLine)
    (h : ∀ a, H a = none → sp (.ref a :: (vs ++ dvs)) (upd H a (xN a C none)) (fun v H2 => v = .non ∧ Q (.ref a) H2) E) : wpAny (model X.prog X.w) X.A (call (.ref C) us) (EP X pins σ Q) X.xe s := by
  have Zi := I.gP
  rcases s with ⟨hp, g, d, tk, os⟩
  refine (xcl_looks Zi M.xc).make (by rw [← r.length]; exact hz) (PySem.W.looks_findIn Zi M.init) (fun v => PySem.W.bind_fn Zi v (beq_iff_eq.mp M.fn)) ?_
  have hm := born hp C us
  have hn : hp.objs.size ≤ hp.objs.size + 1 := Nat.le_succ _
  generalize (hp.push (argsObj us)).push (excObj C hp.objs.size) = h', hp.objs.size + 1 = e at hm hn
  have hq := h e (I.jg.fresh hn)
  have I2 : Inv X pins σ (upd H e (xN e C none)) ⟨h', g, d, tk, os⟩ := I.laid (a := e) (o := xN e C none) (h' := h') (t' := tk) hm.keeps hn (Xd (Xk hm))
  have r2 : Vals (V.ref e :: (vs ++ dvs)) (Value.ref e :: (us ++ ds)) := .cons rfl (r.append hd)
  have hl : (Value.ref e :: us ++ ds).length = ps.length := by
    have e' := r2.length
    rw [F.len _ _ _ _ hq] at e'
    exact e'.symm
  refine wpAny_call (codeAny_mono (F.run _ X.stack _ _ ⟨Value.ref e :: us, []⟩ (Value.ref e :: (us ++ ds)) _ _ E (hr.make C us []) (I2.Vz.make C us []) (hb _ (Value.ref e :: us) I2.gP hl) r2 hq) fun r s' hq' => ?_)
  cases r with
  | error e' => exact hx pins σ _ _ e' s' I2 hq'
  | ok fl =>
    cases fl with
    | ret u =>
      obtain ⟨v, H', I3, rv, ev, q3⟩ := I2.after hq'
      subst ev
      exact ⟨rv, ⟨V.ref e, H', I3, rfl, q3⟩⟩
    | next => exact False.elim hq'
    | brk => exact False.elim hq'
    | cont => exact False.elim hq'
noncomputable def XA (C:Addr) (sp:Sp) (dvs:List V) (E:XK) (t:TA):TE:=fun σ H Q=>t σ H fun vs H1=>vs.length≤sizeLine∧∀a,H1 a=none→sp (.ref a :: (vs ++ dvs)) (upd H1 a (xN a C none)) (fun v H2=>v=.non∧Q (.ref a) H2) E
theorem yM {pos:Pos} (M:Ye X.K C fI) (F:qi X.prog X.w X.K X.mg X.base CX k fI fd ps sp) (hr:kH (k + 1) X.A) (hg:Gl X x) (hm:X.mg x=some (.ref C)) (hb:Binds X.K fd ps ds) (hd:Vals dvs ds) (hx:Passes CX X E)
  (ha:PA X (e :: es) t) (hdb:(x == ("__debug__" : Str))=false:=by decide) (he:starEach (e :: es) X.env=(false,eval e X.env) :: starEach es X.env:=by rfl) (hpl:(backTo pos (starEach es X.env)).any (·.1)=false:=by rfl) :
  PE X (.Call (.Name x p) (e :: es) [] pos) (XA C sp dvs E t):=by
 intro pins s σ H Q I h
 refine wpAny_Call_Name_kw (bU I hg hm ?_ hdb)
 refine PySem.W.callWith_K (h₀:=X.base) I.ok.mod.Zi M.kp (j5 (ha pos pins s σ H _ I h) fun us s1 ⟨vs,H1,I1,r,hz,q⟩=>⟨I1.gP,?_⟩) he hpl
 exact eM M F hr hb hd hx I1 r hz q
structure GY (K:PySem.W.Frag) (C:Addr):Prop where
 xc:bj K C=true
 init:PySem.W.findIn K (.ref C) "__init__" = some (some (.builtin "ValueError.__init__"))
 kp:PySem.W.keepIn K (.ref C)=true
noncomputable def Ws (C:Addr):TE:=fun _ H Q=>∀a,H a=none→Q (.ref a) (upd H a (xN a C none))
end
end
end L2
namespace L2
open PyProof.Rows PySem PySem.Spec
section
variable {X:Cx} {pins:List (Addr × Obj)} {σ:St} {H:Hp} {s:Shared} {a C:Addr} {d:Option Addr} {e:Expr} {te:TE} {pos:Pos} {E:XK}
theorem J8 {K : PySem.W.Frag} {M : Model} {A : Around} {EE : Value → Shared → Prop} {env : Env} {x : Sem Value} {Q : Flow → Shared → Prop} (hh : A.handled = none)
    (h : wpAny M A x (fun v s1 => ∃ e C d, v = .ref e ∧ K.In s1.heap ∧ bj K C = true ∧ cC s1.heap e C d .none ∧ EE (.ref e) s1) EE s) : wpAny M A (raiseStmt env (some x) none) Q EE s := by
  unfold raiseStmt
  refine wpAny_bind (wpAny_mono h (fun v s1 h1 => ?_) fun _ _ z => z)
  obtain ⟨e, C, d, rfl, Zi, hk, ⟨vs, sl, he, hsz, h1, h2⟩, hE⟩ := h1
  have x := (xcl_looks (M := M) Zi hk).exc
  obtain ⟨_, _, _, _, _, _, _, _, _, _, _, _, _, _, _, _, hC⟩ := (xcl_looks (M := M) Zi hk).obj
  rcases s1 with ⟨hp, g, dr, tk, os⟩
  (repeat first | with_reducible refine wpAny_loadPart_at he ?_ | with_reducible refine wpAny_loadPart_at hC ?_ | with_reducible refine PySem.W.Looks.here x ?_ | wp_step); rw [h1]
  refine wpAny_pure ?_
  rw [if_neg (by decide)]
  exact wpAny_pure (wpAny_raiseNew_none hh hE)
noncomputable def Raises (X:Cx) (E:XK):Prop:=∀(pins:List (Addr × Obj)) (σ:St) (H:Hp) (s:Shared) (a C:Addr) (d:Option Addr),Inv X pins σ H s→H a=some (xO a C d)→cC s.heap a C d .none→E (.ref C) (some a) H→X.xe (.ref a) s
theorem bE {P:Program} {w:World} {K:PySem.W.Frag} {mg:Str→Option Value} {base:Heap} {N:List Str} {qual:Str} {scope:Scope} {f:Addr} {cd:Value} {A:Around} {outer:List Env} {s:Shared} {H:Hp} {E:XK}:Raises (rO (nG P w) P w K mg base N qual scope f cd A outer s H E) E:=
 fun _ _ _ _ _ _ _ I ha hx hE=>I.Kk rfl rfl rfl ha hx hE
noncomputable def Kc (K:PySem.W.Frag) (E:XK) (te:TE):TS:=fun _ σ H=>te σ H fun v H1=>∃a C d,v=.ref a∧bj K C=true∧H1 a=some (xN a C d)∧E (.ref C) (some a) (upd H1 a (xO a C d))
theorem yS (hX:Raises X E) (hc:X.calm=true) (he:PE X e te):PS X (.Raise (some e) none pos) (Kc X.K E te):=by
 intro pins s σ H D I h
 rw[arm_exec_Raise]
 refine wpAny_bind (wpAny_standAt (J8 (K:=X.K) (I.ok.hd hc) ?_))
 refine wpAny_bind (j5 (he pins s σ H _ I h) fun u s1 ⟨v,H1,I1,rv,a,C,d,ev,hk,ha,hE⟩=>wpAny_bind (wpAny_standAt (wpAny_pure ?_)))
 subst ev
 obtain rfl:u=Value.ref a:=rv
 have hx:=Z2 I1.jg ha
 obtain⟨vs,sl,hg,r⟩:=id hx
 have I2:Inv X pins σ (upd H1 a (xO a C d)) s1:=I1.write (x:=a) (e:=a) (h':=s1.heap) (t':=s1.toks) (by rw[ha];exact True.intro) (.inl rfl) (fun b q _ z=>z) ⟨_,hg⟩ (Xt hx)
 exact⟨a,C,d,rfl,I1.gP,hk,hx,hX pins σ _ s1 a C d I2 qv hx hE⟩
end
end L2
namespace L2
open PyProof.Rows PySem PySem.Spec
section
variable {X:Cx} {pins:List (Addr × Obj)} {σ:St} {H:Hp} {s:Shared} {a C:Addr} {d:Option Addr} {E Eh:XK}
noncomputable def VY (X:Cx) (pins:List (Addr × Obj)) (σ:St) (Eh:XK) (ex:Value) (s':Shared):Prop:=∃a C d T H',ex=.ref a∧Inv X pins σ H' s'∧WQ a C d X.s₀.heap.objs.size H' s'.heap T∧(∀p∈X.pn ++ pins,p.1≠T)∧Eh (.ref C) (some a) H'
noncomputable def GA (X:Cx) (Eh:XK) (e:Expr) (te:TE):Prop:=∀(pins:List (Addr × Obj)) (s:Shared) (σ:St) (H:Hp) (Q:VK),Inv X pins σ H s→te σ H Q→wpAny (model X.prog X.w) X.A (eval e X.env) (EP X pins σ Q) (VY X pins σ Eh) s
section
variable {k:Nat} {f:Addr} {fd:FuncData} {ps:List Str} {sp:Sp} {dvs:List V} {ds:List Value} {x:Str} {p pos:Pos} {e:Expr} {es:List Expr} {t:TA}
end
noncomputable def Cx.held (X:Cx) (a:Addr):Cx:={ X with A:=X.A.mark (some (.ref a)),calm:=false }
noncomputable def Y1 (K:PySem.W.Frag) (Eh:XK) (P:Addr) (i:Nat) (te:TE) (th:Addr→TS):TS:=fun D σ H=>(te σ H fun _ H1=>D.nx σ H1)∧∀C a H',Eh (.ref C) (some a) H'→PySem.W.exmOne K (.ref C) (.ref P)=some true∧
 th a { nx:=fun σ H=>D.nx (σ.set i none) H,rt:=D.rt,bk:=fun σ H=>D.bk (σ.set i none) H,ct:=fun σ H=>D.ct (σ.set i none) H } (σ.set i (some (.ref a))) H'
end
end L2
namespace L2
open PyProof.Rows PySem PySem.Spec
noncomputable def Yv (H:Hp) (a C:Addr) (fs:List (Str × V)):Prop:=(fs=[]∧H a=some (xO a C none))∨∃dx,H a=some (xO a C (some dx))∧H dx=some (xD dx fs)
section
variable {prog:Program} {w:World} {A:Around} {E:Value→Shared→Prop} {s:Shared} {K:PySem.W.Frag} {x C:Addr} {ox:Obj} {od:Option Obj} {name:Str} {tk:Tok} {v:Value} {R:Result→Shared→Prop}
end
structure Gb (K:PySem.W.Frag) (C:Addr):Prop where
 ga:PySem.W.findIn K (.ref C) "__getattribute__" = some (some (.builtin "BaseException.__getattribute__"))
 gn:PySem.W.findIn K (.ref C) "__getattr__" = some none
 bx:PySem.W.mroIn K C (.type "BaseException")=some true
 hd:PySem.W.hasDictIn K C=true
 ha:PySem.W.findIn K (.ref C) "__class__" = some (some (.builtin "object.__class__"))
 hn:PySem.W.specialIn K (.builtin "object.__class__") "__get__" = some (some (.builtin "getset_descriptor.__get__"))
 YY:PySem.W.takesIn K (.builtin "object.__class__")=some true
 hm:PySem.W.mroIn K C (.type "object")=some true
section
variable {X:Cx} {K:PySem.W.Frag}
noncomputable def Gj (K:PySem.W.Frag) (ta:TE) (f:Str):TE:=fun σ H Q=>ta σ H fun x H1=>∃a C fs v,x=.ref a∧Yv H1 a C fs∧Gb K C∧qQ K C f∧fs.lookup f=some v∧Q v H1
end
end L2
namespace L2
open PyProof.Rows PySem PySem.Spec
structure Wz (k:Nat) (A:Around):Prop where
 dp:A.depth + 3 * k + 5 < recursionLimit
 un:A.units + 16 * k + 200 < cLine
structure Gk (P:Program) (w:World) (K:PySem.W.Frag) (mg:Str→Option Value) (base:Heap) (CX:uh) (k:Nat) (f:Addr) (fd:FuncData) (ps:List Str) (sp:Sp):Prop where
 len:∀vs H Q E,sp vs H Q E→vs.length=ps.length
 run:∀(A:Around) (outer:List Env) (s:Shared) (H:Hp) (args:Args) (us:List Value) (vs:List V) (Q:VK) (E:XK),Wz k A→sQ P w K mg base A outer s H→BindsTo s fd args (ps.zip us)→Vals vs us→sp vs H Q E→codeAny (model P w) A (.call (.ref f) args) (CR CX outer P w H s Q E) s
section
variable {P:Program} {w:World} {K:PySem.W.Frag} {mg:Str→Option Value} {base:Heap} {CX:uh}
noncomputable def Cx.any (X:Cx):Cx:={ X with calm:=false,xe:=fun _ _=>False }
section
variable {X:Cx} {pins:List (Addr × Obj)} {σ:St} {H:Hp} {s:Shared} {k:Nat} {f:Addr} {fd:FuncData} {ps:List Str} {sp:Sp} {dvs:List V} {ds:List Value} {x:Str} {p pos:Pos} {e:Expr} {es:List Expr} {t:TA}
end
end
end L2
namespace L2
open PyProof.Rows PySem PySem.Spec
section
variable {prog:Program} {w:World} {A:Around} {E:Value→Shared→Prop} {s:Shared} {a e C:Addr} {d:Option Addr} {tb:Value} {oe:Obj} {vs:Array Value}
end
end L2
namespace L2
open PyProof.Rows PySem PySem.Spec
structure Vc (aa:Addr) (P:Program) (w:World) (K:PySem.W.Frag) (tg:Expr) (J:It) (fp:List Addr) (it:Addr) (tn:Nat→Heap→Prop):Prop where
 mem:it∈fp
 obj:∀i h,tn i h→∀b∈fp,∃o,h.get? b=some o∧∀v,o.data≠.cell v
 keep:∀i h h',tn i h→(∀b∈fp,∀o,h.get? b=some o→h'.get? b=some o)→tn i h'
 item:∀(X:Cx),X.prog=P→X.w=w→X.K=K→X.A.handled=some (.ref aa)→∀(i:Nat) (pins:List (Addr × Obj)) (s:Shared) (σ:St) (H:Hp) (E:Value→Shared→Prop),Inv X pins σ H s→(∀b∈fp,yQ X pins H b)→tn i s.heap→J.go i H→
  wpAny (model P w) X.A (pyNext (.ref it)) (fun r s1=>∃u,r=some u∧wpAny (model P w) X.A (letOwnedTupleGo tg (.ref it) u) (fun _ s2=>∃x H',Inv X pins σ H' s2∧RelV x u∧J.Js i H x H'∧tn (i + 1) s2.heap∧∀b∈fp,H' b=none) E s1) E s
 done:∀(X:Cx),X.prog=P→X.w=w→X.K=K→X.A.handled=some (.ref aa)→∀(i:Nat) (pins:List (Addr × Obj)) (s:Shared) (σ:St) (H:Hp) (E:Value→Shared→Prop),Inv X pins σ H s→(∀b∈fp,yQ X pins H b)→tn i s.heap→J.stop i H→wpAny (model P w) X.A (pyNext (.ref it)) (fun r s1=>r=none∧Inv X pins σ H s1) E s
 self:∀(A:Around) (i:Nat) (s:Shared) (Q:Value→Shared→Prop) (E:Value→Shared→Prop),tn i s.heap→Q (.ref it) s→wpAny (model P w) A (pyIter (.ref it)) Q E s
noncomputable def Yu (aa:Addr) (lo:Int) (n:Nat):It:=⟨fun i _=>i < n,fun i H x H'=>H'=H∧x=.int (lo + i),fun i H=>n≤i∧∃C d,H aa=some (xO aa C d)⟩
section
variable {X:Cx}
noncomputable def GG (X:Cx) (aa:Addr) (tg iter:Expr) (wi:TI):Prop:=∀(pins:List (Addr × Obj)) (s:Shared) (σ:St) (H:Hp) (R:It→Hp→Prop),Inv X pins σ H s→wi σ H R→
 wpAny (model X.prog X.w) X.A (eval iter X.env) (fun v s1=>wpAny (model X.prog X.w) X.A (pyIter v) (fun itv s2=>∃(it:Addr) (fp:List Addr) (tn:Nat→Heap→Prop) (J:It) (H':Hp),itv=.ref it∧Inv X pins σ H' s2∧Vc aa X.prog X.w X.K tg J fp it tn∧tn 0 s2.heap∧(∀b∈fp,yQ X pins H' b)∧R J H') X.xe s1) X.xe s
noncomputable def Yg (aa:Addr) (ta:TA):TI:=fun σ H R=>ta σ H fun vs H1=>∃j:Int,vs=[.int j]∧-(2 ^ 62)≤j∧j < 2 ^ 62∧R (Yu aa 0 j.toNat) H1
end
end L2
namespace L2
open PySem PySem.Spec PyProof.Rows
section
variable {κ:Type} [DecidableEq κ]
noncomputable def gB (kvs:List (κ × V)) (k:κ):Option V:=(kvs.find? fun kv=>decide (kv.1=k)).map (·.2)
noncomputable def putK (kvs:List (κ × V)) (k:κ) (v:V):List (κ × V):=
 if (kvs.any fun kv=>decide (kv.1=k))=true then kvs.map (fun kv=>if kv.1=k then (kv.1,v) else kv) else kvs ++ [(k,v)]
noncomputable def ZF (kvs:List (κ × V)) (k:κ):List (κ × V):=kvs.filter fun kv=>decide (kv.1≠k)
theorem d9 {p:κ × V} {r:List (κ × V)} {k:κ} (e:p.1=k):gB (p :: r) k=some p.2:=by simp [gB,List.find?_cons,e]
theorem cx {p:κ × V} {r:List (κ × V)} {k:κ} (e:¬p.1=k):gB (p :: r) k=gB r k:=by simp [gB,List.find?_cons,e]
theorem fb (k:κ):∀kvs:List (κ × V),(kvs.any fun kv=>decide (kv.1=k))=(gB kvs k).isSome
 | []=>rfl
 | p :: r=>by
  rw[List.any_cons]
  by_cases e:p.1=k
  ·simp only[d9 e,decide_eq_true e,Bool.true_or,Option.isSome_some]
  ·rw[cx e,decide_eq_false e,Bool.false_or];exact fb k r
theorem m5 (kvs:List (κ × V)) (k:κ) (v:V):(putK kvs k v).length≤kvs.length + 1:=by
 unfold putK
 split
 ·rw[List.length_map];omega
 ·rw[List.length_append,List.length_cons,List.length_nil];omega
theorem ZA {kvs:List (κ × V)} {k:κ} (v:V) (h:gB kvs k=none):putK kvs k v=kvs ++ [(k,v)]:=by
 unfold putK
 rw[fb,h]
 exact if_neg (by decide)
theorem yB.mB {o:Option V} {u:Option Value} (r:yB o u):o.isSome=u.isSome:=by
 cases o with
 | none=>cases u with
  | none=>rfl
  | some _=>exact(show False from r).elim
 | some _=>cases u with
  | none=>exact(show False from r).elim
  | some _=>rfl
theorem KV.val {kvs:List (κ × V)} {vs:List (κ × Value)} (r:KV kvs vs) (k:κ):yB (gB kvs k) (valueAt vs k):=by
 unfold KV at r
 induction r with
 | nil=>exact True.intro
 | @cons p q ps qs h t ih=>
  obtain⟨h1,h2⟩:=h
  by_cases e:p.1=k
  ·have e':q.1=k:=h1.symm.trans e
   have b:valueAt (q :: qs) k=some q.2:=by simp [valueAt,List.find?_cons,e']
   rw[d9 e,b];exact h2
  ·have e':¬q.1=k:=fun z=>e (h1.trans z)
   have b:valueAt (q :: qs) k=valueAt qs k:=by simp [valueAt,List.find?_cons,e']
   rw[cx e,b];exact ih
theorem KV.any {kvs:List (κ × V)} {vs:List (κ × Value)} (r:KV kvs vs) (k:κ):(kvs.any fun kv=>decide (kv.1=k))=vs.any fun kv=>decide (kv.1=k):=by
 unfold KV at r
 induction r with
 | nil=>rfl
 | cons h t ih=>rw[List.any_cons,List.any_cons,ih,h.1]
theorem KV.K7 {kvs:List (κ × V)} {vs:List (κ × Value)} (r:KV kvs vs) (k:κ) {y:V} {u:Value} (ry:RelV y u) :
  KV (kvs.map fun kv=>if kv.1=k then (kv.1,y) else kv) (vs.map fun kv=>if kv.1=k then (kv.1,u) else kv):=by
 unfold KV at r ⊢
 induction r with
 | nil=>exact .nil
 | @cons p q ps qs h t ih=>
  rw[List.map_cons,List.map_cons]
  refine .cons ?_ ih
  obtain⟨h1,h2⟩:=h
  by_cases e:p.1=k
  ·rw[if_pos e,if_pos (h1.symm.trans e)];exact⟨h1,ry⟩
  ·rw[if_neg e,if_neg (fun z=>e (h1.trans z))];exact⟨h1,h2⟩
theorem KV.put {kvs:List (κ × V)} {vs:List (κ × Value)} (r:KV kvs vs) (k:κ) {y:V} {u:Value} (ry:RelV y u):KV (putK kvs k y) (stored vs k u):=by
 unfold putK stored
 rw[r.any k]
 by_cases e:(vs.any fun kv=>decide (kv.1=k))=true
 ·rw[if_pos e,if_pos e];exact r.K7 k ry
 ·rw[if_neg e,if_neg e];exact Paired.snoc r ⟨rfl,ry⟩
theorem KV.length {kvs:List (κ × V)} {vs:List (κ × Value)} (r:KV kvs vs):kvs.length=vs.length:=Paired.length r
end
theorem Za {P:Program} {w:World} {k:Key} {u:Value} (r:RelV (kV k) u):(kq P w).is k u=true:=by
 cases k with
 | inl i=>obtain⟨t,e⟩:=(show ∃t,u=Value.int i t from r);subst e;exact sT P w i t
 | inr x=>obtain⟨t,e⟩:=(show ∃t,u=Value.str x t from r);subst e;exact sy P w x t
theorem rf {P:Program} {w:World}:∀{ks:List Key} {us:List Value},Vals (ks.map kV) us→ItemsAre (kq P w) ks us
 | [],_,r=>by rw[List.map_nil] at r;cases r;exact .nil
 | k :: ks,_,r=>by
  rw[List.map_cons] at r
  cases r with
  | cons h t=>exact .cons (Za h) (rf t)
noncomputable abbrev KT (H:Hp):List (List Key × V)→List (List Key × Addr × Value)→Prop:=Paired fun p q=>p.1=q.1∧H q.2.1=some (.tup (p.1.map kV))∧RelV p.2 q.2.2
theorem KT.val {H:Hp} {kvs:List (List Key × V)} {xs:List (List Key × Addr × Value)} (r:KT H kvs xs) (k:List Key):yB (gB kvs k) ((atKey xs k).map (·.2)):=by
 induction r with
 | nil=>exact True.intro
 | @cons p q ps qs h t ih=>
  obtain⟨h1,_,h2⟩:=h
  by_cases e:p.1=k
  ·have e':q.1=k:=h1.symm.trans e
   have b:atKey (q :: qs) k=some q.2:=by simp [atKey,List.find?_cons,e']
   rw[d9 e,b];exact h2
  ·have e':¬q.1=k:=fun z=>e (h1.trans z)
   have b:atKey (q :: qs) k=atKey qs k:=by simp [atKey,List.find?_cons,e']
   rw[cx e,b];exact ih
theorem KT.K7 {H:Hp} {kvs:List (List Key × V)} {xs:List (List Key × Addr × Value)} (r:KT H kvs xs) (k:List Key) {y:V} {u:Value} (ry:RelV y u) :
  KT H (kvs.map fun kv=>if kv.1=k then (kv.1,y) else kv) (xs.map (putAt k u)):=by
 induction r with
 | nil=>exact .nil
 | @cons p q ps qs h t ih=>
  rw[List.map_cons,List.map_cons]
  refine .cons ?_ ih
  obtain⟨h1,h2,h3⟩:=h
  unfold putAt
  by_cases e:p.1=k
  ·rw[if_pos e,if_pos (h1.symm.trans e)];exact⟨h1,h2,ry⟩
  ·rw[if_neg e,if_neg (fun z=>e (h1.trans z))];exact⟨h1,h2,h3⟩
theorem KT.put {H:Hp} {kvs:List (List Key × V)} {xs:List (List Key × Addr × Value)} (r:KT H kvs xs) (k:List Key) {b:Addr} {y:V} {u:Value} (hb:H b=some (.tup (k.map kV))) (ry:RelV y u) :
  KT H (putK kvs k y) (storedH xs k b u):=by
 have e:(kvs.any fun kv=>decide (kv.1=k))=(atKey xs k).isSome:=by
  rw[fb,(r.val k).mB,Option.isSome_map]
 unfold putK storedH
 rw[e]
 by_cases q:(atKey xs k).isSome=true
 ·rw[if_pos q,if_pos q];exact r.K7 k ry
 ·rw[if_neg q,if_neg q];exact Paired.snoc r ⟨rfl,hb,ry⟩
theorem KT.keeps {H H':Hp} {kvs:List (List Key × V)} {xs:List (List Key × Addr × Value)} (r:KT H kvs xs) (ht:∀b ys,H b=some (.tup ys)→H' b=some (.tup ys)):KT H' kvs xs:=
 Paired.Zc r fun _ _ z=>⟨z.1,ht _ _ z.2.1,z.2.2⟩
section
variable {P:Program} {w:World} {H:Hp} {h:Heap} {a:Addr}
theorem Xp {u:HO} (ok:gF P w H h) (e:Rd H a u):jO P w H h a u:=e.ok ok
theorem XW {kvs:List (Key × V)} (ok:gF P w H h) (e:Rd H a (.dK kvs)):kvs.length≤sizeLine∧(a == sysModules)=false∧∃vs,KV kvs vs∧h.DictOf (kq P w) a vs:=
 show jO P w H h a (.dK kvs) from Xp ok e
theorem V5 {kvs:List (Key × V)} (ok:gF P w H h) (e:H a=some (.dK kvs)):kvs.length≤sizeLine∧(a == sysModules)=false∧∃vs,KV kvs vs∧h.DictOf (kq P w) a vs:=XW ok (.inl e)
theorem ix {ks:List Key} (ok:gF P w H h) (e:H a=some (.tup (ks.map kV))):(tupleKind (kq P w)).is h ks a:=by
 obtain⟨_,its,r,o,h1,h2,n,h3⟩:=(show jO P w H h a (.tup (ks.map kV)) from ok a _ e)
 exact⟨o,its.toArray,n,h1,h2,h3,by simpa using rf r⟩
theorem XH {kvs:List (List Key × V)} (ok:gF P w H h) (e:Rd H a (.dT kvs)):kvs.length≤sizeLine∧(a == sysModules)=false∧
  ∃xs,KT H kvs xs∧h.DictOfH (tupleKind (kq P w)) a xs:=by
 obtain⟨z,y,xs,r,o,es,ep,h1,h2,h3,h4,h5⟩:=(show jO P w H h a (.dT kvs) from Xp ok e)
 refine⟨z,y,xs,r,o,es,ep,h1,h2,h3,h4,fun x hx=>?_,h5⟩
 have all:∀{l:List (List Key × V)} {m:List (List Key × Addr × Value)},KT H l m→∀x∈m,(tupleKind (kq P w)).is h x.1 x.2.1:=by
  intro l m q
  induction q with
  | nil=>intro x hx;exact nomatch hx
  | @cons p q ps qs hq t ih=>
   intro x hx
   rcases List.mem_cons.mp hx with e | hx
   ·subst e
    exact ix ok (by rw[←hq.1];exact hq.2.1)
   ·exact ih x hx
 exact all r x hx
theorem Vi {kvs:List (List Key × V)} (ok:gF P w H h) (e:H a=some (.dT kvs)):kvs.length≤sizeLine∧(a == sysModules)=false∧
  ∃xs,KT H kvs xs∧h.DictOfH (tupleKind (kq P w)) a xs:=XH ok (.inl e)
end
noncomputable def uy (H:Hp) (a:Addr) (y:V) (r:Option V):Prop:=
 (∃kvs k,Rd H a (.dK kvs)∧y=kV k∧r=gB kvs k)∨∃kvs k b,Rd H a (.dT kvs)∧y=.ref b∧H b=some (.tup (k.map kV))∧r=gB kvs k
noncomputable def aQ (H:Hp) (a:Addr) (y v:V) (H':Hp):Prop:=
 (∃kvs k,H a=some (.dK kvs)∧y=kV k∧kvs.length < sizeLine∧H'=upd H a (.dK (putK kvs k v)))∨
 ∃kvs k b,H a=some (.dT kvs)∧y=.ref b∧H b=some (.tup (k.map kV))∧kvs.length < sizeLine∧H'=upd H a (.dT (putK kvs k v))
theorem uy.k {H:Hp} {a:Addr} {kvs:List (Key × V)} {k:Key} (e:H a=some (.dK kvs)):uy H a (kV k) (gB kvs k):=.inl ⟨kvs,k,.inl e,rfl,rfl⟩
theorem aQ.k {H:Hp} {a:Addr} {kvs:List (Key × V)} {k:Key} {v:V} (e:H a=some (.dK kvs)) (hl:kvs.length < sizeLine):aQ H a (kV k) v (upd H a (.dK (putK kvs k v))):=.inl ⟨kvs,k,e,rfl,hl,rfl⟩
section
variable {X:Cx} {pins:List (Addr × Obj)} {σ:St} {H:Hp} {s:Shared} {a:Addr} {y v:V} {u r:Value} {o:Option V} {A:Around} {E:Value→Shared→Prop}
theorem Inv.big (I:Inv X pins σ H s):sysModules < s.heap.objs.size:=by
 have h:mainGlobals < s.heap.objs.size:=(I.mod.glob.keeps I.bk).lt
 exact Nat.lt_trans (by decide) h
theorem Yz {Q:Value→Shared→Prop} (hu:A.units + 1 < cLine) (I:Inv X pins σ H s) (g:uy H a y o) (ry:RelV y u) (h:∀s',Inv X pins σ H s'→Q (.bool o.isSome) s') :
  wpAny (model X.prog X.w) A (compareOp .In u (.ref a)) Q E s:=by
 rcases g with ⟨kvs,k,e,ey,l⟩ | ⟨kvs,k,b,e,ey,eb,l⟩
 ·subst ey
  obtain⟨z,hd,vs,rel,dd⟩:=XW I.jg e
  refine wpAny_in_of (Za ry) hd dd.mapOf ?_
  rw[←(rel.val k).mB,←l]
  exact h _ (I.tok _)
 ·subst ey
  cases (show u=Value.ref b from ry)
  obtain⟨z,hd,xs,rel,dd⟩:=XH I.jg e
  refine wpAny_in_heap (tupleKind_room_in1 hu) (ix I.jg eb) hd dd ?_
  have q:=(rel.val k).mB
  rw[Option.isSome_map] at q
  rw[←q,←l]
  exact h _ (I.tok _)
theorem iW {h':Heap} {t':Nat} {ob:HO} (I:Inv X pins σ H s) (mu:VE (H a)) (hs:Heap.SameBut a s.heap h') (he:∃q,h'.get? a=some q) (new:jO X.prog X.w (upd H a ob) h' a ob) :
  Inv X pins σ (upd H a ob) { s with heap:=h',toks:=t' }:=
 I.write (x:=a) (e:=a) mu (.inl rfl) (fun b q hb z=>(hs.2 b hb).trans z) he new
theorem X0 {P:Program} {w:World} {H':Hp} {h':Heap} {kvs:List (Key × V)} {vs:List (Key × Value)} (z:kvs.length≤sizeLine) (hd:(a == sysModules)=false) (rel:KV kvs vs) (dd:h'.DictOf (kq P w) a vs) :
  jO P w H' h' a (.dK kvs):=⟨z,hd,vs,rel,dd⟩
theorem ar {H':Hp} {Q:Unit→Shared→Prop} (hu:A.units + 1 < cLine) (I:Inv X pins σ H s) (g:aQ H a y v H') (ry:RelV y u) (rv:RelV v r) (h:∀s',Inv X pins σ H' s'→Q () s') :
  wpAny (model X.prog X.w) A (setItem (.ref a) u r) Q E s:=by
 rcases g with ⟨kvs,k,e,ey,l,eH⟩ | ⟨kvs,k,b,e,ey,eb,l,eH⟩
 ·subst ey eH
  obtain⟨z,hd,vs,rel,dd⟩:=V5 I.jg e
  have hz:vs.length≤sizeLine:=by rw[←rel.length];exact z
  have hl:(putK kvs k v).length≤sizeLine:=by have:=m5 kvs k v;omega
  refine wpAny_setItem_pairs (hsz:=hz) (Za ry) dd fun h' dd' hs=>h _ ?_
  have he:∃q,h'.get? a=some q:=let ⟨q,_,_,hq,_⟩:=dd';⟨q,hq⟩
  exact iW I (by rw[e];exact True.intro) hs he (X0 hl hd (rel.put k rv) dd')
 ·subst ey eH
  cases (show u=Value.ref b from ry)
  obtain⟨z,hd,xs,rel,dd⟩:=Vi I.jg e
  have hz:xs.length≤sizeLine:=by rw[←Paired.length rel];exact z
  have hl:(putK kvs k v).length≤sizeLine:=by have:=m5 kvs k v;omega
  refine wpAny_setItem_heap (hsz:=hz) (tupleKind_room_in1 hu) (ix I.jg eb) dd fun h' dd' hs=>h _ ?_
  obtain⟨q,es,ep,hq,h2,h3,h4,_,h5⟩:=dd'
  refine iW I (by rw[e];exact True.intro) hs ⟨q,hq⟩ ⟨hl,hd,_,(rel.put k eb rv).keeps fun c ys ec=>?_,q,es,ep,hq,h2,h3,h4,h5⟩
  rw[qW (fN ec e (fun z=>nomatch z))]
  exact ec
end
section
variable {X:Cx} {pins:List (Addr × Obj)} {σ:St} {H:Hp} {s:Shared} {a:Addr} {kvs:List (Key × V)} {k:Key} {u:Value} {A:Around} {E:Value→Shared→Prop}
end
noncomputable def GI (i:Expr):Prop:=∀ov iv,subscripted i false ov iv=operate [ov,iv] (getItem ov iv)
noncomputable def YL (td ty:TE):TE:=fun σ H Q=>td σ H fun x H1=>ty σ H1 fun y H2=>∃a v,x=.ref a∧uy H2 a y (some v)∧Q v H2
noncomputable def Yt (ty td:TE):TE:=fun σ H Q=>ty σ H fun y H1=>td σ H1 fun x H2=>∃a o,x=.ref a∧uy H2 a y o∧Q (.bl o.isSome) H2
noncomputable def WV (ty td:TE):TE:=fun σ H Q=>ty σ H fun y H1=>td σ H1 fun x H2=>∃a o,x=.ref a∧uy H2 a y o∧Q (.bl (!o.isSome)) H2
noncomputable def YA (td ty tv:TE):TS:=fun D σ H=>tv σ H fun v H1=>td σ H1 fun x H2=>ty σ H2 fun y H3=>∃a H4,x=.ref a∧aQ H3 a y v H4∧D.nx σ H4
noncomputable def YE (td ty tv:TE) (rd:V→V→Hp→VK→Prop):TS:=fun D σ H=>td σ H fun x H1=>ty σ H1 fun y H2=>∃a v,x=.ref a∧uy H2 a y (some v)∧
 tv σ H2 fun y2 H3=>rd v y2 H3 fun z H4=>∃H5,aQ H4 a y z H5∧D.nx σ H5
noncomputable def YT (td ty:TE):TS:=fun D σ H=>td σ H fun x H1=>ty σ H1 fun y H2=>∃a kvs k,x=.ref a∧H2 a=some (.dK kvs)∧y=kV k∧(gB kvs k).isSome=true∧D.nx σ (upd H2 a (.dK (ZF kvs k)))
section
variable {X:Cx} {o i e value:Expr} {pos pos' tpos:Pos} {td ty tv:TE}
theorem QO (hu:X.A.units + 1 < cLine) (hi:PE X i ty) (ho:PE X o td):PC X .In i o (Yt ty td):=by
 intro pins s σ H Q I h
 refine j5 (hi pins s σ H _ I h) fun iv s1 ⟨y,H1,I1,ry,q1⟩=>j5 (ho pins s1 σ H1 _ I1 q1) fun u s2 ⟨x,H2,I2,rx,a,ov,ex,g,q2⟩=>?_
 subst ex
 obtain rfl:u=Value.ref a:=rx
 exact Yz hu I2 g ry fun s3 I3=>⟨.bl ov.isSome,H2,I3,rfl,q2⟩
end
theorem Zl {P:Program} {w:World} {H:Hp} (h:Heap) (hb:sysModules < h.objs.size):jO P w H (h.push { cls:=.type "dict",data:=.dict #[] }) h.objs.size (.dK []):=
 ⟨Nat.zero_le _,beq_eq_false_iff_ne.mpr (Ne.symm (Nat.ne_of_lt hb)),[],.nil,Heap.DictOf.new h⟩
noncomputable def KD:TE:=fun _ H Q=>∀p,H p=none→Q (.ref p) (upd H p (.dK []))
noncomputable def WE:TE:=fun _ H Q=>∀p,H p=none→Q (.ref p) (upd H p (.dT []))
section
variable {X:Cx} {pos:Pos}
theorem ZL:PE X (.Dict [] [] pos) KD:=fun pins s σ H Q I h=>
 wpAny_Dict_empty ⟨.ref s.heap.objs.size,_,I.laid (a:=s.heap.objs.size) (o:=.dK []) (t':=s.toks) (fun _ _ q=>Heap.get?_push_of_some _ q) (Nat.le_refl _) (Zl s.heap I.big),rfl,h _ (I.jg.fresh (Nat.le_refl _))⟩
end
noncomputable def oZ:List (TE × TE)→St→Hp→(List (V × V)→Hp→Prop)→Prop
 | [],_,H,Q=>Q [] H
 | (tk,tv) :: r,σ,H,Q=>tk σ H fun x H1=>tv σ H1 fun y H2=>oZ r σ H2 fun ps H3=>Q ((x,y) :: ps) H3
noncomputable abbrev VV:List (V × V)→List (Value × Value)→Prop:=Paired fun p q=>RelV p.1 q.1∧RelV p.2 q.2
noncomputable def Hw (X:Cx) (pos:Pos) (keys:List (Option Expr)) (values:List Expr) (trs:List (TE × TE)):Prop:=
 ∀(pins:List (Addr × Obj)) (s:Shared) (σ:St) (H:Hp) (Q:List (V × V)→Hp→Prop),Inv X pins σ H s→oZ trs σ H Q→
  wpAny (model X.prog X.w) X.A (evalPairs (pairTrees keys values X.env pos)) (fun vs s'=>∃ps H',Inv X pins σ H' s'∧VV ps vs∧Q ps H') X.xe s
noncomputable def KW (kvs more:List (Key × V)):List (Key × V):=more.foldl (fun acc kv=>putK acc kv.1 kv.2) kvs
noncomputable def Gz (trs:List (TE × TE)):TE:=fun σ H Q=>∀p,H p=none→oZ trs σ (upd H p (.dK [])) fun ps H2=>H2 p=some (.dK [])∧∃kvs:List (Key × V),ps=kvs.map (fun kv=>(kV kv.1,kv.2))∧kvs.length≤15∧Q (.ref p) (upd H2 p (.dK (KW [] kvs)))
structure M1 (X:Cx) (o:Expr) (m:Str) (apos:Pos) (e:Expr) (cpos:Pos):Prop where
 base:attributeBase o m X.env (eval o X.env)=eval o X.env
 lA:((backTo cpos (starEach [e] X.env)).all (fun x=>!x.1) && (backToKw cpos (keywordEach [] X.env)).all (fun x=>x.1.isSome)
  && decide (([e]:List Expr).length + ([]:List Keyword).length + (if ([]:List Keyword).isEmpty then 0 else 1) < 30))=true
 line:(apos.endLine == cpos.line)=true
 trees:backTo cpos (starEach [e] X.env)=[(false,eval e X.env)]
structure M2 (X:Cx) (o:Expr) (m:Str) (apos:Pos) (e f:Expr) (cpos:Pos):Prop where
 base:attributeBase o m X.env (eval o X.env)=eval o X.env
 lA:((backTo cpos (starEach [e,f] X.env)).all (fun x=>!x.1) && (backToKw cpos (keywordEach [] X.env)).all (fun x=>x.1.isSome)
  && decide (([e,f]:List Expr).length + ([]:List Keyword).length + (if ([]:List Keyword).isEmpty then 0 else 1) < 30))=true
 line:(apos.endLine == cpos.line)=true
 trees:backTo cpos (starEach [e,f] X.env)=[(false,eval e X.env),(false,eval f X.env)]
noncomputable def WJ (H:Hp) (a:Addr):Prop:=(∃kvs,Rd H a (.dK kvs))∨∃kvs,Rd H a (.dT kvs)
section
variable {X:Cx} {pins:List (Addr × Obj)} {σ:St} {H:Hp} {s:Shared} {a:Addr} {y d:V} {u r:Value} {o:Option V} {A:Around} {E:Value→Shared→Prop}
end
noncomputable def WO (td ty:TE):TE:=fun σ H Q=>td σ H fun x H1=>∃a,x=.ref a∧WJ H1 a∧ty σ H1 fun y H2=>∃o,uy H2 a y o∧Q (o.getD .non) H2
noncomputable def YH (td ty tx:TE):TE:=fun σ H Q=>td σ H fun x H1=>∃a,x=.ref a∧WJ H1 a∧ty σ H1 fun y H2=>tx σ H2 fun z H3=>∃o,uy H3 a y o∧Q (o.getD z) H3
noncomputable def Yf (td ty:TE):TE:=fun σ H Q=>td σ H fun x H1=>∃a,x=.ref a∧WJ H1 a∧ty σ H1 fun y H2=>∃kvs k v,H2 a=some (.dK kvs)∧y=kV k∧gB kvs k=some v∧Q v (upd H2 a (.dK (ZF kvs k)))
noncomputable def YX (td ty tx:TE):TE:=fun σ H Q=>td σ H fun x H1=>∃a,x=.ref a∧WJ H1 a∧ty σ H1 fun y H2=>tx σ H2 fun z H3=>∃kvs k,H3 a=some (.dK kvs)∧y=kV k∧
 (∀v,gB kvs k=some v→Q v (upd H3 a (.dK (ZF kvs k))))∧(gB kvs k=none→Q z H3)
section
variable {X:Cx} {o e f:Expr} {apos cpos:Pos} {td ty tx:TE}
end
section
variable {X:Cx} {pins:List (Addr × Obj)} {σ:St} {H:Hp} {s:Shared} {a:Addr} {kvs:List (Key × V)} {A:Around} {E:Value→Shared→Prop}
end
section
variable {X:Cx} {pins:List (Addr × Obj)} {σ:St} {H:Hp} {s:Shared} {a:Addr} {y:V} {u:Value} {A:Around} {E:Value→Shared→Prop}
end
end L2
namespace L2
open PySem PySem.Spec PyProof.Rows
section
variable {X:Cx}
end
section
variable {κ:Type} [DecidableEq κ]
end
end L2
namespace L2
open PySem PySem.Spec PyProof.Rows
section
variable {X:Cx}
theorem Jh {pos:Pos}:PE X (.Dict [] [] pos) (fun _ H Q=>Nw H (.dK []) Q):=ZL.mono fun _ _ _ q=>q.el
theorem rz (hu:X.A.units + 1 < cLine):Wy X (fun o i v H Q=>∃a kvs k,o=.ref a∧i=kV k∧H a=some (.dK kvs)∧kvs.length < sizeLine∧Ch H a (.dK (putK kvs k v)) Q):=by
 intro pins s σ H o i v ov iv u Q I ro ri rv h
 obtain⟨a,kvs,k,rfl,rfl,e,l,q⟩:=h
 cases ro
 exact ar hu I (aQ.k e l) ri rv fun s' I'=>⟨_,I',q.el⟩
end
end L2
namespace L2
open PyProof.Rows PySem PySem.Spec
section
variable {w:World} {A:Around} {E:Value→Shared→Prop} {s:Shared} {prog:Program}
end
noncomputable def tm:List Str→List Str→Nat
 | _,[]=>0
 | seen,z :: r=>(if z∈seen then 0 else 1) + tm (z :: seen) r
section
variable {w:World} {A:Around} {E:Value→Shared→Prop} {prog:Program}
theorem nE {K:Type} [DecidableEq K] {knd:KeyKind prog w K} {h h':Heap} {a it:Addr} {S:K→Bool} {n:Nat} (x:Heap.SetOf knd h a S n) (hb:Heap.SameBut it h h') (hne:a≠it):Heap.SetOf knd h' a S n:=by
 obtain⟨o,es,ep,t,ho,r⟩:=x
 exact⟨o,es,ep,t,(hb.2 a hne).trans ho,r⟩
theorem Qv {K:Type} [DecidableEq K] {knd:KeyKind prog w K} {h:Heap} {a:Addr} {S S':K→Bool} {n:Nat} (x:Heap.SetOf knd h a S n) (e:∀y,S' y=S y):Heap.SetOf knd h a S' n:=by
 have:S'=S:=funext e
 rw[this];exact x
theorem Qo {a it l : Addr} {items : Array Value} (hh : A.handled = none) (hia : it ≠ a) (hli : l ≠ it) (hla : l ≠ a) : ∀ (rest : List Str) (i : Nat) (s : Shared) (seen : List Str) (n : Nat) (R : Result → Shared → Prop), s.heap.IsListIter it l i → s.heap.IsList l items → items.size = i + rest.length → (∀ (j : Nat) (z : Str), rest[j]? = some z → ∃ t, items[i + j]? = some (.str z t)) →
    s.heap.SetOf (strKind prog w) a (fun y => decide (y ∈ seen)) n → n + rest.length < 1000 →
    (∀ h' tk S', (∀ b o, b ≠ it → b ≠ a → s.heap.get? b = some o → h'.get? b = some o) → h'.SetOf (strKind prog w) a S' (n + tm seen rest) → R (.ok (.ret .none)) { s with heap := h', toks := tk }) →
    codeAny (model prog w) A (.builtin "set.update.loop" ⟨[.ref a, .ref it], []⟩) R s := by
  intro rest
  induction rest with
  | nil =>
    intro i s seen n R h1 h2 h3 h4 h5 h6 k
    refine codeAny_builtin F.entry_set_update_loop ?_
    show wpAny _ _ (pyNext (.ref it) >>= _) _ _ s
    refine wpAny_bind (wpAny_pyNext_list_end ?_ h1 h2 (by rw [Array.getElem?_eq_none_iff]; simp at h3; omega) fun h' hx => ?_)
    · exact hh
    · refine wpAny_pure (k h' s.toks (fun y => decide (y ∈ seen)) (fun b o hb _ e => hx b o hb e) ?_)
      obtain ⟨o, es, ep, t, ho, q⟩ := h5
      exact ⟨o, es, ep, t, hx _ _ (Ne.symm hia) ho, q⟩
  | cons z r ih =>
    intro i s seen n R h1 h2 h3 h4 h5 h6 k
    obtain ⟨t, ht⟩ := h4 0 z rfl
    refine codeAny_builtin F.entry_set_update_loop ?_
    show wpAny _ _ (pyNext (.ref it) >>= _) _ _ s
    refine wpAny_bind (wpAny_pyNext_list_item h1 h2 ht fun h' hi' hb => ?_)
    dsimp only
    unfold setAdd
    refine wpAny_bind (wpAny_holding (wpAny_holding (wpAny_bind ((strKind prog w).pyHash (strKind_is prog w z t) ?_))))
    have h5' := nE h5 hb (Ne.symm hia)
    have hl' : h'.IsList l items := by
      obtain ⟨o, ho, q⟩ := h2
      exact ⟨o, (hb.2 l hli).trans ho, q⟩
    refine wpAny_setAddHashed_of (s := { s with heap := h', toks := s.toks + 1 }) (strKind_is prog w z t) rfl h5' (by simp only [List.length_cons] at h6; unfold scanBound; omega) fun h2' hb2 h52 => ?_
    refine wpAny_pure ⟨Code.quiet_builtin _ (by decide +kernel), ?_⟩
    have hl2 : h2'.IsList l items := by
      obtain ⟨o, ho, q⟩ := hl'
      exact ⟨o, (hb2.2 l hla).trans ho, q⟩
    have hi2 : h2'.IsListIter it l (i + 1) := by
      obtain ⟨o, ho, q⟩ := hi'
      exact ⟨o, (hb2.2 it hia).trans ho, q⟩
    have h53 : h2'.SetOf (strKind prog w) a (fun y => decide (y ∈ z :: seen)) (n + if z ∈ seen then 0 else 1) := by
      have e : (if decide (z ∈ seen) = true then n else n + 1) = n + if z ∈ seen then 0 else 1 := by by_cases q : z ∈ seen <;> simp [q]
      rw [← e]
      exact Qv h52 fun y => by by_cases q : y = z <;> by_cases q' : y ∈ seen <;> simp [q, q']
    refine ih (i + 1) { s with heap := h2', toks := s.toks + 1 } (z :: seen) _ R hi2 hl2 (by simp only [List.length_cons] at h3; omega) (fun j y hj => ?_) h53 ?_ fun h3' tk S' q1 q2 => ?_
    · obtain ⟨t', ht'⟩ := h4 (j + 1) y (by simpa using hj)
      exact ⟨t', by rw [← ht']; congr 1; omega⟩
    · simp only [List.length_cons] at h6
      split <;> omega
    · refine k h3' tk S' (fun b o b1 b2 e => q1 b o b1 b2 ((hb2.2 b b2).trans ((hb.2 b b1).trans e))) ?_
      rw [show n + tm seen (z :: r) = n + (if z ∈ seen then 0 else 1) + tm (z :: seen) r by simp only [tm]; omega]
      exact q2
set_option maxHeartbeats 1000001 in
theorem ak {s : Shared} {a l : Addr} {led : Bool} {items : Array Value} {zs : List Str} {Q : Fin → Shared → Prop} (hh : A.handled = none) (ha : s.heap.get? a = some { cls := .type "set", dict := none, data := .set #[] 0 (.fresh 0 0 led) }) (hl : s.heap.IsList l items) (hz : items.size = zs.length) (hi : ∀ (j : Nat) (z : Str), zs[j]? = some z → ∃ t, items[j]? = some (.str z t)) (hn : zs.length < 1000) (hla : l ≠ a)
    (h : ∀ h' tk S', (∀ b o, b ≠ a → s.heap.get? b = some o → h'.get? b = some o) → h'.SetOf (strKind prog w) a S' (tm [] zs) → Q (.done (.ret .none)) { s with heap := h', toks := tk }) : wpAny (model prog w) A (Builtin.«set.__init__» ⟨[.ref a, .ref l], []⟩) Q E s := by
  have hT : Shared.TypeIs s (.ref a) "set" := ⟨_, ha, rfl⟩
  unfold Builtin.«set.__init__» noKeywords
  obtain ⟨ol, hol, hcl, nl, hdl⟩ := id hl
  have hTl : Shared.TypeIs s (.ref l) "list" := ⟨ol, hol, hcl⟩
  wp_walk
  refine wpAny_of_eq F.sub_list_set (wpAny_isInstance hTl F.sub_list_frozenset ?_)
  (rw [if_neg Bool.false_ne_true])
  refine wpAny_bind (wpAny_typeOf hTl ?_)
  rw [if_neg (by decide)]
  refine wpAny_bind (wpAny_pyIter_list hl ?_)
  generalize hoi : ({ cls := .type "list_iterator", data := .fields #[.ref l, .int 0 0] } : Obj) = oi
  show wpAny _ _ (runValue (.builtin "set.update.loop" ⟨[.ref a, .ref s.heap.objs.size], []⟩) >>= _) _ _ { s with heap := s.heap.push oi }
  have sa : a < s.heap.objs.size := Heap.lt_size ha
  have sl : l < s.heap.objs.size := Heap.lt_size hol
  have k0 : ∀ b o, s.heap.get? b = some o → (s.heap.push oi).get? b = some o := fun b o e => Heap.get?_push_of_some _ e
  refine wpAny_bind (wpAny_runValue (Qo hh (Nat.ne_of_gt sa) (Nat.ne_of_lt sl) hla zs 0 { s with heap := s.heap.push oi } [] 0 _ ?_ ⟨ol, k0 _ _ hol, hcl, nl, hdl⟩ (by omega) (fun j z e => by simpa using hi j z e) ⟨_, #[], 0, _, k0 _ _ ha, ⟨rfl, rfl, rfl⟩, rfl, fun e he => by simp at he, fun y => by simp, by unfold scanBound; simp, rfl, rfl⟩ (by omega) fun h' tk S' q1 q2 => ?_))
  · exact ⟨oi, Heap.get?_push_size _ (by rw [← hoi]; rfl), by rw [← hoi], by rw [← hoi]; rfl⟩
  · refine wpAny_pure (wpAny_pure (h h' tk S' (fun b o hb e => q1 b o (Nat.ne_of_lt (Heap.lt_size e)) hb (k0 b o e)) ?_))
    rw [Nat.zero_add] at q2; exact q2
set_option maxHeartbeats 1000001 in
/-- what a call may come to: a value, or an exception -/
theorem wants_or {Q : Value → Shared → Prop} {E : Value → Shared → Prop} {r : Result} {s : Shared} (h : wants Q E r s) : (∃ v, r = .ok (.ret v) ∧ Q v s) ∨ ∃ e, r = .error e ∧ E e s := by
  rcases r with e | f
  · exact .inr ⟨e, rfl, h⟩
  · cases f <;> first | exact .inl ⟨_, rfl, h⟩ | exact h.elim
set_option maxHeartbeats 1000001 in
theorem aF {s : Shared} {l : Addr} {items : Array Value} {zs : List Str} {Q : Value → Shared → Prop} (hh : A.handled = none) (hl : s.heap.IsList l items) (hz : items.size = zs.length) (hi : ∀ (j : Nat) (z : Str), zs[j]? = some z → ∃ t, items[j]? = some (.str z t)) (hn : zs.length < 1000)
    (h : ∀ h' tk a S', s.heap.objs.size ≤ a → (∀ b o, s.heap.get? b = some o → h'.get? b = some o) → h'.SetOf (strKind prog w) a S' (tm [] zs) → Q (.ref a) { s with heap := h', toks := tk }) : wpAny (model prog w) A (call (.type "set") [.ref l]) Q E s := by
  have C := F.called_set
  obtain ⟨_, _, m⟩ := C.mro
  obtain ⟨c1, c2, c3, c4, c5⟩ : _ ∧ _ ∧ _ ∧ _ ∧ _ := ⟨C.made, C.sub, C.notType, C.canCreate, F.typeCall_set_1 (.ref l)⟩
  have up : ∀ {o : Obj} {b : Addr} {u : Obj}, s.heap.get? b = some u → (s.heap.push o).get? b = some u := fun e => Heap.get?_push_of_some _ e
  have lo : ∀ {b : Addr} {u : Obj}, s.heap.get? b = some u → b ≠ s.heap.objs.size := fun e => Nat.ne_of_lt (Heap.lt_size e)
  obtain ⟨ol, gl, dl⟩ := hl
  refine wpAny_call (codeAny_of_tree (?_ : wpAny _ _ (callAny (.type "set") _) _ _ _))
  refine wpAny_pure ⟨Code.quiet_builtin _ (by decide +kernel), codeAny_builtin F.entry_type_call (Around.under_plain (weight_type_call_type "set" [.ref l] []) rfl ▸ ?_)⟩
  repeat any_goals first | assumption | wp_step
  refine codeAny_mono (code_set_new_1 _ (E := E) (Q₁ := fun v s1 => v = .ref s.heap.objs.size ∧ ∃ led, s1 = { s with heap := s.heap.push { cls := .type "set", data := .set #[] 0 (.fresh 0 0 led) } }) fun led => ⟨rfl, led, rfl⟩) fun r s1 hr => ?_
  rcases wants_or hr with ⟨_, rfl, rfl, led, rfl⟩ | ⟨_, rfl, he⟩
  · have g := Heap.get?_push_size s.heap (o := { cls := .type "set", data := .set #[] 0 (.fresh 0 0 led) }) rfl
    have ty : Shared.TypeIs { s with heap := s.heap.push _ } (.ref s.heap.objs.size) "set" := ⟨_, g, rfl⟩
    obtain ⟨c6, c7⟩ : _ ∧ _ := ⟨C.init.lookup, C.init.bind (.ref s.heap.objs.size)⟩
    repeat any_goals first | assumption | wp_step
    have run := ak (s := { s with heap := s.heap.push _ }) (prog := prog) (w := w) (A := A.in1.in1) (E := E) (Q := fun f s2 => f = .done (.ret .none) ∧ Q (.ref s.heap.objs.size) s2) hh g ⟨ol, up gl, dl⟩ hz hi hn (lo gl) fun h' tk S' k1 k2 => ⟨rfl, h h' tk _ S' (Nat.le_refl _) (fun b u e => k1 b u (lo e) (up e)) k2⟩
    refine codeAny_mono (codeAny_call_builtin (R := wants (fun v s2 => v = .none ∧ Q (.ref s.heap.objs.size) s2) E) C.init.plain F.entry_set_init (check_set_init_1 ty (j5 run fun f s2 ⟨e, q⟩ => e ▸ ⟨rfl, q⟩))) fun r s2 hr => ?_
    rcases wants_or hr with ⟨_, rfl, rfl, q⟩ | ⟨_, rfl, he⟩
    · repeat any_goals first | assumption | wp_step
    · exact he
  · exact he
end
end L2
namespace L2
open PyProof.Rows PySem PySem.Spec
noncomputable def Vg (P:Program) (w:World) (a:Addr) (n:Nat):HO:=.ext fun h=>∃S,Heap.SetOf (strKind P w) h a S n
theorem Kf {P:Program} {w:World} {H:Hp} {h:Heap} {a:Addr} {S:Str→Bool} {n:Nat} (x:Heap.SetOf (strKind P w) h a S n):jO P w H h a (Vg P w a n):=by
 have x':=x
 obtain⟨o,es,ep,t,ho,r⟩:=x'
 refine⟨⟨S,x⟩,⟨o,ho⟩,fun h1 h2 ⟨S',o',es',ep',t',ho',r'⟩ k=>⟨S',o',es',ep',t',k _ ho',r'⟩⟩
theorem KZ {P:Program} {w:World} {H:Hp} {h:Heap} {a:Addr} {n:Nat} (x:gF P w H h) (q:H a=some (Vg P w a n)):∃S,Heap.SetOf (strKind P w) h a S n:=(x a _ q).1
section
variable {X:Cx} {K:PySem.W.Frag}
theorem JH (hK:X.K=K) (hc:X.calm=true):vf X (.type "set") (fun xs H Q=>∃p zs,xs=[.ref p]∧qI K H p (zs.map V.str)∧zs.length < 1000∧∀a,H a=none→Q (.ref a) (upd H a (Vg X.prog X.w a (tm [] zs)))):=by
 subst hK
 (intro pins s σ H xs us Q I r h)
 obtain⟨p,zs,rfl,hl,hn,k⟩:=h
 (obtain⟨u,rfl,ru⟩:=vals1 r)
 cases ru
 obtain⟨its,rv,⟨o,n,ho,hcl,_,hd⟩,_⟩:=I.list hl
 have hz:its.length=zs.length:=by rw[←rv.length,List.length_map]
 refine aF (zs:=zs) (I.ok.hd hc) ⟨o,ho,hcl,n,hd⟩ (by simpa using hz) (fun j z e=>?_) hn fun h' tk a S' q1 q2 q3=>?_
 ·obtain⟨u,e1,⟨t,rfl⟩⟩:=rv.get (i:=j) (x:=.str z) (by rw[List.getElem?_map,e];rfl)
  exact⟨t,by simpa using e1⟩
 ·exact⟨.ref a,_,I.laid (a:=a) (o:=Vg X.prog X.w a (tm [] zs)) (h':=h') (t':=tk) q2 q1 (Kf q3),rfl,k a (I.jg.fresh q1)⟩
theorem eI:vf X (.builtin "len") (fun xs H Q=>∃a n,xs=[V.ref a]∧H a=some (Vg X.prog X.w a n)∧Q (.int (n:Nat)) H):=by
 (intro pins s σ H xs us Q I r h)
 obtain⟨a,n,rfl,ha,q⟩:=h
 (obtain⟨u,rfl,ru⟩:=vals1 r)
 cases ru
 obtain⟨S,o,es,ep,t,ho,hex,hd,_,_,hb,hf,hn⟩:=KZ I.jg ha
 refine call_len_set ho hex hd hf (by have:es.size < 4096:=hb;omega) ?_
 rw[hn]
 exact⟨.int n,H,I.tok _,⟨_,rfl⟩,q⟩
end
end L2
namespace L2
theorem QX:∀(seen zs:List PySem.Str),tm seen zs≤zs.length
 | _,[]=>Nat.le_refl _
 | seen,z :: r=>by
  have:=QX (z :: seen) r
  simp only[tm,List.length_cons]
  split<;>omega
theorem iK:∀(seen zs:List PySem.Str),tm seen zs=zs.length↔zs.Nodup∧∀z∈zs,z∉seen
 | _,[]=>by simp [tm]
 | seen,z :: r=>by
  have h1:=QX (z :: seen) r
  have h2:=iK (z :: seen) r
  simp only[tm,List.length_cons,List.nodup_cons,List.mem_cons]
  by_cases q:z∈seen
  ·rw[if_pos q]
   constructor
   ·intro e;omega
   ·rintro ⟨_,h⟩;exact absurd q (h z (.inl rfl))
  ·rw[if_neg q]
   constructor
   ·intro e
    obtain⟨a,b⟩:=h2.mp (by omega)
    refine⟨⟨fun hz=>(b z hz) (by simp),a⟩,?_⟩
    rintro y (rfl | hy)
    ·exact q
    ·exact fun hs=>b y hy (List.mem_cons_of_mem _ hs)
   ·rintro ⟨⟨a,b⟩,c⟩
    have:=h2.mpr ⟨b,fun y hy hs=>?_⟩
    ·omega
    ·rcases List.mem_cons.mp hs with rfl | hs
     ·exact a hy
     ·exact c y (.inr hy) hs
theorem Kn (zs:List PySem.Str):decide (((tm [] zs:Nat):Int)=(zs.length:Nat))=decide zs.Nodup:=by
 have:=iK [] zs
 rw[decide_eq_decide]
 constructor
 ·intro e;exact(this.mp (by omega)).1
 ·intro e;have:=this.mpr ⟨e,fun _ _ h=>by cases h⟩;omega
end L2
set_option maxRecDepth 100000
namespace My
open PySem PySem.Spec PyProof.Rows L2
seal PE PT PW PA PS eu PI PG Vh PO PC GG GA
local macro_rules | `(tactic| walk_at "lk")=>`(tactic| first | assumption | exact qv | exact Wg (by assumption) (by walk_at "sm") | (refine qg.look (by assumption) ?_;walk_at "lk"))
local macro_rules | `(tactic| walk_at "sq")=>`(tactic| first | assumption | exact qI.of (by walk_at "lk") | exact Vv (by assumption) (by walk_at "sm"))
local macro_rules | `(tactic| walk_at "sqT")=>`(tactic| first | assumption | exact yT.of (by walk_at "lk") | exact seqTS (by assumption) (by walk_at "sm"))
local macro_rules | `(tactic| walk_at "sm")=>`(tactic| first | assumption | exact qg.refl _ | (refine qg.trans ?_ (by assumption);walk_at "sm"))
local macro_rules | `(tactic| walk_at "sz")=>`(tactic| first | with_reducible assumption | with_reducible exact Jn | ((with_reducible apply Jb)<;>walk_at "sz") | ((with_reducible apply slice_len);walk_at "sz") | with_reducible exact Zg _)
local macro_rules | `(tactic| walk_at "num")=>`(tactic| first | decide +kernel | omega | (simp only[List.length_cons,List.length_nil];omega))
local macro_rules | `(tactic| walk_at "lsz")=>`(tactic| first
 | ((with_reducible apply Kq);(focus walk_at "sz");(focus walk_at "sz");walk_at "num")
 | ((with_reducible apply qj);first | decide +kernel | (simp only[List.length_cons,List.length_nil,List.length_map,List.length_append];omega))
 | ((with_reducible apply small_of);(focus walk_at "sz");walk_at "num"))
local macro_rules | `(tactic| walk_at "ar")=>`(tactic| first
 | walk_at "lsz"
 | omega
 | (refine And.intro ?_ ?_<;>omega)
 | (refine Or.inl (And.intro ?_ ?_)<;>omega)
 | (refine Or.inr (And.intro ?_ ?_)<;>omega)
 | decide +kernel
 | (show (0:Int) < _;decide +kernel)
 | (show (0:Int) < _;omega)
 | (refine And.intro ?_ (And.intro ?_ ?_)<;>decide +kernel))
local macro_rules | `(tactic| walk_at "lsl")=>`(tactic| first
 | exact mD (by simp only[List.length_cons,List.length_nil,List.length_map,List.length_append];omega)
 | exact mD (by omega))
local macro_rules | `(tactic| walk_at "own")=>`(tactic| fail)
local macro_rules | `(tactic| walk_at "fld")=>`(tactic| fail)
local macro_rules | `(tactic| walk_at "r1")=>`(tactic| (fail_if_success (refine Exists.intro (α:=Nat→Nat→L2.St→Hp→Prop) ?_ ?_));first
 | refine⟨_,rfl,?_⟩
 | refine⟨_,(by walk_at "fld" : rm _ _ _ _ _),?_⟩
 | refine⟨_,_,rfl,rfl,?_⟩
 | refine⟨_,_,_,_,rfl,rfl,by walk_at "sq",Jz (by walk_at "num") (by walk_at "num"),?_⟩
 | refine⟨_,_,_,_,rfl,rfl,by walk_at "sq",ba (by walk_at "num") (by walk_at "num"),?_⟩
 | refine⟨_,_,_,_,rfl,rfl,by walk_at "sqT",rfl,?_⟩
 | refine⟨_,_,rfl,.inr (by walk_at "sqT"),rfl,rfl,?_⟩
 | refine⟨_,_,rfl,.inl (by walk_at "sq"),rfl,rfl,?_⟩
 | refine⟨_,_,_,rfl,rfl,by walk_at "lsz",Q9 (by omega) (by omega),?_⟩
 | refine⟨_,_,_,rfl,rfl,by walk_at "lk",by walk_at "lsl",?_⟩
 | refine⟨_,_,rfl,by walk_at "sq",?_⟩
 | refine⟨_,_,rfl,by walk_at "sqT",rfl,?_⟩
 | (refine And.intro ?_ ?_;· (apply Exists.intro;walk_at "sq"))
 | (refine And.intro (Or.inl (And.intro rfl ?_)) ?_;· (apply Exists.intro;walk_at "sq"))
 | refine⟨_,_,rfl,?_⟩
 | refine⟨_,_,_,rfl,?_⟩
 | refine And.intro rfl ?_
 | (refine And.intro ?_ ?_;· assumption)
 | refine⟨_,_,.type "bool",true,rfl,.inl ⟨_,rfl⟩,ki.bl _,gS _ _,?_⟩
 | refine⟨_,_,.type "str",true,rfl,.inl ⟨_,rfl⟩,ki.str _,gS _ _,?_⟩
 | refine⟨_,_,.type "int",true,rfl,.inl ⟨_,rfl⟩,ki.int _,gS _ _,?_⟩
 | refine⟨_,_,.type "list",true,rfl,.inl ⟨_,rfl⟩,ki.lst (by walk_at "lk"),gS _ _,?_⟩
 | (refine And.intro ?_ ?_;· walk_at "ar")
 | refine pq ?_
 | refine pe ?_
 | refine iteNS rfl ?_)
local macro_rules | `(tactic| walk_at "rd")=>`(tactic| repeat (first | walk_at "own" | walk_at "r1"))
local macro_rules | `(tactic| walk_at "rdi")=>`(tactic| repeat (first | walk_at "own" | walk_at "r1" | ((show Nw _ _ _);intro _ _ _ _ _)))
set_option genInjectivity false
set_option genSizeOf false
noncomputable def top (i:Nat):Stmt:=PySem.Challenge.pw_pactway_k23_read.main.body.getD i (.Pass ⟨0,0,0,0⟩)
noncomputable abbrev jY:Stmt:=inClass (top 3) 0
noncomputable abbrev jB:Stmt:=inClass (top 6) 0
noncomputable abbrev jl:Stmt:=inClass (top 6) 6
noncomputable abbrev j6:Stmt:=inClass (top 7) 0
noncomputable abbrev jS:Stmt:=inClass (top 7) 4
noncomputable abbrev xG:Stmt:=inClass (top 9) 0
noncomputable abbrev jR:Stmt:=inClass (top 10) 0
noncomputable abbrev xV:Stmt:=inClass (top 12) 0
noncomputable abbrev xw:Stmt:=inClass (top 13) 0
noncomputable abbrev j7:Stmt:=inClass (top 14) 0
noncomputable abbrev xj:Stmt:=top 21
noncomputable abbrev jX:Stmt:=top 22
noncomputable abbrev qN:Stmt:=top 23
noncomputable abbrev jC:Stmt:=top 27
noncomputable abbrev jf:Stmt:=top 28
noncomputable abbrev j8:Stmt:=top 29
noncomputable abbrev xX:Stmt:=top 30
noncomputable abbrev j9:Stmt:=top 31
noncomputable abbrev jV:Stmt:=top 32
noncomputable abbrev jm:Stmt:=top 33
noncomputable abbrev jd:Stmt:=top 34
noncomputable abbrev k9:Stmt:=top 41
noncomputable abbrev jc:Stmt:=top 42
noncomputable abbrev jW:Stmt:=top 43
noncomputable abbrev jw:Stmt:=top 44
noncomputable abbrev ju:Stmt:=top 45
noncomputable abbrev xx:Stmt:=inClass (top 46) 0
noncomputable abbrev jz:Stmt:=inClass (top 46) 1
noncomputable abbrev jU:Stmt:=inClass (top 46) 2
noncomputable abbrev qA:Stmt:=inClass (top 46) 3
noncomputable abbrev q0:Stmt:=inClass (top 46) 4
noncomputable abbrev qM:Stmt:=inClass (top 46) 5
noncomputable abbrev jJ:Stmt:=inClass (top 46) 6
noncomputable abbrev jG:Stmt:=inClass (top 46) 7
noncomputable abbrev xq:Stmt:=top 48
noncomputable abbrev wo:Stmt:=top 49
noncomputable abbrev kO:Stmt:=top 50
noncomputable abbrev xl:Stmt:=top 51
noncomputable abbrev xK:Stmt:=top 52
noncomputable abbrev xJ:Stmt:=top 53
noncomputable abbrev wJ:Stmt:=top 54
noncomputable abbrev ko:Stmt:=top 55
noncomputable abbrev xY:Stmt:=top 56
noncomputable abbrev kj:Stmt:=top 57
noncomputable abbrev xB:Stmt:=top 58
noncomputable abbrev vH:Stmt:=top 59
structure Def (K:PySem.W.Frag) (mg:Str→Option Value) (x:Str) (st:Stmt) (ps:List Str) (f:Addr) (fd:FuncData):Prop where
 fn:JE K x x st f fd
 bd:Binds K fd ps []
 mg:mg x=some (.ref f)
structure gH (K:PySem.W.Frag) (x q:Str) (st:Stmt) (ps:List Str) (f:Addr) (fd:FuncData):Prop where
 fn:JE K x q st f fd
 bd:Binds K fd ps []
structure jT where
 xp:Addr
 xF:FuncData
 qO:Addr
 xh:FuncData
 gQ:Addr
 gW:FuncData
 kD:Addr
 yf:FuncData
 pH:Addr
 pW:FuncData
 vK:Addr
 gb:FuncData
 kg:Addr
 wQ:FuncData
 w4:Addr
 gk:FuncData
 xA:Addr
 kR:FuncData
 vA:Addr
 yg:FuncData
 kF:Addr
 kM:FuncData
 kZ:Addr
 kc:FuncData
 xt:Addr
 xm:FuncData
 wZ:Addr
 we:FuncData
 kn:Addr
 kJ:FuncData
 yp:Addr
 ym:FuncData
 yA:Addr
 yN:FuncData
 yc:Addr
 yt:FuncData
 vU:Addr
 vM:FuncData
 xM:Addr
 xP:FuncData
 vg:Addr
 kA:FuncData
 bJ:Addr
 bz:FuncData
 kI:Addr
 vd:FuncData
 kX:Addr
 kr:FuncData
 vt:Addr
 vc:FuncData
 vw:Addr
 kT:FuncData
 vN:Addr
 yr:FuncData
 ky:Addr
 vW:FuncData
 wX:Addr
 gj:FuncData
 xS:Addr
 vh:FuncData
 xU:Addr
 kS:FuncData
 xf:Addr
 kf:FuncData
 vL:Addr
 ya:FuncData
 vR:Addr
 yn:FuncData
 wz:Addr
 vE:FuncData
 gp:Addr
 gy:FuncData
 ff:Addr
 fW:FuncData
 bA:Addr
 bL:FuncData
 gh:Addr
 y0:FuncData
 gd:Addr
 gu:FuncData
 de:Addr
 dJ:FuncData
 mz:Addr
 mm:FuncData
 gw:Addr
 y7:FuncData
 wV:Addr
 wK:FuncData
 b8:Addr
 bD:FuncData
 mf:Addr
 dt:FuncData
 m8:Addr
 vI:Addr
 XJ:Addr
 xk:Addr
 xb:Addr
 jo:Addr
 ka:Addr
 jH:Addr
 ku:Addr
 qP:Addr
 jv:Addr
 qL:Addr
 cF:Addr
 fZ:Addr
noncomputable def yb:List Str:=["acts","any","be","by","calm","done","else","end","in","let","may","must","not","part","parties","rest","sore","to","whole"]
noncomputable def jA:List Str:=["calm","sore","end"]
noncomputable abbrev qC:Str:="abcdefghijklmnopqrstuvwxyz"
noncomputable abbrev x9:Str:="0123456789"
structure Txt (K:PySem.W.Frag) (mg:Str→Option Value) (t:jT):Prop where
 xa:gH K "__init__" "NoText.__init__" jY ["self","row"] t.xp t.xF
 kU:gH K "__init__" "Clause.__init__" jB ["self","label","who","act"] t.qO t.xh
 uJ:gH K "number" "Clause.number" jl ["self"] t.gQ t.gW
 ma:gH K "__init__" "Duty.__init__" j6 ["self","label","who","act","turns","room"] t.kD t.yf
 nu:gH K "number" "Duty.number" jS ["self"] t.pH t.pW
 cW:gH K "__init__" "Ban.__init__" xG ["self","label","who","act","room"] t.vK t.gb
 pL:gH K "__init__" "Power.__init__" jR ["self","label","who","act","room"] t.kg t.wQ
 d8:gH K "__init__" "Let.__init__" xV ["self","name","value"] t.w4 t.gk
 wG:gH K "__init__" "Part.__init__" xw ["self","name","rooms","rows"] t.xA t.kR
 mF:gH K "__init__" "Pact.__init__" j7 ["self","parties","acts","rooms","whole"] t.vA t.yg
 jM:Def K mg "is_name" xj ["word"] t.kF t.kM
 xZ:Def K mg "number_of" jX ["word"] t.kZ t.kc
 jP:Def K mg "written_with" qN ["word","signs","most"] t.xt t.xm
 wR:Def K mg "names_of" jC ["row","word","most"] t.wZ t.we
 xn:Def K mg "are_names" jf ["words","most"] t.kn t.kJ
 yH:Def K mg "room_of" j8 ["row"] t.yp t.ym
 bZ:Def K mg "let_of" xX ["row"] t.yA t.yN
 yW:Def K mg "part_of" j9 ["row"] t.yc t.yt
 vT:Def K mg "clause_of" jV ["row"] t.vU t.vM
 qH:Def K mg "fits_form" jm ["words","form"] t.xM t.xP
 ve:Def K mg "fits_place" jd ["word","place"] t.vg t.kA
 yz:Def K mg "read" k9 ["text"] t.bJ t.bz
 xg:Def K mg "read_names" jc ["rows","number","word","most","taken"] t.kI t.vd
 xo:Def K mg "told_once" jW ["names"] t.kX t.kr
 vi:Def K mg "read_rooms" jw ["rows","taken"] t.vt t.vc
 vm:Def K mg "read_whole" ju ["rows","start"] t.vw t.kT
 mZ:gH K "__init__" "Body.__init__" xx ["self"] t.vN t.yr
 x6:gH K "many_open" "Body.many_open" jz ["self"] t.ky t.vW
 fq:gH K "takes" "Body.takes" jU ["self","row"] t.wX t.gj
 wg:gH K "takes_done" "Body.takes_done" qA ["self"] t.xS t.vh
 wm:gH K "takes_head" "Body.takes_head" q0 ["self","head"] t.xU t.kS
 vy:gH K "takes_clause" "Body.takes_clause" qM ["self","clause"] t.xf t.kf
 v8:gH K "put_in" "Body.put_in" jJ ["self","row"] t.vL t.ya
 yd:gH K "closed" "Body.closed" jG ["self"] t.vR t.yn
 jF:Def K mg "_law_cell_at" xq ["_law_script","_law_k"] t.wz t.vE
 jL:Def K mg "_law_mix" wo ["_law_cell","_law_k"] t.gp t.gy
 cA:Def K mg "_law_name" kO ["_law_cell","_law_k"] t.ff t.fW
 f9:Def K mg "_law_event" xl ["_law_names","_law_cell","_law_label","_law_depth"] t.bA t.bL
 bF:Def K mg "_law_events" xK ["_law_names","_law_script"] t.gh t.y0
 hU:Def K mg "_law_header" xJ ["_law_names","_law_cell"] t.gd t.gu
 sm:Def K mg "_law_row" wJ ["_law_event_here"] t.de t.dJ
 cH:Def K mg "_law_rows" ko ["_law_header_here","_law_events_here"] t.mz t.mm
 bK:Def K mg "_law_clause" xY ["_law_row_here"] t.gw t.y7
 wa:Def K mg "_law_found" kj ["_law_rows_here"] t.wV t.wK
 xT:Def K mg "_law_right" xB ["_law_pact","_law_header_here","_law_events_here"] t.b8 t.bD
 Z3:Def K mg "law" vH ["_law_script"] t.mf t.dt
 gR:mg "list" = none
 kL:mg "len" = none
 yu:mg "range" = none
 eo:mg "all" = none
 cT:mg "int" = none
 XY:mg "str" = none
 qE:mg "isinstance" = none
 Qk:mg "bool" = none
 iH:mg "tuple" = none
 Xa:mg "zip" = none
 lS:mg "ValueError" = none
 Xo:mg "set" = none
 Qu:mg "KEPT" = some (.ref t.cF)
 u6:∃tk,mg "LETTERS" = some (.str "abcdefghijklmnopqrstuvwxyz" tk)
 uH:∃tk,mg "FIGURES" = some (.str "0123456789" tk)
 gO:∃tk,mg "MOST_LETTERS" = some (.int 8 tk)
 bQ:∃tk,mg "MOST_FIGURES" = some (.int 20 tk)
 iX:mg "MARKS" = some (.ref t.fZ)
 y3:∃tk,mg "MOST_ROOMS" = some (.int 12 tk)
 bf:∃tk,mg "MOST_PARTIES" = some (.int 4 tk)
 dq:∃tk,mg "MOST_ACTS" = some (.int 6 tk)
 mE:∃tk,mg "MOST_ROWS" = some (.int 90 tk)
 m9:∃tk,mg "MOST_OPEN" = some (.int 6 tk)
 vj:∃tk,mg "FIRST_ROOM" = some (.int 2 tk)
 tD:mg "PactError" = some (.ref t.m8)
 w6:mg "NoText" = some (.ref t.vI)
 Vm:mg "Row" = some (.ref t.XJ)
 dE:mg "Clause" = some (.ref t.xk)
 oz:mg "Duty" = some (.ref t.xb)
 dM:mg "Leave" = some (.ref t.jo)
 Q3:mg "Ban" = some (.ref t.ka)
 rA:mg "Power" = some (.ref t.jH)
 Q1:mg "Let" = some (.ref t.ku)
 pN:mg "Part" = some (.ref t.qP)
 oK:mg "Pact" = some (.ref t.jv)
 Z1:mg "Body" = some (.ref t.qL)
 QU:∃(o:Obj) (its:Array Value) (n:Nat),K.lookup t.cF=some o∧o.cls=.type "tuple"∧o.data=.seq its n∧its.size≤sizeLine∧Vals (yb.map V.str) its.toList
 i5:∃(o:Obj) (its:Array Value) (n:Nat),K.lookup t.fZ=some o∧o.cls=.type "tuple"∧o.data=.seq its n∧its.size≤sizeLine∧Vals (jA.map V.str) its.toList
 rq:dW K t.xk
 pJ:qQ K t.xk "act"
 gJ:qQ K t.xk "label"
 bh:qQ K t.xk "room"
 gK:qQ K t.xk "turns"
 pQ:qQ K t.xk "who"
 uN:Mk K t.xk t.qO
 eV:dW K t.xb
 mS:qQ K t.xb "act"
 pU:qQ K t.xb "label"
 mh:qQ K t.xb "room"
 pM:qQ K t.xb "turns"
 mO:qQ K t.xb "who"
 lL:Mk K t.xb t.kD
 sr:dW K t.jo
 fU:qQ K t.jo "act"
 bX:qQ K t.jo "label"
 pC:qQ K t.jo "room"
 gU:qQ K t.jo "turns"
 fo:qQ K t.jo "who"
 dA:Mk K t.jo t.qO
 QA:dW K t.ka
 cP:qQ K t.ka "act"
 fh:qQ K t.ka "label"
 mL:qQ K t.ka "room"
 fc:qQ K t.ka "turns"
 uk:qQ K t.ka "who"
 oG:Mk K t.ka t.vK
 tP:dW K t.jH
 fe:qQ K t.jH "act"
 bp:qQ K t.jH "label"
 pK:qQ K t.jH "room"
 gM:qQ K t.jH "turns"
 fX:qQ K t.jH "who"
 cX:Mk K t.jH t.kg
 mG:dW K t.ku
 bP:qQ K t.ku "name"
 yI:qQ K t.ku "value"
 ZQ:Mk K t.ku t.w4
 kK:dW K t.qP
 vn:qQ K t.qP "name"
 vC:qQ K t.qP "rooms"
 gc:qQ K t.qP "rows"
 fO:Mk K t.qP t.xA
 vP:dW K t.jv
 gr:qQ K t.jv "acts"
 wt:qQ K t.jv "parties"
 ye:qQ K t.jv "rooms"
 yi:qQ K t.jv "whole"
 iI:Mk K t.jv t.vA
 jt:dW K t.qL
 x5:qQ K t.qL "bodies"
 vB:qQ K t.qL "heads"
 wU:qQ K t.qL "labels"
 eK:Mk K t.qL t.vN
 xI:Meth K t.qL "many_open" t.ky
 pV:Meth K t.qL "takes" t.wX
 yq:Meth K t.qL "takes_done" t.xS
 wC:Meth K t.qL "takes_head" t.xU
 wx:Meth K t.qL "takes_clause" t.xf
 vq:Meth K t.qL "put_in" t.vL
 yk:Meth K t.qL "closed" t.vR
 u7:XD K t.vI
 kP:Ye K t.vI t.xp
 pP:qQ K t.vI "row"
 mW:ZR K t.xk "__init__" t.qO
 tI:ZR K t.jo "__init__" t.qO
 fV:PySem.W.kitOne K (.ref t.xb) (.ref t.xb)=some true
 pZ:PySem.W.kitOne K (.ref t.jo) (.ref t.xb)=some false
 gD:PySem.W.kitOne K (.ref t.jo) (.ref t.jo)=some true
 fB:PySem.W.kitOne K (.ref t.jo) (.ref t.ka)=some false
 hV:PySem.W.kitOne K (.ref t.jo) (.ref t.jH)=some false
 m7:PySem.W.kitOne K (.ref t.ka) (.ref t.xb)=some false
 cZ:PySem.W.kitOne K (.ref t.ka) (.ref t.ka)=some true
 pX:PySem.W.kitOne K (.ref t.jH) (.ref t.xb)=some false
 fR:PySem.W.kitOne K (.ref t.jH) (.ref t.ka)=some false
 g9:PySem.W.kitOne K (.ref t.jH) (.ref t.jH)=some true
 fA:PySem.W.kitOne K (.ref t.xb) (.ref t.qP)=some false
 mN:PySem.W.kitOne K (.ref t.xb) (.ref t.ku)=some false
 pY:PySem.W.kitOne K (.ref t.jo) (.ref t.qP)=some false
 fP:PySem.W.kitOne K (.ref t.jo) (.ref t.ku)=some false
 dj:PySem.W.kitOne K (.ref t.ka) (.ref t.qP)=some false
 uv:PySem.W.kitOne K (.ref t.ka) (.ref t.ku)=some false
 pB:PySem.W.kitOne K (.ref t.jH) (.ref t.qP)=some false
 fJ:PySem.W.kitOne K (.ref t.jH) (.ref t.ku)=some false
 mU:PySem.W.kitOne K (.ref t.ku) (.ref t.qP)=some false
 dO:PySem.W.kitOne K (.ref t.ku) (.ref t.ku)=some true
 gx:PySem.W.kitOne K (.ref t.qP) (.ref t.qP)=some true
 fg:PySem.W.kitOne K (.ref t.jv) (.ref t.jv)=some true
 mR:PySem.W.kitOne K (.type "int") (.type "bool")=some false
 mV:PySem.W.specialIn K (.builtin "object.__class__") "__get__" = some (some (.builtin "getset_descriptor.__get__"))
 u9:PySem.W.takesIn K (.builtin "object.__class__")=some true
 uX:PySem.W.findIn K (.ref t.xk) "__class__" = some (some (.builtin "object.__class__"))∧PySem.W.mroIn K t.xk (.type "object")=some true
 eX:PySem.W.findIn K (.ref t.xb) "__class__" = some (some (.builtin "object.__class__"))∧PySem.W.mroIn K t.xb (.type "object")=some true
 tF:PySem.W.findIn K (.ref t.jo) "__class__" = some (some (.builtin "object.__class__"))∧PySem.W.mroIn K t.jo (.type "object")=some true
 ZV:PySem.W.findIn K (.ref t.ka) "__class__" = some (some (.builtin "object.__class__"))∧PySem.W.mroIn K t.ka (.type "object")=some true
 tL:PySem.W.findIn K (.ref t.jH) "__class__" = some (some (.builtin "object.__class__"))∧PySem.W.mroIn K t.jH (.type "object")=some true
 oy:PySem.W.findIn K (.ref t.ku) "__class__" = some (some (.builtin "object.__class__"))∧PySem.W.mroIn K t.ku (.type "object")=some true
 mx:PySem.W.findIn K (.ref t.qP) "__class__" = some (some (.builtin "object.__class__"))∧PySem.W.mroIn K t.qP (.type "object")=some true
 rR:PySem.W.findIn K (.ref t.jv) "__class__" = some (some (.builtin "object.__class__"))∧PySem.W.mroIn K t.jv (.type "object")=some true
section
variable {P:Program} {w:World} {K:PySem.W.Frag} {mg:Str→Option Value} {base:Heap} {t:jT}
end
structure Good (N:Nat) (x:Str):Prop where
 lo:1≤x.length
 hi:x.length≤N
 as:asc x
structure CF (K:PySem.W.Frag) (C fI:Addr):Prop where
 cl:dW K C
 nl:qQ K C "label"
 nw:qQ K C "who"
 na:qQ K C "act"
 nt:qQ K C "turns"
 nr:qQ K C "room"
 G3:Mk K C fI
noncomputable def f3 (l w a:Str):List (Str × V):=[("label",.str l),("who",.str w),("act",.str a)]
noncomputable def f4 (l w a r:Str):List (Str × V):=[("label",.str l),("who",.str w),("act",.str a),("room",.str r)]
noncomputable def f5 (l w a:Str) (n:Int) (r:Str):List (Str × V):=[("label",.str l),("who",.str w),("act",.str a),("turns",.int n),("room",.str r)]
theorem n1:¬(("label" : Str) = "who"):=by decide +kernel
theorem n2:¬(("label" : Str) = "act"):=by decide +kernel
theorem n3:¬(("who" : Str) = "act"):=by decide +kernel
theorem n4:¬(("label" : Str) = "room"):=by decide +kernel
theorem n5:¬(("who" : Str) = "room"):=by decide +kernel
theorem n6:¬(("act" : Str) = "room"):=by decide +kernel
theorem n7:¬(("label" : Str) = "turns"):=by decide +kernel
theorem n8:¬(("who" : Str) = "turns"):=by decide +kernel
theorem n9:¬(("act" : Str) = "turns"):=by decide +kernel
theorem Gv:¬(("turns" : Str) = "room"):=by decide +kernel
theorem put3 (l w a:Str):qY "act" (.str a) (qY "who" (.str w) (qY "label" (.str l) []))=f3 l w a:=by
 simp only[qY,f3,if_neg n1,if_neg n2,if_neg n3]
theorem V0 (l w a r:Str):qY "room" (.str r) (f3 l w a)=f4 l w a r:=by
 simp only[qY,f3,f4,if_neg n4,if_neg n5,if_neg n6]
theorem WM (l w a:Str) (n:Int) (r:Str):qY "room" (.str r) (qY "turns" (.int n) (f3 l w a))=f5 l w a n r:=by
 simp only[qY,f3,f5,if_neg n7,if_neg n8,if_neg n9,if_neg n4,if_neg n5,if_neg n6,if_neg Gv]
noncomputable def uf (k:Int) (l w a:Str) (n:Int) (r:Str):List (Str × V):=if k=0 then f5 l w a n r else if k=2∨k=3 then f4 l w a r else f3 l w a
theorem qU {x:Str} {v:V} {r:List (Str × V)}:List.lookup x ((x,v) :: r)=some v:=by simp [List.lookup]
theorem qo {x y:Str} {v:V} {r:List (Str × V)} (h:¬(x=y)):List.lookup x ((y,v) :: r)=List.lookup x r:=by
 have:(x == y)=false:=beq_eq_false_iff_ne.mpr h
 simp [List.lookup,this]
theorem nN (k:Int) (l w a:Str) (n:Int) (r:Str):(uf k l w a n r).lookup ("label" : Str)=some (.str l):=by
 unfold uf;split
 ·exact qU
 ·split<;>exact qU
theorem QL (k:Int) (l w a:Str) (n:Int) (r:Str):(uf k l w a n r).lookup ("who" : Str)=some (.str w):=by
 have h:=fun q=>n1 (Eq.symm q)
 unfold uf;split
 ·exact(qo h).trans qU
 ·split<;>exact(qo h).trans qU
theorem Q5 (k:Int) (l w a:Str) (n:Int) (r:Str):(uf k l w a n r).lookup ("act" : Str)=some (.str a):=by
 have h1:=fun q=>n2 (Eq.symm q)
 have h2:=fun q=>n3 (Eq.symm q)
 unfold uf;split
 ·exact(qo h1).trans ((qo h2).trans qU)
 ·split<;>exact(qo h1).trans ((qo h2).trans qU)
theorem oI (l w a:Str) (n:Int) (r:Str):(uf 0 l w a n r).lookup ("turns" : Str)=some (.int n):=
 (qo fun q=>n7 (Eq.symm q)).trans ((qo fun q=>n8 (Eq.symm q)).trans ((qo fun q=>n9 (Eq.symm q)).trans qU))
theorem aN {k:Int} (hk:k=0∨k=2∨k=3) (l w a:Str) (n:Int) (r:Str):(uf k l w a n r).lookup ("room" : Str)=some (.str r):=by
 have h1:=fun q=>n4 (Eq.symm q)
 have h2:=fun q=>n5 (Eq.symm q)
 have h3:=fun q=>n6 (Eq.symm q)
 have h4:=fun q=>Gv (Eq.symm q)
 unfold uf
 by_cases h0:k=0
 ·rw[if_pos h0]
  exact(qo h1).trans ((qo h2).trans ((qo h3).trans ((qo h4).trans qU)))
 ·rw[if_neg h0,if_pos (hk.resolve_left h0)]
  exact(qo h1).trans ((qo h2).trans ((qo h3).trans qU))
noncomputable def br (t:jT) (k:Int):Addr:=if k=0 then t.xb else if k=1 then t.jo else if k=2 then t.ka else if k=3 then t.jH else t.xk
noncomputable def At (t:jT) (H:Hp) (p:Addr) (k:Int) (l w a:Str) (n:Int) (r:Str):Prop:=∃dx,H p=some (.ins (br t k) dx (uf k l w a n r))
noncomputable def Jq (K:PySem.W.Frag):Sp:=fun vs H Q _=>∃(p C dx fI:Addr) (l w a:Str),vs=[.ref p,.str l,.str w,.str a]∧CF K C fI∧H p=some (.ins C dx [])∧Q .non (upd H p (.ins C dx (f3 l w a)))
noncomputable def JA (K:PySem.W.Frag):Sp:=fun vs H Q _=>∃(p C dx fI:Addr) (l w a r:Str),vs=[.ref p,.str l,.str w,.str a,.str r]∧CF K C fI∧H p=some (.ins C dx [])∧Q .non (upd H p (.ins C dx (f4 l w a r)))
noncomputable def VF (K:PySem.W.Frag):Sp:=fun vs H Q _=>∃(p C dx fI:Addr) (l w a:Str) (n:Int) (r:Str),vs=[.ref p,.str l,.str w,.str a,.int n,.str r]∧CF K C fI∧H p=some (.ins C dx [])∧Q .non (upd H p (.ins C dx (f5 l w a n r)))
theorem eZ {K:PySem.W.Frag} {mg:Str→Option Value} {t:jT} (T:Txt K mg t):CF K t.xb t.kD:=⟨T.eV,T.pU,T.mO,T.mS,T.pM,T.mh,T.lL⟩
theorem sJ {K:PySem.W.Frag} {mg:Str→Option Value} {t:jT} (T:Txt K mg t):CF K t.jo t.qO:=⟨T.sr,T.bX,T.fo,T.fU,T.gU,T.pC,T.dA⟩
theorem ZU {K:PySem.W.Frag} {mg:Str→Option Value} {t:jT} (T:Txt K mg t):CF K t.ka t.vK:=⟨T.QA,T.fh,T.uk,T.cP,T.fc,T.mL,T.oG⟩
theorem sY {K:PySem.W.Frag} {mg:Str→Option Value} {t:jT} (T:Txt K mg t):CF K t.jH t.kg:=⟨T.tP,T.bp,T.fX,T.fe,T.gM,T.pK,T.cX⟩
theorem aJ {K:PySem.W.Frag} {mg:Str→Option Value} {t:jT} (T:Txt K mg t):CF K t.xk t.qO:=⟨T.rq,T.gJ,T.pQ,T.pJ,T.gK,T.bh,T.uN⟩
theorem u4 {K:PySem.W.Frag} {mg:Str→Option Value} {t:jT} (T:Txt K mg t) (k:Int):∃fI,CF K (br t k) fI:=by
 unfold br
 split
 ·exact⟨_,eZ T⟩
 split
 ·exact⟨_,sJ T⟩
 split
 ·exact⟨_,ZU T⟩
 split
 ·exact⟨_,sY T⟩
 ·exact⟨_,aJ T⟩
section
variable {K:PySem.W.Frag} {mg:Str→Option Value} {t:jT} {H:Hp} {p:Addr} {k:Int} {l w a:Str} {n:Int} {r:Str} {Q:VK}
theorem At.fl (T:Txt K mg t) (h:At t H p k l w a n r):rm K H (.ref p) "label" (.str l):=by
 obtain⟨dx,e⟩:=h
 obtain⟨fI,F⟩:=u4 T k
 exact⟨p,_,dx,_,rfl,e,F.cl,F.nl,nN _ _ _ _ _ _⟩
theorem At.fw (T:Txt K mg t) (h:At t H p k l w a n r):rm K H (.ref p) "who" (.str w):=by
 obtain⟨dx,e⟩:=h
 obtain⟨fI,F⟩:=u4 T k
 exact⟨p,_,dx,_,rfl,e,F.cl,F.nw,QL _ _ _ _ _ _⟩
theorem At.fa (T:Txt K mg t) (h:At t H p k l w a n r):rm K H (.ref p) "act" (.str a):=by
 obtain⟨dx,e⟩:=h
 obtain⟨fI,F⟩:=u4 T k
 exact⟨p,_,dx,_,rfl,e,F.cl,F.na,Q5 _ _ _ _ _ _⟩
theorem At.ft (T:Txt K mg t) (h:At t H p 0 l w a n r):rm K H (.ref p) "turns" (.int n):=by
 obtain⟨dx,e⟩:=h
 obtain⟨fI,F⟩:=u4 T 0
 exact⟨p,_,dx,_,rfl,e,F.cl,F.nt,oI _ _ _ _ _⟩
theorem At.fr (T:Txt K mg t) (h:At t H p k l w a n r) (hk:k=0∨k=2∨k=3):rm K H (.ref p) "room" (.str r):=by
 obtain⟨dx,e⟩:=h
 obtain⟨fI,F⟩:=u4 T k
 exact⟨p,_,dx,_,rfl,e,F.cl,F.nr,aN hk _ _ _ _ _⟩
end
section
variable {P:Program} {w:World} {K:PySem.W.Frag} {mg:Str→Option Value} {base:Heap} {t:jT}
theorem dN:qe ["self","label","who","act"] ["self","label","who","act"] (z4 jB):=⟨rfl,rfl,rfl,by decide +kernel,rfl,by decide +kernel,by decide +kernel⟩
set_option maxHeartbeats 400000 in
theorem vp (T:Txt K mg t):qi P w K mg base jn 1 t.qO t.xh ["self","label","who","act"] (Jq K):=by
 refine T.kU.fn.ok dN (fun vs H Q E h=>(by obtain⟨_,_,_,_,_,_,_,rfl,_⟩:=h;rfl)) (fun cdv A outer s H vs Q E hr h=>?_)
 obtain⟨p,C,dx,fI,l,w,a,rfl,F,hp,k⟩:=h
 refine⟨_,(z6 (xW (pv 0) (pv 1) rfl)
   (z6 (xW (pv 0) (pv 2) rfl)
   (z8 (xW (pv 0) (pv 3) rfl)))),?_⟩
 refine⟨_,rfl,_,rfl,p,C,dx,[],rfl,hp,F.cl,F.nl,(by show 0 < 1000;decide),?_⟩
 refine⟨_,rfl,_,rfl,p,C,dx,_,rfl,qv,F.cl,F.nw,(by show 1 < 1000;decide),?_⟩
 refine⟨_,rfl,_,rfl,p,C,dx,_,rfl,qv,F.cl,F.na,?_,?_⟩
 ·have:=xi ("who" : Str) (.str w) (qY "label" (.str l) [])
  have e:(qY ("label" : Str) (.str l) []).length=1:=rfl
  omega
 ·rw[yy,yy,put3]
  exact k
theorem rY:qe ["self","label","who","act","turns","room"] ["self","label","who","act","turns","room"] (z4 j6):=⟨rfl,rfl,rfl,by decide +kernel,rfl,by decide +kernel,by decide +kernel⟩
set_option maxHeartbeats 400000 in
theorem lK (T:Txt K mg t):qi P w K mg base jn 2 t.kD t.yf ["self","label","who","act","turns","room"] (VF K):=by
 have G_Clause_init:qi P w K mg base jn 1 t.qO t.xh ["self","label","who","act"] (Jq K):=(vp T).mono (by decide)
 refine T.ma.fn.ok rY (fun vs H Q E h=>(by obtain⟨_,_,_,_,_,_,_,_,_,rfl,_⟩:=h;rfl)) (fun cdv A outer s H vs Q E hr h=>?_)
 obtain⟨p,C,dx,fI,l,w,a,n,r,rfl,F,hp,k⟩:=h
 refine⟨_,(z6 (j0 (cf rfl T.dE T.mW G_Clause_init hr T.kU.bd .nil qJ (z0 (pv 0) (z0 (pv 1) (z0 (pv 2) (z0 (pv 3) z5))))))
   (z6 (xW (pv 0) (pv 4) rfl)
   (z8 (xW (pv 0) (pv 5) rfl)))),?_⟩
 refine⟨_,rfl,_,rfl,_,rfl,_,rfl,p,C,dx,fI,l,w,a,rfl,F,hp,?_⟩
 refine⟨_,rfl,_,rfl,p,C,dx,_,rfl,qv,F.cl,F.nt,(by show 3 < 1000;decide),?_⟩
 refine⟨_,rfl,_,rfl,p,C,dx,_,rfl,qv,F.cl,F.nr,?_,?_⟩
 ·have:=xi ("turns" : Str) (.int n) (f3 l w a)
  have e:(f3 l w a).length=3:=rfl
  omega
 ·rw[yy,yy,WM]
  exact k
theorem nj:qe ["self","label","who","act","room"] ["self","label","who","act","room"] (z4 xG):=⟨rfl,rfl,rfl,by decide +kernel,rfl,by decide +kernel,by decide +kernel⟩
set_option maxHeartbeats 400000 in
theorem sX (T:Txt K mg t):qi P w K mg base jn 2 t.vK t.gb ["self","label","who","act","room"] (JA K):=by
 have G_Clause_init:qi P w K mg base jn 1 t.qO t.xh ["self","label","who","act"] (Jq K):=(vp T).mono (by decide)
 refine T.cW.fn.ok nj (fun vs H Q E h=>(by obtain⟨_,_,_,_,_,_,_,_,rfl,_⟩:=h;rfl)) (fun cdv A outer s H vs Q E hr h=>?_)
 obtain⟨p,C,dx,fI,l,w,a,r,rfl,F,hp,k⟩:=h
 refine⟨_,(z6 (j0 (cf rfl T.dE T.mW G_Clause_init hr T.kU.bd .nil qJ (z0 (pv 0) (z0 (pv 1) (z0 (pv 2) (z0 (pv 3) z5))))))
   (z8 (xW (pv 0) (pv 4) rfl))),?_⟩
 refine⟨_,rfl,_,rfl,_,rfl,_,rfl,p,C,dx,fI,l,w,a,rfl,F,hp,?_⟩
 refine⟨_,rfl,_,rfl,p,C,dx,_,rfl,qv,F.cl,F.nr,(by show 3 < 1000;decide),?_⟩
 rw[yy,V0]
 exact k
theorem uu:qe ["self","label","who","act","room"] ["self","label","who","act","room"] (z4 jR):=⟨rfl,rfl,rfl,by decide +kernel,rfl,by decide +kernel,by decide +kernel⟩
set_option maxHeartbeats 400000 in
theorem uo (T:Txt K mg t):qi P w K mg base jn 2 t.kg t.wQ ["self","label","who","act","room"] (JA K):=by
 have G_Clause_init:qi P w K mg base jn 1 t.qO t.xh ["self","label","who","act"] (Jq K):=(vp T).mono (by decide)
 refine T.pL.fn.ok uu (fun vs H Q E h=>(by obtain⟨_,_,_,_,_,_,_,_,rfl,_⟩:=h;rfl)) (fun cdv A outer s H vs Q E hr h=>?_)
 obtain⟨p,C,dx,fI,l,w,a,r,rfl,F,hp,k⟩:=h
 refine⟨_,(z6 (j0 (cf rfl T.dM T.tI G_Clause_init hr T.kU.bd .nil qJ (z0 (pv 0) (z0 (pv 1) (z0 (pv 2) (z0 (pv 3) z5))))))
   (z8 (xW (pv 0) (pv 4) rfl))),?_⟩
 refine⟨_,rfl,_,rfl,_,rfl,_,rfl,p,C,dx,fI,l,w,a,rfl,F,hp,?_⟩
 refine⟨_,rfl,_,rfl,p,C,dx,_,rfl,qv,F.cl,F.nr,(by show 3 < 1000;decide),?_⟩
 rw[yy,V0]
 exact k
theorem yR {H:Hp} {x dx:Addr} {o o':HO} (hx:H x=none) (hdx:H dx=none) (hne:dx≠x):qg H (upd (upd (upd H dx (.own x)) x o) x o'):=by
 rw[yy]
 exact(qg.rF hdx).new (by rw[qW (Ne.symm hne)];exact hx)
end
theorem iS:x9.length=10∧x9.cps.toList=[48,49,50,51,52,53,54,55,56,57]:=by decide +kernel
theorem eG:qC.length=26∧qC.cps.toList.length=26∧∀c∈qC.cps.toList,c < 128:=by decide +kernel
noncomputable def has (z:Str) (c:Nat):Bool:=!(Builtin.Str.occurrences z ⟨#[c]⟩ 0 z.length 1).isEmpty
noncomputable def gG (x z:Str) (m:Int):Bool:=decide (1≤x.length) && decide ((x.length:Int)≤m) && x.cps.toList.all (has z)
noncomputable def qZ (x:Str):Bool:=gG x qC 8 && !Jt (.str x) (yb.map V.str)
theorem af:(yb.map V.str).all pG=true:=by decide +kernel
theorem sR (c:Nat):has x9 c=decide (48≤c∧c≤57):=by
 unfold has
 rw[StrLaws.found_one,iS.2]
 by_cases h:48≤c∧c≤57
 ·rw[decide_eq_true h]
  simp
  omega
 ·rw[decide_eq_false h]
  simp
  omega
noncomputable def y1 (x:Str):Int:=if gG x x9 20=true∧x.cps.toList.head?≠some 48 then ((PySem.NumText.digitsVal x.cps.toList:Nat):Int) else 0
noncomputable def oJ:Sp:=fun vs H Q _=>∃(x z:Str) (m:Int),vs=[.str x,.str z,.int m]∧x.length≤400∧z.length≤100∧∀H',qg H H'→Q (.bl (gG x z m)) H'
noncomputable def rB:Sp:=fun vs H Q _=>∃(x:Str),vs=[.str x]∧x.length≤400∧∀H',qg H H'→Q (.bl (qZ x)) H'
noncomputable def Zb:Sp:=fun vs H Q _=>∃(x:Str),vs=[.str x]∧x.length≤400∧∀H',qg H H'→Q (.int (y1 x)) H'
theorem QD {x z:Str} {bs:List Bool} (hl:bs.length=x.length) (h:∀(i:Nat) (c:Nat) (b:Bool),x.cps.toList[i]?=some c→bs[i]?=some b→b=has z c):bs.all id=x.cps.toList.all (has z):=by
 have e:bs=x.cps.toList.map (has z):=by
  apply List.ext_getElem?
  intro i
  rw[List.getElem?_map]
  cases q:x.cps.toList[i]? with
  | none=>
   have:x.cps.toList.length≤i:=List.getElem?_eq_none_iff.mp q
   exact List.getElem?_eq_none_iff.mpr (by rw[hl];simpa [Str.length] using this)
  | some c=>
   have hi:i < bs.length:=by
    rw[hl]
    have:=(List.getElem?_eq_some_iff.mp q).1
    simpa [Str.length] using this
   rw[List.getElem?_eq_getElem hi,Option.map_some,h i c _ q (List.getElem?_eq_getElem hi)]
 rw[e,List.all_map]
 rfl
theorem dk {x:Str} {m:Int} (h:gG x x9 m=true):1≤x.length∧(x.length:Int)≤m∧PySem.NumText.AllDigits x.cps.toList:=by
 unfold gG at h
 rw[Bool.and_eq_true,Bool.and_eq_true] at h
 obtain⟨⟨h1,h2⟩,h3⟩:=h
 refine⟨of_decide_eq_true h1,of_decide_eq_true h2,fun c hc=>?_⟩
 have:=List.all_eq_true.mp h3 c hc
 rw[sR] at this
 exact of_decide_eq_true this
theorem tE {x:Str} (h:1≤x.length):∃c,x.cps.toList.head?=some c∧ui x.cps.toList 0=some c:=by
 have hl:0 < x.cps.toList.length:=by have h':1≤x.cps.size:=h;rw[Array.length_toList];omega
 cases e:x.cps.toList with
 | nil=>rw[e] at hl;simp at hl
 | cons c r=>exact⟨c,rfl,rM (xs:=c :: r) (j:=0) (v:=c) rfl⟩
theorem K0 (c d:Nat):decide (V.str ⟨#[c]⟩=V.str ⟨#[d]⟩)=decide (c=d):=by
 by_cases h:c=d
 ·subst h;simp
 ·have:¬(V.str ⟨#[c]⟩=V.str ⟨#[d]⟩):=fun q=>h (by injection q with q;injection q with q;simpa using q)
  rw[decide_eq_false this,decide_eq_false h]
theorem Q4:("0" : Str)=⟨#[48]⟩:=by decide +kernel
section
variable {P:Program} {w:World} {K:PySem.W.Frag} {mg:Str→Option Value} {base:Heap} {t:jT}
theorem J1 (T:Txt K mg t) (H:Hp):yT K H t.cF (yb.map V.str):=.inr T.QU
theorem mw:qe ["word","signs","most"] ["word","signs","most"] (z4 qN):=⟨rfl,rfl,rfl,by decide +kernel,rfl,by decide +kernel,by decide +kernel⟩
set_option maxHeartbeats 400000 in
theorem yh (T:Txt K mg t):qi P w K mg base jn 1 t.xt t.xm ["word","signs","most"] oJ:=by
 refine T.jP.fn.ok mw (fun vs H Q E h=>(by obtain⟨_,_,_,rfl,_⟩:=h;rfl)) (fun cdv A outer s H vs Q E hr h=>?_)
 obtain⟨x,z,m,rfl,hx,hz,k⟩:=h
 refine⟨_,(z6 (qG (PW.pt (vJ (qu uD (qK mv rfl T.kL PySem.boot_len (z0 (pv 0) z5)) z7 (qt _)) (k7 (qu iU (qK mv rfl T.kL PySem.boot_len (z0 (pv 0) z5)) (pv 2) (qt _)))))
    (z8 (qw vX)) qp)
   (z8 (qw (qK (yZ rfl) rfl T.eo PyProof.Rows.boot_all (z0 (bc (osc:=z4 qN) (N:=["word","signs","most"]) (names:=["signs"]) (qD:=[1]) rfl rfl rfl ⟨rfl,by decide +kernel,by decide +kernel,by decide +kernel,rfl,rfl,by decide +kernel,by decide +kernel⟩ (Kd (pv 0)) (fun _ _ _=>(va aB (pv 0) (pv 1) rfl))) z5))))),?_⟩
 refine⟨_,rfl,x,rfl,qj (by omega),_,_,rfl,rfl,_,rfl,?_⟩
 refine je (fun h1=>pe ?_) (fun h1=>?_)
 ·have e:gG x z m=false:=by
   have:¬(1≤x.length):=by have:=of_decide_eq_true h1;omega
   simp [gG,this]
  have:=k H (qg.refl H)
  rw[e] at this
  exact this
 refine⟨_,rfl,x,rfl,qj (by omega),_,rfl,_,_,rfl,rfl,_,rfl,?_⟩
 refine je (fun h2=>?_) (fun h2=>?_)
 ·have e:gG x z m=false:=by
   have:¬((x.length:Int)≤m):=by have:=of_decide_eq_true h2;omega
   simp [gG,this]
  have:=k H (qg.refl H)
  rw[e] at this
  exact this
 have e1:1≤x.length:=by have:¬((x.length:Int) < 1):=fun q=>h1 (decide_eq_true q);omega
 have e2:(x.length:Int)≤m:=by have:¬(m < (x.length:Int)):=fun q=>h2 (decide_eq_true q);omega
 refine⟨_,rfl,x,rfl,wB (Z7 (z:=x)) (fun _ y v=>∀c,y=.str ⟨#[c]⟩→v=.bl (has z c)) (qj (by simp [Str.length] at hx ⊢;omega)) ?_ ?_⟩
 ·intro i y H' Q' hy s' kk
  rw[List.getElem?_map] at hy
  cases q:x.cps.toList[i]? with
  | none=>rw[q] at hy;cases hy
  | some c=>
   rw[q] at hy
   cases hy
   refine⟨_,rfl,_,rfl,_,_,rfl,rfl,kk _ _ (qg.refl _) fun c' e=>?_⟩
   have:c=c':=by simpa using e
   subst this
   rfl
 ·intro D H' ys s' hD hy hlen hp
  have hlen':ys.length=x.length:=by simpa [Str.length] using hlen
  obtain⟨bs,rfl⟩:=rT ys fun v hv=>by
   obtain⟨i,hi,e⟩:=List.getElem_of_mem hv
   have hix:i < x.cps.toList.length:=by rw[hlen'] at hi;simpa [Str.length] using hi
   exact⟨_,hp i _ v (by rw[List.getElem?_map,List.getElem?_eq_getElem hix];rfl) (by rw[List.getElem?_eq_getElem hi,e]) _ rfl⟩
  refine⟨D,bs,rfl,qI.of hy,?_⟩
  have e3:bs.all id=x.cps.toList.all (has z):=QD (by simpa using hlen') fun i c b q1 q2=>by
   have:=hp i (.str ⟨#[c]⟩) (.bl b) (by rw[List.getElem?_map,q1];rfl) (by rw[List.getElem?_map,q2];rfl) c rfl
   simpa using this
  have:=k H' s'
  rw[show gG x z m=bs.all id by rw[e3];simp [gG,e1,e2]] at this
  exact this
theorem lY:qe ["word"] ["word"] (z4 xj):=⟨rfl,rfl,rfl,by decide +kernel,rfl,by decide +kernel,by decide +kernel⟩
set_option maxHeartbeats 400000 in
theorem gv (T:Txt K mg t):qi P w K mg base jn 2 t.kF t.kM ["word"] rB:=by
 have G_v_written_with:qi P w K mg base jn 1 t.xt t.xm ["word","signs","most"] oJ:=(yh T).mono (by decide)
 refine T.jM.fn.ok lY (fun vs H Q E h=>(by obtain⟨_,rfl,_⟩:=h;rfl)) (fun cdv A outer s H vs Q E hr h=>?_)
 obtain⟨x,rfl,hx,k⟩:=h
 refine⟨_,(z8 (qw (nC (qf G_v_written_with hr rfl T.jP.mg T.jP.fn.kp T.jP.bd .nil qJ (z0 (pv 0) (z0 (jh rfl (T.u6).choose_spec (v:=.str qC) ⟨_,rfl⟩) (z0 (jh rfl (T.gO).choose_spec (v:=.int 8) ⟨_,rfl⟩) z5)))) (rG (va (uW (K:=K) rfl) (pv 0) (jh rfl T.Qu (v:=.ref t.cF) rfl) rfl))))),?_⟩
 refine⟨_,rfl,x,qC,8,rfl,hx,by decide +kernel,fun H' s'=>⟨_,rfl,?_⟩⟩
 refine je (fun h1=>?_) (fun h1=>?_)
 ·refine⟨_,rfl,_,_,rfl,.inr (J1 T H'),rfl,af,?_⟩
  have:=k H' s'
  rw[show qZ x = !Jt (.str x) (yb.map V.str) by simp [qZ,h1]] at this
  exact this
 ·have:=k H' s'
  rw[show qZ x=false by simp [qZ,h1]] at this
  exact this
theorem cw:qe ["word"] ["word"] (z4 jX):=⟨rfl,rfl,rfl,by decide +kernel,rfl,by decide +kernel,by decide +kernel⟩
set_option maxHeartbeats 400000 in
theorem bH (T:Txt K mg t):qi P w K mg base jn 2 t.kZ t.kc ["word"] Zb:=by
 have G_v_written_with:qi P w K mg base jn 1 t.xt t.xm ["word","signs","most"] oJ:=(yh T).mono (by decide)
 refine T.xZ.fn.ok cw (fun vs H Q E h=>(by obtain⟨_,rfl,_⟩:=h;rfl)) (fun cdv A outer s H vs Q E hr h=>?_)
 obtain⟨x,rfl,hx,k⟩:=h
 refine⟨_,(z6 (qG (PW.pt (vJ (kd (ja (qf G_v_written_with hr rfl T.jP.mg T.jP.fn.kp T.jP.bd .nil qJ (z0 (pv 0) (z0 (jh rfl (T.uH).choose_spec (v:=.str x9) ⟨_,rfl⟩) (z0 (jh rfl (T.bQ).choose_spec (v:=.int 20) ⟨_,rfl⟩) z5)))))) (k7 (qu jQ (qr bM (pv 0) z7 (fun _ _=>rfl)) qq (qt _)))))
    (z8 (qw z7)) qp)
   (z8 (qw (j4 um rfl T.cT PyProof.Rows.boot_int (z0 (pv 0) z5))))),?_⟩
 refine⟨_,rfl,x,x9,20,rfl,hx,by rw[iS.1];decide,fun H' s'=>⟨_,rfl,?_⟩⟩
 cases hw:gG x x9 20 with
 | false=>
  refine pe (pe ?_)
  have:=k H' s'
  rw[show y1 x=0 by unfold y1;rw[if_neg (by rw[hw];simp)]] at this
  exact this
 | true=>
  refine pq ?_
  obtain⟨h1,h2,h3⟩:=dk hw
  obtain⟨c,e1,e2⟩:=tE h1
  refine⟨_,rfl,x,_,c,rfl,rfl,qj (by omega),e2,rfl,_,rfl,?_⟩
  have hz:=K0 c 48
  rw[←Q4] at hz
  refine je (fun h4=>?_) (fun h4=>?_)
  ·have h4':decide (V.str ⟨#[c]⟩=V.str ("0" : Str))=true:=h4
   rw[hz] at h4'
   have hc:c=48:=of_decide_eq_true h4'
   have:=k H' s'
   rw[show y1 x=0 by unfold y1;rw[if_neg (by rw[e1,hc];simp)]] at this
   exact this
  ·have hc:c≠48:=fun q=>h4 (by show decide (V.str ⟨#[c]⟩=V.str ("0" : Str))=true;rw[hz];exact decide_eq_true q)
   have hne:x.cps.toList≠[]:=fun q=>by rw[q] at e1;cases e1
   refine⟨_,rfl,x,_,rfl,PySem.intText_digits h3 hne (by omega),by omega,?_⟩
   have:=k H' s'
   rw[show y1 x=((PySem.NumText.digitsVal x.cps.toList:Nat):Int) by unfold y1;rw[if_pos ⟨hw,by rw[e1];simpa using hc⟩]] at this
   exact this
end
local macro_rules | `(tactic| walk_at "at")=>`(tactic| first | assumption | exact At.same (by assumption) (by walk_at "sm"))
local macro_rules | `(tactic| walk_at "fld")=>`(tactic| first
 | with_reducible exact At.fl (by assumption) (by walk_at "at") | with_reducible exact At.fw (by assumption) (by walk_at "at") | with_reducible exact At.fa (by assumption) (by walk_at "at")
 | with_reducible exact At.ft (by assumption) (by walk_at "at") | with_reducible exact At.fr (by assumption) (by walk_at "at") (by first | assumption | omega))
section
variable {P:Program} {w:World} {K:PySem.W.Frag} {mg:Str→Option Value} {base:Heap} {t:jT}
end
noncomputable def v7 (x p:Str):Bool:=if p = "NAME" then qZ x else if p = "WHO" then qZ x || decide (x = "any") else if p = "NUMBER" then decide (y1 x > 0) else decide (x=p)
noncomputable def xR (ws fs:List Str):Bool:=decide (ws.length=fs.length) && (ws.zip fs).all fun p=>v7 p.1 p.2
noncomputable def pd (ws:List Str) (m:Int):Bool:=decide (1≤ws.length) && decide ((ws.length:Int)≤m) && ws.all qZ
structure Sh (ws:List Str):Prop where
 lA:ws.length≤200
 short:∀x∈ws,x.length≤400
theorem Sh.drop {ws:List Str} (h:Sh ws) (n:Nat):Sh (ws.drop n):=⟨by have:=h.lA;rw[List.length_drop];omega,fun x hx=>h.short x (List.mem_of_mem_drop hx)⟩
theorem Sh.take {ws:List Str} (h:Sh ws) (n:Nat):Sh (ws.take n):=⟨by have:=h.lA;rw[List.length_take];omega,fun x hx=>h.short x (List.mem_of_mem_take hx)⟩
theorem fQ (a b:Str):decide (V.str a=V.str b)=decide (a=b):=by
 by_cases h:a=b
 ·subst h;simp
 ·have:¬(V.str a=V.str b):=fun q=>h (by injection q)
  rw[decide_eq_false this,decide_eq_false h]
theorem dD {a b:Str} (h:decide (V.str a=V.str b)=true):a=b:=by rw[fQ] at h;exact of_decide_eq_true h
theorem dY {a b:Str} (h:¬decide (V.str a=V.str b)=true):a≠b:=fun q=>h (by rw[fQ];exact decide_eq_true q)
theorem eJ {a b:Str} (h:(!decide (V.str a=V.str b))=true):a≠b:=fun q=>by subst q;simp at h
theorem ie {a b:Str} (h:¬(!decide (V.str a=V.str b))=true):a=b:=by
 rw[fQ] at h
 by_cases q:a=b
 ·exact q
 ·exact absurd (by rw[decide_eq_false q];rfl) h
theorem cj {b:Bool} (h:(!b)=true):b=false:=by cases b;rfl;cases h
theorem d0 {b:Bool} (h:¬(!b)=true):b=true:=by cases b;exact absurd rfl h;rfl
theorem p9 {ws:List Str} {i:Nat} (h:i < ws.length):ws.getD i ""∈ws:=by
 rw[List.getD_eq_getElem?_getD,List.getElem?_eq_getElem h]
 exact List.getElem_mem h
noncomputable def iA:Sp:=fun vs H Q _=>∃(x p:Str),vs=[.str x,.str p]∧x.length≤400∧∀H',qg H H'→Q (.bl (v7 x p)) H'
noncomputable def lU (K:PySem.W.Frag):Sp:=fun vs H Q _=>∃(a b:Addr) (ws fs:List Str),vs=[.ref a,.ref b]∧qI K H a (ws.map V.str)∧qI K H b (fs.map V.str)∧Sh ws∧∀H',qg H H'→Q (.bl (xR ws fs)) H'
noncomputable def ZZ (K:PySem.W.Frag):Sp:=fun vs H Q _=>∃(a:Addr) (m:Int) (ws:List Str),vs=[.ref a,.int m]∧qI K H a (ws.map V.str)∧Sh ws∧∀H',qg H H'→Q (.bl (pd ws m)) H'
theorem all_map {α:Type} {xs:List α} {bs:List Bool} {f:α→Bool} (hl:bs.length=xs.length) (h:∀(i:Nat) x b,xs[i]?=some x→bs[i]?=some b→b=f x):bs.all id=xs.all f:=by
 have e:bs=xs.map f:=by
  apply List.ext_getElem?
  intro i
  rw[List.getElem?_map]
  cases q:xs[i]? with
  | none=>exact List.getElem?_eq_none_iff.mpr (by rw[hl];exact List.getElem?_eq_none_iff.mp q)
  | some c=>
   have hi:i < bs.length:=by rw[hl];exact(List.getElem?_eq_some_iff.mp q).1
   rw[List.getElem?_eq_getElem hi,Option.map_some,h i c _ q (List.getElem?_eq_getElem hi)]
 rw[e,List.all_map]
 rfl
section
variable {P:Program} {w:World} {K:PySem.W.Frag} {mg:Str→Option Value} {base:Heap} {t:jT}
theorem dy:qe ["word","place"] ["word","place"] (z4 jd):=⟨rfl,rfl,rfl,by decide +kernel,rfl,by decide +kernel,by decide +kernel⟩
set_option maxHeartbeats 400000 in
theorem dm (T:Txt K mg t):qi P w K mg base jn 3 t.vg t.kA ["word","place"] iA:=by
 have G_v_is_name:qi P w K mg base jn 2 t.kF t.kM ["word"] rB:=(gv T).mono (by decide)
 have G_v_number_of:qi P w K mg base jn 2 t.kZ t.kc ["word"] Zb:=(bH T).mono (by decide)
 refine T.ve.fn.ok dy (fun vs H Q E h=>(by obtain⟨_,_,rfl,_⟩:=h;rfl)) (fun cdv A outer s H vs Q E hr h=>?_)
 obtain⟨x,p,rfl,hx,k⟩:=h
 refine⟨_,(z6 (qG (qu jQ (pv 1) qq (qt _))
    (z8 (qw (qf G_v_is_name hr rfl T.jM.mg T.jM.fn.kp T.jM.bd .nil qJ (z0 (pv 0) z5)))) qp)
   (z6 (qG (qu jQ (pv 1) qq (qt _))
    (z8 (qw (VZ (qf G_v_is_name hr rfl T.jM.mg T.jM.fn.kp T.jM.bd .nil qJ (z0 (pv 0) z5)) (rG (va jQ (pv 0) qq (qt _)))))) qp)
   (z6 (qG (qu jQ (pv 1) qq (qt _))
    (z8 (qw (va iU (qf G_v_number_of hr rfl T.xZ.mg T.xZ.fn.kp T.xZ.bd .nil qJ (z0 (pv 0) z5)) z7 (qt _)))) qp)
   (z8 (qw (va jQ (pv 0) (pv 1) (qt _))))))),?_⟩
 walk_at "rd"
 refine je (fun h1=>?_) (fun h1=>?_)
 ·have e:=dD h1
  subst e
  walk_at "rd"
  intro H' s'
  have:=k H' s'
  unfold v7 at this
  rw[if_pos rfl] at this
  exact this
 have n1:=dY h1
 walk_at "rd"
 refine je (fun h2=>?_) (fun h2=>?_)
 ·have e:=dD h2
  subst e
  walk_at "rd"
  intro H' s'
  have:=k H' s'
  unfold v7 at this
  rw[if_neg n1,if_pos rfl] at this
  refine⟨_,rfl,?_⟩
  refine je (fun h3=>?_) (fun h3=>?_)
  ·rw[h3] at this;exact this
  ·walk_at "rd"
   rw[fQ]
   rw[Bool.eq_false_iff.mpr h3] at this
   exact this
 have n2:=dY h2
 walk_at "rd"
 refine je (fun h3=>?_) (fun h3=>?_)
 ·have e:=dD h3
  subst e
  walk_at "rd"
  intro H' s'
  walk_at "rd"
  have:=k H' s'
  unfold v7 at this
  rw[if_neg n1,if_neg n2,if_pos rfl] at this
  exact this
 have n3:=dY h3
 walk_at "rd"
 have:=k H (qg.refl H)
 unfold v7 at this
 rw[if_neg n1,if_neg n2,if_neg n3] at this
 rw[fQ]
 exact this
theorem ux:qe ["words","form"] ["words","form"] (z4 jm):=⟨rfl,rfl,rfl,by decide +kernel,rfl,by decide +kernel,by decide +kernel⟩
set_option maxHeartbeats 400000 in
theorem yj (T:Txt K mg t):qi P w K mg base jn 4 t.xM t.xP ["words","form"] (lU K):=by
 have G_v_fits_place:qi P w K mg base jn 3 t.vg t.kA ["word","place"] iA:=(dm T).mono (by decide)
 refine T.qH.fn.ok ux (fun vs H Q E h=>(by obtain⟨_,_,_,_,rfl,_⟩:=h;rfl)) (fun cdv A outer s H vs Q E hr h=>?_)
 obtain⟨a,b,ws,fs,rfl,hA,hB,hS,k⟩:=h
 refine⟨_,(z6 (qG (qu sE (qK (jr (K:=K) rfl) rfl T.kL PySem.boot_len (z0 (pv 0) z5)) (qK (jr (K:=K) rfl) rfl T.kL PySem.boot_len (z0 (pv 1) z5)) (qt _))
    (z8 (qw vX)) qp)
   (z8 (qw (qK (yZ rfl) rfl T.eo PyProof.Rows.boot_all (z0 (uP (osc:=z4 jm) (N:=["words","form"]) (xs:=["word","place"]) (names:=[]) (qD:=[]) rfl rfl rfl ⟨rfl,by decide +kernel,by decide +kernel,by decide +kernel,by decide +kernel,rfl,by decide +kernel,by decide +kernel⟩ (Xh (K:=K) rfl rfl T.Xa (z0 (pv 0) (z0 (pv 1) z5)) PyProof.Rows.boot_zip) (fun _ _ _=>(lD (K:=K) (n:=2) rfl rfl (yV (kz (i:=0) (show (["word","place"]:List Str).Nodup from by decide +kernel) rfl (.inl (su rfl)) (.inr (su rfl))) (yV (kz (i:=1) (show (["word","place"]:List Str).Nodup from by decide +kernel) rfl (.inl (su rfl)) (.inr (su rfl))) lC)) rfl rfl)) (fun _ _ _=>iP) (fun _ _ _=>(qf G_v_fits_place hr rfl T.ve.mg T.ve.fn.kp T.ve.bd .nil qJ (z0 (pv 0) (z0 (pv 1) z5))))) z5))))),?_⟩
 refine⟨_,rfl,a,_,rfl,.inl hA,_,rfl,b,_,rfl,.inl hB,rfl,_,rfl,?_⟩
 rw[List.length_map,List.length_map]
 refine je (fun h1=>?_) (fun h1=>?_)
 ·have:=k H (qg.refl H)
  have e:¬ws.length=fs.length:=by
   intro q;rw[q] at h1;simp at h1
  unfold xR at this
  rw[decide_eq_false e] at this
  exact this
 have hl:ws.length=fs.length:=by
  by_cases q:ws.length=fs.length
  ·exact q
  ·exact absurd (by simp;omega) h1
 refine⟨_,rfl,_,rfl,a,b,_,_,rfl,hA,hB,?_⟩
 refine Zs hA hB (fun x y v=>∀x' y',x=.str x'→y=.str y'→v=.bl (v7 x' y')) (qj (by have:=hS.lA;rw[List.length_map];omega)) ?_ ?_
 ·intro i x y H' Q' e1 e2 s' kk
  rw[List.getElem?_map] at e1 e2
  cases q1:ws[i]? with
  | none=>rw[q1] at e1;cases e1
  | some x'=>
   cases q2:fs[i]? with
   | none=>rw[q2] at e2;cases e2
   | some y'=>
    rw[q1] at e1
    rw[q2] at e2
    cases e1
    cases e2
    refine⟨_,rfl,_,rfl,x',y',rfl,hS.short x' (List.mem_of_getElem? q1),fun H4 s4=>kk _ _ s4 fun a b ea eb=>?_⟩
    cases ea
    cases eb
    rfl
 ·intro D H' vs s' hD hv hvl hp
  rw[List.length_map,List.length_map,hl,Nat.min_self] at hvl
  obtain⟨bs,rfl⟩:=rT vs fun v hv'=>by
   obtain⟨i,hi,e⟩:=List.getElem_of_mem hv'
   have h1:i < ws.length:=by omega
   have h2:i < fs.length:=by omega
   exact⟨_,hp i _ _ v (by rw[List.getElem?_map,List.getElem?_eq_getElem h1];rfl) (by rw[List.getElem?_map,List.getElem?_eq_getElem h2];rfl) (by rw[List.getElem?_eq_getElem hi,e]) _ _ rfl rfl⟩
  refine⟨D,bs,rfl,qI.of hv,?_⟩
  have e:bs.all id=(ws.zip fs).all fun p=>v7 p.1 p.2:=all_map (by rw[List.length_zip,hl,Nat.min_self];simpa using hvl) fun i p b q1 q2=>by
   rw[List.getElem?_zip_eq_some] at q1
   have:=hp i _ _ (.bl b) (by rw[List.getElem?_map,q1.1];rfl) (by rw[List.getElem?_map,q1.2];rfl) (by rw[List.getElem?_map,q2];rfl) _ _ rfl rfl
   simpa using this
  have:=k H' s'
  unfold xR at this
  rw[decide_eq_true hl,←e] at this
  exact this
theorem cJ:qe ["words","most"] ["words","most"] (z4 jf):=⟨rfl,rfl,rfl,by decide +kernel,rfl,by decide +kernel,by decide +kernel⟩
set_option maxHeartbeats 400000 in
theorem bo (T:Txt K mg t):qi P w K mg base jn 3 t.kn t.kJ ["words","most"] (ZZ K):=by
 have G_v_is_name:qi P w K mg base jn 2 t.kF t.kM ["word"] rB:=(gv T).mono (by decide)
 refine T.xn.fn.ok cJ (fun vs H Q E h=>(by obtain⟨_,_,_,rfl,_⟩:=h;rfl)) (fun cdv A outer s H vs Q E hr h=>?_)
 obtain⟨a,m,ws,rfl,hA,hS,k⟩:=h
 refine⟨_,(z8 (qw (nC (ZW XM XM z7 (qK (jr (K:=K) rfl) rfl T.kL PySem.boot_len (z0 (pv 0) z5)) (pv 1)) (rG (qK (yZ rfl) rfl T.eo PyProof.Rows.boot_all (z0 (bc (osc:=z4 jf) (N:=["words","most"]) (names:=[]) (qD:=[]) rfl rfl rfl ⟨rfl,by decide +kernel,by decide +kernel,by decide +kernel,rfl,rfl,by decide +kernel,by decide +kernel⟩ (wD (K:=K) rfl (pv 0)) (fun _ _ _=>(qf G_v_is_name hr rfl T.jM.mg T.jM.fn.kp T.jM.bd .nil qJ (z0 (pv 0) z5)))) z5)))))),?_⟩
 walk_at "rd"
 refine⟨a,_,rfl,.inl hA,_,_,rfl,rfl,_,rfl,?_⟩
 rw[List.length_map]
 have no:∀H',qg H H'→pd ws m=false→Q (.bl false) H':=fun H' s' e=>by have:=k H' s';rw[e] at this;exact this
 refine je (fun h1=>?_) (fun h1=>?_)
 ·have h1':1≤ws.length:=by have:=of_decide_eq_true h1;omega
  refine⟨_,rfl,_,_,rfl,rfl,_,rfl,?_⟩
  refine je (fun h2=>?_) (fun h2=>?_)
  ·have h2':(ws.length:Int)≤m:=of_decide_eq_true h2
   refine⟨_,rfl,a,rfl,⟨_,hA⟩,wB (bC hA) (fun _ y v=>∀x,y=.str x→v=.bl (qZ x)) (qj (by have:=hS.lA;rw[List.length_map];omega)) ?_ ?_⟩
   ·intro i y H' Q' e1 s' kk
    rw[List.getElem?_map] at e1
    cases q1:ws[i]? with
    | none=>rw[q1] at e1;cases e1
    | some x'=>
     rw[q1] at e1
     cases e1
     exact⟨_,rfl,x',rfl,hS.short x' (List.mem_of_getElem? q1),fun H4 s4=>kk _ _ s4 fun a ea=>by cases ea;rfl⟩
   ·intro D H' vs s' hD hv hvl hp
    rw[List.length_map] at hvl
    obtain⟨bs,rfl⟩:=rT vs fun v hv'=>by
     obtain⟨i,hi,e⟩:=List.getElem_of_mem hv'
     have h1:i < ws.length:=by omega
     exact⟨_,hp i _ v (by rw[List.getElem?_map,List.getElem?_eq_getElem h1];rfl) (by rw[List.getElem?_eq_getElem hi,e]) _ rfl⟩
    refine⟨D,bs,rfl,qI.of hv,?_⟩
    have e:bs.all id=ws.all qZ:=all_map (by simpa using hvl) fun i p b q1 q2=>by
     have:=hp i _ (.bl b) (by rw[List.getElem?_map,q1];rfl) (by rw[List.getElem?_map,q2];rfl) _ rfl
     simpa using this
    have:=k H' s'
    unfold pd at this
    rw[decide_eq_true h1',decide_eq_true h2',←e] at this
    exact this
  ·refine no H (qg.refl H) ?_
   have:¬(ws.length:Int)≤m:=fun q=>h2 (decide_eq_true q)
   simp [pd,this]
 ·refine⟨false,rfl,pq ?_⟩
  refine no H (qg.refl H) ?_
  have:¬1≤ws.length:=fun q=>h1 (decide_eq_true (by omega))
  simp only[pd,decide_eq_false this,Bool.false_and]
end
noncomputable def vO (x:Str):List Str:=Txt.split x " "
theorem da (x:Str):1≤(vO x).length∧(vO x).length≤x.length + 2:=⟨PyProof.Rows.split_pos x " ",PyProof.Rows.split_le x " "⟩
theorem cM {x:Str} (h:x.length≤190):Sh (vO x):=⟨by have:=(da x).2;omega,fun y hy=>by have:=PyProof.Rows.part_short (x:=x) (y:=" ") hy;omega⟩
theorem bV {α:Type} (f:α→V) (xs:List α) (n:Nat):bB (xs.map f) (some (n:Int)) none=(xs.drop n).map f:=by
 unfold bB
 rw[HT.pz,HT.tJ,List.length_map,←List.map_drop,←List.map_take]
 by_cases h:n≤xs.length
 ·rw[Nat.min_eq_left h,List.take_of_length_le (by rw[List.length_drop];omega)]
 ·rw[Nat.min_eq_right (by omega),Nat.sub_self,List.drop_eq_nil_of_le (Nat.le_refl _),List.drop_eq_nil_of_le (by omega)]
  rfl
theorem tG {α:Type} (f:α→V) (xs:List α) (n:Nat):bB (xs.map f) none (some (n:Int))=(xs.take n).map f:=by
 unfold bB
 rw[HT.pz,HT.tJ,List.length_map,List.drop_zero,Nat.sub_zero,←List.map_take]
 by_cases h:n≤xs.length
 ·rw[Nat.min_eq_left h]
 ·rw[Nat.min_eq_right (by omega),List.take_length,List.take_of_length_le (by omega)]
noncomputable def wd (ws:List Str) (i:Nat):Str:=ws.getD i ""
noncomputable def Zn:List Str:=["let","NAME","be","NAME"]
noncomputable def cE:List Str:=["part","NAME"]
noncomputable def iJ:List Str:=["NAME","NAME","must","NAME","by","NUMBER","else","NAME"]
noncomputable def lJ:List Str:=["NAME","WHO","may","NAME"]
noncomputable def Jr:List Str:=["NAME","WHO","may","not","NAME","else","NAME"]
noncomputable def oP:List Str:=["NAME","WHO","by","NAME","to","NAME"]
noncomputable def km (ws:List Str) (x:Str) (m:Int):List Str:=if wd ws 0≠x∨pd (ws.drop 1) m=false then [] else ws.drop 1
noncomputable def bb (ws:List Str):Option (Str × Str):=if ws.length=2∧Jt (.str (wd ws 0)) (jA.map V.str)=true∧qZ (wd ws 1)=true then some (wd ws 0,wd ws 1) else none
noncomputable def aV (ws:List Str):Option (Str × Str):=if xR ws Zn=true then some (wd ws 1,wd ws 3) else none
noncomputable def vZ (ws:List Str):Option (Str × List Str):=if xR (ws.take 2) cE=true then (if ws.length=2 then some (wd ws 1,[]) else if wd ws 2≠"in"∨pd (ws.drop 3) 12=false then none else some (wd ws 1,ws.drop 3)) else none
noncomputable def jK (ws:List Str):Option (Int × Str × Str × Str × Int × Str):=
 if xR ws iJ=true then some (0,wd ws 0,wd ws 1,wd ws 3,y1 (wd ws 5),wd ws 7)
 else if xR ws lJ=true then some (1,wd ws 0,wd ws 1,wd ws 3,0,"")
 else if xR ws Jr=true then some (2,wd ws 0,wd ws 1,wd ws 4,0,wd ws 6)
 else if xR ws oP=true then some (3,wd ws 0,wd ws 1,wd ws 3,0,wd ws 5)
 else none
theorem yP {ws fs:List Str} (h:xR ws fs=true):ws.length=fs.length:=by
 unfold xR at h
 rw[Bool.and_eq_true] at h
 exact of_decide_eq_true h.1
noncomputable def Wn (n v:Str):List (Str × V):=[("name",.str n),("value",.str v)]
noncomputable def nY (n:Str) (a b:Addr):List (Str × V):=[("name",.str n),("rooms",.ref a),("rows",.ref b)]
theorem m1:¬(("name" : Str) = "value"):=by decide +kernel
theorem m2:¬(("name" : Str) = "rooms"):=by decide +kernel
theorem m3:¬(("name" : Str) = "rows"):=by decide +kernel
theorem m4:¬(("rooms" : Str) = "rows"):=by decide +kernel
theorem Vn (n v:Str):qY "value" (.str v) (qY "name" (.str n) [])=Wn n v:=by
 simp only[qY,Wn,if_neg m1]
theorem Wq (n:Str) (a b:Addr):qY "rows" (.ref b) (qY "rooms" (.ref a) (qY "name" (.str n) []))=nY n a b:=by
 simp only[qY,nY,if_neg m2,if_neg m3,if_neg m4]
noncomputable def XS (t:jT) (H:Hp) (p:Addr) (n v:Str):Prop:=∃dx,H p=some (.ins t.ku dx (Wn n v))
noncomputable def QP (t:jT) (H0 H:Hp) (p:Addr) (n:Str) (rs:List Str) (ys:List V):Prop:=∃dx a b,H p=some (.ins t.qP dx (nY n a b))∧H a=some (.lst (rs.map V.str))∧H b=some (.lst ys)∧H0 a=none∧H0 b=none
noncomputable abbrev GL (t:jT) (H0 H:Hp) (p:Addr) (n:Str) (rs:List Str):Prop:=QP t H0 H p n rs []
theorem QP.back {t:jT} {H0 H1 H:Hp} {p:Addr} {n:Str} {rs:List Str} {ys:List V} (h:QP t H1 H p n rs ys) (s:qg H0 H1):QP t H0 H p n rs ys:=by
 obtain⟨dx,a,b,e1,e2,e3,f1,f2⟩:=h
 exact⟨dx,a,b,e1,e2,e3,s.free f1,s.free f2⟩
noncomputable def Off (p:Addr) (H H':Hp):Prop:=∀b o,b≠p→H b=some o→H' b=some o
noncomputable def VX (t:jT):Sp:=fun vs H Q _=>∃(p dx:Addr) (n v:Str),vs=[.ref p,.str n,.str v]∧H p=some (.ins t.ku dx [])∧Q .non (upd H p (.ins t.ku dx (Wn n v)))
noncomputable def JS (K:PySem.W.Frag) (t:jT):Sp:=fun vs H Q _=>∃(p dx a b:Addr) (n:Str) (xs:List Str) (ys:List V),vs=[.ref p,.str n,.ref a,.ref b]∧H p=some (.ins t.qP dx [])∧H a=some (.lst (xs.map V.str))∧H b=some (.lst ys)∧
 ∀H',Off p H H'→QP t H H' p n xs ys→Q .non H'
noncomputable def Xe:Sp:=fun vs H Q _=>∃(x y:Str) (m:Int),vs=[.str x,.str y,.int m]∧x.length≤190∧∀l H',qg H H'→H l=none→H' l=some (.lst ((km (vO x) y m).map V.str))→Q (.ref l) H'
noncomputable def QY:Sp:=fun vs H Q _=>∃(x:Str),vs=[.str x]∧x.length≤190∧∀H',qg H H'→(bb (vO x)=none→Q .non H')∧∀p m n,bb (vO x)=some (m,n)→H p=none→H' p=some (.tup [.str m,.str n])→Q (.ref p) H'
noncomputable def Xf (t:jT):Sp:=fun vs H Q _=>∃(x:Str),vs=[.str x]∧x.length≤190∧∀H',qg H H'→(aV (vO x)=none→Q .non H')∧∀p n v,aV (vO x)=some (n,v)→H p=none→XS t H' p n v→Q (.ref p) H'
noncomputable def QN (t:jT):Sp:=fun vs H Q _=>∃(x:Str),vs=[.str x]∧x.length≤190∧∀H',qg H H'→(vZ (vO x)=none→Q .non H')∧∀p n rs,vZ (vO x)=some (n,rs)→H p=none→GL t H H' p n rs→Q (.ref p) H'
noncomputable def tj (t:jT):Sp:=fun vs H Q _=>∃(x:Str),vs=[.str x]∧x.length≤190∧∀H',qg H H'→(jK (vO x)=none→Q .non H')∧∀p k l u a n r,jK (vO x)=some (k,l,u,a,n,r)→H p=none→At t H' p k l u a n r→Q (.ref p) H'
theorem yl {H:Hp} {p dx:Addr} {o o2:HO} (hp:H p=none) (hdx:H dx=none):qg H (upd (upd H dx o) p o2):=fun b u e=>by rw[qW (qk e hp),qW (qk e hdx)];exact e
theorem tS {H H':Hp} {p dx:Addr} {o o2:HO} (hp:H p=none) (hdx:H dx=none) (f:Off p (upd (upd H dx o) p o2) H'):qg H H':=fun b u e=>f b u (qk e hp) (yl hp hdx b u e)
section
variable {P:Program} {w:World} {K:PySem.W.Frag} {mg:Str→Option Value} {base:Heap} {t:jT}
theorem ZO (T:Txt K mg t) (H:Hp):yT K H t.fZ (jA.map V.str):=.inr T.i5
theorem oo:(jA.map V.str).all pG=true:=by decide +kernel
theorem tW:qe ["self","name","value"] ["self","name","value"] (z4 xV):=⟨rfl,rfl,rfl,by decide +kernel,rfl,by decide +kernel,by decide +kernel⟩
set_option maxHeartbeats 400000 in
theorem tH (T:Txt K mg t):qi P w K mg base jn 1 t.w4 t.gk ["self","name","value"] (VX t):=by
 refine T.d8.fn.ok tW (fun vs H Q E h=>(by obtain⟨_,_,_,_,rfl,_⟩:=h;rfl)) (fun cdv A outer s H vs Q E hr h=>?_)
 obtain⟨p,dx,n,v,rfl,hp,k⟩:=h
 refine⟨_,(z6 (xW (pv 0) (pv 1) rfl)
   (z8 (xW (pv 0) (pv 2) rfl))),?_⟩
 refine⟨_,rfl,_,rfl,p,_,dx,[],rfl,hp,T.mG,T.bP,(by show 0 < 1000;decide),?_⟩
 refine⟨_,rfl,_,rfl,p,_,dx,_,rfl,qv,T.mG,T.yI,(by show 1 < 1000;decide),?_⟩
 rw[yy,Vn]
 exact k
theorem rH:qe ["self","name","rooms","rows"] ["self","name","rooms","rows"] (z4 xw):=⟨rfl,rfl,rfl,by decide +kernel,rfl,by decide +kernel,by decide +kernel⟩
set_option maxHeartbeats 400000 in
theorem y8 (T:Txt K mg t):qi P w K mg base jn 1 t.xA t.kR ["self","name","rooms","rows"] (JS K t):=by
 refine T.wG.fn.ok rH (fun vs H Q E h=>(by obtain⟨_,_,_,_,_,_,_,rfl,_⟩:=h;rfl)) (fun cdv A outer s H vs Q E hr h=>?_)
 obtain⟨p,dx,a,b,n,xs,ys,rfl,hp,hA,hB,k⟩:=h
 refine⟨_,(z6 (xW (pv 0) (pv 1) rfl)
   (z6 (xW (pv 0) (j4 (gE (K:=K) rfl) rfl T.gR PyProof.Rows.boot_list (z0 (pv 2) z5)) rfl)
   (z8 (xW (pv 0) (j4 (gE (K:=K) rfl) rfl T.gR PyProof.Rows.boot_list (z0 (pv 3) z5)) rfl)))),?_⟩
 have na:a≠p:=fN hA hp (by intro z;cases z)
 have nb:b≠p:=fN hB hp (by intro z;cases z)
 refine⟨_,rfl,_,rfl,p,_,dx,[],rfl,hp,T.kK,T.vn,(by show 0 < 1000;decide),?_⟩
 have o1:Off p H (upd H p (.ins t.qP dx (qY "name" (.str n) []))):=fun c o hc e=>by rw[qW hc];exact e
 generalize hH1:upd H p (.ins t.qP dx (qY "name" (.str n) []))=H1 at o1 ⊢
 have e1:H1 p=some (.ins t.qP dx (qY "name" (.str n) [])):=by rw[←hH1];exact qv
 refine⟨_,rfl,a,_,rfl,.inl (qI.of (o1 _ _ na hA)),?_⟩
 intro q1 H2 s2 hq1 e2
 refine⟨_,rfl,p,_,dx,_,rfl,s2 _ _ e1,T.kK,T.vC,(by show 1 < 1000;decide),?_⟩
 have nq1:q1≠p:=Ne.symm (qk e1 hq1)
 have o2:Off p H2 (upd H2 p (.ins t.qP dx (qY "rooms" (.ref q1) (qY "name" (.str n) [])))):=fun c o hc e=>by rw[qW hc];exact e
 generalize hH3:upd H2 p (.ins t.qP dx (qY "rooms" (.ref q1) (qY "name" (.str n) [])))=H3 at o2 ⊢
 have e3:H3 p=some (.ins t.qP dx (qY "rooms" (.ref q1) (qY "name" (.str n) []))):=by rw[←hH3];exact qv
 refine⟨_,rfl,b,_,rfl,.inl (qI.of (o2 _ _ nb (s2 _ _ (o1 _ _ nb hB)))),?_⟩
 intro q2 H4 s4 hq2 e4
 refine⟨_,rfl,p,_,dx,_,rfl,s4 _ _ e3,T.kK,T.gc,?_,?_⟩
 ·have:=xi ("rooms" : Str) (.ref q1) (qY "name" (.str n) [])
  have e:(qY ("name" : Str) (.str n) []).length=1:=rfl
  omega
 have nq2:q2≠p:=Ne.symm (qk e3 hq2)
 rw[Wq]
 refine k _ (fun c o hc e=>by rw[qW hc];exact s4 _ _ (o2 _ _ hc (s2 _ _ (o1 _ _ hc e)))) ⟨dx,q1,q2,qv,?_,?_,?_,?_⟩
 ·rw[qW nq1];exact s4 _ _ (o2 _ _ nq1 e2)
 ·rw[qW nq2];exact e4
 ·rw[←hH1,qW nq1] at hq1;exact hq1
 ·have z:H2 q2=none:=by rw[←hH3,qW nq2] at hq2;exact hq2
  have z1:=s2.free z
  rw[←hH1,qW nq2] at z1;exact z1
theorem pR:qe ["row","word","most","words"] ["row","word","most"] (z4 jC):=⟨rfl,rfl,rfl,by decide +kernel,rfl,by decide +kernel,by decide +kernel⟩
set_option maxHeartbeats 400000 in
theorem ur (T:Txt K mg t):qi P w K mg base jn 4 t.wZ t.we ["row","word","most"] Xe:=by
 have G_v_are_names:qi P w K mg base jn 3 t.kn t.kJ ["words","most"] (ZZ K):=(bo T).mono (by decide)
 refine T.wR.fn.ok pR (fun vs H Q E h=>(by obtain⟨_,_,_,rfl,_⟩:=h;rfl)) (fun cdv A outer s H vs Q E hr h=>?_)
 obtain⟨x,y,m,rfl,hx,k⟩:=h
 refine⟨_,(z6 (qX (i:=3) pR.nd rfl (Or.inl rfl) (kh PySem.F.plainAttrs_str PySem.F.slot_str_split PySem.F.type_str_split yF (pv 0) (z0 qq z5)))
   (z6 (qG (PW.pt (vJ (qu sE (qr (qy (K:=K) rfl) (pv 3) z7 (fun _ _=>rfl)) (pv 1) (qt _)) (k7 (kd (ja (qf G_v_are_names hr rfl T.xn.mg T.xn.fn.kp T.xn.bd .nil qJ (z0 (vz (kN (K:=K) rfl) (pv 3) (vb z7) yO) (z0 (pv 2) z5))))))))
    (z8 (qw (qS z5))) qp)
   (z8 (qw (vz (kN (K:=K) rfl) (pv 3) (vb z7) yO))))),?_⟩
 walk_at "rd"
 refine⟨qj (by omega),?_⟩
 intro lw H1 s1 hlw e1
 have hS:=cM hx
 have hl:=(da x).1
 have e1':H1 lw=some (.lst ((vO x).map V.str)):=e1
 clear e1
 generalize vO x=ws at *
 walk_at "rd"
 refine je (fun h1=>?_) (fun h1=>?_)
 ·have n:km ws y m=[]:=if_pos (.inl (eJ h1))
  walk_at "rd"
  intro l H2 s2 hl2 e2
  exact k l H2 (s1.trans s2) (s1.free hl2) (by rw[n];exact e2)
 have w0:=ie h1
 walk_at "rd"
 intro lc H2 s2 hlc e2
 replace e2:H2 lc=some (.lst ((ws.drop 1).map V.str)):=by rw[←bV V.str ws 1];exact e2
 refine⟨_,rfl,lc,m,_,rfl,qI.of e2,hS.drop 1,fun H3 s3=>?_⟩
 walk_at "rd"
 cases hN:pd (ws.drop 1) m with
 | false=>
  refine pe ?_
  have n:km ws y m=[]:=if_pos (.inr hN)
  walk_at "rd"
  intro l H4 s4 hl4 e4
  exact k l H4 (((s1.trans s2).trans s3).trans s4) (((s1.trans s2).trans s3).free hl4) (by rw[n];exact e4)
 | true=>
  refine pq ?_
  have n:km ws y m=ws.drop 1:=if_neg (fun q=>q.elim (fun q=>q w0) (fun q=>by rw[hN] at q;cases q))
  walk_at "rd"
  intro l H4 s4 hl4 e4
  replace e4:H4 l=some (.lst ((ws.drop 1).map V.str)):=by rw[←bV V.str ws 1];exact e4
  exact k l H4 (((s1.trans s2).trans s3).trans s4) (((s1.trans s2).trans s3).free hl4) (by rw[n];exact e4)
theorem fT:qe ["row","words"] ["row"] (z4 j8):=⟨rfl,rfl,rfl,by decide +kernel,rfl,by decide +kernel,by decide +kernel⟩
set_option maxHeartbeats 400000 in
theorem rL (T:Txt K mg t):qi P w K mg base jn 3 t.yp t.ym ["row"] QY:=by
 have G_v_is_name:qi P w K mg base jn 2 t.kF t.kM ["word"] rB:=(gv T).mono (by decide)
 refine T.yH.fn.ok fT (fun vs H Q E h=>(by obtain⟨_,rfl,_⟩:=h;rfl)) (fun cdv A outer s H vs Q E hr h=>?_)
 obtain⟨x,rfl,hx,k⟩:=h
 refine⟨_,(z6 (qX (i:=1) fT.nd rfl (Or.inl rfl) (kh PySem.F.plainAttrs_str PySem.F.slot_str_split PySem.F.type_str_split yF (pv 0) (z0 qq z5)))
   (z6 (qG (PW.pt (vJ (qu sE (qK (jr (K:=K) rfl) rfl T.kL PySem.boot_len (z0 (pv 1) z5)) z7 (qt _)) (vJ (qu (uW (K:=K) rfl) (qr (qy (K:=K) rfl) (pv 1) z7 (fun _ _=>rfl)) (jh rfl T.iX (v:=.ref t.fZ) rfl) rfl) (k7 (kd (ja (qf G_v_is_name hr rfl T.jM.mg T.jM.fn.kp T.jM.bd .nil qJ (z0 (qr (qy (K:=K) rfl) (pv 1) z7 (fun _ _=>rfl)) z5))))))))
    (z8 (qw y9)) qp)
   (z8 (qw (jN (z0 (qr (qy (K:=K) rfl) (pv 1) z7 (fun _ _=>rfl)) (z0 (qr (qy (K:=K) rfl) (pv 1) z7 (fun _ _=>rfl)) z5))))))),?_⟩
 walk_at "rd"
 refine⟨qj (by omega),?_⟩
 intro lw H1 s1 hlw e1
 have hS:=cM hx
 have e1':H1 lw=some (.lst ((vO x).map V.str)):=e1
 clear e1
 generalize vO x=ws at *
 refine⟨_,rfl,lw,_,rfl,.inl (qI.of e1'),rfl,_,rfl,?_⟩
 rw[List.length_map]
 have no:∀H',qg H H'→bb ws=none→Q .non H':=fun H' s' e=>(k H' s').1 e
 refine je (fun h1=>pe (no _ s1 (if_neg fun q=>?_))) (fun h1=>?_)
 ·rw[q.1] at h1;simp at h1
 have hl:ws.length=2:=by
  by_cases q:ws.length=2
  ·exact q
  ·exact absurd (by simp;omega) h1
 walk_at "rd"
 refine⟨_,_,rfl,.inr (ZO T _),rfl,oo,_,rfl,?_⟩
 refine je (fun h2=>pe (no _ s1 (if_neg fun q=>?_))) (fun h2=>?_)
 ·have z:Jt (.str (wd ws 0)) (jA.map V.str)=false:=cj h2
  rw[z] at q
  cases q.2.1
 have hM:Jt (.str (wd ws 0)) (jA.map V.str)=true:=d0 h2
 walk_at "rd"
 refine⟨hS.short _ (p9 (by omega)),fun H2 s2=>?_⟩
 walk_at "rd"
 refine je (fun h3=>no _ (s1.trans s2) (if_neg fun q=>?_)) (fun h3=>?_)
 ·have z:qZ (wd ws 1)=false:=cj h3
  rw[z] at q
  cases q.2.2
 have hN:qZ (wd ws 1)=true:=d0 h3
 walk_at "rd"
 intro p H3 s3 hp e3
 exact(k H3 ((s1.trans s2).trans s3)).2 p (wd ws 0) (wd ws 1) (if_pos ⟨hl,hM,hN⟩) ((s1.trans s2).free hp) e3
theorem m6:qe ["row","words"] ["row"] (z4 xX):=⟨rfl,rfl,rfl,by decide +kernel,rfl,by decide +kernel,by decide +kernel⟩
set_option maxHeartbeats 400000 in
theorem nV (T:Txt K mg t):qi P w K mg base jn 5 t.yA t.yN ["row"] (Xf t):=by
 have G_v_fits_form:qi P w K mg base jn 4 t.xM t.xP ["words","form"] (lU K):=(yj T).mono (by decide)
 have M_Let_init:qi P w K mg base jn 3 t.w4 t.gk ["self","name","value"] (VX t):=(tH T).mono (by decide)
 refine T.bZ.fn.ok m6 (fun vs H Q E h=>(by obtain⟨_,rfl,_⟩:=h;rfl)) (fun cdv A outer s H vs Q E hr h=>?_)
 obtain⟨x,rfl,hx,k⟩:=h
 refine⟨_,(z6 (qX (i:=1) m6.nd rfl (Or.inl rfl) (kh PySem.F.plainAttrs_str PySem.F.slot_str_split PySem.F.type_str_split yF (pv 0) (z0 qq z5)))
   (z6 (qG (kd (ja (qf G_v_fits_form hr rfl T.qH.mg T.qH.fn.kp T.qH.bd .nil qJ (z0 (pv 1) (z0 (qS (z0 qq (z0 qq (z0 qq (z0 qq z5))))) z5)))))
    (z8 (qw y9)) qp)
   (z8 (qw (vD T.ZQ M_Let_init hr rfl T.Q1 T.d8.bd .nil qJ (z0 (qr (qy (K:=K) rfl) (pv 1) z7 (fun _ _=>rfl)) (z0 (qr (qy (K:=K) rfl) (pv 1) z7 (fun _ _=>rfl)) z5))))))),?_⟩
 walk_at "rd"
 refine⟨qj (by omega),?_⟩
 intro lw H1 s1 hlw e1
 have hS:=cM hx
 have e1':H1 lw=some (.lst ((vO x).map V.str)):=e1
 clear e1
 generalize vO x=ws at *
 walk_at "rd"
 intro lf H2 s2 hlf e2
 refine⟨lw,lf,ws,Zn,rfl,qI.of (s2 _ _ e1'),qI.of e2,hS,fun H3 s3=>?_⟩
 walk_at "rd"
 refine je (fun h3=>(k _ ((s1.trans s2).trans s3)).1 (if_neg fun q=>?_)) (fun h3=>?_)
 ·have z:xR ws Zn=false:=cj h3
  rw[z] at q
  cases q
 have hF:xR ws Zn=true:=d0 h3
 have hl:ws.length=4:=yP hF
 walk_at "rd"
 intro p dx hp hdx hne
 refine⟨p,dx,_,_,rfl,qv,rfl,?_⟩
 exact(k _ (((s1.trans s2).trans s3).trans (yR hp hdx hne))).2 p _ _ (if_pos hF) (((s1.trans s2).trans s3).free hp) ⟨dx,qv⟩
theorem fD:qe ["row","words"] ["row"] (z4 j9):=⟨rfl,rfl,rfl,by decide +kernel,rfl,by decide +kernel,by decide +kernel⟩
set_option maxHeartbeats 400000 in
theorem lQ (T:Txt K mg t):qi P w K mg base jn 5 t.yc t.yt ["row"] (QN t):=by
 have G_v_are_names:qi P w K mg base jn 4 t.kn t.kJ ["words","most"] (ZZ K):=(bo T).mono (by decide)
 have G_v_fits_form:qi P w K mg base jn 4 t.xM t.xP ["words","form"] (lU K):=(yj T).mono (by decide)
 have M_Part_init:qi P w K mg base jn 3 t.xA t.kR ["self","name","rooms","rows"] (JS K t):=(y8 T).mono (by decide)
 refine T.yW.fn.ok fD (fun vs H Q E h=>(by obtain⟨_,rfl,_⟩:=h;rfl)) (fun cdv A outer s H vs Q E hr h=>?_)
 obtain⟨x,rfl,hx,k⟩:=h
 refine⟨_,(z6 (qX (i:=1) fD.nd rfl (Or.inl rfl) (kh PySem.F.plainAttrs_str PySem.F.slot_str_split PySem.F.type_str_split yF (pv 0) (z0 qq z5)))
   (z6 (qG (kd (ja (qf G_v_fits_form hr rfl T.qH.mg T.qH.fn.kp T.qH.bd .nil qJ (z0 (vz (kN (K:=K) rfl) (pv 1) yO (vb z7)) (z0 (qS (z0 qq (z0 qq z5))) z5)))))
    (z8 (qw y9)) qp)
   (z6 (qG (qu jQ (qK (jr (K:=K) rfl) rfl T.kL PySem.boot_len (z0 (pv 1) z5)) z7 (qt _))
    (z8 (qw (vD T.fO M_Part_init hr rfl T.pN T.wG.bd .nil qJ (z0 (qr (qy (K:=K) rfl) (pv 1) z7 (fun _ _=>rfl)) (z0 (qS z5) (z0 (qS z5) z5)))))) qp)
   (z6 (qG (PW.pt (vJ (qu sE (qr (qy (K:=K) rfl) (pv 1) z7 (fun _ _=>rfl)) qq (qt _)) (k7 (kd (ja (qf G_v_are_names hr rfl T.xn.mg T.xn.fn.kp T.xn.bd .nil qJ (z0 (vz (kN (K:=K) rfl) (pv 1) (vb z7) yO) (z0 (jh rfl (T.y3).choose_spec (v:=.int 12) ⟨_,rfl⟩) z5))))))))
    (z8 (qw y9)) qp)
   (z8 (qw (vD T.fO M_Part_init hr rfl T.pN T.wG.bd .nil qJ (z0 (qr (qy (K:=K) rfl) (pv 1) z7 (fun _ _=>rfl)) (z0 (vz (kN (K:=K) rfl) (pv 1) (vb z7) yO) (z0 (qS z5) z5)))))))))),?_⟩
 walk_at "rd"
 refine⟨qj (by omega),?_⟩
 intro lw H1 s1 hlw e1
 have hS:=cM hx
 have e1':H1 lw=some (.lst ((vO x).map V.str)):=e1
 clear e1
 generalize vO x=ws at *
 walk_at "rd"
 intro lc H2 s2 hlc e2
 replace e2:H2 lc=some (.lst ((ws.take 2).map V.str)):=by rw[←tG V.str ws 2];exact e2
 walk_at "rd"
 intro lf H3 s3 hlf e3
 refine⟨lc,lf,ws.take 2,cE,rfl,qI.of (s3 _ _ e2),qI.of e3,hS.take 2,fun H4 s4=>?_⟩
 have sA:qg H H4:=((s1.trans s2).trans s3).trans s4
 walk_at "rd"
 refine je (fun h3=>(k _ sA).1 (if_neg fun q=>?_)) (fun h3=>?_)
 ·have z:xR (ws.take 2) cE=false:=cj h3
  rw[z] at q
  cases q
 have hF:xR (ws.take 2) cE=true:=d0 h3
 have hl:2≤ws.length:=by have:(ws.take 2).length=2:=yP hF;rw[List.length_take] at this;omega
 have e4:H4 lw=some (.lst (ws.map V.str)):=s4 _ _ (s3 _ _ (s2 _ _ e1'))
 clear e1' e2 e3 s1 s2 s3 s4
 refine⟨_,rfl,lw,_,rfl,.inl (qI.of e4),rfl,_,rfl,?_⟩
 rw[List.length_map]
 refine je (fun h4=>?_) (fun h4=>?_)
 ·have hl2:ws.length=2:=by have:=of_decide_eq_true h4;injection this with this;omega
  walk_at "rd"
  intro a1 H5 s5 ha1 e5
  walk_at "rd"
  intro a2 H6 s6 ha2 e6
  walk_at "rd"
  intro p dx hp hdx hne
  have sM:=yl (o:=HO.own p) (o2:=HO.ins t.qP dx []) hp hdx
  refine⟨p,dx,a1,a2,_,[],[],rfl,qv,sM _ _ (s6 _ _ e5),sM _ _ e6,fun H7 o7 h7=>⟨rfl,?_⟩⟩
  exact(k H7 (((sA.trans s5).trans s6).trans (tS hp hdx o7))).2 p _ _ (by unfold vZ;rw[if_pos hF,if_pos hl2];rfl) (((sA.trans s5).trans s6).free hp) (h7.back (((sA.trans s5).trans s6).trans sM))
 have hl3:¬ws.length=2:=fun q=>h4 (decide_eq_true (by rw[q];rfl))
 walk_at "rd"
 refine je (fun h5=>pe ((k _ sA).1 ?_)) (fun h5=>?_)
 ·unfold vZ
  rw[if_pos hF,if_neg hl3,if_pos (.inl (eJ h5))]
 have hin:wd ws 2 = "in":=ie h5
 walk_at "rd"
 intro lc H5 s5 hlc e5
 replace e5:H5 lc=some (.lst ((ws.drop 3).map V.str)):=by rw[←bV V.str ws 3];exact e5
 refine⟨lc,_,_,rfl,qI.of e5,hS.drop 3,fun H6 s6=>?_⟩
 walk_at "rd"
 refine je (fun h6=>(k _ ((sA.trans s5).trans s6)).1 ?_) (fun h6=>?_)
 ·unfold vZ
  rw[if_pos hF,if_neg hl3,if_pos (.inr (cj h6))]
 have hN:pd (ws.drop 3) 12=true:=d0 h6
 have e6:H6 lw=some (.lst (ws.map V.str)):=s6 _ _ (s5 _ _ e4)
 clear e4 e5
 walk_at "rd"
 intro a1 H7 s7 ha1 e7
 replace e7:H7 a1=some (.lst ((ws.drop 3).map V.str)):=by rw[←bV V.str ws 3];exact e7
 walk_at "rd"
 intro a2 H8 s8 ha2 e8
 walk_at "rd"
 intro p dx hp hdx hne
 have sM:=yl (o:=HO.own p) (o2:=HO.ins t.qP dx []) hp hdx
 refine⟨p,dx,a1,a2,_,_,[],rfl,qv,sM _ _ (s8 _ _ e7),sM _ _ e8,fun H9 o9 h9=>⟨rfl,?_⟩⟩
 exact(k H9 (((((sA.trans s5).trans s6).trans s7).trans s8).trans (tS hp hdx o9))).2 p _ _ (by unfold vZ;rw[if_pos hF,if_neg hl3,if_neg (fun q=>q.elim (fun q=>q hin) (fun q=>by rw[hN] at q;cases q))];rfl) (((((sA.trans s5).trans s6).trans s7).trans s8).free hp) (h9.back (((((sA.trans s5).trans s6).trans s7).trans s8).trans sM))
theorem bW:qe ["row","words"] ["row"] (z4 jV):=⟨rfl,rfl,rfl,by decide +kernel,rfl,by decide +kernel,by decide +kernel⟩
set_option maxHeartbeats 400000 in
theorem dU (T:Txt K mg t):qi P w K mg base jn 5 t.vU t.vM ["row"] (tj t):=by
 have G_v_fits_form:qi P w K mg base jn 4 t.xM t.xP ["words","form"] (lU K):=(yj T).mono (by decide)
 have G_v_number_of:qi P w K mg base jn 4 t.kZ t.kc ["word"] Zb:=(bH T).mono (by decide)
 have M_Ban_init:qi P w K mg base jn 3 t.vK t.gb ["self","label","who","act","room"] (JA K):=(sX T).mono (by decide)
 have M_Clause_init:qi P w K mg base jn 3 t.qO t.xh ["self","label","who","act"] (Jq K):=(vp T).mono (by decide)
 have M_Duty_init:qi P w K mg base jn 3 t.kD t.yf ["self","label","who","act","turns","room"] (VF K):=(lK T).mono (by decide)
 have M_Power_init:qi P w K mg base jn 3 t.kg t.wQ ["self","label","who","act","room"] (JA K):=(uo T).mono (by decide)
 refine T.vT.fn.ok bW (fun vs H Q E h=>(by obtain⟨_,rfl,_⟩:=h;rfl)) (fun cdv A outer s H vs Q E hr h=>?_)
 obtain⟨x,rfl,hx,k⟩:=h
 refine⟨_,(z6 (qX (i:=1) bW.nd rfl (Or.inl rfl) (kh PySem.F.plainAttrs_str PySem.F.slot_str_split PySem.F.type_str_split yF (pv 0) (z0 qq z5)))
   (z6 (qG (ja (qf G_v_fits_form hr rfl T.qH.mg T.qH.fn.kp T.qH.bd .nil qJ (z0 (pv 1) (z0 (qS (z0 qq (z0 qq (z0 qq (z0 qq (z0 qq (z0 qq (z0 qq (z0 qq z5))))))))) z5))))
    (z8 (qw (vD T.lL M_Duty_init hr rfl T.oz T.ma.bd .nil qJ (z0 (qr (qy (K:=K) rfl) (pv 1) z7 (fun _ _=>rfl)) (z0 (qr (qy (K:=K) rfl) (pv 1) z7 (fun _ _=>rfl)) (z0 (qr (qy (K:=K) rfl) (pv 1) z7 (fun _ _=>rfl)) (z0 (qf G_v_number_of hr rfl T.xZ.mg T.xZ.fn.kp T.xZ.bd .nil qJ (z0 (qr (qy (K:=K) rfl) (pv 1) z7 (fun _ _=>rfl)) z5)) (z0 (qr (qy (K:=K) rfl) (pv 1) z7 (fun _ _=>rfl)) z5)))))))) qp)
   (z6 (qG (ja (qf G_v_fits_form hr rfl T.qH.mg T.qH.fn.kp T.qH.bd .nil qJ (z0 (pv 1) (z0 (qS (z0 qq (z0 qq (z0 qq (z0 qq z5))))) z5))))
    (z8 (qw (vD T.dA M_Clause_init hr rfl T.dM T.kU.bd .nil qJ (z0 (qr (qy (K:=K) rfl) (pv 1) z7 (fun _ _=>rfl)) (z0 (qr (qy (K:=K) rfl) (pv 1) z7 (fun _ _=>rfl)) (z0 (qr (qy (K:=K) rfl) (pv 1) z7 (fun _ _=>rfl)) z5)))))) qp)
   (z6 (qG (ja (qf G_v_fits_form hr rfl T.qH.mg T.qH.fn.kp T.qH.bd .nil qJ (z0 (pv 1) (z0 (qS (z0 qq (z0 qq (z0 qq (z0 qq (z0 qq (z0 qq (z0 qq z5)))))))) z5))))
    (z8 (qw (vD T.oG M_Ban_init hr rfl T.Q3 T.cW.bd .nil qJ (z0 (qr (qy (K:=K) rfl) (pv 1) z7 (fun _ _=>rfl)) (z0 (qr (qy (K:=K) rfl) (pv 1) z7 (fun _ _=>rfl)) (z0 (qr (qy (K:=K) rfl) (pv 1) z7 (fun _ _=>rfl)) (z0 (qr (qy (K:=K) rfl) (pv 1) z7 (fun _ _=>rfl)) z5))))))) qp)
   (z6 (qG (ja (qf G_v_fits_form hr rfl T.qH.mg T.qH.fn.kp T.qH.bd .nil qJ (z0 (pv 1) (z0 (qS (z0 qq (z0 qq (z0 qq (z0 qq (z0 qq (z0 qq z5))))))) z5))))
    (z8 (qw (vD T.cX M_Power_init hr rfl T.rA T.pL.bd .nil qJ (z0 (qr (qy (K:=K) rfl) (pv 1) z7 (fun _ _=>rfl)) (z0 (qr (qy (K:=K) rfl) (pv 1) z7 (fun _ _=>rfl)) (z0 (qr (qy (K:=K) rfl) (pv 1) z7 (fun _ _=>rfl)) (z0 (qr (qy (K:=K) rfl) (pv 1) z7 (fun _ _=>rfl)) z5))))))) qp)
   (z8 (qw y9))))))),?_⟩
 walk_at "rd"
 refine⟨qj (by omega),?_⟩
 intro lw H1 s1 hlw e1
 have hS:=cM hx
 have e1':H1 lw=some (.lst ((vO x).map V.str)):=e1
 clear e1
 generalize vO x=ws at *
 walk_at "rd"
 intro lf H2 s2 hlf e2
 refine⟨lw,lf,ws,iJ,rfl,qI.of (s2 _ _ e1'),qI.of e2,hS,fun H3 s3=>?_⟩
 have e3:H3 lw=some (.lst (ws.map V.str)):=s3 _ _ (s2 _ _ e1')
 have sA:qg H H3:=(s1.trans s2).trans s3
 clear e1' e2 s1 s2 s3
 walk_at "rd"
 refine je (fun h1=>?_) (fun h1=>?_)
 ·have hl:ws.length=8:=yP h1
  walk_at "rd"
  refine⟨hS.short _ (p9 (by omega)),fun H4 s4=>?_⟩
  have e4:H4 lw=some (.lst (ws.map V.str)):=s4 _ _ e3
  clear e3
  walk_at "rd"
  intro p dx hp hdx hne
  refine⟨p,_,dx,_,_,_,_,_,_,rfl,eZ T,qv,rfl,?_⟩
  exact(k _ ((sA.trans s4).trans (yR hp hdx hne))).2 p 0 _ _ _ _ _ (by unfold jK;rw[if_pos h1];rfl) ((sA.trans s4).free hp) ⟨dx,qv⟩
 have f1:¬xR ws iJ=true:=h1
 walk_at "rd"
 intro lf2 H4 s4 hlf2 e4
 refine⟨lw,lf2,ws,lJ,rfl,qI.of (s4 _ _ e3),qI.of e4,hS,fun H5 s5=>?_⟩
 have e5:H5 lw=some (.lst (ws.map V.str)):=s5 _ _ (s4 _ _ e3)
 have sB:qg H H5:=(sA.trans s4).trans s5
 clear e3 e4 s4 s5 sA
 walk_at "rd"
 refine je (fun h2=>?_) (fun h2=>?_)
 ·have hl:ws.length=4:=yP h2
  walk_at "rd"
  intro p dx hp hdx hne
  refine⟨p,_,dx,_,_,_,_,rfl,sJ T,qv,rfl,?_⟩
  exact(k _ (sB.trans (yR hp hdx hne))).2 p 1 _ _ _ 0 "" (by unfold jK;rw[if_neg f1,if_pos h2];rfl) (sB.free hp) ⟨dx,qv⟩
 have f2:¬xR ws lJ=true:=h2
 walk_at "rd"
 intro lf3 H6 s6 hlf3 e6
 refine⟨lw,lf3,ws,Jr,rfl,qI.of (s6 _ _ e5),qI.of e6,hS,fun H7 s7=>?_⟩
 have e7:H7 lw=some (.lst (ws.map V.str)):=s7 _ _ (s6 _ _ e5)
 have sC:qg H H7:=(sB.trans s6).trans s7
 clear e5 e6 s6 s7 sB
 walk_at "rd"
 refine je (fun h3=>?_) (fun h3=>?_)
 ·have hl:ws.length=7:=yP h3
  walk_at "rd"
  intro p dx hp hdx hne
  refine⟨p,_,dx,_,_,_,_,_,rfl,ZU T,qv,rfl,?_⟩
  exact(k _ (sC.trans (yR hp hdx hne))).2 p 2 _ _ _ 0 _ (by unfold jK;rw[if_neg f1,if_neg f2,if_pos h3];rfl) (sC.free hp) ⟨dx,qv⟩
 have f3:¬xR ws Jr=true:=h3
 walk_at "rd"
 intro lf4 H8 s8 hlf4 e8
 refine⟨lw,lf4,ws,oP,rfl,qI.of (s8 _ _ e7),qI.of e8,hS,fun H9 s9=>?_⟩
 have e9:H9 lw=some (.lst (ws.map V.str)):=s9 _ _ (s8 _ _ e7)
 have sD:qg H H9:=(sC.trans s8).trans s9
 clear e7 e8 s8 s9 sC
 walk_at "rd"
 refine je (fun h4=>?_) (fun h4=>?_)
 ·have hl:ws.length=6:=yP h4
  walk_at "rd"
  intro p dx hp hdx hne
  refine⟨p,_,dx,_,_,_,_,_,rfl,sY T,qv,rfl,?_⟩
  exact(k _ (sD.trans (yR hp hdx hne))).2 p 3 _ _ _ 0 _ (by unfold jK;rw[if_neg f1,if_neg f2,if_neg f3,if_pos h4];rfl) (sD.free hp) ⟨dx,qv⟩
 exact(k _ sD).1 (by unfold jK;rw[if_neg f1,if_neg f2,if_neg f3,if_neg h4])
end
theorem boot_set:bootBuiltins (Str.ofString "set")=some (Value.type "set"):=by kernel_rfl
noncomputable def Jj (t:jT) (n:Int) (H:Hp):XK:=fun c o H'=>∃a,o=some a∧c=.ref t.vI∧qg H H'∧Yv H' a t.vI [("row",.int n)]
theorem Jj.back {t:jT} {n:Int} {H0 H:Hp} {c:Value} {o:Option Addr} {H':Hp} (h:Jj t n H c o H') (s:qg H0 H):Jj t n H0 c o H':=by
 obtain⟨a,h1,h2,h3,h4⟩:=h
 exact⟨a,h1,h2,s.trans h3,h4⟩
noncomputable def a7 (K:PySem.W.Frag) (f:Str):Sp:=fun vs H Q _=>∃(a C:Addr) (v:V),vs=[.ref a,v]∧XD K C∧qQ K C f∧H a=some (xN a C none)∧∀dx,H dx=none→dx≠a→Q .non (upd (upd H dx (xD dx [(f,v)])) a (xN a C (some dx)))
structure mP (rows:List Str):Prop where
 lA:rows.length≤400
 short:∀x∈rows,x.length≤190
noncomputable def vY (rows:List Str) (i:Nat) (x:Str) (m:Int) (taken:List Str):Option (List Str):=
 if i=rows.length then none else
  let ns:=km (vO (wd rows i)) x m
  if ns=[]∨¬(taken ++ ns).Nodup then none else some ns
theorem X6 {z:Str} {c:Nat} (h:has z c=true):c∈z.cps.toList:=by
 unfold has at h
 rw[StrLaws.found_one] at h
 simpa using h
theorem fu {x:Str} (h:qZ x=true):asc x:=fun c hc=>by
 unfold qZ gG at h
 (simp only[Bool.and_eq_true] at h)
 exact eG.2.2 c (X6 (List.all_eq_true.mp h.1.2 c hc))
theorem uS {ws:List Str} {x:Str} {m:Int}:(km ws x m).length≤ws.length∧∀y∈km ws x m,qZ y=true:=by
 unfold km
 split
 ·exact⟨Nat.zero_le _,fun y hy=>by cases hy⟩
 ·rename_i h
  refine⟨by rw[List.length_drop];omega,fun y hy=>?_⟩
  have:pd (ws.drop 1) m=true:=by
   cases q:pd (ws.drop 1) m with
   | true=>rfl
   | false=>exact absurd (.inr q) h
  unfold pd at this
  rw[Bool.and_eq_true] at this
  exact List.all_eq_true.mp this.2 y hy
noncomputable def nF (K:PySem.W.Frag):Sp:=fun vs H Q _=>∃(l:Addr) (zs:List Str),vs=[.ref l]∧qI K H l (zs.map V.str)∧zs.length < 1000∧∀H',qg H H'→Q (.bl (decide zs.Nodup)) H'
noncomputable def V4 (K:PySem.W.Frag) (t:jT):Sp:=fun vs H Q E=>∃(a b:Addr) (i:Nat) (x:Str) (m:Int) (rows taken:List Str),vs=[.ref a,.int i,.str x,.int m,.ref b]∧qI K H a (rows.map V.str)∧H b=some (.lst (taken.map V.str))∧i≤rows.length∧mP rows∧taken.length≤300∧m≤100∧
 (vY rows i x m taken=none→∀c o H',Jj t i H c o H'→E c o H')∧∀ns l H',vY rows i x m taken=some ns→qg H H'→H l=none→H' l=some (.lst (ns.map V.str))→Q (.ref l) H'
section
variable {P:Program} {w:World} {K:PySem.W.Frag} {mg:Str→Option Value} {base:Heap} {t:jT}
theorem d7:qe ["self","row"] ["self","row"] (z4 jY):=⟨rfl,rfl,rfl,by decide +kernel,rfl,by decide +kernel,by decide +kernel⟩
set_option maxHeartbeats 400000 in
theorem wL (T:Txt K mg t):qi P w K mg base jn 1 t.xp t.xF ["self","row"] (a7 K "row"):=by
 refine T.xa.fn.ok d7 (fun vs H Q E h=>(by obtain⟨_,_,_,rfl,_⟩:=h;rfl)) (fun cdv A outer s H vs Q E hr h=>?_)
 obtain⟨a,C,v,rfl,c,n,e,k⟩:=h
 exact⟨_,(z8 (JV (pv 0) (pv 1) rfl)),_,rfl,_,rfl,a,C,rfl,c,n,.inl ⟨e,k⟩⟩
theorem KP {C:Addr} {f:Str} {v:V} {H:Hp} {E:XK} {X:XK} (c:XD K C) (n:qQ K C f) (xc:bj K C=true) (k:∀a H',qg H H'→Yv H' a C [(f,v)]→E (.ref C) (some a) H') :
  ∀a,H a=none→a7 K f (.ref a :: ([v] ++ [])) (upd H a (xN a C none)) (fun u H2=>u=.non∧∃a' C' d,V.ref a=.ref a'∧bj K C'=true∧H2 a'=some (xN a' C' d)∧E (.ref C') (some a') (upd H2 a' (xO a' C' d))) X:=by
 intro a ha
 refine⟨a,C,v,rfl,c,n,qv,fun dx hd hne=>⟨rfl,a,C,some dx,rfl,xc,qv,k a _ (fun b o e=>?_) (.inr ⟨dx,qv,?_⟩)⟩⟩
 ·have q:=qk e ha
  have e':(upd H a (xN a C none)) b=some o:=by rw[qW q];exact e
  rw[qW q,qW q,qW (qk e' hd)];exact e'
 ·rw[qW hne,qW hne];exact qv
theorem yE (T:Txt K mg t) {n:Int} {H:Hp} {E:XK} {X:XK} (k:∀c o H',Jj t n H c o H'→E c o H') :
  ∀a,H a=none→a7 K "row" (.ref a :: ([V.int n] ++ [])) (upd H a (xN a t.vI none)) (fun u H2=>u=.non∧∃a' C' d,V.ref a=.ref a'∧bj K C'=true∧H2 a'=some (xN a' C' d)∧E (.ref C') (some a') (upd H2 a' (xO a' C' d))) X:=
 KP T.u7 T.pP T.kP.xc fun a H' s x=>k _ _ _ ⟨a,rfl,rfl,s,x⟩
theorem cv:qe ["names"] ["names"] (z4 jW):=⟨rfl,rfl,rfl,by decide +kernel,rfl,by decide +kernel,by decide +kernel⟩
set_option maxHeartbeats 400000 in
theorem gC (T:Txt K mg t):qi P w K mg base jn 1 t.kX t.kr ["names"] (nF K):=by
 refine T.xo.fn.ok cv (fun vs H Q E h=>(by obtain⟨_,_,rfl,_⟩:=h;rfl)) (fun cdv A outer s H vs Q E hr h=>?_)
 obtain⟨l,zs,rfl,hl,hn,k⟩:=h
 refine⟨_,(z8 (qw (va jQ (qK eI rfl T.kL PySem.boot_len (z0 (j4 (JH (K:=K) rfl rfl) rfl T.Xo boot_set (z0 (pv 0) z5)) z5)) (qK (jr (K:=K) rfl) rfl T.kL PySem.boot_len (z0 (pv 0) z5)) (qt _)))),?_⟩
 refine⟨_,rfl,l,zs,rfl,hl,hn,fun a ha=>?_⟩
 refine⟨a,_,rfl,qv,?_⟩
 have s1:qg H (upd H a (Vg P w a (tm [] zs))):=qg.rF ha
 refine⟨_,rfl,l,_,rfl,.inl (s1.seq hl),rfl,?_⟩
 rw[show decide (V.int ((tm [] zs:Nat):Int)=V.int ((zs.map V.str).length:Nat))=decide zs.Nodup from by rw[List.length_map,←Kn];simp]
 exact k _ s1
theorem gs:qe ["rows","number","word","most","taken","names"] ["rows","number","word","most","taken"] (z4 jc):=⟨rfl,rfl,rfl,by decide +kernel,rfl,by decide +kernel,by decide +kernel⟩
set_option maxHeartbeats 400000 in
theorem dh (T:Txt K mg t):qi P w K mg base (nG P w) 6 t.kI t.vd ["rows","number","word","most","taken"] (V4 K t):=by
 have G_v_names_of:qi P w K mg base jn 5 t.wZ t.we ["row","word","most"] Xe:=(ur T).mono (by decide)
 have G_v_told_once:qi P w K mg base jn 5 t.kX t.kr ["names"] (nF K):=(gC T).mono (by decide)
 have M_NoText_init:qi P w K mg base jn 4 t.xp t.xF ["self","row"] (a7 K "row"):=(wL T).mono (by decide)
 refine T.xg.fn.WZ gs (fun vs H Q E h=>(by obtain⟨_,_,_,_,_,_,_,rfl,_⟩:=h;rfl)) (fun cdv A outer s H vs Q E hr h=>?_)
 obtain⟨a,b,i,x,m,rows,taken,rfl,hA,hB,hi,hR,hT,hm,kE,kQ⟩:=h
 refine⟨_,(z6 (qG (qu jQ (pv 1) (qK (jr (K:=K) rfl) rfl T.kL PySem.boot_len (z0 (pv 0) z5)) (qt _))
    (z8 (yS bE rfl (yM T.kP M_NoText_init hr rfl T.w6 T.xa.bd .nil qJ (z0 (pv 1) z5)))) qp)
   (z6 (qX (i:=5) gs.nd rfl (Or.inl rfl) (qf G_v_names_of hr rfl T.wR.mg T.wR.fn.kp T.wR.bd .nil qJ (z0 (qr (qy (K:=K) rfl) (pv 0) (pv 1) (fun _ _=>rfl)) (z0 (pv 2) (z0 (pv 3) z5)))))
   (z6 (qG (PW.pt (vJ (qu (lT (K:=K) rfl hr.units) (pv 5) (qS z5) (qt _)) (k7 (kd (ja (qf G_v_told_once hr rfl T.xo.mg T.xo.fn.kp T.xo.bd .nil qJ (z0 (qx gI (pv 4) (pv 5)) z5)))))))
    (z8 (yS bE rfl (yM T.kP M_NoText_init hr rfl T.w6 T.xa.bd .nil qJ (z0 (pv 1) z5)))) qp)
   (z8 (qw (pv 5)))))),?_⟩
 walk_at "rd"
 refine⟨a,_,rfl,.inl hA,rfl,_,rfl,?_⟩
 refine je (fun h1=>?_) (fun h1=>?_)
 ·walk_at "rd"
  exact yE T (kE (by
   have:(i:Int)=((rows.map V.str).length:Nat):=by simpa using h1
   rw[List.length_map] at this
   unfold vY;rw[if_pos (by omega)]))
 have hi':i < rows.length:=by
  have:¬(i:Int)=((rows.map V.str).length:Nat):=by simpa using h1
  rw[List.length_map] at this;omega
 have hwd:wd rows i∈rows:=p9 hi'
 have eR:vY rows i x m taken=(if km (vO (wd rows i)) x m=[]∨¬(taken ++ km (vO (wd rows i)) x m).Nodup then none else some (km (vO (wd rows i)) x m)):=by
  unfold vY;rw[if_neg (by omega)]
 walk_at "rd"
 simp only[Int.toNat_natCast]
 refine⟨hR.short _ hwd,fun l H1 s1 hl e1=>?_⟩
 have e1':H1 l=some (.lst ((km (vO (wd rows i)) x m).map V.str)):=e1
 clear e1
 have hn:=@uS (vO (wd rows i)) x m
 have hw:=(da (wd rows i)).2
 have hw2:=hR.short _ hwd
 have hb:(km (vO (wd rows i)) x m).length≤192:=by omega
 have ho:=hn.2
 clear hn hw hw2
 generalize km (vO (wd rows i)) x m=ns at *
 have sh:SeqAt.shaped (.list (ns.map PyData.str))=true:=x8 fun y hy=>(fu (ho y hy)).ok
 walk_at "rd"
 intro l2 H2 s2 hl2 e2
 have sh0:SeqAt.shaped (.list (([]:List Str).map PyData.str))=true:=x8 (xs:=[]) fun y hy=>by cases hy
 refine⟨_,_,pj.lst (qI.of (s2 _ _ e1')) (kB.strs ns),pj.lst (qI.of e2) (kB.strs []),sh,sh0,_,rfl,?_⟩
 rw[fE]
 refine je (fun h2=>?_) (fun h2=>?_)
 ·walk_at "rd"
  exact yE T fun c o H' z=>kE (by rw[eR,if_pos (.inl (of_decide_eq_true h2))]) c o H' (z.back (s1.trans s2))
 have hne:¬ns=[]:=fun q=>h2 (decide_eq_true q)
 walk_at "rd"
 refine⟨b,l,_,_,rfl,rfl,s2 _ _ (s1 _ _ hB),s2 _ _ e1',qj (by simp only[List.length_map];omega),?_⟩
 intro l3 H3 s3 hl3 e3
 refine⟨l3,taken ++ ns,rfl,qI.of (by rw[e3,List.map_append]),(by rw[List.length_append];omega),fun H4 s4=>?_⟩
 have sA:qg H H4:=((s1.trans s2).trans s3).trans s4
 walk_at "rd"
 refine je (fun h3=>?_) (fun h3=>?_)
 ·walk_at "rd"
  exact yE T fun c o H' z=>kE (by rw[eR,if_pos (.inr (of_decide_eq_false (cj h3)))]) c o H' (z.back sA)
 walk_at "rd"
 exact kQ ns l H4 (by rw[eR,if_neg (fun q=>q.elim hne (fun q=>q (of_decide_eq_true (d0 h3))))]) sA hl (s4 _ _ (s3 _ _ (s2 _ _ e1')))
noncomputable def xr (taken:List Str):List (Str × Str)→List Str→Except Nat (List (Str × Str))
 | found,[]=>if found=[] then .error 2 else .ok found
 | found,x :: r=>match bb (vO x) with
  | none=>if found=[] then .error 2 else .ok found
  | some mn=>if found.length=12∨¬(taken ++ (found ++ [mn]).map (·.2)).Nodup then .error (2 + found.length) else xr taken (found ++ [mn]) r
noncomputable def vk (H:Hp) (v:V) (mn:Str × Str):Prop:=∃p,v=.ref p∧H p=some (.tup [.str mn.1,.str mn.2])
noncomputable def fF (mn:Str × Str):Prop:=mn.1∈jA∧qZ mn.2=true
theorem Qy {ws:List Str} {m n:Str} (h:bb ws=some (m,n)):fF (m,n):=by
 unfold bb at h
 split at h
 ·rename_i q
  cases h
  rw[dQ] at q
  exact⟨of_decide_eq_true q.2.1,q.2.2⟩
 ·cases h
theorem Qw:∀x∈jA,PyData.strOk x=true:=by decide +kernel
noncomputable def uL (mn:Str × Str):PyData:=.tuple [.str mn.1,.str mn.2]
theorem QT:∀{fnd:List (Str × Str)},(∀mn∈fnd,fF mn)→PyData.canLayAll0 (fnd.map uL)=true∧PyData.depthAll (fnd.map uL)≤2
 | [],_=>⟨rfl,Nat.zero_le _⟩
 | mn :: r,h=>by
  have q:=QT (fnd:=r) fun x hx=>h x (List.mem_cons_of_mem _ hx)
  have h1:=Qw _ (h mn List.mem_cons_self).1
  have h2:=(fu (h mn List.mem_cons_self).2).ok
  have q2:=q.2
  simp [PyData.canLayAll0,PyData.canLay0,PyData.depthAll,PyData.depth,uL,q.1,h1,h2]
  omega
theorem eS {fnd:List (Str × Str)} (h:∀mn∈fnd,fF mn):SeqAt.shaped (.list (fnd.map uL))=true:=by
 have q:=QT h
 simp [SeqAt.shaped,PyData.canLay0,PyData.depth,q.1]
 omega
theorem vk.same {H H':Hp} {v:V} {mn:Str × Str} (h:vk H v mn) (s:qg H H'):vk H' v mn:=by
 obtain⟨p,e,q⟩:=h
 exact⟨p,e,s _ _ q⟩
theorem vk.keeps {H H':Hp} {v:V} {mn:Str × Str} {l:Addr} {xs:List V} (h:vk H v mn) (k:Keeps l H H') (e:H l=some (.lst xs)):vk H' v mn:=by
 obtain⟨p,e',q⟩:=h
 exact⟨p,e',k.look q (fN q e (by intro z;cases z))⟩
theorem Paired.snoc {α β:Type} {F:α→β→Prop} {a:α} {b:β}:∀{xs:List α} {ys:List β},Paired F xs ys→F a b→Paired F (xs ++ [a]) (ys ++ [b])
 | [],[],_,h=>.cons h .nil
 | _ :: _,_ :: _,.cons h t,q=>.cons h (Paired.snoc t q)
noncomputable def XO (H:Hp) (y:V):List (Option V):=match y with
 | .ref p=>(match H p with | some (.tup [u,v])=>[some u,some v] | _=>[none,none])
 | _=>[none,none]
theorem Ju (H:Hp) (y:V):(XO H y).length=2:=by
 unfold XO
 split
 ·split<;>rfl
 ·rfl
theorem Paired.XN {α β:Type} {F:α→β→Prop} {a:α}:∀{xs:List α} {ys:List β},Paired F xs ys→a∈xs→∃b∈ys,F a b
 | _ :: _,_ :: _,.cons h t,q=>by
  rcases List.mem_cons.mp q with rfl | q
  ·exact⟨_,List.mem_cons_self,h⟩
  ·obtain⟨b,hb,hF⟩:=Paired.XN t q
   exact⟨b,List.mem_cons_of_mem _ hb,hF⟩
theorem dR {H:Hp}:∀{vs:List V} {fnd:List (Str × Str)} {ys:List V},Paired (vk H) vs fnd→Paired (fun y v=>∀p m n,y=V.ref p→H p=some (.tup [.str m,.str n])→v=V.str n) vs ys→ys=(fnd.map (·.2)).map V.str
 | [],[],[],_,_=>rfl
 | _ :: _,_ :: _,_ :: _,.cons ⟨p,e,q⟩ t,.cons h t'=>by
  rw[h p _ _ e q,dR t t']
  rfl
theorem tV {K:PySem.W.Frag} {H:Hp}:∀{vs:List V} {fnd:List (Str × Str)},Paired (vk H) vs fnd→kB K H vs (fnd.map uL)
 | [],[],_=>.nil
 | _ :: _,_ :: _,.cons ⟨p,e,q⟩ t=>by
  subst e
  exact .cons (pj.tup (yT.of q) (.cons (.str _) (.cons (.str _) .nil))) (tV t)
theorem KL (fnd:List (Str × Str)):PyData.eqv (.list (fnd.map uL)) (.list (([]:List Str).map PyData.str))=decide (fnd=[]):=by
 cases fnd<;>simp [PyData.eqv,PyData.eqvAll]
noncomputable def VP (K:PySem.W.Frag) (t:jT):Sp:=fun vs H Q E=>∃(a b:Addr) (rows taken:List Str),vs=[.ref a,.ref b]∧qI K H a (rows.map V.str)∧H b=some (.lst (taken.map V.str))∧mP rows∧taken.length≤400∧
 (∀n:Nat,xr taken [] (rows.drop 2)=.error n→∀c o H',Jj t n H c o H'→E c o H')∧∀rs l H' vs,xr taken [] (rows.drop 2)=.ok rs→qg H H'→H l=none→H' l=some (.lst vs)→Paired (vk H') vs rs→Q (.ref l) H'
theorem kW:qe ["rows","taken","rooms","row","room"] ["rows","taken"] (z4 jw):=⟨rfl,rfl,rfl,by decide +kernel,rfl,by decide +kernel,by decide +kernel⟩
set_option maxHeartbeats 400000 in
theorem dg (T:Txt K mg t):qi P w K mg base (nG P w) 6 t.vt t.vc ["rows","taken"] (VP K t):=by
 have G_v_room_of:qi P w K mg base jn 5 t.yp t.ym ["row"] QY:=(rL T).mono (by decide)
 have G_v_told_once:qi P w K mg base jn 5 t.kX t.kr ["names"] (nF K):=(gC T).mono (by decide)
 have M_NoText_init:qi P w K mg base jn 4 t.xp t.xF ["self","row"] (a7 K "row"):=(wL T).mono (by decide)
 refine T.vi.fn.WZ kW (fun vs H Q E h=>(by obtain⟨_,_,_,_,rfl,_⟩:=h;rfl)) (fun cdv A outer s H vs Q E hr h=>?_)
 obtain⟨a,b,rows,taken,rfl,hA,hB,hR,hT,kE,kQ⟩:=h
 refine⟨_,(z6 (qX (i:=2) kW.nd rfl (Or.inl rfl) (qS z5) bS)
   (z6 (PS.join (p3 PassesOwn.leaving rfl (wD (K:=K) rfl (vz (kN (K:=K) rfl) (pv 0) (vb (jh rfl (T.vj).choose_spec (v:=.int 2) ⟨_,rfl⟩)) yO)) (kz (i:=3) kW.nd rfl (Or.inl rfl))
    (z6 (qX (i:=4) kW.nd rfl (Or.inl rfl) (qf G_v_room_of hr rfl T.yH.mg T.yH.fn.kp T.yH.bd .nil qJ (z0 (pv 3) z5)))
   (z6 (qG (qu ZY (pv 4) y9 (qt _))
    (z8 (QR)) qp)
   (z6 (qG (PW.pt (vJ (qu jQ (qK (jr (K:=K) rfl) rfl T.kL PySem.boot_len (z0 (pv 2) z5)) (jh rfl (T.y3).choose_spec (v:=.int 12) ⟨_,rfl⟩) (qt _)) (k7 (kd (ja (qf G_v_told_once hr rfl T.xo.mg T.xo.fn.kp T.xo.bd .nil qJ (z0 (qx gI (pv 1) (uP (osc:=z4 jw) (N:=["rows","taken","rooms","row","room"]) (xs:=["mark","name"]) (names:=[]) (qD:=[]) rfl rfl rfl ⟨rfl,by decide +kernel,by decide +kernel,by decide +kernel,by decide +kernel,rfl,by decide +kernel,by decide +kernel⟩ (wD (K:=K) rfl (qx gI (pv 2) (qS (z0 (pv 4) z5)))) (fun _ _ _=>(lD (K:=K) (n:=2) rfl rfl (yV (kz (i:=0) (show (["mark","name"]:List Str).Nodup from by decide +kernel) rfl (.inl (su rfl)) (.inr (su rfl))) (yV (kz (i:=1) (show (["mark","name"]:List Str).Nodup from by decide +kernel) rfl (.inl (su rfl)) (.inr (su rfl))) lC)) rfl rfl)) (fun _ _ _=>iP) (fun _ _ _=>(pv 1)))) z5)))))))
    (z8 (yS bE rfl (yM T.kP M_NoText_init hr rfl T.w6 T.xa.bd .nil qJ (z0 (qx xC (jh rfl (T.vj).choose_spec (v:=.int 2) ⟨_,rfl⟩) (qK (jr (K:=K) rfl) rfl T.kL PySem.boot_len (z0 (pv 2) z5))) z5)))) qp)
   (z8 (j0 (kh PySem.F.plainAttrs_list PySem.F.slot_list_append PySem.F.type_list_append xu (pv 2) (z0 (pv 4) z5)))))))))
   (z6 (qG (qu (lT (K:=K) rfl hr.units) (pv 2) (qS z5) (qt _))
    (z8 (yS bE rfl (yM T.kP M_NoText_init hr rfl T.w6 T.xa.bd .nil qJ (z0 (jh rfl (T.vj).choose_spec (v:=.int 2) ⟨_,rfl⟩) z5)))) qp)
   (z8 (qw (pv 2)))))),?_⟩
 refine⟨Nat.zero_le _,?_⟩
 intro l H1 s1 hl e1
 refine⟨fun σ' H'=>(∃(vs:List V) (fnd:List (Str × Str)) (v3 v4:Option V),σ'=[some (.ref a),some (.ref b),some (.ref l),v3,v4]∧qg H H'∧H' l=some (.lst vs)∧Paired (vk H') vs fnd∧fnd.length≤12∧(∀mn∈fnd,fF mn)∧xr taken [] (rows.drop 2)=(if fnd=[] then .error 2 else .ok fnd))∨False,?_,?_⟩
 ·walk_at "rd"
  intro l0 H2 s2 hl0 e2
  have e2':H2 l0=some (.lst ((rows.drop 2).map V.str)):=by rw[←bV V.str rows 2];exact e2
  clear e2
  walk_at "rd"
  have hne0:l0≠l:=Ne.symm (qk e1 hl0)
  refine sG (K:=K) (a:=l0) (xs:=(rows.drop 2).map V.str) (fun i σ H'=>∃(vs:List V) (fnd:List (Str × Str)) (v3 v4:Option V),σ=[some (.ref a),some (.ref b),some (.ref l),v3,v4]∧qg H H'∧H' l=some (.lst vs)∧H' l0=some (.lst ((rows.drop 2).map V.str))∧Paired (vk H') vs fnd∧fnd.length≤12∧(∀mn∈fnd,fF mn)∧xr taken [] (rows.drop 2)=xr taken fnd ((rows.drop 2).drop i))
   ⟨[],[],none,none,rfl,s1.trans s2,s2 _ _ e1,e2',.nil,Nat.zero_le _,fun _ z=>(by cases z),by rw[List.drop_zero]⟩ (fun i σ H' _ ⟨_,_,_,_,_,_,_,q,_⟩=>qI.of q) ?_ ?_
  ·rintro i y σ H3 hi ⟨vs,fnd,v3,v4,rfl,s3,e3,e30,hP,hf,jg,hr'⟩
   rw[List.getElem?_map] at hi
   cases q:(rows.drop 2)[i]? with
   | none=>rw[q] at hi;cases hi
   | some x=>
    rw[q] at hi
    cases hi
    have hx:x∈rows:=List.mem_of_mem_drop (List.mem_of_getElem? q)
    have hd:(rows.drop 2).drop i=x :: (rows.drop 2).drop (i + 1):=by
     obtain⟨hi',e⟩:=List.getElem?_eq_some_iff.mp q
     rw[←e];exact List.drop_eq_getElem_cons hi'
    rw[hd] at hr'
    walk_at "rd"
    refine⟨hR.short _ hx,fun H4 s4=>⟨fun h0=>?_,fun p m n h0 hp e4=>?_⟩⟩
    ·walk_at "rd"
     refine .inl ⟨vs,fnd,_,_,rfl,s3.trans s4,s4 _ _ e3,Paired.imp' (fun _ _ z=>z.same s4) hP,hf,jg,?_⟩
     rw[hr',xr,h0]
    ·have hP4:Paired (vk H4) (vs ++ [.ref p]) (fnd ++ [(m,n)]):=Paired.snoc (Paired.imp' (fun _ _ z=>z.same s4) hP) ⟨p,rfl,e4⟩
     have hlen:vs.length=fnd.length:=Paired.length hP
     have eRR:xr taken fnd (x :: List.drop (i + 1) (List.drop 2 rows))=if fnd.length=12∨¬(taken ++ (fnd ++ [(m,n)]).map (·.2)).Nodup then .error (2 + fnd.length) else xr taken (fnd ++ [(m,n)]) (List.drop (i + 1) (List.drop 2 rows)):=by rw[xr,h0]
     rw[eRR] at hr'
     have e34:=s4 _ _ e3
     have raise2:(fnd.length=12∨¬(taken ++ (fnd ++ [(m,n)]).map (·.2)).Nodup)→∀c o H',Jj t (2 + (vs.length:Nat):Int) H c o H'→E c o H':=fun z c o H' q=>kE (2 + fnd.length) (by rw[hr',if_pos z]) c o H' (by rw[←hlen];exact q)
     walk_at "rd"
     refine⟨l,_,rfl,.inl (qI.of e34),rfl,_,rfl,?_⟩
     refine je (fun h12=>?_) (fun h12=>?_)
     ·walk_at "rd"
      refine⟨l,_,rfl,.inl (qI.of e34),?_⟩
      walk_at "rd"
      exact yE T fun c o H' z=>raise2 (.inl (by
       have:((vs.length:Nat):Int)=12:=by simpa using h12
       omega)) c o H' (z.back (s3.trans s4))
     have hn12:¬fnd.length=12:=fun q=>h12 (by rw[hlen,q];rfl)
     walk_at "rd"
     intro l5 H5 s5 hl5 e5
     refine⟨l,l5,_,_,rfl,rfl,s5 _ _ e34,e5,qj (by simp only[List.length_cons,List.length_nil];omega),?_⟩
     intro l6 H6 s6 hl6 e6
     have hP6:Paired (vk H6) (vs ++ [.ref p]) (fnd ++ [(m,n)]):=Paired.imp' (fun _ _ z=>z.same (s5.trans s6)) hP4
     refine⟨l6,rfl,⟨_,qI.of e6⟩,eF (bC (qI.of e6)) (XO H6) (Ju H6) (fun y v=>∀p m n,y=V.ref p→H6 p=some (.tup [.str m,.str n])→v=V.str n) (qj (by rw[List.length_append];simp only[List.length_cons,List.length_nil];omega)) ?_ ?_ ?_⟩
     ·intro j y ts H' K' hy hts s' k'
      obtain⟨mn,_,p',rfl,ep⟩:=Paired.XN hP6 (List.mem_of_getElem? hy)
      have et:XO H6 (.ref p')=[some (.str mn.1),some (.str mn.2)]:=by unfold XO;simp only[ep]
      rw[et] at k'
      match ts,hts with
      | [t1,t2],_=>exact⟨p',_,rfl,yT.of (s' _ _ ep),rfl,_,_,rfl,_,_,rfl,rfl,k'⟩
     ·intro j y H' Q' hy s' kk
      obtain⟨mn,_,p',rfl,ep⟩:=Paired.XN hP6 (List.mem_of_getElem? hy)
      have et:XO H6 (.ref p')=[some (.str mn.1),some (.str mn.2)]:=by unfold XO;simp only[ep]
      rw[et]
      refine⟨_,rfl,kk _ _ (qg.refl _) fun p2 m2 n2 e q=>?_⟩
      cases e
      rw[ep] at q
      cases q
      rfl
     intro D H7 ys s7 hD e7 hPr
     rw[dR hP6 hPr] at e7
     have sA:qg H H7:=(((s3.trans s4).trans s5).trans s6).trans s7
     walk_at "rd"
     refine⟨b,D,_,_,rfl,rfl,sA _ _ hB,e7,qj (by simp only[List.length_map,List.length_append,List.length_cons,List.length_nil];omega),?_⟩
     intro l8 H8 s8 hl8 e8
     refine⟨l8,taken ++ (fnd ++ [(m,n)]).map (·.2),rfl,qI.of (by rw[e8,←List.map_append]),(by simp only[List.length_map,List.length_append,List.length_cons,List.length_nil];omega),fun H9 s9=>?_⟩
     have sB:qg H4 H9:=(((s5.trans s6).trans s7).trans s8).trans s9
     walk_at "rd"
     refine je (fun h3=>?_) (fun h3=>?_)
     ·walk_at "rd"
      refine⟨l,_,rfl,.inl (qI.of (sB _ _ e34)),?_⟩
      walk_at "rd"
      exact yE T fun c o H' z=>raise2 (.inr (of_decide_eq_false (cj h3))) c o H' (z.back ((s3.trans s4).trans sB))
     walk_at "rd"
     intro H10 k10 e10
     have e9l:=sB _ _ e34
     refine⟨vs ++ [.ref p],fnd ++ [(m,n)],_,_,rfl,k10.put ((s3.trans s4).trans sB) hl,e10,k10.look (sB _ _ (s4 _ _ e30)) (fun q=>?_),Paired.imp' (fun _ _ z=>(z.same sB).keeps k10 e9l) hP4,(by rw[List.length_append];simp only[List.length_cons,List.length_nil];omega),(fun z hz=>(List.mem_append.mp hz).elim (jg z) (fun hz=>by rw[List.mem_singleton.mp hz];exact Qy h0)),?_⟩
     ·exact hne0 q
     ·rw[hr',if_neg (fun q=>q.elim hn12 (fun q=>q (of_decide_eq_true (d0 h3))))]
  ·rintro σ H3 ⟨vs,fnd,v3,v4,rfl,s3,e3,e30,hP,hf,jg,hr'⟩
   rw[List.length_map,List.drop_length,xr] at hr'
   exact .inl ⟨vs,fnd,v3,v4,rfl,s3,e3,hP,hf,jg,hr'⟩
 ·rintro σ H3 (⟨vs,fnd,v3,v4,rfl,s3,e3,hP,hf,jg,hr'⟩ | ⟨⟨⟩⟩)
  walk_at "rd"
  intro l4 H4 s4 hl4 e4
  have sh0:SeqAt.shaped (.list (([]:List Str).map PyData.str))=true:=x8 (xs:=[]) fun y hy=>by cases hy
  have hP4:Paired (vk H4) vs fnd:=Paired.imp' (fun _ _ z=>z.same s4) hP
  refine⟨_,_,pj.lst (qI.of (s4 _ _ e3)) (tV hP4),pj.lst (qI.of e4) (kB.strs []),eS jg,sh0,_,rfl,?_⟩
  rw[KL]
  refine je (fun h2=>?_) (fun h2=>?_)
  ·walk_at "rd"
   exact yE T fun c o H' z=>kE 2 (by rw[hr',if_pos (of_decide_eq_true h2)]) c o H' (z.back (s3.trans s4))
  walk_at "rd"
  exact kQ fnd l H4 vs (by rw[hr',if_neg (fun q=>h2 (decide_eq_true q))]) (s3.trans s4) hl (s4 _ _ e3) hP4
end
inductive Rw where
 | lt (n v:Str)
 | cl (k:Int) (l u a:Str) (n:Int) (r:Str)
 | pt (n:Str) (rs:List Str) (rows:List Rw)
mutual
noncomputable def wM (t:jT) (ms:List Addr) (H:Hp):Rw→V→Prop
 | .lt n v,x=>∃p,x=.ref p∧p∉ms∧XS t H p n v
 | .cl k l u a n r,x=>∃p,x=.ref p∧p∉ms∧At t H p k l u a n r
 | .pt n rs rows,x=>∃p dx a b ys,x=.ref p∧p∉ms∧a∉ms∧b∉ms∧H p=some (.ins t.qP dx (nY n a b))∧H a=some (.lst (rs.map V.str))∧H b=some (.lst ys)∧jb t ms H rows ys
noncomputable def jb (t:jT) (ms:List Addr) (H:Hp):List Rw→List V→Prop
 | [],ys=>ys=[]
 | r :: rs,ys=>∃y ys',ys=y :: ys'∧wM t ms H r y∧jb t ms H rs ys'
end
noncomputable def Fm (ms:List Addr) (H H':Hp):Prop:=∀b o,b∉ms→H b=some o→H' b=some o
theorem Fm.trans {ms ms':List Addr} {H H1 H2:Hp} (a:Fm ms H H1) (b:Fm ms' H1 H2) (hm:∀b∈ms',b∈ms∨H b=none):Fm ms H H2:=fun c o hc e=>b c o (fun z=>(hm c z).elim hc (fun q=>by rw[e] at q;cases q)) (a c o hc e)
theorem Fm.of {ms:List Addr} {H H1:Hp} (s:qg H H1):Fm ms H H1:=fun c o _ e=>s _ _ e
theorem Fm.oN {ms:List Addr} {H0 H H1:Hp} (a:Fm ms H H1) (s:qg H0 H) (h:∀b∈ms,H0 b=none):qg H0 H1:=fun c o e=>a c o (fun z=>by rw[h c z] at e;cases e) (s c o e)
theorem fi {ms ms':List Addr} {H:Hp} {b:Addr} {o:HO} (hm:∀b∈ms',b∈ms∨H b=none) (h:b∉ms) (e:H b=some o):b∉ms':=fun z=>(hm b z).elim h (fun q=>by rw[e] at q;cases q)
mutual
theorem wM.move {t:jT} {ms ms':List Addr} {H H':Hp} (hk:Fm ms H H') (hm:∀b∈ms',b∈ms∨H b=none):∀{r:Rw} {x:V},wM t ms H r x→wM t ms' H' r x
 | .lt n v,x,h=>by
  unfold wM at h ⊢
  obtain⟨p,e,hp,dx,q⟩:=h
  exact⟨p,e,fi hm hp q,dx,hk _ _ hp q⟩
 | .cl k l u a n r,x,h=>by
  unfold wM at h ⊢
  obtain⟨p,e,hp,dx,q⟩:=h
  exact⟨p,e,fi hm hp q,dx,hk _ _ hp q⟩
 | .pt n rs rows,x,h=>by
  unfold wM at h ⊢
  obtain⟨p,dx,a,b,ys,e,hp,ha,hb,e1,e2,e3,q⟩:=h
  exact⟨p,dx,a,b,ys,e,fi hm hp e1,fi hm ha e2,fi hm hb e3,hk _ _ hp e1,hk _ _ ha e2,hk _ _ hb e3,jb.move hk hm q⟩
theorem jb.move {t:jT} {ms ms':List Addr} {H H':Hp} (hk:Fm ms H H') (hm:∀b∈ms',b∈ms∨H b=none):∀{rs:List Rw} {ys:List V},jb t ms H rs ys→jb t ms' H' rs ys
 | [],ys,h=>by unfold jb at h ⊢;exact h
 | r :: rs,ys,h=>by
  unfold jb at h ⊢
  obtain⟨y,ys',e,h1,h2⟩:=h
  exact⟨y,ys',e,wM.move hk hm h1,jb.move hk hm h2⟩
end
theorem jb.snoc {t:jT} {ms:List Addr} {H:Hp} {r:Rw} {y:V} (h:wM t ms H r y):∀{rs:List Rw} {ys:List V},jb t ms H rs ys→jb t ms H (rs ++ [r]) (ys ++ [y])
 | [],ys,q=>by
  unfold jb at q
  subst q
  show jb t ms H [r] [y]
  unfold jb
  exact⟨y,[],rfl,h,by unfold jb;rfl⟩
 | r' :: rs,ys,q=>by
  unfold jb at q
  obtain⟨y',ys',rfl,h1,h2⟩:=q
  show jb t ms H (r' :: (rs ++ [r])) (y' :: (ys' ++ [y]))
  unfold jb
  exact⟨y',_,rfl,h1,jb.snoc h h2⟩
theorem jb.len {t:jT} {ms:List Addr} {H:Hp}:∀{rs:List Rw} {ys:List V},jb t ms H rs ys→ys.length=rs.length
 | [],ys,q=>by unfold jb at q;rw[q];rfl
 | r' :: rs,ys,q=>by
  unfold jb at q
  obtain⟨y',ys',rfl,h1,h2⟩:=q
  rw[List.length_cons,List.length_cons,jb.len h2]
noncomputable abbrev Fr:=Str × List Str × List Rw
noncomputable def gN (t:jT) (ms:List Addr) (H:Hp) (B:Nat):List Addr→List Addr→List Fr→Prop
 | [],[],[]=>True
 | p :: ps,q :: qs,(n,rs,rows) :: fr=>(∃dx a b,p∉ms∧a∉ms∧H p=some (.ins t.qP dx (nY n a b))∧H a=some (.lst (rs.map V.str)))∧(∃ys,H q=some (.lst ys)∧jb t ms H rows ys∧rows.length≤B)∧gN t ms H B ps qs fr
 | _,_,_=>False
noncomputable def ik (a b c:Addr):List (Str × V):=[("heads",.ref a),("bodies",.ref b),("labels",.ref c)]
noncomputable def Jy (ls:List Str):List (Key × V):=ls.map fun l=>(.inr l,.bl true)
structure lB (t:jT) (H:Hp) (me dx hd bd lb:Addr) (hps bqs:List Addr) (fr:List Fr) (ls:List Str) (B:Nat):Prop where
 nd:(me :: hd :: bd :: lb :: bqs).Nodup
 se:H me=some (.ins t.qL dx (ik hd bd lb))
 hh:H hd=some (.lst (hps.map V.ref).reverse)
 hb:H bd=some (.lst (bqs.map V.ref).reverse)
 hl:H lb=some (.dK (Jy ls))
 fa:gN t (me :: hd :: bd :: lb :: bqs) H B hps bqs fr
 lA:ls.length≤B
noncomputable def wj (t:jT) (H:Hp) (me:Addr) (fr:List Fr) (ls:List Str) (B:Nat) (ms:List Addr):Prop:=∃dx hd bd lb hps bqs,ms=me :: hd :: bd :: lb :: bqs∧lB t H me dx hd bd lb hps bqs fr ls B
theorem gN.len {t:jT} {ms:List Addr} {H:Hp} {B:Nat}:∀{ps qs:List Addr} {fr:List Fr},gN t ms H B ps qs fr→ps.length=fr.length∧qs.length=fr.length
 | [],[],[],_=>⟨rfl,rfl⟩
 | p :: ps,q :: qs,(n,rs,rows) :: fr,h=>by
  have:=gN.len h.2.2
  simp [this.1,this.2]
theorem gN.move {t:jT} {ms ms':List Addr} {H H':Hp} {B B':Nat} (hk:Fm ms H H') (hm:∀b∈ms',b∈ms∨H b=none) (hB:B≤B'):∀{ps qs:List Addr} {fr:List Fr},gN t ms H B ps qs fr→(∀q∈qs,∀o,H q=some o→H' q=some o)→gN t ms' H' B' ps qs fr
 | [],[],[],_,_=>True.intro
 | p :: ps,q :: qs,(n,rs,rows) :: fr,h,hq=>by
  obtain⟨⟨dx,a,b,h1,h2,h3,h4⟩,⟨ys,h5,h6,h7⟩,h8⟩:=h
  exact⟨⟨dx,a,b,fi hm h1 h3,fi hm h2 h4,hk _ _ h1 h3,hk _ _ h2 h4⟩,⟨ys,hq q List.mem_cons_self _ h5,h6.move hk hm,by omega⟩,gN.move hk hm hB h8 fun c hc=>hq c (List.mem_cons_of_mem _ hc)⟩
theorem gN.Zk {t:jT} {ms:List Addr} {H:Hp} {B:Nat}:∀{ps qs:List Addr} {fr:List Fr},gN t ms H B ps qs fr→∀q∈qs,∃o,H q=some o
 | [],[],[],_,q,hq=>by cases hq
 | p :: ps,q :: qs,(n,rs,rows) :: fr,h,c,hc=>by
  obtain⟨_,⟨ys,h5,_,_⟩,h8⟩:=h
  (rcases List.mem_cons.mp hc with rfl | hc)
  ·exact⟨_,h5⟩
  ·exact gN.Zk h8 c hc
theorem lB.Zk {t:jT} {H:Hp} {me dx hd bd lb:Addr} {hps bqs:List Addr} {fr:List Fr} {ls:List Str} {B:Nat} (h:lB t H me dx hd bd lb hps bqs fr ls B):∀b∈me :: hd :: bd :: lb :: bqs,∃o,H b=some o:=by
 intro b hb
 simp only[List.mem_cons] at hb
 rcases hb with rfl | rfl | rfl | rfl | hb
 ·exact⟨_,h.se⟩
 ·exact⟨_,h.hh⟩
 ·exact⟨_,h.hb⟩
 ·exact⟨_,h.hl⟩
 ·exact h.fa.Zk b hb
theorem gN.inv {t:jT} {ms:List Addr} {H:Hp} {B:Nat} {n:Str} {rs:List Str} {rows:List Rw} {fr:List Fr}:∀{hps bqs:List Addr},gN t ms H B hps bqs ((n,rs,rows) :: fr)→∃p ps q qs,hps=p :: ps∧bqs=q :: qs∧(∃dx a b,p∉ms∧a∉ms∧H p=some (.ins t.qP dx (nY n a b))∧H a=some (.lst (rs.map V.str)))∧(∃ys,H q=some (.lst ys)∧jb t ms H rows ys∧rows.length≤B)∧gN t ms H B ps qs fr
 | [],_,h=>by simp [gN] at h
 | _ :: _,[],h=>by simp [gN] at h
 | p :: ps,q :: qs,h=>⟨p,ps,q,qs,rfl,rfl,h.1,h.2.1,h.2.2⟩
section
variable {P:Program} {w:World} {K:PySem.W.Frag} {mg:Str→Option Value} {base:Heap} {t:jT}
end
noncomputable def lN (t:jT):Sp:=fun vs H Q _=>∃(self:Addr) (fr:List Fr) (ls:List Str) (B:Nat) (ms:List Addr),vs=[.ref self]∧wj t H self fr ls B ms∧Q (.int (((fr.length:Nat):Int) - 1)) H
noncomputable def eW (t:jT):Sp:=fun vs H Q _=>∃(self:Addr) (y:V) (n:Str) (rs:List Str) (rows:List Rw) (fr:List Fr) (ls:List Str) (B:Nat) (ms:List Addr) (r:Rw),vs=[.ref self,y]∧wj t H self ((n,rs,rows) :: fr) ls B ms∧wM t ms H r y∧B < 1000∧∀H',Fm ms H H'→wj t H' self ((n,rs,rows ++ [r]) :: fr) ls (B + 1) ms→Q .non H'
noncomputable def cN (t:jT):Sp:=fun vs H Q _=>∃(self:Addr) (n:Str) (rs:List Str) (rows:List Rw) (fr:List Fr) (ls:List Str) (B:Nat) (ms:List Addr),vs=[.ref self]∧wj t H self ((n,rs,rows) :: fr) ls B ms∧B≤1000∧∀p H' ms',Fm ms H H'→(∀b∈ms',b∈ms)→wj t H' self fr ls B ms'→wM t ms' H' (.pt n rs rows) (.ref p)→Q (.ref p) H'
section
variable {P:Program} {w:World} {K:PySem.W.Frag} {mg:Str→Option Value} {base:Heap} {t:jT}
theorem b1:¬(("bodies" : Str) = "heads"):=by decide +kernel
theorem b2:¬(("labels" : Str) = "heads"):=by decide +kernel
theorem b3:¬(("labels" : Str) = "bodies"):=by decide +kernel
section
variable {H:Hp} {self dx hd bd lb:Addr} {hps bqs:List Addr} {fr:List Fr} {ls:List Str} {B:Nat}
theorem lB.f1 (h:lB t H self dx hd bd lb hps bqs fr ls B) (T:Txt K mg t):rm K H (.ref self) "heads" (.ref hd):=⟨self,_,dx,_,rfl,h.se,T.jt,T.vB,qU⟩
theorem lB.f2 (h:lB t H self dx hd bd lb hps bqs fr ls B) (T:Txt K mg t):rm K H (.ref self) "bodies" (.ref bd):=⟨self,_,dx,_,rfl,h.se,T.jt,T.x5,(qo b1).trans qU⟩
theorem lB.f3 (h:lB t H self dx hd bd lb hps bqs fr ls B) (T:Txt K mg t):rm K H (.ref self) "labels" (.ref lb):=⟨self,_,dx,_,rfl,h.se,T.jt,T.wU,(qo b2).trans ((qo b3).trans qU)⟩
end
theorem mq:qe ["self"] ["self"] (z4 jz):=⟨rfl,rfl,rfl,by decide +kernel,rfl,by decide +kernel,by decide +kernel⟩
set_option maxHeartbeats 400000 in
theorem vx (T:Txt K mg t):qi P w K mg base jn 1 t.ky t.vW ["self"] (lN t):=by
 refine T.x6.fn.ok mq (fun vs H Q E h=>(by obtain⟨_,_,_,_,_,rfl,_⟩:=h;rfl)) (fun cdv A outer s H vs Q E hr h=>?_)
 obtain⟨self,fr,ls,B,ms,rfl,⟨dx,hd,bd,lb,hps,bqs,rfl,h⟩,k⟩:=h
 refine⟨_,(z8 (qw (qx mY (qK (jr (K:=K) rfl) rfl T.kL PySem.boot_len (z0 (qV (K:=K) rfl (pv 0) rfl) z5)) z7))),?_⟩
 refine⟨_,rfl,_,h.f1 T,hd,_,rfl,.inl (qI.of h.hh),?_⟩
 refine⟨_,_,rfl,rfl,?_⟩
 have:(hps.map V.ref).reverse.length=fr.length:=by rw[List.length_reverse,List.length_map];exact h.fa.len.1
 rw[this]
 exact k
theorem cR:qe ["self","row"] ["self","row"] (z4 jJ):=⟨rfl,rfl,rfl,by decide +kernel,rfl,by decide +kernel,by decide +kernel⟩
set_option maxHeartbeats 400000 in
theorem wN (T:Txt K mg t):qi P w K mg base jn 1 t.vL t.ya ["self","row"] (eW t):=by
 refine T.v8.fn.ok cR (fun vs H Q E h=>(by obtain⟨_,_,_,_,_,_,_,_,_,_,rfl,_⟩:=h;rfl)) (fun cdv A outer s H vs Q E hr h=>?_)
 obtain⟨self,y,n,rs,rows,fr,ls,B,ms,r,rfl,⟨dx,hd,bd,lb,hps,bqs,rfl,h⟩,hr',hB,k⟩:=h
 refine⟨_,(z8 (j0 (kh PySem.F.plainAttrs_list PySem.F.slot_list_append PySem.F.type_list_append xu (qr (qy (K:=K) rfl) (qV (K:=K) rfl (pv 0) rfl) (VR KH z7) (fun _ _=>rfl)) (z0 (pv 1) z5)))),?_⟩
 obtain⟨nd,se,hh,hb,hl,fa,lA⟩:=id h
 obtain⟨p,ps,q,qs,rfl,rfl,f1,⟨ys,e1,e2,e3⟩,f3⟩:=fa.inv
 refine⟨_,rfl,_,h.f2 T,?_⟩
 refine⟨_,rfl,bd,_,_,.ref q,rfl,rfl,qI.of hb,(by rw[List.map_cons,List.reverse_cons];exact Qs _ _),?_⟩
 have hq:q∈self :: hd :: bd :: lb :: q :: qs:=by simp
 refine⟨.inl ⟨rfl,_,qI.of e1⟩,_,rfl,q,ys,_,rfl,rfl,e1,qj (by have:=e2.len;omega),?_⟩
 intro H' k' e'
 have fm:Fm (self :: hd :: bd :: lb :: q :: qs) H H':=fun b o hb e=>by rw[k' b (fun z=>hb (by rw[z];exact hq))];exact e
 have ne:∀b,b∈self :: hd :: bd :: lb :: qs→b≠q:=fun b hx z=>by
  subst z
  simp only[List.nodup_cons,List.mem_cons,not_or] at nd hx
  rcases hx with hx | hx | hx | hx | hx
  ·exact nd.1.2.2.2.1 hx.symm
  ·exact nd.2.1.2.2.1 hx.symm
  ·exact nd.2.2.1.2.1 hx.symm
  ·exact nd.2.2.2.1.1 hx.symm
  ·exact nd.2.2.2.2.1 hx
 have hm:∀b∈self :: hd :: bd :: lb :: q :: qs,b∈self :: hd :: bd :: lb :: q :: qs∨H b=none:=fun b hb=>.inl hb
 refine k H' fm ⟨dx,hd,bd,lb,p :: ps,q :: qs,rfl,nd,?_,?_,?_,?_,⟨?_,⟨ys ++ [y],e',jb.snoc (hr'.move fm hm) (e2.move fm hm),?_⟩,f3.move fm hm (Nat.le_succ _) fun c hc o e=>by rw[k' c (ne c (by simp [hc]))];exact e⟩,by omega⟩
 ·rw[k' self (ne self (by simp))];exact se
 ·rw[k' hd (ne hd (by simp))];exact hh
 ·rw[k' bd (ne bd (by simp))];exact hb
 ·rw[k' lb (ne lb (by simp))];exact hl
 ·obtain⟨dx',a,b,g1,g2,g3,g4⟩:=f1
  exact⟨dx',a,b,g1,g2,fm _ _ g1 g3,fm _ _ g2 g4⟩
 ·rw[List.length_append];simp only[List.length_cons,List.length_nil];omega
theorem V8 {a b c d q:Addr} {qs:List Addr} (h:(a :: b :: c :: d :: q :: qs).Nodup):(a :: b :: c :: d :: qs).Nodup∧∀x∈a :: b :: c :: d :: qs,x≠q:=by
 have h':=h
 simp only[List.nodup_cons,List.mem_cons,not_or] at h ⊢
 refine⟨⟨⟨h.1.1,h.1.2.1,h.1.2.2.1,h.1.2.2.2.2⟩,⟨h.2.1.1,h.2.1.2.1,h.2.1.2.2.2⟩,⟨h.2.2.1.1,h.2.2.1.2.2⟩,h.2.2.2.1.2,h.2.2.2.2.2⟩,fun x hx z=>?_⟩
 subst z
 rcases hx with hx | hx | hx | hx | hx
 ·exact h.1.2.2.2.1 hx.symm
 ·exact h.2.1.2.2.1 hx.symm
 ·exact h.2.2.1.2.1 hx.symm
 ·exact h.2.2.2.1.1 hx.symm
 ·exact h.2.2.2.2.1 hx
theorem bu:qe ["self","head"] ["self"] (z4 jG):=⟨rfl,rfl,rfl,by decide +kernel,rfl,by decide +kernel,by decide +kernel⟩
set_option maxHeartbeats 400000 in
theorem hZ (T:Txt K mg t):qi P w K mg base jn 3 t.vR t.yn ["self"] (cN t):=by
 have M_Part_init:qi P w K mg base jn 1 t.xA t.kR ["self","name","rooms","rows"] (JS K t):=(y8 T).mono (by decide)
 refine T.yd.fn.ok bu (fun vs H Q E h=>(by obtain⟨_,_,_,_,_,_,_,_,rfl,_⟩:=h;rfl)) (fun cdv A outer s H vs Q E hr h=>?_)
 obtain⟨self,n,rs,rows,fr,ls,B,ms,rfl,⟨dx,hd,bd,lb,hps,bqs,rfl,h⟩,hB,k⟩:=h
 refine⟨_,(z6 (qX (i:=1) bu.nd rfl (Or.inl rfl) (QW PySem.F.plainAttrs_list PySem.F.slot_list_pop PySem.F.type_list_pop Qi (qV (K:=K) rfl (pv 0) rfl)))
   (z8 (qw (vD T.fO M_Part_init hr rfl T.pN T.wG.bd .nil qJ (z0 (qV (K:=K) rfl (pv 1) rfl) (z0 (qV (K:=K) rfl (pv 1) rfl) (z0 (QW PySem.F.plainAttrs_list PySem.F.slot_list_pop PySem.F.type_list_pop Qi (qV (K:=K) rfl (pv 0) rfl)) z5))))))),?_⟩
 obtain⟨nd,se,hh,hb,hl,fa,lA⟩:=id h
 obtain⟨p,ps,q,qs,rfl,rfl,⟨dx',a,b,g1,g2,g3,g4⟩,⟨ys,e1,e2,e3⟩,f3⟩:=fa.inv
 have Zk:=h.Zk
 refine⟨_,rfl,_,h.f1 T,?_⟩
 refine⟨.inl ⟨rfl,_,qI.of hh⟩,hd,_,.ref p,rfl,rfl,hh,(by rw[List.map_cons,List.reverse_cons];simp),?_⟩
 intro H1 k1 e1'
 rw[List.map_cons,List.reverse_cons,List.dropLast_concat] at e1'
 obtain⟨nd2,nq⟩:=V8 nd
 have nab:hd≠bd:=by simp only[List.nodup_cons,List.mem_cons,not_or] at nd;exact nd.2.1.1
 have nsh:self≠hd:=by simp only[List.nodup_cons,List.mem_cons,not_or] at nd;exact nd.1.1
 have nsb:self≠bd:=by simp only[List.nodup_cons,List.mem_cons,not_or] at nd;exact nd.1.2.1
 have nlh:lb≠hd:=by simp only[List.nodup_cons,List.mem_cons,not_or] at nd;exact fun z=>nd.2.1.2.1 z.symm
 have nlb:lb≠bd:=by simp only[List.nodup_cons,List.mem_cons,not_or] at nd;exact fun z=>nd.2.2.1.1 z.symm
 have ph:p≠hd:=fun z=>g1 (by rw[z];simp)
 have ah:a≠hd:=fun z=>g2 (by rw[z];simp)
 have p1:H1 p=some (.ins t.qP dx' (nY n a b)):=by rw[k1 p ph];exact g3
 have a1:H1 a=some (.lst (rs.map V.str)):=by rw[k1 a ah];exact g4
 have s1:H1 self=some (.ins t.qL dx (ik hd bd lb)):=by rw[k1 self nsh];exact se
 have b1':H1 bd=some (.lst ((q :: qs).map V.ref).reverse):=by rw[k1 bd (Ne.symm nab)];exact hb
 refine⟨_,rfl,_,⟨p,_,dx',_,rfl,p1,T.kK,T.vn,qU⟩,?_⟩
 refine⟨_,rfl,_,⟨p,_,dx',_,rfl,p1,T.kK,T.vC,(qo (fun z=>m2 z.symm)).trans qU⟩,?_⟩
 refine⟨_,rfl,_,⟨self,_,dx,_,rfl,s1,T.jt,T.x5,(qo b1).trans qU⟩,?_⟩
 refine⟨.inl ⟨rfl,_,qI.of b1'⟩,bd,_,.ref q,rfl,rfl,b1',(by rw[List.map_cons,List.reverse_cons];simp),?_⟩
 intro H2 k2 e2'
 rw[List.map_cons,List.reverse_cons,List.dropLast_concat] at e2'
 intro x dxx hx hdx hne
 have keep2:∀c o,c≠hd→c≠bd→H c=some o→H2 c=some o:=fun c o h1 h2 e=>by rw[k2 c h2,k1 c h1];exact e
 have keepm:∀c o,H2 c=some o→(upd (upd H2 dxx (HO.own x)) x (HO.ins t.qP dxx [])) c=some o:=yl hx hdx
 have ab:a≠bd:=fun z=>g2 (by rw[z];simp)
 have qh:q≠hd:=Ne.symm (nq hd (by simp))
 have qb':q≠bd:=Ne.symm (nq bd (by simp))
 refine⟨x,dxx,a,q,n,rs,ys,rfl,qv,keepm _ _ (keep2 _ _ ah ab g4),keepm _ _ (keep2 _ _ qh qb' e1),fun H3 o3 h3=>⟨rfl,?_⟩⟩
 obtain⟨dx3,qa,qb,r1,r2,r3,z1,z2⟩:=h3
 have keep3:∀c o,H2 c=some o→H3 c=some o:=fun c o e=>o3 c o (qk e hx) (keepm c o e)
 have ke:∀c o,c≠hd→c≠bd→H c=some o→H3 c=some o:=fun c o h1 h2 e=>keep3 c o (keep2 c o h1 h2 e)
 have h2h:H2 hd=some (.lst (ps.map V.ref).reverse):=by rw[k2 hd nab];exact e1'
 have sub:∀c∈self :: hd :: bd :: lb :: qs,c∈self :: hd :: bd :: lb :: q :: qs:=fun c hc=>by
  simp only[List.mem_cons] at hc ⊢
  rcases hc with z | z | z | z | z<;>simp [z]
 have fm:Fm (self :: hd :: bd :: lb :: q :: qs) H H3:=fun c o hc e=>ke c o (fun z=>hc (by rw[z];simp)) (fun z=>hc (by rw[z];simp)) e
 have dom2:∀c∈self :: hd :: bd :: lb :: qs,∃o,H2 c=some o:=fun c hc=>by
  by_cases q1:c=hd
  ·subst q1;exact⟨_,h2h⟩
  ·by_cases q2:c=bd
   ·subst q2;exact⟨_,e2'⟩
   ·obtain⟨o,e⟩:=Zk c (sub c hc)
    exact⟨o,keep2 c o q1 q2 e⟩
 have ni:∀y,(upd (upd H2 dxx (HO.own x)) x (HO.ins t.qP dxx [])) y=none→y∉self :: hd :: bd :: lb :: qs:=fun y e hy=>by
  obtain⟨o,e'⟩:=dom2 y hy
  rw[keepm y o e'] at e;cases e
 have hm:∀c∈self :: hd :: bd :: lb :: qs,c∈self :: hd :: bd :: lb :: q :: qs∨H c=none:=fun c hc=>.inl (sub c hc)
 have nqs:∀c∈qs,c≠hd∧c≠bd:=fun c hc=>by
  simp only[List.nodup_cons,List.mem_cons,not_or] at nd2
  exact⟨fun z=>nd2.2.1.2.2 (by rw[←z];exact hc),fun z=>nd2.2.2.1.2 (by rw[←z];exact hc)⟩
 refine k x H3 (self :: hd :: bd :: lb :: qs) fm sub ⟨dx,hd,bd,lb,ps,qs,rfl,nd2,ke _ _ nsh nsb se,keep3 _ _ h2h,keep3 _ _ e2',ke _ _ nlh nlb hl,f3.move fm hm (Nat.le_refl _) (fun c hc o e=>ke c o (nqs c hc).1 (nqs c hc).2 e),lA⟩ ?_
 unfold wM
 refine⟨x,dx3,qa,qb,ys,rfl,fun hxm=>?_,ni qa z1,ni qb z2,r1,r2,r3,e2.move fm hm⟩
 obtain⟨o,e'⟩:=dom2 x hxm
 rw[hx] at e';cases e'
end
noncomputable def QJ (t:jT):Sp:=fun vs H Q _=>∃(self:Addr) (fr:List Fr) (ls:List Str) (B:Nat) (ms:List Addr),vs=[.ref self]∧wj t H self fr ls B ms∧B < 1000∧fr≠[]∧(fr.length=1→Q (.bl false) H)∧
 ∀n rs rows n2 rs2 rows2 fr',fr=(n,rs,rows) :: (n2,rs2,rows2) :: fr'→∀H' ms',Fm ms H H'→(∀b∈ms',b∈ms)→wj t H' self ((n2,rs2,rows2 ++ [.pt n rs rows]) :: fr') ls (B + 1) ms'→Q (.bl true) H'
noncomputable def Qc (t:jT):Sp:=fun vs H Q _=>∃(self p dx a b:Addr) (n:Str) (rs:List Str) (fr:List Fr) (ls:List Str) (B:Nat) (ms:List Addr),vs=[.ref self,.ref p]∧wj t H self fr ls B ms∧B < 1000∧fr.length≤7∧p∉ms∧a∉ms∧H p=some (.ins t.qP dx (nY n a b))∧H a=some (.lst (rs.map V.str))∧(fr.length=7∨n∈ls→Q (.bl false) H)∧
 (¬(fr.length=7∨n∈ls)→∀H' ms',Fm ms H H'→(∀b∈ms',b∈ms∨H b=none)→wj t H' self ((n,rs,[]) :: fr) (ls ++ [n]) (B + 1) ms'→Q (.bl true) H')
noncomputable def QZ (t:jT):Sp:=fun vs H Q _=>∃(self p:Addr) (k:Int) (l u a:Str) (n:Int) (r:Str) (pn:Str) (rs:List Str) (rows:List Rw) (fr:List Fr) (ls:List Str) (B:Nat) (ms:List Addr),vs=[.ref self,.ref p]∧wj t H self ((pn,rs,rows) :: fr) ls B ms∧B < 998∧p∉ms∧At t H p k l u a n r∧(l∈ls→Q (.bl false) H)∧
 (l∉ls→∀H',Fm ms H H'→wj t H' self ((pn,rs,rows ++ [.cl k l u a n r]) :: fr) (ls ++ [l]) (B + 2) ms→Q (.bl true) H')
theorem pE {a b c:Addr} {m:Str} (h1:¬m = "heads") (h2:¬m = "bodies") (h3:¬m = "labels"):(ik a b c).lookup m=none:=(qo h1).trans ((qo h2).trans ((qo h3).trans rfl))
theorem ly {a b c:Addr}:(ik a b c).lookup ("many_open" : Str)=none:=pE (by decide +kernel) (by decide +kernel) (by decide +kernel)
theorem oY {a b c:Addr}:(ik a b c).lookup ("put_in" : Str)=none:=pE (by decide +kernel) (by decide +kernel) (by decide +kernel)
theorem u0 {a b c:Addr}:(ik a b c).lookup ("closed" : Str)=none:=pE (by decide +kernel) (by decide +kernel) (by decide +kernel)
theorem VM {a b c:Addr}:(ik a b c).lookup ("takes_done" : Str)=none:=pE (by decide +kernel) (by decide +kernel) (by decide +kernel)
theorem Wb {a b c:Addr}:(ik a b c).lookup ("takes_head" : Str)=none:=pE (by decide +kernel) (by decide +kernel) (by decide +kernel)
theorem VT {a b c:Addr}:(ik a b c).lookup ("takes_clause" : Str)=none:=pE (by decide +kernel) (by decide +kernel) (by decide +kernel)
theorem VW {a b c:Addr}:(ik a b c).lookup ("takes" : Str)=none:=pE (by decide +kernel) (by decide +kernel) (by decide +kernel)
theorem og {ls:List Str} {n:Str}:(gB (Jy ls) (.inr n)).isSome=decide (n∈ls):=by
 rw[←fb]
 unfold Jy
 rw[List.any_map]
 rw[Bool.eq_iff_iff]
 simp
theorem ia {ls:List Str} {n:Str} (h:n∉ls):putK (Jy ls) (.inr n) (.bl true)=Jy (ls ++ [n]):=by
 rw[ZA]
 ·unfold Jy;rw[List.map_append];rfl
 ·have:=@og ls n
  rw[decide_eq_false h] at this
  cases q:gB (Jy ls) (.inr n) with
  | none=>rfl
  | some v=>rw[q] at this;cases this
section
variable {P:Program} {w:World} {K:PySem.W.Frag} {mg:Str→Option Value} {base:Heap} {t:jT}
theorem pO:qe ["self"] ["self"] (z4 qA):=⟨rfl,rfl,rfl,by decide +kernel,rfl,by decide +kernel,by decide +kernel⟩
set_option maxHeartbeats 400000 in
theorem p7 (T:Txt K mg t):qi P w K mg base jn 5 t.xS t.vh ["self"] (QJ t):=by
 refine T.wg.fn.ok pO (fun vs H Q E h=>(by obtain⟨_,_,_,_,_,rfl,_⟩:=h;rfl)) (fun cdv A outer s H vs Q E hr h=>?_)
 obtain⟨self,fr,ls,B,ms,rfl,hb,hB,hne,k0,k1⟩:=h
 refine⟨_,(z6 (qG (qu jQ (wW hr (pv 0)) z7 (qt _))
    (z8 (qw vX)) qp)
   (z6 (j0 (yJ hr (pv 0) (z0 (wW hr (pv 0)) z5)))
   (z8 (qw vX)))),?_⟩
 have M1:kY P w K mg base jn 4 t.qL "many_open" (lN t):=.mk' T.xI (vx T) T.x6.bd (by decide)
 have M2:kY P w K mg base jn 4 t.qL "put_in" (eW t):=.mk' T.vq (wN T) T.v8.bd (by decide)
 have M3:kY P w K mg base jn 4 t.qL "closed" (cN t):=.mk' T.yk (hZ T) T.yd.bd (by decide)
 obtain⟨dx,hd,bd,lb,hps,bqs,e,h⟩:=id hb
 refine⟨_,rfl,self,_,dx,_,rfl,h.se,T.jt,ly,_,M1,?_⟩
 refine⟨self,fr,ls,B,ms,rfl,hb,?_⟩
 walk_at "rd"
 refine je (fun h1=>?_) (fun h1=>?_)
 ·walk_at "rd"
  exact k0 (by
   have:((fr.length:Nat):Int) - 1=0:=by simpa using h1
   omega)
 match fr,hne with
 | [(n,rs,rows)],_=>exact absurd rfl h1
 | (n,rs,rows) :: (n2,rs2,rows2) :: fr',_=>
  walk_at "rd"
  refine⟨self,_,dx,_,rfl,h.se,T.jt,oY,_,M2,?_⟩
  refine⟨_,rfl,self,_,dx,_,rfl,h.se,T.jt,u0,_,M3,?_⟩
  refine⟨self,n,rs,rows,_,ls,B,ms,rfl,hb,by omega,fun p H1 ms1 fm1 sub1 hb1 hr1=>?_⟩
  refine⟨self,.ref p,n2,rs2,rows2,fr',ls,B,ms1,.pt n rs rows,rfl,hb1,hr1,hB,fun H2 fm2 hb2=>?_⟩
  exact k1 _ _ _ _ _ _ _ rfl H2 ms1 (fm1.trans fm2 (fun b hb=>.inl (sub1 b hb))) sub1 hb2
theorem pI:qe ["self","head"] ["self","head"] (z4 q0):=⟨rfl,rfl,rfl,by decide +kernel,rfl,by decide +kernel,by decide +kernel⟩
set_option maxHeartbeats 400000 in
theorem p5 (T:Txt K mg t):qi P w K mg base jn 3 t.xU t.kS ["self","head"] (Qc t):=by
 refine T.wm.fn.ok pI (fun vs H Q E h=>(by obtain⟨_,_,_,_,_,_,_,_,_,_,_,rfl,_⟩:=h;rfl)) (fun cdv A outer s H vs Q E hr h=>?_)
 obtain⟨self,p,dxp,a,b,n,rs,fr,ls,B,ms,rfl,hb,hB,h7,hp,ha,ep,ea,k0,k1⟩:=h
 refine⟨_,(z6 (qG (PW.pt (vJ (qu jQ (wW hr (pv 0)) (jh rfl (T.m9).choose_spec (v:=.int 6) ⟨_,rfl⟩) (qt _)) (k7 (QQ (QO (iD hr) (qV (K:=K) rfl (pv 1) rfl) (qV (K:=K) rfl (pv 0) rfl))))))
    (z8 (qw vX)) qp)
   (z6 (ZS vX (Zr (qV (K:=K) rfl (pv 0) rfl) (qV (K:=K) rfl (pv 1) rfl) (rz (iD hr))))
   (z6 (j0 (kh PySem.F.plainAttrs_list PySem.F.slot_list_append PySem.F.type_list_append xu (qV (K:=K) rfl (pv 0) rfl) (z0 (pv 1) z5)))
   (z6 (j0 (kh PySem.F.plainAttrs_list PySem.F.slot_list_append PySem.F.type_list_append xu (qV (K:=K) rfl (pv 0) rfl) (z0 (qS z5) z5)))
   (z8 (qw vX)))))),?_⟩
 have M1:kY P w K mg base jn 2 t.qL "many_open" (lN t):=.mk' T.xI (vx T) T.x6.bd (by decide)
 obtain⟨dx,hd,bd,lb,hps,bqs,e,h⟩:=id hb
 have fnm:rm K H (.ref p) "name" (.str n):=⟨p,_,dxp,_,rfl,ep,T.kK,T.vn,qU⟩
 refine⟨_,rfl,self,_,dx,_,rfl,h.se,T.jt,ly,_,M1,?_⟩
 refine⟨self,fr,ls,B,ms,rfl,hb,?_⟩
 walk_at "rd"
 refine je (fun h1=>?_) (fun h1=>?_)
 ·walk_at "rd"
  exact k0 (.inl (by
   have:((fr.length:Nat):Int) - 1=6:=by simpa using h1
   omega))
 have n7:¬fr.length=7:=fun z=>h1 (by rw[z];rfl)
 refine⟨_,rfl,_,fnm,_,rfl,_,h.f3 T,lb,_,rfl,uy.k (k:=.inr n) h.hl,?_⟩
 rw[og]
 subst e
 obtain⟨nd,se,hh,hbb,hl,fa,lA⟩:=id h
 have ndx:=nd
 simp only[List.nodup_cons,List.mem_cons,not_or] at ndx
 obtain⟨⟨nsh,nsb,nsl,_⟩,⟨nhb,nhl,_⟩,⟨nbl,_⟩,_,_⟩:=ndx
 refine⟨_,rfl,?_⟩
 refine je (fun h2=>?_) (fun h2=>?_)
 ·exact k0 (.inr (of_decide_eq_true h2))
 have hnl:n∉ls:=fun z=>h2 (decide_eq_true z)
 refine⟨_,rfl,_,h.f3 T,_,rfl,_,fnm,lb,_,.inr n,rfl,rfl,hl,qj (by unfold Jy;rw[List.length_map];omega),?_⟩
 intro H1 k1' e1
 rw[ia hnl] at e1
 have s1:H1 self=some (.ins t.qL dx (ik hd bd lb)):=by rw[k1' self nsl];exact se
 have h1':H1 hd=some (.lst (hps.map V.ref).reverse):=by rw[k1' hd nhl];exact hh
 have b1':H1 bd=some (.lst (bqs.map V.ref).reverse):=by rw[k1' bd nbl];exact hbb
 have lh:=fa.len
 refine⟨_,rfl,_,⟨self,_,dx,_,rfl,s1,T.jt,T.vB,qU⟩,.inl ⟨rfl,_,qI.of h1'⟩,_,rfl,hd,_,_,rfl,rfl,h1',qj (by rw[List.length_reverse,List.length_map];omega),?_⟩
 intro H2 k2 e2
 have s2:H2 self=some (.ins t.qL dx (ik hd bd lb)):=by rw[k2 self nsh];exact s1
 have b2':H2 bd=some (.lst (bqs.map V.ref).reverse):=by rw[k2 bd (Ne.symm nhb)];exact b1'
 have l2':H2 lb=some (.dK (Jy (ls ++ [n]))):=by rw[k2 lb (Ne.symm nhl)];exact e1
 refine⟨_,rfl,_,⟨self,_,dx,_,rfl,s2,T.jt,T.x5,(qo b1).trans qU⟩,.inl ⟨rfl,_,qI.of b2'⟩,Nat.zero_le _,?_⟩
 intro q H3 s3 hq e3
 refine⟨bd,_,_,rfl,rfl,s3 _ _ b2',qj (by rw[List.length_reverse,List.length_map];omega),?_⟩
 intro H4 k4 e4
 have ke:∀c o,c≠hd→c≠bd→c≠lb→H c=some o→H4 c=some o:=fun c o z1 z2 z3 e=>by
  rw[k4 c z2];refine s3 _ _ ?_;rw[k2 c z1,k1' c z3];exact e
 have Zk:=h.Zk
 have dom2:∀c∈self :: hd :: bd :: lb :: bqs,∃o,H2 c=some o:=fun c hc=>by
  by_cases q1:c=hd
  ·subst q1;exact⟨_,e2⟩
  ·rw[k2 c q1]
   by_cases q3:c=lb
   ·subst q3;exact⟨_,e1⟩
   ·rw[k1' c q3];exact Zk c hc
 have qn:q∉self :: hd :: bd :: lb :: bqs:=fun z=>by
  obtain⟨o,e⟩:=dom2 q z
  rw[hq] at e;cases e
 have Hq:H q=none:=by
  cases z:H q with
  | none=>rfl
  | some o=>
   have q1:q≠hd:=fun y=>qn (by rw[y];simp)
   have q3:q≠lb:=fun y=>qn (by rw[y];simp)
   rw[k2 q q1,k1' q q3,z] at hq;cases hq
 have fm:Fm (self :: hd :: bd :: lb :: bqs) H H4:=fun c o hc e=>ke c o (fun z=>hc (by rw[z];simp)) (fun z=>hc (by rw[z];simp)) (fun z=>hc (by rw[z];simp)) e
 have hm:∀c∈self :: hd :: bd :: lb :: q :: bqs,c∈self :: hd :: bd :: lb :: bqs∨H c=none:=fun c hc=>by
  simp only[List.mem_cons] at hc
  rcases hc with z | z | z | z | z | z
  ·exact .inl (by simp [z])
  ·exact .inl (by simp [z])
  ·exact .inl (by simp [z])
  ·exact .inl (by simp [z])
  ·exact .inr (by rw[z];exact Hq)
  ·exact .inl (by simp [z])
 have qb:q≠bd:=fun y=>qn (by rw[y];simp)
 have q4:H4 q=some (.lst []):=by rw[k4 q qb];exact e3
 have nqs:∀c∈bqs,c≠hd∧c≠bd∧c≠lb:=fun c hc=>by
  simp only[List.nodup_cons,List.mem_cons,not_or] at nd
  exact⟨fun z=>nd.2.1.2.2 (by rw[←z];exact hc),fun z=>nd.2.2.1.2 (by rw[←z];exact hc),fun z=>nd.2.2.2.1 (by rw[←z];exact hc)⟩
 refine k1 (fun z=>z.elim n7 hnl) H4 (self :: hd :: bd :: lb :: q :: bqs) fm hm ⟨dx,hd,bd,lb,p :: hps,q :: bqs,rfl,?_,ke _ _ nsh nsb nsl se,?_,?_,?_,⟨⟨dxp,a,b,fi hm hp ep,fi hm ha ea,fm _ _ hp ep,fm _ _ ha ea⟩,⟨[],q4,by unfold jb;rfl,Nat.zero_le _⟩,fa.move fm hm (Nat.le_succ _) (fun c hc o e=>ke c o (nqs c hc).1 (nqs c hc).2.1 (nqs c hc).2.2 e)⟩,by rw[List.length_append];simp only[List.length_cons,List.length_nil];omega⟩
 ·have nd':=nd
  simp only[List.nodup_cons,List.mem_cons,not_or] at nd' qn ⊢
  exact⟨⟨nd'.1.1,nd'.1.2.1,nd'.1.2.2.1,Ne.symm qn.1,nd'.1.2.2.2⟩,⟨nd'.2.1.1,nd'.2.1.2.1,Ne.symm qn.2.1,nd'.2.1.2.2⟩,⟨nd'.2.2.1.1,Ne.symm qn.2.2.1,nd'.2.2.1.2⟩,⟨Ne.symm qn.2.2.2.1,nd'.2.2.2.1⟩,qn.2.2.2.2,nd'.2.2.2.2⟩
 ·rw[k4 hd nhb,List.map_cons,List.reverse_cons];exact s3 _ _ e2
 ·rw[List.map_cons,List.reverse_cons];exact e4
 ·rw[k4 lb (Ne.symm nbl)];exact s3 _ _ l2'
end
theorem wj.same {t:jT} {H H':Hp} {me:Addr} {fr:List Fr} {ls:List Str} {B:Nat} {ms:List Addr} (h:wj t H me fr ls B ms) (s:qg H H'):wj t H' me fr ls B ms:=by
 obtain⟨dx,hd,bd,lb,hps,bqs,e,h⟩:=h
 subst e
 exact⟨dx,hd,bd,lb,hps,bqs,rfl,h.nd,s _ _ h.se,s _ _ h.hh,s _ _ h.hb,s _ _ h.hl,h.fa.move (Fm.of s) (fun b hb=>.inl hb) (Nat.le_refl _) (fun c _ o e=>s _ _ e),h.lA⟩
theorem wj.up {t:jT} {H:Hp} {me:Addr} {fr:List Fr} {ls:List Str} {B B':Nat} {ms:List Addr} (h:wj t H me fr ls B ms) (hB:B≤B'):wj t H me fr ls B' ms:=by
 obtain⟨dx,hd,bd,lb,hps,bqs,e,h⟩:=h
 subst e
 exact⟨dx,hd,bd,lb,hps,bqs,rfl,h.nd,h.se,h.hh,h.hb,h.hl,h.fa.move (Fm.of (qg.refl _)) (fun b hb=>.inl hb) hB (fun c _ o e=>e),Nat.le_trans h.lA hB⟩
theorem wj.Zk {t:jT} {H:Hp} {me:Addr} {fr:List Fr} {ls:List Str} {B:Nat} {ms:List Addr} (h:wj t H me fr ls B ms):∀b∈ms,∃o,H b=some o:=by
 obtain⟨dx,hd,bd,lb,hps,bqs,e,h⟩:=h
 subst e
 exact h.Zk
theorem wj.out {t:jT} {H:Hp} {me:Addr} {fr:List Fr} {ls:List Str} {B:Nat} {ms:List Addr} {p:Addr} (h:wj t H me fr ls B ms) (hp:H p=none):p∉ms:=fun z=>by
 obtain⟨o,e⟩:=h.Zk p z
 rw[hp] at e;cases e
noncomputable def push:List Fr→Rw→List Fr
 | (n,rs,rows) :: fr,r=>(n,rs,rows ++ [r]) :: fr
 | [],_=>[]
noncomputable def gi (fr:List Fr) (ls:List Str) (x:Str):Option (List Fr × List Str):=
 if x = "done" then (match fr with
  | (n,rs,rows) :: (n2,rs2,rows2) :: fr'=>some ((n2,rs2,rows2 ++ [.pt n rs rows]) :: fr',ls)
  | _=>none)
 else match vZ (vO x) with
  | some (n,rs)=>if fr.length=7∨n∈ls then none else some ((n,rs,[]) :: fr,ls ++ [n])
  | none=>match jK (vO x) with
   | some (k,l,u,a,n,r)=>if l∈ls then none else some (push fr (.cl k l u a n r),ls ++ [l])
   | none=>match aV (vO x) with
    | none=>none
    | some (n,v)=>some (push fr (.lt n v),ls)
noncomputable def il (t:jT):Sp:=fun vs H Q _=>∃(self:Addr) (x:Str) (fr:List Fr) (ls:List Str) (B:Nat) (ms:List Addr),vs=[.ref self,.str x]∧wj t H self fr ls B ms∧B < 998∧x.length≤190∧fr≠[]∧fr.length≤7∧(gi fr ls x=none→∀H',Fm ms H H'→Q (.bl false) H')∧
 ∀fr' ls' H' ms',gi fr ls x=some (fr',ls')→Fm ms H H'→(∀b∈ms',b∈ms∨H b=none)→wj t H' self fr' ls' (B + 2) ms'→Q (.bl true) H'
section
variable {P:Program} {w:World} {K:PySem.W.Frag} {mg:Str→Option Value} {base:Heap} {t:jT}
theorem gA:qe ["self","clause"] ["self","clause"] (z4 qM):=⟨rfl,rfl,rfl,by decide +kernel,rfl,by decide +kernel,by decide +kernel⟩
set_option maxHeartbeats 400000 in
theorem g8 (T:Txt K mg t):qi P w K mg base jn 3 t.xf t.kf ["self","clause"] (QZ t):=by
 refine T.vy.fn.ok gA (fun vs H Q E h=>(by obtain⟨_,_,_,_,_,_,_,_,_,_,_,_,_,_,_,rfl,_⟩:=h;rfl)) (fun cdv A outer s H vs Q E hr h=>?_)
 obtain⟨self,p,k,l,u,a,n,r,pn,rs,rows,fr,ls,B,ms,rfl,hb,hB,hp,hA,k0,k1⟩:=h
 refine⟨_,(z6 (qG (QQ (QO (iD hr) (qV (K:=K) rfl (pv 1) rfl) (qV (K:=K) rfl (pv 0) rfl)))
    (z8 (qw vX)) qp)
   (z6 (ZS vX (Zr (qV (K:=K) rfl (pv 0) rfl) (qV (K:=K) rfl (pv 1) rfl) (rz (iD hr))))
   (z6 (j0 (yJ hr (pv 0) (z0 (pv 1) z5)))
   (z8 (qw vX))))),?_⟩
 have M2:kY P w K mg base jn 2 t.qL "put_in" (eW t):=.mk' T.vq (wN T) T.v8.bd (by decide)
 obtain⟨dx,hd,bd,lb,hps,bqs,e,h⟩:=id hb
 subst e
 have fl:=hA.fl T
 refine⟨_,rfl,_,fl,_,rfl,_,h.f3 T,lb,_,rfl,uy.k (k:=.inr l) h.hl,?_⟩
 rw[og]
 refine⟨_,rfl,?_⟩
 refine je (fun h2=>?_) (fun h2=>?_)
 ·exact k0 (of_decide_eq_true h2)
 have hnl:l∉ls:=fun z=>h2 (decide_eq_true z)
 obtain⟨nd,se,hh,hbb,hl,fa,lA⟩:=id h
 have ndx:=nd
 simp only[List.nodup_cons,List.mem_cons,not_or] at ndx
 obtain⟨⟨nsh,nsb,nsl,_⟩,⟨nhb,nhl,_⟩,⟨nbl,_⟩,nlq,_⟩:=ndx
 refine⟨_,rfl,_,h.f3 T,_,rfl,_,fl,lb,_,.inr l,rfl,rfl,hl,qj (by unfold Jy;rw[List.length_map];omega),?_⟩
 intro H1 k1' e1
 rw[ia hnl] at e1
 have fm:Fm (self :: hd :: bd :: lb :: bqs) H H1:=fun c o hc e=>by rw[k1' c (fun z=>hc (by rw[z];simp))];exact e
 have hm:∀c∈self :: hd :: bd :: lb :: bqs,c∈self :: hd :: bd :: lb :: bqs∨H c=none:=fun c hc=>.inl hc
 have s1:H1 self=some (.ins t.qL dx (ik hd bd lb)):=by rw[k1' self nsl];exact se
 have hb1:wj t H1 self ((pn,rs,rows) :: fr) (ls ++ [l]) (B + 1) (self :: hd :: bd :: lb :: bqs):=⟨dx,hd,bd,lb,hps,bqs,rfl,nd,s1,by rw[k1' hd nhl];exact hh,by rw[k1' bd nbl];exact hbb,e1,fa.move fm hm (Nat.le_succ _) (fun c hc o e=>by rw[k1' c (fun z=>nlq (by rw[←z];exact hc))];exact e),by rw[List.length_append];simp only[List.length_cons,List.length_nil];omega⟩
 refine⟨_,rfl,self,_,dx,_,rfl,s1,T.jt,oY,_,M2,?_⟩
 obtain⟨dxc,ec⟩:=hA
 have hr1:wM t (self :: hd :: bd :: lb :: bqs) H1 (.cl k l u a n r) (.ref p):=by unfold wM;exact⟨p,rfl,hp,dxc,fm _ _ hp ec⟩
 refine⟨_,rfl,self,.ref p,pn,rs,rows,fr,_,_,_,_,rfl,hb1,hr1,by omega,fun H2 fm2 hb2=>?_⟩
 exact k1 hnl H2 (fm.trans fm2 hm) hb2
theorem vG:qe ["self","row","head","clause","let"] ["self","row"] (z4 jU):=⟨rfl,rfl,rfl,by decide +kernel,rfl,by decide +kernel,by decide +kernel⟩
set_option maxHeartbeats 400000 in
theorem ud (T:Txt K mg t):qi P w K mg base jn 7 t.wX t.gj ["self","row"] (il t):=by
 have G_v_clause_of:qi P w K mg base jn 6 t.vU t.vM ["row"] (tj t):=(dU T).mono (by decide)
 have G_v_let_of:qi P w K mg base jn 6 t.yA t.yN ["row"] (Xf t):=(nV T).mono (by decide)
 have G_v_part_of:qi P w K mg base jn 6 t.yc t.yt ["row"] (QN t):=(lQ T).mono (by decide)
 refine T.fq.fn.ok vG (fun vs H Q E h=>(by obtain⟨_,_,_,_,_,_,rfl,_⟩:=h;rfl)) (fun cdv A outer s H vs Q E hr h=>?_)
 obtain⟨self,x,fr,ls,B,ms,rfl,hb,hB,hx,hne,h7,k0,k1⟩:=h
 refine⟨_,(z6 (qG (qu jQ (pv 1) qq (qt _))
    (z8 (qw (wW hr (pv 0)))) qp)
   (z6 (qX (i:=2) vG.nd rfl (Or.inl rfl) (qf G_v_part_of hr rfl T.yW.mg T.yW.fn.kp T.yW.bd .nil qJ (z0 (pv 1) z5)))
   (z6 (qG (qu iQ (pv 2) y9 (qt _))
    (z8 (qw (yJ hr (pv 0) (z0 (pv 2) z5)))) qp)
   (z6 (qX (i:=3) vG.nd rfl (Or.inl rfl) (qf G_v_clause_of hr rfl T.vT.mg T.vT.fn.kp T.vT.bd .nil qJ (z0 (pv 1) z5)))
   (z6 (qG (qu iQ (pv 3) y9 (qt _))
    (z8 (qw (yJ hr (pv 0) (z0 (pv 3) z5)))) qp)
   (z6 (qX (i:=4) vG.nd rfl (Or.inl rfl) (qf G_v_let_of hr rfl T.bZ.mg T.bZ.fn.kp T.bZ.bd .nil qJ (z0 (pv 1) z5)))
   (z6 (qG (qu ZY (pv 4) y9 (qt _))
    (z8 (qw vX)) qp)
   (z6 (j0 (yJ hr (pv 0) (z0 (pv 4) z5)))
   (z8 (qw vX)))))))))),?_⟩
 have M1:kY P w K mg base jn 6 t.qL "takes_done" (QJ t):=.mk' T.yq (p7 T) T.wg.bd (by decide)
 have M2:kY P w K mg base jn 6 t.qL "takes_head" (Qc t):=.mk' T.wC (p5 T) T.wm.bd (by decide)
 have M3:kY P w K mg base jn 6 t.qL "takes_clause" (QZ t):=.mk' T.wx (g8 T) T.vy.bd (by decide)
 have M4:kY P w K mg base jn 6 t.qL "put_in" (eW t):=.mk' T.vq (wN T) T.v8.bd (by decide)
 obtain⟨dx,hd,bd,lb,hps,bqs,e,h⟩:=id hb
 obtain⟨pn,prs,prow,fr0,rfl⟩:∃pn prs prow fr0,fr=(pn,prs,prow) :: fr0:=by
  match fr,hne with
  | (a,b,c) :: r,_=>exact⟨a,b,c,r,rfl⟩
 have se:=h.se
 have hmm:∀c∈ms,c∈ms∨H c=none:=fun c hc=>.inl hc
 walk_at "rd"
 refine je (fun h1=>?_) (fun h1=>?_)
 ·have hxd:x = "done":=dD h1
  refine⟨_,rfl,self,_,dx,_,rfl,se,T.jt,VM,_,M1,?_⟩
  refine⟨self,_,ls,B,ms,rfl,hb,by omega,hne,fun hl1=>?_,fun n rs rows n2 rs2 rows2 fr' ef H' ms' fm sub hb'=>?_⟩
  ·refine k0 ?_ H (fun _ _ _ e=>e)
   unfold gi
   rw[if_pos hxd]
   have hf0:fr0=[]:=List.length_eq_zero_iff.mp (by simpa using hl1)
   rw[hf0]
  ·refine k1 _ _ H' ms' ?_ fm (fun b hb=>.inl (sub b hb)) (hb'.up (by omega))
   unfold gi
   rw[if_pos hxd,ef]
 have hxd:¬x = "done":=dY h1
 have eT:gi ((pn,prs,prow) :: fr0) ls x=(match vZ (vO x) with
  | some (n,rs)=>if ((pn,prs,prow) :: fr0).length=7∨n∈ls then none else some ((n,rs,[]) :: (pn,prs,prow) :: fr0,ls ++ [n])
  | none=>match jK (vO x) with
   | some (k,l,u,a,n,r)=>if l∈ls then none else some (push ((pn,prs,prow) :: fr0) (.cl k l u a n r),ls ++ [l])
   | none=>match aV (vO x) with
    | none=>none
    | some (n,v)=>some (push ((pn,prs,prow) :: fr0) (.lt n v),ls)):=by unfold gi;rw[if_neg hxd]
 walk_at "rd"
 refine fun H1 s1=>⟨fun h0=>?_,fun p n rs h0 hp hP=>?_⟩
 ·rw[h0] at eT
  walk_at "rd"
  refine fun H2 s2=>⟨fun h0c=>?_,fun p k l u a n r h0c hp hA=>?_⟩
  ·rw[h0c] at eT
   walk_at "rd"
   refine fun H3 s3=>⟨fun h0l=>?_,fun p n v h0l hp hL=>?_⟩
   ·rw[h0l] at eT
    walk_at "rd"
    exact k0 eT H3 (Fm.of ((s1.trans s2).trans s3))
   ·rw[h0l] at eT
    have sA:qg H H3:=(s1.trans s2).trans s3
    have hout:p∉ms:=(hb.same (s1.trans s2)).out hp
    walk_at "rd"
    refine⟨self,_,dx,_,rfl,sA _ _ se,T.jt,oY,_,M4,?_⟩
    refine⟨_,rfl,self,.ref p,pn,prs,prow,fr0,ls,B,ms,.lt n v,rfl,hb.same sA,(by unfold wM;exact⟨p,rfl,hout,hL⟩),by omega,fun H4 fm4 hb4=>?_⟩
    exact k1 _ _ H4 ms eT ((Fm.of sA).trans fm4 hmm) hmm (hb4.up (by omega))
  ·rw[h0c] at eT
   have sA:qg H H2:=s1.trans s2
   have hout:p∉ms:=(hb.same s1).out hp
   walk_at "rd"
   refine⟨self,_,dx,_,rfl,sA _ _ se,T.jt,VT,_,M3,?_⟩
   refine⟨_,rfl,self,p,k,l,u,a,n,r,pn,prs,prow,fr0,ls,B,ms,rfl,hb.same sA,hB,hout,hA,fun hl=>?_,fun hl H' fm hb'=>?_⟩
   ·exact k0 (by rw[eT];exact if_pos hl) H2 (Fm.of sA)
   ·exact k1 _ _ H' ms (by rw[eT];exact if_neg hl) ((Fm.of sA).trans fm hmm) hmm hb'
 ·rw[h0] at eT
  obtain⟨dxp,a,b,q1,q2,q3,z1,z2⟩:=hP
  walk_at "rd"
  refine⟨self,_,dx,_,rfl,s1 _ _ se,T.jt,Wb,_,M2,?_⟩
  refine⟨_,rfl,self,p,dxp,a,b,n,rs,_,ls,B,ms,rfl,hb.same s1,by omega,h7,hb.out hp,hb.out z1,q1,q2,fun hl=>?_,fun hl H' ms' fm hm' hb'=>?_⟩
  ·exact k0 (by rw[eT];exact if_pos hl) H1 (Fm.of s1)
  ·exact k1 _ _ H' ms' (by rw[eT];exact if_neg hl) ((Fm.of s1).trans fm hmm) (fun c hc=>(hm' c hc).elim .inl (fun z=>.inr (s1.free z))) (hb'.up (by omega))
end
noncomputable def V1 (t:jT):Sp:=fun vs H Q _=>∃(self dx:Addr),vs=[.ref self]∧H self=some (.ins t.qL dx [])∧∀H' ms,(∀b o,b≠self→H b=some o→H' b=some o)→(∀b∈ms,b=self∨H b=none)→wj t H' self [("whole",[],[])] [] 0 ms→Q .non H'
noncomputable def yL:Nat→List Str→List Fr→List Str→Except Nat (List Fr)
 | _,[],fr,_=>.ok fr
 | i,x :: r,fr,ls=>if i=90 then .error i else match gi fr ls x with
  | none=>.error i
  | some (fr',ls')=>yL (i + 1) r fr' ls'
noncomputable def KR (n:Nat):Except Nat (List Fr)→Except Nat Rw
 | .error i=>.error i
 | .ok [(a,b,c)]=>.ok (.pt a b c)
 | .ok _=>.error n
noncomputable def pS (rows:List Str) (start:Nat):Except Nat Rw:=KR rows.length (yL start (rows.drop start) [("whole",[],[])] [])
theorem aO {fr fr':List Fr} {ls ls':List Str} {x:Str} (h:gi fr ls x=some (fr',ls')) (h0:fr≠[]) (h7:fr.length≤7):fr'≠[]∧fr'.length≤7:=by
 obtain⟨pn,prs,prow,fr0,rfl⟩:∃pn prs prow fr0,fr=(pn,prs,prow) :: fr0:=by
  match fr,h0 with
  | (a,b,c) :: r,_=>exact⟨a,b,c,r,rfl⟩
 have hp:∀r,(push ((pn,prs,prow) :: fr0) r)≠[]∧(push ((pn,prs,prow) :: fr0) r).length≤7:=fun r=>⟨by simp [push],by simpa [push] using h7⟩
 unfold gi at h
 split at h
 ·match fr0,h with
  | (a,b,c) :: r,h=>
   cases h
   refine⟨by simp,?_⟩
   simp only[List.length_cons] at h7 ⊢
   omega
 ·split at h
  ·split at h
   ·cases h
   ·rename_i hn
    cases h
    refine⟨by simp,?_⟩
    have:¬((pn,prs,prow) :: fr0).length=7:=fun z=>hn (.inl z)
    simp only[List.length_cons] at h7 this ⊢
    omega
  ·split at h
   ·split at h
    ·cases h
    ·cases h;exact hp _
   ·split at h
    ·cases h
    ·cases h;exact hp _
noncomputable def Wj (K:PySem.W.Frag) (t:jT):Sp:=fun vs H Q E=>∃(a:Addr) (start:Nat) (rows:List Str),vs=[.ref a,.int start]∧qI K H a (rows.map V.str)∧start≤rows.length∧mP rows∧
 (∀n:Nat,pS rows start=.error n→∀c o H',Jj t n H c o H'→E c o H')∧∀rw p H',pS rows start=.ok rw→qg H H'→wM t [] H' rw (.ref p)→Q (.ref p) H'
theorem Wh (a b c:Addr):qY "labels" (.ref c) (qY "bodies" (.ref b) (qY "heads" (.ref a) []))=ik a b c:=by
 simp only[qY,ik,if_neg (fun z=>b1 (Eq.symm z)),if_neg (fun z=>b2 (Eq.symm z)),if_neg (fun z=>b3 (Eq.symm z))]
theorem gz {H:Hp} {p:Addr} {o:HO}:Off p H (upd H p o):=fun c o' hc e=>by rw[qW hc];exact e
section
variable {P:Program} {w:World} {K:PySem.W.Frag} {mg:Str→Option Value} {base:Heap} {t:jT}
theorem lR:qe ["self"] ["self"] (z4 xx):=⟨rfl,rfl,rfl,by decide +kernel,rfl,by decide +kernel,by decide +kernel⟩
set_option maxHeartbeats 400000 in
theorem lz (T:Txt K mg t):qi P w K mg base jn 3 t.vN t.yr ["self"] (V1 t):=by
 have M_Part_init:qi P w K mg base jn 1 t.xA t.kR ["self","name","rooms","rows"] (JS K t):=(y8 T).mono (by decide)
 refine T.mZ.fn.ok lR (fun vs H Q E h=>(by obtain⟨_,_,rfl,_⟩:=h;rfl)) (fun cdv A outer s H vs Q E hr h=>?_)
 obtain⟨self,dx,rfl,se,k⟩:=h
 refine⟨_,(z6 (xW (pv 0) (qS (z0 (vD T.fO M_Part_init hr rfl T.pN T.wG.bd .nil qJ (z0 qq (z0 (qS z5) (z0 (qS z5) z5)))) z5)) rfl)
   (z6 (xW (pv 0) (qS (z0 (qS z5) z5)) rfl)
   (z8 (xW (pv 0) Jh rfl)))),?_⟩
 refine⟨Nat.zero_le _,?_⟩
 intro a1 H1 s1 ha1 ea1
 refine⟨Nat.zero_le _,?_⟩
 intro a2 H2 s2 ha2 ea2
 intro p dxp hp hdxp hne
 have mk:∀c o,H2 c=some o→(upd (upd H2 dxp (HO.own p)) p (HO.ins t.qP dxp [])) c=some o:=yl hp hdxp
 refine⟨p,dxp,a1,a2,"whole",[],[],rfl,qv,mk _ _ (s2 _ _ ea1),mk _ _ ea2,fun H3 o3 h3=>⟨rfl,?_⟩⟩
 obtain⟨dx3,qa,qb,r1,r2,r3,z1,z2⟩:=h3
 have k3:qg H H3:=fun c o e=>o3 c o (qk (s2 _ _ (s1 _ _ e)) hp) (mk c o (s2 _ _ (s1 _ _ e)))
 refine⟨qj (by show 1≤1000;decide),?_⟩
 intro hd H4 s4 hhd ehd
 have se4:=s4 _ _ (k3 _ _ se)
 refine⟨_,rfl,self,_,dx,[],rfl,se4,T.jt,T.vB,(by show 0 < 1000;decide),?_⟩
 have o5:Off self H4 (upd H4 self (.ins t.qL dx (qY "heads" (.ref hd) []))):=gz
 generalize hH5:upd H4 self (.ins t.qL dx (qY "heads" (.ref hd) []))=H5 at o5 ⊢
 have e5:H5 self=some (.ins t.qL dx (qY "heads" (.ref hd) [])):=by rw[←hH5];exact qv
 refine⟨Nat.zero_le _,?_⟩
 intro q H6 s6 hq eq
 refine⟨qj (by show 1≤1000;decide),?_⟩
 intro bd H7 s7 hbd ebd
 refine⟨_,rfl,self,_,dx,_,rfl,s7 _ _ (s6 _ _ e5),T.jt,T.x5,(by show 1 < 1000;decide),?_⟩
 have o8:Off self H7 (upd H7 self (.ins t.qL dx (qY "bodies" (.ref bd) (qY "heads" (.ref hd) [])))):=gz
 generalize hH8:upd H7 self (.ins t.qL dx (qY "bodies" (.ref bd) (qY "heads" (.ref hd) [])))=H8 at o8 ⊢
 have e8:H8 self=some (.ins t.qL dx (qY "bodies" (.ref bd) (qY "heads" (.ref hd) []))):=by rw[←hH8];exact qv
 intro lb H9 s9 hlb elb
 refine⟨_,rfl,self,_,dx,_,rfl,s9 _ _ e8,T.jt,T.wU,?_,?_⟩
 ·have:=xi ("bodies" : Str) (.ref bd) (qY "heads" (.ref hd) [])
  have e:(qY ("heads" : Str) (.ref hd) []).length=1:=rfl
  omega
 have o10:Off self H9 (upd H9 self (.ins t.qL dx (qY "labels" (.ref lb) (qY "bodies" (.ref bd) (qY "heads" (.ref hd) []))))):=gz
 rw[Wh] at o10 ⊢
 have hds:hd≠self:=Ne.symm (qk (k3 _ _ se) hhd)
 have qs:q≠self:=Ne.symm (qk e5 hq)
 have bs:bd≠self:=Ne.symm (qk (s6 _ _ e5) hbd)
 have lbs':lb≠self:=Ne.symm (qk e8 hlb)
 have ps:p≠self:=Ne.symm (qk (s2 _ _ (s1 _ _ se)) hp)
 have qas:qa≠self:=Ne.symm (qk (mk _ _ (s2 _ _ (s1 _ _ se))) z1)
 have up:∀c o,c≠self→H3 c=some o→H9 c=some o:=fun c o hc e=>s9 _ _ (o8 _ _ hc (s7 _ _ (s6 _ _ (o5 _ _ hc (s4 _ _ e)))))
 have h5d:H5 hd=some (.lst [.ref p]):=o5 _ _ hds ehd
 have h6d:=s6 _ _ h5d
 have h8d:H8 hd=some (.lst [.ref p]):=o8 _ _ hds (s7 _ _ h6d)
 have h8q:H8 q=some (.lst []):=o8 _ _ qs (s7 _ _ eq)
 have h8b:H8 bd=some (.lst [.ref q]):=o8 _ _ bs ebd
 have hqd:hd≠q:=qk h5d hq
 have hdb:hd≠bd:=qk h6d hbd
 have hdl:hd≠lb:=qk h8d hlb
 have bql:bd≠q:=Ne.symm (qk eq hbd)
 have bl:bd≠lb:=qk h8b hlb
 have lq:lb≠q:=Ne.symm (qk h8q hlb)
 have h5p:H5 p=some (.ins t.qP dx3 (nY "whole" qa qb)):=o5 _ _ ps (s4 _ _ r1)
 have h5a:H5 qa=some (.lst (([]:List Str).map V.str)):=o5 _ _ qas (s4 _ _ r2)
 have nin:∀c o,c≠self→H3 c=some o→c∉[self,hd,bd,lb,q]:=fun c o hc e hm=>by
  have e5':H5 c=some o:=o5 _ _ hc (s4 _ _ e)
  (simp only[List.mem_cons,List.not_mem_nil,or_false] at hm)
  rcases hm with z | z | z | z | z
  ·exact hc z
  ·rw[z,hhd] at e;cases e
  ·have:=s6 _ _ e5';rw[z,hbd] at this;cases this
  ·have:=o8 _ _ hc (s7 _ _ (s6 _ _ e5'));rw[z,hlb] at this;cases this
  ·rw[z,hq] at e5';cases e5'
 have free:∀c,c∈[self,hd,bd,lb,q]→c=self∨H c=none:=fun c hm=>by
  (simp only[List.mem_cons,List.not_mem_nil,or_false] at hm)
  by_cases hc:c=self
  ·exact .inl hc
  ·refine .inr ?_
   cases z:H c with
   | none=>rfl
   | some o=>
    have:=nin c o hc (k3 _ _ z)
    exact absurd (by simpa using hm) this
 refine k _ [self,hd,bd,lb,q] (fun c o hc e=>o10 _ _ hc (up c o hc (k3 _ _ e))) free ⟨dx,hd,bd,lb,[p],[q],rfl,?_,qv,o10 _ _ hds (s9 _ _ h8d),o10 _ _ bs (s9 _ _ h8b),o10 _ _ lbs' elb,⟨⟨dx3,qa,qb,nin p _ ps r1,nin qa _ qas r2,o10 _ _ ps (up _ _ ps r1),o10 _ _ qas (up _ _ qas r2)⟩,⟨[],o10 _ _ qs (s9 _ _ h8q),by unfold jb;rfl,Nat.le_refl _⟩,True.intro⟩,Nat.le_refl _⟩
 simp only[List.nodup_cons,List.mem_cons,List.not_mem_nil,not_or,or_false,List.nodup_nil,not_false_eq_true,and_true]
 exact⟨⟨Ne.symm hds,Ne.symm bs,Ne.symm lbs',Ne.symm qs⟩,⟨hdb,hdl,hqd⟩,⟨bl,bql⟩,lq⟩
theorem wb:qe ["rows","start","body","number"] ["rows","start"] (z4 ju):=⟨rfl,rfl,rfl,by decide +kernel,rfl,by decide +kernel,by decide +kernel⟩
set_option maxHeartbeats 400000 in
theorem dc (T:Txt K mg t):qi P w K mg base (nG P w) 8 t.vw t.kT ["rows","start"] (Wj K t):=by
 have M_Body_init:qi P w K mg base jn 6 t.vN t.yr ["self"] (V1 t):=(lz T).mono (by decide)
 have M_NoText_init:qi P w K mg base jn 6 t.xp t.xF ["self","row"] (a7 K "row"):=(wL T).mono (by decide)
 refine T.vm.fn.WZ wb (fun vs H Q E h=>(by obtain⟨_,_,_,rfl,_⟩:=h;rfl)) (fun cdv A outer s H vs Q E hr h=>?_)
 obtain⟨a,start,rows,rfl,hA,hst,hR,kE,kQ⟩:=h
 refine⟨_,(z6 (qX (i:=2) wb.nd rfl (Or.inl rfl) (QS T.eK M_Body_init hr rfl T.Z1 T.mZ.bd .nil qJ))
   (z6 (p3 PassesOwn.leaving rfl (av rfl T.yu (z0 (pv 1) (z0 (qK (jr (K:=K) rfl) rfl T.kL PySem.boot_len (z0 (pv 0) z5)) z5))) (kz (i:=3) wb.nd rfl (Or.inl rfl))
    (z8 (qG (PW.pt (vJ (qu jQ (pv 3) (jh rfl (T.mE).choose_spec (v:=.int 90) ⟨_,rfl⟩) (qt _)) (k7 (kd (ja (yJ hr (pv 2) (z0 (qr (qy (K:=K) rfl) (pv 0) (pv 3) (fun _ _=>rfl)) z5)))))))
    (z8 (yS bE rfl (yM T.kP M_NoText_init hr rfl T.w6 T.xa.bd .nil qJ (z0 (pv 3) z5)))) qp)))
   (z6 (qG (qu iU (wW hr (pv 2)) z7 (qt _))
    (z8 (yS bE rfl (yM T.kP M_NoText_init hr rfl T.w6 T.xa.bd .nil qJ (z0 (qK (jr (K:=K) rfl) rfl T.kL PySem.boot_len (z0 (pv 0) z5)) z5)))) qp)
   (z8 (qw (wW hr (pv 2))))))),?_⟩
 have M1:kY P w K mg base jn 7 t.qL "takes" (il t):=.mk' T.pV (ud T) T.fq.bd (by decide)
 have M2:kY P w K mg base jn 7 t.qL "many_open" (lN t):=.mk' T.xI (vx T) T.x6.bd (by decide)
 have M3:kY P w K mg base jn 7 t.qL "closed" (cN t):=.mk' T.yk (hZ T) T.yd.bd (by decide)
 intro self dx hs hdx hne
 refine⟨self,dx,rfl,qv,fun H1 ms k1 fr1 hb1=>⟨rfl,?_⟩⟩
 have s1:qg H H1:=fun c o e=>k1 c o (qk e hs) (yl hs hdx c o e)
 have f1:∀c∈ms,H c=none:=fun c hc=>by
  rcases fr1 c hc with z | z
  ·rw[z];exact hs
  ·cases q:H c with
   | none=>rfl
   | some o=>rw[yl hs hdx c o q] at z;cases z
 walk_at "rd"
 refine⟨a,_,rfl,.inl (s1.seq hA),?_⟩
 have hlen:(rows.map V.str).length=rows.length:=List.length_map ..
 refine⟨_,_,rfl,⟨by omega,by have:=hR.lA;omega,by omega,by have:=hR.lA;omega⟩,?_⟩
 have hn:(((rows.map V.str).length:Nat) - (start:Int)).toNat=rows.length - start:=by rw[hlen];omega
 rw[hn]
 refine b7 (lo:=(start:Int)) (n:=rows.length - start) (fun i σ H'=>∃(fr:List Fr) (ls:List Str) (ms:List Addr) (v3:Option V),σ=[some (.ref a),some (.int start),some (.ref self),v3]∧qg H H'∧(∀c∈ms,H c=none)∧wj t H' self fr ls (2 * i) ms∧fr≠[]∧fr.length≤7∧yL start (rows.drop start) [("whole",[],[])] []=yL (start + i) (rows.drop (start + i)) fr ls)
  ⟨_,_,ms,none,rfl,s1,f1,hb1,by simp,by simp,by rw[Nat.add_zero]⟩ ?_ ?_
 ·rintro i σ H2 hi ⟨fr,ls,ms2,v3,rfl,s2,f2,hb2,hne2,h72,hr2⟩
  have hi':start + i < rows.length:=by omega
  have hwd:wd rows (start + i)∈rows:=p9 hi'
  have hd:rows.drop (start + i)=wd rows (start + i) :: rows.drop (start + i + 1):=by
   unfold wd
   rw[List.getD_eq_getElem?_getD,List.getElem?_eq_getElem hi']
   exact List.drop_eq_getElem_cons hi'
  rw[hd] at hr2
  have hfew:=hR.lA
  have eb:yL (start + i) (wd rows (start + i) :: rows.drop (start + i + 1)) fr ls=if start + i=90 then .error (start + i) else match gi fr ls (wd rows (start + i)) with
   | none=>.error (start + i)
   | some (fr',ls')=>yL (start + i + 1) (rows.drop (start + i + 1)) fr' ls':=by rw[yL]
  have bad:yL (start + i) (wd rows (start + i) :: rows.drop (start + i + 1)) fr ls=.error (start + i)→∀c o H',Jj t ((start:Int) + i) H c o H'→E c o H':=fun z c o H' q=>kE (start + i) (by unfold pS;rw[hr2,z];rfl) c o H' (by rw[Int.natCast_add];exact q)
  walk_at "rd"
  refine je (fun h1=>?_) (fun h1=>?_)
  ·walk_at "rd"
   exact yE T fun c o H' z=>bad (by
    have:(start:Int) + i=90:=by simpa using h1
    rw[eb,if_pos (by omega)]) c o H' (z.back s2)
  have h90:¬start + i=90:=fun z=>h1 (by
   have:(start:Int) + i=90:=by omega
   simp [this])
  rw[if_neg h90] at eb
  obtain⟨dx2,hd2,bd2,lb2,hps2,bqs2,e2,h2⟩:=id hb2
  walk_at "rd"
  refine⟨self,_,dx2,_,rfl,h2.se,T.jt,VW,_,M1,?_⟩
  have hix:ui (rows.map V.str) ((start:Int) + i)=some (.str (wd rows (start + i))):=by
   have:=ba (xs:=rows) (i:=(start:Int) + i) (by omega) (by omega)
   rw[this]
   unfold wd
   rw[show ((start:Int) + i).toNat=start + i by omega]
  refine⟨_,rfl,_,rfl,a,_,_,_,rfl,rfl,s2.seq hA,hix,?_⟩
  refine⟨self,_,fr,ls,2 * i,ms2,rfl,hb2,by omega,hR.short _ hwd,hne2,h72,fun hN H3 fm3=>?_,fun fr' ls' H3 ms3 hS fm3 hm3 hb3=>?_⟩
  ·rw[hN] at eb
   walk_at "rd"
   exact yE T fun c o H' z=>bad eb c o H' (z.back (fm3.oN s2 f2))
  ·rw[hS] at eb
   obtain⟨g1,g2⟩:=aO hS hne2 h72
   walk_at "rd"
   exact⟨fr',ls',ms3,_,rfl,fm3.oN s2 f2,fun c hc=>(hm3 c hc).elim (f2 c) (fun z=>s2.free z),hb3.up (by omega),g1,g2,by rw[hr2,eb];rfl⟩
 ·rintro σ H2 ⟨fr,ls,ms2,v3,rfl,s2,f2,hb2,hne2,h72,hr2⟩
  have hfew:=hR.lA
  rw[show start + (rows.length - start)=rows.length by omega,List.drop_length,yL] at hr2
  obtain⟨dx2,hd2,bd2,lb2,hps2,bqs2,e2,h2⟩:=id hb2
  walk_at "rd"
  refine⟨self,_,dx2,_,rfl,h2.se,T.jt,ly,_,M2,?_⟩
  refine⟨self,fr,ls,_,ms2,rfl,hb2,?_⟩
  walk_at "rd"
  refine je (fun h1=>?_) (fun h1=>?_)
  ·have h1':(0:Int) < ((fr.length:Nat):Int) - 1:=of_decide_eq_true h1
   walk_at "rd"
   refine⟨a,_,rfl,.inl (s2.seq hA),?_⟩
   rw[hlen]
   walk_at "rd"
   exact yE T fun c o H' z=>kE rows.length (by
    unfold pS
    rw[hr2]
    match fr,h1' with
    | _ :: _ :: _,_=>rfl
    | [_],h=>exact absurd h (by simp)) c o H' (z.back s2)
  have h1':¬(0:Int) < ((fr.length:Nat):Int) - 1:=fun z=>h1 (decide_eq_true z)
  obtain⟨n,rs,rws,rfl⟩:∃n rs rws,fr=[(n,rs,rws)]:=by
   match fr,hne2,h1' with
   | [(n,rs,rws)],_,_=>exact⟨n,rs,rws,rfl⟩
   | _ :: _ :: _,_,h=>exact absurd (by simp only[List.length_cons];omega) h
  walk_at "rd"
  refine⟨self,_,dx2,_,rfl,h2.se,T.jt,u0,_,M3,?_⟩
  refine⟨self,n,rs,rws,[],ls,_,ms2,rfl,hb2,by omega,fun p H3 ms3 fm3 sub3 hb3 hr3=>?_⟩
  exact kQ _ p H3 (by unfold pS;rw[hr2];rfl) (fm3.oN s2 f2) (hr3.move (fun _ _ _ e=>e) (fun b hb=>by cases hb))
end
noncomputable def Xl (a b c:Addr) (x:V):List (Str × V):=[("parties",.ref a),("acts",.ref b),("rooms",.ref c),("whole",x)]
theorem a1:¬(("parties" : Str) = "acts"):=by decide +kernel
theorem a2:¬(("parties" : Str) = "rooms"):=by decide +kernel
theorem a3:¬(("parties" : Str) = "whole"):=by decide +kernel
theorem a4:¬(("acts" : Str) = "rooms"):=by decide +kernel
theorem a5:¬(("acts" : Str) = "whole"):=by decide +kernel
theorem a6:¬(("rooms" : Str) = "whole"):=by decide +kernel
theorem VJ (a b c:Addr) (x:V):qY "whole" x (qY "rooms" (.ref c) (qY "acts" (.ref b) (qY "parties" (.ref a) [])))=Xl a b c x:=by
 simp only[qY,Xl,if_neg a1,if_neg a2,if_neg a3,if_neg a4,if_neg a5,if_neg a6]
noncomputable def XB (K:PySem.W.Frag) (t:jT):Sp:=fun vs H Q _=>∃(p dx a b c:Addr) (x:V) (xs ys zs:List V),vs=[.ref p,.ref a,.ref b,.ref c,x]∧H p=some (.ins t.jv dx [])∧H a=some (.lst xs)∧H b=some (.lst ys)∧H c=some (.lst zs)∧
 ∀H' a' b' c',Off p H H'→H' p=some (.ins t.jv dx (Xl a' b' c' x))→H' a'=some (.lst xs)→H' b'=some (.lst ys)→H' c'=some (.lst zs)→Q .non H'
noncomputable def gm (t:jT) (H:Hp) (p:Addr) (ps as:List Str) (qR:List (Str × Str)) (rw:Rw):Prop:=∃dx a b c x vs,H p=some (.ins t.jv dx (Xl a b c x))∧H a=some (.lst (ps.map V.str))∧H b=some (.lst (as.map V.str))∧H c=some (.lst vs)∧Paired (vk H) vs qR∧wM t [] H rw x
noncomputable def gZ (rows:List Str):Except Nat (List Str × List Str × List (Str × Str) × Rw):=
 match vY rows 0 "parties" 4 [] with
 | none=>.error 0
 | some ps=>match vY rows 1 "acts" 6 ps with
  | none=>.error 1
  | some as=>match xr (ps ++ as) [] (rows.drop 2) with
   | .error n=>.error n
   | .ok qR=>match pS rows (2 + qR.length) with
    | .error n=>.error n
    | .ok rw=>.ok (ps,as,qR,rw)
theorem pA {taken:List Str}:∀{rest:List Str} {found qR:List (Str × Str)},xr taken found rest=.ok qR→qR.length≤found.length + rest.length∧qR≠[]
 | [],found,qR,h=>by
  unfold xr at h
  split at h
  ·cases h
  ·rename_i z;cases h;exact⟨by simp,z⟩
 | x :: r,found,qR,h=>by
  unfold xr at h
  split at h
  ·split at h
   ·cases h
   ·rename_i z;cases h;exact⟨by omega,z⟩
  ·split at h
   ·cases h
   ·have:=pA h
    rw[List.length_append] at this
    simp only[List.length_cons,List.length_nil] at this ⊢
    exact⟨by omega,this.2⟩
theorem Zt {rows:List Str} (hR:mP rows) (i:Nat):(wd rows i).length≤190:=by
 by_cases hi:i < rows.length
 ·exact hR.short _ (p9 hi)
 ·have hz:(wd rows i).length=0:=by
   unfold wd
   rw[List.getD_eq_getElem?_getD,List.getElem?_eq_none_iff.mpr (by omega)]
   decide +kernel
  omega
theorem cI {rows:List Str} {i:Nat} {x:Str} {m:Int} {taken ns:List Str} (hR:mP rows) (h:vY rows i x m taken=some ns):ns.length≤192:=by
 unfold vY at h
 split at h
 ·cases h
 ·dsimp only at h
  split at h
  ·cases h
  ·cases h
   have hn:=@uS (vO (wd rows i)) x m
   have hw:=(da (wd rows i)).2
   have:=Zt hR i
   omega
noncomputable def ZP (t:jT):Sp:=fun vs H Q E=>∃(x:Str),vs=[.str x]∧x.length≤60000∧mP (Txt.split x "; ")∧
 (∀n:Nat,gZ (Txt.split x "; ")=.error n→∀c o H',Jj t n H c o H'→E c o H')∧∀ps as qR rw p H',gZ (Txt.split x "; ")=.ok (ps,as,qR,rw)→qg H H'→gm t H' p ps as qR rw→Q (.ref p) H'
section
variable {P:Program} {w:World} {K:PySem.W.Frag} {mg:Str→Option Value} {base:Heap} {t:jT}
theorem ll:qe ["self","parties","acts","rooms","whole"] ["self","parties","acts","rooms","whole"] (z4 j7):=⟨rfl,rfl,rfl,by decide +kernel,rfl,by decide +kernel,by decide +kernel⟩
set_option maxHeartbeats 400000 in
theorem rQ (T:Txt K mg t):qi P w K mg base jn 1 t.vA t.yg ["self","parties","acts","rooms","whole"] (XB K t):=by
 refine T.mF.fn.ok ll (fun vs H Q E h=>(by obtain⟨_,_,_,_,_,_,_,_,_,rfl,_⟩:=h;rfl)) (fun cdv A outer s H vs Q E hr h=>?_)
 obtain⟨p,dx,a,b,c,x,xs,ys,zs,rfl,hp,hA,hB,hC,k⟩:=h
 refine⟨_,(z6 (xW (pv 0) (j4 (gE (K:=K) rfl) rfl T.gR PyProof.Rows.boot_list (z0 (pv 1) z5)) rfl)
   (z6 (xW (pv 0) (j4 (gE (K:=K) rfl) rfl T.gR PyProof.Rows.boot_list (z0 (pv 2) z5)) rfl)
   (z6 (xW (pv 0) (j4 (gE (K:=K) rfl) rfl T.gR PyProof.Rows.boot_list (z0 (pv 3) z5)) rfl)
   (z8 (xW (pv 0) (pv 4) rfl))))),?_⟩
 have na:a≠p:=fN hA hp (by intro z;cases z)
 have nb:b≠p:=fN hB hp (by intro z;cases z)
 have nc:c≠p:=fN hC hp (by intro z;cases z)
 refine⟨_,rfl,a,_,rfl,.inl (qI.of hA),?_⟩
 intro q1 H1 s1 hq1 e1
 refine⟨_,rfl,p,_,dx,_,rfl,s1 _ _ hp,T.vP,T.wt,(by show 0 < 1000;decide),?_⟩
 have o2:Off p H1 (upd H1 p (.ins t.jv dx (qY "parties" (.ref q1) []))):=gz
 generalize hH2:upd H1 p (.ins t.jv dx (qY "parties" (.ref q1) []))=H2 at o2 ⊢
 have e2:H2 p=some (.ins t.jv dx (qY "parties" (.ref q1) [])):=by rw[←hH2];exact qv
 refine⟨_,rfl,b,_,rfl,.inl (qI.of (o2 _ _ nb (s1 _ _ hB))),?_⟩
 intro q3 H3 s3 hq3 e3
 refine⟨_,rfl,p,_,dx,_,rfl,s3 _ _ e2,T.vP,T.gr,(by show 1 < 1000;decide),?_⟩
 have o4:Off p H3 (upd H3 p (.ins t.jv dx (qY "acts" (.ref q3) (qY "parties" (.ref q1) [])))):=gz
 generalize hH4:upd H3 p (.ins t.jv dx (qY "acts" (.ref q3) (qY "parties" (.ref q1) [])))=H4 at o4 ⊢
 have e4:H4 p=some (.ins t.jv dx (qY "acts" (.ref q3) (qY "parties" (.ref q1) []))):=by rw[←hH4];exact qv
 refine⟨_,rfl,c,_,rfl,.inl (qI.of (o4 _ _ nc (s3 _ _ (o2 _ _ nc (s1 _ _ hC))))),?_⟩
 intro q5 H5 s5 hq5 e5
 have l2:(qY ("acts" : Str) (.ref q3) (qY "parties" (.ref q1) [])).length≤2:=by
  have:=xi ("acts" : Str) (.ref q3) (qY "parties" (.ref q1) [])
  have e:(qY ("parties" : Str) (.ref q1) []).length=1:=rfl
  omega
 refine⟨_,rfl,p,_,dx,_,rfl,s5 _ _ e4,T.vP,T.ye,by omega,?_⟩
 have o6:Off p H5 (upd H5 p (.ins t.jv dx (qY "rooms" (.ref q5) (qY "acts" (.ref q3) (qY "parties" (.ref q1) []))))):=gz
 generalize hH6:upd H5 p (.ins t.jv dx (qY "rooms" (.ref q5) (qY "acts" (.ref q3) (qY "parties" (.ref q1) []))))=H6 at o6 ⊢
 have e6:H6 p=some (.ins t.jv dx (qY "rooms" (.ref q5) (qY "acts" (.ref q3) (qY "parties" (.ref q1) [])))):=by rw[←hH6];exact qv
 refine⟨_,rfl,_,rfl,p,_,dx,_,rfl,e6,T.vP,T.yi,?_,?_⟩
 ·have:=xi ("rooms" : Str) (.ref q5) (qY "acts" (.ref q3) (qY "parties" (.ref q1) []))
  omega
 have o7:Off p H6 (upd H6 p (.ins t.jv dx (qY "whole" x (qY "rooms" (.ref q5) (qY "acts" (.ref q3) (qY "parties" (.ref q1) [])))))):=gz
 rw[VJ] at o7 ⊢
 have n1:q1≠p:=Ne.symm (qk hp hq1)
 have n3:q3≠p:=Ne.symm (qk e2 hq3)
 have n5:q5≠p:=Ne.symm (qk e4 hq5)
 exact k _ q1 q3 q5 (fun d o hd e=>o7 _ _ hd (o6 _ _ hd (s5 _ _ (o4 _ _ hd (s3 _ _ (o2 _ _ hd (s1 _ _ e))))))) qv (o7 _ _ n1 (o6 _ _ n1 (s5 _ _ (o4 _ _ n1 (s3 _ _ (o2 _ _ n1 e1)))))) (o7 _ _ n3 (o6 _ _ n3 (s5 _ _ (o4 _ _ n3 e3)))) (o7 _ _ n5 (o6 _ _ n5 e5))
theorem wH:qe ["text","rows","parties","acts","rooms","whole"] ["text"] (z4 k9):=⟨rfl,rfl,rfl,by decide +kernel,rfl,by decide +kernel,by decide +kernel⟩
set_option maxHeartbeats 400000 in
theorem aW (T:Txt K mg t):qi P w K mg base (nG P w) 9 t.bJ t.bz ["text"] (ZP t):=by
 have G_v_read_names:qi P w K mg base (nG P w) 8 t.kI t.vd ["rows","number","word","most","taken"] (V4 K t):=(dh T).mono (by decide)
 have G_v_read_rooms:qi P w K mg base (nG P w) 8 t.vt t.vc ["rows","taken"] (VP K t):=(dg T).mono (by decide)
 have G_v_read_whole:qi P w K mg base (nG P w) 8 t.vw t.kT ["rows","start"] (Wj K t):=(dc T).mono (by decide)
 have M_Pact_init:qi P w K mg base jn 7 t.vA t.yg ["self","parties","acts","rooms","whole"] (XB K t):=(rQ T).mono (by decide)
 refine T.yz.fn.WZ wH (fun vs H Q E h=>(by obtain⟨_,rfl,_⟩:=h;rfl)) (fun cdv A outer s H vs Q E hr h=>?_)
 obtain⟨x,rfl,hx,hR,kE,kQ⟩:=h
 refine⟨_,(z6 (qX (i:=1) wH.nd rfl (Or.inl rfl) (kh PySem.F.plainAttrs_str PySem.F.slot_str_split PySem.F.type_str_split yF (pv 0) (z0 qq z5)))
   (z6 (qX (i:=2) wH.nd rfl (Or.inl rfl) (qf G_v_read_names hr rfl T.xg.mg T.xg.fn.kp T.xg.bd .nil (iN fun _ _ _ z=>z) (z0 (pv 1) (z0 z7 (z0 qq (z0 (jh rfl (T.bf).choose_spec (v:=.int 4) ⟨_,rfl⟩) (z0 (qS z5) z5)))))))
   (z6 (qX (i:=3) wH.nd rfl (Or.inl rfl) (qf G_v_read_names hr rfl T.xg.mg T.xg.fn.kp T.xg.bd .nil (iN fun _ _ _ z=>z) (z0 (pv 1) (z0 z7 (z0 qq (z0 (jh rfl (T.dq).choose_spec (v:=.int 6) ⟨_,rfl⟩) (z0 (pv 2) z5)))))))
   (z6 (qX (i:=4) wH.nd rfl (Or.inl rfl) (qf G_v_read_rooms hr rfl T.vi.mg T.vi.fn.kp T.vi.bd .nil (iN fun _ _ _ z=>z) (z0 (pv 1) (z0 (qx gI (pv 2) (pv 3)) z5))))
   (z6 (qX (i:=5) wH.nd rfl (Or.inl rfl) (qf G_v_read_whole hr rfl T.vm.mg T.vm.fn.kp T.vm.bd .nil (iN fun _ _ _ z=>z) (z0 (pv 1) (z0 (qx xC (jh rfl (T.vj).choose_spec (v:=.int 2) ⟨_,rfl⟩) (qK (jr (K:=K) rfl) rfl T.kL PySem.boot_len (z0 (pv 4) z5))) z5))))
   (z8 (qw (vD T.iI M_Pact_init hr rfl T.oK T.mF.bd .nil qJ (z0 (pv 2) (z0 (pv 3) (z0 (pv 4) (z0 (pv 5) z5)))))))))))),?_⟩
 walk_at "rd"
 refine⟨by rw[sizeLine_eq];omega,?_⟩
 intro lr H1 s1 hlr e1
 have hpos:1≤(Txt.split x (Str.ofString "; ")).length:=PyProof.Rows.split_pos x "; "
 have e1':H1 lr=some (.lst ((Txt.split x "; ").map V.str)):=e1
 clear e1
 generalize Txt.split x (Str.ofString "; ")=rows at *
 walk_at "rd"
 intro l0 H2 s2 hl0 e2
 have sA:qg H H2:=s1.trans s2
 refine⟨lr,l0,0,_,_,rows,[],rfl,qI.of (s2 _ _ e1'),e2,Nat.zero_le _,hR,Nat.zero_le _,by decide,fun hN c o H' z=>?_,fun ps lp H3 hS s3 hlp e3=>?_⟩
 ·exact kE 0 (by unfold gZ;rw[hN]) c o H' (z.back sA)
 have hps:=cI hR hS
 walk_at "rd"
 refine⟨lr,lp,1,_,_,rows,ps,rfl,qI.of (s3 _ _ (s2 _ _ e1')),e3,hpos,hR,by omega,by decide,fun hN c o H' z=>?_,fun as la H4 hS4 s4 hla e4=>?_⟩
 ·exact kE 1 (by unfold gZ;rw[hS];dsimp only;rw[hN]) c o H' (z.back (sA.trans s3))
 have has:=cI hR hS4
 walk_at "rd"
 refine⟨lp,la,_,_,rfl,rfl,s4 _ _ e3,e4,qj (by simp only[List.length_map];omega),?_⟩
 intro lt H5 s5 hlt e5
 have e5':H5 lt=some (.lst ((ps ++ as).map V.str)):=by rw[e5,List.map_append]
 have sB:qg H H5:=((sA.trans s3).trans s4).trans s5
 refine⟨lr,lt,rows,ps ++ as,rfl,qI.of (s5 _ _ (s4 _ _ (s3 _ _ (s2 _ _ e1')))),e5',hR,by rw[List.length_append];omega,fun n hN c o H' z=>?_,fun qR l6 H6 vs hS6 s6 hl6 e6 hP6=>?_⟩
 ·exact kE n (by unfold gZ;rw[hS];dsimp only;rw[hS4];dsimp only;rw[hN]) c o H' (z.back sB)
 have hrl:=(pA hS6).1
 have hr0:=List.length_pos_iff.mpr (pA hS6).2
 rw[List.length_drop,List.length_nil,Nat.zero_add] at hrl
 have hvl:vs.length=qR.length:=Paired.length hP6
 walk_at "rd"
 refine⟨l6,_,rfl,.inl (qI.of e6),?_⟩
 refine⟨_,_,rfl,rfl,?_⟩
 have ecast:(2:Int) + ((vs.length:Nat):Int)=((2 + qR.length:Nat):Int):=by rw[hvl];omega
 have sC:qg H H6:=sB.trans s6
 refine⟨lr,2 + qR.length,rows,by rw[←ecast];rfl,qI.of (s6 _ _ (s5 _ _ (s4 _ _ (s3 _ _ (s2 _ _ e1'))))),by omega,hR,fun n hN c o H' z=>?_,fun rw' p H7 hS7 s7 hr7=>?_⟩
 ·exact kE n (by unfold gZ;rw[hS];dsimp only;rw[hS4];dsimp only;rw[hS6];dsimp only;rw[hN]) c o H' (z.back sC)
 walk_at "rd"
 intro q dxq hq hdq hne
 have mk:∀c o,H7 c=some o→(upd (upd H7 dxq (HO.own q)) q (HO.ins t.jv dxq [])) c=some o:=yl hq hdq
 refine⟨q,dxq,lp,la,l6,.ref p,_,_,_,rfl,qv,mk _ _ (s7 _ _ (s6 _ _ (s5 _ _ (s4 _ _ e3)))),mk _ _ (s7 _ _ (s6 _ _ (s5 _ _ e4))),mk _ _ (s7 _ _ e6),fun H8 a' b' c' o8 g1 g2 g3 g4=>⟨rfl,?_⟩⟩
 have s8:qg H7 H8:=fun c o e=>o8 c o (qk e hq) (mk c o e)
 exact kQ ps as qR rw' q H8 (by unfold gZ;rw[hS];dsimp only;rw[hS4];dsimp only;rw[hS6];dsimp only;rw[hS7]) ((sC.trans s7).trans s8) ⟨_,a',b',c',_,_,g1,g2,g3,g4,Paired.imp' (fun _ _ z=>z.same (s7.trans s8)) hP6,hr7.move (fun _ _ _ e=>s8 _ _ e) (fun b hb=>by cases hb)⟩
end
noncomputable def lits:List Str:=["any","must","may","not","by","else","to","let","be","part","in","calm","sore","end"]
noncomputable def Rt (k:Nat) (x:Str):Prop:=(k=0∧qZ x=true)∨(k=1∧qZ x=false∧0 < y1 x∧x∉lits)∨(k=2∧qZ x=false∧y1 x=0∧x∉lits)∨(3≤k∧lits[k - 3]?=some x)
noncomputable def iV (k p:Nat):Bool:=if p=100 then k == 0 else if p=101 then k == 0 || k == 3 else if p=102 then k == 1 else k == p
noncomputable def jD (ks ps:List Nat):Bool:=decide (ks.length=ps.length) && (ks.zip ps).all fun q=>iV q.1 q.2
noncomputable def oq (p:Nat):Str:=if p=100 then "NAME" else if p=101 then "WHO" else if p=102 then "NUMBER" else lits.getD (p - 3) ""
noncomputable def mT:List Nat:=[100,100,4,100,7,102,8,100]
noncomputable def bt:List Nat:=[100,101,5,100]
noncomputable def ip:List Nat:=[100,101,5,6,100,8,100]
noncomputable def mQ:List Nat:=[100,101,7,100,9,100]
noncomputable def Ji:List Nat:=[10,100,11,100]
noncomputable def uV:List Nat:=[12,100]
noncomputable def Q6 (p:Nat):Bool:=p == 100 || p == 101 || p == 102 || (decide (3≤p) && decide (p≤16))
theorem jI:iJ=mT.map oq∧lJ=bt.map oq∧Jr=ip.map oq∧oP=mQ.map oq∧Zn=Ji.map oq∧cE=uV.map oq:=by decide +kernel
theorem dB:∀x∈lits,qZ x=false∧y1 x=0:=by decide +kernel
theorem J4:lits.Nodup:=by decide +kernel
theorem lH:∀c∈qC.cps.toList,¬(48≤c∧c≤57):=by decide +kernel
theorem iL (z:Str) (c:Nat):has z c=decide (c∈z.cps.toList):=StrLaws.found_one z c
theorem dI {x z:Str} {m:Int} (h:gG x z m=true):1≤x.length∧(x.length:Int)≤m∧∀c∈x.cps.toList,c∈z.cps.toList:=by
 unfold gG at h
 rw[Bool.and_eq_true,Bool.and_eq_true] at h
 obtain⟨⟨h1,h2⟩,h3⟩:=h
 refine⟨of_decide_eq_true h1,of_decide_eq_true h2,fun c hc=>?_⟩
 have:=List.all_eq_true.mp h3 c hc
 rw[iL] at this
 exact of_decide_eq_true this
theorem name_num {x:Str} (h:qZ x=true):y1 x=0:=by
 unfold qZ at h
 rw[Bool.and_eq_true] at h
 obtain⟨h1,_,h3⟩:=dI h.1
 unfold y1
 refine if_neg fun q=>?_
 obtain⟨_,_,d3⟩:=dk q.1
 obtain⟨c,e,_⟩:=tE h1
 have hc:c∈x.cps.toList:=List.mem_of_mem_head? e
 exact lH c (h3 c hc) (d3 c hc)
theorem Zh {x:Str} (h:qZ x=true):x∉lits:=fun q=>by rw[(dB x q).1] at h;cases h
theorem KA {k j:Nat} {x:Str} (hk:lits[k]?=some x) (hj:lits[j]?=some x):k=j:=cc J4 hk hj
theorem Rt.num {k:Nat} {x:Str} (h:Rt k x):decide (y1 x > 0)=(k == 1):=by
 rcases h with ⟨rfl,h⟩ | ⟨rfl,h1,h2,h3⟩ | ⟨rfl,h1,h2,h3⟩ | ⟨h1,h2⟩
 ·rw[name_num h];rfl
 ·rw[decide_eq_true h2];rfl
 ·rw[h2];rfl
 ·have hm:=List.mem_of_getElem? h2
  rw[(dB x hm).2]
  have:(k == 1)=false:=beq_eq_false_iff_ne.mpr (by omega)
  rw[this];rfl
theorem Rt.name {k:Nat} {x:Str} (h:Rt k x):qZ x=(k == 0):=by
 rcases h with ⟨rfl,h⟩ | ⟨rfl,h1,h2,h3⟩ | ⟨rfl,h1,h2,h3⟩ | ⟨h1,h2⟩
 ·rw[h];rfl
 ·rw[h1];rfl
 ·rw[h1];rfl
 ·have hm:=List.mem_of_getElem? h2
  rw[(dB x hm).1]
  exact(beq_eq_false_iff_ne.mpr (by omega)).symm
theorem Rt.lit {k j:Nat} {x y:Str} (h:Rt k x) (hj:lits[j]?=some y):decide (x=y)=(k == j + 3):=by
 have nm:x∉lits→k < 3→decide (x=y)=(k == j + 3):=fun h h3=>by
  have:¬x=y:=fun q=>h (by rw[q];exact List.mem_of_getElem? hj)
  rw[decide_eq_false this]
  exact(beq_eq_false_iff_ne.mpr (by omega)).symm
 rcases h with ⟨rfl,h⟩ | ⟨rfl,h1,h2,h3⟩ | ⟨rfl,h1,h2,h3⟩ | ⟨h1,h2⟩
 ·exact nm (Zh h) (by omega)
 ·exact nm h3 (by omega)
 ·exact nm h3 (by omega)
 ·by_cases q:k=j + 3
  ·subst q
   rw[Nat.add_sub_cancel] at h2
   rw[hj] at h2
   cases h2
   simp
  ·have:¬x=y:=fun e=>q (by subst e;have:=KA h2 hj;omega)
   rw[decide_eq_false this]
   exact(beq_eq_false_iff_ne.mpr q).symm
theorem Ko:∀p < 17,3≤p→oq p≠"NAME"∧oq p≠"WHO"∧oq p≠"NUMBER"∧lits[p - 3]?=some (oq p):=by decide +kernel
theorem oM (x:Str):v7 x "NAME" = qZ x:=if_pos rfl
theorem nM:("WHO" : Str)≠"NAME"∧("NUMBER" : Str)≠"NAME"∧("NUMBER" : Str)≠"WHO":=by decide +kernel
theorem Rt.fits {k p:Nat} {x:Str} (h:Rt k x) (hp:Q6 p=true):v7 x (oq p)=iV k p:=by
 unfold iV
 by_cases h1:p=100
 ·subst h1
  rw[if_pos rfl]
  show v7 x "NAME" = _
  rw[oM,h.name]
 rw[if_neg h1]
 by_cases h2:p=101
 ·subst h2
  rw[if_pos rfl]
  show v7 x "WHO" = _
  unfold v7
  rw[if_neg nM.1,if_pos rfl,h.name,h.lit (j:=0) rfl]
 rw[if_neg h2]
 by_cases h3:p=102
 ·subst h3
  rw[if_pos rfl]
  show v7 x "NUMBER" = _
  unfold v7
  rw[if_neg nM.2.1,if_neg nM.2.2,if_pos rfl,h.num]
 rw[if_neg h3]
 have hp':3≤p∧p≤16:=by
  unfold Q6 at hp
  simp [h1,h2,h3] at hp
  exact hp
 obtain⟨a,b,c,d⟩:=Ko p (by omega) hp'.1
 unfold v7
 rw[if_neg a,if_neg b,if_neg c,h.lit d,Nat.sub_add_cancel hp'.1]
noncomputable abbrev pk:List Nat→List Str→Prop:=Paired Rt
theorem pk.fits:∀{ks:List Nat} {ws:List Str},pk ks ws→∀{ps:List Nat},ps.all Q6=true→xR ws (ps.map oq)=jD ks ps:=by
 intro ks ws r ps hp
 unfold xR jD
 rw[List.length_map,←r.length]
 congr 1
 induction r generalizing ps with
 | nil=>rfl
 | cons h t ih=>
  cases ps with
  | nil=>rfl
  | cons p ps=>
   rw[List.all_cons,Bool.and_eq_true] at hp
   rw[List.map_cons,List.zip_cons_cons,List.zip_cons_cons,List.all_cons,List.all_cons,ih hp.2]
   rw[show v7 _ (oq p)=iV _ p from h.fits hp.1]
noncomputable def uB (ks:List Nat):Bool:=jD (ks.take 2) uV && (ks.length == 2 || (ks.getD 2 99 == 13 && (decide (1≤(ks.drop 3).length) && decide ((ks.drop 3).length≤12) && (ks.drop 3).all (· == 0))))
noncomputable def XU (ks:List Nat):Bool:=ks.length == 2 && (decide (14≤ks.getD 0 99) && decide (ks.getD 0 99≤16)) && ks.getD 1 99 == 0
noncomputable def Y6 (ks:List Nat):Bool:=!jD ks mT && !jD ks bt && !jD ks ip && !jD ks mQ && !jD ks Ji && !uB ks && !XU ks
noncomputable def Yp (ws:List Str):Prop:=jK ws=none∧aV ws=none∧vZ ws=none∧bb ws=none
theorem pk.take:∀{ks:List Nat} {ws:List Str} (n:Nat),pk ks ws→pk (ks.take n) (ws.take n)
 | _,_,0,_=>.nil
 | _,_,_ + 1,.nil=>.nil
 | _,_,n + 1,.cons r t=>.cons r (pk.take n t)
theorem pk.drop:∀{ks:List Nat} {ws:List Str} (n:Nat),pk ks ws→pk (ks.drop n) (ws.drop n)
 | _,_,0,r=>r
 | _,_,_ + 1,.nil=>.nil
 | _,_,n + 1,.cons _ t=>pk.drop n t
theorem pk.append:∀{ks js:List Nat} {ws zs:List Str},pk ks ws→pk js zs→pk (ks ++ js) (ws ++ zs)
 | _,_,_,_,.nil,s=>s
 | _,_,_,_,.cons r t,s=>.cons r (pk.append t s)
theorem pk.pick:∀{ks:List Nat} {ws:List Str} {i:Nat},pk ks ws→i < ks.length→Rt (ks.getD i 99) (My.wd ws i)
 | _,_,_,.nil,h=>by simp at h
 | _,_,0,.cons r _,_=>r
 | _,_,i + 1,.cons _ t,h=>pk.pick (i:=i) t (by simpa using h)
theorem pk.names:∀{ks:List Nat} {ws:List Str},pk ks ws→ws.all qZ=ks.all (· == 0)
 | _,_,.nil=>rfl
 | _,_,.cons r t=>by rw[List.all_cons,List.all_cons,pk.names t,r.name]
theorem nH:mT.all Q6=true∧bt.all Q6=true∧ip.all Q6=true∧mQ.all Q6=true∧Ji.all Q6=true∧uV.all Q6=true:=by decide
theorem yx {ks ps:List Nat} {ws fs:List Str} (r:pk ks ws) (hp:ps.all Q6=true) (e:fs=ps.map oq) (h:jD ks ps=false):¬xR ws fs=true:=by
 rw[e,r.fits hp,h]
 simp
theorem bR {ks ps:List Nat} {ws fs:List Str} (r:pk ks ws) (hp:ps.all Q6=true) (e:fs=ps.map oq) (h:jD ks ps=true):xR ws fs=true:=by
 rw[e,r.fits hp,h]
theorem aj {ks ps:List Nat} (h:jD ks ps=true):ks.length=ps.length:=by
 unfold jD at h
 rw[Bool.and_eq_true] at h
 exact of_decide_eq_true h.1
theorem pk.part {ks:List Nat} {ws:List Str} (r:pk ks ws) (h:uB ks=false):vZ ws=none:=by
 have hl:=r.length
 unfold vZ
 by_cases hf:xR (ws.take 2) cE=true
 ·rw[if_pos hf]
  have hT:jD (ks.take 2) uV=true:=by
   have:=(r.take 2).fits nH.2.2.2.2.2
   rw[←jI.2.2.2.2.2,hf] at this
   exact this.symm
  have h2:2≤ks.length:=by have:(ks.take 2).length=2:=aj hT;rw[List.length_take] at this;omega
  unfold uB at h
  rw[hT,Bool.true_and,Bool.or_eq_false_iff] at h
  have hn:¬ws.length=2:=fun q=>by
   have:ks.length=2:=by omega
   rw[this] at h
   simp at h
  rw[if_neg hn]
  refine if_pos ?_
  by_cases hin:wd ws 2 = "in"
  ·refine .inr ?_
   have r2:=pk.pick (i:=2) r (by omega)
   have e13:(ks.getD 2 99 == 13)=true:=by rw[←r2.lit (j:=10) (y:="in") rfl];exact decide_eq_true hin
   have h3:=h.2
   rw[e13,Bool.true_and] at h3
   unfold pd
   rw[(r.drop 3).names,←(r.drop 3).length]
   have hc:decide (((ks.drop 3).length:Int)≤12)=decide ((ks.drop 3).length≤12):=by
    by_cases q:(ks.drop 3).length≤12
    ·rw[decide_eq_true q,decide_eq_true (by omega)]
    ·rw[decide_eq_false q,decide_eq_false (by omega)]
   rw[hc]
   exact h3
  ·exact .inl hin
 ·exact if_neg hf
section
variable {P:Program} {w:World} {K:PySem.W.Frag} {mg:Str→Option Value} {base:Heap} {t:jT}
end
theorem lx {c:Nat}:∀{xs ys X Y:List Nat},c∉xs→c∉ys→xs ++ c :: X=ys ++ c :: Y→xs=ys∧X=Y
 | [],[],_,_,_,_,h=>by simpa using h
 | [],y :: ys,_,_,_,hy,h=>by
  simp only[List.nil_append,List.cons_append,List.cons.injEq] at h
  exact absurd (by rw[h.1];simp) hy
 | x :: xs,[],_,_,hx,_,h=>by
  simp only[List.nil_append,List.cons_append,List.cons.injEq] at h
  exact absurd (by rw[←h.1];simp) hx
 | x :: xs,y :: ys,X,Y,hx,hy,h=>by
  simp only[List.cons_append,List.cons.injEq] at h
  obtain⟨e1,e2⟩:=lx (c:=c) (fun q=>hx (List.mem_cons_of_mem _ q)) (fun q=>hy (List.mem_cons_of_mem _ q)) h.2
  exact⟨by rw[h.1,e1],e2⟩
theorem ag:(" " : Str).cps.toList=[32]:=by decide +kernel
theorem QE:(" " : Str)=⟨#[32]⟩:=by decide +kernel
theorem ql (x y:Str) (r:List Str):(Str.join " " (x :: y :: r)).cps.toList=x.cps.toList ++ 32 :: (Str.join " " (y :: r)).cps.toList:=by
 rw[sZ,cps_append,cps_append,ag]
 simp
theorem sj:∀{as bs:List Str},as≠[]→bs≠[]→(∀x∈as,32∉x.cps.toList)→(∀x∈bs,32∉x.cps.toList)→Str.join " " as=Str.join " " bs→as=bs
 | [],_,h,_,_,_,_=>absurd rfl h
 | _ :: _,[],_,h,_,_,_=>absurd rfl h
 | [a],[b],_,_,_,_,e=>by rw[show a=b from e]
 | [a],b :: b' :: r,_,_,ha,_,e=>by
  have e':=congrArg (fun z=>z.cps.toList) e
  simp only[ql,L2.join_one] at e'
  exact absurd (by rw[e'];simp) (ha a (by simp))
 | a :: a' :: r,[b],_,_,_,hb,e=>by
  have e':=congrArg (fun z=>z.cps.toList) e
  simp only[ql,L2.join_one] at e'
  exact absurd (by rw[←e'];simp) (hb b (by simp))
 | a :: a' :: r,b :: b' :: r',_,_,ha,hb,e=>by
  have e':=congrArg (fun z=>z.cps.toList) e
  simp only[ql] at e'
  obtain⟨e1,e2⟩:=lx (ha a (by simp)) (hb b (by simp)) e'
  have:=sj (as:=a' :: r) (bs:=b' :: r') (by simp) (by simp) (fun x hx=>ha x (List.mem_cons_of_mem _ hx)) (fun x hx=>hb x (List.mem_cons_of_mem _ hx)) (xH e2)
  rw[xH e1,this]
theorem uz {ws:List Str} (h:ws≠[]) (hb:∀x∈ws,32∉x.cps.toList):vO (Txt.join " " ws)=ws:=by
 unfold vO
 rw[join_eq]
 refine(sj h ?_ hb ?_ ?_).symm
 ·intro q
  have:=PyProof.Rows.split_pos (Str.join " " ws) " "
  rw[q] at this
  simp at this
 ·intro x hx
  rw[QE] at hx
  exact StrLaws.split_free _ 32 x hx
 ·exact(StrLaws.join_split _ _).symm
structure Wk (x:Str):Prop where
 as:asc x
 nb:32∉x.cps.toList
noncomputable def tK (ws:List Str):Nat:=(ws.map (·.length)).sum + ws.length
theorem Xj (as bs:List Str):tK (as ++ bs)=tK as + tK bs:=by
 unfold tK
 rw[List.map_append,List.sum_append,List.length_append]
 omega
theorem JY (x:Str):tK [x]=x.length + 1:=by simp [tK]
theorem mM {n:Nat}:∀{ws:List Str},(∀x∈ws,x.length≤n)→tK ws≤(n + 1) * ws.length
 | [],_=>by simp [tK]
 | x :: r,h=>by
  have h1:=h x (by simp)
  have h2:=mM (n:=n) (ws:=r) fun y hy=>h y (List.mem_cons_of_mem _ hy)
  have e:tK (x :: r)=tK [x] + tK r:=Xj [x] r
  rw[e,JY,List.length_cons,Nat.mul_add]
  omega
theorem dH (ws:List Str):(Txt.join " " ws).length≤tK ws:=by
 have:=sN " " ws
 have e:(" " : Str).length=1:=by decide +kernel
 rw[e] at this
 unfold tK
 omega
theorem rN (ws:List Str):(ws.map (·.length)).sum + ws.length * (" " : Str).length=tK ws:=by
 have e:(" " : Str).length=1:=by decide +kernel
 rw[e];unfold tK;omega
section
variable {P:Program} {w:World} {K:PySem.W.Frag} {mg:Str→Option Value} {base:Heap} {t:jT}
end
noncomputable def yv (c k:Int):Int:=(c % 2147483629 + 104729 * (k + 1)) % 2147483629 * ((c % 2147483629 + 104729 * (k + 1)) % 2147483629) % 2147483647 * 48271 % 2147483647 / 7
theorem ou (c k:Int):0≤yv c k∧yv c k < 306783379:=by
 unfold yv
 generalize (c % 2147483629 + 104729 * (k + 1)) % 2147483629 * ((c % 2147483629 + 104729 * (k + 1)) % 2147483629) % 2147483647 * 48271=z
 omega
noncomputable def wA (ns:List Int) (k:Int):Int:=if k < (ns.length:Int) then ns.getD k.toNat 0 % 1000000000000000000000007 else 0
theorem JR (ns:List Int) (k:Int):0≤wA ns k∧wA ns k < 1000000000000000000000007:=by
 unfold wA
 split
 ·exact⟨Int.emod_nonneg _ (by decide),Int.emod_lt_of_pos _ (by decide)⟩
 ·decide
noncomputable def om (K:PySem.W.Frag):Sp:=fun vs H Q _=>∃(a:Addr) (k:Int) (ns:List Int),vs=[.ref a,.int k]∧qI K H a (ns.map V.int)∧0≤k∧Q (.int (wA ns k)) H
noncomputable def tT:Sp:=fun vs H Q _=>∃(c k:Int),vs=[.int c,.int k]∧0≤k∧k≤1000∧Q (.int (yv c k)) H
noncomputable abbrev sS:Str:="fgjkqvxz"
noncomputable def Zw:List Nat:=[102,103,106,107,113,118,120,122]
theorem iC:sS.length=8∧sS.cps.toList=Zw:=by decide +kernel
theorem dF:qC.length=26∧qC.cps.toList.length=26:=by decide +kernel
theorem nL:∀c∈Zw,c∈qC.cps.toList:=by decide +kernel
theorem ay:∀x∈yb,∀c∈x.cps.toList,c∉Zw:=by decide +kernel
noncomputable def oF (j:Int):Nat:=Zw.getD j.toNat 0
theorem JW {x:Str} (h1:1≤x.length) (h2:x.length≤8) (h3:∀c∈x.cps.toList,c∈qC.cps.toList) (h4:∃c∈x.cps.toList,c∈Zw):qZ x=true:=by
 unfold qZ gG
 rw[decide_eq_true h1,decide_eq_true (show (x.length:Int)≤8 by omega)]
 have e:x.cps.toList.all (has qC)=true:=List.all_eq_true.mpr fun c hc=>by rw[iL];exact decide_eq_true (h3 c hc)
 rw[e,dQ]
 obtain⟨c,hc,hs⟩:=h4
 rw[decide_eq_false (fun q=>ay x q c hc hs)]
 rfl
theorem kx {x:Str} (h:qZ x=true):1≤x.length∧x.length≤8∧Wk x:=by
 unfold qZ at h
 rw[Bool.and_eq_true] at h
 obtain⟨h1,h2,h3⟩:=dI h.1
 refine⟨h1,by omega,fun c hc=>eG.2.2 c (h3 c hc),fun hc=>?_⟩
 have:¬32∈qC.cps.toList:=by decide +kernel
 exact this (h3 32 hc)
noncomputable def wO:List Str:=["part","done","let","calm","sore","end","acts","any","in","else","may","not"]
theorem tu:∀x∈wO,1≤x.length∧x.length≤4∧∀c∈x.cps.toList,c∈qC.cps.toList:=by decide +kernel
noncomputable def ub (c:Int):Int:=2 + c / 81 % (7 - (if c % 3=1 then 1 else 0))
noncomputable def Zy (c:Int):Int:=c / 500 % ub c
noncomputable def G9 (c:Int):Nat:=(wO.getD (c / 12 % 12).toNat "").length
theorem tN (c:Int):2≤ub c∧ub c≤8∧(c % 3=1→ub c≤7):=by
 unfold ub
 by_cases h:c % 3=1
 ·rw[if_pos h]
  omega
 ·rw[if_neg h]
  omega
noncomputable def Jx (c:Int):Int:=(Zy c + 1 + c / 3600 % (ub c - 1)) % ub c
theorem iR (c:Int):0≤Zy c∧Zy c < ub c:=by
 have h:=(tN c).1
 exact⟨Int.emod_nonneg _ (by omega),Int.emod_lt_of_pos _ (by omega)⟩
theorem Qq (c:Int):0≤Jx c∧Jx c < ub c∧Jx c≠Zy c:=by
 have h:=(tN c).1
 have ha:=iR c
 have r0:0≤c / 3600 % (ub c - 1):=Int.emod_nonneg _ (by omega)
 have r1:c / 3600 % (ub c - 1) < ub c - 1:=Int.emod_lt_of_pos _ (by omega)
 refine⟨Int.emod_nonneg _ (by omega),Int.emod_lt_of_pos _ (by omega),?_⟩
 unfold Jx
 generalize c / 3600 % (ub c - 1)=r at *
 generalize ub c=z at *
 generalize Zy c=a at *
 by_cases q:a + 1 + r < z
 ·rw[Int.emod_eq_of_lt (by omega) q]
  omega
 ·have e:a + 1 + r=(a + 1 + r - z) + z:=by omega
  rw[e,Int.add_emod_right,Int.emod_eq_of_lt (by omega) (by omega)]
  omega
theorem aT (b:Bool):(0:Int) < 7 - (if b=true then 1 else 0):=by cases b<;>decide
theorem V2 (c:Int):(2 + c / 81 % (7 - (if decide (V.int (c % 3)=V.int 1)=true then (1:Int) else 0)))=ub c:=by
 unfold ub
 by_cases q:c % 3=1
 ·rw[if_pos q,if_pos (by rw[q];exact decide_eq_true rfl)]
 ·rw[if_neg q,if_neg (fun h=>q (by have:=of_decide_eq_true h;injection this))]
noncomputable def uq (j:Int):Nat:=qC.cps.toList.getD (j % 26).toNat 0
noncomputable def Jv (c k:Int) (j:Nat):Nat:=if (j:Int)=Jx c then uq (k / 8 + c / 7) else if (j:Int)=Zy c then oF (k % 8) else uq (yv c j)
noncomputable def fj (c k:Int):List Nat:=(List.range (ub c).toNat).map (Jv c k)
noncomputable def dS (c k:Int):List Nat:=if c % 12=5∧k < 8 then [oF (k % 8)] else if c % 12=7 then (wO.getD (c / 12 % 12).toNat "").cps.toList ++ [oF (k % 8),uq (k / 8)] else if c % 3=1∧k % 2=1 then fj c (k - 1) ++ [uq (c / 3)] else fj c k
noncomputable def yo (c k:Int):Str:=⟨(dS c k).toArray⟩
theorem b9 (c k:Int):(yo c k).cps.toList=dS c k:=rfl
noncomputable def iG:Sp:=fun vs H Q _=>∃(c k:Int),vs=[.int c,.int k]∧0≤c∧c < 1000000000∧0≤k∧k < 208∧∀H',qg H H'→Q (.str (yo c k)) H'
theorem gg (k:Int):oF (k % 8)∈Zw:=by
 unfold oF
 have h0:0≤k % 8:=Int.emod_nonneg _ (by omega)
 have h1:k % 8 < 8:=Int.emod_lt_of_pos _ (by omega)
 have hj:(k % 8).toNat < Zw.length:=by show (k % 8).toNat < 8;omega
 rw[List.getD_eq_getElem?_getD,List.getElem?_eq_getElem hj]
 exact List.getElem_mem hj
theorem dX (k:Int):qC.cps.toList.getD (k % 26).toNat 0∈qC.cps.toList:=by
 have h0:0≤k % 26:=Int.emod_nonneg _ (by omega)
 have h1:k % 26 < 26:=Int.emod_lt_of_pos _ (by omega)
 have hj:(k % 26).toNat < qC.cps.toList.length:=by rw[dF.2];omega
 rw[List.getD_eq_getElem?_getD,List.getElem?_eq_getElem hj]
 exact List.getElem_mem hj
noncomputable def LS (x:Str):Prop:=∀c∈x.cps.toList,c∈qC.cps.toList
noncomputable def VC (c k k':Int) (tl:Str):Prop:=(c % 3=1∧k % 2=1∧k'=k - 1∧tl.cps.toList=[uq (c / 3)])∨(¬(c % 3=1∧k % 2=1)∧k'=k∧tl = "")
theorem uA {a b:Int} (h:decide (V.int a=V.int b)=true):a=b:=by have:=of_decide_eq_true h;injection this
theorem rj {a b:Int} (h:a=b):decide (V.int a=V.int b)=true:=by subst h;exact decide_eq_true rfl
section
variable {P:Program} {w:World} {K:PySem.W.Frag} {mg:Str→Option Value} {base:Heap} {t:jT}
theorem lZ:qe ["_law_script","_law_k"] ["_law_script","_law_k"] (z4 xq):=⟨rfl,rfl,rfl,by decide +kernel,rfl,by decide +kernel,by decide +kernel⟩
set_option maxHeartbeats 400000 in
theorem fK (T:Txt K mg t):qi P w K mg base jn 1 t.wz t.vE ["_law_script","_law_k"] (om K):=by
 refine T.jF.fn.ok lZ (fun vs H Q E h=>(by obtain⟨_,_,_,rfl,_⟩:=h;rfl)) (fun cdv A outer s H vs Q E hr h=>?_)
 obtain⟨a,k,ns,rfl,hA,k0,kk⟩:=h
 refine⟨_,(z6 (qG (qu uD (pv 1) (qK (jr (K:=K) rfl) rfl T.kL PySem.boot_len (z0 (pv 0) z5)) (qt _))
    (z8 (qw (qx jj (qr (qy (K:=K) rfl) (pv 0) (pv 1) (fun _ _=>rfl)) z7))) qp)
   (z8 (qw z7))),?_⟩
 refine⟨_,rfl,_,rfl,a,_,rfl,.inl hA,_,_,rfl,rfl,_,rfl,?_⟩
 rw[List.length_map]
 refine je (fun h1=>?_) (fun h1=>?_)
 ·have h1':=of_decide_eq_true h1
  rw[show wA ns k=ns.getD k.toNat 0 % 1000000000000000000000007 from if_pos h1'] at kk
  walk_at "rd"
  exact kk
 ·have h1':¬k < (ns.length:Int):=fun q=>h1 (decide_eq_true q)
  rw[show wA ns k=0 from if_neg h1'] at kk
  walk_at "rd"
  exact kk
theorem ng:qe ["_law_cell","_law_k","_law_number"] ["_law_cell","_law_k"] (z4 wo):=⟨rfl,rfl,rfl,by decide +kernel,rfl,by decide +kernel,by decide +kernel⟩
set_option maxHeartbeats 400000 in
theorem fL (T:Txt K mg t):qi P w K mg base jn 1 t.gp t.gy ["_law_cell","_law_k"] tT:=by
 refine T.jL.fn.ok ng (fun vs H Q E h=>(by obtain⟨_,_,rfl,_⟩:=h;rfl)) (fun cdv A outer s H vs Q E hr h=>?_)
 obtain⟨c,k,rfl,k0,k1,kk⟩:=h
 refine⟨_,(z6 (qX (i:=2) ng.nd rfl (Or.inl rfl) (qx jj (qx xC (qx jj (pv 0) z7) (qx uj z7 (qx xC (pv 1) z7))) z7))
   (z8 (qw (qx vQ (qx jj (qx uj (qx jj (qx uj (pv 2) (pv 2)) z7) z7) z7) z7)))),?_⟩
 walk_at "rd"
 exact kk
theorem jZ:qe ["_law_cell","_law_k","_law_letters","_law_heads","_law_tail","_law_size","_law_at","_law_other","_law_name_here","_law_j","_law_letter"] ["_law_cell","_law_k"] (z4 kO):=⟨rfl,rfl,rfl,by decide +kernel,rfl,by decide +kernel,by decide +kernel⟩
set_option maxHeartbeats 400000 in
theorem ai (T:Txt K mg t):qi P w K mg base jn 2 t.ff t.fW ["_law_cell","_law_k"] iG:=by
 have G_w_mix:qi P w K mg base jn 1 t.gp t.gy ["_law_cell","_law_k"] tT:=(fL T).mono (by decide)
 refine T.cA.fn.ok jZ (fun vs H Q E h=>(by obtain⟨_,_,rfl,_⟩:=h;rfl)) (fun cdv A outer s H vs Q E hr h=>?_)
 obtain⟨c,k,rfl,c0,c1,k0,k1,kk⟩:=h
 refine⟨_,(z6 (qX (i:=2) jZ.nd rfl (Or.inl rfl) qq)
   (z6 (PS.join (qG (PW.pt (rS (qu jQ (qx jj (pv 0) z7) z7 (qt _)) (dG (qu uD (pv 1) z7 (qt _)))))
    (z8 (qw (qr bM qq (pv 1) (fun _ _=>rfl)))) qp))
   (z6 (qG (qu jQ (qx jj (pv 0) z7) z7 (qt _))
    (z6 (qX (i:=3) jZ.nd rfl (Or.inl rfl) (qS (z0 qq (z0 qq (z0 qq (z0 qq (z0 qq (z0 qq (z0 qq (z0 qq (z0 qq (z0 qq (z0 qq (z0 qq z5))))))))))))) bS)
   (z8 (qw (qx qm (qx qm (qr (qy (K:=K) rfl) (pv 3) (qx jj (qx vQ (pv 0) z7) z7) (fun _ _=>rfl)) (qr bM qq (qx jj (pv 1) z7) (fun _ _=>rfl))) (qr bM (pv 2) (qx jj (qx vQ (pv 1) z7) z7) (fun _ _=>rfl)))))) qp)
   (z6 (qX (i:=4) jZ.nd rfl (Or.inl rfl) qq)
   (z6 (PS.join (qG (PW.pt (rS (qu jQ (qx jj (pv 0) z7) z7 (qt _)) (dG (qu jQ (qx jj (pv 1) z7) z7 (qt _)))))
    (z6 (qX (i:=4) jZ.nd rfl (Or.inl rfl) (qr bM (pv 2) (qx jj (qx vQ (pv 0) z7) z7) (fun _ _=>rfl)))
   (z8 (qX (i:=1) jZ.nd rfl (Or.inl rfl) (qx mY (pv 1) z7)))) qp))
   (z6 (qX (i:=5) jZ.nd rfl (Or.inl rfl) (qx xC z7 (qx jj (qx vQ (pv 0) z7) (qx mY z7 (j4 bO rfl T.cT PyProof.Rows.boot_int (z0 (va jQ (qx jj (pv 0) z7) z7 (qt _)) z5))))))
   (z6 (qX (i:=6) jZ.nd rfl (Or.inl rfl) (qx jj (qx vQ (pv 0) z7) (pv 5)))
   (z6 (qX (i:=7) jZ.nd rfl (Or.inl rfl) (qx jj (qx xC (qx xC (pv 6) z7) (qx jj (qx vQ (pv 0) z7) (qx mY (pv 5) z7))) (pv 5)))
   (z6 (qX (i:=8) jZ.nd rfl (Or.inl rfl) qq)
   (z6 (p3 PassesOwn.never rfl (wY rfl T.yu (z0 (pv 5) z5)) (kz (i:=9) jZ.nd rfl (Or.inl rfl))
    (z6 (qX (i:=10) jZ.nd rfl (Or.inl rfl) (qr bM (pv 2) (qx jj (qf G_w_mix hr rfl T.jL.mg T.jL.fn.kp T.jL.bd .nil qJ (z0 (pv 0) (z0 (pv 9) z5))) z7) (fun _ _=>rfl)))
   (z6 (PS.join (qG (qu jQ (pv 9) (pv 6) (qt _))
    (z8 (qX (i:=10) jZ.nd rfl (Or.inl rfl) (qr bM qq (qx jj (pv 1) z7) (fun _ _=>rfl)))) qp))
   (z6 (PS.join (qG (qu jQ (pv 9) (pv 7) (qt _))
    (z8 (qX (i:=10) jZ.nd rfl (Or.inl rfl) (qr bM (pv 2) (qx jj (qx xC (qx vQ (pv 1) z7) (qx vQ (pv 0) z7)) z7) (fun _ _=>rfl)))) qp))
   (z8 (qX (i:=8) jZ.nd rfl (Or.inl rfl) (qx qm (pv 8) (pv 10))))))))
   (z8 (qw (qx qm (pv 8) (pv 4)))))))))))))),?_⟩
 have hs:(Str.ofString "fgjkqvxz").length=8:=iC.1
 have hl:(Str.ofString "abcdefghijklmnopqrstuvwxyz").length=26:=dF.1
 have k8:0≤k % 8:=Int.emod_nonneg _ (by decide)
 have k8':k % 8 < 8:=Int.emod_lt_of_pos _ (by decide)
 walk_at "rd"
 refine⟨fun σ' H'=>(σ'=[some (.int c),some (.int k),some (.str (Str.ofString "abcdefghijklmnopqrstuvwxyz")),none,none,none,none,none,none,none,none]∧H'=H∧¬(c % 12=5∧k < 8))∨False,?_,?_⟩
 ·walk_at "rd"
  refine je (fun h1=>?_) (fun h1=>.inl ⟨rfl,rfl,fun q=>h1 (rj q.1)⟩)
  walk_at "rd"
  refine je (fun h2=>?_) (fun h2=>.inl ⟨rfl,rfl,fun q=>h2 (decide_eq_true q.2)⟩)
  have h2':k < 8:=of_decide_eq_true h2
  walk_at "rd"
  have em:(⟨#[(Str.ofString "fgjkqvxz").cps.toList.getD k.toNat 0]⟩:Str)=yo c k:=by
   refine xH ?_
   rw[b9]
   unfold dS
   rw[if_pos ⟨uA h1,h2'⟩,show (Str.ofString "fgjkqvxz").cps.toList=Zw from iC.2,show k % 8=k by omega]
   rfl
  rw[em]
  exact kk _ (qg.refl _)
 intro σ' H' q
 obtain⟨rfl,rfl,hA⟩:=q.resolve_right fun z=>z
 walk_at "rd"
 refine je (fun h1=>?_) (fun h1=>?_)
 ·have e7:c % 12=7:=uA h1
  walk_at "rd"
  intro lh H1 s1 hlh e1
  have e2:H1 lh=some (.lst (wO.map V.str)):=e1
  clear e1
  have hk:wO.length=12:=rfl
  have b0:0≤c / 12 % 12:=Int.emod_nonneg _ (by decide)
  have b1:c / 12 % 12 < 12:=Int.emod_lt_of_pos _ (by decide)
  have b2:0≤k / 8 % 26:=Int.emod_nonneg _ (by decide)
  have b3:k / 8 % 26 < 26:=Int.emod_lt_of_pos _ (by decide)
  obtain⟨g1,g2,g3⟩:=tu _ (p9 (ws:=wO) (i:=(c / 12 % 12).toNat) (by omega))
  walk_at "rd"
  rw[show (wO.getD (c / 12 % 12).toNat (Str.ofString "") ++ (⟨#[(Str.ofString "fgjkqvxz").cps.toList.getD (k % 8).toNat 0]⟩:Str) ++ (⟨#[(Str.ofString "abcdefghijklmnopqrstuvwxyz").cps.toList.getD (k / 8 % 26).toNat 0]⟩:Str))=yo c k from by
   refine xH ?_
   rw[cps_append,cps_append,b9]
   unfold dS
   rw[if_neg hA,if_pos e7,List.append_assoc,show (Str.ofString "fgjkqvxz").cps.toList=Zw from iC.2]
   rfl]
  exact kk H1 (by walk_at "sm")
 have n7:¬c % 12=7:=fun q=>h1 (rj q)
 walk_at "rd"
 refine⟨fun σ' H2=>(∃(tl:Str) (k':Int),σ'=[some (.int c),some (.int k'),some (.str (Str.ofString "abcdefghijklmnopqrstuvwxyz")),none,some (.str tl),none,none,none,none,none,none]∧H2=H'∧VC c k k' tl)∨False,?_,?_⟩
 ·walk_at "rd"
  refine je (fun h2=>?_) (fun h2=>.inl ⟨_,_,rfl,rfl,.inr ⟨fun q=>h2 (rj q.1),rfl,rfl⟩⟩)
  walk_at "rd"
  refine je (fun h3=>?_) (fun h3=>.inl ⟨_,_,rfl,rfl,.inr ⟨fun q=>h3 (rj q.2),rfl,rfl⟩⟩)
  have b2:0≤c / 3 % 26:=Int.emod_nonneg _ (by decide)
  have b3:c / 3 % 26 < 26:=Int.emod_lt_of_pos _ (by decide)
  walk_at "rd"
  exact .inl ⟨_,_,rfl,rfl,.inl ⟨uA h2,uA h3,rfl,rfl⟩⟩
 intro σ' H2 q
 obtain⟨tl,k',rfl,rfl,hT⟩:=q.resolve_right fun z=>z
 clear q
 have z1:=tN c
 have a1:=iR c
 have o1:=Qq c
 have k'0:0≤k'∧k' < 208:=by rcases hT with ⟨_,_,e,_⟩ | ⟨_,e,_⟩<;>omega
 walk_at "rd"
 refine .inr ⟨_,rfl,_,_,rfl,rfl,_,_,rfl,rfl,aT _,_,_,rfl,rfl,?_⟩
 show cg 5 (V.int (2 + c / 81 % (7 - (if decide (V.int (c % 3)=V.int 1)=true then (1:Int) else 0)))) _ _ _
 rw[V2 c]
 walk_at "rd"
 refine b7 (lo:=0) (n:=(ub c).toNat) (fun i σ H3=>∃(x:Str) (v9 v10:Option V),σ=[some (.int c),some (.int k'),some (.str (Str.ofString "abcdefghijklmnopqrstuvwxyz")),none,some (.str tl),some (.int (ub c)),some (.int (Zy c)),some (.int (Jx c)),some (.str x),v9,v10]∧H3=H2∧x.cps.toList=(List.range i).map (Jv c k')∧(i=i∨False))
  ⟨"",none,none,rfl,rfl,(show ("" : Str).cps.toList=[] from by decide +kernel),.inl rfl⟩ ?_ ?_
 ·rintro i σ H3 hi ⟨x,v9,v10,rfl,rfl,hx,_⟩
  have k'8:0≤k' % 8:=Int.emod_nonneg _ (by decide)
  have k'8':k' % 8 < 8:=Int.emod_lt_of_pos _ (by decide)
  have em:(Str.ofString "fgjkqvxz").cps.toList.getD (k' % 8).toNat 0=oF (k' % 8):=by
   rw[show (Str.ofString "fgjkqvxz").cps.toList=Zw from iC.2];rfl
  have b0:0≤(k' / 8 + c / 7) % 26:=Int.emod_nonneg _ (by decide)
  have b1:(k' / 8 + c / 7) % 26 < 26:=Int.emod_lt_of_pos _ (by decide)
  have bm:=ou c (0 + (i:Int))
  walk_at "rd"
  refine⟨fun σ' H'=>(∃ch:Nat,σ'=[some (.int c),some (.int k'),some (.str (Str.ofString "abcdefghijklmnopqrstuvwxyz")),none,some (.str tl),some (.int (ub c)),some (.int (Zy c)),some (.int (Jx c)),some (.str x),some (.int (0 + (i:Int))),some (.str ⟨#[ch]⟩)]∧H'=H3∧ch=(if (i:Int)=Zy c then oF (k' % 8) else uq (yv c i)))∨False,?_,?_⟩
  ·walk_at "rd"
   refine je (fun h2=>?_) (fun h2=>.inl ⟨_,rfl,rfl,?_⟩)
   ·have h2':=uA h2
    walk_at "rd"
    exact .inl ⟨_,rfl,rfl,by rw[if_pos (by omega)];exact em⟩
   ·rw[if_neg (fun q=>h2 (rj (by omega))),Int.zero_add]
    rfl
  intro σ' H' q
  obtain⟨ch,rfl,rfl,m1⟩:=q.resolve_right fun z=>z
  clear q
  refine⟨fun σ' H3=>(∃ch:Nat,σ'=[some (.int c),some (.int k'),some (.str (Str.ofString "abcdefghijklmnopqrstuvwxyz")),none,some (.str tl),some (.int (ub c)),some (.int (Zy c)),some (.int (Jx c)),some (.str x),some (.int (0 + (i:Int))),some (.str ⟨#[ch]⟩)]∧H3=H'∧ch=Jv c k' i)∨False,?_,?_⟩
  ·walk_at "rd"
   refine je (fun h2=>?_) (fun h2=>.inl ⟨_,rfl,rfl,?_⟩)
   ·have h2':=uA h2
    walk_at "rd"
    exact .inl ⟨_,rfl,rfl,by unfold Jv;rw[if_pos (by omega)];rfl⟩
   ·unfold Jv
    rw[if_neg (fun q=>h2 (rj (by omega)))]
    exact m1
  intro σ' H3 q
  obtain⟨ch,rfl,rfl,m1⟩:=q.resolve_right fun z=>z
  clear q
  have hx9:x.length≤8:=by
   have:=congrArg List.length hx
   rw[List.length_map,List.length_range] at this
   (have e:x.cps.toList.length=x.length:=by simp [Str.length])
   omega
  walk_at "rd"
  refine⟨?_,.inl rfl⟩
  rw[cps_append,hx,List.range_succ,List.map_append,m1]
  rfl
 ·rintro σ H3 ⟨x,v9,v10,rfl,rfl,hx,_⟩
  have e:x ++ tl=yo c k:=by
   refine xH ?_
   rw[cps_append,b9]
   unfold dS
   rw[if_neg hA,if_neg n7]
   rcases hT with ⟨e1,e2,e3,e4⟩ | ⟨e1,e2,e3⟩
   ·rw[if_pos ⟨e1,e2⟩,e4,hx,e3];rfl
   ·rw[if_neg e1,e3,hx,e2,show ("" : Str).cps.toList=[] from by decide +kernel,List.append_nil];rfl
  have hx9:x.length≤8:=by
   have:=congrArg List.length hx
   rw[List.length_map,List.length_range] at this
   (have e:x.cps.toList.length=x.length:=by simp [Str.length])
   omega
  have hT9:tl.length≤1:=by
   rcases hT with ⟨_,_,_,e⟩ | ⟨_,_,e⟩
   ·have:=congrArg List.length e
    have e':tl.cps.toList.length=tl.length:=by simp [Str.length]
    rw[e'] at this;simp only[List.length_cons,List.length_nil] at this;omega
   ·rw[e];decide +kernel
  walk_at "rd"
  rw[e]
  exact kk _ (qg.refl _)
end
theorem WC:qC.cps.toList.Nodup:=by decide +kernel
theorem Gi:Zw.Nodup:=by decide +kernel
theorem getD_inj {L:List Nat} (h:L.Nodup) {i j:Nat} (hi:i < L.length) (hj:j < L.length) (e:L.getD i 0=L.getD j 0):i=j:=by
 rw[List.getD_eq_getElem?_getD,List.getD_eq_getElem?_getD,List.getElem?_eq_getElem hi,List.getElem?_eq_getElem hj] at e
 have e':L[i]=L[j]:=e
 have hp:=List.nodup_iff_pairwise_ne.mp h
 rcases Nat.lt_trichotomy i j with q | q | q
 ·exact absurd e' (List.pairwise_iff_getElem.mp hp i j hi hj q)
 ·exact q
 ·exact absurd e'.symm (List.pairwise_iff_getElem.mp hp j i hj hi q)
theorem ny {a b:Int} (e:uq a=uq b):a % 26=b % 26:=by
 have a0:0≤a % 26:=Int.emod_nonneg _ (by decide)
 have a1:a % 26 < 26:=Int.emod_lt_of_pos _ (by decide)
 have b0:0≤b % 26:=Int.emod_nonneg _ (by decide)
 have b1:b % 26 < 26:=Int.emod_lt_of_pos _ (by decide)
 have:=getD_inj WC (i:=(a % 26).toNat) (j:=(b % 26).toNat) (by rw[dF.2];omega) (by rw[dF.2];omega) e
 omega
theorem lP {a b:Int} (e:oF (a % 8)=oF (b % 8)):a % 8=b % 8:=by
 have a0:0≤a % 8:=Int.emod_nonneg _ (by decide)
 have a1:a % 8 < 8:=Int.emod_lt_of_pos _ (by decide)
 have b0:0≤b % 8:=Int.emod_nonneg _ (by decide)
 have b1:b % 8 < 8:=Int.emod_lt_of_pos _ (by decide)
 have:=getD_inj Gi (i:=(a % 8).toNat) (j:=(b % 8).toNat) (by show _ < 8;omega) (by show _ < 8;omega) e
 omega
theorem vF (c k:Int):(fj c k).length=(ub c).toNat:=by unfold fj;rw[List.length_map,List.length_range]
theorem rW (c k:Int):(fj c k)[(Zy c).toNat]?=some (oF (k % 8)):=by
 have a1:=iR c
 have o1:=Qq c
 unfold fj
 rw[List.getElem?_map,List.getElem?_range (by omega)]
 show some (Jv c k (Zy c).toNat)=_
 unfold Jv
 rw[if_neg (by omega),if_pos (by omega)]
theorem Qr (c k:Int):(fj c k)[(Jx c).toNat]?=some (uq (k / 8 + c / 7)):=by
 have o1:=Qq c
 unfold fj
 rw[List.getElem?_map,List.getElem?_range (by omega)]
 show some (Jv c k (Jx c).toNat)=_
 unfold Jv
 rw[if_pos (by omega)]
theorem i3 (c k:Int):∀x∈fj c k,x∈qC.cps.toList:=by
 intro x hx
 unfold fj at hx
 obtain⟨j,_,rfl⟩:=List.mem_map.mp hx
 unfold Jv
 split
 ·exact dX _
 ·split
  ·exact nL _ (gg k)
  ·exact dX _
theorem dP {c k1 k2:Int} (h1:0≤k1∧k1 < 208) (h2:0≤k2∧k2 < 208) (e:fj c k1=fj c k2):k1=k2:=by
 have e1:=rW c k1
 rw[e,rW c k2] at e1
 have e2:=Qr c k1
 rw[e,Qr c k2] at e2
 have f1:=lP (Option.some.inj e1)
 have f2:=ny (Option.some.inj e2)
 omega
theorem pD (c:Int) {k:Int}:qZ (yo c k)=true:=by
 have z1:=tN c
 have a1:=iR c
 have len:(yo c k).length=(dS c k).length:=by rw[←b9];simp [Str.length]
 have key:1≤(dS c k).length∧(dS c k).length≤8∧(∀x∈dS c k,x∈qC.cps.toList)∧∃x∈dS c k,x∈Zw:=by
  unfold dS
  split
  ·exact⟨by simp,by simp,fun x hx=>by rw[List.mem_singleton.mp hx];exact nL _ (gg k),_,List.mem_singleton.mpr rfl,gg k⟩
  ·split
   ·have b0:0≤c / 12 % 12:=Int.emod_nonneg _ (by decide)
    have b1:c / 12 % 12 < 12:=Int.emod_lt_of_pos _ (by decide)
    obtain⟨g1,g2,g3⟩:=tu _ (p9 (ws:=wO) (i:=(c / 12 % 12).toNat) (by show _ < 12;omega))
    have e:(wO.getD (c / 12 % 12).toNat "").cps.toList.length=(wO.getD (c / 12 % 12).toNat "").length:=by simp [Str.length]
    refine⟨by rw[List.length_append];simp only[List.length_cons,List.length_nil];omega,by rw[List.length_append];simp only[List.length_cons,List.length_nil];omega,fun x hx=>?_,oF (k % 8),by simp,gg k⟩
    (rcases List.mem_append.mp hx with hx | hx)
    ·exact g3 x hx
    ·simp only[List.mem_cons,List.not_mem_nil,or_false] at hx
     rcases hx with rfl | rfl
     ·exact nL _ (gg k)
     ·exact dX _
   ·split
    ·rename_i h
     have:=z1.2.2 h.1
     refine⟨by rw[List.length_append,vF];simp only[List.length_cons,List.length_nil];omega,by rw[List.length_append,vF];simp only[List.length_cons,List.length_nil];omega,fun x hx=>?_,oF ((k - 1) % 8),List.mem_append_left _ (List.mem_of_getElem? (rW c (k - 1))),gg _⟩
     (rcases List.mem_append.mp hx with hx | hx)
     ·exact i3 _ _ x hx
     ·rw[List.mem_singleton.mp hx];exact dX _
    ·exact⟨by rw[vF];omega,by rw[vF];omega,i3 c k,oF (k % 8),List.mem_of_getElem? (rW c k),gg k⟩
 exact JW (by rw[len];exact key.1) (by rw[len];exact key.2.1) key.2.2.1 key.2.2.2
theorem JD {c k:Int} (h:c % 12=5) (q:k < 8):dS c k=[oF (k % 8)]:=by unfold dS;rw[if_pos ⟨h,q⟩]
theorem eg {c k:Int} (h:c % 12=5) (q:¬k < 8):dS c k=fj c k:=by unfold dS;rw[if_neg (fun z=>q z.2),if_neg (by omega),if_neg (by omega)]
theorem V9 {c k:Int} (h:c % 12=7):dS c k=(wO.getD (c / 12 % 12).toNat "").cps.toList ++ [oF (k % 8),uq (k / 8)]:=by unfold dS;rw[if_neg (by omega),if_pos h]
theorem JC {c k:Int} (h:¬c % 12=5) (h7:¬c % 12=7) (h3:c % 3=1) (q:k % 2=1):dS c k=fj c (k - 1) ++ [uq (c / 3)]:=by unfold dS;rw[if_neg (fun z=>h z.1),if_neg h7,if_pos ⟨h3,q⟩]
theorem eA {c k:Int} (h:¬c % 12=5) (h7:¬c % 12=7) (q:¬(c % 3=1∧k % 2=1)):dS c k=fj c k:=by unfold dS;rw[if_neg (fun z=>h z.1),if_neg h7,if_neg q]
theorem Kz {c k1 k2:Int} (h1:0≤k1∧k1 < 208) (h2:0≤k2∧k2 < 208) (e:yo c k1=yo c k2):k1=k2:=by
 have e':dS c k1=dS c k2:=by rw[←b9,←b9,e]
 have z1:=tN c
 have el:=congrArg List.length e'
 by_cases c5:c % 12=5
 ·by_cases q1:k1 < 8<;>by_cases q2:k2 < 8
  ·rw[JD c5 q1,JD c5 q2] at e'
   have:=lP (List.cons.inj e').1
   omega
  ·rw[JD c5 q1,eg c5 q2,vF] at el
   simp only[List.length_cons,List.length_nil] at el
   omega
  ·rw[eg c5 q1,JD c5 q2,vF] at el
   simp only[List.length_cons,List.length_nil] at el
   omega
  ·rw[eg c5 q1,eg c5 q2] at e'
   exact dP h1 h2 e'
 by_cases c7:c % 12=7
 ·rw[V9 c7,V9 c7] at e'
  have:=List.append_cancel_left e'
  obtain⟨f1,f2⟩:=List.cons.inj this
  have g1:=lP f1
  have g2:=ny (List.cons.inj f2).1
  omega
 by_cases c3:c % 3=1
 ·by_cases q1:k1 % 2=1<;>by_cases q2:k2 % 2=1
  ·rw[JC c5 c7 c3 q1,JC c5 c7 c3 q2] at e'
   have:=dP (by omega) (by omega) (List.append_cancel_right e')
   omega
  ·rw[JC c5 c7 c3 q1,eA c5 c7 (fun z=>q2 z.2),List.length_append,vF,vF] at el
   simp only[List.length_cons,List.length_nil] at el
   omega
  ·rw[eA c5 c7 (fun z=>q1 z.2),JC c5 c7 c3 q2,List.length_append,vF,vF] at el
   simp only[List.length_cons,List.length_nil] at el
   omega
  ·rw[eA c5 c7 (fun z=>q1 z.2),eA c5 c7 (fun z=>q2 z.2)] at e'
   exact dP h1 h2 e'
 ·rw[eA c5 c7 (fun z=>c3 z.1),eA c5 c7 (fun z=>c3 z.1)] at e'
  exact dP h1 h2 e'
section
variable {P:Program} {w:World} {K:PySem.W.Frag} {mg:Str→Option Value} {base:Heap} {t:jT}
end
theorem JO:("; " : Str)=⟨#[59,32]⟩:=by decide +kernel
theorem ZJ:("; " : Str).cps.toList=[59,32]:=by decide +kernel
noncomputable def Va (l:List Nat):Prop:=∀j:Nat,l[j]?=some 59→l[j + 1]?=some 32→False
theorem QV {x:Str} {i:Nat} (h1:x.cps.toList[i]?=some 59) (h2:x.cps.toList[i + 1]?=some 32):StrLaws.At x ⟨#[59,32]⟩ x.length i:=by
 obtain⟨g1,e1⟩:=List.getElem?_eq_some_iff.mp h1
 obtain⟨g2,e2⟩:=List.getElem?_eq_some_iff.mp h2
 have hl:x.cps.toList.length=x.length:=by simp [Str.length]
 refine⟨by show i + 2≤x.length;omega,?_⟩
 rw[StrLaws.subAt_eq]
 show ((x.cps.toList.drop i).take 2 == [59,32])=true
 rw[List.drop_eq_getElem_cons g1,List.drop_eq_getElem_cons g2,e1,e2]
 rfl
theorem sH {x:Str} {a b:Nat} (hn:∀k,a≤k→k < b→¬StrLaws.At x ⟨#[59,32]⟩ x.length k):Va (Builtin.Str.strSub x a b).cps.toList:=by
 intro j h1 h2
 rw[StrLaws.strSub_toList] at h1 h2
 have hj:j + 1 < b - a:=by
  have:=(List.getElem?_eq_some_iff.mp h2).1
  rw[List.length_take] at this
  omega
 rw[List.getElem?_take_of_lt (by omega),List.getElem?_drop] at h1
 rw[List.getElem?_take_of_lt hj,List.getElem?_drop] at h2
 exact hn (a + j) (by omega) (by omega) (QV h1 (by rw[Nat.add_assoc];exact h2))
theorem uM {x:Str}:∀{cuts:List Nat} {a f:Nat},StrLaws.ChainG x ⟨#[59,32]⟩ x.length a cuts f→(∀k,f≤k→¬StrLaws.At x ⟨#[59,32]⟩ x.length k)→∀p∈StrLaws.partsFrom x 2 a cuts,Va p.cps.toList
 | [],a,f,h,hn,y,hy=>by
  obtain rfl:f=a:=h
  rw[List.mem_singleton.mp hy]
  exact sH fun k h1 _=>hn k h1
 | d :: r,a,f,h,hn,y,hy=>by
  rcases List.mem_cons.mp hy with rfl | hy'
  ·exact sH h.2.2.1
  ·exact uM h.2.2.2 hn y hy'
theorem az (x:Str):∀p∈Txt.split x ⟨#[59,32]⟩,Va p.cps.toList:=by
 obtain⟨f,hG,hn⟩:=StrLaws.occ_tight x ⟨#[59,32]⟩ (by show 1≤2;decide)
 intro p hp
 have whole:(∀k,¬StrLaws.At x ⟨#[59,32]⟩ x.length k)→Va x.cps.toList:=fun h j h1 h2=>h j (QV h1 h2)
 unfold Txt.split at hp
 split at hp
 ·rename_i hc
  rw[List.mem_singleton.mp hp]
  refine whole fun k hA=>?_
  (rw[Bool.or_eq_true,decide_eq_true_eq,decide_eq_true_eq] at hc)
  rcases hc with q | q
  ·have:=hA.1;omega
  ·have e:Builtin.Str.strKind ⟨#[59,32]⟩=1:=by decide +kernel
   rw[e] at q
   unfold Builtin.Str.strKind at q
   split at q
   ·omega
   ·split at q<;>omega
 ·split at hp
  ·rename_i he
   rw[List.mem_singleton.mp hp]
   rw[List.isEmpty_iff.mp he] at hG
   obtain rfl:f=0:=hG
   exact whole fun k=>hn k (Nat.zero_le _)
  ·rw[StrLaws.partsBetween_eq] at hp
   exact uM hG hn p hp
noncomputable def G2 (l:List Nat):Prop:=∀j:Nat,l[j]?=some 59→l[j + 1]?=some 32
theorem G2.free {l:List Nat} (h:59∉l):G2 l:=fun j e=>absurd (List.mem_of_getElem? e) h
theorem kG (x y:Str) (r:List Str):(Str.join "; " (x :: y :: r)).cps.toList=x.cps.toList ++ 59 :: 32 :: (Str.join "; " (y :: r)).cps.toList:=by
 rw[sZ,cps_append,cps_append,ZJ]
 simp
theorem G2.glue {x l:List Nat} (hx:59∉x) (hl:G2 l):G2 (x ++ 59 :: 32 :: l):=by
 intro j e
 by_cases q:j < x.length
 ·rw[List.getElem?_append_left q] at e
  exact absurd (List.mem_of_getElem? e) hx
 ·rw[List.getElem?_append_right (by omega)] at e ⊢
  rw[show j + 1 - x.length=(j - x.length) + 1 by omega]
  generalize j - x.length=i at e ⊢
  match i,e with
  | 0,_=>rfl
  | 1,e=>cases e
  | i + 2,e=>exact hl i e
theorem G2.join:∀{rows:List Str},(∀x∈rows,59∉x.cps.toList)→G2 (Str.join "; " rows).cps.toList
 | [],_=>G2.free (by decide +kernel)
 | [x],h=>by rw[L2.join_one];exact G2.free (h x (by simp))
 | x :: y :: r,h=>by
  rw[kG]
  exact G2.glue (h x (by simp)) (G2.join fun z hz=>h z (List.mem_cons_of_mem _ hz))
theorem cY:∀{ps:List Str},G2 (Str.join "; " ps).cps.toList→(∀p∈ps,Va p.cps.toList)→∀p∈ps,59∉p.cps.toList
 | [],_,_,p,hp=>by cases hp
 | [x],h,hn,p,hp=>by
  rw[L2.join_one] at h
  rw[List.mem_singleton.mp hp]
  intro hm
  (obtain⟨j,hj⟩:=List.getElem?_of_mem hm)
  exact hn x (by simp) j hj (h j hj)
 | x :: y :: r,h,hn,p,hp=>by
  rw[kG] at h
  have h':G2 (Str.join "; " (y :: r)).cps.toList:=fun j e=>by
   have:=h (x.cps.toList.length + (j + 2)) (by rw[List.getElem?_append_right (by omega),Nat.add_sub_cancel_left];exact e)
   rw[List.getElem?_append_right (by omega),show x.cps.toList.length + (j + 2) + 1 - x.cps.toList.length=j + 1 + 2 by omega] at this
   exact this
  (rcases List.mem_cons.mp hp with rfl | hp)
  ·intro hm
   (obtain⟨j,hj⟩:=List.getElem?_of_mem hm)
   have hjl:=(List.getElem?_eq_some_iff.mp hj).1
   have e:=h j (by rw[List.getElem?_append_left hjl];exact hj)
   by_cases q:j + 1 < p.cps.toList.length
   ·rw[List.getElem?_append_left q] at e
    exact hn p (by simp) j hj e
   ·rw[List.getElem?_append_right (by omega),show j + 1 - p.cps.toList.length=0 by omega] at e
    cases e
  ·exact cY h' (fun z hz=>hn z (List.mem_cons_of_mem _ hz)) p hp
theorem rk:∀{as bs:List Str},as≠[]→bs≠[]→(∀x∈as,59∉x.cps.toList)→(∀x∈bs,59∉x.cps.toList)→Str.join "; " as=Str.join "; " bs→as=bs
 | [],_,h,_,_,_,_=>absurd rfl h
 | _ :: _,[],_,h,_,_,_=>absurd rfl h
 | [a],[b],_,_,_,_,e=>by rw[show a=b from e]
 | [a],b :: b' :: r,_,_,ha,_,e=>by
  have e':=congrArg (fun z=>z.cps.toList) e
  simp only[kG,L2.join_one] at e'
  exact absurd (by rw[e'];simp) (ha a (by simp))
 | a :: a' :: r,[b],_,_,_,hb,e=>by
  have e':=congrArg (fun z=>z.cps.toList) e
  simp only[kG,L2.join_one] at e'
  exact absurd (by rw[←e'];simp) (hb b (by simp))
 | a :: a' :: r,b :: b' :: r',_,_,ha,hb,e=>by
  have e':=congrArg (fun z=>z.cps.toList) e
  simp only[kG] at e'
  obtain⟨e1,e2⟩:=lx (ha a (by simp)) (hb b (by simp)) e'
  have:=rk (as:=a' :: r) (bs:=b' :: r') (by simp) (by simp) (fun x hx=>ha x (List.mem_cons_of_mem _ hx)) (fun x hx=>hb x (List.mem_cons_of_mem _ hx)) (xH (List.cons.inj e2).2)
  rw[xH e1,this]
theorem aP {rows:List Str} (h:rows≠[]) (hb:∀x∈rows,59∉x.cps.toList):Txt.split (Txt.join "; " rows) "; " = rows:=by
 rw[join_eq]
 have hj:Str.join "; " (Txt.split (Str.join "; " rows) "; ")=Str.join "; " rows:=StrLaws.join_split _ _
 refine(rk h ?_ hb ?_ hj.symm).symm
 ·intro q
  have:=PyProof.Rows.split_pos (Str.join "; " rows) "; "
  rw[q] at this
  simp at this
 ·refine cY ?_ ?_
  ·rw[hj];exact G2.join hb
  ·rw[JO];exact az _
section
variable {P:Program} {w:World} {K:PySem.W.Frag} {mg:Str→Option Value} {base:Heap} {t:jT}
end
noncomputable def yD (ws:List Str):Str:=Txt.join " " ws
theorem i7 {x:Str} (h:qZ x=true):32∉x.cps.toList:=(kx h).2.2.nb
theorem iY:∀x∈(["let","be","part","done","parties","acts","calm","sore","end"]:List Str),32∉x.cps.toList∧59∉x.cps.toList∧x.length≤7:=by decide +kernel
theorem JI {a b:Str} (ha:qZ a=true) (hb:qZ b=true):pk [10,0,11,0] ["let",a,"be",b]:=.cons (.inr (.inr (.inr ⟨by decide,rfl⟩))) (.cons (.inl ⟨rfl,ha⟩) (.cons (.inr (.inr (.inr ⟨by decide,rfl⟩))) (.cons (.inl ⟨rfl,hb⟩) .nil)))
theorem Q7 {n:Str} (h:qZ n=true):pk [12,0] ["part",n]:=.cons (.inr (.inr (.inr ⟨by decide,rfl⟩))) (.cons (.inl ⟨rfl,h⟩) .nil)
theorem bg {fr:List Fr} {r:Rw}:(push fr r).length=fr.length:=by
 cases fr with
 | nil=>rfl
 | cons f fr=>obtain⟨a,b,c⟩:=f;rfl
section
variable {P:Program} {w:World} {K:PySem.W.Frag} {mg:Str→Option Value} {base:Heap} {t:jT}
end
theorem rX {n:Int} (h1:1≤n) (h2:n < 10 ^ 20):Rt 1 (Str.ofString (toString n))∧y1 (Str.ofString (toString n))=n∧Wk (Str.ofString (toString n))∧(Str.ofString (toString n)).length≤20:=by
 obtain⟨m,rfl⟩:=Int.eq_ofNat_of_zero_le (show 0≤n by omega)
 have e:=PySem.W.KIN.signs_num m
 have hg:=QB (n:=(m:Int)) (by omega) (by omega)
 generalize hs:Str.ofString (toString ((m:Nat):Int))=s at *
 have hl:s.length=(Nat.toDigits 10 m).length:=by
  have:=congrArg List.length e
  rw[List.length_map] at this
  rw[←this]
  simp [Str.length]
 have hdig:PySem.NumText.AllDigits s.cps.toList:=by
  rw[e]
  intro c hc
  obtain⟨ch,hch,rfl⟩:=List.mem_map.mp hc
  have:=Nat.isDigit_of_mem_toDigits (b:=10) (by decide) (by decide) hch
  simp [Char.isDigit] at this
  exact⟨by have:=this.1;exact this,by have:=this.2;exact this⟩
 have hv:PySem.NumText.digitsVal s.cps.toList=m:=by rw[e];exact PySem.W.KIN.val_back m
 have hhead:s.cps.toList.head?≠some 48:=by
  intro q
  have ta:=PySem.NumText.toDigits_all s.cps.toList hdig
  rw[hv] at ta
  cases qc:s.cps.toList with
  | nil=>rw[qc] at q;cases q
  | cons c r=>
   rw[qc] at q ta hv
   have hc:c=48:=by simpa using q
   subst hc
   rw[List.dropWhile_cons] at ta
   have hlen:(Nat.toDigits 10 m).length=r.length + 1:=by
    rw[←hl]
    have:s.length=s.cps.toList.length:=by simp [Str.length]
    rw[this,qc];rfl
   have hd:(r.dropWhile (· == 48)).length≤r.length:=(List.dropWhile_sublist _).length_le
   cases qd:r.dropWhile (· == 48) with
   | nil=>
    simp only[show ((48:Nat) == 48)=true from rfl,if_true,qd] at ta
    rw[ta] at hlen
    have:r=[]:=by cases r;rfl;simp at hlen
    subst this
    have:PySem.NumText.digitsVal [48]=0:=rfl
    omega
   | cons d r'=>
    simp only[show ((48:Nat) == 48)=true from rfl,if_true,qd] at ta
    rw[ta,List.length_map] at hlen
    rw[qd] at hd
    omega
 have hlen20:s.length≤20:=by
  rw[hl]
  refine digits10_le (by decide) ?_
  exact_mod_cast h2
 have hw:gG s x9 20=true:=by
  unfold gG
  rw[decide_eq_true hg.2.1,decide_eq_true (show (s.length:Int)≤20 by omega)]
  simp only[Bool.true_and]
  exact List.all_eq_true.mpr fun c hc=>by rw[sR];exact decide_eq_true (hdig c hc)
 have hn:y1 s=(m:Int):=by
  unfold y1
  rw[if_pos ⟨hw,hhead⟩,hv]
 have nl:qZ s=false:=by
  cases q:qZ s with
  | false=>rfl
  | true=>rw[name_num q] at hn;omega
 refine⟨.inr (.inl ⟨rfl,nl,by rw[hn];omega,fun q=>?_⟩),hn,⟨hg.2.2,fun hc=>?_⟩,hlen20⟩
 ·rw[(dB s q).2] at hn;omega
 ·have:=hdig 32 hc;omega
theorem JB:∀x∈lits,(∀c∈x.cps.toList,c < 128)∧32∉x.cps.toList∧x.length≤4:=by decide +kernel
theorem rn {x:Str} (h:qZ x=true):Rt 0 x:=.inl ⟨rfl,h⟩
theorem rl {x:Str} {k:Nat} (h:lits[k]?=some x):Rt (k + 3) x:=.inr (.inr (.inr ⟨by omega,by rw[Nat.add_sub_cancel];exact h⟩))
structure Wt (k:Nat) (x:Str):Prop where
 rt:Rt k x
 wk:Wk x
 len:x.length≤20
theorem wn {x:Str} (h:qZ x=true):Wt 0 x:=⟨rn h,(kx h).2.2,by have:=(kx h).2.1;omega⟩
theorem wl {x:Str} {k:Nat} (h:lits[k]?=some x):Wt (k + 3) x:=by
 obtain⟨h1,h2,h3⟩:=JB x (List.mem_of_getElem? h)
 exact⟨rl h,⟨h1,h2⟩,by omega⟩
noncomputable abbrev Zv:List Nat→List Str→Prop:=Paired Wt
theorem Zv.Vb {ks:List Nat} {ws:List Str} (h:Zv ks ws):pk ks ws:=Paired.Zc h fun _ _ q=>q.rt
theorem Zv.wk:∀{ks:List Nat} {ws:List Str},Zv ks ws→∀x∈ws,Wk x∧x.length≤20
 | _,_,.nil,x,hx=>by cases hx
 | _,_,.cons r t,x,hx=>by
  (rcases List.mem_cons.mp hx with rfl | hx)
  ·exact⟨r.wk,r.len⟩
  ·exact Zv.wk t x hx
theorem JM {ks:List Nat} {ws:List Str} (r:pk ks ws) (h1:jD ks mT=false) (h2:jD ks bt=false) (h3:jD ks ip=false) (h4:jD ks mQ=false):jK ws=none:=by
 obtain⟨f1,f2,f3,f4,f5,f6⟩:=jI
 obtain⟨o1,o2,o3,o4,o5,o6⟩:=nH
 unfold jK
 rw[if_neg (yx r o1 f1 h1),if_neg (yx r o2 f2 h2),if_neg (yx r o3 f3 h3),if_neg (yx r o4 f4 h4)]
noncomputable def sf (u:Str):Prop:=qZ u=true∨u = "any"
theorem wu {u:Str} (h:sf u):∃k,(k=0∨k=3)∧Wt k u:=by
 rcases h with h | rfl
 ·exact⟨0,.inl rfl,wn h⟩
 ·exact⟨3,.inr rfl,wl (k:=0) rfl⟩
theorem nX {ks:List Nat} {ws:List Str} (r:pk ks ws) (h:jD (ks.take 2) uV=true):xR (ws.take 2) cE=true:=bR (r.take 2) nH.2.2.2.2.2 jI.2.2.2.2.2 h
theorem mi:∀{rs:List Str},(∀x∈rs,qZ x=true)→Zv (List.replicate rs.length 0) rs
 | [],_=>.nil
 | x :: r,h=>.cons (wn (h x (by simp))) (mi fun y hy=>h y (List.mem_cons_of_mem _ hy))
noncomputable def p6 (m:Nat):List Nat:=[12,0,13] ++ List.replicate m 0
noncomputable def Xm (m:Nat):Bool:=!jD (p6 m) mT && !jD (p6 m) bt && !jD (p6 m) ip && !jD (p6 m) mQ && !jD (p6 m) Ji && !XU (p6 m) && jD ((p6 m).take 2) uV
theorem WG:∀m < 13,1≤m→Xm m=true:=by decide +kernel
inductive Ew where
 | lt (a b:Str)
 | mu (l w a:Str) (n:Int) (r:Str)
 | my (l w a:Str)
 | bn (l w a r:Str)
 | pw (l w a r:Str)
 | pt (n:Str) (rs:List Str)
 | dn
noncomputable def Ew.ws:Ew→List Str
 | .lt a b=>["let",a,"be",b]
 | .mu l w a n r=>[l,w,"must",a,"by",Str.ofString (toString n),"else",r]
 | .my l w a=>[l,w,"may",a]
 | .bn l w a r=>[l,w,"may","not",a,"else",r]
 | .pw l w a r=>[l,w,"by",a,"to",r]
 | .pt n []=>["part",n]
 | .pt n (x :: rs)=>"part" :: n :: "in" :: x :: rs
 | .dn=>["done"]
noncomputable def Ew.row (e:Ew):Str:=Txt.join " " e.ws
noncomputable def Ew.ok:Ew→Prop
 | .lt a b=>qZ a=true∧qZ b=true
 | .mu l w a n r=>qZ l=true∧qZ w=true∧qZ a=true∧1≤n∧n < 10 ^ 20∧qZ r=true
 | .my l w a=>qZ l=true∧sf w∧qZ a=true
 | .bn l w a r=>qZ l=true∧sf w∧qZ a=true∧qZ r=true
 | .pw l w a r=>qZ l=true∧sf w∧qZ a=true∧qZ r=true
 | .pt n rs=>qZ n=true∧(∀x∈rs,qZ x=true)∧rs.length≤12
 | .dn=>True
noncomputable def Ew.take (fr:List Fr) (ls:List Str):Ew→Option (List Fr × List Str)
 | .lt a b=>some (push fr (.lt a b),ls)
 | .mu l w a n r=>if l∈ls then none else some (push fr (.cl 0 l w a n r),ls ++ [l])
 | .my l w a=>if l∈ls then none else some (push fr (.cl 1 l w a 0 ""),ls ++ [l])
 | .bn l w a r=>if l∈ls then none else some (push fr (.cl 2 l w a 0 r),ls ++ [l])
 | .pw l w a r=>if l∈ls then none else some (push fr (.cl 3 l w a 0 r),ls ++ [l])
 | .pt n rs=>if fr.length=7∨n∈ls then none else some ((n,rs,[]) :: fr,ls ++ [n])
 | .dn=>match fr with
  | (n,rs,rows) :: (n2,rs2,rows2) :: fr'=>some ((n2,rs2,rows2 ++ [.pt n rs rows]) :: fr',ls)
  | _=>none
theorem Ew.Gh:∀{e:Ew},e.ok→(∃ks,Zv ks e.ws)∨e=.dn
 | .lt a b,h=>.inl ⟨_,.cons (wl (k:=7) rfl) (.cons (wn h.1) (.cons (wl (k:=8) rfl) (.cons (wn h.2) .nil)))⟩
 | .mu l w a n r,h=>by
  obtain⟨t1,t2,t3,t4⟩:=rX h.2.2.2.1 h.2.2.2.2.1
  exact .inl ⟨[0,0,4,0,7,1,8,0],.cons (wn h.1) (.cons (wn h.2.1) (.cons (wl (k:=1) rfl) (.cons (wn h.2.2.1) (.cons (wl (k:=4) rfl) (.cons ⟨t1,t3,t4⟩ (.cons (wl (k:=5) rfl) (.cons (wn h.2.2.2.2.2) .nil)))))))⟩
 | .my l w a,h=>by
  obtain⟨k,hk,hw⟩:=wu h.2.1
  exact .inl ⟨[0,k,5,0],.cons (wn h.1) (.cons hw (.cons (wl (k:=2) rfl) (.cons (wn h.2.2) .nil)))⟩
 | .bn l w a r,h=>by
  obtain⟨k,hk,hw⟩:=wu h.2.1
  exact .inl ⟨[0,k,5,6,0,8,0],.cons (wn h.1) (.cons hw (.cons (wl (k:=2) rfl) (.cons (wl (k:=3) rfl) (.cons (wn h.2.2.1) (.cons (wl (k:=5) rfl) (.cons (wn h.2.2.2) .nil))))))⟩
 | .pw l w a r,h=>by
  obtain⟨k,hk,hw⟩:=wu h.2.1
  exact .inl ⟨[0,k,7,0,9,0],.cons (wn h.1) (.cons hw (.cons (wl (k:=4) rfl) (.cons (wn h.2.2.1) (.cons (wl (k:=6) rfl) (.cons (wn h.2.2.2) .nil)))))⟩
 | .pt n [],h=>.inl ⟨_,.cons (wl (k:=9) rfl) (.cons (wn h.1) .nil)⟩
 | .pt n (x :: rs),h=>.inl ⟨_,.cons (wl (k:=9) rfl) (.cons (wn h.1) (.cons (wl (k:=10) rfl) (mi h.2.1)))⟩
 | .dn,_=>.inr rfl
theorem Ew.wk {e:Ew} (h:e.ok):∀x∈e.ws,Wk x∧x.length≤20:=by
 rcases Ew.Gh h with ⟨ks,w⟩ | rfl
 ·exact w.wk
 ·intro x hx
  simp only[Ew.ws,List.mem_cons,List.not_mem_nil,or_false] at hx
  subst hx
  exact⟨⟨by unfold asc;decide +kernel,by decide +kernel⟩,by decide +kernel⟩
theorem Ew.ne (e:Ew):e.ws≠[]:=by
 cases e with
 | pt n rs=>cases rs<;>simp [Ew.ws]
 | _=>simp [Ew.ws]
theorem Ew.vO {e:Ew} (h:e.ok):vO e.row=e.ws:=uz e.ne fun x hx=>(Ew.wk h x hx).1.nb
theorem mH:Ew.row .dn = "done":=by decide +kernel
theorem Ew.ZC {e:Ew} (h:e.ok) (hn:e≠.dn):¬e.row = "done":=fun q=>by
 have e1:=Ew.vO h
 have e2:My.vO (Ew.row .dn)=(["done"]:List Str):=Ew.vO (e:=.dn) True.intro
 rw[q,←mH,e2] at e1
 cases e with
 | dn=>exact hn rfl
 | pt n rs=>cases rs<;>simp [Ew.ws] at e1
 | _=>simp [Ew.ws] at e1
theorem Ew.takes {e:Ew} (h:e.ok) (fr:List Fr) (ls:List Str):gi fr ls e.row=e.take fr ls:=by
 unfold gi
 by_cases hd:e=.dn
 ·subst hd
  rw[if_pos mH]
  rfl
 rw[if_neg (Ew.ZC h hd),Ew.vO h]
 cases e with
 | dn=>exact absurd rfl hd
 | lt a b=>
  have r:=JI h.1 h.2
  have f5:vZ (Ew.lt a b).ws=none:=if_neg (yx (r.take 2) nH.2.2.2.2.2 jI.2.2.2.2.2 (by decide))
  have f6:jK (Ew.lt a b).ws=none:=JM r (by decide) (by decide) (by decide) (by decide)
  have f7:aV (Ew.lt a b).ws=some (a,b):=if_pos (bR r nH.2.2.2.2.1 jI.2.2.2.2.1 (by decide))
  rw[f5]
  dsimp only
  rw[f6]
  dsimp only
  rw[f7]
  rfl
 | mu l w a n r'=>
  obtain⟨t1,t2,t3,t4⟩:=rX h.2.2.2.1 h.2.2.2.2.1
  have hw:Zv [0,0,4,0,7,1,8,0] (Ew.mu l w a n r').ws:=.cons (wn h.1) (.cons (wn h.2.1) (.cons (wl (k:=1) rfl) (.cons (wn h.2.2.1) (.cons (wl (k:=4) rfl) (.cons ⟨t1,t3,t4⟩ (.cons (wl (k:=5) rfl) (.cons (wn h.2.2.2.2.2) .nil)))))))
  have r:=hw.Vb
  have f5:vZ (Ew.mu l w a n r').ws=none:=r.part (by decide)
  have f6:jK (Ew.mu l w a n r').ws=some (0,l,w,a,n,r'):=by
   unfold jK
   rw[if_pos (bR r nH.1 jI.1 (by decide))]
   show some ((0:Int),l,w,a,y1 (Str.ofString (toString n)),r')=_
   rw[t2]
  rw[f5]
  dsimp only
  rw[f6]
  rfl
 | my l w a=>
  obtain⟨k,hk,hu⟩:=wu h.2.1
  have hw:Zv [0,k,5,0] (Ew.my l w a).ws:=.cons (wn h.1) (.cons hu (.cons (wl (k:=2) rfl) (.cons (wn h.2.2) .nil)))
  have r:=hw.Vb
  have hdd:∀j,j=0∨j=3→(jD [0,j,5,0] mT=false∧jD [0,j,5,0] bt=true∧uB [0,j,5,0]=false):=by
   rintro j (rfl | rfl)<;>decide
  obtain⟨d1,d2,d4⟩:=hdd k hk
  have f5:vZ (Ew.my l w a).ws=none:=r.part d4
  have f6:jK (Ew.my l w a).ws=some ((1:Int),l,w,a,(0:Int),("" : Str)):=by
   unfold jK
   rw[if_neg (yx r nH.1 jI.1 d1),if_pos (bR r nH.2.1 jI.2.1 d2)]
   rfl
  rw[f5]
  dsimp only
  rw[f6]
  rfl
 | bn l w a r'=>
  obtain⟨k,hk,hu⟩:=wu h.2.1
  have hw:Zv [0,k,5,6,0,8,0] (Ew.bn l w a r').ws:=.cons (wn h.1) (.cons hu (.cons (wl (k:=2) rfl) (.cons (wl (k:=3) rfl) (.cons (wn h.2.2.1) (.cons (wl (k:=5) rfl) (.cons (wn h.2.2.2) .nil))))))
  have r:=hw.Vb
  have hdd:∀j,j=0∨j=3→(jD [0,j,5,6,0,8,0] mT=false∧jD [0,j,5,6,0,8,0] bt=false∧jD [0,j,5,6,0,8,0] ip=true∧uB [0,j,5,6,0,8,0]=false):=by
   rintro j (rfl | rfl)<;>decide
  obtain⟨d1,d2,d3,d4⟩:=hdd k hk
  have f5:vZ (Ew.bn l w a r').ws=none:=r.part d4
  have f6:jK (Ew.bn l w a r').ws=some (2,l,w,a,0,r'):=by
   unfold jK
   rw[if_neg (yx r nH.1 jI.1 d1),if_neg (yx r nH.2.1 jI.2.1 d2),if_pos (bR r nH.2.2.1 jI.2.2.1 d3)]
   rfl
  rw[f5]
  dsimp only
  rw[f6]
  rfl
 | pw l w a r'=>
  obtain⟨k,hk,hu⟩:=wu h.2.1
  have hw:Zv [0,k,7,0,9,0] (Ew.pw l w a r').ws:=.cons (wn h.1) (.cons hu (.cons (wl (k:=4) rfl) (.cons (wn h.2.2.1) (.cons (wl (k:=6) rfl) (.cons (wn h.2.2.2) .nil)))))
  have r:=hw.Vb
  have hdd:∀j,j=0∨j=3→(jD [0,j,7,0,9,0] mT=false∧jD [0,j,7,0,9,0] bt=false∧jD [0,j,7,0,9,0] ip=false∧jD [0,j,7,0,9,0] mQ=true∧uB [0,j,7,0,9,0]=false):=by
   rintro j (rfl | rfl)<;>decide
  obtain⟨d1,d2,d3,d5,d4⟩:=hdd k hk
  have f5:vZ (Ew.pw l w a r').ws=none:=r.part d4
  have f6:jK (Ew.pw l w a r').ws=some (3,l,w,a,0,r'):=by
   unfold jK
   rw[if_neg (yx r nH.1 jI.1 d1),if_neg (yx r nH.2.1 jI.2.1 d2),if_neg (yx r nH.2.2.1 jI.2.2.1 d3),if_pos (bR r nH.2.2.2.1 jI.2.2.2.1 d5)]
   rfl
  rw[f5]
  dsimp only
  rw[f6]
  rfl
 | pt n rs=>
  have f5:vZ (Ew.pt n rs).ws=some (n,rs):=by
   cases rs with
   | nil=>
    have r:pk [12,0] (Ew.pt n []).ws:=Q7 h.1
    unfold vZ
    rw[if_pos (nX r (by decide)),if_pos (show (Ew.pt n []).ws.length=2 from rfl)]
    rfl
   | cons x rs=>
    have h3:Zv [12,0,13] ["part",n,"in"]:=.cons (wl (k:=9) rfl) (.cons (wn h.1) (.cons (wl (k:=10) rfl) .nil))
    have r:pk (p6 (x :: rs).length) (Ew.pt n (x :: rs)).ws:=h3.Vb.append (mi h.2.1).Vb
    have h2:(x :: rs).length≤12:=h.2.2
    have hpat:=WG (x :: rs).length (by omega) (by simp)
    unfold Xm at hpat
    simp only[Bool.and_eq_true,Bool.not_eq_true'] at hpat
    have ha:pd (x :: rs) 12=true:=by
     unfold pd
     rw[decide_eq_true (show 1≤(x :: rs).length by simp),decide_eq_true (show ((x :: rs).length:Int)≤12 by omega)]
     exact List.all_eq_true.mpr h.2.1
    unfold vZ
    have hl:¬(Ew.pt n (x :: rs)).ws.length=2:=by simp [Ew.ws]
    have hdr:(Ew.pt n (x :: rs)).ws.drop 3=x :: rs:=rfl
    rw[if_pos (nX r hpat.2),if_neg hl,hdr,if_neg (fun q=>q.elim (fun q=>q rfl) (fun q=>by rw[ha] at q;cases q))]
    rfl
  rw[f5]
  rfl
section
variable {P:Program} {w:World} {K:PySem.W.Frag} {mg:Str→Option Value} {base:Heap} {t:jT}
end
structure Vy (ps as:List Str) (qR:List (Str × Str)):Prop where
 p1:1≤ps.length
 p2:ps.length≤4
 a1:1≤as.length
 a2:as.length≤6
 r1:1≤qR.length
 r2:qR.length≤12
 pn:∀x∈ps,qZ x=true
 an:∀x∈as,qZ x=true
 rn:∀mn∈qR,fF mn
 nd:(ps ++ as ++ qR.map (·.2)).Nodup
noncomputable def mj (mn:Str × Str):Str:=yD [mn.1,mn.2]
noncomputable def rowsOf (ps as:List Str) (qR:List (Str × Str)) (evs:List Ew):List Str:=yD ("parties" :: ps) :: yD ("acts" :: as) :: (qR.map mj ++ evs.map Ew.row)
theorem tY {x:Str} {ns:List Str} (hx:x∈(["parties","acts"]:List Str)) (hn:∀y∈ns,qZ y=true):vO (yD (x :: ns))=x :: ns:=by
 refine uz (by simp) fun y hy=>?_
 rcases List.mem_cons.mp hy with rfl | hy
 ·simp only[List.mem_cons,List.not_mem_nil,or_false] at hx
  rcases hx with rfl | rfl
  ·exact(iY _ (by simp)).1
  ·exact(iY _ (by simp)).1
 ·exact i7 (hn y hy)
theorem a8 {ns:List Str} (hn:∀y∈ns,qZ y=true):ns.all qZ=true:=List.all_eq_true.mpr hn
theorem dv {x:Str} {ns:List Str} {m:Int} (h1:1≤ns.length) (hn:∀y∈ns,qZ y=true) (hm:(ns.length:Int)≤m):km (x :: ns) x m=ns:=by
 unfold km pd
 rw[List.drop_one,List.tail_cons,a8 hn,decide_eq_true h1,show wd (x :: ns) 0=x from rfl,decide_eq_true hm,if_neg (by simp)]
theorem lG:∀x∈jA,32∉x.cps.toList∧59∉x.cps.toList∧x.length≤4∧x≠"part"∧x≠"done":=by decide +kernel
theorem Ki {mn:Str × Str} (h:fF mn):vO (mj mn)=[mn.1,mn.2]:=by
 refine uz (by simp) fun y hy=>?_
 simp only[List.mem_cons,List.not_mem_nil,or_false] at hy
 rcases hy with rfl | rfl
 ·exact(lG _ h.1).1
 ·exact i7 h.2
theorem Zu {mn:Str × Str} (h:fF mn):bb (vO (mj mn))=some mn:=by
 rw[Ki h]
 unfold bb
 rw[if_pos ⟨rfl,by rw[dQ];exact decide_eq_true h.1,h.2⟩]
 rfl
theorem Zm {e:Ew} (h:e.ok):bb (vO e.row)=none:=by
 rw[Ew.vO h]
 unfold bb
 refine if_neg fun q=>?_
 have hp:("part" : Str)∉jA:=by decide +kernel
 have two:∀{x y:Str} {r:List Str},1≤r.length→¬(x :: y :: r).length=2:=fun {x y r} h=>by simp only[List.length_cons];omega
 cases e with
 | pt n rs=>
  cases rs with
  | nil=>
   have:=q.2.1
   rw[dQ] at this
   exact hp (of_decide_eq_true this)
  | cons x rs=>exact two (by simp) q.1
 | dn=>exact absurd q.1 (by simp [Ew.ws])
 | lt a b=>exact two (by simp) q.1
 | mu l w a n r=>exact two (by simp) q.1
 | my l w a=>exact two (by simp) q.1
 | bn l w a r=>exact two (by simp) q.1
 | pw l w a r=>exact two (by simp) q.1
theorem uT {taken:List Str} {evs:List Ew} (he:∀e∈evs,e.ok):∀{qR found:List (Str × Str)},(∀mn∈qR,fF mn)→(taken ++ (found ++ qR).map (·.2)).Nodup→found ++ qR≠[]→found.length + qR.length≤12→
  xr taken found (qR.map mj ++ evs.map Ew.row)=.ok (found ++ qR)
 | [],found,_,_,hne,hf=>by
  rw[List.append_nil] at hne
  rw[List.map_nil,List.nil_append,List.append_nil]
  cases evs with
  | nil=>simp only[List.map_nil,xr,if_neg hne]
  | cons e r=>
   rw[List.map_cons,xr,Zm (he e List.mem_cons_self)]
   dsimp only
   rw[if_neg hne]
 | mn :: r,found,hr,hnd,hne,hf=>by
  have e:found ++ mn :: r=(found ++ [mn]) ++ r:=by simp
  rw[e] at hnd hne
  rw[List.map_cons,List.cons_append,xr,Zu (hr mn List.mem_cons_self)]
  dsimp only
  have hnd1:(taken ++ (found ++ [mn]).map (·.2)).Nodup:=by
   rw[List.map_append,←List.append_assoc] at hnd
   exact(List.nodup_append.mp hnd).1
  simp only[List.length_cons] at hf
  rw[if_neg (fun z=>z.elim (fun z=>by omega) (fun z=>z hnd1)),uT he (fun x hx=>hr x (List.mem_cons_of_mem _ hx)) hnd hne (by rw[List.length_append];simp only[List.length_cons,List.length_nil];omega),e]
theorem JT {ps as:List Str} {qR:List (Str × Str)} {evs:List Ew} (h:Vy ps as qR) (he:∀e∈evs,e.ok) :
  gZ (rowsOf ps as qR evs)=match KR (rowsOf ps as qR evs).length (yL (2 + qR.length) (evs.map Ew.row) [("whole",[],[])] []) with
   | .error n=>.error n
   | .ok rw=>.ok (ps,as,qR,rw):=by
 have e0:vO (wd (rowsOf ps as qR evs) 0)=("parties" : Str) :: ps:=tY (by simp) h.pn
 have e1:vO (wd (rowsOf ps as qR evs) 1)=("acts" : Str) :: as:=tY (by simp) h.an
 have hlen:(rowsOf ps as qR evs).length=2 + qR.length + evs.length:=by unfold rowsOf;simp only[List.length_cons,List.length_append,List.length_map];omega
 have nd:=h.nd
 have nd2:(ps ++ as).Nodup:=(List.nodup_append.mp nd).1
 have nd1:ps.Nodup:=(List.nodup_append.mp nd2).1
 have h1:=h.p1;have h2:=h.p2;have h3:=h.a1;have h4:=h.a2;have h5:=h.r1;have h6:=h.r2
 have nps:ps≠[]:=fun z=>by rw[z] at h1;simp at h1
 have nas:as≠[]:=fun z=>by rw[z] at h3;simp at h3
 have nrm:qR≠[]:=fun z=>by rw[z] at h5;simp at h5
 have hn0:vY (rowsOf ps as qR evs) 0 "parties" 4 []=some ps:=by
  unfold vY
  rw[if_neg (by omega),e0]
  dsimp only
  rw[dv h.p1 h.pn (by omega),if_neg (fun z=>z.elim nps (fun z=>z (by simpa using nd1)))]
 have hn1:vY (rowsOf ps as qR evs) 1 "acts" 6 ps=some as:=by
  unfold vY
  rw[if_neg (by omega),e1]
  dsimp only
  rw[dv h.a1 h.an (by omega),if_neg (fun z=>z.elim nas (fun z=>z nd2))]
 have hrr:xr (ps ++ as) [] ((rowsOf ps as qR evs).drop 2)=.ok qR:=by
  have:=uT (taken:=ps ++ as) (evs:=evs) he (qR:=qR) (found:=[]) h.rn (by simpa using nd) (by simpa using nrm) (by simpa using h6)
  simpa [rowsOf] using this
 have hdrop:(rowsOf ps as qR evs).drop (2 + qR.length)=evs.map Ew.row:=by
  unfold rowsOf
  rw[show 2 + qR.length=qR.length + 1 + 1 by omega,List.drop_succ_cons,List.drop_succ_cons]
  rw[show qR.length=(qR.map mj).length by rw[List.length_map],List.drop_left]
 unfold gZ
 rw[hn0]
 dsimp only
 rw[hn1]
 dsimp only
 rw[hrr]
 dsimp only
 unfold pS
 rw[hdrop]
 all_goals (cases KR (rowsOf ps as qR evs).length (yL (2 + qR.length) (evs.map Ew.row) [("whole",[],[])] [])<;>rfl)
noncomputable def nR:Nat→List Ew→List Fr→List Str→Except Nat (List Fr)
 | _,[],fr,_=>.ok fr
 | i,e :: r,fr,ls=>if i=90 then .error i else match e.take fr ls with
  | none=>.error i
  | some (fr',ls')=>nR (i + 1) r fr' ls'
theorem nz:∀{evs:List Ew} {i:Nat} {fr:List Fr} {ls:List Str},(∀e∈evs,e.ok)→yL i (evs.map Ew.row) fr ls=nR i evs fr ls
 | [],_,_,_,_=>rfl
 | e :: r,i,fr,ls,h=>by
  rw[List.map_cons,yL,nR,Ew.takes (h e List.mem_cons_self)]
  by_cases q:i=90
  ·rw[if_pos q,if_pos q]
  ·rw[if_neg q,if_neg q]
   cases e.take fr ls with
   | none=>rfl
   | some p=>exact nz fun x hx=>h x (List.mem_cons_of_mem _ hx)
noncomputable def gY:Ew→List Str
 | .mu l _ _ _ _=>[l]
 | .my l _ _=>[l]
 | .bn l _ _ _=>[l]
 | .pw l _ _ _=>[l]
 | .pt n _=>[n]
 | _=>[]
noncomputable def vS (evs:List Ew):List Str:=evs.flatMap gY
noncomputable def dp (d:Nat):Ew→Option Nat
 | .pt _ _=>if d < 6 then some (d + 1) else none
 | .dn=>if 0 < d then some (d - 1) else none
 | _=>some d
noncomputable def eO:Nat→List Ew→Option Nat
 | d,[]=>some d
 | d,e :: r=>(dp d e).bind fun d'=>eO d' r
theorem JJ {d d':Nat} {e:Ew} {fr:List Fr} {ls:List Str} (hd:dp d e=some d') (hf:fr.length=d + 1) (h6:d≤6) (hl:∀x∈gY e,x∉ls):∃fr',e.take fr ls=some (fr',ls ++ gY e)∧fr'.length=d' + 1∧d'≤6:=by
 cases e with
 | lt a b=>
  cases hd
  exact⟨push fr (.lt a b),by simp [Ew.take,gY],by rw[bg];exact hf,h6⟩
 | mu l w a n r=>
  cases hd
  exact⟨_,by rw[Ew.take,if_neg (hl l (by simp [gY]))];rfl,by rw[bg];exact hf,h6⟩
 | my l w a=>
  cases hd
  exact⟨_,by rw[Ew.take,if_neg (hl l (by simp [gY]))];rfl,by rw[bg];exact hf,h6⟩
 | bn l w a r=>
  cases hd
  exact⟨_,by rw[Ew.take,if_neg (hl l (by simp [gY]))];rfl,by rw[bg];exact hf,h6⟩
 | pw l w a r=>
  cases hd
  exact⟨_,by rw[Ew.take,if_neg (hl l (by simp [gY]))];rfl,by rw[bg];exact hf,h6⟩
 | pt n rs=>
  simp only[dp] at hd
  split at hd
  ·cases hd
   exact⟨_,by rw[Ew.take,if_neg (fun z=>z.elim (fun z=>by omega) (hl n (by simp [gY])))];rfl,by simp only[List.length_cons];omega,by omega⟩
  ·cases hd
 | dn=>
  simp only[dp] at hd
  split at hd
  ·cases hd
   match fr,hf with
   | [f],hf=>simp only[List.length_cons,List.length_nil] at hf;omega
   | (n,rs,rows) :: (n2,rs2,rows2) :: fr',hf=>
    exact⟨(n2,rs2,rows2 ++ [.pt n rs rows]) :: fr',by simp [Ew.take,gY],by simp only[List.length_cons] at hf ⊢;omega,by omega⟩
  ·cases hd
theorem Q0:∀{evs:List Ew} {i d d':Nat} {fr:List Fr} {ls:List Str},eO d evs=some d'→fr.length=d + 1→d≤6→(ls ++ vS evs).Nodup→i + evs.length≤90→∃fr',nR i evs fr ls=.ok fr'∧fr'.length=d' + 1
 | [],i,d,d',fr,ls,h,hf,_,_,_=>by cases h;exact⟨fr,rfl,hf⟩
 | e :: r,i,d,d',fr,ls,h,hf,h6,hn,hi=>by
  rw[eO] at h
  cases hd:dp d e with
  | none=>rw[hd] at h;cases h
  | some d1=>
   rw[hd,Option.bind_some] at h
   have hn':((ls ++ gY e) ++ vS r).Nodup:=by
    have:vS (e :: r)=gY e ++ vS r:=by simp [vS]
    rw[this,←List.append_assoc] at hn
    exact hn
   have hl:∀x∈gY e,x∉ls:=fun x hx hs=>by
    have:=(List.nodup_append.mp hn').1
    exact(List.nodup_append.mp this).2.2 x hs x hx rfl
   obtain⟨fr1,e1,l1,s1⟩:=JJ hd hf h6 hl
   simp only[List.length_cons] at hi
   rw[nR,if_neg (by omega),e1]
   exact Q0 h l1 s1 hn' (by omega)
section
variable {P:Program} {w:World} {K:PySem.W.Frag} {mg:Str→Option Value} {base:Heap} {t:jT}
end
noncomputable def NN (c:Int):List Str:=(List.range 104).map fun (k:Nat)=>yo c k
theorem cK (c:Int):(NN c).length=104:=by unfold NN;rw[List.length_map,List.length_range]
theorem pT (c:Int) {i:Nat} (h:i < 104):(NN c).getD i "" = yo c i:=by
 unfold NN
 rw[List.getD_eq_getElem?_getD,List.getElem?_map,List.getElem?_range h]
 rfl
noncomputable def fk (H:Hp) (v:V):Ew→Prop
 | .lt a b=>∃p,v=.ref p∧H p=some (.tup [.str "let",.str a,.str b])
 | .mu l w a n r=>∃p,v=.ref p∧H p=some (.tup [.str "must",.str l,.str w,.str a,.int n,.str r])
 | .my l w a=>∃p,v=.ref p∧H p=some (.tup [.str "may",.str l,.str w,.str a])
 | .bn l w a r=>∃p,v=.ref p∧H p=some (.tup [.str "ban",.str l,.str w,.str a,.str r])
 | .pw l w a r=>∃p,v=.ref p∧H p=some (.tup [.str "power",.str l,.str w,.str a,.str r])
 | .pt n rs=>∃p q,v=.ref p∧H p=some (.tup [.str "part",.str n,.ref q])∧H q=some (.lst (rs.map V.str))
 | .dn=>∃p,v=.ref p∧H p=some (.tup [.str "done"])
theorem fk.same {H H':Hp} {v:V} {e:Ew} (h:fk H v e) (s:qg H H'):fk H' v e:=by
 cases e with
 | pt n rs=>obtain⟨p,q,e,h1,h2⟩:=h;exact⟨p,q,e,s _ _ h1,s _ _ h2⟩
 | lt a b=>obtain⟨p,e,h⟩:=h;exact⟨p,e,s _ _ h⟩
 | mu l w a n r=>obtain⟨p,e,h⟩:=h;exact⟨p,e,s _ _ h⟩
 | my l w a=>obtain⟨p,e,h⟩:=h;exact⟨p,e,s _ _ h⟩
 | bn l w a r=>obtain⟨p,e,h⟩:=h;exact⟨p,e,s _ _ h⟩
 | pw l w a r=>obtain⟨p,e,h⟩:=h;exact⟨p,e,s _ _ h⟩
 | dn=>obtain⟨p,e,h⟩:=h;exact⟨p,e,s _ _ h⟩
noncomputable def ZG (l:Addr) (H:Hp) (v:V):Ew→Prop
 | .pt n rs=>∃p q,v=.ref p∧H p=some (.tup [.str "part",.str n,.ref q])∧H q=some (.lst (rs.map V.str))∧q≠l
 | e=>fk H v e
theorem ZG.ev {l:Addr} {H:Hp} {v:V} {e:Ew} (h:ZG l H v e):fk H v e:=by
 cases e with
 | pt n rs=>obtain⟨p,q,e,h1,h2,_⟩:=h;exact⟨p,q,e,h1,h2⟩
 | _=>exact h
theorem ZG.same {l:Addr} {H H':Hp} {v:V} {e:Ew} (h:ZG l H v e) (s:qg H H'):ZG l H' v e:=by
 cases e with
 | pt n rs=>obtain⟨p,q,e,h1,h2,h3⟩:=h;exact⟨p,q,e,s _ _ h1,s _ _ h2,h3⟩
 | lt a b=>obtain⟨p,e,h⟩:=h;exact⟨p,e,s _ _ h⟩
 | mu l w a n r=>obtain⟨p,e,h⟩:=h;exact⟨p,e,s _ _ h⟩
 | my l w a=>obtain⟨p,e,h⟩:=h;exact⟨p,e,s _ _ h⟩
 | bn l w a r=>obtain⟨p,e,h⟩:=h;exact⟨p,e,s _ _ h⟩
 | pw l w a r=>obtain⟨p,e,h⟩:=h;exact⟨p,e,s _ _ h⟩
 | dn=>obtain⟨p,e,h⟩:=h;exact⟨p,e,s _ _ h⟩
theorem ZG.keeps {l:Addr} {H H':Hp} {v:V} {e:Ew} {xs:List V} (h:ZG l H v e) (k:Keeps l H H') (el:H l=some (.lst xs)):ZG l H' v e:=by
 have ne:∀{p:Addr} {ys:List V},H p=some (.tup ys)→H' p=some (.tup ys):=fun q=>k.look q (fN q el (by intro z;cases z))
 cases e with
 | pt n rs=>obtain⟨p,q,e,h1,h2,h3⟩:=h;exact⟨p,q,e,ne h1,k.look h2 h3,h3⟩
 | lt a b=>obtain⟨p,e,h⟩:=h;exact⟨p,e,ne h⟩
 | mu l w a n r=>obtain⟨p,e,h⟩:=h;exact⟨p,e,ne h⟩
 | my l w a=>obtain⟨p,e,h⟩:=h;exact⟨p,e,ne h⟩
 | bn l w a r=>obtain⟨p,e,h⟩:=h;exact⟨p,e,ne h⟩
 | pw l w a r=>obtain⟨p,e,h⟩:=h;exact⟨p,e,ne h⟩
 | dn=>obtain⟨p,e,h⟩:=h;exact⟨p,e,ne h⟩
noncomputable def W6 (lb:Str) (d:Nat) (e:Ew):Prop:=e.ok∧(gY e=[]∨gY e=[lb])∧(dp d e).isSome=true
noncomputable def iT (K:PySem.W.Frag):Sp:=fun vs H Q _=>∃(a:Addr) (c cell:Int) (lb:Str) (d:Nat),vs=[.ref a,.int cell,.str lb,.int d]∧qI K H a ((NN c).map V.str)∧0≤cell∧qZ lb=true∧∀v e H',qg H H'→(∀l,H l≠none→ZG l H' v e)→W6 lb d e→Q v H'
theorem iM:∀{ys:List V},(∀v∈ys,∃x,v=V.str x∧qZ x=true)→∃xs:List Str,ys=xs.map V.str∧∀x∈xs,qZ x=true
 | [],_=>⟨[],rfl,fun _ z=>(by cases z)⟩
 | y :: ys,h=>by
  obtain⟨x,rfl,hx⟩:=h y List.mem_cons_self
  obtain⟨xs,rfl,hs⟩:=iM fun v hv=>h v (List.mem_cons_of_mem _ hv)
  exact⟨x :: xs,rfl,fun z hz=>(List.mem_cons.mp hz).elim (fun e=>by rw[e];exact hx) (hs z)⟩
theorem oH {ys:List V} (hl:ys.length=3) (h:∀(i:Nat) (v:V),i < 3→ys[i]?=some v→∃x,v=V.str x∧qZ x=true):∃x0 x1 x2,ys=[x0,x1,x2].map V.str∧qZ x0=true∧qZ x1=true∧qZ x2=true:=by
 match ys,hl with
 | [a,b,c],_=>
  obtain⟨x0,rfl,h0⟩:=h 0 a (by decide) rfl
  obtain⟨x1,rfl,h1⟩:=h 1 b (by decide) rfl
  obtain⟨x2,rfl,h2⟩:=h 2 c (by decide) rfl
  exact⟨x0,x1,x2,rfl,h0,h1,h2⟩
section
variable {P:Program} {w:World} {K:PySem.W.Frag} {mg:Str→Option Value} {base:Heap} {t:jT}
theorem x3:qe ["_law_names","_law_cell","_law_label","_law_depth","_law_what","_law_some","_law_who","_law_number","_law_many"] ["_law_names","_law_cell","_law_label","_law_depth"] (z4 xl):=⟨rfl,rfl,rfl,by decide +kernel,rfl,by decide +kernel,by decide +kernel⟩
set_option maxHeartbeats 400000 in
theorem oR (T:Txt K mg t):qi P w K mg base jn 2 t.bA t.bL ["_law_names","_law_cell","_law_label","_law_depth"] (iT K):=by
 have G_w_mix:qi P w K mg base jn 1 t.gp t.gy ["_law_cell","_law_k"] tT:=(fL T).mono (by decide)
 refine T.f9.fn.ok x3 (fun vs H Q E h=>(by obtain⟨_,_,_,_,_,rfl,_⟩:=h;rfl)) (fun cdv A outer s H vs Q E hr h=>?_)
 obtain⟨a,c,cell,lb,d,rfl,hA,hc,hlb,k⟩:=h
 refine⟨_,(z6 (qX (i:=4) x3.nd rfl (Or.inl rfl) (qx jj (pv 1) z7))
   (z6 (fS (i:=5) (osc:=z4 xl) (N:=["_law_names","_law_cell","_law_label","_law_depth","_law_what","_law_some","_law_who","_law_number","_law_many"]) (names:=["_law_names","_law_cell"]) (qD:=[0,1]) rfl rfl rfl x3.nd ⟨rfl,by decide +kernel,by decide +kernel,by decide +kernel,rfl,rfl,by decide +kernel,by decide +kernel⟩ rfl rfl (wY rfl T.yu (z0 z7 z5)) (fun _ _ _=>(qr (qy (K:=K) rfl) (pv 1) (qx jj (qf G_w_mix hr rfl T.jL.mg T.jL.fn.kp T.jL.bd .nil qJ (z0 (pv 2) (z0 (pv 0) z5))) z7) (fun _ _=>rfl))))
   (z6 (qX (i:=6) x3.nd rfl (Or.inl rfl) (qr (qy (K:=K) rfl) (pv 5) z7 (fun _ _=>rfl)))
   (z6 (PS.join (qG (qu jQ (qx jj (qf G_w_mix hr rfl T.jL.mg T.jL.fn.kp T.jL.bd .nil qJ (z0 (pv 1) (z0 z7 z5))) z7) z7 (qt _))
    (z8 (qX (i:=6) x3.nd rfl (Or.inl rfl) qq)) qp))
   (z6 (qX (i:=7) x3.nd rfl (Or.inl rfl) (qx xC z7 (qx jj (qf G_w_mix hr rfl T.jL.mg T.jL.fn.kp T.jL.bd .nil qJ (z0 (pv 1) (z0 z7 z5))) z7)))
   (z6 (PS.join (qG (qu jQ (qx jj (qf G_w_mix hr rfl T.jL.mg T.jL.fn.kp T.jL.bd .nil qJ (z0 (pv 1) (z0 z7 z5))) z7) z7 (qt _))
    (z8 (qX (i:=7) x3.nd rfl (Or.inl rfl) (qx xC z7 (qx jj (qx uj (pv 1) z7) (qx mY (qx XT z7 z7) z7))))) qp))
   (z6 (PS.join (qG (PW.pt (rS (PW.pt (vJ (qu jQ (pv 4) z7 (qt _)) (k7 (qu jQ (pv 4) z7 (qt _))))) (dG (qu uD (pv 3) z7 (qt _)))))
    (z6 (qX (i:=8) x3.nd rfl (Or.inl rfl) (qx jj (qf G_w_mix hr rfl T.jL.mg T.jL.fn.kp T.jL.bd .nil qJ (z0 (pv 1) (z0 z7 z5))) z7))
   (z8 (qw (jN (z0 qq (z0 (pv 2) (z0 (bc (osc:=z4 xl) (N:=["_law_names","_law_cell","_law_label","_law_depth","_law_what","_law_some","_law_who","_law_number","_law_many"]) (names:=["_law_names","_law_cell"]) (qD:=[0,1]) rfl rfl rfl ⟨rfl,by decide +kernel,by decide +kernel,by decide +kernel,rfl,rfl,by decide +kernel,by decide +kernel⟩ (wY rfl T.yu (z0 (pv 8) z5)) (fun _ _ _=>(qr (qy (K:=K) rfl) (pv 1) (qx jj (qf G_w_mix hr rfl T.jL.mg T.jL.fn.kp T.jL.bd .nil qJ (z0 (pv 2) (z0 (qx xC z7 (pv 0)) z5))) z7) (fun _ _=>rfl)))) z5))))))) qp))
   (z6 (PS.join (qG (PW.pt (rS (qu jQ (pv 4) z7 (qt _)) (dG (qu iU (pv 3) z7 (qt _)))))
    (z8 (qw (jN (z0 qq z5)))) qp))
   (z6 (qG (qu uD (pv 4) z7 (qt _))
    (z8 (qw (jN (z0 qq (z0 (qr (qy (K:=K) rfl) (pv 5) z7 (fun _ _=>rfl)) (z0 (qr (qy (K:=K) rfl) (pv 5) z7 (fun _ _=>rfl)) z5)))))) qp)
   (z6 (qG (qu uD (pv 4) z7 (qt _))
    (z8 (qw (jN (z0 qq (z0 (pv 2) (z0 (qr (qy (K:=K) rfl) (pv 5) z7 (fun _ _=>rfl)) (z0 (qr (qy (K:=K) rfl) (pv 5) z7 (fun _ _=>rfl)) (z0 (pv 7) (z0 (qr (qy (K:=K) rfl) (pv 5) z7 (fun _ _=>rfl)) z5))))))))) qp)
   (z6 (qG (qu jQ (pv 4) z7 (qt _))
    (z8 (qw (jN (z0 qq (z0 (pv 2) (z0 (pv 6) (z0 (qr (qy (K:=K) rfl) (pv 5) z7 (fun _ _=>rfl)) z5))))))) qp)
   (z6 (qG (qu jQ (pv 4) z7 (qt _))
    (z8 (qw (jN (z0 qq (z0 (pv 2) (z0 (pv 6) (z0 (qr (qy (K:=K) rfl) (pv 5) z7 (fun _ _=>rfl)) (z0 (qr (qy (K:=K) rfl) (pv 5) z7 (fun _ _=>rfl)) z5)))))))) qp)
   (z8 (qw (jN (z0 qq (z0 (pv 2) (z0 (pv 6) (z0 (qr (qy (K:=K) rfl) (pv 5) z7 (fun _ _=>rfl)) (z0 (qr (qy (K:=K) rfl) (pv 5) z7 (fun _ _=>rfl)) z5)))))))))))))))))))),?_⟩
 have hN:=cK c
 have w0:0≤cell % 9:=Int.emod_nonneg _ (by decide)
 have w1:cell % 9 < 9:=Int.emod_lt_of_pos _ (by decide)
 walk_at "rd"
 refine wB p8 (fun _ _ v=>∃x,v=V.str x∧qZ x=true) (qj (by decide +kernel)) ?_ ?_
 ·intro i y H' Q' hy s' kk
  have hi:i < 3:=by
   have:=(List.getElem?_eq_some_iff.mp hy).1
   simpa using this
  have hy':y=V.int (0 + (i:Int)):=by
   rw[List.getElem?_map,List.getElem?_range (show i < (3:Int).toNat from hi)] at hy
   exact(Option.some.inj hy).symm
  subst hy'
  have x0:0≤yv cell (0 + (i:Int)) % 40:=Int.emod_nonneg _ (by decide)
  have x1:yv cell (0 + (i:Int)) % 40 < 40:=Int.emod_lt_of_pos _ (by decide)
  have hA':=s'.seq hA
  walk_at "rd"
  exact kk _ _ (qg.refl _) ⟨_,rfl,by rw[pT c (by omega)];exact pD c⟩
 intro l5 H1 ys s1 hl5 e1 hlen hp
 obtain⟨x0,x1,x2,rfl,g0,g1,g2⟩:=oH (by simpa using hlen) fun i v hi hv=>hp i (V.int (0 + (i:Int))) v (by rw[List.getElem?_map,List.getElem?_range (show i < (3:Int).toNat from hi)];rfl) hv
 clear hp hlen
 have hA1:=s1.seq hA
 have ex0:ui ([x0,x1,x2].map V.str) 0=some (.str x0):=rfl
 have ex1:ui ([x0,x1,x2].map V.str) 1=some (.str x1):=rfl
 have ex2:ui ([x0,x1,x2].map V.str) 2=some (.str x2):=rfl
 have hX:qI K H1 l5 ([x0,x1,x2].map V.str):=qI.of e1
 refine⟨_,rfl,l5,_,_,_,rfl,rfl,hX,ex0,?_⟩
 refine⟨fun σ' H'=>(∃u,σ'=[some (.ref a),some (.int cell),some (.str lb),some (.int d),some (.int (cell % 9)),some (.ref l5),some (.str u),none,none]∧sf u∧H'=H1)∨False,?_,?_⟩
 ·walk_at "rd"
  refine je (fun _=>?_) (fun _=>.inl ⟨_,rfl,.inl g0,rfl⟩)
  walk_at "rd"
  exact .inl ⟨_,rfl,.inr rfl,rfl⟩
 rintro σ' H2 (⟨u,rfl,hu,rfl⟩ | ⟨⟨⟩⟩)
 walk_at "rd"
 refine⟨fun σ' H'=>(∃n,σ'=[some (.ref a),some (.int cell),some (.str lb),some (.int d),some (.int (cell % 9)),some (.ref l5),some (.str u),some (.int n),none]∧1≤n∧n < 10 ^ 20∧H'=H2)∨False,?_,?_⟩
 ·walk_at "rd"
  refine je (fun _=>?_) (fun _=>.inl ⟨_,rfl,?_,?_,rfl⟩)
  ·walk_at "rd"
   have e20:(10:Int) ^ (Int.toNat 20) - 1=99999999999999999999:=by decide +kernel
   have p0:=Int.emod_nonneg (cell * 48271) (show (99999999999999999999:Int)≠0 by decide)
   have p1:=Int.emod_lt_of_pos (cell * 48271) (show (0:Int) < 99999999999999999999 by decide)
   refine .inl ⟨_,rfl,?_,?_,rfl⟩
   ·show 1≤1 + cell * 48271 % (10 ^ (Int.toNat 20) - 1)
    rw[e20];omega
   ·show 1 + cell * 48271 % (10 ^ (Int.toNat 20) - 1) < 10 ^ 20
    rw[e20];omega
  ·show 1≤1 + yv cell 4 % 5
   omega
  ·show 1 + yv cell 4 % 5 < 10 ^ 20
   omega
 rintro σ' H3 (⟨n,rfl,n1,n2,rfl⟩ | ⟨⟨⟩⟩)
 refine⟨fun σ' H'=>(σ'=[some (.ref a),some (.int cell),some (.str lb),some (.int d),some (.int (cell % 9)),some (.ref l5),some (.str u),some (.int n),none]∧H'=H3)∨False,?_,?_⟩
 ·walk_at "rd"
  refine je (fun _=>pe ?pa) (fun _=>?pb)
  case' pb=>
   walk_at "rd"
   refine je (fun _=>?_) (fun _=>pq (.inl ⟨rfl,rfl⟩))
  all_goals
   walk_at "rd"
   refine je (fun hd=>?_) (fun _=>.inl ⟨rfl,rfl⟩)
   have hd':(d:Int) < 6:=of_decide_eq_true hd
   have m0:0≤yv cell 6 % 13:=Int.emod_nonneg _ (by decide)
   have m1:yv cell 6 % 13 < 13:=Int.emod_lt_of_pos _ (by decide)
   walk_at "rd"
   generalize (yv cell 6 % 13)=m at *
   refine wB p8 (fun _ _ v=>∃x,v=V.str x∧qZ x=true) (qj (by rw[List.length_map,List.length_range];omega)) ?_ ?_
   ·intro i y H' Q' hy s' kk
    have hi:i < m.toNat:=by
     have:=(List.getElem?_eq_some_iff.mp hy).1
     simpa using this
    have hy':y=V.int (0 + (i:Int)):=by
     rw[List.getElem?_map,List.getElem?_range hi] at hy
     exact(Option.some.inj hy).symm
    subst hy'
    have x0:0≤yv cell (7 + (0 + (i:Int))) % 40:=Int.emod_nonneg _ (by decide)
    have x1:yv cell (7 + (0 + (i:Int))) % 40 < 40:=Int.emod_lt_of_pos _ (by decide)
    have hA':=s'.seq hA1
    walk_at "rd"
    exact kk _ _ (qg.refl _) ⟨_,rfl,by rw[pT c (by omega)];exact pD c⟩
   intro l6 H4 ys s4 hl6 e4 hlen hp
   obtain⟨xs,rfl,hxs⟩:=iM (ys:=ys) fun v hv=>by
    obtain⟨i,hi⟩:=List.mem_iff_getElem?.mp hv
    have hi':i < m.toNat:=by
     have:=(List.getElem?_eq_some_iff.mp hi).1
     rw[hlen] at this
     simpa using this
    exact hp i (V.int (0 + (i:Int))) v (by rw[List.getElem?_map,List.getElem?_range hi'];rfl) hi
   have hl':xs.length≤12:=by
    rw[List.length_map,List.length_map,List.length_range] at hlen
    omega
   walk_at "rd"
   intro q H6 s6 hq e6
   exact k (.ref q) (.pt lb xs) H6 ((s1.trans s4).trans s6) (fun l hl=>⟨q,l6,rfl,e6,s6 _ _ e4,fun z=>hl (by rw[←z];exact s1.free hl6)⟩) ⟨⟨hlb,hxs,hl'⟩,.inr rfl,by simp only[dp];rw[if_pos (by omega)];rfl⟩
 rintro σ' H4 (⟨rfl,rfl⟩ | ⟨⟨⟩⟩)
 refine⟨fun σ' H'=>(σ'=[some (.ref a),some (.int cell),some (.str lb),some (.int d),some (.int (cell % 9)),some (.ref l5),some (.str u),some (.int n),none]∧H'=H4)∨False,?_,?_⟩
 ·walk_at "rd"
  refine je (fun _=>?_) (fun _=>pq (.inl ⟨rfl,rfl⟩))
  walk_at "rd"
  refine je (fun hd=>?_) (fun _=>.inl ⟨rfl,rfl⟩)
  have hd':0 < (d:Int):=of_decide_eq_true hd
  walk_at "rd"
  intro q H6 s6 hq e6
  exact k (.ref q) .dn H6 (s1.trans s6) (fun _ _=>⟨q,rfl,e6⟩) ⟨True.intro,.inl rfl,by simp only[dp];rw[if_pos (by omega)];rfl⟩
 rintro σ' H5 (⟨rfl,rfl⟩ | ⟨⟨⟩⟩)
 walk_at "rd"
 refine je (fun _=>?_) (fun _=>?_)
 ·walk_at "rd"
  intro q H6 s6 hq e6
  exact k (.ref q) (.lt x0 x1) H6 (s1.trans s6) (fun _ _=>⟨q,rfl,e6⟩) ⟨⟨g0,g1⟩,.inl rfl,rfl⟩
 walk_at "rd"
 refine je (fun _=>?_) (fun _=>?_)
 ·walk_at "rd"
  intro q H6 s6 hq e6
  exact k (.ref q) (.mu lb x0 x1 n x2) H6 (s1.trans s6) (fun _ _=>⟨q,rfl,e6⟩) ⟨⟨hlb,g0,g1,n1,n2,g2⟩,.inr rfl,rfl⟩
 walk_at "rd"
 refine je (fun _=>?_) (fun _=>?_)
 ·walk_at "rd"
  intro q H6 s6 hq e6
  exact k (.ref q) (.my lb u x1) H6 (s1.trans s6) (fun _ _=>⟨q,rfl,e6⟩) ⟨⟨hlb,hu,g1⟩,.inr rfl,rfl⟩
 walk_at "rd"
 refine je (fun _=>?_) (fun _=>?_)
 ·walk_at "rd"
  intro q H6 s6 hq e6
  exact k (.ref q) (.bn lb u x1 x2) H6 (s1.trans s6) (fun _ _=>⟨q,rfl,e6⟩) ⟨⟨hlb,hu,g1,g2⟩,.inr rfl,rfl⟩
 walk_at "rd"
 intro q H6 s6 hq e6
 exact k (.ref q) (.pw lb u x1 x2) H6 (s1.trans s6) (fun _ _=>⟨q,rfl,e6⟩) ⟨⟨hlb,hu,g1,g2⟩,.inr rfl,rfl⟩
end
structure Yo (evs:List Ew):Prop where
 ok:∀e∈evs,e.ok
 dp:eO 0 evs=some 0
 nd:(vS evs).Nodup
 len:evs.length≤66
theorem rP:∀{e1 e2:List Ew} {d:Nat},eO d (e1 ++ e2)=(eO d e1).bind fun d'=>eO d' e2
 | [],_,_=>rfl
 | e :: r,e2,d=>by
  rw[List.cons_append,eO,eO]
  cases dp d e with
  | none=>rfl
  | some d'=>exact rP (e1:=r)
theorem Vd {d d':Nat} {e:Ew} (h:dp d e=some d') (h6:d≤6):d'≤6:=by
 cases e with
 | pt n rs=>
  simp only[dp] at h
  split at h
  ·cases h;omega
  ·cases h
 | dn=>
  simp only[dp] at h
  split at h
  ·cases h;omega
  ·cases h
 | _=>cases h;exact h6
theorem QG:∀(d:Nat),eO d (List.replicate d Ew.dn)=some 0
 | 0=>rfl
 | d + 1=>by
  rw[List.replicate_succ,eO,dp,if_pos (by omega)]
  exact QG d
theorem uG (e1 e2:List Ew):vS (e1 ++ e2)=vS e1 ++ vS e2:=by unfold vS;rw[List.flatMap_append]
theorem sq:∀(d:Nat),vS (List.replicate d Ew.dn)=[]
 | 0=>rfl
 | d + 1=>by
  rw[List.replicate_succ]
  show gY Ew.dn ++ vS (List.replicate d Ew.dn)=[]
  rw[sq d];rfl
theorem Paired.app {α β:Type} {F:α→β→Prop}:∀{a a':List α} {b b':List β},Paired F a b→Paired F a' b'→Paired F (a ++ a') (b ++ b')
 | [],_,[],_,_,h=>h
 | _ :: _,_,_ :: _,_,.cons h t,q=>.cons h (Paired.app t q)
theorem cQ {α β:Type} {F:α→β→Prop} {a:α} {b:β} (h:F a b):∀n,Paired F (List.replicate n a) (List.replicate n b)
 | 0=>.nil
 | n + 1=>.cons h (cQ h n)
noncomputable def kw:Ew→Str
 | .lt _ _=>"let"
 | .mu _ _ _ _ _=>"must"
 | .my _ _ _=>"may"
 | .bn _ _ _ _=>"ban"
 | .pw _ _ _ _=>"power"
 | .pt _ _=>"part"
 | .dn=>"done"
theorem fk.first {H:Hp} {v:V} {e:Ew} (h:fk H v e):∃p xs,v=.ref p∧H p=some (.tup xs)∧ui xs 0=some (.str (kw e)):=by
 cases e with
 | pt n rs=>obtain⟨p,q,e,h1,h2⟩:=h;exact⟨p,_,e,h1,rfl⟩
 | lt a b=>obtain⟨p,e,h⟩:=h;exact⟨p,_,e,h,rfl⟩
 | mu l w a n r=>obtain⟨p,e,h⟩:=h;exact⟨p,_,e,h,rfl⟩
 | my l w a=>obtain⟨p,e,h⟩:=h;exact⟨p,_,e,h,rfl⟩
 | bn l w a r=>obtain⟨p,e,h⟩:=h;exact⟨p,_,e,h,rfl⟩
 | pw l w a r=>obtain⟨p,e,h⟩:=h;exact⟨p,_,e,h,rfl⟩
 | dn=>obtain⟨p,e,h⟩:=h;exact⟨p,_,e,h,rfl⟩
noncomputable def G4 (b:Bool):Int:=if b=true then 1 else 0
theorem Wd {d d':Nat} {e:Ew} (h:dp d e=some d'):(d:Int) + (if decide (V.str (kw e)=V.str (Str.ofString "part"))=true then (1:Int) else 0) - (if decide (V.str (kw e)=V.str (Str.ofString "done"))=true then (1:Int) else 0)=(d':Nat):=by
 have k1:∀x∈(["let","must","may","ban","power"]:List Str),¬x = "part"∧¬x = "done":=by decide +kernel
 have k2:¬("part" : Str) = "done":=by decide +kernel
 have none:∀{x:Str},x∈(["let","must","may","ban","power"]:List Str)→(d:Int) + (if decide (V.str x=V.str (Str.ofString "part"))=true then (1:Int) else 0) - (if decide (V.str x=V.str (Str.ofString "done"))=true then (1:Int) else 0)=d:=fun {x} hx=>by
  have h1:¬V.str x=V.str (Str.ofString "part"):=fun z=>(k1 x hx).1 (V.str.inj z)
  have h2:¬V.str x=V.str (Str.ofString "done"):=fun z=>(k1 x hx).2 (V.str.inj z)
  rw[decide_eq_false h1,decide_eq_false h2];simp
 cases e with
 | pt n rs=>
  simp only[dp] at h
  split at h
  ·cases h
   have h2:¬V.str (kw (.pt n rs))=V.str (Str.ofString "done"):=fun z=>k2 (V.str.inj z)
   rw[decide_eq_false h2,decide_eq_true (show V.str (kw (.pt n rs))=V.str (Str.ofString "part") from rfl)]
   simp
  ·cases h
 | dn=>
  simp only[dp] at h
  split at h
  ·cases h
   have h2:¬V.str (kw .dn)=V.str (Str.ofString "part"):=fun z=>k2 (V.str.inj z).symm
   rw[decide_eq_false h2,decide_eq_true (show V.str (kw .dn)=V.str (Str.ofString "done") from rfl)]
   simp;omega
  ·cases h
 | lt a b=>cases h;exact none (by simp [kw])
 | mu l w a n r=>cases h;exact none (by simp [kw])
 | my l w a=>cases h;exact none (by simp [kw])
 | bn l w a r=>cases h;exact none (by simp [kw])
 | pw l w a r=>cases h;exact none (by simp [kw])
theorem di {α:Type} (x:α):∀n:Nat,(List.replicate n [x]).flatten=List.replicate n x
 | 0=>rfl
 | n + 1=>by rw[List.replicate_succ,List.flatten_cons,di x n];rfl
theorem cV {c:Int} {I:List Nat} (h:I.Nodup) (hb:∀i∈I,i < 208):(I.map fun (i:Nat)=>yo c (i:Int)).Nodup:=by
 induction I with
 | nil=>simp
 | cons a r ih=>
  rw[List.nodup_cons] at h
  (rw[List.map_cons,List.nodup_cons])
  refine⟨fun hm=>?_,ih h.2 fun i hi=>hb i (List.mem_cons_of_mem _ hi)⟩
  obtain⟨b,hbm,e⟩:=List.mem_map.mp hm
  have ha:=hb a List.mem_cons_self
  have hb':=hb b (List.mem_cons_of_mem _ hbm)
  have:=Kz (c:=c) (k1:=b) (k2:=a) (by omega) (by omega) e
  exact h.1 (by rw[show a=b by omega];exact hbm)
noncomputable def sI (K:PySem.W.Frag):Sp:=fun vs H Q _=>∃(a b:Addr) (c:Int) (ns:List Int),vs=[.ref a,.ref b]∧qI K H a ((NN c).map V.str)∧qI K H b (ns.map V.int)∧ns.length≤63∧∀l H' ws evs,qg H H'→H l=none→H' l=some (.lst ws)→Paired (fk H') ws evs→Yo evs→Q (.ref l) H'
section
variable {P:Program} {w:World} {K:PySem.W.Frag} {mg:Str→Option Value} {base:Heap} {t:jT}
theorem x4:qe ["_law_names","_law_script","_law_base","_law_events_here","_law_depth","_law_number","_law_event_here"] ["_law_names","_law_script"] (z4 xK):=⟨rfl,rfl,rfl,by decide +kernel,rfl,by decide +kernel,by decide +kernel⟩
set_option maxHeartbeats 400000 in
theorem tO (T:Txt K mg t):qi P w K mg base jn 3 t.gh t.y0 ["_law_names","_law_script"] (sI K):=by
 have G_w_cell_at:qi P w K mg base jn 2 t.wz t.vE ["_law_script","_law_k"] (om K):=(fK T).mono (by decide)
 have G_w_event:qi P w K mg base jn 2 t.bA t.bL ["_law_names","_law_cell","_law_label","_law_depth"] (iT K):=(oR T).mono (by decide)
 refine T.bF.fn.ok x4 (fun vs H Q E h=>(by obtain⟨_,_,_,_,rfl,_⟩:=h;rfl)) (fun cdv A outer s H vs Q E hr h=>?_)
 obtain⟨a,b,c,ns,rfl,hA,hS,hl,k⟩:=h
 refine⟨_,(z6 (qX (i:=2) x4.nd rfl (Or.inl rfl) (qx uj (qx jj (qf G_w_cell_at hr rfl T.jF.mg T.jF.fn.kp T.jF.bd .nil qJ (z0 (pv 1) (z0 z7 z5))) z7) z7))
   (z6 (qX (i:=3) x4.nd rfl (Or.inl rfl) (qS z5) bS)
   (z6 (qX (i:=4) x4.nd rfl (Or.inl rfl) z7)
   (z6 (p3 PassesOwn.never rfl (wY rfl T.yu (z0 (qK (jr (K:=K) rfl) rfl T.kL PySem.boot_len (z0 (vz (kN (K:=K) rfl) (pv 1) (vb z7) (vb z7)) z5)) z5)) (kz (i:=5) x4.nd rfl (Or.inl rfl))
    (z6 (qX (i:=6) x4.nd rfl (Or.inl rfl) (qf G_w_event hr rfl T.f9.mg T.f9.fn.kp T.f9.bd .nil qJ (z0 (pv 0) (z0 (qf G_w_cell_at hr rfl T.jF.mg T.jF.fn.kp T.jF.bd .nil qJ (z0 (pv 1) (z0 (qx xC z7 (pv 5)) z5))) (z0 (qr (qy (K:=K) rfl) (pv 0) (qx xC (pv 2) (pv 5)) (fun _ _=>rfl)) (z0 (pv 4) z5))))))
   (z6 (qX (i:=4) x4.nd rfl (Or.inl rfl) (qx mY (qx xC (pv 4) (j4 bO rfl T.cT PyProof.Rows.boot_int (z0 (va jQ (qr (qT (K:=K) rfl) (pv 6) z7 (fun _ _=>rfl)) qq (qt _)) z5))) (j4 bO rfl T.cT PyProof.Rows.boot_int (z0 (va jQ (qr (qT (K:=K) rfl) (pv 6) z7 (fun _ _=>rfl)) qq (qt _)) z5))))
   (z8 (j0 (kh PySem.F.plainAttrs_list PySem.F.slot_list_append PySem.F.type_list_append xu (pv 3) (z0 (pv 6) z5)))))))
   (z8 (qw (qx gI (pv 3) (qx oO (qS (z0 (jN (z0 qq z5)) z5)) (pv 4))))))))),?_⟩
 have hN:=cK c
 refine⟨_,rfl,b,2,ns,rfl,hS,by decide,?_⟩
 have b0:0≤wA ns 2 % 2:=Int.emod_nonneg _ (by decide)
 have b1:wA ns 2 % 2 < 2:=Int.emod_lt_of_pos _ (by decide)
 obtain⟨bs,ebs,hbs⟩:∃bs:Nat,wA ns 2 % 2 * 22=bs∧bs≤22:=⟨(wA ns 2 % 2 * 22).toNat,by omega,by omega⟩
 walk_at "rd"
 intro le H1 s1 hle e1
 walk_at "rd"
 intro l2 H2 s2 hl2 e2
 refine⟨l2,_,rfl,.inl (qI.of e2),?_⟩
 have hcl:(bB (ns.map V.int) (some 3) (some 63)).length≤60:=by
  show (bB (ns.map V.int) (some ((3:Nat):Int)) (some ((63:Nat):Int))).length≤60
  unfold bB
  rw[HT.pz,HT.pz,List.length_take,List.length_drop,List.length_map]
  omega
 generalize hm:(bB (ns.map V.int) (some 3) (some 63)).length=m at *
 refine⟨_,rfl,by omega,by omega,?_⟩
 have emt:((m:Int)).toNat=m:=Int.toNat_natCast m
 rw[emt]
 refine b7 (lo:=0) (n:=m) (fun i σ H'=>∃(ws:List V) (evs:List Ew) (I:List Nat) (d:Nat) (v5 v6:Option V),σ=[some (.ref a),some (.ref b),some (.int bs),some (.ref le),some (.int d),v5,v6]∧qg H H'∧H' le=some (.lst ws)∧Paired (ZG le H') ws evs∧(∀e∈evs,e.ok)∧eO 0 evs=some d∧d≤6∧evs.length=i∧vS evs=I.map (fun (j:Nat)=>yo c (j:Int))∧I.Nodup∧∀x∈I,x < bs + i)
  ⟨[],[],[],0,none,none,by rw[←ebs];rfl,s1.trans s2,s2 _ _ e1,.nil,fun _ z=>(by cases z),rfl,by omega,rfl,rfl,by simp,fun _ z=>(by cases z)⟩ ?_ ?_
 ·rintro i σ H3 hi ⟨ws,evs,I,d,v5,v6,rfl,s3,e3,hP,jg,hdp,h6,hlen,hlab,hnd,hI⟩
  have hA3:=s3.seq hA
  have hS3:=s3.seq hS
  have hm':i < m:=by omega
  walk_at "rd"
  refine⟨b,3 + (0 + (i:Int)),ns,rfl,hS3,by omega,?_⟩
  have hix:ui ((NN c).map V.str) ((bs:Int) + (0 + (i:Int)))=some (.str (yo c ((bs + i:Nat):Int))):=by
   rw[ba (by omega) (by omega),show ((bs:Int) + (0 + (i:Int))).toNat=bs + i by omega,pT c (by omega)]
  refine⟨_,rfl,_,rfl,_,rfl,_,_,rfl,rfl,a,_,_,_,rfl,rfl,hA3,hix,?_⟩
  refine⟨_,rfl,a,c,_,_,d,rfl,hA3,(JR ns _).1,pD c,fun v e H4 s4 he hg=>?_⟩
  obtain⟨g1,g2,g3⟩:=hg
  obtain⟨d',ed⟩:=Option.isSome_iff_exists.mp g3
  have hF:ZG le H4 v e:=he le (by rw[e3];intro z;cases z)
  obtain⟨p,xs,rfl,ep,ex⟩:=hF.ev.first
  refine⟨_,rfl,_,rfl,p,_,_,_,rfl,rfl,yT.of ep,ex,?_⟩
  walk_at "rd"
  refine .inr ⟨_,rfl,?_⟩
  walk_at "rd"
  refine⟨p,_,_,_,rfl,rfl,yT.of ep,ex,?_⟩
  walk_at "rd"
  refine .inr ⟨_,rfl,?_⟩
  walk_at "rd"
  have e4:=s4 _ _ e3
  refine⟨le,_,_,rfl,rfl,e4,qj (by have:=Paired.length hP;omega),?_⟩
  intro H5 k5 e5
  have sB:qg H H5:=k5.put (s3.trans s4) hle
  have hd6:d'≤6:=Vd ed h6
  refine⟨ws ++ [.ref p],evs ++ [e],if gY e=[] then I else I ++ [bs + i],d',_,_,by rw[←Wd ed];rfl,sB,e5,Paired.snoc (Paired.imp' (fun _ _ z=>(z.same s4).keeps k5 e4) hP) (hF.keeps k5 e4),fun x hx=>?_,by rw[rP,hdp];show (dp d e).bind _=_;rw[ed];rfl,hd6,by rw[List.length_append,hlen];rfl,?_,?_,fun x hx=>?_⟩
  ·(rcases List.mem_append.mp hx with hx | hx)
   ·exact jg x hx
   ·rw[List.mem_singleton.mp hx];exact g1
  ·rw[uG,hlab]
   have e1:vS [e]=gY e:=by simp [vS]
   rw[e1]
   rcases g2 with g2 | g2
   ·rw[if_pos g2,g2,List.append_nil]
   ·rw[if_neg (by rw[g2];simp),g2,List.map_append];rfl
  ·split
   ·exact hnd
   ·rw[List.nodup_append]
    exact⟨hnd,by simp,fun x hx y hy z=>by have:=hI x hx;rw[List.mem_singleton.mp hy] at z;omega⟩
  ·split at hx
   ·have:=hI x hx;omega
   ·(rcases List.mem_append.mp hx with hx | hx)
    ·have:=hI x hx;omega
    ·rw[List.mem_singleton.mp hx];omega
 ·rintro σ H3 ⟨ws,evs,I,d,v5,v6,rfl,s3,e3,hP,jg,hdp,h6,hlen,hlab,hnd,hI⟩
  walk_at "rd"
  intro tq H4 s4 htq e4
  walk_at "rd"
  intro lq H5 s5 hlq e5
  refine⟨_,rfl,lq,(d:Int),_,rfl,rfl,e5,by omega,by omega,qj (by simp only[List.length_cons,List.length_nil,Int.toNat_natCast];omega),fun q hq=>?_⟩
  have s6:qg H5 (upd H5 q (.lst (List.replicate ((d:Nat):Int).toNat [V.ref tq]).flatten)):=qg.rF hq
  have hwl:ws.length=evs.length:=Paired.length hP
  refine⟨le,q,_,_,rfl,rfl,s6 _ _ (s5 _ _ (s4 _ _ e3)),qv,qj (by rw[len_rep];simp only[List.length_cons,List.length_nil,Int.toNat_natCast];omega),?_⟩
  intro l7 H7 s7 hl7 e7
  have sA:=(((s3.trans s4).trans s5).trans s6).trans s7
  rw[Int.toNat_natCast,di] at e7
  refine k l7 H7 _ (evs ++ List.replicate d .dn) sA ((((s3.trans s4).trans s5).trans s6).free hl7) e7 (Paired.app (Paired.imp' (fun _ _ z=>(z.ev).same (((s4.trans s5).trans s6).trans s7)) hP) (cQ (show fk H7 (.ref tq) .dn from ⟨tq,rfl,((s5.trans s6).trans s7) _ _ e4⟩) d)) ⟨fun e he=>?_,?_,?_,?_⟩
  ·(rcases List.mem_append.mp he with he | he)
   ·exact jg e he
   ·rw[(List.mem_replicate.mp he).2];exact True.intro
  ·rw[rP,hdp];exact QG d
  ·rw[uG,sq,List.append_nil,hlab];exact cV hnd fun x hx=>by have:=hI x hx;omega
  ·rw[List.length_append,List.length_replicate];omega
end
theorem Jo {α:Type} (f:α→V) (xs:List α) (n m:Nat) (h:n + m≤xs.length):bB (xs.map f) (some (n:Int)) (some ((n + m:Nat):Int))=((xs.drop n).take m).map f:=by
 unfold bB
 rw[HT.pz,HT.pz,List.length_map,Nat.min_eq_left (show n≤xs.length by omega),Nat.min_eq_left (show n + m≤xs.length from h),←List.map_drop,←List.map_take,Nat.add_sub_cancel_left]
theorem Z5 (c:Int) {n m:Nat} (h:n + m≤104):((NN c).drop n).take m=(List.range m).map fun (j:Nat)=>yo c ((n + j:Nat):Int):=by
 apply List.ext_getElem?
 intro i
 by_cases q:i < m
 ·rw[List.getElem?_take_of_lt q,List.getElem?_drop,List.getElem?_map,List.getElem?_range q]
  unfold NN
  rw[List.getElem?_map,List.getElem?_range (by omega)]
  rfl
 ·rw[List.getElem?_eq_none_iff.mpr (by rw[List.length_take];omega),List.getElem?_eq_none_iff.mpr (by rw[List.length_map,List.length_range];omega)]
structure GN (c:Int) (ps as:List Str) (qR:List (Str × Str)):Prop where
 hd:Vy ps as qR
 ps:ps=(List.range ps.length).map fun (j:Nat)=>yo c (j:Int)
 as:as=(List.range as.length).map fun (j:Nat)=>yo c ((4 + j:Nat):Int)
 qR:qR.map (·.2)=(List.range qR.length).map fun (j:Nat)=>yo c ((10 + j:Nat):Int)
theorem Qx (c:Int) {n0 n1 n2:Nat} (h0:n0≤4) (h1:n1≤6) (h2:n2≤12):((List.range n0).map (fun (j:Nat)=>yo c (j:Int)) ++ (List.range n1).map (fun (j:Nat)=>yo c ((4 + j:Nat):Int)) ++ (List.range n2).map (fun (j:Nat)=>yo c ((10 + j:Nat):Int))).Nodup:=by
 have:=cV (c:=c) (I:=List.range n0 ++ (List.range n1).map (4 + ·) ++ (List.range n2).map (10 + ·)) ?_ ?_
 ·rw[List.map_append,List.map_append,List.map_map,List.map_map] at this
  exact this
 ·rw[List.nodup_append,List.nodup_append]
  refine⟨⟨List.nodup_range,?_,?_⟩,?_,?_⟩
  ·exact List.Pairwise.map _ (fun a b h z=>h (by omega)) List.nodup_range
  ·intro x hx y hy z
   obtain⟨j,_,rfl⟩:=List.mem_map.mp hy
   have:=List.mem_range.mp hx
   omega
  ·exact List.Pairwise.map _ (fun a b h z=>h (by omega)) List.nodup_range
  ·intro x hx y hy z
   obtain⟨j,_,rfl⟩:=List.mem_map.mp hy
   (rcases List.mem_append.mp hx with hx | hx)
   ·have:=List.mem_range.mp hx;omega
   ·obtain⟨j',hj',rfl⟩:=List.mem_map.mp hx
    have:=List.mem_range.mp hj'
    omega
 ·intro x hx
  (rcases List.mem_append.mp hx with hx | hx)
  ·(rcases List.mem_append.mp hx with hx | hx)
   ·have:=List.mem_range.mp hx;omega
   ·obtain⟨j',hj',rfl⟩:=List.mem_map.mp hx
    have:=List.mem_range.mp hj'
    omega
  ·obtain⟨j',hj',rfl⟩:=List.mem_map.mp hx
   have:=List.mem_range.mp hj'
   omega
theorem nD (c k:Int):(yo c k).length≤8:=(kx (pD c)).2.1
noncomputable def oS (H:Hp) (p:Addr) (ps as:List Str) (qR:List (Str × Str)):Prop:=∃lp la lr vs,H p=some (.tup [.ref lp,.ref la,.ref lr])∧H lp=some (.lst (ps.map V.str))∧H la=some (.lst (as.map V.str))∧H lr=some (.lst vs)∧Paired (vk H) vs qR
theorem oS.same {H H':Hp} {p:Addr} {ps as:List Str} {qR:List (Str × Str)} (h:oS H p ps as qR) (s:qg H H'):oS H' p ps as qR:=by
 obtain⟨lp,la,lr,vs,h1,h2,h3,h4,h5⟩:=h
 exact⟨lp,la,lr,vs,s _ _ h1,s _ _ h2,s _ _ h3,s _ _ h4,Paired.imp' (fun _ _ z=>z.same s) h5⟩
noncomputable def Zo (K:PySem.W.Frag):Sp:=fun vs H Q _=>∃(a:Addr) (c cell:Int),vs=[.ref a,.int cell]∧qI K H a ((NN c).map V.str)∧0≤cell∧∀ps as qR p H',GN c ps as qR→qg H H'→H p=none→oS H' p ps as qR→Q (.ref p) H'
noncomputable def WR:List Str:=["calm","sore","end"]
theorem Vs:∀j < 3,WR.getD j ""∈jA:=by decide +kernel
section
variable {P:Program} {w:World} {K:PySem.W.Frag} {mg:Str→Option Value} {base:Heap} {t:jT}
theorem wq:qe ["_law_names","_law_cell","_law_parties","_law_acts","_law_rooms","_law_k"] ["_law_names","_law_cell"] (z4 xJ):=⟨rfl,rfl,rfl,by decide +kernel,rfl,by decide +kernel,by decide +kernel⟩
set_option maxHeartbeats 400000 in
theorem nJ (T:Txt K mg t):qi P w K mg base jn 2 t.gd t.gu ["_law_names","_law_cell"] (Zo K):=by
 have G_w_mix:qi P w K mg base jn 1 t.gp t.gy ["_law_cell","_law_k"] tT:=(fL T).mono (by decide)
 refine T.hU.fn.ok wq (fun vs H Q E h=>(by obtain⟨_,_,_,rfl,_⟩:=h;rfl)) (fun cdv A outer s H vs Q E hr h=>?_)
 obtain⟨a,c,cell,rfl,hA,hc,k⟩:=h
 refine⟨_,(z6 (qX (i:=2) wq.nd rfl (Or.inl rfl) (vz (kN (K:=K) rfl) (pv 0) yO (vb (qx xC z7 (qx jj (pv 1) z7)))))
   (z6 (qX (i:=3) wq.nd rfl (Or.inl rfl) (vz (kN (K:=K) rfl) (pv 0) (vb z7) (vb (qx xC z7 (qx jj (qx vQ (pv 1) z7) z7)))))
   (z6 (qX (i:=4) wq.nd rfl (Or.inl rfl) (qS z5) bS)
   (z6 (p3 PassesOwn.never rfl (wY rfl T.yu (z0 (qx xC z7 (qx jj (qx vQ (pv 1) z7) z7)) z5)) (kz (i:=5) wq.nd rfl (Or.inl rfl))
    (z8 (j0 (kh PySem.F.plainAttrs_list PySem.F.slot_list_append PySem.F.type_list_append xu (pv 4) (z0 (jN (z0 (qr (qy (K:=K) rfl) (qS (z0 qq (z0 qq (z0 qq z5)))) (qx jj (qf G_w_mix hr rfl T.jL.mg T.jL.fn.kp T.jL.bd .nil qJ (z0 (pv 1) (z0 (pv 5) z5))) z7) (fun _ _=>rfl)) (z0 (qr (qy (K:=K) rfl) (pv 0) (qx xC z7 (pv 5)) (fun _ _=>rfl)) z5))) z5)))))
   (z8 (qw (jN (z0 (pv 2) (z0 (pv 3) (z0 (pv 4) z5)))))))))),?_⟩
 have hN:=cK c
 have m0a:0≤cell % 4:=Int.emod_nonneg _ (by decide)
 have m0b:cell % 4 < 4:=Int.emod_lt_of_pos _ (by decide)
 have m1a:0≤cell / 4 % 6:=Int.emod_nonneg _ (by decide)
 have m1b:cell / 4 % 6 < 6:=Int.emod_lt_of_pos _ (by decide)
 have m2a:0≤cell / 24 % 12:=Int.emod_nonneg _ (by decide)
 have m2b:cell / 24 % 12 < 12:=Int.emod_lt_of_pos _ (by decide)
 obtain⟨n0,en0⟩:=Int.eq_ofNat_of_zero_le (show 0≤1 + cell % 4 by omega)
 obtain⟨n1,en1⟩:=Int.eq_ofNat_of_zero_le (show 0≤1 + cell / 4 % 6 by omega)
 obtain⟨n2,en2⟩:=Int.eq_ofNat_of_zero_le (show 0≤1 + cell / 24 % 12 by omega)
 walk_at "rd"
 intro lp H1 s1 hlp e1
 have e1':H1 lp=some (.lst (((NN c).take n0).map V.str)):=by rw[←tG V.str (NN c) n0,←en0];exact e1
 clear e1
 have hA1:=s1.seq hA
 walk_at "rd"
 intro la H2 s2 hla e2
 have e2':H2 la=some (.lst ((((NN c).drop 4).take n1).map V.str)):=by
  rw[←Jo V.str (NN c) 4 n1 (by omega),show ((4 + n1:Nat):Int)=5 + cell / 4 % 6 by omega]
  exact e2
 clear e2
 walk_at "rd"
 intro lr H3 s3 hlr e3
 walk_at "rd"
 have ent:(1 + cell / 24 % 12).toNat=n2:=by omega
 have sA:qg H H3:=(s1.trans s2).trans s3
 have hlr0:H lr=none:=(s1.trans s2).free hlr
 have ne1:lp≠lr:=qk (s2 _ _ e1') hlr
 have ne2:la≠lr:=qk e2' hlr
 refine b7 (lo:=0) (n:=(1 + cell / 24 % 12).toNat) (fun i σ H'=>∃(vs:List V) (qR:List (Str × Str)) (v5:Option V),σ=[some (.ref a),some (.int cell),some (.ref lp),some (.ref la),some (.ref lr),v5]∧qg H H'∧H' lr=some (.lst vs)∧H' lp=some (.lst (((NN c).take n0).map V.str))∧H' la=some (.lst ((((NN c).drop 4).take n1).map V.str))∧Paired (vk H') vs qR∧(∀mn∈qR,fF mn)∧qR.map (·.2)=(List.range i).map (fun (j:Nat)=>yo c ((10 + j:Nat):Int)))
  ⟨[],[],none,rfl,sA,e3,s3 _ _ (s2 _ _ e1'),s3 _ _ e2',.nil,fun _ z=>(by cases z),rfl⟩ ?_ ?_
 ·rintro i σ H4 hi ⟨vs,qR,v5,rfl,s4,e4,p4,a4,hP,h4,g4⟩
  rw[ent] at hi
  have hA4:=s4.seq hA
  have x0:0≤yv cell (0 + (i:Int)) % 3:=Int.emod_nonneg _ (by decide)
  have x1:yv cell (0 + (i:Int)) % 3 < 3:=Int.emod_lt_of_pos _ (by decide)
  have hlen:qR.length=i:=by have:=congrArg List.length g4;simpa using this
  have ei:(NN c).getD (10 + (0 + (i:Int))).toNat (Str.ofString "")=yo c ((10 + i:Nat):Int):=by
   rw[show (10 + (0 + (i:Int))).toNat=10 + i by omega];exact pT c (by omega)
  walk_at "rd"
  intro l8 H8 s8 hl8 e8
  have e8':H8 l8=some (.lst (WR.map V.str)):=e8
  clear e8
  have hA8:=s8.seq hA4
  refine⟨_,rfl,_,rfl,cell,_,rfl,by omega,by omega,?_⟩
  refine⟨_,_,rfl,rfl,(show (0:Int) < 3 by decide),?_⟩
  refine⟨l8,_,_,_,rfl,rfl,qI.of e8',ba x0 (show _ < (3:Int) from x1),?_⟩
  refine⟨_,rfl,_,rfl,_,_,rfl,rfl,a,_,_,_,rfl,rfl,hA8,ba (by omega) (by omega),?_⟩
  rw[ei]
  have hm:=Vs (yv cell (0 + (i:Int)) % 3).toNat (by omega)
  walk_at "rd"
  intro q H9 s9 hq e9
  have e49:=s9 _ _ (s8 _ _ e4)
  refine⟨lr,_,_,rfl,rfl,e49,qj (by have:=Paired.length hP;omega),?_⟩
  intro H10 k10 e10
  have hP9:Paired (vk H9) (vs ++ [.ref q]) (qR ++ [(WR.getD (yv cell (0 + (i:Int)) % 3).toNat "",yo c ((10 + i:Nat):Int))]):=Paired.snoc (Paired.imp' (fun _ _ z=>z.same (s8.trans s9)) hP) ⟨q,rfl,e9⟩
  refine⟨_,_,_,rfl,k10.put ((s4.trans s8).trans s9) hlr0,e10,k10.look (s9 _ _ (s8 _ _ p4)) ne1,k10.look (s9 _ _ (s8 _ _ a4)) ne2,Paired.imp' (fun _ _ z=>z.keeps k10 e49) hP9,fun mn hmn=>?_,?_⟩
  ·(rcases List.mem_append.mp hmn with q | q)
   ·exact h4 mn q
   ·rw[List.mem_singleton.mp q];exact⟨hm,pD c⟩
  ·rw[List.map_append,g4,List.range_succ,List.map_append];rfl
 ·rintro σ H4 ⟨vs,qR,v5,rfl,s4,e4,p4,a4,hP,h4,g4⟩
  rw[ent] at g4
  have hlen:qR.length=n2:=by have:=congrArg List.length g4;simpa using this
  have lps:((NN c).take n0).length=n0:=by rw[List.length_take,hN];omega
  have las:(((NN c).drop 4).take n1).length=n1:=by rw[List.length_take,List.length_drop,hN];omega
  have e0:(NN c).take n0=(List.range n0).map fun (j:Nat)=>yo c (j:Int):=by
   have:=Z5 c (n:=0) (m:=n0) (by omega)
   rw[List.drop_zero] at this
   rw[this]
   exact List.map_congr_left fun j _=>by rw[Nat.zero_add]
  have e1:=Z5 c (n:=4) (m:=n1) (by omega)
  have nd:=Qx c (n0:=n0) (n1:=n1) (n2:=n2) (by omega) (by omega) (by omega)
  walk_at "rd"
  intro q H5 s5 hq e5
  refine k _ _ qR q H5 ⟨⟨by omega,by omega,by omega,by omega,by omega,by omega,fun x hx=>?_,fun x hx=>?_,h4,by rw[g4,e0,e1];exact nd⟩,by rw[lps];exact e0,by rw[las];exact e1,by rw[hlen];exact g4⟩ (s4.trans s5) (s4.free hq) ⟨lp,la,lr,vs,e5,s5 _ _ p4,s5 _ _ a4,s5 _ _ e4,Paired.imp' (fun _ _ z=>z.same s5) hP⟩
  ·rw[e0] at hx
   obtain⟨j,_,rfl⟩:=List.mem_map.mp hx
   exact pD c
  ·rw[e1] at hx
   obtain⟨j,_,rfl⟩:=List.mem_map.mp hx
   exact pD c
end
theorem nZ:("let " : Str).cps.toList=("let" : Str).cps.toList ++ [32]∧(" be " : Str).cps.toList=32 :: (("be" : Str).cps.toList ++ [32])∧(" " : Str).cps.toList=[32]∧("must " : Str).cps.toList=("must" : Str).cps.toList ++ [32]∧(" by " : Str).cps.toList=32 :: (("by" : Str).cps.toList ++ [32])∧(" else " : Str).cps.toList=32 :: (("else" : Str).cps.toList ++ [32])∧("may " : Str).cps.toList=("may" : Str).cps.toList ++ [32]∧("may not " : Str).cps.toList=("may" : Str).cps.toList ++ 32 :: (("not" : Str).cps.toList ++ [32])∧("by " : Str).cps.toList=("by" : Str).cps.toList ++ [32]∧(" to " : Str).cps.toList=32 :: (("to" : Str).cps.toList ++ [32]):=by decide +kernel
theorem KC (a b:Str):Str.ofString "let " ++ a ++ Str.ofString " be " ++ b=Ew.row (.lt a b):=by
 obtain⟨h1,h2,h3,h4,h5,h6,h7,h8,h9,h10⟩:=nZ
 refine xH ?_
 unfold Ew.row Ew.ws
 rw[join_eq,ql,ql,ql,L2.join_one,cps_append,cps_append,cps_append,h1,h2]
 simp
theorem Ky (l w a s r:Str):l ++ Str.ofString " " ++ w ++ Str.ofString " " ++ Str.ofString "must " ++ a ++ Str.ofString " by " ++ s ++ Str.ofString " else " ++ r=Txt.join " " [l,w,"must",a,"by",s,"else",r]:=by
 obtain⟨h1,h2,h3,h4,h5,h6,h7,h8,h9,h10⟩:=nZ
 refine xH ?_
 rw[join_eq,ql,ql,ql,ql,ql,ql,ql,L2.join_one,cps_append,cps_append,cps_append,cps_append,cps_append,cps_append,cps_append,cps_append,cps_append,h3,h4,h5,h6]
 simp
theorem KN (l w a:Str):l ++ Str.ofString " " ++ w ++ Str.ofString " " ++ Str.ofString "may " ++ a=Ew.row (.my l w a):=by
 obtain⟨h1,h2,h3,h4,h5,h6,h7,h8,h9,h10⟩:=nZ
 refine xH ?_
 unfold Ew.row Ew.ws
 rw[join_eq,ql,ql,ql,L2.join_one,cps_append,cps_append,cps_append,cps_append,cps_append,h3,h7]
 simp
theorem Kg (l w a r:Str):l ++ Str.ofString " " ++ w ++ Str.ofString " " ++ Str.ofString "may not " ++ a ++ Str.ofString " else " ++ r=Ew.row (.bn l w a r):=by
 obtain⟨h1,h2,h3,h4,h5,h6,h7,h8,h9,h10⟩:=nZ
 refine xH ?_
 unfold Ew.row Ew.ws
 rw[join_eq,ql,ql,ql,ql,ql,ql,L2.join_one,cps_append,cps_append,cps_append,cps_append,cps_append,cps_append,cps_append,h3,h6,h8]
 simp
theorem KG (l w a r:Str):l ++ Str.ofString " " ++ w ++ Str.ofString " " ++ Str.ofString "by " ++ a ++ Str.ofString " to " ++ r=Ew.row (.pw l w a r):=by
 obtain⟨h1,h2,h3,h4,h5,h6,h7,h8,h9,h10⟩:=nZ
 refine xH ?_
 unfold Ew.row Ew.ws
 rw[join_eq,ql,ql,ql,ql,ql,L2.join_one,cps_append,cps_append,cps_append,cps_append,cps_append,cps_append,cps_append,h3,h9,h10]
 simp
theorem rV {u:Str} (h:sf u):u.length≤8:=by
 rcases h with h | rfl
 ·exact(kx h).2.1
 ·decide +kernel
theorem ji {u:Str} (h:qZ u=true):u.length≤8:=(kx h).2.1
noncomputable def Xi:Sp:=fun vs H Q _=>∃(v:V) (e:Ew),vs=[v]∧fk H v e∧e.ok∧∀H',qg H H'→Q (.str e.row) H'
section
variable {P:Program} {w:World} {K:PySem.W.Frag} {mg:Str→Option Value} {base:Heap} {t:jT}
theorem cO:qe ["_law_event_here","_law_head"] ["_law_event_here"] (z4 wJ):=⟨rfl,rfl,rfl,by decide +kernel,rfl,by decide +kernel,by decide +kernel⟩
set_option maxHeartbeats 400000 in
theorem QI (T:Txt K mg t):qi P w K mg base jn 1 t.de t.dJ ["_law_event_here"] Xi:=by
 refine T.sm.fn.ok cO (fun vs H Q E h=>(by obtain⟨_,_,rfl,_⟩:=h;rfl)) (fun cdv A outer s H vs Q E hr h=>?_)
 obtain⟨v,e,rfl,hE,jg,k⟩:=h
 refine⟨_,(z6 (qG (qu jQ (qr (qT (K:=K) rfl) (pv 0) z7 (fun _ _=>rfl)) qq (qt _))
    (z8 (qw qq)) qp)
   (z6 (qG (qu jQ (qr (qT (K:=K) rfl) (pv 0) z7 (fun _ _=>rfl)) qq (qt _))
    (z8 (qw (qx qm (qx qm (qx qm qq (qr (qT (K:=K) rfl) (pv 0) z7 (fun _ _=>rfl))) qq) (qr (qT (K:=K) rfl) (pv 0) z7 (fun _ _=>rfl))))) qp)
   (z6 (qG (qu jQ (qr (qT (K:=K) rfl) (pv 0) z7 (fun _ _=>rfl)) qq (qt _))
    (z8 (qw (kh PySem.F.plainAttrs_str PySem.F.slot_str_join PySem.F.type_str_join (fH (K:=K) rfl) qq (z0 (qx gI (qx gI (qS (z0 qq (z0 (qr (qT (K:=K) rfl) (pv 0) z7 (fun _ _=>rfl)) z5))) (qx oO (qS (z0 qq z5)) (j4 bO rfl T.cT PyProof.Rows.boot_int (z0 (va (bI (K:=K) rfl hr.units) (qr (qT (K:=K) rfl) (pv 0) z7 (fun _ _=>rfl)) (qS z5) (qt _)) z5)))) (qr (qT (K:=K) rfl) (pv 0) z7 (fun _ _=>rfl))) z5)))) qp)
   (z6 (qX (i:=1) cO.nd rfl (Or.inl rfl) (qx qm (qx qm (qx qm (qr (qT (K:=K) rfl) (pv 0) z7 (fun _ _=>rfl)) qq) (qr (qT (K:=K) rfl) (pv 0) z7 (fun _ _=>rfl))) qq))
   (z6 (qG (qu jQ (qr (qT (K:=K) rfl) (pv 0) z7 (fun _ _=>rfl)) qq (qt _))
    (z6 (qX (i:=1) cO.nd rfl (Or.inl rfl) (qx qm (qx qm (qx qm (pv 1) qq) (qr (qT (K:=K) rfl) (pv 0) z7 (fun _ _=>rfl))) qq))
   (z8 (qw (qx qm (qx qm (qx qm (pv 1) (j4 lu rfl T.XY PyProof.Rows.boot_str (z0 (qr (qT (K:=K) rfl) (pv 0) z7 (fun _ _=>rfl)) z5))) qq) (qr (qT (K:=K) rfl) (pv 0) z7 (fun _ _=>rfl)))))) qp)
   (z6 (qG (qu jQ (qr (qT (K:=K) rfl) (pv 0) z7 (fun _ _=>rfl)) qq (qt _))
    (z8 (qw (qx qm (qx qm (pv 1) qq) (qr (qT (K:=K) rfl) (pv 0) z7 (fun _ _=>rfl))))) qp)
   (z6 (qG (qu jQ (qr (qT (K:=K) rfl) (pv 0) z7 (fun _ _=>rfl)) qq (qt _))
    (z8 (qw (qx qm (qx qm (qx qm (qx qm (pv 1) qq) (qr (qT (K:=K) rfl) (pv 0) z7 (fun _ _=>rfl))) qq) (qr (qT (K:=K) rfl) (pv 0) z7 (fun _ _=>rfl))))) qp)
   (z8 (qw (qx qm (qx qm (qx qm (qx qm (pv 1) qq) (qr (qT (K:=K) rfl) (pv 0) z7 (fun _ _=>rfl))) qq) (qr (qT (K:=K) rfl) (pv 0) z7 (fun _ _=>rfl)))))))))))),?_⟩
 cases e with
 | dn=>
  obtain⟨p,rfl,ep⟩:=hE
  have:=k H (qg.refl _)
  rw[mH] at this
  walk_at "rd"
  exact this
 | lt a b=>
  obtain⟨p,rfl,ep⟩:=hE
  have:=k H (qg.refl _)
  rw[←KC] at this
  have l1:=ji jg.1
  have l2:=ji jg.2
  walk_at "rd"
  exact this
 | mu l w a n r=>
  obtain⟨p,rfl,ep⟩:=hE
  have:=k H (qg.refl _)
  have er:Ew.row (.mu l w a n r)=_:=(Ky l w a (Str.ofString (toString n)) r).symm
  rw[er] at this
  have l1:=ji jg.1
  have l2:=ji jg.2.1
  have l3:=ji jg.2.2.1
  have l4:=ji jg.2.2.2.2.2
  have n1:=jg.2.2.2.1
  have n2:=jg.2.2.2.2.1
  have l5:=(rX n1 n2).2.2.2
  have l6:=aH (n:=n) (by omega) (by omega)
  walk_at "rd"
  exact this
 | my l w a=>
  obtain⟨p,rfl,ep⟩:=hE
  have:=k H (qg.refl _)
  rw[←KN] at this
  have l1:=ji jg.1
  have l2:=rV jg.2.1
  have l3:=ji jg.2.2
  walk_at "rd"
  exact this
 | bn l w a r=>
  obtain⟨p,rfl,ep⟩:=hE
  have:=k H (qg.refl _)
  rw[←Kg] at this
  have l1:=ji jg.1
  have l2:=rV jg.2.1
  have l3:=ji jg.2.2.1
  have l4:=ji jg.2.2.2
  walk_at "rd"
  exact this
 | pw l w a r=>
  obtain⟨p,rfl,ep⟩:=hE
  have:=k H (qg.refl _)
  rw[←KG] at this
  have l1:=ji jg.1
  have l2:=rV jg.2.1
  have l3:=ji jg.2.2.1
  have l4:=ji jg.2.2.2
  walk_at "rd"
  exact this
 | pt n rs=>
  obtain⟨p,q,rfl,ep,eq⟩:=hE
  have hl12:=jg.2.2
  walk_at "rd"
  intro l1 H1 s1 hl1 e1
  walk_at "rd"
  intro l2 H2 s2 hl2 e2
  walk_at "rd"
  intro l3 H3 s3 hl3 e3
  have sh:SeqAt.shaped (.list (rs.map PyData.str))=true:=x8 fun y hy=>(fu (jg.2.1 y hy)).ok
  have sh0:SeqAt.shaped (.list (([]:List Str).map PyData.str))=true:=x8 (xs:=[]) fun y hy=>by cases hy
  have eq3:=s3 _ _ (s2 _ _ (s1 _ _ eq))
  refine⟨_,_,pj.lst (qI.of eq3) (kB.strs rs),pj.lst (qI.of e3) (kB.strs []),sh,sh0,?_⟩
  rw[fE]
  refine .inr ⟨_,rfl,?_⟩
  have eb:(if (if true=true then !decide (rs=[]) else decide (rs=[]))=true then (1:Int) else 0)=((if rs=[] then 0 else 1:Nat):Int):=by by_cases z:rs=[]<;>simp [z]
  rw[eb]
  have hm:(if rs=[] then 0 else 1:Nat)≤1:=by split<;>decide
  have ew:(Ew.ws (.pt n rs))=(["part",n]:List Str) ++ List.replicate (if rs=[] then 0 else 1:Nat) ("in" : Str) ++ rs:=by cases rs<;>rfl
  generalize (if rs=[] then 0 else 1:Nat)=m at *
  refine⟨l2,_,_,rfl,rfl,s3 _ _ e2,by omega,by omega,qj (by simp only[List.length_cons,List.length_nil,Int.toNat_natCast];omega),fun q4 hq4=>?_⟩
  have s4:qg H3 (upd H3 q4 (.lst (List.replicate ((m:Nat):Int).toNat [V.str (Str.ofString "in")]).flatten)):=qg.rF hq4
  have e13:=s4 _ _ (s3 _ _ (s2 _ _ e1))
  refine⟨l1,q4,_,_,rfl,rfl,e13,qv,qj (by rw[len_rep];simp only[List.length_cons,List.length_nil,Int.toNat_natCast];omega),?_⟩
  intro l5 H5 s5 hl5 e5
  rw[Int.toNat_natCast,di] at e5
  have ep5:=s5 _ _ (s4 _ _ (s3 _ _ (s2 _ _ (s1 _ _ ep))))
  have eq5:=s5 _ _ (s4 _ _ eq3)
  walk_at "rd"
  refine⟨l5,q,_,_,rfl,rfl,e5,eq5,qj (by simp only[List.length_append,List.length_cons,List.length_nil,List.length_replicate,List.length_map];omega),?_⟩
  intro l6 H6 s6 hl6 e6
  have e6':H6 l6=some (.lst ((Ew.ws (.pt n rs)).map V.str)):=by
   rw[e6,ew,List.map_append,List.map_append,List.map_replicate]
   rfl
  have ht:=mM (n:=20) (ws:=Ew.ws (.pt n rs)) fun x hx=>(Ew.wk jg x hx).2
  have hwl:(Ew.ws (.pt n rs)).length≤15:=by rw[ew];simp only[List.length_append,List.length_cons,List.length_nil,List.length_replicate];omega
  walk_at "rd"
  refine⟨_,l6,_,rfl,rfl,qI.of e6',by rw[rN];omega,?_⟩
  exact k H6 (((((s1.trans s2).trans s3).trans s4).trans s5).trans s6)
end
structure Wi (ps as:List Str) (qR:List (Str × Str)):Prop where
 p1:1≤ps.length
 p2:ps.length≤4
 a1:1≤as.length
 a2:as.length≤6
 r2:qR.length≤12
 pn:∀x∈ps,qZ x=true
 an:∀x∈as,qZ x=true
 rn:∀mn∈qR,fF mn
theorem Vy.w {ps as:List Str} {qR:List (Str × Str)} (h:Vy ps as qR):Wi ps as qR:=⟨h.p1,h.p2,h.a1,h.a2,h.r2,h.pn,h.an,h.rn⟩
theorem sF {x y:Str} (e:y.cps.toList=x.cps.toList ++ [32]) {ns:List Str} (h:ns≠[]):y ++ Txt.join " " ns=yD (x :: ns):=by
 obtain⟨a,r,rfl⟩:=List.exists_cons_of_ne_nil h
 refine xH ?_
 unfold yD
 rw[cps_append,join_eq,join_eq,ql,e]
 simp
theorem iF:("parties " : Str).cps.toList=("parties" : Str).cps.toList ++ [32]∧("acts " : Str).cps.toList=("acts" : Str).cps.toList ++ [32]∧(" " : Str).cps.toList=[32]∧("sore " : Str).cps.toList=("sore" : Str).cps.toList ++ [32]:=by decide +kernel
theorem Kt (m n:Str):m ++ Str.ofString " " ++ n=mj (m,n):=by
 refine xH ?_
 unfold mj yD
 rw[cps_append,cps_append,join_eq,ql,L2.join_one,iF.2.2.1]
 simp
theorem Paired.Jk {α β:Type} {F:α→β→Prop} {a:α}:∀{xs:List α} {ys:List β} {i:Nat},Paired F xs ys→xs[i]?=some a→∃b,ys[i]?=some b∧F a b
 | _ :: _,_ :: _,0,.cons h t,e=>by cases e;exact⟨_,rfl,h⟩
 | _ :: _,_ :: _,i + 1,.cons h t,e=>Paired.Jk (i:=i) t e
theorem take_snoc {α:Type} {xs:List α} {i:Nat} {b:α} (h:xs[i]?=some b):xs.take (i + 1)=xs.take i ++ [b]:=by
 rw[List.take_succ,h];rfl
theorem aq (ps as:List Str) (qR:List (Str × Str)) (e1 e2:List Ew):rowsOf ps as qR (e1 ++ e2)=rowsOf ps as qR e1 ++ e2.map Ew.row:=by unfold rowsOf;simp
theorem Xx (ps as:List Str) (qR:List (Str × Str)) (mn:Str × Str):rowsOf ps as (qR ++ [mn]) []=rowsOf ps as qR [] ++ [mj mn]:=by unfold rowsOf;simp
theorem fG {ps as:List Str} {qR:List (Str × Str)} {evs:List Ew}:(rowsOf ps as qR evs).length=2 + qR.length + evs.length:=by unfold rowsOf;simp only[List.length_cons,List.length_append,List.length_map];omega
theorem si:∀{ws:List V} {evs:List Ew} {H:Hp} {ys:List V},Paired (fk H) ws evs→ys.length=ws.length→(∀(i:Nat) (v:V) (e:Ew),evs[i]?=some e→ys[i]?=some v→v=.str e.row)→ys=(evs.map Ew.row).map V.str
 | [],[],_,ys,_,hl,_=>by cases ys with | nil=>rfl | cons a r=>simp at hl
 | _ :: ws,e :: evs,H,ys,.cons h t,hl,hv=>by
  cases ys with
  | nil=>simp at hl
  | cons y r=>
   rw[hv 0 y e rfl rfl,si t (by simpa using hl) fun i v e' h1 h2=>hv (i + 1) v e' h1 h2]
   rfl
noncomputable def Q8 (K:PySem.W.Frag):Sp:=fun vs H Q _=>∃(p l:Addr) (ps as:List Str) (qR:List (Str × Str)) (ws:List V) (evs:List Ew),vs=[.ref p,.ref l]∧oS H p ps as qR∧Wi ps as qR∧qI K H l ws∧Paired (fk H) ws evs∧(∀e∈evs,e.ok)∧evs.length≤150∧∀lr H',qg H H'→H lr=none→H' lr=some (.lst ((rowsOf ps as qR evs).map V.str))→Q (.ref lr) H'
section
variable {P:Program} {w:World} {K:PySem.W.Frag} {mg:Str→Option Value} {base:Heap} {t:jT}
theorem bN:qe ["_law_header_here","_law_events_here","_law_rows_here","_law_mark","_law_name_here"] ["_law_header_here","_law_events_here"] (z4 ko):=⟨rfl,rfl,rfl,by decide +kernel,rfl,by decide +kernel,by decide +kernel⟩
set_option maxHeartbeats 400000 in
theorem a9 (T:Txt K mg t):qi P w K mg base jn 2 t.mz t.mm ["_law_header_here","_law_events_here"] (Q8 K):=by
 have G_w_row:qi P w K mg base jn 1 t.de t.dJ ["_law_event_here"] Xi:=(QI T).mono (by decide)
 refine T.cH.fn.ok bN (fun vs H Q E h=>(by obtain⟨_,_,_,_,_,_,_,rfl,_⟩:=h;rfl)) (fun cdv A outer s H vs Q E hr h=>?_)
 obtain⟨p,l,ps,as,qR,ws,evs,rfl,hH,hW,hL,hP,jg,hlen,k⟩:=h
 refine⟨_,(z6 (qX (i:=2) bN.nd rfl (Or.inl rfl) (qS (z0 (qx qm qq (kh PySem.F.plainAttrs_str PySem.F.slot_str_join PySem.F.type_str_join (fH (K:=K) rfl) qq (z0 (qr (qT (K:=K) rfl) (pv 0) z7 (fun _ _=>rfl)) z5))) (z0 (qx qm qq (kh PySem.F.plainAttrs_str PySem.F.slot_str_join PySem.F.type_str_join (fH (K:=K) rfl) qq (z0 (qr (qT (K:=K) rfl) (pv 0) z7 (fun _ _=>rfl)) z5))) z5))) bS)
   (z6 (p3 PassesOwn.never rfl (wD (K:=K) rfl (qr (qT (K:=K) rfl) (pv 0) z7 (fun _ _=>rfl))) (lD (K:=K) rfl rfl (yV (kz (i:=3) bN.nd rfl (Or.inl rfl)) (yV (kz (i:=4) bN.nd rfl (Or.inl rfl)) lC)))
    (z8 (j0 (kh PySem.F.plainAttrs_list PySem.F.slot_list_append PySem.F.type_list_append xu (pv 2) (z0 (qx qm (qx qm (pv 3) qq) (pv 4)) z5)))))
   (z8 (qw (qx gI (pv 2) (bc (osc:=z4 ko) (N:=["_law_header_here","_law_events_here","_law_rows_here","_law_mark","_law_name_here"]) (names:=[]) (qD:=[]) rfl rfl rfl ⟨rfl,by decide +kernel,by decide +kernel,by decide +kernel,rfl,rfl,by decide +kernel,by decide +kernel⟩ (wD (K:=K) rfl (pv 1)) (fun _ _ _=>(qf G_w_row hr rfl T.sm.mg T.sm.fn.kp T.sm.bd .nil qJ (z0 (pv 0) z5))))))))),?_⟩
 obtain⟨lp,la,lr,vs,ep,elp,ela,elr,hR⟩:=hH
 have tp:=mM (n:=8) (ws:=ps) fun x hx=>(kx (hW.pn x hx)).2.1
 have ta:=mM (n:=8) (ws:=as) fun x hx=>(kx (hW.an x hx)).2.1
 have p1:=hW.p1;have p2:=hW.p2;have a1:=hW.a1;have a2:=hW.a2;have r2:=hW.r2
 have tp':(8 + 1) * ps.length≤9 * 4:=by omega
 have ta':(8 + 1) * as.length≤9 * 6:=by omega
 have j1:(Txt.join (Str.ofString " ") ps).length≤36:=by have:=dH ps;exact Nat.le_trans this (by omega)
 have j2:(Txt.join (Str.ofString " ") as).length≤54:=by have:=dH as;exact Nat.le_trans this (by omega)
 have w1:(Str.ofString "parties ").length=8:=by decide +kernel
 have w2:(Str.ofString "acts ").length=5:=by decide +kernel
 have np:ps≠[]:=fun z=>by rw[z] at p1;simp at p1
 have na:as≠[]:=fun z=>by rw[z] at a1;simp at a1
 walk_at "rd"
 refine⟨_,lp,ps,rfl,rfl,qI.of elp,by rw[rN];omega,?_⟩
 refine⟨_,_,rfl,rfl,qj (by omega),?_⟩
 rw[show Str.ofString "parties " ++ Txt.join (Str.ofString " ") ps=yD ("parties" :: ps) from sF iF.1 np]
 walk_at "rd"
 refine⟨_,la,as,rfl,rfl,qI.of ela,by rw[rN];omega,?_⟩
 refine⟨_,_,rfl,rfl,qj (by omega),?_⟩
 rw[show Str.ofString "acts " ++ Txt.join (Str.ofString " ") as=yD ("acts" :: as) from sF iF.2.1 na]
 refine⟨qj (by show 2≤1000;decide),?_⟩
 intro lq H1 s1 hlq e1
 have hvl:vs.length=qR.length:=Paired.length hR
 have hwl:ws.length=evs.length:=Paired.length hP
 have ep1:=s1 _ _ ep
 walk_at "rd"
 refine sG (K:=K) (a:=lr) (xs:=vs) (fun i σ H'=>∃v3 v4:Option V,σ=[some (.ref p),some (.ref l),some (.ref lq),v3,v4]∧qg H H'∧H' lq=some (.lst ((rowsOf ps as (qR.take i) []).map V.str)))
  ⟨none,none,rfl,s1,e1⟩ (fun i σ H' _ ⟨_,_,_,q,_⟩=>qI.of (q _ _ elr)) ?_ ?_
 ·rintro i y σ H2 hi ⟨v3,v4,rfl,s2,e2⟩
  obtain⟨mn,hmn,q,rfl,eq⟩:=Paired.Jk hR hi
  have hi':i < qR.length:=(List.getElem?_eq_some_iff.mp hmn).1
  have hm:=hW.rn mn (List.mem_of_getElem? hmn)
  have eq2:=s2 _ _ eq
  have g1:=(lG _ hm.1).2.2.1
  have g2:=(kx hm.2).2.1
  refine⟨q,_,rfl,yT.of eq2,rfl,_,_,rfl,_,_,rfl,rfl,?_⟩
  walk_at "rd"
  have hrl:=@fG ps as (qR.take i) []
  refine⟨lq,_,_,rfl,rfl,e2,qj (by rw[List.length_map,hrl,List.length_take];simp only[List.length_nil];omega),?_⟩
  intro H3 k3 e3
  refine⟨_,_,rfl,k3.put s2 hlq,?_⟩
  rw[e3,Kt,take_snoc hmn,Xx,List.map_append]
  rfl
 ·rintro σ H2 ⟨v3,v4,rfl,s2,e2⟩
  rw[hvl,List.take_length] at e2
  walk_at "rd"
  have hL2:=s2.seq hL
  have hP2:Paired (fk H2) ws evs:=Paired.imp' (fun _ _ z=>z.same s2) hP
  refine wB (bC hL2) (fun i _ v=>∀e,evs[i]?=some e→v=.str e.row) (qj (by omega)) ?_ ?_
  ·intro i y H' Q' hy s' kk
   obtain⟨e,he,hE⟩:=Paired.Jk hP2 hy
   refine⟨_,rfl,y,e,rfl,hE.same s',jg e (List.mem_of_getElem? he),fun H4 s4=>kk _ _ s4 fun e' h'=>?_⟩
   rw[he] at h'
   cases h'
   rfl
  intro D H3 ys s3 hD e3 hlen3 hp
  have eys:=si hP2 hlen3 fun i v e h1 h2=>by
   have hi:i < ws.length:=by
    have:=(List.getElem?_eq_some_iff.mp h1).1
    omega
   exact hp i _ v (List.getElem?_eq_getElem hi) h2 e h1
  subst eys
  have hrl:=@fG ps as qR []
  refine⟨lq,D,_,_,rfl,rfl,s3 _ _ e2,e3,qj (by rw[List.length_map,hrl,List.length_map,List.length_map];simp only[List.length_nil];omega),?_⟩
  intro l4 H4 s4 hl4 e4
  refine k l4 H4 ((s2.trans s3).trans s4) ((s2.trans s3).free hl4) ?_
  have:=aq ps as qR [] evs
  rw[List.nil_append] at this
  rw[e4,this,List.map_append]
end
theorem bT:∀{ws:List Str},(∀x∈ws,59∉x.cps.toList)→59∉(yD ws).cps.toList
 | [],_=>by unfold yD;decide +kernel
 | [x],h=>by unfold yD;rw[join_eq,L2.join_one];exact h x (by simp)
 | x :: y :: r,h=>by
  have ih:=bT (ws:=y :: r) fun z hz=>h z (List.mem_cons_of_mem _ hz)
  unfold yD at ih ⊢
  rw[join_eq] at ih ⊢
  rw[ql]
  intro hm
  (rcases List.mem_append.mp hm with hm | hm)
  ·exact h x (by simp) hm
  ·rcases List.mem_cons.mp hm with hm | hm
   ·cases hm
   ·exact ih hm
theorem q9 {x:Str} (h:qZ x=true):59∉x.cps.toList:=fun hc=>by
 have h':=h
 unfold qZ at h'
 rw[Bool.and_eq_true] at h'
 have:¬59∈qC.cps.toList:=by decide +kernel
 exact this ((dI h'.1).2.2 59 hc)
theorem ZX {n:Nat}:∀{xs:List Str},(∀x∈xs,x.length≤n)→(xs.map (·.length)).sum≤n * xs.length
 | [],_=>by simp
 | x :: r,h=>by
  have h1:=h x (by simp)
  have h2:=ZX (n:=n) (xs:=r) fun y hy=>h y (List.mem_cons_of_mem _ hy)
  rw[List.map_cons,List.sum_cons,List.length_cons,Nat.mul_add]
  omega
theorem md:∀x∈lits,59∉x.cps.toList∧x.length≤8:=by decide +kernel
theorem uO:∀x∈(["done","parties","acts"]:List Str),59∉x.cps.toList∧x.length≤8:=by decide +kernel
theorem ZN {n:Int} (h1:1≤n):59∉(Str.ofString (toString n)).cps.toList:=by
 obtain⟨m,rfl⟩:=Int.eq_ofNat_of_zero_le (show 0≤n by omega)
 have e:=PySem.W.KIN.signs_num m
 intro hc
 rw[e] at hc
 obtain⟨ch,hch,e2⟩:=List.mem_map.mp hc
 have:=Nat.isDigit_of_mem_toDigits (b:=10) (by decide) (by decide) hch
 simp [Char.isDigit] at this
 have h2:ch.toNat≤57:=this.2
 have e3:ch.toNat=59:=e2
 omega
theorem X9 {u:Str} (h:sf u):59∉u.cps.toList:=by
 rcases h with h | rfl
 ·exact q9 h
 ·exact(md _ (by simp [lits])).1
theorem lf {x:Str} (h:x∈lits):59∉x.cps.toList:=(md x h).1
theorem Ew.free {e:Ew} (h:e.ok):∀x∈e.ws,59∉x.cps.toList:=by
 intro x hx
 cases e with
 | lt a b=>
  simp only[Ew.ws,List.mem_cons,List.not_mem_nil,or_false] at hx
  rcases hx with rfl | rfl | rfl | rfl
  ·exact lf (by simp [lits])
  ·exact q9 h.1
  ·exact lf (by simp [lits])
  ·exact q9 h.2
 | mu l w a n r=>
  simp only[Ew.ws,List.mem_cons,List.not_mem_nil,or_false] at hx
  rcases hx with rfl | rfl | rfl | rfl | rfl | rfl | rfl | rfl
  ·exact q9 h.1
  ·exact q9 h.2.1
  ·exact lf (by simp [lits])
  ·exact q9 h.2.2.1
  ·exact lf (by simp [lits])
  ·exact ZN h.2.2.2.1
  ·exact lf (by simp [lits])
  ·exact q9 h.2.2.2.2.2
 | my l w a=>
  simp only[Ew.ws,List.mem_cons,List.not_mem_nil,or_false] at hx
  rcases hx with rfl | rfl | rfl | rfl
  ·exact q9 h.1
  ·exact X9 h.2.1
  ·exact lf (by simp [lits])
  ·exact q9 h.2.2
 | bn l w a r=>
  simp only[Ew.ws,List.mem_cons,List.not_mem_nil,or_false] at hx
  rcases hx with rfl | rfl | rfl | rfl | rfl | rfl | rfl
  ·exact q9 h.1
  ·exact X9 h.2.1
  ·exact lf (by simp [lits])
  ·exact lf (by simp [lits])
  ·exact q9 h.2.2.1
  ·exact lf (by simp [lits])
  ·exact q9 h.2.2.2
 | pw l w a r=>
  simp only[Ew.ws,List.mem_cons,List.not_mem_nil,or_false] at hx
  rcases hx with rfl | rfl | rfl | rfl | rfl | rfl
  ·exact q9 h.1
  ·exact X9 h.2.1
  ·exact lf (by simp [lits])
  ·exact q9 h.2.2.1
  ·exact lf (by simp [lits])
  ·exact q9 h.2.2.2
 | dn=>
  simp only[Ew.ws,List.mem_cons,List.not_mem_nil,or_false] at hx
  rw[hx];exact(uO _ (by simp)).1
 | pt n rs=>
  cases rs with
  | nil=>
   simp only[Ew.ws,List.mem_cons,List.not_mem_nil,or_false] at hx
   rcases hx with rfl | rfl
   ·exact lf (by simp [lits])
   ·exact q9 h.1
  | cons y rs=>
   simp only[Ew.ws] at hx
   (rcases List.mem_cons.mp hx with rfl | hx)
   ·exact lf (by simp [lits])
   (rcases List.mem_cons.mp hx with rfl | hx)
   ·exact q9 h.1
   (rcases List.mem_cons.mp hx with rfl | hx)
   ·exact lf (by simp [lits])
   ·exact q9 (h.2.1 x hx)
structure ij (x:Str):Prop where
 fr:59∉x.cps.toList
 sh:x.length≤180
theorem lX {ws:List Str} (h:∀x∈ws,x.length≤8) (hl:ws.length≤20):(yD ws).length≤180:=by
 have h1:(yD ws).length≤tK ws:=dH ws
 have h2:=mM (n:=8) (ws:=ws) h
 omega
theorem Ew.YG {e:Ew} (h:e.ok):ij e.row:=by
 refine⟨bT (Ew.free h),?_⟩
 have h1:e.row.length≤tK e.ws:=dH e.ws
 by_cases q:e.ws.length≤8
 ·have h2:=mM (n:=20) (ws:=e.ws) fun x hx=>(Ew.wk h x hx).2
  omega
 cases e with
 | pt n rs=>
  cases rs with
  | nil=>exact absurd (by simp [Ew.ws]) q
  | cons y rs=>
   refine lX (ws:=(Ew.pt n (y :: rs)).ws) (fun x hx=>?_) ?_
   ·simp only[Ew.ws] at hx
    (rcases List.mem_cons.mp hx with rfl | hx)
    ·exact(md _ (by simp [lits])).2
    (rcases List.mem_cons.mp hx with rfl | hx)
    ·exact ji h.1
    (rcases List.mem_cons.mp hx with rfl | hx)
    ·exact(md _ (by simp [lits])).2
    ·exact ji (h.2.1 x hx)
   ·have:=h.2.2
    simp only[Ew.ws,List.length_cons] at this ⊢
    omega
 | dn=>exact absurd (by simp [Ew.ws]) q
 | lt a b=>exact absurd (by simp [Ew.ws]) q
 | mu l w a n r=>exact absurd (by simp [Ew.ws]) q
 | my l w a=>exact absurd (by simp [Ew.ws]) q
 | bn l w a r=>exact absurd (by simp [Ew.ws]) q
 | pw l w a r=>exact absurd (by simp [Ew.ws]) q
theorem iZ {x:Str} {ns:List Str} (hx:x∈(["done","parties","acts"]:List Str)) (hn:∀y∈ns,qZ y=true) (hl:ns.length≤6):ij (yD (x :: ns)):=by
 have key:∀y∈x :: ns,59∉y.cps.toList∧y.length≤8:=fun y hy=>by
  (rcases List.mem_cons.mp hy with rfl | hy)
  ·exact uO _ hx
  ·exact⟨q9 (hn y hy),ji (hn y hy)⟩
 exact⟨bT fun y hy=>(key y hy).1,lX (fun y hy=>(key y hy).2) (by simp only[List.length_cons];omega)⟩
theorem Ww {mn:Str × Str} (h:fF mn):ij (mj mn):=by
 have key:∀y∈[mn.1,mn.2],59∉y.cps.toList∧y.length≤8:=fun y hy=>by
  simp only[List.mem_cons,List.not_mem_nil,or_false] at hy
  rcases hy with rfl | rfl
  ·have:=lG _ h.1;exact⟨this.2.1,by omega⟩
  ·exact⟨q9 h.2,ji h.2⟩
 exact⟨bT fun y hy=>(key y hy).1,lX (fun y hy=>(key y hy).2) (by simp)⟩
theorem eY {ps as:List Str} {qR:List (Str × Str)} {evs:List Ew} (h:Wi ps as qR) (he:∀e∈evs,e.ok):∀x∈rowsOf ps as qR evs,ij x:=by
 intro x hx
 unfold rowsOf at hx
 (rcases List.mem_cons.mp hx with rfl | hx)
 ·exact iZ (by simp) h.pn (by have:=h.p2;omega)
 (rcases List.mem_cons.mp hx with rfl | hx)
 ·exact iZ (by simp) h.an (by have:=h.a2;omega)
 (rcases List.mem_append.mp hx with hx | hx)
 ·obtain⟨mn,hmn,rfl⟩:=List.mem_map.mp hx
  exact Ww (h.rn mn hmn)
 ·obtain⟨e,hee,rfl⟩:=List.mem_map.mp hx
  exact Ew.YG (he e hee)
section
variable {P:Program} {w:World} {K:PySem.W.Frag} {mg:Str→Option Value} {base:Heap} {t:jT}
end
mutual
noncomputable def vo:Rw→List Ew
 | .lt a b=>[.lt a b]
 | .cl k l u a n r=>if k=0 then [.mu l u a n r] else if k=1 then [.my l u a] else if k=2 then [.bn l u a r] else [.pw l u a r]
 | .pt n rs rows=>.pt n rs :: (jy rows ++ [.dn])
noncomputable def jy:List Rw→List Ew
 | []=>[]
 | r :: rs=>vo r ++ jy rs
end
mutual
noncomputable def c9:Rw→Nat
 | .lt _ _=>0
 | .cl _ _ _ _ _ _=>0
 | .pt _ _ rows=>yY rows + 1
noncomputable def yY:List Rw→Nat
 | []=>0
 | r :: rs=>max (c9 r) (yY rs)
end
mutual
noncomputable def du:Rw→Prop
 | .lt _ _=>True
 | .cl k _ _ _ _ _=>k=0∨k=1∨k=2∨k=3
 | .pt _ _ rows=>y4 rows
noncomputable def y4:List Rw→Prop
 | []=>True
 | r :: rs=>du r∧y4 rs
end
theorem mK {r:Rw} (hr:du r):∀{a:List Rw},y4 a→y4 (a ++ [r])
 | [],_=>by rw[List.nil_append,y4,y4];exact⟨hr,True.intro⟩
 | x :: a,h=>by
  rw[y4] at h
  rw[List.cons_append,y4]
  exact⟨h.1,mK hr h.2⟩
theorem yK:∀(a b:List Rw),jy (a ++ b)=jy a ++ jy b
 | [],b=>by rw[List.nil_append,jy,List.nil_append]
 | r :: a,b=>by rw[List.cons_append,jy,jy,yK a b,List.append_assoc]
theorem ug:∀(a b:List Rw),yY (a ++ b)=max (yY a) (yY b)
 | [],b=>by rw[List.nil_append,yY];omega
 | r :: a,b=>by rw[List.cons_append,yY,yY,ug a b];omega
theorem mC (r:Rw):jy [r]=vo r:=by rw[jy,jy,List.append_nil]
theorem sV (r:Rw):yY [r]=c9 r:=by rw[yY,yY];omega
noncomputable def yG:List Fr→List Ew
 | []=>[]
 | (n,rs,rows) :: fr=>(if fr=[] then [] else yG fr ++ [.pt n rs]) ++ jy rows
noncomputable def uc:List Fr→Prop
 | []=>False
 | (n,rs,rows) :: fr=>yY rows + fr.length≤6∧y4 rows∧(if fr=[] then n = "whole"∧rs=[] else uc fr)
theorem uc.len {fr:List Fr} (h:uc fr):fr.length≤7:=by
 match fr,h with
 | (n,rs,rows) :: fr,h=>have:=h.1;simp only[List.length_cons];omega
theorem yX {fr:List Fr} {r:Rw} (h:uc fr) (hd:c9 r=0) (hk:du r):uc (push fr r)∧yG (push fr r)=yG fr ++ vo r:=by
 match fr,h with
 | (n,rs,rows) :: fr,h=>
  refine⟨⟨?_,mK hk h.2.1,h.2.2⟩,?_⟩
  ·rw[ug,sV,hd];have:=h.1;omega
  ·show (if fr=[] then [] else yG fr ++ [.pt n rs]) ++ jy (rows ++ [r])=((if fr=[] then [] else yG fr ++ [.pt n rs]) ++ jy rows) ++ vo r
   rw[yK,mC,List.append_assoc]
theorem Zj {fr fr':List Fr} {ls ls':List Str} {e:Ew} (h:uc fr) (ht:e.take fr ls=some (fr',ls')):uc fr'∧yG fr'=yG fr ++ [e]:=by
 cases e with
 | lt a b=>
  cases ht
  exact yX h (by rw[c9]) (by rw[du];exact True.intro)
 | mu l w a n r=>
  rw[Ew.take] at ht
  split at ht
  ·cases ht
  ·cases ht
   have:=yX (r:=.cl 0 l w a n r) h (by rw[c9]) (by rw[du];simp)
   exact this
 | my l w a=>
  rw[Ew.take] at ht
  split at ht
  ·cases ht
  ·cases ht
   have:=yX (r:=.cl 1 l w a 0 "") h (by rw[c9]) (by rw[du];simp)
   exact this
 | bn l w a r=>
  rw[Ew.take] at ht
  split at ht
  ·cases ht
  ·cases ht
   have:=yX (r:=.cl 2 l w a 0 r) h (by rw[c9]) (by rw[du];simp)
   exact this
 | pw l w a r=>
  rw[Ew.take] at ht
  split at ht
  ·cases ht
  ·cases ht
   have:=yX (r:=.cl 3 l w a 0 r) h (by rw[c9]) (by rw[du];simp)
   exact this
 | pt n rs=>
  rw[Ew.take] at ht
  split at ht
  ·cases ht
  ·rename_i hq
   cases ht
   have hl:=h.len
   have h7:¬fr.length=7:=fun z=>hq (.inl z)
   have hne:fr≠[]:=fun z=>by rw[z] at h;exact h
   refine⟨⟨by rw[yY];omega,by rw[y4];exact True.intro,by rw[if_neg hne];exact h⟩,?_⟩
   show (if fr=[] then [] else yG fr ++ [.pt n rs]) ++ jy []=_
   rw[if_neg hne,jy,List.append_nil]
 | dn=>
  match fr,h,ht with
  | (n,rs,rows) :: (n2,rs2,rows2) :: fr,h,ht=>
   cases ht
   have h2:uc ((n2,rs2,rows2) :: fr):=by
    have:=h.2.2
    rw[if_neg (by simp)] at this
    exact this
   have h1:=h.1
   have h3:=h2.1
   simp only[List.length_cons] at h1
   refine⟨⟨?_,mK (by rw[du];exact h.2.1) h2.2.1,h2.2.2⟩,?_⟩
   ·rw[ug,sV,c9];omega
   ·show (if fr=[] then [] else yG fr ++ [.pt n2 rs2]) ++ jy (rows2 ++ [.pt n rs rows])=((if ((n2,rs2,rows2) :: fr)=[] then [] else yG ((n2,rs2,rows2) :: fr) ++ [.pt n rs]) ++ jy rows) ++ [.dn]
    rw[if_neg (show ¬((n2,rs2,rows2) :: fr)=[] by simp),yK,mC,vo]
    show _=((((if fr=[] then [] else yG fr ++ [.pt n2 rs2]) ++ jy rows2) ++ [.pt n rs]) ++ jy rows) ++ [.dn]
    simp only[List.append_assoc,List.cons_append,List.nil_append]
  | [],h,_=>exact h.elim
  | [f],_,ht=>cases ht
theorem sP:∀{evs:List Ew} {i:Nat} {fr fr':List Fr} {ls:List Str},nR i evs fr ls=.ok fr'→uc fr→uc fr'∧yG fr'=yG fr ++ evs
 | [],i,fr,fr',ls,h,hf=>by cases h;exact⟨hf,by rw[List.append_nil]⟩
 | e :: r,i,fr,fr',ls,h,hf=>by
  rw[nR] at h
  split at h
  ·cases h
  ·split at h
   ·cases h
   ·rename_i f1 l1 ht
    obtain⟨g1,g2⟩:=Zj hf ht
    obtain⟨g3,g4⟩:=sP h g1
    exact⟨g3,by rw[g4,g2,List.append_assoc];rfl⟩
theorem uR {ps as:List Str} {qR:List (Str × Str)} {evs:List Ew} (h:Vy ps as qR) (he:∀e∈evs,e.ok) (hd:eO 0 evs=some 0) (hn:(vS evs).Nodup) (hl:evs.length≤76) :
  ∃rows,gZ (rowsOf ps as qR evs)=.ok (ps,as,qR,.pt "whole" [] rows)∧jy rows=evs∧yY rows≤6∧y4 rows:=by
 have h6:=h.r2
 obtain⟨fr,e1,l1⟩:=Q0 (i:=2 + qR.length) (fr:=[("whole",[],[])]) (ls:=[]) hd rfl (by decide) (by simpa using hn) (by omega)
 obtain⟨g1,g2⟩:=sP e1 ⟨by rw[yY];decide,by rw[y4];exact True.intro,by rw[if_pos rfl];exact⟨rfl,rfl⟩⟩
 match fr,l1,g1,g2,e1 with
 | [(a,b,c)],l1,g1,g2,e1=>
  have g3:=g1.2.2
  rw[if_pos rfl] at g3
  obtain⟨rfl,rfl⟩:=g3
  refine⟨c,?_,?_,by have:=g1.1;simp only[List.length_nil] at this;omega,g1.2.1⟩
  ·rw[JT h he,nz he,e1];rfl
  ·have g4:([]:List Ew) ++ jy c=([] ++ jy []) ++ evs:=g2
   rw[jy] at g4
   simpa using g4
 | f :: g :: r,l1,g1,g2,e1=>simp only[List.length_cons] at l1;omega
section
variable {P:Program} {w:World} {K:PySem.W.Frag} {mg:Str→Option Value} {base:Heap} {t:jT}
theorem YD (T:Txt K mg t) {H:Hp} {p:Addr} {k:Int} {l w a:Str} {n:Int} {r:Str} (h:At t H p k l w a n r):ki K H (.ref p) (.ref (br t k)):=by
 obtain⟨dx,e⟩:=h
 obtain⟨fI,F⟩:=u4 T k
 have key:PySem.W.findIn K (.ref (br t k)) "__class__" = some (some (.builtin "object.__class__"))∧PySem.W.mroIn K (br t k) (.type "object")=some true:=by
  unfold br
  split
  ·exact T.eX
  split
  ·exact T.tF
  split
  ·exact T.ZV
  split
  ·exact T.tL
  ·exact T.uX
 exact ki.ins e F.cl key.1 T.mV T.u9 key.2
end
noncomputable def Y0 (k:Int) (l u a:Str) (n:Int) (r:Str):List V:=if k=0 then [.str "must",.str l,.str u,.str a,.int n,.str r] else if k=1 then [.str "may",.str l,.str u,.str a] else if k=2 then [.str "ban",.str l,.str u,.str a,.str r] else [.str "power",.str l,.str u,.str a,.str r]
noncomputable def rg (t:jT):Sp:=fun vs H Q _=>∃(p:Addr) (k:Int) (l u a:Str) (n:Int) (r:Str),vs=[.ref p]∧At t H p k l u a n r∧(k=0∨k=1∨k=2∨k=3)∧∀tp H',qg H H'→H tp=none→H' tp=some (.tup (Y0 k l u a n r))→Q (.ref tp) H'
section
variable {P:Program} {w:World} {K:PySem.W.Frag} {mg:Str→Option Value} {base:Heap} {t:jT}
theorem Gr (T:Txt K mg t) {H:Hp} {p:Addr} {n m:Str} (h:XS t H p n m):ki K H (.ref p) (.ref t.ku):=by
 obtain⟨dx,e⟩:=h
 exact ki.ins e T.mG T.oy.1 T.mV T.u9 T.oy.2
theorem XS.fn (T:Txt K mg t) {H:Hp} {p:Addr} {n m:Str} (h:XS t H p n m):rm K H (.ref p) "name" (.str n):=by
 obtain⟨dx,e⟩:=h
 exact⟨p,_,dx,_,rfl,e,T.mG,T.bP,qU⟩
theorem XS.fv (T:Txt K mg t) {H:Hp} {p:Addr} {n m:Str} (h:XS t H p n m):rm K H (.ref p) "value" (.str m):=by
 obtain⟨dx,e⟩:=h
 exact⟨p,_,dx,_,rfl,e,T.mG,T.yI,(qo fun q=>m1 (Eq.symm q)).trans qU⟩
section
variable {H:Hp} {p dx a b:Addr} {n:Str}
theorem XX (T:Txt K mg t) (e:H p=some (.ins t.qP dx (nY n a b))):rm K H (.ref p) "name" (.str n):=⟨p,_,dx,_,rfl,e,T.kK,T.vn,qU⟩
theorem XG (T:Txt K mg t) (e:H p=some (.ins t.qP dx (nY n a b))):rm K H (.ref p) "rooms" (.ref a):=⟨p,_,dx,_,rfl,e,T.kK,T.vC,(qo fun q=>m2 (Eq.symm q)).trans qU⟩
theorem Xs (T:Txt K mg t) (e:H p=some (.ins t.qP dx (nY n a b))):rm K H (.ref p) "rows" (.ref b):=⟨p,_,dx,_,rfl,e,T.kK,T.gc,(qo fun q=>m3 (Eq.symm q)).trans ((qo fun q=>m4 (Eq.symm q)).trans qU)⟩
end
theorem cb:SeqAt.shaped (.list [])=true:=by decide +kernel
theorem sv:qe ["_law_row_here"] ["_law_row_here"] (z4 xY):=⟨rfl,rfl,rfl,by decide +kernel,rfl,by decide +kernel,by decide +kernel⟩
set_option maxHeartbeats 400000 in
theorem sL (T:Txt K mg t):qi P w K mg base jn 1 t.gw t.y7 ["_law_row_here"] (rg t):=by
 refine T.bK.fn.ok sv (fun vs H Q E h=>(by obtain⟨_,_,_,_,_,_,_,rfl,_⟩:=h;rfl)) (fun cdv A outer s H vs Q E hr h=>?_)
 obtain⟨p,k,l,u,a,n,r,rfl,hA,hk,kk⟩:=h
 refine⟨_,(z6 (qG (ja (qK (jq (K:=K) rfl) rfl T.qE PyProof.Rows.boot_isinstance (z0 (pv 0) (z0 (jh rfl T.oz (v:=.ref t.xb) rfl) z5))))
    (z6 (qG (PW.pt (vJ (kd (ja (qK (jq (K:=K) rfl) rfl T.qE PyProof.Rows.boot_isinstance (z0 (qV (K:=K) rfl (pv 0) rfl) (z0 (fY rfl T.cT PyProof.Rows.boot_int (v:=.ty "int") rfl) z5))))) (k7 (ja (qK (jq (K:=K) rfl) rfl T.qE PyProof.Rows.boot_isinstance (z0 (qV (K:=K) rfl (pv 0) rfl) (z0 (fY rfl T.Qk PyProof.Rows.boot_bool (v:=.ty "bool") rfl) z5)))))))
    (z8 (qw (jN z5))) qp)
   (z8 (qw (jN (z0 qq (z0 (qV (K:=K) rfl (pv 0) rfl) (z0 (qV (K:=K) rfl (pv 0) rfl) (z0 (qV (K:=K) rfl (pv 0) rfl) (z0 (qV (K:=K) rfl (pv 0) rfl) (z0 (qV (K:=K) rfl (pv 0) rfl) z5)))))))))) qp)
   (z6 (qG (ja (qK (jq (K:=K) rfl) rfl T.qE PyProof.Rows.boot_isinstance (z0 (pv 0) (z0 (jh rfl T.Q3 (v:=.ref t.ka) rfl) z5))))
    (z8 (qw (jN (z0 qq (z0 (qV (K:=K) rfl (pv 0) rfl) (z0 (qV (K:=K) rfl (pv 0) rfl) (z0 (qV (K:=K) rfl (pv 0) rfl) (z0 (qV (K:=K) rfl (pv 0) rfl) z5)))))))) qp)
   (z6 (qG (ja (qK (jq (K:=K) rfl) rfl T.qE PyProof.Rows.boot_isinstance (z0 (pv 0) (z0 (jh rfl T.rA (v:=.ref t.jH) rfl) z5))))
    (z8 (qw (jN (z0 qq (z0 (qV (K:=K) rfl (pv 0) rfl) (z0 (qV (K:=K) rfl (pv 0) rfl) (z0 (qV (K:=K) rfl (pv 0) rfl) (z0 (qV (K:=K) rfl (pv 0) rfl) z5)))))))) qp)
   (z6 (qG (ja (qK (jq (K:=K) rfl) rfl T.qE PyProof.Rows.boot_isinstance (z0 (pv 0) (z0 (jh rfl T.dM (v:=.ref t.jo) rfl) z5))))
    (z8 (qw (jN (z0 qq (z0 (qV (K:=K) rfl (pv 0) rfl) (z0 (qV (K:=K) rfl (pv 0) rfl) (z0 (qV (K:=K) rfl (pv 0) rfl) z5))))))) qp)
   (z8 (qw (jN z5))))))),?_⟩
 have ty:ki K H (.ref p) (.ref (br t k)):=YD T hA
 rcases hk with rfl | rfl | rfl | rfl
 ·refine⟨_,rfl,_,_,_,_,rfl,.inr ⟨_,rfl⟩,ty,T.fV,_,rfl,pe ?_⟩
  walk_at "rd"
  refine⟨_,_,.type "int",false,rfl,.inl ⟨_,rfl⟩,ki.int _,T.mR,_,rfl,pq ?_⟩
  walk_at "rd"
  intro tp H1 s1 h1 e1
  exact kk tp H1 s1 h1 e1
 ·refine⟨_,rfl,_,_,_,_,rfl,.inr ⟨_,rfl⟩,ty,T.pZ,_,rfl,pq ?_⟩
  refine⟨_,rfl,_,_,_,_,rfl,.inr ⟨_,rfl⟩,ty,T.fB,_,rfl,pq ?_⟩
  refine⟨_,rfl,_,_,_,_,rfl,.inr ⟨_,rfl⟩,ty,T.hV,_,rfl,pq ?_⟩
  refine⟨_,rfl,_,_,_,_,rfl,.inr ⟨_,rfl⟩,ty,T.gD,_,rfl,pe ?_⟩
  walk_at "rd"
  intro tp H1 s1 h1 e1
  exact kk tp H1 s1 h1 e1
 ·refine⟨_,rfl,_,_,_,_,rfl,.inr ⟨_,rfl⟩,ty,T.m7,_,rfl,pq ?_⟩
  refine⟨_,rfl,_,_,_,_,rfl,.inr ⟨_,rfl⟩,ty,T.cZ,_,rfl,pe ?_⟩
  walk_at "rd"
  intro tp H1 s1 h1 e1
  exact kk tp H1 s1 h1 e1
 ·refine⟨_,rfl,_,_,_,_,rfl,.inr ⟨_,rfl⟩,ty,T.pX,_,rfl,pq ?_⟩
  refine⟨_,rfl,_,_,_,_,rfl,.inr ⟨_,rfl⟩,ty,T.fR,_,rfl,pq ?_⟩
  refine⟨_,rfl,_,_,_,_,rfl,.inr ⟨_,rfl⟩,ty,T.g9,_,rfl,pe ?_⟩
  walk_at "rd"
  intro tp H1 s1 h1 e1
  exact kk tp H1 s1 h1 e1
end
theorem Zq {K:PySem.W.Frag} {a:Addr} {xs:List V} {E:L2.St→Hp→Prop} {B:V→L2.St→Hp→(L2.St→Hp→Prop)→Prop} {σ:L2.St} {H:Hp} (Pv:Nat→L2.St→Hp→Prop) (h0:Pv 0 σ H) (hl:∀i σ H,i≤xs.length→Pv i σ H→qI K H a xs)
  (hs:∀i x σ H,xs[i]?=some x→Pv i σ H→B x σ H (Pv (i + 1))) (hd:∀σ H,Pv xs.length σ H→E σ H) :
  ∃W:Nat→Nat→L2.St→Hp→Prop,(∃m,W 0 m σ H)∧∀i m σ H,W i m σ H→
   ((Xy K a).stop i H∧E σ H)∨((Xy K a).go i H∧∃N:L2.St→Hp→Prop,(∀σ' H',N σ' H'→∃m',m' < m∧W (i + 1) m' σ' H')∧∀x H',(Xy K a).Js i H x H'→B x σ H' N):=by
 (refine⟨fun i m σ H=>m=xs.length - i∧i≤xs.length∧Pv i σ H,⟨xs.length,by simp,Nat.zero_le _,h0⟩,?_⟩)
 rintro i m σ H ⟨rfl,hi,p⟩
 have q:=hl i σ H hi p
 by_cases hlt:i < xs.length
 ·(refine .inr ⟨⟨xs,xs[i],q,by simp [hlt]⟩,Pv (i + 1),fun σ' H' p'=>⟨xs.length - (i + 1),by omega,rfl,hlt,p'⟩,fun x H' y=>?_⟩)
  obtain⟨e,y⟩:=y
  subst e
  exact hs i x σ _ (y xs q) p
 ·(have e:i=xs.length:=by omega)
  subst e
  (exact .inl ⟨⟨xs,q,Nat.le_refl _⟩,hd σ H p⟩)
noncomputable def tf (ms:List Addr) (H:Hp) (v:V):Ew→Prop
 | .pt n rs=>∃p q,v=.ref p∧H p=some (.tup [.str "part",.str n,.ref q])∧H q=some (.lst (rs.map V.str))∧q∉ms
 | .lt a b=>fk H v (.lt a b)
 | .mu l w a n r=>fk H v (.mu l w a n r)
 | .my l w a=>fk H v (.my l w a)
 | .bn l w a r=>fk H v (.bn l w a r)
 | .pw l w a r=>fk H v (.pw l w a r)
 | .dn=>fk H v .dn
theorem tf.ev {ms:List Addr} {H:Hp} {v:V} {e:Ew} (h:tf ms H v e):fk H v e:=by
 cases e with
 | pt n rs=>obtain⟨p,q,e,h1,h2,_⟩:=h;exact⟨p,q,e,h1,h2⟩
 | lt a b=>exact h
 | mu l w a n r=>exact h
 | my l w a=>exact h
 | bn l w a r=>exact h
 | pw l w a r=>exact h
 | dn=>exact h
theorem tf.sub {ms ms':List Addr} {H:Hp} {v:V} {e:Ew} (h:tf ms H v e) (hm:∀b∈ms',b∈ms):tf ms' H v e:=by
 cases e with
 | pt n rs=>obtain⟨p,q,e,h1,h2,h3⟩:=h;exact⟨p,q,e,h1,h2,fun z=>h3 (hm q z)⟩
 | lt a b=>exact h
 | mu l w a n r=>exact h
 | my l w a=>exact h
 | bn l w a r=>exact h
 | pw l w a r=>exact h
 | dn=>exact h
theorem tf.same {ms:List Addr} {H H':Hp} {v:V} {e:Ew} (h:tf ms H v e) (s:qg H H'):tf ms H' v e:=by
 cases e with
 | pt n rs=>obtain⟨p,q,e,h1,h2,h3⟩:=h;exact⟨p,q,e,s _ _ h1,s _ _ h2,h3⟩
 | lt a b=>exact fk.same (e:=.lt a b) h s
 | mu l w a n r=>exact fk.same (e:=.mu l w a n r) h s
 | my l w a=>exact fk.same (e:=.my l w a) h s
 | bn l w a r=>exact fk.same (e:=.bn l w a r) h s
 | pw l w a r=>exact fk.same (e:=.pw l w a r) h s
 | dn=>exact fk.same (e:=.dn) h s
theorem tf.keeps {l:Addr} {ms:List Addr} {H H':Hp} {v:V} {e:Ew} {xs:List V} (h:tf (l :: ms) H v e) (k:Keeps l H H') (el:H l=some (.lst xs)):tf (l :: ms) H' v e:=by
 have ne:∀{p:Addr} {ys:List V},H p=some (.tup ys)→H' p=some (.tup ys):=fun q=>k.look q (fN q el (by intro z;cases z))
 cases e with
 | pt n rs=>obtain⟨p,q,e,h1,h2,h3⟩:=h;exact⟨p,q,e,ne h1,k.look h2 (fun z=>h3 (by rw[z];exact List.mem_cons_self)),h3⟩
 | lt a b=>obtain⟨p,e,h⟩:=h;exact⟨p,e,ne h⟩
 | mu l w a n r=>obtain⟨p,e,h⟩:=h;exact⟨p,e,ne h⟩
 | my l w a=>obtain⟨p,e,h⟩:=h;exact⟨p,e,ne h⟩
 | bn l w a r=>obtain⟨p,e,h⟩:=h;exact⟨p,e,ne h⟩
 | pw l w a r=>obtain⟨p,e,h⟩:=h;exact⟨p,e,ne h⟩
 | dn=>obtain⟨p,e,h⟩:=h;exact⟨p,e,ne h⟩
theorem VH {ms:List Addr} {H:Hp} {tp:Addr} {k:Int} {l u a:Str} {n:Int} {r:Str} (hk:k=0∨k=1∨k=2∨k=3) (h:H tp=some (.tup (Y0 k l u a n r))):Paired (tf ms H) [.ref tp] (vo (.cl k l u a n r)):=by
 rcases hk with rfl | rfl | rfl | rfl
 ·rw[vo];exact .cons ⟨tp,rfl,h⟩ .nil
 ·rw[vo];exact .cons ⟨tp,rfl,h⟩ .nil
 ·rw[vo];exact .cons ⟨tp,rfl,h⟩ .nil
 ·rw[vo];exact .cons ⟨tp,rfl,h⟩ .nil
theorem jb.Jk {t:jT} {ms:List Addr} {H:Hp}:∀{rs:List Rw} {ys:List V} {i:Nat} {y:V},jb t ms H rs ys→ys[i]?=some y→∃r,rs[i]?=some r∧wM t ms H r y
 | [],ys,i,y,h,e=>by unfold jb at h;subst h;cases e
 | r :: rs,ys,0,y,h,e=>by
  unfold jb at h
  obtain⟨y',ys',rfl,h1,h2⟩:=h
  cases e
  exact⟨r,rfl,h1⟩
 | r :: rs,ys,i + 1,y,h,e=>by
  unfold jb at h
  obtain⟨y',ys',rfl,h1,h2⟩:=h
  exact jb.Jk (i:=i) h2 e
theorem y4.Jk {r:Rw}:∀{rs:List Rw} {i:Nat},y4 rs→rs[i]?=some r→du r
 | [],i,h,e=>by cases e
 | x :: rs,0,h,e=>by cases e;rw[y4] at h;exact h.1
 | x :: rs,i + 1,h,e=>by rw[y4] at h;exact y4.Jk (i:=i) h.2 e
theorem sW {r:Rw}:∀{rs:List Rw} {i:Nat},rs[i]?=some r→c9 r≤yY rs
 | [],i,e=>by cases e
 | x :: rs,0,e=>by cases e;rw[yY];omega
 | x :: rs,i + 1,e=>by rw[yY];have:=sW (rs:=rs) (i:=i) e;omega
theorem QC {r:Rw} {rs:List Rw} {i:Nat} (h:rs[i]?=some r):jy (rs.take (i + 1))=jy (rs.take i) ++ vo r:=by rw[take_snoc h,yK,mC]
theorem Qt {rs:List Rw} (i:Nat):(jy (rs.take i)).length≤(jy rs).length:=by
 have:=congrArg (fun z=>(jy z).length) (List.take_append_drop i rs)
 simp only[yK,List.length_append] at this
 omega
noncomputable def Wc (t:jT):Nat→Sp
 | 0=>fun _ _ _ _=>False
 | n + 1=>fun vs H Q _=>∃(ms:List Addr) (b:Addr) (ys:List V) (rows:List Rw),vs=[.ref b]∧H b=some (.lst ys)∧jb t ms H rows ys∧b∉ms∧yY rows≤n∧y4 rows∧(jy rows).length≤100∧∀l H' ws,qg H H'→H l=none→H' l=some (.lst ws)→Paired (tf ms H') ws (jy rows)→Q (.ref l) H'
section
variable {P:Program} {w:World} {K:PySem.W.Frag} {mg:Str→Option Value} {base:Heap} {t:jT}
theorem gq:qe ["_law_rows_here","_law_found_here","_law_row_here"] ["_law_rows_here"] (z4 kj):=⟨rfl,rfl,rfl,by decide +kernel,rfl,by decide +kernel,by decide +kernel⟩
set_option maxHeartbeats 400000 in
theorem tX (T:Txt K mg t):∀n:Nat,qi P w K mg base jn (n + 1) t.wV t.wK ["_law_rows_here"] ((Wc t) n):=by
 intro n
 induction n
 ·exact T.wa.fn.ok gq (fun vs H Q E h=>False.elim h) (fun cdv A outer s H vs Q E hr h=>False.elim h)
 rename_i n ih
 have G_w_clause:qi P w K mg base jn (n + 1) t.gw t.y7 ["_law_row_here"] (rg t):=(sL T).mono (by omega)
 have G_w_found:qi P w K mg base jn (n + 1) t.wV t.wK ["_law_rows_here"] ((Wc t) n):=ih
 refine T.wa.fn.ok gq (fun vs H Q E h=>(by first | (obtain⟨rfl,_⟩:=h;rfl) | (obtain⟨_,rfl,_⟩:=h;rfl) | (obtain⟨_,_,rfl,_⟩:=h;rfl) | (obtain⟨_,_,_,rfl,_⟩:=h;rfl) | (obtain⟨_,_,_,_,rfl,_⟩:=h;rfl) | (obtain⟨_,_,_,_,_,rfl,_⟩:=h;rfl) | (obtain⟨_,_,_,_,_,_,rfl,_⟩:=h;rfl) | (obtain⟨_,_,_,_,_,_,_,rfl,_⟩:=h;rfl) | (obtain⟨_,_,_,_,_,_,_,_,rfl,_⟩:=h;rfl) | (obtain⟨_,_,_,_,_,_,_,_,_,rfl,_⟩:=h;rfl) | (obtain⟨_,_,_,_,_,_,_,_,_,_,rfl,_⟩:=h;rfl) | (obtain⟨_,_,_,_,_,_,_,_,_,_,_,rfl,_⟩:=h;rfl) | (obtain⟨_,_,_,_,_,_,_,_,_,_,_,_,rfl,_⟩:=h;rfl) | (obtain⟨_,_,_,_,_,_,_,_,_,_,_,_,_,rfl,_⟩:=h;rfl) | (obtain⟨_,_,_,_,_,_,_,_,_,_,_,_,_,_,rfl,_⟩:=h;rfl) | (obtain⟨_,_,_,_,_,_,_,_,_,_,_,_,_,_,_,rfl,_⟩:=h;rfl) | (obtain⟨_,_,_,_,_,_,_,_,_,_,_,_,_,_,_,_,rfl,_⟩:=h;rfl) | (obtain⟨_,_,_,_,_,_,_,_,_,_,_,_,_,_,_,_,_,rfl,_⟩:=h;rfl) | (obtain⟨_,_,_,_,_,_,_,_,_,_,_,_,_,_,_,_,_,_,rfl,_⟩:=h;rfl) | (obtain⟨_,_,_,_,_,_,_,_,_,_,_,_,_,_,_,_,_,_,_,rfl,_⟩:=h;rfl) | (obtain⟨_,_,_,_,_,_,_,_,_,_,_,_,_,_,_,_,_,_,_,_,rfl,_⟩:=h;rfl) | (obtain⟨_,_,_,_,_,_,_,_,_,_,_,_,_,_,_,_,_,_,_,_,_,rfl,_⟩:=h;rfl) | (obtain⟨_,_,_,_,_,_,_,_,_,_,_,_,_,_,_,_,_,_,_,_,_,_,rfl,_⟩:=h;rfl) | (obtain⟨_,_,_,_,_,_,_,_,_,_,_,_,_,_,_,_,_,_,_,_,_,_,_,rfl,_⟩:=h;rfl))) (fun cdv A outer s H vs Q E hr h=>?_)
 obtain⟨ms,b,ys,rows,rfl,eb,hR,hb,hd,hk,hlen,k⟩:=h
 refine⟨_,(z6 (qG (kd (ja (qK (jq (K:=K) rfl) rfl T.qE PyProof.Rows.boot_isinstance (z0 (pv 0) (z0 (fY rfl T.gR PyProof.Rows.boot_list (v:=.ty "list") rfl) z5)))))
    (z8 (qw (qS (z0 (jN z5) z5)))) qp)
   (z6 (qX (i:=1) gq.nd rfl (Or.inl rfl) (qS z5) bS)
   (z6 (p3 PassesOwn.never rfl (wD (K:=K) rfl (pv 0)) (kz (i:=2) gq.nd rfl (Or.inl rfl))
    (z8 (PS.join (qG (ja (qK (jq (K:=K) rfl) rfl T.qE PyProof.Rows.boot_isinstance (z0 (pv 2) (z0 (jh rfl T.pN (v:=.ref t.qP) rfl) z5))))
    (z6 (j0 (kh PySem.F.plainAttrs_list PySem.F.slot_list_append PySem.F.type_list_append xu (pv 1) (z0 (jN (z0 qq (z0 (qV (K:=K) rfl (pv 2) rfl) (z0 (qV (K:=K) rfl (pv 2) rfl) z5)))) z5)))
   (z6 (j0 (kh PySem.F.plainAttrs_list PySem.F.slot_list_extend PySem.F.type_list_extend ao (pv 1) (z0 (qf G_w_found hr rfl T.wa.mg T.wa.fn.kp T.wa.bd .nil qJ (z0 (qV (K:=K) rfl (pv 2) rfl) z5)) z5)))
   (z8 (j0 (kh PySem.F.plainAttrs_list PySem.F.slot_list_append PySem.F.type_list_append xu (pv 1) (z0 (jN (z0 qq z5)) z5)))))) (z8 (PS.join (qG (ja (qK (jq (K:=K) rfl) rfl T.qE PyProof.Rows.boot_isinstance (z0 (pv 2) (z0 (jh rfl T.Q1 (v:=.ref t.ku) rfl) z5))))
    (z8 (j0 (kh PySem.F.plainAttrs_list PySem.F.slot_list_append PySem.F.type_list_append xu (pv 1) (z0 (jN (z0 qq (z0 (qV (K:=K) rfl (pv 2) rfl) (z0 (qV (K:=K) rfl (pv 2) rfl) z5)))) z5)))) (z8 (j0 (kh PySem.F.plainAttrs_list PySem.F.slot_list_append PySem.F.type_list_append xu (pv 1) (z0 (qf G_w_clause hr rfl T.bK.mg T.bK.fn.kp T.bK.bd .nil qJ (z0 (pv 2) z5)) z5)))))))))))
   (z8 (qw (pv 1)))))),?_⟩
 walk_at "rd"
 intro l H1 s1 hl e1
 have eb1:=s1 _ _ eb
 walk_at "rd"
 have hml:∀c∈l :: ms,c∈ms∨H c=none:=fun c h=>(List.mem_cons.mp h).elim (fun z=>.inr (by rw[z];exact hl)) .inl
 refine Zq (K:=K) (a:=b) (xs:=ys) (fun i σ H'=>(∃(ws:List V) (v2:Option V),σ=[some (.ref b),some (.ref l),v2]∧qg H H'∧H' l=some (.lst ws)∧Paired (tf (l :: ms) H') ws (jy (rows.take i)))∨False)
  ?_ ?_ ?_ ?_
 ·exact .inl ⟨[],none,rfl,s1,e1,by rw[List.take_zero,jy];exact .nil⟩
 ·intro i σ H' _ q
  obtain⟨_,_,_,z,_⟩:=q.resolve_right (fun z=>z)
  exact qI.of (z _ _ eb)
 ·intro i y σ H2 hi q
  obtain⟨ws,v2,rfl,s2,e2,hP⟩:=q.resolve_right (fun z=>z)
  clear q
  obtain⟨r,hr,hRw⟩:=jb.Jk hR hi
  have hk1:=hk.Jk hr
  have hd1:=sW hr
  have hfl:=QC hr
  have hfn:=Qt (rs:=rows) (i + 1)
  have hRw2:wM t (l :: ms) H2 r y:=hRw.move (Fm.of s2) hml
  have wl:=Paired.length hP
  refine⟨fun σ' H'=>(∃(ws:List V),σ'=[some (.ref b),some (.ref l),some y]∧qg H H'∧H' l=some (.lst ws)∧Paired (tf (l :: ms) H') ws (jy (rows.take i) ++ vo r))∨False,?_,?_⟩
  ·rw[hfl,List.length_append] at hfn
   cases r with
   | lt n v=>
    unfold wM at hRw2
    obtain⟨p,rfl,hp,hA⟩:=hRw2
    have ty:=Gr T hA
    refine⟨_,rfl,_,_,_,_,rfl,.inr ⟨_,rfl⟩,ty,T.mU,_,rfl,pq ?_⟩
    refine⟨_,?_,fun _ _ z=>z⟩
    refine⟨_,rfl,_,_,_,_,rfl,.inr ⟨_,rfl⟩,ty,T.dO,_,rfl,pe ?_⟩
    refine⟨_,rfl,.inl ⟨rfl,_,qI.of e2⟩,?_⟩
    refine⟨_,rfl,_,hA.fn T,_,rfl,_,hA.fv T,qj (by show 3≤1000;decide),?_⟩
    intro tp H5 s5 h5 e5
    rw[vo] at hfn ⊢
    have hP5:=Paired.imp' (fun _ _ z=>z.same s5) hP
    refine⟨l,_,_,rfl,rfl,s5 _ _ e2,qj (by omega),?_⟩
    intro H6 k6 e6
    exact .inl ⟨_,rfl,k6.put (s2.trans s5) hl,e6,Paired.imp' (fun _ _ z=>z.keeps k6 (s5 _ _ e2)) (Paired.app hP5 (.cons ⟨tp,rfl,e5⟩ .nil))⟩
   | cl k' l' u a' n' r'=>
    unfold wM at hRw2
    obtain⟨p,rfl,hp,hA⟩:=hRw2
    rw[du] at hk1
    have ty:ki K H2 (.ref p) (.ref (br t k')):=YD T hA
    have kp:PySem.W.kitOne K (.ref (br t k')) (Qp (.ref t.qP))=some false:=by
     rcases hk1 with rfl | rfl | rfl | rfl
     ·exact T.fA
     ·exact T.pY
     ·exact T.dj
     ·exact T.pB
    have kl:PySem.W.kitOne K (.ref (br t k')) (Qp (.ref t.ku))=some false:=by
     rcases hk1 with rfl | rfl | rfl | rfl
     ·exact T.mN
     ·exact T.fP
     ·exact T.uv
     ·exact T.fJ
    have hf1:1≤(vo (.cl k' l' u a' n' r')).length:=by
     rcases hk1 with rfl | rfl | rfl | rfl<;>(rw[vo];simp)
    refine⟨_,rfl,_,_,_,_,rfl,.inr ⟨_,rfl⟩,ty,kp,_,rfl,pq ?_⟩
    refine⟨_,?_,fun _ _ z=>z⟩
    refine⟨_,rfl,_,_,_,_,rfl,.inr ⟨_,rfl⟩,ty,kl,_,rfl,pq ?_⟩
    refine⟨_,rfl,.inl ⟨rfl,_,qI.of e2⟩,_,rfl,p,k',l',u,a',n',r',rfl,hA,hk1,fun tp H3 s3 h3 e3=>?_⟩
    refine⟨l,_,_,rfl,rfl,s3 _ _ e2,qj (by omega),?_⟩
    intro H4 k4 e4
    exact .inl ⟨_,rfl,k4.put (s2.trans s3) hl,e4,Paired.imp' (fun _ _ z=>z.keeps k4 (s3 _ _ e2)) (Paired.app (Paired.imp' (fun _ _ z=>z.same s3) hP) (VH hk1 e3))⟩
   | pt n' rs rws=>
    unfold wM at hRw2
    obtain⟨p,dx,a1,b1,ys1,rfl,hp,ha,hb1,ep,ea,eb',hR'⟩:=hRw2
    rw[c9] at hd1
    rw[du] at hk1
    have ty:ki K H2 (.ref p) (.ref t.qP):=ki.ins ep T.kK T.mx.1 T.mV T.u9 T.mx.2
    have ee:jy (rows.take i) ++ vo (.pt n' rs rws)=((jy (rows.take i) ++ [.pt n' rs]) ++ jy rws) ++ [.dn]:=by rw[vo];simp
    have hf1:(vo (.pt n' rs rws)).length=(jy rws).length + 2:=by rw[vo];simp
    rw[ee]
    have nl:∀{c:Addr},c∉l :: ms→c≠l:=fun h z=>h (by rw[z];exact List.mem_cons_self)
    refine⟨_,rfl,_,_,_,_,rfl,.inr ⟨_,rfl⟩,ty,T.gx,_,rfl,pe ?_⟩
    refine⟨_,rfl,.inl ⟨rfl,_,qI.of e2⟩,?_⟩
    refine⟨_,rfl,_,XX T ep,_,rfl,_,XG T ep,qj (by show 3≤1000;decide),?_⟩
    intro tp H5 s5 h5 e5
    refine⟨l,_,_,rfl,rfl,s5 _ _ e2,qj (by omega),?_⟩
    intro H6 k6 e6
    have P6:Paired (tf (l :: ms) H6) (ws ++ [.ref tp]) (jy (rows.take i) ++ [.pt n' rs]):=Paired.imp' (fun _ _ z=>z.keeps k6 (s5 _ _ e2)) (Paired.app (Paired.imp' (fun _ _ z=>z.same s5) hP) (.cons ⟨tp,a1,rfl,e5,s5 _ _ ea,ha⟩ .nil))
    have fm6:Fm (l :: ms) H2 H6:=fun c o hc e=>k6.look (s5 _ _ e) (nl hc)
    have ep6:=fm6 _ _ hp ep
    have eb6:=fm6 _ _ hb1 eb'
    have hR6:jb t (l :: ms) H6 rws ys1:=hR'.move fm6 fun c h=>.inl h
    refine⟨_,rfl,.inl ⟨rfl,_,qI.of e6⟩,?_⟩
    refine⟨_,rfl,_,Xs T ep6,?_⟩
    cases n with
    | zero=>omega
    | succ m=>
     refine⟨l :: ms,b1,ys1,rws,rfl,eb6,hR6,hb1,by omega,hk1,by omega,fun l2 H7 ws2 s7 hl2 e7 hP7=>?_⟩
     have w2:=Paired.length hP7
     refine⟨l,l2,_,_,rfl,rfl,s7 _ _ e6,e7,qj (by rw[List.length_append];simp only[List.length_cons,List.length_nil];omega),?_⟩
     intro H8 k8 e8
     have P8:Paired (tf (l :: ms) H8) ((ws ++ [.ref tp]) ++ ws2) ((jy (rows.take i) ++ [.pt n' rs]) ++ jy rws):=Paired.imp' (fun _ _ z=>z.keeps k8 (s7 _ _ e6)) (Paired.app (Paired.imp' (fun _ _ z=>z.same s7) P6) hP7)
     refine⟨_,rfl,.inl ⟨rfl,_,qI.of e8⟩,?_⟩
     refine⟨qj (by show 1≤1000;decide),?_⟩
     intro tq H9 s9 h9 e9
     refine⟨l,_,_,rfl,rfl,s9 _ _ e8,qj (by simp only[List.length_append,List.length_cons,List.length_nil];omega),?_⟩
     intro H10 k10 e10
     have sA:qg H H10:=k10.put ((k8.put ((k6.put (s2.trans s5) hl).trans s7) hl).trans s9) hl
     exact .inl ⟨_,rfl,sA,e10,Paired.imp' (fun _ _ z=>z.keeps k10 (s9 _ _ e8)) (Paired.app (Paired.imp' (fun _ _ z=>z.same s9) P8) (.cons ⟨tq,rfl,e9⟩ .nil))⟩
  rintro σ' H6 (⟨ws',rfl,s6,e6,hP6⟩ | ⟨⟨⟩⟩)
  rw[←hfl] at hP6
  exact .inl ⟨_,_,rfl,s6,e6,hP6⟩
 ·intro σ H2 q
  obtain⟨ws,v2,rfl,s2,e2,hP⟩:=q.resolve_right (fun z=>z)
  have hlr:=hR.len
  rw[hlr,List.take_length] at hP
  walk_at "rd"
  exact k l H2 ws s2 hl e2 (Paired.imp' (fun _ _ z=>z.sub fun b hb=>List.mem_cons_of_mem _ hb) hP)
theorem iy (T:Txt K mg t):qi P w K mg base jn 8 t.wV t.wK ["_law_rows_here"] ((Wc t) 7):=tX T 7
end
noncomputable def ml:Ew→PyData
 | .lt a b=>.tuple [.str "let",.str a,.str b]
 | .mu l w a n r=>.tuple [.str "must",.str l,.str w,.str a,.int n,.str r]
 | .my l w a=>.tuple [.str "may",.str l,.str w,.str a]
 | .bn l w a r=>.tuple [.str "ban",.str l,.str w,.str a,.str r]
 | .pw l w a r=>.tuple [.str "power",.str l,.str w,.str a,.str r]
 | .pt n rs=>.tuple [.str "part",.str n,.list (rs.map PyData.str)]
 | .dn=>.tuple [.str "done"]
theorem fk.rd {K:PySem.W.Frag} {H:Hp} {v:V} {e:Ew} (h:fk H v e):pj K H v (ml e):=by
 cases e with
 | pt n rs=>obtain⟨p,q,rfl,h1,h2⟩:=h;exact .tup (yT.of h1) (.cons (.str _) (.cons (.str _) (.cons (.lst (qI.of h2) (kB.strs _)) .nil)))
 | lt a b=>obtain⟨p,rfl,h⟩:=h;exact .tup (yT.of h) (.cons (.str _) (.cons (.str _) (.cons (.str _) .nil)))
 | mu l w a n r=>obtain⟨p,rfl,h⟩:=h;exact .tup (yT.of h) (.cons (.str _) (.cons (.str _) (.cons (.str _) (.cons (.str _) (.cons (.int _) (.cons (.str _) .nil))))))
 | my l w a=>obtain⟨p,rfl,h⟩:=h;exact .tup (yT.of h) (.cons (.str _) (.cons (.str _) (.cons (.str _) (.cons (.str _) .nil))))
 | bn l w a r=>obtain⟨p,rfl,h⟩:=h;exact .tup (yT.of h) (.cons (.str _) (.cons (.str _) (.cons (.str _) (.cons (.str _) (.cons (.str _) .nil)))))
 | pw l w a r=>obtain⟨p,rfl,h⟩:=h;exact .tup (yT.of h) (.cons (.str _) (.cons (.str _) (.cons (.str _) (.cons (.str _) (.cons (.str _) .nil)))))
 | dn=>obtain⟨p,rfl,h⟩:=h;exact .tup (yT.of h) (.cons (.str _) .nil)
theorem ig {K:PySem.W.Frag} {H:Hp}:∀{ws:List V} {evs:List Ew},Paired (fk H) ws evs→kB K H ws (evs.map ml)
 | _,_,.nil=>.nil
 | _,_,.cons h t=>.cons h.rd (ig t)
theorem dz:∀x∈(["let","must","may","ban","power","part","done","any","calm","sore","end"]:List Str),PyData.strOk x=true:=by decide +kernel
theorem u5 {x:Str} (h:qZ x=true):PyData.strOk x=true:=(fu h).ok
theorem Yn {x:Str} (h:sf x):PyData.strOk x=true:=by
 rcases h with h | rfl
 ·exact u5 h
 ·exact dz _ (by simp)
theorem Jf {e:Ew} (h:e.ok):PyData.canLay0 (ml e)=true∧PyData.depth (ml e)≤2:=by
 cases e with
 | lt a b=>simp [PyData.canLay0,PyData.canLayAll0,PyData.depth,PyData.depthAll,ml,u5 h.1,u5 h.2,dz]
 | mu l w a n r=>simp [PyData.canLay0,PyData.canLayAll0,PyData.depth,PyData.depthAll,ml,u5 h.1,u5 h.2.1,u5 h.2.2.1,u5 h.2.2.2.2.2,dz]
 | my l w a=>simp [PyData.canLay0,PyData.canLayAll0,PyData.depth,PyData.depthAll,ml,u5 h.1,Yn h.2.1,u5 h.2.2,dz]
 | bn l w a r=>simp [PyData.canLay0,PyData.canLayAll0,PyData.depth,PyData.depthAll,ml,u5 h.1,Yn h.2.1,u5 h.2.2.1,u5 h.2.2.2,dz]
 | pw l w a r=>simp [PyData.canLay0,PyData.canLayAll0,PyData.depth,PyData.depthAll,ml,u5 h.1,Yn h.2.1,u5 h.2.2.1,u5 h.2.2.2,dz]
 | pt n rs=>
  have q:=gL rs fun x hx=>u5 (h.2.1 x hx)
  simp [PyData.canLay0,PyData.canLayAll0,PyData.depth,PyData.depthAll,ml,u5 h.1,q.1,q.2,dz]
 | dn=>simp [PyData.canLay0,PyData.canLayAll0,PyData.depth,PyData.depthAll,ml,dz]
theorem ir:∀{evs:List Ew},(∀e∈evs,e.ok)→PyData.canLayAll0 (evs.map ml)=true∧PyData.depthAll (evs.map ml)≤2
 | [],_=>⟨rfl,Nat.zero_le _⟩
 | e :: r,h=>by
  have q:=ir fun x hx=>h x (List.mem_cons_of_mem _ hx)
  have z:=Jf (h e List.mem_cons_self)
  rw[List.map_cons,PyData.canLayAll0,PyData.depthAll,q.1,z.1]
  exact⟨rfl,by omega⟩
theorem cn {evs:List Ew} (h:∀e∈evs,e.ok):SeqAt.shaped (.list (evs.map ml))=true:=by
 have q:=ir h
 unfold SeqAt.shaped
 rw[PyData.canLay0,PyData.depth,q.1]
 simp only[Bool.true_and]
 (exact decide_eq_true (by omega))
theorem J3 (e:Ew):PyData.eqv (ml e) (ml e)=true:=by
 cases e with
 | pt n rs=>
  have q:=gT rs rs
  simp [PyData.eqv,PyData.eqvAll,ml,q]
 | lt a b=>simp [PyData.eqv,PyData.eqvAll,ml]
 | mu l w a n r=>simp [PyData.eqv,PyData.eqvAll,ml]
 | my l w a=>simp [PyData.eqv,PyData.eqvAll,ml]
 | bn l w a r=>simp [PyData.eqv,PyData.eqvAll,ml]
 | pw l w a r=>simp [PyData.eqv,PyData.eqvAll,ml]
 | dn=>simp [PyData.eqv,PyData.eqvAll,ml]
theorem iE:∀(evs:List Ew),PyData.eqvAll (evs.map ml) (evs.map ml)=true
 | []=>by simp [PyData.eqvAll]
 | e :: r=>by rw[List.map_cons,PyData.eqvAll,J3,iE r];rfl
theorem en:∀{qR:List (Str × Str)},(∀mn∈qR,fF mn)→PyData.canLayAll0 (qR.map uL)=true∧PyData.depthAll (qR.map uL)≤1
 | [],_=>⟨rfl,Nat.zero_le _⟩
 | mn :: r,h=>by
  have q:=en fun x hx=>h x (List.mem_cons_of_mem _ hx)
  have hm:=h mn List.mem_cons_self
  have k1:∀x∈jA,PyData.strOk x=true:=by decide +kernel
  have z:PyData.canLay0 (uL mn)=true∧PyData.depth (uL mn)≤1:=by
   simp [PyData.canLay0,PyData.canLayAll0,PyData.depth,PyData.depthAll,uL,k1 _ hm.1,u5 hm.2]
  rw[List.map_cons,PyData.canLayAll0,PyData.depthAll,q.1,z.1]
  exact⟨rfl,by omega⟩
theorem oV {qR:List (Str × Str)} (h:∀mn∈qR,fF mn):SeqAt.shaped (.list (qR.map uL))=true:=by
 have q:=en h
 unfold SeqAt.shaped
 rw[PyData.canLay0,PyData.depth,q.1]
 simp only[Bool.true_and]
 (exact decide_eq_true (by omega))
theorem ez:∀(qR:List (Str × Str)),PyData.eqvAll (qR.map uL) (qR.map uL)=true
 | []=>by simp [PyData.eqvAll]
 | mn :: r=>by
  have z:PyData.eqv (uL mn) (uL mn)=true:=by simp [PyData.eqv,PyData.eqvAll,uL]
  rw[List.map_cons,PyData.eqvAll,z,ez r];rfl
section
variable {P:Program} {w:World} {K:PySem.W.Frag} {mg:Str→Option Value} {base:Heap} {t:jT}
end
theorem JF (xs ys:List Bool):PyData.eqv (.list (xs.map PyData.bool)) (.list (ys.map PyData.bool))=decide (xs=ys):=by
 simp only[PyData.eqv,cD]
theorem oE {K:PySem.W.Frag} {H:Hp}:∀{vs:List V} {qR:List (Str × Str)},Paired (vk H) vs qR→kB K H vs (qR.map uL)
 | _,_,.nil=>.nil
 | _,_,.cons ⟨p,e,q⟩ t=>by
  subst e
  exact .cons (pj.tup (yT.of q) (.cons (.str _) (.cons (.str _) .nil))) (oE t)
noncomputable def eQ (K:PySem.W.Frag) (t:jT):Sp:=fun vs H Q _=>∃(p hp le:Addr) (ps as:List Str) (qR:List (Str × Str)) (rows:List Rw) (ws:List V) (evs:List Ew),vs=[.ref p,.ref hp,.ref le]∧gm t H p ps as qR (.pt "whole" [] rows)∧oS H hp ps as qR∧Wi ps as qR∧H le=some (.lst ws)∧Paired (fk H) ws evs∧jy rows=evs∧yY rows≤6∧y4 rows∧(∀e∈evs,e.ok)∧evs.length≤100∧∀H',qg H H'→Q (.bl true) H'
section
variable {P:Program} {w:World} {K:PySem.W.Frag} {mg:Str→Option Value} {base:Heap} {t:jT}
section
variable {H:Hp} {p dx a b c:Addr} {x:V}
theorem VN (T:Txt K mg t) (e:H p=some (.ins t.jv dx (Xl a b c x))):rm K H (.ref p) "parties" (.ref a):=⟨p,_,dx,_,rfl,e,T.vP,T.wt,qU⟩
theorem Ve (T:Txt K mg t) (e:H p=some (.ins t.jv dx (Xl a b c x))):rm K H (.ref p) "acts" (.ref b):=⟨p,_,dx,_,rfl,e,T.vP,T.gr,(qo fun q=>My.a1 (Eq.symm q)).trans qU⟩
theorem QM (T:Txt K mg t) (e:H p=some (.ins t.jv dx (Xl a b c x))):rm K H (.ref p) "rooms" (.ref c):=⟨p,_,dx,_,rfl,e,T.vP,T.ye,(qo fun q=>My.a2 (Eq.symm q)).trans ((qo fun q=>My.a4 (Eq.symm q)).trans qU)⟩
theorem iB (T:Txt K mg t) (e:H p=some (.ins t.jv dx (Xl a b c x))):rm K H (.ref p) "whole" x:=⟨p,_,dx,_,rfl,e,T.vP,T.yi,(qo fun q=>My.a3 (Eq.symm q)).trans ((qo fun q=>My.a5 (Eq.symm q)).trans ((qo fun q=>My.a6 (Eq.symm q)).trans qU))⟩
end
theorem oU:qe ["_law_pact","_law_header_here","_law_events_here"] ["_law_pact","_law_header_here","_law_events_here"] (z4 xB):=⟨rfl,rfl,rfl,by decide +kernel,rfl,by decide +kernel,by decide +kernel⟩
set_option maxHeartbeats 400000 in
theorem nT (T:Txt K mg t):qi P w K mg base jn 9 t.b8 t.bD ["_law_pact","_law_header_here","_law_events_here"] (eQ K t):=by
 have G_w_found:qi P w K mg base jn 8 t.wV t.wK ["_law_rows_here"] ((Wc t) 7):=(iy T).mono (by decide)
 refine T.xT.fn.ok oU (fun vs H Q E h=>(by obtain⟨_,_,_,_,_,_,_,_,_,rfl,_⟩:=h;rfl)) (fun cdv A outer s H vs Q E hr h=>?_)
 obtain⟨p,hp,le,ps,as,qR,rows,ws,evs,rfl,hA,hH,hW,eL,hP,hfl,hd,hk,jg,hlen,k⟩:=h
 refine⟨_,(z6 (qG (PW.pt (vJ (kd (ja (qK (jq (K:=K) rfl) rfl T.qE PyProof.Rows.boot_isinstance (z0 (pv 0) (z0 (jh rfl T.oK (v:=.ref t.jv) rfl) z5))))) (vJ (kd (ja (qK (jq (K:=K) rfl) rfl T.qE PyProof.Rows.boot_isinstance (z0 (qV (K:=K) rfl (pv 0) rfl) (z0 (jh rfl T.pN (v:=.ref t.qP) rfl) z5))))) (k7 (qu sE (qV (K:=K) rfl (qV (K:=K) rfl (pv 0) rfl) rfl) qq (qt _))))))
    (z8 (qw vX)) qp)
   (z6 (qG (PW.pt (vJ (kd (ja (qK (jq (K:=K) rfl) rfl T.qE PyProof.Rows.boot_isinstance (z0 (qV (K:=K) rfl (pv 0) rfl) (z0 (fY rfl T.gR PyProof.Rows.boot_list (v:=.ty "list") rfl) z5))))) (k7 (qu (bI (K:=K) rfl hr.units) (bc (osc:=z4 xB) (N:=["_law_pact","_law_header_here","_law_events_here"]) (names:=[]) (qD:=[]) rfl rfl rfl ⟨rfl,by decide +kernel,by decide +kernel,by decide +kernel,rfl,rfl,by decide +kernel,by decide +kernel⟩ (wD (K:=K) rfl (qV (K:=K) rfl (pv 0) rfl)) (fun _ _ _=>(qK (jq (K:=K) rfl) rfl T.qE PyProof.Rows.boot_isinstance (z0 (pv 0) (z0 (fY rfl T.iH PyProof.Rows.boot_tuple (v:=.ty "tuple") rfl) z5))))) (qx oO (qS (z0 vX z5)) (qK (jr (K:=K) rfl) rfl T.kL PySem.boot_len (z0 (qr (qT (K:=K) rfl) (pv 1) z7 (fun _ _=>rfl)) z5))) (qt _)))))
    (z8 (qw vX)) qp)
   (z6 (qG (PW.pt (vJ (qu (bI (K:=K) rfl hr.units) (qV (K:=K) rfl (pv 0) rfl) (qr (qT (K:=K) rfl) (pv 1) z7 (fun _ _=>rfl)) (qt _)) (vJ (qu (bI (K:=K) rfl hr.units) (qV (K:=K) rfl (pv 0) rfl) (qr (qT (K:=K) rfl) (pv 1) z7 (fun _ _=>rfl)) (qt _)) (vJ (qu (bI (K:=K) rfl hr.units) (qV (K:=K) rfl (pv 0) rfl) (qr (qT (K:=K) rfl) (pv 1) z7 (fun _ _=>rfl)) (qt _)) (k7 (qu (bI (K:=K) rfl hr.units) (qV (K:=K) rfl (qV (K:=K) rfl (pv 0) rfl) rfl) (qS z5) (qt _)))))))
    (z8 (qw vX)) qp)
   (z8 (qw (va (lT (K:=K) rfl hr.units) (qf G_w_found hr rfl T.wa.mg T.wa.fn.kp T.wa.bd .nil qJ (z0 (qV (K:=K) rfl (qV (K:=K) rfl (pv 0) rfl) rfl) z5)) (pv 2) (qt _))))))),?_⟩
 obtain⟨dx,a,b,c,x,vs,ep,ea,eb,ec,hRm,hRw⟩:=hA
 unfold wM at hRw
 obtain⟨pw,dxw,aw,bw,yw,rfl,_,_,_,epw,eaw,ebw,hRs⟩:=hRw
 obtain⟨lp,la,lr,vr,eh,elp,ela,elr,hR2⟩:=hH
 have ty:ki K H (.ref p) (.ref t.jv):=ki.ins ep T.vP T.rR.1 T.mV T.u9 T.rR.2
 have tw:ki K H (.ref pw) (.ref t.qP):=ki.ins epw T.kK T.mx.1 T.mV T.u9 T.mx.2
 refine⟨_,rfl,_,_,_,_,rfl,.inr ⟨_,rfl⟩,ty,T.fg,_,rfl,?_⟩
 walk_at "rd"
 refine⟨_,iB T ep,_,_,_,_,rfl,.inr ⟨_,rfl⟩,tw,T.gx,_,rfl,?_⟩
 walk_at "rd"
 refine⟨_,iB T ep,_,XX T epw,?_⟩
 walk_at "rd"
 refine⟨_,QM T ep,?_⟩
 walk_at "rd"
 have hvl:vs.length=qR.length:=Paired.length hRm
 have hvl2:vr.length=qR.length:=Paired.length hR2
 have r2:=hW.r2
 refine⟨_,QM T ep,c,rfl,⟨_,qI.of ec⟩,?_⟩
 refine wB (bC (qI.of ec)) (fun _ _ v=>v=.bl true) (qj (by omega)) ?_ ?_
 ·intro i y H' Q' hy s' kk
  obtain⟨mn,hmn,q,rfl,eq⟩:=Paired.Jk hRm hy
  refine⟨_,rfl,_,_,.type "tuple",true,rfl,.inl ⟨_,rfl⟩,ki.tup (s' _ _ eq),gS _ _,?_⟩
  exact kk _ _ (qg.refl _) rfl
 intro D H1 ys s1 hD e1 hlen1 hp1
 have eys:ys=(List.replicate qR.length true).map V.bl:=by
  rw[List.map_replicate,←hvl,←hlen1]
  refine List.eq_replicate_iff.mpr ⟨rfl,fun v hv=>?_⟩
  obtain⟨i,hi⟩:=List.mem_iff_getElem?.mp hv
  have hi':i < vs.length:=by have:=(List.getElem?_eq_some_iff.mp hi).1;omega
  exact hp1 i _ v (List.getElem?_eq_getElem hi') hi
 subst eys
 clear hp1 hlen1
 walk_at "rd"
 intro l2 H2 s2 hl2 e2
 have eh2:=s2 _ _ (s1 _ _ eh)
 have elr2:=s2 _ _ (s1 _ _ elr)
 walk_at "rd"
 refine⟨lr,_,rfl,.inl (qI.of elr2),?_⟩
 rw[hvl2]
 refine⟨l2,(qR.length:Int),_,rfl,rfl,e2,by omega,by omega,qj (by simp only[List.length_cons,List.length_nil,Int.toNat_natCast];omega),fun q hq=>?_⟩
 have s3:qg H2 (upd H2 q (.lst (List.replicate ((qR.length:Nat):Int).toNat [V.bl true]).flatten)):=qg.rF hq
 have eq3:(upd H2 q (.lst (List.replicate ((qR.length:Nat):Int).toNat [V.bl true]).flatten)) q=some (.lst ((List.replicate qR.length true).map V.bl)):=by rw[qv,Int.toNat_natCast,di,List.map_replicate]
 have eD3:=s3 _ _ (s2 _ _ e1)
 have sA:=(s1.trans s2).trans s3
 generalize upd H2 q (.lst (List.replicate ((qR.length:Nat):Int).toNat [V.bl true]).flatten)=H3 at *
 refine⟨_,_,pj.lst (qI.of eD3) (kB.Yq _),pj.lst (qI.of eq3) (kB.Yq _),uw _,uw _,?_⟩
 rw[JF,decide_eq_true rfl]
 have ep3:=sA _ _ ep
 have ea3:=sA _ _ ea
 have eb3:=sA _ _ eb
 have ec3:=sA _ _ ec
 have epw3:=sA _ _ epw
 have eaw3:=sA _ _ eaw
 have ebw3:=sA _ _ ebw
 have eh3:=sA _ _ eh
 have elp3:=sA _ _ elp
 have ela3:=sA _ _ ela
 have elr3:=sA _ _ elr
 clear s1 s2 s3 e1 e2 hl2 hD eh2 elr2 eD3 eq3 hq
 walk_at "rd"
 refine⟨_,VN T ep3,?_⟩
 walk_at "rd"
 have shp:SeqAt.shaped (.list (ps.map PyData.str))=true:=x8 fun y hy=>u5 (hW.pn y hy)
 have sha:SeqAt.shaped (.list (as.map PyData.str))=true:=x8 fun y hy=>u5 (hW.an y hy)
 refine⟨_,_,pj.lst (qI.of ea3) (kB.strs ps),pj.lst (qI.of elp3) (kB.strs ps),shp,shp,?_⟩
 rw[fE,decide_eq_true rfl]
 walk_at "rd"
 refine⟨_,Ve T ep3,?_⟩
 walk_at "rd"
 refine⟨_,_,pj.lst (qI.of eb3) (kB.strs as),pj.lst (qI.of ela3) (kB.strs as),sha,sha,?_⟩
 rw[fE,decide_eq_true rfl]
 walk_at "rd"
 refine⟨_,QM T ep3,?_⟩
 walk_at "rd"
 have shr:=oV hW.rn
 refine⟨_,_,pj.lst (qI.of ec3) (oE (Paired.imp' (fun _ _ z=>z.same sA) hRm)),pj.lst (qI.of elr3) (oE (Paired.imp' (fun _ _ z=>z.same sA) hR2)),shr,shr,?_⟩
 rw[show PyData.eqv (.list (qR.map uL)) (.list (qR.map uL))=true by rw[PyData.eqv];exact ez qR]
 walk_at "rd"
 refine⟨_,iB T ep3,_,XG T epw3,?_⟩
 walk_at "rd"
 intro l4 H4 s4 hl4 e4
 refine⟨_,_,pj.lst (qI.of (s4 _ _ eaw3)) .nil,pj.lst (qI.of e4) .nil,cb,cb,?_⟩
 rw[show PyData.eqv (.list []) (.list [])=true by decide +kernel]
 have ep4:=s4 _ _ ep3
 have epw4:=s4 _ _ epw3
 walk_at "rd"
 have ebw4:=s4 _ _ ebw3
 have sB:=sA.trans s4
 have hRs4:jb t [] H4 rows yw:=hRs.move (Fm.of sB) (fun _ h=>.inl h)
 refine⟨_,iB T ep4,_,Xs T epw4,?_⟩
 refine⟨[],bw,yw,rows,rfl,ebw4,hRs4,by simp,hd,hk,by rw[hfl];exact hlen,fun l5 H5 ws5 s5 hl5 e5 hP5=>?_⟩
 rw[hfl] at hP5
 have sC:=sB.trans s5
 refine⟨_,rfl,_,_,pj.lst (qI.of e5) (ig (Paired.imp' (fun _ _ z=>z.ev) hP5)),pj.lst (qI.of (sC _ _ eL)) (ig (Paired.imp' (fun _ _ z=>z.same sC) hP)),cn jg,cn jg,?_⟩
 rw[show PyData.eqv (.list (evs.map ml)) (.list (evs.map ml))=true by rw[PyData.eqv];exact iE evs]
 exact k H5 sC
end
theorem VB {c:Int} {ys:List V} (hlen:ys.length=104) (hp:∀(i:Nat) (v:V),i < 104→ys[i]?=some v→v=.str (yo c (i:Int))):ys=(NN c).map V.str:=by
 apply List.ext_getElem?
 intro i
 by_cases hi:i < 104
 ·have hi':i < ys.length:=by omega
  rw[List.getElem?_eq_getElem hi',List.getElem?_map]
  unfold NN
  rw[List.getElem?_map,List.getElem?_range hi]
  exact congrArg some (hp i _ hi (List.getElem?_eq_getElem hi'))
 ·rw[List.getElem?_eq_none_iff.mpr (by omega),List.getElem?_eq_none_iff.mpr (by rw[List.length_map,cK];omega)]
theorem so {rows:List Str} (hF:∀x∈rows,ij x) (hl:rows.length≤150):(rows.map (·.length)).sum + rows.length * (Str.ofString "; ").length≤30000:=by
 have h1:=ZX (n:=180) (xs:=rows) fun x hx=>(hF x hx).sh
 have h2:(Str.ofString "; ").length=2:=by decide +kernel
 rw[h2]
 omega
theorem JX {P:Program} {w:World} {K:PySem.W.Frag} {mg:Str→Option Value} {base:Heap} {k:Nat} {f:Addr} {fd:FuncData} {ps:List Str} {sp sp':Sp} (F:qi P w K mg base (nG P w) k f fd ps sp) (h:∀vs H Q E,sp' vs H Q E→sp vs H Q E0):qi P w K mg base jn k f fd ps sp':=
 ⟨fun vs H Q E q=>F.len vs H Q E0 (h vs H Q E q),fun A outer s H args us vs Q E hr he hb hv hs=>codeAny_mono (F.run A outer s H args us vs Q E0 hr he hb hv (h _ _ _ _ hs)) fun r s' q=>by
  cases r with
  | error e=>obtain⟨_,_,_,_,_,_,_,_,_,_,_,z⟩:=q;exact z.elim
  | ok fl=>cases fl<;>exact q⟩
noncomputable def mI (t:jT):Sp:=fun vs H Q _=>∃(rows:List Str) (ps as:List Str) (qR:List (Str × Str)) (rw:Rw),vs=[.str (Txt.join (Str.ofString "; ") rows)]∧rows≠[]∧(∀x∈rows,ij x)∧rows.length≤150∧gZ rows=.ok (ps,as,qR,rw)∧∀p H',qg H H'→gm t H' p ps as qR rw→Q (.ref p) H'
theorem KQ {t:jT} {vs:List V} {H:Hp} {Q:VK} {E:XK} (h:mI t vs H Q E):ZP t vs H Q E0:=by
 obtain⟨rows,ps,as,qR,rw,rfl,hne,hF,hl,hr,k⟩:=h
 have hsp:Txt.split (Txt.join (Str.ofString "; ") rows) (Str.ofString "; ")=rows:=aP hne fun x hx=>(hF x hx).fr
 have h1:=so hF hl
 have h2:=sN (Str.ofString "; ") rows
 refine⟨_,rfl,by omega,by rw[hsp];exact⟨by omega,fun x hx=>Nat.le_trans (hF x hx).sh (by decide)⟩,fun n e=>?_,fun ps' as' rms' rw' p H' e s hA=>?_⟩
 ·rw[hsp,hr] at e
  cases e
 ·rw[hsp,hr] at e
  cases e
  exact k p H' s hA
theorem Z4 {t:jT} {rows ps as:List Str} {qR:List (Str × Str)} {rw:Rw} {H:Hp} {Q:VK} {E:XK} (hne:rows≠[]) (hF:∀x∈rows,ij x) (hl:rows.length≤150) (hr:gZ rows=.ok (ps,as,qR,rw)) (k:∀p H',qg H H'→gm t H' p ps as qR rw→Q (.ref p) H'):mI t [.str (Txt.join (Str.ofString "; ") rows)] H Q E:=⟨rows,ps,as,qR,rw,rfl,hne,hF,hl,hr,k⟩
theorem uC (ps as:List Str) (qR:List (Str × Str)) (evs:List Ew):rowsOf ps as qR evs≠[]:=by unfold rowsOf;simp
theorem sk:("; acts " : Str).cps.toList=59 :: 32 :: (("acts" : Str).cps.toList ++ [32])∧("; end " : Str).cps.toList=59 :: 32 :: (("end" : Str).cps.toList ++ [32]):=by decide +kernel
theorem Z0 (x y z:Str):Str.ofString "parties " ++ x ++ Str.ofString "; acts " ++ y ++ Str.ofString "; end " ++ z=Txt.join (Str.ofString "; ") (rowsOf [x] [y] [("end",z)] []):=by
 refine xH ?_
 show _=(Txt.join (Str.ofString "; ") [yD ["parties",x],yD ["acts",y],yD ["end",z]]).cps.toList
 rw[join_eq,kG,kG,L2.join_one]
 unfold yD
 rw[join_eq,join_eq,join_eq,ql,ql,ql,L2.join_one,L2.join_one,L2.join_one,cps_append,cps_append,cps_append,cps_append,cps_append,iF.1,sk.1,sk.2]
 simp
theorem oW (c:Int):Vy [yo c 5] [yo c 6] [("end",yo c 7)]:=by
 refine⟨by simp,by simp,by simp,by simp,by simp,by simp,fun x hx=>?_,fun x hx=>?_,fun mn hmn=>?_,?_⟩
 ·rw[List.mem_singleton.mp hx];exact pD c
 ·rw[List.mem_singleton.mp hx];exact pD c
 ·rw[List.mem_singleton.mp hmn];exact⟨by simp [jA],pD c⟩
 ·exact cV (c:=c) (I:=[5,6,7]) (by decide) (by decide)
theorem gm.same {t:jT} {H H':Hp} {p:Addr} {ps as:List Str} {qR:List (Str × Str)} {rw:Rw} (h:gm t H p ps as qR rw) (s:qg H H'):gm t H' p ps as qR rw:=by
 obtain⟨dx,a,b,c,x,vs,e1,e2,e3,e4,h5,h6⟩:=h
 exact⟨dx,a,b,c,x,vs,s _ _ e1,s _ _ e2,s _ _ e3,s _ _ e4,Paired.imp' (fun _ _ z=>z.same s) h5,h6.move (Fm.of s) fun _ h=>.inl h⟩
noncomputable def Qm (K:PySem.W.Frag):Sp:=fun vs H Q _=>∃(a:Addr) (ns:List Int),vs=[.ref a]∧qI K H a (ns.map V.int)∧ns.length≤63∧∀H',Q (.bl true) H'
section
variable {P:Program} {w:World} {K:PySem.W.Frag} {mg:Str→Option Value} {base:Heap} {t:jT}
theorem Z9 (T:Txt K mg t):qi P w K mg base jn 9 t.bJ t.bz ["text"] (mI t):=JX (aW T) fun _ _ _ _ h=>KQ h
seal mI
theorem wI:qe ["_law_script","_law_names","_law_header_here","_law_events_here","_law_text","_law_first","_law_other"] ["_law_script"] (z4 vH):=⟨rfl,rfl,rfl,by decide +kernel,rfl,by decide +kernel,by decide +kernel⟩
set_option maxHeartbeats 2000000 in
theorem Qn (T:Txt K mg t):qi P w K mg base jn 11 t.mf t.dt ["_law_script"] (Qm K):=by
 have G_w_cell_at:qi P w K mg base jn 10 t.wz t.vE ["_law_script","_law_k"] (om K):=(fK T).mono (by decide)
 have G_w_events:qi P w K mg base jn 10 t.gh t.y0 ["_law_names","_law_script"] (sI K):=(tO T).mono (by decide)
 have G_w_header:qi P w K mg base jn 10 t.gd t.gu ["_law_names","_law_cell"] (Zo K):=(nJ T).mono (by decide)
 have G_w_mix:qi P w K mg base jn 10 t.gp t.gy ["_law_cell","_law_k"] tT:=(fL T).mono (by decide)
 have G_w_name:qi P w K mg base jn 10 t.ff t.fW ["_law_cell","_law_k"] iG:=(ai T).mono (by decide)
 have G_w_right:qi P w K mg base jn 10 t.b8 t.bD ["_law_pact","_law_header_here","_law_events_here"] (eQ K t):=(nT T).mono (by decide)
 have G_w_rows:qi P w K mg base jn 10 t.mz t.mm ["_law_header_here","_law_events_here"] (Q8 K):=(a9 T).mono (by decide)
 have G_v_read:qi P w K mg base jn 10 t.bJ t.bz ["text"] (mI t):=(Z9 T).mono (by decide)
 refine T.Z3.fn.ok wI (fun vs H Q E h=>(by obtain⟨_,_,rfl,_⟩:=h;rfl)) (fun cdv A outer s H vs Q E hr h=>?_)
 obtain⟨a,ns,rfl,hS,hl,k⟩:=h
 refine⟨_,(z6 (fS (i:=1) (osc:=z4 vH) (N:=["_law_script","_law_names","_law_header_here","_law_events_here","_law_text","_law_first","_law_other"]) (names:=["_law_script"]) (qD:=[0]) rfl rfl rfl wI.nd ⟨rfl,by decide +kernel,by decide +kernel,by decide +kernel,rfl,rfl,by decide +kernel,by decide +kernel⟩ rfl rfl (wY rfl T.yu (z0 z7 z5)) (fun _ _ _=>(qf G_w_name hr rfl T.cA.mg T.cA.fn.kp T.cA.bd .nil qJ (z0 (qf G_w_mix hr rfl T.jL.mg T.jL.fn.kp T.jL.bd .nil qJ (z0 (qf G_w_cell_at hr rfl T.jF.mg T.jF.fn.kp T.jF.bd .nil qJ (z0 (pv 1) (z0 z7 z5))) (z0 z7 z5))) (z0 (pv 0) z5)))))
   (z6 (qX (i:=2) wI.nd rfl (Or.inl rfl) (qf G_w_header hr rfl T.hU.mg T.hU.fn.kp T.hU.bd .nil qJ (z0 (pv 1) (z0 (qf G_w_mix hr rfl T.jL.mg T.jL.fn.kp T.jL.bd .nil qJ (z0 (qf G_w_cell_at hr rfl T.jF.mg T.jF.fn.kp T.jF.bd .nil qJ (z0 (pv 0) (z0 z7 z5))) (z0 z7 z5))) z5))))
   (z6 (qX (i:=3) wI.nd rfl (Or.inl rfl) (qf G_w_events hr rfl T.bF.mg T.bF.fn.kp T.bF.bd .nil qJ (z0 (pv 1) (z0 (pv 0) z5))))
   (z6 (qX (i:=4) wI.nd rfl (Or.inl rfl) (kh PySem.F.plainAttrs_str PySem.F.slot_str_join PySem.F.type_str_join (fH (K:=K) rfl) qq (z0 (qf G_w_rows hr rfl T.cH.mg T.cH.fn.kp T.cH.bd .nil qJ (z0 (pv 2) (z0 (pv 3) z5))) z5)))
   (z6 (qX (i:=5) wI.nd rfl (Or.inl rfl) (qf G_v_read hr rfl T.yz.mg T.yz.fn.kp T.yz.bd .nil qJ (z0 (pv 4) z5)))
   (z6 (qG (kd (ja (qf G_w_right hr rfl T.xT.mg T.xT.fn.kp T.xT.bd .nil qJ (z0 (pv 5) (z0 (pv 2) (z0 (pv 3) z5))))))
    (z8 (qw vX)) qp)
   (z6 (qX (i:=6) wI.nd rfl (Or.inl rfl) (qf G_v_read hr rfl T.yz.mg T.yz.fn.kp T.yz.bd .nil qJ (z0 (qx qm (qx qm (qx qm (qx qm (qx qm qq (qr (qy (K:=K) rfl) (pv 1) z7 (fun _ _=>rfl))) qq) (qr (qy (K:=K) rfl) (pv 1) z7 (fun _ _=>rfl))) qq) (qr (qy (K:=K) rfl) (pv 1) z7 (fun _ _=>rfl))) z5)))
   (z6 (qG (kd (ja (qf G_w_right hr rfl T.xT.mg T.xT.fn.kp T.xT.bd .nil qJ (z0 (pv 6) (z0 (jN (z0 (qS (z0 (qr (qy (K:=K) rfl) (pv 1) z7 (fun _ _=>rfl)) z5)) (z0 (qS (z0 (qr (qy (K:=K) rfl) (pv 1) z7 (fun _ _=>rfl)) z5)) (z0 (qS (z0 (jN (z0 qq (z0 (qr (qy (K:=K) rfl) (pv 1) z7 (fun _ _=>rfl)) z5))) z5)) z5)))) (z0 (qS z5) z5))))))
    (z8 (qw vX)) qp)
   (z8 (qw (nC (qf G_w_right hr rfl T.xT.mg T.xT.fn.kp T.xT.bd .nil qJ (z0 (qf G_v_read hr rfl T.yz.mg T.yz.fn.kp T.yz.bd .nil qJ (z0 (pv 4) z5)) (z0 (pv 2) (z0 (pv 3) z5)))) (rG (qf G_w_right hr rfl T.xT.mg T.xT.fn.kp T.xT.bd .nil qJ (z0 (pv 5) (z0 (pv 2) (z0 (pv 3) z5)))))))))))))))),?_⟩
 walk_at "rd"
 have hc:=ou (wA ns 1) 60
 have hcell:=ou (wA ns 0) 61
 refine wB p8 (fun i _ v=>v=.str (yo (yv (wA ns 1) 60) (i:Int))) (qj (by decide +kernel)) ?_ ?_
 ·intro i y H' Q' hy s' kk
  have hi:i < 104:=by
   have:=(List.getElem?_eq_some_iff.mp hy).1
   simpa using this
  have hy':y=V.int (0 + (i:Int)):=by
   rw[List.getElem?_map,List.getElem?_range (show i < (104:Int).toNat from hi)] at hy
   exact(Option.some.inj hy).symm
  subst hy'
  refine⟨_,rfl,a,1,ns,rfl,s'.seq hS,by decide,?_⟩
  refine⟨_,_,rfl,by decide,by decide,?_⟩
  refine⟨_,rfl,_,_,rfl,hc.1,by omega,by omega,by omega,fun H4 s4=>?_⟩
  rw[Int.zero_add]
  exact kk _ _ s4 rfl
 intro D H1 ys s1 hD e1 hlen hp
 generalize hcc:yv (wA ns 1) 60=c at *
 generalize hce:yv (wA ns 0) 61=cell at *
 obtain rfl:=VB (c:=c) (ys:=ys) (by rw[hlen];simp) fun i v hi hv=>hp i _ v (by rw[List.getElem?_map,List.getElem?_range (show i < (104:Int).toNat from hi)];rfl) hv
 clear hp hlen
 have hA1:qI K H1 D ((NN c).map V.str):=qI.of e1
 have hS1:=s1.seq hS
 refine⟨_,rfl,_,rfl,a,0,ns,rfl,hS1,by decide,?_⟩
 refine⟨_,_,rfl,by decide,by decide,?_⟩
 rw[hce]
 walk_at "rd"
 refine⟨D,c,cell,rfl,hA1,hcell.1,fun ps as qR p H2 hH s2 hp2 eH=>?_⟩
 have hS2:=s2.seq hS1
 have hA2:=s2.seq hA1
 refine⟨_,rfl,_,rfl,D,a,c,ns,rfl,hA2,hS2,hl,fun le H3 ws evs s3 hle e3 hP he=>?_⟩
 have hS3:=s3.seq hS2
 have hA3:=s3.seq hA2
 have hel:=he.len
 have hrl:=@fG ps as qR evs
 have r2:=hH.hd.r2
 have hF:=eY hH.hd.w he.ok
 have hne:=uC ps as qR evs
 obtain⟨rws,erd,efl,edp,eko⟩:=uR hH.hd he.ok he.dp he.nd (by omega)
 have eH3:=eH.same s3
 walk_at "rd"
 refine⟨p,le,ps,as,qR,ws,evs,rfl,eH3,hH.hd.w,qI.of e3,hP,he.ok,by omega,fun lr H4 s4 hlr e4=>?_⟩
 have hsum:=so hF (by omega)
 have hrd:∀{H:Hp} {Q:VK} {E:XK},(∀p H',qg H H'→gm t H' p ps as qR (.pt "whole" [] rws)→Q (.ref p) H')→mI t [.str (Txt.join (Str.ofString "; ") (rowsOf ps as qR evs))] H Q E:=fun kk=>Z4 hne hF (by omega) erd kk
 refine⟨_,lr,_,rfl,rfl,qI.of e4,Nat.le_trans hsum (by decide),?_⟩
 generalize Txt.join (Str.ofString "; ") (rowsOf ps as qR evs)=tx at *
 clear hsum erd hF hne
 walk_at "rd"
 refine hrd fun pf H5 s5 hA5=>?_
 have sA5:=(s4.trans s5)
 walk_at "rd"
 refine⟨pf,p,le,ps,as,qR,rws,ws,evs,rfl,hA5,eH3.same sA5,hH.hd.w,sA5 _ _ e3,Paired.imp' (fun _ _ z=>z.same sA5) hP,efl,edp,eko,he.ok,by omega,fun H6 s6=>?_⟩
 have s36:=sA5.trans s6
 have hA6:=s36.seq hA3
 have hN:=cK c
 have g5:(NN c).getD (5:Int).toNat (Str.ofString "")=yo c 5:=pT c (i:=5) (by decide)
 have g6:(NN c).getD (6:Int).toNat (Str.ofString "")=yo c 6:=pT c (i:=6) (by decide)
 have g7:(NN c).getD (7:Int).toNat (Str.ofString "")=yo c 7:=pT c (i:=7) (by decide)
 have n5:=nD c 5
 have n6:=nD c 6
 have n7:=nD c 7
 have w1:(Str.ofString "parties ").length=8:=by decide +kernel
 have w2:(Str.ofString "; acts ").length=7:=by decide +kernel
 have w3:(Str.ofString "; end ").length=6:=by decide +kernel
 walk_at "rd"
 rw[g5]
 refine⟨qj (by omega),?_⟩
 walk_at "rd"
 rw[g6]
 refine⟨qj (by rw[jE,jE];omega),?_⟩
 walk_at "rd"
 rw[g7]
 refine⟨qj (by rw[jE,jE,jE,jE];omega),?_⟩
 rw[Z0]
 have ho:∀e∈([]:List Ew),e.ok:=fun _ z=>by cases z
 obtain⟨rwo,ero,efo,edo,eko'⟩:=uR (oW c) ho rfl (by simp [vS]) (by simp)
 have hFo:=eY (oW c).w ho
 show mI t [.str (Txt.join (Str.ofString "; ") (rowsOf [yo c 5] [yo c 6] [("end",yo c 7)] []))] H6 _ _
 refine Z4 (uC _ _ _ _) hFo (by rw[fG];simp) ero fun po H7 s7 hA7=>?_
 have hA7':=s7.seq hA6
 walk_at "rd"
 rw[g5]
 intro l8 H8 s8 hl8 e8
 have hA8:=s8.seq hA7'
 walk_at "rd"
 rw[g6]
 intro l9 H9 s9 hl9 e9
 have hA9:=s9.seq hA8
 walk_at "rd"
 rw[g7]
 intro q10 H10 s10 hq10 e10
 walk_at "rd"
 intro l11 H11 s11 hl11 e11
 walk_at "rd"
 intro q12 H12 s12 hq12 e12
 walk_at "rd"
 intro l13 H13 s13 hl13 e13
 have s813:=((((s8.trans s9).trans s10).trans s11).trans s12).trans s13
 have hdo:oS H13 q12 [yo c 5] [yo c 6] [("end",yo c 7)]:=⟨l8,l9,l11,_,s13 _ _ e12,s13 _ _ (s12 _ _ (s11 _ _ (s10 _ _ (s9 _ _ e8)))),s13 _ _ (s12 _ _ (s11 _ _ (s10 _ _ e9))),s13 _ _ (s12 _ _ e11),.cons ⟨q10,rfl,s13 _ _ (s12 _ _ (s11 _ _ e10))⟩ .nil⟩
 have hpo:gm t H13 po [yo c 5] [yo c 6] [("end",yo c 7)] (.pt "whole" [] rwo):=hA7.same s813
 have s313:=(s36.trans s7).trans s813
 have s513:=(s6.trans s7).trans s813
 clear s13 s12 s11 s10 s9 s8 e8 e9 e10 e11 e12 hA7
 refine⟨po,q12,l13,_,_,_,rwo,[],[],rfl,hpo,hdo,(oW c).w,e13,.nil,efo,edo,eko',ho,by simp,fun H14 s14=>?_⟩
 walk_at "rd"
 show mI t [.str tx] H14 _ _
 refine hrd fun pg H15 s15 hA15=>?_
 have s315:=(s313.trans s14).trans s15
 have s515:=(s513.trans s14).trans s15
 clear s36 sA5 s6 s7 s14 s15 s313 s513 s813
 refine⟨_,rfl,_,rfl,?_⟩
 refine⟨pg,p,le,ps,as,qR,rws,ws,evs,rfl,hA15,eH3.same s315,hH.hd.w,s315 _ _ e3,Paired.imp' (fun _ _ z=>z.same s315) hP,efl,edp,eko,he.ok,by omega,fun H16 s16=>?_⟩
 refine⟨_,rfl,pe ?_⟩
 have s316:=s315.trans s16
 have s516:=s515.trans s16
 refine⟨_,rfl,_,rfl,_,rfl,?_⟩
 refine⟨pf,p,le,ps,as,qR,rws,ws,evs,rfl,hA5.same s516,eH3.same s316,hH.hd.w,s316 _ _ e3,Paired.imp' (fun _ _ z=>z.same s316) hP,efl,edp,eko,he.ok,by omega,fun H17 s17=>?_⟩
 exact k H17
theorem aR (T:Txt K mg t) (s:Shared) (u:Value):BindsTo s t.dt ⟨[u],[]⟩ [("_law_script",u)]:=by
 obtain⟨oc,od,kV,doc,pm,an,cdv,ct,osl,e,_⟩:=T.Z3.fn.ex
 rw[e]
 exact .of_eq rfl
theorem aE {H:Hp} {a:Addr} {ns:List Int} (hl:ns.length≤63) (_:Q2 H) (hS:qI K H a (ns.map V.int)):Qm K [.ref a] H (fun v _=>v=.bl true) fun _ _ _=>False:=
 ⟨a,ns,rfl,hS,hl,fun _=>rfl⟩
end
theorem J9:(19:Nat)≤sizeLine:=qj (by decide)
theorem J2 {t0 t1 t2 t3 t4 t5 t6 t7 t8 t9 t10 t11 t12 t13 t14 t15 t16 t17 t18:Tok}:Vals (yb.map V.str) ([.str "acts" t0,.str "any" t1,.str "be" t2,.str "by" t3,.str "calm" t4,.str "done" t5,.str "else" t6,.str "end" t7,.str "in" t8,.str "let" t9,.str "may" t10,.str "must" t11,.str "not" t12,.str "part" t13,.str "parties" t14,.str "rest" t15,.str "sore" t16,.str "to" t17,.str "whole" t18]:List Value):=by
 repeat (first | exact .nil | refine .cons ⟨_,rfl⟩ ?_)
theorem QF:(3:Nat)≤sizeLine:=qj (by decide)
theorem Qg {t0 t1 t2:Tok}:Vals (jA.map V.str) ([.str "calm" t0,.str "sore" t1,.str "end" t2]:List Value):=by
 repeat (first | exact .nil | refine .cons ⟨_,rfl⟩ ?_)
set_option maxHeartbeats 4000000 in
theorem X8 {K:PySem.W.Frag} {h:Heap} {mg:Str→Option Value} (X:K.In h) (G:h.Ns mainGlobals mg)
  {za zb zc zd ze zf zg zh zi zj zk zl zm zn zo zp zq zr zs zt zu zv zw zx zy zz zA zB zC zD zE zF zG zH zI zJ zK zL zM zN zO zP zQ zR zS zT zU zV zW zX zY zZ zaa zab zac zad zae zaf zag zah:Addr}
  {zai zaj:Option Addr} {zak:Array (Option Value)} {zal zam zan zao zap zaq:Value}
  {zar zas:Option Addr} {zat:Array (Option Value)} {zau zav zaw zax zay zaz:Value}
  {zaA zaB:Option Addr} {zaC:Array (Option Value)} {zaD zaE zaF zaG zaH zaI:Value}
  {zaJ zaK:Option Addr} {zaL:Array (Option Value)} {zaM zaN zaO zaP zaQ zaR:Value}
  {zaS zaT:Option Addr} {zaU:Array (Option Value)} {zaV zaW zaX zaY zaZ zba:Value}
  {zbb zbc:Option Addr} {zbd:Array (Option Value)} {zbe zbf zbg zbh zbi zbj:Value}
  {zbk zbl:Option Addr} {zbm:Array (Option Value)} {zbn zbo zbp zbq zbr zbs:Value}
  {zbt zbu:Option Addr} {zbv:Array (Option Value)} {zbw zbx zby zbz zbA zbB:Value}
  {zbC zbD:Option Addr} {zbE:Array (Option Value)} {zbF zbG zbH zbI zbJ zbK:Value}
  {zbL zbM:Option Addr} {zbN:Array (Option Value)} {zbO zbP zbQ zbR zbS zbT:Value}
  {zbU zbV:Option Addr} {zbW:Array (Option Value)} {zbX zbY zbZ zca zcb zcc:Value}
  {zcd zce:Option Addr} {zcf:Array (Option Value)} {zcg zch zci zcj zck zcl:Value}
  {zcm zcn:Option Addr} {zco:Array (Option Value)} {zcp zcq zcr zcs zct zcu:Value}
  {zcv zcw:Option Addr} {zcx:Array (Option Value)} {zcy zcz zcA zcB zcC zcD:Value}
  {zcE zcF:Option Addr} {zcG:Array (Option Value)} {zcH zcI zcJ zcK zcL zcM:Value}
  {zcN zcO:Option Addr} {zcP:Array (Option Value)} {zcQ zcR zcS zcT zcU zcV:Value}
  {zcW zcX:Option Addr} {zcY:Array (Option Value)} {zcZ zda zdb zdc zdd zde:Value}
  {zdf zdg:Option Addr} {zdh:Array (Option Value)} {zdi zdj zdk zdl zdm zdn:Value}
  {zdo zdp:Option Addr} {zdq:Array (Option Value)} {zdr zds zdt zdu zdv zdw:Value}
  {zdx zdy:Option Addr} {zdz:Array (Option Value)} {zdA zdB zdC zdD zdE zdF:Value}
  {zdG zdH:Option Addr} {zdI:Array (Option Value)} {zdJ zdK zdL zdM zdN zdO:Value}
  {zdP zdQ:Option Addr} {zdR:Array (Option Value)} {zdS zdT zdU zdV zdW zdX:Value}
  {zdY zdZ:Option Addr} {zea:Array (Option Value)} {zeb zec zed zee zef zeg:Value}
  {zeh zei:Option Addr} {zej:Array (Option Value)} {zek zel zem zen zeo zep:Value}
  {zeq zer:Option Addr} {zes:Array (Option Value)} {zet zeu zev zew zex zey:Value}
  {zez zeA:Option Addr} {zeB:Array (Option Value)} {zeC zeD zeE zeF zeG zeH:Value}
  {zeI zeJ:Option Addr} {zeK:Array (Option Value)} {zeL zeM zeN zeO zeP zeQ:Value}
  {zeR zeS:Option Addr} {zeT:Array (Option Value)} {zeU zeV zeW zeX zeY zeZ:Value}
  {zfa zfb:Option Addr} {zfc:Array (Option Value)} {zfd zfe zff zfg zfh zfi:Value}
  {zfj zfk:Option Addr} {zfl:Array (Option Value)} {zfm zfn zfo zfp zfq zfr:Value}
  {zfs zft:Option Addr} {zfu:Array (Option Value)} {zfv zfw zfx zfy zfz zfA:Value}
  {zfB zfC:Option Addr} {zfD:Array (Option Value)} {zfE zfF zfG zfH zfI zfJ:Value}
  {zfK zfL:Option Addr} {zfM:Array (Option Value)} {zfN zfO zfP zfQ zfR zfS:Value}
  {zfT zfU:Option Addr} {zfV:Array (Option Value)} {zfW zfX zfY zfZ zga zgb:Value}
  {zgc zgd:Option Addr} {zge:Array (Option Value)} {zgf zgg zgh zgi zgj zgk:Value}
  {zgl zgm:Option Addr} {zgn:Array (Option Value)} {zgo zgp zgq zgr zgs zgt:Value}
  {zgu zgv:Option Addr} {zgw:Array (Option Value)} {zgx zgy zgz zgA zgB zgC:Value}
  {zgD zgE:Option Addr} {zgF:Array (Option Value)} {zgG zgH zgI zgJ zgK zgL:Value}
  {zgM zgN:Option Addr} {zgO:Array (Option Value)} {zgP zgQ zgR zgS zgT zgU:Value}
  {zgV zgW:Option Addr} {zgX:Array (Option Value)} {zgY zgZ zha zhb zhc zhd:Value}
  {zhe zhf:Option Addr} {zhg:Array (Option Value)} {zhh zhi zhj zhk zhl zhm:Value}
  {zhn zho:Option Addr} {zhp:Array (Option Value)} {zhq zhr zhs zht zhu zhv:Value}
  {zhw zhx:Option Addr} {zhy:Array (Option Value)} {zhz zhA zhB zhC zhD zhE:Value}
  {zhF zhG:Option Addr} {zhH:Array (Option Value)} {zhI zhJ zhK zhL zhM zhN:Value}
  {zhO zhP:Option Addr} {zhQ:Array (Option Value)} {zhR zhS zhT zhU zhV zhW:Value}
  {zhX zhY:Option Addr} {zhZ:Array (Option Value)} {zia zib zic zid zie zif:Value}
  {zig zih zii zij zik zil zim zin zio ziq:Tok}
  {zir:Obj} {zis:Obj} {zit:Obj}
  (ziu:PySem.W.nsIn K mainGlobals "PactError" = some (some (.ref zU)))
  (ziv:PySem.W.nsIn K mainGlobals "NoText" = some (some (.ref zV)))
  (ziw:PySem.W.nsIn K mainGlobals "Row" = some (some (.ref zW)))
  (zix:PySem.W.nsIn K mainGlobals "Clause" = some (some (.ref zX)))
  (ziy:PySem.W.nsIn K mainGlobals "Duty" = some (some (.ref zY)))
  (ziz:PySem.W.nsIn K mainGlobals "Leave" = some (some (.ref zZ)))
  (ziA:PySem.W.nsIn K mainGlobals "Ban" = some (some (.ref zaa)))
  (ziB:PySem.W.nsIn K mainGlobals "Power" = some (some (.ref zab)))
  (ziC:PySem.W.nsIn K mainGlobals "Let" = some (some (.ref zac)))
  (ziD:PySem.W.nsIn K mainGlobals "Part" = some (some (.ref zad)))
  (ziE:PySem.W.nsIn K mainGlobals "Pact" = some (some (.ref zae)))
  (ziF:PySem.W.nsIn K mainGlobals "Body" = some (some (.ref zaf)))
  (ziG:PySem.W.nsIn K mainGlobals "KEPT" = some (some (.ref zag)))
  (ziH:PySem.W.nsIn K mainGlobals "LETTERS" = some (some (.str "abcdefghijklmnopqrstuvwxyz" zig)))
  (ziI:PySem.W.nsIn K mainGlobals "FIGURES" = some (some (.str "0123456789" zih)))
  (ziJ:PySem.W.nsIn K mainGlobals "MOST_LETTERS" = some (some (.int 8 zii)))
  (ziK:PySem.W.nsIn K mainGlobals "MOST_FIGURES" = some (some (.int 20 zij)))
  (ziL:PySem.W.nsIn K mainGlobals "MARKS" = some (some (.ref zah)))
  (ziM:PySem.W.nsIn K mainGlobals "MOST_ROOMS" = some (some (.int 12 zik)))
  (ziN:PySem.W.nsIn K mainGlobals "MOST_PARTIES" = some (some (.int 4 zil)))
  (ziO:PySem.W.nsIn K mainGlobals "MOST_ACTS" = some (some (.int 6 zim)))
  (ziP:PySem.W.nsIn K mainGlobals "MOST_ROWS" = some (some (.int 90 zin)))
  (ziQ:PySem.W.nsIn K mainGlobals "MOST_OPEN" = some (some (.int 6 zio)))
  (ziR:PySem.W.nsIn K mainGlobals "FIRST_ROOM" = some (some (.int 2 ziq)))
  (ziS:PySem.W.findIn K (.ref zV) "__init__" = some (some (.ref za)))
  (ziT:K.lookup za=some ⟨zal,zai,.func (PySem.W.fnOf "__init__" "NoText.__init__" (qz jY) (z9 jY) (z4 jY) .none zam zan zao zaj zap zaq),zak⟩)
  (ziU:PySem.W.codeIn K zap "NoText.__init__" = true)
  (ziV:PySem.W.keepIn K (.ref za)=true)
  (ziW:PySem.W.findIn K (.ref zX) "__init__" = some (some (.ref zb)))
  (ziX:K.lookup zb=some ⟨zau,zar,.func (PySem.W.fnOf "__init__" "Clause.__init__" (qz jB) (z9 jB) (z4 jB) .none zav zaw zax zas zay zaz),zat⟩)
  (ziY:PySem.W.codeIn K zay "Clause.__init__" = true)
  (ziZ:PySem.W.keepIn K (.ref zb)=true)
  (zja:PySem.W.findIn K (.ref zX) "number" = some (some (.ref zc)))
  (zjb:K.lookup zc=some ⟨zaD,zaA,.func (PySem.W.fnOf "number" "Clause.number" (qz jl) (z9 jl) (z4 jl) .none zaE zaF zaG zaB zaH zaI),zaC⟩)
  (zjc:PySem.W.codeIn K zaH "Clause.number" = true)
  (zjd:PySem.W.keepIn K (.ref zc)=true)
  (zje:PySem.W.findIn K (.ref zY) "__init__" = some (some (.ref zd)))
  (zjf:K.lookup zd=some ⟨zaM,zaJ,.func (PySem.W.fnOf "__init__" "Duty.__init__" (qz j6) (z9 j6) (z4 j6) .none zaN zaO zaP zaK zaQ zaR),zaL⟩)
  (zjg:PySem.W.codeIn K zaQ "Duty.__init__" = true)
  (zjh:PySem.W.keepIn K (.ref zd)=true)
  (zji:PySem.W.findIn K (.ref zY) "number" = some (some (.ref ze)))
  (zjj:K.lookup ze=some ⟨zaV,zaS,.func (PySem.W.fnOf "number" "Duty.number" (qz jS) (z9 jS) (z4 jS) .none zaW zaX zaY zaT zaZ zba),zaU⟩)
  (zjk:PySem.W.codeIn K zaZ "Duty.number" = true)
  (zjl:PySem.W.keepIn K (.ref ze)=true)
  (zjm:PySem.W.findIn K (.ref zaa) "__init__" = some (some (.ref zf)))
  (zjn:K.lookup zf=some ⟨zbe,zbb,.func (PySem.W.fnOf "__init__" "Ban.__init__" (qz xG) (z9 xG) (z4 xG) .none zbf zbg zbh zbc zbi zbj),zbd⟩)
  (zjo:PySem.W.codeIn K zbi "Ban.__init__" = true)
  (zjp:PySem.W.keepIn K (.ref zf)=true)
  (zjq:PySem.W.findIn K (.ref zab) "__init__" = some (some (.ref zg)))
  (zjr:K.lookup zg=some ⟨zbn,zbk,.func (PySem.W.fnOf "__init__" "Power.__init__" (qz jR) (z9 jR) (z4 jR) .none zbo zbp zbq zbl zbr zbs),zbm⟩)
  (zjs:PySem.W.codeIn K zbr "Power.__init__" = true)
  (zjt:PySem.W.keepIn K (.ref zg)=true)
  (zju:PySem.W.findIn K (.ref zac) "__init__" = some (some (.ref zh)))
  (zjv:K.lookup zh=some ⟨zbw,zbt,.func (PySem.W.fnOf "__init__" "Let.__init__" (qz xV) (z9 xV) (z4 xV) .none zbx zby zbz zbu zbA zbB),zbv⟩)
  (zjw:PySem.W.codeIn K zbA "Let.__init__" = true)
  (zjx:PySem.W.keepIn K (.ref zh)=true)
  (zjy:PySem.W.findIn K (.ref zad) "__init__" = some (some (.ref zi)))
  (zjz:K.lookup zi=some ⟨zbF,zbC,.func (PySem.W.fnOf "__init__" "Part.__init__" (qz xw) (z9 xw) (z4 xw) .none zbG zbH zbI zbD zbJ zbK),zbE⟩)
  (zjA:PySem.W.codeIn K zbJ "Part.__init__" = true)
  (zjB:PySem.W.keepIn K (.ref zi)=true)
  (zjC:PySem.W.findIn K (.ref zae) "__init__" = some (some (.ref zj)))
  (zjD:K.lookup zj=some ⟨zbO,zbL,.func (PySem.W.fnOf "__init__" "Pact.__init__" (qz j7) (z9 j7) (z4 j7) .none zbP zbQ zbR zbM zbS zbT),zbN⟩)
  (zjE:PySem.W.codeIn K zbS "Pact.__init__" = true)
  (zjF:PySem.W.keepIn K (.ref zj)=true)
  (zjG:PySem.W.nsIn K mainGlobals "is_name" = some (some (.ref zk)))
  (zjH:K.lookup zk=some ⟨zbX,zbU,.func (PySem.W.fnOf "is_name" "is_name" (qz xj) (z9 xj) (z4 xj) .none zbY zbZ zca zbV zcb zcc),zbW⟩)
  (zjI:PySem.W.codeIn K zcb "is_name" = true)
  (zjJ:PySem.W.keepIn K (.ref zk)=true)
  (zjK:PySem.W.nsIn K mainGlobals "number_of" = some (some (.ref zl)))
  (zjL:K.lookup zl=some ⟨zcg,zcd,.func (PySem.W.fnOf "number_of" "number_of" (qz jX) (z9 jX) (z4 jX) .none zch zci zcj zce zck zcl),zcf⟩)
  (zjM:PySem.W.codeIn K zck "number_of" = true)
  (zjN:PySem.W.keepIn K (.ref zl)=true)
  (zjO:PySem.W.nsIn K mainGlobals "written_with" = some (some (.ref zm)))
  (zjP:K.lookup zm=some ⟨zcp,zcm,.func (PySem.W.fnOf "written_with" "written_with" (qz qN) (z9 qN) (z4 qN) .none zcq zcr zcs zcn zct zcu),zco⟩)
  (zjQ:PySem.W.codeIn K zct "written_with" = true)
  (zjR:PySem.W.keepIn K (.ref zm)=true)
  (zjS:PySem.W.nsIn K mainGlobals "names_of" = some (some (.ref zn)))
  (zjT:K.lookup zn=some ⟨zcy,zcv,.func (PySem.W.fnOf "names_of" "names_of" (qz jC) (z9 jC) (z4 jC) .none zcz zcA zcB zcw zcC zcD),zcx⟩)
  (zjU:PySem.W.codeIn K zcC "names_of" = true)
  (zjV:PySem.W.keepIn K (.ref zn)=true)
  (zjW:PySem.W.nsIn K mainGlobals "are_names" = some (some (.ref zo)))
  (zjX:K.lookup zo=some ⟨zcH,zcE,.func (PySem.W.fnOf "are_names" "are_names" (qz jf) (z9 jf) (z4 jf) .none zcI zcJ zcK zcF zcL zcM),zcG⟩)
  (zjY:PySem.W.codeIn K zcL "are_names" = true)
  (zjZ:PySem.W.keepIn K (.ref zo)=true)
  (zka:PySem.W.nsIn K mainGlobals "room_of" = some (some (.ref zp)))
  (zkb:K.lookup zp=some ⟨zcQ,zcN,.func (PySem.W.fnOf "room_of" "room_of" (qz j8) (z9 j8) (z4 j8) .none zcR zcS zcT zcO zcU zcV),zcP⟩)
  (zkc:PySem.W.codeIn K zcU "room_of" = true)
  (zkd:PySem.W.keepIn K (.ref zp)=true)
  (zke:PySem.W.nsIn K mainGlobals "let_of" = some (some (.ref zq)))
  (zkf:K.lookup zq=some ⟨zcZ,zcW,.func (PySem.W.fnOf "let_of" "let_of" (qz xX) (z9 xX) (z4 xX) .none zda zdb zdc zcX zdd zde),zcY⟩)
  (zkg:PySem.W.codeIn K zdd "let_of" = true)
  (zkh:PySem.W.keepIn K (.ref zq)=true)
  (zki:PySem.W.nsIn K mainGlobals "part_of" = some (some (.ref zr)))
  (zkj:K.lookup zr=some ⟨zdi,zdf,.func (PySem.W.fnOf "part_of" "part_of" (qz j9) (z9 j9) (z4 j9) .none zdj zdk zdl zdg zdm zdn),zdh⟩)
  (zkk:PySem.W.codeIn K zdm "part_of" = true)
  (zkl:PySem.W.keepIn K (.ref zr)=true)
  (zkm:PySem.W.nsIn K mainGlobals "clause_of" = some (some (.ref zs)))
  (zkn:K.lookup zs=some ⟨zdr,zdo,.func (PySem.W.fnOf "clause_of" "clause_of" (qz jV) (z9 jV) (z4 jV) .none zds zdt zdu zdp zdv zdw),zdq⟩)
  (zko:PySem.W.codeIn K zdv "clause_of" = true)
  (zkp:PySem.W.keepIn K (.ref zs)=true)
  (zkq:PySem.W.nsIn K mainGlobals "fits_form" = some (some (.ref zt)))
  (zkr:K.lookup zt=some ⟨zdA,zdx,.func (PySem.W.fnOf "fits_form" "fits_form" (qz jm) (z9 jm) (z4 jm) .none zdB zdC zdD zdy zdE zdF),zdz⟩)
  (zks:PySem.W.codeIn K zdE "fits_form" = true)
  (zkt:PySem.W.keepIn K (.ref zt)=true)
  (zku:PySem.W.nsIn K mainGlobals "fits_place" = some (some (.ref zu)))
  (zkv:K.lookup zu=some ⟨zdJ,zdG,.func (PySem.W.fnOf "fits_place" "fits_place" (qz jd) (z9 jd) (z4 jd) .none zdK zdL zdM zdH zdN zdO),zdI⟩)
  (zkw:PySem.W.codeIn K zdN "fits_place" = true)
  (zkx:PySem.W.keepIn K (.ref zu)=true)
  (zky:PySem.W.nsIn K mainGlobals "read" = some (some (.ref zv)))
  (zkz:K.lookup zv=some ⟨zdS,zdP,.func (PySem.W.fnOf "read" "read" (qz k9) (z9 k9) (z4 k9) .none zdT zdU zdV zdQ zdW zdX),zdR⟩)
  (zkA:PySem.W.codeIn K zdW "read" = true)
  (zkB:PySem.W.keepIn K (.ref zv)=true)
  (zkC:PySem.W.nsIn K mainGlobals "read_names" = some (some (.ref zw)))
  (zkD:K.lookup zw=some ⟨zeb,zdY,.func (PySem.W.fnOf "read_names" "read_names" (qz jc) (z9 jc) (z4 jc) .none zec zed zee zdZ zef zeg),zea⟩)
  (zkE:PySem.W.codeIn K zef "read_names" = true)
  (zkF:PySem.W.keepIn K (.ref zw)=true)
  (zkG:PySem.W.nsIn K mainGlobals "told_once" = some (some (.ref zx)))
  (zkH:K.lookup zx=some ⟨zek,zeh,.func (PySem.W.fnOf "told_once" "told_once" (qz jW) (z9 jW) (z4 jW) .none zel zem zen zei zeo zep),zej⟩)
  (zkI:PySem.W.codeIn K zeo "told_once" = true)
  (zkJ:PySem.W.keepIn K (.ref zx)=true)
  (zkK:PySem.W.nsIn K mainGlobals "read_rooms" = some (some (.ref zy)))
  (zkL:K.lookup zy=some ⟨zet,zeq,.func (PySem.W.fnOf "read_rooms" "read_rooms" (qz jw) (z9 jw) (z4 jw) .none zeu zev zew zer zex zey),zes⟩)
  (zkM:PySem.W.codeIn K zex "read_rooms" = true)
  (zkN:PySem.W.keepIn K (.ref zy)=true)
  (zkO:PySem.W.nsIn K mainGlobals "read_whole" = some (some (.ref zz)))
  (zkP:K.lookup zz=some ⟨zeC,zez,.func (PySem.W.fnOf "read_whole" "read_whole" (qz ju) (z9 ju) (z4 ju) .none zeD zeE zeF zeA zeG zeH),zeB⟩)
  (zkQ:PySem.W.codeIn K zeG "read_whole" = true)
  (zkR:PySem.W.keepIn K (.ref zz)=true)
  (zkS:PySem.W.findIn K (.ref zaf) "__init__" = some (some (.ref zA)))
  (zkT:K.lookup zA=some ⟨zeL,zeI,.func (PySem.W.fnOf "__init__" "Body.__init__" (qz xx) (z9 xx) (z4 xx) .none zeM zeN zeO zeJ zeP zeQ),zeK⟩)
  (zkU:PySem.W.codeIn K zeP "Body.__init__" = true)
  (zkV:PySem.W.keepIn K (.ref zA)=true)
  (zkW:PySem.W.findIn K (.ref zaf) "many_open" = some (some (.ref zB)))
  (zkX:K.lookup zB=some ⟨zeU,zeR,.func (PySem.W.fnOf "many_open" "Body.many_open" (qz jz) (z9 jz) (z4 jz) .none zeV zeW zeX zeS zeY zeZ),zeT⟩)
  (zkY:PySem.W.codeIn K zeY "Body.many_open" = true)
  (zkZ:PySem.W.keepIn K (.ref zB)=true)
  (zla:PySem.W.findIn K (.ref zaf) "takes" = some (some (.ref zC)))
  (zlb:K.lookup zC=some ⟨zfd,zfa,.func (PySem.W.fnOf "takes" "Body.takes" (qz jU) (z9 jU) (z4 jU) .none zfe zff zfg zfb zfh zfi),zfc⟩)
  (zlc:PySem.W.codeIn K zfh "Body.takes" = true)
  (zld:PySem.W.keepIn K (.ref zC)=true)
  (zle:PySem.W.findIn K (.ref zaf) "takes_done" = some (some (.ref zD)))
  (zlf:K.lookup zD=some ⟨zfm,zfj,.func (PySem.W.fnOf "takes_done" "Body.takes_done" (qz qA) (z9 qA) (z4 qA) .none zfn zfo zfp zfk zfq zfr),zfl⟩)
  (zlg:PySem.W.codeIn K zfq "Body.takes_done" = true)
  (zlh:PySem.W.keepIn K (.ref zD)=true)
  (zli:PySem.W.findIn K (.ref zaf) "takes_head" = some (some (.ref zE)))
  (zlj:K.lookup zE=some ⟨zfv,zfs,.func (PySem.W.fnOf "takes_head" "Body.takes_head" (qz q0) (z9 q0) (z4 q0) .none zfw zfx zfy zft zfz zfA),zfu⟩)
  (zlk:PySem.W.codeIn K zfz "Body.takes_head" = true)
  (zll:PySem.W.keepIn K (.ref zE)=true)
  (zlm:PySem.W.findIn K (.ref zaf) "takes_clause" = some (some (.ref zF)))
  (zln:K.lookup zF=some ⟨zfE,zfB,.func (PySem.W.fnOf "takes_clause" "Body.takes_clause" (qz qM) (z9 qM) (z4 qM) .none zfF zfG zfH zfC zfI zfJ),zfD⟩)
  (zlo:PySem.W.codeIn K zfI "Body.takes_clause" = true)
  (zlp:PySem.W.keepIn K (.ref zF)=true)
  (zlq:PySem.W.findIn K (.ref zaf) "put_in" = some (some (.ref zG)))
  (zlr:K.lookup zG=some ⟨zfN,zfK,.func (PySem.W.fnOf "put_in" "Body.put_in" (qz jJ) (z9 jJ) (z4 jJ) .none zfO zfP zfQ zfL zfR zfS),zfM⟩)
  (zls:PySem.W.codeIn K zfR "Body.put_in" = true)
  (zlt:PySem.W.keepIn K (.ref zG)=true)
  (zlu:PySem.W.findIn K (.ref zaf) "closed" = some (some (.ref zH)))
  (zlv:K.lookup zH=some ⟨zfW,zfT,.func (PySem.W.fnOf "closed" "Body.closed" (qz jG) (z9 jG) (z4 jG) .none zfX zfY zfZ zfU zga zgb),zfV⟩)
  (zlw:PySem.W.codeIn K zga "Body.closed" = true)
  (zlx:PySem.W.keepIn K (.ref zH)=true)
  (zly:PySem.W.nsIn K mainGlobals "_law_cell_at" = some (some (.ref zI)))
  (zlz:K.lookup zI=some ⟨zgf,zgc,.func (PySem.W.fnOf "_law_cell_at" "_law_cell_at" (qz xq) (z9 xq) (z4 xq) .none zgg zgh zgi zgd zgj zgk),zge⟩)
  (zlA:PySem.W.codeIn K zgj "_law_cell_at" = true)
  (zlB:PySem.W.keepIn K (.ref zI)=true)
  (zlC:PySem.W.nsIn K mainGlobals "_law_mix" = some (some (.ref zJ)))
  (zlD:K.lookup zJ=some ⟨zgo,zgl,.func (PySem.W.fnOf "_law_mix" "_law_mix" (qz wo) (z9 wo) (z4 wo) .none zgp zgq zgr zgm zgs zgt),zgn⟩)
  (zlE:PySem.W.codeIn K zgs "_law_mix" = true)
  (zlF:PySem.W.keepIn K (.ref zJ)=true)
  (zlG:PySem.W.nsIn K mainGlobals "_law_name" = some (some (.ref zK)))
  (zlH:K.lookup zK=some ⟨zgx,zgu,.func (PySem.W.fnOf "_law_name" "_law_name" (qz kO) (z9 kO) (z4 kO) .none zgy zgz zgA zgv zgB zgC),zgw⟩)
  (zlI:PySem.W.codeIn K zgB "_law_name" = true)
  (zlJ:PySem.W.keepIn K (.ref zK)=true)
  (zlK:PySem.W.nsIn K mainGlobals "_law_event" = some (some (.ref zL)))
  (zlL:K.lookup zL=some ⟨zgG,zgD,.func (PySem.W.fnOf "_law_event" "_law_event" (qz xl) (z9 xl) (z4 xl) .none zgH zgI zgJ zgE zgK zgL),zgF⟩)
  (zlM:PySem.W.codeIn K zgK "_law_event" = true)
  (zlN:PySem.W.keepIn K (.ref zL)=true)
  (zlO:PySem.W.nsIn K mainGlobals "_law_events" = some (some (.ref zM)))
  (zlP:K.lookup zM=some ⟨zgP,zgM,.func (PySem.W.fnOf "_law_events" "_law_events" (qz xK) (z9 xK) (z4 xK) .none zgQ zgR zgS zgN zgT zgU),zgO⟩)
  (zlQ:PySem.W.codeIn K zgT "_law_events" = true)
  (zlR:PySem.W.keepIn K (.ref zM)=true)
  (zlS:PySem.W.nsIn K mainGlobals "_law_header" = some (some (.ref zN)))
  (zlT:K.lookup zN=some ⟨zgY,zgV,.func (PySem.W.fnOf "_law_header" "_law_header" (qz xJ) (z9 xJ) (z4 xJ) .none zgZ zha zhb zgW zhc zhd),zgX⟩)
  (zlU:PySem.W.codeIn K zhc "_law_header" = true)
  (zlV:PySem.W.keepIn K (.ref zN)=true)
  (zlW:PySem.W.nsIn K mainGlobals "_law_row" = some (some (.ref zO)))
  (zlX:K.lookup zO=some ⟨zhh,zhe,.func (PySem.W.fnOf "_law_row" "_law_row" (qz wJ) (z9 wJ) (z4 wJ) .none zhi zhj zhk zhf zhl zhm),zhg⟩)
  (zlY:PySem.W.codeIn K zhl "_law_row" = true)
  (zlZ:PySem.W.keepIn K (.ref zO)=true)
  (zma:PySem.W.nsIn K mainGlobals "_law_rows" = some (some (.ref zP)))
  (zmb:K.lookup zP=some ⟨zhq,zhn,.func (PySem.W.fnOf "_law_rows" "_law_rows" (qz ko) (z9 ko) (z4 ko) .none zhr zhs zht zho zhu zhv),zhp⟩)
  (zmc:PySem.W.codeIn K zhu "_law_rows" = true)
  (zmd:PySem.W.keepIn K (.ref zP)=true)
  (zme:PySem.W.nsIn K mainGlobals "_law_clause" = some (some (.ref zQ)))
  (zmf:K.lookup zQ=some ⟨zhz,zhw,.func (PySem.W.fnOf "_law_clause" "_law_clause" (qz xY) (z9 xY) (z4 xY) .none zhA zhB zhC zhx zhD zhE),zhy⟩)
  (zmg:PySem.W.codeIn K zhD "_law_clause" = true)
  (zmh:PySem.W.keepIn K (.ref zQ)=true)
  (zmi:PySem.W.nsIn K mainGlobals "_law_found" = some (some (.ref zR)))
  (zmj:K.lookup zR=some ⟨zhI,zhF,.func (PySem.W.fnOf "_law_found" "_law_found" (qz kj) (z9 kj) (z4 kj) .none zhJ zhK zhL zhG zhM zhN),zhH⟩)
  (zmk:PySem.W.codeIn K zhM "_law_found" = true)
  (zml:PySem.W.keepIn K (.ref zR)=true)
  (zmm:PySem.W.nsIn K mainGlobals "_law_right" = some (some (.ref zS)))
  (zmn:K.lookup zS=some ⟨zhR,zhO,.func (PySem.W.fnOf "_law_right" "_law_right" (qz xB) (z9 xB) (z4 xB) .none zhS zhT zhU zhP zhV zhW),zhQ⟩)
  (zmo:PySem.W.codeIn K zhV "_law_right" = true)
  (zmp:PySem.W.keepIn K (.ref zS)=true)
  (zmq:PySem.W.nsIn K mainGlobals "law" = some (some (.ref zT)))
  (zmr:K.lookup zT=some ⟨zia,zhX,.func (PySem.W.fnOf "law" "law" (qz vH) (z9 vH) (z4 vH) .none zib zic zid zhY zie zif),zhZ⟩)
  (zms:PySem.W.codeIn K zie "law" = true)
  (zmt:PySem.W.keepIn K (.ref zT)=true)
  (zmu:PySem.W.nsIn K mainGlobals "list" = some none)
  (zmv:PySem.W.nsIn K mainGlobals "len" = some none)
  (zmw:PySem.W.nsIn K mainGlobals "range" = some none)
  (zmx:PySem.W.nsIn K mainGlobals "all" = some none)
  (zmy:PySem.W.nsIn K mainGlobals "int" = some none)
  (zmz:PySem.W.nsIn K mainGlobals "str" = some none)
  (zmA:PySem.W.nsIn K mainGlobals "isinstance" = some none)
  (zmB:PySem.W.nsIn K mainGlobals "bool" = some none)
  (zmC:PySem.W.nsIn K mainGlobals "tuple" = some none)
  (zmD:PySem.W.nsIn K mainGlobals "zip" = some none)
  (zmE:PySem.W.nsIn K mainGlobals "ValueError" = some none)
  (zmF:PySem.W.nsIn K mainGlobals "set" = some none)
  (zmG:K.lookup zag=some zir)
  (zmH:∃(its:Array Value) (n:Nat),zir.cls=.type "tuple"∧zir.data=.seq its n∧its.size≤sizeLine∧Vals (yb.map V.str) its.toList)
  (zmI:K.lookup zah=some zis)
  (zmJ:∃(its:Array Value) (n:Nat),zis.cls=.type "tuple"∧zis.data=.seq its n∧its.size≤sizeLine∧Vals (jA.map V.str) its.toList)
  (zmK:PySem.W.plainGet K zX Str.empty=true)
  (zmL:PySem.W.hasDictIn K zX=true)
  (zmM:PySem.W.plainOver K zX=true)
  (zmN:PySem.W.findIn K (.ref zX) "__setattr__" = some (some (.builtin "object.__setattr__")))
  (zmO:PySem.W.findIn K (.ref zX) "act" = some none)
  (zmP:PySem.W.findIn K (.ref zX) "label" = some none)
  (zmQ:PySem.W.findIn K (.ref zX) "room" = some none)
  (zmR:PySem.W.findIn K (.ref zX) "turns" = some none)
  (zmS:PySem.W.findIn K (.ref zX) "who" = some none)
  (zmT:PySem.W.makesIn K zX=true)
  (zmU:PySem.W.findIn K (.ref zX) "__init__" = some (some (.ref zb)))
  (zmV:PySem.W.isFn K (.ref zb)=true)
  (zmW:PySem.W.keepIn K (.ref zX)=true)
  (zmX:PySem.W.plainGet K zY Str.empty=true)
  (zmY:PySem.W.hasDictIn K zY=true)
  (zmZ:PySem.W.plainOver K zY=true)
  (zna:PySem.W.findIn K (.ref zY) "__setattr__" = some (some (.builtin "object.__setattr__")))
  (znb:PySem.W.findIn K (.ref zY) "act" = some none)
  (znc:PySem.W.findIn K (.ref zY) "label" = some none)
  (znd:PySem.W.findIn K (.ref zY) "room" = some none)
  (zne:PySem.W.findIn K (.ref zY) "turns" = some none)
  (znf:PySem.W.findIn K (.ref zY) "who" = some none)
  (zng:PySem.W.makesIn K zY=true)
  (znh:PySem.W.findIn K (.ref zY) "__init__" = some (some (.ref zd)))
  (zni:PySem.W.isFn K (.ref zd)=true)
  (znj:PySem.W.keepIn K (.ref zY)=true)
  (znk:PySem.W.plainGet K zZ Str.empty=true)
  (znl:PySem.W.hasDictIn K zZ=true)
  (znm:PySem.W.plainOver K zZ=true)
  (znn:PySem.W.findIn K (.ref zZ) "__setattr__" = some (some (.builtin "object.__setattr__")))
  (zno:PySem.W.findIn K (.ref zZ) "act" = some none)
  (znp:PySem.W.findIn K (.ref zZ) "label" = some none)
  (znq:PySem.W.findIn K (.ref zZ) "room" = some none)
  (znr:PySem.W.findIn K (.ref zZ) "turns" = some none)
  (zns:PySem.W.findIn K (.ref zZ) "who" = some none)
  (znt:PySem.W.makesIn K zZ=true)
  (znu:PySem.W.findIn K (.ref zZ) "__init__" = some (some (.ref zb)))
  (znv:PySem.W.isFn K (.ref zb)=true)
  (znw:PySem.W.keepIn K (.ref zZ)=true)
  (znx:PySem.W.plainGet K zaa Str.empty=true)
  (zny:PySem.W.hasDictIn K zaa=true)
  (znz:PySem.W.plainOver K zaa=true)
  (znA:PySem.W.findIn K (.ref zaa) "__setattr__" = some (some (.builtin "object.__setattr__")))
  (znB:PySem.W.findIn K (.ref zaa) "act" = some none)
  (znC:PySem.W.findIn K (.ref zaa) "label" = some none)
  (znD:PySem.W.findIn K (.ref zaa) "room" = some none)
  (znE:PySem.W.findIn K (.ref zaa) "turns" = some none)
  (znF:PySem.W.findIn K (.ref zaa) "who" = some none)
  (znG:PySem.W.makesIn K zaa=true)
  (znH:PySem.W.findIn K (.ref zaa) "__init__" = some (some (.ref zf)))
  (znI:PySem.W.isFn K (.ref zf)=true)
  (znJ:PySem.W.keepIn K (.ref zaa)=true)
  (znK:PySem.W.plainGet K zab Str.empty=true)
  (znL:PySem.W.hasDictIn K zab=true)
  (znM:PySem.W.plainOver K zab=true)
  (znN:PySem.W.findIn K (.ref zab) "__setattr__" = some (some (.builtin "object.__setattr__")))
  (znO:PySem.W.findIn K (.ref zab) "act" = some none)
  (znP:PySem.W.findIn K (.ref zab) "label" = some none)
  (znQ:PySem.W.findIn K (.ref zab) "room" = some none)
  (znR:PySem.W.findIn K (.ref zab) "turns" = some none)
  (znS:PySem.W.findIn K (.ref zab) "who" = some none)
  (znT:PySem.W.makesIn K zab=true)
  (znU:PySem.W.findIn K (.ref zab) "__init__" = some (some (.ref zg)))
  (znV:PySem.W.isFn K (.ref zg)=true)
  (znW:PySem.W.keepIn K (.ref zab)=true)
  (znX:PySem.W.plainGet K zac Str.empty=true)
  (znY:PySem.W.hasDictIn K zac=true)
  (znZ:PySem.W.plainOver K zac=true)
  (zoa:PySem.W.findIn K (.ref zac) "__setattr__" = some (some (.builtin "object.__setattr__")))
  (zob:PySem.W.findIn K (.ref zac) "name" = some none)
  (zoc:PySem.W.findIn K (.ref zac) "value" = some none)
  (zod:PySem.W.makesIn K zac=true)
  (zoe:PySem.W.findIn K (.ref zac) "__init__" = some (some (.ref zh)))
  (zof:PySem.W.isFn K (.ref zh)=true)
  (zog:PySem.W.keepIn K (.ref zac)=true)
  (zoh:PySem.W.plainGet K zad Str.empty=true)
  (zoi:PySem.W.hasDictIn K zad=true)
  (zoj:PySem.W.plainOver K zad=true)
  (zok:PySem.W.findIn K (.ref zad) "__setattr__" = some (some (.builtin "object.__setattr__")))
  (zol:PySem.W.findIn K (.ref zad) "name" = some none)
  (zom:PySem.W.findIn K (.ref zad) "rooms" = some none)
  (zon:PySem.W.findIn K (.ref zad) "rows" = some none)
  (zoo:PySem.W.makesIn K zad=true)
  (zop:PySem.W.findIn K (.ref zad) "__init__" = some (some (.ref zi)))
  (zoq:PySem.W.isFn K (.ref zi)=true)
  (zor:PySem.W.keepIn K (.ref zad)=true)
  (zos:PySem.W.plainGet K zae Str.empty=true)
  (zot:PySem.W.hasDictIn K zae=true)
  (zou:PySem.W.plainOver K zae=true)
  (zov:PySem.W.findIn K (.ref zae) "__setattr__" = some (some (.builtin "object.__setattr__")))
  (zow:PySem.W.findIn K (.ref zae) "acts" = some none)
  (zox:PySem.W.findIn K (.ref zae) "parties" = some none)
  (zoy:PySem.W.findIn K (.ref zae) "rooms" = some none)
  (zoz:PySem.W.findIn K (.ref zae) "whole" = some none)
  (zoA:PySem.W.makesIn K zae=true)
  (zoB:PySem.W.findIn K (.ref zae) "__init__" = some (some (.ref zj)))
  (zoC:PySem.W.isFn K (.ref zj)=true)
  (zoD:PySem.W.keepIn K (.ref zae)=true)
  (zoE:PySem.W.plainGet K zaf Str.empty=true)
  (zoF:PySem.W.hasDictIn K zaf=true)
  (zoG:PySem.W.plainOver K zaf=true)
  (zoH:PySem.W.findIn K (.ref zaf) "__setattr__" = some (some (.builtin "object.__setattr__")))
  (zoI:PySem.W.findIn K (.ref zaf) "bodies" = some none)
  (zoJ:PySem.W.findIn K (.ref zaf) "heads" = some none)
  (zoK:PySem.W.findIn K (.ref zaf) "labels" = some none)
  (zoL:PySem.W.makesIn K zaf=true)
  (zoM:PySem.W.findIn K (.ref zaf) "__init__" = some (some (.ref zA)))
  (zoN:PySem.W.isFn K (.ref zA)=true)
  (zoO:PySem.W.keepIn K (.ref zaf)=true)
  (zoP:PySem.W.findIn K (.ref zaf) "many_open" = some (some (.ref zB)))
  (zoQ:PySem.W.isFn K (.ref zB)=true)
  (zoR:PySem.W.findIn K (.ref zaf) "takes" = some (some (.ref zC)))
  (zoS:PySem.W.isFn K (.ref zC)=true)
  (zoT:PySem.W.findIn K (.ref zaf) "takes_done" = some (some (.ref zD)))
  (zoU:PySem.W.isFn K (.ref zD)=true)
  (zoV:PySem.W.findIn K (.ref zaf) "takes_head" = some (some (.ref zE)))
  (zoW:PySem.W.isFn K (.ref zE)=true)
  (zoX:PySem.W.findIn K (.ref zaf) "takes_clause" = some (some (.ref zF)))
  (zoY:PySem.W.isFn K (.ref zF)=true)
  (zoZ:PySem.W.findIn K (.ref zaf) "put_in" = some (some (.ref zG)))
  (zpa:PySem.W.isFn K (.ref zG)=true)
  (zpb:PySem.W.findIn K (.ref zaf) "closed" = some (some (.ref zH)))
  (zpc:PySem.W.isFn K (.ref zH)=true)
  (zpd:K.lookup zV=some zit)
  (zpe:VG zV zit=true)
  (zpf:PySem.W.findIn K (.ref zV) "__setattr__" = some (some (.builtin "object.__setattr__")))
  (zpg:PySem.W.findIn K (.ref zV) "__init__" = some (some (.ref za)))
  (zph:PySem.W.isFn K (.ref za)=true)
  (zpi:PySem.W.keepIn K (.ref zV)=true)
  (zpj:PySem.W.findIn K (.ref zV) "row" = some none)
  (zpk:PySem.W.specialIn K (.ref zX) "__getattribute__" = some (some (.builtin "type.__getattribute__")))
  (zpl:PySem.W.readsIn K zX (.type "type")=true)
  (zpm:PySem.W.findCls K (.ref zX) (.type "type") "__init__" = some (.val (.ref zb)))
  (zpn:PySem.W.specialIn K (.ref zZ) "__getattribute__" = some (some (.builtin "type.__getattribute__")))
  (zpo:PySem.W.readsIn K zZ (.type "type")=true)
  (zpp:PySem.W.findCls K (.ref zZ) (.type "type") "__init__" = some (.val (.ref zb)))
  (zpq:PySem.W.kitOne K (.ref zY) (.ref zY)=some true)
  (zpr:PySem.W.kitOne K (.ref zZ) (.ref zY)=some false)
  (zps:PySem.W.kitOne K (.ref zZ) (.ref zZ)=some true)
  (zpt:PySem.W.kitOne K (.ref zZ) (.ref zaa)=some false)
  (zpu:PySem.W.kitOne K (.ref zZ) (.ref zab)=some false)
  (zpv:PySem.W.kitOne K (.ref zaa) (.ref zY)=some false)
  (zpw:PySem.W.kitOne K (.ref zaa) (.ref zaa)=some true)
  (zpx:PySem.W.kitOne K (.ref zab) (.ref zY)=some false)
  (zpy:PySem.W.kitOne K (.ref zab) (.ref zaa)=some false)
  (zpz:PySem.W.kitOne K (.ref zab) (.ref zab)=some true)
  (zpA:PySem.W.kitOne K (.ref zY) (.ref zad)=some false)
  (zpB:PySem.W.kitOne K (.ref zY) (.ref zac)=some false)
  (zpC:PySem.W.kitOne K (.ref zZ) (.ref zad)=some false)
  (zpD:PySem.W.kitOne K (.ref zZ) (.ref zac)=some false)
  (zpE:PySem.W.kitOne K (.ref zaa) (.ref zad)=some false)
  (zpF:PySem.W.kitOne K (.ref zaa) (.ref zac)=some false)
  (zpG:PySem.W.kitOne K (.ref zab) (.ref zad)=some false)
  (zpH:PySem.W.kitOne K (.ref zab) (.ref zac)=some false)
  (zpI:PySem.W.kitOne K (.ref zac) (.ref zad)=some false)
  (zpJ:PySem.W.kitOne K (.ref zac) (.ref zac)=some true)
  (zpK:PySem.W.kitOne K (.ref zad) (.ref zad)=some true)
  (zpL:PySem.W.kitOne K (.ref zae) (.ref zae)=some true)
  (zpM:PySem.W.kitOne K (.type "int") (.type "bool")=some false)
  (zpN:PySem.W.specialIn K (.builtin "object.__class__") "__get__" = some (some (.builtin "getset_descriptor.__get__")))
  (zpO:PySem.W.takesIn K (.builtin "object.__class__")=some true)
  (zpP:PySem.W.findIn K (.ref zX) "__class__" = some (some (.builtin "object.__class__")))
  (zpQ:PySem.W.mroIn K zX (.type "object")=some true)
  (zpR:PySem.W.findIn K (.ref zY) "__class__" = some (some (.builtin "object.__class__")))
  (zpS:PySem.W.mroIn K zY (.type "object")=some true)
  (zpT:PySem.W.findIn K (.ref zZ) "__class__" = some (some (.builtin "object.__class__")))
  (zpU:PySem.W.mroIn K zZ (.type "object")=some true)
  (zpV:PySem.W.findIn K (.ref zaa) "__class__" = some (some (.builtin "object.__class__")))
  (zpW:PySem.W.mroIn K zaa (.type "object")=some true)
  (zpX:PySem.W.findIn K (.ref zab) "__class__" = some (some (.builtin "object.__class__")))
  (zpY:PySem.W.mroIn K zab (.type "object")=some true)
  (zpZ:PySem.W.findIn K (.ref zac) "__class__" = some (some (.builtin "object.__class__")))
  (zqa:PySem.W.mroIn K zac (.type "object")=some true)
  (zqb:PySem.W.findIn K (.ref zad) "__class__" = some (some (.builtin "object.__class__")))
  (zqc:PySem.W.mroIn K zad (.type "object")=some true)
  (zqd:PySem.W.findIn K (.ref zae) "__class__" = some (some (.builtin "object.__class__")))
  (zqe:PySem.W.mroIn K zae (.type "object")=some true)
  : ∃t:jT,Txt K mg t∧mg "law" = some (.ref t.mf):=by
 have F_NoText_init:=qB (st:=jY) ziT ziU ziV
 have B_NoText_init:=F_NoText_init.binds (ps:=["self","row"]) fun _ _ _ _ _ _ us hl=>match us,hl with | [_,_],_=>rfl
 have F_Clause_init:=qB (st:=jB) ziX ziY ziZ
 have B_Clause_init:=F_Clause_init.binds (ps:=["self","label","who","act"]) fun _ _ _ _ _ _ us hl=>match us,hl with | [_,_,_,_],_=>rfl
 have F_Clause_number:=qB (st:=jl) zjb zjc zjd
 have B_Clause_number:=F_Clause_number.binds (ps:=["self"]) fun _ _ _ _ _ _ us hl=>match us,hl with | [_],_=>rfl
 have F_Duty_init:=qB (st:=j6) zjf zjg zjh
 have B_Duty_init:=F_Duty_init.binds (ps:=["self","label","who","act","turns","room"]) fun _ _ _ _ _ _ us hl=>match us,hl with | [_,_,_,_,_,_],_=>rfl
 have F_Duty_number:=qB (st:=jS) zjj zjk zjl
 have B_Duty_number:=F_Duty_number.binds (ps:=["self"]) fun _ _ _ _ _ _ us hl=>match us,hl with | [_],_=>rfl
 have F_Ban_init:=qB (st:=xG) zjn zjo zjp
 have B_Ban_init:=F_Ban_init.binds (ps:=["self","label","who","act","room"]) fun _ _ _ _ _ _ us hl=>match us,hl with | [_,_,_,_,_],_=>rfl
 have F_Power_init:=qB (st:=jR) zjr zjs zjt
 have B_Power_init:=F_Power_init.binds (ps:=["self","label","who","act","room"]) fun _ _ _ _ _ _ us hl=>match us,hl with | [_,_,_,_,_],_=>rfl
 have F_Let_init:=qB (st:=xV) zjv zjw zjx
 have B_Let_init:=F_Let_init.binds (ps:=["self","name","value"]) fun _ _ _ _ _ _ us hl=>match us,hl with | [_,_,_],_=>rfl
 have F_Part_init:=qB (st:=xw) zjz zjA zjB
 have B_Part_init:=F_Part_init.binds (ps:=["self","name","rooms","rows"]) fun _ _ _ _ _ _ us hl=>match us,hl with | [_,_,_,_],_=>rfl
 have F_Pact_init:=qB (st:=j7) zjD zjE zjF
 have B_Pact_init:=F_Pact_init.binds (ps:=["self","parties","acts","rooms","whole"]) fun _ _ _ _ _ _ us hl=>match us,hl with | [_,_,_,_,_],_=>rfl
 have F_v_is_name:=qB (st:=xj) zjH zjI zjJ
 have B_v_is_name:=F_v_is_name.binds (ps:=["word"]) fun _ _ _ _ _ _ us hl=>match us,hl with | [_],_=>rfl
 have F_v_number_of:=qB (st:=jX) zjL zjM zjN
 have B_v_number_of:=F_v_number_of.binds (ps:=["word"]) fun _ _ _ _ _ _ us hl=>match us,hl with | [_],_=>rfl
 have F_v_written_with:=qB (st:=qN) zjP zjQ zjR
 have B_v_written_with:=F_v_written_with.binds (ps:=["word","signs","most"]) fun _ _ _ _ _ _ us hl=>match us,hl with | [_,_,_],_=>rfl
 have F_v_names_of:=qB (st:=jC) zjT zjU zjV
 have B_v_names_of:=F_v_names_of.binds (ps:=["row","word","most"]) fun _ _ _ _ _ _ us hl=>match us,hl with | [_,_,_],_=>rfl
 have F_v_are_names:=qB (st:=jf) zjX zjY zjZ
 have B_v_are_names:=F_v_are_names.binds (ps:=["words","most"]) fun _ _ _ _ _ _ us hl=>match us,hl with | [_,_],_=>rfl
 have F_v_room_of:=qB (st:=j8) zkb zkc zkd
 have B_v_room_of:=F_v_room_of.binds (ps:=["row"]) fun _ _ _ _ _ _ us hl=>match us,hl with | [_],_=>rfl
 have F_v_let_of:=qB (st:=xX) zkf zkg zkh
 have B_v_let_of:=F_v_let_of.binds (ps:=["row"]) fun _ _ _ _ _ _ us hl=>match us,hl with | [_],_=>rfl
 have F_v_part_of:=qB (st:=j9) zkj zkk zkl
 have B_v_part_of:=F_v_part_of.binds (ps:=["row"]) fun _ _ _ _ _ _ us hl=>match us,hl with | [_],_=>rfl
 have F_v_clause_of:=qB (st:=jV) zkn zko zkp
 have B_v_clause_of:=F_v_clause_of.binds (ps:=["row"]) fun _ _ _ _ _ _ us hl=>match us,hl with | [_],_=>rfl
 have F_v_fits_form:=qB (st:=jm) zkr zks zkt
 have B_v_fits_form:=F_v_fits_form.binds (ps:=["words","form"]) fun _ _ _ _ _ _ us hl=>match us,hl with | [_,_],_=>rfl
 have F_v_fits_place:=qB (st:=jd) zkv zkw zkx
 have B_v_fits_place:=F_v_fits_place.binds (ps:=["word","place"]) fun _ _ _ _ _ _ us hl=>match us,hl with | [_,_],_=>rfl
 have F_v_read:=qB (st:=k9) zkz zkA zkB
 have B_v_read:=F_v_read.binds (ps:=["text"]) fun _ _ _ _ _ _ us hl=>match us,hl with | [_],_=>rfl
 have F_v_read_names:=qB (st:=jc) zkD zkE zkF
 have B_v_read_names:=F_v_read_names.binds (ps:=["rows","number","word","most","taken"]) fun _ _ _ _ _ _ us hl=>match us,hl with | [_,_,_,_,_],_=>rfl
 have F_v_told_once:=qB (st:=jW) zkH zkI zkJ
 have B_v_told_once:=F_v_told_once.binds (ps:=["names"]) fun _ _ _ _ _ _ us hl=>match us,hl with | [_],_=>rfl
 have F_v_read_rooms:=qB (st:=jw) zkL zkM zkN
 have B_v_read_rooms:=F_v_read_rooms.binds (ps:=["rows","taken"]) fun _ _ _ _ _ _ us hl=>match us,hl with | [_,_],_=>rfl
 have F_v_read_whole:=qB (st:=ju) zkP zkQ zkR
 have B_v_read_whole:=F_v_read_whole.binds (ps:=["rows","start"]) fun _ _ _ _ _ _ us hl=>match us,hl with | [_,_],_=>rfl
 have F_Body_init:=qB (st:=xx) zkT zkU zkV
 have B_Body_init:=F_Body_init.binds (ps:=["self"]) fun _ _ _ _ _ _ us hl=>match us,hl with | [_],_=>rfl
 have F_Body_many_open:=qB (st:=jz) zkX zkY zkZ
 have B_Body_many_open:=F_Body_many_open.binds (ps:=["self"]) fun _ _ _ _ _ _ us hl=>match us,hl with | [_],_=>rfl
 have F_Body_takes:=qB (st:=jU) zlb zlc zld
 have B_Body_takes:=F_Body_takes.binds (ps:=["self","row"]) fun _ _ _ _ _ _ us hl=>match us,hl with | [_,_],_=>rfl
 have F_Body_takes_done:=qB (st:=qA) zlf zlg zlh
 have B_Body_takes_done:=F_Body_takes_done.binds (ps:=["self"]) fun _ _ _ _ _ _ us hl=>match us,hl with | [_],_=>rfl
 have F_Body_takes_head:=qB (st:=q0) zlj zlk zll
 have B_Body_takes_head:=F_Body_takes_head.binds (ps:=["self","head"]) fun _ _ _ _ _ _ us hl=>match us,hl with | [_,_],_=>rfl
 have F_Body_takes_clause:=qB (st:=qM) zln zlo zlp
 have B_Body_takes_clause:=F_Body_takes_clause.binds (ps:=["self","clause"]) fun _ _ _ _ _ _ us hl=>match us,hl with | [_,_],_=>rfl
 have F_Body_put_in:=qB (st:=jJ) zlr zls zlt
 have B_Body_put_in:=F_Body_put_in.binds (ps:=["self","row"]) fun _ _ _ _ _ _ us hl=>match us,hl with | [_,_],_=>rfl
 have F_Body_closed:=qB (st:=jG) zlv zlw zlx
 have B_Body_closed:=F_Body_closed.binds (ps:=["self"]) fun _ _ _ _ _ _ us hl=>match us,hl with | [_],_=>rfl
 have F_w_cell_at:=qB (st:=xq) zlz zlA zlB
 have B_w_cell_at:=F_w_cell_at.binds (ps:=["_law_script","_law_k"]) fun _ _ _ _ _ _ us hl=>match us,hl with | [_,_],_=>rfl
 have F_w_mix:=qB (st:=wo) zlD zlE zlF
 have B_w_mix:=F_w_mix.binds (ps:=["_law_cell","_law_k"]) fun _ _ _ _ _ _ us hl=>match us,hl with | [_,_],_=>rfl
 have F_w_name:=qB (st:=kO) zlH zlI zlJ
 have B_w_name:=F_w_name.binds (ps:=["_law_cell","_law_k"]) fun _ _ _ _ _ _ us hl=>match us,hl with | [_,_],_=>rfl
 have F_w_event:=qB (st:=xl) zlL zlM zlN
 have B_w_event:=F_w_event.binds (ps:=["_law_names","_law_cell","_law_label","_law_depth"]) fun _ _ _ _ _ _ us hl=>match us,hl with | [_,_,_,_],_=>rfl
 have F_w_events:=qB (st:=xK) zlP zlQ zlR
 have B_w_events:=F_w_events.binds (ps:=["_law_names","_law_script"]) fun _ _ _ _ _ _ us hl=>match us,hl with | [_,_],_=>rfl
 have F_w_header:=qB (st:=xJ) zlT zlU zlV
 have B_w_header:=F_w_header.binds (ps:=["_law_names","_law_cell"]) fun _ _ _ _ _ _ us hl=>match us,hl with | [_,_],_=>rfl
 have F_w_row:=qB (st:=wJ) zlX zlY zlZ
 have B_w_row:=F_w_row.binds (ps:=["_law_event_here"]) fun _ _ _ _ _ _ us hl=>match us,hl with | [_],_=>rfl
 have F_w_rows:=qB (st:=ko) zmb zmc zmd
 have B_w_rows:=F_w_rows.binds (ps:=["_law_header_here","_law_events_here"]) fun _ _ _ _ _ _ us hl=>match us,hl with | [_,_],_=>rfl
 have F_w_clause:=qB (st:=xY) zmf zmg zmh
 have B_w_clause:=F_w_clause.binds (ps:=["_law_row_here"]) fun _ _ _ _ _ _ us hl=>match us,hl with | [_],_=>rfl
 have F_w_found:=qB (st:=kj) zmj zmk zml
 have B_w_found:=F_w_found.binds (ps:=["_law_rows_here"]) fun _ _ _ _ _ _ us hl=>match us,hl with | [_],_=>rfl
 have F_w_right:=qB (st:=xB) zmn zmo zmp
 have B_w_right:=F_w_right.binds (ps:=["_law_pact","_law_header_here","_law_events_here"]) fun _ _ _ _ _ _ us hl=>match us,hl with | [_,_,_],_=>rfl
 have F_v_law:=qB (st:=vH) zmr zms zmt
 have B_v_law:=F_v_law.binds (ps:=["_law_script"]) fun _ _ _ _ _ _ us hl=>match us,hl with | [_],_=>rfl
 refine⟨{ xp:=za,xF:=PySem.W.fnOf "__init__" "NoText.__init__" (qz jY) (z9 jY) (z4 jY) .none zam zan zao zaj zap zaq,qO:=zb,xh:=PySem.W.fnOf "__init__" "Clause.__init__" (qz jB) (z9 jB) (z4 jB) .none zav zaw zax zas zay zaz,gQ:=zc,gW:=PySem.W.fnOf "number" "Clause.number" (qz jl) (z9 jl) (z4 jl) .none zaE zaF zaG zaB zaH zaI,kD:=zd,yf:=PySem.W.fnOf "__init__" "Duty.__init__" (qz j6) (z9 j6) (z4 j6) .none zaN zaO zaP zaK zaQ zaR,pH:=ze,pW:=PySem.W.fnOf "number" "Duty.number" (qz jS) (z9 jS) (z4 jS) .none zaW zaX zaY zaT zaZ zba,vK:=zf,gb:=PySem.W.fnOf "__init__" "Ban.__init__" (qz xG) (z9 xG) (z4 xG) .none zbf zbg zbh zbc zbi zbj,kg:=zg,wQ:=PySem.W.fnOf "__init__" "Power.__init__" (qz jR) (z9 jR) (z4 jR) .none zbo zbp zbq zbl zbr zbs,w4:=zh,gk:=PySem.W.fnOf "__init__" "Let.__init__" (qz xV) (z9 xV) (z4 xV) .none zbx zby zbz zbu zbA zbB,xA:=zi,kR:=PySem.W.fnOf "__init__" "Part.__init__" (qz xw) (z9 xw) (z4 xw) .none zbG zbH zbI zbD zbJ zbK,vA:=zj,yg:=PySem.W.fnOf "__init__" "Pact.__init__" (qz j7) (z9 j7) (z4 j7) .none zbP zbQ zbR zbM zbS zbT,kF:=zk,kM:=PySem.W.fnOf "is_name" "is_name" (qz xj) (z9 xj) (z4 xj) .none zbY zbZ zca zbV zcb zcc,kZ:=zl,kc:=PySem.W.fnOf "number_of" "number_of" (qz jX) (z9 jX) (z4 jX) .none zch zci zcj zce zck zcl,xt:=zm,xm:=PySem.W.fnOf "written_with" "written_with" (qz qN) (z9 qN) (z4 qN) .none zcq zcr zcs zcn zct zcu,wZ:=zn,we:=PySem.W.fnOf "names_of" "names_of" (qz jC) (z9 jC) (z4 jC) .none zcz zcA zcB zcw zcC zcD,kn:=zo,kJ:=PySem.W.fnOf "are_names" "are_names" (qz jf) (z9 jf) (z4 jf) .none zcI zcJ zcK zcF zcL zcM,yp:=zp,ym:=PySem.W.fnOf "room_of" "room_of" (qz j8) (z9 j8) (z4 j8) .none zcR zcS zcT zcO zcU zcV,yA:=zq,yN:=PySem.W.fnOf "let_of" "let_of" (qz xX) (z9 xX) (z4 xX) .none zda zdb zdc zcX zdd zde,yc:=zr,yt:=PySem.W.fnOf "part_of" "part_of" (qz j9) (z9 j9) (z4 j9) .none zdj zdk zdl zdg zdm zdn,vU:=zs,vM:=PySem.W.fnOf "clause_of" "clause_of" (qz jV) (z9 jV) (z4 jV) .none zds zdt zdu zdp zdv zdw,xM:=zt,xP:=PySem.W.fnOf "fits_form" "fits_form" (qz jm) (z9 jm) (z4 jm) .none zdB zdC zdD zdy zdE zdF,vg:=zu,kA:=PySem.W.fnOf "fits_place" "fits_place" (qz jd) (z9 jd) (z4 jd) .none zdK zdL zdM zdH zdN zdO,bJ:=zv,bz:=PySem.W.fnOf "read" "read" (qz k9) (z9 k9) (z4 k9) .none zdT zdU zdV zdQ zdW zdX,kI:=zw,vd:=PySem.W.fnOf "read_names" "read_names" (qz jc) (z9 jc) (z4 jc) .none zec zed zee zdZ zef zeg,kX:=zx,kr:=PySem.W.fnOf "told_once" "told_once" (qz jW) (z9 jW) (z4 jW) .none zel zem zen zei zeo zep,vt:=zy,vc:=PySem.W.fnOf "read_rooms" "read_rooms" (qz jw) (z9 jw) (z4 jw) .none zeu zev zew zer zex zey,vw:=zz,kT:=PySem.W.fnOf "read_whole" "read_whole" (qz ju) (z9 ju) (z4 ju) .none zeD zeE zeF zeA zeG zeH,vN:=zA,yr:=PySem.W.fnOf "__init__" "Body.__init__" (qz xx) (z9 xx) (z4 xx) .none zeM zeN zeO zeJ zeP zeQ,ky:=zB,vW:=PySem.W.fnOf "many_open" "Body.many_open" (qz jz) (z9 jz) (z4 jz) .none zeV zeW zeX zeS zeY zeZ,wX:=zC,gj:=PySem.W.fnOf "takes" "Body.takes" (qz jU) (z9 jU) (z4 jU) .none zfe zff zfg zfb zfh zfi,xS:=zD,vh:=PySem.W.fnOf "takes_done" "Body.takes_done" (qz qA) (z9 qA) (z4 qA) .none zfn zfo zfp zfk zfq zfr,xU:=zE,kS:=PySem.W.fnOf "takes_head" "Body.takes_head" (qz q0) (z9 q0) (z4 q0) .none zfw zfx zfy zft zfz zfA,xf:=zF,kf:=PySem.W.fnOf "takes_clause" "Body.takes_clause" (qz qM) (z9 qM) (z4 qM) .none zfF zfG zfH zfC zfI zfJ,vL:=zG,ya:=PySem.W.fnOf "put_in" "Body.put_in" (qz jJ) (z9 jJ) (z4 jJ) .none zfO zfP zfQ zfL zfR zfS,vR:=zH,yn:=PySem.W.fnOf "closed" "Body.closed" (qz jG) (z9 jG) (z4 jG) .none zfX zfY zfZ zfU zga zgb,wz:=zI,vE:=PySem.W.fnOf "_law_cell_at" "_law_cell_at" (qz xq) (z9 xq) (z4 xq) .none zgg zgh zgi zgd zgj zgk,gp:=zJ,gy:=PySem.W.fnOf "_law_mix" "_law_mix" (qz wo) (z9 wo) (z4 wo) .none zgp zgq zgr zgm zgs zgt,ff:=zK,fW:=PySem.W.fnOf "_law_name" "_law_name" (qz kO) (z9 kO) (z4 kO) .none zgy zgz zgA zgv zgB zgC,bA:=zL,bL:=PySem.W.fnOf "_law_event" "_law_event" (qz xl) (z9 xl) (z4 xl) .none zgH zgI zgJ zgE zgK zgL,gh:=zM,y0:=PySem.W.fnOf "_law_events" "_law_events" (qz xK) (z9 xK) (z4 xK) .none zgQ zgR zgS zgN zgT zgU,gd:=zN,gu:=PySem.W.fnOf "_law_header" "_law_header" (qz xJ) (z9 xJ) (z4 xJ) .none zgZ zha zhb zgW zhc zhd,de:=zO,dJ:=PySem.W.fnOf "_law_row" "_law_row" (qz wJ) (z9 wJ) (z4 wJ) .none zhi zhj zhk zhf zhl zhm,mz:=zP,mm:=PySem.W.fnOf "_law_rows" "_law_rows" (qz ko) (z9 ko) (z4 ko) .none zhr zhs zht zho zhu zhv,gw:=zQ,y7:=PySem.W.fnOf "_law_clause" "_law_clause" (qz xY) (z9 xY) (z4 xY) .none zhA zhB zhC zhx zhD zhE,wV:=zR,wK:=PySem.W.fnOf "_law_found" "_law_found" (qz kj) (z9 kj) (z4 kj) .none zhJ zhK zhL zhG zhM zhN,b8:=zS,bD:=PySem.W.fnOf "_law_right" "_law_right" (qz xB) (z9 xB) (z4 xB) .none zhS zhT zhU zhP zhV zhW,mf:=zT,dt:=PySem.W.fnOf "law" "law" (qz vH) (z9 vH) (z4 vH) .none zib zic zid zhY zie zif,m8:=zU,vI:=zV,XJ:=zW,xk:=zX,xb:=zY,jo:=zZ,ka:=zaa,jH:=zab,ku:=zac,qP:=zad,jv:=zae,qL:=zaf,cF:=zag,fZ:=zah },?_,PySem.W.mg_of X G zmq⟩
 exact {
  xa:=⟨F_NoText_init,B_NoText_init⟩,
  kU:=⟨F_Clause_init,B_Clause_init⟩,
  uJ:=⟨F_Clause_number,B_Clause_number⟩,
  ma:=⟨F_Duty_init,B_Duty_init⟩,
  nu:=⟨F_Duty_number,B_Duty_number⟩,
  cW:=⟨F_Ban_init,B_Ban_init⟩,
  pL:=⟨F_Power_init,B_Power_init⟩,
  d8:=⟨F_Let_init,B_Let_init⟩,
  wG:=⟨F_Part_init,B_Part_init⟩,
  mF:=⟨F_Pact_init,B_Pact_init⟩,
  jM:=⟨F_v_is_name,B_v_is_name,PySem.W.mg_of X G zjG⟩,
  xZ:=⟨F_v_number_of,B_v_number_of,PySem.W.mg_of X G zjK⟩,
  jP:=⟨F_v_written_with,B_v_written_with,PySem.W.mg_of X G zjO⟩,
  wR:=⟨F_v_names_of,B_v_names_of,PySem.W.mg_of X G zjS⟩,
  xn:=⟨F_v_are_names,B_v_are_names,PySem.W.mg_of X G zjW⟩,
  yH:=⟨F_v_room_of,B_v_room_of,PySem.W.mg_of X G zka⟩,
  bZ:=⟨F_v_let_of,B_v_let_of,PySem.W.mg_of X G zke⟩,
  yW:=⟨F_v_part_of,B_v_part_of,PySem.W.mg_of X G zki⟩,
  vT:=⟨F_v_clause_of,B_v_clause_of,PySem.W.mg_of X G zkm⟩,
  qH:=⟨F_v_fits_form,B_v_fits_form,PySem.W.mg_of X G zkq⟩,
  ve:=⟨F_v_fits_place,B_v_fits_place,PySem.W.mg_of X G zku⟩,
  yz:=⟨F_v_read,B_v_read,PySem.W.mg_of X G zky⟩,
  xg:=⟨F_v_read_names,B_v_read_names,PySem.W.mg_of X G zkC⟩,
  xo:=⟨F_v_told_once,B_v_told_once,PySem.W.mg_of X G zkG⟩,
  vi:=⟨F_v_read_rooms,B_v_read_rooms,PySem.W.mg_of X G zkK⟩,
  vm:=⟨F_v_read_whole,B_v_read_whole,PySem.W.mg_of X G zkO⟩,
  mZ:=⟨F_Body_init,B_Body_init⟩,
  x6:=⟨F_Body_many_open,B_Body_many_open⟩,
  fq:=⟨F_Body_takes,B_Body_takes⟩,
  wg:=⟨F_Body_takes_done,B_Body_takes_done⟩,
  wm:=⟨F_Body_takes_head,B_Body_takes_head⟩,
  vy:=⟨F_Body_takes_clause,B_Body_takes_clause⟩,
  v8:=⟨F_Body_put_in,B_Body_put_in⟩,
  yd:=⟨F_Body_closed,B_Body_closed⟩,
  jF:=⟨F_w_cell_at,B_w_cell_at,PySem.W.mg_of X G zly⟩,
  jL:=⟨F_w_mix,B_w_mix,PySem.W.mg_of X G zlC⟩,
  cA:=⟨F_w_name,B_w_name,PySem.W.mg_of X G zlG⟩,
  f9:=⟨F_w_event,B_w_event,PySem.W.mg_of X G zlK⟩,
  bF:=⟨F_w_events,B_w_events,PySem.W.mg_of X G zlO⟩,
  hU:=⟨F_w_header,B_w_header,PySem.W.mg_of X G zlS⟩,
  sm:=⟨F_w_row,B_w_row,PySem.W.mg_of X G zlW⟩,
  cH:=⟨F_w_rows,B_w_rows,PySem.W.mg_of X G zma⟩,
  bK:=⟨F_w_clause,B_w_clause,PySem.W.mg_of X G zme⟩,
  wa:=⟨F_w_found,B_w_found,PySem.W.mg_of X G zmi⟩,
  xT:=⟨F_w_right,B_w_right,PySem.W.mg_of X G zmm⟩,
  Z3:=⟨F_v_law,B_v_law,PySem.W.mg_of X G zmq⟩,
  gR:=PySem.W.mg_none_of X G zmu,
  kL:=PySem.W.mg_none_of X G zmv,
  yu:=PySem.W.mg_none_of X G zmw,
  eo:=PySem.W.mg_none_of X G zmx,
  cT:=PySem.W.mg_none_of X G zmy,
  XY:=PySem.W.mg_none_of X G zmz,
  qE:=PySem.W.mg_none_of X G zmA,
  Qk:=PySem.W.mg_none_of X G zmB,
  iH:=PySem.W.mg_none_of X G zmC,
  Xa:=PySem.W.mg_none_of X G zmD,
  lS:=PySem.W.mg_none_of X G zmE,
  Xo:=PySem.W.mg_none_of X G zmF,
  Qu:=PySem.W.mg_of X G ziG,
  u6:=⟨_,PySem.W.mg_of X G ziH⟩,
  uH:=⟨_,PySem.W.mg_of X G ziI⟩,
  gO:=⟨_,PySem.W.mg_of X G ziJ⟩,
  bQ:=⟨_,PySem.W.mg_of X G ziK⟩,
  iX:=PySem.W.mg_of X G ziL,
  y3:=⟨_,PySem.W.mg_of X G ziM⟩,
  bf:=⟨_,PySem.W.mg_of X G ziN⟩,
  dq:=⟨_,PySem.W.mg_of X G ziO⟩,
  mE:=⟨_,PySem.W.mg_of X G ziP⟩,
  m9:=⟨_,PySem.W.mg_of X G ziQ⟩,
  vj:=⟨_,PySem.W.mg_of X G ziR⟩,
  tD:=PySem.W.mg_of X G ziu,
  w6:=PySem.W.mg_of X G ziv,
  Vm:=PySem.W.mg_of X G ziw,
  dE:=PySem.W.mg_of X G zix,
  oz:=PySem.W.mg_of X G ziy,
  dM:=PySem.W.mg_of X G ziz,
  Q3:=PySem.W.mg_of X G ziA,
  rA:=PySem.W.mg_of X G ziB,
  Q1:=PySem.W.mg_of X G ziC,
  pN:=PySem.W.mg_of X G ziD,
  oK:=PySem.W.mg_of X G ziE,
  Z1:=PySem.W.mg_of X G ziF,
  QU:=(by obtain⟨its,n,h1,h2,h3,h4⟩:=zmH;exact⟨zir,its,n,zmG,h1,h2,h3,h4⟩),
  i5:=(by obtain⟨its,n,h1,h2,h3,h4⟩:=zmJ;exact⟨zis,its,n,zmI,h1,h2,h3,h4⟩),
  rq:=⟨zmK,zmL,zmM,zmN⟩,
  pJ:=zmO,
  gJ:=zmP,
  bh:=zmQ,
  gK:=zmR,
  pQ:=zmS,
  uN:=⟨zmT,zmU,zmV,zmW⟩,
  eV:=⟨zmX,zmY,zmZ,zna⟩,
  mS:=znb,
  pU:=znc,
  mh:=znd,
  pM:=zne,
  mO:=znf,
  lL:=⟨zng,znh,zni,znj⟩,
  sr:=⟨znk,znl,znm,znn⟩,
  fU:=zno,
  bX:=znp,
  pC:=znq,
  gU:=znr,
  fo:=zns,
  dA:=⟨znt,znu,znv,znw⟩,
  QA:=⟨znx,zny,znz,znA⟩,
  cP:=znB,
  fh:=znC,
  mL:=znD,
  fc:=znE,
  uk:=znF,
  oG:=⟨znG,znH,znI,znJ⟩,
  tP:=⟨znK,znL,znM,znN⟩,
  fe:=znO,
  bp:=znP,
  pK:=znQ,
  gM:=znR,
  fX:=znS,
  cX:=⟨znT,znU,znV,znW⟩,
  mG:=⟨znX,znY,znZ,zoa⟩,
  bP:=zob,
  yI:=zoc,
  ZQ:=⟨zod,zoe,zof,zog⟩,
  kK:=⟨zoh,zoi,zoj,zok⟩,
  vn:=zol,
  vC:=zom,
  gc:=zon,
  fO:=⟨zoo,zop,zoq,zor⟩,
  vP:=⟨zos,zot,zou,zov⟩,
  gr:=zow,
  wt:=zox,
  ye:=zoy,
  yi:=zoz,
  iI:=⟨zoA,zoB,zoC,zoD⟩,
  jt:=⟨zoE,zoF,zoG,zoH⟩,
  x5:=zoI,
  vB:=zoJ,
  wU:=zoK,
  eK:=⟨zoL,zoM,zoN,zoO⟩,
  xI:=⟨zoP,zoQ,zkZ⟩,
  pV:=⟨zoR,zoS,zld⟩,
  yq:=⟨zoT,zoU,zlh⟩,
  wC:=⟨zoV,zoW,zll⟩,
  wx:=⟨zoX,zoY,zlp⟩,
  vq:=⟨zoZ,zpa,zlt⟩,
  yk:=⟨zpb,zpc,zlx⟩,
  u7:=⟨JN zpd zpe,zpf⟩,
  kP:=⟨K2 zpd zpe,zpg,zph,zpi⟩,
  pP:=zpj,
  mW:=⟨zpk,zpl,zpm,ziZ⟩,
  tI:=⟨zpn,zpo,zpp,ziZ⟩,
  fV:=zpq,
  pZ:=zpr,
  gD:=zps,
  fB:=zpt,
  hV:=zpu,
  m7:=zpv,
  cZ:=zpw,
  pX:=zpx,
  fR:=zpy,
  g9:=zpz,
  fA:=zpA,
  mN:=zpB,
  pY:=zpC,
  fP:=zpD,
  dj:=zpE,
  uv:=zpF,
  pB:=zpG,
  fJ:=zpH,
  mU:=zpI,
  dO:=zpJ,
  gx:=zpK,
  fg:=zpL,
  mR:=zpM,
  mV:=zpN,
  u9:=zpO,
  uX:=⟨zpP,zpQ⟩,
  eX:=⟨zpR,zpS⟩,
  tF:=⟨zpT,zpU⟩,
  ZV:=⟨zpV,zpW⟩,
  tL:=⟨zpX,zpY⟩,
  oy:=⟨zpZ,zqa⟩,
  mx:=⟨zqb,zqc⟩,
  rR:=⟨zqd,zqe⟩ }
end My
theorem PySem.W.Fast.tw10117705786671842539:True:=trivial
theorem PySem.W.Fast.tw10225656749474926165:True:=trivial
theorem PySem.W.Fast.tw1027907254040838398:True:=trivial
theorem PySem.W.Fast.tw1048213997449747863:True:=trivial
theorem PySem.W.Fast.tw10521210503205966196:True:=trivial
theorem PySem.W.Fast.tw10584304361472878447:True:=trivial
theorem PySem.W.Fast.tw10674363254288586388:True:=trivial
theorem PySem.W.Fast.tw10691418463390319745:True:=trivial
theorem PySem.W.Fast.tw1071626598143447913:True:=trivial
theorem PySem.W.Fast.tw10738472176129020096:True:=trivial
theorem PySem.W.Fast.tw10764266466740608949:True:=trivial
theorem PySem.W.Fast.tw10819570075726056692:True:=trivial
theorem PySem.W.Fast.tw11005158244776419636:True:=trivial
theorem PySem.W.Fast.tw11017563775658577394:True:=trivial
theorem PySem.W.Fast.tw11085672797816053764:True:=trivial
theorem PySem.W.Fast.tw11491499901695399435:True:=trivial
theorem PySem.W.Fast.tw11547110315481219976:True:=trivial
theorem PySem.W.Fast.tw11644458550273376291:True:=trivial
theorem PySem.W.Fast.tw11790812391982100609:True:=trivial
theorem PySem.W.Fast.tw11992533757525394413:True:=trivial
theorem PySem.W.Fast.tw12045966345246769398:True:=trivial
theorem PySem.W.Fast.tw12116733096208249060:True:=trivial
theorem PySem.W.Fast.tw12199356845413243575:True:=trivial
theorem PySem.W.Fast.tw12225724977121968908:True:=trivial
theorem PySem.W.Fast.tw12258761165660414616:True:=trivial
theorem PySem.W.Fast.tw12419409039078093422:True:=trivial
theorem PySem.W.Fast.tw12435137826970773301:True:=trivial
theorem PySem.W.Fast.tw12559195791665294265:True:=trivial
theorem PySem.W.Fast.tw12761254001895084877:True:=trivial
theorem PySem.W.Fast.tw12864684261001730499:True:=trivial
theorem PySem.W.Fast.tw12894213676685475074:True:=trivial
theorem PySem.W.Fast.tw12991739791147795919:True:=trivial
theorem PySem.W.Fast.tw13017031868818732815:True:=trivial
theorem PySem.W.Fast.tw13146674021507182980:True:=trivial
theorem PySem.W.Fast.tw13261019247369710788:True:=trivial
theorem PySem.W.Fast.tw13477698505889432931:True:=trivial
theorem PySem.W.Fast.tw135796279975705525:True:=trivial
theorem PySem.W.Fast.tw13585473067821667635:True:=trivial
theorem PySem.W.Fast.tw13644642960564590910:True:=trivial
theorem PySem.W.Fast.tw13743546559125101554:True:=trivial
theorem PySem.W.Fast.tw13797453612604782150:True:=trivial
theorem PySem.W.Fast.tw14161249250285359799:True:=trivial
theorem PySem.W.Fast.tw14261312844543472453:True:=trivial
theorem PySem.W.Fast.tw14541322868867391126:True:=trivial
theorem PySem.W.Fast.tw1465884806631545362:True:=trivial
theorem PySem.W.Fast.tw14777192482529295516:True:=trivial
theorem PySem.W.Fast.tw14805057577496456865:True:=trivial
theorem PySem.W.Fast.tw14951754944762157804:True:=trivial
theorem PySem.W.Fast.tw15081993850769293867:True:=trivial
theorem PySem.W.Fast.tw15155883738552802955:True:=trivial
theorem PySem.W.Fast.tw15358421691999545164:True:=trivial
theorem PySem.W.Fast.tw1540818118841461005:True:=trivial
theorem PySem.W.Fast.tw15504902401856204626:True:=trivial
theorem PySem.W.Fast.tw15736485870562650000:True:=trivial
theorem PySem.W.Fast.tw15862992934336833125:True:=trivial
theorem PySem.W.Fast.tw15888476167606748719:True:=trivial
theorem PySem.W.Fast.tw15889793118589034097:True:=trivial
theorem PySem.W.Fast.tw16323046932012348069:True:=trivial
theorem PySem.W.Fast.tw16382916085575402360:True:=trivial
theorem PySem.W.Fast.tw16395547773112211623:True:=trivial
theorem PySem.W.Fast.tw16453641887722729163:True:=trivial
theorem PySem.W.Fast.tw16465000994562417362:True:=trivial
theorem PySem.W.Fast.tw16490812272105565409:True:=trivial
theorem PySem.W.Fast.tw16552059150578697369:True:=trivial
theorem PySem.W.Fast.tw1671090361104629075:True:=trivial
theorem PySem.W.Fast.tw16727814474939068335:True:=trivial
theorem PySem.W.Fast.tw16933340183009450939:True:=trivial
theorem PySem.W.Fast.tw16999900448446555781:True:=trivial
theorem PySem.W.Fast.tw17116764002594889746:True:=trivial
theorem PySem.W.Fast.tw17146707062930178831:True:=trivial
theorem PySem.W.Fast.tw17161553767166629203:True:=trivial
theorem PySem.W.Fast.tw17516160263565015096:True:=trivial
theorem PySem.W.Fast.tw17585806258538437524:True:=trivial
theorem PySem.W.Fast.tw17594572264872566529:True:=trivial
theorem PySem.W.Fast.tw17699477020733523619:True:=trivial
theorem PySem.W.Fast.tw17819931764093902354:True:=trivial
theorem PySem.W.Fast.tw18149204480034080390:True:=trivial
theorem PySem.W.Fast.tw18162379277881598858:True:=trivial
theorem PySem.W.Fast.tw18337421461455067381:True:=trivial
theorem PySem.W.Fast.tw2194069865556991981:True:=trivial
theorem PySem.W.Fast.tw2587513114496942:True:=trivial
theorem PySem.W.Fast.tw2634799072271519454:True:=trivial
theorem PySem.W.Fast.tw2872101961986106155:True:=trivial
theorem PySem.W.Fast.tw2890923810892279436:True:=trivial
theorem PySem.W.Fast.tw2987543087604810991:True:=trivial
theorem PySem.W.Fast.tw3102371148176146789:True:=trivial
theorem PySem.W.Fast.tw3336411397395581624:True:=trivial
theorem PySem.W.Fast.tw3364404519721492315:True:=trivial
theorem PySem.W.Fast.tw3516645713194069479:True:=trivial
theorem PySem.W.Fast.tw3817582579146036196:True:=trivial
theorem PySem.W.Fast.tw4199345713113262872:True:=trivial
theorem PySem.W.Fast.tw450231130542085839:True:=trivial
theorem PySem.W.Fast.tw4706415725394961360:True:=trivial
theorem PySem.W.Fast.tw4833512881529498346:True:=trivial
theorem PySem.W.Fast.tw5172506581192775193:True:=trivial
theorem PySem.W.Fast.tw5660191367678770565:True:=trivial
theorem PySem.W.Fast.tw5689490613353926773:True:=trivial
theorem PySem.W.Fast.tw5788745585588061212:True:=trivial
theorem PySem.W.Fast.tw5863631824707755635:True:=trivial
theorem PySem.W.Fast.tw5868442298992680284:True:=trivial
theorem PySem.W.Fast.tw6202574040670563881:True:=trivial
theorem PySem.W.Fast.tw6448160862957548886:True:=trivial
theorem PySem.W.Fast.tw6612524017844662106:True:=trivial
theorem PySem.W.Fast.tw6624075431446424095:True:=trivial
theorem PySem.W.Fast.tw6709949536218071054:True:=trivial
theorem PySem.W.Fast.tw7270639447620038580:True:=trivial
theorem PySem.W.Fast.tw7302945504131479643:True:=trivial
theorem PySem.W.Fast.tw7340927193104118905:True:=trivial
theorem PySem.W.Fast.tw7342709314963750254:True:=trivial
theorem PySem.W.Fast.tw7346217077238062248:True:=trivial
theorem PySem.W.Fast.tw7400172249826367885:True:=trivial
theorem PySem.W.Fast.tw7760347077950495137:True:=trivial
theorem PySem.W.Fast.tw7777684901346344670:True:=trivial
theorem PySem.W.Fast.tw8216740356379867282:True:=trivial
theorem PySem.W.Fast.tw8425992698826411902:True:=trivial
theorem PySem.W.Fast.tw8436626485969168241:True:=trivial
theorem PySem.W.Fast.tw8787983844773206046:True:=trivial
theorem PySem.W.Fast.tw9485459508258007413:True:=trivial
theorem PySem.W.Fast.tw9686927399237362188:True:=trivial
theorem PySem.W.Fast.tw9976104771746034922:True:=trivial
open PySem PySem.W PyProof.Rows
set_option maxRecDepth 100000 in
set_option maxHeartbeats 0 in
theorem PySem.Challenge.cw_pactway_k23_read_holds : PySem.Challenge.rw_pactway_k23_read.Holds := by
 w_on;o_law;k_head;(case hw=>w_witness2)
 k_fill
 refine L2.QK (l:=PySem.Challenge.rw_pactway_k23_read) (n:=63) (k:=11) (x:="_law_script") (CX:=L2.jn) (sp:=My.Qm) rfl (by decide) rfl ⟨rfl,by decide,by decide⟩ (fun w h Y=>PySem.W.kIn_of Y) ?F ?S ?C
 case F=>
  intro w mg fa h KX G hmg
  have T:∃t:My.jT,My.Txt (L2.Y4 KX) mg t∧mg "law" = some (.ref t.mf):=by
   dsimp only[L2.Y4]
   refine' My.X8 KX G ?za_ ?zb_ ?zc_ ?zd_ ?ze_ ?zf_ ?zg_ ?zh_ ?zi_ ?zj_ ?zk_ ?zl_ ?zm_ ?zn_ ?zo_ ?zp_ ?zq_ ?zr_ ?zs_ ?zt_ ?zu_ ?zv_ ?zw_ ?zx_ ?zy_ ?zz_ ?zA_ ?zB_ ?zC_ ?zD_ ?zE_ ?zF_ ?zG_ ?zH_ ?zI_ ?zJ_ ?zK_ ?zL_ ?zM_ ?zN_ ?zO_ ?zP_ ?zQ_ ?zR_ ?zS_ ?zT_ ?zU_ ?zV_ ?zW_ ?zX_ ?zY_ ?zZ_ ?zaa_ ?zab_ ?zac_ ?zad_ ?zae_ ?zaf_ ?zag_ ?zah_ ?zai_ ?zaj_ ?zak_ ?zal_ ?zam_ ?zan_ ?zao_ ?zap_ ?zaq_ ?zar_ ?zas_ ?zat_ ?zau_ ?zav_ ?zaw_ ?zax_ ?zay_ ?zaz_ ?zaA_ ?zaB_ ?zaC_ ?zaD_ ?zaE_ ?zaF_ ?zaG_ ?zaH_ ?zaI_ ?zaJ_ ?zaK_ ?zaL_ ?zaM_ ?zaN_ ?zaO_ ?zaP_ ?zaQ_ ?zaR_ ?zaS_ ?zaT_ ?zaU_ ?zaV_ ?zaW_ ?zaX_ ?zaY_ ?zaZ_ ?zba_ ?zbb_ ?zbc_ ?zbd_ ?zbe_ ?zbf_ ?zbg_ ?zbh_ ?zbi_ ?zbj_ ?zbk_ ?zbl_ ?zbm_ ?zbn_ ?zbo_ ?zbp_ ?zbq_ ?zbr_ ?zbs_ ?zbt_ ?zbu_ ?zbv_ ?zbw_ ?zbx_ ?zby_ ?zbz_ ?zbA_ ?zbB_ ?zbC_ ?zbD_ ?zbE_ ?zbF_ ?zbG_ ?zbH_ ?zbI_ ?zbJ_ ?zbK_ ?zbL_ ?zbM_ ?zbN_ ?zbO_ ?zbP_ ?zbQ_ ?zbR_ ?zbS_ ?zbT_ ?zbU_ ?zbV_ ?zbW_ ?zbX_ ?zbY_ ?zbZ_ ?zca_ ?zcb_ ?zcc_ ?zcd_ ?zce_ ?zcf_ ?zcg_ ?zch_ ?zci_ ?zcj_ ?zck_ ?zcl_ ?zcm_ ?zcn_ ?zco_ ?zcp_ ?zcq_ ?zcr_ ?zcs_ ?zct_ ?zcu_ ?zcv_ ?zcw_ ?zcx_ ?zcy_ ?zcz_ ?zcA_ ?zcB_ ?zcC_ ?zcD_ ?zcE_ ?zcF_ ?zcG_ ?zcH_ ?zcI_ ?zcJ_ ?zcK_ ?zcL_ ?zcM_ ?zcN_ ?zcO_ ?zcP_ ?zcQ_ ?zcR_ ?zcS_ ?zcT_ ?zcU_ ?zcV_ ?zcW_ ?zcX_ ?zcY_ ?zcZ_ ?zda_ ?zdb_ ?zdc_ ?zdd_ ?zde_ ?zdf_ ?zdg_ ?zdh_ ?zdi_ ?zdj_ ?zdk_ ?zdl_ ?zdm_ ?zdn_ ?zdo_ ?zdp_ ?zdq_ ?zdr_ ?zds_ ?zdt_ ?zdu_ ?zdv_ ?zdw_ ?zdx_ ?zdy_ ?zdz_ ?zdA_ ?zdB_ ?zdC_ ?zdD_ ?zdE_ ?zdF_ ?zdG_ ?zdH_ ?zdI_ ?zdJ_ ?zdK_ ?zdL_ ?zdM_ ?zdN_ ?zdO_ ?zdP_ ?zdQ_ ?zdR_ ?zdS_ ?zdT_ ?zdU_ ?zdV_ ?zdW_ ?zdX_ ?zdY_ ?zdZ_ ?zea_ ?zeb_ ?zec_ ?zed_ ?zee_ ?zef_ ?zeg_ ?zeh_ ?zei_ ?zej_ ?zek_ ?zel_ ?zem_ ?zen_ ?zeo_ ?zep_ ?zeq_ ?zer_ ?zes_ ?zet_ ?zeu_ ?zev_ ?zew_ ?zex_ ?zey_ ?zez_ ?zeA_ ?zeB_ ?zeC_ ?zeD_ ?zeE_ ?zeF_ ?zeG_ ?zeH_ ?zeI_ ?zeJ_ ?zeK_ ?zeL_ ?zeM_ ?zeN_ ?zeO_ ?zeP_ ?zeQ_ ?zeR_ ?zeS_ ?zeT_ ?zeU_ ?zeV_ ?zeW_ ?zeX_ ?zeY_ ?zeZ_ ?zfa_ ?zfb_ ?zfc_ ?zfd_ ?zfe_ ?zff_ ?zfg_ ?zfh_ ?zfi_ ?zfj_ ?zfk_ ?zfl_ ?zfm_ ?zfn_ ?zfo_ ?zfp_ ?zfq_ ?zfr_ ?zfs_ ?zft_ ?zfu_ ?zfv_ ?zfw_ ?zfx_ ?zfy_ ?zfz_ ?zfA_ ?zfB_ ?zfC_ ?zfD_ ?zfE_ ?zfF_ ?zfG_ ?zfH_ ?zfI_ ?zfJ_ ?zfK_ ?zfL_ ?zfM_ ?zfN_ ?zfO_ ?zfP_ ?zfQ_ ?zfR_ ?zfS_ ?zfT_ ?zfU_ ?zfV_ ?zfW_ ?zfX_ ?zfY_ ?zfZ_ ?zga_ ?zgb_ ?zgc_ ?zgd_ ?zge_ ?zgf_ ?zgg_ ?zgh_ ?zgi_ ?zgj_ ?zgk_ ?zgl_ ?zgm_ ?zgn_ ?zgo_ ?zgp_ ?zgq_ ?zgr_ ?zgs_ ?zgt_ ?zgu_ ?zgv_ ?zgw_ ?zgx_ ?zgy_ ?zgz_ ?zgA_ ?zgB_ ?zgC_ ?zgD_ ?zgE_ ?zgF_ ?zgG_ ?zgH_ ?zgI_ ?zgJ_ ?zgK_
   (case za_ | zb_ | zc_ | zd_ | ze_ | zf_ | zg_ | zh_ | zi_ | zj_ | zk_ | zl_ | zm_ | zn_ | zo_ | zp_ | zq_ | zr_ | zs_ | zt_ | zu_ | zv_ | zw_ | zx_ | zy_ | zz_ | zA_ | zB_ | zC_ | zD_ | zE_ | zF_ | zG_ | zH_ | zI_ | zJ_ | zK_ | zL_ | zM_ | zN_ | zO_ | zP_ | zQ_ | zR_ | zS_ | zT_ | zU_ | zV_ | zW_ | zX_ | zY_ | zZ_ | zaa_ | zab_ | zac_ | zad_ | zae_ | zaf_ | zag_ | zah_ | zai_ | zaj_ | zak_ | zal_ | zam_ | zan_ | zao_ | zap_ | zaq_ | zar_ | zas_ | zat_ | zau_ | zav_ | zaw_ | zax_ | zay_ | zaz_ | zaA_ | zaB_ | zaC_ | zaD_ | zaE_ | zaF_ | zaG_ | zaH_ | zaI_ | zaJ_ | zaK_ | zaL_ | zaM_ | zaN_ | zaO_ | zaP_ | zaQ_ | zaR_ | zaS_ | zaT_ | zaU_ | zaV_ | zaW_ | zaX_ | zaY_ | zaZ_ | zba_ | zbb_ | zbc_ | zbd_ | zbe_ | zbf_ | zbg_ | zbh_ | zbi_ | zbj_ | zbk_ | zbl_ | zbm_ | zbn_ | zbo_ | zbp_ | zbq_ | zbr_ | zbs_ | zbt_ | zbu_ | zbv_ | zbw_ | zbx_ | zby_ | zbz_ | zbA_ | zbB_ | zbC_ | zbD_ | zbE_ | zbF_ | zbG_ | zbH_ | zbI_ | zbJ_ | zbK_ | zbL_ | zbM_ | zbN_ | zbO_ | zbP_ | zbQ_ | zbR_ | zbS_ | zbT_ | zbU_ | zbV_ | zbW_ | zbX_ | zbY_ | zbZ_ | zca_ | zcb_ | zcc_ | zcd_ | zce_ | zcf_ | zcg_ | zch_ | zci_ | zcj_ | zck_ | zcl_ | zcm_ | zcn_ | zco_ | zcp_ | zcq_ | zcr_ | zcs_ | zct_ | zcu_ | zcv_ | zcw_ | zcx_ | zcy_ | zcz_ | zcA_ | zcB_ | zcC_ | zcD_ | zcE_ | zcF_ | zcG_ | zcH_ | zcI_ | zcJ_ | zcK_ | zcL_ | zcM_ | zcN_ | zcO_ | zcP_ | zcQ_ | zcR_ | zcS_ | zcT_ | zcU_ | zcV_ | zcW_ | zcX_ | zcY_ | zcZ_ | zda_ | zdb_ | zdc_ | zdd_ | zde_ | zdf_ | zdg_ | zdh_ | zdi_ | zdj_ | zdk_ | zdl_ | zdm_=>k_is)
   (case zdn_=>exact⟨_,_,rfl,rfl,My.J9,My.J2⟩)
   (case zdo_=>k_is)
   (case zdp_=>exact⟨_,_,rfl,rfl,My.QF,My.Qg⟩)
   (case zdq_ | zdr_ | zds_ | zdt_ | zdu_ | zdv_ | zdw_ | zdx_ | zdy_ | zdz_ | zdA_ | zdB_ | zdC_ | zdD_ | zdE_ | zdF_ | zdG_ | zdH_ | zdI_ | zdJ_ | zdK_ | zdL_ | zdM_ | zdN_ | zdO_ | zdP_ | zdQ_ | zdR_ | zdS_ | zdT_ | zdU_ | zdV_ | zdW_ | zdX_ | zdY_ | zdZ_ | zea_ | zeb_ | zec_ | zed_ | zee_ | zef_ | zeg_ | zeh_ | zei_ | zej_ | zek_ | zel_ | zem_ | zen_ | zeo_ | zep_ | zeq_ | zer_ | zes_ | zet_ | zeu_ | zev_ | zew_ | zex_ | zey_ | zez_ | zeA_ | zeB_ | zeC_ | zeD_ | zeE_ | zeF_ | zeG_ | zeH_ | zeI_ | zeJ_ | zeK_ | zeL_ | zeM_ | zeN_ | zeO_ | zeP_ | zeQ_ | zeR_ | zeS_ | zeT_ | zeU_ | zeV_ | zeW_ | zeX_ | zeY_ | zeZ_ | zfa_ | zfb_ | zfc_ | zfd_ | zfe_ | zff_ | zfg_ | zfh_ | zfi_ | zfj_ | zfk_ | zfl_ | zfm_ | zfn_ | zfo_ | zfp_ | zfq_ | zfr_ | zfs_ | zft_ | zfu_ | zfv_ | zfw_ | zfx_ | zfy_ | zfz_ | zfA_ | zfB_ | zfC_ | zfD_ | zfE_ | zfF_ | zfG_ | zfH_ | zfI_ | zfJ_=>k_is)
   (case zfK_=>rfl)
   (case zfL_ | zfM_ | zfN_ | zfO_ | zfP_ | zfQ_ | zfR_ | zfS_ | zfT_ | zfU_ | zfV_=>k_is)
   (case zfW_ | zfX_ | zfY_ | zfZ_ | zga_ | zgb_ | zgc_ | zgd_ | zge_ | zgf_ | zgg_ | zgh_ | zgi_ | zgj_ | zgk_ | zgl_ | zgm_ | zgn_ | zgo_ | zgp_ | zgq_ | zgr_ | zgs_=>kit_is)
   (case zgt_ | zgu_ | zgv_ | zgw_ | zgx_ | zgy_ | zgz_ | zgA_ | zgB_ | zgC_ | zgD_ | zgE_ | zgF_ | zgG_ | zgH_ | zgI_ | zgJ_ | zgK_=>k_is)
  obtain⟨t,T,hl⟩:=T
  have e0:=hmg.symm.trans hl
  cases e0
  exact⟨_,My.aR T,fun base kb nb=>My.Qn T⟩
 case S=>exact fun K H a ns hl hO hS=>My.aE hl hO hS
 case C=>exact fun _ _ _ _ z=>z
