import PyProof.Rows.All
import Wide.All
import OpenK.AllK
import Wide.FinOn
import PyProof.EqAt
import PyProof.EqKinds
import PyProof.TupleCall
import Lean
import PyProof.SetNew
import PyProof.SetRoads
import PySem.Challenge.RW_pactway_k26_names_told_twice
set_option Elab.async false
set_option linter.all false
set_option maxRecDepth 100000
namespace L2
open PySem PySem.Spec PyProof.Rows
noncomputable abbrev Key:=Sum Int Str
noncomputable def lT:Key→Value→Bool
 | .inl k,v=>Value.isInt k v
 | .inr x,v=>Value.isStrOf x v
noncomputable def Hf (w:World):Key→Int
 | .inl k=>hashInt k
 | .inr x=>hashStr w x
theorem xl:∀{k:Key} {v:Value},lT k v=true→(∃i t,k=Sum.inl i∧v=Value.int i t)∨(∃x t,k=Sum.inr x∧v=Value.str x t)
 | .inl i,v,h=>by
  obtain⟨t,e⟩:=Value.isInt_shape (k:=i) (v:=v) h
  exact .inl ⟨i,t,rfl,e⟩
 | .inr x,v,h=>by
  obtain⟨t,e⟩:=Value.isStrOf_shape (x:=x) (v:=v) h
  exact .inr ⟨x,t,rfl,e⟩
theorem ZI (i:Int) (t:Tok):lT (.inl i) (.int i t)=true:=by simp [lT,Value.isInt]
theorem ZE (x:Str) (t:Tok):lT (.inr x) (.str x t)=true:=by simp [lT,Value.isStrOf]
theorem Wh (a b:Int):decide ((Sum.inl a:Key)=Sum.inl b)=(a == b):=by
 by_cases e:a=b
 ·subst e;simp
 ·have h:¬(Sum.inl a:Key)=Sum.inl b:=fun q=>e (Sum.inl.inj q)
  rw[decide_eq_false h]
  exact(beq_eq_false_iff_ne.mpr e).symm
theorem Wm (a b:Str):decide ((Sum.inr a:Key)=Sum.inr b)=decide (a=b):=by
 by_cases e:a=b
 ·subst e;simp
 ·have h:¬(Sum.inr a:Key)=Sum.inr b:=fun q=>e (Sum.inr.inj q)
  rw[decide_eq_false h,decide_eq_false e]
theorem Wb (a:Int) (b:Str):decide ((Sum.inl a:Key)=Sum.inr b)=false:=decide_eq_false (fun q=>nomatch q)
theorem Wf (a:Str) (b:Int):decide ((Sum.inr a:Key)=Sum.inl b)=false:=decide_eq_false (fun q=>nomatch q)
noncomputable def kA (prog:Program) (w:World):PySem.KeyKind prog w Key where
 is:=lT
 hash:=Hf w
 inj:=fun v a b ha hb=>by
  rcases xl ha with ⟨i,t,rfl,rfl⟩ | ⟨x,t,rfl,rfl⟩
  ·rcases xl hb with ⟨j,u,rfl,e⟩ | ⟨y,u,rfl,e⟩
   ·injection e with e1 _;rw[e1]
   ·exact nomatch e
  ·rcases xl hb with ⟨j,u,rfl,e⟩ | ⟨y,u,rfl,e⟩
   ·exact nomatch e
   ·injection e with e1 _;rw[e1]
 byValue:=fun k v h=>by
  rcases xl h with ⟨i,t,rfl,rfl⟩ | ⟨x,t,rfl,rfl⟩<;>rfl
 pyHash:=fun hv h=>by
  rcases xl hv with ⟨i,t,rfl,rfl⟩ | ⟨x,t,rfl,rfl⟩
  ·exact wpAny_pyHash_int h
  ·exact wpAny_pyHash_str h
 eqBool:=fun hu hv h=>by
  rcases xl hu with ⟨i,t,rfl,rfl⟩ | ⟨x,t,rfl,rfl⟩
  ·rcases xl hv with ⟨j,u,rfl,rfl⟩ | ⟨y,u,rfl,rfl⟩
   ·rw[Wh] at h;exact wpAny_eqBool_int h
   ·rw[Wb] at h;exact SeqAt.EqAt.int_str i t y u _ _ _ _ h
  ·rcases xl hv with ⟨j,u,rfl,rfl⟩ | ⟨y,u,rfl,rfl⟩
   ·rw[Wf] at h;exact SeqAt.EqAt.str_int x t j u _ _ _ _ h
   ·rw[Wm] at h;exact wpAny_eqBool_str h
 «strs»:=fun k x t v h=>by
  rcases xl h with ⟨i,u,rfl,e⟩ | ⟨y,u,rfl,e⟩
  ·exact nomatch e
  ·injection e with e1 _
   subst e1
   cases v<;>rfl
theorem oG (prog:Program) (w:World) (i:Int) (t:Tok):(kA prog w).is (.inl i) (.int i t)=true:=ZI i t
theorem oH (prog:Program) (w:World) (x:Str) (t:Tok):(kA prog w).is (.inr x) (.str x t)=true:=ZE x t
end L2
namespace L2
open PySem PySem.Spec PyProof.Rows
inductive V where
 | non | bl (b:Bool) | int (i:Int) | str (x:Str) | byt (b:Array UInt8) | flt (b:UInt64) | ref (a:Addr) | ty (n:String)
 deriving DecidableEq
noncomputable def RelV:V→Value→Prop
 | .non,u=>u=Value.none
 | .bl b,u=>u=Value.bool b
 | .int i,u=>∃t,u=Value.int i t
 | .str x,u=>∃t,u=Value.str x t
 | .byt b,u=>∃t,u=Value.bytes b t
 | .flt b,u=>∃t,u=Value.float b t
 | .ref a,u=>u=Value.ref a
 | .ty n,u=>u=Value.type n
noncomputable abbrev Vals:List V→List Value→Prop:=Paired RelV
theorem Vals.length {xs:List V} {us:List Value} (r:Vals xs us):xs.length=us.length:=Paired.length r
theorem Vals.get:∀{xs:List V} {us:List Value} {i:Nat} {x:V},Vals xs us→xs[i]?=some x→∃u,us[i]?=some u∧RelV x u
 | _,_,_,_,.nil,e=>by simp at e
 | _,_,0,_,.cons r _,e=>by simp at e;subst e;exact⟨_,rfl,r⟩
 | _,_,i + 1,x,.cons _ t,e=>by
  obtain⟨u,h1,h2⟩:=Vals.get (i:=i) (x:=x) t (by simpa using e)
  exact⟨u,by simpa using h1,h2⟩
theorem Vals.set {x:V} {u:Value} (r:RelV x u):∀{xs:List V} {us:List Value} (i:Nat),Vals xs us→Vals (xs.set i x) (us.set i u)
 | _,_,_,.nil=>.nil
 | _,_,0,.cons _ t=>.cons r t
 | _,_,i + 1,.cons q t=>.cons q (Vals.set r i t)
theorem Vals.append:∀{xs ys:List V} {us ws:List Value},Vals xs us→Vals ys ws→Vals (xs ++ ys) (us ++ ws)
 | _,_,_,_,.nil,s=>s
 | _,_,_,_,.cons r t,s=>.cons r (Vals.append t s)
theorem Vals.take:∀{xs:List V} {us:List Value} (n:Nat),Vals xs us→Vals (xs.take n) (us.take n)
 | _,_,0,_=>.nil
 | _,_,_ + 1,.nil=>.nil
 | _,_,n + 1,.cons r t=>.cons r (Vals.take n t)
theorem Vals.drop:∀{xs:List V} {us:List Value} (n:Nat),Vals xs us→Vals (xs.drop n) (us.drop n)
 | _,_,0,r=>r
 | _,_,_ + 1,.nil=>.nil
 | _,_,n + 1,.cons _ t=>Vals.drop n t
noncomputable def gG:Option V→Option Value→Prop
 | some v,some u=>RelV v u
 | none,none=>True
 | _,_=>False
noncomputable def KV {κ:Type}:List (κ × V)→List (κ × Value)→Prop:=Paired fun (p:κ × V) (q:κ × Value)=>p.1=q.1∧RelV p.2 q.2
noncomputable def kV:Key→V
 | .inl i=>.int i
 | .inr x=>.str x
inductive HO where
 | lst (xs:List V)
 | tup (xs:List V)
 | dK (kvs:List (Key × V)) | dT (kvs:List (List Key × V))
 | set (S:Int→Bool) (n:Nat)
 | ins (C dx:Addr) (fs:List (Str × V))
 | own (x:Addr)
 | xd (fs:List (Str × V))
 | met (f x:Addr)
 | rng (lo hi:Int)
 | frz (o:Obj) (u:HO)
 | tbl (ps:Array Value)
 | ext (φ:Heap→Prop)
noncomputable abbrev Hp:=Addr→Option HO
noncomputable def upd (H:Hp) (a:Addr) (o:HO):Hp:=fun b=>if b=a then some o else H b
theorem qm {H:Hp} {a:Addr} {o:HO}:upd H a o a=some o:=by unfold upd;rw[if_pos rfl]
theorem qB {H:Hp} {a b:Addr} {o:HO} (h:b≠a):upd H a o b=H b:=by unfold upd;rw[if_neg h]
theorem gs {H:Hp} {a:Addr} {o u:HO}:upd (upd H a o) a u=upd H a u:=by
 funext b;unfold upd;split<;>rfl
theorem cK {H:Hp} {a b:Addr} {o u:HO} (h:H a=some o) (h':H b=some u) (d:o≠u):a≠b:=by
 intro e;subst e;rw[h] at h';exact d (Option.some.inj h')
theorem qg {H:Hp} {a b:Addr} {o:HO} (h:H a=some o) (h':H b=none):a≠b:=by
 intro e;subst e;rw[h] at h';cases h'
section
variable (P:Program) (w:World)
noncomputable def xk (H:Hp) (h:Heap) (a:Addr):HO→Prop
 | .lst xs=>xs.length≤sizeLine∧∃(its:List Value) (n:Nat),Vals xs its∧h.get? a=some { cls:=.type "list",data:=.seq its.toArray n }
 | .tup xs=>xs.length≤sizeLine∧∃its:List Value,Vals xs its∧IsTup h a its.toArray
 | .dK kvs=>kvs.length≤sizeLine∧(a == sysModules)=false∧∃vs,KV kvs vs∧h.DictOf (kA P w) a vs
 | .dT kvs=>kvs.length≤sizeLine∧(a == sysModules)=false∧∃xs:List (List Key × Addr × Value),
   Paired (fun (p:List Key × V) (q:List Key × Addr × Value)=>p.1=q.1∧H q.2.1=some (.tup (p.1.map kV))∧RelV p.2 q.2.2) kvs xs∧
   ∃o es ep,h.get? a=some o∧o.ExactDict∧o.data=.dict es ep∧es.toList=xs.map (entryOfKey (tupleKind (kA P w)))∧(xs.map (·.1)).Nodup
 | .set S n=>h.SetOf (intKind P w) a S n
 | .ins C dx fs=>H dx=some (.own a)∧fs.length≤1000∧dx≠a∧h.get? a=some (PySem.W.instObj C dx)∧
   ∃mA,h.Ns1 dx mA∧(∀f,gG (fs.lookup f) (mA f))∧PySem.Within mA (fs.map (·.1))
 | .own _=>∃o,h.get? a=some o
 | .xd fs=>∃mA,h.Ns1 a mA∧∀f,gG (fs.lookup f) (mA f)
 | .rng lo hi=>∃t u v,h.get? a=some { cls:=.type "range",data:=.fields #[.int lo t,.int hi u,.int 1 v] }
 | .frz o u=>h.get? a=some o∧xk H h a u
 | .tbl ps=>h.get? a=some { cls:=.none,data:=.fields ps }
 | .met f x=>h.get? a=some (PySem.W.methodObj (.ref f) (.ref x))
 | .ext φ=>φ h∧(∃o,h.get? a=some o)∧∀h1 h2:Heap,φ h1→(∀o,h1.get? a=some o→h2.get? a=some o)→φ h2
noncomputable def bp (H:Hp) (h:Heap):Prop:=∀a o,H a=some o→xk P w H h a o
end
section
variable {P:Program} {w:World} {H H':Hp} {h h':Heap} {a:Addr} {o:HO}
theorem xk.lt (x:xk P w H h a o):a < h.objs.size:=by
 cases o with
 | lst xs=>obtain⟨_,_,_,_,e⟩:=x;exact Heap.lt_size e
 | tup xs=>obtain⟨_,_,_,p⟩:=x;exact p.lt
 | dK kvs=>obtain⟨_,_,_,_,o,_,_,e,_⟩:=x;exact Heap.lt_size e
 | dT kvs=>obtain⟨_,_,_,_,o,_,_,e,_⟩:=x;exact Heap.lt_size e
 | set S n=>obtain⟨o,_,_,_,e,_⟩:=x;exact Heap.lt_size e
 | ins C dx fs=>obtain⟨_,_,_,e,_⟩:=x;exact Heap.lt_size e
 | own y=>obtain⟨_,e⟩:=x;exact Heap.lt_size e
 | xd fs=>obtain⟨_,⟨_,_,_,e,_⟩,_⟩:=x;exact Heap.lt_size e
 | rng lo hi=>obtain⟨_,_,_,e⟩:=x;exact Heap.lt_size e
 | frz ob u=>obtain⟨e,_⟩:=x;exact Heap.lt_size e
 | tbl ps=>exact Heap.lt_size (show h.get? a=some _ from x)
 | met f y=>exact Heap.lt_size (show h.get? a=some _ from x)
 | ext φ=>obtain⟨_,⟨_,e⟩,_⟩:=x;exact Heap.lt_size e
theorem Paired.Jo {α β:Type} {F G:α→β→Prop}:∀{l₁:List α} {l₂:List β},Paired F l₁ l₂→(∀a b,F a b→G a b)→Paired G l₁ l₂
 | _,_,.nil,_=>.nil
 | _,_,.cons r t,f=>.cons (f _ _ r) (Paired.Jo t f)
theorem Paired.imp' {α β:Type} {F G:α→β→Prop} (f:∀a b,F a b→G a b) {l₁:List α} {l₂:List β} (r:Paired F l₁ l₂):Paired G l₁ l₂:=Paired.Jo r f
theorem xk.nK (x:xk P w H h a o) (k:∀b u,(b=a∨H b=some (.own a))→h.get? b=some u→h'.get? b=some u)
  (ho:∀b,H b=some (.own a)→H' b=some (.own a)) (ht:∀b xs,H b=some (.tup xs)→H' b=some (.tup xs)):xk P w H' h' a o:=by
 induction o with
 | lst xs=>obtain⟨z,its,n,r,e⟩:=x;exact⟨z,its,n,r,k _ _ (.inl rfl) e⟩
 | tup xs=>obtain⟨z,its,r,ob,e,c⟩:=x;exact⟨z,its,r,ob,k _ _ (.inl rfl) e,c⟩
 | dK kvs=>obtain⟨z,y,vs,r,ob,es,ep,e,c⟩:=x;exact⟨z,y,vs,r,ob,es,ep,k _ _ (.inl rfl) e,c⟩
 | dT kvs=>
  obtain⟨z,y,xs,r,ob,es,ep,e,c⟩:=x
  exact⟨z,y,xs,Paired.Jo r fun p q z=>⟨z.1,ht _ _ z.2.1,z.2.2⟩,ob,es,ep,k _ _ (.inl rfl) e,c⟩
 | set S n=>obtain⟨ob,es,ep,t,e,c⟩:=x;exact⟨ob,es,ep,t,k _ _ (.inl rfl) e,c⟩
 | ins C dx fs=>
  obtain⟨d,z,ne,e,mA,⟨od,es,ep,e2,c⟩,r⟩:=x
  exact⟨ho _ d,z,ne,k _ _ (.inl rfl) e,mA,⟨od,es,ep,k _ _ (.inr d) e2,c⟩,r⟩
 | own y=>obtain⟨ob,e⟩:=x;exact⟨ob,k _ _ (.inl rfl) e⟩
 | xd fs=>obtain⟨mA,⟨od,es,ep,e,c⟩,r⟩:=x;exact⟨mA,⟨od,es,ep,k _ _ (.inl rfl) e,c⟩,r⟩
 | rng lo hi=>obtain⟨t,u,v,e⟩:=x;exact⟨t,u,v,k _ _ (.inl rfl) e⟩
 | frz ob u ih=>obtain⟨e,q⟩:=x;exact⟨k _ _ (.inl rfl) e,ih q⟩
 | tbl ps=>
  have e:h.get? a=some { cls:=.none,data:=.fields ps }:=x
  show h'.get? a=some { cls:=.none,data:=.fields ps }
  exact k a _ (.inl rfl) e
 | met f y=>
  have e:h.get? a=some (PySem.W.methodObj (.ref f) (.ref y)):=x
  show h'.get? a=some (PySem.W.methodObj (.ref f) (.ref y))
  exact k a _ (.inl rfl) e
 | ext φ=>obtain⟨p,⟨o,e⟩,st⟩:=x;exact⟨st _ _ p fun o q=>k _ _ (.inl rfl) q,⟨o,k _ _ (.inl rfl) e⟩,st⟩
theorem bp.lt (x:bp P w H h) (e:H a=some o):a < h.objs.size:=(x a o e).lt
theorem bp.fresh (x:bp P w H h) (e:h.objs.size≤a):H a=none:=by
 cases q:H a with
 | none=>rfl
 | some u=>exact absurd (Nat.lt_of_lt_of_le (x.lt q) e) (Nat.lt_irrefl _)
theorem bp.kept (x:bp P w H h) (k:∀b u,h.get? b=some u→h'.get? b=some u):bp P w H h':=fun a o e=>
 (x a o e).nK (fun b u _ q=>k b u q) (fun _ q=>q) fun _ _ q=>q
theorem bp.laid (x:bp P w H h) (k:∀b u,h.get? b=some u→h'.get? b=some u) (hp:h.objs.size≤a) (new:xk P w (upd H a o) h' a o):bp P w (upd H a o) h':=fun b u e=>by
 have hn:=x.fresh hp
 by_cases hb:b=a
 ·subst hb;rw[qm] at e;cases e;exact new
 ·rw[qB hb] at e
  exact(x b u e).nK (fun c v _ q=>k c v q) (fun c q=>by rw[qB (qg q hn)];exact q) fun c xs q=>by rw[qB (qg q hn)];exact q
end
noncomputable def Rd (H:Hp) (a:Addr) (u:HO):Prop:=H a=some u∨∃o,H a=some (.frz o u)
theorem Rd.ok {P:Program} {w:World} {H:Hp} {h:Heap} {a:Addr} {u:HO} (r:Rd H a u) (x:bp P w H h):xk P w H h a u:=by
 rcases r with r | ⟨o,r⟩
 ·exact x a u r
 ·obtain⟨_,q⟩:=x a _ r
  exact q
noncomputable def Yn:Option HO→Prop
 | some (.lst _)=>True
 | some (.dK _)=>True
 | some (.dT _)=>True
 | some (.set _ _)=>True
 | some (.ins _ _ _)=>True
 | some (.ext _)=>True
 | _=>False
section
variable {P:Program} {w:World} {H:Hp} {h h':Heap} {x e:Addr} {o':HO}
theorem bp.write (ok:bp P w H h) (mu:Yn (H x)) (he:e=x∨H e=some (.own x)) (k:∀b u,b≠e→h.get? b=some u→h'.get? b=some u) (heo:∃u,h'.get? e=some u)
  (new:xk P w (upd H x o') h' x o'):bp P w (upd H x o') h':=fun b u q=>by
 have nown:∀c y,H c=some (.own y)→c≠x:=fun c y r z=>by subst z;rw[r] at mu;exact mu
 have ntup:∀c xs,H c=some (.tup xs)→c≠x:=fun c xs r z=>by subst z;rw[r] at mu;exact mu
 by_cases hb:b=x
 ·subst hb;rw[qm] at q;cases q;exact new
 ·rw[qB hb] at q
  by_cases hbe:b=e
  ·have q':H b=some (.own x):=by
    rcases he with z | z
    ·exact absurd (hbe.trans z) hb
    ·rw[hbe];exact z
   rw[q] at q';cases q'
   obtain⟨v,hv⟩:=heo
   exact⟨v,by rw[hbe];exact hv⟩
  ·refine(ok b u q).nK (fun c v hc r=>k c v ?_ r) (fun c r=>by rw[qB (nown c b r)];exact r) fun c xs r=>by rw[qB (ntup c xs r)];exact r
   rcases hc with rfl | hc
   ·exact hbe
   ·rintro rfl
    rcases he with z | z
    ·exact nown c b hc z
    ·rw[hc] at z;cases z;exact hb rfl
end
structure Un (fs ex:List Addr) (H H':Hp) (h h':Heap):Prop where
 keep:∀b o,h.get? b=some o→H b=none→b∉fs→b∉ex→h'.get? b=some o
 slot:∀b o,h.get? b=some o→H b=none→b∈fs→b∉ex→∃sl,h'.get? b=some { o with slots:=sl }
 free:∀b o,h.get? b=some o→H b=none→b∉ex→H' b=none
 there:∀b o,h.get? b=some o→b∉ex→∃o',h'.get? b=some o'
 lZ:∀b xs,H b=some (.tup xs)→H' b=some (.tup xs)
 uK:∀b o u,H b=some (.frz o u)→H' b=some (.frz o u)
 ll:∀b ps,H b=some (.tbl ps)→∃more,H' b=some (.tbl (ps ++ more))
section
variable {fs fs' ex ex':List Addr} {H H1 H2:Hp} {h h1 h2 h':Heap} {a x e:Addr} {o:HO}
theorem Un.any (u:Un fs ex H H1 h h1) {b:Addr} {ob:Obj} (q:h.get? b=some ob) (n:H b=none) (hx:b∉ex):∃sl,h1.get? b=some { ob with slots:=sl }:=by
 by_cases hb:b∈fs
 ·exact u.slot b ob q n hb hx
 ·exact⟨ob.slots,u.keep b ob q n hb hx⟩
theorem Un.kept (k:∀b u,h.get? b=some u→h'.get? b=some u):Un fs ex H H h h':=
 ⟨fun b ob q _ _ _=>k b ob q,fun b ob q _ _ _=>⟨ob.slots,k b ob q⟩,fun _ _ _ n _=>n,fun b ob q _=>⟨ob,k b ob q⟩,fun _ _ q=>q,fun _ _ _ q=>q,fun _ ps q=>⟨#[],by rw[q];simp⟩⟩
theorem Un.refl:Un fs ex H H h h:=Un.kept fun _ _ q=>q
theorem Un.laid (k:∀b u,h.get? b=some u→h'.get? b=some u) (hp:h.objs.size≤a) (hn:H a=none):Un fs ex H (upd H a o) h h' where
 keep:=fun b u q _ _ _=>k b u q
 slot:=fun b u q _ _ _=>⟨u.slots,k b u q⟩
 free:=fun b u q n _=>by rw[qB (Nat.ne_of_lt (Nat.lt_of_lt_of_le (Heap.lt_size q) hp))];exact n
 there:=fun b u q _=>⟨u,k b u q⟩
 lZ:=fun b xs q=>by rw[qB (qg q hn)];exact q
 uK:=fun b u xs q=>by rw[qB (qg q hn)];exact q
 ll:=fun b ps q=>⟨#[],by rw[qB (qg q hn),q];simp⟩
theorem Un.write (mu:Yn (H x)) (he:e=x∨H e=some (.own x)) (k:∀b u,b≠e→h.get? b=some u→h'.get? b=some u) (heo:∃u,h'.get? e=some u):Un fs ex H (upd H x o) h h':=by
 have hx:∀b,H b=none→b≠x:=fun b n z=>by subst z;rw[n] at mu;exact mu
 have hb:∀b,H b=none→b≠e:=fun b n z=>by
  subst z
  rcases he with r | r
  ·exact hx b n r
  ·rw[n] at r;cases r
 have hm:∀b u,H b=some u→¬Yn (some u)→b≠x:=fun b u q nm z=>by subst z;rw[q] at mu;exact nm mu
 refine⟨fun b u q n _ _=>k b u (hb b n) q,fun b u q n _ _=>⟨u.slots,k b u (hb b n) q⟩,fun b u q n _=>by rw[qB (hx b n)];exact n,fun b u q _=>?_,
  fun b xs q=>by rw[qB (hm b _ q fun z=>z)];exact q,fun b u xs q=>by rw[qB (hm b _ q fun z=>z)];exact q,fun b ps q=>⟨#[],by rw[qB (hm b _ q fun z=>z),q];simp⟩⟩
 by_cases hbe:b=e
 ·subst hbe;exact heo
 ·exact⟨u,k b u hbe q⟩
end
noncomputable def GA (h:Heap) (H:Hp):List Addr:=(List.range h.objs.size).filter fun a=>(H a).isSome
noncomputable def tj (h:Heap) (H:Hp):Heap:=PySem.W.hideAll h (GA h H)
theorem ZL (h:Heap) (H:Hp):(tj h H).objs.size=h.objs.size:=PySem.W.hideAll_size _ _
theorem Jw {h:Heap} {H:Hp} {b:Addr} {o:Obj} (e:h.get? b=some o) (n:H b=none):(tj h H).get? b=some o:=
 PySem.W.hideAll_get _ e fun hm=>by
  have q:(H b).isSome=true:=(List.mem_filter.mp hm).2
  rw[n] at q;simp at q
theorem Kl {h:Heap} {H:Hp} {b:Addr} {o:Obj} (e:(tj h H).get? b=some o):h.get? b=some o∧H b=none:=by
 have e':h.get? b=some o:=PySem.W.of_hideAll (GA h H) e
 refine⟨e',?_⟩
 cases q:H b with
 | none=>rfl
 | some x=>
  have hm:b∈GA h H:=List.mem_filter.mpr ⟨List.mem_range.mpr (Heap.lt_size e'),by simp [q]⟩
  have z:(tj h H).get? b=none:=PySem.W.hideAll_none (GA h H) hm
  rw[z] at e;cases e
noncomputable def XO (g h:Heap) (L:Addr):List (Addr × Obj):=(List.range h.objs.size).filterMap fun a=>if a=L∨(g.get? a).isSome=true then none else (h.get? a).map fun o=>(a,o)
noncomputable def rest (g h:Heap) (L d:Addr):List (Addr × Obj):=(XO g h L).filter fun p=>decide (p.1≠d)
end L2
namespace L2
open PySem PySem.Spec PyProof.Rows
structure Mod (K:PySem.W.Frag) (mg:Str→Option Value) (base:Heap):Prop where
 QK:K.In base
 glob:base.Ns mainGlobals mg
 blt:∃mb,base.Ns builtinsNs mb∧∀x:Str,x≠"__name__"→mb x=bootBuiltins x
 nolimit:base.NoLimit
structure Cx where
 prog:Program
 w:World
 K:PySem.W.Frag
 mg:Str→Option Value
 base:Heap
 A:Around
 N:List Str
 s₀:Shared
 H₀:Hp
 env:Env
 outer:List Env
 stack:List Env
 ex:List Addr
 fn:Str→Bool
 calm:Bool
 pn:List (Addr × Obj)
 xe:Value→Shared→Prop
noncomputable def sO (l:List Env):List Addr:=l.filterMap (·.frame)
noncomputable abbrev Cx.fs (X:Cx):List Addr:=sO X.outer
noncomputable def GY (sc:Scope) (x:Str):Prop:=sc.names.lookup x=some .local∨sc.names.lookup x=some .cell∨sc.names.lookup x=some .free
noncomputable def Loc (sc:Scope) (x:Str):Prop:=sc.names.lookup x=some .local∨sc.names.lookup x=some .cell
noncomputable def Look (env:Env) (h:Heap) (m:Str→Option Value) (x:Str) (u:Value):Prop:=
 (env.kindOf x=some .local∧m x=some u)∨((env.kindOf x=some .cell∨env.kindOf x=some .free)∧∃c,env.cells.lookup x=some c∧h.IsCell c (some u))
structure Cx.Ok (X:Cx):Prop where
 mod:Mod X.K X.mg X.base
 kind:X.env.scope.kind=.function
 glob:X.env.globals=mainGlobals
 blt:X.env.builtins=builtinsNs
 above:X.s₀.heap.objs.size≤X.env.locals
 inj:∀x y c,X.env.cells.lookup x=some c→X.env.cells.lookup y=some c→x=y
 has:∀x,(X.env.kindOf x=some .cell∨X.env.kindOf x=some .free)→∃c,X.env.cells.lookup x=some c
 Yd:∀x c,X.fn x=true→X.env.cells.lookup x=some c→X.s₀.heap.objs.size≤c
 hd:X.calm=true→X.A.handled=none
 frames:X.A.frames=some X.stack
 Gb:X.stack=X.outer∨(X.stack=X.env :: X.outer∧X.env.frame=some X.env.locals)
 V8:∀b∈X.ex,b≠X.env.locals∧∀x c,X.env.cells.lookup x=some c→c≠b
 bs:∀b o,X.base.get? b=some o→X.s₀.heap.get? b=some o∧X.H₀ b=none
 ZY:X.base.objs.size≤X.s₀.heap.objs.size
 eu:∀b o,X.base.get? b=some o→b∉X.ex
 iC:∀b∈X.ex,b∉X.fs
 dU:X.s₀.heap.FunFrames X.base X.outer
 Vp:∀b∈X.fs,X.H₀ b=none
structure Inv (X:Cx) (pins:List (Addr × Obj)) (σ:List (Option V)) (H:Hp) (s:Shared):Prop where
 ok:X.Ok
 os:s.os=X.s₀.os
 bare:AllBare s.gens
 base:Un X.fs X.ex X.H₀ H X.s₀.heap s.heap
 loc:∃m,s.heap.Ns X.env.locals m∧∀(i:Nat) (x:Str) (v:V),X.N[i]?=some x→σ[i]?=some (some v)→GY X.env.scope x→∃u,RelV v u∧Look X.env s.heap m x u
 cell:∀x c,X.env.cells.lookup x=some c→∃v,s.heap.IsCell c v
 free:H X.env.locals=none
 yC:∀x c,X.env.cells.lookup x=some c→H c=none
 pin:∀p∈X.pn ++ pins,s.heap.get? p.1=some p.2∧H p.1=none∧p.1≠X.env.locals∧p.1∉X.fs∧∀v,p.2.data≠.cell v
 jx:bp X.prog X.w H s.heap
 len:σ.length=X.N.length
section
variable {X:Cx} {pins:List (Addr × Obj)} {σ:List (Option V)} {H H':Hp} {s:Shared} {h':Heap}
theorem Cx.Ok.Hs (ok:X.Ok) {b:Addr} {o:Obj} (e:X.base.get? b=some o):b∉X.fs:=fun hb=>by
 have:=(ok.dU.mem hb).1
 rw[e] at this;cases this
theorem Inv.bs (I:Inv X pins σ H s):∀b o,X.base.get? b=some o→s.heap.get? b=some o∧H b=none:=fun b o e=>
 ⟨I.base.keep b o (I.ok.bs b o e).1 (I.ok.bs b o e).2 (I.ok.Hs e) (I.ok.eu b o e),I.base.free b o (I.ok.bs b o e).1 (I.ok.bs b o e).2 (I.ok.eu b o e)⟩
theorem Inv.bk (I:Inv X pins σ H s):∀b o,X.base.get? b=some o→s.heap.get? b=some o:=fun b o e=>(I.bs b o e).1
theorem Inv.mod (I:Inv X pins σ H s):Mod X.K X.mg X.base:=I.ok.mod
theorem Inv.gU (I:Inv X pins σ H s):X.K.In s.heap:=I.ok.mod.QK.keeps I.bk
theorem Inv.fr (I:Inv X pins σ H s):∃m,Fr X.base X.env.locals s.heap m:=
 let ⟨m,hn,_⟩:=I.loc
 ⟨m,hn,I.bk,Nat.le_trans I.ok.ZY I.ok.above⟩
theorem Inv.lt (I:Inv X pins σ H s):X.env.locals < s.heap.objs.size:=let ⟨_,hn,_⟩:=I.loc;hn.lt
theorem Inv.sz (I:Inv X pins σ H s):X.s₀.heap.objs.size≤s.heap.objs.size:=Nat.le_trans I.ok.above (Nat.le_of_lt I.lt)
theorem Inv.Ht (I:Inv X pins σ H s) {a:Addr} (h:s.heap.objs.size≤a):a∉X.fs:=fun hb=>by
 obtain⟨_,o,ho,_⟩:=I.ok.dU.mem hb
 exact absurd (Nat.lt_of_lt_of_le (Heap.lt_size ho) (Nat.le_trans I.sz h)) (Nat.lt_irrefl _)
theorem Inv.Vy (I:Inv X pins σ H s):∀x c,X.env.cells.lookup x=some c→c≠X.env.locals:=fun x c e z=>by
 obtain⟨v,o,ho,hd⟩:=I.cell x c e
 obtain⟨m,⟨o',es,ep,ho',hd',_⟩,_⟩:=I.loc
 rw[z,ho'] at ho;cases ho;rw[hd'] at hd;cases hd
theorem Inv.dU (I:Inv X pins σ H s):s.heap.FunFrames X.base X.outer:=by
 have all:∀(l:List Env),(∀b∈sO l,b∈X.fs)→X.s₀.heap.FunFrames X.base l→s.heap.FunFrames X.base l:=by
  intro l
  induction l with
  | nil=>intro _ _;trivial
  | cons env r ih=>
   intro hs hl
   obtain⟨hk,⟨L,o,hf,hn,ho,hd⟩,hr⟩:=hl
   have hL:L∈X.fs:=hs L (by unfold sO;rw[List.filterMap_cons,hf];exact List.mem_cons_self)
   obtain⟨sl,e⟩:=I.base.slot L o ho (I.ok.Vp L hL) hL fun z=>I.ok.iC L z hL
   exact⟨hk,⟨L,_,hf,hn,e,hd⟩,ih (fun b hb=>hs b (by unfold sO;rw[List.filterMap_cons,hf];exact List.mem_cons_of_mem _ hb)) hr⟩
 exact all X.outer (fun _ hb=>hb) I.ok.dU
theorem Inv.stack (I:Inv X pins σ H s):s.heap.FunFrames X.base X.stack:=by
 rcases I.ok.Gb with e | ⟨e,hf⟩
 ·rw[e];exact I.dU
 ·rw[e]
  obtain⟨m,hn,_⟩:=I.loc
  refine .cons (by rw[I.ok.kind];decide) hf hn ?_ I.dU
  exact Heap.get?_none_of_le (Nat.le_trans I.ok.ZY I.ok.above)
theorem Inv.rY (I:Inv X pins σ H s):∀b∈sO X.stack,b∈X.env.locals :: X.fs:=fun b hb=>by
 rcases I.ok.Gb with e | ⟨e,hf⟩
 ·rw[e] at hb;exact List.mem_cons_of_mem _ hb
 ·rw[e] at hb
  unfold sO at hb
  rw[List.filterMap_cons,hf] at hb
  exact hb
theorem Inv.fV (I:Inv X pins σ H s):∀b∈sO X.stack,H b=none:=fun b hb=>by
 rcases List.mem_cons.mp (I.rY b hb) with e | hb
 ·rw[e];exact I.free
 ·obtain⟨_,o,ho,_⟩:=I.ok.dU.mem hb
  exact I.base.free b o ho (I.ok.Vp b hb) fun z=>I.ok.iC b z hb
theorem Inv.step {g':Array GenState} {t':Nat} {d':Drawn} {ch:List Addr} (I:Inv X pins σ H s)
  (hch:∀b∈ch,(b∈X.ex∨X.s₀.heap.objs.size≤b)∧b≠X.env.locals∧(∀x c,X.env.cells.lookup x=some c→c≠b)∧∀p∈X.pn ++ pins,p.1≠b)
  (keep:∀b o,b≠X.env.locals→b∉X.fs→b∉ch→s.heap.get? b=some o→H b=none→h'.get? b=some o)
  (slot:∀b o,b≠X.env.locals→b∈X.fs→b∉ch→s.heap.get? b=some o→H b=none→∃sl,h'.get? b=some { o with slots:=sl }) (free:∀b o,b∉ch→s.heap.get? b=some o→H b=none→H' b=none)
  (there:∀b o,b∉ch→s.heap.get? b=some o→∃o',h'.get? b=some o')
  (lZ:∀b xs,H b=some (.tup xs)→H' b=some (.tup xs)) (uK:∀b o u,H b=some (.frz o u)→H' b=some (.frz o u)) (ll:∀b ps,H b=some (.tbl ps)→∃more,H' b=some (.tbl (ps ++ more)))
  (ns:∀m,s.heap.Ns X.env.locals m→h'.Ns X.env.locals m) (jx:bp X.prog X.w H' h') (hg:AllBare g') :
  Inv X pins σ H' { s with heap:=h',gens:=g',drawn:=d',toks:=t' }:=by
 have neL:∀b o,X.s₀.heap.get? b=some o→b≠X.env.locals:=fun b o e=>Nat.ne_of_lt (Nat.lt_of_lt_of_le (Heap.lt_size e) I.ok.above)
 have neC:∀b o,X.s₀.heap.get? b=some o→b∉X.ex→b∉ch:=fun b o e hx hb=>by
  rcases(hch b hb).1 with z | z
  ·exact hx z
  ·exact absurd (Nat.lt_of_lt_of_le (Heap.lt_size e) z) (Nat.lt_irrefl _)
 have cellK:∀x c,X.env.cells.lookup x=some c→∀v,s.heap.IsCell c v→h'.IsCell c v:=fun x c e v ⟨o,ho,hd⟩=>by
  have nch:c∉ch:=fun z=>(hch c z).2.2.1 x c e rfl
  by_cases hc:c∈X.fs
  ·obtain⟨sl,q⟩:=slot c o (I.Vy x c e) hc nch ho (I.yC x c e)
   exact⟨_,q,hd⟩
  ·exact⟨o,keep c o (I.Vy x c e) hc nch ho (I.yC x c e),hd⟩
 refine⟨I.ok,I.os,hg,⟨fun b o e n hb hx=>?_,fun b o e n hb hx=>?_,fun b o e n hx=>?_,fun b o e hx=>?_,fun b xs e=>lZ b xs (I.base.lZ b xs e),fun b o xs e=>uK b o xs (I.base.uK b o xs e),fun b ps e=>?_⟩,?_,fun x c e=>?_,?_,fun x c e=>?_,fun p hp=>?_,jx,I.len⟩
 ·exact keep b o (neL b o e) hb (neC b o e hx) (I.base.keep b o e n hb hx) (I.base.free b o e n hx)
 ·obtain⟨sl,e1⟩:=I.base.slot b o e n hb hx
  obtain⟨sl',e2⟩:=slot b _ (neL b o e) hb (neC b o e hx) e1 (I.base.free b o e n hx)
  exact⟨sl',e2⟩
 ·obtain⟨o',e1⟩:=I.base.there b o e hx
  exact free b o' (neC b o e hx) e1 (I.base.free b o e n hx)
 ·obtain⟨o',e1⟩:=I.base.there b o e hx
  exact there b o' (neC b o e hx) e1
 ·obtain⟨m1,e1⟩:=I.base.ll b ps e
  obtain⟨m2,e2⟩:=ll b _ e1
  exact⟨m1 ++ m2,by rw[e2,Array.append_assoc]⟩
 ·obtain⟨m,hn,hl⟩:=I.loc
  refine⟨m,ns m hn,fun i x v e1 e2 e3=>?_⟩
  obtain⟨u,r,l⟩:=hl i x v e1 e2 e3
  refine⟨u,r,?_⟩
  rcases l with l | ⟨k,c,e,z⟩
  ·exact .inl l
  ·exact .inr ⟨k,c,e,cellK x c e _ z⟩
 ·obtain⟨v,z⟩:=I.cell x c e
  exact⟨v,cellK x c e v z⟩
 ·obtain⟨m,⟨o,_,_,ho,_⟩,_⟩:=I.loc
  exact free _ o (fun z=>(hch _ z).2.1 rfl) ho I.free
 ·obtain⟨v,o,ho,hd⟩:=I.cell x c e
  exact free c o (fun z=>(hch c z).2.2.1 x c e rfl) ho (I.yC x c e)
 ·obtain⟨e,n,ne,nf,d⟩:=I.pin p hp
  have nch:p.1∉ch:=fun z=>(hch p.1 z).2.2.2 p hp rfl
  exact⟨keep p.1 p.2 ne nf nch e n,free p.1 p.2 nch e n,ne,nf,d⟩
theorem Inv.un {t':Nat} (I:Inv X pins σ H s) (u:Un X.fs [] H H' s.heap h') (jx:bp X.prog X.w H' h'):Inv X pins σ H' { s with heap:=h',toks:=t' }:=by
 obtain⟨m,⟨o,es,ep,ho,r⟩,_⟩:=id I.loc
 obtain⟨sl,hL⟩:=u.any ho I.free (by simp)
 exact I.step (g':=s.gens) (d':=s.drawn) (ch:=[]) (fun _ z=>nomatch z) (fun b o _ hb _ e n=>u.keep b o e n hb (by simp)) (fun b o _ hb _ e n=>u.slot b o e n hb (by simp)) (fun b o _ e n=>u.free b o e n (by simp)) (fun b o _ e=>u.there b o e (by simp)) u.lZ u.uK u.ll (fun m' hm=>by
  obtain⟨o',es',ep',ho',r'⟩:=hm
  rw[ho] at ho';cases ho'
  exact⟨_,es',ep',hL,r'⟩) jx I.bare
theorem Inv.call {g':Array GenState} {t':Nat} {d':Drawn} {ch:List Addr} (I:Inv X pins σ H s) (u:Un (sO X.stack) ch H H' s.heap h') (jx:bp X.prog X.w H' h') (hg:AllBare g')
  (hch:∀b∈ch,(b∈X.ex∨X.s₀.heap.objs.size≤b)∧b≠X.env.locals∧(∀x c,X.env.cells.lookup x=some c→c≠b)∧∀p∈X.pn ++ pins,p.1≠b) :
  Inv X pins σ H' { s with heap:=h',gens:=g',drawn:=d',toks:=t' }:=by
 obtain⟨m,⟨o,es,ep,ho,r⟩,_⟩:=id I.loc
 obtain⟨sl,hL⟩:=u.any ho I.free fun z=>(hch _ z).2.1 rfl
 exact I.step (ch:=ch) hch (fun b o hL hb hc e n=>u.keep b o e n (fun z=>(List.mem_cons.mp (I.rY b z)).elim hL hb) hc) (fun b o _ _ hc e n=>u.any e n hc) (fun b o hc e n=>u.free b o e n hc) (fun b o hc e=>u.there b o e hc) u.lZ u.uK u.ll (fun m' hm=>by
  obtain⟨o',es',ep',ho',r'⟩:=hm
  rw[ho] at ho';cases ho'
  exact⟨_,es',ep',hL,r'⟩) jx hg
theorem Inv.turned {t':Nat} {it:Addr} (I:Inv X pins σ H s) (k:∀b o,b≠it→s.heap.get? b=some o→h'.get? b=some o) (hn:H it=none) (hL:it≠X.env.locals)
  (h1:it∈X.ex∨X.s₀.heap.objs.size≤it) (h2:∀x c,X.env.cells.lookup x=some c→c≠it) (h3:∀p∈X.pn ++ pins,p.1≠it):Inv X pins σ H { s with heap:=h',toks:=t' }:=by
 have nit:∀b u,H b=some u→b≠it:=fun b u e z=>by rw[z,hn] at e;cases e
 refine I.step (g':=s.gens) (d':=s.drawn) (ch:=[it]) (fun b hb=>?_) (fun b o _ _ hc e _=>k b o (fun z=>hc (by simp [z])) e) (fun b o _ _ hc e _=>⟨o.slots,k b o (fun z=>hc (by simp [z])) e⟩) (fun _ _ _ _ n=>n)
  (fun b o hc e=>⟨o,k b o (fun z=>hc (by simp [z])) e⟩) (fun _ _ e=>e) (fun _ _ _ e=>e) (fun b ps e=>⟨#[],by rw[e];simp⟩) (fun m hm=>?_) (fun b u e=>?_) I.bare
 ·have e:b=it:=by simpa using hb
  subst e
  exact⟨h1,hL,h2,h3⟩
 ·obtain⟨o,es,ep,ho,r⟩:=hm
  exact⟨o,es,ep,k _ o (Ne.symm hL) ho,r⟩
 ·refine(I.jx b u e).nK (fun c v hc q=>k c v ?_ q) (fun _ q=>q) fun _ _ q=>q
  rcases hc with z | z
  ·rw[z];exact nit b u e
  ·exact nit c _ z
theorem Inv.tok (I:Inv X pins σ H s) (t:Nat):Inv X pins σ H { s with toks:=t }:=I.un (h':=s.heap) (t':=t) Un.refl I.jx
theorem Inv.kept {t':Nat} (I:Inv X pins σ H s) (k:∀b u,s.heap.get? b=some u→h'.get? b=some u):Inv X pins σ H { s with heap:=h',toks:=t' }:=I.un (Un.kept k) (I.jx.kept k)
theorem Inv.laid {a:Addr} {o:HO} {t':Nat} (I:Inv X pins σ H s) (k:∀b u,s.heap.get? b=some u→h'.get? b=some u) (hp:s.heap.objs.size≤a) (new:xk X.prog X.w (upd H a o) h' a o) :
  Inv X pins σ (upd H a o) { s with heap:=h',toks:=t' }:=I.un (Un.laid k hp (I.jx.fresh hp)) (I.jx.laid k hp new)
theorem Inv.write {x e:Addr} {o:HO} {t':Nat} (I:Inv X pins σ H s) (mu:Yn (H x)) (he:e=x∨H e=some (.own x)) (k:∀b u,b≠e→s.heap.get? b=some u→h'.get? b=some u) (heo:∃u,h'.get? e=some u)
  (new:xk X.prog X.w (upd H x o) h' x o):Inv X pins σ (upd H x o) { s with heap:=h',toks:=t' }:=I.un (Un.write mu he k heo) (I.jx.write mu he k heo new)
theorem Inv.weak {σ':List (Option V)} (I:Inv X pins σ H s) (hl:σ'.length=σ.length) (w:∀(i:Nat) v,σ'[i]?=some (some v)→σ[i]?=some (some v)):Inv X pins σ' H s:=
 ⟨I.ok,I.os,I.bare,I.base,let ⟨m,hn,hl'⟩:=I.loc;⟨m,hn,fun i x v e1 e2 e3=>hl' i x v e1 (w i v e2) e3⟩,I.cell,I.free,I.yC,I.pin,I.jx,hl.trans I.len⟩
theorem Inv.uv {pins':List (Addr × Obj)} (I:Inv X pins σ H s) (h:∀p∈pins',s.heap.get? p.1=some p.2∧H p.1=none∧p.1≠X.env.locals∧p.1∉X.fs∧∀v,p.2.data≠.cell v):Inv X pins' σ H s:=
 ⟨I.ok,I.os,I.bare,I.base,I.loc,I.cell,I.free,I.yC,fun p hp=>(List.mem_append.mp hp).elim (fun z=>I.pin p (List.mem_append_left _ z)) (h p),I.jx,I.len⟩
theorem df {N:List Str} (hN:N.Nodup) {i j:Nat} {x:Str} (a:N[i]?=some x) (b:N[j]?=some x):i=j:=by
 obtain⟨h1,e1⟩:=List.getElem?_eq_some_iff.mp a
 obtain⟨h2,e2⟩:=List.getElem?_eq_some_iff.mp b
 exact(List.getElem_inj hN).mp (e1.trans e2.symm)
theorem Qc {M:Model} {A:Around} {E:Value→Shared→Prop} {i:Nat} {x:Str} {v:V} {u:Value} {Q:Unit→Shared→Prop} (I:Inv X pins σ H s) (hN:X.N.Nodup) (hi:X.N[i]?=some x) (hx:Loc X.env.scope x) (r:RelV v u)
  (h:∀s',Inv X pins (σ.set i (some v)) H s'→(∃a,Heap.SameBut a s.heap s'.heap∧(a=X.env.locals∨X.env.cells.lookup x=some a))→Q () s') (hf:X.fn x=true∨X.env.scope.names.lookup x=some .local:=by first | exact .inl rfl | exact .inr rfl | assumption):wpAny M A (storeName X.env x u) Q E s:=by
 obtain⟨m,hn,hl⟩:=id I.loc
 have hcls:(X.env.scope.kind == .class || (X.env.scope.kind == .module && X.env.locals != X.env.globals))=false:=by rw[I.ok.kind];rfl
 have hiσ:i < σ.length:=by rw[I.len];exact(List.getElem?_eq_some_iff.mp hi).1
 have Vy:=I.Vy
 have tracked:∀{a:Addr} {h':Heap},(∃o,s.heap.get? a=some o∧H a=none)→Heap.SameBut a s.heap h'→bp X.prog X.w H h':=fun {a h'} ha hs b ob e=>by
  obtain⟨_,_,hfree⟩:=ha
  refine(I.jx b ob e).nK (fun c w' hc q=>(hs.2 c ?_).trans q) (fun _ q=>q) fun _ _ q=>q
  rintro rfl
  rcases hc with rfl | hc
  ·rw[hfree] at e;cases e
  ·rw[hfree] at hc;cases hc
 rcases hx with hk | hk
 ·refine wpAny_storeName_local hk hn (fun h' hn' hs=>?_) hcls
  obtain⟨oL,_,_,hoL,_⟩:=id hn
  refine h _ ⟨I.ok,I.os,I.bare,⟨fun b o e n hb hx=>?_,fun b o e n hb hx=>?_,I.base.free,fun b o e hx=>?_,I.base.lZ,I.base.uK,I.base.ll⟩,⟨_,hn',fun j y v' e1 e2 e3=>?_⟩,fun y c e=>?_,I.free,I.yC,fun p hp=>?_,tracked ⟨oL,hoL,I.free⟩ hs,by simpa using I.len⟩ ⟨_,hs,.inl rfl⟩
  ·exact(hs.2 b (Nat.ne_of_lt (Nat.lt_of_lt_of_le (Heap.lt_size e) I.ok.above))).trans (I.base.keep b o e n hb hx)
  ·obtain⟨sl,e1⟩:=I.base.slot b o e n hb hx
   exact⟨sl,(hs.2 b (Nat.ne_of_lt (Nat.lt_of_lt_of_le (Heap.lt_size e) I.ok.above))).trans e1⟩
  ·obtain⟨o',e1⟩:=I.base.there b o e hx
   exact⟨o',(hs.2 b (Nat.ne_of_lt (Nat.lt_of_lt_of_le (Heap.lt_size e) I.ok.above))).trans e1⟩
  ·by_cases hj:j=i
   ·subst hj
    rw[hi] at e1;cases e1
    rw[List.getElem?_set_self hiσ] at e2
    cases e2
    exact⟨u,r,.inl ⟨hk,by simp⟩⟩
   ·rw[List.getElem?_set_ne (Ne.symm hj)] at e2
    obtain⟨u',r',q⟩:=hl j y v' e1 e2 e3
    refine⟨u',r',?_⟩
    rcases q with ⟨k,e⟩ | ⟨k,c,e,z⟩
    ·refine .inl ⟨k,?_⟩
     have:y≠x:=fun e=>hj (df hN e1 (e▸hi))
     simp [this,e]
    ·exact .inr ⟨k,c,e,z.sameBut hs (Vy y c e)⟩
  ·obtain⟨w',z⟩:=I.cell y c e
   exact⟨w',z.sameBut hs (Vy y c e)⟩
  ·obtain⟨e,n,ne,nf,d⟩:=I.pin p hp
   exact⟨(hs.2 p.1 ne).trans e,n,ne,nf,d⟩
 ·have hfn:X.fn x=true:=by
   rcases hf with z | z
   ·exact z
   ·rw[z] at hk;cases hk
  obtain⟨c,hc⟩:=I.ok.has x (.inl hk)
  obtain⟨w',z⟩:=I.cell x c hc
  refine wpAny_storeName_cell I.ok.kind hk hc z (fun h' hc' hs=>?_)
  obtain⟨oc,hoc,hocd⟩:=id z
  refine h { s with heap:=h' } ⟨I.ok,I.os,I.bare,⟨fun b o e n hb hx=>?_,fun b o e n hb hx=>?_,I.base.free,fun b o e hx=>?_,I.base.lZ,I.base.uK,I.base.ll⟩,⟨m,hn.sameBut hs (Ne.symm (Vy x c hc)),fun j y v' e1 e2 e3=>?_⟩,fun y c' e=>?_,I.free,I.yC,fun p hp=>?_,tracked ⟨oc,hoc,I.yC x c hc⟩ hs,by simpa using I.len⟩ ⟨c,hs,.inr hc⟩
  ·exact(hs.2 b (Nat.ne_of_lt (Nat.lt_of_lt_of_le (Heap.lt_size e) (I.ok.Yd x c hfn hc)))).trans (I.base.keep b o e n hb hx)
  ·obtain⟨sl,e1⟩:=I.base.slot b o e n hb hx
   exact⟨sl,(hs.2 b (Nat.ne_of_lt (Nat.lt_of_lt_of_le (Heap.lt_size e) (I.ok.Yd x c hfn hc)))).trans e1⟩
  ·obtain⟨o',e1⟩:=I.base.there b o e hx
   exact⟨o',(hs.2 b (Nat.ne_of_lt (Nat.lt_of_lt_of_le (Heap.lt_size e) (I.ok.Yd x c hfn hc)))).trans e1⟩
  ·by_cases hj:j=i
   ·subst hj
    rw[hi] at e1;cases e1
    rw[List.getElem?_set_self hiσ] at e2
    cases e2
    exact⟨u,r,.inr ⟨.inl hk,c,hc,hc'⟩⟩
   ·rw[List.getElem?_set_ne (Ne.symm hj)] at e2
    obtain⟨u',r',q⟩:=hl j y v' e1 e2 e3
    refine⟨u',r',?_⟩
    rcases q with q | ⟨k,c',e,z'⟩
    ·exact .inl q
    ·refine .inr ⟨k,c',e,z'.sameBut hs ?_⟩
     rintro rfl
     exact hj (df hN e1 (I.ok.inj _ _ _ e hc▸hi))
  ·by_cases hcc:c'=c
   ·subst hcc;exact⟨_,hc'⟩
   ·obtain⟨w2,z2⟩:=I.cell y c' e
    exact⟨w2,z2.sameBut hs hcc⟩
  ·obtain⟨e,n,ne,nf,d⟩:=I.pin p hp
   refine⟨(hs.2 p.1 ?_).trans e,n,ne,nf,d⟩
   intro q
   rw[q,hoc] at e
   have q':oc=p.2:=Option.some.inj e
   exact d w' (by rw[←q'];exact hocd)
theorem bq {M:Model} {A:Around} {E:Value→Shared→Prop} {i:Nat} {x:Str} {v:V} {u:Value} {Q:Unit→Shared→Prop} (I:Inv X pins σ H s) (hN:X.N.Nodup) (hi:X.N[i]?=some x) (hx:Loc X.env.scope x) (r:RelV v u)
  (h:∀s',Inv X pins (σ.set i (some v)) H s'→Q () s') (hf:X.fn x=true∨X.env.scope.names.lookup x=some .local:=by first | exact .inl rfl | exact .inr rfl | assumption):wpAny M A (storeName X.env x u) Q E s:=
 Qc I hN hi hx r (fun s' I' _=>h s' I') hf
theorem Inv.nR {s':Shared} {ch:List Addr} (I:Inv X pins σ H s) (ho:s'.os=s.os) (u:Un (sO X.stack) ch H H' s.heap s'.heap) (jx:bp X.prog X.w H' s'.heap) (hg:AllBare s'.gens)
  (hch:∀b∈ch,(b∈X.ex∨X.s₀.heap.objs.size≤b)∧b≠X.env.locals∧(∀x c,X.env.cells.lookup x=some c→c≠b)∧∀p∈X.pn ++ pins,p.1≠b):Inv X pins σ H' s':=by
 obtain⟨h',g',d',t',o'⟩:=s'
 have e:o'=s.os:=ho
 subst e
 exact I.call (g':=g') (t':=t') (d':=d') u jx hg hch
end
noncomputable abbrev XK:=Value→Option Addr→Hp→Prop
noncomputable abbrev St:=List (Option V)
noncomputable abbrev VK:=V→Hp→Prop
noncomputable abbrev TE:=St→Hp→VK→Prop
noncomputable abbrev TT:=St→Hp→(Bool→Hp→Prop)→Prop
noncomputable abbrev TA:=St→Hp→(List V→Hp→Prop)→Prop
structure Ends where
 nx:St→Hp→Prop
 rt:VK
 bk:St→Hp→Prop:=fun _ _=>False
 ct:St→Hp→Prop:=fun _ _=>False
noncomputable abbrev TS:=Ends→St→Hp→Prop
noncomputable def EP (X:Cx) (pins:List (Addr × Obj)) (σ:St) (Q:VK) (u:Value) (s':Shared):Prop:=∃v H',Inv X pins σ H' s'∧RelV v u∧Q v H'
noncomputable def TP (X:Cx) (pins:List (Addr × Obj)) (σ:St) (Q:Bool→Hp→Prop) (b:Bool) (s':Shared):Prop:=∃H',Inv X pins σ H' s'∧Q b H'
noncomputable def AP (X:Cx) (pins:List (Addr × Obj)) (σ:St) (Q:List V→Hp→Prop) (us:List Value) (s':Shared):Prop:=∃vs H',Inv X pins σ H' s'∧Vals vs us∧Q vs H'
noncomputable def SP (X:Cx) (pins:List (Addr × Obj)) (D:Ends) (f:Flow) (s':Shared):Prop:=
 match f with
 | .next=>∃σ' H',Inv X pins σ' H' s'∧D.nx σ' H'
 | .brk=>∃σ' H',Inv X pins σ' H' s'∧D.bk σ' H'
 | .cont=>∃σ' H',Inv X pins σ' H' s'∧D.ct σ' H'
 | .ret u=>∃v σ' H',Inv X pins σ' H' s'∧RelV v u∧D.rt v H'
noncomputable def PE (X:Cx) (e:Expr) (t:TE):Prop:=
 ∀(pins:List (Addr × Obj)) (s:Shared) (σ:St) (H:Hp) (Q:VK),Inv X pins σ H s→t σ H Q→wpAny (model X.prog X.w) X.A (eval e X.env) (EP X pins σ Q) X.xe s
noncomputable def PT (X:Cx) (e:Expr) (t:TT):Prop:=
 ∀(pins:List (Addr × Obj)) (s:Shared) (σ:St) (H:Hp) (Q:Bool→Hp→Prop),Inv X pins σ H s→t σ H Q→wpAny (model X.prog X.w) X.A (isTrue e X.env (eval e X.env)) (TP X pins σ Q) X.xe s
noncomputable def PW (X:Cx) (e:Expr) (t:TT):Prop:=
 ∀(whole:Sem Value) (pins:List (Addr × Obj)) (s:Shared) (σ:St) (H:Hp) (Q:Bool→Hp→Prop),Inv X pins σ H s→t σ H Q→wpAny (model X.prog X.w) X.A (isTrue e X.env whole) (TP X pins σ Q) X.xe s
theorem PW.pt {X:Cx} {e:Expr} {t:TT} (h:PW X e t):PT X e t:=h _
noncomputable def PA (X:Cx) (es:List Expr) (t:TA):Prop:=
 ∀(pos:Pos) (pins:List (Addr × Obj)) (s:Shared) (σ:St) (H:Hp) (Q:List V→Hp→Prop),Inv X pins σ H s→t σ H Q→wpAny (model X.prog X.w) X.A (spliced (backTo pos (starEach es X.env))) (AP X pins σ Q) X.xe s
noncomputable def PS (X:Cx) (st:Stmt) (t:TS):Prop:=
 ∀(pins:List (Addr × Obj)) (s:Shared) (σ:St) (H:Hp) (D:Ends),Inv X pins σ H s→t D σ H→wpAny (model X.prog X.w) X.A (exec st X.env) (SP X pins D) X.xe s
noncomputable def iP (X:Cx) (st:List Stmt) (t:TS):Prop:=
 ∀(pins:List (Addr × Obj)) (s:Shared) (σ:St) (H:Hp) (D:Ends),Inv X pins σ H s→t D σ H→wpAny (model X.prog X.w) X.A (execs st X.env) (SP X pins D) X.xe s
theorem xf {α:Type} {t:Sem α} {Q Q':α→Shared→Prop} {M:Model} {A:Around} {E:Value→Shared→Prop} {s:Shared} (h:wpAny M A t Q E s) (hQ:∀a s,Q a s→Q' a s):wpAny M A t Q' E s:=wpAny_mono h hQ fun _ _ x=>x
end L2
namespace L2
open PySem PySem.Spec PyProof.Rows
section
variable {X:Cx}
theorem bin {a b:Expr} {ta tb:TE} (ha:PE X a ta) (hb:PE X b tb) {pins:List (Addr × Obj)} {s:Shared} {σ:St} {H:Hp} {R:V→V→Hp→Prop} (I:Inv X pins σ H s) (h:ta σ H fun x H1=>tb σ H1 fun y H2=>R x y H2)
  {α:Type} {Q:α→Shared→Prop} {f:Value→Value→Sem α}
  (hf:∀v u s2 x y H2,Inv X pins σ H2 s2→RelV x v→RelV y u→R x y H2→wpAny (model X.prog X.w) X.A (f v u) Q X.xe s2) :
  wpAny (model X.prog X.w) X.A (eval a X.env) (fun v s₁=>wpAny (model X.prog X.w) X.A (eval b X.env) (fun u s₂=>wpAny (model X.prog X.w) X.A (f v u) Q X.xe s₂) X.xe s₁) X.xe s:=by
 refine xf (ha pins s σ H _ I h) fun v s1 ⟨x,H1,I1,r1,q1⟩=>?_
 refine xf (hb pins s1 σ H1 _ I1 q1) fun u s2 ⟨y,H2,I2,r2,q2⟩=>?_
 exact hf v u s2 x y H2 I2 r1 r2 q2
noncomputable def Ge (i:Nat):TE:=fun σ H Q=>∃v,σ[i]?=some (some v)∧Q v H
noncomputable def tC (v:V):TE:=fun _ H Q=>Q v H
theorem WD {i:Nat} {x:Str} {pos:Pos} (hN:X.N[i]?=some x) (hv:GY X.env.scope x) (hd:(x == ("__debug__" : Str))=false:=by decide) (hcd:(x == ("__classdict__" : Str))=false:=by decide):PE X (.Name x pos) (Ge i):=by
 intro pins s σ H Q I h
 obtain⟨v,e,h⟩:=h
 obtain⟨m,hn,hl⟩:=I.loc
 obtain⟨u,r,l⟩:=hl i x v hN e hv
 have fin:EP X pins σ Q u s:=⟨v,H,I,r,h⟩
 rcases l with ⟨hk,hm⟩ | ⟨hk,c,hc,hcell⟩
 ·exact wpAny_Name (wpAny_loadName_local I.ok.kind hk hn hm fin) hd
 ·rcases hk with hk | hk
  ·exact wpAny_Name (wpAny_loadName_cell I.ok.kind hk hc hcell fin) hd
  ·exact wpAny_Name (wpAny_loadName_free I.ok.kind hk hc hcell fin hcd) hd
theorem z9 {i j pos}:PE X (.Constant (.int i) j pos) (tC (.int i)):=fun _ _ _ H _ I h=>wpAny_Constant_int ⟨.int i,H,I.tok _,⟨_,rfl⟩,h⟩
theorem vz {b j pos}:PE X (.Constant (.bool b) j pos) (tC (.bl b)):=fun _ _ _ H _ I h=>Constant_bool ⟨.bl b,H,I,rfl,h⟩
theorem vZ {j pos}:PE X (.Constant .none j pos) (tC .non):=fun _ _ _ H _ I h=>Constant_none ⟨.non,H,I,rfl,h⟩
theorem qk {x j pos}:PE X (.Constant (.str x) j pos) (tC (.str x)):=fun _ _ _ H _ I h=>Calls.Constant_str ⟨.str x,H,I.tok _,⟨_,rfl⟩,h⟩
noncomputable def Gl (X:Cx) (x:Str):Prop:=X.env.kindOf x=some .globalImplicit
theorem gc {E:Value→Shared→Prop} {pins:List (Addr × Obj)} {s:Shared} {σ:St} {H:Hp} {x:Str} {u:Value} {pos:Pos} {Q:Value→Shared→Prop} (I:Inv X pins σ H s) (hg:Gl X x) (hm:X.mg x=some u) (h:Q u s)
  (hd:(x == ("__debug__" : Str))=false:=by decide):wpAny (model X.prog X.w) X.A (eval (.Name x pos) X.env) Q E s:=
 Calls.Name_function_global I.ok.kind hg (Calls.loadGlobal_global (by rw[I.ok.glob];exact I.mod.glob.keeps I.bk) hm h) hd
theorem dS {E:Value→Shared→Prop} {pins:List (Addr × Obj)} {s:Shared} {σ:St} {H:Hp} {x:Str} {u:Value} {pos:Pos} {Q:Value→Shared→Prop} (I:Inv X pins σ H s) (hg:Gl X x) (hm:X.mg x=none) (hv:bootBuiltins x=some u) (h:Q u s)
  (hn:x≠"__name__":=by decide) (hd:(x == ("__debug__" : Str))=false:=by decide):wpAny (model X.prog X.w) X.A (eval (.Name x pos) X.env) Q E s:=by
 obtain⟨mb,h1,h2⟩:=I.mod.blt
 exact Calls.Name_function_global I.ok.kind hg (Calls.loadGlobal_builtin (by rw[I.ok.glob];exact I.mod.glob.keeps I.bk) hm (by rw[I.ok.blt];exact h1.keeps I.bk) ((h2 x hn).trans hv) h) hd
theorem jf {x:Str} {v:V} {u:Value} {pos:Pos} (hg:Gl X x) (hm:X.mg x=some u) (r:RelV v u) (hd:(x == ("__debug__" : Str))=false:=by decide):PE X (.Name x pos) (tC v):=
 fun _ _ _ H _ I h=>gc I hg hm ⟨v,H,I,r,h⟩ hd
theorem tD {x:Str} {v:V} {u:Value} {pos:Pos} (hg:Gl X x) (hm:X.mg x=none) (hv:bootBuiltins x=some u) (r:RelV v u) (hn:x≠"__name__":=by decide) (hd:(x == ("__debug__" : Str))=false:=by decide):PE X (.Name x pos) (tC v):=
 fun _ _ _ H _ I h=>dS I hg hm hv ⟨v,H,I,r,h⟩ hn hd
noncomputable def GS (ta tb:TE) (k:Int→Int→Hp→Prop):St→Hp→Prop:=fun σ H=>ta σ H fun x H1=>tb σ H1 fun y H2=>∃i j,x=.int i∧y=.int j∧k i j H2
noncomputable def B2 (ta tb:TE):TE:=fun σ H Q=>GS ta tb (fun i j H2=>Q (.int (i + j)) H2) σ H
noncomputable def Px (ta tb:TE):TE:=fun σ H Q=>GS ta tb (fun i j H2=>Q (.int (i - j)) H2) σ H
noncomputable def B8 (ta tb:TE):TE:=fun σ H Q=>GS ta tb (fun i j H2=>(-(2 ^ 64) < i∧i < 2 ^ 64)∧Q (.int (i * j)) H2) σ H
variable {a b:Expr} {ta tb:TE} {pos:Pos}
noncomputable def PC (X:Cx) (op:CmpOp) (a b:Expr) (t:TE):Prop:=
 ∀(pins:List (Addr × Obj)) (s:Shared) (σ:St) (H:Hp) (Q:VK),Inv X pins σ H s→t σ H Q→
  wpAny (model X.prog X.w) X.A (eval a X.env) (fun v s₁=>wpAny (model X.prog X.w) X.A (eval b X.env) (fun u s₂=>wpAny (model X.prog X.w) X.A (compareOp op v u) (EP X pins σ Q) X.xe s₂) X.xe s₁) X.xe s
noncomputable def Qu (p:Int→Int→Bool) (ta tb:TE):TE:=fun σ H Q=>GS ta tb (fun i j H2=>Q (.bl (p i j)) H2) σ H
noncomputable abbrev Pa:TE→TE→TE:=Qu fun i j=>decide (i < j)
noncomputable abbrev Pe:TE→TE→TE:=Qu fun i j=>decide (i≤j)
noncomputable abbrev Pn:TE→TE→TE:=Qu fun i j=>decide (j < i)
noncomputable abbrev Pt:TE→TE→TE:=Qu fun i j=>decide (j≤i)
noncomputable abbrev B6:TE→TE→TE:=Qu fun i j=>decide (i=j)
noncomputable abbrev B9:TE→TE→TE:=Qu fun i j=>!decide (i=j)
noncomputable def B7 (ta:TE):TE:=fun σ H Q=>ta σ H fun x H1=>Q (.bl (decide (x=.non))) H1
noncomputable def Bi (ta:TE):TE:=fun σ H Q=>ta σ H fun x H1=>Q (.bl (!decide (x=.non))) H1
noncomputable def tB (t:TE):TT:=fun σ H Q=>t σ H fun x H1=>∃c,x=.bl c∧Q c H1
theorem JI {op:CmpOp} {t:TE} (h:PC X op a b t) (h1:behindInMarks op b=false:=by first | exact nobehind _ (by decide) (by decide) | rfl):PT X (.Compare a [op] [b] pos) (tB t):=by
 intro pins s σ H Q I hw
 refine wpAny_isTrue_Compare1 (xf (h pins s σ H _ I hw) fun v s1 h1=>xf h1 fun u s2 h2=>xf h2 fun c s3 ⟨x,H1,I1,r1,q1⟩=>?_) h1
 obtain⟨d,rfl,q⟩:=q1
 cases r1
 exact wpAny_truthy_bool ⟨H1,I1,q⟩
theorem jE {e:Expr} {t:TE} (h:PE X e t) (he:∀whole,isTrue e X.env whole=(do let v ←whole;standAt e.pos;holding [v] (truthy v)):=by intro _;rfl):PT X e (tB t):=by
 intro pins s σ H Q I hw
 refine isTrue_plain (xf (h pins s σ H _ I hw) fun v s1 ⟨x,H1,I1,r1,q1⟩=>?_) (he _)
 obtain⟨d,rfl,q⟩:=q1
 cases r1
 exact wpAny_truthy_bool ⟨H1,I1,q⟩
variable {tA tB':TT} {rest:List Expr}
noncomputable def HY (t u:TT):TT:=fun σ H Q=>t σ H fun c H1=>if c=true then u σ H1 Q else Q false H1
noncomputable def Pz (t u:TT):TT:=fun σ H Q=>t σ H fun c H1=>if c=true then Q true H1 else u σ H1 Q
noncomputable def HE (t:TT):TT:=fun σ H Q=>t σ H fun c H1=>Q (!c) H1
theorem uw (ha:PT X a tA):PW X (.BoolOp .And [a] pos) tA:=by
 intro wh pins s σ H Q I h
 refine isTrue_and (xf (ha pins s σ H Q I h) fun c s1 e=>?_)
 cases c with
 | true=>exact isTrue_and_nil e
 | false=>exact e
theorem wH (ha:PT X a tA):PW X (.BoolOp .Or [a] pos) tA:=by
 intro wh pins s σ H Q I h
 refine isTrue_or (xf (ha pins s σ H Q I h) fun c s1 e=>?_)
 cases c with
 | false=>exact isTrue_or_nil e
 | true=>exact e
theorem tT (ha:PT X a tA) (hb:PW X (.BoolOp .And (b :: rest) pos) tB'):PW X (.BoolOp .And (a :: b :: rest) pos) (HY tA tB'):=by
 intro wh pins s σ H Q I h
 refine isTrue_and (xf (ha pins s σ H _ I h) fun c s1 ⟨H1,I1,q1⟩=>?_)
 cases c with
 | true=>exact hb wh pins s1 σ H1 Q I1 q1
 | false=>exact⟨H1,I1,q1⟩
theorem wX (ha:PT X a tA) (hb:PW X (.BoolOp .Or (b :: rest) pos) tB'):PW X (.BoolOp .Or (a :: b :: rest) pos) (Pz tA tB'):=by
 intro wh pins s σ H Q I h
 refine isTrue_or (xf (ha pins s σ H _ I h) fun c s1 ⟨H1,I1,q1⟩=>?_)
 cases c with
 | true=>exact⟨H1,I1,q1⟩
 | false=>exact hb wh pins s1 σ H1 Q I1 q1
theorem wG (ha:PT X a tA):PT X (.UnaryOp .Not a pos) (HE tA):=by
 intro pins s σ H Q I h
 exact isTrue_not (ha pins s σ H (fun c H1=>Q (!c) H1) I h)
noncomputable def Gf (ta tb:TE):TE:=fun σ H Q=>ta σ H fun x H1=>∃c,x=.bl c∧if c=true then tb σ H1 Q else Q (.bl false) H1
noncomputable def HA (ta tb:TE):TE:=fun σ H Q=>ta σ H fun x H1=>∃c,x=.bl c∧if c=true then Q (.bl true) H1 else tb σ H1 Q
noncomputable def Gr (ta:TE):TE:=fun σ H Q=>ta σ H fun x H1=>∃c,x=.bl c∧Q (.bl (!c)) H1
theorem tU {op} {t:TE} (h:PE X a t):PE X (.BoolOp op [a] pos) t:=fun pins s σ H Q I hw=>BoolOp_one (h pins s σ H Q I hw)
theorem tM (ha:PE X a ta) (hb:PE X (.BoolOp .And (b :: rest) pos) tb):PE X (.BoolOp .And (a :: b :: rest) pos) (Gf ta tb):=by
 intro pins s σ H Q I h
 refine BoolOp_and (xf (ha pins s σ H _ I h) fun v s1 ⟨x,H1,I1,r1,q1⟩=>?_)
 obtain⟨c,rfl,q1⟩:=q1
 cases r1
 refine wpAny_truthy_bool ?_
 cases c with
 | true=>exact hb pins s1 σ H1 Q I1 q1
 | false=>exact⟨.bl false,H1,I1,rfl,q1⟩
theorem YA (ha:PE X a ta) (hb:PE X (.BoolOp .Or (b :: rest) pos) tb):PE X (.BoolOp .Or (a :: b :: rest) pos) (HA ta tb):=by
 intro pins s σ H Q I h
 refine BoolOp_or (xf (ha pins s σ H _ I h) fun v s1 ⟨x,H1,I1,r1,q1⟩=>?_)
 obtain⟨c,rfl,q1⟩:=q1
 cases r1
 refine wpAny_truthy_bool ?_
 cases c with
 | false=>exact hb pins s1 σ H1 Q I1 q1
 | true=>exact⟨.bl true,H1,I1,rfl,q1⟩
theorem WB (ha:PE X a ta):PE X (.UnaryOp .Not a pos) (Gr ta):=by
 intro pins s σ H Q I h
 refine UnaryOp_ (xf (ha pins s σ H _ I h) fun v s1 ⟨x,H1,I1,r1,q1⟩=>?_)
 obtain⟨c,rfl,q1⟩:=q1
 cases r1
 exact not_of (wpAny_truthy_bool ⟨.bl (!c),H1,I1,rfl,q1⟩)
noncomputable def Po (t:TT) (ta tb:TE):TE:=fun σ H Q=>t σ H fun c H1=>if c=true then ta σ H1 Q else tb σ H1 Q
end
end L2
namespace L2
open PySem PySem.Spec PyProof.Rows
noncomputable def qL (K:PySem.W.Frag) (H:Hp) (a:Addr) (xs:List V):Prop:=
 Rd H a (.lst xs)∨
  ∃(o:Obj) (its:Array Value) (n:Nat),K.lookup a=some o∧o.cls=.type "list"∧o.dict=none∧o.data=.seq its n∧its.size≤sizeLine∧Vals xs its.toList
noncomputable def yc (K:PySem.W.Frag) (H:Hp) (a:Addr) (xs:List V):Prop:=
 Rd H a (.tup xs)∨
  ∃(o:Obj) (its:Array Value) (n:Nat),K.lookup a=some o∧o.cls=.type "tuple"∧o.data=.seq its n∧its.size≤sizeLine∧Vals xs its.toList
noncomputable def Hj:Value→Option V
 | .none=>some .non
 | .bool b=>some (.bl b)
 | .int i _=>some (.int i)
 | .str x _=>some (.str x)
 | .bytes b _=>some (.byt b)
 | .float b _=>some (.flt b)
 | .ref a=>some (.ref a)
 | .type n=>some (.ty n)
 | _=>none
theorem RelV.abs {x:V} {u:Value} (r:RelV x u):Hj u=some x:=by
 cases x with
 | non=>cases r;rfl
 | bl _=>cases r;rfl
 | int _=>obtain⟨t,rfl⟩:=r;rfl
 | str _=>obtain⟨t,rfl⟩:=r;rfl
 | byt _=>obtain⟨t,rfl⟩:=r;rfl
 | flt _=>obtain⟨t,rfl⟩:=r;rfl
 | ref _=>cases r;rfl
 | ty _=>cases r;rfl
theorem RelV.inj {x y:V} {u:Value} (r:RelV x u) (q:RelV y u):x=y:=Option.some.inj (r.abs.symm.trans q.abs)
theorem Vals.inj:∀{xs ys:List V} {us:List Value},Vals xs us→Vals ys us→xs=ys
 | _,_,_,.nil,.nil=>rfl
 | _,_,_,.cons r t,.cons r' t'=>by rw[r.inj r',Vals.inj t t']
section
variable {X:Cx} {pins:List (Addr × Obj)} {σ:St} {H:Hp} {s:Shared} {a:Addr} {xs ys:List V}
theorem qL.of {K:PySem.W.Frag} (h:H a=some (.lst xs)):qL K H a xs:=.inl (.inl h)
theorem yc.of {K:PySem.W.Frag} (h:H a=some (.tup xs)):yc K H a xs:=.inl (.inl h)
theorem Inv.list (I:Inv X pins σ H s) (h:qL X.K H a xs):∃its:List Value,Vals xs its∧PlainL s.heap a its.toArray∧xs.length≤sizeLine:=by
 rcases h with h | ⟨o,its,n,hk,hc,hd,hs,hz,r⟩
 ·obtain⟨z,its,n,r,e⟩:=h.ok I.jx
  exact⟨its,r,⟨_,n,e,rfl,rfl,rfl⟩,z⟩
 ·refine⟨its.toList,r,⟨o,n,I.gU a o hk,hc,hd,by simpa using hs⟩,?_⟩
  have e:=r.length
  simp only[Array.length_toList] at e
  omega
theorem Inv.tuple (I:Inv X pins σ H s) (h:yc X.K H a xs):∃its:List Value,Vals xs its∧IsTup s.heap a its.toArray∧xs.length≤sizeLine:=by
 rcases h with h | ⟨o,its,n,hk,hc,hs,hz,r⟩
 ·obtain⟨z,its,r,p⟩:=h.ok I.jx
  exact⟨its,r,p,z⟩
 ·refine⟨its.toList,r,⟨o,I.gU a o hk,hc,n,by simpa using hs⟩,?_⟩
  have e:=r.length
  simp only[Array.length_toList] at e
  omega
theorem Inv.uH (I:Inv X pins σ H s) (h:qL X.K H a xs) (h':qL X.K H a ys):xs=ys:=by
 obtain⟨its,r,⟨o,n,e,_,_,d⟩,_⟩:=I.list h
 obtain⟨its',r',⟨o',n',e',_,_,d'⟩,_⟩:=I.list h'
 rw[e] at e';cases e'
 rw[d] at d'
 injection d' with d1 _
 have:its=its':=by simpa using congrArg Array.toList d1
 subst this
 exact r.inj r'
end
noncomputable abbrev Cx.lQ (X:Cx) (E:Value→Shared→Prop):Cx:={ X with xe:=E }
noncomputable abbrev Cx.GD (X:Cx):Cx:=X.lQ fun _ _=>False
theorem Cx.Ok.lQ {X:Cx} (ok:X.Ok) (E:Value→Shared→Prop):(X.lQ E).Ok:=
 ⟨ok.mod,ok.kind,ok.glob,ok.blt,ok.above,ok.inj,ok.has,ok.Yd,ok.hd,ok.frames,ok.Gb,ok.V8,ok.bs,ok.ZY,ok.eu,ok.iC,ok.dU,ok.Vp⟩
theorem Cx.Ok.pA {X:Cx} {E:Value→Shared→Prop} (ok:(X.lQ E).Ok):X.Ok:=
 ⟨ok.mod,ok.kind,ok.glob,ok.blt,ok.above,ok.inj,ok.has,ok.Yd,ok.hd,ok.frames,ok.Gb,ok.V8,ok.bs,ok.ZY,ok.eu,ok.iC,ok.dU,ok.Vp⟩
section
variable {X:Cx} {pins:List (Addr × Obj)} {σ:St} {H:Hp} {s:Shared} {E:Value→Shared→Prop}
theorem Inv.lQ (I:Inv X pins σ H s) (E:Value→Shared→Prop):Inv (X.lQ E) pins σ H s:=⟨I.ok.lQ E,I.os,I.bare,I.base,I.loc,I.cell,I.free,I.yC,I.pin,I.jx,I.len⟩
theorem Inv.pA (I:Inv (X.lQ E) pins σ H s):Inv X pins σ H s:=⟨I.ok.pA,I.os,I.bare,I.base,I.loc,I.cell,I.free,I.yC,I.pin,I.jx,I.len⟩
theorem SP.pA {D:Ends} {f:Flow} {s':Shared} (h:SP (X.lQ E) pins D f s'):SP X pins D f s':=by
 cases f with
 | next=>obtain⟨σ',H',I,q⟩:=h;exact⟨σ',H',I.pA,q⟩
 | brk=>obtain⟨σ',H',I,q⟩:=h;exact⟨σ',H',I.pA,q⟩
 | cont=>obtain⟨σ',H',I,q⟩:=h;exact⟨σ',H',I.pA,q⟩
 | ret u=>obtain⟨v,σ',H',I,r,q⟩:=h;exact⟨v,σ',H',I.pA,r,q⟩
theorem iP.GD {st:List Stmt} {t:TS} (h:iP X.GD st t):iP X st t:=fun pins s σ H D I hw=>
 wpAny_mono (h pins s σ H D (I.lQ _) hw) (fun _ _ q=>q.pA) fun _ _ z=>False.elim z
end
section
variable {X:Cx} {st:Stmt} {rest:List Stmt} {t u:TS} {e:Expr} {te:TE} {pos:Pos}
noncomputable def Gu:TS:=fun D σ H=>D.nx σ H
noncomputable def Bq (t u:TS):TS:=fun D σ H=>t { D with nx:=u D } σ H
theorem qt:iP X [] Gu:=fun _ _ σ H _ I h=>wpAny_execs_nil ⟨σ,H,I,h⟩
theorem z8 (h1:PS X st t) (h2:iP X rest u):iP X (st :: rest) (Bq t u):=by
 intro pins s σ H D I h
 refine wpAny_execs_cons (xf (h1 pins s σ H { D with nx:=u D } I h) fun f s1 q=>?_)
 cases f with
 | next=>
  obtain⟨σ',H',I',q⟩:=q
  exact h2 pins s1 σ' H' D I' q
 | ret v=>exact q
 | brk=>exact q
 | cont=>exact q
theorem qz (h1:PS X st t):iP X [st] t:=by
 intro pins s σ H D I h
 refine wpAny_execs_cons (xf (h1 pins s σ H D I h) fun f s1 q=>?_)
 cases f with
 | next=>exact wpAny_execs_nil q
 | ret v=>exact q
 | brk=>exact q
 | cont=>exact q
noncomputable def Yx:TS:=fun D σ H=>D.bk σ H
noncomputable def Bs:TS:=fun D σ H=>D.ct σ H
theorem JO:PS X (.Break pos) Yx:=fun _ _ σ H _ I h=>wpAny_Break ⟨σ,H,I,h⟩
theorem Inv.quiet {pins:List (Addr × Obj)} {σ:St} {H:Hp} {s:Shared} (I:Inv X pins σ H s):interactive X.env=false:=by simp [interactive,I.ok.kind]
noncomputable def Gd (te:TE):TS:=fun D σ H=>te σ H fun _ H1=>D.nx σ H1
theorem ki (he:PE X e te) (hs:swapsWith e none pos.line X.env=pure false:=by rfl):PS X (.Expr e pos) (Gd te):=by
 intro pins s σ H D I h
 exact wpAny_Expr_any (xf (he pins s σ H _ I h) fun v s1 ⟨x,H1,I1,r1,q1⟩=>⟨σ,H1,I1,q1⟩) I.quiet hs
noncomputable def Bz (te:TE):TS:=fun D σ H=>te σ H D.rt
theorem qr (he:PE X e te):PS X (.Return (some e) pos) (Bz te):=by
 intro pins s σ H D I h
 exact wpAny_Return_some (xf (he pins s σ H _ I h) fun v s1 ⟨x,H1,I1,r1,q1⟩=>⟨x,σ,H1,I1,r1,q1⟩)
noncomputable def Be:TS:=fun D _ H=>D.rt .non H
noncomputable def HL (c:TT) (t u:TS):TS:=fun D σ H=>c σ H fun b H1=>if b=true then t D σ H1 else u D σ H1
theorem qM {c:Expr} {a b:List Stmt} {tc:TT} (hc:PT X c tc) (ha:iP X a t) (hb:iP X b u):PS X (.If c a b pos) (HL tc t u):=by
 intro pins s σ H D I h
 refine wpAny_If (xf (hc pins s σ H _ I h) fun d s1 ⟨H1,I1,q1⟩=>?_)
 cases d with
 | true=>exact ha pins s1 σ H1 D I1 q1
 | false=>exact hb pins s1 σ H1 D I1 q1
noncomputable def HI:TS:=fun _ _ _=>False
end
noncomputable abbrev TG:=V→St→Hp→(St→Hp→Prop)→Prop
noncomputable abbrev Vz:=List V→St→Hp→(St→Hp→Prop)→Prop
noncomputable def PG (X:Cx) (target:Expr) (t:TG):Prop:=
 ∀(pins:List (Addr × Obj)) (s:Shared) (σ:St) (H:Hp) (v:V) (u:Value) (Q:St→Hp→Prop),Inv X pins σ H s→RelV v u→t v σ H Q→
  wpAny (model X.prog X.w) X.A (assign target X.env u) (fun _ s'=>∃σ' H',Inv X pins σ' H' s'∧Q σ' H') X.xe s
noncomputable def Ym (X:Cx) (ts:List Expr) (t:Vz):Prop:=
 ∀(pins:List (Addr × Obj)) (s:Shared) (σ:St) (H:Hp) (vs:List V) (us:List Value) (Q:St→Hp→Prop),Inv X pins σ H s→Vals vs us→t vs σ H Q→
  wpAny (model X.prog X.w) X.A (assignInOrder ((assignEach ts X.env).map (·.2)) us) (fun _ s'=>∃σ' H',Inv X pins σ' H' s'∧Q σ' H') X.xe s
noncomputable abbrev XN:=V→V→V→Hp→(Hp→Prop)→Prop
noncomputable def XS (X:Cx) (t:XN):Prop:=
 ∀(pins:List (Addr × Obj)) (s:Shared) (σ:St) (H:Hp) (o i v:V) (ov iv u:Value) (Q:Hp→Prop),Inv X pins σ H s→RelV o ov→RelV i iv→RelV v u→t o i v H Q→
  wpAny (model X.prog X.w) X.A (setItem ov iv u) (fun _ s'=>∃H',Inv X pins σ H' s'∧Q H') X.xe s
noncomputable abbrev GW:=V→V→Hp→VK→Prop
noncomputable def Pb (X:Cx) (op:Operator) (t:GW):Prop:=
 ∀(pins:List (Addr × Obj)) (s:Shared) (σ:St) (H:Hp) (x y:V) (v u:Value) (Q:VK),Inv X pins σ H s→RelV x v→RelV y u→t x y H Q→
  wpAny (model X.prog X.w) X.A (inplaceOp op v u) (EP X pins σ Q) X.xe s
section
variable {X:Cx} {pos:Pos}
noncomputable def gC (i:Nat):TG:=fun v σ H Q=>Q (σ.set i (some v)) H
theorem jy {i:Nat} {x:Str} (hN:X.N.Nodup) (hi:X.N[i]?=some x) (hx:Loc X.env.scope x) (hf:X.fn x=true∨X.env.scope.names.lookup x=some .local:=by first | exact .inl rfl | exact .inr rfl | assumption):PG X (.Name x pos) (gC i):=by
 intro pins s σ H v u Q I r h
 exact wpAny_assign_Name (bq I hN hi hx r (fun s' I'=>⟨_,H,I',h⟩) hf)
noncomputable def YY:Vz:=fun vs σ H Q=>vs=[]∧Q σ H
noncomputable def Jq (t:TG) (u:Vz):Vz:=fun vs σ H Q=>∃v r,vs=v :: r∧t v σ H fun σ' H'=>u r σ' H' Q
theorem yJ:Ym X [] YY:=by
 intro pins s σ H vs us Q I r h
 obtain⟨e,h⟩:=h
 subst e
 cases r
 exact assignInOrder_nil ⟨σ,H,I,h⟩
theorem jF {e:Expr} {es:List Expr} {t:TG} {u:Vz} (h1:PG X e t) (h2:Ym X es u)
  (hs:(assignEach (e :: es) X.env).map (·.2)=assign e X.env :: (assignEach es X.env).map (·.2):=by rfl):Ym X (e :: es) (Jq t u):=by
 intro pins s σ H vs us Q I r h
 obtain⟨v,vr,e1,h⟩:=h
 subst e1
 cases r with
 | cons r rr=>
  rw[hs]
  refine assignInOrder_cons (xf (h1 pins s σ H _ _ _ I r h) fun _ s1 ⟨σ1,H1,I1,q1⟩=>?_)
  exact h2 pins s1 σ1 H1 _ _ Q I1 rr q1
noncomputable def Wv (K:PySem.W.Frag) (n:Nat) (t:Vz):TG:=fun v σ H Q=>∃a xs,v=.ref a∧yc K H a xs∧xs.length=n∧t xs σ H Q
theorem WC {es:List Expr} {k:Nat} {t:Vz} {n:Nat} (hc:X.calm=true) (h:Ym X es t)
  (hn:(assignEach es X.env).length=n:=by rfl) (hst:(assignEach es X.env).findIdx? (·.1)=none:=by rfl):PG X (.Tuple es k pos) (Wv X.K n t):=by
 intro pins s σ H v u Q I r hw
 obtain⟨a,xs,e1,hq,hl,hw⟩:=hw
 subst e1
 cases r
 obtain⟨its,rv,ht,hz⟩:=I.tuple hq
 refine assign_Tuple_tuple (I.ok.hd hc) ht (by simp [hn,←hl,rv.length]) hst fun h' hx=>?_
 have I1:Inv X pins σ H { s with heap:=h' }:=I.kept (t':=s.toks) fun b o e=>hx b o (Nat.ne_of_lt (Heap.lt_size e)) e
 exact h pins _ σ H xs _ Q I1 (by simpa using rv) hw
noncomputable def Hy (to ti:TE) (t:XN):TG:=fun v σ H Q=>to σ H fun o H1=>ti σ H1 fun i H2=>t o i v H2 fun H3=>Q σ H3
theorem tL {o i:Expr} {to ti:TE} {t:XN} (ho:PE X o to) (hi:PE X i ti) (hs:XS X t)
  (ha:∀v,assign (.Subscript o i pos) X.env v=(do
   let ov ←holding [v] (eval o X.env)
   let iv ←holding [v,ov] (eval i X.env)
   standAt pos
   holding [v,ov,iv] (setItem ov iv v)
   release [v,ov,iv] []):=by intro _;rfl):PG X (.Subscript o i pos) (Hy to ti t):=by
 intro pins s σ H v u Q I r h
 rw[ha]
 refine wpAny_bind (wpAny_holding (xf (ho pins s σ H _ I h) fun ov s1 ⟨x,H1,I1,r1,q1⟩=>?_))
 refine wpAny_bind (wpAny_holding (xf (hi pins s1 σ H1 _ I1 q1) fun iv s2 ⟨y,H2,I2,r2,q2⟩=>?_))
 refine wpAny_bind (wpAny_standAt (wpAny_bind (wpAny_holding (xf (hs pins s2 σ H2 x y v ov iv u _ I2 r1 r2 r q2) fun _ s3 ⟨H3,I3,q3⟩=>?_))))
 exact wpAny_release ⟨σ,H3,I3,q3⟩
noncomputable def K1 (te:TE) (g:TG):TS:=fun D σ H=>te σ H fun x H1=>g x σ H1 D.nx
theorem pS {tg e:Expr} {te:TE} {g:TG} (he:PE X e te) (hg:PG X tg g) (hs:swapsWithSole [tg] e pos.line X.env=pure false:=by rfl) (hw:swappedStores [tg] e X.env=pure none:=by rfl)
  (h1:(assignEach [tg] X.env).map (·.2)=[assign tg X.env]:=by rfl):PS X (.Assign [tg] e pos) (K1 te g):=by
 intro pins s σ H D I h
 refine wpAny_Assign_stores (xf (he pins s σ H _ I h) fun v s1 ⟨x,H1,I1,r1,q1⟩=>?_) hs hw
 rw[h1]
 exact xf (hg pins s1 σ H1 x v _ I1 r1 q1) fun _ s2 q=>q
theorem qQ {i:Nat} {x:Str} {e:Expr} {te:TE} {pos':Pos} (hN:X.N.Nodup) (hi:X.N[i]?=some x) (hx:Loc X.env.scope x) (he:PE X e te) (hs:swapsWith e (some (.Name x pos')) pos.line X.env=pure false:=by rfl) (hf:X.fn x=true∨X.env.scope.names.lookup x=some .local:=by first | exact .inl rfl | exact .inr rfl | assumption) :
  PS X (.Assign [.Name x pos'] e pos) (K1 te (gC i)):=by
 intro pins s σ H D I h
 refine wpAny_Assign_Name (xf (he pins s σ H _ I h) fun v s1 ⟨y,H1,I1,r1,q1⟩=>?_) hs
 exact bq I1 hN hi hx r1 (fun s2 I2=>⟨_,H1,I2,q1⟩) hf
noncomputable def Pq (i j:Nat) (ta:TA):TS:=fun D σ H=>ta σ H fun vs H1=>∃v w,vs=[v,w]∧D.nx ((σ.set i (some v)).set j (some w)) H1
noncomputable def B3 (i:Nat) (te:TE) (ti:GW):TS:=fun D σ H=>∃x,σ[i]?=some (some x)∧te σ H fun y H1=>ti x y H1 fun z H2=>D.nx (σ.set i (some z)) H2
noncomputable def Br (to ti te:TE) (tget:V→V→Hp→VK→Prop) (tip:GW) (tset:XN):TS:=fun D σ H=>to σ H fun o H1=>ti σ H1 fun i H2=>tget o i H2 fun x H3=>te σ H3 fun y H4=>tip x y H4 fun z H5=>tset o i z H5 fun H6=>D.nx σ H6
noncomputable def BH (X:Cx) (t:V→V→Hp→VK→Prop):Prop:=
 ∀(pins:List (Addr × Obj)) (s:Shared) (σ:St) (H:Hp) (o i:V) (ov iv:Value) (Q:VK),Inv X pins σ H s→RelV o ov→RelV i iv→t o i H Q→
  wpAny (model X.prog X.w) X.A (getItem ov iv) (EP X pins σ Q) X.xe s
noncomputable def Pm (f:Int→Int→Int):GW:=fun x y H Q=>∃i j,x=.int i∧y=.int j∧Q (.int (f i j)) H
end
section
variable {X:Cx} {pos:Pos}
noncomputable def Bx (c:TT) (tb:TS):TS:=fun D σ H=>∃W:Nat→St→Hp→Prop,(∃m,W m σ H)∧∀m σ H,W m σ H→
 c σ H fun b H1=>if b=true then ∃N:St→Hp→Prop,(∀σ' H',N σ' H'→∃m',m' < m∧W m' σ' H')∧tb { D with nx:=N,ct:=N,bk:=D.nx } σ H1 else D.nx σ H1
end
structure It where
 go:Nat→Hp→Prop
 VD:Nat→Hp→V→Hp→Prop
 stop:Nat→Hp→Prop
noncomputable def gZ (X:Cx) (pins:List (Addr × Obj)) (H:Hp) (b:Addr):Prop:=
 H b=none∧b≠X.env.locals∧b∉X.fs∧(b∈X.ex∨X.s₀.heap.objs.size≤b)∧(∀x c,X.env.cells.lookup x=some c→c≠b)∧∀p∈X.pn ++ pins,p.1≠b
theorem Inv.ZR {X:Cx} {pins:List (Addr × Obj)} {σ:St} {H H':Hp} {s:Shared} {b:Addr} (I:Inv X pins σ H s) (hb:s.heap.objs.size≤b) (hn:H' b=none):gZ X pins H' b:=by
 refine⟨hn,Nat.ne_of_gt (Nat.lt_of_lt_of_le I.lt hb),I.Ht hb,.inr (Nat.le_trans I.sz hb),fun x c e z=>?_,fun p hp z=>?_⟩
 ·obtain⟨v,q⟩:=I.cell x c e
  exact absurd (Nat.lt_of_lt_of_le q.lt (by rw[z];exact hb)) (Nat.lt_irrefl _)
 ·exact absurd (Nat.lt_of_lt_of_le (Heap.lt_size (I.pin p hp).1) (by rw[z];exact hb)) (Nat.lt_irrefl _)
structure Turn (P:Program) (w:World) (K:PySem.W.Frag) (tg:Expr) (J:It) (fp:List Addr) (it:Addr) (tn:Nat→Heap→Prop):Prop where
 mem:it∈fp
 obj:∀i h,tn i h→∀b∈fp,∃o,h.get? b=some o∧∀v,o.data≠.cell v
 keep:∀i h h',tn i h→(∀b∈fp,∀o,h.get? b=some o→h'.get? b=some o)→tn i h'
 item:∀(X:Cx),X.prog=P→X.w=w→X.K=K→X.calm=true→∀(i:Nat) (pins:List (Addr × Obj)) (s:Shared) (σ:St) (H:Hp) (E:Value→Shared→Prop),Inv X pins σ H s→(∀b∈fp,gZ X pins H b)→tn i s.heap→J.go i H→
  wpAny (model P w) X.A (pyNext (.ref it)) (fun r s1=>∃u,r=some u∧
   wpAny (model P w) X.A (letOwnedTupleGo tg (.ref it) u) (fun _ s2=>∃x H',Inv X pins σ H' s2∧RelV x u∧J.VD i H x H'∧tn (i + 1) s2.heap∧∀b∈fp,H' b=none) E s1) E s
 done:∀(X:Cx),X.prog=P→X.w=w→X.K=K→X.calm=true→∀(i:Nat) (pins:List (Addr × Obj)) (s:Shared) (σ:St) (H:Hp) (E:Value→Shared→Prop),Inv X pins σ H s→(∀b∈fp,gZ X pins H b)→tn i s.heap→J.stop i H→
  wpAny (model P w) X.A (pyNext (.ref it)) (fun r s1=>r=none∧Inv X pins σ H s1) E s
 self:∀(A:Around) (i:Nat) (s:Shared) (Q:Value→Shared→Prop) (E:Value→Shared→Prop),tn i s.heap→Q (.ref it) s→wpAny (model P w) A (pyIter (.ref it)) Q E s
noncomputable abbrev TI:=St→Hp→(It→Hp→Prop)→Prop
noncomputable def Bb (X:Cx) (pins:List (Addr × Obj)) (σ:St) (tg:Expr) (R:It→Hp→Prop) (itv:Value) (s2:Shared):Prop:=
 ∃(it:Addr) (fp:List Addr) (tn:Nat→Heap→Prop) (J:It) (H':Hp),itv=.ref it∧Inv X pins σ H' s2∧Turn X.prog X.w X.K tg J fp it tn∧tn 0 s2.heap∧(∀b∈fp,gZ X pins H' b)∧R J H'
noncomputable def PI (X:Cx) (tg iter:Expr) (wi:TI):Prop:=
 ∀(pins:List (Addr × Obj)) (s:Shared) (σ:St) (H:Hp) (R:It→Hp→Prop),Inv X pins σ H s→wi σ H R→
  wpAny (model X.prog X.w) X.A (eval iter X.env) (fun v s1=>wpAny (model X.prog X.w) X.A (pyIter v) (Bb X pins σ tg R) X.xe s1) X.xe s
theorem Jk {M:Model} {A:Around} {E:Value→Shared→Prop} {s:Shared} {tg:Expr} {it:Addr} {u:Value} {o:Obj} {n:String} {vs:Array Value} {Q:Unit→Shared→Prop} (ho:s.heap.get? it=some o) (hc:o.cls=.type n) (hd:o.data=.fields vs)
  (hn:["enumerate","zip","dict_itemiterator","dict_reverseitemiterator","odict_iterator","itertools.zip_longest","itertools.pairwise"].contains n=false) (hQ:Q () s):wpAny M A (letOwnedTupleGo tg (.ref it) u) Q E s:=by
 unfold letOwnedTupleGo
 cases tg<;>first
  | exact wpAny_pure hQ
  | (cases u<;>first
    | exact wpAny_pure hQ
    | (refine wpAny_bind (wpAny_load ho ?_);rw[hc,hd];show wpAny M A (if (["enumerate","zip","dict_itemiterator","dict_reverseitemiterator","odict_iterator","itertools.zip_longest","itertools.pairwise"].contains n && vs[0]? == some (rawInt _))=true then _ else _) Q E s;rw[if_neg (by intro h;rw[hn,Bool.false_and] at h;cases h)];exact wpAny_pure hQ))
noncomputable def Yp (K:PySem.W.Frag) (a:Addr):It:=
 ⟨fun i H=>∃xs x,qL K H a xs∧xs[i]?=some x,fun i H x H'=>H'=H∧∀xs,qL K H a xs→xs[i]?=some x,fun i H=>∃xs,qL K H a xs∧xs.length≤i⟩
noncomputable def BW (K:PySem.W.Frag) (a:Addr):It:=
 ⟨fun i H=>∃xs x,yc K H a xs∧xs[i]?=some x,fun i H x H'=>H'=H∧∀xs,yc K H a xs→xs[i]?=some x,fun i H=>∃xs,yc K H a xs∧xs.length≤i⟩
noncomputable def K9 (lo:Int) (n:Nat):It:=⟨fun i _=>i < n,fun i H x H'=>H'=H∧x=.int (lo + i),fun i _=>n≤i⟩
theorem Qt {P:Program} {w:World} {K:PySem.W.Frag} {tg:Expr} (a it:Addr):Turn P w K tg (Yp K a) [it] it (fun i h=>h.IsListIter it a i) where
 mem:=by simp
 obj:=fun i h st b hb=>by
  have e:b=it:=by simpa using hb
  subst e
  obtain⟨o,e,c,d⟩:=st
  exact⟨o,e,fun v z=>by rw[d] at z;cases z⟩
 keep:=fun i h h' st k=>st.at fun o e=>k it (by simp) o e
 item:=by
  intro X hP hw hK hc i pins s σ H E I hf st hg
  subst hP hw hK
  obtain⟨xs,x,hq,hx⟩:=hg
  obtain⟨its,rv,p,hz⟩:=I.list hq
  obtain⟨u,hu,ru⟩:=rv.get hx
  obtain⟨f0,f1,f2,f3,f4,f5⟩:=hf it (by simp)
  refine wpAny_pyNext_list_item st p.isList (x:=u) (by simpa using hu) fun h' st' sb=>?_
  have I1:Inv X pins σ H { s with heap:=h' }:=I.turned (t':=s.toks) (fun b o hb e=>(sb.2 b hb).trans e) f0 f1 f3 f4 f5
  obtain⟨o,e,c,d⟩:=id st'
  exact⟨u,rfl,Jk (s:={ s with heap:=h' }) e c d (by decide) ⟨x,H,I1,ru,⟨rfl,fun ys hy=>by rw[I.uH hy hq];exact hx⟩,st',fun b hb=>(hf b hb).1⟩⟩
 done:=by
  intro X hP hw hK hc i pins s σ H E I hf st hg
  subst hP hw hK
  obtain⟨xs,hq,hx⟩:=hg
  obtain⟨its,rv,p,hz⟩:=I.list hq
  obtain⟨f0,f1,f2,f3,f4,f5⟩:=hf it (by simp)
  have hl:=rv.length
  exact wpAny_pyNext_list_end (I.ok.hd hc) st p.isList (by simp;omega) fun h' eb=>⟨rfl,I.turned (t':=s.toks) (fun b o hb e=>eb b o hb e) f0 f1 f3 f4 f5⟩
 self:=fun _ _ _ _ _ st h=>wpAny_pyIter_listiter st h
theorem az {P:Program} {w:World} {K:PySem.W.Frag} {tg:Expr} (it:Addr) (lo:Int) (n:Nat):Turn P w K tg (K9 lo n) [it] it (fun i h=>IsRangeIter h it (lo + (i:Nat) * 1) ((n:Int) - (i:Nat)) 1) where
 mem:=by simp
 obj:=fun i h st b hb=>by
  have e:b=it:=by simpa using hb
  subst e
  exact⟨_,st,fun v z=>by
   have z':Data.fields _=Data.cell v:=z
   cases z'⟩
 keep:=fun i h h' st k=>k it (by simp) _ st
 item:=by
  intro X hP hw hK hc i pins s σ H E I hf st hg
  subst hP hw hK
  obtain⟨f0,f1,f2,f3,f4,f5⟩:=hf it (by simp)
  have W:=Walks.range (prog:=X.prog) (w:=X.w) (I.ok.hd hc) it lo 1 n
  refine W.item i s _ _ hg st fun v h' tk hv st' kk=>?_
  obtain⟨t,rfl⟩:=hv
  have I1:Inv X pins σ H { s with heap:=h',toks:=tk }:=I.turned (fun b o hb e=>kk b o (by simpa using hb) e) f0 f1 f3 f4 f5
  refine⟨_,rfl,Jk (s:={ s with heap:=h',toks:=tk }) (n:="range_iterator") st' rfl rfl (by decide) ⟨.int (lo + i),H,I1,⟨t,?_⟩,⟨rfl,rfl⟩,st',fun b hb=>(hf b hb).1⟩⟩
  rw[Int.mul_one]
 done:=by
  intro X hP hw hK hc i pins s σ H E I hf st hg
  subst hP hw hK
  obtain⟨f0,f1,f2,f3,f4,f5⟩:=hf it (by simp)
  exact wpAny_pyNext_range_end (I.ok.hd hc) st (by have:n≤i:=hg;omega) fun h' eb=>⟨rfl,I.turned (t':=s.toks) (fun b o hb e=>eb b o hb e) f0 f1 f3 f4 f5⟩
 self:=fun _ _ _ _ _ st h=>wpAny_pyIter_rangeiter st h
end L2
namespace L2
open PySem PySem.Spec PyProof.Rows
section
variable {X:Cx} {tg:Expr}
noncomputable def Vf (K:PySem.W.Frag) (tl:TE):TI:=fun σ H R=>tl σ H fun x H1=>∃a,x=.ref a∧(∃xs,qL K H1 a xs)∧R (Yp K a) H1
noncomputable def BC (K:PySem.W.Frag) (tl:TE):TI:=fun σ H R=>tl σ H fun x H1=>∃a,x=.ref a∧(∃xs,yc K H1 a xs)∧R (BW K a) H1
theorem KZ {l:Expr} {tl:TE} (hl:PE X l tl):PI X tg l (Vf X.K tl):=by
 intro pins s σ H R I h
 refine xf (hl pins s σ H _ I h) fun v s1 ⟨x,H1,I1,r1,q1⟩=>?_
 obtain⟨a,e,⟨xs,hq⟩,q⟩:=q1
 subst e
 cases r1
 obtain⟨its,rv,p,hz⟩:=I1.list hq
 refine wpAny_pyIter_list p.isList ?_
 refine⟨s1.heap.objs.size,[s1.heap.objs.size],_,_,H1,rfl,I1.kept (t':=s1.toks) fun b o e=>Heap.get?_push_of_some _ e,Qt a _,⟨_,Heap.get?_push_size _ rfl,rfl,rfl⟩,fun b hb=>?_,q⟩
 have e:b=s1.heap.objs.size:=by simpa using hb
 subst e
 exact I1.ZR (Nat.le_refl _) (I1.jx.fresh (Nat.le_refl _))
theorem iq {pins:List (Addr × Obj)} {σ:St} {H:Hp} {s:Shared} {R:It→Hp→Prop} {E:Value→Shared→Prop} {lo hi:Int} {t u v:Tok} {tk:Nat} (I:Inv X pins σ H s) (h1:-(2 ^ 62)≤lo) (h2:lo < 2 ^ 62) (h3:-(2 ^ 62)≤hi) (h4:hi < 2 ^ 62)
  (q:R (K9 lo (hi - lo).toNat) H):wpAny (model X.prog X.w) X.A (pyIter (.ref s.heap.objs.size)) (Bb X pins σ tg R) E { s with heap:=s.heap.push { cls:=.type "range",data:=.fields #[.int lo t,.int hi u,.int 1 v] },toks:=tk }:=by
 refine wpAny_pyIter_range (IsRange.new ..) (small_one h1 h2 h3 h4) ?_
 have I1:Inv X pins σ H { s with heap:=s.heap.push { cls:=.type "range",data:=.fields #[.int lo t,.int hi u,.int 1 v] },toks:=tk }:=I.kept fun b o e=>Heap.get?_push_of_some _ e
 refine⟨(s.heap.push { cls:=.type "range",data:=.fields #[.int lo t,.int hi u,.int 1 v] }).objs.size,[(s.heap.push { cls:=.type "range",data:=.fields #[.int lo t,.int hi u,.int 1 v] }).objs.size],_,_,H,rfl,
  I1.kept (t':=tk) fun b o e=>Heap.get?_push_of_some _ e,az _ lo (hi - lo).toNat,?_,fun b hb=>?_,q⟩
 ·have e1:lo + ((0:Nat):Int) * 1=lo:=by simp
  have e2:(((hi - lo).toNat:Nat):Int) - ((0:Nat):Int)=Builtin.Range.rangeSize lo hi 1:=by rw[rangeSize_one];split<;>omega
  show IsRangeIter _ _ (lo + ((0:Nat):Int) * 1) ((((hi - lo).toNat:Nat):Int) - ((0:Nat):Int)) 1
  rw[e1,e2]
  exact Heap.get?_push_size _ rfl
 ·have e:b=(s.heap.push { cls:=.type "range",data:=.fields #[.int lo t,.int hi u,.int 1 v] }).objs.size:=by simpa using hb
  subst e
  exact I1.ZR (Nat.le_refl _) (I1.jx.fresh (Nat.le_refl _))
noncomputable def YG (ta:TA):TI:=fun σ H R=>ta σ H fun vs H1=>∃j:Int,vs=[.int j]∧-(2 ^ 62)≤j∧j < 2 ^ 62∧R (K9 0 j.toNat) H1
noncomputable def YH (ta:TA):TI:=fun σ H R=>ta σ H fun vs H1=>∃i j:Int,vs=[.int i,.int j]∧(-(2 ^ 62)≤i∧i < 2 ^ 62∧-(2 ^ 62)≤j∧j < 2 ^ 62)∧R (K9 i (j - i).toNat) H1
theorem vH {a:Expr} {ta:TA} {p pos:Pos} (hg:Gl X "range") (hm:X.mg "range" = none) (ha:PA X [a] ta) (hs:starEach [a] X.env=[(false,eval a X.env)]:=by rfl):PI X tg (.Call (.Name "range" p) [a] [] pos) (YG ta):=by
 intro pins s σ H R I h
 refine Call_ (dS I hg hm boot_range (PyProof.Rows.callWith_type1 (xf (ha pos pins s σ H _ I h) fun us s1 ⟨vs,H1,I1,r1,q1⟩=>?_) hs rfl))
 obtain⟨j,e,q1,q2,q⟩:=q1
 subst e
 cases r1 with
 | cons r rr=>
  cases rr
  obtain⟨t,rfl⟩:=r
  exact call_range_1 (iq I1 (by omega) (by omega) q1 q2 (by simpa using q))
theorem Qq {a b:Expr} {ta:TA} {p pos:Pos} (hg:Gl X "range") (hm:X.mg "range" = none) (ha:PA X [a,b] ta) (hs:starEach [a,b] X.env=[(false,eval a X.env),(false,eval b X.env)]:=by rfl) (hs2:starEach [b] X.env=[(false,eval b X.env)]:=by rfl) :
  PI X tg (.Call (.Name "range" p) [a,b] [] pos) (YH ta):=by
 intro pins s σ H R I h
 refine Call_ (dS I hg hm boot_range (PyProof.Rows.callWith_type1 (xf (ha pos pins s σ H _ I h) fun us s1 ⟨vs,H1,I1,r1,q1⟩=>?_) (by rw[hs,hs2]) (by rw[hs2];rfl)))
 obtain⟨i,j,e,⟨q1,q2,q3,q4⟩,q⟩:=q1
 subst e
 cases r1 with
 | cons r rr=>
  cases rr with
  | cons r' rr=>
   cases rr
   obtain⟨t,rfl⟩:=r
   obtain⟨t',rfl⟩:=r'
   exact call_range_2 (iq I1 q1 q2 q3 q4 q)
noncomputable def HR (wi:TI) (g:TG) (tb:TS):TS:=fun D σ H=>wi σ H fun J H1=>∃W:Nat→Nat→St→Hp→Prop,(∃m,W 0 m σ H1)∧∀i m σ H,W i m σ H→
 (J.stop i H∧D.nx σ H)∨(J.go i H∧∃N:St→Hp→Prop,(∀σ' H',N σ' H'→∃m',m' < m∧W (i + 1) m' σ' H')∧∀x H',J.VD i H x H'→g x σ H' fun σ2 H2=>tb { D with nx:=N,ct:=N,bk:=D.nx } σ2 H2)
noncomputable def rz (fp:List Addr) (h:Heap):List (Addr × Obj):=fp.filterMap fun b=>(h.get? b).map fun o=>(b,o)
theorem wY {fp:List Addr} {h:Heap} {b:Addr} {o:Obj} (hb:b∈fp) (e:h.get? b=some o):(b,o)∈rz fp h:=List.mem_filterMap.mpr ⟨b,hb,by rw[e];rfl⟩
theorem Z5 {fp:List Addr} {h:Heap} {p:Addr × Obj} (hp:p∈rz fp h):p.1∈fp∧h.get? p.1=some p.2:=by
 obtain⟨b,hb,e⟩:=List.mem_filterMap.mp hp
 cases q:h.get? b with
 | none=>rw[q] at e;cases e
 | some o=>
  rw[q] at e
  have e':(b,o)=p:=Option.some.inj e
  subst e'
  exact⟨hb,q⟩
theorem Inv.pinned {pins:List (Addr × Obj)} {σ:St} {H:Hp} {s:Shared} {fp:List Addr} (I:Inv X pins σ H s) (hf:∀b∈fp,gZ X pins H b) (ho:∀b∈fp,∃o,s.heap.get? b=some o∧∀v,o.data≠.cell v):Inv X (pins ++ rz fp s.heap) σ H s:=
 I.uv fun p hp=>(List.mem_append.mp hp).elim (fun z=>I.pin p (List.mem_append_right _ z)) fun z=>by
  obtain⟨hb,e⟩:=Z5 z
  obtain⟨f0,f1,f2,_⟩:=hf p.1 hb
  obtain⟨o,e',d⟩:=ho p.1 hb
  rw[e] at e';cases e'
  exact⟨e,f0,f1,f2,d⟩
theorem Inv.yp {pins pl:List (Addr × Obj)} {σ:St} {H:Hp} {s:Shared} (I:Inv X (pins ++ pl) σ H s):Inv X pins σ H s:=I.uv fun p hp=>I.pin p (List.mem_append_right _ (List.mem_append_left _ hp))
theorem pT {iter:Expr} {body:List Stmt} {wi:TI} {g:TG} {tb:TS} {pos:Pos} (hp:PassesOwn (model X.prog X.w) X.A X.env X.xe) (hc:X.calm=true) (hi:PI X tg iter wi) (hg:PG X tg g) (hb:iP X body tb)
  (hs:∀x,foldedSetIterable iter X.env x=pure x:=by intro _;rfl):PS X (.For tg iter body [] pos) (HR wi g tb):=by
 intro pins s σ H D I h
 refine wpAny_For (xf (hi pins s σ H _ I h) fun v s1 h1=>xf h1 fun itv s2 h2=>?_) hs
 obtain⟨it,fp,tn,J,H2,e,I2,T,st2,f2,W,⟨m0,w0⟩,turn⟩:=h2
 subst e
 have stat:∀{H':Hp},(∀b∈fp,H' b=none)→∀b∈fp,gZ X pins H' b:=fun hn b hb=>⟨hn b hb,(f2 b hb).2⟩
 refine codeAny_forLoop_any (fun n s'=>∃i σ' H',Inv X pins σ' H' s'∧tn i s'.heap∧(∀b∈fp,H' b=none)∧W i n σ' H') ?_ m0 ⟨0,σ,H2,I2,st2,fun b hb=>(f2 b hb).1,w0⟩
 rintro n s3 ⟨i,σ3,H3,I3,st3,fr3,w3⟩
 rcases turn i n σ3 H3 w3 with ⟨stop,qn⟩ | ⟨go,N,hN,step⟩
 ·refine wpAny_passesOwn hp (xf (T.done X rfl rfl rfl hc i pins s3 σ3 H3 X.xe I3 (stat fr3) st3 stop) fun r s4 ⟨hr,I4⟩=>?_)
  subst hr
  exact wpAny_execs_nil ⟨σ3,H3,I4,qn⟩
 ·refine wpAny_passesOwn hp (xf (T.item X rfl rfl rfl hc i pins s3 σ3 H3 X.xe I3 (stat fr3) st3 go) fun r s4 ⟨u,hr,h4⟩=>?_)
  subst hr
  refine wpAny_passesOwn hp (xf h4 fun _ s5 ⟨x,H5,I5,r5,y5,st5,fr5⟩=>?_)
  have I5':=I5.pinned (stat fr5) (T.obj _ _ st5)
  refine wpAny_passesOwn hp (xf (hg _ s5 σ3 H5 x u _ I5' r5 (step x H5 y5)) fun _ s6 ⟨σ6,H6,I6,q6⟩=>?_)
  refine wpAny_passesOwn hp (xf (hb _ s6 σ6 H6 _ I6 q6) fun f s7 q7=>?_)
  have again:∀{σ7:St} {H7:Hp},Inv X (pins ++ rz fp s5.heap) σ7 H7 s7→N σ7 H7→∃m,m < n∧∃i σ' H',Inv X pins σ' H' s7∧tn i s7.heap∧(∀b∈fp,H' b=none)∧W i m σ' H':=fun {σ7 H7} I7 n7=>by
   obtain⟨m',hm,w7⟩:=hN σ7 H7 n7
   refine⟨m',hm,i + 1,σ7,H7,I7.yp,T.keep _ _ _ st5 fun b hb o e=>(I7.pin (b,o) (List.mem_append_right _ (List.mem_append_right _ (wY hb e)))).1,fun b hb=>?_,w7⟩
   obtain⟨o,e,d⟩:=T.obj _ _ st5 b hb
   exact(I7.pin (b,o) (List.mem_append_right _ (List.mem_append_right _ (wY hb e)))).2.1
  cases f with
  | next=>obtain⟨σ7,H7,I7,n7⟩:=q7;exact again I7 n7
  | cont=>obtain⟨σ7,H7,I7,n7⟩:=q7;exact again I7 n7
  | brk=>obtain⟨σ7,H7,I7,q7⟩:=q7;exact⟨σ7,H7,I7.yp,q7⟩
  | ret v=>obtain⟨x7,σ7,H7,I7,r7,q7⟩:=q7;exact⟨x7,σ7,H7,I7.yp,r7,q7⟩
end
theorem uJ {K:PySem.W.Frag} {a:Addr} {xs:List V} {g:TG} {tb:TS} {D:Ends} {σ:St} {H:Hp} (Pv:Nat→St→Hp→Prop) (h0:Pv 0 σ H) (hl:∀i σ H,i≤xs.length→Pv i σ H→qL K H a xs)
  (hs:∀i x σ H,xs[i]?=some x→Pv i σ H→g x σ H fun σ2 H2=>tb { D with nx:=Pv (i + 1),ct:=Pv (i + 1),bk:=D.nx } σ2 H2) (hd:∀σ H,Pv xs.length σ H→D.nx σ H) :
  ∃W:Nat→Nat→St→Hp→Prop,(∃m,W 0 m σ H)∧∀i m σ H,W i m σ H→
   ((Yp K a).stop i H∧D.nx σ H)∨((Yp K a).go i H∧∃N:St→Hp→Prop,(∀σ' H',N σ' H'→∃m',m' < m∧W (i + 1) m' σ' H')∧∀x H',(Yp K a).VD i H x H'→g x σ H' fun σ2 H2=>tb { D with nx:=N,ct:=N,bk:=D.nx } σ2 H2):=by
 refine⟨fun i m σ H=>m=xs.length - i∧i≤xs.length∧Pv i σ H,⟨xs.length,by simp,Nat.zero_le _,h0⟩,?_⟩
 rintro i m σ H ⟨rfl,hi,p⟩
 have q:=hl i σ H hi p
 by_cases hlt:i < xs.length
 ·refine .inr ⟨⟨xs,xs[i],q,by simp [hlt]⟩,Pv (i + 1),fun σ' H' p'=>⟨xs.length - (i + 1),by omega,rfl,hlt,p'⟩,fun x H' y=>?_⟩
  obtain⟨e,y⟩:=y
  subst e
  exact hs i x σ _ (y xs q) p
 ·have e:i=xs.length:=by omega
  subst e
  exact .inl ⟨⟨xs,q,Nat.le_refl _⟩,hd σ H p⟩
theorem gD {lo:Int} {n:Nat} {g:TG} {tb:TS} {D:Ends} {σ:St} {H:Hp} (Pv:Nat→St→Hp→Prop) (h0:Pv 0 σ H)
  (hs:∀i σ H,i < n→Pv i σ H→g (.int (lo + i)) σ H fun σ2 H2=>tb { D with nx:=Pv (i + 1),ct:=Pv (i + 1),bk:=D.nx } σ2 H2) (hd:∀σ H,Pv n σ H→D.nx σ H) :
  ∃W:Nat→Nat→St→Hp→Prop,(∃m,W 0 m σ H)∧∀i m σ H,W i m σ H→
   ((K9 lo n).stop i H∧D.nx σ H)∨((K9 lo n).go i H∧∃N:St→Hp→Prop,(∀σ' H',N σ' H'→∃m',m' < m∧W (i + 1) m' σ' H')∧∀x H',(K9 lo n).VD i H x H'→g x σ H' fun σ2 H2=>tb { D with nx:=N,ct:=N,bk:=D.nx } σ2 H2):=by
 refine⟨fun i m σ H=>m=n - i∧i≤n∧Pv i σ H,⟨n,by simp,Nat.zero_le _,h0⟩,?_⟩
 rintro i m σ H ⟨rfl,hi,p⟩
 by_cases hlt:i < n
 ·refine .inr ⟨hlt,Pv (i + 1),fun σ' H' p'=>⟨n - (i + 1),by omega,rfl,hlt,p'⟩,fun x H' y=>?_⟩
  obtain⟨e,y⟩:=y
  subst e y
  exact hs i σ _ hlt p
 ·have e:i=n:=by omega
  subst e
  exact .inl ⟨Nat.le_refl _,hd σ H p⟩
end L2
namespace L2
open PySem PySem.Spec PyProof.Rows
noncomputable abbrev R2:=V→V→Hp→VK→Prop
noncomputable def pq (X:Cx) (f:Value→Value→Sem Value) (r:R2):Prop:=
 ∀(pins:List (Addr × Obj)) (s:Shared) (σ:St) (H:Hp) (x y:V) (v u:Value) (Q:VK),Inv X pins σ H s→RelV x v→RelV y u→r x y H Q→
  wpAny (model X.prog X.w) X.A (f v u) (EP X pins σ Q) X.xe s
noncomputable def G9 (X:Cx) (f:Value→Sem Value) (r:V→Hp→VK→Prop):Prop:=
 ∀(pins:List (Addr × Obj)) (s:Shared) (σ:St) (H:Hp) (x:V) (v:Value) (Q:VK),Inv X pins σ H s→RelV x v→r x H Q→
  wpAny (model X.prog X.w) X.A (f v) (EP X pins σ Q) X.xe s
noncomputable def vw (X:Cx) (f:Value) (r:List V→Hp→VK→Prop):Prop:=
 ∀(pins:List (Addr × Obj)) (s:Shared) (σ:St) (H:Hp) (xs:List V) (us:List Value) (Q:VK),Inv X pins σ H s→Vals xs us→r xs H Q→
  wpAny (model X.prog X.w) X.A (call f us) (EP X pins σ Q) X.xe s
noncomputable def BP (X:Cx) (r:V→Hp→(Bool→Hp→Prop)→Prop):Prop:=
 ∀(pins:List (Addr × Obj)) (s:Shared) (σ:St) (H:Hp) (x:V) (v:Value) (Q:Bool→Hp→Prop),Inv X pins σ H s→RelV x v→r x H Q→
  wpAny (model X.prog X.w) X.A (truthy v) (TP X pins σ Q) X.xe s
noncomputable def GI (r:R2) (ta tb:TE):TE:=fun σ H Q=>ta σ H fun x H1=>tb σ H1 fun y H2=>r x y H2 Q
noncomputable def Pk (r:V→Hp→VK→Prop) (ta:TE):TE:=fun σ H Q=>ta σ H fun x H1=>r x H1 Q
noncomputable def rI (C:Int→Int→Prop) (g:Int→Int→V):R2:=fun x y H Q=>∃i j,x=.int i∧y=.int j∧C i j∧Q (g i j) H
noncomputable def Vt (g:Int→Int→V):R2:=fun x y H Q=>∃i j,x=.int i∧y=.int j∧Q (g i j) H
noncomputable def rU (g:Int→V):V→Hp→VK→Prop:=fun x H Q=>∃i,x=.int i∧Q (g i) H
section
variable {X:Cx} {a b c:Expr} {ta tb tc:TE} {pos:Pos}
theorem VI (ha:PE X a ta) (hb:PE X b tb) {pins:List (Addr × Obj)} {s:Shared} {σ:St} {H:Hp} {R:V→V→Hp→Prop} (I:Inv X pins σ H s)
  (h:ta σ H fun x H1=>tb σ H1 fun y H2=>R x y H2) {Q:Value→Shared→Prop} {f:Value→Value→Sem Value}
  (hf:∀v u s2 x y H2,Inv X pins σ H2 s2→RelV x v→RelV y u→R x y H2→wpAny (model X.prog X.w) X.A (f v u) Q X.xe s2) :
  wpAny (model X.prog X.w) X.A (eval a X.env) (fun v s₁=>wpAny (model X.prog X.w) X.A (eval b X.env) (fun u s₂=>wpAny (model X.prog X.w) X.A (f v u) Q X.xe s₂) X.xe s₁) X.xe s:=by
 refine xf (ha pins s σ H _ I h) fun v s1 ⟨x,H1,I1,r1,q1⟩=>?_
 refine xf (hb pins s1 σ H1 _ I1 q1) fun u s2 ⟨y,H2,I2,r2,q2⟩=>?_
 exact hf v u s2 x y H2 I2 r1 r2 q2
theorem qw {op:Operator} {r:R2} (ho:pq X (binaryOp op) r) (ha:PE X a ta) (hb:PE X b tb):PE X (.BinOp a op b pos) (GI r ta tb):=by
 intro pins s σ H Q I h
 exact wpAny_BinOp (VI ha hb I h fun v u s2 x y H2 I2 rx ry q=>ho pins s2 σ H2 x y v u Q I2 rx ry q)
theorem Vl {op:UnaryOp} {r:V→Hp→VK→Prop} (ho:G9 X (unaryOp op) r) (ha:PE X a ta):PE X (.UnaryOp op a pos) (Pk r ta):=by
 intro pins s σ H Q I h
 exact UnaryOp_ (xf (ha pins s σ H _ I h) fun v s1 ⟨x,H1,I1,r1,q1⟩=>ho pins s1 σ H1 x v Q I1 r1 q1)
theorem GU {f:Value→Value→Sem Value} {C:Int→Int→Prop} {g:Int→Int→Int}
  (rule:∀(i j:Int) (t u:Tok) (s:Shared) (Q:Value→Shared→Prop) (E:Value→Shared→Prop),C i j→Q (.int (g i j) s.toks) { s with toks:=s.toks + 1 }→wpAny (model X.prog X.w) X.A (f (.int i t) (.int j u)) Q E s) :
  pq X f (rI C fun i j=>.int (g i j)):=by
 intro pins s σ H x y v u Q I rx ry h
 obtain⟨i,j,rfl,rfl,hc,q⟩:=h
 obtain⟨t,rfl⟩:=rx
 obtain⟨t',rfl⟩:=ry
 exact rule i j t t' s _ _ hc ⟨.int (g i j),H,I.tok _,⟨_,rfl⟩,q⟩
theorem YI {f:Value→Value→Sem Value} {g:Int→Int→Int}
  (rule:∀(i j:Int) (t u:Tok) (s:Shared) (Q:Value→Shared→Prop) (E:Value→Shared→Prop),Q (.int (g i j) s.toks) { s with toks:=s.toks + 1 }→wpAny (model X.prog X.w) X.A (f (.int i t) (.int j u)) Q E s) :
  pq X f (Vt fun i j=>.int (g i j)):=by
 intro pins s σ H x y v u Q I rx ry h
 obtain⟨i,j,rfl,rfl,q⟩:=h
 obtain⟨t,rfl⟩:=rx
 obtain⟨t',rfl⟩:=ry
 exact rule i j t t' s _ _ ⟨.int (g i j),H,I.tok _,⟨_,rfl⟩,q⟩
theorem Kt {f:Value→Value→Sem Value} {g:Int→Int→Bool}
  (rule:∀(i j:Int) (t u:Tok) (s:Shared) (Q:Value→Shared→Prop) (E:Value→Shared→Prop),Q (.bool (g i j)) s→wpAny (model X.prog X.w) X.A (f (.int i t) (.int j u)) Q E s) :
  pq X f (Vt fun i j=>.bl (g i j)):=by
 intro pins s σ H x y v u Q I rx ry h
 obtain⟨i,j,rfl,rfl,q⟩:=h
 obtain⟨t,rfl⟩:=rx
 obtain⟨t',rfl⟩:=ry
 exact rule i j t t' s _ _ ⟨.bl (g i j),H,I,rfl,q⟩
noncomputable def G0 (i j:Int):Prop:=0 < j∧j < 1073741824
noncomputable def Bw (i j:Int):Prop:=j≠0∧j.natAbs < 1073741824
noncomputable def G1 (i j:Int):Prop:=0≤j∧j≤1000000∧i.natAbs < 2 ^ 64
noncomputable def VC (i j:Int):Prop:=(-(2 ^ 64) < i∧i < 2 ^ 64)∨(-(2 ^ 64) < j∧j < 2 ^ 64)
theorem VC.ok {i j:Int} (h:VC i j):IntMulOk i j:=by
 rcases h with ⟨h1,h2⟩ | ⟨h1,h2⟩
 ·exact .of_left (intBits_le_64 h1 h2)
 ·exact .of_right (intBits_le_64 h1 h2)
theorem je:pq X (binaryOp .Add) (Vt fun i j=>.int (i + j)):=YI fun _ _ _ _ _ _ _ q=>add_int q
theorem bC:pq X (binaryOp .Sub) (Vt fun i j=>.int (i - j)):=YI fun _ _ _ _ _ _ _ q=>sub_int q
theorem u4:pq X (binaryOp .Mult) (rI VC fun i j=>.int (i * j)):=GU fun _ _ _ _ _ _ _ hc q=>mul_int q hc.ok
theorem ko:pq X (binaryOp .FloorDiv) (rI G0 fun i j=>.int (i / j)):=GU fun i j _ _ _ _ _ hc q=>by
 have h1:(0:Int) < j:=hc.1
 have h2:j < 1073741824:=hc.2
 exact floordiv_int (by omega) (by rw[Int.fdiv_eq_ediv_of_nonneg i (by omega)];exact q) (.inl (PyProof.noPylong_small (by omega)))
theorem qI:pq X (binaryOp .Mod) (rI (fun _ j=>0 < j) fun i j=>.int (i % j)):=GU fun i j _ _ _ _ _ hc q=>by
 have h1:(0:Int) < j:=hc
 exact mod_int' (by omega) (by rw[Int.fmod_eq_emod_of_nonneg i (by omega)];exact q)
theorem WY:pq X (binaryOp .Pow) (rI G1 fun i j=>.int (i ^ j.toNat)):=GU fun _ _ _ _ _ _ _ hc q=>pow_int_small hc.1 hc.2.1 hc.2.2 q
theorem Pw {f:Value→Sem Value} {g:Int→Int}
  (rule:∀(i:Int) (t:Tok) (s:Shared) (Q:Value→Shared→Prop) (E:Value→Shared→Prop),Q (.int (g i) s.toks) { s with toks:=s.toks + 1 }→wpAny (model X.prog X.w) X.A (f (.int i t)) Q E s) :
  G9 X f (rU fun i=>.int (g i)):=by
 intro pins s σ H x v Q I rx h
 obtain⟨i,rfl,q⟩:=h
 obtain⟨t,rfl⟩:=rx
 exact rule i t s _ _ ⟨.int (g i),H,I.tok _,⟨_,rfl⟩,q⟩
theorem Xe:G9 X (unaryOp .USub) (rU fun i=>.int (-i)):=Pw fun _ _ _ _ _ q=>neg_int q
end
noncomputable def Gq:V→V→Bool
 | .non,.non=>true | .non,.int _=>true | .int _,.non=>true | .non,.bl _=>true | .bl _,.non=>true | .non,.str _=>true | .str _,.non=>true
 | .int _,.int _=>true | .bl _,.bl _=>true | .str _,.str _=>true | .byt _,.byt _=>true
 | .int _,.str _=>true | .str _,.int _=>true | .bl _,.str _=>true | .str _,.bl _=>true
 | _,_=>false
noncomputable def BN:R2:=fun x y H Q=>Gq x y=true∧Q (.bl (decide (x=y))) H
noncomputable def BI:R2:=fun x y H Q=>Gq x y=true∧Q (.bl (!decide (x=y))) H
theorem aF {i j:Int}:decide (V.int i=V.int j)=(i == j):=by
 rw[Bool.eq_iff_iff]
 simp
theorem Q2 {i j:Bool}:decide (V.bl i=V.bl j)=(i == j):=by
 rw[Bool.eq_iff_iff]
 simp
theorem aM {i j:Str}:decide (V.str i=V.str j)=(i == j):=by
 rw[Bool.eq_iff_iff]
 simp
theorem aP {i j:Array UInt8}:decide (V.byt i=V.byt j)=(i.toList == j.toList):=by
 rw[Bool.eq_iff_iff]
 cases i
 cases j
 simp
section
variable {X:Cx} {a b c:Expr} {ta tb tc:TE} {pos:Pos}
theorem jb {pins:List (Addr × Obj)} {σ:St} {H:Hp} {s:Shared} {Q:VK} {k k':Bool} (I:Inv X pins σ H s) (q:Q (.bl k) H) (e:k=k'):EP X pins σ Q (.bool k') s:=by
 subst e
 exact⟨.bl k,H,I,rfl,q⟩
theorem jY:pq X (compareOp .Eq) BN:=by
 intro pins s σ H x y v u Q I rx ry h
 obtain⟨hs,q⟩:=h
 cases x with
 | non=>
  cases rx
  cases y with
  | non=>cases ry;exact PySem.EqNone.eq_none_none (jb I q (by simp))
  | bl j=>cases ry;exact PySem.EqNone.eq_none_bool (jb I q (by simp))
  | int j=>obtain⟨t',rfl⟩:=ry;exact PySem.EqNone.eq_none_int (jb I q (by simp))
  | str j=>obtain⟨t',rfl⟩:=ry;exact PySem.EqNone.eq_none_str (jb I q (by simp))
  | _=>exact absurd (show false=true from hs) Bool.false_ne_true
 | bl i=>
  cases rx
  cases y with
  | non=>cases ry;exact PySem.EqNone.eq_bool_none (jb I q (by simp))
  | bl j=>cases ry;exact eq_bool (jb I q Q2)
  | str j=>obtain⟨t',rfl⟩:=ry;exact PySem.EqMixed.eq_bool_str (jb I q (by simp))
  | _=>exact absurd (show false=true from hs) Bool.false_ne_true
 | int i=>
  obtain⟨t,rfl⟩:=rx
  cases y with
  | non=>cases ry;exact PySem.EqNone.eq_int_none (jb I q (by simp))
  | int j=>obtain⟨t',rfl⟩:=ry;exact eq_int (jb I q aF)
  | str j=>obtain⟨t',rfl⟩:=ry;exact PySem.EqMixed.eq_int_str (jb I q (by simp))
  | _=>exact absurd (show false=true from hs) Bool.false_ne_true
 | str i=>
  obtain⟨t,rfl⟩:=rx
  cases y with
  | non=>cases ry;exact PySem.EqNone.eq_str_none (jb I q (by simp))
  | bl j=>cases ry;exact PySem.EqMixed.eq_str_bool (jb I q (by simp))
  | int j=>obtain⟨t',rfl⟩:=ry;exact PySem.EqMixed.eq_str_int (jb I q (by simp))
  | str j=>obtain⟨t',rfl⟩:=ry;exact eq_str (jb I q aM)
  | _=>exact absurd (show false=true from hs) Bool.false_ne_true
 | byt i=>
  obtain⟨t,rfl⟩:=rx
  cases y with
  | byt j=>obtain⟨t',rfl⟩:=ry;exact PySem.W.eq_bytes (jb I q aP)
  | _=>exact absurd (show false=true from hs) Bool.false_ne_true
 | _=>cases y<;>exact absurd (show false=true from hs) Bool.false_ne_true
theorem u5:pq X (compareOp .NotEq) BI:=by
 intro pins s σ H x y v u Q I rx ry h
 obtain⟨hs,q⟩:=h
 cases x with
 | non=>
  cases rx
  cases y with
  | non=>cases ry;exact PySem.EqNone.ne_none_none (jb I q (by simp))
  | bl j=>cases ry;exact PySem.EqNone.ne_none_bool (jb I q (by simp))
  | int j=>obtain⟨t',rfl⟩:=ry;exact PySem.EqNone.ne_none_int (jb I q (by simp))
  | str j=>obtain⟨t',rfl⟩:=ry;exact PySem.EqNone.ne_none_str (jb I q (by simp))
  | _=>exact absurd (show false=true from hs) Bool.false_ne_true
 | bl i=>
  cases rx
  cases y with
  | non=>cases ry;exact PySem.EqNone.ne_bool_none (jb I q (by simp))
  | bl j=>cases ry;exact ne_bool (jb I q (congrArg not Q2))
  | str j=>obtain⟨t',rfl⟩:=ry;exact PySem.EqMixed.ne_bool_str (jb I q (by simp))
  | _=>exact absurd (show false=true from hs) Bool.false_ne_true
 | int i=>
  obtain⟨t,rfl⟩:=rx
  cases y with
  | non=>cases ry;exact PySem.EqNone.ne_int_none (jb I q (by simp))
  | int j=>obtain⟨t',rfl⟩:=ry;exact ne_int (jb I q (congrArg not aF))
  | str j=>obtain⟨t',rfl⟩:=ry;exact PySem.EqMixed.ne_int_str (jb I q (by simp))
  | _=>exact absurd (show false=true from hs) Bool.false_ne_true
 | str i=>
  obtain⟨t,rfl⟩:=rx
  cases y with
  | non=>cases ry;exact PySem.EqNone.ne_str_none (jb I q (by simp))
  | bl j=>cases ry;exact PySem.EqMixed.ne_str_bool (jb I q (by simp))
  | int j=>obtain⟨t',rfl⟩:=ry;exact PySem.EqMixed.ne_str_int (jb I q (by simp))
  | str j=>obtain⟨t',rfl⟩:=ry;exact ne_str (jb I q (congrArg not aM))
  | _=>exact absurd (show false=true from hs) Bool.false_ne_true
 | byt i=>
  obtain⟨t,rfl⟩:=rx
  cases y with
  | byt j=>obtain⟨t',rfl⟩:=ry;exact PySem.W.ne_bytes (jb I q (congrArg not aP))
  | _=>exact absurd (show false=true from hs) Bool.false_ne_true
 | _=>cases y<;>exact absurd (show false=true from hs) Bool.false_ne_true
theorem u3:pq X (compareOp .Lt) (Vt fun i j=>.bl (decide (i < j))):=Kt fun _ _ _ _ _ _ _ q=>lt_int q
theorem Vu:pq X (compareOp .LtE) (Vt fun i j=>.bl (decide (i≤j))):=Kt fun _ _ _ _ _ _ _ q=>le_int q
theorem oE:pq X (compareOp .Gt) (Vt fun i j=>.bl (decide (j < i))):=Kt fun _ _ _ _ _ _ _ q=>gt_int q
theorem YE:pq X (compareOp .GtE) (Vt fun i j=>.bl (decide (j≤i))):=Kt fun _ _ _ _ _ _ _ q=>ge_int q
theorem Qz:pq X (compareOp .In) (fun x y H Q=>∃i j,x=.str i∧y=.str j∧Q (.bl (!(Builtin.Str.occurrences j i 0 j.length 1).isEmpty)) H):=by
 intro pins s σ H x y v u Q I rx ry h
 obtain⟨i,j,rfl,rfl,q⟩:=h
 obtain⟨t,rfl⟩:=rx
 obtain⟨t',rfl⟩:=ry
 exact in_str (jb I q rfl)
theorem tP:pq X (compareOp .Is) (fun x y H Q=>y=.non∧Q (.bl (decide (x=.non))) H):=by
 intro pins s σ H x y v u Q I rx ry h
 obtain⟨rfl,q⟩:=h
 cases ry
 refine is_none_gen (jb I q ?_)
 cases x<;>first
  | (cases rx;rfl)
  | (obtain⟨t,rfl⟩:=rx;rfl)
theorem uk:pq X (compareOp .IsNot) (fun x y H Q=>y=.non∧Q (.bl (!decide (x=.non))) H):=by
 intro pins s σ H x y v u Q I rx ry h
 obtain⟨rfl,q⟩:=h
 cases ry
 refine isnot_none_gen (jb I q ?_)
 cases x<;>first
  | (cases rx;rfl)
  | (obtain⟨t,rfl⟩:=rx;rfl)
noncomputable def isObj:HO→Bool
 | .lst _=>true
 | .ins _ _ _=>true
 | _=>false
theorem qZ (b:Expr) {op:CmpOp} (h:op≠.In:=by decide) (h2:op≠.NotIn:=by decide):behindInMarks op b=false:=by
 have e1:(op == CmpOp.In)=false:=by cases op<;>first | rfl | exact absurd rfl h
 have e2:(op == CmpOp.NotIn)=false:=by cases op<;>first | rfl | exact absurd rfl h2
 cases b<;>simp [behindInMarks,e1,e2]
theorem k6 {op:CmpOp} {r:R2} (ho:pq X (compareOp op) r) (ha:PE X a ta) (hb:PE X b tb) (hm:behindInMarks op b=false):PE X (.Compare a [op] [b] pos) (GI r ta tb):=by
 intro pins s σ H Q I h
 exact wpAny_Compare1 (VI ha hb I h fun v u s2 x y H2 I2 rx ry q=>ho pins s2 σ H2 x y v u Q I2 rx ry q) hm
noncomputable def Gn (t:TE):TT:=fun σ H Q=>t σ H fun x H'=>∃k,x=.bl k∧Q k H'
theorem qo {op:CmpOp} {r:R2} (ho:pq X (compareOp op) r) (ha:PE X a ta) (hb:PE X b tb) (hm:behindInMarks op b=false):PT X (.Compare a [op] [b] pos) (Gn (GI r ta tb)):=by
 intro pins s σ H Q I h
 refine wpAny_isTrue_Compare1 (xf (ha pins s σ H _ I h) fun v s1 ⟨x,H1,I1,r1,q1⟩=>xf (hb pins s1 σ H1 _ I1 q1) fun u s2 ⟨y,H2,I2,r2,q2⟩=>
  xf (ho pins s2 σ H2 x y v u _ I2 r1 r2 q2) fun c s3 ⟨z,H3,I3,r3,k,e,q3⟩=>?_) hm
 subst e
 cases r3
 exact wpAny_truthy_bool ⟨H3,I3,q3⟩
noncomputable def Yk (r r':R2) (ta tb tc:TE):TE:=fun σ H Q=>ta σ H fun x H1=>tb σ H1 fun y H2=>r x y H2 fun z H3=>∃k,z=.bl k∧
 (if k=true then tc σ H3 fun w' H4=>r' y w' H4 Q else Q (.bl false) H3)
theorem JR {op op':CmpOp} {r r':R2} (ho:pq X (compareOp op) r) (ho':pq X (compareOp op') r') (ha:PE X a ta) (hb:PE X b tb) (hc:PE X c tc)
  (hm:lastMarks [op,op'] [b,c]=false:=by with_unfolding_all rfl):PE X (.Compare a [op,op'] [b,c] pos) (Yk r r' ta tb tc):=by
 intro pins s σ H Q I h
 refine Compare_chain (xf (ha pins s σ H _ I h) fun v s1 ⟨x,H1,I1,r1,q1⟩=>chain_link (xf (hb pins s1 σ H1 _ I1 q1) fun u s2 ⟨y,H2,I2,r2,q2⟩=>
  xf (ho pins s2 σ H2 x y v u _ I2 r1 r2 q2) fun d s3 ⟨z,H3,I3,r3,k,e,q3⟩=>?_)) hm
 subst e
 cases r3
 refine wpAny_truthy_bool ?_
 cases k with
 | false=>exact ite_ff ⟨.bl false,H3,I3,rfl,q3⟩
 | true=>exact ite_tt (chain_last (xf (hc pins s3 σ H3 _ I3 q3) fun w' s4 ⟨z',H4,I4,r4,q4⟩=>ho' pins s4 σ H4 y z' u w' Q I4 r2 r4 q4))
noncomputable def BF (K:PySem.W.Frag) (x:V) (H:Hp) (k:Bool):Prop:=
 match x with
 | .non=>k=false
 | .bl b=>k=b
 | .int i=>k=(i != 0)
 | .str y=>y.length≤sizeLine∧k=((y.length:Int) != 0)
 | .byt y=>y.size≤sizeLine∧k=((y.size:Int) != 0)
 | .ref p=>(∃xs,qL K H p xs∧k = !xs.isEmpty)∨(∃xs,yc K H p xs∧k = !xs.isEmpty)∨∃kvs,H p=some (.dK kvs)∧k = !kvs.isEmpty
 | _=>False
theorem dN:(sizeLine:Nat) < 2 ^ 63:=by rw[sizeLine_eq];decide
theorem qW:pq X (binaryOp .Add) (fun x y H Q=>∃i j,x=.str i∧y=.str j∧i.length + j.length≤sizeLine∧Q (.str (i ++ j)) H):=by
 intro pins s σ H x y v u Q I rx ry h
 obtain⟨i,j,rfl,rfl,hz,q⟩:=h
 obtain⟨t,rfl⟩:=rx
 obtain⟨t',rfl⟩:=ry
 exact add_str (fun t' tk=>⟨.str (i ++ j),H,I.tok _,⟨_,rfl⟩,q⟩) hz
noncomputable def Ye (b:Expr):Prop:=∀o i,subscripted b false o i=operate [o,i] (getItem o i)
theorem vals1 {x:V} {us:List Value} (r:Vals [x] us):∃u,us=[u]∧RelV x u:=by
 cases r with
 | cons r1 r2=>cases r2;exact⟨_,rfl,r1⟩
theorem vals2 {x y:V} {us:List Value} (r:Vals [x,y] us):∃u w',us=[u,w']∧RelV x u∧RelV y w':=by
 cases r with
 | cons r1 r2=>
  cases r2 with
  | cons r3 r4=>cases r4;exact⟨_,_,rfl,r1,r3⟩
theorem ZH (hc:X.calm=true):vw X (.builtin "min") (fun xs H Q=>∃i j,xs=[.int i,.int j]∧Q (.int (if j < i then j else i)) H):=by
 intro pins s σ H xs us Q I r h
 obtain⟨i,j,rfl,q⟩:=h
 obtain⟨u,w',rfl,⟨t,rfl⟩,⟨t',rfl⟩⟩:=vals2 r
 refine min_two_ints (I.ok.hd hc) fun h' tk k=>⟨_,H,I.kept k,?_,q⟩
 by_cases hj:j < i
 ·rw[if_pos hj,if_pos hj];exact⟨_,rfl⟩
 ·rw[if_neg hj,if_neg hj];exact⟨_,rfl⟩
theorem gB:vw X (.type "int") (fun xs H Q=>(∃i,xs=[.int i]∧Q (.int i) H)∨∃k,xs=[.bl k]∧Q (.int (if k then 1 else 0)) H):=by
 intro pins s σ H xs us Q I r h
 rcases h with ⟨i,rfl,q⟩ | ⟨k,rfl,q⟩
 ·obtain⟨u,rfl,t,rfl⟩:=vals1 r
  exact call_int_int ⟨.int i,H,I,⟨_,rfl⟩,q⟩
 ·obtain⟨u,rfl,r1⟩:=vals1 r
  cases r1
  exact call_int_bool ⟨.int (if k then 1 else 0),H,I.tok _,⟨_,rfl⟩,q⟩
theorem sU:vw X (.type "str") (fun xs H Q=>∃i,xs=[.int i]∧i.natAbs.log2 < 1920∧Q (.str (toString i)) H):=by
 intro pins s σ H xs us Q I r h
 obtain⟨i,rfl,hz,q⟩:=h
 obtain⟨u,rfl,t,rfl⟩:=vals1 r
 exact PySem.P.str_of_int hz ⟨.str _,H,I.tok _,⟨_,rfl⟩,q⟩
noncomputable def BY (K:PySem.W.Frag) (x:V) (H:Hp) (n:Nat):Prop:=
 match x with
 | .str y=>y.length≤sizeLine∧n=y.length
 | .byt y=>y.size≤sizeLine∧n=y.size
 | .ref p=>(∃xs,qL K H p xs∧n=xs.length)∨∃xs,yc K H p xs∧n=xs.length
 | _=>False
end
end L2
namespace L2
open PySem PySem.Spec PyProof.Rows
structure iB (h:Heap) (x dx C:Addr) (mA:Str→Option Value):Prop where
 obj:h.get? x=some (PySem.W.instObj C dx)
 ns:h.Ns1 dx mA
 ne:dx≠x
theorem dO {h:Heap} {dx:Addr} {mA:Str→Option Value} (n:h.Ns1 dx mA):∃od,h.get? dx=some od∧∀name,PySem.W.lookIn name od=some (mA name):=by
 obtain⟨o,es,ep,ho,hd,hk,_,hm⟩:=n
 refine⟨o,ho,fun name=>?_⟩
 have e:=hm name
 unfold nsFind findBy at e
 rw[←Array.find?_toList] at e
 unfold PySem.W.lookIn
 rw[hd]
 dsimp only
 split
 ·rename_i y q
  rw[q] at e
  exact congrArg some e
 ·rename_i q
  rw[q] at e
  have a:es.toList.any (·.refKey)=false:=by
   rw[List.any_eq_false]
   intro y hy
   obtain⟨z,t,hkey⟩:=hk y (Array.mem_toList_iff.mp hy)
   simp [DictEntry.refKey,hkey]
  have a':¬es.toList.any (·.refKey)=true:=by rw[a];exact Bool.false_ne_true
  rw[if_neg a']
  exact congrArg some e
theorem iB.look {h:Heap} {x dx C:Addr} {mA:Str→Option Value} (I:iB h x dx C mA):∃od,PySem.W.InstAt h x (PySem.W.instObj C dx) C (some od)∧∀name,PySem.W.lookIn name od=some (mA name):=
 let ⟨od,ho,hl⟩:=dO I.ns
 ⟨od,⟨I.obj,rfl,rfl,ho⟩,hl⟩
section
variable {prog:Program} {w:World} {A:Around} {E:Value→Shared→Prop} {s:Shared} {K:PySem.W.Frag} {x dx C f:Addr} {mA:Str→Option Value} {name:Str} {v:Value}
theorem get_map {expr:Bool} {Q:Value→Shared→Prop} (X:K.In s.heap) (I:iB s.heap x dx C mA) (hg:PySem.W.plainGet K C name=true) (hh:PySem.W.hasDictIn K C=true)
  (ha:PySem.W.findIn K (.ref C) name=some none) (hv:mA name=some v) (hv':PySem.W.handedIn v=true) (h:Q v { s with toks:=s.toks + 1 }) :
  wpAny (model prog w) A (getAttr (.ref x) name expr) Q E s:=by
 obtain⟨od,J,hl⟩:=I.look
 exact PySem.W.get_value X J (PySem.W.plainGet_of hg).1 (PySem.W.findObj_own hh ha rfl (by rw[hl,hv])) hv' h
theorem Jx {pl:Sem Bool} {Q:Value × List Value→Shared→Prop} (X:K.In s.heap) (I:iB s.heap x dx C mA) (hg:PySem.W.plainGet K C name=true)
  (hf:PySem.W.findIn K (.ref C) name=some (some (.ref f))) (ht:PySem.W.isFn K (.ref f)=true) (hv:mA name=none) (h:Q (.ref f,[.ref x]) s) :
  wpAny (model prog w) A (getMethod (.ref x) name pl) Q E s:=by
 obtain⟨od,J,hl⟩:=I.look
 exact PySem.W.method_fn X J (PySem.W.plainGet_of hg).1 (PySem.W.plainGet_of hg).2 hf (beq_iff_eq.mp ht) (by show (PySem.W.lookIn name od).map (·.isSome)=some false;rw[hl,hv];rfl) h
theorem KO {ns:List Str} {Q:Unit→Shared→Prop} (X:K.In s.heap) (I:iB s.heap x dx C mA)
  (hs:PySem.W.findIn K (.ref C) "__setattr__" = some (some (.builtin "object.__setattr__"))) (hp:PySem.W.plainOver K C=true) (ht:PySem.W.takerIn K C name=some none) (hh:PySem.W.hasDictIn K C=true)
  (hw:PySem.Within mA ns) (hsz:ns.length≤sizeLine)
  (h:∀h',iB h' x dx C (fun y=>if y=name then some v else mA y)→Heap.SameBut dx s.heap h'→Q () { s with heap:=h',toks:=s.toks + 2 }) :
  wpAny (model prog w) A (setAttr (.ref x) name v) Q E s:=by
 obtain⟨od,J,hl⟩:=I.look
 refine PySem.W.set_plain X J hs (PySem.W.osa_open (s:={ s with toks:=s.toks + 1 }) (r:=none) X J hp ht fun b=>?_)
 obtain⟨cd,hc,hd'⟩:=PySem.W.any_some hh
 have hx:s.heap.get? x=some ⟨.ref C,some dx,.plain,#[]⟩:=I.obj
 refine wpAny_bind (wpAny_pure (wpAny_bind (wpAny_bind (wpAny_loadPart hx (wpAny_bind (PySem.W.Looks.here (s:={ s with toks:=s.toks + 1 }) (PySem.W.looks_clsIn X hc) ?_))))))
 rw[hd']
 refine wpAny_pure (a:=some dx) (wpAny_bind (wpAny_pure (wpAny_bind ?_)))
 refine wpAny_nsSet1 (s:={ s with toks:=s.toks + 1 }) I.ns fun h' hn2 hs2=>?_
 obtain⟨oD,esD,epD,hoD,hdD,hcD⟩:=hn2.count (PySem.Within.cons name v hw)
 refine wpAny_bind (wpAny_lookBehind hoD (by rw[hdD];exact pastItsLine_dict (Nat.le_trans hcD (by rw[List.length_cons];omega))) ?_)
 exact wpAny_pure (h _ ⟨(hs2.2 _ (Ne.symm I.ne)).trans I.obj,hn2,I.ne⟩ hs2)
theorem Jn {R:Result→Shared→Prop} {vs:List Value} {kw:List (Str × Value)} (X:K.In s.heap) (hm:PySem.W.makesIn K C=true)
  (hi:PySem.W.findIn K (.ref C) "__init__" = some (some (.ref f))) (hf:PySem.W.typeIn K (.ref f)=some (.type "function"))
  (h:codeAny (model prog w) (A.under (.builtin "type.__call__" ⟨.ref C :: vs,kw⟩)) (.call (.ref f) ⟨.ref (s.heap.objs.size + 1) :: vs,kw⟩) (PySem.W.InitBack (s.heap.objs.size + 1) R)
   { s with heap:=(s.heap.push PySem.W.emptyDict).push (PySem.W.instObj C s.heap.objs.size) }) :
  codeAny (model prog w) A (.call (.ref C) ⟨vs,kw⟩) R s:=by
 obtain⟨hh,g,d,t,os⟩:=s
 exact PySem.W.make_core (PySem.W.makes_of X hm) (PySem.W.looks_findIn X hi) (fun self=>PySem.W.bind_fn X self hf) (.inl rfl) h
end
noncomputable def qF (f:Str) (v:V):List (Str × V)→List (Str × V)
 | []=>[(f,v)]
 | (g,x) :: r=>if g=f then (g,v) :: r else (g,x) :: qF f v r
theorem pW (f g:Str) (v:V):∀fs:List (Str × V),(qF f v fs).lookup g=if g=f then some v else fs.lookup g
 | []=>by
  show List.lookup g [(f,v)]=_
  by_cases h:g=f
  ·have hb:(g == f)=true:=beq_iff_eq.mpr h
   simp only[List.lookup,hb,if_pos h]
  ·have hb:(g == f)=false:=beq_eq_false_iff_ne.mpr h
   simp only[List.lookup,hb,if_neg h]
 | (k,x) :: r=>by
  have ih:=pW f g v r
  rw[show qF f v ((k,x) :: r)=(if k=f then (k,v) :: r else (k,x) :: qF f v r) from rfl]
  by_cases hk:k=f
  ·rw[if_pos hk]
   by_cases h:g=k
   ·have hb:(g == k)=true:=beq_iff_eq.mpr h
    simp only[List.lookup,hb,if_pos (h.trans hk)]
   ·have hb:(g == k)=false:=beq_eq_false_iff_ne.mpr h
    simp only[List.lookup,hb,if_neg (fun e:g=f=>h (e.trans hk.symm))]
  ·rw[if_neg hk]
   by_cases h:g=k
   ·have hb:(g == k)=true:=beq_iff_eq.mpr h
    simp only[List.lookup,hb,if_neg (fun e:g=f=>hk (h.symm.trans e))]
   ·have hb:(g == k)=false:=beq_eq_false_iff_ne.mpr h
    simp only[List.lookup,hb]
    exact ih
theorem gR (f:Str) (v:V):∀fs:List (Str × V),f∈(qF f v fs).map (·.1)∧∀g,g∈fs.map (·.1)→g∈(qF f v fs).map (·.1)
 | []=>⟨by simp [qF],fun g h=>by simp at h⟩
 | (k,x) :: r=>by
  obtain⟨i1,i2⟩:=gR f v r
  rw[show qF f v ((k,x) :: r)=(if k=f then (k,v) :: r else (k,x) :: qF f v r) from rfl]
  by_cases hk:k=f
  ·rw[if_pos hk]
   subst hk
   exact⟨by simp,fun g h=>by simpa using h⟩
  ·rw[if_neg hk]
   refine⟨?_,fun g h=>?_⟩
   ·rw[List.map_cons]
    exact List.mem_cons_of_mem _ i1
   ·rw[List.map_cons] at h ⊢
    rcases List.mem_cons.mp h with e | e
    ·exact List.mem_cons.mpr (.inl e)
    ·exact List.mem_cons_of_mem _ (i2 g e)
theorem xT (f:Str) (v:V):∀fs:List (Str × V),(qF f v fs).length≤fs.length + 1
 | []=>by simp [qF]
 | (k,x) :: r=>by
  have ih:=xT f v r
  rw[show qF f v ((k,x) :: r)=(if k=f then (k,v) :: r else (k,x) :: qF f v r) from rfl]
  by_cases hk:k=f
  ·rw[if_pos hk,List.length_cons,List.length_cons];omega
  ·rw[if_neg hk,List.length_cons,List.length_cons];omega
theorem gG.some_of {v:V} {o:Option Value} (r:gG (some v) o):∃u,o=some u∧RelV v u:=by
 cases o with
 | none=>exact(show False from r).elim
 | some u=>exact⟨u,rfl,r⟩
theorem gG.none_of {o:Option Value} (r:gG none o):o=none:=by
 cases o with
 | none=>rfl
 | some u=>exact(show False from r).elim
theorem lD {v:V} {u:Value} (r:RelV v u):PySem.W.handedIn u=true:=by
 cases v with
 | non=>cases (show u=Value.none from r);rfl
 | bl b=>cases (show u=Value.bool b from r);rfl
 | int i=>obtain⟨t,e⟩:=(show ∃t,u=Value.int i t from r);cases e;rfl
 | str x=>obtain⟨t,e⟩:=(show ∃t,u=Value.str x t from r);cases e;rfl
 | byt b=>obtain⟨t,e⟩:=(show ∃t,u=Value.bytes b t from r);cases e;rfl
 | flt b=>obtain⟨t,e⟩:=(show ∃t,u=Value.float b t from r);cases e;rfl
 | ref a=>cases (show u=Value.ref a from r);rfl
 | ty n=>cases (show u=Value.type n from r);rfl
section
variable {P:Program} {w:World} {H H':Hp} {h h':Heap} {a C dx:Addr} {fs fs':List (Str × V)}
theorem cA (jx:bp P w H h) (e:H a=some (.ins C dx fs)):∃mA,iB h a dx C mA∧(∀f,gG (fs.lookup f) (mA f))∧PySem.Within mA (fs.map (·.1))∧fs.length≤1000∧H dx=some (.own a):=by
 obtain⟨d,z,ne,ob,mA,n,r,q⟩:=(show xk P w H h a (.ins C dx fs) from jx a _ e)
 exact⟨mA,⟨ob,n,ne⟩,r,q,z,d⟩
end
structure cR (K:PySem.W.Frag) (C:Addr):Prop where
 pg:PySem.W.plainGet K C Str.empty=true
 hd:PySem.W.hasDictIn K C=true
 po:PySem.W.plainOver K C=true
 sa:PySem.W.findIn K (.ref C) "__setattr__" = some (some (.builtin "object.__setattr__"))
theorem cR.get {K:PySem.W.Frag} {C:Addr} (c:cR K C) (f:Str):PySem.W.plainGet K C f=true:=c.pg
noncomputable def qH (K:PySem.W.Frag) (C:Addr) (f:Str):Prop:=PySem.W.findIn K (.ref C) f=some none
theorem qH.GJ {K:PySem.W.Frag} {C:Addr} {f:Str} (n:qH K C f):PySem.W.takerIn K C f=some none:=by
 unfold PySem.W.takerIn
 rw[show PySem.W.findIn K (.ref C) f=some none from n]
 rfl
structure BX (K:PySem.W.Frag) (C:Addr) (f:Str) (v:V) (u:Value):Prop where
 at_:PySem.W.findIn K (.ref C) f=some (some u)
 rel:RelV v u
 get:PySem.W.specialIn K u "__get__" = some none
 cp:PySem.W.copiedNames.contains f=false
structure Meth (K:PySem.W.Frag) (C:Addr) (m:Str) (f:Addr):Prop where
 at_:PySem.W.findIn K (.ref C) m=some (some (.ref f))
 fn:PySem.W.isFn K (.ref f)=true
 kp:PySem.W.keepIn K (.ref f)=true
section
variable {X:Cx} {pins:List (Addr × Obj)} {σ:St} {H:Hp} {s:Shared} {a C dx:Addr} {fs:List (Str × V)} {f:Str} {v:V} {A:Around} {E:Value→Shared→Prop}
theorem iT {b:Bool} {Q:Value→Shared→Prop} (I:Inv X pins σ H s) (e:H a=some (.ins C dx fs)) (c:cR X.K C) (n:qH X.K C f) (l:fs.lookup f=some v)
  (h:∀u s',Inv X pins σ H s'→RelV v u→Q u s'):wpAny (model X.prog X.w) A (getAttr (.ref a) f b) Q E s:=by
 obtain⟨mA,O,r,_,_,_⟩:=cA I.jx e
 obtain⟨u,hu,ru⟩:=gG.some_of (v:=v) (o:=mA f) (by rw[←l];exact r f)
 exact get_map I.gU O (c.get f) c.hd n hu (lD ru) (h u _ (I.tok _) ru)
theorem mf {m:Str} {g:Addr} {pl:Sem Bool} {Q:Value × List Value→Shared→Prop} (I:Inv X pins σ H s) (e:H a=some (.ins C dx fs)) (c:cR X.K C) (k:Meth X.K C m g) (l:fs.lookup m=none)
  (h:Q (.ref g,[.ref a]) s):wpAny (model X.prog X.w) A (getMethod (.ref a) m pl) Q E s:=by
 obtain⟨mA,O,r,_,_,_⟩:=cA I.jx e
 have hn:mA m=none:=gG.none_of (by rw[←l];exact r m)
 exact Jx I.gU O (c.get m) k.at_ k.fn hn h
theorem eF {y:V} {u:Value} {Q:Unit→Shared→Prop} (I:Inv X pins σ H s) (e:H a=some (.ins C dx fs)) (c:cR X.K C) (n:qH X.K C f) (hl:fs.length < 1000) (ry:RelV y u)
  (h:∀s',Inv X pins σ (upd H a (.ins C dx (qF f y fs))) s'→Q () s'):wpAny (model X.prog X.w) A (setAttr (.ref a) f u) Q E s:=by
 obtain⟨mA,O,r,wi,_,ho⟩:=cA I.jx e
 have hz:(fs.map (·.1)).length≤sizeLine:=by rw[List.length_map,sizeLine_eq];omega
 refine KO I.gU O c.sa c.po n.GJ c.hd wi hz fun h' O' sb=>h _ ?_
 have hd:∃o,h'.get? dx=some o:=let ⟨o,_,_,e',_⟩:=O'.ns;⟨o,e'⟩
 refine I.write (x:=a) (e:=dx) (by rw[e];exact True.intro) (.inr ho) (fun b q hb z=>(sb.2 b hb).trans z) hd ?_
 refine⟨by rw[qB O.ne];exact ho,?_,O.ne,O'.obj,_,O'.ns,fun g=>?_,fun g hg=>?_⟩
 ·have:=xT f y fs;omega
 ·show gG ((qF f y fs).lookup g) (if g=f then some u else mA g)
  rw[pW]
  by_cases q:g=f
  ·rw[if_pos q,if_pos q];exact ry
  ·rw[if_neg q,if_neg q];exact r g
 ·by_cases q:g=f
  ·rw[q];exact(gR f y fs).1
  ·refine(gR f y fs).2 g (wi g fun z=>hg ?_)
   show (if g=f then some u else mA g)=none
   rw[if_neg q];exact z
theorem Inv.made (I:Inv X pins σ H s):Inv X pins σ (upd (upd H s.heap.objs.size (.own (s.heap.objs.size + 1))) (s.heap.objs.size + 1) (.ins C s.heap.objs.size []))
  { s with heap:=(s.heap.push PySem.W.emptyDict).push (PySem.W.instObj C s.heap.objs.size) }:=by
 have e1:(s.heap.push PySem.W.emptyDict).get? s.heap.objs.size=some PySem.W.emptyDict:=Heap.get?_push_size s.heap rfl
 have e2:((s.heap.push PySem.W.emptyDict).push (PySem.W.instObj C s.heap.objs.size)).get? (s.heap.objs.size + 1)=some (PySem.W.instObj C s.heap.objs.size):=by
  have:=Heap.get?_push_size (s.heap.push PySem.W.emptyDict) (o:=PySem.W.instObj C s.heap.objs.size) rfl
  rwa [Heap.size_push] at this
 have e3:(s.heap.push PySem.W.emptyDict).Ns s.heap.objs.size (fun _=>none):=⟨PySem.W.emptyDict,#[],_,e1,rfl,(fun e he=>absurd he (by simp)),fun _=>rfl⟩
 have I1:=I.laid (a:=s.heap.objs.size) (o:=.own (s.heap.objs.size + 1)) (h':=s.heap.push PySem.W.emptyDict) (t':=s.toks) (fun b u q=>Heap.get?_push_of_some _ q) (Nat.le_refl _) ⟨_,e1⟩
 refine I1.laid (a:=s.heap.objs.size + 1) (o:=.ins C s.heap.objs.size []) (t':=s.toks) (fun b u q=>Heap.get?_push_of_some _ q) (Nat.le_of_eq (Heap.size_push _ _)) ?_
 have ne:s.heap.objs.size≠s.heap.objs.size + 1:=Nat.ne_of_lt (Nat.lt_succ_self _)
 refine⟨by rw[qB ne,qm],Nat.zero_le _,ne,e2,fun _=>none,(Heap.Ns1.of_empty e3).at fun o q=>Heap.get?_push_of_some _ q,fun _=>True.intro,fun y hy=>absurd rfl hy⟩
theorem aZ {prog:Program} {w:World} {env:Env} {e:Expr} {f:Str} {pos:Pos} {s:Shared} {Q:Value→Shared→Prop} (hb:attributeBase e f env (eval e env)=eval e env)
  (h:wpAny (model prog w) A (eval e env) (fun o s₁=>wpAny (model prog w) A (getAttr o f true) Q E s₁) E s):wpAny (model prog w) A (eval (.Attribute e f pos) env) Q E s:=
 Attribute_any_ h (by rw[arm_eval_Attribute,hb])
end
noncomputable def HU (K:PySem.W.Frag) (ta:TE) (f:Str):TE:=fun σ H Q=>ta σ H fun x H1=>∃a C dx fs v,x=.ref a∧H1 a=some (.ins C dx fs)∧cR K C∧qH K C f∧fs.lookup f=some v∧Q v H1
noncomputable def B5 (K:PySem.W.Frag) (ta:TE) (f:Str):TE:=fun σ H Q=>ta σ H fun x H1=>∃a C dx fs v u,x=.ref a∧H1 a=some (.ins C dx fs)∧cR K C∧BX K C f v u∧fs.lookup f=none∧Q v H1
noncomputable def HW (K:PySem.W.Frag) (ta tv:TE) (f:Str):TS:=fun D σ H=>tv σ H fun y H1=>ta σ H1 fun x H2=>∃a C dx fs,x=.ref a∧H2 a=some (.ins C dx fs)∧cR K C∧qH K C f∧fs.length < 1000∧
 D.nx σ (upd H2 a (.ins C dx (qF f y fs)))
noncomputable def BV (X:Cx) (op:Operator) (rd:V→V→Hp→VK→Prop):Prop:=
 ∀(pins:List (Addr × Obj)) (s:Shared) (σ:St) (H:Hp) (x y:V) (u v:Value) (Q:VK),Inv X pins σ H s→RelV x u→RelV y v→rd x y H Q→wpAny (model X.prog X.w) X.A (inplaceOp op u v) (EP X pins σ Q) X.xe s
noncomputable def GL (K:PySem.W.Frag) (ta tv:TE) (rd:V→V→Hp→VK→Prop) (f:Str):TS:=fun D σ H=>ta σ H fun x H1=>∃a C dx fs v,x=.ref a∧H1 a=some (.ins C dx fs)∧cR K C∧qH K C f∧fs.lookup f=some v∧
 tv σ H1 fun y H2=>rd v y H2 fun z H3=>∃dx' fs',H3 a=some (.ins C dx' fs')∧fs'.length < 1000∧D.nx σ (upd H3 a (.ins C dx' (qF f z fs')))
section
variable {X:Cx} {o e value:Expr} {f:Str} {pos pos' tpos:Pos} {ta tv:TE}
theorem WG (he:PE X e ta) (hb:attributeBase e f X.env (eval e X.env)=eval e X.env):PE X (.Attribute e f pos) (HU X.K ta f):=by
 intro pins s σ H Q I h
 refine aZ hb (xf (he pins s σ H _ I h) fun u s1 ⟨x,H1,I1,rx,a,C,dx,fs,v,ex,ea,c,n,l,q⟩=>?_)
 subst ex
 obtain rfl:u=Value.ref a:=rx
 exact iT I1 ea c n l fun u' s2 I2 ru=>⟨v,H1,I2,ru,q⟩
theorem x8 (ha:PE X o ta) (hv:PE X value tv) (hs:swapsWith value (some (.Attribute o f pos')) pos.line X.env=pure false):PS X (.Assign [.Attribute o f pos'] value pos) (HW X.K ta tv f):=by
 intro pins s σ H D I h
 refine plainObj_wpAny_Assign_Attribute (xf (hv pins s σ H _ I h) fun u s1 ⟨y,H1,I1,ry,q⟩=>xf (ha pins s1 σ H1 _ I1 q) fun ov s2 ⟨x,H2,I2,rx,a,C,dx,fs,ex,ea,c,n,l,q2⟩=>?_) hs
 subst ex
 obtain rfl:ov=Value.ref a:=rx
 exact eF I2 ea c n l ry fun s3 I3=>⟨σ,_,I3,q2⟩
noncomputable def BS:V→V→Hp→VK→Prop:=fun x y H Q=>∃i j,x=.int i∧y=.int j∧Q (.int (i + j)) H
noncomputable def BA:V→V→Hp→VK→Prop:=fun x y H Q=>∃i j,x=.int i∧y=.int j∧Q (.int (i - j)) H
theorem Vc {pl:Sem Bool} {m:Str} {apos:Pos} {args:List Expr} {pins:List (Addr × Obj)} {s:Shared} {σ:St} {H:Hp} {Q:Value→Shared→Prop} {te:TE} (he:PE X e te) (I:Inv X pins σ H s)
  (h:te σ H fun x H1=>∃a C dx fs g,x=.ref a∧H1 a=some (.ins C dx fs)∧cR X.K C∧Meth X.K C m g∧fs.lookup m=none∧
   ∀s1,Inv X pins σ H1 s1→wpAny (model X.prog X.w) X.A (callWith pos (.ref g) [.ref a] (backTo pos (starEach args X.env)) (backToKw pos (keywordEach [] X.env))) Q X.xe s1)
  (ht:eval (.Call (.Attribute e m apos) args [] pos) X.env=(do
   let ov ←eval e X.env
   standAt apos.atName
   let (f,first) ←holding [ov] (getMethod ov m pl)
   callWith pos f first (backTo pos (starEach args X.env)) (backToKw pos (keywordEach [] X.env)))) :
  wpAny (model X.prog X.w) X.A (eval (.Call (.Attribute e m apos) args [] pos) X.env) Q X.xe s:=by
 refine PySem.W.methodCall_KW (pl:=pl) (xf (he pins s σ H _ I h) fun u s1 ⟨x,H1,I1,rx,a,C,dx,fs,g,ex,ea,c,k,l,q⟩=>?_) ht
 subst ex
 obtain rfl:u=Value.ref a:=rx
 exact mf I1 ea c k l (q s1 I1)
end
section
variable {X:Cx} {pins:List (Addr × Obj)} {σ:St} {H:Hp} {s:Shared} {A:Around} {E:Value→Shared→Prop} {Q:Value→Shared→Prop} {c:Value} {b:Bool}
inductive bc (K:PySem.W.Frag) (H:Hp):V→Value→Prop where
 | non:bc K H .non (.type "NoneType")
 | bl (x:Bool):bc K H (.bl x) (.type "bool")
 | int (i:Int):bc K H (.int i) (.type "int")
 | str (x:Str):bc K H (.str x) (.type "str")
 | flt (x:UInt64):bc K H (.flt x) (.type "float")
 | lst {a:Addr} {xs:List V} (e:H a=some (.lst xs)):bc K H (.ref a) (.type "list")
 | frz {a:Addr} {o:Obj} {xs:List V} (e:H a=some (.frz o (.lst xs))):bc K H (.ref a) (.type "list")
 | tup {a:Addr} {xs:List V} (e:H a=some (.tup xs)):bc K H (.ref a) (.type "tuple")
 | dK {a:Addr} {kvs:List (Key × V)} (e:H a=some (.dK kvs)):bc K H (.ref a) (.type "dict")
 | dT {a:Addr} {kvs:List (List Key × V)} (e:H a=some (.dT kvs)):bc K H (.ref a) (.type "dict")
 | ins {a C dx:Addr} {fs:List (Str × V)} (e:H a=some (.ins C dx fs)) (cl:cR K C) (ha:PySem.W.findIn K (.ref C) "__class__" = some (some (.builtin "object.__class__")))
   (hn:PySem.W.specialIn K (.builtin "object.__class__") "__get__" = some (some (.builtin "getset_descriptor.__get__"))) (GP:PySem.W.takesIn K (.builtin "object.__class__")=some true)
   (hm:PySem.W.mroIn K C (.type "object")=some true):bc K H (.ref a) (.ref C)
theorem ZT {x:V} {u t:Value} (I:Inv X pins σ H s) (rx:RelV x u) (ty:bc X.K H x t) (e:PySem.W.kitOne X.K t c=some b) (h:∀tk,Q (.bool b) { s with toks:=tk }) :
  wpAny (model X.prog X.w) A (call (.builtin "isinstance") [u,c]) Q E s:=by
 cases ty with
 | non=>cases (show u=Value.none from rx);exact PySem.W.kia_one PySem.W.kitx_none I.gU True.intro e (fun z=>nomatch z) h
 | bl y=>cases (show u=Value.bool y from rx);exact PySem.W.kia_one PySem.W.kitx_bool I.gU True.intro e (fun z=>nomatch z) h
 | int i=>obtain⟨t,q⟩:=(show ∃t,u=Value.int i t from rx);cases q;exact PySem.W.kia_one PySem.W.kitx_int I.gU True.intro e (fun z=>nomatch z) h
 | str y=>obtain⟨t,q⟩:=(show ∃t,u=Value.str y t from rx);cases q;exact PySem.W.kia_one PySem.W.kitx_str I.gU True.intro e (fun z=>nomatch z) h
 | flt y=>obtain⟨t,q⟩:=(show ∃t,u=Value.float y t from rx);cases q;exact PySem.W.kia_one PySem.W.kitx_float I.gU True.intro e (fun z=>nomatch z) h
 | @lst a xs ea=>
  cases (show u=Value.ref a from rx)
  obtain⟨_,_,n,_,h1⟩:=(show xk X.prog X.w H s.heap a (.lst xs) from I.jx a _ ea)
  exact PySem.W.kia_one PySem.W.kitx_list I.gU ⟨_,h1,rfl⟩ e (fun z=>nomatch z) h
 | @frz a ob xs ea=>
  cases (show u=Value.ref a from rx)
  obtain⟨_,_,_,n,_,h1⟩:=(show xk X.prog X.w H s.heap a (.frz ob (.lst xs)) from I.jx a _ ea)
  exact PySem.W.kia_one PySem.W.kitx_list I.gU ⟨_,h1,rfl⟩ e (fun z=>nomatch z) h
 | @tup a xs ea=>
  cases (show u=Value.ref a from rx)
  obtain⟨_,_,_,p⟩:=(show xk X.prog X.w H s.heap a (.tup xs) from I.jx a _ ea)
  obtain⟨o,h1,h2,_⟩:=p
  exact PySem.W.kia_one PySem.W.kitx_tuple I.gU ⟨o,h1,h2⟩ e (fun z=>nomatch z) h
 | @dK a kvs ea=>
  cases (show u=Value.ref a from rx)
  obtain⟨_,_,vs,_,p⟩:=(show xk X.prog X.w H s.heap a (.dK kvs) from I.jx a _ ea)
  obtain⟨o,es,ep,h1,h2,_⟩:=p
  exact PySem.W.kia_one PySem.W.kitx_dict I.gU ⟨o,h1,h2.1⟩ e (fun z=>nomatch z) h
 | @dT a kvs ea=>
  cases (show u=Value.ref a from rx)
  obtain⟨_,_,xs,_,o,es,ep,h1,h2,_⟩:=(show xk X.prog X.w H s.heap a (.dT kvs) from I.jx a _ ea)
  exact PySem.W.kia_one PySem.W.kitx_dict I.gU ⟨o,h1,h2.1⟩ e (fun z=>nomatch z) h
 | @ins a C dx fs ea cl ha hn GP hm=>
  cases (show u=Value.ref a from rx)
  obtain⟨mA,O,_⟩:=cA I.jx ea
  obtain⟨od,J,_⟩:=O.look
  exact PySem.W.kia_one (PySem.W.kitx_own (cl.get _) cl.hd ha hn GP hm) I.gU J e (fun z=>nomatch z) h
end
end L2
namespace L2
open PySem PySem.Spec PyProof.Rows
structure vq (k:Nat) (A:Around):Prop where
 hd:A.handled=none
 dp:A.depth + 3 * k + 5 < recursionLimit
 un:A.units + 16 * k + 200 < cLine
theorem vq.mono {j k:Nat} {A:Around} (r:vq k A) (h:j≤k):vq j A:=⟨r.hd,by have:=r.dp;omega,by have:=r.un;omega⟩
theorem vq.deeper {k:Nat} {A:Around} (r:vq (k + 1) A) (env:Env):vq k (A.deeper env):=
 ⟨r.hd,by have:=r.dp;show A.depth + 1 + 3 * k + 5 < _;omega,by have:=r.un;show A.units + 3 + 16 * k + 200 < _;omega⟩
theorem i6 {A:Around} {C:Addr} {us:List Value} {kw:List (Str × Value)}:(A.under (.builtin "type.__call__" ⟨.ref C :: us,kw⟩)).depth=A.depth + 1:=by
 first | rfl | simp [Around.under,Code.weight,Code.isCreation,Code.isGuard,Code.isCaller,Code.frames,Code.isFrame,guardIds]
theorem i7 {A:Around} {C:Addr} {us:List Value} {kw:List (Str × Value)}:(A.under (.builtin "type.__call__" ⟨.ref C :: us,kw⟩)).units=A.units + 1:=by
 first | rfl | simp [Around.under,Code.cUnits,Code.frames,Code.isFrame]
theorem vq.make {k:Nat} {A:Around} (r:vq (k + 1) A) (C:Addr) (us:List Value) (kw:List (Str × Value)):vq k (A.under (.builtin "type.__call__" ⟨.ref C :: us,kw⟩)):=
 ⟨r.hd,by have:=r.dp;rw[i6];omega,by have:=r.un;rw[i7];omega⟩
theorem vq.depth {k:Nat} {A:Around} (r:vq k A):A.depth < recursionLimit:=by have:=r.dp;omega
theorem vq.units {k:Nat} {A:Around} (r:vq k A):A.units + 64 < cLine:=by have:=r.un;omega
noncomputable def Yy:TA:=fun _ H Q=>Q [] H
noncomputable def Gm (ta:TE) (tr:TA):TA:=fun σ H Q=>ta σ H fun x H1=>tr σ H1 fun xs H2=>Q (x :: xs) H2
section
variable {X:Cx} {e:Expr} {es:List Expr} {te:TE} {t:TA} {pos:Pos}
theorem z7:PA X [] Yy:=fun _ _ _ _ H Q I h=>Calls.spliced_nil ⟨[],H,I,.nil,h⟩
theorem z0 (ha:PE X e te) (hr:PA X es t) (hs:starEach (e :: es) X.env=(false,eval e X.env) :: starEach es X.env:=by rfl):PA X (e :: es) (Gm te t):=by
 intro pos pins s σ H Q I h
 rw[hs]
 show wpAny _ _ (spliced ((false,eval e X.env) :: backTo pos (starEach es X.env))) _ _ s
 refine Calls.spliced_cons (xf (ha pins s σ H _ I h) fun u s1 ⟨x,H1,I1,r1,q1⟩=>?_)
 exact xf (hr pos pins s1 σ H1 _ I1 q1) fun us s2 ⟨xs,H2,I2,r2,q2⟩=>⟨x :: xs,H2,I2,.cons r1 r2,q2⟩
noncomputable def Bj (t:TA):TE:=fun σ H Q=>t σ H fun xs H1=>xs.length≤sizeLine∧∀p,H1 p=none→Q (.ref p) (upd H1 p (.tup xs))
noncomputable def HS (t:TA):TE:=fun σ H Q=>t σ H fun xs H1=>xs.length≤sizeLine∧∀p,H1 p=none→Q (.ref p) (upd H1 p (.lst xs))
theorem WM {x1} (h:PA X es t):PE X (.Tuple es x1 pos) (Bj t):=by
 intro pins s σ H Q I hq
 refine wpAny_Tuple_spliced (xf (h pos pins s σ H _ I hq) fun us s1 ⟨xs,H1,I1,r,z,q⟩=>⟨by rw[←r.length];exact z,?_⟩)
 have hf:H1 s1.heap.objs.size=none:=I1.jx.fresh (Nat.le_refl _)
 refine⟨.ref s1.heap.objs.size,upd H1 s1.heap.objs.size (.tup xs),I1.laid (t':=s1.toks) (fun b u e=>Heap.get?_push_of_some _ e) (Nat.le_refl _) ?_,rfl,q _ hf⟩
 exact⟨z,us,r,⟨_,Heap.get?_push_size _ rfl,rfl,_,rfl⟩⟩
theorem WH (h:PA X es t):PE X (.List es pos) (HS t):=by
 intro pins s σ H Q I hq
 refine wpAny_List_spliced (xf (h pos pins s σ H _ I hq) fun us s1 ⟨xs,H1,I1,r,z,q⟩=>⟨by rw[←r.length];exact z,?_⟩)
 have hf:H1 s1.heap.objs.size=none:=I1.jx.fresh (Nat.le_refl _)
 refine⟨.ref s1.heap.objs.size,upd H1 s1.heap.objs.size (.lst xs),I1.laid (t':=s1.toks) (fun b u e=>Heap.get?_push_of_some _ e) (Nat.le_refl _) ?_,rfl,q _ hf⟩
 exact⟨z,us,0,r,Heap.get?_push_size _ rfl⟩
end
noncomputable abbrev Sp:=List V→Hp→VK→XK→Prop
noncomputable abbrev rL:=List Env→Hp→Shared→XK→Value→Shared→Prop
structure nB (P:Program) (w:World) (K:PySem.W.Frag) (mg:Str→Option Value) (base:Heap) (A:Around) (outer:List Env) (s:Shared) (H:Hp):Prop where
 frames:A.frames=some outer
 mod:Mod K mg base
 bs:∀b o,base.get? b=some o→s.heap.get? b=some o∧H b=none
 ZY:base.objs.size≤s.heap.objs.size
 dU:s.heap.FunFrames base outer
 Vp:∀b∈sO outer,H b=none
 jx:bp P w H s.heap
 bare:AllBare s.gens
noncomputable def CE (outer:List Env) (P:Program) (w:World) (H:Hp) (s:Shared) (Q:VK) (u:Value) (s':Shared):Prop:=
 ∃v H',s'.os=s.os∧AllBare s'.gens∧Un (sO outer) [] H H' s.heap s'.heap∧bp P w H' s'.heap∧RelV v u∧Q v H'
noncomputable def CR (CX:rL) (outer:List Env) (P:Program) (w:World) (H:Hp) (s:Shared) (Q:VK) (E:XK) (r:Result) (s':Shared):Prop:=
 match r with
 | .ok (.ret u)=>CE outer P w H s Q u s'
 | .ok _=>False
 | .error e=>CX outer H s E e s'
structure qV (P:Program) (w:World) (K:PySem.W.Frag) (mg:Str→Option Value) (base:Heap) (CX:rL) (k:Nat) (f:Addr) (fd:FuncData) (ps:List Str) (sp:Sp):Prop where
 len:∀vs H Q E,sp vs H Q E→vs.length=ps.length
 run:∀(A:Around) (outer:List Env) (s:Shared) (H:Hp) (args:Args) (us:List Value) (vs:List V) (Q:VK) (E:XK),vq k A→nB P w K mg base A outer s H→BindsTo s fd args (ps.zip us)→Vals vs us→sp vs H Q E→
  codeAny (model P w) A (.call (.ref f) args) (CR CX outer P w H s Q E) s
theorem qV.mono {P:Program} {w:World} {K:PySem.W.Frag} {mg:Str→Option Value} {base:Heap} {CX:rL} {j k:Nat} {f:Addr} {fd:FuncData} {ps:List Str} {sp:Sp} (F:qV P w K mg base CX j f fd ps sp) (h:j≤k) :
  qV P w K mg base CX k f fd ps sp:=⟨F.len,fun A outer s H args us vs Q E hr=>F.run A outer s H args us vs Q E (hr.mono h)⟩
theorem nB.make {P:Program} {w:World} {K:PySem.W.Frag} {mg:Str→Option Value} {base:Heap} {A:Around} {outer:List Env} {s:Shared} {H:Hp} (e:nB P w K mg base A outer s H) (C:Addr) (us:List Value) (kw:List (Str × Value)) :
  nB P w K mg base (A.under (.builtin "type.__call__" ⟨.ref C :: us,kw⟩)) outer s H:=⟨by first | exact e.frames | (simpa [Around.under,Code.envs,Code.isFrame,pushEnvs] using e.frames),e.mod,e.bs,e.ZY,e.dU,e.Vp,e.jx,e.bare⟩
section
variable {X:Cx} {pins:List (Addr × Obj)} {σ:St} {H:Hp} {s s':Shared}
theorem Inv.X4 (I:Inv X pins σ H s):nB X.prog X.w X.K X.mg X.base X.A X.stack s H:=
 ⟨I.ok.frames,I.ok.mod,I.bs,Nat.le_trans I.ok.ZY I.sz,I.stack,I.fV,I.jx,I.bare⟩
theorem Inv.after {Q:VK} {u:Value} (I:Inv X pins σ H s) (h:CE X.stack X.prog X.w H s Q u s'):EP X pins σ Q u s':=by
 obtain⟨v,H',os,bare,un,jx,r,q⟩:=h
 obtain⟨hh,g,d,t,os'⟩:=s'
 obtain rfl:os'=s.os:=os
 exact⟨v,H',I.call (h':=hh) (g':=g) (d':=d) (t':=t) (ch:=[]) un jx bare (fun b z=>absurd z (by simp)),r,q⟩
end
noncomputable def Xu (sp:Sp) (dvs:List V) (E:XK) (t:TA):TE:=fun σ H Q=>t σ H fun vs H1=>sp (vs ++ dvs) H1 Q E
noncomputable def Bo (C:Addr) (m:Str) (sp:Sp) (dvs:List V) (E:XK) (ta:TE) (t:TA):TE:=fun σ H Q=>ta σ H fun x H1=>∃a dx fs,x=.ref a∧H1 a=some (.ins C dx fs)∧fs.lookup m=none∧
 t σ H1 fun vs H2=>sp (x :: (vs ++ dvs)) H2 Q E
noncomputable def VG (C:Addr) (sp:Sp) (dvs:List V) (E:XK) (t:TA):TE:=fun σ H Q=>t σ H fun vs H1=>∀x dx,H1 x=none→H1 dx=none→dx≠x→
 sp (.ref x :: (vs ++ dvs)) (upd (upd H1 dx (.own x)) x (.ins C dx [])) (fun v H2=>v=.non∧Q (.ref x) H2) E
noncomputable def Binds (K:PySem.W.Frag) (fd:FuncData) (ps:List Str) (ds:List Value):Prop:=
 ∀(s:Shared) (us:List Value),K.In s.heap→(us ++ ds).length=ps.length→BindsTo s fd ⟨us,[]⟩ (ps.zip (us ++ ds))
theorem Binds.all {K:PySem.W.Frag} {fd:FuncData} {ps:List Str} (h:∀us:List Value,us.length=ps.length→bindArgs fd ⟨us,[]⟩=pure (ps.zip us)):Binds K fd ps []:=fun s us _ hl=>by
 rw[List.append_nil] at hl ⊢
 exact .of_eq (h us hl)
noncomputable def Passes (CX:rL) (X:Cx) (E:XK):Prop:=∀(pins:List (Addr × Obj)) (σ:St) (H:Hp) (s:Shared) (e:Value) (s':Shared),Inv X pins σ H s→CX X.stack H s E e s'→X.xe e s'
section
variable {X:Cx} {CX:rL} {k:Nat} {f C:Addr} {fd:FuncData} {ps:List Str} {sp:Sp} {dvs:List V} {ds:List Value} {E:XK} {x m:Str} {p pos apos:Pos} {e o:Expr} {es:List Expr} {ta:TE} {t:TA}
theorem tI {pins:List (Addr × Obj)} {σ:St} {H:Hp} {s:Shared} {Q:VK} {us:List Value} {vs:List V} (F:qV X.prog X.w X.K X.mg X.base CX k f fd ps sp) (hr:vq k X.A) (hb:Binds X.K fd ps ds) (hd:Vals dvs ds) (hx:Passes CX X E)
  (I:Inv X pins σ H s) (r:Vals vs us) (h:sp (vs ++ dvs) H Q E):wpAny (model X.prog X.w) X.A (call (.ref f) us) (EP X pins σ Q) X.xe s:=by
 have r2:Vals (vs ++ dvs) (us ++ ds):=r.append hd
 have hl:(us ++ ds).length=ps.length:=by rw[←r2.length];exact F.len _ _ _ _ h
 refine wpAny_call (codeAny_mono (F.run X.A X.stack s H ⟨us,[]⟩ (us ++ ds) (vs ++ dvs) Q E hr I.X4 (hb s us I.gU hl) r2 h) fun r s' hq=>?_)
 cases r with
 | error e=>exact hx pins σ H s e s' I hq
 | ok fl=>
  cases fl with
  | ret u=>exact I.after hq
  | next=>exact False.elim hq
  | brk=>exact False.elim hq
  | cont=>exact False.elim hq
theorem qu (F:qV X.prog X.w X.K X.mg X.base CX k f fd ps sp) (hr:vq k X.A) (hg:Gl X x) (hm:X.mg x=some (.ref f)) (hk:PySem.W.keepIn X.K (.ref f)=true) (hb:Binds X.K fd ps ds) (hd:Vals dvs ds) (hx:Passes CX X E)
  (ha:PA X (e :: es) t) (hdb:(x == ("__debug__" : Str))=false:=by decide) (he:starEach (e :: es) X.env=(false,eval e X.env) :: starEach es X.env:=by rfl) (hpl:(backTo pos (starEach es X.env)).any (·.1)=false:=by rfl) :
  PE X (.Call (.Name x p) (e :: es) [] pos) (Xu sp dvs E t):=by
 intro pins s σ H Q I h
 refine wpAny_Call_Name_kw (gc I hg hm ?_ hdb)
 refine PySem.W.callWith_K (h₀:=X.base) I.ok.mod.QK hk (xf (ha pos pins s σ H _ I h) fun us s1 ⟨vs,H1,I1,r,q⟩=>⟨I1.gU,?_⟩) he hpl
 exact tI F hr hb hd hx I1 r q
structure Mk (K:PySem.W.Frag) (C f:Addr):Prop where
 makes:PySem.W.makesIn K C=true
 init:PySem.W.findIn K (.ref C) "__init__" = some (some (.ref f))
 fn:PySem.W.isFn K (.ref f)=true
 kp:PySem.W.keepIn K (.ref C)=true
theorem ip {pins:List (Addr × Obj)} {σ:St} {H:Hp} {s:Shared} {Q:VK} {us:List Value} {vs:List V} (M:Mk X.K C f) (F:qV X.prog X.w X.K X.mg X.base CX k f fd ps sp) (hr:vq (k + 1) X.A) (hb:Binds X.K fd ps ds) (hd:Vals dvs ds)
  (hx:Passes CX X E) (I:Inv X pins σ H s) (r:Vals vs us)
  (h:∀x dx,H x=none→H dx=none→dx≠x→sp (.ref x :: (vs ++ dvs)) (upd (upd H dx (.own x)) x (.ins C dx [])) (fun v H2=>v=.non∧Q (.ref x) H2) E) :
  wpAny (model X.prog X.w) X.A (call (.ref C) us) (EP X pins σ Q) X.xe s:=by
 have hq:=h (s.heap.objs.size + 1) s.heap.objs.size (I.jx.fresh (Nat.le_succ _)) (I.jx.fresh (Nat.le_refl _)) (Nat.ne_of_lt (Nat.lt_succ_self _))
 have I2:=Inv.made (C:=C) I
 have r2:Vals (V.ref (s.heap.objs.size + 1) :: (vs ++ dvs)) (Value.ref (s.heap.objs.size + 1) :: (us ++ ds)):=.cons rfl (r.append hd)
 have hl:(Value.ref (s.heap.objs.size + 1) :: us ++ ds).length=ps.length:=by
  have e:=r2.length
  rw[F.len _ _ _ _ hq] at e
  exact e.symm
 refine wpAny_call (Jn (f:=f) I.gU M.makes M.init (beq_iff_eq.mp M.fn) (codeAny_mono (F.run _ X.stack _ _ ⟨Value.ref (s.heap.objs.size + 1) :: us,[]⟩ (Value.ref (s.heap.objs.size + 1) :: (us ++ ds)) _ _ E (hr.make C us [])
  (I2.X4.make C us []) (hb _ (Value.ref (s.heap.objs.size + 1) :: us) I2.gU hl) r2 hq) fun r s' hq'=>?_))
 cases r with
 | error e=>exact hx pins σ _ _ e s' I2 hq'
 | ok fl=>
  cases fl with
  | ret u=>
   obtain⟨v,H',I3,rv,ev,q3⟩:=I2.after hq'
   subst ev
   exact⟨rv,⟨V.ref (s.heap.objs.size + 1),H',I3,rfl,q3⟩⟩
  | next=>exact False.elim hq'
  | brk=>exact False.elim hq'
  | cont=>exact False.elim hq'
theorem wN (M:Mk X.K C f) (F:qV X.prog X.w X.K X.mg X.base CX k f fd ps sp) (hr:vq (k + 1) X.A) (hg:Gl X x) (hm:X.mg x=some (.ref C)) (hb:Binds X.K fd ps ds) (hd:Vals dvs ds) (hx:Passes CX X E)
  (ha:PA X (e :: es) t) (hdb:(x == ("__debug__" : Str))=false:=by decide) (he:starEach (e :: es) X.env=(false,eval e X.env) :: starEach es X.env:=by rfl) (hpl:(backTo pos (starEach es X.env)).any (·.1)=false:=by rfl) :
  PE X (.Call (.Name x p) (e :: es) [] pos) (VG C sp dvs E t):=by
 intro pins s σ H Q I h
 refine wpAny_Call_Name_kw (gc I hg hm ?_ hdb)
 refine PySem.W.callWith_K (h₀:=X.base) I.ok.mod.QK M.kp (xf (ha pos pins s σ H _ I h) fun us s1 ⟨vs,H1,I1,r,q⟩=>⟨I1.gU,?_⟩) he hpl
 exact ip M F hr hb hd hx I1 r q
theorem JS (M:Mk X.K C f) (F:qV X.prog X.w X.K X.mg X.base CX k f fd ps sp) (hr:vq (k + 1) X.A) (hg:Gl X x) (hm:X.mg x=some (.ref C)) (hb:Binds X.K fd ps ds) (hd:Vals dvs ds) (hx:Passes CX X E)
  (hdb:(x == ("__debug__" : Str))=false:=by decide):PE X (.Call (.Name x p) [] [] pos) (VG C sp dvs E Yy):=by
 intro pins s σ H Q I h
 refine wpAny_Call_Name_kw (gc I hg hm ?_ hdb)
 exact PySem.W.callWith_K0 I.gU M.kp (ip (us:=[]) M F hr hb hd hx I .nil h)
end
noncomputable def PK (X:Cx) (kws:List Keyword) (t:TA):Prop:=
 ∀(pos:Pos) (pins:List (Addr × Obj)) (s:Shared) (σ:St) (H:Hp) (Q:List V→Hp→Prop),Inv X pins σ H s→t σ H Q→wpAny (model X.prog X.w) X.A (evalAll ((backToKw pos (keywordEach kws X.env)).map (·.2))) (AP X pins σ Q) X.xe s
section
variable {X:Cx} {CX:rL} {k:Nat} {f C:Addr} {fd:FuncData} {ps ks:List Str} {sp:Sp} {E:XK} {x m:Str} {p pos apos kpos:Pos} {e o:Expr} {es:List Expr} {kws:List Keyword} {te ta:TE} {t tk:TA} {nm:Option Str}
structure G6 (K:PySem.W.Frag) (fd:FuncData) (ps ks:List Str) (g:List Value→List Value→List Value) (gV:List V→List V→List V):Prop where
 to:∀(s:Shared) (us ws:List Value),K.In s.heap→(g us ws).length=ps.length→BindsTo s fd ⟨us,ks.zip ws⟩ (ps.zip (g us ws))
 rel:∀{vs:List V} {us:List Value} {zs:List V} {ws:List Value},Vals vs us→Vals zs ws→Vals (gV vs zs) (g us ws)
noncomputable def HH (sp:Sp) (gV:List V→List V→List V) (E:XK) (t tk:TA):TE:=fun σ H Q=>t σ H fun vs H1=>tk σ H1 fun zs H2=>sp (gV vs zs) H2 Q E
variable {g:List Value→List Value→List Value} {gV:List V→List V→List V}
end
structure qX (N P:List Str) (sc:Scope):Prop where
 kind:sc.kind=.function
 co:sc.isCoroutine=false
 gen:sc.isGenerator=false
 nd:N.Nodup
 pre:N.take P.length=P
 par:∀x∈P,sc.names.lookup x=some .local∨sc.names.lookup x=some .cell
 Wa:∀y∈sc.names,y.2≠.free
theorem lW {kindOf:Str→Option NameKind} {x:Str}:∀{binds:List (Str × Value)} {m:Str→Option Value},(∀v,(x,v)∉binds)→bindL kindOf binds m x=m x
 | [],_,_=>rfl
 | (n,v) :: r,m,h=>by
  unfold bindL
  rw[lW fun w hw=>h w (List.mem_cons_of_mem _ hw)]
  split
  ·have:x≠n:=by rintro rfl;exact h v List.mem_cons_self
   simp [this]
  ·rfl
theorem lK {kindOf:Str→Option NameKind} {x:Str}:∀{binds:List (Str × Value)} {m:Str→Option Value},(∀v,(x,v)∉binds)→bindC kindOf binds m x=m x
 | [],_,_=>rfl
 | (n,v) :: r,m,h=>by
  unfold bindC
  rw[lK fun w hw=>h w (List.mem_cons_of_mem _ hw)]
  split
  ·rfl
  ·have:x≠n:=by rintro rfl;exact h v List.mem_cons_self
   simp [this]
theorem lV {kindOf:Str→Option NameKind} {x:Str} {v:Value}:∀{P:List Str} {vs:List Value} {i:Nat} {m:Str→Option Value},P.Nodup→P[i]?=some x→vs[i]?=some v→kindOf x=some .local→
  bindL kindOf (P.zip vs) m x=some v
 | [],_,_,_,_,h,_,_=>by simp at h
 | _ :: _,[],_,_,_,_,h,_=>by simp at h
 | p :: P,w :: vs,0,m,nd,h1,h2,hk=>by
  simp at h1 h2;subst h1;subst h2
  show bindL kindOf ((p,w) :: P.zip vs) m p=_
  unfold bindL
  rw[lW fun v hv=>(List.nodup_cons.mp nd).1 (List.of_mem_zip hv).1,if_pos hk]
  simp
 | p :: P,w :: vs,i + 1,m,nd,h1,h2,hk=>by
  show bindL kindOf ((p,w) :: P.zip vs) m x=_
  unfold bindL
  exact lV (i:=i) (List.nodup_cons.mp nd).2 (by simpa using h1) (by simpa using h2) hk
theorem lX {kindOf:Str→Option NameKind} {x:Str} {v:Value}:∀{P:List Str} {vs:List Value} {i:Nat} {m:Str→Option Value},P.Nodup→P[i]?=some x→vs[i]?=some v→kindOf x≠some .local→
  bindC kindOf (P.zip vs) m x=some v
 | [],_,_,_,_,h,_,_=>by simp at h
 | _ :: _,[],_,_,_,_,h,_=>by simp at h
 | p :: P,w :: vs,0,m,nd,h1,h2,hk=>by
  simp at h1 h2;subst h1;subst h2
  show bindC kindOf ((p,w) :: P.zip vs) m p=_
  unfold bindC
  rw[lK fun v hv=>(List.nodup_cons.mp nd).1 (List.of_mem_zip hv).1,if_neg hk]
  simp
 | p :: P,w :: vs,i + 1,m,nd,h1,h2,hk=>by
  show bindC kindOf ((p,w) :: P.zip vs) m x=_
  unfold bindC
  exact lX (i:=i) (List.nodup_cons.mp nd).2 (by simpa using h1) (by simpa using h2) hk
noncomputable def start (N:List Str) (vs:List V):St:=vs.map some ++ List.replicate (N.length - vs.length) none
noncomputable def sL (CX:rL) (P:Program) (w:World) (K:PySem.W.Frag) (mg:Str→Option Value) (base:Heap) (N:List Str) (qual:Str) (scope:Scope) (f:Addr) (cd:Value) (A:Around) (outer:List Env) (s:Shared) (H:Hp) (E:XK):Cx where
 prog:=P
 w:=w
 K:=K
 mg:=mg
 base:=base
 A:=A.deeper (envOfC qual scope s.heap.objs.size f cd)
 N:=N
 s₀:=s
 H₀:=H
 env:=envOfC qual scope s.heap.objs.size f cd
 outer:=outer
 stack:=envOfC qual scope s.heap.objs.size f cd :: outer
 ex:=[]
 calm:=true
 fn:=fun _=>true
 pn:=[]
 xe:=fun e s'=>wpAny (model P w) (A.deeper (envOfC qual scope s.heap.objs.size f cd)) (leaving (envOfC qual scope s.heap.objs.size f cd) e) (fun _ s''=>CX outer H s E e s'') (fun e' s''=>CX outer H s E e' s'') s'
theorem nS {sc:Scope} {n:Nat} {x:Str} (h:sc.names.lookup x=some .cell):∃c,(cellsFrom n sc.names []).lookup x=some c:=by
 have q:=PySem.W.cellsFrom_some sc.names n [] (.inl h)
 exact Option.isSome_iff_exists.mp q
theorem ZS {CX:rL} {P:Program} {w:World} {K:PySem.W.Frag} {mg:Str→Option Value} {base:Heap} {N ps:List Str} {qual:Str} {scope:Scope} {f:Addr} {cd:Value} {A:Around} {outer:List Env} {s s1:Shared} {H:Hp} {E:XK} {us:List Value} {vs:List V}
  (S:qX N ps scope) (hd:A.handled=none) (e0:nB P w K mg base A outer s H) (hl:vs.length=ps.length) (r:Vals vs us)
  (x:InCallC s s.heap.objs.size (bindL (envOfC qual scope s.heap.objs.size f cd).kindOf (ps.zip us) fun _=>none) (cellsFrom (s.heap.objs.size + 1) scope.names []) (bindC (envOfC qual scope s.heap.objs.size f cd).kindOf (ps.zip us) fun _=>none) s1) :
  Inv (sL CX P w K mg base N qual scope f cd A outer s H E) [] (start N vs) H s1:=by
 have hpl:ps.length≤N.length:=by have:=congrArg List.length S.pre;rw[List.length_take] at this;omega
 obtain⟨h1,tk,rfl,hk⟩:=x.done
 have noA:∀b:Addr,b∉(sL CX P w K mg base N qual scope f cd A outer s H E).ex:=fun b z=>absurd (show b∈([]:List Addr) from z) (by simp)
 refine⟨⟨e0.mod,S.kind,rfl,rfl,Nat.le_refl _,fun y z c h1 h2=>?_,fun y hy=>?_,fun y c _ h=>?_,fun _=>hd,Around.frames_deeper e0.frames,.inr ⟨rfl,rfl⟩,fun b z=>absurd z (noA b),e0.bs,e0.ZY,fun b _ _=>noA b,fun b z=>absurd z (noA b),e0.dU,e0.Vp⟩,
  rfl,e0.bare,Un.kept hk,⟨_,x.toInCall.ns,fun i y v h1 h2 h3=>?_⟩,fun y c h=>⟨_,x.cell y c h⟩,e0.jx.fresh (Nat.le_refl _),fun y c h=>?_,fun p hp=>absurd (show p∈([]:List (Addr × Obj)) from hp) (by simp),e0.jx.kept hk,?_⟩
 ·exact name_of_addr x.apart (PySem.mem_of_lookup h1) (PySem.mem_of_lookup h2)
 ·have hy:scope.names.lookup y=some .cell∨scope.names.lookup y=some .free:=hy
  rcases hy with hy | hy
  ·exact nS hy
  ·exact absurd rfl (S.Wa _ (PySem.mem_of_lookup hy))
 ·exact Nat.le_of_lt (x.above y c (PySem.mem_of_lookup h))
 ·have hi:i < vs.length:=by
   unfold start at h2
   by_cases hi:i < vs.length
   ·exact hi
   ·rw[List.getElem?_append_right (by simpa using hi)] at h2
    rw[List.getElem?_replicate] at h2
    split at h2<;>cases h2
  have ha:vs[i]?=some v:=by
   unfold start at h2
   rw[List.getElem?_append_left (by simpa using hi),List.getElem?_map] at h2
   cases e:vs[i]? with
   | none=>rw[e] at h2;cases h2
   | some a=>rw[e] at h2;cases h2;rfl
  obtain⟨u,hu,rv⟩:=r.get ha
  have hp:ps[i]?=some y:=by
   rw[←S.pre,List.getElem?_take_of_lt (by omega)];exact h1
  have ndP:ps.Nodup:=by rw[←S.pre];exact S.nd.sublist (List.take_sublist _ _)
  refine⟨u,rv,?_⟩
  rcases S.par y (List.mem_of_getElem? hp) with k | k
  ·exact .inl ⟨k,lV ndP hp hu k⟩
  ·obtain⟨c,e⟩:=nS (n:=s.heap.objs.size + 1) k
   refine .inr ⟨.inl k,c,e,?_⟩
   have q:=x.cell y c e
   rw[lX ndP hp hu (by show scope.names.lookup y≠_;rw[k];decide)] at q
   exact q
 ·exact e0.jx.fresh (Nat.le_of_lt (x.above y c (PySem.mem_of_lookup h)))
 ·unfold start
  show _=N.length
  rw[List.length_append,List.length_map,List.length_replicate]
  omega
theorem Vb {CX:rL} {P:Program} {w:World} {K:PySem.W.Frag} {mg:Str→Option Value} {base:Heap} {k:Nat} {f:Addr} {name qual:Str} {params:Arguments} {body:List Stmt} {scope:Scope} {dV kV doc pm cdv ct oc:Value} {an od:Option Addr}
  {osl:Array (Option Value)} {N ps:List Str} {sp:Sp} (lk:K.lookup f=some ⟨oc,od,.func (PySem.W.fnOf name qual params body scope dV kV doc pm an cdv ct),osl⟩) (hcd:PySem.W.codeIn K cdv qual=true) (S:qX N ps scope)
  (len:∀vs H Q E,sp vs H Q E→vs.length=ps.length)
  (hbody:∀(A:Around) (outer:List Env) (s:Shared) (H:Hp) (vs:List V) (Q:VK) (E:XK),vq k (A.deeper (envOfC qual scope s.heap.objs.size f cdv))→sp vs H Q E→
   ∃t,iP (sL CX P w K mg base N qual scope f cdv A outer s H E) body t∧t { nx:=fun _ H'=>Q .non H',rt:=Q } (start N vs) H) :
  qV P w K mg base CX (k + 1) f (PySem.W.fnOf name qual params body scope dV kV doc pm an cdv ct) ps sp:=by
 refine⟨len,fun A outer s H args us vs Q E hr e0 hb r hsp=>?_⟩
 have hl:=len _ _ _ _ hsp
 have KX:K.In s.heap:=e0.mod.QK.keeps fun b o e=>(e0.bs b o e).1
 have lim:s.heap.NoLimit:=e0.mod.nolimit.keeps fun b o e=>(e0.bs b o e).1
 have hkind:∀y∈ps.zip us,scope.names.lookup y.1=some .local∨(scope.names.lookup y.1=some .cell∧((cellsFrom (s.heap.objs.size + 1) scope.names []).lookup y.1).isSome=true):=fun ⟨n,v⟩ hy=>by
  rcases S.par n (List.of_mem_zip hy).1 with q | q
  ·exact .inl q
  ·exact .inr ⟨q,PySem.W.cellsFrom_some _ _ _ (.inl q)⟩
 refine codeAny_call_function hr.depth (KX _ _ lk) rfl S.co S.gen rfl (PySem.W.codeRec_of KX hcd) (hb _ _ _ _ ?_)
 refine wpAny_newFunctionEnv_cells S.kind hkind fun env he s1 x=>?_
 subst he
 refine⟨lim.keeps x.toInCall.keep,codeAny_func ?_⟩
 obtain⟨t,ht,hq⟩:=hbody A outer s H vs Q E (hr.deeper _) hsp
 have I:Inv (sL CX P w K mg base N qual scope f cdv A outer s H E) [] (start N vs) H s1:=ZS S hr.hd e0 hl r x
 refine wpAny_mono (ht [] s1 (start N vs) H _ I hq) (fun fl s' hs=>?_) fun e s' hs=>hs
 have fin:∀{σ':St} {H':Hp} {v:V} {u:Value},Inv (sL CX P w K mg base N qual scope f cdv A outer s H E) [] σ' H' s'→RelV v u→Q v H'→CE outer P w H s Q u s':=
  fun {σ' H' v u} J rv q=>⟨v,H',J.os,J.bare,J.base,J.jx,rv,q⟩
 cases fl with
 | ret u=>
  obtain⟨v,σ',H',J,rv,q⟩:=hs
  exact fin J rv q
 | next=>
  obtain⟨σ',H',J,q⟩:=hs
  exact fin (v:=V.non) (u:=Value.none) J rfl q
 | brk=>
  obtain⟨_,_,_,q⟩:=hs
  exact False.elim q
 | cont=>
  obtain⟨_,_,_,q⟩:=hs
  exact False.elim q
end L2
namespace L2
open PySem PySem.Spec PyProof.Rows
section
variable {X:Cx} {x:Str} {p pos:Pos} {e:Expr} {es:List Expr} {t:TA} {id T:String} {r:List V→Hp→VK→Prop}
noncomputable def Bl (r:List V→Hp→VK→Prop) (t:TA):TE:=fun σ H Q=>t σ H fun vs H1=>r vs H1 Q
theorem qi (hc:vw X (.builtin id) r) (hg:Gl X x) (hm:X.mg x=none) (hv:bootBuiltins x=some (.builtin id)) (ha:PA X (e :: es) t) (hn:x≠"__name__":=by decide) (hdb:(x == ("__debug__" : Str))=false:=by decide)
  (he:starEach (e :: es) X.env=(false,eval e X.env) :: starEach es X.env:=by rfl) (hpl:(backTo pos (starEach es X.env)).any (·.1)=false:=by rfl):PE X (.Call (.Name x p) (e :: es) [] pos) (Bl r t):=by
 intro pins s σ H Q I h
 refine wpAny_Call_Name_kw (dS I hg hm hv ?_ hn hdb)
 exact PyProof.Rows.callWith_builtin1 (xf (ha pos pins s σ H _ I h) fun us s1 ⟨vs,H1,I1,r1,q1⟩=>hc pins s1 σ H1 vs us Q I1 r1 q1) he hpl
theorem j0 (hc:vw X (.type T) r) (hg:Gl X x) (hm:X.mg x=none) (hv:bootBuiltins x=some (.type T)) (ha:PA X (e :: es) t) (hn:x≠"__name__":=by decide) (hdb:(x == ("__debug__" : Str))=false:=by decide)
  (he:starEach (e :: es) X.env=(false,eval e X.env) :: starEach es X.env:=by rfl) (hpl:(backTo pos (starEach es X.env)).any (·.1)=false:=by rfl):PE X (.Call (.Name x p) (e :: es) [] pos) (Bl r t):=by
 intro pins s σ H Q I h
 refine wpAny_Call_Name_kw (dS I hg hm hv ?_ hn hdb)
 exact PyProof.Rows.callWith_type1 (xf (ha pos pins s σ H _ I h) fun us s1 ⟨vs,H1,I1,r1,q1⟩=>hc pins s1 σ H1 vs us Q I1 r1 q1) he hpl
end
end L2
namespace HT
open PySem PyProof.Rows
noncomputable def lexLt:List Int→List Int→Bool
 | [],[]=>false
 | [],_ :: _=>true
 | _ :: _,[]=>false
 | x :: xs,y :: ys=>if x=y then lexLt xs ys else decide (x < y)
section
open PySem.SeqAt
open PySem.AutoSeq1 (wpAny_loadPart')
open PySem.MeetsSeq PySem.MeetsSeq2 PySem.MeetsSeq3
end
section
variable {prog:Program} {w:World} {A:Around} {E:Value→Shared→Prop} {s:Shared}
theorem X0 {t b:Addr} {vs ws:List Value} {Q:Value→Shared→Prop} (ht:IsTup s.heap t vs.toArray) (hb:IsTup s.heap b ws.toArray) (hv:vs≠[])
  (h1:ws=[]→Q (.ref t) s) (h2:ws≠[]→Q (.ref s.heap.objs.size) { s with heap:=s.heap.push { cls:=.type "tuple",data:=.seq (vs ++ ws).toArray } })
  (hsz:vs.length + ws.length≤sizeLine):wpAny (model prog w) A (binaryOp .Add (.ref t) (.ref b)) Q E s:=by
 obtain⟨⟨cls,dd,data,sl⟩,ho,hc,n,hd⟩:=id ht
 obtain⟨⟨cls2,dd2,data2,sl2⟩,ho2,hc2,n2,hd2⟩:=id hb
 simp only at hc hd hc2 hd2
 subst hc hd hc2 hd2
 have e:vs.toArray ++ ws.toArray=(vs ++ ws).toArray:=by simp
 by_cases hw:ws=[]
 ·exact concat_meets ⟨_,ho,rfl⟩ ⟨_,ho2,rfl⟩ noFill_tuple_add seq_tuple_add PySem.F.slot_tuple_add PySem.F.entry_tuple_add (PySem.F.args_tuple_add_2 _ _)
   (tuple_addW1 t b vs.toArray ws.toArray n n2 dd dd2 sl sl2 (by simpa using hv) (by simp [hw])) ⟨ho,ho2,h1 hw⟩
 ·refine concat_meets ⟨_,ho,rfl⟩ ⟨_,ho2,rfl⟩ noFill_tuple_add seq_tuple_add PySem.F.slot_tuple_add PySem.F.entry_tuple_add (PySem.F.args_tuple_add_2 _ _)
   (tuple_addW2 t b vs.toArray ws.toArray n n2 dd dd2 sl sl2 (by simpa using hv) (by simpa using hw) (by rw[List.size_toArray,List.size_toArray];exact hsz)) ⟨ho,ho2,?_⟩
  rw[e]
  exact h2 hw
noncomputable def vF (n d:Nat):Option Int→Nat
 | none=>d
 | some v=>if v < 0 then (v + (n:Int)).toNat else min v.toNat n
theorem ic (n d:Nat):vF n d none=d:=rfl
theorem fX (n d k:Nat):vF n d (some (k:Int))=min k n:=by
 show (if (k:Int) < 0 then ((k:Int) + (n:Int)).toNat else min (k:Int).toNat n)=min k n
 rw[if_neg (by omega),Int.toNat_natCast]
theorem W7 (n d:Nat) (hd:d≤n) (o:Option Int):vF n d o≤n:=by
 cases o with
 | none=>exact hd
 | some v=>
  show (if v < 0 then (v + (n:Int)).toNat else min v.toNat n)≤n
  by_cases hv:v < 0
  ·rw[if_pos hv];omega
  ·rw[if_neg hv];exact Nat.min_le_right _ _
theorem aW (v:Int) (n d:Nat):(if v < 0 then max (v + (n:Int)) 0 else min v (n:Int))=((vF n d (some v):Nat):Int):=by
 show (if v < 0 then max (v + (n:Int)) 0 else min v (n:Int))=(((if v < 0 then (v + (n:Int)).toNat else min v.toNat n):Nat):Int)
 by_cases hv:v < 0
 ·simp only[if_pos hv];omega
 ·simp only[if_neg hv];omega
theorem iF (lo hi:Option Int) (n:Nat):Builtin.Slice.sliceAdjust lo hi 1 (n:Int)=(((vF n 0 lo:Nat):Int),((vF n n hi:Nat):Int)):=by
 have h1:¬((1:Int) < 0):=by omega
 unfold Builtin.Slice.sliceAdjust
 simp only[h1,if_false]
 refine Prod.ext ?_ ?_
 ·cases lo with
  | none=>rfl
  | some v=>exact aW v n 0
 ·cases hi with
  | none=>rfl
  | some v=>exact aW v n n
theorem eJ (i j:Nat):Builtin.Slice.slicePlaces (i:Int) (j:Int) 1=j - i:=by
 unfold Builtin.Slice.slicePlaces
 have h1:(1:Int) > 0:=by omega
 simp only[h1,if_true,Int.ediv_one]
 split<;>omega
theorem rK {v:Value} {o:Option Int} {Q:Option Int→Shared→Prop} (p:IsPart v o) (h:Q o s):wpAny (model prog w) A (Builtin.Slice.slicePartIndex v) Q E s:=by
 cases p with
 | none=>exact slicePart_none h
 | int i t=>exact slicePart_int h
theorem d7 {sl:Addr} {vl vu:Value} {lo hi:Option Int} {n:Nat} {Q:Int × Int × Nat→Shared→Prop} (hs:s.heap.IsSliceOf sl vl vu .none) (pl:IsPart vl lo) (pu:IsPart vu hi)
  (h:Q (((vF n 0 lo:Nat):Int),1,vF n n hi - vF n 0 lo) s):wpAny (model prog w) A (Builtin.Slice.sliceApplied (.ref sl) (pure (n:Int))) Q E s:=by
 obtain⟨os,hos,hcs,hds⟩:=id hs
 unfold Builtin.Slice.sliceApplied Builtin.Slice.sliceFields
 refine wpAny_bind (wpAny_bind (wpAny_field hos hds (x:=vl) rfl (wpAny_bind (wpAny_field hos hds (x:=vu) rfl (wpAny_bind (wpAny_field hos hds (x:=.none) rfl (wpAny_pure ?_)))))))
 refine wpAny_bind (slicePart_none ?_)
 show wpAny _ _ (if ((1:Int) == 0)=true then _ else _) _ _ s
 rw[if_neg (by decide)]
 refine wpAny_bind (rK pl (wpAny_bind (rK pu (wpAny_bind (wpAny_pure ?_)))))
 show wpAny _ _ (match Builtin.Slice.sliceAdjust lo hi 1 (n:Int) with | (lo,hi)=>pure (lo,(1:Int),Builtin.Slice.slicePlaces lo hi 1)) _ _ s
 rw[iF lo hi n]
 show wpAny _ _ (pure (((vF n 0 lo:Nat):Int),(1:Int),Builtin.Slice.slicePlaces ((vF n 0 lo:Nat):Int) ((vF n n hi:Nat):Int) 1)) _ _ s
 rw[eJ]
 exact wpAny_pure h
theorem JN (xs:Array Value) (i k:Nat):((List.range k).filterMap fun (m:Nat)=>xs[((i:Int) + (m:Int) * 1).toNat]?).toArray=((xs.toList.drop i).take k).toArray:=by
 have e:(fun (m:Nat)=>xs[((i:Int) + (m:Int) * 1).toNat]?)=fun m=>xs[i + m]?:=by
  funext m
  have:((i:Int) + (m:Int) * 1).toNat=i + m:=by omega
  rw[this]
 rw[e]
 have:=pick_run xs i k
 rw[List.filterMap_map] at this
 have e2:((fun x=>xs[x]?) ∘ fun x=>i + x)=fun m=>xs[i + m]?:=rfl
 rw[e2] at this
 rw[this]
theorem mI {t sl:Addr} {items:Array Value} {vl vu:Value} {lo hi:Option Int} {Q:Value→Shared→Prop} (ht:IsTup s.heap t items) (hs:s.heap.IsSliceOf sl vl vu .none) (pl:IsPart vl lo) (pu:IsPart vu hi)
  (hw:¬(vF items.size 0 lo=0∧vF items.size items.size hi=items.size))
  (h:Q (.ref s.heap.objs.size) { s with heap:=s.heap.push { cls:=.type "tuple",data:=.seq ((items.toList.drop (vF items.size 0 lo)).take (vF items.size items.size hi - vF items.size 0 lo)).toArray } })
  (hsz:items.size≤sizeLine):wpAny (model prog w) A (getItem (.ref t) (.ref sl)) Q E s:=by
 have htake:sizeOk (.seq ((items.toList.drop (vF items.size 0 lo)).take (vF items.size items.size hi - vF items.size 0 lo)).toArray):=by
  show ((items.toList.drop (vF items.size 0 lo)).take (vF items.size items.size hi - vF items.size 0 lo)).toArray.size≤sizeLine
  rw[List.size_toArray,List.length_take,List.length_drop,Array.length_toList]
  omega
 have hj:vF items.size items.size hi≤items.size:=W7 _ _ (Nat.le_refl _) hi
 obtain⟨os,hos,hcs,hds⟩:=id hs
 have hTs:s.TypeIs (.ref sl) "slice":=⟨os,hos,hcs⟩
 unfold getItem
 try with_reducible refine wpAny_holding ?_
 first | refine wpAny_bind (wpAny_pure ?_) | skip
 refine wpAny_bind (wpAny_sequenceKey ht.typeIs (by decide) ?_)
 refine wpAny_bind (wpAny_callSpecial?_slot (name:=Str.ofString "__getitem__") ht.typeIs PyProof.Rows.slot_tuple_getitem
  (wpAny_call_entry PyProof.Rows.slot_tuple_getitem ht.typeIs entry_tuple_getitem ?_ (args_tuple_getitem _ _)))
 show wpAny _ _ (Builtin.Tuple.tupleItemsOf (.ref t) >>= _) _ _ s
 refine wpAny_bind (tupleItemsOf_ ht ?_)
 refine wpAny_bind (wpAny_typeOf hTs ?_)
 rw[if_pos (by decide)]
 refine wpAny_bind (d7 hs pl pu ?_)
 have hno:¬((((vF items.size 0 lo:Nat):Int) == 0 && (1:Int) == 1 && (vF items.size items.size hi - vF items.size 0 lo) == items.size)=true):=by
  intro q
  rw[Bool.and_eq_true,Bool.and_eq_true] at q
  have q1:((vF items.size 0 lo:Nat):Int)=0:=eq_of_beq q.1.1
  have q2:vF items.size items.size hi - vF items.size 0 lo=items.size:=eq_of_beq q.2
  exact hw ⟨by omega,by omega⟩
 show wpAny _ _ (if (((vF items.size 0 lo:Nat):Int) == 0 && (1:Int) == 1 && (vF items.size items.size hi - vF items.size 0 lo) == items.size)=true then _ else _) _ _ s
 rw[if_neg hno,JN]
 first
  | exact wpAny_bind (m:=Builtin.Tuple.tupleExact _) (wpAny_newObj_type (wpAny_pure ⟨_,rfl,wpAny_pure h⟩) htake)
  | exact wpAny_bind (m:=Builtin.Tuple.tupleExact _) (wpAny_newObj_type (wpAny_bind (wpAny_pure (wpAny_pure ⟨_,rfl,wpAny_pure h⟩))) htake)
  | exact wpAny_bind (wpAny_bind (m:=Builtin.Tuple.tupleExact _) (wpAny_newObj_type (wpAny_pure (wpAny_pure ⟨_,rfl,wpAny_pure h⟩)) htake))
  | exact wpAny_bind (wpAny_bind (m:=Builtin.Tuple.tupleExact _) (wpAny_newObj_type (wpAny_pure ⟨_,rfl,wpAny_pure h⟩) htake))
end
end HT
namespace L2
open PySem PySem.Spec PyProof.Rows
noncomputable abbrev TO:=St→Hp→(Option Int→Hp→Prop)→Prop
noncomputable def PO (X:Cx) (e:Option Expr) (t:TO):Prop:=
 ∀(pins:List (Addr × Obj)) (s:Shared) (σ:St) (H:Hp) (Q:Option Int→Hp→Prop),Inv X pins σ H s→t σ H Q→
  wpAny (model X.prog X.w) X.A (evalPart e X.env) (fun u s'=>∃o H',Inv X pins σ H' s'∧IsPart u o∧Q o H') X.xe s
noncomputable def K2:TO:=fun _ H Q=>Q none H
noncomputable def Gs (t:TE):TO:=fun σ H Q=>t σ H fun x H1=>∃i,x=.int i∧Q (some i) H1
section
variable {X:Cx} {e:Expr} {te:TE} {lo hi:Option Expr} {tl th:TO} {pos p2:Pos}
theorem vt:PO X none K2:=by
 intro pins s σ H Q I h
 rw[evalPart_none]
 exact wpAny_pure ⟨none,H,I,.none,h⟩
theorem xp (h:PE X e te):PO X (some e) (Gs te):=by
 intro pins s σ H Q I hw
 rw[evalPart_some]
 refine xf (h pins s σ H _ I hw) fun u s1 ⟨x,H1,I1,r1,q1⟩=>?_
 obtain⟨i,rfl,q⟩:=q1
 obtain⟨t,rfl⟩:=r1
 exact⟨some i,H1,I1,.int i t,q⟩
noncomputable def XF (X:Cx) (r:V→Option Int→Option Int→Hp→VK→Prop):Prop:=
 ∀(pins:List (Addr × Obj)) (s:Shared) (σ:St) (H:Hp) (x:V) (v vl vu:Value) (lo hi:Option Int) (sl:Addr) (Q:VK),Inv X pins σ H s→RelV x v→s.heap.IsSliceOf sl vl vu .none→IsPart vl lo→IsPart vu hi→r x lo hi H Q→
  ∃T id,typeLookup (.type T) "__getitem__" = pure (some (.builtin id))∧s.TypeIs v T∧wpAny (model X.prog X.w) X.A (getItem v (.ref sl)) (EP X pins σ Q) X.xe s
noncomputable def Pj (r:V→Option Int→Option Int→Hp→VK→Prop) (te:TE) (tl th:TO):TE:=fun σ H Q=>te σ H fun x H1=>tl σ H1 fun l H2=>th σ H2 fun u H3=>r x l u H3 Q
theorem xg {r:V→Option Int→Option Int→Hp→VK→Prop} (hr:XF X r) (he:PE X e te) (hl:PO X lo tl) (hu:PO X hi th):PE X (.Subscript e (.Slice lo hi none p2) pos) (Pj r te tl th):=by
 intro pins s σ H Q I h
 refine Subscript_ (xf (he pins s σ H _ I h) fun v s1 ⟨x,H1,I1,r1,q1⟩=>?_)
 refine wpAny_Slice (xf (hl pins s1 σ H1 _ I1 q1) fun vl s2 ⟨l,H2,I2,pl,q2⟩=>xf (hu pins s2 σ H2 _ I2 q2) fun vu s3 ⟨u,H3,I3,pu,q3⟩=>?_)
 rw[evalPart_none]
 refine wpAny_pure ?_
 have I4:Inv X pins σ H3 { s3 with heap:=s3.heap.push { cls:=.type "slice",data:=.fields #[vl,vu,.none] } }:=I3.kept (t':=s3.toks) fun b ob q=>Heap.get?_push_of_some _ q
 obtain⟨T,id,hT,ht,hg⟩:=hr pins { s3 with heap:=s3.heap.push { cls:=.type "slice",data:=.fields #[vl,vu,.none] } } σ H3 x v vl vu l u s3.heap.objs.size Q I4 r1 (Heap.IsSliceOf.new ..) pl pu q3
 show wpAny (model X.prog X.w) X.A (subscriptTail e (.Slice lo hi none p2) v (.ref s3.heap.objs.size)) (EP X pins σ Q) X.xe { s3 with heap:=s3.heap.push { cls:=.type "slice",data:=.fields #[vl,vu,.none] } }
 exact tail_any (ops:=[.ref s3.heap.objs.size,v]) ht hT hg (by with_unfolding_all rfl)
noncomputable def yM (xs:List V) (lo hi:Option Int):List V:=(xs.drop (HT.vF xs.length 0 lo)).take (HT.vF xs.length xs.length hi - HT.vF xs.length 0 lo)
theorem cw (xs:List V) (lo hi:Option Int):(yM xs lo hi).length≤xs.length:=by
 unfold yM
 rw[List.length_take,List.length_drop]
 omega
noncomputable def HK (K:PySem.W.Frag):V→Option Int→Option Int→Hp→VK→Prop:=fun x lo hi H Q=>∃a xs,x=.ref a∧yc K H a xs∧
 ¬(HT.vF xs.length 0 lo=0∧HT.vF xs.length xs.length hi=xs.length)∧∀p,H p=none→Q (.ref p) (upd H p (.tup (yM xs lo hi)))
theorem W9:XF X (HK X.K):=by
 intro pins s σ H x v vl vu lo hi sl Q I rx hs pl pu h
 obtain⟨a,xs,rfl,hx,hw,q⟩:=h
 cases rx
 obtain⟨its,r,ht,hz⟩:=I.tuple hx
 have hlen:its.toArray.size=xs.length:=by rw[List.size_toArray];exact r.length.symm
 refine⟨"tuple",_,PyProof.Rows.slot_tuple_getitem.lookup,ht.typeIs,?_⟩
 refine HT.mI ht hs pl pu (by rw[hlen];exact hw) ?_ (by rw[hlen];exact hz)
 rw[hlen]
 refine⟨.ref s.heap.objs.size,_,I.laid (t':=s.toks) (o:=.tup (yM xs lo hi)) (fun b ob q=>Heap.get?_push_of_some _ q) (Nat.le_refl _) ?_,rfl,q _ (I.jx.fresh (Nat.le_refl _))⟩
 exact⟨Nat.le_trans (cw xs lo hi) hz,_,(r.drop (HT.vF xs.length 0 lo)).take (HT.vF xs.length xs.length hi - HT.vF xs.length 0 lo),IsTup.new _ _⟩
noncomputable def BO (K:PySem.W.Frag):R2:=fun x y H Q=>∃a b ns ms,x=.ref a∧y=.ref b∧yc K H a (ns.map V.int)∧yc K H b (ms.map V.int)∧Q (.bl (HT.lexLt ns ms)) H
noncomputable def Y6 (K:PySem.W.Frag):R2:=fun x y H Q=>∃a b xs ys,x=.ref a∧y=.ref b∧yc K H a xs∧yc K H b ys∧xs≠[]∧xs.length + ys.length≤sizeLine∧
 (ys=[]→Q (.ref a) H)∧(ys≠[]→∀p,H p=none→Q (.ref p) (upd H p (.tup (xs ++ ys))))
theorem Vals.tQ {xs:List V} {us:List Value} (r:Vals xs us):us=[]↔xs=[]:=by
 cases r with
 | nil=>simp
 | cons _ _=>simp
theorem Ko:pq X (binaryOp .Add) (Y6 X.K):=by
 intro pins s σ H x y v u Q I rx ry h
 obtain⟨a,b,xs,ys,rfl,rfl,ha,hb,hx,hz,q1,q2⟩:=h
 cases rx
 cases ry
 obtain⟨its,r1,p1,_⟩:=I.tuple ha
 obtain⟨its2,r2,p2,_⟩:=I.tuple hb
 refine HT.X0 p1 p2 (fun z=>hx (r1.tQ.mp z)) (fun z=>⟨.ref a,H,I,rfl,q1 (r2.tQ.mp z)⟩) (fun z=>?_) (by rw[←r1.length,←r2.length];exact hz)
 refine⟨.ref s.heap.objs.size,_,I.laid (t':=s.toks) (o:=.tup (xs ++ ys)) (fun b ob q=>Heap.get?_push_of_some _ q) (Nat.le_refl _) ?_,rfl,q2 (fun w=>z (r2.tQ.mpr w)) _ (I.jx.fresh (Nat.le_refl _))⟩
 exact⟨by rw[List.length_append];exact hz,_,r1.append r2,IsTup.new _ _⟩
end
end L2
namespace L2
open PySem PySem.Spec PyProof.Rows
noncomputable def QX (n:Nat) (i:Int):Option Nat:=if 0≤i then (if i < n then some i.toNat else none) else if -(n:Int)≤i then some (i + n).toNat else none
noncomputable def rN {α:Type} (xs:List α) (i:Int):Option α:=(QX xs.length i).bind fun j=>xs[j]?
theorem a9 {n:Nat} {i:Int} {j:Nat} (h:QX n i=some j):seqIndex? i n=some j∧j < n∧-(n:Int)≤i∧i < n:=by
 unfold QX at h
 by_cases h0:0≤i
 ·rw[if_pos h0] at h
  by_cases h1:i < n
  ·rw[if_pos h1] at h
   have e:i.toNat=j:=Option.some.inj h
   exact⟨by rw[seqIndex_of h0 h1,e],by omega,by omega,h1⟩
  ·rw[if_neg h1] at h;cases h
 ·rw[if_neg h0] at h
  by_cases h1:-(n:Int)≤i
  ·rw[if_pos h1] at h
   have e:(i + n).toNat=j:=Option.some.inj h
   exact⟨by rw[seqIndex_neg (by omega) h1,e],by omega,h1,by omega⟩
  ·rw[if_neg h1] at h;cases h
theorem sY {α:Type} {xs:List α} {i:Int} {v:α} (h:rN xs i=some v):∃j,seqIndex? i xs.length=some j∧xs[j]?=some v∧j < xs.length∧-(xs.length:Int)≤i∧i < xs.length:=by
 unfold rN at h
 cases e:QX xs.length i with
 | none=>rw[e] at h;cases h
 | some j=>
  rw[e] at h
  obtain⟨h1,h2,h3,h4⟩:=a9 e
  exact⟨j,h1,h,h2,h3,h4⟩
theorem kc {α:Type} {xs:List α} {j:Nat} {v:α} (h:xs[j]?=some v):rN xs (j:Int)=some v:=by
 have hj:j < xs.length:=(List.getElem?_eq_some_iff.mp h).1
 have e:QX xs.length (j:Int)=some j:=by
  unfold QX
  rw[if_pos (by omega),if_pos (by omega)];simp
 unfold rN;rw[e];exact h
theorem QC {α:Type} (xs:List α) (v:α):rN (xs ++ [v]) (-1)=some v:=by
 have hl:(xs ++ [v]).length=xs.length + 1:=by simp
 have e:QX (xs ++ [v]).length (-1)=some xs.length:=by
  unfold QX
  rw[hl,if_neg (by decide),if_pos (by omega)]
  congr 1
  omega
 unfold rN
 rw[e]
 show (xs ++ [v])[xs.length]?=some v
 simp
noncomputable def XT (b:Expr):Prop:=∀o i,subscripted b false o i=operate [o,i] (getItem o i)
noncomputable def Yf (X:Cx) (r:R2):Prop:=
 ∀(value slice:Expr) (pins:List (Addr × Obj)) (s:Shared) (σ:St) (H:Hp) (x y:V) (v u:Value) (Q:VK),Inv X pins σ H s→RelV x v→RelV y u→r x y H Q→
  subscripted slice false v u=operate [v,u] (getItem v u)→wpAny (model X.prog X.w) X.A (subscriptTail value slice v u) (EP X pins σ Q) X.xe s
noncomputable def Qi (X:Cx) (id:String) (r:V→List V→Hp→VK→Prop):Prop:=
 ∀(pins:List (Addr × Obj)) (s:Shared) (σ:St) (H:Hp) (x:V) (xs:List V) (v:Value) (us:List Value) (Q:VK),Inv X pins σ H s→RelV x v→Vals xs us→r x xs H Q→
  wpAny (model X.prog X.w) X.A (call (.builtin id) (v :: us)) (EP X pins σ Q) X.xe s
section
variable {X:Cx} {a b:Expr} {ta tb:TE} {pos:Pos}
theorem qf {r:R2} (hr:Yf X r) (ha:PE X a ta) (hb:PE X b tb) (hs:XT b):PE X (.Subscript a b pos) (GI r ta tb):=by
 intro pins s σ H Q I h
 exact Subscript_ (VI ha hb I h fun v u s2 x y H2 I2 rx ry q=>hr a b pins s2 σ H2 x y v u Q I2 rx ry q (hs _ _))
noncomputable def WT (K:PySem.W.Frag):R2:=fun x y H Q=>∃p xs i v,x=.ref p∧y=.int i∧qL K H p xs∧rN xs i=some v∧Q v H
noncomputable def WN (K:PySem.W.Frag):R2:=fun x y H Q=>∃p xs i v,x=.ref p∧y=.int i∧yc K H p xs∧rN xs i=some v∧Q v H
noncomputable def Y7:R2:=fun x y H Q=>∃z i c,x=.str z∧y=.int i∧z.length≤sizeLine∧rN z.cps.toList i=some c∧Q (.str ⟨#[c]⟩) H
theorem X9:Yf X (WT X.K):=by
 intro value slice pins s σ H x y v u Q I rx ry h hs
 obtain⟨p,xs,i,z,rfl,rfl,hq,he,q⟩:=h
 cases rx
 obtain⟨t,rfl⟩:=ry
 obtain⟨its,r,pl,hz⟩:=I.list hq
 obtain⟨j,h1,h2,h3,h4,h5⟩:=sY he
 obtain⟨w,ew,rw'⟩:=r.get h2
 have hl:=r.length
 have hn:=dN
 have fin:EP X pins σ Q w s:=⟨z,H,I,rw',q⟩
 by_cases h0:0≤i
 ·have hj:i.toNat=j:=by
   rw[seqIndex_of h0 h5] at h1
   exact Option.some.inj h1
  exact item_listR pl.isList h0 (by omega) (by rw[hj];simpa using ew) fin hs
 ·have hj:(i + (its.toArray.size:Int)).toNat=j:=by
   rw[seqIndex_neg (by omega) h4] at h1
   rw[List.size_toArray,←hl]
   exact Option.some.inj h1
  exact subscriptTail_builtinR (x:=w) pl.isList.typeIs slot_list_getitem.lookup
   (wpAny_getItem_list_neg (Q:=fun r s'=>r=w∧EP X pins σ Q r s') pl.isList (by omega) (by rw[List.size_toArray]<;>omega) (by omega) (by rw[hj];simpa using ew) ⟨rfl,fin⟩) hs
theorem Wg:Yf X (WN X.K):=by
 intro value slice pins s σ H x y v u Q I rx ry h hs
 obtain⟨p,xs,i,z,rfl,rfl,hq,he,q⟩:=h
 cases rx
 obtain⟨t,rfl⟩:=ry
 obtain⟨its,r,pl,hz⟩:=I.tuple hq
 obtain⟨j,h1,h2,h3,h4,h5⟩:=sY he
 obtain⟨w,ew,rw'⟩:=r.get h2
 have hl:=r.length
 have hn:=dN
 have fin:EP X pins σ Q w s:=⟨z,H,I,rw',q⟩
 exact subscriptTail_builtinR (x:=w) pl.typeIs slot_tuple_getitem.lookup
  (getItem_tuple (j:=j) (Q:=fun r s'=>r=w∧EP X pins σ Q r s') pl (by omega) (by omega) (by rw[List.size_toArray,←hl];exact h1) (by simpa using ew) ⟨rfl,fin⟩) hs
theorem pV:Yf X Y7:=by
 intro value slice pins s σ H x y v u Q I rx ry h hs
 obtain⟨z,i,c,rfl,rfl,hz,he,q⟩:=h
 obtain⟨t,rfl⟩:=rx
 obtain⟨t',rfl⟩:=ry
 obtain⟨j,h1,h2,h3,h4,h5⟩:=sY he
 have hl:z.cps.toList.length=z.length:=by simp [Str.length]
 rw[hl] at h1 h4 h5
 have hn:=dN
 exact tail_any (typeIs_str s z t) slot_str_getitem.lookup (getItem_str (c:=c) (by
  have e1:decide (i < -(2 ^ 63:Int))=false:=decide_eq_false (by omega)
  have e2:decide (i≥2 ^ 63)=false:=decide_eq_false (by omega)
  rw[e1,e2,Bool.or_false]) (by rw[h1];simpa using h2) ⟨.str ⟨#[c]⟩,H,I.tok _,⟨_,rfl⟩,q⟩) hs
noncomputable def Pl (K:PySem.W.Frag):R2:=fun x y H Q=>WT K x y H Q∨WN K x y H Q∨Y7 x y H Q
theorem i8 (its:List Value) (n j:Nat) (u:Value):Obj.mapSeq (·.setIfInBounds j u) { cls:=.type "list",data:=.seq its.toArray n }={ cls:=.type "list",data:=.seq (its.set j u).toArray n }:=by
 simp [Obj.mapSeq]
theorem Inv.lst {pins:List (Addr × Obj)} {σ:St} {H:Hp} {s:Shared} {p:Addr} {xs:List V} (I:Inv X pins σ H s) (h:H p=some (.lst xs)) :
  ∃(its:List Value) (n:Nat),Vals xs its∧s.heap.get? p=some { cls:=.type "list",data:=.seq its.toArray n }∧xs.length≤sizeLine:=by
 obtain⟨z,its,n,r,e⟩:=I.jx p _ h
 exact⟨its,n,r,e,z⟩
theorem Inv.Wr {pins:List (Addr × Obj)} {σ:St} {H:Hp} {s:Shared} {p:Addr} {xs ys:List V} {its its':List Value} {n n':Nat} {f:Obj→Obj} (I:Inv X pins σ H s) (h:H p=some (.lst xs))
  (ho:s.heap.get? p=some { cls:=.type "list",data:=.seq its.toArray n }) (hf:f { cls:=.type "list",data:=.seq its.toArray n }={ cls:=.type "list",data:=.seq its'.toArray n' }) (r:Vals ys its') (hz:ys.length≤sizeLine) (t:Nat) :
  Inv X pins σ (upd H p (.lst ys)) { s with heap:=s.heap.update p f,toks:=t }:=by
 have e:(s.heap.update p f).get? p=some { cls:=.type "list",data:=.seq its'.toArray n' }:=by
  rw[Heap.get?_update_self f ho (by rw[hf]<;>rfl),hf]
 refine I.write (x:=p) (e:=p) (by rw[h];trivial) (.inl rfl) (fun b u hb q=>(Heap.get?_update_other _ _ (Ne.symm hb)).trans q) ⟨_,e⟩ ?_
 exact⟨hz,its',n',r,e⟩
noncomputable def Y9:V→V→V→Hp→(Hp→Prop)→Prop:=fun o i v H Q=>∃p xs k j,o=.ref p∧i=.int k∧H p=some (.lst xs)∧QX xs.length k=some j∧Q (upd H p (.lst (xs.set j v)))
theorem set_list:XS X Y9:=by
 intro pins s σ H o i v ov iv u Q I ro ri rv h
 obtain⟨p,xs,k,j,rfl,rfl,hp,hj,q⟩:=h
 cases ro
 obtain⟨t,rfl⟩:=ri
 obtain⟨its,n,r,ho,hz⟩:=I.lst hp
 obtain⟨h1,h2,h3,h4⟩:=a9 hj
 have hl:=r.length
 have hn:=dN
 have I':Inv X pins σ (upd H p (.lst (xs.set j v))) { s with heap:=s.heap.update p (Obj.mapSeq (·.setIfInBounds j u)) }:=
  I.Wr hp ho (i8 its n j u) (r.set rv j) (by rw[List.length_set];exact hz) s.toks
 by_cases h0:0≤k
 ·have hk:k.toNat=j:=by
   rw[seqIndex_of h0 h4] at h1
   exact Option.some.inj h1
  exact PySem.W.ki_setAt ho h0 (by omega) (by rw[List.size_toArray,←hl];exact h4) (by rw[hk];exact⟨_,I',q⟩)
 ·have hk:(k + (its.toArray.size:Int)).toNat=j:=by
   rw[seqIndex_neg (by omega) h3] at h1
   rw[List.size_toArray,←hl]
   exact Option.some.inj h1
  exact PySem.W.ki_setBack ho (by omega) (by rw[List.size_toArray,←hl];exact h3) (by omega) (by rw[hk];exact⟨_,I',q⟩)
theorem nh (lo hi:Option Int) (n:Nat):(sliceBounds lo hi none n).1=((HT.vF n 0 lo:Nat):Int)∧(sliceBounds lo hi none n).2.1=((HT.vF n n hi:Nat):Int)∧(sliceBounds lo hi none n).2.2=1:=by
 refine⟨?_,?_,rfl⟩
 ·cases lo with
  | none=>simp [sliceBounds,HT.vF]
  | some i=>
   simp only[sliceBounds,HT.vF,Option.getD_none,show (1:Int) > 0 by decide,if_true]
   by_cases h:i < 0
   ·simp only[h,if_true]<;>omega
   ·simp only[h,if_false]<;>omega
 ·cases hi with
  | none=>simp [sliceBounds,HT.vF]
  | some i=>
   simp only[sliceBounds,HT.vF,Option.getD_none,show (1:Int) > 0 by decide,if_true]
   by_cases h:i < 0
   ·simp only[h,if_true]<;>omega
   ·simp only[h,if_false]<;>omega
theorem lg (its:List Value) (lo hi:Option Int):slicePick its.toArray lo hi none=((its.drop (HT.vF its.length 0 lo)).take (HT.vF its.length its.length hi - HT.vF its.length 0 lo)).toArray:=by
 obtain⟨h1,h2,h3⟩:=nh lo hi its.toArray.size
 unfold slicePick
 rw[h1,h2,h3]
 simp only[sliceRange_one,pick_run,List.size_toArray]<;>rfl
noncomputable def HX (K:PySem.W.Frag):V→Option Int→Option Int→Hp→VK→Prop:=fun x lo hi H Q=>∃a xs,x=.ref a∧qL K H a xs∧∀p,H p=none→Q (.ref p) (upd H p (.lst (yM xs lo hi)))
theorem KI:XF X (HX X.K):=by
 intro pins s σ H x v vl vu lo hi sl Q I rx hs pl pu h
 obtain⟨a,xs,rfl,hx,q⟩:=h
 cases rx
 obtain⟨its,r,ht,hz⟩:=I.list hx
 have hlen:=r.length
 refine⟨"list",_,slot_list_getitem.lookup,ht.isList.typeIs,?_⟩
 refine wpAny_getItem_list_slice ht.isList hs pl pu .none (by simp) ?_ (by rw[List.size_toArray]<;>omega)
 rw[lg,←hlen]
 refine⟨.ref s.heap.objs.size,_,I.laid (t':=s.toks) (o:=.lst (yM xs lo hi)) (fun b ob q=>Heap.get?_push_of_some _ q) (Nat.le_refl _) ?_,rfl,q _ (I.jx.fresh (Nat.le_refl _))⟩
 exact⟨Nat.le_trans (cw xs lo hi) hz,_,0,(r.drop (HT.vF xs.length 0 lo)).take (HT.vF xs.length xs.length hi - HT.vF xs.length 0 lo),Heap.get?_push_size _ rfl⟩
noncomputable def fM:V→Bool
 | .non=>true
 | .bl _=>true
 | .int _=>true
 | .str _=>true
 | _=>false
noncomputable def X6:V→V→Bool
 | .non,.non=>true
 | .bl a,.bl b=>a == b
 | .bl a,.int b=>(if a then 1 else 0) == b
 | .int a,.bl b=>a == (if b then 1 else 0)
 | .int a,.int b=>a == b
 | .str a,.str b=>a == b
 | _,_=>false
theorem V5 {A:Around} {s:Shared} {y x:V} {u v:Value} (ry:RelV y u) (rx:RelV x v) (fy:fM y=true) (fx:fM x=true):SeqAt.EqAt A s u v (X6 y x):=by
 cases y with
 | non=>
  cases ry
  cases x with
  | non=>cases rx;exact SeqAt.EqAt.same _
  | bl b=>cases rx;exact SeqAt.EqAt.none_bool b
  | int b=>obtain⟨t,rfl⟩:=rx;exact SeqAt.EqAt.none_int b t
  | str b=>obtain⟨t,rfl⟩:=rx;exact SeqAt.EqAt.none_str b t
  | _=>exact absurd (show false=true from fx) Bool.false_ne_true
 | bl a=>
  cases ry
  cases x with
  | non=>cases rx;exact SeqAt.EqAt.bool_none a
  | bl b=>cases rx;exact SeqAt.EqAt.bool_bool a b
  | int b=>obtain⟨t,rfl⟩:=rx;exact SeqAt.EqAt.bool_int a b t
  | str b=>obtain⟨t,rfl⟩:=rx;exact SeqAt.EqAt.bool_str a b t
  | _=>exact absurd (show false=true from fx) Bool.false_ne_true
 | int a=>
  obtain⟨t',rfl⟩:=ry
  cases x with
  | non=>cases rx;exact SeqAt.EqAt.int_none a t'
  | bl b=>cases rx;exact SeqAt.EqAt.int_bool a t' b
  | int b=>obtain⟨t,rfl⟩:=rx;exact SeqAt.EqAt.int_int a t' b t
  | str b=>obtain⟨t,rfl⟩:=rx;exact SeqAt.EqAt.int_str a t' b t
  | _=>exact absurd (show false=true from fx) Bool.false_ne_true
 | str a=>
  obtain⟨t',rfl⟩:=ry
  cases x with
  | non=>cases rx;exact SeqAt.EqAt.str_none a t'
  | bl b=>cases rx;exact SeqAt.EqAt.str_bool a t' b
  | int b=>obtain⟨t,rfl⟩:=rx;exact SeqAt.EqAt.str_int a t' b t
  | str b=>obtain⟨t,rfl⟩:=rx;exact SeqAt.EqAt.str_str a t' b t
  | _=>exact absurd (show false=true from fx) Bool.false_ne_true
 | _=>exact absurd (show false=true from fy) Bool.false_ne_true
noncomputable def X5 (x:V) (u:Value):Bool:=match u with
 | .none=>X6 .non x
 | .bool b=>X6 (.bl b) x
 | .int i _=>X6 (.int i) x
 | .str z _=>X6 (.str z) x
 | _=>false
theorem Q9 {x y:V} {u:Value} (r:RelV y u) (f:fM y=true):X5 x u=X6 y x:=by
 cases y with
 | non=>cases r;rfl
 | bl b=>cases r;rfl
 | int i=>obtain⟨t,rfl⟩:=r;rfl
 | str z=>obtain⟨t,rfl⟩:=r;rfl
 | _=>exact absurd (show false=true from f) Bool.false_ne_true
theorem sW {x:V}:∀{xs:List V} {us:List Value},Vals xs us→xs.all fM=true→us.any (X5 x)=xs.any fun y=>X6 y x
 | _,_,.nil,_=>rfl
 | y :: xs,u :: us,.cons r t,f=>by
  rw[List.all_cons,Bool.and_eq_true] at f
  rw[List.any_cons,List.any_cons,Q9 r f.1,sW t f.2]
theorem uD {A:Around} {s:Shared} {x:V} {v:Value} (rx:RelV x v) (fx:fM x=true):∀{xs:List V} {us:List Value},Vals xs us→xs.all fM=true→∀u∈us,SeqAt.EqAt A s u v (X5 x u)
 | _,_,.nil,_=>fun u hu=>by cases hu
 | y :: xs,u :: us,.cons r t,f=>fun u' hu=>by
  rw[List.all_cons,Bool.and_eq_true] at f
  rcases List.mem_cons.mp hu with rfl | hu
  ·rw[Q9 r f.1];exact V5 r rx f.1 fx
  ·exact uD rx fx t f.2 u' hu
noncomputable def QJ (x:V) (xs:List V):Bool:=xs.any fun y=>X6 y x
noncomputable def Bf (K:PySem.W.Frag) (neg:Bool):R2:=fun x y H Q=>∃p xs,y=.ref p∧(qL K H p xs∨yc K H p xs)∧fM x=true∧xs.all fM=true∧Q (.bl (if neg then !QJ x xs else QJ x xs)) H
theorem tF:pq X (compareOp .NotIn) (Bf X.K true):=by
 intro pins s σ H x y v u Q I rx ry h
 obtain⟨p,xs,rfl,hq,fx,fs,q⟩:=h
 cases ry
 rcases hq with hq | hq
 ·obtain⟨its,r,pl,hz⟩:=I.list hq
  refine SeqAt.notIn_listAt (X5 x) pl.isList (fun w hw=>uD rx fx r fs w (by simpa using hw)) ⟨.bl _,H,I,rfl,?_⟩
  rw[show its.toArray.any (X5 x)=its.any (X5 x) by simp,sW r fs]
  exact q
 ·obtain⟨its,r,pl,hz⟩:=I.tuple hq
  refine SeqAt.notIn_tupleAt (X5 x) pl (fun w hw=>uD rx fx r fs w (by simpa using hw)) ⟨.bl _,H,I,rfl,?_⟩
  rw[show its.toArray.any (X5 x)=its.any (X5 x) by simp,sW r fs]
  exact q
theorem sP:vw X (.builtin "len") (fun xs H Q=>∃p ys,xs=[.ref p]∧(qL X.K H p ys∨yc X.K H p ys)∧Q (.int ys.length) H):=by
 intro pins s σ H xs us Q I r h
 obtain⟨p,ys,rfl,hq,q⟩:=h
 obtain⟨u,rfl,rx⟩:=vals1 r
 cases rx
 have hn:=dN
 rcases hq with hq | hq
 ·obtain⟨its,r',pl,hz⟩:=I.list hq
  have hlen:=r'.length
  exact Calls.call_len_list pl.isList (by simp only[List.size_toArray]<;>omega) ⟨.int ys.length,H,I.tok _,⟨s.toks + 1,by rw[List.size_toArray,hlen]⟩,q⟩
 ·obtain⟨its,r',pl,hz⟩:=I.tuple hq
  have hlen:=r'.length
  exact len_tuple pl (by simp only[List.size_toArray]<;>omega) ⟨.int ys.length,H,I.tok _,⟨s.toks + 1,by rw[List.size_toArray,hlen]⟩,q⟩
theorem mD:vw X (.builtin "len") (fun xs H Q=>∃z,xs=[.str z]∧z.length≤sizeLine∧Q (.int z.length) H):=by
 intro pins s σ H xs us Q I r h
 obtain⟨z,rfl,hz,q⟩:=h
 obtain⟨u,rfl,t,rfl⟩:=vals1 r
 have hn:=dN
 exact len_str (by omega) ⟨.int z.length,H,I.tok _,⟨_,rfl⟩,q⟩
theorem sF:vw X (.type "list") (fun xs H Q=>∃p ys,xs=[.ref p]∧(qL X.K H p ys∨yc X.K H p ys)∧∀l,H l=none→Q (.ref l) (upd H l (.lst ys))):=by
 intro pins s σ H xs us Q I r h
 obtain⟨p,ys,rfl,hq,q⟩:=h
 obtain⟨u,rfl,rx⟩:=vals1 r
 cases rx
 have fin:∀(its:List Value),Vals ys its→ys.length≤sizeLine→∀(h':Heap) (c':Nat),(∀b o',s.heap.get? b=some o'→h'.get? b=some o')→
   h'.get? s.heap.objs.size=some { cls:=.type "list",dict:=none,data:=.seq its.toArray c',slots:=#[] }→EP X pins σ Q (.ref s.heap.objs.size) { s with heap:=h' }:=fun its r' hz h' c' kp e=>
  ⟨.ref s.heap.objs.size,_,I.laid (t':=s.toks) kp (Nat.le_refl _) (show xk X.prog X.w _ h' _ (.lst ys) from ⟨hz,its,c',r',e⟩),rfl,q _ (I.jx.fresh (Nat.le_refl _))⟩
 rcases hq with hq | hq
 ·obtain⟨its,r',pl,hz⟩:=I.list hq
  have hlen:=r'.length
  obtain⟨o,ho,hc,n,hd⟩:=pl.isList
  exact call_list_seq p (.inl rfl) ho hc hd (fun h' c' kp e=>fin its r' hz h' c' kp e) (by simp only[List.size_toArray]<;>omega)
 ·obtain⟨its,r',pl,hz⟩:=I.tuple hq
  have hlen:=r'.length
  obtain⟨o,ho,hc,n,hd⟩:=pl
  exact call_list_seq p (.inr rfl) ho hc hd (fun h' c' kp e=>fin its r' hz h' c' kp e) (by simp only[List.size_toArray]<;>omega)
noncomputable def Bk (K:PySem.W.Frag) (T:String) (x:V) (H:Hp):Prop:=match x with
 | .str _=>T = "str"
 | .int _=>T = "int"
 | .ref p=>(T = "list"∧∃xs,qL K H p xs)∨(T = "tuple"∧∃o,K.lookup p=some o∧o.cls=.type "tuple"∧o.dict=none)∨
   (T = "dict"∧((∃kvs,H p=some (.dK kvs))∨∃kvs,H p=some (.dT kvs)))∨(T = "set"∧∃S n,H p=some (.set S n))
 | _=>False
theorem Xi {pins:List (Addr × Obj)} {σ:St} {H:Hp} {s:Shared} {T:String} {x:V} {v:Value} (I:Inv X pins σ H s) (r:RelV x v) (ty:Bk X.K T x H) :
  s.TypeIs v T∧∀a,v=.ref a→∃ob,s.heap.get? a=some ob∧ob.dict=none:=by
 cases x with
 | str z=>
  obtain⟨t,rfl⟩:=r
  cases (show T = "str" from ty)
  exact⟨typeIs_str s z t,fun _ e=>nomatch e⟩
 | int i=>
  obtain⟨t,rfl⟩:=r
  cases (show T = "int" from ty)
  exact⟨typeIs_int s i t,fun _ e=>nomatch e⟩
 | ref p=>
  cases r
  rcases ty with ⟨rfl,xs,hq⟩ | ⟨rfl,o,hk,hc,hd⟩ | ⟨rfl,hk⟩ | ⟨rfl,S,n,hk⟩
  ·obtain⟨its,_,pl,_⟩:=I.list hq
   refine⟨pl.isList.typeIs,fun a e=>?_⟩
   cases e
   obtain⟨o,n,e,c,hd,_⟩:=pl
   exact⟨o,e,hd⟩
  ·refine⟨⟨o,I.gU p o hk,hc⟩,fun a e=>?_⟩
   cases e
   exact⟨o,I.gU _ o hk,hd⟩
  ·have z:∃o,s.heap.get? p=some o∧o.ExactDict:=by
    rcases hk with ⟨kvs,hk⟩ | ⟨kvs,hk⟩
    ·obtain⟨_,_,_,_,o,_,_,e,ex,_⟩:=I.jx p _ hk
     exact⟨o,e,ex⟩
    ·obtain⟨_,_,_,_,o,_,_,e,ex,_⟩:=I.jx p _ hk
     exact⟨o,e,ex⟩
   obtain⟨o,e,ex⟩:=z
   refine⟨⟨o,e,ex.1⟩,fun a e2=>?_⟩
   cases e2
   exact⟨o,e,ex.2.1⟩
  ·obtain⟨o,_,_,_,e,ex,_⟩:=I.jx p _ hk
   refine⟨⟨o,e,ex.1⟩,fun a e2=>?_⟩
   cases e2
   exact⟨o,e,ex.2.1⟩
 | _=>exact False.elim ty
noncomputable def HG (K:PySem.W.Frag) (T:String) (r:V→List V→Hp→VK→Prop) (to:TE):TE:=fun σ H Q=>to σ H fun x H1=>Bk K T x H1∧r x [] H1 Q
noncomputable def B4 (K:PySem.W.Frag) (T:String) (r:V→List V→Hp→VK→Prop) (to:TE) (t:TA):TE:=fun σ H Q=>to σ H fun x H1=>Bk K T x H1∧t σ H1 fun xs H2=>r x xs H2 Q
variable {o e:Expr} {es:List Expr} {to:TE} {t:TA} {name:Str} {apos cpos:Pos} {T id:String} {r:V→List V→Hp→VK→Prop}
theorem JU (pa:PlainAttrs T) (slot:Slot T name id) (hty:typeOf (.builtin id)=pure (.type "method_descriptor")) (hm:Qi X id r) (ho:PE X o to)
  (hbase:attributeBase o name X.env (eval o X.env)=eval o X.env:=by rfl) (hline:(apos.endLine == cpos.line)=true:=by rfl):PE X (.Call (.Attribute o name apos) [] [] cpos) (HG X.K T r to):=by
 intro pins s σ H Q I h
 refine wpAny_Call_method0_late hbase hline (xf (ho pins s σ H _ I h) fun v s1 ⟨x,H1,I1,r1,ty,q1⟩=>?_)
 obtain⟨h1,h2⟩:=Xi I1 r1 ty
 exact⟨T,id,pa,slot,hty,h1,h2,Calls.callWith_builtin rfl (PySem.evalArgs_none (hm pins s1 σ H1 x [] v [] Q I1 r1 .nil q1))⟩
theorem kB (pa:PlainAttrs T) (slot:Slot T name id) (hty:typeOf (.builtin id)=pure (.type "method_descriptor")) (hm:Qi X id r) (ho:PE X o to) (ha:PA X (e :: es) t)
  (hbase:attributeBase o name X.env (eval o X.env)=eval o X.env:=by rfl)
  (hfew:((backTo cpos (starEach (e :: es) X.env)).all (fun x=>!x.1) && (backToKw cpos (keywordEach [] X.env)).all (fun x=>x.1.isSome)
   && decide ((e :: es).length + ([]:List Keyword).length + (if ([]:List Keyword).isEmpty then 0 else 1) < 30))=true:=by rfl)
  (hline:(apos.endLine == cpos.line)=true:=by rfl) (hs:starEach (e :: es) X.env=(false,eval e X.env) :: starEach es X.env:=by rfl) (hplain:(backTo cpos (starEach es X.env)).any (·.1)=false:=by rfl) :
  PE X (.Call (.Attribute o name apos) (e :: es) [] cpos) (B4 X.K T r to t):=by
 intro pins s σ H Q I h
 refine wpAny_Call_method_late hbase hfew hline rfl (xf (ho pins s σ H _ I h) fun v s1 ⟨x,H1,I1,r1,ty,q1⟩=>?_)
 obtain⟨h1,h2⟩:=Xi I1 r1 ty
 refine⟨T,id,pa,slot,hty,h1,h2,?_⟩
 have hA:=ha cpos pins s1 σ H1 _ I1 q1
 rw[hs] at hA ⊢
 refine Calls.callWith_builtin (by show (false || (backTo cpos (starEach es X.env)).any (·.1))=false;rw[hplain]<;>rfl) (Calls.evalArgs_plain ?_)
 exact xf hA fun us s2 ⟨vs,H2,I2,r2,q2⟩=>hm pins s2 σ H2 x vs v us Q I2 r1 r2 q2
end
end L2
namespace L2
open PySem PySem.Spec PyProof.Rows
noncomputable def G7 (X:Cx) (id:String) (r:V→List V→Hp→VK→Prop):Prop:=
 ∀(pins:List (Addr × Obj)) (s:Shared) (σ:St) (H:Hp) (x:V) (xs:List V) (v:Value) (us:List Value) (Q:VK),Inv X pins σ H s→RelV x v→Vals xs us→r x xs H Q→
  wpAny (model X.prog X.w) X.A (call (.builtin id) (v :: us)) (EP X pins σ Q) X.xe s
theorem Vals.one:∀{x:V} {us:List Value},Vals [x] us→∃u,us=[u]∧RelV x u
 | _,_,.cons r .nil=>⟨_,rfl,r⟩
theorem Vals.zero:∀{us:List Value},Vals [] us→us=[]
 | _,.nil=>rfl
theorem Vals.dropLast {xs:List V} {us:List Value} (h:Vals xs us):Vals xs.dropLast us.dropLast:=by
 induction h with
 | nil=>exact .nil
 | cons r t ih=>
  cases t with
  | nil=>exact .nil
  | cons q t'=>exact .cons r ih
theorem Vals.rep {xs:List V} {us:List Value} (h:Vals xs us):∀k:Nat,Vals (List.replicate k xs).flatten (List.replicate k us).flatten
 | 0=>.nil
 | k + 1=>by
  rw[List.replicate_succ,List.replicate_succ,List.flatten_cons,List.flatten_cons]
  exact Vals.append h (Vals.rep h k)
theorem iD {α:Type} (l:List α):l.eraseIdx (l.length - 1)=l.dropLast:=by
 induction l with
 | nil=>rfl
 | cons a r ih=>
  cases r with
  | nil=>rfl
  | cons b r=>
   have e:(a :: b :: r).length - 1=((b :: r).length - 1) + 1:=by
    have h1:(a :: b :: r).length=r.length + 2:=rfl
    have h2:(b :: r).length=r.length + 1:=rfl
    omega
   rw[e,List.eraseIdx_cons_succ,ih]
   all_goals rfl
theorem foldl_rep (its:List Value):∀(k:Nat) (acc:List Value),
  List.foldl (fun x1 x2=>x1 ++ x2) acc.toArray (List.replicate k its.toArray)=(acc ++ (List.replicate k its).flatten).toArray
 | 0,acc=>by simp
 | k + 1,acc=>by
  have e:acc.toArray ++ its.toArray=(acc ++ its).toArray:=by simp
  have e2:(acc ++ its) ++ (List.replicate k its).flatten=acc ++ (List.replicate (k + 1) its).flatten:=by
   rw[List.replicate_succ,List.flatten_cons,List.append_assoc]
  rw[←e2,←foldl_rep its k (acc ++ its),←e,List.replicate_succ,List.foldl_cons]
section
variable {X:Cx} {pins:List (Addr × Obj)} {σ:St} {H:Hp} {s:Shared} {l b:Addr} {xs ys zs:List V}
theorem Inv.Wu {its its':List Value} {n:Nat} {f:Array Value→Array Value} {t':Nat} (I:Inv X pins σ H s) (hH:H l=some (.lst xs))
  (e:s.heap.get? l=some { cls:=.type "list",data:=.seq its.toArray n }) (hf:f its.toArray=its'.toArray) (hv:Vals ys its') (hz:ys.length≤sizeLine) :
  Inv X pins σ (upd H l (.lst ys)) { s with heap:=s.heap.update l (Obj.mapSeq f),toks:=t' }:=by
 have q:=PySem.IsL.update e f
 rw[hf] at q
 refine I.write (x:=l) (e:=l) (by rw[hH];exact trivial) (.inl rfl) (fun b' u hb hu=>(Heap.get?_update_other s.heap (Obj.mapSeq f) (Ne.symm hb)).trans hu) ⟨_,q⟩ ?_
 exact⟨hz,its',_,hv,q⟩
theorem Inv.Jr {its:List Value} {t':Nat} (I:Inv X pins σ H s) (hv:Vals ys its) (hz:ys.length≤sizeLine) :
  Inv X pins σ (upd H s.heap.objs.size (.lst ys)) { s with heap:=s.heap.push { cls:=.type "list",data:=.seq its.toArray },toks:=t' }:=
 I.laid (fun _ _ q=>Heap.get?_push_of_some _ q) (Nat.le_refl _) ⟨hz,its,0,hv,Heap.get?_push_size _ rfl⟩
theorem Inv.fresh (I:Inv X pins σ H s):H s.heap.objs.size=none:=I.jx.fresh (Nat.le_refl _)
theorem Inv.i5 (I:Inv X pins σ H s) (hH:H l=some (.lst xs)):xs.length≤sizeLine∧∃(its:List Value) (n:Nat),Vals xs its∧xs.length=its.length∧s.heap.get? l=some { cls:=.type "list",data:=.seq its.toArray n }:=by
 obtain⟨z,its,n,r,e⟩:=I.jx l _ hH
 exact⟨z,its,n,r,r.length,e⟩
theorem oF {n:Nat} (h:n≤sizeLine):Builtin.List.listTooLong n=false:=by
 unfold Builtin.List.listTooLong
 exact decide_eq_false (by omega)
end
section
variable {X:Cx}
noncomputable def KY:V→List V→Hp→VK→Prop:=fun x vs H Q=>∃l xs y,x=.ref l∧vs=[y]∧H l=some (.lst xs)∧xs.length < sizeLine∧Q .non (upd H l (.lst (xs ++ [y])))
theorem dI:G7 X "list.append" KY:=by
 intro pins s σ H x vs v us Q I rx rv h
 obtain⟨l,xs,y,rfl,rfl,hH,hz,q⟩:=h
 cases rx
 obtain⟨u,rfl,ru⟩:=rv.one
 obtain⟨z,its,n,r,hl,e⟩:=I.i5 hH
 refine call_meets F.slot_list_append ⟨_,e,rfl⟩ F.entry_list_append (F.args_list_append_2 _ _) (PySem.list_append l its.toArray n u (by rw[List.size_toArray];omega)) ⟨e,?_⟩
 refine⟨.non,_,I.Wu (its':=its ++ [u]) hH e (by simp) (r.append (.cons ru .nil)) ?_,rfl,q⟩
 rw[List.length_append,List.length_singleton]
 omega
noncomputable def KH:V→List V→Hp→VK→Prop:=fun x vs H Q=>∃l b xs zs,x=.ref l∧vs=[.ref b]∧H l=some (.lst xs)∧H b=some (.lst zs)∧xs.length + zs.length≤sizeLine∧Q .non (upd H l (.lst (xs ++ zs)))
theorem Yc:G7 X "list.extend" KH:=by
 intro pins s σ H x vs v us Q I rx rv h
 obtain⟨l,b,xs,zs,rfl,rfl,hH,hB,hz,q⟩:=h
 cases rx
 obtain⟨u,rfl,ru⟩:=rv.one
 cases ru
 obtain⟨z,its,n,r,hl,e⟩:=I.i5 hH
 obtain⟨z2,its2,n2,r2,hl2,e2⟩:=I.i5 hB
 have hsz:its.toArray.size + its2.toArray.size≤sizeLine:=by rw[List.size_toArray,List.size_toArray];omega
 have hlong:¬(!its.toArray.isEmpty && Builtin.List.listTooLong (its.toArray.size + its2.toArray.size))=true:=by
  rw[oF hsz,Bool.and_false]
  exact Bool.false_ne_true
 refine call_meets F.slot_list_extend ⟨_,e,rfl⟩ F.entry_list_extend (F.args_list_extend_2 _ _)
  (AutoSeq1.list_extend_list_list_0 l its.toArray n b its2.toArray n2 hlong (by rw[List.size_toArray];omega) (by omega)) ⟨e,e2,?_⟩
 refine⟨.non,_,I.Wu (its':=its ++ its2) hH e (by simp) (r.append r2) ?_,rfl,q⟩
 rw[List.length_append]
 omega
noncomputable def HZ:V→List V→Hp→VK→Prop:=fun x vs H Q=>∃l xs y,x=.ref l∧vs=[]∧H l=some (.lst xs)∧xs[xs.length - 1]?=some y∧Q y (upd H l (.lst xs.dropLast))
theorem Ws:G7 X "list.pop" HZ:=by
 intro pins s σ H x vs v us Q I rx rv h
 obtain⟨l,xs,y,rfl,rfl,hH,hy,q⟩:=h
 cases rx
 have hus:=rv.zero
 subst hus
 obtain⟨z,its,n,r,hl,e⟩:=I.i5 hH
 obtain⟨u,hu,ru⟩:=r.get hy
 have hy':its.toArray[its.toArray.size - 1]?=some u:=by
  show its.toArray[its.length - 1]?=some u
  rw[←Array.getElem?_toList,←hl]
  exact hu
 refine call_meets F.slot_list_pop ⟨_,e,rfl⟩ F.entry_list_pop (F.args_list_pop_1 _) (MeetsSeq.list_pop_last l its.toArray n u hy' (by rw[List.size_toArray];omega)) ⟨e,?_⟩
 refine⟨y,_,I.Wu (its':=its.dropLast) hH e ?_ r.dropLast ?_,ru,q⟩
 ·show its.toArray.eraseIdxIfInBounds (its.toArray.size - 1)=its.dropLast.toArray
  rw[List.size_toArray,List.eraseIdxIfInBounds_toArray,iD]
 ·rw[List.length_dropLast]
  omega
noncomputable def HQ:V→List V→Hp→VK→Prop:=fun x vs H Q=>∃l xs i k y,x=.ref l∧vs=[.int i]∧H l=some (.lst xs)∧-(2 ^ 63)≤i∧i < 2 ^ 63∧seqIndex? i xs.length=some k∧xs[k]?=some y∧Q y (upd H l (.lst (xs.eraseIdx k)))
noncomputable def Y8:V→List V→Hp→VK→Prop:=fun x vs H Q=>∃l xs,x=.ref l∧vs=[]∧H l=some (.lst xs)∧Q .non (upd H l (.lst xs.reverse))
noncomputable def Ha:V→List V→Hp→VK→Prop:=fun x vs H Q=>∃l xs,x=.ref l∧vs=[]∧H l=some (.lst xs)∧Q .non (upd H l (.lst []))
noncomputable def He:R2:=fun x y H Q=>∃l b xs zs,x=.ref l∧y=.ref b∧H l=some (.lst xs)∧H b=some (.lst zs)∧xs.length + zs.length≤sizeLine∧∀p,H p=none→Q (.ref p) (upd H p (.lst (xs ++ zs)))
theorem WK:pq X (binaryOp .Add) He:=by
 intro pins s σ H x y v u Q I rx ry h
 obtain⟨l,b,xs,zs,rfl,rfl,hH,hB,hz,q⟩:=h
 cases rx
 cases ry
 obtain⟨z,its,n,r,hl,e⟩:=I.i5 hH
 obtain⟨z2,its2,n2,r2,hl2,e2⟩:=I.i5 hB
 refine PySem.P.add_list e e2 ?_ (by rw[List.size_toArray,List.size_toArray];omega)
 have ea:its.toArray ++ its2.toArray=(its ++ its2).toArray:=by simp
 rw[ea]
 exact⟨.ref _,_,I.Jr (t':=s.toks) (r.append r2) (by rw[List.length_append];omega),rfl,q _ I.fresh⟩
noncomputable def HJ:R2:=fun x y H Q=>∃l k xs,x=.ref l∧y=.int k∧H l=some (.lst xs)∧-(2 ^ 63)≤k∧k < 2 ^ 63∧xs.length * k.toNat≤sizeLine∧
 ∀p,H p=none→Q (.ref p) (upd H p (.lst (List.replicate k.toNat xs).flatten))
theorem len_rep {α:Type} (xs:List α) (k:Nat):(List.replicate k xs).flatten.length=k * xs.length:=by
 induction k with
 | zero=>simp
 | succ k ih=>rw[List.replicate_succ,List.flatten_cons,List.length_append,ih,Nat.succ_mul,Nat.add_comm]
theorem JF:pq X (binaryOp .Mult) HJ:=by
 intro pins s σ H x y v u Q I rx ry h
 obtain⟨l,k,xs,rfl,rfl,hH,h1,h2,hz,q⟩:=h
 cases rx
 obtain⟨t,rfl⟩:=ry
 obtain⟨z,its,n,r,hl,e⟩:=I.i5 hH
 have hlen:its.toArray.size * k.toNat≤sizeLine:=by rw[List.size_toArray,←hl];exact hz
 have hcap:¬its.toArray.size * k.toNat > (2 ^ 63 - 1) / 8:=by
  have:(sizeLine:Nat)≤(2 ^ 63 - 1) / 8:=by decide
  omega
 have hfit:¬(!Builtin.List.listFitsIndex k)=true:=by
  rw[fitsIndex_both h1 h2]
  exact Bool.false_ne_true
 have hlong:¬Builtin.List.listTooLong (its.toArray.size * k.toNat)=true:=by
  rw[oF hlen]
  exact Bool.false_ne_true
 have hnew:List.foldl (fun x1 x2=>x1 ++ x2) #[] (List.replicate (if its.toArray.isEmpty=true then 0 else k.toNat) its.toArray)=(List.replicate k.toNat its).flatten.toArray:=by
  have f0:∀m:Nat,List.foldl (fun x1 x2=>x1 ++ x2) #[] (List.replicate m its.toArray)=(List.replicate m its).flatten.toArray:=fun m=>by
   have:=foldl_rep its m []
   rw[List.nil_append] at this
   exact this
  rw[f0]
  cases its with
  | nil=>simp
  | cons a r'=>rw[if_neg (by simp)]
 refine wpAny_binaryOp_repeat_ref (T:="list") (U:="int") (by decide) ⟨_,e,rfl⟩ (fun s'=>typeIs_int s' k t) noFill_list_mul F.fills_int_mul F.slot_int_rmul repeat_list F.slot_int_index.lookup
  (call_meets F.slot_int_rmul (typeIs_int s k t) F.entry_int_rmul (F.args_int_rmul_2 _ _) (int___rmul___int_list k t l its.toArray n)
   ⟨e,rfl,⟨_,e,rfl⟩,call_meets F.slot_list_mul ⟨_,e,rfl⟩ F.entry_list_mul (F.args_list_mul_2 _ _) (AutoListH.list___mul___list_int_3 l its.toArray n k t hfit hcap hlong) ⟨e,?_⟩⟩)
 rw[hnew]
 exact⟨.ref _,_,I.Jr (t':=s.toks) (r.rep k.toNat) (by rw[len_rep,Nat.mul_comm];exact hz),rfl,q _ I.fresh⟩
end
section
variable {prog:Program} {w:World} {A:Around} {E:Value→Shared→Prop} {s:Shared}
end
section
variable {X:Cx}
end
end L2
namespace Att
open PySem PySem.W PySem.Calls PyProof.Rows
theorem cB {P:Params} {h:Heap}:∀(ns:List Int) (vs:List Value),WellAll P h vs (ns.map WData.int)→IntsAre vs ns:=by
 intro ns
 induction ns with
 | nil=>
  intro vs w
  rw[List.map_nil] at w
  cases w
  exact .nil
 | cons n ns ih=>
  intro vs w
  rw[List.map_cons] at w
  cases w with
  | cons a b=>
   cases a
   exact .cons _ _ (ih _ b)
theorem Qw {l:OpenLaw} {n:Nat} (hn:l.most=some n) {P:Params} {h:Heap} {args:List WData} {vals:List Value}
  (hpre:l.row.toRowW.claim.pre args=true) (hwl:WellAll P h vals args) :
  ∃a vs ns,vals=[Value.ref a]∧args=[WData.list (ns.map WData.int)]∧h.get? a=some { cls:=.type "list",data:=.seq vs.toArray }∧IntsAre vs ns∧ns.length≤n:=by
 have hsh:WShape.hasAll [] args [.list .int]=true:=(pre_splitW hpre).1
 have hc:l.pre.holds [] { args:=args }=true:=(pre_splitW hpre).2
 obtain⟨d,r,rfl,h1,h2⟩:=hasAllW_cons hsh
 obtain rfl:=hasAllW_nil h2
 obtain⟨xs,rfl,h3⟩:=hasW_list h1
 obtain⟨ns,rfl⟩:=items_int h3
 have hlen:ns.length≤n:=by
  unfold OpenLaw.pre at hc
  have h4:(WTm.not (.lt (.lit (.int (n:Int))) (.len (.arg 0)))).holds [] { args:=[.list (ns.map .int)] }=true:=by
   have h4:=(holds_andW hc).1
   rw[hn] at h4
   exact h4
  have h5:=condW_of h4 (w_not (w_lt w_lit (w_len_list (w_arg rfl))))
  rw[List.length_map] at h5
  refine Nat.le_of_not_lt fun q=>?_
  have q':(n:Int) < ((ns.length:Nat):Int):=by omega
  first
   | (rw[decide_eq_true q'] at h5;exact absurd h5 (by decide))
   | (simp at h5;omega)
 cases hwl with
 | cons w1 w2=>
  cases w2
  cases w1 with
  | list ho hall=>exact⟨_,_,ns,rfl,rfl,ho,cB ns _ hall,hlen⟩
theorem Qj (l:OpenLaw) (args:List WData):l.row.toRowW.claim.post args (.bool true) args=true:=
 postW_of (r:=l.row.toRowW) (X:=(true == true))
  (show WShape.has [] (.bool true) .bool=true by first | rfl | decide | simp [WShape.has,WShape.arms,WShape.armsAll])
  (show (WTm.eq .res (.lit (.bool true))).value [] { args:=args,res:=some (.bool true),after:=args }=some (.bool (true == true)) from w_eq_bool (w_res rfl) w_lit) rfl
theorem nD {l:OpenLaw} {n:Nat} {q:Program} {loose:List Str} {XP:(Str→Option Value)→Heap→Prop} {YP:World→Heap→Prop} {d:DefRec}
  (hn:l.most=some n) (hdf:d.params.defaults=[])
  (call:∀(w:World) (s₀ s₁:Shared) (mg mb:Str→Option Value) (fa:Addr) (o:Obj) (pm cd doc:Value) (a:Addr) (vs:List Value) (ns:List Int),
   Ground q loose [] XP w s₀ mg mb s₁.heap→YP w s₁.heap→
   s₁.heap.get? fa=some o→o.data=.func (docDef d.name d.params d.body d.scope pm cd doc)→s₁.heap.CodeRec cd d.name→mg d.name=some (.ref fa)→
   s₁.heap.get? a=some { cls:=.type "list",data:=.seq vs.toArray }→IntsAre vs ns→ns.length≤n→s₁.gens = #[]→
   codeAny (model l.prog w) callerA (.call (.ref fa) ⟨[.ref a],[]⟩) (fun r s'=>r=.ok (.ret (.bool true))∧OldK s₁.heap s'.heap∧s'.os=s₁.os∧AllBare s'.gens) s₁) :
  WalkO q loose XP YP l.row.toRowW d [] (fun f vs=>PySem.call f vs):=by
 intro w s₀ s₁ mg mb G Y fa o pm cd doc dV kV ho hd hcd hD hmg hg args vals as hpre hlay hrd hwl hlo
 obtain rfl:dV=.none:=Dflts.none hD hdf
 obtain rfl:kV=.none:=Dflts.noKw hD
 obtain⟨a,vs,ns,rfl,rfl,hobj,hints,hlen⟩:=Qw hn hpre hwl
 refine enter_call (codeAny_mono (call w s₀ s₁ mg mb fa o pm cd doc a vs ns G Y ho (fd_plain hd) hcd hmg hobj hints hlen hg) fun r s' hq=>?_)
 obtain⟨rfl,h2,h3,h4⟩:=hq
 exact⟨.inl ⟨.bool true,.bool true,[],rfl,fun _=>rfl,.bool true,Qj l _,fun _=>⟨List.Pairwise.nil,fun _ hm=>(nomatch hm)⟩⟩,h2,h3,h4⟩
section
variable {prog:Program} {w:World} {A:Around} {E:Value→Shared→Prop} {s:Shared} {K:Frag}
noncomputable def Hl (h:Heap):Heap:={ h with objs:=#[] }
noncomputable def ledger (h:Heap) (L d:Addr):List (Addr × Obj):=(List.range h.objs.size).filterMap fun a=>if a=L∨a=d then none else (h.get? a).map fun o=>(a,o)
end
end Att
namespace L2
open PySem PySem.Spec PyProof.Rows
theorem su:∀{vs:List Value} {ns:List Int},IntsAre vs ns→Vals (ns.map V.int) vs
 | _,_,.nil=>.nil
 | _,_,.cons n t h=>.cons ⟨t,rfl⟩ (su h)
noncomputable def QP (H:Hp):Prop:=∀b,H b=none∨∃o xs,H b=some (.frz o (.lst xs))
theorem Jm {P:Program} {w:World} {K:PySem.W.Frag} {mg mb:Str→Option Value} {CX:rL} {k:Nat} {fa a:Addr} {fd:FuncData} {x:Str} {sp:Sp} {s₁:Shared} {vs:List Value} {ns:List Int}
  (KX:K.In s₁.heap) (hns:s₁.heap.Ns mainGlobals mg) (hb:s₁.heap.Ns builtinsNs mb) (hbb:∀x:Str,x≠"__name__"→mb x=bootBuiltins x) (hlim:s₁.heap.NoLimit) (hg:s₁.gens = #[])
  (ha:s₁.heap.get? a=some { cls:=.type "list",data:=.seq vs.toArray }) (hi:IntsAre vs ns) (hl:ns.length≤sizeLine) (hr:vq k callerA)
  (F:∀base:Heap,K.In base→base.Ns mainGlobals mg→qV P w K mg base CX k fa fd [x] sp) (hbind:∀(s:Shared) (u:Value),BindsTo s fd ⟨[u],[]⟩ [(x,u)])
  (hsp:∀H:Hp,QP H→qL K H a (ns.map V.int)→sp [.ref a] H (fun v _=>v=.bl true) fun _ _ _=>False)
  (hCX:∀H e s',CX [] H s₁ (fun _ _ _=>False) e s'→False) :
  codeAny (model P w) callerA (.call (.ref fa) ⟨[.ref a],[]⟩) (fun r s'=>r=.ok (.ret (.bool true))∧OldK s₁.heap s'.heap∧s'.os=s₁.os∧AllBare s'.gens) s₁:=by
 have rv:=su hi
 have lenV:=hi.length
 have core:∀H:Hp,QP H→qL K H a (ns.map V.int)→bp P w H s₁.heap→(∀b,H b≠none→b=a)→(H a≠none→K.lookup a=none)→
   codeAny (model P w) callerA (.call (.ref fa) ⟨[.ref a],[]⟩) (fun r s'=>r=.ok (.ret (.bool true))∧OldK s₁.heap s'.heap∧s'.os=s₁.os∧AllBare s'.gens) s₁:=by
  intro H hO hS jx hA hK
  have base_of:∀{b:Addr} {o:Obj},s₁.heap.get? b=some o→H b=none→(tj s₁.heap H).get? b=some o:=fun e n=>Jw e n
  have noA:∀{b:Addr} {o:Obj} {es:Array DictEntry} {ep:Nat},s₁.heap.get? b=some o→o.data=.dict es ep→H b=none:=fun {b o es ep} e d=>by
   cases q:H b with
   | none=>rfl
   | some u=>
    have e':b=a:=hA b (by rw[q];simp)
    subst e'
    rw[ha] at e;cases e
    have d':Data.seq vs.toArray _=Data.dict es ep:=d
    cases d'
  have nsK:∀{b:Addr} {m:Str→Option Value},s₁.heap.Ns b m→(tj s₁.heap H).Ns b m:=fun {b m} ⟨o,es,ep,e,d,r⟩=>⟨o,es,ep,base_of e (noA e d),d,r⟩
  have hKb:K.In (tj s₁.heap H):=fun b o e=>base_of (KX b o e) (by
   cases q:H b with
   | none=>rfl
   | some u=>
    have e':b=a:=hA b (by rw[q];simp)
    subst e'
    rw[hK (by rw[q];simp)] at e;cases e)
  have hM:Mod K mg (tj s₁.heap H):=⟨hKb,nsK hns,⟨mb,nsK hb,hbb⟩,let ⟨mc,h1,h2⟩:=hlim;⟨mc,nsK h1,h2⟩⟩
  have e0:nB P w K mg (tj s₁.heap H) callerA [] s₁ H:=⟨rfl,hM,fun b o e=>Kl e,Nat.le_of_eq (ZL _ _),trivial,fun b hb=>absurd (show b∈([]:List Addr) from hb) (by simp),jx,.of_eq hg⟩
  refine codeAny_mono ((F _ hKb (nsK hns)).run callerA [] s₁ H ⟨[.ref a],[]⟩ [.ref a] [.ref a] _ _ hr e0 (hbind s₁ (.ref a)) (.cons rfl .nil) (hsp H hO hS)) fun r s' h=>?_
  cases r with
  | error e=>exact(hCX H e s' h).elim
  | ok fl=>
   cases fl with
   | next=>exact False.elim h
   | brk=>exact False.elim h
   | cont=>exact False.elim h
   | ret u=>
    obtain⟨v,H',os,bare,un,hok',r',q⟩:=h
    have q':v=.bl true:=q
    subst q'
    obtain rfl:u=Value.bool true:=r'
    refine⟨rfl,OldK.of_keep fun b o e=>?_,os,bare⟩
    cases q:H b with
    | none=>exact un.keep b o e q (by intro z;exact absurd (show b∈([]:List Addr) from z) (by simp)) (by simp)
    | some u=>
     rcases hO b with z | ⟨ob,xs,z⟩
     ·rw[q] at z;cases z
     ·have z2:=un.uK b ob _ z
      obtain⟨e1,_⟩:=jx b _ z
      obtain⟨e2,_⟩:=hok' b _ z2
      rw[e] at e1;cases e1
      exact e2
 cases hk:K.lookup a with
 | some o=>
  have e:=KX a o hk
  rw[ha] at e
  cases e
  refine core (fun _=>none) (fun _=>.inl rfl) (.inr ⟨_,vs.toArray,_,hk,rfl,rfl,rfl,by rw[List.size_toArray,lenV];exact hl,by simpa using rv⟩) (fun b u z=>by have z':(none:Option HO)=some u:=z;cases z') (fun b z=>absurd rfl z) fun z=>absurd rfl z
 | none=>
  refine core (fun b=>if b=a then some (.frz { cls:=.type "list",data:=.seq vs.toArray } (.lst (ns.map V.int))) else none) (fun b=>?_) (.inl (.inr ⟨{ cls:=.type "list",data:=.seq vs.toArray },if_pos rfl⟩)) (fun b u z=>?_) (fun b z=>?_) fun _=>hk
  ·by_cases hb:b=a
   ·exact .inr ⟨_,_,if_pos hb⟩
   ·exact .inl (if_neg hb)
  ·by_cases hb:b=a
   ·have z':=(if_pos hb).symm.trans z
    cases z'
    subst hb
    exact⟨ha,by rw[List.length_map];exact hl,vs,_,rv,ha⟩
   ·have z':=(if_neg hb).symm.trans z
    cases z'
  ·by_cases hb:b=a
   ·exact hb
   ·exact absurd (if_neg hb) z
end L2
namespace L2
open PySem PySem.Spec PyProof.Rows
noncomputable abbrev Bg {K:PySem.W.Frag} {h:Heap} (_:K.In h):PySem.W.Frag:=K
theorem K6 {l:PySem.W.OpenLaw} {n k:Nat} {q:Program} {loose:List Str} {XP:(Str→Option Value)→Heap→Prop} {YP:World→Heap→Prop} {d:DefRec} {K:Params→PySem.W.Frag} {CX:World→rL} {sp:World→Sp} {x:Str}
  (hn:l.most=some n) (hn2:n≤sizeLine) (hdf:d.params.defaults=[]) (hr:vq k callerA)
  (hY:∀(w:World) (h:Heap),YP w h→(K w.params).In h)
  (F:∀(w:World) (mg:Str→Option Value) (fa:Addr) (h:Heap),(K w.params).In h→h.Ns mainGlobals mg→mg d.name=some (.ref fa)→
   ∃fd:FuncData,(∀(s:Shared) (u:Value),BindsTo s fd ⟨[u],[]⟩ [(x,u)])∧
    ∀base:Heap,(K w.params).In base→base.Ns mainGlobals mg→qV l.prog w (K w.params) mg base (CX w) k fa fd [x] (sp w))
  (hsp:∀(w:World) (H:Hp) (a:Addr) (ns:List Int),ns.length≤n→QP H→qL (K w.params) H a (ns.map V.int)→sp w [.ref a] H (fun v _=>v=.bl true) fun _ _ _=>False)
  (hCX:∀(w:World) (H:Hp) (s:Shared) (e:Value) (s':Shared),CX w [] H s (fun _ _ _=>False) e s'→False) :
  PySem.W.WalkO q loose XP YP l.row.toRowW d [] (fun f vs=>PySem.call f vs):=by
 refine Att.nD hn hdf fun w s₀ s₁ mg mb fa o pm cd doc a vs ns G Y ho hd hcd hmg hobj hints hlen hg=>?_
 have KX:=hY w _ Y
 obtain⟨fd,hb,hF⟩:=F w mg fa _ KX G.T.g hmg
 exact Jm KX G.T.g G.T.b G.T.builtins G.T.nolimit hg hobj hints (Nat.le_trans hlen hn2) hr hF hb (fun H hO hS=>hsp w H a ns hlen hO hS) fun H e s'=>hCX w H s₁ e s'
theorem XZ {l:PySem.W.OpenLaw} {n k:Nat} {q:Program} {loose:List Str} {XP:(Str→Option Value)→Heap→Prop} {YP:World→Heap→Prop} {d:DefRec} {K:Params→PySem.W.Frag} {CX:rL} {sp:PySem.W.Frag→Sp} {x:Str}
  (hn:l.most=some n) (hn2:n≤sizeLine) (hdf:d.params.defaults=[]) (hr:vq k callerA)
  (hY:∀(w:World) (h:Heap),YP w h→(K w.params).In h)
  (F:∀(w:World) (mg:Str→Option Value) (fa:Addr) (h:Heap),(K w.params).In h→h.Ns mainGlobals mg→mg d.name=some (.ref fa)→
   ∃fd:FuncData,(∀(s:Shared) (u:Value),BindsTo s fd ⟨[u],[]⟩ [(x,u)])∧
    ∀base:Heap,(K w.params).In base→base.Ns mainGlobals mg→qV l.prog w (K w.params) mg base CX k fa fd [x] (sp (K w.params)))
  (hsp:∀(K:PySem.W.Frag) (H:Hp) (a:Addr) (ns:List Int),ns.length≤n→QP H→qL K H a (ns.map V.int)→sp K [.ref a] H (fun v _=>v=.bl true) fun _ _ _=>False)
  (hCX:∀(H:Hp) (s:Shared) (e:Value) (s':Shared),CX [] H s (fun _ _ _=>False) e s'→False) :
  PySem.W.WalkO q loose XP YP l.row.toRowW d [] (fun f vs=>PySem.call f vs):=
 K6 (K:=K) (CX:=fun _=>CX) (sp:=fun w=>sp (K w.params)) hn hn2 hdf hr hY F (fun w H a ns h1 h2 h3=>hsp (K w.params) H a ns h1 h2 h3) fun _ H s e s'=>hCX H s e s'
end L2
namespace L2
open PySem PySem.Spec PyProof.Rows
noncomputable def inClass (s:Stmt) (j:Nat):Stmt:=match s with
 | .ClassDef _ _ _ body _ _ _ _ _ _ _=>body.getD j (.Pass ⟨0,0,0,0⟩)
 | _=>.Pass ⟨0,0,0,0⟩
noncomputable def qx (s:Stmt):Arguments:=match s with
 | .FunctionDef _ a _ _ _ _ _ _ _ _=>a
 | _=>{ posonlyargs:=[],args:=[],vararg:=none,kwonlyargs:=[],kw_defaults:=[],kwarg:=none,defaults:=[] }
noncomputable def qq (s:Stmt):List Stmt:=match s with
 | .FunctionDef _ _ b _ _ _ _ _ _ _=>b
 | _=>[]
noncomputable def z6 (s:Stmt):Scope:=match s with
 | .FunctionDef _ _ _ _ _ _ sc _ _ _=>sc
 | _=>{ kind:=.function,names:=[],isGenerator:=false,isCoroutine:=false }
noncomputable abbrev jW:rL:=fun _ _ _ _ _ _=>False
noncomputable abbrev E0:XK:=fun _ _ _=>False
theorem qJ {X:Cx}:Passes jW X E0:=fun _ _ _ _ _ _ _ h=>h.elim
structure XU (K:PySem.W.Frag) (x qual:Str) (st:Stmt) (f:Addr) (fd:FuncData):Prop where
 ex:∃(oc:Value) (od:Option Addr) (kV doc pm:Value) (an:Option Addr) (cdv ct:Value) (osl:Array (Option Value)),
  fd=PySem.W.fnOf x qual (qx st) (qq st) (z6 st) .none kV doc pm an cdv ct∧K.lookup f=some ⟨oc,od,.func fd,osl⟩∧PySem.W.codeIn K cdv qual=true
 kp:PySem.W.keepIn K (.ref f)=true
section
variable {P:Program} {w:World} {K:PySem.W.Frag} {mg:Str→Option Value} {base:Heap}
theorem XU.ok {x qual:Str} {st:Stmt} {f:Addr} {fd:FuncData} {N ps:List Str} {k:Nat} {sp:Sp} (F:XU K x qual st f fd) (S:qX N ps (z6 st)) (len:∀vs H Q E,sp vs H Q E→vs.length=ps.length)
  (hbody:∀(cdv:Value) (A:Around) (outer:List Env) (s:Shared) (H:Hp) (vs:List V) (Q:VK) (E:XK),vq k (A.deeper (envOfC qual (z6 st) s.heap.objs.size f cdv))→sp vs H Q E→
   ∃t,iP (sL jW P w K mg base N qual (z6 st) f cdv A outer s H E).GD (qq st) t∧t { nx:=fun _ H'=>Q .non H',rt:=Q } (start N vs) H):qV P w K mg base jW (k + 1) f fd ps sp:=by
 obtain⟨oc,od,kV,doc,pm,an,cdv,ct,osl,rfl,lk,hcd⟩:=F.ex
 refine Vb lk hcd S len fun A outer s H vs Q E hr hsp=>?_
 obtain⟨t,h,q⟩:=hbody cdv A outer s H vs Q E hr hsp
 exact⟨t,h.GD,q⟩
theorem XU.binds {x qual:Str} {st:Stmt} {f:Addr} {fd:FuncData} {ps:List Str} (F:XU K x qual st f fd)
  (h:∀(kV doc pm:Value) (an:Option Addr) (cdv ct:Value) (us:List Value),us.length=ps.length→bindArgs (PySem.W.fnOf x qual (qx st) (qq st) (z6 st) .none kV doc pm an cdv ct) ⟨us,[]⟩=pure (ps.zip us)):Binds K fd ps []:=by
 obtain⟨oc,od,kV,doc,pm,an,cdv,ct,osl,rfl,lk,hcd⟩:=F.ex
 exact .all (h kV doc pm an cdv ct)
theorem qP {x qual:Str} {st:Stmt} {f:Addr} {oc:Value} {od an:Option Addr} {osl:Array (Option Value)} {kV doc pm cdv ct:Value} (l:K.lookup f=some ⟨oc,od,.func (PySem.W.fnOf x qual (qx st) (qq st) (z6 st) .none kV doc pm an cdv ct),osl⟩)
  (c:PySem.W.codeIn K cdv qual=true) (k:PySem.W.keepIn K (.ref f)=true):XU K x qual st f (PySem.W.fnOf x qual (qx st) (qq st) (z6 st) .none kV doc pm an cdv ct):=⟨⟨oc,od,kV,doc,pm,an,cdv,ct,osl,rfl,l,c⟩,k⟩
end
theorem a7 {A:Around} {k:Nat} (hr:vq k A):A.units + 1 < cLine:=Nat.lt_of_le_of_lt (Nat.add_le_add_left (by decide:1≤64) _) hr.units
theorem d8 {n:Nat} (h:n≤1000):n < sizeLine:=Nat.lt_of_le_of_lt h (by decide)
section
variable {X:Cx}
theorem pv (i:Nat) {x:Str} {pos:Pos} (hN:X.N[i]?=some x:=by rfl) (hv:GY X.env.scope x:=by first | exact Or.inl rfl | exact Or.inr (Or.inl rfl) | exact Or.inr (Or.inr rfl)) (hd:(x == ("__debug__" : Str))=false:=by decide)
  (hcd:(x == ("__classdict__" : Str))=false:=by decide):PE X (.Name x pos) (Ge i):=WD hN hv hd hcd
end
theorem fG {A B:Prop} (h:B):if false=true then A else B:=by
 rw[if_neg Bool.false_ne_true]
 exact h
theorem tf {A B:Prop} (h:A):if true=true then A else B:=by
 rw[if_pos rfl]
 exact h
theorem jo {c A B:Prop} [Decidable c] (h1:c→A) (h2:¬c→B):if c then A else B:=by
 by_cases h:c
 ·rw[if_pos h]
  exact h1 h
 ·rw[if_neg h]
  exact h2 h
theorem YF {c A B:Prop} [Decidable c] (hc:c) (h:B):if (!decide c)=true then A else B:=by
 rw[decide_eq_true hc]
 exact fG h
noncomputable def qp (H H':Hp):Prop:=∀b o,H b=some o→H' b=some o
theorem qp.refl (H:Hp):qp H H:=fun _ _ h=>h
theorem qp.trans {H H1 H2:Hp} (a:qp H H1) (b:qp H1 H2):qp H H2:=fun c o h=>b c o (a c o h)
theorem qp.free {H H':Hp} (e:qp H H') {l:Addr} (h:H' l=Option.none):H l=Option.none:=by
 cases q:H l with
 | none=>rfl
 | some o=>
  rw[e l o q] at h
  cases h
theorem qp.seq {K:PySem.W.Frag} {H H':Hp} {a:Addr} {xs:List V} (e:qp H H') (h:qL K H a xs):qL K H' a xs:=by
 rcases h with (h | ⟨o,h⟩) | h
 ·exact .inl (.inl (e _ _ h))
 ·exact .inl (.inr ⟨o,e _ _ h⟩)
 ·exact .inr h
end L2
namespace L2
open PySem PySem.Spec PyProof.Rows
section
variable {X:Cx}
end
noncomputable def GV (z:Str):It:=⟨fun i _=>i < z.length,fun i H x H'=>H'=H∧∃c,z.cps[i]?=some c∧x=.str ⟨#[c]⟩,fun i _=>i=z.length⟩
theorem so {prog:Program} {w:World} {A:Around} (hh:A.handled=none) (I:Addr) (x:Str) (t:Tok) :
  Walks prog w A I [I] [I] x.cps.size (SignAt x) (fun i h=>h.IsStrIter I (strIterType x) x t i):=by
 unfold strIterType
 split
 ·exact Walks.strAscii hh I x t
 ·exact Walks.strWide hh I x t
theorem lu (z:Str):["enumerate","zip","dict_itemiterator","dict_reverseitemiterator","odict_iterator","itertools.zip_longest","itertools.pairwise"].contains (strIterType z)=false:=by
 unfold strIterType
 split<;>decide
theorem Xn {P:Program} {w:World} {K:PySem.W.Frag} {tg:Expr} (z:Str) (t:Tok) (it:Addr):Turn P w K tg (GV z) [it] it (fun i h=>h.IsStrIter it (strIterType z) z t i) where
 mem:=by simp
 obj:=fun i h st b hb=>by
  have e:b=it:=by simpa using hb
  subst e
  obtain⟨o,e,c,d⟩:=st
  exact⟨o,e,fun v q=>by rw[d] at q;cases q⟩
 keep:=fun i h h' st k=>by
  obtain⟨o,e,r⟩:=st
  exact⟨o,k it (by simp) o e,r⟩
 item:=by
  intro X hP hw hK hc i pins s σ H E I hf st hg
  subst hP hw hK
  obtain⟨f0,f1,f2,f3,f4,f5⟩:=hf it (by simp)
  have W:=so (prog:=X.prog) (w:=X.w) (I.ok.hd hc) it z t
  refine W.item i s _ _ (show i < z.cps.size from hg) st fun v h' tk hv st' kk=>?_
  obtain⟨c,u,hcx,rfl⟩:=hv
  have I1:Inv X pins σ H { s with heap:=h',toks:=tk }:=I.turned (fun b o hb e=>kk b o (by simpa using hb) e) f0 f1 f3 f4 f5
  obtain⟨o,e,hcl,d⟩:=id st'
  exact⟨_,rfl,Jk (s:={ s with heap:=h',toks:=tk }) e hcl d (lu z) ⟨.str ⟨#[c]⟩,H,I1,⟨u,rfl⟩,⟨rfl,c,hcx,rfl⟩,st',fun b hb=>(hf b hb).1⟩⟩
 done:=by
  intro X hP hw hK hc i pins s σ H E I hf st hg
  subst hP hw hK
  obtain⟨f0,f1,f2,f3,f4,f5⟩:=hf it (by simp)
  have hi:i=z.length:=hg
  subst hi
  have W:=so (prog:=X.prog) (w:=X.w) (I.ok.hd hc) it z t
  exact W.done s _ _ st fun h' tk kk=>⟨rfl,I.turned (fun b o hb e=>kk b o (by simpa using hb) e) f0 f1 f3 f4 f5⟩
 self:=fun A i s Q E st h=>by
  revert st
  unfold strIterType
  split
  ·intro st
   exact wpAny_pyIter_striter_ascii st h
  ·intro st
   exact wpAny_pyIter_striter_wide st h
section
variable {X:Cx} {tg:Expr}
noncomputable def Hb (tl:TE):TI:=fun σ H R=>tl σ H fun x H1=>∃z,x=.str z∧R (GV z) H1
theorem WU {l:Expr} {tl:TE} (hl:PE X l tl):PI X tg l (Hb tl):=by
 intro pins s σ H R I h
 refine xf (hl pins s σ H _ I h) fun v s1 ⟨x,H1,I1,r1,q1⟩=>?_
 obtain⟨z,e,q⟩:=q1
 subst e
 obtain⟨t,rfl⟩:=r1
 refine wpAny_pyIter_strU ?_
 refine⟨s1.heap.objs.size,[s1.heap.objs.size],_,_,H1,rfl,I1.kept (t':=s1.toks) fun b o e=>Heap.get?_push_of_some _ e,Xn z t _,⟨_,Heap.get?_push_size _ rfl,rfl,rfl⟩,fun b hb=>?_,q⟩
 have e:b=s1.heap.objs.size:=by simpa using hb
 subst e
 exact I1.ZR (Nat.le_refl _) (I1.jx.fresh (Nat.le_refl _))
end
noncomputable def BE:V→Option Int→Option Int→Hp→VK→Prop:=fun x lo hi H Q=>∃z,x=.str z∧z.length≤sizeLine∧Q (.str (Txt.slice z lo hi)) H
section
variable {X:Cx}
theorem eO {ns:List Str}:∀{us:List Value},Vals (ns.map V.str) us→StrsAre us ns:=by
 induction ns with
 | nil=>intro us h;cases h;exact .nil
 | cons n ns ih=>
  intro us h
  cases h with
  | cons r t=>
   obtain⟨tk,rfl⟩:=r
   exact .cons n tk (ih t)
noncomputable def rJoin (K:PySem.W.Frag):V→List V→Hp→VK→Prop:=fun x vs H Q=>∃z p ys,x=.str z∧vs=[.ref p]∧qL K H p (ys.map V.str)∧(ys.map (·.length)).sum + ys.length * z.length≤16777216∧Q (.str (Txt.join z ys)) H
theorem Ky:Qi X "str.join" (rJoin X.K):=by
 intro pins s σ H x vs v us Q I rx rv h
 obtain⟨z,p,ys,rfl,rfl,hq,hz,q⟩:=h
 obtain⟨t,rfl⟩:=rx
 obtain⟨u,rfl,ru⟩:=rv.one
 cases ru
 obtain⟨its,r,pl,_⟩:=I.list hq
 exact join_list pl.isList (eO (by simpa using r)) hz fun t' k=>⟨.str (Txt.join z ys),H,I.tok _,⟨t',rfl⟩,q⟩
noncomputable def Bm:R2:=fun x y H Q=>∃z n,x=.str z∧y=.int n∧MulOk z n∧Q (.str (Txt.mul z n)) H
noncomputable def Bp:V→List V→Hp→VK→Prop:=fun x vs H Q=>∃z y,x=.str z∧vs=[.str y]∧Q (.int (Txt.find z y)) H
theorem rO:vw X (.type "int") (fun xs H Q=>∃z n,xs=[.str z]∧PySem.intText? z=some n∧z.length≤640∧Q (.int n) H):=by
 intro pins s σ H xs us Q I r h
 obtain⟨z,n,rfl,hn,hl,q⟩:=h
 obtain⟨u,rfl,t,rfl⟩:=vals1 r
 exact PySem.W.KIN.call_text hn hl ⟨.int n,H,I.tok _,⟨_,rfl⟩,q⟩
noncomputable def QE:V→Value
 | .ty n=>.type n
 | .ref a=>.ref a
 | _=>.none
theorem nL:vw X (.builtin "isinstance") (fun xs H Q=>∃x c t b,xs=[x,c]∧((∃n,c=.ty n)∨∃a,c=.ref a)∧bc X.K H x t∧PySem.W.kitOne X.K t (QE c)=some b∧Q (.bl b) H):=by
 intro pins s σ H xs us Q I r h
 obtain⟨x,c,t,b,rfl,hc,ty,hk,q⟩:=h
 obtain⟨u,u',rfl,rx,rc⟩:=vals2 r
 have e:u'=QE c:=by
  rcases hc with ⟨n,rfl⟩ | ⟨a,rfl⟩
  ·exact rc
  ·exact rc
 subst e
 exact ZT I rx ty hk fun tk=>⟨.bl b,H,I.tok _,rfl,q⟩
theorem range_all (bs:List Bool):(List.range bs.length).all (fun i=>bs.getD i true)=bs.all id:=by
 rw[Bool.eq_iff_iff,List.all_eq_true,List.all_eq_true]
 constructor
 ·intro h x hx
  obtain⟨i,hi,e⟩:=List.getElem_of_mem hx
  have:=h i (List.mem_range.mpr hi)
  rw[List.getD_eq_getElem?_getD,List.getElem?_eq_getElem hi] at this
  rw[←e]
  exact this
 ·intro h i hi
  have hi':=List.mem_range.mp hi
  rw[List.getD_eq_getElem?_getD,List.getElem?_eq_getElem hi']
  exact h _ (List.getElem_mem hi')
theorem gQ (hc:X.calm=true):vw X (.builtin "all") (fun xs H Q=>∃(p:Addr) (bs:List Bool),xs=[.ref p]∧qL X.K H p (bs.map V.bl)∧Q (.bl (bs.all id)) H):=by
 intro pins s σ H xs us Q I r h
 obtain⟨p,bs,rfl,hq,q⟩:=h
 obtain⟨u,rfl,ru⟩:=vals1 r
 cases ru
 obtain⟨its,rv,pl,_⟩:=I.list hq
 have hl:=rv.length
 rw[List.length_map] at hl
 refine call_all_walk (wpAny_pyIter_list pl.isList ?_)
 have hne:p≠s.heap.objs.size:=Nat.ne_of_lt (by obtain⟨o,n,e,_⟩:=pl;exact Heap.lt_size e)
 refine⟨s.heap.objs.size,_,_,_,_,_,fun i=>bs.getD i true,rfl,Walks.list (show X.A.in1.handled=none from I.ok.hd hc) s.heap.objs.size p hne its.toArray,⟨⟨_,Heap.get?_push_size _ rfl,rfl,rfl⟩,?_⟩,?_,?_⟩
 ·obtain⟨o,e,rest⟩:=pl.isList
  exact⟨o,Heap.get?_push_of_some _ e,rest⟩
 ·intro i v s' Q' E' hv hQ'
  have hv':its[i]?=some v:=by simpa using hv
  have hi:i < bs.length:=by rw[hl];exact(List.getElem?_eq_some_iff.mp hv').1
  obtain⟨u,e1,e2⟩:=rv.get (i:=i) (x:=V.bl bs[i]) (by rw[List.getElem?_map,List.getElem?_eq_getElem hi];rfl)
  rw[hv'] at e1
  cases e1
  cases e2
  dsimp only at hQ'
  rw[List.getD_eq_getElem?_getD,List.getElem?_eq_getElem hi] at hQ'
  exact wpAny_truthy_bool hQ'
 ·intro h' tk kk
  have I1:Inv X pins σ H { s with heap:=h',toks:=tk }:=I.kept fun b o e=>kk b o (by
   intro z
   have z':b=s.heap.objs.size:=by simpa using z
   exact absurd (Heap.lt_size e) (by rw[z'];exact Nat.lt_irrefl _)) (Heap.get?_push_of_some _ e)
  refine⟨.bl _,H,I1,?_,q⟩
  show Value.bool _=Value.bool _
  rw[List.size_toArray,←hl,range_all]
mutual
inductive sX (K:PySem.W.Frag) (H:Hp):V→PyData→Prop where
 | non:sX K H .non .none
 | bl (b:Bool):sX K H (.bl b) (.bool b)
 | int (i:Int):sX K H (.int i) (.int i)
 | str (x:Str):sX K H (.str x) (.str x)
 | lst {a:Addr} {xs:List V} {ds:List PyData}:qL K H a xs→bf K H xs ds→sX K H (.ref a) (.list ds)
 | tup {a:Addr} {xs:List V} {ds:List PyData}:yc K H a xs→bf K H xs ds→sX K H (.ref a) (.tuple ds)
inductive bf (K:PySem.W.Frag) (H:Hp):List V→List PyData→Prop where
 | nil:bf K H [] []
 | cons {x:V} {xs:List V} {d:PyData} {ds:List PyData}:sX K H x d→bf K H xs ds→bf K H (x :: xs) (d :: ds)
end
mutual
theorem sX.reads {pins:List (Addr × Obj)} {σ:St} {H:Hp} {s:Shared} (I:Inv X pins σ H s):∀{x:V} {d:PyData} {v:Value},sX X.K H x d→RelV x v→∃as,Reads s.heap v d as
 | _,_,_,.non,r=>by cases r;exact⟨_,.none⟩
 | _,_,_,.bl b,r=>by cases r;exact⟨_,.bool b⟩
 | _,_,_,.int i,r=>by obtain⟨t,rfl⟩:=r;exact⟨_,.int i t⟩
 | _,_,_,.str x,r=>by obtain⟨t,rfl⟩:=r;exact⟨_,.str x t⟩
 | _,_,_,.lst hq rs,r=>by
  cases r
  obtain⟨its,rv,pl,_⟩:=I.list hq
  obtain⟨as,ra⟩:=bf.reads I rs rv
  obtain⟨o,n,e,c,_,d⟩:=pl
  exact⟨_,.list e c d (by simpa using ra)⟩
 | _,_,_,.tup hq rs,r=>by
  cases r
  obtain⟨its,rv,pl,_⟩:=I.tuple hq
  obtain⟨as,ra⟩:=bf.reads I rs rv
  obtain⟨o,e,c,n,d⟩:=pl
  exact⟨_,.tuple e c d (by simpa using ra)⟩
theorem bf.reads {pins:List (Addr × Obj)} {σ:St} {H:Hp} {s:Shared} (I:Inv X pins σ H s):∀{xs:List V} {ds:List PyData} {vs:List Value},bf X.K H xs ds→Vals xs vs→∃as,ReadsAll s.heap vs ds as
 | _,_,_,.nil,r=>by cases r;exact⟨_,.nil⟩
 | _,_,_,.cons q qs,r=>by
  cases r with
  | cons r rs=>
   obtain⟨as,ra⟩:=sX.reads I q r
   obtain⟨bs,rb⟩:=bf.reads I qs rs
   exact⟨_,.cons ra rb⟩
end
noncomputable def KG (K:PySem.W.Frag) (neg:Bool):R2:=fun x y H Q=>∃d e,sX K H x d∧sX K H y e∧SeqAt.shaped d=true∧SeqAt.shaped e=true∧Q (.bl (if neg then !PyData.eqv d e else PyData.eqv d e)) H
theorem WV (hu:X.A.units + 64 < cLine):pq X (compareOp .Eq) (KG X.K false):=by
 intro pins s σ H x y v u Q I rx ry h
 obtain⟨d,e,h1,h2,h3,h4,q⟩:=h
 obtain⟨as,ra⟩:=h1.reads I rx
 obtain⟨bs,rb⟩:=h2.reads I ry
 exact eq_dataH ra rb h3 h4 hu ⟨.bl _,H,I,rfl,q⟩
theorem WW (hu:X.A.units + 64 < cLine):pq X (compareOp .NotEq) (KG X.K true):=by
 intro pins s σ H x y v u Q I rx ry h
 obtain⟨d,e,h1,h2,h3,h4,q⟩:=h
 obtain⟨as,ra⟩:=h1.reads I rx
 obtain⟨bs,rb⟩:=h2.reads I ry
 exact ne_dataH ra rb h3 h4 hu ⟨.bl _,H,I,rfl,q⟩
theorem bf.strs {K:PySem.W.Frag} {H:Hp}:∀xs:List Str,bf K H (xs.map V.str) (xs.map PyData.str)
 | []=>.nil
 | x :: r=>.cons (.str x) (bf.strs r)
theorem eqvAll_map {α : Type} [DecidableEq α] {f : α → PyData} (hf : ∀ x y, PyData.eqv (f x) (f y) = decide (x = y)) (xs : List α) : ∀ ys : List α, PyData.eqvAll (xs.map f) (ys.map f) = decide (xs = ys) := by
  induction xs with
  | nil => intro ys; cases ys <;> simp [PyData.eqvAll]
  | cons x r ih =>
    intro ys
    cases ys
    · simp [PyData.eqvAll]
    · simp [PyData.eqvAll, hf, ih]
theorem cg (xs ys : List Str) : PyData.eqvAll (xs.map PyData.str) (ys.map PyData.str) = decide (xs = ys) := eqvAll_map (fun x y => by rw [PyData.eqv]; by_cases h : x = y <;> simp [h]) xs ys
theorem cv:∀xs:List Str,(∀x∈xs,PyData.strOk x=true)→PyData.canLayAll0 (xs.map PyData.str)=true∧PyData.depthAll (xs.map PyData.str)=0
 | [],_=>⟨rfl,rfl⟩
 | x :: r,h=>by
  have q:=cv r fun y hy=>h y (List.mem_cons_of_mem _ hy)
  simp [PyData.canLayAll0,PyData.canLay0,PyData.depthAll,PyData.depth,q.1,q.2,h x List.mem_cons_self]
theorem yg {xs:List Str} (h:∀x∈xs,PyData.strOk x=true):SeqAt.shaped (.list (xs.map PyData.str))=true:=by
 have q:=cv xs h
 simp [SeqAt.shaped,PyData.canLay0,PyData.depth,q.1,q.2]
end
section
variable {X:Cx} {CX:rL} {k:Nat} {f C:Addr} {fd:FuncData} {ps:List Str} {sp:Sp} {dvs:List V} {ds:List Value} {E:XK} {x m:Str} {p pos apos:Pos} {e:Expr} {es:List Expr} {t:TA}
structure QG (K:PySem.W.Frag) (C:Addr) (m:Str) (f:Addr):Prop where
 ga:PySem.W.specialIn K (.ref C) "__getattribute__" = some (some (.builtin "type.__getattribute__"))
 rd:PySem.W.readsIn K C (.type "type")=true
 at_:PySem.W.findCls K (.ref C) (.type "type") m=some (.val (.ref f))
 kp:PySem.W.keepIn K (.ref f)=true
theorem u9 {pl:Sem Bool} (hg:Gl X x) (hm:X.mg x=some (.ref C)) (c:QG X.K C m f) (F:qV X.prog X.w X.K X.mg X.base CX k f fd ps sp) (hr:vq k X.A) (hb:Binds X.K fd ps ds) (hd:Vals dvs ds) (hx:Passes CX X E) (ha:PA X (e :: es) t)
  (hst:starEach (e :: es) X.env=(false,eval e X.env) :: starEach es X.env:=by rfl) (hpl:(backTo pos (starEach es X.env)).any (·.1)=false:=by rfl) (hdb:(x == ("__debug__" : Str))=false:=by decide)
  (ht:eval (.Call (.Attribute (.Name x p) m apos) (e :: es) [] pos) X.env=(do
   let ov ←eval (.Name x p) X.env
   standAt apos.atName
   let (f,first) ←holding [ov] (getMethod ov m pl)
   callWith pos f first (backTo pos (starEach (e :: es) X.env)) (backToKw pos (keywordEach [] X.env))):=by rfl) :
  PE X (.Call (.Attribute (.Name x p) m apos) (e :: es) [] pos) (Xu sp dvs E t):=by
 intro pins s σ H Q I h
 refine PySem.W.methodCall_KW (pl:=pl) (gc I hg hm ?_ hdb) ht
 refine PySem.W.method_cls I.gU c.ga (PySem.W.cls_value I.gU c.rd c.at_ rfl ?_)
 refine PySem.W.callWith_K (first:=[]) (h₀:=X.base) I.ok.mod.QK c.kp (xf (ha pos pins _ σ H _ (I.tok _) h) fun us s1 ⟨vs,H1,I1,r,q⟩=>⟨I1.gU,?_⟩) hst hpl
 exact tI F hr hb hd hx I1 r q
end
end L2
namespace L2
open PySem PySem.Spec PyProof.Rows
noncomputable def jh (env:Env):List (Str × NameKind)→List (Str × Addr)→List (Str × Addr)
 | [],acc=>acc
 | (n,k) :: r,acc=>jh env r (if k == .free then (n,(env.cells.lookup n).getD 0) :: acc else acc)
theorem fB {sc:Scope} {env:Env} (h:∀y∈sc.names,y.2=.free→∃c,env.cells.lookup y.1=some c):closureFor sc env=pure (jh env sc.names []):=by
 simp only[closureFor]
 have key:∀(l:List (Str × NameKind)) (acc:List (Str × Addr)),(∀y∈l,y.2=.free→∃c,env.cells.lookup y.1=some c)→
   (forIn l acc (fun (x:Str × NameKind) (r:List (Str × Addr))=>if (x.2 == NameKind.free)=true then do let a ←cellOf env x.1;pure (ForInStep.yield ((x.1,a) :: r)) else pure (ForInStep.yield r)):Sem (List (Str × Addr)))=pure (jh env l acc):=by
  intro l
  induction l with
  | nil=>intro acc _;rfl
  | cons y r ih=>
   intro acc hl
   obtain⟨n,k⟩:=y
   rw[List.forIn_cons]
   have ih':=fun acc=>ih acc fun z hz=>hl z (List.mem_cons_of_mem _ hz)
   by_cases hk:(k == NameKind.free)=true
   ·obtain⟨c,hc⟩:=hl (n,k) List.mem_cons_self (by simpa using hk)
    have hc':env.cells.lookup n=some c:=hc
    have e1:cellOf env n=pure c:=by unfold cellOf;rw[hc']
    simp only[hk,if_true,e1,jh,hc',Option.getD_some]
    exact ih' _
   ·simp only[hk,jh]
    exact ih' _
 rw[key sc.names [] h]
 rfl
theorem vJ {env:Env}:∀(l:List (Str × NameKind)) (acc:List (Str × Addr)),(∀z c,acc.lookup z=some c→c=(env.cells.lookup z).getD 0)→
  (∀z c,(jh env l acc).lookup z=some c→c=(env.cells.lookup z).getD 0)∧(∀z,(jh env l acc).lookup z=none↔(acc.lookup z=none∧(z,NameKind.free)∉l))
 | [],acc,h=>⟨h,fun z=>by simp [jh]⟩
 | (n,k) :: r,acc,h=>by
  by_cases hk:(k == NameKind.free)=true
  ·have hk':k=.free:=by simpa using hk
   subst hk'
   have h':∀z c,((n,(env.cells.lookup n).getD 0) :: acc).lookup z=some c→c=(env.cells.lookup z).getD 0:=by
    intro z c e
    rw[List.lookup_cons] at e
    cases hz:z == n with
    | true=>
     rw[hz] at e
     have e':(env.cells.lookup n).getD 0=c:=by simpa using e
     rw[beq_iff_eq.mp hz,e']
    | false=>
     rw[hz] at e
     exact h z c (by simpa using e)
   obtain⟨a,b⟩:=vJ r _ h'
   refine⟨by simpa [jh] using a,fun z=>?_⟩
   have b':=b z
   show (jh env r (if (NameKind.free == NameKind.free)=true then _ else acc)).lookup z=none↔_
   rw[if_pos hk,b',List.lookup_cons]
   cases hz:z == n with
   | true=>
    have:z=n:=beq_iff_eq.mp hz
    subst this
    simp
   | false=>
    have hne:z≠n:=by intro q;subst q;simp at hz
    simp [hne]
  ·obtain⟨a,b⟩:=vJ r acc h
   have e0:jh env ((n,k) :: r) acc=jh env r acc:=by
    show jh env r (if (k == NameKind.free)=true then _ else acc)=_
    rw[if_neg hk]
   rw[e0]
   refine⟨a,fun z=>?_⟩
   rw[b z]
   have hne:¬(NameKind.free=k):=by intro q;subst q;exact hk rfl
   simp [hne]
/-- a map that Wd the keys alone changes what stands behind a key, and nothing else -/
theorem lookup_vals {α β : Type} {f : Str × α → Str × β} (hf : ∀ p, (f p).1 = p.1) (x : Str) (l : List (Str × α)) : (l.map f).lookup x = (l.lookup x).map fun k => (f (x, k)).2 := by
  induction l with
  | nil => rfl
  | cons p r ih =>
    obtain ⟨n, k⟩ := p
    have e : f (n, k) = (n, (f (n, k)).2) := Prod.ext (hf _) rfl
    rw [List.map_cons, e]
    by_cases q : x = n
    · subst q
      simp [List.lookup_cons]
    · simp [List.lookup_cons, beq_false_of_ne q, ih]
theorem kG {env : Env} {sc : Scope} {x : Str} : (relabel sc env).names.lookup x = (sc.names.lookup x).map fun k => if k == .free && env.scope.kind == .function && env.kindOf x == some .cell then .cell else k := by
  show (List.map _ sc.names).lookup x = _
  rw [lookup_vals (fun p => by dsimp only; split <;> rfl)]
  congr 1
  funext k
  dsimp only
  split <;> rfl
structure gY (osc:Scope) (N:List Str) (sc:Scope) (x:Str) (names:List Str) (qC:List Nat):Prop where
 kind:sc.kind=.function
 uI:∀y∈sc.names,y.2≠.cell
 locs:∀y∈sc.names,y.2=.local→sc.names.lookup y.1=some .local
 frees:∀y∈sc.names,y.2=.free→osc.names.lookup y.1=some .cell
 own:sc.names.lookup x=some .local
 qC:names.map some=qC.map fun i=>N[i]?
 iI:∀y∈names,sc.names.lookup y=some .free
 nd:(x :: names).Nodup
noncomputable def yu (X:Cx) (sc:Scope) (x:Str) (names:List Str) (fp:List Addr) (s₀:Shared) (H₀:Hp):Cx where
 prog:=X.prog
 w:=X.w
 K:=X.K
 mg:=X.mg
 base:=X.base
 A:=X.A
 N:=x :: names
 s₀:=s₀
 H₀:=H₀
 env:=compEnvC sc (jh X.env sc.names []) s₀.heap.objs.size X.env
 outer:=X.stack
 stack:=X.stack
 ex:=fp
 fn:=fun _=>false
 calm:=X.calm
 pn:=[]
 xe:=fun _ _=>False
noncomputable def wQ (σ:St) (qC:List Nat):St:=qC.map fun i=>(σ[i]?).join
noncomputable def au (J:It) (qC:List Nat) (te:TE) (σ:St) (Q:VK) (H1:Hp):Prop:=∀D,H1 D=none→∃W:Nat→Nat→Hp→Prop,(∃m,W 0 m (upd H1 D (.lst [])))∧∀i m H2,W i m H2→
 (J.stop i H2∧Q (.ref D) H2)∨(J.go i H2∧∀y H3,J.VD i H2 y H3→te (some y :: wQ σ qC) H3 fun v H4=>∃ys,H4 D=some (.lst ys)∧ys.length < sizeLine∧∃m',m' < m∧W (i + 1) m' (upd H4 D (.lst (ys ++ [v]))))
noncomputable def VY (qC:List Nat) (wi:TI) (te:TE):TE:=fun σ H Q=>wi σ H fun J H1=>au J qC te σ Q H1
/-- what comes behind what is known of a first step -/
theorem sq2 {M : Model} {A : Around} {E : Value → Shared → Prop} {s : Shared} {α β : Type} {x : Sem α} {f : α → Sem β} {Q1 : α → Shared → Prop} {Q : β → Shared → Prop} (h : wpAny M A x Q1 E s) (k : ∀ a s1, Q1 a s1 → wpAny M A (f a) Q E s1) : wpAny M A (x >>= f) Q E s := wpAny_bind (xf h k)
/-- a step of a comprehension's turn: what it raises is noted in the comprehension's own frame -/
abbrev Noted (prog : Program) (w : World) (A : Around) (env : Env) (R : Result → Shared → Prop) {α : Type} (x : Sem α) (Q : α → Shared → Prop) (s : Shared) : Prop := wpAny (model prog w) A x Q (notedBy (model prog w) A env fun e => R (.error e)) s
abbrev testB (env : Env) (c : Expr) (r : Bool) : Sem (ForInStep Bool) := if r = true then isTrue c env (eval c env) >>= fun ok => pure (.yield ok) else pure (.yield r)
section
variable {prog:Program} {w:World} {A:Around} {R:Result→Shared→Prop} {s:Shared}
theorem nA {el tg src : Expr} {scope : Scope} {pos : Pos} {it acc : Value} {env : Env} (I : Nat → Shared → Prop)
    (turn : ∀ n s, I n s → Noted prog w A env R (pyNext it) (fun r s1 => match r with
      | none => R (.ok .next) s1
      | some v => Noted prog w A env R (letOwnedTupleGo tg it v) (fun _ => Noted prog w A env R (assign tg env v) fun _ => Noted prog w A env R (eval el env) fun x => Noted prog w A env R (call (.builtin "list.append") [acc, x]) fun _ s5 => ∃ m, m < n ∧ I m s5) s1) s) (n : Nat) (h : I n s) :
    codeAny (model prog w) A (.compLoop (.ListComp el [⟨tg, src, [], 0⟩] scope pos) 0 it acc env) R s := by
  refine codeAny_loop rfl I (fun k s1 hI => (?_ : wpAny _ _ (Sem.onRaise _ _) _ _ _)) n h
  refine wpAny_noted (compTurn_list .. ▸ wpAny_bind (wpAny_standAt (sq2 (turn k s1 hI) fun r s2 hr => ?_)))
  cases r
  · exact wpAny_pure hr
  · exact sq2 hr fun _ _ a => sq2 a fun _ _ b => wpAny_bind (wpAny_tests_nil (sq2 (sq2 b fun _ _ c => sq2 c fun _ _ d => wpAny_pure d) fun _ _ e => wpAny_pure ⟨rfl, e⟩))
end
section
variable {X:Cx}
theorem V0 {pins:List (Addr × Obj)} {σ:St} {H:Hp} {s:Shared} {osc:Scope} {N:List Str} {sc:Scope} {x:Str} {names:List Str} {qC:List Nat} {fp:List Addr}
  (hos:X.env.scope=osc) (cs:gY osc N sc x names qC) (I:Inv X pins σ H s) (hf:∀b∈fp,gZ X pins H b) (hlt:∀b∈fp,b < s.heap.objs.size):(yu X sc x names fp s H).Ok:=by
 subst hos
 have cl:=vJ (env:=X.env) sc.names [] (fun z c e=>by simp at e)
 have hcl:∀y c,(jh X.env sc.names []).lookup y=some c→X.env.cells.lookup y=some c:=fun y c e=>by
  have e1:=cl.1 y c e
  have hm:(y,NameKind.free)∈sc.names:=by
   by_cases q:(y,NameKind.free)∈sc.names
   ·exact q
   ·have:=(cl.2 y).mpr ⟨rfl,q⟩
    rw[this] at e;cases e
  obtain⟨c',hc'⟩:=I.ok.has y (.inl (cs.frees _ hm rfl))
  rw[hc'] at e1 ⊢
  rw[e1];rfl
 refine⟨I.ok.mod,?_,I.ok.glob,I.ok.blt,Nat.le_refl _,fun y z c h1 h2=>I.ok.inj y z c (hcl y c h1) (hcl z c h2),fun y hy=>?_,fun y c h=>?_,I.ok.hd,I.ok.frames,.inl rfl,fun b hb=>⟨?_,fun y c h=>?_⟩,
  I.bs,Nat.le_trans I.ok.ZY I.sz,fun b o e hb=>?_,fun b hb z=>?_,I.stack,I.fV⟩
 ·exact cs.kind
 ·have hy':(relabel sc X.env).names.lookup y=some .cell∨(relabel sc X.env).names.lookup y=some .free:=hy
  have key:sc.names.lookup y=some .free:=by
   rw[kG] at hy'
   cases q:sc.names.lookup y with
   | none=>rw[q] at hy';simp at hy'
   | some k=>
    rw[q] at hy'
    have hm:=PySem.mem_of_lookup q
    have hnc:=cs.uI _ hm
    by_cases hk:k=.free
    ·rw[hk]
    ·have e:(if (k == NameKind.free && X.env.scope.kind == .function && X.env.kindOf y == some .cell)=true then NameKind.cell else k)=k:=if_neg (by simp [hk])
     rw[Option.map_some,e] at hy'
     rcases hy' with z | z
     ·exact absurd (Option.some.inj z) hnc
     ·exact absurd (Option.some.inj z) hk
  have hm:=PySem.mem_of_lookup key
  cases q:(jh X.env sc.names []).lookup y with
  | some c=>exact⟨c,q⟩
  | none=>exact absurd hm ((cl.2 y).mp q).2
 ·exact absurd (show false=true from h) (by simp)
 ·exact Nat.ne_of_lt (hlt b hb)
 ·exact(hf b hb).2.2.2.2.1 y c (hcl y c h)
 ·rcases(hf b hb).2.2.2.1 with z | z
  ·exact I.ok.eu b o e z
  ·exact absurd (Nat.lt_of_lt_of_le (Heap.lt_size e) (Nat.le_trans I.ok.ZY z)) (Nat.lt_irrefl _)
 ·rcases List.mem_cons.mp (I.rY b z) with q | q
  ·exact(hf b hb).2.1 q
  ·exact(hf b hb).2.2.1 q
theorem oq {pins:List (Addr × Obj)} {σ:St} {s₂:Shared} {osc:Scope} {N:List Str} {sc:Scope} {x:Str} {px pos:Pos} {elt iter:Expr} {names:List Str} {qC:List Nat} {te:TE} {E:Value→Shared→Prop}
  {RR:Value→Addr→Result→Shared→Prop} {H2:Hp} {it:Addr} {fp:List Addr} {tn:Nat→Heap→Prop} {J:It} {Qd:V→Hp→Prop}
  (hc:X.calm=true) (hos:X.env.scope=osc) (hN:X.N=N) (cs:gY osc N sc x names qC) (he:∀fp s₀ H₀,PE (yu X sc x names fp s₀ H₀) elt te)
  (I2:Inv X pins σ H2 s₂) (T:Turn X.prog X.w X.K (.Name x px) J fp it tn) (st2:tn 0 s₂.heap) (f2:∀b∈fp,gZ X pins H2 b)
  (hW:au J qC te σ Qd H2)
  (cont:∀D C H5 s6 m,Inv X pins σ H5 s6→s6.heap.Ns C m→gZ X pins H5 C→Qd (.ref D) H5→RR (.ref D) C (.ok .next) s6) :
  wpAny (model X.prog X.w) X.A (newList []) (fun acc s₃=>wpAny (model X.prog X.w) X.A (newFunctionEnv sc X.env.globals (jh X.env sc.names []) [] X.env.qual none .none (some X.env)) (fun cenv s₄=>
   codeAny (model X.prog X.w) X.A (.compStart (.ListComp elt [⟨.Name x px,iter,[],0⟩] sc pos) 0 (.ref it) acc { cenv with scope:=relabel sc X.env }) (RR acc cenv.locals) s₄) E s₃) E s₂:=by
 subst hN
 refine wpAny_newObj_type (wpAny_newFunctionEnv cs.uI (by intro y hy;simp at hy) (fun h₁ hns₁ hsb₁=>?_) cs.kind)
 dsimp only at hns₁ hsb₁ ⊢
 have fp2:∀b∈fp,b < s₂.heap.objs.size:=fun b hb=>by
  obtain⟨o,e,_⟩:=T.obj _ _ st2 b hb
  exact Heap.lt_size e
 have I3:Inv X pins σ (upd H2 s₂.heap.objs.size (.lst [])) { s₂ with heap:=s₂.heap.push { cls:=.type "list",dict:=none,data:=.seq ([]:List Value).toArray } }:=I2.Jr (t':=s₂.toks) (its:=[]) .nil (Nat.zero_le _)
 obtain⟨W,⟨m0,w0⟩,turn⟩:=hW s₂.heap.objs.size I2.fresh
 have f3:∀b∈fp,gZ X pins (upd H2 s₂.heap.objs.size (.lst [])) b:=fun b hb=>⟨by rw[qB (Nat.ne_of_lt (fp2 b hb))];exact(f2 b hb).1,(f2 b hb).2⟩
 have hD:∀b o,s₂.heap.get? b=some o→(s₂.heap.push { cls:=.type "list",dict:=none,data:=.seq ([]:List Value).toArray }).get? b=some o:=fun b o e=>Heap.get?_push_of_some _ e
 generalize hs3:({ s₂ with heap:=s₂.heap.push { cls:=.type "list",dict:=none,data:=.seq ([]:List Value).toArray } }:Shared)=s₃ at *
 have hs3h:s₃.heap=s₂.heap.push { cls:=.type "list",dict:=none,data:=.seq ([]:List Value).toArray }:=by rw[←hs3]
 rw[←hs3h] at hns₁ hsb₁ hD ⊢
 have ZU:∀b∈fp,b < s₃.heap.objs.size:=fun b hb=>by
  rw[hs3h,Heap.size_push];exact Nat.lt_succ_of_lt (fp2 b hb)
 have k3:∀b o,s₃.heap.get? b=some o→h₁.get? b=some o:=fun b o e=>hsb₁.extBut b o (Nat.ne_of_lt (Heap.lt_size e)) (Heap.get?_push_of_some _ e)
 have ok:=V0 hos cs I3 f3 ZU
 have cl:=vJ (env:=X.env) sc.names [] (fun z c e=>by simp at e)
 have hcl:∀y c,(jh X.env sc.names []).lookup y=some c→X.env.cells.lookup y=some c:=fun y c e=>by
  have e1:=cl.1 y c e
  have hm:(y,NameKind.free)∈sc.names:=by
   by_cases q:(y,NameKind.free)∈sc.names
   ·exact q
   ·have:=(cl.2 y).mpr ⟨rfl,q⟩
    rw[this] at e;cases e
  obtain⟨c',hc'⟩:=I3.ok.has y (.inl (by show X.env.scope.names.lookup y=_;rw[hos];exact cs.frees _ hm rfl))
  rw[hc'] at e1 ⊢
  rw[e1];rfl
 have cell4:∀y c,(jh X.env sc.names []).lookup y=some c→∀v,s₃.heap.IsCell c v→h₁.IsCell c v:=fun y c e v ⟨o,ho,hd⟩=>⟨o,k3 _ _ ho,hd⟩
 have lenC:qC.length=names.length:=by have:=congrArg List.length cs.qC;simpa using this.symm
 have I4:∀tk,Inv (yu X sc x names fp s₃ (upd H2 s₂.heap.objs.size (.lst []))) [] (none :: wQ σ qC) (upd H2 s₂.heap.objs.size (.lst [])) { s₃ with heap:=h₁,toks:=tk }:=fun tk=>by
  refine⟨ok,rfl,I3.bare,Un.kept k3,⟨_,hns₁,fun i y v e1 e2 e3=>?_⟩,fun y c e=>?_,I3.fresh,fun y c e=>I3.yC y c (hcl y c e),fun p hp=>absurd (show p∈([]:List (Addr × Obj)) from hp) (by simp),I3.jx.kept k3,?_⟩
  ·cases i with
   | zero=>simp at e2
   | succ j=>
    have e1':names[j]?=some y:=by simpa [yu] using e1
    have e2':(wQ σ qC)[j]?=some (some v):=by simpa using e2
    unfold wQ at e2'
    rw[List.getElem?_map] at e2'
    cases qc:qC[j]? with
    | none=>rw[qc] at e2';cases e2'
    | some i0=>
     rw[qc] at e2'
     have e2'':(σ[i0]?).join=some v:=by simpa using e2'
     have e3':σ[i0]?=some (some v):=by
      cases qs:σ[i0]? with
      | none=>rw[qs] at e2'';cases e2''
      | some o=>rw[qs] at e2'';rw[show o=some v from by simpa using e2'']
     have eN:X.N[i0]?=some y:=by
      have q1:(names.map some)[j]?=(qC.map fun i=>X.N[i]?)[j]?:=by rw[cs.qC]
      rw[List.getElem?_map,List.getElem?_map,e1',qc] at q1
      have q2:some y=X.N[i0]?:=by simpa using q1
      exact q2.symm
     have hfree:=cs.iI y (List.mem_of_getElem? e1')
     have hm:=PySem.mem_of_lookup hfree
     have hcell:X.env.scope.names.lookup y=some .cell:=by rw[hos];exact cs.frees _ hm rfl
     obtain⟨m,hn,hl⟩:=I3.loc
     obtain⟨u,ru,lk⟩:=hl i0 y v eN e3' (.inr (.inl hcell))
     refine⟨u,ru,?_⟩
     rcases lk with ⟨kk,_⟩ | ⟨kk,c,ec,hcl'⟩
     ·have kk':X.env.scope.names.lookup y=some .local:=kk
      rw[hcell] at kk';cases kk'
     ·refine .inr ⟨?_,c,?_,?_⟩
      ·left
       show (relabel sc X.env).names.lookup y=some .cell
       rw[kG,hfree]
       have ef:(X.env.scope.kind == ScopeKind.function)=true:=by rw[I3.ok.kind];rfl
       have ek:(X.env.kindOf y == some NameKind.cell)=true:=by
        show (X.env.scope.names.lookup y == some NameKind.cell)=true
        rw[hcell];rfl
       simp [ef,ek]
      ·show (jh X.env sc.names []).lookup y=some c
       cases q:(jh X.env sc.names []).lookup y with
       | none=>exact absurd hm ((cl.2 y).mp q).2
       | some c'=>
        have:=hcl y c' q
        rw[ec] at this
        exact this.symm
      ·obtain⟨o,ho,hd⟩:=hcl'
       exact⟨o,k3 _ _ ho,hd⟩
  ·obtain⟨v,hv⟩:=I3.cell y c (hcl y c e)
   exact⟨v,cell4 y c e v hv⟩
  ·show (none :: wQ σ qC).length=(x :: names).length
   unfold wQ
   simp [lenC]
 have st4:tn 0 h₁:=T.keep _ _ _ st2 fun b hb o e=>k3 b o (by rw[hs3h];exact Heap.get?_push_of_some _ e)
 have fpok:∀{H':Hp},(∀b∈fp,H' b=none)→∀b∈fp,gZ (yu X sc x names fp s₃ (upd H2 s₂.heap.objs.size (.lst []))) [] H' b:=fun hn b hb=>
  ⟨hn b hb,(ok.V8 b hb).1,ok.iC b hb,.inl hb,(ok.V8 b hb).2,fun p hp=>absurd (show p∈([]:List (Addr × Obj)) from hp) (by simp)⟩
 have loop:∀s₄:Shared,s₄={ s₃ with heap:=h₁,toks:=s₃.toks + ([]:List (Str × Value)).length }→
   codeAny (model X.prog X.w) X.A (.compLoop (.ListComp elt [⟨.Name x px,iter,[],0⟩] sc pos) 0 (.ref it) (.ref s₂.heap.objs.size) (compEnvC sc (jh X.env sc.names []) s₃.heap.objs.size X.env))
    (RR (.ref s₂.heap.objs.size) s₃.heap.objs.size) s₄:=by
  rintro s₄ rfl
  refine nA (fun n s'=>∃i H',Inv (yu X sc x names fp s₃ (upd H2 s₂.heap.objs.size (.lst []))) [] (none :: wQ σ qC) H' s'∧tn i s'.heap∧(∀b∈fp,H' b=none)∧W i n H') ?_ m0
   ⟨0,_,I4 _,st4,fun b hb=>(f3 b hb).1,w0⟩
  rintro n s5 ⟨i,H5,I5,st5,fr5,w5⟩
  rcases turn i n H5 w5 with ⟨stop,q⟩ | ⟨go,step⟩
  ·refine xf (T.done (yu X sc x names fp s₃ (upd H2 s₂.heap.objs.size (.lst []))) rfl rfl rfl hc i [] s5 _ H5 _ I5 (fpok fr5) st5 stop) fun r s6 ⟨hr,I6⟩=>?_
   subst hr
   obtain⟨m,hn,_⟩:=I6.loc
   have J6:Inv X pins σ H5 s6:=I3.nR (ch:=fp) I6.os I6.base I6.jx I6.bare fun b hb=>⟨(f3 b hb).2.2.2.1,(f3 b hb).2.1,(f3 b hb).2.2.2.2.1,(f3 b hb).2.2.2.2.2⟩
   exact cont _ _ H5 s6 m J6 hn (I3.ZR (H':=H5) (Nat.le_refl _) I6.free) q
  ·refine xf (T.item (yu X sc x names fp s₃ (upd H2 s₂.heap.objs.size (.lst []))) rfl rfl rfl hc i [] s5 _ H5 _ I5 (fpok fr5) st5 go) fun r s6 ⟨u,hr,h6⟩=>?_
   subst hr
   refine xf h6 fun _ s6' ⟨y,H6,I6,r6,y6,st6,fr6⟩=>?_
   have I6':=I6.pinned (fpok fr6) (T.obj _ _ st6)
   have own':(relabel sc X.env).names.lookup x=some .local:=lookup_relabel_local cs.own
   refine wpAny_mono (jy (X:=yu X sc x names fp s₃ (upd H2 s₂.heap.objs.size (.lst []))) (i:=0) (x:=x) (pos:=px) cs.nd rfl (.inl own') (.inr own') _ s6' _ H6 y u (fun σ' H'=>σ'=(none :: wQ σ qC).set 0 (some y)∧H'=H6) I6' r6 ⟨rfl,rfl⟩)
    (fun _ s7 ⟨σ7,H7,I7,e7,e7'⟩=>?_) fun _ _ z=>False.elim z
   subst e7 e7'
   refine wpAny_mono (he fp s₃ _ _ s7 _ H7 _ I7 (step y H7 y6)) (fun v s8 ⟨vv,H8,I8,r8,ys,hD8,hz8,m',hm',w8⟩=>?_) fun _ _ z=>False.elim z
   refine wpAny_mono (dI (X:=yu X sc x names fp s₃ (upd H2 s₂.heap.objs.size (.lst []))) _ s8 _ H8 (.ref s₂.heap.objs.size) [vv] (.ref s₂.heap.objs.size) [v] (fun _ H'=>H'=upd H8 s₂.heap.objs.size (.lst (ys ++ [vv]))) I8 rfl (.cons r8 .nil)
    ⟨_,ys,vv,rfl,rfl,hD8,hz8,rfl⟩) (fun _ s9 ⟨_,H9,I9,_,e9⟩=>?_) fun _ _ z=>False.elim z
   subst e9
   refine⟨m',hm',i + 1,_,(I9.yp).weak ?_ ?_,T.keep _ _ _ st6 fun b hb o e=>(I9.pin (b,o) (List.mem_append_right _ (List.mem_append_right _ (wY hb e)))).1,fun b hb=>?_,w8⟩
   ·simp
   ·intro j v' ej
    cases j with
    | zero=>simp at ej
    | succ j=>simpa using ej
   ·obtain⟨o,e,d⟩:=T.obj _ _ st6 b hb
    exact(I9.pin (b,o) (List.mem_append_right _ (List.mem_append_right _ (wY hb e)))).2.1
 exact codeAny_compStart_list (loop _ (by rw[←hs3])) (T.self _ 0 _ _ _ st4 (loop _ (by rw[←hs3])))
theorem lB {pins:List (Addr × Obj)} {σ:St} {H:Hp} {s:Shared} {osc:Scope} {N:List Str} {sc:Scope} {x:Str} {names:List Str} {qC:List Nat} (hos:X.env.scope=osc) (cs:gY osc N sc x names qC) (I:Inv X pins σ H s) :
  closureFor sc X.env=pure (jh X.env sc.names []):=
 fB fun y hy hk=>I.ok.has y.1 (.inl (by show X.env.scope.names.lookup y.1=_;rw[hos];exact cs.frees y hy hk))
theorem pL {osc:Scope} {N:List Str} {sc:Scope} {x:Str} {px pos:Pos} {elt iter:Expr} {names:List Str} {qC:List Nat} {wi:TI} {te:TE}
  (hc:X.calm=true) (hos:X.env.scope=osc) (hN:X.N=N) (cs:gY osc N sc x names qC) (hi:PI X (.Name x px) iter wi) (he:∀fp s₀ H₀,PE (yu X sc x names fp s₀ H₀) elt te)
  (hs:∀v,foldedSetIterable iter X.env v=pure v:=by intro _;rfl):PE X (.ListComp elt [⟨.Name x px,iter,[],0⟩] sc pos) (VY qC wi te):=by
 intro pins s σ H Q I h
 rw[eval_ListComp]
 refine wpAny_comprehension_free (use:=none) rfl hs (lB hos cs I) cs.kind cs.locs (xf (hi pins s σ H _ I h) fun xv s1 h1=>xf h1 fun itv s2 h2=>?_)
 obtain⟨it,fp,tn,J,H2,rfl,I2,T,st2,f2,hW⟩:=h2
 refine oq (Qd:=Q) (RR:=fun acc C=>compPost (model X.prog X.w) X.A X.xe none (EP X pins σ Q) acc C) hc hos hN cs he I2 T st2 f2 hW fun D C H5 s6 m I6 hn fC q=>?_
 refine⟨m,hn,fun h' sb=>?_⟩
 obtain⟨g0,g1,g2,g3,g4,g5⟩:=fC
 exact⟨.ref D,H5,I6.turned (t':=s6.toks) (it:=C) (fun b o hb e=>sb.extBut b o hb e) g0 g1 g3 g4 g5,rfl,q⟩
theorem de {osc:Scope} {N:List Str} {sc:Scope} {x y:Str} {px py pos spos:Pos} {elt iter:Expr} {names:List Str} {qC:List Nat} {wi:TI} {te:TE} {i:Nat}
  (hc:X.calm=true) (hos:X.env.scope=osc) (hN:X.N=N) (nd:X.N.Nodup) (cs:gY osc N sc x names qC) (hi':X.N[i]?=some y) (hy:X.env.scope.names.lookup y=some .local) (hi:PI X (.Name x px) iter wi)
  (he:∀fp s₀ H₀,PE (yu X sc x names fp s₀ H₀) elt te) (hsw:swapsWith (.ListComp elt [⟨.Name x px,iter,[],0⟩] sc pos) (some (.Name y py)) spos.line X.env=pure true:=by rfl)
  (hs:∀v,foldedSetIterable iter X.env v=pure v:=by intro _;rfl):PS X (.Assign [.Name y py] (.ListComp elt [⟨.Name x px,iter,[],0⟩] sc pos) spos) (K1 (VY qC wi te) (gC i)):=by
 intro pins s σ H D I h
 rw[exec_Assign_Name_used _ _ _ _ hsw]
 refine wpAny_bind (wpAny_standAt (wpAny_bind ?_))
 show wpAny _ X.A (do let _ ←comprehension (.ListComp elt [⟨.Name x px,iter,[],0⟩] sc pos) sc X.env _ (newList []) false (eval iter X.env) (some (assign (.Name y py) X.env))) _ _ s
 refine wpAny_bind (wpAny_mono (wpAny_comprehension_free (use:=some (assign (.Name y py) X.env)) (Q:=fun _ s'=>SP X pins D .next s') rfl hs (lB hos cs I) cs.kind cs.locs
  (xf (hi pins s σ H _ I h) fun xv s1 h1=>xf h1 fun itv s2 h2=>?_)) (fun _ s' hq=>wpAny_pure (wpAny_pure hq)) fun _ _ e=>e)
 obtain⟨it,fp,tn,J,H2,rfl,I2,T,st2,f2,hW⟩:=h2
 refine oq (Qd:=fun x H1=>gC i x σ H1 D.nx) (RR:=fun acc C=>compPost (model X.prog X.w) X.A X.xe (some (assign (.Name y py) X.env)) (fun _ s'=>SP X pins D .next s') acc C) hc hos hN cs he I2 T st2 f2 hW fun D' C H5 s6 m I6 hn fC q=>?_
 show wpAny _ X.A (assign (.Name y py) X.env (.ref D')) _ _ _
 obtain⟨oC,es,ep,eC,dC,rC⟩:=id hn
 obtain⟨g0,g1,g2,g3,g4,g5⟩:=id fC
 have I6p:Inv X (pins ++ [(C,oC)]) σ H5 s6:=I6.uv fun p hp=>(List.mem_append.mp hp).elim (fun z=>I6.pin p (List.mem_append_right _ z)) fun z=>by
  have e:p=(C,oC):=by simpa using z
  subst e
  exact⟨eC,g0,g1,g2,fun v z=>by rw[dC] at z;cases z⟩
 refine wpAny_assign_Name (bq I6p nd hi' (.inl hy) (v:=.ref D') rfl (fun s7 I7=>?_) (.inr hy))
 have e7:=(I7.pin (C,oC) (List.mem_append_right _ (List.mem_append_right _ (by simp)))).1
 refine⟨m,⟨oC,es,ep,e7,dC,rC⟩,fun h' sb=>?_⟩
 exact⟨_,H5,(I7.yp).turned (t':=s7.toks) (it:=C) (fun b o hb e=>sb.extBut b o hb e) g0 g1 g3 g4 g5,q⟩
end
noncomputable def nP (J:It) (H:Hp) (xs:List V):Prop:=∀(i:Nat) (H':Hp),qp H H'→
 (i < xs.length→J.go i H')∧(∀y H3,J.VD i H' y H3→H3=H'∧(i < xs.length→xs[i]?=some y))∧(i=xs.length→J.stop i H')
theorem yB {K:PySem.W.Frag} {a:Addr} {xs:List V} {H:Hp} (h:qL K H a xs):nP (Yp K a) H xs:=fun i H' s=>
 ⟨fun hi=>⟨xs,xs[i],s.seq h,by simp [hi]⟩,fun y H3 q=>⟨q.1,fun _=>q.2 xs (s.seq h)⟩,fun e=>⟨xs,s.seq h,Nat.le_of_eq e.symm⟩⟩
theorem bL {lo:Int} {n:Nat} {H:Hp}:nP (K9 lo n) H ((List.range n).map fun (i:Nat)=>V.int (lo + (i:Int))):=fun i H' s=>
 ⟨fun hi=>by show i < n;simpa using hi,fun y H3 q=>⟨q.1,fun hi=>by
  have hi':i < n:=by simpa using hi
  rw[q.2,List.getElem?_map,List.getElem?_range hi'];rfl⟩,fun e=>by
  have:i=n:=by simpa using e
  exact Nat.le_of_eq this.symm⟩
theorem J8 {z:Str} {H:Hp}:nP (GV z) H (z.cps.toList.map fun c=>V.str ⟨#[c]⟩):=fun i H' s=>
 ⟨fun hi=>by simpa [GV,Str.length] using hi,fun y H3 q=>⟨q.1,fun hi=>by
  obtain⟨_,c,hc,e⟩:=q
  rw[e,List.getElem?_map]
  have:z.cps.toList[i]?=some c:=by simpa using hc
  rw[this];rfl⟩,fun e=>by
  have:i=z.length:=by simpa [Str.length] using e
  exact this⟩
theorem gP {J:It} {H:Hp} {xs:List V} {qC:List Nat} {te:TE} {σ:St} {Q:VK} (hJ:nP J H xs) (Pr:Nat→V→V→Prop) (hsz:xs.length≤sizeLine)
  (hs:∀(i:Nat) (y:V) (H':Hp) (Q':VK),xs[i]?=some y→qp H H'→(∀v H4,qp H' H4→Pr i y v→Q' v H4)→te (some y :: wQ σ qC) H' Q')
  (hd:∀(D:Addr) (H':Hp) (ys:List V),qp H H'→H D=none→H' D=some (.lst ys)→ys.length=xs.length→(∀(i:Nat) (y v:V),xs[i]?=some y→ys[i]?=some v→Pr i y v)→Q (.ref D) H') :
  au J qC te σ Q H:=by
 intro D hD
 refine⟨fun i m H2=>m=xs.length - i∧i≤xs.length∧qp H H2∧∃ys,H2 D=some (.lst ys)∧ys.length=i∧∀(j:Nat) (y v:V),xs[j]?=some y→ys[j]?=some v→Pr j y v,
  ⟨xs.length,by simp,Nat.zero_le _,fun b o e=>by rw[qB (qg e hD)];exact e,[],qm,rfl,fun j y v _ e=>by simp at e⟩,?_⟩
 rintro i m H2 ⟨rfl,hi,s2,ys,hy,hl,hp⟩
 obtain⟨j1,j2,j3⟩:=hJ i H2 s2
 by_cases hlt:i < xs.length
 ·refine .inr ⟨j1 hlt,fun y H3 q=>?_⟩
  obtain⟨e3,ey⟩:=j2 y H3 q
  subst e3
  refine hs i y _ _ (ey hlt) s2 fun v H4 s4 pr=>⟨ys,s4 D _ hy,by omega,xs.length - (i + 1),by omega,rfl,hlt,fun b o e=>?_,ys ++ [v],qm,by simp [hl],fun j y' v' e1 e2=>?_⟩
  ·rw[qB (qg e hD)]
   exact s4 b o (s2 b o e)
  ·by_cases hj:j < ys.length
   ·rw[List.getElem?_append_left hj] at e2
    exact hp j y' v' e1 e2
   ·have hje:j=i:=by
     have:=(List.getElem?_eq_some_iff.mp e2).1
     simp at this;omega
    subst hje
    rw[List.getElem?_append_right (by omega),hl,Nat.sub_self] at e2
    rw[ey hlt] at e1
    cases e1
    have:v=v':=by simpa using e2
    subst this
    exact pr
 ·have e:i=xs.length:=by omega
  subst e
  exact .inl ⟨j3 rfl,hd D H2 ys s2 hD hy hl hp⟩
end L2
namespace L2
open PySem PySem.Spec PyProof.Rows
theorem qp.new {H H':Hp} {l:Addr} {o:HO} (e:qp H H') (hl:H' l=none):qp H (upd H' l o):=fun b u q=>by
 have q':=e b u q
 rw[qB (qg q' hl)]
 exact q'
theorem qp.put {H H':Hp} {l:Addr} {o:HO} (e:qp H H') (hl:H l=none):qp H (upd H' l o):=fun b u q=>by
 rw[qB (qg q hl)]
 exact e b u q
theorem qp.dE {H:Hp} {l:Addr} {o:HO} (hl:H l=none):qp H (upd H l o):=(qp.refl H).new hl
theorem sG:∀(ys:List V),(∀v∈ys,∃b,v=V.bl b)→∃bs:List Bool,ys=bs.map V.bl
 | [],_=>⟨[],rfl⟩
 | v :: r,h=>by
  obtain⟨b,rfl⟩:=h v List.mem_cons_self
  obtain⟨bs,rfl⟩:=sG r fun u hu=>h u (List.mem_cons_of_mem _ hu)
  exact⟨b :: bs,rfl⟩
theorem uW (sep:Str) (l:List Str):(Txt.join sep l).length≤(l.map (·.length)).sum + l.length * sep.length:=by
 have e:Txt.join sep l=Str.join sep l:=beq_iff_eq.mp (join_plain_closes sep l)
 rw[e]
 exact StrLaws.join_length_le sep l
theorem rG (a b:Str):(a ++ b).length=a.length + b.length:=by
 show (a.cps ++ b.cps).size=_
 rw[Array.size_append]
 rfl
noncomputable def Wy:List Expr→Bool
 | []=>true
 | .Constant (.str _) _ _ :: r=>Wy r
 | _=>false
noncomputable def VW:List Expr→List V
 | []=>[]
 | .Constant (.str x) _ _ :: r=>V.str x :: VW r
 | _=>[]
noncomputable def Ba (es:List Expr):TA:=fun _ H Q=>Q (VW es) H
theorem bT {es:List Expr} {p:Pos} {t:Option Expr} {l:Nat} {env:Env}:swapsWith (.List es p) t l env=pure false:=rfl
theorem qv {n:Nat} (h:n≤1000):n≤sizeLine:=Nat.le_of_lt (d8 h)
end L2
namespace L2
open PySem PySem.Spec PyProof.Rows
section
variable {X:Cx} {CX:rL} {k:Nat} {f:Addr} {fd:FuncData} {ps:List Str} {sp:Sp} {dvs:List V} {ds:List Value} {E:XK} {m:Str} {pos apos:Pos} {e o:Expr} {es:List Expr} {ta:TE} {t:TA}
theorem PS.join {st:Stmt} {t:TS} (h:PS X st t):PS X st (fun D σ H=>∃M:St→Hp→Prop,t { D with nx:=M } σ H∧∀σ' H',M σ' H'→D.nx σ' H'):=by
 intro pins s σ H D I ⟨M,q,hM⟩
 refine xf (h pins s σ H _ I q) fun fl s' r=>?_
 cases fl with
 | next=>obtain⟨σ',H',I',r⟩:=r;exact⟨σ',H',I',hM _ _ r⟩
 | brk=>exact r
 | cont=>exact r
 | ret u=>exact r
theorem PE.cut {e:Expr} {t:TE} (h:PE X e t):PE X e (fun σ H Q=>∃M:VK,t σ H M∧∀v H',M v H'→Q v H'):=by
 intro pins s σ H Q I ⟨M,q,hM⟩
 exact xf (h pins s σ H _ I q) fun u s' ⟨v,H',I',r,z⟩=>⟨v,H',I',r,hM v H' z⟩
noncomputable def HN (K:PySem.W.Frag) (f:Addr) (m:Str) (sp:Sp) (dvs:List V) (E:XK) (ta:TE) (t:TA):TE:=fun σ H Q=>ta σ H fun x H1=>∃a C dx fs,x=.ref a∧H1 a=some (.ins C dx fs)∧cR K C∧Meth K C m f∧fs.lookup m=none∧
 t σ H1 fun vs H2=>sp (x :: (vs ++ dvs)) H2 Q E
end
noncomputable def asc (x:Str):Prop:=∀c∈x.cps.toList,c < 128
theorem asc.ok {x:Str} (h:asc x):PyData.strOk x=true:=by
 unfold PyData.strOk
 rw[Array.all_eq_true]
 intro i hi
 have:=h x.cps[i] (by simp)
 exact decide_eq_true (by omega)
theorem cps_append (a b:Str):(a ++ b).cps.toList=a.cps.toList ++ b.cps.toList:=by
 show (a.cps ++ b.cps).toList=_
 simp
theorem join_eq (sep:Str) (l:List Str):Txt.join sep l=Str.join sep l:=beq_iff_eq.mp (join_plain_closes sep l)
theorem mE {x:Str} {xs:List Str}:QJ (.str x) (xs.map V.str)=decide (x∈xs):=by
 induction xs with
 | nil=>rfl
 | cons y r ih=>
  unfold QJ at ih ⊢
  rw[List.map_cons,List.any_cons,ih]
  have:X6 (.str y) (.str x)=decide (x=y):=by
   show (y == x)=_
   by_cases h:x=y
   ·subst h;simp
   ·rw[decide_eq_false h];exact beq_eq_false_iff_ne.mpr fun q=>h q.symm
  rw[this]
  by_cases h:x=y<;>by_cases h':x∈r<;>simp [h,h']
end L2
namespace L2
open PySem PySem.Spec PyProof.Rows
noncomputable def Nw (H:Hp) (o:HO) (Q:VK):Prop:=∀p H',qp H H'→H p=none→H' p=some o→Q (.ref p) H'
theorem Nw.el {H:Hp} {o:HO} {Q:VK} (h:Nw H o Q) (p:Addr) (hp:H p=none):Q (.ref p) (upd H p o):=h p _ (qp.dE hp) hp qm
noncomputable def Keeps (l:Addr) (H H':Hp):Prop:=∀b,b≠l→H' b=H b
theorem Keeps.upd {H:Hp} {l:Addr} {o:HO}:Keeps l H (upd H l o):=fun _ h=>qB h
noncomputable def Ch (H:Hp) (l:Addr) (o:HO) (Q:Hp→Prop):Prop:=∀H',Keeps l H H'→H' l=some o→Q H'
theorem Ch.el {H:Hp} {l:Addr} {o:HO} {Q:Hp→Prop} (h:Ch H l o Q):Q (L2.upd H l o):=h _ Keeps.upd qm
theorem Keeps.put {H H1 H2:Hp} {l:Addr} (k:Keeps l H1 H2) (s:qp H H1) (n:H l=none):qp H H2:=fun b o e=>by
 rw[k b (qg e n)]
 exact s b o e
theorem Keeps.look {H1 H2:Hp} {l b:Addr} {o:HO} (k:Keeps l H1 H2) (e:H1 b=some o) (n:b≠l):H2 b=some o:=by rw[k b n];exact e
noncomputable def Fx (H H':Hp):Prop:=(∀b xs,H b=some (.tup xs)→H' b=some (.tup xs))∧∀b C dx fs,H b=some (.ins C dx fs)→H' b=some (.ins C dx fs)
section
variable {X:Cx}
theorem PE.mono {e:Expr} {t t':TE} (h:PE X e t) (m:∀σ H Q,t' σ H Q→t σ H Q):PE X e t':=fun pins s σ H Q I q=>h pins s σ H Q I (m σ H Q q)
theorem vw.mono {f:Value} {r r':List V→Hp→VK→Prop} (h:vw X f r) (m:∀xs H Q,r' xs H Q→r xs H Q):vw X f r':=fun pins s σ H xs us Q I rv q=>h pins s σ H xs us Q I rv (m xs H Q q)
theorem Qi.mono {id:String} {r r':V→List V→Hp→VK→Prop} (h:Qi X id r) (m:∀x xs H Q,r' x xs H Q→r x xs H Q):Qi X id r':=fun pins s σ H x vs v us Q I rx rv q=>h pins s σ H x vs v us Q I rx rv (m x vs H Q q)
theorem pq.mono {f:Value→Value→Sem Value} {r r':R2} (h:pq X f r) (m:∀x y H Q,r' x y H Q→r x y H Q):pq X f r':=fun pins s σ H x y v u Q I rx ry q=>h pins s σ H x y v u Q I rx ry (m x y H Q q)
theorem XF.mono {r r':V→Option Int→Option Int→Hp→VK→Prop} (h:XF X r) (m:∀x l u H Q,r' x l u H Q→r x l u H Q):XF X r':=fun pins s σ H x v vl vu lo hi sl Q I rx hs pl pu q=>h pins s σ H x v vl vu lo hi sl Q I rx hs pl pu (m x lo hi H Q q)
noncomputable def Hr (t:TA):TE:=fun σ H Q=>t σ H fun xs H1=>xs.length≤sizeLine∧Nw H1 (.tup xs) Q
noncomputable def Hu (t:TA):TE:=fun σ H Q=>t σ H fun xs H1=>xs.length≤sizeLine∧Nw H1 (.lst xs) Q
theorem PA.cut {es:List Expr} {t:TA} (h:PA X es t):PA X es (fun σ H Q=>∃M:List V→Hp→Prop,t σ H M∧∀vs H',M vs H'→Q vs H'):=by
 intro pos pins s σ H Q I ⟨M,q,hM⟩
 exact xf (h pos pins s σ H _ I q) fun u s' ⟨v,H',I',r,z⟩=>⟨v,H',I',r,hM v H' z⟩
theorem xr {es:List Expr} {t:TA} {pos:Pos} {x1} (h:PA X es t):PE X (.Tuple es x1 pos) (Hr t):=(WM h.cut).mono fun _ _ _ q=>⟨_,q,fun _ _ q=>⟨q.1,q.2.el⟩⟩
theorem jq {es:List Expr} {t:TA} {pos:Pos} (h:PA X es t):PE X (.List es pos) (Hu t):=(WH h.cut).mono fun _ _ _ q=>⟨_,q,fun _ _ q=>⟨q.1,q.2.el⟩⟩
theorem eg:vw X (.type "list") (fun xs H Q=>∃p ys,xs=[.ref p]∧(qL X.K H p ys∨yc X.K H p ys)∧Nw H (.lst ys) Q):=
 sF.mono fun _ _ _ ⟨p,ys,a,b,c⟩=>⟨p,ys,a,b,c.el⟩
theorem Kc:XF X (fun x lo hi H Q=>∃a xs,x=.ref a∧qL X.K H a xs∧Nw H (.lst (yM xs lo hi)) Q):=
 KI.mono fun _ _ _ _ _ ⟨a,xs,e,b,c⟩=>⟨a,xs,e,b,c.el⟩
theorem wy:pq X (binaryOp .Add) (fun x y H Q=>∃l b xs zs,x=.ref l∧y=.ref b∧H l=some (.lst xs)∧H b=some (.lst zs)∧xs.length + zs.length≤sizeLine∧Nw H (.lst (xs ++ zs)) Q):=
 WK.mono fun _ _ _ _ ⟨l,b,xs,zs,a,c,d,e,f,g⟩=>⟨l,b,xs,zs,a,c,d,e,f,g.el⟩
theorem vG:Qi X "list.append" (fun x vs H Q=>∃l xs y,x=.ref l∧vs=[y]∧H l=some (.lst xs)∧xs.length < sizeLine∧Ch H l (.lst (xs ++ [y])) (Q .non)):=
 Qi.mono dI fun _ _ _ _ ⟨l,xs,y,a,b,c,d,e⟩=>⟨l,xs,y,a,b,c,d,e.el⟩
theorem JJ:Qi X "list.pop" (fun x vs H Q=>∃l xs y,x=.ref l∧vs=[]∧H l=some (.lst xs)∧xs[xs.length - 1]?=some y∧Ch H l (.lst xs.dropLast) (Q y)):=
 Qi.mono Ws fun _ _ _ _ ⟨l,xs,y,a,b,c,d,e⟩=>⟨l,xs,y,a,b,c,d,e.el⟩
theorem sx:XS X (fun o i v H Q=>∃p xs k j,o=.ref p∧i=.int k∧H p=some (.lst xs)∧QX xs.length k=some j∧Ch H p (.lst (xs.set j v)) Q):=by
 intro pins s σ H o i v
 have h:=@set_list X pins s σ H o i v
 intros
 rename_i q
 exact h _ _ _ _ ‹_› ‹_› ‹_› ‹_› (by obtain⟨p,xs,k,j,a,b,c,d,e⟩:=q;exact⟨p,xs,k,j,a,b,c,d,e.el⟩)
end
structure ve (P:Program) (w:World) (K:PySem.W.Frag) (mg:Str→Option Value) (base:Heap) (CX:rL) (k:Nat) (C:Addr) (m:Str) (sp:Sp):Prop where
 ex:∃f fd ps,Meth K C m f∧qV P w K mg base CX k f fd ps sp∧Binds K fd ps []
theorem ve.mk' {P:Program} {w:World} {K:PySem.W.Frag} {mg:Str→Option Value} {base:Heap} {CX:rL} {j k:Nat} {C f:Addr} {m:Str} {sp:Sp} {fd:FuncData} {ps:List Str} (h1:Meth K C m f) (h2:qV P w K mg base CX j f fd ps sp) (h3:Binds K fd ps []) (h:j≤k) :
  ve P w K mg base CX k C m sp:=⟨f,fd,ps,h1,h2.mono h,h3⟩
noncomputable def Xl (X:Cx) (CX:rL) (k:Nat) (m:Str) (E:XK) (ta:TE) (t:TA):TE:=fun σ H Q=>ta σ H fun x H1=>∃a C dx fs,x=.ref a∧H1 a=some (.ins C dx fs)∧cR X.K C∧fs.lookup m=none∧
 ∃sp,ve X.prog X.w X.K X.mg X.base CX k C m sp∧t σ H1 fun vs H2=>sp (x :: vs) H2 Q E
section
variable {X:Cx} {k:Nat} {m:Str} {pos apos:Pos} {e o:Expr} {es:List Expr} {ta:TE} {t:TA}
theorem hV {pl:Sem Bool} (hr:vq k X.A) (he:PE X o ta) (ha:PA X (e :: es) t)
  (hst:starEach (e :: es) X.env=(false,eval e X.env) :: starEach es X.env:=by rfl) (hpl:(backTo pos (starEach es X.env)).any (·.1)=false:=by rfl)
  (ht:eval (.Call (.Attribute o m apos) (e :: es) [] pos) X.env=(do
   let ov ←eval o X.env
   standAt apos.atName
   let (f,first) ←holding [ov] (getMethod ov m pl)
   callWith pos f first (backTo pos (starEach (e :: es) X.env)) (backToKw pos (keywordEach [] X.env))):=by rfl) :
  PE X (.Call (.Attribute o m apos) (e :: es) [] pos) (Xl X jW k m E0 ta t):=by
 intro pins s σ H Q I h
 refine PySem.W.methodCall_KW (pl:=pl) (xf (he pins s σ H _ I h) fun u s1 ⟨x,H1,I1,rx,a,C,dx,fs,ex,ea,c,l,sp,M,q⟩=>?_) ht
 subst ex
 obtain⟨f,fd,ps,hm,F,hb⟩:=M.ex
 obtain rfl:u=Value.ref a:=rx
 refine mf I1 ea c hm l ?_
 refine PySem.W.callWith_K (first:=[.ref a]) (h₀:=X.base) I.ok.mod.QK hm.kp (xf (ha pos pins s1 σ H1 _ I1 q) fun us s2 ⟨vs,H2,I2,r,q2⟩=>⟨I2.gU,?_⟩) hst hpl
 exact tI (us:=.ref a :: us) (vs:=.ref a :: vs) F hr hb .nil qJ I2 (.cons rfl r) (by rw[List.append_nil];exact q2)
theorem yG {pl:Sem Bool} (hr:vq k X.A) (he:PE X o ta)
  (ht:eval (.Call (.Attribute o m apos) [] [] pos) X.env=(do
   let ov ←eval o X.env
   standAt apos.atName
   let (f,first) ←holding [ov] (getMethod ov m pl)
   callWith pos f first (backTo pos (starEach [] X.env)) (backToKw pos (keywordEach [] X.env))):=by rfl) :
  PE X (.Call (.Attribute o m apos) [] [] pos) (Xl X jW k m E0 ta Yy):=by
 intro pins s σ H Q I h
 refine PySem.W.methodCall_KW (pl:=pl) (xf (he pins s σ H _ I h) fun u s1 ⟨x,H1,I1,rx,a,C,dx,fs,ex,ea,c,l,sp,M,q⟩=>?_) ht
 subst ex
 obtain⟨f,fd,ps,hm,F,hb⟩:=M.ex
 obtain rfl:u=Value.ref a:=rx
 refine mf I1 ea c hm l ?_
 exact PySem.W.callWith_K0 (first:=[.ref a]) I1.gU hm.kp (tI (us:=[.ref a]) (vs:=[.ref a]) F hr hb .nil qJ I1 (.cons rfl .nil) q)
end
theorem VN {α:Type} [Inhabited α] {xs:List α} {i:Int} (h0:0≤i) (h1:i < xs.length):rN xs i=some (xs.getD i.toNat default):=by
 have hj:i.toNat < xs.length:=by omega
 have e:=kc (xs:=xs) (j:=i.toNat) (v:=xs[i.toNat]) (by simp [hj])
 rw[Int.toNat_of_nonneg h0] at e
 rw[e,List.getD_eq_getElem?_getD,List.getElem?_eq_getElem hj]
 rfl
theorem ai {α:Type} {f:α→V} {xs:List α} {i:Int} (d:α) (h0:0≤i) (h1:i < xs.length):rN (xs.map f) i=some (f (xs.getD i.toNat d)):=by
 have hj:i.toNat < (xs.map f).length:=by rw[List.length_map];omega
 have e:=kc (xs:=xs.map f) (j:=i.toNat) (v:=(xs.map f)[i.toNat]) (List.getElem?_eq_getElem hj)
 rw[Int.toNat_of_nonneg h0] at e
 rw[e,List.getElem_map,List.getD_eq_getElem?_getD,List.getElem?_eq_getElem (by omega)]
 rfl
theorem QD {xs:List Int} {i:Int} (h0:0≤i) (h1:i < xs.length):rN (xs.map V.int) i=some (.int (xs.getD i.toNat 0)):=ai 0 h0 h1
theorem gH {xs:List Str} {i:Int} (h0:0≤i) (h1:i < xs.length):rN (xs.map V.str) i=some (.str (xs.getD i.toNat "")):=ai (f:=V.str) ("" : Str) h0 h1
theorem Jy {n:Nat} {i:Int} (h0:0≤i) (h1:i < n):QX n i=some i.toNat:=by
 unfold QX;rw[if_pos h0,if_pos h1]
theorem QU {z:Str} {i:Int} (h0:0≤i) (h1:i < z.length):rN z.cps.toList i=some (z.cps.toList.getD i.toNat 0):=VN h0 (by simpa [Str.length] using h1)
theorem xP {a b:Str} (h:a.cps.toList=b.cps.toList):a=b:=by
 cases a;cases b
 simp only at h
 rw[Array.toList_inj.mp h]
theorem oo (s x y:Str) (r:List Str):Str.join s (x :: y :: r)=x ++ s ++ Str.join s (y :: r):=rfl
theorem join_one (s x:Str):Str.join s [x]=x:=rfl
end L2
namespace L2
open PySem PySem.Spec PyProof.Rows
theorem VE {x y:Str} {n m:Nat} (hx:x.length≤n) (hy:y.length≤m) (h:n + m≤1000):x.length + y.length≤sizeLine:=qv (by omega)
theorem XA {x y:Str} {n m:Nat} (hx:x.length≤n) (hy:y.length≤m):(x ++ y).length≤n + m:=by rw[rG];omega
theorem Jc (x:Str):x.length≤x.length:=Nat.le_refl _
theorem Ks {c:Nat}:(⟨#[c]⟩:Str).length≤1:=Nat.le_refl _
end L2
namespace L2
open PySem PySem.Spec PyProof.Rows
noncomputable def VU (K:PySem.W.Frag) (H:Hp) (x:V) (f:Str) (v:V):Prop:=∃a C dx fs,x=.ref a∧H a=some (.ins C dx fs)∧cR K C∧qH K C f∧fs.lookup f=some v
noncomputable def Hc (K:PySem.W.Frag) (ta:TE) (f:Str):TE:=fun σ H Q=>ta σ H fun x H1=>∃v,VU K H1 x f v∧Q v H1
theorem vx {X:Cx} {K:PySem.W.Frag} (hK:X.K=K) {e:Expr} {ta:TE} {f:Str} {pos:Pos} (he:PE X e ta) (hb:attributeBase e f X.env (eval e X.env)=eval e X.env):PE X (.Attribute e f pos) (Hc K ta f):=by
 subst hK
 refine(WG he.cut hb).mono fun σ H Q q=>⟨_,q,fun x H1 z=>?_⟩
 obtain⟨v,⟨a,C,dx,fs,h1,h2,h3,h4,h5⟩,q⟩:=z
 exact⟨a,C,dx,fs,v,h1,h2,h3,h4,h5,q⟩
theorem m6 (K:PySem.W.Frag) (t:Value):PySem.W.kitOne K t t=some true:=by
 unfold PySem.W.kitOne
 rw[if_pos (by simp)]
end L2
namespace L2
open PySem PySem.Spec PyProof.Rows
structure Ph (K:PySem.W.Frag) (C:Addr):Prop where
 makes:PySem.W.makesIn K C=true
 init:PySem.W.findIn K (.ref C) "__init__" = some (some (.builtin "object.__init__"))
 kp:PySem.W.keepIn K (.ref C)=true
section
variable {X:Cx} {C:Addr} {x:Str} {p pos:Pos}
end
end L2
namespace L2
open PySem PySem.Spec PyProof.Rows
theorem JV {n:Int} (h0:0≤n) (h1:n≤10 ^ 20):(Str.ofString (toString n)).length≤21∧1≤(Str.ofString (toString n)).length∧asc (Str.ofString (toString n)):=by
 obtain⟨m,rfl⟩:=Int.eq_ofNat_of_zero_le h0
 have e:=PySem.W.KIN.signs_num m
 have hl:(Str.ofString (toString ((m:Nat):Int))).length=(Nat.toDigits 10 m).length:=by
  have:=congrArg List.length e
  rw[List.length_map] at this
  rw[←this]
  simp [Str.length]
 refine⟨?_,?_,fun c hc=>?_⟩
 ·rw[hl]
  refine digits10_le (by decide) ?_
  have:(m:Int) < 10 ^ 21:=by omega
  exact_mod_cast this
 ·rw[hl];exact toDigits_len_ge 10 m
 ·rw[e] at hc
  obtain⟨ch,hch,rfl⟩:=List.mem_map.mp hc
  have r:=PyProof.Rows.digit_range (Nat.isDigit_of_mem_toDigits (by decide) (by decide) hch)
  omega
theorem Z1 {n:Int} (h0:0≤n) (h1:n≤10 ^ 20):n.natAbs.log2 < 1920:=by
 have:n.natAbs < 2 ^ 67:=by omega
 by_cases h:n.natAbs=0
 ·rw[h];decide
 ·exact Nat.lt_trans ((Nat.log2_lt h).mpr this) (by decide)
theorem ow (xs ys:List Str):PyData.eqv (.list (xs.map PyData.str)) (.list (ys.map PyData.str))=decide (xs=ys):=by
 simp only[PyData.eqv,cg]
end L2
namespace L2
open PySem PySem.Spec PyProof.Rows
theorem YD {H H':Hp} {b:Addr} {o:HO} (e:H b=some o) (s:qp H H'):H' b=some o:=s b o e
theorem W8 {K:PySem.W.Frag} {H H':Hp} {a:Addr} {xs:List V} (h:qL K H a xs) (s:qp H H'):qL K H' a xs:=s.seq h
end L2
namespace L2
open PySem PySem.Spec PyProof.Rows
theorem WQ {X:Cx}:XF X (fun x lo hi H Q=>∃a xs,x=.ref a∧yc X.K H a xs∧¬(HT.vF xs.length 0 lo=0∧HT.vF xs.length xs.length hi=xs.length)∧Nw H (.tup (yM xs lo hi)) Q):=
 W9.mono fun _ _ _ _ _ ⟨a,xs,e,b,c,d⟩=>⟨a,xs,e,b,c,d.el⟩
end L2
namespace L2
open PySem PySem.Spec PyProof.Rows
section
variable {X:Cx} {K:PySem.W.Frag}
theorem yQ {es:List Expr} {k:Nat} {t:Vz} {n:Nat} {pos:Pos} (hK:X.K=K) (hc:X.calm=true) (h:Ym X es t)
  (hn:(assignEach es X.env).length=n:=by rfl) (hst:(assignEach es X.env).findIdx? (·.1)=none:=by rfl):PG X (.Tuple es k pos) (Wv K n t):=hK▸WC hc h hn hst
theorem qy (hK:X.K=K):Yf X (WT K):=hK▸X9
theorem qY (hK:X.K=K):Yf X (WN K):=hK▸Wg
theorem xn (hK:X.K=K):XF X (fun x lo hi H Q=>∃a xs,x=.ref a∧qL K H a xs∧Nw H (.lst (yM xs lo hi)) Q):=hK▸Kc
theorem Kd (hK:X.K=K):XF X (fun x lo hi H Q=>∃a xs,x=.ref a∧yc K H a xs∧¬(HT.vF xs.length 0 lo=0∧HT.vF xs.length xs.length hi=xs.length)∧Nw H (.tup (yM xs lo hi)) Q):=hK▸WQ
theorem fe (hK:X.K=K):pq X (compareOp .NotIn) (Bf K true):=hK▸tF
theorem Zp (hK:X.K=K) (hu:X.A.units + 64 < cLine):pq X (compareOp .Eq) (KG K false):=hK▸WV hu
theorem Kn (hK:X.K=K) (hu:X.A.units + 64 < cLine):pq X (compareOp .NotEq) (KG K true):=hK▸WW hu
theorem qD (hK:X.K=K):vw X (.builtin "len") (fun xs H Q=>∃p ys,xs=[.ref p]∧(qL K H p ys∨yc K H p ys)∧Q (.int ys.length) H):=hK▸sP
theorem gA (hK:X.K=K):vw X (.type "list") (fun xs H Q=>∃p ys,xs=[.ref p]∧(qL K H p ys∨yc K H p ys)∧Nw H (.lst ys) Q):=hK▸eg
theorem mM (hK:X.K=K):vw X (.builtin "isinstance") (fun xs H Q=>∃x c t b,xs=[x,c]∧((∃n,c=.ty n)∨∃a,c=.ref a)∧bc K H x t∧PySem.W.kitOne K t (QE c)=some b∧Q (.bl b) H):=hK▸nL
theorem wj (hK:X.K=K):Qi X "str.join" (rJoin K):=hK▸Ky
theorem wc {tg l:Expr} {tl:TE} (hK:X.K=K) (hl:PE X l tl):PI X tg l (Vf K tl):=hK▸KZ hl
end
end L2
namespace L2
open PySem PySem.Spec PyProof.Rows
structure yP (osc:Scope) (N:List Str) (sc:Scope) (xs names:List Str) (qC:List Nat):Prop where
 kind:sc.kind=.function
 uI:∀y∈sc.names,y.2≠.cell
 locs:∀y∈sc.names,y.2=.local→sc.names.lookup y.1=some .local
 frees:∀y∈sc.names,y.2=.free→osc.names.lookup y.1=some .cell
 own:∀x∈xs,sc.names.lookup x=some .local
 qC:names.map some=qC.map fun i=>N[i]?
 iI:∀y∈names,sc.names.lookup y=some .free
 nd:(xs ++ names).Nodup
noncomputable def xb (X:Cx) (sc:Scope) (xs names:List Str) (fp:List Addr) (s₀:Shared) (H₀:Hp):Cx where
 prog:=X.prog
 w:=X.w
 K:=X.K
 mg:=X.mg
 base:=X.base
 A:=X.A
 N:=xs ++ names
 s₀:=s₀
 H₀:=H₀
 env:=compEnvC sc (jh X.env sc.names []) s₀.heap.objs.size X.env
 outer:=X.stack
 stack:=X.stack
 ex:=fp
 fn:=fun _=>false
 calm:=X.calm
 pn:=[]
 xe:=fun _ _=>False
theorem fH {X:Cx} {sc:Scope} {xs names:List Str} {fp:List Addr} {s₀:Shared} {H₀:Hp} {x:Str} (h:sc.names.lookup x=some .local):(xb X sc xs names fp s₀ H₀).env.scope.names.lookup x=some .local:=lookup_relabel_local h
noncomputable def Yi (X:Cx) (ifs:List Expr) (t:TT):Prop:=
 ∀(pins:List (Addr × Obj)) (s:Shared) (σ:St) (H:Hp) (Q:Bool→Hp→Prop),Inv X pins σ H s→t σ H Q→
  wpAny (model X.prog X.w) X.A (forIn ifs true fun c r=>if r=true then do let ok ←isTrue c X.env (eval c X.env);pure (ForInStep.yield ok) else pure (ForInStep.yield r)) (TP X pins σ Q) X.xe s
noncomputable def K3:TT:=fun _ H Q=>Q true H
theorem tS {X:Cx}:Yi X [] K3:=fun _ _ _ H _ I q=>wpAny_tests_nil ⟨H,I,q⟩
theorem Zm {X:Cx} {c:Expr} {t:TT} (h:PT X c t):Yi X [c] t:=fun pins s σ H Q I q=>wpAny_tests_one (h pins s σ H Q I q)
noncomputable def lJ (J:It) (n:Nat) (qC:List Nat) (g:TG) (tt:TT) (te:TE) (σ:St) (Q:VK) (H1:Hp):Prop:=∀D,H1 D=none→∃W:Nat→Nat→St→Hp→Prop,(∃m,W 0 m (List.replicate n none ++ wQ σ qC) (upd H1 D (.lst [])))∧∀i m σ1 H2,W i m σ1 H2→
 (J.stop i H2∧Q (.ref D) H2)∨(J.go i H2∧∀y H3,J.VD i H2 y H3→g y σ1 H3 fun σ2 H4=>tt σ2 H4 fun b H5=>if b=true then te σ2 H5 fun v H6=>∃ys,H6 D=some (.lst ys)∧ys.length < sizeLine∧∃m',m' < m∧W (i + 1) m' σ2 (upd H6 D (.lst (ys ++ [v])))
  else ∃m',m' < m∧W (i + 1) m' σ2 H5)
noncomputable def Xr (n:Nat) (qC:List Nat) (wi:TI) (g:TG) (tt:TT) (te:TE):TE:=fun σ H Q=>wi σ H fun J H1=>lJ J n qC g tt te σ Q H1
section
variable {prog:Program} {w:World} {A:Around} {R:Result→Shared→Prop} {s:Shared}
theorem sR {el tg src : Expr} {ifs : List Expr} {scope : Scope} {pos : Pos} {it acc : Value} {env : Env} (I : Nat → Shared → Prop)
    (turn : ∀ n s, I n s → Noted prog w A env R (pyNext it) (fun r s1 => match r with
      | none => R (.ok .next) s1
      | some v => Noted prog w A env R (letOwnedTupleGo tg it v) (fun _ => Noted prog w A env R (assign tg env v) fun _ => Noted prog w A env R (forIn ifs true (testB env)) fun ok s4 =>
        if ok = true then Noted prog w A env R (eval el env) (fun x => Noted prog w A env R (call (.builtin "list.append") [acc, x]) fun _ s6 => ∃ m, m < n ∧ I m s6) s4 else ∃ m, m < n ∧ I m s4) s1) s) (n : Nat) (h : I n s) :
    codeAny (model prog w) A (.compLoop (.ListComp el [⟨tg, src, ifs, 0⟩] scope pos) 0 it acc env) R s := by
  refine codeAny_loop rfl I (fun k s1 hI => (?_ : wpAny _ _ (Sem.onRaise _ _) _ _ _)) n h
  refine wpAny_noted (compTurn_list .. ▸ wpAny_bind (wpAny_standAt (sq2 (turn k s1 hI) fun r s2 hr => ?_)))
  cases r
  · exact wpAny_pure hr
  · exact sq2 hr fun _ _ a => sq2 a fun _ _ b => sq2 b fun ok _ c => by
      cases ok
      · exact wpAny_pure ⟨rfl, c⟩
      · exact sq2 (sq2 c fun _ _ d => sq2 d fun _ _ e => wpAny_pure e) fun _ _ e => wpAny_pure ⟨rfl, e⟩
end
section
variable {X:Cx}
theorem X3 {pins:List (Addr × Obj)} {σ:St} {H:Hp} {s:Shared} {osc:Scope} {N:List Str} {sc:Scope} {xs names:List Str} {qC:List Nat} {fp:List Addr}
  (hos:X.env.scope=osc) (cs:yP osc N sc xs names qC) (I:Inv X pins σ H s) (hf:∀b∈fp,gZ X pins H b) (hlt:∀b∈fp,b < s.heap.objs.size):(xb X sc xs names fp s H).Ok:=by
 subst hos
 have cl:=vJ (env:=X.env) sc.names [] (fun z c e=>by simp at e)
 have hcl:∀y c,(jh X.env sc.names []).lookup y=some c→X.env.cells.lookup y=some c:=fun y c e=>by
  have e1:=cl.1 y c e
  have hm:(y,NameKind.free)∈sc.names:=by
   by_cases q:(y,NameKind.free)∈sc.names
   ·exact q
   ·have:=(cl.2 y).mpr ⟨rfl,q⟩
    rw[this] at e;cases e
  obtain⟨c',hc'⟩:=I.ok.has y (.inl (cs.frees _ hm rfl))
  rw[hc'] at e1 ⊢
  rw[e1];rfl
 refine⟨I.ok.mod,?_,I.ok.glob,I.ok.blt,Nat.le_refl _,fun y z c h1 h2=>I.ok.inj y z c (hcl y c h1) (hcl z c h2),fun y hy=>?_,fun y c h=>?_,I.ok.hd,I.ok.frames,.inl rfl,fun b hb=>⟨?_,fun y c h=>?_⟩,
  I.bs,Nat.le_trans I.ok.ZY I.sz,fun b o e hb=>?_,fun b hb z=>?_,I.stack,I.fV⟩
 ·exact cs.kind
 ·have hy':(relabel sc X.env).names.lookup y=some .cell∨(relabel sc X.env).names.lookup y=some .free:=hy
  have key:sc.names.lookup y=some .free:=by
   rw[kG] at hy'
   cases q:sc.names.lookup y with
   | none=>rw[q] at hy';simp at hy'
   | some k=>
    rw[q] at hy'
    have hm:=PySem.mem_of_lookup q
    have hnc:=cs.uI _ hm
    by_cases hk:k=.free
    ·rw[hk]
    ·have e:(if (k == NameKind.free && X.env.scope.kind == .function && X.env.kindOf y == some .cell)=true then NameKind.cell else k)=k:=if_neg (by simp [hk])
     rw[Option.map_some,e] at hy'
     rcases hy' with z | z
     ·exact absurd (Option.some.inj z) hnc
     ·exact absurd (Option.some.inj z) hk
  have hm:=PySem.mem_of_lookup key
  cases q:(jh X.env sc.names []).lookup y with
  | some c=>exact⟨c,q⟩
  | none=>exact absurd hm ((cl.2 y).mp q).2
 ·exact absurd (show false=true from h) (by simp)
 ·exact Nat.ne_of_lt (hlt b hb)
 ·exact(hf b hb).2.2.2.2.1 y c (hcl y c h)
 ·rcases(hf b hb).2.2.2.1 with z | z
  ·exact I.ok.eu b o e z
  ·exact absurd (Nat.lt_of_lt_of_le (Heap.lt_size e) (Nat.le_trans I.ok.ZY z)) (Nat.lt_irrefl _)
 ·rcases List.mem_cons.mp (I.rY b z) with q | q
  ·exact(hf b hb).2.1 q
  ·exact(hf b hb).2.2.1 q
theorem lP {pins:List (Addr × Obj)} {σ:St} {s₂:Shared} {osc:Scope} {N:List Str} {sc:Scope} {pos:Pos} {elt iter tg:Expr} {ifs:List Expr} {xs names:List Str} {qC:List Nat} {g:TG} {tt:TT} {te:TE} {E:Value→Shared→Prop}
  {RR:Value→Addr→Result→Shared→Prop} {H2:Hp} {it:Addr} {fp:List Addr} {tn:Nat→Heap→Prop} {J:It} {Qd:V→Hp→Prop}
  (hc:X.calm=true) (hos:X.env.scope=osc) (hN:X.N=N) (cs:yP osc N sc xs names qC) (hg:∀fp s₀ H₀,PG (xb X sc xs names fp s₀ H₀) tg g) (ht:∀fp s₀ H₀,Yi (xb X sc xs names fp s₀ H₀) ifs tt) (he:∀fp s₀ H₀,PE (xb X sc xs names fp s₀ H₀) elt te)
  (I2:Inv X pins σ H2 s₂) (T:Turn X.prog X.w X.K tg J fp it tn) (st2:tn 0 s₂.heap) (f2:∀b∈fp,gZ X pins H2 b)
  (hW:lJ J xs.length qC g tt te σ Qd H2)
  (cont:∀D C H5 s6 m,Inv X pins σ H5 s6→s6.heap.Ns C m→gZ X pins H5 C→Qd (.ref D) H5→RR (.ref D) C (.ok .next) s6) :
  wpAny (model X.prog X.w) X.A (newList []) (fun acc s₃=>wpAny (model X.prog X.w) X.A (newFunctionEnv sc X.env.globals (jh X.env sc.names []) [] X.env.qual none .none (some X.env)) (fun cenv s₄=>
   codeAny (model X.prog X.w) X.A (.compStart (.ListComp elt [⟨tg,iter,ifs,0⟩] sc pos) 0 (.ref it) acc { cenv with scope:=relabel sc X.env }) (RR acc cenv.locals) s₄) E s₃) E s₂:=by
 subst hN
 refine wpAny_newObj_type (wpAny_newFunctionEnv cs.uI (by intro y hy;simp at hy) (fun h₁ hns₁ hsb₁=>?_) cs.kind)
 dsimp only at hns₁ hsb₁ ⊢
 have fp2:∀b∈fp,b < s₂.heap.objs.size:=fun b hb=>by
  obtain⟨o,e,_⟩:=T.obj _ _ st2 b hb
  exact Heap.lt_size e
 have I3:Inv X pins σ (upd H2 s₂.heap.objs.size (.lst [])) { s₂ with heap:=s₂.heap.push { cls:=.type "list",dict:=none,data:=.seq ([]:List Value).toArray } }:=I2.Jr (t':=s₂.toks) (its:=[]) .nil (Nat.zero_le _)
 obtain⟨W,⟨m0,w0⟩,turn⟩:=hW s₂.heap.objs.size I2.fresh
 have f3:∀b∈fp,gZ X pins (upd H2 s₂.heap.objs.size (.lst [])) b:=fun b hb=>⟨by rw[qB (Nat.ne_of_lt (fp2 b hb))];exact(f2 b hb).1,(f2 b hb).2⟩
 have hD:∀b o,s₂.heap.get? b=some o→(s₂.heap.push { cls:=.type "list",dict:=none,data:=.seq ([]:List Value).toArray }).get? b=some o:=fun b o e=>Heap.get?_push_of_some _ e
 generalize hs3:({ s₂ with heap:=s₂.heap.push { cls:=.type "list",dict:=none,data:=.seq ([]:List Value).toArray } }:Shared)=s₃ at *
 have hs3h:s₃.heap=s₂.heap.push { cls:=.type "list",dict:=none,data:=.seq ([]:List Value).toArray }:=by rw[←hs3]
 rw[←hs3h] at hns₁ hsb₁ hD ⊢
 have ZU:∀b∈fp,b < s₃.heap.objs.size:=fun b hb=>by
  rw[hs3h,Heap.size_push];exact Nat.lt_succ_of_lt (fp2 b hb)
 have k3:∀b o,s₃.heap.get? b=some o→h₁.get? b=some o:=fun b o e=>hsb₁.extBut b o (Nat.ne_of_lt (Heap.lt_size e)) (Heap.get?_push_of_some _ e)
 have ok:=X3 hos cs I3 f3 ZU
 have cl:=vJ (env:=X.env) sc.names [] (fun z c e=>by simp at e)
 have hcl:∀y c,(jh X.env sc.names []).lookup y=some c→X.env.cells.lookup y=some c:=fun y c e=>by
  have e1:=cl.1 y c e
  have hm:(y,NameKind.free)∈sc.names:=by
   by_cases q:(y,NameKind.free)∈sc.names
   ·exact q
   ·have:=(cl.2 y).mpr ⟨rfl,q⟩
    rw[this] at e;cases e
  obtain⟨c',hc'⟩:=I3.ok.has y (.inl (by show X.env.scope.names.lookup y=_;rw[hos];exact cs.frees _ hm rfl))
  rw[hc'] at e1 ⊢
  rw[e1];rfl
 have cell4:∀y c,(jh X.env sc.names []).lookup y=some c→∀v,s₃.heap.IsCell c v→h₁.IsCell c v:=fun y c e v ⟨o,ho,hd⟩=>⟨o,k3 _ _ ho,hd⟩
 have lenC:qC.length=names.length:=by have:=congrArg List.length cs.qC;simpa using this.symm
 have I4:∀tk,Inv (xb X sc xs names fp s₃ (upd H2 s₂.heap.objs.size (.lst []))) [] (List.replicate xs.length none ++ wQ σ qC) (upd H2 s₂.heap.objs.size (.lst [])) { s₃ with heap:=h₁,toks:=tk }:=fun tk=>by
  refine⟨ok,rfl,I3.bare,Un.kept k3,⟨_,hns₁,fun i y v e1 e2 e3=>?_⟩,fun y c e=>?_,I3.fresh,fun y c e=>I3.yC y c (hcl y c e),fun p hp=>absurd (show p∈([]:List (Addr × Obj)) from hp) (by simp),I3.jx.kept k3,?_⟩
  ·have hle:xs.length≤i:=by
    by_cases q:i < xs.length
    ·rw[List.getElem?_append_left (by rw[List.length_replicate];exact q),List.getElem?_replicate,if_pos q] at e2
     cases e2
    ·omega
   obtain⟨j,rfl⟩:∃j,i=xs.length + j:=⟨i - xs.length,by omega⟩
   ·have e1':names[j]?=some y:=by
     have e1z:(xs ++ names)[xs.length + j]?=some y:=e1
     rw[List.getElem?_append_right (Nat.le_add_right _ _),Nat.add_sub_cancel_left] at e1z
     exact e1z
    have e2':(wQ σ qC)[j]?=some (some v):=by
     rw[List.getElem?_append_right (by rw[List.length_replicate];exact Nat.le_add_right _ _),List.length_replicate,Nat.add_sub_cancel_left] at e2
     exact e2
    unfold wQ at e2'
    rw[List.getElem?_map] at e2'
    cases qc:qC[j]? with
    | none=>rw[qc] at e2';cases e2'
    | some i0=>
     rw[qc] at e2'
     have e2'':(σ[i0]?).join=some v:=by simpa using e2'
     have e3':σ[i0]?=some (some v):=by
      cases qs:σ[i0]? with
      | none=>rw[qs] at e2'';cases e2''
      | some o=>rw[qs] at e2'';rw[show o=some v from by simpa using e2'']
     have eN:X.N[i0]?=some y:=by
      have q1:(names.map some)[j]?=(qC.map fun i=>X.N[i]?)[j]?:=by rw[cs.qC]
      rw[List.getElem?_map,List.getElem?_map,e1',qc] at q1
      have q2:some y=X.N[i0]?:=by simpa using q1
      exact q2.symm
     have hfree:=cs.iI y (List.mem_of_getElem? e1')
     have hm:=PySem.mem_of_lookup hfree
     have hcell:X.env.scope.names.lookup y=some .cell:=by rw[hos];exact cs.frees _ hm rfl
     obtain⟨m,hn,hl⟩:=I3.loc
     obtain⟨u,ru,lk⟩:=hl i0 y v eN e3' (.inr (.inl hcell))
     refine⟨u,ru,?_⟩
     rcases lk with ⟨kk,_⟩ | ⟨kk,c,ec,hcl'⟩
     ·have kk':X.env.scope.names.lookup y=some .local:=kk
      rw[hcell] at kk';cases kk'
     ·refine .inr ⟨?_,c,?_,?_⟩
      ·left
       show (relabel sc X.env).names.lookup y=some .cell
       rw[kG,hfree]
       have ef:(X.env.scope.kind == ScopeKind.function)=true:=by rw[I3.ok.kind];rfl
       have ek:(X.env.kindOf y == some NameKind.cell)=true:=by
        show (X.env.scope.names.lookup y == some NameKind.cell)=true
        rw[hcell];rfl
       simp [ef,ek]
      ·show (jh X.env sc.names []).lookup y=some c
       cases q:(jh X.env sc.names []).lookup y with
       | none=>exact absurd hm ((cl.2 y).mp q).2
       | some c'=>
        have:=hcl y c' q
        rw[ec] at this
        exact this.symm
      ·obtain⟨o,ho,hd⟩:=hcl'
       exact⟨o,k3 _ _ ho,hd⟩
  ·obtain⟨v,hv⟩:=I3.cell y c (hcl y c e)
   exact⟨v,cell4 y c e v hv⟩
  ·show (List.replicate xs.length none ++ wQ σ qC).length=(xs ++ names).length
   unfold wQ
   simp [lenC]
 have st4:tn 0 h₁:=T.keep _ _ _ st2 fun b hb o e=>k3 b o (by rw[hs3h];exact Heap.get?_push_of_some _ e)
 have fpok:∀{H':Hp},(∀b∈fp,H' b=none)→∀b∈fp,gZ (xb X sc xs names fp s₃ (upd H2 s₂.heap.objs.size (.lst []))) [] H' b:=fun hn b hb=>
  ⟨hn b hb,(ok.V8 b hb).1,ok.iC b hb,.inl hb,(ok.V8 b hb).2,fun p hp=>absurd (show p∈([]:List (Addr × Obj)) from hp) (by simp)⟩
 have loop:∀s₄:Shared,s₄={ s₃ with heap:=h₁,toks:=s₃.toks + ([]:List (Str × Value)).length }→
   codeAny (model X.prog X.w) X.A (.compLoop (.ListComp elt [⟨tg,iter,ifs,0⟩] sc pos) 0 (.ref it) (.ref s₂.heap.objs.size) (compEnvC sc (jh X.env sc.names []) s₃.heap.objs.size X.env))
    (RR (.ref s₂.heap.objs.size) s₃.heap.objs.size) s₄:=by
  rintro s₄ rfl
  refine sR (fun n s'=>∃i σ' H',Inv (xb X sc xs names fp s₃ (upd H2 s₂.heap.objs.size (.lst []))) [] σ' H' s'∧tn i s'.heap∧(∀b∈fp,H' b=none)∧W i n σ' H') ?_ m0
   ⟨0,_,_,I4 _,st4,fun b hb=>(f3 b hb).1,w0⟩
  rintro n s5 ⟨i,σ5,H5,I5,st5,fr5,w5⟩
  rcases turn i n σ5 H5 w5 with ⟨stop,q⟩ | ⟨go,step⟩
  ·refine xf (T.done (xb X sc xs names fp s₃ (upd H2 s₂.heap.objs.size (.lst []))) rfl rfl rfl hc i [] s5 _ H5 _ I5 (fpok fr5) st5 stop) fun r s6 ⟨hr,I6⟩=>?_
   subst hr
   obtain⟨m,hn,_⟩:=I6.loc
   have J6:Inv X pins σ H5 s6:=I3.nR (ch:=fp) I6.os I6.base I6.jx I6.bare fun b hb=>⟨(f3 b hb).2.2.2.1,(f3 b hb).2.1,(f3 b hb).2.2.2.2.1,(f3 b hb).2.2.2.2.2⟩
   exact cont _ _ H5 s6 m J6 hn (I3.ZR (H':=H5) (Nat.le_refl _) I6.free) q
  ·refine xf (T.item (xb X sc xs names fp s₃ (upd H2 s₂.heap.objs.size (.lst []))) rfl rfl rfl hc i [] s5 _ H5 _ I5 (fpok fr5) st5 go) fun r s6 ⟨u,hr,h6⟩=>?_
   subst hr
   refine xf h6 fun _ s6' ⟨y,H6,I6,r6,y6,st6,fr6⟩=>?_
   have I6':=I6.pinned (fpok fr6) (T.obj _ _ st6)
   have back:∀{σ':St} {H':Hp} {s':Shared},Inv (xb X sc xs names fp s₃ (upd H2 s₂.heap.objs.size (.lst []))) ([] ++ rz fp s6'.heap) σ' H' s'→tn (i + 1) s'.heap∧∀b∈fp,H' b=none:=fun I9=>
    ⟨T.keep _ _ _ st6 fun b hb o e=>(I9.pin (b,o) (List.mem_append_right _ (List.mem_append_right _ (wY hb e)))).1,fun b hb=>by
     obtain⟨o,e,d⟩:=T.obj _ _ st6 b hb
     exact(I9.pin (b,o) (List.mem_append_right _ (List.mem_append_right _ (wY hb e)))).2.1⟩
   refine wpAny_mono (hg fp s₃ _ _ s6' _ H6 y u _ I6' r6 (step y H6 y6)) (fun _ s7 ⟨σ7,H7,I7,q7⟩=>?_) fun _ _ z=>False.elim z
   refine wpAny_mono (ht fp s₃ _ _ s7 _ H7 _ I7 q7) (fun b s8 ⟨H8,I8,q8⟩=>?_) fun _ _ z=>False.elim z
   cases b with
   | false=>
    rw[if_neg Bool.false_ne_true] at q8 ⊢
    obtain⟨m',hm',w8⟩:=q8
    exact⟨m',hm',i + 1,σ7,H8,I8.yp,(back I8).1,(back I8).2,w8⟩
   | true=>
    rw[if_pos rfl] at q8 ⊢
    refine wpAny_mono (he fp s₃ _ _ s8 _ H8 _ I8 q8) (fun v s9 ⟨vv,H9,I9,r9,ys,hD9,hz9,m',hm',w9⟩=>?_) fun _ _ z=>False.elim z
    refine wpAny_mono (dI (X:=xb X sc xs names fp s₃ (upd H2 s₂.heap.objs.size (.lst []))) _ s9 _ H9 (.ref s₂.heap.objs.size) [vv] (.ref s₂.heap.objs.size) [v] (fun _ H'=>H'=upd H9 s₂.heap.objs.size (.lst (ys ++ [vv]))) I9 rfl (.cons r9 .nil)
     ⟨_,ys,vv,rfl,rfl,hD9,hz9,rfl⟩) (fun _ s10 ⟨_,H10,I10,_,e10⟩=>?_) fun _ _ z=>False.elim z
    subst e10
    exact⟨m',hm',i + 1,σ7,_,I10.yp,(back I10).1,(back I10).2,w9⟩
 exact codeAny_compStart_list (loop _ (by rw[←hs3])) (T.self _ 0 _ _ _ st4 (loop _ (by rw[←hs3])))
theorem ue {pins:List (Addr × Obj)} {σ:St} {H:Hp} {s:Shared} {osc:Scope} {N:List Str} {sc:Scope} {xs names:List Str} {qC:List Nat} (hos:X.env.scope=osc) (cs:yP osc N sc xs names qC) (I:Inv X pins σ H s) :
  closureFor sc X.env=pure (jh X.env sc.names []):=
 fB fun y hy hk=>I.ok.has y.1 (.inl (by show X.env.scope.names.lookup y.1=_;rw[hos];exact cs.frees y hy hk))
theorem fZ {osc:Scope} {N:List Str} {sc:Scope} {pos:Pos} {elt iter tg:Expr} {ifs:List Expr} {g:TG} {tt:TT} {xs names:List Str} {qC:List Nat} {wi:TI} {te:TE}
  (hc:X.calm=true) (hos:X.env.scope=osc) (hN:X.N=N) (cs:yP osc N sc xs names qC) (hi:PI X tg iter wi) (hg:∀fp s₀ H₀,PG (xb X sc xs names fp s₀ H₀) tg g) (ht:∀fp s₀ H₀,Yi (xb X sc xs names fp s₀ H₀) ifs tt) (he:∀fp s₀ H₀,PE (xb X sc xs names fp s₀ H₀) elt te)
  (hs:∀v,foldedSetIterable iter X.env v=pure v:=by intro _;rfl):PE X (.ListComp elt [⟨tg,iter,ifs,0⟩] sc pos) (Xr xs.length qC wi g tt te):=by
 intro pins s σ H Q I h
 rw[eval_ListComp]
 refine wpAny_comprehension_free (use:=none) rfl hs (ue hos cs I) cs.kind cs.locs (xf (hi pins s σ H _ I h) fun xv s1 h1=>xf h1 fun itv s2 h2=>?_)
 obtain⟨it,fp,tn,J,H2,rfl,I2,T,st2,f2,hW⟩:=h2
 refine lP (Qd:=Q) (RR:=fun acc C=>compPost (model X.prog X.w) X.A X.xe none (EP X pins σ Q) acc C) hc hos hN cs hg ht he I2 T st2 f2 hW fun D C H5 s6 m I6 hn fC q=>?_
 refine⟨m,hn,fun h' sb=>?_⟩
 obtain⟨g0,g1,g2,g3,g4,g5⟩:=fC
 exact⟨.ref D,H5,I6.turned (t':=s6.toks) (it:=C) (fun b o hb e=>sb.extBut b o hb e) g0 g1 g3 g4 g5,rfl,q⟩
theorem lj {osc:Scope} {N:List Str} {sc:Scope} {y:Str} {py pos spos:Pos} {elt iter tg:Expr} {ifs:List Expr} {g:TG} {tt:TT} {xs names:List Str} {qC:List Nat} {wi:TI} {te:TE} {i:Nat}
  (hc:X.calm=true) (hos:X.env.scope=osc) (hN:X.N=N) (nd:X.N.Nodup) (cs:yP osc N sc xs names qC) (hi':X.N[i]?=some y) (hy:X.env.scope.names.lookup y=some .local) (hi:PI X tg iter wi)
  (hg:∀fp s₀ H₀,PG (xb X sc xs names fp s₀ H₀) tg g) (ht:∀fp s₀ H₀,Yi (xb X sc xs names fp s₀ H₀) ifs tt) (he:∀fp s₀ H₀,PE (xb X sc xs names fp s₀ H₀) elt te) (hsw:swapsWith (.ListComp elt [⟨tg,iter,ifs,0⟩] sc pos) (some (.Name y py)) spos.line X.env=pure true:=by rfl)
  (hs:∀v,foldedSetIterable iter X.env v=pure v:=by intro _;rfl):PS X (.Assign [.Name y py] (.ListComp elt [⟨tg,iter,ifs,0⟩] sc pos) spos) (K1 (Xr xs.length qC wi g tt te) (gC i)):=by
 intro pins s σ H D I h
 rw[exec_Assign_Name_used _ _ _ _ hsw]
 refine wpAny_bind (wpAny_standAt (wpAny_bind ?_))
 show wpAny _ X.A (do let _ ←comprehension (.ListComp elt [⟨tg,iter,ifs,0⟩] sc pos) sc X.env _ (newList []) false (eval iter X.env) (some (assign (.Name y py) X.env))) _ _ s
 refine wpAny_bind (wpAny_mono (wpAny_comprehension_free (use:=some (assign (.Name y py) X.env)) (Q:=fun _ s'=>SP X pins D .next s') rfl hs (ue hos cs I) cs.kind cs.locs
  (xf (hi pins s σ H _ I h) fun xv s1 h1=>xf h1 fun itv s2 h2=>?_)) (fun _ s' hq=>wpAny_pure (wpAny_pure hq)) fun _ _ e=>e)
 obtain⟨it,fp,tn,J,H2,rfl,I2,T,st2,f2,hW⟩:=h2
 refine lP (Qd:=fun x H1=>gC i x σ H1 D.nx) (RR:=fun acc C=>compPost (model X.prog X.w) X.A X.xe (some (assign (.Name y py) X.env)) (fun _ s'=>SP X pins D .next s') acc C) hc hos hN cs hg ht he I2 T st2 f2 hW fun D' C H5 s6 m I6 hn fC q=>?_
 show wpAny _ X.A (assign (.Name y py) X.env (.ref D')) _ _ _
 obtain⟨oC,es,ep,eC,dC,rC⟩:=id hn
 obtain⟨g0,g1,g2,g3,g4,g5⟩:=id fC
 have I6p:Inv X (pins ++ [(C,oC)]) σ H5 s6:=I6.uv fun p hp=>(List.mem_append.mp hp).elim (fun z=>I6.pin p (List.mem_append_right _ z)) fun z=>by
  have e:p=(C,oC):=by simpa using z
  subst e
  exact⟨eC,g0,g1,g2,fun v z=>by rw[dC] at z;cases z⟩
 refine wpAny_assign_Name (bq I6p nd hi' (.inl hy) (v:=.ref D') rfl (fun s7 I7=>?_) (.inr hy))
 have e7:=(I7.pin (C,oC) (List.mem_append_right _ (List.mem_append_right _ (by simp)))).1
 refine⟨m,⟨oC,es,ep,e7,dC,rC⟩,fun h' sb=>?_⟩
 exact⟨_,H5,(I7.yp).turned (t':=s7.toks) (it:=C) (fun b o hb e=>sb.extBut b o hb e) g0 g1 g3 g4 g5,q⟩
end
theorem oz {J:It} {H:Hp} {xs:List V} {n:Nat} {qC:List Nat} {g:TG} {tt:TT} {te:TE} {σ:St} {Q:VK} (hJ:nP J H xs) (tv:V→List (Option V)) (hn:∀y,(tv y).length=n) (p:V→Bool) (Pr:V→V→Prop) (hsz:xs.length≤sizeLine)
  (hg:∀(i:Nat) (y:V) (ts:List (Option V)) (H':Hp) (K':St→Hp→Prop),xs[i]?=some y→ts.length=n→qp H H'→K' (tv y ++ wQ σ qC) H'→g y (ts ++ wQ σ qC) H' K')
  (ht:∀(i:Nat) (y:V) (H':Hp) (Q':Bool→Hp→Prop),xs[i]?=some y→qp H H'→(∀H4,qp H' H4→Q' (p y) H4)→tt (tv y ++ wQ σ qC) H' Q')
  (he:∀(i:Nat) (y:V) (H':Hp) (Q':VK),xs[i]?=some y→p y=true→qp H H'→(∀v H4,qp H' H4→Pr y v→Q' v H4)→te (tv y ++ wQ σ qC) H' Q')
  (hd:∀(D:Addr) (H':Hp) (ys:List V),qp H H'→H D=none→H' D=some (.lst ys)→Paired Pr (xs.filter p) ys→Q (.ref D) H') :
  lJ J n qC g tt te σ Q H:=by
 intro D hD
 refine⟨fun i m σ1 H2=>m=xs.length - i∧i≤xs.length∧(∃ts:List (Option V),ts.length=n∧σ1=ts ++ wQ σ qC)∧qp H H2∧∃ys,H2 D=some (.lst ys)∧Paired Pr ((xs.take i).filter p) ys,
  ⟨xs.length,by simp,Nat.zero_le _,⟨_,List.length_replicate,rfl⟩,qp.dE hD,[],qm,by simpa using Paired.nil⟩,?_⟩
 rintro i m σ1 H2 ⟨rfl,hi,⟨ts,htl,rfl⟩,s2,ys,hy,hp⟩
 obtain⟨j1,j2,j3⟩:=hJ i H2 s2
 by_cases hlt:i < xs.length
 ·refine .inr ⟨j1 hlt,fun y H3 q=>?_⟩
  obtain⟨e3,ey⟩:=j2 y H3 q
  subst e3
  have hyi:=ey hlt
  have htake:xs.take (i + 1)=xs.take i ++ [y]:=by
   rw[List.take_add_one,hyi];rfl
  have hlen:ys.length≤i:=by
   rw[←hp.length]
   exact Nat.le_trans (List.length_filter_le _ _) (by rw[List.length_take];omega)
  refine hg i y ts _ _ hyi htl s2 ?_
  refine ht i y _ _ hyi s2 fun H5 s5=>?_
  cases hpy:p y with
  | false=>
   rw[if_neg Bool.false_ne_true]
   refine⟨xs.length - (i + 1),by omega,rfl,hlt,⟨tv y,hn y,rfl⟩,s2.trans s5,ys,s5 _ _ hy,?_⟩
   rw[htake,List.filter_append,show [y].filter p=[] by simp [hpy],List.append_nil]
   exact hp
  | true=>
   rw[if_pos rfl]
   refine he i y _ _ hyi hpy (s2.trans s5) fun v H6 s6 pr=>⟨ys,s6 _ _ (s5 _ _ hy),by omega,xs.length - (i + 1),by omega,rfl,hlt,⟨tv y,hn y,rfl⟩,((s2.trans s5).trans s6).put hD,ys ++ [v],qm,?_⟩
   rw[htake,List.filter_append,show [y].filter p=[y] by simp [hpy]]
   exact hp.snoc pr
 ·have e:i=xs.length:=by omega
  subst e
  refine .inl ⟨j3 rfl,hd D H2 ys s2 hD hy ?_⟩
  rw[List.take_length] at hp
  exact hp
theorem aY {J:It} {H:Hp} {xs:List V} {qC:List Nat} {tt:TT} {te:TE} {σ:St} {Q:VK} (hJ:nP J H xs) (p:V→Bool) (Pr:V→V→Prop) (hsz:xs.length≤sizeLine)
  (ht:∀(i:Nat) (y:V) (H':Hp) (Q':Bool→Hp→Prop),xs[i]?=some y→qp H H'→(∀H4,qp H' H4→Q' (p y) H4)→tt (some y :: wQ σ qC) H' Q')
  (he:∀(i:Nat) (y:V) (H':Hp) (Q':VK),xs[i]?=some y→p y=true→qp H H'→(∀v H4,qp H' H4→Pr y v→Q' v H4)→te (some y :: wQ σ qC) H' Q')
  (hd:∀(D:Addr) (H':Hp) (ys:List V),qp H H'→H D=none→H' D=some (.lst ys)→Paired Pr (xs.filter p) ys→Q (.ref D) H') :
  lJ J 1 qC (gC 0) tt te σ Q H:=
 oz hJ (fun y=>[some y]) (fun _=>rfl) p Pr hsz (fun i y ts H' K' _ htl _ q=>by
  match ts,htl with
  | [_],_=>exact q) ht he hd
theorem lH {J:It} {H:Hp} {xs:List V} {n:Nat} {qC:List Nat} {g:TG} {te:TE} {σ:St} {Q:VK} (hJ:nP J H xs) (tv:V→List (Option V)) (hn:∀y,(tv y).length=n) (Pr:V→V→Prop) (hsz:xs.length≤sizeLine)
  (hg:∀(i:Nat) (y:V) (ts:List (Option V)) (H':Hp) (K':St→Hp→Prop),xs[i]?=some y→ts.length=n→qp H H'→K' (tv y ++ wQ σ qC) H'→g y (ts ++ wQ σ qC) H' K')
  (he:∀(i:Nat) (y:V) (H':Hp) (Q':VK),xs[i]?=some y→qp H H'→(∀v H4,qp H' H4→Pr y v→Q' v H4)→te (tv y ++ wQ σ qC) H' Q')
  (hd:∀(D:Addr) (H':Hp) (ys:List V),qp H H'→H D=none→H' D=some (.lst ys)→Paired Pr xs ys→Q (.ref D) H') :
  lJ J n qC g K3 te σ Q H:=
 oz hJ tv hn (fun _=>true) Pr hsz hg (fun i y H' Q' _ s' k=>k H' (qp.refl _)) (fun i y H' Q' hy _ s' k=>he i y H' Q' hy s' k) (fun D H' ys s' hD e q=>hd D H' ys s' hD e (by rw[List.filter_eq_self.mpr (fun _ _=>rfl)] at q;exact q))
end L2
namespace L2
open PySem PySem.Spec PyProof.Rows
section
variable {X:Cx} {pins:List (Addr × Obj)} {σ:St} {H:Hp} {s:Shared} {h':Heap}
theorem Inv.BD {ch:List Addr} {a:Addr} {o:HO} {t':Nat} (I:Inv X pins σ H s) (hf:∀b∈ch,gZ X pins H b) (k:∀b u,b∉ch→s.heap.get? b=some u→h'.get? b=some u)
  (hp:s.heap.objs.size≤a) (new:xk X.prog X.w (upd H a o) h' a o):Inv X pins σ (upd H a o) { s with heap:=h',toks:=t' }:=by
 have hn:=I.jx.fresh hp
 have nit:∀b u,H b=some u→b∉ch:=fun b u e z=>by rw[(hf b z).1] at e;cases e
 have ne:∀b u,s.heap.get? b=some u→b≠a:=fun b u e z=>absurd (Nat.lt_of_lt_of_le (Heap.lt_size (z▸e)) hp) (Nat.lt_irrefl _)
 refine I.step (g':=s.gens) (d':=s.drawn) (ch:=ch) (fun b hb=>?_) (fun b o _ _ hc e _=>k b o hc e) (fun b o _ _ hc e _=>⟨o.slots,k b o hc e⟩) (fun b o hc e n=>?_) (fun b o hc e=>⟨o,k b o hc e⟩) (fun b xs e=>?_) (fun b o u e=>?_) (fun b ps e=>⟨#[],?_⟩) (fun m hm=>?_) (fun b u e=>?_) I.bare
 ·obtain⟨_,f1,_,f3,f4,f5⟩:=hf b hb
  exact⟨f3,f1,f4,f5⟩
 ·rw[qB (ne b o e)];exact n
 ·rw[qB (qg e hn)];exact e
 ·rw[qB (qg e hn)];exact e
 ·rw[qB (qg e hn),e];simp
 ·obtain⟨o,es,ep,ho,r⟩:=hm
  exact⟨o,es,ep,k _ o (fun z=>(hf _ z).2.1 rfl) ho,r⟩
 ·by_cases hb:b=a
  ·subst hb;rw[qm] at e;cases e;exact new
  ·rw[qB hb] at e
   refine(I.jx b u e).nK (fun c v hc q=>k c v ?_ q) (fun c q=>by rw[qB (qg q hn)];exact q) fun c xs q=>by rw[qB (qg q hn)];exact q
   rcases hc with z | z
   ·rw[z];exact nit b u e
   ·exact nit c _ z
theorem Inv.Hw {ch:List Addr} {t':Nat} (I:Inv X pins σ H s) (hf:∀b∈ch,gZ X pins H b) (k:∀b u,b∉ch→s.heap.get? b=some u→h'.get? b=some u):Inv X pins σ H { s with heap:=h',toks:=t' }:=by
 have nit:∀b u,H b=some u→b∉ch:=fun b u e z=>by rw[(hf b z).1] at e;cases e
 refine I.step (g':=s.gens) (d':=s.drawn) (ch:=ch) (fun b hb=>?_) (fun b o _ _ hc e _=>k b o hc e) (fun b o _ _ hc e _=>⟨o.slots,k b o hc e⟩) (fun b o hc e n=>n) (fun b o hc e=>⟨o,k b o hc e⟩) (fun b xs e=>e) (fun b o u e=>e) (fun b ps e=>⟨#[],by rw[e];simp⟩) (fun m hm=>?_) (fun b u e=>?_) I.bare
 ·obtain⟨_,f1,_,f3,f4,f5⟩:=hf b hb
  exact⟨f3,f1,f4,f5⟩
 ·obtain⟨o,es,ep,ho,r⟩:=hm
  exact⟨o,es,ep,k _ o (fun z=>(hf _ z).2.1 rfl) ho,r⟩
 ·refine(I.jx b u e).nK (fun c v hc q=>k c v ?_ q) (fun c q=>q) fun c xs q=>q
  rcases hc with z | z
  ·rw[z];exact nit b u e
  ·exact nit c _ z
end
noncomputable def G5 (K:PySem.W.Frag) (a b:Addr):It:=
 ⟨fun i H=>∃xs ys x y,qL K H a xs∧qL K H b ys∧xs[i]?=some x∧ys[i]?=some y,
  fun i H v H'=>∃t x y,H t=none∧v=.ref t∧H'=upd H t (.tup [x,y])∧(∀xs,qL K H a xs→xs[i]?=some x)∧∀ys,qL K H b ys→ys[i]?=some y,
  fun i H=>∃xs ys,qL K H a xs∧qL K H b ys∧(xs.length≤i∨ys.length≤i)⟩
noncomputable def YQ (z TI TO i1 i2 l1 l2:Addr) (i:Nat) (h:Heap):Prop:=
 IsZip h z TI TO .none∧IsPair h TI (.ref i1) (.ref i2)∧(∃a b,IsPair h TO a b)∧h.IsListIter i1 l1 i∧h.IsListIter i2 l2 i
theorem Xo {P:Program} {w:World} {K:PySem.W.Frag} {es:List Expr} {k1:Nat} {pos:Pos} {z TI TO i1 i2 l1 l2:Addr} (D:ZipApart z TI TO i1 i2 l1 l2) :
  Turn P w K (.Tuple es k1 pos) (G5 K l1 l2) [z,TI,TO,i1,i2] z (YQ z TI TO i1 i2 l1 l2) where
 mem:=by simp
 obj:=fun i h st b hb=>by
  obtain⟨a1,a2,⟨x,y,a3⟩,⟨o4,e4,_,d4⟩,o5,e5,_,d5⟩:=st
  simp only[List.mem_cons,List.not_mem_nil,or_false] at hb
  rcases hb with rfl | rfl | rfl | rfl | rfl
  ·exact⟨_,a1,fun v q=>by cases q⟩
  ·exact⟨_,a2,fun v q=>by cases q⟩
  ·exact⟨_,a3,fun v q=>by cases q⟩
  ·exact⟨_,e4,fun v q=>by rw[d4] at q;cases q⟩
  ·exact⟨_,e5,fun v q=>by rw[d5] at q;cases q⟩
 keep:=fun i h h' st k=>by
  obtain⟨a1,a2,⟨x,y,a3⟩,a4,a5⟩:=st
  exact⟨k z (by simp) _ a1,k TI (by simp) _ a2,⟨x,y,k TO (by simp) _ a3⟩,a4.at fun o e=>k i1 (by simp) o e,a5.at fun o e=>k i2 (by simp) o e⟩
 item:=by
  intro X hP hw hK hc i pins s σ H E I hf st hg
  subst hP hw hK
  obtain⟨xs,ys,x,y,hq1,hq2,hx,hy⟩:=hg
  obtain⟨its1,rv1,p1,_⟩:=I.list hq1
  obtain⟨its2,rv2,p2,_⟩:=I.list hq2
  obtain⟨u1,hu1,ru1⟩:=rv1.get hx
  obtain⟨u2,hu2,ru2⟩:=rv2.get hy
  obtain⟨a1,a2,⟨a,b,a3⟩,a4,a5⟩:=st
  refine wpAny_pyNext_zip_item D a1 a2 a3 a4 a5 p1.isList p2.isList (x:=u1) (y:=u2) (by simpa using hu1) (by simpa using hu2) fun h' b1 b2 b3 b4 b5 b6 bk=>?_
  refine⟨_,rfl,wpAny_letOwnedTupleGo_zip b1 fun h2 c1 c2=>?_⟩
  have lt:∀{c o},s.heap.get? c=some o→s.heap.objs.size≠c:=fun e=>Nat.ne_of_gt (Heap.lt_size e)
  have keepA:∀c o,c∉[z,TI,TO,i1,i2]→s.heap.get? c=some o→h2.get? c=some o:=fun c o hc e=>by
   simp only[List.mem_cons,List.not_mem_nil,or_false,not_or] at hc
   exact c2.extBut _ _ hc.1 (bk c o hc.1 hc.2.2.1 hc.2.2.2.1 hc.2.2.2.2 e)
  have T2:IsPair h2 s.heap.objs.size u1 u2:=c2.extBut _ _ (lt a1) b5
  refine⟨.ref s.heap.objs.size,upd H s.heap.objs.size (.tup [x,y]),I.BD (t':=s.toks) hf keepA (Nat.le_refl _) ?_,rfl,⟨_,x,y,I.fresh,rfl,rfl,fun zs hz=>by rw[I.uH hz hq1];exact hx,fun zs hz=>by rw[I.uH hz hq2];exact hy⟩,?_,fun b hb=>?_⟩
  ·exact⟨by show 2≤sizeLine;decide,[u1,u2],.cons ru1 (.cons ru2 .nil),_,T2,rfl,0,rfl⟩
  ·exact⟨c1,c2.extBut _ _ D.TIz (bk TI _ D.TIz D.TITO D.TIi1 D.TIi2 a2),⟨_,_,c2.extBut _ _ D.TOz b2⟩,b3.extBut c2.extBut D.i1z,b4.extBut c2.extBut D.i2z⟩
  ·have hb':∃o,s.heap.get? b=some o:=by
    obtain⟨o4,e4,_⟩:=a4
    obtain⟨o5,e5,_⟩:=a5
    simp only[List.mem_cons,List.not_mem_nil,or_false] at hb
    rcases hb with rfl | rfl | rfl | rfl | rfl
    ·exact⟨_,a1⟩
    ·exact⟨_,a2⟩
    ·exact⟨_,a3⟩
    ·exact⟨_,e4⟩
    ·exact⟨_,e5⟩
   obtain⟨o,e⟩:=hb'
   rw[qB (Ne.symm (lt e))]
   exact(hf b hb).1
 done:=by
  intro X hP hw hK hc i pins s σ H E I hf st hg
  subst hP hw hK
  obtain⟨xs,ys,hq1,hq2,he⟩:=hg
  obtain⟨its1,rv1,p1,_⟩:=I.list hq1
  obtain⟨its2,rv2,p2,_⟩:=I.list hq2
  have l1':=rv1.length
  have l2':=rv2.length
  obtain⟨a1,a2,⟨a,b,a3⟩,a4,a5⟩:=st
  refine wpAny_pyNext_zip_end (I.ok.hd hc) D a1 a2 a3 a4 a5 p1.isList p2.isList ?_ fun h' bk=>⟨rfl,I.Hw (t':=s.toks) hf fun c o hc e=>?_⟩
  ·rcases he with he | he
   ·exact .inl (by simp;omega)
   ·exact .inr (by simp;omega)
  ·simp only[List.mem_cons,List.not_mem_nil,or_false,not_or] at hc
   exact bk c o hc.1 hc.2.2.1 hc.2.2.2.1 hc.2.2.2.2 e
 self:=fun _ _ _ _ _ st h=>wpAny_pyIter_zip st.1 h
noncomputable def YB (K:PySem.W.Frag) (ta:TA):TI:=fun σ H R=>ta σ H fun vs H1=>∃a b xs ys,vs=[.ref a,.ref b]∧qL K H1 a xs∧qL K H1 b ys∧R (G5 K a b) H1
section
variable {X:Cx}
theorem WR {es:List Expr} {k1:Nat} {tpos:Pos} {a b:Expr} {ta:TA} {p pos:Pos} (hg:Gl X "zip") (hm:X.mg "zip" = none) (ha:PA X [a,b] ta) (hv:bootBuiltins "zip" = some (.type "zip"))
  (he:starEach [a,b] X.env=(false,eval a X.env) :: starEach [b] X.env:=by rfl) (hpl:(backTo pos (starEach [b] X.env)).any (·.1)=false:=by rfl) :
  PI X (.Tuple es k1 tpos) (.Call (.Name "zip" p) [a,b] [] pos) (YB X.K ta):=by
 intro pins s σ H R I h
 refine wpAny_Call_Name_kw (dS I hg hm hv ?_)
 refine PyProof.Rows.callWith_type1 (xf (ha pos pins s σ H _ I h) fun us s1 ⟨vs,H1,I1,r1,q1⟩=>?_) he hpl
 obtain⟨l1,l2,xs,ys,rfl,hq1,hq2,q⟩:=q1
 obtain⟨its1,rv1,p1,_⟩:=I1.list hq1
 obtain⟨its2,rv2,p2,_⟩:=I1.list hq2
 cases r1 with
 | cons r rr=>
  cases rr with
  | cons r' rr=>
   cases rr
   cases r
   cases r'
   have b1:l1 < s1.heap.objs.size:=by obtain⟨_,_,e,_⟩:=p1;exact Heap.lt_size e
   have b2:l2 < s1.heap.objs.size:=by obtain⟨_,_,e,_⟩:=p2;exact Heap.lt_size e
   refine call_zip_2 p1.isList p2.isList fun h' c1 c2 c3 c4 c5 c6 ck=>?_
   refine wpAny_pyIter_zip (s:={ s1 with heap:=h' }) c1 ?_
   refine⟨_,_,_,_,H1,rfl,I1.kept (t':=s1.toks) ck,Xo (zipApart_new b1 b2),⟨c1,c2,⟨_,_,c3⟩,c4,c5⟩,fun c hc=>?_,q⟩
   have:s1.heap.objs.size≤c:=by
    simp only[List.mem_cons,List.not_mem_nil,or_false] at hc
    rcases hc with rfl | rfl | rfl | rfl | rfl<;>omega
   exact I1.ZR this (I1.jx.fresh this)
theorem sr:∀(tk:Nat) (xs:List Str),Vals (xs.map V.str) (strsFrom tk xs)
 | _,[]=>.nil
 | tk,x :: r=>.cons ⟨tk,rfl⟩ (sr (tk + 1) r)
noncomputable def WO:V→List V→Hp→VK→Prop:=fun x vs H Q=>∃z y,x=.str z∧vs=[.str y]∧(y.length == 0)=false∧z.length + 2≤sizeLine∧Nw H (.lst ((Txt.split z y).map V.str)) Q
theorem g8:Qi X "str.split" WO:=by
 intro pins s σ H x vs v us Q I rx rv h
 obtain⟨z,y,rfl,rfl,hy,hz,q⟩:=h
 obtain⟨t,rfl⟩:=rx
 obtain⟨u,rfl,ru⟩:=rv.one
 obtain⟨t',rfl⟩:=ru
 have hsz:z.length≤sizeLine:=by omega
 have hle:=PyProof.Rows.split_le z y
 have fin:∀(l:List Value) (tk:Nat),Vals ((Txt.split z y).map V.str) l→EP X pins σ Q (.ref s.heap.objs.size) { s with heap:=s.heap.push { cls:=.type "list",data:=.seq l.toArray },toks:=tk }:=fun l tk r=>
  ⟨.ref s.heap.objs.size,_,I.Jr (t':=tk) r (by rw[List.length_map];omega),rfl,q.el _ I.fresh⟩
 cases h1:(decide (z.length < y.length) || decide (Builtin.Str.strKind z < Builtin.Str.strKind y)) with
 | true=>
  refine call_meets F.slot_str_split (typeIs_str _ _ _) F.entry_str_split (F.args_str_split_2 _ _) (meets_str_split_cannot_occur z y t t' h1) ?_
  refine fin [.str z t] s.toks ?_
  have e:Txt.split z y=[z]:=if_pos h1
  rw[e];exact .cons ⟨t,rfl⟩ .nil
 | false=>
  cases hf:(Builtin.Str.occurrences z y 0 z.length (z.length + 1)).isEmpty with
  | true=>
   refine call_meets F.slot_str_split (typeIs_str _ _ _) F.entry_str_split (F.args_str_split_2 _ _) (meets_str_split_not_found z y t t' h1 hy hf) ?_
   refine fin [.str z t] s.toks ?_
   have e:Txt.split z y=[z]:=(if_neg (ne_true_of_eq_false h1)).trans (if_pos hf)
   rw[e];exact .cons ⟨t,rfl⟩ .nil
  | false=>
   have e:Txt.split z y=Builtin.Str.partsBetween z (Builtin.Str.occurrences z y 0 z.length (z.length + 1)) y.length:=(if_neg (ne_true_of_eq_false h1)).trans (if_neg (ne_true_of_eq_false hf))
   rw[e] at hle
   refine call_meets F.slot_str_split (typeIs_str _ _ _) F.entry_str_split (F.args_str_split_2 _ _) (meets_str_split_sep z y t t' h1 hy hf hsz (by omega)) ?_
   refine fin _ _ ?_
   rw[e];exact sr _ _
theorem Ka {K:PySem.W.Frag} {es:List Expr} {k1:Nat} {tpos:Pos} {a b:Expr} {ta:TA} {p pos:Pos} (hK:X.K=K) (hg:Gl X "zip") (hm:X.mg "zip" = none) (ha:PA X [a,b] ta) (hv:bootBuiltins "zip" = some (.type "zip"))
  (he:starEach [a,b] X.env=(false,eval a X.env) :: starEach [b] X.env:=by rfl) (hpl:(backTo pos (starEach [b] X.env)).any (·.1)=false:=by rfl) :
  PI X (.Tuple es k1 tpos) (.Call (.Name "zip" p) [a,b] [] pos) (YB K ta):=hK▸WR hg hm ha hv he hpl
end
theorem QA {K:PySem.W.Frag} {a b:Addr} {H:Hp} {xs ys:List V} {qC:List Nat} {te:TE} {σ:St} {Q:VK} (hx:qL K H a xs) (hy:qL K H b ys) (Pr:V→V→V→Prop) (hsz:xs.length≤sizeLine)
  (he:∀(i:Nat) (x y:V) (H':Hp) (Q':VK),xs[i]?=some x→ys[i]?=some y→qp H H'→(∀v H4,qp H' H4→Pr x y v→Q' v H4)→te ([some x,some y] ++ wQ σ qC) H' Q')
  (hd:∀(D:Addr) (H':Hp) (vs:List V),qp H H'→H D=none→H' D=some (.lst vs)→vs.length=min xs.length ys.length→(∀(i:Nat) x y v,xs[i]?=some x→ys[i]?=some y→vs[i]?=some v→Pr x y v)→Q (.ref D) H') :
  lJ (G5 K a b) 2 qC (Wv K 2 (Jq (gC 0) (Jq (gC 1) YY))) K3 te σ Q H:=by
 intro D hD
 refine⟨fun i m σ1 H2=>m=min xs.length ys.length - i∧i≤min xs.length ys.length∧(∃ts:List (Option V),ts.length=2∧σ1=ts ++ wQ σ qC)∧qp H H2∧∃vs,H2 D=some (.lst vs)∧vs.length=i∧∀(j:Nat) x y v,xs[j]?=some x→ys[j]?=some y→vs[j]?=some v→Pr x y v,
  ⟨min xs.length ys.length,by omega,Nat.zero_le _,⟨_,List.length_replicate,rfl⟩,qp.dE hD,[],qm,rfl,fun j x y v _ _ e=>by simp at e⟩,?_⟩
 rintro i m σ1 H2 ⟨rfl,hi,⟨ts,htl,rfl⟩,s2,vs,hv,hvl,hp⟩
 have hx2:qL K H2 a xs:=W8 hx s2
 have hy2:qL K H2 b ys:=W8 hy s2
 by_cases hlt:i < min xs.length ys.length
 ·have h1:i < xs.length:=by omega
  have h2:i < ys.length:=by omega
  refine .inr ⟨⟨xs,ys,_,_,hx2,hy2,List.getElem?_eq_getElem h1,List.getElem?_eq_getElem h2⟩,fun u H3 q=>?_⟩
  obtain⟨tp,x,y,htn,rfl,rfl,ex,ey⟩:=q
  have ex:=ex xs hx2
  have ey:=ey ys hy2
  have s3:qp H2 (upd H2 tp (.tup [x,y])):=qp.dE htn
  match ts,htl with
  | [_,_],_=>
   refine⟨tp,[x,y],rfl,yc.of qm,rfl,x,[y],rfl,y,[],rfl,rfl,?_⟩
   unfold K3
   dsimp only
   rw[if_pos rfl]
   refine he i x y _ _ ex ey (s2.trans s3) fun v H6 s6 pr=>⟨vs,s6 _ _ (s3 _ _ hv),by omega,min xs.length ys.length - (i + 1),by omega,rfl,hlt,⟨[some x,some y],rfl,rfl⟩,((s2.trans s3).trans s6).put hD,vs ++ [v],qm,by rw[List.length_append,hvl];rfl,fun j x' y' v' e1 e2 e3=>?_⟩
   by_cases hj:j < vs.length
   ·rw[List.getElem?_append_left hj] at e3
    exact hp j x' y' v' e1 e2 e3
   ·have hji:j=i:=by
     have:=(List.getElem?_eq_some_iff.mp e3).1
     rw[List.length_append,List.length_singleton] at this
     omega
    subst hji
    rw[List.getElem?_append_right (by omega),hvl,Nat.sub_self] at e3
    rw[ex] at e1
    rw[ey] at e2
    cases e1
    cases e2
    cases e3
    exact pr
 ·have e:i=min xs.length ys.length:=by omega
  refine .inl ⟨⟨xs,ys,hx2,hy2,by omega⟩,hd D H2 vs s2 hD hv (by omega) hp⟩
end L2
namespace L2
open PyProof.Rows PySem PySem.Spec
noncomputable def cj (h:Heap) (e C:Addr) (d:Option Addr) (tb:Value):Prop:=∃vs sl,h.get? e=some ⟨.ref C,d,.fields vs,sl⟩∧vs.size=6∧vs[1]?=some tb∧vs[2]?=some .none
noncomputable def Qe (h:Heap) (T:Addr) (fl:Value):Prop:=∃oT ts,h.get? T=some oT∧oT.data=.fields ts∧ts[3]?=some fl
structure mW (fs ch:List Addr) (h h':Heap):Prop where
 keep:∀b o,h.get? b=some o→b∉fs→b∉ch→h'.get? b=some o
 slot:∀b o,h.get? b=some o→b∈fs→b∉ch→∃sl,h'.get? b=some { o with slots:=sl }
 there:∀b o,h.get? b=some o→∃o',h'.get? b=some o'
theorem mW.trans {fs ch:List Addr} {h h1 h2:Heap} (a:mW fs ch h h1) (b:mW fs ch h1 h2):mW fs ch h h2 where
 keep:=fun c o e hf hc=>b.keep c o (a.keep c o e hf hc) hf hc
 slot:=fun c o e hf hc=>by
  obtain⟨sl,e1⟩:=a.slot c o e hf hc
  obtain⟨sl',e2⟩:=b.slot c _ e1 hf hc
  exact⟨sl',e2⟩
 there:=fun c o e=>by
  obtain⟨o',e1⟩:=a.there c o e
  exact b.there c o' e1
theorem mW.mono {fs ch ch':List Addr} {h h1:Heap} (a:mW fs ch h h1) (hs:∀b∈ch,b∈ch'):mW fs ch' h h1:=
 ⟨fun c o e hf hc=>a.keep c o e hf fun z=>hc (hs c z),fun c o e hf hc=>a.slot c o e hf fun z=>hc (hs c z),a.there⟩
section
variable {M:Model} {A:Around} {E:Value→Shared→Prop} {s:Shared} {base:Heap} {env:Env} {outer:List Env} {L e C:Addr} {d:Option Addr}
theorem mW.one {fs:List Addr} {h:Heap} {a:Addr} {f:Obj→Obj} {o:Obj} (ha:h.get? a=some o) (hf:(f o).isFreed=false):mW fs [a] h (h.update a f):=by
 have ne:∀b,b∉[a]→a≠b:=fun b hb q=>hb (by rw[q];exact List.mem_singleton.mpr rfl)
 refine⟨fun b u e _ hc=>(Heap.get?_update_other _ _ (ne b hc)).trans e,fun b u e _ hc=>⟨u.slots,(Heap.get?_update_other _ _ (ne b hc)).trans e⟩,fun b u e=>?_⟩
 by_cases q:a=b
 ·subst q;exact⟨_,Heap.get?_update_self _ ha hf⟩
 ·exact⟨u,(Heap.get?_update_other _ _ q).trans e⟩
theorem mW.push {fs ch:List Addr} {h:Heap} {o:Obj}:mW fs ch h (h.push o):=
 ⟨fun b u e _ _=>Heap.get?_push_of_some _ e,fun b u e _ _=>⟨u.slots,Heap.get?_push_of_some _ e⟩,fun b u e=>⟨u,Heap.get?_push_of_some _ e⟩⟩
theorem mW.slots {fs ch:List Addr} {h h':Heap} (x:Heap.SlotsOnly fs h h'):mW fs ch h h':=
 ⟨fun b u e hf _=>(x.2.1 b hf).trans e,fun b u e _ _=>x.2.2 b u e,fun b u e=>by obtain⟨sl,q⟩:=x.2.2 b u e;exact⟨_,q⟩⟩
theorem cj.slots {h h1 : Heap} {l : List Env} {tb : Value} (hx : cj h e C d tb) (hl : h.FunFrames base l) (k : Heap.SlotsOnly (l.filterMap (·.frame)) h h1) : cj h1 e C d tb := by
  obtain ⟨vs, sl, he, r⟩ := hx
  refine ⟨vs, sl, (k.2.1 e fun m => ?_).trans he, r⟩
  obtain ⟨_, o, ho, no⟩ := hl.mem m
  cases he.symm.trans ho
  exact no vs rfl
theorem entry_put {tb top : Value} {pl : List Value} {Q : Unit → Shared → Prop} (ip : IsPlace pl) (hx : cj s.heap e C d tb)
    (q : ∀ h' T, s.heap.objs.size ≤ T → cj h' e C d (.ref T) → Qe h' T (rawInt L) → (∀ fs, mW fs [e] s.heap h') → Q () { s with heap := h' }) : wpAny M A (EntryCells.newEntry top (.ref L) .none (rawInt L) .none pl >>= setField (.ref e) 1) Q E s := by
  obtain ⟨vs, sl, he, hsz, h1, h2⟩ := hx
  have sN := ip.sizeOk5 top (.ref L) .none (rawInt L) .none
  unfold EntryCells.newEntry newFields
  generalize ets : List.toArray _ = ts at sN
  have h3 : ts[3]? = some (rawInt L) := by rw [← ets]; rfl
  refine wpAny_bind (wpAny_newObj_type ?_ sN)
  generalize eot : ({ cls := .type "traceback", data := .fields ts } : Obj) = ot
  have nf : (Obj.mapFields (·.setIfInBounds 1 (Value.ref s.heap.objs.size)) ⟨.ref C, d, .fields vs, sl⟩).isFreed = false := Obj.isFreed_of_fields (Obj.data_mapFields rfl _)
  have ge : (s.heap.push ot).get? e = some ⟨.ref C, d, .fields vs, sl⟩ := Heap.get?_push_of_some _ he
  refine wpAny_setField ge rfl (by omega) (q _ s.heap.objs.size (Nat.le_refl _) ⟨vs.setIfInBounds 1 (Value.ref s.heap.objs.size), sl, Heap.get?_update_self _ ge nf, by simpa using hsz, by simp [hsz], ?_⟩ ⟨ot, ts, (Heap.get?_update_other _ _ (Nat.ne_of_lt (Heap.lt_size he))).trans (Heap.get?_push_size _ (by rw [← eot]; rfl)), by rw [← eot], h3⟩ fun fs => mW.push.trans (mW.one ge nf))
  rw [Array.getElem?_setIfInBounds_ne (by decide)]
  exact h2
theorem eo {Q : Unit → Shared → Prop} (hfr : A.frames = some (env :: outer)) (hl : s.heap.FunFrames base (env :: outer)) (hf : env.frame = some L) (hx : cj s.heap e C d .none)
    (hQ : ∀ h' T, s.heap.objs.size ≤ T → cj h' e C d (.ref T) → Qe h' T (rawInt L) → mW ((env :: outer).filterMap (·.frame)) [e] s.heap h' → Q () { s with heap := h' }) : wpAny M A (noteFrame (.ref e) env) Q E s := by
  obtain ⟨_, _, he, _, h1, _⟩ := id hx
  unfold noteFrame
  rw [hf]
  refine wpAny_bind (wpAny_field he rfl h1 ?_)
  rw [if_neg (by decide)]
  exact wpAny_bind (wpAny_frameOf_fun hfr hl hf fun h0 k0 => wpAny_bind (wpAny_entryPlaceOf fun _ ip => entry_put ip (hx.slots hl k0) fun h' T k1 k2 k3 k4 => hQ h' T (k0.1 ▸ k1) k2 k3 ((mW.slots k0).trans (k4 _))))
theorem sq {T0 : Addr} {Q : Unit → Shared → Prop} (hfr : A.frames = some (env :: outer)) (hl : s.heap.FunFrames base (env :: outer)) (hf : env.frame = some L) (hx : cj s.heap e C d (.ref T0)) (ht : Qe s.heap T0 .none) (hne : T0 ≠ e)
    (hQ : ∀ h' T, s.heap.objs.size ≤ T → cj h' e C d (.ref T) → Qe h' T (rawInt L) → mW ((env :: outer).filterMap (·.frame)) [e, T0] s.heap h' → Q () { s with heap := h' }) : wpAny M A (noteFrame (.ref e) env) Q E s := by
  obtain ⟨vs, sl, he, hsz, h1, h2⟩ := hx
  obtain ⟨oT, ts, gT, dT, h3⟩ := ht
  have t0 : mW ((env :: outer).filterMap (·.frame)) [T0] s.heap (s.heap.update T0 (Obj.mapFields (·.setIfInBounds 3 Value.none))) := mW.one gT (Obj.isFreed_of_fields (Obj.data_mapFields dT _))
  have x0 : cj (s.heap.update T0 (Obj.mapFields (·.setIfInBounds 3 Value.none))) e C d (.ref T0) := ⟨vs, sl, (Heap.get?_update_other _ _ hne).trans he, hsz, h1, h2⟩
  have l0 : (s.heap.update T0 (Obj.mapFields (·.setIfInBounds 3 Value.none))).FunFrames base (env :: outer) := hl.of_keeps fun b o gb no => by
    refine ⟨o, (Heap.get?_update_other _ _ fun z => ?_).trans gb, rfl⟩
    cases gT.symm.trans (z ▸ gb)
    exact no ts dT
  unfold noteFrame
  rw [hf]
  refine wpAny_bind (wpAny_field he rfl h1 ?_)
  rw [if_pos (by simp)]
  refine wpAny_bind (wpAny_field gT dT h3 ?_)
  rw [if_neg (by simp [rawInt])]
  refine wpAny_bind (wpAny_setField gT dT (Array.getElem?_eq_some_iff.mp h3).1 (wpAny_bind (wpAny_frameOf_fun hfr l0 hf fun h4 k0 => wpAny_bind (wpAny_entryPlaceOf fun _ ip => entry_put ip (x0.slots l0 k0) fun h' T k1 k2 k3 k4 => ?_))))
  refine hQ h' T ?_ k2 k3 ((t0.mono (by simp)).trans ((mW.slots k0).trans ((k4 _).mono (by simp))))
  rw [← Heap.size_update s.heap T0, ← k0.1]
  exact k1
theorem land {T:Addr} {fl:Value} {Q:Unit→Shared→Prop} (hx:cj s.heap e C d (.ref T)) (ht:Qe s.heap T fl) (hne:T≠e)
  (hQ:∀h',cj h' e C d (.ref T)→Qe h' T .none→(∀fs,mW fs [T] s.heap h')→Q () { s with heap:=h' }):wpAny M A (setFlight (.ref e) none) Q E s:=by
 obtain⟨vs,sl,he,hsz,h1,h2⟩:=hx
 obtain⟨oT,ts,hT,hdT,h3⟩:=ht
 have h3':3 < ts.size:=(Array.getElem?_eq_some_iff.mp h3).1
 have nf:(Obj.mapFields (·.setIfInBounds 3 Value.none) oT).isFreed=false:=Obj.isFreed_of_fields (Obj.data_mapFields hdT _)
 unfold setFlight
 refine wpAny_bind (wpAny_field he rfl h1 ?_)
 rw[if_pos (show (Value.ref T != Value.none)=true from by simp)];refine wpAny_setField hT hdT h3' (hQ _ ⟨vs,sl,(Heap.get?_update_other _ _ hne).trans he,hsz,h1,h2⟩ ⟨_,_,Heap.get?_update_self _ hT nf,Obj.data_mapFields hdT _,by simp [h3']⟩ fun fs=>mW.one hT nf)
theorem oZ {Q:Unit→Shared→Prop} (hfr:A.frames=some (env :: outer)) (hl:s.heap.FunFrames base (env :: outer)) (hf:env.frame=some L) (hx:cj s.heap e C d .none)
  (hQ:∀h' T,s.heap.objs.size≤T→T≠e→cj h' e C d (.ref T)→Qe h' T .none→mW ((env :: outer).filterMap (·.frame)) [e,T] s.heap h'→Q () { s with heap:=h' }):wpAny M A (leaving env (.ref e)) Q E s:=by
 have he:e < s.heap.objs.size:=by obtain⟨vs,sl,he,_⟩:=hx;exact Heap.lt_size he
 unfold leaving
 refine wpAny_bind (eo hfr hl hf hx fun h1 T k1 k2 k3 k4=>?_)
 have hne:T≠e:=Nat.ne_of_gt (Nat.lt_of_lt_of_le he k1)
 exact land k2 k3 hne fun h2 j1 j2 j3=>hQ h2 T k1 hne j1 j2 ((k4.mono (by simp)).trans ((j3 _).mono (by simp)))
theorem i3 {T0:Addr} {Q:Unit→Shared→Prop} (hfr:A.frames=some (env :: outer)) (hl:s.heap.FunFrames base (env :: outer)) (hf:env.frame=some L) (hx:cj s.heap e C d (.ref T0)) (ht:Qe s.heap T0 .none) (hne0:T0≠e)
  (hQ:∀h' T,s.heap.objs.size≤T→T≠e→cj h' e C d (.ref T)→Qe h' T .none→mW ((env :: outer).filterMap (·.frame)) [e,T0,T] s.heap h'→Q () { s with heap:=h' }):wpAny M A (leaving env (.ref e)) Q E s:=by
 have he:e < s.heap.objs.size:=by obtain⟨vs,sl,he,_⟩:=hx;exact Heap.lt_size he
 unfold leaving
 refine wpAny_bind (sq hfr hl hf hx ht hne0 fun h1 T k1 k2 k3 k4=>?_)
 have hne:T≠e:=Nat.ne_of_gt (Nat.lt_of_lt_of_le he k1)
 exact land k2 k3 hne fun h2 j1 j2 j3=>hQ h2 T k1 hne j1 j2 ((k4.mono (by simp)).trans ((j3 _).mono (by simp)))
end
end L2
namespace L2
open PyProof.Rows PySem PySem.Spec
noncomputable def xO (e C:Addr) (d:Option Addr):HO:=.ext fun h=>∃tb,cj h e C d tb
theorem VM {P:Program} {w:World} {H:Hp} {h:Heap} {e C:Addr} {d:Option Addr} {tb:Value} (x:cj h e C d tb):xk P w H h e (xO e C d):=by
 obtain⟨vs,sl,he,r⟩:=x
 refine⟨⟨tb,vs,sl,he,r⟩,⟨_,he⟩,fun h1 h2 ⟨tb',vs',sl',he',r'⟩ k=>⟨tb',vs',sl',k _ he',r'⟩⟩
theorem VF {P:Program} {w:World} {H:Hp} {h:Heap} {e C:Addr} {d:Option Addr} (x:bp P w H h) (q:H e=some (xO e C d)):∃tb,cj h e C d tb:=(x e _ q).1
structure VR (a C:Addr) (d:Option Addr) (n:Nat) (H:Hp) (h:Heap) (T:Addr):Prop where
 at':cj h a C d (.ref T)
 tr:Qe h T .none
 ne:T≠a
 new:n≤T
 free:H T=none
 is:H a=some (xO a C d)
noncomputable def sQ (P:Program) (w:World):rL:=fun outer H s E e s'=>∃(a C:Addr) (d:Option Addr) (T:Addr) (H':Hp),e=.ref a∧s'.os=s.os∧AllBare s'.gens∧Un (sO outer) [] H H' s.heap s'.heap∧bp P w H' s'.heap∧VR a C d s.heap.objs.size H' s'.heap T∧E (.ref C) (some a) H'
theorem tw {P:Program} {w:World} {H:Hp} {h h':Heap} {fs ch:List Addr} {a C:Addr} {d:Option Addr} {tb:Value} (x:bp P w H h) (t:mW fs ch h h') (hf:∀b∈fs,H b=none) (hc:∀b∈ch,b=a∨H b=none) (ha:H a=some (xO a C d)) (hx:cj h' a C d tb):bp P w H h':=by
 intro b o e
 by_cases q:b=a
 ·subst q
  rw[ha] at e
  cases e
  exact VM hx
 ·have kp:∀c u,c≠a→H c≠none→h.get? c=some u→h'.get? c=some u:=fun c u hca hcn e=>t.keep c u e (fun z=>hcn (hf c z)) fun z=>(hc c z).elim hca hcn
  refine(x b o e).nK (fun c u hcu e'=>?_) (fun _ z=>z) (fun _ _ z=>z)
  rcases hcu with rfl | hcu
  ·exact kp c u q (by rw[e];exact fun z=>nomatch z) e'
  ·refine kp c u (fun z=>?_) (by rw[hcu];exact fun z=>nomatch z) e'
   rw[z,ha] at hcu
   cases hcu
end L2
namespace L2
open PyProof.Rows PySem PySem.Spec
section
variable {X:Cx} {pins:List (Addr × Obj)} {σ:St} {H:Hp} {s:Shared} {a C:Addr} {d:Option Addr} {E:XK}
theorem Inv.BQ (I:Inv X pins σ H s) {h':Heap} {ch:List Addr} (hex:X.ex=[]) (t:mW (sO X.stack) ch s.heap h') (hc:∀b∈ch,H b≠none∨X.s₀.heap.objs.size≤b):Un X.fs [] X.H₀ H X.s₀.heap h':=by
 have u:=I.base
 rw[hex] at u
 have nch:∀b o,X.s₀.heap.get? b=some o→X.H₀ b=none→b∉ch:=fun b o e n hb=>by
  rcases hc b hb with q | q
  ·exact q (u.free b o e n (by simp))
  ·exact absurd (Heap.lt_size e) (Nat.not_lt.mpr q)
 have nloc:∀b o,X.s₀.heap.get? b=some o→b≠X.env.locals:=fun b o e z=>absurd (Heap.lt_size e) (Nat.not_lt.mpr (by rw[z];exact I.ok.above))
 refine⟨fun b o e n hb _=>?_,fun b o e n hb _=>?_,u.free,fun b o e _=>?_,u.lZ,u.uK,u.ll⟩
 ·refine t.keep b o (u.keep b o e n hb (by simp)) (fun z=>?_) (nch b o e n)
  rcases List.mem_cons.mp (I.rY b z) with q | q
  ·exact nloc b o e q
  ·exact hb q
 ·obtain⟨sl,e1⟩:=u.slot b o e n hb (by simp)
  by_cases q:b∈sO X.stack
  ·obtain⟨sl',e2⟩:=t.slot b _ e1 q (nch b o e n)
   exact⟨sl',e2⟩
  ·exact⟨sl,t.keep b _ e1 q (nch b o e n)⟩
 ·obtain⟨o',e1⟩:=u.there b o e (by simp)
  exact t.there b o' e1
theorem Inv.Wd {M:Model} {EE:Value→Shared→Prop} (I:Inv X pins σ H s) (hst:X.stack=X.env :: X.outer) (hf:X.env.frame=some X.env.locals) (hex:X.ex=[]) (ha:H a=some (xO a C d)) (hx:cj s.heap a C d .none) (hE:E (.ref C) (some a) H) :
  wpAny M X.A (leaving X.env (.ref a)) (fun _ s''=>sQ X.prog X.w X.outer X.H₀ X.s₀ E (.ref a) s'') EE s:=by
 have hfr:=I.ok.frames
 have hst':=I.stack
 have hfree:=I.fV
 rw[hst] at hfr hst'
 refine oZ hfr hst' hf hx fun h' T k1 k2 k3 k4 k5=>?_
 have hT:H T=none:=I.jx.fresh k1
 have hs:X.s₀.heap.objs.size≤T:=Nat.le_trans I.sz k1
 have k5':mW (sO X.stack) [a,T] s.heap h':=by rw[hst];exact k5
 refine⟨a,C,d,T,H,rfl,I.os,I.bare,I.BQ hex k5' (fun b hb=>?_),tw I.jx k5' hfree (fun b hb=>?_) ha k3,⟨k3,k4,k2,hs,hT,ha⟩,hE⟩
 ·simp only[List.mem_cons,List.not_mem_nil,or_false] at hb
  rcases hb with rfl | rfl
  ·exact .inl (by rw[ha];exact fun z=>nomatch z)
  ·exact .inr hs
 ·simp only[List.mem_cons,List.not_mem_nil,or_false] at hb
  rcases hb with rfl | rfl
  ·exact .inl rfl
  ·exact .inr hT
theorem Inv.Jd {M:Model} {EE:Value→Shared→Prop} {T0:Addr} {n:Nat} (I:Inv X pins σ H s) (hst:X.stack=X.env :: X.outer) (hf:X.env.frame=some X.env.locals) (hex:X.ex=[]) (F:VR a C d n H s.heap T0) (hn:X.s₀.heap.objs.size≤n) (hE:E (.ref C) (some a) H) :
  wpAny M X.A (leaving X.env (.ref a)) (fun _ s''=>sQ X.prog X.w X.outer X.H₀ X.s₀ E (.ref a) s'') EE s:=by
 have hfr:=I.ok.frames
 have hst':=I.stack
 have hfree:=I.fV
 rw[hst] at hfr hst'
 refine i3 hfr hst' hf F.at' F.tr F.ne fun h' T k1 k2 k3 k4 k5=>?_
 have hT:H T=none:=I.jx.fresh k1
 have hs:X.s₀.heap.objs.size≤T:=Nat.le_trans I.sz k1
 have k5':mW (sO X.stack) [a,T0,T] s.heap h':=by rw[hst];exact k5
 refine⟨a,C,d,T,H,rfl,I.os,I.bare,I.BQ hex k5' (fun b hb=>?_),tw I.jx k5' hfree (fun b hb=>?_) F.is k3,⟨k3,k4,k2,hs,hT,F.is⟩,hE⟩
 ·simp only[List.mem_cons,List.not_mem_nil,or_false] at hb
  rcases hb with (rfl | rfl | rfl)
  ·exact .inl (by rw[F.is];exact fun z=>nomatch z)
  ·exact .inr (Nat.le_trans hn F.new)
  ·exact .inr hs
 ·simp only[List.mem_cons,List.not_mem_nil,or_false] at hb
  rcases hb with (rfl | rfl | rfl)
  ·exact .inl rfl
  ·exact .inr F.free
  ·exact .inr hT
theorem Inv.YW {e:Value} {s':Shared} (I:Inv X pins σ H s) (h:sQ X.prog X.w X.stack H s E e s'):∃a C d T H',e=.ref a∧Inv X pins σ H' s'∧VR a C d X.s₀.heap.objs.size H' s'.heap T∧E (.ref C) (some a) H':=by
 obtain⟨a,C,d,T,H',rfl,os,bare,un,jx,F,q⟩:=h
 refine⟨a,C,d,T,H',rfl,I.nR os (ch:=[]) un jx bare (fun b z=>absurd z (by simp)),⟨F.at',F.tr,F.ne,Nat.le_trans I.sz F.new,F.free,F.is⟩,q⟩
end
end L2
namespace L2
open PyProof.Rows PySem PySem.Spec
section
variable {P:Program} {w:World} {K:PySem.W.Frag} {mg:Str→Option Value} {base:Heap}
theorem Zf {N:List Str} {qual:Str} {scope:Scope} {f:Addr} {cd:Value} {A:Around} {outer:List Env} {s:Shared} {H:Hp} {E E':XK} (hE:∀c a H,E c a H→E' c a H):Passes (sQ P w) (sL (sQ P w) P w K mg base N qual scope f cd A outer s H E') E:=by
 intro pins σ H1 s1 e s' I h
 obtain⟨a,C,d,T,H',rfl,I',F,q⟩:=I.YW h
 exact I'.Jd rfl rfl rfl F (Nat.le_refl _) (hE _ _ _ q)
theorem XU.GC {x qual:Str} {st:Stmt} {f:Addr} {fd:FuncData} {N ps:List Str} {k:Nat} {sp:Sp} (F:XU K x qual st f fd) (S:qX N ps (z6 st)) (len:∀vs H Q E,sp vs H Q E→vs.length=ps.length)
  (hbody:∀(cdv:Value) (A:Around) (outer:List Env) (s:Shared) (H:Hp) (vs:List V) (Q:VK) (E:XK),vq k (A.deeper (envOfC qual (z6 st) s.heap.objs.size f cdv))→sp vs H Q E→
   ∃t,iP (sL (sQ P w) P w K mg base N qual (z6 st) f cdv A outer s H E) (qq st) t∧t { nx:=fun _ H'=>Q .non H',rt:=Q } (start N vs) H):qV P w K mg base (sQ P w) (k + 1) f fd ps sp:=by
 obtain⟨oc,od,kV,doc,pm,an,cdv,ct,osl,rfl,lk,hcd⟩:=F.ex
 exact Vb lk hcd S len fun A outer s H vs Q E hr hsp=>hbody cdv A outer s H vs Q E hr hsp
end
end L2
namespace L2
open PyProof.Rows PySem PySem.Spec
noncomputable def qR:List Value→Bool
 | .ref _ :: r=>qR r
 | l=>l == [.type "ValueError",.type "Exception",.type "BaseException",.type "object"]
theorem rq (self:Value):∀{l:List Value},qR l=true→refuseLoop self "__setattr__" l=pure ()
 | .ref c :: r,e=>by rw[refuseLoop_ref];exact rq self e
 | [],e=>by simp [qR] at e
 | .type n :: r,e=>by
  have:(Value.type n :: r)=[.type "ValueError",.type "Exception",.type "BaseException",.type "object"]:=by simpa [qR] using e
  rw[this];exact PySem.F.store_ValueError.passes self
 | .none :: r,e=>by simp [qR] at e
 | .bool _ :: r,e=>by simp [qR] at e
 | .int _ _ :: r,e=>by simp [qR] at e
 | .str _ _ :: r,e=>by simp [qR] at e
 | .builtin _ :: r,e=>by simp [qR] at e
 | .float _ _ :: r,e=>by simp [qR] at e
theorem ZJ:∀{l:List Value},qR l=true→l.contains (.type "object")=true∧l.isEmpty=false
 | .ref c :: r,e=>⟨by rw[List.contains_cons,(ZJ (l:=r) e).1,Bool.or_true],rfl⟩
 | [],e=>by simp [qR] at e
 | .type n :: r,e=>by
  have:(Value.type n :: r)=[.type "ValueError",.type "Exception",.type "BaseException",.type "object"]:=by simpa [qR] using e
  rw[this];exact⟨by decide,rfl⟩
 | .none :: r,e=>by simp [qR] at e
 | .bool _ :: r,e=>by simp [qR] at e
 | .int _ _ :: r,e=>by simp [qR] at e
 | .str _ _ :: r,e=>by simp [qR] at e
 | .builtin _ :: r,e=>by simp [qR] at e
 | .float _ _ :: r,e=>by simp [qR] at e
structure Vq (K:PySem.W.Frag) (C:Addr):Prop where
 mro:(PySem.W.clsIn K C).any (fun cd=>qR cd.mro && cd.hasDict)=true
 sa:PySem.W.findIn K (.ref C) "__setattr__" = some (some (.builtin "object.__setattr__"))
section
variable {prog:Program} {w:World} {A:Around} {K:PySem.W.Frag} {C x:Addr} {s:Shared} {R:Result→Shared→Prop}
theorem iY {ox : Obj} {od : Option Obj} {name : Str} {tk : Tok} {v : Value} (X : K.In s.heap) (I : PySem.W.InstAt s.heap x ox C od) (hp : (PySem.W.clsIn K C).any (fun cd => qR cd.mro && cd.hasDict) = true) (ht : PySem.W.findIn K (.ref C) name = some none)
    (h : ∀ b, wpAny (model prog w) A.in1 (Builtin.ObjectAttr.storeInOwnDict (.ref x) (.ref C) (.str name tk) name v b) (fun f s' => f = .done (.ret .none) ∧ R (.ok (.ret .none)) s') (fun _ _ => False) s) : codeAny (model prog w) A (.call (.builtin "object.__setattr__") ⟨[.ref x, .str name tk, v], []⟩) R s := by
  obtain ⟨cd, hc, ho⟩ := PySem.W.any_some hp
  have ov := (Bool.and_eq_true_iff.mp ho).1
  obtain ⟨top, some'⟩ := ZJ ov
  have lists : PySem.W.Looks (model prog w) s.heap (mroOf (.ref C)) cd.mro := (PySem.W.looks_clsIn X hc).andThen .now
  have over : PySem.W.mroIn K C (.type "object") = some true := by
    unfold PySem.W.mroIn
    simp only [hc, Option.bind_some, some', top, Bool.false_eq_true, if_false]
  have St := PySem.F.store_object
  have is : PySem.W.Looks (model prog w) s.heap (isInstance (.ref x) (.type "object")) true := I.type.andThen (PySem.W.looks_mroIn X over)
  have fit := St.args (.ref x) (.str name tk) v
  refine codeAny_call_builtin St.slot.plain St.entry (PySem.W.check_slot (M := model prog w) (i := "object.__setattr__") (owner := "object") (n := "__setattr__") St.kind St.split is fit ?_)
  rw [PySem.W.osa_eq, refuse_eq]
  refine wpAny_bind (wpAny_bind (I.type.here (wpAny_bind (lists.here ((rq _ ov).symm ▸ wpAny_pure ?_)))))
  refine wpAny_bind (I.type.here (wpAny_bind ((PySem.W.looks_findIn X ht).here (wpAny_bind (wpAny_pure (wpAny_mono (h _) (fun f s' z => ?_) fun _ _ z => z.elim))))))
  obtain ⟨rfl, z⟩ := z
  exact z
theorem bare_ns {h : Heap} {a : Addr} (g : h.get? a = some { cls := .type "dict", data := .dict #[] }) : h.Ns1 a fun _ => none := Heap.Ns1.of_empty ⟨_, _, _, g, rfl, fun _ z => absurd z (Array.not_mem_empty _), fun _ => rfl⟩
theorem ns_line {h : Heap} {a : Addr} {m : Str → Option Value} {ns : List Str} (n : h.Ns1 a m) (hw : PySem.Within m ns) (sN : ns.length ≤ 1001) {Q : Unit → Shared → Prop} {E : Value → Shared → Prop} {g : Array GenState} {dr : Drawn} {t : Nat} {os : OsState} (q : Q () ⟨h, g, dr, t, os⟩) : wpAny (model prog w) A (lookBehind a) Q E ⟨h, g, dr, t, os⟩ := by
  obtain ⟨o, es, ep, ho, hd, hcnt⟩ := n.count hw
  exact wpAny_lookBehind ho (by rw [hd]; exact pastItsLine_dict (by rw [sizeLine_eq]; omega)) q
theorem af {E : Value → Shared → Prop} {name : Str} {v : Value} {vs : Array Value} {sl : Array (Option Value)} {Q : Unit → Shared → Prop} (X : K.In s.heap) (c : Vq K C) (hn : PySem.W.findIn K (.ref C) name = some none) (he : s.heap.get? x = some ⟨.ref C, none, .fields vs, sl⟩)
    (h : ∀ h' tk, h'.get? x = some ⟨.ref C, some s.heap.objs.size, .fields vs, sl⟩ → h'.Ns1 s.heap.objs.size (fun y => if y = name then some v else none) → (∀ b o, b ≠ x → s.heap.get? b = some o → h'.get? b = some o) → Q () { s with heap := h', toks := tk }) : wpAny (model prog w) A (setAttr (.ref x) name v) Q E s := by
  have I : PySem.W.InstAt s.heap x ⟨.ref C, none, .fields vs, sl⟩ C none := ⟨he, rfl, rfl, trivial⟩
  obtain ⟨cd, hc, ho⟩ := PySem.W.any_some c.mro
  have hd := (Bool.and_eq_true_iff.mp ho).2
  have far := Nat.ne_of_lt (Heap.lt_size he)
  have up : ∀ {b : Addr} {o : Obj}, s.heap.get? b = some o → (s.heap.push { cls := .type "dict", data := .dict #[] }).get? b = some o := fun q => Heap.get?_push_of_some _ q
  have clsd : PySem.W.Looks (model prog w) s.heap _ _ := PySem.W.looks_clsIn X hc
  refine PySem.W.set_plain X I c.sa (iY (s := { s with toks := s.toks + 1 }) X I c.mro hn fun b => ?_)
  refine wpAny_bind (wpAny_pure (wpAny_bind (wpAny_bind (wpAny_loadPart he (wpAny_bind (clsd.here (s := { s with toks := s.toks + 1 }) ?_))))))
  simp only [hd, Bool.not_true, Bool.false_eq_true, if_false, typeHasDict]
  refine wpAny_bind (wpAny_alloc (wpAny_bind (wpAny_update (up he) (wpAny_pure (a := some s.heap.objs.size) ?_))))
  refine wpAny_bind (wpAny_pure (wpAny_bind (?_ : wpAny _ _ (nsSet _ _ _) _ _ _)))
  refine wpAny_nsSet1 (bare_ns ((Heap.get?_update_other _ _ far).trans (Heap.get?_push_at rfl rfl))) fun h' n k => ?_
  refine wpAny_bind (ns_line n (PySem.Within.cons name v PySem.Within.nil) (Nat.succ_le_succ (Nat.zero_le 1000)) (wpAny_pure ⟨rfl, h h' _ ((k.2 x far).trans (Heap.get?_update_self _ (up he) rfl)) n fun b o nb q => ?_⟩))
  exact (k.2 b (Nat.ne_of_lt (Heap.lt_size q))).trans ((Heap.get?_update_other _ _ (Ne.symm nb)).trans (up q))
theorem Qn {E : Value → Shared → Prop} {name : Str} {v : Value} {vs : Array Value} {sl : Array (Option Value)} {dx : Addr} {mA : Str → Option Value} {ns : List Str} {Q : Unit → Shared → Prop} (X : K.In s.heap) (c : Vq K C) (hn : PySem.W.findIn K (.ref C) name = some none) (he : s.heap.get? x = some ⟨.ref C, some dx, .fields vs, sl⟩)
    (hd : s.heap.Ns1 dx mA) (hw : PySem.Within mA ns) (hsz : ns.length ≤ 1000) (h : ∀ h' tk, h'.Ns1 dx (fun y => if y = name then some v else mA y) → Heap.SameBut dx s.heap h' → Q () { s with heap := h', toks := tk }) : wpAny (model prog w) A (setAttr (.ref x) name v) Q E s := by
  obtain ⟨od, gd, _⟩ := dO hd
  have I : PySem.W.InstAt s.heap x ⟨.ref C, some dx, .fields vs, sl⟩ C (some od) := ⟨he, rfl, rfl, gd⟩
  obtain ⟨cd, hc, ho⟩ := PySem.W.any_some c.mro
  have hasd := (Bool.and_eq_true_iff.mp ho).2
  have clsd : PySem.W.Looks (model prog w) s.heap _ _ := PySem.W.looks_clsIn X hc
  refine PySem.W.set_plain X I c.sa (iY (s := { s with toks := s.toks + 1 }) X I c.mro hn fun b => ?_)
  refine wpAny_bind (wpAny_pure (wpAny_bind (wpAny_bind (wpAny_loadPart he (wpAny_bind (clsd.here (s := { s with toks := s.toks + 1 }) ?_))))))
  rw [hasd]
  refine wpAny_pure (a := some dx) (wpAny_bind (wpAny_pure (wpAny_bind (wpAny_nsSet1 (s := { s with toks := s.toks + 1 }) hd fun h' n k => ?_))))
  exact wpAny_bind (ns_line n (PySem.Within.cons name v hw) (Nat.succ_le_succ hsz) (wpAny_pure ⟨rfl, h h' _ n k⟩))
end
end L2
namespace L2
open PyProof.Rows PySem PySem.Spec
section
end
end L2
namespace L2
open PyProof.Rows PySem PySem.Spec
noncomputable def xN (e C:Addr) (d:Option Addr):HO:=.ext fun h=>cj h e C d .none
noncomputable def xD (dx:Addr) (fs:List (Str × V)):HO:=.ext fun h=>∃mA,h.Ns1 dx mA∧(∀f,gG (fs.lookup f) (mA f))∧PySem.Within mA (fs.map (·.1))
theorem VP {P:Program} {w:World} {H:Hp} {h:Heap} {e C:Addr} {d:Option Addr} (x:cj h e C d .none):xk P w H h e (xN e C d):=by
 obtain⟨vs,sl,he,r⟩:=x
 refine⟨⟨vs,sl,he,r⟩,⟨_,he⟩,fun h1 h2 ⟨vs',sl',he',r'⟩ k=>⟨vs',sl',k _ he',r'⟩⟩
theorem XQ {P:Program} {w:World} {H:Hp} {h:Heap} {e C:Addr} {d:Option Addr} (x:bp P w H h) (q:H e=some (xN e C d)):cj h e C d .none:=(x e _ q).1
theorem VB {P:Program} {w:World} {H:Hp} {h:Heap} {dx:Addr} {fs:List (Str × V)} {mA:Str→Option Value} (n:h.Ns1 dx mA) (r:∀f,gG (fs.lookup f) (mA f)) (wi:PySem.Within mA (fs.map (·.1))):xk P w H h dx (xD dx fs):=by
 have n':=n
 obtain⟨o,es,ep,ho,_⟩:=n'
 refine⟨⟨mA,n,r,wi⟩,⟨o,ho⟩,fun h1 h2 ⟨mA',⟨o',es',ep',ho',q⟩,r'⟩ k=>⟨mA',⟨o',es',ep',k _ ho',q⟩,r'⟩⟩
theorem VH {P:Program} {w:World} {H:Hp} {h:Heap} {dx:Addr} {fs:List (Str × V)} (x:bp P w H h) (q:H dx=some (xD dx fs)):∃mA,h.Ns1 dx mA∧(∀f,gG (fs.lookup f) (mA f))∧PySem.Within mA (fs.map (·.1)):=(x dx _ q).1
section
variable {X:Cx} {pins:List (Addr × Obj)} {σ:St} {H:Hp} {s:Shared} {a C dx:Addr} {f:Str} {y:V} {u:Value} {o value:Expr} {ta tv:TE} {pos pos':Pos}
theorem ik {fs:List (Str × V)} {mA:Str→Option Value} (r:∀g,gG (fs.lookup g) (mA g)) (ry:RelV y u) (f:Str):∀g,gG ((qF f y fs).lookup g) ((fun z=>if z=f then some u else mA z) g):=fun g=>by
 rw[pW]
 by_cases q:g=f
 ·simp only[q,if_true];exact ry
 ·simp only[q,if_false];exact r g
theorem rD {fs:List (Str × V)} {mA:Str→Option Value} (wi:PySem.Within mA (fs.map (·.1))) (f:Str):PySem.Within (fun z=>if z=f then some u else mA z) ((qF f y fs).map (·.1)):=fun g hg=>by
 by_cases q:g=f
 ·rw[q];exact(gR f y fs).1
 ·refine(gR f y fs).2 g (wi g fun z=>hg ?_)
  show (if g=f then some u else mA g)=none
  rw[if_neg q];exact z
theorem XG {A:Around} {E:Value→Shared→Prop} {Q:Unit→Shared→Prop} (I:Inv X pins σ H s) (e:H a=some (xN a C none)) (c:Vq X.K C) (n:qH X.K C f) (ry:RelV y u)
  (h:∀dx s',H dx=none→dx≠a→Inv X pins σ (upd (upd H dx (xD dx [(f,y)])) a (xN a C (some dx))) s'→Q () s'):wpAny (model X.prog X.w) A (setAttr (.ref a) f u) Q E s:=by
 obtain⟨vs,sl,he,hsz,h1,h2⟩:=XQ I.jx e
 refine af I.gU c n he fun h' tk k1 k2 k3=>h s.heap.objs.size _ (I.jx.fresh (Nat.le_refl _)) (Nat.ne_of_gt (Heap.lt_size he)) ?_
 have hax:a≠s.heap.objs.size:=Nat.ne_of_lt (Heap.lt_size he)
 have k2':=k2
 obtain⟨od,es,ep,ho,hd,hr⟩:=k2'
 have nf:od.isFreed=false:=(Heap.get?_some_iff.mp ho).2
 have g1:(s.heap.push od).get? s.heap.objs.size=some od:=Heap.get?_push_size _ nf
 have n1:(s.heap.push od).Ns1 s.heap.objs.size (fun z=>if z=f then some u else none):=⟨od,es,ep,g1,hd,hr⟩
 have r0:∀g,gG (List.lookup g ([(f,y)]:List (Str × V))) ((fun z=>if z=f then some u else none) g):=ik (fs:=[]) (mA:=fun _=>none) (fun _=>True.intro) ry f
 have w0:PySem.Within (fun z=>if z=f then some u else none) (([(f,y)]:List (Str × V)).map (·.1)):=rD (fs:=[]) (mA:=fun _=>none) (y:=y) (fun g hg=>absurd rfl hg) f
 have I1:=I.laid (a:=s.heap.objs.size) (o:=xD s.heap.objs.size [(f,y)]) (h':=s.heap.push od) (t':=s.toks) (fun b q z=>Heap.get?_push_of_some _ z) (Nat.le_refl _) (VB n1 r0 w0)
 refine I1.write (x:=a) (e:=a) (h':=h') (t':=tk) (by rw[qB hax,e];exact True.intro) (.inl rfl) (fun b q hb z=>?_) ⟨_,k1⟩ (VP ⟨vs,sl,k1,hsz,h1,h2⟩)
 by_cases qb:b=s.heap.objs.size
 ·subst qb
  rw[show (s.heap.push od).get? s.heap.objs.size=some od from g1] at z
  cases z
  exact ho
 ·refine k3 b q hb ?_
  rwa [Heap.get?_push_ne _ _ _ qb] at z
theorem XH {A:Around} {E:Value→Shared→Prop} {Q:Unit→Shared→Prop} {fs:List (Str × V)} (I:Inv X pins σ H s) (e:H a=some (xN a C (some dx))) (ed:H dx=some (xD dx fs)) (c:Vq X.K C) (n:qH X.K C f) (hl:fs.length≤900) (ry:RelV y u)
  (h:∀s',Inv X pins σ (upd H dx (xD dx (qF f y fs))) s'→Q () s'):wpAny (model X.prog X.w) A (setAttr (.ref a) f u) Q E s:=by
 obtain⟨vs,sl,he,hsz,h1,h2⟩:=XQ I.jx e
 obtain⟨mA,n1,r1,w1⟩:=VH I.jx ed
 refine Qn I.gU c n he n1 w1 (by rw[List.length_map];omega) fun h' tk k1 k2=>h _ ?_
 have hd:∃o,h'.get? dx=some o:=let ⟨o,_,_,e',_⟩:=k1;⟨o,e'⟩
 exact I.write (x:=dx) (e:=dx) (by rw[ed];exact True.intro) (.inl rfl) (fun b q hb z=>(k2.2 b hb).trans z) hd (VB k1 (ik r1 ry f) (rD w1 f))
noncomputable def B0 (K:PySem.W.Frag) (ta tv:TE) (f:Str):TS:=fun D σ H=>tv σ H fun y H1=>ta σ H1 fun x H2=>∃a C,x=.ref a∧Vq K C∧qH K C f∧
 ((H2 a=some (xN a C none)∧∀dx,H2 dx=none→dx≠a→D.nx σ (upd (upd H2 dx (xD dx [(f,y)])) a (xN a C (some dx))))∨
  (∃dx fs,H2 a=some (xN a C (some dx))∧H2 dx=some (xD dx fs)∧fs.length≤900∧D.nx σ (upd H2 dx (xD dx (qF f y fs)))))
theorem KW (ha:PE X o ta) (hv:PE X value tv) (hs:swapsWith value (some (.Attribute o f pos')) pos.line X.env=pure false):PS X (.Assign [.Attribute o f pos'] value pos) (B0 X.K ta tv f):=by
 intro pins s σ H D I h
 refine plainObj_wpAny_Assign_Attribute (xf (hv pins s σ H _ I h) fun u s1 ⟨y,H1,I1,ry,q⟩=>xf (ha pins s1 σ H1 _ I1 q) fun ov s2 ⟨x,H2,I2,rx,a,C,ex,c,n,q2⟩=>?_) hs
 subst ex
 obtain rfl:ov=Value.ref a:=rx
 rcases q2 with ⟨e1,k⟩ | ⟨dx,fs,e1,e2,hl,k⟩
 ·exact XG I2 e1 c n ry fun dx s3 hn hne I3=>⟨σ,_,I3,k dx hn hne⟩
 ·exact XH I2 e1 e2 c n hl ry fun s3 I3=>⟨σ,_,I3,k⟩
theorem rF:∀{l:List Value},qR l=true→l.contains (.type "ValueError")=true∧l.contains (.type "BaseException")=true∧l.contains (.type "AttributeError")=false∧l.contains (.type "NameError")=false
 | .ref c :: r,e=>by
  obtain⟨a,b,c,d⟩:=rF (l:=r) e
  exact⟨by rw[List.contains_cons,a,Bool.or_true],by rw[List.contains_cons,b,Bool.or_true],by rw[List.contains_cons,c];rfl,by rw[List.contains_cons,d];rfl⟩
 | [],e=>by simp [qR] at e
 | .type n :: r,e=>by
  have:(Value.type n :: r)=[.type "ValueError",.type "Exception",.type "BaseException",.type "object"]:=by simpa [qR] using e
  rw[this];decide
 | .none :: r,e=>by simp [qR] at e
 | .bool _ :: r,e=>by simp [qR] at e
 | .int _ _ :: r,e=>by simp [qR] at e
 | .str _ _ :: r,e=>by simp [qR] at e
 | .builtin _ :: r,e=>by simp [qR] at e
 | .float _ _ :: r,e=>by simp [qR] at e
noncomputable def bb (K:PySem.W.Frag) (C:Addr):Bool:=match K.lookup C with
 | some ⟨c,_,.cls cd,sl⟩=>c == .type "type" && cd.mro.head? == some (.ref C) && qR cd.mro && !cd.hasDel && sl.size == 6 && sl[4]? == some (some (.builtin "ValueError.__new__"))
 | _=>false
theorem XX {K : PySem.W.Frag} {h : Heap} (x : K.In h) (e : bb K C = true) : ∃ n1 n2 N l1 bm b1 l2 l3 b2 c1 d1 v0 v1 v2 v3 v5, h.get? C = some (excClassObj n1 n2 C N l1 bm b1 l2 l3 b2 c1 d1 v0 v1 v2 v3 v5 "ValueError.__new__") ∧ qR (.ref C :: bm) = true := by
  unfold bb at e
  split at e
  · rename_i c dd cd sl hk
    simp only [Bool.and_eq_true, beq_iff_eq, Bool.not_eq_true'] at e
    obtain ⟨⟨⟨⟨⟨rfl, hm⟩, hv⟩, hdel⟩, hsz⟩, h4⟩ := e
    rcases cd with ⟨n1, l1, mro, N, n2, b1, l2, l3, b2, c1, del⟩
    cases hdel
    cases mro with
    | nil => cases hm
    | cons m bm =>
      cases hm
      obtain ⟨v0, v1, v2, v3, v5, hl⟩ := six_places (l := sl.toList) (v := some (.builtin "ValueError.__new__")) (by simpa using hsz) (by simpa using h4)
      cases sl
      cases hl
      exact ⟨n1, n2, N, l1, bm, b1, l2, l3, b2, c1, dd, v0, v1, v2, v3, v5, x _ _ hk, hv⟩
  · cases e
noncomputable def Ys (C:Addr) (o:Obj):Bool:=match o with
 | ⟨c,_,.cls cd,sl⟩=>c == .type "type" && cd.mro.head? == some (.ref C) && qR cd.mro && !cd.hasDel && sl.size == 6 && sl[4]? == some (some (.builtin "ValueError.__new__")) && cd.hasDict
 | _=>false
theorem XJ {K:PySem.W.Frag} {o:Obj} (l:K.lookup C=some o) (h:Ys C o=true):bb K C=true:=by
 unfold Ys at h
 split at h
 ·unfold bb
  rw[l]
  exact(Bool.and_eq_true_iff.mp h).1
 ·cases h
theorem K7 {K:PySem.W.Frag} {o:Obj} (l:K.lookup C=some o) (h:Ys C o=true):(PySem.W.clsIn K C).any (fun cd=>qR cd.mro && cd.hasDict)=true:=by
 unfold Ys at h
 split at h
 ·rename_i c d cd sl
  unfold PySem.W.clsIn
  rw[l]
  simp only[Bool.and_eq_true] at h;simp [h.1.1.1.1.2,h.2]
 ·cases h
theorem V9 {K:PySem.W.Frag} {P:Addr} {c:Value} {b:Bool} (hx:bb K P=true) (hs:PySem.W.subIn K (.ref P) (.type "BaseException")=some true) (ht:PySem.W.typeIn K (.ref P)=some (.type "type")) (hk:PySem.W.subIn K c (.ref P)=some b):PySem.W.exmOne K c (.ref P)=some b:=by
 have hc:(PySem.W.clsIn K P).isSome=true:=by
  unfold bb at hx
  unfold PySem.W.clsIn
  split at hx
  ·rename_i l
   rw[l];rfl
  ·cases hx
 unfold PySem.W.exmOne PySem.W.kitCls
 simp [hs,ht,hk,hc]
section
open PySem.W
variable {w : World} {A : Around} {E : Value → Shared → Prop} {h : Heap} {g : Array GenState} {dr : Drawn} {t : Nat} {os : OsState} {prog : Program} {M : Model} {C : Addr}
/-- what a class of exceptions of ours, made by ValueError, answers to the asking for it -/
structure Xcl (M : Model) (h : Heap) (C : Addr) : Prop where
  obj : ∃ n1 n2 N l1 bm b1 l2 l3 b2 c1 d1 v0 v1 v2 v3 v5, h.get? C = some (excClassObj n1 n2 C N l1 bm b1 l2 l3 b2 c1 d1 v0 v1 v2 v3 v5 "ValueError.__new__")
  made : Looks M h (Bind.madeBy (.ref C)) (some "ValueError.__new__")
  base : Looks M h (Bind.staticBase (.ref C)) (.ref C)
  here : Looks M h (Bind.madeHere "BaseException.__new__" (.ref C)) ()
  val : Looks M h (isSubtype (.ref C) (.type "ValueError")) true
  exc : Looks M h (isSubtype (.ref C) (.type "BaseException")) true
  att : Looks M h (isSubtype (.ref C) (.type "AttributeError")) false
  nam : Looks M h (isSubtype (.ref C) (.type "NameError")) false
  self : Looks M h (isSubtype (.ref C) (.ref C)) true
theorem xcl_looks {K : Frag} (X : K.In h) (e : bb K C = true) : Xcl M h C := by
  obtain ⟨n1, n2, N, l1, bm, b1, l2, l3, b2, c1, d1, v0, v1, v2, v3, v5, hC, hv⟩ := XX X e
  obtain ⟨a1, a2, a3, a4⟩ := rF hv
  have on : ∀ b r, (Value.ref C :: bm).contains b = r → Looks M h (isSubtype (.ref C) b) r := fun b r er A Q E s k q => wpAny_isSubtype_exc (k _ _ hC) (er ▸ q)
  exact ⟨⟨n1, n2, N, l1, bm, b1, l2, l3, b2, c1, d1, v0, v1, v2, v3, v5, hC⟩, fun A Q E s k q => wpAny_madeBy_exc (k _ _ hC) q, fun A Q E s k q => wpAny_staticBase_exc (k _ _ hC) q, fun A Q E s k q => wpAny_madeHere_exc PySem.F.excBase_ValueError.canon (k _ _ hC) q, on _ _ a1, on _ _ a2, on _ _ a3, on _ _ a4, on _ _ (by simp)⟩
theorem Xcl.keeps {h' : Heap} (x : Xcl M h C) (k : ∀ b o, h.get? b = some o → h'.get? b = some o) : Xcl M h' C := by
  obtain ⟨n1, n2, N, l1, bm, b1, l2, l3, b2, c1, d1, v0, v1, v2, v3, v5, hC⟩ := x.obj
  exact ⟨⟨n1, n2, N, l1, bm, b1, l2, l3, b2, c1, d1, v0, v1, v2, v3, v5, k _ _ hC⟩, x.made.keeps k, x.base.keeps k, x.here.keeps k, x.val.keeps k, x.exc.keeps k, x.att.keeps k, x.nam.keeps k, x.self.keeps k⟩
theorem Xcl.new_may (x : Xcl M h C) {rest : List Value} {Q : Unit → Shared → Prop} (q : Q () ⟨h, g, dr, t, os⟩) : wpAny M A (checkBuiltinCall "ValueError.__new__" ⟨.ref C :: rest, []⟩) Q E ⟨h, g, dr, t, os⟩ := by
  have F := PySem.F.excBase_ValueError
  have star := F.noStar
  obtain ⟨x1, x2, x3⟩ : _ ∧ _ ∧ _ := ⟨x.made, x.base, x.val⟩
  obtain ⟨_, _, _, _, _, _, _, _, _, _, _, _, _, _, _, _, hC⟩ := x.obj
  simp only [checkBuiltinCall, F.newKind, F.newSplit, F.newRow]
  repeat first | with_reducible refine wpAny_loadPart_at hC ?_ | simp only [bne_self_eq_false, Bool.false_eq_true, if_false, Bool.not_true] | with_reducible refine Looks.here (by assumption) ?_ | wp_step
  exact q
/-- the two things that are made: its args, and it -/
abbrev argsObj (rest : List Value) : Obj := { cls := .type "tuple", data := .seq rest.toArray }
abbrev excObj (C T : Addr) : Obj := { cls := .ref C, data := .fields #[.ref T, .none, .none, .none, .bool false, .none] }
theorem Xcl.new {R : Result → Shared → Prop} (x : Xcl (model prog w) h C) {rest : List Value} (sN : rest.length ≤ sizeLine)
    (q : R (.ok (.ret (.ref (h.objs.size + 1)))) ⟨(h.push (argsObj rest)).push (excObj C h.objs.size), g, dr, t, os⟩) : codeAny (model prog w) A (.builtin "ValueError.__new__" ⟨.ref C :: rest, []⟩) R ⟨h, g, dr, t, os⟩ := by
  have F := PySem.F.excBase_ValueError
  have ends := F.ends
  obtain ⟨_, _, _, _, _, _, _, _, _, _, _, _, _, _, _, _, hC⟩ := x.obj
  obtain ⟨x1, x2, x3, x4⟩ : _ ∧ _ ∧ _ ∧ _ := ⟨x.here, x.att, x.nam, x.val⟩
  refine codeAny_builtinAt F.entry ?_
  unfold Builtin.«BaseException.__new__»
  refine PySem.wpAt_bind (?_ : PySem.wpAt _ _ _ (stack >>= _) _ _ _)
  refine PySem.wpAt_bind (PySem.wpAt_stack fun p below => PySem.wpAt_of_wpAny ?_)
  wp_walk
  refine PySem.wpAt_of_wpAny (F.owner.symm ▸ ?_)
  repeat first | with_reducible refine wpAny_loadPart_at hC ?_ | with_reducible refine Looks.here (by assumption) ?_ | wp_step
  rw [← Heap.size_push] at q
  exact q
/-- C(rest): a new exception, and its own __init__ -/
theorem Xcl.make (x : Xcl (model prog w) h C) {rest : List Value} {init : Value} {Q : Value → Shared → Prop} (sN : rest.length ≤ sizeLine) (hi : Looks (model prog w) h (typeLookup (.ref C) "__init__") (some init)) (hb : ∀ v, Looks (model prog w) h (bindSpecial init v) (init, [v]))
    (go : wpAny (model prog w) (A.under (.builtin "type.__call__" ⟨.ref C :: rest, []⟩)) (call init (.ref (h.objs.size + 1) :: rest)) (fun r s' => r = .none ∧ Q (.ref (h.objs.size + 1)) s') E ⟨(h.push (argsObj rest)).push (excObj C h.objs.size), g, dr, t, os⟩) :
    wpAny (model prog w) A (call (.ref C) rest) Q E ⟨h, g, dr, t, os⟩ := by
  have F := PySem.F.excBase_ValueError
  obtain ⟨_, _, _, _, _, _, _, _, _, _, _, _, _, _, _, _, hC⟩ := x.obj
  have ty : Shared.TypeIs ⟨h, g, dr, t, os⟩ (.ref C) "type" := ⟨_, hC, rfl⟩
  obtain ⟨c1, c2⟩ : _ ∧ _ := ⟨tc_lookup, tc_bind (.ref C)⟩
  refine wpAny_call (codeAny_of_tree (?_ : wpAny _ _ (callAny (.ref C) _) _ _ _))
  repeat any_goals first | assumption | with_reducible refine wpAny_loadPart_at hC ?_ | wp_step
  refine ⟨rfl, codeAny_call_builtin_at (Code.quiet_builtin _ (by decide +kernel)) entry_typeCall (wpAny_check_type_call_sub hC ?_)⟩
  have made := x.made
  repeat first | with_reducible refine wpAny_loadPart_at hC ?_ | with_reducible refine Looks.here made ?_ | wp_step
  refine codeAny_call_builtin_code (Code.quiet_builtin _ F.quiet) (x.new_may (x.new sN (?_ : wpAny _ _ _ _ _ ⟨(h.push (argsObj rest)).push (excObj C h.objs.size), g, dr, t, os⟩)))
  have up : ∀ b o, h.get? b = some o → ((h.push (argsObj rest)).push (excObj C h.objs.size)).get? b = some o := fun b o e => Heap.get?_push_of_some _ (Heap.get?_push_of_some _ e)
  have new : ((h.push (argsObj rest)).push (excObj C h.objs.size)).get? (h.objs.size + 1) = some (excObj C h.objs.size) := Heap.get?_push_at (Heap.size_push ..).symm rfl
  obtain ⟨y1, y2, y3⟩ : _ ∧ _ ∧ _ := ⟨x.self.keeps up, hi.keeps up, (hb (.ref (h.objs.size + 1))).keeps up⟩
  generalize (h.push (argsObj rest)).push (excObj C h.objs.size) = h2 at go new y1 y2 y3
  unfold isInstance
  repeat first | with_reducible refine wpAny_loadPart_at new ?_ | with_reducible refine Looks.here y1 ?_ | wp_step
  refine (?_ : wpAny _ _ (typeLookup (.ref C) _) _ _ _)
  refine y2.here ?_
  refine wpAny_holding (wpAny_bind ?_)
  refine y3.here ?_
  refine wpAny_bind (xf go fun r s' z => ?_)
  obtain ⟨rfl, z⟩ := z
  wp_walk
  exact z
theorem born (h : Heap) (C : Addr) (rest : List Value) : Heap.MadeExcOf h ((h.push (argsObj rest)).push (excObj C h.objs.size)) (h.objs.size + 1) (.ref C) rest where
  keeps := fun b o e => Heap.get?_push_of_some _ (Heap.get?_push_of_some _ e)
  new := Heap.get?_none_of_le (Nat.le_succ _)
  there := ⟨h.objs.size, Heap.get?_push_at (Heap.size_push ..).symm rfl, Heap.get?_none_of_le (Nat.le_refl _), Heap.get?_push_of_some _ (Heap.get?_push_at rfl rfl)⟩
/-- the __init__ that every ValueError has, of no args: its args are told anew -/
theorem bare_init {e T : Addr} {Q : Value → Shared → Prop} (x : Xcl (model prog w) h C) (ge : h.get? e = some (excObj C T)) (q : Q .none ⟨(h.push (argsObj [])).update e (Obj.mapFields (·.setIfInBounds 0 (.ref h.objs.size))), g, dr, t, os⟩) :
    wpAny (model prog w) A (call (.builtin "ValueError.__init__") [.ref e]) Q E ⟨h, g, dr, t, os⟩ := by
  have F := PySem.F.excBase_ValueError
  have is : Looks (model prog w) h (isInstance (.ref e) (.type "ValueError")) true := ((Looks.ld ge).andThen .now).andThen x.val
  have star := F.noStar
  have may : ∀ {Q1 : Unit → Shared → Prop} {E1 : Value → Shared → Prop} {A1 : Around}, Q1 () ⟨h, g, dr, t, os⟩ → wpAny (model prog w) A1 (checkBuiltinCall "ValueError.__init__" ⟨[.ref e], []⟩) Q1 E1 ⟨h, g, dr, t, os⟩ := fun q1 => by
    obtain ⟨_, _, _, _, _, _, _, _, _, _, _, _, _, _, _, _, hC⟩ := x.obj
    have val := x.val
    simp only [checkBuiltinCall, F.initKind, F.initSplit, F.initRow]
    repeat first | with_reducible refine Looks.here is ?_ | with_reducible refine wpAny_loadPart_at ge ?_ | with_reducible refine wpAny_loadPart_at hC ?_ | wp_step
    exact q1
  refine wpAny_call (codeAny_call_builtin F.init.plain F.initEntry (may ?_))
  repeat first | with_reducible refine wpAny_loadPart_at ge ?_ | wp_step

  exact q
end
structure Hz (K:PySem.W.Frag) (C f:Addr):Prop where
 xc:bb K C=true
 init:PySem.W.findIn K (.ref C) "__init__" = some (some (.ref f))
 fn:PySem.W.isFn K (.ref f)=true
 kp:PySem.W.keepIn K (.ref C)=true
section
variable {CX:rL} {k:Nat} {fI:Addr} {fd:FuncData} {ps:List Str} {sp:Sp} {dvs vs:List V} {ds us:List Value} {E:XK} {Q:VK} {x:Str} {p:Pos} {e:Expr} {es:List Expr} {t:TA}
theorem Kv {h h':Heap} {e:Addr} {args:List Value} (m:Heap.MadeExcOf h h' e (.ref C) args):cj h' e C none .none:=by
 obtain⟨t,he,_⟩:=m.there
 exact⟨_,_,he,rfl,rfl,rfl⟩
theorem Qv (M : Hz X.K C fI) (F : qV X.prog X.w X.K X.mg X.base CX k fI fd ps sp) (hr : vq (k + 1) X.A) (hb : Binds X.K fd ps ds) (hd : Vals dvs ds) (hx : Passes CX X E) (I : Inv X pins σ H s) (r : Vals vs us) (hz : vs.length ≤ sizeLine)
    (h : ∀ a, H a = none → sp (.ref a :: (vs ++ dvs)) (upd H a (xN a C none)) (fun v H2 => v = .non ∧ Q (.ref a) H2) E) : wpAny (model X.prog X.w) X.A (call (.ref C) us) (EP X pins σ Q) X.xe s := by
  have QK := I.gU
  rcases s with ⟨hp, g, d, tk, os⟩
  refine (xcl_looks QK M.xc).make (by rw [← r.length]; exact hz) (PySem.W.looks_findIn QK M.init) (fun v => PySem.W.bind_fn QK v (beq_iff_eq.mp M.fn)) ?_
  have hm := born hp C us
  have hn : hp.objs.size ≤ hp.objs.size + 1 := Nat.le_succ _
  generalize (hp.push (argsObj us)).push (excObj C hp.objs.size) = h', hp.objs.size + 1 = e at hm hn
  have hq := h e (I.jx.fresh hn)
  have I2 : Inv X pins σ (upd H e (xN e C none)) ⟨h', g, d, tk, os⟩ := I.laid (a := e) (o := xN e C none) (h' := h') (t' := tk) hm.keeps hn (VP (Kv hm))
  have r2 : Vals (V.ref e :: (vs ++ dvs)) (Value.ref e :: (us ++ ds)) := .cons rfl (r.append hd)
  have hl : (Value.ref e :: us ++ ds).length = ps.length := by
    have e' := r2.length
    rw [F.len _ _ _ _ hq] at e'
    exact e'.symm
  refine wpAny_call (codeAny_mono (F.run _ X.stack _ _ ⟨Value.ref e :: us, []⟩ (Value.ref e :: (us ++ ds)) _ _ E (hr.make C us []) (I2.X4.make C us []) (hb _ (Value.ref e :: us) I2.gU hl) r2 hq) fun r s' hq' => ?_)
  cases r with
  | error e' => exact hx pins σ _ _ e' s' I2 hq'
  | ok fl =>
    cases fl with
    | ret u =>
      obtain ⟨v, H', I3, rv, ev, q3⟩ := I2.after hq'
      subst ev
      exact ⟨rv, ⟨V.ref e, H', I3, rfl, q3⟩⟩
    | next => exact False.elim hq'
    | brk => exact False.elim hq'
    | cont => exact False.elim hq'
noncomputable def Yw (C:Addr) (sp:Sp) (dvs:List V) (E:XK) (t:TA):TE:=fun σ H Q=>t σ H fun vs H1=>vs.length≤sizeLine∧∀a,H1 a=none→sp (.ref a :: (vs ++ dvs)) (upd H1 a (xN a C none)) (fun v H2=>v=.non∧Q (.ref a) H2) E
theorem hZ {pos:Pos} (M:Hz X.K C fI) (F:qV X.prog X.w X.K X.mg X.base CX k fI fd ps sp) (hr:vq (k + 1) X.A) (hg:Gl X x) (hm:X.mg x=some (.ref C)) (hb:Binds X.K fd ps ds) (hd:Vals dvs ds) (hx:Passes CX X E)
  (ha:PA X (e :: es) t) (hdb:(x == ("__debug__" : Str))=false:=by decide) (he:starEach (e :: es) X.env=(false,eval e X.env) :: starEach es X.env:=by rfl) (hpl:(backTo pos (starEach es X.env)).any (·.1)=false:=by rfl) :
  PE X (.Call (.Name x p) (e :: es) [] pos) (Yw C sp dvs E t):=by
 intro pins s σ H Q I h
 refine wpAny_Call_Name_kw (gc I hg hm ?_ hdb)
 refine PySem.W.callWith_K (h₀:=X.base) I.ok.mod.QK M.kp (xf (ha pos pins s σ H _ I h) fun us s1 ⟨vs,H1,I1,r,hz,q⟩=>⟨I1.gU,?_⟩) he hpl
 exact Qv M F hr hb hd hx I1 r hz q
structure BM (K:PySem.W.Frag) (C:Addr):Prop where
 xc:bb K C=true
 init:PySem.W.findIn K (.ref C) "__init__" = some (some (.builtin "ValueError.__init__"))
 kp:PySem.W.keepIn K (.ref C)=true
noncomputable def GO (C:Addr):TE:=fun _ H Q=>∀a,H a=none→Q (.ref a) (upd H a (xN a C none))
end
end
end L2
namespace L2
open PyProof.Rows PySem PySem.Spec
section
variable {X:Cx} {pins:List (Addr × Obj)} {σ:St} {H:Hp} {s:Shared} {a C:Addr} {d:Option Addr} {e:Expr} {te:TE} {pos:Pos} {E:XK}
theorem KP {K : PySem.W.Frag} {M : Model} {A : Around} {EE : Value → Shared → Prop} {env : Env} {x : Sem Value} {Q : Flow → Shared → Prop} (hh : A.handled = none)
    (h : wpAny M A x (fun v s1 => ∃ e C d, v = .ref e ∧ K.In s1.heap ∧ bb K C = true ∧ cj s1.heap e C d .none ∧ EE (.ref e) s1) EE s) : wpAny M A (raiseStmt env (some x) none) Q EE s := by
  unfold raiseStmt
  refine wpAny_bind (wpAny_mono h (fun v s1 h1 => ?_) fun _ _ z => z)
  obtain ⟨e, C, d, rfl, QK, hk, ⟨vs, sl, he, hsz, h1, h2⟩, hE⟩ := h1
  have x := (xcl_looks (M := M) QK hk).exc
  obtain ⟨_, _, _, _, _, _, _, _, _, _, _, _, _, _, _, _, hC⟩ := (xcl_looks (M := M) QK hk).obj
  rcases s1 with ⟨hp, g, dr, tk, os⟩
  (repeat first | with_reducible refine wpAny_loadPart_at he ?_ | with_reducible refine wpAny_loadPart_at hC ?_ | with_reducible refine PySem.W.Looks.here x ?_ | wp_step); rw [h1]
  refine wpAny_pure ?_
  rw [if_neg (by decide)]
  exact wpAny_pure (wpAny_raiseNew_none hh hE)
noncomputable def Raises (X:Cx) (E:XK):Prop:=∀(pins:List (Addr × Obj)) (σ:St) (H:Hp) (s:Shared) (a C:Addr) (d:Option Addr),Inv X pins σ H s→H a=some (xO a C d)→cj s.heap a C d .none→E (.ref C) (some a) H→X.xe (.ref a) s
theorem fQ {P:Program} {w:World} {K:PySem.W.Frag} {mg:Str→Option Value} {base:Heap} {N:List Str} {qual:Str} {scope:Scope} {f:Addr} {cd:Value} {A:Around} {outer:List Env} {s:Shared} {H:Hp} {E:XK}:Raises (sL (sQ P w) P w K mg base N qual scope f cd A outer s H E) E:=
 fun _ _ _ _ _ _ _ I ha hx hE=>I.Wd rfl rfl rfl ha hx hE
noncomputable def Yg (K:PySem.W.Frag) (E:XK) (te:TE):TS:=fun _ σ H=>te σ H fun v H1=>∃a C d,v=.ref a∧bb K C=true∧H1 a=some (xN a C d)∧E (.ref C) (some a) (upd H1 a (xO a C d))
theorem hU (hX:Raises X E) (hc:X.calm=true) (he:PE X e te):PS X (.Raise (some e) none pos) (Yg X.K E te):=by
 intro pins s σ H D I h
 rw[arm_exec_Raise]
 refine wpAny_bind (wpAny_standAt (KP (K:=X.K) (I.ok.hd hc) ?_))
 refine wpAny_bind (xf (he pins s σ H _ I h) fun u s1 ⟨v,H1,I1,rv,a,C,d,ev,hk,ha,hE⟩=>wpAny_bind (wpAny_standAt (wpAny_pure ?_)))
 subst ev
 obtain rfl:u=Value.ref a:=rv
 have hx:=XQ I1.jx ha
 obtain⟨vs,sl,hg,r⟩:=id hx
 have I2:Inv X pins σ (upd H1 a (xO a C d)) s1:=I1.write (x:=a) (e:=a) (h':=s1.heap) (t':=s1.toks) (by rw[ha];exact True.intro) (.inl rfl) (fun b q _ z=>z) ⟨_,hg⟩ (VM hx)
 exact⟨a,C,d,rfl,I1.gU,hk,hx,hX pins σ _ s1 a C d I2 qm hx hE⟩
end
end L2
namespace L2
open PyProof.Rows PySem PySem.Spec
section
variable {X:Cx} {pins:List (Addr × Obj)} {σ:St} {H:Hp} {s:Shared} {a C:Addr} {d:Option Addr} {E Eh:XK}
noncomputable def QH (X:Cx) (pins:List (Addr × Obj)) (σ:St) (Eh:XK) (ex:Value) (s':Shared):Prop:=∃a C d T H',ex=.ref a∧Inv X pins σ H' s'∧VR a C d X.s₀.heap.objs.size H' s'.heap T∧(∀p∈X.pn ++ pins,p.1≠T)∧Eh (.ref C) (some a) H'
theorem Inv.Wx {e:Value} {s':Shared} (I:Inv X pins σ H s) (h:sQ X.prog X.w X.stack H s E e s'):QH X pins σ E e s':=by
 obtain⟨a,C,d,T,H',rfl,os,bare,un,jx,F,q⟩:=h
 refine⟨a,C,d,T,H',rfl,I.nR os (ch:=[]) un jx bare (fun b z=>absurd z (by simp)),⟨F.at',F.tr,F.ne,Nat.le_trans I.sz F.new,F.free,F.is⟩,fun p hp=>?_,q⟩
 exact Nat.ne_of_lt (Nat.lt_of_lt_of_le (Heap.lt_size (I.pin p hp).1) F.new)
noncomputable def G8 (X:Cx) (Eh:XK) (e:Expr) (te:TE):Prop:=∀(pins:List (Addr × Obj)) (s:Shared) (σ:St) (H:Hp) (Q:VK),Inv X pins σ H s→te σ H Q→wpAny (model X.prog X.w) X.A (eval e X.env) (EP X pins σ Q) (QH X pins σ Eh) s
section
variable {k:Nat} {f:Addr} {fd:FuncData} {ps:List Str} {sp:Sp} {dvs:List V} {ds:List Value} {x:Str} {p pos:Pos} {e:Expr} {es:List Expr} {t:TA}
theorem KL {Q:VK} {us:List Value} {vs:List V} (F:qV X.prog X.w X.K X.mg X.base (sQ X.prog X.w) k f fd ps sp) (hr:vq k X.A) (hb:Binds X.K fd ps ds) (hd:Vals dvs ds)
  (I:Inv X pins σ H s) (r:Vals vs us) (h:sp (vs ++ dvs) H Q Eh):wpAny (model X.prog X.w) X.A (call (.ref f) us) (EP X pins σ Q) (QH X pins σ Eh) s:=by
 have r2:Vals (vs ++ dvs) (us ++ ds):=r.append hd
 have hl:(us ++ ds).length=ps.length:=by rw[←r2.length];exact F.len _ _ _ _ h
 refine wpAny_call (codeAny_mono (F.run X.A X.stack s H ⟨us,[]⟩ (us ++ ds) (vs ++ dvs) Q Eh hr I.X4 (hb s us I.gU hl) r2 h) fun r s' hq=>?_)
 cases r with
 | error e=>exact I.Wx hq
 | ok fl=>
  cases fl with
  | ret u=>exact I.after hq
  | next=>exact False.elim hq
  | brk=>exact False.elim hq
  | cont=>exact False.elim hq
theorem JT (hxe:∀e s,X.xe e s→False) (F:qV X.prog X.w X.K X.mg X.base (sQ X.prog X.w) k f fd ps sp) (hr:vq k X.A) (hg:Gl X x) (hm:X.mg x=some (.ref f)) (hk:PySem.W.keepIn X.K (.ref f)=true) (hb:Binds X.K fd ps ds) (hd:Vals dvs ds)
  (ha:PA X (e :: es) t) (hdb:(x == ("__debug__" : Str))=false:=by decide) (he:starEach (e :: es) X.env=(false,eval e X.env) :: starEach es X.env:=by rfl) (hpl:(backTo pos (starEach es X.env)).any (·.1)=false:=by rfl) :
  G8 X Eh (.Call (.Name x p) (e :: es) [] pos) (Xu sp dvs Eh t):=by
 intro pins s σ H Q I h
 refine wpAny_Call_Name_kw (gc I hg hm ?_ hdb)
 refine PySem.W.callWith_K (h₀:=X.base) I.ok.mod.QK hk (wpAny_mono (ha pos pins s σ H _ I h) (fun us s1 ⟨vs,H1,I1,r,q⟩=>⟨I1.gU,?_⟩) fun e s z=>(hxe e s z).elim) he hpl
 exact KL F hr hb hd I1 r q
end
theorem Inv.BZ {h':Heap} {ch:List Addr} {tb:Value} (I:Inv X pins σ H s) (t:mW (sO X.stack) ch s.heap h') (ha:H a=some (xO a C d)) (hx:cj h' a C d tb)
  (hc:∀b∈ch,b=a∨s.heap.objs.size≤b∨(H b=none∧X.s₀.heap.objs.size≤b∧(∃fl,Qe s.heap b fl)∧∀p∈X.pn ++ pins,p.1≠b)):Inv X pins σ H { s with heap:=h' }:=by
 have hn:∀b∈ch,b=a∨H b=none:=fun b hb=>by
  rcases hc b hb with q | q | q
  ·exact .inl q
  ·exact .inr (I.jx.fresh q)
  ·exact .inr q.1
 have jx:bp X.prog X.w H h':=tw I.jx t I.fV hn ha hx
 have nch:∀b o,s.heap.get? b=some o→H b=none→b∉ch.filter (fun b=>decide (b≠a∧b < s.heap.objs.size))→b∉ch:=fun b o e n hb z=>by
  refine hb (List.mem_filter.mpr ⟨z,decide_eq_true ⟨fun q=>?_,Heap.lt_size e⟩⟩)
  rw[q,ha] at n
  cases n
 have u:Un (sO X.stack) (ch.filter (fun b=>decide (b≠a∧b < s.heap.objs.size))) H H s.heap h':=by
  refine⟨fun b o e n hf hx=>t.keep b o e hf (nch b o e n hx),fun b o e n hf hx=>t.slot b o e hf (nch b o e n hx),fun _ _ _ n _=>n,fun b o e _=>t.there b o e,fun _ _ z=>z,fun _ _ _ z=>z,fun _ ps z=>⟨#[],by rw[z];simp⟩⟩
 refine I.nR (s':={ s with heap:=h' }) rfl u jx I.bare fun b hb=>?_
 obtain⟨hb,hb2⟩:=List.mem_filter.mp hb
 have hb2:=of_decide_eq_true hb2
 rcases hc b hb with q | q | ⟨q1,q2,⟨fl,oT,ts,q3,q4,q5⟩,q6⟩
 ·exact absurd q hb2.1
 ·exact absurd hb2.2 (Nat.not_lt.mpr q)
 ·refine⟨.inr q2,fun z=>?_,fun x c e z=>?_,q6⟩
  ·obtain⟨m,⟨o,es,ep,ho,hd,_⟩,_⟩:=I.loc
   rw[←z,q3] at ho
   cases ho
   rw[q4] at hd
   cases hd
  ·obtain⟨v,hv⟩:=I.cell x c e
   rw[z] at hv
   obtain⟨o,ho,hd⟩:=hv
   rw[q3] at ho
   cases ho
   rw[q4] at hd
   cases hd
theorem Inv.lands {M:Model} {A:Around} {EE:Value→Shared→Prop} {T:Addr} {fl:Value} {Q:Unit→Shared→Prop} (I:Inv X pins σ H s) (ha:H a=some (xO a C d)) (hx:cj s.heap a C d (.ref T)) (ht:Qe s.heap T fl) (hne:T≠a) (hT:H T=none) (hn:X.s₀.heap.objs.size≤T) (hp:∀p∈X.pn ++ pins,p.1≠T)
  (hQ:∀h',Inv X pins σ H { s with heap:=h' }→VR a C d X.s₀.heap.objs.size H h' T→Q () { s with heap:=h' }):wpAny M A (setFlight (.ref a) none) Q EE s:=by
 refine land hx ht hne fun h' k1 k2 k3=>hQ h' (I.BZ (k3 _) ha k1 fun b hb=>?_) ⟨k1,k2,hne,hn,hT,ha⟩
 rw[List.mem_singleton.mp hb]
 exact .inr (.inr ⟨hT,hn,⟨fl,ht⟩,hp⟩)
theorem Inv.VA {M:Model} {EE:Value→Shared→Prop} {T:Addr} {Q:Unit→Shared→Prop} (I:Inv X pins σ H s) (hst:X.stack=X.env :: X.outer) (hf:X.env.frame=some X.env.locals) (F:VR a C d X.s₀.heap.objs.size H s.heap T) (hp:∀p∈X.pn ++ pins,p.1≠T)
  (hQ:∀h' T',Inv X pins σ H { s with heap:=h' }→VR a C d X.s₀.heap.objs.size H h' T'→(∀p∈X.pn ++ pins,p.1≠T')→Q () { s with heap:=h' }) :
  wpAny M X.A (noteFrame (.ref a) X.env) (fun _ s2=>wpAny M X.A (setFlight (.ref a) none) Q EE s2) EE s:=by
 have hfr:=I.ok.frames
 have hst':=I.stack
 rw[hst] at hfr hst'
 refine sq hfr hst' hf F.at' F.tr F.ne fun h1 T1 k1 k2 k3 k4=>?_
 have hne:T1≠a:=Nat.ne_of_gt (Nat.lt_of_lt_of_le (I.jx.lt F.is) k1)
 have hT1:H T1=none:=I.jx.fresh k1
 have k4':mW (sO X.stack) [a,T] s.heap h1:=by rw[hst];exact k4
 have I1:Inv X pins σ H { s with heap:=h1 }:=I.BZ k4' F.is k2 fun b hb=>by
  simp only[List.mem_cons,List.not_mem_nil,or_false] at hb;rcases hb with rfl | rfl
  ·exact .inl rfl
  ·exact .inr (.inr ⟨F.free,F.new,⟨_,F.tr⟩,hp⟩)
 have hp1:∀p∈X.pn ++ pins,p.1≠T1:=fun p hp=>Nat.ne_of_lt (Nat.lt_of_lt_of_le (Heap.lt_size (I.pin p hp).1) k1)
 exact I1.lands F.is k2 k3 hne hT1 (Nat.le_trans I.sz k1) hp1 fun h2 I2 F2=>hQ h2 T1 I2 F2 hp1
noncomputable def Cx.held (X:Cx) (a:Addr):Cx:={ X with A:=X.A.mark (some (.ref a)),calm:=false }
theorem Inv.held (I:Inv X pins σ H s) (a:Addr):Inv (X.held a) pins σ H s:=
 ⟨⟨I.ok.mod,I.ok.kind,I.ok.glob,I.ok.blt,I.ok.above,I.ok.inj,I.ok.has,I.ok.Yd,fun z=>(nomatch z),I.ok.frames,I.ok.Gb,I.ok.V8,I.ok.bs,I.ok.ZY,I.ok.eu,I.ok.iC,I.ok.dU,I.ok.Vp⟩,I.os,I.bare,I.base,I.loc,I.cell,I.free,I.yC,I.pin,I.jx,I.len⟩
theorem Inv.nY (ok:X.Ok) (I:Inv (X.held a) pins σ H s):Inv X pins σ H s:=⟨ok,I.os,I.bare,I.base,I.loc,I.cell,I.free,I.yC,I.pin,I.jx,I.len⟩
theorem Inv.gone {h':Heap} {t':Nat} {i:Nat} {n:Str} {v:Option Value} {m:Str→Option Value} (I:Inv X pins σ H s) (hN:X.N.Nodup) (hi:X.N[i]?=some n) (hl:∀(i:Nat) (x:Str) (v:V),X.N[i]?=some x→σ[i]?=some (some v)→GY X.env.scope x→∃u,RelV v u∧Look X.env s.heap m x u)
  (hn:h'.Ns X.env.locals (fun x=>if x=n then v else m x)) (hs:Heap.SameBut X.env.locals s.heap h'):Inv X pins (σ.set i none) H { s with heap:=h',toks:=t' }:=by
 have neL:∀b o,X.s₀.heap.get? b=some o→b≠X.env.locals:=fun b o e=>Nat.ne_of_lt (Nat.lt_of_lt_of_le (Heap.lt_size e) I.ok.above)
 have tr:∀b u,H b=some u→b≠X.env.locals:=fun b u e z=>by rw[z,I.free] at e;cases e
 have cl:∀x c,X.env.cells.lookup x=some c→c≠X.env.locals:=fun x c e=>I.Vy x c e
 have hcell:∀c v,c≠X.env.locals→s.heap.IsCell c v→h'.IsCell c v:=fun c v hc ⟨o,ho,hd⟩=>⟨o,(hs.2 c hc).trans ho,hd⟩
 refine⟨I.ok,I.os,I.bare,⟨fun b o e nn hb hx=>(hs.2 b (neL b o e)).trans (I.base.keep b o e nn hb hx),fun b o e nn hb hx=>?_,I.base.free,fun b o e hx=>?_,I.base.lZ,I.base.uK,I.base.ll⟩,⟨_,hn,fun j x w e1 e2 e3=>?_⟩,fun x c e=>?_,I.free,I.yC,fun p hp=>?_,fun b u e=>?_,by rw[List.length_set];exact I.len⟩
 ·obtain⟨sl,q⟩:=I.base.slot b o e nn hb hx
  exact⟨sl,(hs.2 b (neL b o e)).trans q⟩
 ·obtain⟨o',q⟩:=I.base.there b o e hx
  exact⟨o',(hs.2 b (neL b o e)).trans q⟩
 ·have hij:i≠j:=fun z=>by
   subst z
   rw[List.getElem?_set] at e2
   split at e2
   ·split at e2<;>cases e2
   ·exact absurd rfl (by assumption)
  rw[List.getElem?_set_ne hij] at e2
  have hxn:x≠n:=fun z=>hij (df hN hi (z▸e1))
  obtain⟨u,r,l⟩:=hl j x w e1 e2 e3
  refine⟨u,r,?_⟩
  rcases l with ⟨k,l⟩ | ⟨k,c,e,z⟩
  ·exact .inl ⟨k,by show (if x=n then v else m x)=some u;rw[if_neg hxn];exact l⟩
  ·exact .inr ⟨k,c,e,hcell c _ (cl x c e) z⟩
 ·obtain⟨w,z⟩:=I.cell x c e
  exact⟨w,hcell c w (cl x c e) z⟩
 ·obtain⟨e,q,ne,r⟩:=I.pin p hp
  exact⟨(hs.2 _ ne).trans e,q,ne,r⟩
 ·refine(I.jx b u e).nK (fun c w hc q=>(hs.2 c ?_).trans q) (fun _ q=>q) fun _ _ q=>q
  rcases hc with z | z
  ·rw[z];exact tr b u e
  ·exact tr c _ z
theorem name_goes {M:Model} {A:Around} {EE:Value→Shared→Prop} {Q:Unit→Shared→Prop} {i:Nat} {n:Str} {pos:Pos} (I:Inv X pins σ H s) (hN:X.N.Nodup) (hi:X.N[i]?=some n) (hx:X.env.scope.names.lookup n=some .local) (hlen:i < σ.length)
  (h:∀s',Inv X pins (σ.set i none) H s'→Q () s'):wpAny M A (do bindName X.env n .none;unbindBehindTheSuite X.env n pos) Q EE s:=by
 have hp:(X.env.scope.kind == .class || (X.env.scope.kind == .module && X.env.locals != X.env.globals))=false:=by rw[I.ok.kind];rfl
 have hk:X.env.kindOf n=some .local:=hx
 refine wpAny_bind (wpAny_bindName (bq I hN hi (.inl hx) (v:=.non) (u:=.none) rfl (fun s1 I1=>?_) (.inr hx)))
 obtain⟨m,hn,hl⟩:=id I1.loc
 obtain⟨u,r,l⟩:=hl i n .non hi (by rw[List.getElem?_set_self hlen]) (.inl hx)
 have hm:m n=some u:=by
  rcases l with ⟨_,l⟩ | ⟨k,_⟩
  ·exact l
  ·rw[hk] at k;rcases k with k | k<;>cases k
 unfold unbindBehindTheSuite
 refine wpAny_onRaise ?_
 unfold unbindName
 refine wpAny_bind (wpAny_point (wpAny_bind ?_));unfold deleteName
 simp only[hk,hp]
 rw[if_neg (by decide)]
 refine wpAny_bind (wpAny_nsDel_keeps hn fun h' v hn' hs'=>?_)
 rw[hm]
 simp only[if_true,Option.isSome_some,Bool.not_true,Bool.false_eq_true,if_false];refine wpAny_pure (wpAny_point (h _ ?_))
 have:=I1.gone (t':=s1.toks) hN hi hl hn' hs'
 rw[List.set_set] at this
 exact this
theorem SP.Hg {M:Model} {A:Around} {EE:Value→Shared→Prop} {D:Ends} {i:Nat} {n:Str} {pos:Pos} {f:Flow} (ok:X.Ok) (hN:X.N.Nodup) (hi:X.N[i]?=some n) (hx:X.env.scope.names.lookup n=some .local)
  (h:SP (X.held a) pins { nx:=fun σ H=>D.nx (σ.set i none) H,rt:=D.rt,bk:=fun σ H=>D.bk (σ.set i none) H,ct:=fun σ H=>D.ct (σ.set i none) H } f s) :
  wpAny M A (do bindName X.env n .none;unbindBehindTheSuite X.env n pos) (fun _ s'=>SP X pins D f s') EE s:=by
 have hlen:∀{σ':St} {H':Hp} {s':Shared},Inv X pins σ' H' s'→i < σ'.length:=fun J=>by rw[J.len];exact(List.getElem?_eq_some_iff.mp hi).1
 cases f with
 | next=>
  obtain⟨σ',H',J,q⟩:=h
  have J:=J.nY ok
  exact name_goes J hN hi hx (hlen J) fun s' J'=>⟨_,H',J',q⟩
 | ret u=>
  obtain⟨v,σ',H',J,r,q⟩:=h
  have J:=J.nY ok
  exact name_goes J hN hi hx (hlen J) fun s' J'=>⟨v,_,H',J',r,q⟩
 | brk=>
  obtain⟨σ',H',J,q⟩:=h
  have J:=J.nY ok
  exact name_goes J hN hi hx (hlen J) fun s' J'=>⟨_,H',J',q⟩
 | cont=>
  obtain⟨σ',H',J,q⟩:=h
  have J:=J.nY ok
  exact name_goes J hN hi hx (hlen J) fun s' J'=>⟨_,H',J',q⟩
noncomputable def Gi (K:PySem.W.Frag) (Eh:XK) (P:Addr) (i:Nat) (te:TE) (th:Addr→TS):TS:=fun D σ H=>(te σ H fun _ H1=>D.nx σ H1)∧∀C a H',Eh (.ref C) (some a) H'→PySem.W.exmOne K (.ref C) (.ref P)=some true∧
 th a { nx:=fun σ H=>D.nx (σ.set i none) H,rt:=D.rt,bk:=fun σ H=>D.bk (σ.set i none) H,ct:=fun σ H=>D.ct (σ.set i none) H } (σ.set i (some (.ref a))) H'
theorem KJ {P:Addr} {x n:Str} {i:Nat} {e:Expr} {te:TE} {th:Addr→TS} {b0:Stmt} {suite:List Stmt} {p1 pc ph pos:Pos} (hxe:∀e s,X.xe e s→False) (hst:X.stack=X.env :: X.outer) (hf:X.env.frame=some X.env.locals)
  (hN:X.N.Nodup) (hi:X.N[i]?=some n) (hx:X.env.scope.names.lookup n=some .local) (hg:Gl X x) (hm:X.mg x=some (.ref P)) (he:G8 X Eh e te) (hs:∀a,iP (X.held a) (b0 :: suite) (th a))
  (hdb:(x == ("__debug__" : Str))=false:=by decide) (hsw:swapsWith e none p1.line X.env=pure false:=by rfl) :
  PS X (.Try [.Expr e p1] [.ExceptHandler (some (.Name x pc)) (some n) (b0 :: suite) ph] [] [] pos) (Gi X.K Eh P i te th):=by
 intro pins s σ H D I ⟨h1,h2⟩
 refine wpAny_Try_except ?_
 refine wpAny_execs_cons (wpAny_Expr_any (wpAny_mono (he pins s σ H _ I h1) (fun u s1 ⟨v,H1,I1,r1,q1⟩=>wpAny_execs_nil (wpAny_execs_nil ⟨σ,H1,I1,q1⟩)) fun ex s1 hfl=>?_) I.quiet hsw)
 obtain⟨a,C,d,T,H1,rfl,I1,F,hp,hE⟩:=hfl
 obtain⟨hex,hth⟩:=h2 C a H1 hE
 refine I1.VA hst hf F hp fun h2' T2 I2 F2 hp2=>?_
 have J2:=I2.held a
 refine wpAny_handleBy_cons (codeAny_handlers_test (gc J2 hg hm ?_ hdb)) (by intro q;cases q)
 obtain⟨vs,sl,hg2,_⟩:=id F2.at'
 have LT:PySem.W.Looks (model X.prog X.w) h2' (typeOf (.ref a)) (.ref C):=(PySem.W.Looks.ld hg2).andThen .now
 refine(PySem.W.exm_one I2.gU LT hex).here ?_
 show codeAny _ _ _ _ _
 refine codeAny_handlers_suite_as ?_;refine I2.lands F2.is F2.at' F2.tr F2.ne F2.free F2.new hp2 fun h3 I3 F3=>?_
 refine bq I3 hN hi (.inl hx) (v:=.ref a) (u:=.ref a) rfl (fun s4 I4=>?_) (.inr hx)
 refine wpAny_mono (hs a pins s4 _ H1 _ (I4.held a) hth) (fun f s5 hsp=>?_) (fun ex s5 hz=>(hxe ex s5 hz).elim)
 exact SP.Hg I4.ok hN hi hx hsp
end
end L2
namespace L2
open PyProof.Rows PySem PySem.Spec
noncomputable def VS (H:Hp) (a C:Addr) (fs:List (Str × V)):Prop:=(fs=[]∧H a=some (xO a C none))∨∃dx,H a=some (xO a C (some dx))∧H dx=some (xD dx fs)
theorem VS.look {P:Program} {w:World} {H:Hp} {h:Heap} {a C:Addr} {fs:List (Str × V)} (x:bp P w H h) (q:VS H a C fs):∃ox od,PySem.W.InstAt h a ox C od∧∀f v,fs.lookup f=some v→∃o u,od=some o∧PySem.W.lookIn f o=some (some u)∧RelV v u:=by
 rcases q with ⟨rfl,q⟩ | ⟨dx,q1,q2⟩
 ·obtain⟨tb,vs,sl,he,_⟩:=VF x q
  exact⟨_,none,⟨he,rfl,rfl,trivial⟩,fun f v e=>by cases e⟩
 ·obtain⟨tb,vs,sl,he,_⟩:=VF x q1
  obtain⟨mA,n1,r1,_⟩:=VH x q2
  obtain⟨od,ho,hl⟩:=dO n1
  refine⟨_,some od,⟨he,rfl,rfl,ho⟩,fun f v e=>?_⟩
  have r:=r1 f
  rw[e] at r
  cases hm:mA f with
  | none=>rw[hm] at r;exact False.elim r
  | some u=>rw[hm] at r;exact⟨od,u,rfl,by rw[hl,hm],r⟩
section
variable {prog:Program} {w:World} {A:Around} {E:Value→Shared→Prop} {s:Shared} {K:PySem.W.Frag} {x C:Addr} {ox:Obj} {od:Option Obj} {name:Str} {tk:Tok} {v:Value} {R:Result→Shared→Prop}
theorem K8 (X:K.In s.heap) (I:PySem.W.InstAt s.heap x ox C od) (hm:PySem.W.mroIn K C (.type "BaseException")=some true):PySem.W.Looks (model prog w) s.heap (isInstance (.ref x) (.type "BaseException")) true:=I.type.andThen (PySem.W.looks_mroIn X hm)
theorem iW (X : K.In s.heap) (I : PySem.W.InstAt s.heap x ox C od) (hm : PySem.W.mroIn K C (.type "BaseException") = some true)
    (h : wpAny (model prog w) A.in1 (Builtin.«object.__getattribute__» ⟨[.ref x, .str name tk], []⟩) (fun f s' => ∃ v, f = .done (.ret v) ∧ R (.ok (.ret v)) s') (fun _ _ => False) s) : codeAny (model prog w) A (.call (.builtin "BaseException.__getattribute__") ⟨[.ref x, .str name tk], []⟩) R s := by
  have fit := PySem.F.args_bexc_ga (.ref x) (.str name tk)
  have sub := K8 (prog := prog) (w := w) X I hm
  refine codeAny_call_builtin PySem.F.attr_ValueError.ga.plain PySem.F.entry_bexc_ga (PySem.W.check_slot (i := "BaseException.__getattribute__") (owner := "BaseException") (n := "__getattribute__") (by decide +kernel) (by decide +kernel) sub fit (wpAny_mono h (fun f s' z => ?_) fun _ _ z => z.elim))
  obtain ⟨v, rfl, z⟩ := z
  exact z
theorem XY {fill expr:Bool} {Q:Value→Shared→Prop} (X:K.In s.heap) (I:PySem.W.InstAt s.heap x ox C od) (hga:PySem.W.findIn K (.ref C) "__getattribute__" = some (some (.builtin "BaseException.__getattribute__"))) (hgn:PySem.W.findIn K (.ref C) "__getattr__" = some none) (hm:PySem.W.mroIn K C (.type "BaseException")=some true)
  (h:codeAny (model prog w) A (.call (.builtin "BaseException.__getattribute__") ⟨[.ref x,.str name tk],[]⟩) (fun r s'=>match r with | .ok (.ret v)=>wpAny (model prog w) A (handedOut v) Q E s' | _=>False) s) :
  wpAny (model prog w) A (getAttrBy (.ref x) (.str name tk) fill expr) Q E s:=by
 unfold getAttrBy
 refine wpAny_holding (wpAny_bind (I.type.here (wpAny_bind ((PySem.W.looks_findIn X hga).here ?_))))
 have hne:(Value.builtin "BaseException.__getattribute__" == Value.builtin "object.__getattribute__")=false:=by decide +kernel
 dsimp only
 rw[hne,Bool.and_false,if_neg Bool.false_ne_true]
 unfold getAttrByItsOwn hookBefore
 rw[show onTheHeap (Value.ref C)=true from rfl,if_pos rfl]
 refine wpAny_bind ((PySem.W.looks_findIn X hgn).here (wpAny_bind (wpAny_attempt (wpAny_holding ?_))))
 unfold callGetattribute
 rw[if_neg (by cases expr<;>decide +kernel)]
 unfold boundAndCalled
 refine wpAny_bind (wpAny_of_eq (PySem.F.attr_ValueError.ga.bind (.ref x)) ?_)
 refine wpAny_call (codeAny_mono h fun r s' z=>?_)
 rcases r with e | (u | _ | _ | _)<;>first | exact z | exact z.elim
theorem aw {fill expr : Bool} {Q : Value → Shared → Prop} (X : K.In s.heap) (I : PySem.W.InstAt s.heap x ox C od) (hga : PySem.W.findIn K (.ref C) "__getattribute__" = some (some (.builtin "BaseException.__getattribute__"))) (hgn : PySem.W.findIn K (.ref C) "__getattr__" = some none) (hm : PySem.W.mroIn K C (.type "BaseException") = some true)
    (hf : PySem.W.findObj K C od name = some (.value v)) (hh : PySem.W.handedIn v = true) (h : Q v s) : wpAny (model prog w) A (getAttrBy (.ref x) (.str name tk) fill expr) Q E s := by
  refine XY X I hga hgn hm (iW X I hm ?_)
  obtain ⟨hp, g, d, t, os⟩ := s
  unfold Builtin.«object.__getattribute__»; refine wpAny_bind (wpAny_pure ?_)
  refine wpAny_bind (wpAny_pure (wpAny_bind ((I.type (M := model prog w)).at (wpAny_bind ((PySem.W.looks_find (M := model prog w) X I hf).at ?_)))))
  refine wpAny_pure ⟨_, rfl, (?_ : wpAny _ _ (handedOut v) _ _ _)⟩; rw [PySem.W.handedOut_of hh]
  exact wpAny_pure h
theorem av {Q : Option Value → Shared → Prop} (X : K.In s.heap) (I : PySem.W.InstAt s.heap x ox C od) (hga : PySem.W.findIn K (.ref C) "__getattribute__" = some (some (.builtin "BaseException.__getattribute__"))) (hgn : PySem.W.findIn K (.ref C) "__getattr__" = some none) (hm : PySem.W.mroIn K C (.type "BaseException") = some true)
    (hf : PySem.W.findObj K C od "__class__" = some (.bind (.builtin "getset_descriptor.__get__") (.builtin "object.__class__"))) (ho : PySem.W.mroIn K C (.type "object") = some true) (h : Q (some (.ref C)) { s with toks := s.toks + 1 }) : wpAny (model prog w) A (getAttr? (.ref x) "__class__") Q E s := by
  unfold getAttr? getAttrBy?
  refine wpAny_bind (wpAny_mkText (wpAny_bind (wpAny_attempt ?_)))
  refine XY (s := { s with toks := s.toks + 1 }) X I hga hgn hm (iW (s := { s with toks := s.toks + 1 }) X I hm ?_)
  obtain ⟨hp, g, d, t, os⟩ := s
  unfold Builtin.«object.__getattribute__»; refine wpAny_bind (wpAny_pure ?_)
  refine wpAny_bind (wpAny_pure (wpAny_bind ((I.type (M := model prog w)).at (wpAny_bind ((PySem.W.looks_find (M := model prog w) X I hf).at ?_)))))
  dsimp only
  show wpAny _ _ (holding [Value.builtin "object.__class__"] (call (.builtin "getset_descriptor.__get__") [.builtin "object.__class__", .ref x, .ref C]) >>= ret) _ _ _
  refine wpAny_bind (wpAny_holding (wpAny_call (PySem.W.class_get (s := ⟨hp, g, d, t + 1, os⟩) (ox := ox) (od := od) X I ho ?_)))
  exact wpAny_pure ⟨_, rfl, PySem.W.handed_on rfl (wpAny_pure h)⟩
end
structure GG (K:PySem.W.Frag) (C:Addr):Prop where
 ga:PySem.W.findIn K (.ref C) "__getattribute__" = some (some (.builtin "BaseException.__getattribute__"))
 gn:PySem.W.findIn K (.ref C) "__getattr__" = some none
 bx:PySem.W.mroIn K C (.type "BaseException")=some true
 hd:PySem.W.hasDictIn K C=true
 ha:PySem.W.findIn K (.ref C) "__class__" = some (some (.builtin "object.__class__"))
 hn:PySem.W.specialIn K (.builtin "object.__class__") "__get__" = some (some (.builtin "getset_descriptor.__get__"))
 GP:PySem.W.takesIn K (.builtin "object.__class__")=some true
 hm:PySem.W.mroIn K C (.type "object")=some true
theorem Jh {K:PySem.W.Frag} {x D:Addr} {ox:Obj} {od:Option Obj} (ty:GG K D):PySem.W.KitX K (.ref x) (.ref D) (fun h=>PySem.W.InstAt h x ox D od):=by
 have hcl:∃c' d' cd' sl',K.lookup D=some ⟨c',d',.cls cd',sl'⟩:=by
  obtain⟨cdD,hcD,_⟩:=PySem.W.any_some ty.hd
  unfold PySem.W.clsIn at hcD
  split at hcD
  ·rename_i c' d' cd' sl' ho
   exact⟨c',d',cd',sl',ho⟩
  ·cases hcD
 have hf:PySem.W.findObj K D od "__class__" = some (.bind (.builtin "getset_descriptor.__get__") (.builtin "object.__class__")):=by
  obtain⟨cd,hc,_⟩:=PySem.W.any_some ty.hd
  unfold PySem.W.findObj
  rw[hc,Option.bind_some,ty.ha,Option.bind_some]
  simp [ty.hn,ty.GP]
 refine⟨fun _ _ _ I=>I.type,fun M h X _=>?_,fun h tp dd its n sl X htp=>?_,fun {prog w A E Q s} X I k=>?_⟩
 ·obtain⟨c',d',cd',sl',ho⟩:=hcl
  intro A' Q' E' s' k q
  unfold isType loadHead;exact wpAny_bind (wpAny_loadPart (k _ _ (X _ _ ho)) (wpAny_pure q))
 ·obtain⟨c',d',cd',sl',ho⟩:=hcl
  refine Bool.eq_false_iff.mpr fun q=>?_;have e:D=tp:=Value.ref.inj (beq_iff_eq.mp q)
  subst e;have z:=(X _ _ ho).symm.trans htp
  cases z
 ·exact av X I ty.ga ty.gn ty.bx hf ty.hm k
section
variable {X:Cx} {K:PySem.W.Frag}
theorem jn (hK:X.K=K):vw X (.builtin "isinstance") (fun xs H Q=>∃a C fs c b,xs=[.ref a,c]∧((∃n,c=.ty n)∨∃a,c=.ref a)∧VS H a C fs∧GG K C∧PySem.W.kitOne K (.ref C) (QE c)=some b∧Q (.bl b) H):=by
 subst hK
 intro pins s σ H xs us Q I r h
 obtain⟨a,C,fs,c,b,rfl,hc,hx,ty,hk,q⟩:=h
 obtain⟨u,u',rfl,rx,rc⟩:=vals2 r
 have e:u'=QE c:=by
  rcases hc with ⟨n,rfl⟩ | ⟨a,rfl⟩
  ·exact rc
  ·exact rc
 subst e
 cases (show u=Value.ref a from rx)
 obtain⟨ox,od,J,_⟩:=hx.look I.jx
 exact PySem.W.kia_one (Jh ty) I.gU J hk (fun z=>nomatch z) fun tk=>⟨.bl b,H,I.tok _,rfl,q⟩
noncomputable def Ga (K:PySem.W.Frag) (ta:TE) (f:Str):TE:=fun σ H Q=>ta σ H fun x H1=>∃a C fs v,x=.ref a∧VS H1 a C fs∧GG K C∧qH K C f∧fs.lookup f=some v∧Q v H1
theorem tR {e:Expr} {f:Str} {ta:TE} {pos:Pos} (hK:X.K=K) (he:PE X e ta) (hb:attributeBase e f X.env (eval e X.env)=eval e X.env):PE X (.Attribute e f pos) (Ga K ta f):=by
 subst hK
 intro pins s σ H Q I h
 refine aZ hb (xf (he pins s σ H _ I h) fun u s1 ⟨x,H1,I1,rx,a,C,fs,v,ex,hx,ty,n,l,q⟩=>?_)
 subst ex
 obtain rfl:u=Value.ref a:=rx
 obtain⟨ox,od,J,hl⟩:=hx.look I1.jx
 obtain⟨o,u',rfl,lk,ru⟩:=hl f v l
 exact wpAny_bind (wpAny_mkText (aw (s:={ s1 with toks:=s1.toks + 1 }) I1.gU J ty.ga ty.gn ty.bx (PySem.W.findObj_own ty.hd n rfl lk) (lD ru) ⟨v,H1,I1.tok _,ru,q⟩))
end
end L2
namespace L2
open PyProof.Rows PySem PySem.Spec
structure Ya (k:Nat) (A:Around):Prop where
 dp:A.depth + 3 * k + 5 < recursionLimit
 un:A.units + 16 * k + 200 < cLine
structure By (P:Program) (w:World) (K:PySem.W.Frag) (mg:Str→Option Value) (base:Heap) (CX:rL) (k:Nat) (f:Addr) (fd:FuncData) (ps:List Str) (sp:Sp):Prop where
 len:∀vs H Q E,sp vs H Q E→vs.length=ps.length
 run:∀(A:Around) (outer:List Env) (s:Shared) (H:Hp) (args:Args) (us:List Value) (vs:List V) (Q:VK) (E:XK),Ya k A→nB P w K mg base A outer s H→BindsTo s fd args (ps.zip us)→Vals vs us→sp vs H Q E→codeAny (model P w) A (.call (.ref f) args) (CR CX outer P w H s Q E) s
section
variable {P:Program} {w:World} {K:PySem.W.Frag} {mg:Str→Option Value} {base:Heap} {CX:rL}
noncomputable def Cx.any (X:Cx):Cx:={ X with calm:=false,xe:=fun _ _=>False }
section
variable {X:Cx} {pins:List (Addr × Obj)} {σ:St} {H:Hp} {s:Shared} {k:Nat} {f:Addr} {fd:FuncData} {ps:List Str} {sp:Sp} {dvs:List V} {ds:List Value} {x:Str} {p pos:Pos} {e:Expr} {es:List Expr} {t:TA}
end
end
end L2
namespace L2
open PyProof.Rows PySem PySem.Spec
section
variable {prog:Program} {w:World} {A:Around} {E:Value→Shared→Prop} {s:Shared} {a e C:Addr} {d:Option Addr} {tb:Value} {oe:Obj} {vs:Array Value}
end
end L2
namespace L2
open PyProof.Rows PySem PySem.Spec
structure YZ (aa:Addr) (P:Program) (w:World) (K:PySem.W.Frag) (tg:Expr) (J:It) (fp:List Addr) (it:Addr) (tn:Nat→Heap→Prop):Prop where
 mem:it∈fp
 obj:∀i h,tn i h→∀b∈fp,∃o,h.get? b=some o∧∀v,o.data≠.cell v
 keep:∀i h h',tn i h→(∀b∈fp,∀o,h.get? b=some o→h'.get? b=some o)→tn i h'
 item:∀(X:Cx),X.prog=P→X.w=w→X.K=K→X.A.handled=some (.ref aa)→∀(i:Nat) (pins:List (Addr × Obj)) (s:Shared) (σ:St) (H:Hp) (E:Value→Shared→Prop),Inv X pins σ H s→(∀b∈fp,gZ X pins H b)→tn i s.heap→J.go i H→
  wpAny (model P w) X.A (pyNext (.ref it)) (fun r s1=>∃u,r=some u∧wpAny (model P w) X.A (letOwnedTupleGo tg (.ref it) u) (fun _ s2=>∃x H',Inv X pins σ H' s2∧RelV x u∧J.VD i H x H'∧tn (i + 1) s2.heap∧∀b∈fp,H' b=none) E s1) E s
 done:∀(X:Cx),X.prog=P→X.w=w→X.K=K→X.A.handled=some (.ref aa)→∀(i:Nat) (pins:List (Addr × Obj)) (s:Shared) (σ:St) (H:Hp) (E:Value→Shared→Prop),Inv X pins σ H s→(∀b∈fp,gZ X pins H b)→tn i s.heap→J.stop i H→wpAny (model P w) X.A (pyNext (.ref it)) (fun r s1=>r=none∧Inv X pins σ H s1) E s
 self:∀(A:Around) (i:Nat) (s:Shared) (Q:Value→Shared→Prop) (E:Value→Shared→Prop),tn i s.heap→Q (.ref it) s→wpAny (model P w) A (pyIter (.ref it)) Q E s
noncomputable def G4 (aa:Addr) (lo:Int) (n:Nat):It:=⟨fun i _=>i < n,fun i H x H'=>H'=H∧x=.int (lo + i),fun i H=>n≤i∧∃C d,H aa=some (xO aa C d)⟩
section
variable {X:Cx}
noncomputable def BB (X:Cx) (aa:Addr) (tg iter:Expr) (wi:TI):Prop:=∀(pins:List (Addr × Obj)) (s:Shared) (σ:St) (H:Hp) (R:It→Hp→Prop),Inv X pins σ H s→wi σ H R→
 wpAny (model X.prog X.w) X.A (eval iter X.env) (fun v s1=>wpAny (model X.prog X.w) X.A (pyIter v) (fun itv s2=>∃(it:Addr) (fp:List Addr) (tn:Nat→Heap→Prop) (J:It) (H':Hp),itv=.ref it∧Inv X pins σ H' s2∧YZ aa X.prog X.w X.K tg J fp it tn∧tn 0 s2.heap∧(∀b∈fp,gZ X pins H' b)∧R J H') X.xe s1) X.xe s
noncomputable def Hh (aa:Addr) (ta:TA):TI:=fun σ H R=>ta σ H fun vs H1=>∃j:Int,vs=[.int j]∧-(2 ^ 62)≤j∧j < 2 ^ 62∧R (G4 aa 0 j.toNat) H1
end
end L2
namespace L2
open PySem PySem.Spec PyProof.Rows
section
variable {κ:Type} [DecidableEq κ]
noncomputable def pj (kvs:List (κ × V)) (k:κ):Option V:=(kvs.find? fun kv=>decide (kv.1=k)).map (·.2)
noncomputable def putK (kvs:List (κ × V)) (k:κ) (v:V):List (κ × V):=
 if (kvs.any fun kv=>decide (kv.1=k))=true then kvs.map (fun kv=>if kv.1=k then (kv.1,v) else kv) else kvs ++ [(k,v)]
noncomputable def Q5 (kvs:List (κ × V)) (k:κ):List (κ × V):=kvs.filter fun kv=>decide (kv.1≠k)
theorem rP {p:κ × V} {r:List (κ × V)} {k:κ} (e:p.1=k):pj (p :: r) k=some p.2:=by simp [pj,List.find?_cons,e]
theorem rB {p:κ × V} {r:List (κ × V)} {k:κ} (e:¬p.1=k):pj (p :: r) k=pj r k:=by simp [pj,List.find?_cons,e]
theorem dG (k:κ):∀kvs:List (κ × V),(kvs.any fun kv=>decide (kv.1=k))=(pj kvs k).isSome
 | []=>rfl
 | p :: r=>by
  rw[List.any_cons]
  by_cases e:p.1=k
  ·simp only[rP e,decide_eq_true e,Bool.true_or,Option.isSome_some]
  ·rw[rB e,decide_eq_false e,Bool.false_or];exact dG k r
theorem cu (kvs:List (κ × V)) (k:κ) (v:V):(putK kvs k v).length≤kvs.length + 1:=by
 unfold putK
 split
 ·rw[List.length_map];omega
 ·rw[List.length_append,List.length_cons,List.length_nil];omega
theorem JE {kvs:List (κ × V)} {k:κ} (v:V) (h:pj kvs k=none):putK kvs k v=kvs ++ [(k,v)]:=by
 unfold putK
 rw[dG,h]
 exact if_neg (by decide)
theorem gG.dR {o:Option V} {u:Option Value} (r:gG o u):o.isSome=u.isSome:=by
 cases o with
 | none=>cases u with
  | none=>rfl
  | some _=>exact(show False from r).elim
 | some _=>cases u with
  | none=>exact(show False from r).elim
  | some _=>rfl
theorem KV.val {kvs:List (κ × V)} {vs:List (κ × Value)} (r:KV kvs vs) (k:κ):gG (pj kvs k) (valueAt vs k):=by
 unfold KV at r
 induction r with
 | nil=>exact True.intro
 | @cons p q ps qs h t ih=>
  obtain⟨h1,h2⟩:=h
  by_cases e:p.1=k
  ·have e':q.1=k:=h1.symm.trans e
   have b:valueAt (q :: qs) k=some q.2:=by simp [valueAt,List.find?_cons,e']
   rw[rP e,b];exact h2
  ·have e':¬q.1=k:=fun z=>e (h1.trans z)
   have b:valueAt (q :: qs) k=valueAt qs k:=by simp [valueAt,List.find?_cons,e']
   rw[rB e,b];exact ih
theorem KV.any {kvs:List (κ × V)} {vs:List (κ × Value)} (r:KV kvs vs) (k:κ):(kvs.any fun kv=>decide (kv.1=k))=vs.any fun kv=>decide (kv.1=k):=by
 unfold KV at r
 induction r with
 | nil=>rfl
 | cons h t ih=>rw[List.any_cons,List.any_cons,ih,h.1]
theorem KV.WE {kvs:List (κ × V)} {vs:List (κ × Value)} (r:KV kvs vs) (k:κ) {y:V} {u:Value} (ry:RelV y u) :
  KV (kvs.map fun kv=>if kv.1=k then (kv.1,y) else kv) (vs.map fun kv=>if kv.1=k then (kv.1,u) else kv):=by
 unfold KV at r ⊢
 induction r with
 | nil=>exact .nil
 | @cons p q ps qs h t ih=>
  rw[List.map_cons,List.map_cons]
  refine .cons ?_ ih
  obtain⟨h1,h2⟩:=h
  by_cases e:p.1=k
  ·rw[if_pos e,if_pos (h1.symm.trans e)];exact⟨h1,ry⟩
  ·rw[if_neg e,if_neg (fun z=>e (h1.trans z))];exact⟨h1,h2⟩
theorem KV.put {kvs:List (κ × V)} {vs:List (κ × Value)} (r:KV kvs vs) (k:κ) {y:V} {u:Value} (ry:RelV y u):KV (putK kvs k y) (stored vs k u):=by
 unfold putK stored
 rw[r.any k]
 by_cases e:(vs.any fun kv=>decide (kv.1=k))=true
 ·rw[if_pos e,if_pos e];exact r.WE k ry
 ·rw[if_neg e,if_neg e];exact Paired.snoc r ⟨rfl,ry⟩
theorem KV.length {kvs:List (κ × V)} {vs:List (κ × Value)} (r:KV kvs vs):kvs.length=vs.length:=Paired.length r
end
theorem Jg {P:Program} {w:World} {k:Key} {u:Value} (r:RelV (kV k) u):(kA P w).is k u=true:=by
 cases k with
 | inl i=>obtain⟨t,e⟩:=(show ∃t,u=Value.int i t from r);subst e;exact oG P w i t
 | inr x=>obtain⟨t,e⟩:=(show ∃t,u=Value.str x t from r);subst e;exact oH P w x t
theorem lL {P:Program} {w:World}:∀{ks:List Key} {us:List Value},Vals (ks.map kV) us→ItemsAre (kA P w) ks us
 | [],_,r=>by rw[List.map_nil] at r;cases r;exact .nil
 | k :: ks,_,r=>by
  rw[List.map_cons] at r
  cases r with
  | cons h t=>exact .cons (Jg h) (lL t)
noncomputable abbrev KT (H:Hp):List (List Key × V)→List (List Key × Addr × Value)→Prop:=Paired fun p q=>p.1=q.1∧H q.2.1=some (.tup (p.1.map kV))∧RelV p.2 q.2.2
theorem KT.val {H:Hp} {kvs:List (List Key × V)} {xs:List (List Key × Addr × Value)} (r:KT H kvs xs) (k:List Key):gG (pj kvs k) ((atKey xs k).map (·.2)):=by
 induction r with
 | nil=>exact True.intro
 | @cons p q ps qs h t ih=>
  obtain⟨h1,_,h2⟩:=h
  by_cases e:p.1=k
  ·have e':q.1=k:=h1.symm.trans e
   have b:atKey (q :: qs) k=some q.2:=by simp [atKey,List.find?_cons,e']
   rw[rP e,b];exact h2
  ·have e':¬q.1=k:=fun z=>e (h1.trans z)
   have b:atKey (q :: qs) k=atKey qs k:=by simp [atKey,List.find?_cons,e']
   rw[rB e,b];exact ih
theorem KT.WE {H:Hp} {kvs:List (List Key × V)} {xs:List (List Key × Addr × Value)} (r:KT H kvs xs) (k:List Key) {y:V} {u:Value} (ry:RelV y u) :
  KT H (kvs.map fun kv=>if kv.1=k then (kv.1,y) else kv) (xs.map (putAt k u)):=by
 induction r with
 | nil=>exact .nil
 | @cons p q ps qs h t ih=>
  rw[List.map_cons,List.map_cons]
  refine .cons ?_ ih
  obtain⟨h1,h2,h3⟩:=h
  unfold putAt
  by_cases e:p.1=k
  ·rw[if_pos e,if_pos (h1.symm.trans e)];exact⟨h1,h2,ry⟩
  ·rw[if_neg e,if_neg (fun z=>e (h1.trans z))];exact⟨h1,h2,h3⟩
theorem KT.put {H:Hp} {kvs:List (List Key × V)} {xs:List (List Key × Addr × Value)} (r:KT H kvs xs) (k:List Key) {b:Addr} {y:V} {u:Value} (hb:H b=some (.tup (k.map kV))) (ry:RelV y u) :
  KT H (putK kvs k y) (storedH xs k b u):=by
 have e:(kvs.any fun kv=>decide (kv.1=k))=(atKey xs k).isSome:=by
  rw[dG,(r.val k).dR,Option.isSome_map]
 unfold putK storedH
 rw[e]
 by_cases q:(atKey xs k).isSome=true
 ·rw[if_pos q,if_pos q];exact r.WE k ry
 ·rw[if_neg q,if_neg q];exact Paired.snoc r ⟨rfl,hb,ry⟩
theorem KT.keeps {H H':Hp} {kvs:List (List Key × V)} {xs:List (List Key × Addr × Value)} (r:KT H kvs xs) (ht:∀b ys,H b=some (.tup ys)→H' b=some (.tup ys)):KT H' kvs xs:=
 Paired.Jo r fun _ _ z=>⟨z.1,ht _ _ z.2.1,z.2.2⟩
section
variable {P:Program} {w:World} {H:Hp} {h:Heap} {a:Addr}
theorem Vn {u:HO} (ok:bp P w H h) (e:Rd H a u):xk P w H h a u:=e.ok ok
theorem Vg {kvs:List (Key × V)} (ok:bp P w H h) (e:Rd H a (.dK kvs)):kvs.length≤sizeLine∧(a == sysModules)=false∧∃vs,KV kvs vs∧h.DictOf (kA P w) a vs:=
 show xk P w H h a (.dK kvs) from Vn ok e
theorem YX {kvs:List (Key × V)} (ok:bp P w H h) (e:H a=some (.dK kvs)):kvs.length≤sizeLine∧(a == sysModules)=false∧∃vs,KV kvs vs∧h.DictOf (kA P w) a vs:=Vg ok (.inl e)
theorem iE {ks:List Key} (ok:bp P w H h) (e:H a=some (.tup (ks.map kV))):(tupleKind (kA P w)).is h ks a:=by
 obtain⟨_,its,r,o,h1,h2,n,h3⟩:=(show xk P w H h a (.tup (ks.map kV)) from ok a _ e)
 exact⟨o,its.toArray,n,h1,h2,h3,by simpa using lL r⟩
theorem Vh {kvs:List (List Key × V)} (ok:bp P w H h) (e:Rd H a (.dT kvs)):kvs.length≤sizeLine∧(a == sysModules)=false∧
  ∃xs,KT H kvs xs∧h.DictOfH (tupleKind (kA P w)) a xs:=by
 obtain⟨z,y,xs,r,o,es,ep,h1,h2,h3,h4,h5⟩:=(show xk P w H h a (.dT kvs) from Vn ok e)
 refine⟨z,y,xs,r,o,es,ep,h1,h2,h3,h4,fun x hx=>?_,h5⟩
 have all:∀{l:List (List Key × V)} {m:List (List Key × Addr × Value)},KT H l m→∀x∈m,(tupleKind (kA P w)).is h x.1 x.2.1:=by
  intro l m q
  induction q with
  | nil=>intro x hx;exact nomatch hx
  | @cons p q ps qs hq t ih=>
   intro x hx
   rcases List.mem_cons.mp hx with e | hx
   ·subst e
    exact iE ok (by rw[←hq.1];exact hq.2.1)
   ·exact ih x hx
 exact all r x hx
theorem YV {kvs:List (List Key × V)} (ok:bp P w H h) (e:H a=some (.dT kvs)):kvs.length≤sizeLine∧(a == sysModules)=false∧
  ∃xs,KT H kvs xs∧h.DictOfH (tupleKind (kA P w)) a xs:=Vh ok (.inl e)
end
noncomputable def uu (H:Hp) (a:Addr) (y:V) (r:Option V):Prop:=
 (∃kvs k,Rd H a (.dK kvs)∧y=kV k∧r=pj kvs k)∨∃kvs k b,Rd H a (.dT kvs)∧y=.ref b∧H b=some (.tup (k.map kV))∧r=pj kvs k
noncomputable def ZX (H:Hp) (a:Addr) (y v:V) (H':Hp):Prop:=
 (∃kvs k,H a=some (.dK kvs)∧y=kV k∧kvs.length < sizeLine∧H'=upd H a (.dK (putK kvs k v)))∨
 ∃kvs k b,H a=some (.dT kvs)∧y=.ref b∧H b=some (.tup (k.map kV))∧kvs.length < sizeLine∧H'=upd H a (.dT (putK kvs k v))
theorem uu.k {H:Hp} {a:Addr} {kvs:List (Key × V)} {k:Key} (e:H a=some (.dK kvs)):uu H a (kV k) (pj kvs k):=.inl ⟨kvs,k,.inl e,rfl,rfl⟩
theorem ZX.k {H:Hp} {a:Addr} {kvs:List (Key × V)} {k:Key} {v:V} (e:H a=some (.dK kvs)) (hl:kvs.length < sizeLine):ZX H a (kV k) v (upd H a (.dK (putK kvs k v))):=.inl ⟨kvs,k,e,rfl,hl,rfl⟩
section
variable {X:Cx} {pins:List (Addr × Obj)} {σ:St} {H:Hp} {s:Shared} {a:Addr} {y v:V} {u r:Value} {o:Option V} {A:Around} {E:Value→Shared→Prop}
theorem Inv.big (I:Inv X pins σ H s):sysModules < s.heap.objs.size:=by
 have h:mainGlobals < s.heap.objs.size:=(I.mod.glob.keeps I.bk).lt
 exact Nat.lt_trans (by decide) h
theorem Hk {Q:Value→Shared→Prop} (hu:A.units + 1 < cLine) (I:Inv X pins σ H s) (g:uu H a y o) (ry:RelV y u) (h:∀s',Inv X pins σ H s'→Q (.bool o.isSome) s') :
  wpAny (model X.prog X.w) A (compareOp .In u (.ref a)) Q E s:=by
 rcases g with ⟨kvs,k,e,ey,l⟩ | ⟨kvs,k,b,e,ey,eb,l⟩
 ·subst ey
  obtain⟨z,hd,vs,rel,dd⟩:=Vg I.jx e
  refine wpAny_in_of (Jg ry) hd dd.mapOf ?_
  rw[←(rel.val k).dR,←l]
  exact h _ (I.tok _)
 ·subst ey
  cases (show u=Value.ref b from ry)
  obtain⟨z,hd,xs,rel,dd⟩:=Vh I.jx e
  refine wpAny_in_heap (tupleKind_room_in1 hu) (iE I.jx eb) hd dd ?_
  have q:=(rel.val k).dR
  rw[Option.isSome_map] at q
  rw[←q,←l]
  exact h _ (I.tok _)
theorem aH {h':Heap} {t':Nat} {ob:HO} (I:Inv X pins σ H s) (mu:Yn (H a)) (hs:Heap.SameBut a s.heap h') (he:∃q,h'.get? a=some q) (new:xk X.prog X.w (upd H a ob) h' a ob) :
  Inv X pins σ (upd H a ob) { s with heap:=h',toks:=t' }:=
 I.write (x:=a) (e:=a) mu (.inl rfl) (fun b q hb z=>(hs.2 b hb).trans z) he new
theorem V4 {P:Program} {w:World} {H':Hp} {h':Heap} {kvs:List (Key × V)} {vs:List (Key × Value)} (z:kvs.length≤sizeLine) (hd:(a == sysModules)=false) (rel:KV kvs vs) (dd:h'.DictOf (kA P w) a vs) :
  xk P w H' h' a (.dK kvs):=⟨z,hd,vs,rel,dd⟩
theorem ZD {H':Hp} {Q:Unit→Shared→Prop} (hu:A.units + 1 < cLine) (I:Inv X pins σ H s) (g:ZX H a y v H') (ry:RelV y u) (rv:RelV v r) (h:∀s',Inv X pins σ H' s'→Q () s') :
  wpAny (model X.prog X.w) A (setItem (.ref a) u r) Q E s:=by
 rcases g with ⟨kvs,k,e,ey,l,eH⟩ | ⟨kvs,k,b,e,ey,eb,l,eH⟩
 ·subst ey eH
  obtain⟨z,hd,vs,rel,dd⟩:=YX I.jx e
  have hz:vs.length≤sizeLine:=by rw[←rel.length];exact z
  have hl:(putK kvs k v).length≤sizeLine:=by have:=cu kvs k v;omega
  refine wpAny_setItem_pairs (hsz:=hz) (Jg ry) dd fun h' dd' hs=>h _ ?_
  have he:∃q,h'.get? a=some q:=let ⟨q,_,_,hq,_⟩:=dd';⟨q,hq⟩
  exact aH I (by rw[e];exact True.intro) hs he (V4 hl hd (rel.put k rv) dd')
 ·subst ey eH
  cases (show u=Value.ref b from ry)
  obtain⟨z,hd,xs,rel,dd⟩:=YV I.jx e
  have hz:xs.length≤sizeLine:=by rw[←Paired.length rel];exact z
  have hl:(putK kvs k v).length≤sizeLine:=by have:=cu kvs k v;omega
  refine wpAny_setItem_heap (hsz:=hz) (tupleKind_room_in1 hu) (iE I.jx eb) dd fun h' dd' hs=>h _ ?_
  obtain⟨q,es,ep,hq,h2,h3,h4,_,h5⟩:=dd'
  refine aH I (by rw[e];exact True.intro) hs ⟨q,hq⟩ ⟨hl,hd,_,(rel.put k eb rv).keeps fun c ys ec=>?_,q,es,ep,hq,h2,h3,h4,h5⟩
  rw[qB (cK ec e (fun z=>nomatch z))]
  exact ec
end
section
variable {X:Cx} {pins:List (Addr × Obj)} {σ:St} {H:Hp} {s:Shared} {a:Addr} {kvs:List (Key × V)} {k:Key} {u:Value} {A:Around} {E:Value→Shared→Prop}
end
noncomputable def BG (i:Expr):Prop:=∀ov iv,subscripted i false ov iv=operate [ov,iv] (getItem ov iv)
noncomputable def Bt (td ty:TE):TE:=fun σ H Q=>td σ H fun x H1=>ty σ H1 fun y H2=>∃a v,x=.ref a∧uu H2 a y (some v)∧Q v H2
noncomputable def HF (ty td:TE):TE:=fun σ H Q=>ty σ H fun y H1=>td σ H1 fun x H2=>∃a o,x=.ref a∧uu H2 a y o∧Q (.bl o.isSome) H2
noncomputable def GN (ty td:TE):TE:=fun σ H Q=>ty σ H fun y H1=>td σ H1 fun x H2=>∃a o,x=.ref a∧uu H2 a y o∧Q (.bl (!o.isSome)) H2
noncomputable def Bu (td ty tv:TE):TS:=fun D σ H=>tv σ H fun v H1=>td σ H1 fun x H2=>ty σ H2 fun y H3=>∃a H4,x=.ref a∧ZX H3 a y v H4∧D.nx σ H4
noncomputable def Bd (td ty tv:TE) (rd:V→V→Hp→VK→Prop):TS:=fun D σ H=>td σ H fun x H1=>ty σ H1 fun y H2=>∃a v,x=.ref a∧uu H2 a y (some v)∧
 tv σ H2 fun y2 H3=>rd v y2 H3 fun z H4=>∃H5,ZX H4 a y z H5∧D.nx σ H5
noncomputable def Bc (td ty:TE):TS:=fun D σ H=>td σ H fun x H1=>ty σ H1 fun y H2=>∃a kvs k,x=.ref a∧H2 a=some (.dK kvs)∧y=kV k∧(pj kvs k).isSome=true∧D.nx σ (upd H2 a (.dK (Q5 kvs k)))
section
variable {X:Cx} {o i e value:Expr} {pos pos' tpos:Pos} {td ty tv:TE}
theorem JC (hu:X.A.units + 1 < cLine) (hi:PE X i ty) (ho:PE X o td):PC X .In i o (HF ty td):=by
 intro pins s σ H Q I h
 refine xf (hi pins s σ H _ I h) fun iv s1 ⟨y,H1,I1,ry,q1⟩=>xf (ho pins s1 σ H1 _ I1 q1) fun u s2 ⟨x,H2,I2,rx,a,ov,ex,g,q2⟩=>?_
 subst ex
 obtain rfl:u=Value.ref a:=rx
 exact Hk hu I2 g ry fun s3 I3=>⟨.bl ov.isSome,H2,I3,rfl,q2⟩
end
theorem Q3 {P:Program} {w:World} {H:Hp} (h:Heap) (hb:sysModules < h.objs.size):xk P w H (h.push { cls:=.type "dict",data:=.dict #[] }) h.objs.size (.dK []):=
 ⟨Nat.zero_le _,beq_eq_false_iff_ne.mpr (Ne.symm (Nat.ne_of_lt hb)),[],.nil,Heap.DictOf.new h⟩
noncomputable def Yv:TE:=fun _ H Q=>∀p,H p=none→Q (.ref p) (upd H p (.dK []))
noncomputable def HM:TE:=fun _ H Q=>∀p,H p=none→Q (.ref p) (upd H p (.dT []))
section
variable {X:Cx} {pos:Pos}
theorem JL:PE X (.Dict [] [] pos) Yv:=fun pins s σ H Q I h=>
 wpAny_Dict_empty ⟨.ref s.heap.objs.size,_,I.laid (a:=s.heap.objs.size) (o:=.dK []) (t':=s.toks) (fun _ _ q=>Heap.get?_push_of_some _ q) (Nat.le_refl _) (Q3 s.heap I.big),rfl,h _ (I.jx.fresh (Nat.le_refl _))⟩
end
noncomputable def eI:List (TE × TE)→St→Hp→(List (V × V)→Hp→Prop)→Prop
 | [],_,H,Q=>Q [] H
 | (tk,tv) :: r,σ,H,Q=>tk σ H fun x H1=>tv σ H1 fun y H2=>eI r σ H2 fun ps H3=>Q ((x,y) :: ps) H3
noncomputable abbrev VV:List (V × V)→List (Value × Value)→Prop:=Paired fun p q=>RelV p.1 q.1∧RelV p.2 q.2
noncomputable def Pp (X:Cx) (pos:Pos) (keys:List (Option Expr)) (values:List Expr) (trs:List (TE × TE)):Prop:=
 ∀(pins:List (Addr × Obj)) (s:Shared) (σ:St) (H:Hp) (Q:List (V × V)→Hp→Prop),Inv X pins σ H s→eI trs σ H Q→
  wpAny (model X.prog X.w) X.A (evalPairs (pairTrees keys values X.env pos)) (fun vs s'=>∃ps H',Inv X pins σ H' s'∧VV ps vs∧Q ps H') X.xe s
noncomputable def Wl (kvs more:List (Key × V)):List (Key × V):=more.foldl (fun acc kv=>putK acc kv.1 kv.2) kvs
noncomputable def Bn (trs:List (TE × TE)):TE:=fun σ H Q=>∀p,H p=none→eI trs σ (upd H p (.dK [])) fun ps H2=>H2 p=some (.dK [])∧∃kvs:List (Key × V),ps=kvs.map (fun kv=>(kV kv.1,kv.2))∧kvs.length≤15∧Q (.ref p) (upd H2 p (.dK (Wl [] kvs)))
structure M1 (X:Cx) (o:Expr) (m:Str) (apos:Pos) (e:Expr) (cpos:Pos):Prop where
 base:attributeBase o m X.env (eval o X.env)=eval o X.env
 sN:((backTo cpos (starEach [e] X.env)).all (fun x=>!x.1) && (backToKw cpos (keywordEach [] X.env)).all (fun x=>x.1.isSome)
  && decide (([e]:List Expr).length + ([]:List Keyword).length + (if ([]:List Keyword).isEmpty then 0 else 1) < 30))=true
 line:(apos.endLine == cpos.line)=true
 trees:backTo cpos (starEach [e] X.env)=[(false,eval e X.env)]
structure M2 (X:Cx) (o:Expr) (m:Str) (apos:Pos) (e f:Expr) (cpos:Pos):Prop where
 base:attributeBase o m X.env (eval o X.env)=eval o X.env
 sN:((backTo cpos (starEach [e,f] X.env)).all (fun x=>!x.1) && (backToKw cpos (keywordEach [] X.env)).all (fun x=>x.1.isSome)
  && decide (([e,f]:List Expr).length + ([]:List Keyword).length + (if ([]:List Keyword).isEmpty then 0 else 1) < 30))=true
 line:(apos.endLine == cpos.line)=true
 trees:backTo cpos (starEach [e,f] X.env)=[(false,eval e X.env),(false,eval f X.env)]
noncomputable def GK (H:Hp) (a:Addr):Prop:=(∃kvs,Rd H a (.dK kvs))∨∃kvs,Rd H a (.dT kvs)
section
variable {X:Cx} {pins:List (Addr × Obj)} {σ:St} {H:Hp} {s:Shared} {a:Addr} {y d:V} {u r:Value} {o:Option V} {A:Around} {E:Value→Shared→Prop}
end
noncomputable def HB (td ty:TE):TE:=fun σ H Q=>td σ H fun x H1=>∃a,x=.ref a∧GK H1 a∧ty σ H1 fun y H2=>∃o,uu H2 a y o∧Q (o.getD .non) H2
noncomputable def HP (td ty tx:TE):TE:=fun σ H Q=>td σ H fun x H1=>∃a,x=.ref a∧GK H1 a∧ty σ H1 fun y H2=>tx σ H2 fun z H3=>∃o,uu H3 a y o∧Q (o.getD z) H3
noncomputable def HD (td ty:TE):TE:=fun σ H Q=>td σ H fun x H1=>∃a,x=.ref a∧GK H1 a∧ty σ H1 fun y H2=>∃kvs k v,H2 a=some (.dK kvs)∧y=kV k∧pj kvs k=some v∧Q v (upd H2 a (.dK (Q5 kvs k)))
noncomputable def HC (td ty tx:TE):TE:=fun σ H Q=>td σ H fun x H1=>∃a,x=.ref a∧GK H1 a∧ty σ H1 fun y H2=>tx σ H2 fun z H3=>∃kvs k,H3 a=some (.dK kvs)∧y=kV k∧
 (∀v,pj kvs k=some v→Q v (upd H3 a (.dK (Q5 kvs k))))∧(pj kvs k=none→Q z H3)
section
variable {X:Cx} {o e f:Expr} {apos cpos:Pos} {td ty tx:TE}
end
section
variable {X:Cx} {pins:List (Addr × Obj)} {σ:St} {H:Hp} {s:Shared} {a:Addr} {kvs:List (Key × V)} {A:Around} {E:Value→Shared→Prop}
end
section
variable {X:Cx} {pins:List (Addr × Obj)} {σ:St} {H:Hp} {s:Shared} {a:Addr} {y:V} {u:Value} {A:Around} {E:Value→Shared→Prop}
end
end L2
namespace L2
open PySem PySem.Spec PyProof.Rows
section
variable {X:Cx}
end
section
variable {κ:Type} [DecidableEq κ]
end
end L2
namespace L2
open PySem PySem.Spec PyProof.Rows
section
variable {X:Cx}
theorem Kb {pos:Pos}:PE X (.Dict [] [] pos) (fun _ H Q=>Nw H (.dK []) Q):=JL.mono fun _ _ _ q=>q.el
theorem sj (hu:X.A.units + 1 < cLine):XS X (fun o i v H Q=>∃a kvs k,o=.ref a∧i=kV k∧H a=some (.dK kvs)∧kvs.length < sizeLine∧Ch H a (.dK (putK kvs k v)) Q):=by
 intro pins s σ H o i v ov iv u Q I ro ri rv h
 obtain⟨a,kvs,k,rfl,rfl,e,l,q⟩:=h
 cases ro
 exact ZD hu I (ZX.k e l) ri rv fun s' I'=>⟨_,I',q.el⟩
end
end L2
namespace L2
open PyProof.Rows PySem PySem.Spec
section
variable {w:World} {A:Around} {E:Value→Shared→Prop} {s:Shared} {prog:Program}
end
noncomputable def oj:List Str→List Str→Nat
 | _,[]=>0
 | seen,z :: r=>(if z∈seen then 0 else 1) + oj (z :: seen) r
section
variable {w:World} {A:Around} {E:Value→Shared→Prop} {prog:Program}
theorem eB {K:Type} [DecidableEq K] {knd:KeyKind prog w K} {h h':Heap} {a it:Addr} {S:K→Bool} {n:Nat} (x:Heap.SetOf knd h a S n) (hb:Heap.SameBut it h h') (hne:a≠it):Heap.SetOf knd h' a S n:=by
 obtain⟨o,es,ep,t,ho,r⟩:=x
 exact⟨o,es,ep,t,(hb.2 a hne).trans ho,r⟩
theorem Xz {K:Type} [DecidableEq K] {knd:KeyKind prog w K} {h:Heap} {a:Addr} {S S':K→Bool} {n:Nat} (x:Heap.SetOf knd h a S n) (e:∀y,S' y=S y):Heap.SetOf knd h a S' n:=by
 have:S'=S:=funext e
 rw[this];exact x
theorem Xq {a it l : Addr} {items : Array Value} (hh : A.handled = none) (hia : it ≠ a) (hli : l ≠ it) (hla : l ≠ a) : ∀ (rest : List Str) (i : Nat) (s : Shared) (seen : List Str) (n : Nat) (R : Result → Shared → Prop), s.heap.IsListIter it l i → s.heap.IsList l items → items.size = i + rest.length → (∀ (j : Nat) (z : Str), rest[j]? = some z → ∃ t, items[i + j]? = some (.str z t)) →
    s.heap.SetOf (strKind prog w) a (fun y => decide (y ∈ seen)) n → n + rest.length < 1000 →
    (∀ h' tk S', (∀ b o, b ≠ it → b ≠ a → s.heap.get? b = some o → h'.get? b = some o) → h'.SetOf (strKind prog w) a S' (n + oj seen rest) → R (.ok (.ret .none)) { s with heap := h', toks := tk }) →
    codeAny (model prog w) A (.builtin "set.update.loop" ⟨[.ref a, .ref it], []⟩) R s := by
  intro rest
  induction rest with
  | nil =>
    intro i s seen n R h1 h2 h3 h4 h5 h6 k
    refine codeAny_builtin F.entry_set_update_loop ?_
    show wpAny _ _ (pyNext (.ref it) >>= _) _ _ s
    refine wpAny_bind (wpAny_pyNext_list_end ?_ h1 h2 (by rw [Array.getElem?_eq_none_iff]; simp at h3; omega) fun h' hx => ?_)
    · exact hh
    · refine wpAny_pure (k h' s.toks (fun y => decide (y ∈ seen)) (fun b o hb _ e => hx b o hb e) ?_)
      obtain ⟨o, es, ep, t, ho, q⟩ := h5
      exact ⟨o, es, ep, t, hx _ _ (Ne.symm hia) ho, q⟩
  | cons z r ih =>
    intro i s seen n R h1 h2 h3 h4 h5 h6 k
    obtain ⟨t, ht⟩ := h4 0 z rfl
    refine codeAny_builtin F.entry_set_update_loop ?_
    show wpAny _ _ (pyNext (.ref it) >>= _) _ _ s
    refine wpAny_bind (wpAny_pyNext_list_item h1 h2 ht fun h' hi' hb => ?_)
    dsimp only
    unfold setAdd
    refine wpAny_bind (wpAny_holding (wpAny_holding (wpAny_bind ((strKind prog w).pyHash (strKind_is prog w z t) ?_))))
    have h5' := eB h5 hb (Ne.symm hia)
    have hl' : h'.IsList l items := by
      obtain ⟨o, ho, q⟩ := h2
      exact ⟨o, (hb.2 l hli).trans ho, q⟩
    refine wpAny_setAddHashed_of (s := { s with heap := h', toks := s.toks + 1 }) (strKind_is prog w z t) rfl h5' (by simp only [List.length_cons] at h6; unfold scanBound; omega) fun h2' hb2 h52 => ?_
    refine wpAny_pure ⟨Code.quiet_builtin _ (by decide +kernel), ?_⟩
    have hl2 : h2'.IsList l items := by
      obtain ⟨o, ho, q⟩ := hl'
      exact ⟨o, (hb2.2 l hla).trans ho, q⟩
    have hi2 : h2'.IsListIter it l (i + 1) := by
      obtain ⟨o, ho, q⟩ := hi'
      exact ⟨o, (hb2.2 it hia).trans ho, q⟩
    have h53 : h2'.SetOf (strKind prog w) a (fun y => decide (y ∈ z :: seen)) (n + if z ∈ seen then 0 else 1) := by
      have e : (if decide (z ∈ seen) = true then n else n + 1) = n + if z ∈ seen then 0 else 1 := by by_cases q : z ∈ seen <;> simp [q]
      rw [← e]
      exact Xz h52 fun y => by by_cases q : y = z <;> by_cases q' : y ∈ seen <;> simp [q, q']
    refine ih (i + 1) { s with heap := h2', toks := s.toks + 1 } (z :: seen) _ R hi2 hl2 (by simp only [List.length_cons] at h3; omega) (fun j y hj => ?_) h53 ?_ fun h3' tk S' q1 q2 => ?_
    · obtain ⟨t', ht'⟩ := h4 (j + 1) y (by simpa using hj)
      exact ⟨t', by rw [← ht']; congr 1; omega⟩
    · simp only [List.length_cons] at h6
      split <;> omega
    · refine k h3' tk S' (fun b o b1 b2 e => q1 b o b1 b2 ((hb2.2 b b2).trans ((hb.2 b b1).trans e))) ?_
      rw [show n + oj seen (z :: r) = n + (if z ∈ seen then 0 else 1) + oj (z :: seen) r by simp only [oj]; omega]
      exact q2
set_option maxHeartbeats 1000001 in
theorem Qy {s : Shared} {a l : Addr} {led : Bool} {items : Array Value} {zs : List Str} {Q : Fin → Shared → Prop} (hh : A.handled = none) (ha : s.heap.get? a = some { cls := .type "set", dict := none, data := .set #[] 0 (.fresh 0 0 led) }) (hl : s.heap.IsList l items) (hz : items.size = zs.length) (hi : ∀ (j : Nat) (z : Str), zs[j]? = some z → ∃ t, items[j]? = some (.str z t)) (hn : zs.length < 1000) (hla : l ≠ a)
    (h : ∀ h' tk S', (∀ b o, b ≠ a → s.heap.get? b = some o → h'.get? b = some o) → h'.SetOf (strKind prog w) a S' (oj [] zs) → Q (.done (.ret .none)) { s with heap := h', toks := tk }) : wpAny (model prog w) A (Builtin.«set.__init__» ⟨[.ref a, .ref l], []⟩) Q E s := by
  have hT : Shared.TypeIs s (.ref a) "set" := ⟨_, ha, rfl⟩
  unfold Builtin.«set.__init__» noKeywords
  obtain ⟨ol, hol, hcl, nl, hdl⟩ := id hl
  have hTl : Shared.TypeIs s (.ref l) "list" := ⟨ol, hol, hcl⟩
  wp_walk
  refine wpAny_of_eq F.sub_list_set (wpAny_isInstance hTl F.sub_list_frozenset ?_)
  (rw [if_neg Bool.false_ne_true])
  refine wpAny_bind (wpAny_typeOf hTl ?_)
  rw [if_neg (by decide)]
  refine wpAny_bind (wpAny_pyIter_list hl ?_)
  generalize hoi : ({ cls := .type "list_iterator", data := .fields #[.ref l, .int 0 0] } : Obj) = oi
  show wpAny _ _ (runValue (.builtin "set.update.loop" ⟨[.ref a, .ref s.heap.objs.size], []⟩) >>= _) _ _ { s with heap := s.heap.push oi }
  have sa : a < s.heap.objs.size := Heap.lt_size ha
  have sl : l < s.heap.objs.size := Heap.lt_size hol
  have k0 : ∀ b o, s.heap.get? b = some o → (s.heap.push oi).get? b = some o := fun b o e => Heap.get?_push_of_some _ e
  refine wpAny_bind (wpAny_runValue (Xq hh (Nat.ne_of_gt sa) (Nat.ne_of_lt sl) hla zs 0 { s with heap := s.heap.push oi } [] 0 _ ?_ ⟨ol, k0 _ _ hol, hcl, nl, hdl⟩ (by omega) (fun j z e => by simpa using hi j z e) ⟨_, #[], 0, _, k0 _ _ ha, ⟨rfl, rfl, rfl⟩, rfl, fun e he => by simp at he, fun y => by simp, by unfold scanBound; simp, rfl, rfl⟩ (by omega) fun h' tk S' q1 q2 => ?_))
  · exact ⟨oi, Heap.get?_push_size _ (by rw [← hoi]; rfl), by rw [← hoi], by rw [← hoi]; rfl⟩
  · refine wpAny_pure (wpAny_pure (h h' tk S' (fun b o hb e => q1 b o (Nat.ne_of_lt (Heap.lt_size e)) hb (k0 b o e)) ?_))
    rw [Nat.zero_add] at q2; exact q2
set_option maxHeartbeats 1000001 in
/-- what a call may come to: a value, or an exception -/
theorem wants_or {Q : Value → Shared → Prop} {E : Value → Shared → Prop} {r : Result} {s : Shared} (h : wants Q E r s) : (∃ v, r = .ok (.ret v) ∧ Q v s) ∨ ∃ e, r = .error e ∧ E e s := by
  rcases r with e | f
  · exact .inr ⟨e, rfl, h⟩
  · cases f <;> first | exact .inl ⟨_, rfl, h⟩ | exact h.elim
set_option maxHeartbeats 1000001 in
theorem ZP {s : Shared} {l : Addr} {items : Array Value} {zs : List Str} {Q : Value → Shared → Prop} (hh : A.handled = none) (hl : s.heap.IsList l items) (hz : items.size = zs.length) (hi : ∀ (j : Nat) (z : Str), zs[j]? = some z → ∃ t, items[j]? = some (.str z t)) (hn : zs.length < 1000)
    (h : ∀ h' tk a S', s.heap.objs.size ≤ a → (∀ b o, s.heap.get? b = some o → h'.get? b = some o) → h'.SetOf (strKind prog w) a S' (oj [] zs) → Q (.ref a) { s with heap := h', toks := tk }) : wpAny (model prog w) A (call (.type "set") [.ref l]) Q E s := by
  have C := F.called_set
  obtain ⟨_, _, m⟩ := C.mro
  obtain ⟨c1, c2, c3, c4, c5⟩ : _ ∧ _ ∧ _ ∧ _ ∧ _ := ⟨C.made, C.sub, C.notType, C.canCreate, F.typeCall_set_1 (.ref l)⟩
  have up : ∀ {o : Obj} {b : Addr} {u : Obj}, s.heap.get? b = some u → (s.heap.push o).get? b = some u := fun e => Heap.get?_push_of_some _ e
  have lo : ∀ {b : Addr} {u : Obj}, s.heap.get? b = some u → b ≠ s.heap.objs.size := fun e => Nat.ne_of_lt (Heap.lt_size e)
  obtain ⟨ol, gl, dl⟩ := hl
  refine wpAny_call (codeAny_of_tree (?_ : wpAny _ _ (callAny (.type "set") _) _ _ _))
  refine wpAny_pure ⟨Code.quiet_builtin _ (by decide +kernel), codeAny_builtin F.entry_type_call (Around.under_plain (weight_type_call_type "set" [.ref l] []) rfl ▸ ?_)⟩
  repeat any_goals first | assumption | wp_step
  refine codeAny_mono (code_set_new_1 _ (E := E) (Q₁ := fun v s1 => v = .ref s.heap.objs.size ∧ ∃ led, s1 = { s with heap := s.heap.push { cls := .type "set", data := .set #[] 0 (.fresh 0 0 led) } }) fun led => ⟨rfl, led, rfl⟩) fun r s1 hr => ?_
  rcases wants_or hr with ⟨_, rfl, rfl, led, rfl⟩ | ⟨_, rfl, he⟩
  · have g := Heap.get?_push_size s.heap (o := { cls := .type "set", data := .set #[] 0 (.fresh 0 0 led) }) rfl
    have ty : Shared.TypeIs { s with heap := s.heap.push _ } (.ref s.heap.objs.size) "set" := ⟨_, g, rfl⟩
    obtain ⟨c6, c7⟩ : _ ∧ _ := ⟨C.init.lookup, C.init.bind (.ref s.heap.objs.size)⟩
    repeat any_goals first | assumption | wp_step
    have run := Qy (s := { s with heap := s.heap.push _ }) (prog := prog) (w := w) (A := A.in1.in1) (E := E) (Q := fun f s2 => f = .done (.ret .none) ∧ Q (.ref s.heap.objs.size) s2) hh g ⟨ol, up gl, dl⟩ hz hi hn (lo gl) fun h' tk S' k1 k2 => ⟨rfl, h h' tk _ S' (Nat.le_refl _) (fun b u e => k1 b u (lo e) (up e)) k2⟩
    refine codeAny_mono (codeAny_call_builtin (R := wants (fun v s2 => v = .none ∧ Q (.ref s.heap.objs.size) s2) E) C.init.plain F.entry_set_init (check_set_init_1 ty (xf run fun f s2 ⟨e, q⟩ => e ▸ ⟨rfl, q⟩))) fun r s2 hr => ?_
    rcases wants_or hr with ⟨_, rfl, rfl, q⟩ | ⟨_, rfl, he⟩
    · repeat any_goals first | assumption | wp_step
    · exact he
  · exact he
end
end L2
namespace L2
open PyProof.Rows PySem PySem.Spec
noncomputable def Yl (P:Program) (w:World) (a:Addr) (n:Nat):HO:=.ext fun h=>∃S,Heap.SetOf (strKind P w) h a S n
theorem Yj {P:Program} {w:World} {H:Hp} {h:Heap} {a:Addr} {S:Str→Bool} {n:Nat} (x:Heap.SetOf (strKind P w) h a S n):xk P w H h a (Yl P w a n):=by
 have x':=x
 obtain⟨o,es,ep,t,ho,r⟩:=x'
 refine⟨⟨S,x⟩,⟨o,ho⟩,fun h1 h2 ⟨S',o',es',ep',t',ho',r'⟩ k=>⟨S',o',es',ep',t',k _ ho',r'⟩⟩
theorem Yq {P:Program} {w:World} {H:Hp} {h:Heap} {a:Addr} {n:Nat} (x:bp P w H h) (q:H a=some (Yl P w a n)):∃S,Heap.SetOf (strKind P w) h a S n:=(x a _ q).1
section
variable {X:Cx} {K:PySem.W.Frag}
theorem Kh (hK:X.K=K) (hc:X.calm=true):vw X (.type "set") (fun xs H Q=>∃p zs,xs=[.ref p]∧qL K H p (zs.map V.str)∧zs.length < 1000∧∀a,H a=none→Q (.ref a) (upd H a (Yl X.prog X.w a (oj [] zs)))):=by
 subst hK
 (intro pins s σ H xs us Q I r h)
 obtain⟨p,zs,rfl,hl,hn,k⟩:=h
 (obtain⟨u,rfl,ru⟩:=vals1 r)
 cases ru
 obtain⟨its,rv,⟨o,n,ho,hcl,_,hd⟩,_⟩:=I.list hl
 have hz:its.length=zs.length:=by rw[←rv.length,List.length_map]
 refine ZP (zs:=zs) (I.ok.hd hc) ⟨o,ho,hcl,n,hd⟩ (by simpa using hz) (fun j z e=>?_) hn fun h' tk a S' q1 q2 q3=>?_
 ·obtain⟨u,e1,⟨t,rfl⟩⟩:=rv.get (i:=j) (x:=.str z) (by rw[List.getElem?_map,e];rfl)
  exact⟨t,by simpa using e1⟩
 ·exact⟨.ref a,_,I.laid (a:=a) (o:=Yl X.prog X.w a (oj [] zs)) (h':=h') (t':=tk) q2 q1 (Yj q3),rfl,k a (I.jx.fresh q1)⟩
theorem ZG:vw X (.builtin "len") (fun xs H Q=>∃a n,xs=[V.ref a]∧H a=some (Yl X.prog X.w a n)∧Q (.int (n:Nat)) H):=by
 (intro pins s σ H xs us Q I r h)
 obtain⟨a,n,rfl,ha,q⟩:=h
 (obtain⟨u,rfl,ru⟩:=vals1 r)
 cases ru
 obtain⟨S,o,es,ep,t,ho,hex,hd,_,_,hb,hf,hn⟩:=Yq I.jx ha
 refine call_len_set ho hex hd hf (by have:es.size < 4096:=hb;omega) ?_
 rw[hn]
 exact⟨.int n,H,I.tok _,⟨_,rfl⟩,q⟩
end
end L2
namespace L2
theorem Q1:∀(seen zs:List PySem.Str),oj seen zs≤zs.length
 | _,[]=>Nat.le_refl _
 | seen,z :: r=>by
  have:=Q1 (z :: seen) r
  simp only[oj,List.length_cons]
  split<;>omega
theorem aB:∀(seen zs:List PySem.Str),oj seen zs=zs.length↔zs.Nodup∧∀z∈zs,z∉seen
 | _,[]=>by simp [oj]
 | seen,z :: r=>by
  have h1:=Q1 (z :: seen) r
  have h2:=aB (z :: seen) r
  simp only[oj,List.length_cons,List.nodup_cons,List.mem_cons]
  by_cases q:z∈seen
  ·rw[if_pos q]
   constructor
   ·intro e;omega
   ·rintro ⟨_,h⟩;exact absurd q (h z (.inl rfl))
  ·rw[if_neg q]
   constructor
   ·intro e
    obtain⟨a,b⟩:=h2.mp (by omega)
    refine⟨⟨fun hz=>(b z hz) (by simp),a⟩,?_⟩
    rintro y (rfl | hy)
    ·exact q
    ·exact fun hs=>b y hy (List.mem_cons_of_mem _ hs)
   ·rintro ⟨⟨a,b⟩,c⟩
    have:=h2.mpr ⟨b,fun y hy hs=>?_⟩
    ·omega
    ·rcases List.mem_cons.mp hs with rfl | hs
     ·exact a hy
     ·exact c y (.inr hy) hs
theorem V3 (zs:List PySem.Str):decide (((oj [] zs:Nat):Int)=(zs.length:Nat))=decide zs.Nodup:=by
 have:=aB [] zs
 rw[decide_eq_decide]
 constructor
 ·intro e;exact(this.mp (by omega)).1
 ·intro e;have:=this.mpr ⟨e,fun _ _ h=>by cases h⟩;omega
end L2
set_option maxRecDepth 100000
namespace My
open PySem PySem.Spec PyProof.Rows L2
seal PE PT PW PA PS iP PI PG Ym PO PC BB G8
local macro_rules | `(tactic| walk_at "lk")=>`(tactic| first | assumption | exact qm | exact YD (by assumption) (by walk_at "sm") | (refine qp.look (by assumption) ?_;walk_at "lk"))
local macro_rules | `(tactic| walk_at "sq")=>`(tactic| first | assumption | exact qL.of (by walk_at "lk") | exact W8 (by assumption) (by walk_at "sm"))
local macro_rules | `(tactic| walk_at "sqT")=>`(tactic| first | assumption | exact yc.of (by walk_at "lk") | exact seqTS (by assumption) (by walk_at "sm"))
local macro_rules | `(tactic| walk_at "sm")=>`(tactic| first | assumption | exact qp.refl _ | (refine qp.trans ?_ (by assumption);walk_at "sm"))
local macro_rules | `(tactic| walk_at "sz")=>`(tactic| first | with_reducible assumption | with_reducible exact Ks | ((with_reducible apply XA)<;>walk_at "sz") | ((with_reducible apply slice_len);walk_at "sz") | with_reducible exact Jc _)
local macro_rules | `(tactic| walk_at "num")=>`(tactic| first | decide +kernel | omega | (simp only[List.length_cons,List.length_nil];omega))
local macro_rules | `(tactic| walk_at "lsz")=>`(tactic| first
 | ((with_reducible apply VE);(focus walk_at "sz");(focus walk_at "sz");walk_at "num")
 | ((with_reducible apply qv);first | decide +kernel | (simp only[List.length_cons,List.length_nil,List.length_map,List.length_append];omega))
 | ((with_reducible apply small_of);(focus walk_at "sz");walk_at "num"))
local macro_rules | `(tactic| walk_at "ar")=>`(tactic| first
 | walk_at "lsz"
 | omega
 | (refine And.intro ?_ ?_<;>omega)
 | (refine Or.inl (And.intro ?_ ?_)<;>omega)
 | (refine Or.inr (And.intro ?_ ?_)<;>omega)
 | decide +kernel
 | (show (0:Int) < _;decide +kernel)
 | (show (0:Int) < _;omega)
 | (refine And.intro ?_ (And.intro ?_ ?_)<;>decide +kernel))
local macro_rules | `(tactic| walk_at "lsl")=>`(tactic| first
 | exact d8 (by simp only[List.length_cons,List.length_nil,List.length_map,List.length_append];omega)
 | exact d8 (by omega))
local macro_rules | `(tactic| walk_at "own")=>`(tactic| fail)
local macro_rules | `(tactic| walk_at "fld")=>`(tactic| fail)
local macro_rules | `(tactic| walk_at "r1")=>`(tactic| (fail_if_success (refine Exists.intro (α:=Nat→Nat→L2.St→Hp→Prop) ?_ ?_));first
 | refine⟨_,rfl,?_⟩
 | refine⟨_,(by walk_at "fld" : VU _ _ _ _ _),?_⟩
 | refine⟨_,_,rfl,rfl,?_⟩
 | refine⟨_,_,_,_,rfl,rfl,by walk_at "sq",QD (by walk_at "num") (by walk_at "num"),?_⟩
 | refine⟨_,_,_,_,rfl,rfl,by walk_at "sq",gH (by walk_at "num") (by walk_at "num"),?_⟩
 | refine⟨_,_,_,_,rfl,rfl,by walk_at "sqT",rfl,?_⟩
 | refine⟨_,_,rfl,.inr (by walk_at "sqT"),rfl,rfl,?_⟩
 | refine⟨_,_,rfl,.inl (by walk_at "sq"),rfl,rfl,?_⟩
 | refine⟨_,_,_,rfl,rfl,by walk_at "lsz",QU (by omega) (by omega),?_⟩
 | refine⟨_,_,_,rfl,rfl,by walk_at "lk",by walk_at "lsl",?_⟩
 | refine⟨_,_,rfl,by walk_at "sq",?_⟩
 | refine⟨_,_,rfl,by walk_at "sqT",rfl,?_⟩
 | (refine And.intro ?_ ?_;· (apply Exists.intro;walk_at "sq"))
 | (refine And.intro (Or.inl (And.intro rfl ?_)) ?_;· (apply Exists.intro;walk_at "sq"))
 | refine⟨_,_,rfl,?_⟩
 | refine⟨_,_,_,rfl,?_⟩
 | refine And.intro rfl ?_
 | (refine And.intro ?_ ?_;· assumption)
 | refine⟨_,_,.type "bool",true,rfl,.inl ⟨_,rfl⟩,bc.bl _,m6 _ _,?_⟩
 | refine⟨_,_,.type "str",true,rfl,.inl ⟨_,rfl⟩,bc.str _,m6 _ _,?_⟩
 | refine⟨_,_,.type "int",true,rfl,.inl ⟨_,rfl⟩,bc.int _,m6 _ _,?_⟩
 | refine⟨_,_,.type "list",true,rfl,.inl ⟨_,rfl⟩,bc.lst (by walk_at "lk"),m6 _ _,?_⟩
 | (refine And.intro ?_ ?_;· walk_at "ar")
 | refine fG ?_
 | refine tf ?_
 | refine YF rfl ?_)
local macro_rules | `(tactic| walk_at "rd")=>`(tactic| repeat (first | walk_at "own" | walk_at "r1"))
local macro_rules | `(tactic| walk_at "rdi")=>`(tactic| repeat (first | walk_at "own" | walk_at "r1" | ((show Nw _ _ _);intro _ _ _ _ _)))
set_option genInjectivity false
set_option genSizeOf false
noncomputable def top (i:Nat):Stmt:=PySem.Challenge.pw_pactway_k26_names_told_twice.main.body.getD i (.Pass ⟨0,0,0,0⟩)
noncomputable abbrev jS:Stmt:=inClass (top 3) 0
noncomputable abbrev jL:Stmt:=inClass (top 15) 0
noncomputable abbrev jG:Stmt:=inClass (top 15) 6
noncomputable abbrev xi:Stmt:=inClass (top 16) 0
noncomputable abbrev xx:Stmt:=inClass (top 16) 4
noncomputable abbrev x9:Stmt:=inClass (top 18) 0
noncomputable abbrev j9:Stmt:=inClass (top 19) 0
noncomputable abbrev kz:Stmt:=inClass (top 21) 0
noncomputable abbrev xZ:Stmt:=inClass (top 22) 0
noncomputable abbrev xa:Stmt:=inClass (top 23) 0
noncomputable abbrev xQ:Stmt:=top 30
noncomputable abbrev jN:Stmt:=top 31
noncomputable abbrev qA:Stmt:=top 32
noncomputable abbrev xq:Stmt:=top 36
noncomputable abbrev jl:Stmt:=top 37
noncomputable abbrev xX:Stmt:=top 38
noncomputable abbrev kj:Stmt:=top 39
noncomputable abbrev xJ:Stmt:=top 40
noncomputable abbrev jT:Stmt:=top 41
noncomputable abbrev jt:Stmt:=top 42
noncomputable abbrev ja:Stmt:=top 43
noncomputable abbrev wt:Stmt:=top 50
noncomputable abbrev jZ:Stmt:=top 51
noncomputable abbrev jO:Stmt:=top 52
noncomputable abbrev jc:Stmt:=top 53
noncomputable abbrev jQ:Stmt:=top 54
noncomputable abbrev xo:Stmt:=inClass (top 55) 0
noncomputable abbrev jg:Stmt:=inClass (top 55) 1
noncomputable abbrev j8:Stmt:=inClass (top 55) 2
noncomputable abbrev jk:Stmt:=inClass (top 55) 3
noncomputable abbrev jv:Stmt:=inClass (top 55) 4
noncomputable abbrev qS:Stmt:=inClass (top 55) 5
noncomputable abbrev jR:Stmt:=inClass (top 55) 6
noncomputable abbrev jU:Stmt:=inClass (top 55) 7
noncomputable abbrev xK:Stmt:=top 57
noncomputable abbrev yX:Stmt:=top 58
noncomputable abbrev wo:Stmt:=top 59
noncomputable abbrev xU:Stmt:=top 60
noncomputable abbrev kx:Stmt:=top 61
noncomputable abbrev ky:Stmt:=top 62
noncomputable abbrev yK:Stmt:=top 63
noncomputable abbrev vd:Stmt:=top 64
noncomputable abbrev xV:Stmt:=top 65
noncomputable abbrev jJ:Stmt:=top 66
noncomputable abbrev k7:Stmt:=top 67
noncomputable abbrev q9:Stmt:=top 68
noncomputable abbrev jz:Stmt:=top 69
noncomputable abbrev jX:Stmt:=top 70
noncomputable abbrev yV:Stmt:=top 71
noncomputable abbrev vn:Stmt:=top 72
structure Def (K:PySem.W.Frag) (mg:Str→Option Value) (x:Str) (st:Stmt) (ps:List Str) (f:Addr) (fd:FuncData):Prop where
 fn:XU K x x st f fd
 bd:Binds K fd ps []
 mg:mg x=some (.ref f)
structure pz (K:PySem.W.Frag) (x q:Str) (st:Stmt) (ps:List Str) (f:Addr) (fd:FuncData):Prop where
 fn:XU K x q st f fd
 bd:Binds K fd ps []
structure xj where
 xH:Addr
 kf:FuncData
 qE:Addr
 xG:FuncData
 bO:Addr
 bN:FuncData
 vV:Addr
 gk:FuncData
 fF:Addr
 fP:FuncData
 wW:Addr
 bo:FuncData
 kS:Addr
 yo:FuncData
 yD:Addr
 bZ:FuncData
 kW:Addr
 vX:FuncData
 yq:Addr
 gv:FuncData
 vW:Addr
 vK:FuncData
 vp:Addr
 vg:FuncData
 xM:Addr
 xF:FuncData
 ya:Addr
 yi:FuncData
 vb:Addr
 vy:FuncData
 gb:Addr
 gy:FuncData
 bV:Addr
 bQ:FuncData
 gh:Addr
 gw:FuncData
 wR:Addr
 wD:FuncData
 kd:Addr
 km:FuncData
 vO:Addr
 vR:FuncData
 mT:Addr
 mU:FuncData
 vI:Addr
 vL:FuncData
 vf:Addr
 vh:FuncData
 vE:Addr
 vS:FuncData
 vA:Addr
 vT:FuncData
 yz:Addr
 gx:FuncData
 kL:Addr
 wV:FuncData
 ye:Addr
 ba:FuncData
 ku:Addr
 vC:FuncData
 kr:Addr
 vU:FuncData
 xB:Addr
 vj:FuncData
 wU:Addr
 gX:FuncData
 wC:Addr
 gJ:FuncData
 yj:Addr
 w6:FuncData
 bG:Addr
 bK:FuncData
 mN:Addr
 mR:FuncData
 fc:Addr
 fg:FuncData
 bW:Addr
 bJ:FuncData
 bY:Addr
 bX:FuncData
 cI:Addr
 cN:FuncData
 mO:Addr
 mL:FuncData
 gp:Addr
 gg:FuncData
 kY:Addr
 kK:FuncData
 fu:Addr
 fh:FuncData
 kT:Addr
 kU:FuncData
 kN:Addr
 kR:FuncData
 v8:Addr
 vN:FuncData
 cE:Addr
 cO:FuncData
 mS:Addr
 cT:FuncData
 pZ:Addr
 qO:Addr
 mP:Addr
 bu:Addr
 mB:Addr
 fv:Addr
 mG:Addr
 fk:Addr
 mF:Addr
 br:Addr
 cS:Addr
 Vw:Addr
 kg:Addr
 yF:Addr
 vc:Addr
 pe:Addr
 vD:Addr
 mH:Addr
 jI:Addr
 xu:Addr
 qN:Addr
 uY:Addr
 m5:Addr
noncomputable def gd:List Str:=["acts","any","be","by","calm","done","else","end","in","let","may","must","not","part","parties","rest","sore","to","whole"]
noncomputable def xy:List Str:=["calm","sore","end"]
noncomputable abbrev qT:Str:="abcdefghijklmnopqrstuvwxyz"
noncomputable abbrev kO:Str:="0123456789"
structure Txt (K:PySem.W.Frag) (mg:Str→Option Value) (t:xj):Prop where
 xS:pz K "__init__" "NoText.__init__" jS ["self","row"] t.xH t.kf
 vQ:pz K "__init__" "Clause.__init__" jL ["self","label","who","act"] t.qE t.xG
 rT:pz K "number" "Clause.number" jG ["self"] t.bO t.bN
 dF:pz K "__init__" "Duty.__init__" xi ["self","label","who","act","turns","room"] t.vV t.gk
 nH:pz K "number" "Duty.number" xx ["self"] t.fF t.fP
 uc:pz K "__init__" "Ban.__init__" x9 ["self","label","who","act","room"] t.wW t.bo
 mq:pz K "__init__" "Power.__init__" j9 ["self","label","who","act","room"] t.kS t.yo
 ur:pz K "__init__" "Let.__init__" kz ["self","name","value"] t.yD t.bZ
 yW:pz K "__init__" "Part.__init__" xZ ["self","name","rooms","rows"] t.kW t.vX
 dM:pz K "__init__" "Pact.__init__" xa ["self","parties","acts","rooms","whole"] t.yq t.gv
 j4:Def K mg "is_name" xQ ["word"] t.vW t.vK
 xA:Def K mg "number_of" jN ["word"] t.vp t.vg
 jA:Def K mg "written_with" qA ["word","signs","most"] t.xM t.xF
 y9:Def K mg "names_of" xq ["row","word","most"] t.ya t.yi
 xE:Def K mg "are_names" jl ["words","most"] t.vb t.vy
 bg:Def K mg "room_of" xX ["row"] t.gb t.gy
 p8:Def K mg "let_of" kj ["row"] t.bV t.bQ
 bw:Def K mg "part_of" xJ ["row"] t.gh t.gw
 yf:Def K mg "clause_of" jT ["row"] t.wR t.wD
 qU:Def K mg "fits_form" jt ["words","form"] t.kd t.km
 we:Def K mg "fits_place" ja ["word","place"] t.vO t.vR
 rH:Def K mg "read" wt ["text"] t.mT t.mU
 xW:Def K mg "read_names" jZ ["rows","number","word","most","taken"] t.vI t.vL
 x6:Def K mg "told_once" jO ["names"] t.vf t.vh
 wa:Def K mg "read_rooms" jc ["rows","taken"] t.vE t.vS
 wZ:Def K mg "read_whole" jQ ["rows","start"] t.vA t.vT
 dP:pz K "__init__" "Body.__init__" xo ["self"] t.yz t.gx
 kJ:pz K "many_open" "Body.many_open" jg ["self"] t.kL t.wV
 mz:pz K "takes" "Body.takes" j8 ["self","row"] t.ye t.ba
 ym:pz K "takes_done" "Body.takes_done" jk ["self"] t.ku t.vC
 yd:pz K "takes_head" "Body.takes_head" jv ["self","head"] t.kr t.vU
 vM:pz K "takes_clause" "Body.takes_clause" qS ["self","clause"] t.xB t.vj
 wA:pz K "put_in" "Body.put_in" jR ["self","row"] t.wU t.gX
 gq:pz K "closed" "Body.closed" jU ["self"] t.wC t.gJ
 ju:Def K mg "_law_cell_at" xK ["_law_script","_law_k"] t.yj t.w6
 jm:Def K mg "_law_mix" yX ["_law_cell","_law_k"] t.bG t.bK
 rM:Def K mg "_law_name" wo ["_law_cell","_law_k"] t.mN t.mR
 dH:Def K mg "_law_event" xU ["_law_names","_law_cell","_law_label","_law_depth"] t.fc t.fg
 p9:Def K mg "_law_events" kx ["_law_names","_law_script"] t.bW t.bJ
 fz:Def K mg "_law_header" ky ["_law_names","_law_cell"] t.bY t.bX
 iV:Def K mg "_law_row" yK ["_law_event_here"] t.cI t.cN
 kM:Def K mg "_law_rows" vd ["_law_header_here","_law_events_here"] t.mO t.mL
 bh:Def K mg "_law_no_text" xV ["_law_e"] t.gp t.gg
 qG:Def K mg "_law_refused_at" jJ ["_law_text"] t.kY t.kK
 dB:Def K mg "_law_named" k7 ["_law_event_here","_law_name_here"] t.fu t.fh
 kD:Def K mg "_law_twice_header" q9 ["_law_header_here","_law_first","_law_second"] t.kT t.kU
 kC:Def K mg "_law_twice_labels" jz ["_law_events_here","_law_first","_law_second"] t.kN t.kR
 xY:Def K mg "_law_two_faults" jX ["_law_rows_here","_law_row_here","_law_cell"] t.v8 t.vN
 cY:Def K mg "_law_two" yV ["_law_cell","_law_many"] t.cE t.cO
 Xa:Def K mg "law" vn ["_law_script"] t.mS t.cT
 mv:mg "list" = none
 xw:mg "len" = none
 wF:mg "range" = none
 aQ:mg "all" = none
 cx:mg "int" = none
 Vk:mg "str" = none
 jj:mg "isinstance" = none
 QL:mg "bool" = none
 Vj:mg "min" = none
 Vv:mg "zip" = none
 mY:mg "ValueError" = none
 Vx:mg "set" = none
 Jj:mg "KEPT" = some (.ref t.uY)
 lM:∃tk,mg "LETTERS" = some (.str "abcdefghijklmnopqrstuvwxyz" tk)
 lF:∃tk,mg "FIGURES" = some (.str "0123456789" tk)
 pX:∃tk,mg "MOST_LETTERS" = some (.int 8 tk)
 pJ:∃tk,mg "MOST_FIGURES" = some (.int 20 tk)
 aN:mg "MARKS" = some (.ref t.m5)
 bH:∃tk,mg "MOST_ROOMS" = some (.int 12 tk)
 pK:∃tk,mg "MOST_PARTIES" = some (.int 4 tk)
 cb:∃tk,mg "MOST_ACTS" = some (.int 6 tk)
 cm:∃tk,mg "MOST_ROWS" = some (.int 90 tk)
 cf:∃tk,mg "MOST_OPEN" = some (.int 6 tk)
 wz:∃tk,mg "FIRST_ROOM" = some (.int 2 tk)
 cn:mg "PactError" = some (.ref t.pZ)
 yv:mg "NoText" = some (.ref t.qO)
 oV:mg "NoName" = some (.ref t.mP)
 uB:mg "CalmRoom" = some (.ref t.bu)
 oK:mg "NoDeed" = some (.ref t.mB)
 lO:mg "TooMany" = some (.ref t.fv)
 oX:mg "Breach" = some (.ref t.mG)
 lN:mg "NoStand" = some (.ref t.fk)
 oW:mg "NoPair" = some (.ref t.mF)
 uF:mg "NoChange" = some (.ref t.br)
 Zk:mg "NoRow" = some (.ref t.cS)
 YC:mg "Row" = some (.ref t.Vw)
 uP:mg "Clause" = some (.ref t.kg)
 Js:mg "Duty" = some (.ref t.yF)
 tu:mg "Leave" = some (.ref t.vc)
 Vm:mg "Ban" = some (.ref t.pe)
 Zv:mg "Power" = some (.ref t.vD)
 Vd:mg "Let" = some (.ref t.mH)
 uM:mg "Part" = some (.ref t.jI)
 Jt:mg "Pact" = some (.ref t.xu)
 Jl:mg "Body" = some (.ref t.qN)
 JW:∃(o:Obj) (its:Array Value) (n:Nat),K.lookup t.uY=some o∧o.cls=.type "tuple"∧o.data=.seq its n∧its.size≤sizeLine∧Vals (gd.map V.str) its.toList
 Zb:∃(o:Obj) (its:Array Value) (n:Nat),K.lookup t.m5=some o∧o.cls=.type "tuple"∧o.data=.seq its n∧its.size≤sizeLine∧Vals (xy.map V.str) its.toList
 lG:cR K t.kg
 fU:qH K t.kg "act"
 bE:qH K t.kg "label"
 pY:qH K t.kg "room"
 bA:qH K t.kg "turns"
 fR:qH K t.kg "who"
 lI:Mk K t.kg t.qE
 aV:cR K t.yF
 cQ:qH K t.yF "act"
 fL:qH K t.yF "label"
 dz:qH K t.yF "room"
 fS:qH K t.yF "turns"
 cJ:qH K t.yF "who"
 tZ:Mk K t.yF t.vV
 nO:cR K t.vc
 dq:qH K t.vc "act"
 pG:qH K t.vc "label"
 fT:qH K t.vc "room"
 pH:qH K t.vc "turns"
 dj:qH K t.vc "who"
 uC:Mk K t.vc t.qE
 QO:cR K t.pe
 uR:qH K t.pe "act"
 m8:qH K t.pe "label"
 cZ:qH K t.pe "room"
 m9:qH K t.pe "turns"
 uL:qH K t.pe "who"
 ez:Mk K t.pe t.wW
 nI:cR K t.vD
 dy:qH K t.vD "act"
 pB:qH K t.vD "label"
 fE:qH K t.vD "room"
 pP:qH K t.vD "turns"
 dg:qH K t.vD "who"
 uU:Mk K t.vD t.kS
 iM:cR K t.mH
 cX:qH K t.mH "name"
 dk:qH K t.mH "value"
 JZ:Mk K t.mH t.yD
 bt:cR K t.jI
 yZ:qH K t.jI "name"
 gK:qH K t.jI "rooms"
 dw:qH K t.jI "rows"
 m7:Mk K t.jI t.kW
 mC:cR K t.xu
 dv:qH K t.xu "acts"
 b7:qH K t.xu "parties"
 fN:qH K t.xu "rooms"
 fO:qH K t.xu "whole"
 Zg:Mk K t.xu t.yq
 jH:cR K t.qN
 kH:qH K t.qN "bodies"
 wL:qH K t.qN "heads"
 yE:qH K t.qN "labels"
 Zy:Mk K t.qN t.yz
 kn:Meth K t.qN "many_open" t.kL
 fD:Meth K t.qN "takes" t.ye
 yO:Meth K t.qN "takes_done" t.ku
 yI:Meth K t.qN "takes_head" t.kr
 yw:Meth K t.qN "takes_clause" t.xB
 wx:Meth K t.qN "put_in" t.wU
 yN:Meth K t.qN "closed" t.wC
 si:Vq K t.qO
 mV:GG K t.qO
 vP:Hz K t.qO t.xH
 vm:qH K t.qO "row"
 yt:PySem.W.exmOne K (.ref t.qO) (.ref t.pZ)=some true
 dD:QG K t.kg "__init__" t.qE
 nE:QG K t.vc "__init__" t.qE
 gT:PySem.W.kitOne K (.ref t.qO) (.ref t.mP)=some false
 yL:PySem.W.kitOne K (.ref t.qO) (.ref t.bu)=some false
 gS:PySem.W.kitOne K (.ref t.qO) (.ref t.mB)=some false
 gm:PySem.W.kitOne K (.ref t.qO) (.ref t.fv)=some false
 gL:PySem.W.kitOne K (.ref t.qO) (.ref t.mG)=some false
 gf:PySem.W.kitOne K (.ref t.qO) (.ref t.fk)=some false
 gN:PySem.W.kitOne K (.ref t.qO) (.ref t.mF)=some false
 yS:PySem.W.kitOne K (.ref t.qO) (.ref t.br)=some false
 bI:PySem.W.kitOne K (.ref t.qO) (.ref t.cS)=some false
 gO:PySem.W.kitOne K (.ref t.qO) (.ref t.qO)=some true
 yk:PySem.W.kitOne K (.ref t.qO) (.type "ValueError")=some true
 cc:PySem.W.kitOne K (.type "int") (.type "bool")=some false
section
variable {P:Program} {w:World} {K:PySem.W.Frag} {mg:Str→Option Value} {base:Heap} {t:xj}
end
structure Good (N:Nat) (x:Str):Prop where
 lo:1≤x.length
 hi:x.length≤N
 as:asc x
structure CF (K:PySem.W.Frag) (C fI:Addr):Prop where
 cl:cR K C
 nl:qH K C "label"
 nw:qH K C "who"
 na:qH K C "act"
 nt:qH K C "turns"
 nr:qH K C "room"
 Pc:Mk K C fI
noncomputable def f3 (l w a:Str):List (Str × V):=[("label",.str l),("who",.str w),("act",.str a)]
noncomputable def f4 (l w a r:Str):List (Str × V):=[("label",.str l),("who",.str w),("act",.str a),("room",.str r)]
noncomputable def f5 (l w a:Str) (n:Int) (r:Str):List (Str × V):=[("label",.str l),("who",.str w),("act",.str a),("turns",.int n),("room",.str r)]
theorem n1:¬(("label" : Str) = "who"):=by decide +kernel
theorem n2:¬(("label" : Str) = "act"):=by decide +kernel
theorem n3:¬(("who" : Str) = "act"):=by decide +kernel
theorem n4:¬(("label" : Str) = "room"):=by decide +kernel
theorem n5:¬(("who" : Str) = "room"):=by decide +kernel
theorem n6:¬(("act" : Str) = "room"):=by decide +kernel
theorem n7:¬(("label" : Str) = "turns"):=by decide +kernel
theorem n8:¬(("who" : Str) = "turns"):=by decide +kernel
theorem n9:¬(("act" : Str) = "turns"):=by decide +kernel
theorem BR:¬(("turns" : Str) = "room"):=by decide +kernel
theorem put3 (l w a:Str):qF "act" (.str a) (qF "who" (.str w) (qF "label" (.str l) []))=f3 l w a:=by
 simp only[qF,f3,if_neg n1,if_neg n2,if_neg n3]
theorem Y1 (l w a r:Str):qF "room" (.str r) (f3 l w a)=f4 l w a r:=by
 simp only[qF,f3,f4,if_neg n4,if_neg n5,if_neg n6]
theorem Hi (l w a:Str) (n:Int) (r:Str):qF "room" (.str r) (qF "turns" (.int n) (f3 l w a))=f5 l w a n r:=by
 simp only[qF,f3,f5,if_neg n7,if_neg n8,if_neg n9,if_neg n4,if_neg n5,if_neg n6,if_neg BR]
noncomputable def Wj (k:Int) (l w a:Str) (n:Int) (r:Str):List (Str × V):=if k=0 then f5 l w a n r else if k=2∨k=3 then f4 l w a r else f3 l w a
theorem xt {x:Str} {v:V} {r:List (Str × V)}:List.lookup x ((x,v) :: r)=some v:=by simp [List.lookup]
theorem kI {x y:Str} {v:V} {r:List (Str × V)} (h:¬(x=y)):List.lookup x ((y,v) :: r)=List.lookup x r:=by
 have:(x == y)=false:=beq_eq_false_iff_ne.mpr h
 simp [List.lookup,this]
theorem iS (k:Int) (l w a:Str) (n:Int) (r:Str):(Wj k l w a n r).lookup ("label" : Str)=some (.str l):=by
 unfold Wj;split
 ·exact xt
 ·split<;>exact xt
noncomputable def QI (t:xj) (k:Int):Addr:=if k=0 then t.yF else if k=1 then t.vc else if k=2 then t.pe else if k=3 then t.vD else t.kg
noncomputable def At (t:xj) (H:Hp) (p:Addr) (k:Int) (l w a:Str) (n:Int) (r:Str):Prop:=∃dx,H p=some (.ins (QI t k) dx (Wj k l w a n r))
noncomputable def Xg (K:PySem.W.Frag):Sp:=fun vs H Q _=>∃(p C dx fI:Addr) (l w a:Str),vs=[.ref p,.str l,.str w,.str a]∧CF K C fI∧H p=some (.ins C dx [])∧Q .non (upd H p (.ins C dx (f3 l w a)))
noncomputable def KA (K:PySem.W.Frag):Sp:=fun vs H Q _=>∃(p C dx fI:Addr) (l w a r:Str),vs=[.ref p,.str l,.str w,.str a,.str r]∧CF K C fI∧H p=some (.ins C dx [])∧Q .non (upd H p (.ins C dx (f4 l w a r)))
noncomputable def Gj (K:PySem.W.Frag):Sp:=fun vs H Q _=>∃(p C dx fI:Addr) (l w a:Str) (n:Int) (r:Str),vs=[.ref p,.str l,.str w,.str a,.int n,.str r]∧CF K C fI∧H p=some (.ins C dx [])∧Q .non (upd H p (.ins C dx (f5 l w a n r)))
theorem aK {K:PySem.W.Frag} {mg:Str→Option Value} {t:xj} (T:Txt K mg t):CF K t.yF t.vV:=⟨T.aV,T.fL,T.cJ,T.cQ,T.fS,T.dz,T.tZ⟩
theorem nT {K:PySem.W.Frag} {mg:Str→Option Value} {t:xj} (T:Txt K mg t):CF K t.vc t.qE:=⟨T.nO,T.pG,T.dj,T.dq,T.pH,T.fT,T.uC⟩
theorem QN {K:PySem.W.Frag} {mg:Str→Option Value} {t:xj} (T:Txt K mg t):CF K t.pe t.wW:=⟨T.QO,T.m8,T.uL,T.uR,T.m9,T.cZ,T.ez⟩
theorem nN {K:PySem.W.Frag} {mg:Str→Option Value} {t:xj} (T:Txt K mg t):CF K t.vD t.kS:=⟨T.nI,T.pB,T.dg,T.dy,T.pP,T.fE,T.uU⟩
theorem ZF {K:PySem.W.Frag} {mg:Str→Option Value} {t:xj} (T:Txt K mg t):CF K t.kg t.qE:=⟨T.lG,T.bE,T.fR,T.fU,T.bA,T.pY,T.lI⟩
theorem YJ {K:PySem.W.Frag} {mg:Str→Option Value} {t:xj} (T:Txt K mg t) (k:Int):∃fI,CF K (QI t k) fI:=by
 unfold QI
 split
 ·exact⟨_,aK T⟩
 split
 ·exact⟨_,nT T⟩
 split
 ·exact⟨_,QN T⟩
 split
 ·exact⟨_,nN T⟩
 ·exact⟨_,ZF T⟩
section
variable {K:PySem.W.Frag} {mg:Str→Option Value} {t:xj} {H:Hp} {p:Addr} {k:Int} {l w a:Str} {n:Int} {r:Str} {Q:VK}
theorem At.fl (T:Txt K mg t) (h:At t H p k l w a n r):VU K H (.ref p) "label" (.str l):=by
 obtain⟨dx,e⟩:=h
 obtain⟨fI,F⟩:=YJ T k
 exact⟨p,_,dx,_,rfl,e,F.cl,F.nl,iS _ _ _ _ _ _⟩
end
section
variable {P:Program} {w:World} {K:PySem.W.Frag} {mg:Str→Option Value} {base:Heap} {t:xj}
theorem rh:qX ["self","label","who","act"] ["self","label","who","act"] (z6 jL):=⟨rfl,rfl,rfl,by decide +kernel,rfl,by decide +kernel,by decide +kernel⟩
set_option maxHeartbeats 400000 in
theorem wb (T:Txt K mg t):qV P w K mg base jW 1 t.qE t.xG ["self","label","who","act"] (Xg K):=by
 refine T.vQ.fn.ok rh (fun vs H Q E h=>(by obtain⟨_,_,_,_,_,_,_,rfl,_⟩:=h;rfl)) (fun cdv A outer s H vs Q E hr h=>?_)
 obtain⟨p,C,dx,fI,l,w,a,rfl,F,hp,k⟩:=h
 refine⟨_,(z8 (x8 (pv 0) (pv 1) rfl)
   (z8 (x8 (pv 0) (pv 2) rfl)
   (qz (x8 (pv 0) (pv 3) rfl)))),?_⟩
 refine⟨_,rfl,_,rfl,p,C,dx,[],rfl,hp,F.cl,F.nl,(by show 0 < 1000;decide),?_⟩
 refine⟨_,rfl,_,rfl,p,C,dx,_,rfl,qm,F.cl,F.nw,(by show 1 < 1000;decide),?_⟩
 refine⟨_,rfl,_,rfl,p,C,dx,_,rfl,qm,F.cl,F.na,?_,?_⟩
 ·have:=xT ("who" : Str) (.str w) (qF "label" (.str l) [])
  have e:(qF ("label" : Str) (.str l) []).length=1:=rfl
  omega
 ·rw[gs,gs,put3]
  exact k
theorem nz:qX ["self","label","who","act","turns","room"] ["self","label","who","act","turns","room"] (z6 xi):=⟨rfl,rfl,rfl,by decide +kernel,rfl,by decide +kernel,by decide +kernel⟩
set_option maxHeartbeats 400000 in
theorem tV (T:Txt K mg t):qV P w K mg base jW 2 t.vV t.gk ["self","label","who","act","turns","room"] (Gj K):=by
 have G_Clause_init:qV P w K mg base jW 1 t.qE t.xG ["self","label","who","act"] (Xg K):=(wb T).mono (by decide)
 refine T.dF.fn.ok nz (fun vs H Q E h=>(by obtain⟨_,_,_,_,_,_,_,_,_,rfl,_⟩:=h;rfl)) (fun cdv A outer s H vs Q E hr h=>?_)
 obtain⟨p,C,dx,fI,l,w,a,n,r,rfl,F,hp,k⟩:=h
 refine⟨_,(z8 (ki (u9 rfl T.uP T.dD G_Clause_init hr T.vQ.bd .nil qJ (z0 (pv 0) (z0 (pv 1) (z0 (pv 2) (z0 (pv 3) z7))))))
   (z8 (x8 (pv 0) (pv 4) rfl)
   (qz (x8 (pv 0) (pv 5) rfl)))),?_⟩
 refine⟨_,rfl,_,rfl,_,rfl,_,rfl,p,C,dx,fI,l,w,a,rfl,F,hp,?_⟩
 refine⟨_,rfl,_,rfl,p,C,dx,_,rfl,qm,F.cl,F.nt,(by show 3 < 1000;decide),?_⟩
 refine⟨_,rfl,_,rfl,p,C,dx,_,rfl,qm,F.cl,F.nr,?_,?_⟩
 ·have:=xT ("turns" : Str) (.int n) (f3 l w a)
  have e:(f3 l w a).length=3:=rfl
  omega
 ·rw[gs,gs,Hi]
  exact k
theorem iu:qX ["self","label","who","act","room"] ["self","label","who","act","room"] (z6 x9):=⟨rfl,rfl,rfl,by decide +kernel,rfl,by decide +kernel,by decide +kernel⟩
set_option maxHeartbeats 400000 in
theorem oM (T:Txt K mg t):qV P w K mg base jW 2 t.wW t.bo ["self","label","who","act","room"] (KA K):=by
 have G_Clause_init:qV P w K mg base jW 1 t.qE t.xG ["self","label","who","act"] (Xg K):=(wb T).mono (by decide)
 refine T.uc.fn.ok iu (fun vs H Q E h=>(by obtain⟨_,_,_,_,_,_,_,_,rfl,_⟩:=h;rfl)) (fun cdv A outer s H vs Q E hr h=>?_)
 obtain⟨p,C,dx,fI,l,w,a,r,rfl,F,hp,k⟩:=h
 refine⟨_,(z8 (ki (u9 rfl T.uP T.dD G_Clause_init hr T.vQ.bd .nil qJ (z0 (pv 0) (z0 (pv 1) (z0 (pv 2) (z0 (pv 3) z7))))))
   (qz (x8 (pv 0) (pv 4) rfl))),?_⟩
 refine⟨_,rfl,_,rfl,_,rfl,_,rfl,p,C,dx,fI,l,w,a,rfl,F,hp,?_⟩
 refine⟨_,rfl,_,rfl,p,C,dx,_,rfl,qm,F.cl,F.nr,(by show 3 < 1000;decide),?_⟩
 rw[gs,Y1]
 exact k
theorem ly:qX ["self","label","who","act","room"] ["self","label","who","act","room"] (z6 j9):=⟨rfl,rfl,rfl,by decide +kernel,rfl,by decide +kernel,by decide +kernel⟩
set_option maxHeartbeats 400000 in
theorem rA (T:Txt K mg t):qV P w K mg base jW 2 t.kS t.yo ["self","label","who","act","room"] (KA K):=by
 have G_Clause_init:qV P w K mg base jW 1 t.qE t.xG ["self","label","who","act"] (Xg K):=(wb T).mono (by decide)
 refine T.mq.fn.ok ly (fun vs H Q E h=>(by obtain⟨_,_,_,_,_,_,_,_,rfl,_⟩:=h;rfl)) (fun cdv A outer s H vs Q E hr h=>?_)
 obtain⟨p,C,dx,fI,l,w,a,r,rfl,F,hp,k⟩:=h
 refine⟨_,(z8 (ki (u9 rfl T.tu T.nE G_Clause_init hr T.vQ.bd .nil qJ (z0 (pv 0) (z0 (pv 1) (z0 (pv 2) (z0 (pv 3) z7))))))
   (qz (x8 (pv 0) (pv 4) rfl))),?_⟩
 refine⟨_,rfl,_,rfl,_,rfl,_,rfl,p,C,dx,fI,l,w,a,rfl,F,hp,?_⟩
 refine⟨_,rfl,_,rfl,p,C,dx,_,rfl,qm,F.cl,F.nr,(by show 3 < 1000;decide),?_⟩
 rw[gs,Y1]
 exact k
theorem gE {H:Hp} {x dx:Addr} {o o':HO} (hx:H x=none) (hdx:H dx=none) (hne:dx≠x):qp H (upd (upd (upd H dx (.own x)) x o) x o'):=by
 rw[gs]
 exact(qp.dE hdx).new (by rw[qB (Ne.symm hne)];exact hx)
end
theorem aD:kO.length=10∧kO.cps.toList=[48,49,50,51,52,53,54,55,56,57]:=by decide +kernel
theorem Zj:qT.length=26∧qT.cps.toList.length=26∧∀c∈qT.cps.toList,c < 128:=by decide +kernel
noncomputable def has (z:Str) (c:Nat):Bool:=!(Builtin.Str.occurrences z ⟨#[c]⟩ 0 z.length 1).isEmpty
noncomputable def pk (x z:Str) (m:Int):Bool:=decide (1≤x.length) && decide ((x.length:Int)≤m) && x.cps.toList.all (has z)
noncomputable def qe (x:Str):Bool:=pk x qT 8 && !QJ (.str x) (gd.map V.str)
theorem ZN:(gd.map V.str).all fM=true:=by decide +kernel
theorem og (c:Nat):has kO c=decide (48≤c∧c≤57):=by
 unfold has
 rw[StrLaws.found_one,aD.2]
 by_cases h:48≤c∧c≤57
 ·rw[decide_eq_true h]
  simp
  omega
 ·rw[decide_eq_false h]
  simp
  omega
noncomputable def bB (x:Str):Int:=if pk x kO 20=true∧x.cps.toList.head?≠some 48 then ((PySem.NumText.digitsVal x.cps.toList:Nat):Int) else 0
noncomputable def eU:Sp:=fun vs H Q _=>∃(x z:Str) (m:Int),vs=[.str x,.str z,.int m]∧x.length≤400∧z.length≤100∧∀H',qp H H'→Q (.bl (pk x z m)) H'
noncomputable def nQ:Sp:=fun vs H Q _=>∃(x:Str),vs=[.str x]∧x.length≤400∧∀H',qp H H'→Q (.bl (qe x)) H'
noncomputable def Xb:Sp:=fun vs H Q _=>∃(x:Str),vs=[.str x]∧x.length≤400∧∀H',qp H H'→Q (.int (bB x)) H'
theorem QM {x z:Str} {bs:List Bool} (hl:bs.length=x.length) (h:∀(i:Nat) (c:Nat) (b:Bool),x.cps.toList[i]?=some c→bs[i]?=some b→b=has z c):bs.all id=x.cps.toList.all (has z):=by
 have e:bs=x.cps.toList.map (has z):=by
  apply List.ext_getElem?
  intro i
  rw[List.getElem?_map]
  cases q:x.cps.toList[i]? with
  | none=>
   have:x.cps.toList.length≤i:=List.getElem?_eq_none_iff.mp q
   exact List.getElem?_eq_none_iff.mpr (by rw[hl];simpa [Str.length] using this)
  | some c=>
   have hi:i < bs.length:=by
    rw[hl]
    have:=(List.getElem?_eq_some_iff.mp q).1
    simpa [Str.length] using this
   rw[List.getElem?_eq_getElem hi,Option.map_some,h i c _ q (List.getElem?_eq_getElem hi)]
 rw[e,List.all_map]
 rfl
theorem cG {x:Str} {m:Int} (h:pk x kO m=true):1≤x.length∧(x.length:Int)≤m∧PySem.NumText.AllDigits x.cps.toList:=by
 unfold pk at h
 rw[Bool.and_eq_true,Bool.and_eq_true] at h
 obtain⟨⟨h1,h2⟩,h3⟩:=h
 refine⟨of_decide_eq_true h1,of_decide_eq_true h2,fun c hc=>?_⟩
 have:=List.all_eq_true.mp h3 c hc
 rw[og] at this
 exact of_decide_eq_true this
theorem oy {x:Str} (h:1≤x.length):∃c,x.cps.toList.head?=some c∧rN x.cps.toList 0=some c:=by
 have hl:0 < x.cps.toList.length:=by have h':1≤x.cps.size:=h;rw[Array.length_toList];omega
 cases e:x.cps.toList with
 | nil=>rw[e] at hl;simp at hl
 | cons c r=>exact⟨c,rfl,kc (xs:=c :: r) (j:=0) (v:=c) rfl⟩
theorem WJ (c d:Nat):decide (V.str ⟨#[c]⟩=V.str ⟨#[d]⟩)=decide (c=d):=by
 by_cases h:c=d
 ·subst h;simp
 ·have:¬(V.str ⟨#[c]⟩=V.str ⟨#[d]⟩):=fun q=>h (by injection q with q;injection q with q;simpa using q)
  rw[decide_eq_false this,decide_eq_false h]
theorem XB:("0" : Str)=⟨#[48]⟩:=by decide +kernel
section
variable {P:Program} {w:World} {K:PySem.W.Frag} {mg:Str→Option Value} {base:Heap} {t:xj}
theorem Kz (T:Txt K mg t) (H:Hp):yc K H t.uY (gd.map V.str):=.inr T.JW
theorem dX:qX ["word","signs","most"] ["word","signs","most"] (z6 qA):=⟨rfl,rfl,rfl,by decide +kernel,rfl,by decide +kernel,by decide +kernel⟩
set_option maxHeartbeats 400000 in
theorem gr (T:Txt K mg t):qV P w K mg base jW 1 t.xM t.xF ["word","signs","most"] eU:=by
 refine T.jA.fn.ok dX (fun vs H Q E h=>(by obtain⟨_,_,_,rfl,_⟩:=h;rfl)) (fun cdv A outer s H vs Q E hr h=>?_)
 obtain⟨x,z,m,rfl,hx,hz,k⟩:=h
 refine⟨_,(z8 (qM (PW.pt (wX (qo u3 (qi mD rfl T.xw PySem.boot_len (z0 (pv 0) z7)) z9 (qZ _)) (wH (qo oE (qi mD rfl T.xw PySem.boot_len (z0 (pv 0) z7)) (pv 2) (qZ _)))))
    (qz (qr vz)) qt)
   (qz (qr (qi (gQ rfl) rfl T.aQ PyProof.Rows.boot_all (z0 (pL (osc:=z6 qA) (N:=["word","signs","most"]) (names:=["signs"]) (qC:=[1]) rfl rfl rfl ⟨rfl,by decide +kernel,by decide +kernel,by decide +kernel,rfl,rfl,by decide +kernel,by decide +kernel⟩ (WU (pv 0)) (fun _ _ _=>(k6 Qz (pv 0) (pv 1) rfl))) z7))))),?_⟩
 refine⟨_,rfl,x,rfl,qv (by omega),_,_,rfl,rfl,_,rfl,?_⟩
 refine jo (fun h1=>tf ?_) (fun h1=>?_)
 ·have e:pk x z m=false:=by
   have:¬(1≤x.length):=by have:=of_decide_eq_true h1;omega
   simp [pk,this]
  have:=k H (qp.refl H)
  rw[e] at this
  exact this
 refine⟨_,rfl,x,rfl,qv (by omega),_,rfl,_,_,rfl,rfl,_,rfl,?_⟩
 refine jo (fun h2=>?_) (fun h2=>?_)
 ·have e:pk x z m=false:=by
   have:¬((x.length:Int)≤m):=by have:=of_decide_eq_true h2;omega
   simp [pk,this]
  have:=k H (qp.refl H)
  rw[e] at this
  exact this
 have e1:1≤x.length:=by have:¬((x.length:Int) < 1):=fun q=>h1 (decide_eq_true q);omega
 have e2:(x.length:Int)≤m:=by have:¬(m < (x.length:Int)):=fun q=>h2 (decide_eq_true q);omega
 refine⟨_,rfl,x,rfl,gP (J8 (z:=x)) (fun _ y v=>∀c,y=.str ⟨#[c]⟩→v=.bl (has z c)) (qv (by simp [Str.length] at hx ⊢;omega)) ?_ ?_⟩
 ·intro i y H' Q' hy s' kk
  rw[List.getElem?_map] at hy
  cases q:x.cps.toList[i]? with
  | none=>rw[q] at hy;cases hy
  | some c=>
   rw[q] at hy
   cases hy
   refine⟨_,rfl,_,rfl,_,_,rfl,rfl,kk _ _ (qp.refl _) fun c' e=>?_⟩
   have:c=c':=by simpa using e
   subst this
   rfl
 ·intro D H' ys s' hD hy hlen hp
  have hlen':ys.length=x.length:=by simpa [Str.length] using hlen
  obtain⟨bs,rfl⟩:=sG ys fun v hv=>by
   obtain⟨i,hi,e⟩:=List.getElem_of_mem hv
   have hix:i < x.cps.toList.length:=by rw[hlen'] at hi;simpa [Str.length] using hi
   exact⟨_,hp i _ v (by rw[List.getElem?_map,List.getElem?_eq_getElem hix];rfl) (by rw[List.getElem?_eq_getElem hi,e]) _ rfl⟩
  refine⟨D,bs,rfl,qL.of hy,?_⟩
  have e3:bs.all id=x.cps.toList.all (has z):=QM (by simpa using hlen') fun i c b q1 q2=>by
   have:=hp i (.str ⟨#[c]⟩) (.bl b) (by rw[List.getElem?_map,q1];rfl) (by rw[List.getElem?_map,q2];rfl) c rfl
   simpa using this
  have:=k H' s'
  rw[show pk x z m=bs.all id by rw[e3];simp [pk,e1,e2]] at this
  exact this
theorem nv:qX ["word"] ["word"] (z6 xQ):=⟨rfl,rfl,rfl,by decide +kernel,rfl,by decide +kernel,by decide +kernel⟩
set_option maxHeartbeats 400000 in
theorem bM (T:Txt K mg t):qV P w K mg base jW 2 t.vW t.vK ["word"] nQ:=by
 have G_v_written_with:qV P w K mg base jW 1 t.xM t.xF ["word","signs","most"] eU:=(gr T).mono (by decide)
 refine T.j4.fn.ok nv (fun vs H Q E h=>(by obtain⟨_,rfl,_⟩:=h;rfl)) (fun cdv A outer s H vs Q E hr h=>?_)
 obtain⟨x,rfl,hx,k⟩:=h
 refine⟨_,(qz (qr (tM (qu G_v_written_with hr rfl T.jA.mg T.jA.fn.kp T.jA.bd .nil qJ (z0 (pv 0) (z0 (jf rfl (T.lM).choose_spec (v:=.str qT) ⟨_,rfl⟩) (z0 (jf rfl (T.pX).choose_spec (v:=.int 8) ⟨_,rfl⟩) z7)))) (tU (k6 (fe (K:=K) rfl) (pv 0) (jf rfl T.Jj (v:=.ref t.uY) rfl) rfl))))),?_⟩
 refine⟨_,rfl,x,qT,8,rfl,hx,by decide +kernel,fun H' s'=>⟨_,rfl,?_⟩⟩
 refine jo (fun h1=>?_) (fun h1=>?_)
 ·refine⟨_,rfl,_,_,rfl,.inr (Kz T H'),rfl,ZN,?_⟩
  have:=k H' s'
  rw[show qe x = !QJ (.str x) (gd.map V.str) by simp [qe,h1]] at this
  exact this
 ·have:=k H' s'
  rw[show qe x=false by simp [qe,h1]] at this
  exact this
theorem rQ:qX ["word"] ["word"] (z6 jN):=⟨rfl,rfl,rfl,by decide +kernel,rfl,by decide +kernel,by decide +kernel⟩
set_option maxHeartbeats 400000 in
theorem pC (T:Txt K mg t):qV P w K mg base jW 2 t.vp t.vg ["word"] Xb:=by
 have G_v_written_with:qV P w K mg base jW 1 t.xM t.xF ["word","signs","most"] eU:=(gr T).mono (by decide)
 refine T.xA.fn.ok rQ (fun vs H Q E h=>(by obtain⟨_,rfl,_⟩:=h;rfl)) (fun cdv A outer s H vs Q E hr h=>?_)
 obtain⟨x,rfl,hx,k⟩:=h
 refine⟨_,(z8 (qM (PW.pt (wX (wG (jE (qu G_v_written_with hr rfl T.jA.mg T.jA.fn.kp T.jA.bd .nil qJ (z0 (pv 0) (z0 (jf rfl (T.lF).choose_spec (v:=.str kO) ⟨_,rfl⟩) (z0 (jf rfl (T.pJ).choose_spec (v:=.int 20) ⟨_,rfl⟩) z7)))))) (wH (qo jY (qf pV (pv 0) z9 (fun _ _=>rfl)) qk (qZ _)))))
    (qz (qr z9)) qt)
   (qz (qr (j0 rO rfl T.cx PyProof.Rows.boot_int (z0 (pv 0) z7))))),?_⟩
 refine⟨_,rfl,x,kO,20,rfl,hx,by rw[aD.1];decide,fun H' s'=>⟨_,rfl,?_⟩⟩
 cases hw:pk x kO 20 with
 | false=>
  refine tf (tf ?_)
  have:=k H' s'
  rw[show bB x=0 by unfold bB;rw[if_neg (by rw[hw];simp)]] at this
  exact this
 | true=>
  refine fG ?_
  obtain⟨h1,h2,h3⟩:=cG hw
  obtain⟨c,e1,e2⟩:=oy h1
  refine⟨_,rfl,x,_,c,rfl,rfl,qv (by omega),e2,rfl,_,rfl,?_⟩
  have hz:=WJ c 48
  rw[←XB] at hz
  refine jo (fun h4=>?_) (fun h4=>?_)
  ·have h4':decide (V.str ⟨#[c]⟩=V.str ("0" : Str))=true:=h4
   rw[hz] at h4'
   have hc:c=48:=of_decide_eq_true h4'
   have:=k H' s'
   rw[show bB x=0 by unfold bB;rw[if_neg (by rw[e1,hc];simp)]] at this
   exact this
  ·have hc:c≠48:=fun q=>h4 (by show decide (V.str ⟨#[c]⟩=V.str ("0" : Str))=true;rw[hz];exact decide_eq_true q)
   have hne:x.cps.toList≠[]:=fun q=>by rw[q] at e1;cases e1
   refine⟨_,rfl,x,_,rfl,PySem.intText_digits h3 hne (by omega),by omega,?_⟩
   have:=k H' s'
   rw[show bB x=((PySem.NumText.digitsVal x.cps.toList:Nat):Int) by unfold bB;rw[if_pos ⟨hw,by rw[e1];simpa using hc⟩]] at this
   exact this
end
local macro_rules | `(tactic| walk_at "at")=>`(tactic| first | assumption | exact At.same (by assumption) (by walk_at "sm"))
local macro_rules | `(tactic| walk_at "fld")=>`(tactic| first
 | with_reducible exact At.fl (by assumption) (by walk_at "at") | with_reducible exact At.fw (by assumption) (by walk_at "at") | with_reducible exact At.fa (by assumption) (by walk_at "at")
 | with_reducible exact At.ft (by assumption) (by walk_at "at") | with_reducible exact At.fr (by assumption) (by walk_at "at") (by first | assumption | omega))
section
variable {P:Program} {w:World} {K:PySem.W.Frag} {mg:Str→Option Value} {base:Heap} {t:xj}
end
noncomputable def yx (x p:Str):Bool:=if p = "NAME" then qe x else if p = "WHO" then qe x || decide (x = "any") else if p = "NUMBER" then decide (bB x > 0) else decide (x=p)
noncomputable def kl (ws fs:List Str):Bool:=decide (ws.length=fs.length) && (ws.zip fs).all fun p=>yx p.1 p.2
noncomputable def gz (ws:List Str) (m:Int):Bool:=decide (1≤ws.length) && decide ((ws.length:Int)≤m) && ws.all qe
structure Sh (ws:List Str):Prop where
 sN:ws.length≤410
 short:∀x∈ws,x.length≤400
theorem Sh.drop {ws:List Str} (h:Sh ws) (n:Nat):Sh (ws.drop n):=⟨by have:=h.sN;rw[List.length_drop];omega,fun x hx=>h.short x (List.mem_of_mem_drop hx)⟩
theorem Sh.take {ws:List Str} (h:Sh ws) (n:Nat):Sh (ws.take n):=⟨by have:=h.sN;rw[List.length_take];omega,fun x hx=>h.short x (List.mem_of_mem_take hx)⟩
theorem dY (a b:Str):decide (V.str a=V.str b)=decide (a=b):=by
 by_cases h:a=b
 ·subst h;simp
 ·have:¬(V.str a=V.str b):=fun q=>h (by injection q)
  rw[decide_eq_false this,decide_eq_false h]
theorem um {a b:Str} (h:decide (V.str a=V.str b)=true):a=b:=by rw[dY] at h;exact of_decide_eq_true h
theorem ud {a b:Str} (h:¬decide (V.str a=V.str b)=true):a≠b:=fun q=>h (by rw[dY];exact decide_eq_true q)
theorem Ze {a b:Str} (h:(!decide (V.str a=V.str b))=true):a≠b:=fun q=>by subst q;simp at h
theorem Zi {a b:Str} (h:¬(!decide (V.str a=V.str b))=true):a=b:=by
 rw[dY] at h
 by_cases q:a=b
 ·exact q
 ·exact absurd (by rw[decide_eq_false q];rfl) h
theorem uA {b:Bool} (h:(!b)=true):b=false:=by cases b;rfl;cases h
theorem uE {b:Bool} (h:¬(!b)=true):b=true:=by cases b;exact absurd rfl h;rfl
theorem cz {ws:List Str} {i:Nat} (h:i < ws.length):ws.getD i ""∈ws:=by
 rw[List.getD_eq_getElem?_getD,List.getElem?_eq_getElem h]
 exact List.getElem_mem h
noncomputable def Zt:Sp:=fun vs H Q _=>∃(x p:Str),vs=[.str x,.str p]∧x.length≤400∧∀H',qp H H'→Q (.bl (yx x p)) H'
noncomputable def nu (K:PySem.W.Frag):Sp:=fun vs H Q _=>∃(a b:Addr) (ws fs:List Str),vs=[.ref a,.ref b]∧qL K H a (ws.map V.str)∧qL K H b (fs.map V.str)∧Sh ws∧∀H',qp H H'→Q (.bl (kl ws fs)) H'
noncomputable def Xx (K:PySem.W.Frag):Sp:=fun vs H Q _=>∃(a:Addr) (m:Int) (ws:List Str),vs=[.ref a,.int m]∧qL K H a (ws.map V.str)∧Sh ws∧∀H',qp H H'→Q (.bl (gz ws m)) H'
theorem all_map {α:Type} {xs:List α} {bs:List Bool} {f:α→Bool} (hl:bs.length=xs.length) (h:∀(i:Nat) x b,xs[i]?=some x→bs[i]?=some b→b=f x):bs.all id=xs.all f:=by
 have e:bs=xs.map f:=by
  apply List.ext_getElem?
  intro i
  rw[List.getElem?_map]
  cases q:xs[i]? with
  | none=>exact List.getElem?_eq_none_iff.mpr (by rw[hl];exact List.getElem?_eq_none_iff.mp q)
  | some c=>
   have hi:i < bs.length:=by rw[hl];exact(List.getElem?_eq_some_iff.mp q).1
   rw[List.getElem?_eq_getElem hi,Option.map_some,h i c _ q (List.getElem?_eq_getElem hi)]
 rw[e,List.all_map]
 rfl
section
variable {P:Program} {w:World} {K:PySem.W.Frag} {mg:Str→Option Value} {base:Heap} {t:xj}
theorem cU:qX ["word","place"] ["word","place"] (z6 ja):=⟨rfl,rfl,rfl,by decide +kernel,rfl,by decide +kernel,by decide +kernel⟩
set_option maxHeartbeats 400000 in
theorem cP (T:Txt K mg t):qV P w K mg base jW 3 t.vO t.vR ["word","place"] Zt:=by
 have G_v_is_name:qV P w K mg base jW 2 t.vW t.vK ["word"] nQ:=(bM T).mono (by decide)
 have G_v_number_of:qV P w K mg base jW 2 t.vp t.vg ["word"] Xb:=(pC T).mono (by decide)
 refine T.we.fn.ok cU (fun vs H Q E h=>(by obtain⟨_,_,rfl,_⟩:=h;rfl)) (fun cdv A outer s H vs Q E hr h=>?_)
 obtain⟨x,p,rfl,hx,k⟩:=h
 refine⟨_,(z8 (qM (qo jY (pv 1) qk (qZ _))
    (qz (qr (qu G_v_is_name hr rfl T.j4.mg T.j4.fn.kp T.j4.bd .nil qJ (z0 (pv 0) z7)))) qt)
   (z8 (qM (qo jY (pv 1) qk (qZ _))
    (qz (qr (YA (qu G_v_is_name hr rfl T.j4.mg T.j4.fn.kp T.j4.bd .nil qJ (z0 (pv 0) z7)) (tU (k6 jY (pv 0) qk (qZ _)))))) qt)
   (z8 (qM (qo jY (pv 1) qk (qZ _))
    (qz (qr (k6 oE (qu G_v_number_of hr rfl T.xA.mg T.xA.fn.kp T.xA.bd .nil qJ (z0 (pv 0) z7)) z9 (qZ _)))) qt)
   (qz (qr (k6 jY (pv 0) (pv 1) (qZ _))))))),?_⟩
 walk_at "rd"
 refine jo (fun h1=>?_) (fun h1=>?_)
 ·have e:=um h1
  subst e
  walk_at "rd"
  intro H' s'
  have:=k H' s'
  unfold yx at this
  rw[if_pos rfl] at this
  exact this
 have n1:=ud h1
 walk_at "rd"
 refine jo (fun h2=>?_) (fun h2=>?_)
 ·have e:=um h2
  subst e
  walk_at "rd"
  intro H' s'
  have:=k H' s'
  unfold yx at this
  rw[if_neg n1,if_pos rfl] at this
  refine⟨_,rfl,?_⟩
  refine jo (fun h3=>?_) (fun h3=>?_)
  ·rw[h3] at this;exact this
  ·walk_at "rd"
   rw[dY]
   rw[Bool.eq_false_iff.mpr h3] at this
   exact this
 have n2:=ud h2
 walk_at "rd"
 refine jo (fun h3=>?_) (fun h3=>?_)
 ·have e:=um h3
  subst e
  walk_at "rd"
  intro H' s'
  walk_at "rd"
  have:=k H' s'
  unfold yx at this
  rw[if_neg n1,if_neg n2,if_pos rfl] at this
  exact this
 have n3:=ud h3
 walk_at "rd"
 have:=k H (qp.refl H)
 unfold yx at this
 rw[if_neg n1,if_neg n2,if_neg n3] at this
 rw[dY]
 exact this
theorem rZ:qX ["words","form"] ["words","form"] (z6 jt):=⟨rfl,rfl,rfl,by decide +kernel,rfl,by decide +kernel,by decide +kernel⟩
set_option maxHeartbeats 400000 in
theorem y7 (T:Txt K mg t):qV P w K mg base jW 4 t.kd t.km ["words","form"] (nu K):=by
 have G_v_fits_place:qV P w K mg base jW 3 t.vO t.vR ["word","place"] Zt:=(cP T).mono (by decide)
 refine T.qU.fn.ok rZ (fun vs H Q E h=>(by obtain⟨_,_,_,_,rfl,_⟩:=h;rfl)) (fun cdv A outer s H vs Q E hr h=>?_)
 obtain⟨a,b,ws,fs,rfl,hA,hB,hS,k⟩:=h
 refine⟨_,(z8 (qM (qo u5 (qi (qD (K:=K) rfl) rfl T.xw PySem.boot_len (z0 (pv 0) z7)) (qi (qD (K:=K) rfl) rfl T.xw PySem.boot_len (z0 (pv 1) z7)) (qZ _))
    (qz (qr vz)) qt)
   (qz (qr (qi (gQ rfl) rfl T.aQ PyProof.Rows.boot_all (z0 (fZ (osc:=z6 jt) (N:=["words","form"]) (xs:=["word","place"]) (names:=[]) (qC:=[]) rfl rfl rfl ⟨rfl,by decide +kernel,by decide +kernel,by decide +kernel,by decide +kernel,rfl,by decide +kernel,by decide +kernel⟩ (Ka (K:=K) rfl rfl T.Vv (z0 (pv 0) (z0 (pv 1) z7)) PyProof.Rows.boot_zip) (fun _ _ _=>(yQ (K:=K) (n:=2) rfl rfl (jF (jy (i:=0) (show (["word","place"]:List Str).Nodup from by decide +kernel) rfl (.inl (fH rfl)) (.inr (fH rfl))) (jF (jy (i:=1) (show (["word","place"]:List Str).Nodup from by decide +kernel) rfl (.inl (fH rfl)) (.inr (fH rfl))) yJ)) rfl rfl)) (fun _ _ _=>tS) (fun _ _ _=>(qu G_v_fits_place hr rfl T.we.mg T.we.fn.kp T.we.bd .nil qJ (z0 (pv 0) (z0 (pv 1) z7))))) z7))))),?_⟩
 refine⟨_,rfl,a,_,rfl,.inl hA,_,rfl,b,_,rfl,.inl hB,rfl,_,rfl,?_⟩
 rw[List.length_map,List.length_map]
 refine jo (fun h1=>?_) (fun h1=>?_)
 ·have:=k H (qp.refl H)
  have e:¬ws.length=fs.length:=by
   intro q;rw[q] at h1;simp at h1
  unfold kl at this
  rw[decide_eq_false e] at this
  exact this
 have hl:ws.length=fs.length:=by
  by_cases q:ws.length=fs.length
  ·exact q
  ·exact absurd (by simp;omega) h1
 refine⟨_,rfl,_,rfl,a,b,_,_,rfl,hA,hB,?_⟩
 refine QA hA hB (fun x y v=>∀x' y',x=.str x'→y=.str y'→v=.bl (yx x' y')) (qv (by have:=hS.sN;rw[List.length_map];omega)) ?_ ?_
 ·intro i x y H' Q' e1 e2 s' kk
  rw[List.getElem?_map] at e1 e2
  cases q1:ws[i]? with
  | none=>rw[q1] at e1;cases e1
  | some x'=>
   cases q2:fs[i]? with
   | none=>rw[q2] at e2;cases e2
   | some y'=>
    rw[q1] at e1
    rw[q2] at e2
    cases e1
    cases e2
    refine⟨_,rfl,_,rfl,x',y',rfl,hS.short x' (List.mem_of_getElem? q1),fun H4 s4=>kk _ _ s4 fun a b ea eb=>?_⟩
    cases ea
    cases eb
    rfl
 ·intro D H' vs s' hD hv hvl hp
  rw[List.length_map,List.length_map,hl,Nat.min_self] at hvl
  obtain⟨bs,rfl⟩:=sG vs fun v hv'=>by
   obtain⟨i,hi,e⟩:=List.getElem_of_mem hv'
   have h1:i < ws.length:=by omega
   have h2:i < fs.length:=by omega
   exact⟨_,hp i _ _ v (by rw[List.getElem?_map,List.getElem?_eq_getElem h1];rfl) (by rw[List.getElem?_map,List.getElem?_eq_getElem h2];rfl) (by rw[List.getElem?_eq_getElem hi,e]) _ _ rfl rfl⟩
  refine⟨D,bs,rfl,qL.of hv,?_⟩
  have e:bs.all id=(ws.zip fs).all fun p=>yx p.1 p.2:=all_map (by rw[List.length_zip,hl,Nat.min_self];simpa using hvl) fun i p b q1 q2=>by
   rw[List.getElem?_zip_eq_some] at q1
   have:=hp i _ _ (.bl b) (by rw[List.getElem?_map,q1.1];rfl) (by rw[List.getElem?_map,q1.2];rfl) (by rw[List.getElem?_map,q2];rfl) _ _ rfl rfl
   simpa using this
  have:=k H' s'
  unfold kl at this
  rw[decide_eq_true hl,←e] at this
  exact this
theorem rm:qX ["words","most"] ["words","most"] (z6 jl):=⟨rfl,rfl,rfl,by decide +kernel,rfl,by decide +kernel,by decide +kernel⟩
set_option maxHeartbeats 400000 in
theorem pD (T:Txt K mg t):qV P w K mg base jW 3 t.vb t.vy ["words","most"] (Xx K):=by
 have G_v_is_name:qV P w K mg base jW 2 t.vW t.vK ["word"] nQ:=(bM T).mono (by decide)
 refine T.xE.fn.ok rm (fun vs H Q E h=>(by obtain⟨_,_,_,rfl,_⟩:=h;rfl)) (fun cdv A outer s H vs Q E hr h=>?_)
 obtain⟨a,m,ws,rfl,hA,hS,k⟩:=h
 refine⟨_,(qz (qr (tM (JR Vu Vu z9 (qi (qD (K:=K) rfl) rfl T.xw PySem.boot_len (z0 (pv 0) z7)) (pv 1)) (tU (qi (gQ rfl) rfl T.aQ PyProof.Rows.boot_all (z0 (pL (osc:=z6 jl) (N:=["words","most"]) (names:=[]) (qC:=[]) rfl rfl rfl ⟨rfl,by decide +kernel,by decide +kernel,by decide +kernel,rfl,rfl,by decide +kernel,by decide +kernel⟩ (wc (K:=K) rfl (pv 0)) (fun _ _ _=>(qu G_v_is_name hr rfl T.j4.mg T.j4.fn.kp T.j4.bd .nil qJ (z0 (pv 0) z7)))) z7)))))),?_⟩
 walk_at "rd"
 refine⟨a,_,rfl,.inl hA,_,_,rfl,rfl,_,rfl,?_⟩
 rw[List.length_map]
 have no:∀H',qp H H'→gz ws m=false→Q (.bl false) H':=fun H' s' e=>by have:=k H' s';rw[e] at this;exact this
 refine jo (fun h1=>?_) (fun h1=>?_)
 ·have h1':1≤ws.length:=by have:=of_decide_eq_true h1;omega
  refine⟨_,rfl,_,_,rfl,rfl,_,rfl,?_⟩
  refine jo (fun h2=>?_) (fun h2=>?_)
  ·have h2':(ws.length:Int)≤m:=of_decide_eq_true h2
   refine⟨_,rfl,a,rfl,⟨_,hA⟩,gP (yB hA) (fun _ y v=>∀x,y=.str x→v=.bl (qe x)) (qv (by have:=hS.sN;rw[List.length_map];omega)) ?_ ?_⟩
   ·intro i y H' Q' e1 s' kk
    rw[List.getElem?_map] at e1
    cases q1:ws[i]? with
    | none=>rw[q1] at e1;cases e1
    | some x'=>
     rw[q1] at e1
     cases e1
     exact⟨_,rfl,x',rfl,hS.short x' (List.mem_of_getElem? q1),fun H4 s4=>kk _ _ s4 fun a ea=>by cases ea;rfl⟩
   ·intro D H' vs s' hD hv hvl hp
    rw[List.length_map] at hvl
    obtain⟨bs,rfl⟩:=sG vs fun v hv'=>by
     obtain⟨i,hi,e⟩:=List.getElem_of_mem hv'
     have h1:i < ws.length:=by omega
     exact⟨_,hp i _ v (by rw[List.getElem?_map,List.getElem?_eq_getElem h1];rfl) (by rw[List.getElem?_eq_getElem hi,e]) _ rfl⟩
    refine⟨D,bs,rfl,qL.of hv,?_⟩
    have e:bs.all id=ws.all qe:=all_map (by simpa using hvl) fun i p b q1 q2=>by
     have:=hp i _ (.bl b) (by rw[List.getElem?_map,q1];rfl) (by rw[List.getElem?_map,q2];rfl) _ rfl
     simpa using this
    have:=k H' s'
    unfold gz at this
    rw[decide_eq_true h1',decide_eq_true h2',←e] at this
    exact this
  ·refine no H (qp.refl H) ?_
   have:¬(ws.length:Int)≤m:=fun q=>h2 (decide_eq_true q)
   simp [gz,this]
 ·refine⟨false,rfl,fG ?_⟩
  refine no H (qp.refl H) ?_
  have:¬1≤ws.length:=fun q=>h1 (decide_eq_true (by omega))
  simp only[gz,decide_eq_false this,Bool.false_and]
end
noncomputable def xR (x:Str):List Str:=Txt.split x " "
theorem nX (x:Str):1≤(xR x).length∧(xR x).length≤x.length + 2:=⟨PyProof.Rows.split_pos x " ",PyProof.Rows.split_le x " "⟩
theorem rW {x:Str} (h:x.length≤400):Sh (xR x):=⟨by have:=(nX x).2;omega,fun y hy=>by have:=PyProof.Rows.part_short (x:=x) (y:=" ") hy;omega⟩
theorem gF {α:Type} (f:α→V) (xs:List α) (n:Nat):yM (xs.map f) (some (n:Int)) none=(xs.drop n).map f:=by
 unfold yM
 rw[HT.fX,HT.ic,List.length_map,←List.map_drop,←List.map_take]
 by_cases h:n≤xs.length
 ·rw[Nat.min_eq_left h,List.take_of_length_le (by rw[List.length_drop];omega)]
 ·rw[Nat.min_eq_right (by omega),Nat.sub_self,List.drop_eq_nil_of_le (Nat.le_refl _),List.drop_eq_nil_of_le (by omega)]
  rfl
theorem pQ {α:Type} (f:α→V) (xs:List α) (n:Nat):yM (xs.map f) none (some (n:Int))=(xs.take n).map f:=by
 unfold yM
 rw[HT.fX,HT.ic,List.length_map,List.drop_zero,Nat.sub_zero,←List.map_take]
 by_cases h:n≤xs.length
 ·rw[Nat.min_eq_left h]
 ·rw[Nat.min_eq_right (by omega),List.take_length,List.take_of_length_le (by omega)]
noncomputable def wd (ws:List Str) (i:Nat):Str:=ws.getD i ""
noncomputable def Jz:List Str:=["let","NAME","be","NAME"]
noncomputable def uZ:List Str:=["part","NAME"]
noncomputable def aU:List Str:=["NAME","NAME","must","NAME","by","NUMBER","else","NAME"]
noncomputable def sT:List Str:=["NAME","WHO","may","NAME"]
noncomputable def X7:List Str:=["NAME","WHO","may","not","NAME","else","NAME"]
noncomputable def iU:List Str:=["NAME","WHO","by","NAME","to","NAME"]
noncomputable def jM (ws:List Str) (x:Str) (m:Int):List Str:=if wd ws 0≠x∨gz (ws.drop 1) m=false then [] else ws.drop 1
noncomputable def vB (ws:List Str):Option (Str × Str):=if ws.length=2∧QJ (.str (wd ws 0)) (xy.map V.str)=true∧qe (wd ws 1)=true then some (wd ws 0,wd ws 1) else none
noncomputable def i4 (ws:List Str):Option (Str × Str):=if kl ws Jz=true then some (wd ws 1,wd ws 3) else none
noncomputable def wm (ws:List Str):Option (Str × List Str):=if kl (ws.take 2) uZ=true then (if ws.length=2 then some (wd ws 1,[]) else if wd ws 2≠"in"∨gz (ws.drop 3) 12=false then none else some (wd ws 1,ws.drop 3)) else none
noncomputable def jB (ws:List Str):Option (Int × Str × Str × Str × Int × Str):=
 if kl ws aU=true then some (0,wd ws 0,wd ws 1,wd ws 3,bB (wd ws 5),wd ws 7)
 else if kl ws sT=true then some (1,wd ws 0,wd ws 1,wd ws 3,0,"")
 else if kl ws X7=true then some (2,wd ws 0,wd ws 1,wd ws 4,0,wd ws 6)
 else if kl ws iU=true then some (3,wd ws 0,wd ws 1,wd ws 3,0,wd ws 5)
 else none
theorem gM {ws fs:List Str} (h:kl ws fs=true):ws.length=fs.length:=by
 unfold kl at h
 rw[Bool.and_eq_true] at h
 exact of_decide_eq_true h.1
noncomputable def GH (n v:Str):List (Str × V):=[("name",.str n),("value",.str v)]
noncomputable def ZU (n:Str) (a b:Addr):List (Str × V):=[("name",.str n),("rooms",.ref a),("rows",.ref b)]
theorem m1:¬(("name" : Str) = "value"):=by decide +kernel
theorem m2:¬(("name" : Str) = "rooms"):=by decide +kernel
theorem m3:¬(("name" : Str) = "rows"):=by decide +kernel
theorem m4:¬(("rooms" : Str) = "rows"):=by decide +kernel
theorem Y3 (n v:Str):qF "value" (.str v) (qF "name" (.str n) [])=GH n v:=by
 simp only[qF,GH,if_neg m1]
theorem Y4 (n:Str) (a b:Addr):qF "rows" (.ref b) (qF "rooms" (.ref a) (qF "name" (.str n) []))=ZU n a b:=by
 simp only[qF,ZU,if_neg m2,if_neg m3,if_neg m4]
noncomputable def Bv (t:xj) (H:Hp) (p:Addr) (n v:Str):Prop:=∃dx,H p=some (.ins t.mH dx (GH n v))
noncomputable def QY (t:xj) (H0 H:Hp) (p:Addr) (n:Str) (rs:List Str) (ys:List V):Prop:=∃dx a b,H p=some (.ins t.jI dx (ZU n a b))∧H a=some (.lst (rs.map V.str))∧H b=some (.lst ys)∧H0 a=none∧H0 b=none
noncomputable abbrev BJ (t:xj) (H0 H:Hp) (p:Addr) (n:Str) (rs:List Str):Prop:=QY t H0 H p n rs []
theorem QY.back {t:xj} {H0 H1 H:Hp} {p:Addr} {n:Str} {rs:List Str} {ys:List V} (h:QY t H1 H p n rs ys) (s:qp H0 H1):QY t H0 H p n rs ys:=by
 obtain⟨dx,a,b,e1,e2,e3,f1,f2⟩:=h
 exact⟨dx,a,b,e1,e2,e3,s.free f1,s.free f2⟩
noncomputable def Off (p:Addr) (H H':Hp):Prop:=∀b o,b≠p→H b=some o→H' b=some o
noncomputable def Gk (t:xj):Sp:=fun vs H Q _=>∃(p dx:Addr) (n v:Str),vs=[.ref p,.str n,.str v]∧H p=some (.ins t.mH dx [])∧Q .non (upd H p (.ins t.mH dx (GH n v)))
noncomputable def K0 (K:PySem.W.Frag) (t:xj):Sp:=fun vs H Q _=>∃(p dx a b:Addr) (n:Str) (xs:List Str) (ys:List V),vs=[.ref p,.str n,.ref a,.ref b]∧H p=some (.ins t.jI dx [])∧H a=some (.lst (xs.map V.str))∧H b=some (.lst ys)∧
 ∀H',Off p H H'→QY t H H' p n xs ys→Q .non H'
noncomputable def Va:Sp:=fun vs H Q _=>∃(x y:Str) (m:Int),vs=[.str x,.str y,.int m]∧x.length≤400∧∀l H',qp H H'→H l=none→H' l=some (.lst ((jM (xR x) y m).map V.str))→Q (.ref l) H'
noncomputable def Xm:Sp:=fun vs H Q _=>∃(x:Str),vs=[.str x]∧x.length≤400∧∀H',qp H H'→(vB (xR x)=none→Q .non H')∧∀p m n,vB (xR x)=some (m,n)→H p=none→H' p=some (.tup [.str m,.str n])→Q (.ref p) H'
noncomputable def Vi (t:xj):Sp:=fun vs H Q _=>∃(x:Str),vs=[.str x]∧x.length≤400∧∀H',qp H H'→(i4 (xR x)=none→Q .non H')∧∀p n v,i4 (xR x)=some (n,v)→H p=none→Bv t H' p n v→Q (.ref p) H'
noncomputable def Xp (t:xj):Sp:=fun vs H Q _=>∃(x:Str),vs=[.str x]∧x.length≤400∧∀H',qp H H'→(wm (xR x)=none→Q .non H')∧∀p n rs,wm (xR x)=some (n,rs)→H p=none→BJ t H H' p n rs→Q (.ref p) H'
noncomputable def iZ (t:xj):Sp:=fun vs H Q _=>∃(x:Str),vs=[.str x]∧x.length≤400∧∀H',qp H H'→(jB (xR x)=none→Q .non H')∧∀p k l u a n r,jB (xR x)=some (k,l,u,a,n,r)→H p=none→At t H' p k l u a n r→Q (.ref p) H'
theorem gu {H:Hp} {p dx:Addr} {o o2:HO} (hp:H p=none) (hdx:H dx=none):qp H (upd (upd H dx o) p o2):=fun b u e=>by rw[qB (qg e hp),qB (qg e hdx)];exact e
theorem oY {H H':Hp} {p dx:Addr} {o o2:HO} (hp:H p=none) (hdx:H dx=none) (f:Off p (upd (upd H dx o) p o2) H'):qp H H':=fun b u e=>f b u (qg e hp) (gu hp hdx b u e)
section
variable {P:Program} {w:World} {K:PySem.W.Frag} {mg:Str→Option Value} {base:Heap} {t:xj}
theorem Ji (T:Txt K mg t) (H:Hp):yc K H t.m5 (xy.map V.str):=.inr T.Zb
theorem i9:(xy.map V.str).all fM=true:=by decide +kernel
theorem ir:qX ["self","name","value"] ["self","name","value"] (z6 kz):=⟨rfl,rfl,rfl,by decide +kernel,rfl,by decide +kernel,by decide +kernel⟩
set_option maxHeartbeats 400000 in
theorem oU (T:Txt K mg t):qV P w K mg base jW 1 t.yD t.bZ ["self","name","value"] (Gk t):=by
 refine T.ur.fn.ok ir (fun vs H Q E h=>(by obtain⟨_,_,_,_,rfl,_⟩:=h;rfl)) (fun cdv A outer s H vs Q E hr h=>?_)
 obtain⟨p,dx,n,v,rfl,hp,k⟩:=h
 refine⟨_,(z8 (x8 (pv 0) (pv 1) rfl)
   (qz (x8 (pv 0) (pv 2) rfl))),?_⟩
 refine⟨_,rfl,_,rfl,p,_,dx,[],rfl,hp,T.iM,T.cX,(by show 0 < 1000;decide),?_⟩
 refine⟨_,rfl,_,rfl,p,_,dx,_,rfl,qm,T.iM,T.dk,(by show 1 < 1000;decide),?_⟩
 rw[gs,Y3]
 exact k
theorem nk:qX ["self","name","rooms","rows"] ["self","name","rooms","rows"] (z6 xZ):=⟨rfl,rfl,rfl,by decide +kernel,rfl,by decide +kernel,by decide +kernel⟩
set_option maxHeartbeats 400000 in
theorem bF (T:Txt K mg t):qV P w K mg base jW 1 t.kW t.vX ["self","name","rooms","rows"] (K0 K t):=by
 refine T.yW.fn.ok nk (fun vs H Q E h=>(by obtain⟨_,_,_,_,_,_,_,rfl,_⟩:=h;rfl)) (fun cdv A outer s H vs Q E hr h=>?_)
 obtain⟨p,dx,a,b,n,xs,ys,rfl,hp,hA,hB,k⟩:=h
 refine⟨_,(z8 (x8 (pv 0) (pv 1) rfl)
   (z8 (x8 (pv 0) (j0 (gA (K:=K) rfl) rfl T.mv PyProof.Rows.boot_list (z0 (pv 2) z7)) rfl)
   (qz (x8 (pv 0) (j0 (gA (K:=K) rfl) rfl T.mv PyProof.Rows.boot_list (z0 (pv 3) z7)) rfl)))),?_⟩
 have na:a≠p:=cK hA hp (by intro z;cases z)
 have nb:b≠p:=cK hB hp (by intro z;cases z)
 refine⟨_,rfl,_,rfl,p,_,dx,[],rfl,hp,T.bt,T.yZ,(by show 0 < 1000;decide),?_⟩
 have o1:Off p H (upd H p (.ins t.jI dx (qF "name" (.str n) []))):=fun c o hc e=>by rw[qB hc];exact e
 generalize hH1:upd H p (.ins t.jI dx (qF "name" (.str n) []))=H1 at o1 ⊢
 have e1:H1 p=some (.ins t.jI dx (qF "name" (.str n) [])):=by rw[←hH1];exact qm
 refine⟨_,rfl,a,_,rfl,.inl (qL.of (o1 _ _ na hA)),?_⟩
 intro q1 H2 s2 hq1 e2
 refine⟨_,rfl,p,_,dx,_,rfl,s2 _ _ e1,T.bt,T.gK,(by show 1 < 1000;decide),?_⟩
 have nq1:q1≠p:=Ne.symm (qg e1 hq1)
 have o2:Off p H2 (upd H2 p (.ins t.jI dx (qF "rooms" (.ref q1) (qF "name" (.str n) [])))):=fun c o hc e=>by rw[qB hc];exact e
 generalize hH3:upd H2 p (.ins t.jI dx (qF "rooms" (.ref q1) (qF "name" (.str n) [])))=H3 at o2 ⊢
 have e3:H3 p=some (.ins t.jI dx (qF "rooms" (.ref q1) (qF "name" (.str n) []))):=by rw[←hH3];exact qm
 refine⟨_,rfl,b,_,rfl,.inl (qL.of (o2 _ _ nb (s2 _ _ (o1 _ _ nb hB)))),?_⟩
 intro q2 H4 s4 hq2 e4
 refine⟨_,rfl,p,_,dx,_,rfl,s4 _ _ e3,T.bt,T.dw,?_,?_⟩
 ·have:=xT ("rooms" : Str) (.ref q1) (qF "name" (.str n) [])
  have e:(qF ("name" : Str) (.str n) []).length=1:=rfl
  omega
 have nq2:q2≠p:=Ne.symm (qg e3 hq2)
 rw[Y4]
 refine k _ (fun c o hc e=>by rw[qB hc];exact s4 _ _ (o2 _ _ hc (s2 _ _ (o1 _ _ hc e)))) ⟨dx,q1,q2,qm,?_,?_,?_,?_⟩
 ·rw[qB nq1];exact s4 _ _ (o2 _ _ nq1 e2)
 ·rw[qB nq2];exact e4
 ·rw[←hH1,qB nq1] at hq1;exact hq1
 ·have z:H2 q2=none:=by rw[←hH3,qB nq2] at hq2;exact hq2
  have z1:=s2.free z
  rw[←hH1,qB nq2] at z1;exact z1
theorem fA:qX ["row","word","most","words"] ["row","word","most"] (z6 xq):=⟨rfl,rfl,rfl,by decide +kernel,rfl,by decide +kernel,by decide +kernel⟩
set_option maxHeartbeats 400000 in
theorem lz (T:Txt K mg t):qV P w K mg base jW 4 t.ya t.yi ["row","word","most"] Va:=by
 have G_v_are_names:qV P w K mg base jW 3 t.vb t.vy ["words","most"] (Xx K):=(pD T).mono (by decide)
 refine T.y9.fn.ok fA (fun vs H Q E h=>(by obtain⟨_,_,_,rfl,_⟩:=h;rfl)) (fun cdv A outer s H vs Q E hr h=>?_)
 obtain⟨x,y,m,rfl,hx,k⟩:=h
 refine⟨_,(z8 (qQ (i:=3) fA.nd rfl (Or.inl rfl) (kB PySem.F.plainAttrs_str PySem.F.slot_str_split PySem.F.type_str_split g8 (pv 0) (z0 qk z7)))
   (z8 (qM (PW.pt (wX (qo u5 (qf (qy (K:=K) rfl) (pv 3) z9 (fun _ _=>rfl)) (pv 1) (qZ _)) (wH (wG (jE (qu G_v_are_names hr rfl T.xE.mg T.xE.fn.kp T.xE.bd .nil qJ (z0 (xg (xn (K:=K) rfl) (pv 3) (xp z9) vt) (z0 (pv 2) z7))))))))
    (qz (qr (jq z7))) qt)
   (qz (qr (xg (xn (K:=K) rfl) (pv 3) (xp z9) vt))))),?_⟩
 walk_at "rd"
 refine⟨qv (by omega),?_⟩
 intro lw H1 s1 hlw e1
 have hS:=rW hx
 have hl:=(nX x).1
 have e1':H1 lw=some (.lst ((xR x).map V.str)):=e1
 clear e1
 generalize xR x=ws at *
 walk_at "rd"
 refine jo (fun h1=>?_) (fun h1=>?_)
 ·have n:jM ws y m=[]:=if_pos (.inl (Ze h1))
  walk_at "rd"
  intro l H2 s2 hl2 e2
  exact k l H2 (s1.trans s2) (s1.free hl2) (by rw[n];exact e2)
 have w0:=Zi h1
 walk_at "rd"
 intro lc H2 s2 hlc e2
 replace e2:H2 lc=some (.lst ((ws.drop 1).map V.str)):=by rw[←gF V.str ws 1];exact e2
 refine⟨_,rfl,lc,m,_,rfl,qL.of e2,hS.drop 1,fun H3 s3=>?_⟩
 walk_at "rd"
 cases hN:gz (ws.drop 1) m with
 | false=>
  refine tf ?_
  have n:jM ws y m=[]:=if_pos (.inr hN)
  walk_at "rd"
  intro l H4 s4 hl4 e4
  exact k l H4 (((s1.trans s2).trans s3).trans s4) (((s1.trans s2).trans s3).free hl4) (by rw[n];exact e4)
 | true=>
  refine fG ?_
  have n:jM ws y m=ws.drop 1:=if_neg (fun q=>q.elim (fun q=>q w0) (fun q=>by rw[hN] at q;cases q))
  walk_at "rd"
  intro l H4 s4 hl4 e4
  replace e4:H4 l=some (.lst ((ws.drop 1).map V.str)):=by rw[←gF V.str ws 1];exact e4
  exact k l H4 (((s1.trans s2).trans s3).trans s4) (((s1.trans s2).trans s3).free hl4) (by rw[n];exact e4)
theorem dJ:qX ["row","words"] ["row"] (z6 xX):=⟨rfl,rfl,rfl,by decide +kernel,rfl,by decide +kernel,by decide +kernel⟩
set_option maxHeartbeats 400000 in
theorem tG (T:Txt K mg t):qV P w K mg base jW 3 t.gb t.gy ["row"] Xm:=by
 have G_v_is_name:qV P w K mg base jW 2 t.vW t.vK ["word"] nQ:=(bM T).mono (by decide)
 refine T.bg.fn.ok dJ (fun vs H Q E h=>(by obtain⟨_,rfl,_⟩:=h;rfl)) (fun cdv A outer s H vs Q E hr h=>?_)
 obtain⟨x,rfl,hx,k⟩:=h
 refine⟨_,(z8 (qQ (i:=1) dJ.nd rfl (Or.inl rfl) (kB PySem.F.plainAttrs_str PySem.F.slot_str_split PySem.F.type_str_split g8 (pv 0) (z0 qk z7)))
   (z8 (qM (PW.pt (wX (qo u5 (qi (qD (K:=K) rfl) rfl T.xw PySem.boot_len (z0 (pv 1) z7)) z9 (qZ _)) (wX (qo (fe (K:=K) rfl) (qf (qy (K:=K) rfl) (pv 1) z9 (fun _ _=>rfl)) (jf rfl T.aN (v:=.ref t.m5) rfl) rfl) (wH (wG (jE (qu G_v_is_name hr rfl T.j4.mg T.j4.fn.kp T.j4.bd .nil qJ (z0 (qf (qy (K:=K) rfl) (pv 1) z9 (fun _ _=>rfl)) z7))))))))
    (qz (qr vZ)) qt)
   (qz (qr (xr (z0 (qf (qy (K:=K) rfl) (pv 1) z9 (fun _ _=>rfl)) (z0 (qf (qy (K:=K) rfl) (pv 1) z9 (fun _ _=>rfl)) z7))))))),?_⟩
 walk_at "rd"
 refine⟨qv (by omega),?_⟩
 intro lw H1 s1 hlw e1
 have hS:=rW hx
 have e1':H1 lw=some (.lst ((xR x).map V.str)):=e1
 clear e1
 generalize xR x=ws at *
 refine⟨_,rfl,lw,_,rfl,.inl (qL.of e1'),rfl,_,rfl,?_⟩
 rw[List.length_map]
 have no:∀H',qp H H'→vB ws=none→Q .non H':=fun H' s' e=>(k H' s').1 e
 refine jo (fun h1=>tf (no _ s1 (if_neg fun q=>?_))) (fun h1=>?_)
 ·rw[q.1] at h1;simp at h1
 have hl:ws.length=2:=by
  by_cases q:ws.length=2
  ·exact q
  ·exact absurd (by simp;omega) h1
 walk_at "rd"
 refine⟨_,_,rfl,.inr (Ji T _),rfl,i9,_,rfl,?_⟩
 refine jo (fun h2=>tf (no _ s1 (if_neg fun q=>?_))) (fun h2=>?_)
 ·have z:QJ (.str (wd ws 0)) (xy.map V.str)=false:=uA h2
  rw[z] at q
  cases q.2.1
 have hM:QJ (.str (wd ws 0)) (xy.map V.str)=true:=uE h2
 walk_at "rd"
 refine⟨hS.short _ (cz (by omega)),fun H2 s2=>?_⟩
 walk_at "rd"
 refine jo (fun h3=>no _ (s1.trans s2) (if_neg fun q=>?_)) (fun h3=>?_)
 ·have z:qe (wd ws 1)=false:=uA h3
  rw[z] at q
  cases q.2.2
 have hN:qe (wd ws 1)=true:=uE h3
 walk_at "rd"
 intro p H3 s3 hp e3
 exact(k H3 ((s1.trans s2).trans s3)).2 p (wd ws 0) (wd ws 1) (if_pos ⟨hl,hM,hN⟩) ((s1.trans s2).free hp) e3
theorem cW:qX ["row","words"] ["row"] (z6 kj):=⟨rfl,rfl,rfl,by decide +kernel,rfl,by decide +kernel,by decide +kernel⟩
set_option maxHeartbeats 400000 in
theorem oR (T:Txt K mg t):qV P w K mg base jW 5 t.bV t.bQ ["row"] (Vi t):=by
 have G_v_fits_form:qV P w K mg base jW 4 t.kd t.km ["words","form"] (nu K):=(y7 T).mono (by decide)
 have M_Let_init:qV P w K mg base jW 3 t.yD t.bZ ["self","name","value"] (Gk t):=(oU T).mono (by decide)
 refine T.p8.fn.ok cW (fun vs H Q E h=>(by obtain⟨_,rfl,_⟩:=h;rfl)) (fun cdv A outer s H vs Q E hr h=>?_)
 obtain⟨x,rfl,hx,k⟩:=h
 refine⟨_,(z8 (qQ (i:=1) cW.nd rfl (Or.inl rfl) (kB PySem.F.plainAttrs_str PySem.F.slot_str_split PySem.F.type_str_split g8 (pv 0) (z0 qk z7)))
   (z8 (qM (wG (jE (qu G_v_fits_form hr rfl T.qU.mg T.qU.fn.kp T.qU.bd .nil qJ (z0 (pv 1) (z0 (jq (z0 qk (z0 qk (z0 qk (z0 qk z7))))) z7)))))
    (qz (qr vZ)) qt)
   (qz (qr (wN T.JZ M_Let_init hr rfl T.Vd T.ur.bd .nil qJ (z0 (qf (qy (K:=K) rfl) (pv 1) z9 (fun _ _=>rfl)) (z0 (qf (qy (K:=K) rfl) (pv 1) z9 (fun _ _=>rfl)) z7))))))),?_⟩
 walk_at "rd"
 refine⟨qv (by omega),?_⟩
 intro lw H1 s1 hlw e1
 have hS:=rW hx
 have e1':H1 lw=some (.lst ((xR x).map V.str)):=e1
 clear e1
 generalize xR x=ws at *
 walk_at "rd"
 intro lf H2 s2 hlf e2
 refine⟨lw,lf,ws,Jz,rfl,qL.of (s2 _ _ e1'),qL.of e2,hS,fun H3 s3=>?_⟩
 walk_at "rd"
 refine jo (fun h3=>(k _ ((s1.trans s2).trans s3)).1 (if_neg fun q=>?_)) (fun h3=>?_)
 ·have z:kl ws Jz=false:=uA h3
  rw[z] at q
  cases q
 have hF:kl ws Jz=true:=uE h3
 have hl:ws.length=4:=gM hF
 walk_at "rd"
 intro p dx hp hdx hne
 refine⟨p,dx,_,_,rfl,qm,rfl,?_⟩
 exact(k _ (((s1.trans s2).trans s3).trans (gE hp hdx hne))).2 p _ _ (if_pos hF) (((s1.trans s2).trans s3).free hp) ⟨dx,qm⟩
theorem dQ:qX ["row","words"] ["row"] (z6 xJ):=⟨rfl,rfl,rfl,by decide +kernel,rfl,by decide +kernel,by decide +kernel⟩
set_option maxHeartbeats 400000 in
theorem tY (T:Txt K mg t):qV P w K mg base jW 5 t.gh t.gw ["row"] (Xp t):=by
 have G_v_are_names:qV P w K mg base jW 4 t.vb t.vy ["words","most"] (Xx K):=(pD T).mono (by decide)
 have G_v_fits_form:qV P w K mg base jW 4 t.kd t.km ["words","form"] (nu K):=(y7 T).mono (by decide)
 have M_Part_init:qV P w K mg base jW 3 t.kW t.vX ["self","name","rooms","rows"] (K0 K t):=(bF T).mono (by decide)
 refine T.bw.fn.ok dQ (fun vs H Q E h=>(by obtain⟨_,rfl,_⟩:=h;rfl)) (fun cdv A outer s H vs Q E hr h=>?_)
 obtain⟨x,rfl,hx,k⟩:=h
 refine⟨_,(z8 (qQ (i:=1) dQ.nd rfl (Or.inl rfl) (kB PySem.F.plainAttrs_str PySem.F.slot_str_split PySem.F.type_str_split g8 (pv 0) (z0 qk z7)))
   (z8 (qM (wG (jE (qu G_v_fits_form hr rfl T.qU.mg T.qU.fn.kp T.qU.bd .nil qJ (z0 (xg (xn (K:=K) rfl) (pv 1) vt (xp z9)) (z0 (jq (z0 qk (z0 qk z7))) z7)))))
    (qz (qr vZ)) qt)
   (z8 (qM (qo jY (qi (qD (K:=K) rfl) rfl T.xw PySem.boot_len (z0 (pv 1) z7)) z9 (qZ _))
    (qz (qr (wN T.m7 M_Part_init hr rfl T.uM T.yW.bd .nil qJ (z0 (qf (qy (K:=K) rfl) (pv 1) z9 (fun _ _=>rfl)) (z0 (jq z7) (z0 (jq z7) z7)))))) qt)
   (z8 (qM (PW.pt (wX (qo u5 (qf (qy (K:=K) rfl) (pv 1) z9 (fun _ _=>rfl)) qk (qZ _)) (wH (wG (jE (qu G_v_are_names hr rfl T.xE.mg T.xE.fn.kp T.xE.bd .nil qJ (z0 (xg (xn (K:=K) rfl) (pv 1) (xp z9) vt) (z0 (jf rfl (T.bH).choose_spec (v:=.int 12) ⟨_,rfl⟩) z7))))))))
    (qz (qr vZ)) qt)
   (qz (qr (wN T.m7 M_Part_init hr rfl T.uM T.yW.bd .nil qJ (z0 (qf (qy (K:=K) rfl) (pv 1) z9 (fun _ _=>rfl)) (z0 (xg (xn (K:=K) rfl) (pv 1) (xp z9) vt) (z0 (jq z7) z7)))))))))),?_⟩
 walk_at "rd"
 refine⟨qv (by omega),?_⟩
 intro lw H1 s1 hlw e1
 have hS:=rW hx
 have e1':H1 lw=some (.lst ((xR x).map V.str)):=e1
 clear e1
 generalize xR x=ws at *
 walk_at "rd"
 intro lc H2 s2 hlc e2
 replace e2:H2 lc=some (.lst ((ws.take 2).map V.str)):=by rw[←pQ V.str ws 2];exact e2
 walk_at "rd"
 intro lf H3 s3 hlf e3
 refine⟨lc,lf,ws.take 2,uZ,rfl,qL.of (s3 _ _ e2),qL.of e3,hS.take 2,fun H4 s4=>?_⟩
 have sA:qp H H4:=((s1.trans s2).trans s3).trans s4
 walk_at "rd"
 refine jo (fun h3=>(k _ sA).1 (if_neg fun q=>?_)) (fun h3=>?_)
 ·have z:kl (ws.take 2) uZ=false:=uA h3
  rw[z] at q
  cases q
 have hF:kl (ws.take 2) uZ=true:=uE h3
 have hl:2≤ws.length:=by have:(ws.take 2).length=2:=gM hF;rw[List.length_take] at this;omega
 have e4:H4 lw=some (.lst (ws.map V.str)):=s4 _ _ (s3 _ _ (s2 _ _ e1'))
 clear e1' e2 e3 s1 s2 s3 s4
 refine⟨_,rfl,lw,_,rfl,.inl (qL.of e4),rfl,_,rfl,?_⟩
 rw[List.length_map]
 refine jo (fun h4=>?_) (fun h4=>?_)
 ·have hl2:ws.length=2:=by have:=of_decide_eq_true h4;injection this with this;omega
  walk_at "rd"
  intro a1 H5 s5 ha1 e5
  walk_at "rd"
  intro a2 H6 s6 ha2 e6
  walk_at "rd"
  intro p dx hp hdx hne
  have sM:=gu (o:=HO.own p) (o2:=HO.ins t.jI dx []) hp hdx
  refine⟨p,dx,a1,a2,_,[],[],rfl,qm,sM _ _ (s6 _ _ e5),sM _ _ e6,fun H7 o7 h7=>⟨rfl,?_⟩⟩
  exact(k H7 (((sA.trans s5).trans s6).trans (oY hp hdx o7))).2 p _ _ (by unfold wm;rw[if_pos hF,if_pos hl2];rfl) (((sA.trans s5).trans s6).free hp) (h7.back (((sA.trans s5).trans s6).trans sM))
 have hl3:¬ws.length=2:=fun q=>h4 (decide_eq_true (by rw[q];rfl))
 walk_at "rd"
 refine jo (fun h5=>tf ((k _ sA).1 ?_)) (fun h5=>?_)
 ·unfold wm
  rw[if_pos hF,if_neg hl3,if_pos (.inl (Ze h5))]
 have hin:wd ws 2 = "in":=Zi h5
 walk_at "rd"
 intro lc H5 s5 hlc e5
 replace e5:H5 lc=some (.lst ((ws.drop 3).map V.str)):=by rw[←gF V.str ws 3];exact e5
 refine⟨lc,_,_,rfl,qL.of e5,hS.drop 3,fun H6 s6=>?_⟩
 walk_at "rd"
 refine jo (fun h6=>(k _ ((sA.trans s5).trans s6)).1 ?_) (fun h6=>?_)
 ·unfold wm
  rw[if_pos hF,if_neg hl3,if_pos (.inr (uA h6))]
 have hN:gz (ws.drop 3) 12=true:=uE h6
 have e6:H6 lw=some (.lst (ws.map V.str)):=s6 _ _ (s5 _ _ e4)
 clear e4 e5
 walk_at "rd"
 intro a1 H7 s7 ha1 e7
 replace e7:H7 a1=some (.lst ((ws.drop 3).map V.str)):=by rw[←gF V.str ws 3];exact e7
 walk_at "rd"
 intro a2 H8 s8 ha2 e8
 walk_at "rd"
 intro p dx hp hdx hne
 have sM:=gu (o:=HO.own p) (o2:=HO.ins t.jI dx []) hp hdx
 refine⟨p,dx,a1,a2,_,_,[],rfl,qm,sM _ _ (s8 _ _ e7),sM _ _ e8,fun H9 o9 h9=>⟨rfl,?_⟩⟩
 exact(k H9 (((((sA.trans s5).trans s6).trans s7).trans s8).trans (oY hp hdx o9))).2 p _ _ (by unfold wm;rw[if_pos hF,if_neg hl3,if_neg (fun q=>q.elim (fun q=>q hin) (fun q=>by rw[hN] at q;cases q))];rfl) (((((sA.trans s5).trans s6).trans s7).trans s8).free hp) (h9.back (((((sA.trans s5).trans s6).trans s7).trans s8).trans sM))
theorem pE:qX ["row","words"] ["row"] (z6 jT):=⟨rfl,rfl,rfl,by decide +kernel,rfl,by decide +kernel,by decide +kernel⟩
set_option maxHeartbeats 400000 in
theorem u0 (T:Txt K mg t):qV P w K mg base jW 5 t.wR t.wD ["row"] (iZ t):=by
 have G_v_fits_form:qV P w K mg base jW 4 t.kd t.km ["words","form"] (nu K):=(y7 T).mono (by decide)
 have G_v_number_of:qV P w K mg base jW 4 t.vp t.vg ["word"] Xb:=(pC T).mono (by decide)
 have M_Ban_init:qV P w K mg base jW 3 t.wW t.bo ["self","label","who","act","room"] (KA K):=(oM T).mono (by decide)
 have M_Clause_init:qV P w K mg base jW 3 t.qE t.xG ["self","label","who","act"] (Xg K):=(wb T).mono (by decide)
 have M_Duty_init:qV P w K mg base jW 3 t.vV t.gk ["self","label","who","act","turns","room"] (Gj K):=(tV T).mono (by decide)
 have M_Power_init:qV P w K mg base jW 3 t.kS t.yo ["self","label","who","act","room"] (KA K):=(rA T).mono (by decide)
 refine T.yf.fn.ok pE (fun vs H Q E h=>(by obtain⟨_,rfl,_⟩:=h;rfl)) (fun cdv A outer s H vs Q E hr h=>?_)
 obtain⟨x,rfl,hx,k⟩:=h
 refine⟨_,(z8 (qQ (i:=1) pE.nd rfl (Or.inl rfl) (kB PySem.F.plainAttrs_str PySem.F.slot_str_split PySem.F.type_str_split g8 (pv 0) (z0 qk z7)))
   (z8 (qM (jE (qu G_v_fits_form hr rfl T.qU.mg T.qU.fn.kp T.qU.bd .nil qJ (z0 (pv 1) (z0 (jq (z0 qk (z0 qk (z0 qk (z0 qk (z0 qk (z0 qk (z0 qk (z0 qk z7))))))))) z7))))
    (qz (qr (wN T.tZ M_Duty_init hr rfl T.Js T.dF.bd .nil qJ (z0 (qf (qy (K:=K) rfl) (pv 1) z9 (fun _ _=>rfl)) (z0 (qf (qy (K:=K) rfl) (pv 1) z9 (fun _ _=>rfl)) (z0 (qf (qy (K:=K) rfl) (pv 1) z9 (fun _ _=>rfl)) (z0 (qu G_v_number_of hr rfl T.xA.mg T.xA.fn.kp T.xA.bd .nil qJ (z0 (qf (qy (K:=K) rfl) (pv 1) z9 (fun _ _=>rfl)) z7)) (z0 (qf (qy (K:=K) rfl) (pv 1) z9 (fun _ _=>rfl)) z7)))))))) qt)
   (z8 (qM (jE (qu G_v_fits_form hr rfl T.qU.mg T.qU.fn.kp T.qU.bd .nil qJ (z0 (pv 1) (z0 (jq (z0 qk (z0 qk (z0 qk (z0 qk z7))))) z7))))
    (qz (qr (wN T.uC M_Clause_init hr rfl T.tu T.vQ.bd .nil qJ (z0 (qf (qy (K:=K) rfl) (pv 1) z9 (fun _ _=>rfl)) (z0 (qf (qy (K:=K) rfl) (pv 1) z9 (fun _ _=>rfl)) (z0 (qf (qy (K:=K) rfl) (pv 1) z9 (fun _ _=>rfl)) z7)))))) qt)
   (z8 (qM (jE (qu G_v_fits_form hr rfl T.qU.mg T.qU.fn.kp T.qU.bd .nil qJ (z0 (pv 1) (z0 (jq (z0 qk (z0 qk (z0 qk (z0 qk (z0 qk (z0 qk (z0 qk z7)))))))) z7))))
    (qz (qr (wN T.ez M_Ban_init hr rfl T.Vm T.uc.bd .nil qJ (z0 (qf (qy (K:=K) rfl) (pv 1) z9 (fun _ _=>rfl)) (z0 (qf (qy (K:=K) rfl) (pv 1) z9 (fun _ _=>rfl)) (z0 (qf (qy (K:=K) rfl) (pv 1) z9 (fun _ _=>rfl)) (z0 (qf (qy (K:=K) rfl) (pv 1) z9 (fun _ _=>rfl)) z7))))))) qt)
   (z8 (qM (jE (qu G_v_fits_form hr rfl T.qU.mg T.qU.fn.kp T.qU.bd .nil qJ (z0 (pv 1) (z0 (jq (z0 qk (z0 qk (z0 qk (z0 qk (z0 qk (z0 qk z7))))))) z7))))
    (qz (qr (wN T.uU M_Power_init hr rfl T.Zv T.mq.bd .nil qJ (z0 (qf (qy (K:=K) rfl) (pv 1) z9 (fun _ _=>rfl)) (z0 (qf (qy (K:=K) rfl) (pv 1) z9 (fun _ _=>rfl)) (z0 (qf (qy (K:=K) rfl) (pv 1) z9 (fun _ _=>rfl)) (z0 (qf (qy (K:=K) rfl) (pv 1) z9 (fun _ _=>rfl)) z7))))))) qt)
   (qz (qr vZ))))))),?_⟩
 walk_at "rd"
 refine⟨qv (by omega),?_⟩
 intro lw H1 s1 hlw e1
 have hS:=rW hx
 have e1':H1 lw=some (.lst ((xR x).map V.str)):=e1
 clear e1
 generalize xR x=ws at *
 walk_at "rd"
 intro lf H2 s2 hlf e2
 refine⟨lw,lf,ws,aU,rfl,qL.of (s2 _ _ e1'),qL.of e2,hS,fun H3 s3=>?_⟩
 have e3:H3 lw=some (.lst (ws.map V.str)):=s3 _ _ (s2 _ _ e1')
 have sA:qp H H3:=(s1.trans s2).trans s3
 clear e1' e2 s1 s2 s3
 walk_at "rd"
 refine jo (fun h1=>?_) (fun h1=>?_)
 ·have hl:ws.length=8:=gM h1
  walk_at "rd"
  refine⟨hS.short _ (cz (by omega)),fun H4 s4=>?_⟩
  have e4:H4 lw=some (.lst (ws.map V.str)):=s4 _ _ e3
  clear e3
  walk_at "rd"
  intro p dx hp hdx hne
  refine⟨p,_,dx,_,_,_,_,_,_,rfl,aK T,qm,rfl,?_⟩
  exact(k _ ((sA.trans s4).trans (gE hp hdx hne))).2 p 0 _ _ _ _ _ (by unfold jB;rw[if_pos h1];rfl) ((sA.trans s4).free hp) ⟨dx,qm⟩
 have f1:¬kl ws aU=true:=h1
 walk_at "rd"
 intro lf2 H4 s4 hlf2 e4
 refine⟨lw,lf2,ws,sT,rfl,qL.of (s4 _ _ e3),qL.of e4,hS,fun H5 s5=>?_⟩
 have e5:H5 lw=some (.lst (ws.map V.str)):=s5 _ _ (s4 _ _ e3)
 have sB:qp H H5:=(sA.trans s4).trans s5
 clear e3 e4 s4 s5 sA
 walk_at "rd"
 refine jo (fun h2=>?_) (fun h2=>?_)
 ·have hl:ws.length=4:=gM h2
  walk_at "rd"
  intro p dx hp hdx hne
  refine⟨p,_,dx,_,_,_,_,rfl,nT T,qm,rfl,?_⟩
  exact(k _ (sB.trans (gE hp hdx hne))).2 p 1 _ _ _ 0 "" (by unfold jB;rw[if_neg f1,if_pos h2];rfl) (sB.free hp) ⟨dx,qm⟩
 have f2:¬kl ws sT=true:=h2
 walk_at "rd"
 intro lf3 H6 s6 hlf3 e6
 refine⟨lw,lf3,ws,X7,rfl,qL.of (s6 _ _ e5),qL.of e6,hS,fun H7 s7=>?_⟩
 have e7:H7 lw=some (.lst (ws.map V.str)):=s7 _ _ (s6 _ _ e5)
 have sC:qp H H7:=(sB.trans s6).trans s7
 clear e5 e6 s6 s7 sB
 walk_at "rd"
 refine jo (fun h3=>?_) (fun h3=>?_)
 ·have hl:ws.length=7:=gM h3
  walk_at "rd"
  intro p dx hp hdx hne
  refine⟨p,_,dx,_,_,_,_,_,rfl,QN T,qm,rfl,?_⟩
  exact(k _ (sC.trans (gE hp hdx hne))).2 p 2 _ _ _ 0 _ (by unfold jB;rw[if_neg f1,if_neg f2,if_pos h3];rfl) (sC.free hp) ⟨dx,qm⟩
 have f3:¬kl ws X7=true:=h3
 walk_at "rd"
 intro lf4 H8 s8 hlf4 e8
 refine⟨lw,lf4,ws,iU,rfl,qL.of (s8 _ _ e7),qL.of e8,hS,fun H9 s9=>?_⟩
 have e9:H9 lw=some (.lst (ws.map V.str)):=s9 _ _ (s8 _ _ e7)
 have sD:qp H H9:=(sC.trans s8).trans s9
 clear e7 e8 s8 s9 sC
 walk_at "rd"
 refine jo (fun h4=>?_) (fun h4=>?_)
 ·have hl:ws.length=6:=gM h4
  walk_at "rd"
  intro p dx hp hdx hne
  refine⟨p,_,dx,_,_,_,_,_,rfl,nN T,qm,rfl,?_⟩
  exact(k _ (sD.trans (gE hp hdx hne))).2 p 3 _ _ _ 0 _ (by unfold jB;rw[if_neg f1,if_neg f2,if_neg f3,if_pos h4];rfl) (sD.free hp) ⟨dx,qm⟩
 exact(k _ sD).1 (by unfold jB;rw[if_neg f1,if_neg f2,if_neg f3,if_neg h4])
end
theorem boot_set:bootBuiltins (Str.ofString "set")=some (Value.type "set"):=by kernel_rfl
noncomputable def Q6 (t:xj) (n:Int) (H:Hp):XK:=fun c o H'=>∃a,o=some a∧c=.ref t.qO∧qp H H'∧VS H' a t.qO [("row",.int n)]
theorem Q6.back {t:xj} {n:Int} {H0 H:Hp} {c:Value} {o:Option Addr} {H':Hp} (h:Q6 t n H c o H') (s:qp H0 H):Q6 t n H0 c o H':=by
 obtain⟨a,h1,h2,h3,h4⟩:=h
 exact⟨a,h1,h2,s.trans h3,h4⟩
noncomputable def Qf (K:PySem.W.Frag) (f:Str):Sp:=fun vs H Q _=>∃(a C:Addr) (v:V),vs=[.ref a,v]∧Vq K C∧qH K C f∧H a=some (xN a C none)∧∀dx,H dx=none→dx≠a→Q .non (upd (upd H dx (xD dx [(f,v)])) a (xN a C (some dx)))
structure mx (rows:List Str):Prop where
 sN:rows.length≤400
 short:∀x∈rows,x.length≤400
noncomputable def ji (rows:List Str) (i:Nat) (x:Str) (m:Int) (taken:List Str):Option (List Str):=
 if i=rows.length then none else
  let ns:=jM (xR (wd rows i)) x m
  if ns=[]∨¬(taken ++ ns).Nodup then none else some ns
theorem Ww {z:Str} {c:Nat} (h:has z c=true):c∈z.cps.toList:=by
 unfold has at h
 rw[StrLaws.found_one] at h
 simpa using h
theorem uS {x:Str} (h:qe x=true):asc x:=fun c hc=>by
 unfold qe pk at h
 (simp only[Bool.and_eq_true] at h)
 exact Zj.2.2 c (Ww (List.all_eq_true.mp h.1.2 c hc))
theorem Z3 {ws:List Str} {x:Str} {m:Int}:(jM ws x m).length≤ws.length∧∀y∈jM ws x m,qe y=true:=by
 unfold jM
 split
 ·exact⟨Nat.zero_le _,fun y hy=>by cases hy⟩
 ·rename_i h
  refine⟨by rw[List.length_drop];omega,fun y hy=>?_⟩
  have:gz (ws.drop 1) m=true:=by
   cases q:gz (ws.drop 1) m with
   | true=>rfl
   | false=>exact absurd (.inr q) h
  unfold gz at this
  rw[Bool.and_eq_true] at this
  exact List.all_eq_true.mp this.2 y hy
noncomputable def eD (K:PySem.W.Frag):Sp:=fun vs H Q _=>∃(l:Addr) (zs:List Str),vs=[.ref l]∧qL K H l (zs.map V.str)∧zs.length < 1000∧∀H',qp H H'→Q (.bl (decide zs.Nodup)) H'
noncomputable def Gv (K:PySem.W.Frag) (t:xj):Sp:=fun vs H Q E=>∃(a b:Addr) (i:Nat) (x:Str) (m:Int) (rows taken:List Str),vs=[.ref a,.int i,.str x,.int m,.ref b]∧qL K H a (rows.map V.str)∧H b=some (.lst (taken.map V.str))∧i≤rows.length∧mx rows∧taken.length≤300∧m≤100∧
 (ji rows i x m taken=none→∀c o H',Q6 t i H c o H'→E c o H')∧∀ns l H',ji rows i x m taken=some ns→qp H H'→H l=none→H' l=some (.lst (ns.map V.str))→Q (.ref l) H'
section
variable {P:Program} {w:World} {K:PySem.W.Frag} {mg:Str→Option Value} {base:Heap} {t:xj}
theorem rf:qX ["self","row"] ["self","row"] (z6 jS):=⟨rfl,rfl,rfl,by decide +kernel,rfl,by decide +kernel,by decide +kernel⟩
set_option maxHeartbeats 400000 in
theorem y3 (T:Txt K mg t):qV P w K mg base jW 1 t.xH t.kf ["self","row"] (Qf K "row"):=by
 refine T.xS.fn.ok rf (fun vs H Q E h=>(by obtain⟨_,_,_,rfl,_⟩:=h;rfl)) (fun cdv A outer s H vs Q E hr h=>?_)
 obtain⟨a,C,v,rfl,c,n,e,k⟩:=h
 exact⟨_,(qz (KW (pv 0) (pv 1) rfl)),_,rfl,_,rfl,a,C,rfl,c,n,.inl ⟨e,k⟩⟩
theorem WI {C:Addr} {f:Str} {v:V} {H:Hp} {E:XK} {X:XK} (c:Vq K C) (n:qH K C f) (xc:bb K C=true) (k:∀a H',qp H H'→VS H' a C [(f,v)]→E (.ref C) (some a) H') :
  ∀a,H a=none→Qf K f (.ref a :: ([v] ++ [])) (upd H a (xN a C none)) (fun u H2=>u=.non∧∃a' C' d,V.ref a=.ref a'∧bb K C'=true∧H2 a'=some (xN a' C' d)∧E (.ref C') (some a') (upd H2 a' (xO a' C' d))) X:=by
 intro a ha
 refine⟨a,C,v,rfl,c,n,qm,fun dx hd hne=>⟨rfl,a,C,some dx,rfl,xc,qm,k a _ (fun b o e=>?_) (.inr ⟨dx,qm,?_⟩)⟩⟩
 ·have q:=qg e ha
  have e':(upd H a (xN a C none)) b=some o:=by rw[qB q];exact e
  rw[qB q,qB q,qB (qg e' hd)];exact e'
 ·rw[qB hne,qB hne];exact qm
theorem bU (T:Txt K mg t) {n:Int} {H:Hp} {E:XK} {X:XK} (k:∀c o H',Q6 t n H c o H'→E c o H') :
  ∀a,H a=none→Qf K "row" (.ref a :: ([V.int n] ++ [])) (upd H a (xN a t.qO none)) (fun u H2=>u=.non∧∃a' C' d,V.ref a=.ref a'∧bb K C'=true∧H2 a'=some (xN a' C' d)∧E (.ref C') (some a') (upd H2 a' (xO a' C' d))) X:=
 WI T.si T.vm T.vP.xc fun a H' s x=>k _ _ _ ⟨a,rfl,rfl,s,x⟩
theorem rJ:qX ["names"] ["names"] (z6 jO):=⟨rfl,rfl,rfl,by decide +kernel,rfl,by decide +kernel,by decide +kernel⟩
set_option maxHeartbeats 400000 in
theorem pU (T:Txt K mg t):qV P w K mg base jW 1 t.vf t.vh ["names"] (eD K):=by
 refine T.x6.fn.ok rJ (fun vs H Q E h=>(by obtain⟨_,_,rfl,_⟩:=h;rfl)) (fun cdv A outer s H vs Q E hr h=>?_)
 obtain⟨l,zs,rfl,hl,hn,k⟩:=h
 refine⟨_,(qz (qr (k6 jY (qi ZG rfl T.xw PySem.boot_len (z0 (j0 (Kh (K:=K) rfl rfl) rfl T.Vx boot_set (z0 (pv 0) z7)) z7)) (qi (qD (K:=K) rfl) rfl T.xw PySem.boot_len (z0 (pv 0) z7)) (qZ _)))),?_⟩
 refine⟨_,rfl,l,zs,rfl,hl,hn,fun a ha=>?_⟩
 refine⟨a,_,rfl,qm,?_⟩
 have s1:qp H (upd H a (Yl P w a (oj [] zs))):=qp.dE ha
 refine⟨_,rfl,l,_,rfl,.inl (s1.seq hl),rfl,?_⟩
 rw[show decide (V.int ((oj [] zs:Nat):Int)=V.int ((zs.map V.str).length:Nat))=decide zs.Nodup from by rw[List.length_map,←V3];simp]
 exact k _ s1
theorem b9:qX ["rows","number","word","most","taken","names"] ["rows","number","word","most","taken"] (z6 jZ):=⟨rfl,rfl,rfl,by decide +kernel,rfl,by decide +kernel,by decide +kernel⟩
set_option maxHeartbeats 400000 in
theorem cF (T:Txt K mg t):qV P w K mg base (sQ P w) 6 t.vI t.vL ["rows","number","word","most","taken"] (Gv K t):=by
 have G_v_names_of:qV P w K mg base jW 5 t.ya t.yi ["row","word","most"] Va:=(lz T).mono (by decide)
 have G_v_told_once:qV P w K mg base jW 5 t.vf t.vh ["names"] (eD K):=(pU T).mono (by decide)
 have M_NoText_init:qV P w K mg base jW 4 t.xH t.kf ["self","row"] (Qf K "row"):=(y3 T).mono (by decide)
 refine T.xW.fn.GC b9 (fun vs H Q E h=>(by obtain⟨_,_,_,_,_,_,_,rfl,_⟩:=h;rfl)) (fun cdv A outer s H vs Q E hr h=>?_)
 obtain⟨a,b,i,x,m,rows,taken,rfl,hA,hB,hi,hR,hT,hm,kE,kQ⟩:=h
 refine⟨_,(z8 (qM (qo jY (pv 1) (qi (qD (K:=K) rfl) rfl T.xw PySem.boot_len (z0 (pv 0) z7)) (qZ _))
    (qz (hU fQ rfl (hZ T.vP M_NoText_init hr rfl T.yv T.xS.bd .nil qJ (z0 (pv 1) z7)))) qt)
   (z8 (qQ (i:=5) b9.nd rfl (Or.inl rfl) (qu G_v_names_of hr rfl T.y9.mg T.y9.fn.kp T.y9.bd .nil qJ (z0 (qf (qy (K:=K) rfl) (pv 0) (pv 1) (fun _ _=>rfl)) (z0 (pv 2) (z0 (pv 3) z7)))))
   (z8 (qM (PW.pt (wX (qo (Zp (K:=K) rfl hr.units) (pv 5) (jq z7) (qZ _)) (wH (wG (jE (qu G_v_told_once hr rfl T.x6.mg T.x6.fn.kp T.x6.bd .nil qJ (z0 (qw wy (pv 4) (pv 5)) z7)))))))
    (qz (hU fQ rfl (hZ T.vP M_NoText_init hr rfl T.yv T.xS.bd .nil qJ (z0 (pv 1) z7)))) qt)
   (qz (qr (pv 5)))))),?_⟩
 walk_at "rd"
 refine⟨a,_,rfl,.inl hA,rfl,_,rfl,?_⟩
 refine jo (fun h1=>?_) (fun h1=>?_)
 ·walk_at "rd"
  exact bU T (kE (by
   have:(i:Int)=((rows.map V.str).length:Nat):=by simpa using h1
   rw[List.length_map] at this
   unfold ji;rw[if_pos (by omega)]))
 have hi':i < rows.length:=by
  have:¬(i:Int)=((rows.map V.str).length:Nat):=by simpa using h1
  rw[List.length_map] at this;omega
 have hwd:wd rows i∈rows:=cz hi'
 have eR:ji rows i x m taken=(if jM (xR (wd rows i)) x m=[]∨¬(taken ++ jM (xR (wd rows i)) x m).Nodup then none else some (jM (xR (wd rows i)) x m)):=by
  unfold ji;rw[if_neg (by omega)]
 walk_at "rd"
 simp only[Int.toNat_natCast]
 refine⟨hR.short _ hwd,fun l H1 s1 hl e1=>?_⟩
 have e1':H1 l=some (.lst ((jM (xR (wd rows i)) x m).map V.str)):=e1
 clear e1
 have hn:=@Z3 (xR (wd rows i)) x m
 have hw:=(nX (wd rows i)).2
 have hw2:=hR.short _ hwd
 have hb:(jM (xR (wd rows i)) x m).length≤402:=by omega
 have ho:=hn.2
 clear hn hw hw2
 generalize jM (xR (wd rows i)) x m=ns at *
 have sh:SeqAt.shaped (.list (ns.map PyData.str))=true:=yg fun y hy=>(uS (ho y hy)).ok
 walk_at "rd"
 intro l2 H2 s2 hl2 e2
 have sh0:SeqAt.shaped (.list (([]:List Str).map PyData.str))=true:=yg (xs:=[]) fun y hy=>by cases hy
 refine⟨_,_,sX.lst (qL.of (s2 _ _ e1')) (bf.strs ns),sX.lst (qL.of e2) (bf.strs []),sh,sh0,_,rfl,?_⟩
 rw[ow]
 refine jo (fun h2=>?_) (fun h2=>?_)
 ·walk_at "rd"
  exact bU T fun c o H' z=>kE (by rw[eR,if_pos (.inl (of_decide_eq_true h2))]) c o H' (z.back (s1.trans s2))
 have hne:¬ns=[]:=fun q=>h2 (decide_eq_true q)
 walk_at "rd"
 refine⟨b,l,_,_,rfl,rfl,s2 _ _ (s1 _ _ hB),s2 _ _ e1',qv (by simp only[List.length_map];omega),?_⟩
 intro l3 H3 s3 hl3 e3
 refine⟨l3,taken ++ ns,rfl,qL.of (by rw[e3,List.map_append]),(by rw[List.length_append];omega),fun H4 s4=>?_⟩
 have sA:qp H H4:=((s1.trans s2).trans s3).trans s4
 walk_at "rd"
 refine jo (fun h3=>?_) (fun h3=>?_)
 ·walk_at "rd"
  exact bU T fun c o H' z=>kE (by rw[eR,if_pos (.inr (of_decide_eq_false (uA h3)))]) c o H' (z.back sA)
 walk_at "rd"
 exact kQ ns l H4 (by rw[eR,if_neg (fun q=>q.elim hne (fun q=>q (of_decide_eq_true (uE h3))))]) sA hl (s4 _ _ (s3 _ _ (s2 _ _ e1')))
noncomputable def jd (taken:List Str):List (Str × Str)→List Str→Except Nat (List (Str × Str))
 | found,[]=>if found=[] then .error 2 else .ok found
 | found,x :: r=>match vB (xR x) with
  | none=>if found=[] then .error 2 else .ok found
  | some mn=>if found.length=12∨¬(taken ++ (found ++ [mn]).map (·.2)).Nodup then .error (2 + found.length) else jd taken (found ++ [mn]) r
noncomputable def ka (H:Hp) (v:V) (mn:Str × Str):Prop:=∃p,v=.ref p∧H p=some (.tup [.str mn.1,.str mn.2])
noncomputable def fY (mn:Str × Str):Prop:=mn.1∈xy∧qe mn.2=true
theorem J3 {ws:List Str} {m n:Str} (h:vB ws=some (m,n)):fY (m,n):=by
 unfold vB at h
 split at h
 ·rename_i q
  cases h
  rw[mE] at q
  exact⟨of_decide_eq_true q.2.1,q.2.2⟩
 ·cases h
theorem Je:∀x∈xy,PyData.strOk x=true:=by decide +kernel
noncomputable def Yu (mn:Str × Str):PyData:=.tuple [.str mn.1,.str mn.2]
theorem J1:∀{fnd:List (Str × Str)},(∀mn∈fnd,fY mn)→PyData.canLayAll0 (fnd.map Yu)=true∧PyData.depthAll (fnd.map Yu)≤2
 | [],_=>⟨rfl,Nat.zero_le _⟩
 | mn :: r,h=>by
  have q:=J1 (fnd:=r) fun x hx=>h x (List.mem_cons_of_mem _ hx)
  have h1:=Je _ (h mn List.mem_cons_self).1
  have h2:=(uS (h mn List.mem_cons_self).2).ok
  have q2:=q.2
  simp [PyData.canLayAll0,PyData.canLay0,PyData.depthAll,PyData.depth,Yu,q.1,h1,h2]
  omega
theorem Qx {fnd:List (Str × Str)} (h:∀mn∈fnd,fY mn):SeqAt.shaped (.list (fnd.map Yu))=true:=by
 have q:=J1 h
 simp [SeqAt.shaped,PyData.canLay0,PyData.depth,q.1]
 omega
theorem ka.same {H H':Hp} {v:V} {mn:Str × Str} (h:ka H v mn) (s:qp H H'):ka H' v mn:=by
 obtain⟨p,e,q⟩:=h
 exact⟨p,e,s _ _ q⟩
theorem ka.keeps {H H':Hp} {v:V} {mn:Str × Str} {l:Addr} {xs:List V} (h:ka H v mn) (k:Keeps l H H') (e:H l=some (.lst xs)):ka H' v mn:=by
 obtain⟨p,e',q⟩:=h
 exact⟨p,e',k.look q (cK q e (by intro z;cases z))⟩
theorem Paired.snoc {α β:Type} {F:α→β→Prop} {a:α} {b:β}:∀{xs:List α} {ys:List β},Paired F xs ys→F a b→Paired F (xs ++ [a]) (ys ++ [b])
 | [],[],_,h=>.cons h .nil
 | _ :: _,_ :: _,.cons h t,q=>.cons h (Paired.snoc t q)
noncomputable def QW (H:Hp) (y:V):List (Option V):=match y with
 | .ref p=>(match H p with | some (.tup [u,v])=>[some u,some v] | _=>[none,none])
 | _=>[none,none]
theorem ZQ (H:Hp) (y:V):(QW H y).length=2:=by
 unfold QW
 split
 ·split<;>rfl
 ·rfl
theorem Paired.Ja {α β:Type} {F:α→β→Prop} {a:α}:∀{xs:List α} {ys:List β},Paired F xs ys→a∈xs→∃b∈ys,F a b
 | _ :: _,_ :: _,.cons h t,q=>by
  rcases List.mem_cons.mp q with rfl | q
  ·exact⟨_,List.mem_cons_self,h⟩
  ·obtain⟨b,hb,hF⟩:=Paired.Ja t q
   exact⟨b,List.mem_cons_of_mem _ hb,hF⟩
theorem ma {H:Hp}:∀{vs:List V} {fnd:List (Str × Str)} {ys:List V},Paired (ka H) vs fnd→Paired (fun y v=>∀p m n,y=V.ref p→H p=some (.tup [.str m,.str n])→v=V.str n) vs ys→ys=(fnd.map (·.2)).map V.str
 | [],[],[],_,_=>rfl
 | _ :: _,_ :: _,_ :: _,.cons ⟨p,e,q⟩ t,.cons h t'=>by
  rw[h p _ _ e q,ma t t']
  rfl
theorem iw {K:PySem.W.Frag} {H:Hp}:∀{vs:List V} {fnd:List (Str × Str)},Paired (ka H) vs fnd→bf K H vs (fnd.map Yu)
 | [],[],_=>.nil
 | _ :: _,_ :: _,.cons ⟨p,e,q⟩ t=>by
  subst e
  exact .cons (sX.tup (yc.of q) (.cons (.str _) (.cons (.str _) .nil))) (iw t)
theorem WA (fnd:List (Str × Str)):PyData.eqv (.list (fnd.map Yu)) (.list (([]:List Str).map PyData.str))=decide (fnd=[]):=by
 cases fnd<;>simp [PyData.eqv,PyData.eqvAll]
noncomputable def Gw (K:PySem.W.Frag) (t:xj):Sp:=fun vs H Q E=>∃(a b:Addr) (rows taken:List Str),vs=[.ref a,.ref b]∧qL K H a (rows.map V.str)∧H b=some (.lst (taken.map V.str))∧mx rows∧taken.length≤400∧
 (∀n:Nat,jd taken [] (rows.drop 2)=.error n→∀c o H',Q6 t n H c o H'→E c o H')∧∀rs l H' vs,jd taken [] (rows.drop 2)=.ok rs→qp H H'→H l=none→H' l=some (.lst vs)→Paired (ka H') vs rs→Q (.ref l) H'
theorem vo:qX ["rows","taken","rooms","row","room"] ["rows","taken"] (z6 jc):=⟨rfl,rfl,rfl,by decide +kernel,rfl,by decide +kernel,by decide +kernel⟩
set_option maxHeartbeats 400000 in
theorem cM (T:Txt K mg t):qV P w K mg base (sQ P w) 6 t.vE t.vS ["rows","taken"] (Gw K t):=by
 have G_v_room_of:qV P w K mg base jW 5 t.gb t.gy ["row"] Xm:=(tG T).mono (by decide)
 have G_v_told_once:qV P w K mg base jW 5 t.vf t.vh ["names"] (eD K):=(pU T).mono (by decide)
 have M_NoText_init:qV P w K mg base jW 4 t.xH t.kf ["self","row"] (Qf K "row"):=(y3 T).mono (by decide)
 refine T.wa.fn.GC vo (fun vs H Q E h=>(by obtain⟨_,_,_,_,rfl,_⟩:=h;rfl)) (fun cdv A outer s H vs Q E hr h=>?_)
 obtain⟨a,b,rows,taken,rfl,hA,hB,hR,hT,kE,kQ⟩:=h
 refine⟨_,(z8 (qQ (i:=2) vo.nd rfl (Or.inl rfl) (jq z7) bT)
   (z8 (PS.join (pT PassesOwn.leaving rfl (wc (K:=K) rfl (xg (xn (K:=K) rfl) (pv 0) (xp (jf rfl (T.wz).choose_spec (v:=.int 2) ⟨_,rfl⟩)) vt)) (jy (i:=3) vo.nd rfl (Or.inl rfl))
    (z8 (qQ (i:=4) vo.nd rfl (Or.inl rfl) (qu G_v_room_of hr rfl T.bg.mg T.bg.fn.kp T.bg.bd .nil qJ (z0 (pv 3) z7)))
   (z8 (qM (qo tP (pv 4) vZ (qZ _))
    (qz (JO)) qt)
   (z8 (qM (PW.pt (wX (qo jY (qi (qD (K:=K) rfl) rfl T.xw PySem.boot_len (z0 (pv 2) z7)) (jf rfl (T.bH).choose_spec (v:=.int 12) ⟨_,rfl⟩) (qZ _)) (wH (wG (jE (qu G_v_told_once hr rfl T.x6.mg T.x6.fn.kp T.x6.bd .nil qJ (z0 (qw wy (pv 1) (fZ (osc:=z6 jc) (N:=["rows","taken","rooms","row","room"]) (xs:=["mark","name"]) (names:=[]) (qC:=[]) rfl rfl rfl ⟨rfl,by decide +kernel,by decide +kernel,by decide +kernel,by decide +kernel,rfl,by decide +kernel,by decide +kernel⟩ (wc (K:=K) rfl (qw wy (pv 2) (jq (z0 (pv 4) z7)))) (fun _ _ _=>(yQ (K:=K) (n:=2) rfl rfl (jF (jy (i:=0) (show (["mark","name"]:List Str).Nodup from by decide +kernel) rfl (.inl (fH rfl)) (.inr (fH rfl))) (jF (jy (i:=1) (show (["mark","name"]:List Str).Nodup from by decide +kernel) rfl (.inl (fH rfl)) (.inr (fH rfl))) yJ)) rfl rfl)) (fun _ _ _=>tS) (fun _ _ _=>(pv 1)))) z7)))))))
    (qz (hU fQ rfl (hZ T.vP M_NoText_init hr rfl T.yv T.xS.bd .nil qJ (z0 (qw je (jf rfl (T.wz).choose_spec (v:=.int 2) ⟨_,rfl⟩) (qi (qD (K:=K) rfl) rfl T.xw PySem.boot_len (z0 (pv 2) z7))) z7)))) qt)
   (qz (ki (kB PySem.F.plainAttrs_list PySem.F.slot_list_append PySem.F.type_list_append vG (pv 2) (z0 (pv 4) z7)))))))))
   (z8 (qM (qo (Zp (K:=K) rfl hr.units) (pv 2) (jq z7) (qZ _))
    (qz (hU fQ rfl (hZ T.vP M_NoText_init hr rfl T.yv T.xS.bd .nil qJ (z0 (jf rfl (T.wz).choose_spec (v:=.int 2) ⟨_,rfl⟩) z7)))) qt)
   (qz (qr (pv 2)))))),?_⟩
 refine⟨Nat.zero_le _,?_⟩
 intro l H1 s1 hl e1
 refine⟨fun σ' H'=>(∃(vs:List V) (fnd:List (Str × Str)) (v3 v4:Option V),σ'=[some (.ref a),some (.ref b),some (.ref l),v3,v4]∧qp H H'∧H' l=some (.lst vs)∧Paired (ka H') vs fnd∧fnd.length≤12∧(∀mn∈fnd,fY mn)∧jd taken [] (rows.drop 2)=(if fnd=[] then .error 2 else .ok fnd))∨False,?_,?_⟩
 ·walk_at "rd"
  intro l0 H2 s2 hl0 e2
  have e2':H2 l0=some (.lst ((rows.drop 2).map V.str)):=by rw[←gF V.str rows 2];exact e2
  clear e2
  walk_at "rd"
  have hne0:l0≠l:=Ne.symm (qg e1 hl0)
  refine uJ (K:=K) (a:=l0) (xs:=(rows.drop 2).map V.str) (fun i σ H'=>∃(vs:List V) (fnd:List (Str × Str)) (v3 v4:Option V),σ=[some (.ref a),some (.ref b),some (.ref l),v3,v4]∧qp H H'∧H' l=some (.lst vs)∧H' l0=some (.lst ((rows.drop 2).map V.str))∧Paired (ka H') vs fnd∧fnd.length≤12∧(∀mn∈fnd,fY mn)∧jd taken [] (rows.drop 2)=jd taken fnd ((rows.drop 2).drop i))
   ⟨[],[],none,none,rfl,s1.trans s2,s2 _ _ e1,e2',.nil,Nat.zero_le _,fun _ z=>(by cases z),by rw[List.drop_zero]⟩ (fun i σ H' _ ⟨_,_,_,_,_,_,_,q,_⟩=>qL.of q) ?_ ?_
  ·rintro i y σ H3 hi ⟨vs,fnd,v3,v4,rfl,s3,e3,e30,hP,hf,jx,hr'⟩
   rw[List.getElem?_map] at hi
   cases q:(rows.drop 2)[i]? with
   | none=>rw[q] at hi;cases hi
   | some x=>
    rw[q] at hi
    cases hi
    have hx:x∈rows:=List.mem_of_mem_drop (List.mem_of_getElem? q)
    have hd:(rows.drop 2).drop i=x :: (rows.drop 2).drop (i + 1):=by
     obtain⟨hi',e⟩:=List.getElem?_eq_some_iff.mp q
     rw[←e];exact List.drop_eq_getElem_cons hi'
    rw[hd] at hr'
    walk_at "rd"
    refine⟨hR.short _ hx,fun H4 s4=>⟨fun h0=>?_,fun p m n h0 hp e4=>?_⟩⟩
    ·walk_at "rd"
     refine .inl ⟨vs,fnd,_,_,rfl,s3.trans s4,s4 _ _ e3,Paired.imp' (fun _ _ z=>z.same s4) hP,hf,jx,?_⟩
     rw[hr',jd,h0]
    ·have hP4:Paired (ka H4) (vs ++ [.ref p]) (fnd ++ [(m,n)]):=Paired.snoc (Paired.imp' (fun _ _ z=>z.same s4) hP) ⟨p,rfl,e4⟩
     have hlen:vs.length=fnd.length:=Paired.length hP
     have eRR:jd taken fnd (x :: List.drop (i + 1) (List.drop 2 rows))=if fnd.length=12∨¬(taken ++ (fnd ++ [(m,n)]).map (·.2)).Nodup then .error (2 + fnd.length) else jd taken (fnd ++ [(m,n)]) (List.drop (i + 1) (List.drop 2 rows)):=by rw[jd,h0]
     rw[eRR] at hr'
     have e34:=s4 _ _ e3
     have raise2:(fnd.length=12∨¬(taken ++ (fnd ++ [(m,n)]).map (·.2)).Nodup)→∀c o H',Q6 t (2 + (vs.length:Nat):Int) H c o H'→E c o H':=fun z c o H' q=>kE (2 + fnd.length) (by rw[hr',if_pos z]) c o H' (by rw[←hlen];exact q)
     walk_at "rd"
     refine⟨l,_,rfl,.inl (qL.of e34),rfl,_,rfl,?_⟩
     refine jo (fun h12=>?_) (fun h12=>?_)
     ·walk_at "rd"
      refine⟨l,_,rfl,.inl (qL.of e34),?_⟩
      walk_at "rd"
      exact bU T fun c o H' z=>raise2 (.inl (by
       have:((vs.length:Nat):Int)=12:=by simpa using h12
       omega)) c o H' (z.back (s3.trans s4))
     have hn12:¬fnd.length=12:=fun q=>h12 (by rw[hlen,q];rfl)
     walk_at "rd"
     intro l5 H5 s5 hl5 e5
     refine⟨l,l5,_,_,rfl,rfl,s5 _ _ e34,e5,qv (by simp only[List.length_cons,List.length_nil];omega),?_⟩
     intro l6 H6 s6 hl6 e6
     have hP6:Paired (ka H6) (vs ++ [.ref p]) (fnd ++ [(m,n)]):=Paired.imp' (fun _ _ z=>z.same (s5.trans s6)) hP4
     refine⟨l6,rfl,⟨_,qL.of e6⟩,lH (yB (qL.of e6)) (QW H6) (ZQ H6) (fun y v=>∀p m n,y=V.ref p→H6 p=some (.tup [.str m,.str n])→v=V.str n) (qv (by rw[List.length_append];simp only[List.length_cons,List.length_nil];omega)) ?_ ?_ ?_⟩
     ·intro j y ts H' K' hy hts s' k'
      obtain⟨mn,_,p',rfl,ep⟩:=Paired.Ja hP6 (List.mem_of_getElem? hy)
      have et:QW H6 (.ref p')=[some (.str mn.1),some (.str mn.2)]:=by unfold QW;simp only[ep]
      rw[et] at k'
      match ts,hts with
      | [t1,t2],_=>exact⟨p',_,rfl,yc.of (s' _ _ ep),rfl,_,_,rfl,_,_,rfl,rfl,k'⟩
     ·intro j y H' Q' hy s' kk
      obtain⟨mn,_,p',rfl,ep⟩:=Paired.Ja hP6 (List.mem_of_getElem? hy)
      have et:QW H6 (.ref p')=[some (.str mn.1),some (.str mn.2)]:=by unfold QW;simp only[ep]
      rw[et]
      refine⟨_,rfl,kk _ _ (qp.refl _) fun p2 m2 n2 e q=>?_⟩
      cases e
      rw[ep] at q
      cases q
      rfl
     intro D H7 ys s7 hD e7 hPr
     rw[ma hP6 hPr] at e7
     have sA:qp H H7:=(((s3.trans s4).trans s5).trans s6).trans s7
     walk_at "rd"
     refine⟨b,D,_,_,rfl,rfl,sA _ _ hB,e7,qv (by simp only[List.length_map,List.length_append,List.length_cons,List.length_nil];omega),?_⟩
     intro l8 H8 s8 hl8 e8
     refine⟨l8,taken ++ (fnd ++ [(m,n)]).map (·.2),rfl,qL.of (by rw[e8,←List.map_append]),(by simp only[List.length_map,List.length_append,List.length_cons,List.length_nil];omega),fun H9 s9=>?_⟩
     have sB:qp H4 H9:=(((s5.trans s6).trans s7).trans s8).trans s9
     walk_at "rd"
     refine jo (fun h3=>?_) (fun h3=>?_)
     ·walk_at "rd"
      refine⟨l,_,rfl,.inl (qL.of (sB _ _ e34)),?_⟩
      walk_at "rd"
      exact bU T fun c o H' z=>raise2 (.inr (of_decide_eq_false (uA h3))) c o H' (z.back ((s3.trans s4).trans sB))
     walk_at "rd"
     intro H10 k10 e10
     have e9l:=sB _ _ e34
     refine⟨vs ++ [.ref p],fnd ++ [(m,n)],_,_,rfl,k10.put ((s3.trans s4).trans sB) hl,e10,k10.look (sB _ _ (s4 _ _ e30)) (fun q=>?_),Paired.imp' (fun _ _ z=>(z.same sB).keeps k10 e9l) hP4,(by rw[List.length_append];simp only[List.length_cons,List.length_nil];omega),(fun z hz=>(List.mem_append.mp hz).elim (jx z) (fun hz=>by rw[List.mem_singleton.mp hz];exact J3 h0)),?_⟩
     ·exact hne0 q
     ·rw[hr',if_neg (fun q=>q.elim hn12 (fun q=>q (of_decide_eq_true (uE h3))))]
  ·rintro σ H3 ⟨vs,fnd,v3,v4,rfl,s3,e3,e30,hP,hf,jx,hr'⟩
   rw[List.length_map,List.drop_length,jd] at hr'
   exact .inl ⟨vs,fnd,v3,v4,rfl,s3,e3,hP,hf,jx,hr'⟩
 ·rintro σ H3 (⟨vs,fnd,v3,v4,rfl,s3,e3,hP,hf,jx,hr'⟩ | ⟨⟨⟩⟩)
  walk_at "rd"
  intro l4 H4 s4 hl4 e4
  have sh0:SeqAt.shaped (.list (([]:List Str).map PyData.str))=true:=yg (xs:=[]) fun y hy=>by cases hy
  have hP4:Paired (ka H4) vs fnd:=Paired.imp' (fun _ _ z=>z.same s4) hP
  refine⟨_,_,sX.lst (qL.of (s4 _ _ e3)) (iw hP4),sX.lst (qL.of e4) (bf.strs []),Qx jx,sh0,_,rfl,?_⟩
  rw[WA]
  refine jo (fun h2=>?_) (fun h2=>?_)
  ·walk_at "rd"
   exact bU T fun c o H' z=>kE 2 (by rw[hr',if_pos (of_decide_eq_true h2)]) c o H' (z.back (s3.trans s4))
  walk_at "rd"
  exact kQ fnd l H4 vs (by rw[hr',if_neg (fun q=>h2 (decide_eq_true q))]) (s3.trans s4) hl (s4 _ _ e3) hP4
end
inductive Rw where
 | lt (n v:Str)
 | cl (k:Int) (l u a:Str) (n:Int) (r:Str)
 | pt (n:Str) (rs:List Str) (rows:List Rw)
mutual
noncomputable def pd (t:xj) (ms:List Addr) (H:Hp):Rw→V→Prop
 | .lt n v,x=>∃p,x=.ref p∧p∉ms∧Bv t H p n v
 | .cl k l u a n r,x=>∃p,x=.ref p∧p∉ms∧At t H p k l u a n r
 | .pt n rs rows,x=>∃p dx a b ys,x=.ref p∧p∉ms∧a∉ms∧b∉ms∧H p=some (.ins t.jI dx (ZU n a b))∧H a=some (.lst (rs.map V.str))∧H b=some (.lst ys)∧xm t ms H rows ys
noncomputable def xm (t:xj) (ms:List Addr) (H:Hp):List Rw→List V→Prop
 | [],ys=>ys=[]
 | r :: rs,ys=>∃y ys',ys=y :: ys'∧pd t ms H r y∧xm t ms H rs ys'
end
noncomputable def Fm (ms:List Addr) (H H':Hp):Prop:=∀b o,b∉ms→H b=some o→H' b=some o
theorem Fm.trans {ms ms':List Addr} {H H1 H2:Hp} (a:Fm ms H H1) (b:Fm ms' H1 H2) (hm:∀b∈ms',b∈ms∨H b=none):Fm ms H H2:=fun c o hc e=>b c o (fun z=>(hm c z).elim hc (fun q=>by rw[e] at q;cases q)) (a c o hc e)
theorem Fm.of {ms:List Addr} {H H1:Hp} (s:qp H H1):Fm ms H H1:=fun c o _ e=>s _ _ e
theorem Fm.eA {ms:List Addr} {H0 H H1:Hp} (a:Fm ms H H1) (s:qp H0 H) (h:∀b∈ms,H0 b=none):qp H0 H1:=fun c o e=>a c o (fun z=>by rw[h c z] at e;cases e) (s c o e)
theorem dm {ms ms':List Addr} {H:Hp} {b:Addr} {o:HO} (hm:∀b∈ms',b∈ms∨H b=none) (h:b∉ms) (e:H b=some o):b∉ms':=fun z=>(hm b z).elim h (fun q=>by rw[e] at q;cases q)
mutual
theorem pd.move {t:xj} {ms ms':List Addr} {H H':Hp} (hk:Fm ms H H') (hm:∀b∈ms',b∈ms∨H b=none):∀{r:Rw} {x:V},pd t ms H r x→pd t ms' H' r x
 | .lt n v,x,h=>by
  unfold pd at h ⊢
  obtain⟨p,e,hp,dx,q⟩:=h
  exact⟨p,e,dm hm hp q,dx,hk _ _ hp q⟩
 | .cl k l u a n r,x,h=>by
  unfold pd at h ⊢
  obtain⟨p,e,hp,dx,q⟩:=h
  exact⟨p,e,dm hm hp q,dx,hk _ _ hp q⟩
 | .pt n rs rows,x,h=>by
  unfold pd at h ⊢
  obtain⟨p,dx,a,b,ys,e,hp,ha,hb,e1,e2,e3,q⟩:=h
  exact⟨p,dx,a,b,ys,e,dm hm hp e1,dm hm ha e2,dm hm hb e3,hk _ _ hp e1,hk _ _ ha e2,hk _ _ hb e3,xm.move hk hm q⟩
theorem xm.move {t:xj} {ms ms':List Addr} {H H':Hp} (hk:Fm ms H H') (hm:∀b∈ms',b∈ms∨H b=none):∀{rs:List Rw} {ys:List V},xm t ms H rs ys→xm t ms' H' rs ys
 | [],ys,h=>by unfold xm at h ⊢;exact h
 | r :: rs,ys,h=>by
  unfold xm at h ⊢
  obtain⟨y,ys',e,h1,h2⟩:=h
  exact⟨y,ys',e,pd.move hk hm h1,xm.move hk hm h2⟩
end
theorem xm.snoc {t:xj} {ms:List Addr} {H:Hp} {r:Rw} {y:V} (h:pd t ms H r y):∀{rs:List Rw} {ys:List V},xm t ms H rs ys→xm t ms H (rs ++ [r]) (ys ++ [y])
 | [],ys,q=>by
  unfold xm at q
  subst q
  show xm t ms H [r] [y]
  unfold xm
  exact⟨y,[],rfl,h,by unfold xm;rfl⟩
 | r' :: rs,ys,q=>by
  unfold xm at q
  obtain⟨y',ys',rfl,h1,h2⟩:=q
  show xm t ms H (r' :: (rs ++ [r])) (y' :: (ys' ++ [y]))
  unfold xm
  exact⟨y',_,rfl,h1,xm.snoc h h2⟩
theorem xm.len {t:xj} {ms:List Addr} {H:Hp}:∀{rs:List Rw} {ys:List V},xm t ms H rs ys→ys.length=rs.length
 | [],ys,q=>by unfold xm at q;rw[q];rfl
 | r' :: rs,ys,q=>by
  unfold xm at q
  obtain⟨y',ys',rfl,h1,h2⟩:=q
  rw[List.length_cons,List.length_cons,xm.len h2]
noncomputable abbrev Fr:=Str × List Str × List Rw
noncomputable def pf (t:xj) (ms:List Addr) (H:Hp) (B:Nat):List Addr→List Addr→List Fr→Prop
 | [],[],[]=>True
 | p :: ps,q :: qs,(n,rs,rows) :: fr=>(∃dx a b,p∉ms∧a∉ms∧H p=some (.ins t.jI dx (ZU n a b))∧H a=some (.lst (rs.map V.str)))∧(∃ys,H q=some (.lst ys)∧xm t ms H rows ys∧rows.length≤B)∧pf t ms H B ps qs fr
 | _,_,_=>False
noncomputable def iR (a b c:Addr):List (Str × V):=[("heads",.ref a),("bodies",.ref b),("labels",.ref c)]
noncomputable def XD (ls:List Str):List (Key × V):=ls.map fun l=>(.inr l,.bl true)
structure sZ (t:xj) (H:Hp) (me dx hd bd lb:Addr) (hps bqs:List Addr) (fr:List Fr) (ls:List Str) (B:Nat):Prop where
 nd:(me :: hd :: bd :: lb :: bqs).Nodup
 se:H me=some (.ins t.qN dx (iR hd bd lb))
 hh:H hd=some (.lst (hps.map V.ref).reverse)
 hb:H bd=some (.lst (bqs.map V.ref).reverse)
 hl:H lb=some (.dK (XD ls))
 fa:pf t (me :: hd :: bd :: lb :: bqs) H B hps bqs fr
 sN:ls.length≤B
noncomputable def wI (t:xj) (H:Hp) (me:Addr) (fr:List Fr) (ls:List Str) (B:Nat) (ms:List Addr):Prop:=∃dx hd bd lb hps bqs,ms=me :: hd :: bd :: lb :: bqs∧sZ t H me dx hd bd lb hps bqs fr ls B
theorem pf.len {t:xj} {ms:List Addr} {H:Hp} {B:Nat}:∀{ps qs:List Addr} {fr:List Fr},pf t ms H B ps qs fr→ps.length=fr.length∧qs.length=fr.length
 | [],[],[],_=>⟨rfl,rfl⟩
 | p :: ps,q :: qs,(n,rs,rows) :: fr,h=>by
  have:=pf.len h.2.2
  simp [this.1,this.2]
theorem pf.move {t:xj} {ms ms':List Addr} {H H':Hp} {B B':Nat} (hk:Fm ms H H') (hm:∀b∈ms',b∈ms∨H b=none) (hB:B≤B'):∀{ps qs:List Addr} {fr:List Fr},pf t ms H B ps qs fr→(∀q∈qs,∀o,H q=some o→H' q=some o)→pf t ms' H' B' ps qs fr
 | [],[],[],_,_=>True.intro
 | p :: ps,q :: qs,(n,rs,rows) :: fr,h,hq=>by
  obtain⟨⟨dx,a,b,h1,h2,h3,h4⟩,⟨ys,h5,h6,h7⟩,h8⟩:=h
  exact⟨⟨dx,a,b,dm hm h1 h3,dm hm h2 h4,hk _ _ h1 h3,hk _ _ h2 h4⟩,⟨ys,hq q List.mem_cons_self _ h5,h6.move hk hm,by omega⟩,pf.move hk hm hB h8 fun c hc=>hq c (List.mem_cons_of_mem _ hc)⟩
theorem pf.QQ {t:xj} {ms:List Addr} {H:Hp} {B:Nat}:∀{ps qs:List Addr} {fr:List Fr},pf t ms H B ps qs fr→∀q∈qs,∃o,H q=some o
 | [],[],[],_,q,hq=>by cases hq
 | p :: ps,q :: qs,(n,rs,rows) :: fr,h,c,hc=>by
  obtain⟨_,⟨ys,h5,_,_⟩,h8⟩:=h
  (rcases List.mem_cons.mp hc with rfl | hc)
  ·exact⟨_,h5⟩
  ·exact pf.QQ h8 c hc
theorem sZ.QQ {t:xj} {H:Hp} {me dx hd bd lb:Addr} {hps bqs:List Addr} {fr:List Fr} {ls:List Str} {B:Nat} (h:sZ t H me dx hd bd lb hps bqs fr ls B):∀b∈me :: hd :: bd :: lb :: bqs,∃o,H b=some o:=by
 intro b hb
 simp only[List.mem_cons] at hb
 rcases hb with rfl | rfl | rfl | rfl | hb
 ·exact⟨_,h.se⟩
 ·exact⟨_,h.hh⟩
 ·exact⟨_,h.hb⟩
 ·exact⟨_,h.hl⟩
 ·exact h.fa.QQ b hb
theorem pf.inv {t:xj} {ms:List Addr} {H:Hp} {B:Nat} {n:Str} {rs:List Str} {rows:List Rw} {fr:List Fr}:∀{hps bqs:List Addr},pf t ms H B hps bqs ((n,rs,rows) :: fr)→∃p ps q qs,hps=p :: ps∧bqs=q :: qs∧(∃dx a b,p∉ms∧a∉ms∧H p=some (.ins t.jI dx (ZU n a b))∧H a=some (.lst (rs.map V.str)))∧(∃ys,H q=some (.lst ys)∧xm t ms H rows ys∧rows.length≤B)∧pf t ms H B ps qs fr
 | [],_,h=>by simp [pf] at h
 | _ :: _,[],h=>by simp [pf] at h
 | p :: ps,q :: qs,h=>⟨p,ps,q,qs,rfl,rfl,h.1,h.2.1,h.2.2⟩
section
variable {P:Program} {w:World} {K:PySem.W.Frag} {mg:Str→Option Value} {base:Heap} {t:xj}
end
noncomputable def nZ (t:xj):Sp:=fun vs H Q _=>∃(self:Addr) (fr:List Fr) (ls:List Str) (B:Nat) (ms:List Addr),vs=[.ref self]∧wI t H self fr ls B ms∧Q (.int (((fr.length:Nat):Int) - 1)) H
noncomputable def Zn (t:xj):Sp:=fun vs H Q _=>∃(self:Addr) (y:V) (n:Str) (rs:List Str) (rows:List Rw) (fr:List Fr) (ls:List Str) (B:Nat) (ms:List Addr) (r:Rw),vs=[.ref self,y]∧wI t H self ((n,rs,rows) :: fr) ls B ms∧pd t ms H r y∧B < 1000∧∀H',Fm ms H H'→wI t H' self ((n,rs,rows ++ [r]) :: fr) ls (B + 1) ms→Q .non H'
noncomputable def rV (t:xj):Sp:=fun vs H Q _=>∃(self:Addr) (n:Str) (rs:List Str) (rows:List Rw) (fr:List Fr) (ls:List Str) (B:Nat) (ms:List Addr),vs=[.ref self]∧wI t H self ((n,rs,rows) :: fr) ls B ms∧B≤1000∧∀p H' ms',Fm ms H H'→(∀b∈ms',b∈ms)→wI t H' self fr ls B ms'→pd t ms' H' (.pt n rs rows) (.ref p)→Q (.ref p) H'
section
variable {P:Program} {w:World} {K:PySem.W.Frag} {mg:Str→Option Value} {base:Heap} {t:xj}
theorem b1:¬(("bodies" : Str) = "heads"):=by decide +kernel
theorem b2:¬(("labels" : Str) = "heads"):=by decide +kernel
theorem b3:¬(("labels" : Str) = "bodies"):=by decide +kernel
section
variable {H:Hp} {self dx hd bd lb:Addr} {hps bqs:List Addr} {fr:List Fr} {ls:List Str} {B:Nat}
theorem sZ.f1 (h:sZ t H self dx hd bd lb hps bqs fr ls B) (T:Txt K mg t):VU K H (.ref self) "heads" (.ref hd):=⟨self,_,dx,_,rfl,h.se,T.jH,T.wL,xt⟩
theorem sZ.f2 (h:sZ t H self dx hd bd lb hps bqs fr ls B) (T:Txt K mg t):VU K H (.ref self) "bodies" (.ref bd):=⟨self,_,dx,_,rfl,h.se,T.jH,T.kH,(kI b1).trans xt⟩
theorem sZ.f3 (h:sZ t H self dx hd bd lb hps bqs fr ls B) (T:Txt K mg t):VU K H (.ref self) "labels" (.ref lb):=⟨self,_,dx,_,rfl,h.se,T.jH,T.yE,(kI b2).trans ((kI b3).trans xt)⟩
end
theorem dZ:qX ["self"] ["self"] (z6 jg):=⟨rfl,rfl,rfl,by decide +kernel,rfl,by decide +kernel,by decide +kernel⟩
set_option maxHeartbeats 400000 in
theorem wg (T:Txt K mg t):qV P w K mg base jW 1 t.kL t.wV ["self"] (nZ t):=by
 refine T.kJ.fn.ok dZ (fun vs H Q E h=>(by obtain⟨_,_,_,_,_,rfl,_⟩:=h;rfl)) (fun cdv A outer s H vs Q E hr h=>?_)
 obtain⟨self,fr,ls,B,ms,rfl,⟨dx,hd,bd,lb,hps,bqs,rfl,h⟩,k⟩:=h
 refine⟨_,(qz (qr (qw bC (qi (qD (K:=K) rfl) rfl T.xw PySem.boot_len (z0 (vx (K:=K) rfl (pv 0) rfl) z7)) z9))),?_⟩
 refine⟨_,rfl,_,h.f1 T,hd,_,rfl,.inl (qL.of h.hh),?_⟩
 refine⟨_,_,rfl,rfl,?_⟩
 have:(hps.map V.ref).reverse.length=fr.length:=by rw[List.length_reverse,List.length_map];exact h.fa.len.1
 rw[this]
 exact k
theorem rg:qX ["self","row"] ["self","row"] (z6 jR):=⟨rfl,rfl,rfl,by decide +kernel,rfl,by decide +kernel,by decide +kernel⟩
set_option maxHeartbeats 400000 in
theorem yA (T:Txt K mg t):qV P w K mg base jW 1 t.wU t.gX ["self","row"] (Zn t):=by
 refine T.wA.fn.ok rg (fun vs H Q E h=>(by obtain⟨_,_,_,_,_,_,_,_,_,_,rfl,_⟩:=h;rfl)) (fun cdv A outer s H vs Q E hr h=>?_)
 obtain⟨self,y,n,rs,rows,fr,ls,B,ms,r,rfl,⟨dx,hd,bd,lb,hps,bqs,rfl,h⟩,hr',hB,k⟩:=h
 refine⟨_,(qz (ki (kB PySem.F.plainAttrs_list PySem.F.slot_list_append PySem.F.type_list_append vG (qf (qy (K:=K) rfl) (vx (K:=K) rfl (pv 0) rfl) (Vl Xe z9) (fun _ _=>rfl)) (z0 (pv 1) z7)))),?_⟩
 obtain⟨nd,se,hh,hb,hl,fa,sN⟩:=id h
 obtain⟨p,ps,q,qs,rfl,rfl,f1,⟨ys,e1,e2,e3⟩,f3⟩:=fa.inv
 refine⟨_,rfl,_,h.f2 T,?_⟩
 refine⟨_,rfl,bd,_,_,.ref q,rfl,rfl,qL.of hb,(by rw[List.map_cons,List.reverse_cons];exact QC _ _),?_⟩
 have hq:q∈self :: hd :: bd :: lb :: q :: qs:=by simp
 refine⟨.inl ⟨rfl,_,qL.of e1⟩,_,rfl,q,ys,_,rfl,rfl,e1,qv (by have:=e2.len;omega),?_⟩
 intro H' k' e'
 have fm:Fm (self :: hd :: bd :: lb :: q :: qs) H H':=fun b o hb e=>by rw[k' b (fun z=>hb (by rw[z];exact hq))];exact e
 have ne:∀b,b∈self :: hd :: bd :: lb :: qs→b≠q:=fun b hx z=>by
  subst z
  simp only[List.nodup_cons,List.mem_cons,not_or] at nd hx
  rcases hx with hx | hx | hx | hx | hx
  ·exact nd.1.2.2.2.1 hx.symm
  ·exact nd.2.1.2.2.1 hx.symm
  ·exact nd.2.2.1.2.1 hx.symm
  ·exact nd.2.2.2.1.1 hx.symm
  ·exact nd.2.2.2.2.1 hx
 have hm:∀b∈self :: hd :: bd :: lb :: q :: qs,b∈self :: hd :: bd :: lb :: q :: qs∨H b=none:=fun b hb=>.inl hb
 refine k H' fm ⟨dx,hd,bd,lb,p :: ps,q :: qs,rfl,nd,?_,?_,?_,?_,⟨?_,⟨ys ++ [y],e',xm.snoc (hr'.move fm hm) (e2.move fm hm),?_⟩,f3.move fm hm (Nat.le_succ _) fun c hc o e=>by rw[k' c (ne c (by simp [hc]))];exact e⟩,by omega⟩
 ·rw[k' self (ne self (by simp))];exact se
 ·rw[k' hd (ne hd (by simp))];exact hh
 ·rw[k' bd (ne bd (by simp))];exact hb
 ·rw[k' lb (ne lb (by simp))];exact hl
 ·obtain⟨dx',a,b,g1,g2,g3,g4⟩:=f1
  exact⟨dx',a,b,g1,g2,fm _ _ g1 g3,fm _ _ g2 g4⟩
 ·rw[List.length_append];simp only[List.length_cons,List.length_nil];omega
theorem YR {a b c d q:Addr} {qs:List Addr} (h:(a :: b :: c :: d :: q :: qs).Nodup):(a :: b :: c :: d :: qs).Nodup∧∀x∈a :: b :: c :: d :: qs,x≠q:=by
 have h':=h
 simp only[List.nodup_cons,List.mem_cons,not_or] at h ⊢
 refine⟨⟨⟨h.1.1,h.1.2.1,h.1.2.2.1,h.1.2.2.2.2⟩,⟨h.2.1.1,h.2.1.2.1,h.2.1.2.2.2⟩,⟨h.2.2.1.1,h.2.2.1.2.2⟩,h.2.2.2.1.2,h.2.2.2.2.2⟩,fun x hx z=>?_⟩
 subst z
 rcases hx with hx | hx | hx | hx | hx
 ·exact h.1.2.2.2.1 hx.symm
 ·exact h.2.1.2.2.1 hx.symm
 ·exact h.2.2.1.2.1 hx.symm
 ·exact h.2.2.2.1.1 hx.symm
 ·exact h.2.2.2.2.1 hx
theorem pO:qX ["self","head"] ["self"] (z6 jU):=⟨rfl,rfl,rfl,by decide +kernel,rfl,by decide +kernel,by decide +kernel⟩
set_option maxHeartbeats 400000 in
theorem pF (T:Txt K mg t):qV P w K mg base jW 3 t.wC t.gJ ["self"] (rV t):=by
 have M_Part_init:qV P w K mg base jW 1 t.kW t.vX ["self","name","rooms","rows"] (K0 K t):=(bF T).mono (by decide)
 refine T.gq.fn.ok pO (fun vs H Q E h=>(by obtain⟨_,_,_,_,_,_,_,_,rfl,_⟩:=h;rfl)) (fun cdv A outer s H vs Q E hr h=>?_)
 obtain⟨self,n,rs,rows,fr,ls,B,ms,rfl,⟨dx,hd,bd,lb,hps,bqs,rfl,h⟩,hB,k⟩:=h
 refine⟨_,(z8 (qQ (i:=1) pO.nd rfl (Or.inl rfl) (JU PySem.F.plainAttrs_list PySem.F.slot_list_pop PySem.F.type_list_pop JJ (vx (K:=K) rfl (pv 0) rfl)))
   (qz (qr (wN T.m7 M_Part_init hr rfl T.uM T.yW.bd .nil qJ (z0 (vx (K:=K) rfl (pv 1) rfl) (z0 (vx (K:=K) rfl (pv 1) rfl) (z0 (JU PySem.F.plainAttrs_list PySem.F.slot_list_pop PySem.F.type_list_pop JJ (vx (K:=K) rfl (pv 0) rfl)) z7))))))),?_⟩
 obtain⟨nd,se,hh,hb,hl,fa,sN⟩:=id h
 obtain⟨p,ps,q,qs,rfl,rfl,⟨dx',a,b,g1,g2,g3,g4⟩,⟨ys,e1,e2,e3⟩,f3⟩:=fa.inv
 have QQ:=h.QQ
 refine⟨_,rfl,_,h.f1 T,?_⟩
 refine⟨.inl ⟨rfl,_,qL.of hh⟩,hd,_,.ref p,rfl,rfl,hh,(by rw[List.map_cons,List.reverse_cons];simp),?_⟩
 intro H1 k1 e1'
 rw[List.map_cons,List.reverse_cons,List.dropLast_concat] at e1'
 obtain⟨nd2,nq⟩:=YR nd
 have nab:hd≠bd:=by simp only[List.nodup_cons,List.mem_cons,not_or] at nd;exact nd.2.1.1
 have nsh:self≠hd:=by simp only[List.nodup_cons,List.mem_cons,not_or] at nd;exact nd.1.1
 have nsb:self≠bd:=by simp only[List.nodup_cons,List.mem_cons,not_or] at nd;exact nd.1.2.1
 have nlh:lb≠hd:=by simp only[List.nodup_cons,List.mem_cons,not_or] at nd;exact fun z=>nd.2.1.2.1 z.symm
 have nlb:lb≠bd:=by simp only[List.nodup_cons,List.mem_cons,not_or] at nd;exact fun z=>nd.2.2.1.1 z.symm
 have ph:p≠hd:=fun z=>g1 (by rw[z];simp)
 have ah:a≠hd:=fun z=>g2 (by rw[z];simp)
 have p1:H1 p=some (.ins t.jI dx' (ZU n a b)):=by rw[k1 p ph];exact g3
 have a1:H1 a=some (.lst (rs.map V.str)):=by rw[k1 a ah];exact g4
 have s1:H1 self=some (.ins t.qN dx (iR hd bd lb)):=by rw[k1 self nsh];exact se
 have b1':H1 bd=some (.lst ((q :: qs).map V.ref).reverse):=by rw[k1 bd (Ne.symm nab)];exact hb
 refine⟨_,rfl,_,⟨p,_,dx',_,rfl,p1,T.bt,T.yZ,xt⟩,?_⟩
 refine⟨_,rfl,_,⟨p,_,dx',_,rfl,p1,T.bt,T.gK,(kI (fun z=>m2 z.symm)).trans xt⟩,?_⟩
 refine⟨_,rfl,_,⟨self,_,dx,_,rfl,s1,T.jH,T.kH,(kI b1).trans xt⟩,?_⟩
 refine⟨.inl ⟨rfl,_,qL.of b1'⟩,bd,_,.ref q,rfl,rfl,b1',(by rw[List.map_cons,List.reverse_cons];simp),?_⟩
 intro H2 k2 e2'
 rw[List.map_cons,List.reverse_cons,List.dropLast_concat] at e2'
 intro x dxx hx hdx hne
 have keep2:∀c o,c≠hd→c≠bd→H c=some o→H2 c=some o:=fun c o h1 h2 e=>by rw[k2 c h2,k1 c h1];exact e
 have keepm:∀c o,H2 c=some o→(upd (upd H2 dxx (HO.own x)) x (HO.ins t.jI dxx [])) c=some o:=gu hx hdx
 have ab:a≠bd:=fun z=>g2 (by rw[z];simp)
 have qh:q≠hd:=Ne.symm (nq hd (by simp))
 have qb':q≠bd:=Ne.symm (nq bd (by simp))
 refine⟨x,dxx,a,q,n,rs,ys,rfl,qm,keepm _ _ (keep2 _ _ ah ab g4),keepm _ _ (keep2 _ _ qh qb' e1),fun H3 o3 h3=>⟨rfl,?_⟩⟩
 obtain⟨dx3,qa,qb,r1,r2,r3,z1,z2⟩:=h3
 have keep3:∀c o,H2 c=some o→H3 c=some o:=fun c o e=>o3 c o (qg e hx) (keepm c o e)
 have ke:∀c o,c≠hd→c≠bd→H c=some o→H3 c=some o:=fun c o h1 h2 e=>keep3 c o (keep2 c o h1 h2 e)
 have h2h:H2 hd=some (.lst (ps.map V.ref).reverse):=by rw[k2 hd nab];exact e1'
 have sub:∀c∈self :: hd :: bd :: lb :: qs,c∈self :: hd :: bd :: lb :: q :: qs:=fun c hc=>by
  simp only[List.mem_cons] at hc ⊢
  rcases hc with z | z | z | z | z<;>simp [z]
 have fm:Fm (self :: hd :: bd :: lb :: q :: qs) H H3:=fun c o hc e=>ke c o (fun z=>hc (by rw[z];simp)) (fun z=>hc (by rw[z];simp)) e
 have dom2:∀c∈self :: hd :: bd :: lb :: qs,∃o,H2 c=some o:=fun c hc=>by
  by_cases q1:c=hd
  ·subst q1;exact⟨_,h2h⟩
  ·by_cases q2:c=bd
   ·subst q2;exact⟨_,e2'⟩
   ·obtain⟨o,e⟩:=QQ c (sub c hc)
    exact⟨o,keep2 c o q1 q2 e⟩
 have ni:∀y,(upd (upd H2 dxx (HO.own x)) x (HO.ins t.jI dxx [])) y=none→y∉self :: hd :: bd :: lb :: qs:=fun y e hy=>by
  obtain⟨o,e'⟩:=dom2 y hy
  rw[keepm y o e'] at e;cases e
 have hm:∀c∈self :: hd :: bd :: lb :: qs,c∈self :: hd :: bd :: lb :: q :: qs∨H c=none:=fun c hc=>.inl (sub c hc)
 have nqs:∀c∈qs,c≠hd∧c≠bd:=fun c hc=>by
  simp only[List.nodup_cons,List.mem_cons,not_or] at nd2
  exact⟨fun z=>nd2.2.1.2.2 (by rw[←z];exact hc),fun z=>nd2.2.2.1.2 (by rw[←z];exact hc)⟩
 refine k x H3 (self :: hd :: bd :: lb :: qs) fm sub ⟨dx,hd,bd,lb,ps,qs,rfl,nd2,ke _ _ nsh nsb se,keep3 _ _ h2h,keep3 _ _ e2',ke _ _ nlh nlb hl,f3.move fm hm (Nat.le_refl _) (fun c hc o e=>ke c o (nqs c hc).1 (nqs c hc).2 e),sN⟩ ?_
 unfold pd
 refine⟨x,dx3,qa,qb,ys,rfl,fun hxm=>?_,ni qa z1,ni qb z2,r1,r2,r3,e2.move fm hm⟩
 obtain⟨o,e'⟩:=dom2 x hxm
 rw[hx] at e';cases e'
end
noncomputable def Xv (t:xj):Sp:=fun vs H Q _=>∃(self:Addr) (fr:List Fr) (ls:List Str) (B:Nat) (ms:List Addr),vs=[.ref self]∧wI t H self fr ls B ms∧B < 1000∧fr≠[]∧(fr.length=1→Q (.bl false) H)∧
 ∀n rs rows n2 rs2 rows2 fr',fr=(n,rs,rows) :: (n2,rs2,rows2) :: fr'→∀H' ms',Fm ms H H'→(∀b∈ms',b∈ms)→wI t H' self ((n2,rs2,rows2 ++ [.pt n rs rows]) :: fr') ls (B + 1) ms'→Q (.bl true) H'
noncomputable def Xy (t:xj):Sp:=fun vs H Q _=>∃(self p dx a b:Addr) (n:Str) (rs:List Str) (fr:List Fr) (ls:List Str) (B:Nat) (ms:List Addr),vs=[.ref self,.ref p]∧wI t H self fr ls B ms∧B < 1000∧fr.length≤7∧p∉ms∧a∉ms∧H p=some (.ins t.jI dx (ZU n a b))∧H a=some (.lst (rs.map V.str))∧(fr.length=7∨n∈ls→Q (.bl false) H)∧
 (¬(fr.length=7∨n∈ls)→∀H' ms',Fm ms H H'→(∀b∈ms',b∈ms∨H b=none)→wI t H' self ((n,rs,[]) :: fr) (ls ++ [n]) (B + 1) ms'→Q (.bl true) H')
noncomputable def Xk (t:xj):Sp:=fun vs H Q _=>∃(self p:Addr) (k:Int) (l u a:Str) (n:Int) (r:Str) (pn:Str) (rs:List Str) (rows:List Rw) (fr:List Fr) (ls:List Str) (B:Nat) (ms:List Addr),vs=[.ref self,.ref p]∧wI t H self ((pn,rs,rows) :: fr) ls B ms∧B < 998∧p∉ms∧At t H p k l u a n r∧(l∈ls→Q (.bl false) H)∧
 (l∉ls→∀H',Fm ms H H'→wI t H' self ((pn,rs,rows ++ [.cl k l u a n r]) :: fr) (ls ++ [l]) (B + 2) ms→Q (.bl true) H')
theorem mh {a b c:Addr} {m:Str} (h1:¬m = "heads") (h2:¬m = "bodies") (h3:¬m = "labels"):(iR a b c).lookup m=none:=(kI h1).trans ((kI h2).trans ((kI h3).trans rfl))
theorem tJ {a b c:Addr}:(iR a b c).lookup ("many_open" : Str)=none:=mh (by decide +kernel) (by decide +kernel) (by decide +kernel)
theorem eh {a b c:Addr}:(iR a b c).lookup ("put_in" : Str)=none:=mh (by decide +kernel) (by decide +kernel) (by decide +kernel)
theorem lA {a b c:Addr}:(iR a b c).lookup ("closed" : Str)=none:=mh (by decide +kernel) (by decide +kernel) (by decide +kernel)
theorem YT {a b c:Addr}:(iR a b c).lookup ("takes_done" : Str)=none:=mh (by decide +kernel) (by decide +kernel) (by decide +kernel)
theorem YN {a b c:Addr}:(iR a b c).lookup ("takes_head" : Str)=none:=mh (by decide +kernel) (by decide +kernel) (by decide +kernel)
theorem YS {a b c:Addr}:(iR a b c).lookup ("takes_clause" : Str)=none:=mh (by decide +kernel) (by decide +kernel) (by decide +kernel)
theorem YO {a b c:Addr}:(iR a b c).lookup ("takes" : Str)=none:=mh (by decide +kernel) (by decide +kernel) (by decide +kernel)
theorem iA {ls:List Str} {n:Str}:(pj (XD ls) (.inr n)).isSome=decide (n∈ls):=by
 rw[←dG]
 unfold XD
 rw[List.any_map]
 rw[Bool.eq_iff_iff]
 simp
theorem Zq {ls:List Str} {n:Str} (h:n∉ls):putK (XD ls) (.inr n) (.bl true)=XD (ls ++ [n]):=by
 rw[JE]
 ·unfold XD;rw[List.map_append];rfl
 ·have:=@iA ls n
  rw[decide_eq_false h] at this
  cases q:pj (XD ls) (.inr n) with
  | none=>rfl
  | some v=>rw[q] at this;cases this
section
variable {P:Program} {w:World} {K:PySem.W.Frag} {mg:Str→Option Value} {base:Heap} {t:xj}
theorem mQ:qX ["self"] ["self"] (z6 jk):=⟨rfl,rfl,rfl,by decide +kernel,rfl,by decide +kernel,by decide +kernel⟩
set_option maxHeartbeats 400000 in
theorem mr (T:Txt K mg t):qV P w K mg base jW 5 t.ku t.vC ["self"] (Xv t):=by
 refine T.ym.fn.ok mQ (fun vs H Q E h=>(by obtain⟨_,_,_,_,_,rfl,_⟩:=h;rfl)) (fun cdv A outer s H vs Q E hr h=>?_)
 obtain⟨self,fr,ls,B,ms,rfl,hb,hB,hne,k0,k1⟩:=h
 refine⟨_,(z8 (qM (qo jY (yG hr (pv 0)) z9 (qZ _))
    (qz (qr vz)) qt)
   (z8 (ki (hV hr (pv 0) (z0 (yG hr (pv 0)) z7)))
   (qz (qr vz)))),?_⟩
 have M1:ve P w K mg base jW 4 t.qN "many_open" (nZ t):=.mk' T.kn (wg T) T.kJ.bd (by decide)
 have M2:ve P w K mg base jW 4 t.qN "put_in" (Zn t):=.mk' T.wx (yA T) T.wA.bd (by decide)
 have M3:ve P w K mg base jW 4 t.qN "closed" (rV t):=.mk' T.yN (pF T) T.gq.bd (by decide)
 obtain⟨dx,hd,bd,lb,hps,bqs,e,h⟩:=id hb
 refine⟨_,rfl,self,_,dx,_,rfl,h.se,T.jH,tJ,_,M1,?_⟩
 refine⟨self,fr,ls,B,ms,rfl,hb,?_⟩
 walk_at "rd"
 refine jo (fun h1=>?_) (fun h1=>?_)
 ·walk_at "rd"
  exact k0 (by
   have:((fr.length:Nat):Int) - 1=0:=by simpa using h1
   omega)
 match fr,hne with
 | [(n,rs,rows)],_=>exact absurd rfl h1
 | (n,rs,rows) :: (n2,rs2,rows2) :: fr',_=>
  walk_at "rd"
  refine⟨self,_,dx,_,rfl,h.se,T.jH,eh,_,M2,?_⟩
  refine⟨_,rfl,self,_,dx,_,rfl,h.se,T.jH,lA,_,M3,?_⟩
  refine⟨self,n,rs,rows,_,ls,B,ms,rfl,hb,by omega,fun p H1 ms1 fm1 sub1 hb1 hr1=>?_⟩
  refine⟨self,.ref p,n2,rs2,rows2,fr',ls,B,ms1,.pt n rs rows,rfl,hb1,hr1,hB,fun H2 fm2 hb2=>?_⟩
  exact k1 _ _ _ _ _ _ _ rfl H2 ms1 (fm1.trans fm2 (fun b hb=>.inl (sub1 b hb))) sub1 hb2
theorem mJ:qX ["self","head"] ["self","head"] (z6 jv):=⟨rfl,rfl,rfl,by decide +kernel,rfl,by decide +kernel,by decide +kernel⟩
set_option maxHeartbeats 400000 in
theorem ml (T:Txt K mg t):qV P w K mg base jW 3 t.kr t.vU ["self","head"] (Xy t):=by
 refine T.yd.fn.ok mJ (fun vs H Q E h=>(by obtain⟨_,_,_,_,_,_,_,_,_,_,_,rfl,_⟩:=h;rfl)) (fun cdv A outer s H vs Q E hr h=>?_)
 obtain⟨self,p,dxp,a,b,n,rs,fr,ls,B,ms,rfl,hb,hB,h7,hp,ha,ep,ea,k0,k1⟩:=h
 refine⟨_,(z8 (qM (PW.pt (wX (qo jY (yG hr (pv 0)) (jf rfl (T.cf).choose_spec (v:=.int 6) ⟨_,rfl⟩) (qZ _)) (wH (JI (JC (a7 hr) (vx (K:=K) rfl (pv 1) rfl) (vx (K:=K) rfl (pv 0) rfl))))))
    (qz (qr vz)) qt)
   (z8 (pS vz (tL (vx (K:=K) rfl (pv 0) rfl) (vx (K:=K) rfl (pv 1) rfl) (sj (a7 hr))))
   (z8 (ki (kB PySem.F.plainAttrs_list PySem.F.slot_list_append PySem.F.type_list_append vG (vx (K:=K) rfl (pv 0) rfl) (z0 (pv 1) z7)))
   (z8 (ki (kB PySem.F.plainAttrs_list PySem.F.slot_list_append PySem.F.type_list_append vG (vx (K:=K) rfl (pv 0) rfl) (z0 (jq z7) z7)))
   (qz (qr vz)))))),?_⟩
 have M1:ve P w K mg base jW 2 t.qN "many_open" (nZ t):=.mk' T.kn (wg T) T.kJ.bd (by decide)
 obtain⟨dx,hd,bd,lb,hps,bqs,e,h⟩:=id hb
 have fnm:VU K H (.ref p) "name" (.str n):=⟨p,_,dxp,_,rfl,ep,T.bt,T.yZ,xt⟩
 refine⟨_,rfl,self,_,dx,_,rfl,h.se,T.jH,tJ,_,M1,?_⟩
 refine⟨self,fr,ls,B,ms,rfl,hb,?_⟩
 walk_at "rd"
 refine jo (fun h1=>?_) (fun h1=>?_)
 ·walk_at "rd"
  exact k0 (.inl (by
   have:((fr.length:Nat):Int) - 1=6:=by simpa using h1
   omega))
 have n7:¬fr.length=7:=fun z=>h1 (by rw[z];rfl)
 refine⟨_,rfl,_,fnm,_,rfl,_,h.f3 T,lb,_,rfl,uu.k (k:=.inr n) h.hl,?_⟩
 rw[iA]
 subst e
 obtain⟨nd,se,hh,hbb,hl,fa,sN⟩:=id h
 have ndx:=nd
 simp only[List.nodup_cons,List.mem_cons,not_or] at ndx
 obtain⟨⟨nsh,nsb,nsl,_⟩,⟨nhb,nhl,_⟩,⟨nbl,_⟩,_,_⟩:=ndx
 refine⟨_,rfl,?_⟩
 refine jo (fun h2=>?_) (fun h2=>?_)
 ·exact k0 (.inr (of_decide_eq_true h2))
 have hnl:n∉ls:=fun z=>h2 (decide_eq_true z)
 refine⟨_,rfl,_,h.f3 T,_,rfl,_,fnm,lb,_,.inr n,rfl,rfl,hl,qv (by unfold XD;rw[List.length_map];omega),?_⟩
 intro H1 k1' e1
 rw[Zq hnl] at e1
 have s1:H1 self=some (.ins t.qN dx (iR hd bd lb)):=by rw[k1' self nsl];exact se
 have h1':H1 hd=some (.lst (hps.map V.ref).reverse):=by rw[k1' hd nhl];exact hh
 have b1':H1 bd=some (.lst (bqs.map V.ref).reverse):=by rw[k1' bd nbl];exact hbb
 have lh:=fa.len
 refine⟨_,rfl,_,⟨self,_,dx,_,rfl,s1,T.jH,T.wL,xt⟩,.inl ⟨rfl,_,qL.of h1'⟩,_,rfl,hd,_,_,rfl,rfl,h1',qv (by rw[List.length_reverse,List.length_map];omega),?_⟩
 intro H2 k2 e2
 have s2:H2 self=some (.ins t.qN dx (iR hd bd lb)):=by rw[k2 self nsh];exact s1
 have b2':H2 bd=some (.lst (bqs.map V.ref).reverse):=by rw[k2 bd (Ne.symm nhb)];exact b1'
 have l2':H2 lb=some (.dK (XD (ls ++ [n]))):=by rw[k2 lb (Ne.symm nhl)];exact e1
 refine⟨_,rfl,_,⟨self,_,dx,_,rfl,s2,T.jH,T.kH,(kI b1).trans xt⟩,.inl ⟨rfl,_,qL.of b2'⟩,Nat.zero_le _,?_⟩
 intro q H3 s3 hq e3
 refine⟨bd,_,_,rfl,rfl,s3 _ _ b2',qv (by rw[List.length_reverse,List.length_map];omega),?_⟩
 intro H4 k4 e4
 have ke:∀c o,c≠hd→c≠bd→c≠lb→H c=some o→H4 c=some o:=fun c o z1 z2 z3 e=>by
  rw[k4 c z2];refine s3 _ _ ?_;rw[k2 c z1,k1' c z3];exact e
 have QQ:=h.QQ
 have dom2:∀c∈self :: hd :: bd :: lb :: bqs,∃o,H2 c=some o:=fun c hc=>by
  by_cases q1:c=hd
  ·subst q1;exact⟨_,e2⟩
  ·rw[k2 c q1]
   by_cases q3:c=lb
   ·subst q3;exact⟨_,e1⟩
   ·rw[k1' c q3];exact QQ c hc
 have qn:q∉self :: hd :: bd :: lb :: bqs:=fun z=>by
  obtain⟨o,e⟩:=dom2 q z
  rw[hq] at e;cases e
 have Hq:H q=none:=by
  cases z:H q with
  | none=>rfl
  | some o=>
   have q1:q≠hd:=fun y=>qn (by rw[y];simp)
   have q3:q≠lb:=fun y=>qn (by rw[y];simp)
   rw[k2 q q1,k1' q q3,z] at hq;cases hq
 have fm:Fm (self :: hd :: bd :: lb :: bqs) H H4:=fun c o hc e=>ke c o (fun z=>hc (by rw[z];simp)) (fun z=>hc (by rw[z];simp)) (fun z=>hc (by rw[z];simp)) e
 have hm:∀c∈self :: hd :: bd :: lb :: q :: bqs,c∈self :: hd :: bd :: lb :: bqs∨H c=none:=fun c hc=>by
  simp only[List.mem_cons] at hc
  rcases hc with z | z | z | z | z | z
  ·exact .inl (by simp [z])
  ·exact .inl (by simp [z])
  ·exact .inl (by simp [z])
  ·exact .inl (by simp [z])
  ·exact .inr (by rw[z];exact Hq)
  ·exact .inl (by simp [z])
 have qb:q≠bd:=fun y=>qn (by rw[y];simp)
 have q4:H4 q=some (.lst []):=by rw[k4 q qb];exact e3
 have nqs:∀c∈bqs,c≠hd∧c≠bd∧c≠lb:=fun c hc=>by
  simp only[List.nodup_cons,List.mem_cons,not_or] at nd
  exact⟨fun z=>nd.2.1.2.2 (by rw[←z];exact hc),fun z=>nd.2.2.1.2 (by rw[←z];exact hc),fun z=>nd.2.2.2.1 (by rw[←z];exact hc)⟩
 refine k1 (fun z=>z.elim n7 hnl) H4 (self :: hd :: bd :: lb :: q :: bqs) fm hm ⟨dx,hd,bd,lb,p :: hps,q :: bqs,rfl,?_,ke _ _ nsh nsb nsl se,?_,?_,?_,⟨⟨dxp,a,b,dm hm hp ep,dm hm ha ea,fm _ _ hp ep,fm _ _ ha ea⟩,⟨[],q4,by unfold xm;rfl,Nat.zero_le _⟩,fa.move fm hm (Nat.le_succ _) (fun c hc o e=>ke c o (nqs c hc).1 (nqs c hc).2.1 (nqs c hc).2.2 e)⟩,by rw[List.length_append];simp only[List.length_cons,List.length_nil];omega⟩
 ·have nd':=nd
  simp only[List.nodup_cons,List.mem_cons,not_or] at nd' qn ⊢
  exact⟨⟨nd'.1.1,nd'.1.2.1,nd'.1.2.2.1,Ne.symm qn.1,nd'.1.2.2.2⟩,⟨nd'.2.1.1,nd'.2.1.2.1,Ne.symm qn.2.1,nd'.2.1.2.2⟩,⟨nd'.2.2.1.1,Ne.symm qn.2.2.1,nd'.2.2.1.2⟩,⟨Ne.symm qn.2.2.2.1,nd'.2.2.2.1⟩,qn.2.2.2.2,nd'.2.2.2.2⟩
 ·rw[k4 hd nhb,List.map_cons,List.reverse_cons];exact s3 _ _ e2
 ·rw[List.map_cons,List.reverse_cons];exact e4
 ·rw[k4 lb (Ne.symm nbl)];exact s3 _ _ l2'
end
theorem wI.same {t:xj} {H H':Hp} {me:Addr} {fr:List Fr} {ls:List Str} {B:Nat} {ms:List Addr} (h:wI t H me fr ls B ms) (s:qp H H'):wI t H' me fr ls B ms:=by
 obtain⟨dx,hd,bd,lb,hps,bqs,e,h⟩:=h
 subst e
 exact⟨dx,hd,bd,lb,hps,bqs,rfl,h.nd,s _ _ h.se,s _ _ h.hh,s _ _ h.hb,s _ _ h.hl,h.fa.move (Fm.of s) (fun b hb=>.inl hb) (Nat.le_refl _) (fun c _ o e=>s _ _ e),h.sN⟩
theorem wI.up {t:xj} {H:Hp} {me:Addr} {fr:List Fr} {ls:List Str} {B B':Nat} {ms:List Addr} (h:wI t H me fr ls B ms) (hB:B≤B'):wI t H me fr ls B' ms:=by
 obtain⟨dx,hd,bd,lb,hps,bqs,e,h⟩:=h
 subst e
 exact⟨dx,hd,bd,lb,hps,bqs,rfl,h.nd,h.se,h.hh,h.hb,h.hl,h.fa.move (Fm.of (qp.refl _)) (fun b hb=>.inl hb) hB (fun c _ o e=>e),Nat.le_trans h.sN hB⟩
theorem wI.QQ {t:xj} {H:Hp} {me:Addr} {fr:List Fr} {ls:List Str} {B:Nat} {ms:List Addr} (h:wI t H me fr ls B ms):∀b∈ms,∃o,H b=some o:=by
 obtain⟨dx,hd,bd,lb,hps,bqs,e,h⟩:=h
 subst e
 exact h.QQ
theorem wI.out {t:xj} {H:Hp} {me:Addr} {fr:List Fr} {ls:List Str} {B:Nat} {ms:List Addr} {p:Addr} (h:wI t H me fr ls B ms) (hp:H p=none):p∉ms:=fun z=>by
 obtain⟨o,e⟩:=h.QQ p z
 rw[hp] at e;cases e
noncomputable def push:List Fr→Rw→List Fr
 | (n,rs,rows) :: fr,r=>(n,rs,rows ++ [r]) :: fr
 | [],_=>[]
noncomputable def yb (fr:List Fr) (ls:List Str) (x:Str):Option (List Fr × List Str):=
 if x = "done" then (match fr with
  | (n,rs,rows) :: (n2,rs2,rows2) :: fr'=>some ((n2,rs2,rows2 ++ [.pt n rs rows]) :: fr',ls)
  | _=>none)
 else match wm (xR x) with
  | some (n,rs)=>if fr.length=7∨n∈ls then none else some ((n,rs,[]) :: fr,ls ++ [n])
  | none=>match jB (xR x) with
   | some (k,l,u,a,n,r)=>if l∈ls then none else some (push fr (.cl k l u a n r),ls ++ [l])
   | none=>match i4 (xR x) with
    | none=>none
    | some (n,v)=>some (push fr (.lt n v),ls)
noncomputable def Zo (t:xj):Sp:=fun vs H Q _=>∃(self:Addr) (x:Str) (fr:List Fr) (ls:List Str) (B:Nat) (ms:List Addr),vs=[.ref self,.str x]∧wI t H self fr ls B ms∧B < 998∧x.length≤400∧fr≠[]∧fr.length≤7∧(yb fr ls x=none→∀H',Fm ms H H'→Q (.bl false) H')∧
 ∀fr' ls' H' ms',yb fr ls x=some (fr',ls')→Fm ms H H'→(∀b∈ms',b∈ms∨H b=none)→wI t H' self fr' ls' (B + 2) ms'→Q (.bl true) H'
section
variable {P:Program} {w:World} {K:PySem.W.Frag} {mg:Str→Option Value} {base:Heap} {t:xj}
theorem pI:qX ["self","clause"] ["self","clause"] (z6 qS):=⟨rfl,rfl,rfl,by decide +kernel,rfl,by decide +kernel,by decide +kernel⟩
set_option maxHeartbeats 400000 in
theorem pM (T:Txt K mg t):qV P w K mg base jW 3 t.xB t.vj ["self","clause"] (Xk t):=by
 refine T.vM.fn.ok pI (fun vs H Q E h=>(by obtain⟨_,_,_,_,_,_,_,_,_,_,_,_,_,_,_,rfl,_⟩:=h;rfl)) (fun cdv A outer s H vs Q E hr h=>?_)
 obtain⟨self,p,k,l,u,a,n,r,pn,rs,rows,fr,ls,B,ms,rfl,hb,hB,hp,hA,k0,k1⟩:=h
 refine⟨_,(z8 (qM (JI (JC (a7 hr) (vx (K:=K) rfl (pv 1) rfl) (vx (K:=K) rfl (pv 0) rfl)))
    (qz (qr vz)) qt)
   (z8 (pS vz (tL (vx (K:=K) rfl (pv 0) rfl) (vx (K:=K) rfl (pv 1) rfl) (sj (a7 hr))))
   (z8 (ki (hV hr (pv 0) (z0 (pv 1) z7)))
   (qz (qr vz))))),?_⟩
 have M2:ve P w K mg base jW 2 t.qN "put_in" (Zn t):=.mk' T.wx (yA T) T.wA.bd (by decide)
 obtain⟨dx,hd,bd,lb,hps,bqs,e,h⟩:=id hb
 subst e
 have fl:=hA.fl T
 refine⟨_,rfl,_,fl,_,rfl,_,h.f3 T,lb,_,rfl,uu.k (k:=.inr l) h.hl,?_⟩
 rw[iA]
 refine⟨_,rfl,?_⟩
 refine jo (fun h2=>?_) (fun h2=>?_)
 ·exact k0 (of_decide_eq_true h2)
 have hnl:l∉ls:=fun z=>h2 (decide_eq_true z)
 obtain⟨nd,se,hh,hbb,hl,fa,sN⟩:=id h
 have ndx:=nd
 simp only[List.nodup_cons,List.mem_cons,not_or] at ndx
 obtain⟨⟨nsh,nsb,nsl,_⟩,⟨nhb,nhl,_⟩,⟨nbl,_⟩,nlq,_⟩:=ndx
 refine⟨_,rfl,_,h.f3 T,_,rfl,_,fl,lb,_,.inr l,rfl,rfl,hl,qv (by unfold XD;rw[List.length_map];omega),?_⟩
 intro H1 k1' e1
 rw[Zq hnl] at e1
 have fm:Fm (self :: hd :: bd :: lb :: bqs) H H1:=fun c o hc e=>by rw[k1' c (fun z=>hc (by rw[z];simp))];exact e
 have hm:∀c∈self :: hd :: bd :: lb :: bqs,c∈self :: hd :: bd :: lb :: bqs∨H c=none:=fun c hc=>.inl hc
 have s1:H1 self=some (.ins t.qN dx (iR hd bd lb)):=by rw[k1' self nsl];exact se
 have hb1:wI t H1 self ((pn,rs,rows) :: fr) (ls ++ [l]) (B + 1) (self :: hd :: bd :: lb :: bqs):=⟨dx,hd,bd,lb,hps,bqs,rfl,nd,s1,by rw[k1' hd nhl];exact hh,by rw[k1' bd nbl];exact hbb,e1,fa.move fm hm (Nat.le_succ _) (fun c hc o e=>by rw[k1' c (fun z=>nlq (by rw[←z];exact hc))];exact e),by rw[List.length_append];simp only[List.length_cons,List.length_nil];omega⟩
 refine⟨_,rfl,self,_,dx,_,rfl,s1,T.jH,eh,_,M2,?_⟩
 obtain⟨dxc,ec⟩:=hA
 have hr1:pd t (self :: hd :: bd :: lb :: bqs) H1 (.cl k l u a n r) (.ref p):=by unfold pd;exact⟨p,rfl,hp,dxc,fm _ _ hp ec⟩
 refine⟨_,rfl,self,.ref p,pn,rs,rows,fr,_,_,_,_,rfl,hb1,hr1,by omega,fun H2 fm2 hb2=>?_⟩
 exact k1 hnl H2 (fm.trans fm2 hm) hb2
theorem wO:qX ["self","row","head","clause","let"] ["self","row"] (z6 j8):=⟨rfl,rfl,rfl,by decide +kernel,rfl,by decide +kernel,by decide +kernel⟩
set_option maxHeartbeats 400000 in
theorem rE (T:Txt K mg t):qV P w K mg base jW 7 t.ye t.ba ["self","row"] (Zo t):=by
 have G_v_clause_of:qV P w K mg base jW 6 t.wR t.wD ["row"] (iZ t):=(u0 T).mono (by decide)
 have G_v_let_of:qV P w K mg base jW 6 t.bV t.bQ ["row"] (Vi t):=(oR T).mono (by decide)
 have G_v_part_of:qV P w K mg base jW 6 t.gh t.gw ["row"] (Xp t):=(tY T).mono (by decide)
 refine T.mz.fn.ok wO (fun vs H Q E h=>(by obtain⟨_,_,_,_,_,_,rfl,_⟩:=h;rfl)) (fun cdv A outer s H vs Q E hr h=>?_)
 obtain⟨self,x,fr,ls,B,ms,rfl,hb,hB,hx,hne,h7,k0,k1⟩:=h
 refine⟨_,(z8 (qM (qo jY (pv 1) qk (qZ _))
    (qz (qr (yG hr (pv 0)))) qt)
   (z8 (qQ (i:=2) wO.nd rfl (Or.inl rfl) (qu G_v_part_of hr rfl T.bw.mg T.bw.fn.kp T.bw.bd .nil qJ (z0 (pv 1) z7)))
   (z8 (qM (qo uk (pv 2) vZ (qZ _))
    (qz (qr (hV hr (pv 0) (z0 (pv 2) z7)))) qt)
   (z8 (qQ (i:=3) wO.nd rfl (Or.inl rfl) (qu G_v_clause_of hr rfl T.yf.mg T.yf.fn.kp T.yf.bd .nil qJ (z0 (pv 1) z7)))
   (z8 (qM (qo uk (pv 3) vZ (qZ _))
    (qz (qr (hV hr (pv 0) (z0 (pv 3) z7)))) qt)
   (z8 (qQ (i:=4) wO.nd rfl (Or.inl rfl) (qu G_v_let_of hr rfl T.p8.mg T.p8.fn.kp T.p8.bd .nil qJ (z0 (pv 1) z7)))
   (z8 (qM (qo tP (pv 4) vZ (qZ _))
    (qz (qr vz)) qt)
   (z8 (ki (hV hr (pv 0) (z0 (pv 4) z7)))
   (qz (qr vz)))))))))),?_⟩
 have M1:ve P w K mg base jW 6 t.qN "takes_done" (Xv t):=.mk' T.yO (mr T) T.ym.bd (by decide)
 have M2:ve P w K mg base jW 6 t.qN "takes_head" (Xy t):=.mk' T.yI (ml T) T.yd.bd (by decide)
 have M3:ve P w K mg base jW 6 t.qN "takes_clause" (Xk t):=.mk' T.yw (pM T) T.vM.bd (by decide)
 have M4:ve P w K mg base jW 6 t.qN "put_in" (Zn t):=.mk' T.wx (yA T) T.wA.bd (by decide)
 obtain⟨dx,hd,bd,lb,hps,bqs,e,h⟩:=id hb
 obtain⟨pn,prs,prow,fr0,rfl⟩:∃pn prs prow fr0,fr=(pn,prs,prow) :: fr0:=by
  match fr,hne with
  | (a,b,c) :: r,_=>exact⟨a,b,c,r,rfl⟩
 have se:=h.se
 have hmm:∀c∈ms,c∈ms∨H c=none:=fun c hc=>.inl hc
 walk_at "rd"
 refine jo (fun h1=>?_) (fun h1=>?_)
 ·have hxd:x = "done":=um h1
  refine⟨_,rfl,self,_,dx,_,rfl,se,T.jH,YT,_,M1,?_⟩
  refine⟨self,_,ls,B,ms,rfl,hb,by omega,hne,fun hl1=>?_,fun n rs rows n2 rs2 rows2 fr' ef H' ms' fm sub hb'=>?_⟩
  ·refine k0 ?_ H (fun _ _ _ e=>e)
   unfold yb
   rw[if_pos hxd]
   have hf0:fr0=[]:=List.length_eq_zero_iff.mp (by simpa using hl1)
   rw[hf0]
  ·refine k1 _ _ H' ms' ?_ fm (fun b hb=>.inl (sub b hb)) (hb'.up (by omega))
   unfold yb
   rw[if_pos hxd,ef]
 have hxd:¬x = "done":=ud h1
 have eT:yb ((pn,prs,prow) :: fr0) ls x=(match wm (xR x) with
  | some (n,rs)=>if ((pn,prs,prow) :: fr0).length=7∨n∈ls then none else some ((n,rs,[]) :: (pn,prs,prow) :: fr0,ls ++ [n])
  | none=>match jB (xR x) with
   | some (k,l,u,a,n,r)=>if l∈ls then none else some (push ((pn,prs,prow) :: fr0) (.cl k l u a n r),ls ++ [l])
   | none=>match i4 (xR x) with
    | none=>none
    | some (n,v)=>some (push ((pn,prs,prow) :: fr0) (.lt n v),ls)):=by unfold yb;rw[if_neg hxd]
 walk_at "rd"
 refine fun H1 s1=>⟨fun h0=>?_,fun p n rs h0 hp hP=>?_⟩
 ·rw[h0] at eT
  walk_at "rd"
  refine fun H2 s2=>⟨fun h0c=>?_,fun p k l u a n r h0c hp hA=>?_⟩
  ·rw[h0c] at eT
   walk_at "rd"
   refine fun H3 s3=>⟨fun h0l=>?_,fun p n v h0l hp hL=>?_⟩
   ·rw[h0l] at eT
    walk_at "rd"
    exact k0 eT H3 (Fm.of ((s1.trans s2).trans s3))
   ·rw[h0l] at eT
    have sA:qp H H3:=(s1.trans s2).trans s3
    have hout:p∉ms:=(hb.same (s1.trans s2)).out hp
    walk_at "rd"
    refine⟨self,_,dx,_,rfl,sA _ _ se,T.jH,eh,_,M4,?_⟩
    refine⟨_,rfl,self,.ref p,pn,prs,prow,fr0,ls,B,ms,.lt n v,rfl,hb.same sA,(by unfold pd;exact⟨p,rfl,hout,hL⟩),by omega,fun H4 fm4 hb4=>?_⟩
    exact k1 _ _ H4 ms eT ((Fm.of sA).trans fm4 hmm) hmm (hb4.up (by omega))
  ·rw[h0c] at eT
   have sA:qp H H2:=s1.trans s2
   have hout:p∉ms:=(hb.same s1).out hp
   walk_at "rd"
   refine⟨self,_,dx,_,rfl,sA _ _ se,T.jH,YS,_,M3,?_⟩
   refine⟨_,rfl,self,p,k,l,u,a,n,r,pn,prs,prow,fr0,ls,B,ms,rfl,hb.same sA,hB,hout,hA,fun hl=>?_,fun hl H' fm hb'=>?_⟩
   ·exact k0 (by rw[eT];exact if_pos hl) H2 (Fm.of sA)
   ·exact k1 _ _ H' ms (by rw[eT];exact if_neg hl) ((Fm.of sA).trans fm hmm) hmm hb'
 ·rw[h0] at eT
  obtain⟨dxp,a,b,q1,q2,q3,z1,z2⟩:=hP
  walk_at "rd"
  refine⟨self,_,dx,_,rfl,s1 _ _ se,T.jH,YN,_,M2,?_⟩
  refine⟨_,rfl,self,p,dxp,a,b,n,rs,_,ls,B,ms,rfl,hb.same s1,by omega,h7,hb.out hp,hb.out z1,q1,q2,fun hl=>?_,fun hl H' ms' fm hm' hb'=>?_⟩
  ·exact k0 (by rw[eT];exact if_pos hl) H1 (Fm.of s1)
  ·exact k1 _ _ H' ms' (by rw[eT];exact if_neg hl) ((Fm.of s1).trans fm hmm) (fun c hc=>(hm' c hc).elim .inl (fun z=>.inr (s1.free z))) (hb'.up (by omega))
end
noncomputable def Gx (t:xj):Sp:=fun vs H Q _=>∃(self dx:Addr),vs=[.ref self]∧H self=some (.ins t.qN dx [])∧∀H' ms,(∀b o,b≠self→H b=some o→H' b=some o)→(∀b∈ms,b=self∨H b=none)→wI t H' self [("whole",[],[])] [] 0 ms→Q .non H'
noncomputable def kX:Nat→List Str→List Fr→List Str→Except Nat (List Fr)
 | _,[],fr,_=>.ok fr
 | i,x :: r,fr,ls=>if i=90 then .error i else match yb fr ls x with
  | none=>.error i
  | some (fr',ls')=>kX (i + 1) r fr' ls'
noncomputable def Q8 (n:Nat):Except Nat (List Fr)→Except Nat Rw
 | .error i=>.error i
 | .ok [(a,b,c)]=>.ok (.pt a b c)
 | .ok _=>.error n
noncomputable def fq (rows:List Str) (start:Nat):Except Nat Rw:=Q8 rows.length (kX start (rows.drop start) [("whole",[],[])] [])
theorem Qr {fr fr':List Fr} {ls ls':List Str} {x:Str} (h:yb fr ls x=some (fr',ls')) (h0:fr≠[]) (h7:fr.length≤7):fr'≠[]∧fr'.length≤7:=by
 obtain⟨pn,prs,prow,fr0,rfl⟩:∃pn prs prow fr0,fr=(pn,prs,prow) :: fr0:=by
  match fr,h0 with
  | (a,b,c) :: r,_=>exact⟨a,b,c,r,rfl⟩
 have hp:∀r,(push ((pn,prs,prow) :: fr0) r)≠[]∧(push ((pn,prs,prow) :: fr0) r).length≤7:=fun r=>⟨by simp [push],by simpa [push] using h7⟩
 unfold yb at h
 split at h
 ·match fr0,h with
  | (a,b,c) :: r,h=>
   cases h
   refine⟨by simp,?_⟩
   simp only[List.length_cons] at h7 ⊢
   omega
 ·split at h
  ·split at h
   ·cases h
   ·rename_i hn
    cases h
    refine⟨by simp,?_⟩
    have:¬((pn,prs,prow) :: fr0).length=7:=fun z=>hn (.inl z)
    simp only[List.length_cons] at h7 this ⊢
    omega
  ·split at h
   ·split at h
    ·cases h
    ·cases h;exact hp _
   ·split at h
    ·cases h
    ·cases h;exact hp _
noncomputable def Gy (K:PySem.W.Frag) (t:xj):Sp:=fun vs H Q E=>∃(a:Addr) (start:Nat) (rows:List Str),vs=[.ref a,.int start]∧qL K H a (rows.map V.str)∧start≤rows.length∧mx rows∧
 (∀n:Nat,fq rows start=.error n→∀c o H',Q6 t n H c o H'→E c o H')∧∀rw p H',fq rows start=.ok rw→qp H H'→pd t [] H' rw (.ref p)→Q (.ref p) H'
theorem Y2 (a b c:Addr):qF "labels" (.ref c) (qF "bodies" (.ref b) (qF "heads" (.ref a) []))=iR a b c:=by
 simp only[qF,iR,if_neg (fun z=>b1 (Eq.symm z)),if_neg (fun z=>b2 (Eq.symm z)),if_neg (fun z=>b3 (Eq.symm z))]
theorem bP {H:Hp} {p:Addr} {o:HO}:Off p H (upd H p o):=fun c o' hc e=>by rw[qB hc];exact e
section
variable {P:Program} {w:World} {K:PySem.W.Frag} {mg:Str→Option Value} {base:Heap} {t:xj}
theorem tE:qX ["self"] ["self"] (z6 xo):=⟨rfl,rfl,rfl,by decide +kernel,rfl,by decide +kernel,by decide +kernel⟩
set_option maxHeartbeats 400000 in
theorem tK (T:Txt K mg t):qV P w K mg base jW 3 t.yz t.gx ["self"] (Gx t):=by
 have M_Part_init:qV P w K mg base jW 1 t.kW t.vX ["self","name","rooms","rows"] (K0 K t):=(bF T).mono (by decide)
 refine T.dP.fn.ok tE (fun vs H Q E h=>(by obtain⟨_,_,rfl,_⟩:=h;rfl)) (fun cdv A outer s H vs Q E hr h=>?_)
 obtain⟨self,dx,rfl,se,k⟩:=h
 refine⟨_,(z8 (x8 (pv 0) (jq (z0 (wN T.m7 M_Part_init hr rfl T.uM T.yW.bd .nil qJ (z0 qk (z0 (jq z7) (z0 (jq z7) z7)))) z7)) rfl)
   (z8 (x8 (pv 0) (jq (z0 (jq z7) z7)) rfl)
   (qz (x8 (pv 0) Kb rfl)))),?_⟩
 refine⟨Nat.zero_le _,?_⟩
 intro a1 H1 s1 ha1 ea1
 refine⟨Nat.zero_le _,?_⟩
 intro a2 H2 s2 ha2 ea2
 intro p dxp hp hdxp hne
 have mk:∀c o,H2 c=some o→(upd (upd H2 dxp (HO.own p)) p (HO.ins t.jI dxp [])) c=some o:=gu hp hdxp
 refine⟨p,dxp,a1,a2,"whole",[],[],rfl,qm,mk _ _ (s2 _ _ ea1),mk _ _ ea2,fun H3 o3 h3=>⟨rfl,?_⟩⟩
 obtain⟨dx3,qa,qb,r1,r2,r3,z1,z2⟩:=h3
 have k3:qp H H3:=fun c o e=>o3 c o (qg (s2 _ _ (s1 _ _ e)) hp) (mk c o (s2 _ _ (s1 _ _ e)))
 refine⟨qv (by show 1≤1000;decide),?_⟩
 intro hd H4 s4 hhd ehd
 have se4:=s4 _ _ (k3 _ _ se)
 refine⟨_,rfl,self,_,dx,[],rfl,se4,T.jH,T.wL,(by show 0 < 1000;decide),?_⟩
 have o5:Off self H4 (upd H4 self (.ins t.qN dx (qF "heads" (.ref hd) []))):=bP
 generalize hH5:upd H4 self (.ins t.qN dx (qF "heads" (.ref hd) []))=H5 at o5 ⊢
 have e5:H5 self=some (.ins t.qN dx (qF "heads" (.ref hd) [])):=by rw[←hH5];exact qm
 refine⟨Nat.zero_le _,?_⟩
 intro q H6 s6 hq eq
 refine⟨qv (by show 1≤1000;decide),?_⟩
 intro bd H7 s7 hbd ebd
 refine⟨_,rfl,self,_,dx,_,rfl,s7 _ _ (s6 _ _ e5),T.jH,T.kH,(by show 1 < 1000;decide),?_⟩
 have o8:Off self H7 (upd H7 self (.ins t.qN dx (qF "bodies" (.ref bd) (qF "heads" (.ref hd) [])))):=bP
 generalize hH8:upd H7 self (.ins t.qN dx (qF "bodies" (.ref bd) (qF "heads" (.ref hd) [])))=H8 at o8 ⊢
 have e8:H8 self=some (.ins t.qN dx (qF "bodies" (.ref bd) (qF "heads" (.ref hd) []))):=by rw[←hH8];exact qm
 intro lb H9 s9 hlb elb
 refine⟨_,rfl,self,_,dx,_,rfl,s9 _ _ e8,T.jH,T.yE,?_,?_⟩
 ·have:=xT ("bodies" : Str) (.ref bd) (qF "heads" (.ref hd) [])
  have e:(qF ("heads" : Str) (.ref hd) []).length=1:=rfl
  omega
 have o10:Off self H9 (upd H9 self (.ins t.qN dx (qF "labels" (.ref lb) (qF "bodies" (.ref bd) (qF "heads" (.ref hd) []))))):=bP
 rw[Y2] at o10 ⊢
 have hds:hd≠self:=Ne.symm (qg (k3 _ _ se) hhd)
 have qs:q≠self:=Ne.symm (qg e5 hq)
 have bs:bd≠self:=Ne.symm (qg (s6 _ _ e5) hbd)
 have lbs':lb≠self:=Ne.symm (qg e8 hlb)
 have ps:p≠self:=Ne.symm (qg (s2 _ _ (s1 _ _ se)) hp)
 have qas:qa≠self:=Ne.symm (qg (mk _ _ (s2 _ _ (s1 _ _ se))) z1)
 have up:∀c o,c≠self→H3 c=some o→H9 c=some o:=fun c o hc e=>s9 _ _ (o8 _ _ hc (s7 _ _ (s6 _ _ (o5 _ _ hc (s4 _ _ e)))))
 have h5d:H5 hd=some (.lst [.ref p]):=o5 _ _ hds ehd
 have h6d:=s6 _ _ h5d
 have h8d:H8 hd=some (.lst [.ref p]):=o8 _ _ hds (s7 _ _ h6d)
 have h8q:H8 q=some (.lst []):=o8 _ _ qs (s7 _ _ eq)
 have h8b:H8 bd=some (.lst [.ref q]):=o8 _ _ bs ebd
 have hqd:hd≠q:=qg h5d hq
 have hdb:hd≠bd:=qg h6d hbd
 have hdl:hd≠lb:=qg h8d hlb
 have bql:bd≠q:=Ne.symm (qg eq hbd)
 have bl:bd≠lb:=qg h8b hlb
 have lq:lb≠q:=Ne.symm (qg h8q hlb)
 have h5p:H5 p=some (.ins t.jI dx3 (ZU "whole" qa qb)):=o5 _ _ ps (s4 _ _ r1)
 have h5a:H5 qa=some (.lst (([]:List Str).map V.str)):=o5 _ _ qas (s4 _ _ r2)
 have nin:∀c o,c≠self→H3 c=some o→c∉[self,hd,bd,lb,q]:=fun c o hc e hm=>by
  have e5':H5 c=some o:=o5 _ _ hc (s4 _ _ e)
  (simp only[List.mem_cons,List.not_mem_nil,or_false] at hm)
  rcases hm with z | z | z | z | z
  ·exact hc z
  ·rw[z,hhd] at e;cases e
  ·have:=s6 _ _ e5';rw[z,hbd] at this;cases this
  ·have:=o8 _ _ hc (s7 _ _ (s6 _ _ e5'));rw[z,hlb] at this;cases this
  ·rw[z,hq] at e5';cases e5'
 have free:∀c,c∈[self,hd,bd,lb,q]→c=self∨H c=none:=fun c hm=>by
  (simp only[List.mem_cons,List.not_mem_nil,or_false] at hm)
  by_cases hc:c=self
  ·exact .inl hc
  ·refine .inr ?_
   cases z:H c with
   | none=>rfl
   | some o=>
    have:=nin c o hc (k3 _ _ z)
    exact absurd (by simpa using hm) this
 refine k _ [self,hd,bd,lb,q] (fun c o hc e=>o10 _ _ hc (up c o hc (k3 _ _ e))) free ⟨dx,hd,bd,lb,[p],[q],rfl,?_,qm,o10 _ _ hds (s9 _ _ h8d),o10 _ _ bs (s9 _ _ h8b),o10 _ _ lbs' elb,⟨⟨dx3,qa,qb,nin p _ ps r1,nin qa _ qas r2,o10 _ _ ps (up _ _ ps r1),o10 _ _ qas (up _ _ qas r2)⟩,⟨[],o10 _ _ qs (s9 _ _ h8q),by unfold xm;rfl,Nat.le_refl _⟩,True.intro⟩,Nat.le_refl _⟩
 simp only[List.nodup_cons,List.mem_cons,List.not_mem_nil,not_or,or_false,List.nodup_nil,not_false_eq_true,and_true]
 exact⟨⟨Ne.symm hds,Ne.symm bs,Ne.symm lbs',Ne.symm qs⟩,⟨hdb,hdl,hqd⟩,⟨bl,bql⟩,lq⟩
theorem yr:qX ["rows","start","body","number"] ["rows","start"] (z6 jQ):=⟨rfl,rfl,rfl,by decide +kernel,rfl,by decide +kernel,by decide +kernel⟩
set_option maxHeartbeats 400000 in
theorem cD (T:Txt K mg t):qV P w K mg base (sQ P w) 8 t.vA t.vT ["rows","start"] (Gy K t):=by
 have M_Body_init:qV P w K mg base jW 6 t.yz t.gx ["self"] (Gx t):=(tK T).mono (by decide)
 have M_NoText_init:qV P w K mg base jW 6 t.xH t.kf ["self","row"] (Qf K "row"):=(y3 T).mono (by decide)
 refine T.wZ.fn.GC yr (fun vs H Q E h=>(by obtain⟨_,_,_,rfl,_⟩:=h;rfl)) (fun cdv A outer s H vs Q E hr h=>?_)
 obtain⟨a,start,rows,rfl,hA,hst,hR,kE,kQ⟩:=h
 refine⟨_,(z8 (qQ (i:=2) yr.nd rfl (Or.inl rfl) (JS T.Zy M_Body_init hr rfl T.Jl T.dP.bd .nil qJ))
   (z8 (pT PassesOwn.leaving rfl (Qq rfl T.wF (z0 (pv 1) (z0 (qi (qD (K:=K) rfl) rfl T.xw PySem.boot_len (z0 (pv 0) z7)) z7))) (jy (i:=3) yr.nd rfl (Or.inl rfl))
    (qz (qM (PW.pt (wX (qo jY (pv 3) (jf rfl (T.cm).choose_spec (v:=.int 90) ⟨_,rfl⟩) (qZ _)) (wH (wG (jE (hV hr (pv 2) (z0 (qf (qy (K:=K) rfl) (pv 0) (pv 3) (fun _ _=>rfl)) z7)))))))
    (qz (hU fQ rfl (hZ T.vP M_NoText_init hr rfl T.yv T.xS.bd .nil qJ (z0 (pv 3) z7)))) qt)))
   (z8 (qM (qo oE (yG hr (pv 2)) z9 (qZ _))
    (qz (hU fQ rfl (hZ T.vP M_NoText_init hr rfl T.yv T.xS.bd .nil qJ (z0 (qi (qD (K:=K) rfl) rfl T.xw PySem.boot_len (z0 (pv 0) z7)) z7)))) qt)
   (qz (qr (yG hr (pv 2))))))),?_⟩
 have M1:ve P w K mg base jW 7 t.qN "takes" (Zo t):=.mk' T.fD (rE T) T.mz.bd (by decide)
 have M2:ve P w K mg base jW 7 t.qN "many_open" (nZ t):=.mk' T.kn (wg T) T.kJ.bd (by decide)
 have M3:ve P w K mg base jW 7 t.qN "closed" (rV t):=.mk' T.yN (pF T) T.gq.bd (by decide)
 intro self dx hs hdx hne
 refine⟨self,dx,rfl,qm,fun H1 ms k1 fr1 hb1=>⟨rfl,?_⟩⟩
 have s1:qp H H1:=fun c o e=>k1 c o (qg e hs) (gu hs hdx c o e)
 have f1:∀c∈ms,H c=none:=fun c hc=>by
  rcases fr1 c hc with z | z
  ·rw[z];exact hs
  ·cases q:H c with
   | none=>rfl
   | some o=>rw[gu hs hdx c o q] at z;cases z
 walk_at "rd"
 refine⟨a,_,rfl,.inl (s1.seq hA),?_⟩
 have hlen:(rows.map V.str).length=rows.length:=List.length_map ..
 refine⟨_,_,rfl,⟨by omega,by have:=hR.sN;omega,by omega,by have:=hR.sN;omega⟩,?_⟩
 have hn:(((rows.map V.str).length:Nat) - (start:Int)).toNat=rows.length - start:=by rw[hlen];omega
 rw[hn]
 refine gD (lo:=(start:Int)) (n:=rows.length - start) (fun i σ H'=>∃(fr:List Fr) (ls:List Str) (ms:List Addr) (v3:Option V),σ=[some (.ref a),some (.int start),some (.ref self),v3]∧qp H H'∧(∀c∈ms,H c=none)∧wI t H' self fr ls (2 * i) ms∧fr≠[]∧fr.length≤7∧kX start (rows.drop start) [("whole",[],[])] []=kX (start + i) (rows.drop (start + i)) fr ls)
  ⟨_,_,ms,none,rfl,s1,f1,hb1,by simp,by simp,by rw[Nat.add_zero]⟩ ?_ ?_
 ·rintro i σ H2 hi ⟨fr,ls,ms2,v3,rfl,s2,f2,hb2,hne2,h72,hr2⟩
  have hi':start + i < rows.length:=by omega
  have hwd:wd rows (start + i)∈rows:=cz hi'
  have hd:rows.drop (start + i)=wd rows (start + i) :: rows.drop (start + i + 1):=by
   unfold wd
   rw[List.getD_eq_getElem?_getD,List.getElem?_eq_getElem hi']
   exact List.drop_eq_getElem_cons hi'
  rw[hd] at hr2
  have hfew:=hR.sN
  have eb:kX (start + i) (wd rows (start + i) :: rows.drop (start + i + 1)) fr ls=if start + i=90 then .error (start + i) else match yb fr ls (wd rows (start + i)) with
   | none=>.error (start + i)
   | some (fr',ls')=>kX (start + i + 1) (rows.drop (start + i + 1)) fr' ls':=by rw[kX]
  have bad:kX (start + i) (wd rows (start + i) :: rows.drop (start + i + 1)) fr ls=.error (start + i)→∀c o H',Q6 t ((start:Int) + i) H c o H'→E c o H':=fun z c o H' q=>kE (start + i) (by unfold fq;rw[hr2,z];rfl) c o H' (by rw[Int.natCast_add];exact q)
  walk_at "rd"
  refine jo (fun h1=>?_) (fun h1=>?_)
  ·walk_at "rd"
   exact bU T fun c o H' z=>bad (by
    have:(start:Int) + i=90:=by simpa using h1
    rw[eb,if_pos (by omega)]) c o H' (z.back s2)
  have h90:¬start + i=90:=fun z=>h1 (by
   have:(start:Int) + i=90:=by omega
   simp [this])
  rw[if_neg h90] at eb
  obtain⟨dx2,hd2,bd2,lb2,hps2,bqs2,e2,h2⟩:=id hb2
  walk_at "rd"
  refine⟨self,_,dx2,_,rfl,h2.se,T.jH,YO,_,M1,?_⟩
  have hix:rN (rows.map V.str) ((start:Int) + i)=some (.str (wd rows (start + i))):=by
   have:=gH (xs:=rows) (i:=(start:Int) + i) (by omega) (by omega)
   rw[this]
   unfold wd
   rw[show ((start:Int) + i).toNat=start + i by omega]
  refine⟨_,rfl,_,rfl,a,_,_,_,rfl,rfl,s2.seq hA,hix,?_⟩
  refine⟨self,_,fr,ls,2 * i,ms2,rfl,hb2,by omega,hR.short _ hwd,hne2,h72,fun hN H3 fm3=>?_,fun fr' ls' H3 ms3 hS fm3 hm3 hb3=>?_⟩
  ·rw[hN] at eb
   walk_at "rd"
   exact bU T fun c o H' z=>bad eb c o H' (z.back (fm3.eA s2 f2))
  ·rw[hS] at eb
   obtain⟨g1,g2⟩:=Qr hS hne2 h72
   walk_at "rd"
   exact⟨fr',ls',ms3,_,rfl,fm3.eA s2 f2,fun c hc=>(hm3 c hc).elim (f2 c) (fun z=>s2.free z),hb3.up (by omega),g1,g2,by rw[hr2,eb];rfl⟩
 ·rintro σ H2 ⟨fr,ls,ms2,v3,rfl,s2,f2,hb2,hne2,h72,hr2⟩
  have hfew:=hR.sN
  rw[show start + (rows.length - start)=rows.length by omega,List.drop_length,kX] at hr2
  obtain⟨dx2,hd2,bd2,lb2,hps2,bqs2,e2,h2⟩:=id hb2
  walk_at "rd"
  refine⟨self,_,dx2,_,rfl,h2.se,T.jH,tJ,_,M2,?_⟩
  refine⟨self,fr,ls,_,ms2,rfl,hb2,?_⟩
  walk_at "rd"
  refine jo (fun h1=>?_) (fun h1=>?_)
  ·have h1':(0:Int) < ((fr.length:Nat):Int) - 1:=of_decide_eq_true h1
   walk_at "rd"
   refine⟨a,_,rfl,.inl (s2.seq hA),?_⟩
   rw[hlen]
   walk_at "rd"
   exact bU T fun c o H' z=>kE rows.length (by
    unfold fq
    rw[hr2]
    match fr,h1' with
    | _ :: _ :: _,_=>rfl
    | [_],h=>exact absurd h (by simp)) c o H' (z.back s2)
  have h1':¬(0:Int) < ((fr.length:Nat):Int) - 1:=fun z=>h1 (decide_eq_true z)
  obtain⟨n,rs,rws,rfl⟩:∃n rs rws,fr=[(n,rs,rws)]:=by
   match fr,hne2,h1' with
   | [(n,rs,rws)],_,_=>exact⟨n,rs,rws,rfl⟩
   | _ :: _ :: _,_,h=>exact absurd (by simp only[List.length_cons];omega) h
  walk_at "rd"
  refine⟨self,_,dx2,_,rfl,h2.se,T.jH,lA,_,M3,?_⟩
  refine⟨self,n,rs,rws,[],ls,_,ms2,rfl,hb2,by omega,fun p H3 ms3 fm3 sub3 hb3 hr3=>?_⟩
  exact kQ _ p H3 (by unfold fq;rw[hr2];rfl) (fm3.eA s2 f2) (hr3.move (fun _ _ _ e=>e) (fun b hb=>by cases hb))
end
noncomputable def GB (a b c:Addr) (x:V):List (Str × V):=[("parties",.ref a),("acts",.ref b),("rooms",.ref c),("whole",x)]
theorem a1:¬(("parties" : Str) = "acts"):=by decide +kernel
theorem a2:¬(("parties" : Str) = "rooms"):=by decide +kernel
theorem a3:¬(("parties" : Str) = "whole"):=by decide +kernel
theorem a4:¬(("acts" : Str) = "rooms"):=by decide +kernel
theorem a5:¬(("acts" : Str) = "whole"):=by decide +kernel
theorem a6:¬(("rooms" : Str) = "whole"):=by decide +kernel
theorem Y5 (a b c:Addr) (x:V):qF "whole" x (qF "rooms" (.ref c) (qF "acts" (.ref b) (qF "parties" (.ref a) [])))=GB a b c x:=by
 simp only[qF,GB,if_neg a1,if_neg a2,if_neg a3,if_neg a4,if_neg a5,if_neg a6]
noncomputable def Vo (K:PySem.W.Frag) (t:xj):Sp:=fun vs H Q _=>∃(p dx a b c:Addr) (x:V) (xs ys zs:List V),vs=[.ref p,.ref a,.ref b,.ref c,x]∧H p=some (.ins t.xu dx [])∧H a=some (.lst xs)∧H b=some (.lst ys)∧H c=some (.lst zs)∧
 ∀H' a' b' c',Off p H H'→H' p=some (.ins t.xu dx (GB a' b' c' x))→H' a'=some (.lst xs)→H' b'=some (.lst ys)→H' c'=some (.lst zs)→Q .non H'
noncomputable def VL (t:xj) (H:Hp) (p:Addr) (ps as:List Str) (ql:List (Str × Str)) (rw:Rw):Prop:=∃dx a b c x vs,H p=some (.ins t.xu dx (GB a b c x))∧H a=some (.lst (ps.map V.str))∧H b=some (.lst (as.map V.str))∧H c=some (.lst vs)∧Paired (ka H) vs ql∧pd t [] H rw x
noncomputable def jr (rows:List Str):Except Nat (List Str × List Str × List (Str × Str) × Rw):=
 match ji rows 0 "parties" 4 [] with
 | none=>.error 0
 | some ps=>match ji rows 1 "acts" 6 ps with
  | none=>.error 1
  | some as=>match jd (ps ++ as) [] (rows.drop 2) with
   | .error n=>.error n
   | .ok ql=>match fq rows (2 + ql.length) with
    | .error n=>.error n
    | .ok rw=>.ok (ps,as,ql,rw)
theorem mZ {taken:List Str}:∀{rest:List Str} {found ql:List (Str × Str)},jd taken found rest=.ok ql→ql.length≤found.length + rest.length∧ql≠[]
 | [],found,ql,h=>by
  unfold jd at h
  split at h
  ·cases h
  ·rename_i z;cases h;exact⟨by simp,z⟩
 | x :: r,found,ql,h=>by
  unfold jd at h
  split at h
  ·split at h
   ·cases h
   ·rename_i z;cases h;exact⟨by omega,z⟩
  ·split at h
   ·cases h
   ·have:=mZ h
    rw[List.length_append] at this
    simp only[List.length_cons,List.length_nil] at this ⊢
    exact⟨by omega,this.2⟩
theorem uT {rows:List Str} {i:Nat} {x:Str} {m:Int} {taken ns:List Str} (hR:mx rows) (h:ji rows i x m taken=some ns):(ns.length:Int)≤m:=by
 unfold ji at h
 split at h
 ·cases h
 ·dsimp only at h
  split at h
  ·cases h
  ·rename_i q
   cases h
   unfold jM at q ⊢
   split at q
   ·exact absurd (.inl rfl) q
   ·rename_i q2
    rw[if_neg q2]
    have q3:gz ((xR (wd rows i)).drop 1) m=true:=by
     cases z:gz ((xR (wd rows i)).drop 1) m with
     | true=>rfl
     | false=>exact absurd (.inr z) q2
    unfold gz at q3
    rw[Bool.and_eq_true,Bool.and_eq_true] at q3
    exact of_decide_eq_true q3.1.2
noncomputable def Xf (t:xj):Sp:=fun vs H Q E=>∃(x:Str),vs=[.str x]∧x.length≤60000∧mx (Txt.split x "; ")∧
 (∀n:Nat,jr (Txt.split x "; ")=.error n→∀c o H',Q6 t n H c o H'→E c o H')∧∀ps as ql rw p H',jr (Txt.split x "; ")=.ok (ps,as,ql,rw)→qp H H'→VL t H' p ps as ql rw→Q (.ref p) H'
section
variable {P:Program} {w:World} {K:PySem.W.Frag} {mg:Str→Option Value} {base:Heap} {t:xj}
theorem nj:qX ["self","parties","acts","rooms","whole"] ["self","parties","acts","rooms","whole"] (z6 xa):=⟨rfl,rfl,rfl,by decide +kernel,rfl,by decide +kernel,by decide +kernel⟩
set_option maxHeartbeats 400000 in
theorem tW (T:Txt K mg t):qV P w K mg base jW 1 t.yq t.gv ["self","parties","acts","rooms","whole"] (Vo K t):=by
 refine T.dM.fn.ok nj (fun vs H Q E h=>(by obtain⟨_,_,_,_,_,_,_,_,_,rfl,_⟩:=h;rfl)) (fun cdv A outer s H vs Q E hr h=>?_)
 obtain⟨p,dx,a,b,c,x,xs,ys,zs,rfl,hp,hA,hB,hC,k⟩:=h
 refine⟨_,(z8 (x8 (pv 0) (j0 (gA (K:=K) rfl) rfl T.mv PyProof.Rows.boot_list (z0 (pv 1) z7)) rfl)
   (z8 (x8 (pv 0) (j0 (gA (K:=K) rfl) rfl T.mv PyProof.Rows.boot_list (z0 (pv 2) z7)) rfl)
   (z8 (x8 (pv 0) (j0 (gA (K:=K) rfl) rfl T.mv PyProof.Rows.boot_list (z0 (pv 3) z7)) rfl)
   (qz (x8 (pv 0) (pv 4) rfl))))),?_⟩
 have na:a≠p:=cK hA hp (by intro z;cases z)
 have nb:b≠p:=cK hB hp (by intro z;cases z)
 have nc:c≠p:=cK hC hp (by intro z;cases z)
 refine⟨_,rfl,a,_,rfl,.inl (qL.of hA),?_⟩
 intro q1 H1 s1 hq1 e1
 refine⟨_,rfl,p,_,dx,_,rfl,s1 _ _ hp,T.mC,T.b7,(by show 0 < 1000;decide),?_⟩
 have o2:Off p H1 (upd H1 p (.ins t.xu dx (qF "parties" (.ref q1) []))):=bP
 generalize hH2:upd H1 p (.ins t.xu dx (qF "parties" (.ref q1) []))=H2 at o2 ⊢
 have e2:H2 p=some (.ins t.xu dx (qF "parties" (.ref q1) [])):=by rw[←hH2];exact qm
 refine⟨_,rfl,b,_,rfl,.inl (qL.of (o2 _ _ nb (s1 _ _ hB))),?_⟩
 intro q3 H3 s3 hq3 e3
 refine⟨_,rfl,p,_,dx,_,rfl,s3 _ _ e2,T.mC,T.dv,(by show 1 < 1000;decide),?_⟩
 have o4:Off p H3 (upd H3 p (.ins t.xu dx (qF "acts" (.ref q3) (qF "parties" (.ref q1) [])))):=bP
 generalize hH4:upd H3 p (.ins t.xu dx (qF "acts" (.ref q3) (qF "parties" (.ref q1) [])))=H4 at o4 ⊢
 have e4:H4 p=some (.ins t.xu dx (qF "acts" (.ref q3) (qF "parties" (.ref q1) []))):=by rw[←hH4];exact qm
 refine⟨_,rfl,c,_,rfl,.inl (qL.of (o4 _ _ nc (s3 _ _ (o2 _ _ nc (s1 _ _ hC))))),?_⟩
 intro q5 H5 s5 hq5 e5
 have l2:(qF ("acts" : Str) (.ref q3) (qF "parties" (.ref q1) [])).length≤2:=by
  have:=xT ("acts" : Str) (.ref q3) (qF "parties" (.ref q1) [])
  have e:(qF ("parties" : Str) (.ref q1) []).length=1:=rfl
  omega
 refine⟨_,rfl,p,_,dx,_,rfl,s5 _ _ e4,T.mC,T.fN,by omega,?_⟩
 have o6:Off p H5 (upd H5 p (.ins t.xu dx (qF "rooms" (.ref q5) (qF "acts" (.ref q3) (qF "parties" (.ref q1) []))))):=bP
 generalize hH6:upd H5 p (.ins t.xu dx (qF "rooms" (.ref q5) (qF "acts" (.ref q3) (qF "parties" (.ref q1) []))))=H6 at o6 ⊢
 have e6:H6 p=some (.ins t.xu dx (qF "rooms" (.ref q5) (qF "acts" (.ref q3) (qF "parties" (.ref q1) [])))):=by rw[←hH6];exact qm
 refine⟨_,rfl,_,rfl,p,_,dx,_,rfl,e6,T.mC,T.fO,?_,?_⟩
 ·have:=xT ("rooms" : Str) (.ref q5) (qF "acts" (.ref q3) (qF "parties" (.ref q1) []))
  omega
 have o7:Off p H6 (upd H6 p (.ins t.xu dx (qF "whole" x (qF "rooms" (.ref q5) (qF "acts" (.ref q3) (qF "parties" (.ref q1) [])))))):=bP
 rw[Y5] at o7 ⊢
 have n1:q1≠p:=Ne.symm (qg hp hq1)
 have n3:q3≠p:=Ne.symm (qg e2 hq3)
 have n5:q5≠p:=Ne.symm (qg e4 hq5)
 exact k _ q1 q3 q5 (fun d o hd e=>o7 _ _ hd (o6 _ _ hd (s5 _ _ (o4 _ _ hd (s3 _ _ (o2 _ _ hd (s1 _ _ e))))))) qm (o7 _ _ n1 (o6 _ _ n1 (s5 _ _ (o4 _ _ n1 (s3 _ _ (o2 _ _ n1 e1)))))) (o7 _ _ n3 (o6 _ _ n3 (s5 _ _ (o4 _ _ n3 e3)))) (o7 _ _ n5 (o6 _ _ n5 e5))
theorem yH:qX ["text","rows","parties","acts","rooms","whole"] ["text"] (z6 wt):=⟨rfl,rfl,rfl,by decide +kernel,rfl,by decide +kernel,by decide +kernel⟩
set_option maxHeartbeats 400000 in
theorem Z6 (T:Txt K mg t):qV P w K mg base (sQ P w) 9 t.mT t.mU ["text"] (Xf t):=by
 have G_v_read_names:qV P w K mg base (sQ P w) 8 t.vI t.vL ["rows","number","word","most","taken"] (Gv K t):=(cF T).mono (by decide)
 have G_v_read_rooms:qV P w K mg base (sQ P w) 8 t.vE t.vS ["rows","taken"] (Gw K t):=(cM T).mono (by decide)
 have G_v_read_whole:qV P w K mg base (sQ P w) 8 t.vA t.vT ["rows","start"] (Gy K t):=(cD T).mono (by decide)
 have M_Pact_init:qV P w K mg base jW 7 t.yq t.gv ["self","parties","acts","rooms","whole"] (Vo K t):=(tW T).mono (by decide)
 refine T.rH.fn.GC yH (fun vs H Q E h=>(by obtain⟨_,rfl,_⟩:=h;rfl)) (fun cdv A outer s H vs Q E hr h=>?_)
 obtain⟨x,rfl,hx,hR,kE,kQ⟩:=h
 refine⟨_,(z8 (qQ (i:=1) yH.nd rfl (Or.inl rfl) (kB PySem.F.plainAttrs_str PySem.F.slot_str_split PySem.F.type_str_split g8 (pv 0) (z0 qk z7)))
   (z8 (qQ (i:=2) yH.nd rfl (Or.inl rfl) (qu G_v_read_names hr rfl T.xW.mg T.xW.fn.kp T.xW.bd .nil (Zf fun _ _ _ z=>z) (z0 (pv 1) (z0 z9 (z0 qk (z0 (jf rfl (T.pK).choose_spec (v:=.int 4) ⟨_,rfl⟩) (z0 (jq z7) z7)))))))
   (z8 (qQ (i:=3) yH.nd rfl (Or.inl rfl) (qu G_v_read_names hr rfl T.xW.mg T.xW.fn.kp T.xW.bd .nil (Zf fun _ _ _ z=>z) (z0 (pv 1) (z0 z9 (z0 qk (z0 (jf rfl (T.cb).choose_spec (v:=.int 6) ⟨_,rfl⟩) (z0 (pv 2) z7)))))))
   (z8 (qQ (i:=4) yH.nd rfl (Or.inl rfl) (qu G_v_read_rooms hr rfl T.wa.mg T.wa.fn.kp T.wa.bd .nil (Zf fun _ _ _ z=>z) (z0 (pv 1) (z0 (qw wy (pv 2) (pv 3)) z7))))
   (z8 (qQ (i:=5) yH.nd rfl (Or.inl rfl) (qu G_v_read_whole hr rfl T.wZ.mg T.wZ.fn.kp T.wZ.bd .nil (Zf fun _ _ _ z=>z) (z0 (pv 1) (z0 (qw je (jf rfl (T.wz).choose_spec (v:=.int 2) ⟨_,rfl⟩) (qi (qD (K:=K) rfl) rfl T.xw PySem.boot_len (z0 (pv 4) z7))) z7))))
   (qz (qr (wN T.Zg M_Pact_init hr rfl T.Jt T.dM.bd .nil qJ (z0 (pv 2) (z0 (pv 3) (z0 (pv 4) (z0 (pv 5) z7)))))))))))),?_⟩
 walk_at "rd"
 refine⟨by rw[sizeLine_eq];omega,?_⟩
 intro lr H1 s1 hlr e1
 have hpos:1≤(Txt.split x (Str.ofString "; ")).length:=PyProof.Rows.split_pos x "; "
 have e1':H1 lr=some (.lst ((Txt.split x "; ").map V.str)):=e1
 clear e1
 generalize Txt.split x (Str.ofString "; ")=rows at *
 walk_at "rd"
 intro l0 H2 s2 hl0 e2
 have sA:qp H H2:=s1.trans s2
 refine⟨lr,l0,0,_,_,rows,[],rfl,qL.of (s2 _ _ e1'),e2,Nat.zero_le _,hR,Nat.zero_le _,by decide,fun hN c o H' z=>?_,fun ps lp H3 hS s3 hlp e3=>?_⟩
 ·exact kE 0 (by unfold jr;rw[hN]) c o H' (z.back sA)
 have hps:=uT hR hS
 walk_at "rd"
 refine⟨lr,lp,1,_,_,rows,ps,rfl,qL.of (s3 _ _ (s2 _ _ e1')),e3,hpos,hR,by omega,by decide,fun hN c o H' z=>?_,fun as la H4 hS4 s4 hla e4=>?_⟩
 ·exact kE 1 (by unfold jr;rw[hS];dsimp only;rw[hN]) c o H' (z.back (sA.trans s3))
 have has:=uT hR hS4
 walk_at "rd"
 refine⟨lp,la,_,_,rfl,rfl,s4 _ _ e3,e4,qv (by simp only[List.length_map];omega),?_⟩
 intro lt H5 s5 hlt e5
 have e5':H5 lt=some (.lst ((ps ++ as).map V.str)):=by rw[e5,List.map_append]
 have sB:qp H H5:=((sA.trans s3).trans s4).trans s5
 refine⟨lr,lt,rows,ps ++ as,rfl,qL.of (s5 _ _ (s4 _ _ (s3 _ _ (s2 _ _ e1')))),e5',hR,by rw[List.length_append];omega,fun n hN c o H' z=>?_,fun ql l6 H6 vs hS6 s6 hl6 e6 hP6=>?_⟩
 ·exact kE n (by unfold jr;rw[hS];dsimp only;rw[hS4];dsimp only;rw[hN]) c o H' (z.back sB)
 have hrl:=(mZ hS6).1
 have hr0:=List.length_pos_iff.mpr (mZ hS6).2
 rw[List.length_drop,List.length_nil,Nat.zero_add] at hrl
 have hvl:vs.length=ql.length:=Paired.length hP6
 walk_at "rd"
 refine⟨l6,_,rfl,.inl (qL.of e6),?_⟩
 refine⟨_,_,rfl,rfl,?_⟩
 have ecast:(2:Int) + ((vs.length:Nat):Int)=((2 + ql.length:Nat):Int):=by rw[hvl];omega
 have sC:qp H H6:=sB.trans s6
 refine⟨lr,2 + ql.length,rows,by rw[←ecast];rfl,qL.of (s6 _ _ (s5 _ _ (s4 _ _ (s3 _ _ (s2 _ _ e1'))))),by omega,hR,fun n hN c o H' z=>?_,fun rw' p H7 hS7 s7 hr7=>?_⟩
 ·exact kE n (by unfold jr;rw[hS];dsimp only;rw[hS4];dsimp only;rw[hS6];dsimp only;rw[hN]) c o H' (z.back sC)
 walk_at "rd"
 intro q dxq hq hdq hne
 have mk:∀c o,H7 c=some o→(upd (upd H7 dxq (HO.own q)) q (HO.ins t.xu dxq [])) c=some o:=gu hq hdq
 refine⟨q,dxq,lp,la,l6,.ref p,_,_,_,rfl,qm,mk _ _ (s7 _ _ (s6 _ _ (s5 _ _ (s4 _ _ e3)))),mk _ _ (s7 _ _ (s6 _ _ (s5 _ _ e4))),mk _ _ (s7 _ _ e6),fun H8 a' b' c' o8 g1 g2 g3 g4=>⟨rfl,?_⟩⟩
 have s8:qp H7 H8:=fun c o e=>o8 c o (qg e hq) (mk c o e)
 exact kQ ps as ql rw' q H8 (by unfold jr;rw[hS];dsimp only;rw[hS4];dsimp only;rw[hS6];dsimp only;rw[hS7]) ((sC.trans s7).trans s8) ⟨_,a',b',c',_,_,g1,g2,g3,g4,Paired.imp' (fun _ _ z=>z.same (s7.trans s8)) hP6,hr7.move (fun _ _ _ e=>s8 _ _ e) (fun b hb=>by cases hb)⟩
end
noncomputable def lits:List Str:=["any","must","may","not","by","else","to","let","be","part","in","calm","sore","end"]
noncomputable def Rt (k:Nat) (x:Str):Prop:=(k=0∧qe x=true)∨(k=1∧qe x=false∧0 < bB x∧x∉lits)∨(k=2∧qe x=false∧bB x=0∧x∉lits)∨(3≤k∧lits[k - 3]?=some x)
noncomputable def aL (k p:Nat):Bool:=if p=100 then k == 0 else if p=101 then k == 0 || k == 3 else if p=102 then k == 1 else k == p
noncomputable def j5 (ks ps:List Nat):Bool:=decide (ks.length=ps.length) && (ks.zip ps).all fun q=>aL q.1 q.2
noncomputable def eX (p:Nat):Str:=if p=100 then "NAME" else if p=101 then "WHO" else if p=102 then "NUMBER" else lits.getD (p - 3) ""
noncomputable def cV:List Nat:=[100,100,4,100,7,102,8,100]
noncomputable def pR:List Nat:=[100,101,5,100]
noncomputable def eQ:List Nat:=[100,101,5,6,100,8,100]
noncomputable def dA:List Nat:=[100,101,7,100,9,100]
noncomputable def Ke:List Nat:=[10,100,11,100]
noncomputable def sk:List Nat:=[12,100]
noncomputable def JY (p:Nat):Bool:=p == 100 || p == 101 || p == 102 || (decide (3≤p) && decide (p≤16))
theorem j6:aU=cV.map eX∧sT=pR.map eX∧X7=eQ.map eX∧iU=dA.map eX∧Jz=Ke.map eX∧uZ=sk.map eX:=by decide +kernel
theorem uz:∀x∈lits,qe x=false∧bB x=0:=by decide +kernel
theorem Kk:lits.Nodup:=by decide +kernel
theorem sI:∀c∈qT.cps.toList,¬(48≤c∧c≤57):=by decide +kernel
theorem aO (z:Str) (c:Nat):has z c=decide (c∈z.cps.toList):=StrLaws.found_one z c
theorem rR {x z:Str} {m:Int} (h:pk x z m=true):1≤x.length∧(x.length:Int)≤m∧∀c∈x.cps.toList,c∈z.cps.toList:=by
 unfold pk at h
 rw[Bool.and_eq_true,Bool.and_eq_true] at h
 obtain⟨⟨h1,h2⟩,h3⟩:=h
 refine⟨of_decide_eq_true h1,of_decide_eq_true h2,fun c hc=>?_⟩
 have:=List.all_eq_true.mp h3 c hc
 rw[aO] at this
 exact of_decide_eq_true this
theorem name_num {x:Str} (h:qe x=true):bB x=0:=by
 unfold qe at h
 rw[Bool.and_eq_true] at h
 obtain⟨h1,_,h3⟩:=rR h.1
 unfold bB
 refine if_neg fun q=>?_
 obtain⟨_,_,d3⟩:=cG q.1
 obtain⟨c,e,_⟩:=oy h1
 have hc:c∈x.cps.toList:=List.mem_of_mem_head? e
 exact sI c (h3 c hc) (d3 c hc)
theorem JQ {x:Str} (h:qe x=true):x∉lits:=fun q=>by rw[(uz x q).1] at h;cases h
theorem Wc {k j:Nat} {x:Str} (hk:lits[k]?=some x) (hj:lits[j]?=some x):k=j:=df Kk hk hj
theorem Rt.num {k:Nat} {x:Str} (h:Rt k x):decide (bB x > 0)=(k == 1):=by
 rcases h with ⟨rfl,h⟩ | ⟨rfl,h1,h2,h3⟩ | ⟨rfl,h1,h2,h3⟩ | ⟨h1,h2⟩
 ·rw[name_num h];rfl
 ·rw[decide_eq_true h2];rfl
 ·rw[h2];rfl
 ·have hm:=List.mem_of_getElem? h2
  rw[(uz x hm).2]
  have:(k == 1)=false:=beq_eq_false_iff_ne.mpr (by omega)
  rw[this];rfl
theorem Rt.name {k:Nat} {x:Str} (h:Rt k x):qe x=(k == 0):=by
 rcases h with ⟨rfl,h⟩ | ⟨rfl,h1,h2,h3⟩ | ⟨rfl,h1,h2,h3⟩ | ⟨h1,h2⟩
 ·rw[h];rfl
 ·rw[h1];rfl
 ·rw[h1];rfl
 ·have hm:=List.mem_of_getElem? h2
  rw[(uz x hm).1]
  exact(beq_eq_false_iff_ne.mpr (by omega)).symm
theorem Rt.lit {k j:Nat} {x y:Str} (h:Rt k x) (hj:lits[j]?=some y):decide (x=y)=(k == j + 3):=by
 have nm:x∉lits→k < 3→decide (x=y)=(k == j + 3):=fun h h3=>by
  have:¬x=y:=fun q=>h (by rw[q];exact List.mem_of_getElem? hj)
  rw[decide_eq_false this]
  exact(beq_eq_false_iff_ne.mpr (by omega)).symm
 rcases h with ⟨rfl,h⟩ | ⟨rfl,h1,h2,h3⟩ | ⟨rfl,h1,h2,h3⟩ | ⟨h1,h2⟩
 ·exact nm (JQ h) (by omega)
 ·exact nm h3 (by omega)
 ·exact nm h3 (by omega)
 ·by_cases q:k=j + 3
  ·subst q
   rw[Nat.add_sub_cancel] at h2
   rw[hj] at h2
   cases h2
   simp
  ·have:¬x=y:=fun e=>q (by subst e;have:=Wc h2 hj;omega)
   rw[decide_eq_false this]
   exact(beq_eq_false_iff_ne.mpr q).symm
theorem WS:∀p < 17,3≤p→eX p≠"NAME"∧eX p≠"WHO"∧eX p≠"NUMBER"∧lits[p - 3]?=some (eX p):=by decide +kernel
theorem iL (x:Str):yx x "NAME" = qe x:=if_pos rfl
theorem aj:("WHO" : Str)≠"NAME"∧("NUMBER" : Str)≠"NAME"∧("NUMBER" : Str)≠"WHO":=by decide +kernel
theorem Rt.fits {k p:Nat} {x:Str} (h:Rt k x) (hp:JY p=true):yx x (eX p)=aL k p:=by
 unfold aL
 by_cases h1:p=100
 ·subst h1
  rw[if_pos rfl]
  show yx x "NAME" = _
  rw[iL,h.name]
 rw[if_neg h1]
 by_cases h2:p=101
 ·subst h2
  rw[if_pos rfl]
  show yx x "WHO" = _
  unfold yx
  rw[if_neg aj.1,if_pos rfl,h.name,h.lit (j:=0) rfl]
 rw[if_neg h2]
 by_cases h3:p=102
 ·subst h3
  rw[if_pos rfl]
  show yx x "NUMBER" = _
  unfold yx
  rw[if_neg aj.2.1,if_neg aj.2.2,if_pos rfl,h.num]
 rw[if_neg h3]
 have hp':3≤p∧p≤16:=by
  unfold JY at hp
  simp [h1,h2,h3] at hp
  exact hp
 obtain⟨a,b,c,d⟩:=WS p (by omega) hp'.1
 unfold yx
 rw[if_neg a,if_neg b,if_neg c,h.lit d,Nat.sub_add_cancel hp'.1]
noncomputable abbrev gW:List Nat→List Str→Prop:=Paired Rt
theorem gW.fits:∀{ks:List Nat} {ws:List Str},gW ks ws→∀{ps:List Nat},ps.all JY=true→kl ws (ps.map eX)=j5 ks ps:=by
 intro ks ws r ps hp
 unfold kl j5
 rw[List.length_map,←r.length]
 congr 1
 induction r generalizing ps with
 | nil=>rfl
 | cons h t ih=>
  cases ps with
  | nil=>rfl
  | cons p ps=>
   rw[List.all_cons,Bool.and_eq_true] at hp
   rw[List.map_cons,List.zip_cons_cons,List.zip_cons_cons,List.all_cons,List.all_cons,ih hp.2]
   rw[show yx _ (eX p)=aL _ p from h.fits hp.1]
noncomputable def sy (ks:List Nat):Bool:=j5 (ks.take 2) sk && (ks.length == 2 || (ks.getD 2 99 == 13 && (decide (1≤(ks.drop 3).length) && decide ((ks.drop 3).length≤12) && (ks.drop 3).all (· == 0))))
noncomputable def Zc (ks:List Nat):Bool:=ks.length == 2 && (decide (14≤ks.getD 0 99) && decide (ks.getD 0 99≤16)) && ks.getD 1 99 == 0
noncomputable def oP (ks:List Nat):Bool:=!j5 ks cV && !j5 ks pR && !j5 ks eQ && !j5 ks dA && !j5 ks Ke && !sy ks && !Zc ks
noncomputable def Q7 (ws:List Str):Prop:=jB ws=none∧i4 ws=none∧wm ws=none∧vB ws=none
theorem gW.take:∀{ks:List Nat} {ws:List Str} (n:Nat),gW ks ws→gW (ks.take n) (ws.take n)
 | _,_,0,_=>.nil
 | _,_,_ + 1,.nil=>.nil
 | _,_,n + 1,.cons r t=>.cons r (gW.take n t)
theorem gW.drop:∀{ks:List Nat} {ws:List Str} (n:Nat),gW ks ws→gW (ks.drop n) (ws.drop n)
 | _,_,0,r=>r
 | _,_,_ + 1,.nil=>.nil
 | _,_,n + 1,.cons _ t=>gW.drop n t
theorem gW.append:∀{ks js:List Nat} {ws zs:List Str},gW ks ws→gW js zs→gW (ks ++ js) (ws ++ zs)
 | _,_,_,_,.nil,s=>s
 | _,_,_,_,.cons r t,s=>.cons r (gW.append t s)
theorem gW.pick:∀{ks:List Nat} {ws:List Str} {i:Nat},gW ks ws→i < ks.length→Rt (ks.getD i 99) (My.wd ws i)
 | _,_,_,.nil,h=>by simp at h
 | _,_,0,.cons r _,_=>r
 | _,_,i + 1,.cons _ t,h=>gW.pick (i:=i) t (by simpa using h)
theorem gW.names:∀{ks:List Nat} {ws:List Str},gW ks ws→ws.all qe=ks.all (· == 0)
 | _,_,.nil=>rfl
 | _,_,.cons r t=>by rw[List.all_cons,List.all_cons,gW.names t,r.name]
theorem iG:cV.all JY=true∧pR.all JY=true∧eQ.all JY=true∧dA.all JY=true∧Ke.all JY=true∧sk.all JY=true:=by decide
theorem vk {ks ps:List Nat} {ws fs:List Str} (r:gW ks ws) (hp:ps.all JY=true) (e:fs=ps.map eX) (h:j5 ks ps=false):¬kl ws fs=true:=by
 rw[e,r.fits hp,h]
 simp
theorem fW {ks ps:List Nat} {ws fs:List Str} (r:gW ks ws) (hp:ps.all JY=true) (e:fs=ps.map eX) (h:j5 ks ps=true):kl ws fs=true:=by
 rw[e,r.fits hp,h]
theorem ZC {ks ps:List Nat} (h:j5 ks ps=true):ks.length=ps.length:=by
 unfold j5 at h
 rw[Bool.and_eq_true] at h
 exact of_decide_eq_true h.1
theorem gW.part {ks:List Nat} {ws:List Str} (r:gW ks ws) (h:sy ks=false):wm ws=none:=by
 have hl:=r.length
 unfold wm
 by_cases hf:kl (ws.take 2) uZ=true
 ·rw[if_pos hf]
  have hT:j5 (ks.take 2) sk=true:=by
   have:=(r.take 2).fits iG.2.2.2.2.2
   rw[←j6.2.2.2.2.2,hf] at this
   exact this.symm
  have h2:2≤ks.length:=by have:(ks.take 2).length=2:=ZC hT;rw[List.length_take] at this;omega
  unfold sy at h
  rw[hT,Bool.true_and,Bool.or_eq_false_iff] at h
  have hn:¬ws.length=2:=fun q=>by
   have:ks.length=2:=by omega
   rw[this] at h
   simp at h
  rw[if_neg hn]
  refine if_pos ?_
  by_cases hin:wd ws 2 = "in"
  ·refine .inr ?_
   have r2:=gW.pick (i:=2) r (by omega)
   have e13:(ks.getD 2 99 == 13)=true:=by rw[←r2.lit (j:=10) (y:="in") rfl];exact decide_eq_true hin
   have h3:=h.2
   rw[e13,Bool.true_and] at h3
   unfold gz
   rw[(r.drop 3).names,←(r.drop 3).length]
   have hc:decide (((ks.drop 3).length:Int)≤12)=decide ((ks.drop 3).length≤12):=by
    by_cases q:(ks.drop 3).length≤12
    ·rw[decide_eq_true q,decide_eq_true (by omega)]
    ·rw[decide_eq_false q,decide_eq_false (by omega)]
   rw[hc]
   exact h3
  ·exact .inl hin
 ·exact if_neg hf
theorem Z2:∀x∈xy,lits[11]?=some x∨lits[12]?=some x∨lits[13]?=some x:=by decide +kernel
theorem gW.room {ks:List Nat} {ws:List Str} (r:gW ks ws) (h:Zc ks=false):vB ws=none:=by
 have hl:=r.length
 unfold vB
 refine if_neg fun q=>?_
 obtain⟨q1,q2,q3⟩:=q
 have r0:=gW.pick (i:=0) r (by omega)
 have r1:=gW.pick (i:=1) r (by omega)
 have hm:wd ws 0∈xy:=by
  rw[mE] at q2
  exact of_decide_eq_true q2
 rw[r1.name] at q3
 have hk:14≤ks.getD 0 99∧ks.getD 0 99≤16:=by
  rcases Z2 _ hm with e | e | e
  ·have:=(r0.lit e).symm.trans (decide_eq_true rfl)
   have:=beq_iff_eq.mp this
   omega
  ·have:=(r0.lit e).symm.trans (decide_eq_true rfl)
   have:=beq_iff_eq.mp this
   omega
  ·have:=(r0.lit e).symm.trans (decide_eq_true rfl)
   have:=beq_iff_eq.mp this
   omega
 unfold Zc at h
 rw[decide_eq_true hk.1,decide_eq_true hk.2,q3,show (ks.length == 2)=true from beq_iff_eq.mpr (by omega)] at h
 cases h
theorem gW.empty {ks:List Nat} {ws:List Str} (r:gW ks ws) (h:oP ks=true):Q7 ws:=by
 unfold oP at h
 (simp only[Bool.and_eq_true,Bool.not_eq_true'] at h)
 obtain⟨⟨⟨⟨⟨⟨h1,h2⟩,h3⟩,h4⟩,h5⟩,h6⟩,h7⟩:=h
 obtain⟨f1,f2,f3,f4,f5,f6⟩:=j6
 obtain⟨o1,o2,o3,o4,o5,o6⟩:=iG
 refine⟨?_,?_,r.part h6,r.room h7⟩
 ·unfold jB
  rw[if_neg (vk r o1 f1 h1),if_neg (vk r o2 f2 h2),if_neg (vk r o3 f3 h3),if_neg (vk r o4 f4 h4)]
 ·unfold i4
  rw[if_neg (vk r o5 f5 h5)]
section
variable {P:Program} {w:World} {K:PySem.W.Frag} {mg:Str→Option Value} {base:Heap} {t:xj}
end
theorem uf {c:Nat}:∀{xs ys X Y:List Nat},c∉xs→c∉ys→xs ++ c :: X=ys ++ c :: Y→xs=ys∧X=Y
 | [],[],_,_,_,_,h=>by simpa using h
 | [],y :: ys,_,_,_,hy,h=>by
  simp only[List.nil_append,List.cons_append,List.cons.injEq] at h
  exact absurd (by rw[h.1];simp) hy
 | x :: xs,[],_,_,hx,_,h=>by
  simp only[List.nil_append,List.cons_append,List.cons.injEq] at h
  exact absurd (by rw[←h.1];simp) hx
 | x :: xs,y :: ys,X,Y,hx,hy,h=>by
  simp only[List.cons_append,List.cons.injEq] at h
  obtain⟨e1,e2⟩:=uf (c:=c) (fun q=>hx (List.mem_cons_of_mem _ q)) (fun q=>hy (List.mem_cons_of_mem _ q)) h.2
  exact⟨by rw[h.1,e1],e2⟩
theorem ZW:(" " : Str).cps.toList=[32]:=by decide +kernel
theorem QS:(" " : Str)=⟨#[32]⟩:=by decide +kernel
theorem qK (x y:Str) (r:List Str):(Str.join " " (x :: y :: r)).cps.toList=x.cps.toList ++ 32 :: (Str.join " " (y :: r)).cps.toList:=by
 rw[oo,cps_append,cps_append,ZW]
 simp
theorem ou:∀{as bs:List Str},as≠[]→bs≠[]→(∀x∈as,32∉x.cps.toList)→(∀x∈bs,32∉x.cps.toList)→Str.join " " as=Str.join " " bs→as=bs
 | [],_,h,_,_,_,_=>absurd rfl h
 | _ :: _,[],_,h,_,_,_=>absurd rfl h
 | [a],[b],_,_,_,_,e=>by rw[show a=b from e]
 | [a],b :: b' :: r,_,_,ha,_,e=>by
  have e':=congrArg (fun z=>z.cps.toList) e
  simp only[qK,L2.join_one] at e'
  exact absurd (by rw[e'];simp) (ha a (by simp))
 | a :: a' :: r,[b],_,_,_,hb,e=>by
  have e':=congrArg (fun z=>z.cps.toList) e
  simp only[qK,L2.join_one] at e'
  exact absurd (by rw[←e'];simp) (hb b (by simp))
 | a :: a' :: r,b :: b' :: r',_,_,ha,hb,e=>by
  have e':=congrArg (fun z=>z.cps.toList) e
  simp only[qK] at e'
  obtain⟨e1,e2⟩:=uf (ha a (by simp)) (hb b (by simp)) e'
  have:=ou (as:=a' :: r) (bs:=b' :: r') (by simp) (by simp) (fun x hx=>ha x (List.mem_cons_of_mem _ hx)) (fun x hx=>hb x (List.mem_cons_of_mem _ hx)) (xP e2)
  rw[xP e1,this]
theorem dW {ws:List Str} (h:ws≠[]) (hb:∀x∈ws,32∉x.cps.toList):xR (Txt.join " " ws)=ws:=by
 unfold xR
 rw[join_eq]
 refine(ou h ?_ hb ?_ ?_).symm
 ·intro q
  have:=PyProof.Rows.split_pos (Str.join " " ws) " "
  rw[q] at this
  simp at this
 ·intro x hx
  rw[QS] at hx
  exact StrLaws.split_free _ 32 x hx
 ·exact(StrLaws.join_split _ _).symm
structure Wk (x:Str):Prop where
 as:asc x
 nb:32∉x.cps.toList
noncomputable def iK (ws:List Str):Nat:=(ws.map (·.length)).sum + ws.length
theorem K4 (as bs:List Str):iK (as ++ bs)=iK as + iK bs:=by
 unfold iK
 rw[List.map_append,List.sum_append,List.length_append]
 omega
theorem K5 (x:Str):iK [x]=x.length + 1:=by simp [iK]
theorem d9 {n:Nat}:∀{ws:List Str},(∀x∈ws,x.length≤n)→iK ws≤(n + 1) * ws.length
 | [],_=>by simp [iK]
 | x :: r,h=>by
  have h1:=h x (by simp)
  have h2:=d9 (n:=n) (ws:=r) fun y hy=>h y (List.mem_cons_of_mem _ hy)
  have e:iK (x :: r)=iK [x] + iK r:=K4 [x] r
  rw[e,K5,List.length_cons,Nat.mul_add]
  omega
theorem uh (ws:List Str):(Txt.join " " ws).length≤iK ws:=by
 have:=uW " " ws
 have e:(" " : Str).length=1:=by decide +kernel
 rw[e] at this
 unfold iK
 omega
theorem tO (ws:List Str):(ws.map (·.length)).sum + ws.length * (" " : Str).length=iK ws:=by
 have e:(" " : Str).length=1:=by decide +kernel
 rw[e];unfold iK;omega
section
variable {P:Program} {w:World} {K:PySem.W.Frag} {mg:Str→Option Value} {base:Heap} {t:xj}
end
noncomputable def yT (c k:Int):Int:=(c % 2147483629 + 104729 * (k + 1)) % 2147483629 * ((c % 2147483629 + 104729 * (k + 1)) % 2147483629) % 2147483647 * 48271 % 2147483647 / 7
theorem md (c k:Int):0≤yT c k∧yT c k < 306783379:=by
 unfold yT
 generalize (c % 2147483629 + 104729 * (k + 1)) % 2147483629 * ((c % 2147483629 + 104729 * (k + 1)) % 2147483629) % 2147483647 * 48271=z
 omega
noncomputable def wJ (ns:List Int) (k:Int):Int:=if k < (ns.length:Int) then ns.getD k.toNat 0 % 1000000000000000000000007 else 0
theorem aX (ns:List Int) (k:Int):0≤wJ ns k∧wJ ns k < 1000000000000000000000007:=by
 unfold wJ
 split
 ·exact⟨Int.emod_nonneg _ (by decide),Int.emod_lt_of_pos _ (by decide)⟩
 ·decide
noncomputable def eM (K:PySem.W.Frag):Sp:=fun vs H Q _=>∃(a:Addr) (k:Int) (ns:List Int),vs=[.ref a,.int k]∧qL K H a (ns.map V.int)∧0≤k∧Q (.int (wJ ns k)) H
noncomputable def iJ:Sp:=fun vs H Q _=>∃(c k:Int),vs=[.int c,.int k]∧0≤k∧k≤1000∧Q (.int (yT c k)) H
noncomputable abbrev sS:Str:="fgjkqvxz"
noncomputable def QV:List Nat:=[102,103,106,107,113,118,120,122]
theorem Zu:sS.length=8∧sS.cps.toList=QV:=by decide +kernel
theorem c8:qT.length=26∧qT.cps.toList.length=26:=by decide +kernel
theorem eL:∀c∈QV,c∈qT.cps.toList:=by decide +kernel
theorem ZO:∀x∈gd,∀c∈x.cps.toList,c∉QV:=by decide +kernel
noncomputable def eS (j:Int):Nat:=QV.getD j.toNat 0
theorem Kg {x:Str} (h1:1≤x.length) (h2:x.length≤8) (h3:∀c∈x.cps.toList,c∈qT.cps.toList) (h4:∃c∈x.cps.toList,c∈QV):qe x=true:=by
 unfold qe pk
 rw[decide_eq_true h1,decide_eq_true (show (x.length:Int)≤8 by omega)]
 have e:x.cps.toList.all (has qT)=true:=List.all_eq_true.mpr fun c hc=>by rw[aO];exact decide_eq_true (h3 c hc)
 rw[e,mE]
 obtain⟨c,hc,hs⟩:=h4
 rw[decide_eq_false (fun q=>ZO x q c hc hs)]
 rfl
theorem vY {x:Str} (h:qe x=true):1≤x.length∧x.length≤8∧Wk x:=by
 unfold qe at h
 rw[Bool.and_eq_true] at h
 obtain⟨h1,h2,h3⟩:=rR h.1
 refine⟨h1,by omega,fun c hc=>Zj.2.2 c (h3 c hc),fun hc=>?_⟩
 have:¬32∈qT.cps.toList:=by decide +kernel
 exact this (h3 32 hc)
noncomputable def yU:List Str:=["part","done","let","calm","sore","end","acts","any","in","else","may","not"]
theorem om:∀x∈yU,1≤x.length∧x.length≤4∧∀c∈x.cps.toList,c∈qT.cps.toList:=by decide +kernel
noncomputable def rS (c:Int):Int:=2 + c / 81 % (7 - (if c % 3=1 then 1 else 0))
noncomputable def QZ (c:Int):Int:=c / 500 % rS c
noncomputable def Pf (c:Int):Nat:=(yU.getD (c / 12 % 12).toNat "").length
theorem iX (c:Int):2≤rS c∧rS c≤8∧(c % 3=1→rS c≤7):=by
 unfold rS
 by_cases h:c % 3=1
 ·rw[if_pos h]
  omega
 ·rw[if_neg h]
  omega
noncomputable def XC (c:Int):Int:=(QZ c + 1 + c / 3600 % (rS c - 1)) % rS c
theorem ae (c:Int):0≤QZ c∧QZ c < rS c:=by
 have h:=(iX c).1
 exact⟨Int.emod_nonneg _ (by omega),Int.emod_lt_of_pos _ (by omega)⟩
theorem JM (c:Int):0≤XC c∧XC c < rS c∧XC c≠QZ c:=by
 have h:=(iX c).1
 have ha:=ae c
 have r0:0≤c / 3600 % (rS c - 1):=Int.emod_nonneg _ (by omega)
 have r1:c / 3600 % (rS c - 1) < rS c - 1:=Int.emod_lt_of_pos _ (by omega)
 refine⟨Int.emod_nonneg _ (by omega),Int.emod_lt_of_pos _ (by omega),?_⟩
 unfold XC
 generalize c / 3600 % (rS c - 1)=r at *
 generalize rS c=z at *
 generalize QZ c=a at *
 by_cases q:a + 1 + r < z
 ·rw[Int.emod_eq_of_lt (by omega) q]
  omega
 ·have e:a + 1 + r=(a + 1 + r - z) + z:=by omega
  rw[e,Int.add_emod_right,Int.emod_eq_of_lt (by omega) (by omega)]
  omega
theorem Qp (b:Bool):(0:Int) < 7 - (if b=true then 1 else 0):=by cases b<;>decide
theorem Gp (c:Int):(2 + c / 81 % (7 - (if decide (V.int (c % 3)=V.int 1)=true then (1:Int) else 0)))=rS c:=by
 unfold rS
 by_cases q:c % 3=1
 ·rw[if_pos q,if_pos (by rw[q];exact decide_eq_true rfl)]
 ·rw[if_neg q,if_neg (fun h=>q (by have:=of_decide_eq_true h;injection this))]
noncomputable def uG (j:Int):Nat:=qT.cps.toList.getD (j % 26).toNat 0
noncomputable def XM (c k:Int) (j:Nat):Nat:=if (j:Int)=XC c then uG (k / 8 + c / 7) else if (j:Int)=QZ c then eS (k % 8) else uG (yT c j)
noncomputable def mw (c k:Int):List Nat:=(List.range (rS c).toNat).map (XM c k)
noncomputable def uO (c k:Int):List Nat:=if c % 12=5∧k < 8 then [eS (k % 8)] else if c % 12=7 then (yU.getD (c / 12 % 12).toNat "").cps.toList ++ [eS (k % 8),uG (k / 8)] else if c % 3=1∧k % 2=1 then mw c (k - 1) ++ [uG (c / 3)] else mw c k
noncomputable def g6 (c k:Int):Str:=⟨(uO c k).toArray⟩
theorem fi (c k:Int):(g6 c k).cps.toList=uO c k:=rfl
noncomputable def Zl:Sp:=fun vs H Q _=>∃(c k:Int),vs=[.int c,.int k]∧0≤c∧c < 1000000000∧0≤k∧k < 208∧∀H',qp H H'→Q (.str (g6 c k)) H'
theorem bS (k:Int):eS (k % 8)∈QV:=by
 unfold eS
 have h0:0≤k % 8:=Int.emod_nonneg _ (by omega)
 have h1:k % 8 < 8:=Int.emod_lt_of_pos _ (by omega)
 have hj:(k % 8).toNat < QV.length:=by show (k % 8).toNat < 8;omega
 rw[List.getD_eq_getElem?_getD,List.getElem?_eq_getElem hj]
 exact List.getElem_mem hj
theorem c9 (k:Int):qT.cps.toList.getD (k % 26).toNat 0∈qT.cps.toList:=by
 have h0:0≤k % 26:=Int.emod_nonneg _ (by omega)
 have h1:k % 26 < 26:=Int.emod_lt_of_pos _ (by omega)
 have hj:(k % 26).toNat < qT.cps.toList.length:=by rw[c8.2];omega
 rw[List.getD_eq_getElem?_getD,List.getElem?_eq_getElem hj]
 exact List.getElem_mem hj
noncomputable def LS (x:Str):Prop:=∀c∈x.cps.toList,c∈qT.cps.toList
noncomputable def GQ (c k k':Int) (tl:Str):Prop:=(c % 3=1∧k % 2=1∧k'=k - 1∧tl.cps.toList=[uG (c / 3)])∨(¬(c % 3=1∧k % 2=1)∧k'=k∧tl = "")
theorem lU {a b:Int} (h:decide (V.int a=V.int b)=true):a=b:=by have:=of_decide_eq_true h;injection this
theorem lR {a b:Int} (h:a=b):decide (V.int a=V.int b)=true:=by subst h;exact decide_eq_true rfl
section
variable {P:Program} {w:World} {K:PySem.W.Frag} {mg:Str→Option Value} {base:Heap} {t:xj}
theorem ny:qX ["_law_script","_law_k"] ["_law_script","_law_k"] (z6 xK):=⟨rfl,rfl,rfl,by decide +kernel,rfl,by decide +kernel,by decide +kernel⟩
set_option maxHeartbeats 400000 in
theorem dc (T:Txt K mg t):qV P w K mg base jW 1 t.yj t.w6 ["_law_script","_law_k"] (eM K):=by
 refine T.ju.fn.ok ny (fun vs H Q E h=>(by obtain⟨_,_,_,rfl,_⟩:=h;rfl)) (fun cdv A outer s H vs Q E hr h=>?_)
 obtain⟨a,k,ns,rfl,hA,k0,kk⟩:=h
 refine⟨_,(z8 (qM (qo u3 (pv 1) (qi (qD (K:=K) rfl) rfl T.xw PySem.boot_len (z0 (pv 0) z7)) (qZ _))
    (qz (qr (qw qI (qf (qy (K:=K) rfl) (pv 0) (pv 1) (fun _ _=>rfl)) z9))) qt)
   (qz (qr z9))),?_⟩
 refine⟨_,rfl,_,rfl,a,_,rfl,.inl hA,_,_,rfl,rfl,_,rfl,?_⟩
 rw[List.length_map]
 refine jo (fun h1=>?_) (fun h1=>?_)
 ·have h1':=of_decide_eq_true h1
  rw[show wJ ns k=ns.getD k.toNat 0 % 1000000000000000000000007 from if_pos h1'] at kk
  walk_at "rd"
  exact kk
 ·have h1':¬k < (ns.length:Int):=fun q=>h1 (decide_eq_true q)
  rw[show wJ ns k=0 from if_neg h1'] at kk
  walk_at "rd"
  exact kk
theorem il:qX ["_law_cell","_law_k","_law_number"] ["_law_cell","_law_k"] (z6 yX):=⟨rfl,rfl,rfl,by decide +kernel,rfl,by decide +kernel,by decide +kernel⟩
set_option maxHeartbeats 400000 in
theorem du (T:Txt K mg t):qV P w K mg base jW 1 t.bG t.bK ["_law_cell","_law_k"] iJ:=by
 refine T.jm.fn.ok il (fun vs H Q E h=>(by obtain⟨_,_,rfl,_⟩:=h;rfl)) (fun cdv A outer s H vs Q E hr h=>?_)
 obtain⟨c,k,rfl,k0,k1,kk⟩:=h
 refine⟨_,(z8 (qQ (i:=2) il.nd rfl (Or.inl rfl) (qw qI (qw je (qw qI (pv 0) z9) (qw u4 z9 (qw je (pv 1) z9))) z9))
   (qz (qr (qw ko (qw qI (qw u4 (qw qI (qw u4 (pv 2) (pv 2)) z9) z9) z9) z9)))),?_⟩
 walk_at "rd"
 exact kk
theorem jD:qX ["_law_cell","_law_k","_law_letters","_law_heads","_law_tail","_law_size","_law_at","_law_other","_law_name_here","_law_j","_law_letter"] ["_law_cell","_law_k"] (z6 wo):=⟨rfl,rfl,rfl,by decide +kernel,rfl,by decide +kernel,by decide +kernel⟩
set_option maxHeartbeats 400000 in
theorem Z7 (T:Txt K mg t):qV P w K mg base jW 2 t.mN t.mR ["_law_cell","_law_k"] Zl:=by
 have G_w_mix:qV P w K mg base jW 1 t.bG t.bK ["_law_cell","_law_k"] iJ:=(du T).mono (by decide)
 refine T.rM.fn.ok jD (fun vs H Q E h=>(by obtain⟨_,_,rfl,_⟩:=h;rfl)) (fun cdv A outer s H vs Q E hr h=>?_)
 obtain⟨c,k,rfl,c0,c1,k0,k1,kk⟩:=h
 refine⟨_,(z8 (qQ (i:=2) jD.nd rfl (Or.inl rfl) qk)
   (z8 (PS.join (qM (PW.pt (tT (qo jY (qw qI (pv 0) z9) z9 (qZ _)) (uw (qo u3 (pv 1) z9 (qZ _)))))
    (qz (qr (qf pV qk (pv 1) (fun _ _=>rfl)))) qt))
   (z8 (qM (qo jY (qw qI (pv 0) z9) z9 (qZ _))
    (z8 (qQ (i:=3) jD.nd rfl (Or.inl rfl) (jq (z0 qk (z0 qk (z0 qk (z0 qk (z0 qk (z0 qk (z0 qk (z0 qk (z0 qk (z0 qk (z0 qk (z0 qk z7))))))))))))) bT)
   (qz (qr (qw qW (qw qW (qf (qy (K:=K) rfl) (pv 3) (qw qI (qw ko (pv 0) z9) z9) (fun _ _=>rfl)) (qf pV qk (qw qI (pv 1) z9) (fun _ _=>rfl))) (qf pV (pv 2) (qw qI (qw ko (pv 1) z9) z9) (fun _ _=>rfl)))))) qt)
   (z8 (qQ (i:=4) jD.nd rfl (Or.inl rfl) qk)
   (z8 (PS.join (qM (PW.pt (tT (qo jY (qw qI (pv 0) z9) z9 (qZ _)) (uw (qo jY (qw qI (pv 1) z9) z9 (qZ _)))))
    (z8 (qQ (i:=4) jD.nd rfl (Or.inl rfl) (qf pV (pv 2) (qw qI (qw ko (pv 0) z9) z9) (fun _ _=>rfl)))
   (qz (qQ (i:=1) jD.nd rfl (Or.inl rfl) (qw bC (pv 1) z9)))) qt))
   (z8 (qQ (i:=5) jD.nd rfl (Or.inl rfl) (qw je z9 (qw qI (qw ko (pv 0) z9) (qw bC z9 (j0 gB rfl T.cx PyProof.Rows.boot_int (z0 (k6 jY (qw qI (pv 0) z9) z9 (qZ _)) z7))))))
   (z8 (qQ (i:=6) jD.nd rfl (Or.inl rfl) (qw qI (qw ko (pv 0) z9) (pv 5)))
   (z8 (qQ (i:=7) jD.nd rfl (Or.inl rfl) (qw qI (qw je (qw je (pv 6) z9) (qw qI (qw ko (pv 0) z9) (qw bC (pv 5) z9))) (pv 5)))
   (z8 (qQ (i:=8) jD.nd rfl (Or.inl rfl) qk)
   (z8 (pT PassesOwn.never rfl (vH rfl T.wF (z0 (pv 5) z7)) (jy (i:=9) jD.nd rfl (Or.inl rfl))
    (z8 (qQ (i:=10) jD.nd rfl (Or.inl rfl) (qf pV (pv 2) (qw qI (qu G_w_mix hr rfl T.jm.mg T.jm.fn.kp T.jm.bd .nil qJ (z0 (pv 0) (z0 (pv 9) z7))) z9) (fun _ _=>rfl)))
   (z8 (PS.join (qM (qo jY (pv 9) (pv 6) (qZ _))
    (qz (qQ (i:=10) jD.nd rfl (Or.inl rfl) (qf pV qk (qw qI (pv 1) z9) (fun _ _=>rfl)))) qt))
   (z8 (PS.join (qM (qo jY (pv 9) (pv 7) (qZ _))
    (qz (qQ (i:=10) jD.nd rfl (Or.inl rfl) (qf pV (pv 2) (qw qI (qw je (qw ko (pv 1) z9) (qw ko (pv 0) z9)) z9) (fun _ _=>rfl)))) qt))
   (qz (qQ (i:=8) jD.nd rfl (Or.inl rfl) (qw qW (pv 8) (pv 10))))))))
   (qz (qr (qw qW (pv 8) (pv 4)))))))))))))),?_⟩
 have hs:(Str.ofString "fgjkqvxz").length=8:=Zu.1
 have hl:(Str.ofString "abcdefghijklmnopqrstuvwxyz").length=26:=c8.1
 have k8:0≤k % 8:=Int.emod_nonneg _ (by decide)
 have k8':k % 8 < 8:=Int.emod_lt_of_pos _ (by decide)
 walk_at "rd"
 refine⟨fun σ' H'=>(σ'=[some (.int c),some (.int k),some (.str (Str.ofString "abcdefghijklmnopqrstuvwxyz")),none,none,none,none,none,none,none,none]∧H'=H∧¬(c % 12=5∧k < 8))∨False,?_,?_⟩
 ·walk_at "rd"
  refine jo (fun h1=>?_) (fun h1=>.inl ⟨rfl,rfl,fun q=>h1 (lR q.1)⟩)
  walk_at "rd"
  refine jo (fun h2=>?_) (fun h2=>.inl ⟨rfl,rfl,fun q=>h2 (decide_eq_true q.2)⟩)
  have h2':k < 8:=of_decide_eq_true h2
  walk_at "rd"
  have em:(⟨#[(Str.ofString "fgjkqvxz").cps.toList.getD k.toNat 0]⟩:Str)=g6 c k:=by
   refine xP ?_
   rw[fi]
   unfold uO
   rw[if_pos ⟨lU h1,h2'⟩,show (Str.ofString "fgjkqvxz").cps.toList=QV from Zu.2,show k % 8=k by omega]
   rfl
  rw[em]
  exact kk _ (qp.refl _)
 intro σ' H' q
 obtain⟨rfl,rfl,hA⟩:=q.resolve_right fun z=>z
 walk_at "rd"
 refine jo (fun h1=>?_) (fun h1=>?_)
 ·have e7:c % 12=7:=lU h1
  walk_at "rd"
  intro lh H1 s1 hlh e1
  have e2:H1 lh=some (.lst (yU.map V.str)):=e1
  clear e1
  have hk:yU.length=12:=rfl
  have b0:0≤c / 12 % 12:=Int.emod_nonneg _ (by decide)
  have b1:c / 12 % 12 < 12:=Int.emod_lt_of_pos _ (by decide)
  have b2:0≤k / 8 % 26:=Int.emod_nonneg _ (by decide)
  have b3:k / 8 % 26 < 26:=Int.emod_lt_of_pos _ (by decide)
  obtain⟨g1,g2,g3⟩:=om _ (cz (ws:=yU) (i:=(c / 12 % 12).toNat) (by omega))
  walk_at "rd"
  rw[show (yU.getD (c / 12 % 12).toNat (Str.ofString "") ++ (⟨#[(Str.ofString "fgjkqvxz").cps.toList.getD (k % 8).toNat 0]⟩:Str) ++ (⟨#[(Str.ofString "abcdefghijklmnopqrstuvwxyz").cps.toList.getD (k / 8 % 26).toNat 0]⟩:Str))=g6 c k from by
   refine xP ?_
   rw[cps_append,cps_append,fi]
   unfold uO
   rw[if_neg hA,if_pos e7,List.append_assoc,show (Str.ofString "fgjkqvxz").cps.toList=QV from Zu.2]
   rfl]
  exact kk H1 (by walk_at "sm")
 have n7:¬c % 12=7:=fun q=>h1 (lR q)
 walk_at "rd"
 refine⟨fun σ' H2=>(∃(tl:Str) (k':Int),σ'=[some (.int c),some (.int k'),some (.str (Str.ofString "abcdefghijklmnopqrstuvwxyz")),none,some (.str tl),none,none,none,none,none,none]∧H2=H'∧GQ c k k' tl)∨False,?_,?_⟩
 ·walk_at "rd"
  refine jo (fun h2=>?_) (fun h2=>.inl ⟨_,_,rfl,rfl,.inr ⟨fun q=>h2 (lR q.1),rfl,rfl⟩⟩)
  walk_at "rd"
  refine jo (fun h3=>?_) (fun h3=>.inl ⟨_,_,rfl,rfl,.inr ⟨fun q=>h3 (lR q.2),rfl,rfl⟩⟩)
  have b2:0≤c / 3 % 26:=Int.emod_nonneg _ (by decide)
  have b3:c / 3 % 26 < 26:=Int.emod_lt_of_pos _ (by decide)
  walk_at "rd"
  exact .inl ⟨_,_,rfl,rfl,.inl ⟨lU h2,lU h3,rfl,rfl⟩⟩
 intro σ' H2 q
 obtain⟨tl,k',rfl,rfl,hT⟩:=q.resolve_right fun z=>z
 clear q
 have z1:=iX c
 have a1:=ae c
 have o1:=JM c
 have k'0:0≤k'∧k' < 208:=by rcases hT with ⟨_,_,e,_⟩ | ⟨_,e,_⟩<;>omega
 walk_at "rd"
 refine .inr ⟨_,rfl,_,_,rfl,rfl,_,_,rfl,rfl,Qp _,_,_,rfl,rfl,?_⟩
 show gC 5 (V.int (2 + c / 81 % (7 - (if decide (V.int (c % 3)=V.int 1)=true then (1:Int) else 0)))) _ _ _
 rw[Gp c]
 walk_at "rd"
 refine gD (lo:=0) (n:=(rS c).toNat) (fun i σ H3=>∃(x:Str) (v9 v10:Option V),σ=[some (.int c),some (.int k'),some (.str (Str.ofString "abcdefghijklmnopqrstuvwxyz")),none,some (.str tl),some (.int (rS c)),some (.int (QZ c)),some (.int (XC c)),some (.str x),v9,v10]∧H3=H2∧x.cps.toList=(List.range i).map (XM c k')∧(i=i∨False))
  ⟨"",none,none,rfl,rfl,(show ("" : Str).cps.toList=[] from by decide +kernel),.inl rfl⟩ ?_ ?_
 ·rintro i σ H3 hi ⟨x,v9,v10,rfl,rfl,hx,_⟩
  have k'8:0≤k' % 8:=Int.emod_nonneg _ (by decide)
  have k'8':k' % 8 < 8:=Int.emod_lt_of_pos _ (by decide)
  have em:(Str.ofString "fgjkqvxz").cps.toList.getD (k' % 8).toNat 0=eS (k' % 8):=by
   rw[show (Str.ofString "fgjkqvxz").cps.toList=QV from Zu.2];rfl
  have b0:0≤(k' / 8 + c / 7) % 26:=Int.emod_nonneg _ (by decide)
  have b1:(k' / 8 + c / 7) % 26 < 26:=Int.emod_lt_of_pos _ (by decide)
  have bm:=md c (0 + (i:Int))
  walk_at "rd"
  refine⟨fun σ' H'=>(∃ch:Nat,σ'=[some (.int c),some (.int k'),some (.str (Str.ofString "abcdefghijklmnopqrstuvwxyz")),none,some (.str tl),some (.int (rS c)),some (.int (QZ c)),some (.int (XC c)),some (.str x),some (.int (0 + (i:Int))),some (.str ⟨#[ch]⟩)]∧H'=H3∧ch=(if (i:Int)=QZ c then eS (k' % 8) else uG (yT c i)))∨False,?_,?_⟩
  ·walk_at "rd"
   refine jo (fun h2=>?_) (fun h2=>.inl ⟨_,rfl,rfl,?_⟩)
   ·have h2':=lU h2
    walk_at "rd"
    exact .inl ⟨_,rfl,rfl,by rw[if_pos (by omega)];exact em⟩
   ·rw[if_neg (fun q=>h2 (lR (by omega))),Int.zero_add]
    rfl
  intro σ' H' q
  obtain⟨ch,rfl,rfl,m1⟩:=q.resolve_right fun z=>z
  clear q
  refine⟨fun σ' H3=>(∃ch:Nat,σ'=[some (.int c),some (.int k'),some (.str (Str.ofString "abcdefghijklmnopqrstuvwxyz")),none,some (.str tl),some (.int (rS c)),some (.int (QZ c)),some (.int (XC c)),some (.str x),some (.int (0 + (i:Int))),some (.str ⟨#[ch]⟩)]∧H3=H'∧ch=XM c k' i)∨False,?_,?_⟩
  ·walk_at "rd"
   refine jo (fun h2=>?_) (fun h2=>.inl ⟨_,rfl,rfl,?_⟩)
   ·have h2':=lU h2
    walk_at "rd"
    exact .inl ⟨_,rfl,rfl,by unfold XM;rw[if_pos (by omega)];rfl⟩
   ·unfold XM
    rw[if_neg (fun q=>h2 (lR (by omega)))]
    exact m1
  intro σ' H3 q
  obtain⟨ch,rfl,rfl,m1⟩:=q.resolve_right fun z=>z
  clear q
  have hx9:x.length≤8:=by
   have:=congrArg List.length hx
   rw[List.length_map,List.length_range] at this
   (have e:x.cps.toList.length=x.length:=by simp [Str.length])
   omega
  walk_at "rd"
  refine⟨?_,.inl rfl⟩
  rw[cps_append,hx,List.range_succ,List.map_append,m1]
  rfl
 ·rintro σ H3 ⟨x,v9,v10,rfl,rfl,hx,_⟩
  have e:x ++ tl=g6 c k:=by
   refine xP ?_
   rw[cps_append,fi]
   unfold uO
   rw[if_neg hA,if_neg n7]
   rcases hT with ⟨e1,e2,e3,e4⟩ | ⟨e1,e2,e3⟩
   ·rw[if_pos ⟨e1,e2⟩,e4,hx,e3];rfl
   ·rw[if_neg e1,e3,hx,e2,show ("" : Str).cps.toList=[] from by decide +kernel,List.append_nil];rfl
  have hx9:x.length≤8:=by
   have:=congrArg List.length hx
   rw[List.length_map,List.length_range] at this
   (have e:x.cps.toList.length=x.length:=by simp [Str.length])
   omega
  have hT9:tl.length≤1:=by
   rcases hT with ⟨_,_,_,e⟩ | ⟨_,_,e⟩
   ·have:=congrArg List.length e
    have e':tl.cps.toList.length=tl.length:=by simp [Str.length]
    rw[e'] at this;simp only[List.length_cons,List.length_nil] at this;omega
   ·rw[e];decide +kernel
  walk_at "rd"
  rw[e]
  exact kk _ (qp.refl _)
end
theorem Hm:qT.cps.toList.Nodup:=by decide +kernel
theorem B1:QV.Nodup:=by decide +kernel
theorem getD_inj {L:List Nat} (h:L.Nodup) {i j:Nat} (hi:i < L.length) (hj:j < L.length) (e:L.getD i 0=L.getD j 0):i=j:=by
 rw[List.getD_eq_getElem?_getD,List.getD_eq_getElem?_getD,List.getElem?_eq_getElem hi,List.getElem?_eq_getElem hj] at e
 have e':L[i]=L[j]:=e
 have hp:=List.nodup_iff_pairwise_ne.mp h
 rcases Nat.lt_trichotomy i j with q | q | q
 ·exact absurd e' (List.pairwise_iff_getElem.mp hp i j hi hj q)
 ·exact q
 ·exact absurd e'.symm (List.pairwise_iff_getElem.mp hp j i hj hi q)
theorem oQ {a b:Int} (e:uG a=uG b):a % 26=b % 26:=by
 have a0:0≤a % 26:=Int.emod_nonneg _ (by decide)
 have a1:a % 26 < 26:=Int.emod_lt_of_pos _ (by decide)
 have b0:0≤b % 26:=Int.emod_nonneg _ (by decide)
 have b1:b % 26 < 26:=Int.emod_lt_of_pos _ (by decide)
 have:=getD_inj Hm (i:=(a % 26).toNat) (j:=(b % 26).toNat) (by rw[c8.2];omega) (by rw[c8.2];omega) e
 omega
theorem nJ {a b:Int} (e:eS (a % 8)=eS (b % 8)):a % 8=b % 8:=by
 have a0:0≤a % 8:=Int.emod_nonneg _ (by decide)
 have a1:a % 8 < 8:=Int.emod_lt_of_pos _ (by decide)
 have b0:0≤b % 8:=Int.emod_nonneg _ (by decide)
 have b1:b % 8 < 8:=Int.emod_lt_of_pos _ (by decide)
 have:=getD_inj B1 (i:=(a % 8).toNat) (j:=(b % 8).toNat) (by show _ < 8;omega) (by show _ < 8;omega) e
 omega
theorem wM (c k:Int):(mw c k).length=(rS c).toNat:=by unfold mw;rw[List.length_map,List.length_range]
theorem sH (c k:Int):(mw c k)[(QZ c).toNat]?=some (eS (k % 8)):=by
 have a1:=ae c
 have o1:=JM c
 unfold mw
 rw[List.getElem?_map,List.getElem?_range (by omega)]
 show some (XM c k (QZ c).toNat)=_
 unfold XM
 rw[if_neg (by omega),if_pos (by omega)]
theorem QT (c k:Int):(mw c k)[(XC c).toNat]?=some (uG (k / 8 + c / 7)):=by
 have o1:=JM c
 unfold mw
 rw[List.getElem?_map,List.getElem?_range (by omega)]
 show some (XM c k (XC c).toNat)=_
 unfold XM
 rw[if_pos (by omega)]
theorem aJ (c k:Int):∀x∈mw c k,x∈qT.cps.toList:=by
 intro x hx
 unfold mw at hx
 obtain⟨j,_,rfl⟩:=List.mem_map.mp hx
 unfold XM
 split
 ·exact c9 _
 ·split
  ·exact eL _ (bS k)
  ·exact c9 _
theorem cL {c k1 k2:Int} (h1:0≤k1∧k1 < 208) (h2:0≤k2∧k2 < 208) (e:mw c k1=mw c k2):k1=k2:=by
 have e1:=sH c k1
 rw[e,sH c k2] at e1
 have e2:=QT c k1
 rw[e,QT c k2] at e2
 have f1:=nJ (Option.some.inj e1)
 have f2:=oQ (Option.some.inj e2)
 omega
theorem dh (c:Int) {k:Int}:qe (g6 c k)=true:=by
 have z1:=iX c
 have a1:=ae c
 have len:(g6 c k).length=(uO c k).length:=by rw[←fi];simp [Str.length]
 have key:1≤(uO c k).length∧(uO c k).length≤8∧(∀x∈uO c k,x∈qT.cps.toList)∧∃x∈uO c k,x∈QV:=by
  unfold uO
  split
  ·exact⟨by simp,by simp,fun x hx=>by rw[List.mem_singleton.mp hx];exact eL _ (bS k),_,List.mem_singleton.mpr rfl,bS k⟩
  ·split
   ·have b0:0≤c / 12 % 12:=Int.emod_nonneg _ (by decide)
    have b1:c / 12 % 12 < 12:=Int.emod_lt_of_pos _ (by decide)
    obtain⟨g1,g2,g3⟩:=om _ (cz (ws:=yU) (i:=(c / 12 % 12).toNat) (by show _ < 12;omega))
    have e:(yU.getD (c / 12 % 12).toNat "").cps.toList.length=(yU.getD (c / 12 % 12).toNat "").length:=by simp [Str.length]
    refine⟨by rw[List.length_append];simp only[List.length_cons,List.length_nil];omega,by rw[List.length_append];simp only[List.length_cons,List.length_nil];omega,fun x hx=>?_,eS (k % 8),by simp,bS k⟩
    (rcases List.mem_append.mp hx with hx | hx)
    ·exact g3 x hx
    ·simp only[List.mem_cons,List.not_mem_nil,or_false] at hx
     rcases hx with rfl | rfl
     ·exact eL _ (bS k)
     ·exact c9 _
   ·split
    ·rename_i h
     have:=z1.2.2 h.1
     refine⟨by rw[List.length_append,wM];simp only[List.length_cons,List.length_nil];omega,by rw[List.length_append,wM];simp only[List.length_cons,List.length_nil];omega,fun x hx=>?_,eS ((k - 1) % 8),List.mem_append_left _ (List.mem_of_getElem? (sH c (k - 1))),bS _⟩
     (rcases List.mem_append.mp hx with hx | hx)
     ·exact aJ _ _ x hx
     ·rw[List.mem_singleton.mp hx];exact c9 _
    ·exact⟨by rw[wM];omega,by rw[wM];omega,aJ c k,eS (k % 8),List.mem_of_getElem? (sH c k),bS k⟩
 exact Kg (by rw[len];exact key.1) (by rw[len];exact key.2.1) key.2.2.1 key.2.2.2
theorem Kf {c k:Int} (h:c % 12=5) (q:k < 8):uO c k=[eS (k % 8)]:=by unfold uO;rw[if_pos ⟨h,q⟩]
theorem Zh {c k:Int} (h:c % 12=5) (q:¬k < 8):uO c k=mw c k:=by unfold uO;rw[if_neg (fun z=>q z.2),if_neg (by omega),if_neg (by omega)]
theorem YL {c k:Int} (h:c % 12=7):uO c k=(yU.getD (c / 12 % 12).toNat "").cps.toList ++ [eS (k % 8),uG (k / 8)]:=by unfold uO;rw[if_neg (by omega),if_pos h]
theorem Kp {c k:Int} (h:¬c % 12=5) (h7:¬c % 12=7) (h3:c % 3=1) (q:k % 2=1):uO c k=mw c (k - 1) ++ [uG (c / 3)]:=by unfold uO;rw[if_neg (fun z=>h z.1),if_neg h7,if_pos ⟨h3,q⟩]
theorem Z4 {c k:Int} (h:¬c % 12=5) (h7:¬c % 12=7) (q:¬(c % 3=1∧k % 2=1)):uO c k=mw c k:=by unfold uO;rw[if_neg (fun z=>h z.1),if_neg h7,if_neg q]
theorem Wn {c k1 k2:Int} (h1:0≤k1∧k1 < 208) (h2:0≤k2∧k2 < 208) (e:g6 c k1=g6 c k2):k1=k2:=by
 have e':uO c k1=uO c k2:=by rw[←fi,←fi,e]
 have z1:=iX c
 have el:=congrArg List.length e'
 by_cases c5:c % 12=5
 ·by_cases q1:k1 < 8<;>by_cases q2:k2 < 8
  ·rw[Kf c5 q1,Kf c5 q2] at e'
   have:=nJ (List.cons.inj e').1
   omega
  ·rw[Kf c5 q1,Zh c5 q2,wM] at el
   simp only[List.length_cons,List.length_nil] at el
   omega
  ·rw[Zh c5 q1,Kf c5 q2,wM] at el
   simp only[List.length_cons,List.length_nil] at el
   omega
  ·rw[Zh c5 q1,Zh c5 q2] at e'
   exact cL h1 h2 e'
 by_cases c7:c % 12=7
 ·rw[YL c7,YL c7] at e'
  have:=List.append_cancel_left e'
  obtain⟨f1,f2⟩:=List.cons.inj this
  have g1:=nJ f1
  have g2:=oQ (List.cons.inj f2).1
  omega
 by_cases c3:c % 3=1
 ·by_cases q1:k1 % 2=1<;>by_cases q2:k2 % 2=1
  ·rw[Kp c5 c7 c3 q1,Kp c5 c7 c3 q2] at e'
   have:=cL (by omega) (by omega) (List.append_cancel_right e')
   omega
  ·rw[Kp c5 c7 c3 q1,Z4 c5 c7 (fun z=>q2 z.2),List.length_append,wM,wM] at el
   simp only[List.length_cons,List.length_nil] at el
   omega
  ·rw[Z4 c5 c7 (fun z=>q1 z.2),Kp c5 c7 c3 q2,List.length_append,wM,wM] at el
   simp only[List.length_cons,List.length_nil] at el
   omega
  ·rw[Z4 c5 c7 (fun z=>q1 z.2),Z4 c5 c7 (fun z=>q2 z.2)] at e'
   exact cL h1 h2 e'
 ·rw[Z4 c5 c7 (fun z=>c3 z.1),Z4 c5 c7 (fun z=>c3 z.1)] at e'
  exact cL h1 h2 e'
section
variable {P:Program} {w:World} {K:PySem.W.Frag} {mg:Str→Option Value} {base:Heap} {t:xj}
end
theorem KS:("; " : Str)=⟨#[59,32]⟩:=by decide +kernel
theorem J7:("; " : Str).cps.toList=[59,32]:=by decide +kernel
noncomputable def XR (l:List Nat):Prop:=∀j:Nat,l[j]?=some 59→l[j + 1]?=some 32→False
theorem QR {x:Str} {i:Nat} (h1:x.cps.toList[i]?=some 59) (h2:x.cps.toList[i + 1]?=some 32):StrLaws.At x ⟨#[59,32]⟩ x.length i:=by
 obtain⟨g1,e1⟩:=List.getElem?_eq_some_iff.mp h1
 obtain⟨g2,e2⟩:=List.getElem?_eq_some_iff.mp h2
 have hl:x.cps.toList.length=x.length:=by simp [Str.length]
 refine⟨by show i + 2≤x.length;omega,?_⟩
 rw[StrLaws.subAt_eq]
 show ((x.cps.toList.drop i).take 2 == [59,32])=true
 rw[List.drop_eq_getElem_cons g1,List.drop_eq_getElem_cons g2,e1,e2]
 rfl
theorem oA {x:Str} {a b:Nat} (hn:∀k,a≤k→k < b→¬StrLaws.At x ⟨#[59,32]⟩ x.length k):XR (Builtin.Str.strSub x a b).cps.toList:=by
 intro j h1 h2
 rw[StrLaws.strSub_toList] at h1 h2
 have hj:j + 1 < b - a:=by
  have:=(List.getElem?_eq_some_iff.mp h2).1
  rw[List.length_take] at this
  omega
 rw[List.getElem?_take_of_lt (by omega),List.getElem?_drop] at h1
 rw[List.getElem?_take_of_lt hj,List.getElem?_drop] at h2
 exact hn (a + j) (by omega) (by omega) (QR h1 (by rw[Nat.add_assoc];exact h2))
theorem sg {x:Str}:∀{cuts:List Nat} {a f:Nat},StrLaws.ChainG x ⟨#[59,32]⟩ x.length a cuts f→(∀k,f≤k→¬StrLaws.At x ⟨#[59,32]⟩ x.length k)→∀p∈StrLaws.partsFrom x 2 a cuts,XR p.cps.toList
 | [],a,f,h,hn,y,hy=>by
  obtain rfl:f=a:=h
  rw[List.mem_singleton.mp hy]
  exact oA fun k h1 _=>hn k h1
 | d :: r,a,f,h,hn,y,hy=>by
  rcases List.mem_cons.mp hy with rfl | hy'
  ·exact oA h.2.2.1
  ·exact sg h.2.2.2 hn y hy'
theorem Qm (x:Str):∀p∈Txt.split x ⟨#[59,32]⟩,XR p.cps.toList:=by
 obtain⟨f,hG,hn⟩:=StrLaws.occ_tight x ⟨#[59,32]⟩ (by show 1≤2;decide)
 intro p hp
 have whole:(∀k,¬StrLaws.At x ⟨#[59,32]⟩ x.length k)→XR x.cps.toList:=fun h j h1 h2=>h j (QR h1 h2)
 unfold Txt.split at hp
 split at hp
 ·rename_i hc
  rw[List.mem_singleton.mp hp]
  refine whole fun k hA=>?_
  (rw[Bool.or_eq_true,decide_eq_true_eq,decide_eq_true_eq] at hc)
  rcases hc with q | q
  ·have:=hA.1;omega
  ·have e:Builtin.Str.strKind ⟨#[59,32]⟩=1:=by decide +kernel
   rw[e] at q
   unfold Builtin.Str.strKind at q
   split at q
   ·omega
   ·split at q<;>omega
 ·split at hp
  ·rename_i he
   rw[List.mem_singleton.mp hp]
   rw[List.isEmpty_iff.mp he] at hG
   obtain rfl:f=0:=hG
   exact whole fun k=>hn k (Nat.zero_le _)
  ·rw[StrLaws.partsBetween_eq] at hp
   exact sg hG hn p hp
noncomputable def G2 (l:List Nat):Prop:=∀j:Nat,l[j]?=some 59→l[j + 1]?=some 32
theorem G2.free {l:List Nat} (h:59∉l):G2 l:=fun j e=>absurd (List.mem_of_getElem? e) h
theorem yR (x y:Str) (r:List Str):(Str.join "; " (x :: y :: r)).cps.toList=x.cps.toList ++ 59 :: 32 :: (Str.join "; " (y :: r)).cps.toList:=by
 rw[oo,cps_append,cps_append,J7]
 simp
theorem G2.glue {x l:List Nat} (hx:59∉x) (hl:G2 l):G2 (x ++ 59 :: 32 :: l):=by
 intro j e
 by_cases q:j < x.length
 ·rw[List.getElem?_append_left q] at e
  exact absurd (List.mem_of_getElem? e) hx
 ·rw[List.getElem?_append_right (by omega)] at e ⊢
  rw[show j + 1 - x.length=(j - x.length) + 1 by omega]
  generalize j - x.length=i at e ⊢
  match i,e with
  | 0,_=>rfl
  | 1,e=>cases e
  | i + 2,e=>exact hl i e
theorem G2.join:∀{rows:List Str},(∀x∈rows,59∉x.cps.toList)→G2 (Str.join "; " rows).cps.toList
 | [],_=>G2.free (by decide +kernel)
 | [x],h=>by rw[L2.join_one];exact G2.free (h x (by simp))
 | x :: y :: r,h=>by
  rw[yR]
  exact G2.glue (h x (by simp)) (G2.join fun z hz=>h z (List.mem_cons_of_mem _ hz))
theorem uX:∀{ps:List Str},G2 (Str.join "; " ps).cps.toList→(∀p∈ps,XR p.cps.toList)→∀p∈ps,59∉p.cps.toList
 | [],_,_,p,hp=>by cases hp
 | [x],h,hn,p,hp=>by
  rw[L2.join_one] at h
  rw[List.mem_singleton.mp hp]
  intro hm
  (obtain⟨j,hj⟩:=List.getElem?_of_mem hm)
  exact hn x (by simp) j hj (h j hj)
 | x :: y :: r,h,hn,p,hp=>by
  rw[yR] at h
  have h':G2 (Str.join "; " (y :: r)).cps.toList:=fun j e=>by
   have:=h (x.cps.toList.length + (j + 2)) (by rw[List.getElem?_append_right (by omega),Nat.add_sub_cancel_left];exact e)
   rw[List.getElem?_append_right (by omega),show x.cps.toList.length + (j + 2) + 1 - x.cps.toList.length=j + 1 + 2 by omega] at this
   exact this
  (rcases List.mem_cons.mp hp with rfl | hp)
  ·intro hm
   (obtain⟨j,hj⟩:=List.getElem?_of_mem hm)
   have hjl:=(List.getElem?_eq_some_iff.mp hj).1
   have e:=h j (by rw[List.getElem?_append_left hjl];exact hj)
   by_cases q:j + 1 < p.cps.toList.length
   ·rw[List.getElem?_append_left q] at e
    exact hn p (by simp) j hj e
   ·rw[List.getElem?_append_right (by omega),show j + 1 - p.cps.toList.length=0 by omega] at e
    cases e
  ·exact uX h' (fun z hz=>hn z (List.mem_cons_of_mem _ hz)) p hp
theorem lS:∀{as bs:List Str},as≠[]→bs≠[]→(∀x∈as,59∉x.cps.toList)→(∀x∈bs,59∉x.cps.toList)→Str.join "; " as=Str.join "; " bs→as=bs
 | [],_,h,_,_,_,_=>absurd rfl h
 | _ :: _,[],_,h,_,_,_=>absurd rfl h
 | [a],[b],_,_,_,_,e=>by rw[show a=b from e]
 | [a],b :: b' :: r,_,_,ha,_,e=>by
  have e':=congrArg (fun z=>z.cps.toList) e
  simp only[yR,L2.join_one] at e'
  exact absurd (by rw[e'];simp) (ha a (by simp))
 | a :: a' :: r,[b],_,_,_,hb,e=>by
  have e':=congrArg (fun z=>z.cps.toList) e
  simp only[yR,L2.join_one] at e'
  exact absurd (by rw[←e'];simp) (hb b (by simp))
 | a :: a' :: r,b :: b' :: r',_,_,ha,hb,e=>by
  have e':=congrArg (fun z=>z.cps.toList) e
  simp only[yR] at e'
  obtain⟨e1,e2⟩:=uf (ha a (by simp)) (hb b (by simp)) e'
  have:=lS (as:=a' :: r) (bs:=b' :: r') (by simp) (by simp) (fun x hx=>ha x (List.mem_cons_of_mem _ hx)) (fun x hx=>hb x (List.mem_cons_of_mem _ hx)) (xP (List.cons.inj e2).2)
  rw[xP e1,this]
theorem sm {rows:List Str} (h:rows≠[]) (hb:∀x∈rows,59∉x.cps.toList):Txt.split (Txt.join "; " rows) "; " = rows:=by
 rw[join_eq]
 have hj:Str.join "; " (Txt.split (Str.join "; " rows) "; ")=Str.join "; " rows:=StrLaws.join_split _ _
 refine(lS h ?_ hb ?_ hj.symm).symm
 ·intro q
  have:=PyProof.Rows.split_pos (Str.join "; " rows) "; "
  rw[q] at this
  simp at this
 ·refine uX ?_ ?_
  ·rw[hj];exact G2.join hb
  ·rw[KS];exact Qm _
section
variable {P:Program} {w:World} {K:PySem.W.Frag} {mg:Str→Option Value} {base:Heap} {t:xj}
end
noncomputable def j7 (ws:List Str):Str:=Txt.join " " ws
theorem fo {x:Str} (h:qe x=true):32∉x.cps.toList:=(vY h).2.2.nb
theorem tm:∀x∈(["let","be","part","done","parties","acts","calm","sore","end"]:List Str),32∉x.cps.toList∧59∉x.cps.toList∧x.length≤7:=by decide +kernel
theorem KR {a b:Str} (ha:qe a=true) (hb:qe b=true):gW [10,0,11,0] ["let",a,"be",b]:=.cons (.inr (.inr (.inr ⟨by decide,rfl⟩))) (.cons (.inl ⟨rfl,ha⟩) (.cons (.inr (.inr (.inr ⟨by decide,rfl⟩))) (.cons (.inl ⟨rfl,hb⟩) .nil)))
theorem J5 {n:Str} (h:qe n=true):gW [12,0] ["part",n]:=.cons (.inr (.inr (.inr ⟨by decide,rfl⟩))) (.cons (.inl ⟨rfl,h⟩) .nil)
theorem pN {fr:List Fr} {r:Rw}:(push fr r).length=fr.length:=by
 cases fr with
 | nil=>rfl
 | cons f fr=>obtain⟨a,b,c⟩:=f;rfl
section
variable {P:Program} {w:World} {K:PySem.W.Frag} {mg:Str→Option Value} {base:Heap} {t:xj}
end
theorem tX {n:Int} (h1:1≤n) (h2:n < 10 ^ 20):Rt 1 (Str.ofString (toString n))∧bB (Str.ofString (toString n))=n∧Wk (Str.ofString (toString n))∧(Str.ofString (toString n)).length≤20:=by
 obtain⟨m,rfl⟩:=Int.eq_ofNat_of_zero_le (show 0≤n by omega)
 have e:=PySem.W.KIN.signs_num m
 have hg:=JV (n:=(m:Int)) (by omega) (by omega)
 generalize hs:Str.ofString (toString ((m:Nat):Int))=s at *
 have hl:s.length=(Nat.toDigits 10 m).length:=by
  have:=congrArg List.length e
  rw[List.length_map] at this
  rw[←this]
  simp [Str.length]
 have hdig:PySem.NumText.AllDigits s.cps.toList:=by
  rw[e]
  intro c hc
  obtain⟨ch,hch,rfl⟩:=List.mem_map.mp hc
  have:=Nat.isDigit_of_mem_toDigits (b:=10) (by decide) (by decide) hch
  simp [Char.isDigit] at this
  exact⟨by have:=this.1;exact this,by have:=this.2;exact this⟩
 have hv:PySem.NumText.digitsVal s.cps.toList=m:=by rw[e];exact PySem.W.KIN.val_back m
 have hhead:s.cps.toList.head?≠some 48:=by
  intro q
  have ta:=PySem.NumText.toDigits_all s.cps.toList hdig
  rw[hv] at ta
  cases qc:s.cps.toList with
  | nil=>rw[qc] at q;cases q
  | cons c r=>
   rw[qc] at q ta hv
   have hc:c=48:=by simpa using q
   subst hc
   rw[List.dropWhile_cons] at ta
   have hlen:(Nat.toDigits 10 m).length=r.length + 1:=by
    rw[←hl]
    have:s.length=s.cps.toList.length:=by simp [Str.length]
    rw[this,qc];rfl
   have hd:(r.dropWhile (· == 48)).length≤r.length:=(List.dropWhile_sublist _).length_le
   cases qd:r.dropWhile (· == 48) with
   | nil=>
    simp only[show ((48:Nat) == 48)=true from rfl,if_true,qd] at ta
    rw[ta] at hlen
    have:r=[]:=by cases r;rfl;simp at hlen
    subst this
    have:PySem.NumText.digitsVal [48]=0:=rfl
    omega
   | cons d r'=>
    simp only[show ((48:Nat) == 48)=true from rfl,if_true,qd] at ta
    rw[ta,List.length_map] at hlen
    rw[qd] at hd
    omega
 have hlen20:s.length≤20:=by
  rw[hl]
  refine digits10_le (by decide) ?_
  exact_mod_cast h2
 have hw:pk s kO 20=true:=by
  unfold pk
  rw[decide_eq_true hg.2.1,decide_eq_true (show (s.length:Int)≤20 by omega)]
  simp only[Bool.true_and]
  exact List.all_eq_true.mpr fun c hc=>by rw[og];exact decide_eq_true (hdig c hc)
 have hn:bB s=(m:Int):=by
  unfold bB
  rw[if_pos ⟨hw,hhead⟩,hv]
 have nl:qe s=false:=by
  cases q:qe s with
  | false=>rfl
  | true=>rw[name_num q] at hn;omega
 refine⟨.inr (.inl ⟨rfl,nl,by rw[hn];omega,fun q=>?_⟩),hn,⟨hg.2.2,fun hc=>?_⟩,hlen20⟩
 ·rw[(uz s q).2] at hn;omega
 ·have:=hdig 32 hc;omega
theorem Zx:∀x∈lits,(∀c∈x.cps.toList,c < 128)∧32∉x.cps.toList∧x.length≤4:=by decide +kernel
theorem rn {x:Str} (h:qe x=true):Rt 0 x:=.inl ⟨rfl,h⟩
theorem rl {x:Str} {k:Nat} (h:lits[k]?=some x):Rt (k + 3) x:=.inr (.inr (.inr ⟨by omega,by rw[Nat.add_sub_cancel];exact h⟩))
structure Wt (k:Nat) (x:Str):Prop where
 rt:Rt k x
 wk:Wk x
 len:x.length≤20
theorem wn {x:Str} (h:qe x=true):Wt 0 x:=⟨rn h,(vY h).2.2,by have:=(vY h).2.1;omega⟩
theorem wl {x:Str} {k:Nat} (h:lits[k]?=some x):Wt (k + 3) x:=by
 obtain⟨h1,h2,h3⟩:=Zx x (List.mem_of_getElem? h)
 exact⟨rl h,⟨h1,h2⟩,by omega⟩
noncomputable abbrev Qa:List Nat→List Str→Prop:=Paired Wt
theorem Qa.Yr {ks:List Nat} {ws:List Str} (h:Qa ks ws):gW ks ws:=Paired.Jo h fun _ _ q=>q.rt
theorem Qa.wk:∀{ks:List Nat} {ws:List Str},Qa ks ws→∀x∈ws,Wk x∧x.length≤20
 | _,_,.nil,x,hx=>by cases hx
 | _,_,.cons r t,x,hx=>by
  (rcases List.mem_cons.mp hx with rfl | hx)
  ·exact⟨r.wk,r.len⟩
  ·exact Qa.wk t x hx
theorem X2 {ks:List Nat} {ws:List Str} (r:gW ks ws) (h1:j5 ks cV=false) (h2:j5 ks pR=false) (h3:j5 ks eQ=false) (h4:j5 ks dA=false):jB ws=none:=by
 obtain⟨f1,f2,f3,f4,f5,f6⟩:=j6
 obtain⟨o1,o2,o3,o4,o5,o6⟩:=iG
 unfold jB
 rw[if_neg (vk r o1 f1 h1),if_neg (vk r o2 f2 h2),if_neg (vk r o3 f3 h3),if_neg (vk r o4 f4 h4)]
noncomputable def aq (u:Str):Prop:=qe u=true∨u = "any"
theorem wu {u:Str} (h:aq u):∃k,(k=0∨k=3)∧Wt k u:=by
 rcases h with h | rfl
 ·exact⟨0,.inl rfl,wn h⟩
 ·exact⟨3,.inr rfl,wl (k:=0) rfl⟩
theorem iz {ks:List Nat} {ws:List Str} (r:gW ks ws) (h:j5 (ks.take 2) sk=true):kl (ws.take 2) uZ=true:=fW (r.take 2) iG.2.2.2.2.2 j6.2.2.2.2.2 h
theorem cq:∀{rs:List Str},(∀x∈rs,qe x=true)→Qa (List.replicate rs.length 0) rs
 | [],_=>.nil
 | x :: r,h=>.cons (wn (h x (by simp))) (cq fun y hy=>h y (List.mem_cons_of_mem _ hy))
noncomputable def p6 (m:Nat):List Nat:=[12,0,13] ++ List.replicate m 0
noncomputable def Vr (m:Nat):Bool:=!j5 (p6 m) cV && !j5 (p6 m) pR && !j5 (p6 m) eQ && !j5 (p6 m) dA && !j5 (p6 m) Ke && !Zc (p6 m) && j5 ((p6 m).take 2) sk
theorem Ho:∀m < 13,1≤m→Vr m=true:=by decide +kernel
inductive Ew where
 | lt (a b:Str)
 | mu (l w a:Str) (n:Int) (r:Str)
 | my (l w a:Str)
 | bn (l w a r:Str)
 | pw (l w a r:Str)
 | pt (n:Str) (rs:List Str)
 | dn
noncomputable def Ew.ws:Ew→List Str
 | .lt a b=>["let",a,"be",b]
 | .mu l w a n r=>[l,w,"must",a,"by",Str.ofString (toString n),"else",r]
 | .my l w a=>[l,w,"may",a]
 | .bn l w a r=>[l,w,"may","not",a,"else",r]
 | .pw l w a r=>[l,w,"by",a,"to",r]
 | .pt n []=>["part",n]
 | .pt n (x :: rs)=>"part" :: n :: "in" :: x :: rs
 | .dn=>["done"]
noncomputable def Ew.row (e:Ew):Str:=Txt.join " " e.ws
noncomputable def Ew.ok:Ew→Prop
 | .lt a b=>qe a=true∧qe b=true
 | .mu l w a n r=>qe l=true∧qe w=true∧qe a=true∧1≤n∧n < 10 ^ 20∧qe r=true
 | .my l w a=>qe l=true∧aq w∧qe a=true
 | .bn l w a r=>qe l=true∧aq w∧qe a=true∧qe r=true
 | .pw l w a r=>qe l=true∧aq w∧qe a=true∧qe r=true
 | .pt n rs=>qe n=true∧(∀x∈rs,qe x=true)∧rs.length≤12
 | .dn=>True
noncomputable def Ew.take (fr:List Fr) (ls:List Str):Ew→Option (List Fr × List Str)
 | .lt a b=>some (push fr (.lt a b),ls)
 | .mu l w a n r=>if l∈ls then none else some (push fr (.cl 0 l w a n r),ls ++ [l])
 | .my l w a=>if l∈ls then none else some (push fr (.cl 1 l w a 0 ""),ls ++ [l])
 | .bn l w a r=>if l∈ls then none else some (push fr (.cl 2 l w a 0 r),ls ++ [l])
 | .pw l w a r=>if l∈ls then none else some (push fr (.cl 3 l w a 0 r),ls ++ [l])
 | .pt n rs=>if fr.length=7∨n∈ls then none else some ((n,rs,[]) :: fr,ls ++ [n])
 | .dn=>match fr with
  | (n,rs,rows) :: (n2,rs2,rows2) :: fr'=>some ((n2,rs2,rows2 ++ [.pt n rs rows]) :: fr',ls)
  | _=>none
theorem Ew.Pg:∀{e:Ew},e.ok→(∃ks,Qa ks e.ws)∨e=.dn
 | .lt a b,h=>.inl ⟨_,.cons (wl (k:=7) rfl) (.cons (wn h.1) (.cons (wl (k:=8) rfl) (.cons (wn h.2) .nil)))⟩
 | .mu l w a n r,h=>by
  obtain⟨t1,t2,t3,t4⟩:=tX h.2.2.2.1 h.2.2.2.2.1
  exact .inl ⟨[0,0,4,0,7,1,8,0],.cons (wn h.1) (.cons (wn h.2.1) (.cons (wl (k:=1) rfl) (.cons (wn h.2.2.1) (.cons (wl (k:=4) rfl) (.cons ⟨t1,t3,t4⟩ (.cons (wl (k:=5) rfl) (.cons (wn h.2.2.2.2.2) .nil)))))))⟩
 | .my l w a,h=>by
  obtain⟨k,hk,hw⟩:=wu h.2.1
  exact .inl ⟨[0,k,5,0],.cons (wn h.1) (.cons hw (.cons (wl (k:=2) rfl) (.cons (wn h.2.2) .nil)))⟩
 | .bn l w a r,h=>by
  obtain⟨k,hk,hw⟩:=wu h.2.1
  exact .inl ⟨[0,k,5,6,0,8,0],.cons (wn h.1) (.cons hw (.cons (wl (k:=2) rfl) (.cons (wl (k:=3) rfl) (.cons (wn h.2.2.1) (.cons (wl (k:=5) rfl) (.cons (wn h.2.2.2) .nil))))))⟩
 | .pw l w a r,h=>by
  obtain⟨k,hk,hw⟩:=wu h.2.1
  exact .inl ⟨[0,k,7,0,9,0],.cons (wn h.1) (.cons hw (.cons (wl (k:=4) rfl) (.cons (wn h.2.2.1) (.cons (wl (k:=6) rfl) (.cons (wn h.2.2.2) .nil)))))⟩
 | .pt n [],h=>.inl ⟨_,.cons (wl (k:=9) rfl) (.cons (wn h.1) .nil)⟩
 | .pt n (x :: rs),h=>.inl ⟨_,.cons (wl (k:=9) rfl) (.cons (wn h.1) (.cons (wl (k:=10) rfl) (cq h.2.1)))⟩
 | .dn,_=>.inr rfl
theorem Ew.wk {e:Ew} (h:e.ok):∀x∈e.ws,Wk x∧x.length≤20:=by
 rcases Ew.Pg h with ⟨ks,w⟩ | rfl
 ·exact w.wk
 ·intro x hx
  simp only[Ew.ws,List.mem_cons,List.not_mem_nil,or_false] at hx
  subst hx
  exact⟨⟨by unfold asc;decide +kernel,by decide +kernel⟩,by decide +kernel⟩
theorem Ew.ne (e:Ew):e.ws≠[]:=by
 cases e with
 | pt n rs=>cases rs<;>simp [Ew.ws]
 | _=>simp [Ew.ws]
theorem Ew.xR {e:Ew} (h:e.ok):xR e.row=e.ws:=dW e.ne fun x hx=>(Ew.wk h x hx).1.nb
theorem fb:Ew.row .dn = "done":=by decide +kernel
theorem Ew.JX {e:Ew} (h:e.ok) (hn:e≠.dn):¬e.row = "done":=fun q=>by
 have e1:=Ew.xR h
 have e2:My.xR (Ew.row .dn)=(["done"]:List Str):=Ew.xR (e:=.dn) True.intro
 rw[q,←fb,e2] at e1
 cases e with
 | dn=>exact hn rfl
 | pt n rs=>cases rs<;>simp [Ew.ws] at e1
 | _=>simp [Ew.ws] at e1
theorem Ew.takes {e:Ew} (h:e.ok) (fr:List Fr) (ls:List Str):yb fr ls e.row=e.take fr ls:=by
 unfold yb
 by_cases hd:e=.dn
 ·subst hd
  rw[if_pos fb]
  rfl
 rw[if_neg (Ew.JX h hd),Ew.xR h]
 cases e with
 | dn=>exact absurd rfl hd
 | lt a b=>
  have r:=KR h.1 h.2
  have f5:wm (Ew.lt a b).ws=none:=if_neg (vk (r.take 2) iG.2.2.2.2.2 j6.2.2.2.2.2 (by decide))
  have f6:jB (Ew.lt a b).ws=none:=X2 r (by decide) (by decide) (by decide) (by decide)
  have f7:i4 (Ew.lt a b).ws=some (a,b):=if_pos (fW r iG.2.2.2.2.1 j6.2.2.2.2.1 (by decide))
  rw[f5]
  dsimp only
  rw[f6]
  dsimp only
  rw[f7]
  rfl
 | mu l w a n r'=>
  obtain⟨t1,t2,t3,t4⟩:=tX h.2.2.2.1 h.2.2.2.2.1
  have hw:Qa [0,0,4,0,7,1,8,0] (Ew.mu l w a n r').ws:=.cons (wn h.1) (.cons (wn h.2.1) (.cons (wl (k:=1) rfl) (.cons (wn h.2.2.1) (.cons (wl (k:=4) rfl) (.cons ⟨t1,t3,t4⟩ (.cons (wl (k:=5) rfl) (.cons (wn h.2.2.2.2.2) .nil)))))))
  have r:=hw.Yr
  have f5:wm (Ew.mu l w a n r').ws=none:=r.part (by decide)
  have f6:jB (Ew.mu l w a n r').ws=some (0,l,w,a,n,r'):=by
   unfold jB
   rw[if_pos (fW r iG.1 j6.1 (by decide))]
   show some ((0:Int),l,w,a,bB (Str.ofString (toString n)),r')=_
   rw[t2]
  rw[f5]
  dsimp only
  rw[f6]
  rfl
 | my l w a=>
  obtain⟨k,hk,hu⟩:=wu h.2.1
  have hw:Qa [0,k,5,0] (Ew.my l w a).ws:=.cons (wn h.1) (.cons hu (.cons (wl (k:=2) rfl) (.cons (wn h.2.2) .nil)))
  have r:=hw.Yr
  have hdd:∀j,j=0∨j=3→(j5 [0,j,5,0] cV=false∧j5 [0,j,5,0] pR=true∧sy [0,j,5,0]=false):=by
   rintro j (rfl | rfl)<;>decide
  obtain⟨d1,d2,d4⟩:=hdd k hk
  have f5:wm (Ew.my l w a).ws=none:=r.part d4
  have f6:jB (Ew.my l w a).ws=some ((1:Int),l,w,a,(0:Int),("" : Str)):=by
   unfold jB
   rw[if_neg (vk r iG.1 j6.1 d1),if_pos (fW r iG.2.1 j6.2.1 d2)]
   rfl
  rw[f5]
  dsimp only
  rw[f6]
  rfl
 | bn l w a r'=>
  obtain⟨k,hk,hu⟩:=wu h.2.1
  have hw:Qa [0,k,5,6,0,8,0] (Ew.bn l w a r').ws:=.cons (wn h.1) (.cons hu (.cons (wl (k:=2) rfl) (.cons (wl (k:=3) rfl) (.cons (wn h.2.2.1) (.cons (wl (k:=5) rfl) (.cons (wn h.2.2.2) .nil))))))
  have r:=hw.Yr
  have hdd:∀j,j=0∨j=3→(j5 [0,j,5,6,0,8,0] cV=false∧j5 [0,j,5,6,0,8,0] pR=false∧j5 [0,j,5,6,0,8,0] eQ=true∧sy [0,j,5,6,0,8,0]=false):=by
   rintro j (rfl | rfl)<;>decide
  obtain⟨d1,d2,d3,d4⟩:=hdd k hk
  have f5:wm (Ew.bn l w a r').ws=none:=r.part d4
  have f6:jB (Ew.bn l w a r').ws=some (2,l,w,a,0,r'):=by
   unfold jB
   rw[if_neg (vk r iG.1 j6.1 d1),if_neg (vk r iG.2.1 j6.2.1 d2),if_pos (fW r iG.2.2.1 j6.2.2.1 d3)]
   rfl
  rw[f5]
  dsimp only
  rw[f6]
  rfl
 | pw l w a r'=>
  obtain⟨k,hk,hu⟩:=wu h.2.1
  have hw:Qa [0,k,7,0,9,0] (Ew.pw l w a r').ws:=.cons (wn h.1) (.cons hu (.cons (wl (k:=4) rfl) (.cons (wn h.2.2.1) (.cons (wl (k:=6) rfl) (.cons (wn h.2.2.2) .nil)))))
  have r:=hw.Yr
  have hdd:∀j,j=0∨j=3→(j5 [0,j,7,0,9,0] cV=false∧j5 [0,j,7,0,9,0] pR=false∧j5 [0,j,7,0,9,0] eQ=false∧j5 [0,j,7,0,9,0] dA=true∧sy [0,j,7,0,9,0]=false):=by
   rintro j (rfl | rfl)<;>decide
  obtain⟨d1,d2,d3,d5,d4⟩:=hdd k hk
  have f5:wm (Ew.pw l w a r').ws=none:=r.part d4
  have f6:jB (Ew.pw l w a r').ws=some (3,l,w,a,0,r'):=by
   unfold jB
   rw[if_neg (vk r iG.1 j6.1 d1),if_neg (vk r iG.2.1 j6.2.1 d2),if_neg (vk r iG.2.2.1 j6.2.2.1 d3),if_pos (fW r iG.2.2.2.1 j6.2.2.2.1 d5)]
   rfl
  rw[f5]
  dsimp only
  rw[f6]
  rfl
 | pt n rs=>
  have f5:wm (Ew.pt n rs).ws=some (n,rs):=by
   cases rs with
   | nil=>
    have r:gW [12,0] (Ew.pt n []).ws:=J5 h.1
    unfold wm
    rw[if_pos (iz r (by decide)),if_pos (show (Ew.pt n []).ws.length=2 from rfl)]
    rfl
   | cons x rs=>
    have h3:Qa [12,0,13] ["part",n,"in"]:=.cons (wl (k:=9) rfl) (.cons (wn h.1) (.cons (wl (k:=10) rfl) .nil))
    have r:gW (p6 (x :: rs).length) (Ew.pt n (x :: rs)).ws:=h3.Yr.append (cq h.2.1).Yr
    have h2:(x :: rs).length≤12:=h.2.2
    have hpat:=Ho (x :: rs).length (by omega) (by simp)
    unfold Vr at hpat
    simp only[Bool.and_eq_true,Bool.not_eq_true'] at hpat
    have ha:gz (x :: rs) 12=true:=by
     unfold gz
     rw[decide_eq_true (show 1≤(x :: rs).length by simp),decide_eq_true (show ((x :: rs).length:Int)≤12 by omega)]
     exact List.all_eq_true.mpr h.2.1
    unfold wm
    have hl:¬(Ew.pt n (x :: rs)).ws.length=2:=by simp [Ew.ws]
    have hdr:(Ew.pt n (x :: rs)).ws.drop 3=x :: rs:=rfl
    rw[if_pos (iz r hpat.2),if_neg hl,hdr,if_neg (fun q=>q.elim (fun q=>q rfl) (fun q=>by rw[ha] at q;cases q))]
    rfl
  rw[f5]
  rfl
section
variable {P:Program} {w:World} {K:PySem.W.Frag} {mg:Str→Option Value} {base:Heap} {t:xj}
end
structure sJ (ps as:List Str) (ql:List (Str × Str)):Prop where
 p1:1≤ps.length
 p2:ps.length≤4
 a1:1≤as.length
 a2:as.length≤6
 r1:1≤ql.length
 r2:ql.length≤12
 pn:∀x∈ps,qe x=true
 an:∀x∈as,qe x=true
 rn:∀mn∈ql,fY mn
 nd:(ps ++ as ++ ql.map (·.2)).Nodup
noncomputable def wK (mn:Str × Str):Str:=j7 [mn.1,mn.2]
noncomputable def rowsOf (ps as:List Str) (ql:List (Str × Str)) (evs:List Ew):List Str:=j7 ("parties" :: ps) :: j7 ("acts" :: as) :: (ql.map wK ++ evs.map Ew.row)
theorem yh {x:Str} {ns:List Str} (hx:x∈(["parties","acts"]:List Str)) (hn:∀y∈ns,qe y=true):xR (j7 (x :: ns))=x :: ns:=by
 refine dW (by simp) fun y hy=>?_
 rcases List.mem_cons.mp hy with rfl | hy
 ·simp only[List.mem_cons,List.not_mem_nil,or_false] at hx
  rcases hx with rfl | rfl
  ·exact(tm _ (by simp)).1
  ·exact(tm _ (by simp)).1
 ·exact fo (hn y hy)
theorem ZV {ns:List Str} (hn:∀y∈ns,qe y=true):ns.all qe=true:=List.all_eq_true.mpr hn
theorem xI {x:Str} {ns:List Str} {m:Int} (h1:1≤ns.length) (hn:∀y∈ns,qe y=true) (hm:(ns.length:Int)≤m):jM (x :: ns) x m=ns:=by
 unfold jM gz
 rw[List.drop_one,List.tail_cons,ZV hn,decide_eq_true h1,show wd (x :: ns) 0=x from rfl,decide_eq_true hm,if_neg (by simp)]
theorem uq:∀x∈xy,32∉x.cps.toList∧59∉x.cps.toList∧x.length≤4∧x≠"part"∧x≠"done":=by decide +kernel
theorem Yz {mn:Str × Str} (h:fY mn):xR (wK mn)=[mn.1,mn.2]:=by
 refine dW (by simp) fun y hy=>?_
 simp only[List.mem_cons,List.not_mem_nil,or_false] at hy
 rcases hy with rfl | rfl
 ·exact(uq _ h.1).1
 ·exact fo h.2
theorem da {mn:Str × Str} (h:fY mn):vB (xR (wK mn))=some mn:=by
 rw[Yz h]
 unfold vB
 rw[if_pos ⟨rfl,by rw[mE];exact decide_eq_true h.1,h.2⟩]
 rfl
theorem rj {e:Ew} (h:e.ok):vB (xR e.row)=none:=by
 rw[Ew.xR h]
 unfold vB
 refine if_neg fun q=>?_
 have hp:("part" : Str)∉xy:=by decide +kernel
 have two:∀{x y:Str} {r:List Str},1≤r.length→¬(x :: y :: r).length=2:=fun {x y r} h=>by simp only[List.length_cons];omega
 cases e with
 | pt n rs=>
  cases rs with
  | nil=>
   have:=q.2.1
   rw[mE] at this
   exact hp (of_decide_eq_true this)
  | cons x rs=>exact two (by simp) q.1
 | dn=>exact absurd q.1 (by simp [Ew.ws])
 | lt a b=>exact two (by simp) q.1
 | mu l w a n r=>exact two (by simp) q.1
 | my l w a=>exact two (by simp) q.1
 | bn l w a r=>exact two (by simp) q.1
 | pw l w a r=>exact two (by simp) q.1
theorem sf {taken:List Str} {evs:List Ew} (he:∀e∈evs,e.ok):∀{ql found:List (Str × Str)},(∀mn∈ql,fY mn)→(taken ++ (found ++ ql).map (·.2)).Nodup→found ++ ql≠[]→found.length + ql.length≤12→
  jd taken found (ql.map wK ++ evs.map Ew.row)=.ok (found ++ ql)
 | [],found,_,_,hne,hf=>by
  rw[List.append_nil] at hne
  rw[List.map_nil,List.nil_append,List.append_nil]
  cases evs with
  | nil=>simp only[List.map_nil,jd,if_neg hne]
  | cons e r=>
   rw[List.map_cons,jd,rj (he e List.mem_cons_self)]
   dsimp only
   rw[if_neg hne]
 | mn :: r,found,hr,hnd,hne,hf=>by
  have e:found ++ mn :: r=(found ++ [mn]) ++ r:=by simp
  rw[e] at hnd hne
  rw[List.map_cons,List.cons_append,jd,da (hr mn List.mem_cons_self)]
  dsimp only
  have hnd1:(taken ++ (found ++ [mn]).map (·.2)).Nodup:=by
   rw[List.map_append,←List.append_assoc] at hnd
   exact(List.nodup_append.mp hnd).1
  simp only[List.length_cons] at hf
  rw[if_neg (fun z=>z.elim (fun z=>by omega) (fun z=>z hnd1)),sf he (fun x hx=>hr x (List.mem_cons_of_mem _ hx)) hnd hne (by rw[List.length_append];simp only[List.length_cons,List.length_nil];omega),e]
theorem KD {ps as:List Str} {ql:List (Str × Str)} {evs:List Ew} (h:sJ ps as ql) (he:∀e∈evs,e.ok) :
  jr (rowsOf ps as ql evs)=match Q8 (rowsOf ps as ql evs).length (kX (2 + ql.length) (evs.map Ew.row) [("whole",[],[])] []) with
   | .error n=>.error n
   | .ok rw=>.ok (ps,as,ql,rw):=by
 have e0:xR (wd (rowsOf ps as ql evs) 0)=("parties" : Str) :: ps:=yh (by simp) h.pn
 have e1:xR (wd (rowsOf ps as ql evs) 1)=("acts" : Str) :: as:=yh (by simp) h.an
 have hlen:(rowsOf ps as ql evs).length=2 + ql.length + evs.length:=by unfold rowsOf;simp only[List.length_cons,List.length_append,List.length_map];omega
 have nd:=h.nd
 have nd2:(ps ++ as).Nodup:=(List.nodup_append.mp nd).1
 have nd1:ps.Nodup:=(List.nodup_append.mp nd2).1
 have h1:=h.p1;have h2:=h.p2;have h3:=h.a1;have h4:=h.a2;have h5:=h.r1;have h6:=h.r2
 have nps:ps≠[]:=fun z=>by rw[z] at h1;simp at h1
 have nas:as≠[]:=fun z=>by rw[z] at h3;simp at h3
 have nrm:ql≠[]:=fun z=>by rw[z] at h5;simp at h5
 have hn0:ji (rowsOf ps as ql evs) 0 "parties" 4 []=some ps:=by
  unfold ji
  rw[if_neg (by omega),e0]
  dsimp only
  rw[xI h.p1 h.pn (by omega),if_neg (fun z=>z.elim nps (fun z=>z (by simpa using nd1)))]
 have hn1:ji (rowsOf ps as ql evs) 1 "acts" 6 ps=some as:=by
  unfold ji
  rw[if_neg (by omega),e1]
  dsimp only
  rw[xI h.a1 h.an (by omega),if_neg (fun z=>z.elim nas (fun z=>z nd2))]
 have hrr:jd (ps ++ as) [] ((rowsOf ps as ql evs).drop 2)=.ok ql:=by
  have:=sf (taken:=ps ++ as) (evs:=evs) he (ql:=ql) (found:=[]) h.rn (by simpa using nd) (by simpa using nrm) (by simpa using h6)
  simpa [rowsOf] using this
 have hdrop:(rowsOf ps as ql evs).drop (2 + ql.length)=evs.map Ew.row:=by
  unfold rowsOf
  rw[show 2 + ql.length=ql.length + 1 + 1 by omega,List.drop_succ_cons,List.drop_succ_cons]
  rw[show ql.length=(ql.map wK).length by rw[List.length_map],List.drop_left]
 unfold jr
 rw[hn0]
 dsimp only
 rw[hn1]
 dsimp only
 rw[hrr]
 dsimp only
 unfold fq
 rw[hdrop]
 all_goals (cases Q8 (rowsOf ps as ql evs).length (kX (2 + ql.length) (evs.map Ew.row) [("whole",[],[])] [])<;>rfl)
noncomputable def eV:Nat→List Ew→List Fr→List Str→Except Nat (List Fr)
 | _,[],fr,_=>.ok fr
 | i,e :: r,fr,ls=>if i=90 then .error i else match e.take fr ls with
  | none=>.error i
  | some (fr',ls')=>eV (i + 1) r fr' ls'
theorem nU:∀{evs:List Ew} {i:Nat} {fr:List Fr} {ls:List Str},(∀e∈evs,e.ok)→kX i (evs.map Ew.row) fr ls=eV i evs fr ls
 | [],_,_,_,_=>rfl
 | e :: r,i,fr,ls,h=>by
  rw[List.map_cons,kX,eV,Ew.takes (h e List.mem_cons_self)]
  by_cases q:i=90
  ·rw[if_pos q,if_pos q]
  ·rw[if_neg q,if_neg q]
   cases e.take fr ls with
   | none=>rfl
   | some p=>exact nU fun x hx=>h x (List.mem_cons_of_mem _ hx)
noncomputable def va:Ew→List Str
 | .mu l _ _ _ _=>[l]
 | .my l _ _=>[l]
 | .bn l _ _ _=>[l]
 | .pw l _ _ _=>[l]
 | .pt n _=>[n]
 | _=>[]
noncomputable def jC (evs:List Ew):List Str:=evs.flatMap va
noncomputable def dp (d:Nat):Ew→Option Nat
 | .pt _ _=>if d < 6 then some (d + 1) else none
 | .dn=>if 0 < d then some (d - 1) else none
 | _=>some d
noncomputable def cy:Nat→List Ew→Option Nat
 | d,[]=>some d
 | d,e :: r=>(dp d e).bind fun d'=>cy d' r
theorem ZZ {d d':Nat} {e:Ew} {fr:List Fr} {ls:List Str} (hd:dp d e=some d') (hf:fr.length=d + 1) (h6:d≤6) (hl:∀x∈va e,x∉ls):∃fr',e.take fr ls=some (fr',ls ++ va e)∧fr'.length=d' + 1∧d'≤6:=by
 cases e with
 | lt a b=>
  cases hd
  exact⟨push fr (.lt a b),by simp [Ew.take,va],by rw[pN];exact hf,h6⟩
 | mu l w a n r=>
  cases hd
  exact⟨_,by rw[Ew.take,if_neg (hl l (by simp [va]))];rfl,by rw[pN];exact hf,h6⟩
 | my l w a=>
  cases hd
  exact⟨_,by rw[Ew.take,if_neg (hl l (by simp [va]))];rfl,by rw[pN];exact hf,h6⟩
 | bn l w a r=>
  cases hd
  exact⟨_,by rw[Ew.take,if_neg (hl l (by simp [va]))];rfl,by rw[pN];exact hf,h6⟩
 | pw l w a r=>
  cases hd
  exact⟨_,by rw[Ew.take,if_neg (hl l (by simp [va]))];rfl,by rw[pN];exact hf,h6⟩
 | pt n rs=>
  simp only[dp] at hd
  split at hd
  ·cases hd
   exact⟨_,by rw[Ew.take,if_neg (fun z=>z.elim (fun z=>by omega) (hl n (by simp [va])))];rfl,by simp only[List.length_cons];omega,by omega⟩
  ·cases hd
 | dn=>
  simp only[dp] at hd
  split at hd
  ·cases hd
   match fr,hf with
   | [f],hf=>simp only[List.length_cons,List.length_nil] at hf;omega
   | (n,rs,rows) :: (n2,rs2,rows2) :: fr',hf=>
    exact⟨(n2,rs2,rows2 ++ [.pt n rs rows]) :: fr',by simp [Ew.take,va],by simp only[List.length_cons] at hf ⊢;omega,by omega⟩
  ·cases hd
theorem eW:∀{evs:List Ew} {i d d':Nat} {fr:List Fr} {ls:List Str},cy d evs=some d'→fr.length=d + 1→d≤6→(ls ++ jC evs).Nodup→i + evs.length≤90→∃fr',eV i evs fr ls=.ok fr'∧fr'.length=d' + 1
 | [],i,d,d',fr,ls,h,hf,_,_,_=>by cases h;exact⟨fr,rfl,hf⟩
 | e :: r,i,d,d',fr,ls,h,hf,h6,hn,hi=>by
  rw[cy] at h
  cases hd:dp d e with
  | none=>rw[hd] at h;cases h
  | some d1=>
   rw[hd,Option.bind_some] at h
   have hn':((ls ++ va e) ++ jC r).Nodup:=by
    have:jC (e :: r)=va e ++ jC r:=by simp [jC]
    rw[this,←List.append_assoc] at hn
    exact hn
   have hl:∀x∈va e,x∉ls:=fun x hx hs=>by
    have:=(List.nodup_append.mp hn').1
    exact(List.nodup_append.mp this).2.2 x hs x hx rfl
   obtain⟨fr1,e1,l1,s1⟩:=ZZ hd hf h6 hl
   simp only[List.length_cons] at hi
   rw[eV,if_neg (by omega),e1]
   exact eW h l1 s1 hn' (by omega)
section
variable {P:Program} {w:World} {K:PySem.W.Frag} {mg:Str→Option Value} {base:Heap} {t:xj}
end
noncomputable def NN (c:Int):List Str:=(List.range 104).map fun (k:Nat)=>g6 c k
theorem ui (c:Int):(NN c).length=104:=by unfold NN;rw[List.length_map,List.length_range]
theorem uo (c:Int) {i:Nat} (h:i < 104):(NN c).getD i "" = g6 c i:=by
 unfold NN
 rw[List.getD_eq_getElem?_getD,List.getElem?_map,List.getElem?_range h]
 rfl
noncomputable def fj (H:Hp) (v:V):Ew→Prop
 | .lt a b=>∃p,v=.ref p∧H p=some (.tup [.str "let",.str a,.str b])
 | .mu l w a n r=>∃p,v=.ref p∧H p=some (.tup [.str "must",.str l,.str w,.str a,.int n,.str r])
 | .my l w a=>∃p,v=.ref p∧H p=some (.tup [.str "may",.str l,.str w,.str a])
 | .bn l w a r=>∃p,v=.ref p∧H p=some (.tup [.str "ban",.str l,.str w,.str a,.str r])
 | .pw l w a r=>∃p,v=.ref p∧H p=some (.tup [.str "power",.str l,.str w,.str a,.str r])
 | .pt n rs=>∃p q,v=.ref p∧H p=some (.tup [.str "part",.str n,.ref q])∧H q=some (.lst (rs.map V.str))
 | .dn=>∃p,v=.ref p∧H p=some (.tup [.str "done"])
theorem fj.same {H H':Hp} {v:V} {e:Ew} (h:fj H v e) (s:qp H H'):fj H' v e:=by
 cases e with
 | pt n rs=>obtain⟨p,q,e,h1,h2⟩:=h;exact⟨p,q,e,s _ _ h1,s _ _ h2⟩
 | lt a b=>obtain⟨p,e,h⟩:=h;exact⟨p,e,s _ _ h⟩
 | mu l w a n r=>obtain⟨p,e,h⟩:=h;exact⟨p,e,s _ _ h⟩
 | my l w a=>obtain⟨p,e,h⟩:=h;exact⟨p,e,s _ _ h⟩
 | bn l w a r=>obtain⟨p,e,h⟩:=h;exact⟨p,e,s _ _ h⟩
 | pw l w a r=>obtain⟨p,e,h⟩:=h;exact⟨p,e,s _ _ h⟩
 | dn=>obtain⟨p,e,h⟩:=h;exact⟨p,e,s _ _ h⟩
noncomputable def Qo (l:Addr) (H:Hp) (v:V):Ew→Prop
 | .pt n rs=>∃p q,v=.ref p∧H p=some (.tup [.str "part",.str n,.ref q])∧H q=some (.lst (rs.map V.str))∧q≠l
 | e=>fj H v e
theorem Qo.ev {l:Addr} {H:Hp} {v:V} {e:Ew} (h:Qo l H v e):fj H v e:=by
 cases e with
 | pt n rs=>obtain⟨p,q,e,h1,h2,_⟩:=h;exact⟨p,q,e,h1,h2⟩
 | _=>exact h
theorem Qo.same {l:Addr} {H H':Hp} {v:V} {e:Ew} (h:Qo l H v e) (s:qp H H'):Qo l H' v e:=by
 cases e with
 | pt n rs=>obtain⟨p,q,e,h1,h2,h3⟩:=h;exact⟨p,q,e,s _ _ h1,s _ _ h2,h3⟩
 | lt a b=>obtain⟨p,e,h⟩:=h;exact⟨p,e,s _ _ h⟩
 | mu l w a n r=>obtain⟨p,e,h⟩:=h;exact⟨p,e,s _ _ h⟩
 | my l w a=>obtain⟨p,e,h⟩:=h;exact⟨p,e,s _ _ h⟩
 | bn l w a r=>obtain⟨p,e,h⟩:=h;exact⟨p,e,s _ _ h⟩
 | pw l w a r=>obtain⟨p,e,h⟩:=h;exact⟨p,e,s _ _ h⟩
 | dn=>obtain⟨p,e,h⟩:=h;exact⟨p,e,s _ _ h⟩
theorem Qo.keeps {l:Addr} {H H':Hp} {v:V} {e:Ew} {xs:List V} (h:Qo l H v e) (k:Keeps l H H') (el:H l=some (.lst xs)):Qo l H' v e:=by
 have ne:∀{p:Addr} {ys:List V},H p=some (.tup ys)→H' p=some (.tup ys):=fun q=>k.look q (cK q el (by intro z;cases z))
 cases e with
 | pt n rs=>obtain⟨p,q,e,h1,h2,h3⟩:=h;exact⟨p,q,e,ne h1,k.look h2 h3,h3⟩
 | lt a b=>obtain⟨p,e,h⟩:=h;exact⟨p,e,ne h⟩
 | mu l w a n r=>obtain⟨p,e,h⟩:=h;exact⟨p,e,ne h⟩
 | my l w a=>obtain⟨p,e,h⟩:=h;exact⟨p,e,ne h⟩
 | bn l w a r=>obtain⟨p,e,h⟩:=h;exact⟨p,e,ne h⟩
 | pw l w a r=>obtain⟨p,e,h⟩:=h;exact⟨p,e,ne h⟩
 | dn=>obtain⟨p,e,h⟩:=h;exact⟨p,e,ne h⟩
noncomputable def G3 (lb:Str) (d:Nat) (e:Ew):Prop:=e.ok∧(va e=[]∨va e=[lb])∧(dp d e).isSome=true
noncomputable def Zr (K:PySem.W.Frag):Sp:=fun vs H Q _=>∃(a:Addr) (c cell:Int) (lb:Str) (d:Nat),vs=[.ref a,.int cell,.str lb,.int d]∧qL K H a ((NN c).map V.str)∧0≤cell∧qe lb=true∧∀v e H',qp H H'→(∀l,H l≠none→Qo l H' v e)→G3 lb d e→Q v H'
theorem Za:∀{ys:List V},(∀v∈ys,∃x,v=V.str x∧qe x=true)→∃xs:List Str,ys=xs.map V.str∧∀x∈xs,qe x=true
 | [],_=>⟨[],rfl,fun _ z=>(by cases z)⟩
 | y :: ys,h=>by
  obtain⟨x,rfl,hx⟩:=h y List.mem_cons_self
  obtain⟨xs,rfl,hs⟩:=Za fun v hv=>h v (List.mem_cons_of_mem _ hv)
  exact⟨x :: xs,rfl,fun z hz=>(List.mem_cons.mp hz).elim (fun e=>by rw[e];exact hx) (hs z)⟩
theorem eE {ys:List V} (hl:ys.length=3) (h:∀(i:Nat) (v:V),i < 3→ys[i]?=some v→∃x,v=V.str x∧qe x=true):∃x0 x1 x2,ys=[x0,x1,x2].map V.str∧qe x0=true∧qe x1=true∧qe x2=true:=by
 match ys,hl with
 | [a,b,c],_=>
  obtain⟨x0,rfl,h0⟩:=h 0 a (by decide) rfl
  obtain⟨x1,rfl,h1⟩:=h 1 b (by decide) rfl
  obtain⟨x2,rfl,h2⟩:=h 2 c (by decide) rfl
  exact⟨x0,x1,x2,rfl,h0,h1,h2⟩
section
variable {P:Program} {w:World} {K:PySem.W.Frag} {mg:Str→Option Value} {base:Heap} {t:xj}
theorem kP:qX ["_law_names","_law_cell","_law_label","_law_depth","_law_what","_law_some","_law_who","_law_number","_law_many"] ["_law_names","_law_cell","_law_label","_law_depth"] (z6 xU):=⟨rfl,rfl,rfl,by decide +kernel,rfl,by decide +kernel,by decide +kernel⟩
set_option maxHeartbeats 400000 in
theorem ee (T:Txt K mg t):qV P w K mg base jW 2 t.fc t.fg ["_law_names","_law_cell","_law_label","_law_depth"] (Zr K):=by
 have G_w_mix:qV P w K mg base jW 1 t.bG t.bK ["_law_cell","_law_k"] iJ:=(du T).mono (by decide)
 refine T.dH.fn.ok kP (fun vs H Q E h=>(by obtain⟨_,_,_,_,_,rfl,_⟩:=h;rfl)) (fun cdv A outer s H vs Q E hr h=>?_)
 obtain⟨a,c,cell,lb,d,rfl,hA,hc,hlb,k⟩:=h
 refine⟨_,(z8 (qQ (i:=4) kP.nd rfl (Or.inl rfl) (qw qI (pv 1) z9))
   (z8 (de (i:=5) (osc:=z6 xU) (N:=["_law_names","_law_cell","_law_label","_law_depth","_law_what","_law_some","_law_who","_law_number","_law_many"]) (names:=["_law_names","_law_cell"]) (qC:=[0,1]) rfl rfl rfl kP.nd ⟨rfl,by decide +kernel,by decide +kernel,by decide +kernel,rfl,rfl,by decide +kernel,by decide +kernel⟩ rfl rfl (vH rfl T.wF (z0 z9 z7)) (fun _ _ _=>(qf (qy (K:=K) rfl) (pv 1) (qw qI (qu G_w_mix hr rfl T.jm.mg T.jm.fn.kp T.jm.bd .nil qJ (z0 (pv 2) (z0 (pv 0) z7))) z9) (fun _ _=>rfl))))
   (z8 (qQ (i:=6) kP.nd rfl (Or.inl rfl) (qf (qy (K:=K) rfl) (pv 5) z9 (fun _ _=>rfl)))
   (z8 (PS.join (qM (qo jY (qw qI (qu G_w_mix hr rfl T.jm.mg T.jm.fn.kp T.jm.bd .nil qJ (z0 (pv 1) (z0 z9 z7))) z9) z9 (qZ _))
    (qz (qQ (i:=6) kP.nd rfl (Or.inl rfl) qk)) qt))
   (z8 (qQ (i:=7) kP.nd rfl (Or.inl rfl) (qw je z9 (qw qI (qu G_w_mix hr rfl T.jm.mg T.jm.fn.kp T.jm.bd .nil qJ (z0 (pv 1) (z0 z9 z7))) z9)))
   (z8 (PS.join (qM (qo jY (qw qI (qu G_w_mix hr rfl T.jm.mg T.jm.fn.kp T.jm.bd .nil qJ (z0 (pv 1) (z0 z9 z7))) z9) z9 (qZ _))
    (qz (qQ (i:=7) kP.nd rfl (Or.inl rfl) (qw je z9 (qw qI (qw u4 (pv 1) z9) (qw bC (qw WY z9 z9) z9))))) qt))
   (z8 (PS.join (qM (PW.pt (tT (PW.pt (wX (qo jY (pv 4) z9 (qZ _)) (wH (qo jY (pv 4) z9 (qZ _))))) (uw (qo u3 (pv 3) z9 (qZ _)))))
    (z8 (qQ (i:=8) kP.nd rfl (Or.inl rfl) (qw qI (qu G_w_mix hr rfl T.jm.mg T.jm.fn.kp T.jm.bd .nil qJ (z0 (pv 1) (z0 z9 z7))) z9))
   (qz (qr (xr (z0 qk (z0 (pv 2) (z0 (pL (osc:=z6 xU) (N:=["_law_names","_law_cell","_law_label","_law_depth","_law_what","_law_some","_law_who","_law_number","_law_many"]) (names:=["_law_names","_law_cell"]) (qC:=[0,1]) rfl rfl rfl ⟨rfl,by decide +kernel,by decide +kernel,by decide +kernel,rfl,rfl,by decide +kernel,by decide +kernel⟩ (vH rfl T.wF (z0 (pv 8) z7)) (fun _ _ _=>(qf (qy (K:=K) rfl) (pv 1) (qw qI (qu G_w_mix hr rfl T.jm.mg T.jm.fn.kp T.jm.bd .nil qJ (z0 (pv 2) (z0 (qw je z9 (pv 0)) z7))) z9) (fun _ _=>rfl)))) z7))))))) qt))
   (z8 (PS.join (qM (PW.pt (tT (qo jY (pv 4) z9 (qZ _)) (uw (qo oE (pv 3) z9 (qZ _)))))
    (qz (qr (xr (z0 qk z7)))) qt))
   (z8 (qM (qo u3 (pv 4) z9 (qZ _))
    (qz (qr (xr (z0 qk (z0 (qf (qy (K:=K) rfl) (pv 5) z9 (fun _ _=>rfl)) (z0 (qf (qy (K:=K) rfl) (pv 5) z9 (fun _ _=>rfl)) z7)))))) qt)
   (z8 (qM (qo u3 (pv 4) z9 (qZ _))
    (qz (qr (xr (z0 qk (z0 (pv 2) (z0 (qf (qy (K:=K) rfl) (pv 5) z9 (fun _ _=>rfl)) (z0 (qf (qy (K:=K) rfl) (pv 5) z9 (fun _ _=>rfl)) (z0 (pv 7) (z0 (qf (qy (K:=K) rfl) (pv 5) z9 (fun _ _=>rfl)) z7))))))))) qt)
   (z8 (qM (qo jY (pv 4) z9 (qZ _))
    (qz (qr (xr (z0 qk (z0 (pv 2) (z0 (pv 6) (z0 (qf (qy (K:=K) rfl) (pv 5) z9 (fun _ _=>rfl)) z7))))))) qt)
   (z8 (qM (qo jY (pv 4) z9 (qZ _))
    (qz (qr (xr (z0 qk (z0 (pv 2) (z0 (pv 6) (z0 (qf (qy (K:=K) rfl) (pv 5) z9 (fun _ _=>rfl)) (z0 (qf (qy (K:=K) rfl) (pv 5) z9 (fun _ _=>rfl)) z7)))))))) qt)
   (qz (qr (xr (z0 qk (z0 (pv 2) (z0 (pv 6) (z0 (qf (qy (K:=K) rfl) (pv 5) z9 (fun _ _=>rfl)) (z0 (qf (qy (K:=K) rfl) (pv 5) z9 (fun _ _=>rfl)) z7)))))))))))))))))))),?_⟩
 have hN:=ui c
 have w0:0≤cell % 9:=Int.emod_nonneg _ (by decide)
 have w1:cell % 9 < 9:=Int.emod_lt_of_pos _ (by decide)
 walk_at "rd"
 refine gP bL (fun _ _ v=>∃x,v=V.str x∧qe x=true) (qv (by decide +kernel)) ?_ ?_
 ·intro i y H' Q' hy s' kk
  have hi:i < 3:=by
   have:=(List.getElem?_eq_some_iff.mp hy).1
   simpa using this
  have hy':y=V.int (0 + (i:Int)):=by
   rw[List.getElem?_map,List.getElem?_range (show i < (3:Int).toNat from hi)] at hy
   exact(Option.some.inj hy).symm
  subst hy'
  have x0:0≤yT cell (0 + (i:Int)) % 40:=Int.emod_nonneg _ (by decide)
  have x1:yT cell (0 + (i:Int)) % 40 < 40:=Int.emod_lt_of_pos _ (by decide)
  have hA':=s'.seq hA
  walk_at "rd"
  exact kk _ _ (qp.refl _) ⟨_,rfl,by rw[uo c (by omega)];exact dh c⟩
 intro l5 H1 ys s1 hl5 e1 hlen hp
 obtain⟨x0,x1,x2,rfl,g0,g1,g2⟩:=eE (by simpa using hlen) fun i v hi hv=>hp i (V.int (0 + (i:Int))) v (by rw[List.getElem?_map,List.getElem?_range (show i < (3:Int).toNat from hi)];rfl) hv
 clear hp hlen
 have hA1:=s1.seq hA
 have ex0:rN ([x0,x1,x2].map V.str) 0=some (.str x0):=rfl
 have ex1:rN ([x0,x1,x2].map V.str) 1=some (.str x1):=rfl
 have ex2:rN ([x0,x1,x2].map V.str) 2=some (.str x2):=rfl
 have hX:qL K H1 l5 ([x0,x1,x2].map V.str):=qL.of e1
 refine⟨_,rfl,l5,_,_,_,rfl,rfl,hX,ex0,?_⟩
 refine⟨fun σ' H'=>(∃u,σ'=[some (.ref a),some (.int cell),some (.str lb),some (.int d),some (.int (cell % 9)),some (.ref l5),some (.str u),none,none]∧aq u∧H'=H1)∨False,?_,?_⟩
 ·walk_at "rd"
  refine jo (fun _=>?_) (fun _=>.inl ⟨_,rfl,.inl g0,rfl⟩)
  walk_at "rd"
  exact .inl ⟨_,rfl,.inr rfl,rfl⟩
 rintro σ' H2 (⟨u,rfl,hu,rfl⟩ | ⟨⟨⟩⟩)
 walk_at "rd"
 refine⟨fun σ' H'=>(∃n,σ'=[some (.ref a),some (.int cell),some (.str lb),some (.int d),some (.int (cell % 9)),some (.ref l5),some (.str u),some (.int n),none]∧1≤n∧n < 10 ^ 20∧H'=H2)∨False,?_,?_⟩
 ·walk_at "rd"
  refine jo (fun _=>?_) (fun _=>.inl ⟨_,rfl,?_,?_,rfl⟩)
  ·walk_at "rd"
   have e20:(10:Int) ^ (Int.toNat 20) - 1=99999999999999999999:=by decide +kernel
   have p0:=Int.emod_nonneg (cell * 48271) (show (99999999999999999999:Int)≠0 by decide)
   have p1:=Int.emod_lt_of_pos (cell * 48271) (show (0:Int) < 99999999999999999999 by decide)
   refine .inl ⟨_,rfl,?_,?_,rfl⟩
   ·show 1≤1 + cell * 48271 % (10 ^ (Int.toNat 20) - 1)
    rw[e20];omega
   ·show 1 + cell * 48271 % (10 ^ (Int.toNat 20) - 1) < 10 ^ 20
    rw[e20];omega
  ·show 1≤1 + yT cell 4 % 5
   omega
  ·show 1 + yT cell 4 % 5 < 10 ^ 20
   omega
 rintro σ' H3 (⟨n,rfl,n1,n2,rfl⟩ | ⟨⟨⟩⟩)
 refine⟨fun σ' H'=>(σ'=[some (.ref a),some (.int cell),some (.str lb),some (.int d),some (.int (cell % 9)),some (.ref l5),some (.str u),some (.int n),none]∧H'=H3)∨False,?_,?_⟩
 ·walk_at "rd"
  refine jo (fun _=>tf ?pa) (fun _=>?pb)
  case' pb=>
   walk_at "rd"
   refine jo (fun _=>?_) (fun _=>fG (.inl ⟨rfl,rfl⟩))
  all_goals
   walk_at "rd"
   refine jo (fun hd=>?_) (fun _=>.inl ⟨rfl,rfl⟩)
   have hd':(d:Int) < 6:=of_decide_eq_true hd
   have m0:0≤yT cell 6 % 13:=Int.emod_nonneg _ (by decide)
   have m1:yT cell 6 % 13 < 13:=Int.emod_lt_of_pos _ (by decide)
   walk_at "rd"
   generalize (yT cell 6 % 13)=m at *
   refine gP bL (fun _ _ v=>∃x,v=V.str x∧qe x=true) (qv (by rw[List.length_map,List.length_range];omega)) ?_ ?_
   ·intro i y H' Q' hy s' kk
    have hi:i < m.toNat:=by
     have:=(List.getElem?_eq_some_iff.mp hy).1
     simpa using this
    have hy':y=V.int (0 + (i:Int)):=by
     rw[List.getElem?_map,List.getElem?_range hi] at hy
     exact(Option.some.inj hy).symm
    subst hy'
    have x0:0≤yT cell (7 + (0 + (i:Int))) % 40:=Int.emod_nonneg _ (by decide)
    have x1:yT cell (7 + (0 + (i:Int))) % 40 < 40:=Int.emod_lt_of_pos _ (by decide)
    have hA':=s'.seq hA1
    walk_at "rd"
    exact kk _ _ (qp.refl _) ⟨_,rfl,by rw[uo c (by omega)];exact dh c⟩
   intro l6 H4 ys s4 hl6 e4 hlen hp
   obtain⟨xs,rfl,hxs⟩:=Za (ys:=ys) fun v hv=>by
    obtain⟨i,hi⟩:=List.mem_iff_getElem?.mp hv
    have hi':i < m.toNat:=by
     have:=(List.getElem?_eq_some_iff.mp hi).1
     rw[hlen] at this
     simpa using this
    exact hp i (V.int (0 + (i:Int))) v (by rw[List.getElem?_map,List.getElem?_range hi'];rfl) hi
   have hl':xs.length≤12:=by
    rw[List.length_map,List.length_map,List.length_range] at hlen
    omega
   walk_at "rd"
   intro q H6 s6 hq e6
   exact k (.ref q) (.pt lb xs) H6 ((s1.trans s4).trans s6) (fun l hl=>⟨q,l6,rfl,e6,s6 _ _ e4,fun z=>hl (by rw[←z];exact s1.free hl6)⟩) ⟨⟨hlb,hxs,hl'⟩,.inr rfl,by simp only[dp];rw[if_pos (by omega)];rfl⟩
 rintro σ' H4 (⟨rfl,rfl⟩ | ⟨⟨⟩⟩)
 refine⟨fun σ' H'=>(σ'=[some (.ref a),some (.int cell),some (.str lb),some (.int d),some (.int (cell % 9)),some (.ref l5),some (.str u),some (.int n),none]∧H'=H4)∨False,?_,?_⟩
 ·walk_at "rd"
  refine jo (fun _=>?_) (fun _=>fG (.inl ⟨rfl,rfl⟩))
  walk_at "rd"
  refine jo (fun hd=>?_) (fun _=>.inl ⟨rfl,rfl⟩)
  have hd':0 < (d:Int):=of_decide_eq_true hd
  walk_at "rd"
  intro q H6 s6 hq e6
  exact k (.ref q) .dn H6 (s1.trans s6) (fun _ _=>⟨q,rfl,e6⟩) ⟨True.intro,.inl rfl,by simp only[dp];rw[if_pos (by omega)];rfl⟩
 rintro σ' H5 (⟨rfl,rfl⟩ | ⟨⟨⟩⟩)
 walk_at "rd"
 refine jo (fun _=>?_) (fun _=>?_)
 ·walk_at "rd"
  intro q H6 s6 hq e6
  exact k (.ref q) (.lt x0 x1) H6 (s1.trans s6) (fun _ _=>⟨q,rfl,e6⟩) ⟨⟨g0,g1⟩,.inl rfl,rfl⟩
 walk_at "rd"
 refine jo (fun _=>?_) (fun _=>?_)
 ·walk_at "rd"
  intro q H6 s6 hq e6
  exact k (.ref q) (.mu lb x0 x1 n x2) H6 (s1.trans s6) (fun _ _=>⟨q,rfl,e6⟩) ⟨⟨hlb,g0,g1,n1,n2,g2⟩,.inr rfl,rfl⟩
 walk_at "rd"
 refine jo (fun _=>?_) (fun _=>?_)
 ·walk_at "rd"
  intro q H6 s6 hq e6
  exact k (.ref q) (.my lb u x1) H6 (s1.trans s6) (fun _ _=>⟨q,rfl,e6⟩) ⟨⟨hlb,hu,g1⟩,.inr rfl,rfl⟩
 walk_at "rd"
 refine jo (fun _=>?_) (fun _=>?_)
 ·walk_at "rd"
  intro q H6 s6 hq e6
  exact k (.ref q) (.bn lb u x1 x2) H6 (s1.trans s6) (fun _ _=>⟨q,rfl,e6⟩) ⟨⟨hlb,hu,g1,g2⟩,.inr rfl,rfl⟩
 walk_at "rd"
 intro q H6 s6 hq e6
 exact k (.ref q) (.pw lb u x1 x2) H6 (s1.trans s6) (fun _ _=>⟨q,rfl,e6⟩) ⟨⟨hlb,hu,g1,g2⟩,.inr rfl,rfl⟩
end
structure ZK (evs:List Ew):Prop where
 ok:∀e∈evs,e.ok
 dp:cy 0 evs=some 0
 nd:(jC evs).Nodup
 len:evs.length≤66
theorem ff:∀{e1 e2:List Ew} {d:Nat},cy d (e1 ++ e2)=(cy d e1).bind fun d'=>cy d' e2
 | [],_,_=>rfl
 | e :: r,e2,d=>by
  rw[List.cons_append,cy,cy]
  cases dp d e with
  | none=>rfl
  | some d'=>exact ff (e1:=r)
theorem YK {d d':Nat} {e:Ew} (h:dp d e=some d') (h6:d≤6):d'≤6:=by
 cases e with
 | pt n rs=>
  simp only[dp] at h
  split at h
  ·cases h;omega
  ·cases h
 | dn=>
  simp only[dp] at h
  split at h
  ·cases h;omega
  ·cases h
 | _=>cases h;exact h6
theorem Q4:∀(d:Nat),cy d (List.replicate d Ew.dn)=some 0
 | 0=>rfl
 | d + 1=>by
  rw[List.replicate_succ,cy,dp,if_pos (by omega)]
  exact Q4 d
theorem yY (e1 e2:List Ew):jC (e1 ++ e2)=jC e1 ++ jC e2:=by unfold jC;rw[List.flatMap_append]
theorem oa:∀(d:Nat),jC (List.replicate d Ew.dn)=[]
 | 0=>rfl
 | d + 1=>by
  rw[List.replicate_succ]
  show va Ew.dn ++ jC (List.replicate d Ew.dn)=[]
  rw[oa d];rfl
theorem Paired.app {α β:Type} {F:α→β→Prop}:∀{a a':List α} {b b':List β},Paired F a b→Paired F a' b'→Paired F (a ++ a') (b ++ b')
 | [],_,[],_,_,h=>h
 | _ :: _,_,_ :: _,_,.cons h t,q=>.cons h (Paired.app t q)
theorem u6 {α β:Type} {F:α→β→Prop} {a:α} {b:β} (h:F a b):∀n,Paired F (List.replicate n a) (List.replicate n b)
 | 0=>.nil
 | n + 1=>.cons h (u6 h n)
noncomputable def kw:Ew→Str
 | .lt _ _=>"let"
 | .mu _ _ _ _ _=>"must"
 | .my _ _ _=>"may"
 | .bn _ _ _ _=>"ban"
 | .pw _ _ _ _=>"power"
 | .pt _ _=>"part"
 | .dn=>"done"
theorem fj.first {H:Hp} {v:V} {e:Ew} (h:fj H v e):∃p xs,v=.ref p∧H p=some (.tup xs)∧rN xs 0=some (.str (kw e)):=by
 cases e with
 | pt n rs=>obtain⟨p,q,e,h1,h2⟩:=h;exact⟨p,_,e,h1,rfl⟩
 | lt a b=>obtain⟨p,e,h⟩:=h;exact⟨p,_,e,h,rfl⟩
 | mu l w a n r=>obtain⟨p,e,h⟩:=h;exact⟨p,_,e,h,rfl⟩
 | my l w a=>obtain⟨p,e,h⟩:=h;exact⟨p,_,e,h,rfl⟩
 | bn l w a r=>obtain⟨p,e,h⟩:=h;exact⟨p,_,e,h,rfl⟩
 | pw l w a r=>obtain⟨p,e,h⟩:=h;exact⟨p,_,e,h,rfl⟩
 | dn=>obtain⟨p,e,h⟩:=h;exact⟨p,_,e,h,rfl⟩
noncomputable def Pd (b:Bool):Int:=if b=true then 1 else 0
theorem YM {d d':Nat} {e:Ew} (h:dp d e=some d'):(d:Int) + (if decide (V.str (kw e)=V.str (Str.ofString "part"))=true then (1:Int) else 0) - (if decide (V.str (kw e)=V.str (Str.ofString "done"))=true then (1:Int) else 0)=(d':Nat):=by
 have k1:∀x∈(["let","must","may","ban","power"]:List Str),¬x = "part"∧¬x = "done":=by decide +kernel
 have k2:¬("part" : Str) = "done":=by decide +kernel
 have none:∀{x:Str},x∈(["let","must","may","ban","power"]:List Str)→(d:Int) + (if decide (V.str x=V.str (Str.ofString "part"))=true then (1:Int) else 0) - (if decide (V.str x=V.str (Str.ofString "done"))=true then (1:Int) else 0)=d:=fun {x} hx=>by
  have h1:¬V.str x=V.str (Str.ofString "part"):=fun z=>(k1 x hx).1 (V.str.inj z)
  have h2:¬V.str x=V.str (Str.ofString "done"):=fun z=>(k1 x hx).2 (V.str.inj z)
  rw[decide_eq_false h1,decide_eq_false h2];simp
 cases e with
 | pt n rs=>
  simp only[dp] at h
  split at h
  ·cases h
   have h2:¬V.str (kw (.pt n rs))=V.str (Str.ofString "done"):=fun z=>k2 (V.str.inj z)
   rw[decide_eq_false h2,decide_eq_true (show V.str (kw (.pt n rs))=V.str (Str.ofString "part") from rfl)]
   simp
  ·cases h
 | dn=>
  simp only[dp] at h
  split at h
  ·cases h
   have h2:¬V.str (kw .dn)=V.str (Str.ofString "part"):=fun z=>k2 (V.str.inj z).symm
   rw[decide_eq_false h2,decide_eq_true (show V.str (kw .dn)=V.str (Str.ofString "done") from rfl)]
   simp;omega
  ·cases h
 | lt a b=>cases h;exact none (by simp [kw])
 | mu l w a n r=>cases h;exact none (by simp [kw])
 | my l w a=>cases h;exact none (by simp [kw])
 | bn l w a r=>cases h;exact none (by simp [kw])
 | pw l w a r=>cases h;exact none (by simp [kw])
theorem tN {α:Type} (x:α):∀n:Nat,(List.replicate n [x]).flatten=List.replicate n x
 | 0=>rfl
 | n + 1=>by rw[List.replicate_succ,List.flatten_cons,tN x n];rfl
theorem oB {c:Int} {I:List Nat} (h:I.Nodup) (hb:∀i∈I,i < 208):(I.map fun (i:Nat)=>g6 c (i:Int)).Nodup:=by
 induction I with
 | nil=>simp
 | cons a r ih=>
  rw[List.nodup_cons] at h
  (rw[List.map_cons,List.nodup_cons])
  refine⟨fun hm=>?_,ih h.2 fun i hi=>hb i (List.mem_cons_of_mem _ hi)⟩
  obtain⟨b,hbm,e⟩:=List.mem_map.mp hm
  have ha:=hb a List.mem_cons_self
  have hb':=hb b (List.mem_cons_of_mem _ hbm)
  have:=Wn (c:=c) (k1:=b) (k2:=a) (by omega) (by omega) e
  exact h.1 (by rw[show a=b by omega];exact hbm)
noncomputable def iQ (K:PySem.W.Frag):Sp:=fun vs H Q _=>∃(a b:Addr) (c:Int) (ns:List Int),vs=[.ref a,.ref b]∧qL K H a ((NN c).map V.str)∧qL K H b (ns.map V.int)∧ns.length≤63∧∀l H' ws evs,qp H H'→H l=none→H' l=some (.lst ws)→Paired (fj H') ws evs→ZK evs→Q (.ref l) H'
section
variable {P:Program} {w:World} {K:PySem.W.Frag} {mg:Str→Option Value} {base:Heap} {t:xj}
theorem kF:qX ["_law_names","_law_script","_law_base","_law_events_here","_law_depth","_law_number","_law_event_here"] ["_law_names","_law_script"] (z6 kx):=⟨rfl,rfl,rfl,by decide +kernel,rfl,by decide +kernel,by decide +kernel⟩
set_option maxHeartbeats 400000 in
theorem oS (T:Txt K mg t):qV P w K mg base jW 3 t.bW t.bJ ["_law_names","_law_script"] (iQ K):=by
 have G_w_cell_at:qV P w K mg base jW 2 t.yj t.w6 ["_law_script","_law_k"] (eM K):=(dc T).mono (by decide)
 have G_w_event:qV P w K mg base jW 2 t.fc t.fg ["_law_names","_law_cell","_law_label","_law_depth"] (Zr K):=(ee T).mono (by decide)
 refine T.p9.fn.ok kF (fun vs H Q E h=>(by obtain⟨_,_,_,_,rfl,_⟩:=h;rfl)) (fun cdv A outer s H vs Q E hr h=>?_)
 obtain⟨a,b,c,ns,rfl,hA,hS,hl,k⟩:=h
 refine⟨_,(z8 (qQ (i:=2) kF.nd rfl (Or.inl rfl) (qw u4 (qw qI (qu G_w_cell_at hr rfl T.ju.mg T.ju.fn.kp T.ju.bd .nil qJ (z0 (pv 1) (z0 z9 z7))) z9) z9))
   (z8 (qQ (i:=3) kF.nd rfl (Or.inl rfl) (jq z7) bT)
   (z8 (qQ (i:=4) kF.nd rfl (Or.inl rfl) z9)
   (z8 (pT PassesOwn.never rfl (vH rfl T.wF (z0 (qi (qD (K:=K) rfl) rfl T.xw PySem.boot_len (z0 (xg (xn (K:=K) rfl) (pv 1) (xp z9) (xp z9)) z7)) z7)) (jy (i:=5) kF.nd rfl (Or.inl rfl))
    (z8 (qQ (i:=6) kF.nd rfl (Or.inl rfl) (qu G_w_event hr rfl T.dH.mg T.dH.fn.kp T.dH.bd .nil qJ (z0 (pv 0) (z0 (qu G_w_cell_at hr rfl T.ju.mg T.ju.fn.kp T.ju.bd .nil qJ (z0 (pv 1) (z0 (qw je z9 (pv 5)) z7))) (z0 (qf (qy (K:=K) rfl) (pv 0) (qw je (pv 2) (pv 5)) (fun _ _=>rfl)) (z0 (pv 4) z7))))))
   (z8 (qQ (i:=4) kF.nd rfl (Or.inl rfl) (qw bC (qw je (pv 4) (j0 gB rfl T.cx PyProof.Rows.boot_int (z0 (k6 jY (qf (qY (K:=K) rfl) (pv 6) z9 (fun _ _=>rfl)) qk (qZ _)) z7))) (j0 gB rfl T.cx PyProof.Rows.boot_int (z0 (k6 jY (qf (qY (K:=K) rfl) (pv 6) z9 (fun _ _=>rfl)) qk (qZ _)) z7))))
   (qz (ki (kB PySem.F.plainAttrs_list PySem.F.slot_list_append PySem.F.type_list_append vG (pv 3) (z0 (pv 6) z7)))))))
   (qz (qr (qw wy (pv 3) (qw JF (jq (z0 (xr (z0 qk z7)) z7)) (pv 4))))))))),?_⟩
 have hN:=ui c
 refine⟨_,rfl,b,2,ns,rfl,hS,by decide,?_⟩
 have b0:0≤wJ ns 2 % 2:=Int.emod_nonneg _ (by decide)
 have b1:wJ ns 2 % 2 < 2:=Int.emod_lt_of_pos _ (by decide)
 obtain⟨bs,ebs,hbs⟩:∃bs:Nat,wJ ns 2 % 2 * 22=bs∧bs≤22:=⟨(wJ ns 2 % 2 * 22).toNat,by omega,by omega⟩
 walk_at "rd"
 intro le H1 s1 hle e1
 walk_at "rd"
 intro l2 H2 s2 hl2 e2
 refine⟨l2,_,rfl,.inl (qL.of e2),?_⟩
 have hcl:(yM (ns.map V.int) (some 3) (some 63)).length≤60:=by
  show (yM (ns.map V.int) (some ((3:Nat):Int)) (some ((63:Nat):Int))).length≤60
  unfold yM
  rw[HT.fX,HT.fX,List.length_take,List.length_drop,List.length_map]
  omega
 generalize hm:(yM (ns.map V.int) (some 3) (some 63)).length=m at *
 refine⟨_,rfl,by omega,by omega,?_⟩
 have emt:((m:Int)).toNat=m:=Int.toNat_natCast m
 rw[emt]
 refine gD (lo:=0) (n:=m) (fun i σ H'=>∃(ws:List V) (evs:List Ew) (I:List Nat) (d:Nat) (v5 v6:Option V),σ=[some (.ref a),some (.ref b),some (.int bs),some (.ref le),some (.int d),v5,v6]∧qp H H'∧H' le=some (.lst ws)∧Paired (Qo le H') ws evs∧(∀e∈evs,e.ok)∧cy 0 evs=some d∧d≤6∧evs.length=i∧jC evs=I.map (fun (j:Nat)=>g6 c (j:Int))∧I.Nodup∧∀x∈I,x < bs + i)
  ⟨[],[],[],0,none,none,by rw[←ebs];rfl,s1.trans s2,s2 _ _ e1,.nil,fun _ z=>(by cases z),rfl,by omega,rfl,rfl,by simp,fun _ z=>(by cases z)⟩ ?_ ?_
 ·rintro i σ H3 hi ⟨ws,evs,I,d,v5,v6,rfl,s3,e3,hP,jx,hdp,h6,hlen,hlab,hnd,hI⟩
  have hA3:=s3.seq hA
  have hS3:=s3.seq hS
  have hm':i < m:=by omega
  walk_at "rd"
  refine⟨b,3 + (0 + (i:Int)),ns,rfl,hS3,by omega,?_⟩
  have hix:rN ((NN c).map V.str) ((bs:Int) + (0 + (i:Int)))=some (.str (g6 c ((bs + i:Nat):Int))):=by
   rw[gH (by omega) (by omega),show ((bs:Int) + (0 + (i:Int))).toNat=bs + i by omega,uo c (by omega)]
  refine⟨_,rfl,_,rfl,_,rfl,_,_,rfl,rfl,a,_,_,_,rfl,rfl,hA3,hix,?_⟩
  refine⟨_,rfl,a,c,_,_,d,rfl,hA3,(aX ns _).1,dh c,fun v e H4 s4 he hg=>?_⟩
  obtain⟨g1,g2,g3⟩:=hg
  obtain⟨d',ed⟩:=Option.isSome_iff_exists.mp g3
  have hF:Qo le H4 v e:=he le (by rw[e3];intro z;cases z)
  obtain⟨p,xs,rfl,ep,ex⟩:=hF.ev.first
  refine⟨_,rfl,_,rfl,p,_,_,_,rfl,rfl,yc.of ep,ex,?_⟩
  walk_at "rd"
  refine .inr ⟨_,rfl,?_⟩
  walk_at "rd"
  refine⟨p,_,_,_,rfl,rfl,yc.of ep,ex,?_⟩
  walk_at "rd"
  refine .inr ⟨_,rfl,?_⟩
  walk_at "rd"
  have e4:=s4 _ _ e3
  refine⟨le,_,_,rfl,rfl,e4,qv (by have:=Paired.length hP;omega),?_⟩
  intro H5 k5 e5
  have sB:qp H H5:=k5.put (s3.trans s4) hle
  have hd6:d'≤6:=YK ed h6
  refine⟨ws ++ [.ref p],evs ++ [e],if va e=[] then I else I ++ [bs + i],d',_,_,by rw[←YM ed];rfl,sB,e5,Paired.snoc (Paired.imp' (fun _ _ z=>(z.same s4).keeps k5 e4) hP) (hF.keeps k5 e4),fun x hx=>?_,by rw[ff,hdp];show (dp d e).bind _=_;rw[ed];rfl,hd6,by rw[List.length_append,hlen];rfl,?_,?_,fun x hx=>?_⟩
  ·(rcases List.mem_append.mp hx with hx | hx)
   ·exact jx x hx
   ·rw[List.mem_singleton.mp hx];exact g1
  ·rw[yY,hlab]
   have e1:jC [e]=va e:=by simp [jC]
   rw[e1]
   rcases g2 with g2 | g2
   ·rw[if_pos g2,g2,List.append_nil]
   ·rw[if_neg (by rw[g2];simp),g2,List.map_append];rfl
  ·split
   ·exact hnd
   ·rw[List.nodup_append]
    exact⟨hnd,by simp,fun x hx y hy z=>by have:=hI x hx;rw[List.mem_singleton.mp hy] at z;omega⟩
  ·split at hx
   ·have:=hI x hx;omega
   ·(rcases List.mem_append.mp hx with hx | hx)
    ·have:=hI x hx;omega
    ·rw[List.mem_singleton.mp hx];omega
 ·rintro σ H3 ⟨ws,evs,I,d,v5,v6,rfl,s3,e3,hP,jx,hdp,h6,hlen,hlab,hnd,hI⟩
  walk_at "rd"
  intro tq H4 s4 htq e4
  walk_at "rd"
  intro lq H5 s5 hlq e5
  refine⟨_,rfl,lq,(d:Int),_,rfl,rfl,e5,by omega,by omega,qv (by simp only[List.length_cons,List.length_nil,Int.toNat_natCast];omega),fun q hq=>?_⟩
  have s6:qp H5 (upd H5 q (.lst (List.replicate ((d:Nat):Int).toNat [V.ref tq]).flatten)):=qp.dE hq
  have hwl:ws.length=evs.length:=Paired.length hP
  refine⟨le,q,_,_,rfl,rfl,s6 _ _ (s5 _ _ (s4 _ _ e3)),qm,qv (by rw[len_rep];simp only[List.length_cons,List.length_nil,Int.toNat_natCast];omega),?_⟩
  intro l7 H7 s7 hl7 e7
  have sA:=(((s3.trans s4).trans s5).trans s6).trans s7
  rw[Int.toNat_natCast,tN] at e7
  refine k l7 H7 _ (evs ++ List.replicate d .dn) sA ((((s3.trans s4).trans s5).trans s6).free hl7) e7 (Paired.app (Paired.imp' (fun _ _ z=>(z.ev).same (((s4.trans s5).trans s6).trans s7)) hP) (u6 (show fj H7 (.ref tq) .dn from ⟨tq,rfl,((s5.trans s6).trans s7) _ _ e4⟩) d)) ⟨fun e he=>?_,?_,?_,?_⟩
  ·(rcases List.mem_append.mp he with he | he)
   ·exact jx e he
   ·rw[(List.mem_replicate.mp he).2];exact True.intro
  ·rw[ff,hdp];exact Q4 d
  ·rw[yY,oa,List.append_nil,hlab];exact oB hnd fun x hx=>by have:=hI x hx;omega
  ·rw[List.length_append,List.length_replicate];omega
end
theorem aG {α:Type} (f:α→V) (xs:List α) (n m:Nat) (h:n + m≤xs.length):yM (xs.map f) (some (n:Int)) (some ((n + m:Nat):Int))=((xs.drop n).take m).map f:=by
 unfold yM
 rw[HT.fX,HT.fX,List.length_map,Nat.min_eq_left (show n≤xs.length by omega),Nat.min_eq_left (show n + m≤xs.length from h),←List.map_drop,←List.map_take,Nat.add_sub_cancel_left]
theorem QB (c:Int) {n m:Nat} (h:n + m≤104):((NN c).drop n).take m=(List.range m).map fun (j:Nat)=>g6 c ((n + j:Nat):Int):=by
 apply List.ext_getElem?
 intro i
 by_cases q:i < m
 ·rw[List.getElem?_take_of_lt q,List.getElem?_drop,List.getElem?_map,List.getElem?_range q]
  unfold NN
  rw[List.getElem?_map,List.getElem?_range (by omega)]
  rfl
 ·rw[List.getElem?_eq_none_iff.mpr (by rw[List.length_take];omega),List.getElem?_eq_none_iff.mpr (by rw[List.length_map,List.length_range];omega)]
structure BK (c:Int) (ps as:List Str) (ql:List (Str × Str)):Prop where
 hd:sJ ps as ql
 ps:ps=(List.range ps.length).map fun (j:Nat)=>g6 c (j:Int)
 as:as=(List.range as.length).map fun (j:Nat)=>g6 c ((4 + j:Nat):Int)
 ql:ql.map (·.2)=(List.range ql.length).map fun (j:Nat)=>g6 c ((10 + j:Nat):Int)
theorem Jv (c:Int) {n0 n1 n2:Nat} (h0:n0≤4) (h1:n1≤6) (h2:n2≤12):((List.range n0).map (fun (j:Nat)=>g6 c (j:Int)) ++ (List.range n1).map (fun (j:Nat)=>g6 c ((4 + j:Nat):Int)) ++ (List.range n2).map (fun (j:Nat)=>g6 c ((10 + j:Nat):Int))).Nodup:=by
 have:=oB (c:=c) (I:=List.range n0 ++ (List.range n1).map (4 + ·) ++ (List.range n2).map (10 + ·)) ?_ ?_
 ·rw[List.map_append,List.map_append,List.map_map,List.map_map] at this
  exact this
 ·rw[List.nodup_append,List.nodup_append]
  refine⟨⟨List.nodup_range,?_,?_⟩,?_,?_⟩
  ·exact List.Pairwise.map _ (fun a b h z=>h (by omega)) List.nodup_range
  ·intro x hx y hy z
   obtain⟨j,_,rfl⟩:=List.mem_map.mp hy
   have:=List.mem_range.mp hx
   omega
  ·exact List.Pairwise.map _ (fun a b h z=>h (by omega)) List.nodup_range
  ·intro x hx y hy z
   obtain⟨j,_,rfl⟩:=List.mem_map.mp hy
   (rcases List.mem_append.mp hx with hx | hx)
   ·have:=List.mem_range.mp hx;omega
   ·obtain⟨j',hj',rfl⟩:=List.mem_map.mp hx
    have:=List.mem_range.mp hj'
    omega
 ·intro x hx
  (rcases List.mem_append.mp hx with hx | hx)
  ·(rcases List.mem_append.mp hx with hx | hx)
   ·have:=List.mem_range.mp hx;omega
   ·obtain⟨j',hj',rfl⟩:=List.mem_map.mp hx
    have:=List.mem_range.mp hj'
    omega
  ·obtain⟨j',hj',rfl⟩:=List.mem_map.mp hx
   have:=List.mem_range.mp hj'
   omega
noncomputable def iH (H:Hp) (p:Addr) (ps as:List Str) (ql:List (Str × Str)):Prop:=∃lp la lr vs,H p=some (.tup [.ref lp,.ref la,.ref lr])∧H lp=some (.lst (ps.map V.str))∧H la=some (.lst (as.map V.str))∧H lr=some (.lst vs)∧Paired (ka H) vs ql
theorem iH.same {H H':Hp} {p:Addr} {ps as:List Str} {ql:List (Str × Str)} (h:iH H p ps as ql) (s:qp H H'):iH H' p ps as ql:=by
 obtain⟨lp,la,lr,vs,h1,h2,h3,h4,h5⟩:=h
 exact⟨lp,la,lr,vs,s _ _ h1,s _ _ h2,s _ _ h3,s _ _ h4,Paired.imp' (fun _ _ z=>z.same s) h5⟩
noncomputable def Xw (K:PySem.W.Frag):Sp:=fun vs H Q _=>∃(a:Addr) (c cell:Int),vs=[.ref a,.int cell]∧qL K H a ((NN c).map V.str)∧0≤cell∧∀ps as ql p H',BK c ps as ql→qp H H'→H p=none→iH H' p ps as ql→Q (.ref p) H'
noncomputable def Hd:List Str:=["calm","sore","end"]
theorem YU:∀j < 3,Hd.getD j ""∈xy:=by decide +kernel
section
variable {P:Program} {w:World} {K:PySem.W.Frag} {mg:Str→Option Value} {base:Heap} {t:xj}
theorem yy:qX ["_law_names","_law_cell","_law_parties","_law_acts","_law_rooms","_law_k"] ["_law_names","_law_cell"] (z6 ky):=⟨rfl,rfl,rfl,by decide +kernel,rfl,by decide +kernel,by decide +kernel⟩
set_option maxHeartbeats 400000 in
theorem oN (T:Txt K mg t):qV P w K mg base jW 2 t.bY t.bX ["_law_names","_law_cell"] (Xw K):=by
 have G_w_mix:qV P w K mg base jW 1 t.bG t.bK ["_law_cell","_law_k"] iJ:=(du T).mono (by decide)
 refine T.fz.fn.ok yy (fun vs H Q E h=>(by obtain⟨_,_,_,rfl,_⟩:=h;rfl)) (fun cdv A outer s H vs Q E hr h=>?_)
 obtain⟨a,c,cell,rfl,hA,hc,k⟩:=h
 refine⟨_,(z8 (qQ (i:=2) yy.nd rfl (Or.inl rfl) (xg (xn (K:=K) rfl) (pv 0) vt (xp (qw je z9 (qw qI (pv 1) z9)))))
   (z8 (qQ (i:=3) yy.nd rfl (Or.inl rfl) (xg (xn (K:=K) rfl) (pv 0) (xp z9) (xp (qw je z9 (qw qI (qw ko (pv 1) z9) z9)))))
   (z8 (qQ (i:=4) yy.nd rfl (Or.inl rfl) (jq z7) bT)
   (z8 (pT PassesOwn.never rfl (vH rfl T.wF (z0 (qw je z9 (qw qI (qw ko (pv 1) z9) z9)) z7)) (jy (i:=5) yy.nd rfl (Or.inl rfl))
    (qz (ki (kB PySem.F.plainAttrs_list PySem.F.slot_list_append PySem.F.type_list_append vG (pv 4) (z0 (xr (z0 (qf (qy (K:=K) rfl) (jq (z0 qk (z0 qk (z0 qk z7)))) (qw qI (qu G_w_mix hr rfl T.jm.mg T.jm.fn.kp T.jm.bd .nil qJ (z0 (pv 1) (z0 (pv 5) z7))) z9) (fun _ _=>rfl)) (z0 (qf (qy (K:=K) rfl) (pv 0) (qw je z9 (pv 5)) (fun _ _=>rfl)) z7))) z7)))))
   (qz (qr (xr (z0 (pv 2) (z0 (pv 3) (z0 (pv 4) z7)))))))))),?_⟩
 have hN:=ui c
 have m0a:0≤cell % 4:=Int.emod_nonneg _ (by decide)
 have m0b:cell % 4 < 4:=Int.emod_lt_of_pos _ (by decide)
 have m1a:0≤cell / 4 % 6:=Int.emod_nonneg _ (by decide)
 have m1b:cell / 4 % 6 < 6:=Int.emod_lt_of_pos _ (by decide)
 have m2a:0≤cell / 24 % 12:=Int.emod_nonneg _ (by decide)
 have m2b:cell / 24 % 12 < 12:=Int.emod_lt_of_pos _ (by decide)
 obtain⟨n0,en0⟩:=Int.eq_ofNat_of_zero_le (show 0≤1 + cell % 4 by omega)
 obtain⟨n1,en1⟩:=Int.eq_ofNat_of_zero_le (show 0≤1 + cell / 4 % 6 by omega)
 obtain⟨n2,en2⟩:=Int.eq_ofNat_of_zero_le (show 0≤1 + cell / 24 % 12 by omega)
 walk_at "rd"
 intro lp H1 s1 hlp e1
 have e1':H1 lp=some (.lst (((NN c).take n0).map V.str)):=by rw[←pQ V.str (NN c) n0,←en0];exact e1
 clear e1
 have hA1:=s1.seq hA
 walk_at "rd"
 intro la H2 s2 hla e2
 have e2':H2 la=some (.lst ((((NN c).drop 4).take n1).map V.str)):=by
  rw[←aG V.str (NN c) 4 n1 (by omega),show ((4 + n1:Nat):Int)=5 + cell / 4 % 6 by omega]
  exact e2
 clear e2
 walk_at "rd"
 intro lr H3 s3 hlr e3
 walk_at "rd"
 have ent:(1 + cell / 24 % 12).toNat=n2:=by omega
 have sA:qp H H3:=(s1.trans s2).trans s3
 have hlr0:H lr=none:=(s1.trans s2).free hlr
 have ne1:lp≠lr:=qg (s2 _ _ e1') hlr
 have ne2:la≠lr:=qg e2' hlr
 refine gD (lo:=0) (n:=(1 + cell / 24 % 12).toNat) (fun i σ H'=>∃(vs:List V) (ql:List (Str × Str)) (v5:Option V),σ=[some (.ref a),some (.int cell),some (.ref lp),some (.ref la),some (.ref lr),v5]∧qp H H'∧H' lr=some (.lst vs)∧H' lp=some (.lst (((NN c).take n0).map V.str))∧H' la=some (.lst ((((NN c).drop 4).take n1).map V.str))∧Paired (ka H') vs ql∧(∀mn∈ql,fY mn)∧ql.map (·.2)=(List.range i).map (fun (j:Nat)=>g6 c ((10 + j:Nat):Int)))
  ⟨[],[],none,rfl,sA,e3,s3 _ _ (s2 _ _ e1'),s3 _ _ e2',.nil,fun _ z=>(by cases z),rfl⟩ ?_ ?_
 ·rintro i σ H4 hi ⟨vs,ql,v5,rfl,s4,e4,p4,a4,hP,h4,g4⟩
  rw[ent] at hi
  have hA4:=s4.seq hA
  have x0:0≤yT cell (0 + (i:Int)) % 3:=Int.emod_nonneg _ (by decide)
  have x1:yT cell (0 + (i:Int)) % 3 < 3:=Int.emod_lt_of_pos _ (by decide)
  have hlen:ql.length=i:=by have:=congrArg List.length g4;simpa using this
  have ei:(NN c).getD (10 + (0 + (i:Int))).toNat (Str.ofString "")=g6 c ((10 + i:Nat):Int):=by
   rw[show (10 + (0 + (i:Int))).toNat=10 + i by omega];exact uo c (by omega)
  walk_at "rd"
  intro l8 H8 s8 hl8 e8
  have e8':H8 l8=some (.lst (Hd.map V.str)):=e8
  clear e8
  have hA8:=s8.seq hA4
  refine⟨_,rfl,_,rfl,cell,_,rfl,by omega,by omega,?_⟩
  refine⟨_,_,rfl,rfl,(show (0:Int) < 3 by decide),?_⟩
  refine⟨l8,_,_,_,rfl,rfl,qL.of e8',gH x0 (show _ < (3:Int) from x1),?_⟩
  refine⟨_,rfl,_,rfl,_,_,rfl,rfl,a,_,_,_,rfl,rfl,hA8,gH (by omega) (by omega),?_⟩
  rw[ei]
  have hm:=YU (yT cell (0 + (i:Int)) % 3).toNat (by omega)
  walk_at "rd"
  intro q H9 s9 hq e9
  have e49:=s9 _ _ (s8 _ _ e4)
  refine⟨lr,_,_,rfl,rfl,e49,qv (by have:=Paired.length hP;omega),?_⟩
  intro H10 k10 e10
  have hP9:Paired (ka H9) (vs ++ [.ref q]) (ql ++ [(Hd.getD (yT cell (0 + (i:Int)) % 3).toNat "",g6 c ((10 + i:Nat):Int))]):=Paired.snoc (Paired.imp' (fun _ _ z=>z.same (s8.trans s9)) hP) ⟨q,rfl,e9⟩
  refine⟨_,_,_,rfl,k10.put ((s4.trans s8).trans s9) hlr0,e10,k10.look (s9 _ _ (s8 _ _ p4)) ne1,k10.look (s9 _ _ (s8 _ _ a4)) ne2,Paired.imp' (fun _ _ z=>z.keeps k10 e49) hP9,fun mn hmn=>?_,?_⟩
  ·(rcases List.mem_append.mp hmn with q | q)
   ·exact h4 mn q
   ·rw[List.mem_singleton.mp q];exact⟨hm,dh c⟩
  ·rw[List.map_append,g4,List.range_succ,List.map_append];rfl
 ·rintro σ H4 ⟨vs,ql,v5,rfl,s4,e4,p4,a4,hP,h4,g4⟩
  rw[ent] at g4
  have hlen:ql.length=n2:=by have:=congrArg List.length g4;simpa using this
  have lps:((NN c).take n0).length=n0:=by rw[List.length_take,hN];omega
  have las:(((NN c).drop 4).take n1).length=n1:=by rw[List.length_take,List.length_drop,hN];omega
  have e0:(NN c).take n0=(List.range n0).map fun (j:Nat)=>g6 c (j:Int):=by
   have:=QB c (n:=0) (m:=n0) (by omega)
   rw[List.drop_zero] at this
   rw[this]
   exact List.map_congr_left fun j _=>by rw[Nat.zero_add]
  have e1:=QB c (n:=4) (m:=n1) (by omega)
  have nd:=Jv c (n0:=n0) (n1:=n1) (n2:=n2) (by omega) (by omega) (by omega)
  walk_at "rd"
  intro q H5 s5 hq e5
  refine k _ _ ql q H5 ⟨⟨by omega,by omega,by omega,by omega,by omega,by omega,fun x hx=>?_,fun x hx=>?_,h4,by rw[g4,e0,e1];exact nd⟩,by rw[lps];exact e0,by rw[las];exact e1,by rw[hlen];exact g4⟩ (s4.trans s5) (s4.free hq) ⟨lp,la,lr,vs,e5,s5 _ _ p4,s5 _ _ a4,s5 _ _ e4,Paired.imp' (fun _ _ z=>z.same s5) hP⟩
  ·rw[e0] at hx
   obtain⟨j,_,rfl⟩:=List.mem_map.mp hx
   exact dh c
  ·rw[e1] at hx
   obtain⟨j,_,rfl⟩:=List.mem_map.mp hx
   exact dh c
end
theorem oJ:("let " : Str).cps.toList=("let" : Str).cps.toList ++ [32]∧(" be " : Str).cps.toList=32 :: (("be" : Str).cps.toList ++ [32])∧(" " : Str).cps.toList=[32]∧("must " : Str).cps.toList=("must" : Str).cps.toList ++ [32]∧(" by " : Str).cps.toList=32 :: (("by" : Str).cps.toList ++ [32])∧(" else " : Str).cps.toList=32 :: (("else" : Str).cps.toList ++ [32])∧("may " : Str).cps.toList=("may" : Str).cps.toList ++ [32]∧("may not " : Str).cps.toList=("may" : Str).cps.toList ++ 32 :: (("not" : Str).cps.toList ++ [32])∧("by " : Str).cps.toList=("by" : Str).cps.toList ++ [32]∧(" to " : Str).cps.toList=32 :: (("to" : Str).cps.toList ++ [32]):=by decide +kernel
theorem W3 (a b:Str):Str.ofString "let " ++ a ++ Str.ofString " be " ++ b=Ew.row (.lt a b):=by
 obtain⟨h1,h2,h3,h4,h5,h6,h7,h8,h9,h10⟩:=oJ
 refine xP ?_
 unfold Ew.row Ew.ws
 rw[join_eq,qK,qK,qK,L2.join_one,cps_append,cps_append,cps_append,h1,h2]
 simp
theorem W4 (l w a s r:Str):l ++ Str.ofString " " ++ w ++ Str.ofString " " ++ Str.ofString "must " ++ a ++ Str.ofString " by " ++ s ++ Str.ofString " else " ++ r=Txt.join " " [l,w,"must",a,"by",s,"else",r]:=by
 obtain⟨h1,h2,h3,h4,h5,h6,h7,h8,h9,h10⟩:=oJ
 refine xP ?_
 rw[join_eq,qK,qK,qK,qK,qK,qK,qK,L2.join_one,cps_append,cps_append,cps_append,cps_append,cps_append,cps_append,cps_append,cps_append,cps_append,h3,h4,h5,h6]
 simp
theorem W5 (l w a:Str):l ++ Str.ofString " " ++ w ++ Str.ofString " " ++ Str.ofString "may " ++ a=Ew.row (.my l w a):=by
 obtain⟨h1,h2,h3,h4,h5,h6,h7,h8,h9,h10⟩:=oJ
 refine xP ?_
 unfold Ew.row Ew.ws
 rw[join_eq,qK,qK,qK,L2.join_one,cps_append,cps_append,cps_append,cps_append,cps_append,h3,h7]
 simp
theorem W2 (l w a r:Str):l ++ Str.ofString " " ++ w ++ Str.ofString " " ++ Str.ofString "may not " ++ a ++ Str.ofString " else " ++ r=Ew.row (.bn l w a r):=by
 obtain⟨h1,h2,h3,h4,h5,h6,h7,h8,h9,h10⟩:=oJ
 refine xP ?_
 unfold Ew.row Ew.ws
 rw[join_eq,qK,qK,qK,qK,qK,qK,L2.join_one,cps_append,cps_append,cps_append,cps_append,cps_append,cps_append,cps_append,h3,h6,h8]
 simp
theorem W6 (l w a r:Str):l ++ Str.ofString " " ++ w ++ Str.ofString " " ++ Str.ofString "by " ++ a ++ Str.ofString " to " ++ r=Ew.row (.pw l w a r):=by
 obtain⟨h1,h2,h3,h4,h5,h6,h7,h8,h9,h10⟩:=oJ
 refine xP ?_
 unfold Ew.row Ew.ws
 rw[join_eq,qK,qK,qK,qK,qK,L2.join_one,cps_append,cps_append,cps_append,cps_append,cps_append,cps_append,cps_append,h3,h9,h10]
 simp
theorem nG {u:Str} (h:aq u):u.length≤8:=by
 rcases h with h | rfl
 ·exact(vY h).2.1
 ·decide +kernel
theorem jP {u:Str} (h:qe u=true):u.length≤8:=(vY h).2.1
noncomputable def VZ:Sp:=fun vs H Q _=>∃(v:V) (e:Ew),vs=[v]∧fj H v e∧e.ok∧∀H',qp H H'→Q (.str e.row) H'
section
variable {P:Program} {w:World} {K:PySem.W.Frag} {mg:Str→Option Value} {base:Heap} {t:xj}
theorem rX:qX ["_law_event_here","_law_head"] ["_law_event_here"] (z6 yK):=⟨rfl,rfl,rfl,by decide +kernel,rfl,by decide +kernel,by decide +kernel⟩
set_option maxHeartbeats 400000 in
theorem JH (T:Txt K mg t):qV P w K mg base jW 1 t.cI t.cN ["_law_event_here"] VZ:=by
 refine T.iV.fn.ok rX (fun vs H Q E h=>(by obtain⟨_,_,rfl,_⟩:=h;rfl)) (fun cdv A outer s H vs Q E hr h=>?_)
 obtain⟨v,e,rfl,hE,jx,k⟩:=h
 refine⟨_,(z8 (qM (qo jY (qf (qY (K:=K) rfl) (pv 0) z9 (fun _ _=>rfl)) qk (qZ _))
    (qz (qr qk)) qt)
   (z8 (qM (qo jY (qf (qY (K:=K) rfl) (pv 0) z9 (fun _ _=>rfl)) qk (qZ _))
    (qz (qr (qw qW (qw qW (qw qW qk (qf (qY (K:=K) rfl) (pv 0) z9 (fun _ _=>rfl))) qk) (qf (qY (K:=K) rfl) (pv 0) z9 (fun _ _=>rfl))))) qt)
   (z8 (qM (qo jY (qf (qY (K:=K) rfl) (pv 0) z9 (fun _ _=>rfl)) qk (qZ _))
    (qz (qr (kB PySem.F.plainAttrs_str PySem.F.slot_str_join PySem.F.type_str_join (wj (K:=K) rfl) qk (z0 (qw wy (qw wy (jq (z0 qk (z0 (qf (qY (K:=K) rfl) (pv 0) z9 (fun _ _=>rfl)) z7))) (qw JF (jq (z0 qk z7)) (j0 gB rfl T.cx PyProof.Rows.boot_int (z0 (k6 (Kn (K:=K) rfl hr.units) (qf (qY (K:=K) rfl) (pv 0) z9 (fun _ _=>rfl)) (jq z7) (qZ _)) z7)))) (qf (qY (K:=K) rfl) (pv 0) z9 (fun _ _=>rfl))) z7)))) qt)
   (z8 (qQ (i:=1) rX.nd rfl (Or.inl rfl) (qw qW (qw qW (qw qW (qf (qY (K:=K) rfl) (pv 0) z9 (fun _ _=>rfl)) qk) (qf (qY (K:=K) rfl) (pv 0) z9 (fun _ _=>rfl))) qk))
   (z8 (qM (qo jY (qf (qY (K:=K) rfl) (pv 0) z9 (fun _ _=>rfl)) qk (qZ _))
    (z8 (qQ (i:=1) rX.nd rfl (Or.inl rfl) (qw qW (qw qW (qw qW (pv 1) qk) (qf (qY (K:=K) rfl) (pv 0) z9 (fun _ _=>rfl))) qk))
   (qz (qr (qw qW (qw qW (qw qW (pv 1) (j0 sU rfl T.Vk PyProof.Rows.boot_str (z0 (qf (qY (K:=K) rfl) (pv 0) z9 (fun _ _=>rfl)) z7))) qk) (qf (qY (K:=K) rfl) (pv 0) z9 (fun _ _=>rfl)))))) qt)
   (z8 (qM (qo jY (qf (qY (K:=K) rfl) (pv 0) z9 (fun _ _=>rfl)) qk (qZ _))
    (qz (qr (qw qW (qw qW (pv 1) qk) (qf (qY (K:=K) rfl) (pv 0) z9 (fun _ _=>rfl))))) qt)
   (z8 (qM (qo jY (qf (qY (K:=K) rfl) (pv 0) z9 (fun _ _=>rfl)) qk (qZ _))
    (qz (qr (qw qW (qw qW (qw qW (qw qW (pv 1) qk) (qf (qY (K:=K) rfl) (pv 0) z9 (fun _ _=>rfl))) qk) (qf (qY (K:=K) rfl) (pv 0) z9 (fun _ _=>rfl))))) qt)
   (qz (qr (qw qW (qw qW (qw qW (qw qW (pv 1) qk) (qf (qY (K:=K) rfl) (pv 0) z9 (fun _ _=>rfl))) qk) (qf (qY (K:=K) rfl) (pv 0) z9 (fun _ _=>rfl)))))))))))),?_⟩
 cases e with
 | dn=>
  obtain⟨p,rfl,ep⟩:=hE
  have:=k H (qp.refl _)
  rw[fb] at this
  walk_at "rd"
  exact this
 | lt a b=>
  obtain⟨p,rfl,ep⟩:=hE
  have:=k H (qp.refl _)
  rw[←W3] at this
  have l1:=jP jx.1
  have l2:=jP jx.2
  walk_at "rd"
  exact this
 | mu l w a n r=>
  obtain⟨p,rfl,ep⟩:=hE
  have:=k H (qp.refl _)
  have er:Ew.row (.mu l w a n r)=_:=(W4 l w a (Str.ofString (toString n)) r).symm
  rw[er] at this
  have l1:=jP jx.1
  have l2:=jP jx.2.1
  have l3:=jP jx.2.2.1
  have l4:=jP jx.2.2.2.2.2
  have n1:=jx.2.2.2.1
  have n2:=jx.2.2.2.2.1
  have l5:=(tX n1 n2).2.2.2
  have l6:=Z1 (n:=n) (by omega) (by omega)
  walk_at "rd"
  exact this
 | my l w a=>
  obtain⟨p,rfl,ep⟩:=hE
  have:=k H (qp.refl _)
  rw[←W5] at this
  have l1:=jP jx.1
  have l2:=nG jx.2.1
  have l3:=jP jx.2.2
  walk_at "rd"
  exact this
 | bn l w a r=>
  obtain⟨p,rfl,ep⟩:=hE
  have:=k H (qp.refl _)
  rw[←W2] at this
  have l1:=jP jx.1
  have l2:=nG jx.2.1
  have l3:=jP jx.2.2.1
  have l4:=jP jx.2.2.2
  walk_at "rd"
  exact this
 | pw l w a r=>
  obtain⟨p,rfl,ep⟩:=hE
  have:=k H (qp.refl _)
  rw[←W6] at this
  have l1:=jP jx.1
  have l2:=nG jx.2.1
  have l3:=jP jx.2.2.1
  have l4:=jP jx.2.2.2
  walk_at "rd"
  exact this
 | pt n rs=>
  obtain⟨p,q,rfl,ep,eq⟩:=hE
  have hl12:=jx.2.2
  walk_at "rd"
  intro l1 H1 s1 hl1 e1
  walk_at "rd"
  intro l2 H2 s2 hl2 e2
  walk_at "rd"
  intro l3 H3 s3 hl3 e3
  have sh:SeqAt.shaped (.list (rs.map PyData.str))=true:=yg fun y hy=>(uS (jx.2.1 y hy)).ok
  have sh0:SeqAt.shaped (.list (([]:List Str).map PyData.str))=true:=yg (xs:=[]) fun y hy=>by cases hy
  have eq3:=s3 _ _ (s2 _ _ (s1 _ _ eq))
  refine⟨_,_,sX.lst (qL.of eq3) (bf.strs rs),sX.lst (qL.of e3) (bf.strs []),sh,sh0,?_⟩
  rw[ow]
  refine .inr ⟨_,rfl,?_⟩
  have eb:(if (if true=true then !decide (rs=[]) else decide (rs=[]))=true then (1:Int) else 0)=((if rs=[] then 0 else 1:Nat):Int):=by by_cases z:rs=[]<;>simp [z]
  rw[eb]
  have hm:(if rs=[] then 0 else 1:Nat)≤1:=by split<;>decide
  have ew:(Ew.ws (.pt n rs))=(["part",n]:List Str) ++ List.replicate (if rs=[] then 0 else 1:Nat) ("in" : Str) ++ rs:=by cases rs<;>rfl
  generalize (if rs=[] then 0 else 1:Nat)=m at *
  refine⟨l2,_,_,rfl,rfl,s3 _ _ e2,by omega,by omega,qv (by simp only[List.length_cons,List.length_nil,Int.toNat_natCast];omega),fun q4 hq4=>?_⟩
  have s4:qp H3 (upd H3 q4 (.lst (List.replicate ((m:Nat):Int).toNat [V.str (Str.ofString "in")]).flatten)):=qp.dE hq4
  have e13:=s4 _ _ (s3 _ _ (s2 _ _ e1))
  refine⟨l1,q4,_,_,rfl,rfl,e13,qm,qv (by rw[len_rep];simp only[List.length_cons,List.length_nil,Int.toNat_natCast];omega),?_⟩
  intro l5 H5 s5 hl5 e5
  rw[Int.toNat_natCast,tN] at e5
  have ep5:=s5 _ _ (s4 _ _ (s3 _ _ (s2 _ _ (s1 _ _ ep))))
  have eq5:=s5 _ _ (s4 _ _ eq3)
  walk_at "rd"
  refine⟨l5,q,_,_,rfl,rfl,e5,eq5,qv (by simp only[List.length_append,List.length_cons,List.length_nil,List.length_replicate,List.length_map];omega),?_⟩
  intro l6 H6 s6 hl6 e6
  have e6':H6 l6=some (.lst ((Ew.ws (.pt n rs)).map V.str)):=by
   rw[e6,ew,List.map_append,List.map_append,List.map_replicate]
   rfl
  have ht:=d9 (n:=20) (ws:=Ew.ws (.pt n rs)) fun x hx=>(Ew.wk jx x hx).2
  have hwl:(Ew.ws (.pt n rs)).length≤15:=by rw[ew];simp only[List.length_append,List.length_cons,List.length_nil,List.length_replicate];omega
  walk_at "rd"
  refine⟨_,l6,_,rfl,rfl,qL.of e6',by rw[tO];omega,?_⟩
  exact k H6 (((((s1.trans s2).trans s3).trans s4).trans s5).trans s6)
end
structure GX (ps as:List Str) (ql:List (Str × Str)):Prop where
 p1:1≤ps.length
 p2:ps.length≤4
 a1:1≤as.length
 a2:as.length≤6
 r2:ql.length≤12
 pn:∀x∈ps,qe x=true
 an:∀x∈as,qe x=true
 rn:∀mn∈ql,fY mn
theorem sJ.w {ps as:List Str} {ql:List (Str × Str)} (h:sJ ps as ql):GX ps as ql:=⟨h.p1,h.p2,h.a1,h.a2,h.r2,h.pn,h.an,h.rn⟩
theorem oh {x y:Str} (e:y.cps.toList=x.cps.toList ++ [32]) {ns:List Str} (h:ns≠[]):y ++ Txt.join " " ns=j7 (x :: ns):=by
 obtain⟨a,r,rfl⟩:=List.exists_cons_of_ne_nil h
 refine xP ?_
 unfold j7
 rw[cps_append,join_eq,join_eq,qK,e]
 simp
theorem Ju:("parties " : Str).cps.toList=("parties" : Str).cps.toList ++ [32]∧("acts " : Str).cps.toList=("acts" : Str).cps.toList ++ [32]∧(" " : Str).cps.toList=[32]∧("sore " : Str).cps.toList=("sore" : Str).cps.toList ++ [32]:=by decide +kernel
theorem W0 (m n:Str):m ++ Str.ofString " " ++ n=wK (m,n):=by
 refine xP ?_
 unfold wK j7
 rw[cps_append,cps_append,join_eq,qK,L2.join_one,Ju.2.2.1]
 simp
theorem Paired.Ku {α β:Type} {F:α→β→Prop} {a:α}:∀{xs:List α} {ys:List β} {i:Nat},Paired F xs ys→xs[i]?=some a→∃b,ys[i]?=some b∧F a b
 | _ :: _,_ :: _,0,.cons h t,e=>by cases e;exact⟨_,rfl,h⟩
 | _ :: _,_ :: _,i + 1,.cons h t,e=>Paired.Ku (i:=i) t e
theorem take_snoc {α:Type} {xs:List α} {i:Nat} {b:α} (h:xs[i]?=some b):xs.take (i + 1)=xs.take i ++ [b]:=by
 rw[List.take_succ,h];rfl
theorem Qk (ps as:List Str) (ql:List (Str × Str)) (e1 e2:List Ew):rowsOf ps as ql (e1 ++ e2)=rowsOf ps as ql e1 ++ e2.map Ew.row:=by unfold rowsOf;simp
theorem KU (ps as:List Str) (ql:List (Str × Str)) (mn:Str × Str):rowsOf ps as (ql ++ [mn]) []=rowsOf ps as ql [] ++ [wK mn]:=by unfold rowsOf;simp
theorem kh {ps as:List Str} {ql:List (Str × Str)} {evs:List Ew}:(rowsOf ps as ql evs).length=2 + ql.length + evs.length:=by unfold rowsOf;simp only[List.length_cons,List.length_append,List.length_map];omega
theorem ib:∀{ws:List V} {evs:List Ew} {H:Hp} {ys:List V},Paired (fj H) ws evs→ys.length=ws.length→(∀(i:Nat) (v:V) (e:Ew),evs[i]?=some e→ys[i]?=some v→v=.str e.row)→ys=(evs.map Ew.row).map V.str
 | [],[],_,ys,_,hl,_=>by cases ys with | nil=>rfl | cons a r=>simp at hl
 | _ :: ws,e :: evs,H,ys,.cons h t,hl,hv=>by
  cases ys with
  | nil=>simp at hl
  | cons y r=>
   rw[hv 0 y e rfl rfl,ib t (by simpa using hl) fun i v e' h1 h2=>hv (i + 1) v e' h1 h2]
   rfl
noncomputable def Xd (K:PySem.W.Frag):Sp:=fun vs H Q _=>∃(p l:Addr) (ps as:List Str) (ql:List (Str × Str)) (ws:List V) (evs:List Ew),vs=[.ref p,.ref l]∧iH H p ps as ql∧GX ps as ql∧qL K H l ws∧Paired (fj H) ws evs∧(∀e∈evs,e.ok)∧evs.length≤150∧∀lr H',qp H H'→H lr=none→H' lr=some (.lst ((rowsOf ps as ql evs).map V.str))→Q (.ref lr) H'
section
variable {P:Program} {w:World} {K:PySem.W.Frag} {mg:Str→Option Value} {base:Heap} {t:xj}
theorem fK:qX ["_law_header_here","_law_events_here","_law_rows_here","_law_mark","_law_name_here"] ["_law_header_here","_law_events_here"] (z6 vd):=⟨rfl,rfl,rfl,by decide +kernel,rfl,by decide +kernel,by decide +kernel⟩
set_option maxHeartbeats 400000 in
theorem Z8 (T:Txt K mg t):qV P w K mg base jW 2 t.mO t.mL ["_law_header_here","_law_events_here"] (Xd K):=by
 have G_w_row:qV P w K mg base jW 1 t.cI t.cN ["_law_event_here"] VZ:=(JH T).mono (by decide)
 refine T.kM.fn.ok fK (fun vs H Q E h=>(by obtain⟨_,_,_,_,_,_,_,rfl,_⟩:=h;rfl)) (fun cdv A outer s H vs Q E hr h=>?_)
 obtain⟨p,l,ps,as,ql,ws,evs,rfl,hH,hW,hL,hP,jx,hlen,k⟩:=h
 refine⟨_,(z8 (qQ (i:=2) fK.nd rfl (Or.inl rfl) (jq (z0 (qw qW qk (kB PySem.F.plainAttrs_str PySem.F.slot_str_join PySem.F.type_str_join (wj (K:=K) rfl) qk (z0 (qf (qY (K:=K) rfl) (pv 0) z9 (fun _ _=>rfl)) z7))) (z0 (qw qW qk (kB PySem.F.plainAttrs_str PySem.F.slot_str_join PySem.F.type_str_join (wj (K:=K) rfl) qk (z0 (qf (qY (K:=K) rfl) (pv 0) z9 (fun _ _=>rfl)) z7))) z7))) bT)
   (z8 (pT PassesOwn.never rfl (wc (K:=K) rfl (qf (qY (K:=K) rfl) (pv 0) z9 (fun _ _=>rfl))) (yQ (K:=K) rfl rfl (jF (jy (i:=3) fK.nd rfl (Or.inl rfl)) (jF (jy (i:=4) fK.nd rfl (Or.inl rfl)) yJ)))
    (qz (ki (kB PySem.F.plainAttrs_list PySem.F.slot_list_append PySem.F.type_list_append vG (pv 2) (z0 (qw qW (qw qW (pv 3) qk) (pv 4)) z7)))))
   (qz (qr (qw wy (pv 2) (pL (osc:=z6 vd) (N:=["_law_header_here","_law_events_here","_law_rows_here","_law_mark","_law_name_here"]) (names:=[]) (qC:=[]) rfl rfl rfl ⟨rfl,by decide +kernel,by decide +kernel,by decide +kernel,rfl,rfl,by decide +kernel,by decide +kernel⟩ (wc (K:=K) rfl (pv 1)) (fun _ _ _=>(qu G_w_row hr rfl T.iV.mg T.iV.fn.kp T.iV.bd .nil qJ (z0 (pv 0) z7))))))))),?_⟩
 obtain⟨lp,la,lr,vs,ep,elp,ela,elr,hR⟩:=hH
 have tp:=d9 (n:=8) (ws:=ps) fun x hx=>(vY (hW.pn x hx)).2.1
 have ta:=d9 (n:=8) (ws:=as) fun x hx=>(vY (hW.an x hx)).2.1
 have p1:=hW.p1;have p2:=hW.p2;have a1:=hW.a1;have a2:=hW.a2;have r2:=hW.r2
 have tp':(8 + 1) * ps.length≤9 * 4:=by omega
 have ta':(8 + 1) * as.length≤9 * 6:=by omega
 have j1:(Txt.join (Str.ofString " ") ps).length≤36:=by have:=uh ps;exact Nat.le_trans this (by omega)
 have j2:(Txt.join (Str.ofString " ") as).length≤54:=by have:=uh as;exact Nat.le_trans this (by omega)
 have w1:(Str.ofString "parties ").length=8:=by decide +kernel
 have w2:(Str.ofString "acts ").length=5:=by decide +kernel
 have np:ps≠[]:=fun z=>by rw[z] at p1;simp at p1
 have na:as≠[]:=fun z=>by rw[z] at a1;simp at a1
 walk_at "rd"
 refine⟨_,lp,ps,rfl,rfl,qL.of elp,by rw[tO];omega,?_⟩
 refine⟨_,_,rfl,rfl,qv (by omega),?_⟩
 rw[show Str.ofString "parties " ++ Txt.join (Str.ofString " ") ps=j7 ("parties" :: ps) from oh Ju.1 np]
 walk_at "rd"
 refine⟨_,la,as,rfl,rfl,qL.of ela,by rw[tO];omega,?_⟩
 refine⟨_,_,rfl,rfl,qv (by omega),?_⟩
 rw[show Str.ofString "acts " ++ Txt.join (Str.ofString " ") as=j7 ("acts" :: as) from oh Ju.2.1 na]
 refine⟨qv (by show 2≤1000;decide),?_⟩
 intro lq H1 s1 hlq e1
 have hvl:vs.length=ql.length:=Paired.length hR
 have hwl:ws.length=evs.length:=Paired.length hP
 have ep1:=s1 _ _ ep
 walk_at "rd"
 refine uJ (K:=K) (a:=lr) (xs:=vs) (fun i σ H'=>∃v3 v4:Option V,σ=[some (.ref p),some (.ref l),some (.ref lq),v3,v4]∧qp H H'∧H' lq=some (.lst ((rowsOf ps as (ql.take i) []).map V.str)))
  ⟨none,none,rfl,s1,e1⟩ (fun i σ H' _ ⟨_,_,_,q,_⟩=>qL.of (q _ _ elr)) ?_ ?_
 ·rintro i y σ H2 hi ⟨v3,v4,rfl,s2,e2⟩
  obtain⟨mn,hmn,q,rfl,eq⟩:=Paired.Ku hR hi
  have hi':i < ql.length:=(List.getElem?_eq_some_iff.mp hmn).1
  have hm:=hW.rn mn (List.mem_of_getElem? hmn)
  have eq2:=s2 _ _ eq
  have g1:=(uq _ hm.1).2.2.1
  have g2:=(vY hm.2).2.1
  refine⟨q,_,rfl,yc.of eq2,rfl,_,_,rfl,_,_,rfl,rfl,?_⟩
  walk_at "rd"
  have hrl:=@kh ps as (ql.take i) []
  refine⟨lq,_,_,rfl,rfl,e2,qv (by rw[List.length_map,hrl,List.length_take];simp only[List.length_nil];omega),?_⟩
  intro H3 k3 e3
  refine⟨_,_,rfl,k3.put s2 hlq,?_⟩
  rw[e3,W0,take_snoc hmn,KU,List.map_append]
  rfl
 ·rintro σ H2 ⟨v3,v4,rfl,s2,e2⟩
  rw[hvl,List.take_length] at e2
  walk_at "rd"
  have hL2:=s2.seq hL
  have hP2:Paired (fj H2) ws evs:=Paired.imp' (fun _ _ z=>z.same s2) hP
  refine gP (yB hL2) (fun i _ v=>∀e,evs[i]?=some e→v=.str e.row) (qv (by omega)) ?_ ?_
  ·intro i y H' Q' hy s' kk
   obtain⟨e,he,hE⟩:=Paired.Ku hP2 hy
   refine⟨_,rfl,y,e,rfl,hE.same s',jx e (List.mem_of_getElem? he),fun H4 s4=>kk _ _ s4 fun e' h'=>?_⟩
   rw[he] at h'
   cases h'
   rfl
  intro D H3 ys s3 hD e3 hlen3 hp
  have eys:=ib hP2 hlen3 fun i v e h1 h2=>by
   have hi:i < ws.length:=by
    have:=(List.getElem?_eq_some_iff.mp h1).1
    omega
   exact hp i _ v (List.getElem?_eq_getElem hi) h2 e h1
  subst eys
  have hrl:=@kh ps as ql []
  refine⟨lq,D,_,_,rfl,rfl,s3 _ _ e2,e3,qv (by rw[List.length_map,hrl,List.length_map,List.length_map];simp only[List.length_nil];omega),?_⟩
  intro l4 H4 s4 hl4 e4
  refine k l4 H4 ((s2.trans s3).trans s4) ((s2.trans s3).free hl4) ?_
  have:=Qk ps as ql [] evs
  rw[List.nil_append] at this
  rw[e4,this,List.map_append]
end
theorem bz:∀{ws:List Str},(∀x∈ws,59∉x.cps.toList)→59∉(j7 ws).cps.toList
 | [],_=>by unfold j7;decide +kernel
 | [x],h=>by unfold j7;rw[join_eq,L2.join_one];exact h x (by simp)
 | x :: y :: r,h=>by
  have ih:=bz (ws:=y :: r) fun z hz=>h z (List.mem_cons_of_mem _ hz)
  unfold j7 at ih ⊢
  rw[join_eq] at ih ⊢
  rw[qK]
  intro hm
  (rcases List.mem_append.mp hm with hm | hm)
  ·exact h x (by simp) hm
  ·rcases List.mem_cons.mp hm with hm | hm
   ·cases hm
   ·exact ih hm
theorem jw {x:Str} (h:qe x=true):59∉x.cps.toList:=fun hc=>by
 have h':=h
 unfold qe at h'
 rw[Bool.and_eq_true] at h'
 have:¬59∈qT.cps.toList:=by decide +kernel
 exact this ((rR h'.1).2.2 59 hc)
theorem nV {n:Nat}:∀{xs:List Str},(∀x∈xs,x.length≤n)→(xs.map (·.length)).sum≤n * xs.length
 | [],_=>by simp
 | x :: r,h=>by
  have h1:=h x (by simp)
  have h2:=nV (n:=n) (xs:=r) fun y hy=>h y (List.mem_cons_of_mem _ hy)
  rw[List.map_cons,List.sum_cons,List.length_cons,Nat.mul_add]
  omega
theorem gI:∀x∈lits,59∉x.cps.toList∧x.length≤8:=by decide +kernel
theorem lC:∀x∈(["done","parties","acts"]:List Str),59∉x.cps.toList∧x.length≤8:=by decide +kernel
theorem JK {n:Int} (h1:1≤n):59∉(Str.ofString (toString n)).cps.toList:=by
 obtain⟨m,rfl⟩:=Int.eq_ofNat_of_zero_le (show 0≤n by omega)
 have e:=PySem.W.KIN.signs_num m
 intro hc
 rw[e] at hc
 obtain⟨ch,hch,e2⟩:=List.mem_map.mp hc
 have:=Nat.isDigit_of_mem_toDigits (b:=10) (by decide) (by decide) hch
 simp [Char.isDigit] at this
 have h2:ch.toNat≤57:=this.2
 have e3:ch.toNat=59:=e2
 omega
theorem Yb {u:Str} (h:aq u):59∉u.cps.toList:=by
 rcases h with h | rfl
 ·exact jw h
 ·exact(gI _ (by simp [lits])).1
theorem lf {x:Str} (h:x∈lits):59∉x.cps.toList:=(gI x h).1
theorem Ew.free {e:Ew} (h:e.ok):∀x∈e.ws,59∉x.cps.toList:=by
 intro x hx
 cases e with
 | lt a b=>
  simp only[Ew.ws,List.mem_cons,List.not_mem_nil,or_false] at hx
  rcases hx with rfl | rfl | rfl | rfl
  ·exact lf (by simp [lits])
  ·exact jw h.1
  ·exact lf (by simp [lits])
  ·exact jw h.2
 | mu l w a n r=>
  simp only[Ew.ws,List.mem_cons,List.not_mem_nil,or_false] at hx
  rcases hx with rfl | rfl | rfl | rfl | rfl | rfl | rfl | rfl
  ·exact jw h.1
  ·exact jw h.2.1
  ·exact lf (by simp [lits])
  ·exact jw h.2.2.1
  ·exact lf (by simp [lits])
  ·exact JK h.2.2.2.1
  ·exact lf (by simp [lits])
  ·exact jw h.2.2.2.2.2
 | my l w a=>
  simp only[Ew.ws,List.mem_cons,List.not_mem_nil,or_false] at hx
  rcases hx with rfl | rfl | rfl | rfl
  ·exact jw h.1
  ·exact Yb h.2.1
  ·exact lf (by simp [lits])
  ·exact jw h.2.2
 | bn l w a r=>
  simp only[Ew.ws,List.mem_cons,List.not_mem_nil,or_false] at hx
  rcases hx with rfl | rfl | rfl | rfl | rfl | rfl | rfl
  ·exact jw h.1
  ·exact Yb h.2.1
  ·exact lf (by simp [lits])
  ·exact lf (by simp [lits])
  ·exact jw h.2.2.1
  ·exact lf (by simp [lits])
  ·exact jw h.2.2.2
 | pw l w a r=>
  simp only[Ew.ws,List.mem_cons,List.not_mem_nil,or_false] at hx
  rcases hx with rfl | rfl | rfl | rfl | rfl | rfl
  ·exact jw h.1
  ·exact Yb h.2.1
  ·exact lf (by simp [lits])
  ·exact jw h.2.2.1
  ·exact lf (by simp [lits])
  ·exact jw h.2.2.2
 | dn=>
  simp only[Ew.ws,List.mem_cons,List.not_mem_nil,or_false] at hx
  rw[hx];exact(lC _ (by simp)).1
 | pt n rs=>
  cases rs with
  | nil=>
   simp only[Ew.ws,List.mem_cons,List.not_mem_nil,or_false] at hx
   rcases hx with rfl | rfl
   ·exact lf (by simp [lits])
   ·exact jw h.1
  | cons y rs=>
   simp only[Ew.ws] at hx
   (rcases List.mem_cons.mp hx with rfl | hx)
   ·exact lf (by simp [lits])
   (rcases List.mem_cons.mp hx with rfl | hx)
   ·exact jw h.1
   (rcases List.mem_cons.mp hx with rfl | hx)
   ·exact lf (by simp [lits])
   ·exact jw (h.2.1 x hx)
structure cH (x:Str):Prop where
 fr:59∉x.cps.toList
 sh:x.length≤180
theorem ug {ws:List Str} (h:∀x∈ws,x.length≤8) (hl:ws.length≤20):(j7 ws).length≤180:=by
 have h1:(j7 ws).length≤iK ws:=uh ws
 have h2:=d9 (n:=8) (ws:=ws) h
 omega
theorem Ew.HV {e:Ew} (h:e.ok):cH e.row:=by
 refine⟨bz (Ew.free h),?_⟩
 have h1:e.row.length≤iK e.ws:=uh e.ws
 by_cases q:e.ws.length≤8
 ·have h2:=d9 (n:=20) (ws:=e.ws) fun x hx=>(Ew.wk h x hx).2
  omega
 cases e with
 | pt n rs=>
  cases rs with
  | nil=>exact absurd (by simp [Ew.ws]) q
  | cons y rs=>
   refine ug (ws:=(Ew.pt n (y :: rs)).ws) (fun x hx=>?_) ?_
   ·simp only[Ew.ws] at hx
    (rcases List.mem_cons.mp hx with rfl | hx)
    ·exact(gI _ (by simp [lits])).2
    (rcases List.mem_cons.mp hx with rfl | hx)
    ·exact jP h.1
    (rcases List.mem_cons.mp hx with rfl | hx)
    ·exact(gI _ (by simp [lits])).2
    ·exact jP (h.2.1 x hx)
   ·have:=h.2.2
    simp only[Ew.ws,List.length_cons] at this ⊢
    omega
 | dn=>exact absurd (by simp [Ew.ws]) q
 | lt a b=>exact absurd (by simp [Ew.ws]) q
 | mu l w a n r=>exact absurd (by simp [Ew.ws]) q
 | my l w a=>exact absurd (by simp [Ew.ws]) q
 | bn l w a r=>exact absurd (by simp [Ew.ws]) q
 | pw l w a r=>exact absurd (by simp [Ew.ws]) q
theorem aA {x:Str} {ns:List Str} (hx:x∈(["done","parties","acts"]:List Str)) (hn:∀y∈ns,qe y=true) (hl:ns.length≤6):cH (j7 (x :: ns)):=by
 have key:∀y∈x :: ns,59∉y.cps.toList∧y.length≤8:=fun y hy=>by
  (rcases List.mem_cons.mp hy with rfl | hy)
  ·exact lC _ hx
  ·exact⟨jw (hn y hy),jP (hn y hy)⟩
 exact⟨bz fun y hy=>(key y hy).1,ug (fun y hy=>(key y hy).2) (by simp only[List.length_cons];omega)⟩
theorem Gz {mn:Str × Str} (h:fY mn):cH (wK mn):=by
 have key:∀y∈[mn.1,mn.2],59∉y.cps.toList∧y.length≤8:=fun y hy=>by
  simp only[List.mem_cons,List.not_mem_nil,or_false] at hy
  rcases hy with rfl | rfl
  ·have:=uq _ h.1;exact⟨this.2.1,by omega⟩
  ·exact⟨jw h.2,jP h.2⟩
 exact⟨bz fun y hy=>(key y hy).1,ug (fun y hy=>(key y hy).2) (by simp)⟩
theorem ub {ps as:List Str} {ql:List (Str × Str)} {evs:List Ew} (h:GX ps as ql) (he:∀e∈evs,e.ok):∀x∈rowsOf ps as ql evs,cH x:=by
 intro x hx
 unfold rowsOf at hx
 (rcases List.mem_cons.mp hx with rfl | hx)
 ·exact aA (by simp) h.pn (by have:=h.p2;omega)
 (rcases List.mem_cons.mp hx with rfl | hx)
 ·exact aA (by simp) h.an (by have:=h.a2;omega)
 (rcases List.mem_append.mp hx with hx | hx)
 ·obtain⟨mn,hmn,rfl⟩:=List.mem_map.mp hx
  exact Gz (h.rn mn hmn)
 ·obtain⟨e,hee,rfl⟩:=List.mem_map.mp hx
  exact Ew.HV (he e hee)
theorem Zd {ps as:List Str} {ql:List (Str × Str)} {evs:List Ew} {d:Nat} (h:sJ ps as ql) (he:∀e∈evs,e.ok) (hd:cy 0 evs=some d) (hn:(jC evs).Nodup) (hl:evs.length≤76) :
  (d=0→∃r,jr (rowsOf ps as ql evs)=.ok r)∧(0 < d→jr (rowsOf ps as ql evs)=.error (rowsOf ps as ql evs).length):=by
 have h6:=h.r2
 obtain⟨fr,e1,l1⟩:=eW (i:=2 + ql.length) (fr:=[("whole",[],[])]) (ls:=[]) hd rfl (by decide) (by simpa using hn) (by omega)
 rw[KD h he,nU he,e1]
 match fr,l1 with
 | [(a,b,c)],l1=>exact⟨fun _=>⟨_,rfl⟩,fun q=>by simp only[List.length_cons,List.length_nil] at l1;omega⟩
 | f :: g :: r,l1=>exact⟨fun q=>by simp only[List.length_cons] at l1;omega,fun _=>rfl⟩
section
variable {P:Program} {w:World} {K:PySem.W.Frag} {mg:Str→Option Value} {base:Heap} {t:xj}
end
noncomputable def xC (ps as:List Str) (ql:List (Str × Str)):List Str:=j7 ("parties" :: ps) :: j7 ("acts" :: as) :: ql.map wK
theorem wB (ps as:List Str) (ql:List (Str × Str)) (evs:List Ew):rowsOf ps as ql evs=xC ps as ql ++ evs.map Ew.row:=by unfold rowsOf xC;simp
theorem rk {taken tl:List Str} (ht:∀y∈tl.head?,vB (xR y)=none):∀{ql found:List (Str × Str)},(∀mn∈ql,fY mn)→(taken ++ (found ++ ql).map (·.2)).Nodup→found.length + ql.length≤12→
  jd taken found (ql.map wK ++ tl)=if found ++ ql=[] then .error 2 else .ok (found ++ ql)
 | [],found,_,_,hf=>by
  rw[List.map_nil,List.nil_append,List.append_nil]
  cases tl with
  | nil=>simp only[jd]
  | cons e r=>
   rw[jd,ht e (by simp)]
 | mn :: r,found,hr,hnd,hf=>by
  have e:found ++ mn :: r=(found ++ [mn]) ++ r:=by simp
  rw[e] at hnd
  rw[List.map_cons,List.cons_append,jd,da (hr mn List.mem_cons_self)]
  dsimp only
  have hnd1:(taken ++ (found ++ [mn]).map (·.2)).Nodup:=by
   rw[List.map_append,←List.append_assoc] at hnd
   exact(List.nodup_append.mp hnd).1
  simp only[List.length_cons] at hf
  rw[if_neg (fun z=>z.elim (fun z=>by omega) (fun z=>z hnd1)),rk ht (fun x hx=>hr x (List.mem_cons_of_mem _ hx)) hnd (by rw[List.length_append];simp only[List.length_cons,List.length_nil];omega),e]
theorem ij {ps as tl:List Str} {ql:List (Str × Str)} (h:sJ ps as ql) (ht:∀y∈tl.head?,vB (xR y)=none) :
  jr (xC ps as ql ++ tl)=match Q8 (xC ps as ql ++ tl).length (kX (2 + ql.length) tl [("whole",[],[])] []) with
   | .error n=>.error n
   | .ok rw=>.ok (ps,as,ql,rw):=by
 have e0:xR (wd (xC ps as ql ++ tl) 0)=("parties" : Str) :: ps:=yh (by simp) h.pn
 have e1:xR (wd (xC ps as ql ++ tl) 1)=("acts" : Str) :: as:=yh (by simp) h.an
 have hlen:(xC ps as ql ++ tl).length=2 + ql.length + tl.length:=by unfold xC;simp only[List.length_cons,List.length_append,List.length_map];omega
 have nd:=h.nd
 have nd2:(ps ++ as).Nodup:=(List.nodup_append.mp nd).1
 have nd1:ps.Nodup:=(List.nodup_append.mp nd2).1
 have h1:=h.p1;have h2:=h.p2;have h3:=h.a1;have h4:=h.a2;have h5:=h.r1;have h6:=h.r2
 have nps:ps≠[]:=fun z=>by rw[z] at h1;simp at h1
 have nas:as≠[]:=fun z=>by rw[z] at h3;simp at h3
 have nrm:ql≠[]:=fun z=>by rw[z] at h5;simp at h5
 have hn0:ji (xC ps as ql ++ tl) 0 "parties" 4 []=some ps:=by
  unfold ji
  rw[if_neg (by omega),e0]
  dsimp only
  rw[xI h.p1 h.pn (by omega),if_neg (fun z=>z.elim nps (fun z=>z (by simpa using nd1)))]
 have hn1:ji (xC ps as ql ++ tl) 1 "acts" 6 ps=some as:=by
  unfold ji
  rw[if_neg (by omega),e1]
  dsimp only
  rw[xI h.a1 h.an (by omega),if_neg (fun z=>z.elim nas (fun z=>z nd2))]
 have hrr:jd (ps ++ as) [] ((xC ps as ql ++ tl).drop 2)=.ok ql:=by
  have:=rk (taken:=ps ++ as) ht (ql:=ql) (found:=[]) h.rn (by simpa using nd) (by simpa using h6)
  rw[List.nil_append,if_neg nrm] at this
  exact this
 have hdrop:(xC ps as ql ++ tl).drop (2 + ql.length)=tl:=by
  have:(xC ps as ql).length=2 + ql.length:=by unfold xC;simp only[List.length_cons,List.length_map];omega
  rw[←this,List.drop_left]
 unfold jr
 rw[hn0]
 dsimp only
 rw[hn1]
 dsimp only
 rw[hrr]
 dsimp only
 unfold fq
 rw[hdrop]
 all_goals (cases Q8 (xC ps as ql ++ tl).length (kX (2 + ql.length) tl [("whole",[],[])] [])<;>rfl)
theorem nC {tl:List Str}:∀{evs:List Ew} {i:Nat} {fr fr':List Fr} {ls:List Str},(∀e∈evs,e.ok)→eV i evs fr ls=.ok fr'→∃ls',kX i (evs.map Ew.row ++ tl) fr ls=kX (i + evs.length) tl fr' ls'
 | [],i,fr,fr',ls,_,h=>by cases h;exact⟨ls,rfl⟩
 | e :: r,i,fr,fr',ls,ho,h=>by
  rw[List.map_cons,List.cons_append,kX,Ew.takes (ho e List.mem_cons_self)]
  rw[eV] at h
  by_cases q:i=90
  ·rw[if_pos q] at h;cases h
  rw[if_neg q] at h ⊢
  cases hk:e.take fr ls with
  | none=>rw[hk] at h;cases h
  | some p=>
   rw[hk] at h
   obtain⟨f1,l1⟩:=p
   dsimp only at h ⊢
   obtain⟨ls',z⟩:=nC (tl:=tl) (fun x hx=>ho x (List.mem_cons_of_mem _ hx)) h
   exact⟨ls',by rw[z,List.length_cons,show i + 1 + r.length=i + (r.length + 1) by omega]⟩
theorem JA {ps as rest:List Str} {ql:List (Str × Str)} {evs:List Ew} {d:Nat} {x:Str} (h:sJ ps as ql) (he:∀e∈evs,e.ok) (hd:cy 0 evs=some d) (hn:(jC evs).Nodup) (hl:evs.length≤76) (hr:evs=[]→vB (xR x)=none) (ht:∀(fr:List Fr) (ls:List Str),fr.length=d + 1→yb fr ls x=none) :
  jr (rowsOf ps as ql evs ++ x :: rest)=.error (rowsOf ps as ql evs).length:=by
 have h6:=h.r2
 obtain⟨fr,e1,l1⟩:=eW (i:=2 + ql.length) (fr:=[("whole",[],[])]) (ls:=[]) hd rfl (by decide) (by simpa using hn) (by omega)
 obtain⟨ls',e2⟩:=nC (tl:=x :: rest) he e1
 have hhd:∀y∈(evs.map Ew.row ++ x :: rest).head?,vB (xR y)=none:=fun y hy=>by
  cases evs with
  | nil=>simp at hy;rw[←hy];exact hr rfl
  | cons e r=>simp at hy;rw[←hy];exact rj (he e List.mem_cons_self)
 rw[kh,wB,List.append_assoc,ij h hhd,e2,kX]
 by_cases q:2 + ql.length + evs.length=90
 ·rw[if_pos q];rfl
 ·rw[if_neg q,ht fr ls' l1];rfl
structure Yt (x:Str):Prop where
 p:jM (xR x) "parties" 4=[]
 a:jM (xR x) "acts" 6=[]
 r:vB (xR x)=none
 t:∀(fr:List Fr) (ls:List Str),yb fr ls x=none
theorem Ql {x:Str} (hd:¬x = "done") (h:Q7 (xR x)) (fr:List Fr) (ls:List Str):yb fr ls x=none:=by
 obtain⟨h1,h2,h3,h4⟩:=h
 unfold yb
 rw[if_neg hd]
 simp only[h1,h2,h3,h4]
theorem VO {x:Str} {ks:List Nat} (r:gW ks (xR x)) (hT:oP ks=true) (hd:¬x = "done") (hp:jM (xR x) "parties" 4=[]) (ha:jM (xR x) "acts" 6=[]):Yt x:=by
 have he:=r.empty hT
 exact⟨hp,ha,he.2.2.2,Ql hd he⟩
section
variable {P:Program} {w:World} {K:PySem.W.Frag} {mg:Str→Option Value} {base:Heap} {t:xj}
end
theorem XR.free {l:List Nat} (h:59∉l):XR l:=fun j e _=>h (List.mem_of_getElem? e)
theorem Xc {ws:List Str} (h:ws≠[]) (hb:∀x∈ws,32∉x.cps.toList):xR (j7 ws)=ws:=dW h hb
theorem uN {x:Str} {ws:List Str} {y:Str} {m:Int} (h:xR x=ws) (hn:¬wd ws 0=y):jM (xR x) y m=[]:=by
 unfold jM
 rw[h,if_pos (.inl hn)]
theorem lE {x:Str} {ws:List Str} {y:Str} {m:Int} (h:xR x=ws) (hn:gz (ws.drop 1) m=false):jM (xR x) y m=[]:=by
 unfold jM
 rw[h,if_pos (.inr hn)]
theorem XI {ks:List Nat} {ws:List Str} (hne:ws≠[]) (hb:∀x∈ws,32∉x.cps.toList) (r:gW ks ws) (hT:oP ks=true) (hd:ws≠[("done" : Str)]) (hh:¬wd ws 0 = "parties"∧¬wd ws 0 = "acts"∨∀m,gz (ws.drop 1) m=false):Yt (j7 ws):=by
 have hs:=Xc hne hb
 refine VO (ks:=ks) (by rw[hs];exact r) hT (fun z=>hd ?_) ?_ ?_
 ·have e:xR "done" = [("done" : Str)]:=by decide +kernel
  rw[z,e] at hs
  exact hs.symm
 ·rcases hh with h | h
  ·exact uN hs h.1
  ·exact lE hs (h 4)
 ·rcases hh with h | h
  ·exact uN hs h.2
  ·exact lE hs (h 6)
section
variable {P:Program} {w:World} {K:PySem.W.Frag} {mg:Str→Option Value} {base:Heap} {t:xj}
end
theorem Hx:(Str.ofString "may").cps.toList=[109,97,121]:=by decide +kernel
structure Wq (k:Nat) (x:Str):Prop where
 rt:Rt k x
 nb:32∉x.cps.toList
 fr:59∉x.cps.toList
 le:x.length≤8
theorem Py {x:Str} {k:Nat} (h:lits[k]?=some x):Wq (k + 3) x:=⟨rl h,(Zx x (List.mem_of_getElem? h)).2.1,(gI x (List.mem_of_getElem? h)).1,(gI x (List.mem_of_getElem? h)).2⟩
theorem ax:∀{ks:List Nat} {ws:List Str},Paired Wq ks ws→gW ks ws∧∀x∈ws,32∉x.cps.toList∧59∉x.cps.toList∧x.length≤8
 | _,_,.nil=>⟨.nil,fun _ z=>by cases z⟩
 | _,_,.cons r t=>⟨.cons r.rt (ax t).1,fun x hx=>(List.mem_cons.mp hx).elim (fun e=>by rw[e];exact⟨r.nb,r.fr,r.le⟩) ((ax t).2 x)⟩
structure Bh (x:Str):Prop where
 bad:Yt x
 Pu:XR x.cps.toList
 sh:x.length≤380
theorem Kr {ks:List Nat} {ws:List Str} (h:Paired Wq ks ws) (hne:ws≠[]) (hl:ws.length≤20) (hT:oP ks=true) (hd:ws≠[("done" : Str)]) (hh:¬wd ws 0 = "parties"∧¬wd ws 0 = "acts"∨∀m,gz (ws.drop 1) m=false):Bh (j7 ws):=by
 obtain⟨r,hw⟩:=ax h
 exact⟨XI hne (fun x hx=>(hw x hx).1) r hT hd hh,XR.free (bz fun x hx=>(hw x hx).2.1),Nat.le_trans (ug (fun x hx=>(hw x hx).2.2) hl) (by decide)⟩
theorem Hn {a b:Str} (ha:qe a=true) (hb:qe b=true):Bh ((Str.ofString "may")):=by
 have e:(Str.ofString "may")=j7 [("may" : Str)]:=by
  refine xP ?_
  unfold j7
  rw[join_eq]
  simp only[qK,L2.join_one,cps_append,Hx]
 rw[e]
 refine Kr (ks:=[5]) (.cons (Py (k:=2) rfl) .nil) (by simp) (by simp) (by decide) (fun z=>absurd (List.cons.inj z).1 (show ¬("may" : Str) = "done" by decide +kernel)) (.inl (show ¬("may" : Str) = "parties"∧¬("may" : Str) = "acts" by decide +kernel))
section
variable {P:Program} {w:World} {K:PySem.W.Frag} {mg:Str→Option Value} {base:Heap} {t:xj}
end
theorem y8:("part " : Str).cps.toList=("part" : Str).cps.toList ++ [32]∧32∉("part" : Str).cps.toList∧("part" : Str).cps.toList.length=4∧32∉("done" : Str).cps.toList:=by decide +kernel
noncomputable def GF (x:Str):Bool:=decide (x.cps.toList.take 5=("part " : Str).cps.toList)
noncomputable def Z9 (d:Int) (x:Str):Int:=d + (if GF x=true then 1 else 0) - (if x = "done" then 1 else 0)
theorem ig (x y:Str) (r:List Str):∃R,(j7 (x :: y :: r)).cps.toList=x.cps.toList ++ 32 :: R:=⟨_,by unfold j7;rw[join_eq,qK]⟩
theorem J4 (x y:Str) (r:List Str):¬j7 (x :: y :: r) = "done":=fun z=>by
 obtain⟨R,e⟩:=ig x y r
 rw[z] at e
 exact y8.2.2.2 (by rw[e];simp)
theorem a8 {x:Str} (y:Str) (r:List Str) (hx:32∉x.cps.toList):GF (j7 (x :: y :: r))=decide (x = "part"):=by
 obtain⟨R,e⟩:=ig x y r
 unfold GF
 rw[e]
 by_cases q:x = "part"
 ·subst q
  rw[decide_eq_true rfl]
  refine decide_eq_true ?_
  rw[y8.1,List.take_append,List.take_of_length_le (by rw[y8.2.2.1];decide),y8.2.2.1]
  rfl
 ·rw[decide_eq_false q]
  refine decide_eq_false fun z=>q (xP ?_)
  have h1:=List.take_append_drop 5 (x.cps.toList ++ 32 :: R)
  rw[z,y8.1,List.append_assoc] at h1
  exact(uf y8.2.1 hx h1).1.symm
theorem bD {d:Int} {x:Str} (y:Str) (r:List Str) (hx:32∉x.cps.toList) (hp:¬x = "part"):Z9 d (j7 (x :: y :: r))=d:=by
 unfold Z9
 rw[a8 y r hx,decide_eq_false hp,if_neg (J4 x y r)]
 simp
theorem oI {d:Int} (y:Str) (r:List Str):Z9 d (j7 ("part" :: y :: r))=d + 1:=by
 unfold Z9
 rw[a8 y r y8.2.1,decide_eq_true rfl,if_neg (J4 _ y r)]
 simp
theorem JP {d:Int}:Z9 d "done" = d - 1:=by
 have h:GF "done" = false:=by decide +kernel
 unfold Z9
 rw[h,if_pos rfl]
 simp
theorem ux {x:Str} (h:qe x=true):¬x = "part":=fun z=>by
 have:qe "part" = false:=by decide +kernel
 rw[z,this] at h
 cases h
theorem WX {d d':Nat} {e:Ew} (h:e.ok) (hd:dp d e=some d'):Z9 (d:Int) e.row=(d':Nat):=by
 cases e with
 | pt n rs=>
  simp only[dp] at hd
  split at hd
  ·cases hd
   cases rs with
   | nil=>exact oI n []
   | cons y rs=>exact oI n _
  ·cases hd
 | dn=>
  simp only[dp] at hd
  split at hd
  ·cases hd
   rw[fb,JP];omega
  ·cases hd
 | lt a b=>cases hd;exact bD (x:="let") _ _ (tm _ (by simp)).1 (by decide +kernel)
 | mu l w a n r=>cases hd;exact bD _ _ (fo h.1) (ux h.1)
 | my l w a=>cases hd;exact bD _ _ (fo h.1) (ux h.1)
 | bn l w a r=>cases hd;exact bD _ _ (fo h.1) (ux h.1)
 | pw l w a r=>cases hd;exact bD _ _ (fo h.1) (ux h.1)
theorem aS:∀{evs:List Ew} {d d':Nat},(∀e∈evs,e.ok)→cy d evs=some d'→(evs.map Ew.row).foldl Z9 (d:Int)=(d':Nat)
 | [],d,d',_,h=>by cases h;rfl
 | e :: r,d,d',ho,h=>by
  rw[cy] at h
  cases hd:dp d e with
  | none=>rw[hd] at h;cases h
  | some d1=>
   rw[hd,Option.bind_some] at h
   rw[List.map_cons,List.foldl_cons,WX (ho e List.mem_cons_self) hd]
   exact aS (fun x hx=>ho x (List.mem_cons_of_mem _ hx)) h
theorem aT {d:Int}:∀{ql:List (Str × Str)},(∀mn∈ql,fY mn)→(ql.map wK).foldl Z9 d=d
 | [],_=>rfl
 | mn :: r,h=>by
  have hm:=h mn List.mem_cons_self
  have g:=uq _ hm.1
  rw[List.map_cons,List.foldl_cons,show Z9 d (wK mn)=d from bD _ _ g.1 g.2.2.2.1]
  exact aT fun x hx=>h x (List.mem_cons_of_mem _ hx)
theorem oO {d:Int} {x:Str} {ns:List Str} (hx:x∈(["parties","acts"]:List Str)) (hn:1≤ns.length):Z9 d (j7 (x :: ns))=d:=by
 have key:∀x∈(["parties","acts"]:List Str),32∉x.cps.toList∧¬x = "part":=by decide +kernel
 match ns,hn with
 | y :: r,_=>exact bD y r (key x hx).1 (key x hx).2
section
variable {P:Program} {w:World} {K:PySem.W.Frag} {mg:Str→Option Value} {base:Heap} {t:xj}
end
theorem aC {e1 e2:List Ew} {d d':Nat} (h:cy d (e1 ++ e2)=some d'):∃d1,cy d e1=some d1:=by
 rw[ff] at h
 cases q:cy d e1 with
 | none=>rw[q] at h;cases h
 | some d1=>exact⟨d1,rfl⟩
theorem d0 (ps as:List Str) (ql:List (Str × Str)) (evs:List Ew):rowsOf ps as ql evs≠[]:=by unfold rowsOf;simp
theorem BL {ps as:List Str} {ql:List (Str × Str)} {evs:List Ew} {d:Nat} (h:sJ ps as ql) (he:∀e∈evs,e.ok) (hd:cy 0 evs=some d):(rowsOf ps as ql evs).foldl Z9 0=(d:Int):=by
 unfold rowsOf
 rw[List.foldl_cons,oO (by simp) h.p1,List.foldl_cons,oO (by simp) h.a1,List.foldl_append,aT h.rn]
 exact aS (d:=0) he hd
theorem Gh {ps as:List Str} {ql:List (Str × Str)} {evs:List Ew} (hd:sJ ps as ql) (he:ZK evs) {k:Nat} (hk:k≤(rowsOf ps as ql evs).length) {x:Str} {rest:List Str}
  (hp:k=0→jM (xR x) "parties" 4=[]) (ha:k=1→jM (xR x) "acts" 6=[]) (hr:2≤k→k≤2 + ql.length→vB (xR x)=none)
  (ht:3≤k→∀(d:Nat),((rowsOf ps as ql evs).take k).foldl Z9 0=(d:Int)→∀(fr:List Fr) (ls:List Str),fr.length=d + 1→yb fr ls x=none) :
  jr ((rowsOf ps as ql evs).take k ++ x :: rest)=.error k:=by
 have h1:=hd.p1;have h3:=hd.a1
 have nps:ps≠[]:=fun z=>by rw[z] at h1;simp at h1
 have nas:as≠[]:=fun z=>by rw[z] at h3;simp at h3
 have nd2:(ps ++ as).Nodup:=(List.nodup_append.mp hd.nd).1
 have nd1:ps.Nodup:=(List.nodup_append.mp nd2).1
 have n0:∀tl:List Str,ji (j7 ("parties" :: ps) :: tl) 0 "parties" 4 []=some ps:=fun tl=>by
  have e0:xR (wd (j7 ("parties" :: ps) :: tl) 0)=("parties" : Str) :: ps:=yh (by simp) hd.pn
  unfold ji
  rw[if_neg (by simp),e0]
  dsimp only
  rw[xI hd.p1 hd.pn (by have:=hd.p2;omega),if_neg (fun z=>z.elim nps (fun z=>z (by simpa using nd1)))]
 have n1:∀tl:List Str,ji (j7 ("parties" :: ps) :: j7 ("acts" :: as) :: tl) 1 "acts" 6 ps=some as:=fun tl=>by
  have e1:xR (wd (j7 ("parties" :: ps) :: j7 ("acts" :: as) :: tl) 1)=("acts" : Str) :: as:=yh (by simp) hd.an
  unfold ji
  rw[if_neg (by simp),e1]
  dsimp only
  rw[xI hd.a1 hd.an (by have:=hd.a2;omega),if_neg (fun z=>z.elim nas (fun z=>z nd2))]
 match k,hk,hp,ha,hr,ht with
 | 0,_,hp,_,_,_=>
  rw[List.take_zero,List.nil_append]
  have e:ji (x :: rest) 0 "parties" 4 []=none:=by
   unfold ji
   rw[if_neg (by simp)]
   exact if_pos (.inl (hp rfl))
  unfold jr
  rw[e]
 | 1,_,_,ha,_,_=>
  show jr (j7 ("parties" :: ps) :: x :: rest)=_
  have e:ji (j7 ("parties" :: ps) :: x :: rest) 1 "acts" 6 ps=none:=by
   unfold ji
   rw[if_neg (by simp)]
   exact if_pos (.inl (ha rfl))
  unfold jr
  rw[n0]
  dsimp only
  rw[e]
 | 2,_,_,_,hr,_=>
  show jr (j7 ("parties" :: ps) :: j7 ("acts" :: as) :: x :: rest)=_
  unfold jr
  rw[n0]
  dsimp only
  rw[n1]
  dsimp only
  show (match jd (ps ++ as) [] (x :: rest) with | .error n=>_ | .ok ql=>_)=_
  rw[jd,hr (by decide) (by omega)]
  rfl
 | j + 3,hk,_,_,hr,ht=>
  have hl:=@kh ps as ql evs
  have e:(rowsOf ps as ql evs).take (j + 3)=rowsOf ps as (ql.take (j + 1)) (evs.take (j + 1 - ql.length)):=by
   unfold rowsOf
   rw[List.take_succ_cons,List.take_succ_cons,List.take_append,List.length_map,List.map_take,List.map_take]
  have hev:=List.take_append_drop (j + 1 - ql.length) evs
  have hdp:=he.dp
  rw[←hev] at hdp
  obtain⟨d,ed⟩:=aC hdp
  have hnd:=he.nd
  rw[←hev,yY] at hnd
  have hrm:=List.take_append_drop (j + 1) ql
  have hnd2:=hd.nd
  rw[←hrm,List.map_append,←List.append_assoc] at hnd2
  have r1:=hd.r1;have r2:=hd.r2;have len:=he.len
  have hd':sJ ps as (ql.take (j + 1)):=⟨hd.p1,hd.p2,hd.a1,hd.a2,by rw[List.length_take];omega,by rw[List.length_take];omega,hd.pn,hd.an,fun mn hm=>hd.rn mn (List.mem_of_mem_take hm),(List.nodup_append.mp hnd2).1⟩
  have he':∀e∈evs.take (j + 1 - ql.length),e.ok:=fun x hx=>he.ok x (List.mem_of_mem_take hx)
  have hop:=BL hd' he' ed
  rw[←e] at hop
  have:=JA (x:=x) (rest:=rest) hd' he' ed (List.nodup_append.mp hnd).1 (by rw[List.length_take];omega) (fun q=>hr (by omega) ?_) (ht (by omega) d hop)
  ·rw[←e,List.length_take,Nat.min_eq_left hk] at this
   exact this
  ·have:=congrArg List.length q
   rw[List.length_take,List.length_nil] at this
   omega
theorem sd {ps as:List Str} {ql:List (Str × Str)} {evs:List Ew} (hd:sJ ps as ql) (he:ZK evs) {k:Nat} (hk:k≤(rowsOf ps as ql evs).length) {x:Str} {rest:List Str} (hx:Yt x):jr ((rowsOf ps as ql evs).take k ++ x :: rest)=.error k:=
 Gh hd he hk (fun _=>hx.p) (fun _=>hx.a) (fun _ _=>hx.r) fun _ _ _ fr ls _=>hx.t fr ls
section
variable {P:Program} {w:World} {K:PySem.W.Frag} {mg:Str→Option Value} {base:Heap} {t:xj}
end
theorem WZ {l:List Str} {i j:Nat} (h1:i < j) (h2:j < l.length) (e:l[i]?=l[j]?):¬l.Nodup:=fun q=>by
 have h:=List.pairwise_iff_getElem.mp q i j (by omega) h2 h1
 rw[List.getElem?_eq_getElem (by omega),List.getElem?_eq_getElem h2] at e
 exact h (Option.some.inj e)
theorem Zw:Yt (Str.ofString "may"):=(Hn (a:=g6 0 0) (b:=g6 0 0) (dh 0) (dh 0)).bad
structure Fa (L:List Str) (r:Nat):Prop where
 lt:r < L.length
 len:L.length≤100
 ok:∀x∈L,cH x
 bad:∀k,r < k→∀rest,jr (L.take k ++ rest)=.error r
 may:∀k,k≤r→∀rest,jr (L.take k ++ Str.ofString "may" :: rest)=.error k
theorem aR {L G:List Str} {r:Nat} (lt:r < L.length) (len:L.length≤100) (ok:∀x∈L,cH x) (hp:L.take r=G.take r) (hx:∀rest,jr (L.take (r + 1) ++ rest)=.error r) (hm:∀k,k≤r→∀rest,jr (G.take k ++ Str.ofString "may" :: rest)=.error k):Fa L r:=by
 refine⟨lt,len,ok,fun k hk rest=>?_,fun k hk rest=>?_⟩
 ·have e:L.take k=L.take (r + 1) ++ (L.take k).drop (r + 1):=by
   have h1:=List.take_append_drop (r + 1) (L.take k)
   rw[List.take_take,Nat.min_eq_left (by omega)] at h1
   exact h1.symm
  rw[e,List.append_assoc]
  exact hx _
 ·have e:L.take k=G.take k:=by
   have h1:=congrArg (List.take k) hp
   rw[List.take_take,List.take_take,Nat.min_eq_left hk] at h1
   exact h1
  rw[e]
  exact hm k hk rest
theorem V7:ZK []:=⟨fun _ z=>(by cases z),rfl,by simp [jC],by simp⟩
theorem Xs {e:Ew} {x:Str} {fr:List Fr} {ls:List Str} (h1:x∈va e) (h2:x∈ls):e.take fr ls=none:=by
 cases e with
 | lt a b=>cases h1
 | dn=>cases h1
 | mu l w a n r=>rw[List.mem_singleton.mp h1] at h2;exact if_pos h2
 | my l w a=>rw[List.mem_singleton.mp h1] at h2;exact if_pos h2
 | bn l w a r=>rw[List.mem_singleton.mp h1] at h2;exact if_pos h2
 | pw l w a r=>rw[List.mem_singleton.mp h1] at h2;exact if_pos h2
 | pt n rs=>rw[List.mem_singleton.mp h1] at h2;exact if_pos (.inr h2)
theorem lY {tl:List Str}:∀{evs:List Ew} {i d d':Nat} {fr:List Fr} {ls:List Str},(∀e∈evs,e.ok)→cy d evs=some d'→fr.length=d + 1→d≤6→(ls ++ jC evs).Nodup→i + evs.length≤90→∃fr',kX i (evs.map Ew.row ++ tl) fr ls=kX (i + evs.length) tl fr' (ls ++ jC evs)
 | [],i,d,d',fr,ls,_,h,hf,_,_,_=>⟨fr,by simp [jC]⟩
 | e :: r,i,d,d',fr,ls,ho,h,hf,h6,hn,hi=>by
  rw[cy] at h
  cases hd:dp d e with
  | none=>rw[hd] at h;cases h
  | some d1=>
   rw[hd,Option.bind_some] at h
   have el:jC (e :: r)=va e ++ jC r:=by simp [jC]
   rw[el] at hn ⊢
   have hnl:∀x∈va e,x∉ls:=fun x hx q=>(List.nodup_append.mp hn).2.2 x q x (List.mem_append_left _ hx) rfl
   obtain⟨fr1,e1,l1,h61⟩:=ZZ hd hf h6 hnl
   rw[←List.append_assoc] at hn ⊢
   obtain⟨fr',z⟩:=lY (tl:=tl) (i:=i + 1) (fun x hx=>ho x (List.mem_cons_of_mem _ hx)) h l1 h61 hn (by simp only[List.length_cons] at hi;omega)
   refine⟨fr',?_⟩
   simp only[List.length_cons] at hi
   rw[List.map_cons,List.cons_append,kX,if_neg (by omega),Ew.takes (ho e List.mem_cons_self),e1]
   dsimp only
   rw[z,List.length_cons,show i + 1 + r.length=i + (r.length + 1) by omega]
theorem J0 {ps as rest:List Str} {ql:List (Str × Str)} {evs:List Ew} {d:Nat} {e:Ew} {x:Str} (h:sJ ps as ql) (he:∀e∈evs,e.ok) (hd:cy 0 evs=some d) (hn:(jC evs).Nodup) (hl:evs.length≤75) (ho:e.ok) (h1:x∈va e) (h2:x∈jC evs) :
  jr (rowsOf ps as ql evs ++ e.row :: rest)=.error (rowsOf ps as ql evs).length:=by
 have h6:=h.r2
 obtain⟨fr,e2⟩:=lY (tl:=e.row :: rest) (i:=2 + ql.length) (fr:=[("whole",[],[])]) (ls:=[]) he hd rfl (by decide) (by simpa using hn) (by omega)
 have hhd:∀y∈(evs.map Ew.row ++ e.row :: rest).head?,vB (xR y)=none:=fun y hy=>by
  cases evs with
  | nil=>simp [jC] at h2
  | cons e r=>simp at hy;rw[←hy];exact rj (he e List.mem_cons_self)
 rw[kh,wB,List.append_assoc,ij h hhd,e2,kX,if_neg (by omega),Ew.takes ho,Xs h1 (by simpa using h2)]
 rfl
theorem iN (ps as:List Str) (ql:List (Str × Str)):(xC ps as ql).length=2 + ql.length:=by unfold xC;simp only[List.length_cons,List.length_map];omega
theorem d6 (ps as:List Str) (ql:List (Str × Str)) (evs:List Ew) (i:Nat):(rowsOf ps as ql evs).take (2 + ql.length + i)=rowsOf ps as ql (evs.take i):=by
 rw[wB,wB,List.take_append,iN,List.take_of_length_le (by rw[iN];omega),show 2 + ql.length + i - (2 + ql.length)=i by omega,List.map_take]
theorem Xj {α:Type} {l:List α} {i:Nat} (h:i < l.length) (a:α):(l.set i a).take i=l.take i∧(l.set i a).take (i + 1)=l.take i ++ [a]:=by
 have hl:(l.take i).length=i:=by rw[List.length_take];omega
 rw[List.set_eq_take_append_cons_drop,if_pos h]
 constructor
 ·rw[List.take_append,hl,Nat.sub_self,List.take_zero,List.append_nil,List.take_of_length_le (by omega)]
 ·rw[List.take_append,hl,Nat.add_sub_cancel_left,List.take_of_length_le (by omega)]
  rfl
theorem Wz {ps as:List Str} {ql:List (Str × Str)} {evs:List Ew} {i:Nat} {e:Ew} {x:Str} (h:sJ ps as ql) (he:ZK evs) (hi:i < evs.length) (ho:e.ok) (h1:x∈va e) (h2:x∈jC (evs.take i)):Fa (rowsOf ps as ql (evs.set i e)) (2 + ql.length + i):=by
 have hl:=@kh ps as ql (evs.set i e)
 rw[List.length_set] at hl
 have h6:=h.r2
 have hel:=he.len
 obtain⟨t1,t2⟩:=Xj hi e
 have jx:∀q∈evs.set i e,q.ok:=fun q hq=>(List.mem_or_eq_of_mem_set hq).elim (he.ok q) (fun z=>by rw[z];exact ho)
 have hev:=List.take_append_drop i evs
 have hdp:=he.dp
 rw[←hev] at hdp
 obtain⟨d,ed⟩:=aC hdp
 have hnd:=he.nd
 rw[←hev,yY] at hnd
 refine aR (G:=rowsOf ps as ql evs) (by omega) (by omega) (ub h.w jx) (by rw[d6,d6,t1]) (fun rest=>?_) (fun k hk rest=>sd h he (by rw[kh];omega) Zw)
 rw[Nat.add_assoc (2 + ql.length),d6,t2]
 have e1:rowsOf ps as ql (evs.take i ++ [e]) ++ rest=rowsOf ps as ql (evs.take i) ++ e.row :: rest:=by
  rw[wB,wB,List.map_append];simp
 have:=J0 (rest:=rest) h (fun q hq=>he.ok q (List.mem_of_mem_take hq)) ed (List.nodup_append.mp hnd).1 (by rw[List.length_take];omega) ho h1 h2
 rw[e1,this,kh,List.length_take,Nat.min_eq_left (by omega)]
theorem iy {taken tl:List Str}:∀{ql found:List (Str × Str)},(∀mn∈ql,fY mn)→(taken ++ (found ++ ql).map (·.2)).Nodup→found.length + ql.length≤12→jd taken found (ql.map wK ++ tl)=jd taken (found ++ ql) tl
 | [],found,_,_,_=>by rw[List.map_nil,List.nil_append,List.append_nil]
 | mn :: r,found,hr,hnd,hf=>by
  have e:found ++ mn :: r=(found ++ [mn]) ++ r:=by simp
  rw[e] at hnd
  rw[List.map_cons,List.cons_append,jd,da (hr mn List.mem_cons_self)]
  dsimp only
  have hnd1:(taken ++ (found ++ [mn]).map (·.2)).Nodup:=by
   rw[List.map_append,←List.append_assoc] at hnd
   exact(List.nodup_append.mp hnd).1
  simp only[List.length_cons] at hf
  rw[if_neg (fun z=>z.elim (fun z=>by omega) (fun z=>z hnd1)),iy (fun x hx=>hr x (List.mem_cons_of_mem _ hx)) hnd (by rw[List.length_append];simp only[List.length_cons,List.length_nil];omega),e]
section
variable {P:Program} {w:World} {K:PySem.W.Frag} {mg:Str→Option Value} {base:Heap} {t:xj}
end
noncomputable def xh (ps as:List Str) (ql:List (Str × Str)):List Str:=ps ++ as ++ ql.map (·.2)
noncomputable def eK (ql:List (Str × Str)) (q:Nat) (t:List Str):List (Str × Str):=(List.range ql.length).map fun k=>((ql.getD k ("","")).1,wd t (q + k))
noncomputable def lx (np na j:Nat):Nat:=if j < np then 0 else if j < np + na then 1 else 2 + (j - (np + na))
theorem bj (ps as:List Str) (ql:List (Str × Str)):(xh ps as ql).length=ps.length + as.length + ql.length:=by unfold xh;rw[List.length_append,List.length_append,List.length_map]
theorem bR (ql:List (Str × Str)) (q:Nat) (t:List Str):(eK ql q t).length=ql.length:=by unfold eK;rw[List.length_map,List.length_range]
theorem uy {ql:List (Str × Str)} {q k:Nat} {t:List Str} (h:k < ql.length):(eK ql q t)[k]?=some (ql[k].1,wd t (q + k)):=by
 unfold eK
 rw[List.getElem?_map,List.getElem?_range h,Option.map_some,List.getD_eq_getElem?_getD,List.getElem?_eq_getElem h]
 rfl
theorem mK {t:List Str} {k:Nat} (h:k < t.length):wd t k=t[k]:=by
 unfold wd
 rw[List.getD_eq_getElem?_getD,List.getElem?_eq_getElem h]
 rfl
theorem Qs {ps as:List Str} {ql:List (Str × Str)} {k:Nat} (h:k < ql.length):(xh ps as ql)[ps.length + as.length + k]?=some ql[k].2:=by
 unfold xh
 rw[List.getElem?_append_right (by rw[List.length_append];omega),List.length_append,Nat.add_sub_cancel_left,List.getElem?_map,List.getElem?_eq_getElem h]
 rfl
section
variable {ps as:List Str} {ql:List (Str × Str)} {i j:Nat}
theorem eP {t:List Str} {m:Nat} {a:Str} (h:m≤j):(t.set j a).take m=t.take m:=by
 rw[List.take_set,List.set_eq_of_length_le (by rw[List.length_take];omega)]
theorem KN {t:List Str} {m:Nat} (h1:i < j) (h2:j < m) (h3:j < t.length) (hm:m≤t.length):¬((t.set j (wd t i)).take m).Nodup:=by
 refine WZ h1 (by rw[List.length_take,List.length_set];omega) ?_
 rw[List.getElem?_take_of_lt (by omega),List.getElem?_take_of_lt h2,List.getElem?_set_ne (by omega),List.getElem?_set_self h3,mK (by omega),List.getElem?_eq_getElem (by omega)]
theorem mX (h:sJ ps as ql):∀x∈xh ps as ql,qe x=true:=fun x hx=>by
 unfold xh at hx
 (rcases List.mem_append.mp hx with hx | hx)
 ·exact(List.mem_append.mp hx).elim (h.pn x) (h.an x)
 ·obtain⟨mn,hm,rfl⟩:=List.mem_map.mp hx
  exact(h.rn mn hm).2
theorem Qb (h:sJ ps as ql) (hi:i < (xh ps as ql).length):∀x∈(xh ps as ql).set j (wd (xh ps as ql) i),qe x=true:=fun x hx=>
 (List.mem_or_eq_of_mem_set hx).elim (mX h x) fun z=>by rw[z,mK hi];exact mX h _ (List.getElem_mem _)
theorem aE (h:sJ ps as ql) (hi:i < (xh ps as ql).length) {t:List Str} (ht:t=(xh ps as ql).set j (wd (xh ps as ql) i)):GX (t.take ps.length) ((t.drop ps.length).take as.length) (eK ql (ps.length + as.length) t):=by
 have hn:∀x∈t,qe x=true:=by rw[ht];exact Qb h hi
 have hl:t.length=ps.length + as.length + ql.length:=by rw[ht,List.length_set,bj]
 have p1:=h.p1;have p2:=h.p2;have a1:=h.a1;have a2:=h.a2;have r1:=h.r1;have r2:=h.r2
 refine⟨?_,?_,?_,?_,?_,fun x hx=>hn x (List.mem_of_mem_take hx),fun x hx=>hn x (List.mem_of_mem_drop (List.mem_of_mem_take hx)),fun mn hmn=>?_⟩
 all_goals first
  | (rw[List.length_take,List.length_drop];omega)
  | (rw[List.length_take];omega)
  | (rw[bR];omega)
  | skip
 obtain⟨k,hk,e⟩:=List.mem_iff_getElem.mp hmn
 rw[bR] at hk
 have e2:=uy (q:=ps.length + as.length) (t:=t) hk
 rw[List.getElem?_eq_getElem (by rw[bR];exact hk),e] at e2
 rw[Option.some.inj e2]
 exact⟨(h.rn _ (List.getElem_mem _)).1,by rw[mK (by omega)];exact hn _ (List.getElem_mem _)⟩
theorem uV {tl:List Str} (hw:1≤ps.length) (h4:ps.length≤4) (hn:∀x∈ps,qe x=true):ji (j7 ("parties" :: ps) :: tl) 0 "parties" 4 []=if ps.Nodup then some ps else none:=by
 have e0:xR (wd (j7 ("parties" :: ps) :: tl) 0)=("parties" : Str) :: ps:=yh (by simp) hn
 have np:ps≠[]:=fun z=>by rw[z] at hw;simp at hw
 unfold ji
 rw[if_neg (by simp),e0]
 dsimp only
 rw[xI hw hn (by omega)]
 by_cases q:ps.Nodup
 ·rw[if_neg (fun z=>z.elim np (fun z=>z (by simpa using q))),if_pos q]
 ·rw[if_pos (.inr (by simpa using q)),if_neg q]
theorem aI {x:Str} {tl:List Str} (hw:1≤as.length) (h6:as.length≤6) (hn:∀x∈as,qe x=true):ji (x :: j7 ("acts" :: as) :: tl) 1 "acts" 6 ps=if (ps ++ as).Nodup then some as else none:=by
 have e0:xR (wd (x :: j7 ("acts" :: as) :: tl) 1)=("acts" : Str) :: as:=yh (by simp) hn
 have np:as≠[]:=fun z=>by rw[z] at hw;simp at hw
 unfold ji
 rw[if_neg (by simp),e0]
 dsimp only
 rw[xI hw hn (by omega)]
 by_cases q:(ps ++ as).Nodup
 ·rw[if_neg (fun z=>z.elim np (fun z=>z q)),if_pos q]
 ·rw[if_pos (.inr q),if_neg q]
theorem X8 {evs:List Ew} (h:sJ ps as ql) (he:∀e∈evs,e.ok) (hl:evs.length≤76) (hij:i < j) (hj:j < (xh ps as ql).length) {t:List Str} (ht:t=(xh ps as ql).set j (wd (xh ps as ql) i)) :
  Fa (rowsOf (t.take ps.length) ((t.drop ps.length).take as.length) (eK ql (ps.length + as.length) t) evs) (lx ps.length as.length j):=by
 have hw:=aE (j:=j) h (by omega) ht
 have htl:t.length=ps.length + as.length + ql.length:=by rw[ht,List.length_set,bj]
 have hjl:=bj ps as ql
 have r2:=h.r2
 have rl:=@kh (t.take ps.length) ((t.drop ps.length).take as.length) (eK ql (ps.length + as.length) t) evs
 rw[bR] at rl
 have hb:∀m,m≤j→t.take m=(xh ps as ql).take m:=fun m hm=>by rw[ht];exact eP hm
 have hdup:∀m,j < m→m≤t.length→¬(t.take m).Nodup:=fun m hm hm2=>by rw[ht];exact KN hij hm hj (by rw[ht,List.length_set] at hm2;exact hm2)
 have tp:(xh ps as ql).take ps.length=ps:=by unfold xh;rw[List.append_assoc,List.take_left]
 have tpa:(xh ps as ql).take (ps.length + as.length)=ps ++ as:=by unfold xh;rw[←List.length_append,List.take_left]
 have hadd:t.take (ps.length + as.length)=t.take ps.length ++ (t.drop ps.length).take as.length:=List.take_add
 have nd2:(ps ++ as).Nodup:=(List.nodup_append.mp h.nd).1
 have nd1:ps.Nodup:=(List.nodup_append.mp nd2).1
 have hmay:∀k,k≤(rowsOf ps as ql []).length→∀rest,jr ((rowsOf ps as ql []).take k ++ Str.ofString "may" :: rest)=.error k:=fun k hk rest=>sd h V7 hk Zw
 have gl:(rowsOf ps as ql []).length=2 + ql.length:=by rw[kh];rfl
 have jx:=ub hw he
 unfold lx
 by_cases c0:j < ps.length
 ·rw[if_pos c0]
  refine aR (G:=rowsOf ps as ql []) (by omega) (by omega) jx (by rw[List.take_zero,List.take_zero]) (fun rest=>?_) (fun k hk=>hmay k (by omega))
  show jr (j7 ("parties" :: t.take ps.length) :: rest)=_
  unfold jr
  rw[uV hw.p1 hw.p2 hw.pn,if_neg (hdup _ c0 (by omega))]
 rw[if_neg c0]
 have e1:t.take ps.length=ps:=by rw[hb _ (by omega),tp]
 by_cases c1:j < ps.length + as.length
 ·rw[if_pos c1]
  refine aR (G:=rowsOf ps as ql []) (by omega) (by omega) jx (by rw[e1];rfl) (fun rest=>?_) (fun k hk=>hmay k (by omega))
  show jr (j7 ("parties" :: t.take ps.length) :: j7 ("acts" :: (t.drop ps.length).take as.length) :: rest)=_
  have hnd:=hdup _ c1 (by omega)
  rw[hadd,e1] at hnd
  unfold jr
  rw[uV hw.p1 hw.p2 hw.pn,e1,if_pos nd1]
  dsimp only
  rw[aI hw.a1 hw.a2 hw.an,if_neg hnd]
 rw[if_neg c1]
 have e2:(t.drop ps.length).take as.length=as:=by
  have:=hb (ps.length + as.length) (by omega)
  rw[tpa,hadd,e1] at this
  exact List.append_cancel_left this
 obtain⟨q,hq⟩:∃q,j=ps.length + as.length + q:=⟨j - (ps.length + as.length),by omega⟩
 have hq2:q < ql.length:=by omega
 rw[e1,e2] at jx rl hw ⊢
 rw[show 2 + (j - (ps.length + as.length))=2 + q by omega]
 have tq:∀k,(hk:k < q)→(eK ql (ps.length + as.length) t)[k]?=some (ql[k]'(by omega)):=fun k hk=>by
  rw[uy (by omega),mK (by omega)]
  have h1:t[ps.length + as.length + k]?=(xh ps as ql)[ps.length + as.length + k]?:=by rw[ht,List.getElem?_set_ne (by omega)]
  rw[Qs (by omega),List.getElem?_eq_getElem (by omega)] at h1
  rw[Option.some.inj h1]
 have e3:(eK ql (ps.length + as.length) t).take q=ql.take q:=by
  refine List.ext_getElem? fun k=>?_
  by_cases z:k < q
  ·rw[List.getElem?_take_of_lt z,List.getElem?_take_of_lt z,tq k z,List.getElem?_eq_getElem (by omega)]
  ·rw[List.getElem?_eq_none_iff.mpr (by rw[List.length_take];omega),List.getElem?_eq_none_iff.mpr (by rw[List.length_take];omega)]
 have e4:(eK ql (ps.length + as.length) t).take (q + 1)=ql.take q ++ [((ql[q]).1,wd t j)]:=by
  rw[List.take_succ,e3,uy hq2,←hq]
  rfl
 have hrow:∀(k:Nat) (R:List (Str × Str)) (ev:List Ew),k≤R.length→(rowsOf ps as R ev).take (2 + k)=xC ps as (R.take k):=fun k R ev hk=>by
  rw[wB,List.take_append,iN,show 2 + k - (2 + R.length)=0 by omega,List.take_zero,List.append_nil]
  unfold xC
  rw[show 2 + k=k + 1 + 1 by omega,List.take_succ_cons,List.take_succ_cons,List.map_take]
 have rml:=bR ql (ps.length + as.length) t
 refine aR (G:=rowsOf ps as ql []) (by omega) (by omega) jx (by rw[hrow q _ _ (by omega),hrow q _ _ (by omega),e3]) (fun rest=>?_) (fun k hk=>hmay k (by omega))
 rw[Nat.add_assoc 2,hrow (q + 1) _ _ (by omega),e4]
 unfold xC
 rw[List.map_append]
 show jr (j7 ("parties" :: ps) :: j7 ("acts" :: as) :: ((ql.take q).map wK ++ [wK ((ql[q]).1,wd t j)] ++ rest))=_
 have hnd3:=h.nd
 rw[←List.take_append_drop q ql,List.map_append,←List.append_assoc] at hnd3
 have hmk:fY ((ql[q]).1,wd t j):=⟨(h.rn _ (List.getElem_mem _)).1,by rw[ht,mK (by rw[List.length_set];omega),List.getElem_set_self,mK (by omega)];exact mX h _ (List.getElem_mem _)⟩
 have hdd:=hdup (j + 1) (by omega) (by omega)
 have e5:t.take (j + 1)=ps ++ as ++ (ql.take q ++ [((ql[q]).1,wd t j)]).map (·.2):=by
  rw[List.take_succ,hb j (by omega),List.getElem?_eq_getElem (by omega),←mK (by omega)]
  have:(xh ps as ql).take j=ps ++ as ++ (ql.take q).map (·.2):=by
   unfold xh
   rw[hq,List.take_append,List.length_append,List.take_of_length_le (by rw[List.length_append];omega),Nat.add_sub_cancel_left,List.map_take]
  rw[this,List.map_append,List.append_assoc]
  rfl
 rw[e5] at hdd
 unfold jr
 rw[uV h.p1 h.p2 h.pn,if_pos nd1]
 dsimp only
 rw[aI h.a1 h.a2 h.an,if_pos nd2]
 dsimp only
 rw[List.append_assoc]
 show (match jd (ps ++ as) [] ((ql.take q).map wK ++ (wK ((ql[q]).1,wd t j) :: rest)) with | .error n=>_ | .ok ql=>_)=_
 rw[iy (fun mn hm=>h.rn mn (List.mem_of_mem_take hm)) (by simpa using (List.nodup_append.mp hnd3).1) (by rw[List.length_take];simp only[List.length_nil];omega),List.nil_append,jd,da hmk]
 dsimp only
 rw[if_pos (.inr hdd),List.length_take,Nat.min_eq_left (by omega)]
end
section
variable {P:Program} {w:World} {K:PySem.W.Frag} {mg:Str→Option Value} {base:Heap} {t:xj}
end
noncomputable def Ew.nm (x:Str):Ew→Ew
 | .mu _ w a n r=>.mu x w a n r
 | .my _ w a=>.my x w a
 | .bn _ w a r=>.bn x w a r
 | .pw _ w a r=>.pw x w a r
 | .pt _ rs=>.pt x rs
 | e=>e
noncomputable def Zs:Sp:=fun vs H Q _=>∃(v:V) (x:Str) (e:Ew),vs=[v,.str x]∧fj H v e∧va e≠[]∧∀p H',qp H H'→fj H' (.ref p) (e.nm x)→Q (.ref p) H'
noncomputable def VX:Sp:=fun vs H Q _=>∃(cell many:Int),vs=[.int cell,.int many]∧0≤cell∧2≤many∧∀(i j:Nat) p H',i < j→(j:Int) < many→qp H H'→H' p=some (.tup [.int (i:Nat),.int (j:Nat)])→Q (.ref p) H'
theorem V1 (a b c d:V):yM [a,b,c,d] (some 2) none=[c,d]:=rfl
theorem Q0 (a b c d e:V):yM [a,b,c,d,e] (some 2) none=[c,d,e]:=rfl
theorem V2 (a b c d e f:V):yM [a,b,c,d,e,f] (some 2) none=[c,d,e,f]:=rfl
section
variable {P:Program} {w:World} {K:PySem.W.Frag} {mg:Str→Option Value} {base:Heap} {t:xj}
theorem eY:qX ["_law_event_here","_law_name_here"] ["_law_event_here","_law_name_here"] (z6 k7):=⟨rfl,rfl,rfl,by decide +kernel,rfl,by decide +kernel,by decide +kernel⟩
set_option maxHeartbeats 400000 in
theorem eZ (T:Txt K mg t):qV P w K mg base jW 1 t.fu t.fh ["_law_event_here","_law_name_here"] Zs:=by
 refine T.dB.fn.ok eY (fun vs H Q E h=>(by obtain⟨_,_,_,rfl,_⟩:=h;rfl)) (fun cdv A outer s H vs Q E hr h=>?_)
 obtain⟨v,x,e,rfl,hE,hlab,k⟩:=h
 refine⟨_,(z8 (qM (qo jY (qf (qY (K:=K) rfl) (pv 0) z9 (fun _ _=>rfl)) qk (qZ _))
    (qz (qr (xr (z0 qk (z0 (pv 1) (z0 (qf (qY (K:=K) rfl) (pv 0) z9 (fun _ _=>rfl)) z7)))))) qt)
   (qz (qr (qw Ko (xr (z0 (qf (qY (K:=K) rfl) (pv 0) z9 (fun _ _=>rfl)) (z0 (pv 1) z7))) (xg (Kd (K:=K) rfl) (pv 0) (xp z9) vt))))),?_⟩
 cases e with
 | lt a b=>exact absurd rfl hlab
 | dn=>exact absurd rfl hlab
 | pt n rs=>
  obtain⟨p,q,rfl,ep,eq⟩:=hE
  walk_at "rd"
  intro p1 H1 s1 hp1 e1
  exact k p1 H1 s1 ⟨p1,q,rfl,e1,s1 _ _ eq⟩
 | my l w a=>
  obtain⟨p,rfl,ep⟩:=hE
  walk_at "rd"
  intro p1 H1 s1 hp1 e1
  have ep1:=s1 _ _ ep
  refine⟨_,rfl,_,rfl,p,_,rfl,yc.of ep1,fun z=>absurd z.1 (show ¬HT.vF 4 0 (some 2)=0 by decide),?_⟩
  rw[V1]
  intro p2 H2 s2 hp2 e2
  refine⟨p1,p2,_,_,rfl,rfl,yc.of (s2 _ _ e1),yc.of e2,by simp,qv (by simp only[List.length_cons,List.length_nil];omega),fun z=>by simp at z,fun _ p3 hp3=>?_⟩
  exact k p3 _ ((s1.trans s2).trans (qp.dE hp3)) ⟨p3,rfl,qm⟩
 | mu l w a n r=>
  obtain⟨p,rfl,ep⟩:=hE
  walk_at "rd"
  intro p1 H1 s1 hp1 e1
  have ep1:=s1 _ _ ep
  refine⟨_,rfl,_,rfl,p,_,rfl,yc.of ep1,fun z=>absurd z.1 (show ¬HT.vF 6 0 (some 2)=0 by decide),?_⟩
  rw[V2]
  intro p2 H2 s2 hp2 e2
  refine⟨p1,p2,_,_,rfl,rfl,yc.of (s2 _ _ e1),yc.of e2,by simp,qv (by simp only[List.length_cons,List.length_nil];omega),fun z=>by simp at z,fun _ p3 hp3=>?_⟩
  exact k p3 _ ((s1.trans s2).trans (qp.dE hp3)) ⟨p3,rfl,qm⟩
 | bn l w a r=>
  obtain⟨p,rfl,ep⟩:=hE
  walk_at "rd"
  intro p1 H1 s1 hp1 e1
  have ep1:=s1 _ _ ep
  refine⟨_,rfl,_,rfl,p,_,rfl,yc.of ep1,fun z=>absurd z.1 (show ¬HT.vF 5 0 (some 2)=0 by decide),?_⟩
  rw[Q0]
  intro p2 H2 s2 hp2 e2
  refine⟨p1,p2,_,_,rfl,rfl,yc.of (s2 _ _ e1),yc.of e2,by simp,qv (by simp only[List.length_cons,List.length_nil];omega),fun z=>by simp at z,fun _ p3 hp3=>?_⟩
  exact k p3 _ ((s1.trans s2).trans (qp.dE hp3)) ⟨p3,rfl,qm⟩
 | pw l w a r=>
  obtain⟨p,rfl,ep⟩:=hE
  walk_at "rd"
  intro p1 H1 s1 hp1 e1
  have ep1:=s1 _ _ ep
  refine⟨_,rfl,_,rfl,p,_,rfl,yc.of ep1,fun z=>absurd z.1 (show ¬HT.vF 5 0 (some 2)=0 by decide),?_⟩
  rw[Q0]
  intro p2 H2 s2 hp2 e2
  refine⟨p1,p2,_,_,rfl,rfl,yc.of (s2 _ _ e1),yc.of e2,by simp,qv (by simp only[List.length_cons,List.length_nil];omega),fun z=>by simp at z,fun _ p3 hp3=>?_⟩
  exact k p3 _ ((s1.trans s2).trans (qp.dE hp3)) ⟨p3,rfl,qm⟩
theorem ie:qX ["_law_cell","_law_many","_law_second"] ["_law_cell","_law_many"] (z6 yV):=⟨rfl,rfl,rfl,by decide +kernel,rfl,by decide +kernel,by decide +kernel⟩
set_option maxHeartbeats 400000 in
theorem JB (T:Txt K mg t):qV P w K mg base jW 1 t.cE t.cO ["_law_cell","_law_many"] VX:=by
 refine T.cY.fn.ok ie (fun vs H Q E h=>(by obtain⟨_,_,rfl,_⟩:=h;rfl)) (fun cdv A outer s H vs Q E hr h=>?_)
 obtain⟨cell,many,rfl,c0,m2,k⟩:=h
 refine⟨_,(z8 (qQ (i:=2) ie.nd rfl (Or.inl rfl) (qw je z9 (qw qI (pv 0) (qw bC (pv 1) z9))))
   (qz (qr (xr (z0 (qw qI (qw ko (pv 0) z9) (pv 2)) (z0 (pv 2) z7)))))),?_⟩
 have m0:0≤cell % (many - 1):=Int.emod_nonneg _ (by omega)
 have m1:cell % (many - 1) < many - 1:=Int.emod_lt_of_pos _ (by omega)
 have q0:0≤cell / 61 % (1 + cell % (many - 1)):=Int.emod_nonneg _ (by omega)
 have q1:cell / 61 % (1 + cell % (many - 1)) < 1 + cell % (many - 1):=Int.emod_lt_of_pos _ (by omega)
 walk_at "rd"
 intro p1 H1 s1 hp1 e1
 obtain⟨j,ej⟩:=Int.eq_ofNat_of_zero_le (show 0≤1 + cell % (many - 1) by omega)
 obtain⟨i,ei⟩:=Int.eq_ofNat_of_zero_le q0
 refine k i j p1 H1 (by omega) (by omega) s1 ?_
 rw[e1,←ej,←ei]
end
noncomputable def VQ:Sp:=fun vs H Q _=>∃(p:Addr) (i j:Nat) (ps as:List Str) (ql:List (Str × Str)),vs=[.ref p,.int (i:Nat),.int (j:Nat)]∧iH H p ps as ql∧sJ ps as ql∧i < j∧j < (xh ps as ql).length∧
 ∀(q p':Addr) (t:List Str) H',t=(xh ps as ql).set j (wd (xh ps as ql) i)→qp H H'→H' p'=some (.tup [.ref q,.int (lx ps.length as.length j:Nat)])→iH H' q (t.take ps.length) ((t.drop ps.length).take as.length) (eK ql (ps.length + as.length) t)→Q (.ref p') H'
section
variable {P:Program} {w:World} {K:PySem.W.Frag} {mg:Str→Option Value} {base:Heap} {t:xj}
theorem jV:qX ["_law_header_here","_law_first","_law_second","_law_told","_law_ends","_law_rooms","_law_k","_law_row_here"] ["_law_header_here","_law_first","_law_second"] (z6 q9):=⟨rfl,rfl,rfl,by decide +kernel,rfl,by decide +kernel,by decide +kernel⟩
set_option maxHeartbeats 400000 in
theorem dt (T:Txt K mg t):qV P w K mg base jW 2 t.kT t.kU ["_law_header_here","_law_first","_law_second"] VQ:=by
 refine T.kD.fn.ok jV (fun vs H Q E h=>(by obtain⟨_,_,_,_,_,_,rfl,_⟩:=h;rfl)) (fun cdv A outer s H vs Q E hr h=>?_)
 obtain⟨p,i,j,ps,as,ql,rfl,hHd,hh,hij,hj,kk⟩:=h
 refine⟨_,(z8 (qQ (i:=3) jV.nd rfl (Or.inl rfl) (qw wy (qw wy (qf (qY (K:=K) rfl) (pv 0) z9 (fun _ _=>rfl)) (qf (qY (K:=K) rfl) (pv 0) z9 (fun _ _=>rfl))) (fZ (osc:=z6 q9) (N:=["_law_header_here","_law_first","_law_second","_law_told","_law_ends","_law_rooms","_law_k","_law_row_here"]) (xs:=["_law_mark","_law_name_here"]) (names:=[]) (qC:=[]) rfl rfl rfl ⟨rfl,by decide +kernel,by decide +kernel,by decide +kernel,by decide +kernel,rfl,by decide +kernel,by decide +kernel⟩ (wc (K:=K) rfl (qf (qY (K:=K) rfl) (pv 0) z9 (fun _ _=>rfl))) (fun _ _ _=>(yQ (K:=K) (n:=2) rfl rfl (jF (jy (i:=0) (show (["_law_mark","_law_name_here"]:List Str).Nodup from by decide +kernel) rfl (.inl (fH rfl)) (.inr (fH rfl))) (jF (jy (i:=1) (show (["_law_mark","_law_name_here"]:List Str).Nodup from by decide +kernel) rfl (.inl (fH rfl)) (.inr (fH rfl))) yJ)) rfl rfl)) (fun _ _ _=>tS) (fun _ _ _=>(pv 1)))))
   (z8 (qQ (i:=4) jV.nd rfl (Or.inl rfl) (jq (z0 (qi (qD (K:=K) rfl) rfl T.xw PySem.boot_len (z0 (qf (qY (K:=K) rfl) (pv 0) z9 (fun _ _=>rfl)) z7)) (z0 (qw je (qi (qD (K:=K) rfl) rfl T.xw PySem.boot_len (z0 (qf (qY (K:=K) rfl) (pv 0) z9 (fun _ _=>rfl)) z7)) (qi (qD (K:=K) rfl) rfl T.xw PySem.boot_len (z0 (qf (qY (K:=K) rfl) (pv 0) z9 (fun _ _=>rfl)) z7))) z7))) bT)
   (z8 (pS (qf (qy (K:=K) rfl) (pv 3) (pv 1) (fun _ _=>rfl)) (tL (pv 3) (pv 2) sx))
   (z8 (qQ (i:=5) jV.nd rfl (Or.inl rfl) (jq z7) bT)
   (z8 (pT PassesOwn.never rfl (vH rfl T.wF (z0 (qi (qD (K:=K) rfl) rfl T.xw PySem.boot_len (z0 (qf (qY (K:=K) rfl) (pv 0) z9 (fun _ _=>rfl)) z7)) z7)) (jy (i:=6) jV.nd rfl (Or.inl rfl))
    (qz (ki (kB PySem.F.plainAttrs_list PySem.F.slot_list_append PySem.F.type_list_append vG (pv 5) (z0 (xr (z0 (qf (qY (K:=K) rfl) (qf (qy (K:=K) rfl) (qf (qY (K:=K) rfl) (pv 0) z9 (fun _ _=>rfl)) (pv 6) (fun _ _=>rfl)) z9 (fun _ _=>rfl)) (z0 (qf (qy (K:=K) rfl) (pv 3) (qw je (qf (qy (K:=K) rfl) (pv 4) z9 (fun _ _=>rfl)) (pv 6)) (fun _ _=>rfl)) z7))) z7)))))
   (z8 (qQ (i:=7) jV.nd rfl (Or.inl rfl) (qw bC (qw je z9 (pv 2)) (qf (qy (K:=K) rfl) (pv 4) z9 (fun _ _=>rfl))))
   (z8 (PS.join (qM (qo u3 (pv 2) (qf (qy (K:=K) rfl) (pv 4) z9 (fun _ _=>rfl)) (qZ _))
    (qz (qQ (i:=7) jV.nd rfl (Or.inl rfl) (j0 gB rfl T.cx PyProof.Rows.boot_int (z0 (k6 YE (pv 2) (qf (qy (K:=K) rfl) (pv 4) z9 (fun _ _=>rfl)) (qZ _)) z7)))) qt))
   (qz (qr (xr (z0 (xr (z0 (xg (xn (K:=K) rfl) (pv 3) vt (xp (qf (qy (K:=K) rfl) (pv 4) z9 (fun _ _=>rfl)))) (z0 (xg (xn (K:=K) rfl) (pv 3) (xp (qf (qy (K:=K) rfl) (pv 4) z9 (fun _ _=>rfl))) (xp (qf (qy (K:=K) rfl) (pv 4) z9 (fun _ _=>rfl)))) (z0 (pv 5) z7)))) (z0 (pv 7) z7)))))))))))),?_⟩
 obtain⟨lp,la,lq,vs,z1,z2,z3,z4,z5⟩:=hHd
 have hvl:vs.length=ql.length:=Paired.length z5
 have p2:=hh.p2;have a2:=hh.a2;have r2:=hh.r2
 have htl:=bj ps as ql
 walk_at "rd"
 refine⟨lp,la,_,_,rfl,rfl,z2,z3,qv (by rw[List.length_map,List.length_map];omega),?_⟩
 intro l1 H1 s1 hl1 e1
 rw[←List.map_append] at e1
 have y1:=s1 _ _ z1
 have y4:=s1 _ _ z4
 have hP1:Paired (ka H1) vs ql:=Paired.imp' (fun _ _ z=>z.same s1) z5
 walk_at "rd"
 refine lH (yB (qL.of y4)) (QW H1) (ZQ H1) (fun y v=>∀p m n,y=V.ref p→H1 p=some (.tup [.str m,.str n])→v=V.str n) (qv (by omega)) ?_ ?_ ?_
 ·intro j y ts H' K' hy hts s' k'
  obtain⟨mn,_,p',rfl,ep⟩:=Paired.Ja hP1 (List.mem_of_getElem? hy)
  have et:QW H1 (.ref p')=[some (.str mn.1),some (.str mn.2)]:=by unfold QW;simp only[ep]
  rw[et] at k'
  match ts,hts with
  | [t1,t2],_=>exact⟨p',_,rfl,yc.of (s' _ _ ep),rfl,_,_,rfl,_,_,rfl,rfl,k'⟩
 ·intro j y H' Q' hy s' kk
  obtain⟨mn,_,p',rfl,ep⟩:=Paired.Ja hP1 (List.mem_of_getElem? hy)
  have et:QW H1 (.ref p')=[some (.str mn.1),some (.str mn.2)]:=by unfold QW;simp only[ep]
  rw[et]
  refine⟨_,rfl,kk _ _ (qp.refl _) fun p2 m2 n2 e q=>?_⟩
  cases e
  rw[ep] at q
  cases q
  rfl
 intro D H2 ys s2 hD e2 hPr
 rw[ma hP1 hPr] at e2
 refine⟨l1,D,_,_,rfl,rfl,s2 _ _ e1,e2,qv (by rw[List.length_map,List.length_map,List.length_append,List.length_map];omega),?_⟩
 rw[←List.map_append]
 intro l3 H3 s3 hl3 e3
 have e3':H3 l3=some (.lst ((xh ps as ql).map V.str)):=e3
 clear e3 e1 e2 hPr hP1
 have sA:qp H H3:=(s1.trans s2).trans s3
 have hHl3:H l3=none:=by
  cases q:H l3 with
  | none=>rfl
  | some o=>rw[(s1.trans s2) _ _ q] at hl3;cases hl3
 clear s1 s2 s3 y1 y4
 have x1:=sA _ _ z1
 have x2:=sA _ _ z2
 have x3:=sA _ _ z3
 have x4:=sA _ _ z4
 have x5:Paired (ka H3) vs ql:=Paired.imp' (fun _ _ z=>z.same sA) z5
 walk_at "rd"
 refine⟨lp,_,rfl,.inl (qL.of x2),?_⟩
 rw[List.length_map]
 walk_at "rd"
 refine⟨lp,_,rfl,.inl (qL.of x2),?_⟩
 rw[List.length_map]
 walk_at "rd"
 refine⟨la,_,rfl,.inl (qL.of x3),?_⟩
 rw[List.length_map]
 walk_at "rd"
 intro l4 H4 s4 hl4 e4
 have e4':H4 l4=some (.lst [.int (ps.length:Nat),.int (ps.length + as.length:Nat)]):=by rw[e4];simp only[Int.natCast_add]
 clear e4
 have e34:=s4 _ _ e3'
 walk_at "rd"
 refine⟨l3,_,_,j,rfl,rfl,e34,by rw[Jy (by omega) (by rw[List.length_map];omega),Int.toNat_natCast],?_⟩
 intro H5 k5 e5
 obtain⟨t',ht'⟩:∃t',t'=(xh ps as ql).set j (wd (xh ps as ql) i):=⟨_,rfl⟩
 have e5':H5 l3=some (.lst (t'.map V.str)):=by
  rw[e5,ht',List.map_set]
  rfl
 clear e5
 have hS5:qp H H5:=k5.put (sA.trans s4) hHl3
 have n43:l4≠l3:=fun z=>by rw[z,e3'] at hl4;cases hl4
 have e45:H5 l4=some (.lst [.int (ps.length:Nat),.int (ps.length + as.length:Nat)]):=(k5 _ n43).trans e4'
 have kk':=kk
 clear e34 e3' e4' x1 x2 x3 x4 x5 k5
 have x1:=hS5 _ _ z1
 have x4:=hS5 _ _ z4
 have x5:Paired (ka H5) vs ql:=Paired.imp' (fun _ _ z=>z.same hS5) z5
 have htl':t'.length=ps.length + as.length + ql.length:=by rw[ht',List.length_set,htl]
 walk_at "rd"
 intro l6 H6 s6 hl6 e6
 have n36:l3≠l6:=qg e5' hl6
 have n46:l4≠l6:=qg e45 hl6
 have hl60:H l6=none:=hS5.free hl6
 have y1:=s6 _ _ x1
 have y4:=s6 _ _ x4
 walk_at "rd"
 refine⟨lq,_,rfl,.inl (qL.of y4),?_⟩
 rw[hvl]
 walk_at "rd"
 refine gD (lo:=0) (n:=((ql.length:Nat):Int).toNat) (fun m σ H'=>∃(ws:List V) (v6:Option V),σ=[some (.ref p),some (.int (i:Nat)),some (.int (j:Nat)),some (.ref l3),some (.ref l4),some (.ref l6),v6,none]∧qp H H'∧H' l6=some (.lst ws)∧H' l3=some (.lst (t'.map V.str))∧H' l4=some (.lst [.int (ps.length:Nat),.int (ps.length + as.length:Nat)])∧Paired (ka H') ws ((eK ql (ps.length + as.length) t').take m))
  ⟨[],none,rfl,hS5.trans s6,e6,s6 _ _ e5',s6 _ _ e45,.nil⟩ ?_ ?_
 ·rintro m σ H7 hm ⟨ws,v6,rfl,s7,e7,f7,g7,hP⟩
  rw[Int.toNat_natCast] at hm
  have w1:=s7 _ _ z1
  have w4:=s7 _ _ z4
  walk_at "rd"
  have hmv:m < vs.length:=by omega
  obtain⟨mn,hmn,rp,erp,hrp⟩:=Paired.Ku z5 (List.getElem?_eq_getElem hmv)
  refine⟨lq,vs,_,_,rfl,rfl,qL.of w4,(by rw[Int.zero_add];exact kc (List.getElem?_eq_getElem hmv)),?_⟩
  rw[erp]
  have wr:=s7 _ _ hrp
  walk_at "rd"
  refine⟨l4,_,_,_,rfl,rfl,qL.of g7,rfl,?_⟩
  refine⟨_,rfl,_,_,rfl,rfl,?_⟩
  refine⟨l3,_,_,_,rfl,rfl,qL.of f7,gH (by omega) (by omega),?_⟩
  rw[show (((ps.length + as.length:Nat):Int) + (0 + (m:Int))).toNat=ps.length + as.length + m by omega]
  refine⟨qv (by simp only[List.length_cons,List.length_nil];omega),?_⟩
  intro q H8 s8 hq e8
  have e78:=s8 _ _ e7
  have hml:m < ql.length:=by omega
  have emn:mn=ql[m]:=by rw[List.getElem?_eq_getElem hml] at hmn;exact(Option.some.inj hmn).symm
  have hwl:ws.length≤12:=by
   have:=Paired.length hP
   rw[List.length_take,bR] at this
   omega
  refine⟨l6,_,_,rfl,rfl,e78,qv (by omega),?_⟩
  intro H9 k9 e9
  have hP8:Paired (ka H8) (ws ++ [.ref q]) ((eK ql (ps.length + as.length) t').take (m + 1)):=by
   rw[take_snoc (uy hml),←emn]
   exact Paired.snoc (Paired.imp' (fun _ _ z=>z.same s8) hP) ⟨q,rfl,e8⟩
  exact⟨_,_,rfl,k9.put (s7.trans s8) hl60,e9,k9.look (s8 _ _ f7) n36,k9.look (s8 _ _ g7) n46,Paired.imp' (fun _ _ z=>z.keeps k9 e78) hP8⟩
 rintro σ H7 ⟨ws,v6,rfl,s7,e7,f7,g7,hP⟩
 rw[Int.toNat_natCast,List.take_of_length_le (by rw[bR];omega)] at hP
 walk_at "rd"
 refine⟨l4,_,_,_,rfl,rfl,qL.of g7,rfl,?_⟩
 refine⟨_,_,rfl,rfl,?_⟩
 refine⟨fun σ' H'=>(σ'=[some (.ref p),some (.int (i:Nat)),some (.int (j:Nat)),some (.ref l3),some (.ref l4),some (.ref l6),v6,some (.int (lx ps.length as.length j:Nat))]∧H'=H7)∨False,?_,?_⟩
 ·walk_at "rd"
  refine⟨l4,_,_,_,rfl,rfl,qL.of g7,rfl,?_⟩
  walk_at "rd"
  refine jo (fun h1=>?_) (fun h1=>?_)
  ·have h1':((j:Nat):Int) < ((ps.length + as.length:Nat):Int):=of_decide_eq_true h1
   walk_at "rd"
   refine⟨l4,_,_,_,rfl,rfl,qL.of g7,rfl,?_⟩
   refine⟨_,_,rfl,rfl,?_⟩
   refine .inr ⟨_,rfl,.inl ⟨?_,rfl⟩⟩
   have er:(if decide (((ps.length:Nat):Int)≤((j:Nat):Int))=true then (1:Int) else 0)=((lx ps.length as.length j:Nat):Int):=by
    unfold lx
    by_cases c0:j < ps.length
    ·rw[if_pos c0,decide_eq_false (by omega),if_neg (by decide)];rfl
    ·rw[decide_eq_true (show ((ps.length:Nat):Int)≤((j:Nat):Int) by omega),if_pos rfl,if_neg c0,if_pos (show j < ps.length + as.length by omega)];rfl
   rw[←er]
   rfl
  ·have h1':¬((j:Nat):Int) < ((ps.length + as.length:Nat):Int):=fun z=>h1 (decide_eq_true z)
   refine .inl ⟨?_,rfl⟩
   have er:(2:Int) + ((j:Nat):Int) - ((ps.length + as.length:Nat):Int)=((lx ps.length as.length j:Nat):Int):=by
    unfold lx
    rw[if_neg (by omega),if_neg (by omega)]
    omega
   rw[←er]
   rfl
 rintro σ' H8 (⟨rfl,rfl⟩ | ⟨⟨⟩⟩)
 walk_at "rd"
 refine⟨l4,_,_,_,rfl,rfl,qL.of g7,rfl,_,rfl,?_⟩
 refine⟨l3,_,rfl,qL.of f7,?_⟩
 rw[pQ]
 intro l9 H9 s9 hl9 e9
 have f9:=s9 _ _ f7
 have g9:=s9 _ _ g7
 walk_at "rd"
 refine⟨l4,_,_,_,rfl,rfl,qL.of g9,rfl,_,rfl,?_⟩
 walk_at "rd"
 refine⟨l4,_,_,_,rfl,rfl,qL.of g9,rfl,_,rfl,?_⟩
 refine⟨l3,_,rfl,qL.of f9,?_⟩
 rw[aG V.str t' ps.length as.length (by omega)]
 intro l10 H10 s10 hl10 e10
 walk_at "rd"
 intro p1 H11 s11 hp1 e11
 walk_at "rd"
 intro p2' H12 s12 hp2 e12
 have sE:qp H8 H12:=((s9.trans s10).trans s11).trans s12
 exact kk p1 p2' t' H12 ht' (s7.trans sE) e12 ⟨l9,l10,l6,ws,s12 _ _ e11,s12 _ _ (s11 _ _ (s10 _ _ e9)),s12 _ _ (s11 _ _ e10),sE _ _ e7,Paired.imp' (fun _ _ z=>z.same sE) hP⟩
end
noncomputable def mm:Ew→Bool
 | .lt _ _=>false
 | .dn=>false
 | _=>true
noncomputable def GZ:Ew→Str
 | .lt _ _=>"let"
 | .mu _ _ _ _ _=>"must"
 | .my _ _ _=>"may"
 | .bn _ _ _ _=>"ban"
 | .pw _ _ _ _=>"power"
 | .pt _ _=>"part"
 | .dn=>"done"
theorem fj.tag {H:Hp} {v:V} {e:Ew} (h:fj H v e):∃p vs,v=.ref p∧H p=some (.tup (.str (GZ e) :: vs)):=by
 cases e with
 | pt n rs=>obtain⟨p,q,rfl,h1,h2⟩:=h;exact⟨p,_,rfl,h1⟩
 | lt a b=>obtain⟨p,rfl,h⟩:=h;exact⟨p,_,rfl,h⟩
 | mu l w a n r=>obtain⟨p,rfl,h⟩:=h;exact⟨p,_,rfl,h⟩
 | my l w a=>obtain⟨p,rfl,h⟩:=h;exact⟨p,_,rfl,h⟩
 | bn l w a r=>obtain⟨p,rfl,h⟩:=h;exact⟨p,_,rfl,h⟩
 | pw l w a r=>obtain⟨p,rfl,h⟩:=h;exact⟨p,_,rfl,h⟩
 | dn=>obtain⟨p,rfl,h⟩:=h;exact⟨p,_,rfl,h⟩
theorem Zz {e:Ew} (h:mm e=true):va e≠[]:=by
 cases e with
 | lt a b=>cases h
 | dn=>cases h
 | _=>simp [va]
theorem fj.BU {H:Hp} {v:V} {e:Ew} (h:fj H v e) (hl:mm e=true):∃p x y vs,v=.ref p∧H p=some (.tup (y :: .str x :: vs))∧va e=[x]:=by
 cases e with
 | pt n rs=>obtain⟨p,q,rfl,h1,h2⟩:=h;exact⟨p,_,_,_,rfl,h1,rfl⟩
 | lt a b=>cases hl
 | dn=>cases hl
 | mu l w a n r=>obtain⟨p,rfl,h⟩:=h;exact⟨p,_,_,_,rfl,h,rfl⟩
 | my l w a=>obtain⟨p,rfl,h⟩:=h;exact⟨p,_,_,_,rfl,h,rfl⟩
 | bn l w a r=>obtain⟨p,rfl,h⟩:=h;exact⟨p,_,_,_,rfl,h,rfl⟩
 | pw l w a r=>obtain⟨p,rfl,h⟩:=h;exact⟨p,_,_,_,rfl,h,rfl⟩
noncomputable def pl (evs:List Ew):List Nat:=(List.range evs.length).filter fun k=>mm (evs.getD k .dn)
noncomputable def Ki (evs:List Ew):V→Bool
 | .int k=>mm (evs.getD k.toNat .dn)
 | _=>false
theorem Vs {evs:List Ew} {k:Nat} (h:k∈pl evs):k < evs.length∧mm (evs.getD k .dn)=true:=by
 unfold pl at h
 rw[List.mem_filter] at h
 exact⟨List.mem_range.mp h.1,h.2⟩
theorem KQ {evs:List Ew} {i j:Nat} (h1:i < j) (h2:j < (pl evs).length):(pl evs)[i]'(by omega) < (pl evs)[j]:=by
 have hp:(pl evs).Pairwise (· < ·):=List.Pairwise.filter _ List.pairwise_lt_range
 exact List.pairwise_iff_getElem.mp hp i j (by omega) h2 h1
theorem Y0 {evs:List Ew} {ys:List V} (h:Paired (fun y v=>v=y) (((List.range evs.length).map fun (k:Nat)=>V.int (0 + (k:Int))).filter (Ki evs)) ys):ys=(pl evs).map fun (k:Nat)=>V.int (k:Int):=by
 have e:∀{xs ys:List V},Paired (fun y v=>v=y) xs ys→ys=xs:=fun {xs ys} q=>by
  induction q with
  | nil=>rfl
  | cons h _ ih=>rw[h,ih]
 rw[e h,List.filter_map]
 unfold pl
 have e1:(Ki evs ∘ fun (k:Nat)=>V.int (0 + (k:Int)))=fun k=>mm (evs.getD k .dn):=by
  funext k
  show mm (evs.getD (0 + (k:Int)).toNat .dn)=_
  rw[Int.zero_add,Int.toNat_natCast]
 rw[e1]
 exact List.map_congr_left fun k _=>by rw[Int.zero_add]
theorem Kx {evs:List Ew} {k m:Nat} {e:Ew} {x:Str} (h:evs[k]?=some e) (hk:k < m) (hx:x∈va e):x∈jC (evs.take m):=by
 unfold jC
 exact List.mem_flatMap.mpr ⟨e,List.mem_of_getElem? (by rw[List.getElem?_take_of_lt hk];exact h),hx⟩
theorem u7 {α β:Type} {R:α→β→Prop} {a:α} {b:β} (hab:R a b):∀{xs:List α} {ys:List β} {m:Nat},Paired R xs ys→Paired R (xs.set m a) (ys.set m b)
 | _,_,_,.nil=>.nil
 | _,_,0,.cons _ t=>.cons hab t
 | _,_,m + 1,.cons h t=>.cons h (u7 hab t)
theorem iO (e:Ew):(!QJ (.str (GZ e)) [.str (Str.ofString "let"),.str (Str.ofString "done")])=mm e:=by
 have h:∀x∈([("let",false),("must",true),("may",true),("ban",true),("power",true),("part",true),("done",false)]:List (Str × Bool)),(!QJ (.str x.1) [.str (Str.ofString "let"),.str (Str.ofString "done")])=x.2:=by decide +kernel
 cases e with
 | lt a b=>exact h ("let",false) (by simp)
 | mu l w a n r=>exact h ("must",true) (by simp)
 | my l w a=>exact h ("may",true) (by simp)
 | bn l w a r=>exact h ("ban",true) (by simp)
 | pw l w a r=>exact h ("power",true) (by simp)
 | pt n rs=>exact h ("part",true) (by simp)
 | dn=>exact h ("done",false) (by simp)
theorem V6 {l:Addr} {H:Hp} {v:V} {e:Ew} {ws:List V} {k:Nat} {p:Addr} (h:fj H v e) (el:H l=some (.lst ws)) (hk:ws[k]?=some (.ref p)):Qo l H v e:=by
 cases e with
 | pt n rs=>
  obtain⟨a,q,rfl,h1,h2⟩:=h
  refine⟨a,q,rfl,h1,h2,fun z=>?_⟩
  rw[z,el] at h2
  cases h2
  rw[List.getElem?_map] at hk
  obtain⟨x,_,hx⟩:=Option.map_eq_some_iff.mp hk
  cases hx
 | _=>exact h
noncomputable def VJ:Sp:=fun vs H Q _=>∃(le:Addr) (i j:Nat) (ws:List V) (evs:List Ew),vs=[.ref le,.int (i:Nat),.int (j:Nat)]∧H le=some (.lst ws)∧Paired (fj H) ws evs∧evs.length≤66∧i < j∧j < (pl evs).length∧
 ∀(m:Nat) (x:Str) (e:Ew) (lo p':Addr) (ws':List V) H',evs[m]?=some e→va e≠[]→x∈jC (evs.take m)→qp H H'→H' p'=some (.tup [.ref lo,.int (m:Nat)])→H' lo=some (.lst ws')→Paired (fj H') ws' (evs.set m (e.nm x))→Q (.ref p') H'
section
variable {P:Program} {w:World} {K:PySem.W.Frag} {mg:Str→Option Value} {base:Heap} {t:xj}
theorem kZ:qX ["_law_events_here","_law_first","_law_second","_law_places","_law_name_here","_law_spoilt"] ["_law_events_here","_law_first","_law_second"] (z6 jz):=⟨rfl,rfl,rfl,by decide +kernel,rfl,by decide +kernel,by decide +kernel⟩
set_option maxHeartbeats 400000 in
theorem di (T:Txt K mg t):qV P w K mg base jW 2 t.kN t.kR ["_law_events_here","_law_first","_law_second"] VJ:=by
 have G_w_named:qV P w K mg base jW 1 t.fu t.fh ["_law_event_here","_law_name_here"] Zs:=(eZ T).mono (by decide)
 refine T.kC.fn.ok kZ (fun vs H Q E h=>(by obtain⟨_,_,_,_,_,rfl,_⟩:=h;rfl)) (fun cdv A outer s H vs Q E hr h=>?_)
 obtain⟨le,i,j,ws,evs,rfl,hL,hP,hel,hij,hj,kk⟩:=h
 refine⟨_,(z8 (lj (i:=3) (osc:=z6 jz) (N:=["_law_events_here","_law_first","_law_second","_law_places","_law_name_here","_law_spoilt"]) (xs:=["_law_k"]) (names:=["_law_events_here"]) (qC:=[0]) rfl rfl rfl kZ.nd ⟨rfl,by decide +kernel,by decide +kernel,by decide +kernel,by decide +kernel,rfl,by decide +kernel,by decide +kernel⟩ rfl rfl (vH rfl T.wF (z0 (qi (qD (K:=K) rfl) rfl T.xw PySem.boot_len (z0 (pv 0) z7)) z7)) (fun _ _ _=>(jy (i:=0) (show (["_law_k","_law_events_here"]:List Str).Nodup from by decide +kernel) rfl (.inl (fH rfl)) (.inr (fH rfl)))) (fun _ _ _=>(Zm (qo (fe (K:=K) rfl) (qf (qY (K:=K) rfl) (qf (qy (K:=K) rfl) (pv 1) (pv 0) (fun _ _=>rfl)) z9 (fun _ _=>rfl)) (jq (z0 qk (z0 qk z7))) rfl))) (fun _ _ _=>(pv 0)))
   (z8 (qQ (i:=4) kZ.nd rfl (Or.inl rfl) (qf (qY (K:=K) rfl) (qf (qy (K:=K) rfl) (pv 0) (qf (qy (K:=K) rfl) (pv 3) (pv 1) (fun _ _=>rfl)) (fun _ _=>rfl)) z9 (fun _ _=>rfl)))
   (z8 (qQ (i:=5) kZ.nd rfl (Or.inl rfl) (j0 (gA (K:=K) rfl) rfl T.mv PyProof.Rows.boot_list (z0 (pv 0) z7)))
   (z8 (pS (qu G_w_named hr rfl T.dB.mg T.dB.fn.kp T.dB.bd .nil qJ (z0 (qf (qy (K:=K) rfl) (pv 0) (qf (qy (K:=K) rfl) (pv 3) (pv 2) (fun _ _=>rfl)) (fun _ _=>rfl)) (z0 (pv 4) z7))) (tL (pv 5) (qf (qy (K:=K) rfl) (pv 3) (pv 2) (fun _ _=>rfl)) sx))
   (qz (qr (xr (z0 (pv 5) (z0 (qf (qy (K:=K) rfl) (pv 3) (pv 2) (fun _ _=>rfl)) z7))))))))),?_⟩
 have hwl:ws.length=evs.length:=Paired.length hP
 walk_at "rd"
 refine⟨le,_,rfl,.inl (qL.of hL),?_⟩
 rw[hwl]
 walk_at "rd"
 refine aY bL (Ki evs) (fun y v=>v=y) (qv (by rw[List.length_map,List.length_range];omega)) ?_ ?_ ?_
 ·intro m y H' Q' hy s' kq
  have hm:m < evs.length:=by
   have:=(List.getElem?_eq_some_iff.mp hy).1
   simpa using this
  have hy':y=V.int (0 + (m:Int)):=by
   rw[List.getElem?_map,List.getElem?_range (show m < ((evs.length:Nat):Int).toNat by omega)] at hy
   exact(Option.some.inj hy).symm
  subst hy'
  have hmv:m < ws.length:=by omega
  obtain⟨e,he,hE⟩:=Paired.Ku hP (List.getElem?_eq_getElem hmv)
  obtain⟨q,us,eq,hq⟩:=hE.tag
  have w1:=s' _ _ hL
  have w2:=s' _ _ hq
  refine⟨_,rfl,_,rfl,le,ws,_,_,rfl,rfl,qL.of w1,(by rw[Int.zero_add];exact kc (List.getElem?_eq_getElem hmv)),?_⟩
  rw[eq]
  walk_at "rd"
  refine⟨q,_,_,_,rfl,rfl,yc.of w2,kc (j:=0) rfl,?_⟩
  walk_at "rd"
  intro l2 H2 s2 hl2 e2
  refine⟨l2,_,rfl,.inl (qL.of e2),rfl,rfl,_,rfl,?_⟩
  rw[if_pos rfl,iO]
  have:=kq H2 s2
  have ep:Ki evs (V.int (0 + (m:Int)))=mm e:=by
   show mm (evs.getD (0 + (m:Int)).toNat .dn)=_
   rw[Int.zero_add,Int.toNat_natCast,List.getD_eq_getElem?_getD,he]
   rfl
  rw[ep] at this
  exact this
 ·intro m y H' Q' hy hp s' kq
  exact⟨_,rfl,kq _ _ (qp.refl _) rfl⟩
 intro D H1 ys s1 hD e1 hPr
 have e1':H1 D=some (.lst ((pl evs).map fun (k:Nat)=>V.int (k:Int))):=by rw[e1,Y0 (evs:=evs) hPr]
 clear e1 hPr
 have w1:=s1 _ _ hL
 have hi:i < (pl evs).length:=by omega
 have gi:((pl evs).map fun (k:Nat)=>V.int (k:Int))[i]?=some (V.int (((pl evs)[i]:Nat):Int)):=by rw[List.getElem?_map,List.getElem?_eq_getElem hi];rfl
 have gj:((pl evs).map fun (k:Nat)=>V.int (k:Int))[j]?=some (V.int (((pl evs)[j]:Nat):Int)):=by rw[List.getElem?_map,List.getElem?_eq_getElem hj];rfl
 have hmono:=KQ hij hj
 have hmi:=Vs (List.getElem_mem hi)
 have hmj:=Vs (List.getElem_mem hj)
 generalize (pl evs)[i]=mi at *
 generalize (pl evs)[j]=mj at *
 obtain⟨ei,hei,hEi⟩:=Paired.Ku hP (List.getElem?_eq_getElem (show mi < ws.length by omega))
 obtain⟨ej,hej,hEj⟩:=Paired.Ku hP (List.getElem?_eq_getElem (show mj < ws.length by omega))
 have hli:mm ei=true:=by have:=hmi.2;rw[List.getD_eq_getElem?_getD,hei] at this;exact this
 have hlj:mm ej=true:=by have:=hmj.2;rw[List.getD_eq_getElem?_getD,hej] at this;exact this
 obtain⟨q,x,y0,us,eq,hq,hx⟩:=hEi.BU hli
 have wq:=s1 _ _ hq
 walk_at "rd"
 refine⟨D,_,_,_,rfl,rfl,qL.of e1',kc gi,?_⟩
 refine⟨le,_,_,_,rfl,rfl,qL.of w1,kc (List.getElem?_eq_getElem (show mi < ws.length by omega)),?_⟩
 rw[eq]
 refine⟨q,_,_,_,rfl,rfl,yc.of wq,kc (j:=1) rfl,?_⟩
 walk_at "rd"
 refine⟨le,_,rfl,.inl (qL.of w1),?_⟩
 intro l2 H2 s2 hl2 e2
 have w2:=s2 _ _ w1
 have d2:=s2 _ _ e1'
 walk_at "rd"
 refine⟨D,_,_,_,rfl,rfl,qL.of d2,kc gj,?_⟩
 refine⟨le,_,_,_,rfl,rfl,qL.of w2,kc (List.getElem?_eq_getElem (show mj < ws.length by omega)),?_⟩
 refine⟨_,rfl,_,x,ej,rfl,hEj.same (s1.trans s2),Zz hlj,fun p3 H3 s3 hE3=>?_⟩
 have d3:=s3 _ _ d2
 have e3:=s3 _ _ e2
 walk_at "rd"
 refine⟨D,_,_,_,rfl,rfl,qL.of d3,kc gj,?_⟩
 refine⟨l2,_,_,mj,rfl,rfl,e3,by rw[Jy (by omega) (by omega),Int.toNat_natCast],?_⟩
 intro H4 k4 e4
 have hS4:qp H H4:=k4.put ((s1.trans s2).trans s3) (s1.free hl2)
 have d4:=k4.look d3 (qg e1' hl2)
 obtain⟨qj,uj,eqj,hqj⟩:=hEj.tag
 have hkj:ws[mj]?=some (.ref qj):=by rw[List.getElem?_eq_getElem (show mj < ws.length by omega),eqj]
 have hP4:Paired (fj H4) (ws.set mj (.ref p3)) (evs.set mj (ej.nm x)):=u7 ((V6 hE3 e3 hkj).keeps k4 e3).ev (Paired.imp' (fun _ _ z=>z.same hS4) hP)
 walk_at "rd"
 refine⟨D,_,_,_,rfl,rfl,qL.of d4,kc gj,?_⟩
 walk_at "rd"
 intro p5 H5 s5 hp5 e5
 exact kk mj x ej l2 p5 _ H5 hej (Zz hlj) (Kx hei hmono (by rw[hx];simp)) (hS4.trans s5) e5 (s5 _ _ e4) (Paired.imp' (fun _ _ z=>z.same s5) hP4)
end
theorem XE:bootBuiltins (Str.ofString "ValueError")=some (Value.type "ValueError"):=by kernel_rfl
noncomputable def Ve (t:xj):Sp:=fun vs H Q _=>∃(a:Addr) (n:Int),vs=[.ref a]∧VS H a t.qO [("row",.int n)]∧Q (.bl true) H
noncomputable def Hv (t:xj) (rows:List Str) (H:Hp):XK:=fun c o H'=>∃n:Nat,jr rows=.error n∧Q6 t n H c o H'
noncomputable def yn:Sp:=fun vs H Q _=>∃(x:Str),vs=[.str x]∧x.length≤60000∧mx (Txt.split x "; ")∧(∀r H',jr (Txt.split x "; ")=.ok r→qp H H'→Q .non H')∧∀(n:Nat) H',jr (Txt.split x "; ")=.error n→qp H H'→Q (.int n) H'
section
variable {P:Program} {w:World} {K:PySem.W.Frag} {mg:Str→Option Value} {base:Heap} {t:xj}
theorem ng:qX ["_law_e"] ["_law_e"] (z6 xV):=⟨rfl,rfl,rfl,by decide +kernel,rfl,by decide +kernel,by decide +kernel⟩
set_option maxHeartbeats 400000 in
theorem tH (T:Txt K mg t):qV P w K mg base jW 1 t.gp t.gg ["_law_e"] (Ve t):=by
 refine T.bh.fn.ok ng (fun vs H Q E h=>(by obtain⟨_,_,rfl,_⟩:=h;rfl)) (fun cdv A outer s H vs Q E hr h=>?_)
 obtain⟨a,n,rfl,hx,k⟩:=h
 refine⟨_,(z8 (qM (PW.pt (wX (jE (qi (jn (K:=K) rfl) rfl T.jj PyProof.Rows.boot_isinstance (z0 (pv 0) (z0 (jf rfl T.oV (v:=.ref t.mP) rfl) z7)))) (wX (jE (qi (jn (K:=K) rfl) rfl T.jj PyProof.Rows.boot_isinstance (z0 (pv 0) (z0 (jf rfl T.uB (v:=.ref t.bu) rfl) z7)))) (wX (jE (qi (jn (K:=K) rfl) rfl T.jj PyProof.Rows.boot_isinstance (z0 (pv 0) (z0 (jf rfl T.oK (v:=.ref t.mB) rfl) z7)))) (wH (jE (qi (jn (K:=K) rfl) rfl T.jj PyProof.Rows.boot_isinstance (z0 (pv 0) (z0 (jf rfl T.lO (v:=.ref t.fv) rfl) z7)))))))))
    (qz (qr vz)) qt)
   (z8 (qM (PW.pt (wX (jE (qi (jn (K:=K) rfl) rfl T.jj PyProof.Rows.boot_isinstance (z0 (pv 0) (z0 (jf rfl T.oX (v:=.ref t.mG) rfl) z7)))) (wX (jE (qi (jn (K:=K) rfl) rfl T.jj PyProof.Rows.boot_isinstance (z0 (pv 0) (z0 (jf rfl T.lN (v:=.ref t.fk) rfl) z7)))) (wH (jE (qi (jn (K:=K) rfl) rfl T.jj PyProof.Rows.boot_isinstance (z0 (pv 0) (z0 (jf rfl T.oW (v:=.ref t.mF) rfl) z7))))))))
    (qz (qr vz)) qt)
   (z8 (qM (PW.pt (wX (jE (qi (jn (K:=K) rfl) rfl T.jj PyProof.Rows.boot_isinstance (z0 (pv 0) (z0 (jf rfl T.uF (v:=.ref t.br) rfl) z7)))) (wX (jE (qi (jn (K:=K) rfl) rfl T.jj PyProof.Rows.boot_isinstance (z0 (pv 0) (z0 (jf rfl T.Zk (v:=.ref t.cS) rfl) z7)))) (wH (wG (jE (qi (jn (K:=K) rfl) rfl T.jj PyProof.Rows.boot_isinstance (z0 (pv 0) (z0 (tD rfl T.mY XE (v:=.ty "ValueError") rfl) z7)))))))))
    (qz (qr vz)) qt)
   (qz (qr (tM (qi (jn (K:=K) rfl) rfl T.jj PyProof.Rows.boot_isinstance (z0 (pv 0) (z0 (jf rfl T.yv (v:=.ref t.qO) rfl) z7))) (tM (qi (mM (K:=K) rfl) rfl T.jj PyProof.Rows.boot_isinstance (z0 (tR (K:=K) rfl (pv 0) rfl) (z0 (tD rfl T.cx PyProof.Rows.boot_int (v:=.ty "int") rfl) z7))) (tU (WB (qi (mM (K:=K) rfl) rfl T.jj PyProof.Rows.boot_isinstance (z0 (tR (K:=K) rfl (pv 0) rfl) (z0 (tD rfl T.QL PyProof.Rows.boot_bool (v:=.ty "bool") rfl) z7)))))))))))),?_⟩
 have ty:=T.mV
 refine⟨_,rfl,a,_,_,_,_,rfl,.inr ⟨_,rfl⟩,hx,ty,T.gT,_,rfl,fG ?_⟩
 refine⟨_,rfl,a,_,_,_,_,rfl,.inr ⟨_,rfl⟩,hx,ty,T.yL,_,rfl,fG ?_⟩
 refine⟨_,rfl,a,_,_,_,_,rfl,.inr ⟨_,rfl⟩,hx,ty,T.gS,_,rfl,fG ?_⟩
 refine⟨_,rfl,a,_,_,_,_,rfl,.inr ⟨_,rfl⟩,hx,ty,T.gm,_,rfl,fG ?_⟩
 refine⟨_,rfl,a,_,_,_,_,rfl,.inr ⟨_,rfl⟩,hx,ty,T.gL,_,rfl,fG ?_⟩
 refine⟨_,rfl,a,_,_,_,_,rfl,.inr ⟨_,rfl⟩,hx,ty,T.gf,_,rfl,fG ?_⟩
 refine⟨_,rfl,a,_,_,_,_,rfl,.inr ⟨_,rfl⟩,hx,ty,T.gN,_,rfl,fG ?_⟩
 refine⟨_,rfl,a,_,_,_,_,rfl,.inr ⟨_,rfl⟩,hx,ty,T.yS,_,rfl,fG ?_⟩
 refine⟨_,rfl,a,_,_,_,_,rfl,.inr ⟨_,rfl⟩,hx,ty,T.bI,_,rfl,fG ?_⟩
 refine⟨_,rfl,a,_,_,_,_,rfl,.inl ⟨_,rfl⟩,hx,ty,T.yk,_,rfl,?_⟩
 walk_at "rd"
 refine⟨a,_,_,_,_,rfl,.inr ⟨_,rfl⟩,hx,ty,T.gO,?_⟩
 walk_at "rd"
 refine⟨a,_,_,.int n,rfl,hx,ty,T.vm,xt,?_⟩
 walk_at "rd"
 refine⟨a,_,_,.int n,rfl,hx,ty,T.vm,xt,?_⟩
 walk_at "rd"
 refine⟨_,_,.type "int",false,rfl,.inl ⟨_,rfl⟩,bc.int _,T.cc,?_⟩
 walk_at "rd"
 exact k
theorem vi:qX ["_law_text","_law_caught","_law_e"] ["_law_text"] (z6 jJ):=⟨rfl,rfl,rfl,by decide +kernel,rfl,by decide +kernel,by decide +kernel⟩
set_option maxHeartbeats 400000 in
theorem b8 (T:Txt K mg t):qV P w K mg base jW 10 t.kY t.kK ["_law_text"] yn:=by
 have G_w_no_text:qV P w K mg base jW 9 t.gp t.gg ["_law_e"] (Ve t):=(tH T).mono (by decide)
 have G_v_read:qV P w K mg base (sQ P w) 9 t.mT t.mU ["text"] (Xf t):=(Z6 T).mono (by decide)
 refine T.qG.fn.ok vi (fun vs H Q E h=>(by obtain⟨_,rfl,_⟩:=h;rfl)) (fun cdv A outer s H vs Q E hr h=>?_)
 obtain⟨x,rfl,hx,hR,k0,k1⟩:=h
 refine⟨_,(z8 (qQ (i:=1) vi.nd rfl (Or.inl rfl) vZ)
   (z8 (KJ (Eh:=(Hv t (Txt.split x "; ") H)) (i:=2) (fun _ _ z=>z) rfl rfl vi.nd rfl rfl rfl T.cn (JT (fun _ _ z=>z) G_v_read hr rfl T.rH.mg T.rH.fn.kp T.rH.bd .nil (z0 (pv 0) z7))
   (fun aa=>(qz (qQ (i:=1) vi.nd rfl (Or.inl rfl) (pv 2)))))
   (z8 (qM (qo tP (pv 1) vZ (qZ _))
    (qz (qr vZ)) qt)
   (z8 (qM (wG (jE (qu G_w_no_text hr rfl T.bh.mg T.bh.fn.kp T.bh.bd .nil qJ (z0 (pv 1) z7))))
    (qz (qr (Vl Xe z9))) qt)
   (qz (qr (tR (K:=K) rfl (pv 1) rfl))))))),?_⟩
 refine⟨?_,?_⟩
 ·refine⟨_,rfl,x,rfl,hx,hR,fun n hN c o H' z=>⟨n,hN,z⟩,fun ps as ql rw p H' hS s' _=>?_⟩
  walk_at "rd"
  exact k0 _ H' hS s'
 rintro C a H1 ⟨n,hN,a',ea,ec,s1,hx1⟩
 obtain rfl:a=a':=Option.some.inj ea
 obtain rfl:C=t.qO:=Value.ref.inj ec
 refine⟨T.yt,?_⟩
 walk_at "rd"
 exact⟨a,_,_,.int n,rfl,hx1,T.mV,T.vm,xt,k1 n H1 hN s1⟩
end
theorem ix {rows:List Str} {H:Hp} {Q:VK} {E:XK} (hF:∀x∈rows,cH x) (hl:rows.length≤100) (hne:rows≠[]) (hr:∃r,jr rows=.ok r) (k:∀H',qp H H'→Q .non H'):yn [.str (Txt.join (Str.ofString "; ") rows)] H Q E:=by
 have hsp:Txt.split (Txt.join (Str.ofString "; ") rows) (Str.ofString "; ")=rows:=sm hne fun x hx=>(hF x hx).fr
 have h1:=nV (n:=180) (xs:=rows) fun x hx=>(hF x hx).sh
 have h2:=uW (Str.ofString "; ") rows
 have h3:(Str.ofString "; ").length=2:=by decide +kernel
 rw[h3] at h2
 refine⟨_,rfl,by omega,by rw[hsp];exact⟨by omega,fun x hx=>Nat.le_trans (hF x hx).sh (by decide)⟩,fun r H' e s=>k H' s,fun n H' e s=>?_⟩
 rw[hsp] at e
 obtain⟨r,er⟩:=hr
 rw[er] at e
 cases e
theorem KC {rows:List Str} {n:Nat} {H:Hp} {Q:VK} {E:XK} (hsp:Txt.split (Txt.join (Str.ofString "; ") rows) (Str.ofString "; ")=rows) (hR:mx rows) (hl:(rows.map (·.length)).sum + rows.length * (Str.ofString "; ").length≤59000) (hr:jr rows=.error n) (k:∀H',qp H H'→Q (.int (n:Nat)) H'):yn [.str (Txt.join (Str.ofString "; ") rows)] H Q E:=by
 have h2:=uW (Str.ofString "; ") rows
 refine⟨_,rfl,by omega,by rw[hsp];exact hR,fun r H' e s=>?_,fun m H' e s=>?_⟩
 ·rw[hsp,hr] at e;cases e
 ·rw[hsp,hr] at e;cases e;exact k H' s
theorem Kw:cH (Str.ofString "may"):=by
 have h:59∉(Str.ofString "may").cps.toList∧(Str.ofString "may").length≤180:=by decide +kernel
 exact⟨h.1,h.2⟩
theorem fJ {rows:List Str} {n:Nat} {H:Hp} {Q:VK} {E:XK} (hF:∀x∈rows,cH x) (hl:rows.length≤101) (hne:rows≠[]) (hr:jr rows=.error n) (k:∀H',qp H H'→Q (.int (n:Nat)) H'):yn [.str (Txt.join (Str.ofString "; ") rows)] H Q E:=by
 have h1:=nV (n:=180) (xs:=rows) fun x hx=>(hF x hx).sh
 have h3:(Str.ofString "; ").length=2:=by decide +kernel
 exact KC (sm hne fun x hx=>(hF x hx).fr) ⟨by omega,fun x hx=>Nat.le_trans (hF x hx).sh (by decide)⟩ (by rw[h3];omega) hr k
theorem sum_rows {rows:List Str} (hF:∀x∈rows,cH x) (hl:rows.length≤101):(rows.map (·.length)).sum + rows.length * (Str.ofString "; ").length≤30000:=by
 have h1:=nV (n:=180) (xs:=rows) fun x hx=>(hF x hx).sh
 have h3:(Str.ofString "; ").length=2:=by decide +kernel
 rw[h3];omega
noncomputable def Gg (K:PySem.W.Frag):Sp:=fun vs H Q _=>∃(l:Addr) (r:Nat) (cell:Int) (L:List Str),vs=[.ref l,.int (r:Nat),.int cell]∧H l=some (.lst (L.map V.str))∧Fa L r∧0≤cell∧∀H',qp H H'→Q (.bl true) H'
section
variable {P:Program} {w:World} {K:PySem.W.Frag} {mg:Str→Option Value} {base:Heap} {t:xj}
seal yn
theorem yl:qX ["_law_rows_here","_law_row_here","_law_cell","_law_at","_law_end"] ["_law_rows_here","_law_row_here","_law_cell"] (z6 jX):=⟨rfl,rfl,rfl,by decide +kernel,rfl,by decide +kernel,by decide +kernel⟩
set_option maxHeartbeats 400000 in
theorem cC (T:Txt K mg t):qV P w K mg base jW 11 t.v8 t.vN ["_law_rows_here","_law_row_here","_law_cell"] (Gg K):=by
 have G_w_refused_at:qV P w K mg base jW 10 t.kY t.kK ["_law_text"] yn:=(b8 T).mono (by decide)
 refine T.xY.fn.ok yl (fun vs H Q E h=>(by obtain⟨_,_,_,_,rfl,_⟩:=h;rfl)) (fun cdv A outer s H vs Q E hr h=>?_)
 obtain⟨l,r,cell,L,rfl,hL,hf,c0,k⟩:=h
 refine⟨_,(z8 (qM (qo u5 (qu G_w_refused_at hr rfl T.qG.mg T.qG.fn.kp T.qG.bd .nil qJ (z0 (kB PySem.F.plainAttrs_str PySem.F.slot_str_join PySem.F.type_str_join (wj (K:=K) rfl) qk (z0 (pv 0) z7)) z7)) (pv 1) (qZ _))
    (qz (qr vz)) qt)
   (z8 (qQ (i:=3) yl.nd rfl (Or.inl rfl) (qw qI (pv 2) (qi (qD (K:=K) rfl) rfl T.xw PySem.boot_len (z0 (pv 0) z7))))
   (z8 (qM (qo u5 (qu G_w_refused_at hr rfl T.qG.mg T.qG.fn.kp T.qG.bd .nil qJ (z0 (kB PySem.F.plainAttrs_str PySem.F.slot_str_join PySem.F.type_str_join (wj (K:=K) rfl) qk (z0 (qw wy (qw wy (xg (xn (K:=K) rfl) (pv 0) vt (xp (pv 3))) (jq (z0 qk z7))) (xg (xn (K:=K) rfl) (pv 0) (xp (qw je (pv 3) z9)) vt)) z7)) z7)) (qi (ZH rfl) rfl T.Vj PyProof.Rows.boot_min (z0 (pv 3) (z0 (pv 1) z7))) (qZ _))
    (qz (qr vz)) qt)
   (z8 (qQ (i:=4) yl.nd rfl (Or.inl rfl) (qw je (qw je (pv 1) z9) (qw qI (qw ko (pv 2) z9) (qw bC (qi (qD (K:=K) rfl) rfl T.xw PySem.boot_len (z0 (pv 0) z7)) (pv 1)))))
   (qz (qr (k6 jY (qu G_w_refused_at hr rfl T.qG.mg T.qG.fn.kp T.qG.bd .nil qJ (z0 (kB PySem.F.plainAttrs_str PySem.F.slot_str_join PySem.F.type_str_join (wj (K:=K) rfl) qk (z0 (xg (xn (K:=K) rfl) (pv 0) vt (xp (pv 4))) z7)) z7)) (pv 1) (qZ _)))))))),?_⟩
 have hlt:=hf.lt
 have hlen:=hf.len
 have hne:∀{R:List Str},0 < R.length→R≠[]:=fun {R} h z=>by rw[z] at h;simp at h
 walk_at "rd"
 refine⟨_,l,L,rfl,rfl,qL.of hL,Nat.le_trans (sum_rows hf.ok (by omega)) (by decide),?_⟩
 show yn [.str (Txt.join (Str.ofString "; ") L)] H _ _
 refine fJ hf.ok (by omega) (hne (by omega)) (n:=r) (by have:=hf.bad L.length hlt [];rw[List.take_length,List.append_nil] at this;exact this) fun H1 s1=>?_
 have hL1:=s1 _ _ hL
 walk_at "rd"
 refine⟨l,_,rfl,.inl (qL.of hL1),?_⟩
 rw[List.length_map]
 have m0:0≤cell % (L.length:Int):=Int.emod_nonneg _ (by omega)
 have m1:cell % (L.length:Int) < L.length:=Int.emod_lt_of_pos _ (by omega)
 refine⟨_,_,rfl,rfl,(show (0:Int) < (L.length:Int) by omega),?_⟩
 show gC 3 (V.int (cell % (L.length:Int))) _ _ _
 obtain⟨n,en⟩:=Int.eq_ofNat_of_zero_le m0
 rw[en] at m1 ⊢
 clear en m0
 walk_at "rd"
 rw[pQ]
 intro l2 H2 s2 hl2 e2
 walk_at "rd"
 intro l3 H3 s3 hl3 e3
 refine⟨l2,l3,_,_,rfl,rfl,s3 _ _ e2,e3,qv (by rw[List.length_map,List.length_take];simp only[List.length_cons,List.length_nil];omega),?_⟩
 intro l4 H4 s4 hl4 e4
 have hL4:=s4 _ _ (s3 _ _ (s2 _ _ hL1))
 walk_at "rd"
 rw[show ((n:Nat):Int) + 1=((n + 1:Nat):Int) by omega,gF]
 intro l5 H5 s5 hl5 e5
 refine⟨l4,l5,_,_,rfl,rfl,s5 _ _ e4,e5,qv (by simp only[List.length_append,List.length_map,List.length_take,List.length_drop,List.length_cons,List.length_nil];omega),?_⟩
 intro l6 H6 s6 hl6 e6
 have e6':H6 l6=some (.lst ((L.take n ++ Str.ofString "may" :: L.drop (n + 1)).map V.str)):=by
  rw[e6,List.map_append,List.map_cons,List.append_assoc];rfl
 clear e6
 have hL6:=s6 _ _ (s5 _ _ hL4)
 have sA:qp H H6:=((((s1.trans s2).trans s3).trans s4).trans s5).trans s6
 have hF2:∀x∈L.take n ++ Str.ofString "may" :: L.drop (n + 1),cH x:=fun x hx=>by
  (rcases List.mem_append.mp hx with h | h)
  ·exact hf.ok x (List.mem_of_mem_take h)
  ·(rcases List.mem_cons.mp h with rfl | h)
   ·exact Kw
   ·exact hf.ok x (List.mem_of_mem_drop h)
 have hl2':(L.take n ++ Str.ofString "may" :: L.drop (n + 1)).length≤101:=by rw[List.length_append,List.length_take,List.length_cons,List.length_drop];omega
 walk_at "rd"
 refine⟨_,l6,_,rfl,rfl,qL.of e6',Nat.le_trans (sum_rows hF2 hl2') (by decide),?_⟩
 show yn [.str (Txt.join (Str.ofString "; ") (L.take n ++ Str.ofString "may" :: L.drop (n + 1)))] H6 _ _
 refine fJ hF2 hl2' (by simp) (n:=min n r) ?_ fun H7 s7=>?_
 ·by_cases q:n≤r
  ·rw[Nat.min_eq_left q];exact hf.may n q _
  ·rw[Nat.min_eq_right (by omega)];exact hf.bad n (by omega) _
 have hL7:=s7 _ _ hL6
 walk_at "rd"
 refine jo (fun q=>?_) (fun _=>?_)
 ·exfalso
  have em:((min n r:Nat):Int)=if (r:Int) < (n:Int) then (r:Int) else (n:Int):=by
   by_cases z:r < n
   ·rw[Nat.min_eq_right (by omega),if_pos (by omega)]
   ·rw[Nat.min_eq_left (by omega),if_neg (by omega)]
  rw[em,decide_eq_true rfl] at q
  cases q
 have q0:0≤cell / 97 % ((L.length:Int) - (r:Int)):=Int.emod_nonneg _ (by omega)
 have q1:cell / 97 % ((L.length:Int) - (r:Int)) < (L.length:Int) - (r:Int):=Int.emod_lt_of_pos _ (by omega)
 walk_at "rd"
 refine⟨l,_,rfl,.inl (qL.of hL7),?_⟩
 rw[List.length_map]
 walk_at "rd"
 obtain⟨m,em⟩:=Int.eq_ofNat_of_zero_le (show 0≤(r:Int) + 1 + cell / 97 % ((L.length:Int) - (r:Int)) by omega)
 rw[em,pQ]
 intro l8 H8 s8 hl8 e8
 have hF3:∀x∈L.take m,cH x:=fun x hx=>hf.ok x (List.mem_of_mem_take hx)
 have hl3':(L.take m).length≤101:=by rw[List.length_take];omega
 have hrm:r < m:=by omega
 walk_at "rd"
 refine⟨_,l8,_,rfl,rfl,qL.of e8,Nat.le_trans (sum_rows hF3 hl3') (by decide),?_⟩
 show yn [.str (Txt.join (Str.ofString "; ") (L.take m))] H8 _ _
 refine fJ hF3 hl3' (hne (by rw[List.length_take];omega)) (n:=r) (by have:=hf.bad m hrm [];rw[List.append_nil] at this;exact this) fun H9 s9=>?_
 walk_at "rd"
 have:=k H9 (((sA.trans s7).trans s8).trans s9)
 rw[decide_eq_true rfl]
 exact this
end
theorem Yo {c:Int} {ys:List V} (hlen:ys.length=104) (hp:∀(i:Nat) (v:V),i < 104→ys[i]?=some v→v=.str (g6 c (i:Int))):ys=(NN c).map V.str:=by
 apply List.ext_getElem?
 intro i
 by_cases hi:i < 104
 ·have hi':i < ys.length:=by omega
  rw[List.getElem?_eq_getElem hi',List.getElem?_map]
  unfold NN
  rw[List.getElem?_map,List.getElem?_range hi]
  exact congrArg some (hp i _ hi (List.getElem?_eq_getElem hi'))
 ·rw[List.getElem?_eq_none_iff.mpr (by omega),List.getElem?_eq_none_iff.mpr (by rw[List.length_map,ui];omega)]
noncomputable def nW (n0:Str) (mn:Str × Str):List Ew:=[.lt mn.2 mn.2,.pt mn.2 [n0,n0],.dn]
noncomputable def QF (n0:Str) (ns:List Str) (ql:List (Str × Str)):List Ew:=ns.map (fun n=>.my n n0 n0) ++ ql.flatMap (nW n0)
theorem ZM {J:It} {H:Hp} {xs:List V} {qC:List Nat} {te:TE} {σ:L2.St} {Q:VK} (hJ:nP J H xs) (Pr:Nat→V→Hp→V→Prop) (hsz:xs.length≤sizeLine)
  (m1:∀(i:Nat) (y v:V) (H1 H2:Hp),qp H1 H2→Pr i y H1 v→Pr i y H2 v) (m2:∀(i:Nat) (y v:V) (H1:Hp) (D:Addr) (ys zs:List V),H1 D=some (.lst ys)→Pr i y H1 v→Pr i y (upd H1 D (.lst zs)) v)
  (hs:∀(i:Nat) (y:V) (H':Hp) (Q':VK),xs[i]?=some y→qp H H'→(∀v H4,qp H' H4→Pr i y H4 v→Q' v H4)→te (some y :: wQ σ qC) H' Q')
  (hd:∀(D:Addr) (H':Hp) (ys:List V),qp H H'→H D=none→H' D=some (.lst ys)→ys.length=xs.length→(∀(i:Nat) (y v:V),xs[i]?=some y→ys[i]?=some v→Pr i y H' v)→Q (.ref D) H') :
  au J qC te σ Q H:=by
 intro D hD
 refine⟨fun i m H2=>m=xs.length - i∧i≤xs.length∧qp H H2∧∃ys,H2 D=some (.lst ys)∧ys.length=i∧∀(j:Nat) (y v:V),xs[j]?=some y→ys[j]?=some v→Pr j y H2 v,
  ⟨xs.length,by simp,Nat.zero_le _,qp.dE hD,[],qm,rfl,fun j y v _ e=>by simp at e⟩,?_⟩
 rintro i m H2 ⟨rfl,hi,s2,ys,hy,hl,hp⟩
 obtain⟨j1,j2,j3⟩:=hJ i H2 s2
 by_cases hlt:i < xs.length
 ·refine .inr ⟨j1 hlt,fun y H3 q=>?_⟩
  obtain⟨e3,ey⟩:=j2 y H3 q
  subst e3
  refine hs i y _ _ (ey hlt) s2 fun v H4 s4 pr=>⟨ys,s4 D _ hy,by omega,xs.length - (i + 1),by omega,rfl,hlt,fun b o e=>?_,ys ++ [v],qm,by simp [hl],fun j y' v' e1 e2=>?_⟩
  ·rw[qB (qg e hD)]
   exact s4 b o (s2 b o e)
  ·refine m2 j y' v' H4 D ys _ (s4 D _ hy) ?_
   by_cases hj:j < ys.length
   ·rw[List.getElem?_append_left hj] at e2
    exact m1 _ _ _ _ _ s4 (hp j y' v' e1 e2)
   ·have hje:j=i:=by
     have:=(List.getElem?_eq_some_iff.mp e2).1
     simp at this;omega
    subst hje
    rw[List.getElem?_append_right (by omega),hl,Nat.sub_self] at e2
    rw[ey hlt] at e1
    cases e1
    have:v=v':=by simpa using e2
    subst this
    exact pr
 ·have e:i=xs.length:=by omega
  subst e
  exact .inl ⟨j3 rfl,hd D H2 ys s2 hD hy hl hp⟩
theorem sv {α β:Type} {R:α→β→Prop}:∀{xs:List α} {ys:List β},xs.length=ys.length→(∀(i:Nat) x y,xs[i]?=some x→ys[i]?=some y→R x y)→Paired R xs ys
 | [],[],_,_=>.nil
 | [],_ :: _,h,_=>by simp at h
 | _ :: _,[],h,_=>by simp at h
 | x :: xs,y :: ys,h,k=>.cons (k 0 x y rfl rfl) (sv (by simpa using h) fun i a b e1 e2=>k (i + 1) a b e1 e2)
theorem Xt {n0:Str} {ql:List (Str × Str)} {i:Nat} {mn:Str × Str} (h:ql[i]?=some mn):(ql.take (i + 1)).flatMap (nW n0)=(ql.take i).flatMap (nW n0) ++ nW n0 mn:=by
 rw[take_snoc h,List.flatMap_append,List.flatMap_singleton]
theorem ar {n0:Str} {d:Nat}:∀ns:List Str,cy d (ns.map (fun n=>Ew.my n n0 n0))=some d
 | []=>rfl
 | n :: r=>by
  rw[List.map_cons,cy]
  show (some d).bind _=_
  rw[Option.bind_some]
  exact ar r
theorem ao {n0:Str}:∀ql:List (Str × Str),cy 0 (ql.flatMap (nW n0))=some 0
 | []=>rfl
 | mn :: r=>by
  rw[List.flatMap_cons,ff]
  show (some 0).bind _=_
  rw[Option.bind_some]
  exact ao r
theorem nF {n0:Str}:∀ns:List Str,jC (ns.map (fun n=>Ew.my n n0 n0))=ns
 | []=>rfl
 | n :: r=>by
  have:=nF (n0:=n0) r
  unfold jC at this ⊢
  rw[List.map_cons,List.flatMap_cons,this]
  rfl
theorem nM {n0:Str}:∀ql:List (Str × Str),jC (ql.flatMap (nW n0))=ql.map (·.2)
 | []=>rfl
 | mn :: r=>by
  rw[List.flatMap_cons,yY,nM r]
  rfl
theorem sV {n0:Str}:∀ql:List (Str × Str),(ql.flatMap (nW n0)).length=3 * ql.length
 | []=>rfl
 | mn :: r=>by
  rw[List.flatMap_cons,List.length_append,sV r,List.length_cons]
  show 3 + _=_
  omega
theorem VT {n0:Str} {ps as:List Str} {ql:List (Str × Str)} (h:sJ ps as ql) (hn:qe n0=true):ZK (QF n0 (ps ++ as) ql):=by
 have p2:=h.p2;have a2:=h.a2;have r2:=h.r2
 unfold QF
 refine⟨fun e he=>?_,?_,?_,?_⟩
 ·(rcases List.mem_append.mp he with he | he)
  ·obtain⟨n,hm,rfl⟩:=List.mem_map.mp he
   have:qe n=true:=(List.mem_append.mp hm).elim (h.pn n) (h.an n)
   exact⟨this,.inl hn,hn⟩
  ·obtain⟨mn,hm,hx⟩:=List.mem_flatMap.mp he
   have ho:=(h.rn mn hm).2
   simp only[nW,List.mem_cons,List.not_mem_nil,or_false] at hx
   rcases hx with rfl | rfl | rfl
   ·exact⟨ho,ho⟩
   ·exact⟨ho,fun x hx=>by simp only[List.mem_cons,List.not_mem_nil,or_false] at hx;rcases hx with rfl | rfl<;>exact hn,by simp⟩
   ·exact True.intro
 ·rw[ff,ar,Option.bind_some]
  exact ao ql
 ·rw[yY,nF,nM]
  exact h.nd
 ·rw[List.length_append,List.length_map,List.length_append,sV]
  omega
noncomputable def GR (H:Hp):V→Bool
 | .ref a=>match H a with
  | some (.tup (.str s :: _))=>!QJ (.str s) [.str (Str.ofString "let"),.str (Str.ofString "done")]
  | _=>false
 | _=>false
theorem JD {H:Hp} {v:V} {e:Ew} (h:fj H v e):GR H v=mm e:=by
 obtain⟨p,vs,rfl,hp⟩:=h.tag
 unfold GR
 simp only[hp]
 exact iO e
theorem uQ {H:Hp}:∀{ws:List V} {evs:List Ew},Paired (fj H) ws evs→(ws.filter (GR H)).length=(evs.filter mm).length
 | _,_,.nil=>rfl
 | _,_,.cons h t=>by
  rw[List.filter_cons,List.filter_cons,JD h]
  split
  ·rw[List.length_cons,List.length_cons,uQ t]
  ·exact uQ t
theorem WL (evs:List Ew):(evs.filter mm).length=(pl evs).length:=by
 have e:evs=(List.range evs.length).map fun k=>evs.getD k .dn:=by
  apply List.ext_getElem?
  intro i
  by_cases hi:i < evs.length
  ·rw[List.getElem?_map,List.getElem?_range hi,Option.map_some,List.getD_eq_getElem?_getD,List.getElem?_eq_getElem hi];rfl
  ·rw[List.getElem?_eq_none_iff.mpr (by omega),List.getElem?_eq_none_iff.mpr (by rw[List.length_map,List.length_range];omega)]
 unfold pl
 conv=>lhs;rw[e]
 rw[List.filter_map,List.length_map]
 rfl
theorem Wo {e:Ew} {x:Str} (h:va e≠[]):va (e.nm x)=[x]:=by
 cases e with
 | lt a b=>exact absurd rfl h
 | dn=>exact absurd rfl h
 | _=>rfl
theorem Wi {e:Ew} {x:Str} (h:e.ok) (hx:qe x=true):(e.nm x).ok:=by
 cases e with
 | lt a b=>exact h
 | dn=>exact h
 | mu l w a n r=>exact⟨hx,h.2⟩
 | my l w a=>exact⟨hx,h.2⟩
 | bn l w a r=>exact⟨hx,h.2⟩
 | pw l w a r=>exact⟨hx,h.2⟩
 | pt n rs=>exact⟨hx,h.2⟩
theorem Jf {evs:List Ew} {m:Nat} {x:Str} (h:∀e∈evs,e.ok) (hx:x∈jC (evs.take m)):qe x=true:=by
 unfold jC at hx
 obtain⟨e,he,hx⟩:=List.mem_flatMap.mp hx
 have ho:=h e (List.mem_of_mem_take he)
 cases e with
 | lt a b=>cases hx
 | dn=>cases hx
 | mu l w a n r=>rw[List.mem_singleton.mp hx];exact ho.1
 | my l w a=>rw[List.mem_singleton.mp hx];exact ho.1
 | bn l w a r=>rw[List.mem_singleton.mp hx];exact ho.1
 | pw l w a r=>rw[List.mem_singleton.mp hx];exact ho.1
 | pt n rs=>rw[List.mem_singleton.mp hx];exact ho.1
section
variable {P:Program} {w:World} {K:PySem.W.Frag} {mg:Str→Option Value} {base:Heap} {t:xj}
end
noncomputable def Xh (K:PySem.W.Frag):Sp:=fun vs H Q _=>∃(a:Addr) (ns:List Int),vs=[.ref a]∧qL K H a (ns.map V.int)∧ns.length≤63∧∀H',Q (.bl true) H'
section
variable {P:Program} {w:World} {K:PySem.W.Frag} {mg:Str→Option Value} {base:Heap} {t:xj}
seal yn
theorem jK:qX ["_law_script","_law_names","_law_header_here","_law_events_here","_law_good","_law_cell","_law_first","_law_second","_law_spoilt","_law_row_here","_law_many","_law_other","_law_behind","_law_alike","_law_mark","_law_name_here"] ["_law_script"] (z6 vn):=⟨rfl,rfl,rfl,by decide +kernel,rfl,by decide +kernel,by decide +kernel⟩
set_option maxHeartbeats 6000000 in
theorem JG (T:Txt K mg t):qV P w K mg base jW 12 t.mS t.cT ["_law_script"] (Xh K):=by
 have G_w_cell_at:qV P w K mg base jW 11 t.yj t.w6 ["_law_script","_law_k"] (eM K):=(dc T).mono (by decide)
 have G_w_events:qV P w K mg base jW 11 t.bW t.bJ ["_law_names","_law_script"] (iQ K):=(oS T).mono (by decide)
 have G_w_header:qV P w K mg base jW 11 t.bY t.bX ["_law_names","_law_cell"] (Xw K):=(oN T).mono (by decide)
 have G_w_mix:qV P w K mg base jW 11 t.bG t.bK ["_law_cell","_law_k"] iJ:=(du T).mono (by decide)
 have G_w_name:qV P w K mg base jW 11 t.mN t.mR ["_law_cell","_law_k"] Zl:=(Z7 T).mono (by decide)
 have G_w_refused_at:qV P w K mg base jW 11 t.kY t.kK ["_law_text"] yn:=(b8 T).mono (by decide)
 have G_w_rows:qV P w K mg base jW 11 t.mO t.mL ["_law_header_here","_law_events_here"] (Xd K):=(Z8 T).mono (by decide)
 have G_w_twice_header:qV P w K mg base jW 11 t.kT t.kU ["_law_header_here","_law_first","_law_second"] VQ:=(dt T).mono (by decide)
 have G_w_twice_labels:qV P w K mg base jW 11 t.kN t.kR ["_law_events_here","_law_first","_law_second"] VJ:=(di T).mono (by decide)
 have G_w_two:qV P w K mg base jW 11 t.cE t.cO ["_law_cell","_law_many"] VX:=(JB T).mono (by decide)
 have G_w_two_faults:qV P w K mg base jW 11 t.v8 t.vN ["_law_rows_here","_law_row_here","_law_cell"] (Gg K):=(cC T).mono (by decide)
 refine T.Xa.fn.ok jK (fun vs H Q E h=>(by obtain⟨_,_,rfl,_⟩:=h;rfl)) (fun cdv A outer s H vs Q E hr h=>?_)
 obtain⟨a,ns,rfl,hS,hl,k⟩:=h
 refine⟨_,(z8 (qQ (i:=1) jK.nd rfl (Or.inr rfl) (pL (osc:=z6 vn) (N:=["_law_script","_law_names","_law_header_here","_law_events_here","_law_good","_law_cell","_law_first","_law_second","_law_spoilt","_law_row_here","_law_many","_law_other","_law_behind","_law_alike","_law_mark","_law_name_here"]) (names:=["_law_script"]) (qC:=[0]) rfl rfl rfl ⟨rfl,by decide +kernel,by decide +kernel,by decide +kernel,rfl,rfl,by decide +kernel,by decide +kernel⟩ (vH rfl T.wF (z0 z9 z7)) (fun _ _ _=>(qu G_w_name hr rfl T.rM.mg T.rM.fn.kp T.rM.bd .nil qJ (z0 (qu G_w_mix hr rfl T.jm.mg T.jm.fn.kp T.jm.bd .nil qJ (z0 (qu G_w_cell_at hr rfl T.ju.mg T.ju.fn.kp T.ju.bd .nil qJ (z0 (pv 1) (z0 z9 z7))) (z0 z9 z7))) (z0 (pv 0) z7))))))
   (z8 (qQ (i:=2) jK.nd rfl (Or.inl rfl) (qu G_w_header hr rfl T.fz.mg T.fz.fn.kp T.fz.bd .nil qJ (z0 (pv 1) (z0 (qu G_w_mix hr rfl T.jm.mg T.jm.fn.kp T.jm.bd .nil qJ (z0 (qu G_w_cell_at hr rfl T.ju.mg T.ju.fn.kp T.ju.bd .nil qJ (z0 (pv 0) (z0 z9 z7))) (z0 z9 z7))) z7))))
   (z8 (qQ (i:=3) jK.nd rfl (Or.inl rfl) (qu G_w_events hr rfl T.p9.mg T.p9.fn.kp T.p9.bd .nil qJ (z0 (pv 1) (z0 (pv 0) z7))))
   (z8 (qQ (i:=4) jK.nd rfl (Or.inl rfl) (kB PySem.F.plainAttrs_str PySem.F.slot_str_join PySem.F.type_str_join (wj (K:=K) rfl) qk (z0 (qu G_w_rows hr rfl T.kM.mg T.kM.fn.kp T.kM.bd .nil qJ (z0 (pv 2) (z0 (pv 3) z7))) z7)))
   (z8 (qM (qo uk (qu G_w_refused_at hr rfl T.qG.mg T.qG.fn.kp T.qG.bd .nil qJ (z0 (pv 4) z7)) vZ (qZ _))
    (qz (qr vz)) qt)
   (z8 (qQ (i:=5) jK.nd rfl (Or.inl rfl) (qw ko (qu G_w_cell_at hr rfl T.ju.mg T.ju.fn.kp T.ju.bd .nil qJ (z0 (pv 0) (z0 z9 z7))) z9))
   (z8 (pS (qu G_w_two hr rfl T.cY.mg T.cY.fn.kp T.cY.bd .nil qJ (z0 (qu G_w_mix hr rfl T.jm.mg T.jm.fn.kp T.jm.bd .nil qJ (z0 (pv 5) (z0 z9 z7))) (z0 (qw je (qw je (qi (qD (K:=K) rfl) rfl T.xw PySem.boot_len (z0 (qf (qY (K:=K) rfl) (pv 2) z9 (fun _ _=>rfl)) z7)) (qi (qD (K:=K) rfl) rfl T.xw PySem.boot_len (z0 (qf (qY (K:=K) rfl) (pv 2) z9 (fun _ _=>rfl)) z7))) (qi (qD (K:=K) rfl) rfl T.xw PySem.boot_len (z0 (qf (qY (K:=K) rfl) (pv 2) z9 (fun _ _=>rfl)) z7))) z7))) (yQ (K:=K) rfl rfl (jF (jy (i:=6) jK.nd rfl (Or.inl rfl)) (jF (jy (i:=7) jK.nd rfl (Or.inl rfl)) yJ))))
   (z8 (pS (qu G_w_twice_header hr rfl T.kD.mg T.kD.fn.kp T.kD.bd .nil qJ (z0 (pv 2) (z0 (pv 6) (z0 (pv 7) z7)))) (yQ (K:=K) rfl rfl (jF (jy (i:=8) jK.nd rfl (Or.inl rfl)) (jF (jy (i:=9) jK.nd rfl (Or.inl rfl)) yJ))))
   (z8 (qM (wG (jE (qu G_w_two_faults hr rfl T.xY.mg T.xY.fn.kp T.xY.bd .nil qJ (z0 (qu G_w_rows hr rfl T.kM.mg T.kM.fn.kp T.kM.bd .nil qJ (z0 (pv 8) (z0 (pv 3) z7))) (z0 (pv 9) (z0 (qu G_w_mix hr rfl T.jm.mg T.jm.fn.kp T.jm.bd .nil qJ (z0 (pv 5) (z0 z9 z7))) z7))))))
    (qz (qr vz)) qt)
   (z8 (qQ (i:=10) jK.nd rfl (Or.inl rfl) (qi (qD (K:=K) rfl) rfl T.xw PySem.boot_len (z0 (fZ (osc:=z6 vn) (N:=["_law_script","_law_names","_law_header_here","_law_events_here","_law_good","_law_cell","_law_first","_law_second","_law_spoilt","_law_row_here","_law_many","_law_other","_law_behind","_law_alike","_law_mark","_law_name_here"]) (xs:=["_law_event_here"]) (names:=[]) (qC:=[]) rfl rfl rfl ⟨rfl,by decide +kernel,by decide +kernel,by decide +kernel,by decide +kernel,rfl,by decide +kernel,by decide +kernel⟩ (wc (K:=K) rfl (pv 3)) (fun _ _ _=>(jy (i:=0) (show (["_law_event_here"]:List Str).Nodup from by decide +kernel) rfl (.inl (fH rfl)) (.inr (fH rfl)))) (fun _ _ _=>(Zm (qo (fe (K:=K) rfl) (qf (qY (K:=K) rfl) (pv 0) z9 (fun _ _=>rfl)) (jq (z0 qk (z0 qk z7))) rfl))) (fun _ _ _=>(pv 0))) z7)))
   (z8 (PS.join (qM (qo oE (pv 10) z9 (qZ _))
    (z8 (pS (qu G_w_two hr rfl T.cY.mg T.cY.fn.kp T.cY.bd .nil qJ (z0 (qu G_w_mix hr rfl T.jm.mg T.jm.fn.kp T.jm.bd .nil qJ (z0 (pv 5) (z0 z9 z7))) (z0 (pv 10) z7))) (yQ (K:=K) rfl rfl (jF (jy (i:=6) jK.nd rfl (Or.inl rfl)) (jF (jy (i:=7) jK.nd rfl (Or.inl rfl)) yJ))))
   (z8 (pS (qu G_w_twice_labels hr rfl T.kC.mg T.kC.fn.kp T.kC.bd .nil qJ (z0 (pv 3) (z0 (pv 6) (z0 (pv 7) z7)))) (yQ (K:=K) rfl rfl (jF (jy (i:=11) jK.nd rfl (Or.inl rfl)) (jF (jy (i:=12) jK.nd rfl (Or.inl rfl)) yJ))))
   (z8 (qM (wG (jE (qu G_w_two_faults hr rfl T.xY.mg T.xY.fn.kp T.xY.bd .nil qJ (z0 (qu G_w_rows hr rfl T.kM.mg T.kM.fn.kp T.kM.bd .nil qJ (z0 (pv 2) (z0 (pv 11) z7))) (z0 (qw je (qw je z9 (qi (qD (K:=K) rfl) rfl T.xw PySem.boot_len (z0 (qf (qY (K:=K) rfl) (pv 2) z9 (fun _ _=>rfl)) z7))) (pv 12)) (z0 (qu G_w_mix hr rfl T.jm.mg T.jm.fn.kp T.jm.bd .nil qJ (z0 (pv 5) (z0 z9 z7))) z7))))))
    (qz (qr vz)) qt)
   (qz (qM (qo u5 (qu G_w_refused_at hr rfl T.qG.mg T.qG.fn.kp T.qG.bd .nil qJ (z0 (kB PySem.F.plainAttrs_str PySem.F.slot_str_join PySem.F.type_str_join (wj (K:=K) rfl) qk (z0 (qu G_w_rows hr rfl T.kM.mg T.kM.fn.kp T.kM.bd .nil qJ (z0 (pv 8) (z0 (pv 11) z7))) z7)) z7)) (pv 9) (qZ _))
    (qz (qr vz)) qt))))) qt))
   (z8 (de (i:=13) (osc:=z6 vn) (N:=["_law_script","_law_names","_law_header_here","_law_events_here","_law_good","_law_cell","_law_first","_law_second","_law_spoilt","_law_row_here","_law_many","_law_other","_law_behind","_law_alike","_law_mark","_law_name_here"]) (names:=["_law_names"]) (qC:=[1]) rfl rfl rfl jK.nd ⟨rfl,by decide +kernel,by decide +kernel,by decide +kernel,rfl,rfl,by decide +kernel,by decide +kernel⟩ rfl rfl (wc (K:=K) rfl (qw wy (qf (qY (K:=K) rfl) (pv 2) z9 (fun _ _=>rfl)) (qf (qY (K:=K) rfl) (pv 2) z9 (fun _ _=>rfl)))) (fun _ _ _=>(xr (z0 qk (z0 (pv 0) (z0 (qf (qy (K:=K) rfl) (pv 1) z9 (fun _ _=>rfl)) (z0 (qf (qy (K:=K) rfl) (pv 1) z9 (fun _ _=>rfl)) z7)))))))
   (z8 (pT PassesOwn.never rfl (wc (K:=K) rfl (qf (qY (K:=K) rfl) (pv 2) z9 (fun _ _=>rfl))) (yQ (K:=K) rfl rfl (jF (jy (i:=14) jK.nd rfl (Or.inl rfl)) (jF (jy (i:=15) jK.nd rfl (Or.inl rfl)) yJ)))
    (qz (qQ (i:=13) jK.nd rfl (Or.inl rfl) (qw wy (pv 13) (jq (z0 (xr (z0 qk (z0 (pv 15) (z0 (pv 15) z7)))) (z0 (xr (z0 qk (z0 (pv 15) (z0 (jq (z0 (qf (qy (K:=K) rfl) (pv 1) z9 (fun _ _=>rfl)) (z0 (qf (qy (K:=K) rfl) (pv 1) z9 (fun _ _=>rfl)) z7))) z7)))) (z0 (xr (z0 qk z7)) z7))))))))
   (z8 (qM (qo uk (qu G_w_refused_at hr rfl T.qG.mg T.qG.fn.kp T.qG.bd .nil qJ (z0 (kB PySem.F.plainAttrs_str PySem.F.slot_str_join PySem.F.type_str_join (wj (K:=K) rfl) qk (z0 (qu G_w_rows hr rfl T.kM.mg T.kM.fn.kp T.kM.bd .nil qJ (z0 (pv 2) (z0 (pv 13) z7))) z7)) z7)) vZ (qZ _))
    (qz (qr vz)) qt)
   (qz (qr (k6 tP (qu G_w_refused_at hr rfl T.qG.mg T.qG.fn.kp T.qG.bd .nil qJ (z0 (pv 4) z7)) vZ (qZ _)))))))))))))))))),?_⟩
 walk_at "rd"
 have hc:=md (wJ ns 1) 60
 have hcell:=md (wJ ns 0) 61
 refine gP bL (fun i _ v=>v=.str (g6 (yT (wJ ns 1) 60) (i:Int))) (qv (by decide +kernel)) ?_ ?_
 ·intro i y H' Q' hy s' kk
  have hi:i < 104:=by
   have:=(List.getElem?_eq_some_iff.mp hy).1
   simpa using this
  have hy':y=V.int (0 + (i:Int)):=by
   rw[List.getElem?_map,List.getElem?_range (show i < (104:Int).toNat from hi)] at hy
   exact(Option.some.inj hy).symm
  subst hy'
  refine⟨_,rfl,a,1,ns,rfl,s'.seq hS,by decide,?_⟩
  refine⟨_,_,rfl,by decide,by decide,?_⟩
  refine⟨_,rfl,_,_,rfl,hc.1,by omega,by omega,by omega,fun H4 s4=>?_⟩
  rw[Int.zero_add]
  exact kk _ _ s4 rfl
 intro D H1 ys s1 hD e1 hlen hp
 generalize hcc:yT (wJ ns 1) 60=c at *
 generalize hce:yT (wJ ns 0) 61=cell at *
 obtain rfl:=Yo (c:=c) (ys:=ys) (by rw[hlen];simp) fun i v hi hv=>hp i _ v (by rw[List.getElem?_map,List.getElem?_range (show i < (104:Int).toNat from hi)];rfl) hv
 clear hp hlen
 have hA1:qL K H1 D ((NN c).map V.str):=qL.of e1
 have hS1:=s1.seq hS
 refine⟨_,rfl,_,rfl,a,0,ns,rfl,hS1,by decide,?_⟩
 refine⟨_,_,rfl,by decide,by decide,?_⟩
 rw[hce]
 walk_at "rd"
 refine⟨D,c,cell,rfl,hA1,hcell.1,fun ps as ql p H2 hH s2 hp2 eH=>?_⟩
 have hS2:=s2.seq hS1
 have hA2:=s2.seq hA1
 walk_at "rd"
 refine⟨D,a,c,ns,rfl,hA2,hS2,hl,fun le H3 ws evs s3 hle e3 hP he=>?_⟩
 have hS3:=s3.seq hS2
 have hA3:=s3.seq hA2
 have hel:=he.len
 have eH3:=eH.same s3
 have hh:=hH.hd
 have p1:=hh.p1;have p2:=hh.p2;have a1:=hh.a1;have a2:=hh.a2;have r1:=hh.r1;have r2:=hh.r2
 clear hH eH
 walk_at "rd"
 refine⟨p,le,ps,as,ql,ws,evs,rfl,eH3,hh.w,qL.of e3,hP,he.ok,by omega,fun lr H4 s4 hlr e4=>?_⟩
 have hrl:=@kh ps as ql evs
 have hFr:=ub hh.w he.ok
 have hll:(rowsOf ps as ql evs).length≤100:=by omega
 have jx:∃r,jr (rowsOf ps as ql evs)=.ok r:=(Zd hh he.ok he.dp he.nd (by omega)).1 rfl
 refine⟨_,lr,rowsOf ps as ql evs,rfl,rfl,qL.of e4,Nat.le_trans (sum_rows hFr (by omega)) (by decide),?_⟩
 have hgood:∀{H:Hp} {Q:VK} {E:XK},(∀H',qp H H'→Q .non H')→yn [.str (Txt.join (Str.ofString "; ") (rowsOf ps as ql evs))] H Q E:=fun kk=>ix hFr hll (d0 _ _ _ _) jx kk
 generalize Txt.join (Str.ofString "; ") (rowsOf ps as ql evs)=good at *
 clear jx hFr hll hrl e4 hlr
 walk_at "rd"
 show yn [.str good] H4 _ _
 refine hgood fun H5 s5=>?_
 have s35:qp H3 H5:=s4.trans s5
 have hS5:=s35.seq hS3
 have hA5:=s35.seq hA3
 have eH5:=eH3.same s35
 have e5:=s35 _ _ e3
 have hP5:Paired (fj H5) ws evs:=Paired.imp' (fun _ _ z=>z.same s35) hP
 clear eH3 e3 hP hS3 hA3 hS2 hA2 hS1 hA1 e1 s1 s2 s3 s4 s5 s35 hS
 walk_at "rd"
 refine⟨a,2,ns,rfl,hS5,by decide,?_⟩
 have hcl:=aX ns 2
 obtain⟨lp,la,lq,vs,z1,z2,z3,z4,z5⟩:=id eH5
 have hvl:vs.length=ql.length:=Paired.length z5
 have c20:0≤wJ ns 2 / 2:=Int.ediv_nonneg hcl.1 (by decide)
 refine⟨_,_,rfl,rfl,by walk_at "ar",?_⟩
 show gC 5 (V.int (wJ ns 2 / 2)) [some (.ref a),some (.ref D),some (.ref p),some (.ref le),some (.str good),none,none,none,none,none,none,none,none,none,none,none] _ _
 generalize wJ ns 2 / 2=c2 at *
 have x1:=md c2 1
 have x2:=md c2 2
 have x3:=md c2 3
 have x4:=md c2 4
 clear hcl hS5 hcell hce hc
 walk_at "rd"
 refine⟨lp,_,rfl,.inl (qL.of z2),?_⟩
 rw[List.length_map]
 walk_at "rd"
 refine⟨la,_,rfl,.inl (qL.of z3),?_⟩
 rw[List.length_map]
 walk_at "rd"
 refine⟨lq,_,rfl,.inl (qL.of z4),?_⟩
 rw[hvl]
 walk_at "rd"
 intro i j q6 H6 hij hj s6 e6
 clear z1 z2 z3 z4 z5 hvl
 walk_at "rd"
 refine⟨p,i,j,ps,as,ql,rfl,eH5.same s6,hh,hij,by rw[bj];omega,fun q7 p7 tt H7 ht s7 e7 eH7=>?_⟩
 have hjl:j < (xh ps as ql).length:=by rw[bj];omega
 have hw7:=aE (j:=j) hh (show i < (xh ps as ql).length by omega) ht
 have hfa:∀{ev:List Ew},(∀e∈ev,e.ok)→ev.length≤76→Fa (rowsOf (tt.take ps.length) ((tt.drop ps.length).take as.length) (eK ql (ps.length + as.length) tt) ev) (lx ps.length as.length j):=fun ho hl=>X8 hh ho hl hij hjl ht
 generalize tt.take ps.length=ps7 at *
 generalize (tt.drop ps.length).take as.length=as7 at *
 generalize eK ql (ps.length + as.length) tt=rms7 at *
 generalize lx ps.length as.length j=r7 at *
 clear ht hj hjl e6
 have s57:qp H5 H7:=s6.trans s7
 have hA7:=s57.seq hA5
 have eP7:=eH5.same s57
 have e7e:=s57 _ _ e5
 have hP7:Paired (fj H7) ws evs:=Paired.imp' (fun _ _ z=>z.same s57) hP5
 clear eH5 e5 hP5 hA5 s6 s7 s57
 walk_at "rd"
 refine⟨q7,le,ps7,as7,rms7,ws,evs,rfl,eH7,hw7,qL.of e7e,hP7,he.ok,by omega,fun l8 H8 s8 hl8 e8=>?_⟩
 walk_at "rd"
 refine⟨l8,r7,_,_,rfl,e8,hfa he.ok (by omega),x3.1,fun H9 s9=>?_⟩
 have s79:qp H7 H9:=s8.trans s9
 have hA9:=s79.seq hA7
 have eP9:=eP7.same s79
 have eS9:=eH7.same s79
 have e9:=s79 _ _ e7e
 have hP9:Paired (fj H9) ws evs:=Paired.imp' (fun _ _ z=>z.same s79) hP7
 clear eP7 eH7 e7e hP7 hA7 s8 s9 s79 e8 hl8 e7
 walk_at "rd"
 have hwl:ws.length=evs.length:=Paired.length hP9
 refine aY (yB (qL.of e9)) (GR H9) (fun _ _=>True) (qv (by omega)) ?_ ?_ ?_
 ·intro m y H' Q' hy s' kq
  obtain⟨e,he1,hE⟩:=Paired.Ku hP9 hy
  have hpe:=JD hE
  obtain⟨q,us,rfl,hq⟩:=hE.tag
  have w2:=s' _ _ hq
  refine⟨_,rfl,q,_,_,_,rfl,rfl,yc.of w2,kc (j:=0) rfl,?_⟩
  walk_at "rd"
  intro l2 H2 s2 hl2 e2
  refine⟨l2,_,rfl,.inl (qL.of e2),rfl,rfl,_,rfl,?_⟩
  rw[if_pos rfl,iO]
  have:=kq H2 s2
  rw[hpe] at this
  exact this
 ·intro m y H' Q' hy hp s' kq
  exact⟨_,rfl,kq _ _ (qp.refl _) trivial⟩
 intro Dm H10 ys s10 hDm e10 hPr
 have hml:ys.length=(pl evs).length:=by rw[←WL,←uQ hP9];exact(Paired.length hPr).symm
 have hA10:=s10.seq hA9
 have eP10:=eP9.same s10
 have eS10:=eS9.same s10
 have e310:=s10 _ _ e9
 have hP10:Paired (fj H10) ws evs:=Paired.imp' (fun _ _ z=>z.same s10) hP9
 clear eP9 eS9 e9 hP9 hA9 s10 hPr hDm
 refine⟨Dm,_,rfl,.inl (qL.of e10),?_⟩
 rw[hml]
 clear e10 hml
 show gC 10 (V.int ((pl evs).length:Nat)) [some (.ref a),some (.ref D),some (.ref p),some (.ref le),some (.str good),some (.int c2),some (.int (i:Nat)),some (.int (j:Nat)),some (.ref q7),some (.int (r7:Nat)),none,none,none,none,none,none] _ _
 refine⟨fun σ' H'=>(∃(v6 v7 v11 v12:Option V),σ'=[some (.ref a),some (.ref D),some (.ref p),some (.ref le),some (.str good),some (.int c2),v6,v7,some (.ref q7),some (.int (r7:Nat)),some (.int ((pl evs).length:Nat)),v11,v12,none,none,none]∧qp H10 H')∨False,?_,?_⟩
 ·walk_at "rd"
  refine jo (fun h1=>?_) (fun _=>.inl ⟨_,_,_,_,rfl,qp.refl _⟩)
  have h1':(1:Int) < ((pl evs).length:Nat):=of_decide_eq_true h1
  walk_at "rd"
  intro i2 j2 q11 H11 hij2 hj2 s11 e11
  walk_at "rd"
  refine⟨le,i2,j2,ws,evs,rfl,s11 _ _ e310,Paired.imp' (fun _ _ z=>z.same s11) hP10,by omega,hij2,by omega,fun m x e lo p12 ws' H12 hem hel2 hx s12 e12 elo hP12=>?_⟩
  have hmm:m < evs.length:=(List.getElem?_eq_some_iff.mp hem).1
  have hxn:=Jf he.ok hx
  have ho:(e.nm x).ok:=Wi (he.ok e (List.mem_of_getElem? hem)) hxn
  have hok2:∀q∈evs.set m (e.nm x),q.ok:=fun q hq=>(List.mem_or_eq_of_mem_set hq).elim (he.ok q) (fun z=>by rw[z];exact ho)
  have hfl:=Wz hh he hmm ho (x:=x) (by rw[Wo hel2];exact List.mem_singleton_self _) hx
  have hl2:(evs.set m (e.nm x)).length≤66:=by rw[List.length_set];omega
  generalize evs.set m (e.nm x)=evs2 at *
  clear hx hel2 ho hxn hem
  have s1012:qp H10 H12:=s11.trans s12
  have eP12:=eP10.same s1012
  have eS12:=eS10.same s1012
  walk_at "rd"
  refine⟨p,lo,ps,as,ql,ws',evs2,rfl,eP12,hh.w,qL.of elo,hP12,hok2,by omega,fun l13 H13 s13 hl13 e13=>?_⟩
  obtain⟨lp,la,lq,vs,z1,z2,z3,z4,z5⟩:=eP12.same s13
  have hvl:vs.length=ql.length:=Paired.length z5
  walk_at "rd"
  refine⟨lq,_,rfl,.inl (qL.of z4),?_⟩
  rw[hvl]
  refine⟨_,_,rfl,rfl,?_⟩
  refine⟨_,rfl,_,_,rfl,rfl,?_⟩
  refine⟨_,rfl,c2,4,rfl,by decide,by decide,?_⟩
  refine⟨l13,2 + ql.length + m,yT c2 4,_,by rw[show ((2 + ql.length + m:Nat):Int)=2 + (ql.length:Int) + (m:Int) by omega];rfl,e13,hfl,x4.1,fun H14 s14=>?_⟩
  have s1214:qp H12 H14:=s13.trans s14
  have eS14:=eS12.same s1214
  have elo14:=s1214 _ _ elo
  have hP14:Paired (fj H14) ws' evs2:=Paired.imp' (fun _ _ z=>z.same s1214) hP12
  clear z1 z2 z3 z4 z5 hvl e13 hl13 s13 s14 hP12 elo eS12 eP12
  walk_at "rd"
  refine⟨q7,lo,ps7,as7,rms7,ws',evs2,rfl,eS14,hw7,qL.of elo14,hP14,hok2,by omega,fun l15 H15 s15 hl15 e15=>?_⟩
  have hf2:=hfa hok2 (by omega)
  have hlt2:=hf2.lt
  have hlen2:=hf2.len
  refine⟨_,l15,_,rfl,rfl,qL.of e15,Nat.le_trans (sum_rows hf2.ok (by omega)) (by decide),?_⟩
  show yn [.str (Txt.join (Str.ofString "; ") (rowsOf ps7 as7 rms7 evs2))] H15 _ _
  refine fJ hf2.ok (by omega) (d0 _ _ _ _) (n:=r7) (by have:=hf2.bad _ hlt2 [];rw[List.take_length,List.append_nil] at this;exact this) fun H16 s16=>?_
  walk_at "rd"
  exact .inl ⟨_,_,_,_,rfl,((s1012.trans s1214).trans s15).trans s16⟩
 rintro σ' H11 (⟨v6,v7,v11,v12,rfl,s11⟩ | ⟨⟨⟩⟩)
 have hA11:=s11.seq hA10
 have eP11:=eP10.same s11
 obtain⟨lp,la,lq,vs,z1,z2,z3,z4,z5⟩:=id eP11
 have hvl:vs.length=ql.length:=Paired.length z5
 clear eP10 eS10 e310 hP10 hA10 hfa hw7 s11 x1 x2 x3 x4
 have hN:=ui c
 have g0:(NN c).getD (0:Int).toNat (Str.ofString "")=g6 c 0:=uo c (i:=0) (by decide)
 have n0ok:qe (g6 c 0)=true:=dh c
 have hk:=VT hh n0ok
 have hkl:=hk.len
 walk_at "rd"
 refine⟨lp,la,_,_,rfl,rfl,z2,z3,qv (by rw[List.length_map,List.length_map];omega),?_⟩
 rw[←List.map_append]
 intro l12 H12 s12 hl12 e12
 have hA12:=s12.seq hA11
 walk_at "rd"
 refine ZM (yB (qL.of e12)) (fun i y H v=>∃n,y=V.str n∧(ps ++ as)[i]?=some n∧fj H v (.my n (g6 c 0) (g6 c 0))) (qv (by rw[List.length_map,List.length_append];omega)) ?_ ?_ ?_ ?_
 ·rintro i y v H1 H2 s ⟨n,rfl,hn,hE⟩
  exact⟨n,rfl,hn,hE.same s⟩
 ·rintro i y v H1 D ys zs hD ⟨n,rfl,hn,p,rfl,hp⟩
  exact⟨n,rfl,hn,p,rfl,by rw[qB (fun z=>by rw[z,hD] at hp;cases hp)];exact hp⟩
 ·intro m y H' Q' hy s' kq
  rw[List.getElem?_map] at hy
  obtain⟨n,hn,rfl⟩:=Option.map_eq_some_iff.mp hy
  have hAq:=s'.seq hA12
  walk_at "rd"
  intro p3 H3 s3 hp3 e3
  exact kq _ _ s3 ⟨n,rfl,hn,p3,rfl,by rw[e3,g0]⟩
 intro D13 H13 ys s13 hD13 e13 hlen13 hpr
 have hP13:Paired (fj H13) ys ((ps ++ as).map fun n=>Ew.my n (g6 c 0) (g6 c 0)):=by
  refine sv (by rw[hlen13,List.length_map,List.length_map]) fun i x y e1 e2=>?_
  rw[List.getElem?_map] at e2
  obtain⟨n,hn,rfl⟩:=Option.map_eq_some_iff.mp e2
  obtain⟨n',en',hn',hE⟩:=hpr i (V.str n) x (by rw[List.getElem?_map,hn];rfl) e1
  cases en'
  exact hE
 clear hpr hlen13
 have s1113:qp H11 H13:=s12.trans s13
 have y1:=s1113 _ _ z1
 have y4:=s1113 _ _ z4
 have y5:Paired (ka H13) vs ql:=Paired.imp' (fun _ _ z=>z.same s1113) z5
 have hA13:=s1113.seq hA11
 have eP13:=eP11.same s1113
 clear z1 z2 z3 z4 z5 eP11 hA11 hA12 e12 s12 s13 s1113
 walk_at "rd"
 refine uJ (K:=K) (a:=lq) (xs:=vs) (fun i σ H'=>∃(lw:Addr) (ws:List V) (v14 v15:Option V),σ=[some (.ref a),some (.ref D),some (.ref p),some (.ref le),some (.str good),some (.int c2),v6,v7,some (.ref q7),some (.int (r7:Nat)),some (.int ((pl evs).length:Nat)),v11,v12,some (.ref lw),v14,v15]∧qp H13 H'∧H' lw=some (.lst ws)∧Paired (fj H') ws ((ps ++ as).map (fun n=>Ew.my n (g6 c 0) (g6 c 0)) ++ (ql.take i).flatMap (nW (g6 c 0))))
  ⟨D13,ys,none,none,rfl,qp.refl _,e13,by rw[List.take_zero,List.flatMap_nil,List.append_nil];exact hP13⟩ (fun i σ H' _ ⟨_,_,_,_,_,q,_⟩=>qL.of (q _ _ y4)) ?_ ?_
 ·rintro i y σ H14 hi ⟨lw,ws,v14,v15,rfl,s14,e14,hP14⟩
  obtain⟨mn,hmn,q,rfl,eq⟩:=Paired.Ku y5 hi
  have hi':i < ql.length:=(List.getElem?_eq_some_iff.mp hmn).1
  have eq2:=s14 _ _ eq
  have hA14:=s14.seq hA13
  have hwl:ws.length≤50:=by
   have:=Paired.length hP14
   rw[List.length_append,List.length_map,List.length_append,sV,List.length_take] at this
   omega
  refine⟨q,_,rfl,yc.of eq2,rfl,_,_,rfl,_,_,rfl,rfl,?_⟩
  walk_at "rd"
  intro t1 H15 s15 ht1 f1
  have hA15:=s15.seq hA14
  walk_at "rd"
  rw[g0]
  intro t2 H16 s16 ht2 f2
  walk_at "rd"
  intro t3 H17 s17 ht3 f3
  walk_at "rd"
  intro t4 H18 s18 ht4 f4
  walk_at "rd"
  intro t5 H19 s19 ht5 f5
  have s1419:qp H14 H19:=(((s15.trans s16).trans s17).trans s18).trans s19
  refine⟨lw,t5,_,_,rfl,rfl,s1419 _ _ e14,f5,qv (by simp only[List.length_cons,List.length_nil];omega),?_⟩
  intro t6 H20 s20 ht6 f6
  have s1420:=s1419.trans s20
  refine⟨t6,_,_,_,rfl,s14.trans s1420,f6,?_⟩
  rw[Xt hmn,←List.append_assoc]
  refine Paired.app (Paired.imp' (fun _ _ z=>z.same s1420) hP14) ?_
  refine .cons ⟨t1,rfl,s20 _ _ (s19 _ _ (s18 _ _ (s17 _ _ (s16 _ _ f1))))⟩ (.cons ⟨t3,t2,rfl,s20 _ _ (s19 _ _ (s18 _ _ f3)),s20 _ _ (s19 _ _ (s18 _ _ (s17 _ _ f2)))⟩ (.cons ⟨t4,rfl,s20 _ _ (s19 _ _ f4)⟩ .nil))
 rintro σ H14 ⟨lw,ws,v14,v15,rfl,s14,e14,hP14⟩
 rw[hvl,List.take_length] at hP14
 have hP14':Paired (fj H14) ws (QF (g6 c 0) (ps ++ as) ql):=hP14
 have eP14:=eP13.same s14
 have hkF:=ub hh.w hk.ok
 have hkl2:(rowsOf ps as ql (QF (g6 c 0) (ps ++ as) ql)).length≤100:=by rw[kh];omega
 walk_at "rd"
 refine⟨p,lw,ps,as,ql,ws,_,rfl,eP14,hh.w,qL.of e14,hP14',hk.ok,by omega,fun l15 H15 s15 hl15 e15=>?_⟩
 refine⟨_,l15,_,rfl,rfl,qL.of e15,Nat.le_trans (sum_rows hkF (by omega)) (by decide),?_⟩
 show yn [.str (Txt.join (Str.ofString "; ") (rowsOf ps as ql (QF (g6 c 0) (ps ++ as) ql)))] H15 _ _
 refine ix hkF hkl2 (d0 _ _ _ _) ((Zd hh hk.ok hk.dp hk.nd (by omega)).1 rfl) fun H16 s16=>?_
 walk_at "rd"
 show yn [.str good] H16 _ _
 refine hgood fun H17 s17=>?_
 walk_at "rd"
 exact k H17
theorem ZA (T:Txt K mg t) (s:Shared) (u:Value):BindsTo s t.cT ⟨[u],[]⟩ [("_law_script",u)]:=by
 obtain⟨oc,od,kV,doc,pm,an,cdv,ct,osl,e,_⟩:=T.Xa.fn.ex
 rw[e]
 exact .of_eq rfl
theorem Z0 {H:Hp} {a:Addr} {ns:List Int} (hl:ns.length≤63) (_:QP H) (hS:qL K H a (ns.map V.int)):Xh K [.ref a] H (fun v _=>v=.bl true) fun _ _ _=>False:=
 ⟨a,ns,rfl,hS,hl,fun _=>rfl⟩
end
theorem Kq:(19:Nat)≤sizeLine:=qv (by decide)
theorem Kj {t0 t1 t2 t3 t4 t5 t6 t7 t8 t9 t10 t11 t12 t13 t14 t15 t16 t17 t18:Tok}:Vals (gd.map V.str) ([.str "acts" t0,.str "any" t1,.str "be" t2,.str "by" t3,.str "calm" t4,.str "done" t5,.str "else" t6,.str "end" t7,.str "in" t8,.str "let" t9,.str "may" t10,.str "must" t11,.str "not" t12,.str "part" t13,.str "parties" t14,.str "rest" t15,.str "sore" t16,.str "to" t17,.str "whole" t18]:List Value):=by
 repeat (first | exact .nil | refine .cons ⟨_,rfl⟩ ?_)
theorem Jb:(3:Nat)≤sizeLine:=qv (by decide)
theorem Jp {t0 t1 t2:Tok}:Vals (xy.map V.str) ([.str "calm" t0,.str "sore" t1,.str "end" t2]:List Value):=by
 repeat (first | exact .nil | refine .cons ⟨_,rfl⟩ ?_)
set_option maxHeartbeats 4000000 in
theorem Yh {K:PySem.W.Frag} {h:Heap} {mg:Str→Option Value} (X:K.In h) (G:h.Ns mainGlobals mg)
  {za zb zc zd ze zf zg zh zi zj zk zl zm zn zo zp zq zr zs zt zu zv zw zx zy zz zA zB zC zD zE zF zG zH zI zJ zK zL zM zN zO zP zQ zR zS zT zU zV zW zX zY zZ zaa zab zac zad zae zaf zag zah zai zaj zak zal zam zan zao zap zaq zar zas zat zau:Addr}
  {zav zaw:Option Addr} {zax:Array (Option Value)} {zay zaz zaA zaB zaC zaD:Value}
  {zaE zaF:Option Addr} {zaG:Array (Option Value)} {zaH zaI zaJ zaK zaL zaM:Value}
  {zaN zaO:Option Addr} {zaP:Array (Option Value)} {zaQ zaR zaS zaT zaU zaV:Value}
  {zaW zaX:Option Addr} {zaY:Array (Option Value)} {zaZ zba zbb zbc zbd zbe:Value}
  {zbf zbg:Option Addr} {zbh:Array (Option Value)} {zbi zbj zbk zbl zbm zbn:Value}
  {zbo zbp:Option Addr} {zbq:Array (Option Value)} {zbr zbs zbt zbu zbv zbw:Value}
  {zbx zby:Option Addr} {zbz:Array (Option Value)} {zbA zbB zbC zbD zbE zbF:Value}
  {zbG zbH:Option Addr} {zbI:Array (Option Value)} {zbJ zbK zbL zbM zbN zbO:Value}
  {zbP zbQ:Option Addr} {zbR:Array (Option Value)} {zbS zbT zbU zbV zbW zbX:Value}
  {zbY zbZ:Option Addr} {zca:Array (Option Value)} {zcb zcc zcd zce zcf zcg:Value}
  {zch zci:Option Addr} {zcj:Array (Option Value)} {zck zcl zcm zcn zco zcp:Value}
  {zcq zcr:Option Addr} {zcs:Array (Option Value)} {zct zcu zcv zcw zcx zcy:Value}
  {zcz zcA:Option Addr} {zcB:Array (Option Value)} {zcC zcD zcE zcF zcG zcH:Value}
  {zcI zcJ:Option Addr} {zcK:Array (Option Value)} {zcL zcM zcN zcO zcP zcQ:Value}
  {zcR zcS:Option Addr} {zcT:Array (Option Value)} {zcU zcV zcW zcX zcY zcZ:Value}
  {zda zdb:Option Addr} {zdc:Array (Option Value)} {zdd zde zdf zdg zdh zdi:Value}
  {zdj zdk:Option Addr} {zdl:Array (Option Value)} {zdm zdn zdo zdp zdq zdr:Value}
  {zds zdt:Option Addr} {zdu:Array (Option Value)} {zdv zdw zdx zdy zdz zdA:Value}
  {zdB zdC:Option Addr} {zdD:Array (Option Value)} {zdE zdF zdG zdH zdI zdJ:Value}
  {zdK zdL:Option Addr} {zdM:Array (Option Value)} {zdN zdO zdP zdQ zdR zdS:Value}
  {zdT zdU:Option Addr} {zdV:Array (Option Value)} {zdW zdX zdY zdZ zea zeb:Value}
  {zec zed:Option Addr} {zee:Array (Option Value)} {zef zeg zeh zei zej zek:Value}
  {zel zem:Option Addr} {zen:Array (Option Value)} {zeo zep zeq zer zes zet:Value}
  {zeu zev:Option Addr} {zew:Array (Option Value)} {zex zey zez zeA zeB zeC:Value}
  {zeD zeE:Option Addr} {zeF:Array (Option Value)} {zeG zeH zeI zeJ zeK zeL:Value}
  {zeM zeN:Option Addr} {zeO:Array (Option Value)} {zeP zeQ zeR zeS zeT zeU:Value}
  {zeV zeW:Option Addr} {zeX:Array (Option Value)} {zeY zeZ zfa zfb zfc zfd:Value}
  {zfe zff:Option Addr} {zfg:Array (Option Value)} {zfh zfi zfj zfk zfl zfm:Value}
  {zfn zfo:Option Addr} {zfp:Array (Option Value)} {zfq zfr zfs zft zfu zfv:Value}
  {zfw zfx:Option Addr} {zfy:Array (Option Value)} {zfz zfA zfB zfC zfD zfE:Value}
  {zfF zfG:Option Addr} {zfH:Array (Option Value)} {zfI zfJ zfK zfL zfM zfN:Value}
  {zfO zfP:Option Addr} {zfQ:Array (Option Value)} {zfR zfS zfT zfU zfV zfW:Value}
  {zfX zfY:Option Addr} {zfZ:Array (Option Value)} {zga zgb zgc zgd zge zgf:Value}
  {zgg zgh:Option Addr} {zgi:Array (Option Value)} {zgj zgk zgl zgm zgn zgo:Value}
  {zgp zgq:Option Addr} {zgr:Array (Option Value)} {zgs zgt zgu zgv zgw zgx:Value}
  {zgy zgz:Option Addr} {zgA:Array (Option Value)} {zgB zgC zgD zgE zgF zgG:Value}
  {zgH zgI:Option Addr} {zgJ:Array (Option Value)} {zgK zgL zgM zgN zgO zgP:Value}
  {zgQ zgR:Option Addr} {zgS:Array (Option Value)} {zgT zgU zgV zgW zgX zgY:Value}
  {zgZ zha:Option Addr} {zhb:Array (Option Value)} {zhc zhd zhe zhf zhg zhh:Value}
  {zhi zhj:Option Addr} {zhk:Array (Option Value)} {zhl zhm zhn zho zhp zhq:Value}
  {zhr zhs:Option Addr} {zht:Array (Option Value)} {zhu zhv zhw zhx zhy zhz:Value}
  {zhA zhB:Option Addr} {zhC:Array (Option Value)} {zhD zhE zhF zhG zhH zhI:Value}
  {zhJ zhK:Option Addr} {zhL:Array (Option Value)} {zhM zhN zhO zhP zhQ zhR:Value}
  {zhS zhT:Option Addr} {zhU:Array (Option Value)} {zhV zhW zhX zhY zhZ zia:Value}
  {zib zic:Option Addr} {zid:Array (Option Value)} {zie zif zig zih zii zij:Value}
  {zik zil:Option Addr} {zim:Array (Option Value)} {zin zio ziq zir zis zit:Value}
  {ziu ziv:Option Addr} {ziw:Array (Option Value)} {zix ziy ziz ziA ziB ziC:Value}
  {ziD ziE:Option Addr} {ziF:Array (Option Value)} {ziG ziH ziI ziJ ziK ziL:Value}
  {ziM ziN:Option Addr} {ziO:Array (Option Value)} {ziP ziQ ziR ziS ziT ziU:Value}
  {ziV ziW:Option Addr} {ziX:Array (Option Value)} {ziY ziZ zja zjb zjc zjd:Value}
  {zje zjf zjg zjh zji zjj zjk zjl zjm zjn:Tok}
  {zjo:Obj} {zjp:Obj} {zjq:Obj} {zjr:Obj}
  (zjs:PySem.W.nsIn K mainGlobals "PactError" = some (some (.ref zY)))
  (zjt:PySem.W.nsIn K mainGlobals "NoText" = some (some (.ref zZ)))
  (zju:PySem.W.nsIn K mainGlobals "NoName" = some (some (.ref zaa)))
  (zjv:PySem.W.nsIn K mainGlobals "CalmRoom" = some (some (.ref zab)))
  (zjw:PySem.W.nsIn K mainGlobals "NoDeed" = some (some (.ref zac)))
  (zjx:PySem.W.nsIn K mainGlobals "TooMany" = some (some (.ref zad)))
  (zjy:PySem.W.nsIn K mainGlobals "Breach" = some (some (.ref zae)))
  (zjz:PySem.W.nsIn K mainGlobals "NoStand" = some (some (.ref zaf)))
  (zjA:PySem.W.nsIn K mainGlobals "NoPair" = some (some (.ref zag)))
  (zjB:PySem.W.nsIn K mainGlobals "NoChange" = some (some (.ref zah)))
  (zjC:PySem.W.nsIn K mainGlobals "NoRow" = some (some (.ref zai)))
  (zjD:PySem.W.nsIn K mainGlobals "Row" = some (some (.ref zaj)))
  (zjE:PySem.W.nsIn K mainGlobals "Clause" = some (some (.ref zak)))
  (zjF:PySem.W.nsIn K mainGlobals "Duty" = some (some (.ref zal)))
  (zjG:PySem.W.nsIn K mainGlobals "Leave" = some (some (.ref zam)))
  (zjH:PySem.W.nsIn K mainGlobals "Ban" = some (some (.ref zan)))
  (zjI:PySem.W.nsIn K mainGlobals "Power" = some (some (.ref zao)))
  (zjJ:PySem.W.nsIn K mainGlobals "Let" = some (some (.ref zap)))
  (zjK:PySem.W.nsIn K mainGlobals "Part" = some (some (.ref zaq)))
  (zjL:PySem.W.nsIn K mainGlobals "Pact" = some (some (.ref zar)))
  (zjM:PySem.W.nsIn K mainGlobals "Body" = some (some (.ref zas)))
  (zjN:PySem.W.nsIn K mainGlobals "KEPT" = some (some (.ref zat)))
  (zjO:PySem.W.nsIn K mainGlobals "LETTERS" = some (some (.str "abcdefghijklmnopqrstuvwxyz" zje)))
  (zjP:PySem.W.nsIn K mainGlobals "FIGURES" = some (some (.str "0123456789" zjf)))
  (zjQ:PySem.W.nsIn K mainGlobals "MOST_LETTERS" = some (some (.int 8 zjg)))
  (zjR:PySem.W.nsIn K mainGlobals "MOST_FIGURES" = some (some (.int 20 zjh)))
  (zjS:PySem.W.nsIn K mainGlobals "MARKS" = some (some (.ref zau)))
  (zjT:PySem.W.nsIn K mainGlobals "MOST_ROOMS" = some (some (.int 12 zji)))
  (zjU:PySem.W.nsIn K mainGlobals "MOST_PARTIES" = some (some (.int 4 zjj)))
  (zjV:PySem.W.nsIn K mainGlobals "MOST_ACTS" = some (some (.int 6 zjk)))
  (zjW:PySem.W.nsIn K mainGlobals "MOST_ROWS" = some (some (.int 90 zjl)))
  (zjX:PySem.W.nsIn K mainGlobals "MOST_OPEN" = some (some (.int 6 zjm)))
  (zjY:PySem.W.nsIn K mainGlobals "FIRST_ROOM" = some (some (.int 2 zjn)))
  (zjZ:PySem.W.findIn K (.ref zZ) "__init__" = some (some (.ref za)))
  (zka:K.lookup za=some ⟨zay,zav,.func (PySem.W.fnOf "__init__" "NoText.__init__" (qx jS) (qq jS) (z6 jS) .none zaz zaA zaB zaw zaC zaD),zax⟩)
  (zkb:PySem.W.codeIn K zaC "NoText.__init__" = true)
  (zkc:PySem.W.keepIn K (.ref za)=true)
  (zkd:PySem.W.findIn K (.ref zak) "__init__" = some (some (.ref zb)))
  (zke:K.lookup zb=some ⟨zaH,zaE,.func (PySem.W.fnOf "__init__" "Clause.__init__" (qx jL) (qq jL) (z6 jL) .none zaI zaJ zaK zaF zaL zaM),zaG⟩)
  (zkf:PySem.W.codeIn K zaL "Clause.__init__" = true)
  (zkg:PySem.W.keepIn K (.ref zb)=true)
  (zkh:PySem.W.findIn K (.ref zak) "number" = some (some (.ref zc)))
  (zki:K.lookup zc=some ⟨zaQ,zaN,.func (PySem.W.fnOf "number" "Clause.number" (qx jG) (qq jG) (z6 jG) .none zaR zaS zaT zaO zaU zaV),zaP⟩)
  (zkj:PySem.W.codeIn K zaU "Clause.number" = true)
  (zkk:PySem.W.keepIn K (.ref zc)=true)
  (zkl:PySem.W.findIn K (.ref zal) "__init__" = some (some (.ref zd)))
  (zkm:K.lookup zd=some ⟨zaZ,zaW,.func (PySem.W.fnOf "__init__" "Duty.__init__" (qx xi) (qq xi) (z6 xi) .none zba zbb zbc zaX zbd zbe),zaY⟩)
  (zkn:PySem.W.codeIn K zbd "Duty.__init__" = true)
  (zko:PySem.W.keepIn K (.ref zd)=true)
  (zkp:PySem.W.findIn K (.ref zal) "number" = some (some (.ref ze)))
  (zkq:K.lookup ze=some ⟨zbi,zbf,.func (PySem.W.fnOf "number" "Duty.number" (qx xx) (qq xx) (z6 xx) .none zbj zbk zbl zbg zbm zbn),zbh⟩)
  (zkr:PySem.W.codeIn K zbm "Duty.number" = true)
  (zks:PySem.W.keepIn K (.ref ze)=true)
  (zkt:PySem.W.findIn K (.ref zan) "__init__" = some (some (.ref zf)))
  (zku:K.lookup zf=some ⟨zbr,zbo,.func (PySem.W.fnOf "__init__" "Ban.__init__" (qx x9) (qq x9) (z6 x9) .none zbs zbt zbu zbp zbv zbw),zbq⟩)
  (zkv:PySem.W.codeIn K zbv "Ban.__init__" = true)
  (zkw:PySem.W.keepIn K (.ref zf)=true)
  (zkx:PySem.W.findIn K (.ref zao) "__init__" = some (some (.ref zg)))
  (zky:K.lookup zg=some ⟨zbA,zbx,.func (PySem.W.fnOf "__init__" "Power.__init__" (qx j9) (qq j9) (z6 j9) .none zbB zbC zbD zby zbE zbF),zbz⟩)
  (zkz:PySem.W.codeIn K zbE "Power.__init__" = true)
  (zkA:PySem.W.keepIn K (.ref zg)=true)
  (zkB:PySem.W.findIn K (.ref zap) "__init__" = some (some (.ref zh)))
  (zkC:K.lookup zh=some ⟨zbJ,zbG,.func (PySem.W.fnOf "__init__" "Let.__init__" (qx kz) (qq kz) (z6 kz) .none zbK zbL zbM zbH zbN zbO),zbI⟩)
  (zkD:PySem.W.codeIn K zbN "Let.__init__" = true)
  (zkE:PySem.W.keepIn K (.ref zh)=true)
  (zkF:PySem.W.findIn K (.ref zaq) "__init__" = some (some (.ref zi)))
  (zkG:K.lookup zi=some ⟨zbS,zbP,.func (PySem.W.fnOf "__init__" "Part.__init__" (qx xZ) (qq xZ) (z6 xZ) .none zbT zbU zbV zbQ zbW zbX),zbR⟩)
  (zkH:PySem.W.codeIn K zbW "Part.__init__" = true)
  (zkI:PySem.W.keepIn K (.ref zi)=true)
  (zkJ:PySem.W.findIn K (.ref zar) "__init__" = some (some (.ref zj)))
  (zkK:K.lookup zj=some ⟨zcb,zbY,.func (PySem.W.fnOf "__init__" "Pact.__init__" (qx xa) (qq xa) (z6 xa) .none zcc zcd zce zbZ zcf zcg),zca⟩)
  (zkL:PySem.W.codeIn K zcf "Pact.__init__" = true)
  (zkM:PySem.W.keepIn K (.ref zj)=true)
  (zkN:PySem.W.nsIn K mainGlobals "is_name" = some (some (.ref zk)))
  (zkO:K.lookup zk=some ⟨zck,zch,.func (PySem.W.fnOf "is_name" "is_name" (qx xQ) (qq xQ) (z6 xQ) .none zcl zcm zcn zci zco zcp),zcj⟩)
  (zkP:PySem.W.codeIn K zco "is_name" = true)
  (zkQ:PySem.W.keepIn K (.ref zk)=true)
  (zkR:PySem.W.nsIn K mainGlobals "number_of" = some (some (.ref zl)))
  (zkS:K.lookup zl=some ⟨zct,zcq,.func (PySem.W.fnOf "number_of" "number_of" (qx jN) (qq jN) (z6 jN) .none zcu zcv zcw zcr zcx zcy),zcs⟩)
  (zkT:PySem.W.codeIn K zcx "number_of" = true)
  (zkU:PySem.W.keepIn K (.ref zl)=true)
  (zkV:PySem.W.nsIn K mainGlobals "written_with" = some (some (.ref zm)))
  (zkW:K.lookup zm=some ⟨zcC,zcz,.func (PySem.W.fnOf "written_with" "written_with" (qx qA) (qq qA) (z6 qA) .none zcD zcE zcF zcA zcG zcH),zcB⟩)
  (zkX:PySem.W.codeIn K zcG "written_with" = true)
  (zkY:PySem.W.keepIn K (.ref zm)=true)
  (zkZ:PySem.W.nsIn K mainGlobals "names_of" = some (some (.ref zn)))
  (zla:K.lookup zn=some ⟨zcL,zcI,.func (PySem.W.fnOf "names_of" "names_of" (qx xq) (qq xq) (z6 xq) .none zcM zcN zcO zcJ zcP zcQ),zcK⟩)
  (zlb:PySem.W.codeIn K zcP "names_of" = true)
  (zlc:PySem.W.keepIn K (.ref zn)=true)
  (zld:PySem.W.nsIn K mainGlobals "are_names" = some (some (.ref zo)))
  (zle:K.lookup zo=some ⟨zcU,zcR,.func (PySem.W.fnOf "are_names" "are_names" (qx jl) (qq jl) (z6 jl) .none zcV zcW zcX zcS zcY zcZ),zcT⟩)
  (zlf:PySem.W.codeIn K zcY "are_names" = true)
  (zlg:PySem.W.keepIn K (.ref zo)=true)
  (zlh:PySem.W.nsIn K mainGlobals "room_of" = some (some (.ref zp)))
  (zli:K.lookup zp=some ⟨zdd,zda,.func (PySem.W.fnOf "room_of" "room_of" (qx xX) (qq xX) (z6 xX) .none zde zdf zdg zdb zdh zdi),zdc⟩)
  (zlj:PySem.W.codeIn K zdh "room_of" = true)
  (zlk:PySem.W.keepIn K (.ref zp)=true)
  (zll:PySem.W.nsIn K mainGlobals "let_of" = some (some (.ref zq)))
  (zlm:K.lookup zq=some ⟨zdm,zdj,.func (PySem.W.fnOf "let_of" "let_of" (qx kj) (qq kj) (z6 kj) .none zdn zdo zdp zdk zdq zdr),zdl⟩)
  (zln:PySem.W.codeIn K zdq "let_of" = true)
  (zlo:PySem.W.keepIn K (.ref zq)=true)
  (zlp:PySem.W.nsIn K mainGlobals "part_of" = some (some (.ref zr)))
  (zlq:K.lookup zr=some ⟨zdv,zds,.func (PySem.W.fnOf "part_of" "part_of" (qx xJ) (qq xJ) (z6 xJ) .none zdw zdx zdy zdt zdz zdA),zdu⟩)
  (zlr:PySem.W.codeIn K zdz "part_of" = true)
  (zls:PySem.W.keepIn K (.ref zr)=true)
  (zlt:PySem.W.nsIn K mainGlobals "clause_of" = some (some (.ref zs)))
  (zlu:K.lookup zs=some ⟨zdE,zdB,.func (PySem.W.fnOf "clause_of" "clause_of" (qx jT) (qq jT) (z6 jT) .none zdF zdG zdH zdC zdI zdJ),zdD⟩)
  (zlv:PySem.W.codeIn K zdI "clause_of" = true)
  (zlw:PySem.W.keepIn K (.ref zs)=true)
  (zlx:PySem.W.nsIn K mainGlobals "fits_form" = some (some (.ref zt)))
  (zly:K.lookup zt=some ⟨zdN,zdK,.func (PySem.W.fnOf "fits_form" "fits_form" (qx jt) (qq jt) (z6 jt) .none zdO zdP zdQ zdL zdR zdS),zdM⟩)
  (zlz:PySem.W.codeIn K zdR "fits_form" = true)
  (zlA:PySem.W.keepIn K (.ref zt)=true)
  (zlB:PySem.W.nsIn K mainGlobals "fits_place" = some (some (.ref zu)))
  (zlC:K.lookup zu=some ⟨zdW,zdT,.func (PySem.W.fnOf "fits_place" "fits_place" (qx ja) (qq ja) (z6 ja) .none zdX zdY zdZ zdU zea zeb),zdV⟩)
  (zlD:PySem.W.codeIn K zea "fits_place" = true)
  (zlE:PySem.W.keepIn K (.ref zu)=true)
  (zlF:PySem.W.nsIn K mainGlobals "read" = some (some (.ref zv)))
  (zlG:K.lookup zv=some ⟨zef,zec,.func (PySem.W.fnOf "read" "read" (qx wt) (qq wt) (z6 wt) .none zeg zeh zei zed zej zek),zee⟩)
  (zlH:PySem.W.codeIn K zej "read" = true)
  (zlI:PySem.W.keepIn K (.ref zv)=true)
  (zlJ:PySem.W.nsIn K mainGlobals "read_names" = some (some (.ref zw)))
  (zlK:K.lookup zw=some ⟨zeo,zel,.func (PySem.W.fnOf "read_names" "read_names" (qx jZ) (qq jZ) (z6 jZ) .none zep zeq zer zem zes zet),zen⟩)
  (zlL:PySem.W.codeIn K zes "read_names" = true)
  (zlM:PySem.W.keepIn K (.ref zw)=true)
  (zlN:PySem.W.nsIn K mainGlobals "told_once" = some (some (.ref zx)))
  (zlO:K.lookup zx=some ⟨zex,zeu,.func (PySem.W.fnOf "told_once" "told_once" (qx jO) (qq jO) (z6 jO) .none zey zez zeA zev zeB zeC),zew⟩)
  (zlP:PySem.W.codeIn K zeB "told_once" = true)
  (zlQ:PySem.W.keepIn K (.ref zx)=true)
  (zlR:PySem.W.nsIn K mainGlobals "read_rooms" = some (some (.ref zy)))
  (zlS:K.lookup zy=some ⟨zeG,zeD,.func (PySem.W.fnOf "read_rooms" "read_rooms" (qx jc) (qq jc) (z6 jc) .none zeH zeI zeJ zeE zeK zeL),zeF⟩)
  (zlT:PySem.W.codeIn K zeK "read_rooms" = true)
  (zlU:PySem.W.keepIn K (.ref zy)=true)
  (zlV:PySem.W.nsIn K mainGlobals "read_whole" = some (some (.ref zz)))
  (zlW:K.lookup zz=some ⟨zeP,zeM,.func (PySem.W.fnOf "read_whole" "read_whole" (qx jQ) (qq jQ) (z6 jQ) .none zeQ zeR zeS zeN zeT zeU),zeO⟩)
  (zlX:PySem.W.codeIn K zeT "read_whole" = true)
  (zlY:PySem.W.keepIn K (.ref zz)=true)
  (zlZ:PySem.W.findIn K (.ref zas) "__init__" = some (some (.ref zA)))
  (zma:K.lookup zA=some ⟨zeY,zeV,.func (PySem.W.fnOf "__init__" "Body.__init__" (qx xo) (qq xo) (z6 xo) .none zeZ zfa zfb zeW zfc zfd),zeX⟩)
  (zmb:PySem.W.codeIn K zfc "Body.__init__" = true)
  (zmc:PySem.W.keepIn K (.ref zA)=true)
  (zmd:PySem.W.findIn K (.ref zas) "many_open" = some (some (.ref zB)))
  (zme:K.lookup zB=some ⟨zfh,zfe,.func (PySem.W.fnOf "many_open" "Body.many_open" (qx jg) (qq jg) (z6 jg) .none zfi zfj zfk zff zfl zfm),zfg⟩)
  (zmf:PySem.W.codeIn K zfl "Body.many_open" = true)
  (zmg:PySem.W.keepIn K (.ref zB)=true)
  (zmh:PySem.W.findIn K (.ref zas) "takes" = some (some (.ref zC)))
  (zmi:K.lookup zC=some ⟨zfq,zfn,.func (PySem.W.fnOf "takes" "Body.takes" (qx j8) (qq j8) (z6 j8) .none zfr zfs zft zfo zfu zfv),zfp⟩)
  (zmj:PySem.W.codeIn K zfu "Body.takes" = true)
  (zmk:PySem.W.keepIn K (.ref zC)=true)
  (zml:PySem.W.findIn K (.ref zas) "takes_done" = some (some (.ref zD)))
  (zmm:K.lookup zD=some ⟨zfz,zfw,.func (PySem.W.fnOf "takes_done" "Body.takes_done" (qx jk) (qq jk) (z6 jk) .none zfA zfB zfC zfx zfD zfE),zfy⟩)
  (zmn:PySem.W.codeIn K zfD "Body.takes_done" = true)
  (zmo:PySem.W.keepIn K (.ref zD)=true)
  (zmp:PySem.W.findIn K (.ref zas) "takes_head" = some (some (.ref zE)))
  (zmq:K.lookup zE=some ⟨zfI,zfF,.func (PySem.W.fnOf "takes_head" "Body.takes_head" (qx jv) (qq jv) (z6 jv) .none zfJ zfK zfL zfG zfM zfN),zfH⟩)
  (zmr:PySem.W.codeIn K zfM "Body.takes_head" = true)
  (zms:PySem.W.keepIn K (.ref zE)=true)
  (zmt:PySem.W.findIn K (.ref zas) "takes_clause" = some (some (.ref zF)))
  (zmu:K.lookup zF=some ⟨zfR,zfO,.func (PySem.W.fnOf "takes_clause" "Body.takes_clause" (qx qS) (qq qS) (z6 qS) .none zfS zfT zfU zfP zfV zfW),zfQ⟩)
  (zmv:PySem.W.codeIn K zfV "Body.takes_clause" = true)
  (zmw:PySem.W.keepIn K (.ref zF)=true)
  (zmx:PySem.W.findIn K (.ref zas) "put_in" = some (some (.ref zG)))
  (zmy:K.lookup zG=some ⟨zga,zfX,.func (PySem.W.fnOf "put_in" "Body.put_in" (qx jR) (qq jR) (z6 jR) .none zgb zgc zgd zfY zge zgf),zfZ⟩)
  (zmz:PySem.W.codeIn K zge "Body.put_in" = true)
  (zmA:PySem.W.keepIn K (.ref zG)=true)
  (zmB:PySem.W.findIn K (.ref zas) "closed" = some (some (.ref zH)))
  (zmC:K.lookup zH=some ⟨zgj,zgg,.func (PySem.W.fnOf "closed" "Body.closed" (qx jU) (qq jU) (z6 jU) .none zgk zgl zgm zgh zgn zgo),zgi⟩)
  (zmD:PySem.W.codeIn K zgn "Body.closed" = true)
  (zmE:PySem.W.keepIn K (.ref zH)=true)
  (zmF:PySem.W.nsIn K mainGlobals "_law_cell_at" = some (some (.ref zI)))
  (zmG:K.lookup zI=some ⟨zgs,zgp,.func (PySem.W.fnOf "_law_cell_at" "_law_cell_at" (qx xK) (qq xK) (z6 xK) .none zgt zgu zgv zgq zgw zgx),zgr⟩)
  (zmH:PySem.W.codeIn K zgw "_law_cell_at" = true)
  (zmI:PySem.W.keepIn K (.ref zI)=true)
  (zmJ:PySem.W.nsIn K mainGlobals "_law_mix" = some (some (.ref zJ)))
  (zmK:K.lookup zJ=some ⟨zgB,zgy,.func (PySem.W.fnOf "_law_mix" "_law_mix" (qx yX) (qq yX) (z6 yX) .none zgC zgD zgE zgz zgF zgG),zgA⟩)
  (zmL:PySem.W.codeIn K zgF "_law_mix" = true)
  (zmM:PySem.W.keepIn K (.ref zJ)=true)
  (zmN:PySem.W.nsIn K mainGlobals "_law_name" = some (some (.ref zK)))
  (zmO:K.lookup zK=some ⟨zgK,zgH,.func (PySem.W.fnOf "_law_name" "_law_name" (qx wo) (qq wo) (z6 wo) .none zgL zgM zgN zgI zgO zgP),zgJ⟩)
  (zmP:PySem.W.codeIn K zgO "_law_name" = true)
  (zmQ:PySem.W.keepIn K (.ref zK)=true)
  (zmR:PySem.W.nsIn K mainGlobals "_law_event" = some (some (.ref zL)))
  (zmS:K.lookup zL=some ⟨zgT,zgQ,.func (PySem.W.fnOf "_law_event" "_law_event" (qx xU) (qq xU) (z6 xU) .none zgU zgV zgW zgR zgX zgY),zgS⟩)
  (zmT:PySem.W.codeIn K zgX "_law_event" = true)
  (zmU:PySem.W.keepIn K (.ref zL)=true)
  (zmV:PySem.W.nsIn K mainGlobals "_law_events" = some (some (.ref zM)))
  (zmW:K.lookup zM=some ⟨zhc,zgZ,.func (PySem.W.fnOf "_law_events" "_law_events" (qx kx) (qq kx) (z6 kx) .none zhd zhe zhf zha zhg zhh),zhb⟩)
  (zmX:PySem.W.codeIn K zhg "_law_events" = true)
  (zmY:PySem.W.keepIn K (.ref zM)=true)
  (zmZ:PySem.W.nsIn K mainGlobals "_law_header" = some (some (.ref zN)))
  (zna:K.lookup zN=some ⟨zhl,zhi,.func (PySem.W.fnOf "_law_header" "_law_header" (qx ky) (qq ky) (z6 ky) .none zhm zhn zho zhj zhp zhq),zhk⟩)
  (znb:PySem.W.codeIn K zhp "_law_header" = true)
  (znc:PySem.W.keepIn K (.ref zN)=true)
  (znd:PySem.W.nsIn K mainGlobals "_law_row" = some (some (.ref zO)))
  (zne:K.lookup zO=some ⟨zhu,zhr,.func (PySem.W.fnOf "_law_row" "_law_row" (qx yK) (qq yK) (z6 yK) .none zhv zhw zhx zhs zhy zhz),zht⟩)
  (znf:PySem.W.codeIn K zhy "_law_row" = true)
  (zng:PySem.W.keepIn K (.ref zO)=true)
  (znh:PySem.W.nsIn K mainGlobals "_law_rows" = some (some (.ref zP)))
  (zni:K.lookup zP=some ⟨zhD,zhA,.func (PySem.W.fnOf "_law_rows" "_law_rows" (qx vd) (qq vd) (z6 vd) .none zhE zhF zhG zhB zhH zhI),zhC⟩)
  (znj:PySem.W.codeIn K zhH "_law_rows" = true)
  (znk:PySem.W.keepIn K (.ref zP)=true)
  (znl:PySem.W.nsIn K mainGlobals "_law_no_text" = some (some (.ref zQ)))
  (znm:K.lookup zQ=some ⟨zhM,zhJ,.func (PySem.W.fnOf "_law_no_text" "_law_no_text" (qx xV) (qq xV) (z6 xV) .none zhN zhO zhP zhK zhQ zhR),zhL⟩)
  (znn:PySem.W.codeIn K zhQ "_law_no_text" = true)
  (zno:PySem.W.keepIn K (.ref zQ)=true)
  (znp:PySem.W.nsIn K mainGlobals "_law_refused_at" = some (some (.ref zR)))
  (znq:K.lookup zR=some ⟨zhV,zhS,.func (PySem.W.fnOf "_law_refused_at" "_law_refused_at" (qx jJ) (qq jJ) (z6 jJ) .none zhW zhX zhY zhT zhZ zia),zhU⟩)
  (znr:PySem.W.codeIn K zhZ "_law_refused_at" = true)
  (zns:PySem.W.keepIn K (.ref zR)=true)
  (znt:PySem.W.nsIn K mainGlobals "_law_named" = some (some (.ref zS)))
  (znu:K.lookup zS=some ⟨zie,zib,.func (PySem.W.fnOf "_law_named" "_law_named" (qx k7) (qq k7) (z6 k7) .none zif zig zih zic zii zij),zid⟩)
  (znv:PySem.W.codeIn K zii "_law_named" = true)
  (znw:PySem.W.keepIn K (.ref zS)=true)
  (znx:PySem.W.nsIn K mainGlobals "_law_twice_header" = some (some (.ref zT)))
  (zny:K.lookup zT=some ⟨zin,zik,.func (PySem.W.fnOf "_law_twice_header" "_law_twice_header" (qx q9) (qq q9) (z6 q9) .none zio ziq zir zil zis zit),zim⟩)
  (znz:PySem.W.codeIn K zis "_law_twice_header" = true)
  (znA:PySem.W.keepIn K (.ref zT)=true)
  (znB:PySem.W.nsIn K mainGlobals "_law_twice_labels" = some (some (.ref zU)))
  (znC:K.lookup zU=some ⟨zix,ziu,.func (PySem.W.fnOf "_law_twice_labels" "_law_twice_labels" (qx jz) (qq jz) (z6 jz) .none ziy ziz ziA ziv ziB ziC),ziw⟩)
  (znD:PySem.W.codeIn K ziB "_law_twice_labels" = true)
  (znE:PySem.W.keepIn K (.ref zU)=true)
  (znF:PySem.W.nsIn K mainGlobals "_law_two_faults" = some (some (.ref zV)))
  (znG:K.lookup zV=some ⟨ziG,ziD,.func (PySem.W.fnOf "_law_two_faults" "_law_two_faults" (qx jX) (qq jX) (z6 jX) .none ziH ziI ziJ ziE ziK ziL),ziF⟩)
  (znH:PySem.W.codeIn K ziK "_law_two_faults" = true)
  (znI:PySem.W.keepIn K (.ref zV)=true)
  (znJ:PySem.W.nsIn K mainGlobals "_law_two" = some (some (.ref zW)))
  (znK:K.lookup zW=some ⟨ziP,ziM,.func (PySem.W.fnOf "_law_two" "_law_two" (qx yV) (qq yV) (z6 yV) .none ziQ ziR ziS ziN ziT ziU),ziO⟩)
  (znL:PySem.W.codeIn K ziT "_law_two" = true)
  (znM:PySem.W.keepIn K (.ref zW)=true)
  (znN:PySem.W.nsIn K mainGlobals "law" = some (some (.ref zX)))
  (znO:K.lookup zX=some ⟨ziY,ziV,.func (PySem.W.fnOf "law" "law" (qx vn) (qq vn) (z6 vn) .none ziZ zja zjb ziW zjc zjd),ziX⟩)
  (znP:PySem.W.codeIn K zjc "law" = true)
  (znQ:PySem.W.keepIn K (.ref zX)=true)
  (znR:PySem.W.nsIn K mainGlobals "list" = some none)
  (znS:PySem.W.nsIn K mainGlobals "len" = some none)
  (znT:PySem.W.nsIn K mainGlobals "range" = some none)
  (znU:PySem.W.nsIn K mainGlobals "all" = some none)
  (znV:PySem.W.nsIn K mainGlobals "int" = some none)
  (znW:PySem.W.nsIn K mainGlobals "str" = some none)
  (znX:PySem.W.nsIn K mainGlobals "isinstance" = some none)
  (znY:PySem.W.nsIn K mainGlobals "bool" = some none)
  (znZ:PySem.W.nsIn K mainGlobals "min" = some none)
  (zoa:PySem.W.nsIn K mainGlobals "zip" = some none)
  (zob:PySem.W.nsIn K mainGlobals "ValueError" = some none)
  (zoc:PySem.W.nsIn K mainGlobals "set" = some none)
  (zod:K.lookup zat=some zjo)
  (zoe:∃(its:Array Value) (n:Nat),zjo.cls=.type "tuple"∧zjo.data=.seq its n∧its.size≤sizeLine∧Vals (gd.map V.str) its.toList)
  (zof:K.lookup zau=some zjp)
  (zog:∃(its:Array Value) (n:Nat),zjp.cls=.type "tuple"∧zjp.data=.seq its n∧its.size≤sizeLine∧Vals (xy.map V.str) its.toList)
  (zoh:PySem.W.plainGet K zak Str.empty=true)
  (zoi:PySem.W.hasDictIn K zak=true)
  (zoj:PySem.W.plainOver K zak=true)
  (zok:PySem.W.findIn K (.ref zak) "__setattr__" = some (some (.builtin "object.__setattr__")))
  (zol:PySem.W.findIn K (.ref zak) "act" = some none)
  (zom:PySem.W.findIn K (.ref zak) "label" = some none)
  (zon:PySem.W.findIn K (.ref zak) "room" = some none)
  (zoo:PySem.W.findIn K (.ref zak) "turns" = some none)
  (zop:PySem.W.findIn K (.ref zak) "who" = some none)
  (zoq:PySem.W.makesIn K zak=true)
  (zor:PySem.W.findIn K (.ref zak) "__init__" = some (some (.ref zb)))
  (zos:PySem.W.isFn K (.ref zb)=true)
  (zot:PySem.W.keepIn K (.ref zak)=true)
  (zou:PySem.W.plainGet K zal Str.empty=true)
  (zov:PySem.W.hasDictIn K zal=true)
  (zow:PySem.W.plainOver K zal=true)
  (zox:PySem.W.findIn K (.ref zal) "__setattr__" = some (some (.builtin "object.__setattr__")))
  (zoy:PySem.W.findIn K (.ref zal) "act" = some none)
  (zoz:PySem.W.findIn K (.ref zal) "label" = some none)
  (zoA:PySem.W.findIn K (.ref zal) "room" = some none)
  (zoB:PySem.W.findIn K (.ref zal) "turns" = some none)
  (zoC:PySem.W.findIn K (.ref zal) "who" = some none)
  (zoD:PySem.W.makesIn K zal=true)
  (zoE:PySem.W.findIn K (.ref zal) "__init__" = some (some (.ref zd)))
  (zoF:PySem.W.isFn K (.ref zd)=true)
  (zoG:PySem.W.keepIn K (.ref zal)=true)
  (zoH:PySem.W.plainGet K zam Str.empty=true)
  (zoI:PySem.W.hasDictIn K zam=true)
  (zoJ:PySem.W.plainOver K zam=true)
  (zoK:PySem.W.findIn K (.ref zam) "__setattr__" = some (some (.builtin "object.__setattr__")))
  (zoL:PySem.W.findIn K (.ref zam) "act" = some none)
  (zoM:PySem.W.findIn K (.ref zam) "label" = some none)
  (zoN:PySem.W.findIn K (.ref zam) "room" = some none)
  (zoO:PySem.W.findIn K (.ref zam) "turns" = some none)
  (zoP:PySem.W.findIn K (.ref zam) "who" = some none)
  (zoQ:PySem.W.makesIn K zam=true)
  (zoR:PySem.W.findIn K (.ref zam) "__init__" = some (some (.ref zb)))
  (zoS:PySem.W.isFn K (.ref zb)=true)
  (zoT:PySem.W.keepIn K (.ref zam)=true)
  (zoU:PySem.W.plainGet K zan Str.empty=true)
  (zoV:PySem.W.hasDictIn K zan=true)
  (zoW:PySem.W.plainOver K zan=true)
  (zoX:PySem.W.findIn K (.ref zan) "__setattr__" = some (some (.builtin "object.__setattr__")))
  (zoY:PySem.W.findIn K (.ref zan) "act" = some none)
  (zoZ:PySem.W.findIn K (.ref zan) "label" = some none)
  (zpa:PySem.W.findIn K (.ref zan) "room" = some none)
  (zpb:PySem.W.findIn K (.ref zan) "turns" = some none)
  (zpc:PySem.W.findIn K (.ref zan) "who" = some none)
  (zpd:PySem.W.makesIn K zan=true)
  (zpe:PySem.W.findIn K (.ref zan) "__init__" = some (some (.ref zf)))
  (zpf:PySem.W.isFn K (.ref zf)=true)
  (zpg:PySem.W.keepIn K (.ref zan)=true)
  (zph:PySem.W.plainGet K zao Str.empty=true)
  (zpi:PySem.W.hasDictIn K zao=true)
  (zpj:PySem.W.plainOver K zao=true)
  (zpk:PySem.W.findIn K (.ref zao) "__setattr__" = some (some (.builtin "object.__setattr__")))
  (zpl:PySem.W.findIn K (.ref zao) "act" = some none)
  (zpm:PySem.W.findIn K (.ref zao) "label" = some none)
  (zpn:PySem.W.findIn K (.ref zao) "room" = some none)
  (zpo:PySem.W.findIn K (.ref zao) "turns" = some none)
  (zpp:PySem.W.findIn K (.ref zao) "who" = some none)
  (zpq:PySem.W.makesIn K zao=true)
  (zpr:PySem.W.findIn K (.ref zao) "__init__" = some (some (.ref zg)))
  (zps:PySem.W.isFn K (.ref zg)=true)
  (zpt:PySem.W.keepIn K (.ref zao)=true)
  (zpu:PySem.W.plainGet K zap Str.empty=true)
  (zpv:PySem.W.hasDictIn K zap=true)
  (zpw:PySem.W.plainOver K zap=true)
  (zpx:PySem.W.findIn K (.ref zap) "__setattr__" = some (some (.builtin "object.__setattr__")))
  (zpy:PySem.W.findIn K (.ref zap) "name" = some none)
  (zpz:PySem.W.findIn K (.ref zap) "value" = some none)
  (zpA:PySem.W.makesIn K zap=true)
  (zpB:PySem.W.findIn K (.ref zap) "__init__" = some (some (.ref zh)))
  (zpC:PySem.W.isFn K (.ref zh)=true)
  (zpD:PySem.W.keepIn K (.ref zap)=true)
  (zpE:PySem.W.plainGet K zaq Str.empty=true)
  (zpF:PySem.W.hasDictIn K zaq=true)
  (zpG:PySem.W.plainOver K zaq=true)
  (zpH:PySem.W.findIn K (.ref zaq) "__setattr__" = some (some (.builtin "object.__setattr__")))
  (zpI:PySem.W.findIn K (.ref zaq) "name" = some none)
  (zpJ:PySem.W.findIn K (.ref zaq) "rooms" = some none)
  (zpK:PySem.W.findIn K (.ref zaq) "rows" = some none)
  (zpL:PySem.W.makesIn K zaq=true)
  (zpM:PySem.W.findIn K (.ref zaq) "__init__" = some (some (.ref zi)))
  (zpN:PySem.W.isFn K (.ref zi)=true)
  (zpO:PySem.W.keepIn K (.ref zaq)=true)
  (zpP:PySem.W.plainGet K zar Str.empty=true)
  (zpQ:PySem.W.hasDictIn K zar=true)
  (zpR:PySem.W.plainOver K zar=true)
  (zpS:PySem.W.findIn K (.ref zar) "__setattr__" = some (some (.builtin "object.__setattr__")))
  (zpT:PySem.W.findIn K (.ref zar) "acts" = some none)
  (zpU:PySem.W.findIn K (.ref zar) "parties" = some none)
  (zpV:PySem.W.findIn K (.ref zar) "rooms" = some none)
  (zpW:PySem.W.findIn K (.ref zar) "whole" = some none)
  (zpX:PySem.W.makesIn K zar=true)
  (zpY:PySem.W.findIn K (.ref zar) "__init__" = some (some (.ref zj)))
  (zpZ:PySem.W.isFn K (.ref zj)=true)
  (zqa:PySem.W.keepIn K (.ref zar)=true)
  (zqb:PySem.W.plainGet K zas Str.empty=true)
  (zqc:PySem.W.hasDictIn K zas=true)
  (zqd:PySem.W.plainOver K zas=true)
  (zqe:PySem.W.findIn K (.ref zas) "__setattr__" = some (some (.builtin "object.__setattr__")))
  (zqf:PySem.W.findIn K (.ref zas) "bodies" = some none)
  (zqg:PySem.W.findIn K (.ref zas) "heads" = some none)
  (zqh:PySem.W.findIn K (.ref zas) "labels" = some none)
  (zqi:PySem.W.makesIn K zas=true)
  (zqj:PySem.W.findIn K (.ref zas) "__init__" = some (some (.ref zA)))
  (zqk:PySem.W.isFn K (.ref zA)=true)
  (zql:PySem.W.keepIn K (.ref zas)=true)
  (zqm:PySem.W.findIn K (.ref zas) "many_open" = some (some (.ref zB)))
  (zqn:PySem.W.isFn K (.ref zB)=true)
  (zqo:PySem.W.findIn K (.ref zas) "takes" = some (some (.ref zC)))
  (zqp:PySem.W.isFn K (.ref zC)=true)
  (zqq:PySem.W.findIn K (.ref zas) "takes_done" = some (some (.ref zD)))
  (zqr:PySem.W.isFn K (.ref zD)=true)
  (zqs:PySem.W.findIn K (.ref zas) "takes_head" = some (some (.ref zE)))
  (zqt:PySem.W.isFn K (.ref zE)=true)
  (zqu:PySem.W.findIn K (.ref zas) "takes_clause" = some (some (.ref zF)))
  (zqv:PySem.W.isFn K (.ref zF)=true)
  (zqw:PySem.W.findIn K (.ref zas) "put_in" = some (some (.ref zG)))
  (zqx:PySem.W.isFn K (.ref zG)=true)
  (zqy:PySem.W.findIn K (.ref zas) "closed" = some (some (.ref zH)))
  (zqz:PySem.W.isFn K (.ref zH)=true)
  (zqA:K.lookup zY=some zjq)
  (zqB:Ys zY zjq=true)
  (zqC:K.lookup zZ=some zjr)
  (zqD:Ys zZ zjr=true)
  (zqE:PySem.W.findIn K (.ref zZ) "__setattr__" = some (some (.builtin "object.__setattr__")))
  (zqF:PySem.W.findIn K (.ref zZ) "__getattribute__" = some (some (.builtin "BaseException.__getattribute__")))
  (zqG:PySem.W.findIn K (.ref zZ) "__getattr__" = some none)
  (zqH:PySem.W.mroIn K zZ (.type "BaseException")=some true)
  (zqI:PySem.W.hasDictIn K zZ=true)
  (zqJ:PySem.W.findIn K (.ref zZ) "__class__" = some (some (.builtin "object.__class__")))
  (zqK:PySem.W.specialIn K (.builtin "object.__class__") "__get__" = some (some (.builtin "getset_descriptor.__get__")))
  (zqL:PySem.W.takesIn K (.builtin "object.__class__")=some true)
  (zqM:PySem.W.mroIn K zZ (.type "object")=some true)
  (zqN:PySem.W.findIn K (.ref zZ) "__init__" = some (some (.ref za)))
  (zqO:PySem.W.isFn K (.ref za)=true)
  (zqP:PySem.W.keepIn K (.ref zZ)=true)
  (zqQ:PySem.W.findIn K (.ref zZ) "row" = some none)
  (zqR:PySem.W.subIn K (.ref zY) (.type "BaseException")=some true)
  (zqS:PySem.W.typeIn K (.ref zY)=some (.type "type"))
  (zqT:PySem.W.subIn K (.ref zZ) (.ref zY)=some true)
  (zqU:PySem.W.specialIn K (.ref zak) "__getattribute__" = some (some (.builtin "type.__getattribute__")))
  (zqV:PySem.W.readsIn K zak (.type "type")=true)
  (zqW:PySem.W.findCls K (.ref zak) (.type "type") "__init__" = some (.val (.ref zb)))
  (zqX:PySem.W.specialIn K (.ref zam) "__getattribute__" = some (some (.builtin "type.__getattribute__")))
  (zqY:PySem.W.readsIn K zam (.type "type")=true)
  (zqZ:PySem.W.findCls K (.ref zam) (.type "type") "__init__" = some (.val (.ref zb)))
  (zra:PySem.W.kitOne K (.ref zZ) (.ref zaa)=some false)
  (zrb:PySem.W.kitOne K (.ref zZ) (.ref zab)=some false)
  (zrc:PySem.W.kitOne K (.ref zZ) (.ref zac)=some false)
  (zrd:PySem.W.kitOne K (.ref zZ) (.ref zad)=some false)
  (zre:PySem.W.kitOne K (.ref zZ) (.ref zae)=some false)
  (zrf:PySem.W.kitOne K (.ref zZ) (.ref zaf)=some false)
  (zrg:PySem.W.kitOne K (.ref zZ) (.ref zag)=some false)
  (zrh:PySem.W.kitOne K (.ref zZ) (.ref zah)=some false)
  (zri:PySem.W.kitOne K (.ref zZ) (.ref zai)=some false)
  (zrj:PySem.W.kitOne K (.ref zZ) (.ref zZ)=some true)
  (zrk:PySem.W.kitOne K (.ref zZ) (.type "ValueError")=some true)
  (zrl:PySem.W.kitOne K (.type "int") (.type "bool")=some false)
  : ∃t:xj,Txt K mg t∧mg "law" = some (.ref t.mS):=by
 have F_NoText_init:=qP (st:=jS) zka zkb zkc
 have B_NoText_init:=F_NoText_init.binds (ps:=["self","row"]) fun _ _ _ _ _ _ us hl=>match us,hl with | [_,_],_=>rfl
 have F_Clause_init:=qP (st:=jL) zke zkf zkg
 have B_Clause_init:=F_Clause_init.binds (ps:=["self","label","who","act"]) fun _ _ _ _ _ _ us hl=>match us,hl with | [_,_,_,_],_=>rfl
 have F_Clause_number:=qP (st:=jG) zki zkj zkk
 have B_Clause_number:=F_Clause_number.binds (ps:=["self"]) fun _ _ _ _ _ _ us hl=>match us,hl with | [_],_=>rfl
 have F_Duty_init:=qP (st:=xi) zkm zkn zko
 have B_Duty_init:=F_Duty_init.binds (ps:=["self","label","who","act","turns","room"]) fun _ _ _ _ _ _ us hl=>match us,hl with | [_,_,_,_,_,_],_=>rfl
 have F_Duty_number:=qP (st:=xx) zkq zkr zks
 have B_Duty_number:=F_Duty_number.binds (ps:=["self"]) fun _ _ _ _ _ _ us hl=>match us,hl with | [_],_=>rfl
 have F_Ban_init:=qP (st:=x9) zku zkv zkw
 have B_Ban_init:=F_Ban_init.binds (ps:=["self","label","who","act","room"]) fun _ _ _ _ _ _ us hl=>match us,hl with | [_,_,_,_,_],_=>rfl
 have F_Power_init:=qP (st:=j9) zky zkz zkA
 have B_Power_init:=F_Power_init.binds (ps:=["self","label","who","act","room"]) fun _ _ _ _ _ _ us hl=>match us,hl with | [_,_,_,_,_],_=>rfl
 have F_Let_init:=qP (st:=kz) zkC zkD zkE
 have B_Let_init:=F_Let_init.binds (ps:=["self","name","value"]) fun _ _ _ _ _ _ us hl=>match us,hl with | [_,_,_],_=>rfl
 have F_Part_init:=qP (st:=xZ) zkG zkH zkI
 have B_Part_init:=F_Part_init.binds (ps:=["self","name","rooms","rows"]) fun _ _ _ _ _ _ us hl=>match us,hl with | [_,_,_,_],_=>rfl
 have F_Pact_init:=qP (st:=xa) zkK zkL zkM
 have B_Pact_init:=F_Pact_init.binds (ps:=["self","parties","acts","rooms","whole"]) fun _ _ _ _ _ _ us hl=>match us,hl with | [_,_,_,_,_],_=>rfl
 have F_v_is_name:=qP (st:=xQ) zkO zkP zkQ
 have B_v_is_name:=F_v_is_name.binds (ps:=["word"]) fun _ _ _ _ _ _ us hl=>match us,hl with | [_],_=>rfl
 have F_v_number_of:=qP (st:=jN) zkS zkT zkU
 have B_v_number_of:=F_v_number_of.binds (ps:=["word"]) fun _ _ _ _ _ _ us hl=>match us,hl with | [_],_=>rfl
 have F_v_written_with:=qP (st:=qA) zkW zkX zkY
 have B_v_written_with:=F_v_written_with.binds (ps:=["word","signs","most"]) fun _ _ _ _ _ _ us hl=>match us,hl with | [_,_,_],_=>rfl
 have F_v_names_of:=qP (st:=xq) zla zlb zlc
 have B_v_names_of:=F_v_names_of.binds (ps:=["row","word","most"]) fun _ _ _ _ _ _ us hl=>match us,hl with | [_,_,_],_=>rfl
 have F_v_are_names:=qP (st:=jl) zle zlf zlg
 have B_v_are_names:=F_v_are_names.binds (ps:=["words","most"]) fun _ _ _ _ _ _ us hl=>match us,hl with | [_,_],_=>rfl
 have F_v_room_of:=qP (st:=xX) zli zlj zlk
 have B_v_room_of:=F_v_room_of.binds (ps:=["row"]) fun _ _ _ _ _ _ us hl=>match us,hl with | [_],_=>rfl
 have F_v_let_of:=qP (st:=kj) zlm zln zlo
 have B_v_let_of:=F_v_let_of.binds (ps:=["row"]) fun _ _ _ _ _ _ us hl=>match us,hl with | [_],_=>rfl
 have F_v_part_of:=qP (st:=xJ) zlq zlr zls
 have B_v_part_of:=F_v_part_of.binds (ps:=["row"]) fun _ _ _ _ _ _ us hl=>match us,hl with | [_],_=>rfl
 have F_v_clause_of:=qP (st:=jT) zlu zlv zlw
 have B_v_clause_of:=F_v_clause_of.binds (ps:=["row"]) fun _ _ _ _ _ _ us hl=>match us,hl with | [_],_=>rfl
 have F_v_fits_form:=qP (st:=jt) zly zlz zlA
 have B_v_fits_form:=F_v_fits_form.binds (ps:=["words","form"]) fun _ _ _ _ _ _ us hl=>match us,hl with | [_,_],_=>rfl
 have F_v_fits_place:=qP (st:=ja) zlC zlD zlE
 have B_v_fits_place:=F_v_fits_place.binds (ps:=["word","place"]) fun _ _ _ _ _ _ us hl=>match us,hl with | [_,_],_=>rfl
 have F_v_read:=qP (st:=wt) zlG zlH zlI
 have B_v_read:=F_v_read.binds (ps:=["text"]) fun _ _ _ _ _ _ us hl=>match us,hl with | [_],_=>rfl
 have F_v_read_names:=qP (st:=jZ) zlK zlL zlM
 have B_v_read_names:=F_v_read_names.binds (ps:=["rows","number","word","most","taken"]) fun _ _ _ _ _ _ us hl=>match us,hl with | [_,_,_,_,_],_=>rfl
 have F_v_told_once:=qP (st:=jO) zlO zlP zlQ
 have B_v_told_once:=F_v_told_once.binds (ps:=["names"]) fun _ _ _ _ _ _ us hl=>match us,hl with | [_],_=>rfl
 have F_v_read_rooms:=qP (st:=jc) zlS zlT zlU
 have B_v_read_rooms:=F_v_read_rooms.binds (ps:=["rows","taken"]) fun _ _ _ _ _ _ us hl=>match us,hl with | [_,_],_=>rfl
 have F_v_read_whole:=qP (st:=jQ) zlW zlX zlY
 have B_v_read_whole:=F_v_read_whole.binds (ps:=["rows","start"]) fun _ _ _ _ _ _ us hl=>match us,hl with | [_,_],_=>rfl
 have F_Body_init:=qP (st:=xo) zma zmb zmc
 have B_Body_init:=F_Body_init.binds (ps:=["self"]) fun _ _ _ _ _ _ us hl=>match us,hl with | [_],_=>rfl
 have F_Body_many_open:=qP (st:=jg) zme zmf zmg
 have B_Body_many_open:=F_Body_many_open.binds (ps:=["self"]) fun _ _ _ _ _ _ us hl=>match us,hl with | [_],_=>rfl
 have F_Body_takes:=qP (st:=j8) zmi zmj zmk
 have B_Body_takes:=F_Body_takes.binds (ps:=["self","row"]) fun _ _ _ _ _ _ us hl=>match us,hl with | [_,_],_=>rfl
 have F_Body_takes_done:=qP (st:=jk) zmm zmn zmo
 have B_Body_takes_done:=F_Body_takes_done.binds (ps:=["self"]) fun _ _ _ _ _ _ us hl=>match us,hl with | [_],_=>rfl
 have F_Body_takes_head:=qP (st:=jv) zmq zmr zms
 have B_Body_takes_head:=F_Body_takes_head.binds (ps:=["self","head"]) fun _ _ _ _ _ _ us hl=>match us,hl with | [_,_],_=>rfl
 have F_Body_takes_clause:=qP (st:=qS) zmu zmv zmw
 have B_Body_takes_clause:=F_Body_takes_clause.binds (ps:=["self","clause"]) fun _ _ _ _ _ _ us hl=>match us,hl with | [_,_],_=>rfl
 have F_Body_put_in:=qP (st:=jR) zmy zmz zmA
 have B_Body_put_in:=F_Body_put_in.binds (ps:=["self","row"]) fun _ _ _ _ _ _ us hl=>match us,hl with | [_,_],_=>rfl
 have F_Body_closed:=qP (st:=jU) zmC zmD zmE
 have B_Body_closed:=F_Body_closed.binds (ps:=["self"]) fun _ _ _ _ _ _ us hl=>match us,hl with | [_],_=>rfl
 have F_w_cell_at:=qP (st:=xK) zmG zmH zmI
 have B_w_cell_at:=F_w_cell_at.binds (ps:=["_law_script","_law_k"]) fun _ _ _ _ _ _ us hl=>match us,hl with | [_,_],_=>rfl
 have F_w_mix:=qP (st:=yX) zmK zmL zmM
 have B_w_mix:=F_w_mix.binds (ps:=["_law_cell","_law_k"]) fun _ _ _ _ _ _ us hl=>match us,hl with | [_,_],_=>rfl
 have F_w_name:=qP (st:=wo) zmO zmP zmQ
 have B_w_name:=F_w_name.binds (ps:=["_law_cell","_law_k"]) fun _ _ _ _ _ _ us hl=>match us,hl with | [_,_],_=>rfl
 have F_w_event:=qP (st:=xU) zmS zmT zmU
 have B_w_event:=F_w_event.binds (ps:=["_law_names","_law_cell","_law_label","_law_depth"]) fun _ _ _ _ _ _ us hl=>match us,hl with | [_,_,_,_],_=>rfl
 have F_w_events:=qP (st:=kx) zmW zmX zmY
 have B_w_events:=F_w_events.binds (ps:=["_law_names","_law_script"]) fun _ _ _ _ _ _ us hl=>match us,hl with | [_,_],_=>rfl
 have F_w_header:=qP (st:=ky) zna znb znc
 have B_w_header:=F_w_header.binds (ps:=["_law_names","_law_cell"]) fun _ _ _ _ _ _ us hl=>match us,hl with | [_,_],_=>rfl
 have F_w_row:=qP (st:=yK) zne znf zng
 have B_w_row:=F_w_row.binds (ps:=["_law_event_here"]) fun _ _ _ _ _ _ us hl=>match us,hl with | [_],_=>rfl
 have F_w_rows:=qP (st:=vd) zni znj znk
 have B_w_rows:=F_w_rows.binds (ps:=["_law_header_here","_law_events_here"]) fun _ _ _ _ _ _ us hl=>match us,hl with | [_,_],_=>rfl
 have F_w_no_text:=qP (st:=xV) znm znn zno
 have B_w_no_text:=F_w_no_text.binds (ps:=["_law_e"]) fun _ _ _ _ _ _ us hl=>match us,hl with | [_],_=>rfl
 have F_w_refused_at:=qP (st:=jJ) znq znr zns
 have B_w_refused_at:=F_w_refused_at.binds (ps:=["_law_text"]) fun _ _ _ _ _ _ us hl=>match us,hl with | [_],_=>rfl
 have F_w_named:=qP (st:=k7) znu znv znw
 have B_w_named:=F_w_named.binds (ps:=["_law_event_here","_law_name_here"]) fun _ _ _ _ _ _ us hl=>match us,hl with | [_,_],_=>rfl
 have F_w_twice_header:=qP (st:=q9) zny znz znA
 have B_w_twice_header:=F_w_twice_header.binds (ps:=["_law_header_here","_law_first","_law_second"]) fun _ _ _ _ _ _ us hl=>match us,hl with | [_,_,_],_=>rfl
 have F_w_twice_labels:=qP (st:=jz) znC znD znE
 have B_w_twice_labels:=F_w_twice_labels.binds (ps:=["_law_events_here","_law_first","_law_second"]) fun _ _ _ _ _ _ us hl=>match us,hl with | [_,_,_],_=>rfl
 have F_w_two_faults:=qP (st:=jX) znG znH znI
 have B_w_two_faults:=F_w_two_faults.binds (ps:=["_law_rows_here","_law_row_here","_law_cell"]) fun _ _ _ _ _ _ us hl=>match us,hl with | [_,_,_],_=>rfl
 have F_w_two:=qP (st:=yV) znK znL znM
 have B_w_two:=F_w_two.binds (ps:=["_law_cell","_law_many"]) fun _ _ _ _ _ _ us hl=>match us,hl with | [_,_],_=>rfl
 have F_v_law:=qP (st:=vn) znO znP znQ
 have B_v_law:=F_v_law.binds (ps:=["_law_script"]) fun _ _ _ _ _ _ us hl=>match us,hl with | [_],_=>rfl
 refine⟨{ xH:=za,kf:=PySem.W.fnOf "__init__" "NoText.__init__" (qx jS) (qq jS) (z6 jS) .none zaz zaA zaB zaw zaC zaD,qE:=zb,xG:=PySem.W.fnOf "__init__" "Clause.__init__" (qx jL) (qq jL) (z6 jL) .none zaI zaJ zaK zaF zaL zaM,bO:=zc,bN:=PySem.W.fnOf "number" "Clause.number" (qx jG) (qq jG) (z6 jG) .none zaR zaS zaT zaO zaU zaV,vV:=zd,gk:=PySem.W.fnOf "__init__" "Duty.__init__" (qx xi) (qq xi) (z6 xi) .none zba zbb zbc zaX zbd zbe,fF:=ze,fP:=PySem.W.fnOf "number" "Duty.number" (qx xx) (qq xx) (z6 xx) .none zbj zbk zbl zbg zbm zbn,wW:=zf,bo:=PySem.W.fnOf "__init__" "Ban.__init__" (qx x9) (qq x9) (z6 x9) .none zbs zbt zbu zbp zbv zbw,kS:=zg,yo:=PySem.W.fnOf "__init__" "Power.__init__" (qx j9) (qq j9) (z6 j9) .none zbB zbC zbD zby zbE zbF,yD:=zh,bZ:=PySem.W.fnOf "__init__" "Let.__init__" (qx kz) (qq kz) (z6 kz) .none zbK zbL zbM zbH zbN zbO,kW:=zi,vX:=PySem.W.fnOf "__init__" "Part.__init__" (qx xZ) (qq xZ) (z6 xZ) .none zbT zbU zbV zbQ zbW zbX,yq:=zj,gv:=PySem.W.fnOf "__init__" "Pact.__init__" (qx xa) (qq xa) (z6 xa) .none zcc zcd zce zbZ zcf zcg,vW:=zk,vK:=PySem.W.fnOf "is_name" "is_name" (qx xQ) (qq xQ) (z6 xQ) .none zcl zcm zcn zci zco zcp,vp:=zl,vg:=PySem.W.fnOf "number_of" "number_of" (qx jN) (qq jN) (z6 jN) .none zcu zcv zcw zcr zcx zcy,xM:=zm,xF:=PySem.W.fnOf "written_with" "written_with" (qx qA) (qq qA) (z6 qA) .none zcD zcE zcF zcA zcG zcH,ya:=zn,yi:=PySem.W.fnOf "names_of" "names_of" (qx xq) (qq xq) (z6 xq) .none zcM zcN zcO zcJ zcP zcQ,vb:=zo,vy:=PySem.W.fnOf "are_names" "are_names" (qx jl) (qq jl) (z6 jl) .none zcV zcW zcX zcS zcY zcZ,gb:=zp,gy:=PySem.W.fnOf "room_of" "room_of" (qx xX) (qq xX) (z6 xX) .none zde zdf zdg zdb zdh zdi,bV:=zq,bQ:=PySem.W.fnOf "let_of" "let_of" (qx kj) (qq kj) (z6 kj) .none zdn zdo zdp zdk zdq zdr,gh:=zr,gw:=PySem.W.fnOf "part_of" "part_of" (qx xJ) (qq xJ) (z6 xJ) .none zdw zdx zdy zdt zdz zdA,wR:=zs,wD:=PySem.W.fnOf "clause_of" "clause_of" (qx jT) (qq jT) (z6 jT) .none zdF zdG zdH zdC zdI zdJ,kd:=zt,km:=PySem.W.fnOf "fits_form" "fits_form" (qx jt) (qq jt) (z6 jt) .none zdO zdP zdQ zdL zdR zdS,vO:=zu,vR:=PySem.W.fnOf "fits_place" "fits_place" (qx ja) (qq ja) (z6 ja) .none zdX zdY zdZ zdU zea zeb,mT:=zv,mU:=PySem.W.fnOf "read" "read" (qx wt) (qq wt) (z6 wt) .none zeg zeh zei zed zej zek,vI:=zw,vL:=PySem.W.fnOf "read_names" "read_names" (qx jZ) (qq jZ) (z6 jZ) .none zep zeq zer zem zes zet,vf:=zx,vh:=PySem.W.fnOf "told_once" "told_once" (qx jO) (qq jO) (z6 jO) .none zey zez zeA zev zeB zeC,vE:=zy,vS:=PySem.W.fnOf "read_rooms" "read_rooms" (qx jc) (qq jc) (z6 jc) .none zeH zeI zeJ zeE zeK zeL,vA:=zz,vT:=PySem.W.fnOf "read_whole" "read_whole" (qx jQ) (qq jQ) (z6 jQ) .none zeQ zeR zeS zeN zeT zeU,yz:=zA,gx:=PySem.W.fnOf "__init__" "Body.__init__" (qx xo) (qq xo) (z6 xo) .none zeZ zfa zfb zeW zfc zfd,kL:=zB,wV:=PySem.W.fnOf "many_open" "Body.many_open" (qx jg) (qq jg) (z6 jg) .none zfi zfj zfk zff zfl zfm,ye:=zC,ba:=PySem.W.fnOf "takes" "Body.takes" (qx j8) (qq j8) (z6 j8) .none zfr zfs zft zfo zfu zfv,ku:=zD,vC:=PySem.W.fnOf "takes_done" "Body.takes_done" (qx jk) (qq jk) (z6 jk) .none zfA zfB zfC zfx zfD zfE,kr:=zE,vU:=PySem.W.fnOf "takes_head" "Body.takes_head" (qx jv) (qq jv) (z6 jv) .none zfJ zfK zfL zfG zfM zfN,xB:=zF,vj:=PySem.W.fnOf "takes_clause" "Body.takes_clause" (qx qS) (qq qS) (z6 qS) .none zfS zfT zfU zfP zfV zfW,wU:=zG,gX:=PySem.W.fnOf "put_in" "Body.put_in" (qx jR) (qq jR) (z6 jR) .none zgb zgc zgd zfY zge zgf,wC:=zH,gJ:=PySem.W.fnOf "closed" "Body.closed" (qx jU) (qq jU) (z6 jU) .none zgk zgl zgm zgh zgn zgo,yj:=zI,w6:=PySem.W.fnOf "_law_cell_at" "_law_cell_at" (qx xK) (qq xK) (z6 xK) .none zgt zgu zgv zgq zgw zgx,bG:=zJ,bK:=PySem.W.fnOf "_law_mix" "_law_mix" (qx yX) (qq yX) (z6 yX) .none zgC zgD zgE zgz zgF zgG,mN:=zK,mR:=PySem.W.fnOf "_law_name" "_law_name" (qx wo) (qq wo) (z6 wo) .none zgL zgM zgN zgI zgO zgP,fc:=zL,fg:=PySem.W.fnOf "_law_event" "_law_event" (qx xU) (qq xU) (z6 xU) .none zgU zgV zgW zgR zgX zgY,bW:=zM,bJ:=PySem.W.fnOf "_law_events" "_law_events" (qx kx) (qq kx) (z6 kx) .none zhd zhe zhf zha zhg zhh,bY:=zN,bX:=PySem.W.fnOf "_law_header" "_law_header" (qx ky) (qq ky) (z6 ky) .none zhm zhn zho zhj zhp zhq,cI:=zO,cN:=PySem.W.fnOf "_law_row" "_law_row" (qx yK) (qq yK) (z6 yK) .none zhv zhw zhx zhs zhy zhz,mO:=zP,mL:=PySem.W.fnOf "_law_rows" "_law_rows" (qx vd) (qq vd) (z6 vd) .none zhE zhF zhG zhB zhH zhI,gp:=zQ,gg:=PySem.W.fnOf "_law_no_text" "_law_no_text" (qx xV) (qq xV) (z6 xV) .none zhN zhO zhP zhK zhQ zhR,kY:=zR,kK:=PySem.W.fnOf "_law_refused_at" "_law_refused_at" (qx jJ) (qq jJ) (z6 jJ) .none zhW zhX zhY zhT zhZ zia,fu:=zS,fh:=PySem.W.fnOf "_law_named" "_law_named" (qx k7) (qq k7) (z6 k7) .none zif zig zih zic zii zij,kT:=zT,kU:=PySem.W.fnOf "_law_twice_header" "_law_twice_header" (qx q9) (qq q9) (z6 q9) .none zio ziq zir zil zis zit,kN:=zU,kR:=PySem.W.fnOf "_law_twice_labels" "_law_twice_labels" (qx jz) (qq jz) (z6 jz) .none ziy ziz ziA ziv ziB ziC,v8:=zV,vN:=PySem.W.fnOf "_law_two_faults" "_law_two_faults" (qx jX) (qq jX) (z6 jX) .none ziH ziI ziJ ziE ziK ziL,cE:=zW,cO:=PySem.W.fnOf "_law_two" "_law_two" (qx yV) (qq yV) (z6 yV) .none ziQ ziR ziS ziN ziT ziU,mS:=zX,cT:=PySem.W.fnOf "law" "law" (qx vn) (qq vn) (z6 vn) .none ziZ zja zjb ziW zjc zjd,pZ:=zY,qO:=zZ,mP:=zaa,bu:=zab,mB:=zac,fv:=zad,mG:=zae,fk:=zaf,mF:=zag,br:=zah,cS:=zai,Vw:=zaj,kg:=zak,yF:=zal,vc:=zam,pe:=zan,vD:=zao,mH:=zap,jI:=zaq,xu:=zar,qN:=zas,uY:=zat,m5:=zau },?_,PySem.W.mg_of X G znN⟩
 exact {
  xS:=⟨F_NoText_init,B_NoText_init⟩,
  vQ:=⟨F_Clause_init,B_Clause_init⟩,
  rT:=⟨F_Clause_number,B_Clause_number⟩,
  dF:=⟨F_Duty_init,B_Duty_init⟩,
  nH:=⟨F_Duty_number,B_Duty_number⟩,
  uc:=⟨F_Ban_init,B_Ban_init⟩,
  mq:=⟨F_Power_init,B_Power_init⟩,
  ur:=⟨F_Let_init,B_Let_init⟩,
  yW:=⟨F_Part_init,B_Part_init⟩,
  dM:=⟨F_Pact_init,B_Pact_init⟩,
  j4:=⟨F_v_is_name,B_v_is_name,PySem.W.mg_of X G zkN⟩,
  xA:=⟨F_v_number_of,B_v_number_of,PySem.W.mg_of X G zkR⟩,
  jA:=⟨F_v_written_with,B_v_written_with,PySem.W.mg_of X G zkV⟩,
  y9:=⟨F_v_names_of,B_v_names_of,PySem.W.mg_of X G zkZ⟩,
  xE:=⟨F_v_are_names,B_v_are_names,PySem.W.mg_of X G zld⟩,
  bg:=⟨F_v_room_of,B_v_room_of,PySem.W.mg_of X G zlh⟩,
  p8:=⟨F_v_let_of,B_v_let_of,PySem.W.mg_of X G zll⟩,
  bw:=⟨F_v_part_of,B_v_part_of,PySem.W.mg_of X G zlp⟩,
  yf:=⟨F_v_clause_of,B_v_clause_of,PySem.W.mg_of X G zlt⟩,
  qU:=⟨F_v_fits_form,B_v_fits_form,PySem.W.mg_of X G zlx⟩,
  we:=⟨F_v_fits_place,B_v_fits_place,PySem.W.mg_of X G zlB⟩,
  rH:=⟨F_v_read,B_v_read,PySem.W.mg_of X G zlF⟩,
  xW:=⟨F_v_read_names,B_v_read_names,PySem.W.mg_of X G zlJ⟩,
  x6:=⟨F_v_told_once,B_v_told_once,PySem.W.mg_of X G zlN⟩,
  wa:=⟨F_v_read_rooms,B_v_read_rooms,PySem.W.mg_of X G zlR⟩,
  wZ:=⟨F_v_read_whole,B_v_read_whole,PySem.W.mg_of X G zlV⟩,
  dP:=⟨F_Body_init,B_Body_init⟩,
  kJ:=⟨F_Body_many_open,B_Body_many_open⟩,
  mz:=⟨F_Body_takes,B_Body_takes⟩,
  ym:=⟨F_Body_takes_done,B_Body_takes_done⟩,
  yd:=⟨F_Body_takes_head,B_Body_takes_head⟩,
  vM:=⟨F_Body_takes_clause,B_Body_takes_clause⟩,
  wA:=⟨F_Body_put_in,B_Body_put_in⟩,
  gq:=⟨F_Body_closed,B_Body_closed⟩,
  ju:=⟨F_w_cell_at,B_w_cell_at,PySem.W.mg_of X G zmF⟩,
  jm:=⟨F_w_mix,B_w_mix,PySem.W.mg_of X G zmJ⟩,
  rM:=⟨F_w_name,B_w_name,PySem.W.mg_of X G zmN⟩,
  dH:=⟨F_w_event,B_w_event,PySem.W.mg_of X G zmR⟩,
  p9:=⟨F_w_events,B_w_events,PySem.W.mg_of X G zmV⟩,
  fz:=⟨F_w_header,B_w_header,PySem.W.mg_of X G zmZ⟩,
  iV:=⟨F_w_row,B_w_row,PySem.W.mg_of X G znd⟩,
  kM:=⟨F_w_rows,B_w_rows,PySem.W.mg_of X G znh⟩,
  bh:=⟨F_w_no_text,B_w_no_text,PySem.W.mg_of X G znl⟩,
  qG:=⟨F_w_refused_at,B_w_refused_at,PySem.W.mg_of X G znp⟩,
  dB:=⟨F_w_named,B_w_named,PySem.W.mg_of X G znt⟩,
  kD:=⟨F_w_twice_header,B_w_twice_header,PySem.W.mg_of X G znx⟩,
  kC:=⟨F_w_twice_labels,B_w_twice_labels,PySem.W.mg_of X G znB⟩,
  xY:=⟨F_w_two_faults,B_w_two_faults,PySem.W.mg_of X G znF⟩,
  cY:=⟨F_w_two,B_w_two,PySem.W.mg_of X G znJ⟩,
  Xa:=⟨F_v_law,B_v_law,PySem.W.mg_of X G znN⟩,
  mv:=PySem.W.mg_none_of X G znR,
  xw:=PySem.W.mg_none_of X G znS,
  wF:=PySem.W.mg_none_of X G znT,
  aQ:=PySem.W.mg_none_of X G znU,
  cx:=PySem.W.mg_none_of X G znV,
  Vk:=PySem.W.mg_none_of X G znW,
  jj:=PySem.W.mg_none_of X G znX,
  QL:=PySem.W.mg_none_of X G znY,
  Vj:=PySem.W.mg_none_of X G znZ,
  Vv:=PySem.W.mg_none_of X G zoa,
  mY:=PySem.W.mg_none_of X G zob,
  Vx:=PySem.W.mg_none_of X G zoc,
  Jj:=PySem.W.mg_of X G zjN,
  lM:=⟨_,PySem.W.mg_of X G zjO⟩,
  lF:=⟨_,PySem.W.mg_of X G zjP⟩,
  pX:=⟨_,PySem.W.mg_of X G zjQ⟩,
  pJ:=⟨_,PySem.W.mg_of X G zjR⟩,
  aN:=PySem.W.mg_of X G zjS,
  bH:=⟨_,PySem.W.mg_of X G zjT⟩,
  pK:=⟨_,PySem.W.mg_of X G zjU⟩,
  cb:=⟨_,PySem.W.mg_of X G zjV⟩,
  cm:=⟨_,PySem.W.mg_of X G zjW⟩,
  cf:=⟨_,PySem.W.mg_of X G zjX⟩,
  wz:=⟨_,PySem.W.mg_of X G zjY⟩,
  cn:=PySem.W.mg_of X G zjs,
  yv:=PySem.W.mg_of X G zjt,
  oV:=PySem.W.mg_of X G zju,
  uB:=PySem.W.mg_of X G zjv,
  oK:=PySem.W.mg_of X G zjw,
  lO:=PySem.W.mg_of X G zjx,
  oX:=PySem.W.mg_of X G zjy,
  lN:=PySem.W.mg_of X G zjz,
  oW:=PySem.W.mg_of X G zjA,
  uF:=PySem.W.mg_of X G zjB,
  Zk:=PySem.W.mg_of X G zjC,
  YC:=PySem.W.mg_of X G zjD,
  uP:=PySem.W.mg_of X G zjE,
  Js:=PySem.W.mg_of X G zjF,
  tu:=PySem.W.mg_of X G zjG,
  Vm:=PySem.W.mg_of X G zjH,
  Zv:=PySem.W.mg_of X G zjI,
  Vd:=PySem.W.mg_of X G zjJ,
  uM:=PySem.W.mg_of X G zjK,
  Jt:=PySem.W.mg_of X G zjL,
  Jl:=PySem.W.mg_of X G zjM,
  JW:=(by obtain⟨its,n,h1,h2,h3,h4⟩:=zoe;exact⟨zjo,its,n,zod,h1,h2,h3,h4⟩),
  Zb:=(by obtain⟨its,n,h1,h2,h3,h4⟩:=zog;exact⟨zjp,its,n,zof,h1,h2,h3,h4⟩),
  lG:=⟨zoh,zoi,zoj,zok⟩,
  fU:=zol,
  bE:=zom,
  pY:=zon,
  bA:=zoo,
  fR:=zop,
  lI:=⟨zoq,zor,zos,zot⟩,
  aV:=⟨zou,zov,zow,zox⟩,
  cQ:=zoy,
  fL:=zoz,
  dz:=zoA,
  fS:=zoB,
  cJ:=zoC,
  tZ:=⟨zoD,zoE,zoF,zoG⟩,
  nO:=⟨zoH,zoI,zoJ,zoK⟩,
  dq:=zoL,
  pG:=zoM,
  fT:=zoN,
  pH:=zoO,
  dj:=zoP,
  uC:=⟨zoQ,zoR,zoS,zoT⟩,
  QO:=⟨zoU,zoV,zoW,zoX⟩,
  uR:=zoY,
  m8:=zoZ,
  cZ:=zpa,
  m9:=zpb,
  uL:=zpc,
  ez:=⟨zpd,zpe,zpf,zpg⟩,
  nI:=⟨zph,zpi,zpj,zpk⟩,
  dy:=zpl,
  pB:=zpm,
  fE:=zpn,
  pP:=zpo,
  dg:=zpp,
  uU:=⟨zpq,zpr,zps,zpt⟩,
  iM:=⟨zpu,zpv,zpw,zpx⟩,
  cX:=zpy,
  dk:=zpz,
  JZ:=⟨zpA,zpB,zpC,zpD⟩,
  bt:=⟨zpE,zpF,zpG,zpH⟩,
  yZ:=zpI,
  gK:=zpJ,
  dw:=zpK,
  m7:=⟨zpL,zpM,zpN,zpO⟩,
  mC:=⟨zpP,zpQ,zpR,zpS⟩,
  dv:=zpT,
  b7:=zpU,
  fN:=zpV,
  fO:=zpW,
  Zg:=⟨zpX,zpY,zpZ,zqa⟩,
  jH:=⟨zqb,zqc,zqd,zqe⟩,
  kH:=zqf,
  wL:=zqg,
  yE:=zqh,
  Zy:=⟨zqi,zqj,zqk,zql⟩,
  kn:=⟨zqm,zqn,zmg⟩,
  fD:=⟨zqo,zqp,zmk⟩,
  yO:=⟨zqq,zqr,zmo⟩,
  yI:=⟨zqs,zqt,zms⟩,
  yw:=⟨zqu,zqv,zmw⟩,
  wx:=⟨zqw,zqx,zmA⟩,
  yN:=⟨zqy,zqz,zmE⟩,
  si:=⟨K7 zqC zqD,zqE⟩,
  mV:=⟨zqF,zqG,zqH,zqI,zqJ,zqK,zqL,zqM⟩,
  vP:=⟨XJ zqC zqD,zqN,zqO,zqP⟩,
  vm:=zqQ,
  yt:=(V9 (XJ zqA zqB) zqR zqS zqT),
  dD:=⟨zqU,zqV,zqW,zkg⟩,
  nE:=⟨zqX,zqY,zqZ,zkg⟩,
  gT:=zra,
  yL:=zrb,
  gS:=zrc,
  gm:=zrd,
  gL:=zre,
  gf:=zrf,
  gN:=zrg,
  yS:=zrh,
  bI:=zri,
  gO:=zrj,
  yk:=zrk,
  cc:=zrl }
end My
theorem PySem.W.Fast.tw10390745524339564572:True:=trivial
theorem PySem.W.Fast.tw11069531614749181919:True:=trivial
theorem PySem.W.Fast.tw11074848451314780437:True:=trivial
theorem PySem.W.Fast.tw11118326489501954358:True:=trivial
theorem PySem.W.Fast.tw11237156391481144917:True:=trivial
theorem PySem.W.Fast.tw11463807278420522657:True:=trivial
theorem PySem.W.Fast.tw11750976039914785302:True:=trivial
theorem PySem.W.Fast.tw12224846901021375746:True:=trivial
theorem PySem.W.Fast.tw12240315257433345802:True:=trivial
theorem PySem.W.Fast.tw12401843931511978575:True:=trivial
theorem PySem.W.Fast.tw12412167685595410288:True:=trivial
theorem PySem.W.Fast.tw12576604476105701:True:=trivial
theorem PySem.W.Fast.tw12654419621231207426:True:=trivial
theorem PySem.W.Fast.tw12769279920602373927:True:=trivial
theorem PySem.W.Fast.tw12975590695929152357:True:=trivial
theorem PySem.W.Fast.tw13399810929376457604:True:=trivial
theorem PySem.W.Fast.tw13563179662258575237:True:=trivial
theorem PySem.W.Fast.tw13604070268671191719:True:=trivial
theorem PySem.W.Fast.tw13772927563031946148:True:=trivial
theorem PySem.W.Fast.tw14057052465996695395:True:=trivial
theorem PySem.W.Fast.tw14585622113087619571:True:=trivial
theorem PySem.W.Fast.tw14641813912357918508:True:=trivial
theorem PySem.W.Fast.tw14907303308266280811:True:=trivial
theorem PySem.W.Fast.tw15044161528630341360:True:=trivial
theorem PySem.W.Fast.tw15149448466045312097:True:=trivial
theorem PySem.W.Fast.tw15274740001450269811:True:=trivial
theorem PySem.W.Fast.tw15379061303011172991:True:=trivial
theorem PySem.W.Fast.tw15382752980112004767:True:=trivial
theorem PySem.W.Fast.tw15656985218469380513:True:=trivial
theorem PySem.W.Fast.tw15822012443860938790:True:=trivial
theorem PySem.W.Fast.tw1614429992058338608:True:=trivial
theorem PySem.W.Fast.tw16181874676833511525:True:=trivial
theorem PySem.W.Fast.tw16194835257971029144:True:=trivial
theorem PySem.W.Fast.tw1624422653428888763:True:=trivial
theorem PySem.W.Fast.tw16339155004967412752:True:=trivial
theorem PySem.W.Fast.tw16446728872265706107:True:=trivial
theorem PySem.W.Fast.tw16562118626282900171:True:=trivial
theorem PySem.W.Fast.tw16682165327492172365:True:=trivial
theorem PySem.W.Fast.tw16878260533777561881:True:=trivial
theorem PySem.W.Fast.tw17105779895377228208:True:=trivial
theorem PySem.W.Fast.tw18342709468262091394:True:=trivial
theorem PySem.W.Fast.tw1868876887223714470:True:=trivial
theorem PySem.W.Fast.tw1893495472490231355:True:=trivial
theorem PySem.W.Fast.tw1937001741315779988:True:=trivial
theorem PySem.W.Fast.tw1965639465417584284:True:=trivial
theorem PySem.W.Fast.tw2007741395467072805:True:=trivial
theorem PySem.W.Fast.tw2197485314857044641:True:=trivial
theorem PySem.W.Fast.tw237654798510011513:True:=trivial
theorem PySem.W.Fast.tw255660663533735485:True:=trivial
theorem PySem.W.Fast.tw2771055371213765196:True:=trivial
theorem PySem.W.Fast.tw2772485025085113515:True:=trivial
theorem PySem.W.Fast.tw2863905086230922741:True:=trivial
theorem PySem.W.Fast.tw2889061689682982091:True:=trivial
theorem PySem.W.Fast.tw2953259740492283758:True:=trivial
theorem PySem.W.Fast.tw3179119712112489497:True:=trivial
theorem PySem.W.Fast.tw3326771716826626743:True:=trivial
theorem PySem.W.Fast.tw3607920054368882548:True:=trivial
theorem PySem.W.Fast.tw3863885780609570913:True:=trivial
theorem PySem.W.Fast.tw3869101012299766538:True:=trivial
theorem PySem.W.Fast.tw4166328254020410575:True:=trivial
theorem PySem.W.Fast.tw4174576628811080711:True:=trivial
theorem PySem.W.Fast.tw4395318702952862712:True:=trivial
theorem PySem.W.Fast.tw4436772451165486344:True:=trivial
theorem PySem.W.Fast.tw4876623694650493388:True:=trivial
theorem PySem.W.Fast.tw53346293177304135:True:=trivial
theorem PySem.W.Fast.tw5368799688808207380:True:=trivial
theorem PySem.W.Fast.tw5652918618492082403:True:=trivial
theorem PySem.W.Fast.tw5916263927565892089:True:=trivial
theorem PySem.W.Fast.tw5942660711532851279:True:=trivial
theorem PySem.W.Fast.tw6026835867046022509:True:=trivial
theorem PySem.W.Fast.tw6376944377357412932:True:=trivial
theorem PySem.W.Fast.tw6499630039100638504:True:=trivial
theorem PySem.W.Fast.tw710838162369864534:True:=trivial
theorem PySem.W.Fast.tw7139006189771251313:True:=trivial
theorem PySem.W.Fast.tw7395920536139520012:True:=trivial
theorem PySem.W.Fast.tw7795122829253569377:True:=trivial
theorem PySem.W.Fast.tw7802823068113232642:True:=trivial
theorem PySem.W.Fast.tw8025211807777322049:True:=trivial
theorem PySem.W.Fast.tw844196316499206896:True:=trivial
theorem PySem.W.Fast.tw8509061936708652986:True:=trivial
theorem PySem.W.Fast.tw8554435700230304301:True:=trivial
theorem PySem.W.Fast.tw8923099236964062693:True:=trivial
theorem PySem.W.Fast.tw9528811509259562353:True:=trivial
theorem PySem.W.Fast.tw9535209246761666699:True:=trivial
theorem PySem.W.Fast.tw9582979504577548776:True:=trivial
theorem PySem.W.Fast.tw977973705621014616:True:=trivial
theorem PySem.W.Fast.tw9796732094224086460:True:=trivial
theorem PySem.W.Fast.tw9819127634790717962:True:=trivial
open PySem PySem.W PyProof.Rows
set_option maxRecDepth 100000 in
set_option maxHeartbeats 0 in
theorem PySem.Challenge.cw_pactway_k26_names_told_twice_holds : PySem.Challenge.rw_pactway_k26_names_told_twice.Holds := by
 w_on;o_law;k_head;(case hw=>w_witness2)
 k_fill
 refine L2.XZ (l:=PySem.Challenge.rw_pactway_k26_names_told_twice) (n:=63) (k:=12) (x:="_law_script") (CX:=L2.jW) (sp:=My.Xh) rfl (by decide) rfl ⟨rfl,by decide,by decide⟩ (fun w h Y=>PySem.W.kIn_of Y) ?F ?S ?C
 case F=>
  intro w mg fa h KX G hmg
  have T:∃t:My.xj,My.Txt (L2.Bg KX) mg t∧mg "law" = some (.ref t.mS):=by
   dsimp only[L2.Bg]
   refine' My.Yh KX G ?za_ ?zb_ ?zc_ ?zd_ ?ze_ ?zf_ ?zg_ ?zh_ ?zi_ ?zj_ ?zk_ ?zl_ ?zm_ ?zn_ ?zo_ ?zp_ ?zq_ ?zr_ ?zs_ ?zt_ ?zu_ ?zv_ ?zw_ ?zx_ ?zy_ ?zz_ ?zA_ ?zB_ ?zC_ ?zD_ ?zE_ ?zF_ ?zG_ ?zH_ ?zI_ ?zJ_ ?zK_ ?zL_ ?zM_ ?zN_ ?zO_ ?zP_ ?zQ_ ?zR_ ?zS_ ?zT_ ?zU_ ?zV_ ?zW_ ?zX_ ?zY_ ?zZ_ ?zaa_ ?zab_ ?zac_ ?zad_ ?zae_ ?zaf_ ?zag_ ?zah_ ?zai_ ?zaj_ ?zak_ ?zal_ ?zam_ ?zan_ ?zao_ ?zap_ ?zaq_ ?zar_ ?zas_ ?zat_ ?zau_ ?zav_ ?zaw_ ?zax_ ?zay_ ?zaz_ ?zaA_ ?zaB_ ?zaC_ ?zaD_ ?zaE_ ?zaF_ ?zaG_ ?zaH_ ?zaI_ ?zaJ_ ?zaK_ ?zaL_ ?zaM_ ?zaN_ ?zaO_ ?zaP_ ?zaQ_ ?zaR_ ?zaS_ ?zaT_ ?zaU_ ?zaV_ ?zaW_ ?zaX_ ?zaY_ ?zaZ_ ?zba_ ?zbb_ ?zbc_ ?zbd_ ?zbe_ ?zbf_ ?zbg_ ?zbh_ ?zbi_ ?zbj_ ?zbk_ ?zbl_ ?zbm_ ?zbn_ ?zbo_ ?zbp_ ?zbq_ ?zbr_ ?zbs_ ?zbt_ ?zbu_ ?zbv_ ?zbw_ ?zbx_ ?zby_ ?zbz_ ?zbA_ ?zbB_ ?zbC_ ?zbD_ ?zbE_ ?zbF_ ?zbG_ ?zbH_ ?zbI_ ?zbJ_ ?zbK_ ?zbL_ ?zbM_ ?zbN_ ?zbO_ ?zbP_ ?zbQ_ ?zbR_ ?zbS_ ?zbT_ ?zbU_ ?zbV_ ?zbW_ ?zbX_ ?zbY_ ?zbZ_ ?zca_ ?zcb_ ?zcc_ ?zcd_ ?zce_ ?zcf_ ?zcg_ ?zch_ ?zci_ ?zcj_ ?zck_ ?zcl_ ?zcm_ ?zcn_ ?zco_ ?zcp_ ?zcq_ ?zcr_ ?zcs_ ?zct_ ?zcu_ ?zcv_ ?zcw_ ?zcx_ ?zcy_ ?zcz_ ?zcA_ ?zcB_ ?zcC_ ?zcD_ ?zcE_ ?zcF_ ?zcG_ ?zcH_ ?zcI_ ?zcJ_ ?zcK_ ?zcL_ ?zcM_ ?zcN_ ?zcO_ ?zcP_ ?zcQ_ ?zcR_ ?zcS_ ?zcT_ ?zcU_ ?zcV_ ?zcW_ ?zcX_ ?zcY_ ?zcZ_ ?zda_ ?zdb_ ?zdc_ ?zdd_ ?zde_ ?zdf_ ?zdg_ ?zdh_ ?zdi_ ?zdj_ ?zdk_ ?zdl_ ?zdm_ ?zdn_ ?zdo_ ?zdp_ ?zdq_ ?zdr_ ?zds_ ?zdt_ ?zdu_ ?zdv_ ?zdw_ ?zdx_ ?zdy_ ?zdz_ ?zdA_ ?zdB_ ?zdC_ ?zdD_ ?zdE_ ?zdF_ ?zdG_ ?zdH_ ?zdI_ ?zdJ_ ?zdK_ ?zdL_ ?zdM_ ?zdN_ ?zdO_ ?zdP_ ?zdQ_ ?zdR_ ?zdS_ ?zdT_ ?zdU_ ?zdV_ ?zdW_ ?zdX_ ?zdY_ ?zdZ_ ?zea_ ?zeb_ ?zec_ ?zed_ ?zee_ ?zef_ ?zeg_ ?zeh_ ?zei_ ?zej_ ?zek_ ?zel_ ?zem_ ?zen_ ?zeo_ ?zep_ ?zeq_ ?zer_ ?zes_ ?zet_ ?zeu_ ?zev_ ?zew_ ?zex_ ?zey_ ?zez_ ?zeA_ ?zeB_ ?zeC_ ?zeD_ ?zeE_ ?zeF_ ?zeG_ ?zeH_ ?zeI_ ?zeJ_ ?zeK_ ?zeL_ ?zeM_ ?zeN_ ?zeO_ ?zeP_ ?zeQ_ ?zeR_ ?zeS_ ?zeT_ ?zeU_ ?zeV_ ?zeW_ ?zeX_ ?zeY_ ?zeZ_ ?zfa_ ?zfb_ ?zfc_ ?zfd_ ?zfe_ ?zff_ ?zfg_ ?zfh_ ?zfi_ ?zfj_ ?zfk_ ?zfl_ ?zfm_ ?zfn_ ?zfo_ ?zfp_ ?zfq_ ?zfr_ ?zfs_ ?zft_ ?zfu_ ?zfv_ ?zfw_ ?zfx_ ?zfy_ ?zfz_ ?zfA_ ?zfB_ ?zfC_ ?zfD_ ?zfE_ ?zfF_ ?zfG_ ?zfH_ ?zfI_ ?zfJ_ ?zfK_ ?zfL_ ?zfM_ ?zfN_ ?zfO_ ?zfP_ ?zfQ_ ?zfR_ ?zfS_ ?zfT_ ?zfU_ ?zfV_ ?zfW_ ?zfX_ ?zfY_ ?zfZ_ ?zga_ ?zgb_ ?zgc_ ?zgd_ ?zge_ ?zgf_ ?zgg_ ?zgh_ ?zgi_ ?zgj_ ?zgk_ ?zgl_ ?zgm_ ?zgn_ ?zgo_ ?zgp_ ?zgq_ ?zgr_ ?zgs_ ?zgt_ ?zgu_ ?zgv_ ?zgw_ ?zgx_ ?zgy_ ?zgz_ ?zgA_ ?zgB_ ?zgC_ ?zgD_ ?zgE_ ?zgF_ ?zgG_ ?zgH_ ?zgI_ ?zgJ_ ?zgK_ ?zgL_ ?zgM_ ?zgN_ ?zgO_ ?zgP_ ?zgQ_ ?zgR_ ?zgS_ ?zgT_
   (case za_ | zb_ | zc_ | zd_ | ze_ | zf_ | zg_ | zh_ | zi_ | zj_ | zk_ | zl_ | zm_ | zn_ | zo_ | zp_ | zq_ | zr_ | zs_ | zt_ | zu_ | zv_ | zw_ | zx_ | zy_ | zz_ | zA_ | zB_ | zC_ | zD_ | zE_ | zF_ | zG_ | zH_ | zI_ | zJ_ | zK_ | zL_ | zM_ | zN_ | zO_ | zP_ | zQ_ | zR_ | zS_ | zT_ | zU_ | zV_ | zW_ | zX_ | zY_ | zZ_ | zaa_ | zab_ | zac_ | zad_ | zae_ | zaf_ | zag_ | zah_ | zai_ | zaj_ | zak_ | zal_ | zam_ | zan_ | zao_ | zap_ | zaq_ | zar_ | zas_ | zat_ | zau_ | zav_ | zaw_ | zax_ | zay_ | zaz_ | zaA_ | zaB_ | zaC_ | zaD_ | zaE_ | zaF_ | zaG_ | zaH_ | zaI_ | zaJ_ | zaK_ | zaL_ | zaM_ | zaN_ | zaO_ | zaP_ | zaQ_ | zaR_ | zaS_ | zaT_ | zaU_ | zaV_ | zaW_ | zaX_ | zaY_ | zaZ_ | zba_ | zbb_ | zbc_ | zbd_ | zbe_ | zbf_ | zbg_ | zbh_ | zbi_ | zbj_ | zbk_ | zbl_ | zbm_ | zbn_ | zbo_ | zbp_ | zbq_ | zbr_ | zbs_ | zbt_ | zbu_ | zbv_ | zbw_ | zbx_ | zby_ | zbz_ | zbA_ | zbB_ | zbC_ | zbD_ | zbE_ | zbF_ | zbG_ | zbH_ | zbI_ | zbJ_ | zbK_ | zbL_ | zbM_ | zbN_ | zbO_ | zbP_ | zbQ_ | zbR_ | zbS_ | zbT_ | zbU_ | zbV_ | zbW_ | zbX_ | zbY_ | zbZ_ | zca_ | zcb_ | zcc_ | zcd_ | zce_ | zcf_ | zcg_ | zch_ | zci_ | zcj_ | zck_ | zcl_ | zcm_ | zcn_ | zco_ | zcp_ | zcq_ | zcr_ | zcs_ | zct_ | zcu_ | zcv_ | zcw_ | zcx_ | zcy_ | zcz_ | zcA_ | zcB_ | zcC_ | zcD_ | zcE_ | zcF_ | zcG_ | zcH_ | zcI_ | zcJ_ | zcK_ | zcL_ | zcM_ | zcN_ | zcO_ | zcP_ | zcQ_ | zcR_ | zcS_ | zcT_ | zcU_ | zcV_ | zcW_ | zcX_ | zcY_ | zcZ_ | zda_ | zdb_ | zdc_ | zdd_ | zde_ | zdf_ | zdg_ | zdh_ | zdi_ | zdj_ | zdk_ | zdl_ | zdm_ | zdn_ | zdo_ | zdp_ | zdq_ | zdr_ | zds_ | zdt_ | zdu_ | zdv_ | zdw_ | zdx_ | zdy_ | zdz_ | zdA_ | zdB_ | zdC_ | zdD_ | zdE_ | zdF_ | zdG_ | zdH_ | zdI_ | zdJ_ | zdK_ | zdL_=>k_is)
   (case zdM_=>exact⟨_,_,rfl,rfl,My.Kq,My.Kj⟩)
   (case zdN_=>k_is)
   (case zdO_=>exact⟨_,_,rfl,rfl,My.Jb,My.Jp⟩)
   (case zdP_ | zdQ_ | zdR_ | zdS_ | zdT_ | zdU_ | zdV_ | zdW_ | zdX_ | zdY_ | zdZ_ | zea_ | zeb_ | zec_ | zed_ | zee_ | zef_ | zeg_ | zeh_ | zei_ | zej_ | zek_ | zel_ | zem_ | zen_ | zeo_ | zep_ | zeq_ | zer_ | zes_ | zet_ | zeu_ | zev_ | zew_ | zex_ | zey_ | zez_ | zeA_ | zeB_ | zeC_ | zeD_ | zeE_ | zeF_ | zeG_ | zeH_ | zeI_ | zeJ_ | zeK_ | zeL_ | zeM_ | zeN_ | zeO_ | zeP_ | zeQ_ | zeR_ | zeS_ | zeT_ | zeU_ | zeV_ | zeW_ | zeX_ | zeY_ | zeZ_ | zfa_ | zfb_ | zfc_ | zfd_ | zfe_ | zff_ | zfg_ | zfh_ | zfi_ | zfj_ | zfk_ | zfl_ | zfm_ | zfn_ | zfo_ | zfp_ | zfq_ | zfr_ | zfs_ | zft_ | zfu_ | zfv_ | zfw_ | zfx_ | zfy_ | zfz_ | zfA_ | zfB_ | zfC_ | zfD_ | zfE_ | zfF_ | zfG_ | zfH_ | zfI_ | zfJ_ | zfK_ | zfL_ | zfM_ | zfN_ | zfO_ | zfP_ | zfQ_ | zfR_ | zfS_ | zfT_ | zfU_ | zfV_ | zfW_ | zfX_ | zfY_ | zfZ_ | zga_ | zgb_ | zgc_ | zgd_ | zge_ | zgf_ | zgg_ | zgh_ | zgi_=>k_is)
   (case zgj_=>rfl)
   (case zgk_=>k_is)
   (case zgl_=>rfl)
   (case zgm_ | zgn_ | zgo_ | zgp_ | zgq_ | zgr_ | zgs_ | zgt_ | zgu_ | zgv_ | zgw_ | zgx_ | zgy_ | zgz_ | zgA_ | zgB_ | zgC_ | zgD_ | zgE_ | zgF_ | zgG_ | zgH_=>k_is)
   (case zgI_ | zgJ_ | zgK_ | zgL_ | zgM_ | zgN_ | zgO_ | zgP_ | zgQ_ | zgR_ | zgS_ | zgT_=>kit_is)
  obtain⟨t,T,hl⟩:=T
  have e0:=hmg.symm.trans hl
  cases e0
  exact⟨_,My.ZA T,fun base kb nb=>My.JG T⟩
 case S=>exact fun K H a ns hl hO hS=>My.Z0 hl hO hS
 case C=>exact fun _ _ _ _ z=>z
