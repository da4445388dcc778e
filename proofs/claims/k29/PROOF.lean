import PyProof.Rows.All
import Wide.All
import OpenK.AllK
import Wide.FinOn
import Lean
import PyProof.EqAt
import PyProof.EqKinds
import PyProof.TupleCall
import PySem.Challenge.RW_knotwise_k29_near_lays
set_option Elab.async false
set_option linter.all false
set_option maxRecDepth 100000
set_option maxHeartbeats 4000000
set_option genSizeOf false
set_option genInjectivity false
set_option compiler.extract_closed false
namespace Internal
theorem Ad(h:0=0:=by decide):0=0:=h
theorem Ai(h:0=0:=by intro _; rfl):0=0:=h
theorem Ak(h:0=0:=by decide +kernel):0=0:=h
theorem Al(h:0=0:=by intro _ _ _ _ h; repeat (first | (cases h.1; rfl) | (cases h; rename_i h))):0=0:=h
theorem Ao(h:0=0:=by first | exact .inl rfl | exact .inr rfl | exact .inr (.inl rfl) | exact .inr (.inr rfl) | assumption):0=0:=h
theorem Ar(h:0=0:=by rfl):0=0:=h
namespace L2
open PySem PySem.Spec PyProof.Rows
noncomputable abbrev Key:=Sum Int Str
noncomputable def keyIs:Key->Value->Bool
 | .inl k,v=>Value.isInt k v
 | .inr x,v=>Value.isStrOf x v
noncomputable def keyH (w:World):Key->Int
 | .inl k=>hashInt k
 | .inr x=>hashStr w x
theorem keyIs_shape:∀ {k:Key} {v:Value},keyIs k v=true->(∃ i t,k=Sum.inl i/\v=Value.int i t)\/(∃ x t,k=Sum.inr x/\v=Value.str x t)
 | .inl i,v,h=>by
  obtain ⟨t,e⟩:=Value.isInt_shape (k:=i) (v:=v) h
  exact .inl ⟨i,t,rfl,e⟩
 | .inr x,v,h=>by
  obtain ⟨t,e⟩:=Value.isStrOf_shape (x:=x) (v:=v) h
  exact .inr ⟨x,t,rfl,e⟩
theorem keyIs_int (i:Int) (t:Tok):keyIs (.inl i) (.int i t)=true:=by simp [keyIs,Value.isInt]
theorem keyIs_str (x:Str) (t:Tok):keyIs (.inr x) (.str x t)=true:=by simp [keyIs,Value.isStrOf]
theorem key_ll (a b:Int):decide ((Sum.inl a:Key)=Sum.inl b)=(a == b):=by
 by_cases e:a=b
 ·subst e; simp
 ·have h:¬ (Sum.inl a:Key)=Sum.inl b:=fun q=>e (Sum.inl.inj q)
  rw [decide_eq_false h]
  exact (beq_eq_false_iff_ne.mpr e).symm
theorem key_rr (a b:Str):decide ((Sum.inr a:Key)=Sum.inr b)=decide (a=b):=by
 by_cases e:a=b
 ·subst e; simp
 ·have h:¬ (Sum.inr a:Key)=Sum.inr b:=fun q=>e (Sum.inr.inj q)
  rw [decide_eq_false h,decide_eq_false e]
theorem key_lr (a:Int) (b:Str):decide ((Sum.inl a:Key)=Sum.inr b)=false:=decide_eq_false (fun q=>nomatch q)
theorem key_rl (a:Str) (b:Int):decide ((Sum.inr a:Key)=Sum.inl b)=false:=decide_eq_false (fun q=>nomatch q)
noncomputable def mixKind (prog:Program) (w:World):PySem.KeyKind prog w Key where
 is:=keyIs
 hash:=keyH w
 inj:=fun v a b ha hb=>by
  rcases keyIs_shape ha with ⟨i,t,rfl,rfl⟩ | ⟨x,t,rfl,rfl⟩
  ·rcases keyIs_shape hb with ⟨j,u,rfl,e⟩ | ⟨y,u,rfl,e⟩
   ·injection e with e1 _; rw [e1]
   ·exact nomatch e
  ·rcases keyIs_shape hb with ⟨j,u,rfl,e⟩ | ⟨y,u,rfl,e⟩
   ·exact nomatch e
   ·injection e with e1 _; rw [e1]
 byValue:=fun k v h=>by
  rcases keyIs_shape h with ⟨i,t,rfl,rfl⟩ | ⟨x,t,rfl,rfl⟩ <;> rfl
 pyHash:=fun hv h=>by
  rcases keyIs_shape hv with ⟨i,t,rfl,rfl⟩ | ⟨x,t,rfl,rfl⟩
  ·exact wpAny_pyHash_int h
  ·exact wpAny_pyHash_str h
 eqBool:=fun hu hv h=>by
  rcases keyIs_shape hu with ⟨i,t,rfl,rfl⟩ | ⟨x,t,rfl,rfl⟩
  ·rcases keyIs_shape hv with ⟨j,u,rfl,rfl⟩ | ⟨y,u,rfl,rfl⟩
   ·rw [key_ll] at h; exact wpAny_eqBool_int h
   ·rw [key_lr] at h; exact SeqAt.EqAt.int_str i t y u _ _ _ _ h
  ·rcases keyIs_shape hv with ⟨j,u,rfl,rfl⟩ | ⟨y,u,rfl,rfl⟩
   ·rw [key_rl] at h; exact SeqAt.EqAt.str_int x t j u _ _ _ _ h
   ·rw [key_rr] at h; exact wpAny_eqBool_str h
 «strs»:=fun k x t v h=>by
  rcases keyIs_shape h with ⟨i,u,rfl,e⟩ | ⟨y,u,rfl,e⟩
  ·exact nomatch e
  ·injection e with e1 _
   subst e1
   cases v <;> rfl
theorem mixKind_int (prog:Program) (w:World) (i:Int) (t:Tok):(mixKind prog w).is (.inl i) (.int i t)=true:=keyIs_int i t
theorem mixKind_str (prog:Program) (w:World) (x:Str) (t:Tok):(mixKind prog w).is (.inr x) (.str x t)=true:=keyIs_str x t
inductive V where
 | non | bl (b:Bool) | int (i:Int) | str (x:Str) | byt (b:Array UInt8) | flt (b:UInt64) | ref (a:Addr) | ty (n:String)
noncomputable def RelV:V->Value->Prop
 | .non,u=>u=Value.none
 | .bl b,u=>u=Value.bool b
 | .int i,u=>∃ t,u=Value.int i t
 | .str x,u=>∃ t,u=Value.str x t
 | .byt b,u=>∃ t,u=Value.bytes b t
 | .flt b,u=>∃ t,u=Value.float b t
 | .ref a,u=>u=Value.ref a
 | .ty n,u=>u=Value.type n
noncomputable abbrev Vals:List V->List Value->Prop:=Paired RelV
theorem Vals.length {xs:List V} {us:List Value} (r:Vals xs us):xs.length=us.length:=Paired.length r
theorem Vals.get:∀ {xs:List V} {us:List Value} {i:Nat} {x:V},Vals xs us->xs[i]?=some x->∃ u,us[i]?=some u/\RelV x u:=by
 intro xs us i x h
 induction h generalizing i with
 | nil=>intro e; cases e
 | cons r t ih =>
  intro e
  cases i with
  | zero=>cases e; exact ⟨_,rfl,r⟩
  | succ i=>exact ih e
theorem Vals.set {x:V} {u:Value} (r:RelV x u):∀ {xs:List V} {us:List Value} (i:Nat),Vals xs us->Vals (xs.set i x) (us.set i u):=by
 intro xs us i h
 induction h generalizing i with
 | nil=>rw [List.set_nil,List.set_nil]; exact .nil
 | cons q t ih =>
  cases i with
  | zero=>exact .cons r t
  | succ i=>exact .cons q (ih i)
theorem Vals.append:∀ {xs ys:List V} {us ws:List Value},Vals xs us->Vals ys ws->Vals (xs++ys) (us++ws):=by
 intro xs ys us ws h s
 induction h with
 | nil=>exact s
 | cons r t ih=>exact .cons r ih
theorem Vals.take:∀ {xs:List V} {us:List Value} (n:Nat),Vals xs us->Vals (xs.take n) (us.take n):=by
 intro xs us n h
 induction h generalizing n with
 | nil=>rw [List.take_nil,List.take_nil]; exact .nil
 | cons r t ih =>
  cases n with
  | zero=>exact .nil
  | succ n=>exact .cons r (ih n)
theorem Vals.drop:∀ {xs:List V} {us:List Value} (n:Nat),Vals xs us->Vals (xs.drop n) (us.drop n):=by
 intro xs us n h
 induction h generalizing n with
 | nil=>rw [List.drop_nil,List.drop_nil]; exact .nil
 | cons r t ih =>
  cases n with
  | zero=>exact .cons r t
  | succ n=>exact ih n
noncomputable def RelO:Option V->Option Value->Prop
 | some v,some u=>RelV v u
 | none,none=>True
 | _,_=>False
noncomputable def KV {κ:Type}:List (κ×V)->List (κ×Value)->Prop:=Paired fun (p:κ×V) (q:κ×Value)=>p.1=q.1/\RelV p.2 q.2
noncomputable def kV:Key->V
 | .inl i=>.int i
 | .inr x=>.str x
inductive HO where
 | lst (xs:List V)
 | tup (xs:List V)
 | dK (kvs:List (Key×V)) | dT (kvs:List (List Key×V))
 | set (S:Int->Bool) (n:Nat)
 | ins (C dx:Addr) (fs:List (Str×V))
 | own (x:Addr)
 | xd (fs:List (Str×V))
 | met (f x:Addr)
 | rng (lo hi:Int)
 | frz (o:Obj) (u:HO)
 | tbl (ps:Array Value)
 | ext (φ:Heap->Prop)
noncomputable abbrev Hp:=Addr->Option HO
noncomputable def upd (H:Hp) (a:Addr) (o:HO):Hp:=fun b=>if b=a then some o else H b
theorem upd_same {H:Hp} {a:Addr} {o:HO}:upd H a o a=some o:=by unfold upd; rw [if_pos rfl]
theorem upd_ne {H:Hp} {a b:Addr} {o:HO} (h:b≠a):upd H a o b=H b:=by unfold upd; rw [if_neg h]
theorem ne_of {H:Hp} {a b:Addr} {o u:HO} (h:H a=some o) (h':H b=some u) (d:o≠u):a≠b:=by
 intro e; subst e; rw [h] at h'; exact d (Option.some.inj h')
theorem ne_of_none {H:Hp} {a b:Addr} {o:HO} (h:H a=some o) (h':H b=none):a≠b:=by
 intro e; subst e; rw [h] at h'; cases h'
section
variable (P:Program) (w:World)
noncomputable def ObjOk (H:Hp) (h:Heap) (a:Addr):HO->Prop
 | .lst xs=>xs.length<=sizeLine/\∃ (its:List Value) (n:Nat),Vals xs its/\h.get? a=some { cls:=.type "list",data:=.seq its.toArray n }
 | .tup xs=>xs.length<=sizeLine/\∃ its:List Value,Vals xs its/\IsTup h a its.toArray
 | .dK kvs=>kvs.length<=sizeLine/\(a == sysModules)=false/\∃ vs,KV kvs vs/\h.DictOf (mixKind P w) a vs
 | .dT kvs=>kvs.length<=sizeLine/\(a == sysModules)=false/\∃ xs:List (List Key×Addr×Value),
   Paired (fun (p:List Key×V) (q:List Key×Addr×Value)=>p.1=q.1/\H q.2.1=some (.tup (p.1.map kV))/\RelV p.2 q.2.2) kvs xs /\
   ∃ o es ep,h.get? a=some o/\o.ExactDict/\o.data=.dict es ep/\es.toList=xs.map (entryOfKey (tupleKind (mixKind P w)))/\(xs.map (·.1)).Nodup
 | .set S n=>h.SetOf (intKind P w) a S n
 | .ins C dx fs=>H dx=some (.own a)/\fs.length<=1000/\dx≠a/\h.get? a=some (PySem.W.instObj C dx) /\
   ∃ mA,h.Ns1 dx mA/\(∀ f,RelO (fs.lookup f) (mA f))/\PySem.Within mA (fs.map (·.1))
 | .own _=>∃ o,h.get? a=some o
 | .xd fs=>∃ mA,h.Ns1 a mA/\∀ f,RelO (fs.lookup f) (mA f)
 | .rng lo hi=>∃ t u v,h.get? a=some { cls:=.type "range",data:=.fields #[.int lo t,.int hi u,.int 1 v] }
 | .frz o u=>h.get? a=some o/\ObjOk H h a u
 | .tbl ps=>h.get? a=some { cls:=.none,data:=.fields ps }
 | .met f x=>h.get? a=some (PySem.W.methodObj (.ref f) (.ref x))
 | .ext φ=>φ h/\(∃ o,h.get? a=some o)/\∀ h1 h2:Heap,φ h1->(∀ o,h1.get? a=some o->h2.get? a=some o)->φ h2
noncomputable def HOk (H:Hp) (h:Heap):Prop:=∀ a o,H a=some o->ObjOk P w H h a o
end
section
variable {P:Program} {w:World} {H H':Hp} {h h':Heap} {a:Addr} {o:HO}
theorem ObjOk.lt (x:ObjOk P w H h a o):a < h.objs.size:=by
 cases o with
 | lst xs=>obtain ⟨_,_,_,_,e⟩:=x; exact Heap.lt_size e
 | tup xs=>obtain ⟨_,_,_,p⟩:=x; exact p.lt
 | dK kvs=>obtain ⟨_,_,_,_,o,_,_,e,_⟩:=x; exact Heap.lt_size e
 | dT kvs=>obtain ⟨_,_,_,_,o,_,_,e,_⟩:=x; exact Heap.lt_size e
 | set S n=>obtain ⟨o,_,_,_,e,_⟩:=x; exact Heap.lt_size e
 | ins C dx fs=>obtain ⟨_,_,_,e,_⟩:=x; exact Heap.lt_size e
 | own y=>obtain ⟨_,e⟩:=x; exact Heap.lt_size e
 | xd fs=>obtain ⟨_,⟨_,_,_,e,_⟩,_⟩:=x; exact Heap.lt_size e
 | rng lo hi=>obtain ⟨_,_,_,e⟩:=x; exact Heap.lt_size e
 | frz ob u=>obtain ⟨e,_⟩:=x; exact Heap.lt_size e
 | tbl ps=>exact Heap.lt_size (show h.get? a=some _ from x)
 | met f y=>exact Heap.lt_size (show h.get? a=some _ from x)
 | ext φ=>obtain ⟨_,⟨_,e⟩,_⟩:=x; exact Heap.lt_size e
theorem Paired.mapP {α β:Type} {F G:α->β->Prop}:∀ {l₁:List α} {l₂:List β},Paired F l₁ l₂->(∀ a b,F a b->G a b)->Paired G l₁ l₂:=by
 intro l₁ l₂ h f
 induction h with
 | nil=>exact .nil
 | cons r t ih=>exact .cons (f _ _ r) ih
theorem ObjOk.stay (x:ObjOk P w H h a o) (k:∀ b u,(b=a\/H b=some (.own a))->h.get? b=some u->h'.get? b=some u)
  (ho:∀ b,H b=some (.own a)->H' b=some (.own a)) (ht:∀ b xs,H b=some (.tup xs)->H' b=some (.tup xs)):ObjOk P w H' h' a o:=by
 induction o with
 | lst xs=>obtain ⟨z,its,n,r,e⟩:=x; exact ⟨z,its,n,r,k _ _ (.inl rfl) e⟩
 | tup xs=>obtain ⟨z,its,r,ob,e,c⟩:=x; exact ⟨z,its,r,ob,k _ _ (.inl rfl) e,c⟩
 | dK kvs=>obtain ⟨z,y,vs,r,ob,es,ep,e,c⟩:=x; exact ⟨z,y,vs,r,ob,es,ep,k _ _ (.inl rfl) e,c⟩
 | dT kvs =>
  obtain ⟨z,y,xs,r,ob,es,ep,e,c⟩:=x
  exact ⟨z,y,xs,Paired.mapP r fun p q z=>⟨z.1,ht _ _ z.2.1,z.2.2⟩,ob,es,ep,k _ _ (.inl rfl) e,c⟩
 | set S n=>obtain ⟨ob,es,ep,t,e,c⟩:=x; exact ⟨ob,es,ep,t,k _ _ (.inl rfl) e,c⟩
 | ins C dx fs =>
  obtain ⟨d,z,ne,e,mA,⟨od,es,ep,e2,c⟩,r⟩:=x
  exact ⟨ho _ d,z,ne,k _ _ (.inl rfl) e,mA,⟨od,es,ep,k _ _ (.inr d) e2,c⟩,r⟩
 | own y=>obtain ⟨ob,e⟩:=x; exact ⟨ob,k _ _ (.inl rfl) e⟩
 | xd fs=>obtain ⟨mA,⟨od,es,ep,e,c⟩,r⟩:=x; exact ⟨mA,⟨od,es,ep,k _ _ (.inl rfl) e,c⟩,r⟩
 | rng lo hi=>obtain ⟨t,u,v,e⟩:=x; exact ⟨t,u,v,k _ _ (.inl rfl) e⟩
 | frz ob u ih=>obtain ⟨e,q⟩:=x; exact ⟨k _ _ (.inl rfl) e,ih q⟩
 | tbl ps =>
  have e:h.get? a=some { cls:=.none,data:=.fields ps }:=x
  show h'.get? a=some { cls:=.none,data:=.fields ps }
  exact k a _ (.inl rfl) e
 | met f y =>
  have e:h.get? a=some (PySem.W.methodObj (.ref f) (.ref y)):=x
  show h'.get? a=some (PySem.W.methodObj (.ref f) (.ref y))
  exact k a _ (.inl rfl) e
 | ext φ=>obtain ⟨p,⟨o,e⟩,st⟩:=x; exact ⟨st _ _ p fun o q=>k _ _ (.inl rfl) q,⟨o,k _ _ (.inl rfl) e⟩,st⟩
theorem HOk.lt (x:HOk P w H h) (e:H a=some o):a < h.objs.size:=(x a o e).lt
theorem HOk.fresh (x:HOk P w H h) (e:h.objs.size<=a):H a=none:=by
 cases q:H a with
 | none=>rfl
 | some u=>exact absurd (Nat.lt_of_lt_of_le (x.lt q) e) (Nat.lt_irrefl _)
theorem HOk.kept (x:HOk P w H h) (k:∀ b u,h.get? b=some u->h'.get? b=some u):HOk P w H h':=fun a o e =>
 (x a o e).stay (fun b u _ q=>k b u q) (fun _ q=>q) fun _ _ q=>q
theorem HOk.laid (x:HOk P w H h) (k:∀ b u,h.get? b=some u->h'.get? b=some u) (hp:h.objs.size<=a) (new:ObjOk P w (upd H a o) h' a o):HOk P w (upd H a o) h':=fun b u e=>by
 have hn:=x.fresh hp
 by_cases hb:b=a
 ·subst hb; rw [upd_same] at e; cases e; exact new
 ·rw [upd_ne hb] at e
  exact (x b u e).stay (fun c v _ q=>k c v q) (fun c q=>by rw [upd_ne (ne_of_none q hn)]; exact q) fun c xs q=>by rw [upd_ne (ne_of_none q hn)]; exact q
end
noncomputable def Rd (H:Hp) (a:Addr) (u:HO):Prop:=H a=some u\/∃ o,H a=some (.frz o u)
theorem Rd.ok {P:Program} {w:World} {H:Hp} {h:Heap} {a:Addr} {u:HO} (r:Rd H a u) (x:HOk P w H h):ObjOk P w H h a u:=by
 rcases r with r | ⟨o,r⟩
 ·exact x a u r
 ·obtain ⟨_,q⟩:=x a _ r
  exact q
noncomputable def Mut:Option HO->Prop
 | some (.lst _)=>True
 | some (.dK _)=>True
 | some (.dT _)=>True
 | some (.set _ _)=>True
 | some (.ins _ _ _)=>True
 | some (.ext _)=>True
 | _=>False
section
variable {P:Program} {w:World} {H:Hp} {h h':Heap} {x e:Addr} {o':HO}
theorem HOk.write (ok:HOk P w H h) (mu:Mut (H x)) (he:e=x\/H e=some (.own x)) (k:∀ b u,b≠e->h.get? b=some u->h'.get? b=some u) (heo:∃ u,h'.get? e=some u)
  (new:ObjOk P w (upd H x o') h' x o'):HOk P w (upd H x o') h':=fun b u q=>by
 have nown:∀ c y,H c=some (.own y)->c≠x:=fun c y r z=>by subst z; rw [r] at mu; exact mu
 have ntup:∀ c xs,H c=some (.tup xs)->c≠x:=fun c xs r z=>by subst z; rw [r] at mu; exact mu
 by_cases hb:b=x
 ·subst hb; rw [upd_same] at q; cases q; exact new
 ·rw [upd_ne hb] at q
  by_cases hbe:b=e
  ·have q':H b=some (.own x):=by
    rcases he with z | z
    ·exact absurd (hbe.trans z) hb
    ·rw [hbe]; exact z
   rw [q] at q'; cases q'
   obtain ⟨v,hv⟩:=heo
   exact ⟨v,by rw [hbe]; exact hv⟩
  ·refine (ok b u q).stay (fun c v hc r=>k c v ?_ r) (fun c r=>by rw [upd_ne (nown c b r)]; exact r) fun c xs r=>by rw [upd_ne (ntup c xs r)]; exact r
   rcases hc with rfl | hc
   ·exact hbe
   ·rintro rfl
    rcases he with z | z
    ·exact nown c b hc z
    ·rw [hc] at z; cases z; exact hb rfl
end
structure Un (fs ex:List Addr) (H H':Hp) (h h':Heap):Prop where
 keep:∀ b o,h.get? b=some o->H b=none->b∉fs->b∉ex->h'.get? b=some o
 slot:∀ b o,h.get? b=some o->H b=none->b∈fs->b∉ex->∃ sl,h'.get? b=some { o with slots:=sl }
 free:∀ b o,h.get? b=some o->H b=none->b∉ex->H' b=none
 there:∀ b o,h.get? b=some o->b∉ex->∃ o',h'.get? b=some o'
 tups:∀ b xs,H b=some (.tup xs)->H' b=some (.tup xs)
 frzs:∀ b o u,H b=some (.frz o u)->H' b=some (.frz o u)
 tbls:∀ b ps,H b=some (.tbl ps)->∃ more,H' b=some (.tbl (ps++more))
section
variable {fs fs' ex ex':List Addr} {H H1 H2:Hp} {h h1 h2 h':Heap} {a x e:Addr} {o:HO}
theorem Un.any (u:Un fs ex H H1 h h1) {b:Addr} {ob:Obj} (q:h.get? b=some ob) (n:H b=none) (hx:b∉ex):∃ sl,h1.get? b=some { ob with slots:=sl }:=by
 by_cases hb:b∈fs
 ·exact u.slot b ob q n hb hx
 ·exact ⟨ob.slots,u.keep b ob q n hb hx⟩
theorem Un.kept (k:∀ b u,h.get? b=some u->h'.get? b=some u):Un fs ex H H h h' :=
 ⟨fun b ob q _ _ _=>k b ob q,fun b ob q _ _ _=>⟨ob.slots,k b ob q⟩,fun _ _ _ n _=>n,fun b ob q _=>⟨ob,k b ob q⟩,fun _ _ q=>q,fun _ _ _ q=>q,fun _ ps q=>⟨#[],by rw [q]; simp⟩⟩
theorem Un.refl:Un fs ex H H h h:=Un.kept fun _ _ q=>q
theorem Un.laid (k:∀ b u,h.get? b=some u->h'.get? b=some u) (hp:h.objs.size<=a) (hn:H a=none):Un fs ex H (upd H a o) h h' where
 keep:=fun b u q _ _ _=>k b u q
 slot:=fun b u q _ _ _=>⟨u.slots,k b u q⟩
 free:=fun b u q n _=>by rw [upd_ne (Nat.ne_of_lt (Nat.lt_of_lt_of_le (Heap.lt_size q) hp))]; exact n
 there:=fun b u q _=>⟨u,k b u q⟩
 tups:=fun b xs q=>by rw [upd_ne (ne_of_none q hn)]; exact q
 frzs:=fun b u xs q=>by rw [upd_ne (ne_of_none q hn)]; exact q
 tbls:=fun b ps q=>⟨#[],by rw [upd_ne (ne_of_none q hn),q]; simp⟩
theorem Un.write (mu:Mut (H x)) (he:e=x\/H e=some (.own x)) (k:∀ b u,b≠e->h.get? b=some u->h'.get? b=some u) (heo:∃ u,h'.get? e=some u):Un fs ex H (upd H x o) h h':=by
 have hx:∀ b,H b=none->b≠x:=fun b n z=>by subst z; rw [n] at mu; exact mu
 have hb:∀ b,H b=none->b≠e:=fun b n z=>by
  subst z
  rcases he with r | r
  ·exact hx b n r
  ·rw [n] at r; cases r
 have hm:∀ b u,H b=some u->¬ Mut (some u)->b≠x:=fun b u q nm z=>by subst z; rw [q] at mu; exact nm mu
 refine ⟨fun b u q n _ _=>k b u (hb b n) q,fun b u q n _ _=>⟨u.slots,k b u (hb b n) q⟩,fun b u q n _=>by rw [upd_ne (hx b n)]; exact n,fun b u q _=>?_,
  fun b xs q=>by rw [upd_ne (hm b _ q fun z=>z)]; exact q,fun b u xs q=>by rw [upd_ne (hm b _ q fun z=>z)]; exact q,fun b ps q=>⟨#[],by rw [upd_ne (hm b _ q fun z=>z),q]; simp⟩⟩
 by_cases hbe:b=e
 ·subst hbe; exact heo
 ·exact ⟨u,k b u hbe q⟩
end
noncomputable def trk (h:Heap) (H:Hp):List Addr:=(List.range h.objs.size).filter fun a=>(H a).isSome
noncomputable def hidT (h:Heap) (H:Hp):Heap:=PySem.W.hideAll h (trk h H)
theorem hidT_size (h:Heap) (H:Hp):(hidT h H).objs.size=h.objs.size:=PySem.W.hideAll_size _ _
theorem hidT_get {h:Heap} {H:Hp} {b:Addr} {o:Obj} (e:h.get? b=some o) (n:H b=none):(hidT h H).get? b=some o :=
 PySem.W.hideAll_get _ e fun hm=>by
  have q:(H b).isSome=true:=(List.mem_filter.mp hm).2
  rw [n] at q; simp at q
theorem of_hidT {h:Heap} {H:Hp} {b:Addr} {o:Obj} (e:(hidT h H).get? b=some o):h.get? b=some o/\H b=none:=by
 have e':h.get? b=some o:=PySem.W.of_hideAll (trk h H) e
 refine ⟨e',?_⟩
 cases q:H b with
 | none=>rfl
 | some x =>
  have hm:b∈trk h H:=List.mem_filter.mpr ⟨List.mem_range.mpr (Heap.lt_size e'),by simp [q]⟩
  have z:(hidT h H).get? b=none:=PySem.W.hideAll_none (trk h H) hm
  rw [z] at e; cases e
noncomputable def allNews (g h:Heap) (L:Addr):List (Addr×Obj):=(List.range h.objs.size).filterMap fun a=>if a=L\/(g.get? a).isSome=true then none else (h.get? a).map fun o=>(a,o)
theorem mem_allNews {g h:Heap} {L a:Addr} {o:Obj} (h1:a≠L) (h2:g.get? a=none) (h3:h.get? a=some o):(a,o)∈allNews g h L :=
 List.mem_filterMap.mpr ⟨a,List.mem_range.mpr (Heap.lt_size h3),by simp [h1,h2,h3]⟩
theorem of_mem_allNews {g h:Heap} {L:Addr} {p:Addr×Obj} (hp:p∈allNews g h L):p.1≠L/\g.get? p.1=none/\h.get? p.1=some p.2:=by
 obtain ⟨b,_,e⟩:=List.mem_filterMap.mp hp
 split at e
 ·cases e
 ·rename_i hn
  cases q:h.get? b with
  | none=>rw [q] at e; simp at e
  | some u =>
   rw [q] at e
   simp only [Option.map_some,Option.some.injEq] at e
   subst e
   refine ⟨fun z=>hn (.inl z),?_,q⟩
   show g.get? b=none
   cases r:g.get? b with
   | none=>rfl
   | some v=>exact (hn (.inr (by simp [r]))).elim
noncomputable def rest (g h:Heap) (L d:Addr):List (Addr×Obj):=(allNews g h L).filter fun p=>decide (p.1≠d)
theorem news_all {g h:Heap} {L:Addr}:News g L h (allNews g h L):=fun p hp=>let ⟨a,b,c⟩:=of_mem_allNews hp; ⟨c,a,b⟩
structure Mod (K:PySem.W.Frag) (mg:Str->Option Value) (base:Heap):Prop where
 kin:K.In base
 glob:base.Ns mainGlobals mg
 blt:∃ mb,base.Ns builtinsNs mb/\∀ x:Str,x≠"__name__"->mb x=bootBuiltins x
 nolimit:base.NoLimit
structure Cx where
 prog:Program
 w:World
 K:PySem.W.Frag
 mg:Str->Option Value
 base:Heap
 A:Around
 N:List Str
 s₀:Shared
 H₀:Hp
 env:Env
 outer:List Env
 stack:List Env
 ex:List Addr
 fn:Str->Bool
 calm:Bool
 pn:List (Addr×Obj)
 xe:Value->Shared->Prop
noncomputable def frs (l:List Env):List Addr:=l.filterMap (·.frame)
noncomputable abbrev Cx.fs (X:Cx):List Addr:=frs X.outer
noncomputable def Vis (sc:Scope) (x:Str):Prop:=sc.names.lookup x=some .local\/sc.names.lookup x=some .cell\/sc.names.lookup x=some .free
noncomputable def Loc (sc:Scope) (x:Str):Prop:=sc.names.lookup x=some .local\/sc.names.lookup x=some .cell
noncomputable def Look (env:Env) (h:Heap) (m:Str->Option Value) (x:Str) (u:Value):Prop :=
 (env.kindOf x=some .local/\m x=some u)\/((env.kindOf x=some .cell\/env.kindOf x=some .free)/\∃ c,env.cells.lookup x=some c/\h.IsCell c (some u))
structure Cx.Ok (X:Cx):Prop where
 mod:Mod X.K X.mg X.base
 kind:X.env.scope.kind=.function
 glob:X.env.globals=mainGlobals
 blt:X.env.builtins=builtinsNs
 above:X.s₀.heap.objs.size<=X.env.locals
 inj:∀ x y c,X.env.cells.lookup x=some c->X.env.cells.lookup y=some c->x=y
 has:∀ x,(X.env.kindOf x=some .cell\/X.env.kindOf x=some .free)->∃ c,X.env.cells.lookup x=some c
 cab:∀ x c,X.fn x=true->X.env.cells.lookup x=some c->X.s₀.heap.objs.size<=c
 hd:X.calm=true->X.A.handled=none
 frames:X.A.frames=some X.stack
 stk:X.stack=X.outer\/(X.stack=X.env :: X.outer/\X.env.frame=some X.env.locals)
 exf:∀ b∈X.ex,b≠X.env.locals/\∀ x c,X.env.cells.lookup x=some c->c≠b
 bs:∀ b o,X.base.get? b=some o->X.s₀.heap.get? b=some o/\X.H₀ b=none
 bsz:X.base.objs.size<=X.s₀.heap.objs.size
 noex:∀ b o,X.base.get? b=some o->b∉X.ex
 exfs:∀ b∈X.ex,b∉X.fs
 funs:X.s₀.heap.FunFrames X.base X.outer
 frf:∀ b∈X.fs,X.H₀ b=none
structure Inv (X:Cx) (pins:List (Addr×Obj)) (σ:List (Option V)) (H:Hp) (s:Shared):Prop where
 ok:X.Ok
 os:s.os=X.s₀.os
 bare:AllBare s.gens
 base:Un X.fs X.ex X.H₀ H X.s₀.heap s.heap
 loc:∃ m,s.heap.Ns X.env.locals m/\∀ (i:Nat) (x:Str) (v:V),X.N[i]?=some x->σ[i]?=some (some v)->Vis X.env.scope x->∃ u,RelV v u/\Look X.env s.heap m x u
 cell:∀ x c,X.env.cells.lookup x=some c->∃ v,s.heap.IsCell c v
 free:H X.env.locals=none
 freeC:∀ x c,X.env.cells.lookup x=some c->H c=none
 pin:∀ p∈X.pn++pins,s.heap.get? p.1=some p.2/\H p.1=none/\p.1≠X.env.locals/\p.1∉X.fs/\∀ v,p.2.data≠.cell v
 hok:HOk X.prog X.w H s.heap
 len:σ.length=X.N.length
section
variable {X:Cx} {pins:List (Addr×Obj)} {σ:List (Option V)} {H H':Hp} {s:Shared} {h':Heap}
theorem Cx.Ok.nofr (ok:X.Ok) {b:Addr} {o:Obj} (e:X.base.get? b=some o):b∉X.fs:=fun hb=>by
 have:=(ok.funs.mem hb).1
 rw [e] at this; cases this
theorem Inv.bs (I:Inv X pins σ H s):∀ b o,X.base.get? b=some o->s.heap.get? b=some o/\H b=none:=fun b o e =>
 ⟨I.base.keep b o (I.ok.bs b o e).1 (I.ok.bs b o e).2 (I.ok.nofr e) (I.ok.noex b o e),I.base.free b o (I.ok.bs b o e).1 (I.ok.bs b o e).2 (I.ok.noex b o e)⟩
theorem Inv.bk (I:Inv X pins σ H s):∀ b o,X.base.get? b=some o->s.heap.get? b=some o:=fun b o e=>(I.bs b o e).1
theorem Inv.mod (I:Inv X pins σ H s):Mod X.K X.mg X.base:=I.ok.mod
theorem Inv.kIn (I:Inv X pins σ H s):X.K.In s.heap:=I.ok.mod.kin.keeps I.bk
theorem Inv.fr (I:Inv X pins σ H s):∃ m,Fr X.base X.env.locals s.heap m :=
 let ⟨m,hn,_⟩:=I.loc
 ⟨m,hn,I.bk,Nat.le_trans I.ok.bsz I.ok.above⟩
theorem Inv.lt (I:Inv X pins σ H s):X.env.locals < s.heap.objs.size:=let ⟨_,hn,_⟩:=I.loc; hn.lt
theorem Inv.sz (I:Inv X pins σ H s):X.s₀.heap.objs.size<=s.heap.objs.size:=Nat.le_trans I.ok.above (Nat.le_of_lt I.lt)
theorem Inv.nofs (I:Inv X pins σ H s) {a:Addr} (h:s.heap.objs.size<=a):a∉X.fs:=fun hb=>by
 obtain ⟨_,o,ho,_⟩:=I.ok.funs.mem hb
 exact absurd (Nat.lt_of_lt_of_le (Heap.lt_size ho) (Nat.le_trans I.sz h)) (Nat.lt_irrefl _)
theorem Inv.cne (I:Inv X pins σ H s):∀ x c,X.env.cells.lookup x=some c->c≠X.env.locals:=fun x c e z=>by
 obtain ⟨v,o,ho,hd⟩:=I.cell x c e
 obtain ⟨m,⟨o',es,ep,ho',hd',_⟩,_⟩:=I.loc
 rw [z,ho'] at ho; cases ho; rw [hd'] at hd; cases hd
theorem Inv.funs (I:Inv X pins σ H s):s.heap.FunFrames X.base X.outer:=by
 have all:∀ (l:List Env),(∀ b∈frs l,b∈X.fs)->X.s₀.heap.FunFrames X.base l->s.heap.FunFrames X.base l:=by
  intro l
  induction l with
  | nil=>intro _ _; trivial
  | cons env r ih =>
   intro hs hl
   obtain ⟨hk,⟨L,o,hf,hn,ho,hd⟩,hr⟩:=hl
   have hL:L∈X.fs:=hs L (by unfold frs; rw [List.filterMap_cons,hf]; exact List.mem_cons_self)
   obtain ⟨sl,e⟩:=I.base.slot L o ho (I.ok.frf L hL) hL fun z=>I.ok.exfs L z hL
   exact ⟨hk,⟨L,_,hf,hn,e,hd⟩,ih (fun b hb=>hs b (by unfold frs; rw [List.filterMap_cons,hf]; exact List.mem_cons_of_mem _ hb)) hr⟩
 exact all X.outer (fun _ hb=>hb) I.ok.funs
theorem Inv.stack (I:Inv X pins σ H s):s.heap.FunFrames X.base X.stack:=by
 rcases I.ok.stk with e | ⟨e,hf⟩
 ·rw [e]; exact I.funs
 ·rw [e]
  obtain ⟨m,hn,_⟩:=I.loc
  refine .cons (by rw [I.ok.kind]; decide) hf hn ?_ I.funs
  exact Heap.get?_none_of_le (Nat.le_trans I.ok.bsz I.ok.above)
theorem Inv.stkSub (I:Inv X pins σ H s):∀ b∈frs X.stack,b∈X.env.locals :: X.fs:=fun b hb=>by
 rcases I.ok.stk with e | ⟨e,hf⟩
 ·rw [e] at hb; exact List.mem_cons_of_mem _ hb
 ·rw [e] at hb
  unfold frs at hb
  rw [List.filterMap_cons,hf] at hb
  exact hb
theorem Inv.stkFree (I:Inv X pins σ H s):∀ b∈frs X.stack,H b=none:=fun b hb=>by
 rcases List.mem_cons.mp (I.stkSub b hb) with e | hb
 ·rw [e]; exact I.free
 ·obtain ⟨_,o,ho,_⟩:=I.ok.funs.mem hb
  exact I.base.free b o ho (I.ok.frf b hb) fun z=>I.ok.exfs b z hb
theorem Inv.step {g':Array GenState} {t':Nat} {d':Drawn} {ch:List Addr} (I:Inv X pins σ H s)
  (hch:∀ b∈ch,(b∈X.ex\/X.s₀.heap.objs.size<=b)/\b≠X.env.locals/\(∀ x c,X.env.cells.lookup x=some c->c≠b)/\∀ p∈X.pn++pins,p.1≠b)
  (keep:∀ b o,b≠X.env.locals->b∉X.fs->b∉ch->s.heap.get? b=some o->H b=none->h'.get? b=some o)
  (slot:∀ b o,b≠X.env.locals->b∈X.fs->b∉ch->s.heap.get? b=some o->H b=none->∃ sl,h'.get? b=some { o with slots:=sl }) (free:∀ b o,b∉ch->s.heap.get? b=some o->H b=none->H' b=none)
  (there:∀ b o,b∉ch->s.heap.get? b=some o->∃ o',h'.get? b=some o')
  (tups:∀ b xs,H b=some (.tup xs)->H' b=some (.tup xs)) (frzs:∀ b o u,H b=some (.frz o u)->H' b=some (.frz o u)) (tbls:∀ b ps,H b=some (.tbl ps)->∃ more,H' b=some (.tbl (ps++more)))
  (ns:∀ m,s.heap.Ns X.env.locals m->h'.Ns X.env.locals m) (hok:HOk X.prog X.w H' h') (hg:AllBare g') :
  Inv X pins σ H' { s with heap:=h',gens:=g',drawn:=d',toks:=t' }:=by
 have neL:∀ b o,X.s₀.heap.get? b=some o->b≠X.env.locals:=fun b o e=>Nat.ne_of_lt (Nat.lt_of_lt_of_le (Heap.lt_size e) I.ok.above)
 have neC:∀ b o,X.s₀.heap.get? b=some o->b∉X.ex->b∉ch:=fun b o e hx hb=>by
  rcases (hch b hb).1 with z | z
  ·exact hx z
  ·exact absurd (Nat.lt_of_lt_of_le (Heap.lt_size e) z) (Nat.lt_irrefl _)
 have cellK:∀ x c,X.env.cells.lookup x=some c->∀ v,s.heap.IsCell c v->h'.IsCell c v:=fun x c e v ⟨o,ho,hd⟩=>by
  have nch:c∉ch:=fun z=>(hch c z).2.2.1 x c e rfl
  by_cases hc:c∈X.fs
  ·obtain ⟨sl,q⟩:=slot c o (I.cne x c e) hc nch ho (I.freeC x c e)
   exact ⟨_,q,hd⟩
  ·exact ⟨o,keep c o (I.cne x c e) hc nch ho (I.freeC x c e),hd⟩
 refine ⟨I.ok,I.os,hg,⟨fun b o e n hb hx=>?_,fun b o e n hb hx=>?_,fun b o e n hx=>?_,fun b o e hx=>?_,fun b xs e=>tups b xs (I.base.tups b xs e),fun b o xs e=>frzs b o xs (I.base.frzs b o xs e),fun b ps e=>?_⟩,?_,fun x c e=>?_,?_,fun x c e=>?_,fun p hp=>?_,hok,I.len⟩
 ·exact keep b o (neL b o e) hb (neC b o e hx) (I.base.keep b o e n hb hx) (I.base.free b o e n hx)
 ·obtain ⟨sl,e1⟩:=I.base.slot b o e n hb hx
  obtain ⟨sl',e2⟩:=slot b _ (neL b o e) hb (neC b o e hx) e1 (I.base.free b o e n hx)
  exact ⟨sl',e2⟩
 ·obtain ⟨o',e1⟩:=I.base.there b o e hx
  exact free b o' (neC b o e hx) e1 (I.base.free b o e n hx)
 ·obtain ⟨o',e1⟩:=I.base.there b o e hx
  exact there b o' (neC b o e hx) e1
 ·obtain ⟨m1,e1⟩:=I.base.tbls b ps e
  obtain ⟨m2,e2⟩:=tbls b _ e1
  exact ⟨m1++m2,by rw [e2,Array.append_assoc]⟩
 ·obtain ⟨m,hn,hl⟩:=I.loc
  refine ⟨m,ns m hn,fun i x v e1 e2 e3=>?_⟩
  obtain ⟨u,r,l⟩:=hl i x v e1 e2 e3
  refine ⟨u,r,?_⟩
  rcases l with l | ⟨k,c,e,z⟩
  ·exact .inl l
  ·exact .inr ⟨k,c,e,cellK x c e _ z⟩
 ·obtain ⟨v,z⟩:=I.cell x c e
  exact ⟨v,cellK x c e v z⟩
 ·obtain ⟨m,⟨o,_,_,ho,_⟩,_⟩:=I.loc
  exact free _ o (fun z=>(hch _ z).2.1 rfl) ho I.free
 ·obtain ⟨v,o,ho,hd⟩:=I.cell x c e
  exact free c o (fun z=>(hch c z).2.2.1 x c e rfl) ho (I.freeC x c e)
 ·obtain ⟨e,n,ne,nf,d⟩:=I.pin p hp
  have nch:p.1∉ch:=fun z=>(hch p.1 z).2.2.2 p hp rfl
  exact ⟨keep p.1 p.2 ne nf nch e n,free p.1 p.2 nch e n,ne,nf,d⟩
theorem Inv.un {t':Nat} (I:Inv X pins σ H s) (u:Un X.fs [] H H' s.heap h') (hok:HOk X.prog X.w H' h'):Inv X pins σ H' { s with heap:=h',toks:=t' }:=by
 obtain ⟨m,⟨o,es,ep,ho,r⟩,_⟩:=id I.loc
 obtain ⟨sl,hL⟩:=u.any ho I.free (by simp)
 exact I.step (g':=s.gens) (d':=s.drawn) (ch:=[]) (fun _ z=>nomatch z) (fun b o _ hb _ e n=>u.keep b o e n hb (by simp)) (fun b o _ hb _ e n=>u.slot b o e n hb (by simp)) (fun b o _ e n=>u.free b o e n (by simp)) (fun b o _ e=>u.there b o e (by simp)) u.tups u.frzs u.tbls (fun m' hm=>by
  obtain ⟨o',es',ep',ho',r'⟩:=hm
  rw [ho] at ho'; cases ho'
  exact ⟨_,es',ep',hL,r'⟩) hok I.bare
theorem Inv.call {g':Array GenState} {t':Nat} {d':Drawn} {ch:List Addr} (I:Inv X pins σ H s) (u:Un (frs X.stack) ch H H' s.heap h') (hok:HOk X.prog X.w H' h') (hg:AllBare g')
  (hch:∀ b∈ch,(b∈X.ex\/X.s₀.heap.objs.size<=b)/\b≠X.env.locals/\(∀ x c,X.env.cells.lookup x=some c->c≠b)/\∀ p∈X.pn++pins,p.1≠b) :
  Inv X pins σ H' { s with heap:=h',gens:=g',drawn:=d',toks:=t' }:=by
 obtain ⟨m,⟨o,es,ep,ho,r⟩,_⟩:=id I.loc
 obtain ⟨sl,hL⟩:=u.any ho I.free fun z=>(hch _ z).2.1 rfl
 exact I.step (ch:=ch) hch (fun b o hL hb hc e n=>u.keep b o e n (fun z=>(List.mem_cons.mp (I.stkSub b z)).elim hL hb) hc) (fun b o _ _ hc e n=>u.any e n hc) (fun b o hc e n=>u.free b o e n hc) (fun b o hc e=>u.there b o e hc) u.tups u.frzs u.tbls (fun m' hm=>by
  obtain ⟨o',es',ep',ho',r'⟩:=hm
  rw [ho] at ho'; cases ho'
  exact ⟨_,es',ep',hL,r'⟩) hok hg
theorem Inv.turned {t':Nat} {it:Addr} (I:Inv X pins σ H s) (k:∀ b o,b≠it->s.heap.get? b=some o->h'.get? b=some o) (hn:H it=none) (hL:it≠X.env.locals)
  (h1:it∈X.ex\/X.s₀.heap.objs.size<=it) (h2:∀ x c,X.env.cells.lookup x=some c->c≠it) (h3:∀ p∈X.pn++pins,p.1≠it):Inv X pins σ H { s with heap:=h',toks:=t' }:=by
 have nit:∀ b u,H b=some u->b≠it:=fun b u e z=>by rw [z,hn] at e; cases e
 refine I.step (g':=s.gens) (d':=s.drawn) (ch:=[it]) (fun b hb=>?_) (fun b o _ _ hc e _=>k b o (fun z=>hc (by simp [z])) e) (fun b o _ _ hc e _=>⟨o.slots,k b o (fun z=>hc (by simp [z])) e⟩) (fun _ _ _ _ n=>n)
  (fun b o hc e=>⟨o,k b o (fun z=>hc (by simp [z])) e⟩) (fun _ _ e=>e) (fun _ _ _ e=>e) (fun b ps e=>⟨#[],by rw [e]; simp⟩) (fun m hm=>?_) (fun b u e=>?_) I.bare
 ·have e:b=it:=by simpa using hb
  subst e
  exact ⟨h1,hL,h2,h3⟩
 ·obtain ⟨o,es,ep,ho,r⟩:=hm
  exact ⟨o,es,ep,k _ o (Ne.symm hL) ho,r⟩
 ·refine (I.hok b u e).stay (fun c v hc q=>k c v ?_ q) (fun _ q=>q) fun _ _ q=>q
  rcases hc with z | z
  ·rw [z]; exact nit b u e
  ·exact nit c _ z
theorem Inv.tok (I:Inv X pins σ H s) (t:Nat):Inv X pins σ H { s with toks:=t }:=I.un (h':=s.heap) (t':=t) Un.refl I.hok
theorem Inv.kept {t':Nat} (I:Inv X pins σ H s) (k:∀ b u,s.heap.get? b=some u->h'.get? b=some u):Inv X pins σ H { s with heap:=h',toks:=t' }:=I.un (Un.kept k) (I.hok.kept k)
theorem Inv.laid {a:Addr} {o:HO} {t':Nat} (I:Inv X pins σ H s) (k:∀ b u,s.heap.get? b=some u->h'.get? b=some u) (hp:s.heap.objs.size<=a) (new:ObjOk X.prog X.w (upd H a o) h' a o) :
  Inv X pins σ (upd H a o) { s with heap:=h',toks:=t' }:=I.un (Un.laid k hp (I.hok.fresh hp)) (I.hok.laid k hp new)
theorem Inv.write {x e:Addr} {o:HO} {t':Nat} (I:Inv X pins σ H s) (mu:Mut (H x)) (he:e=x\/H e=some (.own x)) (k:∀ b u,b≠e->s.heap.get? b=some u->h'.get? b=some u) (heo:∃ u,h'.get? e=some u)
  (new:ObjOk X.prog X.w (upd H x o) h' x o):Inv X pins σ (upd H x o) { s with heap:=h',toks:=t' }:=I.un (Un.write mu he k heo) (I.hok.write mu he k heo new)
theorem Inv.pins_of {pins':List (Addr×Obj)} (I:Inv X pins σ H s) (h:∀ p∈pins',s.heap.get? p.1=some p.2/\H p.1=none/\p.1≠X.env.locals/\p.1∉X.fs/\∀ v,p.2.data≠.cell v):Inv X pins' σ H s :=
 ⟨I.ok,I.os,I.bare,I.base,I.loc,I.cell,I.free,I.freeC,fun p hp=>(List.mem_append.mp hp).elim (fun z=>I.pin p (List.mem_append_left _ z)) (h p),I.hok,I.len⟩
theorem nodup_ix {N:List Str} (hN:N.Nodup) {i j:Nat} {x:Str} (a:N[i]?=some x) (b:N[j]?=some x):i=j:=by
 obtain ⟨h1,e1⟩:=List.getElem?_eq_some_iff.mp a
 obtain ⟨h2,e2⟩:=List.getElem?_eq_some_iff.mp b
 exact (List.getElem_inj hN).mp (e1.trans e2.symm)
theorem store_ok2 {M:Model} {A:Around} {E:Value->Shared->Prop} {i:Nat} {x:Str} {v:V} {u:Value} {Q:Unit->Shared->Prop} (I:Inv X pins σ H s) (hN:X.N.Nodup) (hi:X.N[i]?=some x) (hx:Loc X.env.scope x) (r:RelV v u)
  (h:∀ s',Inv X pins (σ.set i (some v)) H s'->(∃ a,Heap.SameBut a s.heap s'.heap/\(a=X.env.locals\/X.env.cells.lookup x=some a))->Q () s') (hf:autoParam (X.fn x=true\/X.env.scope.names.lookup x=some .local) Ao._auto_1):wpAny M A (storeName X.env x u) Q E s:=by
 obtain ⟨m,hn,hl⟩:=id I.loc
 have hcls:(X.env.scope.kind == .class||(X.env.scope.kind == .module&&X.env.locals != X.env.globals))=false:=by rw [I.ok.kind]; rfl
 have hiσ:i < σ.length:=by rw [I.len]; exact (List.getElem?_eq_some_iff.mp hi).1
 have cne:=I.cne
 have tracked:∀ {a:Addr} {h':Heap},(∃ o,s.heap.get? a=some o/\H a=none)->Heap.SameBut a s.heap h'->HOk X.prog X.w H h':=fun {a h'} ha hs b ob e=>by
  obtain ⟨_,_,hfree⟩:=ha
  refine (I.hok b ob e).stay (fun c w' hc q=>(hs.2 c ?_).trans q) (fun _ q=>q) fun _ _ q=>q
  rintro rfl
  rcases hc with rfl | hc
  ·rw [hfree] at e; cases e
  ·rw [hfree] at hc; cases hc
 rcases hx with hk | hk
 ·refine wpAny_storeName_local hk hn (fun h' hn' hs=>?_) hcls
  obtain ⟨oL,_,_,hoL,_⟩:=id hn
  refine h _ ⟨I.ok,I.os,I.bare,⟨fun b o e n hb hx=>?_,fun b o e n hb hx=>?_,I.base.free,fun b o e hx=>?_,I.base.tups,I.base.frzs,I.base.tbls⟩,⟨_,hn',fun j y v' e1 e2 e3=>?_⟩,fun y c e=>?_,I.free,I.freeC,fun p hp=>?_,tracked ⟨oL,hoL,I.free⟩ hs,by simpa using I.len⟩ ⟨_,hs,.inl rfl⟩
  ·exact (hs.2 b (Nat.ne_of_lt (Nat.lt_of_lt_of_le (Heap.lt_size e) I.ok.above))).trans (I.base.keep b o e n hb hx)
  ·obtain ⟨sl,e1⟩:=I.base.slot b o e n hb hx
   exact ⟨sl,(hs.2 b (Nat.ne_of_lt (Nat.lt_of_lt_of_le (Heap.lt_size e) I.ok.above))).trans e1⟩
  ·obtain ⟨o',e1⟩:=I.base.there b o e hx
   exact ⟨o',(hs.2 b (Nat.ne_of_lt (Nat.lt_of_lt_of_le (Heap.lt_size e) I.ok.above))).trans e1⟩
  ·by_cases hj:j=i
   ·subst hj
    rw [hi] at e1; cases e1
    rw [List.getElem?_set_self hiσ] at e2
    cases e2
    exact ⟨u,r,.inl ⟨hk,by simp⟩⟩
   ·rw [List.getElem?_set_ne (Ne.symm hj)] at e2
    obtain ⟨u',r',q⟩:=hl j y v' e1 e2 e3
    refine ⟨u',r',?_⟩
    rcases q with ⟨k,e⟩ | ⟨k,c,e,z⟩
    ·refine .inl ⟨k,?_⟩
     have:y≠x:=fun e=>hj (nodup_ix hN e1 (e ▸ hi))
     simp [this,e]
    ·exact .inr ⟨k,c,e,z.sameBut hs (cne y c e)⟩
  ·obtain ⟨w',z⟩:=I.cell y c e
   exact ⟨w',z.sameBut hs (cne y c e)⟩
  ·obtain ⟨e,n,ne,nf,d⟩:=I.pin p hp
   exact ⟨(hs.2 p.1 ne).trans e,n,ne,nf,d⟩
 ·have hfn:X.fn x=true:=by
   rcases hf with z | z
   ·exact z
   ·rw [z] at hk; cases hk
  obtain ⟨c,hc⟩:=I.ok.has x (.inl hk)
  obtain ⟨w',z⟩:=I.cell x c hc
  refine wpAny_storeName_cell I.ok.kind hk hc z (fun h' hc' hs=>?_)
  obtain ⟨oc,hoc,hocd⟩:=id z
  refine h { s with heap:=h' } ⟨I.ok,I.os,I.bare,⟨fun b o e n hb hx=>?_,fun b o e n hb hx=>?_,I.base.free,fun b o e hx=>?_,I.base.tups,I.base.frzs,I.base.tbls⟩,⟨m,hn.sameBut hs (Ne.symm (cne x c hc)),fun j y v' e1 e2 e3=>?_⟩,fun y c' e=>?_,I.free,I.freeC,fun p hp=>?_,tracked ⟨oc,hoc,I.freeC x c hc⟩ hs,by simpa using I.len⟩ ⟨c,hs,.inr hc⟩
  ·exact (hs.2 b (Nat.ne_of_lt (Nat.lt_of_lt_of_le (Heap.lt_size e) (I.ok.cab x c hfn hc)))).trans (I.base.keep b o e n hb hx)
  ·obtain ⟨sl,e1⟩:=I.base.slot b o e n hb hx
   exact ⟨sl,(hs.2 b (Nat.ne_of_lt (Nat.lt_of_lt_of_le (Heap.lt_size e) (I.ok.cab x c hfn hc)))).trans e1⟩
  ·obtain ⟨o',e1⟩:=I.base.there b o e hx
   exact ⟨o',(hs.2 b (Nat.ne_of_lt (Nat.lt_of_lt_of_le (Heap.lt_size e) (I.ok.cab x c hfn hc)))).trans e1⟩
  ·by_cases hj:j=i
   ·subst hj
    rw [hi] at e1; cases e1
    rw [List.getElem?_set_self hiσ] at e2
    cases e2
    exact ⟨u,r,.inr ⟨.inl hk,c,hc,hc'⟩⟩
   ·rw [List.getElem?_set_ne (Ne.symm hj)] at e2
    obtain ⟨u',r',q⟩:=hl j y v' e1 e2 e3
    refine ⟨u',r',?_⟩
    rcases q with q | ⟨k,c',e,z'⟩
    ·exact .inl q
    ·refine .inr ⟨k,c',e,z'.sameBut hs ?_⟩
     rintro rfl
     exact hj (nodup_ix hN e1 (I.ok.inj _ _ _ e hc ▸ hi))
  ·by_cases hcc:c'=c
   ·subst hcc; exact ⟨_,hc'⟩
   ·obtain ⟨w2,z2⟩:=I.cell y c' e
    exact ⟨w2,z2.sameBut hs hcc⟩
  ·obtain ⟨e,n,ne,nf,d⟩:=I.pin p hp
   refine ⟨(hs.2 p.1 ?_).trans e,n,ne,nf,d⟩
   intro q
   rw [q,hoc] at e
   have q':oc=p.2:=Option.some.inj e
   exact d w' (by rw [← q']; exact hocd)
theorem store_ok {M:Model} {A:Around} {E:Value->Shared->Prop} {i:Nat} {x:Str} {v:V} {u:Value} {Q:Unit->Shared->Prop} (I:Inv X pins σ H s) (hN:X.N.Nodup) (hi:X.N[i]?=some x) (hx:Loc X.env.scope x) (r:RelV v u)
  (h:∀ s',Inv X pins (σ.set i (some v)) H s'->Q () s') (hf:autoParam (X.fn x=true\/X.env.scope.names.lookup x=some .local) Ao._auto_1):wpAny M A (storeName X.env x u) Q E s :=
 store_ok2 I hN hi hx r (fun s' I' _=>h s' I') hf
theorem Inv.call' {s':Shared} {ch:List Addr} (I:Inv X pins σ H s) (ho:s'.os=s.os) (u:Un (frs X.stack) ch H H' s.heap s'.heap) (hok:HOk X.prog X.w H' s'.heap) (hg:AllBare s'.gens)
  (hch:∀ b∈ch,(b∈X.ex\/X.s₀.heap.objs.size<=b)/\b≠X.env.locals/\(∀ x c,X.env.cells.lookup x=some c->c≠b)/\∀ p∈X.pn++pins,p.1≠b):Inv X pins σ H' s':=by
 obtain ⟨h',g',d',t',o'⟩:=s'
 have e:o'=s.os:=ho
 subst e
 exact I.call (g':=g') (t':=t') (d':=d') u hok hg hch
end
noncomputable abbrev XK:=Value->Option Addr->Hp->Prop
noncomputable abbrev St:=List (Option V)
noncomputable abbrev VK:=V->Hp->Prop
noncomputable abbrev TE:=St->Hp->VK->Prop
noncomputable abbrev TT:=St->Hp->(Bool->Hp->Prop)->Prop
noncomputable abbrev TA:=St->Hp->(List V->Hp->Prop)->Prop
structure Ends where
 nx:St->Hp->Prop
 rt:VK
 bk:St->Hp->Prop:=fun _ _=>False
 ct:St->Hp->Prop:=fun _ _=>False
noncomputable abbrev TS:=Ends->St->Hp->Prop
noncomputable def EP (X:Cx) (pins:List (Addr×Obj)) (σ:St) (Q:VK) (u:Value) (s':Shared):Prop:=∃ v H',Inv X pins σ H' s'/\RelV v u/\Q v H'
noncomputable def TP (X:Cx) (pins:List (Addr×Obj)) (σ:St) (Q:Bool->Hp->Prop) (b:Bool) (s':Shared):Prop:=∃ H',Inv X pins σ H' s'/\Q b H'
noncomputable def SP (X:Cx) (pins:List (Addr×Obj)) (D:Ends) (f:Flow) (s':Shared):Prop :=
 match f with
 | .next=>∃ σ' H',Inv X pins σ' H' s'/\D.nx σ' H'
 | .brk=>∃ σ' H',Inv X pins σ' H' s'/\D.bk σ' H'
 | .cont=>∃ σ' H',Inv X pins σ' H' s'/\D.ct σ' H'
 | .ret u=>∃ v σ' H',Inv X pins σ' H' s'/\RelV v u/\D.rt v H'
noncomputable def PE (X:Cx) (e:Expr) (t:TE):Prop :=
 ∀ (pins:List (Addr×Obj)) (s:Shared) (σ:St) (H:Hp) (Q:VK),Inv X pins σ H s->t σ H Q->wpAny (model X.prog X.w) X.A (eval e X.env) (EP X pins σ Q) X.xe s
noncomputable def PSs (X:Cx) (st:List Stmt) (t:TS):Prop :=
 ∀ (pins:List (Addr×Obj)) (s:Shared) (σ:St) (H:Hp) (D:Ends),Inv X pins σ H s->t D σ H->wpAny (model X.prog X.w) X.A (execs st X.env) (SP X pins D) X.xe s
theorem thn {α:Type} {t:Sem α} {Q Q':α->Shared->Prop} {M:Model} {A:Around} {E:Value->Shared->Prop} {s:Shared} (h:wpAny M A t Q E s) (hQ:∀ a s,Q a s->Q' a s):wpAny M A t Q' E s:=wpAny_mono h hQ fun _ _ x=>x
section
variable {X:Cx}
noncomputable def tVar (i:Nat):TE:=fun σ H Q=>∃ v,σ[i]?=some (some v)/\Q v H
noncomputable def tC (v:V):TE:=fun _ H Q=>Q v H
theorem pe_var {i:Nat} {x:Str} {pos:Pos} (hN:X.N[i]?=some x) (hv:Vis X.env.scope x) (hd:autoParam ((x == ("__debug__" : Str))=false) Ad._auto_1) (hcd:autoParam ((x == ("__classdict__" : Str))=false) Ad._auto_1):PE X (.Name x pos) (tVar i):=by
 intro pins s σ H Q I h
 obtain ⟨v,e,h⟩:=h
 obtain ⟨m,hn,hl⟩:=I.loc
 obtain ⟨u,r,l⟩:=hl i x v hN e hv
 have fin:EP X pins σ Q u s:=⟨v,H,I,r,h⟩
 rcases l with ⟨hk,hm⟩ | ⟨hk,c,hc,hcell⟩
 ·exact wpAny_Name (wpAny_loadName_local I.ok.kind hk hn hm fin) hd
 ·rcases hk with hk | hk
  ·exact wpAny_Name (wpAny_loadName_cell I.ok.kind hk hc hcell fin) hd
  ·exact wpAny_Name (wpAny_loadName_free I.ok.kind hk hc hcell fin hcd) hd
theorem pe_int {i j pos}:PE X (.Constant (.int i) j pos) (tC (.int i)):=fun _ _ _ H _ I h=>wpAny_Constant_int ⟨.int i,H,I.tok _,⟨_,rfl⟩,h⟩
theorem pe_bl {b j pos}:PE X (.Constant (.bool b) j pos) (tC (.bl b)):=fun _ _ _ H _ I h=>Constant_bool ⟨.bl b,H,I,rfl,h⟩
theorem pe_non {j pos}:PE X (.Constant .none j pos) (tC .non):=fun _ _ _ H _ I h=>Constant_none ⟨.non,H,I,rfl,h⟩
theorem pe_str {x j pos}:PE X (.Constant (.str x) j pos) (tC (.str x)):=fun _ _ _ H _ I h=>Calls.Constant_str ⟨.str x,H,I.tok _,⟨_,rfl⟩,h⟩
noncomputable def Gl (X:Cx) (x:Str):Prop:=X.env.kindOf x=some .globalImplicit
theorem ld_glob {E:Value->Shared->Prop} {pins:List (Addr×Obj)} {s:Shared} {σ:St} {H:Hp} {x:Str} {u:Value} {pos:Pos} {Q:Value->Shared->Prop} (I:Inv X pins σ H s) (hg:Gl X x) (hm:X.mg x=some u) (h:Q u s)
  (hd:autoParam ((x == ("__debug__" : Str))=false) Ad._auto_1):wpAny (model X.prog X.w) X.A (eval (.Name x pos) X.env) Q E s :=
 Calls.Name_function_global I.ok.kind hg (Calls.loadGlobal_global (by rw [I.ok.glob]; exact I.mod.glob.keeps I.bk) hm h) hd
theorem ld_blt {E:Value->Shared->Prop} {pins:List (Addr×Obj)} {s:Shared} {σ:St} {H:Hp} {x:Str} {u:Value} {pos:Pos} {Q:Value->Shared->Prop} (I:Inv X pins σ H s) (hg:Gl X x) (hm:X.mg x=none) (hv:bootBuiltins x=some u) (h:Q u s)
  (hn:autoParam (x≠"__name__") Ad._auto_1) (hd:autoParam ((x == ("__debug__" : Str))=false) Ad._auto_1):wpAny (model X.prog X.w) X.A (eval (.Name x pos) X.env) Q E s:=by
 obtain ⟨mb,h1,h2⟩:=I.mod.blt
 exact Calls.Name_function_global I.ok.kind hg (Calls.loadGlobal_builtin (by rw [I.ok.glob]; exact I.mod.glob.keeps I.bk) hm (by rw [I.ok.blt]; exact h1.keeps I.bk) ((h2 x hn).trans hv) h) hd
variable {a b:Expr} {ta tb:TE} {pos:Pos}
noncomputable def tB (t:TE):TT:=fun σ H Q=>t σ H fun x H1=>∃ c,x=.bl c/\Q c H1
variable {tA tB':TT} {rest:List Expr}
end
noncomputable def SqL (K:PySem.W.Frag) (H:Hp) (a:Addr) (xs:List V):Prop :=
 Rd H a (.lst xs) \/
  ∃ (o:Obj) (its:Array Value) (n:Nat),K.lookup a=some o/\o.cls=.type "list"/\o.dict=none/\o.data=.seq its n/\its.size<=sizeLine/\Vals xs its.toList
noncomputable def SqT (K:PySem.W.Frag) (H:Hp) (a:Addr) (xs:List V):Prop :=
 Rd H a (.tup xs) \/
  ∃ (o:Obj) (its:Array Value) (n:Nat),K.lookup a=some o/\o.cls=.type "tuple"/\o.data=.seq its n/\its.size<=sizeLine/\Vals xs its.toList
noncomputable def absV:Value->Option V
 | .none=>some .non
 | .bool b=>some (.bl b)
 | .int i _=>some (.int i)
 | .str x _=>some (.str x)
 | .bytes b _=>some (.byt b)
 | .float b _=>some (.flt b)
 | .ref a=>some (.ref a)
 | .type n=>some (.ty n)
 | _=>none
theorem RelV.abs {x:V} {u:Value} (r:RelV x u):absV u=some x:=by
 cases x with
 | non=>cases r; rfl
 | bl _=>cases r; rfl
 | int _=>obtain ⟨t,rfl⟩:=r; rfl
 | str _=>obtain ⟨t,rfl⟩:=r; rfl
 | byt _=>obtain ⟨t,rfl⟩:=r; rfl
 | flt _=>obtain ⟨t,rfl⟩:=r; rfl
 | ref _=>cases r; rfl
 | ty _=>cases r; rfl
theorem RelV.inj {x y:V} {u:Value} (r:RelV x u) (q:RelV y u):x=y:=Option.some.inj (r.abs.symm.trans q.abs)
theorem Vals.inj:∀ {xs ys:List V} {us:List Value},Vals xs us->Vals ys us->xs=ys:=by
 intro xs ys us h
 induction h generalizing ys with
 | nil=>intro k; cases k; rfl
 | cons r t ih =>
  intro k
  cases k with
  | cons r' t'=>rw [r.inj r',ih t']
section
variable {X:Cx} {pins:List (Addr×Obj)} {σ:St} {H:Hp} {s:Shared} {a:Addr} {xs ys:List V}
theorem SqL.of {K:PySem.W.Frag} (h:H a=some (.lst xs)):SqL K H a xs:=.inl (.inl h)
theorem SqT.of {K:PySem.W.Frag} (h:H a=some (.tup xs)):SqT K H a xs:=.inl (.inl h)
theorem Inv.list (I:Inv X pins σ H s) (h:SqL X.K H a xs):∃ its:List Value,Vals xs its/\PlainL s.heap a its.toArray/\xs.length<=sizeLine:=by
 rcases h with h | ⟨o,its,n,hk,hc,hd,hs,hz,r⟩
 ·obtain ⟨z,its,n,r,e⟩:=h.ok I.hok
  exact ⟨its,r,⟨_,n,e,rfl,rfl,rfl⟩,z⟩
 ·refine ⟨its.toList,r,⟨o,n,I.kIn a o hk,hc,hd,by simpa using hs⟩,?_⟩
  have e:=r.length
  simp only [Array.length_toList] at e
  lia
theorem Inv.tuple (I:Inv X pins σ H s) (h:SqT X.K H a xs):∃ its:List Value,Vals xs its/\IsTup s.heap a its.toArray/\xs.length<=sizeLine:=by
 rcases h with h | ⟨o,its,n,hk,hc,hs,hz,r⟩
 ·obtain ⟨z,its,r,p⟩:=h.ok I.hok
  exact ⟨its,r,p,z⟩
 ·refine ⟨its.toList,r,⟨o,I.kIn a o hk,hc,n,by simpa using hs⟩,?_⟩
  have e:=r.length
  simp only [Array.length_toList] at e
  lia
theorem Inv.list_inj (I:Inv X pins σ H s) (h:SqL X.K H a xs) (h':SqL X.K H a ys):xs=ys:=by
 obtain ⟨its,r,⟨o,n,e,_,_,d⟩,_⟩:=I.list h
 obtain ⟨its',r',⟨o',n',e',_,_,d'⟩,_⟩:=I.list h'
 rw [e] at e'; cases e'
 rw [d] at d'
 injection d' with d1 _
 have:its=its':=by simpa using congrArg Array.toList d1
 subst this
 exact r.inj r'
theorem Inv.tuple_inj (I:Inv X pins σ H s) (h:SqT X.K H a xs) (h':SqT X.K H a ys):xs=ys:=by
 obtain ⟨its,r,⟨o,e,_,n,d⟩,_⟩:=I.tuple h
 obtain ⟨its',r',⟨o',e',_,n',d'⟩,_⟩:=I.tuple h'
 rw [e] at e'; cases e'
 rw [d] at d'
 injection d' with d1 _
 have:its=its':=by simpa using congrArg Array.toList d1
 subst this
 exact r.inj r'
end
noncomputable abbrev Cx.wish (X:Cx) (E:Value->Shared->Prop):Cx:={ X with xe:=E }
noncomputable abbrev Cx.nox (X:Cx):Cx:=X.wish fun _ _=>False
theorem Cx.Ok.wish {X:Cx} (ok:X.Ok) (E:Value->Shared->Prop):(X.wish E).Ok :=
 ⟨ok.mod,ok.kind,ok.glob,ok.blt,ok.above,ok.inj,ok.has,ok.cab,ok.hd,ok.frames,ok.stk,ok.exf,ok.bs,ok.bsz,ok.noex,ok.exfs,ok.funs,ok.frf⟩
theorem Cx.Ok.unwish {X:Cx} {E:Value->Shared->Prop} (ok:(X.wish E).Ok):X.Ok :=
 ⟨ok.mod,ok.kind,ok.glob,ok.blt,ok.above,ok.inj,ok.has,ok.cab,ok.hd,ok.frames,ok.stk,ok.exf,ok.bs,ok.bsz,ok.noex,ok.exfs,ok.funs,ok.frf⟩
section
variable {X:Cx} {pins:List (Addr×Obj)} {σ:St} {H:Hp} {s:Shared} {E:Value->Shared->Prop}
theorem Inv.wish (I:Inv X pins σ H s) (E:Value->Shared->Prop):Inv (X.wish E) pins σ H s:=⟨I.ok.wish E,I.os,I.bare,I.base,I.loc,I.cell,I.free,I.freeC,I.pin,I.hok,I.len⟩
theorem Inv.unwish (I:Inv (X.wish E) pins σ H s):Inv X pins σ H s:=⟨I.ok.unwish,I.os,I.bare,I.base,I.loc,I.cell,I.free,I.freeC,I.pin,I.hok,I.len⟩
theorem SP.unwish {D:Ends} {f:Flow} {s':Shared} (h:SP (X.wish E) pins D f s'):SP X pins D f s':=by
 cases f with
 | next=>obtain ⟨σ',H',I,q⟩:=h; exact ⟨σ',H',I.unwish,q⟩
 | brk=>obtain ⟨σ',H',I,q⟩:=h; exact ⟨σ',H',I.unwish,q⟩
 | cont=>obtain ⟨σ',H',I,q⟩:=h; exact ⟨σ',H',I.unwish,q⟩
 | ret u=>obtain ⟨v,σ',H',I,r,q⟩:=h; exact ⟨v,σ',H',I.unwish,r,q⟩
theorem PSs.nox {st:List Stmt} {t:TS} (h:PSs X.nox st t):PSs X st t:=fun pins s σ H D I hw =>
 wpAny_mono (h pins s σ H D (I.wish _) hw) (fun _ _ q=>q.unwish) fun _ _ z=>False.elim z
end
section
variable {X:Cx} {st:Stmt} {rest:List Stmt} {t u:TS} {e:Expr} {te:TE} {pos:Pos}
theorem Inv.quiet {pins:List (Addr×Obj)} {σ:St} {H:Hp} {s:Shared} (I:Inv X pins σ H s):interactive X.env=false:=by simp [interactive,I.ok.kind]
end
noncomputable abbrev TSet:=V->V->V->Hp->(Hp->Prop)->Prop
noncomputable def PSet (X:Cx) (t:TSet):Prop :=
 ∀ (pins:List (Addr×Obj)) (s:Shared) (σ:St) (H:Hp) (o i v:V) (ov iv u:Value) (Q:Hp->Prop),Inv X pins σ H s->RelV o ov->RelV i iv->RelV v u->t o i v H Q ->
  wpAny (model X.prog X.w) X.A (setItem ov iv u) (fun _ s'=>∃ H',Inv X pins σ H' s'/\Q H') X.xe s
structure It where
 go:Nat->Hp->Prop
 yld:Nat->Hp->V->Hp->Prop
 stop:Nat->Hp->Prop
noncomputable def FpOk (X:Cx) (pins:List (Addr×Obj)) (H:Hp) (b:Addr):Prop :=
 H b=none/\b≠X.env.locals/\b∉X.fs/\(b∈X.ex\/X.s₀.heap.objs.size<=b)/\(∀ x c,X.env.cells.lookup x=some c->c≠b)/\∀ p∈X.pn++pins,p.1≠b
theorem Inv.fpOk {X:Cx} {pins:List (Addr×Obj)} {σ:St} {H H':Hp} {s:Shared} {b:Addr} (I:Inv X pins σ H s) (hb:s.heap.objs.size<=b) (hn:H' b=none):FpOk X pins H' b:=by
 refine ⟨hn,Nat.ne_of_gt (Nat.lt_of_lt_of_le I.lt hb),I.nofs hb,.inr (Nat.le_trans I.sz hb),fun x c e z=>?_,fun p hp z=>?_⟩
 ·obtain ⟨v,q⟩:=I.cell x c e
  exact absurd (Nat.lt_of_lt_of_le q.lt (by rw [z]; exact hb)) (Nat.lt_irrefl _)
 ·exact absurd (Nat.lt_of_lt_of_le (Heap.lt_size (I.pin p hp).1) (by rw [z]; exact hb)) (Nat.lt_irrefl _)
structure Turn (P:Program) (w:World) (K:PySem.W.Frag) (tg:Expr) (J:It) (fp:List Addr) (it:Addr) (tn:Nat->Heap->Prop):Prop where
 mem:it∈fp
 obj:∀ i h,tn i h->∀ b∈fp,∃ o,h.get? b=some o/\∀ v,o.data≠.cell v
 keep:∀ i h h',tn i h->(∀ b∈fp,∀ o,h.get? b=some o->h'.get? b=some o)->tn i h'
 item:∀ (X:Cx),X.prog=P->X.w=w->X.K=K->X.calm=true->∀ (i:Nat) (pins:List (Addr×Obj)) (s:Shared) (σ:St) (H:Hp) (E:Value->Shared->Prop),Inv X pins σ H s->(∀ b∈fp,FpOk X pins H b)->tn i s.heap->J.go i H ->
  wpAny (model P w) X.A (pyNext (.ref it)) (fun r s1=>∃ u,r=some u /\
   wpAny (model P w) X.A (letOwnedTupleGo tg (.ref it) u) (fun _ s2=>∃ x H',Inv X pins σ H' s2/\RelV x u/\J.yld i H x H'/\tn (i+1) s2.heap/\∀ b∈fp,H' b=none) E s1) E s
 done:∀ (X:Cx),X.prog=P->X.w=w->X.K=K->X.calm=true->∀ (i:Nat) (pins:List (Addr×Obj)) (s:Shared) (σ:St) (H:Hp) (E:Value->Shared->Prop),Inv X pins σ H s->(∀ b∈fp,FpOk X pins H b)->tn i s.heap->J.stop i H ->
  wpAny (model P w) X.A (pyNext (.ref it)) (fun r s1=>r=none/\Inv X pins σ H s1) E s
 self:∀ (A:Around) (i:Nat) (s:Shared) (Q:Value->Shared->Prop) (E:Value->Shared->Prop),tn i s.heap->Q (.ref it) s->wpAny (model P w) A (pyIter (.ref it)) Q E s
noncomputable abbrev TI:=St->Hp->(It->Hp->Prop)->Prop
noncomputable def PIE (X:Cx) (pins:List (Addr×Obj)) (σ:St) (tg:Expr) (R:It->Hp->Prop) (itv:Value) (s2:Shared):Prop :=
 ∃ (it:Addr) (fp:List Addr) (tn:Nat->Heap->Prop) (J:It) (H':Hp),itv=.ref it/\Inv X pins σ H' s2/\Turn X.prog X.w X.K tg J fp it tn/\tn 0 s2.heap/\(∀ b∈fp,FpOk X pins H' b)/\R J H'
theorem go_of {M:Model} {A:Around} {E:Value->Shared->Prop} {s:Shared} {tg:Expr} {it:Addr} {u:Value} {o:Obj} {n:String} {vs:Array Value} {Q:Unit->Shared->Prop} (ho:s.heap.get? it=some o) (hc:o.cls=.type n) (hd:o.data=.fields vs)
    (hn:["enumerate","zip","dict_itemiterator","dict_reverseitemiterator","odict_iterator","itertools.zip_longest","itertools.pairwise"].contains n=false) (hQ:Q () s):wpAny M A (letOwnedTupleGo tg (.ref it) u) Q E s:=by
  unfold letOwnedTupleGo
  cases tg <;> first
    | exact wpAny_pure hQ
    | (cases u <;> first
        | exact wpAny_pure hQ
        | (refine wpAny_bind (wpAny_load ho ?_)
           rw [hc,hd]
           show wpAny M A (if (["enumerate","zip","dict_itemiterator","dict_reverseitemiterator","odict_iterator","itertools.zip_longest","itertools.pairwise"].contains n&&vs[0]? == some (rawInt _))=true then _ else _) Q E s
           rw [if_neg (by intro h; rw [hn,Bool.false_and] at h; cases h)]
           exact wpAny_pure hQ))
noncomputable def Itl (K:PySem.W.Frag) (a:Addr):It :=
 ⟨fun i H=>∃ xs x,SqL K H a xs/\xs[i]?=some x,fun i H x H'=>H'=H/\∀ xs,SqL K H a xs->xs[i]?=some x,fun i H=>∃ xs,SqL K H a xs/\xs.length<=i⟩
noncomputable def Itt (K:PySem.W.Frag) (a:Addr):It :=
 ⟨fun i H=>∃ xs x,SqT K H a xs/\xs[i]?=some x,fun i H x H'=>H'=H/\∀ xs,SqT K H a xs->xs[i]?=some x,fun i H=>∃ xs,SqT K H a xs/\xs.length<=i⟩
noncomputable def Itr (lo:Int) (n:Nat):It:=⟨fun i _=>i < n,fun i H x H'=>H'=H/\x=.int (lo+i),fun i _=>n<=i⟩
theorem turn_list {P:Program} {w:World} {K:PySem.W.Frag} {tg:Expr} (a it:Addr):Turn P w K tg (Itl K a) [it] it (fun i h=>h.IsListIter it a i) where
 mem:=by simp
 obj:=fun i h st b hb=>by
  have e:b=it:=by simpa using hb
  subst e
  obtain ⟨o,e,c,d⟩:=st
  exact ⟨o,e,fun v z=>by rw [d] at z; cases z⟩
 keep:=fun i h h' st k=>st.at fun o e=>k it (by simp) o e
 item:=by
  intro X hP hw hK hc i pins s σ H E I hf st hg
  subst hP hw hK
  obtain ⟨xs,x,hq,hx⟩:=hg
  obtain ⟨its,rv,p,hz⟩:=I.list hq
  obtain ⟨u,hu,ru⟩:=rv.get hx
  obtain ⟨f0,f1,f2,f3,f4,f5⟩:=hf it (by simp)
  refine wpAny_pyNext_list_item st p.isList (x:=u) (by simpa using hu) fun h' st' sb=>?_
  have I1:Inv X pins σ H { s with heap:=h' }:=I.turned (t':=s.toks) (fun b o hb e=>(sb.2 b hb).trans e) f0 f1 f3 f4 f5
  obtain ⟨o,e,c,d⟩:=id st'
  exact ⟨u,rfl,go_of (s:={ s with heap:=h' }) e c d (by decide) ⟨x,H,I1,ru,⟨rfl,fun ys hy=>by rw [I.list_inj hy hq]; exact hx⟩,st',fun b hb=>(hf b hb).1⟩⟩
 done:=by
  intro X hP hw hK hc i pins s σ H E I hf st hg
  subst hP hw hK
  obtain ⟨xs,hq,hx⟩:=hg
  obtain ⟨its,rv,p,hz⟩:=I.list hq
  obtain ⟨f0,f1,f2,f3,f4,f5⟩:=hf it (by simp)
  have hl:=rv.length
  exact wpAny_pyNext_list_end (I.ok.hd hc) st p.isList (by simp; lia) fun h' eb=>⟨rfl,I.turned (t':=s.toks) (fun b o hb e=>eb b o hb e) f0 f1 f3 f4 f5⟩
 self:=fun _ _ _ _ _ st h=>wpAny_pyIter_listiter st h
theorem turn_tuple {P:Program} {w:World} {K:PySem.W.Frag} {tg:Expr} (a it:Addr):Turn P w K tg (Itt K a) [it] it (fun i h=>h.IsTupleIter it a i) where
 mem:=by simp
 obj:=fun i h st b hb=>by
  have e:b=it:=by simpa using hb
  subst e
  obtain ⟨o,e,c,d⟩:=st
  exact ⟨o,e,fun v z=>by rw [d] at z; cases z⟩
 keep:=fun i h h' st k=>st.at fun o e=>k it (by simp) o e
 item:=by
  intro X hP hw hK hc i pins s σ H E I hf st hg
  subst hP hw hK
  obtain ⟨xs,x,hq,hx⟩:=hg
  obtain ⟨its,rv,p,hz⟩:=I.tuple hq
  obtain ⟨u,hu,ru⟩:=rv.get hx
  obtain ⟨f0,f1,f2,f3,f4,f5⟩:=hf it (by simp)
  refine wpAny_pyNext_tuple_item st (show s.heap.IsTuple a its.toArray from p) (x:=u) (by simpa using hu) fun h' st' sb=>?_
  have I1:Inv X pins σ H { s with heap:=h' }:=I.turned (t':=s.toks) (fun b o hb e=>(sb.2 b hb).trans e) f0 f1 f3 f4 f5
  obtain ⟨o,e,c,d⟩:=id st'
  exact ⟨u,rfl,go_of (s:={ s with heap:=h' }) e c d (by decide) ⟨x,H,I1,ru,⟨rfl,fun ys hy=>by rw [I.tuple_inj hy hq]; exact hx⟩,st',fun b hb=>(hf b hb).1⟩⟩
 done:=by
  intro X hP hw hK hc i pins s σ H E I hf st hg
  subst hP hw hK
  obtain ⟨xs,hq,hx⟩:=hg
  obtain ⟨its,rv,p,hz⟩:=I.tuple hq
  obtain ⟨f0,f1,f2,f3,f4,f5⟩:=hf it (by simp)
  have hl:=rv.length
  exact wpAny_pyNext_tuple_end (I.ok.hd hc) st (show s.heap.IsTuple a its.toArray from p) (by simp; lia) fun h' eb=>⟨rfl,I.turned (t':=s.toks) (fun b o hb e=>eb b o hb e) f0 f1 f3 f4 f5⟩
 self:=fun _ _ _ _ _ st h=>wpAny_pyIter_tupleiter st h
theorem turn_range {P:Program} {w:World} {K:PySem.W.Frag} {tg:Expr} (it:Addr) (lo:Int) (n:Nat):Turn P w K tg (Itr lo n) [it] it (fun i h=>IsRangeIter h it (lo+(i:Nat) * 1) ((n:Int) - (i:Nat)) 1) where
 mem:=by simp
 obj:=fun i h st b hb=>by
  have e:b=it:=by simpa using hb
  subst e
  exact ⟨_,st,fun v z=>by
   have z':Data.fields _=Data.cell v:=z
   cases z'⟩
 keep:=fun i h h' st k=>k it (by simp) _ st
 item:=by
  intro X hP hw hK hc i pins s σ H E I hf st hg
  subst hP hw hK
  obtain ⟨f0,f1,f2,f3,f4,f5⟩:=hf it (by simp)
  have W:=Walks.range (prog:=X.prog) (w:=X.w) (I.ok.hd hc) it lo 1 n
  refine W.item i s _ _ hg st fun v h' tk hv st' kk=>?_
  obtain ⟨t,rfl⟩:=hv
  have I1:Inv X pins σ H { s with heap:=h',toks:=tk }:=I.turned (fun b o hb e=>kk b o (by simpa using hb) e) f0 f1 f3 f4 f5
  refine ⟨_,rfl,go_of (s:={ s with heap:=h',toks:=tk }) (n:="range_iterator") st' rfl rfl (by decide) ⟨.int (lo+i),H,I1,⟨t,?_⟩,⟨rfl,rfl⟩,st',fun b hb=>(hf b hb).1⟩⟩
  rw [Int.mul_one]
 done:=by
  intro X hP hw hK hc i pins s σ H E I hf st hg
  subst hP hw hK
  obtain ⟨f0,f1,f2,f3,f4,f5⟩:=hf it (by simp)
  exact wpAny_pyNext_range_end (I.ok.hd hc) st (by have:n<=i:=hg; lia) fun h' eb=>⟨rfl,I.turned (t':=s.toks) (fun b o hb e=>eb b o hb e) f0 f1 f3 f4 f5⟩
 self:=fun _ _ _ _ _ st h=>wpAny_pyIter_rangeiter st h
section
variable {X:Cx} {tg:Expr}
theorem range_it {pins:List (Addr×Obj)} {σ:St} {H:Hp} {s:Shared} {R:It->Hp->Prop} {E:Value->Shared->Prop} {lo hi:Int} {t u v:Tok} {tk:Nat} (I:Inv X pins σ H s) (h1:-(2 ^ 62)<=lo) (h2:lo < 2 ^ 62) (h3:-(2 ^ 62)<=hi) (h4:hi < 2 ^ 62)
  (q:R (Itr lo (hi - lo).toNat) H):wpAny (model X.prog X.w) X.A (pyIter (.ref s.heap.objs.size)) (PIE X pins σ tg R) E { s with heap:=s.heap.push { cls:=.type "range",data:=.fields #[.int lo t,.int hi u,.int 1 v] },toks:=tk }:=by
 refine wpAny_pyIter_range (IsRange.new ..) (small_one h1 h2 h3 h4) ?_
 have I1:Inv X pins σ H { s with heap:=s.heap.push { cls:=.type "range",data:=.fields #[.int lo t,.int hi u,.int 1 v] },toks:=tk }:=I.kept fun b o e=>Heap.get?_push_of_some _ e
 refine ⟨(s.heap.push { cls:=.type "range",data:=.fields #[.int lo t,.int hi u,.int 1 v] }).objs.size,[(s.heap.push { cls:=.type "range",data:=.fields #[.int lo t,.int hi u,.int 1 v] }).objs.size],_,_,H,rfl,
  I1.kept (t':=tk) fun b o e=>Heap.get?_push_of_some _ e,turn_range _ lo (hi - lo).toNat,?_,fun b hb=>?_,q⟩
 ·have e1:lo+((0:Nat):Int) * 1=lo:=by simp
  have e2:(((hi - lo).toNat:Nat):Int) - ((0:Nat):Int)=Builtin.Range.rangeSize lo hi 1:=by rw [rangeSize_one]; split <;> lia
  show IsRangeIter _ _ (lo+((0:Nat):Int) * 1) ((((hi - lo).toNat:Nat):Int) - ((0:Nat):Int)) 1
  rw [e1,e2]
  exact Heap.get?_push_size _ rfl
 ·have e:b=(s.heap.push { cls:=.type "range",data:=.fields #[.int lo t,.int hi u,.int 1 v] }).objs.size:=by simpa using hb
  subst e
  exact I1.fpOk (Nat.le_refl _) (I1.hok.fresh (Nat.le_refl _))
noncomputable def pinsAt (fp:List Addr) (h:Heap):List (Addr×Obj):=fp.filterMap fun b=>(h.get? b).map fun o=>(b,o)
theorem mem_pinsAt {fp:List Addr} {h:Heap} {b:Addr} {o:Obj} (hb:b∈fp) (e:h.get? b=some o):(b,o)∈pinsAt fp h:=List.mem_filterMap.mpr ⟨b,hb,by rw [e]; rfl⟩
theorem of_pinsAt {fp:List Addr} {h:Heap} {p:Addr×Obj} (hp:p∈pinsAt fp h):p.1∈fp/\h.get? p.1=some p.2:=by
 obtain ⟨b,hb,e⟩:=List.mem_filterMap.mp hp
 cases q:h.get? b with
 | none=>rw [q] at e; cases e
 | some o =>
  rw [q] at e
  have e':(b,o)=p:=Option.some.inj e
  subst e'
  exact ⟨hb,q⟩
theorem Inv.pinned {pins:List (Addr×Obj)} {σ:St} {H:Hp} {s:Shared} {fp:List Addr} (I:Inv X pins σ H s) (hf:∀ b∈fp,FpOk X pins H b) (ho:∀ b∈fp,∃ o,s.heap.get? b=some o/\∀ v,o.data≠.cell v):Inv X (pins++pinsAt fp s.heap) σ H s :=
 I.pins_of fun p hp=>(List.mem_append.mp hp).elim (fun z=>I.pin p (List.mem_append_right _ z)) fun z=>by
  obtain ⟨hb,e⟩:=of_pinsAt z
  obtain ⟨f0,f1,f2,_⟩:=hf p.1 hb
  obtain ⟨o,e',d⟩:=ho p.1 hb
  rw [e] at e'; cases e'
  exact ⟨e,f0,f1,f2,d⟩
theorem Inv.unpinned {pins pl:List (Addr×Obj)} {σ:St} {H:Hp} {s:Shared} (I:Inv X (pins++pl) σ H s):Inv X pins σ H s:=I.pins_of fun p hp=>I.pin p (List.mem_append_right _ (List.mem_append_left _ hp))
end
noncomputable abbrev R2:=V->V->Hp->VK->Prop
noncomputable def OpR (X:Cx) (f:Value->Value->Sem Value) (r:R2):Prop :=
 ∀ (pins:List (Addr×Obj)) (s:Shared) (σ:St) (H:Hp) (x y:V) (v u:Value) (Q:VK),Inv X pins σ H s->RelV x v->RelV y u->r x y H Q ->
  wpAny (model X.prog X.w) X.A (f v u) (EP X pins σ Q) X.xe s
noncomputable def UnR (X:Cx) (f:Value->Sem Value) (r:V->Hp->VK->Prop):Prop :=
 ∀ (pins:List (Addr×Obj)) (s:Shared) (σ:St) (H:Hp) (x:V) (v:Value) (Q:VK),Inv X pins σ H s->RelV x v->r x H Q ->
  wpAny (model X.prog X.w) X.A (f v) (EP X pins σ Q) X.xe s
noncomputable def CallR (X:Cx) (f:Value) (r:List V->Hp->VK->Prop):Prop :=
 ∀ (pins:List (Addr×Obj)) (s:Shared) (σ:St) (H:Hp) (xs:List V) (us:List Value) (Q:VK),Inv X pins σ H s->Vals xs us->r xs H Q ->
  wpAny (model X.prog X.w) X.A (call f us) (EP X pins σ Q) X.xe s
noncomputable def TruR (X:Cx) (r:V->Hp->(Bool->Hp->Prop)->Prop):Prop :=
 ∀ (pins:List (Addr×Obj)) (s:Shared) (σ:St) (H:Hp) (x:V) (v:Value) (Q:Bool->Hp->Prop),Inv X pins σ H s->RelV x v->r x H Q ->
  wpAny (model X.prog X.w) X.A (truthy v) (TP X pins σ Q) X.xe s
noncomputable def rI (C:Int->Int->Prop) (g:Int->Int->V):R2:=fun x y H Q=>∃ i j,x=.int i/\y=.int j/\C i j/\Q (g i j) H
noncomputable def rI0 (g:Int->Int->V):R2:=fun x y H Q=>∃ i j,x=.int i/\y=.int j/\Q (g i j) H
noncomputable def rU (g:Int->V):V->Hp->VK->Prop:=fun x H Q=>∃ i,x=.int i/\Q (g i) H
section
variable {X:Cx} {a b c:Expr} {ta tb tc:TE} {pos:Pos}
theorem opI {f:Value->Value->Sem Value} {C:Int->Int->Prop} {g:Int->Int->Int}
  (rule:∀ (i j:Int) (t u:Tok) (s:Shared) (Q:Value->Shared->Prop) (E:Value->Shared->Prop),C i j->Q (.int (g i j) s.toks) { s with toks:=s.toks+1 }->wpAny (model X.prog X.w) X.A (f (.int i t) (.int j u)) Q E s) :
  OpR X f (rI C fun i j=>.int (g i j)):=by
 intro pins s σ H x y v u Q I rx ry h
 obtain ⟨i,j,rfl,rfl,hc,q⟩:=h
 obtain ⟨t,rfl⟩:=rx
 obtain ⟨t',rfl⟩:=ry
 exact rule i j t t' s _ _ hc ⟨.int (g i j),H,I.tok _,⟨_,rfl⟩,q⟩
theorem opI0 {f:Value->Value->Sem Value} {g:Int->Int->Int}
  (rule:∀ (i j:Int) (t u:Tok) (s:Shared) (Q:Value->Shared->Prop) (E:Value->Shared->Prop),Q (.int (g i j) s.toks) { s with toks:=s.toks+1 }->wpAny (model X.prog X.w) X.A (f (.int i t) (.int j u)) Q E s) :
  OpR X f (rI0 fun i j=>.int (g i j)):=by
 intro pins s σ H x y v u Q I rx ry h
 obtain ⟨i,j,rfl,rfl,q⟩:=h
 obtain ⟨t,rfl⟩:=rx
 obtain ⟨t',rfl⟩:=ry
 exact rule i j t t' s _ _ ⟨.int (g i j),H,I.tok _,⟨_,rfl⟩,q⟩
theorem opB0 {f:Value->Value->Sem Value} {g:Int->Int->Bool}
  (rule:∀ (i j:Int) (t u:Tok) (s:Shared) (Q:Value->Shared->Prop) (E:Value->Shared->Prop),Q (.bool (g i j)) s->wpAny (model X.prog X.w) X.A (f (.int i t) (.int j u)) Q E s) :
  OpR X f (rI0 fun i j=>.bl (g i j)):=by
 intro pins s σ H x y v u Q I rx ry h
 obtain ⟨i,j,rfl,rfl,q⟩:=h
 obtain ⟨t,rfl⟩:=rx
 obtain ⟨t',rfl⟩:=ry
 exact rule i j t t' s _ _ ⟨.bl (g i j),H,I,rfl,q⟩
noncomputable def CDiv (i j:Int):Prop:=0 < j/\j < 1073741824
noncomputable def CMul (i j:Int):Prop:=(-(2 ^ 64) < i/\i < 2 ^ 64)\/(-(2 ^ 64) < j/\j < 2 ^ 64)
theorem CMul.ok {i j:Int} (h:CMul i j):IntMulOk i j:=by
 rcases h with ⟨h1,h2⟩ | ⟨h1,h2⟩
 ·exact .of_left (intBits_le_64 h1 h2)
 ·exact .of_right (intBits_le_64 h1 h2)
theorem op_add:OpR X (binaryOp .Add) (rI0 fun i j=>.int (i+j)):=opI0 fun _ _ _ _ _ _ _ q=>add_int q
theorem op_sub:OpR X (binaryOp .Sub) (rI0 fun i j=>.int (i - j)):=opI0 fun _ _ _ _ _ _ _ q=>sub_int q
theorem op_mul:OpR X (binaryOp .Mult) (rI CMul fun i j=>.int (i * j)):=opI fun _ _ _ _ _ _ _ hc q=>mul_int q hc.ok
theorem op_fdiv:OpR X (binaryOp .FloorDiv) (rI CDiv fun i j=>.int (i / j)):=opI fun i j _ _ _ _ _ hc q=>by
 have h1:(0:Int) < j:=hc.1
 have h2:j < 1073741824:=hc.2
 exact floordiv_int (by lia) (by rw [Int.fdiv_eq_ediv_of_nonneg i (by lia)]; exact q) (.inl (PyProof.noPylong_small (by lia)))
theorem op_mod:OpR X (binaryOp .Mod) (rI (fun _ j=>0 < j) fun i j=>.int (i % j)):=opI fun i j _ _ _ _ _ hc q=>by
 have h1:(0:Int) < j:=hc
 exact mod_int' (by lia) (by rw [Int.fmod_eq_emod_of_nonneg i (by lia)]; exact q)
theorem unI {f:Value->Sem Value} {g:Int->Int}
  (rule:∀ (i:Int) (t:Tok) (s:Shared) (Q:Value->Shared->Prop) (E:Value->Shared->Prop),Q (.int (g i) s.toks) { s with toks:=s.toks+1 }->wpAny (model X.prog X.w) X.A (f (.int i t)) Q E s) :
  UnR X f (rU fun i=>.int (g i)):=by
 intro pins s σ H x v Q I rx h
 obtain ⟨i,rfl,q⟩:=h
 obtain ⟨t,rfl⟩:=rx
 exact rule i t s _ _ ⟨.int (g i),H,I.tok _,⟨_,rfl⟩,q⟩
theorem un_neg:UnR X (unaryOp .USub) (rU fun i=>.int (-i)):=unI fun _ _ _ _ _ q=>neg_int q
end
section
variable {X:Cx} {a b c:Expr} {ta tb tc:TE} {pos:Pos}
theorem op_lt:OpR X (compareOp .Lt) (rI0 fun i j=>.bl (decide (i < j))):=opB0 fun _ _ _ _ _ _ _ q=>lt_int q
theorem op_gt:OpR X (compareOp .Gt) (rI0 fun i j=>.bl (decide (j < i))):=opB0 fun _ _ _ _ _ _ _ q=>gt_int q
theorem nomark (b:Expr) {op:CmpOp} (h:autoParam (op≠.In) Ad._auto_1) (h2:autoParam (op≠.NotIn) Ad._auto_1):behindInMarks op b=false:=by
 have e1:(op == CmpOp.In)=false:=by cases op <;> first | rfl | exact absurd rfl h
 have e2:(op == CmpOp.NotIn)=false:=by cases op <;> first | rfl | exact absurd rfl h2
 cases b with
 | Set es k _ =>
  show (k == 0&&(op == .In||op == .NotIn)&&es.all (constantsAlone 8))=false
  rw [e1,e2,Bool.or_false,Bool.and_false,Bool.false_and]
 | _=>rfl
noncomputable def TruV (K:PySem.W.Frag) (x:V) (H:Hp) (k:Bool):Prop :=
 match x with
 | .non=>k=false
 | .bl b=>k=b
 | .int i=>k=(i != 0)
 | .str y=>y.length<=sizeLine/\k=((y.length:Int) != 0)
 | .byt y=>y.size<=sizeLine/\k=((y.size:Int) != 0)
 | .ref p=>(∃ xs,SqL K H p xs/\k=!xs.isEmpty)\/(∃ xs,SqT K H p xs/\k=!xs.isEmpty)\/∃ kvs,H p=some (.dK kvs)/\k=!kvs.isEmpty
 | _=>False
theorem isEmpty_kv {κ:Type} {kvs:List (κ×V)} {vs:List (κ×Value)} (r:KV kvs vs):(!vs.isEmpty)=!kvs.isEmpty:=by
 cases r <;> rfl
theorem isEmpty_of {xs:List V} {its:List Value} (r:Vals xs its):(!its.toArray.isEmpty)=!xs.isEmpty:=by
 cases r <;> simp
theorem line63:(sizeLine:Nat) < 2 ^ 63:=by rw [sizeLine_eq]; decide
theorem tru_ok:TruR X (fun x H Q=>∃ k,TruV X.K x H k/\Q k H):=by
 intro pins s σ H x v Q I rx h
 obtain ⟨k,e,q⟩:=h
 have hl:=line63
 have hs:sizeLine=16777216:=sizeLine_eq
 cases x with
 | non =>
  cases rx
  have e':k=false:=e
  subst e'
  exact truthy_none ⟨H,I,q⟩
 | bl b =>
  cases rx
  have e':k=b:=e
  subst e'
  exact wpAny_truthy_bool ⟨H,I,q⟩
 | int i =>
  obtain ⟨t,rfl⟩:=rx
  have e':k=(i != 0):=e
  subst e'
  exact PySem.P.truthy_int ⟨H,I,q⟩
 | str y =>
  obtain ⟨t,rfl⟩:=rx
  obtain ⟨hy,e'⟩:y.length<=sizeLine/\k=((y.length:Int) != 0):=e
  subst e'
  exact PySem.P.truthy_str (by lia) ⟨H,I.tok _,q⟩
 | byt y =>
  obtain ⟨t,rfl⟩:=rx
  obtain ⟨hy,e'⟩:y.size<=sizeLine/\k=((y.size:Int) != 0):=e
  subst e'
  exact PySem.W.truthy_bytes (by lia) ⟨H,I.tok _,q⟩
 | ref p =>
  cases rx
  have e':(∃ xs,SqL X.K H p xs/\k=!xs.isEmpty)\/(∃ xs,SqT X.K H p xs/\k=!xs.isEmpty)\/∃ kvs,H p=some (.dK kvs)/\k=!kvs.isEmpty:=e
  rcases e' with ⟨xs,hx,e'⟩ | ⟨xs,hx,e'⟩ | ⟨kvs,hx,e'⟩
  ·subst e'
   obtain ⟨its,r,pl,hz⟩:=I.list hx
   have hlen:=r.length
   exact wpAny_truthy_list pl.isList (by simp only [List.size_toArray]; lia) ⟨H,I.tok _,by rw [isEmpty_of r]; exact q⟩
  ·subst e'
   obtain ⟨its,r,pl,hz⟩:=I.tuple hx
   have hlen:=r.length
   exact truthy_tuple pl (by simp only [List.size_toArray]; lia) ⟨H,I.tok _,by rw [isEmpty_of r]; exact q⟩
  ·subst e'
   obtain ⟨hz,hS,vs,r,m⟩:kvs.length<=sizeLine/\(p == sysModules)=false/\∃ vs,KV kvs vs/\s.heap.DictOf (mixKind X.prog X.w) p vs:=I.hok p _ hx
   have hlen:kvs.length=vs.length:=Paired.length r
   exact wpAny_truthy_dict hS m (by lia) ⟨H,I.tok _,by rw [isEmpty_kv r]; exact q⟩
 | _=>exact (show False from e).elim
theorem op_add_str:OpR X (binaryOp .Add) (fun x y H Q=>∃ i j,x=.str i/\y=.str j/\i.length+j.length<=sizeLine/\Q (.str (i++j)) H):=by
 intro pins s σ H x y v u Q I rx ry h
 obtain ⟨i,j,rfl,rfl,hz,q⟩:=h
 obtain ⟨t,rfl⟩:=rx
 obtain ⟨t',rfl⟩:=ry
 exact add_str (fun t' tk=>⟨.str (i++j),H,I.tok _,⟨_,rfl⟩,q⟩) hz
theorem vals1 {x:V} {us:List Value} (r:Vals [x] us):∃ u,us=[u]/\RelV x u:=by
 cases r with
 | cons r1 r2=>cases r2; exact ⟨_,rfl,r1⟩
theorem vals2 {x y:V} {us:List Value} (r:Vals [x,y] us):∃ u w',us=[u,w']/\RelV x u/\RelV y w':=by
 cases r with
 | cons r1 r2 =>
  cases r2 with
  | cons r3 r4=>cases r4; exact ⟨_,_,rfl,r1,r3⟩
noncomputable def LenV (K:PySem.W.Frag) (x:V) (H:Hp) (n:Nat):Prop :=
 match x with
 | .str y=>y.length<=sizeLine/\n=y.length
 | .byt y=>y.size<=sizeLine/\n=y.size
 | .ref p=>(∃ xs,SqL K H p xs/\n=xs.length)\/∃ xs,SqT K H p xs/\n=xs.length
 | _=>False
theorem call_len:CallR X (.builtin "len") (fun xs H Q=>∃ x n,xs=[x]/\LenV X.K x H n/\Q (.int n) H):=by
 intro pins s σ H xs us Q I r h
 obtain ⟨x,n,rfl,e,q⟩:=h
 obtain ⟨u,rfl,rx⟩:=vals1 r
 have hl:=line63
 have hs:sizeLine=16777216:=sizeLine_eq
 cases x with
 | str y =>
  obtain ⟨t,rfl⟩:=rx
  obtain ⟨hy,e'⟩:y.length<=sizeLine/\n=y.length:=e
  subst e'
  exact len_str (by lia) ⟨.int _,H,I.tok _,⟨_,rfl⟩,q⟩
 | byt y =>
  obtain ⟨t,rfl⟩:=rx
  obtain ⟨hy,e'⟩:y.size<=sizeLine/\n=y.size:=e
  subst e'
  exact PySem.W.len_bytes (by lia) ⟨.int _,H,I.tok _,⟨_,rfl⟩,q⟩
 | ref p =>
  cases rx
  have e':(∃ xs,SqL X.K H p xs/\n=xs.length)\/∃ xs,SqT X.K H p xs/\n=xs.length:=e
  rcases e' with ⟨xs,hx,e'⟩ | ⟨xs,hx,e'⟩
  ·subst e'
   obtain ⟨its,r',pl,hz⟩:=I.list hx
   have hlen:=r'.length
   exact Calls.call_len_list pl.isList (by simp only [List.size_toArray]; lia) ⟨.int xs.length,H,I.tok _,⟨_,by simp only [List.size_toArray]; rw [hlen]⟩,q⟩
  ·subst e'
   obtain ⟨its,r',pl,hz⟩:=I.tuple hx
   have hlen:=r'.length
   exact len_tuple pl (by simp only [List.size_toArray]; lia) ⟨.int xs.length,H,I.tok _,⟨_,by simp only [List.size_toArray]; rw [hlen]⟩,q⟩
 | _=>exact (show False from e).elim
end
structure ObjM (h:Heap) (x dx C:Addr) (mA:Str->Option Value):Prop where
 obj:h.get? x=some (PySem.W.instObj C dx)
 ns:h.Ns1 dx mA
 ne:dx≠x
theorem RelO.some_of {v:V} {o:Option Value} (r:RelO (some v) o):∃ u,o=some u/\RelV v u:=by
 cases o with
 | none=>exact (show False from r).elim
 | some u=>exact ⟨u,rfl,r⟩
structure Cls (K:PySem.W.Frag) (C:Addr):Prop where
 pg:PySem.W.plainGet K C Str.empty=true
 hd:PySem.W.hasDictIn K C=true
 po:PySem.W.plainOver K C=true
 sa:PySem.W.findIn K (.ref C) "__setattr__" = some (some (.builtin "object.__setattr__"))
structure Con (K:PySem.W.Frag) (C:Addr) (f:Str) (v:V) (u:Value):Prop where
 at_:PySem.W.findIn K (.ref C) f=some (some u)
 rel:RelV v u
 get:PySem.W.specialIn K u "__get__" = some none
 cp:PySem.W.copiedNames.contains f=false
structure Meth (K:PySem.W.Frag) (C:Addr) (m:Str) (f:Addr):Prop where
 at_:PySem.W.findIn K (.ref C) m=some (some (.ref f))
 fn:PySem.W.isFn K (.ref f)=true
 kp:PySem.W.keepIn K (.ref f)=true
section
variable {X:Cx} {pins:List (Addr×Obj)} {σ:St} {H:Hp} {s:Shared} {A:Around} {E:Value->Shared->Prop} {Q:Value->Shared->Prop} {c:Value} {b:Bool}
inductive TyOf (K:PySem.W.Frag) (H:Hp):V->Value->Prop where
 | non:TyOf K H .non (.type "NoneType")
 | bl (x:Bool):TyOf K H (.bl x) (.type "bool")
 | int (i:Int):TyOf K H (.int i) (.type "int")
 | str (x:Str):TyOf K H (.str x) (.type "str")
 | flt (x:UInt64):TyOf K H (.flt x) (.type "float")
 | lst {a:Addr} {xs:List V} (e:H a=some (.lst xs)):TyOf K H (.ref a) (.type "list")
 | frz {a:Addr} {o:Obj} {xs:List V} (e:H a=some (.frz o (.lst xs))):TyOf K H (.ref a) (.type "list")
 | tup {a:Addr} {xs:List V} (e:H a=some (.tup xs)):TyOf K H (.ref a) (.type "tuple")
 | dK {a:Addr} {kvs:List (Key×V)} (e:H a=some (.dK kvs)):TyOf K H (.ref a) (.type "dict")
 | dT {a:Addr} {kvs:List (List Key×V)} (e:H a=some (.dT kvs)):TyOf K H (.ref a) (.type "dict")
 | ins {a C dx:Addr} {fs:List (Str×V)} (e:H a=some (.ins C dx fs)) (cl:Cls K C) (ha:PySem.W.findIn K (.ref C) "__class__" = some (some (.builtin "object.__class__")))
   (hn:PySem.W.specialIn K (.builtin "object.__class__") "__get__" = some (some (.builtin "getset_descriptor.__get__"))) (htk:PySem.W.takesIn K (.builtin "object.__class__")=some true)
   (hm:PySem.W.mroIn K C (.type "object")=some true):TyOf K H (.ref a) (.ref C)
end
structure Room (k:Nat) (A:Around):Prop where
 hd:A.handled=none
 dp:A.depth+3 * k+5 < recursionLimit
 un:A.units+16 * k+200 < cLine
theorem Room.mono {j k:Nat} {A:Around} (r:Room k A) (h:j<=k):Room j A:=⟨r.hd,by have:=r.dp; lia,by have:=r.un; lia⟩
theorem Room.deeper {k:Nat} {A:Around} (r:Room (k+1) A) (env:Env):Room k (A.deeper env) :=
 ⟨r.hd,by have:=r.dp; show A.depth+1+3 * k+5 < _; lia,by have:=r.un; show A.units+3+16 * k+200 < _; lia⟩
theorem Room.depth {k:Nat} {A:Around} (r:Room k A):A.depth < recursionLimit:=by have:=r.dp; lia
theorem Room.units {k:Nat} {A:Around} (r:Room k A):A.units+64 < cLine:=by have:=r.un; lia
theorem Room.units0 {k:Nat} {A:Around} (r:Room k A):A.units < cLine:=by have:=r.un; lia
noncomputable abbrev Sp:=List V->Hp->VK->XK->Prop
noncomputable abbrev CXT:=List Env->Hp->Shared->XK->Value->Shared->Prop
structure Env0 (P:Program) (w:World) (K:PySem.W.Frag) (mg:Str->Option Value) (base:Heap) (A:Around) (outer:List Env) (s:Shared) (H:Hp):Prop where
 frames:A.frames=some outer
 mod:Mod K mg base
 bs:∀ b o,base.get? b=some o->s.heap.get? b=some o/\H b=none
 bsz:base.objs.size<=s.heap.objs.size
 funs:s.heap.FunFrames base outer
 frf:∀ b∈frs outer,H b=none
 hok:HOk P w H s.heap
 bare:AllBare s.gens
noncomputable def CE (outer:List Env) (P:Program) (w:World) (H:Hp) (s:Shared) (Q:VK) (u:Value) (s':Shared):Prop :=
 ∃ v H',s'.os=s.os/\AllBare s'.gens/\Un (frs outer) [] H H' s.heap s'.heap/\HOk P w H' s'.heap/\RelV v u/\Q v H'
noncomputable def CR (CX:CXT) (outer:List Env) (P:Program) (w:World) (H:Hp) (s:Shared) (Q:VK) (E:XK) (r:Result) (s':Shared):Prop :=
 match r with
 | .ok (.ret u)=>CE outer P w H s Q u s'
 | .ok _=>False
 | .error e=>CX outer H s E e s'
structure FnOk (P:Program) (w:World) (K:PySem.W.Frag) (mg:Str->Option Value) (base:Heap) (CX:CXT) (k:Nat) (f:Addr) (fd:FuncData) (ps:List Str) (sp:Sp):Prop where
 len:∀ vs H Q E,sp vs H Q E->vs.length=ps.length
 run:∀ (A:Around) (outer:List Env) (s:Shared) (H:Hp) (args:Args) (us:List Value) (vs:List V) (Q:VK) (E:XK),Room k A->Env0 P w K mg base A outer s H->BindsTo s fd args (ps.zip us)->Vals vs us->sp vs H Q E ->
  codeAny (model P w) A (.call (.ref f) args) (CR CX outer P w H s Q E) s
section
variable {X:Cx} {pins:List (Addr×Obj)} {σ:St} {H:Hp} {s s':Shared}
theorem Inv.env0 (I:Inv X pins σ H s):Env0 X.prog X.w X.K X.mg X.base X.A X.stack s H :=
 ⟨I.ok.frames,I.ok.mod,I.bs,Nat.le_trans I.ok.bsz I.sz,I.stack,I.stkFree,I.hok,I.bare⟩
theorem Inv.after {Q:VK} {u:Value} (I:Inv X pins σ H s) (h:CE X.stack X.prog X.w H s Q u s'):EP X pins σ Q u s':=by
 obtain ⟨v,H',os,bare,un,hok,r,q⟩:=h
 obtain ⟨hh,g,d,t,os'⟩:=s'
 obtain rfl:os'=s.os:=os
 exact ⟨v,H',I.call (h':=hh) (g':=g) (d':=d) (t':=t) (ch:=[]) un hok bare (fun b z=>absurd z (by simp)),r,q⟩
end
noncomputable def Binds (K:PySem.W.Frag) (fd:FuncData) (ps:List Str) (ds:List Value):Prop :=
 ∀ (s:Shared) (us:List Value),K.In s.heap->(us++ds).length=ps.length->BindsTo s fd ⟨us,[]⟩ (ps.zip (us++ds))
theorem Binds.all {K:PySem.W.Frag} {fd:FuncData} {ps:List Str} (h:∀ us:List Value,us.length=ps.length->bindArgs fd ⟨us,[]⟩=pure (ps.zip us)):Binds K fd ps []:=fun s us _ hl=>by
 rw [List.append_nil] at hl ⊢
 exact .of_eq (h us hl)
noncomputable def Passes (CX:CXT) (X:Cx) (E:XK):Prop:=∀ (pins:List (Addr×Obj)) (σ:St) (H:Hp) (s:Shared) (e:Value) (s':Shared),Inv X pins σ H s->CX X.stack H s E e s'->X.xe e s'
section
variable {X:Cx} {CX:CXT} {k:Nat} {f C:Addr} {fd:FuncData} {ps:List Str} {sp:Sp} {dvs:List V} {ds:List Value} {E:XK} {x m:Str} {p pos apos:Pos} {e o:Expr} {es:List Expr} {ta:TE} {t:TA}
theorem run_fn {pins:List (Addr×Obj)} {σ:St} {H:Hp} {s:Shared} {Q:VK} {us:List Value} {vs:List V} (F:FnOk X.prog X.w X.K X.mg X.base CX k f fd ps sp) (hr:Room k X.A) (hb:Binds X.K fd ps ds) (hd:Vals dvs ds) (hx:Passes CX X E)
  (I:Inv X pins σ H s) (r:Vals vs us) (h:sp (vs++dvs) H Q E):wpAny (model X.prog X.w) X.A (call (.ref f) us) (EP X pins σ Q) X.xe s:=by
 have r2:Vals (vs++dvs) (us++ds):=r.append hd
 have hl:(us++ds).length=ps.length:=by rw [← r2.length]; exact F.len _ _ _ _ h
 refine wpAny_call (codeAny_mono (F.run X.A X.stack s H ⟨us,[]⟩ (us++ds) (vs++dvs) Q E hr I.env0 (hb s us I.kIn hl) r2 h) fun r s' hq=>?_)
 cases r with
 | error e=>exact hx pins σ H s e s' I hq
 | ok fl =>
  cases fl with
  | ret u=>exact I.after hq
  | next=>exact False.elim hq
  | brk=>exact False.elim hq
  | cont=>exact False.elim hq
structure Mk (K:PySem.W.Frag) (C f:Addr):Prop where
 makes:PySem.W.makesIn K C=true
 init:PySem.W.findIn K (.ref C) "__init__" = some (some (.ref f))
 fn:PySem.W.isFn K (.ref f)=true
 kp:PySem.W.keepIn K (.ref C)=true
end
section
variable {X:Cx} {CX:CXT} {k:Nat} {f C:Addr} {fd:FuncData} {ps ks:List Str} {sp:Sp} {E:XK} {x m:Str} {p pos apos kpos:Pos} {e o:Expr} {es:List Expr} {kws:List Keyword} {te ta:TE} {t tk:TA} {nm:Option Str}
structure KBinds (K:PySem.W.Frag) (fd:FuncData) (ps ks:List Str) (g:List Value->List Value->List Value) (gV:List V->List V->List V):Prop where
 to:∀ (s:Shared) (us ws:List Value),K.In s.heap->(g us ws).length=ps.length->BindsTo s fd ⟨us,ks.zip ws⟩ (ps.zip (g us ws))
 rel:∀ {vs:List V} {us:List Value} {zs:List V} {ws:List Value},Vals vs us->Vals zs ws->Vals (gV vs zs) (g us ws)
variable {g:List Value->List Value->List Value} {gV:List V->List V->List V}
end
structure FnScope (N P:List Str) (sc:Scope):Prop where
 kind:sc.kind=.function
 co:sc.isCoroutine=false
 gen:sc.isGenerator=false
 nd:N.Nodup
 pre:N.take P.length=P
 par:∀ x∈P,sc.names.lookup x=some .local\/sc.names.lookup x=some .cell
 nofree:∀ y∈sc.names,y.2≠.free
theorem bindL_out {kindOf:Str->Option NameKind} {x:Str}:∀ {binds:List (Str×Value)} {m:Str->Option Value},(∀ v,(x,v)∉binds)->bindL kindOf binds m x=m x
 | [],_,_=>rfl
 | (n,v) :: r,m,h=>by
  unfold bindL
  rw [bindL_out fun w hw=>h w (List.mem_cons_of_mem _ hw)]
  split
  ·have:x≠n:=by rintro rfl; exact h v List.mem_cons_self
   simp [this]
  ·rfl
theorem bindC_out {kindOf:Str->Option NameKind} {x:Str}:∀ {binds:List (Str×Value)} {m:Str->Option Value},(∀ v,(x,v)∉binds)->bindC kindOf binds m x=m x
 | [],_,_=>rfl
 | (n,v) :: r,m,h=>by
  unfold bindC
  rw [bindC_out fun w hw=>h w (List.mem_cons_of_mem _ hw)]
  split
  ·rfl
  ·have:x≠n:=by rintro rfl; exact h v List.mem_cons_self
   simp [this]
theorem bindL_get {kindOf:Str->Option NameKind} {x:Str} {v:Value}:∀ {P:List Str} {vs:List Value} {i:Nat} {m:Str->Option Value},P.Nodup->P[i]?=some x->vs[i]?=some v->kindOf x=some .local ->
  bindL kindOf (P.zip vs) m x=some v
 | [],_,_,_,_,h,_,_=>by simp at h
 | _ :: _,[],_,_,_,_,h,_=>by simp at h
 | p :: P,w :: vs,0,m,nd,h1,h2,hk=>by
  simp at h1 h2; subst h1; subst h2
  show bindL kindOf ((p,w) :: P.zip vs) m p=_
  unfold bindL
  rw [bindL_out fun v hv=>(List.nodup_cons.mp nd).1 (List.of_mem_zip hv).1,if_pos hk]
  simp
 | p :: P,w :: vs,i+1,m,nd,h1,h2,hk=>by
  show bindL kindOf ((p,w) :: P.zip vs) m x=_
  unfold bindL
  exact bindL_get (i:=i) (List.nodup_cons.mp nd).2 (by simpa using h1) (by simpa using h2) hk
theorem bindC_get {kindOf:Str->Option NameKind} {x:Str} {v:Value}:∀ {P:List Str} {vs:List Value} {i:Nat} {m:Str->Option Value},P.Nodup->P[i]?=some x->vs[i]?=some v->kindOf x≠some .local ->
  bindC kindOf (P.zip vs) m x=some v
 | [],_,_,_,_,h,_,_=>by simp at h
 | _ :: _,[],_,_,_,_,h,_=>by simp at h
 | p :: P,w :: vs,0,m,nd,h1,h2,hk=>by
  simp at h1 h2; subst h1; subst h2
  show bindC kindOf ((p,w) :: P.zip vs) m p=_
  unfold bindC
  rw [bindC_out fun v hv=>(List.nodup_cons.mp nd).1 (List.of_mem_zip hv).1,if_neg hk]
  simp
 | p :: P,w :: vs,i+1,m,nd,h1,h2,hk=>by
  show bindC kindOf ((p,w) :: P.zip vs) m x=_
  unfold bindC
  exact bindC_get (i:=i) (List.nodup_cons.mp nd).2 (by simpa using h1) (by simpa using h2) hk
noncomputable def start (N:List Str) (vs:List V):St:=vs.map some++List.replicate (N.length - vs.length) none
noncomputable def cxOf (CX:CXT) (P:Program) (w:World) (K:PySem.W.Frag) (mg:Str->Option Value) (base:Heap) (N:List Str) (qual:Str) (scope:Scope) (f:Addr) (cd:Value) (A:Around) (outer:List Env) (s:Shared) (H:Hp) (E:XK):Cx where
 prog:=P
 w:=w
 K:=K
 mg:=mg
 base:=base
 A:=A.deeper (envOfC qual scope s.heap.objs.size f cd)
 N:=N
 s₀:=s
 H₀:=H
 env:=envOfC qual scope s.heap.objs.size f cd
 outer:=outer
 stack:=envOfC qual scope s.heap.objs.size f cd :: outer
 ex:=[]
 calm:=true
 fn:=fun _=>true
 pn:=[]
 xe:=fun e s'=>wpAny (model P w) (A.deeper (envOfC qual scope s.heap.objs.size f cd)) (leaving (envOfC qual scope s.heap.objs.size f cd) e) (fun _ s''=>CX outer H s E e s'') (fun e' s''=>CX outer H s E e' s'') s'
theorem cell_has {sc:Scope} {n:Nat} {x:Str} (h:sc.names.lookup x=some .cell):∃ c,(cellsFrom n sc.names []).lookup x=some c:=by
 have q:=PySem.W.cellsFrom_some sc.names n [] (.inl h)
 exact Option.isSome_iff_exists.mp q
theorem inv_start {CX:CXT} {P:Program} {w:World} {K:PySem.W.Frag} {mg:Str->Option Value} {base:Heap} {N ps:List Str} {qual:Str} {scope:Scope} {f:Addr} {cd:Value} {A:Around} {outer:List Env} {s s1:Shared} {H:Hp} {E:XK} {us:List Value} {vs:List V}
  (S:FnScope N ps scope) (hd:A.handled=none) (e0:Env0 P w K mg base A outer s H) (hl:vs.length=ps.length) (r:Vals vs us)
  (x:InCallC s s.heap.objs.size (bindL (envOfC qual scope s.heap.objs.size f cd).kindOf (ps.zip us) fun _=>none) (cellsFrom (s.heap.objs.size+1) scope.names []) (bindC (envOfC qual scope s.heap.objs.size f cd).kindOf (ps.zip us) fun _=>none) s1) :
  Inv (cxOf CX P w K mg base N qual scope f cd A outer s H E) [] (start N vs) H s1:=by
 have hpl:ps.length<=N.length:=by have:=congrArg List.length S.pre; rw [List.length_take] at this; lia
 obtain ⟨h1,tk,rfl,hk⟩:=x.done
 have noA:∀ b:Addr,b∉(cxOf CX P w K mg base N qual scope f cd A outer s H E).ex:=fun b z=>absurd (show b∈([]:List Addr) from z) (by simp)
 refine ⟨⟨e0.mod,S.kind,rfl,rfl,Nat.le_refl _,fun y z c h1 h2=>?_,fun y hy=>?_,fun y c _ h=>?_,fun _=>hd,Around.frames_deeper e0.frames,.inr ⟨rfl,rfl⟩,fun b z=>absurd z (noA b),e0.bs,e0.bsz,fun b _ _=>noA b,fun b z=>absurd z (noA b),e0.funs,e0.frf⟩,
  rfl,e0.bare,Un.kept hk,⟨_,x.toInCall.ns,fun i y v h1 h2 h3=>?_⟩,fun y c h=>⟨_,x.cell y c h⟩,e0.hok.fresh (Nat.le_refl _),fun y c h=>?_,fun p hp=>absurd (show p∈([]:List (Addr×Obj)) from hp) (by simp),e0.hok.kept hk,?_⟩
 ·exact name_of_addr x.apart (PySem.mem_of_lookup h1) (PySem.mem_of_lookup h2)
 ·have hy:scope.names.lookup y=some .cell\/scope.names.lookup y=some .free:=hy
  rcases hy with hy | hy
  ·exact cell_has hy
  ·exact absurd rfl (S.nofree _ (PySem.mem_of_lookup hy))
 ·exact Nat.le_of_lt (x.above y c (PySem.mem_of_lookup h))
 ·have hi:i < vs.length:=by
   unfold start at h2
   by_cases hi:i < vs.length
   ·exact hi
   ·rw [List.getElem?_append_right (by simpa using hi)] at h2
    rw [List.getElem?_replicate] at h2
    split at h2 <;> cases h2
  have ha:vs[i]?=some v:=by
   unfold start at h2
   rw [List.getElem?_append_left (by simpa using hi),List.getElem?_map] at h2
   cases e:vs[i]? with
   | none=>rw [e] at h2; cases h2
   | some a=>rw [e] at h2; cases h2; rfl
  obtain ⟨u,hu,rv⟩:=r.get ha
  have hp:ps[i]?=some y:=by
   rw [← S.pre,List.getElem?_take_of_lt (by lia)]; exact h1
  have ndP:ps.Nodup:=by rw [← S.pre]; exact S.nd.sublist (List.take_sublist _ _)
  refine ⟨u,rv,?_⟩
  rcases S.par y (List.mem_of_getElem? hp) with k | k
  ·exact .inl ⟨k,bindL_get ndP hp hu k⟩
  ·obtain ⟨c,e⟩:=cell_has (n:=s.heap.objs.size+1) k
   refine .inr ⟨.inl k,c,e,?_⟩
   have q:=x.cell y c e
   rw [bindC_get ndP hp hu (by show scope.names.lookup y≠_; rw [k]; decide)] at q
   exact q
 ·exact e0.hok.fresh (Nat.le_of_lt (x.above y c (PySem.mem_of_lookup h)))
 ·unfold start
  show _=N.length
  rw [List.length_append,List.length_map,List.length_replicate]
  lia
theorem fn_of {CX:CXT} {P:Program} {w:World} {K:PySem.W.Frag} {mg:Str->Option Value} {base:Heap} {k:Nat} {f:Addr} {name qual:Str} {params:Arguments} {body:List Stmt} {scope:Scope} {dV kV doc pm cdv ct oc:Value} {an od:Option Addr}
  {osl:Array (Option Value)} {N ps:List Str} {sp:Sp} (lk:K.lookup f=some ⟨oc,od,.func (PySem.W.fnOf name qual params body scope dV kV doc pm an cdv ct),osl⟩) (hcd:PySem.W.codeIn K cdv qual=true) (S:FnScope N ps scope)
  (len:∀ vs H Q E,sp vs H Q E->vs.length=ps.length)
  (hbody:∀ (A:Around) (outer:List Env) (s:Shared) (H:Hp) (vs:List V) (Q:VK) (E:XK),Room k (A.deeper (envOfC qual scope s.heap.objs.size f cdv))->sp vs H Q E ->
   ∃ t,PSs (cxOf CX P w K mg base N qual scope f cdv A outer s H E) body t/\t { nx:=fun _ H'=>Q .non H',rt:=Q } (start N vs) H) :
  FnOk P w K mg base CX (k+1) f (PySem.W.fnOf name qual params body scope dV kV doc pm an cdv ct) ps sp:=by
 refine ⟨len,fun A outer s H args us vs Q E hr e0 hb r hsp=>?_⟩
 have hl:=len _ _ _ _ hsp
 have KX:K.In s.heap:=e0.mod.kin.keeps fun b o e=>(e0.bs b o e).1
 have lim:s.heap.NoLimit:=e0.mod.nolimit.keeps fun b o e=>(e0.bs b o e).1
 have hkind:∀ y∈ps.zip us,scope.names.lookup y.1=some .local\/(scope.names.lookup y.1=some .cell/\((cellsFrom (s.heap.objs.size+1) scope.names []).lookup y.1).isSome=true):=fun ⟨n,v⟩ hy=>by
  rcases S.par n (List.of_mem_zip hy).1 with q | q
  ·exact .inl q
  ·exact .inr ⟨q,PySem.W.cellsFrom_some _ _ _ (.inl q)⟩
 refine codeAny_call_function hr.depth (KX _ _ lk) rfl S.co S.gen rfl (PySem.W.codeRec_of KX hcd) (hb _ _ _ _ ?_)
 refine wpAny_newFunctionEnv_cells S.kind hkind fun env he s1 x=>?_
 subst he
 refine ⟨lim.keeps x.toInCall.keep,codeAny_func ?_⟩
 obtain ⟨t,ht,hq⟩:=hbody A outer s H vs Q E (hr.deeper _) hsp
 have I:Inv (cxOf CX P w K mg base N qual scope f cdv A outer s H E) [] (start N vs) H s1:=inv_start S hr.hd e0 hl r x
 refine wpAny_mono (ht [] s1 (start N vs) H _ I hq) (fun fl s' hs=>?_) fun e s' hs=>hs
 have fin:∀ {σ':St} {H':Hp} {v:V} {u:Value},Inv (cxOf CX P w K mg base N qual scope f cdv A outer s H E) [] σ' H' s'->RelV v u->Q v H'->CE outer P w H s Q u s' :=
  fun {σ' H' v u} J rv q=>⟨v,H',J.os,J.bare,J.base,J.hok,rv,q⟩
 cases fl with
 | ret u =>
  obtain ⟨v,σ',H',J,rv,q⟩:=hs
  exact fin J rv q
 | next =>
  obtain ⟨σ',H',J,q⟩:=hs
  exact fin (v:=V.non) (u:=Value.none) J rfl q
 | brk =>
  obtain ⟨_,_,_,q⟩:=hs
  exact False.elim q
 | cont =>
  obtain ⟨_,_,_,q⟩:=hs
  exact False.elim q
end L2
namespace HT
open PySem PyProof.Rows
noncomputable def lexLt:List Int->List Int->Bool
 | [],[]=>false
 | [],_ :: _=>true
 | _ :: _,[]=>false
 | x :: xs,y :: ys=>if x=y then lexLt xs ys else decide (x < y)
theorem lexLt_cons (x y:Int) (xs ys:List Int):lexLt (x :: xs) (y :: ys)=if x=y then lexLt xs ys else decide (x < y):=rfl
theorem lexLt_nil_nil:lexLt [] []=false:=rfl
theorem lexLt_nil_cons (y:Int) (ys:List Int):lexLt [] (y :: ys)=true:=rfl
theorem lexLt_cons_nil (x:Int) (xs:List Int):lexLt (x :: xs) []=false:=rfl
theorem eqAt_int (A:Around) (s:Shared) (a:Int) (t:Tok) (c:Int) (u:Tok):∃ e,SeqAt.EqAt A s (.int a t) (.int c u) e/\(e=true↔a=c) :=
 ⟨(a == c),SeqAt.EqAt.int_int a t c u,by simp⟩
theorem rcLt_int (A:Around) (s:Shared) (a:Int) (t:Tok) (c:Int) (u:Tok) (prog:Program) (w:World) (E:Value->Shared->Prop) (Q:Value->Shared->Prop) (h:Q (.bool (decide (a < c))) s) :
  wpAny (model prog w) A (richCompare .Lt (.int a t) (.int c u)) Q E s :=
 (PyProof.Rows.lt_int h:wpAny (model prog w) A (compareOp .Lt (.int a t) (.int c u)) Q E s)
section
open PySem.SeqAt
open PySem.AutoSeq1 (wpAny_loadPart')
open PySem.MeetsSeq PySem.MeetsSeq2 PySem.MeetsSeq3
theorem tuple_lt_ints (l b:Addr) (items items2:Array Value) (n n2:Nat) (dd dd2:Option Addr) (sl sl2:Array (Option Value)) (ns ms:List Int) (hi:IntsAre items.toList ns) (hj:IntsAre items2.toList ms) :
  Meets (Builtin.«tuple.__lt__» ⟨[.ref l,.ref b],[]⟩)
   (fun _ R s=>s.heap.get? l=some { cls:=.type "tuple",dict:=dd,data:=.seq items n,slots:=sl }/\s.heap.get? b=some { cls:=.type "tuple",dict:=dd2,data:=.seq items2 n2,slots:=sl2 } /\
    R (.ok (.ret (.bool (lexLt ns ms)))) s) :=
 .of_wp fun prog w A R s h=>by
  obtain ⟨hp,g,d,tk,os⟩:=s; obtain ⟨hl,hb,h⟩:=h
  have f2:=AutoSeq1.sub_tuple_tuple
  have z1:items.size=ns.length:=by rw [← hi.length]; simp
  have z2:items2.size=ms.length:=by rw [← hj.length]; simp
  wp_walk using wpAny_loadPart' hl,wpAny_loadPart' hb,wpAny_forIn_list _ (fun rest b s'=>b.1=none/\s'=⟨hp,g,d,tk,os⟩/\∃ (vs ws:List Value) (ns' ms':List Int),rest=vs.zip ws /\
   IntsAre vs ns'/\IntsAre ws ms'/\ns'.length+items2.size=ms'.length+items.size/\R (.ok (.ret (.bool (lexLt ns' ms')))) ⟨hp,g,d,tk,os⟩) _
  case turn =>
   rintro ⟨y,x⟩ rest b s' ⟨hb',rfl,vs,ws,ns',ms',hz,hvi,hwi,hlen,hR⟩
   cases hvi with
   | nil=>rw [List.zip_nil_left] at hz; cases hz
   | cons a t hvi' =>
    cases hwi with
    | nil=>rw [List.zip_nil_right] at hz; cases hz
    | cons c u hwi' =>
     rw [List.zip_cons_cons] at hz
     injection hz with hyx hrest
     injection hyx with hy hx
     subst hy hx
     rw [lexLt_cons] at hR
     simp only [List.length_cons] at hlen
     obtain ⟨e,he,hiff⟩:=eqAt_int A.in1 ⟨hp,g,d,tk,os⟩ a t c u
     refine wpAny_bind (he prog w _ _ ?_)
     cases e with
     | true =>
      rw [if_pos (hiff.mp rfl)] at hR
      wp_walk
      exact ⟨rfl,rfl,_,_,_,_,hrest,hvi',hwi',by lia,hR⟩
     | false =>
      rw [if_neg (fun q=>absurd (hiff.mpr q) Bool.false_ne_true)] at hR
      have hri:=rcLt_int A.in1 ⟨hp,g,d,tk,os⟩ a t c u prog w
      wp_walk using hri
      exact ⟨_,rfl,by simpa using hR⟩
  case fin =>
   rintro ⟨b1,b2⟩ s' ⟨hb',rfl,vs,ws,ns',ms',hz,hvi,hwi,hlen,hR⟩
   simp only at hb'
   subst hb'
   have hv:lexLt ns' ms'=decide (items.size < items2.size):=by
    cases hvi with
    | nil =>
     cases hwi with
     | nil =>
      simp only [List.length_nil] at hlen
      rw [lexLt_nil_nil]
      exact (decide_eq_false (by lia)).symm
     | cons c u hw =>
      simp only [List.length_nil,List.length_cons] at hlen
      rw [lexLt_nil_cons]
      exact (decide_eq_true (by lia)).symm
    | cons a t hv =>
     cases hwi with
     | nil =>
      simp only [List.length_nil,List.length_cons] at hlen
      rw [lexLt_cons_nil]
      exact (decide_eq_false (by lia)).symm
     | cons c u hw =>
      rw [List.zip_cons_cons] at hz
      cases hz
   rw [hv] at hR
   wp_walk
   exact ⟨_,rfl,by simpa [Builtin.Tuple.tupleCompareSizes] using hR⟩
  case h =>
   exact ⟨rfl,rfl,items.toList,items2.toList,ns,ms,rfl,hi,hj,by lia,h⟩
end
section
variable {prog:Program} {w:World} {A:Around} {E:Value->Shared->Prop} {s:Shared}
theorem lt_tupInts {l b:Addr} {items items2:Array Value} {ns ms:List Int} {Q:Value->Shared->Prop} (hl:IsTup s.heap l items) (hb:IsTup s.heap b items2) (hi:IntsAre items.toList ns) (hj:IntsAre items2.toList ms)
  (hu:A.units < cLine) (h:Q (.bool (lexLt ns ms)) s):wpAny (model prog w) A (compareOp .Lt (.ref l) (.ref b)) Q E s:=by
 obtain ⟨⟨cls,dd,data,sl⟩,ho,hc,n,hd⟩:=id hl
 obtain ⟨⟨cls2,dd2,data2,sl2⟩,ho2,hc2,n2,hd2⟩:=id hb
 simp only at hc hd hc2 hd2
 subst hc hd hc2 hd2
 exact richCompare_meets_room (op:=.Lt) ⟨_,ho,rfl⟩ ⟨_,ho2,rfl⟩ PySem.F.slot_tuple_lt PySem.F.entry_tuple_lt (PySem.F.args_tuple_lt_2 _ _) (tuple_lt_ints l b items items2 n n2 dd dd2 sl sl2 ns ms hi hj)
  ⟨ho,ho2,show Value.bool (lexLt ns ms)≠Value.notImplemented/\Q (.bool (lexLt ns ms)) s from ⟨(fun x=>nomatch x),h⟩⟩ hu
theorem cat_tup {t b:Addr} {vs ws:List Value} {Q:Value->Shared->Prop} (ht:IsTup s.heap t vs.toArray) (hb:IsTup s.heap b ws.toArray) (hv:vs≠[])
  (h1:ws=[]->Q (.ref t) s) (h2:ws≠[]->Q (.ref s.heap.objs.size) { s with heap:=s.heap.push { cls:=.type "tuple",data:=.seq (vs++ws).toArray } })
  (hsz:vs.length+ws.length<=sizeLine):wpAny (model prog w) A (binaryOp .Add (.ref t) (.ref b)) Q E s:=by
 obtain ⟨⟨cls,dd,data,sl⟩,ho,hc,n,hd⟩:=id ht
 obtain ⟨⟨cls2,dd2,data2,sl2⟩,ho2,hc2,n2,hd2⟩:=id hb
 simp only at hc hd hc2 hd2
 subst hc hd hc2 hd2
 have e:vs.toArray++ws.toArray=(vs++ws).toArray:=by simp
 by_cases hw:ws=[]
 ·exact concat_meets ⟨_,ho,rfl⟩ ⟨_,ho2,rfl⟩ noFill_tuple_add seq_tuple_add PySem.F.slot_tuple_add PySem.F.entry_tuple_add (PySem.F.args_tuple_add_2 _ _)
   (tuple_addW1 t b vs.toArray ws.toArray n n2 dd dd2 sl sl2 (by simpa using hv) (by simp [hw])) ⟨ho,ho2,h1 hw⟩
 ·refine concat_meets ⟨_,ho,rfl⟩ ⟨_,ho2,rfl⟩ noFill_tuple_add seq_tuple_add PySem.F.slot_tuple_add PySem.F.entry_tuple_add (PySem.F.args_tuple_add_2 _ _)
   (tuple_addW2 t b vs.toArray ws.toArray n n2 dd dd2 sl sl2 (by simpa using hv) (by simpa using hw) (by rw [List.size_toArray,List.size_toArray]; exact hsz)) ⟨ho,ho2,?_⟩
  rw [e]
  exact h2 hw
noncomputable def sIx (n d:Nat):Option Int->Nat
 | none=>d
 | some v=>if v < 0 then (v+(n:Int)).toNat else min v.toNat n
theorem sIx_le (n d:Nat) (hd:d<=n) (o:Option Int):sIx n d o<=n:=by
 cases o with
 | none=>exact hd
 | some v =>
  show (if v < 0 then (v+(n:Int)).toNat else min v.toNat n)<=n
  by_cases hv:v < 0
  ·rw [if_pos hv]; lia
  ·rw [if_neg hv]; exact Nat.min_le_right _ _
theorem clip_eq (v:Int) (n d:Nat):(if v < 0 then max (v+(n:Int)) 0 else min v (n:Int))=((sIx n d (some v):Nat):Int):=by
 show (if v < 0 then max (v+(n:Int)) 0 else min v (n:Int))=(((if v < 0 then (v+(n:Int)).toNat else min v.toNat n):Nat):Int)
 by_cases hv:v < 0
 ·simp only [if_pos hv]; lia
 ·simp only [if_neg hv]; lia
theorem adjust_gen (lo hi:Option Int) (n:Nat):Builtin.Slice.sliceAdjust lo hi 1 (n:Int)=(((sIx n 0 lo:Nat):Int),((sIx n n hi:Nat):Int)):=by
 have h1:¬ ((1:Int) < 0):=by lia
 unfold Builtin.Slice.sliceAdjust
 simp only [h1,if_false]
 refine Prod.ext ?_ ?_
 ·cases lo with
  | none=>rfl
  | some v=>exact clip_eq v n 0
 ·cases hi with
  | none=>rfl
  | some v=>exact clip_eq v n n
theorem places_gen (i j:Nat):Builtin.Slice.slicePlaces (i:Int) (j:Int) 1=j - i:=by
 unfold Builtin.Slice.slicePlaces
 have h1:(1:Int) > 0:=by lia
 simp only [h1,if_true,Int.ediv_one]
 split <;> lia
theorem slicePart_ {v:Value} {o:Option Int} {Q:Option Int->Shared->Prop} (p:IsPart v o) (h:Q o s):wpAny (model prog w) A (Builtin.Slice.slicePartIndex v) Q E s:=by
 cases p with
 | none=>exact slicePart_none h
 | int i t=>exact slicePart_int h
theorem sliceApplied_gen {sl:Addr} {vl vu:Value} {lo hi:Option Int} {n:Nat} {Q:Int×Int×Nat->Shared->Prop} (hs:s.heap.IsSliceOf sl vl vu .none) (pl:IsPart vl lo) (pu:IsPart vu hi)
  (h:Q (((sIx n 0 lo:Nat):Int),1,sIx n n hi - sIx n 0 lo) s):wpAny (model prog w) A (Builtin.Slice.sliceApplied (.ref sl) (pure (n:Int))) Q E s:=by
 obtain ⟨os,hos,hcs,hds⟩:=id hs
 unfold Builtin.Slice.sliceApplied Builtin.Slice.sliceFields
 refine wpAny_bind (wpAny_bind (wpAny_field hos hds (x:=vl) rfl (wpAny_bind (wpAny_field hos hds (x:=vu) rfl (wpAny_bind (wpAny_field hos hds (x:=.none) rfl (wpAny_pure ?_)))))))
 refine wpAny_bind (slicePart_none ?_)
 show wpAny _ _ (if ((1:Int) == 0)=true then _ else _) _ _ s
 rw [if_neg (by decide)]
 refine wpAny_bind (slicePart_ pl (wpAny_bind (slicePart_ pu (wpAny_bind (wpAny_pure ?_)))))
 show wpAny _ _ (match Builtin.Slice.sliceAdjust lo hi 1 (n:Int) with | (lo,hi)=>pure (lo,(1:Int),Builtin.Slice.slicePlaces lo hi 1)) _ _ s
 rw [adjust_gen lo hi n]
 show wpAny _ _ (pure (((sIx n 0 lo:Nat):Int),(1:Int),Builtin.Slice.slicePlaces ((sIx n 0 lo:Nat):Int) ((sIx n n hi:Nat):Int) 1)) _ _ s
 rw [places_gen]
 exact wpAny_pure h
theorem pick_gen (xs:Array Value) (i k:Nat):((List.range k).filterMap fun (m:Nat)=>xs[((i:Int)+(m:Int) * 1).toNat]?).toArray=((xs.toList.drop i).take k).toArray:=by
 have e:(fun (m:Nat)=>xs[((i:Int)+(m:Int) * 1).toNat]?)=fun m=>xs[i+m]?:=by
  funext m
  have:((i:Int)+(m:Int) * 1).toNat=i+m:=by lia
  rw [this]
 rw [e]
 have:=pick_run xs i k
 rw [List.filterMap_map] at this
 have e2:((fun x=>xs[x]?)∘fun x=>i+x)=fun m=>xs[i+m]?:=rfl
 rw [e2] at this
 rw [this]
theorem getItem_tuple_cut {t sl:Addr} {items:Array Value} {vl vu:Value} {lo hi:Option Int} {Q:Value->Shared->Prop} (ht:IsTup s.heap t items) (hs:s.heap.IsSliceOf sl vl vu .none) (pl:IsPart vl lo) (pu:IsPart vu hi)
  (hw:¬ (sIx items.size 0 lo=0/\sIx items.size items.size hi=items.size))
  (h:Q (.ref s.heap.objs.size) { s with heap:=s.heap.push { cls:=.type "tuple",data:=.seq ((items.toList.drop (sIx items.size 0 lo)).take (sIx items.size items.size hi - sIx items.size 0 lo)).toArray } })
  (hsz:items.size<=sizeLine):wpAny (model prog w) A (getItem (.ref t) (.ref sl)) Q E s:=by
 have htake:sizeOk (.seq ((items.toList.drop (sIx items.size 0 lo)).take (sIx items.size items.size hi - sIx items.size 0 lo)).toArray):=by
  show ((items.toList.drop (sIx items.size 0 lo)).take (sIx items.size items.size hi - sIx items.size 0 lo)).toArray.size<=sizeLine
  rw [List.size_toArray,List.length_take,List.length_drop,Array.length_toList]
  lia
 have hj:sIx items.size items.size hi<=items.size:=sIx_le _ _ (Nat.le_refl _) hi
 obtain ⟨os,hos,hcs,hds⟩:=id hs
 have hTs:s.TypeIs (.ref sl) "slice":=⟨os,hos,hcs⟩
 unfold getItem
 try with_reducible refine wpAny_holding ?_
 first | refine wpAny_bind (wpAny_pure ?_) | skip
 refine wpAny_bind (wpAny_sequenceKey ht.typeIs (by decide) ?_)
 refine wpAny_bind (wpAny_callSpecial?_slot (name:=Str.ofString "__getitem__") ht.typeIs PyProof.Rows.slot_tuple_getitem
  (wpAny_call_entry PyProof.Rows.slot_tuple_getitem ht.typeIs entry_tuple_getitem ?_ (args_tuple_getitem _ _)))
 show wpAny _ _ (Builtin.Tuple.tupleItemsOf (.ref t) >>= _) _ _ s
 refine wpAny_bind (tupleItemsOf_ ht ?_)
 refine wpAny_bind (wpAny_typeOf hTs ?_)
 rw [if_pos (by decide)]
 refine wpAny_bind (sliceApplied_gen hs pl pu ?_)
 have hno:¬ ((((sIx items.size 0 lo:Nat):Int) == 0&&(1:Int) == 1&&(sIx items.size items.size hi - sIx items.size 0 lo) == items.size)=true):=by
  intro q
  rw [Bool.and_eq_true,Bool.and_eq_true] at q
  have q1:((sIx items.size 0 lo:Nat):Int)=0:=eq_of_beq q.1.1
  have q2:sIx items.size items.size hi - sIx items.size 0 lo=items.size:=eq_of_beq q.2
  exact hw ⟨by lia,by lia⟩
 show wpAny _ _ (if (((sIx items.size 0 lo:Nat):Int) == 0&&(1:Int) == 1&&(sIx items.size items.size hi - sIx items.size 0 lo) == items.size)=true then _ else _) _ _ s
 rw [if_neg hno,pick_gen]
 first
  | exact wpAny_bind (m:=Builtin.Tuple.tupleExact _) (wpAny_newObj_type (wpAny_pure ⟨_,rfl,wpAny_pure h⟩) htake)
  | exact wpAny_bind (m:=Builtin.Tuple.tupleExact _) (wpAny_newObj_type (wpAny_bind (wpAny_pure (wpAny_pure ⟨_,rfl,wpAny_pure h⟩))) htake)
  | exact wpAny_bind (wpAny_bind (m:=Builtin.Tuple.tupleExact _) (wpAny_newObj_type (wpAny_pure (wpAny_pure ⟨_,rfl,wpAny_pure h⟩)) htake))
  | exact wpAny_bind (wpAny_bind (m:=Builtin.Tuple.tupleExact _) (wpAny_newObj_type (wpAny_pure ⟨_,rfl,wpAny_pure h⟩) htake))
end
end HT
namespace L2
open PySem PySem.Spec PyProof.Rows
noncomputable abbrev TO:=St->Hp->(Option Int->Hp->Prop)->Prop
theorem intsAre_of {ns:List Int}:∀ {us:List Value},Vals (ns.map V.int) us->IntsAre us ns:=by
 induction ns with
 | nil=>intro us r; rw [List.map_nil] at r; cases r; exact .nil
 | cons n ns ih =>
  intro us r
  rw [List.map_cons] at r
  cases r with
  | cons r1 r2 =>
   obtain ⟨t,e⟩:=r1
   subst e
   exact .cons n t (ih r2)
section
variable {X:Cx} {e:Expr} {te:TE} {lo hi:Option Expr} {tl th:TO} {pos p2:Pos}
noncomputable def SlR (X:Cx) (r:V->Option Int->Option Int->Hp->VK->Prop):Prop :=
 ∀ (pins:List (Addr×Obj)) (s:Shared) (σ:St) (H:Hp) (x:V) (v vl vu:Value) (lo hi:Option Int) (sl:Addr) (Q:VK),Inv X pins σ H s->RelV x v->s.heap.IsSliceOf sl vl vu .none->IsPart vl lo->IsPart vu hi->r x lo hi H Q ->
  ∃ T id,typeLookup (.type T) "__getitem__" = pure (some (.builtin id))/\s.TypeIs v T/\wpAny (model X.prog X.w) X.A (getItem v (.ref sl)) (EP X pins σ Q) X.xe s
noncomputable def cutV (xs:List V) (lo hi:Option Int):List V:=(xs.drop (HT.sIx xs.length 0 lo)).take (HT.sIx xs.length xs.length hi - HT.sIx xs.length 0 lo)
theorem cutV_length (xs:List V) (lo hi:Option Int):(cutV xs lo hi).length<=xs.length:=by
 unfold cutV
 rw [List.length_take,List.length_drop]
 lia
noncomputable def rSlT (K:PySem.W.Frag):V->Option Int->Option Int->Hp->VK->Prop:=fun x lo hi H Q=>∃ a xs,x=.ref a/\SqT K H a xs /\
 ¬ (HT.sIx xs.length 0 lo=0/\HT.sIx xs.length xs.length hi=xs.length)/\∀ p,H p=none->Q (.ref p) (upd H p (.tup (cutV xs lo hi)))
theorem sl_tup:SlR X (rSlT X.K):=by
 intro pins s σ H x v vl vu lo hi sl Q I rx hs pl pu h
 obtain ⟨a,xs,rfl,hx,hw,q⟩:=h
 cases rx
 obtain ⟨its,r,ht,hz⟩:=I.tuple hx
 have hlen:its.toArray.size=xs.length:=by rw [List.size_toArray]; exact r.length.symm
 refine ⟨"tuple",_,PyProof.Rows.slot_tuple_getitem.lookup,ht.typeIs,?_⟩
 refine HT.getItem_tuple_cut ht hs pl pu (by rw [hlen]; exact hw) ?_ (by rw [hlen]; exact hz)
 rw [hlen]
 refine ⟨.ref s.heap.objs.size,_,I.laid (t':=s.toks) (o:=.tup (cutV xs lo hi)) (fun b ob q=>Heap.get?_push_of_some _ q) (Nat.le_refl _) ?_,rfl,q _ (I.hok.fresh (Nat.le_refl _))⟩
 exact ⟨Nat.le_trans (cutV_length xs lo hi) hz,_,(r.drop (HT.sIx xs.length 0 lo)).take (HT.sIx xs.length xs.length hi - HT.sIx xs.length 0 lo),IsTup.new _ _⟩
noncomputable def rLtT (K:PySem.W.Frag):R2:=fun x y H Q=>∃ a b ns ms,x=.ref a/\y=.ref b/\SqT K H a (ns.map V.int)/\SqT K H b (ms.map V.int)/\Q (.bl (HT.lexLt ns ms)) H
theorem op_ltT (hu:X.A.units < cLine):OpR X (compareOp .Lt) (rLtT X.K):=by
 intro pins s σ H x y v u Q I rx ry h
 obtain ⟨a,b,ns,ms,rfl,rfl,ha,hb,q⟩:=h
 cases rx
 cases ry
 obtain ⟨its,r1,p1,_⟩:=I.tuple ha
 obtain ⟨its2,r2,p2,_⟩:=I.tuple hb
 have i1:IntsAre its.toArray.toList ns:=intsAre_of r1
 have i2:IntsAre its2.toArray.toList ms:=intsAre_of r2
 exact HT.lt_tupInts p1 p2 i1 i2 hu ⟨.bl (HT.lexLt ns ms),H,I,rfl,q⟩
noncomputable def rCatT (K:PySem.W.Frag):R2:=fun x y H Q=>∃ a b xs ys,x=.ref a/\y=.ref b/\SqT K H a xs/\SqT K H b ys/\xs≠[]/\xs.length+ys.length<=sizeLine /\
 (ys=[]->Q (.ref a) H)/\(ys≠[]->∀ p,H p=none->Q (.ref p) (upd H p (.tup (xs++ys))))
theorem Vals.nil_iff {xs:List V} {us:List Value} (r:Vals xs us):us=[]↔xs=[]:=by
 cases r with
 | nil=>simp
 | cons _ _=>simp
theorem op_catT:OpR X (binaryOp .Add) (rCatT X.K):=by
 intro pins s σ H x y v u Q I rx ry h
 obtain ⟨a,b,xs,ys,rfl,rfl,ha,hb,hx,hz,q1,q2⟩:=h
 cases rx
 cases ry
 obtain ⟨its,r1,p1,_⟩:=I.tuple ha
 obtain ⟨its2,r2,p2,_⟩:=I.tuple hb
 refine HT.cat_tup p1 p2 (fun z=>hx (r1.nil_iff.mp z)) (fun z=>⟨.ref a,H,I,rfl,q1 (r2.nil_iff.mp z)⟩) (fun z=>?_) (by rw [← r1.length,← r2.length]; exact hz)
 refine ⟨.ref s.heap.objs.size,_,I.laid (t':=s.toks) (o:=.tup (xs++ys)) (fun b ob q=>Heap.get?_push_of_some _ q) (Nat.le_refl _) ?_,rfl,q2 (fun w=>z (r2.nil_iff.mpr w)) _ (I.hok.fresh (Nat.le_refl _))⟩
 exact ⟨by rw [List.length_append]; exact hz,_,r1.append r2,IsTup.new _ _⟩
end
noncomputable def ixN (n:Nat) (i:Int):Option Nat:=if 0<=i then (if i < n then some i.toNat else none) else if -(n:Int)<=i then some (i+n).toNat else none
noncomputable def atI {α:Type} (xs:List α) (i:Int):Option α:=(ixN xs.length i).bind fun j=>xs[j]?
theorem ixN_seq {n:Nat} {i:Int} {j:Nat} (h:ixN n i=some j):seqIndex? i n=some j/\j < n/\-(n:Int)<=i/\i < n:=by
 unfold ixN at h
 by_cases h0:0<=i
 ·rw [if_pos h0] at h
  by_cases h1:i < n
  ·rw [if_pos h1] at h
   have e:i.toNat=j:=Option.some.inj h
   exact ⟨by rw [seqIndex_of h0 h1,e],by lia,by lia,h1⟩
  ·rw [if_neg h1] at h; cases h
 ·rw [if_neg h0] at h
  by_cases h1:-(n:Int)<=i
  ·rw [if_pos h1] at h
   have e:(i+n).toNat=j:=Option.some.inj h
   exact ⟨by rw [seqIndex_neg (by lia) h1,e],by lia,h1,by lia⟩
  ·rw [if_neg h1] at h; cases h
theorem atI_get {α:Type} {xs:List α} {i:Int} {v:α} (h:atI xs i=some v):∃ j,seqIndex? i xs.length=some j/\xs[j]?=some v/\j < xs.length/\-(xs.length:Int)<=i/\i < xs.length:=by
 unfold atI at h
 cases e:ixN xs.length i with
 | none=>rw [e] at h; cases h
 | some j =>
  rw [e] at h
  obtain ⟨h1,h2,h3,h4⟩:=ixN_seq e
  exact ⟨j,h1,h,h2,h3,h4⟩
noncomputable def PlainIx (b:Expr):Prop:=∀ o i,subscripted b false o i=operate [o,i] (getItem o i)
noncomputable def IxR (X:Cx) (r:R2):Prop :=
 ∀ (value slice:Expr) (pins:List (Addr×Obj)) (s:Shared) (σ:St) (H:Hp) (x y:V) (v u:Value) (Q:VK),Inv X pins σ H s->RelV x v->RelV y u->r x y H Q ->
  subscripted slice false v u=operate [v,u] (getItem v u)->wpAny (model X.prog X.w) X.A (subscriptTail value slice v u) (EP X pins σ Q) X.xe s
noncomputable def MtR (X:Cx) (id:String) (r:V->List V->Hp->VK->Prop):Prop :=
 ∀ (pins:List (Addr×Obj)) (s:Shared) (σ:St) (H:Hp) (x:V) (xs:List V) (v:Value) (us:List Value) (Q:VK),Inv X pins σ H s->RelV x v->Vals xs us->r x xs H Q ->
  wpAny (model X.prog X.w) X.A (call (.builtin id) (v :: us)) (EP X pins σ Q) X.xe s
section
variable {X:Cx} {a b:Expr} {ta tb:TE} {pos:Pos}
noncomputable def rIxL (K:PySem.W.Frag):R2:=fun x y H Q=>∃ p xs i v,x=.ref p/\y=.int i/\SqL K H p xs/\atI xs i=some v/\Q v H
noncomputable def rIxT (K:PySem.W.Frag):R2:=fun x y H Q=>∃ p xs i v,x=.ref p/\y=.int i/\SqT K H p xs/\atI xs i=some v/\Q v H
theorem ix_list:IxR X (rIxL X.K):=by
 intro value slice pins s σ H x y v u Q I rx ry h hs
 obtain ⟨p,xs,i,z,rfl,rfl,hq,he,q⟩:=h
 cases rx
 obtain ⟨t,rfl⟩:=ry
 obtain ⟨its,r,pl,hz⟩:=I.list hq
 obtain ⟨j,h1,h2,h3,h4,h5⟩:=atI_get he
 obtain ⟨w,ew,rw'⟩:=r.get h2
 have hl:=r.length
 have hn:=line63
 have fin:EP X pins σ Q w s:=⟨z,H,I,rw',q⟩
 by_cases h0:0<=i
 ·have hj:i.toNat=j:=by
   rw [seqIndex_of h0 h5] at h1
   exact Option.some.inj h1
  exact item_listR pl.isList h0 (by lia) (by rw [hj]; simpa using ew) fin hs
 ·have hj:(i+(its.toArray.size:Int)).toNat=j:=by
   rw [seqIndex_neg (by lia) h4] at h1
   rw [List.size_toArray,← hl]
   exact Option.some.inj h1
  exact subscriptTail_builtinR (x:=w) pl.isList.typeIs slot_list_getitem.lookup
   (wpAny_getItem_list_neg (Q:=fun r s'=>r=w/\EP X pins σ Q r s') pl.isList (by lia) (by rw [List.size_toArray] <;> lia) (by lia) (by rw [hj]; simpa using ew) ⟨rfl,fin⟩) hs
theorem ix_tup:IxR X (rIxT X.K):=by
 intro value slice pins s σ H x y v u Q I rx ry h hs
 obtain ⟨p,xs,i,z,rfl,rfl,hq,he,q⟩:=h
 cases rx
 obtain ⟨t,rfl⟩:=ry
 obtain ⟨its,r,pl,hz⟩:=I.tuple hq
 obtain ⟨j,h1,h2,h3,h4,h5⟩:=atI_get he
 obtain ⟨w,ew,rw'⟩:=r.get h2
 have hl:=r.length
 have hn:=line63
 have fin:EP X pins σ Q w s:=⟨z,H,I,rw',q⟩
 exact subscriptTail_builtinR (x:=w) pl.typeIs slot_tuple_getitem.lookup
  (getItem_tuple (j:=j) (Q:=fun r s'=>r=w/\EP X pins σ Q r s') pl (by lia) (by lia) (by rw [List.size_toArray,← hl]; exact h1) (by simpa using ew) ⟨rfl,fin⟩) hs
theorem mapSeq_set (its:List Value) (n j:Nat) (u:Value):Obj.mapSeq (·.setIfInBounds j u) { cls:=.type "list",data:=.seq its.toArray n } = { cls:=.type "list",data:=.seq (its.set j u).toArray n }:=by
 simp [Obj.mapSeq]
theorem Inv.lst {pins:List (Addr×Obj)} {σ:St} {H:Hp} {s:Shared} {p:Addr} {xs:List V} (I:Inv X pins σ H s) (h:H p=some (.lst xs)) :
  ∃ (its:List Value) (n:Nat),Vals xs its/\s.heap.get? p=some { cls:=.type "list",data:=.seq its.toArray n }/\xs.length<=sizeLine:=by
 obtain ⟨z,its,n,r,e⟩:=I.hok p _ h
 exact ⟨its,n,r,e,z⟩
theorem Inv.lstUpd {pins:List (Addr×Obj)} {σ:St} {H:Hp} {s:Shared} {p:Addr} {xs ys:List V} {its its':List Value} {n n':Nat} {f:Obj->Obj} (I:Inv X pins σ H s) (h:H p=some (.lst xs))
  (ho:s.heap.get? p=some { cls:=.type "list",data:=.seq its.toArray n }) (hf:f { cls:=.type "list",data:=.seq its.toArray n } = { cls:=.type "list",data:=.seq its'.toArray n' }) (r:Vals ys its') (hz:ys.length<=sizeLine) (t:Nat) :
  Inv X pins σ (upd H p (.lst ys)) { s with heap:=s.heap.update p f,toks:=t }:=by
 have e:(s.heap.update p f).get? p=some { cls:=.type "list",data:=.seq its'.toArray n' }:=by
  rw [Heap.get?_update_self f ho (by rw [hf] <;> rfl),hf]
 refine I.write (x:=p) (e:=p) (by rw [h]; trivial) (.inl rfl) (fun b u hb q=>(Heap.get?_update_other _ _ (Ne.symm hb)).trans q) ⟨_,e⟩ ?_
 exact ⟨hz,its',n',r,e⟩
noncomputable def rSetL:V->V->V->Hp->(Hp->Prop)->Prop:=fun o i v H Q=>∃ p xs k j,o=.ref p/\i=.int k/\H p=some (.lst xs)/\ixN xs.length k=some j/\Q (upd H p (.lst (xs.set j v)))
theorem set_list:PSet X rSetL:=by
 intro pins s σ H o i v ov iv u Q I ro ri rv h
 obtain ⟨p,xs,k,j,rfl,rfl,hp,hj,q⟩:=h
 cases ro
 obtain ⟨t,rfl⟩:=ri
 obtain ⟨its,n,r,ho,hz⟩:=I.lst hp
 obtain ⟨h1,h2,h3,h4⟩:=ixN_seq hj
 have hl:=r.length
 have hn:=line63
 have I':Inv X pins σ (upd H p (.lst (xs.set j v))) { s with heap:=s.heap.update p (Obj.mapSeq (·.setIfInBounds j u)) } :=
  I.lstUpd hp ho (mapSeq_set its n j u) (r.set rv j) (by rw [List.length_set]; exact hz) s.toks
 by_cases h0:0<=k
 ·have hk:k.toNat=j:=by
   rw [seqIndex_of h0 h4] at h1
   exact Option.some.inj h1
  exact PySem.W.ki_setAt ho h0 (by lia) (by rw [List.size_toArray,← hl]; exact h4) (by rw [hk]; exact ⟨_,I',q⟩)
 ·have hk:(k+(its.toArray.size:Int)).toNat=j:=by
   rw [seqIndex_neg (by lia) h3] at h1
   rw [List.size_toArray,← hl]
   exact Option.some.inj h1
  exact PySem.W.ki_setBack ho (by lia) (by rw [List.size_toArray,← hl]; exact h3) (by lia) (by rw [hk]; exact ⟨_,I',q⟩)
theorem slice_bounds (lo hi:Option Int) (n:Nat):(sliceBounds lo hi none n).1=((HT.sIx n 0 lo:Nat):Int)/\(sliceBounds lo hi none n).2.1=((HT.sIx n n hi:Nat):Int)/\(sliceBounds lo hi none n).2.2=1:=by
 refine ⟨?_,?_,rfl⟩
 ·cases lo with
  | none=>simp [sliceBounds,HT.sIx]
  | some i =>
   simp only [sliceBounds,HT.sIx,Option.getD_none,show (1:Int) > 0 by decide,if_true]
   by_cases h:i < 0
   ·simp only [h,if_true] <;> lia
   ·simp only [h,if_false] <;> lia
 ·cases hi with
  | none=>simp [sliceBounds,HT.sIx]
  | some i =>
   simp only [sliceBounds,HT.sIx,Option.getD_none,show (1:Int) > 0 by decide,if_true]
   by_cases h:i < 0
   ·simp only [h,if_true] <;> lia
   ·simp only [h,if_false] <;> lia
theorem slicePick_cut (its:List Value) (lo hi:Option Int):slicePick its.toArray lo hi none=((its.drop (HT.sIx its.length 0 lo)).take (HT.sIx its.length its.length hi - HT.sIx its.length 0 lo)).toArray:=by
 obtain ⟨h1,h2,h3⟩:=slice_bounds lo hi its.toArray.size
 unfold slicePick
 rw [h1,h2,h3]
 simp only [sliceRange_one,pick_run,List.size_toArray] <;> rfl
noncomputable def rSlL (K:PySem.W.Frag):V->Option Int->Option Int->Hp->VK->Prop:=fun x lo hi H Q=>∃ a xs,x=.ref a/\SqL K H a xs/\∀ p,H p=none->Q (.ref p) (upd H p (.lst (cutV xs lo hi)))
theorem sl_list:SlR X (rSlL X.K):=by
 intro pins s σ H x v vl vu lo hi sl Q I rx hs pl pu h
 obtain ⟨a,xs,rfl,hx,q⟩:=h
 cases rx
 obtain ⟨its,r,ht,hz⟩:=I.list hx
 have hlen:=r.length
 refine ⟨"list",_,slot_list_getitem.lookup,ht.isList.typeIs,?_⟩
 refine wpAny_getItem_list_slice ht.isList hs pl pu .none (by simp) ?_ (by rw [List.size_toArray] <;> lia)
 rw [slicePick_cut,← hlen]
 refine ⟨.ref s.heap.objs.size,_,I.laid (t':=s.toks) (o:=.lst (cutV xs lo hi)) (fun b ob q=>Heap.get?_push_of_some _ q) (Nat.le_refl _) ?_,rfl,q _ (I.hok.fresh (Nat.le_refl _))⟩
 exact ⟨Nat.le_trans (cutV_length xs lo hi) hz,_,0,(r.drop (HT.sIx xs.length 0 lo)).take (HT.sIx xs.length xs.length hi - HT.sIx xs.length 0 lo),Heap.get?_push_size _ rfl⟩
theorem call_list_of:CallR X (.type "list") (fun xs H Q=>∃ p ys,xs=[.ref p]/\(SqL X.K H p ys\/SqT X.K H p ys)/\∀ l,H l=none->Q (.ref l) (upd H l (.lst ys))):=by
 intro pins s σ H xs us Q I r h
 obtain ⟨p,ys,rfl,hq,q⟩:=h
 obtain ⟨u,rfl,rx⟩:=vals1 r
 cases rx
 have fin:∀ (its:List Value),Vals ys its->ys.length<=sizeLine->∀ (h':Heap) (c':Nat),(∀ b o',s.heap.get? b=some o'->h'.get? b=some o') ->
   h'.get? s.heap.objs.size=some { cls:=.type "list",dict:=none,data:=.seq its.toArray c',slots:=#[] }->EP X pins σ Q (.ref s.heap.objs.size) { s with heap:=h' }:=fun its r' hz h' c' kp e =>
  ⟨.ref s.heap.objs.size,_,I.laid (t':=s.toks) kp (Nat.le_refl _) (show ObjOk X.prog X.w _ h' _ (.lst ys) from ⟨hz,its,c',r',e⟩),rfl,q _ (I.hok.fresh (Nat.le_refl _))⟩
 rcases hq with hq | hq
 ·obtain ⟨its,r',pl,hz⟩:=I.list hq
  have hlen:=r'.length
  obtain ⟨o,ho,hc,n,hd⟩:=pl.isList
  exact call_list_seq p (.inl rfl) ho hc hd (fun h' c' kp e=>fin its r' hz h' c' kp e) (by simp only [List.size_toArray] <;> lia)
 ·obtain ⟨its,r',pl,hz⟩:=I.tuple hq
  have hlen:=r'.length
  obtain ⟨o,ho,hc,n,hd⟩:=pl
  exact call_list_seq p (.inr rfl) ho hc hd (fun h' c' kp e=>fin its r' hz h' c' kp e) (by simp only [List.size_toArray] <;> lia)
noncomputable def tyV (K:PySem.W.Frag) (T:String) (x:V) (H:Hp):Prop:=match x with
 | .str _=>T = "str"
 | .int _=>T = "int"
 | .ref p=>(T = "list"/\∃ xs,SqL K H p xs)\/(T = "tuple"/\∃ o,K.lookup p=some o/\o.cls=.type "tuple"/\o.dict=none) \/
   (T = "dict"/\((∃ kvs,H p=some (.dK kvs))\/∃ kvs,H p=some (.dT kvs)))\/(T = "set"/\∃ S n,H p=some (.set S n))
 | _=>False
theorem tyV_is {pins:List (Addr×Obj)} {σ:St} {H:Hp} {s:Shared} {T:String} {x:V} {v:Value} (I:Inv X pins σ H s) (r:RelV x v) (ty:tyV X.K T x H) :
  s.TypeIs v T/\∀ a,v=.ref a->∃ ob,s.heap.get? a=some ob/\ob.dict=none:=by
 cases x with
 | str z =>
  obtain ⟨t,rfl⟩:=r
  cases (show T = "str" from ty)
  exact ⟨typeIs_str s z t,fun _ e=>nomatch e⟩
 | int i =>
  obtain ⟨t,rfl⟩:=r
  cases (show T = "int" from ty)
  exact ⟨typeIs_int s i t,fun _ e=>nomatch e⟩
 | ref p =>
  cases r
  rcases ty with ⟨rfl,xs,hq⟩ | ⟨rfl,o,hk,hc,hd⟩ | ⟨rfl,hk⟩ | ⟨rfl,S,n,hk⟩
  ·obtain ⟨its,_,pl,_⟩:=I.list hq
   refine ⟨pl.isList.typeIs,fun a e=>?_⟩
   cases e
   obtain ⟨o,n,e,c,hd,_⟩:=pl
   exact ⟨o,e,hd⟩
  ·refine ⟨⟨o,I.kIn p o hk,hc⟩,fun a e=>?_⟩
   cases e
   exact ⟨o,I.kIn _ o hk,hd⟩
  ·have z:∃ o,s.heap.get? p=some o/\o.ExactDict:=by
    rcases hk with ⟨kvs,hk⟩ | ⟨kvs,hk⟩
    ·obtain ⟨_,_,_,_,o,_,_,e,ex,_⟩:=I.hok p _ hk
     exact ⟨o,e,ex⟩
    ·obtain ⟨_,_,_,_,o,_,_,e,ex,_⟩:=I.hok p _ hk
     exact ⟨o,e,ex⟩
   obtain ⟨o,e,ex⟩:=z
   refine ⟨⟨o,e,ex.1⟩,fun a e2=>?_⟩
   cases e2
   exact ⟨o,e,ex.2.1⟩
  ·obtain ⟨o,_,_,_,e,ex,_⟩:=I.hok p _ hk
   refine ⟨⟨o,e,ex.1⟩,fun a e2=>?_⟩
   cases e2
   exact ⟨o,e,ex.2.1⟩
 | _=>exact False.elim ty
variable {o e:Expr} {es:List Expr} {to:TE} {t:TA} {name:Str} {apos cpos:Pos} {T id:String} {r:V->List V->Hp->VK->Prop}
/- xs.append(e),list.index on a module's tuple .. are MtR facts of 06m -/
end
noncomputable def MtM (X:Cx) (id:String) (r:V->List V->Hp->VK->Prop):Prop :=
 ∀ (pins:List (Addr×Obj)) (s:Shared) (σ:St) (H:Hp) (x:V) (xs:List V) (v:Value) (us:List Value) (Q:VK),Inv X pins σ H s->RelV x v->Vals xs us->r x xs H Q ->
  wpAny (model X.prog X.w) X.A (call (.builtin id) (v :: us)) (EP X pins σ Q) X.xe s
theorem Vals.one:∀ {x:V} {us:List Value},Vals [x] us->∃ u,us=[u]/\RelV x u:=by
 intro x us h
 cases h with
 | cons r t=>cases t; exact ⟨_,rfl,r⟩
section
variable {X:Cx} {pins:List (Addr×Obj)} {σ:St} {H:Hp} {s:Shared} {l b:Addr} {xs ys zs:List V}
theorem Inv.lset {its its':List Value} {n:Nat} {f:Array Value->Array Value} {t':Nat} (I:Inv X pins σ H s) (hH:H l=some (.lst xs))
  (e:s.heap.get? l=some { cls:=.type "list",data:=.seq its.toArray n }) (hf:f its.toArray=its'.toArray) (hv:Vals ys its') (hz:ys.length<=sizeLine) :
  Inv X pins σ (upd H l (.lst ys)) { s with heap:=s.heap.update l (Obj.mapSeq f),toks:=t' }:=by
 have q:=PySem.IsL.update e f
 rw [hf] at q
 refine I.write (x:=l) (e:=l) (by rw [hH]; exact trivial) (.inl rfl) (fun b' u hb hu=>(Heap.get?_update_other s.heap (Obj.mapSeq f) (Ne.symm hb)).trans hu) ⟨_,q⟩ ?_
 exact ⟨hz,its',_,hv,q⟩
theorem Inv.lnew {its:List Value} {t':Nat} (I:Inv X pins σ H s) (hv:Vals ys its) (hz:ys.length<=sizeLine) :
  Inv X pins σ (upd H s.heap.objs.size (.lst ys)) { s with heap:=s.heap.push { cls:=.type "list",data:=.seq its.toArray },toks:=t' } :=
 I.laid (fun _ _ q=>Heap.get?_push_of_some _ q) (Nat.le_refl _) ⟨hz,its,0,hv,Heap.get?_push_size _ rfl⟩
theorem Inv.lstM (I:Inv X pins σ H s) (hH:H l=some (.lst xs)):xs.length<=sizeLine/\∃ (its:List Value) (n:Nat),Vals xs its/\xs.length=its.length/\s.heap.get? l=some { cls:=.type "list",data:=.seq its.toArray n }:=by
 obtain ⟨z,its,n,r,e⟩:=I.hok l _ hH
 exact ⟨z,its,n,r,r.length,e⟩
theorem notLongL {n:Nat} (h:n<=sizeLine):Builtin.List.listTooLong n=false:=by
 unfold Builtin.List.listTooLong
 exact decide_eq_false (by lia)
end
section
variable {X:Cx}
noncomputable def rAppend:V->List V->Hp->VK->Prop:=fun x vs H Q=>∃ l xs y,x=.ref l/\vs=[y]/\H l=some (.lst xs)/\xs.length < sizeLine/\Q .non (upd H l (.lst (xs++[y])))
theorem mt_append:MtM X "list.append" rAppend:=by
 intro pins s σ H x vs v us Q I rx rv h
 obtain ⟨l,xs,y,rfl,rfl,hH,hz,q⟩:=h
 cases rx
 obtain ⟨u,rfl,ru⟩:=rv.one
 obtain ⟨z,its,n,r,hl,e⟩:=I.lstM hH
 refine call_meets F.slot_list_append ⟨_,e,rfl⟩ F.entry_list_append (F.args_list_append_2 _ _) (PySem.list_append l its.toArray n u (by rw [List.size_toArray]; lia)) ⟨e,?_⟩
 refine ⟨.non,_,I.lset (its':=its++[u]) hH e (by simp) (r.append (.cons ru .nil)) ?_,rfl,q⟩
 rw [List.length_append,List.length_singleton]
 lia
end
section
variable {κ:Type} [DecidableEq κ]
noncomputable def valV (kvs:List (κ×V)) (k:κ):Option V:=(kvs.find? fun kv=>decide (kv.1=k)).map (·.2)
noncomputable def putK (kvs:List (κ×V)) (k:κ) (v:V):List (κ×V) :=
 if (kvs.any fun kv=>decide (kv.1=k))=true then kvs.map (fun kv=>if kv.1=k then (kv.1,v) else kv) else kvs++[(k,v)]
theorem valV_pos {p:κ×V} {r:List (κ×V)} {k:κ} (e:p.1=k):valV (p :: r) k=some p.2:=by simp [valV,List.find?_cons,e]
theorem valV_neg {p:κ×V} {r:List (κ×V)} {k:κ} (e:¬ p.1=k):valV (p :: r) k=valV r k:=by simp [valV,List.find?_cons,e]
theorem valV_any (k:κ):∀ kvs:List (κ×V),(kvs.any fun kv=>decide (kv.1=k))=(valV kvs k).isSome
 | []=>rfl
 | p :: r=>by
  rw [List.any_cons]
  by_cases e:p.1=k
  ·simp only [valV_pos e,decide_eq_true e,Bool.true_or,Option.isSome_some]
  ·rw [valV_neg e,decide_eq_false e,Bool.false_or]; exact valV_any k r
theorem length_putK (kvs:List (κ×V)) (k:κ) (v:V):(putK kvs k v).length<=kvs.length+1:=by
 unfold putK
 split
 ·rw [List.length_map]; lia
 ·rw [List.length_append,List.length_cons,List.length_nil]; lia
theorem RelO.isSome_eq {o:Option V} {u:Option Value} (r:RelO o u):o.isSome=u.isSome:=by
 cases o with
 | none=>cases u with
  | none=>rfl
  | some _=>exact (show False from r).elim
 | some _=>cases u with
  | none=>exact (show False from r).elim
  | some _=>rfl
theorem KV.val {kvs:List (κ×V)} {vs:List (κ×Value)} (r:KV kvs vs) (k:κ):RelO (valV kvs k) (valueAt vs k):=by
 unfold KV at r
 induction r with
 | nil=>exact True.intro
 | @cons p q ps qs h t ih =>
  obtain ⟨h1,h2⟩:=h
  by_cases e:p.1=k
  ·have e':q.1=k:=h1.symm.trans e
   have b:valueAt (q :: qs) k=some q.2:=by simp [valueAt,List.find?_cons,e']
   rw [valV_pos e,b]; exact h2
  ·have e':¬ q.1=k:=fun z=>e (h1.trans z)
   have b:valueAt (q :: qs) k=valueAt qs k:=by simp [valueAt,List.find?_cons,e']
   rw [valV_neg e,b]; exact ih
theorem KV.any {kvs:List (κ×V)} {vs:List (κ×Value)} (r:KV kvs vs) (k:κ):(kvs.any fun kv=>decide (kv.1=k))=vs.any fun kv=>decide (kv.1=k):=by
 unfold KV at r
 induction r with
 | nil=>rfl
 | cons h t ih=>rw [List.any_cons,List.any_cons,ih,h.1]
theorem KV.repl {kvs:List (κ×V)} {vs:List (κ×Value)} (r:KV kvs vs) (k:κ) {y:V} {u:Value} (ry:RelV y u) :
  KV (kvs.map fun kv=>if kv.1=k then (kv.1,y) else kv) (vs.map fun kv=>if kv.1=k then (kv.1,u) else kv):=by
 unfold KV at r ⊢
 induction r with
 | nil=>exact .nil
 | @cons p q ps qs h t ih =>
  rw [List.map_cons,List.map_cons]
  refine .cons ?_ ih
  obtain ⟨h1,h2⟩:=h
  by_cases e:p.1=k
  ·rw [if_pos e,if_pos (h1.symm.trans e)]; exact ⟨h1,ry⟩
  ·rw [if_neg e,if_neg (fun z=>e (h1.trans z))]; exact ⟨h1,h2⟩
theorem KV.put {kvs:List (κ×V)} {vs:List (κ×Value)} (r:KV kvs vs) (k:κ) {y:V} {u:Value} (ry:RelV y u):KV (putK kvs k y) (stored vs k u):=by
 unfold putK stored
 rw [r.any k]
 by_cases e:(vs.any fun kv=>decide (kv.1=k))=true
 ·rw [if_pos e,if_pos e]; exact r.repl k ry
 ·rw [if_neg e,if_neg e]; exact Paired.snoc r ⟨rfl,ry⟩
theorem KV.length {kvs:List (κ×V)} {vs:List (κ×Value)} (r:KV kvs vs):kvs.length=vs.length:=Paired.length r
end
theorem kV_is {P:Program} {w:World} {k:Key} {u:Value} (r:RelV (kV k) u):(mixKind P w).is k u=true:=by
 cases k with
 | inl i=>obtain ⟨t,e⟩:=(show ∃ t,u=Value.int i t from r); subst e; exact mixKind_int P w i t
 | inr x=>obtain ⟨t,e⟩:=(show ∃ t,u=Value.str x t from r); subst e; exact mixKind_str P w x t
theorem items_are {P:Program} {w:World}:∀ {ks:List Key} {us:List Value},Vals (ks.map kV) us->ItemsAre (mixKind P w) ks us
 | [],_,r=>by rw [List.map_nil] at r; cases r; exact .nil
 | k :: ks,_,r=>by
  rw [List.map_cons] at r
  cases r with
  | cons h t=>exact .cons (kV_is h) (items_are t)
noncomputable abbrev KT (H:Hp):List (List Key×V)->List (List Key×Addr×Value)->Prop:=Paired fun p q=>p.1=q.1/\H q.2.1=some (.tup (p.1.map kV))/\RelV p.2 q.2.2
theorem KT.val {H:Hp} {kvs:List (List Key×V)} {xs:List (List Key×Addr×Value)} (r:KT H kvs xs) (k:List Key):RelO (valV kvs k) ((atKey xs k).map (·.2)):=by
 induction r with
 | nil=>exact True.intro
 | @cons p q ps qs h t ih =>
  obtain ⟨h1,_,h2⟩:=h
  by_cases e:p.1=k
  ·have e':q.1=k:=h1.symm.trans e
   have b:atKey (q :: qs) k=some q.2:=by simp [atKey,List.find?_cons,e']
   rw [valV_pos e,b]; exact h2
  ·have e':¬ q.1=k:=fun z=>e (h1.trans z)
   have b:atKey (q :: qs) k=atKey qs k:=by simp [atKey,List.find?_cons,e']
   rw [valV_neg e,b]; exact ih
theorem KT.repl {H:Hp} {kvs:List (List Key×V)} {xs:List (List Key×Addr×Value)} (r:KT H kvs xs) (k:List Key) {y:V} {u:Value} (ry:RelV y u) :
  KT H (kvs.map fun kv=>if kv.1=k then (kv.1,y) else kv) (xs.map (putAt k u)):=by
 induction r with
 | nil=>exact .nil
 | @cons p q ps qs h t ih =>
  rw [List.map_cons,List.map_cons]
  refine .cons ?_ ih
  obtain ⟨h1,h2,h3⟩:=h
  unfold putAt
  by_cases e:p.1=k
  ·rw [if_pos e,if_pos (h1.symm.trans e)]; exact ⟨h1,h2,ry⟩
  ·rw [if_neg e,if_neg (fun z=>e (h1.trans z))]; exact ⟨h1,h2,h3⟩
theorem KT.put {H:Hp} {kvs:List (List Key×V)} {xs:List (List Key×Addr×Value)} (r:KT H kvs xs) (k:List Key) {b:Addr} {y:V} {u:Value} (hb:H b=some (.tup (k.map kV))) (ry:RelV y u) :
  KT H (putK kvs k y) (storedH xs k b u):=by
 have e:(kvs.any fun kv=>decide (kv.1=k))=(atKey xs k).isSome:=by
  rw [valV_any,(r.val k).isSome_eq,Option.isSome_map]
 unfold putK storedH
 rw [e]
 by_cases q:(atKey xs k).isSome=true
 ·rw [if_pos q,if_pos q]; exact r.repl k ry
 ·rw [if_neg q,if_neg q]; exact Paired.snoc r ⟨rfl,hb,ry⟩
theorem KT.keeps {H H':Hp} {kvs:List (List Key×V)} {xs:List (List Key×Addr×Value)} (r:KT H kvs xs) (ht:∀ b ys,H b=some (.tup ys)->H' b=some (.tup ys)):KT H' kvs xs :=
 Paired.mapP r fun _ _ z=>⟨z.1,ht _ _ z.2.1,z.2.2⟩
section
variable {P:Program} {w:World} {H:Hp} {h:Heap} {a:Addr}
theorem rd_of {u:HO} (ok:HOk P w H h) (e:Rd H a u):ObjOk P w H h a u:=e.ok ok
theorem dk_rd {kvs:List (Key×V)} (ok:HOk P w H h) (e:Rd H a (.dK kvs)):kvs.length<=sizeLine/\(a == sysModules)=false/\∃ vs,KV kvs vs/\h.DictOf (mixKind P w) a vs :=
 show ObjOk P w H h a (.dK kvs) from rd_of ok e
theorem dk_of {kvs:List (Key×V)} (ok:HOk P w H h) (e:H a=some (.dK kvs)):kvs.length<=sizeLine/\(a == sysModules)=false/\∃ vs,KV kvs vs/\h.DictOf (mixKind P w) a vs:=dk_rd ok (.inl e)
theorem key_of {ks:List Key} (ok:HOk P w H h) (e:H a=some (.tup (ks.map kV))):(tupleKind (mixKind P w)).is h ks a:=by
 obtain ⟨_,its,r,o,h1,h2,n,h3⟩:=(show ObjOk P w H h a (.tup (ks.map kV)) from ok a _ e)
 exact ⟨o,its.toArray,n,h1,h2,h3,by simpa using items_are r⟩
theorem dt_rd {kvs:List (List Key×V)} (ok:HOk P w H h) (e:Rd H a (.dT kvs)):kvs.length<=sizeLine/\(a == sysModules)=false /\
  ∃ xs,KT H kvs xs/\h.DictOfH (tupleKind (mixKind P w)) a xs:=by
 obtain ⟨z,y,xs,r,o,es,ep,h1,h2,h3,h4,h5⟩:=(show ObjOk P w H h a (.dT kvs) from rd_of ok e)
 refine ⟨z,y,xs,r,o,es,ep,h1,h2,h3,h4,fun x hx=>?_,h5⟩
 have all:∀ {l:List (List Key×V)} {m:List (List Key×Addr×Value)},KT H l m->∀ x∈m,(tupleKind (mixKind P w)).is h x.1 x.2.1:=by
  intro l m q
  induction q with
  | nil=>intro x hx; exact nomatch hx
  | @cons p q ps qs hq t ih =>
   intro x hx
   rcases List.mem_cons.mp hx with e | hx
   ·subst e
    exact key_of ok (by rw [← hq.1]; exact hq.2.1)
   ·exact ih x hx
 exact all r x hx
theorem dt_of {kvs:List (List Key×V)} (ok:HOk P w H h) (e:H a=some (.dT kvs)):kvs.length<=sizeLine/\(a == sysModules)=false /\
  ∃ xs,KT H kvs xs/\h.DictOfH (tupleKind (mixKind P w)) a xs:=dt_rd ok (.inl e)
end
noncomputable def DGet (H:Hp) (a:Addr) (y:V) (r:Option V):Prop :=
 (∃ kvs k,Rd H a (.dK kvs)/\y=kV k/\r=valV kvs k)\/∃ kvs k b,Rd H a (.dT kvs)/\y=.ref b/\H b=some (.tup (k.map kV))/\r=valV kvs k
noncomputable def DPut (H:Hp) (a:Addr) (y v:V) (H':Hp):Prop :=
 (∃ kvs k,H a=some (.dK kvs)/\y=kV k/\kvs.length < sizeLine/\H'=upd H a (.dK (putK kvs k v))) \/
 ∃ kvs k b,H a=some (.dT kvs)/\y=.ref b/\H b=some (.tup (k.map kV))/\kvs.length < sizeLine/\H'=upd H a (.dT (putK kvs k v))
theorem DGet.k {H:Hp} {a:Addr} {kvs:List (Key×V)} {k:Key} (e:H a=some (.dK kvs)):DGet H a (kV k) (valV kvs k):=.inl ⟨kvs,k,.inl e,rfl,rfl⟩
theorem DGet.t {H:Hp} {a b:Addr} {kvs:List (List Key×V)} {k:List Key} (e:H a=some (.dT kvs)) (eb:H b=some (.tup (k.map kV))):DGet H a (.ref b) (valV kvs k):=.inr ⟨kvs,k,b,.inl e,rfl,eb,rfl⟩
theorem DPut.k {H:Hp} {a:Addr} {kvs:List (Key×V)} {k:Key} {v:V} (e:H a=some (.dK kvs)) (hl:kvs.length < sizeLine):DPut H a (kV k) v (upd H a (.dK (putK kvs k v))):=.inl ⟨kvs,k,e,rfl,hl,rfl⟩
theorem DPut.t {H:Hp} {a b:Addr} {kvs:List (List Key×V)} {k:List Key} {v:V} (e:H a=some (.dT kvs)) (eb:H b=some (.tup (k.map kV))) (hl:kvs.length < sizeLine) :
  DPut H a (.ref b) v (upd H a (.dT (putK kvs k v))):=.inr ⟨kvs,k,b,e,rfl,eb,hl,rfl⟩
section
variable {X:Cx} {pins:List (Addr×Obj)} {σ:St} {H:Hp} {s:Shared} {a:Addr} {y v:V} {u r:Value} {o:Option V} {A:Around} {E:Value->Shared->Prop}
theorem Inv.big (I:Inv X pins σ H s):sysModules < s.heap.objs.size:=by
 have h:mainGlobals < s.heap.objs.size:=(I.mod.glob.keeps I.bk).lt
 exact Nat.lt_trans (by decide) h
theorem d_getItem {Q:Value->Shared->Prop} (hu:A.units+1 < cLine) (I:Inv X pins σ H s) (g:DGet H a y (some v)) (ry:RelV y u) (h:∀ w' s',Inv X pins σ H s'->RelV v w'->Q w' s') :
  wpAny (model X.prog X.w) A (getItem (.ref a) u) Q E s:=by
 rcases g with ⟨kvs,k,e,ey,l⟩ | ⟨kvs,k,b,e,ey,eb,l⟩
 ·subst ey
  obtain ⟨z,hd,vs,rel,dd⟩:=dk_rd I.hok e
  obtain ⟨w',hw,rw'⟩:=RelO.some_of (v:=v) (o:=valueAt vs k) (by rw [l]; exact rel.val k)
  exact wpAny_getItem_of (kV_is ry) dd.mapOf hw (h w' _ (I.tok _) rw')
 ·subst ey
  cases (show u=Value.ref b from ry)
  obtain ⟨z,hd,xs,rel,dd⟩:=dt_rd I.hok e
  obtain ⟨w',hw,rw'⟩:=RelO.some_of (v:=v) (o:=(atKey xs k).map (·.2)) (by rw [l]; exact rel.val k)
  obtain ⟨p,hp,hp2⟩:=Option.map_eq_some_iff.mp hw
  refine wpAny_getItem_heap (tupleKind_room_in1 hu) (key_of I.hok eb) dd hp ?_
  rw [hp2]
  exact h w' _ (I.tok _) rw'
theorem d_in {Q:Value->Shared->Prop} (hu:A.units+1 < cLine) (I:Inv X pins σ H s) (g:DGet H a y o) (ry:RelV y u) (h:∀ s',Inv X pins σ H s'->Q (.bool o.isSome) s') :
  wpAny (model X.prog X.w) A (compareOp .In u (.ref a)) Q E s:=by
 rcases g with ⟨kvs,k,e,ey,l⟩ | ⟨kvs,k,b,e,ey,eb,l⟩
 ·subst ey
  obtain ⟨z,hd,vs,rel,dd⟩:=dk_rd I.hok e
  refine wpAny_in_of (kV_is ry) hd dd.mapOf ?_
  rw [← (rel.val k).isSome_eq,← l]
  exact h _ (I.tok _)
 ·subst ey
  cases (show u=Value.ref b from ry)
  obtain ⟨z,hd,xs,rel,dd⟩:=dt_rd I.hok e
  refine wpAny_in_heap (tupleKind_room_in1 hu) (key_of I.hok eb) hd dd ?_
  have q:=(rel.val k).isSome_eq
  rw [Option.isSome_map] at q
  rw [← q,← l]
  exact h _ (I.tok _)
theorem d_notIn {Q:Value->Shared->Prop} (hu:A.units+1 < cLine) (I:Inv X pins σ H s) (g:DGet H a y o) (ry:RelV y u) (h:∀ s',Inv X pins σ H s'->Q (.bool (!o.isSome)) s') :
  wpAny (model X.prog X.w) A (compareOp .NotIn u (.ref a)) Q E s:=by
 rcases g with ⟨kvs,k,e,ey,l⟩ | ⟨kvs,k,b,e,ey,eb,l⟩
 ·subst ey
  obtain ⟨z,hd,vs,rel,dd⟩:=dk_rd I.hok e
  refine wpAny_notIn_of (kV_is ry) hd dd.mapOf ?_
  rw [← (rel.val k).isSome_eq,← l]
  exact h _ (I.tok _)
 ·subst ey
  cases (show u=Value.ref b from ry)
  obtain ⟨z,hd,xs,rel,dd⟩:=dt_rd I.hok e
  refine wpAny_notIn_heap (tupleKind_room_in1 hu) (key_of I.hok eb) hd dd ?_
  have q:=(rel.val k).isSome_eq
  rw [Option.isSome_map] at q
  rw [← q,← l]
  exact h _ (I.tok _)
theorem d_write {h':Heap} {t':Nat} {ob:HO} (I:Inv X pins σ H s) (mu:Mut (H a)) (hs:Heap.SameBut a s.heap h') (he:∃ q,h'.get? a=some q) (new:ObjOk X.prog X.w (upd H a ob) h' a ob) :
  Inv X pins σ (upd H a ob) { s with heap:=h',toks:=t' } :=
 I.write (x:=a) (e:=a) mu (.inl rfl) (fun b q hb z=>(hs.2 b hb).trans z) he new
theorem dk_new {P:Program} {w:World} {H':Hp} {h':Heap} {kvs:List (Key×V)} {vs:List (Key×Value)} (z:kvs.length<=sizeLine) (hd:(a == sysModules)=false) (rel:KV kvs vs) (dd:h'.DictOf (mixKind P w) a vs) :
  ObjOk P w H' h' a (.dK kvs):=⟨z,hd,vs,rel,dd⟩
theorem d_setItem {H':Hp} {Q:Unit->Shared->Prop} (hu:A.units+1 < cLine) (I:Inv X pins σ H s) (g:DPut H a y v H') (ry:RelV y u) (rv:RelV v r) (h:∀ s',Inv X pins σ H' s'->Q () s') :
  wpAny (model X.prog X.w) A (setItem (.ref a) u r) Q E s:=by
 rcases g with ⟨kvs,k,e,ey,l,eH⟩ | ⟨kvs,k,b,e,ey,eb,l,eH⟩
 ·subst ey eH
  obtain ⟨z,hd,vs,rel,dd⟩:=dk_of I.hok e
  have hz:vs.length<=sizeLine:=by rw [← rel.length]; exact z
  have hl:(putK kvs k v).length<=sizeLine:=by have:=length_putK kvs k v; lia
  refine wpAny_setItem_pairs (hsz:=hz) (kV_is ry) dd fun h' dd' hs=>h _ ?_
  have he:∃ q,h'.get? a=some q:=let ⟨q,_,_,hq,_⟩:=dd'; ⟨q,hq⟩
  exact d_write I (by rw [e]; exact True.intro) hs he (dk_new hl hd (rel.put k rv) dd')
 ·subst ey eH
  cases (show u=Value.ref b from ry)
  obtain ⟨z,hd,xs,rel,dd⟩:=dt_of I.hok e
  have hz:xs.length<=sizeLine:=by rw [← Paired.length rel]; exact z
  have hl:(putK kvs k v).length<=sizeLine:=by have:=length_putK kvs k v; lia
  refine wpAny_setItem_heap (hsz:=hz) (tupleKind_room_in1 hu) (key_of I.hok eb) dd fun h' dd' hs=>h _ ?_
  obtain ⟨q,es,ep,hq,h2,h3,h4,_,h5⟩:=dd'
  refine d_write I (by rw [e]; exact True.intro) hs ⟨q,hq⟩ ⟨hl,hd,_,(rel.put k eb rv).keeps fun c ys ec=>?_,q,es,ep,hq,h2,h3,h4,h5⟩
  rw [upd_ne (ne_of ec e (fun z=>nomatch z))]
  exact ec
end
section
variable {X:Cx} {pins:List (Addr×Obj)} {σ:St} {H:Hp} {s:Shared} {a:Addr} {kvs:List (Key×V)} {k:Key} {u:Value} {A:Around} {E:Value->Shared->Prop}
theorem d_len {Q:Value->Shared->Prop} (I:Inv X pins σ H s) (e:Rd H a (.dK kvs)) (h:∀ t s',Inv X pins σ H s'->Q (.int kvs.length t) s'):wpAny (model X.prog X.w) A (call (.builtin "len") [.ref a]) Q E s:=by
 obtain ⟨z,hd,vs,rel,dd⟩:=dk_rd I.hok e
 refine call_len_dict hd dd (by rw [← rel.length]; rw [sizeLine_eq] at z; lia) ?_
 rw [← rel.length]
 exact h _ _ (I.tok _)
theorem d_truth {Q:Bool->Shared->Prop} (I:Inv X pins σ H s) (e:Rd H a (.dK kvs)) (h:∀ s',Inv X pins σ H s'->Q (!kvs.isEmpty) s'):wpAny (model X.prog X.w) A (truthy (.ref a)) Q E s:=by
 obtain ⟨z,hd,vs,rel,dd⟩:=dk_rd I.hok e
 refine wpAny_truthy_dict hd dd (by rw [← rel.length]; rw [sizeLine_eq] at z; lia) ?_
 have q:kvs.isEmpty=vs.isEmpty:=by cases rel <;> rfl
 rw [← q]
 exact h _ (I.tok _)
end
theorem dict_typeIs {X:Cx} {pins:List (Addr×Obj)} {σ:St} {H:Hp} {s:Shared} {a:Addr} {y:V} {o:Option V} (I:Inv X pins σ H s) (g:DGet H a y o):s.TypeIs (.ref a) "dict":=by
 rcases g with ⟨kvs,k,e,_,_⟩ | ⟨kvs,k,b,e,_,_,_⟩
 ·obtain ⟨_,_,vs,_,dd⟩:=dk_rd I.hok e
  exact dd.typeIs
 ·obtain ⟨_,_,xs,_,dd⟩:=dt_rd I.hok e
  exact dd.typeIs
theorem dk_empty {P:Program} {w:World} {H:Hp} (h:Heap) (hb:sysModules < h.objs.size):ObjOk P w H (h.push { cls:=.type "dict",data:=.dict #[] }) h.objs.size (.dK []) :=
 ⟨Nat.zero_le _,beq_eq_false_iff_ne.mpr (Ne.symm (Nat.ne_of_lt hb)),[],.nil,Heap.DictOf.new h⟩
noncomputable def tDNewK:TE:=fun _ H Q=>∀ p,H p=none->Q (.ref p) (upd H p (.dK []))
section
variable {X:Cx} {pos:Pos}
theorem pe_dnewK:PE X (.Dict [] [] pos) tDNewK:=fun pins s σ H Q I h =>
 wpAny_Dict_empty ⟨.ref s.heap.objs.size,_,I.laid (a:=s.heap.objs.size) (o:=.dK []) (t':=s.toks) (fun _ _ q=>Heap.get?_push_of_some _ q) (Nat.le_refl _) (dk_empty s.heap I.big),rfl,h _ (I.hok.fresh (Nat.le_refl _))⟩
end
structure M1 (X:Cx) (o:Expr) (m:Str) (apos:Pos) (e:Expr) (cpos:Pos):Prop where
 base:attributeBase o m X.env (eval o X.env)=eval o X.env
 few:((backTo cpos (starEach [e] X.env)).all (fun x=>!x.1)&&(backToKw cpos (keywordEach [] X.env)).all (fun x=>x.1.isSome)
  && decide (([e]:List Expr).length+([]:List Keyword).length+(if ([]:List Keyword).isEmpty then 0 else 1) < 30))=true
 line:(apos.endLine == cpos.line)=true
 trees:backTo cpos (starEach [e] X.env)=[(false,eval e X.env)]
structure M2 (X:Cx) (o:Expr) (m:Str) (apos:Pos) (e f:Expr) (cpos:Pos):Prop where
 base:attributeBase o m X.env (eval o X.env)=eval o X.env
 few:((backTo cpos (starEach [e,f] X.env)).all (fun x=>!x.1)&&(backToKw cpos (keywordEach [] X.env)).all (fun x=>x.1.isSome)
  && decide (([e,f]:List Expr).length+([]:List Keyword).length+(if ([]:List Keyword).isEmpty then 0 else 1) < 30))=true
 line:(apos.endLine == cpos.line)=true
 trees:backTo cpos (starEach [e,f] X.env)=[(false,eval e X.env),(false,eval f X.env)]
end L2
namespace Att
open PySem PySem.W PySem.Calls PyProof.Rows
theorem ints_of_wellAll {P:Params} {h:Heap}:∀ (ns:List Int) (vs:List Value),WellAll P h vs (ns.map WData.int)->IntsAre vs ns:=by
 intro ns
 induction ns with
 | nil =>
  intro vs w
  rw [List.map_nil] at w
  cases w
  exact .nil
 | cons n ns ih =>
  intro vs w
  rw [List.map_cons] at w
  cases w with
  | cons a b =>
   cases a
   exact .cons _ _ (ih _ b)
theorem script_of {l:OpenLaw} {n:Nat} (hn:l.most=some n) {P:Params} {h:Heap} {args:List WData} {vals:List Value}
  (hpre:l.row.toRowW.claim.pre args=true) (hwl:WellAll P h vals args) :
  ∃ a vs ns,vals=[Value.ref a]/\args=[WData.list (ns.map WData.int)]/\h.get? a=some { cls:=.type "list",data:=.seq vs.toArray }/\IntsAre vs ns/\ns.length<=n:=by
 have hsh:WShape.hasAll [] args [.list .int]=true:=(pre_splitW hpre).1
 have hc:l.pre.holds [] { args:=args } = true:=(pre_splitW hpre).2
 obtain ⟨d,r,rfl,h1,h2⟩:=hasAllW_cons hsh
 obtain rfl:=hasAllW_nil h2
 obtain ⟨xs,rfl,h3⟩:=hasW_list h1
 obtain ⟨ns,rfl⟩:=items_int h3
 have hlen:ns.length<=n:=by
  unfold OpenLaw.pre at hc
  have h4:(WTm.not (.lt (.lit (.int (n:Int))) (.len (.arg 0)))).holds [] { args:=[.list (ns.map .int)] } = true:=by
   have h4:=(holds_andW hc).1
   rw [hn] at h4
   exact h4
  have h5:=condW_of h4 (w_not (w_lt w_lit (w_len_list (w_arg rfl))))
  rw [List.length_map] at h5
  refine Nat.le_of_not_lt fun q=>?_
  have q':(n:Int) < ((ns.length:Nat):Int):=by lia
  first
   | (rw [decide_eq_true q'] at h5; exact absurd h5 (by decide))
   | (simp at h5; lia)
 cases hwl with
 | cons w1 w2 =>
  cases w2
  cases w1 with
  | list ho hall=>exact ⟨_,_,ns,rfl,rfl,ho,ints_of_wellAll ns _ hall,hlen⟩
theorem post_true (l:OpenLaw) (args:List WData):l.row.toRowW.claim.post args (.bool true) args=true :=
 postW_of (r:=l.row.toRowW) (X:=(true == true))
  (show WShape.has [] (.bool true) .bool=true by first | rfl | decide | simp [WShape.has,WShape.arms,WShape.armsAll])
  (show (WTm.eq .res (.lit (.bool true))).value [] { args:=args,res:=some (.bool true),after:=args } = some (.bool (true == true)) from w_eq_bool (w_res rfl) w_lit) rfl
theorem attach_call {l:OpenLaw} {n:Nat} {q:Program} {loose:List Str} {XP:(Str->Option Value)->Heap->Prop} {YP:World->Heap->Prop} {d:DefRec}
  (hn:l.most=some n) (hdf:d.params.defaults=[])
  (call:∀ (w:World) (s₀ s₁:Shared) (mg mb:Str->Option Value) (fa:Addr) (o:Obj) (pm cd doc:Value) (a:Addr) (vs:List Value) (ns:List Int),
   Ground q loose [] XP w s₀ mg mb s₁.heap->YP w s₁.heap ->
   s₁.heap.get? fa=some o->o.data=.func (docDef d.name d.params d.body d.scope pm cd doc)->s₁.heap.CodeRec cd d.name->mg d.name=some (.ref fa) ->
   s₁.heap.get? a=some { cls:=.type "list",data:=.seq vs.toArray }->IntsAre vs ns->ns.length<=n->s₁.gens=#[] ->
   codeAny (model l.prog w) callerA (.call (.ref fa) ⟨[.ref a],[]⟩) (fun r s'=>r=.ok (.ret (.bool true))/\OldK s₁.heap s'.heap/\s'.os=s₁.os/\AllBare s'.gens) s₁) :
  WalkO q loose XP YP l.row.toRowW d [] (fun f vs=>PySem.call f vs):=by
 intro w s₀ s₁ mg mb G Y fa o pm cd doc dV kV ho hd hcd hD hmg hg args vals as hpre hlay hrd hwl hlo
 obtain rfl:dV=.none:=Dflts.none hD hdf
 obtain rfl:kV=.none:=Dflts.noKw hD
 obtain ⟨a,vs,ns,rfl,rfl,hobj,hints,hlen⟩:=script_of hn hpre hwl
 refine enter_call (codeAny_mono (call w s₀ s₁ mg mb fa o pm cd doc a vs ns G Y ho (fd_plain hd) hcd hmg hobj hints hlen hg) fun r s' hq=>?_)
 obtain ⟨rfl,h2,h3,h4⟩:=hq
 exact ⟨.inl ⟨.bool true,.bool true,[],rfl,fun _=>rfl,.bool true,post_true l _,fun _=>⟨List.Pairwise.nil,fun _ hm=>(nomatch hm)⟩⟩,h2,h3,h4⟩
end Att
namespace L2
open PySem PySem.Spec PyProof.Rows
theorem vals_ints:∀ {vs:List Value} {ns:List Int},IntsAre vs ns->Vals (ns.map V.int) vs
 | _,_,.nil=>.nil
 | _,_,.cons n t h=>.cons ⟨t,rfl⟩ (vals_ints h)
noncomputable def Only (H:Hp):Prop:=∀ b,H b=none\/∃ o xs,H b=some (.frz o (.lst xs))
theorem law_call {P:Program} {w:World} {K:PySem.W.Frag} {mg mb:Str->Option Value} {CX:CXT} {k:Nat} {fa a:Addr} {fd:FuncData} {x:Str} {sp:Sp} {s₁:Shared} {vs:List Value} {ns:List Int}
  (KX:K.In s₁.heap) (hns:s₁.heap.Ns mainGlobals mg) (hb:s₁.heap.Ns builtinsNs mb) (hbb:∀ x:Str,x≠"__name__"->mb x=bootBuiltins x) (hlim:s₁.heap.NoLimit) (hg:s₁.gens=#[])
  (ha:s₁.heap.get? a=some { cls:=.type "list",data:=.seq vs.toArray }) (hi:IntsAre vs ns) (hl:ns.length<=sizeLine) (hr:Room k callerA)
  (F:∀ base:Heap,K.In base->base.Ns mainGlobals mg->FnOk P w K mg base CX k fa fd [x] sp) (hbind:∀ (s:Shared) (u:Value),BindsTo s fd ⟨[u],[]⟩ [(x,u)])
  (hsp:∀ H:Hp,Only H->SqL K H a (ns.map V.int)->sp [.ref a] H (fun v _=>v=.bl true) fun _ _ _=>False)
  (hCX:∀ H e s',CX [] H s₁ (fun _ _ _=>False) e s'->False) :
  codeAny (model P w) callerA (.call (.ref fa) ⟨[.ref a],[]⟩) (fun r s'=>r=.ok (.ret (.bool true))/\OldK s₁.heap s'.heap/\s'.os=s₁.os/\AllBare s'.gens) s₁:=by
 have rv:=vals_ints hi
 have lenV:=hi.length
 have core:∀ H:Hp,Only H->SqL K H a (ns.map V.int)->HOk P w H s₁.heap->(∀ b,H b≠none->b=a)->(H a≠none->K.lookup a=none) ->
   codeAny (model P w) callerA (.call (.ref fa) ⟨[.ref a],[]⟩) (fun r s'=>r=.ok (.ret (.bool true))/\OldK s₁.heap s'.heap/\s'.os=s₁.os/\AllBare s'.gens) s₁:=by
  intro H hO hS hok hA hK
  have base_of:∀ {b:Addr} {o:Obj},s₁.heap.get? b=some o->H b=none->(hidT s₁.heap H).get? b=some o:=fun e n=>hidT_get e n
  have noA:∀ {b:Addr} {o:Obj} {es:Array DictEntry} {ep:Nat},s₁.heap.get? b=some o->o.data=.dict es ep->H b=none:=fun {b o es ep} e d=>by
   cases q:H b with
   | none=>rfl
   | some u =>
    have e':b=a:=hA b (by rw [q]; simp)
    subst e'
    rw [ha] at e; cases e
    have d':Data.seq vs.toArray _=Data.dict es ep:=d
    cases d'
  have nsK:∀ {b:Addr} {m:Str->Option Value},s₁.heap.Ns b m->(hidT s₁.heap H).Ns b m:=fun {b m} ⟨o,es,ep,e,d,r⟩=>⟨o,es,ep,base_of e (noA e d),d,r⟩
  have hKb:K.In (hidT s₁.heap H):=fun b o e=>base_of (KX b o e) (by
   cases q:H b with
   | none=>rfl
   | some u =>
    have e':b=a:=hA b (by rw [q]; simp)
    subst e'
    rw [hK (by rw [q]; simp)] at e; cases e)
  have hM:Mod K mg (hidT s₁.heap H):=⟨hKb,nsK hns,⟨mb,nsK hb,hbb⟩,let ⟨mc,h1,h2⟩:=hlim; ⟨mc,nsK h1,h2⟩⟩
  have e0:Env0 P w K mg (hidT s₁.heap H) callerA [] s₁ H:=⟨rfl,hM,fun b o e=>of_hidT e,Nat.le_of_eq (hidT_size _ _),trivial,fun b hb=>absurd (show b∈([]:List Addr) from hb) (by simp),hok,.of_eq hg⟩
  refine codeAny_mono ((F _ hKb (nsK hns)).run callerA [] s₁ H ⟨[.ref a],[]⟩ [.ref a] [.ref a] _ _ hr e0 (hbind s₁ (.ref a)) (.cons rfl .nil) (hsp H hO hS)) fun r s' h=>?_
  cases r with
  | error e=>exact (hCX H e s' h).elim
  | ok fl =>
   cases fl with
   | next=>exact False.elim h
   | brk=>exact False.elim h
   | cont=>exact False.elim h
   | ret u =>
    obtain ⟨v,H',os,bare,un,hok',r',q⟩:=h
    have q':v=.bl true:=q
    subst q'
    obtain rfl:u=Value.bool true:=r'
    refine ⟨rfl,OldK.of_keep fun b o e=>?_,os,bare⟩
    cases q:H b with
    | none=>exact un.keep b o e q (by intro z; exact absurd (show b∈([]:List Addr) from z) (by simp)) (by simp)
    | some u =>
     rcases hO b with z | ⟨ob,xs,z⟩
     ·rw [q] at z; cases z
     ·have z2:=un.frzs b ob _ z
      obtain ⟨e1,_⟩:=hok b _ z
      obtain ⟨e2,_⟩:=hok' b _ z2
      rw [e] at e1; cases e1
      exact e2
 cases hk:K.lookup a with
 | some o =>
  have e:=KX a o hk
  rw [ha] at e
  cases e
  refine core (fun _=>none) (fun _=>.inl rfl) (.inr ⟨_,vs.toArray,_,hk,rfl,rfl,rfl,by rw [List.size_toArray,lenV]; exact hl,by simpa using rv⟩) (fun b u z=>by have z':(none:Option HO)=some u:=z; cases z') (fun b z=>absurd rfl z) fun z=>absurd rfl z
 | none =>
  refine core (fun b=>if b=a then some (.frz { cls:=.type "list",data:=.seq vs.toArray } (.lst (ns.map V.int))) else none) (fun b=>?_) (.inl (.inr ⟨{ cls:=.type "list",data:=.seq vs.toArray },if_pos rfl⟩)) (fun b u z=>?_) (fun b z=>?_) fun _=>hk
  ·by_cases hb:b=a
   ·exact .inr ⟨_,_,if_pos hb⟩
   ·exact .inl (if_neg hb)
  ·by_cases hb:b=a
   ·have z':=(if_pos hb).symm.trans z
    cases z'
    subst hb
    exact ⟨ha,by rw [List.length_map]; exact hl,vs,_,rv,ha⟩
   ·have z':=(if_neg hb).symm.trans z
    cases z'
  ·by_cases hb:b=a
   ·exact hb
   ·exact absurd (if_neg hb) z
theorem walk_of {l:PySem.W.OpenLaw} {n k:Nat} {q:Program} {loose:List Str} {XP:(Str->Option Value)->Heap->Prop} {YP:World->Heap->Prop} {d:DefRec} {K:Params->PySem.W.Frag} {CX:World->CXT} {sp:World->Sp} {x:Str}
  (hn:l.most=some n) (hn2:n<=sizeLine) (hdf:d.params.defaults=[]) (hr:Room k callerA)
  (hY:∀ (w:World) (h:Heap),YP w h->(K w.params).In h)
  (F:∀ (w:World) (mg:Str->Option Value) (fa:Addr) (h:Heap),(K w.params).In h->h.Ns mainGlobals mg->mg d.name=some (.ref fa) ->
   ∃ fd:FuncData,(∀ (s:Shared) (u:Value),BindsTo s fd ⟨[u],[]⟩ [(x,u)]) /\
    ∀ base:Heap,(K w.params).In base->base.Ns mainGlobals mg->FnOk l.prog w (K w.params) mg base (CX w) k fa fd [x] (sp w))
  (hsp:∀ (w:World) (H:Hp) (a:Addr) (ns:List Int),ns.length<=n->Only H->SqL (K w.params) H a (ns.map V.int)->sp w [.ref a] H (fun v _=>v=.bl true) fun _ _ _=>False)
  (hCX:∀ (w:World) (H:Hp) (s:Shared) (e:Value) (s':Shared),CX w [] H s (fun _ _ _=>False) e s'->False) :
  PySem.W.WalkO q loose XP YP l.row.toRowW d [] (fun f vs=>PySem.call f vs):=by
 refine Att.attach_call hn hdf fun w s₀ s₁ mg mb fa o pm cd doc a vs ns G Y ho hd hcd hmg hobj hints hlen hg=>?_
 have KX:=hY w _ Y
 obtain ⟨fd,hb,hF⟩:=F w mg fa _ KX G.T.g hmg
 exact law_call KX G.T.g G.T.b G.T.builtins G.T.nolimit hg hobj hints (Nat.le_trans hlen hn2) hr hF hb (fun H hO hS=>hsp w H a ns hlen hO hS) fun H e s'=>hCX w H s₁ e s'
end L2
/- THE LAST THEOREM (shape; LID,My.* are yours):
   My.Adr: a structure of the addresses that your layer names (classes,functions); My.Txt K t: a structure (Prop) of the equations over K;
   My.txt_mk:{K} {implicit addresses ..} (e1:nsIn K mainGlobals "law" = some (some (.ref f))) (e2:K.lookup f=some ⟨oc,od,.func (fnOf "law" "law" params body scope dV kV doc pm an cdv ct),sl⟩) (e3:codeIn K cdv "law" = true) ..:∃ t,My.Txt K t
(the tactic k_is has no namespace: write k_is) -/
namespace L2
open PySem PySem.Spec PyProof.Rows
noncomputable def defArgs (s:Stmt):Arguments:=match s with
 | .FunctionDef _ a _ _ _ _ _ _ _ _=>a
 | _=>{ posonlyargs:=[],args:=[],vararg:=none,kwonlyargs:=[],kw_defaults:=[],kwarg:=none,defaults:=[] }
noncomputable def defBody (s:Stmt):List Stmt:=match s with
 | .FunctionDef _ _ b _ _ _ _ _ _ _=>b
 | _=>[]
noncomputable def defScope (s:Stmt):Scope:=match s with
 | .FunctionDef _ _ _ _ _ _ sc _ _ _=>sc
 | _=>{ kind:=.function,names:=[],isGenerator:=false,isCoroutine:=false }
noncomputable abbrev CX0:CXT:=fun _ _ _ _ _ _=>False
noncomputable abbrev E0:XK:=fun _ _ _=>False
theorem pass0 {X:Cx}:Passes CX0 X E0:=fun _ _ _ _ _ _ _ h=>h.elim
structure Fun (K:PySem.W.Frag) (x qual:Str) (st:Stmt) (f:Addr) (fd:FuncData):Prop where
 ex:∃ (oc:Value) (od:Option Addr) (kV doc pm:Value) (an:Option Addr) (cdv ct:Value) (osl:Array (Option Value)),
  fd=PySem.W.fnOf x qual (defArgs st) (defBody st) (defScope st) .none kV doc pm an cdv ct/\K.lookup f=some ⟨oc,od,.func fd,osl⟩/\PySem.W.codeIn K cdv qual=true
 kp:PySem.W.keepIn K (.ref f)=true
section
variable {P:Program} {w:World} {K:PySem.W.Frag} {mg:Str->Option Value} {base:Heap}
theorem Fun.ok {x qual:Str} {st:Stmt} {f:Addr} {fd:FuncData} {N ps:List Str} {k:Nat} {sp:Sp} (F:Fun K x qual st f fd) (S:FnScope N ps (defScope st)) (len:∀ vs H Q E,sp vs H Q E->vs.length=ps.length)
  (hbody:∀ (cdv:Value) (A:Around) (outer:List Env) (s:Shared) (H:Hp) (vs:List V) (Q:VK) (E:XK),Room k (A.deeper (envOfC qual (defScope st) s.heap.objs.size f cdv))->sp vs H Q E ->
   ∃ t,PSs (cxOf CX0 P w K mg base N qual (defScope st) f cdv A outer s H E).nox (defBody st) t/\t { nx:=fun _ H'=>Q .non H',rt:=Q } (start N vs) H):FnOk P w K mg base CX0 (k+1) f fd ps sp:=by
 obtain ⟨oc,od,kV,doc,pm,an,cdv,ct,osl,rfl,lk,hcd⟩:=F.ex
 refine fn_of lk hcd S len fun A outer s H vs Q E hr hsp=>?_
 obtain ⟨t,h,q⟩:=hbody cdv A outer s H vs Q E hr hsp
 exact ⟨t,h.nox,q⟩
theorem Fun.binds {x qual:Str} {st:Stmt} {f:Addr} {fd:FuncData} {ps:List Str} (F:Fun K x qual st f fd)
  (h:∀ (kV doc pm:Value) (an:Option Addr) (cdv ct:Value) (us:List Value),us.length=ps.length->bindArgs (PySem.W.fnOf x qual (defArgs st) (defBody st) (defScope st) .none kV doc pm an cdv ct) ⟨us,[]⟩=pure (ps.zip us)):Binds K fd ps []:=by
 obtain ⟨oc,od,kV,doc,pm,an,cdv,ct,osl,rfl,lk,hcd⟩:=F.ex
 exact .all (h kV doc pm an cdv ct)
theorem fun_mk {x qual:Str} {st:Stmt} {f:Addr} {oc:Value} {od an:Option Addr} {osl:Array (Option Value)} {kV doc pm cdv ct:Value} (l:K.lookup f=some ⟨oc,od,.func (PySem.W.fnOf x qual (defArgs st) (defBody st) (defScope st) .none kV doc pm an cdv ct),osl⟩)
  (c:PySem.W.codeIn K cdv qual=true) (k:PySem.W.keepIn K (.ref f)=true):Fun K x qual st f (PySem.W.fnOf x qual (defArgs st) (defBody st) (defScope st) .none kV doc pm an cdv ct):=⟨⟨oc,od,kV,doc,pm,an,cdv,ct,osl,rfl,l,c⟩,k⟩
end
end L2
set_option autoImplicit false
section
namespace K2
open PySem (Str)
inductive D where
 | non | bl (b:Bool) | int (i:Int) | str (x:Str) | tup (ds:List D) | rol (ds:List D) | rod (kvs:List (D×D)) | ref (a:Nat) | exc (c:Str)
 deriving Inhabited
inductive GO where
 | lst (ds:List D)
 | dic (kvs:List (D×D))
noncomputable abbrev Gp:=Nat->Option GO
noncomputable def updG (G:Gp) (a:Nat) (o:GO):Gp:=fun b=>if b=a then some o else G b
theorem updG_same {G:Gp} {a:Nat} {o:GO}:updG G a o a=some o:=by unfold updG; rw [if_pos rfl]
theorem updG_ne {G:Gp} {a b:Nat} {o:GO} (h:b≠a):updG G a o b=G b:=by unfold updG; rw [if_neg h]
noncomputable abbrev SZ:Nat:=16777216
structure Ex where
 cls:Str
 flds:List (Str×D)
noncomputable abbrev XK2:=Ex->Gp->Prop
noncomputable abbrev St2:=List (Option D)
noncomputable abbrev DK:=D->Gp->Prop
noncomputable abbrev TE2:=XK2->St2->Gp->DK->Prop
noncomputable abbrev TT2:=XK2->St2->Gp->(Bool->Gp->Prop)->Prop
noncomputable abbrev TA2:=XK2->St2->Gp->(List D->Gp->Prop)->Prop
structure Ends2 where
 nx:St2->Gp->Prop
 rt:DK
 bk:St2->Gp->Prop
 ct:St2->Gp->Prop
noncomputable abbrev TS2:=XK2->Ends2->St2->Gp->Prop
noncomputable abbrev Sp2:=List D->Gp->DK->XK2->Prop
noncomputable abbrev R22:=D->D->Gp->DK->Prop
noncomputable def ixN (n:Nat) (i:Int):Option Nat:=if 0<=i then (if i < n then some i.toNat else none) else if -(n:Int)<=i then some (i+n).toNat else none
noncomputable def atI {α:Type} (xs:List α) (i:Int):Option α:=(ixN xs.length i).bind fun j=>xs[j]?
noncomputable def sIx (n d:Nat):Option Int->Nat
 | none=>d
 | some v=>if v < 0 then (v+(n:Int)).toNat else min v.toNat n
noncomputable def cut {α:Type} (xs:List α) (lo hi:Option Int):List α:=(xs.drop (sIx xs.length 0 lo)).take (sIx xs.length xs.length hi - sIx xs.length 0 lo)
mutual
noncomputable def eqD:D->D->Bool
 | .non,.non=>true
 | .bl a,.bl b=>a == b
 | .bl a,.int b=>(if a then 1 else 0) == b
 | .int a,.bl b=>a == (if b then 1 else 0)
 | .int a,.int b=>a == b
 | .str a,.str b=>a == b
 | .tup a,.tup b=>eqDs a b
 | .rol a,.rol b=>eqDs a b
 | _,_=>false
noncomputable def eqDs:List D->List D->Bool
 | [],[]=>true
 | a :: r,b :: t=>eqD a b&&eqDs r t
 | _,_=>false
end
mutual
noncomputable def nr:D->Bool
 | .ref _=>false
 | .exc _=>false
 | .rod _=>false
 | .str x=>x.cps.all (· < 0x110000)
 | .tup ds=>nrs ds
 | .rol ds=>nrs ds
 | _=>true
noncomputable def nrs:List D->Bool
 | []=>true
 | d :: r=>nr d&&nrs r
end
class inductive Sn (G:Gp):Nat->D->D->Prop
 | non {n:Nat}:Sn G n .non .non
 | bl {n:Nat} (b:Bool):Sn G n (.bl b) (.bl b)
 | int {n:Nat} (i:Int):Sn G n (.int i) (.int i)
 | str {n:Nat} (x:Str) (h:x.cps.all (· < 0x110000)=true):Sn G n (.str x) (.str x)
 | tnil {n:Nat}:Sn G (n+1) (.tup []) (.tup [])
 | tcons {n:Nat} {d s:D} {ds ss:List D}:Sn G n d s->Sn G (n+1) (.tup ds) (.tup ss)->Sn G (n+1) (.tup (d :: ds)) (.tup (s :: ss))
 | rnil {n:Nat}:Sn G (n+1) (.rol []) (.rol [])
 | rcons {n:Nat} {d s:D} {ds ss:List D}:Sn G n d s->Sn G (n+1) (.rol ds) (.rol ss)->Sn G (n+1) (.rol (d :: ds)) (.rol (s :: ss))
 | ref {n:Nat} {a:Nat} {ds ss:List D}:G a=some (.lst ds)->Sn G n (.rol ds) (.rol ss)->Sn G n (.ref a) (.rol ss)
noncomputable abbrev SN:Nat:=8
theorem Sn.nr {G:Gp} {n:Nat} {d t:D} (h:Sn G n d t):K2.nr t=true:=by
 induction h with
 | non=>rfl
 | bl b=>rfl
 | int i=>rfl
 | str x h=>exact h
 | tnil=>rfl
 | tcons _ _ ih1 ih2 =>
  show (K2.nr _&&K2.nrs _)=true
  rw [ih1]
  exact ih2
 | rnil=>rfl
 | rcons _ _ ih1 ih2 =>
  show (K2.nr _&&K2.nrs _)=true
  rw [ih1]
  exact ih2
 | ref _ _ ih=>exact ih
noncomputable def keyOk1:D->Bool
 | .int _=>true
 | .str _=>true
 | _=>false
noncomputable def tru:D->Gp->Option Bool
 | .non,_=>some false
 | .bl b,_=>some b
 | .int i,_=>some (i != 0)
 | .str x,_=>if x.length<=SZ then some ((x.length:Int) != 0) else none
 | .tup ds,_=>some (!ds.isEmpty)
 | .rol ds,_=>some (!ds.isEmpty)
 | .exc _,_=>none
 | .rod kvs,_=>if (kvs.all fun p=>keyOk1 p.1)=true then some (!kvs.isEmpty) else none
 | .ref a,G=>match G a with
  | some (.lst ds)=>some (!ds.isEmpty)
  | some (.dic kvs)=>if (kvs.all fun p=>keyOk1 p.1)=true then some (!kvs.isEmpty) else none
  | none=>none
noncomputable def dVar (i:Nat):TE2:=fun _ τ G Q=>match τ[i]? with
 | some (some d)=>Q d G
 | _=>False
noncomputable def dC (d:D):TE2:=fun _ _ G Q=>Q d G
noncomputable def dNil:TA2:=fun _ _ G Q=>Q [] G
noncomputable def dCons (a:TE2) (r:TA2):TA2:=fun E τ G Q=>a E τ G fun x G1=>r E τ G1 fun xs G2=>Q (x :: xs) G2
noncomputable def dTup (t:TA2):TE2:=fun E τ G Q=>t E τ G fun ds G1=>ds.length<=SZ/\Q (.tup ds) G1
noncomputable def dLst (t:TA2):TE2:=fun E τ G Q=>t E τ G fun ds G1=>ds.length<=SZ/\∀ p,G1 p=none->Q (.ref p) (updG G1 p (.lst ds))
noncomputable def dBin (r:R22) (a b:TE2):TE2:=fun E τ G Q=>a E τ G fun x G1=>b E τ G1 fun y G2=>r x y G2 Q
noncomputable def dUn (r:D->Gp->DK->Prop) (a:TE2):TE2:=fun E τ G Q=>a E τ G fun x G1=>r x G1 Q
noncomputable def dNew (G:Gp) (o:GO) (Q:DK):Prop:=∀ p,G p=none->Q (.ref p) (updG G p o)
noncomputable def MulOk (i j:Int):Prop:=(-(2 ^ 64) < i/\i < 2 ^ 64)\/(-(2 ^ 64) < j/\j < 2 ^ 64)
noncomputable def lstOf:D->Gp->Option (List D)
 | .rol ds,_=>some ds
 | .ref a,G=>match G a with
  | some (.lst ds)=>some ds
  | _=>none
 | _,_=>none
noncomputable def addL (x y:D) (G:Gp) (Q:DK):Prop:=match lstOf x G,lstOf y G with
 | some xs,some ys=>xs.length+ys.length<=SZ/\dNew G (.lst (xs++ys)) Q
 | _,_=>False
noncomputable def rAdd:R22
 | .int i,.int j,G,Q=>Q (.int (i+j)) G
 | .str a,.str b,G,Q=>a.length+b.length<=SZ/\Q (.str (a++b)) G
 | .tup a,.tup b,G,Q=>a≠[]/\a.length+b.length<=SZ/\Q (.tup (a++b)) G
 | x,y,G,Q=>addL x y G Q
noncomputable def rSub:R22
 | .int i,.int j,G,Q=>Q (.int (i - j)) G
 | _,_,_,_=>False
noncomputable def rMul:R22
 | .int i,.int j,G,Q=>MulOk i j/\Q (.int (i * j)) G
 | _,_,_,_=>False
noncomputable def rMod:R22
 | .int i,.int j,G,Q=>0 < j/\Q (.int (i % j)) G
 | _,_,_,_=>False
noncomputable def rFdiv:R22
 | .int i,.int j,G,Q=>0 < j/\j < 2 ^ 30/\Q (.int (i / j)) G
 | _,_,_,_=>False
noncomputable def rNeg:D->Gp->DK->Prop
 | .int i,G,Q=>Q (.int (-i)) G
 | _,_,_=>False
noncomputable def rEq (neg:Bool):R22:=fun x y G Q=>∃ a b,Sn G SN x a/\Sn G SN y b/\Q (.bl (if neg then !eqD a b else eqD a b)) G
noncomputable def lexLt:List Int->List Int->Bool
 | [],[]=>false
 | [],_ :: _=>true
 | _ :: _,[]=>false
 | x :: xs,y :: ys=>if x=y then lexLt xs ys else decide (x < y)
noncomputable def rLt:R22
 | .int i,.int j,G,Q=>Q (.bl (decide (i < j))) G
 | .tup a,.tup b,G,Q=>∃ xs ys,a=xs.map D.int/\b=ys.map D.int/\Q (.bl (lexLt xs ys)) G
 | _,_,_,_=>False
noncomputable def rLe:R22
 | .int i,.int j,G,Q=>Q (.bl (decide (i<=j))) G
 | _,_,_,_=>False
noncomputable def rGt:R22
 | .int i,.int j,G,Q=>Q (.bl (decide (i > j))) G
 | _,_,_,_=>False
noncomputable def rGe:R22
 | .int i,.int j,G,Q=>Q (.bl (decide (i>=j))) G
 | _,_,_,_=>False
noncomputable def rIsN (neg:Bool):D->Gp->DK->Prop:=fun x G Q=>match x with
 | .non=>Q (.bl (!neg)) G
 | _=>Q (.bl neg) G
noncomputable def itemsOf:D->Gp->Option (List D)
 | .tup ds,_=>some ds
 | .rol ds,_=>some ds
 | .ref a,G=>match G a with
  | some (.lst ds)=>some ds
  | _=>none
 | _,_=>none
noncomputable def keyOkT:D->Bool
 | .tup ds=>ds.all keyOk1
 | _=>false
noncomputable def kindOk (kvs:List (D×D)) (k:D):Bool:=(keyOk1 k&&kvs.all fun p=>keyOk1 p.1)||(keyOkT k&&kvs.all fun p=>keyOkT p.1)
noncomputable def look (kvs:List (D×D)) (k:D):Option D:=(kvs.find? fun p=>eqD p.1 k).map (·.2)
noncomputable def put (kvs:List (D×D)) (k v:D):List (D×D) :=
 if (kvs.any fun p=>eqD p.1 k)=true then kvs.map (fun p=>if eqD p.1 k=true then (p.1,v) else p) else kvs++[(k,v)]
noncomputable def rIn (neg:Bool):R22:=fun x y G Q=>match y with
 | .ref a=>(match G a with
  | some (.dic kvs)=>kindOk kvs x=true/\Q (.bl (if neg then !(look kvs x).isSome else (look kvs x).isSome)) G
  | some (.lst ds)=>∃ s ss,Sn G SN x s/\Sn G SN (.rol ds) (.rol ss)/\Q (.bl (if neg then !ss.any (eqD · s) else ss.any (eqD · s))) G
  | none=>False)
 | .rod kvs=>kvs≠[]/\kindOk kvs x=true/\Q (.bl (if neg then !(look kvs x).isSome else (look kvs x).isSome)) G
 | .tup ds=>∃ s ss,Sn G SN x s/\Sn G SN (.rol ds) (.rol ss)/\Q (.bl (if neg then !ss.any (eqD · s) else ss.any (eqD · s))) G
 | .rol ds=>∃ s ss,Sn G SN x s/\Sn G SN (.rol ds) (.rol ss)/\Q (.bl (if neg then !ss.any (eqD · s) else ss.any (eqD · s))) G
 | _=>False
noncomputable def rIx:R22
 | .tup ds,.int i,G,Q=>(match atI ds i with
  | some d=>Q d G
  | none=>False)
 | .rol ds,.int i,G,Q=>(match atI ds i with
  | some d=>Q d G
  | none=>False)
 | .rod kvs,k,G,Q=>kindOk kvs k=true/\(match look kvs k with
  | some d=>Q d G
  | none=>False)
 | .ref a,k,G,Q=>(match G a with
  | some (.lst ds)=>(match k with
   | .int i=>(match atI ds i with
    | some d=>Q d G
    | none=>False)
   | _=>False)
  | some (.dic kvs)=>kindOk kvs k=true/\(match look kvs k with
   | some d=>Q d G
   | none=>False)
  | none=>False)
 | _,_,_,_=>False
noncomputable abbrev TO2:=XK2->St2->Gp->(Option Int->Gp->Prop)->Prop
noncomputable def dNoPart:TO2:=fun _ _ G Q=>Q none G
noncomputable def dPart (t:TE2):TO2:=fun E τ G Q=>t E τ G fun x G1=>match x with
 | .int i=>Q (some i) G1
 | _=>False
noncomputable def rSl:D->Option Int->Option Int->Gp->DK->Prop
 | .tup ds,lo,hi,G,Q=>¬ (sIx ds.length 0 lo=0/\sIx ds.length ds.length hi=ds.length)/\Q (.tup (cut ds lo hi)) G
 | .rol ds,lo,hi,G,Q=>dNew G (.lst (cut ds lo hi)) Q
 | .ref a,lo,hi,G,Q=>(match G a with
  | some (.lst ds)=>dNew G (.lst (cut ds lo hi)) Q
  | _=>False)
 | _,_,_,_,_=>False
noncomputable def dSl (a:TE2) (lo hi:TO2):TE2:=fun E τ G Q=>a E τ G fun x G1=>lo E τ G1 fun l G2=>hi E τ G2 fun h G3=>rSl x l h G3 Q
noncomputable def dTru (a:TE2):TT2:=fun E τ G Q=>a E τ G fun x G1=>match tru x G1 with
 | some b=>Q b G1
 | none=>False
noncomputable def dAnd (a b:TT2):TT2:=fun E τ G Q=>a E τ G fun c G1=>if c=true then b E τ G1 Q else Q false G1
noncomputable def dOr (a b:TT2):TT2:=fun E τ G Q=>a E τ G fun c G1=>if c=true then Q true G1 else b E τ G1 Q
noncomputable def dNot (a:TT2):TT2:=fun E τ G Q=>a E τ G fun c G1=>Q (!c) G1
noncomputable def dAndV (a b:TE2):TE2:=fun E τ G Q=>a E τ G fun x G1=>match tru x G1 with
 | some true=>b E τ G1 Q
 | some false=>Q x G1
 | none=>False
noncomputable def dOrV (a b:TE2):TE2:=fun E τ G Q=>a E τ G fun x G1=>match tru x G1 with
 | some true=>Q x G1
 | some false=>b E τ G1 Q
 | none=>False
noncomputable def dNotV (a:TE2):TE2:=fun E τ G Q=>a E τ G fun x G1=>match tru x G1 with
 | some c=>Q (.bl (!c)) G1
 | none=>False
noncomputable def dCall (sp:Sp2) (t:TA2):TE2:=fun E τ G Q=>t E τ G fun ds G1=>sp ds G1 Q fun _ _=>False
noncomputable def dCB (r:List D->Gp->DK->Prop) (t:TA2):TE2:=fun E τ G Q=>t E τ G fun ds G1=>r ds G1 Q
noncomputable def tyL (x:D) (G:Gp):Prop:=match x with
 | .ref a=>(match G a with
  | some (.lst _)=>True
  | _=>False)
 | .rol _=>True
 | _=>False
noncomputable def tyC (x:D) (G:Gp):Prop:=match x with
 | .rod _=>True
 | .ref a=>(match G a with
  | some (.dic _)=>True
  | _=>False)
 | _=>False
noncomputable def tyS (x:D) (_:Gp):Prop:=match x with
 | .str _=>True
 | _=>False
noncomputable def dMt (ty:D->Gp->Prop) (r:D->List D->Gp->DK->Prop) (o:TE2) (t:TA2):TE2:=fun E τ G Q=>o E τ G fun x G1=>ty x G1/\t E τ G1 fun ds G2=>r x ds G2 Q
noncomputable def lenOf:D->Gp->Option Nat
 | .tup ds,_=>some ds.length
 | .rol ds,_=>some ds.length
 | .str x,_=>if x.length<=SZ then some x.length else none
 | .rod kvs,_=>if (kvs.all fun p=>keyOk1 p.1)=true then some kvs.length else none
 | .ref a,G=>match G a with
  | some (.lst ds)=>some ds.length
  | some (.dic kvs)=>if (kvs.all fun p=>keyOk1 p.1)=true then some kvs.length else none
  | none=>none
 | _,_=>none
noncomputable def cLen (ds:List D) (G:Gp) (Q:DK):Prop:=match ds with
 | [x]=>(match lenOf x G with
  | some n=>Q (.int (n:Int)) G
  | none=>False)
 | _=>False
noncomputable def cList (ds:List D) (G:Gp) (Q:DK):Prop:=match ds with
 | [x]=>(match itemsOf x G with
  | some xs=>dNew G (.lst xs) Q
  | none=>False)
 | _=>False
noncomputable def isI (C:String):D->Gp->Option Bool
 | .non,_=>some false
 | .bl _,_=>some (C == "bool" || C == "int")
 | .int _,_=>some (C == "int")
 | .str _,_=>some (C == "str")
 | .tup _,_=>some (C == "tuple")
 | .rol _,_=>some (C == "list")
 | .rod _,_=>some (C == "dict")
 | .exc _,_=>none
 | .ref a,G=>match G a with
  | some (.lst _)=>some (C == "list")
  | some (.dic _)=>some (C == "dict")
  | none=>none
noncomputable def dIsi (C:String) (a:TE2):TE2:=fun E τ G Q=>a E τ G fun x G1=>match isI C x G1 with
 | some b=>Q (.bl b) G1
 | none=>False
noncomputable def cAny (ds:List D) (G:Gp) (Q:DK):Prop:=match ds with
 | [x]=>∃ bs:List Bool,itemsOf x G=some (bs.map D.bl)/\Q (.bl (bs.any id)) G
 | _=>False
noncomputable def mAppend (x:D) (ds:List D) (G:Gp) (Q:DK):Prop:=match x,ds with
 | .ref a,[d]=>(match G a with
  | some (.lst xs)=>xs.length < SZ/\Q .non (updG G a (.lst (xs++[d])))
  | _=>False)
 | _,_=>False
noncomputable def mExtend (x:D) (ds:List D) (G:Gp) (Q:DK):Prop:=match x,ds with
 | .ref a,[y]=>(match G a,lstOf y G with
  | some (.lst xs),some ys=>xs.length+ys.length<=SZ/\Q .non (updG G a (.lst (xs++ys)))
  | _,_=>False)
 | _,_=>False
noncomputable def mInsert (x:D) (ds:List D) (G:Gp) (Q:DK):Prop:=match x,ds with
 | .ref a,[.int i,d]=>(match G a with
  | some (.lst xs)=>0<=i/\i<=xs.length/\xs.length < SZ/\Q .non (updG G a (.lst (xs.take i.toNat++d :: xs.drop i.toNat)))
  | _=>False)
 | _,_=>False
noncomputable def mSetdefault (x:D) (ds:List D) (G:Gp) (Q:DK):Prop:=match x,ds with
 | .ref a,[k,d]=>(match G a with
  | some (.dic kvs)=>kindOk kvs k=true/\keyOk1 k=true/\(match look kvs k with
   | some v=>Q v G
   | none=>kvs.length < SZ/\Q d (updG G a (.dic (put kvs k d))))
  | _=>False)
 | _,_=>False
noncomputable def dNext:TS2:=fun _ K τ G=>K.nx τ G
noncomputable def dSeq (a b:TS2):TS2:=fun E K τ G=>a E { K with nx:=b E K } τ G
noncomputable def dExpr (a:TE2):TS2:=fun E K τ G=>a E τ G fun _ G1=>K.nx τ G1
noncomputable def dRet (a:TE2):TS2:=fun E K τ G=>a E τ G K.rt
noncomputable def dRetN:TS2:=fun _ K _ G=>K.rt .non G
noncomputable def dIfS (c:TT2) (a b:TS2):TS2:=fun E K τ G=>c E τ G fun k G1=>if k=true then a E K τ G1 else b E K τ G1
noncomputable def dNever:TS2:=fun _ _ _ _=>False
noncomputable abbrev TG2:=XK2->D->St2->Gp->(St2->Gp->Prop)->Prop
noncomputable abbrev TGs2:=XK2->List D->St2->Gp->(St2->Gp->Prop)->Prop
noncomputable def gName (i:Nat):TG2:=fun _ d τ G Q=>Q (τ.set i (some d)) G
noncomputable def gNil:TGs2:=fun _ ds τ G Q=>match ds with
 | []=>Q τ G
 | _=>False
noncomputable def gCons (t:TG2) (r:TGs2):TGs2:=fun E ds τ G Q=>match ds with
 | d :: ds=>t E d τ G fun τ1 G1=>r E ds τ1 G1 Q
 | _=>False
noncomputable def gTup (t:TGs2):TG2:=fun E d τ G Q=>match d with
 | .tup ds=>t E ds τ G Q
 | _=>False
noncomputable def setIx (o k d:D) (G:Gp) (Q:Gp->Prop):Prop:=match o with
 | .ref a=>(match G a with
  | some (.lst xs)=>(match k with
   | .int i=>(match ixN xs.length i with
    | some j=>Q (updG G a (.lst (xs.set j d)))
    | none=>False)
   | _=>False)
  | some (.dic kvs)=>kindOk kvs k=true/\kvs.length < SZ/\Q (updG G a (.dic (put kvs k d)))
  | none=>False)
 | _=>False
noncomputable def gSub (o k:TE2):TG2:=fun E d τ G Q=>o E τ G fun x G1=>k E τ G1 fun y G2=>setIx x y d G2 fun G3=>Q τ G3
noncomputable def dAsg (a:TE2) (g:TG2):TS2:=fun E K τ G=>a E τ G fun x G1=>g E x τ G1 K.nx
noncomputable abbrev TI2:=XK2->St2->Gp->(List D->(Gp->Prop)->Gp->Prop)->Prop
noncomputable def iSeq (a:TE2):TI2:=fun E τ G R=>a E τ G fun x G1=>match x with
 | .tup ds=>R ds (fun _=>True) G1
 | .rol ds=>R ds (fun _=>True) G1
 | .ref p=>(match G1 p with
  | some (.lst ds)=>R ds (fun G2=>G2 p=some (.lst ds)) G1
  | _=>False)
 | _=>False
noncomputable def rangeD (lo:Int) (n:Nat):List D:=(List.range n).map fun (i:Nat)=>D.int (lo+(i:Int))
noncomputable def iRng1 (a:TE2):TI2:=fun E τ G R=>a E τ G fun x G1=>match x with
 | .int n=>-(2 ^ 62)<=n/\n < 2 ^ 62/\R (rangeD 0 n.toNat) (fun _=>True) G1
 | _=>False
noncomputable def forGo (g:TG2) (body:TS2) (ok:Gp->Prop):List D->TS2
 | []=>fun _ K τ G=>ok G/\K.nx τ G
 | d :: r=>fun E K τ G=>ok G/\g E d τ G fun τ1 G1=>body E { K with nx:=forGo g body ok r E K,ct:=forGo g body ok r E K,bk:=K.nx } τ1 G1
noncomputable def dFor (i:TI2) (g:TG2) (body:TS2):TS2:=fun E K τ G=>i E τ G fun ds ok G1=>forGo g body ok ds E K τ G1
noncomputable def whGo (c:TT2) (body:TS2):Nat->TS2
 | 0=>fun _ _ _ _=>False
 | n+1=>fun E K τ G=>c E τ G fun k G1=>if k=true then body E { K with nx:=whGo c body n E K,ct:=whGo c body n E K,bk:=K.nx } τ G1 else K.nx τ G1
noncomputable def dWhile (c:TT2) (body:TS2):TS2:=fun E K τ G=>∃ n,whGo c body n E K τ G
noncomputable def compGo (g:TG2) (c:Option TT2) (e:TE2) (ok:Gp->Prop):List D->XK2->St2->Gp->List D->(List D->Gp->Prop)->Prop
 | [],_,_,G,acc,Q=>ok G/\Q acc G
 | d :: r,E,τ,G,acc,Q=>ok G/\g E d τ G fun τ1 G1=>match c with
  | none=>e E τ1 G1 fun x G2=>compGo g c e ok r E τ1 G2 (acc++[x]) Q
  | some c=>c E τ1 G1 fun k G2=>if k=true then e E τ1 G2 fun x G3=>compGo g (some c) e ok r E τ1 G3 (acc++[x]) Q else compGo g (some c) e ok r E τ1 G2 acc Q
noncomputable def compSt (m:Nat) (fr:List Nat) (τ:St2):St2:=List.replicate m none++fr.map fun i=>(τ[i]?).getD none
noncomputable def dComp (m:Nat) (fr:List Nat) (i:TI2) (g:TG2) (c:Option TT2) (e:TE2):TE2:=fun E τ G Q =>
 i E τ G fun ds ok G1=>ds.length<=SZ/\compGo g c e ok ds (fun _ _=>False) (compSt m fr τ) G1 [] fun xs G2=>dNew G2 (.lst xs) Q
noncomputable abbrev tI (ns:List Int):D:=.tup (ns.map D.int)
noncomputable def minI:List Int->Option Int
 | []=>none
 | a :: r=>some (r.foldl (fun m x=>if x < m then x else m) a)
noncomputable def minL:List (List Int)->Option (List Int)
 | []=>none
 | a :: r=>some (r.foldl (fun m x=>if lexLt x m=true then x else m) a)
noncomputable def cMin (ds:List D) (G:Gp) (Q:DK):Prop:=match ds with
 | [x]=>(∃ ns m,itemsOf x G=some (ns.map D.int)/\minI ns=some m/\Q (.int m) G)\/∃ nss m,itemsOf x G=some (nss.map tI)/\minL nss=some m/\Q (tI m) G
 | _=>False
noncomputable def dDic:TE2:=fun _ _ G Q=>dNew G (.dic []) Q
noncomputable def GLe (G G':Gp):Prop:=∀ a o,G a=some o->G' a=some o
theorem GLe.refl (G:Gp):GLe G G:=fun _ _ h=>h
theorem GLe.trans {G G1 G2:Gp} (a:GLe G G1) (b:GLe G1 G2):GLe G G2:=fun c o h=>b c o (a c o h)
theorem GLe.new {G:Gp} {p:Nat} {o:GO} (h:G p=none):GLe G (updG G p o):=fun a ob e=>by
 by_cases ha:a=p
 ·subst ha; rw [h] at e; cases e
 ·rw [updG_ne ha]; exact e
theorem GLe.free {G G':Gp} {p:Nat} (l:GLe G G') (h:G' p=none):G p=none:=by
 cases q:G p with
 | none=>rfl
 | some o=>rw [l p o q] at h; cases h
theorem GLe.put {G G':Gp} {p:Nat} {o:GO} (l:GLe G G') (h:G p=none):GLe G (updG G' p o):=fun a ob e=>by
 by_cases ha:a=p
 ·subst ha; rw [h] at e; cases e
 ·rw [updG_ne ha]; exact l a ob e
noncomputable def ends (Q:DK):Ends2:=⟨fun _ G=>Q .non G,Q,fun _ _=>False,fun _ _=>False⟩
noncomputable def start2 (n:Nat) (ds:List D):St2:=ds.map some++List.replicate (n - ds.length) none
noncomputable def iAt (x:D) (G1:Gp) (R:List D->(Gp->Prop)->Gp->Prop):Prop:=match x with
 | .tup ds=>R ds (fun _=>True) G1
 | .rol ds=>R ds (fun _=>True) G1
 | .ref p=>(match G1 p with
  | some (.lst ds)=>R ds (fun G2=>G2 p=some (.lst ds)) G1
  | _=>False)
 | _=>False
noncomputable def partAt (x:D) (G1:Gp) (Q:Option Int->Gp->Prop):Prop:=match x with
 | .int i=>Q (some i) G1
 | _=>False
noncomputable def truAt (x:D) (G1:Gp) (Q:Bool->Gp->Prop):Prop:=match tru x G1 with
 | some b=>Q b G1
 | none=>False
noncomputable def rngAt (x:D) (G1:Gp) (R:List D->(Gp->Prop)->Gp->Prop):Prop:=match x with
 | .int n=>-(2 ^ 62)<=n/\n < 2 ^ 62/\R (rangeD 0 n.toNat) (fun _=>True) G1
 | _=>False
noncomputable def isAt (C:String) (x:D) (G1:Gp) (Q:DK):Prop:=match isI C x G1 with
 | some b=>Q (.bl b) G1
 | none=>False
theorem rAdd_int {i j:Int} {G:Gp} {Q:DK}:rAdd (.int i) (.int j) G Q=Q (.int (i+j)) G:=rfl
theorem rAdd_tup {a b:List D} {G:Gp} {Q:DK}:rAdd (.tup a) (.tup b) G Q=(a≠[]/\a.length+b.length<=SZ/\Q (.tup (a++b)) G):=rfl
theorem rSub_int {i j:Int} {G:Gp} {Q:DK}:rSub (.int i) (.int j) G Q=Q (.int (i - j)) G:=rfl
theorem rMul_int {i j:Int} {G:Gp} {Q:DK}:rMul (.int i) (.int j) G Q=(MulOk i j/\Q (.int (i * j)) G):=rfl
theorem rMod_int {i j:Int} {G:Gp} {Q:DK}:rMod (.int i) (.int j) G Q=(0 < j/\Q (.int (i % j)) G):=rfl
theorem rFdiv_int {i j:Int} {G:Gp} {Q:DK}:rFdiv (.int i) (.int j) G Q=(0 < j/\j < 2 ^ 30/\Q (.int (i / j)) G):=rfl
theorem rNeg_int {i:Int} {G:Gp} {Q:DK}:rNeg (.int i) G Q=Q (.int (-i)) G:=rfl
theorem rLt_int {i j:Int} {G:Gp} {Q:DK}:rLt (.int i) (.int j) G Q=Q (.bl (decide (i < j))) G:=rfl
theorem rLe_int {i j:Int} {G:Gp} {Q:DK}:rLe (.int i) (.int j) G Q=Q (.bl (decide (i<=j))) G:=rfl
theorem rGt_int {i j:Int} {G:Gp} {Q:DK}:rGt (.int i) (.int j) G Q=Q (.bl (decide (i > j))) G:=rfl
theorem rGe_int {i j:Int} {G:Gp} {Q:DK}:rGe (.int i) (.int j) G Q=Q (.bl (decide (i>=j))) G:=rfl
theorem rIx_rol {ds:List D} {i:Int} {d:D} {G:Gp} {Q:DK} (h:atI ds i=some d):rIx (.rol ds) (.int i) G Q=Q d G:=by unfold rIx; simp only [h]
theorem rIx_lst {a:Nat} {ds:List D} {i:Int} {d:D} {G:Gp} {Q:DK} (h1:G a=some (.lst ds)) (h:atI ds i=some d):rIx (.ref a) (.int i) G Q=Q d G:=by unfold rIx; simp only [h1,h]
theorem rIx_dic {a:Nat} {kvs:List (D×D)} {k d:D} {G:Gp} {Q:DK} (h1:G a=some (.dic kvs)) (h0:kindOk kvs k=true) (h:look kvs k=some d):rIx (.ref a) k G Q=Q d G:=by unfold rIx; simp only [h1,h,h0,true_and]
theorem rSl_tup {ds:List D} {lo hi:Option Int} {G:Gp} {Q:DK}:rSl (.tup ds) lo hi G Q=(¬ (sIx ds.length 0 lo=0/\sIx ds.length ds.length hi=ds.length)/\Q (.tup (cut ds lo hi)) G):=rfl
theorem rSl_rol {ds:List D} {lo hi:Option Int} {G:Gp} {Q:DK}:rSl (.rol ds) lo hi G Q=dNew G (.lst (cut ds lo hi)) Q:=rfl
theorem rSl_lst {a:Nat} {ds:List D} {lo hi:Option Int} {G:Gp} {Q:DK} (h:G a=some (.lst ds)):rSl (.ref a) lo hi G Q=dNew G (.lst (cut ds lo hi)) Q:=by unfold rSl; simp only [h]
theorem cLen_rol {ds:List D} {G:Gp} {Q:DK}:cLen [.rol ds] G Q=Q (.int (ds.length:Int)) G:=rfl
theorem cLen_tup {ds:List D} {G:Gp} {Q:DK}:cLen [.tup ds] G Q=Q (.int (ds.length:Int)) G:=rfl
theorem cLen_lst {a:Nat} {ds:List D} {G:Gp} {Q:DK} (h:G a=some (.lst ds)):cLen [.ref a] G Q=Q (.int (ds.length:Int)) G:=by unfold cLen lenOf; simp only [h]
theorem iSeq_at {a:TE2} {E:XK2} {τ:St2} {G:Gp} {R:List D->(Gp->Prop)->Gp->Prop}:iSeq a E τ G R=a E τ G fun x G1=>iAt x G1 R:=by
 unfold iSeq iAt; rfl
theorem iAt_rol {ds:List D} {G:Gp} {R:List D->(Gp->Prop)->Gp->Prop}:iAt (.rol ds) G R=R ds (fun _=>True) G:=rfl
theorem iAt_tup {ds:List D} {G:Gp} {R:List D->(Gp->Prop)->Gp->Prop}:iAt (.tup ds) G R=R ds (fun _=>True) G:=rfl
theorem iAt_lst {a:Nat} {ds:List D} {G:Gp} {R:List D->(Gp->Prop)->Gp->Prop} (h:G a=some (.lst ds)):iAt (.ref a) G R=R ds (fun G2=>G2 a=some (.lst ds)) G:=by unfold iAt; simp only [h]
theorem dPart_at {t:TE2} {E:XK2} {τ:St2} {G:Gp} {Q:Option Int->Gp->Prop}:dPart t E τ G Q=t E τ G fun x G1=>partAt x G1 Q:=rfl
theorem partAt_int {i:Int} {G:Gp} {Q:Option Int->Gp->Prop}:partAt (.int i) G Q=Q (some i) G:=rfl
theorem dTru_at {a:TE2} {E:XK2} {τ:St2} {G:Gp} {Q:Bool->Gp->Prop}:dTru a E τ G Q=a E τ G fun x G1=>truAt x G1 Q:=rfl
theorem truAt_bl {b:Bool} {G:Gp} {Q:Bool->Gp->Prop}:truAt (.bl b) G Q=Q b G:=rfl
theorem truAt_lst {a:Nat} {ds:List D} {G:Gp} {Q:Bool->Gp->Prop} (h:G a=some (.lst ds)):truAt (.ref a) G Q=Q (!ds.isEmpty) G:=by unfold truAt tru; simp only [h]
theorem iRng1_at {a:TE2} {E:XK2} {τ:St2} {G:Gp} {R:List D->(Gp->Prop)->Gp->Prop}:iRng1 a E τ G R=a E τ G fun x G1=>rngAt x G1 R:=rfl
theorem rngAt_int {n:Int} {G:Gp} {R:List D->(Gp->Prop)->Gp->Prop}:rngAt (.int n) G R=(-(2 ^ 62)<=n/\n < 2 ^ 62/\R (rangeD 0 n.toNat) (fun _=>True) G):=rfl
theorem dIsi_at {C:String} {a:TE2} {E:XK2} {τ:St2} {G:Gp} {Q:DK}:dIsi C a E τ G Q=a E τ G fun x G1=>isAt C x G1 Q:=rfl
theorem isAt_int {C:String} {i:Int} {G:Gp} {Q:DK}:isAt C (.int i) G Q=Q (.bl (C == "int")) G:=rfl
theorem isAt_tup {C:String} {ds:List D} {G:Gp} {Q:DK}:isAt C (.tup ds) G Q=Q (.bl (C == "tuple")) G:=rfl
theorem dAndV_at {a b:TE2} {E:XK2} {τ:St2} {G:Gp} {Q:DK}:dAndV a b E τ G Q=a E τ G fun x G1=>truAt x G1 fun k G2=>if k=true then b E τ G2 Q else Q x G2:=by
 unfold dAndV truAt
 refine congrArg (a E τ G) ?_
 funext x G1
 cases tru x G1 with
 | none=>rfl
 | some k=>cases k <;> simp
theorem dOrV_at {a b:TE2} {E:XK2} {τ:St2} {G:Gp} {Q:DK}:dOrV a b E τ G Q=a E τ G fun x G1=>truAt x G1 fun k G2=>if k=true then Q x G2 else b E τ G2 Q:=by
 unfold dOrV truAt
 refine congrArg (a E τ G) ?_
 funext x G1
 cases tru x G1 with
 | none=>rfl
 | some k=>cases k <;> simp
theorem dNotV_at {a:TE2} {E:XK2} {τ:St2} {G:Gp} {Q:DK}:dNotV a E τ G Q=a E τ G fun x G1=>truAt x G1 fun k G2=>Q (.bl (!k)) G2:=rfl
theorem rAdd_ref {a:Nat} {y:D} {G:Gp} {Q:DK}:rAdd (.ref a) y G Q=addL (.ref a) y G Q:=by cases y <;> rfl
theorem rAdd_rol {a:List D} {y:D} {G:Gp} {Q:DK}:rAdd (.rol a) y G Q=addL (.rol a) y G Q:=by cases y <;> rfl
theorem rSl_ref {a:Nat} {lo hi:Option Int} {G:Gp} {Q:DK}:rSl (.ref a) lo hi G Q=(match G a with
  | some (.lst ds)=>dNew G (.lst (cut ds lo hi)) Q
  | _=>False):=rfl
theorem rIx_ref {a:Nat} {k:D} {G:Gp} {Q:DK}:rIx (.ref a) k G Q=(match G a with
  | some (.lst ds)=>(match k with
   | .int i=>(match atI ds i with
    | some d=>Q d G
    | none=>False)
   | _=>False)
  | some (.dic kvs)=>kindOk kvs k=true/\(match look kvs k with
   | some d=>Q d G
   | none=>False)
  | none=>False):=by unfold rIx; cases k <;> rfl
theorem rIx_tupM {ds:List D} {i:Int} {G:Gp} {Q:DK}:rIx (.tup ds) (.int i) G Q=(match atI ds i with
  | some d=>Q d G
  | none=>False):=rfl
theorem rIx_rolM {ds:List D} {i:Int} {G:Gp} {Q:DK}:rIx (.rol ds) (.int i) G Q=(match atI ds i with
  | some d=>Q d G
  | none=>False):=rfl
theorem cList_ref {a:Nat} {G:Gp} {Q:DK}:cList [.ref a] G Q=(match G a with
  | some (.lst ds)=>dNew G (.lst ds) Q
  | _=>False):=by
 unfold cList itemsOf
 cases h:G a with
 | none=>simp only [h]
 | some g=>cases g <;> simp only [h]
theorem mAppend_ref {a:Nat} {d:D} {G:Gp} {Q:DK}:mAppend (.ref a) [d] G Q=(match G a with
  | some (.lst xs)=>xs.length < SZ/\Q .non (updG G a (.lst (xs++[d])))
  | _=>False):=rfl
theorem mExtend_ref {a:Nat} {y:D} {G:Gp} {Q:DK}:mExtend (.ref a) [y] G Q=(match G a,lstOf y G with
  | some (.lst xs),some ys=>xs.length+ys.length<=SZ/\Q .non (updG G a (.lst (xs++ys)))
  | _,_=>False):=rfl
theorem mInsert_ref {a:Nat} {i:Int} {d:D} {G:Gp} {Q:DK}:mInsert (.ref a) [.int i,d] G Q=(match G a with
  | some (.lst xs)=>0<=i/\i<=xs.length/\xs.length < SZ/\Q .non (updG G a (.lst (xs.take i.toNat++d :: xs.drop i.toNat)))
  | _=>False):=rfl
theorem mSetdefault_ref {a:Nat} {k d:D} {G:Gp} {Q:DK}:mSetdefault (.ref a) [k,d] G Q=(match G a with
  | some (.dic kvs)=>kindOk kvs k=true/\keyOk1 k=true/\(match look kvs k with
   | some v=>Q v G
   | none=>kvs.length < SZ/\Q d (updG G a (.dic (put kvs k d))))
  | _=>False):=rfl
theorem isAt_bl {C:String} {b:Bool} {G:Gp} {Q:DK}:isAt C (.bl b) G Q=Q (.bl (C == "bool" || C == "int")) G:=rfl
theorem tyL_ref {a:Nat} {G:Gp}:tyL (.ref a) G=(match G a with
  | some (.lst _)=>True
  | _=>False):=rfl
theorem tyC_ref {a:Nat} {G:Gp}:tyC (.ref a) G=(match G a with
  | some (.dic _)=>True
  | _=>False):=rfl
theorem tyL_rol {ds:List D} {G:Gp}:tyL (.rol ds) G=True:=rfl
theorem rIx_rod {kvs:List (D×D)} {k:D} {G:Gp} {Q:DK}:rIx (.rod kvs) k G Q=(kindOk kvs k=true/\(match look kvs k with
  | some d=>Q d G
  | none=>False)):=by unfold rIx; cases k <;> rfl
theorem tyS_str {x:Str} {G:Gp}:tyS (.str x) G=True:=rfl
end K2
end
section
namespace K2
open PySem (Str)
noncomputable def delG (R:Nat->Bool) (G:Gp):Gp:=fun a=>if R a=true then none else G a
mutual
inductive Fz (G:Gp) (R:Nat->Bool):D->D->Prop
 | same (d:D):Fz G R d d
 | tup {ds ss:List D}:Fzs G R ds ss->Fz G R (.tup ds) (.tup ss)
 | rol {ds ss:List D}:Fzs G R ds ss->Fz G R (.rol ds) (.rol ss)
 | ref {a:Nat} {ds ss:List D}:G a=some (.lst ds)->R a=true->Fzs G R ds ss->Fz G R (.ref a) (.rol ss)
 | dic {a:Nat} {kvs kvt:List (D×D)}:G a=some (.dic kvs)->R a=true->FzKs G R kvs kvt->Fz G R (.ref a) (.rod kvt)
inductive Fzs (G:Gp) (R:Nat->Bool):List D->List D->Prop
 | nil:Fzs G R [] []
 | cons {d s:D} {ds ss:List D}:Fz G R d s->Fzs G R ds ss->Fzs G R (d :: ds) (s :: ss)
inductive FzKs (G:Gp) (R:Nat->Bool):List (D×D)->List (D×D)->Prop
 | nil:FzKs G R [] []
 | cons {k d s:D} {ds ss:List (D×D)}:Fz G R d s->FzKs G R ds ss->FzKs G R ((k,d) :: ds) ((k,s) :: ss)
end
theorem FzKs.same {G:Gp} {R:Nat->Bool}:∀ (kvs:List (D×D)),FzKs G R kvs kvs
 | []=>.nil
 | (k,v) :: r=>.cons (.same v) (FzKs.same r)
noncomputable def FzK (G:Gp) (x:D) (Q:DK):Prop:=∃ (R:Nat->Bool) (t:D),Fz G R x t/\Q t (delG R G)
noncomputable def dFz (e:TE2):TE2:=fun E τ G Q=>e E τ G fun x G1=>FzK G1 x Q
noncomputable def dFzV (i:Nat) (t:TS2):TS2:=fun E K τ G=>t E { K with nx:=fun τ1 G1=>match τ1[i]? with
 | some (some d)=>FzK G1 d fun t G2=>K.nx (τ1.set i (some t)) G2
 | _=>False } τ G
theorem Fzs.same {G:Gp} {R:Nat->Bool}:∀ (ds:List D),Fzs G R ds ds
 | []=>.nil
 | d :: ds=>.cons (.same d) (Fzs.same ds)
theorem delG_new {G G1:Gp} (l:GLe G G1):delG (fun a=>(G a).isNone) G1=G:=by
 funext a
 unfold delG
 cases h:G a with
 | none=>simp [h]
 | some o=>simp [l a o h,h]
theorem fz_id {G:Gp} {d:D} {Q:DK} (q:Q d G):FzK G d Q:=⟨fun _=>false,d,.same d,by
 have e:delG (fun _=>false) G=G:=by funext a; simp [delG]
 rw [e]; exact q⟩
theorem fz_drop {G G1:Gp} {d:D} {Q:DK} (l:GLe G G1) (q:Q d G):FzK G1 d Q:=⟨_,d,.same d,by rw [delG_new l]; exact q⟩
theorem fz_rol {G G1:Gp} {p:Nat} {ds ss:List D} {Q:DK} (l:GLe G G1) (hp:G p=none) (h1:G1 p=some (.lst ds)) (hs:Fzs G1 (fun a=>(G a).isNone) ds ss) (q:Q (.rol ss) G):FzK G1 (.ref p) Q :=
 ⟨_,.rol ss,.ref h1 (by simp [hp]) hs,by rw [delG_new l]; exact q⟩
theorem fz_rod {G G1:Gp} {p:Nat} {kvs:List (D×D)} {Q:DK} (l:GLe G G1) (hp:G p=none) (h1:G1 p=some (.dic kvs)) (q:Q (.rod kvs) G):FzK G1 (.ref p) Q :=
 ⟨fun a=>(G a).isNone,.rod kvs,.dic h1 (by simp [hp]) (.same _),by rw [delG_new l]; exact q⟩
noncomputable def spLaw:Sp2:=fun ds G Q _=>∃ ns:List Int,ds=[.rol (ns.map D.int)]/\ns.length<=63/\(∀ a,G a=none)/\∀ G',Q (.bl true) G'
theorem seq_by {a b:TS2} {E:XK2} {K:Ends2} {τ:St2} {G:Gp} (P:St2->Gp->Prop) (h1:∀ N,(∀ τ G,P τ G->N τ G)->a E { K with nx:=N } τ G) (h2:∀ τ G,P τ G->b E K τ G):dSeq a b E K τ G:=h1 (b E K) h2
theorem seq_step {a b:TS2} {E:XK2} {K:Ends2} {τ:St2} {G:Gp}:dSeq a b E K τ G=a E { K with nx:=b E K } τ G:=rfl
theorem seq_asg {a:TE2} {g:TG2} {b:TS2} {E:XK2} {K:Ends2} {τ:St2} {G:Gp}:dSeq (dAsg a g) b E K τ G=dAsg a g E { K with nx:=b E K } τ G:=rfl
theorem seq_expr {a:TE2} {b:TS2} {E:XK2} {K:Ends2} {τ:St2} {G:Gp}:dSeq (dExpr a) b E K τ G=dExpr a E { K with nx:=b E K } τ G:=rfl
theorem eqDs_cc (a b:D) (r t:List D):eqDs (a :: r) (b :: t)=(eqD a b&&eqDs r t):=rfl
theorem eqD_ii (a b:Int):eqD (.int a) (.int b)=(a == b):=rfl
theorem eqD_tt (a b:List D):eqD (.tup a) (.tup b)=eqDs a b:=rfl
theorem dec_cons {α:Type} [DecidableEq α] (a b:α) (as bs:List α):(decide (a=b)&&decide (as=bs))=decide (a :: as=b :: bs):=by
 by_cases h:a=b <;> by_cases h2:as=bs <;> simp [h,h2]
end K2
end
section
namespace K2
open PySem (Str)
set_option genInjectivity true in structure T2 where
 a:Int
 b:Int
 deriving DecidableEq
set_option genInjectivity true in structure T3 where
 a:Int
 b:Int
 c:Int
 deriving DecidableEq
class Enc (α:Type) [DecidableEq α] where
 enc:α->D
 dep:Nat
 eqv:∀ a b,eqD (enc a) (enc b)=decide (a=b)
 sn:∀ (G:Gp) (n:Nat) (a:α),dep<=n->Sn G n (enc a) (enc a)
open Enc (enc)
noncomputable instance:Enc Int where
 enc:=D.int
 dep:=0
 eqv:=fun a b=>rfl
 sn:=fun G n a _=>.int a
noncomputable instance:Enc Bool where
 enc:=D.bl
 dep:=0
 eqv:=fun a b=>Bool.beq_eq_decide_eq a b
 sn:=fun G n a _=>.bl a
noncomputable instance:Enc T2 where
 enc:=fun t=>.tup [.int t.a,.int t.b]
 dep:=1
 eqv:=fun x y=>by
  cases x; cases y
  rw [eqD_tt,eqDs_cc,eqDs_cc,eqD_ii,eqD_ii]; simp only [T2.mk.injEq]; rename_i a b c d; by_cases h:a=c <;> by_cases h2:b=d <;> simp [h,h2,show eqDs [] []=true from rfl]
 sn:=fun G n t h=>by
  obtain ⟨m,rfl⟩:∃ m,n=m+1:=⟨n - 1,by lia⟩
  exact .tcons (.int _) (.tcons (.int _) .tnil)
noncomputable instance:Enc T3 where
 enc:=fun t=>.tup [.int t.a,.int t.b,.int t.c]
 dep:=1
 eqv:=fun x y=>by
  cases x; cases y
  rw [eqD_tt,eqDs_cc,eqDs_cc,eqDs_cc,eqD_ii,eqD_ii,eqD_ii]; simp only [T3.mk.injEq]; rename_i a b e c d f; by_cases h:a=c <;> by_cases h2:b=d <;> by_cases h3:e=f <;> simp [h,h2,h3,show eqDs [] []=true from rfl]
 sn:=fun G n t h=>by
  obtain ⟨m,rfl⟩:∃ m,n=m+1:=⟨n - 1,by lia⟩
  exact .tcons (.int _) (.tcons (.int _) (.tcons (.int _) .tnil))
noncomputable instance {α β:Type} [DecidableEq α] [DecidableEq β] [Enc α] [Enc β]:Enc (α×β) where
 enc:=fun t=>.tup [enc t.1,enc t.2]
 dep:=max (Enc.dep α) (Enc.dep β)+1
 eqv:=fun x y=>by
  cases x; cases y
  rw [eqD_tt,eqDs_cc,eqDs_cc,Enc.eqv,Enc.eqv]; simp only [Prod.mk.injEq]; rename_i a b c d; by_cases h:a=c <;> by_cases h2:b=d <;> simp [h,h2,show eqDs [] []=true from rfl]
 sn:=fun G n t h=>by
  obtain ⟨m,rfl⟩:∃ m,n=m+1:=⟨n - 1,by lia⟩
  exact .tcons (Enc.sn _ _ _ (by lia)) (.tcons (Enc.sn _ _ _ (by lia)) .tnil)
theorem eqDs_enc {α:Type} [DecidableEq α] [Enc α]:∀ (a b:List α),eqDs (a.map enc) (b.map enc)=decide (a=b)
 | [],[]=>(decide_eq_true rfl).symm
 | [],b :: bs=>(decide_eq_false (fun z=>nomatch z)).symm
 | a :: as,[]=>(decide_eq_false (fun z=>nomatch z)).symm
 | a :: as,b :: bs=>by
  show (eqD (enc a) (enc b)&&eqDs (as.map enc) (bs.map enc))=_
  rw [Enc.eqv,eqDs_enc as bs,dec_cons]
theorem sn_rol {α:Type} [DecidableEq α] [Enc α] (G:Gp) (n:Nat) (h:Enc.dep α<=n):∀ (xs:List α),Sn G (n+1) (.rol (xs.map enc)) (.rol (xs.map enc))
 | []=>.rnil
 | a :: as=>.rcons (Enc.sn _ _ _ h) (sn_rol G n h as)
noncomputable instance {α:Type} [DecidableEq α] [Enc α]:Enc (List α) where
 enc:=fun xs=>.rol (xs.map enc)
 dep:=Enc.dep α+1
 eqv:=fun a b=>by
  show eqDs _ _=_
  exact eqDs_enc a b
 sn:=fun G n t h=>by
  obtain ⟨m,rfl⟩:∃ m,n=m+1:=⟨n - 1,by lia⟩
  exact sn_rol G m (by lia) t
section
variable {α:Type} [DecidableEq α] [Enc α]
theorem any_enc (L:List α) (t:α):(L.map enc).any (eqD · (enc t))=decide (t∈L):=by
 induction L with
 | nil=>simp
 | cons a r ih =>
  simp only [List.map_cons,List.any_cons,Enc.eqv,ih,List.mem_cons]
  by_cases h:a=t
  ·simp [h]
  ·have h':¬ t=a:=fun z=>h z.symm
   by_cases h2:t∈r <;> simp [h,h',h2]
end
section
variable {κ α:Type} [DecidableEq κ] [Enc κ] [DecidableEq α] [Enc α]
noncomputable def encKV (l:List (κ×α)):List (D×D):=l.map fun p=>(enc p.1,enc p.2)
noncomputable def aget (l:List (κ×α)) (k:κ):Option α:=(l.find? fun p=>p.1=k).map (·.2)
noncomputable def aput (l:List (κ×α)) (k:κ) (v:α):List (κ×α):=if (l.any fun p=>p.1=k)=true then l.map (fun p=>if p.1=k then (p.1,v) else p) else l++[(k,v)]
theorem look_enc (l:List (κ×α)) (k:κ):look (encKV l) (enc k)=(aget l k).map enc:=by
 unfold look aget encKV
 induction l with
 | nil=>rfl
 | cons p r ih =>
  rw [List.map_cons,List.find?_cons,List.find?_cons]
  simp only [Enc.eqv]
  by_cases h:p.1=k
  ·simp [h]
  ·simp only [h,decide_false]; exact ih
theorem put_enc (l:List (κ×α)) (k:κ) (v:α):put (encKV l) (enc k) (enc v)=encKV (aput l k v):=by
 unfold put aput
 have e:((encKV l).any fun p=>eqD p.1 (enc k))=l.any fun p=>decide (p.1=k):=by
  unfold encKV; rw [List.any_map]; congr 1; funext p; exact Enc.eqv _ _
 rw [e]
 split
 ·unfold encKV; rw [List.map_map,List.map_map]
  refine List.map_congr_left fun p _=>?_
  simp only [Function.comp,Enc.eqv,decide_eq_true_eq]
  split <;> rfl
 ·unfold encKV; rw [List.map_append]; rfl
theorem aget_aput (l:List (κ×α)) (k j:κ) (v:α):aget (aput l k v) j=if k=j then some v else aget l j:=by
 unfold aput
 split
 ·rename_i h
  unfold aget
  induction l with
  | nil=>simp at h
  | cons p r ih =>
   rw [List.map_cons,List.find?_cons,List.find?_cons]
   by_cases h1:p.1=k
   ·rw [if_pos h1]
    by_cases h2:k=j
    ·simp [h1,h2]
    ·have:¬ p.1=j:=fun z=>h2 (h1.symm.trans z)
     simp only [this,decide_false,h2,if_false]
     by_cases h3:(r.any fun p=>decide (p.1=k))=true
     ·have:=ih h3
      rw [if_neg h2] at this
      exact this
     ·congr 1
      have:r.map (fun p=>if p.1=k then (p.1,v) else p)=r:=by
       conv=>rhs; rw [← List.map_id r]
       refine List.map_congr_left fun q hq=>?_
       rw [if_neg]; rfl
       intro z; exact h3 (List.any_eq_true.mpr ⟨q,hq,by simpa using z⟩)
      rw [this]
   ·rw [if_neg h1]
    have h3:(r.any fun p=>decide (p.1=k))=true:=by simpa [h1] using h
    by_cases h2:p.1=j
    ·have:¬ k=j:=fun z=>h1 (h2.trans z.symm)
     simp [h2,this]
    ·simp only [h2,decide_false]; exact ih h3
 ·rename_i h
  unfold aget
  rw [List.find?_append]
  by_cases h2:k=j
  ·subst h2
   have:l.find? (fun p=>decide (p.1=k))=none:=by
    rw [List.find?_eq_none]
    intro p hp z
    exact h (List.any_eq_true.mpr ⟨p,hp,z⟩)
   rw [this]; simp
  ·simp [h2]
theorem aput_len (l:List (κ×α)) (k:κ) (v:α):(aput l k v).length<=l.length+1:=by
 unfold aput; split <;> simp
end
class EncKey (κ:Type) [DecidableEq κ] [Enc κ] where
 ok:(∀ k:κ,keyOk1 (enc k)=true)\/∀ k:κ,keyOkT (enc k)=true
noncomputable instance:EncKey Int:=⟨.inl fun _=>rfl⟩
noncomputable instance:EncKey T2:=⟨.inr fun _=>rfl⟩
noncomputable instance:EncKey T3:=⟨.inr fun _=>rfl⟩
theorem kindOk_enc {κ α:Type} [DecidableEq κ] [Enc κ] [EncKey κ] [DecidableEq α] [Enc α] (l:List (κ×α)) (k:κ):kindOk (encKV l) (enc k)=true:=by
 unfold kindOk encKV
 rcases EncKey.ok (κ:=κ) with h | h
 ·rw [Bool.or_eq_true]; left
  rw [h k,Bool.true_and,List.all_map,List.all_eq_true]
  intro p _; exact h p.1
 ·rw [Bool.or_eq_true]; right
  rw [h k,Bool.true_and,List.all_map,List.all_eq_true]
  intro p _; exact h p.1
end K2
end
section
namespace K2
open PySem (Str)
open Enc (enc)
mutual
noncomputable def ltD:D->D->Bool
 | .int a,.int b=>decide (a < b)
 | .tup a,.tup b=>ltDs a b
 | .rol a,.rol b=>ltDs a b
 | _,_=>false
noncomputable def ltDs:List D->List D->Bool
 | [],[]=>false
 | [],_ :: _=>true
 | _ :: _,[]=>false
 | x :: xs,y :: ys=>if eqD x y=true then ltDs xs ys else ltD x y
end
theorem ltDs_c (x y:D) (xs ys:List D):ltDs (x :: xs) (y :: ys)=if eqD x y=true then ltDs xs ys else ltD x y:=rfl
theorem ltD_i (a b:Int):ltD (.int a) (.int b)=decide (a < b):=rfl
inductive Shp where
 | int | tup (l:List Shp) | lst (s:Shp)
mutual
noncomputable def hasS:Shp->D->Bool
 | .int,.int _=>true
 | .tup l,.tup ds=>hasSs l ds
 | .lst s,.rol ds=>hasSl s ds
 | _,_=>false
noncomputable def hasSs:List Shp->List D->Bool
 | [],[]=>true
 | s :: l,d :: ds=>hasS s d&&hasSs l ds
 | _,_=>false
noncomputable def hasSl:Shp->List D->Bool
 | _,[]=>true
 | s,d :: ds=>hasS s d&&hasSl s ds
end
theorem hasS_i {a:D} (h:hasS .int a=true):∃ i,a=.int i:=by cases a <;> first | exact ⟨_,rfl⟩ | exact Bool.noConfusion (show false=true from h)
theorem hasS_t {l:List Shp} {a:D} (h:hasS (.tup l) a=true):∃ x,a=.tup x:=by cases a <;> first | exact ⟨_,rfl⟩ | exact Bool.noConfusion (show false=true from h)
theorem hasS_l {l:Shp} {a:D} (h:hasS (.lst l) a=true):∃ x,a=.rol x:=by cases a <;> first | exact ⟨_,rfl⟩ | exact Bool.noConfusion (show false=true from h)
mutual
noncomputable def dpS:Shp->Nat
 | .int=>0
 | .tup l=>dpSs l+1
 | .lst s=>dpS s+1
noncomputable def dpSs:List Shp->Nat
 | []=>0
 | s :: l=>max (dpS s) (dpSs l)
end
noncomputable def okSh (sh:Shp):Bool:=decide (dpS sh<=7)&&(match sh with
 | .tup []=>false
 | _=>true)
noncomputable def leD (a b:D):Bool:=!ltD b a
noncomputable def sortD (ds:List D):List D:=ds.mergeSort leD
noncomputable def cSorted (ds:List D) (G:Gp) (Q:DK):Prop:=match ds with
 | [x]=>∃ (sh:Shp) (xs:List D),tyL x G/\itemsOf x G=some xs/\xs.all (hasS sh)=true/\okSh sh=true/\xs.length < 64/\dNew G (.lst (sortD xs)) Q
 | _=>False
class EncOrd (α:Type) [DecidableEq α] [Enc α] where
 lt:α->α->Bool
 shp:Shp
 hass:∀ a:α,hasS shp (enc a)=true
 ltd:∀ a b:α,ltD (enc a) (enc b)=lt a b
 irr:∀ a,lt a a=false
 trans:∀ a b c,lt a b=true->lt b c=true->lt a c=true
 tot:∀ a b,lt a b=false->lt b a=false->a=b
noncomputable instance:EncOrd Int where
 lt:=fun a b=>decide (a < b)
 shp:=.int
 hass:=fun _=>rfl
 ltd:=fun a b=>rfl
 irr:=fun a=>by simp
 trans:=fun a b c h1 h2=>by simp at *; lia
 tot:=fun a b h1 h2=>by simp at *; lia
noncomputable def lexO {α:Type} [DecidableEq α] (lt:α->α->Bool):List α->List α->Bool
 | [],[]=>false
 | [],_ :: _=>true
 | _ :: _,[]=>false
 | x :: xs,y :: ys=>if x=y then lexO lt xs ys else lt x y
theorem lexO_c {α:Type} [DecidableEq α] (lt:α->α->Bool) (x y:α) (xs ys:List α):lexO lt (x :: xs) (y :: ys)=if x=y then lexO lt xs ys else lt x y:=rfl
section
variable {α:Type} [DecidableEq α] {lt:α->α->Bool}
theorem lexO_irr:∀ x:List α,lexO lt x x=false
 | []=>rfl
 | a :: x=>by simp only [lexO_c,if_true]; exact lexO_irr x
theorem lexO_tot (t:∀ a b,lt a b=false->lt b a=false->a=b):∀ (x y:List α),lexO lt x y=false->lexO lt y x=false->x=y
 | [],[],_,_=>rfl
 | [],_ :: _,h,_=>by cases h
 | _ :: _,[],_,h=>by cases h
 | a :: x,b :: y,h1,h2=>by
  simp only [lexO_c] at h1 h2
  by_cases e:a=b
  ·subst e
   simp only [if_true] at h1 h2
   rw [lexO_tot t x y h1 h2]
  ·rw [if_neg e] at h1
   rw [if_neg (Ne.symm e)] at h2
   exact absurd (t a b h1 h2) e
theorem lexO_trans (ir:∀ a,lt a a=false) (tr:∀ a b c,lt a b=true->lt b c=true->lt a c=true):∀ (x y z:List α),lexO lt x y=true->lexO lt y z=true->lexO lt x z=true
 | [],[],_,h,_=>by cases h
 | [],_ :: _,[],_,h=>by cases h
 | [],_ :: _,_ :: _,_,_=>rfl
 | _ :: _,[],_,h,_=>by cases h
 | _ :: _,_ :: _,[],_,h=>by cases h
 | a :: x,b :: y,c :: z,h1,h2=>by
  simp only [lexO_c] at h1 h2 ⊢
  by_cases e1:a=b
  ·subst e1
   simp only [if_true] at h1
   by_cases e2:a=c
   ·subst e2
    simp only [if_true] at h2 ⊢
    exact lexO_trans ir tr x y z h1 h2
   ·rw [if_neg e2] at h2 ⊢; exact h2
  ·rw [if_neg e1] at h1
   by_cases e2:b=c
   ·subst e2
    rw [if_neg e1]; exact h1
   ·rw [if_neg e2] at h2
    have h3:=tr _ _ _ h1 h2
    rw [if_neg (by rintro rfl; rw [ir] at h3; cases h3)]; exact h3
end
theorem ltDs_enc {α:Type} [DecidableEq α] [Enc α] [EncOrd α]:∀ (x y:List α),ltDs (x.map enc) (y.map enc)=lexO (EncOrd.lt (α:=α)) x y
 | [],[]=>rfl
 | [],_ :: _=>rfl
 | _ :: _,[]=>rfl
 | a :: x,b :: y=>by simp only [List.map_cons,ltDs_c,lexO_c,Enc.eqv,ltDs_enc x y,EncOrd.ltd,decide_eq_true_eq]
theorem hasSl_enc {α:Type} [DecidableEq α] [Enc α] [EncOrd α]:∀ (x:List α),hasSl (EncOrd.shp α) (x.map enc)=true
 | []=>rfl
 | a :: x=>by simp only [List.map_cons,hasSl,EncOrd.hass,hasSl_enc x,Bool.and_self]
noncomputable instance {α:Type} [DecidableEq α] [Enc α] [EncOrd α]:EncOrd (List α) where
 lt:=lexO EncOrd.lt
 shp:=.lst (EncOrd.shp α)
 hass:=fun a=>hasSl_enc a
 ltd:=fun a b=>ltDs_enc a b
 irr:=lexO_irr
 trans:=lexO_trans EncOrd.irr EncOrd.trans
 tot:=lexO_tot EncOrd.tot
noncomputable def T2.l (t:T2):List Int:=[t.a,t.b]
noncomputable def T3.l (t:T3):List Int:=[t.a,t.b,t.c]
noncomputable instance:EncOrd T2 where
 lt:=fun x y=>lexO (fun a b=>decide (a < b)) x.l y.l
 shp:=.tup [.int,.int]
 hass:=fun _=>rfl
 ltd:=fun a b=>ltDs_enc a.l b.l
 irr:=fun a=>lexO_irr _
 trans:=fun a b c=>lexO_trans (α:=Int) EncOrd.irr EncOrd.trans _ _ _
 tot:=fun ⟨a,b⟩ ⟨c,d⟩ h1 h2=>by
  have:=lexO_tot (α:=Int) EncOrd.tot _ _ h1 h2
  simpa [T2.l] using this
noncomputable instance:EncOrd T3 where
 lt:=fun x y=>lexO (fun a b=>decide (a < b)) x.l y.l
 shp:=.tup [.int,.int,.int]
 hass:=fun _=>rfl
 ltd:=fun a b=>ltDs_enc a.l b.l
 irr:=fun a=>lexO_irr _
 trans:=fun a b c=>lexO_trans (α:=Int) EncOrd.irr EncOrd.trans _ _ _
 tot:=fun ⟨a,b,e⟩ ⟨c,d,f⟩ h1 h2=>by
  have:=lexO_tot (α:=Int) EncOrd.tot _ _ h1 h2
  simpa [T3.l] using this
section
variable {α:Type} [DecidableEq α] [Enc α] [EncOrd α]
noncomputable def leO (a b:α):Bool:=!EncOrd.lt b a
noncomputable def srt (xs:List α):List α:=xs.mergeSort leO
theorem sortD_enc (xs:List α):sortD (xs.map enc)=(srt xs).map enc:=by
 unfold sortD srt
 symm
 exact List.map_mergeSort fun a _ b _=>by unfold leO leD; rw [EncOrd.ltd]
theorem leO_trans (a b c:α) (h1:leO a b=true) (h2:leO b c=true):leO a c=true:=by
 unfold leO at *
 simp only [Bool.not_eq_true'] at *
 cases h:EncOrd.lt c a with
 | false=>rfl
 | true =>
  by_cases e:a=b
  ·subst e; rw [h] at h2; cases h2
  ·have hab:EncOrd.lt a b=true:=by
    cases q:EncOrd.lt a b with
    | true=>rfl
    | false=>exact absurd (EncOrd.tot _ _ q h1) e
   rw [EncOrd.trans _ _ _ h hab] at h2; cases h2
theorem leO_total (a b:α):(leO a b||leO b a)=true:=by
 unfold leO
 cases h:EncOrd.lt b a with
 | false=>rfl
 | true =>
  cases h2:EncOrd.lt a b with
  | false=>rfl
  | true=>have:=EncOrd.trans _ _ _ h h2; rw [EncOrd.irr] at this; cases this
theorem leO_anti (a b:α) (h1:leO a b=true) (h2:leO b a=true):a=b:=by
 unfold leO at *
 exact EncOrd.tot a b (by simpa using h2) (by simpa using h1)
theorem srt_perm (xs:List α):(srt xs).Perm xs:=List.mergeSort_perm xs leO
theorem srt_sorted (xs:List α):(srt xs).Pairwise fun a b=>leO a b=true:=List.pairwise_mergeSort leO_trans leO_total xs
theorem sorted_unique:∀ {xs ys:List α},xs.Perm ys->xs.Pairwise (fun a b=>leO a b=true)->ys.Pairwise (fun a b=>leO a b=true)->xs=ys:=by
 intro xs ys hp h1 h2
 exact List.Perm.eq_of_pairwise (fun a b _ _ h h'=>leO_anti a b h h') h1 h2 hp
theorem srt_eq {xs ys:List α} (h:xs.Perm ys):srt xs=srt ys:=sorted_unique (((srt_perm xs).trans h).trans (srt_perm ys).symm) (srt_sorted xs) (srt_sorted ys)
theorem srt_mem {xs:List α} {x:α}:x∈srt xs↔x∈xs:=(srt_perm xs).mem_iff
theorem srt_len (xs:List α):(srt xs).length=xs.length:=(srt_perm xs).length_eq
theorem srt_nodup {xs:List α} (h:xs.Nodup):(srt xs).Nodup:=(srt_perm xs).nodup_iff.mpr h
end
end K2
end
section
namespace K2
open PySem (Str)
mutual
theorem eqD_refl_S:∀ (sh:Shp) (a:D),hasS sh a=true->eqD a a=true
 | .int,.int i,_=>by show (i == i)=true; exact beq_self_eq_true i
 | .tup l,.tup xs,h=>by show eqDs xs xs=true; exact eqDs_refl_S l xs h
 | .lst l,.rol xs,h=>by show eqDs xs xs=true; exact eqDs_refl_L l xs h
theorem eqDs_refl_S:∀ (l:List Shp) (xs:List D),hasSs l xs=true->eqDs xs xs=true
 | [],[],_=>rfl
 | s :: l,x :: xs,h=>by
  have h:(hasS s x&&hasSs l xs)=true:=h
  rw [Bool.and_eq_true] at h
  show (eqD x x&&eqDs xs xs)=true
  rw [eqD_refl_S s x h.1,eqDs_refl_S l xs h.2]; rfl
theorem eqDs_refl_L:∀ (s:Shp) (xs:List D),hasSl s xs=true->eqDs xs xs=true
 | _,[],_=>rfl
 | s,x :: xs,h=>by
  have h:(hasS s x&&hasSl s xs)=true:=h
  rw [Bool.and_eq_true] at h
  show (eqD x x&&eqDs xs xs)=true
  rw [eqD_refl_S s x h.1,eqDs_refl_L s xs h.2]; rfl
end
theorem eqDs_L (s:Shp) (ih:∀ (a b:D),hasS s a=true->hasS s b=true->eqD a b=true->a=b):∀ (xs ys:List D),hasSl s xs=true->hasSl s ys=true->eqDs xs ys=true->xs=ys:=by
 intro xs
 induction xs with
 | nil=>intro ys _ _ h; cases ys with
  | nil=>rfl
  | cons _ _=>cases h
 | cons x xs ihx =>
  intro ys h1 h2 h
  cases ys with
  | nil=>cases h
  | cons y ys =>
   have h1:(hasS s x&&hasSl s xs)=true:=h1
   have h2:(hasS s y&&hasSl s ys)=true:=h2
   have h:(eqD x y&&eqDs xs ys)=true:=h
   rw [Bool.and_eq_true] at h1 h2 h
   rw [ih x y h1.1 h2.1 h.1,ihx ys h1.2 h2.2 h.2]
mutual
theorem eqD_S:∀ (sh:Shp) (a b:D),hasS sh a=true->hasS sh b=true->eqD a b=true->a=b
 | .int,a,b,h1,h2,h=>by
  first | obtain ⟨_,rfl⟩:=hasS_i h1 | obtain ⟨_,rfl⟩:=hasS_t h1 | obtain ⟨_,rfl⟩:=hasS_l h1
  first | obtain ⟨_,rfl⟩:=hasS_i h2 | obtain ⟨_,rfl⟩:=hasS_t h2 | obtain ⟨_,rfl⟩:=hasS_l h2
  rw [eqD_ii] at h; rw [beq_iff_eq.mp h]
 | .tup l,a,b,h1,h2,h=>by
  first | obtain ⟨_,rfl⟩:=hasS_i h1 | obtain ⟨_,rfl⟩:=hasS_t h1 | obtain ⟨_,rfl⟩:=hasS_l h1
  first | obtain ⟨_,rfl⟩:=hasS_i h2 | obtain ⟨_,rfl⟩:=hasS_t h2 | obtain ⟨_,rfl⟩:=hasS_l h2
  rw [eqDs_S l _ _ h1 h2 h]
 | .lst l,a,b,h1,h2,h=>by
  first | obtain ⟨_,rfl⟩:=hasS_i h1 | obtain ⟨_,rfl⟩:=hasS_t h1 | obtain ⟨_,rfl⟩:=hasS_l h1
  first | obtain ⟨_,rfl⟩:=hasS_i h2 | obtain ⟨_,rfl⟩:=hasS_t h2 | obtain ⟨_,rfl⟩:=hasS_l h2
  rw [eqDs_L l (eqD_S l) _ _ h1 h2 h]
theorem eqDs_S:∀ (l:List Shp) (xs ys:List D),hasSs l xs=true->hasSs l ys=true->eqDs xs ys=true->xs=ys
 | [],xs,ys,h1,h2,_=>by
  cases xs with
  | nil=>cases ys with
   | nil=>rfl
   | cons _ _=>cases h2
  | cons _ _=>cases h1
 | s :: l,xs,ys,h1,h2,h=>by
  cases xs with
  | nil=>cases h1
  | cons x xs =>
   cases ys with
   | nil=>cases h2
   | cons y ys =>
    have h1:(hasS s x&&hasSs l xs)=true:=h1
    have h2:(hasS s y&&hasSs l ys)=true:=h2
    have h:(eqD x y&&eqDs xs ys)=true:=h
    rw [Bool.and_eq_true] at h1 h2 h
    rw [eqD_S s x y h1.1 h2.1 h.1,eqDs_S l xs ys h1.2 h2.2 h.2]
end
theorem ltDl_tot (s:Shp) (ih:∀ (a b:D),hasS s a=true->hasS s b=true->ltD a b=false->ltD b a=false->a=b):∀ (xs ys:List D),hasSl s xs=true->hasSl s ys=true->ltDs xs ys=false->ltDs ys xs=false->xs=ys:=by
 intro xs
 induction xs with
 | nil=>intro ys _ _ h _; cases ys with
  | nil=>rfl
  | cons _ _=>cases h
 | cons x xs ihx =>
  intro ys h1 h2 h3 h4
  cases ys with
  | nil=>cases h4
  | cons y ys =>
   have h1:(hasS s x&&hasSl s xs)=true:=h1
   have h2:(hasS s y&&hasSl s ys)=true:=h2
   rw [Bool.and_eq_true] at h1 h2
   simp only [ltDs_c] at h3 h4
   by_cases e:eqD x y=true
   ·have exy:=eqD_S s x y h1.1 h2.1 e
    subst exy
    rw [if_pos e] at h3 h4
    rw [ihx ys h1.2 h2.2 h3 h4]
   ·rw [if_neg e] at h3
    by_cases e2:eqD y x=true
    ·have:=eqD_S s y x h2.1 h1.1 e2
     subst this; exact absurd e2 e
    ·rw [if_neg e2] at h4
     have:=ih x y h1.1 h2.1 h3 h4
     subst this
     exact absurd (eqD_refl_S s x h1.1) e
mutual
theorem ltD_tot:∀ (sh:Shp) (a b:D),hasS sh a=true->hasS sh b=true->ltD a b=false->ltD b a=false->a=b
 | .int,a,b,h1,h2,h3,h4=>by
  first | obtain ⟨_,rfl⟩:=hasS_i h1 | obtain ⟨_,rfl⟩:=hasS_t h1 | obtain ⟨_,rfl⟩:=hasS_l h1
  first | obtain ⟨_,rfl⟩:=hasS_i h2 | obtain ⟨_,rfl⟩:=hasS_t h2 | obtain ⟨_,rfl⟩:=hasS_l h2
  simp [ltD_i] at h3 h4; congr 1; lia
 | .tup l,a,b,h1,h2,h3,h4=>by
  first | obtain ⟨_,rfl⟩:=hasS_i h1 | obtain ⟨_,rfl⟩:=hasS_t h1 | obtain ⟨_,rfl⟩:=hasS_l h1
  first | obtain ⟨_,rfl⟩:=hasS_i h2 | obtain ⟨_,rfl⟩:=hasS_t h2 | obtain ⟨_,rfl⟩:=hasS_l h2
  rw [ltDs_tot l _ _ h1 h2 h3 h4]
 | .lst l,a,b,h1,h2,h3,h4=>by
  first | obtain ⟨_,rfl⟩:=hasS_i h1 | obtain ⟨_,rfl⟩:=hasS_t h1 | obtain ⟨_,rfl⟩:=hasS_l h1
  first | obtain ⟨_,rfl⟩:=hasS_i h2 | obtain ⟨_,rfl⟩:=hasS_t h2 | obtain ⟨_,rfl⟩:=hasS_l h2
  rw [ltDl_tot l (ltD_tot l) _ _ h1 h2 h3 h4]
theorem ltDs_tot:∀ (l:List Shp) (xs ys:List D),hasSs l xs=true->hasSs l ys=true->ltDs xs ys=false->ltDs ys xs=false->xs=ys
 | [],xs,ys,h1,h2,_,_=>by
  cases xs with
  | nil=>cases ys with
   | nil=>rfl
   | cons _ _=>cases h2
  | cons _ _=>cases h1
 | s :: l,xs,ys,h1,h2,h3,h4=>by
  cases xs with
  | nil=>cases h1
  | cons x xs =>
   cases ys with
   | nil=>cases h2
   | cons y ys =>
    have h1:(hasS s x&&hasSs l xs)=true:=h1
    have h2:(hasS s y&&hasSs l ys)=true:=h2
    rw [Bool.and_eq_true] at h1 h2
    simp only [ltDs_c] at h3 h4
    by_cases e:eqD x y=true
    ·have exy:=eqD_S s x y h1.1 h2.1 e
     subst exy
     rw [if_pos e] at h3 h4
     rw [ltDs_tot l xs ys h1.2 h2.2 h3 h4]
    ·rw [if_neg e] at h3
     by_cases e2:eqD y x=true
     ·have:=eqD_S s y x h2.1 h1.1 e2
      subst this; exact absurd e2 e
     ·rw [if_neg e2] at h4
      have:=ltD_tot s x y h1.1 h2.1 h3 h4
      subst this
      exact absurd (eqD_refl_S s x h1.1) e
end
mutual
theorem ltD_irr:∀ (sh:Shp) (a:D),hasS sh a=true->ltD a a=false
 | .int,.int i,_=>by rw [ltD_i]; exact decide_eq_false (Int.lt_irrefl _)
 | .tup l,.tup xs,h=>by show ltDs xs xs=false; exact ltDs_irr l xs h
 | .lst l,.rol xs,h=>by show ltDs xs xs=false; exact ltDl_irr l xs h
theorem ltDs_irr:∀ (l:List Shp) (xs:List D),hasSs l xs=true->ltDs xs xs=false
 | [],[],_=>rfl
 | s :: l,x :: xs,h=>by
  have h:(hasS s x&&hasSs l xs)=true:=h
  rw [Bool.and_eq_true] at h
  simp only [ltDs_c,eqD_refl_S s x h.1,if_true]; exact ltDs_irr l xs h.2
theorem ltDl_irr:∀ (s:Shp) (xs:List D),hasSl s xs=true->ltDs xs xs=false
 | _,[],_=>rfl
 | s,x :: xs,h=>by
  have h:(hasS s x&&hasSl s xs)=true:=h
  rw [Bool.and_eq_true] at h
  simp only [ltDs_c,eqD_refl_S s x h.1,if_true]; exact ltDl_irr s xs h.2
end
theorem ltDl_trans (s:Shp) (ih:∀ (a b c:D),hasS s a=true->hasS s b=true->hasS s c=true->ltD a b=true->ltD b c=true->ltD a c=true):∀ (xs ys zs:List D),hasSl s xs=true->hasSl s ys=true->hasSl s zs=true->ltDs xs ys=true->ltDs ys zs=true->ltDs xs zs=true:=by
 intro xs
 induction xs with
 | nil =>
  intro ys zs _ _ _ h4 h5
  cases ys with
  | nil=>cases h4
  | cons _ _=>cases zs with
   | nil=>cases h5
   | cons _ _=>rfl
 | cons x xs ihx =>
  intro ys zs h1 h2 h3 h4 h5
  cases ys with
  | nil=>cases h4
  | cons y ys =>
   cases zs with
   | nil=>cases h5
   | cons z zs =>
    have h1:(hasS s x&&hasSl s xs)=true:=h1
    have h2:(hasS s y&&hasSl s ys)=true:=h2
    have h3:(hasS s z&&hasSl s zs)=true:=h3
    rw [Bool.and_eq_true] at h1 h2 h3
    simp only [ltDs_c] at h4 h5 ⊢
    by_cases e1:eqD x y=true
    ·have:=eqD_S s x y h1.1 h2.1 e1
     subst this
     rw [if_pos e1] at h4
     by_cases e2:eqD x z=true
     ·rw [if_pos e2] at h5 ⊢
      exact ihx ys zs h1.2 h2.2 h3.2 h4 h5
     ·rw [if_neg e2] at h5 ⊢; exact h5
    ·rw [if_neg e1] at h4
     by_cases e2:eqD y z=true
     ·have:=eqD_S s y z h2.1 h3.1 e2
      subst this
      rw [if_neg e1]; exact h4
     ·rw [if_neg e2] at h5
      have h6:=ih x y z h1.1 h2.1 h3.1 h4 h5
      rw [if_neg (fun e3=>by
       have:=eqD_S s x z h1.1 h3.1 e3
       subst this
       rw [ltD_irr s x h1.1] at h6; cases h6)]
      exact h6
mutual
theorem ltD_trans:∀ (sh:Shp) (a b c:D),hasS sh a=true->hasS sh b=true->hasS sh c=true->ltD a b=true->ltD b c=true->ltD a c=true
 | .int,a,b,c,h1,h2,h3,h4,h5=>by
  first | obtain ⟨_,rfl⟩:=hasS_i h1 | obtain ⟨_,rfl⟩:=hasS_t h1 | obtain ⟨_,rfl⟩:=hasS_l h1
  first | obtain ⟨_,rfl⟩:=hasS_i h2 | obtain ⟨_,rfl⟩:=hasS_t h2 | obtain ⟨_,rfl⟩:=hasS_l h2
  first | obtain ⟨_,rfl⟩:=hasS_i h3 | obtain ⟨_,rfl⟩:=hasS_t h3 | obtain ⟨_,rfl⟩:=hasS_l h3
  simp [ltD_i] at *; lia
 | .tup l,a,b,c,h1,h2,h3,h4,h5=>by
  first | obtain ⟨_,rfl⟩:=hasS_i h1 | obtain ⟨_,rfl⟩:=hasS_t h1 | obtain ⟨_,rfl⟩:=hasS_l h1
  first | obtain ⟨_,rfl⟩:=hasS_i h2 | obtain ⟨_,rfl⟩:=hasS_t h2 | obtain ⟨_,rfl⟩:=hasS_l h2
  first | obtain ⟨_,rfl⟩:=hasS_i h3 | obtain ⟨_,rfl⟩:=hasS_t h3 | obtain ⟨_,rfl⟩:=hasS_l h3
  exact ltDs_trans l _ _ _ h1 h2 h3 h4 h5
 | .lst l,a,b,c,h1,h2,h3,h4,h5=>by
  first | obtain ⟨_,rfl⟩:=hasS_i h1 | obtain ⟨_,rfl⟩:=hasS_t h1 | obtain ⟨_,rfl⟩:=hasS_l h1
  first | obtain ⟨_,rfl⟩:=hasS_i h2 | obtain ⟨_,rfl⟩:=hasS_t h2 | obtain ⟨_,rfl⟩:=hasS_l h2
  first | obtain ⟨_,rfl⟩:=hasS_i h3 | obtain ⟨_,rfl⟩:=hasS_t h3 | obtain ⟨_,rfl⟩:=hasS_l h3
  exact ltDl_trans l (ltD_trans l) _ _ _ h1 h2 h3 h4 h5
theorem ltDs_trans:∀ (l:List Shp) (xs ys zs:List D),hasSs l xs=true->hasSs l ys=true->hasSs l zs=true->ltDs xs ys=true->ltDs ys zs=true->ltDs xs zs=true
 | [],xs,ys,zs,h1,h2,_,h,_=>by
  cases xs with
  | nil=>cases ys with
   | nil=>cases h
   | cons _ _=>cases h2
  | cons _ _=>cases h1
 | s :: l,xs,ys,zs,h1,h2,h3,h4,h5=>by
  cases xs with
  | nil=>cases h1
  | cons x xs =>
   cases ys with
   | nil=>cases h2
   | cons y ys =>
    cases zs with
    | nil=>cases h3
    | cons z zs =>
     have h1:(hasS s x&&hasSs l xs)=true:=h1
     have h2:(hasS s y&&hasSs l ys)=true:=h2
     have h3:(hasS s z&&hasSs l zs)=true:=h3
     rw [Bool.and_eq_true] at h1 h2 h3
     simp only [ltDs_c] at h4 h5 ⊢
     by_cases e1:eqD x y=true
     ·have:=eqD_S s x y h1.1 h2.1 e1
      subst this
      rw [if_pos e1] at h4
      by_cases e2:eqD x z=true
      ·rw [if_pos e2] at h5 ⊢
       exact ltDs_trans l xs ys zs h1.2 h2.2 h3.2 h4 h5
      ·rw [if_neg e2] at h5 ⊢; exact h5
     ·rw [if_neg e1] at h4
      by_cases e2:eqD y z=true
      ·have:=eqD_S s y z h2.1 h3.1 e2
       subst this
       rw [if_neg e1]; exact h4
      ·rw [if_neg e2] at h5
       have h6:=ltD_trans s x y z h1.1 h2.1 h3.1 h4 h5
       rw [if_neg (fun e3=>by
        have:=eqD_S s x z h1.1 h3.1 e3
        subst this
        rw [ltD_irr s x h1.1] at h6; cases h6)]
       exact h6
end
theorem ltD_asymm (sh:Shp) {a b:D} (h1:hasS sh a=true) (h2:hasS sh b=true) (h:ltD a b=true):ltD b a=false:=by
 cases q:ltD b a with
 | false=>rfl
 | true=>have:=ltD_trans sh a b a h1 h2 h1 h q; rw [ltD_irr sh a h1] at this; cases this
theorem ltD_ntrans (sh:Shp) {a b c:D} (h1:hasS sh a=true) (h2:hasS sh b=true) (h3:hasS sh c=true) (q1:ltD b a=false) (q2:ltD c b=false):ltD c a=false:=by
 cases h:ltD c a with
 | false=>rfl
 | true =>
  exfalso
  cases q:ltD a b with
  | false =>
   have:=ltD_tot sh a b h1 h2 q q1
   subst this; rw [h] at q2; cases q2
  | true=>rw [ltD_trans sh c a b h3 h1 h2 h q] at q2; cases q2
theorem sortD_unique (sh:Shp) {xs ys:List D} (hx:∀ x∈xs,hasS sh x=true) (hp:ys.Perm xs) (hs:ys.Pairwise fun a b=>ltD b a=false):sortD xs=ys:=by
 have hy:∀ y∈ys,hasS sh y=true:=fun y h=>hx y (hp.mem_iff.mp h)
 have p1:(sortD xs).Perm xs:=List.mergeSort_perm xs leD
 have hz:∀ z∈sortD xs,hasS sh z=true:=fun z h=>hx z (p1.mem_iff.mp h)
 have s1:(sortD xs).Pairwise fun a b=>ltD b a=false:=by
  let xs':List { d:D // hasS sh d=true }:=xs.attach.map fun x=>⟨x.1,hx x.1 x.2⟩
  have ex:xs=xs'.map (·.1):=by
   simp only [xs',List.map_map]
   conv=>lhs; rw [← List.attach_map_subtype_val xs]
   rfl
  have e2:sortD xs=(xs'.mergeSort fun a b=>leD a.1 b.1).map (·.1):=by
   unfold sortD
   rw [ex]
   exact (List.map_mergeSort (r:=fun (a b:{ d:D // hasS sh d=true })=>leD a.1 b.1) (s:=leD) (f:=fun x=>x.1) (l:=xs') fun a _ b _=>rfl).symm
  rw [e2,List.pairwise_map]
  have:=List.pairwise_mergeSort (le:=fun (a b:{ d:D // hasS sh d=true })=>leD a.1 b.1) (fun a b c h1 h2=>by
   unfold leD at *
   simp only [Bool.not_eq_true'] at *
   exact ltD_ntrans sh a.2 b.2 c.2 h1 h2) (fun a b=>by
   unfold leD
   cases q:ltD b.1 a.1 with
   | false=>rfl
   | true=>rw [ltD_asymm sh b.2 a.2 q]; rfl) xs'
  exact this.imp fun h=>by unfold leD at h; simpa using h
 refine List.Perm.eq_of_pairwise (le:=fun a b=>ltD b a=false) (fun a b ha hb h h'=>?_) s1 hs (p1.trans hp.symm)
 exact ltD_tot sh a b (hz a ha) (hy b hb) h' h
end K2
end
section
namespace K2
open PySem (Str)
open Enc (enc)
noncomputable def enumD (k:Nat):List D->List D
 | []=>[]
 | d :: r=>.tup [.int (k:Int),d] :: enumD (k+1) r
theorem enumD_get:∀ (ds:List D) (k i:Nat),(enumD k ds)[i]?=(ds[i]?).map fun d=>D.tup [.int ((k+i:Nat):Int),d]
 | [],k,i=>by simp [enumD]
 | d :: r,k,0=>by simp [enumD]
 | d :: r,k,i+1=>by
  rw [enumD,List.getElem?_cons_succ,enumD_get r (k+1) i,List.getElem?_cons_succ]
  congr 1; funext x; congr 3; lia
theorem enumD_len:∀ (ds:List D) (k:Nat),(enumD k ds).length=ds.length
 | [],_=>rfl
 | d :: r,k=>by rw [enumD,List.length_cons,List.length_cons,enumD_len r]
noncomputable def iEnumAt (x:D) (G1:Gp) (R:List D->(Gp->Prop)->Gp->Prop):Prop:=match x with
 | .rol ds=>R (enumD 0 ds) (fun _=>True) G1
 | .ref p=>(match G1 p with
  | some (.lst ds)=>R (enumD 0 ds) (fun G2=>G2 p=some (.lst ds)) G1
  | _=>False)
 | _=>False
noncomputable def iEnum (a:TE2):TI2:=fun E τ G R=>a E τ G fun x G1=>iEnumAt x G1 R
noncomputable def one1 (P:D->Gp->Prop):List D->Gp->Prop
 | [x],G=>P x G
 | _,_=>False
noncomputable def one2 (P:D->D->Gp->Prop):List D->Gp->Prop
 | [x,y],G=>P x y G
 | _,_=>False
noncomputable def zipD:List D->List D->List D
 | x :: xs,y :: ys=>.tup [x,y] :: zipD xs ys
 | _,_=>[]
theorem zipD_get:∀ (xs ys:List D) (i:Nat),(zipD xs ys)[i]?=(xs[i]?).bind fun x=>(ys[i]?).map fun y=>D.tup [x,y]
 | [],ys,i=>by simp [zipD]
 | x :: xs,[],i=>by cases h:(x :: xs)[i]? <;> simp [zipD]
 | x :: xs,y :: ys,0=>by simp [zipD]
 | x :: xs,y :: ys,i+1=>by rw [zipD,List.getElem?_cons_succ,zipD_get xs ys i,List.getElem?_cons_succ,List.getElem?_cons_succ]
theorem zipD_len:∀ (xs ys:List D),(zipD xs ys).length=min xs.length ys.length
 | [],ys=>by simp [zipD]
 | x :: xs,[]=>by simp [zipD]
 | x :: xs,y :: ys=>by rw [zipD,List.length_cons,zipD_len xs ys,List.length_cons,List.length_cons]; lia
noncomputable def lstAt (x:D) (G:Gp):Option (List D×(Gp->Prop)):=match x with
 | .rol ds=>some (ds,fun _=>True)
 | .ref p=>(match G p with
  | some (.lst ds)=>some (ds,fun G2=>G2 p=some (.lst ds))
  | _=>none)
 | _=>none
noncomputable def iZipAt (x y:D) (G1:Gp) (R:List D->(Gp->Prop)->Gp->Prop):Prop:=match lstAt x G1,lstAt y G1 with
 | some (xs,k1),some (ys,k2)=>R (zipD xs ys) (fun G2=>k1 G2/\k2 G2) G1
 | _,_=>False
noncomputable def iZip (a b:TE2):TI2:=fun E τ G R=>a E τ G fun x G1=>b E τ G1 fun y G2=>iZipAt x y G2 R
noncomputable def iDictAt (x:D) (G1:Gp) (R:List D->(Gp->Prop)->Gp->Prop):Prop:=match x with
 | .rod kvs=>R (kvs.map (·.1)) (fun _=>True) G1
 | _=>False
noncomputable def iDict (a:TE2):TI2:=fun E τ G R=>a E τ G fun x G1=>iDictAt x G1 R
noncomputable def IsL (G:Gp) (d:D) (ds:List D):Prop:=d=.rol ds\/∃ a,d=.ref a/\G a=some (.lst ds)
theorem IsL.enc {α:Type} [DecidableEq α] [Enc α] {G:Gp} (xs:List α):IsL G (enc xs) (xs.map enc):=.inl rfl
theorem IsL.ref {G:Gp} {a:Nat} {ds:List D} (h:G a=some (.lst ds)):IsL G (.ref a) ds:=.inr ⟨a,rfl,h⟩
theorem truAt_of {G:Gp} {d:D} {ds:List D} {Q:Bool->Gp->Prop} (h:IsL G d ds) (k:Q (!ds.isEmpty) G):truAt d G Q:=by
 rcases h with rfl | ⟨a,rfl,e⟩
 ·exact k
 ·rw [truAt_lst e]; exact k
theorem itemsOf_of {G:Gp} {d:D} {ds:List D} (h:IsL G d ds):itemsOf d G=some ds:=by
 rcases h with rfl | ⟨a,rfl,e⟩
 ·rfl
 ·unfold itemsOf; simp only [e]
theorem tyL_of {G:Gp} {d:D} {ds:List D} (h:IsL G d ds):tyL d G:=by
 rcases h with rfl | ⟨a,rfl,e⟩
 ·trivial
 ·unfold tyL; simp only [e]
theorem rSl_of {G:Gp} {d:D} {ds:List D} {lo hi:Option Int} {Q:DK} (h:IsL G d ds) (k:dNew G (.lst (cut ds lo hi)) Q):rSl d lo hi G Q:=by
 rcases h with rfl | ⟨a,rfl,e⟩
 ·exact k
 ·rw [rSl_lst e]; exact k
theorem cLen_of {G:Gp} {d:D} {ds:List D} {Q:DK} (h:IsL G d ds) (k:Q (.int (ds.length:Int)) G):cLen [d] G Q:=by
 rcases h with rfl | ⟨a,rfl,e⟩
 ·exact k
 ·rw [cLen_lst e]; exact k
theorem cList_of {G:Gp} {d:D} {ds:List D} {Q:DK} (h:IsL G d ds) (k:dNew G (.lst ds) Q):cList [d] G Q:=by
 unfold cList; simp only [itemsOf_of h]; exact k
theorem cSorted_of {α:Type} [DecidableEq α] [Enc α] [EncOrd α] {G:Gp} {d:D} {xs:List α} {Q:DK} (h:IsL G d (xs.map enc)) (hl:xs.length < 64) (k:dNew G (.lst ((srt xs).map enc)) Q) (ok:autoParam (okSh (EncOrd.shp α)=true) Ad._auto_1):cSorted [d] G Q :=
 ⟨EncOrd.shp α,xs.map enc,tyL_of h,itemsOf_of h,by rw [List.all_map,List.all_eq_true]; intro x _; exact EncOrd.hass x,ok,by rw [List.length_map]; exact hl,by rw [sortD_enc]; exact k⟩
theorem rIx_of {G:Gp} {d x:D} {ds:List D} {i:Int} {Q:DK} (h:IsL G d ds) (e:atI ds i=some x) (k:Q x G):rIx d (.int i) G Q:=by
 rcases h with rfl | ⟨a,rfl,e2⟩
 ·rw [rIx_rol e]; exact k
 ·rw [rIx_lst e2 e]; exact k
theorem lstOf_of {G:Gp} {d:D} {ds:List D} (h:IsL G d ds):lstOf d G=some ds:=by
 rcases h with rfl | ⟨a,rfl,e⟩
 ·rfl
 ·unfold lstOf; simp only [e]
theorem addL_of {G:Gp} {d e:D} {ds es:List D} {Q:DK} (h:IsL G d ds) (h':IsL G e es) (hz:ds.length+es.length<=SZ) (k:dNew G (.lst (ds++es)) Q):addL d e G Q:=by
 unfold addL; simp only [lstOf_of h,lstOf_of h']; exact ⟨hz,k⟩
theorem rAdd_of {G:Gp} {d e:D} {ds es:List D} {Q:DK} (h:IsL G d ds) (h':IsL G e es) (hz:ds.length+es.length<=SZ) (k:dNew G (.lst (ds++es)) Q):rAdd d e G Q:=by
 have:=addL_of h h' hz k
 rcases h with rfl | ⟨a,rfl,_⟩
 ·rw [rAdd_rol]; exact this
 ·rw [rAdd_ref]; exact this
theorem cut_from {α:Type} (xs:List α) (i:Nat) (h:i<=xs.length):cut xs (some (i:Int)) none=xs.drop i:=by
 unfold cut sIx
 simp only
 rw [if_neg (by lia),Int.toNat_natCast,Nat.min_eq_left h]
 exact List.take_of_length_le (by rw [List.length_drop]; lia)
theorem cut_to {α:Type} (xs:List α) (i:Nat) (h:i<=xs.length):cut xs none (some (i:Int))=xs.take i:=by
 unfold cut sIx
 simp only
 rw [if_neg (by lia),Int.toNat_natCast,Nat.min_eq_left h]
 simp
theorem cut_map {α β:Type} (f:α->β) (xs:List α) (lo hi:Option Int):cut (xs.map f) lo hi=(cut xs lo hi).map f:=by
 unfold cut; rw [List.length_map,List.map_take,List.map_drop]
theorem atI_nat {α:Type} (xs:List α) {k:Int} (h0:0<=k) (h1:k < xs.length):atI xs k=some (xs[k.toNat]'(by lia)):=by
 unfold atI ixN
 rw [if_pos h0,if_pos h1]
 show xs[k.toNat]?=_
 exact List.getElem?_eq_getElem (by lia)
noncomputable def spF1 {α β:Type} [DecidableEq α] [Enc α] [DecidableEq β] [Enc β] (pre:α->Prop) (f:α->β):Sp2:=fun ds G Q _=>∃ a:α,ds=[enc a]/\pre a/\Q (enc (f a)) G
noncomputable def spF2 {α β γ:Type} [DecidableEq α] [Enc α] [DecidableEq β] [Enc β] [DecidableEq γ] [Enc γ] (pre:α->β->Prop) (f:α->β->γ):Sp2:=fun ds G Q _=>∃ (a:α) (b:β),ds=[enc a,enc b]/\pre a b/\Q (enc (f a b)) G
end K2
end
section
namespace K2
open PySem (Str)
open Enc (enc)
noncomputable abbrev TF2:=XK2->St2->Gp->(List Str->Gp->Prop)->Prop
end K2
end
section
namespace K2
noncomputable def dRaise (x:PySem.Str) (t:TA2):TS2:=fun E _ τ G=>t E τ G fun ds _=>ds.length<=SZ/\E ⟨x,[]⟩ (fun _=>none)
end K2
namespace K2
open PySem (Str)
noncomputable def dIsiO (all sub:List Str) (a:TE2):TE2:=fun E τ G Q=>a E τ G fun x G1=>match x with
 | .non=>Q (.bl false) G1
 | .exc c=>all.contains c=true/\Q (.bl (sub.contains c)) G1
 | _=>False
end K2
namespace K2
open PySem (Str)
noncomputable def dTryA (sp:Sp2) (t:TA2) (j i:Nat) (cat:List Str) (th:TS2):TS2:=fun _ K τ G =>
 t (fun _ _=>False) τ G fun ds G1=>sp ds (fun _=>none) (fun d _=>K.nx (τ.set j (some d)) G1) fun ex _=>cat.contains ex.cls=true /\
  th (fun _ _=>False) ⟨fun τ' G'=>K.nx (τ'.set i none) G',fun _ _=>False,fun _ _=>False,fun _ _=>False⟩ (τ.set i (some (.exc ex.cls))) G1
noncomputable def dCallX (sp:Sp2) (t:TA2):TE2:=fun E τ G Q=>t E τ G fun ds G1=>sp ds G1 Q E
end K2
end
section
namespace K2
open PySem (Str)
open Enc (enc)
noncomputable def cListD (ds:List D) (G:Gp) (Q:DK):Prop:=match ds with
 | [.ref a]=>(match G a with
  | some (.dic kvs)=>kvs.length<=1000/\dNew G (.lst (kvs.map (·.1))) Q
  | _=>False)
 | _=>False
noncomputable def lrAt2 (x:D) (G1:Gp) (Q:DK):Prop:=match x with
 | .int n=>(0<=n/\n<=1000)/\dNew G1 (.lst (rangeD 0 n.toNat)) Q
 | _=>False
noncomputable def dLRange2 (a:TE2):TE2:=fun E τ G Q=>a E τ G fun x G1=>lrAt2 x G1 Q
noncomputable def cInt (ds:List D) (G:Gp) (Q:DK):Prop:=match ds with
 | [.bl b]=>Q (.int (if b=true then 1 else 0)) G
 | _=>False
noncomputable def cLenT (ds:List D) (G:Gp) (Q:DK):Prop:=match ds with
 | [.ref a]=>(match G a with
  | some (.dic kvs)=>kvs.length<=1000/\Q (.int (kvs.length:Int)) G
  | _=>False)
 | _=>False
noncomputable def dIsiV (all:List Str) (a:TE2):TE2:=fun E τ G Q=>a E τ G fun x G1=>match x with
 | .exc c=>all.contains c=true/\Q (.bl true) G1
 | _=>False
end K2
end
section
namespace K2
open PySem PySem.Spec PyProof.Rows L2
noncomputable def SqF (K:PySem.W.Frag) (H:Hp) (a:Addr) (xs:List V):Prop :=
 (∃ o,H a=some (.frz o (.lst xs))) \/
  ∃ (o:Obj) (its:Array Value) (n:Nat),K.lookup a=some o/\o.cls=.type "list"/\o.dict=none/\o.data=.seq its n/\its.size<=sizeLine/\Vals xs its.toList
theorem SqF.sq {K:PySem.W.Frag} {H:Hp} {a:Addr} {xs:List V} (h:SqF K H a xs):SqL K H a xs:=by
 rcases h with ⟨o,h⟩ | h
 ·exact .inl (.inr ⟨o,h⟩)
 ·exact .inr h
noncomputable def keyD:Key->D
 | .inl i=>.int i
 | .inr x=>.str x
noncomputable def ExcAt (K:PySem.W.Frag) (H:Hp) (a:Addr) (c:Str):Prop:=∃ (o:Obj) (C:Addr),H a=some (.frz o (.ext fun h=>h.get? a=some o))/\o.cls=.ref C/\PySem.W.nsIn K mainGlobals c=some (some (.ref C))
mutual
inductive RepD (K:PySem.W.Frag) (H:Hp):V->D->Prop
 | non:RepD K H .non .non
 | bl (b:Bool):RepD K H (.bl b) (.bl b)
 | int (i:Int):RepD K H (.int i) (.int i)
 | str (x:Str):RepD K H (.str x) (.str x)
 | tup {a:Addr} {vs:List V} {ds:List D}:H a=some (.tup vs)->RepDs K H vs ds->RepD K H (.ref a) (.tup ds)
 | rol {a:Addr} {vs:List V} {ds:List D}:SqF K H a vs->RepDs K H vs ds->RepD K H (.ref a) (.rol ds)
 | rodK {a:Addr} {o:Obj} {kv:List (Key×V)} {kvs:List (D×D)}:H a=some (.frz o (.dK kv))->DKs K H kv kvs->RepD K H (.ref a) (.rod kvs)
 | rodT {a:Addr} {o:Obj} {kv:List (List Key×V)} {kvs:List (D×D)}:H a=some (.frz o (.dT kv))->DTs K H kv kvs->RepD K H (.ref a) (.rod kvs)
 | ref (a:Addr):RepD K H (.ref a) (.ref a)
 | exc {a:Addr} {c:Str}:ExcAt K H a c->RepD K H (.ref a) (.exc c)
inductive RepDs (K:PySem.W.Frag) (H:Hp):List V->List D->Prop
 | nil:RepDs K H [] []
 | cons {v:V} {d:D} {vs:List V} {ds:List D}:RepD K H v d->RepDs K H vs ds->RepDs K H (v :: vs) (d :: ds)
inductive DKs (K:PySem.W.Frag) (H:Hp):List (Key×V)->List (D×D)->Prop
 | nil:DKs K H [] []
 | cons {k:Key} {v:V} {d:D} {r:List (Key×V)} {t:List (D×D)}:RepD K H v d->DKs K H r t->DKs K H ((k,v) :: r) ((keyD k,d) :: t)
inductive DTs (K:PySem.W.Frag) (H:Hp):List (List Key×V)->List (D×D)->Prop
 | nil:DTs K H [] []
 | cons {k:List Key} {v:V} {d:D} {r:List (List Key×V)} {t:List (D×D)}:RepD K H v d->DTs K H r t->DTs K H ((k,v) :: r) ((.tup (k.map keyD),d) :: t)
end
structure Kp (H H':Hp):Prop where
 tup:∀ a xs,H a=some (.tup xs)->H' a=some (.tup xs)
 frz:∀ a o u,H a=some (.frz o u)->H' a=some (.frz o u)
theorem Kp.refl (H:Hp):Kp H H:=⟨fun _ _ h=>h,fun _ _ _ h=>h⟩
theorem Kp.trans {H H1 H2:Hp} (a:Kp H H1) (b:Kp H1 H2):Kp H H2:=⟨fun c xs h=>b.tup c xs (a.tup c xs h),fun c o u h=>b.frz c o u (a.frz c o u h)⟩
theorem Kp.sqT {K:PySem.W.Frag} {H H':Hp} {a:Addr} {xs:List V} (k:Kp H H') (h:SqT K H a xs):SqT K H' a xs:=by
 rcases h with (h | ⟨o,h⟩) | h
 ·exact .inl (.inl (k.tup _ _ h))
 ·exact .inl (.inr ⟨o,k.frz _ _ _ h⟩)
 ·exact .inr h
theorem Kp.sqF {K:PySem.W.Frag} {H H':Hp} {a:Addr} {xs:List V} (k:Kp H H') (h:SqF K H a xs):SqF K H' a xs:=by
 rcases h with ⟨o,h⟩ | h
 ·exact .inl ⟨o,k.frz _ _ _ h⟩
 ·exact .inr h
theorem ExcAt.mono {K:PySem.W.Frag} {H H':Hp} (k:Kp H H') {a:Addr} {c:Str} (h:ExcAt K H a c):ExcAt K H' a c :=
 let ⟨o,C,h1,h2,h3⟩:=h
 ⟨o,C,k.frz _ _ _ h1,h2,h3⟩
theorem RepDs.indL {K:PySem.W.Frag} {H:Hp} {P:List V->List D->Prop} (h0:P [] []) (h1:∀ {v:V} {d:D} {vs:List V} {ds:List D},RepD K H v d->RepDs K H vs ds->P vs ds->P (v :: vs) (d :: ds)) {vs:List V} {ds:List D} (h:RepDs K H vs ds):P vs ds :=
 RepDs.rec (motive_1:=fun _ _ _=>True) (motive_2:=fun vs ds _=>P vs ds) (motive_3:=fun _ _ _=>True) (motive_4:=fun _ _ _=>True) trivial (fun _=>trivial) (fun _=>trivial) (fun _=>trivial) (fun _ _ _=>trivial) (fun _ _ _=>trivial) (fun _ _ _=>trivial) (fun _ _ _=>trivial) (fun _=>trivial) (fun _=>trivial) h0 (fun a b _ ih=>h1 a b ih) trivial (fun _ _ _ _=>trivial) trivial (fun _ _ _ _=>trivial) h
theorem RepD.mono {K:PySem.W.Frag} {H H':Hp} (k:Kp H H'):∀ {v:V} {d:D},RepD K H v d->RepD K H' v d:=fun h =>
 RepD.rec (motive_1:=fun v d _=>RepD K H' v d) (motive_2:=fun v d _=>RepDs K H' v d) (motive_3:=fun v d _=>DKs K H' v d) (motive_4:=fun v d _=>DTs K H' v d)
  .non .bl .int .str (fun h _ r=>.tup (k.tup _ _ h) r) (fun h _ r=>.rol (k.sqF h) r) (fun h _ r=>.rodK (k.frz _ _ _ h) r) (fun h _ r=>.rodT (k.frz _ _ _ h) r) .ref (fun h=>.exc (h.mono k)) .nil (fun _ _ a b=>.cons a b) .nil (fun _ _ a b=>.cons a b) .nil (fun _ _ a b=>.cons a b) h
theorem RepDs.mono {K:PySem.W.Frag} {H H':Hp} (k:Kp H H') {v:List V} {d:List D} (h:RepDs K H v d):RepDs K H' v d :=
 RepDs.indL (P:=fun v d=>RepDs K H' v d) .nil (fun r _ ih=>.cons (r.mono k) ih) h
theorem DKs.mono {K:PySem.W.Frag} {H H':Hp} (k:Kp H H') {v:List (Key×V)} {d:List (D×D)} (h:DKs K H v d):DKs K H' v d :=
 DKs.rec (motive_1:=fun v d _=>RepD K H' v d) (motive_2:=fun v d _=>RepDs K H' v d) (motive_3:=fun v d _=>DKs K H' v d) (motive_4:=fun v d _=>DTs K H' v d)
  .non .bl .int .str (fun h _ r=>.tup (k.tup _ _ h) r) (fun h _ r=>.rol (k.sqF h) r) (fun h _ r=>.rodK (k.frz _ _ _ h) r) (fun h _ r=>.rodT (k.frz _ _ _ h) r) .ref (fun h=>.exc (h.mono k)) .nil (fun _ _ a b=>.cons a b) .nil (fun _ _ a b=>.cons a b) .nil (fun _ _ a b=>.cons a b) h
theorem DTs.mono {K:PySem.W.Frag} {H H':Hp} (k:Kp H H') {v:List (List Key×V)} {d:List (D×D)} (h:DTs K H v d):DTs K H' v d :=
 DTs.rec (motive_1:=fun v d _=>RepD K H' v d) (motive_2:=fun v d _=>RepDs K H' v d) (motive_3:=fun v d _=>DKs K H' v d) (motive_4:=fun v d _=>DTs K H' v d)
  .non .bl .int .str (fun h _ r=>.tup (k.tup _ _ h) r) (fun h _ r=>.rol (k.sqF h) r) (fun h _ r=>.rodK (k.frz _ _ _ h) r) (fun h _ r=>.rodT (k.frz _ _ _ h) r) .ref (fun h=>.exc (h.mono k)) .nil (fun _ _ a b=>.cons a b) .nil (fun _ _ a b=>.cons a b) .nil (fun _ _ a b=>.cons a b) h
theorem RepDs.length {K:PySem.W.Frag} {H:Hp}:∀ {vs:List V} {ds:List D},RepDs K H vs ds->vs.length=ds.length:=fun h =>
 RepDs.indL (P:=fun vs ds=>vs.length=ds.length) rfl (fun _ _ ih=>congrArg (· + 1) ih) h
theorem RepDs.get {K:PySem.W.Frag} {H:Hp}:∀ {vs:List V} {ds:List D} {i:Nat} {d:D},RepDs K H vs ds->ds[i]?=some d->∃ v,vs[i]?=some v/\RepD K H v d:=by
 intro vs ds i d h
 refine RepDs.indL (P:=fun vs ds=>∀ (i:Nat) (d:D),ds[i]?=some d->∃ v,vs[i]?=some v/\RepD K H v d) (fun i d e=>by cases e) (fun r _ ih i d e=>?_) h i d
 cases i with
 | zero=>cases e; exact ⟨_,rfl,r⟩
 | succ i=>exact ih i d e
theorem RepDs.append {K:PySem.W.Frag} {H:Hp}:∀ {vs ws:List V} {ds es:List D},RepDs K H vs ds->RepDs K H ws es->RepDs K H (vs++ws) (ds++es):=fun {_ ws _ es} h s =>
 RepDs.indL (P:=fun vs ds=>RepDs K H (vs++ws) (ds++es)) s (fun r _ ih=>.cons r ih) h
theorem RepDs.take {K:PySem.W.Frag} {H:Hp}:∀ {vs:List V} {ds:List D} (n:Nat),RepDs K H vs ds->RepDs K H (vs.take n) (ds.take n):=fun {_ _} n h =>
 RepDs.indL (P:=fun vs ds=>∀ n,RepDs K H (vs.take n) (ds.take n)) (fun n=>by rw [List.take_nil,List.take_nil]; exact .nil) (fun r _ ih n=>by
  cases n with
  | zero=>exact .nil
  | succ n=>exact .cons r (ih n)) h n
theorem RepDs.drop {K:PySem.W.Frag} {H:Hp}:∀ {vs:List V} {ds:List D} (n:Nat),RepDs K H vs ds->RepDs K H (vs.drop n) (ds.drop n):=fun {_ _} n h =>
 RepDs.indL (P:=fun vs ds=>∀ n,RepDs K H (vs.drop n) (ds.drop n)) (fun n=>by rw [List.drop_nil,List.drop_nil]; exact .nil) (fun r t ih n=>by
  cases n with
  | zero=>exact .cons r t
  | succ n=>exact ih n) h n
theorem RepDs.set {K:PySem.W.Frag} {H:Hp} {v:V} {d:D} (r:RepD K H v d):∀ {vs:List V} {ds:List D} (i:Nat),RepDs K H vs ds->RepDs K H (vs.set i v) (ds.set i d):=fun {_ _} i h =>
 RepDs.indL (P:=fun vs ds=>∀ i,RepDs K H (vs.set i v) (ds.set i d)) (fun i=>by rw [List.set_nil,List.set_nil]; exact .nil) (fun q t ih i=>by
  cases i with
  | zero=>exact .cons r t
  | succ i=>exact .cons q (ih i)) h i
theorem RepDs.one {K:PySem.W.Frag} {H:Hp}:∀ {vs:List V} {d:D},RepDs K H vs [d]->∃ v,vs=[v]/\RepD K H v d:=by
 intro vs d h
 cases h with
 | cons r t=>cases t; exact ⟨_,rfl,r⟩
theorem RepDs.two {K:PySem.W.Frag} {H:Hp}:∀ {vs:List V} {d e:D},RepDs K H vs [d,e]->∃ v u,vs=[v,u]/\RepD K H v d/\RepD K H u e:=by
 intro vs d e h
 cases h with
 | cons r t =>
  obtain ⟨u,rfl,q⟩:=RepDs.one t
  exact ⟨_,_,rfl,r,q⟩
theorem RepDs.zero {K:PySem.W.Frag} {H:Hp}:∀ {vs:List V},RepDs K H vs []->vs=[]
 | _,.nil=>rfl
theorem RepDs.ints {K:PySem.W.Frag} {H:Hp}:∀ {vs:List V} {ns:List Int},RepDs K H vs (ns.map D.int)->vs=ns.map V.int:=by
 intro vs ns
 induction ns generalizing vs with
 | nil=>intro h; exact h.zero
 | cons n ns ih =>
  intro h
  cases h with
  | cons r t =>
   cases r
   rw [ih t]; rfl
theorem RepDs.of_ints {K:PySem.W.Frag} {H:Hp}:∀ (ns:List Int),RepDs K H (ns.map V.int) (ns.map D.int)
 | []=>.nil
 | n :: ns=>.cons (.int n) (RepDs.of_ints ns)
theorem DKs.ind {K:PySem.W.Frag} {H:Hp} {motive:∀ (kv:List (Key×V)) (kvs:List (D×D)),DKs K H kv kvs->Prop} (nil:motive [] [] .nil)
  (cons:∀ {k:Key} {v:V} {d:D} {r:List (Key×V)} {t:List (D×D)} (re:RepD K H v d) (rs:DKs K H r t),motive r t rs->motive ((k,v) :: r) ((keyD k,d) :: t) (.cons re rs)):∀ {kv:List (Key×V)} {kvs:List (D×D)} (h:DKs K H kv kvs),motive kv kvs h:=fun h =>
 DKs.rec (motive_1:=fun _ _ _=>True) (motive_2:=fun _ _ _=>True) (motive_3:=motive) (motive_4:=fun _ _ _=>True) trivial (fun _=>trivial) (fun _=>trivial) (fun _=>trivial) (fun _ _ _=>trivial) (fun _ _ _=>trivial) (fun _ _ _=>trivial) (fun _ _ _=>trivial) (fun _=>trivial) (fun _=>trivial) trivial (fun _ _ _ _=>trivial) nil (fun a b _ ih=>cons a b ih) trivial (fun _ _ _ _=>trivial) h
theorem DTs.ind {K:PySem.W.Frag} {H:Hp} {motive:∀ (kv:List (List Key×V)) (kvs:List (D×D)),DTs K H kv kvs->Prop} (nil:motive [] [] .nil)
  (cons:∀ {k:List Key} {v:V} {d:D} {r:List (List Key×V)} {t:List (D×D)} (re:RepD K H v d) (rs:DTs K H r t),motive r t rs->motive ((k,v) :: r) ((.tup (k.map keyD),d) :: t) (.cons re rs)):∀ {kv:List (List Key×V)} {kvs:List (D×D)} (h:DTs K H kv kvs),motive kv kvs h:=fun h =>
 DTs.rec (motive_1:=fun _ _ _=>True) (motive_2:=fun _ _ _=>True) (motive_3:=fun _ _ _=>True) (motive_4:=motive) trivial (fun _=>trivial) (fun _=>trivial) (fun _=>trivial) (fun _ _ _=>trivial) (fun _ _ _=>trivial) (fun _ _ _=>trivial) (fun _ _ _=>trivial) (fun _=>trivial) (fun _=>trivial) trivial (fun _ _ _ _=>trivial) trivial (fun _ _ _ _=>trivial) nil (fun a b _ ih=>cons a b ih) h
theorem DKs.length {K:PySem.W.Frag} {H:Hp}:∀ {v:List (Key×V)} {d:List (D×D)},DKs K H v d->v.length=d.length:=fun h =>
 DKs.ind (motive:=fun v d _=>v.length=d.length) rfl (fun _ _ ih=>congrArg (· + 1) ih) h
theorem DTs.length {K:PySem.W.Frag} {H:Hp}:∀ {v:List (List Key×V)} {d:List (D×D)},DTs K H v d->v.length=d.length:=fun h =>
 DTs.ind (motive:=fun v d _=>v.length=d.length) rfl (fun _ _ ih=>congrArg (· + 1) ih) h
noncomputable def AbO (K:PySem.W.Frag) (H:Hp) (a:Addr):GO->Prop
 | .lst ds=>∃ vs,H a=some (.lst vs)/\RepDs K H vs ds
 | .dic kvs=>(∃ kv,H a=some (.dK kv)/\DKs K H kv kvs)\/∃ kv,H a=some (.dT kv)/\DTs K H kv kvs
noncomputable def AbH (K:PySem.W.Frag) (H:Hp) (G:Gp):Prop:=∀ a g,G a=some g->AbO K H a g
theorem AbO.dk {K:PySem.W.Frag} {H:Hp} {a:Addr} {kv:List (Key×V)} {kvs:List (D×D)} (h:H a=some (.dK kv)) (r:DKs K H kv kvs):AbO K H a (.dic kvs):=.inl ⟨kv,h,r⟩
theorem AbO.mono {K:PySem.W.Frag} {H H':Hp} {a:Addr} {g:GO} (k:Kp H H') (e:H' a=H a) (h:AbO K H a g):AbO K H' a g:=by
 cases g with
 | lst ds=>obtain ⟨vs,q,r⟩:=h; exact ⟨vs,e.trans q,r.mono k⟩
 | dic kvs =>
  rcases h with ⟨kv,q,r⟩ | ⟨kv,q,r⟩
  ·exact .inl ⟨kv,e.trans q,r.mono k⟩
  ·exact .inr ⟨kv,e.trans q,r.mono k⟩
theorem AbO.tracked {K:PySem.W.Frag} {H:Hp} {a:Addr} {g:GO} (h:AbO K H a g):H a≠none:=by
 cases g with
 | lst ds=>obtain ⟨vs,q,r⟩:=h; rw [q]; simp
 | dic kvs =>
  rcases h with ⟨kv,q,r⟩ | ⟨kv,q,r⟩
  ·rw [q]; simp
  ·rw [q]; simp
theorem AbH.free {K:PySem.W.Frag} {H:Hp} {G:Gp} {a:Addr} (h:AbH K H G) (e:H a=none):G a=none:=by
 cases q:G a with
 | none=>rfl
 | some g=>exact absurd e (h a g q).tracked
theorem AbH.notup {K:PySem.W.Frag} {H:Hp} {G:Gp} {a:Addr} {xs:List V} (h:AbH K H G) (e:H a=some (.tup xs)):G a=none:=by
 cases q:G a with
 | none=>rfl
 | some g =>
  have z:=h a g q
  cases g with
  | lst ds=>obtain ⟨vs,q,r⟩:=z; rw [e] at q; cases q
  | dic kvs =>
   rcases z with ⟨kv,q,r⟩ | ⟨kv,q,r⟩
   ·rw [e] at q; cases q
   ·rw [e] at q; cases q
theorem AbH.nofrz {K:PySem.W.Frag} {H:Hp} {G:Gp} {a:Addr} {o:Obj} {u:HO} (h:AbH K H G) (e:H a=some (.frz o u)):G a=none:=by
 cases q:G a with
 | none=>rfl
 | some g =>
  have z:=h a g q
  cases g with
  | lst ds=>obtain ⟨vs,q,r⟩:=z; rw [e] at q; cases q
  | dic kvs =>
   rcases z with ⟨kv,q,r⟩ | ⟨kv,q,r⟩
   ·rw [e] at q; cases q
   ·rw [e] at q; cases q
structure Mv (K:PySem.W.Frag) (H:Hp) (G:Gp) (H':Hp) (G':Gp):Prop where
 keep:∀ a o,H a=some o->G a=none->H' a=some o/\G' a=none
 stay:∀ a,G a≠none->H' a≠none
 ab:AbH K H' G'
theorem Mv.refl {K:PySem.W.Frag} {H:Hp} {G:Gp} (h:AbH K H G):Mv K H G H G:=⟨fun _ _ e n=>⟨e,n⟩,fun a n=>by
 cases q:G a with
 | none=>exact absurd q n
 | some g=>exact (h a g q).tracked,h⟩
theorem Mv.trans {K:PySem.W.Frag} {H H1 H2:Hp} {G G1 G2:Gp} (a:Mv K H G H1 G1) (b:Mv K H1 G1 H2 G2):Mv K H G H2 G2 :=
 ⟨fun c o e n=>let ⟨e1,n1⟩:=a.keep c o e n; b.keep c o e1 n1,fun c n=>by
  have h1:=a.stay c n
  cases q:G1 c with
  | some g=>exact b.stay c (by rw [q]; simp)
  | none =>
   cases q1:H1 c with
   | none=>exact absurd q1 h1
   | some o=>rw [(b.keep c o q1 q).1]; simp,b.ab⟩
theorem Mv.kp {K:PySem.W.Frag} {H H':Hp} {G G':Gp} (m:Mv K H G H' G') (h:AbH K H G):Kp H H' :=
 ⟨fun a xs e=>(m.keep a _ e (h.notup e)).1,fun a o u e=>(m.keep a _ e (h.nofrz e)).1⟩
theorem Kp.new {H:Hp} {p:Addr} {o:HO} (hp:H p=none):Kp H (upd H p o):=⟨fun a xs e=>by rw [upd_ne (ne_of_none e hp)]; exact e,fun a ob u e=>by rw [upd_ne (ne_of_none e hp)]; exact e⟩
theorem Kp.putL {H:Hp} {p:Addr} {xs:List V} {o:HO} (hp:H p=some (.lst xs)):Kp H (upd H p o) :=
 ⟨fun a ys e=>by rw [upd_ne (by rintro rfl; rw [hp] at e; cases e)]; exact e,fun a ob u e=>by rw [upd_ne (by rintro rfl; rw [hp] at e; cases e)]; exact e⟩
theorem Mv.new {K:PySem.W.Frag} {H:Hp} {G:Gp} {p:Addr} {o:HO} {g:GO} (h:AbH K H G) (hp:H p=none) (ho:AbO K (upd H p o) p g):Mv K H G (upd H p o) (updG G p g) where
 keep:=fun a ob e n=>by
  have ne:=ne_of_none e hp
  exact ⟨by rw [upd_ne ne]; exact e,by rw [updG_ne ne]; exact n⟩
 stay:=fun a n=>by
  have ne:a≠p:=by rintro rfl; exact n (h.free hp)
  rw [upd_ne ne]
  exact (Mv.refl h).stay a n
 ab:=fun a g' e=>by
  by_cases ha:a=p
  ·subst ha; rw [updG_same] at e; cases e; exact ho
  ·rw [updG_ne ha] at e
   exact (h a g' e).mono (.new hp) (upd_ne ha)
theorem Mv.hid {K:PySem.W.Frag} {H:Hp} {G:Gp} {p:Addr} {o:HO} (h:AbH K H G) (hp:H p=none):Mv K H G (upd H p o) G where
 keep:=fun a ob e n=>⟨by rw [upd_ne (ne_of_none e hp)]; exact e,n⟩
 stay:=fun a n=>by
  have ne:a≠p:=by rintro rfl; exact n (h.free hp)
  rw [upd_ne ne]
  exact (Mv.refl h).stay a n
 ab:=fun a g' e=>by
  have ne:a≠p:=by rintro rfl; rw [h.free hp] at e; cases e
  exact (h a g' e).mono (.new hp) (upd_ne ne)
theorem Mv.put {K:PySem.W.Frag} {H:Hp} {G:Gp} {p:Addr} {o:HO} {g g0:GO} (h:AbH K H G) (hg:G p=some g0) (k:Kp H (upd H p o)) (ho:AbO K (upd H p o) p g):Mv K H G (upd H p o) (updG G p g) where
 keep:=fun a ob e n=>by
  have ne:a≠p:=by rintro rfl; rw [hg] at n; cases n
  exact ⟨by rw [upd_ne ne]; exact e,by rw [updG_ne ne]; exact n⟩
 stay:=fun a n=>by
  by_cases ha:a=p
  ·subst ha; rw [upd_same]; simp
  ·rw [upd_ne ha]; exact (Mv.refl h).stay a n
 ab:=fun a g' e=>by
  by_cases ha:a=p
  ·subst ha; rw [updG_same] at e; cases e; exact ho
  ·rw [updG_ne ha] at e
   exact (h a g' e).mono k (upd_ne ha)
theorem AbH.lst {K:PySem.W.Frag} {H:Hp} {G:Gp} {a:Addr} {ds:List D} (h:AbH K H G) (e:G a=some (.lst ds)):∃ vs,H a=some (.lst vs)/\RepDs K H vs ds:=h a _ e
theorem Mv.newL {K:PySem.W.Frag} {H:Hp} {G:Gp} {p:Addr} {vs:List V} {ds:List D} (h:AbH K H G) (hp:H p=none) (r:RepDs K H vs ds):Mv K H G (upd H p (.lst vs)) (updG G p (.lst ds)) :=
 .new h hp ⟨vs,upd_same,r.mono (.new hp)⟩
theorem Mv.putL {K:PySem.W.Frag} {H:Hp} {G:Gp} {p:Addr} {vs0 vs:List V} {ds0 ds:List D} (h:AbH K H G) (hg:G p=some (.lst ds0)) (hp:H p=some (.lst vs0)) (r:RepDs K H vs ds):Mv K H G (upd H p (.lst vs)) (updG G p (.lst ds)) :=
 .put h hg (.putL hp) ⟨vs,upd_same,r.mono (.putL hp)⟩
structure AbS (K:PySem.W.Frag) (H:Hp) (σ:L2.St) (τ:St2):Prop where
 len:σ.length=τ.length
 at':∀ (i:Nat) (d:D),τ[i]?=some (some d)->∃ v,σ[i]?=some (some v)/\RepD K H v d
theorem AbS.mono {K:PySem.W.Frag} {H H':Hp} {σ:L2.St} {τ:St2} (k:Kp H H') (a:AbS K H σ τ):AbS K H' σ τ :=
 ⟨a.len,fun i d e=>let ⟨v,h1,h2⟩:=a.at' i d e; ⟨v,h1,h2.mono k⟩⟩
theorem AbS.set {K:PySem.W.Frag} {H:Hp} {σ:L2.St} {τ:St2} {v:V} {d:D} (a:AbS K H σ τ) (i:Nat) (r:RepD K H v d):AbS K H (σ.set i (some v)) (τ.set i (some d)):=by
 refine ⟨by rw [List.length_set,List.length_set]; exact a.len,fun j e h=>?_⟩
 by_cases hj:i=j
 ·subst hj
  by_cases hi:i < τ.length
  ·rw [List.getElem?_set_self hi] at h
   cases h
   exact ⟨v,by rw [List.getElem?_set_self (by rw [a.len]; exact hi)],r⟩
  ·rw [List.set_eq_of_length_le (by lia)] at h
   rw [List.getElem?_eq_none (by lia)] at h
   cases h
 ·rw [List.getElem?_set_ne hj] at h
  obtain ⟨w,h1,h2⟩:=a.at' j e h
  exact ⟨w,by rw [List.getElem?_set_ne hj]; exact h1,h2⟩
structure I2 (X:Cx) (pins:List (Addr×Obj)) (σ:L2.St) (H:Hp) (τ:St2) (G:Gp) (s:Shared):Prop where
 inv:Inv X pins σ H s
 st:AbS X.K H σ τ
 ab:AbH X.K H G
theorem I2.mv {X:Cx} {pins:List (Addr×Obj)} {σ:L2.St} {H H':Hp} {τ:St2} {G G':Gp} {s s':Shared} (I:I2 X pins σ H τ G s) (I':Inv X pins σ H' s') (m:Mv X.K H G H' G'):I2 X pins σ H' τ G' s' :=
 ⟨I',I.st.mono (m.kp I.ab),m.ab⟩
noncomputable def CXe (P:Program) (w:World):CXT:=fun outer H s E e s'=>∃ (a C t:Addr) (B:Heap) (H':Hp),e=.ref a/\s'.os=s.os/\AllBare s'.gens/\Un (frs outer) [] H H' s.heap s'.heap/\HOk P w H' s'.heap /\
 (∀ b o,s'.heap.get? b=some o->b∉frs outer->(s.heap.get? b≠none\/H' b≠none)->B.get? b=some o)/\PySem.Heap.FlyingW B outer a (.ref C) (.ref t) s'.heap/\H' a=none/\s.heap.get? a=none/\E (.ref C) none H'
noncomputable def exK (mg:Str->Option Value) (E:XK2):XK:=fun cls _ _=>∃ (ex:Ex) (C:Addr),cls=.ref C/\mg ex.cls=some (.ref C)/\E ex (fun _=>none)
structure Lk (X:Cx) (E:XK2):Prop where
 made:∀ (pins:List (Addr×Obj)) (σ:L2.St) (H:Hp) (s:Shared) (h1:Heap) (a C:Addr) (args:List Value) (ex:Ex),Inv X pins σ H s->PySem.Heap.MadeExcOf s.heap h1 a (.ref C) args->X.mg ex.cls=some (.ref C)->E ex (fun _=>none)->X.xe (.ref a) { s with heap:=h1 }
 pass:∀ (pins:List (Addr×Obj)) (σ:L2.St) (H:Hp) (s s':Shared) (e:Value),Inv X pins σ H s->CXe X.prog X.w X.stack H s (exK X.mg E) e s'->X.xe e s'
theorem Lk.none {X:Cx} {E:XK2} (h:∀ ex G,¬ E ex G):Lk X E where
 made:=fun _ _ _ _ _ _ _ _ ex _ _ _ z=>absurd z (h ex _)
 pass:=fun _ _ _ _ _ _ _ hc=>by
  obtain ⟨_,_,_,_,_,_,_,_,_,_,_,_,_,_,hz⟩:=hc
  obtain ⟨ex,_,_,_,z⟩:=hz
  exact absurd z (h ex _)
inductive EP2 (X:Cx) (pins:List (Addr×Obj)) (σ:L2.St) (H:Hp) (G:Gp) (Q:DK) (u:Value) (s':Shared):Prop
 | mk (v:V) (H':Hp) (d:D) (G':Gp) (i:Inv X pins σ H' s') (m:Mv X.K H G H' G') (r:RelV v u) (rd:RepD X.K H' v d) (q:Q d G'):EP2 X pins σ H G Q u s'
inductive TP2 (X:Cx) (pins:List (Addr×Obj)) (σ:L2.St) (H:Hp) (G:Gp) (Q:Bool->Gp->Prop) (b:Bool) (s':Shared):Prop
 | mk (H':Hp) (G':Gp) (i:Inv X pins σ H' s') (m:Mv X.K H G H' G') (q:Q b G'):TP2 X pins σ H G Q b s'
inductive AP2 (X:Cx) (pins:List (Addr×Obj)) (σ:L2.St) (H:Hp) (G:Gp) (Q:List D->Gp->Prop) (us:List Value) (s':Shared):Prop
 | mk (vs:List V) (H':Hp) (ds:List D) (G':Gp) (i:Inv X pins σ H' s') (m:Mv X.K H G H' G') (r:Vals vs us) (rd:RepDs X.K H' vs ds) (q:Q ds G'):AP2 X pins σ H G Q us s'
inductive SPn (X:Cx) (pins:List (Addr×Obj)) (H:Hp) (G:Gp) (P:St2->Gp->Prop) (s':Shared):Prop
 | mk (σ':L2.St) (H':Hp) (τ':St2) (G':Gp) (i:I2 X pins σ' H' τ' G' s') (m:Mv X.K H G H' G') (q:P τ' G'):SPn X pins H G P s'
inductive SPr (X:Cx) (pins:List (Addr×Obj)) (H:Hp) (G:Gp) (P:D->Gp->Prop) (u:Value) (s':Shared):Prop
 | mk (v:V) (σ':L2.St) (H':Hp) (d:D) (G':Gp) (i:Inv X pins σ' H' s') (m:Mv X.K H G H' G') (r:RelV v u) (rd:RepD X.K H' v d) (q:P d G'):SPr X pins H G P u s'
noncomputable def SP2 (X:Cx) (pins:List (Addr×Obj)) (H:Hp) (G:Gp) (D:Ends2) (f:Flow) (s':Shared):Prop :=
 match f with
 | .next=>SPn X pins H G D.nx s'
 | .brk=>SPn X pins H G D.bk s'
 | .cont=>SPn X pins H G D.ct s'
 | .ret u=>SPr X pins H G D.rt u s'
noncomputable def PE2 (X:Cx) (e:Expr) (t:TE2):Prop :=
 ∀ (E:XK2) (pins:List (Addr×Obj)) (s:Shared) (σ:L2.St) (H:Hp) (τ:St2) (G:Gp) (Q:DK),Lk X E->I2 X pins σ H τ G s->t E τ G Q->wpAny (model X.prog X.w) X.A (eval e X.env) (EP2 X pins σ H G Q) X.xe s
noncomputable def PT2 (X:Cx) (e:Expr) (t:TT2):Prop :=
 ∀ (E:XK2) (pins:List (Addr×Obj)) (s:Shared) (σ:L2.St) (H:Hp) (τ:St2) (G:Gp) (Q:Bool->Gp->Prop),Lk X E->I2 X pins σ H τ G s->t E τ G Q->wpAny (model X.prog X.w) X.A (isTrue e X.env (eval e X.env)) (TP2 X pins σ H G Q) X.xe s
noncomputable def PW2 (X:Cx) (e:Expr) (t:TT2):Prop :=
 ∀ (wh:Sem Value) (E:XK2) (pins:List (Addr×Obj)) (s:Shared) (σ:L2.St) (H:Hp) (τ:St2) (G:Gp) (Q:Bool->Gp->Prop),Lk X E->I2 X pins σ H τ G s->t E τ G Q->wpAny (model X.prog X.w) X.A (isTrue e X.env wh) (TP2 X pins σ H G Q) X.xe s
noncomputable def PA2 (X:Cx) (es:List Expr) (t:TA2):Prop :=
 ∀ (pos:Pos) (E:XK2) (pins:List (Addr×Obj)) (s:Shared) (σ:L2.St) (H:Hp) (τ:St2) (G:Gp) (Q:List D->Gp->Prop),Lk X E->I2 X pins σ H τ G s->t E τ G Q->wpAny (model X.prog X.w) X.A (spliced (backTo pos (starEach es X.env))) (AP2 X pins σ H G Q) X.xe s
noncomputable def PS2 (X:Cx) (st:Stmt) (t:TS2):Prop :=
 ∀ (E:XK2) (pins:List (Addr×Obj)) (s:Shared) (σ:L2.St) (H:Hp) (τ:St2) (G:Gp) (D:Ends2),Lk X E->I2 X pins σ H τ G s->t E D τ G->wpAny (model X.prog X.w) X.A (exec st X.env) (SP2 X pins H G D) X.xe s
noncomputable def PSs2 (X:Cx) (st:List Stmt) (t:TS2):Prop :=
 ∀ (E:XK2) (pins:List (Addr×Obj)) (s:Shared) (σ:L2.St) (H:Hp) (τ:St2) (G:Gp) (D:Ends2),Lk X E->I2 X pins σ H τ G s->t E D τ G->wpAny (model X.prog X.w) X.A (execs st X.env) (SP2 X pins H G D) X.xe s
theorem SP2.trans {X:Cx} {pins:List (Addr×Obj)} {H H1:Hp} {G G1:Gp} {D:Ends2} {f:Flow} {s':Shared} (m:Mv X.K H G H1 G1) (h:SP2 X pins H1 G1 D f s'):SP2 X pins H G D f s':=by
 cases f with
 | next=>obtain ⟨σ',H',τ',G',I,m',q⟩:=h; exact ⟨σ',H',τ',G',I,m.trans m',q⟩
 | brk=>obtain ⟨σ',H',τ',G',I,m',q⟩:=h; exact ⟨σ',H',τ',G',I,m.trans m',q⟩
 | cont=>obtain ⟨σ',H',τ',G',I,m',q⟩:=h; exact ⟨σ',H',τ',G',I,m.trans m',q⟩
 | ret u=>obtain ⟨v,σ',H',d,G',I,m',r,rd,q⟩:=h; exact ⟨v,σ',H',d,G',I,m.trans m',r,rd,q⟩
section
variable {X:Cx} {a b c:Expr} {ta tb tc:TE2} {pos:Pos}
theorem thnE {pins:List (Addr×Obj)} {σ:L2.St} {H:Hp} {τ:St2} {G:Gp} {s:Shared} {E:XK2} {R:DK} {Q:Value->Shared->Prop} (ha:PE2 X a ta) (hE:Lk X E) (I:I2 X pins σ H τ G s) (h:ta E τ G R)
  (k:∀ v H1 d G1 u s1,I2 X pins σ H1 τ G1 s1->Mv X.K H G H1 G1->RelV v u->RepD X.K H1 v d->R d G1->Q u s1):wpAny (model X.prog X.w) X.A (eval a X.env) Q X.xe s :=
 thn (ha E pins s σ H τ G R hE I h) (by rintro u s1 ⟨v,H1,d,G1,I1,m,r,rd,q⟩; exact k v H1 d G1 u s1 (I.mv I1 m) m r rd q)
theorem EP2.trans {pins:List (Addr×Obj)} {σ:L2.St} {H H1:Hp} {G G1:Gp} {Q:DK} {u:Value} {s':Shared} (m:Mv X.K H G H1 G1) (h:EP2 X pins σ H1 G1 Q u s'):EP2 X pins σ H G Q u s':=by
 obtain ⟨v,H',d,G',I,m',r,rd,q⟩:=h
 exact ⟨v,H',d,G',I,m.trans m',r,rd,q⟩
theorem TP2.trans {pins:List (Addr×Obj)} {σ:L2.St} {H H1:Hp} {G G1:Gp} {Q:Bool->Gp->Prop} {u:Bool} {s':Shared} (m:Mv X.K H G H1 G1) (h:TP2 X pins σ H1 G1 Q u s'):TP2 X pins σ H G Q u s':=by
 obtain ⟨H',G',I,m',r⟩:=h
 exact ⟨H',G',I,m.trans m',r⟩
theorem pe2_var {i:Nat} {x:Str} (hN:X.N[i]?=some x) (hv:Vis X.env.scope x) (hd:autoParam ((x == ("__debug__" : Str))=false) Ad._auto_1) (hcd:autoParam ((x == ("__classdict__" : Str))=false) Ad._auto_1):PE2 X (.Name x pos) (dVar i):=by
 intro E pins s σ H τ G Q hE I h
 unfold dVar at h
 split at h
 ·rename_i d e
  obtain ⟨v,h1,h2⟩:=I.st.at' i d e
  exact thn (pe_var hN hv hd hcd pins s σ H (fun v' H'=>v'=v/\H'=H) I.inv ⟨v,h1,rfl,rfl⟩) fun u s1 hp0=>by
   obtain ⟨v',H',I1,r,e1,e2⟩:=hp0
   subst e1; subst e2
   exact ⟨_,_,d,G,I1,.refl I.ab,r,h2,h⟩
 ·exact h.elim
theorem pe2_const {e:Expr} {v:V} {d:D} (h:PE X e (tC v)) (r:∀ K H,RepD K H v d):PE2 X e (dC d):=by
 intro E pins s σ H τ G Q hE I hq
 exact thn (h pins s σ H (fun v' H'=>v'=v/\H'=H) I.inv ⟨rfl,rfl⟩) fun u s1 hp1=>by
  obtain ⟨v',H',I1,rr,e1,e2⟩:=hp1
  subst e1; subst e2
  exact ⟨_,_,d,G,I1,.refl I.ab,rr,r _ _,hq⟩
theorem pe2_int {i j}:PE2 X (.Constant (.int i) j pos) (dC (.int i)):=pe2_const pe_int fun _ _=>.int i
noncomputable def OpR2 (X:Cx) (f:Value->Value->Sem Value) (r:R22):Prop :=
 ∀ (pins:List (Addr×Obj)) (s:Shared) (σ:L2.St) (H:Hp) (G:Gp) (x y:V) (dx dy:D) (v u:Value) (Q:DK),Inv X pins σ H s->AbH X.K H G->RelV x v->RelV y u->RepD X.K H x dx->RepD X.K H y dy->r dx dy G Q ->
  wpAny (model X.prog X.w) X.A (f v u) (EP2 X pins σ H G Q) X.xe s
noncomputable def UnR2 (X:Cx) (f:Value->Sem Value) (r:D->Gp->DK->Prop):Prop :=
 ∀ (pins:List (Addr×Obj)) (s:Shared) (σ:L2.St) (H:Hp) (G:Gp) (x:V) (dx:D) (v:Value) (Q:DK),Inv X pins σ H s->AbH X.K H G->RelV x v->RepD X.K H x dx->r dx G Q ->
  wpAny (model X.prog X.w) X.A (f v) (EP2 X pins σ H G Q) X.xe s
noncomputable def CallR2 (X:Cx) (f:Value) (r:List D->Gp->DK->Prop):Prop :=
 ∀ (pins:List (Addr×Obj)) (s:Shared) (σ:L2.St) (H:Hp) (G:Gp) (xs:List V) (ds:List D) (us:List Value) (Q:DK),Inv X pins σ H s->AbH X.K H G->Vals xs us->RepDs X.K H xs ds->r ds G Q ->
  wpAny (model X.prog X.w) X.A (call f us) (EP2 X pins σ H G Q) X.xe s
noncomputable abbrev Rch (K:PySem.W.Frag) (H:Hp) (G:Gp) (Q:DK):VK:=fun v H'=>∃ d G',Mv K H G H' G'/\RepD K H' v d/\Q d G'
theorem EP2.of {pins:List (Addr×Obj)} {σ:L2.St} {H:Hp} {G:Gp} {Q:DK} {u:Value} {s':Shared} (h:EP X pins σ (Rch X.K H G Q) u s'):EP2 X pins σ H G Q u s':=by
 obtain ⟨v,H',I,r,d,G',m,rd,q⟩:=h
 exact ⟨v,H',d,G',I,m,r,rd,q⟩
theorem binT2 (ha:PE2 X a ta) (hb:PE2 X b tb) {E:XK2} {pins:List (Addr×Obj)} {s:Shared} {σ:L2.St} {H:Hp} {τ:St2} {G:Gp} {R:D->D->Gp->Prop} (hE:Lk X E) (I:I2 X pins σ H τ G s)
  (h:ta E τ G fun x G1=>tb E τ G1 fun y G2=>R x y G2) {Q:Value->Shared->Prop} {f:Value->Value->Sem Value}
  (hf:∀ v u s2 x y dx dy H2 G2,I2 X pins σ H2 τ G2 s2->Mv X.K H G H2 G2->RelV x v->RelV y u->RepD X.K H2 x dx->RepD X.K H2 y dy->R dx dy G2->wpAny (model X.prog X.w) X.A (f v u) Q X.xe s2) :
  wpAny (model X.prog X.w) X.A (eval a X.env) (fun v s₁=>wpAny (model X.prog X.w) X.A (eval b X.env) (fun u s₂=>wpAny (model X.prog X.w) X.A (f v u) Q X.xe s₂) X.xe s₁) X.xe s:=by
 refine thnE ha hE I h fun x H1 dx G1 v s1 I1 m1 r1 rd1 q1=>?_
 refine thnE hb hE I1 q1 fun y H2 dy G2 u s2 I2' m2 r2 rd2 q2=>?_
 exact hf v u s2 x y dx dy H2 G2 I2' (m1.trans m2) r1 r2 (rd1.mono (m2.kp I1.ab)) rd2 q2
theorem pe2_op {op:Operator} {r:R22} (ho:OpR2 X (binaryOp op) r) (ha:PE2 X a ta) (hb:PE2 X b tb):PE2 X (.BinOp a op b pos) (dBin r ta tb):=by
 intro E pins s σ H τ G Q hE I h
 exact wpAny_BinOp (binT2 ha hb hE I h fun v u s2 x y dx dy H2 G2 I2' m rx ry dX dY q=>thn (ho pins s2 σ H2 G2 x y dx dy v u Q I2'.inv I2'.ab rx ry dX dY q) fun _ _ z=>z.trans m)
theorem pe2_un {op:UnaryOp} {r:D->Gp->DK->Prop} (ho:UnR2 X (unaryOp op) r) (ha:PE2 X a ta):PE2 X (.UnaryOp op a pos) (dUn r ta):=by
 intro E pins s σ H τ G Q hE I h
 exact UnaryOp_ (thnE ha hE I h fun x H1 dx G1 v s1 I1 m1 r1 rd1 q1=>thn (ho pins s1 σ H1 G1 x dx v Q I1.inv I1.ab r1 rd1 q1) fun _ _ z=>z.trans m1)
theorem pe2_cmp {op:CmpOp} {r:R22} (ho:OpR2 X (compareOp op) r) (ha:PE2 X a ta) (hb:PE2 X b tb) (hm:behindInMarks op b=false):PE2 X (.Compare a [op] [b] pos) (dBin r ta tb):=by
 intro E pins s σ H τ G Q hE I h
 exact wpAny_Compare1 (binT2 ha hb hE I h fun v u s2 x y dx dy H2 G2 I2' m rx ry dX dY q=>thn (ho pins s2 σ H2 G2 x y dx dy v u Q I2'.inv I2'.ab rx ry dX dY q) fun _ _ z=>z.trans m) hm
end
end K2
end
section
namespace K2
open PySem PySem.Spec PyProof.Rows L2
theorem tru_V {K:PySem.W.Frag} {H:Hp} {G:Gp} {x:V} {d:D} {k:Bool} (ab:AbH K H G) (r:RepD K H x d) (e:tru d G=some k):(∃ p,x=.ref p/\Rd H p (.dT [])/\k=false)\/(∃ p kv,x=.ref p/\Rd H p (.dK kv)/\k=!kv.isEmpty)\/TruV K x H k:=by
 have dicts:∀ kvs:List (D×D),(if (kvs.all fun p=>keyOk1 p.1)=true then some (!kvs.isEmpty) else none)=some k->∀ p,((∃ kv,Rd H p (.dK kv)/\DKs K H kv kvs)\/∃ kv,Rd H p (.dT kv)/\DTs K H kv kvs) ->
   (∃ p',V.ref p=.ref p'/\Rd H p' (.dT [])/\k=false)\/(∃ p' kv,V.ref p=.ref p'/\Rd H p' (.dK kv)/\k=!kv.isEmpty)\/TruV K (.ref p) H k:=by
  intro kvs e p z
  by_cases ha:(kvs.all fun p=>keyOk1 p.1)=true
  ·rw [if_pos ha] at e
   cases e
   rcases z with ⟨kv,hv,rs⟩ | ⟨kv,hv,rs⟩
   ·right; left
    refine ⟨p,kv,rfl,hv,?_⟩
    cases rs <;> rfl
   ·left
    cases rs with
    | nil=>exact ⟨p,rfl,hv,rfl⟩
    | cons _ _=>simp [keyOk1] at ha
  ·rw [if_neg ha] at e; cases e
 cases r with
 | non=>right; right; cases e; rfl
 | bl b=>right; right; cases e; rfl
 | int i=>right; right; cases e; rfl
 | str y =>
  right; right
  unfold tru at e
  dsimp only at e
  by_cases h:y.length<=SZ
  ·rw [if_pos h] at e; cases e; exact ⟨by rw [sizeLine_eq]; exact h,rfl⟩
  ·rw [if_neg h] at e; cases e
 | tup h rs =>
  right; right
  cases e
  refine .inr (.inl ⟨_,.of h,?_⟩)
  cases rs <;> rfl
 | rol h rs =>
  right; right
  cases e
  refine .inl ⟨_,h.sq,?_⟩
  cases rs <;> rfl
 | rodK h rs=>exact dicts _ e _ (.inl ⟨_,.inr ⟨_,h⟩,rs⟩)
 | rodT h rs=>exact dicts _ e _ (.inr ⟨_,.inr ⟨_,h⟩,rs⟩)
 | exc h=>simp [tru] at e
 | ref a =>
  unfold tru at e
  dsimp only at e
  cases q:G a with
  | none=>rw [q] at e; cases e
  | some g =>
   rw [q] at e
   have z:=ab a g q
   cases g with
   | lst ds =>
    right; right
    obtain ⟨vs,hv,rs⟩:=z
    cases e
    refine .inl ⟨vs,.of hv,?_⟩
    cases rs <;> rfl
   | dic kvs =>
    refine dicts kvs e a ?_
    rcases z with ⟨kv,hv,rs⟩ | ⟨kv,hv,rs⟩
    ·exact .inl ⟨kv,.inl hv,rs⟩
    ·exact .inr ⟨kv,.inl hv,rs⟩
section
variable {X:Cx} {a b c:Expr} {ta tb tc:TE2} {pos:Pos}
noncomputable def TruR2 (X:Cx):Prop:=∀ (pins:List (Addr×Obj)) (s:Shared) (σ:L2.St) (H:Hp) (G:Gp) (x:V) (d:D) (v:Value) (k:Bool) (Q:Bool->Shared->Prop),Inv X pins σ H s->AbH X.K H G->RelV x v->RepD X.K H x d->tru d G=some k ->
  (∀ s',Inv X pins σ H s'->Q k s')->wpAny (model X.prog X.w) X.A (truthy v) Q X.xe s
theorem tru2:TruR2 X:=by
 intro pins s σ H G x d v k Q I ab rx rd e q
 rcases tru_V ab rd e with ⟨p,rfl,hv,hk⟩ | ⟨p,kv,rfl,hv,hk⟩ | h
 ·obtain ⟨z,hS,xs,rel,o,es,ep,ho,hx,hd',hl,nd⟩:=hv.ok I.hok
  have hxs:xs=[]:=by cases rel; rfl
  subst hxs
  have he:es=#[]:=by simpa using hl
  subst he
  cases rx
  have dd:s.heap.DictOf (mixKind X.prog X.w) p []:=⟨o,#[],ep,ho,hx,hd',(fun _ h=>by simp at h),.nil,List.nodup_nil⟩
  refine wpAny_truthy_dict hS dd (by simp) ?_
  subst hk
  exact q _ (I.tok _)
 ·cases rx
  subst hk
  exact d_truth I hv q
 ·exact thn (tru_ok pins s σ H x v (fun k' H'=>k'=k/\H'=H) I rx ⟨k,h,rfl,rfl⟩) fun k' s' hp0=>by
   obtain ⟨H',I',e1,e2⟩:=hp0
   subst e1; subst e2; exact q s' I'
theorem pt2_truth (ha:PE2 X a ta) (he:autoParam (∀ whole,isTrue a X.env whole=(do let v ← whole; standAt a.pos; holding [v] (truthy v))) Ai._auto_1):PT2 X a (dTru ta):=by
 intro E pins s σ H τ G Q hE I h
 refine isTrue_plain (thnE ha hE I h fun x H1 d G1 v s1 I1 m1 r1 rd1 q1=>?_) (he _)
 try dsimp only at q1
 split at q1
 ·rename_i k e
  exact tru2 pins s1 σ H1 G1 x d v k _ I1.inv I1.ab r1 rd1 e fun s' I'=>⟨H1,G1,I',m1,q1⟩
 ·exact q1.elim
theorem pt2_cmp {op:CmpOp} {r:R22} (ho:OpR2 X (compareOp op) r) (ha:PE2 X a ta) (hb:PE2 X b tb) (hm:behindInMarks op b=false):PT2 X (.Compare a [op] [b] pos) (dTru (dBin r ta tb)):=by
 intro E pins s σ H τ G Q hE I h
 refine wpAny_isTrue_Compare1 (thnE ha hE I h fun x H1 dx G1 v s1 I1 m1 r1 rd1 q1=>thnE hb hE I1 q1 fun y H2 dy G2 u s2 I2' m2 r2 rd2 q2 =>
  thn (ho pins s2 σ H2 G2 x y dx dy v u _ I2'.inv I2'.ab r1 r2 (rd1.mono (m2.kp I1.ab)) rd2 q2) ?_) hm
 rintro c s3 ⟨z,H3,dz,G3,I3,m3,r3,rd3,q3⟩
 try dsimp only at q3
 split at q3
 ·rename_i k e
  exact tru2 pins s3 σ H3 G3 z dz c k _ I3 m3.ab r3 rd3 e fun s' I'=>⟨H3,G3,I',(m1.trans m2).trans m3,q3⟩
 ·exact q3.elim
variable {tA tB:TT2} {rest:List Expr}
theorem PW2.pt {e:Expr} {t:TT2} (h:PW2 X e t):PT2 X e t:=fun E pins s σ H τ G Q hE I q=>h _ E pins s σ H τ G Q hE I q
theorem thnT {pins:List (Addr×Obj)} {σ:L2.St} {H:Hp} {τ:St2} {G:Gp} {s:Shared} {E:XK2} {R:Bool->Gp->Prop} {Q:Bool->Shared->Prop} (ha:PT2 X a tA) (hE:Lk X E) (I:I2 X pins σ H τ G s) (h:tA E τ G R)
  (k:∀ c H1 G1 s1,I2 X pins σ H1 τ G1 s1->Mv X.K H G H1 G1->R c G1->Q c s1):wpAny (model X.prog X.w) X.A (isTrue a X.env (eval a X.env)) Q X.xe s :=
 thn (ha E pins s σ H τ G R hE I h) (by rintro c s1 ⟨H1,G1,I1,m,q⟩; exact k c H1 G1 s1 (I.mv I1 m) m q)
theorem pw2_and1 (ha:PT2 X a tA):PW2 X (.BoolOp .And [a] pos) tA:=by
 intro wh E pins s σ H τ G Q hE I h
 refine isTrue_and (thn (ha E pins s σ H τ G Q hE I h) fun c s1 e=>?_)
 cases c with
 | true=>exact isTrue_and_nil e
 | false=>exact e
theorem pw2_or1 (ha:PT2 X a tA):PW2 X (.BoolOp .Or [a] pos) tA:=by
 intro wh E pins s σ H τ G Q hE I h
 refine isTrue_or (thn (ha E pins s σ H τ G Q hE I h) fun c s1 e=>?_)
 cases c with
 | false=>exact isTrue_or_nil e
 | true=>exact e
theorem pw2_and (ha:PT2 X a tA) (hb:PW2 X (.BoolOp .And (b :: rest) pos) tB):PW2 X (.BoolOp .And (a :: b :: rest) pos) (dAnd tA tB):=by
 intro wh E pins s σ H τ G Q hE I h
 refine isTrue_and (thnT ha hE I h fun c H1 G1 s1 I1 m1 q1=>?_)
 cases c with
 | true=>exact thn (hb wh E pins s1 σ H1 τ G1 Q hE I1 (by simpa using q1)) fun _ _ z=>z.trans m1
 | false=>exact ⟨H1,G1,I1.inv,m1,by simpa using q1⟩
theorem pw2_or (ha:PT2 X a tA) (hb:PW2 X (.BoolOp .Or (b :: rest) pos) tB):PW2 X (.BoolOp .Or (a :: b :: rest) pos) (dOr tA tB):=by
 intro wh E pins s σ H τ G Q hE I h
 refine isTrue_or (thnT ha hE I h fun c H1 G1 s1 I1 m1 q1=>?_)
 cases c with
 | false=>exact thn (hb wh E pins s1 σ H1 τ G1 Q hE I1 (by simpa using q1)) fun _ _ z=>z.trans m1
 | true=>exact ⟨H1,G1,I1.inv,m1,by simpa using q1⟩
theorem pt2_not (ha:PT2 X a tA):PT2 X (.UnaryOp .Not a pos) (dNot tA):=by
 intro E pins s σ H τ G Q hE I h
 exact isTrue_not (thn (ha E pins s σ H τ G (fun c H1=>Q (!c) H1) hE I h) (by rintro c s' ⟨H',G',i,m,q⟩; exact ⟨H',G',i,m,q⟩))
theorem pe2_one {op} {t:TE2} (h:PE2 X a t):PE2 X (.BoolOp op [a] pos) t:=fun E pins s σ H τ G Q hE I hw=>BoolOp_one (h E pins s σ H τ G Q hE I hw)
theorem pe2_and (ha:PE2 X a ta) (hb:PE2 X (.BoolOp .And (b :: rest) pos) tb):PE2 X (.BoolOp .And (a :: b :: rest) pos) (dAndV ta tb):=by
 intro E pins s σ H τ G Q hE I h
 refine BoolOp_and (thnE ha hE I h fun x H1 d G1 v s1 I1 m1 r1 rd1 q1=>?_)
 try dsimp only at q1
 split at q1
 ·rename_i e
  exact tru2 pins s1 σ H1 G1 x d v true _ I1.inv I1.ab r1 rd1 e fun s' I'=>thn (hb E pins s' σ H1 τ G1 Q hE ⟨I',I1.st,I1.ab⟩ q1) fun _ _ z=>z.trans m1
 ·rename_i e
  exact tru2 pins s1 σ H1 G1 x d v false _ I1.inv I1.ab r1 rd1 e fun s' I'=>⟨x,H1,d,G1,I',m1,r1,rd1,q1⟩
 ·exact q1.elim
theorem pe2_or (ha:PE2 X a ta) (hb:PE2 X (.BoolOp .Or (b :: rest) pos) tb):PE2 X (.BoolOp .Or (a :: b :: rest) pos) (dOrV ta tb):=by
 intro E pins s σ H τ G Q hE I h
 refine BoolOp_or (thnE ha hE I h fun x H1 d G1 v s1 I1 m1 r1 rd1 q1=>?_)
 try dsimp only at q1
 split at q1
 ·rename_i e
  exact tru2 pins s1 σ H1 G1 x d v true _ I1.inv I1.ab r1 rd1 e fun s' I'=>⟨x,H1,d,G1,I',m1,r1,rd1,q1⟩
 ·rename_i e
  exact tru2 pins s1 σ H1 G1 x d v false _ I1.inv I1.ab r1 rd1 e fun s' I'=>thn (hb E pins s' σ H1 τ G1 Q hE ⟨I',I1.st,I1.ab⟩ q1) fun _ _ z=>z.trans m1
 ·exact q1.elim
theorem pe2_not (ha:PE2 X a ta):PE2 X (.UnaryOp .Not a pos) (dNotV ta):=by
 intro E pins s σ H τ G Q hE I h
 refine UnaryOp_ (thnE ha hE I h fun x H1 d G1 v s1 I1 m1 r1 rd1 q1=>?_)
 try dsimp only at q1
 split at q1
 ·rename_i k e
  exact not_of (tru2 pins s1 σ H1 G1 x d v k _ I1.inv I1.ab r1 rd1 e fun s' I'=>⟨.bl (!k),H1,.bl (!k),G1,I',m1,rfl,.bl _,q1⟩)
 ·exact q1.elim
variable {e:Expr} {es:List Expr} {te:TE2} {t:TA2}
theorem pa2_nil:PA2 X [] dNil:=fun _ _ _ _ _ H _ G Q _ I h=>Calls.spliced_nil ⟨[],H,[],G,I.inv,.refl I.ab,.nil,.nil,h⟩
theorem pa2_cons (ha:PE2 X e te) (hr:PA2 X es t) (hs:autoParam (starEach (e :: es) X.env=(false,eval e X.env) :: starEach es X.env) Ar._auto_1):PA2 X (e :: es) (dCons te t):=by
 intro pos E pins s σ H τ G Q hE I h
 rw [hs]
 show wpAny _ _ (spliced ((false,eval e X.env) :: backTo pos (starEach es X.env))) _ _ s
 refine Calls.spliced_cons (thnE ha hE I h fun x H1 d G1 u s1 I1 m1 r1 rd1 q1=>?_)
 exact thn (hr pos E pins s1 σ H1 τ G1 _ hE I1 q1) (by rintro us s2 ⟨xs,H2,ds,G2,I2',m2,r2,rd2,q2⟩; exact ⟨x :: xs,H2,d :: ds,G2,I2',m1.trans m2,.cons r1 r2,.cons (rd1.mono (m2.kp I1.ab)) rd2,q2⟩)
theorem thnA {pins:List (Addr×Obj)} {σ:L2.St} {H:Hp} {τ:St2} {G:Gp} {s:Shared} {E:XK2} {R:List D->Gp->Prop} {Q:List Value->Shared->Prop} (ha:PA2 X es t) (pos:Pos) (hE:Lk X E) (I:I2 X pins σ H τ G s) (h:t E τ G R)
  (k:∀ vs H1 ds G1 us s1,I2 X pins σ H1 τ G1 s1->Mv X.K H G H1 G1->Vals vs us->RepDs X.K H1 vs ds->R ds G1->Q us s1):wpAny (model X.prog X.w) X.A (spliced (backTo pos (starEach es X.env))) Q X.xe s :=
 thn (ha pos E pins s σ H τ G R hE I h) (by rintro us s1 ⟨vs,H1,ds,G1,I1,m,r,rd,q⟩; exact k vs H1 ds G1 us s1 (I.mv I1 m) m r rd q)
theorem pe2_tup {x1} (h:PA2 X es t):PE2 X (.Tuple es x1 pos) (dTup t):=by
 intro E pins s σ H τ G Q hE I hq
 refine wpAny_Tuple_spliced (thnA h pos hE I hq ?_)
 rintro xs H1 ds G1 us s1 I1 m1 r rd ⟨z,q⟩
 refine ⟨by rw [← r.length,rd.length,sizeLine_eq]; exact z,?_⟩
 have hf:H1 s1.heap.objs.size=none:=I1.inv.hok.fresh (Nat.le_refl _)
 refine ⟨.ref s1.heap.objs.size,upd H1 s1.heap.objs.size (.tup xs),.tup ds,G1,I1.inv.laid (t':=s1.toks) (fun b u e=>Heap.get?_push_of_some _ e) (Nat.le_refl _) ?_,m1.trans (.hid I1.ab hf),rfl,?_,q⟩
 ·exact ⟨by rw [rd.length,sizeLine_eq]; exact z,us,r,⟨_,Heap.get?_push_size _ rfl,rfl,_,rfl⟩⟩
 ·exact .tup upd_same (rd.mono (.new hf))
theorem pe2_lst (h:PA2 X es t):PE2 X (.List es pos) (dLst t):=by
 intro E pins s σ H τ G Q hE I hq
 refine wpAny_List_spliced (thnA h pos hE I hq ?_)
 rintro xs H1 ds G1 us s1 I1 m1 r rd ⟨z,q⟩
 refine ⟨by rw [← r.length,rd.length,sizeLine_eq]; exact z,?_⟩
 have hf:H1 s1.heap.objs.size=none:=I1.inv.hok.fresh (Nat.le_refl _)
 refine ⟨.ref s1.heap.objs.size,upd H1 s1.heap.objs.size (.lst xs),.ref _,updG G1 s1.heap.objs.size (.lst ds),I1.inv.laid (t':=s1.toks) (fun b u e=>Heap.get?_push_of_some _ e) (Nat.le_refl _) ?_,m1.trans (.newL I1.ab hf rd),rfl,.ref _,q _ (I1.ab.free hf)⟩
 exact ⟨by rw [rd.length,sizeLine_eq]; exact z,us,0,r,Heap.get?_push_size _ rfl⟩
noncomputable def spOf (K:PySem.W.Frag) (sp:Sp2):Sp:=fun vs H Q _=>∃ ds G Q2,RepDs K H vs ds/\AbH K H G/\sp ds G Q2 (fun _ _=>False)/\∀ d G' v H',Q2 d G'->Mv K H G H' G'->RepD K H' v d->Q v H'
variable {k:Nat} {f:Addr} {fd:FuncData} {ps:List Str} {sp:Sp2} {x:Str} {p:Pos} {r:List D->Gp->DK->Prop} {id:String}
theorem pe2_call (F:FnOk X.prog X.w X.K X.mg X.base CX0 k f fd ps (spOf X.K sp)) (hr:Room k X.A) (hg:Gl X x) (hm:X.mg x=some (.ref f)) (hk:PySem.W.keepIn X.K (.ref f)=true) (hb:Binds X.K fd ps [])
  (ha:PA2 X (e :: es) t) (hdb:autoParam ((x == ("__debug__" : Str))=false) Ad._auto_1) (he:autoParam (starEach (e :: es) X.env=(false,eval e X.env) :: starEach es X.env) Ar._auto_1) (hpl:autoParam ((backTo pos (starEach es X.env)).any (·.1)=false) Ar._auto_1) :
  PE2 X (.Call (.Name x p) (e :: es) [] pos) (fun E τ G Q=>dCall (fun ds G1 Q1 _=>sp ds G1 Q1 fun _ _=>False) t E τ G Q):=by
 intro E pins s σ H τ G Q hE I h
 refine wpAny_Call_Name_kw (ld_glob I.inv hg hm ?_ hdb)
 refine PySem.W.callWith_K (h₀:=X.base) I.inv.ok.mod.kin hk (thnA ha pos hE I h fun vs H1 ds G1 us s1 I1 m1 r rd q=>⟨I1.inv.kIn,?_⟩) he hpl
 refine thn (run_fn F hr hb .nil pass0 I1.inv r (Q:=Rch X.K H1 G1 Q) ?_) fun _ _ z=>(EP2.of z).trans m1
 rw [List.append_nil]
 exact ⟨ds,G1,Q,rd,I1.ab,q,fun d G' v H' q' m' rd'=>⟨d,G',m',rd',q'⟩⟩
theorem pe2_callB (hc:CallR2 X (.builtin id) r) (hg:Gl X x) (hm:X.mg x=none) (hv:bootBuiltins x=some (.builtin id)) (ha:PA2 X (e :: es) t) (hn:autoParam (x≠"__name__") Ad._auto_1) (hdb:autoParam ((x == ("__debug__" : Str))=false) Ad._auto_1)
  (he:autoParam (starEach (e :: es) X.env=(false,eval e X.env) :: starEach es X.env) Ar._auto_1) (hpl:autoParam ((backTo pos (starEach es X.env)).any (·.1)=false) Ar._auto_1):PE2 X (.Call (.Name x p) (e :: es) [] pos) (dCB r t):=by
 intro E pins s σ H τ G Q hE I h
 refine wpAny_Call_Name_kw (ld_blt I.inv hg hm hv ?_ hn hdb)
 exact PyProof.Rows.callWith_builtin1 (thnA ha pos hE I h fun vs H1 ds G1 us s1 I1 m1 r1 rd1 q1=>thn (hc pins s1 σ H1 G1 vs ds us Q I1.inv I1.ab r1 rd1 q1) fun _ _ z=>z.trans m1) he hpl
variable {st:Stmt} {sts:List Stmt} {u v:TS2}
theorem pss2_nil:PSs2 X [] dNext:=fun _ _ _ σ H τ G _ _ I h=>wpAny_execs_nil ⟨σ,H,τ,G,I,.refl I.ab,h⟩
theorem pss2_cons (h1:PS2 X st u) (h2:PSs2 X sts v):PSs2 X (st :: sts) (dSeq u v):=by
 intro E pins s σ H τ G D hE I h
 refine wpAny_execs_cons (thn (h1 E pins s σ H τ G { D with nx:=v E D } hE I h) fun f s1 q=>?_)
 cases f with
 | next =>
  obtain ⟨σ',H',τ',G',I',m,q⟩:=q
  exact thn (h2 E pins s1 σ' H' τ' G' D hE I' q) fun _ _ z=>z.trans m
 | ret v=>exact q
 | brk=>exact q
 | cont=>exact q
theorem pss2_one (h1:PS2 X st u):PSs2 X [st] u:=by
 intro E pins s σ H τ G D hE I h
 refine wpAny_execs_cons (thn (h1 E pins s σ H τ G D hE I h) fun f s1 q=>?_)
 cases f with
 | next=>exact wpAny_execs_nil q
 | ret v=>exact q
 | brk=>exact q
 | cont=>exact q
theorem ps2_ret (he:PE2 X e te):PS2 X (.Return (some e) pos) (dRet te):=by
 intro E pins s σ H τ G D hE I h
 exact wpAny_Return_some (thn (he E pins s σ H τ G _ hE I h) (by rintro v s1 ⟨x,H1,d,G1,I1,m,r1,rd,q1⟩; exact ⟨x,σ,H1,d,G1,I1,m,r1,rd,q1⟩))
theorem ps2_if {sa sb:List Stmt} (hc:PT2 X c tA) (ha:PSs2 X sa u) (hb:PSs2 X sb v):PS2 X (.If c sa sb pos) (dIfS tA u v):=by
 intro E pins s σ H τ G D hE I h
 refine wpAny_If (thnT hc hE I h fun d H1 G1 s1 I1 m1 q1=>?_)
 cases d with
 | true=>exact thn (ha E pins s1 σ H1 τ G1 D hE I1 (by simpa using q1)) fun _ _ z=>z.trans m1
 | false=>exact thn (hb E pins s1 σ H1 τ G1 D hE I1 (by simpa using q1)) fun _ _ z=>z.trans m1
noncomputable def PG2 (X:Cx) (target:Expr) (t:TG2):Prop :=
 ∀ (E:XK2) (pins:List (Addr×Obj)) (s:Shared) (σ:L2.St) (H:Hp) (τ:St2) (G:Gp) (w:V) (d:D) (u:Value) (Q:St2->Gp->Prop),Lk X E->I2 X pins σ H τ G s->RelV w u->RepD X.K H w d->t E d τ G Q ->
  wpAny (model X.prog X.w) X.A (assign target X.env u) (fun _ s'=>∃ σ' H' τ' G',I2 X pins σ' H' τ' G' s'/\Mv X.K H G H' G'/\Q τ' G') X.xe s
noncomputable def PGs2 (X:Cx) (ts:List Expr) (t:TGs2):Prop :=
 ∀ (E:XK2) (pins:List (Addr×Obj)) (s:Shared) (σ:L2.St) (H:Hp) (τ:St2) (G:Gp) (ws:List V) (ds:List D) (us:List Value) (Q:St2->Gp->Prop),Lk X E->I2 X pins σ H τ G s->Vals ws us->RepDs X.K H ws ds->t E ds τ G Q ->
  wpAny (model X.prog X.w) X.A (assignInOrder ((assignEach ts X.env).map (·.2)) us) (fun _ s'=>∃ σ' H' τ' G',I2 X pins σ' H' τ' G' s'/\Mv X.K H G H' G'/\Q τ' G') X.xe s
theorem pg2_name {i:Nat} {x:Str} (hN:X.N.Nodup) (hi:X.N[i]?=some x) (hx:Loc X.env.scope x) (hf:autoParam (X.fn x=true\/X.env.scope.names.lookup x=some .local) Ao._auto_1):PG2 X (.Name x pos) (gName i):=by
 intro E pins s σ H τ G w d u Q hE I r rd h
 exact wpAny_assign_Name (store_ok I.inv hN hi hx r (fun s' I'=>⟨_,H,_,G,⟨I',I.st.set i rd,I.ab⟩,.refl I.ab,h⟩) hf)
theorem pgs2_nil:PGs2 X [] gNil:=by
 intro E pins s σ H τ G ws ds us Q hE I r rd h
 unfold gNil at h
 split at h
 ·have e:=rd.zero
  subst e
  cases r
  exact assignInOrder_nil ⟨σ,H,τ,G,I,.refl I.ab,h⟩
 ·exact h.elim
theorem pgs2_cons {t:TG2} {u:TGs2} (h1:PG2 X e t) (h2:PGs2 X es u)
  (hs:autoParam ((assignEach (e :: es) X.env).map (·.2)=assign e X.env :: (assignEach es X.env).map (·.2)) Ar._auto_1):PGs2 X (e :: es) (gCons t u):=by
 intro E pins s σ H τ G ws ds us Q hE I r rd h
 unfold gCons at h
 split at h
 ·cases rd with
  | cons rd1 rd2 =>
   cases r with
   | cons r1 r2 =>
    rw [hs]
    refine assignInOrder_cons (thn (h1 E pins s σ H τ G _ _ _ _ hE I r1 rd1 h) ?_)
    rintro _ s1 ⟨σ1,H1,τ1,G1,I1,m1,q1⟩
    exact thn (h2 E pins s1 σ1 H1 τ1 G1 _ _ _ Q hE I1 r2 (rd2.mono (m1.kp I.ab)) q1) (by rintro _ _ ⟨σ2,H2,τ2,G2,I2',m2,q2⟩; exact ⟨σ2,H2,τ2,G2,I2',m1.trans m2,q2⟩)
 ·exact h.elim
theorem pg2_tup {k:Nat} {t:TGs2} {n:Nat} (hc:X.calm=true) (h:PGs2 X es t) (hgl:∀ E ds τ G Q,t E ds τ G Q->ds.length=n)
  (hn:autoParam ((assignEach es X.env).length=n) Ar._auto_1) (hst:autoParam ((assignEach es X.env).findIdx? (·.1)=none) Ar._auto_1):PG2 X (.Tuple es k pos) (gTup t):=by
 intro E pins s σ H τ G w d u Q hE I r rd hw
 unfold gTup at hw
 split at hw
 ·cases rd with
  | tup hq rs =>
   cases r
   obtain ⟨its,rv,ht,hz⟩:=I.inv.tuple (.of hq)
   refine assign_Tuple_tuple (I.inv.ok.hd hc) ht (by rw [hn,List.size_toArray,← rv.length,rs.length]; exact (hgl _ _ _ _ _ hw).symm) hst fun h' hx=>?_
   have I1:Inv X pins σ H { s with heap:=h' }:=I.inv.kept (t':=s.toks) fun b o e=>hx b o (Nat.ne_of_lt (Heap.lt_size e)) e
   exact h E pins _ σ H τ G _ _ _ Q hE ⟨I1,I.st,I.ab⟩ (by simpa using rv) rs hw
 ·exact hw.elim
theorem glen_nil:∀ E ds τ G Q,gNil E ds τ G Q->ds.length=0:=by
 intro E ds τ G Q h
 cases ds with
 | nil=>rfl
 | cons _ _=>exact h.elim
theorem glen_cons {t:TG2} {u:TGs2} {n:Nat} (h:∀ E ds τ G Q,u E ds τ G Q->ds.length=n) (hm:∀ E d τ G (Q Q':St2->Gp->Prop),t E d τ G Q->(∀ τ' G',Q τ' G'->Q' τ' G')->t E d τ G Q') (hx:∀ E d τ G,¬ t E d τ G fun _ _=>False) :
  ∀ E ds τ G Q,gCons t u E ds τ G Q->ds.length=n+1:=by
 intro E ds τ G Q q
 cases ds with
 | nil=>exact q.elim
 | cons d ds =>
  by_cases hl:ds.length=n
  ·rw [List.length_cons,hl]
  ·exact absurd (hm E d τ G _ (fun _ _=>False) q fun τ' G' z=>hl (h _ _ _ _ _ z)) (hx E d τ G)
theorem ps2_asg {tg:Expr} {g:TG2} (he:PE2 X e te) (hg:PG2 X tg g) (hs:autoParam (swapsWithSole [tg] e pos.line X.env=pure false) Ar._auto_1) (hw:autoParam (swappedStores [tg] e X.env=pure none) Ar._auto_1)
  (h1:autoParam ((assignEach [tg] X.env).map (·.2)=[assign tg X.env]) Ar._auto_1):PS2 X (.Assign [tg] e pos) (dAsg te g):=by
 intro E pins s σ H τ G D hE I h
 refine wpAny_Assign_stores (thnE he hE I h fun x H1 d G1 v s1 I1 m1 r1 rd1 q1=>?_) hs hw
 rw [h1]
 exact thn (hg E pins s1 σ H1 τ G1 x d v _ hE I1 r1 rd1 q1) (by rintro _ s2 ⟨σ2,H2,τ2,G2,I2',m2,q2⟩; exact ⟨σ2,H2,τ2,G2,I2',m1.trans m2,q2⟩)
theorem ps2_set {i:Nat} {x:Str} {pos':Pos} (hN:X.N.Nodup) (hi:X.N[i]?=some x) (hx:Loc X.env.scope x) (he:PE2 X e te) (hs:autoParam (swapsWith e (some (.Name x pos')) pos.line X.env=pure false) Ar._auto_1) (hf:autoParam (X.fn x=true\/X.env.scope.names.lookup x=some .local) Ao._auto_1) :
  PS2 X (.Assign [.Name x pos'] e pos) (dAsg te (gName i)):=by
 intro E pins s σ H τ G D hE I h
 refine wpAny_Assign_Name (thnE he hE I h fun y H1 d G1 v s1 I1 m1 r1 rd1 q1=>?_) hs
 exact store_ok I1.inv hN hi hx r1 (fun s2 I2'=>⟨_,H1,_,G1,⟨I2',I1.st.set i rd1,I1.ab⟩,m1,q1⟩) hf
theorem ps2_expr (he:PE2 X e te) (hs:autoParam (swapsWith e none pos.line X.env=pure false) Ar._auto_1):PS2 X (.Expr e pos) (dExpr te):=by
 intro E pins s σ H τ G D hE I h
 exact wpAny_Expr_any (thnE he hE I h fun y H1 d G1 v s1 I1 m1 r1 rd1 q1=>⟨σ,H1,τ,G1,I1,m1,q1⟩) I.inv.quiet hs
end
end K2
end
section
namespace K2
open PySem PySem.Spec PyProof.Rows L2
noncomputable def Walk2 (K:PySem.W.Frag) (J:It) (H':Hp) (ds:List D) (ok:Gp->Prop):Prop :=
 ∀ i H1 G1,Kp H' H1->AbH K H1 G1->ok G1->(∀ d,ds[i]?=some d->J.go i H1/\∀ x H2,J.yld i H1 x H2->RepD K H2 x d/\Mv K H1 G1 H2 G1)/\(ds.length<=i->J.stop i H1)
inductive PIE2 (X:Cx) (pins:List (Addr×Obj)) (σ:L2.St) (tg:Expr) (H:Hp) (G:Gp) (R:List D->(Gp->Prop)->Gp->Prop) (itv:Value) (s2:Shared):Prop
 | mk (it:Addr) (fp:List Addr) (tn:Nat->Heap->Prop) (J:It) (H':Hp) (G':Gp) (ds:List D) (ok:Gp->Prop) (e:itv=.ref it) (i:Inv X pins σ H' s2) (m:Mv X.K H G H' G') (T:Turn X.prog X.w X.K tg J fp it tn) (t0:tn 0 s2.heap) (f:∀ b∈fp,FpOk X pins H' b)
  (wk:Walk2 X.K J H' ds ok) (q:R ds ok G'):PIE2 X pins σ tg H G R itv s2
noncomputable def PI2 (X:Cx) (tg iter:Expr) (wi:TI2):Prop :=
 ∀ (E:XK2) (pins:List (Addr×Obj)) (s:Shared) (σ:L2.St) (H:Hp) (τ:St2) (G:Gp) (R:List D->(Gp->Prop)->Gp->Prop),Lk X E->I2 X pins σ H τ G s->wi E τ G R ->
  wpAny (model X.prog X.w) X.A (eval iter X.env) (fun v s1=>wpAny (model X.prog X.w) X.A (pyIter v) (PIE2 X pins σ tg H G R) X.xe s1) X.xe s
section
variable {X:Cx} {tg:Expr} {a b:Expr} {ta tb:TE2} {pos p:Pos}
theorem list_it {pins:List (Addr×Obj)} {σ:L2.St} {H H1:Hp} {G G1:Gp} {s1:Shared} {l:Addr} {vs:List V} {ds:List D} {ok:Gp->Prop} {R:List D->(Gp->Prop)->Gp->Prop} (I1:Inv X pins σ H1 s1) (m:Mv X.K H G H1 G1) (hq:SqL X.K H1 l vs)
  (hk:∀ H2 G2,Kp H1 H2->AbH X.K H2 G2->ok G2->∃ ws,SqL X.K H2 l ws/\RepDs X.K H2 ws ds) (q:R ds ok G1):wpAny (model X.prog X.w) X.A (pyIter (.ref l)) (PIE2 X pins σ tg H G R) X.xe s1:=by
 obtain ⟨its,rv,pl,hz⟩:=I1.list hq
 refine wpAny_pyIter_list pl.isList ?_
 refine ⟨s1.heap.objs.size,[s1.heap.objs.size],_,_,H1,G1,ds,ok,rfl,I1.kept (t':=s1.toks) fun b o e=>Heap.get?_push_of_some _ e,m,turn_list l _,⟨_,Heap.get?_push_size _ rfl,rfl,rfl⟩,fun b hb=>?_,fun i H2 G2 k ab o=>?_,q⟩
 ·have e:b=s1.heap.objs.size:=by simpa using hb
  subst e
  exact I1.fpOk (Nat.le_refl _) (I1.hok.fresh (Nat.le_refl _))
 ·obtain ⟨ws,hw,rd⟩:=hk H2 G2 k ab o
  refine ⟨fun d hd=>?_,fun hl=>⟨ws,hw,by rw [rd.length]; exact hl⟩⟩
  obtain ⟨v,hv,r⟩:=rd.get hd
  refine ⟨⟨ws,v,hw,hv⟩,?_⟩
  rintro x H3 ⟨e,y⟩
  subst e
  have:=y ws hw
  rw [hv] at this
  cases this
  exact ⟨r,.refl ab⟩
theorem tup_it {pins:List (Addr×Obj)} {σ:L2.St} {H H1:Hp} {G G1:Gp} {s1:Shared} {l:Addr} {vs:List V} {ds:List D} {R:List D->(Gp->Prop)->Gp->Prop} (I1:Inv X pins σ H1 s1) (m:Mv X.K H G H1 G1) (hq:SqT X.K H1 l vs) (rd:RepDs X.K H1 vs ds)
  (q:R ds (fun _=>True) G1):wpAny (model X.prog X.w) X.A (pyIter (.ref l)) (PIE2 X pins σ tg H G R) X.xe s1:=by
 obtain ⟨its,rv,pl,hz⟩:=I1.tuple hq
 refine wpAny_pyIter_tuple (show s1.heap.IsTuple l its.toArray from pl) ?_
 refine ⟨s1.heap.objs.size,[s1.heap.objs.size],_,_,H1,G1,ds,_,rfl,I1.kept (t':=s1.toks) fun b o e=>Heap.get?_push_of_some _ e,m,turn_tuple l _,⟨_,Heap.get?_push_size _ rfl,rfl,rfl⟩,fun b hb=>?_,fun i H2 G2 k ab _=>?_,q⟩
 ·have e:b=s1.heap.objs.size:=by simpa using hb
  subst e
  exact I1.fpOk (Nat.le_refl _) (I1.hok.fresh (Nat.le_refl _))
 ·have hw:=k.sqT hq
  have rd2:=rd.mono k
  refine ⟨fun d hd=>?_,fun hl=>⟨vs,hw,by rw [rd.length]; exact hl⟩⟩
  obtain ⟨v,hv,r⟩:=rd2.get hd
  refine ⟨⟨vs,v,hw,hv⟩,?_⟩
  rintro x H3 ⟨e,y⟩
  subst e
  have:=y vs hw
  rw [hv] at this
  cases this
  exact ⟨r,.refl ab⟩
theorem pi2_seq (ha:PE2 X a ta):PI2 X tg a (iSeq ta):=by
 intro E pins s σ H τ G R hE I h
 refine thnE ha hE I h fun x H1 d G1 v s1 I1 m1 r1 rd1 q1=>?_
 cases rd1 with
 | tup hq rs=>cases r1; exact tup_it I1.inv m1 (.of hq) rs q1
 | rol hq rs=>cases r1; exact list_it I1.inv m1 hq.sq (fun H2 G2 k ab _=>⟨_,(k.sqF hq).sq,rs.mono k⟩) q1
 | ref p =>
  cases r1
  dsimp only at q1
  split at q1
  ·rename_i ds e
   obtain ⟨vs,hv,rs⟩:=I1.ab.lst e
   refine list_it I1.inv m1 (.of hv) (fun H2 G2 k ab o=>?_) q1
   obtain ⟨ws,hw,rw'⟩:=ab.lst o
   exact ⟨ws,.of hw,rw'⟩
  ·exact q1.elim
 | rodK _ _=>exact q1.elim
 | rodT _ _=>exact q1.elim
 | non=>exact q1.elim
 | bl _=>exact q1.elim
 | int _=>exact q1.elim
 | str _=>exact q1.elim
 | exc _=>exact q1.elim
theorem rng_it {pins:List (Addr×Obj)} {σ:L2.St} {H H1:Hp} {G G1:Gp} {s:Shared} {R:List D->(Gp->Prop)->Gp->Prop} {lo hi:Int} {t u v:Tok} {tk:Nat} (I:Inv X pins σ H1 s) (m:Mv X.K H G H1 G1) (h1:-(2 ^ 62)<=lo) (h2:lo < 2 ^ 62) (h3:-(2 ^ 62)<=hi) (h4:hi < 2 ^ 62)
  (q:R (rangeD lo (hi - lo).toNat) (fun _=>True) G1):wpAny (model X.prog X.w) X.A (pyIter (.ref s.heap.objs.size)) (PIE2 X pins σ tg H G R) X.xe { s with heap:=s.heap.push { cls:=.type "range",data:=.fields #[.int lo t,.int hi u,.int 1 v] },toks:=tk }:=by
 refine thn (range_it (tg:=tg) I h1 h2 h3 h4 (R:=fun J H'=>J=Itr lo (hi - lo).toNat/\H'=H1) ⟨rfl,rfl⟩) ?_
 rintro itv s2 ⟨it,fp,tn,J,H',e,I2',T,st,fo,eJ,eH⟩
 subst eJ; subst eH
 refine ⟨it,fp,tn,_,H',G1,_,_,e,I2',m,T,st,fo,fun i H2 G2 k ab _=>⟨fun d hd=>?_,fun hl=>?_⟩,q⟩
 ·unfold rangeD at hd
  rw [List.getElem?_map] at hd
  cases hi':(List.range (hi - lo).toNat)[i]? with
  | none=>rw [hi'] at hd; cases hd
  | some j =>
   rw [hi'] at hd
   obtain ⟨hlt,ej⟩:=List.getElem?_eq_some_iff.mp hi'
   rw [List.length_range] at hlt
   rw [List.getElem_range] at ej
   subst ej
   cases hd
   refine ⟨hlt,?_⟩
   rintro x H3 ⟨e1,e2⟩
   subst e1; subst e2
   exact ⟨.int _,.refl ab⟩
 ·unfold rangeD at hl
  rw [List.length_map,List.length_range] at hl
  exact hl
theorem pi2_range1 (hg:Gl X "range") (hm:X.mg "range" = none) (ha:PE2 X a ta) (hs:autoParam (starEach [a] X.env=[(false,eval a X.env)]) Ar._auto_1):PI2 X tg (.Call (.Name "range" p) [a] [] pos) (iRng1 ta):=by
 intro E pins s σ H τ G R hE I h
 have hA:PA2 X [a] (dCons ta dNil):=pa2_cons ha pa2_nil hs
 refine Call_ (ld_blt I.inv hg hm boot_range (PyProof.Rows.callWith_type1 (thnA hA pos hE I (R:=fun ds G1=>match ds with | [.int n]=>-(2 ^ 62)<=n/\n < 2 ^ 62/\R (rangeD 0 n.toNat) (fun _=>True) G1 | _=>False) ?_ fun vs H1 ds G1 us s1 I1 m1 r1 rd1 q1=>?_) hs rfl))
 ·show ta E τ G _
  have e:(fun (x:D) (G1:Gp)=>match [x] with | [.int n]=>-(2 ^ 62)<=n/\n < 2 ^ 62/\R (rangeD 0 n.toNat) (fun _=>True) G1 | _=>False)=fun x G1=>match x with | .int n=>-(2 ^ 62)<=n/\n < 2 ^ 62/\R (rangeD 0 n.toNat) (fun _=>True) G1 | _=>False:=by
   funext x G1; cases x <;> rfl
  exact e ▸ h
 ·split at q1
  ·rename_i n
   obtain ⟨w,rfl,rw1⟩:=rd1.one
   cases rw1
   obtain ⟨u,rfl,ru⟩:=r1.one
   obtain ⟨t,rfl⟩:=ru
   obtain ⟨q1,q2,q⟩:=q1
   exact call_range_1 (rng_it I1.inv m1 (by lia) (by lia) q1 q2 (by simpa using q))
  ·exact q1.elim
theorem ps2_for {iter:Expr} {body:List Stmt} {wi:TI2} {g:TG2} {t:TS2} (hp:PassesOwn (model X.prog X.w) X.A X.env X.xe) (hc:X.calm=true) (hi:PI2 X tg iter wi) (hg:PG2 X tg g) (hb:PSs2 X body t)
  (hs:autoParam (∀ x,foldedSetIterable iter X.env x=pure x) Ai._auto_1):PS2 X (.For tg iter body [] pos) (dFor wi g t):=by
 intro E pins s σ H τ G D hE I h
 refine wpAny_For (thn (hi E pins s σ H τ G _ hE I h) fun v s1 h1=>thn h1 fun itv s2 h2=>?_) hs
 obtain ⟨it,fp,tn,J,H2,G2,ds,ok,e,I2',m2,T,st2,f2,wk,q⟩:=h2
 subst e
 have stat:∀ {H':Hp},(∀ b∈fp,H' b=none)->∀ b∈fp,FpOk X pins H' b:=fun hn b hb=>⟨hn b hb,(f2 b hb).2⟩
 refine codeAny_forLoop_any (fun n s'=>∃ i σ' H' τ' G',I2 X pins σ' H' τ' G' s'/\Mv X.K H G H' G'/\Kp H2 H'/\tn i s'.heap/\(∀ b∈fp,H' b=none)/\n=ds.length - i/\i<=ds.length/\forGo g t ok (ds.drop i) E D τ' G') ?_ ds.length
  ⟨0,σ,H2,τ,G2,I.mv I2' m2,m2,.refl _,st2,fun b hb=>(f2 b hb).1,rfl,Nat.zero_le _,q⟩
 rintro n s3 ⟨i,σ3,H3,τ3,G3,I3,m3,k3,st3,fr3,rfl,hle,w3⟩
 by_cases hlt:i < ds.length
 ·rw [List.drop_eq_getElem_cons hlt] at w3
  obtain ⟨ok3,w3⟩:=w3
  obtain ⟨go,yl⟩:=(wk i H3 G3 k3 I3.ab ok3).1 ds[i] (by simp [hlt])
  refine wpAny_passesOwn hp (thn (T.item X rfl rfl rfl hc i pins s3 σ3 H3 X.xe I3.inv (stat fr3) st3 go) ?_)
  rintro r s4 ⟨u,hr,h4⟩
  subst hr
  refine wpAny_passesOwn hp (thn h4 ?_)
  rintro _ s5 ⟨x,H5,I5,r5,y5,st5,fr5⟩
  obtain ⟨rd5,m5⟩:=yl x H5 y5
  have I5':=I5.pinned (stat fr5) (T.obj _ _ st5)
  have J5:I2 X (pins++pinsAt fp s5.heap) σ3 H5 τ3 G3 s5:=⟨I5',I3.st.mono (m5.kp I3.ab),m5.ab⟩
  refine wpAny_passesOwn hp (thn (hg E _ s5 σ3 H5 τ3 G3 x ds[i] u _ hE J5 r5 rd5 w3) ?_)
  rintro _ s6 ⟨σ6,H6,τ6,G6,I6,m6,q6⟩
  refine wpAny_passesOwn hp (thn (hb E _ s6 σ6 H6 τ6 G6 _ hE I6 q6) fun f s7 q7=>?_)
  have again:∀ {σ7:L2.St} {H7:Hp} {τ7:St2} {G7:Gp},I2 X (pins++pinsAt fp s5.heap) σ7 H7 τ7 G7 s7->Mv X.K H6 G6 H7 G7->forGo g t ok (ds.drop (i+1)) E D τ7 G7 ->
    ∃ m,m < ds.length - i/\∃ i σ' H' τ' G',I2 X pins σ' H' τ' G' s7/\Mv X.K H G H' G'/\Kp H2 H'/\tn i s7.heap/\(∀ b∈fp,H' b=none)/\m=ds.length - i/\i<=ds.length/\forGo g t ok (ds.drop i) E D τ' G':=fun {σ7 H7 τ7 G7} I7 m7 n7=>by
   have mm:=m5.trans (m6.trans m7)
   refine ⟨ds.length - (i+1),by lia,i+1,σ7,H7,τ7,G7,⟨I7.inv.unpinned,I7.st,I7.ab⟩,m3.trans mm,k3.trans (mm.kp I3.ab),T.keep _ _ _ st5 fun b hb o e=>(I7.inv.pin (b,o) (List.mem_append_right _ (List.mem_append_right _ (mem_pinsAt hb e)))).1,fun b hb=>?_,rfl,hlt,n7⟩
   obtain ⟨o,e,d⟩:=T.obj _ _ st5 b hb
   exact (I7.inv.pin (b,o) (List.mem_append_right _ (List.mem_append_right _ (mem_pinsAt hb e)))).2.1
  cases f with
  | next=>obtain ⟨σ7,H7,τ7,G7,I7,m7,n7⟩:=q7; exact again I7 m7 n7
  | cont=>obtain ⟨σ7,H7,τ7,G7,I7,m7,n7⟩:=q7; exact again I7 m7 n7
  | brk=>obtain ⟨σ7,H7,τ7,G7,I7,m7,q7⟩:=q7; exact ⟨σ7,H7,τ7,G7,⟨I7.inv.unpinned,I7.st,I7.ab⟩,m3.trans (m5.trans (m6.trans m7)),q7⟩
  | ret v=>obtain ⟨x7,σ7,H7,d7,G7,I7,m7,r7,rd7,q7⟩:=q7; exact ⟨x7,σ7,H7,d7,G7,I7.unpinned,m3.trans (m5.trans (m6.trans m7)),r7,rd7,q7⟩
 ·have hn:ds.length<=i:=by lia
  rw [List.drop_eq_nil_of_le hn] at w3
  obtain ⟨ok3,qn⟩:=w3
  have stop:=(wk i H3 G3 k3 I3.ab ok3).2 hn
  refine wpAny_passesOwn hp (thn (T.done X rfl rfl rfl hc i pins s3 σ3 H3 X.xe I3.inv (stat fr3) st3 stop) ?_)
  rintro r s4 ⟨hr,I4⟩
  subst hr
  exact wpAny_execs_nil ⟨σ3,H3,τ3,G3,⟨I4,I3.st,I3.ab⟩,m3,qn⟩
theorem ps2_while {c:Expr} {body:List Stmt} {tc:TT2} {t:TS2} (hp:PassesOwn (model X.prog X.w) X.A X.env X.xe) (hc:PT2 X c tc) (hb:PSs2 X body t):PS2 X (.While c body [] pos) (dWhile tc t):=by
 intro E pins s σ H τ G D hE I h
 obtain ⟨n0,w0⟩:=h
 refine wpAny_While (codeAny_whileLoop (fun n s'=>∃ σ' H' τ' G',I2 X pins σ' H' τ' G' s'/\Mv X.K H G H' G'/\whGo tc t n E D τ' G') ?_ n0 ⟨σ,H,τ,G,I,.refl I.ab,w0⟩)
 rintro n s1 ⟨σ1,H1,τ1,G1,I1,m1,w1⟩
 cases n with
 | zero=>exact w1.elim
 | succ n =>
  refine wpAny_passesOwn hp (thnT hc hE I1 w1 fun b H2 G2 s2 I2' m2 q2=>?_)
  cases b with
  | true =>
   rw [if_pos rfl] at q2 ⊢
   refine wpAny_passesOwn hp (thn (hb E pins s2 σ1 H2 τ1 G2 _ hE I2' q2) fun f s3 q3=>?_)
   cases f with
   | next=>obtain ⟨σ3,H3,τ3,G3,I3,m3,n3⟩:=q3; exact ⟨n,Nat.lt_succ_self _,σ3,H3,τ3,G3,I3,m1.trans (m2.trans m3),n3⟩
   | cont=>obtain ⟨σ3,H3,τ3,G3,I3,m3,n3⟩:=q3; exact ⟨n,Nat.lt_succ_self _,σ3,H3,τ3,G3,I3,m1.trans (m2.trans m3),n3⟩
   | brk=>exact q3.trans (m1.trans m2)
   | ret v=>exact q3.trans (m1.trans m2)
  | false =>
   rw [if_neg Bool.false_ne_true] at q2 ⊢
   exact wpAny_execs_nil ⟨σ1,H2,τ1,G2,I2',m1.trans m2,q2⟩
end
end K2
end
section
namespace K2
open PySem PySem.Spec PyProof.Rows L2
theorem sIx_eq (n d:Nat) (o:Option Int):HT.sIx n d o=sIx n d o:=by cases o <;> rfl
theorem RepDs.cut {K:PySem.W.Frag} {H:Hp} {vs:List V} {ds:List D} (r:RepDs K H vs ds) (lo hi:Option Int):RepDs K H (cutV vs lo hi) (K2.cut ds lo hi):=by
 unfold cutV K2.cut
 rw [sIx_eq,sIx_eq,r.length]
 exact (r.drop _).take _
theorem RepDs.atI {K:PySem.W.Frag} {H:Hp} {vs:List V} {ds:List D} {i:Int} {d:D} (r:RepDs K H vs ds) (h:K2.atI ds i=some d):∃ v,L2.atI vs i=some v/\RepD K H v d:=by
 unfold K2.atI at h
 cases e:K2.ixN ds.length i with
 | none=>rw [e] at h; cases h
 | some j =>
  rw [e] at h
  obtain ⟨v,h1,h2⟩:=r.get (show ds[j]?=some d from h)
  refine ⟨v,?_,h2⟩
  show (L2.ixN vs.length i).bind _=_
  have e':L2.ixN vs.length i=some j:=by rw [r.length]; exact e
  rw [e']
  exact h1
section
variable {X:Cx} {a b c e:Expr} {ta tb tc te:TE2} {pos p2:Pos}
theorem addL_lists {pins:List (Addr×Obj)} {s:Shared} {σ:L2.St} {H:Hp} {G:Gp} {x:V} {d:D} {v:Value} {zs:List D} (I:Inv X pins σ H s) (ab:AbH X.K H G) (rx:RelV x v) (rd:RepD X.K H x d) (hi:lstOf d G=some zs) :
  ∃ l vs its,v=.ref l/\Vals vs its/\RepDs X.K H vs zs/\s.heap.IsList l its.toArray/\vs.length<=sizeLine:=by
 cases rd with
 | rol hq rs =>
  cases hi
  cases rx
  obtain ⟨its,rv,pl,hz⟩:=I.list hq.sq
  exact ⟨_,_,its,rfl,rv,rs,pl.isList,hz⟩
 | ref l =>
  unfold lstOf at hi
  dsimp only at hi
  cases hg:G l with
  | none=>rw [hg] at hi; cases hi
  | some gg =>
   rw [hg] at hi
   cases gg with
   | lst ds =>
    cases hi
    cases rx
    obtain ⟨vs,hv,rs⟩:=ab.lst hg
    obtain ⟨its,rv,pl,hz⟩:=I.list (.of hv)
    exact ⟨_,_,its,rfl,rv,rs,pl.isList,hz⟩
   | dic _=>cases hi
 | _=>cases hi
theorem news_kept {pins:List (Addr×Obj)} {s:Shared} {σ:L2.St} {H:Hp} (I:Inv X pins σ H s) {m:Str->Option Value} (F0:Fr X.base X.env.locals s.heap m) {h':Heap} (F:Fr X.base X.env.locals h' m) (N:News X.base X.env.locals h' (allNews X.base s.heap X.env.locals)) :
  (∀ b o,b≠X.env.locals->s.heap.get? b=some o->h'.get? b=some o)/\∀ m',s.heap.Ns X.env.locals m'->h'.Ns X.env.locals m':=by
 refine ⟨fun b o hb e=>?_,fun m' hm=>?_⟩
 ·cases q:X.base.get? b with
  | some u =>
   have:=I.bk b u q
   rw [e] at this; cases this
   exact F.keep b _ q
  | none=>exact (N (b,o) (mem_allNews hb q e)).1
 ·have e1:=hm.eq_nsMap
  have e2:=F0.ns.eq_nsMap
  rw [e1,← e2]; exact F.ns
theorem obj_there {P:Program} {w:World} {H:Hp} {h:Heap} {a:Addr}:∀ {o:HO},ObjOk P w H h a o->∃ ob,h.get? a=some ob:=by
 intro o x
 cases o with
 | lst _=>obtain ⟨_,_,_,_,e⟩:=x; exact ⟨_,e⟩
 | tup _=>obtain ⟨_,_,_,ob,e,_⟩:=x; exact ⟨ob,e⟩
 | dK _=>obtain ⟨_,_,_,_,ob,_,_,e,_⟩:=x; exact ⟨ob,e⟩
 | dT _=>obtain ⟨_,_,_,_,ob,_,_,e,_⟩:=x; exact ⟨ob,e⟩
 | set _ _=>obtain ⟨ob,_,_,_,e,_⟩:=x; exact ⟨ob,e⟩
 | ins _ _ _=>obtain ⟨_,_,_,e,_⟩:=x; exact ⟨_,e⟩
 | own _=>exact x
 | xd _=>obtain ⟨_,⟨ob,_,_,e,_⟩,_⟩:=x; exact ⟨ob,e⟩
 | met _ _=>exact ⟨_,x⟩
 | rng _ _=>obtain ⟨_,_,_,e⟩:=x; exact ⟨_,e⟩
 | frz _ _=>exact ⟨_,x.1⟩
 | tbl _=>exact ⟨_,x⟩
 | ext _=>exact x.2.1
theorem free_of {P:Program} {w:World} {H:Hp} {h:Heap} {a:Addr} (ok:HOk P w H h) (e:h.get? a=none):H a=none:=by
 cases q:H a with
 | none=>rfl
 | some o =>
  obtain ⟨ob,z⟩:=obj_there (ok a o q)
  rw [e] at z; cases z
theorem Inv.laidN {pins:List (Addr×Obj)} {s:Shared} {σ:L2.St} {H:Hp} (I:Inv X pins σ H s) {h':Heap} {t':Nat} {a:Addr} {o:HO} (k:∀ b o,b≠X.env.locals->s.heap.get? b=some o->h'.get? b=some o) (ns:∀ m',s.heap.Ns X.env.locals m'->h'.Ns X.env.locals m')
  (hp:s.heap.get? a=none) (new:ObjOk X.prog X.w (upd H a o) h' a o):Inv X pins σ (upd H a o) { s with heap:=h',toks:=t' }:=by
 have hn:H a=none:=free_of I.hok hp
 have ne:∀ b u,H b=some u->b≠a:=fun b u e=>ne_of_none e hn
 have nL:∀ b u,H b=some u->b≠X.env.locals:=fun b u e=>ne_of_none e I.free
 have ht:∀ b u,s.heap.get? b=some u->b≠a:=fun b u e z=>by subst z; rw [hp] at e; cases e
 have thL:∃ o',h'.get? X.env.locals=some o':=by
  obtain ⟨m,hm,_⟩:=I.loc
  obtain ⟨o',_,_,ho,_⟩:=ns m hm
  exact ⟨o',ho⟩
 refine I.step (g':=s.gens) (d':=s.drawn) (ch:=[]) (fun b hb=>absurd hb (by simp)) (fun b o hL _ _ e _=>k b o hL e) (fun b o hL _ _ e _=>⟨o.slots,k b o hL e⟩) (fun b o _ e n=>by rw [upd_ne (ht b o e)]; exact n)
  (fun b o _ e=>?_) (fun b xs e=>by rw [upd_ne (ne _ _ e)]; exact e) (fun b o u e=>by rw [upd_ne (ne _ _ e)]; exact e) (fun b ps e=>⟨#[],by rw [upd_ne (ne _ _ e),e]; simp⟩) ns (fun b u e=>?_) I.bare
 ·by_cases hb:b=X.env.locals
  ·rw [hb]; exact thL
  ·exact ⟨o,k b o hb e⟩
 ·by_cases hb:b=a
  ·subst hb; rw [upd_same] at e; cases e; exact new
  ·rw [upd_ne hb] at e
   refine (I.hok b u e).stay (fun c v hc r=>k c v ?_ r) (fun c z=>by rw [upd_ne (ne _ _ z)]; exact z) (fun c xs z=>by rw [upd_ne (ne _ _ z)]; exact z)
   rcases hc with rfl | hc
   ·exact nL _ _ e
   ·exact nL _ _ hc
theorem op2_add:OpR2 X (binaryOp .Add) rAdd:=by
 intro pins s σ H G x y dx dy v u Q I ab rx ry dX dY q
 have lists:addL dx dy G Q->wpAny (model X.prog X.w) X.A (binaryOp .Add v u) (EP2 X pins σ H G Q) X.xe s:=by
  intro q
  unfold addL at q
  split at q
  ·rename_i xs ys e1 e2
   obtain ⟨hz,q⟩:=q
   obtain ⟨l,vs,its,rfl,rv,rs,hl,_⟩:=addL_lists I ab rx dX e1
   obtain ⟨b,ws,its2,rfl,rv2,rs2,hb,_⟩:=addL_lists I ab ry dY e2
   obtain ⟨m,F0⟩:=I.fr
   have hsz:its.length+its2.length<=sizeLine:=by rw [← rv.length,← rv2.length,rs.length,rs2.length,sizeLine_eq]; exact hz
   refine PyProof.Rows.add_lists F0 news_all hl hb (fun h' F N=>?_) hsz
   obtain ⟨kk,ns⟩:=news_kept I F0 F fun p hp=>N p (List.mem_cons_of_mem _ hp)
   have hp:H s.heap.objs.size=none:=I.hok.fresh (Nat.le_refl _)
   refine ⟨.ref s.heap.objs.size,upd H s.heap.objs.size (.lst (vs++ws)),.ref _,_,Inv.laidN (t':=s.toks) I kk ns (Heap.get?_none_of_le (Nat.le_refl _)) ?_,.newL ab hp (rs.append rs2),rfl,.ref _,q _ (ab.free hp)⟩
   exact ⟨by rw [List.length_append,rv.length,rv2.length]; exact hsz,its++its2,0,rv.append rv2,(N _ List.mem_cons_self).1⟩
  ·exact q.elim
 cases dX with
 | int i =>
  cases dY with
  | int j=>exact thn (op_add pins s σ H _ _ v u (Rch X.K H G Q) I rx ry ⟨i,j,rfl,rfl,_,_,.refl ab,.int _,q⟩) fun _ _ z=>.of z
  | _=>exact lists q
 | str i =>
  cases dY with
  | str j =>
   obtain ⟨hz,q⟩:=q
   exact thn (op_add_str pins s σ H _ _ v u (Rch X.K H G Q) I rx ry ⟨i,j,rfl,rfl,by rw [sizeLine_eq]; exact hz,_,_,.refl ab,.str _,q⟩) fun _ _ z=>.of z
  | _=>exact lists q
 | tup h1 r1 =>
  cases dY with
  | tup h2 r2 =>
   obtain ⟨hn,hz,q⟩:=q
   refine thn (op_catT pins s σ H _ _ v u (Rch X.K H G Q) I rx ry ⟨_,_,_,_,rfl,rfl,.of h1,.of h2,?_,?_,fun e=>?_,fun e p hp=>?_⟩) fun _ _ z=>.of z
   ·rintro rfl; cases r1; exact hn rfl
   ·rw [r1.length,r2.length,sizeLine_eq]; exact hz
   ·subst e
    cases r2
    rw [List.append_nil] at q
    exact ⟨_,_,.refl ab,.tup h1 r1,q⟩
   ·exact ⟨_,_,.hid ab hp,.tup upd_same ((r1.append r2).mono (.new hp)),q⟩
  | _=>exact lists q
 | ref l=>exact lists (by rw [rAdd_ref] at q; exact q)
 | rol _ _=>exact lists (by rw [rAdd_rol] at q; exact q)
 | _=>exact lists (by cases dY <;> exact q)
theorem op2_sub:OpR2 X (binaryOp .Sub) rSub:=by
 intro pins s σ H G x y dx dy v u Q I ab rx ry dX dY q
 cases dX with
 | int i =>
  cases dY with
  | int j=>exact thn (op_sub pins s σ H _ _ v u (Rch X.K H G Q) I rx ry ⟨i,j,rfl,rfl,_,_,.refl ab,.int _,q⟩) fun _ _ z=>.of z
  | _=>exact False.elim q
 | _=>exact False.elim q
theorem op2_mul:OpR2 X (binaryOp .Mult) rMul:=by
 intro pins s σ H G x y dx dy v u Q I ab rx ry dX dY q
 cases dX with
 | int i =>
  cases dY with
  | int j=>exact thn (op_mul pins s σ H _ _ v u (Rch X.K H G Q) I rx ry ⟨i,j,rfl,rfl,q.1,_,_,.refl ab,.int _,q.2⟩) fun _ _ z=>.of z
  | _=>exact False.elim q
 | _=>exact False.elim q
theorem op2_mod:OpR2 X (binaryOp .Mod) rMod:=by
 intro pins s σ H G x y dx dy v u Q I ab rx ry dX dY q
 cases dX with
 | int i =>
  cases dY with
  | int j=>exact thn (op_mod pins s σ H _ _ v u (Rch X.K H G Q) I rx ry ⟨i,j,rfl,rfl,q.1,_,_,.refl ab,.int _,q.2⟩) fun _ _ z=>.of z
  | _=>exact False.elim q
 | _=>exact False.elim q
theorem op2_fdiv:OpR2 X (binaryOp .FloorDiv) rFdiv:=by
 intro pins s σ H G x y dx dy v u Q I ab rx ry dX dY q
 cases dX with
 | int i =>
  cases dY with
  | int j=>exact thn (op_fdiv pins s σ H _ _ v u (Rch X.K H G Q) I rx ry ⟨i,j,rfl,rfl,⟨q.1,q.2.1⟩,_,_,.refl ab,.int _,q.2.2⟩) fun _ _ z=>.of z
  | _=>exact False.elim q
 | _=>exact False.elim q
theorem op2_lt (hu:X.A.units < cLine):OpR2 X (compareOp .Lt) rLt:=by
 intro pins s σ H G x y dx dy v u Q I ab rx ry dX dY q
 cases dX with
 | int i =>
  cases dY with
  | int j=>exact thn (op_lt pins s σ H _ _ v u (Rch X.K H G Q) I rx ry ⟨i,j,rfl,rfl,_,_,.refl ab,.bl _,q⟩) fun _ _ z=>.of z
  | _=>exact False.elim q
 | tup h1 r1 =>
  cases dY with
  | tup h2 r2 =>
   obtain ⟨xs,ys,e1,e2,q⟩:=q
   subst e1 e2
   have z1:=r1.ints
   have z2:=r2.ints
   subst z1 z2
   have el:∀ xs ys:List Int,HT.lexLt xs ys=K2.lexLt xs ys:=by
    intro xs
    induction xs with
    | nil=>intro ys; cases ys <;> rfl
    | cons x xs ih=>intro ys; cases ys with
     | nil=>rfl
     | cons y ys=>unfold HT.lexLt K2.lexLt; rw [ih]
   exact thn (op_ltT hu pins s σ H _ _ v u (Rch X.K H G Q) I rx ry ⟨_,_,xs,ys,rfl,rfl,.of h1,.of h2,_,_,.refl ab,.bl _,by rw [el]; exact q⟩) fun _ _ z=>.of z
  | _=>exact False.elim q
 | _=>exact False.elim q
theorem op2_gt:OpR2 X (compareOp .Gt) rGt:=by
 intro pins s σ H G x y dx dy v u Q I ab rx ry dX dY q
 cases dX with
 | int i =>
  cases dY with
  | int j=>exact thn (op_gt pins s σ H _ _ v u (Rch X.K H G Q) I rx ry ⟨i,j,rfl,rfl,_,_,.refl ab,.bl _,q⟩) fun _ _ z=>.of z
  | _=>exact False.elim q
 | _=>exact False.elim q
mutual
noncomputable def pd:D->PyData
 | .non=>.none
 | .bl b=>.bool b
 | .int i=>.int i
 | .str x=>.str x
 | .tup ds=>.tuple (pds ds)
 | .rol ds=>.list (pds ds)
 | .rod _=>.none
 | .exc _=>.none
 | .ref _=>.none
noncomputable def pds:List D->List PyData
 | []=>[]
 | d :: r=>pd d :: pds r
end
mutual
theorem eqv_pd:∀ (s t:D),nr s=true->nr t=true->PyData.eqv (pd s) (pd t)=eqD s t
 | .non,t,_,ht=>by cases t <;> first | rfl | (exact Bool.noConfusion (show false=true from ht))
 | .bl a,t,_,ht=>by cases t <;> first | rfl | (exact Bool.noConfusion (show false=true from ht))
 | .int a,t,_,ht=>by cases t <;> first | rfl | (exact Bool.noConfusion (show false=true from ht))
 | .str a,t,_,ht=>by cases t <;> first | rfl | (exact Bool.noConfusion (show false=true from ht))
 | .tup a,t,hs,ht=>by
  cases t with
  | tup b=>exact eqv_pds a b hs ht
  | ref _=>exact Bool.noConfusion (show false=true from ht)
  | exc _=>exact Bool.noConfusion (show false=true from ht)
  | rod _=>exact Bool.noConfusion (show false=true from ht)
  | _=>rfl
 | .rol a,t,hs,ht=>by
  cases t with
  | rol b=>exact eqv_pds a b hs ht
  | ref _=>exact Bool.noConfusion (show false=true from ht)
  | exc _=>exact Bool.noConfusion (show false=true from ht)
  | rod _=>exact Bool.noConfusion (show false=true from ht)
  | _=>rfl
 | .ref _,_,hs,_=>Bool.noConfusion (show false=true from hs)
 | .exc _,_,hs,_=>Bool.noConfusion (show false=true from hs)
 | .rod _,_,hs,_=>Bool.noConfusion (show false=true from hs)
theorem eqv_pds:∀ (s t:List D),nrs s=true->nrs t=true->PyData.eqvAll (pds s) (pds t)=eqDs s t
 | [],[],_,_=>rfl
 | [],_ :: _,_,_=>rfl
 | _ :: _,[],_,_=>rfl
 | a :: r,b :: t,hs,ht=>by
  have hs':nr a=true/\nrs r=true:=(Bool.and_eq_true_iff).mp hs
  have ht':nr b=true/\nrs t=true:=(Bool.and_eq_true_iff).mp ht
  show (PyData.eqv (pd a) (pd b)&&PyData.eqvAll (pds r) (pds t))=(eqD a b&&eqDs r t)
  rw [eqv_pd a b hs'.1 ht'.1,eqv_pds r t hs'.2 ht'.2]
end
mutual
theorem lay_pd:∀ (s:D),nr s=true->(pd s).canLay0=true
 | .non,_=>rfl
 | .bl a,_=>rfl
 | .int a,_=>rfl
 | .str a,h=>h
 | .tup a,h=>lay_pds a h
 | .rol a,h=>lay_pds a h
 | .exc _,_=>rfl
 | .ref _,_=>rfl
 | .rod _,_=>rfl
theorem lay_pds:∀ (s:List D),nrs s=true->PyData.canLayAll0 (pds s)=true
 | [],_=>rfl
 | a :: r,h=>by
  have h':nr a=true/\nrs r=true:=(Bool.and_eq_true_iff).mp h
  show ((pd a).canLay0&&PyData.canLayAll0 (pds r))=true
  rw [lay_pd a h'.1,lay_pds r h'.2]; rfl
end
theorem dep_pd {G:Gp} {n:Nat} {d t:D} (h:Sn G n d t):(pd t).depth<=n:=by
 induction h with
 | non=>exact Nat.zero_le _
 | bl b=>exact Nat.zero_le _
 | int i=>exact Nat.zero_le _
 | str x h=>exact Nat.zero_le _
 | tnil=>exact Nat.succ_le_succ (Nat.zero_le _)
 | tcons _ _ ih1 ih2 =>
  exact Nat.succ_le_succ (Nat.max_le.mpr ⟨ih1,Nat.le_of_succ_le_succ ih2⟩)
 | rnil=>exact Nat.succ_le_succ (Nat.zero_le _)
 | rcons _ _ ih1 ih2 =>
  exact Nat.succ_le_succ (Nat.max_le.mpr ⟨ih1,Nat.le_of_succ_le_succ ih2⟩)
 | ref _ _ ih=>exact ih
theorem rep_reads {pins:List (Addr×Obj)} {σ:L2.St} {H:Hp} {s:Shared} {G:Gp} (I:Inv X pins σ H s) (ab:AbH X.K H G) {n:Nat} {d t:D} (h:Sn G n d t) :
  (∀ v u,RepD X.K H v d->RelV v u->∃ as,Reads s.heap u (pd t) as) /\
  (∀ ds ss,(d=.rol ds/\t=.rol ss)\/(d=.tup ds/\t=.tup ss)->∀ vs us,RepDs X.K H vs ds->Vals vs us->∃ as,ReadsAll s.heap us (pds ss) as):=by
 have tupOf:∀ {ds ss:List D},(∀ vs us,RepDs X.K H vs ds->Vals vs us->∃ as,ReadsAll s.heap us (pds ss) as)->∀ v u,RepD X.K H v (.tup ds)->RelV v u->∃ as,Reads s.heap u (pd (.tup ss)) as:=by
  intro ds ss k v u r ru
  cases r with
  | tup hq rs =>
   cases ru
   obtain ⟨its,rv,⟨o,ho,hc,n,hd⟩,hz⟩:=I.tuple (.of hq)
   obtain ⟨as,ra⟩:=k _ its rs rv
   exact ⟨as,.tuple ho hc hd (by simpa using ra)⟩
 have rolOf:∀ {ds ss:List D},(∀ vs us,RepDs X.K H vs ds->Vals vs us->∃ as,ReadsAll s.heap us (pds ss) as)->∀ v u,RepD X.K H v (.rol ds)->RelV v u->∃ as,Reads s.heap u (pd (.rol ss)) as:=by
  intro ds ss k v u r ru
  cases r with
  | rol hq rs =>
   cases ru
   obtain ⟨its,rv,pl,hz⟩:=I.list hq.sq
   obtain ⟨o,ho,hc,n,hd⟩:=pl.isList
   obtain ⟨as,ra⟩:=k _ its rs rv
   exact ⟨_,.list ho hc hd (by simpa using ra)⟩
 induction h with
 | non=>exact ⟨fun v u r ru=>by cases r; cases ru; exact ⟨_,.none⟩,fun ds ss e=>by rcases e with ⟨e,_⟩ | ⟨e,_⟩ <;> cases e⟩
 | bl b=>exact ⟨fun v u r ru=>by cases r; cases ru; exact ⟨_,.bool b⟩,fun ds ss e=>by rcases e with ⟨e,_⟩ | ⟨e,_⟩ <;> cases e⟩
 | int i=>exact ⟨fun v u r ru=>by cases r; obtain ⟨t,rfl⟩:=ru; exact ⟨_,.int i t⟩,fun ds ss e=>by rcases e with ⟨e,_⟩ | ⟨e,_⟩ <;> cases e⟩
 | str x hx=>exact ⟨fun v u r ru=>by cases r; obtain ⟨t,rfl⟩:=ru; exact ⟨_,.str x t⟩,fun ds ss e=>by rcases e with ⟨e,_⟩ | ⟨e,_⟩ <;> cases e⟩
 | tnil =>
  have k:∀ vs us,RepDs X.K H vs []->Vals vs us->∃ as,ReadsAll s.heap us (pds []) as:=fun vs us r ru=>by
   have e:=r.zero
   subst e
   cases ru
   exact ⟨_,.nil⟩
  refine ⟨tupOf k,fun ds ss e=>?_⟩
  rcases e with ⟨e,_⟩ | ⟨e,e2⟩
  ·cases e
  ·cases e; cases e2; exact k
 | tcons h1 h2 ih1 ih2 =>
  have k2:=ih2.2 _ _ (.inr ⟨rfl,rfl⟩)
  have k:∀ vs us,RepDs X.K H vs (_ :: _)->Vals vs us->∃ as,ReadsAll s.heap us (pds (_ :: _)) as:=fun vs us r ru=>by
   cases r with
   | cons r1 r2 =>
    cases ru with
    | cons u1 u2 =>
     obtain ⟨as,ra⟩:=ih1.1 _ _ r1 u1
     obtain ⟨bs,rb⟩:=k2 _ _ r2 u2
     exact ⟨_,.cons ra rb⟩
  refine ⟨tupOf k,fun ds ss e=>?_⟩
  rcases e with ⟨e,_⟩ | ⟨e,e2⟩
  ·cases e
  ·cases e; cases e2; exact k
 | rnil =>
  have k:∀ vs us,RepDs X.K H vs []->Vals vs us->∃ as,ReadsAll s.heap us (pds []) as:=fun vs us r ru=>by
   have e:=r.zero
   subst e
   cases ru
   exact ⟨_,.nil⟩
  refine ⟨rolOf k,fun ds ss e=>?_⟩
  rcases e with ⟨e,e2⟩ | ⟨e,_⟩
  ·cases e; cases e2; exact k
  ·cases e
 | rcons h1 h2 ih1 ih2 =>
  have k2:=ih2.2 _ _ (.inl ⟨rfl,rfl⟩)
  have k:∀ vs us,RepDs X.K H vs (_ :: _)->Vals vs us->∃ as,ReadsAll s.heap us (pds (_ :: _)) as:=fun vs us r ru=>by
   cases r with
   | cons r1 r2 =>
    cases ru with
    | cons u1 u2 =>
     obtain ⟨as,ra⟩:=ih1.1 _ _ r1 u1
     obtain ⟨bs,rb⟩:=k2 _ _ r2 u2
     exact ⟨_,.cons ra rb⟩
  refine ⟨rolOf k,fun ds ss e=>?_⟩
  rcases e with ⟨e,e2⟩ | ⟨e,_⟩
  ·cases e; cases e2; exact k
  ·cases e
 | ref hg h1 ih =>
  refine ⟨fun v u r ru=>?_,fun ds ss e=>by rcases e with ⟨e,_⟩ | ⟨e,_⟩ <;> cases e⟩
  cases r
  cases ru
  obtain ⟨vs,hv,rs⟩:=ab.lst hg
  obtain ⟨its,rv,pl,hz⟩:=I.list (.of hv)
  obtain ⟨o,ho,hc,n,hd⟩:=pl.isList
  obtain ⟨as,ra⟩:=ih.2 _ _ (.inl ⟨rfl,rfl⟩) vs its rs rv
  exact ⟨_,.list ho hc hd (by simpa using ra)⟩
theorem op2_eq (hu:X.A.units+64 < cLine):OpR2 X (compareOp .Eq) (rEq false):=by
 intro pins s σ H G x y dx dy v u Q I ab rx ry dX dY q
 obtain ⟨a,b,sa,sb,q⟩:=q
 obtain ⟨as,ra⟩:=(rep_reads I ab sa).1 x v dX rx
 obtain ⟨bs,rb⟩:=(rep_reads I ab sb).1 y u dY ry
 have d1:=dep_pd sa
 refine SeqAt.compareEq_reads ra rb (lay_pd _ sa.nr) (lay_pd _ sb.nr) (by unfold SN at d1; lia) ?_
 rw [eqv_pd _ _ sa.nr sb.nr]
 exact ⟨.bl _,H,.bl _,G,I,.refl ab,rfl,.bl _,q⟩
theorem op2_ne (hu:X.A.units+64 < cLine):OpR2 X (compareOp .NotEq) (rEq true):=by
 intro pins s σ H G x y dx dy v u Q I ab rx ry dX dY q
 obtain ⟨a,b,sa,sb,q⟩:=q
 obtain ⟨as,ra⟩:=(rep_reads I ab sa).1 x v dX rx
 obtain ⟨bs,rb⟩:=(rep_reads I ab sb).1 y u dY ry
 have d1:=dep_pd sa
 refine SeqAt.compareNe_reads ra rb (lay_pd _ sa.nr) (lay_pd _ sb.nr) (by unfold SN at d1; lia) ?_
 rw [eqv_pd _ _ sa.nr sb.nr]
 exact ⟨.bl _,H,.bl _,G,I,.refl ab,rfl,.bl _,q⟩
end
end K2
end
section
namespace K2
open PySem PySem.Spec PyProof.Rows L2
theorem eqD_key (j k:Key):eqD (keyD j) (keyD k)=decide (j=k):=by
 cases j with
 | inl a=>cases k with
  | inl b=>rw [key_ll]; rfl
  | inr b=>exact (decide_eq_false (fun z=>nomatch z)).symm
 | inr a=>cases k with
  | inl b=>exact (decide_eq_false (fun z=>nomatch z)).symm
  | inr b=>rw [key_rr]; exact (Bool.beq_eq_decide_eq a b)
theorem eqDs_keys:∀ (js ks:List Key),eqDs (js.map keyD) (ks.map keyD)=decide (js=ks)
 | [],[]=>(decide_eq_true rfl).symm
 | [],_ :: _=>(decide_eq_false (fun z=>nomatch z)).symm
 | _ :: _,[]=>(decide_eq_false (fun z=>nomatch z)).symm
 | j :: js,k :: ks=>by
  show (eqD (keyD j) (keyD k)&&eqDs (js.map keyD) (ks.map keyD))=_
  rw [eqD_key,eqDs_keys js ks,dec_cons]
theorem eqD_keyT (js ks:List Key):eqD (.tup (js.map keyD)) (.tup (ks.map keyD))=decide (js=ks):=by
 exact eqDs_keys js ks
section
variable {K:PySem.W.Frag} {H:Hp}
theorem key1_of {d:D} (h:keyOk1 d=true):∃ k:Key,d=keyD k:=by
 cases d with
 | int i=>exact ⟨.inl i,rfl⟩
 | str x=>exact ⟨.inr x,rfl⟩
 | _=>exact absurd h (by simp [keyOk1])
theorem keys_of:∀ {ds:List D},ds.all keyOk1=true->∃ ks:List Key,ds=ks.map keyD
 | [],_=>⟨[],rfl⟩
 | d :: r,h=>by
  rw [List.all_cons,Bool.and_eq_true] at h
  obtain ⟨k,rfl⟩:=key1_of h.1
  obtain ⟨ks,rfl⟩:=keys_of h.2
  exact ⟨k :: ks,rfl⟩
theorem keyT_of {d:D} (h:keyOkT d=true):∃ ks:List Key,d=.tup (ks.map keyD):=by
 cases d with
 | tup ds=>obtain ⟨ks,rfl⟩:=keys_of (ds:=ds) h; exact ⟨ks,rfl⟩
 | _=>exact absurd h (by simp [keyOkT])
theorem rep_key {v:V} {k:Key} (r:RepD K H v (keyD k)):v=kV k:=by
 cases k with
 | inl i=>cases r; rfl
 | inr x=>cases r; rfl
theorem reps_key:∀ {vs:List V} {ks:List Key},RepDs K H vs (ks.map keyD)->vs=ks.map kV
 | _,[],r=>r.zero
 | _,k :: ks,r=>by
  rw [List.map_cons] at r
  cases r with
  | cons r1 r2=>rw [rep_key r1,reps_key r2]; rfl
theorem rep_keyT {v:V} {ks:List Key} (r:RepD K H v (.tup (ks.map keyD))):∃ b,v=.ref b/\H b=some (.tup (ks.map kV)):=by
 cases r with
 | tup h rs=>have e:=reps_key rs; subst e; exact ⟨_,rfl,h⟩
theorem DKs.look {kv:List (Key×V)} {kvs:List (D×D)} (r:DKs K H kv kvs) (k:Key):(∃ v d,valV kv k=some v/\K2.look kvs (keyD k)=some d/\RepD K H v d)\/(valV kv k=none/\K2.look kvs (keyD k)=none):=by
 induction r using DKs.ind with
 | nil=>exact .inr ⟨rfl,rfl⟩
 | @cons j v d r t rd rs ih =>
  by_cases e:j=k
  ·left
   refine ⟨v,d,valV_pos (p:=(j,v)) e,?_,rd⟩
   unfold K2.look
   rw [List.find?_cons_of_pos (by show eqD (keyD j) (keyD k)=true; rw [eqD_key]; exact decide_eq_true e)]; rfl
  ·have e1:valV ((j,v) :: r) k=valV r k:=valV_neg (p:=(j,v)) e
   have e2:K2.look ((keyD j,d) :: t) (keyD k)=K2.look t (keyD k):=by
    unfold K2.look
    rw [List.find?_cons_of_neg (by show ¬ eqD (keyD j) (keyD k)=true; rw [eqD_key]; simpa using e)]
   rw [e1,e2]
   exact ih
theorem DTs.look {kv:List (List Key×V)} {kvs:List (D×D)} (r:DTs K H kv kvs) (k:List Key):(∃ v d,valV kv k=some v/\K2.look kvs (.tup (k.map keyD))=some d/\RepD K H v d)\/(valV kv k=none/\K2.look kvs (.tup (k.map keyD))=none):=by
 induction r using DTs.ind with
 | nil=>exact .inr ⟨rfl,rfl⟩
 | @cons j v d r t rd rs ih =>
  by_cases e:j=k
  ·left
   refine ⟨v,d,valV_pos (p:=(j,v)) e,?_,rd⟩
   unfold K2.look
   rw [List.find?_cons_of_pos (by show eqD (.tup (j.map keyD)) (.tup (k.map keyD))=true; rw [eqD_keyT]; exact decide_eq_true e)]; rfl
  ·have e1:valV ((j,v) :: r) k=valV r k:=valV_neg (p:=(j,v)) e
   have e2:K2.look ((.tup (j.map keyD),d) :: t) (.tup (k.map keyD))=K2.look t (.tup (k.map keyD)):=by
    unfold K2.look
    rw [List.find?_cons_of_neg (by show ¬ eqD (.tup (j.map keyD)) (.tup (k.map keyD))=true; rw [eqD_keyT]; simpa using e)]
   rw [e1,e2]
   exact ih
theorem DKs.any {kv:List (Key×V)} {kvs:List (D×D)} (r:DKs K H kv kvs) (k:Key):(kv.any fun p=>decide (p.1=k))=kvs.any fun p=>eqD p.1 (keyD k):=by
 induction r using DKs.ind with
 | nil=>rfl
 | @cons j v d r t rd rs ih=>simp only [List.any_cons]; rw [ih,eqD_key]
theorem DTs.any {kv:List (List Key×V)} {kvs:List (D×D)} (r:DTs K H kv kvs) (k:List Key):(kv.any fun p=>decide (p.1=k))=kvs.any fun p=>eqD p.1 (.tup (k.map keyD)):=by
 induction r using DTs.ind with
 | nil=>rfl
 | @cons j v d r t rd rs ih=>simp only [List.any_cons]; rw [ih,eqD_keyT]
theorem DKs.put {kv:List (Key×V)} {kvs:List (D×D)} (r:DKs K H kv kvs) (k:Key) {v:V} {d:D} (rd:RepD K H v d):DKs K H (putK kv k v) (K2.put kvs (keyD k) d):=by
 unfold putK K2.put
 rw [r.any k]
 by_cases h:(kvs.any fun p=>eqD p.1 (keyD k))=true
 ·rw [if_pos h,if_pos h]
  clear h
  induction r using DKs.ind with
  | nil=>exact .nil
  | @cons j w e r t re rs ih =>
   simp only [List.map_cons]
   rw [eqD_key]
   by_cases e:j=k
   ·simp only [e,if_true,decide_true]; exact .cons rd ih
   ·simp only [e,if_false,decide_false,Bool.false_eq_true]; exact .cons re ih
 ·rw [if_neg h,if_neg h]
  clear h
  induction r using DKs.ind with
  | nil=>exact .cons rd .nil
  | cons re rs ih=>exact .cons re ih
theorem DTs.put {kv:List (List Key×V)} {kvs:List (D×D)} (r:DTs K H kv kvs) (k:List Key) {v:V} {d:D} (rd:RepD K H v d):DTs K H (putK kv k v) (K2.put kvs (.tup (k.map keyD)) d):=by
 unfold putK K2.put
 rw [r.any k]
 by_cases h:(kvs.any fun p=>eqD p.1 (.tup (k.map keyD)))=true
 ·rw [if_pos h,if_pos h]
  clear h
  induction r using DTs.ind with
  | nil=>exact .nil
  | @cons j w e r t re rs ih =>
   simp only [List.map_cons]
   rw [eqD_keyT]
   by_cases e:j=k
   ·simp only [e,if_true,decide_true]; exact .cons rd ih
   ·simp only [e,if_false,decide_false,Bool.false_eq_true]; exact .cons re ih
 ·rw [if_neg h,if_neg h]
  clear h
  induction r using DTs.ind with
  | nil=>exact .cons rd .nil
  | cons re rs ih=>exact .cons re ih
end
theorem Kp.putD {H:Hp} {p:Addr} {o o':HO} (hp:H p=some o) (h:(∃ k,o=.dK k)\/∃ k,o=.dT k):Kp H (upd H p o') :=
 ⟨fun a ys e=>by rw [upd_ne (by rintro rfl; rw [hp] at e; rcases h with ⟨_,rfl⟩ | ⟨_,rfl⟩ <;> cases e)]; exact e,fun a ob u e=>by rw [upd_ne (by rintro rfl; rw [hp] at e; rcases h with ⟨_,rfl⟩ | ⟨_,rfl⟩ <;> cases e)]; exact e⟩
section
variable {X:Cx} {pins:List (Addr×Obj)} {σ:L2.St} {H:Hp} {s:Shared} {G:Gp} {a:Addr} {kvs:List (D×D)} {k:D} {y:V}
theorem toT (I:Inv X pins σ H s) (e:H a=some (.dK [])):Inv X pins σ (upd H a (.dT [])) s:=by
 obtain ⟨z,hd,vs,rel,dd⟩:=dk_of I.hok e
 have hv:vs=[]:=by cases rel; rfl
 subst hv
 obtain ⟨o,es,ep,ho,hx,hd',hko,hl,nd⟩:=dd
 have he:es=#[]:=by
  cases hq:es.toList with
  | nil=>simpa using hq
  | cons _ _=>rw [hq] at hl; cases hl
 subst he
 exact I.write (h':=s.heap) (t':=s.toks) (x:=a) (e:=a) (by rw [e]; exact True.intro) (.inl rfl) (fun b u _ q=>q) ⟨o,ho⟩ ⟨Nat.zero_le _,hd,[],.nil,o,#[],ep,ho,hx,hd',rfl,List.nodup_nil⟩
theorem toK (I:Inv X pins σ H s) (e:H a=some (.dT [])):Inv X pins σ (upd H a (.dK [])) s:=by
 obtain ⟨z,hd,xs,rel,o,es,ep,ho,hx,hd',hl,nd⟩:=I.hok a _ e
 have hv:xs=[]:=by cases rel; rfl
 subst hv
 have he:es=#[]:=by simpa using hl
 subst he
 exact I.write (h':=s.heap) (t':=s.toks) (x:=a) (e:=a) (by rw [e]; exact True.intro) (.inl rfl) (fun b u _ q=>q) ⟨o,ho⟩ ⟨Nat.zero_le _,hd,[],.nil,o,#[],ep,ho,hx,hd',(fun _ h=>by simp at h),.nil,List.nodup_nil⟩
theorem mv_same {o : HO} (ab : AbH X.K H G) (hg : G a = some (.dic kvs)) (k : Kp H (upd H a o)) (ho : AbO X.K (upd H a o) a (.dic kvs)) : Mv X.K H G (upd H a o) G := by
  have m := Mv.put ab hg k ho
  have e : updG G a (.dic kvs) = G := by funext b; unfold updG; split
                                         · rename_i z; rw [z, hg]
                                         · rfl
  rw [e] at m
  exact m
theorem dict_at (I:Inv X pins σ H s) (ab:AbH X.K H G) (hg:G a=some (.dic kvs)) (hk:kindOk kvs k=true) (ry:RepD X.K H y k) :
  ∃ H',Inv X pins σ H' s/\Mv X.K H G H' G/\((∃ (kv:List (Key×V)) (kk:Key),H' a=some (.dK kv)/\DKs X.K H' kv kvs/\k=keyD kk/\y=kV kk)\/∃ (kv:List (List Key×V)) (kk:List Key) (b:Addr),H' a=some (.dT kv)/\DTs X.K H' kv kvs/\k=.tup (kk.map keyD)/\y=.ref b/\H' b=some (.tup (kk.map kV))):=by
 unfold kindOk at hk
 rw [Bool.or_eq_true,Bool.and_eq_true,Bool.and_eq_true] at hk
 rcases hk with ⟨h1,h2⟩ | ⟨h1,h2⟩
 ·obtain ⟨kk,rfl⟩:=key1_of h1
  have ey:=rep_key ry
  subst ey
  rcases ab a _ hg with ⟨kv,hv,rs⟩ | ⟨kv,hv,rs⟩
  ·exact ⟨H,I,.refl ab,.inl ⟨kv,kk,hv,rs,rfl,rfl⟩⟩
  ·cases rs with
   | nil =>
    refine ⟨_,toK I hv,mv_same ab hg (.putD hv (.inr ⟨_,rfl⟩)) (.inl ⟨[],upd_same,.nil⟩),.inl ⟨[],kk,upd_same,.nil,rfl,rfl⟩⟩
   | cons _ _=>simp [keyOk1] at h2
 ·obtain ⟨kk,rfl⟩:=keyT_of h1
  obtain ⟨b,rfl,hb⟩:=rep_keyT ry
  rcases ab a _ hg with ⟨kv,hv,rs⟩ | ⟨kv,hv,rs⟩
  ·cases rs with
   | nil =>
    have kp:Kp H (upd H a (.dT [])):=.putD hv (.inl ⟨_,rfl⟩)
    exact ⟨_,toT I hv,mv_same ab hg kp (.inr ⟨[],upd_same,.nil⟩),.inr ⟨[],kk,b,upd_same,.nil,rfl,rfl,kp.tup _ _ hb⟩⟩
   | @cons j _ _ _ _ _ _=>cases j <;> simp [keyD,keyOkT] at h2
  ·exact ⟨H,I,.refl ab,.inr ⟨kv,kk,b,hv,rs,rfl,rfl,hb⟩⟩
theorem dict_get (I:Inv X pins σ H s) (ab:AbH X.K H G) (hg:G a=some (.dic kvs)) (hk:kindOk kvs k=true) (ry:RepD X.K H y k) :
  ∃ H' o,Inv X pins σ H' s/\Mv X.K H G H' G/\DGet H' a y o/\o.isSome=(look kvs k).isSome/\∀ d,look kvs k=some d->∃ v,o=some v/\RepD X.K H' v d:=by
 obtain ⟨H',I',m,h⟩:=dict_at I ab hg hk ry
 rcases h with ⟨kv,kk,hv,rs,rfl,rfl⟩ | ⟨kv,kk,b,hv,rs,rfl,rfl,hb⟩
 ·refine ⟨H',valV kv kk,I',m,.k hv,?_,fun d hd=>?_⟩
  ·rcases rs.look kk with ⟨v,d,e1,e2,_⟩ | ⟨e1,e2⟩ <;> rw [e1,e2] <;> rfl
  ·rcases rs.look kk with ⟨v,d',e1,e2,r⟩ | ⟨e1,e2⟩
   ·rw [e2] at hd; cases hd; exact ⟨v,e1,r⟩
   ·rw [e2] at hd; cases hd
 ·refine ⟨H',valV kv kk,I',m,.t hv hb,?_,fun d hd=>?_⟩
  ·rcases rs.look kk with ⟨v,d,e1,e2,_⟩ | ⟨e1,e2⟩ <;> rw [e1,e2] <;> rfl
  ·rcases rs.look kk with ⟨v,d',e1,e2,r⟩ | ⟨e1,e2⟩
   ·rw [e2] at hd; cases hd; exact ⟨v,e1,r⟩
   ·rw [e2] at hd; cases hd
theorem rod_get {x:V} (I:Inv X pins σ H s) (rd:RepD X.K H x (.rod kvs)) (hk:kindOk kvs k=true) (ry:RepD X.K H y k) :
  ∃ a o,x=.ref a/\(kvs=[]\/DGet H a y o)/\o.isSome=(look kvs k).isSome/\∀ d,look kvs k=some d->∃ v,o=some v/\RepD X.K H v d:=by
 unfold kindOk at hk
 rw [Bool.or_eq_true,Bool.and_eq_true,Bool.and_eq_true] at hk
 cases rd with
 | rodK h rs =>
  rename_i a ob kv
  rcases hk with ⟨h1,h2⟩ | ⟨h1,h2⟩
  ·obtain ⟨kk,rfl⟩:=key1_of h1
   have ey:=rep_key ry
   subst ey
   refine ⟨a,valV kv kk,rfl,.inr (.inl ⟨kv,kk,.inr ⟨_,h⟩,rfl,rfl⟩),?_,fun d hd=>?_⟩
   ·rcases rs.look kk with ⟨v,d,e1,e2,_⟩ | ⟨e1,e2⟩ <;> rw [e1,e2] <;> rfl
   ·rcases rs.look kk with ⟨v,d',e1,e2,r⟩ | ⟨e1,e2⟩
    ·rw [e2] at hd; cases hd; exact ⟨v,e1,r⟩
    ·rw [e2] at hd; cases hd
  ·cases rs with
   | nil=>exact ⟨a,none,rfl,.inl rfl,rfl,fun d hd=>by cases hd⟩
   | cons _ _ =>
    rename_i kx _ _ _ _ _ _
    rw [List.all_cons,Bool.and_eq_true] at h2
    cases kx <;> exact absurd h2.1 (by simp [keyD,keyOkT])
 | rodT h rs =>
  rename_i a ob kv
  rcases hk with ⟨h1,h2⟩ | ⟨h1,h2⟩
  ·cases rs with
   | nil=>exact ⟨a,none,rfl,.inl rfl,rfl,fun d hd=>by cases hd⟩
   | cons _ _ =>
    rw [List.all_cons,Bool.and_eq_true] at h2
    exact absurd h2.1 (by simp [keyOk1])
  ·obtain ⟨kk,rfl⟩:=keyT_of h1
   obtain ⟨b,rfl,hb⟩:=rep_keyT ry
   refine ⟨a,valV kv kk,rfl,.inr (.inr ⟨kv,kk,b,.inr ⟨_,h⟩,rfl,hb,rfl⟩),?_,fun d hd=>?_⟩
   ·rcases rs.look kk with ⟨v,d,e1,e2,_⟩ | ⟨e1,e2⟩ <;> rw [e1,e2] <;> rfl
   ·rcases rs.look kk with ⟨v,d',e1,e2,r⟩ | ⟨e1,e2⟩
    ·rw [e2] at hd; cases hd; exact ⟨v,e1,r⟩
    ·rw [e2] at hd; cases hd
theorem dict_put {v:V} {d:D} (I:Inv X pins σ H s) (ab:AbH X.K H G) (hg:G a=some (.dic kvs)) (hk:kindOk kvs k=true) (hz:kvs.length < SZ) (ry:RepD X.K H y k) (rv:RepD X.K H v d) :
  ∃ H' H'',Inv X pins σ H' s/\DPut H' a y v H''/\Mv X.K H G H'' (updG G a (.dic (put kvs k d))):=by
 obtain ⟨H',I',m,h⟩:=dict_at I ab hg hk ry
 have rv':=rv.mono (m.kp ab)
 have sz:sizeLine=16777216:=sizeLine_eq
 rcases h with ⟨kv,kk,hv,rs,rfl,rfl⟩ | ⟨kv,kk,b,hv,rs,rfl,rfl,hb⟩
 ·have kp:Kp H' (upd H' a (.dK (putK kv kk v))):=.putD hv (.inl ⟨_,rfl⟩)
  exact ⟨H',_,I',.k hv (by rw [rs.length,sz]; exact hz),m.trans (.put m.ab hg kp (.inl ⟨_,upd_same,(rs.put kk rv').mono kp⟩))⟩
 ·have kp:Kp H' (upd H' a (.dT (putK kv kk v))):=.putD hv (.inr ⟨_,rfl⟩)
  exact ⟨H',_,I',.t hv hb (by rw [rs.length,sz]; exact hz),m.trans (.put m.ab hg kp (.inr ⟨_,upd_same,(rs.put kk rv').mono kp⟩))⟩
end
end K2
end
section
namespace K2
open PySem PySem.Spec PyProof.Rows L2
section
variable {X:Cx} {a b c e:Expr} {es:List Expr} {ta tb tc te:TE2} {t:TA2} {pos p p2 apos cpos:Pos} {x:Str}
theorem pe2_bl {k:Bool} {j}:PE2 X (.Constant (.bool k) j pos) (dC (.bl k)):=pe2_const pe_bl fun _ _=>.bl k
theorem pe2_non {j}:PE2 X (.Constant .none j pos) (dC .non):=pe2_const pe_non fun _ _=>.non
theorem pe2_str {y:Str} {j}:PE2 X (.Constant (.str y) j pos) (dC (.str y)):=pe2_const pe_str fun _ _=>.str y
theorem ps2_never {st:Stmt}:PS2 X st dNever:=fun _ _ _ _ _ _ _ _ _ _ h=>h.elim
theorem un2_neg:UnR2 X (unaryOp .USub) rNeg:=by
 intro pins s σ H G x dx v Q I ab rx dX q
 cases dX with
 | int i=>exact thn (un_neg pins s σ H _ v (Rch X.K H G Q) I rx ⟨i,rfl,_,_,.refl ab,.int _,q⟩) fun _ _ z=>.of z
 | _=>exact False.elim q
theorem pe2_ix (hu:X.A.units+64 < cLine) (ha:PE2 X a ta) (hb:PE2 X b tb) (hs:PlainIx b):PE2 X (.Subscript a b pos) (dBin rIx ta tb):=by
 intro E pins s σ H τ G Q hE I h
 refine Subscript_ (binT2 ha hb hE I h fun v u s2 x y dx dy H2 G2 J m rx ry dX dY q=>?_)
 have fin:∀ {rb:R2},IxR X rb->rb x y H2 (Rch X.K H2 G2 Q)->wpAny (model X.prog X.w) X.A (subscriptTail a b v u) (EP2 X pins σ H G Q) X.xe s2:=fun hr hq =>
  thn (hr a b pins s2 σ H2 x y v u _ J.inv rx ry hq (hs _ _)) fun _ _ z=>(EP2.of z).trans m
 cases dX with
 | tup hq rs =>
  cases dY with
  | int i =>
   rw [rIx_tupM] at q
   split at q
   ·rename_i d hd
    obtain ⟨w,hw,rw'⟩:=rs.atI hd
    exact fin ix_tup ⟨_,_,i,w,rfl,rfl,.of hq,hw,d,G2,.refl J.ab,rw',q⟩
   ·exact q.elim
  | _=>exact False.elim q
 | rol hq rs =>
  cases dY with
  | int i =>
   rw [rIx_rolM] at q
   split at q
   ·rename_i d hd
    obtain ⟨w,hw,rw'⟩:=rs.atI hd
    exact fin ix_list ⟨_,_,i,w,rfl,rfl,hq.sq,hw,d,G2,.refl J.ab,rw',q⟩
   ·exact q.elim
  | _=>exact False.elim q
 | rodK h rs =>
  rw [rIx_rod] at q
  obtain ⟨hk,q⟩:=q
  split at q
  ·rename_i d hd
   obtain ⟨a',o,ea,g,_,hv⟩:=rod_get J.inv (.rodK h rs) hk dY
   obtain ⟨w,rfl,rw'⟩:=hv d hd
   cases ea
   rcases g with rfl | g
   ·cases hd
   ·cases rx
    exact tail_any (dict_typeIs J.inv g) PySem.F.slot_dict_getitem.lookup (d_getItem (by lia) J.inv g ry fun w' s3 I4 rv=>⟨w,H2,d,G2,I4,m,rv,rw',q⟩) (hs _ _)
  ·exact q.elim
 | rodT h rs =>
  rw [rIx_rod] at q
  obtain ⟨hk,q⟩:=q
  split at q
  ·rename_i d hd
   obtain ⟨a',o,ea,g,_,hv⟩:=rod_get J.inv (.rodT h rs) hk dY
   obtain ⟨w,rfl,rw'⟩:=hv d hd
   cases ea
   rcases g with rfl | g
   ·cases hd
   ·cases rx
    exact tail_any (dict_typeIs J.inv g) PySem.F.slot_dict_getitem.lookup (d_getItem (by lia) J.inv g ry fun w' s3 I4 rv=>⟨w,H2,d,G2,I4,m,rv,rw',q⟩) (hs _ _)
  ·exact q.elim
 | ref l =>
  rw [rIx_ref] at q
  split at q
  ·rename_i ds hl
   obtain ⟨vs,hv,rs⟩:=J.ab.lst hl
   cases dY with
   | int i =>
    dsimp only at q
    split at q
    ·rename_i d hd
     obtain ⟨w,hw,rw'⟩:=rs.atI hd
     exact fin ix_list ⟨_,_,i,w,rfl,rfl,.of hv,hw,d,G2,.refl J.ab,rw',q⟩
    ·exact q.elim
   | _=>exact False.elim q
  ·rename_i kvs hl
   obtain ⟨hk,q⟩:=q
   split at q
   ·rename_i d hd
    obtain ⟨H3,o,I3,m3,g,_,hv⟩:=dict_get J.inv J.ab hl hk dY
    obtain ⟨w,rfl,rw'⟩:=hv d hd
    cases rx
    exact tail_any (dict_typeIs I3 g) PySem.F.slot_dict_getitem.lookup (d_getItem (by lia) I3 g ry fun w' s3 I4 rv=>⟨w,H3,d,G2,I4,m.trans m3,rv,rw',q⟩) (hs _ _)
   ·exact q.elim
  ·exact q.elim
 | _=>exact False.elim q
noncomputable def PO2 (X:Cx) (e:Option Expr) (t:TO2):Prop :=
 ∀ (E:XK2) (pins:List (Addr×Obj)) (s:Shared) (σ:L2.St) (H:Hp) (τ:St2) (G:Gp) (Q:Option Int->Gp->Prop),Lk X E->I2 X pins σ H τ G s->t E τ G Q ->
  wpAny (model X.prog X.w) X.A (evalPart e X.env) (fun u s'=>∃ o H' G',Inv X pins σ H' s'/\Mv X.K H G H' G'/\IsPart u o/\Q o G') X.xe s
theorem po2_none:PO2 X none dNoPart:=by
 intro E pins s σ H τ G Q hE I h
 rw [evalPart_none]
 exact wpAny_pure ⟨none,H,G,I.inv,.refl I.ab,.none,h⟩
theorem po2_some (h:PE2 X e te):PO2 X (some e) (dPart te):=by
 intro E pins s σ H τ G Q hE I hw
 rw [evalPart_some]
 refine thnE h hE I hw fun x H1 d G1 u s1 I1 m1 r1 rd1 q1=>?_
 cases rd1 with
 | int i =>
  obtain ⟨t,rfl⟩:=r1
  exact ⟨some i,H1,G1,I1.inv,m1,.int i t,q1⟩
 | _=>exact False.elim q1
theorem pe2_slice {lo hi:Option Expr} {tl th:TO2} (he:PE2 X a ta) (hl:PO2 X lo tl) (hu:PO2 X hi th):PE2 X (.Subscript a (.Slice lo hi none p2) pos) (dSl ta tl th):=by
 intro E pins s σ H τ G Q hE I h
 refine Subscript_ (thnE he hE I h fun x H1 d G1 v s1 I1 m1 r1 rd1 q1=>?_)
 refine wpAny_Slice (thn (hl E pins s1 σ H1 τ G1 _ hE I1 q1) ?_)
 rintro vl s2 ⟨l,H2,G2,I2',m2,pl,q2⟩
 refine thn (hu E pins s2 σ H2 τ G2 _ hE (I1.mv I2' m2) q2) ?_
 rintro vu s3 ⟨r,H3,G3,I3,m3,pu,q3⟩
 rw [evalPart_none]
 refine wpAny_pure ?_
 have m13:=m2.trans m3
 have mm:=m1.trans m13
 have I4:Inv X pins σ H3 { s3 with heap:=s3.heap.push { cls:=.type "slice",data:=.fields #[vl,vu,.none] } }:=I3.kept (t':=s3.toks) fun b ob q=>Heap.get?_push_of_some _ q
 have rd3:=rd1.mono (m13.kp I1.ab)
 have ab3:=m3.ab
 have key:∀ {rb:V->Option Int->Option Int->Hp->VK->Prop},SlR X rb->rb x l r H3 (Rch X.K H3 G3 Q)->wpAny (model X.prog X.w) X.A (subscriptTail a (.Slice lo hi none p2) v (.ref s3.heap.objs.size)) (EP2 X pins σ H G Q) X.xe { s3 with heap:=s3.heap.push { cls:=.type "slice",data:=.fields #[vl,vu,.none] } }:=fun hr hq=>by
  obtain ⟨T,id,hT,ht,hg⟩:=hr pins { s3 with heap:=s3.heap.push { cls:=.type "slice",data:=.fields #[vl,vu,.none] } } σ H3 x v vl vu l r s3.heap.objs.size _ I4 r1 (Heap.IsSliceOf.new ..) pl pu hq
  exact thn (tail_any (ops:=[.ref s3.heap.objs.size,v]) ht hT hg (by with_unfolding_all rfl)) fun _ _ z=>(EP2.of z).trans mm
 cases rd3 with
 | tup hq rs =>
  obtain ⟨hw,q⟩:=q3
  refine key sl_tup ⟨_,_,rfl,.of hq,?_,fun p hp=>⟨_,G3,.hid ab3 hp,.tup upd_same ((rs.cut l r).mono (.new hp)),q⟩⟩
  rw [sIx_eq,sIx_eq,rs.length]
  exact hw
 | rol hq rs=>exact key sl_list ⟨_,_,rfl,hq.sq,fun p hp=>⟨_,_,.newL ab3 hp (rs.cut l r),.ref _,q3 p (ab3.free hp)⟩⟩
 | ref g =>
  rw [rSl_ref] at q3
  split at q3
  ·rename_i ds hg
   obtain ⟨vs,hv,rs⟩:=ab3.lst hg
   exact key sl_list ⟨_,_,rfl,.of hv,fun p hp=>⟨_,_,.newL ab3 hp (rs.cut l r),.ref _,q3 p (ab3.free hp)⟩⟩
  ·exact q3.elim
 | _=>exact False.elim q3
theorem pds_any (ss:List D) (s:D) (h1:nrs ss=true) (h2:nr s=true):((pds ss).any fun y=>PyData.eqv y (pd s))=ss.any (eqD · s):=by
 induction ss with
 | nil=>rfl
 | cons d r ih =>
  have h':nr d=true/\nrs r=true:=(Bool.and_eq_true_iff).mp h1
  show (PyData.eqv (pd d) (pd s)||(pds r).any _)=_
  rw [ih h'.2,eqv_pd d s h'.1 h2]; rfl
theorem dep_pds {G:Gp} {n:Nat} {ds ss:List D} (h:Sn G (n+1) (.rol ds) (.rol ss)):PyData.depthAll (pds ss)<=n:=by
 exact Nat.le_of_succ_le_succ (dep_pd h)
theorem in_core (hu:X.A.units+64 < cLine) (neg:Bool) {pins:List (Addr×Obj)} {s:Shared} {σ:L2.St} {H:Hp} {G:Gp} {x y:V} {dx t:D} {ds ss:List D} {v u:Value} {Q:DK} (I:Inv X pins σ H s) (ab:AbH X.K H G) (rx:RelV x v) (dX:RepD X.K H x dx)
  (hy:(∃ l vs its,u=.ref l/\Vals vs its/\RepDs X.K H vs ds/\(s.heap.IsList l its.toArray\/s.heap.IsTuple l its.toArray))) (s1:Sn G SN dx t) (s2:Sn G SN (.rol ds) (.rol ss))
  (q:Q (.bl (if neg then !ss.any (eqD · t) else ss.any (eqD · t))) G):wpAny (model X.prog X.w) X.A (compareOp (if neg then .NotIn else .In) v u) (EP2 X pins σ H G Q) X.xe s:=by
 obtain ⟨l,vs,its,rfl,rv,rs,hl⟩:=hy
 obtain ⟨as,ra⟩:=(rep_reads I ab s1).1 x v dX rx
 obtain ⟨bs,rb⟩:=(rep_reads I ab s2).2 ds ss (.inl ⟨rfl,rfl⟩) vs its rs rv
 have d2:=dep_pds (n:=7) s2
 have n2:nrs ss=true:=s2.nr
 have lays:=lay_pds _ n2
 have e:=pds_any ss t n2 s1.nr
 have hu':X.A.units+1+min (PyData.depthAll (pds ss)) (pd t).depth < cLine:=by lia
 have rb':ReadsAll s.heap its.toArray.toList (pds ss) bs:=by simpa using rb
 have fin:∀ k:Bool,k=(if neg then !ss.any (eqD · t) else ss.any (eqD · t))->EP2 X pins σ H G Q (.bool k) s:=fun k hk=>by subst hk; exact ⟨.bl _,H,.bl _,G,I,.refl ab,rfl,.bl _,q⟩
 cases neg with
 | false =>
  rcases hl with hl | hl
  ·exact SeqAt.in_listAt _ hl (SeqAt.items_eqAt rb' ra lays (lay_pd _ s1.nr) hu') (by rw [SeqAt.any_by_data rb' lays,e]; exact fin _ rfl)
  ·exact SeqAt.in_tupleAt _ hl (SeqAt.items_eqAt rb' ra lays (lay_pd _ s1.nr) hu') (by rw [SeqAt.any_by_data rb' lays,e]; exact fin _ rfl)
 | true =>
  rcases hl with hl | hl
  ·exact SeqAt.notIn_listAt _ hl (SeqAt.items_eqAt rb' ra lays (lay_pd _ s1.nr) hu') (by rw [SeqAt.any_by_data rb' lays,e]; exact fin _ rfl)
  ·exact SeqAt.notIn_tupleAt _ hl (SeqAt.items_eqAt rb' ra lays (lay_pd _ s1.nr) hu') (by rw [SeqAt.any_by_data rb' lays,e]; exact fin _ rfl)
theorem in_rod (hu:X.A.units+64 < cLine) (neg:Bool) {pins:List (Addr×Obj)} {s:Shared} {σ:L2.St} {H:Hp} {G:Gp} {x y:V} {dx:D} {kvs:List (D×D)} {v u:Value} {Q:DK} (I:Inv X pins σ H s) (ab:AbH X.K H G) (rx:RelV x v) (ry:RelV y u) (dY:RepD X.K H y (.rod kvs)) (dX:RepD X.K H x dx)
  (q:rIn neg dx (.rod kvs) G Q):wpAny (model X.prog X.w) X.A (compareOp (if neg then .NotIn else .In) v u) (EP2 X pins σ H G Q) X.xe s:=by
 obtain ⟨hne,hk,q⟩:=q
 have go:∀ (a:Addr) (o:Option V),y=.ref a->DGet H a x o->o.isSome=(look kvs dx).isSome->wpAny (model X.prog X.w) X.A (compareOp (if neg then .NotIn else .In) v u) (EP2 X pins σ H G Q) X.xe s:=by
  intro a o ea g ho
  subst ea
  cases ry
  cases neg with
  | false=>exact d_in (by lia) I g rx fun s3 I4=>⟨.bl _,H,.bl _,G,I4,.refl ab,rfl,.bl _,by rw [ho]; exact q⟩
  | true=>exact d_notIn (by lia) I g rx fun s3 I4=>⟨.bl _,H,.bl _,G,I4,.refl ab,rfl,.bl _,by rw [ho]; exact q⟩
 obtain ⟨a,o,ea,g,ho,_⟩:=rod_get I dY hk dX
 rcases g with rfl | g
 ·exact absurd rfl hne
 ·exact go a o ea g ho
theorem op2_inN (hu:X.A.units+64 < cLine) (neg:Bool):OpR2 X (compareOp (if neg then .NotIn else .In)) (rIn neg):=by
 intro pins s σ H G x y dx dy v u Q I ab rx ry dX dY q
 cases dY with
 | tup hq rs =>
  obtain ⟨t,ss,s1,s2,q⟩:=q
  cases ry
  obtain ⟨its,rv,pl,hz⟩:=I.tuple (.of hq)
  exact in_core hu neg (y:=x) I ab rx dX ⟨_,_,its,rfl,rv,rs,.inr pl⟩ s1 s2 q
 | rol hq rs =>
  obtain ⟨t,ss,s1,s2,q⟩:=q
  cases ry
  obtain ⟨its,rv,pl,hz⟩:=I.list hq.sq
  exact in_core hu neg (y:=x) I ab rx dX ⟨_,_,its,rfl,rv,rs,.inl pl.isList⟩ s1 s2 q
 | rodK h rs=>exact in_rod hu neg I ab rx ry (.rodK h rs) dX q
 | rodT h rs=>exact in_rod hu neg I ab rx ry (.rodT h rs) dX q
 | ref l =>
  unfold rIn at q
  dsimp only at q
  split at q
  ·rename_i kvs hl
   obtain ⟨hk,q⟩:=q
   obtain ⟨H3,o,I3,m3,g,ho,_⟩:=dict_get I ab hl hk dX
   cases ry
   cases neg with
   | false=>exact d_in (by lia) I3 g rx fun s3 I4=>⟨.bl _,H3,.bl _,G,I4,m3,rfl,.bl _,by rw [ho]; exact q⟩
   | true=>exact d_notIn (by lia) I3 g rx fun s3 I4=>⟨.bl _,H3,.bl _,G,I4,m3,rfl,.bl _,by rw [ho]; exact q⟩
  ·rename_i ds hl
   obtain ⟨t,ss,s1,s2,q⟩:=q
   cases ry
   obtain ⟨vs,hv,rs⟩:=ab.lst hl
   obtain ⟨its,rv,pl,hz⟩:=I.list (.of hv)
   exact in_core hu neg (y:=x) I ab rx dX ⟨_,_,its,rfl,rv,rs,.inl pl.isList⟩ s1 s2 q
  ·exact q.elim
 | _=>exact False.elim q
theorem op2_in (hu:X.A.units+64 < cLine):OpR2 X (compareOp .In) (rIn false):=op2_inN hu false
theorem op2_notin (hu:X.A.units+64 < cLine):OpR2 X (compareOp .NotIn) (rIn true):=op2_inN hu true
end
end K2
end
section
namespace K2
open PySem PySem.Spec PyProof.Rows L2
section
variable {X:Cx} {a b c e o:Expr} {es:List Expr} {ta tb tc te to:TE2} {t:TA2} {pos p p2 apos cpos:Pos} {x name:Str} {id T:String}
theorem call2_len:CallR2 X (.builtin "len") cLen:=by
 intro pins s σ H G xs ds us Q I ab rx rd q
 unfold cLen at q
 split at q
 ·rename_i x
  obtain ⟨v,rfl,r⟩:=rd.one
  have viaL:∀ (n:Nat),LenV X.K v H n->Q (.int (n:Int)) G->wpAny (model X.prog X.w) X.A (call (.builtin "len") us) (EP2 X pins σ H G Q) X.xe s:=fun n hn hq =>
   thn (call_len pins s σ H [v] us (Rch X.K H G Q) I rx ⟨v,n,rfl,hn,_,_,.refl ab,.int _,hq⟩) fun _ _ z=>.of z
  have sz:sizeLine=16777216:=sizeLine_eq
  cases r with
  | tup hq rs=>exact viaL _ (.inr ⟨_,.of hq,by rw [rs.length]⟩) q
  | rol hq rs=>exact viaL _ (.inl ⟨_,hq.sq,by rw [rs.length]⟩) q
  | str y =>
   unfold lenOf at q
   dsimp only at q
   by_cases hz:y.length<=SZ
   ·rw [if_pos hz] at q; exact viaL _ ⟨by rw [sz]; exact hz,rfl⟩ q
   ·rw [if_neg hz] at q; exact q.elim
  | rodK h rs =>
   rename_i l o kv kvs
   obtain ⟨u,rfl,ru⟩:=rx.one
   cases ru
   unfold lenOf at q
   dsimp only at q
   by_cases ha:(kvs.all fun p=>keyOk1 p.1)=true
   ·rw [if_pos ha] at q
    exact d_len I (.inr ⟨_,h⟩) fun t s' I'=>⟨.int kv.length,H,_,G,I',.refl ab,⟨t,rfl⟩,.int _,by rw [rs.length]; exact q⟩
   ·rw [if_neg ha] at q; exact q.elim
  | rodT h rs =>
   rename_i l o kv kvs
   obtain ⟨u,rfl,ru⟩:=rx.one
   cases ru
   unfold lenOf at q
   dsimp only at q
   by_cases ha:(kvs.all fun p=>keyOk1 p.1)=true
   ·rw [if_pos ha] at q
    cases rs with
    | nil =>
     obtain ⟨z,hS,xs,rel,ob,es,ep,ho,hx,hd',hl,nd⟩:=(I.hok l _ h).2
     have hxs:xs=[]:=by cases rel; rfl
     subst hxs
     have he:es=#[]:=by simpa using hl
     subst he
     have dd:s.heap.DictOf (mixKind X.prog X.w) l []:=⟨ob,#[],ep,ho,hx,hd',(fun _ h=>by simp at h),.nil,List.nodup_nil⟩
     refine call_len_dict hS dd (by simp) ?_
     exact ⟨.int 0,H,_,G,I.tok _,.refl ab,⟨_,rfl⟩,.int _,q⟩
    | cons _ _=>simp [keyOk1] at ha
   ·rw [if_neg ha] at q; exact q.elim
  | ref l =>
   unfold lenOf at q
   dsimp only at q
   cases hg:G l with
   | none=>rw [hg] at q; exact q.elim
   | some g =>
    rw [hg] at q
    cases g with
    | lst ds =>
     obtain ⟨vs,hv,rs⟩:=ab.lst hg
     exact viaL _ (.inl ⟨_,.of hv,by rw [rs.length]⟩) q
    | dic kvs =>
     obtain ⟨u,rfl,ru⟩:=rx.one
     cases ru
     dsimp only at q
     by_cases ha:(kvs.all fun p=>keyOk1 p.1)=true
     ·rw [if_pos ha] at q
      rcases ab l _ hg with ⟨kv,hv,rs⟩ | ⟨kv,hv,rs⟩
      ·exact d_len I (.inl hv) fun t s' I'=>⟨.int kv.length,H,_,G,I',.refl ab,⟨t,rfl⟩,.int _,by rw [rs.length]; exact q⟩
      ·cases rs with
       | nil =>
        obtain ⟨z,hd,vs,rel,dd⟩:=dk_of (toK I hv).hok upd_same
        have hvs:vs=[]:=by cases rel; rfl
        subst hvs
        refine call_len_dict hd dd (by simp) ?_
        exact ⟨.int 0,H,_,G,I.tok _,.refl ab,⟨_,rfl⟩,.int _,q⟩
       | cons _ _=>simp [keyOk1] at ha
     ·rw [if_neg ha] at q; exact q.elim
  | _=>exact False.elim q
 ·exact q.elim
theorem call2_list:CallR2 X (.type "list") cList:=by
 intro pins s σ H G xs ds us Q I ab rx rd q
 unfold cList at q
 split at q
 ·rename_i x
  obtain ⟨v,rfl,r⟩:=rd.one
  have via:∀ (l:Addr) (ys:List V) (zs:List D),v=.ref l->(SqL X.K H l ys\/SqT X.K H l ys)->RepDs X.K H ys zs->dNew G (.lst zs) Q->wpAny (model X.prog X.w) X.A (call (.type "list") us) (EP2 X pins σ H G Q) X.xe s:=fun l ys zs e h rs hq=>by
   subst e
   exact thn (call_list_of pins s σ H _ us (Rch X.K H G Q) I rx ⟨l,ys,rfl,h,fun p hp=>⟨_,_,.newL ab hp rs,.ref _,hq p (ab.free hp)⟩⟩) fun _ _ z=>.of z
  cases r with
  | tup hq rs=>exact via _ _ _ rfl (.inr (.of hq)) rs q
  | rol hq rs=>exact via _ _ _ rfl (.inl hq.sq) rs q
  | ref l =>
   unfold itemsOf at q
   dsimp only at q
   cases hg:G l with
   | none=>rw [hg] at q; exact q.elim
   | some g =>
    rw [hg] at q
    cases g with
    | lst ds =>
     obtain ⟨vs,hv,rs⟩:=ab.lst hg
     exact via _ _ _ rfl (.inl (.of hv)) rs q
    | dic kvs=>exact q.elim
  | _=>exact False.elim q
 ·exact q.elim
theorem pe2_callTy {r:List D->Gp->DK->Prop} (hc:CallR2 X (.type T) r) (hg:Gl X x) (hm:X.mg x=none) (hv:bootBuiltins x=some (.type T)) (ha:PA2 X (e :: es) t) (hn:autoParam (x≠"__name__") Ad._auto_1) (hdb:autoParam ((x == ("__debug__" : Str))=false) Ad._auto_1)
  (he:autoParam (starEach (e :: es) X.env=(false,eval e X.env) :: starEach es X.env) Ar._auto_1) (hpl:autoParam ((backTo pos (starEach es X.env)).any (·.1)=false) Ar._auto_1):PE2 X (.Call (.Name x p) (e :: es) [] pos) (dCB r t):=by
 intro E pins s σ H τ G Q hE I h
 refine wpAny_Call_Name_kw (ld_blt I.inv hg hm hv ?_ hn hdb)
 exact PyProof.Rows.callWith_type1 (thnA ha pos hE I h fun vs H1 ds G1 us s1 I1 m1 r1 rd1 q1=>thn (hc pins s1 σ H1 G1 vs ds us Q I1.inv I1.ab r1 rd1 q1) fun _ _ z=>z.trans m1) he hpl
theorem kit_ok (K:PySem.W.Frag):∀ C∈["int","bool","list","tuple","dict","str"],∀ T∈["NoneType","bool","int","str","tuple","list","dict"],PySem.W.kitOne K (.type T) (.type C)=some (T == C||(T == "bool" && C == "int")):=by
 intro C hC T hT
 simp only [List.mem_cons,List.not_mem_nil,or_false] at hC hT
 rcases hC with rfl | rfl | rfl | rfl | rfl | rfl <;> rcases hT with rfl | rfl | rfl | rfl | rfl | rfl | rfl <;> kernel_rfl
theorem isi_core (C:String) (hC:C∈["int","bool","list","tuple","dict","str"]) {pins:List (Addr×Obj)} {s:Shared} {σ:L2.St} {H:Hp} {G:Gp} {v:V} {d:D} {u:Value} {k:Bool} {Q:DK} (I:Inv X pins σ H s) (ab:AbH X.K H G) (ru:RelV v u) (r:RepD X.K H v d)
  (hk:isI C d G=some k) (q:Q (.bl k) G):wpAny (model X.prog X.w) X.A (call (.builtin "isinstance") [u,.type C]) (EP2 X pins σ H G Q) X.xe s:=by
 have fin:∀ tk,EP2 X pins σ H G Q (.bool k) { s with toks:=tk }:=fun tk=>⟨.bl k,H,.bl k,G,I.tok _,.refl ab,rfl,.bl k,q⟩
 have hl:∀ T∈["NoneType","bool","int","str","tuple","list","dict"],k=(T == C||(T == "bool" && C == "int"))->PySem.W.kitOne X.K (.type T) (.type C)=some k:=fun T hT e=>by rw [kit_ok X.K C hC T hT,e]
 have tl:∀ {l:Addr} {o:Obj},s.heap.get? l=some o->o.cls=.type "list"->k=("list" == C||("list" == "bool" && C == "int"))->v=.ref l->wpAny (model X.prog X.w) X.A (call (.builtin "isinstance") [u,.type C]) (EP2 X pins σ H G Q) X.xe s:=fun ho hc e ev=>by
  subst ev
  cases ru
  exact PySem.W.kia_one PySem.W.kitx_list I.kIn ⟨_,ho,hc⟩ (hl "list" (by decide) e) (fun z=>nomatch z) fin
 have td:∀ {l:Addr} {o:Obj},s.heap.get? l=some o->o.cls=.type "dict"->k=("dict" == C||("dict" == "bool" && C == "int"))->v=.ref l->wpAny (model X.prog X.w) X.A (call (.builtin "isinstance") [u,.type C]) (EP2 X pins σ H G Q) X.xe s:=fun ho hc e ev=>by
  subst ev
  cases ru
  exact PySem.W.kia_one PySem.W.kitx_dict I.kIn ⟨_,ho,hc⟩ (hl "dict" (by decide) e) (fun z=>nomatch z) fin
 have cases6:∀ P:String->Prop,(∀ C'∈["int","bool","list","tuple","dict","str"],P C')->P C:=fun P h=>h C hC
 cases r with
 | non =>
  cases ru
  have e:k=("NoneType" == C||("NoneType" == "bool" && C == "int")):=by
   have:k=false:=(Option.some.inj hk).symm
   rw [this]
   exact cases6 (fun C=>false=("NoneType" == C||("NoneType" == "bool" && C == "int"))) (by decide)
  exact PySem.W.kia_one PySem.W.kitx_none I.kIn True.intro (hl _ (by decide) e) (fun z=>nomatch z) fin
 | bl y =>
  cases ru
  have e:k=("bool" == C||("bool" == "bool" && C == "int")):=by
   have:k=(C == "bool" || C == "int"):=(Option.some.inj hk).symm
   rw [this]
   exact cases6 (fun C=>(C == "bool" || C == "int")=("bool" == C||("bool" == "bool" && C == "int"))) (by decide)
  exact PySem.W.kia_one PySem.W.kitx_bool I.kIn True.intro (hl _ (by decide) e) (fun z=>nomatch z) fin
 | int y =>
  obtain ⟨t,rfl⟩:=ru
  have e:k=("int" == C||("int" == "bool" && C == "int")):=by
   have:k=(C == "int"):=(Option.some.inj hk).symm
   rw [this]
   exact cases6 (fun C=>(C == "int")=("int" == C||("int" == "bool" && C == "int"))) (by decide)
  exact PySem.W.kia_one PySem.W.kitx_int I.kIn True.intro (hl _ (by decide) e) (fun z=>nomatch z) fin
 | str y =>
  obtain ⟨t,rfl⟩:=ru
  have e:k=("str" == C||("str" == "bool" && C == "int")):=by
   have:k=(C == "str"):=(Option.some.inj hk).symm
   rw [this]
   exact cases6 (fun C=>(C == "str")=("str" == C||("str" == "bool" && C == "int"))) (by decide)
  exact PySem.W.kia_one PySem.W.kitx_str I.kIn True.intro (hl _ (by decide) e) (fun z=>nomatch z) fin
 | tup hq rs =>
  cases ru
  have e:k=("tuple" == C||("tuple" == "bool" && C == "int")):=by
   have:k=(C == "tuple"):=(Option.some.inj hk).symm
   rw [this]
   exact cases6 (fun C=>(C == "tuple")=("tuple" == C||("tuple" == "bool" && C == "int"))) (by decide)
  obtain ⟨its,rv,⟨o,h1,h2,_⟩,hz⟩:=I.tuple (.of hq)
  exact PySem.W.kia_one PySem.W.kitx_tuple I.kIn ⟨o,h1,h2⟩ (hl _ (by decide) e) (fun z=>nomatch z) fin
 | rol hq rs =>
  obtain ⟨its,rv,pl,hz⟩:=I.list hq.sq
  obtain ⟨o,h1,h2,_⟩:=pl.isList
  refine tl h1 h2 ?_ rfl
  have:k=(C == "list"):=(Option.some.inj hk).symm
  rw [this]
  exact cases6 (fun C=>(C == "list")=("list" == C||("list" == "bool" && C == "int"))) (by decide)
 | rodK h rs =>
  have e:k=("dict" == C||("dict" == "bool" && C == "int")):=by
   have:k=(C == "dict"):=(Option.some.inj hk).symm
   rw [this]
   exact cases6 (fun C=>(C == "dict")=("dict" == C||("dict" == "bool" && C == "int"))) (by decide)
  obtain ⟨_,_,vs,_,ob,_,_,h1,h2,_⟩:=dk_rd I.hok (.inr ⟨_,h⟩)
  exact td h1 h2.1 e rfl
 | rodT h rs =>
  have e:k=("dict" == C||("dict" == "bool" && C == "int")):=by
   have:k=(C == "dict"):=(Option.some.inj hk).symm
   rw [this]
   exact cases6 (fun C=>(C == "dict")=("dict" == C||("dict" == "bool" && C == "int"))) (by decide)
  obtain ⟨_,_,ys,_,ob,_,_,h1,h2,_⟩:=dt_rd I.hok (.inr ⟨_,h⟩)
  exact td h1 h2.1 e rfl
 | exc h=>simp [isI] at hk
 | ref l =>
  unfold isI at hk
  dsimp only at hk
  cases hg:G l with
  | none=>rw [hg] at hk; cases hk
  | some g =>
   rw [hg] at hk
   cases g with
   | lst ds =>
    obtain ⟨vs,hv,rs⟩:=ab.lst hg
    obtain ⟨its,rv,pl,hz⟩:=I.list (.of hv)
    obtain ⟨o,h1,h2,_⟩:=pl.isList
    refine tl h1 h2 ?_ rfl
    have:k=(C == "list"):=(Option.some.inj hk).symm
    rw [this]
    exact cases6 (fun C=>(C == "list")=("list" == C||("list" == "bool" && C == "int"))) (by decide)
   | dic kvs =>
    have e:k=("dict" == C||("dict" == "bool" && C == "int")):=by
     have:k=(C == "dict"):=(Option.some.inj hk).symm
     rw [this]
     exact cases6 (fun C=>(C == "dict")=("dict" == C||("dict" == "bool" && C == "int"))) (by decide)
    rcases ab l _ hg with ⟨kv,hv,rs⟩ | ⟨kv,hv,rs⟩
    ·obtain ⟨_,_,vs,_,ob,_,_,h1,h2,_⟩:=dk_of I.hok hv
     exact td h1 h2.1 e rfl
    ·obtain ⟨_,_,ys,_,ob,_,_,h1,h2,_⟩:=dt_of I.hok hv
     exact td h1 h2.1 e rfl
theorem pe2_isi (C:String) (hC:C∈["int","bool","list","tuple","dict","str"]) {y:Str} {py:Pos} (hg:Gl X "isinstance") (hm:X.mg "isinstance" = none) (hgC:Gl X y) (hmC:X.mg y=none) (hvC:bootBuiltins y=some (.type C)) (ha:PE2 X a ta) (hn:autoParam (y≠"__name__") Ad._auto_1) (hdb:autoParam ((y == ("__debug__" : Str))=false) Ad._auto_1)
  (he:autoParam (starEach [a,.Name y py] X.env=(false,eval a X.env) :: starEach [.Name y py] X.env) Ar._auto_1) (hpl:autoParam ((backTo pos (starEach [Expr.Name y py] X.env)).any (·.1)=false) Ar._auto_1) (he2:autoParam (starEach [.Name y py] X.env=[(false,eval (.Name y py) X.env)]) Ar._auto_1) :
  PE2 X (.Call (.Name "isinstance" p) [a,.Name y py] [] pos) (dIsi C ta):=by
 intro E pins s σ H τ G Q hE I h
 refine wpAny_Call_Name_kw (ld_blt I.inv hg hm PyProof.Rows.boot_isinstance ?_)
 refine PyProof.Rows.callWith_builtin1 ?_ he hpl
 rw [he]
 show wpAny _ _ (spliced ((false,eval a X.env) :: backTo pos (starEach [.Name y py] X.env))) _ _ s
 refine Calls.spliced_cons (thnE ha hE I h fun v H1 d G1 u s1 I1 m1 r1 rd1 q1=>?_)
 rw [he2]
 show wpAny _ _ (spliced [(false,eval (.Name y py) X.env)]) _ _ s1
 refine Calls.spliced_cons (ld_blt I1.inv hgC hmC hvC (Calls.spliced_nil ?_) hn hdb)
 try dsimp only at q1
 split at q1
 ·rename_i k hk
  exact thn (isi_core C hC I1.inv I1.ab r1 rd1 hk q1) fun _ _ z=>z.trans m1
 ·exact q1.elim
end
end K2
end
section
namespace K2
open PySem PySem.Spec PyProof.Rows L2
section
variable {X:Cx} {a b c e o:Expr} {es:List Expr} {ta tb tc te to:TE2} {t:TA2} {pos p p2 apos cpos:Pos} {x name:Str} {id T:String}
noncomputable def MtR2 (X:Cx) (id:String) (r:D->List D->Gp->DK->Prop):Prop :=
 ∀ (pins:List (Addr×Obj)) (s:Shared) (σ:L2.St) (H:Hp) (G:Gp) (x:V) (d:D) (xs:List V) (ds:List D) (v:Value) (us:List Value) (Q:DK),Inv X pins σ H s->AbH X.K H G->RelV x v->RepD X.K H x d->Vals xs us->RepDs X.K H xs ds->r d ds G Q ->
  wpAny (model X.prog X.w) X.A (call (.builtin id) (v :: us)) (EP2 X pins σ H G Q) X.xe s
noncomputable def TyR2 (X:Cx) (T:String) (ty:D->Gp->Prop):Prop:=∀ (pins:List (Addr×Obj)) (s:Shared) (σ:L2.St) (H:Hp) (G:Gp) (x:V) (d:D) (v:Value),Inv X pins σ H s->AbH X.K H G->RelV x v->RepD X.K H x d->ty d G ->
  s.TypeIs v T/\∀ a,v=.ref a->∃ ob,s.heap.get? a=some ob/\ob.dict=none
theorem ty2_list:TyR2 X "list" tyL:=by
 intro pins s σ H G x d v I ab r rd h
 cases rd with
 | rol hq rs=>exact tyV_is I r (.inl ⟨rfl,_,hq.sq⟩)
 | ref l =>
  unfold tyL at h
  dsimp only at h
  split at h
  ·rename_i ds hg
   obtain ⟨vs,hv,rs⟩:=ab.lst hg
   exact tyV_is I r (.inl ⟨rfl,vs,.of hv⟩)
  ·exact h.elim
 | _=>exact False.elim h
theorem pe2_bm {ty:D->Gp->Prop} {r:D->List D->Gp->DK->Prop} (pa:PlainAttrs T) (slot:Slot T name id) (hty:typeOf (.builtin id)=pure (.type "method_descriptor")) (ht:TyR2 X T ty) (hm:MtR2 X id r) (ho:PE2 X o to) (ha:PA2 X (e :: es) t)
  (hbase:autoParam (attributeBase o name X.env (eval o X.env)=eval o X.env) Ar._auto_1)
  (hfew:autoParam (((backTo cpos (starEach (e :: es) X.env)).all (fun x=>!x.1)&&(backToKw cpos (keywordEach [] X.env)).all (fun x=>x.1.isSome)
   && decide ((e :: es).length+([]:List Keyword).length+(if ([]:List Keyword).isEmpty then 0 else 1) < 30))=true) Ar._auto_1)
  (hline:autoParam ((apos.endLine == cpos.line)=true) Ar._auto_1) (hs:autoParam (starEach (e :: es) X.env=(false,eval e X.env) :: starEach es X.env) Ar._auto_1) (hplain:autoParam ((backTo cpos (starEach es X.env)).any (·.1)=false) Ar._auto_1) :
  PE2 X (.Call (.Attribute o name apos) (e :: es) [] cpos) (dMt ty r to t):=by
 intro E pins s σ H τ G Q hE I h
 refine wpAny_Call_method_late hbase hfew hline rfl (thnE ho hE I h ?_)
 rintro x H1 d G1 v s1 I1 m1 r1 rd1 ⟨hy,q1⟩
 obtain ⟨h1,h2⟩:=ht pins s1 σ H1 G1 x d v I1.inv I1.ab r1 rd1 hy
 refine ⟨T,id,pa,slot,hty,h1,h2,?_⟩
 have hA:=ha cpos E pins s1 σ H1 τ G1 _ hE I1 q1
 rw [hs] at hA ⊢
 refine Calls.callWith_builtin (by show (false||(backTo cpos (starEach es X.env)).any (·.1))=false; rw [hplain] <;> rfl) (Calls.evalArgs_plain ?_)
 exact thn hA (by rintro us s2 ⟨vs,H2,ds,G2,I2',m2,r2,rd2,q2⟩; exact thn (hm pins s2 σ H2 G2 x d vs ds v us Q I2' m2.ab r1 (rd1.mono (m2.kp I1.ab)) r2 rd2 q2) fun _ _ z=>z.trans (m1.trans m2))
theorem mt2_append:MtR2 X "list.append" mAppend:=by
 intro pins s σ H G x d xs ds v us Q I ab rx rd rxs rds q
 unfold mAppend at q
 split at q
 ·rename_i l d'
  cases rd
  obtain ⟨w,rfl,rw'⟩:=rds.one
  split at q
  ·rename_i zs hg
   obtain ⟨hz,q⟩:=q
   obtain ⟨vs,hv,rs⟩:=ab.lst hg
   exact thn (mt_append pins s σ H _ _ v us (Rch X.K H G Q) I rx rxs ⟨l,vs,w,rfl,rfl,hv,by rw [rs.length,sizeLine_eq]; exact hz,_,_,.putL ab hg hv (rs.append (.cons rw' .nil)),.non,q⟩) fun _ _ z=>.of z
  ·exact q.elim
 ·exact q.elim
theorem extend_any (l:Addr) (xs:Array Value) (n:Nat) (b:Addr) (ys:Array Value) (n2:Nat) (dd:Option Addr) (sl:Array (Option Value)) (hlong:¬(!xs.isEmpty&&Builtin.List.listTooLong (xs.size+ys.size))=true) (hx:xs.size<=sizeLine) (hxy:xs.size+ys.size<=sizeLine+1) :
  Meets (Builtin.«list.extend» ⟨[.ref l,.ref b],[]⟩) (fun _ R s=>s.heap.get? l=some { cls:=.type "list",dict:=none,data:=.seq xs n,slots:=#[] }/\s.heap.get? b=some { cls:=.type "list",dict:=dd,data:=.seq ys n2,slots:=sl }/\R (.ok (.ret Value.none)) { s with heap:=s.heap.update l (Obj.mapSeq fun x=>x++ys),toks:=s.toks }) :=
 .of_wp fun prog w A R s h=>by
  obtain ⟨hp,g,d,tk,os⟩:=s
  obtain ⟨h1,h2,h3⟩:=h
  have e1:=AutoSeq1.idx_int
  have e2:=AutoSeq1.sub_tuple_tuple
  have e3:=AutoSeq1.sub_list_list
  have e4:=AutoSeq1.sub_tuple_list
  have e5:=AutoSeq1.sub_list_tuple
  have hz':(xs++ys).size<=sizeLine+1:=by rw [Array.size_append]; exact hxy
  wp_walk using (wpAny_updateSeq h1 rfl (hz:=hx) (_hz':=hz')),wpAny_loadPart' h1,wpAny_loadPart' h2
  exact ⟨_,rfl,h3⟩
theorem mt2_extend:MtR2 X "list.extend" mExtend:=by
 intro pins s σ H G x d xs ds v us Q I ab rx rd rxs rds q
 unfold mExtend at q
 split at q
 ·rename_i l y
  cases rd
  obtain ⟨w,rfl,rw'⟩:=rds.one
  obtain ⟨u,rfl,ru⟩:=rxs.one
  split at q
  ·rename_i zs ys hg hg2
   obtain ⟨hz,q⟩:=q
   obtain ⟨vs,hv,rs⟩:=ab.lst hg
   obtain ⟨b,ws,its2,rfl,rv2,rs2,hb,_⟩:=addL_lists I ab ru rw' hg2
   cases rx
   obtain ⟨z,its,n,r,hl,e⟩:=I.lstM hv
   obtain ⟨⟨cl,dd,dt,sl⟩,ho,hcl,n2,hdt⟩:=hb
   simp only at hcl hdt
   subst hcl hdt
   have h1:=rv2.length
   have h2:=rs2.length
   have h3:=rs.length
   have h4:=r.length
   have h5:sizeLine=16777216:=sizeLine_eq
   have h6:SZ=16777216:=rfl
   have hsz:its.toArray.size+its2.toArray.size<=sizeLine:=by rw [List.size_toArray,List.size_toArray]; lia
   have hlong:¬ (!its.toArray.isEmpty&&Builtin.List.listTooLong (its.toArray.size+its2.toArray.size))=true:=by
    rw [notLongL hsz,Bool.and_false]
    exact Bool.false_ne_true
   refine call_meets F.slot_list_extend ⟨_,e,rfl⟩ F.entry_list_extend (F.args_list_extend_2 _ _) (extend_any l its.toArray n b its2.toArray n2 dd sl hlong (by rw [List.size_toArray]; lia) (by lia)) ⟨e,ho,?_⟩
   refine ⟨.non,_,.non,_,I.lset (its':=its++its2) hv e (by simp) (r.append rv2) ?_,.putL ab hg hv (rs.append rs2),rfl,.non,q⟩
   rw [List.length_append]
   lia
  ·exact q.elim
 ·exact q.elim
theorem ins_eq {its:List Value} {u:Value} {k:Nat} (hk:k<=its.length):(its.toArray.extract 0 k).push u++its.toArray.extract k=(its.take k++u :: its.drop k).toArray:=by
 simp [List.extract_eq_take_drop]
 rw [List.take_of_length_le (by rw [List.length_drop]; lia)]
theorem mt2_insert:MtR2 X "list.insert" mInsert:=by
 intro pins s σ H G x d xs ds v us Q I ab rx rd rxs rds q
 unfold mInsert at q
 split at q
 ·rename_i l i d'
  cases rd
  obtain ⟨w,w2,rfl,rw1,rw2⟩:=rds.two
  cases rw1
  split at q
  ·rename_i zs hg
   obtain ⟨h0,h1,hz,q⟩:=q
   obtain ⟨vs,hv,rs⟩:=ab.lst hg
   obtain ⟨u1,u2,rfl,⟨t,rfl⟩,ru2⟩:=vals2 rxs
   cases rx
   obtain ⟨z,its,n,r,hl,e⟩:=I.lstM hv
   have sz:sizeLine=16777216:=sizeLine_eq
   have hlen:its.length=zs.length:=by rw [← hl,rs.length]
   have hs:SZ=16777216:=rfl
   have hfit:¬ (!Builtin.List.listFitsIndex i)=true:=by
    rw [fitsIndex_both (by lia) (by lia)]
    exact Bool.false_ne_true
   refine call_meets F.slot_list_insert ⟨_,e,rfl⟩ F.entry_list_insert (F.args_list_insert_3 _ _ _)
    (AutoSeq1.list_insert_list_int_val_1 l its.toArray n i t u2 hfit (by rw [List.size_toArray]; lia)) ⟨e,?_⟩
   have hi:i.toNat<=its.length:=by lia
   refine ⟨.non,_,.non,_,I.lset (its':=its.take i.toNat++u2 :: its.drop i.toNat) (ys:=vs.take i.toNat++w2 :: vs.drop i.toNat) hv e ?_ ((r.take _).append (.cons ru2 (r.drop _))) ?_,.putL ab hg hv ((rs.take _).append (.cons rw2 (rs.drop _))),rfl,.non,q⟩
   ·dsimp only
    have e1:(if i < 0 then (i+(its.toArray.size:Int)).toNat else min i.toNat its.toArray.size)=i.toNat:=by
     rw [if_neg (by lia),List.size_toArray]; lia
    rw [e1]
    exact ins_eq hi
   ·rw [List.length_append,List.length_cons,List.length_take,List.length_drop]
    lia
  ·exact q.elim
 ·exact q.elim
theorem pe2_dic:PE2 X (.Dict [] [] pos) dDic:=by
 intro E pins s σ H τ G Q hE I h
 exact thn (pe_dnewK pins s σ H (Rch X.K H G Q) I.inv fun p hp=>⟨_,_,.new I.ab hp (.dk upd_same .nil),.ref _,h p (I.ab.free hp)⟩) fun _ _ z=>.of z
end
end K2
end
section
namespace K2
open PySem PySem.Spec PyProof.Rows L2
noncomputable def takenGo (env:Env):List (Str×NameKind)->List (Str×Addr)->List (Str×Addr)
 | [],acc=>acc
 | (n,k) :: r,acc=>if k=.free then takenGo env r ((n,(env.cells.lookup n).getD 0) :: acc) else takenGo env r acc
theorem closure_go (env:Env) (f:Str×NameKind->List (Str×Addr)->Sem (ForInStep (List (Str×Addr)))) (hf:∀ n k c,f (n,k) c=if (k == NameKind.free)=true then (cellOf env n >>= fun a=>pure (ForInStep.yield ((n,a) :: c))) else pure (ForInStep.yield c)) :
  ∀ (ns:List (Str×NameKind)) (acc:List (Str×Addr)),(∀ x∈ns,x.2=.free->∃ c,env.cells.lookup x.1=some c)->forIn ns acc f=(pure (takenGo env ns acc):Sem (List (Str×Addr)))
 | [],acc,_=>rfl
 | (n,k) :: r,acc,h=>by
  rw [List.forIn_cons,hf]
  have hr:∀ x∈r,x.2=.free->∃ c,env.cells.lookup x.1=some c:=fun x hx=>h x (List.mem_cons_of_mem _ hx)
  by_cases hk:k=.free
  ·subst hk
   obtain ⟨c,hc⟩:=h (n,.free) List.mem_cons_self rfl
   have ec:cellOf env n=pure c:=by unfold cellOf; rw [hc]
   rw [if_pos (by decide),ec,pure_bind,pure_bind]
   show forIn r ((n,c) :: acc) f=_
   rw [closure_go env f hf r _ hr]
   show _=(pure (takenGo env ((n,.free) :: r) acc):Sem (List (Str×Addr)))
   rw [takenGo,if_pos rfl,hc]; rfl
  ·rw [if_neg (by simpa using hk),pure_bind]
   show forIn r acc f=_
   rw [closure_go env f hf r _ hr]
   show _=(pure (takenGo env ((n,k) :: r) acc):Sem (List (Str×Addr)))
   rw [takenGo,if_neg hk]
theorem closure_taken {env:Env} {scope:Scope} (h:∀ x∈scope.names,x.2=.free->∃ c,env.cells.lookup x.1=some c):closureFor scope env=pure (takenGo env scope.names []):=by
 unfold closureFor
 dsimp only
 rw [closure_go env _ (fun n k c=>?_) scope.names [] h]
 ·rfl
 ·by_cases hk:(k == NameKind.free)=true
  ·simp only [hk,if_true]
  ·simp only [hk,if_false,Bool.false_eq_true]
theorem taken_in {env:Env} {x:Str} {c:Addr}:∀ {ns:List (Str×NameKind)} {acc:List (Str×Addr)},(∀ y∈ns,y.2=.free->∃ c,env.cells.lookup y.1=some c)->(∀ y c,acc.lookup y=some c->env.cells.lookup y=some c)->(takenGo env ns acc).lookup x=some c->env.cells.lookup x=some c
 | [],_,_,ha,e=>ha _ _ e
 | (n,k) :: r,acc,h,ha,e=>by
  have hr:∀ y∈r,y.2=.free->∃ c,env.cells.lookup y.1=some c:=fun y hy=>h y (List.mem_cons_of_mem _ hy)
  unfold takenGo at e
  by_cases hk:k=.free
  ·rw [if_pos hk] at e
   refine taken_in hr (fun y c' q=>?_) e
   rw [List.lookup_cons] at q
   by_cases hy:(y == n)=true
   ·rw [hy] at q
    have e1:y=n:=eq_of_beq hy
    subst e1
    obtain ⟨c0,hc0⟩:=h (y,k) List.mem_cons_self hk
    rw [hc0] at q ⊢
    exact q
   ·have hy':(y == n)=false:=by simpa using hy
    rw [hy'] at q
    exact ha y c' q
  ·rw [if_neg hk] at e
   exact taken_in hr ha e
theorem taken_some {env:Env} {x:Str}:∀ {ns:List (Str×NameKind)} {acc:List (Str×Addr)},((x,NameKind.free)∈ns\/∃ c,acc.lookup x=some c)->∃ c,(takenGo env ns acc).lookup x=some c
 | [],_,h=>by rcases h with h | h; exact absurd h (by simp); exact h
 | (n,k) :: r,acc,h=>by
  unfold takenGo
  have grow:∀ a,(∃ c,acc.lookup x=some c)->∃ c,((n,a) :: acc).lookup x=some c:=fun a hp0=>by
   obtain ⟨c,hc⟩:=hp0
   rw [List.lookup_cons]
   by_cases hy:(x == n)=true
   ·rw [hy]; exact ⟨_,rfl⟩
   ·have hy':(x == n)=false:=by simpa using hy
    rw [hy']; exact ⟨c,hc⟩
  by_cases hk:k=.free
  ·rw [if_pos hk]
   refine taken_some ?_
   rcases h with h | h
   ·rcases List.mem_cons.mp h with e | h
    ·injection e with e1 e2
     subst e1
     exact .inr ⟨(env.cells.lookup x).getD 0,by rw [List.lookup_cons]; simp⟩
    ·exact .inl h
   ·exact .inr (grow _ h)
  ·rw [if_neg hk]
   refine taken_some ?_
   rcases h with h | h
   ·rcases List.mem_cons.mp h with e | h
    ·injection e with e1 e2
     exact absurd e2.symm hk
    ·exact .inl h
   ·exact .inr h
noncomputable abbrev compCx (X:Cx) (N:List Str) (scope:Scope) (C:Addr) (s:Shared) (H:Hp) (fp:List Addr):Cx :=
 { X with env:=compEnvC scope (takenGo X.env scope.names []) C X.env,N:=N,s₀:=s,H₀:=H,outer:=X.stack,stack:=X.stack,ex:=fp,fn:=fun _=>false,pn:=[],xe:=fun _ _=>False }
theorem relabel_cell {scope:Scope} {env:Env} {x:Str} (h:(relabel scope env).names.lookup x=some .cell\/(relabel scope env).names.lookup x=some .free) (hcell:∀ y∈scope.names,y.2≠.cell):(x,NameKind.free)∈scope.names:=by
 have go:∀ k,(relabel scope env).names.lookup x=some k->k=.cell\/k=.free->(x,NameKind.free)∈scope.names:=by
  intro k hk hkk
  have hm:=PySem.mem_of_lookup hk
  unfold relabel at hm
  dsimp only at hm
  obtain ⟨⟨n,j⟩,hj,e⟩:=List.mem_map.mp hm
  dsimp only at e
  by_cases hc:(j == NameKind.free&&env.scope.kind == .function&&env.kindOf n == some .cell)=true
  ·rw [if_pos hc] at e
   rw [Bool.and_eq_true,Bool.and_eq_true] at hc
   injection e with e1 e2
   have ej:j=.free:=eq_of_beq hc.1.1
   rw [ej,e1] at hj
   exact hj
  ·rw [if_neg hc] at e
   injection e with e1 e2
   subst e1
   rcases hkk with r | r
   ·exact absurd (e2.trans r) (hcell _ hj)
   ·rw [e2.trans r] at hj; exact hj
 rcases h with h | h
 ·exact go _ h (.inl rfl)
 ·exact go _ h (.inr rfl)
section
variable {X:Cx} {N:List Str} {scope:Scope} {fp:List Addr} {pins:List (Addr×Obj)} {σ:L2.St} {H:Hp} {s:Shared} {C:Addr}
theorem compOk (I:Inv X pins σ H s) (hcell:∀ y∈scope.names,y.2≠.cell) (hkind:scope.kind=.function) (hfree:∀ y∈scope.names,y.2=.free->X.env.kindOf y.1=some .cell) (hC:s.heap.objs.size<=C) (hfp:∀ b∈fp,FpOk X pins H b/\b < s.heap.objs.size):(compCx X N scope C s H fp).Ok:=by
 have hcl:∀ y∈scope.names,y.2=.free->∃ c,X.env.cells.lookup y.1=some c:=fun y hy hf=>I.ok.has _ (.inl (hfree y hy hf))
 have tin:∀ x c,(takenGo X.env scope.names []).lookup x=some c->X.env.cells.lookup x=some c:=fun x c e=>taken_in hcl (fun y c q=>by simp at q) e
 refine ⟨I.ok.mod,hkind,I.ok.glob,I.ok.blt,hC,fun x y c h1 h2=>I.ok.inj x y c (tin x c h1) (tin y c h2),fun x hx=>?_,fun x c h=>absurd h (by simp),I.ok.hd,I.ok.frames,.inl rfl,fun b hb=>?_,I.bs,Nat.le_trans I.ok.bsz I.sz,fun b o e hb=>?_,fun b hb=>?_,I.stack,I.stkFree⟩
 ·exact taken_some (.inl (relabel_cell hx hcell))
 ·obtain ⟨⟨f0,f1,f2,f3,f4,f5⟩,hlt⟩:=hfp b hb
  exact ⟨Nat.ne_of_lt (Nat.lt_of_lt_of_le hlt hC),fun x c e=>f4 x c (tin x c e)⟩
 ·obtain ⟨⟨f0,f1,f2,f3,f4,f5⟩,hlt⟩:=hfp b hb
  rcases f3 with f3 | f3
  ·exact I.ok.noex b o e f3
  ·exact absurd (Nat.lt_of_lt_of_le (Heap.lt_size e) (Nat.le_trans I.ok.bsz f3)) (Nat.lt_irrefl _)
 ·obtain ⟨⟨f0,f1,f2,f3,f4,f5⟩,hlt⟩:=hfp b hb
  intro z
  rcases List.mem_cons.mp (I.stkSub b z) with e | e
  ·exact f1 e
  ·exact f2 e
theorem compInv {h₁:Heap} {m:Nat} {fr:List Nat} {tk:Nat} (I:Inv X pins σ H s) (ok:(compCx X N scope s.heap.objs.size s H fp).Ok) (hcell0:∀ y∈scope.names,y.2≠.cell) (hfree:∀ y∈scope.names,y.2=.free->X.env.kindOf y.1=some .cell) (hN:N.length=m+fr.length)
  (hfr:∀ j i x,fr[j]?=some i->N[m+j]?=some x->X.N[i]?=some x/\X.env.scope.names.lookup x=some .cell/\(relabel scope X.env).names.lookup x=some .cell) (hns:∃ mm,h₁.Ns s.heap.objs.size mm) (hk:∀ b o,s.heap.get? b=some o->h₁.get? b=some o) :
  Inv (compCx X N scope s.heap.objs.size s H fp) [] (List.replicate m none++fr.map fun i=>(σ[i]?).getD none) H { s with heap:=h₁,toks:=tk }:=by
 have hcl:∀ y∈scope.names,y.2=.free->∃ c,X.env.cells.lookup y.1=some c:=fun y hy hf=>I.ok.has _ (.inl (hfree y hy hf))
 have tin:∀ x c,(takenGo X.env scope.names []).lookup x=some c->X.env.cells.lookup x=some c:=fun x c e=>taken_in hcl (fun y c q=>by simp at q) e
 obtain ⟨mm,hns⟩:=hns
 refine ⟨ok,rfl,I.bare,Un.kept hk,⟨mm,hns,fun i x v h1 h2 h3=>?_⟩,fun x c e=>?_,I.hok.fresh (Nat.le_refl _),fun x c e=>?_,fun p hp=>absurd hp (by simp),I.hok.kept hk,?_⟩
 ·by_cases hi:i < m
  ·rw [List.getElem?_append_left (by simpa using hi),List.getElem?_replicate] at h2
   split at h2 <;> cases h2
  ·obtain ⟨j,rfl⟩:∃ j,i=m+j:=⟨i - m,by lia⟩
   rw [List.getElem?_append_right (by simp),List.length_replicate,Nat.add_sub_cancel_left,List.getElem?_map] at h2
   cases hj:fr[j]? with
   | none=>rw [hj] at h2; cases h2
   | some k =>
    rw [hj] at h2
    have h2':(σ[k]?).getD none=some v:=by simpa using h2
    have hk':σ[k]?=some (some v):=by
     cases q:σ[k]? with
     | none=>rw [q] at h2'; cases h2'
     | some o=>rw [q] at h2'; simp at h2'; rw [h2']
    obtain ⟨e1,e2,e3⟩:=hfr j k x hj h1
    obtain ⟨m0,hn0,hl0⟩:=I.loc
    obtain ⟨u,r,l⟩:=hl0 k x v e1 hk' (.inr (.inl e2))
    refine ⟨u,r,.inr ⟨.inl e3,?_⟩⟩
    rcases l with ⟨l1,_⟩ | ⟨_,c,hc,hcell⟩
    ·have:X.env.scope.names.lookup x=some .local:=l1
     rw [e2] at this; cases this
    ·have hx:(x,NameKind.free)∈scope.names:=relabel_cell (.inl e3) hcell0
     obtain ⟨c',hc'⟩:=taken_some (env:=X.env) (x:=x) (ns:=scope.names) (acc:=[]) (.inl hx)
     have:=tin x c' hc'
     rw [hc] at this
     have ec:c=c':=Option.some.inj this
     subst ec
     obtain ⟨oc,hoc,hd⟩:=hcell
     exact ⟨c,hc',oc,hk _ _ hoc,hd⟩
 ·obtain ⟨v,oc,hoc,hd⟩:=I.cell x c (tin x c e)
  exact ⟨v,oc,hk _ _ hoc,hd⟩
 ·exact I.freeC x c (tin x c e)
 ·rw [List.length_append,List.length_replicate,List.length_map]
  exact hN.symm
theorem compLoop_own {prog:Program} {w:World} {A:Around} {R:Result->Shared->Prop} {s:Shared} {elt target iter:Expr} {ifs:List Expr} {sc:Scope} {pos:Pos} {it acc:Value} {env:Env} (J:Nat->Shared->Prop)
  (turn:∀ n s,J n s->wpAny (model prog w) A (pyNext it) (fun r s₁=>match r with
   | none=>R (.ok .next) s₁
   | some v=>wpAny (model prog w) A (letOwnedTupleGo target it v) (fun _ s₁'=>wpAny (model prog w) A (assign target env v) (fun _ s₂ =>
     wpAny (model prog w) A (forIn ifs true fun c r=>if r=true then do let ok ← isTrue c env (eval c env); pure (ForInStep.yield ok) else pure (ForInStep.yield r)) (fun k s₃ =>
      if k=true then wpAny (model prog w) A (eval elt env) (fun x s₄=>wpAny (model prog w) A (call (.builtin "list.append") [acc,x]) (fun _ s₅=>∃ m,m < n/\J m s₅) (fun _ _=>False) s₄) (fun _ _=>False) s₃
      else ∃ m,m < n/\J m s₃) (fun _ _=>False) s₂) (fun _ _=>False) s₁') (fun _ _=>False) s₁) (fun _ _=>False) s) (n:Nat) (h:J n s) :
  codeAny (model prog w) A (.compLoop (.ListComp elt [⟨target,iter,ifs,0⟩] sc pos) 0 it acc env) R s:=by
 have no:∀ {α:Type} {t:Sem α} {Q:α->Shared->Prop} {E:Value->Shared->Prop} {s:Shared},wpAny (model prog w) A t Q (fun _ _=>False) s->wpAny (model prog w) A t Q E s:=fun h=>wpAny_mono h (fun _ _ q=>q) fun _ _ z=>z.elim
 refine codeAny_loop rfl J (fun n s hJ=>?_) n h
 show wpAny _ A ((compTurn (.ListComp elt [⟨target,iter,ifs,0⟩] sc pos) 0 it acc env).onRaise (fun x=>do noteFrame x env; theTreesLotGoes x)) _ _ s
 refine wpAny_noted ?_
 rw [compTurn_list]
 refine wpAny_bind (wpAny_standAt (wpAny_bind (thn (no (turn n s hJ)) fun r s₁ h₁=>?_)))
 cases r with
 | none=>exact wpAny_pure h₁
 | some v =>
  refine wpAny_bind (thn (no h₁) fun _ s₂ h₂=>wpAny_bind (thn (no h₂) fun _ s₃ h₃=>wpAny_bind (thn (no h₃) fun k s₄ h₄=>?_)))
  cases k with
  | false=>exact wpAny_pure ⟨rfl,h₄⟩
  | true=>exact wpAny_bind (wpAny_bind (thn (no h₄) fun x s₅ h₅=>wpAny_bind (thn (no h₅) fun _ s₆ h₆=>wpAny_pure (wpAny_pure ⟨rfl,h₆⟩))))
noncomputable def CompEnd (X:Cx) (pins:List (Addr×Obj)) (σ:L2.St) (H:Hp) (G:Gp) (Q:DK) (C Dd:Addr) (s':Shared):Prop :=
 ∃ m H' G',Inv X pins σ H' s'/\s'.heap.Ns C m/\FpOk X pins H' C/\Mv X.K H G H' G'/\Q (.ref Dd) G'
inductive PIf (Xc:Cx):List Expr->Option TT2->Prop
 | none:PIf Xc [] none
 | some {c:Expr} {t:TT2}:PT2 Xc c t->PIf Xc [c] (some t)
theorem comp_core {τ:St2} {G G2:Gp} {H2:Hp} {s2:Shared} {tg elt iter:Expr} {ifs:List Expr} {pos:Pos} {m:Nat} {fr:List Nat} {E:XK2} {g:TG2} {c:Option TT2} {te:TE2} {J:It} {tn:Nat->Heap->Prop} {it:Addr} {ds:List D} {ok:Gp->Prop} {Q:DK} {Rr:Value->Addr->Result->Shared->Prop} {E0:Value->Shared->Prop}
  (hc:X.calm=true) (hcell:∀ y∈scope.names,y.2≠.cell) (hkind:scope.kind=.function) (hfree:∀ y∈scope.names,y.2=.free->X.env.kindOf y.1=some .cell) (hN:N.length=m+fr.length)
  (hfr:∀ j i x,fr[j]?=some i->N[m+j]?=some x->X.N[i]?=some x/\X.env.scope.names.lookup x=some .cell/\(relabel scope X.env).names.lookup x=some .cell)
  (hg:∀ C s H fp,PG2 (compCx X N scope C s H fp) tg g) (hi:∀ C s H fp,PIf (compCx X N scope C s H fp) ifs c) (he:∀ C s H fp,PE2 (compCx X N scope C s H fp) elt te)
  (I:I2 X pins σ H2 τ G2 s2) (m2:Mv X.K H G H2 G2) (T:Turn X.prog X.w X.K tg J fp it tn) (st2:tn 0 s2.heap) (f2:∀ b∈fp,FpOk X pins H2 b) (wk:Walk2 X.K J H2 ds ok) (hz:ds.length<=SZ)
  (hE0:∀ ex G,¬ E ex G) (q:compGo g c te ok ds E (compSt m fr τ) G2 [] fun xs G3=>dNew G3 (.lst xs) Q)
  (fin:∀ C s',CompEnd X pins σ H G Q C s2.heap.objs.size s'->Rr (.ref s2.heap.objs.size) C (.ok .next) s') :
  wpAny (model X.prog X.w) X.A (newList []) (fun acc s₃=>wpAny (model X.prog X.w) X.A (newFunctionEnv scope X.env.globals (takenGo X.env scope.names []) [] X.env.qual none .none (some X.env)) (fun cenv s₄ =>
   codeAny (model X.prog X.w) X.A (.compStart (.ListComp elt [⟨tg,iter,ifs,0⟩] scope pos) 0 (.ref it) acc { cenv with scope:=relabel scope X.env }) (Rr acc cenv.locals) s₄) E0 s₃) E0 s2:=by
 have sz:sizeLine=16777216:=sizeLine_eq
 have fresh2:H2 s2.heap.objs.size=none:=I.inv.hok.fresh (Nat.le_refl _)
 have gfree2:G2 s2.heap.objs.size=none:=I.ab.free fresh2
 refine wpAny_newObj_type (wpAny_newFunctionEnv hcell (by intro y hy; simp at hy) (fun h₁ hns₁ hsb₁=>?_) hkind)
 dsimp only at hns₁ hsb₁ ⊢
 have I3:Inv X pins σ (upd H2 s2.heap.objs.size (.lst [])) { s2 with heap:=s2.heap.push { cls:=.type "list",data:=.seq ([]:List Value).toArray },toks:=s2.toks }:=I.inv.lnew (ys:=[]) .nil (Nat.zero_le _)
 generalize hs3:({ s2 with heap:=s2.heap.push { cls:=.type "list",data:=.seq ([]:List Value).toArray },toks:=s2.toks }:Shared)=s3 at I3
 generalize hH3:upd H2 s2.heap.objs.size (.lst [])=H3 at I3
 have eH3:∀ b,b≠s2.heap.objs.size->H3 b=H2 b:=fun b hb=>by rw [← hH3,upd_ne hb]
 have heap3:s3.heap=s2.heap.push { cls:=.type "list",data:=.seq ([]:List Value).toArray }:=by rw [← hs3]
 have size3:s3.heap.objs.size=s2.heap.objs.size+1:=by rw [heap3,Heap.size_push]
 have hfpObj:∀ b∈fp,b < s2.heap.objs.size:=fun b hb=>by
  obtain ⟨o,e,_⟩:=T.obj _ _ st2 b hb
  exact Heap.lt_size e
 have hfp3:∀ b∈fp,FpOk X pins H3 b/\b < s3.heap.objs.size:=fun b hb=>by
  have hb2:=hfpObj b hb
  obtain ⟨f0,f1⟩:=f2 b hb
  exact ⟨⟨by rw [eH3 b (Nat.ne_of_lt hb2)]; exact f0,f1⟩,Nat.lt_of_lt_of_le hb2 (by rw [size3]; exact Nat.le_succ _)⟩
 have okc:(compCx X N scope s3.heap.objs.size s3 H3 fp).Ok:=compOk I3 hcell hkind hfree (Nat.le_refl _) hfp3
 have hkeep:∀ b o,s3.heap.get? b=some o->h₁.get? b=some o:=fun b o e=>by
  have hb:b < s3.heap.objs.size:=Heap.lt_size e
  refine hsb₁.extBut b o ?_ (Heap.get?_push_of_some _ ?_)
  ·rw [← heap3]; exact Nat.ne_of_lt hb
  ·rw [← heap3]; exact e
 have hnsC:∃ mm,h₁.Ns s3.heap.objs.size mm:=⟨_,by rw [heap3]; exact hns₁⟩
 have I4:=compInv (tk:=s3.toks+([]:List (Str×Value)).length) I3 okc hcell hfree hN hfr hnsC hkeep
 have kp23:Kp H2 H3:=by rw [← hH3]; exact .new fresh2
 have ab3:AbH X.K H3 G2:=by rw [← hH3]; exact (Mv.hid I.ab fresh2).ab
 have mv3:Mv X.K H2 G2 H3 G2:=by rw [← hH3]; exact .hid I.ab fresh2
 have st3:AbS X.K H3 (List.replicate m none++fr.map fun i=>(σ[i]?).getD none) (compSt m fr τ):=by
  refine ⟨by unfold compSt; rw [List.length_append,List.length_append,List.length_map,List.length_map,List.length_replicate,List.length_replicate],fun i d h2=>?_⟩
  unfold compSt at h2
  by_cases hi:i < m
  ·rw [List.getElem?_append_left (by simpa using hi),List.getElem?_replicate] at h2
   split at h2 <;> cases h2
  ·obtain ⟨j,rfl⟩:∃ j,i=m+j:=⟨i - m,by lia⟩
   rw [List.getElem?_append_right (by simp),List.length_replicate,Nat.add_sub_cancel_left,List.getElem?_map] at h2
   rw [List.getElem?_append_right (by simp),List.length_replicate,Nat.add_sub_cancel_left,List.getElem?_map]
   cases hj:fr[j]? with
   | none=>rw [hj] at h2; cases h2
   | some k =>
    rw [hj] at h2
    have h2':(τ[k]?).getD none=some d:=by simpa using h2
    have hk':τ[k]?=some (some d):=by
     cases qq:τ[k]? with
     | none=>rw [qq] at h2'; cases h2'
     | some o=>rw [qq] at h2'; simp at h2'; rw [h2']
    obtain ⟨v,e1,e2⟩:=I.st.at' k d hk'
    exact ⟨v,by simp [e1],e2.mono kp23⟩
 have hD3:H3 s2.heap.objs.size=some (.lst []):=by rw [← hH3,upd_same]
 have st2':tn 0 h₁:=T.keep _ _ _ st2 fun b hb o e=>hkeep b o (by rw [heap3]; exact Heap.get?_push_of_some _ e)
 have statc:∀ {Hc:Hp},(∀ b∈fp,Hc b=none)->∀ b∈fp,FpOk (compCx X N scope s3.heap.objs.size s3 H3 fp) [] Hc b:=fun hn b hb =>
  ⟨hn b hb,(okc.exf b hb).1,okc.exfs b hb,.inl hb,fun x c e=>(okc.exf b hb).2 x c e,fun p hp=>absurd hp (by simp)⟩
 have neD:∀ b∈fp,b≠s2.heap.objs.size:=fun b hb=>Nat.ne_of_lt (hfpObj b hb)
 have loop:codeAny (model X.prog X.w) X.A (.compLoop (.ListComp elt [⟨tg,iter,ifs,0⟩] scope pos) 0 (.ref it) (.ref s2.heap.objs.size) (compCx X N scope s3.heap.objs.size s3 H3 fp).env) (Rr (.ref s2.heap.objs.size) s3.heap.objs.size)
   { s3 with heap:=h₁,toks:=s3.toks+([]:List (Str×Value)).length }:=by
  refine compLoop_own (fun n s'=>∃ i σc Hc τc Gc accV accD,I2 (compCx X N scope s3.heap.objs.size s3 H3 fp) [] σc Hc τc Gc s'/\Gc s2.heap.objs.size=none/\Hc s2.heap.objs.size=some (.lst accV)/\RepDs X.K Hc accV accD/\accD.length<=i/\Mv X.K H2 G2 Hc Gc/\tn i s'.heap/\(∀ b∈fp,Hc b=none) /\
   n=ds.length - i/\i<=ds.length/\compGo g c te ok (ds.drop i) E τc Gc accD fun xs G3=>dNew G3 (.lst xs) Q) ?_ ds.length
   ⟨0,_,H3,_,G2,[],[],⟨I4,st3,ab3⟩,gfree2,hD3,.nil,Nat.le_refl _,mv3,st2',fun b hb=>by rw [eH3 b (neD b hb)]; exact (f2 b hb).1,rfl,Nat.zero_le _,q⟩
  rintro n s4 ⟨i,σc,Hc,τc,Gc,accV,accD,Ic,gD,hD,rA,hA,mc,stc,frc,rfl,hle,wq⟩
  have kpc:Kp H2 Hc:=mc.kp I.ab
  by_cases hlt:i < ds.length
  ·rw [List.drop_eq_getElem_cons hlt] at wq
   obtain ⟨okG,wq⟩:=wq
   obtain ⟨go,yl⟩:=(wk i Hc Gc kpc Ic.ab okG).1 ds[i] (by simp [hlt])
   refine thn (T.item (compCx X N scope s3.heap.objs.size s3 H3 fp) rfl rfl rfl hc i [] s4 σc Hc (fun _ _=>False) Ic.inv (statc frc) stc go) ?_
   rintro r s5 ⟨u,hr,h5⟩
   subst hr
   refine thn h5 ?_
   rintro _ s6 ⟨x,H6,I6,r6,y6,st6,fr6⟩
   obtain ⟨rd6,m6⟩:=yl x H6 y6
   have I6':=I6.pinned (statc fr6) (T.obj _ _ st6)
   have J6:I2 (compCx X N scope s3.heap.objs.size s3 H3 fp) ([]++pinsAt fp s6.heap) σc H6 τc Gc s6:=⟨I6',Ic.st.mono (m6.kp Ic.ab),m6.ab⟩
   have back:∀ {σ9:L2.St} {H9:Hp} {τ9:St2} {G9:Gp} {s9:Shared} {aV:List V} {aD:List D},I2 (compCx X N scope s3.heap.objs.size s3 H3 fp) ([]++pinsAt fp s6.heap) σ9 H9 τ9 G9 s9->Mv X.K H2 G2 H9 G9->G9 s2.heap.objs.size=none->H9 s2.heap.objs.size=some (.lst aV)->RepDs X.K H9 aV aD->aD.length<=i+1 ->
     (compGo g c te ok (ds.drop (i+1)) E τ9 G9 aD fun xs G3=>dNew G3 (.lst xs) Q)->∃ mm,mm < ds.length - i/\∃ i σc Hc τc Gc accV accD,I2 (compCx X N scope s3.heap.objs.size s3 H3 fp) [] σc Hc τc Gc s9/\Gc s2.heap.objs.size=none/\Hc s2.heap.objs.size=some (.lst accV)/\RepDs X.K Hc accV accD/\accD.length<=i /\
      Mv X.K H2 G2 Hc Gc/\tn i s9.heap/\(∀ b∈fp,Hc b=none)/\mm=ds.length - i/\i<=ds.length/\compGo g c te ok (ds.drop i) E τc Gc accD fun xs G3=>dNew G3 (.lst xs) Q:=fun {σ9 H9 τ9 G9 s9 aV aD} I9 m9 g9 h9 r9 l9 n9=>by
    refine ⟨ds.length - (i+1),by lia,i+1,σ9,H9,τ9,G9,aV,aD,⟨I9.inv.unpinned,I9.st,I9.ab⟩,g9,h9,r9,l9,m9,T.keep _ _ _ st6 fun b hb o e=>(I9.inv.pin (b,o) (List.mem_append_right _ (List.mem_append_right _ (mem_pinsAt hb e)))).1,fun b hb=>?_,rfl,hlt,n9⟩
    obtain ⟨o,e,d⟩:=T.obj _ _ st6 b hb
    exact (I9.inv.pin (b,o) (List.mem_append_right _ (List.mem_append_right _ (mem_pinsAt hb e)))).2.1
   have mc6:=mc.trans m6
   have hD6:=m6.keep _ _ hD gD
   refine thn (hg _ _ _ _ E _ s6 σc H6 τc Gc x ds[i] u _ (Lk.none hE0) J6 r6 rd6 wq) ?_
   rintro _ s7 ⟨σ7,H7,τ7,G7,I7,m7,q7⟩
   have hD7:=m7.keep _ _ hD6.1 gD
   have mc7:=mc6.trans m7
   have rA7:=rA.mono ((m6.trans m7).kp Ic.ab)
   have elt_:∀ (H8:Hp) (G8:Gp) (s8:Shared),I2 (compCx X N scope s3.heap.objs.size s3 H3 fp) ([]++pinsAt fp s6.heap) σ7 H8 τ7 G8 s8->Mv X.K H7 G7 H8 G8->(te E τ7 G8 fun y G9=>compGo g c te ok (ds.drop (i+1)) E τ7 G9 (accD++[y]) fun xs G3=>dNew G3 (.lst xs) Q) ->
     wpAny (model X.prog X.w) X.A (eval elt (compCx X N scope s3.heap.objs.size s3 H3 fp).env) (fun y s₄=>wpAny (model X.prog X.w) X.A (call (.builtin "list.append") [.ref s2.heap.objs.size,y]) (fun _ s₅=>∃ mm,mm < ds.length - i/\∃ i σc Hc τc Gc accV accD,I2 (compCx X N scope s3.heap.objs.size s3 H3 fp) [] σc Hc τc Gc s₅/\Gc s2.heap.objs.size=none/\Hc s2.heap.objs.size=some (.lst accV)/\RepDs X.K Hc accV accD/\accD.length<=i /\
      Mv X.K H2 G2 Hc Gc/\tn i s₅.heap/\(∀ b∈fp,Hc b=none)/\mm=ds.length - i/\i<=ds.length/\compGo g c te ok (ds.drop i) E τc Gc accD fun xs G3=>dNew G3 (.lst xs) Q) (fun _ _=>False) s₄) (fun _ _=>False) s8:=fun H8 G8 s8 I8 m8 q8=>by
    refine thnE (he _ _ _ _) (Lk.none hE0) I8 q8 fun v H9 d9 G9 u9 s9 I9 m9 r9 rd9 q9=>?_
    have m79:=m8.trans m9
    have hD9:=m79.keep _ _ hD7.1 hD7.2
    have rA9:=rA7.mono (m79.kp I7.ab)
    have mc9:=mc7.trans m79
    refine thn (mt_append (X:=compCx X N scope s3.heap.objs.size s3 H3 fp) _ s9 σ7 H9 (.ref s2.heap.objs.size) [v] _ [u9] (fun _ H'=>H'=upd H9 s2.heap.objs.size (.lst (accV++[v]))) I9.inv rfl (.cons r9 .nil)
     ⟨_,accV,v,rfl,rfl,hD9.1,by rw [rA.length,sz]; have:SZ=16777216:=rfl; lia,rfl⟩) ?_
    rintro _ s10 ⟨v10,H10,I10,_,e10⟩
    subst e10
    have kpA:Kp H9 (upd H9 s2.heap.objs.size (.lst (accV++[v]))):=.putL hD9.1
    have abA:AbH X.K (upd H9 s2.heap.objs.size (.lst (accV++[v]))) G9:=fun a g' e=>by
     have ne:a≠s2.heap.objs.size:=by rintro rfl; rw [hD9.2] at e; cases e
     exact (I9.ab a g' e).mono kpA (upd_ne ne)
    have mA:Mv X.K H2 G2 (upd H9 s2.heap.objs.size (.lst (accV++[v]))) G9:=⟨fun a o e n=>by
      have ne:a≠s2.heap.objs.size:=ne_of_none e fresh2
      obtain ⟨e1,e2⟩:=mc9.keep a o e n
      exact ⟨by rw [upd_ne ne]; exact e1,e2⟩,fun a n=>by
      by_cases ha:a=s2.heap.objs.size
      ·rw [ha,upd_same]; simp
      ·rw [upd_ne ha]; exact mc9.stay a n,abA⟩
    exact back ⟨I10,I9.st.mono kpA,abA⟩ mA hD9.2 upd_same ((rA9.append (.cons rd9 .nil)).mono kpA) (by rw [List.length_append,List.length_singleton]; lia) q9
   cases hi s3.heap.objs.size s3 H3 fp with
   | none =>
    refine wpAny_tests_nil ?_
    rw [if_pos rfl]
    exact elt_ H7 G7 s7 I7 (.refl I7.ab) q7
   | some hcond =>
    refine wpAny_tests_one (thnT hcond (Lk.none hE0) I7 q7 fun k H8 G8 s8 I8 m8 q8=>?_)
    cases k with
    | true =>
     rw [if_pos rfl] at q8 ⊢
     exact elt_ H8 G8 s8 I8 m8 q8
    | false =>
     rw [if_neg Bool.false_ne_true] at q8 ⊢
     have hD8:=m8.keep _ _ hD7.1 hD7.2
     exact back I8 (mc7.trans m8) hD8.2 hD8.1 (rA7.mono (m8.kp I7.ab)) (by lia) q8
  ·have hn:ds.length<=i:=by lia
   rw [List.drop_eq_nil_of_le hn] at wq
   obtain ⟨okG,qn⟩:=wq
   have stop:=(wk i Hc Gc kpc Ic.ab okG).2 hn
   refine thn (T.done (compCx X N scope s3.heap.objs.size s3 H3 fp) rfl rfl rfl hc i [] s4 σc Hc (fun _ _=>False) Ic.inv (statc frc) stc stop) ?_
   rintro r s5 ⟨hr,I5⟩
   subst hr
   refine fin s3.heap.objs.size s5 ?_
   obtain ⟨mm,hns5,_⟩:=I5.loc
   have hC5:Hc s3.heap.objs.size=none:=I5.free
   have I6:Inv X pins σ Hc s5:=by
    obtain ⟨h5,g5,d5,t5,o5⟩:=s5
    have eo:o5=s3.os:=I5.os
    subst eo
    exact I3.call (h':=h5) (g':=g5) (d':=d5) (t':=t5) (ch:=fp) I5.base I5.hok I5.bare fun b hb=>by
     obtain ⟨⟨f0,f1,f2',f3,f4,f5⟩,hl⟩:=hfp3 b hb
     exact ⟨f3,f1,f4,f5⟩
   have mvF:Mv X.K H2 G2 Hc (updG Gc s2.heap.objs.size (.lst accD)):=⟨fun a o e n=>by
     have ne:a≠s2.heap.objs.size:=ne_of_none e fresh2
     obtain ⟨e1,e2⟩:=mc.keep a o e n
     exact ⟨e1,by rw [updG_ne ne]; exact e2⟩,mc.stay,fun a g' e=>by
     by_cases ha:a=s2.heap.objs.size
     ·subst ha
      rw [updG_same] at e
      cases e
      exact ⟨accV,hD,rA⟩
     ·rw [updG_ne ha] at e
      exact Ic.ab a g' e⟩
   exact ⟨mm,Hc,_,I6,hns5,I3.fpOk (Nat.le_refl _) hC5,m2.trans mvF,qn _ gD⟩
 have all:codeAny (model X.prog X.w) X.A (.compStart (.ListComp elt [⟨tg,iter,ifs,0⟩] scope pos) 0 (.ref it) (.ref s2.heap.objs.size) (compCx X N scope s3.heap.objs.size s3 H3 fp).env) (Rr (.ref s2.heap.objs.size) s3.heap.objs.size)
   { s3 with heap:=h₁,toks:=s3.toks+([]:List (Str×Value)).length }:=codeAny_compStart_list loop (T.self _ 0 _ _ _ st2' loop)
 subst hs3
 exact all
end
end K2
end
section
namespace K2
open PySem PySem.Spec PyProof.Rows L2
section
variable {X:Cx} {N:List Str} {scope:Scope} {tg elt iter:Expr} {ifs:List Expr} {pos:Pos} {m:Nat} {fr:List Nat} {wi:TI2} {g:TG2} {c:Option TT2} {te:TE2}
structure CompOk (X:Cx) (N:List Str) (scope:Scope) (m:Nat) (fr:List Nat):Prop where
 cell:∀ y∈scope.names,y.2≠.cell
 kind:scope.kind=.function
 names:∀ y∈scope.names,y.2=.local->scope.names.lookup y.1=some .local
 free:∀ y∈scope.names,y.2=.free->X.env.kindOf y.1=some .cell
 len:N.length=m+fr.length
 at':∀ j i x,fr[j]?=some i->N[m+j]?=some x->X.N[i]?=some x/\X.env.scope.names.lookup x=some .cell/\(relabel scope X.env).names.lookup x=some .cell
theorem CompOk.closed {X:Cx} {N:List Str} {scope:Scope} {m:Nat} {fr:List Nat} (k:CompOk X N scope m fr) {pins:List (Addr×Obj)} {σ:L2.St} {H:Hp} {s:Shared} (I:Inv X pins σ H s):closureFor scope X.env=pure (takenGo X.env scope.names []) :=
 closure_taken fun y hy hf=>I.ok.has _ (.inl (k.free y hy hf))
theorem pe2_compG (hc:X.calm=true) (k:CompOk X N scope m fr) (hi:PI2 X tg iter wi) (hg:∀ C s H fp,PG2 (compCx X N scope C s H fp) tg g) (hif:∀ C s H fp,PIf (compCx X N scope C s H fp) ifs c) (he:∀ C s H fp,PE2 (compCx X N scope C s H fp) elt te)
  (hs:autoParam (∀ x,foldedSetIterable iter X.env x=pure x) Ai._auto_1):PE2 X (.ListComp elt [⟨tg,iter,ifs,0⟩] scope pos) (dComp m fr wi g c te):=by
 intro E pins s σ H τ G Q hE I h
 rw [eval_ListComp]
 refine wpAny_comprehension_free (use:=none) rfl hs (k.closed I.inv) k.kind k.names (thn (hi E pins s σ H τ G _ hE I h) fun xv s₁ h₁=>thn h₁ fun itv s₂ h₂=>?_)
 obtain ⟨it,fp,tn,J,H2,G2,ds,ok,e,I2',m2,T,st2,f2,wk,hz,q⟩:=h₂
 subst e
 refine comp_core (Rr:=fun acc C=>compPost (model X.prog X.w) X.A X.xe none (EP2 X pins σ H G Q) acc C) hc k.cell k.kind k.free k.len k.at' hg hif he (I.mv I2' m2) m2 T st2 f2 wk hz (fun _ _ z=>z) q ?_
 rintro C s' ⟨mm,H',G',I',hns,fpC,mv,q'⟩
 refine ⟨mm,hns,fun h' hs'=>?_⟩
 obtain ⟨f0,f1,_,f3,f4,f5⟩:=fpC
 exact ⟨.ref _,H',.ref _,G',I'.turned (t':=s'.toks) (fun b o hb e=>hs'.extBut b o hb e) f0 f1 f3 f4 f5,mv,rfl,.ref _,q'⟩
theorem ps2_setComp {i:Nat} {y:Str} {py spos:Pos} (hN:X.N.Nodup) (hyi:X.N[i]?=some y) (hy:X.env.scope.names.lookup y=some .local) (hc:X.calm=true) (k:CompOk X N scope m fr) (hi:PI2 X tg iter wi) (hg:∀ C s H fp,PG2 (compCx X N scope C s H fp) tg g)
  (hif:∀ C s H fp,PIf (compCx X N scope C s H fp) ifs c) (he:∀ C s H fp,PE2 (compCx X N scope C s H fp) elt te) (hsw:autoParam (swapsWith (.ListComp elt [⟨tg,iter,ifs,0⟩] scope pos) (some (.Name y py)) spos.line X.env=pure true) Ar._auto_1)
  (hs:autoParam (∀ x,foldedSetIterable iter X.env x=pure x) Ai._auto_1):PS2 X (.Assign [.Name y py] (.ListComp elt [⟨tg,iter,ifs,0⟩] scope pos) spos) (dAsg (dComp m fr wi g c te) (gName i)):=by
 intro E pins s σ H τ G D hE I h
 rw [exec_Assign_Name_used _ _ _ _ hsw]
 refine wpAny_bind (wpAny_standAt (wpAny_bind ?_))
 show wpAny _ X.A (do let _ ← comprehension (.ListComp elt [⟨tg,iter,ifs,0⟩] scope pos) scope X.env _ (newList []) false (eval iter X.env) (some (assign (.Name y py) X.env))) _ _ s
 refine wpAny_bind (thn (wpAny_comprehension_free (use:=some (assign (.Name y py) X.env)) (Q:=fun _ s'=>SP2 X pins H G D .next s') rfl hs (k.closed I.inv) k.kind k.names (thn (hi E pins s σ H τ G _ hE I h) fun xv s₁ h₁=>thn h₁ fun itv s₂ h₂=>?_)) fun _ s' hq=>wpAny_pure (wpAny_pure hq))
 obtain ⟨it,fp,tn,J,H2,G2,ds,ok,e,I2',m2,T,st2,f2,wk,hz,q⟩:=h₂
 subst e
 refine comp_core (Rr:=fun acc C=>compPost (model X.prog X.w) X.A X.xe (some (assign (.Name y py) X.env)) (fun _ s'=>SP2 X pins H G D .next s') acc C) hc k.cell k.kind k.free k.len k.at' hg hif he (I.mv I2' m2) m2 T st2 f2 wk hz (fun _ _ z=>z) q ?_
 rintro C s' ⟨mm,H',G',I',hns,fpC,mv,q'⟩
 show wpAny (model X.prog X.w) X.A (assign (.Name y py) X.env (.ref s₂.heap.objs.size)) _ X.xe s'
 obtain ⟨f0,f1,_,f3,f4,f5⟩:=fpC
 refine wpAny_assign_Name (store_ok2 (v:=.ref s₂.heap.objs.size) I' hN hyi (.inl hy) rfl (?_) (.inr hy))
 rintro s3 I3 ⟨a,hsb,ha⟩
 have hCa:C≠a:=by
  rcases ha with rfl | ha
  ·exact f1
  ·exact fun e=>f4 y a ha e.symm
 refine ⟨mm,hns.sameBut hsb hCa,fun h' hs'=>?_⟩
 exact ⟨_,H',_,G',⟨I3.turned (t':=s3.toks) (fun b o hb e=>hs'.extBut b o hb e) f0 f1 f3 f4 f5,(I.st.mono (mv.kp I.ab)).set i (.ref _),mv.ab⟩,mv,q'⟩
theorem glen_name {i:Nat} {u:TGs2} {n:Nat} (h:∀ E ds τ G Q,u E ds τ G Q->ds.length=n):∀ E ds τ G Q,gCons (gName i) u E ds τ G Q->ds.length=n+1 :=
 glen_cons h (fun _ _ _ _ _ _ q k=>k _ _ q) fun _ _ _ _ q=>q
theorem pv2 (i:Nat) {x:Str} {pos:Pos} (hN:autoParam (X.N[i]?=some x) Ar._auto_1) (hv:autoParam (Vis X.env.scope x) Ao._auto_1) (hd:autoParam ((x == ("__debug__" : Str))=false) Ad._auto_1)
  (hcd:autoParam ((x == ("__classdict__" : Str))=false) Ad._auto_1):PE2 X (.Name x pos) (dVar i):=pe2_var hN hv hd hcd
theorem reps_bools {K:PySem.W.Frag} {H:Hp}:∀ {vs:List V} {bs:List Bool} {its:List Value},RepDs K H vs (bs.map D.bl)->Vals vs its->its=bs.map Value.bool
 | _,[],_,r,h=>by rw [List.map_nil] at r; rw [r.zero] at h; cases h; rfl
 | _,b :: bs,_,r,h=>by
  rw [List.map_cons] at r
  cases r with
  | cons r1 r2 =>
   cases r1
   cases h with
   | cons h1 h2 =>
    cases h1
    rw [reps_bools r2 h2]; rfl
theorem list_items {pins:List (Addr×Obj)} {s:Shared} {σ:L2.St} {H:Hp} {G:Gp} {x:V} {d:D} {v:Value} {zs:List D} (I:Inv X pins σ H s) (ab:AbH X.K H G) (rx:RelV x v) (rd:RepD X.K H x d) (hi:itemsOf d G=some zs) :
  ∃ l vs its,v=.ref l/\Vals vs its/\RepDs X.K H vs zs/\(s.heap.IsList l its.toArray\/s.heap.IsTuple l its.toArray)/\vs.length<=sizeLine:=by
 cases rd with
 | rol hq rs =>
  cases hi
  cases rx
  obtain ⟨its,rv,pl,hz⟩:=I.list hq.sq
  exact ⟨_,_,its,rfl,rv,rs,.inl pl.isList,hz⟩
 | tup hq rs =>
  cases hi
  cases rx
  obtain ⟨its,rv,pl,hz⟩:=I.tuple (.of hq)
  exact ⟨_,_,its,rfl,rv,rs,.inr pl,hz⟩
 | ref l =>
  unfold itemsOf at hi
  dsimp only at hi
  cases hg:G l with
  | none=>rw [hg] at hi; cases hi
  | some gg =>
   rw [hg] at hi
   cases gg with
   | lst ds =>
    cases hi
    cases rx
    obtain ⟨vs,hv,rs⟩:=ab.lst hg
    obtain ⟨its,rv,pl,hz⟩:=I.list (.of hv)
    exact ⟨_,_,its,rfl,rv,rs,.inl pl.isList,hz⟩
   | dic _=>cases hi
 | _=>cases hi
theorem pss_of {body:List Stmt} {t2:TS2} (h:PSs2 X body t2) {E:XK2} (hE:Lk X E):PSs X body (fun D σ H=>∃ (τ:St2) (G:Gp) (D2:Ends2),AbS X.K H σ τ/\AbH X.K H G/\t2 E D2 τ G /\
  (∀ σ' H' τ' G',Mv X.K H G H' G'->D2.nx τ' G'->D.nx σ' H')/\(∀ v H' d G',Mv X.K H G H' G'->RepD X.K H' v d->D2.rt d G'->D.rt v H')/\(∀ τ G,¬ D2.bk τ G)/\(∀ τ G,¬ D2.ct τ G)):=by
 rintro pins s σ H D I ⟨τ,G,D2,st,ab,q,k1,k2,k3,k4⟩
 refine thn (h E pins s σ H τ G D2 hE ⟨I,st,ab⟩ q) fun f s1 z=>?_
 cases f with
 | next=>obtain ⟨σ',H',τ',G',J,mv,z⟩:=z; exact ⟨σ',H',J.inv,k1 σ' H' τ' G' mv z⟩
 | brk=>obtain ⟨σ',H',τ',G',J,mv,z⟩:=z; exact (k3 _ _ z).elim
 | cont=>obtain ⟨σ',H',τ',G',J,mv,z⟩:=z; exact (k4 _ _ z).elim
 | ret u=>obtain ⟨v,σ',H',d,G',J,mv,r,rd,z⟩:=z; exact ⟨v,σ',H',J,r,k2 v H' d G' mv rd z⟩
theorem start_ab {K:PySem.W.Frag} {H:Hp} {Nn:List Str} {vs:List V} {ds:List D} (r:RepDs K H vs ds):AbS K H (L2.start Nn vs) (start2 Nn.length ds):=by
 unfold L2.start start2
 refine ⟨by simp [r.length],fun i d h=>?_⟩
 by_cases hi:i < ds.length
 ·rw [List.getElem?_append_left (by simpa using hi),List.getElem?_map] at h
  cases hd:ds[i]? with
  | none=>rw [hd] at h; cases h
  | some d' =>
   rw [hd] at h
   have e:d'=d:=by simpa using h
   subst e
   obtain ⟨v,h1,h2⟩:=r.get hd
   refine ⟨v,?_,h2⟩
   rw [List.getElem?_append_left (by simpa [r.length] using hi),List.getElem?_map,h1]; rfl
 ·rw [List.getElem?_append_right (by simpa using hi),List.getElem?_replicate] at h
  split at h <;> cases h
theorem fun_ok2 {P:Program} {w:World} {K:PySem.W.Frag} {mg:Str->Option Value} {base:Heap} {x qual:Str} {st:Stmt} {f:Addr} {fd:FuncData} {Nn ps:List Str} {k:Nat} {sp:Sp2} {rd:TS2} (F:Fun K x qual st f fd) (S:FnScope Nn ps (defScope st)) (len:∀ ds G Q E,sp ds G Q E->ds.length=ps.length)
  (hr:∀ ds G Q,sp ds G Q (fun _ _=>False)->rd (fun _ _=>False) (ends Q) (start2 Nn.length ds) G)
  (hb:∀ (cdv:Value) (A:Around) (outer:List Env) (s:Shared) (H:Hp) (E:XK),Room k (A.deeper (envOfC qual (defScope st) s.heap.objs.size f cdv))->PSs2 (cxOf CX0 P w K mg base Nn qual (defScope st) f cdv A outer s H E).nox (defBody st) rd):FnOk P w K mg base CX0 (k+1) f fd ps (spOf K sp):=by
 refine F.ok S ((by rintro vs H Q E ⟨ds,G,Q2,r,ab,q,_⟩; exact by rw [r.length]; exact len _ _ _ _ q)) ?_
 rintro cdv A outer s H vs Q E hroom ⟨ds,G,Q2,r,ab,q,kk⟩
 refine ⟨_,pss_of (hb cdv A outer s H E hroom) (E:=fun _ _=>False) (Lk.none fun _ _ z=>z),?_⟩
 exact ⟨start2 Nn.length ds,G,ends Q2,start_ab r,ab,hr ds G Q2 q,fun σ' H' τ' G' mv z=>kk _ _ _ _ z mv .non,fun v H' d G' mv rdv z=>kk _ _ _ _ z mv rdv,fun _ _ z=>z,fun _ _ z=>z⟩
section
variable {prog:Program} {w:World} {A:Around} {R:Result->Shared->Prop} {It0:Addr} {fq wr:List Addr} {n:Nat} {P:Nat->Value->Prop} {Sx:Nat->Heap->Prop}
theorem min_go (W:Walks prog w A.in1 It0 fq wr n P Sx) (bt:Nat->Nat->Bool) (T:Heap->Prop) (B:Addr) (hB:B∉fq) (hT:∀ h h',T h->(∀ b o,b∉wr->b≠B->h.get? b=some o->h'.get? b=some o)->T h')
  (cmp:∀ i j x y s (Q:Value->Shared->Prop) (E:Value->Shared->Prop),T s.heap->P i x->P j y->Q (.bool (bt i j)) s->wpAny (model prog w) A.in1 (richCompare .Lt x y) Q E s) :
  ∀ (k j:Nat) (s:Shared) (best:Value) (cc:Nat),n - (j+1)=k->j+1<=n->Sx (j+1) s.heap->T s.heap->P (argBest bt j) best ->
  s.heap.get? B=some { cls:=.type "list",dict:=none,data:=.seq #[best,best] cc,slots:=#[] } ->
  (∀ v h' tk,P (argBest bt (n - 1)) v->(∀ b o,b∉wr->b≠B->s.heap.get? b=some o->h'.get? b=some o)->R (.ok (.ret v)) { s with heap:=h',toks:=tk }) ->
  codeAny (model prog w) A (.builtin "min.loop" ⟨[.ref It0,.none,.ref B],[]⟩) R s:=by
 have hBw:B∉wr:=fun z=>hB (W.sub _ z)
 have nm:(toString "min"++toString ".loop" : String) = "min.loop":=by decide
 intro k
 induction k with
 | zero =>
  intro j s best cc hk hj hs ht hp hb hR
  have ej:j+1=n:=by lia
  refine codeAny_builtin F.entry_min_loop ?_; rw [Around.under_plainId F.plain_min_loop _]
  show wpAny _ A.in1 (seqItems? (.ref B) >>= _) _ _ s; refine wpAny_bind (wpAny_seqItems hb rfl ?_)
  show wpAny _ A.in1 (tryCatch (pyNext (.ref It0)) _ >>= _) _ _ s; refine wpAny_bind (wpAny_tryCatch (W.done s _ _ (ej ▸ hs) fun h' tk kept=>?_))
  have hb':=kept B _ hBw hb
  show wpAny _ A.in1 (updateSeq B (fun _=>#[]) >>= _) _ _ _; refine wpAny_bind ?_
  refine wpAny_updateSeq hb' rfl (wpAny_bind (wpAny_letGo (wpAny_pure ?_)))
  exact hR best _ tk (by rw [← ej]; exact hp) fun b o z1 z2 e=>(Heap.get?_update_other _ _ (Ne.symm z2)).trans (kept b o z1 e)
 | succ k ih =>
  intro j s best cc hk hj hs ht hp hb hR
  have lt:j+1 < n:=by lia
  refine codeAny_builtin F.entry_min_loop ?_; rw [Around.under_plainId F.plain_min_loop _]
  show wpAny _ A.in1 (seqItems? (.ref B) >>= _) _ _ s; refine wpAny_bind (wpAny_seqItems hb rfl ?_)
  show wpAny _ A.in1 (tryCatch (pyNext (.ref It0)) _ >>= _) _ _ s; refine wpAny_bind (wpAny_tryCatch (W.item (j+1) s _ _ lt hs fun v h' tk pv st' kept=>?_))
  have hb':=kept B _ hBw hb
  have ht':T h':=hT _ _ ht fun b o z1 _ e=>kept b o z1 e
  show wpAny _ A.in1 (tryCatch (holding [v,v] (richCompare .Lt v best >>= _)) _ >>= _) _ _ _
  refine wpAny_bind (wpAny_tryCatch (wpAny_holding (wpAny_bind (cmp (j+1) (argBest bt j) v best _ _ _ ht' pv hp ?_)))); refine wpAny_bind (wpAny_holding (wpAny_truthy_bool ?_)); refine wpAny_bind (wpAny_letGo (wpAny_pure ?_))
  cases hbt:bt (j+1) (argBest bt j) with
  | true =>
   simp only [if_true]; refine wpAny_bind ?_
   refine wpAny_updateSeq hb' rfl (wpAny_bind (wpAny_letGo ?_)); rw [nm]
   refine wpAny_pure ⟨plainId_quiet F.plain_min_loop _,ih (j+1) _ v _ (by lia) lt (W.frame _ _ _ st' fun b z o e=>?_) (hT _ _ ht' fun b o _ z2 e=>?_) (by simp only [argBest,hbt,if_true]; exact pv) (Heap.get?_update_self _ hb' rfl) fun v' h'' tk'' pv' kk=>?_⟩
   ·exact (Heap.get?_update_other _ _ (fun z':B=b=>hB (by rw [z']; exact z))).trans e
   ·exact (Heap.get?_update_other _ _ (Ne.symm z2)).trans e
   ·exact hR v' h'' tk'' pv' fun b o z1 z2 e=>kk b o z1 z2 ((Heap.get?_update_other _ _ (Ne.symm z2)).trans (kept b o z1 e))
  | false =>
   simp only [Bool.false_eq_true,if_false]; refine wpAny_bind (wpAny_letGo ?_); rw [nm]
   refine wpAny_pure ⟨plainId_quiet F.plain_min_loop _,ih (j+1) _ best cc (by lia) lt st' ht' (by simp only [argBest,hbt,Bool.false_eq_true,if_false]; exact hp) hb' fun v' h'' tk'' pv' kk=>?_⟩
   exact hR v' h'' tk'' pv' fun b o z1 z2 e=>kk b o z1 z2 (kept b o z1 e)
end
theorem min_walk {prog:Program} {w:World} {A:Around} {E:Value->Shared->Prop} {s:Shared} {x:Value} {Q:Value->Shared->Prop}
  (h:wpAny (model prog w) A.in1 (pyIter x) (fun it s₂=>∃ (I:Addr) (fq wr:List Addr) (n:Nat) (P:Nat->Value->Prop) (Sx:Nat->Heap->Prop) (bt:Nat->Nat->Bool) (T:Heap->Prop),it=.ref I/\Walks prog w A.in1 I fq wr n P Sx/\Sx 0 s₂.heap/\(∀ b∈fq,b < s₂.heap.objs.size)/\0 < n/\T s₂.heap/\(∀ (h h':Heap) (B:Addr),s₂.heap.objs.size<=B->T h->(∀ b o,b∉wr->b≠B->h.get? b=some o->h'.get? b=some o)->T h') /\
   (∀ i j x y s (Q:Value->Shared->Prop) (E:Value->Shared->Prop),T s.heap->P i x->P j y->Q (.bool (bt i j)) s->wpAny (model prog w) A.in1 (richCompare .Lt x y) Q E s) /\
   ∀ v h' tk,P (argBest bt (n - 1)) v->(∀ b o,b∉wr->s₂.heap.get? b=some o->h'.get? b=some o)->Q v { s₂ with heap:=h',toks:=tk }) E s) :
  wpAny (model prog w) A (call (.builtin "min") [x]) Q E s:=by
 have nm:(toString "min"++toString ".loop" : String) = "min.loop":=by decide
 refine call_function_tree F.kind_min F.plain_min F.entry_min (F.args_min1 _) ?_
 show wpAny _ A.in1 (Builtin.Builtins.bindParams "min" ["key","default"] 0 ⟨[],[]⟩ >>= _) _ _ s; refine wpAny_bind (wpAny_of_eq (show Builtin.Builtins.bindParams "min" ["key","default"] 0 ⟨[],[]⟩=pure [none,none] from rfl) ?_)
 refine wpAny_bind (wpAny_pure ?_); refine wpAny_bind (wpAny_mono h (fun it s₂ h₂=>?_) fun _ _ e=>e)
 obtain ⟨I,fq,wr,n,P,Sx,bt,T,rfl,W,hst,hfp,hn,ht,hT,cmp,hQ⟩:=h₂
 refine wpAny_bind (wpAny_newObj_type ?_)
 have hSf:s₂.heap.objs.size∉fq:=fun z=>Nat.lt_irrefl _ (hfp _ z)
 have hSw:s₂.heap.objs.size∉wr:=fun z=>hSf (W.sub _ z)
 rw [nm]
 generalize hh:s₂.heap.push { cls:=.type "list",data:=.seq ([]:List Value).toArray } = hp
 have hb:hp.get? s₂.heap.objs.size=some { cls:=.type "list",dict:=none,data:=.seq #[] 0,slots:=#[] }:=by rw [← hh]; exact Heap.get?_push_size _ rfl
 have old:∀ b o,s₂.heap.get? b=some o->hp.get? b=some o:=fun b o e=>by rw [← hh]; exact Heap.get?_push_of_some _ e
 have st0:Sx 0 hp:=W.frame _ _ _ hst fun b _ o e=>old b o e
 have ht0:T hp:=hT _ _ _ (Nat.le_refl _) ht fun b o _ _ e=>old b o e
 refine wpAny_pure ⟨plainId_quiet F.plain_min_loop _,?_⟩
 refine codeAny_builtin F.entry_min_loop ?_; rw [Around.under_plainId F.plain_min_loop _]
 show wpAny _ A.in1 (seqItems? (.ref s₂.heap.objs.size) >>= _) _ _ _; refine wpAny_bind (wpAny_seqItems hb rfl ?_)
 show wpAny _ A.in1 (tryCatch (pyNext (.ref I)) _ >>= _) _ _ _; refine wpAny_bind (wpAny_tryCatch (W.item 0 _ _ _ hn st0 fun v h' tk pv st' kept=>?_))
 have hb':=kept _ _ hSw hb
 show wpAny _ A.in1 (updateSeq s₂.heap.objs.size (fun _=>#[v,v]) >>= _) _ _ _; refine wpAny_bind ?_
 refine wpAny_updateSeq hb' rfl ?_; rw [nm]
 refine wpAny_pure ⟨plainId_quiet F.plain_min_loop _,min_go W bt T _ hSf (fun h h'=>hT h h' _ (Nat.le_refl _)) cmp _ 0 _ v _ rfl hn (W.frame _ _ _ st' fun b z o e=>?_) (hT _ _ _ (Nat.le_refl _) (hT _ _ _ (Nat.le_refl _) ht0 fun b o z1 _ e=>kept b o z1 e) fun b o _ z2 e=>?_) pv (Heap.get?_update_self _ hb' rfl) fun v' h'' tk'' pv' kk=>?_⟩
 ·exact (Heap.get?_update_other _ _ (fun z':s₂.heap.objs.size=b=>hSf (by rw [z']; exact z))).trans e
 ·exact (Heap.get?_update_other _ _ (Ne.symm z2)).trans e
 ·refine hQ v' h'' tk'' pv' fun b o z1 e=>?_
  have nb:b≠s₂.heap.objs.size:=Nat.ne_of_lt (Heap.lt_size e)
  exact kk b o z1 nb ((Heap.get?_update_other _ _ (Ne.symm nb)).trans (kept b o z1 (old b o e)))
theorem argBest_min {α:Type} (lt:α->α->Bool) (l:List α) (a:α) (f:Nat->α) (hf:∀ i,i < l.length+1->f i=(a :: l).getD i a) :
  f (argBest (fun i j=>lt (f i) (f j)) l.length)=l.foldl (fun m x=>if lt x m=true then x else m) a:=by
 have key:∀ k,k<=l.length->f (argBest (fun i j=>lt (f i) (f j)) k)=(l.take k).foldl (fun m x=>if lt x m=true then x else m) a:=by
  intro k
  induction k with
  | zero=>intro _; rw [argBest,hf 0 (by lia)]; rfl
  | succ k ih =>
   intro hk
   have ih':=ih (by lia)
   rw [List.take_succ_eq_append_getElem (by lia),List.foldl_append,← ih']
   have e:f (k+1)=l[k]:=by
    rw [hf (k+1) (by lia),List.getD_eq_getElem?_getD]
    simp [show k < l.length by lia]
   show f (if lt (f (k+1)) (f (argBest _ k))=true then k+1 else argBest _ k)=(if lt l[k] _=true then l[k] else _)
   rw [← e]
   split <;> rfl
 rw [key l.length (Nat.le_refl _),List.take_length]
theorem call2_min (hc : X.calm = true) (hu : X.A.units + 64 < cLine) : CallR2 X (.builtin "min") cMin := by
  intro pins s σ H G xs ds us Q I ab rx rd q
  unfold cMin at q
  split at q
  · rename_i x
    obtain ⟨v, rfl, r⟩ := rd.one
    obtain ⟨u, rfl, ru⟩ := rx.one
    have main : ∀ {α : Type} (zs : List α) (a : α) (enc : α → D) (lt : α → α → Bool) (T : Heap → Prop), itemsOf x G = some ((a :: zs).map enc) → T s.heap → (∀ (h h' : Heap) (B : Addr), s.heap.objs.size ≤ B → T h → (∀ b o, b < s.heap.objs.size → b ≠ B → h.get? b = some o → h'.get? b = some o) → T h') →
        (∀ y z vy vz uy uz (s' : Shared) (Q' : Value → Shared → Prop) (E' : Value → Shared → Prop), T s'.heap → RepD X.K H vy (enc y) → RelV vy uy → RepD X.K H vz (enc z) → RelV vz uz → Q' (.bool (lt y z)) s' → wpAny (model X.prog X.w) X.A.in1 (richCompare .Lt uy uz) Q' E' s') →
        Q (enc (zs.foldl (fun m x => if lt x m = true then x else m) a)) G → wpAny (model X.prog X.w) X.A (call (.builtin "min") [u]) (EP2 X pins σ H G Q) X.xe s := by
      intro α zs a enc lt T hi ht hT cmp hq
      obtain ⟨l, vs, its, rfl, rv, rs, hl, hz⟩ := list_items I ab ru r hi
      have hlen : its.length = zs.length + 1 := by rw [← rv.length, rs.length, List.length_map, List.length_cons]
      have hne : ∀ {o : Obj}, s.heap.get? l = some o → l ≠ s.heap.objs.size := fun e => Nat.ne_of_lt (Heap.lt_size e)
      have at_ : ∀ i uu, its.toArray[i]? = some uu → ∃ vv, RelV vv uu ∧ RepD X.K H vv (enc ((a :: zs).getD i a)) := fun i uu e => by
        have e' : its[i]? = some uu := by simpa using e
        have hi' : i < its.length := (List.getElem?_eq_some_iff.mp e').1
        have hd : ((a :: zs).map enc)[i]? = some (enc ((a :: zs).getD i a)) := by
          rw [List.getElem?_map, List.getD_eq_getElem?_getD]
          cases h9 : (a :: zs)[i]? with
          | none => rw [List.getElem?_eq_none_iff] at h9; simp at h9; lia
          | some z => rfl
        obtain ⟨vv, h1, h2⟩ := rs.get hd
        obtain ⟨uu', h3, h4⟩ := rv.get h1
        rw [e'] at h3
        cases h3
        exact ⟨vv, h4, h2⟩
      have cmp' : ∀ i j p9 q9 s' (Q' : Value → Shared → Prop) (E' : Value → Shared → Prop), T s'.heap → its.toArray[i]? = some p9 → its.toArray[j]? = some q9 → Q' (.bool (lt ((a :: zs).getD i a) ((a :: zs).getD j a))) s' → wpAny (model X.prog X.w) X.A.in1 (richCompare .Lt p9 q9) Q' E' s' := fun i j p9 q9 s' Q' E' t' h1 h2 h3 => by
        obtain ⟨v1, r1, d1⟩ := at_ i p9 h1
        obtain ⟨v2, r2, d2⟩ := at_ j q9 h2
        exact cmp _ _ v1 v2 p9 q9 s' Q' E' t' d1 r1 d2 r2 h3
      have fin : ∀ vv h' tk, its.toArray[argBest (fun i j => lt ((a :: zs).getD i a) ((a :: zs).getD j a)) (its.toArray.size - 1)]? = some vv → (∀ b o, b ∉ [s.heap.objs.size] → s.heap.get? b = some o → h'.get? b = some o) → EP2 X pins σ H G Q vv { s with heap := h', toks := tk } := fun vv h' tk e hk => by
        obtain ⟨v1, r1, d1⟩ := at_ _ vv e
        have es : its.toArray.size - 1 = zs.length := by rw [List.size_toArray]; lia
        rw [es, argBest_min lt zs a (fun i => (a :: zs).getD i a) (fun i _ => rfl)] at d1
        exact ⟨v1, H, _, G, I.kept fun b o e => hk b o (by simpa using Nat.ne_of_lt (Heap.lt_size e)) e, .refl ab, r1, d1, hq⟩
      have hpos : 0 < its.toArray.size := by rw [List.size_toArray]; lia
      have hTp : ∀ (oo : Obj), T (s.heap.push oo) := fun oo => hT _ _ (s.heap.objs.size + 1) (Nat.le_succ _) ht fun b o hb _ e => Heap.get?_push_of_some _ e
      have hT2 : ∀ (oo : Obj) (h h' : Heap) (B : Addr), (s.heap.push oo).objs.size ≤ B → T h → (∀ b o, b ∉ [s.heap.objs.size] → b ≠ B → h.get? b = some o → h'.get? b = some o) → T h' := fun oo h h' B hB t kk => hT h h' B (by rw [Heap.size_push] at hB; exact Nat.le_of_succ_le hB) t fun b o hb hn e => kk b o (by simpa using Nat.ne_of_lt hb) hn e
      rcases hl with hl | hl
      · refine min_walk (wpAny_pyIter_list hl ?_)
        obtain ⟨o, ho, hcl, n, hd⟩ := id hl
        exact ⟨s.heap.objs.size, _, _, _, _, _, _, T, rfl, Walks.list (A := X.A.in1) (show X.A.in1.handled = none from I.ok.hd hc) _ l (hne ho) its.toArray, ⟨⟨_, Heap.get?_push_size _ rfl, rfl, rfl⟩, ⟨o, Heap.get?_push_of_some _ ho, hcl, n, hd⟩⟩,
          fun b hb => by rcases (by simpa using hb : b = s.heap.objs.size ∨ b = l) with rfl | rfl
                         · rw [Heap.size_push]; exact Nat.lt_succ_self _
                         · rw [Heap.size_push]; exact Nat.lt_succ_of_lt (Heap.lt_size ho), hpos, hTp _, hT2 _, cmp', fun vv h' tk e hk => fin vv h' tk e fun b o hb e => hk b o hb (Heap.get?_push_of_some _ e)⟩
      · refine min_walk (wpAny_pyIter_tuple hl ?_)
        obtain ⟨o, ho, hcl, n, hd⟩ := id hl
        exact ⟨s.heap.objs.size, _, _, _, _, _, _, T, rfl, Walks.tuple (A := X.A.in1) (show X.A.in1.handled = none from I.ok.hd hc) _ l (hne ho) its.toArray, ⟨⟨_, Heap.get?_push_size _ rfl, rfl, rfl⟩, ⟨o, Heap.get?_push_of_some _ ho, hcl, n, hd⟩⟩,
          fun b hb => by rcases (by simpa using hb : b = s.heap.objs.size ∨ b = l) with rfl | rfl
                         · rw [Heap.size_push]; exact Nat.lt_succ_self _
                         · rw [Heap.size_push]; exact Nat.lt_succ_of_lt (Heap.lt_size ho), hpos, hTp _, hT2 _, cmp', fun vv h' tk e hk => fin vv h' tk e fun b o hb e => hk b o hb (Heap.get?_push_of_some _ e)⟩
    rcases q with ⟨ns, mm, hi, hm, q⟩ | ⟨nss, mm, hi, hm, q⟩
    · cases ns with
      | nil => cases hm
      | cons a zs =>
        cases hm
        have e : (fun m x : Int => if x < m then x else m) = fun m x => if decide (x < m) = true then x else m := by funext m x; simp
        rw [e] at q
        refine main zs a D.int (fun x y => decide (x < y)) (fun _ => True) hi trivial (fun _ _ _ _ _ _ => trivial) (fun y z vy vz uy uz s' Q' E' _ d1 r1 d2 r2 hq => ?_) q
        cases d1
        cases d2
        obtain ⟨t1, rfl⟩ := r1
        obtain ⟨t2, rfl⟩ := r2
        exact HT.rcLt_int X.A.in1 s' y t1 z t2 X.prog X.w E' Q' hq
    · cases nss with
      | nil => cases hm
      | cons a zs =>
        cases hm
        have el : ∀ xs ys : List Int, HT.lexLt xs ys = K2.lexLt xs ys := by
          intro xs
          induction xs with
          | nil => intro ys; cases ys <;> rfl
          | cons x xs ih => intro ys; cases ys with
            | nil => rfl
            | cons y ys => unfold HT.lexLt K2.lexLt; rw [ih]
        refine main zs a tI K2.lexLt (fun h => ∀ b o, b < s.heap.objs.size → s.heap.get? b = some o → h.get? b = some o) hi (fun b o _ e => e) (fun h h' B hB t kk b o hb e => kk b o hb (Nat.ne_of_lt (Nat.lt_of_lt_of_le hb hB)) (t b o hb e)) (fun y z vy vz uy uz s' Q' E' t' d1 r1 d2 r2 hq => ?_) q
        cases d1 with
        | tup h1 rs1 =>
          cases d2 with
          | tup h2 rs2 =>
            cases r1
            cases r2
            have z1 := rs1.ints
            have z2 := rs2.ints
            subst z1 z2
            obtain ⟨its1, rv1, ⟨o1, ho1, hc1, n1, hd1⟩, _⟩ := I.tuple (.of h1)
            obtain ⟨its2, rv2, ⟨o2, ho2, hc2, n2, hd2⟩, _⟩ := I.tuple (.of h2)
            have p1 : IsTup s'.heap _ its1.toArray := ⟨o1, t' _ _ (Heap.lt_size ho1) ho1, hc1, n1, hd1⟩
            have p2 : IsTup s'.heap _ its2.toArray := ⟨o2, t' _ _ (Heap.lt_size ho2) ho2, hc2, n2, hd2⟩
            rw [← el] at hq
            have i1 : IntsAre its1.toArray.toList y := intsAre_of rv1
            have i2 : IntsAre its2.toArray.toList z := intsAre_of rv2
            exact (HT.lt_tupInts p1 p2 i1 i2 (show X.A.units + 1 < cLine by lia) hq : wpAny (model X.prog X.w) X.A.in1 (compareOp .Lt _ _) Q' E' s')
  · exact q.elim
noncomputable def relS (scope sc:Scope):List (Str×NameKind):=scope.names.map fun (n,k)=>if (k == .free&&sc.kind == .function&&sc.names.lookup n == some .cell) then (n,.cell) else (n,k)
noncomputable def compChk (N:List Str) (scope:Scope) (m:Nat) (fr:List Nat) (sc:Scope) (XN:List Str):Bool :=
 scope.names.all (fun y=>decide (y.2≠.cell))&&decide (scope.kind=.function)&&scope.names.all (fun y=>!decide (y.2=.local)||decide (scope.names.lookup y.1=some .local)) &&
 scope.names.all (fun y=>!decide (y.2=.free)||decide (sc.names.lookup y.1=some .cell))&&decide (N.length=m+fr.length) &&
 (List.range fr.length).all (fun j=>match fr[j]?,N[m+j]? with
  | some i,some x=>decide (XN[i]?=some x)&&decide (sc.names.lookup x=some .cell)&&decide ((relS scope sc).lookup x=some .cell)
  | _,_=>false)
theorem compOk_of {sc:Scope} {XN:List Str} (hsc:X.env.scope=sc) (hXN:X.N=XN) (hb:compChk N scope m fr sc XN=true):CompOk X N scope m fr:=by
 subst hsc hXN
 unfold compChk at hb
 simp only [Bool.and_eq_true] at hb
 obtain ⟨⟨⟨⟨⟨h1,h2⟩,h3⟩,h4⟩,h5⟩,h6⟩:=hb
 refine ⟨fun y hy=>of_decide_eq_true (List.all_eq_true.mp h1 y hy),of_decide_eq_true h2,fun y hy hl=>?_,fun y hy hl=>?_,of_decide_eq_true h5,fun j i x e1 e2=>?_⟩
 ·have:=List.all_eq_true.mp h3 y hy
  simp only [hl,decide_true,Bool.not_true,Bool.false_or] at this
  exact of_decide_eq_true this
 ·have:=List.all_eq_true.mp h4 y hy
  simp only [hl,decide_true,Bool.not_true,Bool.false_or] at this
  exact of_decide_eq_true this
 ·have hj:j < fr.length:=(List.getElem?_eq_some_iff.mp e1).1
  have:=List.all_eq_true.mp h6 j (List.mem_range.mpr hj)
  rw [e1,e2] at this
  simp only [Bool.and_eq_true] at this
  exact ⟨of_decide_eq_true this.1.1,of_decide_eq_true this.1.2,of_decide_eq_true this.2⟩
theorem pe2_comp (N:List Str) {sc:Scope} {XN:List Str} (hi:PI2 X tg iter wi) (hg:∀ C s H fp,PG2 (compCx X N scope C s H fp) tg g) (hif:∀ C s H fp,PIf (compCx X N scope C s H fp) ifs c) (he:∀ C s H fp,PE2 (compCx X N scope C s H fp) elt te)
  (hsc:autoParam (X.env.scope=sc) Ar._auto_1) (hXN:autoParam (X.N=XN) Ar._auto_1) (hb:autoParam (compChk N scope m fr sc XN=true) Ak._auto_1) (hc:autoParam (X.calm=true) Ar._auto_1) (hs:autoParam (∀ x,foldedSetIterable iter X.env x=pure x) Ai._auto_1):PE2 X (.ListComp elt [⟨tg,iter,ifs,0⟩] scope pos) (dComp m fr wi g c te) :=
 pe2_compG hc (compOk_of hsc hXN hb) hi hg hif he hs
theorem ps2_setC (N:List Str) {sc:Scope} {XN:List Str} {i:Nat} {y:Str} {py spos:Pos} (hN:X.N.Nodup) (hyi:X.N[i]?=some y) (hy:X.env.scope.names.lookup y=some .local) (hi:PI2 X tg iter wi) (hg:∀ C s H fp,PG2 (compCx X N scope C s H fp) tg g)
  (hif:∀ C s H fp,PIf (compCx X N scope C s H fp) ifs c) (he:∀ C s H fp,PE2 (compCx X N scope C s H fp) elt te) (hsc:autoParam (X.env.scope=sc) Ar._auto_1) (hXN:autoParam (X.N=XN) Ar._auto_1) (hb:autoParam (compChk N scope m fr sc XN=true) Ak._auto_1) (hc:autoParam (X.calm=true) Ar._auto_1)
  (hsw:autoParam (swapsWith (.ListComp elt [⟨tg,iter,ifs,0⟩] scope pos) (some (.Name y py)) spos.line X.env=pure true) Ar._auto_1) (hs:autoParam (∀ x,foldedSetIterable iter X.env x=pure x) Ai._auto_1) :
  PS2 X (.Assign [.Name y py] (.ListComp elt [⟨tg,iter,ifs,0⟩] scope pos) spos) (dAsg (dComp m fr wi g c te) (gName i)) :=
 ps2_setComp hN hyi hy hc (compOk_of hsc hXN hb) hi hg hif he hsw hs
theorem law_start {K:PySem.W.Frag} {H:Hp} {a:Addr} {ns:List Int} (hO:Only H) (hS:SqL K H a (ns.map V.int)) (hl:ns.length<=63):spOf K spLaw [.ref a] H (fun v _=>v=.bl true) fun _ _ _=>False:=by
 have hF:SqF K H a (ns.map V.int):=by
  rcases hS with (h | ⟨o,h⟩) | h
  ·rcases hO a with z | ⟨o,xs,z⟩
   ·rw [z] at h; cases h
   ·rw [z] at h; cases h
  ·exact .inl ⟨o,h⟩
  ·exact .inr h
 refine ⟨[.rol (ns.map D.int)],fun _=>none,fun d _=>d=.bl true,.cons (.rol hF (RepDs.of_ints ns)) .nil,fun a g e=>(by cases e),⟨ns,rfl,hl,fun _=>rfl,fun _=>rfl⟩,fun d G' v H' e mv r=>?_⟩
 subst e
 cases r
 rfl
theorem law_walk {l:PySem.W.OpenLaw} {q:Program} {loose:List Str} {XP:(Str->Option Value)->Heap->Prop} {YP:World->Heap->Prop} {d:DefRec} {K:Params->PySem.W.Frag} {k:Nat} {x:Str} (hn:l.most=some 63) (hdf:d.params.defaults=[]) (hr:Room k callerA)
  (hY:∀ (w:World) (h:Heap),YP w h->(K w.params).In h)
  (F:∀ (w:World) (mg:Str->Option Value) (fa:Addr) (h:Heap),(K w.params).In h->h.Ns mainGlobals mg->mg d.name=some (.ref fa) ->
   ∃ fd:FuncData,(∀ (s:Shared) (u:Value),BindsTo s fd ⟨[u],[]⟩ [(x,u)])/\∀ base:Heap,(K w.params).In base->base.Ns mainGlobals mg->FnOk l.prog w (K w.params) mg base CX0 k fa fd [x] (spOf (K w.params) spLaw)) :
  PySem.W.WalkO q loose XP YP l.row.toRowW d [] (fun f vs=>PySem.call f vs) :=
 L2.walk_of (n:=63) (k:=k) (x:=x) (CX:=fun _=>CX0) (sp:=fun w=>spOf (K w.params) spLaw) hn (by decide) hdf hr hY F (fun _ _ _ _ hl hO hS=>law_start hO hS hl) fun _ _ _ _ _ z=>z
end
end K2
end
section
namespace K2
open PySem PySem.Spec PyProof.Rows L2
noncomputable def canF:HO->Bool
 | .lst _=>true
 | .dK _=>true
 | .dT _=>true
 | _=>false
noncomputable def frzH (h:Heap) (S:Addr->Bool) (H:Hp):Hp:=fun a=>match H a with
 | some u=>if (canF u&&S a)=true then (match h.get? a with
  | some o=>some (.frz o u)
  | none=>some u) else some u
 | none=>none
section
variable {h:Heap} {S:Addr->Bool} {H:Hp} {a:Addr}
theorem frzH_other (n:∀ u,H a=some u->canF u=false):frzH h S H a=H a:=by
 unfold frzH
 cases e:H a with
 | none=>rfl
 | some u=>simp only [n u e,Bool.false_and,Bool.false_eq_true,if_false]
theorem frzH_out (hs:S a=false):frzH h S H a=H a:=by
 unfold frzH
 cases e:H a with
 | none=>rfl
 | some u=>simp only [hs,Bool.and_false,Bool.false_eq_true,if_false]
theorem frzH_in {u:HO} {o:Obj} (hs:S a=true) (e:H a=some u) (hu:canF u=true) (ho:h.get? a=some o):frzH h S H a=some (.frz o u):=by
 unfold frzH
 simp only [e,hs,hu,Bool.and_self,if_true,ho]
theorem frzH_none (e:H a=none):frzH h S H a=none:=by unfold frzH; rw [e]
theorem frzH_at {u:HO} (e:H a=some u) (hu:canF u=false):frzH h S H a=some u:=by rw [frzH_other (fun v z=>by rw [e] at z; cases z; exact hu)]; exact e
theorem frzH_kp:Kp H (frzH h S H):=⟨fun a xs e=>frzH_at e rfl,fun a o u e=>frzH_at e rfl⟩
end
section
variable {X:Cx} {pins:List (Addr×Obj)} {σ:L2.St} {H:Hp} {s:Shared} {G:Gp}
theorem Inv.freeze (I : Inv X pins σ H s) (S : Addr → Bool) : Inv X pins σ (frzH s.heap S H) s where
  ok := I.ok
  os := I.os
  bare := I.bare
  base := { keep := I.base.keep, slot := I.base.slot, there := I.base.there
            free := fun b o q n hx => frzH_none (I.base.free b o q n hx)
            tups := fun b xs q => frzH_at (I.base.tups b xs q) rfl
            frzs := fun b o u q => frzH_at (I.base.frzs b o u q) rfl
            tbls := fun b ps q => by
              obtain ⟨more, e⟩ := I.base.tbls b ps q
              exact ⟨more, frzH_at e rfl⟩ }
  loc := I.loc
  cell := I.cell
  free := frzH_none I.free
  freeC := fun x c e => frzH_none (I.freeC x c e)
  pin := fun p hp => let ⟨h1, h2, h3⟩ := I.pin p hp; ⟨h1, frzH_none h2, h3⟩
  hok := fun a o q => by
    have st : ∀ u, H a = some u → ObjOk X.prog X.w (frzH s.heap S H) s.heap a u := fun u e =>
      (I.hok a u e).stay (fun b v _ r => r) (fun b r => frzH_at r rfl) (fun b xs r => frzH_at r rfl)
    cases e : H a with
    | none => rw [frzH_none e] at q; cases q
    | some u =>
      by_cases hc : canF u = true
      · by_cases hs : S a = true
        · obtain ⟨ob, ho⟩ := obj_there (I.hok a _ e)
          rw [frzH_in hs e hc ho] at q
          cases q
          exact ⟨ho, st _ e⟩
        · rw [frzH_out (by simpa using hs), e] at q
          cases q
          exact st _ e
      · rw [frzH_at e (by simpa using hc)] at q
        cases q
        exact st _ e
  len := I.len
noncomputable def seenR (R:Nat->Bool) (G:Gp):Addr->Bool:=fun a=>R a&&(G a).isSome
theorem freeze_mv (I:Inv X pins σ H s) (ab:AbH X.K H G) (R:Nat->Bool):Mv X.K H G (frzH s.heap (seenR R G) H) (delG R G) where
 keep:=fun a o e n=>by
  refine ⟨by rw [frzH_out (by simp [seenR,n])]; exact e,?_⟩
  unfold delG; split
  ·rfl
  ·exact n
 stay:=fun a n=>by
  cases q:G a with
  | none=>exact absurd q n
  | some g =>
   have t:=(ab a g q).tracked
   cases e:H a with
   | none=>exact absurd e t
   | some u =>
    unfold frzH
    rw [e]
    dsimp only
    split
    ·split <;> simp
    ·simp
 ab:=fun a g e=>by
  unfold delG at e
  split at e
  ·cases e
  ·rename_i hr
   exact (ab a g e).mono frzH_kp (frzH_out (by simp [seenR,hr]))
theorem fz_rep (I:Inv X pins σ H s) (ab:AbH X.K H G) {R:Nat->Bool}:∀ {d t:D} {v:V},Fz G R d t->RepD X.K H v d->RepD X.K (frzH s.heap (seenR R G) H) v t:=by
 intro d t v h
 revert v
 refine Fz.rec (motive_1:=fun d t _=>∀ {v:V},RepD X.K H v d->RepD X.K (frzH s.heap (seenR R G) H) v t)
  (motive_2:=fun ds ts _=>∀ {vs:List V},RepDs X.K H vs ds->RepDs X.K (frzH s.heap (seenR R G) H) vs ts)
  (motive_3:=fun ds ts _=>(∀ {vs:List (Key×V)},DKs X.K H vs ds->DKs X.K (frzH s.heap (seenR R G) H) vs ts)/\∀ {vs:List (List Key×V)},DTs X.K H vs ds->DTs X.K (frzH s.heap (seenR R G) H) vs ts)
  ?_ ?_ ?_ ?_ ?_ ?_ ?_ ?_ ?_ h
 ·intro d v r; exact r.mono frzH_kp
 ·intro ds ss _ ih v r
  cases r with
  | tup h rs=>exact .tup (frzH_kp.tup _ _ h) (ih rs)
 ·intro ds ss _ ih v r
  cases r with
  | rol h rs=>exact .rol (frzH_kp.sqF h) (ih rs)
 ·intro a ds ss g hr _ ih v r
  cases r
  obtain ⟨vs,hv,rs⟩:=ab a _ g
  obtain ⟨ob,ho⟩:=obj_there (I.hok a _ hv)
  exact .rol (.inl ⟨_,frzH_in (by simp [seenR,hr,g]) hv rfl ho⟩) (ih rs)
 ·intro a ds ss g hr _ ih v r
  cases r
  rcases ab a _ g with ⟨kv,hv,rs⟩ | ⟨kv,hv,rs⟩
  ·obtain ⟨ob,ho⟩:=obj_there (I.hok a _ hv)
   exact .rodK (frzH_in (by simp [seenR,hr,g]) hv rfl ho) (ih.1 rs)
  ·obtain ⟨ob,ho⟩:=obj_there (I.hok a _ hv)
   exact .rodT (frzH_in (by simp [seenR,hr,g]) hv rfl ho) (ih.2 rs)
 ·intro vs r; cases r; exact .nil
 ·intro d s ds ss _ _ i1 i2 vs r
  cases r with
  | cons r rs=>exact .cons (i1 r) (i2 rs)
 ·exact ⟨fun r=>by cases r; exact .nil,fun r=>by cases r; exact .nil⟩
 ·intro k d s ds ss _ _ i1 i2
  exact ⟨fun r=>by cases r with | cons r rs=>exact .cons (i1 r) (i2.1 rs),fun r=>by cases r with | cons r rs=>exact .cons (i1 r) (i2.2 rs)⟩
variable {e:Expr} {te:TE2} {st:Stmt} {t:TS2}
theorem pe2_fz (he:PE2 X e te):PE2 X e (dFz te):=by
 intro E pins s σ H τ G Q hE I h
 refine thn (he E pins s σ H τ G _ hE I h) ?_
 rintro u s1 ⟨v,H1,d,G1,I1,m,r,rd,R,t,hf,q⟩
 exact ⟨v,_,t,_,Inv.freeze I1 _,m.trans (freeze_mv I1 m.ab R),r,fz_rep I1 m.ab hf rd,q⟩
theorem ps2_fzv {i:Nat} (h1:PS2 X st t):PS2 X st (dFzV i t):=by
 intro E pins s σ H τ G D hE I h
 refine thn (h1 E pins s σ H τ G _ hE I h) fun f s1 z=>?_
 cases f with
 | next =>
  obtain ⟨σ',H',τ',G',I',m,q⟩:=z
  simp only at q
  split at q
  ·rename_i d hd
   obtain ⟨R,t,hf,q⟩:=q
   obtain ⟨v,hv,rv⟩:=I'.st.at' i d hd
   have a1:=(I'.st.mono (H':=frzH s1.heap (seenR R G') H') frzH_kp).set i (fz_rep I'.inv I'.ab hf rv)
   have es:σ'.set i (some v)=σ':=by
    have hi:i < σ'.length:=(List.getElem?_eq_some_iff.mp hv).1
    have e2:=(List.getElem?_eq_some_iff.mp hv).2
    rw [← e2]; exact List.set_getElem_self hi
   rw [es] at a1
   have m2:=freeze_mv I'.inv I'.ab R
   exact ⟨σ',_,_,_,⟨Inv.freeze I'.inv _,a1,m2.ab⟩,m.trans m2,q⟩
  ·exact q.elim
 | ret v=>exact z
 | brk=>exact z
 | cont=>exact z
end
end K2
end
section
namespace K2
open PySem PySem.Spec PyProof.Rows L2
theorem bt_len:bootBuiltins "len" = some (.builtin "len"):=by decide +kernel
theorem bt_min:bootBuiltins "min" = some (.builtin "min"):=by decide +kernel
theorem bt_any:bootBuiltins "any" = some (.builtin "any"):=by decide +kernel
theorem bt_sorted:bootBuiltins "sorted" = some (.builtin "sorted"):=by decide +kernel
theorem bt_list:bootBuiltins "list" = some (.type "list"):=by decide +kernel
theorem bt_int:bootBuiltins "int" = some (.type "int"):=by decide +kernel
theorem bt_bool:bootBuiltins "bool" = some (.type "bool"):=by decide +kernel
section
variable {X:Cx} {a b c e o:Expr} {es:List Expr} {ta tb tc te to:TE2} {t:TA2} {pos p p2 apos cpos:Pos} {x name:Str} {id T:String} {k:Nat} {f:Addr} {fd:FuncData} {ps:List Str} {sp:Sp2}
theorem pe2_callS (F:FnOk X.prog X.w X.K X.mg X.base CX0 k f fd ps (spOf X.K sp)) (hr:Room k X.A) (hg:Gl X x) (hm:X.mg x=some (.ref f)) (hk:PySem.W.keepIn X.K (.ref f)=true) (hb:Binds X.K fd ps [])
  (ha:PA2 X (e :: es) t) (hdb:autoParam ((x == ("__debug__" : Str))=false) Ad._auto_1) (he:autoParam (starEach (e :: es) X.env=(false,eval e X.env) :: starEach es X.env) Ar._auto_1) (hpl:autoParam ((backTo pos (starEach es X.env)).any (·.1)=false) Ar._auto_1) :
  PE2 X (.Call (.Name x p) (e :: es) [] pos) (dCall sp t):=pe2_call F hr hg hm hk hb ha hdb he hpl
end
end K2
end
section
namespace L2
open PySem PySem.Spec PyProof.Rows
section
variable {X:Cx} {pins:List (Addr×Obj)} {σ:St} {H:Hp} {s:Shared} {h':Heap}
theorem Inv.turnedL {t':Nat} {fp:List Addr} (I:Inv X pins σ H s) (hf:∀ b∈fp,FpOk X pins H b) (k:∀ b o,b∉fp->s.heap.get? b=some o->h'.get? b=some o):Inv X pins σ H { s with heap:=h',toks:=t' }:=by
 have nt:∀ b u,H b=some u->b∉fp:=fun b u e z=>by rw [(hf b z).1] at e; cases e
 refine I.step (g':=s.gens) (d':=s.drawn) (ch:=fp) (fun b hb=>?_) (fun b o _ _ hc e _=>k b o hc e) (fun b o _ _ hc e _=>⟨o.slots,k b o hc e⟩) (fun _ _ _ _ n=>n)
  (fun b o hc e=>⟨o,k b o hc e⟩) (fun _ _ e=>e) (fun _ _ _ e=>e) (fun b ps e=>⟨#[],by rw [e]; simp⟩) (fun m hm=>?_) (fun b u e=>?_) I.bare
 ·obtain ⟨f0,f1,f2,f3,f4,f5⟩:=hf b hb
  exact ⟨f3,f1,f4,f5⟩
 ·obtain ⟨o,es,ep,ho,r⟩:=hm
  exact ⟨o,es,ep,k _ _ (fun z=>(hf _ z).2.1 rfl) ho,r⟩
 ·refine (I.hok b u e).stay (fun c v hc r=>k c v ?_ r) (fun _ z=>z) (fun _ _ z=>z)
  rcases hc with rfl | hc
  ·exact nt _ _ e
  ·exact nt _ _ hc
theorem Inv.turnedT {t':Nat} {fp:List Addr} {T:Addr} {vs:List V} (I:Inv X pins σ H s) (hf:∀ b∈fp,FpOk X pins H b) (k:∀ b o,b∉fp->s.heap.get? b=some o->h'.get? b=some o) (hT:s.heap.objs.size<=T)
  (new:ObjOk X.prog X.w (upd H T (.tup vs)) h' T (.tup vs)):Inv X pins σ (upd H T (.tup vs)) { s with heap:=h',toks:=t' }:=by
 have hn:H T=none:=I.hok.fresh hT
 have ht:∀ b o,s.heap.get? b=some o->b≠T:=fun b o e z=>by subst z; exact absurd (Heap.lt_size e) (Nat.not_lt.mpr hT)
 have nt:∀ b u,H b=some u->b∉fp:=fun b u e z=>by rw [(hf b z).1] at e; cases e
 have ne:∀ b u,H b=some u->b≠T:=fun b u e=>ne_of_none e hn
 refine I.step (g':=s.gens) (d':=s.drawn) (ch:=fp) (fun b hb=>?_) (fun b o _ _ hc e _=>k b o hc e) (fun b o _ _ hc e _=>⟨o.slots,k b o hc e⟩) (fun b o _ e n=>by rw [upd_ne (ht b o e)]; exact n)
  (fun b o hc e=>⟨o,k b o hc e⟩) (fun b xs e=>by rw [upd_ne (ne _ _ e)]; exact e) (fun b o u e=>by rw [upd_ne (ne _ _ e)]; exact e) (fun b ps e=>⟨#[],by rw [upd_ne (ne _ _ e),e]; simp⟩) (fun m hm=>?_) (fun b u e=>?_) I.bare
 ·obtain ⟨f0,f1,f2,f3,f4,f5⟩:=hf b hb
  exact ⟨f3,f1,f4,f5⟩
 ·obtain ⟨o,es,ep,ho,r⟩:=hm
  exact ⟨o,es,ep,k _ _ (fun z=>(hf _ z).2.1 rfl) ho,r⟩
 ·by_cases hb:b=T
  ·subst hb; rw [upd_same] at e; cases e; exact new
  ·rw [upd_ne hb] at e
   refine (I.hok b u e).stay (fun c v hc r=>k c v ?_ r) (fun c z=>by rw [upd_ne (ne _ _ z)]; exact z) (fun c xs z=>by rw [upd_ne (ne _ _ z)]; exact z)
   rcases hc with rfl | hc
   ·exact nt _ _ e
   ·exact nt _ _ hc
theorem FpOk.upd {b T:Addr} {o:HO} (h:FpOk X pins H b) (hb:b≠T):FpOk X pins (L2.upd H T o) b:=by
 obtain ⟨f0,r⟩:=h
 exact ⟨by rw [upd_ne hb]; exact f0,r⟩
end
noncomputable def Ite (K:PySem.W.Frag) (a:Addr):It :=
  ⟨fun i H=>∃ xs x,SqL K H a xs/\xs[i]?=some x,
   fun i H v H'=>∃ T y,v=.ref T/\H T=none/\H'=upd H T (.tup [.int i,y])/\∀ xs,SqL K H a xs->xs[i]?=some y,
   fun i H=>∃ xs,SqL K H a xs/\xs.length<=i⟩
theorem turn_enum {P:Program} {w:World} {K:PySem.W.Frag} {elts:List Expr} {kk:Nat} {pos:Pos} (a e it:Addr) (hne:e≠it) :
  Turn P w K (.Tuple elts kk pos) (Ite K a) [e,it] e (fun i h=>(∃ old,IsEnum h e it i old)/\h.IsListIter it a i) where
 mem:=by simp
 obj:=fun i h hp0 b hb=>by
  obtain ⟨⟨old,he⟩,hit⟩:=hp0
  rcases List.mem_cons.mp hb with rfl | hb
  ·exact ⟨_,he,fun v z=>by cases z⟩
  ·have e:b=it:=by simpa using hb
   subst e
   obtain ⟨o,e,c,d⟩:=hit
   exact ⟨o,e,fun v z=>by rw [d] at z; cases z⟩
 keep:=(by rintro i h h' ⟨⟨old,he⟩,hit⟩ k; exact ⟨⟨old,k e (by simp) _ he⟩,hit.at fun o q=>k it (by simp) o q⟩)
 item:=by
  intro X hP hw hK hc i pins s σ H E I hf st hg
  obtain ⟨⟨old,he⟩,hit⟩:=st
  subst hP hw hK
  obtain ⟨xs,x,hq,hx⟩:=hg
  obtain ⟨its,rv,p,hz⟩:=I.list hq
  obtain ⟨u,hu,ru⟩:=rv.get hx
  have hTn:H s.heap.objs.size=none:=I.hok.fresh (Nat.le_refl _)
  have heT:e≠s.heap.objs.size:=Nat.ne_of_lt (Heap.lt_size he)
  have hiT:it≠s.heap.objs.size:=by obtain ⟨o,q,_⟩:=hit; exact Nat.ne_of_lt (Heap.lt_size q)
  refine wpAny_pyNext_enum_item he hit p.isList (x:=u) (by simpa using hu) hne fun h' ho hit' hT hsz kk=>?_
  refine ⟨_,rfl,?_⟩
  have I1:Inv X pins σ (upd H s.heap.objs.size (.tup [.int i,x])) { s with heap:=h',toks:=s.toks+1 } :=
   I.turnedT (fp:=[e,it]) hf (fun b o hb q=>kk b o (fun z=>hb (by simp [z])) (fun z=>hb (by simp [z])) q) (Nat.le_refl _)
    ⟨by show 2<=sizeLine; decide,[.int i s.toks,u],.cons ⟨_,rfl⟩ (.cons ru .nil),⟨_,hT,rfl,_,rfl⟩⟩
  refine wpAny_letOwnedTupleGo_enum (s:={ s with heap:=h',toks:=s.toks+1 }) ho fun h2 he2 hs2=>?_
  have f1:∀ b∈[e,it],FpOk X pins (upd H s.heap.objs.size (.tup [.int i,x])) b:=fun b hb=>(hf b hb).upd (by
   rcases List.mem_cons.mp hb with rfl | hb
   ·exact heT
   ·rw [List.mem_singleton.mp hb]; exact hiT)
  have I2:Inv X pins σ (upd H s.heap.objs.size (.tup [.int i,x])) { s with heap:=h2,toks:=s.toks+1 } :=
   Inv.turnedL (s:={ s with heap:=h',toks:=s.toks+1 }) (t':=s.toks+1) (fp:=[e,it]) I1 f1 fun b o hb q=>(hs2.2 b (fun z=>hb (by simp [z]))).trans q
  refine ⟨.ref s.heap.objs.size,_,I2,rfl,⟨_,x,rfl,hTn,rfl,fun ys hy=>by rw [I.list_inj hy hq]; exact hx⟩,⟨⟨u,?_⟩,?_⟩,fun b hb=>(f1 b hb).1⟩
  ·simpa using he2
  ·exact hit'.at fun o q=>(hs2.2 it (Ne.symm hne)).trans q
 done:=by
  intro X hP hw hK hc i pins s σ H E I hf st hg
  obtain ⟨⟨old,he⟩,hit⟩:=st
  subst hP hw hK
  obtain ⟨xs,hq,hx⟩:=hg
  obtain ⟨its,rv,p,hz⟩:=I.list hq
  have hl:=rv.length
  refine wpAny_pyNext_enum_end (I.ok.hd hc) he hit p.isList (by simp; lia) fun h' eb=>⟨rfl,?_⟩
  exact I.turnedL (t':=s.toks) (fp:=[e,it]) hf fun b o hb q=>eb b o (fun z=>hb (by simp [z])) q
 self:=(by rintro A i s Q E ⟨⟨old,he⟩,_⟩ h; exact wpAny_pyIter_enum he h)
end L2
namespace K2
open PySem PySem.Spec PyProof.Rows L2
section
variable {X:Cx} {elts:List Expr} {kk:Nat} {tpos:Pos} {a b:Expr} {ta tb:TE2} {pos p:Pos}
theorem enum_it {pins:List (Addr×Obj)} {σ:L2.St} {H H1:Hp} {G G1:Gp} {s1:Shared} {l:Addr} {vs:List V} {ds:List D} {ok:Gp->Prop} {R:List D->(Gp->Prop)->Gp->Prop} (I1:Inv X pins σ H1 s1) (m:Mv X.K H G H1 G1) (hq:SqL X.K H1 l vs)
  (hk:∀ H2 G2,Kp H1 H2->AbH X.K H2 G2->ok G2->∃ ws,SqL X.K H2 l ws/\RepDs X.K H2 ws ds) (q:R (enumD 0 ds) ok G1) :
  wpAny (model X.prog X.w) X.A (call (.type "enumerate") [.ref l]) (fun v s2=>wpAny (model X.prog X.w) X.A (pyIter v) (PIE2 X pins σ (.Tuple elts kk tpos) H G R) X.xe s2) X.xe s1:=by
 obtain ⟨its,rv,pl,hz⟩:=I1.list hq
 refine call_enumerate_list pl.isList fun h' he hit hsz kp=>?_
 refine wpAny_pyIter_enum he ?_
 refine ⟨_,[s1.heap.objs.size+1,s1.heap.objs.size],_,_,H1,G1,enumD 0 ds,ok,rfl,I1.kept (t':=s1.toks) kp,m,turn_enum l _ _ (Nat.succ_ne_self _),⟨⟨_,he⟩,hit⟩,fun b hb=>?_,fun i H2 G2 k ab o=>?_,q⟩
 ·have hb':s1.heap.objs.size<=b:=by
   rcases List.mem_cons.mp hb with rfl | hb
   ·lia
   ·rw [List.mem_singleton.mp hb]; exact Nat.le_refl _
  exact I1.fpOk hb' (I1.hok.fresh hb')
 ·obtain ⟨ws,hw,rd⟩:=hk H2 G2 k ab o
  refine ⟨fun d hd=>?_,fun hl=>⟨ws,hw,by rw [rd.length,← enumD_len ds 0]; exact hl⟩⟩
  rw [enumD_get] at hd
  cases hdi:ds[i]? with
  | none=>rw [hdi] at hd; cases hd
  | some d' =>
   rw [hdi] at hd
   obtain ⟨v,hv,r⟩:=rd.get hdi
   refine ⟨⟨ws,v,hw,hv⟩,?_⟩
   rintro x H3 ⟨T,y,ex,hT,e3,hy⟩
   subst ex e3
   have:=hy ws hw
   rw [hv] at this
   cases this
   have ed:D.tup [.int ((0+i:Nat):Int),d']=d:=by simpa using hd
   subst ed
   refine ⟨.tup upd_same (.cons (by rw [Nat.zero_add]; exact .int _) (.cons (r.mono (.new hT)) .nil)),.hid ab hT⟩
theorem bt_enumerate:bootBuiltins "enumerate" = some (.type "enumerate"):=by decide +kernel
theorem bt_zip:bootBuiltins "zip" = some (.type "zip"):=by decide +kernel
theorem pi2_enum (hg:Gl X "enumerate") (hm:X.mg "enumerate" = none) (ha:PE2 X a ta) (hs:autoParam (starEach [a] X.env=[(false,eval a X.env)]) Ar._auto_1):PI2 X (.Tuple elts kk tpos) (.Call (.Name "enumerate" p) [a] [] pos) (iEnum ta):=by
 intro E pins s σ H τ G R hE I h
 have hA:PA2 X [a] (dCons ta dNil):=pa2_cons ha pa2_nil hs
 refine Call_ (ld_blt I.inv hg hm bt_enumerate (PyProof.Rows.callWith_type1 (thnA hA pos hE I (R:=one1 fun x G1=>iEnumAt x G1 R) h fun vs H1 ds G1 us s1 I1 m1 r1 rd1 q1=>?_) hs rfl))
 match ds,q1 with
 | [x],q1 =>
  change iEnumAt x G1 R at q1
  obtain ⟨w,rfl,rw1⟩:=rd1.one
  obtain ⟨u,rfl,ru⟩:=r1.one
  cases rw1 with
  | rol hq rs=>cases ru; exact enum_it I1.inv m1 hq.sq (fun H2 G2 k ab _=>⟨_,(k.sqF hq).sq,rs.mono k⟩) q1
  | ref p =>
   cases ru
   unfold iEnumAt at q1
   dsimp only at q1
   split at q1
   ·rename_i ds e
    obtain ⟨vs,hv,rs⟩:=I1.ab.lst e
    refine enum_it I1.inv m1 (.of hv) (fun H2 G2 k ab o=>?_) q1
    obtain ⟨ws,hw,rw'⟩:=ab.lst o
    exact ⟨ws,.of hw,rw'⟩
   ·exact q1.elim
  | tup _ _=>exact q1.elim
  | rodK _ _=>exact q1.elim
  | rodT _ _=>exact q1.elim
  | non=>exact q1.elim
  | bl _=>exact q1.elim
  | int _=>exact q1.elim
  | str _=>exact q1.elim
  | exc _=>exact q1.elim
 | [],q1=>exact q1.elim
 | _ :: _ :: _,q1=>exact q1.elim
end
end K2
end
section
namespace K2
open PySem PySem.Spec PyProof.Rows L2
section
variable {X:Cx} {o i a b:Expr} {to ti ta tb:TE2} {pos p:Pos}
theorem pg2_sub (hu:X.A.units+64 < cLine) (ho:PE2 X o to) (hi:PE2 X i ti)
  (ha:autoParam (∀ v,assign (.Subscript o i pos) X.env v=(do
   let ov ← holding [v] (eval o X.env)
   let iv ← holding [v,ov] (eval i X.env)
   standAt pos
   holding [v,ov,iv] (setItem ov iv v)
   release [v,ov,iv] [])) Ai._auto_1):PG2 X (.Subscript o i pos) (gSub to ti):=by
 intro E pins s σ H τ G w d u Q hE I r rd h
 rw [ha]
 refine wpAny_bind (wpAny_holding (thnE ho hE I h fun x H1 dx G1 ov s1 I1 m1 r1 rd1 q1=>?_))
 refine wpAny_bind (wpAny_holding (thnE hi hE I1 q1 fun y H2 dy G2 iv s2 I2' m2 r2 rd2 q2=>?_))
 refine wpAny_bind (wpAny_standAt (wpAny_bind (wpAny_holding ?_)))
 have m12:=m1.trans m2
 have rd':=rd.mono (m12.kp I.ab)
 have st':=I.st.mono (m12.kp I.ab)
 have rx':=rd1.mono (m2.kp I1.ab)
 unfold setIx at q2
 split at q2
 ·rename_i l
  cases rx'
  cases r1
  split at q2
  ·rename_i xs hg
   obtain ⟨vs,hv,rs⟩:=I2'.ab.lst hg
   split at q2
   ·rename_i k
    cases rd2
    split at q2
    ·rename_i j hj
     have m3:Mv X.K H2 G2 (upd H2 l (.lst (vs.set j w))) (updG G2 l (.lst (xs.set j d))):=.putL I2'.ab hg hv (rs.set rd' j)
     refine thn (set_list pins s2 σ H2 (.ref l) (.int k) w _ _ _ (fun H3=>H3=upd H2 l (.lst (vs.set j w))) I2'.inv rfl r2 r ⟨l,vs,k,j,rfl,rfl,hv,?_,rfl⟩) ?_
     ·rw [rs.length]; exact hj
     ·rintro _ s3 ⟨H3,I3,e3⟩
      subst e3
      exact wpAny_release ⟨σ,_,τ,_,⟨I3,st'.mono (m3.kp I2'.ab),m3.ab⟩,m12.trans m3,q2⟩
    ·exact q2.elim
   ·exact q2.elim
  ·rename_i kvs hg
   obtain ⟨hk,hz,q⟩:=q2
   obtain ⟨H3,H4,I3,dp,m3⟩:=dict_put I2'.inv I2'.ab hg hk hz rd2 rd'
   exact d_setItem (by lia) I3 dp r2 r fun s4 I4=>wpAny_release ⟨σ,H4,τ,_,⟨I4,st'.mono (m3.kp I2'.ab),m3.ab⟩,m12.trans m3,q⟩
  ·exact q2.elim
 ·exact q2.elim
end
end K2
end
section
namespace L2
open PySem PySem.Spec PyProof.Rows
theorem sq_ne_fp {X:Cx} {pins:List (Addr×Obj)} {σ:St} {H:Hp} {s:Shared} {l b:Addr} {xs:List V} (I:Inv X pins σ H s) (hq:SqL X.K H l xs) (hf:FpOk X pins H b):l≠b:=by
 rintro rfl
 obtain ⟨f0,f1,f2,f3,f4,f5⟩:=hf
 rcases hq with (h | ⟨o,h⟩) | ⟨o,its,n,h,_⟩
 ·rw [f0] at h; cases h
 ·rw [f0] at h; cases h
 ·have hb:=I.ok.mod.kin _ _ h
  rcases f3 with f3 | f3
  ·exact I.ok.noex _ _ hb f3
  ·exact absurd (Heap.lt_size (I.ok.bs _ _ hb).1) (Nat.not_lt.mpr f3)
noncomputable def Itz (K:PySem.W.Frag) (a b:Addr):It :=
  ⟨fun i H=>∃ xs x ys y,SqL K H a xs/\xs[i]?=some x/\SqL K H b ys/\ys[i]?=some y,
   fun i H v H'=>∃ T x y,v=.ref T/\H T=none/\H'=upd H T (.tup [x,y])/\(∀ xs,SqL K H a xs->xs[i]?=some x)/\∀ ys,SqL K H b ys->ys[i]?=some y,
   fun i H=>∃ xs ys,SqL K H a xs/\SqL K H b ys/\(xs.length<=i\/ys.length<=i)⟩
structure ZipSt (z TI TO i1 i2 a b:Addr) (i:Nat) (h:Heap):Prop where
 hz:IsZip h z TI TO .none
 hI:IsPair h TI (.ref i1) (.ref i2)
 hO:∃ x y,IsPair h TO x y
 h1:h.IsListIter i1 a i
 h2:h.IsListIter i2 b i
theorem turn_zip {P:Program} {w:World} {K:PySem.W.Frag} {elts:List Expr} {kk:Nat} {pos:Pos} (a b z TI TO i1 i2:Addr) (nd:[z,TI,TO,i1,i2].Nodup) :
  Turn P w K (.Tuple elts kk pos) (Itz K a b) [z,TI,TO,i1,i2] z (ZipSt z TI TO i1 i2 a b) where
 mem:=by simp
 obj:=fun i h st c hc=>by
  simp only [List.mem_cons,List.not_mem_nil,or_false] at hc
  rcases hc with rfl | rfl | rfl | rfl | rfl
  ·exact ⟨_,st.hz,fun v q=>by cases q⟩
  ·exact ⟨_,st.hI,fun v q=>by cases q⟩
  ·obtain ⟨x,y,h⟩:=st.hO; exact ⟨_,h,fun v q=>by cases q⟩
  ·obtain ⟨o,e,_,d⟩:=st.h1; exact ⟨o,e,fun v q=>by rw [d] at q; cases q⟩
  ·obtain ⟨o,e,_,d⟩:=st.h2; exact ⟨o,e,fun v q=>by rw [d] at q; cases q⟩
 keep:=fun i h h' st k=>⟨k _ (by simp) _ st.hz,k _ (by simp) _ st.hI,let ⟨x,y,q⟩:=st.hO; ⟨x,y,k _ (by simp) _ q⟩,st.h1.at fun o q=>k _ (by simp) o q,st.h2.at fun o q=>k _ (by simp) o q⟩
 item:=by
  intro X hP hw hK hc i pins s σ H E I hf st hg
  subst hP hw hK
  obtain ⟨xs,x,ys,y,hq1,hx,hq2,hy⟩:=hg
  obtain ⟨its1,rv1,p1,hz1⟩:=I.list hq1
  obtain ⟨its2,rv2,p2,hz2⟩:=I.list hq2
  obtain ⟨u1,hu1,ru1⟩:=rv1.get hx
  obtain ⟨u2,hu2,ru2⟩:=rv2.get hy
  obtain ⟨xo,yo,hO⟩:=st.hO
  have ap:∀ c∈[z,TI,TO,i1,i2],a≠c/\b≠c:=fun c hc=>⟨sq_ne_fp I hq1 (hf c hc),sq_ne_fp I hq2 (hf c hc)⟩
  simp only [List.nodup_cons,List.mem_cons,List.not_mem_nil,or_false,not_or] at nd
  obtain ⟨⟨n1,n2,n3,n4⟩,⟨n5,n6,n7⟩,⟨n8,n9⟩,n10,_⟩:=nd
  have Dz:ZipApart z TI TO i1 i2 a b:=⟨Ne.symm n1,Ne.symm n2,Ne.symm n3,Ne.symm n4,n5,n6,n7,n8,n9,n10,(ap z (by simp)).1,(ap TO (by simp)).1,(ap i1 (by simp)).1,(ap i2 (by simp)).1,(ap z (by simp)).2,(ap TO (by simp)).2,(ap i1 (by simp)).2,(ap i2 (by simp)).2⟩
  have hTn:H s.heap.objs.size=none:=I.hok.fresh (Nat.le_refl _)
  have inH:∀ c∈[z,TI,TO,i1,i2],c≠s.heap.objs.size:=fun c hc=>by
   simp only [List.mem_cons,List.not_mem_nil,or_false] at hc
   rcases hc with rfl | rfl | rfl | rfl | rfl
   ·exact Nat.ne_of_lt (Heap.lt_size st.hz)
   ·exact Nat.ne_of_lt (Heap.lt_size st.hI)
   ·exact Nat.ne_of_lt (Heap.lt_size hO)
   ·obtain ⟨o,e,_⟩:=st.h1; exact Nat.ne_of_lt (Heap.lt_size e)
   ·obtain ⟨o,e,_⟩:=st.h2; exact Nat.ne_of_lt (Heap.lt_size e)
  refine wpAny_pyNext_zip_item Dz st.hz st.hI hO st.h1 st.h2 p1.isList p2.isList (x:=u1) (y:=u2) (by simpa using hu1) (by simpa using hu2) fun h' a1 a2 a3 a4 a5 a6 a7=>?_
  refine ⟨_,rfl,?_⟩
  have k1:∀ c o,c∉[z,TI,TO,i1,i2]->s.heap.get? c=some o->h'.get? c=some o:=fun c o hc q =>
   a7 c o (fun e=>hc (by simp [e])) (fun e=>hc (by simp [e])) (fun e=>hc (by simp [e])) (fun e=>hc (by simp [e])) q
  have I1:Inv X pins σ (upd H s.heap.objs.size (.tup [x,y])) { s with heap:=h' } :=
   I.turnedT (t':=s.toks) (fp:=[z,TI,TO,i1,i2]) hf k1 (Nat.le_refl _) ⟨by show 2<=sizeLine; decide,[u1,u2],.cons ru1 (.cons ru2 .nil),⟨_,a5,rfl,_,rfl⟩⟩
  refine wpAny_letOwnedTupleGo_zip (s:={ s with heap:=h' }) a1 fun h2 hz2 hs2=>?_
  have f1:∀ c∈[z,TI,TO,i1,i2],FpOk X pins (upd H s.heap.objs.size (.tup [x,y])) c:=fun c hc=>(hf c hc).upd (inH c hc)
  have I2:Inv X pins σ (upd H s.heap.objs.size (.tup [x,y])) { s with heap:=h2 } :=
   Inv.turnedL (s:={ s with heap:=h' }) (t':=s.toks) (fp:=[z,TI,TO,i1,i2]) I1 f1 fun c o hc q=>(hs2.2 c (fun e=>hc (by simp [e]))).trans q
  have hI':IsPair h' TI (.ref i1) (.ref i2):=a7 TI _ (Ne.symm n1) n5 n6 n7 st.hI
  refine ⟨.ref s.heap.objs.size,_,I2,rfl,⟨_,x,y,rfl,hTn,rfl,fun zs hs=>by rw [I.list_inj hs hq1]; exact hx,fun zs hs=>by rw [I.list_inj hs hq2]; exact hy⟩,⟨hz2,?_,⟨u1,u2,?_⟩,?_,?_⟩,fun c hc=>(f1 c hc).1⟩
  ·exact (hs2.2 TI (Ne.symm n1)).trans hI'
  ·exact (hs2.2 TO (Ne.symm n2)).trans a2
  ·exact a3.at fun o q=>(hs2.2 i1 (Ne.symm n3)).trans q
  ·exact a4.at fun o q=>(hs2.2 i2 (Ne.symm n4)).trans q
 done:=by
  intro X hP hw hK hc i pins s σ H E I hf st hg
  subst hP hw hK
  obtain ⟨xs,ys,hq1,hq2,hx⟩:=hg
  obtain ⟨its1,rv1,p1,hz1⟩:=I.list hq1
  obtain ⟨its2,rv2,p2,hz2⟩:=I.list hq2
  have hl1:=rv1.length
  have hl2:=rv2.length
  obtain ⟨xo,yo,hO⟩:=st.hO
  have ap:∀ c∈[z,TI,TO,i1,i2],a≠c/\b≠c:=fun c hc=>⟨sq_ne_fp I hq1 (hf c hc),sq_ne_fp I hq2 (hf c hc)⟩
  simp only [List.nodup_cons,List.mem_cons,List.not_mem_nil,or_false,not_or] at nd
  obtain ⟨⟨n1,n2,n3,n4⟩,⟨n5,n6,n7⟩,⟨n8,n9⟩,n10,_⟩:=nd
  have Dz:ZipApart z TI TO i1 i2 a b:=⟨Ne.symm n1,Ne.symm n2,Ne.symm n3,Ne.symm n4,n5,n6,n7,n8,n9,n10,(ap z (by simp)).1,(ap TO (by simp)).1,(ap i1 (by simp)).1,(ap i2 (by simp)).1,(ap z (by simp)).2,(ap TO (by simp)).2,(ap i1 (by simp)).2,(ap i2 (by simp)).2⟩
  refine wpAny_pyNext_zip_end (I.ok.hd hc) Dz st.hz st.hI hO st.h1 st.h2 p1.isList p2.isList (by
   rcases hx with hx | hx
   ·left; simp; lia
   ·right; simp; lia) fun h' k1=>⟨rfl,?_⟩
  exact I.turnedL (t':=s.toks) (fp:=[z,TI,TO,i1,i2]) hf fun c o hc q=>k1 c o (fun e=>hc (by simp [e])) (fun e=>hc (by simp [e])) (fun e=>hc (by simp [e])) (fun e=>hc (by simp [e])) q
 self:=fun A i s Q E st h=>wpAny_pyIter_zip st.hz h
end L2
namespace K2
open PySem PySem.Spec PyProof.Rows L2
section
variable {X:Cx} {elts:List Expr} {kk:Nat} {tpos:Pos} {a b:Expr} {ta tb:TE2} {pos p:Pos}
theorem lst_stay {pins:List (Addr×Obj)} {s:Shared} {σ:L2.St} {H:Hp} {G:Gp} {x:V} {d:D} {v:Value} {ds:List D} {ok:Gp->Prop} (I:Inv X pins σ H s) (ab:AbH X.K H G) (rx:RelV x v) (rd:RepD X.K H x d) (hi:lstAt d G=some (ds,ok)) :
  ∃ l vs,v=.ref l/\SqL X.K H l vs/\RepDs X.K H vs ds/\∀ H2 G2,Kp H H2->AbH X.K H2 G2->ok G2->∃ ws,SqL X.K H2 l ws/\RepDs X.K H2 ws ds:=by
 cases rd with
 | rol hq rs=>cases hi; cases rx; exact ⟨_,_,rfl,hq.sq,rs,fun H2 G2 k ab _=>⟨_,(k.sqF hq).sq,rs.mono k⟩⟩
 | ref l =>
  unfold lstAt at hi
  dsimp only at hi
  cases hg:G l with
  | none=>rw [hg] at hi; cases hi
  | some gg =>
   rw [hg] at hi
   cases gg with
   | lst zs =>
    cases hi
    cases rx
    obtain ⟨vs,hv,rs⟩:=ab.lst hg
    refine ⟨_,_,rfl,.of hv,rs,fun H2 G2 k ab o=>?_⟩
    obtain ⟨ws,hw,rw'⟩:=ab.lst o
    exact ⟨ws,.of hw,rw'⟩
   | dic _=>cases hi
 | _=>cases hi
theorem pi2_zip (hg:Gl X "zip") (hm:X.mg "zip" = none) (ha:PE2 X a ta) (hb:PE2 X b tb) (hs:autoParam (starEach [a,b] X.env=[(false,eval a X.env),(false,eval b X.env)]) Ar._auto_1) (hs2:autoParam (starEach [b] X.env=[(false,eval b X.env)]) Ar._auto_1) :
  PI2 X (.Tuple elts kk tpos) (.Call (.Name "zip" p) [a,b] [] pos) (iZip ta tb):=by
 intro E pins s σ H τ G R hE I h
 have hA:PA2 X [a,b] (dCons ta (dCons tb dNil)):=pa2_cons ha (pa2_cons hb pa2_nil hs2) (by rw [hs,hs2])
 refine Call_ (ld_blt I.inv hg hm bt_zip (PyProof.Rows.callWith_type1 (thnA hA pos hE I (R:=one2 fun x y G1=>iZipAt x y G1 R) h fun vs H1 ds G1 us s1 I1 m1 r1 rd1 q1=>?_) (by rw [hs,hs2]) (by rw [hs2]; rfl)))
 match ds,q1 with
 | [x,y],q1 =>
  change iZipAt x y G1 R at q1
  obtain ⟨w1,w2,rfl,rw1,rw2⟩:=rd1.two
  obtain ⟨u1,u2,rfl,ru1,ru2⟩:=vals2 r1
  unfold iZipAt at q1
  split at q1
  ·rename_i xs k1 ys k2 e1 e2
   obtain ⟨l1,v1,rfl,hq1,rs1,st1⟩:=lst_stay I1.inv I1.ab ru1 rw1 e1
   obtain ⟨l2,v2,rfl,hq2,rs2,st2⟩:=lst_stay I1.inv I1.ab ru2 rw2 e2
   obtain ⟨its1,rv1,pl1,_⟩:=I1.inv.list hq1
   obtain ⟨its2,rv2,pl2,_⟩:=I1.inv.list hq2
   refine call_zip_2 pl1.isList pl2.isList fun h' z1 z2 z3 z4 z5 z6 z7=>?_
   refine wpAny_pyIter_zip z1 ?_
   refine ⟨_,[s1.heap.objs.size+4,s1.heap.objs.size+2,s1.heap.objs.size+3,s1.heap.objs.size,s1.heap.objs.size+1],_,_,H1,G1,zipD xs ys,_,rfl,I1.inv.kept (t':=s1.toks) z7,m1,
    turn_zip l1 l2 _ _ _ _ _ (by simp),⟨z1,z2,⟨_,_,z3⟩,z4,z5⟩,fun c hc=>?_,fun i H2 G2 k ab o=>?_,q1⟩
   ·have hc':s1.heap.objs.size<=c:=by
     simp only [List.mem_cons,List.not_mem_nil,or_false] at hc
     rcases hc with rfl | rfl | rfl | rfl | rfl
     ·exact Nat.le_add_right _ _
     ·exact Nat.le_add_right _ _
     ·exact Nat.le_add_right _ _
     ·exact Nat.le_refl _
     ·exact Nat.le_add_right _ _
    exact I1.inv.fpOk hc' (I1.inv.hok.fresh hc')
   ·obtain ⟨ws1,hw1,rd1⟩:=st1 H2 G2 k ab o.1
    obtain ⟨ws2,hw2,rd2⟩:=st2 H2 G2 k ab o.2
    refine ⟨fun d hd=>?_,fun hl=>⟨ws1,ws2,hw1,hw2,?_⟩⟩
    ·rw [zipD_get] at hd
     cases hx:xs[i]? with
     | none=>rw [hx] at hd; cases hd
     | some x' =>
      cases hy:ys[i]? with
      | none=>rw [hx,hy] at hd; cases hd
      | some y' =>
       rw [hx,hy] at hd
       have ed:D.tup [x',y']=d:=by simpa using hd
       subst ed
       obtain ⟨vx,hvx,rx⟩:=rd1.get hx
       obtain ⟨vy,hvy,ry⟩:=rd2.get hy
       refine ⟨⟨ws1,vx,ws2,vy,hw1,hvx,hw2,hvy⟩,?_⟩
       rintro v H3 ⟨T,px,py,ex,hT,e3,hx3,hy3⟩
       subst ex e3
       have q1:=hx3 ws1 hw1
       have q2:=hy3 ws2 hw2
       rw [hvx] at q1
       rw [hvy] at q2
       cases q1; cases q2
       exact ⟨.tup upd_same (.cons (rx.mono (.new hT)) (.cons (ry.mono (.new hT)) .nil)),.hid ab hT⟩
    ·rw [zipD_len] at hl
     rw [rd1.length,rd2.length]
     lia
  ·exact q1.elim
 | [],q1=>exact q1.elim
 | [_],q1=>exact q1.elim
 | _ :: _ :: _ :: _,q1=>exact q1.elim
end
end K2
end
section
namespace K2
open PySem PySem.W PyProof.Rows
noncomputable def runT {α:Type} (lt:Nat->Nat->Bool):KasT α->α
 | .ret a=>a
 | .ask i j k=>runT lt (k (lt i j))
theorem runT_bind {α β:Type} (lt:Nat->Nat->Bool) (f:α->KasT β):∀ t:KasT α,runT lt (t.bind f)=runT lt (f (runT lt t))
 | .ret _=>rfl
 | .ask i j k=>runT_bind lt f (k (lt i j))
noncomputable abbrev gA (p:Array Nat) (k:Nat):Nat:=p.getD k 0
theorem gA_eq (p:Array Nat) (k:Nat):gA p k=(p[k]?).getD 0:=by
 unfold gA; rw [Array.getD_eq_getD_getElem?]
structure SWO (lt:Nat->Nat->Bool):Prop where
 asymm:∀ i j,lt i j=true->lt j i=false
 trans:∀ i j k,lt j i=false->lt k j=false->lt k i=false
theorem SWO.refl {lt:Nat->Nat->Bool} (w:SWO lt) (i:Nat):lt i i=false:=by
 cases h:lt i i with
 | false=>rfl
 | true=>rw [w.asymm _ _ h] at h; cases h
noncomputable def Up (lt:Nat->Nat->Bool) (p:Array Nat) (m:Nat):Prop:=∀ i j,i<=j->j < m->lt (gA p j) (gA p i)=false
noncomputable def Dn (lt:Nat->Nat->Bool) (p:Array Nat) (m:Nat):Prop:=∀ i j,i<=j->j < m->lt (gA p i) (gA p j)=false
section
variable {lt:Nat->Nat->Bool}
theorem Up.more (w:SWO lt) {p:Array Nat} {n m:Nat} (h1:1<=n) (h:Up lt p n) (hs:∀ k,n<=k->k < m->lt (gA p k) (gA p (k - 1))=false):Up lt p m:=by
 intro i j hij hjm
 induction j with
 | zero =>
  have:i=0:=by lia
  subst this; exact w.refl _
 | succ j ih =>
  by_cases hj:j+1 < n
  ·exact h i (j+1) hij hj
  ·by_cases e:i=j+1
   ·subst e; exact w.refl _
   ·have h1:=ih (by lia) (by lia)
    have h2:=hs (j+1) (by lia) hjm
    exact w.trans _ _ _ h1 h2
theorem run_asc (p:Array Nat):∀ (f n:Nat),n<=runT lt (kas_asc p f n)/\runT lt (kas_asc p f n)<=n+f/\(∀ k,n<=k->k < runT lt (kas_asc p f n)->lt (gA p k) (gA p (k - 1))=false) /\
  (runT lt (kas_asc p f n) < n+f->lt (gA p (runT lt (kas_asc p f n))) (gA p (runT lt (kas_asc p f n) - 1))=true):=by
 intro f
 induction f with
 | zero=>intro n; exact ⟨Nat.le_refl _,Nat.le_refl _,fun k h1 h2=>absurd (show k < n from h2) (by lia),fun h=>absurd (show n < n+0 from h) (by lia)⟩
 | succ f ih =>
  intro n
  have e:runT lt (kas_asc p (f+1) n)=if lt (gA p n) (gA p (n - 1))=true then n else runT lt (kas_asc p f (n+1)):=by
   show runT lt (if lt (gA p n) (gA p (n - 1))=true then KasT.ret n else kas_asc p f (n+1))=_
   split <;> rfl
  rw [e]
  by_cases c:lt (gA p n) (gA p (n - 1))=true
  ·rw [if_pos c]
   exact ⟨Nat.le_refl _,by lia,fun k h1 h2=>absurd h2 (by lia),fun _=>c⟩
  ·rw [if_neg c]
   obtain ⟨h1,h2,h3,h4⟩:=ih (n+1)
   refine ⟨by lia,by lia,fun k k1 k2=>?_,fun h=>h4 (by lia)⟩
   by_cases e:k=n
   ·subst e; simpa using c
   ·exact h3 k (by lia) k2
theorem gA_mirror {p:Array Nat} {i j:Nat} (hj:j<=p.size) (k:Nat):gA (kas_rev p i j) k=if i<=k/\k < j then gA p (i+j - 1 - k) else gA p k:=by
 rw [gA_eq,kas_rev,getElem?_mirror_all hj]
 split <;> rw [gA_eq]
theorem rev_size (p:Array Nat) (i j:Nat):(kas_rev p i j).size=p.size:=mirror_size _ _ _ _
theorem rev_perm (p:Array Nat) (i j:Nat):(kas_rev p i j).Perm p:=mirror_perm _ _ _ _
theorem Dn.rev {p:Array Nat} {a n:Nat} (w:SWO lt) (hn:n<=p.size) (h:Dn lt p n) (he:∀ k,a<=k->k < n->lt (gA p (n - 1)) (gA p k)=false):Dn lt (kas_rev p a n) n:=by
 intro i j hij hjn
 rw [gA_mirror hn,gA_mirror hn]
 by_cases hi:a<=i
 ·rw [if_pos ⟨hi,by lia⟩,if_pos ⟨by lia,hjn⟩]
  exact w.trans _ _ _ (he (a+n - 1 - j) (by lia) (by lia)) (h (a+n - 1 - i) (n - 1) (by lia) (by lia))
 ·rw [if_neg (by lia)]
  by_cases hj:a<=j
  ·rw [if_pos ⟨hj,hjn⟩]
   exact h i (a+n - 1 - j) (by lia) (by lia)
  ·rw [if_neg (by lia)]
   exact h i j hij hjn
noncomputable def Eqs (lt:Nat->Nat->Bool) (p:Array Nat) (n q:Nat):Prop:=q+1<=n/\∀ k,n - (q+1)<=k->k < n->lt (gA p (n - 1)) (gA p k)=false
theorem Dn.one (w:SWO lt) {p:Array Nat} {n:Nat} (h1:1<=n) (h:Dn lt p n) (hc:lt (gA p (n - 1)) (gA p n)=false):Dn lt p (n+1):=by
 intro i j hij hj
 by_cases e:j=n
 ·subst e
  by_cases e2:i=j
  ·subst e2; exact w.refl _
  ·exact w.trans _ _ _ hc (h i (j - 1) (by lia) (by lia))
 ·exact h i j hij (by lia)
theorem run_desc (w:SWO lt):∀ (f:Nat) (p:Array Nat) (n q:Nat),n+f<=p.size->Dn lt p n->Eqs lt p n q->∃ p' n' q',runT lt (kas_desc f p n q)=(p',n',q')/\p'.Perm p/\p'.size=p.size/\n<=n'/\n'<=n+f/\Dn lt p' n'/\Eqs lt p' n' q':=by
 intro f
 induction f with
 | zero=>intro p n q _ hd he; exact ⟨p,n,q,rfl,Array.Perm.refl _,rfl,Nat.le_refl _,Nat.le_refl _,hd,he⟩
 | succ f ih =>
  intro p n q hs hd he
  have h1:1<=n:=by have:=he.1; lia
  have e:runT lt (kas_desc (f+1) p n q)=if lt (gA p n) (gA p (n - 1))=true then (if q > 0 then runT lt (kas_desc f (kas_rev p (n - (q+1)) n) (n+1) 0) else runT lt (kas_desc f p (n+1) 0))
    else if lt (gA p (n - 1)) (gA p n)=true then (p,n,q) else runT lt (kas_desc f p (n+1) (q+1)):=by
   show runT lt (if lt (gA p n) (gA p (n - 1))=true then (if q > 0 then kas_desc f (kas_rev p (n - (q+1)) n) (n+1) 0 else kas_desc f p (n+1) 0) else .ask (gA p (n - 1)) (gA p n) fun d=>if d=true then .ret (p,n,q) else kas_desc f p (n+1) (q+1))=_
   split
   ·split <;> rfl
   ·show runT lt (if lt (gA p (n - 1)) (gA p n)=true then KasT.ret (p,n,q) else kas_desc f p (n+1) (q+1))=_
    split <;> rfl
  rw [e]
  by_cases c:lt (gA p n) (gA p (n - 1))=true
  ·rw [if_pos c]
   have ca:=w.asymm _ _ c
   by_cases hq:q > 0
   ·rw [if_pos hq]
    have d1:Dn lt (kas_rev p (n - (q+1)) n) n:=hd.rev w (by lia) he.2
    have en:gA (kas_rev p (n - (q+1)) n) n=gA p n:=by rw [gA_mirror (by lia),if_neg (by lia)]
    have ca':lt (gA (kas_rev p (n - (q+1)) n) (n - 1)) (gA (kas_rev p (n - (q+1)) n) n)=false:=by
     rw [en,gA_mirror (by lia)]
     split
     ·-- an item of the stretch is above p n
      exact w.trans _ _ _ ca (hd _ (n - 1) (by lia) (by lia))
     ·exact ca
    obtain ⟨p',n',q',z,h2,h3,h4,h5,h6,h7⟩:=ih (kas_rev p (n - (q+1)) n) (n+1) 0 (by rw [rev_size]; lia) (d1.one w h1 ca') ⟨by lia,fun k k1 k2=>by
     have:k=n:=by lia
     subst this; exact w.refl _⟩
    exact ⟨p',n',q',z,h2.trans (rev_perm _ _ _),h3.trans (rev_size _ _ _),by lia,by lia,h6,h7⟩
   ·rw [if_neg hq]
    obtain ⟨p',n',q',z,h2,h3,h4,h5,h6,h7⟩:=ih p (n+1) 0 (by lia) (hd.one w h1 ca) ⟨by lia,fun k k1 k2=>by
     have:k=n:=by lia
     subst this; exact w.refl _⟩
    exact ⟨p',n',q',z,h2,h3,by lia,by lia,h6,h7⟩
  ·rw [if_neg c]
   have c':lt (gA p n) (gA p (n - 1))=false:=by simpa using c
   by_cases d:lt (gA p (n - 1)) (gA p n)=true
   ·rw [if_pos d]
    exact ⟨p,n,q,rfl,Array.Perm.refl _,rfl,Nat.le_refl _,by lia,hd,he⟩
   ·rw [if_neg d]
    have d':lt (gA p (n - 1)) (gA p n)=false:=by simpa using d
    obtain ⟨p',n',q',z,h2,h3,h4,h5,h6,h7⟩:=ih p (n+1) (q+1) (by lia) (hd.one w h1 d') ⟨by have:=he.1; lia,fun k k1 k2=>by
     rw [Nat.add_sub_cancel]
     by_cases e:k=n
     ·subst e; exact w.refl _
     ·exact w.trans _ _ _ (he.2 k (by lia) (by lia)) c'⟩
    exact ⟨p',n',q',z,h2,h3,by lia,by lia,h6,h7⟩
theorem Dn.up {p:Array Nat} {n:Nat} (hn:n<=p.size) (h:Dn lt p n):Up lt (kas_rev p 0 n) n:=by
 intro i j hij hjn
 rw [gA_mirror hn,gA_mirror hn,if_pos ⟨by lia,hjn⟩,if_pos ⟨by lia,by lia⟩]
 exact h _ _ (by lia) (by lia)
theorem run_tail (w:SWO lt) {p:Array Nat} {n nrem:Nat} (h1:1<=n) (hn:n<=nrem) (hs:nrem<=p.size) (h:Dn lt p n):∃ p' m,runT lt (kas_tail3 n nrem p)=(m,p')/\p'.Perm p/\p'.size=p.size/\n<=m/\m<=nrem/\Up lt p' m:=by
 obtain ⟨a1,a2,a3,_⟩:=run_asc (lt:=lt) (kas_rev p 0 n) (nrem - n) n
 refine ⟨kas_rev p 0 n,runT lt (kas_asc (kas_rev p 0 n) (nrem - n) n),by rw [kas_tail3,runT_bind]; rfl,rev_perm _ _ _,rev_size _ _ _,a1,by lia,?_⟩
 exact (h.up (by lia)).more w h1 a3
theorem run_descPart (w:SWO lt) {p:Array Nat} {n nrem:Nat} (h1:1<=n) (hn:n < nrem) (hs:nrem<=p.size) (h:Dn lt p n) (hc:lt (gA p (n - 1)) (gA p n)=false) :
  ∃ p' m,runT lt (kas_descPart n nrem p)=(m,p')/\p'.Perm p/\p'.size=p.size/\n<=m/\m<=nrem/\Up lt p' m:=by
 obtain ⟨p1,n1,q1,z,z2,z3,z4,z5,z6,z7⟩:=run_desc w (nrem - (n+1)) p (n+1) 0 (by lia) (h.one w h1 hc) ⟨by lia,fun k k1 k2=>by
  have:k=n:=by lia
  subst this; exact w.refl _⟩
 rw [kas_descPart,runT_bind,z]
 show ∃ p' m,runT lt (if q1 > 0 then kas_tail3 n1 nrem (kas_rev p1 (n1 - (q1+1)) n1) else kas_tail3 n1 nrem p1)=(m,p')/\_
 by_cases hq:q1 > 0
 ·rw [if_pos hq]
  obtain ⟨p',m,y1,y2,y3,y4,y5,y6⟩:=run_tail (nrem:=nrem) w (p:=kas_rev p1 (n1 - (q1+1)) n1) (by lia) (by lia) (by rw [rev_size]; lia) (z6.rev w (by lia) z7.2)
  exact ⟨p',m,y1,(y2.trans (rev_perm _ _ _)).trans z2,(y3.trans (rev_size _ _ _)).trans z3,by lia,y5,y6⟩
 ·rw [if_neg hq]
  obtain ⟨p',m,y1,y2,y3,y4,y5,y6⟩:=run_tail (nrem:=nrem) w (p:=p1) (by lia) (by lia) (by lia) z6
  exact ⟨p',m,y1,y2.trans z2,y3.trans z3,by lia,y5,y6⟩
theorem run_count (w:SWO lt) {p:Array Nat} {nrem:Nat} (h1:1<=nrem) (hs:nrem<=p.size):∃ p' m,runT lt (kas_count nrem p)=(m,p')/\p'.Perm p/\p'.size=p.size/\1<=m/\m<=nrem/\Up lt p' m:=by
 obtain ⟨a1,a2,a3,a4⟩:=run_asc (lt:=lt) p (nrem - 1) 1
 rw [kas_count,runT_bind]
 generalize runT lt (kas_asc p (nrem - 1) 1)=n at a1 a2 a3 a4
 have u1:Up lt p 1:=fun i j hij hj=>by
  have:i=j:=by lia
  subst this; exact w.refl _
 have up:Up lt p n:=u1.more w (Nat.le_refl _) a3
 by_cases e:n=nrem
 ·subst e
  rw [if_pos (by simp)]
  exact ⟨p,n,rfl,Array.Perm.refl _,rfl,a1,Nat.le_refl _,up⟩
 ·rw [if_neg (by simpa using e)]
  have hb:=a4 (by lia)
  by_cases h2:n > 1
  ·rw [if_pos h2]
   show ∃ p' m,runT lt (if lt (gA p 0) (gA p (n - 1))=true then KasT.ret (n,p) else kas_descPart n nrem (kas_rev p 0 n))=(m,p')/\_
   by_cases c:lt (gA p 0) (gA p (n - 1))=true
   ·rw [if_pos c]
    exact ⟨p,n,rfl,Array.Perm.refl _,rfl,a1,by lia,up⟩
   ·rw [if_neg c]
    have c':lt (gA p 0) (gA p (n - 1))=false:=by simpa using c
    have all:∀ i j,i < n->j < n->lt (gA p i) (gA p j)=false:=fun i j hi hj =>
     w.trans _ _ _ (w.trans _ _ _ (up j (n - 1) (by lia) (by lia)) c') (up 0 i (by lia) hi)
    have d1:Dn lt (kas_rev p 0 n) n:=fun i j hij hj=>by
     rw [gA_mirror (by lia),gA_mirror (by lia),if_pos ⟨by lia,by lia⟩,if_pos ⟨by lia,hj⟩]
     exact all _ _ (by lia) (by lia)
    have hl:lt (gA (kas_rev p 0 n) (n - 1)) (gA (kas_rev p 0 n) n)=false:=by
     rw [gA_mirror (by lia),gA_mirror (by lia),if_pos ⟨by lia,by lia⟩,if_neg (by lia)]
     exact w.trans _ _ _ (w.asymm _ _ hb) (all _ _ (by lia) (by lia))
    obtain ⟨p',m,y1,y2,y3,y4,y5,y6⟩:=run_descPart (nrem:=nrem) w (p:=kas_rev p 0 n) a1 (by lia) (by rw [rev_size]; lia) d1 hl
    exact ⟨p',m,y1,y2.trans (rev_perm _ _ _),y3.trans (rev_size _ _ _),by lia,y5,y6⟩
  ·rw [if_neg h2]
   have e1:n=1:=by lia
   subst e1
   have d1:Dn lt p 1:=fun i j hij hj=>by
    have:i=j:=by lia
    subst this; exact w.refl _
   obtain ⟨p',m,y1,y2,y3,y4,y5,y6⟩:=run_descPart (nrem:=nrem) w (p:=p) (Nat.le_refl _) (by lia) hs d1 (w.asymm _ _ hb)
   exact ⟨p',m,y1,y2,y3,by lia,y5,y6⟩
theorem run_place (w:SWO lt) {p:Array Nat} {k:Nat}:∀ (f l r:Nat),l<=r->r<=k->r - l<=f->Up lt p k->(∀ i,i < l->lt (gA p k) (gA p i)=false)->(∀ i,r<=i->i < k->lt (gA p k) (gA p i)=true) ->
  ∃ m,runT lt (kas_place p k f l r)=m/\m<=k/\(∀ i,i < m->lt (gA p k) (gA p i)=false)/\(∀ i,m<=i->i < k->lt (gA p k) (gA p i)=true):=by
 intro f
 induction f with
 | zero =>
  intro l r hlr hrk hf up h1 h2
  have:l=r:=by lia
  subst this
  exact ⟨l,rfl,hrk,h1,h2⟩
 | succ f ih =>
  intro l r hlr hrk hf up h1 h2
  have e:runT lt (kas_place p k (f+1) l r)=if l>=r then l else if lt (gA p k) (gA p ((l+r) / 2))=true then runT lt (kas_place p k f l ((l+r) / 2)) else runT lt (kas_place p k f ((l+r) / 2+1) r):=by
   show runT lt (if l>=r then KasT.ret l else .ask (gA p k) (gA p ((l+r) / 2)) fun c=>if c=true then kas_place p k f l ((l+r) / 2) else kas_place p k f ((l+r) / 2+1) r)=_
   split
   ·rfl
   ·show runT lt (if lt (gA p k) (gA p ((l+r) / 2))=true then kas_place p k f l ((l+r) / 2) else kas_place p k f ((l+r) / 2+1) r)=_
    split <;> rfl
  rw [e]
  by_cases c:l>=r
  ·rw [if_pos c]
   have:l=r:=by lia
   subst this
   exact ⟨l,rfl,hrk,h1,h2⟩
  ·rw [if_neg c]
   by_cases d:lt (gA p k) (gA p ((l+r) / 2))=true
   ·rw [if_pos d]
    refine ih l ((l+r) / 2) (by lia) (by lia) (by lia) up h1 fun i i1 i2=>?_
    cases q:lt (gA p k) (gA p i) with
    | true=>rfl
    | false=>rw [w.trans _ _ _ (up ((l+r) / 2) i i1 i2) q] at d; cases d
   ·rw [if_neg d]
    refine ih ((l+r) / 2+1) r (by lia) hrk (by lia) up (fun i hi=>?_) h2
    exact w.trans _ _ _ (up i ((l+r) / 2) (by lia) (by lia)) (by simpa using d)
theorem gA_bubble {p:Array Nat} {src d:Nat} (hs:src < p.size) (hd:d<=src) (k:Nat):gA (bubble p src d) k=if k=src - d then gA p src else if src - d < k/\k<=src then gA p (k - 1) else gA p k:=by
 rw [gA_eq,getElem?_bubble hs d hd,gA_eq p src,gA_eq p (k - 1),gA_eq p k]
 by_cases h1:k=src - d
 ·rw [if_pos h1,if_pos h1]
 ·rw [if_neg h1,if_neg h1]
  by_cases h2:src - d < k/\k<=src
  ·rw [if_pos h2,if_pos h2]
  ·rw [if_neg h2,if_neg h2]
theorem run_bin (w:SWO lt):∀ (f:Nat) (p:Array Nat) (k:Nat),k+f<=p.size->Up lt p k->∃ p',runT lt (kas_bin f p k)=p'/\p'.Perm p/\p'.size=p.size/\Up lt p' (k+f):=by
 intro f
 induction f with
 | zero=>intro p k _ up; exact ⟨p,rfl,Array.Perm.refl _,rfl,up⟩
 | succ f ih =>
  intro p k hs up
  obtain ⟨m,e,hm,h1,h2⟩:=run_place w k 0 k (Nat.zero_le _) (Nat.le_refl _) (Nat.le_refl _) up (fun i hi=>absurd hi (by lia)) (fun i i1 i2=>absurd i1 (by lia))
  have up':Up lt (bubble p k (k - m)) (k+1):=by
   intro i j hij hj
   rw [gA_bubble (by lia) (by lia),gA_bubble (by lia) (by lia)]
   have ek:k - (k - m)=m:=by lia
   rw [ek]
   by_cases j1:j=m
   ·rw [if_pos j1]
    by_cases i1:i=m
    ·rw [if_pos i1]; exact w.refl _
    ·rw [if_neg i1,if_neg (by lia)]; exact h1 i (by lia)
   ·rw [if_neg j1]
    by_cases j2:m < j/\j<=k
    ·rw [if_pos j2]
     by_cases i1:i=m
     ·rw [if_pos i1]; exact w.asymm _ _ (h2 (j - 1) (by lia) (by lia))
     ·rw [if_neg i1]
      by_cases i2:m < i/\i<=k
      ·rw [if_pos i2]; exact up _ _ (by lia) (by lia)
      ·rw [if_neg i2]; exact up _ _ (by lia) (by lia)
    ·rw [if_neg j2,if_neg (by lia),if_neg (by lia)]; exact up _ _ hij (by lia)
  obtain ⟨p',z,z1,z2,z3⟩:=ih (bubble p k (k - m)) (k+1) (by rw [bubble_size]; lia) up'
  refine ⟨p',?_,z1.trans (bubble_perm _ _ _),z2.trans (bubble_size _ _ _),by rw [show k+(f+1)=k+1+f by lia]; exact z3⟩
  rw [kas_bin,runT_bind,e]; exact z
theorem run_sort (w:SWO lt) {n:Nat} (h1:1<=n):∃ p,runT lt (kas_sort n)=p/\p.toList.Perm (List.range n)/\p.size=n/\Up lt p n:=by
 obtain ⟨p,m,z,z1,z2,z3,z4,z5⟩:=run_count w (p:=(List.range n).toArray) h1 (by simp)
 have zs:p.size=n:=by rw [z2]; simp
 have zp:p.toList.Perm (List.range n):=by simpa using z1.toList
 rw [kas_sort,runT_bind,z]
 show ∃ q,runT lt (if m < n then kas_bin (n - max m 1) p (max m 1) else .ret p)=q/\_
 by_cases c:m < n
 ·rw [if_pos c]
  have em:max m 1=m:=by lia
  rw [em]
  obtain ⟨p',y,y1,y2,y3⟩:=run_bin w (n - m) p m (by lia) z5
  exact ⟨p',y,(by simpa using y1.toList:p'.toList.Perm p.toList).trans zp,y2.trans zs,by rw [show n=m+(n - m) by lia]; exact y3⟩
 ·rw [if_neg c]
  have:m=n:=by lia
  subst this
  exact ⟨p,rfl,zp,zs,z5⟩
end
end K2
end
section
namespace K2
open PySem PySem.Spec PyProof.Rows L2
open PySem.AutoSeq1 (wpAny_loadPart')
open PySem.MeetsSeq PySem.MeetsSeq2 PySem.MeetsSeq3 PySem.SeqAt
noncomputable def LtAt (A:Around) (s:Shared) (y x:Value) (b:Bool):Prop :=
 ∀ (prog:Program) (w:World) (E:Value->Shared->Prop) (Q:Value->Shared->Prop),Q (.bool b) s->wpAny (model prog w) A (richCompare .Lt y x) Q E s
noncomputable def lexN (e l:Nat->Bool) (n m:Nat):Nat->Nat->Bool
 | 0,_=>decide (n < m)
 | f+1,i=>if e i=true then lexN e l n m f (i+1) else l i
theorem lt_loop (l b:Addr) (xs ys:Array Value) (n m:Nat) (dd de:Option Addr) (sl sm:Array (Option Value)) (e lt:Nat->Bool) (k:Nat) :
  ∀ i:Nat,i<=min xs.size ys.size->min xs.size ys.size - i=k->Meets (Builtin.«list.__eq__.loop» ⟨[.ref l,.ref b,rawInt i,rawInt 0],[]⟩)
   (fun A R s=>s.heap.get? l=some { cls:=.type "list",dict:=dd,data:=.seq xs n,slots:=sl }/\s.heap.get? b=some { cls:=.type "list",dict:=de,data:=.seq ys m,slots:=sm } /\
    (∀ j (h1:j < xs.size) (h2:j < ys.size),EqAt A.in1 s xs[j] ys[j] (e j)/\LtAt A.in1 s xs[j] ys[j] (lt j)) /\
    R (.ok (.ret (.bool (lexN e lt xs.size ys.size k i)))) s):=by
 induction k with
 | zero =>
  intro i hi hk prog w A R s h
  obtain ⟨hp,g,d,tk,os⟩:=s
  obtain ⟨hl,hb,he,h⟩:=h
  wp_walk using wpAny_loadPart' hl,wpAny_loadPart' hb
  by_cases c:xs.size<=ys.size
  ·have h1:xs[((i:Nat):Int).toNat]?=none:=by simp; lia
   rw [h1]
   wp_walk using wpAny_loadPart' hl,wpAny_loadPart' hb
   exact h
  ·have h2:ys[((i:Nat):Int).toNat]?=none:=by simp; lia
   rw [h2]
   cases q:xs[((i:Nat):Int).toNat]? with
   | none =>
    wp_walk using wpAny_loadPart' hl,wpAny_loadPart' hb
    exact h
   | some v =>
    wp_walk using wpAny_loadPart' hl,wpAny_loadPart' hb
    exact h
 | succ k ih =>
  intro i hi hk prog w A R s h
  obtain ⟨hp,g,d,tk,os⟩:=s
  obtain ⟨hl,hb,he,h⟩:=h
  wp_walk using wpAny_loadPart' hl,wpAny_loadPart' hb
  have l1:i < xs.size:=by lia
  have l2:i < ys.size:=by lia
  have h1:xs[((i:Nat):Int).toNat]?=some xs[i]:=by simp [l1]
  have h2:ys[((i:Nat):Int).toNat]?=some ys[i]:=by simp [l2]
  have hc:((i:Int)+1)=((i+1:Nat):Int):=by push_cast; rfl
  rw [h1,h2]
  refine wpAny_bind ((he i l1 l2).1 prog w _ _ ?_)
  cases q:e i with
  | true =>
   rw [lexN,q,if_pos rfl] at h
   wp_walk
   rw [hc]
   exact ⟨plainId_quiet plain_eq_loop _,codeAny_builtin entry_eq_loop (by
    rw [Around.under_plainId plain_eq_loop _]
    exact ih (i+1) (by lia) (by lia) prog w A R _ ⟨hl,hb,he,h⟩)⟩
  | false =>
   rw [lexN,q,if_neg (by simp)] at h
   wp_walk using wpAny_loadPart' hl,wpAny_loadPart' hb
   rw [h1,h2]
   have hri:=(he i l1 l2).2 prog w
   wp_walk using hri
   exact h
theorem list_ltAt (l b:Addr) (xs ys:Array Value) (n m:Nat) (dd de:Option Addr) (sl sm:Array (Option Value)) (e lt:Nat->Bool) :
  Meets (Builtin.«list.__lt__» ⟨[.ref l,.ref b],[]⟩)
   (fun A R s=>s.heap.get? l=some { cls:=.type "list",dict:=dd,data:=.seq xs n,slots:=sl }/\s.heap.get? b=some { cls:=.type "list",dict:=de,data:=.seq ys m,slots:=sm } /\
    (∀ j (h1:j < xs.size) (h2:j < ys.size),EqAt A.in1 s xs[j] ys[j] (e j)/\LtAt A.in1 s xs[j] ys[j] (lt j)) /\
    R (.ok (.ret (.bool (lexN e lt xs.size ys.size (min xs.size ys.size) 0)))) s):=by
 intro prog w A R s h
 obtain ⟨hp,g,d,tk,os⟩:=s
 obtain ⟨hl,hb,he,h⟩:=h
 have f3:=AutoSeq1.sub_list_list
 wp_walk using wpAny_loadPart' hl,wpAny_loadPart' hb
 exact ⟨plainId_quiet plain_eq_loop _,codeAny_builtin entry_eq_loop (by
  rw [Around.under_plainId plain_eq_loop _]
  exact lt_loop l b xs ys n m dd de sl sm e lt _ 0 (Nat.zero_le _) rfl prog w A R _ ⟨hl,hb,he,h⟩)⟩
theorem tuple_ltAt (l b:Addr) (xs ys:Array Value) (n m:Nat) (dd de:Option Addr) (sl sm:Array (Option Value)) (e lt:Nat->Bool) :
  Meets (Builtin.«tuple.__lt__» ⟨[.ref l,.ref b],[]⟩)
   (fun A R s=>s.heap.get? l=some { cls:=.type "tuple",dict:=dd,data:=.seq xs n,slots:=sl }/\s.heap.get? b=some { cls:=.type "tuple",dict:=de,data:=.seq ys m,slots:=sm } /\
    (∀ j (h1:j < xs.size) (h2:j < ys.size),EqAt A.in1 s xs[j] ys[j] (e j)/\LtAt A.in1 s xs[j] ys[j] (lt j)) /\
    R (.ok (.ret (.bool (lexN e lt xs.size ys.size (min xs.size ys.size) 0)))) s) :=
 .of_wp fun prog w A R s h=>by
  obtain ⟨hp,g,d,tk,os⟩:=s
  obtain ⟨hl,hb,he,h⟩:=h
  have f2:=AutoSeq1.sub_tuple_tuple
  have zl:(xs.toList.zip ys.toList).length=min xs.size ys.size:=by simp
  wp_walk using wpAny_loadPart' hl,wpAny_loadPart' hb,wpAny_forIn_list _ (fun rest c s'=>c.1=none/\s'=⟨hp,g,d,tk,os⟩/\∃ i,i<=min xs.size ys.size/\rest=(xs.toList.zip ys.toList).drop i /\
   R (.ok (.ret (.bool (lexN e lt xs.size ys.size (min xs.size ys.size - i) i)))) ⟨hp,g,d,tk,os⟩) _
  case turn =>
   rintro ⟨y,x⟩ rest c s' ⟨hc,rfl,i,hi,hz,hR⟩
   have il:i < min xs.size ys.size:=by
    have:=congrArg List.length hz
    rw [List.length_drop,zl,List.length_cons] at this
    lia
   have l1:i < xs.size:=by lia
   have l2:i < ys.size:=by lia
   rw [List.drop_eq_getElem_cons (by rw [zl]; exact il)] at hz
   injection hz with hyx hrest
   have ey:y=xs[i]/\x=ys[i]:=by simpa using hyx
   obtain ⟨rfl,rfl⟩:=ey
   obtain ⟨k,ek⟩:∃ k,min xs.size ys.size - i=k+1:=⟨min xs.size ys.size - i - 1,by lia⟩
   rw [ek,lexN] at hR
   refine wpAny_bind ((he i l1 l2).1 prog w _ _ ?_)
   cases q:e i with
   | true =>
    rw [q,if_pos rfl] at hR
    wp_walk
    exact ⟨rfl,rfl,i+1,by lia,hrest,by rw [show min xs.size ys.size - (i+1)=k by lia]; exact hR⟩
   | false =>
    rw [q,if_neg (by simp)] at hR
    have hri:=(he i l1 l2).2 prog w
    wp_walk using hri
    exact ⟨_,rfl,by simpa using hR⟩
  case fin =>
   rintro ⟨c1,c2⟩ s' ⟨hc,rfl,i,hi,hz,hR⟩
   simp only at hc
   subst hc
   have il:min xs.size ys.size - i=0:=by
    have:=congrArg List.length hz
    rw [List.length_drop,zl,List.length_nil] at this
    lia
   rw [il,lexN] at hR
   wp_walk
   exact ⟨_,rfl,by simpa [Builtin.Tuple.tupleCompareSizes] using hR⟩
  case h =>
   exact ⟨rfl,rfl,0,Nat.zero_le _,rfl,by simpa using h⟩
theorem ltAt_list {A:Around} {s:Shared} {l b:Addr} {xs ys:Array Value} {e lt:Nat->Bool} (hl:s.heap.IsList l xs) (hb:s.heap.IsList b ys) (hu:A.units < cLine)
  (he:∀ j (h1:j < xs.size) (h2:j < ys.size),EqAt A.in1 s xs[j] ys[j] (e j)/\LtAt A.in1 s xs[j] ys[j] (lt j)):LtAt A s (.ref l) (.ref b) (lexN e lt xs.size ys.size (min xs.size ys.size) 0):=by
 intro prog w E Q hq
 obtain ⟨⟨cls,dd,data,sl⟩,ho,hc,n,hd⟩:=id hl
 obtain ⟨⟨cls2,dd2,data2,sl2⟩,ho2,hc2,n2,hd2⟩:=id hb
 simp only at hc hd hc2 hd2
 subst hc hd hc2 hd2
 exact richCompare_meets_room (op:=.Lt) ⟨_,ho,rfl⟩ ⟨_,ho2,rfl⟩ PySem.F.slot_list_lt PySem.F.entry_list_lt (PySem.F.args_list_lt_2 _ _) (list_ltAt l b xs ys n n2 dd dd2 sl sl2 e lt)
  ⟨ho,ho2,he,(fun x=>nomatch x),hq⟩ hu
theorem ltAt_tuple {A:Around} {s:Shared} {l b:Addr} {xs ys:Array Value} {e lt:Nat->Bool} (hl:s.heap.IsTuple l xs) (hb:s.heap.IsTuple b ys) (hu:A.units < cLine)
  (he:∀ j (h1:j < xs.size) (h2:j < ys.size),EqAt A.in1 s xs[j] ys[j] (e j)/\LtAt A.in1 s xs[j] ys[j] (lt j)):LtAt A s (.ref l) (.ref b) (lexN e lt xs.size ys.size (min xs.size ys.size) 0):=by
 intro prog w E Q hq
 obtain ⟨⟨cls,dd,data,sl⟩,ho,hc,n,hd⟩:=id hl
 obtain ⟨⟨cls2,dd2,data2,sl2⟩,ho2,hc2,n2,hd2⟩:=id hb
 simp only at hc hd hc2 hd2
 subst hc hd hc2 hd2
 exact richCompare_meets_room (op:=.Lt) ⟨_,ho,rfl⟩ ⟨_,ho2,rfl⟩ PySem.F.slot_tuple_lt PySem.F.entry_tuple_lt (PySem.F.args_tuple_lt_2 _ _) (tuple_ltAt l b xs ys n n2 dd dd2 sl sl2 e lt)
  ⟨ho,ho2,he,(fun x=>nomatch x),hq⟩ hu
theorem lexN_ltDs (xs ys:List D):∀ (k i:Nat),i<=min xs.length ys.length->min xs.length ys.length - i=k ->
  lexN (fun j=>eqD (xs.getD j .non) (ys.getD j .non)) (fun j=>ltD (xs.getD j .non) (ys.getD j .non)) xs.length ys.length k i=ltDs (xs.drop i) (ys.drop i)
 | 0,i,hi,hk=>by
  rw [lexN]
  by_cases c:xs.length<=ys.length
  ·have e1:xs.drop i=[]:=List.drop_eq_nil_of_le (by lia)
   rw [e1]
   cases q:ys.drop i with
   | nil =>
    have:=congrArg List.length q
    rw [List.length_drop,List.length_nil] at this
    exact decide_eq_false (by lia)
   | cons y r =>
    have:=congrArg List.length q
    rw [List.length_drop,List.length_cons] at this
    exact decide_eq_true (by lia)
  ·have e1:ys.drop i=[]:=List.drop_eq_nil_of_le (by lia)
   rw [e1]
   cases q:xs.drop i with
   | nil =>
    have:=congrArg List.length q
    rw [List.length_drop,List.length_nil] at this
    exact decide_eq_false (by lia)
   | cons y r=>exact decide_eq_false (by lia)
 | k+1,i,hi,hk=>by
  have l1:i < xs.length:=by lia
  have l2:i < ys.length:=by lia
  rw [lexN,List.drop_eq_getElem_cons l1,List.drop_eq_getElem_cons l2,ltDs_c,lexN_ltDs xs ys k (i+1) (by lia) (by lia)]
  have g1:xs.getD i .non=xs[i]:=by rw [List.getD_eq_getElem?_getD,List.getElem?_eq_getElem l1]; rfl
  have g2:ys.getD i .non=ys[i]:=by rw [List.getD_eq_getElem?_getD,List.getElem?_eq_getElem l2]; rfl
  rw [g1,g2]
theorem reads_at {h:Heap}:∀ {ds:List D} {vs:List Value} {as:List Addr},ReadsAll h vs (pds ds) as->∀ j (hj:j < vs.length),∃ bs,Reads h vs[j] (pd (ds.getD j .non)) bs
 | [],vs,as,r,j,hj=>by cases r; exact absurd hj (Nat.not_lt_zero _)
 | d :: ds,_,_,.cons (v:=v) (vs:=vs) r1 r2,j,hj=>by
  cases j with
  | zero=>exact ⟨_,r1⟩
  | succ j=>exact reads_at r2 j (by simpa using hj)
theorem readsAll_len {h:Heap}:∀ {ds:List D} {vs:List Value} {as:List Addr},ReadsAll h vs (pds ds) as->vs.length=ds.length
 | [],_,_,r=>by cases r; rfl
 | d :: ds,_,_,.cons r1 r2=>by rw [List.length_cons,List.length_cons,readsAll_len r2]
theorem nrs_at:∀ {ds:List D},nrs ds=true->∀ j,nr (ds.getD j .non)=true
 | [],_,j=>by rw [List.getD_nil]; rfl
 | d :: ds,h,0=>by
  have h:(nr d&&nrs ds)=true:=h
  rw [Bool.and_eq_true] at h; simpa using h.1
 | d :: ds,h,j+1=>by
  have h:(nr d&&nrs ds)=true:=h
  rw [Bool.and_eq_true] at h; simpa using nrs_at h.2 j
theorem depthAll_at:∀ (ds:List D) (j:Nat),(pd (ds.getD j .non)).depth<=PyData.depthAll (pds ds)
 | [],j=>by rw [List.getD_nil]; exact Nat.le_refl _
 | d :: ds,0=>by
  show (pd d).depth<=PyData.depthAll (pd d :: pds ds)
  simp only [PyData.depthAll]; lia
 | d :: ds,j+1=>by
  have:=depthAll_at ds j
  show (pd (ds.getD j .non)).depth<=PyData.depthAll (pd d :: pds ds)
  simp only [PyData.depthAll]; lia
theorem hasSs_at:∀ {l:List Shp} {ds:List D},hasSs l ds=true->∀ j,j < ds.length->∃ s∈l,hasS s (ds.getD j .non)=true/\l[j]?=some s
 | [],[],_,j,hj=>absurd hj (Nat.not_lt_zero _)
 | [],_ :: _,h,_,_=>by cases h
 | _ :: _,[],h,_,_=>by cases h
 | s :: l,d :: ds,h,0,_=>by
  have h:(hasS s d&&hasSs l ds)=true:=h
  rw [Bool.and_eq_true] at h
  exact ⟨s,by simp,by simpa using h.1,by simp⟩
 | s :: l,d :: ds,h,j+1,hj=>by
  have h:(hasS s d&&hasSs l ds)=true:=h
  rw [Bool.and_eq_true] at h
  obtain ⟨s',h1,h2,h3⟩:=hasSs_at h.2 j (by simpa using hj)
  exact ⟨s',List.mem_cons_of_mem _ h1,by simpa using h2,by simpa using h3⟩
theorem hasSl_at:∀ {s:Shp} {ds:List D},hasSl s ds=true->∀ j,j < ds.length->hasS s (ds.getD j .non)=true
 | s,[],_,j,hj=>absurd hj (Nat.not_lt_zero _)
 | s,d :: ds,h,0,_=>by
  have h:(hasS s d&&hasSl s ds)=true:=h
  rw [Bool.and_eq_true] at h; simpa using h.1
 | s,d :: ds,h,j+1,hj=>by
  have h:(hasS s d&&hasSl s ds)=true:=h
  rw [Bool.and_eq_true] at h; simpa using hasSl_at h.2 j (by simpa using hj)
theorem eqAt_at {A:Around} {s:Shared} {xs ys:List D} {vs ws:Array Value} {as bs:List Addr} (r1:ReadsAll s.heap vs.toList (pds xs) as) (r2:ReadsAll s.heap ws.toList (pds ys) bs) (n1:nrs xs=true) (n2:nrs ys=true)
  (hu:A.units+PyData.depthAll (pds xs) < cLine) (j:Nat) (h1:j < vs.size) (h2:j < ws.size):EqAt A s vs[j] ws[j] (eqD (xs.getD j .non) (ys.getD j .non)):=by
 obtain ⟨as',q1⟩:=reads_at r1 j (by simpa using h1)
 obtain ⟨bs',q2⟩:=reads_at r2 j (by simpa using h2)
 have m1:=nrs_at n1 j
 have m2:=nrs_at n2 j
 have dp:=depthAll_at xs j
 have:=eqAt_reads (pd (xs.getD j .non)) (pd (ys.getD j .non)) A s _ _ _ _ q1 q2 (lay_pd _ m1) (lay_pd _ m2) (by lia)
 rw [eqv_pd _ _ m1 m2] at this
 simpa using this
theorem ltAt_reads:∀ (n:Nat) (sh:Shp) (a b:D) (A:Around) (s:Shared) (u v:Value) (as bs:List Addr),(pd a).depth<=n->hasS sh a=true->hasS sh b=true->nr a=true->nr b=true->Reads s.heap u (pd a) as->Reads s.heap v (pd b) bs->A.units+n < cLine->LtAt A s u v (ltD a b):=by
 intro n
 induction n using Nat.strongRecOn with
 | _ n ih =>
 intro sh a b A s u v as bs hn h1 h2 n1 n2 r1 r2 hu
 cases sh with
 | int =>
  first | obtain ⟨_,rfl⟩:=hasS_i h1 | obtain ⟨_,rfl⟩:=hasS_t h1 | obtain ⟨_,rfl⟩:=hasS_l h1
  first | obtain ⟨_,rfl⟩:=hasS_i h2 | obtain ⟨_,rfl⟩:=hasS_t h2 | obtain ⟨_,rfl⟩:=hasS_l h2
  cases r1; cases r2
  intro prog w E Q hq
  exact HT.rcLt_int A s _ _ _ _ prog w E Q hq
 | tup l =>
  first | obtain ⟨_,rfl⟩:=hasS_i h1 | obtain ⟨_,rfl⟩:=hasS_t h1 | obtain ⟨_,rfl⟩:=hasS_l h1
  first | obtain ⟨_,rfl⟩:=hasS_i h2 | obtain ⟨_,rfl⟩:=hasS_t h2 | obtain ⟨_,rfl⟩:=hasS_l h2
  rename_i xs ys
  have n1:nrs xs=true:=n1
  have n2:nrs ys=true:=n2
  cases r1 with
  | tuple k1 k2 k3 k4 =>
   cases r2 with
   | tuple m1 m2 m3 m4 =>
    rename_i p o vs c p' o' ws c'
    have hd:(pd (.tup xs)).depth=PyData.depthAll (pds xs)+1:=rfl
    obtain ⟨n',rfl⟩:∃ n',n=n'+1:=⟨n - 1,by lia⟩
    have z1:=readsAll_len k4
    have z2:=readsAll_len m4
    have e1:vs.size=xs.length:=by simpa using z1
    have e2:ws.size=ys.length:=by simpa using z2
    have base:=ltAt_tuple (A:=A) (s:=s) (e:=fun j=>eqD (xs.getD j .non) (ys.getD j .non)) (lt:=fun j=>ltD (xs.getD j .non) (ys.getD j .non)) ⟨_,k1,k2,_,k3⟩ ⟨_,m1,m2,_,m3⟩ (by lia) (fun j j1 j2=>by
     refine ⟨eqAt_at k4 m4 n1 n2 (by show A.units+1+_ < _; lia) j j1 j2,?_⟩
     obtain ⟨as',q1⟩:=reads_at k4 j (by simpa using j1)
     obtain ⟨bs',q2⟩:=reads_at m4 j (by simpa using j2)
     obtain ⟨sj,hsj,g1,g2⟩:=hasSs_at (l:=l) (ds:=xs) h1 j (by lia)
     obtain ⟨sj',hsj',g1',g2'⟩:=hasSs_at (l:=l) (ds:=ys) h2 j (by lia)
     rw [g2] at g2'; cases g2'
     have dp:=depthAll_at xs j
     have:=ih n' (by lia) sj (xs.getD j .non) (ys.getD j .non) A.in1 s _ _ _ _ (by lia) g1 g1' (nrs_at n1 j) (nrs_at n2 j) q1 q2 (by show A.units+1+n' < cLine; lia)
     simpa using this)
    have fin:=lexN_ltDs xs ys (min xs.length ys.length) 0 (Nat.zero_le _) rfl
    rw [e1,e2,fin] at base
    exact base
 | lst l =>
  first | obtain ⟨_,rfl⟩:=hasS_i h1 | obtain ⟨_,rfl⟩:=hasS_t h1 | obtain ⟨_,rfl⟩:=hasS_l h1
  first | obtain ⟨_,rfl⟩:=hasS_i h2 | obtain ⟨_,rfl⟩:=hasS_t h2 | obtain ⟨_,rfl⟩:=hasS_l h2
  rename_i xs ys
  have n1:nrs xs=true:=n1
  have n2:nrs ys=true:=n2
  cases r1 with
  | list k1 k2 k3 k4 =>
   cases r2 with
   | list m1 m2 m3 m4 =>
    rename_i p o vs c p' as' o' ws c' bs'
    have hd:(pd (.rol xs)).depth=PyData.depthAll (pds xs)+1:=rfl
    obtain ⟨n',rfl⟩:∃ n',n=n'+1:=⟨n - 1,by lia⟩
    have z1:=readsAll_len k4
    have z2:=readsAll_len m4
    have e1:vs.size=xs.length:=by simpa using z1
    have e2:ws.size=ys.length:=by simpa using z2
    have base:=ltAt_list (A:=A) (s:=s) (e:=fun j=>eqD (xs.getD j .non) (ys.getD j .non)) (lt:=fun j=>ltD (xs.getD j .non) (ys.getD j .non)) ⟨_,k1,k2,_,k3⟩ ⟨_,m1,m2,_,m3⟩ (by lia) (fun j j1 j2=>by
     refine ⟨eqAt_at k4 m4 n1 n2 (by show A.units+1+_ < _; lia) j j1 j2,?_⟩
     obtain ⟨as',q1⟩:=reads_at k4 j (by simpa using j1)
     obtain ⟨bs',q2⟩:=reads_at m4 j (by simpa using j2)
     have dp:=depthAll_at xs j
     have:=ih n' (by lia) l (xs.getD j .non) (ys.getD j .non) A.in1 s _ _ _ _ (by lia) (hasSl_at (s:=l) (ds:=xs) h1 j (by lia)) (hasSl_at (s:=l) (ds:=ys) h2 j (by lia)) (nrs_at n1 j) (nrs_at n2 j) q1 q2 (by show A.units+1+n' < cLine; lia)
     simpa using this)
    have fin:=lexN_ltDs xs ys (min xs.length ys.length) 0 (Nat.zero_le _) rfl
    rw [e1,e2,fin] at base
    exact base
end K2
end
section
namespace K2
open PySem PySem.Spec PyProof.Rows L2 PySem.W
section
variable {prog:Program} {w:World} {A:Around} {E:Value->Shared->Prop} {s:Shared}
theorem sort_few {at':Addr} {its:List Value} {n:Nat} {P:PySem.Fin->Shared->Prop} (hat:s.heap.get? at'=some (seqObj "list" its.toArray n)) (few:its.length < 2)
  (done:P (.done (.ret .none)) { s with heap:=sortedHeap s.heap at' its its.toArray }):wpAny (model prog w) A (Builtin.«list.sort» ⟨[.ref at'],[]⟩) P E s:=by
 rw [list_sort_plain]
 have lt':at' < s.heap.objs.size:=Heap.lt_size hat
 refine wpAny_bind (listItems_at hat rfl (wpAny_bind (listUpdate_at hat rfl ?_)))
 obtain ⟨c,hc⟩:∃ c,(s.heap.update at' (Obj.mapSeq fun _=>#[])).get? at'=some (seqObj "list" #[] c):=⟨_,get?_update_seq hat (fun _=>#[])⟩
 refine wpAny_bind (seqEpoch_at hc rfl (wpAny_bind (wpAny_newTuple (wpAny_bind (wpAny_newList (wpAny_holding ?_))))))
 have h6:(((s.heap.update at' (Obj.mapSeq fun _=>#[])).push (seqObj "tuple" its.toArray 0)).push (seqObj "list" #[] 0)).get? at'=some (seqObj "list" #[] c):=by
  rw [Heap.get?_push_ne _ _ _ (by rw [size_push',Heap.size_update]; exact Nat.ne_of_lt (Nat.lt_succ_of_lt lt')),Heap.get?_push_ne _ _ _ (by rw [Heap.size_update]; exact Nat.ne_of_lt lt')]
  exact hc
 show wpAny (model prog w) A _ P E { s with heap:=((s.heap.update at' (Obj.mapSeq fun _=>#[])).push (seqObj "tuple" its.toArray 0)).push (seqObj "list" #[] 0) }
 dsimp only
 have sz2:its.toArray.size < 2:=by simpa using few
 rw [if_pos sz2,if_pos sz2]
 refine wpAny_bind (wpAny_pure ?_)
 rw [StateT.run_pure]
 refine wpAny_bind (wpAny_pure ?_)
 dsimp only
 have es:(its.toArray.zip its.toArray).map (·.2)=its.toArray:=by
  apply Array.toList_inj.mp
  simp [List.map_snd_zip]
 refine wpAny_bind (seqEpoch_at h6 rfl (wpAny_bind (listUpdate_at h6 rfl ?_ (hsz2:=by rw [show (arrOf (SortSt.mk' general' (its.toArray.zip its.toArray) #[] 7 none)).map (·.2)=its.toArray from es,sizeLine_eq]; simp; lia))))
 simp only [bne_self_eq_false,Bool.false_eq_true,if_false]
 refine wpAny_pure ?_
 rw [show (arrOf (SortSt.mk' general' (its.toArray.zip its.toArray) #[] 7 none)).map (·.2)=its.toArray from es]
 exact done
theorem sorted_few {l:Addr} {its:List Value} {Q:Value->Shared->Prop} (hl:s.heap.IsList l its.toArray) (few:its.length < 2)
  (done:Q (.ref (s.heap.objs.size+1)) { s with heap:=sortedAll s.heap its its.toArray }):wpAny (model prog w) A (call (.builtin "sorted") [.ref l]) Q E s:=by
 refine Calls.call_function_entry kind_sorted plain_sorted entry_sorted (args_sorted1 _) ?_
 unfold Builtin.«sorted»
 refine wpAny_bind (m:=checkCount "sorted" 1 1 _) (wpAny_pure (wpAny_bind (collect_list hl (wpAny_bind (wpAny_newList ?_)))))
 have e1:((s.heap.push (seqObj "list" #[] 0)).update s.heap.objs.size (Obj.mapSeq (·++its.toArray))).objs.size=s.heap.objs.size+1:=by rw [Heap.size_update,size_push']
 have e2:(((s.heap.push (seqObj "list" #[] 0)).update s.heap.objs.size (Obj.mapSeq (·++its.toArray))).push (seqObj "list" its.toArray 0)).get? (s.heap.objs.size+1)=some (seqObj "list" its.toArray 0):=by
  rw [← e1]; exact Heap.get?_push_size _ rfl
 show wpAny _ _ _ _ _ { s with heap:=((s.heap.push (seqObj "list" #[] 0)).update s.heap.objs.size (Obj.mapSeq (·++its.toArray))).push (seqObj "list" its.toArray 0) }
 rw [e1]
 refine wpAny_bind (wpAny_holding (wpAny_call_entry slot_list_sort ⟨_,e2,rfl⟩ entry_list_sort (sort_few e2 few ⟨_,rfl,?_⟩) (args_list_sort _)))
 exact wpAny_pure ⟨_,rfl,done⟩
end
section
open PySem.SeqAt
noncomputable def OneAt (A:Around) (s:Shared) (y x:Value) (b:Bool):Prop :=
 ∀ (prog:Program) (w:World) (E:Value->Shared->Prop) (Q:Bool->Shared->Prop),Q b s->wpAny (model prog w) A (oneLt' true y x) Q E s
theorem oneAt_list {A:Around} {s:Shared} {l b:Addr} {xs ys:Array Value} {e lt:Nat->Bool} (hl:s.heap.IsList l xs) (hb:s.heap.IsList b ys) (hu:A.units < cLine)
  (he:∀ j (h1:j < xs.size) (h2:j < ys.size),EqAt A.in1 s xs[j] ys[j] (e j)/\LtAt A.in1 s xs[j] ys[j] (lt j)):OneAt A s (.ref l) (.ref b) (lexN e lt xs.size ys.size (min xs.size ys.size) 0):=by
 intro prog w E Q hq
 obtain ⟨⟨cls,dd,data,sl⟩,ho,hc,n,hd⟩:=id hl
 obtain ⟨⟨cls2,dd2,data2,sl2⟩,ho2,hc2,n2,hd2⟩:=id hb
 simp only at hc hd hc2 hd2
 subst hc hd hc2 hd2
 rw [oneLt'_eq]
 simp only [if_true]
 refine wpAny_bind (wpAny_cRoomFor hu (wpAny_bind (wpAny_callSpecialIfBound?_slot (T:="list") ⟨_,ho,rfl⟩ PySem.F.slot_list_lt ?_)))
 exact call_meets PySem.F.slot_list_lt ⟨_,ho,rfl⟩ PySem.F.entry_list_lt (PySem.F.args_list_lt_2 _ _) (list_ltAt l b xs ys n n2 dd dd2 sl sl2 e lt) ⟨ho,ho2,he,wpAny_truthy_bool hq⟩
theorem oneAt_tuple {A:Around} {s:Shared} {l b:Addr} {xs ys:Array Value} {e lt:Nat->Bool} (hl:s.heap.IsTuple l xs) (hb:s.heap.IsTuple b ys) (hu:A.units < cLine)
  (he:∀ j (h1:j < xs.size) (h2:j < ys.size),EqAt A.in1 s xs[j] ys[j] (e j)/\LtAt A.in1 s xs[j] ys[j] (lt j)):OneAt A s (.ref l) (.ref b) (lexN e lt xs.size ys.size (min xs.size ys.size) 0):=by
 intro prog w E Q hq
 obtain ⟨⟨cls,dd,data,sl⟩,ho,hc,n,hd⟩:=id hl
 obtain ⟨⟨cls2,dd2,data2,sl2⟩,ho2,hc2,n2,hd2⟩:=id hb
 simp only at hc hd hc2 hd2
 subst hc hd hc2 hd2
 rw [oneLt'_eq]
 simp only [if_true]
 refine wpAny_bind (wpAny_cRoomFor hu (wpAny_bind (wpAny_callSpecialIfBound?_slot (T:="tuple") ⟨_,ho,rfl⟩ PySem.F.slot_tuple_lt ?_)))
 exact call_meets PySem.F.slot_tuple_lt ⟨_,ho,rfl⟩ PySem.F.entry_tuple_lt (PySem.F.args_tuple_lt_2 _ _) (tuple_ltAt l b xs ys n n2 dd dd2 sl sl2 e lt) ⟨ho,ho2,he,wpAny_truthy_bool hq⟩
theorem items_at {n:Nat} {A:Around} {s:Shared} {xs ys:List D} {vs ws:Array Value} {as bs:List Addr} (r1:ReadsAll s.heap vs.toList (pds xs) as) (r2:ReadsAll s.heap ws.toList (pds ys) bs) (n1:nrs xs=true) (n2:nrs ys=true) (hd:PyData.depthAll (pds xs)<=n)
  (hu:A.units+n < cLine) (hs:∀ j,j < xs.length->j < ys.length->∃ sh,hasS sh (xs.getD j .non)=true/\hasS sh (ys.getD j .non)=true) (j:Nat) (h1:j < vs.size) (h2:j < ws.size) :
  EqAt A s vs[j] ws[j] (eqD (xs.getD j .non) (ys.getD j .non))/\LtAt A s vs[j] ws[j] (ltD (xs.getD j .non) (ys.getD j .non)):=by
 have z1:=readsAll_len r1
 have z2:=readsAll_len r2
 have e1:vs.size=xs.length:=by simpa using z1
 have e2:ws.size=ys.length:=by simpa using z2
 refine ⟨eqAt_at r1 r2 n1 n2 (by lia) j h1 h2,?_⟩
 obtain ⟨as',q1⟩:=reads_at r1 j (by simpa using h1)
 obtain ⟨bs',q2⟩:=reads_at r2 j (by simpa using h2)
 obtain ⟨sh,g1,g2⟩:=hs j (by lia) (by lia)
 have dp:=depthAll_at xs j
 have:=ltAt_reads n sh (xs.getD j .non) (ys.getD j .non) A s _ _ _ _ (by lia) g1 g2 (nrs_at n1 j) (nrs_at n2 j) q1 q2 hu
 simpa using this
theorem oneAt_reads {n:Nat} {sh:Shp} {a b:D} {A:Around} {s:Shared} {u v:Value} {as bs:List Addr} (hn:(pd a).depth<=n) (h1:hasS sh a=true) (h2:hasS sh b=true) (n1:nr a=true) (n2:nr b=true) (r1:Reads s.heap u (pd a) as) (r2:Reads s.heap v (pd b) bs)
  (hu:A.units+n < cLine):OneAt A s u v (ltD a b):=by
 cases sh with
 | int =>
  first | obtain ⟨_,rfl⟩:=hasS_i h1 | obtain ⟨_,rfl⟩:=hasS_t h1 | obtain ⟨_,rfl⟩:=hasS_l h1
  first | obtain ⟨_,rfl⟩:=hasS_i h2 | obtain ⟨_,rfl⟩:=hasS_t h2 | obtain ⟨_,rfl⟩:=hasS_l h2
  cases r1; cases r2
  intro prog w E Q hq
  exact oneLt_int hq
 | tup l =>
  first | obtain ⟨_,rfl⟩:=hasS_i h1 | obtain ⟨_,rfl⟩:=hasS_t h1 | obtain ⟨_,rfl⟩:=hasS_l h1
  first | obtain ⟨_,rfl⟩:=hasS_i h2 | obtain ⟨_,rfl⟩:=hasS_t h2 | obtain ⟨_,rfl⟩:=hasS_l h2
  rename_i xs ys
  have n1:nrs xs=true:=n1
  have n2:nrs ys=true:=n2
  cases r1 with
  | tuple k1 k2 k3 k4 =>
   cases r2 with
   | tuple m1 m2 m3 m4 =>
    rename_i p o vs c p' o' ws c'
    have hd:(pd (.tup xs)).depth=PyData.depthAll (pds xs)+1:=rfl
    obtain ⟨n',rfl⟩:∃ n',n=n'+1:=⟨n - 1,by lia⟩
    have z1:=readsAll_len k4
    have z2:=readsAll_len m4
    have e1:vs.size=xs.length:=by simpa using z1
    have e2:ws.size=ys.length:=by simpa using z2
    have base:=oneAt_tuple (A:=A) (s:=s) ⟨_,k1,k2,_,k3⟩ ⟨_,m1,m2,_,m3⟩ (by lia) (items_at (A:=A.in1) (n:=n') k4 m4 n1 n2 (by lia) (by show A.units+1+n' < cLine; lia) fun j j1 j2=>by
     obtain ⟨sj,hsj,g1,g2⟩:=hasSs_at (l:=l) (ds:=xs) h1 j j1
     obtain ⟨sj',hsj',g1',g2'⟩:=hasSs_at (l:=l) (ds:=ys) h2 j j2
     rw [g2] at g2'; cases g2'
     exact ⟨sj,g1,g1'⟩)
    have fin:=lexN_ltDs xs ys (min xs.length ys.length) 0 (Nat.zero_le _) rfl
    rw [e1,e2,fin] at base
    exact base
 | lst l =>
  first | obtain ⟨_,rfl⟩:=hasS_i h1 | obtain ⟨_,rfl⟩:=hasS_t h1 | obtain ⟨_,rfl⟩:=hasS_l h1
  first | obtain ⟨_,rfl⟩:=hasS_i h2 | obtain ⟨_,rfl⟩:=hasS_t h2 | obtain ⟨_,rfl⟩:=hasS_l h2
  rename_i xs ys
  have n1:nrs xs=true:=n1
  have n2:nrs ys=true:=n2
  cases r1 with
  | list k1 k2 k3 k4 =>
   cases r2 with
   | list m1 m2 m3 m4 =>
    rename_i p o vs c p' as' o' ws c' bs'
    have hd:(pd (.rol xs)).depth=PyData.depthAll (pds xs)+1:=rfl
    obtain ⟨n',rfl⟩:∃ n',n=n'+1:=⟨n - 1,by lia⟩
    have z1:=readsAll_len k4
    have z2:=readsAll_len m4
    have e1:vs.size=xs.length:=by simpa using z1
    have e2:ws.size=ys.length:=by simpa using z2
    have base:=oneAt_list (A:=A) (s:=s) ⟨_,k1,k2,_,k3⟩ ⟨_,m1,m2,_,m3⟩ (by lia) (items_at (A:=A.in1) (n:=n') k4 m4 n1 n2 (by lia) (by show A.units+1+n' < cLine; lia) fun j j1 j2=>⟨l,hasSl_at (s:=l) (ds:=xs) h1 j j1,hasSl_at (s:=l) (ds:=ys) h2 j j2⟩)
    have fin:=lexN_ltDs xs ys (min xs.length ys.length) 0 (Nat.zero_le _) rfl
    rw [e1,e2,fin] at base
    exact base
theorem katLex_reads {prog:Program} {w:World} {A:Around} {s:Shared} {b fin:Bool} {Q:Bool->Shared->Prop} {n:Nat} (hu:A.units+n < cLine):∀ (l:List Shp) (xs ys:List D) (vs ws:List Value) (as bs:List Addr) (i:Nat),hasSs l xs=true->hasSs l ys=true->nrs xs=true->nrs ys=true ->
  ReadsAll s.heap vs (pds xs) as->ReadsAll s.heap ws (pds ys) bs->PyData.depthAll (pds xs)<=n->fin=false->Q (ltDs xs ys) s->KatLex prog w A b fin Q (vs.zip ws) i s:=by
 intro l xs
 induction xs generalizing l with
 | nil =>
  intro ys vs ws as bs i h1 h2 n1 n2 r1 r2 hd hf hq
  cases r1
  cases l with
  | nil =>
   cases ys with
   | nil=>cases r2; subst hf; exact hq
   | cons _ _=>cases h2
  | cons _ _=>cases h1
 | cons x xs ih =>
  intro ys vs ws as bs i h1 h2 n1 n2 r1 r2 hd hf hq
  cases l with
  | nil=>cases h1
  | cons sh l =>
  cases ys with
  | nil=>cases h2
  | cons y ys =>
  cases r1 with
  | @cons v vs _ _ _ _ a1 a2 =>
  cases r2 with
  | @cons u ws _ _ _ _ b1 b2 =>
  have h1:(hasS sh x&&hasSs l xs)=true:=h1
  have h2:(hasS sh y&&hasSs l ys)=true:=h2
  have n1:(nr x&&nrs xs)=true:=n1
  have n2:(nr y&&nrs ys)=true:=n2
  rw [Bool.and_eq_true] at h1 h2 n1 n2
  have hd1:(pd x).depth<=n/\PyData.depthAll (pds xs)<=n:=by
   have hd:PyData.depthAll (pd x :: pds xs)<=n:=hd
   simp only [PyData.depthAll] at hd
   lia
  show KatLex prog w A b fin Q ((v,u) :: vs.zip ws) i s
  have eq:=eqAt_reads (pd x) (pd y) A s _ _ _ _ a1 b1 (lay_pd _ n1.1) (lay_pd _ n2.1) (by lia)
  rw [eqv_pd _ _ n1.1 n2.1] at eq
  refine kat_cons (eq prog w _ _ ?_)
  rw [ltDs_c] at hq
  cases q:eqD x y with
  | true =>
   rw [q,if_pos rfl] at hq
   exact kat_yes (ih l ys vs ws _ _ (i+1) h1.2 h2.2 n1.2 n2.2 a2 b2 hd1.2 hf hq)
  | false =>
   rw [q,if_neg (by simp)] at hq
   refine kat_no ?_
   cases c:(b&&i == 0) with
   | true=>exact oneAt_reads hd1.1 h1.1 h2.1 n1.1 n2.1 a1 b1 hu prog w _ Q hq
   | false=>exact kat_one v u (ltAt_reads n sh x y A s _ _ _ _ hd1.1 h1.1 h2.1 n1.1 n2.1 a1 b1 hu prog w _ _ hq)
end
noncomputable def AskP {α:Type} (n:Nat) (P:α->Prop):KasT α->Prop
 | .ret a=>P a
 | .ask i j k=>i < n/\j < n/\∀ b,AskP n P (k b)
theorem AskP.bind {α β:Type} {n:Nat} {P:α->Prop} {P':β->Prop} {f:α->KasT β}:∀ {t:KasT α},AskP n P t->(∀ a,P a->AskP n P' (f a))->AskP n P' (t.bind f)
 | .ret a,q,h=>h a q
 | .ask i j k,⟨q1,q2,q3⟩,h=>⟨q1,q2,fun b=>AskP.bind (q3 b) h⟩
theorem kas_pure {α:Type} {n:Nat} {lt:Nat->Nat->Bool} {cmp:Nat->Nat->(Bool->Shared->Prop)->Shared->Prop} {s:Shared} {Q:α->Shared->Prop} (hc:∀ i j,i < n->j < n->∀ C:Bool->Shared->Prop,C (lt i j) s->cmp i j C s) :
  ∀ (t:KasT α),AskP n (fun _=>True) t->Q (runT lt t) s->t.kasWp cmp Q s
 | .ret a,_,q=>q
 | .ask i j k,⟨h1,h2,h3⟩,q=>hc i j h1 h2 _ (kas_pure hc (k (lt i j)) (h3 _) q)
noncomputable def Bd (n:Nat) (p:Array Nat):Prop:=0 < n/\∀ x∈p,x < n
theorem Bd.at {n:Nat} {p:Array Nat} (h:Bd n p) (k:Nat):p.getD k 0 < n:=by
 by_cases hk:k < p.size
 ·have:p.getD k 0=p[k]:=by simp [Array.getD,hk]
  rw [this]; exact h.2 _ (Array.getElem_mem hk)
 ·have:p.getD k 0=0:=by simp [Array.getD,hk]
  rw [this]; exact h.1
theorem Bd.perm {n:Nat} {p q:Array Nat} (h:Bd n p) (hp:q.Perm p):Bd n q:=⟨h.1,fun x hx=>h.2 x (hp.mem_iff.mp hx)⟩
theorem ask_asc {n:Nat} {p:Array Nat} (h:Bd n p):∀ (f k:Nat),AskP n (fun _=>True) (kas_asc p f k)
 | 0,k=>trivial
 | f+1,k=>⟨h.at _,h.at _,fun b=>by
  show AskP n _ (if b=true then KasT.ret k else kas_asc p f (k+1))
  split
  ·trivial
  ·exact ask_asc h f (k+1)⟩
theorem ask_desc {n:Nat}:∀ (f:Nat) (p:Array Nat) (k q:Nat),Bd n p->AskP n (fun r=>Bd n r.1) (kas_desc f p k q)
 | 0,p,k,q,h=>h
 | f+1,p,k,q,h=>⟨h.at _,h.at _,fun b=>by
  show AskP n _ (if b=true then (if q > 0 then kas_desc f (kas_rev p (k - (q+1)) k) (k+1) 0 else kas_desc f p (k+1) 0) else .ask (p.getD (k - 1) 0) (p.getD k 0) fun d=>if d=true then .ret (p,k,q) else kas_desc f p (k+1) (q+1))
  split
  ·split
   ·exact ask_desc f _ _ _ (h.perm (rev_perm _ _ _))
   ·exact ask_desc f _ _ _ h
  ·refine ⟨h.at _,h.at _,fun d=>?_⟩
   show AskP n _ (if d=true then KasT.ret (p,k,q) else kas_desc f p (k+1) (q+1))
   split
   ·exact h
   ·exact ask_desc f _ _ _ h⟩
theorem ask_tail {n:Nat} {p:Array Nat} (h:Bd n p) (k m:Nat):AskP n (fun r=>Bd n r.2) (kas_tail3 k m p) :=
 AskP.bind (ask_asc (h.perm (rev_perm _ _ _)) _ _) fun _ _=>h.perm (rev_perm _ _ _)
theorem ask_descPart {n:Nat} {p:Array Nat} (h:Bd n p) (k m:Nat):AskP n (fun r=>Bd n r.2) (kas_descPart k m p) :=
 AskP.bind (ask_desc _ _ _ _ h) fun r hr=>by
  split
  ·exact ask_tail (hr.perm (rev_perm _ _ _)) _ _
  ·exact ask_tail hr _ _
theorem ask_count {n:Nat} {p:Array Nat} (h:Bd n p) (m:Nat):AskP n (fun r=>Bd n r.2) (kas_count m p) :=
 AskP.bind (ask_asc h _ _) fun k _=>by
  split
  ·exact h
  ·split
   ·refine ⟨h.at _,h.at _,fun b=>?_⟩
    show AskP n _ (if b=true then KasT.ret (k,p) else kas_descPart k m (kas_rev p 0 k))
    split
    ·exact h
    ·exact ask_descPart (h.perm (rev_perm _ _ _)) _ _
   ·exact ask_descPart h _ _
theorem ask_place {n:Nat} {p:Array Nat} (h:Bd n p) (k:Nat):∀ (f l r:Nat),AskP n (fun _=>True) (kas_place p k f l r)
 | 0,l,r=>trivial
 | f+1,l,r=>by
  show AskP n _ (if l>=r then KasT.ret l else .ask (p.getD k 0) (p.getD ((l+r) / 2) 0) fun c=>if c=true then kas_place p k f l ((l+r) / 2) else kas_place p k f ((l+r) / 2+1) r)
  split
  ·trivial
  ·refine ⟨h.at _,h.at _,fun b=>?_⟩
   show AskP n _ (if b=true then kas_place p k f l ((l+r) / 2) else kas_place p k f ((l+r) / 2+1) r)
   split
   ·exact ask_place h k f _ _
   ·exact ask_place h k f _ _
theorem ask_bin {n:Nat}:∀ (f:Nat) (p:Array Nat) (k:Nat),Bd n p->AskP n (fun _=>True) (kas_bin f p k)
 | 0,p,k,h=>trivial
 | f+1,p,k,h=>AskP.bind (ask_place h k _ _ _) fun l _=>ask_bin f _ _ (h.perm (bubble_perm _ _ _))
theorem ask_sort {n:Nat} (h:0 < n):AskP n (fun _=>True) (kas_sort n) :=
 AskP.bind (ask_count ⟨h,fun x hx=>by simpa using hx⟩ n) fun r hr=>by
  split
  ·exact ask_bin _ _ _ hr
  ·trivial
end K2
end
section
namespace K2
open PySem PySem.Spec PyProof.Rows L2 PySem.W
mutual
theorem reads_keepS {h h':Heap} (hk:∀ b o vs n,o.data=.seq vs n->h.get? b=some o->h'.get? b=some o):∀ (d:D) {v:Value} {as:List Addr},nr d=true->Reads h v (pd d) as->Reads h' v (pd d) as
 | .non,_,_,_,r=>by cases r; exact .none
 | .bl b,_,_,_,r=>by cases r; exact .bool b
 | .int i,_,_,_,r=>by cases r; exact .int i _
 | .str x,_,_,_,r=>by cases r; exact .str x _
 | .tup ds,_,_,n,r=>by
  cases r with
  | tuple h1 h2 h3 h4=>exact .tuple (hk _ _ _ _ h3 h1) h2 h3 (readsAll_keepS hk ds n h4)
 | .rol ds,_,_,n,r=>by
  cases r with
  | list h1 h2 h3 h4=>exact .list (hk _ _ _ _ h3 h1) h2 h3 (readsAll_keepS hk ds n h4)
 | .rod _,_,_,n,_=>by cases n
 | .ref _,_,_,n,_=>by cases n
 | .exc _,_,_,n,_=>by cases n
theorem readsAll_keepS {h h':Heap} (hk:∀ b o vs n,o.data=.seq vs n->h.get? b=some o->h'.get? b=some o):∀ (ds:List D) {vs:List Value} {as:List Addr},nrs ds=true->ReadsAll h vs (pds ds) as->ReadsAll h' vs (pds ds) as
 | [],_,_,_,r=>by cases r; exact .nil
 | d :: ds,_,_,n,r=>by
  have n:(nr d&&nrs ds)=true:=n
  rw [Bool.and_eq_true] at n
  cases r with
  | cons r1 r2=>exact .cons (reads_keepS hk d n.1 r1) (readsAll_keepS hk ds n.2 r2)
end
mutual
theorem sn_shp (G:Gp):∀ (sh:Shp) (d:D) (n:Nat),hasS sh d=true->dpS sh<=n->Sn G n d d
 | .int,.int i,n,_,_=>.int i
 | .tup l,.tup ds,n,h,hn=>by
  have hn:dpSs l+1<=n:=hn
  obtain ⟨m,rfl⟩:∃ m,n=m+1:=⟨n - 1,by lia⟩
  exact sn_shps G l ds m h (by lia)
 | .lst s,.rol ds,n,h,hn=>by
  have hn:dpS s+1<=n:=hn
  obtain ⟨m,rfl⟩:∃ m,n=m+1:=⟨n - 1,by lia⟩
  exact sn_shpl G s ds m h (by lia)
theorem sn_shps (G:Gp):∀ (l:List Shp) (ds:List D) (m:Nat),hasSs l ds=true->dpSs l<=m->Sn G (m+1) (.tup ds) (.tup ds)
 | [],[],m,_,_=>.tnil
 | s :: l,d :: ds,m,h,hm=>by
  have h:(hasS s d&&hasSs l ds)=true:=h
  have hm:max (dpS s) (dpSs l)<=m:=hm
  rw [Bool.and_eq_true] at h
  exact .tcons (sn_shp G s d m h.1 (by lia)) (sn_shps G l ds m h.2 (by lia))
theorem sn_shpl (G:Gp):∀ (s:Shp) (ds:List D) (m:Nat),hasSl s ds=true->dpS s<=m->Sn G (m+1) (.rol ds) (.rol ds)
 | s,[],m,_,_=>.rnil
 | s,d :: ds,m,h,hm=>by
  have h:(hasS s d&&hasSl s ds)=true:=h
  rw [Bool.and_eq_true] at h
  exact .rcons (sn_shp G s d m h.1 hm) (sn_shpl G s ds m h.2 hm)
end
theorem getD_at {α:Type} (xs:List α) (d:α) {i:Nat} (h:i < xs.length):xs.getD i d=xs[i]:=by
 rw [List.getD_eq_getElem?_getD,List.getElem?_eq_getElem h]; rfl
theorem map_getD_range {α:Type} (xs:List α) (d:α):(List.range xs.length).map (fun i=>xs.getD i d)=xs:=by
 refine List.ext_getElem (by simp) fun i h1 h2=>?_
 rw [List.getElem_map,List.getElem_range]
 exact getD_at _ _ h2
theorem tups_firsts {h:Heap} {s1:Shp} {l:List Shp}:∀ (zs:List D) (vs:List Value),(∀ z∈zs,hasS (.tup (s1 :: l)) z=true)->(∀ i,i < vs.length->∃ as,Reads h (vs.getD i .none) (pd (zs.getD i .non)) as)->vs.length=zs.length ->
  ∃ fs,KatTups h vs fs/\fs.length=vs.length/\∀ f∈fs,∃ d as,hasS s1 d=true/\Reads h f (pd d) as:=by
 intro zs
 induction zs with
 | nil =>
  intro vs _ _ h
  have:vs=[]:=List.length_eq_zero_iff.mp h
  subst this
  exact ⟨[],trivial,rfl,fun _ h=>by cases h⟩
 | cons z zs ih =>
 intro vs hs hr hl
 cases vs with
 | nil=>cases hl
 | cons v vs =>
  obtain ⟨fs,h1,h2,h3⟩:=ih vs (fun z hz=>hs z (List.mem_cons_of_mem _ hz)) (fun i hi=>by
   obtain ⟨as,r⟩:=hr (i+1) (by simpa using hi)
   exact ⟨as,by simpa using r⟩) (by simpa using hl)
  obtain ⟨as,r⟩:=hr 0 (by simp)
  have hz:=hs z (by simp)
  simp only [List.getD_cons_zero] at r
  cases z <;> first | (cases hz; done) | skip
  rename_i ds
  cases ds with
  | nil=>cases hz
  | cons d ds =>
   have hz:(hasS s1 d&&hasSs l ds)=true:=hz
   rw [Bool.and_eq_true] at hz
   cases r with
   | tuple k1 k2 k3 k4 =>
    rename_i p o ws c
    have k5:ReadsAll h ws.toList (pd d :: pds ds) as:=k4
    cases q:ws.toList with
    | nil=>rw [q] at k5; cases k5
    | cons f rest =>
     rw [q] at k5
     cases k5 with
     | cons r1 r2 =>
      have hf:ws[0]?=some f:=by
       have:ws.toList[0]?=some f:=by rw [q]; rfl
       simpa using this
      refine ⟨f :: fs,.cons k1 k2 k3 hf h1,by simp [h2],fun g hg=>?_⟩
      rcases List.mem_cons.mp hg with rfl | hg
      ·exact ⟨d,_,hz.1,r1⟩
      ·exact h3 g hg
noncomputable def tyShp:Shp->Value
 | .int=>.type "int"
 | .tup _=>.type "tuple"
 | .lst _=>.type "list"
theorem looks_shp {M:Model} {h:Heap} {sh:Shp} {d:D} {v:Value} {as:List Addr} (hs:hasS sh d=true) (r:Reads h v (pd d) as):Looks M h (typeOf v) (tyShp sh):=by
 cases sh with
 | int =>
  cases d <;> first | (cases hs; done) | skip
  cases r
  exact .now
 | tup l =>
  cases d <;> first | (cases hs; done) | skip
  cases r with
  | tuple k1 k2 k3 k4 =>
   rename_i p o ws c
   have:Looks M h (typeOf (.ref p)) o.cls:=(Looks.ld k1).andThen .now
   rw [k2] at this; exact this
 | lst l =>
  cases d <;> first | (cases hs; done) | skip
  cases r with
  | list k1 k2 k3 k4 =>
   rename_i p o ws c as
   have:Looks M h (typeOf (.ref p)) o.cls:=(Looks.ld k1).andThen .now
   rw [k2] at this; exact this
theorem keyLt_tup {prog:Program} {w:World} {A:Around} {s:Shared} {E:Value->Shared->Prop} {Q:Bool->Shared->Prop} {n:Nat} {b:Bool} {l:List Shp} {a c:D} {u v:Value} {as bs:List Addr} (hn:(pd a).depth<=n+1) (h1:hasS (.tup l) a=true) (h2:hasS (.tup l) c=true) (n1:nr a=true) (n2:nr c=true)
  (r1:Reads s.heap u (pd a) as) (r2:Reads s.heap v (pd c) bs) (hu:A.units+n < cLine) (hq:Q (ltD a c) s):wpAny (model prog w) A (keyLt' (tuples' b) u v) Q E s:=by
 first | obtain ⟨_,rfl⟩:=hasS_i h1 | obtain ⟨_,rfl⟩:=hasS_t h1 | obtain ⟨_,rfl⟩:=hasS_l h1
 first | obtain ⟨_,rfl⟩:=hasS_i h2 | obtain ⟨_,rfl⟩:=hasS_t h2 | obtain ⟨_,rfl⟩:=hasS_l h2
 rename_i xs ys
 cases r1 with
 | tuple k1 k2 k3 k4 =>
  cases r2 with
  | tuple m1 m2 m3 m4 =>
   rename_i p o vs c p' o' ws c'
   have z1:=readsAll_len k4
   have z2:=readsAll_len m4
   have e1:vs.size=xs.length:=by simpa using z1
   have e2:ws.size=ys.length:=by simpa using z2
   have el:∀ (l:List Shp) (xs ys:List D),hasSs l xs=true->hasSs l ys=true->xs.length=ys.length:=by
    intro l
    induction l with
    | nil =>
     intro xs ys h1 h2
     cases xs with
     | nil=>cases ys with
      | nil=>rfl
      | cons _ _=>cases h2
     | cons _ _=>cases h1
    | cons s l ih =>
     intro xs ys h1 h2
     cases xs with
     | nil=>cases h1
     | cons x xs =>
      cases ys with
      | nil=>cases h2
      | cons y ys =>
       have h1:(hasS s x&&hasSs l xs)=true:=h1
       have h2:(hasS s y&&hasSs l ys)=true:=h2
       rw [Bool.and_eq_true] at h1 h2
       rw [List.length_cons,List.length_cons,ih xs ys h1.2 h2.2]
   have hd:(pd (.tup xs)).depth=PyData.depthAll (pds xs)+1:=rfl
   refine kat_lt k1 k3 m1 m3 (katLex_reads (n:=n) hu l xs ys _ _ _ _ 0 h1 h2 n1 n2 k4 m4 (by lia) (decide_eq_false (by rw [e1,e2,el l xs ys h1 h2]; lia)) hq)
section
variable {X:Cx}
theorem lstOf_tyL {x:D} {G:Gp} {zs:List D} (ty:tyL x G) (hi:itemsOf x G=some zs):lstOf x G=some zs:=by
 cases x <;> first | exact ty.elim | exact hi
theorem call2_sorted (hc:X.calm=true) (hu:X.A.units+64 < cLine):CallR2 X (.builtin "sorted") cSorted:=by
 intro pins s σ H G xs ds us Q I ab rx rd q
 unfold cSorted at q
 split at q
 ·rename_i x
  obtain ⟨sh,zs,ty,hi,hall,hok,h64,q⟩:=q
  obtain ⟨w1,rfl,rw1⟩:=rd.one
  obtain ⟨u,rfl,ru⟩:=rx.one
  obtain ⟨l,vs,its,rfl,rv,rs,hl,_⟩:=addL_lists I ab ru rw1 (lstOf_tyL ty hi)
  have hl1:=rv.length
  have hl2:=rs.length
  have hsz:sizeLine=16777216:=sizeLine_eq
  have hz:∀ z∈zs,hasS sh z=true:=fun z h=>List.all_eq_true.mp hall z h
  by_cases few:its.length < 2
  ·refine sorted_few hl few ?_
   obtain ⟨e,he⟩:=sortedAll_at s.heap its its.toArray
   have hp:H (s.heap.objs.size+1)=none:=I.hok.fresh (Nat.le_succ _)
   have es:sortD zs=zs:=sortD_unique sh hz (.refl _) (by
    match zs,hl2,few with
    | [],_,_=>exact .nil
    | [z],_,_=>exact List.pairwise_singleton _ _
    | _ :: _ :: _,h,f=>exact absurd f (by rw [← hl1,h]; simp))
   rw [es] at q
   refine ⟨.ref (s.heap.objs.size+1),upd H (s.heap.objs.size+1) (.lst vs),.ref _,_,I.laid (t':=s.toks) (fun b o e=>sortedAll_old e) (Nat.le_succ _) ?_,.newL ab hp rs,rfl,.ref _,q _ (ab.free hp)⟩
   exact ⟨by lia,its,e,rv,he⟩
  ·obtain ⟨m,F0⟩:=I.fr
   have nz:0 < zs.length:=by lia
   have nL:∀ b o vs n,o.data=.seq vs n->s.heap.get? b=some o->b≠X.env.locals:=fun b o vs n e1 e2 z=>by
    obtain ⟨o',es,ep,ho',hd',_⟩:=F0.ns
    rw [z,ho'] at e2; cases e2; rw [hd'] at e1; cases e1
   unfold okSh at hok
   rw [Bool.and_eq_true] at hok
   have hdp:dpS sh<=7:=of_decide_eq_true hok.1
   have sn:∀ z∈zs,Sn G 7 z z:=fun z h=>sn_shp G sh z 7 (hz z h) hdp
   refine kat_sorted F0 news_all hl (by lia) (by lia) fun Dd e1 h' F N hlt=>?_
   obtain ⟨kk,ns⟩:=news_kept I F0 F fun p hp=>N p (List.mem_cons_of_mem _ hp)
   have rds:∀ i,i < its.length->∃ as,Reads h' (its.getD i .none) (pd (zs.getD i .non)) as:=fun i hi=>by
    have i1:i < zs.length:=by lia
    have i2:i < vs.length:=by lia
    have g1:zs.getD i .non=zs[i]:=getD_at _ _ i1
    have g2:its.getD i .none=its[i]:=getD_at _ _ hi
    obtain ⟨v,hv,rdv⟩:=rs.get (List.getElem?_eq_getElem i1)
    obtain ⟨u,hu',ruv⟩:=rv.get hv
    rw [List.getElem?_eq_getElem hi] at hu'
    cases hu'
    obtain ⟨as,r⟩:=(rep_reads I ab (sn _ (List.getElem_mem i1))).1 v _ rdv ruv
    rw [g1,g2]
    exact ⟨as,reads_keepS (fun b o vs n e1 e2=>kk b o (nL b o vs n e1 e2) e2) _ (sn _ (List.getElem_mem i1)).nr r⟩
   have shp:∀ i,i < zs.length->hasS sh (zs.getD i .non)=true:=fun i hi=>by rw [getD_at _ _ hi]; exact hz _ (List.getElem_mem hi)
   have nrz:∀ i,i < zs.length->nr (zs.getD i .non)=true:=fun i hi=>by rw [getD_at _ _ hi]; exact (sn _ (List.getElem_mem hi)).nr
   have dpz:∀ i,i < zs.length->(pd (zs.getD i .non)).depth<=7:=fun i hi=>by rw [getD_at _ _ hi]; exact dep_pd (sn _ (List.getElem_mem hi))
   let zz:Nat->D:=fun i=>if i < zs.length then zs.getD i .non else zs.getD 0 .non
   have zzs:∀ i,hasS sh (zz i)=true:=fun i=>by
    show hasS sh (if i < zs.length then zs.getD i .non else zs.getD 0 .non)=true
    split
    ·exact shp i (by assumption)
    ·exact shp 0 nz
   let lt:Nat->Nat->Bool:=fun i j=>ltD (zz i) (zz j)
   have swo:SWO lt:=⟨fun i j h=>ltD_asymm sh (zzs i) (zzs j) h,fun i j k h1 h2=>ltD_ntrans sh (zzs i) (zzs j) (zzs k) h1 h2⟩
   have lte:∀ i j,i < zs.length->j < zs.length->lt i j=ltD (zs.getD i .non) (zs.getD j .non):=fun i j hi hj=>by
    show ltD (if i < zs.length then _ else _) (if j < zs.length then _ else _)=_
    rw [if_pos hi,if_pos hj]
   obtain ⟨p,ep,hperm,psz,hup⟩:=run_sort swo (n:=its.length) (by lia)
   have hA2:X.A.in1.in1.units=X.A.units+2:=rfl
   have ask:∀ κ:SortKind,(∀ i j,i < its.length->j < its.length->∀ C:Bool->Shared->Prop,C (ltD (zs.getD i .non) (zs.getD j .non)) { s with heap:=h' }->kas_ask X.prog X.w X.A.in1.in1 κ its i j C { s with heap:=h' }) ->
     (kas_sort its.length).kasWp (kas_ask X.prog X.w X.A.in1.in1 κ its) (fun p s''=>KasFin X.base X.env.locals m Dd e1 (p.toList.map fun i=>its.getD i Value.none) (fun s3=>EP2 X pins σ H G Q (.ref Dd) s3) s'') { s with heap:=h' }:=by
    intro κ hk
    refine kas_pure (lt:=lt) (n:=its.length) (fun i j i1 i2 C hC=>hk i j i1 i2 C (by rw [← lte i j (by lia) (by lia)]; exact hC)) _ (ask_sort (by lia)) ?_
    rw [ep]
    refine KasFin.intro (g:=fun o=>(Dd,o) :: allNews X.base s.heap X.env.locals) F N (.head (fun q hq z=>absurd (hlt q hq) (by rw [z]; exact Nat.lt_irrefl _))) fun h2 c F2 N2=>?_
    obtain ⟨k2,ns2⟩:=news_kept I F0 F2 fun p hp=>N2 p (List.mem_cons_of_mem _ hp)
    have hD:s.heap.get? Dd=none:=by
     have nD:=N _ List.mem_cons_self
     cases qd:s.heap.get? Dd with
     | none=>rfl
     | some o=>exact absurd (hlt _ (mem_allNews nD.2.1 nD.2.2 qd)) (Nat.lt_irrefl _)
    have hp:H Dd=none:=free_of I.hok hD
    have rvp:Vals (p.toList.map fun i=>vs.getD i .non) (p.toList.map fun i=>its.getD i Value.none):=by
     have:∀ (ps:List Nat),(∀ i∈ps,i < its.length)->Vals (ps.map fun i=>vs.getD i .non) (ps.map fun i=>its.getD i Value.none):=by
      intro ps
      induction ps with
      | nil=>intro _; exact .nil
      | cons i ps ih =>
       intro hh
       have hi:=hh i (by simp)
       refine .cons ?_ (ih fun j hj=>hh j (List.mem_cons_of_mem _ hj))
       have i2:i < vs.length:=by lia
       obtain ⟨u,hu',ruv⟩:=rv.get (List.getElem?_eq_getElem i2)
       rw [List.getElem?_eq_getElem hi] at hu'
       cases hu'
       show RelV (vs.getD i .non) (its.getD i .none)
       rw [getD_at _ _ i2,getD_at _ _ hi]; exact ruv
     exact this _ fun i hi=>by simpa using hperm.mem_iff.mp hi
    have rsp:RepDs X.K H (p.toList.map fun i=>vs.getD i .non) (p.toList.map fun i=>zs.getD i .non):=by
     have:∀ (ps:List Nat),(∀ i∈ps,i < its.length)->RepDs X.K H (ps.map fun i=>vs.getD i .non) (ps.map fun i=>zs.getD i .non):=by
      intro ps
      induction ps with
      | nil=>intro _; exact .nil
      | cons i ps ih =>
       intro hh
       have hi:=hh i (by simp)
       refine .cons ?_ (ih fun j hj=>hh j (List.mem_cons_of_mem _ hj))
       have i2:i < vs.length:=by lia
       have i1:i < zs.length:=by lia
       obtain ⟨v,hv,r⟩:=rs.get (List.getElem?_eq_getElem i1)
       rw [List.getElem?_eq_getElem i2] at hv
       cases hv
       show RepD X.K H (vs.getD i .non) (zs.getD i .non)
       rw [getD_at _ _ i2,getD_at _ _ i1]; exact r
     exact this _ fun i hi=>by simpa using hperm.mem_iff.mp hi
    have es:sortD zs=p.toList.map fun i=>zs.getD i .non:=by
     refine sortD_unique sh hz ?_ ?_
     ·have h1:(p.toList.map fun i=>zs.getD i .non).Perm ((List.range zs.length).map fun i=>zs.getD i .non):=by
       have:its.length=zs.length:=by lia
       rw [← this]
       exact hperm.map _
      rw [map_getD_range] at h1
      exact h1
     ·rw [List.pairwise_map,List.pairwise_iff_getElem]
      intro i j hi hj hij
      have g1:gA p i=p.toList[i]:=by
       have:i < p.size:=by simpa using hi
       simp [gA,Array.getD,this]
      have g2:gA p j=p.toList[j]:=by
       have:j < p.size:=by simpa using hj
       simp [gA,Array.getD,this]
      have bi:p.toList[i] < its.length:=by simpa using hperm.mem_iff.mp (List.getElem_mem hi)
      have bj:p.toList[j] < its.length:=by simpa using hperm.mem_iff.mp (List.getElem_mem hj)
      have:=hup i j (by lia) (by have:j < p.toList.length:=hj; rw [Array.length_toList,psz] at this; exact this)
      rw [g1,g2,lte _ _ (by lia) (by lia)] at this
      exact this
    rw [es] at q
    have ln:(p.toList.map fun i=>vs.getD i .non).length<=sizeLine:=by rw [List.length_map,Array.length_toList,psz]; lia
    refine ⟨.ref Dd,upd H Dd (.lst (p.toList.map fun i=>vs.getD i .non)),.ref _,_,Inv.laidN (t':=s.toks) I k2 ns2 hD ?_,.newL ab hp rsp,rfl,.ref _,q _ (ab.free hp)⟩
    exact ⟨ln,_,c,rvp,(N2 _ List.mem_cons_self).1⟩
   have gen:∀ i j,i < its.length->j < its.length->∀ C:Bool->Shared->Prop,C (ltD (zs.getD i .non) (zs.getD j .non)) { s with heap:=h' }->wpAny (model X.prog X.w) X.A.in1.in1 (keyLt' oneType' (its.getD i Value.none) (its.getD j Value.none)) C (fun _ _=>False) { s with heap:=h' }:=by
    intro i j hi hj C hC
    obtain ⟨as,r1⟩:=rds i hi
    obtain ⟨bs,r2⟩:=rds j hj
    rw [keyLt'_oneType]
    exact oneAt_reads (s:={ s with heap:=h' }) (n:=7) (dpz i (by lia)) (shp i (by lia)) (shp j (by lia)) (nrz i (by lia)) (nrz j (by lia)) r1 r2 (by rw [hA2]; lia) X.prog X.w _ C hC
   have lk:∀ v∈its,Looks (model X.prog X.w) h' (typeOf v) (tyShp sh):=fun v hv=>by
    obtain ⟨i,hi,rfl⟩:=List.getElem_of_mem hv
    obtain ⟨as,r⟩:=rds i hi
    rw [getD_at _ _ hi] at r
    exact looks_shp (shp i (by lia)) r
   cases sh with
   | int=>exact kas_kind (s:={ s with heap:=h' }) (T:=.type "int") (by lia) lk rfl rfl (ask oneType' gen)
   | lst ss=>exact kas_kind (s:={ s with heap:=h' }) (T:=.type "list") (by lia) lk rfl rfl (ask oneType' gen)
   | tup ss =>
    cases ss with
    | nil=>exact absurd hok.2 (by simp)
    | cons s1 ss =>
     obtain ⟨fs,t1,t2,t3⟩:=tups_firsts (h:=h') zs its hz rds (by lia)
     refine kat_kind (s:={ s with heap:=h' }) (T:=tyShp s1) t1 (by lia) (fun f hf=>?_) (by cases s1 <;> rfl) (ask _ fun i j hi hj C hC=>?_)
     ·obtain ⟨d,as,h1,h2⟩:=t3 f hf
      exact looks_shp h1 h2
     ·obtain ⟨as,r1⟩:=rds i hi
      obtain ⟨bs,r2⟩:=rds j hj
      exact keyLt_tup (s:={ s with heap:=h' }) (n:=7) (by have:=dpz i (by lia); lia) (shp i (by lia)) (shp j (by lia)) (nrz i (by lia)) (nrz j (by lia)) r1 r2 (by rw [hA2]; lia) hC
 ·exact q.elim
end
end K2
end
section
namespace L2
open PySem PySem.Spec PyProof.Rows
section
variable {prog:Program} {w:World} {A:Around} {E:Value->Shared->Prop} {s:Shared}
theorem keys_begin {d:Addr} {od:Obj} {es:Array DictEntry} {c:Nat} {Q:Value->Shared->Prop} (ns:(d == sysModules)=false) (hod:s.heap.get? d=some od) (ex:od.ExactDict) (dd:od.data=.dict es c)
  (hQ:Q (.ref s.heap.objs.size) { s with heap:=s.heap.push { cls:=.type "dict_keyiterator",data:=.fields #[.ref d,.int 0 0,.int es.size 0,.int c 0] } }):wpAny (model prog w) A (pyIter (.ref d)) Q E s:=by
 have ty:s.TypeIs (.ref d) "dict":=⟨od,hod,ex.1⟩
 refine wpAny_pyIter_slot ty F.slot_dict_iter (wpAny_call_entry F.slot_dict_iter ty F.entry_dict_iter ?_ (F.args_dict_iter_1 _))
 unfold Builtin.«dict.__iter__» Builtin.Dict.dictSlotNone
 refine wpAny_bind (wpAny_bind (wpAny_notOrdered_dict ty (show wpAny _ _ (pure (Value.ref d)) _ _ s from wpAny_pure ?_)))
 show wpAny _ _ (Builtin.Dict.showsAll d >>= _) _ _ s
 unfold Builtin.Dict.showsAll
 rw [if_neg (fun z=>by rw [ns] at z; cases z)]
 refine wpAny_bind (wpAny_pure (wpAny_bind (wpAny_dictEntries hod dd (wpAny_bind (wpAny_dictEpoch hod dd ?_)))))
 refine wpAny_bind (wpAny_newObj_type (wpAny_pure ⟨_,rfl,"dict_keyiterator",_,⟨_,Heap.get?_push_size _ rfl,rfl⟩,F.slot_dict_keyiterator_next.lookup,?_⟩))
 simpa [rawInt] using hQ
theorem keys_item {it d:Addr} {od:Obj} {es:Array DictEntry} {i c:Nat} {Q:Option Value->Shared->Prop} (ki:s.heap.IsKeyIter it d i es.size c) (hod:s.heap.get? d=some od) (dd:od.data=.dict es c) (hi:i < es.size)
  (hQ:∀ h',h'.IsKeyIter it d (i+1) es.size c->Heap.SameBut it s.heap h'->Q (some es[i].key) { s with heap:=h' }):wpAny (model prog w) A (pyNext (.ref it)) Q E s:=by
 obtain ⟨o,ho,hc,hf⟩:=id ki
 unfold pyNext
 refine wpAny_bind (wpAny_attempt (wpAny_callSpecial?_slot (name:=Str.ofString "__next__") ki.typeIs F.slot_dict_keyiterator_next (wpAny_call_entry F.slot_dict_keyiterator_next ki.typeIs F.entry_dict_keyiterator_next ?_ (F.args_dict_keyiterator_next_1 _))))
 refine wpAny_bind (wpAny_pure (wpAny_bind (wpAny_bind ?_)))
 first | refine wpAny_bind (wpAny_typeNameOfWhole_keyiter ki.typeIs (wpAny_pure ?_)) | refine wpAny_bind (wpAny_typeNameOf_keyiter ki.typeIs (wpAny_pure ?_))
 refine wpAny_bind (wpAny_fieldsOf ho hf ?_)
 have own0:Builtin.Dict_items.ownsTuple "dict_keyiterator" = false:=by decide
 rw [own0]
 show wpAny _ _ (if (Value.ref d == Value.none)=true then _ else _) _ _ s
 rw [if_neg (fun z=>by cases z)]
 refine wpAny_bind (wpAny_pure (wpAny_bind (wpAny_dictEntries hod dd ?_)))
 rw [if_neg (by simp)]
 refine wpAny_bind (wpAny_pure (wpAny_bind (wpAny_dictEpoch hod dd ?_)))
 rw [if_neg (by simp)]
 refine wpAny_pure ?_
 dsimp only
 rw [if_neg (show ¬ ((i:Int) < 0) from Int.not_lt.mpr (Int.natCast_nonneg i)),Int.toNat_natCast,Array.getElem?_eq_getElem hi]
 dsimp only
 refine wpAny_bind ?_
 first | refine wpAny_bind (wpAny_typeNameOfWhole_keyiter ki.typeIs (wpAny_pure ?_)) | refine wpAny_bind (wpAny_typeNameOf_keyiter ki.typeIs (wpAny_pure ?_))
 refine wpAny_bind (wpAny_isOneOf_keyiter ki.typeIs ?_)
 show wpAny _ _ (setField (.ref it) 1 (rawInt ((i:Int)+1)) >>= _) _ _ s
 refine wpAny_bind (wpAny_setField ho hf (by simp) ?_)
 have ki2:(s.heap.update it (Obj.mapFields (·.setIfInBounds 1 (rawInt ((i:Int)+1))))).IsKeyIter it d (i+1) es.size c :=
  ⟨_,Heap.get?_update_self _ ho (Obj.isFreed_of_fields (Obj.data_mapFields hf _)),(Obj.cls_mapFields ..).trans hc,by rw [Obj.data_mapFields hf]; simp [rawInt]⟩
 refine wpAny_bind (wpAny_holding (wpAny_bind (wpAny_isOneOf_keyiter (s:={ s with heap:=s.heap.update it (Obj.mapFields (·.setIfInBounds 1 (rawInt ((i:Int)+1)))) }) ki2.typeIs ?_)))
 show wpAny _ _ (pure es[i].key) _ _ _
 exact wpAny_pure (wpAny_pure ⟨_,rfl,wpAny_pure (hQ _ ki2 (Heap.SameBut.update ..))⟩)
theorem keys_end {it d:Addr} {od:Obj} {es:Array DictEntry} {i c:Nat} {Q:Option Value->Shared->Prop} (calm:A.handled=none) (ki:s.heap.IsKeyIter it d i es.size c) (hod:s.heap.get? d=some od) (dd:od.data=.dict es c) (hi:es.size<=i)
  (hQ:∀ h',Heap.ExtBut it s.heap h'->Q none { s with heap:=h' }):wpAny (model prog w) A (pyNext (.ref it)) Q E s:=by
 obtain ⟨o,ho,hc,hf⟩:=id ki
 unfold pyNext
 refine wpAny_bind (wpAny_attempt (wpAny_callSpecial?_slot (name:=Str.ofString "__next__") ki.typeIs F.slot_dict_keyiterator_next (wpAny_call_entry F.slot_dict_keyiterator_next ki.typeIs F.entry_dict_keyiterator_next ?_ (F.args_dict_keyiterator_next_1 _))))
 refine wpAny_bind (wpAny_pure (wpAny_bind (wpAny_bind ?_)))
 first | refine wpAny_bind (wpAny_typeNameOfWhole_keyiter ki.typeIs (wpAny_pure ?_)) | refine wpAny_bind (wpAny_typeNameOf_keyiter ki.typeIs (wpAny_pure ?_))
 refine wpAny_bind (wpAny_fieldsOf ho hf ?_)
 have own0:Builtin.Dict_items.ownsTuple "dict_keyiterator" = false:=by decide
 rw [own0]
 show wpAny _ _ (if (Value.ref d == Value.none)=true then _ else _) _ _ s
 rw [if_neg (fun z=>by cases z)]
 refine wpAny_bind (wpAny_pure (wpAny_bind (wpAny_dictEntries hod dd ?_)))
 rw [if_neg (by simp)]
 refine wpAny_bind (wpAny_pure (wpAny_bind (wpAny_dictEpoch hod dd ?_)))
 rw [if_neg (by simp)]
 refine wpAny_pure ?_
 dsimp only
 rw [if_neg (show ¬ ((i:Int) < 0) from Int.not_lt.mpr (Int.natCast_nonneg i)),Int.toNat_natCast,Array.getElem?_eq_none hi]
 dsimp only
 refine wpAny_bind ?_
 first | refine wpAny_bind (wpAny_typeNameOfWhole_keyiter ki.typeIs (wpAny_pure ?_)) | refine wpAny_bind (wpAny_typeNameOf_keyiter ki.typeIs (wpAny_pure ?_))
 show wpAny _ _ (setField (.ref it) 0 .none >>= _) _ _ s
 refine wpAny_bind (wpAny_setField ho hf (by simp) ?_)
 show wpAny _ _ (newExc (.type "StopIteration") [] >>= _) _ _ _
 refine wpAny_bind ?_
 simp only [newExc,newTuple]
 refine wpAny_bind (wpAny_newObj_type (wpAny_bind (m:=firstArgMember _ _) (wpAny_of_eq (a:=Value.none) (by first | rfl | (simp only [firstArgMember]; rfl)) (wpAny_newObj_type ?_ (by size_fits)))) (by size_fits))
 simp only [raiseNew]
 refine wpAny_bind (wpAny_handled ?_)
 rw [show A.in1.handled=none from calm]
 refine wpAny_bind (wpAny_pure (wpAny_throw ?_))
 refine wpAny_bind (wpAny_isInstance (T:="StopIteration") (b:=true) ⟨_,Heap.get?_push_size _ rfl,rfl⟩ isSubtype_stop (?_))
 exact wpAny_pure (hQ _ (((Heap.SameBut.update ..).extBut.push _).push _))
end
noncomputable def Itk (a:Addr) (o:Obj) (es:Array DictEntry) (ks:List V):It :=
 ⟨fun i H=>(∃ u,H a=some (.frz o u))/\i < es.size,fun i H v H'=>H'=H/\ks[i]?=some v,fun i H=>(∃ u,H a=some (.frz o u))/\es.size<=i⟩
theorem turn_keys {P:Program} {w:World} {K:PySem.W.Frag} {tg:Expr} (a it:Addr) (o:Obj) (es:Array DictEntry) (c:Nat) (ks:List V) (dd:o.data=.dict es c) (hk:∀ i (h:i < es.size),∃ v,ks[i]?=some v/\RelV v es[i].key) :
  Turn P w K tg (Itk a o es ks) [it] it (fun i h=>h.IsKeyIter it a i es.size c) where
 mem:=by simp
 obj:=fun i h st b hb=>by
  have e:b=it:=by simpa using hb
  subst e
  obtain ⟨o',q,_,d⟩:=st
  exact ⟨o',q,fun v z=>by rw [d] at z; cases z⟩
 keep:=(by rintro i h h' ⟨o',q,r⟩ k; exact ⟨o',k it (by simp) o' q,r⟩)
 item:=by
  intro X hP hw hK hc i pins s σ H E I hf st hg
  subst hP hw hK
  obtain ⟨⟨u,hu⟩,hi⟩:=hg
  obtain ⟨f0,f1,f2,f3,f4,f5⟩:=hf it (by simp)
  obtain ⟨v,hv,rv⟩:=hk i hi
  refine keys_item st (I.hok a _ hu).1 dd hi fun h' st' sb=>?_
  have I1:Inv X pins σ H { s with heap:=h' }:=I.turned (t':=s.toks) (fun b o hb e=>(sb.2 b hb).trans e) f0 f1 f3 f4 f5
  obtain ⟨o',e,cl,d'⟩:=id st'
  exact ⟨_,rfl,go_of (s:={ s with heap:=h' }) e cl d' (by decide) ⟨v,H,I1,rv,⟨rfl,hv⟩,st',fun b hb=>(hf b hb).1⟩⟩
 done:=by
  intro X hP hw hK hc i pins s σ H E I hf st hg
  subst hP hw hK
  obtain ⟨⟨u,hu⟩,hi⟩:=hg
  obtain ⟨f0,f1,f2,f3,f4,f5⟩:=hf it (by simp)
  exact keys_end (I.ok.hd hc) st (I.hok a _ hu).1 dd hi fun h' eb=>⟨rfl,I.turned (t':=s.toks) (fun b o hb e=>eb b o hb e) f0 f1 f3 f4 f5⟩
 self:=fun A i s Q E st h=>by
  refine wpAny_pyIter_slot st.typeIs F.slot_dict_keyiterator_iter (wpAny_call_entry F.slot_dict_keyiterator_iter st.typeIs F.entry_dict_keyiterator_iter ?_ (F.args_dict_keyiterator_iter_1 _))
  show wpAny _ _ (ret (.ref it)) _ _ s
  exact wpAny_pure ⟨_,rfl,"dict_keyiterator",_,st.typeIs,F.slot_dict_keyiterator_next.lookup,h⟩
end L2
namespace K2
open PySem PySem.Spec PyProof.Rows L2
section
variable {X:Cx} {tg a:Expr} {ta:TE2} {pos p:Pos}
theorem paired_at {α β:Type} {F:α->β->Prop}:∀ {l:List α} {m:List β},Paired F l m->∀ i (h1:i < l.length) (h2:i < m.length),F l[i] m[i]:=by
 intro l m h
 induction h with
 | nil=>intro i h1; exact absurd h1 (Nat.not_lt_zero i)
 | cons h t ih =>
  intro i h1 h2
  cases i with
  | zero=>exact h
  | succ i=>exact ih i (Nat.lt_of_succ_lt_succ h1) (Nat.lt_of_succ_lt_succ h2)
theorem kV_of_is {P:Program} {w:World} {k:Key} {u:Value} (h:(mixKind P w).is k u=true):RelV (kV k) u:=by
 rcases keyIs_shape h with ⟨i,t,rfl,rfl⟩ | ⟨x,t,rfl,rfl⟩
 ·exact ⟨t,rfl⟩
 ·exact ⟨t,rfl⟩
theorem DKs.keys {K:PySem.W.Frag} {H:Hp}:∀ {kv:List (Key×V)} {kvs:List (D×D)},DKs K H kv kvs->kvs.map (·.1)=kv.map fun p=>keyD p.1:=fun h =>
 DKs.ind (motive:=fun kv kvs _=>kvs.map (·.1)=kv.map fun p=>keyD p.1) rfl (fun _ _ ih=>congrArg (_ :: ·) ih) h
theorem DTs.keys {K:PySem.W.Frag} {H:Hp}:∀ {kv:List (List Key×V)} {kvs:List (D×D)},DTs K H kv kvs->kvs.map (·.1)=kv.map fun p=>D.tup (p.1.map keyD):=fun h =>
 DTs.ind (motive:=fun kv kvs _=>kvs.map (·.1)=kv.map fun p=>D.tup (p.1.map keyD)) rfl (fun _ _ ih=>congrArg (_ :: ·) ih) h
theorem rep_keyD {K:PySem.W.Frag} {H:Hp} (k:Key):RepD K H (kV k) (keyD k):=by
 cases k with
 | inl i=>exact .int i
 | inr x=>exact .str x
theorem reps_keyD {K:PySem.W.Frag} {H:Hp}:∀ (ks:List Key),RepDs K H (ks.map kV) (ks.map keyD)
 | []=>.nil
 | k :: ks=>.cons (rep_keyD k) (reps_keyD ks)
theorem pi2_dict (ha:PE2 X a ta):PI2 X tg a (iDict ta):=by
 intro E pins s σ H τ G R hE I h
 refine thnE ha hE I h fun x H1 d G1 v s1 I1 m1 r1 rd1 q1=>?_
 unfold iDictAt at q1
 have go:∀ (l:Addr) (o:Obj) (u:HO) (kvs:List (D×D)) (es:Array DictEntry) (c:Nat) (ks:List V),(l == sysModules)=false->H1 l=some (.frz o u)->o.ExactDict->o.data=.dict es c->(∀ i (h:i < es.size),∃ v,ks[i]?=some v/\RelV v es[i].key)->ks.length=es.size ->
   RepDs X.K H1 ks (kvs.map (·.1))->R (kvs.map (·.1)) (fun _=>True) G1->wpAny (model X.prog X.w) X.A (pyIter (.ref l)) (PIE2 X pins σ tg H G R) X.xe s1:=by
  intro l o u kvs es c ks ns hl ex dd hk hlen rs q
  refine keys_begin ns (I1.inv.hok l _ hl).1 ex dd ?_
  refine ⟨s1.heap.objs.size,[s1.heap.objs.size],_,_,H1,G1,kvs.map (·.1),_,rfl,I1.inv.kept (t':=s1.toks) fun b o e=>Heap.get?_push_of_some _ e,m1,turn_keys l _ o es c ks dd hk,⟨_,Heap.get?_push_size _ rfl,rfl,rfl⟩,fun b hb=>?_,fun i H2 G2 k ab _=>?_,q⟩
  ·have e:b=s1.heap.objs.size:=by simpa using hb
   subst e
   exact I1.inv.fpOk (Nat.le_refl _) (I1.inv.hok.fresh (Nat.le_refl _))
  ·have hl2:=k.frz _ _ _ hl
   have rs2:=rs.mono k
   refine ⟨fun d hd=>?_,fun hle=>⟨⟨u,hl2⟩,by rw [← hlen,rs.length]; exact hle⟩⟩
   obtain ⟨v,hv,r⟩:=rs2.get hd
   have hi:i < es.size:=by rw [← hlen]; exact (List.getElem?_eq_some_iff.mp hv).1
   refine ⟨⟨⟨u,hl2⟩,hi⟩,?_⟩
   rintro x H3 ⟨e,y⟩
   subst e
   rw [hv] at y
   cases y
   exact ⟨r,.refl ab⟩
 cases rd1 with
 | rodK hq rs =>
  rename_i l o kv kvs
  cases r1
  obtain ⟨z,ns,vs,rel,ob,es,ep,ho,ex,dd,hko,hp,nd⟩:=(I1.inv.hok l _ hq).2
  have eo:ob=o:=by have:=(I1.inv.hok l _ hq).1; rw [ho] at this; exact Option.some.inj this
  subst eo
  have l1:es.size=vs.length:=by simpa using hp.length
  have l2:kv.length=vs.length:=Paired.length rel
  refine go l ob _ kvs es ep (kv.map fun p=>kV p.1) ns hq ex dd (fun i hi=>?_) (by rw [List.length_map]; lia) ?_ q1
  ·have i2:i < vs.length:=by lia
   have i3:i < kv.length:=by lia
   have g1:=(hp.get? (e:=es[i]) (k:=vs[i].1) (v:=vs[i].2) (by rw [List.getElem?_eq_getElem (by simpa using hi)]; simp) (by rw [List.getElem?_eq_getElem i2])).1
   refine ⟨kV kv[i].1,by simp [i3],?_⟩
   have ek:kv[i].1=vs[i].1:=(paired_at rel i i3 i2).1
   rw [ek]
   exact kV_of_is g1
  ·rw [rs.keys]
   have:∀ (l:List (Key×V)),RepDs X.K H1 (l.map fun p=>kV p.1) (l.map fun p=>keyD p.1):=by
    intro l
    induction l with
    | nil=>exact .nil
    | cons p l ih=>exact .cons (rep_keyD p.1) ih
   exact this kv
 | rodT hq rs =>
  rename_i l o kv kvs
  cases r1
  obtain ⟨z,ns,xs,rel,ob,es,ep,ho,ex,dd,hl,nd⟩:=(I1.inv.hok l _ hq).2
  have eo:ob=o:=by have:=(I1.inv.hok l _ hq).1; rw [ho] at this; exact Option.some.inj this
  subst eo
  have l1:=congrArg List.length hl
  rw [List.length_map,Array.length_toList] at l1
  refine go l ob _ kvs es ep (xs.map fun q=>V.ref q.2.1) ns hq ex dd (fun i hi=>?_) (by rw [List.length_map]; lia) ?_ q1
  ·have i2:i < xs.length:=by lia
   refine ⟨.ref xs[i].2.1,by simp [i2],?_⟩
   have:es[i]=entryOfKey (tupleKind (mixKind X.prog X.w)) xs[i]:=by
    have:=congrArg (fun l=>l[i]?) hl
    simp only [List.getElem?_map,List.getElem?_eq_getElem i2] at this
    simpa [hi] using this
   rw [this]
   rfl
  ·rw [rs.keys]
   have:∀ (kv:List (List Key×V)) (xs:List (List Key×Addr×Value)),Paired (fun (p:List Key×V) (q:List Key×Addr×Value)=>p.1=q.1/\H1 q.2.1=some (.tup (p.1.map kV))/\RelV p.2 q.2.2) kv xs->RepDs X.K H1 (xs.map fun q=>V.ref q.2.1) (kv.map fun p=>D.tup (p.1.map keyD)):=by
    intro kv xs r
    induction r with
    | nil=>exact .nil
    | cons h _ ih=>exact .cons (.tup h.2.1 (reps_keyD _)) ih
   exact this kv xs rel
 | _=>exact q1.elim
end
end K2
end
section
namespace L2
open PySem PySem.Spec PyProof.Rows PySem.W
section
variable {prog:Program} {w:World}
theorem walks_keys {A:Around} {it d:Addr} {od:Obj} {es:Array DictEntry} {c:Nat} (hh:A.handled=none) (hne:d≠it) (dd:od.data=.dict es c) :
  PySem.Walks prog w A it [it,d] [it] es.size (fun i v=>∃ h:i < es.size,v=es[i].key) (fun i h=>h.IsKeyIter it d i es.size c/\h.get? d=some od) where
 sub:=fun b hb=>by simp at hb; simp [hb]
 frame:=fun i h h' st hk=>⟨st.1.at fun o e=>hk it (by simp) o e,hk d (by simp) od st.2⟩
 item:=fun i s Q E hi st hQ=>keys_item st.1 st.2 dd hi fun h' st' sb=>hQ _ h' s.toks ⟨hi,rfl⟩ ⟨st',(sb.2 d hne).trans st.2⟩ fun b o hb e=>(sb.2 b (by simpa using hb)).trans e
 done:=fun s Q E st hQ=>keys_end hh st.1 st.2 dd (Nat.le_refl _) fun h' eb=>hQ h' s.toks fun b o hb e=>eb b o (by simpa using hb) e
 self:=fun i s Q E st hQ=>wpAny_pyIter_keyiter st.1 hQ
theorem src_keys {d:Addr} {od:Obj} {es:Array DictEntry} {c:Nat} (ns:(d == sysModules)=false) (ex:od.ExactDict) (dd:od.data=.dict es c) :
  KdlSrc prog w "dict" d d es.size (fun i v=>∃ h:i < es.size,v=es[i].key) (fun h=>h.get? d=some od) where
 type:=fun s hok=>⟨od,hok,ex.1⟩
 there:=fun h hok=>⟨Heap.lt_size hok,Heap.lt_size hok⟩
 keep:=fun h h' hok hk=>hk d (.inl rfl) od hok
 notList:=by decide
 notTuple:=by decide
 hint:=fun A E s Q hok hq=>kdl_hint_dict ⟨od,hok,ex.1⟩ hq
 iter:=fun A s hh hok=>⟨_,_,(fun E Q hq=>keys_begin ns hok ex dd hq),walks_keys hh (Nat.ne_of_lt (Heap.lt_size hok)) dd,⟨⟨_,Heap.get?_push_size _ rfl,rfl,rfl⟩,Heap.get?_push_of_some _ hok⟩⟩
end
end L2
namespace K2
open PySem PySem.Spec PyProof.Rows L2 PySem.W
section
variable {X:Cx}
theorem vals_of:∀ (ks:List V) (us:List Value),ks.length=us.length->(∀ i (h1:i < ks.length) (h2:i < us.length),RelV ks[i] us[i])->Vals ks us
 | [],[],_,_=>.nil
 | [],_ :: _,h,_=>by cases h
 | _ :: _,[],h,_=>by cases h
 | k :: ks,u :: us,h,hr=>.cons (hr 0 (by simp) (by simp)) (vals_of ks us (by simpa using h) fun i h1 h2=>hr (i+1) (by simpa using h1) (by simpa using h2))
end
end K2
end
section
namespace L2
open PySem PySem.Spec PyProof.Rows PySem.W
section
variable {prog:Program} {w:World} {A:Around} {E:Value->Shared->Prop} {s:Shared}
theorem meets_lenH (d:Addr) (hd:(d == sysModules)=false):MeetsIn prog w (Builtin.«dict.__len__» ⟨[.ref d],[]⟩) (fun _ R s=>∃ o es ep,(s.heap.get? d=some o/\o.data=.dict es ep)/\R (.ok (.ret (.int es.size s.toks))) { s with toks:=s.toks+1 }) :=
 .of_wp fun A R s hp0=>by
  obtain ⟨o,es,ep,⟨ho,dd⟩,h⟩:=hp0
  show wpAny _ _ (dictSize d >>= _) _ _ s
  unfold dictSize
  refine wpAny_bind (wpAny_bind (wpAny_dictEntries ho dd (wpAny_pure (show wpAny _ _ (Builtin.Dict.pendingCount d >>= _) _ _ s from ?_))))
  refine wpAny_bind (wpAny_pendingCount_other hd (wpAny_ret_mkInt ?_))
  rw [Nat.add_zero]; exact h
theorem call_lenH {d:Addr} {o:Obj} {es:Array DictEntry} {ep:Nat} {Q:Value->Shared->Prop} (hd:(d == sysModules)=false) (ho:s.heap.get? d=some o) (ex:o.ExactDict) (dd:o.data=.dict es ep) (hz:es.size<=1000)
  (h:∀ t tk,Q (.int es.size t) { s with toks:=tk }):wpAny (model prog w) A (call (.builtin "len") [.ref d]) Q E s:=by
 have ty:s.TypeIs (.ref d) "dict":=⟨o,ho,ex.1⟩
 refine Calls.call_function_entry kind_len plain_len entry_len (args_len1 _) ?_
 unfold Builtin.«len»
 refine wpAny_bind (m:=oneArg "len" _) (wpAny_pure (wpAny_bind (m:=callSpecial? (.ref d) (Str.ofString "__len__")) ?_))
 refine wpAny_callSpecial?_slot (name:=Str.ofString "__len__") ty F.slot_dict_len (call_meetsIn F.slot_dict_len ty F.entry_dict_len (F.args_dict_len_1 _) (meets_lenH d hd) ⟨o,es,ep,⟨ho,dd⟩,?_⟩)
 show wpAny _ _ _ _ _ { s with toks:=s.toks+1 }
 refine wpAny_bind (wpAny_holding (wpAny_pure (wpAny_bind (wpAny_letGo ?_))))
 have n1:¬ ((es.size:Nat):Int) < 0:=by lia
 have n2:¬ ((es.size:Nat):Int)>=2 ^ 63:=by lia
 show wpAny _ _ (if ((es.size:Nat):Int) < 0 then _ else _) _ _ _
 rw [if_neg n1]
 show wpAny _ _ (if ((es.size:Nat):Int)>=2 ^ 63 then _ else _) _ _ _
 rw [if_neg n2]
 exact wpAny_bind (wpAny_mkInt (wpAny_pure ⟨_,rfl,h _ _⟩))
end
end L2
namespace K2
open PySem PySem.Spec PyProof.Rows L2 PySem.W
section
variable {X:Cx}
theorem list_src {pins:List (Addr×Obj)} {σ:L2.St} {H:Hp} {G:Gp} {s:Shared} {Q:DK} {T:String} {r d:Addr} {n:Nat} {P:Nat->Value->Prop} {OK:Heap->Prop} (hc:X.calm=true) (I:Inv X pins σ H s) (ab:AbH X.K H G)
  (K:PySem.W.KdlSrc X.prog X.w T r d n P OK) (hok0:OK s.heap) {vs:List V} {zs:List D} (hlen:vs.length=n) (hP:∀ i u (h:i < vs.length),P i u->RelV vs[i] u) (rs:RepDs X.K H vs zs) (hn:n<=1000)
  (q:dNew G (.lst zs) Q):wpAny (model X.prog X.w) X.A (call (.type "list") [.ref r]) (EP2 X pins σ H G Q) X.xe s:=by
 have hsz:sizeLine=16777216:=sizeLine_eq
 refine kdl_call K (I.ok.hd hc) hok0 (by lia) fun h' tk acc c' hk hD hacc=>?_
 have hp:H s.heap.objs.size=none:=I.hok.fresh (Nat.le_refl _)
 have rv:Vals vs acc.toList:=vals_of vs acc.toList (by have:=hacc.1; have e:=Array.length_toList (xs:=acc); lia) fun i h1 h2=>hP i acc.toList[i] h1 (hacc.2 i _ (by rw [Array.getElem?_eq_getElem (by simpa using h2)]; simp))
 exact ⟨.ref _,upd H s.heap.objs.size (.lst vs),.ref _,_,I.laid (a:=s.heap.objs.size) (t':=tk) (fun b o e=>hk b o e) (Nat.le_refl _) ⟨by lia,acc.toList,c',rv,by simpa [seqObj,W.listOf] using hD⟩,.newL ab hp rs,rfl,.ref _,q _ (ab.free hp)⟩
theorem call2_listD (hc:X.calm=true):CallR2 X (.type "list") cListD:=by
 intro pins s σ H G xs ds us Q I ab rx rd q
 unfold cListD at q
 split at q
 ·rename_i a
  split at q
  ·rename_i kvs hg
   obtain ⟨hn,q⟩:=q
   obtain ⟨w1,rfl,rw1⟩:=rd.one
   obtain ⟨u,rfl,ru⟩:=rx.one
   cases rw1
   cases ru
   rcases ab a _ hg with ⟨kv,hq,rs⟩ | ⟨kv,hq,rs⟩
   ·obtain ⟨z,hm,vs,rel,ob,es,ep,ho,ex,dd,hko,hp,nd⟩:=I.hok a _ hq
    have l1:es.size=vs.length:=by simpa using hp.length
    have l2:kv.length=vs.length:=Paired.length rel
    have l3:=rs.length
    refine list_src hc I ab (src_keys hm ex dd) ho (vs:=kv.map fun p=>kV p.1) (zs:=kvs.map (·.1)) (by rw [List.length_map]; lia) (fun i u hi hP=>?_) ?_ (by lia) q
    ·obtain ⟨hi2,rfl⟩:=hP
     have i2:i < vs.length:=by lia
     have i3:i < kv.length:=by lia
     have g1:=(hp.get? (e:=es[i]) (k:=vs[i].1) (v:=vs[i].2) (by rw [List.getElem?_eq_getElem (by simpa using hi2)]; simp) (by rw [List.getElem?_eq_getElem i2])).1
     have e2:kv[i].1=vs[i].1:=(paired_at rel i i3 i2).1
     rw [List.getElem_map,e2]
     exact kV_of_is g1
    ·rw [rs.keys]
     have:∀ (l:List (Key×V)),RepDs X.K H (l.map fun p=>kV p.1) (l.map fun p=>keyD p.1):=by
      intro l
      induction l with
      | nil=>exact .nil
      | cons p l ih=>exact .cons (rep_keyD p.1) ih
     exact this kv
   ·obtain ⟨z,hm,ys,rel,ob,es,ep,ho,ex,dd,hl,nd⟩:=I.hok a _ hq
    have l1:=congrArg List.length hl
    rw [List.length_map,Array.length_toList] at l1
    have l2:=Paired.length rel
    have l3:=rs.length
    refine list_src hc I ab (src_keys hm ex dd) ho (vs:=ys.map fun q=>V.ref q.2.1) (zs:=kvs.map (·.1)) (by rw [List.length_map]; lia) (fun i u hi hP=>?_) ?_ (by lia) q
    ·obtain ⟨hi2,rfl⟩:=hP
     have i2:i < ys.length:=by lia
     have:es[i]=entryOfKey (tupleKind (mixKind X.prog X.w)) ys[i]:=by
      have:=congrArg (fun l=>l[i]?) hl
      simp only [List.getElem?_map,List.getElem?_eq_getElem i2] at this
      simpa [hi2] using this
     rw [this,List.getElem_map]
     rfl
    ·rw [rs.keys]
     have:∀ (kv:List (List Key×V)) (xs:List (List Key×Addr×Value)),KT H kv xs->RepDs X.K H (xs.map fun q=>V.ref q.2.1) (kv.map fun p=>D.tup (p.1.map keyD)):=by
      intro kv xs r
      induction r with
      | nil=>exact .nil
      | cons h _ ih=>exact .cons (.tup h.2.1 (reps_keyD _)) ih
     exact this kv ys rel
  ·exact q.elim
 ·exact q.elim
theorem call2_int:CallR2 X (.type "int") cInt:=by
 intro pins s σ H G xs ds us Q I ab rx rd q
 unfold cInt at q
 split at q
 ·rename_i b
  obtain ⟨w1,rfl,rw1⟩:=rd.one
  obtain ⟨u,rfl,ru⟩:=rx.one
  cases rw1
  cases ru
  refine call_int_bool ?_
  exact ⟨.int _,H,.int _,G,I.tok _,.refl ab,⟨_,rfl⟩,.int _,q⟩
 ·exact q.elim
theorem call2_lenT:CallR2 X (.builtin "len") cLenT:=by
 intro pins s σ H G xs ds us Q I ab rx rd q
 unfold cLenT at q
 split at q
 ·rename_i a
  split at q
  ·rename_i kvs hg
   obtain ⟨hz,q⟩:=q
   obtain ⟨w1,rfl,rw1⟩:=rd.one
   obtain ⟨u,rfl,ru⟩:=rx.one
   cases rw1
   cases ru
   rcases ab a _ hg with ⟨kv,hq,rs⟩ | ⟨kv,hq,rs⟩
   ·obtain ⟨z,hm,vs,rel,ob,es,ep,ho,ex,dd,hko,hp,nd⟩:=I.hok a _ hq
    have l1:es.size=vs.length:=by simpa using hp.length
    have l2:kv.length=vs.length:=Paired.length rel
    have l3:=rs.length
    have e:es.size=kvs.length:=by lia
    refine call_lenH hm ho ex dd (by lia) fun t tk=>?_
    rw [e]
    exact ⟨.int _,H,.int _,G,I.tok _,.refl ab,⟨_,rfl⟩,.int _,q⟩
   ·obtain ⟨z,hm,ys,rel,ob,es,ep,ho,ex,dd,hl,nd⟩:=I.hok a _ hq
    have l1:=congrArg List.length hl
    rw [List.length_map,Array.length_toList] at l1
    have l2:=Paired.length rel
    have l3:=rs.length
    have e:es.size=kvs.length:=by lia
    refine call_lenH hm ho ex dd (by lia) fun t tk=>?_
    rw [e]
    exact ⟨.int _,H,.int _,G,I.tok _,.refl ab,⟨_,rfl⟩,.int _,q⟩
  ·exact q.elim
 ·exact q.elim
variable {a:Expr} {ta:TE2} {pos p pos2 p2:Pos}
theorem pe2_lrange (hc:X.calm=true) (hg:Gl X "list") (hm:X.mg "list" = none) (hg2:Gl X "range") (hm2:X.mg "range" = none) (ha:PE2 X a ta) (hs:autoParam (starEach [a] X.env=[(false,eval a X.env)]) Ar._auto_1)
  (hs2:autoParam (starEach [.Call (.Name "range" p2) [a] [] pos2] X.env=[(false,eval (.Call (.Name "range" p2) [a] [] pos2) X.env)]) Ar._auto_1) :
  PE2 X (.Call (.Name "list" p) [.Call (.Name "range" p2) [a] [] pos2] [] pos) (dLRange2 ta):=by
 intro E pins s σ H τ G Q hE I h
 refine wpAny_Call_Name_kw (ld_blt I.inv hg hm bt_list (PyProof.Rows.callWith_type1 ?_ hs2 rfl))
 rw [hs2]
 show wpAny _ _ (spliced ((false,eval (.Call (.Name "range" p2) [a] [] pos2) X.env) :: backTo pos (starEach [] X.env))) _ _ s
 refine Calls.spliced_cons (wpAny_Call_Name_kw (ld_blt I.inv hg2 hm2 boot_range (PyProof.Rows.callWith_type1 ?_ hs rfl)))
 rw [hs]
 show wpAny _ _ (spliced ((false,eval a X.env) :: backTo pos2 (starEach [] X.env))) _ _ s
 refine Calls.spliced_cons (thnE ha hE I h fun x H1 d G1 u s1 I1 m1 r1 rd1 q1=>Calls.spliced_nil ?_)
 unfold lrAt2 at q1
 split at q1
 ·rename_i n
  obtain ⟨⟨n0,hn⟩,q⟩:=q1
  cases rd1
  obtain ⟨t,rfl⟩:=r1
  refine call_range_1 (Calls.spliced_nil ?_)
  have hsz:sizeLine=16777216:=sizeLine_eq
  have I2':Inv X pins σ H1 { s1 with heap:=s1.heap.push { cls:=.type "range",data:=.fields #[.int 0 s1.toks,.int n t,.int 1 (s1.toks+1)] },toks:=s1.toks+1+1 }:=I1.inv.kept fun b o e=>Heap.get?_push_of_some _ e
  have rsz:Builtin.Range.rangeSize 0 n 1=(n.toNat:Int):=by rw [rangeSize_one]; split <;> lia
  refine call_list_range (n:=n.toNat) (I1.inv.ok.hd hc) (IsRange.new ..) (small_one (by lia) (by lia) (by lia) (by lia)) rsz (by lia) fun h' tk acc c' hk hD hacc=>?_
  have hp:H1 (s1.heap.push { cls:=.type "range",data:=.fields #[.int 0 s1.toks,.int n t,.int 1 (s1.toks+1)] }).objs.size=none:=I2'.hok.fresh (Nat.le_refl _)
  have rv:Vals ((List.range n.toNat).map fun (i:Nat)=>V.int (0+(i:Int))) acc.toList:=vals_of _ acc.toList (by have:=hacc.1; have e:=Array.length_toList (xs:=acc); rw [List.length_map,List.length_range]; lia) fun i h1 h2=>by
   obtain ⟨t',e⟩:=hacc.2 i acc.toList[i] (by rw [Array.getElem?_eq_getElem (by simpa using h2)]; simp)
   rw [e,List.getElem_map,List.getElem_range]
   exact ⟨t',by simp⟩
  have rs:RepDs X.K H1 ((List.range n.toNat).map fun (i:Nat)=>V.int (0+(i:Int))) (rangeD 0 n.toNat):=by
   unfold rangeD
   have:∀ (l:List Nat),RepDs X.K H1 (l.map fun (i:Nat)=>V.int (0+(i:Int))) (l.map fun (i:Nat)=>D.int (0+(i:Int))):=by
    intro l
    induction l with
    | nil=>exact .nil
    | cons i l ih=>exact .cons (.int _) ih
   exact this _
  exact EP2.trans m1 ⟨.ref _,_,.ref _,_,I2'.laid (o:=.lst ((List.range n.toNat).map fun (i:Nat)=>V.int (0+(i:Int)))) (t':=tk) (fun b o e=>hk b o e) (Nat.le_refl _) ⟨by rw [List.length_map,List.length_range]; lia,acc.toList,c',rv,by simpa [seqObj,W.listOf] using hD⟩,.newL I1.ab hp rs,rfl,.ref _,q _ (I1.ab.free hp)⟩
 ·exact q1.elim
end
end K2
end
section
namespace K2
open PySem PySem.Spec PyProof.Rows L2
section
variable {X:Cx}
theorem range_anyF (bs:List Bool):(List.range bs.length).any (fun i=>bs.getD i false)=bs.any id:=by
 rw [Bool.eq_iff_iff,List.any_eq_true,List.any_eq_true]
 constructor
 ·rintro ⟨i,hi,e⟩
  have hi:=List.mem_range.mp hi
  refine ⟨bs[i],List.getElem_mem hi,?_⟩
  rw [List.getD_eq_getElem?_getD,List.getElem?_eq_getElem hi] at e
  exact e
 ·rintro ⟨b,hb,e⟩
  obtain ⟨i,hi,rfl⟩:=List.getElem_of_mem hb
  refine ⟨i,List.mem_range.mpr hi,?_⟩
  rw [List.getD_eq_getElem?_getD,List.getElem?_eq_getElem hi]
  exact e
theorem call2_any (hc:X.calm=true):CallR2 X (.builtin "any") cAny:=by
 intro pins s σ H G xs ds us Q I ab rx rd q
 unfold cAny at q
 split at q
 ·rename_i x
  obtain ⟨bs,hb,q⟩:=q
  obtain ⟨v,rfl,r⟩:=rd.one
  obtain ⟨u,rfl,ru⟩:=rx.one
  obtain ⟨l,vs,its,rfl,rv,rs,hl,hz⟩:=list_items I ab ru r hb
  have ei:=reps_bools rs rv
  have hlen:its.length=bs.length:=by rw [ei,List.length_map]
  have hne:∀ {o:Obj},s.heap.get? l=some o->l≠s.heap.objs.size:=fun e=>Nat.ne_of_lt (Heap.lt_size e)
  have tr:TruthOf X.prog X.w X.A.in1 (fun i v=>its.toArray[i]?=some v) (fun i=>bs.getD i false):=fun i v s' Q' E' hv hq=>by
   subst ei
   have hv':(bs.map Value.bool)[i]?=some v:=by simpa using hv
   rw [List.getElem?_map] at hv'
   cases hbi:bs[i]? with
   | none=>rw [hbi] at hv'; cases hv'
   | some b =>
    rw [hbi] at hv'
    cases hv'
    dsimp only at hq
    rw [List.getD_eq_getElem?_getD,hbi] at hq
    exact wpAny_truthy_bool hq
  have fin:∀ h' tk,(∀ b o,b∉[s.heap.objs.size]->s.heap.get? b=some o->h'.get? b=some o)->EP2 X pins σ H G Q (.bool ((List.range its.toArray.size).any fun i=>bs.getD i false)) { s with heap:=h',toks:=tk }:=fun h' tk hk=>by
   rw [List.size_toArray,hlen,range_anyF]
   exact ⟨.bl _,H,.bl _,G,I.kept fun b o e=>hk b o (by simpa using Nat.ne_of_lt (Heap.lt_size e)) e,.refl ab,rfl,.bl _,q⟩
  rcases hl with hl | hl
  ·refine call_any_walk (wpAny_pyIter_list hl ?_)
   obtain ⟨o,ho,hcl,n,hd⟩:=id hl
   exact ⟨s.heap.objs.size,_,_,_,_,_,_,rfl,Walks.list (A:=X.A.in1) (show X.A.in1.handled=none from I.ok.hd hc) _ l (hne ho) its.toArray,⟨⟨_,Heap.get?_push_size _ rfl,rfl,rfl⟩,⟨o,Heap.get?_push_of_some _ ho,hcl,n,hd⟩⟩,tr,fun h' tk hk=>fin h' tk fun b o hb e=>hk b o hb (Heap.get?_push_of_some _ e)⟩
  ·refine call_any_walk (wpAny_pyIter_tuple hl ?_)
   obtain ⟨o,ho,hcl,n,hd⟩:=id hl
   exact ⟨s.heap.objs.size,_,_,_,_,_,_,rfl,Walks.tuple (A:=X.A.in1) (show X.A.in1.handled=none from I.ok.hd hc) _ l (hne ho) its.toArray,⟨⟨_,Heap.get?_push_size _ rfl,rfl,rfl⟩,⟨o,Heap.get?_push_of_some _ ho,hcl,n,hd⟩⟩,tr,fun h' tk hk=>fin h' tk fun b o hb e=>hk b o hb (Heap.get?_push_of_some _ e)⟩
 ·exact q.elim
noncomputable def rIsB (neg:Bool):R22:=fun x y G Q=>match y with
 | .non=>rIsN neg x G Q
 | _=>False
theorem nn_of {H:Hp} {x:V} {dx:D} {v:Value} (r:RelV x v) (rd:RepD X.K H x dx) (h:dx≠.non):v≠.none:=by
 intro z
 subst z
 cases rd with
 | non=>exact h rfl
 | bl b=>cases r
 | int i=>obtain ⟨t,e⟩:=r; cases e
 | str x=>obtain ⟨t,e⟩:=r; cases e
 | _=>cases r
theorem rIsN_ne {neg:Bool} {x:D} {G:Gp} {Q:DK} (h:x≠.non) (q:rIsN neg x G Q):Q (.bl neg) G:=by
 cases x with
 | non=>exact absurd rfl h
 | _=>exact q
theorem op2_isN:OpR2 X (compareOp .Is) (rIsB false):=by
 intro pins s σ H G x y dx dy v u Q I ab rx ry dX dY q
 unfold rIsB at q
 split at q
 ·cases dY
  cases ry
  by_cases h:dx=.non
  ·subst h
   cases dX
   cases rx
   exact is_none_none ⟨.bl true,H,.bl true,G,I,.refl ab,rfl,.bl _,q⟩
  ·exact is_none_ne (nn_of rx dX h) ⟨.bl false,H,.bl false,G,I,.refl ab,rfl,.bl _,rIsN_ne h q⟩
 ·exact q.elim
variable {a:Expr} {ta:TE2} {pos p:Pos}
theorem pe2_isN {j} (ha:PE2 X a ta):PE2 X (.Compare a [.Is] [.Constant .none j p] pos) (dUn (rIsN false) ta) :=
 show PE2 X _ (dBin (rIsB false) ta (dC .non)) from pe2_cmp op2_isN ha pe2_non (nomark _)
end
end K2
end
section
namespace K2
open PySem PySem.Spec PyProof.Rows L2
section
variable {K:PySem.W.Frag} {h:Heap} {C:Addr} {bmB:List Value} {newId:String}
theorem exc_sh {P:Prop} {m:List Value} {sl:List (Option Value)} {f:Addr->List Value->Option Value->Option Value->Option Value->Option Value->String->Option Value->Bool}
  (q:PySem.W.excIn.match_1 (fun _ _=>Bool) m sl f (fun _ _=>false)=true)
  (k:∀ C' bm k0 k1 k2 k3 n k5,m=.ref C' :: bm->sl=[k0,k1,k2,k3,some (.builtin n),k5]->f C' bm k0 k1 k2 k3 n k5=true->P):P:=by
 have no:false=true->P:=fun z=>Bool.noConfusion z
 cases m with
 | nil=>exact no q
 | cons v bm =>
  cases v with
  | ref C' =>
   obtain _ | ⟨k0,_ | ⟨k1,_ | ⟨k2,_ | ⟨k3,_ | ⟨_ | w,sl⟩⟩⟩⟩⟩:=sl
   iterate 6 exact no q
   cases w with
   | builtin n =>
    obtain _ | ⟨k5,_ | _⟩:=sl
    ·exact no q
    ·exact k C' bm k0 k1 k2 k3 n k5 rfl rfl q
    ·exact no q
   | _=>exact no q
  | _=>exact no q
inductive ExcObj (h:Heap) (C:Addr) (bmB:List Value) (newId:String):Prop
 | mk (bm N nm qn bs hdct sn sub ab col dd k0 k1 k2 k3 k5 mN) (o:h.get? C=some (excClassObj nm qn C N bs bm hdct sn sub ab col dd k0 k1 k2 k3 k5 newId)) (n:h.Ns N mN) (i:mN "__init__" = none) (t:OwnTail h bmB bm):ExcObj h C bmB newId
theorem exc_obj (Y:K.In h) (q:PySem.W.excIn K C bmB newId=true):ExcObj h C bmB newId:=by
 unfold PySem.W.excIn at q
 split at q
 case h_2=>cases q
 rename_i dd cd sl ho
 refine exc_sh q fun C' bm k0 k1 k2 k3 n k5 hm hs q=>?_
 obtain ⟨nm,bs,mro,ns,qn,hd,sn,sub,ab,col,del⟩:=cd
 obtain ⟨sl⟩:=sl
 subst hm hs
 have q:(C' == C&&n == newId&&!del&&PySem.W.tailIn K bmB bm&&PySem.W.nsOkIn K ns&&PySem.W.nsIn K ns "__init__" == some none)=true:=q
 simp only [Bool.and_eq_true,beq_iff_eq,Bool.not_eq_true'] at q
 obtain ⟨⟨⟨⟨⟨e1,e2⟩,e3⟩,e4⟩,e5⟩,e6⟩:=q
 subst e1 e2 e3
 exact ⟨bm,_,_,_,_,_,_,_,_,_,dd,k0,k1,k2,k3,k5,_,Y _ _ ho,.of_isNs (PySem.W.isNs_of_in Y e5),PySem.W.nsMap_none_of_in Y e5 e6,PySem.W.tail_of_in Y e4⟩
end
section
variable {X:Cx} {x:Str} {C:Addr} {bmB:List Value} {B newId initId:String} {e0:Expr} {es:List Expr} {np cpos pos:Pos} {t:TA2}
theorem ps2_raise (hg:Gl X x) (hm:X.mg x=some (.ref C)) (q:PySem.W.excIn X.K C bmB newId=true) (FB:ExcBaseFacts B newId initId bmB) (hc:X.calm=true) (ha:PA2 X (e0 :: es) t)
  (hdb:autoParam ((x == ("__debug__" : Str))=false) Ad._auto_1) (he:autoParam (starEach (e0 :: es) X.env=(false,eval e0 X.env) :: starEach es X.env) Ar._auto_1) (hpl:autoParam ((backTo cpos (starEach es X.env)).any (·.1)=false) Ar._auto_1) :
  PS2 X (.Raise (some (.Call (.Name x np) (e0 :: es) [] cpos)) none pos) (dRaise x t):=by
 intro E pins s σ H τ G D hE I h
 obtain ⟨tl,N,nm,qn,bs,hdct,sn,sub,ab,col,dd,k0,k1,k2,k3,k5,mN,hC,hN,hni,T⟩:=exc_obj I.inv.ok.mod.kin q
 refine wpAny_Raise_call_subT (C:=C) (nm:=nm) (q:=qn) (N:=N) (bs:=bs) (bm:=tl) (hdct:=hdct) (sn:=sn) (sub:=sub) (ab:=ab) (col:=col) (dd:=dd) (k0:=k0) (k1:=k1) (k2:=k2) (k3:=k3) (k5:=k5)
  FB (mN:=mN) (T.hasType FB.hasBase) (I.inv.ok.hd hc) (by rw [he]; show (false||(backTo cpos (starEach es X.env)).any (·.1))=false; rw [hpl]; rfl) hni (ld_glob I.inv hg hm ⟨rfl,?_⟩ hdb)
 have w:=thnA (Q:=fun us s2=>us.length<=sizeLine/\(∀ b o,X.base.get? b=some o->s2.heap.get? b=some o)/\∀ h' e,Heap.MadeExcOf s2.heap h' e (.ref C) us->X.xe (.ref e) { s2 with heap:=h' }) ha cpos hE I h
  fun vs H1 ds G1 us s1 I1 m1 r rd z=>⟨by rw [← r.length,rd.length,sizeLine_eq]; exact z.1,I1.inv.bk,fun h' e hx=>hE.made pins σ H1 s1 h' e C us ⟨x,[]⟩ I1.inv hx hm z.2⟩
 rw [he] at w ⊢
 exact Calls.evalArgs_plain (wpAny_mono w (fun us s2 h2=>⟨rfl,h2.1,h2.2.1 _ _ hC,hN.keeps h2.2.1,T.keeps h2.2.1,h2.2.2⟩) fun _ _ y=>y)
end
end K2
end
section
namespace K2
open PySem PySem.Spec PyProof.Rows L2
theorem _root_.Internal.L2.ObjOk.there {P:Program} {w:World} {H:Hp} {h:Heap} {a:Addr} {o:HO} (x:ObjOk P w H h a o):∃ ob,h.get? a=some ob:=by
 cases o with
 | lst xs=>obtain ⟨_,_,_,_,e⟩:=x; exact ⟨_,e⟩
 | tup xs=>obtain ⟨_,_,_,ob,e,_⟩:=x; exact ⟨_,e⟩
 | dK kvs=>obtain ⟨_,_,_,_,o,_,_,e,_⟩:=x; exact ⟨_,e⟩
 | dT kvs=>obtain ⟨_,_,_,_,o,_,_,e,_⟩:=x; exact ⟨_,e⟩
 | set S n=>obtain ⟨o,_,_,_,e,_⟩:=x; exact ⟨_,e⟩
 | ins C dx fs=>obtain ⟨_,_,_,e,_⟩:=x; exact ⟨_,e⟩
 | own y=>exact x
 | xd fs=>obtain ⟨_,⟨_,_,_,e,_⟩,_⟩:=x; exact ⟨_,e⟩
 | rng lo hi=>obtain ⟨_,_,_,e⟩:=x; exact ⟨_,e⟩
 | frz ob u=>obtain ⟨e,_⟩:=x; exact ⟨_,e⟩
 | tbl ps=>exact ⟨_,x⟩
 | met f y=>exact ⟨_,x⟩
 | ext φ=>obtain ⟨_,e,_⟩:=x; exact e
theorem out_of {X:Cx} {pins:List (Addr×Obj)} {σ:L2.St} {H1:Hp} {s1:Shared} {h1 h' B:Heap} (I:Inv X pins σ H1 s1) (hst:X.stack=X.env :: X.outer) (hlf:X.env.frame=some X.env.locals) (hex:X.ex=[])
  (keep1:∀ b o,s1.heap.get? b=some o->h1.get? b=some o) (hB:∀ b o,s1.heap.get? b=some o->b∉frs X.stack->(X.s₀.heap.get? b≠none\/H1 b≠none)->B.get? b=some o) (stay:B.StaysIn h') (up:h1.UpToSlots h') :
  Un (frs X.outer) [] X.H₀ H1 X.s₀.heap h'/\HOk X.prog X.w H1 h'/\∀ b o,h'.get? b=some o->b∉frs X.outer->(X.s₀.heap.get? b≠none\/H1 b≠none)->B.get? b=some o:=by
 have efr:frs X.stack=X.env.locals :: frs X.outer:=by rw [hst]; unfold frs; rw [List.filterMap_cons_some hlf]
 have notfr:∀ b,b∉frs X.outer->b≠X.env.locals->b∉frs X.stack:=fun b h1 h2 h3=>by
  rw [efr] at h3
  rcases List.mem_cons.mp h3 with e | e
  ·exact h2 e
  ·exact h1 e
 have old:∀ b o,X.s₀.heap.get? b=some o->b≠X.env.locals:=fun b o q=>Nat.ne_of_lt (Nat.lt_of_lt_of_le (Heap.lt_size q) I.ok.above)
 have tr:∀ b u,H1 b=some u->b∉frs X.stack:=fun b u q hb=>by rw [I.stkFree b hb] at q; cases q
 have nx:∀ b:Addr,b∉X.ex:=fun b=>by rw [hex]; exact List.not_mem_nil
 have frame:∀ b o,b∈frs X.outer->s1.heap.get? b=some o->∃ sl,h'.get? b=some { o with slots:=sl }:=fun b o hb e=>by
  obtain ⟨_,o2,e2,nf⟩:=I.stack.mem (show b∈frs X.stack by rw [efr]; exact .tail _ hb)
  rw [e] at e2; cases e2
  exact up b o (keep1 b o e) nf
 have go:∀ b o,s1.heap.get? b=some o->b∉frs X.stack->(X.s₀.heap.get? b≠none\/H1 b≠none)->h'.get? b=some o:=fun b o e n c=>stay b o (hB b o e n c)
 refine ⟨⟨fun b o q n hb _=>?_,fun b o q n hb _=>?_,fun b o q n _=>I.base.free b o q n (nx b),fun b o q _=>?_,I.base.tups,I.base.frzs,I.base.tbls⟩,fun a o q=>?_,fun b o e hb hc=>?_⟩
 ·exact go b o (I.base.keep b o q n hb (nx b)) (notfr b hb (old b o q)) (.inl (by rw [q]; simp))
 ·obtain ⟨sl,e⟩:=I.base.slot b o q n hb (nx b)
  obtain ⟨sl2,e2⟩:=frame b _ hb e
  exact ⟨sl2,e2⟩
 ·obtain ⟨o',e⟩:=I.base.there b o q (nx b)
  by_cases hb:b∈frs X.outer
  ·obtain ⟨sl2,e2⟩:=frame b _ hb e; exact ⟨_,e2⟩
  ·exact ⟨o',go b o' e (notfr b hb (old b o q)) (.inl (by rw [q]; simp))⟩
 ·refine (I.hok a o q).stay (fun b u hb e=>?_) (fun b r=>r) (fun b xs r=>r)
  rcases hb with rfl | hb
  ·exact go b u e (tr b _ q) (.inr (by rw [q]; simp))
  ·exact go b u e (tr b _ hb) (.inr (by rw [hb]; simp))
 ·have n:b∉frs X.stack:=by
   rcases hc with hc | hc
   ·cases q:X.s₀.heap.get? b with
    | none=>exact absurd q hc
    | some o0=>exact notfr b hb (old b o0 q)
   ·cases q:H1 b with
    | none=>exact absurd q hc
    | some u=>exact tr b u q
  have:∃ o1,s1.heap.get? b=some o1:=by
   rcases hc with hc | hc
   ·cases q:X.s₀.heap.get? b with
    | none=>exact absurd q hc
    | some o0=>exact I.base.there b o0 q (nx b)
   ·cases q:H1 b with
    | none=>exact absurd q hc
    | some u=>exact (I.hok b u q).there
  obtain ⟨o1,e1⟩:=this
  have e2:=go b o1 e1 n hc
  rw [e] at e2; cases e2
  exact hB b o e1 n hc
section
variable {P:Program} {w:World} {K:PySem.W.Frag} {mg:Str->Option Value} {base:Heap} {N:List Str} {qual:Str} {scope:Scope} {f:Addr} {cd:Value} {A:Around} {outer:List Env} {s:Shared} {H:Hp} {Ek:XK} {E2:XK2}
theorem lk_cx (ke:∀ ex C H',E2 ex (fun _=>none)->mg ex.cls=some (.ref C)->Ek (.ref C) none H'):Lk (cxOf (CXe P w) P w K mg base N qual scope f cd A outer s H Ek) E2 where
 made:=fun pins σ H1 s1 h1 a C args ex I hx hm hE=>by
  show wpAny (model P w) _ (leaving _ (.ref a)) _ _ _
  refine wpAny_leaves_madeW (h:=s1.heap) (base:=PySem.W.hideAll s1.heap (frs (cxOf (CXe P w) P w K mg base N qual scope f cd A outer s H Ek).stack)) I.ok.frames rfl (fun b o q=>PySem.W.of_hideAll _ q)
   (PySem.W.funFrames_hide I.stack fun env he b hb=>List.mem_filterMap.mpr ⟨env,he,hb⟩) hx fun h' t fl tup tn up=>?_
  obtain ⟨un,hok,hB⟩:=out_of I rfl rfl rfl hx.keeps (fun b o e n _=>PySem.W.hideAll_get _ e n) fl.1 up
  refine ⟨a,C,t,_,H1,rfl,I.os,I.bare,un,hok,hB,fl,?_,?_,ke ex C H1 hE hm⟩
  ·cases q:H1 a with
   | none=>rfl
   | some u =>
    obtain ⟨o,e⟩:=(I.hok a u q).there
    have:=hx.new
    rw [e] at this; cases this
  ·cases q:s.heap.get? a with
   | none=>rfl
   | some o =>
    obtain ⟨o',e⟩:=I.base.there a o q List.not_mem_nil
    have:=hx.new
    rw [e] at this; cases this
 pass:=fun pins σ H1 s1 s' e I hp0=>by
  obtain ⟨a,C,t,B,H',e1,os,bare,un,hok,hB,fl,ha,hs,ex,C',e2,hm,hE⟩:=hp0
  subst e1; cases e2
  show wpAny (model P w) _ (leaving _ (.ref a)) _ _ _
  have I':Inv (cxOf (CXe P w) P w K mg base N qual scope f cd A outer s H Ek) pins σ H' s':=by
   obtain ⟨hh,g,d,t,os'⟩:=s'
   obtain rfl:os'=s1.os:=os
   exact I.call (h':=hh) (g':=g) (d':=d) (t':=t) (ch:=[]) un hok bare (fun b z=>absurd z (by simp))
  refine wpAny_leaves_onW I.ok.frames rfl fl fun h' fl' up=>?_
  obtain ⟨un',hok',hB'⟩:=out_of I' rfl rfl rfl (fun _ _ e=>e) (fun b o e n c=>hB b o e n (c.imp (fun z=>by
   cases q:s.heap.get? b with
   | none=>exact absurd q z
   | some o0=>obtain ⟨o1,e1⟩:=I.base.there b o0 q List.not_mem_nil; rw [e1]; simp) id)) fl'.1 up
  refine ⟨a,C,t,B,H',rfl,I'.os,I'.bare,un',hok',hB',fl',ha,?_,ke ex C H' hE hm⟩
  cases q:s.heap.get? a with
  | none=>rfl
  | some o=>obtain ⟨o1,e1⟩:=I.base.there a o q List.not_mem_nil; rw [e1] at hs; cases hs
end
noncomputable def spOfX (K:PySem.W.Frag) (mg:Str->Option Value) (sp:Sp2):Sp:=fun vs H Q E=>∃ ds G Q2 E2,RepDs K H vs ds/\AbH K H G/\sp ds G Q2 E2/\(∀ d G' v H',Q2 d G'->Mv K H G H' G'->RepD K H' v d->Q v H') /\
 ∀ (ex:Ex) (C:Addr) (H':Hp),E2 ex (fun _=>none)->mg ex.cls=some (.ref C)->E (.ref C) none H'
theorem fun_okX {P:Program} {w:World} {K:PySem.W.Frag} {mg:Str->Option Value} {base:Heap} {x qual:Str} {st:Stmt} {f:Addr} {fd:FuncData} {Nn ps:List Str} {k:Nat} {sp:Sp2} {rd:TS2} (F:Fun K x qual st f fd) (S:FnScope Nn ps (defScope st)) (len:∀ ds G Q E,sp ds G Q E->ds.length=ps.length)
  (hr:∀ ds G Q E,sp ds G Q E->rd E (ends Q) (start2 Nn.length ds) G)
  (hb:∀ (cdv:Value) (A:Around) (outer:List Env) (s:Shared) (H:Hp) (E:XK),Room k (A.deeper (envOfC qual (defScope st) s.heap.objs.size f cdv))->PSs2 (cxOf (CXe P w) P w K mg base Nn qual (defScope st) f cdv A outer s H E) (defBody st) rd):FnOk P w K mg base (CXe P w) (k+1) f fd ps (spOfX K mg sp):=by
 obtain ⟨oc,od,kV,doc,pm,an,cdv,ct,osl,rfl,lk,hcd⟩:=F.ex
 refine fn_of lk hcd S ((by rintro vs H Q E ⟨ds,G,Q2,E2,r,ab,q,_⟩; exact by rw [r.length]; exact len _ _ _ _ q)) ?_
 rintro A outer s H vs Q E hroom ⟨ds,G,Q2,E2,r,ab,q,kk,ke⟩
 refine ⟨_,pss_of (hb cdv A outer s H E hroom) (lk_cx ke),?_⟩
 exact ⟨start2 Nn.length ds,G,ends Q2,start_ab r,ab,hr ds G Q2 E2 q,fun σ' H' τ' G' mv z=>kk _ _ _ _ z mv .non,fun v H' d G' mv rdv z=>kk _ _ _ _ z mv rdv,fun _ _ z=>z,fun _ _ z=>z⟩
end K2
end
section
namespace K2
open PySem PySem.Spec PyProof.Rows L2
noncomputable def kp1:HO->Bool
 | .tup _=>true
 | .frz _ (.lst _)=>true
 | .frz _ (.dK _)=>true
 | .frz _ (.dT _)=>true
 | .frz _ (.ext _)=>true
 | _=>false
noncomputable def hr (H:Hp):Hp:=fun b=>(H b).bind fun o=>if kp1 o=true then some o else none
noncomputable def hj (H1 H':Hp):Hp:=fun b=>match H1 b with
 | some o=>some o
 | none=>H' b
section
variable {P:Program} {w:World} {K:PySem.W.Frag} {H H1 H':Hp} {h h':Heap} {b:Addr} {o:HO} {fs:List Addr}
theorem hr_some (q:hr H b=some o):H b=some o/\kp1 o=true:=by
 unfold hr at q
 cases e:H b with
 | none=>rw [e] at q; cases q
 | some u =>
  rw [e] at q
  simp only [Option.bind_some] at q
  by_cases k:kp1 u=true
  ·rw [if_pos k] at q; cases q; exact ⟨rfl,k⟩
  ·rw [if_neg k] at q; cases q
theorem hr_of (q:H b=some o) (k:kp1 o=true):hr H b=some o:=by unfold hr; rw [q,Option.bind_some,if_pos k]
theorem hr_none (q:H b=none):hr H b=none:=by unfold hr; rw [q]; rfl
theorem hr_no (q:H b=some o) (k:kp1 o=false):hr H b=none:=by unfold hr; rw [q,Option.bind_some,if_neg (by rw [k]; exact Bool.false_ne_true)]
theorem hok_hr (x:HOk P w H h):HOk P w (hr H) h:=fun a o q=>by
 obtain ⟨e,k⟩:=hr_some q
 have y:=x a o e
 cases o with
 | tup xs=>exact y
 | frz ob u =>
  cases u with
  | lst _=>exact y
  | dK _=>exact y
  | ext _=>exact y
  | dT kvs =>
   obtain ⟨e1,z,n,xs,r,rest⟩:=y
   exact ⟨e1,z,n,xs,L2.Paired.mapP r (fun p q z=>⟨z.1,hr_of z.2.1 rfl,z.2.2⟩),rest⟩
  | _=>exact Bool.noConfusion (show false=true from k)
 | _=>exact Bool.noConfusion (show false=true from k)
theorem hj_of (q:H1 b=some o):hj H1 H' b=some o:=by unfold hj; rw [q]
theorem hj_new (q:H1 b=none):hj H1 H' b=H' b:=by unfold hj; rw [q]
theorem join (un:Un fs [] (hr H1) H' h h') (k1:HOk P w H1 h) (k2:HOk P w H' h') (fr:∀ b∈fs,H1 b=none) :
  Un fs [] H1 (hj H1 H') h h'/\HOk P w (hj H1 H') h'/\Kp H' (hj H1 H')/\∀ b u,(∀ o,H1 b=some o->kp1 o=false\/∃ ob v,o=.frz ob v)->H1 b≠none->h.get? b=some u->h'.get? b=some u:=by
 have nx:∀ c:Addr,c∉([]:List Addr):=fun c=>List.not_mem_nil
 have notin:∀ c u,H1 c=some u->c∉fs:=fun c u q z=>by rw [fr c z] at q; cases q
 have at1:∀ c u v,H1 c=some u->H' c=some v->u=v/\kp1 u=true:=fun c u v q q'=>by
  cases k:kp1 u with
  | false =>
   obtain ⟨ob,e⟩:=(k1 c u q).there
   have:=un.free c ob e (hr_no q k) (nx c)
   rw [this] at q'; cases q'
  | true =>
   have r:=hr_of q k
   cases u with
   | tup xs=>have:=un.tups c xs r; rw [q'] at this; cases this; exact ⟨rfl,rfl⟩
   | frz ob x=>have:=un.frzs c ob x r; rw [q'] at this; cases this; exact ⟨rfl,rfl⟩
   | _=>exact Bool.noConfusion (show false=true from k)
 have same:∀ b u,(∀ o,H1 b=some o->kp1 o=false\/∃ ob v,o=.frz ob v)->H1 b≠none->h.get? b=some u->h'.get? b=some u:=fun b u hh hn e=>by
  cases q:H1 b with
  | none=>exact absurd q hn
  | some o =>
   cases k:kp1 o with
   | false=>exact un.keep b u e (hr_no q k) (notin b o q) (nx b)
   | true =>
    rcases hh o q with z | ⟨ob,v,rfl⟩
    ·rw [z] at k; cases k
    ·have h1:=(k2 b _ (un.frzs b ob v (hr_of q k))).1
     have h2:=(k1 b _ q).1
     rw [h2] at e; cases e
     exact h1
 refine ⟨⟨fun c u e n hc hx=>un.keep c u e (hr_none n) hc hx,fun c u e n hc hx=>un.slot c u e (hr_none n) hc hx,fun c u e n hx=>?_,fun c u e hx=>un.there c u e hx,fun c xs q=>hj_of q,fun c ob u q=>hj_of q,fun c ps q=>⟨#[],by rw [hj_of q]; simp⟩⟩,fun c o q=>?_,⟨fun c xs q=>?_,fun c ob u q=>?_⟩,same⟩
 ·rw [hj_new n]; exact un.free c u e (hr_none n) hx
 ·cases q1:H1 c with
  | some o1 =>
   rw [hj_of q1] at q; cases q
   by_cases ht:∃ xs,o=.tup xs
   ·obtain ⟨xs,rfl⟩:=ht
    exact k2 c _ (un.tups c xs (hr_of q1 rfl))
   ·refine (k1 c o q1).stay (fun d u hd e=>?_) (fun d r=>hj_of r) (fun d xs r=>hj_of r)
    rcases hd with rfl | hd
    ·refine same d u (fun o' e'=>?_) (by rw [q1]; simp) e
     rw [q1] at e'; cases e'
     cases o with
     | tup xs=>exact absurd ⟨xs,rfl⟩ ht
     | frz ob v=>exact .inr ⟨ob,v,rfl⟩
     | _=>exact .inl rfl
    ·refine same d u (fun o' e'=>?_) (by rw [hd]; simp) e
     rw [hd] at e'; cases e'
     exact .inl rfl
  | none =>
   rw [hj_new q1] at q
   refine (k2 c o q).stay (fun d u _ e=>e) (fun d r=>?_) (fun d xs r=>?_)
   ·cases q2:H1 d with
    | none=>rw [hj_new q2]; exact r
    | some u=>obtain ⟨rfl,k⟩:=at1 d u _ q2 r; exact Bool.noConfusion (show false=true from k)
   ·cases q2:H1 d with
    | none=>rw [hj_new q2]; exact r
    | some u=>obtain ⟨rfl,k⟩:=at1 d u _ q2 r; exact hj_of q2
 ·cases q2:H1 c with
  | none=>rw [hj_new q2]; exact q
  | some u=>obtain ⟨rfl,k⟩:=at1 c u _ q2 q; exact hj_of q2
 ·cases q2:H1 c with
  | none=>rw [hj_new q2]; exact q
  | some v=>obtain ⟨rfl,k⟩:=at1 c v _ q2 q; exact hj_of q2
end
theorem RepD.hr {K:PySem.W.Frag} {H:Hp} {v:V} {d:D} (h:RepD K H v d):RepD K (K2.hr H) v d :=
 RepD.rec (motive_1:=fun v d _=>RepD K (K2.hr H) v d) (motive_2:=fun v d _=>RepDs K (K2.hr H) v d) (motive_3:=fun v d _=>DKs K (K2.hr H) v d) (motive_4:=fun v d _=>DTs K (K2.hr H) v d)
  .non .bl .int .str (fun h _ r=>.tup (hr_of h rfl) r) (fun h _ r=>.rol (h.imp (fun q=>q.elim fun o q=>⟨o,hr_of q rfl⟩) id) r) (fun h _ r=>.rodK (hr_of h rfl) r) (fun h _ r=>.rodT (hr_of h rfl) r) .ref (fun h=>.exc (by obtain ⟨o,C,h1,h2,h3⟩:=h; exact ⟨o,C,hr_of h1 rfl,h2,h3⟩)) .nil (fun _ _ a b=>.cons a b) .nil (fun _ _ a b=>.cons a b) .nil (fun _ _ a b=>.cons a b) h
theorem RepDs.hr {K:PySem.W.Frag} {H:Hp} {v:List V} {d:List D} (h:RepDs K H v d):RepDs K (K2.hr H) v d :=
 RepDs.indL (P:=fun v d=>RepDs K (K2.hr H) v d) .nil (fun r _ ih=>.cons r.hr ih) h
end K2
end
section
namespace K2
open PySem PySem.Spec PyProof.Rows L2
section
variable {M:Model} {A:Around} {E:Value->Shared->Prop}
variable {nm q nm' q':Str} {C N D N':Addr} {bs bm bs' bm':List Value} {hdct hdct':Bool} {sn sn':List Str} {sub sub':List Value} {ab ab':Bool} {col col':Option Bool} {dd dd':Option Addr} {k0 k1 k2 k3 k5 k0' k1' k2' k3' k5':Option Value} {newId newId':String}
theorem match_own {h:Heap} {g:Array GenState} {d:Drawn} {t:Nat} {os:OsState} {e:Addr} {oe:Obj} {Q:Bool->Shared->Prop}
  (hC:h.get? C=some (excClassObj nm q C N bs bm hdct sn sub ab col dd k0 k1 k2 k3 k5 newId)) (hD:h.get? D=some (excClassObj nm' q' D N' bs' bm' hdct' sn' sub' ab' col' dd' k0' k1' k2' k3' k5' newId'))
  (he:h.get? e=some oe) (hcls:oe.cls=.ref C) (hbase:bm'.contains (.type "BaseException")=true)
  (hq:Q ((Value.ref C :: bm).contains (.ref D)) ⟨h,g,d,t,os⟩):wpAny M A (excMatches (.ref e) (.ref D)) Q E ⟨h,g,d,t,os⟩:=by
 have hcB:(Value.ref D :: bm').contains (.type "BaseException")=true:=by rw [List.contains_cons,hbase,Bool.or_true]
 have f:=tc_notTuple
 generalize hb:(Value.ref C :: bm).contains (.ref D)=r at hq
 unfold excMatches
 repeat (first | (with_reducible refine wpAny_loadPart_at he ?_; rw [hcls]) | with_reducible refine wpAny_loadPart_at hD ?_ | (with_reducible refine wpAny_isSubtype_exc hD ?_; rw [hcB]) | (with_reducible refine wpAny_isSubtype_exc hC ?_; rw [hb]) | wp_step)
 cases r
 ·wp_walk; exact hq
 ·wp_walk; exact hq
end
section
variable {X:Cx} {pins:List (Addr×Obj)} {σ:L2.St} {H1:Hp} {G1:Gp} {s1:Shared} {k:Nat} {f:Addr} {fd:FuncData} {ps:List Str} {sp:Sp2}
theorem mv_hj {H':Hp} (ab:AbH X.K H1 G1):Mv X.K H1 G1 (hj H1 H') G1:=by
 have kp:Kp H1 (hj H1 H'):=⟨fun a xs e=>hj_of e,fun a o u e=>hj_of e⟩
 have ab':AbH X.K (hj H1 H') G1:=fun a g e=>(ab a g e).mono kp (by
  cases q:H1 a with
  | none=>exact absurd q (ab a g e).tracked
  | some o=>exact hj_of q)
 exact ⟨fun a o e n=>⟨hj_of e,n⟩,fun a n=>by
  cases q:G1 a with
  | none=>exact absurd q n
  | some g=>exact (ab' a g q).tracked,ab'⟩
theorem run_look {us:List Value} {vs:List V} {ds:List D} {Q2:DK} {E2:XK2} (F:FnOk X.prog X.w X.K X.mg X.base (CXe X.prog X.w) k f fd ps (spOfX X.K X.mg sp)) (hr:Room k X.A) (hb:Binds X.K fd ps []) (I:Inv X pins σ H1 s1) (ab:AbH X.K H1 G1) (r:Vals vs us) (rd:RepDs X.K H1 vs ds)
  (h:sp ds (fun _=>none) Q2 E2):wpAny (model X.prog X.w) X.A (call (.ref f) us)
   (fun u s'=>∃ v d G' Hj,Inv X pins σ Hj s'/\Mv X.K H1 G1 Hj G1/\RelV v u/\RepD X.K Hj v d/\Q2 d G')
   (fun e s'=>∃ (a C t:Addr) (B:Heap) (ex:Ex) (Hj:Hp),e=.ref a/\Inv X pins σ Hj s'/\Mv X.K H1 G1 Hj G1/\PySem.Heap.FlyingW B X.stack a (.ref C) (.ref t) s'.heap /\
    (∀ b o,s'.heap.get? b=some o->b∉frs X.stack->(s1.heap.get? b≠none\/Hj b≠none)->B.get? b=some o)/\Hj a=none/\s1.heap.get? a=none/\X.mg ex.cls=some (.ref C)/\E2 ex (fun _=>none)) s1:=by
 have hsp:spOfX X.K X.mg sp vs (K2.hr H1) (fun v H'=>∃ d G',RepD X.K H' v d/\Q2 d G') (exK X.mg E2) :=
  ⟨ds,fun _=>none,Q2,E2,rd.hr,(fun _ _ z=>by cases z),h,fun d G' v H' q _ rd'=>⟨d,G',rd',q⟩,fun ex C H' q hm=>⟨ex,C,rfl,hm,q⟩⟩
 have hl:us.length=ps.length:=by rw [← r.length]; exact F.len _ _ _ _ hsp
 have e0:=I.env0
 have e1:Env0 X.prog X.w X.K X.mg X.base X.A X.stack s1 (K2.hr H1):=⟨e0.frames,e0.mod,fun b o q=>⟨(e0.bs b o q).1,hr_none (e0.bs b o q).2⟩,e0.bsz,e0.funs,fun b z=>hr_none (e0.frf b z),hok_hr e0.hok,e0.bare⟩
 have hbu:=hb s1 us I.kIn (by rw [List.append_nil]; exact hl)
 rw [List.append_nil] at hbu
 refine wpAny_call (codeAny_mono (F.run X.A X.stack s1 (K2.hr H1) ⟨us,[]⟩ us vs _ _ hr e1 hbu r hsp) fun res s' hq=>?_)
 cases res with
 | error e =>
  obtain ⟨a,C,t,B,H',rfl,os,bare,un,hok,hB,fl,ha,hs,ex,C',ec,hm,hE⟩:=hq
  cases ec
  obtain ⟨un',hok',_,_⟩:=join un I.hok hok e0.frf
  have h1a:H1 a=none:=by
   cases q:H1 a with
   | none=>rfl
   | some u=>obtain ⟨o,e⟩:=(I.hok a u q).there; rw [e] at hs; cases hs
  refine ⟨a,C,t,B,ex,hj H1 H',rfl,I.call' (ch:=[]) os un' hok' bare (fun b z=>absurd z (by simp)),mv_hj ab,fl,fun b o e n c=>hB b o e n ?_,by rw [hj_new h1a]; exact ha,hs,hm,hE⟩
  rcases c with c | c
  ·exact .inl c
  ·cases q:H1 b with
   | none=>rw [hj_new q] at c; exact .inr c
   | some u=>obtain ⟨o1,e1⟩:=(I.hok b u q).there; exact .inl (by rw [e1]; simp)
 | ok fl =>
  cases fl with
  | ret u =>
   obtain ⟨v,H',os,bare,un,hok,rv,d,G',rd',q⟩:=hq
   obtain ⟨un',hok',kp,_⟩:=join un I.hok hok e0.frf
   exact ⟨v,d,G',hj H1 H',I.call' (ch:=[]) os un' hok' bare (fun b z=>absurd z (by simp)),mv_hj ab,rv,rd'.mono kp,q⟩
  | next=>exact False.elim hq
  | brk=>exact False.elim hq
  | cont=>exact False.elim hq
end
end K2
end
section
namespace K2
open PySem PySem.Spec PyProof.Rows L2
section
variable {X:Cx} {pins:List (Addr×Obj)} {σ:L2.St} {H H1:Hp} {s s1:Shared} {h6 B:Heap} {a:Addr} {o:Obj} {u:HO}
theorem cell_up {h h':Heap} {c:Addr} {v:Option Value} (up:h.UpToSlots h') (z:h.IsCell c v):h'.IsCell c v:=by
 obtain ⟨o,ho,hd⟩:=z
 obtain ⟨sl,e⟩:=up c o ho (fun vs q=>by rw [hd] at q; cases q)
 exact ⟨_,e,hd⟩
theorem pin_nofr (I:Inv X pins σ H s) (hst:X.stack=X.env :: X.outer) (hlf:X.env.frame=some X.env.locals) {p:Addr×Obj} (hp:p∈X.pn++pins):p.1∉frs X.stack:=fun z=>by
 obtain ⟨_,_,h3,h4,_⟩:=I.pin p hp
 rw [hst] at z; unfold frs at z; rw [List.filterMap_cons_some hlf] at z
 rcases List.mem_cons.mp z with e | e
 ·exact h3 e
 ·exact h4 e
theorem Inv_flown (I : Inv X pins σ H s) (I1 : Inv X pins σ H1 s1) (hst : X.stack = X.env :: X.outer) (hlf : X.env.frame = some X.env.locals) (hex : X.ex = [])
    (hB : ∀ b o, s.heap.get? b = some o → b ∉ frs X.stack → (s1.heap.get? b ≠ none ∨ H b ≠ none) → B.get? b = some o) (stay : B.StaysIn h6) (up : s.heap.UpToSlots h6) (tk : Nat) : Inv X pins σ H { s with heap := h6, toks := tk } := by
  have z := out_of I hst hlf hex (fun _ _ e => e) (fun b o e n c => hB b o e n (c.imp (fun c => by
    cases q : X.s₀.heap.get? b with
    | none => exact absurd q c
    | some o0 => obtain ⟨o1, e1⟩ := I1.base.there b o0 q (by rw [hex]; exact List.not_mem_nil); rw [e1]; simp) id)) stay up
  exact { ok := I.ok, os := I.os, bare := I.bare
          base := by rw [hex]; exact z.1
          loc := by
            obtain ⟨m, hn, hl⟩ := I.loc
            exact ⟨m, up.ns hn, fun i x v e1 e2 e3 => let ⟨u, r, q⟩ := hl i x v e1 e2 e3; ⟨u, r, q.imp id fun ⟨k, c, e, y⟩ => ⟨k, c, e, cell_up up y⟩⟩⟩
          cell := fun x c e => let ⟨v, y⟩ := I.cell x c e; ⟨v, cell_up up y⟩
          free := I.free, freeC := I.freeC
          pin := fun p hp => by
            obtain ⟨h1, h2⟩ := I.pin p hp
            exact ⟨stay _ _ (hB p.1 p.2 h1 (pin_nofr I hst hlf hp) (.inl (by rw [(I1.pin p hp).1]; simp))), h2⟩
          hok := z.2.1
          len := I.len }
theorem Inv_track (I : Inv X pins σ H s) (ha : H a = none) (hn : X.s₀.heap.get? a = none) (nl : a ≠ X.env.locals) (nc : ∀ x c, X.env.cells.lookup x = some c → c ≠ a) (np : ∀ p ∈ X.pn ++ pins, p.1 ≠ a) (new : ObjOk X.prog X.w (upd H a u) s.heap a u) :
    Inv X pins σ (upd H a u) s := by
  have ne : ∀ b v, H b = some v → b ≠ a := fun b v q e => by rw [e, ha] at q; cases q
  exact { ok := I.ok, os := I.os, bare := I.bare
          base := ⟨I.base.keep, I.base.slot, fun b o q n hx => by
            have : b ≠ a := fun e => by rw [e, hn] at q; cases q
            rw [upd_ne this]; exact I.base.free b o q n hx, I.base.there, fun b xs q => by have r := I.base.tups b xs q; rw [upd_ne (ne _ _ r)]; exact r, fun b o v q => by have r := I.base.frzs b o v q; rw [upd_ne (ne _ _ r)]; exact r,
            fun b ps q => by obtain ⟨more, r⟩ := I.base.tbls b ps q; exact ⟨more, by rw [upd_ne (ne _ _ r)]; exact r⟩⟩
          loc := I.loc, cell := I.cell
          free := by rw [upd_ne (Ne.symm nl)]; exact I.free
          freeC := fun x c e => by rw [upd_ne (nc x c e)]; exact I.freeC x c e
          pin := fun p hp => by obtain ⟨h1, h2, h3⟩ := I.pin p hp; exact ⟨h1, by rw [upd_ne (np p hp)]; exact h2, h3⟩
          hok := fun b v q => by
            by_cases e : b = a
            · subst e; rw [upd_same] at q; cases q; exact new
            · rw [upd_ne e] at q
              exact (I.hok b v q).stay (fun _ _ _ y => y) (fun c r => by rw [upd_ne (ne _ _ r)]; exact r) (fun c xs r => by rw [upd_ne (ne _ _ r)]; exact r)
          len := I.len }
noncomputable abbrev marked (X:Cx) (v:Value):Cx:={ X with A:=X.A.mark (some v),calm:=false,xe:=fun _ _=>False }
theorem Ok_mark {v:Value} (ok:X.Ok):(marked X v).Ok :=
 ⟨ok.mod,ok.kind,ok.glob,ok.blt,ok.above,ok.inj,ok.has,ok.cab,fun z=>(by cases z),ok.frames,ok.stk,ok.exf,ok.bs,ok.bsz,ok.noex,ok.exfs,ok.funs,ok.frf⟩
theorem Inv_mark {v:Value} (I:Inv X pins σ H s):Inv (marked X v) pins σ H s:=⟨Ok_mark I.ok,I.os,I.bare,I.base,I.loc,I.cell,I.free,I.freeC,I.pin,I.hok,I.len⟩
theorem Inv_unmark {v:Value} (ok:X.Ok) (I:Inv (marked X v) pins σ H s):Inv X pins σ H s:=⟨ok,I.os,I.bare,I.base,I.loc,I.cell,I.free,I.freeC,I.pin,I.hok,I.len⟩
theorem unname {M : Model} {A : Around} {E : Value → Shared → Prop} {i : Nat} {n : Str} {pos : Pos} {Q : Unit → Shared → Prop} (I : Inv X pins σ H s) (hN : X.N.Nodup) (hi : X.N[i]? = some n) (hk : X.env.scope.names.lookup n = some .local)
    (h : ∀ s', Inv X pins (σ.set i none) H s' → Q () s') : wpAny M A (do bindName X.env n .none; unbindBehindTheSuite X.env n pos) Q E s := by
  obtain ⟨m, hn, hl⟩ := id I.loc
  have hcls : (X.env.scope.kind == .class || (X.env.scope.kind == .module && X.env.locals != X.env.globals)) = false := by rw [I.ok.kind]; rfl
  obtain ⟨oL, _, _, hoL, _⟩ := id hn
  refine wpAny_nameGoes_keeps hk hn hcls fun h' v hn' hs => h _ ?_
  have low : ∀ b o, X.s₀.heap.get? b = some o → b ≠ X.env.locals := fun b o e => Nat.ne_of_lt (Nat.lt_of_lt_of_le (Heap.lt_size e) I.ok.above)
  exact { ok := I.ok, os := I.os, bare := I.bare
          base := ⟨fun b o e n hb hx => (hs.2 b (low b o e)).trans (I.base.keep b o e n hb hx), fun b o e n hb hx => by
              obtain ⟨sl, e1⟩ := I.base.slot b o e n hb hx
              exact ⟨sl, (hs.2 b (low b o e)).trans e1⟩, I.base.free, fun b o e hx => by
              obtain ⟨o', e1⟩ := I.base.there b o e hx
              exact ⟨o', (hs.2 b (low b o e)).trans e1⟩, I.base.tups, I.base.frzs, I.base.tbls⟩
          loc := ⟨_, hn', fun j y v' e1 e2 e3 => by
            by_cases hj : j = i
            · subst hj
              by_cases hlt : j < σ.length
              · rw [List.getElem?_set_self hlt] at e2; cases e2
              · rw [List.getElem?_eq_none (by rw [List.length_set]; lia)] at e2; cases e2
            · rw [List.getElem?_set_ne (Ne.symm hj)] at e2
              obtain ⟨u', r', q⟩ := hl j y v' e1 e2 e3
              refine ⟨u', r', ?_⟩
              rcases q with ⟨k, e⟩ | ⟨k, c, e, z⟩
              · refine .inl ⟨k, ?_⟩
                have : y ≠ n := fun e => hj (nodup_ix hN e1 (e ▸ hi))
                simp [this, e]
              · exact .inr ⟨k, c, e, z.sameBut hs (I.cne y c e)⟩⟩
          cell := fun y c e => by
            obtain ⟨w', z⟩ := I.cell y c e
            exact ⟨w', z.sameBut hs (I.cne y c e)⟩
          free := I.free, freeC := I.freeC
          pin := fun p hp => by
            obtain ⟨h1, h2, h3, h4⟩ := I.pin p hp
            exact ⟨(hs.2 p.1 h3).trans h1, h2, h3, h4⟩
          hok := fun b ob e => by
            refine (I.hok b ob e).stay (fun c w' hc q => (hs.2 c ?_).trans q) (fun _ q => q) fun _ _ q => q
            rintro rfl
            rcases hc with rfl | hc
            · rw [I.free] at e; cases e
            · rw [I.free] at hc; cases hc
          len := by rw [List.length_set]; exact I.len }
end
theorem AbS_unset {K:PySem.W.Frag} {H:Hp} {σ:L2.St} {τ:St2} (a:AbS K H σ τ) (i:Nat):AbS K H (σ.set i none) (τ.set i none):=by
 refine ⟨by rw [List.length_set,List.length_set]; exact a.len,fun j e h=>?_⟩
 by_cases hj:i=j
 ·subst hj
  by_cases hi:i < τ.length
  ·rw [List.getElem?_set_self hi] at h; cases h
  ·rw [List.getElem?_eq_none (by rw [List.length_set]; lia)] at h; cases h
 ·rw [List.getElem?_set_ne hj] at h
  obtain ⟨w,h1,h2⟩:=a.at' j e h
  exact ⟨w,by rw [List.getElem?_set_ne hj]; exact h1,h2⟩
end K2
end
section
namespace K2
open PySem PySem.Spec PyProof.Rows L2
noncomputable def subIn (K:PySem.W.Frag) (C:Addr) (v:Value):Bool:=match K.lookup C with
 | some ⟨_,_,.cls cd,_⟩=>cd.mro.contains v
 | _=>false
theorem sub_obj {K:PySem.W.Frag} {h:Heap} {C N:Addr} {nm q:Str} {bs bm:List Value} {hdct:Bool} {sn:List Str} {sub:List Value} {ab:Bool} {col:Option Bool} {dd:Option Addr} {k0 k1 k2 k3 k5:Option Value} {newId:String} {v:Value}
  (Y:K.In h) (hC:h.get? C=some (excClassObj nm q C N bs bm hdct sn sub ab col dd k0 k1 k2 k3 k5 newId)) (e:subIn K C v=true):(Value.ref C :: bm).contains v=true:=by
 unfold subIn at e
 split at e
 ·rename_i ho
  have:=Y _ _ ho
  rw [hC] at this
  cases this
  exact e
 ·cases e
section
variable {X:Cx} {x cn n:Str} {D f:Addr} {fd:FuncData} {ps:List Str} {k i:Nat} {sp:Sp2} {bmD:List Value} {newD:String} {cat:List Str} {e:Expr} {es:List Expr} {p np pos ep hpos tp:Pos} {st0:Stmt} {suite:List Stmt} {t:TA2} {th:TS2}
structure AtDef (X:Cx):Prop where
 st:X.stack=X.env :: X.outer
 fr:X.env.frame=some X.env.locals
 ex:X.ex=[]
structure Clause (X:Cx) (i:Nat) (n cn:Str) (D:Addr) (cat:List Str):Prop where
 nd:X.N.Nodup
 at1:X.N[i]?=some n
 loc:X.env.scope.names.lookup n=some .local
 gl:Gl X cn
 mg:X.mg cn=some (.ref D)
 cls:∃ bmD newD,PySem.W.excIn X.K D bmD newD=true/\bmD.contains (.type "BaseException")=true
 cat:∀ c,cat.contains c=true->∃ C bmB newId,PySem.W.nsIn X.K mainGlobals c=some (some (.ref C))/\PySem.W.excIn X.K C bmB newId=true/\subIn X.K C (.ref D)=true
theorem caught_look {pins:List (Addr×Obj)} {σ:L2.St} {H H1 Hj:Hp} {τ:St2} {G G1:Gp} {s1 s':Shared} {Dn:Ends2} {a C t0:Addr} {B:Heap} {ex:Ex} (A0:AtDef X) (L:Clause X i n cn D cat) (hth:∀ v,PSs2 (marked X v) (st0 :: suite) th) (J1:Inv X pins σ H1 s1) (st1:AbS X.K H1 σ τ) (ab1:AbH X.K H1 G1) (m1:Mv X.K H G H1 G1)
  (I':Inv X pins σ Hj s') (mv:Mv X.K H1 G1 Hj G1) (fl:PySem.Heap.FlyingW B X.stack a (.ref C) (.ref t0) s'.heap) (hB:∀ b o,s'.heap.get? b=some o->b∉frs X.stack->(s1.heap.get? b≠none\/Hj b≠none)->B.get? b=some o)
  (ha':Hj a=none) (hs':s1.heap.get? a=none) (hm':X.mg ex.cls=some (.ref C)) (hc':cat.contains ex.cls=true)
  (q':th (fun _ _=>False) ⟨fun τ' G'=>Dn.nx (τ'.set i none) G',fun _ _=>False,fun _ _=>False,fun _ _=>False⟩ (τ.set i (some (.exc ex.cls))) G1) (hdD:(cn == ("__debug__" : Str))=false) :
  wpAny (model X.prog X.w) X.A (noteFrame (.ref a) X.env) (fun _ s₂=>wpAny (model X.prog X.w) X.A (setFlight (.ref a) none) (fun _ s₃=>wpAny (model X.prog X.w) X.A (handleBy (.ref a) X.env [.ExceptHandler (some (.Name cn np)) (some n) (st0 :: suite) hpos]) (SP2 X pins H G Dn) X.xe s₃) X.xe s₂) X.xe s':=by
 obtain ⟨hst,hlf,hex⟩:=A0
 obtain ⟨hN,hi,hl,hgD,hmD,⟨bmD,newD,qD,bD⟩,hcat⟩:=L
 obtain ⟨C',bmB,newId,hns,qC,hsub⟩:=hcat ex.cls hc'
 have eC:C'=C:=by
  have:=PySem.W.mg_of J1.ok.mod.kin J1.ok.mod.glob hns
  rw [hm'] at this; cases this; rfl
 subst eC
 rw [hst] at fl
 refine wpAny_looks_onW (L:=X.env.locals) (by rw [← hst]; exact J1.ok.frames) hlf fl fun h4 held up4=>?_
 refine wpAny_landsW held fun h5 fl5 up5=>?_
 have I5:Inv X pins σ Hj { s' with heap:=h5 }:=Inv_flown I' J1 hst hlf hex hB fl5.1 (up4.trans up5) _
 refine wpAny_handleBy_cons (codeAny_handlers_test ?_) (by intro z; cases z)
 refine ld_glob (X:=marked X (.ref a)) (Inv_mark I5) hgD hmD ?_ hdD
 obtain ⟨bm,N,nm,qn,bs,hdct,sn,sub,ab,col,dd,k0,k1,k2,k3,k5,mN,hC,_,_,T⟩:=exc_obj I5.kIn qC
 obtain ⟨bm',N',nm',qn',bs',hdct',sn',sub',ab',col',dd',k0',k1',k2',k3',k5',mN',hD,_,_,T'⟩:=exc_obj I5.kIn qD
 obtain ⟨oe,he5,hce⟩:=fl5.there
 refine match_own hC hD he5 hce (T'.hasType bD) ?_
 rw [sub_obj I5.kIn hC hsub]
 refine codeAny_handlers_suite_as ?_
 refine lands_againW fl5 fun h6 fl6 up6=>?_
 have I6:Inv X pins σ Hj { s' with heap:=h6 }:=Inv_flown I' J1 hst hlf hex hB fl6.1 ((up4.trans up5).trans up6) _
 obtain ⟨oe6,he6,hc6⟩:=fl6.there
 have nl:a≠X.env.locals:=fun z=>by
  obtain ⟨m,⟨oL,_,_,hoL,_⟩,_⟩:=J1.loc
  rw [z,hoL] at hs'; cases hs'
 have nc:∀ y c,X.env.cells.lookup y=some c->c≠a:=fun y c ec z=>by
  obtain ⟨v,o,ho,_⟩:=J1.cell y c ec
  rw [z,hs'] at ho; cases ho
 have npn:∀ q∈X.pn++pins,q.1≠a:=fun q hq z=>by
  have:=(J1.pin q hq).1
  rw [z,hs'] at this; cases this
 have hn:X.s₀.heap.get? a=none:=by
  cases q0:X.s₀.heap.get? a with
  | none=>rfl
  | some o=>obtain ⟨o1,e1⟩:=J1.base.there a o q0 (by rw [hex]; exact List.not_mem_nil); rw [e1] at hs'; cases hs'
 have I7:=Inv_track (u:=.frz oe6 (.ext fun h=>h.get? a=some oe6)) I6 ha' hn nl nc npn ⟨he6,he6,⟨_,he6⟩,fun h1 h2 q k=>k _ q⟩
 have mvT:Mv X.K Hj G1 (upd Hj a (.frz oe6 (.ext fun h=>h.get? a=some oe6))) G1:=.hid mv.ab ha'
 have kp7:Kp H1 (upd Hj a (.frz oe6 (.ext fun h=>h.get? a=some oe6))):=(mv.trans mvT).kp ab1
 refine store_ok2 (v:=.ref a) I7 hN hi (.inl hl) rfl (fun s8 I8 _=>?_) (.inr hl)
 refine wpAny_mono (hth (.ref a) (fun _ _=>False) pins s8 _ _ (τ.set i (some (.exc ex.cls))) G1 _ (Lk.none fun _ _ z=>z)
  ⟨Inv_mark I8,(st1.mono kp7).set i (.exc ⟨oe6,C',upd_same,hc6,hns⟩),mvT.ab⟩ q') (fun fw s9 q9=>?_) (fun _ _ z=>z.elim)
 cases fw with
 | next =>
  obtain ⟨σ9,H9,τ9,G9,I9,m9,q9⟩:=q9
  exact unname (Inv_unmark J1.ok I9.inv) hN hi hl fun s10 I10=>⟨σ9.set i none,H9,τ9.set i none,G9,⟨I10,AbS_unset I9.st i,I9.ab⟩,m1.trans (mv.trans (mvT.trans m9)),q9⟩
 | brk=>obtain ⟨_,_,_,_,_,_,z⟩:=q9; exact z.elim
 | cont=>obtain ⟨_,_,_,_,_,_,z⟩:=q9; exact z.elim
 | ret u=>obtain ⟨_,_,_,_,_,_,_,_,_,z⟩:=q9; exact z.elim
theorem ps2_tryA {y:Str} {j:Nat} {py:Pos} (A0:AtDef X) (L:Clause X i n cn D cat) (hj:X.N[j]?=some y) (hy:Loc X.env.scope y)
  (F:FnOk X.prog X.w X.K X.mg X.base (CXe X.prog X.w) k f fd ps (spOfX X.K X.mg sp)) (hr:Room k X.A) (hg:Gl X x) (hm:X.mg x=some (.ref f)) (hk:PySem.W.keepIn X.K (.ref f)=true) (hb:Binds X.K fd ps [])
  (ha:∀ EX,PA2 (X.wish EX) (e :: es) t) (hth:∀ v,PSs2 (marked X v) (st0 :: suite) th)
  (hdb:autoParam ((x == ("__debug__" : Str))=false) Ad._auto_1) (hdD:autoParam ((cn == ("__debug__" : Str))=false) Ad._auto_1) (he:autoParam (starEach (e :: es) X.env=(false,eval e X.env) :: starEach es X.env) Ar._auto_1) (hpl:autoParam ((backTo pos (starEach es X.env)).any (·.1)=false) Ar._auto_1)
  (hs:autoParam (swapsWith (.Call (.Name x p) (e :: es) [] pos) (some (.Name y py)) ep.line X.env=pure false) Ar._auto_1) (hf:autoParam (X.fn y=true\/X.env.scope.names.lookup y=some .local) Ao._auto_1) :
  PS2 X (.Try [.Assign [.Name y py] (.Call (.Name x p) (e :: es) [] pos) ep] [.ExceptHandler (some (.Name cn np)) (some n) (st0 :: suite) hpos] [] [] tp) (dTryA sp t j i cat th):=by
 intro E pins s σ H τ G Dn hE I h
 refine wpAny_Try_except ?_
 refine wpAny_execs_cons (wpAny_Assign_Name ?_ hs)
 generalize hEX:(fun (e:Value) (s₁:Shared)=>wpAny (model X.prog X.w) X.A (noteFrame e X.env) (fun _ s₂=>wpAny (model X.prog X.w) X.A (setFlight e none) (fun _ s₃=>wpAny (model X.prog X.w) X.A (handleBy e X.env [.ExceptHandler (some (.Name cn np)) (some n) (st0 :: suite) hpos]) (SP2 X pins H G Dn) X.xe s₃) X.xe s₂) X.xe s₁)=EX
 refine wpAny_Call_Name_kw (ld_glob I.inv hg hm ?_ hdb)
 have I0:I2 (X.wish EX) pins σ H τ G s:=⟨I.inv.wish EX,I.st,I.ab⟩
 refine PySem.W.callWith_K (h₀:=X.base) I.inv.ok.mod.kin hk (thnA (X:=X.wish EX) (ha EX) pos (Lk.none fun _ _ z=>z) I0 h fun vs H1 ds G1 us s1 I1 m1 r rd q=>⟨I1.inv.kIn,?_⟩) he hpl
 have J1:Inv X pins σ H1 s1:=I1.inv.unwish
 refine wpAny_mono (run_look F hr hb J1 I1.ab r rd q) ?_ ?_
 ·rintro u s' ⟨v,d,G',Hj,I',mv,rv,rd',q'⟩
  exact store_ok I' L.nd hj hy rv (fun s2 I2'=>wpAny_execs_nil (wpAny_execs_nil ⟨_,Hj,_,G1,⟨I2',(I1.st.mono (mv.kp I1.ab)).set j rd',mv.ab⟩,m1.trans mv,q'⟩)) hf
 ·rintro ev s' ⟨a,C,t0,B,ex,Hj,ea,I',mv,fl,hB,ha',hs',hm',hc',q'⟩
  subst ea; subst hEX
  exact caught_look A0 L hth J1 I1.st I1.ab m1 I' mv fl hB ha' hs' hm' hc' q' hdD
theorem pe2_callX (F:FnOk X.prog X.w X.K X.mg X.base (CXe X.prog X.w) k f fd ps (spOfX X.K X.mg sp)) (hr:Room k X.A) (hg:Gl X x) (hm:X.mg x=some (.ref f)) (hk:PySem.W.keepIn X.K (.ref f)=true) (hb:Binds X.K fd ps [])
  (ha:PA2 X (e :: es) t) (hdb:autoParam ((x == ("__debug__" : Str))=false) Ad._auto_1) (he:autoParam (starEach (e :: es) X.env=(false,eval e X.env) :: starEach es X.env) Ar._auto_1) (hpl:autoParam ((backTo pos (starEach es X.env)).any (·.1)=false) Ar._auto_1) :
  PE2 X (.Call (.Name x p) (e :: es) [] pos) (dCallX sp t):=by
 intro E pins s σ H τ G Q hE I h
 refine wpAny_Call_Name_kw (ld_glob I.inv hg hm ?_ hdb)
 refine PySem.W.callWith_K (h₀:=X.base) I.inv.ok.mod.kin hk (thnA ha pos hE I h fun vs H1 ds G1 us s1 I1 m1 r rd q=>⟨I1.inv.kIn,?_⟩) he hpl
 refine thn (run_fn (E:=exK X.mg E) F hr hb .nil (fun pins σ H s e s' I hq=>hE.pass pins σ H s s' e I hq) I1.inv r (Q:=Rch X.K H1 G1 Q) ?_) fun _ _ z=>(EP2.of z).trans m1
 rw [List.append_nil]
 exact ⟨ds,G1,Q,E,rd,I1.ab,q,fun d G' v H' q' m' rd'=>⟨d,G',m',rd',q'⟩,fun ex C H' q' hm'=>⟨ex,C,rfl,hm',q'⟩⟩
end
end K2
end
section
namespace K2
open PySem PySem.Spec PyProof.Rows L2 PySem.W PySem.Calls PySem.Builtin PySem.Builtin.Getset_descriptor
section
variable {prog:Program} {w:World} {A:Around} {E:Value->Shared->Prop} {s:Shared} {K:PySem.W.Frag} {a C:Addr} {ox:Obj}
theorem exc_cls {Q:Option Value->Shared->Prop} {B:String} {bmB:List Value} (FB:ExcAttrBase B bmB) (X:K.In s.heap) (hx:s.heap.get? a=some ox) (hc:ox.cls=.ref C) (hga:findIn K (.ref C) "__getattribute__" = some (some (.builtin "BaseException.__getattribute__"))) (hgn:findIn K (.ref C) "__getattr__" = some none)
  (hA:findIn K (.ref C) "__class__" = some (some (.builtin "object.__class__"))) (hG:specialIn K (.builtin "object.__class__") "__get__" = some (some (.builtin "getset_descriptor.__get__"))) (hT:takesIn K (.builtin "object.__class__")=some true) (hm:mroIn K C (.type "object")=some true) (hmB:mroIn K C (.type "BaseException")=some true)
  (h:Q (some (.ref C)) { s with toks:=s.toks+1 }):wpAny (model prog w) A (getAttr? (.ref a) "__class__") Q E s:=by
 obtain ⟨hh,g,d,t,os⟩:=s
 have L0:Looks (model prog w) hh (typeOf (.ref a)) (.ref C):=hc ▸ (Looks.ld hx).andThen .now
 have L1:=looks_findIn (M:=model prog w) X hga
 have L2:=looks_findIn (M:=model prog w) X hgn
 have L5:=looks_mroIn (M:=model prog w) X hm
 have L3:Looks (model prog w) hh (Builtin.ObjectAttr.find (.ref a) (.ref C) "__class__") (.bind (.builtin "getset_descriptor.__get__") (.builtin "object.__class__")):=by
  refine (looks_findIn X hA).andThen ((looks_specialIn X hG:Looks (model prog w) hh (Builtin.ObjectAttr.getOf (some (.builtin "object.__class__"))) _).andThen ?_)
  refine ((looks_takesIn X hT).andThen .now:Looks (model prog w) hh (Builtin.ObjectAttr.dataDescriptor? (some (.builtin "object.__class__")) (some (.builtin "getset_descriptor.__get__"))) (some (.builtin "getset_descriptor.__get__",.builtin "object.__class__"))).andThen ?_
  exact Looks.tag .now
 have L4:=looks_mroIn (M:=model prog w) X hmB
 have hx2:(Value.builtin "BaseException.__getattribute__" == Value.builtin "object.__getattribute__")=false:=by decide +kernel
 unfold getAttr? getAttrBy? getAttrBy
 refine wpAny_bind (wpAny_mkText (wpAny_bind (wpAny_attempt (wpAny_holding (wpAny_bind (L0.at (wpAny_bind (L1.at ?_))))))))
 dsimp only
 rw [if_neg (by rw [hx2]; simp)]
 unfold getAttrByItsOwn hookBefore callGetattribute
 have f3:=FB.ga.bind (.ref a)
 have fin:codeAny (model prog w) A (.call (.builtin "BaseException.__getattribute__") ⟨[.ref a,.str "__class__" t],[]⟩) (fun r s'=>r=.ok (.ret (.ref C))/\s'=⟨hh,g,d,t+1,os⟩) ⟨hh,g,d,t+1,os⟩:=by
  refine codeAny_call_builtin FB.ga.plain F.entry_bexc_ga ?_
  have hk:builtinKind "BaseException.__getattribute__" = some .slot:=by decide +kernel
  have hsplit:splitId "BaseException.__getattribute__" = some ("BaseException","__getattribute__"):=by decide +kernel
  have ha:=F.args_bexc_ga (.ref a) (.str "__class__" t)
  have LI:Looks (model prog w) hh (isInstance (.ref a) (.type "BaseException")) true:=L0.andThen L4
  simp only [checkBuiltinCall,hk,hsplit]
  refine wpAny_bind (LI.at ?_)
  simp only [Bool.not_true,Bool.false_eq_true,if_false]
  have body:wpAny (model prog w) A.in1 (Builtin.«object.__getattribute__» ⟨[.ref a,.str "__class__" t],[]⟩)
    (fun fin s'=>fin=.done (.ret (.ref C))/\s'=⟨hh,g,d,t+1,os⟩) (fun _ _=>False) ⟨hh,g,d,t+1,os⟩:=by
   unfold Builtin.«object.__getattribute__»
   refine wpAny_bind (wpAny_pure ?_)
   refine wpAny_bind (wpAny_pure ?_)
   refine wpAny_bind (L0.at (wpAny_bind (L3.at ?_)))
   show wpAny _ _ (Builtin.ObjectAttr.bindTo (.builtin "getset_descriptor.__get__") (.builtin "object.__class__") (.ref a) (.ref C)) _ _ _
   show wpAny _ _ (do let v ← holding [.builtin "object.__class__"] (call (.builtin "getset_descriptor.__get__") [.builtin "object.__class__",.ref a,.ref C]); ret v) _ _ _
   refine wpAny_bind (wpAny_holding (wpAny_call ?_))
   refine codeAny_call_builtin KF.slot_gs.plain KF.entry_gs (KF.slot_gs.check _ _ _ _ _ _ _ _ KF.type_class (KF.args_gs _ _ _) ?_)
   unfold Builtin.«getset_descriptor.__get__» descrGet
   rw [dga_obj]
   refine wpAny_bind (wpAny_pure ?_)
   unfold descrGetter descrCheckInstance descrNameAndClass isInstance
   simp only [KF.owner_class]
   repeat lk
   refine ⟨Code.quiet_builtin _ (by decide +kernel),codeAny_builtin KF.entry_class ?_⟩
   unfold Builtin.«object.__class__» shownTypeOf
   repeat lk
   exact ⟨rfl,rfl⟩
  have go:∀ z:Sem Unit,z=pure ()->∀ (P:Unit->Shared->Prop) (E':Value->Shared->Prop) s',P () s'->wpAny (model prog w) A.in1 z P E' s':=fun z e P E' s' hp=>by rw [e]; exact wpAny_pure hp
  refine go _ ha _ _ _ (wpAny_mono body ?_ (fun _ _ z=>z.elim))
  rintro fin s' ⟨e1,e2⟩
  subst e1; exact ⟨rfl,e2⟩
 refine wpAny_bind (L2.at (wpAny_bind (wpAny_attempt (wpAny_holding ?_))))
 simp only [Bool.false_and,Bool.false_eq_true,if_false]
 unfold boundAndCalled
 rw [f3]
 refine wpAny_bind (wpAny_pure (wpAny_call (codeAny_mono fin ?_)))
 rintro r s' ⟨e1,e2⟩
 subst e1; subst e2
 exact wpAny_pure (wpAny_pure h)
structure ExcIs (K:PySem.W.Frag) (C:Addr):Prop where
 ga:findIn K (.ref C) "__getattribute__" = some (some (.builtin "BaseException.__getattribute__"))
 gn:findIn K (.ref C) "__getattr__" = some none
 at1:findIn K (.ref C) "__class__" = some (some (.builtin "object.__class__"))
 sp:specialIn K (.builtin "object.__class__") "__get__" = some (some (.builtin "getset_descriptor.__get__"))
 tk:takesIn K (.builtin "object.__class__")=some true
 mo:mroIn K C (.type "object")=some true
 mb:mroIn K C (.type "BaseException")=some true
 is:(clsIn K C).isSome=true
theorem kitx_exc {B:String} {bmB:List Value} (FB:ExcAttrBase B bmB) (Z:ExcIs K C):KitX K (.ref a) (.ref C) (fun h=>∃ o,h.get? a=some o/\o.cls=.ref C) where
 ty:=by rintro M h _ ⟨o,hx,hc⟩; exact hc ▸ (Looks.ld hx).andThen .now
 it:=fun M h X _=>by
  have hcD:=Z.is
  unfold clsIn at hcD
  split at hcD
  ·rename_i ho
   intro A' Q' E' s' k q
   unfold isType loadHead
   exact wpAny_bind (wpAny_loadPart (k _ _ (X _ _ ho)) (wpAny_pure q))
  ·cases hcD
 ne:=fun h tp dd its n sl X htp=>by
  have hcD:=Z.is
  refine Bool.eq_false_iff.mpr fun q=>?_
  have e:C=tp:=Value.ref.inj (beq_iff_eq.mp q)
  subst e
  unfold clsIn at hcD
  split at hcD
  ·rename_i ho
   have z:=(X _ _ ho).symm.trans htp
   cases z
  ·cases hcD
 ca:=fun X ⟨o,hx,hc⟩ k=>exc_cls FB X hx hc Z.ga Z.gn Z.at1 Z.sp Z.tk Z.mo Z.mb k
end
end K2
end
section
namespace K2
open PySem PySem.Spec PyProof.Rows L2
theorem cat_nil {P:Str->Prop}:∀ c,([]:List Str).contains c=true->P c:=fun c h=>by simp at h
theorem cat_cons {l:List Str} {P:Str->Prop} {x:Str} (h:P x) (t:∀ c,l.contains c=true->P c):∀ c,(x :: l).contains c=true->P c:=fun c hc=>by
 rw [List.contains_cons,Bool.or_eq_true] at hc
 rcases hc with hc | hc
 ·rw [beq_iff_eq.mp hc]; exact h
 ·exact t c hc
section
variable {X:Cx} {a:Expr} {ta:TE2} {p pos:Pos} {B:String} {bmB:List Value} {all sub:List Str}
theorem pe2_isiO {y:Str} {py:Pos} {C:Addr} (FB:ExcAttrBase B bmB) (hg:Gl X "isinstance") (hm:X.mg "isinstance" = none) (hgC:Gl X y) (hmC:X.mg y=some (.ref C)) (hnon:PySem.W.kitOne X.K (.type "NoneType") (.ref C)=some false)
  (hexc:∀ c,all.contains c=true->∃ C',PySem.W.nsIn X.K mainGlobals c=some (some (.ref C'))/\PySem.W.kitOne X.K (.ref C') (.ref C)=some (sub.contains c)/\ExcIs X.K C') (ha:PE2 X a ta) (hdb:autoParam ((y == ("__debug__" : Str))=false) Ad._auto_1)
  (he:autoParam (starEach [a,.Name y py] X.env=(false,eval a X.env) :: starEach [.Name y py] X.env) Ar._auto_1) (hpl:autoParam ((backTo pos (starEach [Expr.Name y py] X.env)).any (·.1)=false) Ar._auto_1) (he2:autoParam (starEach [.Name y py] X.env=[(false,eval (.Name y py) X.env)]) Ar._auto_1) :
  PE2 X (.Call (.Name "isinstance" p) [a,.Name y py] [] pos) (dIsiO all sub ta):=by
 intro E pins s σ H τ G Q hE I h
 refine wpAny_Call_Name_kw (ld_blt I.inv hg hm PyProof.Rows.boot_isinstance ?_)
 refine PyProof.Rows.callWith_builtin1 ?_ he hpl
 rw [he]
 show wpAny _ _ (spliced ((false,eval a X.env) :: backTo pos (starEach [.Name y py] X.env))) _ _ s
 refine Calls.spliced_cons (thnE ha hE I h fun v H1 d G1 u s1 I1 m1 r1 rd1 q1=>?_)
 rw [he2]
 show wpAny _ _ (spliced [(false,eval (.Name y py) X.env)]) _ _ s1
 refine Calls.spliced_cons (ld_glob I1.inv hgC hmC (Calls.spliced_nil ?_) hdb)
 have fin:∀ b tk,Q (.bl b) G1->EP2 X pins σ H G Q (.bool b) { s1 with toks:=tk }:=fun b tk q =>
  ⟨.bl b,H1,.bl b,G1,I1.inv.tok _,m1,rfl,.bl b,q⟩
 cases rd1 with
 | non =>
  cases r1
  exact PySem.W.kia_one PySem.W.kitx_none I1.inv.kIn True.intro hnon (fun z=>nomatch z) fun tk=>fin false tk q1
 | exc h0 =>
  cases r1
  obtain ⟨o,C',e1,e2,e3⟩:=h0
  obtain ⟨hall,q2⟩:=q1
  obtain ⟨C2,e4,k1,k2⟩:=hexc _ hall
  rw [e3] at e4
  cases e4
  exact PySem.W.kia_one (kitx_exc FB k2) I1.inv.kIn ⟨o,(I1.inv.hok _ _ e1).1,e2⟩ k1 (fun z=>nomatch z) fun tk=>fin _ tk q2
 | _=>exact q1.elim
end
end K2
end
section
namespace K2
open PySem PySem.Spec PyProof.Rows L2
section
variable {X:Cx} {a:Expr} {ta:TE2} {p pos:Pos} {B:String} {bmB:List Value} {all:List Str}
theorem boot_ValueError:bootBuiltins "ValueError" = some (.type "ValueError"):=by first | rfl | decide +kernel
theorem pe2_isiV {py:Pos} (FB:ExcAttrBase B bmB) (hg:Gl X "isinstance") (hm:X.mg "isinstance" = none) (hgC:Gl X "ValueError") (hmC:X.mg "ValueError" = none)
  (hexc:∀ c,all.contains c=true->∃ C',PySem.W.nsIn X.K mainGlobals c=some (some (.ref C'))/\PySem.W.kitOne X.K (.ref C') (.type "ValueError")=some true/\ExcIs X.K C') (ha:PE2 X a ta)
  (he:autoParam (starEach [a,.Name "ValueError" py] X.env=(false,eval a X.env) :: starEach [.Name "ValueError" py] X.env) Ar._auto_1) (hpl:autoParam ((backTo pos (starEach [Expr.Name "ValueError" py] X.env)).any (·.1)=false) Ar._auto_1) (he2:autoParam (starEach [.Name "ValueError" py] X.env=[(false,eval (.Name "ValueError" py) X.env)]) Ar._auto_1) :
  PE2 X (.Call (.Name "isinstance" p) [a,.Name "ValueError" py] [] pos) (dIsiV all ta):=by
 intro E pins s σ H τ G Q hE I h
 refine wpAny_Call_Name_kw (ld_blt I.inv hg hm PyProof.Rows.boot_isinstance (PyProof.Rows.callWith_builtin1 ?_ he hpl))
 rw [he]
 show wpAny _ _ (spliced ((false,eval a X.env) :: backTo pos (starEach [.Name "ValueError" py] X.env))) _ _ s
 refine Calls.spliced_cons (thnE ha hE I h fun v H1 d G1 u s1 I1 m1 r1 rd1 q1=>?_)
 rw [he2]
 show wpAny _ _ (spliced [(false,eval (.Name "ValueError" py) X.env)]) _ _ s1
 refine Calls.spliced_cons (ld_blt I1.inv hgC hmC boot_ValueError (Calls.spliced_nil ?_))
 have fin:∀ b tk,Q (.bl b) G1->EP2 X pins σ H G Q (.bool b) { s1 with toks:=tk }:=fun b tk q =>
  ⟨.bl b,H1,.bl b,G1,I1.inv.tok _,m1,rfl,.bl b,q⟩
 cases rd1 with
 | exc h0 =>
  cases r1
  obtain ⟨o,C',e1,e2,e3⟩:=h0
  obtain ⟨hall,q2⟩:=q1
  obtain ⟨C2,e4,k1,k2⟩:=hexc _ hall
  rw [e3] at e4
  cases e4
  exact PySem.W.kia_one (kitx_exc FB k2) I1.inv.kIn ⟨o,(I1.inv.hok _ _ e1).1,e2⟩ k1 (fun z=>nomatch z) fun tk=>fin _ tk q2
 | _=>exact q1.elim
end
end K2
end
section
namespace K2
open PySem PySem.Spec PyProof.Rows L2
section
variable {X:Cx} {e:Expr} {te:TE2} {pos:Pos}
theorem pst {i:Nat} {x:Str} {pos':Pos} (hN:X.N.Nodup) (hi:X.N[i]?=some x) (he:PE2 X e te) (hx:autoParam (Loc X.env.scope x) Ao._auto_1) (hs:autoParam (swapsWith e (some (.Name x pos')) pos.line X.env=pure false) Ar._auto_1) (hf:autoParam (X.fn x=true\/X.env.scope.names.lookup x=some .local) Ao._auto_1) :
  PS2 X (.Assign [.Name x pos'] e pos) (dAsg te (gName i)):=ps2_set hN hi hx he hs hf
theorem pgn {i:Nat} {x:Str} (hN:X.N.Nodup) (hi:X.N[i]?=some x) (hx:autoParam (Loc X.env.scope x) Ao._auto_1) (hf:autoParam (X.fn x=true\/X.env.scope.names.lookup x=some .local) Ao._auto_1):PG2 X (.Name x pos) (gName i):=pg2_name hN hi hx hf
theorem fo2 {P:Program} {w:World} {K:PySem.W.Frag} {mg:Str->Option Value} {base:Heap} {x qual:Str} {st:Stmt} {f:Addr} {fd:FuncData} {Nn ps:List Str} {k:Nat} {sp:Sp2} {rd:TS2} (F:Fun K x qual st f fd) (S:FnScope Nn ps (defScope st))
  (hr:∀ ds G Q,sp ds G Q (fun _ _=>False)->rd (fun _ _=>False) (ends Q) (start2 Nn.length ds) G)
  (hb:∀ (cdv:Value) (A:Around) (outer:List Env) (s:Shared) (H:Hp) (E:XK),Room k (A.deeper (envOfC qual (defScope st) s.heap.objs.size f cdv))->PSs2 (cxOf CX0 P w K mg base Nn qual (defScope st) f cdv A outer s H E).nox (defBody st) rd)
  (len:autoParam (∀ ds G Q E,sp ds G Q E->ds.length=ps.length) Al._auto_1):FnOk P w K mg base CX0 (k+1) f fd ps (spOf K sp):=fun_ok2 F S len hr hb
theorem foX {P:Program} {w:World} {K:PySem.W.Frag} {mg:Str->Option Value} {base:Heap} {x qual:Str} {st:Stmt} {f:Addr} {fd:FuncData} {Nn ps:List Str} {k:Nat} {sp:Sp2} {rd:TS2} (F:Fun K x qual st f fd) (S:FnScope Nn ps (defScope st))
  (hr:∀ ds G Q E,sp ds G Q E->rd E (ends Q) (start2 Nn.length ds) G)
  (hb:∀ (cdv:Value) (A:Around) (outer:List Env) (s:Shared) (H:Hp) (E:XK),Room k (A.deeper (envOfC qual (defScope st) s.heap.objs.size f cdv))->PSs2 (cxOf (CXe P w) P w K mg base Nn qual (defScope st) f cdv A outer s H E) (defBody st) rd)
  (len:autoParam (∀ ds G Q E,sp ds G Q E->ds.length=ps.length) Al._auto_1):FnOk P w K mg base (CXe P w) (k+1) f fd ps (spOfX K mg sp):=fun_okX F S len hr hb
theorem scm {N ps:List Str} {sc:Scope} (h1:autoParam (sc.kind=.function) Ar._auto_1) (h2:autoParam (sc.isCoroutine=false) Ar._auto_1) (h3:autoParam (sc.isGenerator=false) Ar._auto_1) (h4:autoParam N.Nodup Ak._auto_1) (h5:autoParam (N.take ps.length=ps) Ar._auto_1)
  (h6:autoParam (∀ x∈ps,sc.names.lookup x=some .local\/sc.names.lookup x=some .cell) Ak._auto_1) (h7:autoParam (∀ y∈sc.names,y.2≠.free) Ak._auto_1):FnScope N ps sc:=⟨h1,h2,h3,h4,h5,h6,h7⟩
end
end K2
end
section
namespace K2
open PySem PySem.Spec PyProof.Rows L2
theorem len1 {α:Type} {us:List α} (h:us.length=1):∃ a,us=[a]:=List.length_eq_one_iff.mp h
theorem lenS {α:Type} {us:List α} {n:Nat} (h:us.length=n+1):∃ a t,us=a :: t/\t.length=n:=by
 cases us with
 | nil=>cases h
 | cons a t=>exact ⟨a,t,rfl,Nat.succ.inj h⟩
theorem len2 {α:Type} {us:List α} (h:us.length=2):∃ a b,us=[a,b]:=by
 obtain ⟨a,t,rfl,h2⟩:=lenS h; obtain ⟨b,rfl⟩:=len1 h2; exact ⟨a,b,rfl⟩
theorem len3 {α:Type} {us:List α} (h:us.length=3):∃ a b c,us=[a,b,c]:=by
 obtain ⟨a,t,rfl,h2⟩:=lenS h; obtain ⟨b,c,rfl⟩:=len2 h2; exact ⟨a,b,c,rfl⟩
theorem len4 {α:Type} {us:List α} (h:us.length=4):∃ a b c d,us=[a,b,c,d]:=by
 obtain ⟨a,t,rfl,h2⟩:=lenS h; obtain ⟨b,c,d,rfl⟩:=len3 h2; exact ⟨a,b,c,d,rfl⟩
theorem len5 {α:Type} {us:List α} (h:us.length=5):∃ a b c d e,us=[a,b,c,d,e]:=by
 obtain ⟨a,t,rfl,h2⟩:=lenS h; obtain ⟨b,c,d,e,rfl⟩:=len4 h2; exact ⟨a,b,c,d,e,rfl⟩
end K2
end
section
namespace K2
open PySem (Str)
open Enc (enc)
theorem fz_enc {α:Type} [DecidableEq α] [Enc α] {G G1:Gp} {p:Nat} {xs:List α} {Q:DK} (l:GLe G G1) (hp:G p=none) (h1:G1 p=some (.lst (xs.map enc))) (q:Q (enc xs) G):FzK G1 (.ref p) Q :=
 fz_rol l hp h1 (Fzs.same _) q
theorem for_enc {α:Type} {f:α->D} {g:TG2} {body:TS2} {ok:Gp->Prop} {xs:List α} {E:XK2} {K:Ends2} {τ:St2} {G:Gp} (I:List α->St2->Gp->Prop)
  (h0:I [] τ G) (hok:∀ pre τ G,I pre τ G->ok G)
  (step:∀ (pre:List α) (x:α) (post:List α) τ G (N:St2->Gp->Prop),xs=pre++x :: post->I pre τ G->(∀ τ2 G2,I (pre++[x]) τ2 G2->N τ2 G2) ->
   g E (f x) τ G fun τ1 G1=>body E { K with nx:=N,ct:=N,bk:=K.nx } τ1 G1)
  (fin:∀ τ G,I xs τ G->K.nx τ G):forGo g body ok (xs.map f) E K τ G:=by
 have main:∀ (post pre:List α) τ G,xs=pre++post->I pre τ G->forGo g body ok (post.map f) E K τ G:=by
  intro post
  induction post with
  | nil =>
   intro pre τ G e h
   rw [List.append_nil] at e
   subst e
   exact ⟨hok _ _ _ h,fin _ _ h⟩
  | cons d post ih =>
   intro pre τ G e h
   refine ⟨hok _ _ _ h,?_⟩
   exact step pre d post τ G _ e h fun τ2 G2 h2=>ih (pre++[d]) τ2 G2 (by rw [e,List.append_assoc]; rfl) h2
 exact main xs [] τ G rfl h0
theorem comp_enc {α:Type} {f:α->D} {g:TG2} {c:Option TT2} {e:TE2} {ok:Gp->Prop} {xs:List α} {E:XK2} {τ:St2} {G:Gp} {Q:List D->Gp->Prop} (I:List α->List D->St2->Gp->Prop)
  (h0:I [] [] τ G) (hok:∀ pre acc τ G,I pre acc τ G->ok G)
  (step:∀ (pre:List α) (x:α) (post:List α) (acc:List D) τ G (N:St2->List D->Gp->Prop),xs=pre++x :: post->I pre acc τ G->(∀ τ2 acc2 G2,I (pre++[x]) acc2 τ2 G2->N τ2 acc2 G2) ->
   g E (f x) τ G fun τ1 G1=>match c with
    | none=>e E τ1 G1 fun x G2=>N τ1 (acc++[x]) G2
    | some c=>c E τ1 G1 fun k G2=>if k=true then e E τ1 G2 fun x G3=>N τ1 (acc++[x]) G3 else N τ1 acc G2)
  (fin:∀ acc τ G,I xs acc τ G->Q acc G):compGo g c e ok (xs.map f) E τ G [] Q:=by
 have main:∀ (post pre:List α) (acc:List D) τ G,xs=pre++post->I pre acc τ G->compGo g c e ok (post.map f) E τ G acc Q:=by
  intro post
  induction post with
  | nil =>
   intro pre acc τ G e h
   rw [List.append_nil] at e
   subst e
   exact ⟨hok _ _ _ _ h,fin _ _ _ h⟩
  | cons d post ih =>
   intro pre acc τ G e' h
   refine ⟨hok _ _ _ _ h,?_⟩
   have:=step pre d post acc τ G (fun τ2 acc2 G2=>compGo g c e ok (post.map f) E τ2 G2 acc2 Q) e' h fun τ2 acc2 G2 h2=>ih (pre++[d]) acc2 τ2 G2 (by rw [e',List.append_assoc]; rfl) h2
   cases c with
   | none=>exact this
   | some c=>exact this
 exact main xs [] [] τ G rfl h0
theorem iAt_enc {α:Type} [DecidableEq α] [Enc α] {xs:List α} {G:Gp} {R:List D->(Gp->Prop)->Gp->Prop} (h:R (xs.map enc) (fun _=>True) G):iAt (enc xs) G R:=h
theorem iEnumAt_enc {α:Type} [DecidableEq α] [Enc α] {xs:List α} {G:Gp} {R:List D->(Gp->Prop)->Gp->Prop} (h:R (enumD 0 (xs.map enc)) (fun _=>True) G):iEnumAt (enc xs) G R:=h
theorem szl {n:Nat} (h:n<=1000):n<=SZ:=by unfold SZ; lia
theorem szlt {n:Nat} (h:n<=1000):n < SZ:=by unfold SZ; lia
noncomputable abbrev Rows:=List (List T3)
noncomputable def T3.s (p:T3):T2:=⟨p.a,p.b⟩
structure Dr (rows:Rows):Prop where
 nd:(rows.flatten.map T3.s).Nodup
 way:∀ p∈rows.flatten,p.b=0\/p.b=1
 hand:∀ p∈rows.flatten,p.c=1\/p.c=-1
 mate:∀ p∈rows.flatten,(⟨p.a,1 - p.b,p.c⟩:T3)∈rows.flatten
 few:rows.flatten.length<=24
 str:rows.length<=3
namespace P
noncomputable def sp_passings_of:Sp2:=spF1 (fun rows:Rows=>rows.flatten.length<=1000) fun rows=>rows.flatten
noncomputable def rd_passings_of:TS2 :=
 (dSeq (dAsg (dLst dNil) (gName 1))
 (dSeq (dFor (iSeq (dVar 0)) (gName 2) (dExpr (dMt tyL mExtend (dVar 1) (dCons (dVar 2) dNil))))
 (dRet (dFz (dVar 1)))))
theorem OK_passings_of (ds:List D) (G:Gp) (Q:DK) (h:sp_passings_of ds G Q fun _ _=>False):rd_passings_of (fun _ _=>False) (ends Q) (start2 3 ds) G:=by
 obtain ⟨rows,rfl,hl,q⟩:=h
 unfold rd_passings_of
 simp only [ends,start2,List.map_cons,List.map_nil,List.length_cons,List.length_nil,List.replicate,List.cons_append,List.nil_append,seq_asg,dAsg,dLst,dNil,gName,List.set_cons_succ,List.set_cons_zero]
 refine ⟨by decide,fun p hp=>?_⟩
 refine seq_by (fun τ G'=>(∃ b,τ=[some (enc rows),some (.ref p),b])/\GLe G G'/\G' p=some (.lst (rows.flatten.map enc))) ?_ ?_
 ·intro N hN
  simp only [dFor,iSeq_at,dVar,List.getElem?_cons_zero]
  refine iAt_enc ?_
  refine for_enc (xs:=rows) (fun pre τ G'=>(∃ b,τ=[some (enc rows),some (.ref p),b])/\GLe G G'/\G' p=some (.lst (pre.flatten.map enc))) ⟨⟨_,rfl⟩,.new hp,updG_same⟩ (fun _ _ _ _=>trivial) ?_ ?_
  ·rintro pre r post τ G' N2 e ⟨⟨b,rfl⟩,l,gp⟩ hN2
   have hlen:pre.flatten.length+r.length<=rows.flatten.length:=by
    rw [e]; simp only [List.flatten_append,List.flatten_cons,List.length_append]; lia
   simp only [gName,dExpr,dMt,dVar,List.set_cons_succ,List.set_cons_zero,List.getElem?_cons_succ,List.getElem?_cons_zero,tyL_ref,gp,dCons,dNil,mExtend_ref,lstOf_of (IsL.enc r),true_and]
   refine ⟨szl (by simp only [List.length_map]; lia),?_⟩
   refine hN2 _ _ ⟨⟨_,rfl⟩,l.put hp,?_⟩
   rw [updG_same]; simp
  ·rintro τ G' ⟨⟨b,rfl⟩,l,gp⟩
   exact hN _ _ ⟨⟨_,rfl⟩,l,gp⟩
 ·rintro _ G' ⟨⟨b,rfl⟩,l,gp⟩
  simp only [dRet,dFz,dVar,List.getElem?_cons_succ,List.getElem?_cons_zero]
  exact fz_enc l hp gp q
theorem enc_T3 (p:T3):(enc p:D)=.tup [.int p.a,.int p.b,.int p.c]:=rfl
theorem enc_T2 (p:T2):(enc p:D)=.tup [.int p.a,.int p.b]:=rfl
theorem enc_Int (i:Int):(enc i:D)=.int i:=rfl
theorem at0 {a:D} {r:List D}:atI (a :: r) 0=some a:=by
 rw [atI_nat _ (by lia) (by simp)]; rfl
theorem at1 {a b:D} {r:List D}:atI (a :: b :: r) 1=some b:=by
 rw [atI_nat _ (by lia) (by simp; lia)]; rfl
theorem at2 {a b c:D} {r:List D}:atI (a :: b :: c :: r) 2=some c:=by
 rw [atI_nat _ (by lia) (by simp; lia)]; rfl
noncomputable def names (rows:Rows):List Int:=srt ((rows.flatten.filter fun p=>p.b == 0).map (·.a))
noncomputable def sp_names_of:Sp2:=spF1 (fun rows:Rows=>rows.flatten.length < 64) names
noncomputable def rd_names_of:TS2 :=
 (dRet (dFz (dCB cSorted (dCons (dComp 1 [] (iSeq (dCall sp_passings_of (dCons (dVar 0) dNil))) (gName 0) (some (dTru (dBin (rEq false) (dBin rIx (dVar 0) (dC (.int 1))) (dC (.int 0))))) (dBin rIx (dVar 0) (dC (.int 0)))) dNil))))
theorem OK_names_of (ds:List D) (G:Gp) (Q:DK) (h:sp_names_of ds G Q fun _ _=>False):rd_names_of (fun _ _=>False) (ends Q) (start2 1 ds) G:=by
 obtain ⟨rows,rfl,hl,q⟩:=h
 unfold rd_names_of
 simp only [dRet,dFz,dCB,dCons,dComp,start2,List.map_cons,List.map_nil,List.length_cons,List.length_nil,List.cons_append,List.nil_append,dNil,ends,iSeq_at,dCall,dVar,List.getElem?_cons_zero]
 refine ⟨rows,rfl,(show rows.flatten.length<=1000 by lia),iAt_enc ⟨szl (by rw [List.length_map]; show rows.flatten.length<=1000; lia),?_⟩⟩
 refine comp_enc (xs:=rows.flatten) (fun pre acc τ G'=>G=G'/\(∃ a,τ=[a])/\acc=((pre.filter fun p=>p.b == 0).map (·.a)).map enc) ⟨rfl,⟨_,rfl⟩,rfl⟩ (fun _ _ _ _ _=>trivial) ?_ ?_
 ·rintro pre x post acc τ G' N e ⟨rfl,⟨a,rfl⟩,rfl⟩ hN
  simp only [gName,enc_T3,List.set_cons_zero,dBin,dVar,List.getElem?_cons_zero,dC,rIx_tupM,at0,dTru_at,at1]
  refine ⟨_,_,.int _,.int _,?_⟩
  simp only [Bool.false_eq_true,eqD_ii,if_false,truAt_bl]
  split
  ·rename_i h
   refine hN _ _ _ ⟨rfl,⟨_,rfl⟩,?_⟩
   simp [List.filter_append,List.filter_cons,h,enc_Int]
  ·rename_i h
   refine hN _ _ _ ⟨rfl,⟨_,rfl⟩,?_⟩
   simp [List.filter_append,List.filter_cons,h]
 ·rintro acc τ G' ⟨rfl,⟨a,rfl⟩,rfl⟩ p hp
  refine cSorted_of (IsL.ref updG_same) (by rw [List.length_map]; exact Nat.lt_of_le_of_lt (List.length_filter_le _ _) hl) fun p2 hp2=>?_
  exact fz_enc ((GLe.new hp).trans (.new hp2)) ((GLe.new hp).free hp2) updG_same q
noncomputable def handOf (rows:Rows) (n:Int):Int:=((rows.flatten.find? fun p=>p.a == n).map (·.c)).getD 0
noncomputable def sp_hand_of:Sp2:=spF2 (fun (rows:Rows) (n:Int)=>rows.flatten.length<=1000/\∃ p∈rows.flatten,p.a=n) handOf
noncomputable def rd_hand_of:TS2 :=
 (dSeq (dFor (iSeq (dCall sp_passings_of (dCons (dVar 0) dNil))) (gName 2) (dIfS (dTru (dBin (rEq false) (dBin rIx (dVar 2) (dC (.int 0))) (dVar 1))) (dRet (dFz (dBin rIx (dVar 2) (dC (.int 2))))) dNext))
 dNever)
theorem OK_hand_of (ds:List D) (G:Gp) (Q:DK) (h:sp_hand_of ds G Q fun _ _=>False):rd_hand_of (fun _ _=>False) (ends Q) (start2 3 ds) G:=by
 obtain ⟨rows,n,rfl,⟨hl,hn⟩,q⟩:=h
 unfold rd_hand_of
 refine seq_by (fun τ G'=>False) ?_ (fun _ _ h=>h.elim)
 intro N hN
 simp only [dFor,start2,List.map_cons,List.map_nil,List.length_cons,List.length_nil,List.replicate,List.cons_append,List.nil_append,ends,iSeq_at,dCall,dCons,dVar,List.getElem?_cons_zero,dNil]
 refine ⟨rows,rfl,hl,iAt_enc ?_⟩
 refine for_enc (xs:=rows.flatten) (fun pre τ G'=>G=G'/\(∃ a,τ=[some (enc rows),some (enc n),a])/\∀ p∈pre,p.a≠n) ⟨rfl,⟨_,rfl⟩,by simp⟩ (fun _ _ _ _=>trivial) ?_ ?_
 ·rintro pre x post τ G' N2 e ⟨rfl,⟨a,rfl⟩,hp⟩ hN2
  simp only [gName,dIfS,enc_Int,enc_T3,List.set_cons_succ,List.set_cons_zero,dRet,dFz,dBin,dVar,List.getElem?_cons_succ,List.getElem?_cons_zero,dC,rIx_tupM,at2,dNext,dTru_at,at0]
  refine ⟨_,_,.int _,.int _,?_⟩
  simp only [Bool.false_eq_true,eqD_ii,if_false,truAt_bl]
  by_cases hx:x.a=n
  ·simp only [hx,beq_self_eq_true,if_true]
   refine fz_id ?_
   have:handOf rows n=x.c:=by
    unfold handOf
    have:rows.flatten.find? (fun p=>p.a == n)=some x:=by
     rw [e,List.find?_append]
     have:pre.find? (fun p=>p.a == n)=none:=by
      rw [List.find?_eq_none]; intro p hp'; simpa using hp p hp'
     rw [this]
     simp [hx]
    rw [this]; rfl
   rw [← this]; exact q
  ·have:(x.a == n)=false:=by simpa using hx
   simp only [this,Bool.false_eq_true,if_false]
   refine hN2 _ _ ⟨rfl,⟨_,rfl⟩,fun p hp'=>?_⟩
   rcases List.mem_append.mp hp' with h | h
   ·exact hp p h
   ·rw [List.mem_singleton.mp h]; exact hx
 ·rintro τ G' ⟨rfl,_,hp⟩
  obtain ⟨p,hp1,hp2⟩:=hn
  exact absurd hp2 (hp p hp1)
noncomputable def spotsOn (row:List T3) (i:Int):List T2:=if row=[] then [⟨i,2⟩] else row.map T3.s
noncomputable def sp_spots_on:Sp2:=spF2 (fun (row:List T3) (_:Int)=>row.length<=1000) spotsOn
noncomputable def rd_spots_on:TS2 :=
 (dSeq (dIfS (dNot (dTru (dVar 0))) (dRet (dFz (dLst (dCons (dTup (dCons (dVar 1) (dCons (dC (.int 2)) dNil))) dNil)))) dNext)
 (dRet (dFz (dComp 1 [] (iSeq (dVar 0)) (gName 0) none (dSl (dVar 0) dNoPart (dPart (dC (.int 2))))))))
theorem OK_spots_on (ds:List D) (G:Gp) (Q:DK) (h:sp_spots_on ds G Q fun _ _=>False):rd_spots_on (fun _ _=>False) (ends Q) (start2 2 ds) G:=by
 obtain ⟨row,i,rfl,hl,q⟩:=h
 unfold rd_spots_on
 refine seq_by (fun τ G'=>G=G'/\τ=[some (enc row),some (enc i)]/\row≠[]) ?_ ?_
 ·intro N hN
  simp only [dIfS,dNot,start2,List.map_cons,List.map_nil,List.length_cons,List.length_nil,List.cons_append,List.nil_append,dRet,dFz,dLst,dCons,dTup,dVar,List.getElem?_cons_succ,List.getElem?_cons_zero,dC,dNil,ends,dNext,dTru_at]
  refine truAt_of (IsL.enc row) ?_
  cases row with
  | nil =>
   simp only [List.map_nil,List.isEmpty_nil,Bool.not_true,Bool.not_false,if_true]
   refine ⟨by decide,by decide,fun p hp=>fz_enc (xs:=[(⟨i,2⟩:T2)]) (.new hp) hp updG_same ?_⟩
   exact q
  | cons a r =>
   simp only [List.map_cons,List.isEmpty_cons,Bool.not_false,Bool.not_true,Bool.false_eq_true,if_false]
   exact hN _ _ ⟨rfl,rfl,by simp⟩
 rintro _ _ ⟨rfl,rfl,hne⟩
 simp only [dRet,dFz,dComp,ends,iSeq_at,dVar,List.getElem?_cons_zero]
 refine iAt_enc ⟨szl (by rw [List.length_map]; exact hl),?_⟩
 refine comp_enc (xs:=row) (fun pre acc τ G'=>G=G'/\(∃ a,τ=[a])/\acc=(pre.map T3.s).map enc) ⟨rfl,⟨_,rfl⟩,rfl⟩ (fun _ _ _ _ _=>trivial) ?_ ?_
 ·rintro pre x post acc τ G' N e ⟨rfl,⟨a,rfl⟩,rfl⟩ hN
  simp only [gName,dSl,dVar,enc_T3,List.set_cons_zero,List.getElem?_cons_zero,dNoPart,rSl_tup,List.length_cons,List.length_nil,dPart_at,dC,partAt_int]
  refine ⟨by decide,hN _ _ _ ⟨rfl,⟨_,rfl⟩,?_⟩⟩
  rw [List.map_append,List.map_append]; rfl
 ·rintro acc τ G' ⟨rfl,⟨a,rfl⟩,rfl⟩ p hp
  refine fz_enc (.new hp) hp updG_same ?_
  have:spotsOn row i=row.map T3.s:=by unfold spotsOn; rw [if_neg hne]
  rw [← this]; exact q
noncomputable def spotsL:Rows->Nat->List T2
 | [],_=>[]
 | r :: rs,k=>spotsOn r (k:Int)++spotsL rs (k+1)
theorem spotsL_app:∀ (a b:Rows) (k:Nat),spotsL (a++b) k=spotsL a k++spotsL b (k+a.length)
 | [],b,k=>by simp [spotsL]
 | r :: a,b,k=>by rw [List.cons_append,spotsL,spotsL,spotsL_app a b (k+1),List.append_assoc,List.length_cons]; congr 3; lia
noncomputable def spots (rows:Rows):List T2:=srt (spotsL rows 0)
noncomputable def sp_spots_of:Sp2:=spF1 (fun rows:Rows=>(spotsL rows 0).length < 64/\∀ r∈rows,r.length<=1000) spots
noncomputable def rd_spots_of:TS2 :=
 (dSeq (dAsg (dLst dNil) (gName 1))
 (dSeq (dFor (iEnum (dVar 0)) (gTup (gCons (gName 2) (gCons (gName 3) gNil))) (dExpr (dMt tyL mExtend (dVar 1) (dCons (dCall sp_spots_on (dCons (dVar 3) (dCons (dVar 2) dNil))) dNil))))
 (dRet (dFz (dCB cSorted (dCons (dVar 1) dNil))))))
theorem enum_get (xs:List (List T3)):enumD 0 (xs.map enc)=(xs.zipIdx 0).map fun p=>D.tup [.int (p.2:Int),enc p.1]:=by
 have:∀ (xs:List (List T3)) (k:Nat),enumD k (xs.map enc)=(xs.zipIdx k).map fun p=>D.tup [.int (p.2:Int),enc p.1]:=by
  intro xs
  induction xs with
  | nil=>intro k; rfl
  | cons x xs ih=>intro k; rw [List.map_cons,enumD,ih,List.zipIdx_cons,List.map_cons]
 exact this xs 0
theorem zipIdx_split {α:Type} {xs:List α} {pre post:List (α×Nat)} {x:α×Nat} (h:xs.zipIdx 0=pre++x :: post):∃ l r,xs=l++x.1 :: r/\x.2=l.length/\pre=l.zipIdx 0:=by
 have e1:xs=(pre.map (·.1))++x.1 :: post.map (·.1):=by
  have:=congrArg (List.map (·.1)) h
  rw [List.zipIdx_map_fst] at this
  rw [this]; simp
 have hl:pre.length < (xs.zipIdx 0).length:=by rw [h]; simp
 have hx:(xs.zipIdx 0)[pre.length]?=some x:=by rw [h]; simp
 refine ⟨pre.map (·.1),post.map (·.1),e1,?_,?_⟩
 ·rw [List.getElem?_zipIdx] at hx
  rw [List.length_map]
  cases q:xs[pre.length]? with
  | none=>rw [q] at hx; cases hx
  | some y=>rw [q] at hx; simp at hx; rw [← hx]
 ·have:(pre.map (·.1)).zipIdx 0=(xs.zipIdx 0).take pre.length:=by
   conv=>rhs; rw [e1,List.zipIdx_append]
   rw [List.take_append_of_le_length (by simp)]
   rw [List.take_of_length_le (by simp)]
  rw [this,h]; simp
theorem OK_spots_of (ds:List D) (G:Gp) (Q:DK) (h:sp_spots_of ds G Q fun _ _=>False):rd_spots_of (fun _ _=>False) (ends Q) (start2 4 ds) G:=by
 obtain ⟨rows,rfl,⟨hl,hr⟩,q⟩:=h
 unfold rd_spots_of
 simp only [ends,start2,List.map_cons,List.map_nil,List.length_cons,List.length_nil,List.replicate,List.cons_append,List.nil_append,seq_asg,dAsg,dLst,dNil,gName,List.set_cons_succ,List.set_cons_zero]
 refine ⟨by decide,fun p hp=>?_⟩
 refine seq_by (fun τ G'=>(∃ a b,τ=[some (enc rows),some (.ref p),a,b])/\GLe G G'/\G' p=some (.lst ((spotsL rows 0).map enc))) ?_ ?_
 ·intro N hN
  simp only [dFor,iEnum,dVar,List.getElem?_cons_zero]
  refine iEnumAt_enc ?_
  rw [enum_get]
  refine for_enc (xs:=rows.zipIdx 0) (fun pre τ G'=>(∃ a b,τ=[some (enc rows),some (.ref p),a,b])/\GLe G G'/\G' p=some (.lst ((spotsL (pre.map (·.1)) 0).map enc))) ⟨⟨_,_,rfl⟩,.new hp,updG_same⟩ (fun _ _ _ _=>trivial) ?_ ?_
  ·rintro pre x post τ G' N2 e ⟨⟨a,b,rfl⟩,l,gp⟩ hN2
   obtain ⟨lft,rgt,e1,e2,e3⟩:=zipIdx_split e
   have hx:x.1.length<=1000:=hr x.1 (by rw [e1]; simp)
   have ep:pre.map (·.1)=lft:=by rw [e3,List.zipIdx_map_fst]
   have hlen:(spotsL lft 0).length+(spotsOn x.1 (x.2:Int)).length<=(spotsL rows 0).length:=by
    rw [e1,spotsL_app,spotsL,List.length_append,List.length_append,e2]; simp
   rw [ep] at gp
   simp only [gTup,gCons,gName,gNil,dExpr,dMt,dVar,List.set_cons_succ,List.set_cons_zero,List.getElem?_cons_succ,List.getElem?_cons_zero,tyL_ref,gp,dCons,dCall,dNil,mExtend_ref,true_and]
   refine ⟨x.1,(x.2:Int),rfl,hx,?_⟩
   simp only [gp,lstOf_of (IsL.enc _)]
   refine ⟨szl (by simp only [List.length_map]; lia),hN2 _ _ ⟨⟨_,_,rfl⟩,l.put hp,?_⟩⟩
   rw [updG_same,List.map_append,ep,spotsL_app,List.map_append]
   simp [spotsL,e2]
  ·rintro τ G' ⟨⟨a,b,rfl⟩,l,gp⟩
   rw [List.zipIdx_map_fst] at gp
   exact hN _ _ ⟨⟨_,_,rfl⟩,l,gp⟩
 ·rintro _ G' ⟨⟨a,b,rfl⟩,l,gp⟩
  simp only [dRet,dFz,dCB,dCons,dVar,List.getElem?_cons_succ,List.getElem?_cons_zero,dNil]
  refine cSorted_of (IsL.ref gp) hl fun p2 hp2=>?_
  exact fz_enc (l.trans (.new hp2)) (l.free hp2) updG_same q
theorem cut3 {a b c:D}:cut [a,b,c] none (some 2)=[a,b]:=rfl
theorem lstAt_enc {α:Type} [DecidableEq α] [Enc α] (xs:List α) (G:Gp):lstAt (enc xs) G=some (xs.map enc,fun _=>True):=rfl
theorem lstAt_ref {a:Nat} {ds:List D} {G:Gp} (h:G a=some (.lst ds)):lstAt (.ref a) G=some (ds,fun G2=>G2 a=some (.lst ds)):=by unfold lstAt; simp only [h]
theorem zipD_enc {α β:Type} [DecidableEq α] [Enc α] [DecidableEq β] [Enc β]:∀ (xs:List α) (ys:List β),zipD (xs.map enc) (ys.map enc)=(xs.zip ys).map fun p=>D.tup [enc p.1,enc p.2]
 | [],ys=>by simp [zipD]
 | x :: xs,[]=>by simp [zipD]
 | x :: xs,y :: ys=>by simp [zipD,zipD_enc xs ys]
theorem setIx_dic {κ α:Type} [DecidableEq κ] [Enc κ] [EncKey κ] [DecidableEq α] [Enc α] {a:Nat} {l:List (κ×α)} {k:κ} {v:α} {G:Gp} {Q:Gp->Prop} (h:G a=some (.dic (encKV l))) (hl:l.length<=1000) (q:Q (updG G a (.dic (encKV (aput l k v))))):setIx (.ref a) (enc k) (enc v) G Q:=by
 unfold setIx
 simp only [h]
 refine ⟨kindOk_enc l k,?_,by rw [put_enc]; exact q⟩
 unfold encKV; rw [List.length_map]; exact szlt hl
noncomputable def turned1 (r:List T3):List T3:=r.drop 1++r.take 1
noncomputable def pairsOf (rows:Rows):List (T3×T3):=rows.flatMap fun r=>r.zip (turned1 r)
noncomputable def nextL (ps:List (T3×T3)):List (T2×T2):=ps.foldl (fun l p=>aput l p.1.s p.2.s) []
theorem nextL_len (ps:List (T3×T3)):(nextL ps).length<=ps.length:=by
 have:∀ (ps:List (T3×T3)) (l:List (T2×T2)),(ps.foldl (fun l p=>aput l p.1.s p.2.s) l).length<=l.length+ps.length:=by
  intro ps
  induction ps with
  | nil=>intro l; simp
  | cons p ps ih =>
   intro l
   rw [List.foldl_cons,List.length_cons]
   have h1:=ih (aput l p.1.s p.2.s)
   have h2:=aput_len l p.1.s p.2.s
   lia
 simpa [nextL] using this ps []
theorem nextL_snoc (ps:List (T3×T3)) (p:T3×T3):nextL (ps++[p])=aput (nextL ps) p.1.s p.2.s:=by unfold nextL; rw [List.foldl_append]; rfl
noncomputable def sp_next_of:Sp2:=fun ds G Q _=>∃ rows:Rows,ds=[enc rows]/\rows.flatten.length<=500/\Q (.rod (encKV (nextL (pairsOf rows)))) G
theorem pairs_len (rows:Rows):(pairsOf rows).length<=rows.flatten.length:=by
 unfold pairsOf
 induction rows with
 | nil=>simp
 | cons r rs ih=>simp only [List.flatMap_cons,List.flatten_cons,List.length_append,List.length_zip]; lia
noncomputable def rd_next_of:TS2 :=
 (dSeq (dAsg dDic (gName 1))
 (dSeq (dFor (iSeq (dVar 0)) (gName 2) (dFor (iZip (dVar 2) (dBin rAdd (dSl (dVar 2) (dPart (dC (.int 1))) dNoPart) (dSl (dVar 2) dNoPart (dPart (dC (.int 1)))))) (gTup (gCons (gName 3) (gCons (gName 4) gNil))) (dAsg (dSl (dVar 4) dNoPart (dPart (dC (.int 2)))) (gSub (dVar 1) (dSl (dVar 3) dNoPart (dPart (dC (.int 2))))))))
 (dRet (dFz (dVar 1)))))
theorem OK_next_of (ds:List D) (G:Gp) (Q:DK) (h:sp_next_of ds G Q fun _ _=>False):rd_next_of (fun _ _=>False) (ends Q) (start2 5 ds) G:=by
 obtain ⟨rows,rfl,hl,q⟩:=h
 unfold rd_next_of
 simp only [ends,start2,List.map_cons,List.map_nil,List.length_cons,List.length_nil,List.replicate,List.cons_append,List.nil_append,seq_asg,dAsg,dDic,dNew,gName,List.set_cons_succ,List.set_cons_zero]
 intro d hd
 refine seq_by (fun τ G'=>(∃ a b c,τ=[some (enc rows),some (.ref d),a,b,c])/\GLe G G'/\G' d=some (.dic (encKV (nextL (pairsOf rows))))) ?_ ?_
 ·intro N hN
  simp only [dFor,iSeq_at,dVar,List.getElem?_cons_zero]
  refine iAt_enc ?_
  refine for_enc (xs:=rows) (fun pre τ G'=>(∃ a b c,τ=[some (enc rows),some (.ref d),a,b,c])/\GLe G G'/\G' d=some (.dic (encKV (nextL (pairsOf pre))))) ⟨⟨_,_,_,rfl⟩,.new hd,updG_same⟩ (fun _ _ _ _=>trivial) ?_ ?_
  ·rintro pre r post τ G' N2 e ⟨⟨a,b,c,rfl⟩,l,gd⟩ hN2
   have hr:pre.flatten.length+r.length<=rows.flatten.length:=by
    rw [e]; simp only [List.flatten_append,List.flatten_cons,List.length_append]; lia
   simp only [gName,dFor,iZip,dVar,List.set_cons_succ,List.set_cons_zero,List.getElem?_cons_succ,List.getElem?_cons_zero,dBin,dSl,dNoPart,dPart_at,dC,partAt_int]
   refine rSl_of (IsL.enc r) fun p1 h1=>?_
   refine rSl_of (IsL.enc r) fun p2 h2=>?_
   have d1:d≠p1:=by rintro rfl; rw [gd] at h1; cases h1
   have l1:=l.trans (GLe.new (o:=.lst (cut (r.map enc) (some 1) none)) h1)
   have d2:d≠p2:=by rintro rfl; rw [updG_ne d1,gd] at h2; cases h2
   have h12:p1≠p2:=by rintro rfl; rw [updG_same] at h2; cases h2
   refine rAdd_of (IsL.ref (by rw [updG_ne h12,updG_same])) (IsL.ref updG_same) ?_ fun p3 h3=>?_
   ·rw [cut_map,cut_map,List.length_map,List.length_map]
    have e1:(cut r (some 1) none).length<=r.length:=by unfold cut; rw [List.length_take,List.length_drop]; lia
    have e2:(cut r none (some 1)).length<=r.length:=by unfold cut; rw [List.length_take,List.length_drop]; lia
    exact szl (by lia)
   have d3:d≠p3:=by rintro rfl; rw [updG_ne d2,updG_ne d1,gd] at h3; cases h3
   have et:cut (r.map enc) (some 1) none++cut (r.map enc) none (some 1)=(turned1 r).map enc:=by
    rw [cut_map,cut_map,← List.map_append]
    congr 1
    cases r with
    | nil=>rfl
    | cons x r=>rw [show (1:Int)=((1:Nat):Int) from rfl,cut_from _ _ (by simp),cut_to _ _ (by simp)]; rfl
   rw [et]
   generalize hG3:updG (updG (updG G' p1 (.lst (cut (r.map enc) (some 1) none))) p2 (.lst (cut (r.map enc) none (some 1)))) p3 (.lst ((turned1 r).map enc))=G3
   have g3:G3 p3=some (.lst ((turned1 r).map enc)):=by rw [← hG3,updG_same]
   have gd3:G3 d=some (.dic (encKV (nextL (pairsOf pre)))):=by rw [← hG3,updG_ne d3,updG_ne d2,updG_ne d1]; exact gd
   have l3:GLe G G3:=by rw [← hG3]; exact (l1.trans (.new h2)).trans (.new h3)
   unfold iZipAt
   rw [lstAt_enc,lstAt_ref g3]
   dsimp only
   rw [zipD_enc]
   refine for_enc (xs:=r.zip (turned1 r)) (fun pp τ G'=>(∃ a b c,τ=[some (enc rows),some (.ref d),a,b,c])/\GLe G G'/\G' d=some (.dic (encKV (nextL (pairsOf pre++pp))))/\G' p3=some (.lst ((turned1 r).map enc)))
    ⟨⟨_,_,_,rfl⟩,l3,by rw [List.append_nil]; exact gd3,g3⟩ (fun _ _ _ h=>⟨trivial,h.2.2.2⟩) ?_ ?_
   ·rintro pp x post τ G4 N3 e4 ⟨⟨a,b,c,rfl⟩,l4,gd4,gp4⟩ hN3
    have hz:(pairsOf pre++pp).length<=1000:=by
     have:=pairs_len pre
     have h5:pp.length < (r.zip (turned1 r)).length:=by rw [e4]; simp
     rw [List.length_zip] at h5
     rw [List.length_append]; lia
    simp only [gTup,gCons,gName,gNil,dAsg,dSl,dVar,enc_T3,List.set_cons_succ,List.set_cons_zero,List.getElem?_cons_succ,List.getElem?_cons_zero,dNoPart,gSub,rSl_tup,List.length_cons,List.length_nil,dPart_at,dC,partAt_int,cut3]
    refine ⟨by decide,by decide,?_⟩
    refine setIx_dic (k:=x.1.s) (v:=x.2.s) gd4 (Nat.le_trans (nextL_len _) hz) ?_
    refine hN3 _ _ ⟨⟨_,_,_,rfl⟩,l4.put hd,?_,by rw [updG_ne (Ne.symm d3)]; exact gp4⟩
    rw [updG_same,← List.append_assoc,nextL_snoc]
   ·rintro τ G4 ⟨⟨a,b,c,rfl⟩,l4,gd4,gp4⟩
    refine hN2 _ _ ⟨⟨_,_,_,rfl⟩,l4,?_⟩
    have:pairsOf (pre++[r])=pairsOf pre++r.zip (turned1 r):=by unfold pairsOf; simp
    rw [this]; exact gd4
  ·rintro τ G' ⟨⟨a,b,c,rfl⟩,l,gd⟩
   exact hN _ _ ⟨⟨_,_,_,rfl⟩,l,gd⟩
 ·rintro _ G' ⟨⟨a,b,c,rfl⟩,l,gd⟩
  simp only [dRet,dFz,dVar,List.getElem?_cons_succ,List.getElem?_cons_zero]
  exact fz_rod l hd gd q
noncomputable def lft (s:T2):T3:=⟨s.a,s.b,0⟩
noncomputable def rgt (s:T2):T3:=⟨s.a,s.b,1⟩
noncomputable def sp_left_of:Sp2:=spF1 (fun _:T2=>True) lft
noncomputable def sp_right_of:Sp2:=spF1 (fun _:T2=>True) rgt
noncomputable def rd_left_of:TS2 :=
 (dRet (dFz (dTup (dCons (dBin rIx (dVar 0) (dC (.int 0))) (dCons (dBin rIx (dVar 0) (dC (.int 1))) (dCons (dC (.int 0)) dNil))))))
noncomputable def rd_right_of:TS2 :=
 (dRet (dFz (dTup (dCons (dBin rIx (dVar 0) (dC (.int 0))) (dCons (dBin rIx (dVar 0) (dC (.int 1))) (dCons (dC (.int 1)) dNil))))))
theorem OK_left_of (ds:List D) (G:Gp) (Q:DK) (h:sp_left_of ds G Q fun _ _=>False):rd_left_of (fun _ _=>False) (ends Q) (start2 1 ds) G:=by
 obtain ⟨s,rfl,_,q⟩:=h
 unfold rd_left_of
 simp only [dRet,dFz,dTup,dCons,dBin,dVar,start2,enc_T2,List.map_cons,List.map_nil,List.length_cons,List.length_nil,List.cons_append,List.nil_append,List.getElem?_cons_zero,dC,dNil,ends,rIx_tupM,at1,at0]
 exact ⟨by decide,fz_id q⟩
theorem OK_right_of (ds:List D) (G:Gp) (Q:DK) (h:sp_right_of ds G Q fun _ _=>False):rd_right_of (fun _ _=>False) (ends Q) (start2 1 ds) G:=by
 obtain ⟨s,rfl,_,q⟩:=h
 unfold rd_right_of
 simp only [dRet,dFz,dTup,dCons,dBin,dVar,start2,enc_T2,List.map_cons,List.map_nil,List.length_cons,List.length_nil,List.cons_append,List.nil_append,List.getElem?_cons_zero,dC,dNil,ends,rIx_tupM,at1,at0]
 exact ⟨by decide,fz_id q⟩
noncomputable def sidesL (ss:List T2):List T3:=ss.flatMap fun s=>[lft s,rgt s]
noncomputable def sp_sides_of:Sp2:=spF1 (fun rows:Rows=>(spotsL rows 0).length < 64/\∀ r∈rows,r.length<=1000) fun rows=>sidesL (spots rows)
noncomputable def rd_sides_of:TS2 :=
 (dSeq (dAsg (dLst dNil) (gName 1))
 (dSeq (dFor (iSeq (dCall sp_spots_of (dCons (dVar 0) dNil))) (gName 2) (dSeq (dExpr (dMt tyL mAppend (dVar 1) (dCons (dCall sp_left_of (dCons (dVar 2) dNil)) dNil)))
 (dExpr (dMt tyL mAppend (dVar 1) (dCons (dCall sp_right_of (dCons (dVar 2) dNil)) dNil)))))
 (dRet (dFz (dVar 1)))))
theorem OK_sides_of (ds:List D) (G:Gp) (Q:DK) (h:sp_sides_of ds G Q fun _ _=>False):rd_sides_of (fun _ _=>False) (ends Q) (start2 3 ds) G:=by
 obtain ⟨rows,rfl,hl,q⟩:=h
 unfold rd_sides_of
 simp only [ends,start2,List.map_cons,List.map_nil,List.length_cons,List.length_nil,List.replicate,List.cons_append,List.nil_append,seq_asg,dAsg,dLst,dNil,gName,List.set_cons_succ,List.set_cons_zero]
 refine ⟨by decide,fun p hp=>?_⟩
 have hs:(spots rows).length < 64:=by unfold spots; rw [srt_len]; exact hl.1
 refine seq_by (fun τ G'=>(∃ b,τ=[some (enc rows),some (.ref p),b])/\GLe G G'/\G' p=some (.lst ((sidesL (spots rows)).map enc))) ?_ ?_
 ·intro N hN
  simp only [dFor,iSeq_at,dCall,dCons,dVar,List.getElem?_cons_zero,dNil]
  refine ⟨rows,rfl,hl,iAt_enc ?_⟩
  refine for_enc (xs:=spots rows) (fun pre τ G'=>(∃ b,τ=[some (enc rows),some (.ref p),b])/\GLe G G'/\G' p=some (.lst ((sidesL pre).map enc))/\(sidesL pre).length=2 * pre.length) ⟨⟨_,rfl⟩,.new hp,updG_same,rfl⟩ (fun _ _ _ _=>trivial) ?_ ?_
  ·rintro pre s post τ G' N2 e ⟨⟨b,rfl⟩,l,gp,hlen⟩ hN2
   have hpre:pre.length < 64:=by have:=congrArg List.length e; simp at this; lia
   simp only [gName,dSeq,dExpr,dMt,dVar,List.set_cons_succ,List.set_cons_zero,List.getElem?_cons_succ,List.getElem?_cons_zero,tyL_ref,gp,dCons,dCall,dNil,mAppend_ref,true_and]
   refine ⟨s,rfl,trivial,?_⟩
   simp only [gp]
   refine ⟨szlt (by rw [List.length_map]; lia),?_⟩
   simp only [updG_same]
   refine ⟨trivial,s,rfl,trivial,?_⟩
   simp only [updG_same]
   refine ⟨szlt (by simp; lia),hN2 _ _ ⟨⟨_,rfl⟩,(l.put hp).put hp,?_,?_⟩⟩
   ·rw [updG_same]; simp [sidesL]
   ·have:sidesL (pre++[s])=sidesL pre++[lft s,rgt s]:=by simp [sidesL]
    rw [this]; simp; lia
  ·rintro τ G' ⟨⟨b,rfl⟩,l,gp,_⟩
   exact hN _ _ ⟨⟨_,rfl⟩,l,gp⟩
 ·rintro _ G' ⟨⟨b,rfl⟩,l,gp⟩
  simp only [dRet,dFz,dVar,List.getElem?_cons_succ,List.getElem?_cons_zero]
  exact fz_enc l hp gp q
noncomputable def comingL (l:List (T2×T2)):List (T2×T2):=l.foldl (fun c p=>aput c ((aget l p.1).getD p.2) p.1) []
noncomputable def comingP (l ps:List (T2×T2)):List (T2×T2):=ps.foldl (fun c p=>aput c ((aget l p.1).getD p.2) p.1) []
theorem aget_mem {κ α:Type} [DecidableEq κ] [Enc κ] [DecidableEq α] [Enc α] {l:List (κ×α)} {p:κ×α} (h:p∈l):∃ v,aget l p.1=some v:=by
 unfold aget
 cases q:l.find? (fun x=>decide (x.1=p.1)) with
 | none=>rw [List.find?_eq_none] at q; exact absurd (by simp) (q p h)
 | some x=>exact ⟨_,rfl⟩
noncomputable def sp_coming_of:Sp2:=fun ds G Q _=>∃ rows:Rows,ds=[enc rows]/\rows.flatten.length<=500/\Q (.rod (encKV (comingL (nextL (pairsOf rows))))) G
noncomputable def rd_coming_of:TS2 :=
 (dSeq (dAsg (dCall sp_next_of (dCons (dVar 0) dNil)) (gName 1))
 (dSeq (dAsg dDic (gName 2))
 (dSeq (dFor (iDict (dVar 1)) (gName 3) (dAsg (dVar 3) (gSub (dVar 2) (dBin rIx (dVar 1) (dVar 3)))))
 (dRet (dFz (dVar 2))))))
theorem comingP_len (l ps:List (T2×T2)):(comingP l ps).length<=ps.length:=by
 have:∀ (ps c:List (T2×T2)),(ps.foldl (fun c p=>aput c ((aget l p.1).getD p.2) p.1) c).length<=c.length+ps.length:=by
  intro ps
  induction ps with
  | nil=>intro c; simp
  | cons p ps ih =>
   intro c
   rw [List.foldl_cons,List.length_cons]
   have h1:=ih (aput c ((aget l p.1).getD p.2) p.1)
   have h2:=aput_len c ((aget l p.1).getD p.2) p.1
   lia
 simpa [comingP] using this ps []
theorem OK_coming_of (ds:List D) (G:Gp) (Q:DK) (h:sp_coming_of ds G Q fun _ _=>False):rd_coming_of (fun _ _=>False) (ends Q) (start2 4 ds) G:=by
 obtain ⟨rows,rfl,hl,q⟩:=h
 unfold rd_coming_of
 simp only [ends,start2,List.map_cons,List.map_nil,List.length_cons,List.length_nil,List.replicate,List.cons_append,List.nil_append,seq_asg,dAsg,dCall,dCons,dVar,List.getElem?_cons_zero,dNil,gName,List.set_cons_succ,List.set_cons_zero,dDic]
 refine ⟨rows,rfl,hl,?_⟩
 simp only [dNew]
 intro c hc
 have hn:(nextL (pairsOf rows)).length<=500:=Nat.le_trans (nextL_len _) (Nat.le_trans (pairs_len rows) hl)
 generalize hL:nextL (pairsOf rows)=L at *
 refine seq_by (fun τ G'=>(∃ b,τ=[some (enc rows),some (.rod (encKV L)),some (.ref c),b])/\GLe G G'/\G' c=some (.dic (encKV (comingP L L)))) ?_ ?_
 ·intro N hN
  simp only [dFor,iDict,dVar,List.getElem?_cons_succ,List.getElem?_cons_zero,iDictAt]
  have ek:(encKV L).map (·.1)=L.map fun p=>enc p.1:=by unfold encKV; rw [List.map_map]; rfl
  rw [ek]
  refine for_enc (xs:=L) (fun pre τ G'=>(∃ b,τ=[some (enc rows),some (.rod (encKV L)),some (.ref c),b])/\GLe G G'/\G' c=some (.dic (encKV (comingP L pre)))) ⟨⟨_,rfl⟩,.new hc,updG_same⟩ (fun _ _ _ _=>trivial) ?_ ?_
  ·rintro pre x post τ G' N2 e ⟨⟨b,rfl⟩,l,gc⟩ hN2
   have hx:x∈L:=by rw [e]; simp
   obtain ⟨v,hv⟩:=aget_mem hx
   have hpre:pre.length<=500:=by have:=congrArg List.length e; simp at this; lia
   simp only [gName,dAsg,dVar,List.set_cons_succ,List.set_cons_zero,List.getElem?_cons_succ,List.getElem?_cons_zero,gSub,dBin,rIx_rod,look_enc,hv,Option.map_some]
   refine ⟨kindOk_enc _ _,?_⟩
   refine setIx_dic (k:=v) (v:=x.1) gc (Nat.le_trans (comingP_len _ _) (by lia)) ?_
   refine hN2 _ _ ⟨⟨_,rfl⟩,l.put hc,?_⟩
   rw [updG_same]
   unfold comingP
   rw [List.foldl_append,List.foldl_cons,List.foldl_nil,hv]
   rfl
  ·rintro τ G' ⟨⟨b,rfl⟩,l,gc⟩
   exact hN _ _ ⟨⟨_,rfl⟩,l,gc⟩
 ·rintro _ G' ⟨⟨b,rfl⟩,l,gc⟩
  simp only [dRet,dFz,dVar,List.getElem?_cons_succ,List.getElem?_cons_zero]
  exact fz_rod l hc gc q
noncomputable def cornersAt (f s fc sc:T2):List (T3×T3):=[(rgt fc,lft sc),(rgt sc,rgt f),(lft f,rgt s),(lft s,lft fc)]
noncomputable def sp_corners_at:Sp2:=fun ds G Q _=>∃ (l:List (T2×T2)) (f s fc sc:T2),ds=[.rod (encKV l),enc f,enc s]/\aget l f=some fc/\aget l s=some sc/\Q (enc (cornersAt f s fc sc)) G
noncomputable def rd_corners_at:TS2 :=
 (dSeq (dAsg (dBin rIx (dVar 0) (dVar 1)) (gName 3))
 (dSeq (dAsg (dBin rIx (dVar 0) (dVar 2)) (gName 4))
 (dRet (dFz (dLst (dCons (dTup (dCons (dCall sp_right_of (dCons (dVar 3) dNil)) (dCons (dCall sp_left_of (dCons (dVar 4) dNil)) dNil))) (dCons (dTup (dCons (dCall sp_right_of (dCons (dVar 4) dNil)) (dCons (dCall sp_right_of (dCons (dVar 1) dNil)) dNil))) (dCons (dTup (dCons (dCall sp_left_of (dCons (dVar 1) dNil)) (dCons (dCall sp_right_of (dCons (dVar 2) dNil)) dNil))) (dCons (dTup (dCons (dCall sp_left_of (dCons (dVar 2) dNil)) (dCons (dCall sp_left_of (dCons (dVar 3) dNil)) dNil))) dNil)))))))))
theorem OK_corners_at (ds:List D) (G:Gp) (Q:DK) (h:sp_corners_at ds G Q fun _ _=>False):rd_corners_at (fun _ _=>False) (ends Q) (start2 5 ds) G:=by
 obtain ⟨l,f,s,fc,sc,rfl,h1,h2,q⟩:=h
 unfold rd_corners_at
 simp only [ends,start2,List.map_cons,List.map_nil,List.length_cons,List.length_nil,List.replicate,List.cons_append,List.nil_append,seq_asg,dAsg,dBin,dVar,List.getElem?_cons_zero,List.getElem?_cons_succ,gName,List.set_cons_succ,List.set_cons_zero,dRet,dFz,dLst,dCons,dTup,dCall,dNil,rIx_rod,look_enc,h2,Option.map_some,h1]
 refine ⟨kindOk_enc _ _,kindOk_enc _ _,fc,rfl,trivial,sc,rfl,trivial,by decide,sc,rfl,trivial,f,rfl,trivial,by decide,f,rfl,trivial,s,rfl,trivial,by decide,s,rfl,trivial,fc,rfl,trivial,by decide,by decide,fun p hp=>?_⟩
 exact fz_enc (xs:=cornersAt f s fc sc) (.new hp) hp updG_same q
end P
end K2
end
section
namespace K2
open PySem (Str)
open Enc (enc)
class inductive Cn {α:Type} (ps:List (α×α)):α->α->Prop
 | refl (x:α):Cn ps x x
 | pair {x y:α}:(x,y)∈ps->Cn ps x y
 | symm {x y:α}:Cn ps x y->Cn ps y x
 | trans {x y z:α}:Cn ps x y->Cn ps y z->Cn ps x z
section
variable {α:Type} {ps:List (α×α)}
theorem Cn.mono {qs:List (α×α)} (h:∀ p∈ps,p∈qs) {x y:α} (c:Cn ps x y):Cn qs x y:=by
 induction c with
 | refl x=>exact .refl x
 | pair q=>exact .pair (h _ q)
 | symm _ ih=>exact .symm ih
 | trans _ _ i1 i2=>exact .trans i1 i2
theorem Cn.more {a b x y:α}:Cn (ps++[(a,b)]) x y↔Cn ps x y\/(Cn ps x a/\Cn ps b y)\/(Cn ps x b/\Cn ps a y):=by
 constructor
 ·intro c
  induction c with
  | refl x=>exact .inl (.refl x)
  | pair q =>
   rcases List.mem_append.mp q with q | q
   ·exact .inl (.pair q)
   ·have:=List.mem_singleton.mp q
    injection this with e1 e2
    subst e1 e2
    exact .inr (.inl ⟨.refl _,.refl _⟩)
  | symm _ ih =>
   rcases ih with h | ⟨h1,h2⟩ | ⟨h1,h2⟩
   ·exact .inl h.symm
   ·exact .inr (.inr ⟨h2.symm,h1.symm⟩)
   ·exact .inr (.inl ⟨h2.symm,h1.symm⟩)
  | trans _ _ i1 i2 =>
   rcases i1 with h | ⟨h1,h2⟩ | ⟨h1,h2⟩
   ·rcases i2 with k | ⟨k1,k2⟩ | ⟨k1,k2⟩
    ·exact .inl (h.trans k)
    ·exact .inr (.inl ⟨h.trans k1,k2⟩)
    ·exact .inr (.inr ⟨h.trans k1,k2⟩)
   ·rcases i2 with k | ⟨k1,k2⟩ | ⟨k1,k2⟩
    ·exact .inr (.inl ⟨h1,h2.trans k⟩)
    ·exact .inr (.inl ⟨h1,k2⟩)
    ·exact .inl (h1.trans k2)
   ·rcases i2 with k | ⟨k1,k2⟩ | ⟨k1,k2⟩
    ·exact .inr (.inr ⟨h1,h2.trans k⟩)
    ·exact .inl (h1.trans k2)
    ·exact .inr (.inr ⟨h1,k2⟩)
 ·have up:∀ {u v:α},Cn ps u v->Cn (ps++[(a,b)]) u v:=fun c=>c.mono fun p hp=>List.mem_append_left _ hp
  have ab:Cn (ps++[(a,b)]) a b:=.pair (by simp)
  rintro (h | ⟨h1,h2⟩ | ⟨h1,h2⟩)
  ·exact up h
  ·exact ((up h1).trans ab).trans (up h2)
  ·exact ((up h1).trans ab.symm).trans (up h2)
theorem Cn.in' {ms:List α} (h:∀ p∈ps,p.1∈ms/\p.2∈ms) {x y:α} (c:Cn ps x y):x∈ms↔y∈ms:=by
 induction c with
 | refl x=>exact Iff.rfl
 | pair q=>exact ⟨fun _=>(h _ q).2,fun _=>(h _ q).1⟩
 | symm _ ih=>exact ih.symm
 | trans _ _ i1 i2=>exact i1.trans i2
end
theorem rIx_encD {κ α:Type} [DecidableEq κ] [Enc κ] [EncKey κ] [DecidableEq α] [Enc α] {a:Nat} {l:List (κ×α)} {k:κ} {v:α} {G:Gp} {Q:DK} (h:G a=some (.dic (encKV l))) (hv:aget l k=some v) (q:Q (enc v) G):rIx (.ref a) (enc k) G Q:=by
 rw [rIx_dic h (kindOk_enc l k) (by rw [look_enc,hv]; rfl)]; exact q
theorem rIn_enc {α:Type} [DecidableEq α] [Enc α] {neg:Bool} {x:α} {xs:List α} {G:Gp} {Q:DK} (hd:Enc.dep α<=7) (q:Q (.bl (if neg then !decide (x∈xs) else decide (x∈xs))) G):rIn neg (enc x) (enc xs) G Q:=by
 refine ⟨enc x,xs.map enc,Enc.sn _ _ _ (by unfold SN; lia),sn_rol G 7 hd xs,?_⟩
 rw [any_enc]; exact q
theorem rEq_enc {α:Type} [DecidableEq α] [Enc α] {neg:Bool} {x y:α} {G:Gp} {Q:DK} (hd:Enc.dep α<=8) (q:Q (.bl (if neg then !decide (x=y) else decide (x=y))) G):rEq neg (enc x) (enc y) G Q:=by
 refine ⟨enc x,enc y,Enc.sn _ _ _ hd,Enc.sn _ _ _ hd,?_⟩
 rw [Enc.eqv]; exact q
class EncMin (α:Type) [DecidableEq α] [Enc α] [EncOrd α] where
 mn:∀ {x:D} {G:Gp} {xs:List α} {Q:DK},itemsOf x G=some (xs.map enc)->xs≠[]->(∀ m∈xs,(∀ y∈xs,leO m y=true)->Q (enc m) G)->cMin [x] G Q
theorem fold_least {α:Type} [DecidableEq α] [Enc α] [EncOrd α]:∀ (r:List α) (a:α),r.foldl (fun m x=>if EncOrd.lt x m=true then x else m) a∈a :: r/\∀ y∈a :: r,leO (r.foldl (fun m x=>if EncOrd.lt x m=true then x else m) a) y=true
 | [],a=>⟨by simp,fun y hy=>by rw [List.mem_singleton.mp hy]; unfold leO; rw [List.foldl_nil,EncOrd.irr]; rfl⟩
 | b :: r,a=>by
  rw [List.foldl_cons]
  by_cases c:EncOrd.lt b a=true
  ·rw [if_pos c]
   obtain ⟨h1,h2⟩:=fold_least r b
   refine ⟨List.mem_cons_of_mem _ h1,fun y hy=>?_⟩
   rcases List.mem_cons.mp hy with rfl | hy
   ·refine leO_trans _ _ _ (h2 b (by simp)) ?_
    unfold leO
    cases q:EncOrd.lt y b with
    | false=>rfl
    | true=>have:=EncOrd.trans _ _ _ q c; rw [EncOrd.irr] at this; cases this
   ·exact h2 y hy
  ·rw [if_neg c]
   obtain ⟨h1,h2⟩:=fold_least r a
   refine ⟨?_,fun y hy=>?_⟩
   ·rcases List.mem_cons.mp h1 with h | h
    ·rw [h]; simp
    ·exact List.mem_cons_of_mem _ (List.mem_cons_of_mem _ h)
   ·rcases List.mem_cons.mp hy with rfl | hy
    ·exact h2 y (by simp)
    ·rcases List.mem_cons.mp hy with rfl | hy
     ·refine leO_trans _ _ _ (h2 a (by simp)) ?_
      unfold leO; simpa using c
     ·exact h2 y (List.mem_cons_of_mem _ hy)
noncomputable instance:EncMin Int where
 mn:=by
  intro x G xs Q hi hne k
  cases xs with
  | nil=>exact absurd rfl hne
  | cons a r =>
   obtain ⟨h1,h2⟩:=fold_least r a
   refine .inl ⟨a :: r,_,hi,rfl,?_⟩
   have:(fun (m x:Int)=>if x < m then x else m)=fun m x=>if EncOrd.lt x m=true then x else m:=by
    funext m x
    show (if x < m then x else m)=if decide (x < m)=true then x else m
    simp
   show Q (enc (r.foldl (fun m x=>if x < m then x else m) a)) G
   rw [this]
   exact k _ h1 h2
theorem lexO_lexLt:∀ (x y:List Int),lexO (fun a b=>decide (a < b)) x y=lexLt x y
 | [],[]=>rfl
 | [],_ :: _=>rfl
 | _ :: _,[]=>rfl
 | a :: x,b :: y=>by simp only [lexO_c,lexLt,lexO_lexLt x y]
noncomputable instance:EncMin T3 where
 mn:=by
  intro x G xs Q hi hne k
  cases xs with
  | nil=>exact absurd rfl hne
  | cons a r =>
   obtain ⟨h1,h2⟩:=fold_least r a
   have ei:itemsOf x G=some (((a :: r).map T3.l).map tI):=by rw [hi,List.map_map]; rfl
   refine .inr ⟨(a :: r).map T3.l,_,ei,rfl,?_⟩
   have:∀ (r:List T3) (a:T3),(r.map T3.l).foldl (fun m x=>if lexLt x m=true then x else m) a.l=(r.foldl (fun m x=>if EncOrd.lt x m=true then x else m) a).l:=by
    intro r
    induction r with
    | nil=>intro a; rfl
    | cons b r ih =>
     intro a
     rw [List.map_cons,List.foldl_cons,List.foldl_cons]
     have e:(if lexLt b.l a.l=true then b.l else a.l)=(if EncOrd.lt b a=true then b else a).l:=by
      have:EncOrd.lt b a=lexLt b.l a.l:=lexO_lexLt _ _
      rw [this]
      split <;> rfl
     rw [e]; exact ih _
   rw [this r a]
   exact k _ h1 h2
namespace P
section
variable {α:Type} [DecidableEq α] [Enc α] [EncOrd α] [EncKey α] [EncMin α]
noncomputable def told (ms:List α) (gr:α->List α):List (List α):=srt ((ms.filter fun m=>(gr m).all fun y=>leO m y).map fun m=>srt (gr m))
noncomputable def sp_gr (α:Type) [DecidableEq α] [Enc α] [EncOrd α] [EncKey α] [EncMin α]:Sp2:=fun ds G Q _=>∃ (ms:List α) (ps:List (α×α)),ds=[enc ms,enc ps]/\(ms.Nodup/\ms.length < 64/\ps.length<=1000/\∀ p∈ps,p.1∈ms/\p.2∈ms)/\(Enc.dep α<=5/\okSh (EncOrd.shp α)=true/\okSh (EncOrd.shp (List α))=true) /\
 ∀ gr:α->List α,(∀ m∈ms,(gr m).Nodup/\∀ x,x∈gr m↔Cn ps m x)->Q (enc (told ms gr)) G
noncomputable def rd_grouped:TS2 :=
 (dSeq (dAsg dDic (gName 2))
 (dSeq (dFor (iSeq (dVar 0)) (gName 3) (dAsg (dFz (dLst (dCons (dVar 3) dNil))) (gSub (dVar 2) (dVar 3))))
 (dSeq (dFor (iSeq (dVar 1)) (gTup (gCons (gName 4) (gCons (gName 5) gNil))) (dIfS (dTru (dBin (rIn true) (dVar 5) (dBin rIx (dVar 2) (dVar 4)))) (dSeq (dAsg (dFz (dBin rAdd (dBin rIx (dVar 2) (dVar 4)) (dBin rIx (dVar 2) (dVar 5)))) (gName 6))
 (dFor (iSeq (dVar 6)) (gName 3) (dAsg (dFz (dVar 6)) (gSub (dVar 2) (dVar 3))))) dNext))
 (dRet (dFz (dCB cSorted (dCons (dComp 1 [2] (iSeq (dVar 0)) (gName 0) (some (dTru (dBin (rEq false) (dCB cMin (dCons (dBin rIx (dVar 1) (dVar 0)) dNil)) (dVar 0)))) (dFz (dCB cSorted (dCons (dBin rIx (dVar 1) (dVar 0)) dNil)))) dNil)))))))
structure GI (ms:List α) (ps:List (α×α)) (l:List (α×List α)):Prop where
 len:l.length<=64
 at':∀ m∈ms,∃ g,aget l m=some g/\g.Nodup/\∀ x,x∈g↔Cn ps m x
theorem aput_len_old {κ β:Type} [DecidableEq κ] {l:List (κ×β)} {k:κ} {v:β} (h:∃ p∈l,p.1=k):(aput l k v).length=l.length:=by
 unfold aput
 rw [if_pos (by obtain ⟨p,h1,h2⟩:=h; exact List.any_eq_true.mpr ⟨p,h1,by simpa using h2⟩),List.length_map]
theorem aget_has {κ β:Type} [DecidableEq κ] {l:List (κ×β)} {k:κ} {v:β} (h:aget l k=some v):∃ p∈l,p.1=k:=by
 unfold aget at h
 cases q:l.find? (fun p=>decide (p.1=k)) with
 | none=>rw [q] at h; cases h
 | some p=>exact ⟨p,List.mem_of_find?_eq_some q,by simpa using List.find?_some q⟩
noncomputable def putAll (l:List (α×List α)) (js:List α) (g:List α):List (α×List α):=js.foldl (fun l m=>aput l m g) l
theorem aget_putAll (l:List (α×List α)) (g:List α):∀ (js:List α) (l:List (α×List α)) (k:α),aget (putAll l js g) k=if k∈js then some g else aget l k:=by
 intro js
 induction js with
 | nil=>intro l k; simp [putAll]
 | cons j js ih =>
  intro l k
  show aget (putAll (aput l j g) js g) k=_
  rw [ih,aget_aput]
  by_cases h1:k∈js
  ·simp [h1]
  ·by_cases h2:j=k
   ·simp [h2]
   ·have h3:¬ k=j:=fun z=>h2 z.symm
    simp [h1,h2,h3]
theorem GI.join {ms:List α} {ps:List (α×α)} {l:List (α×List α)} (gi:GI ms ps l) {a b:α} (ha:a∈ms) (hb:b∈ms) (hps:∀ p∈ps,p.1∈ms/\p.2∈ms) {ga gb:List α} (ea:aget l a=some ga) (eb:aget l b=some gb) (hn:b∉ga) (hlen:(putAll l (ga++gb) (ga++gb)).length<=64) :
  GI ms (ps++[(a,b)]) (putAll l (ga++gb) (ga++gb)):=by
 obtain ⟨ga',e1,na,ca⟩:=gi.at' a ha
 rw [ea] at e1; cases e1
 obtain ⟨gb',e2,nb,cb⟩:=gi.at' b hb
 rw [eb] at e2; cases e2
 have nab:¬ Cn ps a b:=fun h=>hn ((ca b).mpr h)
 refine ⟨hlen,fun m hm=>?_⟩
 rw [aget_putAll l]
 by_cases hj:m∈ga++gb
 ·rw [if_pos hj]
  refine ⟨_,rfl,?_,fun x=>?_⟩
  ·rw [List.nodup_append]
   refine ⟨na,nb,fun x hx y hy e=>?_⟩
   subst e
   exact nab (((ca x).mp hx).trans ((cb x).mp hy).symm)
  ·rw [Cn.more,List.mem_append,ca,cb]
   rcases List.mem_append.mp hj with h | h
   ·have h:=(ca m).mp h
    constructor
    ·rintro (k | k)
     ·exact .inl (h.symm.trans k)
     ·exact .inr (.inl ⟨h.symm,k⟩)
    ·rintro (k | ⟨k1,k2⟩ | ⟨k1,k2⟩)
     ·exact .inl (h.trans k)
     ·exact .inr k2
     ·exact .inl k2
   ·have h:=(cb m).mp h
    constructor
    ·rintro (k | k)
     ·exact .inr (.inr ⟨h.symm,k⟩)
     ·exact .inl (h.symm.trans k)
    ·rintro (k | ⟨k1,k2⟩ | ⟨k1,k2⟩)
     ·exact .inr (h.trans k)
     ·exact .inr k2
     ·exact .inl k2
 ·rw [if_neg hj]
  obtain ⟨g,e,n,c⟩:=gi.at' m hm
  refine ⟨g,e,n,fun x=>?_⟩
  rw [List.mem_append,ca,cb] at hj
  rw [c,Cn.more]
  constructor
  ·exact .inl
  ·rintro (k | ⟨k1,k2⟩ | ⟨k1,k2⟩)
   ·exact k
   ·exact absurd (.inl k1.symm) hj
   ·exact absurd (.inr k1.symm) hj
theorem GI.same {ms:List α} {ps:List (α×α)} {l:List (α×List α)} (gi:GI ms ps l) {a b:α} (ha:a∈ms) {ga:List α} (ea:aget l a=some ga) (hn:b∈ga):GI ms (ps++[(a,b)]) l:=by
 obtain ⟨ga',e1,na,ca⟩:=gi.at' a ha
 rw [ea] at e1; cases e1
 have ab:=(ca b).mp hn
 refine ⟨gi.len,fun m hm=>?_⟩
 obtain ⟨g,e,n,c⟩:=gi.at' m hm
 refine ⟨g,e,n,fun x=>?_⟩
 rw [c,Cn.more]
 constructor
 ·exact .inl
 ·rintro (k | ⟨k1,k2⟩ | ⟨k1,k2⟩)
  ·exact k
  ·exact (k1.trans ab).trans k2
  ·exact (k1.trans ab.symm).trans k2
theorem putAll_len {g:List α}:∀ (js:List α) (l:List (α×List α)),(∀ j∈js,∃ v,aget l j=some v)->(putAll l js g).length=l.length
 | [],l,_=>rfl
 | j :: js,l,h=>by
  show (putAll (aput l j g) js g).length=l.length
  rw [putAll_len js (aput l j g) (fun k hk=>by
   rw [aget_aput]
   split
   ·exact ⟨_,rfl⟩
   ·exact h k (List.mem_cons_of_mem _ hk))]
  obtain ⟨v,hv⟩:=h j (by simp)
  exact aput_len_old (aget_has hv)
noncomputable def oneEach (ms:List α):List (α×List α):=ms.foldl (fun l m=>aput l m [m]) []
theorem oneEach_snoc (ms:List α) (m:α):oneEach (ms++[m])=aput (oneEach ms) m [m]:=by unfold oneEach; rw [List.foldl_append]; rfl
theorem oneEach_get (ms:List α) (k:α):aget (oneEach ms) k=if k∈ms then some [k] else none:=by
 have:∀ (ms:List α) (l:List (α×List α)),aget (ms.foldl (fun l m=>aput l m [m]) l) k=if k∈ms then some [k] else aget l k:=by
  intro ms
  induction ms with
  | nil=>intro l; simp
  | cons m ms ih =>
   intro l
   rw [List.foldl_cons,ih,aget_aput]
   by_cases h1:k∈ms
   ·simp [h1]
   ·by_cases h2:m=k
    ·subst h2; simp
    ·have h3:¬ k=m:=fun z=>h2 z.symm
     simp [h1,h2,h3]
 have h:=this ms []
 simpa [oneEach,aget] using h
theorem oneEach_len (ms:List α):(oneEach ms).length<=ms.length:=by
 have:∀ (ms:List α) (l:List (α×List α)),(ms.foldl (fun l m=>aput l m [m]) l).length<=l.length+ms.length:=by
  intro ms
  induction ms with
  | nil=>intro l; simp
  | cons m ms ih =>
   intro l
   rw [List.foldl_cons,List.length_cons]
   have h1:=ih (aput l m [m])
   have h2:=aput_len l m [m]
   lia
 simpa [oneEach] using this ms []
theorem enc_pair (p:α×α):(enc p:D)=.tup [enc p.1,enc p.2]:=rfl
theorem OK_gr (ds:List D) (G:Gp) (Q:DK) (h:sp_gr α ds G Q fun _ _=>False):rd_grouped (fun _ _=>False) (ends Q) (start2 7 ds) G:=by
 obtain ⟨ms,ps,rfl,⟨hnd,hlen,hpl,hps⟩,⟨hdep,hok1,hok2⟩,q⟩:=h
 unfold rd_grouped
 simp only [ends,start2,List.map_cons,List.map_nil,List.length_cons,List.length_nil,List.replicate,List.cons_append,List.nil_append,seq_asg,dAsg,dDic,dNew,gName,List.set_cons_succ,List.set_cons_zero]
 intro d hd
 refine seq_by (fun τ G'=>(∃ a b c e,τ=[some (enc ms),some (enc ps),some (.ref d),a,b,c,e])/\GLe G G'/\G' d=some (.dic (encKV (oneEach ms)))) ?_ ?_
 ·intro N hN
  simp only [dFor,iSeq_at,dVar,List.getElem?_cons_zero]
  refine iAt_enc ?_
  refine for_enc (xs:=ms) (fun pre τ G'=>(∃ a b c e,τ=[some (enc ms),some (enc ps),some (.ref d),a,b,c,e])/\GLe G G'/\G' d=some (.dic (encKV (oneEach pre)))) ⟨⟨_,_,_,_,rfl⟩,.new hd,updG_same⟩ (fun _ _ _ _=>trivial) ?_ ?_
  ·rintro pre m post τ G' N2 e ⟨⟨a1,a2,a3,a4,rfl⟩,l,gd⟩ hN2
   have hpre:pre.length < 64:=by have:=congrArg List.length e; simp at this; lia
   simp only [gName,dAsg,dFz,dLst,dCons,dVar,List.set_cons_succ,List.set_cons_zero,List.getElem?_cons_succ,List.getElem?_cons_zero,dNil,List.length_cons,List.length_nil,gSub]
   refine ⟨by decide,fun p hp=>?_⟩
   have hdp:d≠p:=by rintro rfl; rw [gd] at hp; cases hp
   refine fz_enc (xs:=[m]) (.new hp) hp updG_same ?_
   refine setIx_dic (k:=m) (v:=[m]) gd (Nat.le_trans (oneEach_len _) (by lia)) ?_
   refine hN2 _ _ ⟨⟨_,_,_,_,rfl⟩,l.put hd,?_⟩
   rw [updG_same,oneEach_snoc]
  ·rintro τ G' ⟨⟨a1,a2,a3,a4,rfl⟩,l,gd⟩
   exact hN _ _ ⟨⟨_,_,_,_,rfl⟩,l,gd⟩
 rintro _ G0 ⟨⟨a1,a2,a3,a4,rfl⟩,l0,gd0⟩
 have gi0:GI ms [] (oneEach ms):=⟨Nat.le_trans (oneEach_len _) (by lia),fun m hm=>⟨[m],by rw [oneEach_get,if_pos hm],by simp,fun x=>⟨fun h=>by rw [List.mem_singleton.mp h]; exact .refl _,fun c=>by
  have:∀ {x y:α},Cn ([]:List (α×α)) x y->y=x:=by
   intro x y c
   induction c with
   | refl=>rfl
   | pair h=>cases h
   | symm _ ih=>exact ih.symm
   | trans _ _ i1 i2=>rw [i2,i1]
  rw [this c]; simp⟩⟩⟩
 refine seq_by (fun τ G'=>(∃ a b c e,τ=[some (enc ms),some (enc ps),some (.ref d),a,b,c,e])/\GLe G G'/\∃ l,G' d=some (.dic (encKV l))/\GI ms ps l) ?_ ?_
 ·intro N hN
  simp only [dFor,iSeq_at,dVar,List.getElem?_cons_succ,List.getElem?_cons_zero]
  refine iAt_enc ?_
  refine for_enc (xs:=ps) (fun pre τ G'=>(∃ a b c e,τ=[some (enc ms),some (enc ps),some (.ref d),a,b,c,e])/\GLe G G'/\∃ l,G' d=some (.dic (encKV l))/\GI ms pre l) ⟨⟨_,_,_,_,rfl⟩,l0,_,gd0,gi0⟩ (fun _ _ _ _=>trivial) ?_ ?_
  ·rintro pre x post τ G1 N2 e ⟨⟨a1,a2,a3,a4,rfl⟩,l1,L,gd1,gi⟩ hN2
   have hx:=hps x (by rw [e]; simp)
   have hpre:∀ p∈pre,p.1∈ms/\p.2∈ms:=fun p hp=>hps p (by rw [e]; exact List.mem_append_left _ hp)
   obtain ⟨ga,ea,na,ca⟩:=gi.at' x.1 hx.1
   obtain ⟨gb,eb,nb,cb⟩:=gi.at' x.2 hx.2
   have sub:∀ (z:α) (gz:List α),z∈ms->(∀ y,y∈gz↔Cn pre z y)->∀ y∈gz,y∈ms:=fun z gz hz cz y hy=>(Cn.in' hpre ((cz y).mp hy)).mp hz
   simp only [gTup,enc_pair,gCons,gName,gNil,dIfS,List.set_cons_succ,List.set_cons_zero,seq_asg,dAsg,dFz,dBin,dVar,List.getElem?_cons_succ,List.getElem?_cons_zero,dNext,dTru_at]
   refine rIx_encD gd1 ea ?_
   refine rIn_enc (by lia) ?_
   simp only [if_true,truAt_bl]
   by_cases hb:x.2∈ga
   ·simp only [hb,decide_true,Bool.not_true,Bool.false_eq_true,if_false]
    exact hN2 _ _ ⟨⟨_,_,_,_,rfl⟩,l1,L,gd1,gi.same hx.1 ea hb⟩
   ·simp only [hb,decide_false,Bool.not_false,if_true]
    refine rIx_encD gd1 ea (rIx_encD gd1 eb ?_)
    have nab:(ga++gb).Nodup:=by
     rw [List.nodup_append]
     refine ⟨na,nb,fun y hy z hz e=>?_⟩
     subst e
     exact hb ((ca x.2).mpr (((ca y).mp hy).trans ((cb y).mp hz).symm))
    have hj:∀ y∈ga++gb,y∈ms:=fun y hy=>by
     rcases List.mem_append.mp hy with h | h
     ·exact sub x.1 ga hx.1 ca y h
     ·exact sub x.2 gb hx.2 cb y h
    have hjl:(ga++gb).length<=ms.length:=(List.Nodup.length_le_of_subset nab hj)
    refine rAdd_of (IsL.enc ga) (IsL.enc gb) (szl (by rw [List.length_append] at hjl; simp only [List.length_map]; lia)) fun p hp=>?_
    have hdp:d≠p:=by rintro rfl; rw [gd1] at hp; cases hp
    rw [← List.map_append]
    refine fz_enc (.new hp) hp updG_same ?_
    simp only [dFor,iSeq_at,dVar,List.getElem?_cons_succ,List.getElem?_cons_zero]
    refine iAt_enc ?_
    refine for_enc (xs:=ga++gb) (fun js τ G'=>(∃ a,τ=[some (enc ms),some (enc ps),some (.ref d),a,some (enc x.1),some (enc x.2),some (enc (ga++gb))])/\GLe G G'/\G' d=some (.dic (encKV (putAll L js (ga++gb)))))
     ⟨⟨_,rfl⟩,l1,gd1⟩ (fun _ _ _ _=>trivial) ?_ ?_
    ·rintro js j post2 τ G' N3 e3 ⟨⟨b1,rfl⟩,l,gd⟩ hN3
     have hjs:∀ k∈js,∃ v,aget L k=some v:=fun k hk=>by
      obtain ⟨g,eg,_⟩:=gi.at' k (hj k (by rw [e3]; exact List.mem_append_left _ hk))
      exact ⟨g,eg⟩
     simp only [gName,dAsg,dFz,dVar,List.set_cons_succ,List.set_cons_zero,List.getElem?_cons_succ,List.getElem?_cons_zero,gSub]
     refine fz_id ?_
     refine setIx_dic (k:=j) (v:=ga++gb) gd (by rw [putAll_len js L hjs]; have:=gi.len; lia) ?_
     refine hN3 _ _ ⟨⟨_,rfl⟩,l.put hd,?_⟩
     rw [updG_same]
     unfold putAll
     rw [List.foldl_append]; rfl
    ·rintro τ G' ⟨⟨b1,rfl⟩,l,gd⟩
     have hjs:∀ k∈ga++gb,∃ v,aget L k=some v:=fun k hk=>by
      obtain ⟨g,eg,_⟩:=gi.at' k (hj k hk)
      exact ⟨g,eg⟩
     exact hN2 _ _ ⟨⟨_,_,_,_,rfl⟩,l,_,gd,gi.join hx.1 hx.2 hpre ea eb hb (by rw [putAll_len _ L hjs]; exact gi.len)⟩
  ·rintro τ G' ⟨⟨a1,a2,a3,a4,rfl⟩,l,gd⟩
   exact hN _ _ ⟨⟨_,_,_,_,rfl⟩,l,gd⟩
 rintro _ G1 ⟨⟨a1,a2,a3,a4,rfl⟩,l1,L,gd1,gi⟩
 simp only [dRet,dFz,dCB,dCons,dComp,dNil,iSeq_at,dVar,List.getElem?_cons_zero]
 refine iAt_enc ⟨szl (by rw [List.length_map]; lia),?_⟩
 let gr:α->List α:=fun m=>(aget L m).getD []
 have hgr:∀ m∈ms,aget L m=some (gr m)/\(gr m).Nodup/\∀ x,x∈gr m↔Cn ps m x:=fun m hm=>by
  obtain ⟨g,e,n,c⟩:=gi.at' m hm
  have:gr m=g:=by show (aget L m).getD []=g; rw [e]; rfl
  rw [this]; exact ⟨e,n,c⟩
 have grl:∀ m∈ms,(gr m).length < 64:=fun m hm=>by
  obtain ⟨_,n,c⟩:=hgr m hm
  have:(gr m).length<=ms.length:=List.Nodup.length_le_of_subset n fun y hy=>(Cn.in' hps ((c y).mp hy)).mp hm
  lia
 refine comp_enc (xs:=ms) (fun pre acc τ G'=>G1=G'/\(∃ a,τ=[a,some (.ref d)])/\acc=((pre.filter fun m=>(gr m).all fun y=>leO m y).map fun m=>srt (gr m)).map enc) ⟨rfl,⟨_,rfl⟩,rfl⟩ (fun _ _ _ _ _=>trivial) ?_ ?_
 ·rintro pre m post acc τ G' N e ⟨rfl,⟨a,rfl⟩,rfl⟩ hN
  have hm:m∈ms:=by rw [e]; simp
  obtain ⟨eg,ng,cg⟩:=hgr m hm
  simp only [gName,List.set_cons_zero,dFz,dCB,dCons,dBin,dVar,List.getElem?_cons_succ,List.getElem?_cons_zero,dNil,dTru_at]
  refine rIx_encD gd1 eg ?_
  refine EncMin.mn (xs:=gr m) rfl (fun z=>by
   have:m∈gr m:=(cg m).mpr (.refl m)
   rw [z] at this; cases this) fun mm hmm hle=>?_
  refine rEq_enc (by lia) ?_
  simp only [Bool.false_eq_true,if_false,truAt_bl]
  have key:decide (mm=m)=(gr m).all fun y=>leO m y:=by
   have hmg:m∈gr m:=(cg m).mpr (.refl m)
   by_cases h:mm=m
   ·subst h
    simp only [decide_true]
    symm; rw [List.all_eq_true]; exact hle
   ·simp only [h,decide_false]
    symm
    cases q:(gr m).all fun y=>leO m y with
    | false=>rfl
    | true =>
     rw [List.all_eq_true] at q
     exact absurd (leO_anti _ _ (hle m hmg) (q mm hmm)) h
  rw [key]
  cases q:(gr m).all fun y=>leO m y with
  | false =>
   simp only [Bool.false_eq_true,if_false]
   refine hN _ _ _ ⟨rfl,⟨_,rfl⟩,?_⟩
   simp [List.filter_append,List.filter_cons,q]
  | true =>
   simp only [if_true]
   refine rIx_encD gd1 eg ?_
   refine cSorted_of (IsL.enc (gr m)) (grl m hm) (fun p hp=>?_) hok1
   refine fz_enc (.new hp) hp updG_same ?_
   refine hN _ _ _ ⟨rfl,⟨_,rfl⟩,?_⟩
   simp [List.filter_append,List.filter_cons,q]
 ·rintro acc τ G' ⟨rfl,⟨a,rfl⟩,rfl⟩ p hp
  refine cSorted_of (IsL.ref updG_same) (by rw [List.length_map]; exact Nat.lt_of_le_of_lt (List.length_filter_le _ _) hlen) (fun p2 hp2=>?_) hok2
  have l2:=(l1.trans (GLe.new (o:=.lst (((ms.filter fun m=>(gr m).all fun y=>leO m y).map fun m=>srt (gr m)).map enc)) hp))
  exact fz_enc (l2.trans (.new hp2)) (l2.free hp2) updG_same (q gr fun m hm=>(hgr m hm).2)
end
noncomputable def sp_grouped:Sp2:=fun ds G Q E=>sp_gr T3 ds G Q E\/sp_gr Int ds G Q E
theorem OK_grouped (ds:List D) (G:Gp) (Q:DK) (h:sp_grouped ds G Q fun _ _=>False):rd_grouped (fun _ _=>False) (ends Q) (start2 7 ds) G:=by
 rcases h with h | h
 ·exact OK_gr ds G Q h
 ·exact OK_gr ds G Q h
theorem LEN_grouped (ds:List D) (G:Gp) (Q:DK) (E:XK2) (h:sp_grouped ds G Q E):ds.length=2:=by
 rcases h with ⟨_,_,rfl,_⟩ | ⟨_,_,rfl,_⟩ <;> rfl
end P
end K2
end
section
namespace K2
open PySem (Str)
open Enc (enc)
namespace P
theorem aput_new {κ β:Type} [DecidableEq κ] {l:List (κ×β)} {k:κ} {v:β} (h:k∉l.map (·.1)):aput l k v=l++[(k,v)]:=by
 unfold aput
 rw [if_neg]
 intro q
 obtain ⟨p,h1,h2⟩:=List.any_eq_true.mp q
 exact h (List.mem_map.mpr ⟨p,h1,by simpa using h2⟩)
theorem fold_put {κ β γ:Type} [DecidableEq κ] (kf:γ->κ) (vf:γ->β):∀ (ps:List γ) (l:List (κ×β)),(l.map (·.1)++ps.map kf).Nodup->ps.foldl (fun l p=>aput l (kf p) (vf p)) l=l++ps.map fun p=>(kf p,vf p)
 | [],l,_=>by simp
 | p :: ps,l,h=>by
  rw [List.foldl_cons,aput_new (fun z=>by
   rw [List.map_cons,List.nodup_append] at h
   exact h.2.2 _ z _ (by simp) rfl),fold_put kf vf ps _ (by simpa using h)]
  simp
theorem aget_of_mem {κ β:Type} [DecidableEq κ]:∀ {l:List (κ×β)} {p:κ×β},(l.map (·.1)).Nodup->p∈l->aget l p.1=some p.2
 | q :: l,p,hn,h=>by
  unfold aget
  rw [List.find?_cons]
  rcases List.mem_cons.mp h with rfl | h
  ·simp
  ·rw [List.map_cons,List.nodup_cons] at hn
   have:q.1≠p.1:=fun z=>hn.1 (by rw [z]; exact List.mem_map_of_mem h)
   simp only [this,decide_false]
   exact aget_of_mem hn.2 h
theorem mem_of_aget {κ β:Type} [DecidableEq κ] {l:List (κ×β)} {k:κ} {v:β} (h:aget l k=some v):(k,v)∈l:=by
 unfold aget at h
 cases q:l.find? (fun p=>decide (p.1=k)) with
 | none=>rw [q] at h; cases h
 | some p =>
  rw [q] at h
  have h1:=List.find?_some q
  have h2:=List.mem_of_find?_eq_some q
  simp at h h1
  rw [← h,← h1]; exact h2
theorem turned1_len (r:List T3):(turned1 r).length=r.length:=by unfold turned1; rw [List.length_append,List.length_drop,List.length_take]; lia
theorem turned1_perm (r:List T3):(turned1 r).Perm r:=by
 unfold turned1
 exact List.perm_append_comm.trans (by rw [List.take_append_drop])
theorem pairs_fst (rows:Rows):(pairsOf rows).map (·.1)=rows.flatten:=by
 unfold pairsOf
 induction rows with
 | nil=>rfl
 | cons r rs ih =>
  rw [List.flatMap_cons,List.map_append,ih,List.flatten_cons]
  congr 1
  rw [List.map_fst_zip]; rw [turned1_len]; exact Nat.le_refl _
theorem pairs_snd (rows:Rows):((pairsOf rows).map (·.2)).Perm rows.flatten:=by
 unfold pairsOf
 induction rows with
 | nil=>exact .refl _
 | cons r rs ih =>
  rw [List.flatMap_cons,List.map_append,List.flatten_cons]
  refine List.Perm.append ?_ ih
  rw [List.map_snd_zip]
  ·exact turned1_perm r
  ·rw [turned1_len]; exact Nat.le_refl _
variable {rows:Rows}
theorem fst_nd (d:Dr rows):((pairsOf rows).map fun p=>p.1.s).Nodup:=by
 have:((pairsOf rows).map fun p=>p.1.s)=rows.flatten.map T3.s:=by rw [← pairs_fst,List.map_map]; rfl
 rw [this]; exact d.nd
theorem snd_nd (d:Dr rows):((pairsOf rows).map fun p=>p.2.s).Nodup:=by
 have:((pairsOf rows).map fun p=>p.2.s)=((pairsOf rows).map (·.2)).map T3.s:=by rw [List.map_map]; rfl
 rw [this,((pairs_snd rows).map T3.s).nodup_iff]; exact d.nd
theorem nextL_eq (d:Dr rows):nextL (pairsOf rows)=(pairsOf rows).map fun p=>(p.1.s,p.2.s):=by
 unfold nextL
 rw [fold_put (fun p:T3×T3=>p.1.s) (fun p=>p.2.s) _ _ (by simpa using fst_nd d)]; rfl
theorem comingL_eq (d:Dr rows):comingL (nextL (pairsOf rows))=(pairsOf rows).map fun p=>(p.2.s,p.1.s):=by
 rw [nextL_eq d]
 generalize hL:((pairsOf rows).map fun p=>(p.1.s,p.2.s))=L
 have hk:(L.map (·.1)).Nodup:=by rw [← hL,List.map_map]; exact fst_nd d
 have hv:(L.map (·.2)).Nodup:=by rw [← hL,List.map_map]; exact snd_nd d
 have e:comingL L=L.foldl (fun c p=>aput c p.2 p.1) []:=by
  unfold comingL
  have:∀ (ps:List (T2×T2)) (c:List (T2×T2)),(∀ p∈ps,p∈L)->ps.foldl (fun c p=>aput c ((aget L p.1).getD p.2) p.1) c=ps.foldl (fun c p=>aput c p.2 p.1) c:=by
   intro ps
   induction ps with
   | nil=>intro c _; rfl
   | cons p ps ih =>
    intro c h
    rw [List.foldl_cons,List.foldl_cons,aget_of_mem hk (h p (by simp))]
    exact ih _ fun q hq=>h q (List.mem_cons_of_mem _ hq)
  exact this L [] fun p h=>h
 rw [e,fold_put (fun p:T2×T2=>p.2) (fun p=>p.1) _ _ (by simpa using hv),← hL]
 simp [List.map_map,Function.comp_def]
noncomputable def pas (rows:Rows) (s:T2):T3:=(rows.flatten.find? fun p=>decide (p.s=s)).getD ⟨0,0,0⟩
noncomputable def nxt (rows:Rows) (s:T2):T2:=(aget ((pairsOf rows).map fun p=>(p.1.s,p.2.s)) s).getD s
noncomputable def cmg (rows:Rows) (s:T2):T2:=(aget ((pairsOf rows).map fun p=>(p.2.s,p.1.s)) s).getD s
noncomputable def mt (p:T3):T2:=⟨p.a,1 - p.b⟩
noncomputable def fst (p:T3):Bool:=decide (p.b=0) == decide (p.c=1)
theorem pas_s (d:Dr rows) {p:T3} (h:p∈rows.flatten):pas rows p.s=p:=by
 unfold pas
 cases q:rows.flatten.find? (fun x=>decide (x.s=p.s)) with
 | none=>rw [List.find?_eq_none] at q; exact absurd (by simp) (q p h)
 | some x =>
  have h1:=List.find?_some q
  have h2:=List.mem_of_find?_eq_some q
  have h1:x.s=p.s:=by simpa using h1
  have:∀ (L:List T3),(L.map T3.s).Nodup->x∈L->p∈L->x=p:=by
   intro L
   induction L with
   | nil=>intro _ h; cases h
   | cons y L ih =>
    intro hn hx hp
    rw [List.map_cons,List.nodup_cons] at hn
    rcases List.mem_cons.mp hx with e1 | hx2
    ·rcases List.mem_cons.mp hp with e2 | hp2
     ·rw [e1,e2]
     ·exact absurd (by rw [← e1,h1]; exact List.mem_map_of_mem hp2) hn.1
    ·rcases List.mem_cons.mp hp with e2 | hp2
     ·exact absurd (by rw [← e2,← h1]; exact List.mem_map_of_mem hx2) hn.1
     ·exact ih hn.2 hx2 hp2
  exact this _ d.nd h2 h
theorem nxt_of (d:Dr rows) {p q:T3} (h:(p,q)∈pairsOf rows):aget ((pairsOf rows).map fun p=>(p.1.s,p.2.s)) p.s=some q.s/\nxt rows p.s=q.s:=by
 have:=aget_of_mem (l:=(pairsOf rows).map fun p=>(p.1.s,p.2.s)) (p:=(p.s,q.s)) (by rw [List.map_map]; exact fst_nd d) (List.mem_map.mpr ⟨_,h,rfl⟩)
 refine ⟨this,?_⟩
 unfold nxt; rw [this]; rfl
theorem cmg_of (d:Dr rows) {p q:T3} (h:(p,q)∈pairsOf rows):aget ((pairsOf rows).map fun p=>(p.2.s,p.1.s)) q.s=some p.s/\cmg rows q.s=p.s:=by
 have:=aget_of_mem (l:=(pairsOf rows).map fun p=>(p.2.s,p.1.s)) (p:=(q.s,p.s)) (by rw [List.map_map]; exact snd_nd d) (List.mem_map.mpr ⟨_,h,rfl⟩)
 refine ⟨this,?_⟩
 unfold cmg; rw [this]; rfl
theorem has_next {p:T3} (h:p∈rows.flatten):∃ q,(p,q)∈pairsOf rows/\q∈rows.flatten:=by
 rw [← pairs_fst] at h
 obtain ⟨x,hx,rfl⟩:=List.mem_map.mp h
 exact ⟨x.2,hx,(pairs_snd rows).mem_iff.mp (List.mem_map_of_mem hx)⟩
theorem has_prev {q:T3} (h:q∈rows.flatten):∃ p,(p,q)∈pairsOf rows/\p∈rows.flatten:=by
 rw [← (pairs_snd rows).mem_iff] at h
 obtain ⟨x,hx,rfl⟩:=List.mem_map.mp h
 exact ⟨x.1,hx,by rw [← pairs_fst]; exact List.mem_map_of_mem hx⟩
noncomputable def om (p:T3):T3:=⟨p.a,1 - p.b,p.c⟩
theorem om_in (d:Dr rows) {p:T3} (h:p∈rows.flatten):om p∈rows.flatten:=d.mate p h
theorem om_s (p:T3):(om p).s=mt p:=rfl
theorem om_om (p:T3):om (om p)=p:=by
 unfold om; cases p; simp only [T3.mk.injEq,true_and,and_true]; lia
theorem fst_om (d:Dr rows) {p:T3} (h:p∈rows.flatten):fst (om p)=!fst p:=by
 unfold fst om
 rcases d.way p h with e | e <;> simp only [e] <;> cases decide (p.c=1) <;> rfl
noncomputable def step (rows:Rows) (x:T3):T3 :=
 if x.b=2 then x else
 let al:=decide (x.c=0)
 let p:=if al=true then pas rows (nxt rows x.s) else pas rows x.s
 if (fst p == al)=true then lft (mt p) else rgt (cmg rows (mt p))
noncomputable def back (rows:Rows) (y:T3):T3 :=
 if y.b=2 then y else
 if y.c=0 then (let p:=pas rows y.s; if fst p=true then rgt (mt p) else lft (cmg rows (mt p)))
 else (let p:=pas rows (nxt rows y.s); if fst p=true then lft (cmg rows (mt p)) else rgt (mt p))
theorem lft_s (s:T2):(lft s).s=s:=rfl
theorem rgt_s (s:T2):(rgt s).s=s:=rfl
theorem lft_c (s:T2):(lft s).c=0:=rfl
theorem rgt_c (s:T2):(rgt s).c=1:=rfl
theorem lft_b (s:T2):(lft s).b=s.b:=rfl
theorem rgt_b (s:T2):(rgt s).b=s.b:=rfl
noncomputable def Sd (rows:Rows) (x:T3):Prop:=∃ p∈rows.flatten,x=lft p.s\/x=rgt p.s
theorem no2 (d:Dr rows) {p:T3} (h:p∈rows.flatten):p.s.b≠2:=by
 have:=d.way p h
 show p.b≠2
 lia
theorem step_l (d:Dr rows) {p q:T3} (h:(p,q)∈pairsOf rows) (hp:p∈rows.flatten) (hq:q∈rows.flatten):step rows (lft p.s)=if fst q=true then lft (mt q) else rgt (cmg rows (mt q)):=by
 unfold step
 rw [lft_b,if_neg (no2 d hp)]
 simp only [lft_c,decide_true,if_true,lft_s,(nxt_of d h).2,pas_s d hq,beq_true]
theorem step_r (d:Dr rows) {p:T3} (hp:p∈rows.flatten):step rows (rgt p.s)=if fst p=true then rgt (cmg rows (mt p)) else lft (mt p):=by
 unfold step
 rw [rgt_b,if_neg (no2 d hp)]
 have al:decide ((rgt p.s).c=0)=false:=by rw [rgt_c]; rfl
 simp only [al,Bool.false_eq_true,if_false,rgt_s,pas_s d hp]
 cases fst p <;> rfl
theorem back_l (d:Dr rows) {p:T3} (hp:p∈rows.flatten):back rows (lft p.s)=if fst p=true then rgt (mt p) else lft (cmg rows (mt p)):=by
 unfold back
 rw [lft_b,if_neg (no2 d hp)]
 simp only [lft_c,if_true,lft_s,pas_s d hp]
theorem back_r (d:Dr rows) {p q:T3} (h:(p,q)∈pairsOf rows) (hp:p∈rows.flatten) (hq:q∈rows.flatten):back rows (rgt p.s)=if fst q=true then lft (cmg rows (mt q)) else rgt (mt q):=by
 unfold back
 rw [rgt_b,if_neg (no2 d hp),rgt_c,if_neg (by decide)]
 simp only [rgt_s,(nxt_of d h).2,pas_s d hq]
theorem step_sd (d:Dr rows) {x:T3} (h:Sd rows x):Sd rows (step rows x)/\back rows (step rows x)=x:=by
 obtain ⟨p,hp,rfl | rfl⟩:=h
 ·obtain ⟨q,hpq,hq⟩:=has_next hp
  rw [step_l d hpq hp hq]
  have hm:=om_in d hq
  obtain ⟨c,hc,hcf⟩:=has_prev hm
  have ec:=(cmg_of d hc).2
  rw [om_s] at ec
  cases f:fst q with
  | true =>
   simp only [if_true]
   refine ⟨⟨om q,hm,.inl rfl⟩,?_⟩
   rw [← om_s,back_l d hm,fst_om d hq,f]
   simp only [Bool.not_true,Bool.false_eq_true,if_false,← om_s,om_om,(cmg_of d hpq).2]
  | false =>
   simp only [Bool.false_eq_true,if_false,ec]
   refine ⟨⟨c,hcf,.inr rfl⟩,?_⟩
   rw [back_r d hc hcf hm,fst_om d hq,f]
   simp only [Bool.not_false,if_true,← om_s,om_om,(cmg_of d hpq).2]
 ·rw [step_r d hp]
  have hm:=om_in d hp
  obtain ⟨c,hc,hcf⟩:=has_prev hm
  have ec:=(cmg_of d hc).2
  rw [om_s] at ec
  cases f:fst p with
  | true =>
   simp only [if_true,ec]
   refine ⟨⟨c,hcf,.inr rfl⟩,?_⟩
   rw [back_r d hc hcf hm,fst_om d hp,f]
   simp only [Bool.not_true,Bool.false_eq_true,if_false,← om_s,om_om]
  | false =>
   simp only [Bool.false_eq_true,if_false]
   refine ⟨⟨om p,hm,.inl rfl⟩,?_⟩
   rw [← om_s,back_l d hm,fst_om d hp,f]
   simp only [Bool.not_false,if_true,← om_s,om_om]
noncomputable def cornersOf (rows:Rows):List (T3×T3):=(names rows).flatMap fun n =>
 if handOf rows n=1 then cornersAt ⟨n,0⟩ ⟨n,1⟩ (cmg rows ⟨n,0⟩) (cmg rows ⟨n,1⟩) else cornersAt ⟨n,1⟩ ⟨n,0⟩ (cmg rows ⟨n,1⟩) (cmg rows ⟨n,0⟩)
theorem names_mem {n:Int}:n∈names rows↔∃ p∈rows.flatten,p.b=0/\p.a=n:=by
 unfold names
 rw [srt_mem,List.mem_map]
 constructor
 ·rintro ⟨p,h,rfl⟩
  obtain ⟨h1,h2⟩:=List.mem_filter.mp h
  exact ⟨p,h1,by simpa using h2,rfl⟩
 ·rintro ⟨p,h1,h2,rfl⟩
  exact ⟨p,List.mem_filter.mpr ⟨h1,by simpa using h2⟩,rfl⟩
theorem hand_at (d:Dr rows) {p:T3} (h:p∈rows.flatten):handOf rows p.a=p.c:=by
 unfold handOf
 cases q:rows.flatten.find? (fun x=>x.a == p.a) with
 | none=>rw [List.find?_eq_none] at q; exact absurd (by simp) (q p h)
 | some x =>
  have h1:x.a=p.a:=by simpa using List.find?_some q
  have h2:=List.mem_of_find?_eq_some q
  show x.c=p.c
  have hw:=d.way p h
  have hw2:=d.way x h2
  by_cases e:x.b=p.b
  ·have:x.s=p.s:=by unfold T3.s; rw [h1,e]
   have e1:=pas_s d h2
   rw [this,pas_s d h] at e1
   rw [e1]
  ·have:(om x).s=p.s:=by unfold T3.s om; rw [h1]; congr 1; dsimp only; lia
   have e1:=pas_s d (om_in d h2)
   rw [this,pas_s d h] at e1
   rw [e1]; rfl
theorem corner_iff (d:Dr rows) {a b:T3}:(a,b)∈cornersOf rows↔Sd rows b/\a=step rows b:=by
 have at':∀ (p:T3),p∈rows.flatten->fst p=true->∀ z,z∈cornersAt p.s (om p).s (cmg rows p.s) (cmg rows (om p).s)->Sd rows z.2/\z.1=step rows z.2:=by
  intro p hp f z hz
  have hm:=om_in d hp
  obtain ⟨c,hc,hcf⟩:=has_prev hm
  obtain ⟨b,hb,hbf⟩:=has_prev hp
  have ec:=(cmg_of d hc).2
  have eb:=(cmg_of d hb).2
  have fm:=fst_om d hp
  rw [f] at fm
  rw [ec,eb] at hz
  have em:mt (om p)=p.s:=by rw [← om_s,om_om]
  unfold cornersAt at hz
  simp only [List.mem_cons,List.not_mem_nil,or_false] at hz
  rcases hz with rfl | rfl | rfl | rfl
  ·refine ⟨⟨c,hcf,.inl rfl⟩,?_⟩
   show rgt b.s=step rows (lft c.s)
   rw [step_l d hc hcf hm,fm]
   simp only [Bool.not_true,Bool.false_eq_true,if_false,em,eb]
  ·refine ⟨⟨p,hp,.inr rfl⟩,?_⟩
   show rgt c.s=step rows (rgt p.s)
   rw [step_r d hp,f]
   simp only [if_true,← om_s,ec]
  ·refine ⟨⟨om p,hm,.inr rfl⟩,?_⟩
   show lft p.s=step rows (rgt (om p).s)
   rw [step_r d hm,fm]
   simp only [Bool.not_true,Bool.false_eq_true,if_false,em]
  ·refine ⟨⟨b,hbf,.inl rfl⟩,?_⟩
   show lft (om p).s=step rows (lft b.s)
   rw [step_l d hb hbf hp,f]
   simp only [if_true,om_s]
 have name:∀ (p:T3),p∈rows.flatten->fst p=true->∀ z,z∈cornersAt p.s (om p).s (cmg rows p.s) (cmg rows (om p).s)->z∈cornersOf rows:=by
  intro p hp f z hz
  unfold cornersOf
  rw [List.mem_flatMap]
  refine ⟨p.a,names_mem.mpr ?_,?_⟩
  ·rcases d.way p hp with e | e
   ·exact ⟨p,hp,e,rfl⟩
   ·exact ⟨om p,om_in d hp,by show 1 - p.b=0; lia,rfl⟩
  ·rw [hand_at d hp]
   unfold fst at f
   rcases d.way p hp with e | e
   ·rw [e] at f
    have hc:p.c=1:=by simpa using f
    rw [if_pos hc]
    have e1:p.s=⟨p.a,0⟩:=by unfold T3.s; rw [e]
    have e2:(om p).s=⟨p.a,1⟩:=by unfold T3.s om; simp [e]
    rw [e1,e2] at hz; exact hz
   ·rw [e] at f
    have hc:¬ p.c=1:=by simpa using f
    rw [if_neg hc]
    have e1:p.s=⟨p.a,1⟩:=by unfold T3.s; rw [e]
    have e2:(om p).s=⟨p.a,0⟩:=by unfold T3.s om; simp [e]
    rw [e1,e2] at hz; exact hz
 constructor
 ·intro h
  unfold cornersOf at h
  obtain ⟨n,hn,h⟩:=List.mem_flatMap.mp h
  obtain ⟨p,hp,hb,rfl⟩:=names_mem.mp hn
  rw [hand_at d hp] at h
  have e1:p.s=⟨p.a,0⟩:=by unfold T3.s; rw [hb]
  have e2:(om p).s=⟨p.a,1⟩:=by unfold T3.s om; simp [hb]
  split at h
  ·rename_i hc
   exact at' p hp (by unfold fst; simp [hb,hc]) (a,b) (by rw [e1,e2]; exact h)
  ·rename_i hc
   refine at' (om p) (om_in d hp) (by rw [fst_om d hp]; unfold fst; simp [hb,hc]) (a,b) ?_
   rw [om_om,e1,e2]; exact h
 ·rintro ⟨⟨p,hp,rfl | rfl⟩,rfl⟩
  ·obtain ⟨q,hpq,hq⟩:=has_next hp
   have eq:=(cmg_of d hpq).2
   rw [step_l d hpq hp hq]
   cases f:fst q with
   | true =>
    refine name q hq f _ ?_
    simp [cornersAt,eq,om_s]
   | false =>
    have hm:=om_in d hq
    refine name (om q) hm (by rw [fst_om d hq,f]; rfl) _ ?_
    simp [cornersAt,eq,om_om,om_s]
  ·rw [step_r d hp]
   cases f:fst p with
   | true =>
    refine name p hp f _ ?_
    simp [cornersAt,om_s]
   | false =>
    refine name (om p) (om_in d hp) (by rw [fst_om d hp,f]; rfl) _ ?_
    simp [cornersAt,om_om,om_s]
end P
end K2
end
section
namespace K2
open PySem (Str)
open Enc (enc)
namespace P
variable {rows:Rows}
theorem find_cmg (d:Dr rows) {p:T3} (h:p∈rows.flatten):aget (comingL (nextL (pairsOf rows))) p.s=some (cmg rows p.s):=by
 rw [comingL_eq d]
 obtain ⟨q,hq,_⟩:=has_prev h
 rw [(cmg_of d hq).1,(cmg_of d hq).2]
theorem cornersAt_len (a b c e:T2):(cornersAt a b c e).length=4:=rfl
theorem corners_len (rows:Rows):(cornersOf rows).length=4 * (names rows).length:=by
 unfold cornersOf
 generalize names rows=ns
 induction ns with
 | nil=>rfl
 | cons n ns ih =>
  rw [List.flatMap_cons,List.length_append,ih,List.length_cons]
  split <;> rw [cornersAt_len] <;> lia
theorem names_len (rows:Rows):(names rows).length<=rows.flatten.length:=by
 unfold names; rw [srt_len,List.length_map]; exact List.length_filter_le _ _
noncomputable def cornersN (rows:Rows) (ns:List Int):List (T3×T3):=ns.flatMap fun n =>
 if handOf rows n=1 then cornersAt ⟨n,0⟩ ⟨n,1⟩ (cmg rows ⟨n,0⟩) (cmg rows ⟨n,1⟩) else cornersAt ⟨n,1⟩ ⟨n,0⟩ (cmg rows ⟨n,1⟩) (cmg rows ⟨n,0⟩)
theorem cornersN_len (rows:Rows) (ns:List Int):(cornersN rows ns).length=4 * ns.length:=by
 unfold cornersN
 induction ns with
 | nil=>rfl
 | cons n ns ih =>
  rw [List.flatMap_cons,List.length_append,ih,List.length_cons]
  split <;> rw [cornersAt_len] <;> lia
noncomputable def sp_corners_of:Sp2:=spF1 Dr cornersOf
noncomputable def rd_corners_of:TS2 :=
 (dSeq (dAsg (dCall sp_coming_of (dCons (dVar 0) dNil)) (gName 1))
 (dSeq (dAsg (dLst dNil) (gName 2))
 (dSeq (dFor (iSeq (dCall sp_names_of (dCons (dVar 0) dNil))) (gName 3) (dIfS (dTru (dBin (rEq false) (dCall sp_hand_of (dCons (dVar 0) (dCons (dVar 3) dNil))) (dC (.int 1)))) (dExpr (dMt tyL mExtend (dVar 2) (dCons (dCall sp_corners_at (dCons (dVar 1) (dCons (dTup (dCons (dVar 3) (dCons (dC (.int 0)) dNil))) (dCons (dTup (dCons (dVar 3) (dCons (dC (.int 1)) dNil))) dNil)))) dNil))) (dExpr (dMt tyL mExtend (dVar 2) (dCons (dCall sp_corners_at (dCons (dVar 1) (dCons (dTup (dCons (dVar 3) (dCons (dC (.int 1)) dNil))) (dCons (dTup (dCons (dVar 3) (dCons (dC (.int 0)) dNil))) dNil)))) dNil)))))
 (dRet (dFz (dVar 2))))))
theorem enc_sp (n w:Int):(D.tup [.int n,.int w])=enc (⟨n,w⟩:T2):=rfl
theorem OK_corners_of (ds:List D) (G:Gp) (Q:DK) (h:sp_corners_of ds G Q fun _ _=>False):rd_corners_of (fun _ _=>False) (ends Q) (start2 4 ds) G:=by
 obtain ⟨rows,rfl,dr,q⟩:=h
 have few:=dr.few
 have hnl:=names_len rows
 unfold rd_corners_of
 simp only [ends,start2,List.map_cons,List.map_nil,List.length_cons,List.length_nil,List.replicate,List.cons_append,List.nil_append,seq_asg,dAsg,dCall,dCons,dVar,List.getElem?_cons_zero,dNil,gName,List.set_cons_succ,List.set_cons_zero,dLst]
 refine ⟨rows,rfl,(show rows.flatten.length<=500 by lia),⟨by decide,fun p hp=>?_⟩⟩
 refine seq_by (fun τ G'=>(∃ a b,τ=[some (enc rows),a,some (.ref p),b])/\GLe G G'/\G' p=some (.lst ((cornersOf rows).map enc))) ?_ ?_
 ·intro N hN
  simp only [dFor,iSeq_at,dCall,dCons,dVar,List.getElem?_cons_zero,dNil]
  refine ⟨rows,rfl,(show rows.flatten.length < 64 by lia),iAt_enc ?_⟩
  refine for_enc (xs:=names rows) (fun pre τ G'=>(∃ b,τ=[some (enc rows),some (.rod (encKV (comingL (nextL (pairsOf rows))))),some (.ref p),b])/\GLe G G'/\G' p=some (.lst ((cornersN rows pre).map enc))) ⟨⟨_,rfl⟩,.new hp,updG_same⟩ (fun _ _ _ _=>trivial) ?_ ?_
  ·rintro pre n post τ G' N2 e ⟨⟨b,rfl⟩,l,gp⟩ hN2
   have hpre:pre.length < (names rows).length:=by rw [e]; simp
   obtain ⟨z,hz,hzb,rfl⟩:=names_mem.mp (show n∈names rows by rw [e]; simp)
   have e0:z.s=⟨z.a,0⟩:=by unfold T3.s; rw [hzb]
   have e1:(om z).s=⟨z.a,1⟩:=by unfold T3.s om; simp [hzb]
   have c0:=find_cmg dr hz
   have c1:=find_cmg dr (om_in dr hz)
   rw [e0] at c0
   rw [e1] at c1
   have hcl:=cornersN_len rows pre
   simp only [gName,dIfS,List.set_cons_succ,List.set_cons_zero,dExpr,dMt,dVar,List.getElem?_cons_succ,List.getElem?_cons_zero,tyL_ref,dCons,dCall,dTup,dC,dNil,List.length_cons,List.length_nil,mExtend_ref,dTru_at,dBin]
   refine ⟨rows,z.a,rfl,⟨by lia,z,hz,rfl⟩,?_⟩
   refine ⟨_,_,.int _,.int _,?_⟩
   simp only [Bool.false_eq_true,eqD_ii,if_false,truAt_bl]
   by_cases hh:handOf rows z.a=1
   ·simp only [hh,beq_self_eq_true,if_true,enc_Int]
    simp only [gp,true_and]
    refine ⟨by decide,by decide,_,⟨z.a,0⟩,⟨z.a,1⟩,_,_,rfl,c0,c1,?_⟩
    simp only [gp,lstOf_of (IsL.enc _)]
    refine ⟨szl (by simp only [List.length_map,cornersAt_len]; lia),hN2 _ _ ⟨⟨_,rfl⟩,l.put hp,?_⟩⟩
    rw [updG_same,← List.map_append]
    simp [cornersN,hh]
   ·have hh':(handOf rows z.a == 1)=false:=by simpa using hh
    simp only [hh',Bool.false_eq_true,if_false,enc_Int]
    simp only [gp,true_and]
    refine ⟨by decide,by decide,_,⟨z.a,1⟩,⟨z.a,0⟩,_,_,rfl,c1,c0,?_⟩
    simp only [gp,lstOf_of (IsL.enc _)]
    refine ⟨szl (by simp only [List.length_map,cornersAt_len]; lia),hN2 _ _ ⟨⟨_,rfl⟩,l.put hp,?_⟩⟩
    rw [updG_same,← List.map_append]
    simp [cornersN,hh]
  ·rintro τ G' ⟨⟨b,rfl⟩,l,gp⟩
   exact hN _ _ ⟨⟨_,_,rfl⟩,l,gp⟩
 ·rintro _ G' ⟨⟨a,b,rfl⟩,l,gp⟩
  simp only [dRet,dFz,dVar,List.getElem?_cons_succ,List.getElem?_cons_zero]
  exact fz_enc l hp gp q
theorem spotsL_mem (d:Dr rows) {s:T2} (h:s∈spotsL rows 0):s.b=2\/∃ p∈rows.flatten,p.s=s:=by
 have:∀ (rs:Rows) (k:Nat),s∈spotsL rs k->s.b=2\/∃ p∈rs.flatten,p.s=s:=by
  intro rs
  induction rs with
  | nil=>intro k h; cases h
  | cons r rs ih =>
   intro k h
   rw [spotsL,List.mem_append] at h
   rcases h with h | h
   ·unfold spotsOn at h
    split at h
    ·exact .inl (by rw [List.mem_singleton.mp h])
    ·obtain ⟨p,hp,rfl⟩:=List.mem_map.mp h
     exact .inr ⟨p,by rw [List.flatten_cons]; exact List.mem_append_left _ hp,rfl⟩
   ·rcases ih (k+1) h with h | ⟨p,hp,h⟩
    ·exact .inl h
    ·exact .inr ⟨p,by rw [List.flatten_cons]; exact List.mem_append_right _ hp,h⟩
 exact this rows 0 h
theorem spotsL_has {p:T3} (h:p∈rows.flatten):p.s∈spotsL rows 0:=by
 have:∀ (rs:Rows) (k:Nat),p∈rs.flatten->p.s∈spotsL rs k:=by
  intro rs
  induction rs with
  | nil=>intro k h; cases h
  | cons r rs ih =>
   intro k h
   rw [spotsL,List.mem_append]
   rw [List.flatten_cons,List.mem_append] at h
   rcases h with h | h
   ·left
    unfold spotsOn
    rw [if_neg (by rintro rfl; cases h)]
    exact List.mem_map_of_mem h
   ·exact .inr (ih _ h)
 exact this rows 0 h
theorem spotsL_len (rows:Rows):(spotsL rows 0).length<=rows.flatten.length+rows.length:=by
 have:∀ (rs:Rows) (k:Nat),(spotsL rs k).length<=rs.flatten.length+rs.length:=by
  intro rs
  induction rs with
  | nil=>intro k; simp [spotsL]
  | cons r rs ih =>
   intro k
   have:=ih (k+1)
   rw [spotsL,List.length_append,List.flatten_cons,List.length_append,List.length_cons]
   have:(spotsOn r (k:Int)).length<=r.length+1:=by
    unfold spotsOn; split <;> simp
   lia
 exact this rows 0
theorem spotsL_nd (d:Dr rows):(spotsL rows 0).Nodup:=by
 have:∀ (rs:Rows) (k:Nat),(rs.flatten.map T3.s).Nodup->(∀ p∈rs.flatten,p.s.b≠2)->(spotsL rs k).Nodup/\∀ s∈spotsL rs k,(s.b=2/\(k:Int)<=s.a)\/(s.b≠2/\s∈rs.flatten.map T3.s):=by
  intro rs
  induction rs with
  | nil=>intro k _ _; exact ⟨List.nodup_nil,fun s h=>by cases h⟩
  | cons r rs ih =>
   intro k hn hb
   rw [List.flatten_cons,List.map_append,List.nodup_append] at hn
   obtain ⟨n1,n2,n3⟩:=hn
   obtain ⟨i1,i2⟩:=ih (k+1) n2 fun p hp=>hb p (by rw [List.flatten_cons]; exact List.mem_append_right _ hp)
   have on:(spotsOn r (k:Int)).Nodup/\∀ s∈spotsOn r (k:Int),(s=⟨(k:Int),2⟩)\/(s.b≠2/\s∈r.map T3.s):=by
    unfold spotsOn
    split
    ·exact ⟨by simp,fun s h=>.inl (List.mem_singleton.mp h)⟩
    ·refine ⟨n1,fun s h=>.inr ⟨?_,h⟩⟩
     obtain ⟨p,hp,rfl⟩:=List.mem_map.mp h
     exact hb p (by rw [List.flatten_cons]; exact List.mem_append_left _ hp)
   rw [spotsL]
   refine ⟨?_,?_⟩
   ·rw [List.nodup_append]
    refine ⟨on.1,i1,fun a ha b hb' e=>?_⟩
    subst e
    rcases on.2 a ha with rfl | ⟨h1,h2⟩ <;> rcases i2 _ hb' with ⟨h3,h4⟩ | ⟨h3,h4⟩
    ·dsimp only at h4; lia
    ·exact h3 rfl
    ·exact h1 h3
    ·exact n3 _ h2 _ h4 rfl
   ·intro s hs
    rcases List.mem_append.mp hs with h | h
    ·rcases on.2 s h with rfl | ⟨h1,h2⟩
     ·exact .inl ⟨rfl,Int.le_refl _⟩
     ·exact .inr ⟨h1,by rw [List.flatten_cons,List.map_append]; exact List.mem_append_left _ h2⟩
    ·rcases i2 s h with ⟨h1,h2⟩ | ⟨h1,h2⟩
     ·exact .inl ⟨h1,by lia⟩
     ·exact .inr ⟨h1,by rw [List.flatten_cons,List.map_append]; exact List.mem_append_right _ h2⟩
 exact (this rows 0 d.nd fun p hp=>no2 d hp).1
theorem sidesL_len (ss:List T2):(sidesL ss).length=2 * ss.length:=by
 unfold sidesL
 induction ss with
 | nil=>rfl
 | cons s ss ih=>rw [List.flatMap_cons,List.length_append,ih]; show 2+_=2 * (ss.length+1); lia
theorem sidesL_mem {ss:List T2} {x:T3}:x∈sidesL ss↔∃ s∈ss,x=lft s\/x=rgt s:=by
 unfold sidesL
 rw [List.mem_flatMap]
 simp
theorem sidesL_nd {ss:List T2} (h:ss.Nodup):(sidesL ss).Nodup:=by
 induction ss with
 | nil=>exact List.nodup_nil
 | cons s ss ih =>
  rw [List.nodup_cons] at h
  have:sidesL (s :: ss)=lft s :: rgt s :: sidesL ss:=rfl
  rw [this,List.nodup_cons,List.nodup_cons]
  have inj1:∀ x y:T2,lft x=lft y->x=y:=by rintro ⟨a,b⟩ ⟨c,e⟩ z; simpa [lft] using z
  have inj2:∀ x y:T2,rgt x=rgt y->x=y:=by rintro ⟨a,b⟩ ⟨c,e⟩ z; simpa [rgt] using z
  have inj3:∀ x y:T2,lft x≠rgt y:=by rintro ⟨a,b⟩ ⟨c,e⟩ z; simp [lft,rgt] at z
  refine ⟨fun z=>?_,fun z=>?_,ih h.2⟩
  ·rcases List.mem_cons.mp z with z | z
   ·exact inj3 _ _ z
   ·obtain ⟨t,ht,z | z⟩:=sidesL_mem.mp z
    ·exact h.1 (by rw [inj1 _ _ z]; exact ht)
    ·exact inj3 _ _ z
  ·obtain ⟨t,ht,z | z⟩:=sidesL_mem.mp z
   ·exact inj3 _ _ z.symm
   ·exact h.1 (by rw [inj2 _ _ z]; exact ht)
noncomputable def sides (rows:Rows):List T3:=sidesL (spots rows)
theorem spots_len (d:Dr rows):(spotsL rows 0).length<=27:=by
 have:=spotsL_len rows
 have:=d.few
 have:=d.str
 lia
theorem sides_len (d:Dr rows):(sides rows).length < 64:=by
 unfold sides spots
 rw [sidesL_len,srt_len]
 have:=spots_len d
 lia
theorem sides_nd (d:Dr rows):(sides rows).Nodup:=sidesL_nd (srt_nodup (spotsL_nd d))
theorem sides_mem (d:Dr rows) {x:T3} (h:x∈sides rows):x.b=2\/Sd rows x:=by
 obtain ⟨s,hs,h⟩:=sidesL_mem.mp h
 rcases spotsL_mem d (srt_mem.mp hs) with h2 | ⟨p,hp,rfl⟩
 ·left
  rcases h with rfl | rfl
  ·rw [lft_b]; exact h2
  ·rw [rgt_b]; exact h2
 ·exact .inr ⟨p,hp,h⟩
theorem sd_sides {x:T3} (h:Sd rows x):x∈sides rows:=by
 obtain ⟨p,hp,h⟩:=h
 exact sidesL_mem.mpr ⟨p.s,srt_mem.mpr (spotsL_has hp),h⟩
theorem step_2 {x:T3} (h:x.b=2):step rows x=x:=by unfold step; rw [if_pos h]
theorem step_sides (d:Dr rows) {x:T3} (h:x∈sides rows):step rows x∈sides rows/\back rows (step rows x)=x:=by
 rcases sides_mem d h with h2 | h2
 ·rw [step_2 h2]; refine ⟨h,?_⟩; unfold back; rw [if_pos h2]
 ·exact ⟨sd_sides (step_sd d h2).1,(step_sd d h2).2⟩
open Classical in
noncomputable def grp (rows:Rows) (m:T3):List T3:=(sides rows).filter fun x=>decide (Cn (cornersOf rows) m x)
noncomputable def reg (rows:Rows):List (List T3):=told (sides rows) (grp rows)
theorem corner_sides (d:Dr rows):∀ p∈cornersOf rows,p.1∈sides rows/\p.2∈sides rows:=by
 rintro ⟨a,b⟩ h
 obtain ⟨h1,h2⟩:=(corner_iff d).mp h
 have:=sd_sides h1
 exact ⟨by dsimp only; rw [h2]; exact (step_sides d this).1,this⟩
theorem grp_mem (d:Dr rows) {m x:T3} (hm:m∈sides rows):x∈grp rows m↔Cn (cornersOf rows) m x:=by
 unfold grp
 rw [List.mem_filter]
 constructor
 ·rintro ⟨_,h⟩; simpa using h
 ·intro h; exact ⟨(Cn.in' (corner_sides d) h).mp hm,by simpa using h⟩
theorem grp_nd (d:Dr rows) (m:T3):(grp rows m).Nodup:=(sides_nd d).filter _
theorem told_congr {α:Type} [DecidableEq α] [Enc α] [EncOrd α] {ms ms':List α} {g g':α->List α} (hp:ms.Perm ms') (h:∀ m∈ms,(g m).Perm (g' m)):told ms g=told ms' g':=by
 have e:told ms g=told ms g':=by
  unfold told
  have e1:(ms.filter fun m=>(g m).all fun y=>leO m y)=ms.filter fun m=>(g' m).all fun y=>leO m y:=by
   refine List.filter_congr fun m hm=>?_
   rw [Bool.eq_iff_iff,List.all_eq_true,List.all_eq_true]
   exact ⟨fun z y hy=>z y ((h m hm).mem_iff.mpr hy),fun z y hy=>z y ((h m hm).mem_iff.mp hy)⟩
  rw [e1]
  congr 1
  refine List.map_congr_left fun m hm=>?_
  exact srt_eq (h m (List.mem_filter.mp hm).1)
 rw [e]
 unfold told
 exact srt_eq ((hp.filter _).map _)
theorem reg_of (d:Dr rows) {ms:List T3} {gr:T3->List T3} (hp:ms.Perm (sides rows)) (h:∀ m∈ms,(gr m).Nodup/\∀ x,x∈gr m↔Cn (cornersOf rows) m x):told ms gr=reg rows :=
 told_congr hp fun m hm=>by
  rw [List.perm_ext_iff_of_nodup (h m hm).1 (grp_nd d m)]
  intro x
  rw [(h m hm).2,grp_mem d (hp.mem_iff.mp hm)]
noncomputable def sp_regions:Sp2:=spF1 Dr reg
noncomputable def rd_regions:TS2 :=
 (dRet (dFz (dCall sp_grouped (dCons (dCall sp_sides_of (dCons (dVar 0) dNil)) (dCons (dCall sp_corners_of (dCons (dVar 0) dNil)) dNil)))))
theorem dr_rows (d:Dr rows):∀ r∈rows,r.length<=1000:=fun r hr=>by
 have:=d.few
 have h2:r.length<=rows.flatten.length:=by
  clear this d
  induction rows with
  | nil=>cases hr
  | cons a rs ih =>
   rw [List.flatten_cons,List.length_append]
   rcases List.mem_cons.mp hr with rfl | h
   ·lia
   ·have:=ih h; lia
 lia
theorem OK_regions (ds:List D) (G:Gp) (Q:DK) (h:sp_regions ds G Q fun _ _=>False):rd_regions (fun _ _=>False) (ends Q) (start2 1 ds) G:=by
 obtain ⟨rows,rfl,dr,q⟩:=h
 unfold rd_regions
 have h27:=spots_len dr
 simp only [dRet,dFz,dCall,dCons,dVar,start2,List.map_cons,List.map_nil,List.length_cons,List.length_nil,List.cons_append,List.nil_append,List.getElem?_cons_zero,dNil,ends]
 refine ⟨rows,rfl,⟨by lia,dr_rows dr⟩,rows,rfl,dr,.inl ⟨sides rows,cornersOf rows,rfl,⟨sides_nd dr,sides_len dr,?_,corner_sides dr⟩,⟨by decide,by decide,by decide⟩,fun gr hgr=>?_⟩⟩
 ·rw [corners_len]; have:=names_len rows; have:=dr.few; lia
 ·rw [reg_of dr (.refl _) hgr]; exact fz_id q
end P
end K2
end
section
namespace K2
open PySem (Str)
open Enc (enc)
namespace K12
open K2.P
noncomputable def rd_law_cell:TS2 :=
 (dSeq (dIfS (dTru (dBin rLt (dVar 1) (dCB cLen (dCons (dVar 0) dNil)))) (dRet (dFz (dBin rIx (dVar 0) (dVar 1)))) dNext)
 (dRet (dFz (dC (.int 0)))))
noncomputable def cellI (ns:List Int) (k:Int):Int:=ns.getD k.toNat 0
noncomputable def sp_law_cell:Sp2:=fun ds G Q _=>∃ (ns:List Int) (k:Int),ds=[.rol (ns.map D.int),.int k]/\0<=k/\Q (.int (cellI ns k)) G
theorem OK_law_cell (ds:List D) (G:Gp) (Q:DK) (h:sp_law_cell ds G Q fun _ _=>False):rd_law_cell (fun _ _=>False) (ends Q) (start2 2 ds) G:=by
 obtain ⟨ns,k,rfl,h0,q⟩:=h
 unfold rd_law_cell
 simp only [dSeq,dIfS,start2,List.map_cons,List.map_nil,List.length_cons,List.length_nil,List.cons_append,List.nil_append,dRet,dFz,dBin,dVar,List.getElem?_cons_zero,List.getElem?_cons_succ,ends,rIx_rolM,dNext,dC,dTru_at,dCB,dCons,dNil,cLen_rol,rLt_int,truAt_bl]
 split
 ·rename_i h
  have h1:k < (ns.map D.int).length:=by simpa using h
  rw [atI_nat _ h0 h1]
  simp only [List.getElem_map]
  rw [List.length_map] at h1
  have e:cellI ns k=ns[k.toNat]:=by unfold cellI; rw [List.getD_eq_getElem?_getD,List.getElem?_eq_getElem (by lia)]; rfl
  rw [← e]; exact fz_id q
 ·rename_i h
  have h1:¬ k < (ns.map D.int).length:=by simpa using h
  rw [List.length_map] at h1
  have e:cellI ns k=0:=by unfold cellI; rw [List.getD_eq_getElem?_getD,List.getElem?_eq_none (by lia)]; rfl
  rw [← e]; exact fz_id q
structure HR (G G':Gp) (p0:Nat) (as:List Nat) (rs:Rows):Prop where
 le:GLe G G'
 fp:G p0=none
 gp:G' p0=some (.lst (as.map D.ref))
 np:p0∉as
 nd:as.Nodup
 fr:∀ a∈as,G a=none
 len:as.length=rs.length
 at':∀ (i a:Nat) (r:List T3),as[i]?=some a->rs[i]?=some r->G' a=some (.lst (r.map enc))
theorem HR.put {G G':Gp} {p0:Nat} {as:List Nat} {rs:Rows} (h:HR G G' p0 as rs) {j a:Nat} {r':List T3} (ha:as[j]?=some a):HR G (updG G' a (.lst (r'.map enc))) p0 as (rs.set j r'):=by
 have hm:a∈as:=List.mem_of_getElem? ha
 have hj:j < as.length:=(List.getElem?_eq_some_iff.mp ha).1
 refine ⟨h.le.put (h.fr a hm),h.fp,?_,h.np,h.nd,h.fr,by rw [List.length_set]; exact h.len,fun i b r hb hr=>?_⟩
 ·rw [updG_ne (by rintro rfl; exact h.np hm)]; exact h.gp
 ·by_cases e:i=j
  ·subst e
   rw [ha] at hb; cases hb
   rw [List.getElem?_set_self (by have:=h.len; lia)] at hr
   cases hr
   exact updG_same
  ·have:b≠a:=by
    rintro rfl
    have h1:=List.getElem?_eq_some_iff.mp hb
    have h2:=List.getElem?_eq_some_iff.mp ha
    have pw:=List.pairwise_iff_getElem.mp h.nd
    rcases Nat.lt_trichotomy i j with lt | eq | gt
    ·exact pw i j h1.1 h2.1 lt (h1.2.trans h2.2.symm)
    ·exact e eq
    ·exact pw j i h2.1 h1.1 gt (h2.2.trans h1.2.symm)
   rw [updG_ne this]
   rw [List.getElem?_set_ne (fun z=>e z.symm)] at hr
   exact h.at' i b r hb hr
theorem HR.fz {G G':Gp} {p0:Nat} {as:List Nat} {rs:Rows} (h:HR G G' p0 as rs) {Q:DK} (q:Q (enc rs) G):FzK G' (.ref p0) Q:=by
 refine fz_rol h.le h.fp h.gp (ss:=rs.map enc) ?_ q
 have:∀ (as:List Nat) (rs:Rows),as.length=rs.length->(∀ a∈as,G a=none)->(∀ (i a:Nat) (r:List T3),as[i]?=some a->rs[i]?=some r->G' a=some (.lst (r.map enc)))->Fzs G' (fun a=>(G a).isNone) (as.map D.ref) (rs.map enc):=by
  intro as
  induction as with
  | nil=>intro rs hl _ _; cases rs with
   | nil=>exact .nil
   | cons _ _=>cases hl
  | cons a as ih =>
   intro rs hl hf hat
   cases rs with
   | nil=>cases hl
   | cons r rs =>
    refine .cons (.ref (hat 0 a r rfl rfl) (by simp [hf a (by simp)]) (Fzs.same _)) ?_
    exact ih rs (by simpa using hl) (fun b hb=>hf b (List.mem_cons_of_mem _ hb)) fun i b s h1 h2=>hat (i+1) b s h1 h2
 exact this as rs h.len h.fr h.at'
theorem set_flat {x:T3} {r r':List T3} (hr:r'.Perm (x :: r)):∀ (rs:Rows) (j:Nat),rs[j]?=some r->(rs.set j r').flatten.Perm (x :: rs.flatten)
 | [],j,h=>by cases h
 | s :: rs,0,h=>by
  cases h
  rw [List.set_cons_zero,List.flatten_cons,List.flatten_cons]
  exact hr.append_right _
 | s :: rs,j+1,h=>by
  rw [List.set_cons_succ,List.flatten_cons,List.flatten_cons]
  exact ((set_flat hr rs j h).append_left s).trans List.perm_middle
structure MI (st:Int) (n:Nat) (name:Int) (L:List T3):Prop where
 off:∃ off:Int,0<=off/\off<=83 * n/\name=(st+off) % 999/\∀ p∈L,∃ o:Int,0 < o/\o<=off/\p.a=(st+o) % 999+1
 nd:(L.map T3.s).Nodup
 way:∀ p∈L,p.b=0\/p.b=1
 hand:∀ p∈L,p.c=1\/p.c=-1
 mate:∀ p∈L,(⟨p.a,1 - p.b,p.c⟩:T3)∈L
 len:L.length=2 * n
theorem len_flat {r:List T3}:∀ {rs:Rows},r∈rs->r.length<=rs.flatten.length
 | a :: rs,h=>by
  rw [List.flatten_cons,List.length_append]
  rcases List.mem_cons.mp h with rfl | h
  ·lia
  ·have:=len_flat h; lia
theorem take_ins (x:T3) (r:List T3) (i:Nat):(r.take i++x :: r.drop i).Perm (x :: r):=by
 refine List.perm_middle.trans (.cons _ ?_)
 rw [List.take_append_drop]
end K12
end K2
end
section
namespace K2
open PySem (Str)
open Enc (enc)
namespace K12
open K2.P
variable {rows:Rows}
theorem sidesL_app (a b:List T2):sidesL (a++b)=sidesL a++sidesL b:=by unfold sidesL; rw [List.flatMap_append]
end K12
end K2
end
section
namespace K2
open PySem (Str)
open Enc (enc)
namespace K12
open K2.P
variable {rows:Rows}
noncomputable def z3:T3:=⟨0,0,0⟩
noncomputable def prv (r:List T3) (k:Nat):T3:=if k=0 then r.getD (r.length - 1) z3 else r.getD (k - 1) z3
noncomputable def pr1 (r:List T3) (ks:List Nat):List (T3×T3):=ks.map fun k=>(prv r k,r.getD k z3)
noncomputable def prs (rows:Rows):List (T3×T3):=rows.flatMap fun r=>pr1 r (List.range r.length)
theorem pr1_perm (r:List T3):(pr1 r (List.range r.length)).Perm (r.zip (turned1 r)):=by
 cases r with
 | nil=>exact .refl _
 | cons x t =>
  have hne:(x :: t)≠[]:=by simp
  have e1:pr1 (x :: t) (List.range (x :: t).length)=((x :: t).getLast hne,x) :: (x :: t).dropLast.zip t:=by
   refine List.ext_getElem ?_ ?_
   ·simp [pr1]
   ·intro i h1 h2
    have eg:(pr1 (x :: t) (List.range (x :: t).length))[i]=(prv (x :: t) i,(x :: t).getD i z3):=by simp [pr1]
    rw [eg]
    have hi:i < (x :: t).length:=by simpa [pr1] using h1
    cases i with
    | zero =>
     simp only [List.getElem_cons_zero,Prod.mk.injEq]
     refine ⟨?_,rfl⟩
     unfold prv
     rw [if_pos rfl,List.getD_eq_getElem?_getD,List.getElem?_eq_getElem (by simp),List.getLast_eq_getElem]
     rfl
    | succ i =>
     rw [List.getElem_cons_succ,List.getElem_zip]
     refine Prod.ext ?_ ?_
     ·show prv (x :: t) (i+1)=_
      unfold prv
      rw [if_neg (by lia),List.getD_eq_getElem?_getD,List.getElem?_eq_getElem (by lia),List.getElem_dropLast]
      rfl
     ·show (x :: t).getD (i+1) z3=t[i]'(by simpa using hi)
      rw [List.getD_eq_getElem?_getD,List.getElem?_cons_succ,List.getElem?_eq_getElem (by simpa using hi)]
      rfl
  have e2:(x :: t).zip (turned1 (x :: t))=(x :: t).dropLast.zip t++[((x :: t).getLast hne,x)]:=by
   have:turned1 (x :: t)=t++[x]:=rfl
   rw [this]
   conv=>lhs; arg 1; rw [← List.dropLast_concat_getLast hne]
   rw [List.zip_append (by simp)]
   rfl
  rw [e1,e2]
  exact List.perm_append_comm (l₁:=[((x :: t).getLast hne,x)])
theorem prs_perm (rows:Rows):(prs rows).Perm (pairsOf rows):=by
 unfold prs pairsOf
 induction rows with
 | nil=>exact .refl _
 | cons r rs ih =>
  rw [List.flatMap_cons,List.flatMap_cons]
  exact (pr1_perm r).append ih
theorem atI_at {r:List T3} {k:Nat} (h:k < r.length):atI (r.map (enc:T3->D)) (0+(k:Int))=some (enc (r.getD k z3)):=by
 rw [atI_nat _ (by lia) (by rw [List.length_map]; lia),List.getElem_map]
 congr 2
 rw [List.getD_eq_getElem?_getD,List.getElem?_eq_getElem h]
 show r[(0+(k:Int)).toNat]=r[k]
 congr 1; lia
theorem atI_prv {r:List T3} {k:Nat} (h:k < r.length):atI (r.map (enc:T3->D)) (0+(k:Int) - 1)=some (enc (prv r k)):=by
 unfold prv
 by_cases hk:k=0
 ·subst hk
  rw [if_pos rfl]
  unfold atI ixN
  rw [List.length_map,if_neg (by lia),if_pos (by lia)]
  show (r.map enc)[_]?=_
  have:(0+((0:Nat):Int) - 1+(r.length:Int)).toNat=r.length - 1:=by lia
  rw [this,List.getElem?_map,List.getD_eq_getElem?_getD,List.getElem?_eq_getElem (by lia)]
  rfl
 ·rw [if_neg hk]
  have:=atI_at (r:=r) (k:=k - 1) (by lia)
  have e:(0+((k - 1:Nat):Int))=0+(k:Int) - 1:=by lia
  rw [e] at this; exact this
noncomputable def comesD (ps:List (T3×T3)):List (T2×T2):=ps.foldl (fun l p=>aput l p.2.s p.1.s) []
theorem fold_len {κ β γ:Type} [DecidableEq κ] (kf:γ->κ) (vf:γ->β) (ps:List γ):(ps.foldl (fun (l:List (κ×β)) p=>aput l (kf p) (vf p)) []).length<=ps.length:=by
 have:∀ (ps:List γ) (l:List (κ×β)),(ps.foldl (fun l p=>aput l (kf p) (vf p)) l).length<=l.length+ps.length:=by
  intro ps
  induction ps with
  | nil=>intro l; simp
  | cons p ps ih =>
   intro l
   rw [List.foldl_cons,List.length_cons]
   have h1:=ih (aput l (kf p) (vf p))
   have h2:(aput l (kf p) (vf p)).length<=l.length+1:=by
    unfold aput; split <;> simp
   lia
 simpa using this ps []
theorem prs_len (rows:Rows):(prs rows).length<=rows.flatten.length:=by
 rw [(prs_perm rows).length_eq]; exact pairs_len rows
theorem comesD_get (d:Dr rows) {p q:T3} (h:(p,q)∈pairsOf rows):aget (comesD (prs rows)) q.s=some p.s:=by
 have nd:((prs rows).map fun p=>p.2.s).Nodup:=((prs_perm rows).map _).nodup_iff.mpr (snd_nd d)
 unfold comesD
 rw [fold_put (fun p:T3×T3=>p.2.s) (fun p=>p.1.s) _ _ (by simpa using nd),List.nil_append]
 exact aget_of_mem (p:=(q.s,p.s)) (by rw [List.map_map]; exact nd) (List.mem_map.mpr ⟨(p,q),(prs_perm rows).mem_iff.mpr h,rfl⟩)
theorem pr1_len (r:List T3) (ks:List Nat):(pr1 r ks).length=ks.length:=by unfold pr1; rw [List.length_map]
theorem prs_pre {pre:Rows} {r:List T3} {post:Rows} (e:rows=pre++r :: post):(prs pre).length+r.length<=rows.flatten.length:=by
 have:=prs_len pre
 rw [e]; simp only [List.flatten_append,List.flatten_cons,List.length_append]; lia
theorem prs_snoc (pre:Rows) (r:List T3):prs (pre++[r])=prs pre++pr1 r (List.range r.length):=by unfold prs; simp
end K12
end K2
end
section
namespace K2
open PySem (Str)
open Enc (enc)
namespace P
variable {rows:Rows}
noncomputable def strI (rows:Rows) (s:T2):Nat:=(((rows.zipIdx 0).find? fun p=>decide (s∈spotsOn p.1 (p.2:Int))).map (·.2)).getD 0
noncomputable def sp_string_of:Sp2:=fun ds G Q _=>∃ (rows:Rows) (s:T2),ds=[enc rows,enc s]/\((∀ r∈rows,r.length<=1000)/\∃ p∈rows.zipIdx 0,s∈spotsOn p.1 (p.2:Int))/\Q (.int (strI rows s)) G
noncomputable def rd_string_of:TS2 :=
 (dSeq (dFor (iEnum (dVar 0)) (gTup (gCons (gName 2) (gCons (gName 3) gNil))) (dIfS (dTru (dBin (rIn false) (dVar 1) (dCall sp_spots_on (dCons (dVar 3) (dCons (dVar 2) dNil))))) (dRet (dFz (dVar 2))) dNext))
 dNever)
theorem OK_string_of (ds:List D) (G:Gp) (Q:DK) (h:sp_string_of ds G Q fun _ _=>False):rd_string_of (fun _ _=>False) (ends Q) (start2 4 ds) G:=by
 obtain ⟨rows,s,rfl,⟨hr,hs⟩,q⟩:=h
 unfold rd_string_of
 refine seq_by (fun τ G'=>False) ?_ (fun _ _ h=>h.elim)
 intro N hN
 simp only [dFor,iEnum,dVar,start2,List.map_cons,List.map_nil,List.length_cons,List.length_nil,List.replicate,List.cons_append,List.nil_append,List.getElem?_cons_zero,ends]
 refine iEnumAt_enc ?_
 rw [enum_get]
 refine for_enc (xs:=rows.zipIdx 0) (fun pre τ G'=>G=G'/\(∃ a b,τ=[some (enc rows),some (enc s),a,b])/\∀ p∈pre,s∉spotsOn p.1 (p.2:Int)) ⟨rfl,⟨_,_,rfl⟩,fun _ h=>by cases h⟩ (fun _ _ _ _=>trivial) ?_ ?_
 ·rintro pre x post τ G' N2 e ⟨rfl,⟨a,b,rfl⟩,hp⟩ hN2
  obtain ⟨lf,rt,e1,e2,e3⟩:=zipIdx_split e
  simp only [gTup,gCons,gName,gNil,dIfS,List.set_cons_succ,List.set_cons_zero,dRet,dFz,dVar,List.getElem?_cons_succ,List.getElem?_cons_zero,dNext,dTru_at,dBin,dCall,dCons,dNil]
  refine ⟨x.1,(x.2:Int),rfl,hr x.1 (by rw [e1]; simp),?_⟩
  refine rIn_enc (by decide) ?_
  simp only [Bool.false_eq_true,if_false,truAt_bl]
  by_cases hx:s∈spotsOn x.1 (x.2:Int)
  ·simp only [hx,decide_true,Bool.false_eq_true,if_false,if_true]
   have:strI rows s=x.2:=by
    unfold strI
    have:(rows.zipIdx 0).find? (fun p=>decide (s∈spotsOn p.1 (p.2:Int)))=some x:=by
     rw [e,List.find?_append]
     have:pre.find? (fun p=>decide (s∈spotsOn p.1 (p.2:Int)))=none:=by
      rw [List.find?_eq_none]; intro p h; simpa using hp p h
     rw [this]
     simp [hx]
    rw [this]; rfl
   rw [← this]
   exact fz_id q
  ·simp only [hx,decide_false,Bool.false_eq_true,if_false]
   refine hN2 _ _ ⟨rfl,⟨_,_,rfl⟩,fun p h=>?_⟩
   rcases List.mem_append.mp h with h | h
   ·exact hp p h
   ·rw [List.mem_singleton.mp h]; exact hx
 ·rintro τ G' ⟨rfl,_,hp⟩
  obtain ⟨p,h1,h2⟩:=hs
  exact absurd h2 (hp p h1)
noncomputable def crossed (rows:Rows):List (Int×Int):=(names rows).map fun n=>((strI rows ⟨n,0⟩:Int),(strI rows ⟨n,1⟩:Int))
noncomputable def strz (rows:Rows):List Int:=(List.range rows.length).map fun (i:Nat)=>(i:Int)
open Classical in
noncomputable def pgrp (rows:Rows) (m:Int):List Int:=(strz rows).filter fun x=>decide (Cn (crossed rows) m x)
noncomputable def pcs (rows:Rows):List (List Int):=told (strz rows) (pgrp rows)
theorem spot_row {p:T3} (h:p∈rows.flatten):∃ q∈rows.zipIdx 0,p∈q.1/\p.s∈spotsOn q.1 (q.2:Int):=by
 obtain ⟨r,hr,hp⟩:=List.mem_flatten.mp h
 obtain ⟨i,hi⟩:=List.getElem?_of_mem hr
 refine ⟨(r,i),by rw [List.mem_zipIdx_iff_getElem?]; exact hi,hp,?_⟩
 unfold spotsOn
 rw [if_neg (by rintro rfl; cases hp)]
 exact List.mem_map_of_mem hp
theorem strI_of {s:T2} (h:∃ p∈rows.zipIdx 0,s∈spotsOn p.1 (p.2:Int)):∃ p∈rows.zipIdx 0,s∈spotsOn p.1 (p.2:Int)/\strI rows s=p.2:=by
 unfold strI
 cases q:(rows.zipIdx 0).find? fun p=>decide (s∈spotsOn p.1 (p.2:Int)) with
 | none =>
  rw [List.find?_eq_none] at q
  obtain ⟨p,h1,h2⟩:=h
  exact absurd (by simpa using h2) (q p h1)
 | some p=>exact ⟨p,List.mem_of_find?_eq_some q,by simpa using List.find?_some q,rfl⟩
theorem strI_lt {s:T2} (h:∃ p∈rows.zipIdx 0,s∈spotsOn p.1 (p.2:Int)):strI rows s < rows.length:=by
 obtain ⟨p,h1,_,e⟩:=strI_of h
 rw [List.mem_zipIdx_iff_getElem?] at h1
 rw [e]
 exact (List.getElem?_eq_some_iff.mp h1).1
theorem name_spots (d : Dr rows) {n : Int} (h : n ∈ names rows) (w : Int) (hw : w = 0 ∨ w = 1) : ∃ p ∈ rows.zipIdx 0, (⟨n, w⟩ : T2) ∈ spotsOn p.1 (p.2 : Int) := by
  obtain ⟨z, hz, hb, rfl⟩ := names_mem.mp h
  rcases hw with rfl | rfl
  · obtain ⟨q, h1, _, h2⟩ := spot_row hz
    exact ⟨q, h1, by have : z.s = ⟨z.a, 0⟩ := by unfold T3.s; rw [hb]
                     rw [← this]; exact h2⟩
  · obtain ⟨q, h1, _, h2⟩ := spot_row (om_in d hz)
    exact ⟨q, h1, by have : (om z).s = ⟨z.a, 1⟩ := by unfold T3.s om; simp [hb]
                     rw [← this]; exact h2⟩
theorem strs_mem {x:Int}:x∈strz rows↔∃ i:Nat,i < rows.length/\x=(i:Int):=by
 unfold strz
 rw [List.mem_map]
 constructor
 ·rintro ⟨i,hi,rfl⟩; exact ⟨i,List.mem_range.mp hi,rfl⟩
 ·rintro ⟨i,hi,rfl⟩; exact ⟨i,List.mem_range.mpr hi,rfl⟩
theorem strs_nd (rows:Rows):(strz rows).Nodup:=by
 unfold strz List.Nodup
 rw [List.pairwise_map]
 exact List.Pairwise.imp (fun h z=>h (by lia)) List.nodup_range
theorem strs_len (rows:Rows):(strz rows).length=rows.length:=by unfold strz; rw [List.length_map,List.length_range]
theorem crossed_in (d:Dr rows):∀ p∈crossed rows,p.1∈strz rows/\p.2∈strz rows:=by
 intro p hp
 obtain ⟨n,hn,rfl⟩:=List.mem_map.mp hp
 exact ⟨strs_mem.mpr ⟨_,strI_lt (name_spots d hn 0 (.inl rfl)),rfl⟩,strs_mem.mpr ⟨_,strI_lt (name_spots d hn 1 (.inr rfl)),rfl⟩⟩
theorem pgrp_mem (d:Dr rows) {m x:Int} (hm:m∈strz rows):x∈pgrp rows m↔Cn (crossed rows) m x:=by
 unfold pgrp
 rw [List.mem_filter]
 constructor
 ·rintro ⟨_,h⟩; simpa using h
 ·intro h; exact ⟨(Cn.in' (crossed_in d) h).mp hm,by simpa using h⟩
theorem pcs_of (d:Dr rows) {ms:List Int} {gr:Int->List Int} (hp:ms.Perm (strz rows)) (h:∀ m∈ms,(gr m).Nodup/\∀ x,x∈gr m↔Cn (crossed rows) m x):told ms gr=pcs rows :=
 told_congr hp fun m hm=>by
  have nd:(pgrp rows m).Nodup:=(strs_nd rows).filter _
  rw [List.perm_ext_iff_of_nodup (h m hm).1 nd]
  intro x
  rw [(h m hm).2]
  exact (pgrp_mem d (hp.mem_iff.mp hm)).symm
noncomputable def sp_pieces:Sp2:=spF1 Dr pcs
noncomputable def rd_pieces:TS2 :=
 (dSeq (dFzV 1 (dAsg (dComp 1 [0] (iSeq (dCall sp_names_of (dCons (dVar 0) dNil))) (gName 0) none (dTup (dCons (dCall sp_string_of (dCons (dVar 1) (dCons (dTup (dCons (dVar 0) (dCons (dC (.int 0)) dNil))) dNil))) (dCons (dCall sp_string_of (dCons (dVar 1) (dCons (dTup (dCons (dVar 0) (dCons (dC (.int 1)) dNil))) dNil))) dNil)))) (gName 1)))
 (dRet (dFz (dCall sp_grouped (dCons (dFz (dLRange2 (dCB cLen (dCons (dVar 0) dNil)))) (dCons (dFz (dVar 1)) dNil))))))
theorem rangeD_enc (n:Nat):rangeD 0 n=((List.range n).map fun (i:Nat)=>(i:Int)).map enc:=by
 unfold rangeD
 rw [List.map_map]
 refine List.map_congr_left fun i _=>?_
 show D.int (0+(i:Int))=D.int (i:Int)
 rw [Int.zero_add]
theorem dFzV_at' {i:Nat} {t:TS2} {E:XK2} {K:Ends2} {τ:St2} {G:Gp}:dFzV i t E K τ G=t E { K with nx:=fun τ1 G1=>match τ1[i]? with
 | some (some d)=>FzK G1 d fun t G2=>K.nx (τ1.set i (some t)) G2
 | _=>False } τ G:=rfl
theorem OK_pieces (ds:List D) (G:Gp) (Q:DK) (h:sp_pieces ds G Q fun _ _=>False):rd_pieces (fun _ _=>False) (ends Q) (start2 2 ds) G:=by
 obtain ⟨rows,rfl,dr,q⟩:=h
 have few:=dr.few
 have str:=dr.str
 have hnl:=names_len rows
 unfold rd_pieces
 simp only [ends,start2,List.map_cons,List.map_nil,List.length_cons,List.length_nil,List.replicate,List.cons_append,List.nil_append,seq_step,dFzV_at',dAsg,dComp,gName,List.set_cons_succ,List.set_cons_zero,List.getElem?_cons_succ,List.getElem?_cons_zero,dRet,dFz,dCall,dCons,dVar,dNil,iSeq_at]
 refine ⟨rows,rfl,(show rows.flatten.length < 64 by lia),iAt_enc ⟨szl (by rw [List.length_map]; show (names rows).length<=1000; lia),?_⟩⟩
 refine comp_enc (xs:=names rows) (fun pre acc τ G'=>G=G'/\(∃ a,τ=[a,some (enc rows)])/\acc=(pre.map fun n=>((strI rows ⟨n,0⟩:Int),(strI rows ⟨n,1⟩:Int))).map enc) ⟨rfl,⟨_,rfl⟩,rfl⟩ (fun _ _ _ _ _=>trivial) ?_ ?_
 ·rintro pre n post acc τ G' N e ⟨rfl,⟨a,rfl⟩,rfl⟩ hN
  have hn:n∈names rows:=by rw [e]; simp
  simp only [gName,dTup,dCons,dCall,dVar,enc_Int,List.set_cons_zero,List.getElem?_cons_succ,List.getElem?_cons_zero,dC,dNil,List.length_cons,List.length_nil]
  refine ⟨by decide,rows,⟨n,0⟩,rfl,⟨dr_rows dr,name_spots dr hn 0 (.inl rfl)⟩,by decide,rows,⟨n,1⟩,rfl,⟨dr_rows dr,name_spots dr hn 1 (.inr rfl)⟩,by decide,?_⟩
  refine hN _ _ _ ⟨rfl,⟨_,rfl⟩,?_⟩
  rw [List.map_append,List.map_append]; rfl
 ·rintro acc τ G' ⟨rfl,⟨a,rfl⟩,rfl⟩ p hp
  refine fz_enc (xs:=crossed rows) (.new hp) hp updG_same ?_
  simp only [dLRange2,dCB,dCons,dVar,List.getElem?_cons_zero,dNil]
  refine cLen_of (IsL.enc rows) ?_
  rw [List.length_map]
  refine ⟨⟨by lia,by lia⟩,fun p2 hp2=>?_⟩
  rw [Int.toNat_natCast,rangeD_enc]
  refine fz_enc (xs:=strz rows) (.new hp2) hp2 updG_same ?_
  refine fz_id ?_
  refine .inr ⟨strz rows,crossed rows,rfl,⟨strs_nd rows,by rw [strs_len]; lia,by unfold crossed; rw [List.length_map]; lia,crossed_in dr⟩,⟨by decide,by decide,by decide⟩,fun gr hgr=>?_⟩
  rw [pcs_of dr (.refl _) hgr]
  exact fz_id q
end P
end K2
end
section
namespace K2
open PySem (Str)
open Enc (enc)
namespace K3
open K2.P K2.K12
inductive Rl (G:Gp):List D->Rows->Prop
 | nil:Rl G [] []
 | cons {x:D} {r:List T3} {xs:List D} {rs:Rows}:IsL G x (r.map enc)->Rl G xs rs->Rl G (x :: xs) (r :: rs)
noncomputable def IsRw (G:Gp) (d:D) (rows:Rows):Prop:=∃ ds,IsL G d ds/\Rl G ds rows
theorem Rl.enc {G:Gp}:∀ (rows:Rows),Rl G (rows.map Enc.enc) rows
 | []=>.nil
 | r :: rs=>.cons (IsL.enc r) (Rl.enc rs)
theorem IsRw.enc {G:Gp} (rows:Rows):IsRw G (Enc.enc rows) rows:=⟨_,IsL.enc rows,Rl.enc rows⟩
theorem ifs_at {c:TT2} {a b:TS2} {E:XK2} {K:Ends2} {τ:St2} {G:Gp}:dIfS c a b E K τ G=c E τ G fun k G1=>if k=true then a E K τ G1 else b E K τ G1:=rfl
end K3
end K2
end
section
namespace K2
open PySem (Str)
open Enc (enc)
namespace K3
open K2.P K2.K12
noncomputable def fnx (n:Int):Int:=n % 999+1
noncomputable def fit (n:Int):Nat->Int
 | 0=>n
 | k+1=>fnx (fit n k)
theorem fit_eq {n:Int} (h1:1<=n) (h2:n<=999):∀ k:Nat,fit n k=(n - 1+k) % 999+1
 | 0=>by show n=_; lia
 | k+1=>by
  show fnx (fit n k)=_
  rw [fit_eq h1 h2 k]
  unfold fnx
  lia
theorem nodup_sub_len:∀ (xs ys:List Int),xs.Nodup->(∀ x∈xs,x∈ys)->xs.length<=ys.length
 | [],_,_,_=>Nat.zero_le _
 | x :: xs,ys,hn,h=>by
  rw [List.nodup_cons] at hn
  have:=nodup_sub_len xs (ys.erase x) hn.2 fun y hy=>(List.mem_erase_of_ne (show y≠x from fun z=>hn.1 (by rw [← z]; exact hy))).mpr (h y (List.mem_cons_of_mem _ hy))
  have hx:=h x (by simp)
  rw [List.length_erase_of_mem hx] at this
  have:=List.length_pos_of_mem hx
  rw [List.length_cons]; lia
theorem fit_free {n:Int} {ns:List Int} (h1:1<=n) (h2:n<=999) (hl:ns.length<=500):∃ k,k<=ns.length/\fit n k∉ns:=by
 apply Classical.byContradiction
 intro hno
 have hall:∀ k,k<=ns.length->fit n k∈ns:=fun k hk=>Classical.byContradiction fun z=>hno ⟨k,hk,z⟩
 have nd:((List.range (ns.length+1)).map fun k=>fit n k).Nodup:=by
  refine List.pairwise_iff_getElem.mpr fun i j hi hj hij=>?_
  simp only [List.length_map,List.length_range] at hi hj
  rw [List.getElem_map,List.getElem_map,List.getElem_range,List.getElem_range,fit_eq h1 h2,fit_eq h1 h2]
  lia
 have:=nodup_sub_len _ ns nd fun x hx=>by
  obtain ⟨k,hk,rfl⟩:=List.mem_map.mp hx
  exact hall k (by have:=List.mem_range.mp hk; lia)
 simp at this
 lia
noncomputable def ins (r:List T3) (k:Nat) (p:T3):List T3:=r.take k++p :: r.drop k
theorem ins_perm (r:List T3) (k:Nat) (p:T3):(ins r k p).Perm (p :: r):=take_ins p r k
theorem ins_enc (r:List T3) (k:Nat) (p:T3):(r.map enc).take k++enc p :: (r.map enc).drop k=(ins r k p).map (enc:T3->D):=by
 unfold ins; rw [List.map_append,List.map_cons,List.map_take,List.map_drop]
structure DF (L:List T3):Prop where
 nd:(L.map T3.s).Nodup
 way:∀ p∈L,p.b=0\/p.b=1
 hand:∀ p∈L,p.c=1\/p.c=-1
 mate:∀ p∈L,(⟨p.a,1 - p.b,p.c⟩:T3)∈L
theorem DF.perm {L L':List T3} (h:DF L) (p:L'.Perm L):DF L' :=
 ⟨(p.map _).nodup_iff.mpr h.nd,fun x hx=>h.way x (p.mem_iff.mp hx),fun x hx=>h.hand x (p.mem_iff.mp hx),fun x hx=>p.mem_iff.mpr (h.mate x (p.mem_iff.mp hx))⟩
theorem DF.add {L:List T3} (h:DF L) {m hd:Int} (hm:m∉L.map (·.a)) (hh:hd=1\/hd=-1):DF (⟨m,1,hd⟩ :: ⟨m,0,hd⟩ :: L):=by
 have no:∀ w,(⟨m,w⟩:T2)∉L.map T3.s:=fun w z=>by
  obtain ⟨p,hp,e⟩:=List.mem_map.mp z
  exact hm (List.mem_map.mpr ⟨p,hp,by have:=congrArg T2.a e; exact this⟩)
 refine ⟨?_,?_,?_,?_⟩
 ·rw [List.map_cons,List.map_cons,List.nodup_cons,List.nodup_cons]
  refine ⟨fun z=>?_,no 0,h.nd⟩
  rcases List.mem_cons.mp z with e | z
  ·have:=congrArg T2.b e
   exact absurd (show (1:Int)=0 from this) (by decide)
  ·exact no 1 z
 ·intro p hp
  rcases List.mem_cons.mp hp with rfl | hp
  ·exact .inr rfl
  ·rcases List.mem_cons.mp hp with rfl | hp
   ·exact .inl rfl
   ·exact h.way p hp
 ·intro p hp
  rcases List.mem_cons.mp hp with rfl | hp
  ·exact hh
  ·rcases List.mem_cons.mp hp with rfl | hp
   ·exact hh
   ·exact h.hand p hp
 ·intro p hp
  rcases List.mem_cons.mp hp with rfl | hp
  ·exact List.mem_cons_of_mem _ List.mem_cons_self
  ·rcases List.mem_cons.mp hp with rfl | hp
   ·exact List.mem_cons_self
   ·exact List.mem_cons_of_mem _ (List.mem_cons_of_mem _ (h.mate p hp))
theorem HR.at_ {G G':Gp} {p0:Nat} {as:List Nat} {rs:Rows} (h:HR G G' p0 as rs) {j:Int} (j1:0<=j) (j2:j < rs.length):∃ a r,as[j.toNat]?=some a/\rs[j.toNat]?=some r/\G' a=some (.lst (r.map enc))/\atI (as.map D.ref) j=some (.ref a):=by
 have hj:j.toNat < as.length:=by have:=h.len; lia
 refine ⟨as[j.toNat],rs[j.toNat]'(by lia),List.getElem?_eq_getElem hj,List.getElem?_eq_getElem _,h.at' _ _ _ (List.getElem?_eq_getElem hj) (List.getElem?_eq_getElem _),?_⟩
 rw [atI_nat _ j1 (by rw [List.length_map]; have:=h.len; lia),List.getElem_map]
end K3
end K2
end
section
namespace K2
open PySem (Str)
open Enc (enc)
namespace K3
open K2.P K2.K12
noncomputable def spotsP:Rows->Nat->List (T2×Int)
 | [],_=>[]
 | r :: rs,k=>(spotsOn r (k:Int)).map (fun s=>(s,(k:Int)))++spotsP rs (k+1)
theorem spotsP_keys:∀ (rows:Rows) (k:Nat),(spotsP rows k).map (·.1)=spotsL rows k
 | [],k=>rfl
 | r :: rs,k=>by
  rw [spotsP,spotsL,List.map_append,spotsP_keys rs,List.map_map]
  congr 1
  conv=>rhs; rw [← List.map_id (spotsOn r (k:Int))]
  rfl
theorem spotsP_app:∀ (a b:Rows) (k:Nat),spotsP (a++b) k=spotsP a k++spotsP b (k+a.length)
 | [],b,k=>by simp [spotsP]
 | r :: a,b,k=>by rw [List.cons_append,spotsP,spotsP,spotsP_app a b (k+1),List.append_assoc,List.length_cons]; congr 3; lia
theorem eq_int (i j:Int):eqD (.int i) (.int j)=decide (i=j):=Enc.eqv i j
theorem row_at {rows:Rows} {k:Nat} (h:k < rows.length):atI (rows.map (enc:List T3->D)) (0+(k:Int))=some (enc rows[k]):=by
 rw [Int.zero_add,atI_nat _ (by lia) (by rw [List.length_map]; lia),List.getElem_map]; rfl
end K3
end K2
end
section
namespace K2
open PySem (Str)
open Enc (enc)
namespace K3
open K2.P K2.K12
theorem spotsL_zip:∀ (rows:Rows) (k:Nat) (s:T2),s∈spotsL rows k↔∃ p∈rows.zipIdx k,s∈spotsOn p.1 (p.2:Int)
 | [],k,s=>by simp [spotsL]
 | r :: rs,k,s=>by
  rw [spotsL,List.mem_append,spotsL_zip rs,List.zipIdx_cons]
  constructor
  ·rintro (h | ⟨p,h1,h2⟩)
   ·exact ⟨(r,k),List.mem_cons_self,h⟩
   ·exact ⟨p,List.mem_cons_of_mem _ h1,h2⟩
  ·rintro ⟨p,h1,h2⟩
   rcases List.mem_cons.mp h1 with rfl | h1
   ·exact .inl h2
   ·exact .inr ⟨p,h1,h2⟩
theorem aget_none {κ β:Type} [DecidableEq κ] {l:List (κ×β)} {k:κ} (h:k∉l.map (·.1)):aget l k=none:=by
 cases e:aget l k with
 | none=>rfl
 | some v=>exact absurd (List.mem_map.mpr ⟨_,mem_of_aget e,rfl⟩) h
theorem aget_isSome {κ β:Type} [DecidableEq κ] {l:List (κ×β)} {k:κ}:(aget l k).isSome=decide (k∈l.map (·.1)):=by
 by_cases h:k∈l.map (·.1)
 ·simp only [h,decide_true]
  obtain ⟨p,hp,rfl⟩:=List.mem_map.mp h
  unfold aget
  rw [Option.isSome_map,List.find?_isSome]
  exact ⟨p,hp,by simp⟩
 ·rw [aget_none h]; simp [h]
theorem spotsP_ne {rows:Rows} (h:rows≠[]) (k:Nat):spotsP rows k≠[]:=by
 cases rows with
 | nil=>exact absurd rfl h
 | cons r rs =>
  rw [spotsP]
  intro z
  have:=(List.append_eq_nil_iff.mp z).1
  rw [List.map_eq_nil_iff] at this
  unfold spotsOn at this
  split at this
  ·cases this
  ·rename_i h0; exact h0 (List.map_eq_nil_iff.mp this)
end K3
end K2
end
section
namespace K2
open PySem (Str)
open Enc (enc)
namespace K3
open K2.P K2.K12
variable {rows:Rows}
theorem spotsP_mem:∀ (rows:Rows) (k:Nat) {p:List T3×Nat} {s:T2},p∈rows.zipIdx k->s∈spotsOn p.1 (p.2:Int)->(s,(p.2:Int))∈spotsP rows k
 | r :: rs,k,p,s,hp,hs=>by
  rw [List.zipIdx_cons] at hp
  rw [spotsP,List.mem_append]
  rcases List.mem_cons.mp hp with rfl | hp
  ·exact .inl (List.mem_map.mpr ⟨s,hs,rfl⟩)
  ·exact .inr (spotsP_mem rs (k+1) hp hs)
theorem spots_get (dr:Dr rows) {s:T2} (h:s∈spotsL rows 0):aget (spotsP rows 0) s=some (strI rows s:Int):=by
 obtain ⟨p,h1,h2,e⟩:=strI_of ((spotsL_zip rows 0 s).mp h)
 rw [e]
 exact aget_of_mem (p:=(s,(p.2:Int))) (by rw [spotsP_keys]; exact spotsL_nd dr) (spotsP_mem rows 0 h1 h2)
theorem ixRod {κ α:Type} [DecidableEq κ] [Enc κ] [EncKey κ] [DecidableEq α] [Enc α] {l:List (κ×α)} {k:κ} {v:α} {G:Gp} {Q:DK} (hv:aget l k=some v) (q:Q (enc v) G):rIx (.rod (encKV l)) (enc k) G Q:=by
 rw [rIx_rod,look_enc,hv]; exact ⟨kindOk_enc l k,q⟩
theorem sn_rows {G:Gp}:∀ {ds:List D} {rs:Rows},Rl G ds rs->Sn G 8 (.rol ds) (.rol (rs.map enc))
 | _,_,.nil=>.rnil
 | _,_,.cons (r:=r) h t=>by
  refine .rcons ?_ (sn_rows t)
  rcases h with rfl | ⟨a,rfl,e⟩
  ·exact sn_rol G 6 (by decide) r
  ·exact .ref e (sn_rol G 6 (by decide) r)
theorem eq_rows {G:Gp} {d:D} {rs:Rows} {Q:DK} (h:IsRw G d rs) (q:Q (.bl true) G):rEq false (enc rs) d G Q:=by
 obtain ⟨ds,h1,h2⟩:=h
 refine ⟨enc rs,enc rs,Enc.sn _ _ _ (by decide),?_,?_⟩
 ·rcases h1 with rfl | ⟨a,rfl,e⟩
  ·exact sn_rows h2
  ·exact .ref e (sn_rows h2)
 ·rw [Enc.eqv]; simpa using q
theorem dFzV_at {i:Nat} {t:TS2} {E:XK2} {K:Ends2} {τ:St2} {G:Gp}:dFzV i t E K τ G=t E { K with nx:=fun τ1 G1=>match τ1[i]? with
 | some (some d)=>FzK G1 d fun t G2=>K.nx (τ1.set i (some t)) G2
 | _=>False } τ G:=rfl
end K3
end K2
end
section
namespace K2
open PySem (Str)
open Enc (enc)
namespace K29
open K2.P K2.K12
open K2.K3
variable {rows:Rows}
theorem tog {α:Type} [DecidableEq α] [Enc α] [EncOrd α] {ms:List α} {gr:α->List α} {ps:List (α×α)} (hg:∀ m∈ms,∀ x,x∈gr m↔x∈ms/\Cn ps m x) (x y:α):(∃ g∈told ms gr,x∈g/\y∈g)↔x∈ms/\y∈ms/\Cn ps x y:=by
 unfold told
 constructor
 ·rintro ⟨g,h,hx,hy⟩
  obtain ⟨m,hm,rfl⟩:=List.mem_map.mp (srt_mem.mp h)
  have sm:=(List.mem_filter.mp hm).1
  obtain ⟨x1,x2⟩:=(hg m sm x).mp (srt_mem.mp hx)
  obtain ⟨y1,y2⟩:=(hg m sm y).mp (srt_mem.mp hy)
  exact ⟨x1,y1,x2.symm.trans y2⟩
 ·rintro ⟨hx,hy,c⟩
  have h0:x∈gr x:=(hg x hx x).mpr ⟨hx,.refl x⟩
  obtain ⟨m,hm,least⟩:∃ m∈gr x,∀ y∈gr x,leO m y=true:=by
   cases e:gr x with
   | nil=>rw [e] at h0; cases h0
   | cons a r=>exact ⟨_,(fold_least r a).1,(fold_least r a).2⟩
  obtain ⟨sm,cm⟩:=(hg x hx m).mp hm
  refine ⟨srt (gr m),srt_mem.mpr (List.mem_map.mpr ⟨m,List.mem_filter.mpr ⟨sm,?_⟩,rfl⟩),srt_mem.mpr ((hg m sm x).mpr ⟨hx,cm.symm⟩),srt_mem.mpr ((hg m sm y).mpr ⟨hy,cm.symm.trans c⟩)⟩
  rw [List.all_eq_true]
  intro z hz
  obtain ⟨z1,z2⟩:=(hg m sm z).mp hz
  exact least z ((hg x hx z).mpr ⟨z1,cm.trans z2⟩)
noncomputable def tg {α:Type} [DecidableEq α] (gs:List (List α)) (x y:α):Bool:=gs.any fun g=>decide (x∈g)&&decide (y∈g)
theorem tg_iff {α:Type} [DecidableEq α] (gs:List (List α)) (x y:α):tg gs x y=true↔∃ g∈gs,x∈g/\y∈g:=by
 unfold tg
 rw [List.any_eq_true]
 constructor
 ·rintro ⟨g,h,e⟩; exact ⟨g,h,by simpa using e⟩
 ·rintro ⟨g,h,e⟩; exact ⟨g,h,by simpa using e⟩
theorem tg_reg (d:Dr rows) (x y:T3):tg (reg rows) x y=true↔x∈sides rows/\y∈sides rows/\Cn (cornersOf rows) x y:=by
 rw [tg_iff]
 unfold reg
 refine tog (fun m hm z=>?_) x y
 rw [grp_mem d hm]
 constructor
 ·intro c; exact ⟨((Cn.in' (corner_sides d) c).mp hm),c⟩
 ·exact fun h=>h.2
theorem tg_pcs (d:Dr rows) (x y:Int):tg (pcs rows) x y=true↔x∈strz rows/\y∈strz rows/\Cn (crossed rows) x y:=by
 rw [tg_iff]
 unfold pcs
 refine tog (fun m hm z=>?_) x y
 rw [pgrp_mem d hm]
 constructor
 ·intro c; exact ⟨((Cn.in' (crossed_in d) c).mp hm),c⟩
 ·exact fun h=>h.2
noncomputable def sp_together:Sp2:=fun ds G Q _=>∃ (α:Type) (_:DecidableEq α) (_:Enc α) (gs:List (List α)) (x y:α),ds=[enc gs,enc x,enc y]/\(Enc.dep α<=5/\gs.length<=1000)/\Q (.bl (tg gs x y)) G
noncomputable def rd_together:TS2 :=
 (dRet (dFz (dCB cAny (dCons (dComp 1 [1,2] (iSeq (dVar 0)) (gName 0) none (dAndV (dBin (rIn false) (dVar 1) (dVar 0)) (dBin (rIn false) (dVar 2) (dVar 0)))) dNil))))
theorem OK_together (ds:List D) (G:Gp) (Q:DK) (h:sp_together ds G Q fun _ _=>False):rd_together (fun _ _=>False) (ends Q) (start2 3 ds) G:=by
 obtain ⟨α,i1,i2,gs,x,y,rfl,⟨hd,hl⟩,q⟩:=h
 unfold rd_together
 simp only [dRet,dFz,dCB,dCons,dComp,start2,List.map_cons,List.map_nil,List.length_cons,List.length_nil,List.cons_append,List.nil_append,dNil,ends,iSeq_at,dVar,List.getElem?_cons_zero]
 refine iAt_enc ⟨szl (by rw [List.length_map]; exact hl),?_⟩
 refine comp_enc (xs:=gs) (fun pre acc τ G'=>G=G'/\(∃ a,τ=[a,some (enc x),some (enc y)])/\acc=(pre.map fun g=>decide (x∈g)&&decide (y∈g)).map D.bl) ⟨rfl,⟨_,rfl⟩,rfl⟩ (fun _ _ _ _ _=>trivial) ?_ ?_
 ·rintro pre g post acc τ G' N e ⟨rfl,⟨a,rfl⟩,rfl⟩ hN
  simp only [gName,List.set_cons_zero,dAndV_at,dBin,dVar,List.getElem?_cons_succ,List.getElem?_cons_zero]
  refine rIn_enc (by lia) ?_
  simp only [Bool.false_eq_true,if_false,truAt_bl]
  by_cases hx:x∈g
  ·simp only [hx,decide_true,if_true]
   refine rIn_enc (by lia) ?_
   simp only [Bool.false_eq_true,if_false]
   exact hN _ _ _ ⟨rfl,⟨_,rfl⟩,by simp [hx]⟩
  ·simp only [hx,decide_false,Bool.false_eq_true,if_false]
   exact hN _ _ _ ⟨rfl,⟨_,rfl⟩,by simp [hx]⟩
 ·rintro acc τ G' ⟨rfl,⟨a,rfl⟩,rfl⟩ p hp
  refine ⟨gs.map fun g=>decide (x∈g)&&decide (y∈g),itemsOf_of (IsL.ref updG_same),?_⟩
  have:(gs.map fun g=>decide (x∈g)&&decide (y∈g)).any id=tg gs x y:=by unfold tg; rw [List.any_map]; rfl
  rw [this]
  exact fz_drop (.new hp) q
noncomputable def ovs (s:T2) (t h:Int):T3:=if (h=1/\t=1)\/(h=-1/\t=0) then lft s else rgt s
noncomputable def uns (s:T2) (h:Int):T3:=if h=1 then lft s else rgt s
noncomputable def sp_over_side:Sp2:=fun ds G Q _=>∃ (s:T2) (t h:Int),ds=[enc s,.int t,.int h]/\Q (enc (ovs s t h)) G
noncomputable def rd_over_side:TS2 :=
 (dSeq (dIfS (dOr (dAnd (dTru (dBin (rEq false) (dVar 2) (dC (.int 1)))) (dTru (dBin (rEq false) (dVar 1) (dC (.int 1))))) (dAnd (dTru (dBin (rEq false) (dVar 2) (dUn rNeg (dC (.int 1))))) (dTru (dBin (rEq false) (dVar 1) (dC (.int 0)))))) (dRet (dFz (dCall sp_left_of (dCons (dVar 0) dNil)))) dNext)
 (dRet (dFz (dCall sp_right_of (dCons (dVar 0) dNil)))))
theorem OK_over_side (ds:List D) (G:Gp) (Q:DK) (h:sp_over_side ds G Q fun _ _=>False):rd_over_side (fun _ _=>False) (ends Q) (start2 3 ds) G:=by
 obtain ⟨s,t,h,rfl,q⟩:=h
 unfold rd_over_side
 simp only [ends,start2,List.map_cons,List.map_nil,List.length_cons,List.length_nil,List.cons_append,List.nil_append,seq_step,ifs_at,dOr,dAnd,dRet,dFz,dCall,dCons,dVar,List.getElem?_cons_zero,dNil,dNext,if_true,dTru_at,dBin,List.getElem?_cons_succ,dC,Bool.false_eq_true,if_false,dUn,rNeg_int]
 refine ⟨_,_,.int _,.int _,?_⟩
 rw [eq_int]
 unfold ovs at q
 by_cases h1:h=1
 ·subst h1
  simp only [Bool.false_eq_true,decide_true,Bool.not_true,if_false,truAt_bl,if_true]
  refine ⟨_,_,.int _,.int _,?_⟩
  rw [eq_int]
  by_cases t1:t=1
  ·subst t1
   simp only [Bool.false_eq_true,decide_true,Bool.not_true,if_false,truAt_bl,if_true]
   refine ⟨s,rfl,trivial,?_⟩
   rw [if_pos (.inl ⟨rfl,rfl⟩)] at q
   exact fz_id q
  ·simp only [Bool.false_eq_true,t1,decide_false,Bool.not_false,if_false,truAt_bl]
   refine ⟨_,_,.int _,.int _,?_⟩
   rw [eq_int]
   simp only [Bool.false_eq_true,show decide ((1:Int)=-1)=false by decide,Bool.not_false,if_false,truAt_bl]
   refine ⟨s,rfl,trivial,?_⟩
   rw [if_neg (by rintro (⟨_,z⟩ | ⟨z,_⟩); exact t1 z; exact absurd z (by decide))] at q
   exact fz_id q
 ·simp only [Bool.false_eq_true,h1,decide_false,Bool.not_false,if_false,truAt_bl]
  refine ⟨_,_,.int _,.int _,?_⟩
  rw [eq_int]
  by_cases h2:h=-1
  ·subst h2
   simp only [Bool.false_eq_true,decide_true,Bool.not_true,if_false,truAt_bl,if_true]
   refine ⟨_,_,.int _,.int _,?_⟩
   rw [eq_int]
   by_cases t0:t=0
   ·subst t0
    simp only [Bool.false_eq_true,decide_true,Bool.not_true,if_false,truAt_bl,if_true]
    refine ⟨s,rfl,trivial,?_⟩
    rw [if_pos (.inr ⟨rfl,rfl⟩)] at q
    exact fz_id q
   ·simp only [Bool.false_eq_true,t0,decide_false,Bool.not_false,if_false,truAt_bl]
    refine ⟨s,rfl,trivial,?_⟩
    rw [if_neg (by rintro (⟨z,_⟩ | ⟨_,z⟩); exact absurd z (by decide); exact t0 z)] at q
    exact fz_id q
  ·simp only [Bool.false_eq_true,h2,decide_false,Bool.not_false,if_false,truAt_bl]
   refine ⟨s,rfl,trivial,?_⟩
   rw [if_neg (by rintro (⟨z,_⟩ | ⟨z,_⟩); exact h1 z; exact h2 z)] at q
   exact fz_id q
noncomputable def sp_under_side:Sp2:=fun ds G Q _=>∃ (s:T2) (h:Int),ds=[enc s,.int h]/\Q (enc (uns s h)) G
noncomputable def rd_under_side:TS2 :=
 (dSeq (dIfS (dTru (dBin (rEq false) (dVar 1) (dC (.int 1)))) (dRet (dFz (dCall sp_left_of (dCons (dVar 0) dNil)))) dNext)
 (dRet (dFz (dCall sp_right_of (dCons (dVar 0) dNil)))))
theorem OK_under_side (ds:List D) (G:Gp) (Q:DK) (h:sp_under_side ds G Q fun _ _=>False):rd_under_side (fun _ _=>False) (ends Q) (start2 2 ds) G:=by
 obtain ⟨s,h,rfl,q⟩:=h
 unfold rd_under_side
 simp only [ends,start2,List.map_cons,List.map_nil,List.length_cons,List.length_nil,List.cons_append,List.nil_append,seq_step,ifs_at,dRet,dFz,dCall,dCons,dVar,List.getElem?_cons_zero,dNil,dNext,dTru_at,dBin,List.getElem?_cons_succ,dC]
 refine ⟨_,_,.int _,.int _,?_⟩
 rw [eq_int]
 unfold uns at q
 by_cases h1:h=1
 ·subst h1
  simp only [Bool.false_eq_true,decide_true,Bool.not_true,if_false,truAt_bl,if_true]
  exact ⟨s,rfl,trivial,fz_id q⟩
 ·simp only [Bool.false_eq_true,h1,decide_false,Bool.not_false,if_false,truAt_bl]
  rw [if_neg h1] at q
  exact ⟨s,rfl,trivial,fz_id q⟩
noncomputable def nearB (rows:Rows) (o u:T2) (t h:Int):Bool:=!tg (pcs rows) (strI rows o:Int) (strI rows u:Int)||tg (reg rows) (ovs o t h) (uns u h)
theorem pcs_few (d:Dr rows):(pcs rows).length<=1000:=by
 unfold pcs told
 rw [srt_len,List.length_map]
 refine Nat.le_trans (List.length_filter_le _ _) ?_
 rw [strs_len]; have:=d.str; lia
theorem reg_few (d:Dr rows):(reg rows).length<=1000:=by
 unfold reg told
 rw [srt_len,List.length_map]
 refine Nat.le_trans (List.length_filter_le _ _) ?_
 have:=sides_len d; lia
noncomputable def sp_near:Sp2:=fun ds G Q _=>∃ (rows:Rows) (o u:T2) (t h:Int),ds=[enc rows,enc o,enc u,.int t,.int h]/\(Dr rows/\o∈spotsL rows 0/\u∈spotsL rows 0)/\Q (.bl (nearB rows o u t h)) G
noncomputable def rd_near:TS2 :=
 (dSeq (dAsg (dCall sp_string_of (dCons (dVar 0) (dCons (dVar 1) dNil))) (gName 5))
 (dSeq (dAsg (dCall sp_string_of (dCons (dVar 0) (dCons (dVar 2) dNil))) (gName 6))
 (dSeq (dIfS (dNot (dTru (dCall sp_together (dCons (dCall sp_pieces (dCons (dVar 0) dNil)) (dCons (dVar 5) (dCons (dVar 6) dNil)))))) (dRet (dFz (dC (.bl true)))) dNext)
 (dRet (dFz (dCall sp_together (dCons (dCall sp_regions (dCons (dVar 0) dNil)) (dCons (dCall sp_over_side (dCons (dVar 1) (dCons (dVar 3) (dCons (dVar 4) dNil)))) (dCons (dCall sp_under_side (dCons (dVar 2) (dCons (dVar 4) dNil))) dNil)))))))))
theorem OK_near (ds:List D) (G:Gp) (Q:DK) (h:sp_near ds G Q fun _ _=>False):rd_near (fun _ _=>False) (ends Q) (start2 7 ds) G:=by
 obtain ⟨rows,o,u,t,h,rfl,⟨dr,ho,hu⟩,q⟩:=h
 have rl:=dr_rows dr
 unfold rd_near
 simp only [ends,start2,List.map_cons,List.map_nil,List.length_cons,List.length_nil,List.replicate,List.cons_append,List.nil_append,seq_step,dAsg,dCall,dCons,dVar,List.getElem?_cons_zero,List.getElem?_cons_succ,dNil,gName,List.set_cons_succ,List.set_cons_zero,ifs_at,dNot,dRet,dFz,dC,dNext,dTru_at]
 refine ⟨rows,o,rfl,⟨rl,(spotsL_zip rows 0 o).mp ho⟩,?_⟩
 simp only [dFz,start2,ends,dTru_at,dBin,dUn,dVar,dCB,dMt,dCons,dNil,dRet,dRetN,dExpr,dAsg,gName,dC,dNext,dTup,dLst,dDic,dIsi_at,dAnd,dOr,dNot,dAndV_at,dOrV_at,dNotV_at,dSl,dPart_at,dNoPart,iSeq_at,iRng1_at,dCall,dComp,rAdd_int,rAdd_tup,rAdd_ref,rAdd_rol,rSub_int,rMul_int,rMod_int,rFdiv_int,rNeg_int,rLt_int,rLe_int,rGt_int,rGe_int,rIx_tupM,rIx_rolM,rSl_tup,rSl_rol,rSl_ref,cLen_rol,cLen_tup,cList_ref,mAppend_ref,mExtend_ref,mInsert_ref,mSetdefault_ref,tyL_ref,tyC_ref,tyL_rol,tyS_str,true_and,and_true,iAt_rol,iAt_tup,partAt_int,truAt_bl,rngAt_int,isAt_int,isAt_bl,isAt_tup,List.map_cons,List.map_nil,List.cons_append,List.nil_append,List.getElem?_cons_zero,List.getElem?_cons_succ,List.set_cons_zero,List.set_cons_succ,List.length_cons,List.length_nil,List.replicate,if_true,if_false,Bool.not_true,Bool.not_false,Bool.false_eq_true,seq_asg,seq_expr]
 refine ⟨rows,u,rfl,⟨rl,(spotsL_zip rows 0 u).mp hu⟩,?_⟩
 simp only [dFz,start2,ends,dTru_at,dBin,dUn,dVar,dCB,dMt,dCons,dNil,dRet,dRetN,dExpr,dAsg,gName,dC,dNext,dTup,dLst,dDic,dIsi_at,dAnd,dOr,dNot,dAndV_at,dOrV_at,dNotV_at,dSl,dPart_at,dNoPart,iSeq_at,iRng1_at,dCall,dComp,rAdd_int,rAdd_tup,rAdd_ref,rAdd_rol,rSub_int,rMul_int,rMod_int,rFdiv_int,rNeg_int,rLt_int,rLe_int,rGt_int,rGe_int,rIx_tupM,rIx_rolM,rSl_tup,rSl_rol,rSl_ref,cLen_rol,cLen_tup,cList_ref,mAppend_ref,mExtend_ref,mInsert_ref,mSetdefault_ref,tyL_ref,tyC_ref,tyL_rol,tyS_str,true_and,and_true,iAt_rol,iAt_tup,partAt_int,truAt_bl,rngAt_int,isAt_int,isAt_bl,isAt_tup,List.map_cons,List.map_nil,List.cons_append,List.nil_append,List.getElem?_cons_zero,List.getElem?_cons_succ,List.set_cons_zero,List.set_cons_succ,List.length_cons,List.length_nil,List.replicate,if_true,if_false,Bool.not_true,Bool.not_false,Bool.false_eq_true,seq_asg,seq_expr]
 refine ⟨rows,rfl,dr,?_⟩
 refine ⟨Int,inferInstance,inferInstance,pcs rows,(strI rows o:Int),(strI rows u:Int),rfl,⟨by decide,pcs_few dr⟩,?_⟩
 unfold nearB at q
 simp only [truAt_bl]
 cases e:tg (pcs rows) (strI rows o:Int) (strI rows u:Int) with
 | false =>
  simp only [Bool.not_false,if_true]
  rw [e] at q
  exact fz_id q
 | true =>
  simp only [Bool.not_true,Bool.false_eq_true,if_false]
  rw [e] at q
  refine ⟨rows,rfl,dr,o,t,h,rfl,u,h,rfl,?_⟩
  refine ⟨T3,inferInstance,inferInstance,reg rows,ovs o t h,uns u h,rfl,⟨by decide,reg_few dr⟩,?_⟩
  simp only [Bool.not_true,Bool.false_or] at q
  exact fz_id q
noncomputable def sp_string_ofX:Sp2:=fun ds G Q E=>∃ (rows:Rows) (s:T2),ds=[enc rows,enc s]/\(∀ r∈rows,r.length<=1000)/\(s∈spotsL rows 0->Q (.int (strI rows s)) G)/\(s∉spotsL rows 0->E ⟨"NoSpot",[]⟩ (fun _=>none))
noncomputable def rd_string_ofX:TS2 :=
 (dSeq (dFor (iEnum (dVar 0)) (gTup (gCons (gName 2) (gCons (gName 3) gNil))) (dIfS (dTru (dBin (rIn false) (dVar 1) (dCall sp_spots_on (dCons (dVar 3) (dCons (dVar 2) dNil))))) (dRet (dFz (dVar 2))) dNext))
 (dRaise "NoSpot" (dCons (dC (.str "the drawing has no such spot")) dNil)))
theorem OK_string_ofX (ds:List D) (G:Gp) (Q:DK) (E:XK2) (h:sp_string_ofX ds G Q E):rd_string_ofX E (ends Q) (start2 4 ds) G:=by
 obtain ⟨rows,s,rfl,hr,q1,q2⟩:=h
 unfold rd_string_ofX
 refine seq_by (fun τ G'=>s∉spotsL rows 0) ?_ ?_
 ·intro N hN
  simp only [dFor,iEnum,dVar,start2,List.map_cons,List.map_nil,List.length_cons,List.length_nil,List.replicate,List.cons_append,List.nil_append,List.getElem?_cons_zero,ends]
  refine iEnumAt_enc ?_
  rw [enum_get]
  refine for_enc (xs:=rows.zipIdx 0) (fun pre τ G'=>G=G'/\(∃ a b,τ=[some (enc rows),some (enc s),a,b])/\∀ p∈pre,s∉spotsOn p.1 (p.2:Int)) ⟨rfl,⟨_,_,rfl⟩,(fun _ h=>by cases h)⟩ (fun _ _ _ _=>trivial) ?_ ?_
  ·rintro pre x post τ G' N2 e ⟨rfl,⟨a,b,rfl⟩,hp⟩ hN2
   obtain ⟨lf,rt,e1,e2,e3⟩:=zipIdx_split e
   simp only [gTup,gCons,gName,gNil,List.set_cons_succ,List.set_cons_zero,ifs_at,dRet,dFz,dVar,List.getElem?_cons_succ,List.getElem?_cons_zero,dNext,dTru_at,dBin,dCall,dCons,dNil]
   refine ⟨x.1,(x.2:Int),rfl,hr x.1 (by rw [e1]; simp),?_⟩
   refine rIn_enc (by decide) ?_
   simp only [Bool.false_eq_true,if_false,truAt_bl]
   by_cases hx:s∈spotsOn x.1 (x.2:Int)
   ·simp only [hx,decide_true,if_true]
    have hs:s∈spotsL rows 0:=(spotsL_zip rows 0 s).mpr ⟨x,by rw [e]; simp,hx⟩
    have:strI rows s=x.2:=by
     unfold strI
     have:(rows.zipIdx 0).find? (fun p=>decide (s∈spotsOn p.1 (p.2:Int)))=some x:=by
      rw [e,List.find?_append]
      have:pre.find? (fun p=>decide (s∈spotsOn p.1 (p.2:Int)))=none:=by
       rw [List.find?_eq_none]; intro p h; simpa using hp p h
      rw [this]
      simp [hx]
     rw [this]; rfl
    have q1:=q1 hs
    rw [this] at q1
    exact fz_id q1
   ·simp only [hx,decide_false,Bool.false_eq_true,if_false]
    refine hN2 _ _ ⟨rfl,⟨_,_,rfl⟩,fun p h=>?_⟩
    rcases List.mem_append.mp h with h | h
    ·exact hp p h
    ·rw [List.mem_singleton.mp h]; exact hx
  ·rintro τ G' ⟨rfl,_,hp⟩
   refine hN _ _ fun z=>?_
   obtain ⟨p,h1,h2⟩:=(spotsL_zip rows 0 s).mp z
   exact hp p h1 h2
 ·intro τ G' hs
  unfold dRaise
  simp only [dCons,dC,dNil,List.length_cons,List.length_nil]
  exact ⟨by decide,q2 hs⟩
noncomputable def sp_nearX:Sp2:=fun ds G Q E=>∃ (rows:Rows) (o u:T2) (t h:Int),ds=[enc rows,enc o,enc u,.int t,.int h]/\(Dr rows/\(o∉spotsL rows 0\/u∉spotsL rows 0))/\E ⟨"NoSpot",[]⟩ (fun _=>none)
noncomputable def rd_nearX:TS2 :=
 (dSeq (dAsg (dCallX sp_string_ofX (dCons (dVar 0) (dCons (dVar 1) dNil))) (gName 5))
 (dSeq (dAsg (dCallX sp_string_ofX (dCons (dVar 0) (dCons (dVar 2) dNil))) (gName 6))
 (dSeq (dIfS (dNot (dTru (dCall sp_together (dCons (dCall sp_pieces (dCons (dVar 0) dNil)) (dCons (dVar 5) (dCons (dVar 6) dNil)))))) (dRet (dFz (dC (.bl true)))) dNext)
 (dRet (dFz (dCall sp_together (dCons (dCall sp_regions (dCons (dVar 0) dNil)) (dCons (dCall sp_over_side (dCons (dVar 1) (dCons (dVar 3) (dCons (dVar 4) dNil)))) (dCons (dCall sp_under_side (dCons (dVar 2) (dCons (dVar 4) dNil))) dNil)))))))))
theorem OK_nearX (ds:List D) (G:Gp) (Q:DK) (E:XK2) (h:sp_nearX ds G Q E):rd_nearX E (ends Q) (start2 7 ds) G:=by
 obtain ⟨rows,o,u,t,h,rfl,⟨dr,ho⟩,q⟩:=h
 have rl:=dr_rows dr
 unfold rd_nearX
 simp only [ends,start2,List.map_cons,List.map_nil,List.length_cons,List.length_nil,List.replicate,List.cons_append,List.nil_append,seq_step,dAsg,dCallX,dCons,dVar,List.getElem?_cons_zero,List.getElem?_cons_succ,dNil,gName,List.set_cons_succ,List.set_cons_zero]
 refine ⟨rows,o,rfl,rl,fun h1=>?_,fun _=>q⟩
 simp only [dFz,start2,ends,dTru_at,dBin,dUn,dVar,dCB,dMt,dCons,dNil,dRet,dRetN,dExpr,dAsg,gName,dC,dNext,dTup,dLst,dDic,dIsi_at,dAnd,dOr,dNot,dAndV_at,dOrV_at,dNotV_at,dSl,dPart_at,dNoPart,iSeq_at,iRng1_at,dCall,dComp,rAdd_int,rAdd_tup,rAdd_ref,rAdd_rol,rSub_int,rMul_int,rMod_int,rFdiv_int,rNeg_int,rLt_int,rLe_int,rGt_int,rGe_int,rIx_tupM,rIx_rolM,rSl_tup,rSl_rol,rSl_ref,cLen_rol,cLen_tup,cList_ref,mAppend_ref,mExtend_ref,mInsert_ref,mSetdefault_ref,tyL_ref,tyC_ref,tyL_rol,tyS_str,true_and,and_true,iAt_rol,iAt_tup,partAt_int,truAt_bl,rngAt_int,isAt_int,isAt_bl,isAt_tup,List.map_cons,List.map_nil,List.cons_append,List.nil_append,List.getElem?_cons_zero,List.getElem?_cons_succ,List.set_cons_zero,List.set_cons_succ,List.length_cons,List.length_nil,List.replicate,if_true,if_false,Bool.not_true,Bool.not_false,Bool.false_eq_true,seq_asg,seq_expr]
 refine ⟨rows,u,rfl,rl,fun h2=>?_,fun _=>q⟩
 rcases ho with z | z
 ·exact absurd h1 z
 ·exact absurd h2 z
end K29
end K2
end
section
namespace K2
open PySem (Str)
open Enc (enc)
namespace K29
open K2.P K2.K12
open K2.K3
variable {rows:Rows}
noncomputable def rd_law_cell_at:TS2 :=
 (dSeq (dIfS (dTru (dBin rLt (dVar 1) (dCB cLen (dCons (dVar 0) dNil)))) (dRet (dFz (dBin rIx (dVar 0) (dVar 1)))) dNext)
 (dRet (dFz (dC (.int 0)))))
noncomputable def sp_law_cell_at:Sp2:=sp_law_cell
theorem OK_law_cell_at (ds:List D) (G:Gp) (Q:DK) (h:sp_law_cell_at ds G Q fun _ _=>False):rd_law_cell_at (fun _ _=>False) (ends Q) (start2 2 ds) G:=OK_law_cell ds G Q h
noncomputable def mixed (c:Int):Int:=c % 1000003 * 48271 % 1000003
noncomputable def sp_law_mixed:Sp2:=fun ds G Q _=>∃ c:Int,ds=[.int c]/\Q (.int (mixed c)) G
noncomputable def rd_law_mixed:TS2 :=
 (dRet (dFz (dBin rMod (dBin rMul (dBin rMod (dVar 0) (dC (.int 1000003))) (dC (.int 48271))) (dC (.int 1000003)))))
theorem OK_law_mixed (ds:List D) (G:Gp) (Q:DK) (h:sp_law_mixed ds G Q fun _ _=>False):rd_law_mixed (fun _ _=>False) (ends Q) (start2 1 ds) G:=by
 obtain ⟨c,rfl,q⟩:=h
 unfold rd_law_mixed
 simp only [dRet,dFz,dBin,dVar,start2,List.map_cons,List.map_nil,List.length_cons,List.length_nil,List.cons_append,List.nil_append,List.getElem?_cons_zero,dC,ends,rMod_int,rMul_int]
 exact ⟨by decide,.inr ⟨by decide,by decide⟩,by decide,fz_id q⟩
noncomputable def onm (L:List T3):List Int:=(L.filter fun p=>p.b == 0).map (·.a)
noncomputable def sp_law_names:Sp2:=spF1 (fun rows:Rows=>rows.flatten.length<=500) fun rows=>onm rows.flatten
noncomputable def rd_law_names:TS2 :=
 (dSeq (dAsg (dLst dNil) (gName 1))
 (dSeq (dFor (iSeq (dVar 0)) (gName 2) (dFor (iSeq (dVar 2)) (gName 3) (dIfS (dTru (dBin (rEq false) (dBin rIx (dVar 3) (dC (.int 1))) (dC (.int 0)))) (dExpr (dMt tyL mAppend (dVar 1) (dCons (dBin rIx (dVar 3) (dC (.int 0))) dNil))) dNext)))
 (dRet (dFz (dVar 1)))))
theorem onm_len (L:List T3):(onm L).length<=L.length:=by unfold onm; rw [List.length_map]; exact List.length_filter_le _ _
theorem onm_app (a b:List T3):onm (a++b)=onm a++onm b:=by unfold onm; rw [List.filter_append,List.map_append]
theorem OK_law_names (ds:List D) (G:Gp) (Q:DK) (h:sp_law_names ds G Q fun _ _=>False):rd_law_names (fun _ _=>False) (ends Q) (start2 4 ds) G:=by
 obtain ⟨rows,rfl,hl,q⟩:=h
 unfold rd_law_names
 simp only [ends,start2,List.map_cons,List.map_nil,List.length_cons,List.length_nil,List.replicate,List.cons_append,List.nil_append,seq_asg,dAsg,dLst,dNil,gName,List.set_cons_succ,List.set_cons_zero]
 refine ⟨by decide,fun p hp=>?_⟩
 refine seq_by (fun τ G'=>(∃ a b,τ=[some (enc rows),some (.ref p),a,b])/\GLe G G'/\G' p=some (.lst ((onm rows.flatten).map enc))) ?_ ?_
 ·intro N hN
  simp only [dFor,iSeq_at,dVar,List.getElem?_cons_zero]
  refine iAt_enc ?_
  refine for_enc (xs:=rows) (fun pre τ G'=>(∃ a b,τ=[some (enc rows),some (.ref p),a,b])/\GLe G G'/\G' p=some (.lst ((onm pre.flatten).map enc))) ⟨⟨_,_,rfl⟩,.new hp,updG_same⟩ (fun _ _ _ _=>trivial) ?_ ?_
  ·rintro pre r post τ G' N2 e ⟨⟨a,b,rfl⟩,l,gp⟩ hN2
   have hlen:pre.flatten.length+r.length<=rows.flatten.length:=by
    rw [e]; simp only [List.flatten_append,List.flatten_cons,List.length_append]; lia
   simp only [gName,dFor,List.set_cons_succ,List.set_cons_zero,iSeq_at,dVar,List.getElem?_cons_succ,List.getElem?_cons_zero]
   refine iAt_enc ?_
   refine for_enc (xs:=r) (fun pp τ G'=>(∃ a b,τ=[some (enc rows),some (.ref p),a,b])/\GLe G G'/\G' p=some (.lst ((onm (pre.flatten++pp)).map enc))) ⟨⟨_,_,rfl⟩,l,by rw [List.append_nil]; exact gp⟩ (fun _ _ _ _=>trivial) ?_ ?_
   ·rintro pp t pt τ G4 N3 e4 ⟨⟨a,b,rfl⟩,l4,gp4⟩ hN3
    have hpp:pp.length < r.length:=by have:=congrArg List.length e4; simp at this; lia
    have hz:=onm_len (pre.flatten++pp)
    rw [List.length_append] at hz
    simp only [gName,enc_T3,List.set_cons_succ,List.set_cons_zero,ifs_at,dExpr,dMt,dVar,List.getElem?_cons_succ,List.getElem?_cons_zero,tyL_ref,dCons,dBin,dC,dNil,mAppend_ref,rIx_tupM,at0,dNext,dTru_at,at1]
    refine ⟨_,_,.int _,.int _,?_⟩
    rw [eq_int]
    have eu:onm (pre.flatten++(pp++[t]))=onm (pre.flatten++pp)++onm [t]:=by rw [← List.append_assoc,onm_app]
    by_cases hb:t.b=0
    ·simp only [Bool.false_eq_true,hb,decide_true,Bool.not_true,if_false,truAt_bl,gp4,true_and,if_true]
     refine ⟨szlt (by rw [List.length_map]; lia),hN3 _ _ ⟨⟨_,_,rfl⟩,l4.put hp,?_⟩⟩
     rw [updG_same,eu,List.map_append]
     have:onm [t]=[t.a]:=by simp [onm,hb]
     rw [this]; rfl
    ·simp only [Bool.false_eq_true,hb,decide_false,Bool.not_false,if_false,truAt_bl]
     refine hN3 _ _ ⟨⟨_,_,rfl⟩,l4,?_⟩
     have:onm [t]=[]:=by simp [onm,hb]
     rw [eu,this,List.append_nil]; exact gp4
   ·rintro τ G4 ⟨⟨a,b,rfl⟩,l4,gp4⟩
    refine hN2 _ _ ⟨⟨_,_,rfl⟩,l4,?_⟩
    have:(pre++[r]).flatten=pre.flatten++r:=by simp
    rw [this]; exact gp4
  ·rintro τ G' ⟨⟨a,b,rfl⟩,l,gp⟩
   exact hN _ _ ⟨⟨_,_,rfl⟩,l,gp⟩
 ·rintro _ G' ⟨⟨a,b,rfl⟩,l,gp⟩
  simp only [dRet,dFz,dVar,List.getElem?_cons_succ,List.getElem?_cons_zero]
  exact fz_enc l hp gp q
noncomputable def sp_law_free:Sp2:=fun ds G Q _=>∃ (ns:List Int) (c:Int),ds=[enc ns,.int c]/\ns.length<=500/\∀ m:Int,m∉ns->1<=m->m<=999->Q (.int m) G
noncomputable def rd_law_free:TS2 :=
 (dSeq (dAsg (dBin rAdd (dC (.int 1)) (dBin rMod (dVar 1) (dC (.int 999)))) (gName 2))
 (dSeq (dWhile (dTru (dBin (rIn false) (dVar 2) (dVar 0))) (dAsg (dBin rAdd (dC (.int 1)) (dBin rMod (dVar 2) (dC (.int 999)))) (gName 2)))
 (dRet (dFz (dVar 2)))))
theorem OK_law_free (ds:List D) (G:Gp) (Q:DK) (h:sp_law_free ds G Q fun _ _=>False):rd_law_free (fun _ _=>False) (ends Q) (start2 3 ds) G:=by
 obtain ⟨ns,c,rfl,hl,q⟩:=h
 unfold rd_law_free
 simp only [ends,start2,List.map_cons,List.map_nil,List.length_cons,List.length_nil,List.replicate,List.cons_append,List.nil_append,seq_asg,dAsg,dBin,dC,dVar,List.getElem?_cons_succ,List.getElem?_cons_zero,gName,List.set_cons_succ,List.set_cons_zero,rMod_int,rAdd_int]
 refine ⟨by decide,?_⟩
 have b1:1<=1+c % 999:=by lia
 have b2:1+c % 999<=999:=by lia
 generalize 1+c % 999=n at *
 refine seq_by (fun τ G'=>G=G'/\∃ m:Int,(m∉ns/\1<=m/\m<=999)/\τ=[some (enc ns),some (.int c),some (.int m)]) ?_ ?_
 ·intro N hN
  obtain ⟨k,hk,hfree⟩:=fit_free (ns:=ns) b1 b2 hl
  have main:∀ (j:Nat),j<=k->whGo (dTru (dBin (rIn false) (dVar 2) (dVar 0))) (dAsg (dBin rAdd (dC (.int 1)) (dBin rMod (dVar 2) (dC (.int 999)))) (gName 2)) (j+1) (fun _ _=>False) { ends Q with nx:=N } [some (enc ns),some (.int c),some (.int (fit n (k - j)))] G:=by
   intro j
   induction j with
   | zero =>
    intro _
    show whGo _ _ (0+1) _ _ _ _
    rw [whGo]
    simp only [dAsg,dBin,dC,dVar,List.getElem?_cons_succ,List.getElem?_cons_zero,gName,ends,List.set_cons_succ,List.set_cons_zero,rMod_int,rAdd_int,dTru_at]
    refine rIn_enc (x:=fit n (k - 0)) (by decide) ?_
    simp only [Bool.false_eq_true,Nat.sub_zero,hfree,decide_false,Bool.not_false,if_false,truAt_bl]
    have:=fit_eq b1 b2 k
    exact hN _ _ ⟨rfl,_,⟨hfree,by lia,by lia⟩,rfl⟩
   | succ j ih =>
    intro hj
    rw [whGo]
    simp only [dAsg,dBin,dC,dVar,List.getElem?_cons_succ,List.getElem?_cons_zero,gName,ends,List.set_cons_succ,List.set_cons_zero,rMod_int,rAdd_int,dTru_at]
    refine rIn_enc (x:=fit n (k - (j+1))) (by decide) ?_
    have hb:=fit_eq b1 b2 (k - (j+1))
    by_cases hm:fit n (k - (j+1))∈ns
    ·simp only [Bool.false_eq_true,hm,decide_true,Bool.not_true,if_false,truAt_bl,if_true]
     refine ⟨by decide,?_⟩
     have e:1+fit n (k - (j+1)) % 999=fit n (k - j):=by
      rw [show k - j=(k - (j+1))+1 by lia,Int.add_comm]; rfl
     rw [e]
     exact ih (by lia)
    ·simp only [Bool.false_eq_true,hm,decide_false,Bool.not_false,if_false,truAt_bl]
     exact hN _ _ ⟨rfl,_,⟨hm,by lia,by lia⟩,rfl⟩
  have:=main k (Nat.le_refl _)
  rw [Nat.sub_self] at this
  exact ⟨k+1,this⟩
 ·rintro _ _ ⟨rfl,m,⟨m1,m2,m3⟩,rfl⟩
  simp only [dRet,dFz,dVar,List.getElem?_cons_succ,List.getElem?_cons_zero]
  exact fz_id (q m m1 m2 m3)
structure HA (G G':Gp) (as:List Nat) (rs:Rows):Prop where
 le:GLe G G'
 nd:as.Nodup
 fr:∀ a∈as,G a=none
 len:as.length=rs.length
 at':∀ (i a:Nat) (r:List T3),as[i]?=some a->rs[i]?=some r->G' a=some (.lst (r.map enc))
theorem HA.nil (G:Gp):HA G G [] []:=⟨.refl _,List.nodup_nil,(fun a h=>by cases h),rfl,fun i a r h=>by simp at h⟩
theorem HA.new {G G':Gp} {as:List Nat} {rs:Rows} (h:HA G G' as rs) {p:Nat} (hp:G' p=none):p∉as:=fun z=>by
 obtain ⟨i,hi⟩:=List.getElem?_of_mem z
 have h1:i < rs.length:=by rw [← h.len]; exact (List.getElem?_eq_some_iff.mp hi).1
 rw [h.at' i p rs[i] hi (List.getElem?_eq_getElem h1)] at hp; cases hp
theorem HA.push {G G':Gp} {as:List Nat} {rs:Rows} (h:HA G G' as rs) {p:Nat} (hp:G' p=none) (r:List T3):HA G (updG G' p (.lst (r.map enc))) (as++[p]) (rs++[r]):=by
 have hnb:=h.new hp
 refine ⟨h.le.trans (.new hp),?_,?_,by simp [h.len],?_⟩
 ·rw [List.nodup_append]
  refine ⟨h.nd,by simp,fun a ha b hb e=>?_⟩
  rw [List.mem_singleton] at hb
  subst hb e
  exact hnb ha
 ·intro a h0
  rcases List.mem_append.mp h0 with z | z
  ·exact h.fr a z
  ·rw [List.mem_singleton] at z; subst z; exact h.le.free hp
 ·intro i b s h1 h2
  by_cases hi:i < as.length
  ·rw [List.getElem?_append_left hi] at h1
   rw [List.getElem?_append_left (by rw [← h.len]; lia)] at h2
   have:b≠p:=by rintro rfl; exact hnb (List.mem_of_getElem? h1)
   rw [updG_ne this]
   exact h.at' i b s h1 h2
  ·rw [List.getElem?_append_right (by lia)] at h1
   rw [List.getElem?_append_right (by rw [← h.len]; lia)] at h2
   have i0:i - as.length=0:=by have:=(List.getElem?_eq_some_iff.mp h1).1; simp at this; lia
   rw [i0] at h1
   rw [← h.len,i0] at h2
   simp at h1 h2
   subst h1 h2
   exact updG_same
theorem HA.top {G G':Gp} {as:List Nat} {rs:Rows} (h:HA G G' as rs) {p:Nat} (hp:G' p=none):HR G (updG G' p (.lst (as.map D.ref))) p as rs :=
 ⟨h.le.trans (.new hp),h.le.free hp,updG_same,h.new hp,h.nd,h.fr,h.len,fun i b r h1 h2=>(GLe.new hp) _ _ (h.at' i b r h1 h2)⟩
theorem copy_by {rows:Rows} {G:Gp} {Q:DK} (hl:rows.length<=1000) {τ:St2} (q:∀ G' p as,HR G G' p as rows->Q (.ref p) G') :
  iAt (enc rows) G fun ds ok G1=>ds.length<=SZ/\compGo (gName 0) none (dCB cList (dCons (dVar 0) dNil)) ok ds (fun _ _=>False) (compSt 1 [] τ) G1 [] fun xs G2=>dNew G2 (.lst xs) Q:=by
 refine iAt_enc ⟨szl (by rw [List.length_map]; exact hl),?_⟩
 refine comp_enc (xs:=rows) (fun pre acc τ G'=>(∃ a,τ=[a])/\∃ as:List Nat,acc=as.map D.ref/\HA G G' as pre) ⟨⟨_,rfl⟩,[],rfl,.nil G⟩ (fun _ _ _ _ _=>trivial) ?_ ?_
 ·rintro pre r post acc τ G' N e ⟨⟨a,rfl⟩,as,rfl,h⟩ hN
  simp only [gName,dCB,dCons,dVar,List.set_cons_zero,List.getElem?_cons_zero,dNil]
  refine cList_of (IsL.enc r) fun p hp=>?_
  exact hN _ _ _ ⟨⟨_,rfl⟩,as++[p],by simp,h.push hp r⟩
 ·rintro acc τ G' ⟨⟨a,rfl⟩,as,rfl,h⟩ p hp
  exact q _ p as (h.top hp)
noncomputable def sp_law_crossed:Sp2:=fun ds G Q _=>∃ (rows:Rows) (c:Int),ds=[enc rows,.int c]/\(1<=rows.length/\rows.length<=3/\rows.flatten.length<=22) /\
 ∀ (rows':Rows) (m hd:Int),rows'.length=rows.length->rows'.flatten.Perm (⟨m,1,hd⟩ :: ⟨m,0,hd⟩ :: rows.flatten)->m∉onm rows.flatten->(hd=1\/hd=-1)->Q (enc rows') G
noncomputable def rd_law_crossed:TS2 :=
 (dSeq (dAsg (dCall sp_law_free (dCons (dCall sp_law_names (dCons (dVar 0) dNil)) (dCons (dVar 1) dNil))) (gName 2))
 (dSeq (dAsg (dCall sp_law_mixed (dCons (dVar 1) dNil)) (gName 3))
 (dSeq (dAsg (dBin rSub (dC (.int 1)) (dBin rMul (dC (.int 2)) (dBin rMod (dVar 3) (dC (.int 2))))) (gName 4))
 (dSeq (dAsg (dBin rFdiv (dVar 3) (dC (.int 2))) (gName 3))
 (dSeq (dAsg (dComp 1 [] (iSeq (dVar 0)) (gName 0) none (dCB cList (dCons (dVar 0) dNil))) (gName 5))
 (dSeq (dFor (iRng1 (dC (.int 2))) (gName 6) (dSeq (dAsg (dBin rIx (dVar 5) (dBin rMod (dVar 3) (dCB cLen (dCons (dVar 5) dNil)))) (gName 7))
 (dSeq (dAsg (dBin rFdiv (dVar 3) (dCB cLen (dCons (dVar 5) dNil))) (gName 3))
 (dSeq (dExpr (dMt tyL mInsert (dVar 7) (dCons (dBin rMod (dVar 3) (dBin rAdd (dCB cLen (dCons (dVar 7) dNil)) (dC (.int 1)))) (dCons (dTup (dCons (dVar 2) (dCons (dVar 6) (dCons (dVar 4) dNil)))) dNil))))
 (dAsg (dBin rFdiv (dVar 3) (dCB cLen (dCons (dVar 7) dNil))) (gName 3))))))
 (dRet (dFz (dVar 5)))))))))
theorem OK_law_crossed (ds:List D) (G:Gp) (Q:DK) (h:sp_law_crossed ds G Q fun _ _=>False):rd_law_crossed (fun _ _=>False) (ends Q) (start2 8 ds) G:=by
 obtain ⟨rows,c,rfl,⟨n1,n3,hf⟩,q⟩:=h
 unfold rd_law_crossed
 simp only [ends,start2,List.map_cons,List.map_nil,List.length_cons,List.length_nil,List.replicate,List.cons_append,List.nil_append,seq_asg,dAsg,dCall,dCons,dVar,List.getElem?_cons_zero,dNil,List.getElem?_cons_succ,gName,List.set_cons_succ,List.set_cons_zero,dBin,dC,dComp,iSeq_at]
 refine ⟨rows,rfl,(show rows.flatten.length<=500 by lia),?_⟩
 have ol:=onm_len rows.flatten
 refine ⟨onm rows.flatten,c,rfl,by lia,fun m hm m1 m2=>?_⟩
 simp only [dFz,start2,ends,dTru_at,dBin,dUn,dVar,dCB,dMt,dCons,dNil,dRet,dRetN,dExpr,dAsg,gName,dC,dNext,dTup,dLst,dDic,dIsi_at,dAnd,dOr,dNot,dAndV_at,dOrV_at,dNotV_at,dSl,dPart_at,dNoPart,iSeq_at,iRng1_at,dCall,dComp,rAdd_int,rAdd_tup,rAdd_ref,rAdd_rol,rSub_int,rMul_int,rMod_int,rFdiv_int,rNeg_int,rLt_int,rLe_int,rGt_int,rGe_int,rIx_tupM,rIx_rolM,rSl_tup,rSl_rol,rSl_ref,cLen_rol,cLen_tup,cList_ref,mAppend_ref,mExtend_ref,mInsert_ref,mSetdefault_ref,tyL_ref,tyC_ref,tyL_rol,tyS_str,true_and,and_true,iAt_rol,iAt_tup,partAt_int,truAt_bl,rngAt_int,isAt_int,isAt_bl,isAt_tup,List.map_cons,List.map_nil,List.cons_append,List.nil_append,List.getElem?_cons_zero,List.getElem?_cons_succ,List.set_cons_zero,List.set_cons_succ,List.length_cons,List.length_nil,List.replicate,if_true,if_false,Bool.not_true,Bool.not_false,Bool.false_eq_true,seq_asg,seq_expr]
 refine ⟨c,rfl,?_⟩
 simp only [rFdiv_int,rMod_int,rMul_int,rSub_int]
 have mx:0<=mixed c:=by unfold mixed; lia
 generalize mixed c=x at *
 refine ⟨by decide,.inl ⟨by decide,by decide⟩,by decide,by decide,?_⟩
 have hh:1 - 2 * (x % 2)=1\/1 - 2 * (x % 2)=-1:=by lia
 generalize 1 - 2 * (x % 2)=hd at *
 have x2:0<=x / 2:=by lia
 generalize x / 2=x at *
 refine copy_by (rows:=rows) (by lia) fun G1 p0 as hr=>?_
 refine seq_by (fun τ G'=>(∃ a b e,τ=[some (enc rows),some (.int c),some (.int m),a,some (.int hd),some (.ref p0),b,e])/\∃ rs',HR G G' p0 as rs'/\rs'.length=rows.length/\rs'.flatten.Perm (⟨m,1,hd⟩ :: ⟨m,0,hd⟩ :: rows.flatten)) ?_ ?_
 ·intro N hN
  simp only [dFor,iRng1_at,dC,rngAt_int]
  refine ⟨by decide,by decide,?_⟩
  unfold rangeD
  refine for_enc (xs:=List.range (2:Int).toNat) (fun pw τ G'=>∃ rs' y,0<=y/\(∃ b e,τ=[some (enc rows),some (.int c),some (.int m),some (.int y),some (.int hd),some (.ref p0),b,e])/\HR G G' p0 as rs'/\rs'.length=rows.length/\rs'.flatten.Perm ((pw.map fun (i:Nat)=>(⟨m,0+(i:Int),hd⟩:T3)).reverse++rows.flatten)) ⟨rows,x,x2,⟨_,_,rfl⟩,hr,rfl,.refl _⟩ (fun _ _ _ _=>trivial) ?_ ?_
  ·rintro pw w post τ G2 N2 e ⟨rs,y,y0,⟨b1,b2,rfl⟩,h2,l2,p2⟩ hN2
   have hw:pw.length < 2:=by
    have:=congrArg List.length e
    rw [List.length_range,List.length_append,List.length_cons] at this
    have h4:(2:Int).toNat=2:=rfl
    lia
   simp only [gName,List.set_cons_succ,List.set_cons_zero,seq_step,dAsg,dBin,dVar,List.getElem?_cons_succ,List.getElem?_cons_zero,dCB,dCons,dNil,dExpr,dMt,dC,dTup,List.length_cons,List.length_nil]
   refine cLen_of (IsL.ref h2.gp) ?_
   rw [List.length_map,h2.len]
   simp only [rMod_int]
   refine ⟨by lia,?_⟩
   have j1:0<=y % (rs.length:Int):=Int.emod_nonneg _ (by lia)
   have j2:y % (rs.length:Int) < rs.length:=Int.emod_lt_of_pos _ (by lia)
   generalize y % (rs.length:Int)=j at *
   obtain ⟨a,r,ea,er,ga,xa⟩:=HR.at_ h2 j1 j2
   refine rIx_of (IsL.ref h2.gp) xa ?_
   refine cLen_of (IsL.ref h2.gp) ?_
   rw [List.length_map,h2.len]
   have y3:0<=y / (rs.length:Int):=Int.ediv_nonneg y0 (by lia)
   simp only [tyL_ref,rFdiv_int,ga,true_and]
   refine ⟨by lia,by lia,?_⟩
   generalize y / (rs.length:Int)=y at *
   refine cLen_of (IsL.ref ga) ?_
   rw [List.length_map]
   simp only [rAdd_int,rMod_int,mInsert_ref]
   have k1:0<=y % ((r.length:Int)+1):=Int.emod_nonneg _ (by lia)
   have k2:y % ((r.length:Int)+1) < (r.length:Int)+1:=Int.emod_lt_of_pos _ (by lia)
   refine ⟨by lia,by decide,?_⟩
   generalize y % ((r.length:Int)+1)=k at *
   have rl:r.length<=24:=by
    have h3:=len_flat (List.mem_of_getElem? er)
    have h4:=p2.length_eq
    rw [List.length_append,List.length_reverse,List.length_map] at h4
    lia
   simp only [ga]
   refine ⟨k1,by rw [List.length_map]; lia,szlt (by rw [List.length_map]; lia),?_⟩
   rw [show (D.tup [.int m,.int (0+(w:Int)),.int hd])=enc (⟨m,0+(w:Int),hd⟩:T3) from rfl,ins_enc]
   have h5:=h2.put (r':=ins r k.toNat ⟨m,0+(w:Int),hd⟩) ea
   have g5:(updG G2 a (.lst ((ins r k.toNat ⟨m,0+(w:Int),hd⟩).map enc))) a=some (.lst ((ins r k.toNat ⟨m,0+(w:Int),hd⟩).map enc)):=updG_same
   generalize updG G2 a (.lst ((ins r k.toNat ⟨m,0+(w:Int),hd⟩).map enc))=G5 at *
   refine cLen_of (IsL.ref g5) ?_
   rw [List.length_map]
   simp only [rFdiv_int]
   have li:(ins r k.toNat (⟨m,0+(w:Int),hd⟩:T3)).length=r.length+1:=by
    have:=(ins_perm r k.toNat (⟨m,0+(w:Int),hd⟩:T3)).length_eq
    rw [List.length_cons] at this; exact this
   rw [li]
   refine ⟨by lia,by lia,?_⟩
   refine hN2 _ _ ⟨_,_,Int.ediv_nonneg y3 (by lia),⟨_,_,rfl⟩,h5,by rw [List.length_set]; exact l2,?_⟩
   refine (set_flat (ins_perm _ _ _) rs _ er).trans ?_
   rw [List.map_append,List.reverse_append]
   exact .cons _ p2
  ·rintro τ G2 ⟨rs,y,y0,⟨b1,b2,rfl⟩,h2,l2,p2⟩
   exact hN _ _ ⟨⟨_,_,_,rfl⟩,rs,h2,l2,p2⟩
 ·rintro _ G2 ⟨⟨a,b,e,rfl⟩,rs,h2,l2,p2⟩
  simp only [dRet,dFz,dVar,List.getElem?_cons_succ,List.getElem?_cons_zero]
  exact h2.fz (q rs m hd l2 p2 hm hh)
end K29
end K2
end
section
namespace K2
open PySem (Str)
open Enc (enc)
namespace K29
open K2.P K2.K12
open K2.K3
variable {rows:Rows}
noncomputable def sp_law_strings:Sp2:=fun ds G Q _=>∃ rows:Rows,ds=[enc rows]/\Dr rows/\Q (.rod (encKV (spotsP rows 0))) G
noncomputable def rd_law_strings:TS2 :=
 (dSeq (dAsg dDic (gName 1))
 (dSeq (dFor (iRng1 (dCB cLen (dCons (dVar 0) dNil))) (gName 2) (dSeq (dIfS (dNot (dTru (dBin rIx (dVar 0) (dVar 2)))) (dAsg (dVar 2) (gSub (dVar 1) (dTup (dCons (dVar 2) (dCons (dC (.int 2)) dNil))))) dNext)
 (dFor (iSeq (dBin rIx (dVar 0) (dVar 2))) (gName 3) (dAsg (dVar 2) (gSub (dVar 1) (dTup (dCons (dBin rIx (dVar 3) (dC (.int 0))) (dCons (dBin rIx (dVar 3) (dC (.int 1))) dNil))))))))
 (dRet (dFz (dVar 1)))))
theorem OK_law_strings (ds:List D) (G:Gp) (Q:DK) (h:sp_law_strings ds G Q fun _ _=>False):rd_law_strings (fun _ _=>False) (ends Q) (start2 4 ds) G:=by
 obtain ⟨rows,rfl,dr,q⟩:=h
 have few:=dr.few
 have nd:=spotsL_nd dr
 have str:=dr.str
 unfold rd_law_strings
 simp only [ends,start2,List.map_cons,List.map_nil,List.length_cons,List.length_nil,List.replicate,List.cons_append,List.nil_append,seq_asg,dAsg,dDic,dNew,gName,List.set_cons_succ,List.set_cons_zero]
 intro d hd
 refine seq_by (fun τ G'=>(∃ a b,τ=[some (enc rows),some (.ref d),a,b])/\GLe G G'/\G' d=some (.dic (encKV (spotsP rows 0)))) ?_ ?_
 ·intro N hN
  simp only [dFor,iRng1_at,dCB,dCons,dVar,List.getElem?_cons_zero,dNil]
  refine cLen_of (IsL.enc rows) ?_
  rw [List.length_map]
  simp only [rngAt_int]
  refine ⟨by lia,by lia,?_⟩
  unfold rangeD
  refine for_enc (xs:=List.range (rows.length:Int).toNat) (fun ks τ G'=>(∃ a b,τ=[some (enc rows),some (.ref d),a,b])/\GLe G G'/\G' d=some (.dic (encKV (spotsP (rows.take ks.length) 0)))) ⟨⟨_,_,rfl⟩,.new hd,updG_same⟩ (fun _ _ _ _=>trivial) ?_ ?_
  ·rintro ks k post τ G1 N2 e ⟨⟨a1,a2,rfl⟩,l1,gd1⟩ hN2
   have ek:k=ks.length:=by
    have:=congrArg (fun l=>l[ks.length]?) e
    simp only [List.getElem?_append_right (Nat.le_refl _),Nat.sub_self,List.getElem?_cons_zero] at this
    have hl:=congrArg List.length e
    rw [List.length_range,List.length_append,List.length_cons] at hl
    rw [List.getElem?_range (by lia)] at this
    injection this with this; exact this.symm
   have hk:k < rows.length:=by
    have:k∈List.range (rows.length:Int).toNat:=by rw [e]; simp
    have:=List.mem_range.mp this; lia
   subst ek
   have et:rows.take (ks.length+1)=rows.take ks.length++[rows[ks.length]]:=by rw [List.take_add_one,List.getElem?_eq_getElem hk]; rfl
   have esp:spotsP (rows.take (ks.length+1)) 0=spotsP (rows.take ks.length) 0++(spotsOn rows[ks.length] (ks.length:Int)).map (fun s=>(s,(ks.length:Int))):=by
    rw [et,spotsP_app,spotsP,spotsP,List.append_nil,List.length_take,Nat.min_eq_left (by lia),Nat.zero_add]
   have nd1:(spotsL (rows.take (ks.length+1)) 0).Nodup:=by
    have:=spotsL_app (rows.take (ks.length+1)) (rows.drop (ks.length+1)) 0
    rw [List.take_append_drop] at this
    rw [this] at nd
    exact (List.nodup_append.mp nd).1
   rw [← spotsP_keys,esp,List.map_append] at nd1
   have len1:(spotsP (rows.take ks.length) 0).length+(spotsOn rows[ks.length] (ks.length:Int)).length<=27:=by
    have h1:(spotsL rows 0).length<=27:=spots_len dr
    have:=spotsL_app (rows.take (ks.length+1)) (rows.drop (ks.length+1)) 0
    rw [List.take_append_drop] at this
    rw [this,List.length_append,← spotsP_keys,esp,List.length_map,List.length_append,List.length_map] at h1
    lia
   generalize hro:rows[ks.length]=r at *
   have xr:atI (rows.map (enc:List T3->D)) (0+(ks.length:Int))=some (enc r):=by rw [row_at hk,hro]
   generalize spotsP (rows.take ks.length) 0=L at *
   simp only [gName,List.set_cons_succ,List.set_cons_zero]
   refine seq_by (fun τ G'=>(∃ b,τ=[some (enc rows),some (.ref d),some (.int (0+(ks.length:Int))),b])/\GLe G G'/\((r=[]/\G' d=some (.dic (encKV (L++(spotsOn r (ks.length:Int)).map (fun s=>(s,(ks.length:Int)))))))\/(r≠[]/\G' d=some (.dic (encKV L))))) ?_ ?_
   ·intro N3 hN3
    simp only [ifs_at,dNot,dAsg,dVar,List.getElem?_cons_succ,List.getElem?_cons_zero,gSub,dTup,dCons,dC,dNil,List.length_cons,List.length_nil,dNext,dTru_at,dBin]
    refine rIx_of (IsL.enc rows) xr ?_
    refine truAt_of (IsL.enc r) ?_
    cases r with
    | nil =>
     simp only [List.map_nil,List.isEmpty_nil,Bool.not_true,Bool.not_false,if_true]
     refine ⟨by decide,?_⟩
     have eL:aput L (⟨(ks.length:Int),2⟩:T2) (ks.length:Int)=L++[((⟨(ks.length:Int),2⟩:T2),(ks.length:Int))]:=aput_new fun z=>by
      rw [List.nodup_append] at nd1
      exact nd1.2.2 _ z _ (by simp [spotsOn]) rfl
     refine P.setIx_dic (l:=L) (k:=(⟨0+(ks.length:Int),2⟩:T2)) (v:=(0+(ks.length:Int))) gd1 (by lia) ?_
     refine hN3 _ _ ⟨⟨_,rfl⟩,l1.put hd,.inl ⟨rfl,?_⟩⟩
     rw [updG_same,Int.zero_add,eL]; rfl
    | cons t r =>
     simp only [List.map_cons,List.isEmpty_cons,Bool.not_false,Bool.not_true,Bool.false_eq_true,if_false]
     exact hN3 _ _ ⟨⟨_,rfl⟩,l1,.inr ⟨by simp,gd1⟩⟩
   ·rintro _ G3 ⟨⟨b,rfl⟩,l3,gd3⟩
    simp only [dFor,iSeq_at,dBin,dVar,List.getElem?_cons_zero,List.getElem?_cons_succ]
    refine rIx_of (IsL.enc rows) xr ?_
    refine iAt_enc ?_
    refine for_enc (xs:=r) (fun pp τ G'=>(∃ b,τ=[some (enc rows),some (.ref d),some (.int (0+(ks.length:Int))),b])/\GLe G G'/\((r=[]/\G' d=some (.dic (encKV (L++(spotsOn r (ks.length:Int)).map (fun s=>(s,(ks.length:Int)))))))\/(r≠[]/\G' d=some (.dic (encKV (L++pp.map fun p=>(p.s,(ks.length:Int)))))))) ⟨⟨_,rfl⟩,l3,?_⟩ (fun _ _ _ _=>trivial) ?_ ?_
    ·rcases gd3 with h | ⟨h1,h2⟩
     ·exact .inl h
     ·exact .inr ⟨h1,by rw [List.map_nil,List.append_nil]; exact h2⟩
    ·rintro pp t pt τ G4 N4 e4 ⟨⟨b,rfl⟩,l4,gd4⟩ hN4
     have hne:r≠[]:=by rw [e4]; simp
     rcases gd4 with ⟨h1,_⟩ | ⟨_,gd4⟩
     ·exact absurd h1 hne
     have eo:spotsOn r (ks.length:Int)=r.map T3.s:=by unfold spotsOn; rw [if_neg hne]
     simp only [gName,dAsg,dVar,enc_T3,List.set_cons_succ,List.set_cons_zero,List.getElem?_cons_succ,List.getElem?_cons_zero,gSub,dTup,dCons,dBin,dC,dNil,List.length_cons,List.length_nil,rIx_tupM,at1,at0]
     refine ⟨by decide,?_⟩
     have hl4:(L++pp.map fun p=>(p.s,(ks.length:Int))).length<=1000:=by
      rw [eo,List.length_map] at len1
      have:=congrArg List.length e4
      rw [List.length_append,List.length_cons] at this
      rw [List.length_append,List.length_map]; lia
     have eL:aput (L++pp.map fun p=>(p.s,(ks.length:Int))) t.s (ks.length:Int)=(L++pp.map fun p=>(p.s,(ks.length:Int)))++[(t.s,(ks.length:Int))]:=aput_new fun z=>by
      rw [eo,e4] at nd1
      simp only [List.map_append,List.map_cons,List.map_map] at nd1 z
      rw [← List.append_assoc,List.nodup_append] at nd1
      exact nd1.2.2 _ z t.s List.mem_cons_self rfl
     refine P.setIx_dic (l:=L++pp.map fun p=>(p.s,(ks.length:Int))) (k:=t.s) (v:=(0+(ks.length:Int))) gd4 hl4 ?_
     refine hN4 _ _ ⟨⟨_,rfl⟩,l4.put hd,.inr ⟨hne,?_⟩⟩
     rw [updG_same,Int.zero_add,eL,List.map_append,List.append_assoc]; rfl
    ·rintro τ G4 ⟨⟨b,rfl⟩,l4,gd4⟩
     refine hN2 _ _ ⟨⟨_,_,rfl⟩,l4,?_⟩
     rw [List.length_append,List.length_cons,List.length_nil,Nat.zero_add,esp]
     rcases gd4 with ⟨_,h⟩ | ⟨h1,h⟩
     ·exact h
     ·have eo:spotsOn r (ks.length:Int)=r.map T3.s:=by unfold spotsOn; rw [if_neg h1]
      rw [eo,List.map_map]; exact h
  ·rintro τ G' ⟨⟨a,b,rfl⟩,l,gd⟩
   refine hN _ _ ⟨⟨_,_,rfl⟩,l,?_⟩
   have:rows.take (List.range (rows.length:Int).toNat).length=rows:=by rw [List.length_range]; simp
   rw [this] at gd; exact gd
 ·rintro _ G' ⟨⟨a,b,rfl⟩,l,gd⟩
  simp only [dRet,dFz,dVar,List.getElem?_cons_succ,List.getElem?_cons_zero]
  exact fz_rod l hd gd q
noncomputable def sp_law_spots:Sp2:=spF1 Dr fun rows=>spotsL rows 0
noncomputable def rd_law_spots:TS2 :=
 (dSeq (dAsg (dLst dNil) (gName 1))
 (dSeq (dFor (iRng1 (dCB cLen (dCons (dVar 0) dNil))) (gName 2) (dSeq (dIfS (dNot (dTru (dBin rIx (dVar 0) (dVar 2)))) (dExpr (dMt tyL mAppend (dVar 1) (dCons (dTup (dCons (dVar 2) (dCons (dC (.int 2)) dNil))) dNil))) dNext)
 (dFor (iSeq (dBin rIx (dVar 0) (dVar 2))) (gName 3) (dExpr (dMt tyL mAppend (dVar 1) (dCons (dTup (dCons (dBin rIx (dVar 3) (dC (.int 0))) (dCons (dBin rIx (dVar 3) (dC (.int 1))) dNil))) dNil))))))
 (dRet (dFz (dVar 1)))))
theorem OK_law_spots (ds:List D) (G:Gp) (Q:DK) (h:sp_law_spots ds G Q fun _ _=>False):rd_law_spots (fun _ _=>False) (ends Q) (start2 4 ds) G:=by
 obtain ⟨rows,rfl,dr,q⟩:=h
 have dr:Dr rows:=dr
 have few:=dr.few
 have sl:=spots_len dr
 have str:=dr.str
 unfold rd_law_spots
 simp only [ends,start2,List.map_cons,List.map_nil,List.length_cons,List.length_nil,List.replicate,List.cons_append,List.nil_append,seq_asg,dAsg,dLst,dNil,gName,List.set_cons_succ,List.set_cons_zero]
 refine ⟨by decide,fun d hd=>?_⟩
 refine seq_by (fun τ G'=>(∃ a b,τ=[some (enc rows),some (.ref d),a,b])/\GLe G G'/\G' d=some (.lst ((spotsL rows 0).map enc))) ?_ ?_
 ·intro N hN
  simp only [dFor,iRng1_at,dCB,dCons,dVar,List.getElem?_cons_zero,dNil]
  refine cLen_of (IsL.enc rows) ?_
  rw [List.length_map]
  simp only [rngAt_int]
  refine ⟨by lia,by lia,?_⟩
  unfold rangeD
  refine for_enc (xs:=List.range (rows.length:Int).toNat) (fun ks τ G'=>(∃ a b,τ=[some (enc rows),some (.ref d),a,b])/\GLe G G'/\G' d=some (.lst ((spotsL (rows.take ks.length) 0).map enc))) ⟨⟨_,_,rfl⟩,.new hd,updG_same⟩ (fun _ _ _ _=>trivial) ?_ ?_
  ·rintro ks k post τ G1 N2 e ⟨⟨a1,a2,rfl⟩,l1,gd1⟩ hN2
   have ek:k=ks.length:=by
    have:=congrArg (fun l=>l[ks.length]?) e
    simp only [List.getElem?_append_right (Nat.le_refl _),Nat.sub_self,List.getElem?_cons_zero] at this
    have hl:=congrArg List.length e
    rw [List.length_range,List.length_append,List.length_cons] at hl
    rw [List.getElem?_range (by lia)] at this
    injection this with this; exact this.symm
   have hk:k < rows.length:=by
    have:k∈List.range (rows.length:Int).toNat:=by rw [e]; simp
    have:=List.mem_range.mp this; lia
   subst ek
   have et:rows.take (ks.length+1)=rows.take ks.length++[rows[ks.length]]:=by rw [List.take_add_one,List.getElem?_eq_getElem hk]; rfl
   have esp:spotsL (rows.take (ks.length+1)) 0=spotsL (rows.take ks.length) 0++spotsOn rows[ks.length] (ks.length:Int):=by
    rw [et,spotsL_app,spotsL,spotsL,List.append_nil,List.length_take,Nat.min_eq_left (by lia),Nat.zero_add]
   have len1:(spotsL (rows.take ks.length) 0).length+(spotsOn rows[ks.length] (ks.length:Int)).length<=27:=by
    have h1:(spotsL rows 0).length<=27:=spots_len dr
    have:=spotsL_app (rows.take (ks.length+1)) (rows.drop (ks.length+1)) 0
    rw [List.take_append_drop] at this
    rw [this,List.length_append,esp,List.length_append] at h1
    lia
   generalize hro:rows[ks.length]=r at *
   have xr:atI (rows.map (enc:List T3->D)) (0+(ks.length:Int))=some (enc r):=by rw [row_at hk,hro]
   generalize spotsL (rows.take ks.length) 0=L at *
   simp only [gName,List.set_cons_succ,List.set_cons_zero]
   refine seq_by (fun τ G'=>(∃ b,τ=[some (enc rows),some (.ref d),some (.int (0+(ks.length:Int))),b])/\GLe G G'/\((r=[]/\G' d=some (.lst ((L++spotsOn r (ks.length:Int)).map enc)))\/(r≠[]/\G' d=some (.lst (L.map enc))))) ?_ ?_
   ·intro N3 hN3
    simp only [ifs_at,dNot,dExpr,dMt,dVar,List.getElem?_cons_succ,List.getElem?_cons_zero,tyL_ref,dCons,dTup,dC,dNil,List.length_cons,List.length_nil,mAppend_ref,dNext,dTru_at,dBin]
    refine rIx_of (IsL.enc rows) xr ?_
    refine truAt_of (IsL.enc r) ?_
    cases r with
    | nil =>
     simp only [List.map_nil,List.isEmpty_nil,Bool.not_true,Bool.not_false,gd1,true_and,if_true]
     refine ⟨by decide,szlt (by rw [List.length_map]; lia),hN3 _ _ ⟨⟨_,rfl⟩,l1.put hd,.inl ⟨rfl,?_⟩⟩⟩
     rw [updG_same,Int.zero_add,List.map_append]; rfl
    | cons t r =>
     simp only [List.map_cons,List.isEmpty_cons,Bool.not_false,Bool.not_true,Bool.false_eq_true,if_false]
     exact hN3 _ _ ⟨⟨_,rfl⟩,l1,.inr ⟨by simp,gd1⟩⟩
   ·rintro _ G3 ⟨⟨b,rfl⟩,l3,gd3⟩
    simp only [dFor,iSeq_at,dBin,dVar,List.getElem?_cons_zero,List.getElem?_cons_succ]
    refine rIx_of (IsL.enc rows) xr ?_
    refine iAt_enc ?_
    refine for_enc (xs:=r) (fun pp τ G'=>(∃ b,τ=[some (enc rows),some (.ref d),some (.int (0+(ks.length:Int))),b])/\GLe G G'/\((r=[]/\G' d=some (.lst ((L++spotsOn r (ks.length:Int)).map enc)))\/(r≠[]/\G' d=some (.lst ((L++pp.map T3.s).map enc))))) ⟨⟨_,rfl⟩,l3,?_⟩ (fun _ _ _ _=>trivial) ?_ ?_
    ·rcases gd3 with h | ⟨h1,h2⟩
     ·exact .inl h
     ·exact .inr ⟨h1,by rw [List.map_nil,List.append_nil]; exact h2⟩
    ·rintro pp t pt τ G4 N4 e4 ⟨⟨b,rfl⟩,l4,gd4⟩ hN4
     have hne:r≠[]:=by rw [e4]; simp
     rcases gd4 with ⟨h1,_⟩ | ⟨_,gd4⟩
     ·exact absurd h1 hne
     have eo:spotsOn r (ks.length:Int)=r.map T3.s:=by unfold spotsOn; rw [if_neg hne]
     have hl4:(L++pp.map T3.s).length<=1000:=by
      rw [eo,List.length_map] at len1
      have:=congrArg List.length e4
      rw [List.length_append,List.length_cons] at this
      rw [List.length_append,List.length_map]; lia
     simp only [gName,dExpr,dMt,dVar,enc_T3,List.set_cons_succ,List.set_cons_zero,List.getElem?_cons_succ,List.getElem?_cons_zero,tyL_ref,gd4,dCons,dTup,dBin,dC,dNil,List.length_cons,List.length_nil,mAppend_ref,rIx_tupM,at1,at0,true_and]
     refine ⟨by decide,szlt (by rw [List.length_map]; exact hl4),hN4 _ _ ⟨⟨_,rfl⟩,l4.put hd,.inr ⟨hne,?_⟩⟩⟩
     rw [updG_same,List.map_append (l₁:=pp),← List.append_assoc,List.map_append (l₁:=L++_)]; rfl
    ·rintro τ G4 ⟨⟨b,rfl⟩,l4,gd4⟩
     refine hN2 _ _ ⟨⟨_,_,rfl⟩,l4,?_⟩
     rw [List.length_append,List.length_cons,List.length_nil,Nat.zero_add,esp]
     rcases gd4 with ⟨_,h⟩ | ⟨h1,h⟩
     ·exact h
     ·have eo:spotsOn r (ks.length:Int)=r.map T3.s:=by unfold spotsOn; rw [if_neg h1]
      rw [eo]; exact h
  ·rintro τ G' ⟨⟨a,b,rfl⟩,l,gd⟩
   refine hN _ _ ⟨⟨_,_,rfl⟩,l,?_⟩
   have:rows.take (List.range (rows.length:Int).toNat).length=rows:=by rw [List.length_range]; simp
   rw [this] at gd; exact gd
 ·rintro _ G' ⟨⟨a,b,rfl⟩,l,gd⟩
  simp only [dRet,dFz,dVar,List.getElem?_cons_succ,List.getElem?_cons_zero]
  exact fz_enc l hd gd q
section
variable {κ:Type} [DecidableEq κ]
noncomputable def rlb (old new:Int) (p:κ×Int):κ×Int:=(p.1,if p.2=old then new else p.2)
theorem aput_mid {P R:List (κ×Int)} {k:κ} {v w:Int} (nd:((P++(k,v) :: R).map (·.1)).Nodup):aput (P++(k,v) :: R) k w=P++(k,w) :: R:=by
 rw [List.map_append,List.map_cons,List.nodup_append] at nd
 obtain ⟨n1,n2,n3⟩:=nd
 rw [List.nodup_cons] at n2
 have fix:∀ (L:List (κ×Int)),k∉L.map (·.1)->L.map (fun p=>if p.1=k then (p.1,w) else p)=L:=fun L h=>by
  conv=>rhs; rw [← List.map_id L]
  refine List.map_congr_left fun q hq=>?_
  rw [if_neg]; rfl
  intro z; exact h (List.mem_map.mpr ⟨q,hq,z⟩)
 unfold aput
 rw [if_pos (by rw [List.any_eq_true]; exact ⟨(k,v),by simp,by simp⟩),List.map_append,List.map_cons,fix P (fun z=>n3 k z k List.mem_cons_self rfl),fix R n2.1]
 simp
theorem rlb_keys (old new:Int) (L:List (κ×Int)):(L.map (rlb old new)).map (·.1)=L.map (·.1):=by rw [List.map_map]; rfl
structure LI (ms:List κ) (ps:List (κ×κ)) (l:List (κ×Int)):Prop where
 keys:l.map (·.1)=ms
 same:∀ x y vx vy,aget l x=some vx->aget l y=some vy->(vx=vy↔Cn ps x y)
theorem aget_rlb (old new:Int) (l:List (κ×Int)) (k:κ):aget (l.map (rlb old new)) k=(aget l k).map fun v=>if v=old then new else v:=by
 unfold aget
 induction l with
 | nil=>rfl
 | cons p r ih =>
  rw [List.map_cons,List.find?_cons,List.find?_cons]
  by_cases h:p.1=k
  ·simp [rlb,h]
  ·have h':¬ (rlb old new p).1=k:=h
   simp only [h,h',decide_false]
   exact ih
theorem LI.join {ms:List κ} {ps:List (κ×κ)} {l:List (κ×Int)} (h:LI ms ps l) {a b:κ} {va vb:Int} (ha:aget l a=some va) (hb:aget l b=some vb):LI ms (ps++[(a,b)]) (l.map (rlb va vb)):=by
 refine ⟨by rw [rlb_keys]; exact h.keys,fun x y vx vy hx hy=>?_⟩
 rw [aget_rlb] at hx hy
 obtain ⟨ux,ex,rfl⟩:=Option.map_eq_some_iff.mp hx
 obtain ⟨uy,ey,rfl⟩:=Option.map_eq_some_iff.mp hy
 have xy:=h.same x y ux uy ex ey
 have xa:=h.same x a ux va ex ha
 have xb:=h.same x b ux vb ex hb
 have ay:=h.same a y va uy ha ey
 have yb:=h.same b y vb uy hb ey
 rw [Cn.more,← xy,← xa,← xb,← ay,← yb]
 by_cases c1:ux=va <;> by_cases c2:uy=va
 ·simp [c1,c2]
 ·have c3:¬ va=uy:=fun z=>c2 z.symm
  simp [c1,c2,c3]
 ·have c3:va=uy:=c2.symm
  simp [c1,c2]
 ·have c3:¬ va=uy:=fun z=>c2 z.symm
  simp [c1,c2,c3]
end
noncomputable def sp_law_joined:Sp2:=fun ds G Q _=>∃ (κ:Type) (_:DecidableEq κ) (_:Enc κ) (_:EncKey κ) (a:Nat) (l:List (κ×Int)) (x y:κ),ds=[.ref a,enc x,enc y]/\G a=some (.dic (encKV l))/\∃ vx vy,(aget l x=some vx/\aget l y=some vy/\l.length<=900/\(l.map (·.1)).Nodup) /\
 ∀ G',G' a=some (.dic (encKV (l.map (rlb vx vy))))->(∀ b o,b≠a->G b=some o->G' b=some o)->Q .non G'
noncomputable def rd_law_joined:TS2 :=
 (dSeq (dAsg (dBin rIx (dVar 0) (dVar 1)) (gName 3))
 (dIfS (dTru (dBin (rEq true) (dVar 3) (dBin rIx (dVar 0) (dVar 2)))) (dFor (iSeq (dCB cListD (dCons (dVar 0) dNil))) (gName 4) (dIfS (dTru (dBin (rEq false) (dBin rIx (dVar 0) (dVar 4)) (dVar 3))) (dAsg (dBin rIx (dVar 0) (dVar 2)) (gSub (dVar 0) (dVar 4))) dNext)) dNext))
theorem OK_law_joined (ds:List D) (G:Gp) (Q:DK) (h:sp_law_joined ds G Q fun _ _=>False):rd_law_joined (fun _ _=>False) (ends Q) (start2 5 ds) G:=by
 obtain ⟨κ,i1,i2,i3,a,l,x,y,rfl,ga,vx,vy,⟨hx,hy,hl,nd⟩,q⟩:=h
 unfold rd_law_joined
 simp only [ends,start2,List.map_cons,List.map_nil,List.length_cons,List.length_nil,List.replicate,List.cons_append,List.nil_append,seq_asg,dAsg,dBin,dVar,List.getElem?_cons_zero,List.getElem?_cons_succ,gName,List.set_cons_succ,List.set_cons_zero]
 refine rIx_encD ga hx ?_
 simp only [ifs_at,dNext,dTru_at,dBin,dVar,List.getElem?_cons_succ,List.getElem?_cons_zero]
 refine rIx_encD ga hy ?_
 refine rEq_enc (α:=Int) (by decide) ?_
 simp only [if_true,truAt_bl]
 by_cases hv:vx=vy
 ·subst hv
  simp only [decide_true,Bool.not_true,Bool.false_eq_true,if_false]
  refine q _ ?_ fun b o _ e=>e
  have:l.map (rlb vx vx)=l:=by
   conv=>rhs; rw [← List.map_id l]
   refine List.map_congr_left fun p _=>?_
   unfold rlb
   split
   ·rename_i z; rw [← z]; rfl
   ·rfl
  rw [this]; exact ga
 ·simp only [hv,decide_false,Bool.not_false,dFor,iSeq_at,dCB,dCons,dVar,List.getElem?_cons_zero,dNil,cListD,ga,if_true]
  refine ⟨by unfold encKV; rw [List.length_map]; lia,fun p hp=>?_⟩
  have nap:a≠p:=by rintro rfl; rw [ga] at hp; cases hp
  have ek:(encKV l).map (·.1)=(l.map (·.1)).map enc:=by unfold encKV; rw [List.map_map,List.map_map]; rfl
  rw [ek]
  have e2:(l.map (·.1)).map (enc:κ->D)=l.map fun p=>enc p.1:=by rw [List.map_map]; rfl
  rw [e2]
  dsimp only
  rw [iAt_lst updG_same]
  refine for_enc (xs:=l) (fun pre τ G'=>∃ post,l=pre++post/\(∃ b,τ=[some (.ref a),some (enc x),some (enc y),some (.int vx),b])/\G' a=some (.dic (encKV (pre.map (rlb vx vy)++post)))/\G' p=some (.lst (l.map fun p=>enc p.1))/\∀ b o,b≠a->G b=some o->G' b=some o) ⟨l,rfl,⟨_,rfl⟩,by rw [List.map_nil,List.nil_append,updG_ne nap]; exact ga,updG_same,fun b o hb e=>by
   have:b≠p:=by rintro rfl; rw [e] at hp; cases hp
   rw [updG_ne this]; exact e⟩ ?_ ?_ ?_
  ·rintro pre τ G' ⟨post,e,_,g1,g2,g3⟩
   exact g2
  ·rintro pre t pt τ G' N e ⟨post,e',⟨b,rfl⟩,g1,g2,g3⟩ hN
   have ep:post=t :: pt:=List.append_cancel_left (e'.symm.trans e)
   subst ep
   have nd2:((pre.map (rlb vx vy)++t :: pt).map (·.1)).Nodup:=by
    rw [List.map_append,rlb_keys,← List.map_append,← e]; exact nd
   have hlen:(pre.map (rlb vx vy)++t :: pt).length<=1000:=by
    rw [List.length_append,List.length_map,← List.length_append,← e]; lia
   have gt:aget (pre.map (rlb vx vy)++t :: pt) t.1=some t.2:=aget_of_mem nd2 (by simp)
   simp only [gName,List.set_cons_succ,List.set_cons_zero,ifs_at,dAsg,dBin,dVar,List.getElem?_cons_zero,List.getElem?_cons_succ,dNext,dTru_at]
   refine rIx_encD g1 gt ?_
   refine rEq_enc (α:=Int) (by decide) ?_
   simp only [Bool.false_eq_true,if_false,truAt_bl]
   by_cases ht:t.2=vx
   ·have gy:aget (pre.map (rlb vx vy)++t :: pt) y=some vy:=by
     have hm:(y,vy)∈l:=mem_of_aget hy
     refine aget_of_mem (p:=(y,vy)) nd2 ?_
     rw [e] at hm
     rcases List.mem_append.mp hm with z | z
     ·refine List.mem_append_left _ (List.mem_map.mpr ⟨(y,vy),z,?_⟩)
      unfold rlb
      rw [if_neg (fun w=>hv w.symm)]
     ·exact List.mem_append_right _ z
    simp only [ht,decide_true,gSub,dVar,List.getElem?_cons_zero,List.getElem?_cons_succ,if_true]
    refine rIx_encD g1 gy ?_
    refine P.setIx_dic (l:=pre.map (rlb vx vy)++t :: pt) (k:=t.1) (v:=vy) g1 hlen ?_
    have eput:aput (pre.map (rlb vx vy)++t :: pt) t.1 vy=(pre++[t]).map (rlb vx vy)++pt:=by
     have:=aput_mid (P:=pre.map (rlb vx vy)) (R:=pt) (k:=t.1) (v:=t.2) (w:=vy) nd2
     rw [this,List.map_append,List.append_assoc]
     congr 1
     show _=[rlb vx vy t]++pt
     unfold rlb
     rw [if_pos ht]; rfl
    rw [eput]
    refine hN _ _ ⟨pt,by rw [List.append_assoc]; exact e,⟨_,rfl⟩,updG_same,by rw [updG_ne (Ne.symm nap)]; exact g2,fun b o hb e=>by rw [updG_ne hb]; exact g3 b o hb e⟩
   ·simp only [ht,decide_false,Bool.false_eq_true,if_false]
    refine hN _ _ ⟨pt,by rw [List.append_assoc]; exact e,⟨_,rfl⟩,?_,g2,g3⟩
    have:(pre++[t]).map (rlb vx vy)++pt=pre.map (rlb vx vy)++t :: pt:=by
     rw [List.map_append,List.append_assoc]
     congr 1
     show [rlb vx vy t]++pt=_
     unfold rlb
     rw [if_neg ht]; rfl
    rw [this]; exact g1
  ·rintro τ G' ⟨post,e,⟨b,rfl⟩,g1,g2,g3⟩
   have:post=[]:=by
    have:=congrArg List.length e
    rw [List.length_append] at this
    exact List.length_eq_zero_iff.mp (by lia)
   subst this
   rw [List.append_nil] at g1
   exact q _ g1 g3
end K29
end K2
end
section
namespace K2
open PySem (Str)
open Enc (enc)
namespace K29
open K2.P K2.K12
open K2.K3
variable {rows:Rows}
noncomputable def lcAt (rows:Rows) (t:T3):List (T3×T3):=if t.b=0 then (if t.c=1 then cornersAt ⟨t.a,0⟩ ⟨t.a,1⟩ (cmg rows ⟨t.a,0⟩) (cmg rows ⟨t.a,1⟩) else cornersAt ⟨t.a,1⟩ ⟨t.a,0⟩ (cmg rows ⟨t.a,1⟩) (cmg rows ⟨t.a,0⟩)) else []
noncomputable def lcorn (rows:Rows) (L:List T3):List (T3×T3):=L.flatMap (lcAt rows)
theorem lcorn_len (rows:Rows) (L:List T3):(lcorn rows L).length<=4 * L.length:=by
 induction L with
 | nil=>simp [lcorn]
 | cons t L ih =>
  have:(lcorn rows (t :: L)).length=(lcAt rows t).length+(lcorn rows L).length:=by unfold lcorn; rw [List.flatMap_cons,List.length_append]
  rw [this,List.length_cons]
  have:(lcAt rows t).length<=4:=by
   unfold lcAt
   split
   ·split <;> simp [cornersAt]
   ·simp
  lia
theorem lcorn_mem (d:Dr rows) (p:T3×T3):p∈lcorn rows rows.flatten↔p∈cornersOf rows:=by
 unfold lcorn cornersOf
 rw [List.mem_flatMap,List.mem_flatMap]
 constructor
 ·rintro ⟨t,ht,hp⟩
  unfold lcAt at hp
  split at hp
  ·rename_i hb
   exact ⟨t.a,names_mem.mpr ⟨t,ht,hb,rfl⟩,by rw [hand_at d ht]; exact hp⟩
  ·cases hp
 ·rintro ⟨n,hn,hp⟩
  obtain ⟨t,ht,hb,rfl⟩:=names_mem.mp hn
  refine ⟨t,ht,?_⟩
  unfold lcAt
  rw [if_pos hb]
  rw [hand_at d ht] at hp
  exact hp
theorem lcorn_cn (d:Dr rows) (x y:T3):Cn (lcorn rows rows.flatten) x y↔Cn (cornersOf rows) x y :=
 ⟨Cn.mono fun p hp=>(lcorn_mem d p).mp hp,Cn.mono fun p hp=>(lcorn_mem d p).mpr hp⟩
theorem come_get (d:Dr rows) {p:T3} (h:p∈rows.flatten):aget (comesD (prs rows)) p.s=some (cmg rows p.s):=by
 obtain ⟨q,hq,_⟩:=has_prev h
 rw [comesD_get d hq,(cmg_of d hq).2]
noncomputable def sp_law_corners:Sp2:=spF1 Dr fun rows=>lcorn rows rows.flatten
noncomputable def rd_law_corners:TS2 :=
 (dSeq (dAsg dDic (gName 1))
 (dSeq (dFor (iSeq (dVar 0)) (gName 2) (dFor (iRng1 (dCB cLen (dCons (dVar 2) dNil))) (gName 3) (dAsg (dTup (dCons (dBin rIx (dBin rIx (dVar 2) (dBin rSub (dVar 3) (dC (.int 1)))) (dC (.int 0))) (dCons (dBin rIx (dBin rIx (dVar 2) (dBin rSub (dVar 3) (dC (.int 1)))) (dC (.int 1))) dNil))) (gSub (dVar 1) (dTup (dCons (dBin rIx (dBin rIx (dVar 2) (dVar 3)) (dC (.int 0))) (dCons (dBin rIx (dBin rIx (dVar 2) (dVar 3)) (dC (.int 1))) dNil)))))))
 (dSeq (dAsg (dLst dNil) (gName 4))
 (dSeq (dFor (iSeq (dVar 0)) (gName 2) (dFor (iSeq (dVar 2)) (gTup (gCons (gName 5) (gCons (gName 6) (gCons (gName 7) gNil)))) (dIfS (dTru (dBin (rEq false) (dVar 6) (dC (.int 0)))) (dSeq (dAsg (dBin rIx (dVar 1) (dTup (dCons (dVar 5) (dCons (dC (.int 0)) dNil)))) (gName 8))
 (dSeq (dAsg (dBin rIx (dVar 1) (dTup (dCons (dVar 5) (dCons (dC (.int 1)) dNil)))) (gName 9))
 (dIfS (dTru (dBin (rEq false) (dVar 7) (dC (.int 1)))) (dSeq (dExpr (dMt tyL mAppend (dVar 4) (dCons (dTup (dCons (dBin rAdd (dVar 8) (dTup (dCons (dC (.int 1)) dNil))) (dCons (dBin rAdd (dVar 9) (dTup (dCons (dC (.int 0)) dNil))) dNil))) dNil)))
 (dSeq (dExpr (dMt tyL mAppend (dVar 4) (dCons (dTup (dCons (dBin rAdd (dVar 9) (dTup (dCons (dC (.int 1)) dNil))) (dCons (dTup (dCons (dVar 5) (dCons (dC (.int 0)) (dCons (dC (.int 1)) dNil)))) dNil))) dNil)))
 (dSeq (dExpr (dMt tyL mAppend (dVar 4) (dCons (dTup (dCons (dTup (dCons (dVar 5) (dCons (dC (.int 0)) (dCons (dC (.int 0)) dNil)))) (dCons (dTup (dCons (dVar 5) (dCons (dC (.int 1)) (dCons (dC (.int 1)) dNil)))) dNil))) dNil)))
 (dExpr (dMt tyL mAppend (dVar 4) (dCons (dTup (dCons (dTup (dCons (dVar 5) (dCons (dC (.int 1)) (dCons (dC (.int 0)) dNil)))) (dCons (dBin rAdd (dVar 8) (dTup (dCons (dC (.int 0)) dNil))) dNil))) dNil)))))) (dSeq (dExpr (dMt tyL mAppend (dVar 4) (dCons (dTup (dCons (dBin rAdd (dVar 9) (dTup (dCons (dC (.int 1)) dNil))) (dCons (dBin rAdd (dVar 8) (dTup (dCons (dC (.int 0)) dNil))) dNil))) dNil)))
 (dSeq (dExpr (dMt tyL mAppend (dVar 4) (dCons (dTup (dCons (dBin rAdd (dVar 8) (dTup (dCons (dC (.int 1)) dNil))) (dCons (dTup (dCons (dVar 5) (dCons (dC (.int 1)) (dCons (dC (.int 1)) dNil)))) dNil))) dNil)))
 (dSeq (dExpr (dMt tyL mAppend (dVar 4) (dCons (dTup (dCons (dTup (dCons (dVar 5) (dCons (dC (.int 1)) (dCons (dC (.int 0)) dNil)))) (dCons (dTup (dCons (dVar 5) (dCons (dC (.int 0)) (dCons (dC (.int 1)) dNil)))) dNil))) dNil)))
 (dExpr (dMt tyL mAppend (dVar 4) (dCons (dTup (dCons (dTup (dCons (dVar 5) (dCons (dC (.int 0)) (dCons (dC (.int 0)) dNil)))) (dCons (dBin rAdd (dVar 9) (dTup (dCons (dC (.int 0)) dNil))) dNil))) dNil))))))))) dNext)))
 (dRet (dFz (dVar 4)))))))
theorem addT (a b c:Int) {G:Gp} {Q:DK} (q:Q (.tup [.int a,.int b,.int c]) G):rAdd (.tup [.int a,.int b]) (.tup [.int c]) G Q:=⟨by simp,(show 2+1<=SZ by decide),q⟩
theorem OK_law_corners (ds:List D) (G:Gp) (Q:DK) (h:sp_law_corners ds G Q fun _ _=>False):rd_law_corners (fun _ _=>False) (ends Q) (start2 10 ds) G:=by
 obtain ⟨rows,rfl,dr,q⟩:=h
 have dr:Dr rows:=dr
 have few:=dr.few
 unfold rd_law_corners
 simp only [ends,start2,List.map_cons,List.map_nil,List.length_cons,List.length_nil,List.replicate,List.cons_append,List.nil_append,seq_asg,dAsg,dDic,dNew,gName,List.set_cons_succ,List.set_cons_zero]
 intro d hd
 refine seq_by (fun τ G'=>(∃ a b,τ=[some (enc rows),some (.ref d),a,b,none,none,none,none,none,none])/\GLe G G'/\G' d=some (.dic (encKV (comesD (prs rows))))) ?_ ?_
 ·intro N hN
  simp only [dFor,iSeq_at,dVar,List.getElem?_cons_zero]
  refine iAt_enc ?_
  refine for_enc (xs:=rows) (fun pre τ G'=>(∃ a b,τ=[some (enc rows),some (.ref d),a,b,none,none,none,none,none,none])/\GLe G G'/\G' d=some (.dic (encKV (comesD (prs pre))))) ⟨⟨_,_,rfl⟩,.new hd,updG_same⟩ (fun _ _ _ _=>trivial) ?_ ?_
  ·rintro pre r post τ G1 N2 e ⟨⟨a1,a2,rfl⟩,l1,gd1⟩ hN2
   have hz:=prs_pre e
   simp only [gName,dFor,List.set_cons_succ,List.set_cons_zero,iRng1_at,dCB,dCons,dVar,List.getElem?_cons_succ,List.getElem?_cons_zero,dNil]
   refine cLen_of (IsL.enc r) ?_
   simp only [rngAt_int]
   rw [List.length_map]
   refine ⟨by lia,by lia,?_⟩
   unfold rangeD
   refine for_enc (xs:=List.range (r.length:Int).toNat) (fun ks τ G'=>(∃ b,τ=[some (enc rows),some (.ref d),some (enc r),b,none,none,none,none,none,none])/\GLe G G'/\G' d=some (.dic (encKV (comesD (prs pre++pr1 r ks))))) ⟨⟨_,rfl⟩,l1,by rw [gd1]; simp [pr1]⟩ (fun _ _ _ _=>trivial) ?_ ?_
   ·rintro ks k post2 τ G2 N3 e3 ⟨⟨b,rfl⟩,l2,gd2⟩ hN3
    have hk:k < r.length:=by
     have:k∈List.range (r.length:Int).toNat:=by rw [e3]; simp
     have:=List.mem_range.mp this; lia
    have hks:ks.length<=r.length:=by
     have:=congrArg List.length e3
     rw [List.length_range,List.length_append,List.length_cons] at this; lia
    simp only [gName,dAsg,dTup,dCons,dBin,dVar,List.set_cons_succ,List.set_cons_zero,List.getElem?_cons_succ,List.getElem?_cons_zero,dC,dNil,List.length_cons,List.length_nil,gSub,rSub_int]
    refine rIx_of (IsL.enc r) (atI_prv hk) ?_
    simp only [enc_T3,rIx_tupM,at0]
    refine rIx_of (IsL.enc r) (atI_prv hk) ?_
    simp only [enc_T3,rIx_tupM,at1]
    refine ⟨by decide,?_⟩
    refine rIx_of (IsL.enc r) (K12.atI_at hk) ?_
    simp only [enc_T3,rIx_tupM,at0]
    refine rIx_of (IsL.enc r) (K12.atI_at hk) ?_
    simp only [enc_T3,rIx_tupM,at1]
    refine ⟨by decide,?_⟩
    refine P.setIx_dic (k:=(r.getD k z3).s) (v:=(prv r k).s) gd2 ?_ ?_
    ·refine Nat.le_trans (K12.fold_len _ _ _) ?_
     rw [List.length_append,pr1_len]; lia
    ·refine hN3 _ _ ⟨⟨_,rfl⟩,l2.put hd,?_⟩
     rw [updG_same]
     have:prs pre++pr1 r (ks++[k])=(prs pre++pr1 r ks)++[(prv r k,r.getD k z3)]:=by unfold pr1; simp
     rw [this]
     unfold comesD
     rw [List.foldl_append (l':=[(prv r k,r.getD k z3)])]
     rfl
   ·rintro τ G2 ⟨⟨b,rfl⟩,l2,gd2⟩
    refine hN2 _ _ ⟨⟨_,_,rfl⟩,l2,?_⟩
    rw [prs_snoc]; exact gd2
  ·rintro τ G2 ⟨⟨b,c,rfl⟩,l2,gd2⟩
   exact hN _ _ ⟨⟨_,_,rfl⟩,l2,gd2⟩
 rintro _ G2 ⟨⟨b,c,rfl⟩,l2,gd2⟩
 simp only [seq_asg,dAsg,dLst,dNil,List.length_nil,gName,List.set_cons_succ,List.set_cons_zero]
 refine ⟨by decide,fun p hp=>?_⟩
 have fp:G p=none:=l2.free hp
 have ndp:d≠p:=by rintro rfl; rw [gd2] at hp; cases hp
 have l3:=l2.trans (GLe.new (o:=.lst []) hp)
 have g3d:(updG G2 p (.lst [])) d=some (.dic (encKV (comesD (prs rows)))):=by rw [updG_ne ndp]; exact gd2
 have g3p:(updG G2 p (.lst [])) p=some (.lst ((lcorn rows []).map enc)):=updG_same
 generalize updG G2 p (.lst [])=G3 at l3 g3d g3p
 refine seq_by (fun τ G'=>(∃ a b e f g h i,τ=[some (enc rows),some (.ref d),a,b,some (.ref p),e,f,g,h,i])/\GLe G G'/\G' p=some (.lst ((lcorn rows rows.flatten).map enc))) ?_ ?_
 ·intro N hN
  simp only [dFor,iSeq_at,dVar,List.getElem?_cons_zero]
  refine iAt_enc ?_
  refine for_enc (xs:=rows) (fun pre τ G'=>(∃ a b e f g h i,τ=[some (enc rows),some (.ref d),a,b,some (.ref p),e,f,g,h,i])/\GLe G G'/\G' d=some (.dic (encKV (comesD (prs rows))))/\G' p=some (.lst ((lcorn rows pre.flatten).map enc))) ⟨⟨_,_,_,_,_,_,_,rfl⟩,l3,g3d,g3p⟩ (fun _ _ _ _=>trivial) ?_ ?_
  ·rintro pre r post τ G4 N2 e ⟨⟨a1,a2,a3,a4,a5,a6,a7,rfl⟩,l4,g4d,g4p⟩ hN2
   have hlen:pre.flatten.length+r.length<=rows.flatten.length:=by
    rw [e]; simp only [List.flatten_append,List.flatten_cons,List.length_append]; lia
   simp only [gName,dFor,List.set_cons_succ,List.set_cons_zero,iSeq_at,dVar,List.getElem?_cons_succ,List.getElem?_cons_zero]
   refine iAt_enc ?_
   refine for_enc (xs:=r) (fun pp τ G'=>(∃ a b e f g h i,τ=[some (enc rows),some (.ref d),a,b,some (.ref p),e,f,g,h,i])/\GLe G G'/\G' d=some (.dic (encKV (comesD (prs rows))))/\G' p=some (.lst ((lcorn rows (pre.flatten++pp)).map enc))) ⟨⟨_,_,_,_,_,_,_,rfl⟩,l4,g4d,by rw [List.append_nil]; exact g4p⟩ (fun _ _ _ _=>trivial) ?_ ?_
   ·rintro pp t pt τ G5 N3 e5 ⟨⟨b1,b2,b3,b4,b5,b6,b7,rfl⟩,l5,g5d,g5p⟩ hN3
    have hpp:pp.length < r.length:=by have:=congrArg List.length e5; simp at this; lia
    have ht:t∈rows.flatten:=by rw [e,List.flatten_append,List.flatten_cons,e5]; simp
    have hz:=lcorn_len rows (pre.flatten++pp)
    rw [List.length_append] at hz
    have el:lcorn rows (pre.flatten++(pp++[t]))=lcorn rows (pre.flatten++pp)++lcAt rows t:=by
     rw [← List.append_assoc]; unfold lcorn; rw [List.flatMap_append (xs:=pre.flatten++pp)]; simp
    have hmt:=om_in dr ht
    simp only [gTup,enc_T3,gCons,gName,gNil,List.set_cons_succ,List.set_cons_zero,ifs_at,seq_asg,dAsg,dBin,dVar,List.getElem?_cons_succ,List.getElem?_cons_zero,dTup,dCons,dC,dNil,List.length_cons,List.length_nil,seq_expr,dExpr,dMt,tyL_ref,mAppend_ref,dTru_at,dNext]
    refine ⟨_,_,.int _,.int _,?_⟩
    rw [eq_int]
    by_cases hb:t.b=0
    ·have e0:(D.tup [.int t.a,.int 0])=enc t.s:=by rw [enc_T2]; show _=D.tup [.int t.a,.int t.b]; rw [hb]
     have e1:(D.tup [.int t.a,.int 1])=enc (om t).s:=by rw [enc_T2]; show _=D.tup [.int t.a,.int (1 - t.b)]; rw [hb]; rfl
     have s0:t.s=(⟨t.a,0⟩:T2):=by unfold T3.s; rw [hb]
     have s1:(om t).s=(⟨t.a,1⟩:T2):=by unfold om T3.s; rw [hb]; rfl
     simp only [Bool.false_eq_true,hb,decide_true,Bool.not_true,if_false,truAt_bl,if_true]
     refine ⟨by decide,?_⟩
     rw [e0]
     refine rIx_encD g5d (come_get dr ht) ?_
     refine ⟨by decide,?_⟩
     rw [e1]
     refine rIx_encD g5d (come_get dr hmt) ?_
     rw [s0,s1]
     refine ⟨_,_,.int _,.int _,?_⟩
     rw [eq_int]
     have hlc:lcAt rows t=if t.c=1 then cornersAt ⟨t.a,0⟩ ⟨t.a,1⟩ (cmg rows ⟨t.a,0⟩) (cmg rows ⟨t.a,1⟩) else cornersAt ⟨t.a,1⟩ ⟨t.a,0⟩ (cmg rows ⟨t.a,1⟩) (cmg rows ⟨t.a,0⟩):=by unfold lcAt; rw [if_pos hb]
     generalize cmg rows ⟨t.a,0⟩=fc at *
     generalize cmg rows ⟨t.a,1⟩=sc at *
     generalize lcorn rows (pre.flatten++pp)=L at *
     have hL:L.length<=900:=by lia
     by_cases hc:t.c=1
     ·simp only [Bool.false_eq_true,hc,decide_true,Bool.not_true,if_false,truAt_bl,g5p,true_and,if_true]
      refine ⟨by decide,addT _ _ _ ?_⟩
      refine ⟨by decide,addT _ _ _ ?_⟩
      refine ⟨by decide,?_⟩
      simp only [g5p]
      refine ⟨szlt (by rw [List.length_map]; lia),?_⟩
      simp only [updG_same]
      refine ⟨trivial,by decide,addT _ _ _ ?_⟩
      refine ⟨by decide,by decide,?_⟩
      simp only [updG_same]
      refine ⟨szlt (by rw [List.length_append,List.length_map,List.length_singleton]; lia),trivial,by decide,by decide,by decide,szlt (by simp only [List.length_append,List.length_map,List.length_singleton]; lia),trivial,by decide,by decide,addT _ _ _ ?_⟩
      refine ⟨by decide,?_⟩
      simp only [updG_same]
      refine ⟨szlt (by simp only [List.length_append,List.length_map,List.length_singleton]; lia),?_⟩
      refine hN3 _ _ ⟨⟨_,_,_,_,_,_,_,rfl⟩,((l5.put fp).put fp).put fp |>.put fp,?_,?_⟩
      ·simp only [updG_ne ndp]; exact g5d
      ·rw [updG_same,el,hlc,if_pos hc]
       simp only [List.map_append,List.append_assoc]
       rfl
     ·simp only [Bool.false_eq_true,hc,decide_false,Bool.not_false,if_false,truAt_bl,g5p,true_and]
      refine ⟨by decide,addT _ _ _ ?_⟩
      refine ⟨by decide,addT _ _ _ ?_⟩
      refine ⟨by decide,?_⟩
      simp only [g5p]
      refine ⟨szlt (by rw [List.length_map]; lia),?_⟩
      simp only [updG_same]
      refine ⟨trivial,by decide,addT _ _ _ ?_⟩
      refine ⟨by decide,by decide,?_⟩
      simp only [updG_same]
      refine ⟨szlt (by rw [List.length_append,List.length_map,List.length_singleton]; lia),trivial,by decide,by decide,by decide,szlt (by simp only [List.length_append,List.length_map,List.length_singleton]; lia),trivial,by decide,by decide,addT _ _ _ ?_⟩
      refine ⟨by decide,?_⟩
      simp only [updG_same]
      refine ⟨szlt (by simp only [List.length_append,List.length_map,List.length_singleton]; lia),?_⟩
      refine hN3 _ _ ⟨⟨_,_,_,_,_,_,_,rfl⟩,((l5.put fp).put fp).put fp |>.put fp,?_,?_⟩
      ·simp only [updG_ne ndp]; exact g5d
      ·rw [updG_same,el,hlc,if_neg hc]
       simp only [List.map_append,List.append_assoc]
       rfl
    ·simp only [Bool.false_eq_true,hb,decide_false,Bool.not_false,if_false,truAt_bl]
     refine hN3 _ _ ⟨⟨_,_,_,_,_,_,_,rfl⟩,l5,g5d,?_⟩
     have:lcAt rows t=[]:=by unfold lcAt; rw [if_neg hb]
     rw [el,this,List.append_nil]; exact g5p
   ·rintro τ G5 ⟨hτ,l5,g5d,g5p⟩
    refine hN2 _ _ ⟨hτ,l5,g5d,?_⟩
    have:(pre++[r]).flatten=pre.flatten++r:=by simp
    rw [this]; exact g5p
  ·rintro τ G5 ⟨hτ,l5,g5d,g5p⟩
   exact hN _ _ ⟨hτ,l5,g5p⟩
 ·rintro _ G5 ⟨⟨b1,b2,b3,b4,b5,b6,b7,rfl⟩,l5,g5p⟩
  simp only [dRet,dFz,dVar,List.getElem?_cons_succ,List.getElem?_cons_zero]
  exact fz_enc l5 fp g5p q
end K29
end K2
end
section
namespace K2
open PySem (Str)
open Enc (enc)
namespace K29
open K2.P K2.K12
open K2.K3
variable {rows:Rows}
noncomputable def lab0 {κ:Type} (ms:List κ):List (κ×Int):=(ms.zipIdx 0).map fun p=>(p.1,(p.2:Int))
theorem lab0_keys {κ:Type} (ms:List κ):(lab0 ms).map (·.1)=ms:=by
 unfold lab0
 rw [List.map_map]
 have:((fun x:κ×Int=>x.1)∘fun p:κ×Nat=>(p.1,(p.2:Int)))=fun p:κ×Nat=>p.1:=rfl
 rw [this,List.zipIdx_map_fst]
theorem lab0_len {κ:Type} (ms:List κ):(lab0 ms).length=ms.length:=by rw [← List.length_map (f:=fun p:κ×Int=>p.1),lab0_keys]
theorem lab0_snoc {κ:Type} (ms:List κ) (m:κ):lab0 (ms++[m])=lab0 ms++[(m,(ms.length:Int))]:=by
 unfold lab0
 rw [List.zipIdx_append,List.map_append]
 simp
theorem cn_nil {α:Type} {x y:α} (c:Cn ([]:List (α×α)) x y):x=y:=by
 induction c with
 | refl x=>rfl
 | pair h=>cases h
 | symm _ ih=>exact ih.symm
 | trans _ _ a b=>exact a.trans b
theorem lab0_li {κ:Type} [DecidableEq κ] {ms:List κ} (nd:ms.Nodup):LI ms [] (lab0 ms):=by
 refine ⟨lab0_keys ms,fun x y vx vy hx hy=>?_⟩
 have mx:=mem_of_aget hx
 have my:=mem_of_aget hy
 unfold lab0 at mx my
 obtain ⟨⟨x',i⟩,hi,ex⟩:=List.mem_map.mp mx
 obtain ⟨⟨y',j⟩,hj,ey⟩:=List.mem_map.mp my
 injection ex with e1 e2
 injection ey with e3 e4
 dsimp only at e1 e2 e3 e4
 subst e1 e2 e3 e4
 have gi:=List.mem_zipIdx_iff_getElem?.mp hi
 have gj:=List.mem_zipIdx_iff_getElem?.mp hj
 simp only [Nat.sub_zero] at gi gj
 constructor
 ·intro e
  have:i=j:=by lia
  subst this
  rw [gi] at gj
  cases gj
  exact .refl _
 ·intro c
  have:=cn_nil c
  subst this
  have g1:=List.getElem?_eq_some_iff.mp gi
  have g2:=List.getElem?_eq_some_iff.mp gj
  have pw:=List.pairwise_iff_getElem.mp nd
  rcases Nat.lt_trichotomy i j with lt | eq | gt
  ·exact absurd (g1.2.trans g2.2.symm) (pw i j g1.1 g2.1 lt)
  ·rw [eq]
  ·exact absurd (g2.2.trans g1.2.symm) (pw j i g2.1 g1.1 gt)
theorem LI.get {κ:Type} [DecidableEq κ] {ms:List κ} {ps:List (κ×κ)} {l:List (κ×Int)} (h:LI ms ps l) {k:κ} (hk:k∈ms):∃ v,aget l k=some v:=by
 have:=aget_isSome (l:=l) (k:=k)
 rw [h.keys] at this
 simp only [hk,decide_true] at this
 exact Option.isSome_iff_exists.mp this
theorem LI.len {κ:Type} [DecidableEq κ] {ms:List κ} {ps:List (κ×κ)} {l:List (κ×Int)} (h:LI ms ps l):l.length=ms.length:=by
 rw [← h.keys,List.length_map]
noncomputable def msL (rows:Rows):List T3:=sidesL (spotsL rows 0)
theorem ms_nd (d:Dr rows):(msL rows).Nodup:=sidesL_nd (spotsL_nd d)
theorem ms_len (d:Dr rows):(msL rows).length<=54:=by unfold msL; rw [sidesL_len]; have:=spots_len d; lia
theorem ms_mem {x:T3}:x∈sides rows↔x∈msL rows:=by
 unfold sides msL spots
 rw [sidesL_mem,sidesL_mem]
 constructor
 ·rintro ⟨s,h,e⟩; exact ⟨s,srt_mem.mp h,e⟩
 ·rintro ⟨s,h,e⟩; exact ⟨s,srt_mem.mpr h,e⟩
noncomputable def sp_law_regions:Sp2:=fun ds G Q _=>∃ rows:Rows,ds=[enc rows]/\Dr rows/\∀ l:List (T3×Int),LI (msL rows) (lcorn rows rows.flatten) l->Q (.rod (encKV l)) G
noncomputable def rd_law_regions:TS2 :=
 (dSeq (dAsg dDic (gName 1))
 (dSeq (dFor (iSeq (dCall sp_law_spots (dCons (dVar 0) dNil))) (gName 2) (dSeq (dAsg (dCB cLenT (dCons (dVar 1) dNil)) (gSub (dVar 1) (dBin rAdd (dVar 2) (dTup (dCons (dC (.int 0)) dNil)))))
 (dAsg (dCB cLenT (dCons (dVar 1) dNil)) (gSub (dVar 1) (dBin rAdd (dVar 2) (dTup (dCons (dC (.int 1)) dNil)))))))
 (dSeq (dFor (iSeq (dCall sp_law_corners (dCons (dVar 0) dNil))) (gTup (gCons (gName 3) (gCons (gName 4) gNil))) (dExpr (dCall sp_law_joined (dCons (dVar 1) (dCons (dVar 3) (dCons (dVar 4) dNil))))))
 (dRet (dFz (dVar 1))))))
theorem OK_law_regions (ds:List D) (G:Gp) (Q:DK) (h:sp_law_regions ds G Q fun _ _=>False):rd_law_regions (fun _ _=>False) (ends Q) (start2 5 ds) G:=by
 obtain ⟨rows,rfl,dr,q⟩:=h
 have sl:=spots_len dr
 have nd:=ms_nd dr
 unfold rd_law_regions
 simp only [ends,start2,List.map_cons,List.map_nil,List.length_cons,List.length_nil,List.replicate,List.cons_append,List.nil_append,seq_asg,dAsg,dDic,dNew,gName,List.set_cons_succ,List.set_cons_zero]
 intro d hd
 refine seq_by (fun τ G'=>(∃ a,τ=[some (enc rows),some (.ref d),a,none,none])/\GLe G G'/\G' d=some (.dic (encKV (lab0 (msL rows))))) ?_ ?_
 ·intro N hN
  simp only [dFor,iSeq_at,dCall,dCons,dVar,List.getElem?_cons_zero,dNil]
  refine ⟨rows,rfl,dr,iAt_enc ?_⟩
  refine for_enc (xs:=spotsL rows 0) (fun pre τ G'=>(∃ a,τ=[some (enc rows),some (.ref d),a,none,none])/\GLe G G'/\G' d=some (.dic (encKV (lab0 (sidesL pre))))) ⟨⟨_,rfl⟩,.new hd,updG_same⟩ (fun _ _ _ _=>trivial) ?_ ?_
  ·rintro pre s post τ G' N2 e ⟨⟨a,rfl⟩,l,gd⟩ hN2
   have hpre:pre.length < 27:=by have:=congrArg List.length e; simp at this; lia
   have len:=sidesL_len pre
   have nd1:(sidesL (pre++[s])).Nodup:=by
    have:msL rows=sidesL (pre++[s])++sidesL post:=by
     unfold msL; rw [← sidesL_app,e]; simp
    rw [this] at nd
    exact (List.nodup_append.mp nd).1
   have es:sidesL (pre++[s])=sidesL pre++[lft s]++[rgt s]:=by rw [sidesL_app,List.append_assoc]; rfl
   rw [es] at nd1
   have n1:lft s∉sidesL pre:=fun z=>by
    rw [List.append_assoc,List.nodup_append] at nd1
    exact nd1.2.2 _ z _ (by simp) rfl
   have n2:rgt s∉sidesL pre++[lft s]:=fun z=>by
    rw [List.nodup_append] at nd1
    exact nd1.2.2 _ z _ (by simp) rfl
   have ek:(encKV (lab0 (sidesL pre))).length=(sidesL pre).length:=by unfold encKV; rw [List.length_map,lab0_len]
   simp only [gName,enc_T2,List.set_cons_succ,List.set_cons_zero,seq_step,dAsg,dCB,dCons,dVar,List.getElem?_cons_succ,List.getElem?_cons_zero,dNil,cLenT,gd,gSub,dBin,dTup,dC,List.length_cons,List.length_nil,rAdd_tup,List.cons_append,List.nil_append]
   refine ⟨by rw [ek]; lia,by decide,by simp,by decide,?_⟩
   rw [ek]
   refine P.setIx_dic (l:=lab0 (sidesL pre)) (k:=lft s) (v:=((sidesL pre).length:Int)) gd (by rw [lab0_len]; lia) ?_
   rw [aput_new (by rw [lab0_keys]; exact n1),← lab0_snoc]
   have g2:(updG G' d (.dic (encKV (lab0 (sidesL pre++[lft s]))))) d=some (.dic (encKV (lab0 (sidesL pre++[lft s])))):=updG_same
   have l2:GLe G (updG G' d (.dic (encKV (lab0 (sidesL pre++[lft s]))))):=l.put hd
   generalize updG G' d (.dic (encKV (lab0 (sidesL pre++[lft s]))))=G2 at g2 l2
   have ek2:(encKV (lab0 (sidesL pre++[lft s]))).length=(sidesL pre++[lft s]).length:=by unfold encKV; rw [List.length_map,lab0_len]
   simp only [g2]
   refine ⟨by rw [ek2,List.length_append,List.length_singleton]; lia,by decide,by simp,by decide,?_⟩
   rw [ek2]
   refine P.setIx_dic (l:=lab0 (sidesL pre++[lft s])) (k:=rgt s) (v:=((sidesL pre++[lft s]).length:Int)) g2 (by rw [lab0_len,List.length_append,List.length_singleton]; lia) ?_
   rw [aput_new (by rw [lab0_keys]; exact n2),← lab0_snoc,← es]
   exact hN2 _ _ ⟨⟨_,rfl⟩,l2.put hd,updG_same⟩
  ·rintro τ G' ⟨⟨a,rfl⟩,l,gd⟩
   exact hN _ _ ⟨⟨_,rfl⟩,l,gd⟩
 rintro _ G1 ⟨⟨a,rfl⟩,l1,g1⟩
 refine seq_by (fun τ G'=>(∃ a b c,τ=[some (enc rows),some (.ref d),a,b,c])/\GLe G G'/\∃ l:List (T3×Int),G' d=some (.dic (encKV l))/\LI (msL rows) (lcorn rows rows.flatten) l) ?_ ?_
 ·intro N hN
  simp only [dFor,iSeq_at,dCall,dCons,dVar,List.getElem?_cons_zero,dNil]
  refine ⟨rows,rfl,dr,iAt_enc ?_⟩
  refine for_enc (xs:=lcorn rows rows.flatten) (fun pre τ G'=>(∃ a b c,τ=[some (enc rows),some (.ref d),a,b,c])/\GLe G G'/\∃ l:List (T3×Int),G' d=some (.dic (encKV l))/\LI (msL rows) pre l) ⟨⟨_,_,_,rfl⟩,l1,_,g1,lab0_li nd⟩ (fun _ _ _ _=>trivial) ?_ ?_
  ·rintro pre p post τ G2 N2 e ⟨⟨a1,a2,a3,rfl⟩,l2,l,g2,li⟩ hN2
   have hp:p∈cornersOf rows:=(lcorn_mem dr p).mp (by rw [e]; simp)
   obtain ⟨m1,m2⟩:=corner_sides dr p hp
   obtain ⟨v1,e1⟩:=li.get (ms_mem.mp m1)
   obtain ⟨v2,e2⟩:=li.get (ms_mem.mp m2)
   have ml:=ms_len dr
   simp only [gTup,enc_pair,gCons,gName,gNil,dExpr,dCall,dCons,dVar,List.set_cons_succ,List.set_cons_zero,List.getElem?_cons_succ,List.getElem?_cons_zero,dNil]
   refine ⟨T3,inferInstance,inferInstance,inferInstance,d,l,p.1,p.2,rfl,g2,v1,v2,⟨e1,e2,by rw [li.len]; lia,by rw [li.keys]; exact nd⟩,fun G3 g3 k3=>?_⟩
   refine hN2 _ _ ⟨⟨_,_,_,rfl⟩,fun b o eb=>?_,_,g3,li.join e1 e2⟩
   have hb:b≠d:=by rintro rfl; rw [hd] at eb; cases eb
   exact k3 b o hb (l2 b o eb)
  ·rintro τ G2 ⟨hτ,l2,hl⟩
   exact hN _ _ ⟨hτ,l2,hl⟩
 ·rintro _ G2 ⟨⟨a1,a2,a3,rfl⟩,l2,l,g2,li⟩
  simp only [dRet,dFz,dVar,List.getElem?_cons_succ,List.getElem?_cons_zero]
  exact fz_rod l2 hd g2 (q l li)
noncomputable def lcr (rows:Rows) (ns:List Int):List (Int×Int):=ns.map fun n=>((strI rows ⟨n,0⟩:Int),(strI rows ⟨n,1⟩:Int))
theorem lcr_cn (x y:Int):Cn (lcr rows (onm rows.flatten)) x y↔Cn (crossed rows) x y:=by
 have:∀ p,p∈lcr rows (onm rows.flatten)↔p∈crossed rows:=fun p=>by
  unfold lcr crossed names
  rw [List.mem_map,List.mem_map]
  constructor
  ·rintro ⟨n,h,e⟩; exact ⟨n,srt_mem.mpr h,e⟩
  ·rintro ⟨n,h,e⟩; exact ⟨n,srt_mem.mp h,e⟩
 exact ⟨Cn.mono fun p hp=>(this p).mp hp,Cn.mono fun p hp=>(this p).mpr hp⟩
noncomputable def sp_law_hanging:Sp2:=fun ds G Q _=>∃ rows:Rows,ds=[enc rows]/\Dr rows/\∀ l:List (Int×Int),LI (strz rows) (lcr rows (onm rows.flatten)) l->Q (.rod (encKV l)) G
noncomputable def rd_law_hanging:TS2 :=
 (dSeq (dAsg dDic (gName 1))
 (dSeq (dFor (iRng1 (dCB cLen (dCons (dVar 0) dNil))) (gName 2) (dAsg (dVar 2) (gSub (dVar 1) (dVar 2))))
 (dSeq (dAsg (dCall sp_law_strings (dCons (dVar 0) dNil)) (gName 3))
 (dSeq (dFor (iSeq (dCall sp_law_names (dCons (dVar 0) dNil))) (gName 4) (dExpr (dCall sp_law_joined (dCons (dVar 1) (dCons (dBin rIx (dVar 3) (dTup (dCons (dVar 4) (dCons (dC (.int 0)) dNil)))) (dCons (dBin rIx (dVar 3) (dTup (dCons (dVar 4) (dCons (dC (.int 1)) dNil)))) dNil))))))
 (dRet (dFz (dVar 1)))))))
theorem onm_spots (dr:Dr rows) {n:Int} (h:n∈onm rows.flatten) (w:Int) (hw:w=0\/w=1):(⟨n,w⟩:T2)∈spotsL rows 0:=by
 obtain ⟨t,ht,rfl⟩:=List.mem_map.mp h
 obtain ⟨hm,hb⟩:=List.mem_filter.mp ht
 have hb:t.b=0:=by simpa using hb
 rcases hw with rfl | rfl
 ·have:(⟨t.a,0⟩:T2)=t.s:=by unfold T3.s; rw [hb]
  rw [this]; exact spotsL_has hm
 ·have:(⟨t.a,1⟩:T2)=(om t).s:=by unfold om T3.s; rw [hb]; rfl
  rw [this]; exact spotsL_has (om_in dr hm)
theorem strI_mem {s:T2} (h:s∈spotsL rows 0):(strI rows s:Int)∈strz rows:=strs_mem.mpr ⟨_,strI_lt ((spotsL_zip rows 0 s).mp h),rfl⟩
theorem OK_law_hanging (ds:List D) (G:Gp) (Q:DK) (h:sp_law_hanging ds G Q fun _ _=>False):rd_law_hanging (fun _ _=>False) (ends Q) (start2 5 ds) G:=by
 obtain ⟨rows,rfl,dr,q⟩:=h
 have few:=dr.few
 have str:=dr.str
 unfold rd_law_hanging
 simp only [ends,start2,List.map_cons,List.map_nil,List.length_cons,List.length_nil,List.replicate,List.cons_append,List.nil_append,seq_asg,dAsg,dDic,dNew,gName,List.set_cons_succ,List.set_cons_zero]
 intro d hd
 refine seq_by (fun τ G'=>(∃ a,τ=[some (enc rows),some (.ref d),a,none,none])/\GLe G G'/\G' d=some (.dic (encKV (lab0 (strz rows))))) ?_ ?_
 ·intro N hN
  simp only [dFor,iRng1_at,dCB,dCons,dVar,List.getElem?_cons_zero,dNil]
  refine cLen_of (IsL.enc rows) ?_
  rw [List.length_map]
  simp only [rngAt_int]
  refine ⟨by lia,by lia,?_⟩
  unfold rangeD
  refine for_enc (xs:=List.range (rows.length:Int).toNat) (fun ks τ G'=>(∃ a,τ=[some (enc rows),some (.ref d),a,none,none])/\GLe G G'/\G' d=some (.dic (encKV (lab0 (ks.map fun (i:Nat)=>(i:Int)))))) ⟨⟨_,rfl⟩,.new hd,updG_same⟩ (fun _ _ _ _=>trivial) ?_ ?_
  ·rintro ks k post τ G1 N2 e ⟨⟨a1,rfl⟩,l1,gd1⟩ hN2
   have hl:=congrArg List.length e
   rw [List.length_range,List.length_append,List.length_cons] at hl
   have ek:k=ks.length:=by
    have:=congrArg (fun l=>l[ks.length]?) e
    simp only [List.getElem?_append_right (Nat.le_refl _),Nat.sub_self,List.getElem?_cons_zero] at this
    rw [List.getElem?_range (by lia)] at this
    injection this with this; exact this.symm
   have hn:(k:Int)∉ks.map fun (i:Nat)=>(i:Int):=fun z=>by
    obtain ⟨i,hi,ei⟩:=List.mem_map.mp z
    have:i=k:=by lia
    subst this
    have nd:(List.range (rows.length:Int).toNat).Nodup:=List.nodup_range
    rw [e,List.nodup_append] at nd
    exact nd.2.2 _ hi _ List.mem_cons_self rfl
   simp only [gName,dAsg,dVar,List.set_cons_succ,List.set_cons_zero,List.getElem?_cons_succ,List.getElem?_cons_zero,gSub]
   refine P.setIx_dic (l:=lab0 (ks.map fun (i:Nat)=>(i:Int))) (k:=0+(k:Int)) (v:=0+(k:Int)) gd1 (by rw [lab0_len,List.length_map]; lia) ?_
   rw [Int.zero_add,aput_new (by rw [lab0_keys]; exact hn)]
   refine hN2 _ _ ⟨⟨_,rfl⟩,l1.put hd,?_⟩
   rw [updG_same,List.map_append]
   show _=some (GO.dic (encKV (lab0 ((ks.map fun (i:Nat)=>(i:Int))++[(k:Int)]))))
   rw [lab0_snoc,List.length_map,← ek]
  ·rintro τ G1 ⟨⟨a1,rfl⟩,l1,gd1⟩
   exact hN _ _ ⟨⟨_,rfl⟩,l1,by rw [gd1]; simp [strz]⟩
 rintro _ G1 ⟨⟨a,rfl⟩,l1,g1⟩
 simp only [seq_asg,dAsg,dCall,dCons,dVar,List.getElem?_cons_zero,dNil,gName,List.set_cons_succ,List.set_cons_zero]
 refine ⟨rows,rfl,dr,?_⟩
 refine seq_by (fun τ G'=>(∃ a b,τ=[some (enc rows),some (.ref d),a,some (.rod (encKV (spotsP rows 0))),b])/\GLe G G'/\∃ l:List (Int×Int),G' d=some (.dic (encKV l))/\LI (strz rows) (lcr rows (onm rows.flatten)) l) ?_ ?_
 ·intro N hN
  simp only [dFor,iSeq_at,dCall,dCons,dVar,List.getElem?_cons_zero,dNil]
  refine ⟨rows,rfl,(show rows.flatten.length<=500 by lia),iAt_enc ?_⟩
  refine for_enc (xs:=onm rows.flatten) (fun pre τ G'=>(∃ a b,τ=[some (enc rows),some (.ref d),a,some (.rod (encKV (spotsP rows 0))),b])/\GLe G G'/\∃ l:List (Int×Int),G' d=some (.dic (encKV l))/\LI (strz rows) (lcr rows pre) l) ⟨⟨_,_,rfl⟩,l1,_,g1,lab0_li (strs_nd rows)⟩ (fun _ _ _ _=>trivial) ?_ ?_
  ·rintro pre n post τ G2 N2 e ⟨⟨a1,a2,rfl⟩,l2,l,g2,li⟩ hN2
   have hn:n∈onm rows.flatten:=by rw [e]; simp
   have h0:=onm_spots dr hn 0 (.inl rfl)
   have h1:=onm_spots dr hn 1 (.inr rfl)
   obtain ⟨v1,e1⟩:=li.get (strI_mem h0)
   obtain ⟨v2,e2⟩:=li.get (strI_mem h1)
   simp only [gName,dExpr,dCall,dCons,dVar,enc_Int,List.set_cons_succ,List.set_cons_zero,List.getElem?_cons_succ,List.getElem?_cons_zero,dBin,dTup,dC,dNil,List.length_cons,List.length_nil]
   refine ⟨by decide,?_⟩
   rw [enc_sp]
   refine ixRod (spots_get dr h0) ?_
   refine ⟨by decide,?_⟩
   rw [enc_sp]
   refine ixRod (spots_get dr h1) ?_
   refine ⟨Int,inferInstance,inferInstance,inferInstance,d,l,_,_,rfl,g2,v1,v2,⟨e1,e2,by rw [li.len,strs_len]; lia,by rw [li.keys]; exact strs_nd rows⟩,fun G3 g3 k3=>?_⟩
   refine hN2 _ _ ⟨⟨_,_,rfl⟩,fun b o eb=>?_,_,g3,?_⟩
   ·have hb:b≠d:=by rintro rfl; rw [hd] at eb; cases eb
    exact k3 b o hb (l2 b o eb)
   ·have:lcr rows (pre++[n])=lcr rows pre++[((strI rows ⟨n,0⟩:Int),(strI rows ⟨n,1⟩:Int))]:=by unfold lcr; rw [List.map_append]; rfl
    rw [this]; exact li.join e1 e2
  ·rintro τ G2 ⟨hτ,l2,hl⟩
   exact hN _ _ ⟨hτ,l2,hl⟩
 ·rintro _ G2 ⟨⟨a1,a2,rfl⟩,l2,l,g2,li⟩
  simp only [dRet,dFz,dVar,List.getElem?_cons_succ,List.getElem?_cons_zero]
  exact fz_rod l2 hd g2 (q l li)
theorem at3 {a b c d:D} {r:List D}:atI (a :: b :: c :: d :: r) 3=some d:=by rw [atI_nat _ (by lia) (by simp; lia)]; rfl
theorem at4 {a b c d e:D} {r:List D}:atI (a :: b :: c :: d :: e :: r) 4=some e:=by rw [atI_nat _ (by lia) (by simp; lia)]; rfl
theorem at5 {a b c d e f:D} {r:List D}:atI (a :: b :: c :: d :: e :: f :: r) 5=some f:=by rw [atI_nat _ (by lia) (by simp; lia)]; rfl
theorem at6 {a b c d e f g:D} {r:List D}:atI (a :: b :: c :: d :: e :: f :: g :: r) 6=some g:=by rw [atI_nat _ (by lia) (by simp; lia)]; rfl
noncomputable def lay (o u:T2) (t h:Int):D:=.tup [.str "lay",.int 0,.int 0,enc o,enc u,.int t,.int h]
noncomputable def sp_law_near:Sp2:=fun ds G Q _=>∃ (rows:Rows) (l:List (T3×Int)) (o u:T2) (t h:Int),ds=[enc rows,.rod (encKV l),lay o u t h]/\(Dr rows/\LI (msL rows) (lcorn rows rows.flatten) l/\o∈spotsL rows 0/\u∈spotsL rows 0/\(h=1\/h=-1))/\Q (.bl (nearB rows o u t h)) G
noncomputable def rd_law_near:TS2 :=
 (dSeq (dAsg (dBin rIx (dVar 2) (dC (.int 3))) (gName 3))
 (dSeq (dAsg (dBin rIx (dVar 2) (dC (.int 4))) (gName 4))
 (dSeq (dAsg (dCall sp_law_strings (dCons (dVar 0) dNil)) (gName 5))
 (dSeq (dAsg (dCall sp_law_hanging (dCons (dVar 0) dNil)) (gName 6))
 (dSeq (dIfS (dTru (dBin (rEq true) (dBin rIx (dVar 6) (dBin rIx (dVar 5) (dVar 3))) (dBin rIx (dVar 6) (dBin rIx (dVar 5) (dVar 4))))) (dRet (dFz (dC (.bl true)))) dNext)
 (dSeq (dAsg (dOrV (dAndV (dBin (rEq false) (dBin rIx (dVar 2) (dC (.int 6))) (dC (.int 1))) (dBin (rEq false) (dBin rIx (dVar 2) (dC (.int 5))) (dC (.int 1)))) (dAndV (dBin (rEq false) (dBin rIx (dVar 2) (dC (.int 6))) (dUn rNeg (dC (.int 1)))) (dBin (rEq false) (dBin rIx (dVar 2) (dC (.int 5))) (dC (.int 0))))) (gName 7))
 (dRet (dFz (dBin (rEq false) (dBin rIx (dVar 1) (dBin rAdd (dVar 3) (dTup (dCons (dCB cInt (dCons (dNotV (dVar 7)) dNil)) dNil)))) (dBin rIx (dVar 1) (dBin rAdd (dVar 4) (dTup (dCons (dCB cInt (dCons (dBin (rEq false) (dBin rIx (dVar 2) (dC (.int 6))) (dUn rNeg (dC (.int 1)))) dNil)) dNil)))))))))))))
theorem ovs_mem {o:T2} (h:o∈spotsL rows 0) (t hd:Int):ovs o t hd∈msL rows:=by
 unfold msL
 rw [sidesL_mem]
 refine ⟨o,h,?_⟩
 unfold ovs
 split
 ·exact .inl rfl
 ·exact .inr rfl
theorem uns_mem {u:T2} (h:u∈spotsL rows 0) (hd:Int):uns u hd∈msL rows:=by
 unfold msL
 rw [sidesL_mem]
 refine ⟨u,h,?_⟩
 unfold uns
 split
 ·exact .inl rfl
 ·exact .inr rfl
theorem near_pcs (dr:Dr rows) {l:List (Int×Int)} (li:LI (strz rows) (lcr rows (onm rows.flatten)) l) {o u:T2} (ho:o∈spotsL rows 0) (hu:u∈spotsL rows 0) {vo vu:Int} (eo:aget l (strI rows o:Int)=some vo) (eu:aget l (strI rows u:Int)=some vu):tg (pcs rows) (strI rows o:Int) (strI rows u:Int)=decide (vo=vu):=by
 rw [Bool.eq_iff_iff,tg_pcs dr,decide_eq_true_eq,li.same _ _ _ _ eo eu,lcr_cn]
 exact ⟨fun h=>h.2.2,fun h=>⟨strI_mem ho,strI_mem hu,h⟩⟩
theorem near_reg (dr:Dr rows) {l:List (T3×Int)} (li:LI (msL rows) (lcorn rows rows.flatten) l) {x y:T3} (hx:x∈msL rows) (hy:y∈msL rows) {vx vy:Int} (ex:aget l x=some vx) (ey:aget l y=some vy):tg (reg rows) x y=decide (vx=vy):=by
 rw [Bool.eq_iff_iff,tg_reg dr,decide_eq_true_eq,li.same _ _ _ _ ex ey,lcorn_cn dr]
 exact ⟨fun h=>h.2.2,fun h=>⟨ms_mem.mpr hx,ms_mem.mpr hy,h⟩⟩
theorem OK_law_near (ds:List D) (G:Gp) (Q:DK) (h:sp_law_near ds G Q fun _ _=>False):rd_law_near (fun _ _=>False) (ends Q) (start2 8 ds) G:=by
 obtain ⟨rows,l,o,u,t,h,rfl,⟨dr,li,ho,hu,hh⟩,q⟩:=h
 unfold rd_law_near
 have la3:rIx (lay o u t h) (.int 3)=fun G Q=>Q (enc o) G:=by unfold lay; funext G Q; rw [rIx_tupM,at3]
 have la4:rIx (lay o u t h) (.int 4)=fun G Q=>Q (enc u) G:=by unfold lay; funext G Q; rw [rIx_tupM,at4]
 have la5:rIx (lay o u t h) (.int 5)=fun G Q=>Q (.int t) G:=by unfold lay; funext G Q; rw [rIx_tupM,at5]
 have la6:rIx (lay o u t h) (.int 6)=fun G Q=>Q (.int h) G:=by unfold lay; funext G Q; rw [rIx_tupM,at6]
 show dSeq _ _ _ _ [some (enc rows),some (.rod (encKV l)),some (lay o u t h),none,none,none,none,none] G
 generalize lay o u t h=L at la3 la4 la5 la6
 refine seq_by (fun τ G'=>G=G'/\τ=[some (enc rows),some (.rod (encKV l)),some L,some (enc o),none,none,none,none]) ?_ ?_
 ·intro N hN
  simp only [dAsg,dBin,dVar,List.getElem?_cons_succ,List.getElem?_cons_zero,dC,gName,List.set_cons_succ,List.set_cons_zero,la3]
  exact hN _ _ ⟨rfl,rfl⟩
 rintro _ _ ⟨rfl,rfl⟩
 refine seq_by (fun τ G'=>G=G'/\τ=[some (enc rows),some (.rod (encKV l)),some L,some (enc o),some (enc u),none,none,none]) ?_ ?_
 ·intro N hN
  simp only [dAsg,dBin,dVar,List.getElem?_cons_succ,List.getElem?_cons_zero,dC,gName,List.set_cons_succ,List.set_cons_zero,la4]
  exact hN _ _ ⟨rfl,rfl⟩
 rintro _ _ ⟨rfl,rfl⟩
 refine seq_by (fun τ G'=>G=G'/\τ=[some (enc rows),some (.rod (encKV l)),some L,some (enc o),some (enc u),some (.rod (encKV (spotsP rows 0))),none,none]) ?_ ?_
 ·intro N hN
  simp only [dAsg,dCall,dCons,dVar,List.getElem?_cons_zero,dNil,gName,List.set_cons_succ,List.set_cons_zero]
  exact ⟨rows,rfl,dr,hN _ _ ⟨rfl,rfl⟩⟩
 rintro _ _ ⟨rfl,rfl⟩
 refine seq_by (fun τ G'=>G=G'/\∃ l2,LI (strz rows) (lcr rows (onm rows.flatten)) l2/\τ=[some (enc rows),some (.rod (encKV l)),some L,some (enc o),some (enc u),some (.rod (encKV (spotsP rows 0))),some (.rod (encKV l2)),none]) ?_ ?_
 ·intro N hN
  simp only [dAsg,dCall,dCons,dVar,List.getElem?_cons_zero,dNil,gName,List.set_cons_succ,List.set_cons_zero]
  exact ⟨rows,rfl,dr,fun l2 li2=>hN _ _ ⟨rfl,l2,li2,rfl⟩⟩
 rintro _ _ ⟨rfl,l2,li2,rfl⟩
 obtain ⟨vo,eo⟩:=li2.get (strI_mem ho)
 obtain ⟨vu,eu⟩:=li2.get (strI_mem hu)
 have hpc:=near_pcs dr li2 ho hu eo eu
 unfold nearB at q
 rw [hpc] at q
 refine seq_by (fun τ G'=>G=G'/\vo=vu/\τ=[some (enc rows),some (.rod (encKV l)),some L,some (enc o),some (enc u),some (.rod (encKV (spotsP rows 0))),some (.rod (encKV l2)),none]) ?_ ?_
 ·intro N hN
  simp only [ends,ifs_at,dRet,dFz,dC,dNext,dTru_at,dBin,dVar,List.getElem?_cons_succ,List.getElem?_cons_zero]
  refine ixRod (spots_get dr ho) ?_
  refine ixRod eo ?_
  refine ixRod (spots_get dr hu) ?_
  refine ixRod eu ?_
  refine rEq_enc (α:=Int) (by decide) ?_
  by_cases hv:vo=vu
  ·simp only [hv,decide_true,Bool.not_true,if_true,truAt_bl,Bool.false_eq_true,if_false]
   exact hN _ _ ⟨rfl,hv,rfl⟩
  ·simp only [hv,decide_false,Bool.not_false,if_true,truAt_bl]
   rw [decide_eq_false hv] at q
   exact fz_id q
 rintro _ _ ⟨rfl,hv,rfl⟩
 rw [decide_eq_true hv] at q
 obtain ⟨vx,ex⟩:=li.get (ovs_mem ho t h)
 obtain ⟨vy,ey⟩:=li.get (uns_mem hu h)
 rw [near_reg dr li (ovs_mem ho t h) (uns_mem hu h) ex ey] at q
 simp only [Bool.not_true,Bool.false_or] at q
 refine seq_by (fun τ G'=>G=G'/\∃ b:Bool,ovs o t h=⟨o.a,o.b,if (!b)=true then 1 else 0⟩/\τ=[some (enc rows),some (.rod (encKV l)),some L,some (enc o),some (enc u),some (.rod (encKV (spotsP rows 0))),some (.rod (encKV l2)),some (.bl b)]) ?_ ?_
 ·intro N hN
  have oT:((h=1/\t=1)\/(h=-1/\t=0))->ovs o t h=⟨o.a,o.b,if (!true)=true then 1 else 0⟩:=fun z=>by unfold ovs; rw [if_pos z]; rfl
  have oF:¬ ((h=1/\t=1)\/(h=-1/\t=0))->ovs o t h=⟨o.a,o.b,if (!false)=true then 1 else 0⟩:=fun z=>by unfold ovs; rw [if_neg z]; rfl
  have go:∀ b,ovs o t h=⟨o.a,o.b,if (!b)=true then 1 else 0⟩->N [some (enc rows),some (.rod (encKV l)),some L,some (enc o),some (enc u),some (.rod (encKV (spotsP rows 0))),some (.rod (encKV l2)),some (.bl b)] G:=fun b hb=>hN _ _ ⟨rfl,b,hb,rfl⟩
  simp only [dAsg,gName,List.set_cons_succ,List.set_cons_zero,dOrV_at,dAndV_at,dBin,dVar,List.getElem?_cons_succ,List.getElem?_cons_zero,dC,dUn,la5,rNeg_int,la6]
  refine ⟨_,_,.int _,.int _,?_⟩
  rw [eq_int]
  simp only [Bool.false_eq_true,if_false,truAt_bl]
  by_cases h1:h=1
  ·simp only [h1,decide_true,if_true]
   refine ⟨_,_,.int _,.int _,?_⟩
   rw [eq_int]
   simp only [Bool.false_eq_true,if_false,truAt_bl]
   by_cases t1:t=1
   ·simp only [t1,decide_true,if_true]
    exact go true (oT (.inl ⟨h1,t1⟩))
   ·simp only [t1,decide_false,Bool.false_eq_true,if_false]
    refine ⟨_,_,.int _,.int _,?_⟩
    rw [eq_int]
    simp only [Bool.false_eq_true,show decide ((1:Int)=-1)=false by decide,Bool.not_false,if_false,truAt_bl]
    exact go false (oF (by rintro (⟨_,z⟩ | ⟨z,_⟩); exact t1 z; rw [h1] at z; exact absurd z (by decide)))
  ·simp only [h1,decide_false,Bool.false_eq_true,if_false]
   refine ⟨_,_,.int _,.int _,?_⟩
   rw [eq_int]
   simp only [Bool.false_eq_true,if_false,truAt_bl]
   have h2:h=-1:=by rcases hh with z | z; exact absurd z h1; exact z
   simp only [h2,decide_true,if_true]
   refine ⟨_,_,.int _,.int _,?_⟩
   rw [eq_int]
   simp only [Bool.false_eq_true,if_false]
   by_cases t0:t=0
   ·simp only [t0,decide_true]
    exact go true (oT (.inr ⟨h2,t0⟩))
   ·simp only [t0,decide_false]
    exact go false (oF (by rintro (⟨z,_⟩ | ⟨_,z⟩); exact h1 z; exact t0 z))
 rintro _ _ ⟨rfl,b,hb,rfl⟩
 simp only [dRet,dFz,dBin,dVar,List.getElem?_cons_succ,List.getElem?_cons_zero,dTup,dCons,dCB,dNil,cInt,List.length_cons,List.length_nil,dC,dUn,ends,rNeg_int,la6,dNotV_at,truAt_bl]
 refine ⟨by decide,addT _ _ _ (ixRod (k:=(⟨o.a,o.b,if (!b)=true then 1 else 0⟩:T3)) (by rw [← hb]; exact ex) ?_)⟩
 refine ⟨_,_,.int _,.int _,?_⟩
 rw [eq_int]
 have hc:uns u h=⟨u.a,u.b,if decide (h=-1)=true then 1 else 0⟩:=by
  unfold uns
  rcases hh with rfl | rfl
  ·rfl
  ·rfl
 simp only [Bool.false_eq_true,if_false]
 refine ⟨by decide,addT _ _ _ (ixRod (k:=(⟨u.a,u.b,if decide (h=-1)=true then 1 else 0⟩:T3)) (by rw [← hc]; exact ey) ?_)⟩
 refine rEq_enc (α:=Int) (by decide) ?_
 exact fz_id q
end K29
end K2
end
section
namespace K2
open PySem (Str)
open Enc (enc)
namespace K29
open K2.P K2.K12
open K2.K3
variable {rows:Rows}
noncomputable def sp_law_refused:Sp2:=fun ds G Q _=>∃ (rows:Rows) (o u:T2) (t h:Int),ds=[enc rows,lay o u t h]/\(Dr rows/\(o∉spotsL rows 0\/u∉spotsL rows 0))/\Q (.bl true) G
noncomputable def rd_law_refused:TS2 :=
 (dSeq (dAsg (dC .non) (gName 2))
 (dSeq (dAsg (dC (.bl false)) (gName 3))
 (dSeq (dTryA sp_nearX (dCons (dVar 0) (dCons (dBin rIx (dVar 1) (dC (.int 3))) (dCons (dBin rIx (dVar 1) (dC (.int 4))) (dCons (dBin rIx (dVar 1) (dC (.int 5))) (dCons (dBin rIx (dVar 1) (dC (.int 6))) dNil))))) 2 4 ["NoSpot"] (dAsg (dAndV (dIsiO ["NoSpot"] ["NoSpot"] (dVar 4)) (dIsiV ["NoSpot"] (dVar 4))) (gName 3)))
 (dRet (dFz (dAndV (dVar 3) (dUn (rIsN false) (dVar 2))))))))
theorem OK_law_refused (ds:List D) (G:Gp) (Q:DK) (h:sp_law_refused ds G Q fun _ _=>False):rd_law_refused (fun _ _=>False) (ends Q) (start2 5 ds) G:=by
 obtain ⟨rows,o,u,t,h,rfl,ho,q⟩:=h
 unfold rd_law_refused lay
 simp only [ends,start2,List.map_cons,List.map_nil,List.length_cons,List.length_nil,List.replicate,List.cons_append,List.nil_append,seq_step,dAsg,dC,gName,List.set_cons_succ,List.set_cons_zero,dTryA,dCons,dVar,List.getElem?_cons_zero,dBin,List.getElem?_cons_succ,dNil,dRet,dFz,dAndV_at,dUn,truAt_bl,Bool.false_eq_true,if_false,rIx_tupM,at6,at5,at4,at3]
 refine ⟨rows,o,u,t,h,rfl,ho,by decide,?_⟩
 have e1:(["NoSpot"]:List Str).contains "NoSpot" = true:=by decide
 simp only [dIsiO,dVar,List.getElem?_cons_succ,List.getElem?_cons_zero,e1,dIsiV,rIsN,Bool.not_false,truAt_bl,if_true,true_and]
 exact fz_id q
theorem spots2:∀ (rows:Rows) (k:Nat) {s:T2},(∀ p∈rows.flatten,p.b≠2)->s∈spotsL rows k->s.b=2->s.a < (k:Int)+rows.length
 | [],k,s,_,h,_=>by simp [spotsL] at h
 | r :: rs,k,s,hp,h,hb=>by
  rw [spotsL,List.mem_append] at h
  rcases h with h | h
  ·unfold spotsOn at h
   split at h
   ·rw [List.mem_singleton] at h
    rw [h,List.length_cons]; show (k:Int) < _; lia
   ·obtain ⟨p,hpr,rfl⟩:=List.mem_map.mp h
    exact absurd hb (hp p (by rw [List.flatten_cons]; exact List.mem_append_left _ hpr))
  ·have:=spots2 rs (k+1) (fun p hq=>hp p (by rw [List.flatten_cons]; exact List.mem_append_right _ hq)) h hb
   rw [List.length_cons]; lia
theorem none2 (dr:Dr rows):(⟨(rows.length:Int),2⟩:T2)∉spotsL rows 0:=fun z=>by
 have:=spots2 rows 0 (fun p hp=>by rcases dr.way p hp with h | h <;> rw [h] <;> decide) z rfl
 simp at this
theorem none1 (dr:Dr rows) {n w:Int} (hn:n∉onm rows.flatten) (hw:w=0\/w=1):(⟨n,w⟩:T2)∉spotsL rows 0:=fun z=>by
 rcases spotsL_mem dr z with h | ⟨p,hp,e⟩
 ·have h:w=2:=h
  lia
 ·have ea:p.a=n:=congrArg T2.a e
  refine hn ?_
  unfold onm
  rcases dr.way p hp with h0 | h1
  ·exact List.mem_map.mpr ⟨p,List.mem_filter.mpr ⟨hp,by simp [h0]⟩,ea⟩
  ·exact List.mem_map.mpr ⟨_,List.mem_filter.mpr ⟨dr.mate p hp,by simp [h1]⟩,ea⟩
theorem onm_names (df:DF rows.flatten) {m:Int} (h:m∉onm rows.flatten):m∉rows.flatten.map (·.a):=fun z=>by
 obtain ⟨p,hp,e⟩:=List.mem_map.mp z
 refine h ?_
 unfold onm
 rcases df.way p hp with h0 | h1
 ·exact List.mem_map.mpr ⟨p,List.mem_filter.mpr ⟨hp,by simp [h0]⟩,e⟩
 ·exact List.mem_map.mpr ⟨_,List.mem_filter.mpr ⟨df.mate p hp,by simp [h1]⟩,e⟩
theorem spotsL_ne (h:rows≠[]):spotsL rows 0≠[]:=fun z=>by
 have:=spotsP_ne h 0
 have e:=spotsP_keys rows 0
 rw [z] at e
 exact this (List.map_eq_nil_iff.mp e)
theorem eq_rw {rs:Rows} {G:Gp} {Q:DK} (q:Q (.bl true) G):rEq false (enc rs) (enc rs) G Q:=eq_rows (IsRw.enc rs) q
theorem nils_by {k:Int} (k1:1<=k) (k3:k<=3) {G:Gp} {Q:DK} {τ:St2} (q:∀ G' p as,HR G G' p as (List.replicate k.toNat [])->Q (.ref p) G') :
  (rangeD 0 k.toNat).length<=SZ/\compGo (gName 0) none (dLst dNil) (fun _=>True) (rangeD 0 k.toNat) (fun _ _=>False) (compSt 1 [] τ) G [] fun xs G2=>dNew G2 (.lst xs) Q:=by
 refine ⟨szl (by unfold rangeD; rw [List.length_map,List.length_range]; lia),?_⟩
 unfold rangeD
 refine comp_enc (xs:=List.range k.toNat) (fun pre acc τ G'=>(∃ a,τ=[a])/\∃ as:List Nat,acc=as.map D.ref/\HA G G' as (List.replicate pre.length [])) ⟨⟨_,rfl⟩,[],rfl,.nil G⟩ (fun _ _ _ _ _=>trivial) ?_ ?_
 ·rintro pre x post acc τ G' N e ⟨⟨a,rfl⟩,as,rfl,h⟩ hN
  simp only [gName,dLst,dNil,List.length_nil,List.set_cons_zero]
  refine ⟨by decide,fun p hp=>?_⟩
  refine hN _ _ _ ⟨⟨_,rfl⟩,as++[p],by simp,?_⟩
  have:=h.push hp []
  rw [List.length_append,List.length_singleton,List.replicate_succ']
  exact this
 ·rintro acc τ G' ⟨⟨a,rfl⟩,as,rfl,h⟩ p hp
  rw [List.length_range] at h
  exact q _ p as (h.top hp)
noncomputable def rd_law:TS2 :=
 (dSeq (dFzV 1 (dAsg (dComp 1 [] (iRng1 (dBin rAdd (dC (.int 1)) (dBin rMod (dCall sp_law_cell_at (dCons (dVar 0) (dCons (dC (.int 0)) dNil))) (dC (.int 3))))) (gName 0) none (dLst dNil)) (gName 1)))
 (dSeq (dFor (iRng1 (dBin rMod (dCall sp_law_cell_at (dCons (dVar 0) (dCons (dC (.int 1)) dNil))) (dC (.int 9)))) (gName 2) (dAsg (dFz (dCall sp_law_crossed (dCons (dVar 1) (dCons (dCall sp_law_cell_at (dCons (dVar 0) (dCons (dBin rAdd (dC (.int 6)) (dVar 2)) dNil))) dNil)))) (gName 1)))
 (dSeq (dAsg (dCall sp_law_spots (dCons (dVar 1) dNil)) (gName 3))
 (dSeq (dAsg (dBin rIx (dVar 3) (dBin rMod (dCall sp_law_cell_at (dCons (dVar 0) (dCons (dC (.int 2)) dNil))) (dCB cLen (dCons (dVar 3) dNil)))) (gName 4))
 (dSeq (dAsg (dBin rIx (dVar 3) (dBin rMod (dCall sp_law_cell_at (dCons (dVar 0) (dCons (dC (.int 3)) dNil))) (dCB cLen (dCons (dVar 3) dNil)))) (gName 5))
 (dSeq (dAsg (dCall sp_law_cell_at (dCons (dVar 0) (dCons (dC (.int 4)) dNil))) (gName 6))
 (dSeq (dAsg (dTup (dCons (dC (.str "lay")) (dCons (dC (.int 0)) (dCons (dC (.int 0)) (dCons (dVar 4) (dCons (dVar 5) (dCons (dBin rMod (dVar 6) (dC (.int 2))) (dCons (dBin rSub (dC (.int 1)) (dBin rMul (dC (.int 2)) (dBin rMod (dBin rFdiv (dVar 6) (dC (.int 2))) (dC (.int 2))))) dNil)))))))) (gName 7))
 (dSeq (dFzV 8 (dAsg (dComp 1 [] (iSeq (dVar 1)) (gName 0) none (dCB cList (dCons (dVar 0) dNil))) (gName 8)))
 (dSeq (dAsg (dBin rMod (dCall sp_law_cell_at (dCons (dVar 0) (dCons (dC (.int 5)) dNil))) (dC (.int 16))) (gName 9))
 (dSeq (dIfS (dTru (dBin rGt (dVar 9) (dC (.int 13)))) (dSeq (dAsg (dCall sp_law_free (dCons (dCall sp_law_names (dCons (dVar 1) dNil)) (dCons (dBin rFdiv (dCall sp_law_cell_at (dCons (dVar 0) (dCons (dC (.int 5)) dNil))) (dC (.int 32))) dNil))) (gName 10))
 (dSeq (dAsg (dTup (dCons (dVar 10) (dCons (dBin rMod (dBin rFdiv (dCall sp_law_cell_at (dCons (dVar 0) (dCons (dC (.int 5)) dNil))) (dC (.int 16))) (dC (.int 2))) dNil))) (gName 11))
 (dSeq (dIfS (dTru (dBin (rEq false) (dBin rMod (dBin rFdiv (dCall sp_law_cell_at (dCons (dVar 0) (dCons (dC (.int 5)) dNil))) (dC (.int 32))) (dC (.int 3))) (dC (.int 0)))) (dAsg (dTup (dCons (dCB cLen (dCons (dVar 1) dNil)) (dCons (dC (.int 2)) dNil))) (gName 11)) dNext)
 (dSeq (dIfS (dTru (dBin (rEq false) (dVar 9) (dC (.int 14)))) (dAsg (dTup (dCons (dC (.str "lay")) (dCons (dC (.int 0)) (dCons (dC (.int 0)) (dCons (dVar 11) (dCons (dVar 5) (dCons (dBin rIx (dVar 7) (dC (.int 5))) (dCons (dBin rIx (dVar 7) (dC (.int 6))) dNil)))))))) (gName 7)) (dAsg (dTup (dCons (dC (.str "lay")) (dCons (dC (.int 0)) (dCons (dC (.int 0)) (dCons (dVar 4) (dCons (dVar 11) (dCons (dBin rIx (dVar 7) (dC (.int 5))) (dCons (dBin rIx (dVar 7) (dC (.int 6))) dNil)))))))) (gName 7)))
 (dRet (dFz (dAndV (dCall sp_law_refused (dCons (dVar 8) (dCons (dVar 7) dNil))) (dBin (rEq false) (dVar 8) (dVar 1))))))))) dNext)
 (dSeq (dAsg (dCall sp_law_near (dCons (dVar 1) (dCons (dCall sp_law_regions (dCons (dVar 1) dNil)) (dCons (dVar 7) dNil)))) (gName 12))
 (dSeq (dFor (iRng1 (dC (.int 2))) (gName 13) (dSeq (dAsg (dCall sp_near (dCons (dVar 8) (dCons (dVar 4) (dCons (dVar 5) (dCons (dBin rIx (dVar 7) (dC (.int 5))) (dCons (dBin rIx (dVar 7) (dC (.int 6))) dNil)))))) (gName 14))
 (dIfS (dOr (dNot (dTru (dIsi "bool" (dVar 14)))) (dTru (dBin (rEq true) (dVar 14) (dVar 12)))) (dRet (dFz (dC (.bl false)))) dNext)))
 (dRet (dFz (dBin (rEq false) (dVar 8) (dVar 1))))))))))))))))
noncomputable abbrev st0 (s:D) (rows:Rows) (a b c d e f g h i j k l m:Option D):St2:=[some s,some (enc rows),a,b,c,d,e,f,g,h,i,j,k,l,m]
theorem OK_law (ds:List D) (G:Gp) (Q:DK) (h:spLaw ds G Q fun _ _=>False):rd_law (fun _ _=>False) (ends Q) (start2 15 ds) G:=by
 obtain ⟨ns,rfl,hns,hG,q⟩:=h
 unfold rd_law
 show dSeq _ _ _ _ [some (.rol (ns.map D.int)),none,none,none,none,none,none,none,none,none,none,none,none,none,none] G
 generalize hs:D.rol (ns.map D.int)=S
 have cell:∀ (k:Int) (G:Gp) (Q:DK),0<=k->Q (.int (cellI ns k)) G->sp_law_cell_at [S,.int k] G Q fun _ _=>False:=fun k G Q hk h=>⟨ns,k,by rw [hs],hk,h⟩
 refine seq_by (fun τ G'=>G=G'/\∃ n:Nat,1<=n/\n<=3/\τ=[some S,some (enc (List.replicate n ([]:List T3))),none,none,none,none,none,none,none,none,none,none,none,none,none]) ?_ ?_
 ·intro N hN
  rw [dFzV_at]
  simp only [dAsg,dComp,gName,List.set_cons_succ,List.set_cons_zero,List.getElem?_cons_succ,List.getElem?_cons_zero,iRng1_at,dBin,dC,dCall,dCons,dVar,dNil]
  refine cell 0 _ _ (by decide) ?_
  simp only [rMod_int,rAdd_int,rngAt_int]
  have k1:1<=1+cellI ns 0 % 3:=by lia
  have k3:1+cellI ns 0 % 3<=3:=by lia
  refine ⟨by decide,?_⟩
  generalize 1+cellI ns 0 % 3=k at *
  refine ⟨by lia,by lia,?_⟩
  refine nils_by k1 k3 fun G' p as hr=>?_
  exact hr.fz (hN _ _ ⟨rfl,k.toNat,by lia,by lia,rfl⟩)
 rintro _ _ ⟨rfl,n,n1,n3,rfl⟩
 refine seq_by (fun τ G'=>G=G'/\∃ (rows:Rows) (a:Option D),(Dr rows/\rows≠[])/\τ=[some S,some (enc rows),a,none,none,none,none,none,none,none,none,none,none,none,none]) ?_ ?_
 ·intro N hN
  simp only [dFor,ends,iRng1_at,dBin,dCall,dCons,dVar,List.getElem?_cons_zero,dC,dNil]
  refine cell 1 _ _ (by decide) ?_
  simp only [rMod_int,rngAt_int]
  have j1:0<=cellI ns 1 % 9:=by lia
  have j2:cellI ns 1 % 9<=8:=by lia
  refine ⟨by decide,?_⟩
  generalize cellI ns 1 % 9=k at *
  refine ⟨by lia,by lia,?_⟩
  unfold rangeD
  refine for_enc (xs:=List.range k.toNat) (fun pre τ G'=>G=G'/\∃ (rows:Rows) (a:Option D),(DF rows.flatten/\rows.flatten.length=2 * pre.length/\rows.length=n)/\τ=[some S,some (enc rows),a,none,none,none,none,none,none,none,none,none,none,none,none]) ⟨rfl,List.replicate n [],none,⟨?_,?_,by simp⟩,rfl⟩ (fun _ _ _ _=>trivial) ?_ ?_
  ·have:(List.replicate n ([]:List T3)).flatten=[]:=by simp
   rw [this]
   exact ⟨List.nodup_nil,(fun p h=>by cases h),(fun p h=>by cases h),(fun p h=>by cases h)⟩
  ·simp
  ·rintro pre x post τ G' N2 e ⟨rfl,rows,a,⟨df,fl,rn⟩,rfl⟩ hN2
   have hpre:pre.length < 8:=by
    have:=congrArg List.length e
    rw [List.length_range,List.length_append,List.length_cons] at this; lia
   simp only [gName,dAsg,dFz,dCall,dCons,dVar,List.set_cons_succ,List.set_cons_zero,List.getElem?_cons_succ,List.getElem?_cons_zero,dBin,dC,dNil,rAdd_int]
   refine cell _ _ _ (by lia) ?_
   refine ⟨rows,_,rfl,⟨by lia,by lia,by lia⟩,fun rows' m hd h1 h2 h3 h4=>?_⟩
   refine fz_id (hN2 _ _ ⟨rfl,rows',_,⟨(df.add (onm_names df h3) h4).perm h2,?_,by lia⟩,rfl⟩)
   have:=h2.length_eq
   rw [List.length_cons,List.length_cons] at this
   rw [List.length_append,List.length_singleton]; lia
  ·rintro τ G' ⟨rfl,rows,a,⟨df,fl,rn⟩,rfl⟩
   rw [List.length_range] at fl
   refine hN _ _ ⟨rfl,rows,a,⟨⟨df.nd,df.way,df.hand,df.mate,by lia,by lia⟩,fun z=>?_⟩,rfl⟩
   rw [z,List.length_nil] at rn; lia
 rintro _ _ ⟨rfl,rows,a2,⟨dr,hne⟩,rfl⟩
 have few:=dr.few
 have sl:=spots_len dr
 have pos:=List.length_pos_iff.mpr (spotsL_ne hne)
 refine seq_by (fun τ G'=>G=G'/\τ=[some S,some (enc rows),a2,some (enc (spotsL rows 0)),none,none,none,none,none,none,none,none,none,none,none]) ?_ ?_
 ·intro N hN
  simp only [dAsg,dCall,dCons,dVar,List.getElem?_cons_succ,List.getElem?_cons_zero,dNil,gName,List.set_cons_succ,List.set_cons_zero]
  exact ⟨rows,rfl,dr,hN _ _ ⟨rfl,rfl⟩⟩
 rintro _ _ ⟨rfl,rfl⟩
 have pick:∀ c:Int,∃ o∈spotsL rows 0,atI ((spotsL rows 0).map (enc:T2->D)) (c % ((spotsL rows 0).length:Int))=some (enc o):=fun c=>by
  have i1:0<=c % ((spotsL rows 0).length:Int):=Int.emod_nonneg _ (by lia)
  have i2:c % ((spotsL rows 0).length:Int) < (spotsL rows 0).length:=Int.emod_lt_of_pos _ (by lia)
  generalize c % ((spotsL rows 0).length:Int)=i at *
  refine ⟨(spotsL rows 0)[i.toNat]'(by lia),List.getElem_mem _,?_⟩
  rw [atI_nat _ i1 (by rw [List.length_map]; exact i2),List.getElem_map]
 refine seq_by (fun τ G'=>G=G'/\∃ o,o∈spotsL rows 0/\τ=[some S,some (enc rows),a2,some (enc (spotsL rows 0)),some (enc o),none,none,none,none,none,none,none,none,none,none]) ?_ ?_
 ·intro N hN
  simp only [dAsg,dBin,dVar,List.getElem?_cons_succ,List.getElem?_cons_zero,dCall,dCons,dC,dNil,dCB,gName,List.set_cons_succ,List.set_cons_zero]
  refine cell 2 _ _ (by decide) ?_
  refine cLen_of (IsL.enc _) ?_
  rw [List.length_map]
  simp only [rMod_int]
  refine ⟨by lia,?_⟩
  obtain ⟨o,ho,e⟩:=pick (cellI ns 2)
  exact rIx_of (IsL.enc _) e (hN _ _ ⟨rfl,o,ho,rfl⟩)
 rintro _ _ ⟨rfl,o,ho,rfl⟩
 refine seq_by (fun τ G'=>G=G'/\∃ u,u∈spotsL rows 0/\τ=[some S,some (enc rows),a2,some (enc (spotsL rows 0)),some (enc o),some (enc u),none,none,none,none,none,none,none,none,none]) ?_ ?_
 ·intro N hN
  simp only [dAsg,dBin,dVar,List.getElem?_cons_succ,List.getElem?_cons_zero,dCall,dCons,dC,dNil,dCB,gName,List.set_cons_succ,List.set_cons_zero]
  refine cell 3 _ _ (by decide) ?_
  refine cLen_of (IsL.enc _) ?_
  rw [List.length_map]
  simp only [rMod_int]
  refine ⟨by lia,?_⟩
  obtain ⟨u,hu,e⟩:=pick (cellI ns 3)
  exact rIx_of (IsL.enc _) e (hN _ _ ⟨rfl,u,hu,rfl⟩)
 rintro _ _ ⟨rfl,u,hu,rfl⟩
 refine seq_by (fun τ G'=>G=G'/\τ=[some S,some (enc rows),a2,some (enc (spotsL rows 0)),some (enc o),some (enc u),some (.int (cellI ns 4)),none,none,none,none,none,none,none,none]) ?_ ?_
 ·intro N hN
  simp only [dAsg,dCall,dCons,dVar,List.getElem?_cons_zero,dC,dNil,gName,List.set_cons_succ,List.set_cons_zero]
  exact cell 4 _ _ (by decide) (hN _ _ ⟨rfl,rfl⟩)
 rintro _ _ ⟨rfl,rfl⟩
 refine seq_by (fun τ G'=>G=G'/\∃ (t h:Int),(h=1\/h=-1)/\τ=[some S,some (enc rows),a2,some (enc (spotsL rows 0)),some (enc o),some (enc u),some (.int (cellI ns 4)),some (lay o u t h),none,none,none,none,none,none,none]) ?_ ?_
 ·intro N hN
  simp only [dAsg,dTup,dCons,dC,dVar,List.getElem?_cons_succ,List.getElem?_cons_zero,dBin,dNil,List.length_cons,List.length_nil,gName,List.set_cons_succ,List.set_cons_zero,rFdiv_int,rMod_int,rMul_int,rSub_int]
  refine ⟨by decide,by decide,by decide,by decide,.inl ⟨by decide,by decide⟩,by decide,?_⟩
  exact hN _ _ ⟨rfl,_,_,by lia,rfl⟩
 rintro _ _ ⟨rfl,t,h,hh,rfl⟩
 have la5:rIx (lay o u t h) (.int 5)=fun G Q=>Q (.int t) G:=by unfold lay; funext G Q; rw [rIx_tupM,at5]
 have la6:rIx (lay o u t h) (.int 6)=fun G Q=>Q (.int h) G:=by unfold lay; funext G Q; rw [rIx_tupM,at6]
 refine seq_by (fun τ G'=>G=G'/\τ=[some S,some (enc rows),a2,some (enc (spotsL rows 0)),some (enc o),some (enc u),some (.int (cellI ns 4)),some (lay o u t h),some (enc rows),none,none,none,none,none,none]) ?_ ?_
 ·intro N hN
  rw [dFzV_at]
  simp only [dAsg,dComp,gName,List.set_cons_succ,List.set_cons_zero,List.getElem?_cons_succ,List.getElem?_cons_zero,iSeq_at,dVar]
  refine copy_by (by have:=dr.str; lia) fun G1 p0 as hr=>?_
  exact hr.fz (hN _ _ ⟨rfl,rfl⟩)
 rintro _ _ ⟨rfl,rfl⟩
 refine seq_by (fun τ G'=>G=G'/\τ=[some S,some (enc rows),a2,some (enc (spotsL rows 0)),some (enc o),some (enc u),some (.int (cellI ns 4)),some (lay o u t h),some (enc rows),some (.int (cellI ns 5 % 16)),none,none,none,none,none]) ?_ ?_
 ·intro N hN
  simp only [dAsg,dBin,dCall,dCons,dVar,List.getElem?_cons_zero,dC,dNil,gName,List.set_cons_succ,List.set_cons_zero]
  exact cell 5 _ _ (by decide) ⟨by decide,hN _ _ ⟨rfl,rfl⟩⟩
 rintro _ _ ⟨rfl,rfl⟩
 refine seq_by (fun τ G'=>G=G'/\τ=[some S,some (enc rows),a2,some (enc (spotsL rows 0)),some (enc o),some (enc u),some (.int (cellI ns 4)),some (lay o u t h),some (enc rows),some (.int (cellI ns 5 % 16)),none,none,none,none,none]) ?_ ?_
 ·intro N hN
  rw [ifs_at]
  simp only [dTru_at,dBin,dVar,dC,rGt_int,truAt_bl,List.getElem?_cons_succ,List.getElem?_cons_zero]
  split
  ·have ol:=onm_len rows.flatten
   refine seq_by (fun τ G'=>G=G'/\∃ n:Int,n∉onm rows.flatten/\τ=[some S,some (enc rows),a2,some (enc (spotsL rows 0)),some (enc o),some (enc u),some (.int (cellI ns 4)),some (lay o u t h),some (enc rows),some (.int (cellI ns 5 % 16)),some (.int n),none,none,none,none]) ?_ ?_
   ·intro N2 hN2
    simp only [dAsg,dCall,dCons,dVar,List.getElem?_cons_succ,List.getElem?_cons_zero,dNil,dBin,dC,gName,List.set_cons_succ,List.set_cons_zero]
    refine ⟨rows,rfl,(show rows.flatten.length<=500 by lia),?_⟩
    refine cell 5 _ _ (by decide) ?_
    simp only [rFdiv_int]
    refine ⟨by decide,by decide,?_⟩
    exact ⟨onm rows.flatten,_,rfl,by lia,fun m hm _ _=>hN2 _ _ ⟨rfl,m,hm,rfl⟩⟩
   rintro _ _ ⟨rfl,n,hn,rfl⟩
   refine seq_by (fun τ G'=>G=G'/\∃ z:T2,z∉spotsL rows 0/\τ=[some S,some (enc rows),a2,some (enc (spotsL rows 0)),some (enc o),some (enc u),some (.int (cellI ns 4)),some (lay o u t h),some (enc rows),some (.int (cellI ns 5 % 16)),some (.int n),some (enc z),none,none,none]) ?_ ?_
   ·intro N2 hN2
    simp only [dAsg,dTup,dCons,dVar,List.getElem?_cons_succ,List.getElem?_cons_zero,dBin,dCall,dC,dNil,List.length_cons,List.length_nil,gName,List.set_cons_succ,List.set_cons_zero]
    refine cell 5 _ _ (by decide) ?_
    simp only [rFdiv_int,rMod_int]
    refine ⟨by decide,by decide,by decide,by decide,?_⟩
    exact hN2 _ _ ⟨rfl,⟨n,cellI ns 5 / 16 % 2⟩,none1 dr hn (by lia),rfl⟩
   rintro _ _ ⟨rfl,z,hz,rfl⟩
   refine seq_by (fun τ G'=>G=G'/\∃ z:T2,z∉spotsL rows 0/\τ=[some S,some (enc rows),a2,some (enc (spotsL rows 0)),some (enc o),some (enc u),some (.int (cellI ns 4)),some (lay o u t h),some (enc rows),some (.int (cellI ns 5 % 16)),some (.int n),some (enc z),none,none,none]) ?_ ?_
   ·intro N2 hN2
    simp only [ends,ifs_at,dAsg,dTup,dCons,dCB,dVar,List.getElem?_cons_succ,List.getElem?_cons_zero,dNil,dC,List.length_cons,List.length_nil,gName,List.set_cons_succ,List.set_cons_zero,dNext,dTru_at,dBin,dCall]
    refine cell 5 _ _ (by decide) ?_
    simp only [rFdiv_int,rMod_int]
    refine ⟨by decide,by decide,by decide,?_⟩
    refine ⟨_,_,.int _,.int _,?_⟩
    rw [eq_int]
    simp only [Bool.false_eq_true,if_false,truAt_bl]
    split
    ·refine cLen_of (IsL.enc rows) ?_
     rw [List.length_map]
     refine ⟨by decide,hN2 _ _ ⟨rfl,⟨(rows.length:Int),2⟩,none2 dr,rfl⟩⟩
    ·exact hN2 _ _ ⟨rfl,z,hz,rfl⟩
   rintro _ _ ⟨rfl,z,hz,rfl⟩
   refine seq_by (fun τ G'=>G=G'/\∃ (x y:T2),(x∉spotsL rows 0\/y∉spotsL rows 0)/\τ=[some S,some (enc rows),a2,some (enc (spotsL rows 0)),some (enc o),some (enc u),some (.int (cellI ns 4)),some (lay x y t h),some (enc rows),some (.int (cellI ns 5 % 16)),some (.int n),some (enc z),none,none,none]) ?_ ?_
   ·intro N2 hN2
    simp only [ends,ifs_at,dAsg,dTup,dCons,dC,dVar,List.getElem?_cons_succ,List.getElem?_cons_zero,dBin,dNil,List.length_cons,List.length_nil,gName,List.set_cons_succ,List.set_cons_zero,dTru_at]
    refine ⟨_,_,.int _,.int _,?_⟩
    rw [eq_int]
    simp only [Bool.false_eq_true,if_false,la6,la5,truAt_bl]
    split
    ·exact ⟨by decide,hN2 _ _ ⟨rfl,z,u,.inl hz,rfl⟩⟩
    ·exact ⟨by decide,hN2 _ _ ⟨rfl,o,z,.inr hz,rfl⟩⟩
   rintro _ _ ⟨rfl,x,y,hxy,rfl⟩
   simp only [dRet,dFz,ends,dAndV_at,dCall,dCons,dVar,List.getElem?_cons_succ,List.getElem?_cons_zero,dNil,dBin]
   refine ⟨rows,x,y,t,h,rfl,⟨dr,hxy⟩,?_⟩
   simp only [truAt_bl,if_true]
   exact eq_rw (fz_id (q _))
  ·exact hN _ _ ⟨rfl,rfl⟩
 rintro _ _ ⟨rfl,rfl⟩
 refine seq_by (fun τ G'=>G=G'/\τ=[some S,some (enc rows),a2,some (enc (spotsL rows 0)),some (enc o),some (enc u),some (.int (cellI ns 4)),some (lay o u t h),some (enc rows),some (.int (cellI ns 5 % 16)),none,none,some (.bl (nearB rows o u t h)),none,none]) ?_ ?_
 ·intro N hN
  simp only [dAsg,dCall,dCons,dVar,List.getElem?_cons_succ,List.getElem?_cons_zero,dNil,gName,List.set_cons_succ,List.set_cons_zero]
  refine ⟨rows,rfl,dr,fun l li=>?_⟩
  exact ⟨rows,l,o,u,t,h,rfl,⟨dr,li,ho,hu,hh⟩,hN _ _ ⟨rfl,rfl⟩⟩
 rintro _ _ ⟨rfl,rfl⟩
 refine seq_by (fun τ G'=>G=G'/\∃ a b,τ=[some S,some (enc rows),a2,some (enc (spotsL rows 0)),some (enc o),some (enc u),some (.int (cellI ns 4)),some (lay o u t h),some (enc rows),some (.int (cellI ns 5 % 16)),none,none,some (.bl (nearB rows o u t h)),a,b]) ?_ ?_
 ·intro N hN
  simp only [dFor,ends,iRng1_at,dC,rngAt_int]
  refine ⟨by decide,by decide,?_⟩
  unfold rangeD
  refine for_enc (xs:=List.range (2:Int).toNat) (fun pre τ G'=>G=G'/\∃ a b,τ=[some S,some (enc rows),a2,some (enc (spotsL rows 0)),some (enc o),some (enc u),some (.int (cellI ns 4)),some (lay o u t h),some (enc rows),some (.int (cellI ns 5 % 16)),none,none,some (.bl (nearB rows o u t h)),a,b]) ⟨rfl,_,_,rfl⟩ (fun _ _ _ _=>trivial) ?_ ?_
  ·rintro pre x post τ G' N2 e ⟨rfl,a,b,rfl⟩ hN2
   simp only [gName,List.set_cons_succ,List.set_cons_zero,seq_step,dAsg,dCall,dCons,dVar,List.getElem?_cons_succ,List.getElem?_cons_zero,dBin,dC,dNil,ifs_at,dOr,dNot,dRet,dFz,dNext,if_true,dTru_at,dIsi_at,la6,la5]
   refine ⟨rows,o,u,t,h,rfl,⟨dr,ho,hu⟩,?_⟩
   simp only [isAt_bl,truAt_bl]
   refine ⟨_,_,.bl _,.bl _,?_⟩
   have:eqD (.bl (nearB rows o u t h)) (.bl (nearB rows o u t h))=true:=by rw [show (D.bl (nearB rows o u t h))=enc (nearB rows o u t h) from rfl,Enc.eqv]; simp
   rw [this]
   simp only [Bool.not_true,if_true,truAt_bl,Bool.false_eq_true,if_false]
   exact hN2 _ _ ⟨rfl,_,_,rfl⟩
  ·rintro τ G' ⟨rfl,a,b,rfl⟩
   exact hN _ _ ⟨rfl,_,_,rfl⟩
 rintro _ _ ⟨rfl,a,b,rfl⟩
 simp only [dRet,dFz,dBin,dVar,List.getElem?_cons_succ,List.getElem?_cons_zero,ends]
 exact eq_rw (fz_id (q _))
end K29
end K2
end
namespace Fin
open PySem PySem.Spec PyProof.Rows L2 K2
open K2.K12
open K2.K29
open K2.P
noncomputable def top (i:Nat):Stmt:=PySem.Challenge.pw_knotwise_k29_near_lays.main.body.getD i (.Pass ⟨0,0,0,0⟩)
section
variable {P:Program} {w:World} {K:PySem.W.Frag} {mg:Str->Option Value} {base:Heap}
theorem sc_law_cell_at:FnScope ["_law_script","_law_k"] ["_law_script","_law_k"] (defScope (top 28)):=scm
theorem fn_law_cell_at {f:Addr} {fd:FuncData} (F:Fun K "_law_cell_at" "_law_cell_at" (top 28) f fd) (no_len:mg "len" = none):FnOk P w K mg base CX0 1 f fd ["_law_script","_law_k"] (spOf K sp_law_cell_at) :=
 fo2 F sc_law_cell_at OK_law_cell_at fun _ _ _ _ _ _ hr=>have hu:=hr.units; have hu0:=hr.units0; (pss2_cons (ps2_if (pt2_cmp (op2_lt hu0) (pv2 1) (pe2_callB call2_len rfl no_len bt_len (pa2_cons (pv2 0) pa2_nil)) (nomark _)) (pss2_one (ps2_ret (pe2_fz (pe2_ix hu (pv2 0) (pv2 1) (fun _ _=>rfl))))) pss2_nil)
 (pss2_one (ps2_ret (pe2_fz pe2_int))))
theorem sc_law_free:FnScope ["_law_names_here","_law_number","_law_name"] ["_law_names_here","_law_number"] (defScope (top 32)):=scm
theorem fn_law_free {f:Addr} {fd:FuncData} (F:Fun K "_law_free" "_law_free" (top 32) f fd):FnOk P w K mg base CX0 1 f fd ["_law_names_here","_law_number"] (spOf K sp_law_free) :=
 fo2 F sc_law_free OK_law_free fun _ _ _ _ _ _ hr=>have nd:=sc_law_free.nd; have hu:=hr.units; (pss2_cons (pst (i:=2) nd rfl (pe2_op op2_add pe2_int (pe2_op op2_mod (pv2 1) pe2_int)))
 (pss2_cons (ps2_while PassesOwn.never (pt2_cmp (op2_in hu) (pv2 2) (pv2 0) (by with_unfolding_all rfl)) (pss2_one (pst (i:=2) nd rfl (pe2_op op2_add pe2_int (pe2_op op2_mod (pv2 2) pe2_int)))))
 (pss2_one (ps2_ret (pe2_fz (pv2 2))))))
theorem sc_law_names:FnScope ["_law_drawing","_law_names_here","_law_row","_law_passing"] ["_law_drawing"] (defScope (top 31)):=scm
theorem fn_law_names {f:Addr} {fd:FuncData} (F:Fun K "_law_names" "_law_names" (top 31) f fd):FnOk P w K mg base CX0 1 f fd ["_law_drawing"] (spOf K sp_law_names) :=
 fo2 F sc_law_names OK_law_names fun _ _ _ _ _ _ hr=>have nd:=sc_law_names.nd; have hu:=hr.units; (pss2_cons (pst (i:=1) nd rfl (pe2_lst pa2_nil))
 (pss2_cons (ps2_for PassesOwn.never rfl (pi2_seq (pv2 0)) (pgn (i:=2) nd rfl) (pss2_one (ps2_for PassesOwn.never rfl (pi2_seq (pv2 2)) (pgn (i:=3) nd rfl) (pss2_one (ps2_if (pt2_cmp (op2_eq hu) (pe2_ix hu (pv2 3) pe2_int (fun _ _=>rfl)) pe2_int (nomark _)) (pss2_one (ps2_expr (pe2_bm PySem.F.plainAttrs_list PySem.F.slot_list_append PySem.F.type_list_append ty2_list mt2_append (pv2 1) (pa2_cons (pe2_ix hu (pv2 3) pe2_int (fun _ _=>rfl)) pa2_nil)))) pss2_nil)))))
 (pss2_one (ps2_ret (pe2_fz (pv2 1))))))
theorem sc_law_mixed:FnScope ["_law_cell"] ["_law_cell"] (defScope (top 30)):=scm
theorem fn_law_mixed {f:Addr} {fd:FuncData} (F:Fun K "_law_mixed" "_law_mixed" (top 30) f fd):FnOk P w K mg base CX0 1 f fd ["_law_cell"] (spOf K sp_law_mixed) :=
 fo2 F sc_law_mixed OK_law_mixed fun _ _ _ _ _ _ hr=>(pss2_one (ps2_ret (pe2_fz (pe2_op op2_mod (pe2_op op2_mul (pe2_op op2_mod (pv2 0) pe2_int) pe2_int) pe2_int))))
theorem sc_law_crossed:FnScope ["_law_drawing","_law_cell","_law_name","_law_rest","_law_hand","_law_made","_law_way","_law_row"] ["_law_drawing","_law_cell"] (defScope (top 33)):=scm
theorem fn_law_crossed {f:Addr} {fd:FuncData} (F:Fun K "_law_crossed" "_law_crossed" (top 33) f fd) (no_len:mg "len" = none) (no_list:mg "list" = none) (no_range:mg "range" = none) {f_law_free:Addr} {d_law_free:FuncData} (ok_law_free:FnOk P w K mg base CX0 1 f_law_free d_law_free ["_law_names_here","_law_number"] (spOf K sp_law_free)) (mg_law_free:mg "_law_free" = some (.ref f_law_free)) (kp_law_free:PySem.W.keepIn K (.ref f_law_free)=true) (bi_law_free:Binds K d_law_free ["_law_names_here","_law_number"] []) {f_law_names:Addr} {d_law_names:FuncData} (ok_law_names:FnOk P w K mg base CX0 1 f_law_names d_law_names ["_law_drawing"] (spOf K sp_law_names)) (mg_law_names:mg "_law_names" = some (.ref f_law_names)) (kp_law_names:PySem.W.keepIn K (.ref f_law_names)=true) (bi_law_names:Binds K d_law_names ["_law_drawing"] []) {f_law_mixed:Addr} {d_law_mixed:FuncData} (ok_law_mixed:FnOk P w K mg base CX0 1 f_law_mixed d_law_mixed ["_law_cell"] (spOf K sp_law_mixed)) (mg_law_mixed:mg "_law_mixed" = some (.ref f_law_mixed)) (kp_law_mixed:PySem.W.keepIn K (.ref f_law_mixed)=true) (bi_law_mixed:Binds K d_law_mixed ["_law_cell"] []):FnOk P w K mg base CX0 2 f fd ["_law_drawing","_law_cell"] (spOf K sp_law_crossed) :=
 fo2 F sc_law_crossed OK_law_crossed fun _ _ _ _ _ _ hr=>have nd:=sc_law_crossed.nd; have hu:=hr.units; (pss2_cons (pst (i:=2) nd rfl (pe2_callS ok_law_free (hr.mono (by decide)) rfl mg_law_free kp_law_free bi_law_free (pa2_cons (pe2_callS ok_law_names (hr.mono (by decide)) rfl mg_law_names kp_law_names bi_law_names (pa2_cons (pv2 0) pa2_nil)) (pa2_cons (pv2 1) pa2_nil))))
 (pss2_cons (pst (i:=3) nd rfl (pe2_callS ok_law_mixed (hr.mono (by decide)) rfl mg_law_mixed kp_law_mixed bi_law_mixed (pa2_cons (pv2 1) pa2_nil)))
 (pss2_cons (pst (i:=4) nd rfl (pe2_op op2_sub pe2_int (pe2_op op2_mul pe2_int (pe2_op op2_mod (pv2 3) pe2_int))))
 (pss2_cons (pst (i:=3) nd rfl (pe2_op op2_fdiv (pv2 3) pe2_int))
 (pss2_cons (ps2_setC ["_law_row"] (sc:=defScope (top 33)) (XN:=["_law_drawing","_law_cell","_law_name","_law_rest","_law_hand","_law_made","_law_way","_law_row"]) (i:=5) nd rfl rfl (pi2_seq (pv2 0)) (fun _ _ _ _=>(pgn (i:=0) (show (["_law_row"]:List Str).Nodup by decide +kernel) rfl)) (fun _ _ _ _=>.none) (fun _ _ _ _=>(pe2_callTy call2_list rfl no_list bt_list (pa2_cons (pv2 0) pa2_nil))))
 (pss2_cons (ps2_for PassesOwn.never rfl (pi2_range1 rfl no_range pe2_int) (pgn (i:=6) nd rfl) (pss2_cons (pst (i:=7) nd rfl (pe2_ix hu (pv2 5) (pe2_op op2_mod (pv2 3) (pe2_callB call2_len rfl no_len bt_len (pa2_cons (pv2 5) pa2_nil))) (fun _ _=>rfl)))
 (pss2_cons (pst (i:=3) nd rfl (pe2_op op2_fdiv (pv2 3) (pe2_callB call2_len rfl no_len bt_len (pa2_cons (pv2 5) pa2_nil))))
 (pss2_cons (ps2_expr (pe2_bm PySem.F.plainAttrs_list PySem.F.slot_list_insert PySem.F.type_list_insert ty2_list mt2_insert (pv2 7) (pa2_cons (pe2_op op2_mod (pv2 3) (pe2_op op2_add (pe2_callB call2_len rfl no_len bt_len (pa2_cons (pv2 7) pa2_nil)) pe2_int)) (pa2_cons (pe2_tup (pa2_cons (pv2 2) (pa2_cons (pv2 6) (pa2_cons (pv2 4) pa2_nil)))) pa2_nil))))
 (pss2_one (pst (i:=3) nd rfl (pe2_op op2_fdiv (pv2 3) (pe2_callB call2_len rfl no_len bt_len (pa2_cons (pv2 7) pa2_nil)))))))))
 (pss2_one (ps2_ret (pe2_fz (pv2 5))))))))))
theorem sc_law_spots:FnScope ["_law_drawing","_law_spots_here","_law_k","_law_passing"] ["_law_drawing"] (defScope (top 34)):=scm
theorem fn_law_spots {f:Addr} {fd:FuncData} (F:Fun K "_law_spots" "_law_spots" (top 34) f fd) (no_len:mg "len" = none) (no_range:mg "range" = none):FnOk P w K mg base CX0 1 f fd ["_law_drawing"] (spOf K sp_law_spots) :=
 fo2 F sc_law_spots OK_law_spots fun _ _ _ _ _ _ hr=>have nd:=sc_law_spots.nd; have hu:=hr.units; (pss2_cons (pst (i:=1) nd rfl (pe2_lst pa2_nil))
 (pss2_cons (ps2_for PassesOwn.never rfl (pi2_range1 rfl no_range (pe2_callB call2_len rfl no_len bt_len (pa2_cons (pv2 0) pa2_nil))) (pgn (i:=2) nd rfl) (pss2_cons (ps2_if (pt2_not (pt2_truth (pe2_ix hu (pv2 0) (pv2 2) (fun _ _=>rfl)))) (pss2_one (ps2_expr (pe2_bm PySem.F.plainAttrs_list PySem.F.slot_list_append PySem.F.type_list_append ty2_list mt2_append (pv2 1) (pa2_cons (pe2_tup (pa2_cons (pv2 2) (pa2_cons pe2_int pa2_nil))) pa2_nil)))) pss2_nil)
 (pss2_one (ps2_for PassesOwn.never rfl (pi2_seq (pe2_ix hu (pv2 0) (pv2 2) (fun _ _=>rfl))) (pgn (i:=3) nd rfl) (pss2_one (ps2_expr (pe2_bm PySem.F.plainAttrs_list PySem.F.slot_list_append PySem.F.type_list_append ty2_list mt2_append (pv2 1) (pa2_cons (pe2_tup (pa2_cons (pe2_ix hu (pv2 3) pe2_int (fun _ _=>rfl)) (pa2_cons (pe2_ix hu (pv2 3) pe2_int (fun _ _=>rfl)) pa2_nil))) pa2_nil))))))))
 (pss2_one (ps2_ret (pe2_fz (pv2 1))))))
theorem sc_spots_on:FnScope ["row","string"] ["row","string"] (defScope (top 8)):=scm
theorem fn_spots_on {f:Addr} {fd:FuncData} (F:Fun K "spots_on" "spots_on" (top 8) f fd):FnOk P w K mg base CX0 1 f fd ["row","string"] (spOf K sp_spots_on) :=
 fo2 F sc_spots_on OK_spots_on fun _ _ _ _ _ _ hr=>(pss2_cons (ps2_if (pt2_not (pt2_truth (pv2 0))) (pss2_one (ps2_ret (pe2_fz (pe2_lst (pa2_cons (pe2_tup (pa2_cons (pv2 1) (pa2_cons pe2_int pa2_nil))) pa2_nil))))) pss2_nil)
 (pss2_one (ps2_ret (pe2_fz (pe2_comp ["passing"] (sc:=defScope (top 8)) (XN:=["row","string"]) (pi2_seq (pv2 0)) (fun _ _ _ _=>(pgn (i:=0) (show (["passing"]:List Str).Nodup by decide +kernel) rfl)) (fun _ _ _ _=>.none) (fun _ _ _ _=>(pe2_slice (pv2 0) po2_none (po2_some pe2_int))))))))
theorem sc_string_ofX:FnScope ["drawing","spot","string","row"] ["drawing","spot"] (defScope (top 11)):=scm
theorem fn_string_ofX {f:Addr} {fd:FuncData} (F:Fun K "string_of" "string_of" (top 11) f fd) (no_enumerate:mg "enumerate" = none) {C_NoSpot:Addr} (ns_NoSpot:PySem.W.nsIn K mainGlobals "NoSpot" = some (some (.ref C_NoSpot))) (mg_NoSpot:mg "NoSpot" = some (.ref C_NoSpot)) (ex_NoSpot:PySem.W.excIn K C_NoSpot [.type "ValueError",.type "Exception",.type "BaseException",.type "object"] "ValueError.__new__" = true) (xi_NoSpot:ExcIs K C_NoSpot) {f_spots_on:Addr} {d_spots_on:FuncData} (ok_spots_on:FnOk P w K mg base CX0 1 f_spots_on d_spots_on ["row","string"] (spOf K sp_spots_on)) (mg_spots_on:mg "spots_on" = some (.ref f_spots_on)) (kp_spots_on:PySem.W.keepIn K (.ref f_spots_on)=true) (bi_spots_on:Binds K d_spots_on ["row","string"] []):FnOk P w K mg base (CXe P w) 2 f fd ["drawing","spot"] (spOfX K mg sp_string_ofX) :=
 foX F sc_string_ofX OK_string_ofX fun _ _ _ _ _ _ hr=>have nd:=sc_string_ofX.nd; have hu:=hr.units; (pss2_cons (ps2_for PassesOwn.leaving rfl (pi2_enum rfl no_enumerate (pv2 0)) (pg2_tup rfl (pgs2_cons (pgn (i:=2) nd rfl) (pgs2_cons (pgn (i:=3) nd rfl) pgs2_nil)) (glen_name (glen_name glen_nil))) (pss2_one (ps2_if (pt2_cmp (op2_in hu) (pv2 1) (pe2_callS ok_spots_on (hr.mono (by decide)) rfl mg_spots_on kp_spots_on bi_spots_on (pa2_cons (pv2 3) (pa2_cons (pv2 2) pa2_nil))) (by with_unfolding_all rfl)) (pss2_one (ps2_ret (pe2_fz (pv2 2)))) pss2_nil)))
 (pss2_one (ps2_raise rfl mg_NoSpot ex_NoSpot PySem.F.excBase_ValueError rfl (pa2_cons pe2_str pa2_nil))))
theorem sc_together:FnScope ["groups","one","other"] ["groups","one","other"] (defScope (top 14)):=scm
theorem fn_together {f:Addr} {fd:FuncData} (F:Fun K "together" "together" (top 14) f fd) (no_any:mg "any" = none):FnOk P w K mg base CX0 1 f fd ["groups","one","other"] (spOf K sp_together) :=
 fo2 F sc_together OK_together fun _ _ _ _ _ _ hr=>have hu:=hr.units; (pss2_one (ps2_ret (pe2_fz (pe2_callB (call2_any rfl) rfl no_any bt_any (pa2_cons (pe2_comp ["group","one","other"] (sc:=defScope (top 14)) (XN:=["groups","one","other"]) (pi2_seq (pv2 0)) (fun _ _ _ _=>(pgn (i:=0) (show (["group","one","other"]:List Str).Nodup by decide +kernel) rfl)) (fun _ _ _ _=>.none) (fun _ _ _ _=>(pe2_and (pe2_cmp (op2_in hu) (pv2 1) (pv2 0) (by with_unfolding_all rfl)) (pe2_one (pe2_cmp (op2_in hu) (pv2 2) (pv2 0) (by with_unfolding_all rfl)))))) pa2_nil)))))
theorem sc_passings_of:FnScope ["rows","passings","row"] ["rows"] (defScope (top 5)):=scm
theorem fn_passings_of {f:Addr} {fd:FuncData} (F:Fun K "passings_of" "passings_of" (top 5) f fd):FnOk P w K mg base CX0 1 f fd ["rows"] (spOf K sp_passings_of) :=
 fo2 F sc_passings_of OK_passings_of fun _ _ _ _ _ _ hr=>have nd:=sc_passings_of.nd; (pss2_cons (pst (i:=1) nd rfl (pe2_lst pa2_nil))
 (pss2_cons (ps2_for PassesOwn.never rfl (pi2_seq (pv2 0)) (pgn (i:=2) nd rfl) (pss2_one (ps2_expr (pe2_bm PySem.F.plainAttrs_list PySem.F.slot_list_extend PySem.F.type_list_extend ty2_list mt2_extend (pv2 1) (pa2_cons (pv2 2) pa2_nil)))))
 (pss2_one (ps2_ret (pe2_fz (pv2 1))))))
theorem sc_names_of:FnScope ["drawing"] ["drawing"] (defScope (top 6)):=scm
theorem fn_names_of {f:Addr} {fd:FuncData} (F:Fun K "names_of" "names_of" (top 6) f fd) (no_sorted:mg "sorted" = none) {f_passings_of:Addr} {d_passings_of:FuncData} (ok_passings_of:FnOk P w K mg base CX0 1 f_passings_of d_passings_of ["rows"] (spOf K sp_passings_of)) (mg_passings_of:mg "passings_of" = some (.ref f_passings_of)) (kp_passings_of:PySem.W.keepIn K (.ref f_passings_of)=true) (bi_passings_of:Binds K d_passings_of ["rows"] []):FnOk P w K mg base CX0 2 f fd ["drawing"] (spOf K sp_names_of) :=
 fo2 F sc_names_of OK_names_of fun _ _ _ _ _ _ hr=>have hu:=hr.units; (pss2_one (ps2_ret (pe2_fz (pe2_callB (call2_sorted rfl hu) rfl no_sorted bt_sorted (pa2_cons (pe2_comp ["passing"] (sc:=defScope (top 6)) (XN:=["drawing"]) (pi2_seq (pe2_callS ok_passings_of (hr.mono (by decide)) rfl mg_passings_of kp_passings_of bi_passings_of (pa2_cons (pv2 0) pa2_nil))) (fun _ _ _ _=>(pgn (i:=0) (show (["passing"]:List Str).Nodup by decide +kernel) rfl)) (fun _ _ _ _=>(.some (pt2_cmp (op2_eq hu) (pe2_ix hu (pv2 0) pe2_int (fun _ _=>rfl)) pe2_int (nomark _)))) (fun _ _ _ _=>(pe2_ix hu (pv2 0) pe2_int (fun _ _=>rfl)))) pa2_nil)))))
theorem sc_string_of:FnScope ["drawing","spot","string","row"] ["drawing","spot"] (defScope (top 11)):=scm
theorem fn_string_of {f:Addr} {fd:FuncData} (F:Fun K "string_of" "string_of" (top 11) f fd) (no_enumerate:mg "enumerate" = none) {f_spots_on:Addr} {d_spots_on:FuncData} (ok_spots_on:FnOk P w K mg base CX0 1 f_spots_on d_spots_on ["row","string"] (spOf K sp_spots_on)) (mg_spots_on:mg "spots_on" = some (.ref f_spots_on)) (kp_spots_on:PySem.W.keepIn K (.ref f_spots_on)=true) (bi_spots_on:Binds K d_spots_on ["row","string"] []):FnOk P w K mg base CX0 2 f fd ["drawing","spot"] (spOf K sp_string_of) :=
 fo2 F sc_string_of OK_string_of fun _ _ _ _ _ _ hr=>have nd:=sc_string_of.nd; have hu:=hr.units; (pss2_cons (ps2_for PassesOwn.never rfl (pi2_enum rfl no_enumerate (pv2 0)) (pg2_tup rfl (pgs2_cons (pgn (i:=2) nd rfl) (pgs2_cons (pgn (i:=3) nd rfl) pgs2_nil)) (glen_name (glen_name glen_nil))) (pss2_one (ps2_if (pt2_cmp (op2_in hu) (pv2 1) (pe2_callS ok_spots_on (hr.mono (by decide)) rfl mg_spots_on kp_spots_on bi_spots_on (pa2_cons (pv2 3) (pa2_cons (pv2 2) pa2_nil))) (by with_unfolding_all rfl)) (pss2_one (ps2_ret (pe2_fz (pv2 2)))) pss2_nil)))
 (pss2_one ps2_never))
theorem sc_grouped:FnScope ["members","pairs","group_of","member","one","other","joined"] ["members","pairs"] (defScope (top 13)):=scm
theorem fn_grouped {f:Addr} {fd:FuncData} (F:Fun K "grouped" "grouped" (top 13) f fd) (no_min:mg "min" = none) (no_sorted:mg "sorted" = none):FnOk P w K mg base CX0 1 f fd ["members","pairs"] (spOf K sp_grouped) :=
 fun_ok2 F sc_grouped LEN_grouped OK_grouped fun cdv A outer s H E hr=>by
  have nd:=sc_grouped.nd
  have hu:=hr.units
  have hu0:=hr.units0
  exact (pss2_cons (pst (i:=2) nd rfl pe2_dic)
 (pss2_cons (ps2_for PassesOwn.never rfl (pi2_seq (pv2 0)) (pgn (i:=3) nd rfl) (pss2_one (ps2_asg (pe2_fz (pe2_lst (pa2_cons (pv2 3) pa2_nil))) (pg2_sub hu (pv2 2) (pv2 3)))))
 (pss2_cons (ps2_for PassesOwn.never rfl (pi2_seq (pv2 1)) (pg2_tup rfl (pgs2_cons (pgn (i:=4) nd rfl) (pgs2_cons (pgn (i:=5) nd rfl) pgs2_nil)) (glen_name (glen_name glen_nil))) (pss2_one (ps2_if (pt2_cmp (op2_notin hu) (pv2 5) (pe2_ix hu (pv2 2) (pv2 4) (fun _ _=>rfl)) (by with_unfolding_all rfl)) (pss2_cons (pst (i:=6) nd rfl (pe2_fz (pe2_op op2_add (pe2_ix hu (pv2 2) (pv2 4) (fun _ _=>rfl)) (pe2_ix hu (pv2 2) (pv2 5) (fun _ _=>rfl)))))
 (pss2_one (ps2_for PassesOwn.never rfl (pi2_seq (pv2 6)) (pgn (i:=3) nd rfl) (pss2_one (ps2_asg (pe2_fz (pv2 6)) (pg2_sub hu (pv2 2) (pv2 3))))))) pss2_nil)))
 (pss2_one (ps2_ret (pe2_fz (pe2_callB (call2_sorted rfl hu) rfl no_sorted bt_sorted (pa2_cons (pe2_comp ["member","group_of"] (sc:=defScope (top 13)) (XN:=["members","pairs","group_of","member","one","other","joined"]) (pi2_seq (pv2 0)) (fun _ _ _ _=>(pgn (i:=0) (show (["member","group_of"]:List Str).Nodup by decide +kernel) rfl)) (fun _ _ _ _=>(.some (pt2_cmp (op2_eq hu) (pe2_callB (call2_min rfl hu) rfl no_min bt_min (pa2_cons (pe2_ix hu (pv2 1) (pv2 0) (fun _ _=>rfl)) pa2_nil)) (pv2 0) (nomark _)))) (fun _ _ _ _=>(pe2_fz (pe2_callB (call2_sorted rfl hu) rfl no_sorted bt_sorted (pa2_cons (pe2_ix hu (pv2 1) (pv2 0) (fun _ _=>rfl)) pa2_nil))))) pa2_nil))))))))
theorem sc_pieces:FnScope ["drawing","crossed"] ["drawing"] (defScope (top 23)):=scm
theorem fn_pieces {f:Addr} {fd:FuncData} (F:Fun K "pieces" "pieces" (top 23) f fd) (no_len:mg "len" = none) (no_list:mg "list" = none) (no_range:mg "range" = none) {f_names_of:Addr} {d_names_of:FuncData} (ok_names_of:FnOk P w K mg base CX0 2 f_names_of d_names_of ["drawing"] (spOf K sp_names_of)) (mg_names_of:mg "names_of" = some (.ref f_names_of)) (kp_names_of:PySem.W.keepIn K (.ref f_names_of)=true) (bi_names_of:Binds K d_names_of ["drawing"] []) {f_string_of:Addr} {d_string_of:FuncData} (ok_string_of:FnOk P w K mg base CX0 2 f_string_of d_string_of ["drawing","spot"] (spOf K sp_string_of)) (mg_string_of:mg "string_of" = some (.ref f_string_of)) (kp_string_of:PySem.W.keepIn K (.ref f_string_of)=true) (bi_string_of:Binds K d_string_of ["drawing","spot"] []) {f_grouped:Addr} {d_grouped:FuncData} (ok_grouped:FnOk P w K mg base CX0 1 f_grouped d_grouped ["members","pairs"] (spOf K sp_grouped)) (mg_grouped:mg "grouped" = some (.ref f_grouped)) (kp_grouped:PySem.W.keepIn K (.ref f_grouped)=true) (bi_grouped:Binds K d_grouped ["members","pairs"] []):FnOk P w K mg base CX0 3 f fd ["drawing"] (spOf K sp_pieces) :=
 fo2 F sc_pieces OK_pieces fun _ _ _ _ _ _ hr=>have nd:=sc_pieces.nd; (pss2_cons (ps2_fzv (ps2_setC ["name","drawing"] (sc:=defScope (top 23)) (XN:=["drawing","crossed"]) (i:=1) nd rfl rfl (pi2_seq (pe2_callS ok_names_of (hr.mono (by decide)) rfl mg_names_of kp_names_of bi_names_of (pa2_cons (pv2 0) pa2_nil))) (fun _ _ _ _=>(pgn (i:=0) (show (["name","drawing"]:List Str).Nodup by decide +kernel) rfl)) (fun _ _ _ _=>.none) (fun _ _ _ _=>(pe2_tup (pa2_cons (pe2_callS ok_string_of (hr.mono (by decide)) rfl mg_string_of kp_string_of bi_string_of (pa2_cons (pv2 1) (pa2_cons (pe2_tup (pa2_cons (pv2 0) (pa2_cons pe2_int pa2_nil))) pa2_nil))) (pa2_cons (pe2_callS ok_string_of (hr.mono (by decide)) rfl mg_string_of kp_string_of bi_string_of (pa2_cons (pv2 1) (pa2_cons (pe2_tup (pa2_cons (pv2 0) (pa2_cons pe2_int pa2_nil))) pa2_nil))) pa2_nil))))))
 (pss2_one (ps2_ret (pe2_fz (pe2_callS ok_grouped (hr.mono (by decide)) rfl mg_grouped kp_grouped bi_grouped (pa2_cons (pe2_fz (pe2_lrange rfl rfl no_list rfl no_range (pe2_callB call2_len rfl no_len bt_len (pa2_cons (pv2 0) pa2_nil)))) (pa2_cons (pe2_fz (pv2 1)) pa2_nil)))))))
theorem sc_left_of:FnScope ["spot"] ["spot"] (defScope (top 16)):=scm
theorem fn_left_of {f:Addr} {fd:FuncData} (F:Fun K "left_of" "left_of" (top 16) f fd):FnOk P w K mg base CX0 1 f fd ["spot"] (spOf K sp_left_of) :=
 fo2 F sc_left_of OK_left_of fun _ _ _ _ _ _ hr=>have hu:=hr.units; (pss2_one (ps2_ret (pe2_fz (pe2_tup (pa2_cons (pe2_ix hu (pv2 0) pe2_int (fun _ _=>rfl)) (pa2_cons (pe2_ix hu (pv2 0) pe2_int (fun _ _=>rfl)) (pa2_cons pe2_int pa2_nil)))))))
theorem sc_right_of:FnScope ["spot"] ["spot"] (defScope (top 17)):=scm
theorem fn_right_of {f:Addr} {fd:FuncData} (F:Fun K "right_of" "right_of" (top 17) f fd):FnOk P w K mg base CX0 1 f fd ["spot"] (spOf K sp_right_of) :=
 fo2 F sc_right_of OK_right_of fun _ _ _ _ _ _ hr=>have hu:=hr.units; (pss2_one (ps2_ret (pe2_fz (pe2_tup (pa2_cons (pe2_ix hu (pv2 0) pe2_int (fun _ _=>rfl)) (pa2_cons (pe2_ix hu (pv2 0) pe2_int (fun _ _=>rfl)) (pa2_cons pe2_int pa2_nil)))))))
theorem sc_under_side:FnScope ["spot","hand"] ["spot","hand"] (defScope (top 26)):=scm
theorem fn_under_side {f:Addr} {fd:FuncData} (F:Fun K "under_side" "under_side" (top 26) f fd) {f_left_of:Addr} {d_left_of:FuncData} (ok_left_of:FnOk P w K mg base CX0 1 f_left_of d_left_of ["spot"] (spOf K sp_left_of)) (mg_left_of:mg "left_of" = some (.ref f_left_of)) (kp_left_of:PySem.W.keepIn K (.ref f_left_of)=true) (bi_left_of:Binds K d_left_of ["spot"] []) {f_right_of:Addr} {d_right_of:FuncData} (ok_right_of:FnOk P w K mg base CX0 1 f_right_of d_right_of ["spot"] (spOf K sp_right_of)) (mg_right_of:mg "right_of" = some (.ref f_right_of)) (kp_right_of:PySem.W.keepIn K (.ref f_right_of)=true) (bi_right_of:Binds K d_right_of ["spot"] []):FnOk P w K mg base CX0 2 f fd ["spot","hand"] (spOf K sp_under_side) :=
 fo2 F sc_under_side OK_under_side fun _ _ _ _ _ _ hr=>have hu:=hr.units; (pss2_cons (ps2_if (pt2_cmp (op2_eq hu) (pv2 1) pe2_int (nomark _)) (pss2_one (ps2_ret (pe2_fz (pe2_callS ok_left_of (hr.mono (by decide)) rfl mg_left_of kp_left_of bi_left_of (pa2_cons (pv2 0) pa2_nil))))) pss2_nil)
 (pss2_one (ps2_ret (pe2_fz (pe2_callS ok_right_of (hr.mono (by decide)) rfl mg_right_of kp_right_of bi_right_of (pa2_cons (pv2 0) pa2_nil))))))
theorem sc_over_side:FnScope ["spot","turned","hand"] ["spot","turned","hand"] (defScope (top 25)):=scm
theorem fn_over_side {f:Addr} {fd:FuncData} (F:Fun K "over_side" "over_side" (top 25) f fd) {f_left_of:Addr} {d_left_of:FuncData} (ok_left_of:FnOk P w K mg base CX0 1 f_left_of d_left_of ["spot"] (spOf K sp_left_of)) (mg_left_of:mg "left_of" = some (.ref f_left_of)) (kp_left_of:PySem.W.keepIn K (.ref f_left_of)=true) (bi_left_of:Binds K d_left_of ["spot"] []) {f_right_of:Addr} {d_right_of:FuncData} (ok_right_of:FnOk P w K mg base CX0 1 f_right_of d_right_of ["spot"] (spOf K sp_right_of)) (mg_right_of:mg "right_of" = some (.ref f_right_of)) (kp_right_of:PySem.W.keepIn K (.ref f_right_of)=true) (bi_right_of:Binds K d_right_of ["spot"] []):FnOk P w K mg base CX0 2 f fd ["spot","turned","hand"] (spOf K sp_over_side) :=
 fo2 F sc_over_side OK_over_side fun _ _ _ _ _ _ hr=>have hu:=hr.units; (pss2_cons (ps2_if (PW2.pt (pw2_or (PW2.pt (pw2_and (pt2_cmp (op2_eq hu) (pv2 2) pe2_int (nomark _)) (pw2_and1 (pt2_cmp (op2_eq hu) (pv2 1) pe2_int (nomark _))))) (pw2_or1 (PW2.pt (pw2_and (pt2_cmp (op2_eq hu) (pv2 2) (pe2_un un2_neg pe2_int) (nomark _)) (pw2_and1 (pt2_cmp (op2_eq hu) (pv2 1) pe2_int (nomark _)))))))) (pss2_one (ps2_ret (pe2_fz (pe2_callS ok_left_of (hr.mono (by decide)) rfl mg_left_of kp_left_of bi_left_of (pa2_cons (pv2 0) pa2_nil))))) pss2_nil)
 (pss2_one (ps2_ret (pe2_fz (pe2_callS ok_right_of (hr.mono (by decide)) rfl mg_right_of kp_right_of bi_right_of (pa2_cons (pv2 0) pa2_nil))))))
theorem sc_next_of:FnScope ["drawing","behind","row","passing","follower"] ["drawing"] (defScope (top 10)):=scm
theorem fn_next_of {f:Addr} {fd:FuncData} (F:Fun K "next_of" "next_of" (top 10) f fd) (no_zip:mg "zip" = none):FnOk P w K mg base CX0 1 f fd ["drawing"] (spOf K sp_next_of) :=
 fo2 F sc_next_of OK_next_of fun _ _ _ _ _ _ hr=>have nd:=sc_next_of.nd; have hu:=hr.units; (pss2_cons (pst (i:=1) nd rfl pe2_dic)
 (pss2_cons (ps2_for PassesOwn.never rfl (pi2_seq (pv2 0)) (pgn (i:=2) nd rfl) (pss2_one (ps2_for PassesOwn.never rfl (pi2_zip rfl no_zip (pv2 2) (pe2_op op2_add (pe2_slice (pv2 2) (po2_some pe2_int) po2_none) (pe2_slice (pv2 2) po2_none (po2_some pe2_int)))) (pg2_tup rfl (pgs2_cons (pgn (i:=3) nd rfl) (pgs2_cons (pgn (i:=4) nd rfl) pgs2_nil)) (glen_name (glen_name glen_nil))) (pss2_one (ps2_asg (pe2_slice (pv2 4) po2_none (po2_some pe2_int)) (pg2_sub hu (pv2 1) (pe2_slice (pv2 3) po2_none (po2_some pe2_int))))))))
 (pss2_one (ps2_ret (pe2_fz (pv2 1))))))
theorem sc_coming_of:FnScope ["drawing","behind","coming","spot"] ["drawing"] (defScope (top 19)):=scm
theorem fn_coming_of {f:Addr} {fd:FuncData} (F:Fun K "coming_of" "coming_of" (top 19) f fd) {f_next_of:Addr} {d_next_of:FuncData} (ok_next_of:FnOk P w K mg base CX0 1 f_next_of d_next_of ["drawing"] (spOf K sp_next_of)) (mg_next_of:mg "next_of" = some (.ref f_next_of)) (kp_next_of:PySem.W.keepIn K (.ref f_next_of)=true) (bi_next_of:Binds K d_next_of ["drawing"] []):FnOk P w K mg base CX0 2 f fd ["drawing"] (spOf K sp_coming_of) :=
 fo2 F sc_coming_of OK_coming_of fun _ _ _ _ _ _ hr=>have nd:=sc_coming_of.nd; have hu:=hr.units; (pss2_cons (pst (i:=1) nd rfl (pe2_callS ok_next_of (hr.mono (by decide)) rfl mg_next_of kp_next_of bi_next_of (pa2_cons (pv2 0) pa2_nil)))
 (pss2_cons (pst (i:=2) nd rfl pe2_dic)
 (pss2_cons (ps2_for PassesOwn.never rfl (pi2_dict (pv2 1)) (pgn (i:=3) nd rfl) (pss2_one (ps2_asg (pv2 3) (pg2_sub hu (pv2 2) (pe2_ix hu (pv2 1) (pv2 3) (fun _ _=>rfl))))))
 (pss2_one (ps2_ret (pe2_fz (pv2 2)))))))
theorem sc_hand_of:FnScope ["drawing","name","passing"] ["drawing","name"] (defScope (top 7)):=scm
theorem fn_hand_of {f:Addr} {fd:FuncData} (F:Fun K "hand_of" "hand_of" (top 7) f fd) {f_passings_of:Addr} {d_passings_of:FuncData} (ok_passings_of:FnOk P w K mg base CX0 1 f_passings_of d_passings_of ["rows"] (spOf K sp_passings_of)) (mg_passings_of:mg "passings_of" = some (.ref f_passings_of)) (kp_passings_of:PySem.W.keepIn K (.ref f_passings_of)=true) (bi_passings_of:Binds K d_passings_of ["rows"] []):FnOk P w K mg base CX0 2 f fd ["drawing","name"] (spOf K sp_hand_of) :=
 fo2 F sc_hand_of OK_hand_of fun _ _ _ _ _ _ hr=>have nd:=sc_hand_of.nd; have hu:=hr.units; (pss2_cons (ps2_for PassesOwn.never rfl (pi2_seq (pe2_callS ok_passings_of (hr.mono (by decide)) rfl mg_passings_of kp_passings_of bi_passings_of (pa2_cons (pv2 0) pa2_nil))) (pgn (i:=2) nd rfl) (pss2_one (ps2_if (pt2_cmp (op2_eq hu) (pe2_ix hu (pv2 2) pe2_int (fun _ _=>rfl)) (pv2 1) (nomark _)) (pss2_one (ps2_ret (pe2_fz (pe2_ix hu (pv2 2) pe2_int (fun _ _=>rfl))))) pss2_nil)))
 (pss2_one ps2_never))
theorem sc_corners_at:FnScope ["coming","first","second","first_coming","second_coming"] ["coming","first","second"] (defScope (top 20)):=scm
theorem fn_corners_at {f:Addr} {fd:FuncData} (F:Fun K "corners_at" "corners_at" (top 20) f fd) {f_left_of:Addr} {d_left_of:FuncData} (ok_left_of:FnOk P w K mg base CX0 1 f_left_of d_left_of ["spot"] (spOf K sp_left_of)) (mg_left_of:mg "left_of" = some (.ref f_left_of)) (kp_left_of:PySem.W.keepIn K (.ref f_left_of)=true) (bi_left_of:Binds K d_left_of ["spot"] []) {f_right_of:Addr} {d_right_of:FuncData} (ok_right_of:FnOk P w K mg base CX0 1 f_right_of d_right_of ["spot"] (spOf K sp_right_of)) (mg_right_of:mg "right_of" = some (.ref f_right_of)) (kp_right_of:PySem.W.keepIn K (.ref f_right_of)=true) (bi_right_of:Binds K d_right_of ["spot"] []):FnOk P w K mg base CX0 2 f fd ["coming","first","second"] (spOf K sp_corners_at) :=
 fo2 F sc_corners_at OK_corners_at fun _ _ _ _ _ _ hr=>have nd:=sc_corners_at.nd; have hu:=hr.units; (pss2_cons (pst (i:=3) nd rfl (pe2_ix hu (pv2 0) (pv2 1) (fun _ _=>rfl)))
 (pss2_cons (pst (i:=4) nd rfl (pe2_ix hu (pv2 0) (pv2 2) (fun _ _=>rfl)))
 (pss2_one (ps2_ret (pe2_fz (pe2_lst (pa2_cons (pe2_tup (pa2_cons (pe2_callS ok_right_of (hr.mono (by decide)) rfl mg_right_of kp_right_of bi_right_of (pa2_cons (pv2 3) pa2_nil)) (pa2_cons (pe2_callS ok_left_of (hr.mono (by decide)) rfl mg_left_of kp_left_of bi_left_of (pa2_cons (pv2 4) pa2_nil)) pa2_nil))) (pa2_cons (pe2_tup (pa2_cons (pe2_callS ok_right_of (hr.mono (by decide)) rfl mg_right_of kp_right_of bi_right_of (pa2_cons (pv2 4) pa2_nil)) (pa2_cons (pe2_callS ok_right_of (hr.mono (by decide)) rfl mg_right_of kp_right_of bi_right_of (pa2_cons (pv2 1) pa2_nil)) pa2_nil))) (pa2_cons (pe2_tup (pa2_cons (pe2_callS ok_left_of (hr.mono (by decide)) rfl mg_left_of kp_left_of bi_left_of (pa2_cons (pv2 1) pa2_nil)) (pa2_cons (pe2_callS ok_right_of (hr.mono (by decide)) rfl mg_right_of kp_right_of bi_right_of (pa2_cons (pv2 2) pa2_nil)) pa2_nil))) (pa2_cons (pe2_tup (pa2_cons (pe2_callS ok_left_of (hr.mono (by decide)) rfl mg_left_of kp_left_of bi_left_of (pa2_cons (pv2 2) pa2_nil)) (pa2_cons (pe2_callS ok_left_of (hr.mono (by decide)) rfl mg_left_of kp_left_of bi_left_of (pa2_cons (pv2 3) pa2_nil)) pa2_nil))) pa2_nil))))))))))
theorem sc_corners_of:FnScope ["drawing","coming","corners","name"] ["drawing"] (defScope (top 21)):=scm
theorem fn_corners_of {f:Addr} {fd:FuncData} (F:Fun K "corners_of" "corners_of" (top 21) f fd) {f_coming_of:Addr} {d_coming_of:FuncData} (ok_coming_of:FnOk P w K mg base CX0 2 f_coming_of d_coming_of ["drawing"] (spOf K sp_coming_of)) (mg_coming_of:mg "coming_of" = some (.ref f_coming_of)) (kp_coming_of:PySem.W.keepIn K (.ref f_coming_of)=true) (bi_coming_of:Binds K d_coming_of ["drawing"] []) {f_names_of:Addr} {d_names_of:FuncData} (ok_names_of:FnOk P w K mg base CX0 2 f_names_of d_names_of ["drawing"] (spOf K sp_names_of)) (mg_names_of:mg "names_of" = some (.ref f_names_of)) (kp_names_of:PySem.W.keepIn K (.ref f_names_of)=true) (bi_names_of:Binds K d_names_of ["drawing"] []) {f_hand_of:Addr} {d_hand_of:FuncData} (ok_hand_of:FnOk P w K mg base CX0 2 f_hand_of d_hand_of ["drawing","name"] (spOf K sp_hand_of)) (mg_hand_of:mg "hand_of" = some (.ref f_hand_of)) (kp_hand_of:PySem.W.keepIn K (.ref f_hand_of)=true) (bi_hand_of:Binds K d_hand_of ["drawing","name"] []) {f_corners_at:Addr} {d_corners_at:FuncData} (ok_corners_at:FnOk P w K mg base CX0 2 f_corners_at d_corners_at ["coming","first","second"] (spOf K sp_corners_at)) (mg_corners_at:mg "corners_at" = some (.ref f_corners_at)) (kp_corners_at:PySem.W.keepIn K (.ref f_corners_at)=true) (bi_corners_at:Binds K d_corners_at ["coming","first","second"] []):FnOk P w K mg base CX0 3 f fd ["drawing"] (spOf K sp_corners_of) :=
 fo2 F sc_corners_of OK_corners_of fun _ _ _ _ _ _ hr=>have nd:=sc_corners_of.nd; have hu:=hr.units; (pss2_cons (pst (i:=1) nd rfl (pe2_callS ok_coming_of (hr.mono (by decide)) rfl mg_coming_of kp_coming_of bi_coming_of (pa2_cons (pv2 0) pa2_nil)))
 (pss2_cons (pst (i:=2) nd rfl (pe2_lst pa2_nil))
 (pss2_cons (ps2_for PassesOwn.never rfl (pi2_seq (pe2_callS ok_names_of (hr.mono (by decide)) rfl mg_names_of kp_names_of bi_names_of (pa2_cons (pv2 0) pa2_nil))) (pgn (i:=3) nd rfl) (pss2_one (ps2_if (pt2_cmp (op2_eq hu) (pe2_callS ok_hand_of (hr.mono (by decide)) rfl mg_hand_of kp_hand_of bi_hand_of (pa2_cons (pv2 0) (pa2_cons (pv2 3) pa2_nil))) pe2_int (nomark _)) (pss2_one (ps2_expr (pe2_bm PySem.F.plainAttrs_list PySem.F.slot_list_extend PySem.F.type_list_extend ty2_list mt2_extend (pv2 2) (pa2_cons (pe2_callS ok_corners_at (hr.mono (by decide)) rfl mg_corners_at kp_corners_at bi_corners_at (pa2_cons (pv2 1) (pa2_cons (pe2_tup (pa2_cons (pv2 3) (pa2_cons pe2_int pa2_nil))) (pa2_cons (pe2_tup (pa2_cons (pv2 3) (pa2_cons pe2_int pa2_nil))) pa2_nil)))) pa2_nil)))) (pss2_one (ps2_expr (pe2_bm PySem.F.plainAttrs_list PySem.F.slot_list_extend PySem.F.type_list_extend ty2_list mt2_extend (pv2 2) (pa2_cons (pe2_callS ok_corners_at (hr.mono (by decide)) rfl mg_corners_at kp_corners_at bi_corners_at (pa2_cons (pv2 1) (pa2_cons (pe2_tup (pa2_cons (pv2 3) (pa2_cons pe2_int pa2_nil))) (pa2_cons (pe2_tup (pa2_cons (pv2 3) (pa2_cons pe2_int pa2_nil))) pa2_nil)))) pa2_nil)))))))
 (pss2_one (ps2_ret (pe2_fz (pv2 2)))))))
theorem sc_spots_of:FnScope ["drawing","spots","string","row"] ["drawing"] (defScope (top 9)):=scm
theorem fn_spots_of {f:Addr} {fd:FuncData} (F:Fun K "spots_of" "spots_of" (top 9) f fd) (no_enumerate:mg "enumerate" = none) (no_sorted:mg "sorted" = none) {f_spots_on:Addr} {d_spots_on:FuncData} (ok_spots_on:FnOk P w K mg base CX0 1 f_spots_on d_spots_on ["row","string"] (spOf K sp_spots_on)) (mg_spots_on:mg "spots_on" = some (.ref f_spots_on)) (kp_spots_on:PySem.W.keepIn K (.ref f_spots_on)=true) (bi_spots_on:Binds K d_spots_on ["row","string"] []):FnOk P w K mg base CX0 2 f fd ["drawing"] (spOf K sp_spots_of) :=
 fo2 F sc_spots_of OK_spots_of fun _ _ _ _ _ _ hr=>have nd:=sc_spots_of.nd; have hu:=hr.units; (pss2_cons (pst (i:=1) nd rfl (pe2_lst pa2_nil))
 (pss2_cons (ps2_for PassesOwn.never rfl (pi2_enum rfl no_enumerate (pv2 0)) (pg2_tup rfl (pgs2_cons (pgn (i:=2) nd rfl) (pgs2_cons (pgn (i:=3) nd rfl) pgs2_nil)) (glen_name (glen_name glen_nil))) (pss2_one (ps2_expr (pe2_bm PySem.F.plainAttrs_list PySem.F.slot_list_extend PySem.F.type_list_extend ty2_list mt2_extend (pv2 1) (pa2_cons (pe2_callS ok_spots_on (hr.mono (by decide)) rfl mg_spots_on kp_spots_on bi_spots_on (pa2_cons (pv2 3) (pa2_cons (pv2 2) pa2_nil))) pa2_nil)))))
 (pss2_one (ps2_ret (pe2_fz (pe2_callB (call2_sorted rfl hu) rfl no_sorted bt_sorted (pa2_cons (pv2 1) pa2_nil)))))))
theorem sc_sides_of:FnScope ["drawing","sides","spot"] ["drawing"] (defScope (top 18)):=scm
theorem fn_sides_of {f:Addr} {fd:FuncData} (F:Fun K "sides_of" "sides_of" (top 18) f fd) {f_spots_of:Addr} {d_spots_of:FuncData} (ok_spots_of:FnOk P w K mg base CX0 2 f_spots_of d_spots_of ["drawing"] (spOf K sp_spots_of)) (mg_spots_of:mg "spots_of" = some (.ref f_spots_of)) (kp_spots_of:PySem.W.keepIn K (.ref f_spots_of)=true) (bi_spots_of:Binds K d_spots_of ["drawing"] []) {f_left_of:Addr} {d_left_of:FuncData} (ok_left_of:FnOk P w K mg base CX0 1 f_left_of d_left_of ["spot"] (spOf K sp_left_of)) (mg_left_of:mg "left_of" = some (.ref f_left_of)) (kp_left_of:PySem.W.keepIn K (.ref f_left_of)=true) (bi_left_of:Binds K d_left_of ["spot"] []) {f_right_of:Addr} {d_right_of:FuncData} (ok_right_of:FnOk P w K mg base CX0 1 f_right_of d_right_of ["spot"] (spOf K sp_right_of)) (mg_right_of:mg "right_of" = some (.ref f_right_of)) (kp_right_of:PySem.W.keepIn K (.ref f_right_of)=true) (bi_right_of:Binds K d_right_of ["spot"] []):FnOk P w K mg base CX0 3 f fd ["drawing"] (spOf K sp_sides_of) :=
 fo2 F sc_sides_of OK_sides_of fun _ _ _ _ _ _ hr=>have nd:=sc_sides_of.nd; (pss2_cons (pst (i:=1) nd rfl (pe2_lst pa2_nil))
 (pss2_cons (ps2_for PassesOwn.never rfl (pi2_seq (pe2_callS ok_spots_of (hr.mono (by decide)) rfl mg_spots_of kp_spots_of bi_spots_of (pa2_cons (pv2 0) pa2_nil))) (pgn (i:=2) nd rfl) (pss2_cons (ps2_expr (pe2_bm PySem.F.plainAttrs_list PySem.F.slot_list_append PySem.F.type_list_append ty2_list mt2_append (pv2 1) (pa2_cons (pe2_callS ok_left_of (hr.mono (by decide)) rfl mg_left_of kp_left_of bi_left_of (pa2_cons (pv2 2) pa2_nil)) pa2_nil)))
 (pss2_one (ps2_expr (pe2_bm PySem.F.plainAttrs_list PySem.F.slot_list_append PySem.F.type_list_append ty2_list mt2_append (pv2 1) (pa2_cons (pe2_callS ok_right_of (hr.mono (by decide)) rfl mg_right_of kp_right_of bi_right_of (pa2_cons (pv2 2) pa2_nil)) pa2_nil))))))
 (pss2_one (ps2_ret (pe2_fz (pv2 1))))))
theorem sc_regions:FnScope ["drawing"] ["drawing"] (defScope (top 22)):=scm
theorem fn_regions {f:Addr} {fd:FuncData} (F:Fun K "regions" "regions" (top 22) f fd) {f_grouped:Addr} {d_grouped:FuncData} (ok_grouped:FnOk P w K mg base CX0 1 f_grouped d_grouped ["members","pairs"] (spOf K sp_grouped)) (mg_grouped:mg "grouped" = some (.ref f_grouped)) (kp_grouped:PySem.W.keepIn K (.ref f_grouped)=true) (bi_grouped:Binds K d_grouped ["members","pairs"] []) {f_corners_of:Addr} {d_corners_of:FuncData} (ok_corners_of:FnOk P w K mg base CX0 3 f_corners_of d_corners_of ["drawing"] (spOf K sp_corners_of)) (mg_corners_of:mg "corners_of" = some (.ref f_corners_of)) (kp_corners_of:PySem.W.keepIn K (.ref f_corners_of)=true) (bi_corners_of:Binds K d_corners_of ["drawing"] []) {f_sides_of:Addr} {d_sides_of:FuncData} (ok_sides_of:FnOk P w K mg base CX0 3 f_sides_of d_sides_of ["drawing"] (spOf K sp_sides_of)) (mg_sides_of:mg "sides_of" = some (.ref f_sides_of)) (kp_sides_of:PySem.W.keepIn K (.ref f_sides_of)=true) (bi_sides_of:Binds K d_sides_of ["drawing"] []):FnOk P w K mg base CX0 4 f fd ["drawing"] (spOf K sp_regions) :=
 fo2 F sc_regions OK_regions fun _ _ _ _ _ _ hr=>(pss2_one (ps2_ret (pe2_fz (pe2_callS ok_grouped (hr.mono (by decide)) rfl mg_grouped kp_grouped bi_grouped (pa2_cons (pe2_callS ok_sides_of (hr.mono (by decide)) rfl mg_sides_of kp_sides_of bi_sides_of (pa2_cons (pv2 0) pa2_nil)) (pa2_cons (pe2_callS ok_corners_of (hr.mono (by decide)) rfl mg_corners_of kp_corners_of bi_corners_of (pa2_cons (pv2 0) pa2_nil)) pa2_nil))))))
theorem sc_nearX:FnScope ["drawing","over","under","turned","hand","over_string","under_string"] ["drawing","over","under","turned","hand"] (defScope (top 24)):=scm
theorem fn_nearX {f:Addr} {fd:FuncData} (F:Fun K "near" "near" (top 24) f fd) {f_string_ofX:Addr} {d_string_ofX:FuncData} (ok_string_ofX:FnOk P w K mg base (CXe P w) 2 f_string_ofX d_string_ofX ["drawing","spot"] (spOfX K mg sp_string_ofX)) (mg_string_ofX:mg "string_of" = some (.ref f_string_ofX)) (kp_string_ofX:PySem.W.keepIn K (.ref f_string_ofX)=true) (bi_string_ofX:Binds K d_string_ofX ["drawing","spot"] []) {f_together:Addr} {d_together:FuncData} (ok_together:FnOk P w K mg base CX0 1 f_together d_together ["groups","one","other"] (spOf K sp_together)) (mg_together:mg "together" = some (.ref f_together)) (kp_together:PySem.W.keepIn K (.ref f_together)=true) (bi_together:Binds K d_together ["groups","one","other"] []) {f_pieces:Addr} {d_pieces:FuncData} (ok_pieces:FnOk P w K mg base CX0 3 f_pieces d_pieces ["drawing"] (spOf K sp_pieces)) (mg_pieces:mg "pieces" = some (.ref f_pieces)) (kp_pieces:PySem.W.keepIn K (.ref f_pieces)=true) (bi_pieces:Binds K d_pieces ["drawing"] []) {f_under_side:Addr} {d_under_side:FuncData} (ok_under_side:FnOk P w K mg base CX0 2 f_under_side d_under_side ["spot","hand"] (spOf K sp_under_side)) (mg_under_side:mg "under_side" = some (.ref f_under_side)) (kp_under_side:PySem.W.keepIn K (.ref f_under_side)=true) (bi_under_side:Binds K d_under_side ["spot","hand"] []) {f_over_side:Addr} {d_over_side:FuncData} (ok_over_side:FnOk P w K mg base CX0 2 f_over_side d_over_side ["spot","turned","hand"] (spOf K sp_over_side)) (mg_over_side:mg "over_side" = some (.ref f_over_side)) (kp_over_side:PySem.W.keepIn K (.ref f_over_side)=true) (bi_over_side:Binds K d_over_side ["spot","turned","hand"] []) {f_regions:Addr} {d_regions:FuncData} (ok_regions:FnOk P w K mg base CX0 4 f_regions d_regions ["drawing"] (spOf K sp_regions)) (mg_regions:mg "regions" = some (.ref f_regions)) (kp_regions:PySem.W.keepIn K (.ref f_regions)=true) (bi_regions:Binds K d_regions ["drawing"] []):FnOk P w K mg base (CXe P w) 5 f fd ["drawing","over","under","turned","hand"] (spOfX K mg sp_nearX) :=
 foX F sc_nearX OK_nearX fun _ _ _ _ _ _ hr=>have nd:=sc_nearX.nd; (pss2_cons (pst (i:=5) nd rfl (pe2_callX ok_string_ofX (hr.mono (by decide)) rfl mg_string_ofX kp_string_ofX bi_string_ofX (pa2_cons (pv2 0) (pa2_cons (pv2 1) pa2_nil))))
 (pss2_cons (pst (i:=6) nd rfl (pe2_callX ok_string_ofX (hr.mono (by decide)) rfl mg_string_ofX kp_string_ofX bi_string_ofX (pa2_cons (pv2 0) (pa2_cons (pv2 2) pa2_nil))))
 (pss2_cons (ps2_if (pt2_not (pt2_truth (pe2_callS ok_together (hr.mono (by decide)) rfl mg_together kp_together bi_together (pa2_cons (pe2_callS ok_pieces (hr.mono (by decide)) rfl mg_pieces kp_pieces bi_pieces (pa2_cons (pv2 0) pa2_nil)) (pa2_cons (pv2 5) (pa2_cons (pv2 6) pa2_nil)))))) (pss2_one (ps2_ret (pe2_fz pe2_bl))) pss2_nil)
 (pss2_one (ps2_ret (pe2_fz (pe2_callS ok_together (hr.mono (by decide)) rfl mg_together kp_together bi_together (pa2_cons (pe2_callS ok_regions (hr.mono (by decide)) rfl mg_regions kp_regions bi_regions (pa2_cons (pv2 0) pa2_nil)) (pa2_cons (pe2_callS ok_over_side (hr.mono (by decide)) rfl mg_over_side kp_over_side bi_over_side (pa2_cons (pv2 1) (pa2_cons (pv2 3) (pa2_cons (pv2 4) pa2_nil)))) (pa2_cons (pe2_callS ok_under_side (hr.mono (by decide)) rfl mg_under_side kp_under_side bi_under_side (pa2_cons (pv2 2) (pa2_cons (pv2 4) pa2_nil))) pa2_nil))))))))))
theorem sc_law_refused:FnScope ["_law_drawing","_law_told","_law_found","_law_refused_here","e"] ["_law_drawing","_law_told"] (defScope (top 41)):=scm
theorem fn_law_refused {f:Addr} {fd:FuncData} (F:Fun K "_law_refused" "_law_refused" (top 41) f fd) (no_ValueError:mg "ValueError" = none) (no_isinstance:mg "isinstance" = none) {C_NoSpot:Addr} (ns_NoSpot:PySem.W.nsIn K mainGlobals "NoSpot" = some (some (.ref C_NoSpot))) (mg_NoSpot:mg "NoSpot" = some (.ref C_NoSpot)) (ex_NoSpot:PySem.W.excIn K C_NoSpot [.type "ValueError",.type "Exception",.type "BaseException",.type "object"] "ValueError.__new__" = true) (xi_NoSpot:ExcIs K C_NoSpot) {C_KnotError:Addr} (ns_KnotError:PySem.W.nsIn K mainGlobals "KnotError" = some (some (.ref C_KnotError))) (mg_KnotError:mg "KnotError" = some (.ref C_KnotError)) (ex_KnotError:PySem.W.excIn K C_KnotError [.type "ValueError",.type "Exception",.type "BaseException",.type "object"] "ValueError.__new__" = true) (xi_KnotError:ExcIs K C_KnotError) (kn_NoSpot:PySem.W.kitOne K (.type "NoneType") (.ref C_NoSpot)=some false) (ki_NoSpot_NoSpot:PySem.W.kitOne K (.ref C_NoSpot) (.ref C_NoSpot)=some true) (sb_NoSpot_KnotError:subIn K C_NoSpot (.ref C_KnotError)=true) (kv_NoSpot:PySem.W.kitOne K (.ref C_NoSpot) (.type "ValueError")=some true) {f_nearX:Addr} {d_nearX:FuncData} (ok_nearX:FnOk P w K mg base (CXe P w) 5 f_nearX d_nearX ["drawing","over","under","turned","hand"] (spOfX K mg sp_nearX)) (mg_nearX:mg "near" = some (.ref f_nearX)) (kp_nearX:PySem.W.keepIn K (.ref f_nearX)=true) (bi_nearX:Binds K d_nearX ["drawing","over","under","turned","hand"] []):FnOk P w K mg base CX0 6 f fd ["_law_drawing","_law_told"] (spOf K sp_law_refused) :=
 fo2 F sc_law_refused OK_law_refused fun _ _ _ _ _ _ hr=>have nd:=sc_law_refused.nd; have hu:=hr.units; (pss2_cons (pst (i:=2) nd rfl pe2_non)
 (pss2_cons (pst (i:=3) nd rfl pe2_bl)
 (pss2_cons (ps2_tryA (j:=2) ⟨rfl,rfl,rfl⟩ ⟨nd,rfl,rfl,rfl,mg_KnotError,⟨_,_,ex_KnotError,rfl⟩,(cat_cons ⟨_,_,_,ns_NoSpot,ex_NoSpot,sb_NoSpot_KnotError⟩ cat_nil)⟩ rfl (by first | exact Or.inl rfl | exact Or.inr rfl) ok_nearX (hr.mono (by decide)) rfl mg_nearX kp_nearX bi_nearX (fun EX=>(pa2_cons (pv2 0) (pa2_cons (pe2_ix hu (pv2 1) pe2_int (fun _ _=>rfl)) (pa2_cons (pe2_ix hu (pv2 1) pe2_int (fun _ _=>rfl)) (pa2_cons (pe2_ix hu (pv2 1) pe2_int (fun _ _=>rfl)) (pa2_cons (pe2_ix hu (pv2 1) pe2_int (fun _ _=>rfl)) pa2_nil)))))) (fun v=>(pss2_one (pst (i:=3) nd rfl (pe2_and (pe2_isiO PySem.F.attrBase_ValueError rfl no_isinstance rfl mg_NoSpot kn_NoSpot (cat_cons ⟨_,ns_NoSpot,ki_NoSpot_NoSpot,xi_NoSpot⟩ cat_nil) (pv2 4)) (pe2_one (pe2_isiV PySem.F.attrBase_ValueError rfl no_isinstance rfl no_ValueError (cat_cons ⟨_,ns_NoSpot,kv_NoSpot,xi_NoSpot⟩ cat_nil) (pv2 4))))))))
 (pss2_one (ps2_ret (pe2_fz (pe2_and (pv2 3) (pe2_one (pe2_isN (pv2 2))))))))))
theorem sc_law_strings:FnScope ["_law_drawing","_law_string","_law_k","_law_passing"] ["_law_drawing"] (defScope (top 39)):=scm
theorem fn_law_strings {f:Addr} {fd:FuncData} (F:Fun K "_law_strings" "_law_strings" (top 39) f fd) (no_len:mg "len" = none) (no_range:mg "range" = none):FnOk P w K mg base CX0 1 f fd ["_law_drawing"] (spOf K sp_law_strings) :=
 fo2 F sc_law_strings OK_law_strings fun _ _ _ _ _ _ hr=>have nd:=sc_law_strings.nd; have hu:=hr.units; (pss2_cons (pst (i:=1) nd rfl pe2_dic)
 (pss2_cons (ps2_for PassesOwn.never rfl (pi2_range1 rfl no_range (pe2_callB call2_len rfl no_len bt_len (pa2_cons (pv2 0) pa2_nil))) (pgn (i:=2) nd rfl) (pss2_cons (ps2_if (pt2_not (pt2_truth (pe2_ix hu (pv2 0) (pv2 2) (fun _ _=>rfl)))) (pss2_one (ps2_asg (pv2 2) (pg2_sub hu (pv2 1) (pe2_tup (pa2_cons (pv2 2) (pa2_cons pe2_int pa2_nil)))))) pss2_nil)
 (pss2_one (ps2_for PassesOwn.never rfl (pi2_seq (pe2_ix hu (pv2 0) (pv2 2) (fun _ _=>rfl))) (pgn (i:=3) nd rfl) (pss2_one (ps2_asg (pv2 2) (pg2_sub hu (pv2 1) (pe2_tup (pa2_cons (pe2_ix hu (pv2 3) pe2_int (fun _ _=>rfl)) (pa2_cons (pe2_ix hu (pv2 3) pe2_int (fun _ _=>rfl)) pa2_nil))))))))))
 (pss2_one (ps2_ret (pe2_fz (pv2 1))))))
theorem sc_law_joined:FnScope ["_law_label","_law_one","_law_other","_law_old","_law_side"] ["_law_label","_law_one","_law_other"] (defScope (top 35)):=scm
theorem fn_law_joined {f:Addr} {fd:FuncData} (F:Fun K "_law_joined" "_law_joined" (top 35) f fd) (no_list:mg "list" = none):FnOk P w K mg base CX0 1 f fd ["_law_label","_law_one","_law_other"] (spOf K sp_law_joined) :=
 fo2 F sc_law_joined OK_law_joined fun _ _ _ _ _ _ hr=>have nd:=sc_law_joined.nd; have hu:=hr.units; (pss2_cons (pst (i:=3) nd rfl (pe2_ix hu (pv2 0) (pv2 1) (fun _ _=>rfl)))
 (pss2_one (ps2_if (pt2_cmp (op2_ne hu) (pv2 3) (pe2_ix hu (pv2 0) (pv2 2) (fun _ _=>rfl)) (nomark _)) (pss2_one (ps2_for PassesOwn.never rfl (pi2_seq (pe2_callTy (call2_listD rfl) rfl no_list bt_list (pa2_cons (pv2 0) pa2_nil))) (pgn (i:=4) nd rfl) (pss2_one (ps2_if (pt2_cmp (op2_eq hu) (pe2_ix hu (pv2 0) (pv2 4) (fun _ _=>rfl)) (pv2 3) (nomark _)) (pss2_one (ps2_asg (pe2_ix hu (pv2 0) (pv2 2) (fun _ _=>rfl)) (pg2_sub hu (pv2 0) (pv2 4)))) pss2_nil)))) pss2_nil)))
theorem sc_law_hanging:FnScope ["_law_drawing","_law_label","_law_k","_law_string","_law_name"] ["_law_drawing"] (defScope (top 38)):=scm
theorem fn_law_hanging {f:Addr} {fd:FuncData} (F:Fun K "_law_hanging" "_law_hanging" (top 38) f fd) (no_len:mg "len" = none) (no_range:mg "range" = none) {f_law_strings:Addr} {d_law_strings:FuncData} (ok_law_strings:FnOk P w K mg base CX0 1 f_law_strings d_law_strings ["_law_drawing"] (spOf K sp_law_strings)) (mg_law_strings:mg "_law_strings" = some (.ref f_law_strings)) (kp_law_strings:PySem.W.keepIn K (.ref f_law_strings)=true) (bi_law_strings:Binds K d_law_strings ["_law_drawing"] []) {f_law_names:Addr} {d_law_names:FuncData} (ok_law_names:FnOk P w K mg base CX0 1 f_law_names d_law_names ["_law_drawing"] (spOf K sp_law_names)) (mg_law_names:mg "_law_names" = some (.ref f_law_names)) (kp_law_names:PySem.W.keepIn K (.ref f_law_names)=true) (bi_law_names:Binds K d_law_names ["_law_drawing"] []) {f_law_joined:Addr} {d_law_joined:FuncData} (ok_law_joined:FnOk P w K mg base CX0 1 f_law_joined d_law_joined ["_law_label","_law_one","_law_other"] (spOf K sp_law_joined)) (mg_law_joined:mg "_law_joined" = some (.ref f_law_joined)) (kp_law_joined:PySem.W.keepIn K (.ref f_law_joined)=true) (bi_law_joined:Binds K d_law_joined ["_law_label","_law_one","_law_other"] []):FnOk P w K mg base CX0 2 f fd ["_law_drawing"] (spOf K sp_law_hanging) :=
 fo2 F sc_law_hanging OK_law_hanging fun _ _ _ _ _ _ hr=>have nd:=sc_law_hanging.nd; have hu:=hr.units; (pss2_cons (pst (i:=1) nd rfl pe2_dic)
 (pss2_cons (ps2_for PassesOwn.never rfl (pi2_range1 rfl no_range (pe2_callB call2_len rfl no_len bt_len (pa2_cons (pv2 0) pa2_nil))) (pgn (i:=2) nd rfl) (pss2_one (ps2_asg (pv2 2) (pg2_sub hu (pv2 1) (pv2 2)))))
 (pss2_cons (pst (i:=3) nd rfl (pe2_callS ok_law_strings (hr.mono (by decide)) rfl mg_law_strings kp_law_strings bi_law_strings (pa2_cons (pv2 0) pa2_nil)))
 (pss2_cons (ps2_for PassesOwn.never rfl (pi2_seq (pe2_callS ok_law_names (hr.mono (by decide)) rfl mg_law_names kp_law_names bi_law_names (pa2_cons (pv2 0) pa2_nil))) (pgn (i:=4) nd rfl) (pss2_one (ps2_expr (pe2_callS ok_law_joined (hr.mono (by decide)) rfl mg_law_joined kp_law_joined bi_law_joined (pa2_cons (pv2 1) (pa2_cons (pe2_ix hu (pv2 3) (pe2_tup (pa2_cons (pv2 4) (pa2_cons pe2_int pa2_nil))) (fun _ _=>rfl)) (pa2_cons (pe2_ix hu (pv2 3) (pe2_tup (pa2_cons (pv2 4) (pa2_cons pe2_int pa2_nil))) (fun _ _=>rfl)) pa2_nil)))))))
 (pss2_one (ps2_ret (pe2_fz (pv2 1))))))))
theorem sc_law_near:FnScope ["_law_drawing","_law_label","_law_told","_law_over","_law_under","_law_string","_law_hanging_here","_law_left"] ["_law_drawing","_law_label","_law_told"] (defScope (top 40)):=scm
theorem fn_law_near {f:Addr} {fd:FuncData} (F:Fun K "_law_near" "_law_near" (top 40) f fd) (no_int:mg "int" = none) {f_law_strings:Addr} {d_law_strings:FuncData} (ok_law_strings:FnOk P w K mg base CX0 1 f_law_strings d_law_strings ["_law_drawing"] (spOf K sp_law_strings)) (mg_law_strings:mg "_law_strings" = some (.ref f_law_strings)) (kp_law_strings:PySem.W.keepIn K (.ref f_law_strings)=true) (bi_law_strings:Binds K d_law_strings ["_law_drawing"] []) {f_law_hanging:Addr} {d_law_hanging:FuncData} (ok_law_hanging:FnOk P w K mg base CX0 2 f_law_hanging d_law_hanging ["_law_drawing"] (spOf K sp_law_hanging)) (mg_law_hanging:mg "_law_hanging" = some (.ref f_law_hanging)) (kp_law_hanging:PySem.W.keepIn K (.ref f_law_hanging)=true) (bi_law_hanging:Binds K d_law_hanging ["_law_drawing"] []):FnOk P w K mg base CX0 3 f fd ["_law_drawing","_law_label","_law_told"] (spOf K sp_law_near) :=
 fo2 F sc_law_near OK_law_near fun _ _ _ _ _ _ hr=>have nd:=sc_law_near.nd; have hu:=hr.units; (pss2_cons (pst (i:=3) nd rfl (pe2_ix hu (pv2 2) pe2_int (fun _ _=>rfl)))
 (pss2_cons (pst (i:=4) nd rfl (pe2_ix hu (pv2 2) pe2_int (fun _ _=>rfl)))
 (pss2_cons (pst (i:=5) nd rfl (pe2_callS ok_law_strings (hr.mono (by decide)) rfl mg_law_strings kp_law_strings bi_law_strings (pa2_cons (pv2 0) pa2_nil)))
 (pss2_cons (pst (i:=6) nd rfl (pe2_callS ok_law_hanging (hr.mono (by decide)) rfl mg_law_hanging kp_law_hanging bi_law_hanging (pa2_cons (pv2 0) pa2_nil)))
 (pss2_cons (ps2_if (pt2_cmp (op2_ne hu) (pe2_ix hu (pv2 6) (pe2_ix hu (pv2 5) (pv2 3) (fun _ _=>rfl)) (fun _ _=>rfl)) (pe2_ix hu (pv2 6) (pe2_ix hu (pv2 5) (pv2 4) (fun _ _=>rfl)) (fun _ _=>rfl)) (nomark _)) (pss2_one (ps2_ret (pe2_fz pe2_bl))) pss2_nil)
 (pss2_cons (pst (i:=7) nd rfl (pe2_or (pe2_and (pe2_cmp (op2_eq hu) (pe2_ix hu (pv2 2) pe2_int (fun _ _=>rfl)) pe2_int (nomark _)) (pe2_one (pe2_cmp (op2_eq hu) (pe2_ix hu (pv2 2) pe2_int (fun _ _=>rfl)) pe2_int (nomark _)))) (pe2_one (pe2_and (pe2_cmp (op2_eq hu) (pe2_ix hu (pv2 2) pe2_int (fun _ _=>rfl)) (pe2_un un2_neg pe2_int) (nomark _)) (pe2_one (pe2_cmp (op2_eq hu) (pe2_ix hu (pv2 2) pe2_int (fun _ _=>rfl)) pe2_int (nomark _)))))))
 (pss2_one (ps2_ret (pe2_fz (pe2_cmp (op2_eq hu) (pe2_ix hu (pv2 1) (pe2_op op2_add (pv2 3) (pe2_tup (pa2_cons (pe2_callTy call2_int rfl no_int bt_int (pa2_cons (pe2_not (pv2 7)) pa2_nil)) pa2_nil))) (fun _ _=>rfl)) (pe2_ix hu (pv2 1) (pe2_op op2_add (pv2 4) (pe2_tup (pa2_cons (pe2_callTy call2_int rfl no_int bt_int (pa2_cons (pe2_cmp (op2_eq hu) (pe2_ix hu (pv2 2) pe2_int (fun _ _=>rfl)) (pe2_un un2_neg pe2_int) (nomark _)) pa2_nil)) pa2_nil))) (fun _ _=>rfl)) (nomark _)))))))))))
theorem sc_law_corners:FnScope ["_law_drawing","_law_ahead","_law_row","_law_k","_law_found","_law_name","_law_way","_law_hand","_law_over","_law_under"] ["_law_drawing"] (defScope (top 36)):=scm
theorem fn_law_corners {f:Addr} {fd:FuncData} (F:Fun K "_law_corners" "_law_corners" (top 36) f fd) (no_len:mg "len" = none) (no_range:mg "range" = none):FnOk P w K mg base CX0 1 f fd ["_law_drawing"] (spOf K sp_law_corners) :=
 fo2 F sc_law_corners OK_law_corners fun _ _ _ _ _ _ hr=>have nd:=sc_law_corners.nd; have hu:=hr.units; (pss2_cons (pst (i:=1) nd rfl pe2_dic)
 (pss2_cons (ps2_for PassesOwn.never rfl (pi2_seq (pv2 0)) (pgn (i:=2) nd rfl) (pss2_one (ps2_for PassesOwn.never rfl (pi2_range1 rfl no_range (pe2_callB call2_len rfl no_len bt_len (pa2_cons (pv2 2) pa2_nil))) (pgn (i:=3) nd rfl) (pss2_one (ps2_asg (pe2_tup (pa2_cons (pe2_ix hu (pe2_ix hu (pv2 2) (pe2_op op2_sub (pv2 3) pe2_int) (fun _ _=>rfl)) pe2_int (fun _ _=>rfl)) (pa2_cons (pe2_ix hu (pe2_ix hu (pv2 2) (pe2_op op2_sub (pv2 3) pe2_int) (fun _ _=>rfl)) pe2_int (fun _ _=>rfl)) pa2_nil))) (pg2_sub hu (pv2 1) (pe2_tup (pa2_cons (pe2_ix hu (pe2_ix hu (pv2 2) (pv2 3) (fun _ _=>rfl)) pe2_int (fun _ _=>rfl)) (pa2_cons (pe2_ix hu (pe2_ix hu (pv2 2) (pv2 3) (fun _ _=>rfl)) pe2_int (fun _ _=>rfl)) pa2_nil)))))))))
 (pss2_cons (pst (i:=4) nd rfl (pe2_lst pa2_nil))
 (pss2_cons (ps2_for PassesOwn.never rfl (pi2_seq (pv2 0)) (pgn (i:=2) nd rfl) (pss2_one (ps2_for PassesOwn.never rfl (pi2_seq (pv2 2)) (pg2_tup rfl (pgs2_cons (pgn (i:=5) nd rfl) (pgs2_cons (pgn (i:=6) nd rfl) (pgs2_cons (pgn (i:=7) nd rfl) pgs2_nil))) (glen_name (glen_name (glen_name glen_nil)))) (pss2_one (ps2_if (pt2_cmp (op2_eq hu) (pv2 6) pe2_int (nomark _)) (pss2_cons (pst (i:=8) nd rfl (pe2_ix hu (pv2 1) (pe2_tup (pa2_cons (pv2 5) (pa2_cons pe2_int pa2_nil))) (fun _ _=>rfl)))
 (pss2_cons (pst (i:=9) nd rfl (pe2_ix hu (pv2 1) (pe2_tup (pa2_cons (pv2 5) (pa2_cons pe2_int pa2_nil))) (fun _ _=>rfl)))
 (pss2_one (ps2_if (pt2_cmp (op2_eq hu) (pv2 7) pe2_int (nomark _)) (pss2_cons (ps2_expr (pe2_bm PySem.F.plainAttrs_list PySem.F.slot_list_append PySem.F.type_list_append ty2_list mt2_append (pv2 4) (pa2_cons (pe2_tup (pa2_cons (pe2_op op2_add (pv2 8) (pe2_tup (pa2_cons pe2_int pa2_nil))) (pa2_cons (pe2_op op2_add (pv2 9) (pe2_tup (pa2_cons pe2_int pa2_nil))) pa2_nil))) pa2_nil)))
 (pss2_cons (ps2_expr (pe2_bm PySem.F.plainAttrs_list PySem.F.slot_list_append PySem.F.type_list_append ty2_list mt2_append (pv2 4) (pa2_cons (pe2_tup (pa2_cons (pe2_op op2_add (pv2 9) (pe2_tup (pa2_cons pe2_int pa2_nil))) (pa2_cons (pe2_tup (pa2_cons (pv2 5) (pa2_cons pe2_int (pa2_cons pe2_int pa2_nil)))) pa2_nil))) pa2_nil)))
 (pss2_cons (ps2_expr (pe2_bm PySem.F.plainAttrs_list PySem.F.slot_list_append PySem.F.type_list_append ty2_list mt2_append (pv2 4) (pa2_cons (pe2_tup (pa2_cons (pe2_tup (pa2_cons (pv2 5) (pa2_cons pe2_int (pa2_cons pe2_int pa2_nil)))) (pa2_cons (pe2_tup (pa2_cons (pv2 5) (pa2_cons pe2_int (pa2_cons pe2_int pa2_nil)))) pa2_nil))) pa2_nil)))
 (pss2_one (ps2_expr (pe2_bm PySem.F.plainAttrs_list PySem.F.slot_list_append PySem.F.type_list_append ty2_list mt2_append (pv2 4) (pa2_cons (pe2_tup (pa2_cons (pe2_tup (pa2_cons (pv2 5) (pa2_cons pe2_int (pa2_cons pe2_int pa2_nil)))) (pa2_cons (pe2_op op2_add (pv2 8) (pe2_tup (pa2_cons pe2_int pa2_nil))) pa2_nil))) pa2_nil))))))) (pss2_cons (ps2_expr (pe2_bm PySem.F.plainAttrs_list PySem.F.slot_list_append PySem.F.type_list_append ty2_list mt2_append (pv2 4) (pa2_cons (pe2_tup (pa2_cons (pe2_op op2_add (pv2 9) (pe2_tup (pa2_cons pe2_int pa2_nil))) (pa2_cons (pe2_op op2_add (pv2 8) (pe2_tup (pa2_cons pe2_int pa2_nil))) pa2_nil))) pa2_nil)))
 (pss2_cons (ps2_expr (pe2_bm PySem.F.plainAttrs_list PySem.F.slot_list_append PySem.F.type_list_append ty2_list mt2_append (pv2 4) (pa2_cons (pe2_tup (pa2_cons (pe2_op op2_add (pv2 8) (pe2_tup (pa2_cons pe2_int pa2_nil))) (pa2_cons (pe2_tup (pa2_cons (pv2 5) (pa2_cons pe2_int (pa2_cons pe2_int pa2_nil)))) pa2_nil))) pa2_nil)))
 (pss2_cons (ps2_expr (pe2_bm PySem.F.plainAttrs_list PySem.F.slot_list_append PySem.F.type_list_append ty2_list mt2_append (pv2 4) (pa2_cons (pe2_tup (pa2_cons (pe2_tup (pa2_cons (pv2 5) (pa2_cons pe2_int (pa2_cons pe2_int pa2_nil)))) (pa2_cons (pe2_tup (pa2_cons (pv2 5) (pa2_cons pe2_int (pa2_cons pe2_int pa2_nil)))) pa2_nil))) pa2_nil)))
 (pss2_one (ps2_expr (pe2_bm PySem.F.plainAttrs_list PySem.F.slot_list_append PySem.F.type_list_append ty2_list mt2_append (pv2 4) (pa2_cons (pe2_tup (pa2_cons (pe2_tup (pa2_cons (pv2 5) (pa2_cons pe2_int (pa2_cons pe2_int pa2_nil)))) (pa2_cons (pe2_op op2_add (pv2 9) (pe2_tup (pa2_cons pe2_int pa2_nil))) pa2_nil))) pa2_nil))))))))))) pss2_nil)))))
 (pss2_one (ps2_ret (pe2_fz (pv2 4))))))))
theorem sc_law_regions:FnScope ["_law_drawing","_law_label","_law_spot","_law_one","_law_other"] ["_law_drawing"] (defScope (top 37)):=scm
theorem fn_law_regions {f:Addr} {fd:FuncData} (F:Fun K "_law_regions" "_law_regions" (top 37) f fd) (no_len:mg "len" = none) {f_law_spots:Addr} {d_law_spots:FuncData} (ok_law_spots:FnOk P w K mg base CX0 1 f_law_spots d_law_spots ["_law_drawing"] (spOf K sp_law_spots)) (mg_law_spots:mg "_law_spots" = some (.ref f_law_spots)) (kp_law_spots:PySem.W.keepIn K (.ref f_law_spots)=true) (bi_law_spots:Binds K d_law_spots ["_law_drawing"] []) {f_law_corners:Addr} {d_law_corners:FuncData} (ok_law_corners:FnOk P w K mg base CX0 1 f_law_corners d_law_corners ["_law_drawing"] (spOf K sp_law_corners)) (mg_law_corners:mg "_law_corners" = some (.ref f_law_corners)) (kp_law_corners:PySem.W.keepIn K (.ref f_law_corners)=true) (bi_law_corners:Binds K d_law_corners ["_law_drawing"] []) {f_law_joined:Addr} {d_law_joined:FuncData} (ok_law_joined:FnOk P w K mg base CX0 1 f_law_joined d_law_joined ["_law_label","_law_one","_law_other"] (spOf K sp_law_joined)) (mg_law_joined:mg "_law_joined" = some (.ref f_law_joined)) (kp_law_joined:PySem.W.keepIn K (.ref f_law_joined)=true) (bi_law_joined:Binds K d_law_joined ["_law_label","_law_one","_law_other"] []):FnOk P w K mg base CX0 2 f fd ["_law_drawing"] (spOf K sp_law_regions) :=
 fo2 F sc_law_regions OK_law_regions fun _ _ _ _ _ _ hr=>have nd:=sc_law_regions.nd; have hu:=hr.units; (pss2_cons (pst (i:=1) nd rfl pe2_dic)
 (pss2_cons (ps2_for PassesOwn.never rfl (pi2_seq (pe2_callS ok_law_spots (hr.mono (by decide)) rfl mg_law_spots kp_law_spots bi_law_spots (pa2_cons (pv2 0) pa2_nil))) (pgn (i:=2) nd rfl) (pss2_cons (ps2_asg (pe2_callB call2_lenT rfl no_len bt_len (pa2_cons (pv2 1) pa2_nil)) (pg2_sub hu (pv2 1) (pe2_op op2_add (pv2 2) (pe2_tup (pa2_cons pe2_int pa2_nil)))))
 (pss2_one (ps2_asg (pe2_callB call2_lenT rfl no_len bt_len (pa2_cons (pv2 1) pa2_nil)) (pg2_sub hu (pv2 1) (pe2_op op2_add (pv2 2) (pe2_tup (pa2_cons pe2_int pa2_nil))))))))
 (pss2_cons (ps2_for PassesOwn.never rfl (pi2_seq (pe2_callS ok_law_corners (hr.mono (by decide)) rfl mg_law_corners kp_law_corners bi_law_corners (pa2_cons (pv2 0) pa2_nil))) (pg2_tup rfl (pgs2_cons (pgn (i:=3) nd rfl) (pgs2_cons (pgn (i:=4) nd rfl) pgs2_nil)) (glen_name (glen_name glen_nil))) (pss2_one (ps2_expr (pe2_callS ok_law_joined (hr.mono (by decide)) rfl mg_law_joined kp_law_joined bi_law_joined (pa2_cons (pv2 1) (pa2_cons (pv2 3) (pa2_cons (pv2 4) pa2_nil)))))))
 (pss2_one (ps2_ret (pe2_fz (pv2 1)))))))
theorem sc_near:FnScope ["drawing","over","under","turned","hand","over_string","under_string"] ["drawing","over","under","turned","hand"] (defScope (top 24)):=scm
theorem fn_near {f:Addr} {fd:FuncData} (F:Fun K "near" "near" (top 24) f fd) {f_string_of:Addr} {d_string_of:FuncData} (ok_string_of:FnOk P w K mg base CX0 2 f_string_of d_string_of ["drawing","spot"] (spOf K sp_string_of)) (mg_string_of:mg "string_of" = some (.ref f_string_of)) (kp_string_of:PySem.W.keepIn K (.ref f_string_of)=true) (bi_string_of:Binds K d_string_of ["drawing","spot"] []) {f_together:Addr} {d_together:FuncData} (ok_together:FnOk P w K mg base CX0 1 f_together d_together ["groups","one","other"] (spOf K sp_together)) (mg_together:mg "together" = some (.ref f_together)) (kp_together:PySem.W.keepIn K (.ref f_together)=true) (bi_together:Binds K d_together ["groups","one","other"] []) {f_pieces:Addr} {d_pieces:FuncData} (ok_pieces:FnOk P w K mg base CX0 3 f_pieces d_pieces ["drawing"] (spOf K sp_pieces)) (mg_pieces:mg "pieces" = some (.ref f_pieces)) (kp_pieces:PySem.W.keepIn K (.ref f_pieces)=true) (bi_pieces:Binds K d_pieces ["drawing"] []) {f_under_side:Addr} {d_under_side:FuncData} (ok_under_side:FnOk P w K mg base CX0 2 f_under_side d_under_side ["spot","hand"] (spOf K sp_under_side)) (mg_under_side:mg "under_side" = some (.ref f_under_side)) (kp_under_side:PySem.W.keepIn K (.ref f_under_side)=true) (bi_under_side:Binds K d_under_side ["spot","hand"] []) {f_over_side:Addr} {d_over_side:FuncData} (ok_over_side:FnOk P w K mg base CX0 2 f_over_side d_over_side ["spot","turned","hand"] (spOf K sp_over_side)) (mg_over_side:mg "over_side" = some (.ref f_over_side)) (kp_over_side:PySem.W.keepIn K (.ref f_over_side)=true) (bi_over_side:Binds K d_over_side ["spot","turned","hand"] []) {f_regions:Addr} {d_regions:FuncData} (ok_regions:FnOk P w K mg base CX0 4 f_regions d_regions ["drawing"] (spOf K sp_regions)) (mg_regions:mg "regions" = some (.ref f_regions)) (kp_regions:PySem.W.keepIn K (.ref f_regions)=true) (bi_regions:Binds K d_regions ["drawing"] []):FnOk P w K mg base CX0 5 f fd ["drawing","over","under","turned","hand"] (spOf K sp_near) :=
 fo2 F sc_near OK_near fun _ _ _ _ _ _ hr=>have nd:=sc_near.nd; (pss2_cons (pst (i:=5) nd rfl (pe2_callS ok_string_of (hr.mono (by decide)) rfl mg_string_of kp_string_of bi_string_of (pa2_cons (pv2 0) (pa2_cons (pv2 1) pa2_nil))))
 (pss2_cons (pst (i:=6) nd rfl (pe2_callS ok_string_of (hr.mono (by decide)) rfl mg_string_of kp_string_of bi_string_of (pa2_cons (pv2 0) (pa2_cons (pv2 2) pa2_nil))))
 (pss2_cons (ps2_if (pt2_not (pt2_truth (pe2_callS ok_together (hr.mono (by decide)) rfl mg_together kp_together bi_together (pa2_cons (pe2_callS ok_pieces (hr.mono (by decide)) rfl mg_pieces kp_pieces bi_pieces (pa2_cons (pv2 0) pa2_nil)) (pa2_cons (pv2 5) (pa2_cons (pv2 6) pa2_nil)))))) (pss2_one (ps2_ret (pe2_fz pe2_bl))) pss2_nil)
 (pss2_one (ps2_ret (pe2_fz (pe2_callS ok_together (hr.mono (by decide)) rfl mg_together kp_together bi_together (pa2_cons (pe2_callS ok_regions (hr.mono (by decide)) rfl mg_regions kp_regions bi_regions (pa2_cons (pv2 0) pa2_nil)) (pa2_cons (pe2_callS ok_over_side (hr.mono (by decide)) rfl mg_over_side kp_over_side bi_over_side (pa2_cons (pv2 1) (pa2_cons (pv2 3) (pa2_cons (pv2 4) pa2_nil)))) (pa2_cons (pe2_callS ok_under_side (hr.mono (by decide)) rfl mg_under_side kp_under_side bi_under_side (pa2_cons (pv2 2) (pa2_cons (pv2 4) pa2_nil))) pa2_nil))))))))))
theorem sc_law:FnScope ["_law_script","_law_drawing","_law_k","_law_spots_here","_law_over","_law_under","_law_bits","_law_told","_law_handed","_law_odd","_law_name","_law_none","_law_due","_law_turn","_law_found"] ["_law_script"] (defScope (top 42)):=scm
theorem fn_law {f:Addr} {fd:FuncData} (F:Fun K "law" "law" (top 42) f fd) (no_bool:mg "bool" = none) (no_isinstance:mg "isinstance" = none) (no_len:mg "len" = none) (no_list:mg "list" = none) (no_range:mg "range" = none) {f_law_cell_at:Addr} {d_law_cell_at:FuncData} (ok_law_cell_at:FnOk P w K mg base CX0 1 f_law_cell_at d_law_cell_at ["_law_script","_law_k"] (spOf K sp_law_cell_at)) (mg_law_cell_at:mg "_law_cell_at" = some (.ref f_law_cell_at)) (kp_law_cell_at:PySem.W.keepIn K (.ref f_law_cell_at)=true) (bi_law_cell_at:Binds K d_law_cell_at ["_law_script","_law_k"] []) {f_law_crossed:Addr} {d_law_crossed:FuncData} (ok_law_crossed:FnOk P w K mg base CX0 2 f_law_crossed d_law_crossed ["_law_drawing","_law_cell"] (spOf K sp_law_crossed)) (mg_law_crossed:mg "_law_crossed" = some (.ref f_law_crossed)) (kp_law_crossed:PySem.W.keepIn K (.ref f_law_crossed)=true) (bi_law_crossed:Binds K d_law_crossed ["_law_drawing","_law_cell"] []) {f_law_spots:Addr} {d_law_spots:FuncData} (ok_law_spots:FnOk P w K mg base CX0 1 f_law_spots d_law_spots ["_law_drawing"] (spOf K sp_law_spots)) (mg_law_spots:mg "_law_spots" = some (.ref f_law_spots)) (kp_law_spots:PySem.W.keepIn K (.ref f_law_spots)=true) (bi_law_spots:Binds K d_law_spots ["_law_drawing"] []) {f_law_free:Addr} {d_law_free:FuncData} (ok_law_free:FnOk P w K mg base CX0 1 f_law_free d_law_free ["_law_names_here","_law_number"] (spOf K sp_law_free)) (mg_law_free:mg "_law_free" = some (.ref f_law_free)) (kp_law_free:PySem.W.keepIn K (.ref f_law_free)=true) (bi_law_free:Binds K d_law_free ["_law_names_here","_law_number"] []) {f_law_names:Addr} {d_law_names:FuncData} (ok_law_names:FnOk P w K mg base CX0 1 f_law_names d_law_names ["_law_drawing"] (spOf K sp_law_names)) (mg_law_names:mg "_law_names" = some (.ref f_law_names)) (kp_law_names:PySem.W.keepIn K (.ref f_law_names)=true) (bi_law_names:Binds K d_law_names ["_law_drawing"] []) {f_law_refused:Addr} {d_law_refused:FuncData} (ok_law_refused:FnOk P w K mg base CX0 6 f_law_refused d_law_refused ["_law_drawing","_law_told"] (spOf K sp_law_refused)) (mg_law_refused:mg "_law_refused" = some (.ref f_law_refused)) (kp_law_refused:PySem.W.keepIn K (.ref f_law_refused)=true) (bi_law_refused:Binds K d_law_refused ["_law_drawing","_law_told"] []) {f_law_near:Addr} {d_law_near:FuncData} (ok_law_near:FnOk P w K mg base CX0 3 f_law_near d_law_near ["_law_drawing","_law_label","_law_told"] (spOf K sp_law_near)) (mg_law_near:mg "_law_near" = some (.ref f_law_near)) (kp_law_near:PySem.W.keepIn K (.ref f_law_near)=true) (bi_law_near:Binds K d_law_near ["_law_drawing","_law_label","_law_told"] []) {f_law_regions:Addr} {d_law_regions:FuncData} (ok_law_regions:FnOk P w K mg base CX0 2 f_law_regions d_law_regions ["_law_drawing"] (spOf K sp_law_regions)) (mg_law_regions:mg "_law_regions" = some (.ref f_law_regions)) (kp_law_regions:PySem.W.keepIn K (.ref f_law_regions)=true) (bi_law_regions:Binds K d_law_regions ["_law_drawing"] []) {f_near:Addr} {d_near:FuncData} (ok_near:FnOk P w K mg base CX0 5 f_near d_near ["drawing","over","under","turned","hand"] (spOf K sp_near)) (mg_near:mg "near" = some (.ref f_near)) (kp_near:PySem.W.keepIn K (.ref f_near)=true) (bi_near:Binds K d_near ["drawing","over","under","turned","hand"] []):FnOk P w K mg base CX0 7 f fd ["_law_script"] (spOf K K2.spLaw) :=
 fo2 F sc_law OK_law fun _ _ _ _ _ _ hr=>have nd:=sc_law.nd; have hu:=hr.units; (pss2_cons (ps2_fzv (ps2_setC ["_law_k"] (sc:=defScope (top 42)) (XN:=["_law_script","_law_drawing","_law_k","_law_spots_here","_law_over","_law_under","_law_bits","_law_told","_law_handed","_law_odd","_law_name","_law_none","_law_due","_law_turn","_law_found"]) (i:=1) nd rfl rfl (pi2_range1 rfl no_range (pe2_op op2_add pe2_int (pe2_op op2_mod (pe2_callS ok_law_cell_at (hr.mono (by decide)) rfl mg_law_cell_at kp_law_cell_at bi_law_cell_at (pa2_cons (pv2 0) (pa2_cons pe2_int pa2_nil))) pe2_int))) (fun _ _ _ _=>(pgn (i:=0) (show (["_law_k"]:List Str).Nodup by decide +kernel) rfl)) (fun _ _ _ _=>.none) (fun _ _ _ _=>(pe2_lst pa2_nil))))
 (pss2_cons (ps2_for PassesOwn.never rfl (pi2_range1 rfl no_range (pe2_op op2_mod (pe2_callS ok_law_cell_at (hr.mono (by decide)) rfl mg_law_cell_at kp_law_cell_at bi_law_cell_at (pa2_cons (pv2 0) (pa2_cons pe2_int pa2_nil))) pe2_int)) (pgn (i:=2) nd rfl) (pss2_one (pst (i:=1) nd rfl (pe2_fz (pe2_callS ok_law_crossed (hr.mono (by decide)) rfl mg_law_crossed kp_law_crossed bi_law_crossed (pa2_cons (pv2 1) (pa2_cons (pe2_callS ok_law_cell_at (hr.mono (by decide)) rfl mg_law_cell_at kp_law_cell_at bi_law_cell_at (pa2_cons (pv2 0) (pa2_cons (pe2_op op2_add pe2_int (pv2 2)) pa2_nil))) pa2_nil)))))))
 (pss2_cons (pst (i:=3) nd rfl (pe2_callS ok_law_spots (hr.mono (by decide)) rfl mg_law_spots kp_law_spots bi_law_spots (pa2_cons (pv2 1) pa2_nil)))
 (pss2_cons (pst (i:=4) nd rfl (pe2_ix hu (pv2 3) (pe2_op op2_mod (pe2_callS ok_law_cell_at (hr.mono (by decide)) rfl mg_law_cell_at kp_law_cell_at bi_law_cell_at (pa2_cons (pv2 0) (pa2_cons pe2_int pa2_nil))) (pe2_callB call2_len rfl no_len bt_len (pa2_cons (pv2 3) pa2_nil))) (fun _ _=>rfl)))
 (pss2_cons (pst (i:=5) nd rfl (pe2_ix hu (pv2 3) (pe2_op op2_mod (pe2_callS ok_law_cell_at (hr.mono (by decide)) rfl mg_law_cell_at kp_law_cell_at bi_law_cell_at (pa2_cons (pv2 0) (pa2_cons pe2_int pa2_nil))) (pe2_callB call2_len rfl no_len bt_len (pa2_cons (pv2 3) pa2_nil))) (fun _ _=>rfl)))
 (pss2_cons (pst (i:=6) nd rfl (pe2_callS ok_law_cell_at (hr.mono (by decide)) rfl mg_law_cell_at kp_law_cell_at bi_law_cell_at (pa2_cons (pv2 0) (pa2_cons pe2_int pa2_nil))))
 (pss2_cons (pst (i:=7) nd rfl (pe2_tup (pa2_cons pe2_str (pa2_cons pe2_int (pa2_cons pe2_int (pa2_cons (pv2 4) (pa2_cons (pv2 5) (pa2_cons (pe2_op op2_mod (pv2 6) pe2_int) (pa2_cons (pe2_op op2_sub pe2_int (pe2_op op2_mul pe2_int (pe2_op op2_mod (pe2_op op2_fdiv (pv2 6) pe2_int) pe2_int))) pa2_nil)))))))))
 (pss2_cons (ps2_fzv (ps2_setC ["_law_row"] (sc:=defScope (top 42)) (XN:=["_law_script","_law_drawing","_law_k","_law_spots_here","_law_over","_law_under","_law_bits","_law_told","_law_handed","_law_odd","_law_name","_law_none","_law_due","_law_turn","_law_found"]) (i:=8) nd rfl rfl (pi2_seq (pv2 1)) (fun _ _ _ _=>(pgn (i:=0) (show (["_law_row"]:List Str).Nodup by decide +kernel) rfl)) (fun _ _ _ _=>.none) (fun _ _ _ _=>(pe2_callTy call2_list rfl no_list bt_list (pa2_cons (pv2 0) pa2_nil)))))
 (pss2_cons (pst (i:=9) nd rfl (pe2_op op2_mod (pe2_callS ok_law_cell_at (hr.mono (by decide)) rfl mg_law_cell_at kp_law_cell_at bi_law_cell_at (pa2_cons (pv2 0) (pa2_cons pe2_int pa2_nil))) pe2_int))
 (pss2_cons (ps2_if (pt2_cmp op2_gt (pv2 9) pe2_int (nomark _)) (pss2_cons (pst (i:=10) nd rfl (pe2_callS ok_law_free (hr.mono (by decide)) rfl mg_law_free kp_law_free bi_law_free (pa2_cons (pe2_callS ok_law_names (hr.mono (by decide)) rfl mg_law_names kp_law_names bi_law_names (pa2_cons (pv2 1) pa2_nil)) (pa2_cons (pe2_op op2_fdiv (pe2_callS ok_law_cell_at (hr.mono (by decide)) rfl mg_law_cell_at kp_law_cell_at bi_law_cell_at (pa2_cons (pv2 0) (pa2_cons pe2_int pa2_nil))) pe2_int) pa2_nil))))
 (pss2_cons (pst (i:=11) nd rfl (pe2_tup (pa2_cons (pv2 10) (pa2_cons (pe2_op op2_mod (pe2_op op2_fdiv (pe2_callS ok_law_cell_at (hr.mono (by decide)) rfl mg_law_cell_at kp_law_cell_at bi_law_cell_at (pa2_cons (pv2 0) (pa2_cons pe2_int pa2_nil))) pe2_int) pe2_int) pa2_nil))))
 (pss2_cons (ps2_if (pt2_cmp (op2_eq hu) (pe2_op op2_mod (pe2_op op2_fdiv (pe2_callS ok_law_cell_at (hr.mono (by decide)) rfl mg_law_cell_at kp_law_cell_at bi_law_cell_at (pa2_cons (pv2 0) (pa2_cons pe2_int pa2_nil))) pe2_int) pe2_int) pe2_int (nomark _)) (pss2_one (pst (i:=11) nd rfl (pe2_tup (pa2_cons (pe2_callB call2_len rfl no_len bt_len (pa2_cons (pv2 1) pa2_nil)) (pa2_cons pe2_int pa2_nil))))) pss2_nil)
 (pss2_cons (ps2_if (pt2_cmp (op2_eq hu) (pv2 9) pe2_int (nomark _)) (pss2_one (pst (i:=7) nd rfl (pe2_tup (pa2_cons pe2_str (pa2_cons pe2_int (pa2_cons pe2_int (pa2_cons (pv2 11) (pa2_cons (pv2 5) (pa2_cons (pe2_ix hu (pv2 7) pe2_int (fun _ _=>rfl)) (pa2_cons (pe2_ix hu (pv2 7) pe2_int (fun _ _=>rfl)) pa2_nil)))))))))) (pss2_one (pst (i:=7) nd rfl (pe2_tup (pa2_cons pe2_str (pa2_cons pe2_int (pa2_cons pe2_int (pa2_cons (pv2 4) (pa2_cons (pv2 11) (pa2_cons (pe2_ix hu (pv2 7) pe2_int (fun _ _=>rfl)) (pa2_cons (pe2_ix hu (pv2 7) pe2_int (fun _ _=>rfl)) pa2_nil)))))))))))
 (pss2_one (ps2_ret (pe2_fz (pe2_and (pe2_callS ok_law_refused (hr.mono (by decide)) rfl mg_law_refused kp_law_refused bi_law_refused (pa2_cons (pv2 8) (pa2_cons (pv2 7) pa2_nil))) (pe2_one (pe2_cmp (op2_eq hu) (pv2 8) (pv2 1) (nomark _))))))))))) pss2_nil)
 (pss2_cons (pst (i:=12) nd rfl (pe2_callS ok_law_near (hr.mono (by decide)) rfl mg_law_near kp_law_near bi_law_near (pa2_cons (pv2 1) (pa2_cons (pe2_callS ok_law_regions (hr.mono (by decide)) rfl mg_law_regions kp_law_regions bi_law_regions (pa2_cons (pv2 1) pa2_nil)) (pa2_cons (pv2 7) pa2_nil)))))
 (pss2_cons (ps2_for PassesOwn.never rfl (pi2_range1 rfl no_range pe2_int) (pgn (i:=13) nd rfl) (pss2_cons (pst (i:=14) nd rfl (pe2_callS ok_near (hr.mono (by decide)) rfl mg_near kp_near bi_near (pa2_cons (pv2 8) (pa2_cons (pv2 4) (pa2_cons (pv2 5) (pa2_cons (pe2_ix hu (pv2 7) pe2_int (fun _ _=>rfl)) (pa2_cons (pe2_ix hu (pv2 7) pe2_int (fun _ _=>rfl)) pa2_nil)))))))
 (pss2_one (ps2_if (PW2.pt (pw2_or (pt2_not (pt2_truth (pe2_isi "bool" (by decide) rfl no_isinstance rfl no_bool bt_bool (pv2 14)))) (pw2_or1 (pt2_cmp (op2_ne hu) (pv2 14) (pv2 12) (nomark _))))) (pss2_one (ps2_ret (pe2_fz pe2_bl))) pss2_nil))))
 (pss2_one (ps2_ret (pe2_fz (pe2_cmp (op2_eq hu) (pv2 8) (pv2 1) (nomark _)))))))))))))))))
end
theorem all_mk {l:PySem.W.OpenLaw} {w:World} {K:PySem.W.Frag} {h:Heap} {mg:Str->Option Value} {fa:Addr} (X:K.In h) (G:h.Ns mainGlobals mg) (hfa:mg "law" = some (.ref fa))
  {f0:Addr} {od0 an0:Option Addr} {sl0:Array (Option Value)} {oc0 kV0 dc0 pm0 cd0 ct0:Value} (a0:PySem.W.nsIn K mainGlobals "_law_cell_at" = some (some (.ref f0))) (l0:K.lookup f0=some ⟨oc0,od0,.func (PySem.W.fnOf "_law_cell_at" "_law_cell_at" (defArgs (top 28)) (defBody (top 28)) (defScope (top 28)) .none kV0 dc0 pm0 an0 cd0 ct0),sl0⟩) (c0:PySem.W.codeIn K cd0 "_law_cell_at" = true) (k0:PySem.W.keepIn K (.ref f0)=true)
  {f1:Addr} {od1 an1:Option Addr} {sl1:Array (Option Value)} {oc1 kV1 dc1 pm1 cd1 ct1:Value} (a1:PySem.W.nsIn K mainGlobals "_law_free" = some (some (.ref f1))) (l1:K.lookup f1=some ⟨oc1,od1,.func (PySem.W.fnOf "_law_free" "_law_free" (defArgs (top 32)) (defBody (top 32)) (defScope (top 32)) .none kV1 dc1 pm1 an1 cd1 ct1),sl1⟩) (c1:PySem.W.codeIn K cd1 "_law_free" = true) (k1:PySem.W.keepIn K (.ref f1)=true)
  {f2:Addr} {od2 an2:Option Addr} {sl2:Array (Option Value)} {oc2 kV2 dc2 pm2 cd2 ct2:Value} (a2:PySem.W.nsIn K mainGlobals "_law_names" = some (some (.ref f2))) (l2:K.lookup f2=some ⟨oc2,od2,.func (PySem.W.fnOf "_law_names" "_law_names" (defArgs (top 31)) (defBody (top 31)) (defScope (top 31)) .none kV2 dc2 pm2 an2 cd2 ct2),sl2⟩) (c2:PySem.W.codeIn K cd2 "_law_names" = true) (k2:PySem.W.keepIn K (.ref f2)=true)
  {f3:Addr} {od3 an3:Option Addr} {sl3:Array (Option Value)} {oc3 kV3 dc3 pm3 cd3 ct3:Value} (a3:PySem.W.nsIn K mainGlobals "_law_mixed" = some (some (.ref f3))) (l3:K.lookup f3=some ⟨oc3,od3,.func (PySem.W.fnOf "_law_mixed" "_law_mixed" (defArgs (top 30)) (defBody (top 30)) (defScope (top 30)) .none kV3 dc3 pm3 an3 cd3 ct3),sl3⟩) (c3:PySem.W.codeIn K cd3 "_law_mixed" = true) (k3:PySem.W.keepIn K (.ref f3)=true)
  {f4:Addr} {od4 an4:Option Addr} {sl4:Array (Option Value)} {oc4 kV4 dc4 pm4 cd4 ct4:Value} (a4:PySem.W.nsIn K mainGlobals "_law_crossed" = some (some (.ref f4))) (l4:K.lookup f4=some ⟨oc4,od4,.func (PySem.W.fnOf "_law_crossed" "_law_crossed" (defArgs (top 33)) (defBody (top 33)) (defScope (top 33)) .none kV4 dc4 pm4 an4 cd4 ct4),sl4⟩) (c4:PySem.W.codeIn K cd4 "_law_crossed" = true) (k4:PySem.W.keepIn K (.ref f4)=true)
  {f5:Addr} {od5 an5:Option Addr} {sl5:Array (Option Value)} {oc5 kV5 dc5 pm5 cd5 ct5:Value} (a5:PySem.W.nsIn K mainGlobals "_law_spots" = some (some (.ref f5))) (l5:K.lookup f5=some ⟨oc5,od5,.func (PySem.W.fnOf "_law_spots" "_law_spots" (defArgs (top 34)) (defBody (top 34)) (defScope (top 34)) .none kV5 dc5 pm5 an5 cd5 ct5),sl5⟩) (c5:PySem.W.codeIn K cd5 "_law_spots" = true) (k5:PySem.W.keepIn K (.ref f5)=true)
  {f6:Addr} {od6 an6:Option Addr} {sl6:Array (Option Value)} {oc6 kV6 dc6 pm6 cd6 ct6:Value} (a6:PySem.W.nsIn K mainGlobals "spots_on" = some (some (.ref f6))) (l6:K.lookup f6=some ⟨oc6,od6,.func (PySem.W.fnOf "spots_on" "spots_on" (defArgs (top 8)) (defBody (top 8)) (defScope (top 8)) .none kV6 dc6 pm6 an6 cd6 ct6),sl6⟩) (c6:PySem.W.codeIn K cd6 "spots_on" = true) (k6:PySem.W.keepIn K (.ref f6)=true)
  {f7:Addr} {od7 an7:Option Addr} {sl7:Array (Option Value)} {oc7 kV7 dc7 pm7 cd7 ct7:Value} (a7:PySem.W.nsIn K mainGlobals "string_of" = some (some (.ref f7))) (l7:K.lookup f7=some ⟨oc7,od7,.func (PySem.W.fnOf "string_of" "string_of" (defArgs (top 11)) (defBody (top 11)) (defScope (top 11)) .none kV7 dc7 pm7 an7 cd7 ct7),sl7⟩) (c7:PySem.W.codeIn K cd7 "string_of" = true) (k7:PySem.W.keepIn K (.ref f7)=true)
  {f8:Addr} {od8 an8:Option Addr} {sl8:Array (Option Value)} {oc8 kV8 dc8 pm8 cd8 ct8:Value} (a8:PySem.W.nsIn K mainGlobals "together" = some (some (.ref f8))) (l8:K.lookup f8=some ⟨oc8,od8,.func (PySem.W.fnOf "together" "together" (defArgs (top 14)) (defBody (top 14)) (defScope (top 14)) .none kV8 dc8 pm8 an8 cd8 ct8),sl8⟩) (c8:PySem.W.codeIn K cd8 "together" = true) (k8:PySem.W.keepIn K (.ref f8)=true)
  {f9:Addr} {od9 an9:Option Addr} {sl9:Array (Option Value)} {oc9 kV9 dc9 pm9 cd9 ct9:Value} (a9:PySem.W.nsIn K mainGlobals "passings_of" = some (some (.ref f9))) (l9:K.lookup f9=some ⟨oc9,od9,.func (PySem.W.fnOf "passings_of" "passings_of" (defArgs (top 5)) (defBody (top 5)) (defScope (top 5)) .none kV9 dc9 pm9 an9 cd9 ct9),sl9⟩) (c9:PySem.W.codeIn K cd9 "passings_of" = true) (k9:PySem.W.keepIn K (.ref f9)=true)
  {f10:Addr} {od10 an10:Option Addr} {sl10:Array (Option Value)} {oc10 kV10 dc10 pm10 cd10 ct10:Value} (a10:PySem.W.nsIn K mainGlobals "names_of" = some (some (.ref f10))) (l10:K.lookup f10=some ⟨oc10,od10,.func (PySem.W.fnOf "names_of" "names_of" (defArgs (top 6)) (defBody (top 6)) (defScope (top 6)) .none kV10 dc10 pm10 an10 cd10 ct10),sl10⟩) (c10:PySem.W.codeIn K cd10 "names_of" = true) (k10:PySem.W.keepIn K (.ref f10)=true)
  {f11:Addr} {od11 an11:Option Addr} {sl11:Array (Option Value)} {oc11 kV11 dc11 pm11 cd11 ct11:Value} (a11:PySem.W.nsIn K mainGlobals "string_of" = some (some (.ref f11))) (l11:K.lookup f11=some ⟨oc11,od11,.func (PySem.W.fnOf "string_of" "string_of" (defArgs (top 11)) (defBody (top 11)) (defScope (top 11)) .none kV11 dc11 pm11 an11 cd11 ct11),sl11⟩) (c11:PySem.W.codeIn K cd11 "string_of" = true) (k11:PySem.W.keepIn K (.ref f11)=true)
  {f12:Addr} {od12 an12:Option Addr} {sl12:Array (Option Value)} {oc12 kV12 dc12 pm12 cd12 ct12:Value} (a12:PySem.W.nsIn K mainGlobals "grouped" = some (some (.ref f12))) (l12:K.lookup f12=some ⟨oc12,od12,.func (PySem.W.fnOf "grouped" "grouped" (defArgs (top 13)) (defBody (top 13)) (defScope (top 13)) .none kV12 dc12 pm12 an12 cd12 ct12),sl12⟩) (c12:PySem.W.codeIn K cd12 "grouped" = true) (k12:PySem.W.keepIn K (.ref f12)=true)
  {f13:Addr} {od13 an13:Option Addr} {sl13:Array (Option Value)} {oc13 kV13 dc13 pm13 cd13 ct13:Value} (a13:PySem.W.nsIn K mainGlobals "pieces" = some (some (.ref f13))) (l13:K.lookup f13=some ⟨oc13,od13,.func (PySem.W.fnOf "pieces" "pieces" (defArgs (top 23)) (defBody (top 23)) (defScope (top 23)) .none kV13 dc13 pm13 an13 cd13 ct13),sl13⟩) (c13:PySem.W.codeIn K cd13 "pieces" = true) (k13:PySem.W.keepIn K (.ref f13)=true)
  {f14:Addr} {od14 an14:Option Addr} {sl14:Array (Option Value)} {oc14 kV14 dc14 pm14 cd14 ct14:Value} (a14:PySem.W.nsIn K mainGlobals "left_of" = some (some (.ref f14))) (l14:K.lookup f14=some ⟨oc14,od14,.func (PySem.W.fnOf "left_of" "left_of" (defArgs (top 16)) (defBody (top 16)) (defScope (top 16)) .none kV14 dc14 pm14 an14 cd14 ct14),sl14⟩) (c14:PySem.W.codeIn K cd14 "left_of" = true) (k14:PySem.W.keepIn K (.ref f14)=true)
  {f15:Addr} {od15 an15:Option Addr} {sl15:Array (Option Value)} {oc15 kV15 dc15 pm15 cd15 ct15:Value} (a15:PySem.W.nsIn K mainGlobals "right_of" = some (some (.ref f15))) (l15:K.lookup f15=some ⟨oc15,od15,.func (PySem.W.fnOf "right_of" "right_of" (defArgs (top 17)) (defBody (top 17)) (defScope (top 17)) .none kV15 dc15 pm15 an15 cd15 ct15),sl15⟩) (c15:PySem.W.codeIn K cd15 "right_of" = true) (k15:PySem.W.keepIn K (.ref f15)=true)
  {f16:Addr} {od16 an16:Option Addr} {sl16:Array (Option Value)} {oc16 kV16 dc16 pm16 cd16 ct16:Value} (a16:PySem.W.nsIn K mainGlobals "under_side" = some (some (.ref f16))) (l16:K.lookup f16=some ⟨oc16,od16,.func (PySem.W.fnOf "under_side" "under_side" (defArgs (top 26)) (defBody (top 26)) (defScope (top 26)) .none kV16 dc16 pm16 an16 cd16 ct16),sl16⟩) (c16:PySem.W.codeIn K cd16 "under_side" = true) (k16:PySem.W.keepIn K (.ref f16)=true)
  {f17:Addr} {od17 an17:Option Addr} {sl17:Array (Option Value)} {oc17 kV17 dc17 pm17 cd17 ct17:Value} (a17:PySem.W.nsIn K mainGlobals "over_side" = some (some (.ref f17))) (l17:K.lookup f17=some ⟨oc17,od17,.func (PySem.W.fnOf "over_side" "over_side" (defArgs (top 25)) (defBody (top 25)) (defScope (top 25)) .none kV17 dc17 pm17 an17 cd17 ct17),sl17⟩) (c17:PySem.W.codeIn K cd17 "over_side" = true) (k17:PySem.W.keepIn K (.ref f17)=true)
  {f18:Addr} {od18 an18:Option Addr} {sl18:Array (Option Value)} {oc18 kV18 dc18 pm18 cd18 ct18:Value} (a18:PySem.W.nsIn K mainGlobals "next_of" = some (some (.ref f18))) (l18:K.lookup f18=some ⟨oc18,od18,.func (PySem.W.fnOf "next_of" "next_of" (defArgs (top 10)) (defBody (top 10)) (defScope (top 10)) .none kV18 dc18 pm18 an18 cd18 ct18),sl18⟩) (c18:PySem.W.codeIn K cd18 "next_of" = true) (k18:PySem.W.keepIn K (.ref f18)=true)
  {f19:Addr} {od19 an19:Option Addr} {sl19:Array (Option Value)} {oc19 kV19 dc19 pm19 cd19 ct19:Value} (a19:PySem.W.nsIn K mainGlobals "coming_of" = some (some (.ref f19))) (l19:K.lookup f19=some ⟨oc19,od19,.func (PySem.W.fnOf "coming_of" "coming_of" (defArgs (top 19)) (defBody (top 19)) (defScope (top 19)) .none kV19 dc19 pm19 an19 cd19 ct19),sl19⟩) (c19:PySem.W.codeIn K cd19 "coming_of" = true) (k19:PySem.W.keepIn K (.ref f19)=true)
  {f20:Addr} {od20 an20:Option Addr} {sl20:Array (Option Value)} {oc20 kV20 dc20 pm20 cd20 ct20:Value} (a20:PySem.W.nsIn K mainGlobals "hand_of" = some (some (.ref f20))) (l20:K.lookup f20=some ⟨oc20,od20,.func (PySem.W.fnOf "hand_of" "hand_of" (defArgs (top 7)) (defBody (top 7)) (defScope (top 7)) .none kV20 dc20 pm20 an20 cd20 ct20),sl20⟩) (c20:PySem.W.codeIn K cd20 "hand_of" = true) (k20:PySem.W.keepIn K (.ref f20)=true)
  {f21:Addr} {od21 an21:Option Addr} {sl21:Array (Option Value)} {oc21 kV21 dc21 pm21 cd21 ct21:Value} (a21:PySem.W.nsIn K mainGlobals "corners_at" = some (some (.ref f21))) (l21:K.lookup f21=some ⟨oc21,od21,.func (PySem.W.fnOf "corners_at" "corners_at" (defArgs (top 20)) (defBody (top 20)) (defScope (top 20)) .none kV21 dc21 pm21 an21 cd21 ct21),sl21⟩) (c21:PySem.W.codeIn K cd21 "corners_at" = true) (k21:PySem.W.keepIn K (.ref f21)=true)
  {f22:Addr} {od22 an22:Option Addr} {sl22:Array (Option Value)} {oc22 kV22 dc22 pm22 cd22 ct22:Value} (a22:PySem.W.nsIn K mainGlobals "corners_of" = some (some (.ref f22))) (l22:K.lookup f22=some ⟨oc22,od22,.func (PySem.W.fnOf "corners_of" "corners_of" (defArgs (top 21)) (defBody (top 21)) (defScope (top 21)) .none kV22 dc22 pm22 an22 cd22 ct22),sl22⟩) (c22:PySem.W.codeIn K cd22 "corners_of" = true) (k22:PySem.W.keepIn K (.ref f22)=true)
  {f23:Addr} {od23 an23:Option Addr} {sl23:Array (Option Value)} {oc23 kV23 dc23 pm23 cd23 ct23:Value} (a23:PySem.W.nsIn K mainGlobals "spots_of" = some (some (.ref f23))) (l23:K.lookup f23=some ⟨oc23,od23,.func (PySem.W.fnOf "spots_of" "spots_of" (defArgs (top 9)) (defBody (top 9)) (defScope (top 9)) .none kV23 dc23 pm23 an23 cd23 ct23),sl23⟩) (c23:PySem.W.codeIn K cd23 "spots_of" = true) (k23:PySem.W.keepIn K (.ref f23)=true)
  {f24:Addr} {od24 an24:Option Addr} {sl24:Array (Option Value)} {oc24 kV24 dc24 pm24 cd24 ct24:Value} (a24:PySem.W.nsIn K mainGlobals "sides_of" = some (some (.ref f24))) (l24:K.lookup f24=some ⟨oc24,od24,.func (PySem.W.fnOf "sides_of" "sides_of" (defArgs (top 18)) (defBody (top 18)) (defScope (top 18)) .none kV24 dc24 pm24 an24 cd24 ct24),sl24⟩) (c24:PySem.W.codeIn K cd24 "sides_of" = true) (k24:PySem.W.keepIn K (.ref f24)=true)
  {f25:Addr} {od25 an25:Option Addr} {sl25:Array (Option Value)} {oc25 kV25 dc25 pm25 cd25 ct25:Value} (a25:PySem.W.nsIn K mainGlobals "regions" = some (some (.ref f25))) (l25:K.lookup f25=some ⟨oc25,od25,.func (PySem.W.fnOf "regions" "regions" (defArgs (top 22)) (defBody (top 22)) (defScope (top 22)) .none kV25 dc25 pm25 an25 cd25 ct25),sl25⟩) (c25:PySem.W.codeIn K cd25 "regions" = true) (k25:PySem.W.keepIn K (.ref f25)=true)
  {f26:Addr} {od26 an26:Option Addr} {sl26:Array (Option Value)} {oc26 kV26 dc26 pm26 cd26 ct26:Value} (a26:PySem.W.nsIn K mainGlobals "near" = some (some (.ref f26))) (l26:K.lookup f26=some ⟨oc26,od26,.func (PySem.W.fnOf "near" "near" (defArgs (top 24)) (defBody (top 24)) (defScope (top 24)) .none kV26 dc26 pm26 an26 cd26 ct26),sl26⟩) (c26:PySem.W.codeIn K cd26 "near" = true) (k26:PySem.W.keepIn K (.ref f26)=true)
  {f27:Addr} {od27 an27:Option Addr} {sl27:Array (Option Value)} {oc27 kV27 dc27 pm27 cd27 ct27:Value} (a27:PySem.W.nsIn K mainGlobals "_law_refused" = some (some (.ref f27))) (l27:K.lookup f27=some ⟨oc27,od27,.func (PySem.W.fnOf "_law_refused" "_law_refused" (defArgs (top 41)) (defBody (top 41)) (defScope (top 41)) .none kV27 dc27 pm27 an27 cd27 ct27),sl27⟩) (c27:PySem.W.codeIn K cd27 "_law_refused" = true) (k27:PySem.W.keepIn K (.ref f27)=true)
  {f28:Addr} {od28 an28:Option Addr} {sl28:Array (Option Value)} {oc28 kV28 dc28 pm28 cd28 ct28:Value} (a28:PySem.W.nsIn K mainGlobals "_law_strings" = some (some (.ref f28))) (l28:K.lookup f28=some ⟨oc28,od28,.func (PySem.W.fnOf "_law_strings" "_law_strings" (defArgs (top 39)) (defBody (top 39)) (defScope (top 39)) .none kV28 dc28 pm28 an28 cd28 ct28),sl28⟩) (c28:PySem.W.codeIn K cd28 "_law_strings" = true) (k28:PySem.W.keepIn K (.ref f28)=true)
  {f29:Addr} {od29 an29:Option Addr} {sl29:Array (Option Value)} {oc29 kV29 dc29 pm29 cd29 ct29:Value} (a29:PySem.W.nsIn K mainGlobals "_law_joined" = some (some (.ref f29))) (l29:K.lookup f29=some ⟨oc29,od29,.func (PySem.W.fnOf "_law_joined" "_law_joined" (defArgs (top 35)) (defBody (top 35)) (defScope (top 35)) .none kV29 dc29 pm29 an29 cd29 ct29),sl29⟩) (c29:PySem.W.codeIn K cd29 "_law_joined" = true) (k29:PySem.W.keepIn K (.ref f29)=true)
  {f30:Addr} {od30 an30:Option Addr} {sl30:Array (Option Value)} {oc30 kV30 dc30 pm30 cd30 ct30:Value} (a30:PySem.W.nsIn K mainGlobals "_law_hanging" = some (some (.ref f30))) (l30:K.lookup f30=some ⟨oc30,od30,.func (PySem.W.fnOf "_law_hanging" "_law_hanging" (defArgs (top 38)) (defBody (top 38)) (defScope (top 38)) .none kV30 dc30 pm30 an30 cd30 ct30),sl30⟩) (c30:PySem.W.codeIn K cd30 "_law_hanging" = true) (k30:PySem.W.keepIn K (.ref f30)=true)
  {f31:Addr} {od31 an31:Option Addr} {sl31:Array (Option Value)} {oc31 kV31 dc31 pm31 cd31 ct31:Value} (a31:PySem.W.nsIn K mainGlobals "_law_near" = some (some (.ref f31))) (l31:K.lookup f31=some ⟨oc31,od31,.func (PySem.W.fnOf "_law_near" "_law_near" (defArgs (top 40)) (defBody (top 40)) (defScope (top 40)) .none kV31 dc31 pm31 an31 cd31 ct31),sl31⟩) (c31:PySem.W.codeIn K cd31 "_law_near" = true) (k31:PySem.W.keepIn K (.ref f31)=true)
  {f32:Addr} {od32 an32:Option Addr} {sl32:Array (Option Value)} {oc32 kV32 dc32 pm32 cd32 ct32:Value} (a32:PySem.W.nsIn K mainGlobals "_law_corners" = some (some (.ref f32))) (l32:K.lookup f32=some ⟨oc32,od32,.func (PySem.W.fnOf "_law_corners" "_law_corners" (defArgs (top 36)) (defBody (top 36)) (defScope (top 36)) .none kV32 dc32 pm32 an32 cd32 ct32),sl32⟩) (c32:PySem.W.codeIn K cd32 "_law_corners" = true) (k32:PySem.W.keepIn K (.ref f32)=true)
  {f33:Addr} {od33 an33:Option Addr} {sl33:Array (Option Value)} {oc33 kV33 dc33 pm33 cd33 ct33:Value} (a33:PySem.W.nsIn K mainGlobals "_law_regions" = some (some (.ref f33))) (l33:K.lookup f33=some ⟨oc33,od33,.func (PySem.W.fnOf "_law_regions" "_law_regions" (defArgs (top 37)) (defBody (top 37)) (defScope (top 37)) .none kV33 dc33 pm33 an33 cd33 ct33),sl33⟩) (c33:PySem.W.codeIn K cd33 "_law_regions" = true) (k33:PySem.W.keepIn K (.ref f33)=true)
  {f34:Addr} {od34 an34:Option Addr} {sl34:Array (Option Value)} {oc34 kV34 dc34 pm34 cd34 ct34:Value} (a34:PySem.W.nsIn K mainGlobals "near" = some (some (.ref f34))) (l34:K.lookup f34=some ⟨oc34,od34,.func (PySem.W.fnOf "near" "near" (defArgs (top 24)) (defBody (top 24)) (defScope (top 24)) .none kV34 dc34 pm34 an34 cd34 ct34),sl34⟩) (c34:PySem.W.codeIn K cd34 "near" = true) (k34:PySem.W.keepIn K (.ref f34)=true)
  {f35:Addr} {od35 an35:Option Addr} {sl35:Array (Option Value)} {oc35 kV35 dc35 pm35 cd35 ct35:Value} (a35:PySem.W.nsIn K mainGlobals "law" = some (some (.ref f35))) (l35:K.lookup f35=some ⟨oc35,od35,.func (PySem.W.fnOf "law" "law" (defArgs (top 42)) (defBody (top 42)) (defScope (top 42)) .none kV35 dc35 pm35 an35 cd35 ct35),sl35⟩) (c35:PySem.W.codeIn K cd35 "law" = true) (k35:PySem.W.keepIn K (.ref f35)=true)
  (z_len:PySem.W.nsIn K mainGlobals "len" = some none) (z_list:PySem.W.nsIn K mainGlobals "list" = some none) (z_range:PySem.W.nsIn K mainGlobals "range" = some none) (z_enumerate:PySem.W.nsIn K mainGlobals "enumerate" = some none) (z_any:PySem.W.nsIn K mainGlobals "any" = some none) (z_sorted:PySem.W.nsIn K mainGlobals "sorted" = some none) (z_min:PySem.W.nsIn K mainGlobals "min" = some none) (z_zip:PySem.W.nsIn K mainGlobals "zip" = some none) (z_ValueError:PySem.W.nsIn K mainGlobals "ValueError" = some none) (z_isinstance:PySem.W.nsIn K mainGlobals "isinstance" = some none) (z_int:PySem.W.nsIn K mainGlobals "int" = some none) (z_bool:PySem.W.nsIn K mainGlobals "bool" = some none) {C_NoSpot:Addr} (ns_NoSpot:PySem.W.nsIn K mainGlobals "NoSpot" = some (some (.ref C_NoSpot))) (ex_NoSpot:PySem.W.excIn K C_NoSpot [.type "ValueError",.type "Exception",.type "BaseException",.type "object"] "ValueError.__new__" = true) (x0_NoSpot:PySem.W.findIn K (.ref C_NoSpot) "__getattribute__" = some (some (.builtin "BaseException.__getattribute__"))) (x1_NoSpot:PySem.W.findIn K (.ref C_NoSpot) "__getattr__" = some none) (x2_NoSpot:PySem.W.findIn K (.ref C_NoSpot) "__class__" = some (some (.builtin "object.__class__"))) (x3_NoSpot:PySem.W.specialIn K (.builtin "object.__class__") "__get__" = some (some (.builtin "getset_descriptor.__get__"))) (x4_NoSpot:PySem.W.takesIn K (.builtin "object.__class__")=some true) (x5_NoSpot:PySem.W.mroIn K C_NoSpot (.type "object")=some true) (x6_NoSpot:PySem.W.mroIn K C_NoSpot (.type "BaseException")=some true) (x7_NoSpot:(PySem.W.clsIn K C_NoSpot).isSome=true) {C_KnotError:Addr} (ns_KnotError:PySem.W.nsIn K mainGlobals "KnotError" = some (some (.ref C_KnotError))) (ex_KnotError:PySem.W.excIn K C_KnotError [.type "ValueError",.type "Exception",.type "BaseException",.type "object"] "ValueError.__new__" = true) (x0_KnotError:PySem.W.findIn K (.ref C_KnotError) "__getattribute__" = some (some (.builtin "BaseException.__getattribute__"))) (x1_KnotError:PySem.W.findIn K (.ref C_KnotError) "__getattr__" = some none) (x2_KnotError:PySem.W.findIn K (.ref C_KnotError) "__class__" = some (some (.builtin "object.__class__"))) (x3_KnotError:PySem.W.specialIn K (.builtin "object.__class__") "__get__" = some (some (.builtin "getset_descriptor.__get__"))) (x4_KnotError:PySem.W.takesIn K (.builtin "object.__class__")=some true) (x5_KnotError:PySem.W.mroIn K C_KnotError (.type "object")=some true) (x6_KnotError:PySem.W.mroIn K C_KnotError (.type "BaseException")=some true) (x7_KnotError:(PySem.W.clsIn K C_KnotError).isSome=true) (kn_NoSpot:PySem.W.kitOne K (.type "NoneType") (.ref C_NoSpot)=some false) (ki_NoSpot_NoSpot:PySem.W.kitOne K (.ref C_NoSpot) (.ref C_NoSpot)=some true) (kv_NoSpot:PySem.W.kitOne K (.ref C_NoSpot) (.type "ValueError")=some true) {oc_NoSpot_KnotError:Value} {od_NoSpot_KnotError:Option Addr} {cd_NoSpot_KnotError:ClassData} {sl_NoSpot_KnotError:Array (Option Value)} (lk_NoSpot_KnotError:K.lookup C_NoSpot=some ⟨oc_NoSpot_KnotError,od_NoSpot_KnotError,.cls cd_NoSpot_KnotError,sl_NoSpot_KnotError⟩) (mr_NoSpot_KnotError:cd_NoSpot_KnotError.mro.contains (.ref C_KnotError)=true) :
  ∃ fd:FuncData,(∀ (s:Shared) (v:Value),BindsTo s fd ⟨[v],[]⟩ [("_law_script",v)])/\∀ base:Heap,K.In base->base.Ns mainGlobals mg->FnOk l.prog w K mg base CX0 7 fa fd ["_law_script"] (spOf K K2.spLaw):=by
 have e:=hfa.symm.trans (PySem.W.mg_of X G a35)
 cases e
 have F0:=fun_mk (st:=top 28) l0 c0 k0
 have b0:=F0.binds (ps:=["_law_script","_law_k"]) fun _ _ _ _ _ _ us hl=>by obtain ⟨_,_,rfl⟩:=len2 hl; rfl
 have F1:=fun_mk (st:=top 32) l1 c1 k1
 have b1:=F1.binds (ps:=["_law_names_here","_law_number"]) fun _ _ _ _ _ _ us hl=>by obtain ⟨_,_,rfl⟩:=len2 hl; rfl
 have F2:=fun_mk (st:=top 31) l2 c2 k2
 have b2:=F2.binds (ps:=["_law_drawing"]) fun _ _ _ _ _ _ us hl=>by obtain ⟨_,rfl⟩:=len1 hl; rfl
 have F3:=fun_mk (st:=top 30) l3 c3 k3
 have b3:=F3.binds (ps:=["_law_cell"]) fun _ _ _ _ _ _ us hl=>by obtain ⟨_,rfl⟩:=len1 hl; rfl
 have F4:=fun_mk (st:=top 33) l4 c4 k4
 have b4:=F4.binds (ps:=["_law_drawing","_law_cell"]) fun _ _ _ _ _ _ us hl=>by obtain ⟨_,_,rfl⟩:=len2 hl; rfl
 have F5:=fun_mk (st:=top 34) l5 c5 k5
 have b5:=F5.binds (ps:=["_law_drawing"]) fun _ _ _ _ _ _ us hl=>by obtain ⟨_,rfl⟩:=len1 hl; rfl
 have F6:=fun_mk (st:=top 8) l6 c6 k6
 have b6:=F6.binds (ps:=["row","string"]) fun _ _ _ _ _ _ us hl=>by obtain ⟨_,_,rfl⟩:=len2 hl; rfl
 have F7:=fun_mk (st:=top 11) l7 c7 k7
 have b7:=F7.binds (ps:=["drawing","spot"]) fun _ _ _ _ _ _ us hl=>by obtain ⟨_,_,rfl⟩:=len2 hl; rfl
 have F8:=fun_mk (st:=top 14) l8 c8 k8
 have b8:=F8.binds (ps:=["groups","one","other"]) fun _ _ _ _ _ _ us hl=>by obtain ⟨_,_,_,rfl⟩:=len3 hl; rfl
 have F9:=fun_mk (st:=top 5) l9 c9 k9
 have b9:=F9.binds (ps:=["rows"]) fun _ _ _ _ _ _ us hl=>by obtain ⟨_,rfl⟩:=len1 hl; rfl
 have F10:=fun_mk (st:=top 6) l10 c10 k10
 have b10:=F10.binds (ps:=["drawing"]) fun _ _ _ _ _ _ us hl=>by obtain ⟨_,rfl⟩:=len1 hl; rfl
 have F11:=fun_mk (st:=top 11) l11 c11 k11
 have b11:=F11.binds (ps:=["drawing","spot"]) fun _ _ _ _ _ _ us hl=>by obtain ⟨_,_,rfl⟩:=len2 hl; rfl
 have F12:=fun_mk (st:=top 13) l12 c12 k12
 have b12:=F12.binds (ps:=["members","pairs"]) fun _ _ _ _ _ _ us hl=>by obtain ⟨_,_,rfl⟩:=len2 hl; rfl
 have F13:=fun_mk (st:=top 23) l13 c13 k13
 have b13:=F13.binds (ps:=["drawing"]) fun _ _ _ _ _ _ us hl=>by obtain ⟨_,rfl⟩:=len1 hl; rfl
 have F14:=fun_mk (st:=top 16) l14 c14 k14
 have b14:=F14.binds (ps:=["spot"]) fun _ _ _ _ _ _ us hl=>by obtain ⟨_,rfl⟩:=len1 hl; rfl
 have F15:=fun_mk (st:=top 17) l15 c15 k15
 have b15:=F15.binds (ps:=["spot"]) fun _ _ _ _ _ _ us hl=>by obtain ⟨_,rfl⟩:=len1 hl; rfl
 have F16:=fun_mk (st:=top 26) l16 c16 k16
 have b16:=F16.binds (ps:=["spot","hand"]) fun _ _ _ _ _ _ us hl=>by obtain ⟨_,_,rfl⟩:=len2 hl; rfl
 have F17:=fun_mk (st:=top 25) l17 c17 k17
 have b17:=F17.binds (ps:=["spot","turned","hand"]) fun _ _ _ _ _ _ us hl=>by obtain ⟨_,_,_,rfl⟩:=len3 hl; rfl
 have F18:=fun_mk (st:=top 10) l18 c18 k18
 have b18:=F18.binds (ps:=["drawing"]) fun _ _ _ _ _ _ us hl=>by obtain ⟨_,rfl⟩:=len1 hl; rfl
 have F19:=fun_mk (st:=top 19) l19 c19 k19
 have b19:=F19.binds (ps:=["drawing"]) fun _ _ _ _ _ _ us hl=>by obtain ⟨_,rfl⟩:=len1 hl; rfl
 have F20:=fun_mk (st:=top 7) l20 c20 k20
 have b20:=F20.binds (ps:=["drawing","name"]) fun _ _ _ _ _ _ us hl=>by obtain ⟨_,_,rfl⟩:=len2 hl; rfl
 have F21:=fun_mk (st:=top 20) l21 c21 k21
 have b21:=F21.binds (ps:=["coming","first","second"]) fun _ _ _ _ _ _ us hl=>by obtain ⟨_,_,_,rfl⟩:=len3 hl; rfl
 have F22:=fun_mk (st:=top 21) l22 c22 k22
 have b22:=F22.binds (ps:=["drawing"]) fun _ _ _ _ _ _ us hl=>by obtain ⟨_,rfl⟩:=len1 hl; rfl
 have F23:=fun_mk (st:=top 9) l23 c23 k23
 have b23:=F23.binds (ps:=["drawing"]) fun _ _ _ _ _ _ us hl=>by obtain ⟨_,rfl⟩:=len1 hl; rfl
 have F24:=fun_mk (st:=top 18) l24 c24 k24
 have b24:=F24.binds (ps:=["drawing"]) fun _ _ _ _ _ _ us hl=>by obtain ⟨_,rfl⟩:=len1 hl; rfl
 have F25:=fun_mk (st:=top 22) l25 c25 k25
 have b25:=F25.binds (ps:=["drawing"]) fun _ _ _ _ _ _ us hl=>by obtain ⟨_,rfl⟩:=len1 hl; rfl
 have F26:=fun_mk (st:=top 24) l26 c26 k26
 have b26:=F26.binds (ps:=["drawing","over","under","turned","hand"]) fun _ _ _ _ _ _ us hl=>by obtain ⟨_,_,_,_,_,rfl⟩:=len5 hl; rfl
 have F27:=fun_mk (st:=top 41) l27 c27 k27
 have b27:=F27.binds (ps:=["_law_drawing","_law_told"]) fun _ _ _ _ _ _ us hl=>by obtain ⟨_,_,rfl⟩:=len2 hl; rfl
 have F28:=fun_mk (st:=top 39) l28 c28 k28
 have b28:=F28.binds (ps:=["_law_drawing"]) fun _ _ _ _ _ _ us hl=>by obtain ⟨_,rfl⟩:=len1 hl; rfl
 have F29:=fun_mk (st:=top 35) l29 c29 k29
 have b29:=F29.binds (ps:=["_law_label","_law_one","_law_other"]) fun _ _ _ _ _ _ us hl=>by obtain ⟨_,_,_,rfl⟩:=len3 hl; rfl
 have F30:=fun_mk (st:=top 38) l30 c30 k30
 have b30:=F30.binds (ps:=["_law_drawing"]) fun _ _ _ _ _ _ us hl=>by obtain ⟨_,rfl⟩:=len1 hl; rfl
 have F31:=fun_mk (st:=top 40) l31 c31 k31
 have b31:=F31.binds (ps:=["_law_drawing","_law_label","_law_told"]) fun _ _ _ _ _ _ us hl=>by obtain ⟨_,_,_,rfl⟩:=len3 hl; rfl
 have F32:=fun_mk (st:=top 36) l32 c32 k32
 have b32:=F32.binds (ps:=["_law_drawing"]) fun _ _ _ _ _ _ us hl=>by obtain ⟨_,rfl⟩:=len1 hl; rfl
 have F33:=fun_mk (st:=top 37) l33 c33 k33
 have b33:=F33.binds (ps:=["_law_drawing"]) fun _ _ _ _ _ _ us hl=>by obtain ⟨_,rfl⟩:=len1 hl; rfl
 have F34:=fun_mk (st:=top 24) l34 c34 k34
 have b34:=F34.binds (ps:=["drawing","over","under","turned","hand"]) fun _ _ _ _ _ _ us hl=>by obtain ⟨_,_,_,_,_,rfl⟩:=len5 hl; rfl
 have F35:=fun_mk (st:=top 42) l35 c35 k35
 have no_len:=PySem.W.mg_none_of X G z_len
 have no_list:=PySem.W.mg_none_of X G z_list
 have no_range:=PySem.W.mg_none_of X G z_range
 have no_enumerate:=PySem.W.mg_none_of X G z_enumerate
 have no_any:=PySem.W.mg_none_of X G z_any
 have no_sorted:=PySem.W.mg_none_of X G z_sorted
 have no_min:=PySem.W.mg_none_of X G z_min
 have no_zip:=PySem.W.mg_none_of X G z_zip
 have no_ValueError:=PySem.W.mg_none_of X G z_ValueError
 have no_isinstance:=PySem.W.mg_none_of X G z_isinstance
 have no_int:=PySem.W.mg_none_of X G z_int
 have no_bool:=PySem.W.mg_none_of X G z_bool
 have xi_NoSpot:ExcIs K C_NoSpot:=⟨x0_NoSpot,x1_NoSpot,x2_NoSpot,x3_NoSpot,x4_NoSpot,x5_NoSpot,x6_NoSpot,x7_NoSpot⟩
 have xi_KnotError:ExcIs K C_KnotError:=⟨x0_KnotError,x1_KnotError,x2_KnotError,x3_KnotError,x4_KnotError,x5_KnotError,x6_KnotError,x7_KnotError⟩
 have sb_NoSpot_KnotError:subIn K C_NoSpot (.ref C_KnotError)=true:=by unfold subIn; rw [lk_NoSpot_KnotError]; exact mr_NoSpot_KnotError
 refine ⟨PySem.W.fnOf "law" "law" (defArgs (top 42)) (defBody (top 42)) (defScope (top 42)) .none kV35 dc35 pm35 an35 cd35 ct35,fun s v=>.of_eq rfl,fun base _ _=>?_⟩
 have ok0:=fn_law_cell_at (P:=l.prog) (w:=w) (mg:=mg) (base:=base) F0 no_len
 have ok1:=fn_law_free (P:=l.prog) (w:=w) (mg:=mg) (base:=base) F1
 have ok2:=fn_law_names (P:=l.prog) (w:=w) (mg:=mg) (base:=base) F2
 have ok3:=fn_law_mixed (P:=l.prog) (w:=w) (mg:=mg) (base:=base) F3
 have ok4:=fn_law_crossed (P:=l.prog) (w:=w) (mg:=mg) (base:=base) F4 no_len no_list no_range ok1 (PySem.W.mg_of X G a1) k1 b1 ok2 (PySem.W.mg_of X G a2) k2 b2 ok3 (PySem.W.mg_of X G a3) k3 b3
 have ok5:=fn_law_spots (P:=l.prog) (w:=w) (mg:=mg) (base:=base) F5 no_len no_range
 have ok6:=fn_spots_on (P:=l.prog) (w:=w) (mg:=mg) (base:=base) F6
 have ok7:=fn_string_ofX (P:=l.prog) (w:=w) (mg:=mg) (base:=base) F7 no_enumerate ns_NoSpot (PySem.W.mg_of X G ns_NoSpot) ex_NoSpot xi_NoSpot ok6 (PySem.W.mg_of X G a6) k6 b6
 have ok8:=fn_together (P:=l.prog) (w:=w) (mg:=mg) (base:=base) F8 no_any
 have ok9:=fn_passings_of (P:=l.prog) (w:=w) (mg:=mg) (base:=base) F9
 have ok10:=fn_names_of (P:=l.prog) (w:=w) (mg:=mg) (base:=base) F10 no_sorted ok9 (PySem.W.mg_of X G a9) k9 b9
 have ok11:=fn_string_of (P:=l.prog) (w:=w) (mg:=mg) (base:=base) F11 no_enumerate ok6 (PySem.W.mg_of X G a6) k6 b6
 have ok12:=fn_grouped (P:=l.prog) (w:=w) (mg:=mg) (base:=base) F12 no_min no_sorted
 have ok13:=fn_pieces (P:=l.prog) (w:=w) (mg:=mg) (base:=base) F13 no_len no_list no_range ok10 (PySem.W.mg_of X G a10) k10 b10 ok11 (PySem.W.mg_of X G a11) k11 b11 ok12 (PySem.W.mg_of X G a12) k12 b12
 have ok14:=fn_left_of (P:=l.prog) (w:=w) (mg:=mg) (base:=base) F14
 have ok15:=fn_right_of (P:=l.prog) (w:=w) (mg:=mg) (base:=base) F15
 have ok16:=fn_under_side (P:=l.prog) (w:=w) (mg:=mg) (base:=base) F16 ok14 (PySem.W.mg_of X G a14) k14 b14 ok15 (PySem.W.mg_of X G a15) k15 b15
 have ok17:=fn_over_side (P:=l.prog) (w:=w) (mg:=mg) (base:=base) F17 ok14 (PySem.W.mg_of X G a14) k14 b14 ok15 (PySem.W.mg_of X G a15) k15 b15
 have ok18:=fn_next_of (P:=l.prog) (w:=w) (mg:=mg) (base:=base) F18 no_zip
 have ok19:=fn_coming_of (P:=l.prog) (w:=w) (mg:=mg) (base:=base) F19 ok18 (PySem.W.mg_of X G a18) k18 b18
 have ok20:=fn_hand_of (P:=l.prog) (w:=w) (mg:=mg) (base:=base) F20 ok9 (PySem.W.mg_of X G a9) k9 b9
 have ok21:=fn_corners_at (P:=l.prog) (w:=w) (mg:=mg) (base:=base) F21 ok14 (PySem.W.mg_of X G a14) k14 b14 ok15 (PySem.W.mg_of X G a15) k15 b15
 have ok22:=fn_corners_of (P:=l.prog) (w:=w) (mg:=mg) (base:=base) F22 ok19 (PySem.W.mg_of X G a19) k19 b19 ok10 (PySem.W.mg_of X G a10) k10 b10 ok20 (PySem.W.mg_of X G a20) k20 b20 ok21 (PySem.W.mg_of X G a21) k21 b21
 have ok23:=fn_spots_of (P:=l.prog) (w:=w) (mg:=mg) (base:=base) F23 no_enumerate no_sorted ok6 (PySem.W.mg_of X G a6) k6 b6
 have ok24:=fn_sides_of (P:=l.prog) (w:=w) (mg:=mg) (base:=base) F24 ok23 (PySem.W.mg_of X G a23) k23 b23 ok14 (PySem.W.mg_of X G a14) k14 b14 ok15 (PySem.W.mg_of X G a15) k15 b15
 have ok25:=fn_regions (P:=l.prog) (w:=w) (mg:=mg) (base:=base) F25 ok12 (PySem.W.mg_of X G a12) k12 b12 ok22 (PySem.W.mg_of X G a22) k22 b22 ok24 (PySem.W.mg_of X G a24) k24 b24
 have ok26:=fn_nearX (P:=l.prog) (w:=w) (mg:=mg) (base:=base) F26 ok7 (PySem.W.mg_of X G a7) k7 b7 ok8 (PySem.W.mg_of X G a8) k8 b8 ok13 (PySem.W.mg_of X G a13) k13 b13 ok16 (PySem.W.mg_of X G a16) k16 b16 ok17 (PySem.W.mg_of X G a17) k17 b17 ok25 (PySem.W.mg_of X G a25) k25 b25
 have ok27:=fn_law_refused (P:=l.prog) (w:=w) (mg:=mg) (base:=base) F27 no_ValueError no_isinstance ns_NoSpot (PySem.W.mg_of X G ns_NoSpot) ex_NoSpot xi_NoSpot ns_KnotError (PySem.W.mg_of X G ns_KnotError) ex_KnotError xi_KnotError kn_NoSpot ki_NoSpot_NoSpot sb_NoSpot_KnotError kv_NoSpot ok26 (PySem.W.mg_of X G a26) k26 b26
 have ok28:=fn_law_strings (P:=l.prog) (w:=w) (mg:=mg) (base:=base) F28 no_len no_range
 have ok29:=fn_law_joined (P:=l.prog) (w:=w) (mg:=mg) (base:=base) F29 no_list
 have ok30:=fn_law_hanging (P:=l.prog) (w:=w) (mg:=mg) (base:=base) F30 no_len no_range ok28 (PySem.W.mg_of X G a28) k28 b28 ok2 (PySem.W.mg_of X G a2) k2 b2 ok29 (PySem.W.mg_of X G a29) k29 b29
 have ok31:=fn_law_near (P:=l.prog) (w:=w) (mg:=mg) (base:=base) F31 no_int ok28 (PySem.W.mg_of X G a28) k28 b28 ok30 (PySem.W.mg_of X G a30) k30 b30
 have ok32:=fn_law_corners (P:=l.prog) (w:=w) (mg:=mg) (base:=base) F32 no_len no_range
 have ok33:=fn_law_regions (P:=l.prog) (w:=w) (mg:=mg) (base:=base) F33 no_len ok5 (PySem.W.mg_of X G a5) k5 b5 ok32 (PySem.W.mg_of X G a32) k32 b32 ok29 (PySem.W.mg_of X G a29) k29 b29
 have ok34:=fn_near (P:=l.prog) (w:=w) (mg:=mg) (base:=base) F34 ok11 (PySem.W.mg_of X G a11) k11 b11 ok8 (PySem.W.mg_of X G a8) k8 b8 ok13 (PySem.W.mg_of X G a13) k13 b13 ok16 (PySem.W.mg_of X G a16) k16 b16 ok17 (PySem.W.mg_of X G a17) k17 b17 ok25 (PySem.W.mg_of X G a25) k25 b25
 exact fn_law F35 no_bool no_isinstance no_len no_list no_range ok0 (PySem.W.mg_of X G a0) k0 b0 ok4 (PySem.W.mg_of X G a4) k4 b4 ok5 (PySem.W.mg_of X G a5) k5 b5 ok1 (PySem.W.mg_of X G a1) k1 b1 ok2 (PySem.W.mg_of X G a2) k2 b2 ok27 (PySem.W.mg_of X G a27) k27 b27 ok31 (PySem.W.mg_of X G a31) k31 b31 ok33 (PySem.W.mg_of X G a33) k33 b33 ok34 (PySem.W.mg_of X G a34) k34 b34
end Fin
end Internal
open Internal
open PySem PySem.W PyProof.Rows
set_option maxRecDepth 100000 in
set_option maxHeartbeats 0 in
theorem PySem.Challenge.cw_knotwise_k29_near_lays_holds : PySem.Challenge.rw_knotwise_k29_near_lays.Holds := by
 w_on; o_law; k_head; (case hw=>w_witness2)
 k_fill
 refine K2.law_walk (l:=PySem.Challenge.rw_knotwise_k29_near_lays) (k:=7) (x:="_law_script") rfl rfl ⟨rfl,by decide,by decide⟩ (fun w h Y=>PySem.W.kIn_of Y) ?F
 case F =>
  intro w mg fa h KX G hmg
  refine' Fin.all_mk KX G hmg ?a0 ?l0 ?c0 ?k0 ?a1 ?l1 ?c1 ?k1 ?a2 ?l2 ?c2 ?k2 ?a3 ?l3 ?c3 ?k3 ?a4 ?l4 ?c4 ?k4 ?a5 ?l5 ?c5 ?k5 ?a6 ?l6 ?c6 ?k6 ?a7 ?l7 ?c7 ?k7 ?a8 ?l8 ?c8 ?k8 ?a9 ?l9 ?c9 ?k9 ?a10 ?l10 ?c10 ?k10 ?a11 ?l11 ?c11 ?k11 ?a12 ?l12 ?c12 ?k12 ?a13 ?l13 ?c13 ?k13 ?a14 ?l14 ?c14 ?k14 ?a15 ?l15 ?c15 ?k15 ?a16 ?l16 ?c16 ?k16 ?a17 ?l17 ?c17 ?k17 ?a18 ?l18 ?c18 ?k18 ?a19 ?l19 ?c19 ?k19 ?a20 ?l20 ?c20 ?k20 ?a21 ?l21 ?c21 ?k21 ?a22 ?l22 ?c22 ?k22 ?a23 ?l23 ?c23 ?k23 ?a24 ?l24 ?c24 ?k24 ?a25 ?l25 ?c25 ?k25 ?a26 ?l26 ?c26 ?k26 ?a27 ?l27 ?c27 ?k27 ?a28 ?l28 ?c28 ?k28 ?a29 ?l29 ?c29 ?k29 ?a30 ?l30 ?c30 ?k30 ?a31 ?l31 ?c31 ?k31 ?a32 ?l32 ?c32 ?k32 ?a33 ?l33 ?c33 ?k33 ?a34 ?l34 ?c34 ?k34 ?a35 ?l35 ?c35 ?k35 ?z_len ?z_list ?z_range ?z_enumerate ?z_any ?z_sorted ?z_min ?z_zip ?z_ValueError ?z_isinstance ?z_int ?z_bool ?ns_NoSpot ?ex_NoSpot ?x0_NoSpot ?x1_NoSpot ?x2_NoSpot ?x3_NoSpot ?x4_NoSpot ?x5_NoSpot ?x6_NoSpot ?x7_NoSpot ?ns_KnotError ?ex_KnotError ?x0_KnotError ?x1_KnotError ?x2_KnotError ?x3_KnotError ?x4_KnotError ?x5_KnotError ?x6_KnotError ?x7_KnotError ?kn_NoSpot ?ki_NoSpot_NoSpot ?kv_NoSpot ?lk_NoSpot_KnotError ?mr_NoSpot_KnotError
  (case a0=>k_is); (case l0=>k_is); (case c0=>k_is); (case k0=>k_is)
  (case a1=>k_is); (case l1=>k_is); (case c1=>k_is); (case k1=>k_is)
  (case a2=>k_is); (case l2=>k_is); (case c2=>k_is); (case k2=>k_is)
  (case a3=>k_is); (case l3=>k_is); (case c3=>k_is); (case k3=>k_is)
  (case a4=>k_is); (case l4=>k_is); (case c4=>k_is); (case k4=>k_is)
  (case a5=>k_is); (case l5=>k_is); (case c5=>k_is); (case k5=>k_is)
  (case a6=>k_is); (case l6=>k_is); (case c6=>k_is); (case k6=>k_is)
  (case a7=>k_is); (case l7=>k_is); (case c7=>k_is); (case k7=>k_is)
  (case a8=>k_is); (case l8=>k_is); (case c8=>k_is); (case k8=>k_is)
  (case a9=>k_is); (case l9=>k_is); (case c9=>k_is); (case k9=>k_is)
  (case a10=>k_is); (case l10=>k_is); (case c10=>k_is); (case k10=>k_is)
  (case a11=>k_is); (case l11=>k_is); (case c11=>k_is); (case k11=>k_is)
  (case a12=>k_is); (case l12=>k_is); (case c12=>k_is); (case k12=>k_is)
  (case a13=>k_is); (case l13=>k_is); (case c13=>k_is); (case k13=>k_is)
  (case a14=>k_is); (case l14=>k_is); (case c14=>k_is); (case k14=>k_is)
  (case a15=>k_is); (case l15=>k_is); (case c15=>k_is); (case k15=>k_is)
  (case a16=>k_is); (case l16=>k_is); (case c16=>k_is); (case k16=>k_is)
  (case a17=>k_is); (case l17=>k_is); (case c17=>k_is); (case k17=>k_is)
  (case a18=>k_is); (case l18=>k_is); (case c18=>k_is); (case k18=>k_is)
  (case a19=>k_is); (case l19=>k_is); (case c19=>k_is); (case k19=>k_is)
  (case a20=>k_is); (case l20=>k_is); (case c20=>k_is); (case k20=>k_is)
  (case a21=>k_is); (case l21=>k_is); (case c21=>k_is); (case k21=>k_is)
  (case a22=>k_is); (case l22=>k_is); (case c22=>k_is); (case k22=>k_is)
  (case a23=>k_is); (case l23=>k_is); (case c23=>k_is); (case k23=>k_is)
  (case a24=>k_is); (case l24=>k_is); (case c24=>k_is); (case k24=>k_is)
  (case a25=>k_is); (case l25=>k_is); (case c25=>k_is); (case k25=>k_is)
  (case a26=>k_is); (case l26=>k_is); (case c26=>k_is); (case k26=>k_is)
  (case a27=>k_is); (case l27=>k_is); (case c27=>k_is); (case k27=>k_is)
  (case a28=>k_is); (case l28=>k_is); (case c28=>k_is); (case k28=>k_is)
  (case a29=>k_is); (case l29=>k_is); (case c29=>k_is); (case k29=>k_is)
  (case a30=>k_is); (case l30=>k_is); (case c30=>k_is); (case k30=>k_is)
  (case a31=>k_is); (case l31=>k_is); (case c31=>k_is); (case k31=>k_is)
  (case a32=>k_is); (case l32=>k_is); (case c32=>k_is); (case k32=>k_is)
  (case a33=>k_is); (case l33=>k_is); (case c33=>k_is); (case k33=>k_is)
  (case a34=>k_is); (case l34=>k_is); (case c34=>k_is); (case k34=>k_is)
  (case a35=>k_is); (case l35=>k_is); (case c35=>k_is); (case k35=>k_is)
  (case z_len=>k_is)
  (case z_list=>k_is)
  (case z_range=>k_is)
  (case z_enumerate=>k_is)
  (case z_any=>k_is)
  (case z_sorted=>k_is)
  (case z_min=>k_is)
  (case z_zip=>k_is)
  (case z_ValueError=>k_is)
  (case z_isinstance=>k_is)
  (case z_int=>k_is)
  (case z_bool=>k_is)
  (case ns_NoSpot=>k_is)
  (case ex_NoSpot=>k_exc)
  (case x0_NoSpot=>first | k_is | rfl)
  (case x1_NoSpot=>first | k_is | rfl)
  (case x2_NoSpot=>first | k_is | rfl)
  (case x3_NoSpot=>first | k_is | rfl)
  (case x4_NoSpot=>first | k_is | rfl)
  (case x5_NoSpot=>first | k_is | rfl)
  (case x6_NoSpot=>first | k_is | rfl)
  (case x7_NoSpot=>first | k_is | rfl)
  (case ns_KnotError=>k_is)
  (case ex_KnotError=>k_exc)
  (case x0_KnotError=>first | k_is | rfl)
  (case x1_KnotError=>first | k_is | rfl)
  (case x2_KnotError=>first | k_is | rfl)
  (case x3_KnotError=>first | k_is | rfl)
  (case x4_KnotError=>first | k_is | rfl)
  (case x5_KnotError=>first | k_is | rfl)
  (case x6_KnotError=>first | k_is | rfl)
  (case x7_KnotError=>first | k_is | rfl)
  (case kn_NoSpot=>first | k_is | kit_is)
  (case ki_NoSpot_NoSpot=>first | k_is | kit_is)
  (case kv_NoSpot=>first | k_is | kit_is)
  (case lk_NoSpot_KnotError=>k_is)
  (case mr_NoSpot_KnotError=>first | rfl | decide)
