import PyProof.Rows.All
import Wide.All
import OpenK.AllK
import Wide.FinOn
import Lean
import PyProof.EqAt
import PyProof.EqKinds
import PyProof.TupleCall
import PySem.Challenge.RW_knotwise_k51_bows
set_option Elab.async false
set_option linter.all false
set_option maxRecDepth 100000
set_option maxHeartbeats 4000000
set_option genSizeOf false
set_option genInjectivity false
set_option compiler.extract_closed false
namespace Internal
theorem Ad(h:0=0:=by decide):0=0:=h
theorem Ai(h:0=0:=by intro _; rfl):0=0:=h
theorem Ak(h:0=0:=by decide +kernel):0=0:=h
theorem Al(h:0=0:=by intro _ _ _ _ h; repeat (first | (cases h.1; rfl) | (cases h; rename_i h))):0=0:=h
theorem Ao(h:0=0:=by first | exact .inl rfl | exact .inr rfl | exact .inr (.inl rfl) | exact .inr (.inr rfl) | assumption):0=0:=h
theorem Ar(h:0=0:=by rfl):0=0:=h
namespace L2
open PySem PySem.Spec PyProof.Rows
noncomputable abbrev Key:=Sum Int Str
noncomputable def keyIs:Key->Value->Bool
 | .inl k,v=>Value.isInt k v
 | .inr x,v=>Value.isStrOf x v
noncomputable def keyH (w:World):Key->Int
 | .inl k=>hashInt k
 | .inr x=>hashStr w x
theorem keyIs_shape:∀ {k:Key} {v:Value},keyIs k v=true->(∃ i t,k=Sum.inl i/\v=Value.int i t)\/(∃ x t,k=Sum.inr x/\v=Value.str x t)
 | .inl i,v,h=>by
  obtain ⟨t,e⟩:=Value.isInt_shape (k:=i) (v:=v) h
  exact .inl ⟨i,t,rfl,e⟩
 | .inr x,v,h=>by
  obtain ⟨t,e⟩:=Value.isStrOf_shape (x:=x) (v:=v) h
  exact .inr ⟨x,t,rfl,e⟩
theorem keyIs_int (i:Int) (t:Tok):keyIs (.inl i) (.int i t)=true:=by simp [keyIs,Value.isInt]
theorem keyIs_str (x:Str) (t:Tok):keyIs (.inr x) (.str x t)=true:=by simp [keyIs,Value.isStrOf]
theorem key_ll (a b:Int):decide ((Sum.inl a:Key)=Sum.inl b)=(a == b):=by
 by_cases e:a=b
 ·subst e; simp
 ·have h:¬ (Sum.inl a:Key)=Sum.inl b:=fun q=>e (Sum.inl.inj q)
  rw [decide_eq_false h]
  exact (beq_eq_false_iff_ne.mpr e).symm
theorem key_rr (a b:Str):decide ((Sum.inr a:Key)=Sum.inr b)=decide (a=b):=by
 by_cases e:a=b
 ·subst e; simp
 ·have h:¬ (Sum.inr a:Key)=Sum.inr b:=fun q=>e (Sum.inr.inj q)
  rw [decide_eq_false h,decide_eq_false e]
theorem key_lr (a:Int) (b:Str):decide ((Sum.inl a:Key)=Sum.inr b)=false:=decide_eq_false (fun q=>nomatch q)
theorem key_rl (a:Str) (b:Int):decide ((Sum.inr a:Key)=Sum.inl b)=false:=decide_eq_false (fun q=>nomatch q)
noncomputable def mixKind (prog:Program) (w:World):PySem.KeyKind prog w Key where
 is:=keyIs
 hash:=keyH w
 inj:=fun v a b ha hb=>by
  rcases keyIs_shape ha with ⟨i,t,rfl,rfl⟩ | ⟨x,t,rfl,rfl⟩
  ·rcases keyIs_shape hb with ⟨j,u,rfl,e⟩ | ⟨y,u,rfl,e⟩
   ·injection e with e1 _; rw [e1]
   ·exact nomatch e
  ·rcases keyIs_shape hb with ⟨j,u,rfl,e⟩ | ⟨y,u,rfl,e⟩
   ·exact nomatch e
   ·injection e with e1 _; rw [e1]
 byValue:=fun k v h=>by
  rcases keyIs_shape h with ⟨i,t,rfl,rfl⟩ | ⟨x,t,rfl,rfl⟩ <;> rfl
 pyHash:=fun hv h=>by
  rcases keyIs_shape hv with ⟨i,t,rfl,rfl⟩ | ⟨x,t,rfl,rfl⟩
  ·exact wpAny_pyHash_int h
  ·exact wpAny_pyHash_str h
 eqBool:=fun hu hv h=>by
  rcases keyIs_shape hu with ⟨i,t,rfl,rfl⟩ | ⟨x,t,rfl,rfl⟩
  ·rcases keyIs_shape hv with ⟨j,u,rfl,rfl⟩ | ⟨y,u,rfl,rfl⟩
   ·rw [key_ll] at h; exact wpAny_eqBool_int h
   ·rw [key_lr] at h; exact SeqAt.EqAt.int_str i t y u _ _ _ _ h
  ·rcases keyIs_shape hv with ⟨j,u,rfl,rfl⟩ | ⟨y,u,rfl,rfl⟩
   ·rw [key_rl] at h; exact SeqAt.EqAt.str_int x t j u _ _ _ _ h
   ·rw [key_rr] at h; exact wpAny_eqBool_str h
 «strs»:=fun k x t v h=>by
  rcases keyIs_shape h with ⟨i,u,rfl,e⟩ | ⟨y,u,rfl,e⟩
  ·exact nomatch e
  ·injection e with e1 _
   subst e1
   cases v <;> rfl
theorem mixKind_int (prog:Program) (w:World) (i:Int) (t:Tok):(mixKind prog w).is (.inl i) (.int i t)=true:=keyIs_int i t
theorem mixKind_str (prog:Program) (w:World) (x:Str) (t:Tok):(mixKind prog w).is (.inr x) (.str x t)=true:=keyIs_str x t
inductive V where
 | non | bl (b:Bool) | int (i:Int) | str (x:Str) | byt (b:Array UInt8) | flt (b:UInt64) | ref (a:Addr) | ty (n:String)
noncomputable def RelV:V->Value->Prop
 | .non,u=>u=Value.none
 | .bl b,u=>u=Value.bool b
 | .int i,u=>∃ t,u=Value.int i t
 | .str x,u=>∃ t,u=Value.str x t
 | .byt b,u=>∃ t,u=Value.bytes b t
 | .flt b,u=>∃ t,u=Value.float b t
 | .ref a,u=>u=Value.ref a
 | .ty n,u=>u=Value.type n
noncomputable abbrev Vals:List V->List Value->Prop:=Paired RelV
theorem Vals.length {xs:List V} {us:List Value} (r:Vals xs us):xs.length=us.length:=Paired.length r
theorem Vals.get:∀ {xs:List V} {us:List Value} {i:Nat} {x:V},Vals xs us->xs[i]?=some x->∃ u,us[i]?=some u/\RelV x u:=by
 intro xs us i x h
 induction h generalizing i with
 | nil=>intro e; cases e
 | cons r t ih =>
  intro e
  cases i with
  | zero=>cases e; exact ⟨_,rfl,r⟩
  | succ i=>exact ih e
theorem Vals.set {x:V} {u:Value} (r:RelV x u):∀ {xs:List V} {us:List Value} (i:Nat),Vals xs us->Vals (xs.set i x) (us.set i u):=by
 intro xs us i h
 induction h generalizing i with
 | nil=>rw [List.set_nil,List.set_nil]; exact .nil
 | cons q t ih =>
  cases i with
  | zero=>exact .cons r t
  | succ i=>exact .cons q (ih i)
theorem Vals.append:∀ {xs ys:List V} {us ws:List Value},Vals xs us->Vals ys ws->Vals (xs++ys) (us++ws):=by
 intro xs ys us ws h s
 induction h with
 | nil=>exact s
 | cons r t ih=>exact .cons r ih
theorem Vals.take:∀ {xs:List V} {us:List Value} (n:Nat),Vals xs us->Vals (xs.take n) (us.take n):=by
 intro xs us n h
 induction h generalizing n with
 | nil=>rw [List.take_nil,List.take_nil]; exact .nil
 | cons r t ih =>
  cases n with
  | zero=>exact .nil
  | succ n=>exact .cons r (ih n)
theorem Vals.drop:∀ {xs:List V} {us:List Value} (n:Nat),Vals xs us->Vals (xs.drop n) (us.drop n):=by
 intro xs us n h
 induction h generalizing n with
 | nil=>rw [List.drop_nil,List.drop_nil]; exact .nil
 | cons r t ih =>
  cases n with
  | zero=>exact .cons r t
  | succ n=>exact ih n
noncomputable def RelO:Option V->Option Value->Prop
 | some v,some u=>RelV v u
 | none,none=>True
 | _,_=>False
noncomputable def KV {κ:Type}:List (κ×V)->List (κ×Value)->Prop:=Paired fun (p:κ×V) (q:κ×Value)=>p.1=q.1/\RelV p.2 q.2
noncomputable def kV:Key->V
 | .inl i=>.int i
 | .inr x=>.str x
inductive HO where
 | lst (xs:List V)
 | tup (xs:List V)
 | dK (kvs:List (Key×V)) | dT (kvs:List (List Key×V))
 | set (S:Int->Bool) (n:Nat)
 | ins (C dx:Addr) (fs:List (Str×V))
 | own (x:Addr)
 | xd (fs:List (Str×V))
 | met (f x:Addr)
 | rng (lo hi:Int)
 | frz (o:Obj) (u:HO)
 | tbl (ps:Array Value)
 | ext (φ:Heap->Prop)
noncomputable abbrev Hp:=Addr->Option HO
noncomputable def upd (H:Hp) (a:Addr) (o:HO):Hp:=fun b=>if b=a then some o else H b
theorem upd_same {H:Hp} {a:Addr} {o:HO}:upd H a o a=some o:=by unfold upd; rw [if_pos rfl]
theorem upd_ne {H:Hp} {a b:Addr} {o:HO} (h:b≠a):upd H a o b=H b:=by unfold upd; rw [if_neg h]
theorem ne_of {H:Hp} {a b:Addr} {o u:HO} (h:H a=some o) (h':H b=some u) (d:o≠u):a≠b:=by
 intro e; subst e; rw [h] at h'; exact d (Option.some.inj h')
theorem ne_of_none {H:Hp} {a b:Addr} {o:HO} (h:H a=some o) (h':H b=none):a≠b:=by
 intro e; subst e; rw [h] at h'; cases h'
section
variable (P:Program) (w:World)
noncomputable def ObjOk (H:Hp) (h:Heap) (a:Addr):HO->Prop
 | .lst xs=>xs.length<=sizeLine/\∃ (its:List Value) (n:Nat),Vals xs its/\h.get? a=some { cls:=.type "list",data:=.seq its.toArray n }
 | .tup xs=>xs.length<=sizeLine/\∃ its:List Value,Vals xs its/\IsTup h a its.toArray
 | .dK kvs=>kvs.length<=sizeLine/\(a == sysModules)=false/\∃ vs,KV kvs vs/\h.DictOf (mixKind P w) a vs
 | .dT kvs=>kvs.length<=sizeLine/\(a == sysModules)=false/\∃ xs:List (List Key×Addr×Value),
   Paired (fun (p:List Key×V) (q:List Key×Addr×Value)=>p.1=q.1/\H q.2.1=some (.tup (p.1.map kV))/\RelV p.2 q.2.2) kvs xs /\
   ∃ o es ep,h.get? a=some o/\o.ExactDict/\o.data=.dict es ep/\es.toList=xs.map (entryOfKey (tupleKind (mixKind P w)))/\(xs.map (·.1)).Nodup
 | .set S n=>h.SetOf (intKind P w) a S n
 | .ins C dx fs=>H dx=some (.own a)/\fs.length<=1000/\dx≠a/\h.get? a=some (PySem.W.instObj C dx) /\
   ∃ mA,h.Ns1 dx mA/\(∀ f,RelO (fs.lookup f) (mA f))/\PySem.Within mA (fs.map (·.1))
 | .own _=>∃ o,h.get? a=some o
 | .xd fs=>∃ mA,h.Ns1 a mA/\∀ f,RelO (fs.lookup f) (mA f)
 | .rng lo hi=>∃ t u v,h.get? a=some { cls:=.type "range",data:=.fields #[.int lo t,.int hi u,.int 1 v] }
 | .frz o u=>h.get? a=some o/\ObjOk H h a u
 | .tbl ps=>h.get? a=some { cls:=.none,data:=.fields ps }
 | .met f x=>h.get? a=some (PySem.W.methodObj (.ref f) (.ref x))
 | .ext φ=>φ h/\(∃ o,h.get? a=some o)/\∀ h1 h2:Heap,φ h1->(∀ o,h1.get? a=some o->h2.get? a=some o)->φ h2
noncomputable def HOk (H:Hp) (h:Heap):Prop:=∀ a o,H a=some o->ObjOk P w H h a o
end
section
variable {P:Program} {w:World} {H H':Hp} {h h':Heap} {a:Addr} {o:HO}
theorem ObjOk.lt (x:ObjOk P w H h a o):a < h.objs.size:=by
 cases o with
 | lst xs=>obtain ⟨_,_,_,_,e⟩:=x; exact Heap.lt_size e
 | tup xs=>obtain ⟨_,_,_,p⟩:=x; exact p.lt
 | dK kvs=>obtain ⟨_,_,_,_,o,_,_,e,_⟩:=x; exact Heap.lt_size e
 | dT kvs=>obtain ⟨_,_,_,_,o,_,_,e,_⟩:=x; exact Heap.lt_size e
 | set S n=>obtain ⟨o,_,_,_,e,_⟩:=x; exact Heap.lt_size e
 | ins C dx fs=>obtain ⟨_,_,_,e,_⟩:=x; exact Heap.lt_size e
 | own y=>obtain ⟨_,e⟩:=x; exact Heap.lt_size e
 | xd fs=>obtain ⟨_,⟨_,_,_,e,_⟩,_⟩:=x; exact Heap.lt_size e
 | rng lo hi=>obtain ⟨_,_,_,e⟩:=x; exact Heap.lt_size e
 | frz ob u=>obtain ⟨e,_⟩:=x; exact Heap.lt_size e
 | tbl ps=>exact Heap.lt_size (show h.get? a=some _ from x)
 | met f y=>exact Heap.lt_size (show h.get? a=some _ from x)
 | ext φ=>obtain ⟨_,⟨_,e⟩,_⟩:=x; exact Heap.lt_size e
theorem Paired.mapP {α β:Type} {F G:α->β->Prop}:∀ {l₁:List α} {l₂:List β},Paired F l₁ l₂->(∀ a b,F a b->G a b)->Paired G l₁ l₂:=by
 intro l₁ l₂ h f
 induction h with
 | nil=>exact .nil
 | cons r t ih=>exact .cons (f _ _ r) ih
theorem ObjOk.stay (x:ObjOk P w H h a o) (k:∀ b u,(b=a\/H b=some (.own a))->h.get? b=some u->h'.get? b=some u)
  (ho:∀ b,H b=some (.own a)->H' b=some (.own a)) (ht:∀ b xs,H b=some (.tup xs)->H' b=some (.tup xs)):ObjOk P w H' h' a o:=by
 induction o with
 | lst xs=>obtain ⟨z,its,n,r,e⟩:=x; exact ⟨z,its,n,r,k _ _ (.inl rfl) e⟩
 | tup xs=>obtain ⟨z,its,r,ob,e,c⟩:=x; exact ⟨z,its,r,ob,k _ _ (.inl rfl) e,c⟩
 | dK kvs=>obtain ⟨z,y,vs,r,ob,es,ep,e,c⟩:=x; exact ⟨z,y,vs,r,ob,es,ep,k _ _ (.inl rfl) e,c⟩
 | dT kvs =>
  obtain ⟨z,y,xs,r,ob,es,ep,e,c⟩:=x
  exact ⟨z,y,xs,Paired.mapP r fun p q z=>⟨z.1,ht _ _ z.2.1,z.2.2⟩,ob,es,ep,k _ _ (.inl rfl) e,c⟩
 | set S n=>obtain ⟨ob,es,ep,t,e,c⟩:=x; exact ⟨ob,es,ep,t,k _ _ (.inl rfl) e,c⟩
 | ins C dx fs =>
  obtain ⟨d,z,ne,e,mA,⟨od,es,ep,e2,c⟩,r⟩:=x
  exact ⟨ho _ d,z,ne,k _ _ (.inl rfl) e,mA,⟨od,es,ep,k _ _ (.inr d) e2,c⟩,r⟩
 | own y=>obtain ⟨ob,e⟩:=x; exact ⟨ob,k _ _ (.inl rfl) e⟩
 | xd fs=>obtain ⟨mA,⟨od,es,ep,e,c⟩,r⟩:=x; exact ⟨mA,⟨od,es,ep,k _ _ (.inl rfl) e,c⟩,r⟩
 | rng lo hi=>obtain ⟨t,u,v,e⟩:=x; exact ⟨t,u,v,k _ _ (.inl rfl) e⟩
 | frz ob u ih=>obtain ⟨e,q⟩:=x; exact ⟨k _ _ (.inl rfl) e,ih q⟩
 | tbl ps =>
  have e:h.get? a=some { cls:=.none,data:=.fields ps }:=x
  show h'.get? a=some { cls:=.none,data:=.fields ps }
  exact k a _ (.inl rfl) e
 | met f y =>
  have e:h.get? a=some (PySem.W.methodObj (.ref f) (.ref y)):=x
  show h'.get? a=some (PySem.W.methodObj (.ref f) (.ref y))
  exact k a _ (.inl rfl) e
 | ext φ=>obtain ⟨p,⟨o,e⟩,st⟩:=x; exact ⟨st _ _ p fun o q=>k _ _ (.inl rfl) q,⟨o,k _ _ (.inl rfl) e⟩,st⟩
theorem HOk.lt (x:HOk P w H h) (e:H a=some o):a < h.objs.size:=(x a o e).lt
theorem HOk.fresh (x:HOk P w H h) (e:h.objs.size<=a):H a=none:=by
 cases q:H a with
 | none=>rfl
 | some u=>exact absurd (Nat.lt_of_lt_of_le (x.lt q) e) (Nat.lt_irrefl _)
theorem HOk.kept (x:HOk P w H h) (k:∀ b u,h.get? b=some u->h'.get? b=some u):HOk P w H h':=fun a o e =>
 (x a o e).stay (fun b u _ q=>k b u q) (fun _ q=>q) fun _ _ q=>q
theorem HOk.laid (x:HOk P w H h) (k:∀ b u,h.get? b=some u->h'.get? b=some u) (hp:h.objs.size<=a) (new:ObjOk P w (upd H a o) h' a o):HOk P w (upd H a o) h':=fun b u e=>by
 have hn:=x.fresh hp
 by_cases hb:b=a
 ·subst hb; rw [upd_same] at e; cases e; exact new
 ·rw [upd_ne hb] at e
  exact (x b u e).stay (fun c v _ q=>k c v q) (fun c q=>by rw [upd_ne (ne_of_none q hn)]; exact q) fun c xs q=>by rw [upd_ne (ne_of_none q hn)]; exact q
end
noncomputable def Rd (H:Hp) (a:Addr) (u:HO):Prop:=H a=some u\/∃ o,H a=some (.frz o u)
theorem Rd.ok {P:Program} {w:World} {H:Hp} {h:Heap} {a:Addr} {u:HO} (r:Rd H a u) (x:HOk P w H h):ObjOk P w H h a u:=by
 rcases r with r | ⟨o,r⟩
 ·exact x a u r
 ·obtain ⟨_,q⟩:=x a _ r
  exact q
noncomputable def Mut:Option HO->Prop
 | some (.lst _)=>True
 | some (.dK _)=>True
 | some (.dT _)=>True
 | some (.set _ _)=>True
 | some (.ins _ _ _)=>True
 | some (.ext _)=>True
 | _=>False
section
variable {P:Program} {w:World} {H:Hp} {h h':Heap} {x e:Addr} {o':HO}
theorem HOk.write (ok:HOk P w H h) (mu:Mut (H x)) (he:e=x\/H e=some (.own x)) (k:∀ b u,b≠e->h.get? b=some u->h'.get? b=some u) (heo:∃ u,h'.get? e=some u)
  (new:ObjOk P w (upd H x o') h' x o'):HOk P w (upd H x o') h':=fun b u q=>by
 have nown:∀ c y,H c=some (.own y)->c≠x:=fun c y r z=>by subst z; rw [r] at mu; exact mu
 have ntup:∀ c xs,H c=some (.tup xs)->c≠x:=fun c xs r z=>by subst z; rw [r] at mu; exact mu
 by_cases hb:b=x
 ·subst hb; rw [upd_same] at q; cases q; exact new
 ·rw [upd_ne hb] at q
  by_cases hbe:b=e
  ·have q':H b=some (.own x):=by
    rcases he with z | z
    ·exact absurd (hbe.trans z) hb
    ·rw [hbe]; exact z
   rw [q] at q'; cases q'
   obtain ⟨v,hv⟩:=heo
   exact ⟨v,by rw [hbe]; exact hv⟩
  ·refine (ok b u q).stay (fun c v hc r=>k c v ?_ r) (fun c r=>by rw [upd_ne (nown c b r)]; exact r) fun c xs r=>by rw [upd_ne (ntup c xs r)]; exact r
   rcases hc with rfl | hc
   ·exact hbe
   ·rintro rfl
    rcases he with z | z
    ·exact nown c b hc z
    ·rw [hc] at z; cases z; exact hb rfl
end
structure Un (fs ex:List Addr) (H H':Hp) (h h':Heap):Prop where
 keep:∀ b o,h.get? b=some o->H b=none->b∉fs->b∉ex->h'.get? b=some o
 slot:∀ b o,h.get? b=some o->H b=none->b∈fs->b∉ex->∃ sl,h'.get? b=some { o with slots:=sl }
 free:∀ b o,h.get? b=some o->H b=none->b∉ex->H' b=none
 there:∀ b o,h.get? b=some o->b∉ex->∃ o',h'.get? b=some o'
 tups:∀ b xs,H b=some (.tup xs)->H' b=some (.tup xs)
 frzs:∀ b o u,H b=some (.frz o u)->H' b=some (.frz o u)
 tbls:∀ b ps,H b=some (.tbl ps)->∃ more,H' b=some (.tbl (ps++more))
section
variable {fs fs' ex ex':List Addr} {H H1 H2:Hp} {h h1 h2 h':Heap} {a x e:Addr} {o:HO}
theorem Un.any (u:Un fs ex H H1 h h1) {b:Addr} {ob:Obj} (q:h.get? b=some ob) (n:H b=none) (hx:b∉ex):∃ sl,h1.get? b=some { ob with slots:=sl }:=by
 by_cases hb:b∈fs
 ·exact u.slot b ob q n hb hx
 ·exact ⟨ob.slots,u.keep b ob q n hb hx⟩
theorem Un.kept (k:∀ b u,h.get? b=some u->h'.get? b=some u):Un fs ex H H h h' :=
 ⟨fun b ob q _ _ _=>k b ob q,fun b ob q _ _ _=>⟨ob.slots,k b ob q⟩,fun _ _ _ n _=>n,fun b ob q _=>⟨ob,k b ob q⟩,fun _ _ q=>q,fun _ _ _ q=>q,fun _ ps q=>⟨#[],by rw [q]; simp⟩⟩
theorem Un.refl:Un fs ex H H h h:=Un.kept fun _ _ q=>q
theorem Un.laid (k:∀ b u,h.get? b=some u->h'.get? b=some u) (hp:h.objs.size<=a) (hn:H a=none):Un fs ex H (upd H a o) h h' where
 keep:=fun b u q _ _ _=>k b u q
 slot:=fun b u q _ _ _=>⟨u.slots,k b u q⟩
 free:=fun b u q n _=>by rw [upd_ne (Nat.ne_of_lt (Nat.lt_of_lt_of_le (Heap.lt_size q) hp))]; exact n
 there:=fun b u q _=>⟨u,k b u q⟩
 tups:=fun b xs q=>by rw [upd_ne (ne_of_none q hn)]; exact q
 frzs:=fun b u xs q=>by rw [upd_ne (ne_of_none q hn)]; exact q
 tbls:=fun b ps q=>⟨#[],by rw [upd_ne (ne_of_none q hn),q]; simp⟩
theorem Un.write (mu:Mut (H x)) (he:e=x\/H e=some (.own x)) (k:∀ b u,b≠e->h.get? b=some u->h'.get? b=some u) (heo:∃ u,h'.get? e=some u):Un fs ex H (upd H x o) h h':=by
 have hx:∀ b,H b=none->b≠x:=fun b n z=>by subst z; rw [n] at mu; exact mu
 have hb:∀ b,H b=none->b≠e:=fun b n z=>by
  subst z
  rcases he with r | r
  ·exact hx b n r
  ·rw [n] at r; cases r
 have hm:∀ b u,H b=some u->¬ Mut (some u)->b≠x:=fun b u q nm z=>by subst z; rw [q] at mu; exact nm mu
 refine ⟨fun b u q n _ _=>k b u (hb b n) q,fun b u q n _ _=>⟨u.slots,k b u (hb b n) q⟩,fun b u q n _=>by rw [upd_ne (hx b n)]; exact n,fun b u q _=>?_,
  fun b xs q=>by rw [upd_ne (hm b _ q fun z=>z)]; exact q,fun b u xs q=>by rw [upd_ne (hm b _ q fun z=>z)]; exact q,fun b ps q=>⟨#[],by rw [upd_ne (hm b _ q fun z=>z),q]; simp⟩⟩
 by_cases hbe:b=e
 ·subst hbe; exact heo
 ·exact ⟨u,k b u hbe q⟩
end
noncomputable def trk (h:Heap) (H:Hp):List Addr:=(List.range h.objs.size).filter fun a=>(H a).isSome
noncomputable def hidT (h:Heap) (H:Hp):Heap:=PySem.W.hideAll h (trk h H)
theorem hidT_size (h:Heap) (H:Hp):(hidT h H).objs.size=h.objs.size:=PySem.W.hideAll_size _ _
theorem hidT_get {h:Heap} {H:Hp} {b:Addr} {o:Obj} (e:h.get? b=some o) (n:H b=none):(hidT h H).get? b=some o :=
 PySem.W.hideAll_get _ e fun hm=>by
  have q:(H b).isSome=true:=(List.mem_filter.mp hm).2
  rw [n] at q; simp at q
theorem of_hidT {h:Heap} {H:Hp} {b:Addr} {o:Obj} (e:(hidT h H).get? b=some o):h.get? b=some o/\H b=none:=by
 have e':h.get? b=some o:=PySem.W.of_hideAll (trk h H) e
 refine ⟨e',?_⟩
 cases q:H b with
 | none=>rfl
 | some x =>
  have hm:b∈trk h H:=List.mem_filter.mpr ⟨List.mem_range.mpr (Heap.lt_size e'),by simp [q]⟩
  have z:(hidT h H).get? b=none:=PySem.W.hideAll_none (trk h H) hm
  rw [z] at e; cases e
noncomputable def allNews (g h:Heap) (L:Addr):List (Addr×Obj):=(List.range h.objs.size).filterMap fun a=>if a=L\/(g.get? a).isSome=true then none else (h.get? a).map fun o=>(a,o)
theorem mem_allNews {g h:Heap} {L a:Addr} {o:Obj} (h1:a≠L) (h2:g.get? a=none) (h3:h.get? a=some o):(a,o)∈allNews g h L :=
 List.mem_filterMap.mpr ⟨a,List.mem_range.mpr (Heap.lt_size h3),by simp [h1,h2,h3]⟩
theorem of_mem_allNews {g h:Heap} {L:Addr} {p:Addr×Obj} (hp:p∈allNews g h L):p.1≠L/\g.get? p.1=none/\h.get? p.1=some p.2:=by
 obtain ⟨b,_,e⟩:=List.mem_filterMap.mp hp
 split at e
 ·cases e
 ·rename_i hn
  cases q:h.get? b with
  | none=>rw [q] at e; simp at e
  | some u =>
   rw [q] at e
   simp only [Option.map_some,Option.some.injEq] at e
   subst e
   refine ⟨fun z=>hn (.inl z),?_,q⟩
   show g.get? b=none
   cases r:g.get? b with
   | none=>rfl
   | some v=>exact (hn (.inr (by simp [r]))).elim
noncomputable def rest (g h:Heap) (L d:Addr):List (Addr×Obj):=(allNews g h L).filter fun p=>decide (p.1≠d)
theorem news_all {g h:Heap} {L:Addr}:News g L h (allNews g h L):=fun p hp=>let ⟨a,b,c⟩:=of_mem_allNews hp; ⟨c,a,b⟩
structure Mod (K:PySem.W.Frag) (mg:Str->Option Value) (base:Heap):Prop where
 kin:K.In base
 glob:base.Ns mainGlobals mg
 blt:∃ mb,base.Ns builtinsNs mb/\∀ x:Str,x≠"__name__"->mb x=bootBuiltins x
 nolimit:base.NoLimit
structure Cx where
 prog:Program
 w:World
 K:PySem.W.Frag
 mg:Str->Option Value
 base:Heap
 A:Around
 N:List Str
 s₀:Shared
 H₀:Hp
 env:Env
 outer:List Env
 stack:List Env
 ex:List Addr
 fn:Str->Bool
 calm:Bool
 pn:List (Addr×Obj)
 xe:Value->Shared->Prop
noncomputable def frs (l:List Env):List Addr:=l.filterMap (·.frame)
noncomputable abbrev Cx.fs (X:Cx):List Addr:=frs X.outer
noncomputable def Vis (sc:Scope) (x:Str):Prop:=sc.names.lookup x=some .local\/sc.names.lookup x=some .cell\/sc.names.lookup x=some .free
noncomputable def Loc (sc:Scope) (x:Str):Prop:=sc.names.lookup x=some .local\/sc.names.lookup x=some .cell
noncomputable def Look (env:Env) (h:Heap) (m:Str->Option Value) (x:Str) (u:Value):Prop :=
 (env.kindOf x=some .local/\m x=some u)\/((env.kindOf x=some .cell\/env.kindOf x=some .free)/\∃ c,env.cells.lookup x=some c/\h.IsCell c (some u))
structure Cx.Ok (X:Cx):Prop where
 mod:Mod X.K X.mg X.base
 kind:X.env.scope.kind=.function
 glob:X.env.globals=mainGlobals
 blt:X.env.builtins=builtinsNs
 above:X.s₀.heap.objs.size<=X.env.locals
 inj:∀ x y c,X.env.cells.lookup x=some c->X.env.cells.lookup y=some c->x=y
 has:∀ x,(X.env.kindOf x=some .cell\/X.env.kindOf x=some .free)->∃ c,X.env.cells.lookup x=some c
 cab:∀ x c,X.fn x=true->X.env.cells.lookup x=some c->X.s₀.heap.objs.size<=c
 hd:X.calm=true->X.A.handled=none
 frames:X.A.frames=some X.stack
 stk:X.stack=X.outer\/(X.stack=X.env :: X.outer/\X.env.frame=some X.env.locals)
 exf:∀ b∈X.ex,b≠X.env.locals/\∀ x c,X.env.cells.lookup x=some c->c≠b
 bs:∀ b o,X.base.get? b=some o->X.s₀.heap.get? b=some o/\X.H₀ b=none
 bsz:X.base.objs.size<=X.s₀.heap.objs.size
 noex:∀ b o,X.base.get? b=some o->b∉X.ex
 exfs:∀ b∈X.ex,b∉X.fs
 funs:X.s₀.heap.FunFrames X.base X.outer
 frf:∀ b∈X.fs,X.H₀ b=none
structure Inv (X:Cx) (pins:List (Addr×Obj)) (σ:List (Option V)) (H:Hp) (s:Shared):Prop where
 ok:X.Ok
 os:s.os=X.s₀.os
 bare:AllBare s.gens
 base:Un X.fs X.ex X.H₀ H X.s₀.heap s.heap
 loc:∃ m,s.heap.Ns X.env.locals m/\∀ (i:Nat) (x:Str) (v:V),X.N[i]?=some x->σ[i]?=some (some v)->Vis X.env.scope x->∃ u,RelV v u/\Look X.env s.heap m x u
 cell:∀ x c,X.env.cells.lookup x=some c->∃ v,s.heap.IsCell c v
 free:H X.env.locals=none
 freeC:∀ x c,X.env.cells.lookup x=some c->H c=none
 pin:∀ p∈X.pn++pins,s.heap.get? p.1=some p.2/\H p.1=none/\p.1≠X.env.locals/\p.1∉X.fs/\∀ v,p.2.data≠.cell v
 hok:HOk X.prog X.w H s.heap
 len:σ.length=X.N.length
section
variable {X:Cx} {pins:List (Addr×Obj)} {σ:List (Option V)} {H H':Hp} {s:Shared} {h':Heap}
theorem Cx.Ok.nofr (ok:X.Ok) {b:Addr} {o:Obj} (e:X.base.get? b=some o):b∉X.fs:=fun hb=>by
 have:=(ok.funs.mem hb).1
 rw [e] at this; cases this
theorem Inv.bs (I:Inv X pins σ H s):∀ b o,X.base.get? b=some o->s.heap.get? b=some o/\H b=none:=fun b o e =>
 ⟨I.base.keep b o (I.ok.bs b o e).1 (I.ok.bs b o e).2 (I.ok.nofr e) (I.ok.noex b o e),I.base.free b o (I.ok.bs b o e).1 (I.ok.bs b o e).2 (I.ok.noex b o e)⟩
theorem Inv.bk (I:Inv X pins σ H s):∀ b o,X.base.get? b=some o->s.heap.get? b=some o:=fun b o e=>(I.bs b o e).1
theorem Inv.mod (I:Inv X pins σ H s):Mod X.K X.mg X.base:=I.ok.mod
theorem Inv.kIn (I:Inv X pins σ H s):X.K.In s.heap:=I.ok.mod.kin.keeps I.bk
theorem Inv.fr (I:Inv X pins σ H s):∃ m,Fr X.base X.env.locals s.heap m :=
 let ⟨m,hn,_⟩:=I.loc
 ⟨m,hn,I.bk,Nat.le_trans I.ok.bsz I.ok.above⟩
theorem Inv.lt (I:Inv X pins σ H s):X.env.locals < s.heap.objs.size:=let ⟨_,hn,_⟩:=I.loc; hn.lt
theorem Inv.sz (I:Inv X pins σ H s):X.s₀.heap.objs.size<=s.heap.objs.size:=Nat.le_trans I.ok.above (Nat.le_of_lt I.lt)
theorem Inv.nofs (I:Inv X pins σ H s) {a:Addr} (h:s.heap.objs.size<=a):a∉X.fs:=fun hb=>by
 obtain ⟨_,o,ho,_⟩:=I.ok.funs.mem hb
 exact absurd (Nat.lt_of_lt_of_le (Heap.lt_size ho) (Nat.le_trans I.sz h)) (Nat.lt_irrefl _)
theorem Inv.cne (I:Inv X pins σ H s):∀ x c,X.env.cells.lookup x=some c->c≠X.env.locals:=fun x c e z=>by
 obtain ⟨v,o,ho,hd⟩:=I.cell x c e
 obtain ⟨m,⟨o',es,ep,ho',hd',_⟩,_⟩:=I.loc
 rw [z,ho'] at ho; cases ho; rw [hd'] at hd; cases hd
theorem Inv.funs (I:Inv X pins σ H s):s.heap.FunFrames X.base X.outer:=by
 have all:∀ (l:List Env),(∀ b∈frs l,b∈X.fs)->X.s₀.heap.FunFrames X.base l->s.heap.FunFrames X.base l:=by
  intro l
  induction l with
  | nil=>intro _ _; trivial
  | cons env r ih =>
   intro hs hl
   obtain ⟨hk,⟨L,o,hf,hn,ho,hd⟩,hr⟩:=hl
   have hL:L∈X.fs:=hs L (by unfold frs; rw [List.filterMap_cons,hf]; exact List.mem_cons_self)
   obtain ⟨sl,e⟩:=I.base.slot L o ho (I.ok.frf L hL) hL fun z=>I.ok.exfs L z hL
   exact ⟨hk,⟨L,_,hf,hn,e,hd⟩,ih (fun b hb=>hs b (by unfold frs; rw [List.filterMap_cons,hf]; exact List.mem_cons_of_mem _ hb)) hr⟩
 exact all X.outer (fun _ hb=>hb) I.ok.funs
theorem Inv.stack (I:Inv X pins σ H s):s.heap.FunFrames X.base X.stack:=by
 rcases I.ok.stk with e | ⟨e,hf⟩
 ·rw [e]; exact I.funs
 ·rw [e]
  obtain ⟨m,hn,_⟩:=I.loc
  refine .cons (by rw [I.ok.kind]; decide) hf hn ?_ I.funs
  exact Heap.get?_none_of_le (Nat.le_trans I.ok.bsz I.ok.above)
theorem Inv.stkSub (I:Inv X pins σ H s):∀ b∈frs X.stack,b∈X.env.locals :: X.fs:=fun b hb=>by
 rcases I.ok.stk with e | ⟨e,hf⟩
 ·rw [e] at hb; exact List.mem_cons_of_mem _ hb
 ·rw [e] at hb
  unfold frs at hb
  rw [List.filterMap_cons,hf] at hb
  exact hb
theorem Inv.stkFree (I:Inv X pins σ H s):∀ b∈frs X.stack,H b=none:=fun b hb=>by
 rcases List.mem_cons.mp (I.stkSub b hb) with e | hb
 ·rw [e]; exact I.free
 ·obtain ⟨_,o,ho,_⟩:=I.ok.funs.mem hb
  exact I.base.free b o ho (I.ok.frf b hb) fun z=>I.ok.exfs b z hb
theorem Inv.step {g':Array GenState} {t':Nat} {d':Drawn} {ch:List Addr} (I:Inv X pins σ H s)
  (hch:∀ b∈ch,(b∈X.ex\/X.s₀.heap.objs.size<=b)/\b≠X.env.locals/\(∀ x c,X.env.cells.lookup x=some c->c≠b)/\∀ p∈X.pn++pins,p.1≠b)
  (keep:∀ b o,b≠X.env.locals->b∉X.fs->b∉ch->s.heap.get? b=some o->H b=none->h'.get? b=some o)
  (slot:∀ b o,b≠X.env.locals->b∈X.fs->b∉ch->s.heap.get? b=some o->H b=none->∃ sl,h'.get? b=some { o with slots:=sl }) (free:∀ b o,b∉ch->s.heap.get? b=some o->H b=none->H' b=none)
  (there:∀ b o,b∉ch->s.heap.get? b=some o->∃ o',h'.get? b=some o')
  (tups:∀ b xs,H b=some (.tup xs)->H' b=some (.tup xs)) (frzs:∀ b o u,H b=some (.frz o u)->H' b=some (.frz o u)) (tbls:∀ b ps,H b=some (.tbl ps)->∃ more,H' b=some (.tbl (ps++more)))
  (ns:∀ m,s.heap.Ns X.env.locals m->h'.Ns X.env.locals m) (hok:HOk X.prog X.w H' h') (hg:AllBare g') :
  Inv X pins σ H' { s with heap:=h',gens:=g',drawn:=d',toks:=t' }:=by
 have neL:∀ b o,X.s₀.heap.get? b=some o->b≠X.env.locals:=fun b o e=>Nat.ne_of_lt (Nat.lt_of_lt_of_le (Heap.lt_size e) I.ok.above)
 have neC:∀ b o,X.s₀.heap.get? b=some o->b∉X.ex->b∉ch:=fun b o e hx hb=>by
  rcases (hch b hb).1 with z | z
  ·exact hx z
  ·exact absurd (Nat.lt_of_lt_of_le (Heap.lt_size e) z) (Nat.lt_irrefl _)
 have cellK:∀ x c,X.env.cells.lookup x=some c->∀ v,s.heap.IsCell c v->h'.IsCell c v:=fun x c e v ⟨o,ho,hd⟩=>by
  have nch:c∉ch:=fun z=>(hch c z).2.2.1 x c e rfl
  by_cases hc:c∈X.fs
  ·obtain ⟨sl,q⟩:=slot c o (I.cne x c e) hc nch ho (I.freeC x c e)
   exact ⟨_,q,hd⟩
  ·exact ⟨o,keep c o (I.cne x c e) hc nch ho (I.freeC x c e),hd⟩
 refine ⟨I.ok,I.os,hg,⟨fun b o e n hb hx=>?_,fun b o e n hb hx=>?_,fun b o e n hx=>?_,fun b o e hx=>?_,fun b xs e=>tups b xs (I.base.tups b xs e),fun b o xs e=>frzs b o xs (I.base.frzs b o xs e),fun b ps e=>?_⟩,?_,fun x c e=>?_,?_,fun x c e=>?_,fun p hp=>?_,hok,I.len⟩
 ·exact keep b o (neL b o e) hb (neC b o e hx) (I.base.keep b o e n hb hx) (I.base.free b o e n hx)
 ·obtain ⟨sl,e1⟩:=I.base.slot b o e n hb hx
  obtain ⟨sl',e2⟩:=slot b _ (neL b o e) hb (neC b o e hx) e1 (I.base.free b o e n hx)
  exact ⟨sl',e2⟩
 ·obtain ⟨o',e1⟩:=I.base.there b o e hx
  exact free b o' (neC b o e hx) e1 (I.base.free b o e n hx)
 ·obtain ⟨o',e1⟩:=I.base.there b o e hx
  exact there b o' (neC b o e hx) e1
 ·obtain ⟨m1,e1⟩:=I.base.tbls b ps e
  obtain ⟨m2,e2⟩:=tbls b _ e1
  exact ⟨m1++m2,by rw [e2,Array.append_assoc]⟩
 ·obtain ⟨m,hn,hl⟩:=I.loc
  refine ⟨m,ns m hn,fun i x v e1 e2 e3=>?_⟩
  obtain ⟨u,r,l⟩:=hl i x v e1 e2 e3
  refine ⟨u,r,?_⟩
  rcases l with l | ⟨k,c,e,z⟩
  ·exact .inl l
  ·exact .inr ⟨k,c,e,cellK x c e _ z⟩
 ·obtain ⟨v,z⟩:=I.cell x c e
  exact ⟨v,cellK x c e v z⟩
 ·obtain ⟨m,⟨o,_,_,ho,_⟩,_⟩:=I.loc
  exact free _ o (fun z=>(hch _ z).2.1 rfl) ho I.free
 ·obtain ⟨v,o,ho,hd⟩:=I.cell x c e
  exact free c o (fun z=>(hch c z).2.2.1 x c e rfl) ho (I.freeC x c e)
 ·obtain ⟨e,n,ne,nf,d⟩:=I.pin p hp
  have nch:p.1∉ch:=fun z=>(hch p.1 z).2.2.2 p hp rfl
  exact ⟨keep p.1 p.2 ne nf nch e n,free p.1 p.2 nch e n,ne,nf,d⟩
theorem Inv.un {t':Nat} (I:Inv X pins σ H s) (u:Un X.fs [] H H' s.heap h') (hok:HOk X.prog X.w H' h'):Inv X pins σ H' { s with heap:=h',toks:=t' }:=by
 obtain ⟨m,⟨o,es,ep,ho,r⟩,_⟩:=id I.loc
 obtain ⟨sl,hL⟩:=u.any ho I.free (by simp)
 exact I.step (g':=s.gens) (d':=s.drawn) (ch:=[]) (fun _ z=>nomatch z) (fun b o _ hb _ e n=>u.keep b o e n hb (by simp)) (fun b o _ hb _ e n=>u.slot b o e n hb (by simp)) (fun b o _ e n=>u.free b o e n (by simp)) (fun b o _ e=>u.there b o e (by simp)) u.tups u.frzs u.tbls (fun m' hm=>by
  obtain ⟨o',es',ep',ho',r'⟩:=hm
  rw [ho] at ho'; cases ho'
  exact ⟨_,es',ep',hL,r'⟩) hok I.bare
theorem Inv.call {g':Array GenState} {t':Nat} {d':Drawn} {ch:List Addr} (I:Inv X pins σ H s) (u:Un (frs X.stack) ch H H' s.heap h') (hok:HOk X.prog X.w H' h') (hg:AllBare g')
  (hch:∀ b∈ch,(b∈X.ex\/X.s₀.heap.objs.size<=b)/\b≠X.env.locals/\(∀ x c,X.env.cells.lookup x=some c->c≠b)/\∀ p∈X.pn++pins,p.1≠b) :
  Inv X pins σ H' { s with heap:=h',gens:=g',drawn:=d',toks:=t' }:=by
 obtain ⟨m,⟨o,es,ep,ho,r⟩,_⟩:=id I.loc
 obtain ⟨sl,hL⟩:=u.any ho I.free fun z=>(hch _ z).2.1 rfl
 exact I.step (ch:=ch) hch (fun b o hL hb hc e n=>u.keep b o e n (fun z=>(List.mem_cons.mp (I.stkSub b z)).elim hL hb) hc) (fun b o _ _ hc e n=>u.any e n hc) (fun b o hc e n=>u.free b o e n hc) (fun b o hc e=>u.there b o e hc) u.tups u.frzs u.tbls (fun m' hm=>by
  obtain ⟨o',es',ep',ho',r'⟩:=hm
  rw [ho] at ho'; cases ho'
  exact ⟨_,es',ep',hL,r'⟩) hok hg
theorem Inv.turned {t':Nat} {it:Addr} (I:Inv X pins σ H s) (k:∀ b o,b≠it->s.heap.get? b=some o->h'.get? b=some o) (hn:H it=none) (hL:it≠X.env.locals)
  (h1:it∈X.ex\/X.s₀.heap.objs.size<=it) (h2:∀ x c,X.env.cells.lookup x=some c->c≠it) (h3:∀ p∈X.pn++pins,p.1≠it):Inv X pins σ H { s with heap:=h',toks:=t' }:=by
 have nit:∀ b u,H b=some u->b≠it:=fun b u e z=>by rw [z,hn] at e; cases e
 refine I.step (g':=s.gens) (d':=s.drawn) (ch:=[it]) (fun b hb=>?_) (fun b o _ _ hc e _=>k b o (fun z=>hc (by simp [z])) e) (fun b o _ _ hc e _=>⟨o.slots,k b o (fun z=>hc (by simp [z])) e⟩) (fun _ _ _ _ n=>n)
  (fun b o hc e=>⟨o,k b o (fun z=>hc (by simp [z])) e⟩) (fun _ _ e=>e) (fun _ _ _ e=>e) (fun b ps e=>⟨#[],by rw [e]; simp⟩) (fun m hm=>?_) (fun b u e=>?_) I.bare
 ·have e:b=it:=by simpa using hb
  subst e
  exact ⟨h1,hL,h2,h3⟩
 ·obtain ⟨o,es,ep,ho,r⟩:=hm
  exact ⟨o,es,ep,k _ o (Ne.symm hL) ho,r⟩
 ·refine (I.hok b u e).stay (fun c v hc q=>k c v ?_ q) (fun _ q=>q) fun _ _ q=>q
  rcases hc with z | z
  ·rw [z]; exact nit b u e
  ·exact nit c _ z
theorem Inv.tok (I:Inv X pins σ H s) (t:Nat):Inv X pins σ H { s with toks:=t }:=I.un (h':=s.heap) (t':=t) Un.refl I.hok
theorem Inv.kept {t':Nat} (I:Inv X pins σ H s) (k:∀ b u,s.heap.get? b=some u->h'.get? b=some u):Inv X pins σ H { s with heap:=h',toks:=t' }:=I.un (Un.kept k) (I.hok.kept k)
theorem Inv.laid {a:Addr} {o:HO} {t':Nat} (I:Inv X pins σ H s) (k:∀ b u,s.heap.get? b=some u->h'.get? b=some u) (hp:s.heap.objs.size<=a) (new:ObjOk X.prog X.w (upd H a o) h' a o) :
  Inv X pins σ (upd H a o) { s with heap:=h',toks:=t' }:=I.un (Un.laid k hp (I.hok.fresh hp)) (I.hok.laid k hp new)
theorem Inv.write {x e:Addr} {o:HO} {t':Nat} (I:Inv X pins σ H s) (mu:Mut (H x)) (he:e=x\/H e=some (.own x)) (k:∀ b u,b≠e->s.heap.get? b=some u->h'.get? b=some u) (heo:∃ u,h'.get? e=some u)
  (new:ObjOk X.prog X.w (upd H x o) h' x o):Inv X pins σ (upd H x o) { s with heap:=h',toks:=t' }:=I.un (Un.write mu he k heo) (I.hok.write mu he k heo new)
theorem Inv.pins_of {pins':List (Addr×Obj)} (I:Inv X pins σ H s) (h:∀ p∈pins',s.heap.get? p.1=some p.2/\H p.1=none/\p.1≠X.env.locals/\p.1∉X.fs/\∀ v,p.2.data≠.cell v):Inv X pins' σ H s :=
 ⟨I.ok,I.os,I.bare,I.base,I.loc,I.cell,I.free,I.freeC,fun p hp=>(List.mem_append.mp hp).elim (fun z=>I.pin p (List.mem_append_left _ z)) (h p),I.hok,I.len⟩
theorem nodup_ix {N:List Str} (hN:N.Nodup) {i j:Nat} {x:Str} (a:N[i]?=some x) (b:N[j]?=some x):i=j:=by
 obtain ⟨h1,e1⟩:=List.getElem?_eq_some_iff.mp a
 obtain ⟨h2,e2⟩:=List.getElem?_eq_some_iff.mp b
 exact (List.getElem_inj hN).mp (e1.trans e2.symm)
theorem store_ok2 {M:Model} {A:Around} {E:Value->Shared->Prop} {i:Nat} {x:Str} {v:V} {u:Value} {Q:Unit->Shared->Prop} (I:Inv X pins σ H s) (hN:X.N.Nodup) (hi:X.N[i]?=some x) (hx:Loc X.env.scope x) (r:RelV v u)
  (h:∀ s',Inv X pins (σ.set i (some v)) H s'->(∃ a,Heap.SameBut a s.heap s'.heap/\(a=X.env.locals\/X.env.cells.lookup x=some a))->Q () s') (hf:autoParam (X.fn x=true\/X.env.scope.names.lookup x=some .local) Ao._auto_1):wpAny M A (storeName X.env x u) Q E s:=by
 obtain ⟨m,hn,hl⟩:=id I.loc
 have hcls:(X.env.scope.kind == .class||(X.env.scope.kind == .module&&X.env.locals != X.env.globals))=false:=by rw [I.ok.kind]; rfl
 have hiσ:i < σ.length:=by rw [I.len]; exact (List.getElem?_eq_some_iff.mp hi).1
 have cne:=I.cne
 have tracked:∀ {a:Addr} {h':Heap},(∃ o,s.heap.get? a=some o/\H a=none)->Heap.SameBut a s.heap h'->HOk X.prog X.w H h':=fun {a h'} ha hs b ob e=>by
  obtain ⟨_,_,hfree⟩:=ha
  refine (I.hok b ob e).stay (fun c w' hc q=>(hs.2 c ?_).trans q) (fun _ q=>q) fun _ _ q=>q
  rintro rfl
  rcases hc with rfl | hc
  ·rw [hfree] at e; cases e
  ·rw [hfree] at hc; cases hc
 rcases hx with hk | hk
 ·refine wpAny_storeName_local hk hn (fun h' hn' hs=>?_) hcls
  obtain ⟨oL,_,_,hoL,_⟩:=id hn
  refine h _ ⟨I.ok,I.os,I.bare,⟨fun b o e n hb hx=>?_,fun b o e n hb hx=>?_,I.base.free,fun b o e hx=>?_,I.base.tups,I.base.frzs,I.base.tbls⟩,⟨_,hn',fun j y v' e1 e2 e3=>?_⟩,fun y c e=>?_,I.free,I.freeC,fun p hp=>?_,tracked ⟨oL,hoL,I.free⟩ hs,by simpa using I.len⟩ ⟨_,hs,.inl rfl⟩
  ·exact (hs.2 b (Nat.ne_of_lt (Nat.lt_of_lt_of_le (Heap.lt_size e) I.ok.above))).trans (I.base.keep b o e n hb hx)
  ·obtain ⟨sl,e1⟩:=I.base.slot b o e n hb hx
   exact ⟨sl,(hs.2 b (Nat.ne_of_lt (Nat.lt_of_lt_of_le (Heap.lt_size e) I.ok.above))).trans e1⟩
  ·obtain ⟨o',e1⟩:=I.base.there b o e hx
   exact ⟨o',(hs.2 b (Nat.ne_of_lt (Nat.lt_of_lt_of_le (Heap.lt_size e) I.ok.above))).trans e1⟩
  ·by_cases hj:j=i
   ·subst hj
    rw [hi] at e1; cases e1
    rw [List.getElem?_set_self hiσ] at e2
    cases e2
    exact ⟨u,r,.inl ⟨hk,by simp⟩⟩
   ·rw [List.getElem?_set_ne (Ne.symm hj)] at e2
    obtain ⟨u',r',q⟩:=hl j y v' e1 e2 e3
    refine ⟨u',r',?_⟩
    rcases q with ⟨k,e⟩ | ⟨k,c,e,z⟩
    ·refine .inl ⟨k,?_⟩
     have:y≠x:=fun e=>hj (nodup_ix hN e1 (e ▸ hi))
     simp [this,e]
    ·exact .inr ⟨k,c,e,z.sameBut hs (cne y c e)⟩
  ·obtain ⟨w',z⟩:=I.cell y c e
   exact ⟨w',z.sameBut hs (cne y c e)⟩
  ·obtain ⟨e,n,ne,nf,d⟩:=I.pin p hp
   exact ⟨(hs.2 p.1 ne).trans e,n,ne,nf,d⟩
 ·have hfn:X.fn x=true:=by
   rcases hf with z | z
   ·exact z
   ·rw [z] at hk; cases hk
  obtain ⟨c,hc⟩:=I.ok.has x (.inl hk)
  obtain ⟨w',z⟩:=I.cell x c hc
  refine wpAny_storeName_cell I.ok.kind hk hc z (fun h' hc' hs=>?_)
  obtain ⟨oc,hoc,hocd⟩:=id z
  refine h { s with heap:=h' } ⟨I.ok,I.os,I.bare,⟨fun b o e n hb hx=>?_,fun b o e n hb hx=>?_,I.base.free,fun b o e hx=>?_,I.base.tups,I.base.frzs,I.base.tbls⟩,⟨m,hn.sameBut hs (Ne.symm (cne x c hc)),fun j y v' e1 e2 e3=>?_⟩,fun y c' e=>?_,I.free,I.freeC,fun p hp=>?_,tracked ⟨oc,hoc,I.freeC x c hc⟩ hs,by simpa using I.len⟩ ⟨c,hs,.inr hc⟩
  ·exact (hs.2 b (Nat.ne_of_lt (Nat.lt_of_lt_of_le (Heap.lt_size e) (I.ok.cab x c hfn hc)))).trans (I.base.keep b o e n hb hx)
  ·obtain ⟨sl,e1⟩:=I.base.slot b o e n hb hx
   exact ⟨sl,(hs.2 b (Nat.ne_of_lt (Nat.lt_of_lt_of_le (Heap.lt_size e) (I.ok.cab x c hfn hc)))).trans e1⟩
  ·obtain ⟨o',e1⟩:=I.base.there b o e hx
   exact ⟨o',(hs.2 b (Nat.ne_of_lt (Nat.lt_of_lt_of_le (Heap.lt_size e) (I.ok.cab x c hfn hc)))).trans e1⟩
  ·by_cases hj:j=i
   ·subst hj
    rw [hi] at e1; cases e1
    rw [List.getElem?_set_self hiσ] at e2
    cases e2
    exact ⟨u,r,.inr ⟨.inl hk,c,hc,hc'⟩⟩
   ·rw [List.getElem?_set_ne (Ne.symm hj)] at e2
    obtain ⟨u',r',q⟩:=hl j y v' e1 e2 e3
    refine ⟨u',r',?_⟩
    rcases q with q | ⟨k,c',e,z'⟩
    ·exact .inl q
    ·refine .inr ⟨k,c',e,z'.sameBut hs ?_⟩
     rintro rfl
     exact hj (nodup_ix hN e1 (I.ok.inj _ _ _ e hc ▸ hi))
  ·by_cases hcc:c'=c
   ·subst hcc; exact ⟨_,hc'⟩
   ·obtain ⟨w2,z2⟩:=I.cell y c' e
    exact ⟨w2,z2.sameBut hs hcc⟩
  ·obtain ⟨e,n,ne,nf,d⟩:=I.pin p hp
   refine ⟨(hs.2 p.1 ?_).trans e,n,ne,nf,d⟩
   intro q
   rw [q,hoc] at e
   have q':oc=p.2:=Option.some.inj e
   exact d w' (by rw [← q']; exact hocd)
theorem store_ok {M:Model} {A:Around} {E:Value->Shared->Prop} {i:Nat} {x:Str} {v:V} {u:Value} {Q:Unit->Shared->Prop} (I:Inv X pins σ H s) (hN:X.N.Nodup) (hi:X.N[i]?=some x) (hx:Loc X.env.scope x) (r:RelV v u)
  (h:∀ s',Inv X pins (σ.set i (some v)) H s'->Q () s') (hf:autoParam (X.fn x=true\/X.env.scope.names.lookup x=some .local) Ao._auto_1):wpAny M A (storeName X.env x u) Q E s :=
 store_ok2 I hN hi hx r (fun s' I' _=>h s' I') hf
end
noncomputable abbrev XK:=Value->Option Addr->Hp->Prop
noncomputable abbrev St:=List (Option V)
noncomputable abbrev VK:=V->Hp->Prop
noncomputable abbrev TE:=St->Hp->VK->Prop
noncomputable abbrev TT:=St->Hp->(Bool->Hp->Prop)->Prop
noncomputable abbrev TA:=St->Hp->(List V->Hp->Prop)->Prop
structure Ends where
 nx:St->Hp->Prop
 rt:VK
 bk:St->Hp->Prop:=fun _ _=>False
 ct:St->Hp->Prop:=fun _ _=>False
noncomputable abbrev TS:=Ends->St->Hp->Prop
noncomputable def EP (X:Cx) (pins:List (Addr×Obj)) (σ:St) (Q:VK) (u:Value) (s':Shared):Prop:=∃ v H',Inv X pins σ H' s'/\RelV v u/\Q v H'
noncomputable def TP (X:Cx) (pins:List (Addr×Obj)) (σ:St) (Q:Bool->Hp->Prop) (b:Bool) (s':Shared):Prop:=∃ H',Inv X pins σ H' s'/\Q b H'
noncomputable def SP (X:Cx) (pins:List (Addr×Obj)) (D:Ends) (f:Flow) (s':Shared):Prop :=
 match f with
 | .next=>∃ σ' H',Inv X pins σ' H' s'/\D.nx σ' H'
 | .brk=>∃ σ' H',Inv X pins σ' H' s'/\D.bk σ' H'
 | .cont=>∃ σ' H',Inv X pins σ' H' s'/\D.ct σ' H'
 | .ret u=>∃ v σ' H',Inv X pins σ' H' s'/\RelV v u/\D.rt v H'
noncomputable def PE (X:Cx) (e:Expr) (t:TE):Prop :=
 ∀ (pins:List (Addr×Obj)) (s:Shared) (σ:St) (H:Hp) (Q:VK),Inv X pins σ H s->t σ H Q->wpAny (model X.prog X.w) X.A (eval e X.env) (EP X pins σ Q) X.xe s
noncomputable def PSs (X:Cx) (st:List Stmt) (t:TS):Prop :=
 ∀ (pins:List (Addr×Obj)) (s:Shared) (σ:St) (H:Hp) (D:Ends),Inv X pins σ H s->t D σ H->wpAny (model X.prog X.w) X.A (execs st X.env) (SP X pins D) X.xe s
theorem thn {α:Type} {t:Sem α} {Q Q':α->Shared->Prop} {M:Model} {A:Around} {E:Value->Shared->Prop} {s:Shared} (h:wpAny M A t Q E s) (hQ:∀ a s,Q a s->Q' a s):wpAny M A t Q' E s:=wpAny_mono h hQ fun _ _ x=>x
section
variable {X:Cx}
noncomputable def tVar (i:Nat):TE:=fun σ H Q=>∃ v,σ[i]?=some (some v)/\Q v H
noncomputable def tC (v:V):TE:=fun _ H Q=>Q v H
theorem pe_var {i:Nat} {x:Str} {pos:Pos} (hN:X.N[i]?=some x) (hv:Vis X.env.scope x) (hd:autoParam ((x == ("__debug__" : Str))=false) Ad._auto_1) (hcd:autoParam ((x == ("__classdict__" : Str))=false) Ad._auto_1):PE X (.Name x pos) (tVar i):=by
 intro pins s σ H Q I h
 obtain ⟨v,e,h⟩:=h
 obtain ⟨m,hn,hl⟩:=I.loc
 obtain ⟨u,r,l⟩:=hl i x v hN e hv
 have fin:EP X pins σ Q u s:=⟨v,H,I,r,h⟩
 rcases l with ⟨hk,hm⟩ | ⟨hk,c,hc,hcell⟩
 ·exact wpAny_Name (wpAny_loadName_local I.ok.kind hk hn hm fin) hd
 ·rcases hk with hk | hk
  ·exact wpAny_Name (wpAny_loadName_cell I.ok.kind hk hc hcell fin) hd
  ·exact wpAny_Name (wpAny_loadName_free I.ok.kind hk hc hcell fin hcd) hd
theorem pe_int {i j pos}:PE X (.Constant (.int i) j pos) (tC (.int i)):=fun _ _ _ H _ I h=>wpAny_Constant_int ⟨.int i,H,I.tok _,⟨_,rfl⟩,h⟩
theorem pe_bl {b j pos}:PE X (.Constant (.bool b) j pos) (tC (.bl b)):=fun _ _ _ H _ I h=>Constant_bool ⟨.bl b,H,I,rfl,h⟩
noncomputable def Gl (X:Cx) (x:Str):Prop:=X.env.kindOf x=some .globalImplicit
theorem ld_glob {E:Value->Shared->Prop} {pins:List (Addr×Obj)} {s:Shared} {σ:St} {H:Hp} {x:Str} {u:Value} {pos:Pos} {Q:Value->Shared->Prop} (I:Inv X pins σ H s) (hg:Gl X x) (hm:X.mg x=some u) (h:Q u s)
  (hd:autoParam ((x == ("__debug__" : Str))=false) Ad._auto_1):wpAny (model X.prog X.w) X.A (eval (.Name x pos) X.env) Q E s :=
 Calls.Name_function_global I.ok.kind hg (Calls.loadGlobal_global (by rw [I.ok.glob]; exact I.mod.glob.keeps I.bk) hm h) hd
theorem ld_blt {E:Value->Shared->Prop} {pins:List (Addr×Obj)} {s:Shared} {σ:St} {H:Hp} {x:Str} {u:Value} {pos:Pos} {Q:Value->Shared->Prop} (I:Inv X pins σ H s) (hg:Gl X x) (hm:X.mg x=none) (hv:bootBuiltins x=some u) (h:Q u s)
  (hn:autoParam (x≠"__name__") Ad._auto_1) (hd:autoParam ((x == ("__debug__" : Str))=false) Ad._auto_1):wpAny (model X.prog X.w) X.A (eval (.Name x pos) X.env) Q E s:=by
 obtain ⟨mb,h1,h2⟩:=I.mod.blt
 exact Calls.Name_function_global I.ok.kind hg (Calls.loadGlobal_builtin (by rw [I.ok.glob]; exact I.mod.glob.keeps I.bk) hm (by rw [I.ok.blt]; exact h1.keeps I.bk) ((h2 x hn).trans hv) h) hd
variable {a b:Expr} {ta tb:TE} {pos:Pos}
noncomputable def tB (t:TE):TT:=fun σ H Q=>t σ H fun x H1=>∃ c,x=.bl c/\Q c H1
variable {tA tB':TT} {rest:List Expr}
end
noncomputable def SqL (K:PySem.W.Frag) (H:Hp) (a:Addr) (xs:List V):Prop :=
 Rd H a (.lst xs) \/
  ∃ (o:Obj) (its:Array Value) (n:Nat),K.lookup a=some o/\o.cls=.type "list"/\o.dict=none/\o.data=.seq its n/\its.size<=sizeLine/\Vals xs its.toList
noncomputable def SqT (K:PySem.W.Frag) (H:Hp) (a:Addr) (xs:List V):Prop :=
 Rd H a (.tup xs) \/
  ∃ (o:Obj) (its:Array Value) (n:Nat),K.lookup a=some o/\o.cls=.type "tuple"/\o.data=.seq its n/\its.size<=sizeLine/\Vals xs its.toList
noncomputable def absV:Value->Option V
 | .none=>some .non
 | .bool b=>some (.bl b)
 | .int i _=>some (.int i)
 | .str x _=>some (.str x)
 | .bytes b _=>some (.byt b)
 | .float b _=>some (.flt b)
 | .ref a=>some (.ref a)
 | .type n=>some (.ty n)
 | _=>none
theorem RelV.abs {x:V} {u:Value} (r:RelV x u):absV u=some x:=by
 cases x with
 | non=>cases r; rfl
 | bl _=>cases r; rfl
 | int _=>obtain ⟨t,rfl⟩:=r; rfl
 | str _=>obtain ⟨t,rfl⟩:=r; rfl
 | byt _=>obtain ⟨t,rfl⟩:=r; rfl
 | flt _=>obtain ⟨t,rfl⟩:=r; rfl
 | ref _=>cases r; rfl
 | ty _=>cases r; rfl
theorem RelV.inj {x y:V} {u:Value} (r:RelV x u) (q:RelV y u):x=y:=Option.some.inj (r.abs.symm.trans q.abs)
theorem Vals.inj:∀ {xs ys:List V} {us:List Value},Vals xs us->Vals ys us->xs=ys:=by
 intro xs ys us h
 induction h generalizing ys with
 | nil=>intro k; cases k; rfl
 | cons r t ih =>
  intro k
  cases k with
  | cons r' t'=>rw [r.inj r',ih t']
section
variable {X:Cx} {pins:List (Addr×Obj)} {σ:St} {H:Hp} {s:Shared} {a:Addr} {xs ys:List V}
theorem SqL.of {K:PySem.W.Frag} (h:H a=some (.lst xs)):SqL K H a xs:=.inl (.inl h)
theorem SqT.of {K:PySem.W.Frag} (h:H a=some (.tup xs)):SqT K H a xs:=.inl (.inl h)
theorem Inv.list (I:Inv X pins σ H s) (h:SqL X.K H a xs):∃ its:List Value,Vals xs its/\PlainL s.heap a its.toArray/\xs.length<=sizeLine:=by
 rcases h with h | ⟨o,its,n,hk,hc,hd,hs,hz,r⟩
 ·obtain ⟨z,its,n,r,e⟩:=h.ok I.hok
  exact ⟨its,r,⟨_,n,e,rfl,rfl,rfl⟩,z⟩
 ·refine ⟨its.toList,r,⟨o,n,I.kIn a o hk,hc,hd,by simpa using hs⟩,?_⟩
  have e:=r.length
  simp only [Array.length_toList] at e
  lia
theorem Inv.tuple (I:Inv X pins σ H s) (h:SqT X.K H a xs):∃ its:List Value,Vals xs its/\IsTup s.heap a its.toArray/\xs.length<=sizeLine:=by
 rcases h with h | ⟨o,its,n,hk,hc,hs,hz,r⟩
 ·obtain ⟨z,its,r,p⟩:=h.ok I.hok
  exact ⟨its,r,p,z⟩
 ·refine ⟨its.toList,r,⟨o,I.kIn a o hk,hc,n,by simpa using hs⟩,?_⟩
  have e:=r.length
  simp only [Array.length_toList] at e
  lia
theorem Inv.list_inj (I:Inv X pins σ H s) (h:SqL X.K H a xs) (h':SqL X.K H a ys):xs=ys:=by
 obtain ⟨its,r,⟨o,n,e,_,_,d⟩,_⟩:=I.list h
 obtain ⟨its',r',⟨o',n',e',_,_,d'⟩,_⟩:=I.list h'
 rw [e] at e'; cases e'
 rw [d] at d'
 injection d' with d1 _
 have:its=its':=by simpa using congrArg Array.toList d1
 subst this
 exact r.inj r'
theorem Inv.tuple_inj (I:Inv X pins σ H s) (h:SqT X.K H a xs) (h':SqT X.K H a ys):xs=ys:=by
 obtain ⟨its,r,⟨o,e,_,n,d⟩,_⟩:=I.tuple h
 obtain ⟨its',r',⟨o',e',_,n',d'⟩,_⟩:=I.tuple h'
 rw [e] at e'; cases e'
 rw [d] at d'
 injection d' with d1 _
 have:its=its':=by simpa using congrArg Array.toList d1
 subst this
 exact r.inj r'
end
noncomputable abbrev Cx.wish (X:Cx) (E:Value->Shared->Prop):Cx:={ X with xe:=E }
noncomputable abbrev Cx.nox (X:Cx):Cx:=X.wish fun _ _=>False
theorem Cx.Ok.wish {X:Cx} (ok:X.Ok) (E:Value->Shared->Prop):(X.wish E).Ok :=
 ⟨ok.mod,ok.kind,ok.glob,ok.blt,ok.above,ok.inj,ok.has,ok.cab,ok.hd,ok.frames,ok.stk,ok.exf,ok.bs,ok.bsz,ok.noex,ok.exfs,ok.funs,ok.frf⟩
theorem Cx.Ok.unwish {X:Cx} {E:Value->Shared->Prop} (ok:(X.wish E).Ok):X.Ok :=
 ⟨ok.mod,ok.kind,ok.glob,ok.blt,ok.above,ok.inj,ok.has,ok.cab,ok.hd,ok.frames,ok.stk,ok.exf,ok.bs,ok.bsz,ok.noex,ok.exfs,ok.funs,ok.frf⟩
section
variable {X:Cx} {pins:List (Addr×Obj)} {σ:St} {H:Hp} {s:Shared} {E:Value->Shared->Prop}
theorem Inv.wish (I:Inv X pins σ H s) (E:Value->Shared->Prop):Inv (X.wish E) pins σ H s:=⟨I.ok.wish E,I.os,I.bare,I.base,I.loc,I.cell,I.free,I.freeC,I.pin,I.hok,I.len⟩
theorem Inv.unwish (I:Inv (X.wish E) pins σ H s):Inv X pins σ H s:=⟨I.ok.unwish,I.os,I.bare,I.base,I.loc,I.cell,I.free,I.freeC,I.pin,I.hok,I.len⟩
theorem SP.unwish {D:Ends} {f:Flow} {s':Shared} (h:SP (X.wish E) pins D f s'):SP X pins D f s':=by
 cases f with
 | next=>obtain ⟨σ',H',I,q⟩:=h; exact ⟨σ',H',I.unwish,q⟩
 | brk=>obtain ⟨σ',H',I,q⟩:=h; exact ⟨σ',H',I.unwish,q⟩
 | cont=>obtain ⟨σ',H',I,q⟩:=h; exact ⟨σ',H',I.unwish,q⟩
 | ret u=>obtain ⟨v,σ',H',I,r,q⟩:=h; exact ⟨v,σ',H',I.unwish,r,q⟩
theorem PSs.nox {st:List Stmt} {t:TS} (h:PSs X.nox st t):PSs X st t:=fun pins s σ H D I hw =>
 wpAny_mono (h pins s σ H D (I.wish _) hw) (fun _ _ q=>q.unwish) fun _ _ z=>False.elim z
end
section
variable {X:Cx} {st:Stmt} {rest:List Stmt} {t u:TS} {e:Expr} {te:TE} {pos:Pos}
theorem Inv.quiet {pins:List (Addr×Obj)} {σ:St} {H:Hp} {s:Shared} (I:Inv X pins σ H s):interactive X.env=false:=by simp [interactive,I.ok.kind]
end
noncomputable abbrev TSet:=V->V->V->Hp->(Hp->Prop)->Prop
noncomputable def PSet (X:Cx) (t:TSet):Prop :=
 ∀ (pins:List (Addr×Obj)) (s:Shared) (σ:St) (H:Hp) (o i v:V) (ov iv u:Value) (Q:Hp->Prop),Inv X pins σ H s->RelV o ov->RelV i iv->RelV v u->t o i v H Q ->
  wpAny (model X.prog X.w) X.A (setItem ov iv u) (fun _ s'=>∃ H',Inv X pins σ H' s'/\Q H') X.xe s
structure It where
 go:Nat->Hp->Prop
 yld:Nat->Hp->V->Hp->Prop
 stop:Nat->Hp->Prop
noncomputable def FpOk (X:Cx) (pins:List (Addr×Obj)) (H:Hp) (b:Addr):Prop :=
 H b=none/\b≠X.env.locals/\b∉X.fs/\(b∈X.ex\/X.s₀.heap.objs.size<=b)/\(∀ x c,X.env.cells.lookup x=some c->c≠b)/\∀ p∈X.pn++pins,p.1≠b
theorem Inv.fpOk {X:Cx} {pins:List (Addr×Obj)} {σ:St} {H H':Hp} {s:Shared} {b:Addr} (I:Inv X pins σ H s) (hb:s.heap.objs.size<=b) (hn:H' b=none):FpOk X pins H' b:=by
 refine ⟨hn,Nat.ne_of_gt (Nat.lt_of_lt_of_le I.lt hb),I.nofs hb,.inr (Nat.le_trans I.sz hb),fun x c e z=>?_,fun p hp z=>?_⟩
 ·obtain ⟨v,q⟩:=I.cell x c e
  exact absurd (Nat.lt_of_lt_of_le q.lt (by rw [z]; exact hb)) (Nat.lt_irrefl _)
 ·exact absurd (Nat.lt_of_lt_of_le (Heap.lt_size (I.pin p hp).1) (by rw [z]; exact hb)) (Nat.lt_irrefl _)
structure Turn (P:Program) (w:World) (K:PySem.W.Frag) (tg:Expr) (J:It) (fp:List Addr) (it:Addr) (tn:Nat->Heap->Prop):Prop where
 mem:it∈fp
 obj:∀ i h,tn i h->∀ b∈fp,∃ o,h.get? b=some o/\∀ v,o.data≠.cell v
 keep:∀ i h h',tn i h->(∀ b∈fp,∀ o,h.get? b=some o->h'.get? b=some o)->tn i h'
 item:∀ (X:Cx),X.prog=P->X.w=w->X.K=K->X.calm=true->∀ (i:Nat) (pins:List (Addr×Obj)) (s:Shared) (σ:St) (H:Hp) (E:Value->Shared->Prop),Inv X pins σ H s->(∀ b∈fp,FpOk X pins H b)->tn i s.heap->J.go i H ->
  wpAny (model P w) X.A (pyNext (.ref it)) (fun r s1=>∃ u,r=some u /\
   wpAny (model P w) X.A (letOwnedTupleGo tg (.ref it) u) (fun _ s2=>∃ x H',Inv X pins σ H' s2/\RelV x u/\J.yld i H x H'/\tn (i+1) s2.heap/\∀ b∈fp,H' b=none) E s1) E s
 done:∀ (X:Cx),X.prog=P->X.w=w->X.K=K->X.calm=true->∀ (i:Nat) (pins:List (Addr×Obj)) (s:Shared) (σ:St) (H:Hp) (E:Value->Shared->Prop),Inv X pins σ H s->(∀ b∈fp,FpOk X pins H b)->tn i s.heap->J.stop i H ->
  wpAny (model P w) X.A (pyNext (.ref it)) (fun r s1=>r=none/\Inv X pins σ H s1) E s
 self:∀ (A:Around) (i:Nat) (s:Shared) (Q:Value->Shared->Prop) (E:Value->Shared->Prop),tn i s.heap->Q (.ref it) s->wpAny (model P w) A (pyIter (.ref it)) Q E s
noncomputable abbrev TI:=St->Hp->(It->Hp->Prop)->Prop
noncomputable def PIE (X:Cx) (pins:List (Addr×Obj)) (σ:St) (tg:Expr) (R:It->Hp->Prop) (itv:Value) (s2:Shared):Prop :=
 ∃ (it:Addr) (fp:List Addr) (tn:Nat->Heap->Prop) (J:It) (H':Hp),itv=.ref it/\Inv X pins σ H' s2/\Turn X.prog X.w X.K tg J fp it tn/\tn 0 s2.heap/\(∀ b∈fp,FpOk X pins H' b)/\R J H'
theorem go_of {M:Model} {A:Around} {E:Value->Shared->Prop} {s:Shared} {tg:Expr} {it:Addr} {u:Value} {o:Obj} {n:String} {vs:Array Value} {Q:Unit->Shared->Prop} (ho:s.heap.get? it=some o) (hc:o.cls=.type n) (hd:o.data=.fields vs)
    (hn:["enumerate","zip","dict_itemiterator","dict_reverseitemiterator","odict_iterator","itertools.zip_longest","itertools.pairwise"].contains n=false) (hQ:Q () s):wpAny M A (letOwnedTupleGo tg (.ref it) u) Q E s:=by
  unfold letOwnedTupleGo
  cases tg <;> first
    | exact wpAny_pure hQ
    | (cases u <;> first
        | exact wpAny_pure hQ
        | (refine wpAny_bind (wpAny_load ho ?_)
           rw [hc,hd]
           show wpAny M A (if (["enumerate","zip","dict_itemiterator","dict_reverseitemiterator","odict_iterator","itertools.zip_longest","itertools.pairwise"].contains n&&vs[0]? == some (rawInt _))=true then _ else _) Q E s
           rw [if_neg (by intro h; rw [hn,Bool.false_and] at h; cases h)]
           exact wpAny_pure hQ))
noncomputable def Itl (K:PySem.W.Frag) (a:Addr):It :=
 ⟨fun i H=>∃ xs x,SqL K H a xs/\xs[i]?=some x,fun i H x H'=>H'=H/\∀ xs,SqL K H a xs->xs[i]?=some x,fun i H=>∃ xs,SqL K H a xs/\xs.length<=i⟩
noncomputable def Itt (K:PySem.W.Frag) (a:Addr):It :=
 ⟨fun i H=>∃ xs x,SqT K H a xs/\xs[i]?=some x,fun i H x H'=>H'=H/\∀ xs,SqT K H a xs->xs[i]?=some x,fun i H=>∃ xs,SqT K H a xs/\xs.length<=i⟩
noncomputable def Itr (lo:Int) (n:Nat):It:=⟨fun i _=>i < n,fun i H x H'=>H'=H/\x=.int (lo+i),fun i _=>n<=i⟩
theorem turn_list {P:Program} {w:World} {K:PySem.W.Frag} {tg:Expr} (a it:Addr):Turn P w K tg (Itl K a) [it] it (fun i h=>h.IsListIter it a i) where
 mem:=by simp
 obj:=fun i h st b hb=>by
  have e:b=it:=by simpa using hb
  subst e
  obtain ⟨o,e,c,d⟩:=st
  exact ⟨o,e,fun v z=>by rw [d] at z; cases z⟩
 keep:=fun i h h' st k=>st.at fun o e=>k it (by simp) o e
 item:=by
  intro X hP hw hK hc i pins s σ H E I hf st hg
  subst hP hw hK
  obtain ⟨xs,x,hq,hx⟩:=hg
  obtain ⟨its,rv,p,hz⟩:=I.list hq
  obtain ⟨u,hu,ru⟩:=rv.get hx
  obtain ⟨f0,f1,f2,f3,f4,f5⟩:=hf it (by simp)
  refine wpAny_pyNext_list_item st p.isList (x:=u) (by simpa using hu) fun h' st' sb=>?_
  have I1:Inv X pins σ H { s with heap:=h' }:=I.turned (t':=s.toks) (fun b o hb e=>(sb.2 b hb).trans e) f0 f1 f3 f4 f5
  obtain ⟨o,e,c,d⟩:=id st'
  exact ⟨u,rfl,go_of (s:={ s with heap:=h' }) e c d (by decide) ⟨x,H,I1,ru,⟨rfl,fun ys hy=>by rw [I.list_inj hy hq]; exact hx⟩,st',fun b hb=>(hf b hb).1⟩⟩
 done:=by
  intro X hP hw hK hc i pins s σ H E I hf st hg
  subst hP hw hK
  obtain ⟨xs,hq,hx⟩:=hg
  obtain ⟨its,rv,p,hz⟩:=I.list hq
  obtain ⟨f0,f1,f2,f3,f4,f5⟩:=hf it (by simp)
  have hl:=rv.length
  exact wpAny_pyNext_list_end (I.ok.hd hc) st p.isList (by simp; lia) fun h' eb=>⟨rfl,I.turned (t':=s.toks) (fun b o hb e=>eb b o hb e) f0 f1 f3 f4 f5⟩
 self:=fun _ _ _ _ _ st h=>wpAny_pyIter_listiter st h
theorem turn_tuple {P:Program} {w:World} {K:PySem.W.Frag} {tg:Expr} (a it:Addr):Turn P w K tg (Itt K a) [it] it (fun i h=>h.IsTupleIter it a i) where
 mem:=by simp
 obj:=fun i h st b hb=>by
  have e:b=it:=by simpa using hb
  subst e
  obtain ⟨o,e,c,d⟩:=st
  exact ⟨o,e,fun v z=>by rw [d] at z; cases z⟩
 keep:=fun i h h' st k=>st.at fun o e=>k it (by simp) o e
 item:=by
  intro X hP hw hK hc i pins s σ H E I hf st hg
  subst hP hw hK
  obtain ⟨xs,x,hq,hx⟩:=hg
  obtain ⟨its,rv,p,hz⟩:=I.tuple hq
  obtain ⟨u,hu,ru⟩:=rv.get hx
  obtain ⟨f0,f1,f2,f3,f4,f5⟩:=hf it (by simp)
  refine wpAny_pyNext_tuple_item st (show s.heap.IsTuple a its.toArray from p) (x:=u) (by simpa using hu) fun h' st' sb=>?_
  have I1:Inv X pins σ H { s with heap:=h' }:=I.turned (t':=s.toks) (fun b o hb e=>(sb.2 b hb).trans e) f0 f1 f3 f4 f5
  obtain ⟨o,e,c,d⟩:=id st'
  exact ⟨u,rfl,go_of (s:={ s with heap:=h' }) e c d (by decide) ⟨x,H,I1,ru,⟨rfl,fun ys hy=>by rw [I.tuple_inj hy hq]; exact hx⟩,st',fun b hb=>(hf b hb).1⟩⟩
 done:=by
  intro X hP hw hK hc i pins s σ H E I hf st hg
  subst hP hw hK
  obtain ⟨xs,hq,hx⟩:=hg
  obtain ⟨its,rv,p,hz⟩:=I.tuple hq
  obtain ⟨f0,f1,f2,f3,f4,f5⟩:=hf it (by simp)
  have hl:=rv.length
  exact wpAny_pyNext_tuple_end (I.ok.hd hc) st (show s.heap.IsTuple a its.toArray from p) (by simp; lia) fun h' eb=>⟨rfl,I.turned (t':=s.toks) (fun b o hb e=>eb b o hb e) f0 f1 f3 f4 f5⟩
 self:=fun _ _ _ _ _ st h=>wpAny_pyIter_tupleiter st h
theorem turn_range {P:Program} {w:World} {K:PySem.W.Frag} {tg:Expr} (it:Addr) (lo:Int) (n:Nat):Turn P w K tg (Itr lo n) [it] it (fun i h=>IsRangeIter h it (lo+(i:Nat) * 1) ((n:Int) - (i:Nat)) 1) where
 mem:=by simp
 obj:=fun i h st b hb=>by
  have e:b=it:=by simpa using hb
  subst e
  exact ⟨_,st,fun v z=>by
   have z':Data.fields _=Data.cell v:=z
   cases z'⟩
 keep:=fun i h h' st k=>k it (by simp) _ st
 item:=by
  intro X hP hw hK hc i pins s σ H E I hf st hg
  subst hP hw hK
  obtain ⟨f0,f1,f2,f3,f4,f5⟩:=hf it (by simp)
  have W:=Walks.range (prog:=X.prog) (w:=X.w) (I.ok.hd hc) it lo 1 n
  refine W.item i s _ _ hg st fun v h' tk hv st' kk=>?_
  obtain ⟨t,rfl⟩:=hv
  have I1:Inv X pins σ H { s with heap:=h',toks:=tk }:=I.turned (fun b o hb e=>kk b o (by simpa using hb) e) f0 f1 f3 f4 f5
  refine ⟨_,rfl,go_of (s:={ s with heap:=h',toks:=tk }) (n:="range_iterator") st' rfl rfl (by decide) ⟨.int (lo+i),H,I1,⟨t,?_⟩,⟨rfl,rfl⟩,st',fun b hb=>(hf b hb).1⟩⟩
  rw [Int.mul_one]
 done:=by
  intro X hP hw hK hc i pins s σ H E I hf st hg
  subst hP hw hK
  obtain ⟨f0,f1,f2,f3,f4,f5⟩:=hf it (by simp)
  exact wpAny_pyNext_range_end (I.ok.hd hc) st (by have:n<=i:=hg; lia) fun h' eb=>⟨rfl,I.turned (t':=s.toks) (fun b o hb e=>eb b o hb e) f0 f1 f3 f4 f5⟩
 self:=fun _ _ _ _ _ st h=>wpAny_pyIter_rangeiter st h
section
variable {X:Cx} {tg:Expr}
theorem range_it {pins:List (Addr×Obj)} {σ:St} {H:Hp} {s:Shared} {R:It->Hp->Prop} {E:Value->Shared->Prop} {lo hi:Int} {t u v:Tok} {tk:Nat} (I:Inv X pins σ H s) (h1:-(2 ^ 62)<=lo) (h2:lo < 2 ^ 62) (h3:-(2 ^ 62)<=hi) (h4:hi < 2 ^ 62)
  (q:R (Itr lo (hi - lo).toNat) H):wpAny (model X.prog X.w) X.A (pyIter (.ref s.heap.objs.size)) (PIE X pins σ tg R) E { s with heap:=s.heap.push { cls:=.type "range",data:=.fields #[.int lo t,.int hi u,.int 1 v] },toks:=tk }:=by
 refine wpAny_pyIter_range (IsRange.new ..) (small_one h1 h2 h3 h4) ?_
 have I1:Inv X pins σ H { s with heap:=s.heap.push { cls:=.type "range",data:=.fields #[.int lo t,.int hi u,.int 1 v] },toks:=tk }:=I.kept fun b o e=>Heap.get?_push_of_some _ e
 refine ⟨(s.heap.push { cls:=.type "range",data:=.fields #[.int lo t,.int hi u,.int 1 v] }).objs.size,[(s.heap.push { cls:=.type "range",data:=.fields #[.int lo t,.int hi u,.int 1 v] }).objs.size],_,_,H,rfl,
  I1.kept (t':=tk) fun b o e=>Heap.get?_push_of_some _ e,turn_range _ lo (hi - lo).toNat,?_,fun b hb=>?_,q⟩
 ·have e1:lo+((0:Nat):Int) * 1=lo:=by simp
  have e2:(((hi - lo).toNat:Nat):Int) - ((0:Nat):Int)=Builtin.Range.rangeSize lo hi 1:=by rw [rangeSize_one]; split <;> lia
  show IsRangeIter _ _ (lo+((0:Nat):Int) * 1) ((((hi - lo).toNat:Nat):Int) - ((0:Nat):Int)) 1
  rw [e1,e2]
  exact Heap.get?_push_size _ rfl
 ·have e:b=(s.heap.push { cls:=.type "range",data:=.fields #[.int lo t,.int hi u,.int 1 v] }).objs.size:=by simpa using hb
  subst e
  exact I1.fpOk (Nat.le_refl _) (I1.hok.fresh (Nat.le_refl _))
noncomputable def pinsAt (fp:List Addr) (h:Heap):List (Addr×Obj):=fp.filterMap fun b=>(h.get? b).map fun o=>(b,o)
theorem mem_pinsAt {fp:List Addr} {h:Heap} {b:Addr} {o:Obj} (hb:b∈fp) (e:h.get? b=some o):(b,o)∈pinsAt fp h:=List.mem_filterMap.mpr ⟨b,hb,by rw [e]; rfl⟩
theorem of_pinsAt {fp:List Addr} {h:Heap} {p:Addr×Obj} (hp:p∈pinsAt fp h):p.1∈fp/\h.get? p.1=some p.2:=by
 obtain ⟨b,hb,e⟩:=List.mem_filterMap.mp hp
 cases q:h.get? b with
 | none=>rw [q] at e; cases e
 | some o =>
  rw [q] at e
  have e':(b,o)=p:=Option.some.inj e
  subst e'
  exact ⟨hb,q⟩
theorem Inv.pinned {pins:List (Addr×Obj)} {σ:St} {H:Hp} {s:Shared} {fp:List Addr} (I:Inv X pins σ H s) (hf:∀ b∈fp,FpOk X pins H b) (ho:∀ b∈fp,∃ o,s.heap.get? b=some o/\∀ v,o.data≠.cell v):Inv X (pins++pinsAt fp s.heap) σ H s :=
 I.pins_of fun p hp=>(List.mem_append.mp hp).elim (fun z=>I.pin p (List.mem_append_right _ z)) fun z=>by
  obtain ⟨hb,e⟩:=of_pinsAt z
  obtain ⟨f0,f1,f2,_⟩:=hf p.1 hb
  obtain ⟨o,e',d⟩:=ho p.1 hb
  rw [e] at e'; cases e'
  exact ⟨e,f0,f1,f2,d⟩
theorem Inv.unpinned {pins pl:List (Addr×Obj)} {σ:St} {H:Hp} {s:Shared} (I:Inv X (pins++pl) σ H s):Inv X pins σ H s:=I.pins_of fun p hp=>I.pin p (List.mem_append_right _ (List.mem_append_left _ hp))
end
noncomputable abbrev R2:=V->V->Hp->VK->Prop
noncomputable def OpR (X:Cx) (f:Value->Value->Sem Value) (r:R2):Prop :=
 ∀ (pins:List (Addr×Obj)) (s:Shared) (σ:St) (H:Hp) (x y:V) (v u:Value) (Q:VK),Inv X pins σ H s->RelV x v->RelV y u->r x y H Q ->
  wpAny (model X.prog X.w) X.A (f v u) (EP X pins σ Q) X.xe s
noncomputable def UnR (X:Cx) (f:Value->Sem Value) (r:V->Hp->VK->Prop):Prop :=
 ∀ (pins:List (Addr×Obj)) (s:Shared) (σ:St) (H:Hp) (x:V) (v:Value) (Q:VK),Inv X pins σ H s->RelV x v->r x H Q ->
  wpAny (model X.prog X.w) X.A (f v) (EP X pins σ Q) X.xe s
noncomputable def CallR (X:Cx) (f:Value) (r:List V->Hp->VK->Prop):Prop :=
 ∀ (pins:List (Addr×Obj)) (s:Shared) (σ:St) (H:Hp) (xs:List V) (us:List Value) (Q:VK),Inv X pins σ H s->Vals xs us->r xs H Q ->
  wpAny (model X.prog X.w) X.A (call f us) (EP X pins σ Q) X.xe s
noncomputable def TruR (X:Cx) (r:V->Hp->(Bool->Hp->Prop)->Prop):Prop :=
 ∀ (pins:List (Addr×Obj)) (s:Shared) (σ:St) (H:Hp) (x:V) (v:Value) (Q:Bool->Hp->Prop),Inv X pins σ H s->RelV x v->r x H Q ->
  wpAny (model X.prog X.w) X.A (truthy v) (TP X pins σ Q) X.xe s
noncomputable def rI (C:Int->Int->Prop) (g:Int->Int->V):R2:=fun x y H Q=>∃ i j,x=.int i/\y=.int j/\C i j/\Q (g i j) H
noncomputable def rI0 (g:Int->Int->V):R2:=fun x y H Q=>∃ i j,x=.int i/\y=.int j/\Q (g i j) H
noncomputable def rU (g:Int->V):V->Hp->VK->Prop:=fun x H Q=>∃ i,x=.int i/\Q (g i) H
section
variable {X:Cx} {a b c:Expr} {ta tb tc:TE} {pos:Pos}
theorem opI {f:Value->Value->Sem Value} {C:Int->Int->Prop} {g:Int->Int->Int}
  (rule:∀ (i j:Int) (t u:Tok) (s:Shared) (Q:Value->Shared->Prop) (E:Value->Shared->Prop),C i j->Q (.int (g i j) s.toks) { s with toks:=s.toks+1 }->wpAny (model X.prog X.w) X.A (f (.int i t) (.int j u)) Q E s) :
  OpR X f (rI C fun i j=>.int (g i j)):=by
 intro pins s σ H x y v u Q I rx ry h
 obtain ⟨i,j,rfl,rfl,hc,q⟩:=h
 obtain ⟨t,rfl⟩:=rx
 obtain ⟨t',rfl⟩:=ry
 exact rule i j t t' s _ _ hc ⟨.int (g i j),H,I.tok _,⟨_,rfl⟩,q⟩
theorem opI0 {f:Value->Value->Sem Value} {g:Int->Int->Int}
  (rule:∀ (i j:Int) (t u:Tok) (s:Shared) (Q:Value->Shared->Prop) (E:Value->Shared->Prop),Q (.int (g i j) s.toks) { s with toks:=s.toks+1 }->wpAny (model X.prog X.w) X.A (f (.int i t) (.int j u)) Q E s) :
  OpR X f (rI0 fun i j=>.int (g i j)):=by
 intro pins s σ H x y v u Q I rx ry h
 obtain ⟨i,j,rfl,rfl,q⟩:=h
 obtain ⟨t,rfl⟩:=rx
 obtain ⟨t',rfl⟩:=ry
 exact rule i j t t' s _ _ ⟨.int (g i j),H,I.tok _,⟨_,rfl⟩,q⟩
theorem opB0 {f:Value->Value->Sem Value} {g:Int->Int->Bool}
  (rule:∀ (i j:Int) (t u:Tok) (s:Shared) (Q:Value->Shared->Prop) (E:Value->Shared->Prop),Q (.bool (g i j)) s->wpAny (model X.prog X.w) X.A (f (.int i t) (.int j u)) Q E s) :
  OpR X f (rI0 fun i j=>.bl (g i j)):=by
 intro pins s σ H x y v u Q I rx ry h
 obtain ⟨i,j,rfl,rfl,q⟩:=h
 obtain ⟨t,rfl⟩:=rx
 obtain ⟨t',rfl⟩:=ry
 exact rule i j t t' s _ _ ⟨.bl (g i j),H,I,rfl,q⟩
noncomputable def CDiv (i j:Int):Prop:=0 < j/\j < 1073741824
noncomputable def CMul (i j:Int):Prop:=(-(2 ^ 64) < i/\i < 2 ^ 64)\/(-(2 ^ 64) < j/\j < 2 ^ 64)
theorem CMul.ok {i j:Int} (h:CMul i j):IntMulOk i j:=by
 rcases h with ⟨h1,h2⟩ | ⟨h1,h2⟩
 ·exact .of_left (intBits_le_64 h1 h2)
 ·exact .of_right (intBits_le_64 h1 h2)
theorem op_add:OpR X (binaryOp .Add) (rI0 fun i j=>.int (i+j)):=opI0 fun _ _ _ _ _ _ _ q=>add_int q
theorem op_sub:OpR X (binaryOp .Sub) (rI0 fun i j=>.int (i - j)):=opI0 fun _ _ _ _ _ _ _ q=>sub_int q
theorem op_mul:OpR X (binaryOp .Mult) (rI CMul fun i j=>.int (i * j)):=opI fun _ _ _ _ _ _ _ hc q=>mul_int q hc.ok
theorem op_fdiv:OpR X (binaryOp .FloorDiv) (rI CDiv fun i j=>.int (i / j)):=opI fun i j _ _ _ _ _ hc q=>by
 have h1:(0:Int) < j:=hc.1
 have h2:j < 1073741824:=hc.2
 exact floordiv_int (by lia) (by rw [Int.fdiv_eq_ediv_of_nonneg i (by lia)]; exact q) (.inl (PyProof.noPylong_small (by lia)))
theorem op_mod:OpR X (binaryOp .Mod) (rI (fun _ j=>0 < j) fun i j=>.int (i % j)):=opI fun i j _ _ _ _ _ hc q=>by
 have h1:(0:Int) < j:=hc
 exact mod_int' (by lia) (by rw [Int.fmod_eq_emod_of_nonneg i (by lia)]; exact q)
theorem unI {f:Value->Sem Value} {g:Int->Int}
  (rule:∀ (i:Int) (t:Tok) (s:Shared) (Q:Value->Shared->Prop) (E:Value->Shared->Prop),Q (.int (g i) s.toks) { s with toks:=s.toks+1 }->wpAny (model X.prog X.w) X.A (f (.int i t)) Q E s) :
  UnR X f (rU fun i=>.int (g i)):=by
 intro pins s σ H x v Q I rx h
 obtain ⟨i,rfl,q⟩:=h
 obtain ⟨t,rfl⟩:=rx
 exact rule i t s _ _ ⟨.int (g i),H,I.tok _,⟨_,rfl⟩,q⟩
theorem un_neg:UnR X (unaryOp .USub) (rU fun i=>.int (-i)):=unI fun _ _ _ _ _ q=>neg_int q
end
section
variable {X:Cx} {a b c:Expr} {ta tb tc:TE} {pos:Pos}
theorem op_lt:OpR X (compareOp .Lt) (rI0 fun i j=>.bl (decide (i < j))):=opB0 fun _ _ _ _ _ _ _ q=>lt_int q
theorem nomark (b:Expr) {op:CmpOp} (h:autoParam (op≠.In) Ad._auto_1) (h2:autoParam (op≠.NotIn) Ad._auto_1):behindInMarks op b=false:=by
 have e1:(op == CmpOp.In)=false:=by cases op <;> first | rfl | exact absurd rfl h
 have e2:(op == CmpOp.NotIn)=false:=by cases op <;> first | rfl | exact absurd rfl h2
 cases b with
 | Set es k _ =>
  show (k == 0&&(op == .In||op == .NotIn)&&es.all (constantsAlone 8))=false
  rw [e1,e2,Bool.or_false,Bool.and_false,Bool.false_and]
 | _=>rfl
noncomputable def TruV (K:PySem.W.Frag) (x:V) (H:Hp) (k:Bool):Prop :=
 match x with
 | .non=>k=false
 | .bl b=>k=b
 | .int i=>k=(i != 0)
 | .str y=>y.length<=sizeLine/\k=((y.length:Int) != 0)
 | .byt y=>y.size<=sizeLine/\k=((y.size:Int) != 0)
 | .ref p=>(∃ xs,SqL K H p xs/\k=!xs.isEmpty)\/(∃ xs,SqT K H p xs/\k=!xs.isEmpty)\/∃ kvs,H p=some (.dK kvs)/\k=!kvs.isEmpty
 | _=>False
theorem isEmpty_kv {κ:Type} {kvs:List (κ×V)} {vs:List (κ×Value)} (r:KV kvs vs):(!vs.isEmpty)=!kvs.isEmpty:=by
 cases r <;> rfl
theorem isEmpty_of {xs:List V} {its:List Value} (r:Vals xs its):(!its.toArray.isEmpty)=!xs.isEmpty:=by
 cases r <;> simp
theorem line63:(sizeLine:Nat) < 2 ^ 63:=by rw [sizeLine_eq]; decide
theorem tru_ok:TruR X (fun x H Q=>∃ k,TruV X.K x H k/\Q k H):=by
 intro pins s σ H x v Q I rx h
 obtain ⟨k,e,q⟩:=h
 have hl:=line63
 have hs:sizeLine=16777216:=sizeLine_eq
 cases x with
 | non =>
  cases rx
  have e':k=false:=e
  subst e'
  exact truthy_none ⟨H,I,q⟩
 | bl b =>
  cases rx
  have e':k=b:=e
  subst e'
  exact wpAny_truthy_bool ⟨H,I,q⟩
 | int i =>
  obtain ⟨t,rfl⟩:=rx
  have e':k=(i != 0):=e
  subst e'
  exact PySem.P.truthy_int ⟨H,I,q⟩
 | str y =>
  obtain ⟨t,rfl⟩:=rx
  obtain ⟨hy,e'⟩:y.length<=sizeLine/\k=((y.length:Int) != 0):=e
  subst e'
  exact PySem.P.truthy_str (by lia) ⟨H,I.tok _,q⟩
 | byt y =>
  obtain ⟨t,rfl⟩:=rx
  obtain ⟨hy,e'⟩:y.size<=sizeLine/\k=((y.size:Int) != 0):=e
  subst e'
  exact PySem.W.truthy_bytes (by lia) ⟨H,I.tok _,q⟩
 | ref p =>
  cases rx
  have e':(∃ xs,SqL X.K H p xs/\k=!xs.isEmpty)\/(∃ xs,SqT X.K H p xs/\k=!xs.isEmpty)\/∃ kvs,H p=some (.dK kvs)/\k=!kvs.isEmpty:=e
  rcases e' with ⟨xs,hx,e'⟩ | ⟨xs,hx,e'⟩ | ⟨kvs,hx,e'⟩
  ·subst e'
   obtain ⟨its,r,pl,hz⟩:=I.list hx
   have hlen:=r.length
   exact wpAny_truthy_list pl.isList (by simp only [List.size_toArray]; lia) ⟨H,I.tok _,by rw [isEmpty_of r]; exact q⟩
  ·subst e'
   obtain ⟨its,r,pl,hz⟩:=I.tuple hx
   have hlen:=r.length
   exact truthy_tuple pl (by simp only [List.size_toArray]; lia) ⟨H,I.tok _,by rw [isEmpty_of r]; exact q⟩
  ·subst e'
   obtain ⟨hz,hS,vs,r,m⟩:kvs.length<=sizeLine/\(p == sysModules)=false/\∃ vs,KV kvs vs/\s.heap.DictOf (mixKind X.prog X.w) p vs:=I.hok p _ hx
   have hlen:kvs.length=vs.length:=Paired.length r
   exact wpAny_truthy_dict hS m (by lia) ⟨H,I.tok _,by rw [isEmpty_kv r]; exact q⟩
 | _=>exact (show False from e).elim
theorem op_add_str:OpR X (binaryOp .Add) (fun x y H Q=>∃ i j,x=.str i/\y=.str j/\i.length+j.length<=sizeLine/\Q (.str (i++j)) H):=by
 intro pins s σ H x y v u Q I rx ry h
 obtain ⟨i,j,rfl,rfl,hz,q⟩:=h
 obtain ⟨t,rfl⟩:=rx
 obtain ⟨t',rfl⟩:=ry
 exact add_str (fun t' tk=>⟨.str (i++j),H,I.tok _,⟨_,rfl⟩,q⟩) hz
theorem vals1 {x:V} {us:List Value} (r:Vals [x] us):∃ u,us=[u]/\RelV x u:=by
 cases r with
 | cons r1 r2=>cases r2; exact ⟨_,rfl,r1⟩
theorem vals2 {x y:V} {us:List Value} (r:Vals [x,y] us):∃ u w',us=[u,w']/\RelV x u/\RelV y w':=by
 cases r with
 | cons r1 r2 =>
  cases r2 with
  | cons r3 r4=>cases r4; exact ⟨_,_,rfl,r1,r3⟩
noncomputable def LenV (K:PySem.W.Frag) (x:V) (H:Hp) (n:Nat):Prop :=
 match x with
 | .str y=>y.length<=sizeLine/\n=y.length
 | .byt y=>y.size<=sizeLine/\n=y.size
 | .ref p=>(∃ xs,SqL K H p xs/\n=xs.length)\/∃ xs,SqT K H p xs/\n=xs.length
 | _=>False
theorem call_len:CallR X (.builtin "len") (fun xs H Q=>∃ x n,xs=[x]/\LenV X.K x H n/\Q (.int n) H):=by
 intro pins s σ H xs us Q I r h
 obtain ⟨x,n,rfl,e,q⟩:=h
 obtain ⟨u,rfl,rx⟩:=vals1 r
 have hl:=line63
 have hs:sizeLine=16777216:=sizeLine_eq
 cases x with
 | str y =>
  obtain ⟨t,rfl⟩:=rx
  obtain ⟨hy,e'⟩:y.length<=sizeLine/\n=y.length:=e
  subst e'
  exact len_str (by lia) ⟨.int _,H,I.tok _,⟨_,rfl⟩,q⟩
 | byt y =>
  obtain ⟨t,rfl⟩:=rx
  obtain ⟨hy,e'⟩:y.size<=sizeLine/\n=y.size:=e
  subst e'
  exact PySem.W.len_bytes (by lia) ⟨.int _,H,I.tok _,⟨_,rfl⟩,q⟩
 | ref p =>
  cases rx
  have e':(∃ xs,SqL X.K H p xs/\n=xs.length)\/∃ xs,SqT X.K H p xs/\n=xs.length:=e
  rcases e' with ⟨xs,hx,e'⟩ | ⟨xs,hx,e'⟩
  ·subst e'
   obtain ⟨its,r',pl,hz⟩:=I.list hx
   have hlen:=r'.length
   exact Calls.call_len_list pl.isList (by simp only [List.size_toArray]; lia) ⟨.int xs.length,H,I.tok _,⟨_,by simp only [List.size_toArray]; rw [hlen]⟩,q⟩
  ·subst e'
   obtain ⟨its,r',pl,hz⟩:=I.tuple hx
   have hlen:=r'.length
   exact len_tuple pl (by simp only [List.size_toArray]; lia) ⟨.int xs.length,H,I.tok _,⟨_,by simp only [List.size_toArray]; rw [hlen]⟩,q⟩
 | _=>exact (show False from e).elim
end
structure ObjM (h:Heap) (x dx C:Addr) (mA:Str->Option Value):Prop where
 obj:h.get? x=some (PySem.W.instObj C dx)
 ns:h.Ns1 dx mA
 ne:dx≠x
theorem RelO.some_of {v:V} {o:Option Value} (r:RelO (some v) o):∃ u,o=some u/\RelV v u:=by
 cases o with
 | none=>exact (show False from r).elim
 | some u=>exact ⟨u,rfl,r⟩
structure Cls (K:PySem.W.Frag) (C:Addr):Prop where
 pg:PySem.W.plainGet K C Str.empty=true
 hd:PySem.W.hasDictIn K C=true
 po:PySem.W.plainOver K C=true
 sa:PySem.W.findIn K (.ref C) "__setattr__" = some (some (.builtin "object.__setattr__"))
structure Con (K:PySem.W.Frag) (C:Addr) (f:Str) (v:V) (u:Value):Prop where
 at_:PySem.W.findIn K (.ref C) f=some (some u)
 rel:RelV v u
 get:PySem.W.specialIn K u "__get__" = some none
 cp:PySem.W.copiedNames.contains f=false
structure Meth (K:PySem.W.Frag) (C:Addr) (m:Str) (f:Addr):Prop where
 at_:PySem.W.findIn K (.ref C) m=some (some (.ref f))
 fn:PySem.W.isFn K (.ref f)=true
 kp:PySem.W.keepIn K (.ref f)=true
section
variable {X:Cx} {pins:List (Addr×Obj)} {σ:St} {H:Hp} {s:Shared} {A:Around} {E:Value->Shared->Prop} {Q:Value->Shared->Prop} {c:Value} {b:Bool}
inductive TyOf (K:PySem.W.Frag) (H:Hp):V->Value->Prop where
 | non:TyOf K H .non (.type "NoneType")
 | bl (x:Bool):TyOf K H (.bl x) (.type "bool")
 | int (i:Int):TyOf K H (.int i) (.type "int")
 | str (x:Str):TyOf K H (.str x) (.type "str")
 | flt (x:UInt64):TyOf K H (.flt x) (.type "float")
 | lst {a:Addr} {xs:List V} (e:H a=some (.lst xs)):TyOf K H (.ref a) (.type "list")
 | frz {a:Addr} {o:Obj} {xs:List V} (e:H a=some (.frz o (.lst xs))):TyOf K H (.ref a) (.type "list")
 | tup {a:Addr} {xs:List V} (e:H a=some (.tup xs)):TyOf K H (.ref a) (.type "tuple")
 | dK {a:Addr} {kvs:List (Key×V)} (e:H a=some (.dK kvs)):TyOf K H (.ref a) (.type "dict")
 | dT {a:Addr} {kvs:List (List Key×V)} (e:H a=some (.dT kvs)):TyOf K H (.ref a) (.type "dict")
 | ins {a C dx:Addr} {fs:List (Str×V)} (e:H a=some (.ins C dx fs)) (cl:Cls K C) (ha:PySem.W.findIn K (.ref C) "__class__" = some (some (.builtin "object.__class__")))
   (hn:PySem.W.specialIn K (.builtin "object.__class__") "__get__" = some (some (.builtin "getset_descriptor.__get__"))) (htk:PySem.W.takesIn K (.builtin "object.__class__")=some true)
   (hm:PySem.W.mroIn K C (.type "object")=some true):TyOf K H (.ref a) (.ref C)
end
structure Room (k:Nat) (A:Around):Prop where
 hd:A.handled=none
 dp:A.depth+3 * k+5 < recursionLimit
 un:A.units+16 * k+200 < cLine
theorem Room.mono {j k:Nat} {A:Around} (r:Room k A) (h:j<=k):Room j A:=⟨r.hd,by have:=r.dp; lia,by have:=r.un; lia⟩
theorem Room.deeper {k:Nat} {A:Around} (r:Room (k+1) A) (env:Env):Room k (A.deeper env) :=
 ⟨r.hd,by have:=r.dp; show A.depth+1+3 * k+5 < _; lia,by have:=r.un; show A.units+3+16 * k+200 < _; lia⟩
theorem Room.depth {k:Nat} {A:Around} (r:Room k A):A.depth < recursionLimit:=by have:=r.dp; lia
theorem Room.units {k:Nat} {A:Around} (r:Room k A):A.units+64 < cLine:=by have:=r.un; lia
theorem Room.units0 {k:Nat} {A:Around} (r:Room k A):A.units < cLine:=by have:=r.un; lia
noncomputable abbrev Sp:=List V->Hp->VK->XK->Prop
noncomputable abbrev CXT:=List Env->Hp->Shared->XK->Value->Shared->Prop
structure Env0 (P:Program) (w:World) (K:PySem.W.Frag) (mg:Str->Option Value) (base:Heap) (A:Around) (outer:List Env) (s:Shared) (H:Hp):Prop where
 frames:A.frames=some outer
 mod:Mod K mg base
 bs:∀ b o,base.get? b=some o->s.heap.get? b=some o/\H b=none
 bsz:base.objs.size<=s.heap.objs.size
 funs:s.heap.FunFrames base outer
 frf:∀ b∈frs outer,H b=none
 hok:HOk P w H s.heap
 bare:AllBare s.gens
noncomputable def CE (outer:List Env) (P:Program) (w:World) (H:Hp) (s:Shared) (Q:VK) (u:Value) (s':Shared):Prop :=
 ∃ v H',s'.os=s.os/\AllBare s'.gens/\Un (frs outer) [] H H' s.heap s'.heap/\HOk P w H' s'.heap/\RelV v u/\Q v H'
noncomputable def CR (CX:CXT) (outer:List Env) (P:Program) (w:World) (H:Hp) (s:Shared) (Q:VK) (E:XK) (r:Result) (s':Shared):Prop :=
 match r with
 | .ok (.ret u)=>CE outer P w H s Q u s'
 | .ok _=>False
 | .error e=>CX outer H s E e s'
structure FnOk (P:Program) (w:World) (K:PySem.W.Frag) (mg:Str->Option Value) (base:Heap) (CX:CXT) (k:Nat) (f:Addr) (fd:FuncData) (ps:List Str) (sp:Sp):Prop where
 len:∀ vs H Q E,sp vs H Q E->vs.length=ps.length
 run:∀ (A:Around) (outer:List Env) (s:Shared) (H:Hp) (args:Args) (us:List Value) (vs:List V) (Q:VK) (E:XK),Room k A->Env0 P w K mg base A outer s H->BindsTo s fd args (ps.zip us)->Vals vs us->sp vs H Q E ->
  codeAny (model P w) A (.call (.ref f) args) (CR CX outer P w H s Q E) s
section
variable {X:Cx} {pins:List (Addr×Obj)} {σ:St} {H:Hp} {s s':Shared}
theorem Inv.env0 (I:Inv X pins σ H s):Env0 X.prog X.w X.K X.mg X.base X.A X.stack s H :=
 ⟨I.ok.frames,I.ok.mod,I.bs,Nat.le_trans I.ok.bsz I.sz,I.stack,I.stkFree,I.hok,I.bare⟩
theorem Inv.after {Q:VK} {u:Value} (I:Inv X pins σ H s) (h:CE X.stack X.prog X.w H s Q u s'):EP X pins σ Q u s':=by
 obtain ⟨v,H',os,bare,un,hok,r,q⟩:=h
 obtain ⟨hh,g,d,t,os'⟩:=s'
 obtain rfl:os'=s.os:=os
 exact ⟨v,H',I.call (h':=hh) (g':=g) (d':=d) (t':=t) (ch:=[]) un hok bare (fun b z=>absurd z (by simp)),r,q⟩
end
noncomputable def Binds (K:PySem.W.Frag) (fd:FuncData) (ps:List Str) (ds:List Value):Prop :=
 ∀ (s:Shared) (us:List Value),K.In s.heap->(us++ds).length=ps.length->BindsTo s fd ⟨us,[]⟩ (ps.zip (us++ds))
theorem Binds.all {K:PySem.W.Frag} {fd:FuncData} {ps:List Str} (h:∀ us:List Value,us.length=ps.length->bindArgs fd ⟨us,[]⟩=pure (ps.zip us)):Binds K fd ps []:=fun s us _ hl=>by
 rw [List.append_nil] at hl ⊢
 exact .of_eq (h us hl)
noncomputable def Passes (CX:CXT) (X:Cx) (E:XK):Prop:=∀ (pins:List (Addr×Obj)) (σ:St) (H:Hp) (s:Shared) (e:Value) (s':Shared),Inv X pins σ H s->CX X.stack H s E e s'->X.xe e s'
section
variable {X:Cx} {CX:CXT} {k:Nat} {f C:Addr} {fd:FuncData} {ps:List Str} {sp:Sp} {dvs:List V} {ds:List Value} {E:XK} {x m:Str} {p pos apos:Pos} {e o:Expr} {es:List Expr} {ta:TE} {t:TA}
theorem run_fn {pins:List (Addr×Obj)} {σ:St} {H:Hp} {s:Shared} {Q:VK} {us:List Value} {vs:List V} (F:FnOk X.prog X.w X.K X.mg X.base CX k f fd ps sp) (hr:Room k X.A) (hb:Binds X.K fd ps ds) (hd:Vals dvs ds) (hx:Passes CX X E)
  (I:Inv X pins σ H s) (r:Vals vs us) (h:sp (vs++dvs) H Q E):wpAny (model X.prog X.w) X.A (call (.ref f) us) (EP X pins σ Q) X.xe s:=by
 have r2:Vals (vs++dvs) (us++ds):=r.append hd
 have hl:(us++ds).length=ps.length:=by rw [← r2.length]; exact F.len _ _ _ _ h
 refine wpAny_call (codeAny_mono (F.run X.A X.stack s H ⟨us,[]⟩ (us++ds) (vs++dvs) Q E hr I.env0 (hb s us I.kIn hl) r2 h) fun r s' hq=>?_)
 cases r with
 | error e=>exact hx pins σ H s e s' I hq
 | ok fl =>
  cases fl with
  | ret u=>exact I.after hq
  | next=>exact False.elim hq
  | brk=>exact False.elim hq
  | cont=>exact False.elim hq
structure Mk (K:PySem.W.Frag) (C f:Addr):Prop where
 makes:PySem.W.makesIn K C=true
 init:PySem.W.findIn K (.ref C) "__init__" = some (some (.ref f))
 fn:PySem.W.isFn K (.ref f)=true
 kp:PySem.W.keepIn K (.ref C)=true
end
section
variable {X:Cx} {CX:CXT} {k:Nat} {f C:Addr} {fd:FuncData} {ps ks:List Str} {sp:Sp} {E:XK} {x m:Str} {p pos apos kpos:Pos} {e o:Expr} {es:List Expr} {kws:List Keyword} {te ta:TE} {t tk:TA} {nm:Option Str}
structure KBinds (K:PySem.W.Frag) (fd:FuncData) (ps ks:List Str) (g:List Value->List Value->List Value) (gV:List V->List V->List V):Prop where
 to:∀ (s:Shared) (us ws:List Value),K.In s.heap->(g us ws).length=ps.length->BindsTo s fd ⟨us,ks.zip ws⟩ (ps.zip (g us ws))
 rel:∀ {vs:List V} {us:List Value} {zs:List V} {ws:List Value},Vals vs us->Vals zs ws->Vals (gV vs zs) (g us ws)
variable {g:List Value->List Value->List Value} {gV:List V->List V->List V}
end
structure FnScope (N P:List Str) (sc:Scope):Prop where
 kind:sc.kind=.function
 co:sc.isCoroutine=false
 gen:sc.isGenerator=false
 nd:N.Nodup
 pre:N.take P.length=P
 par:∀ x∈P,sc.names.lookup x=some .local\/sc.names.lookup x=some .cell
 nofree:∀ y∈sc.names,y.2≠.free
theorem bindL_out {kindOf:Str->Option NameKind} {x:Str}:∀ {binds:List (Str×Value)} {m:Str->Option Value},(∀ v,(x,v)∉binds)->bindL kindOf binds m x=m x
 | [],_,_=>rfl
 | (n,v) :: r,m,h=>by
  unfold bindL
  rw [bindL_out fun w hw=>h w (List.mem_cons_of_mem _ hw)]
  split
  ·have:x≠n:=by rintro rfl; exact h v List.mem_cons_self
   simp [this]
  ·rfl
theorem bindC_out {kindOf:Str->Option NameKind} {x:Str}:∀ {binds:List (Str×Value)} {m:Str->Option Value},(∀ v,(x,v)∉binds)->bindC kindOf binds m x=m x
 | [],_,_=>rfl
 | (n,v) :: r,m,h=>by
  unfold bindC
  rw [bindC_out fun w hw=>h w (List.mem_cons_of_mem _ hw)]
  split
  ·rfl
  ·have:x≠n:=by rintro rfl; exact h v List.mem_cons_self
   simp [this]
theorem bindL_get {kindOf:Str->Option NameKind} {x:Str} {v:Value}:∀ {P:List Str} {vs:List Value} {i:Nat} {m:Str->Option Value},P.Nodup->P[i]?=some x->vs[i]?=some v->kindOf x=some .local ->
  bindL kindOf (P.zip vs) m x=some v
 | [],_,_,_,_,h,_,_=>by simp at h
 | _ :: _,[],_,_,_,_,h,_=>by simp at h
 | p :: P,w :: vs,0,m,nd,h1,h2,hk=>by
  simp at h1 h2; subst h1; subst h2
  show bindL kindOf ((p,w) :: P.zip vs) m p=_
  unfold bindL
  rw [bindL_out fun v hv=>(List.nodup_cons.mp nd).1 (List.of_mem_zip hv).1,if_pos hk]
  simp
 | p :: P,w :: vs,i+1,m,nd,h1,h2,hk=>by
  show bindL kindOf ((p,w) :: P.zip vs) m x=_
  unfold bindL
  exact bindL_get (i:=i) (List.nodup_cons.mp nd).2 (by simpa using h1) (by simpa using h2) hk
theorem bindC_get {kindOf:Str->Option NameKind} {x:Str} {v:Value}:∀ {P:List Str} {vs:List Value} {i:Nat} {m:Str->Option Value},P.Nodup->P[i]?=some x->vs[i]?=some v->kindOf x≠some .local ->
  bindC kindOf (P.zip vs) m x=some v
 | [],_,_,_,_,h,_,_=>by simp at h
 | _ :: _,[],_,_,_,_,h,_=>by simp at h
 | p :: P,w :: vs,0,m,nd,h1,h2,hk=>by
  simp at h1 h2; subst h1; subst h2
  show bindC kindOf ((p,w) :: P.zip vs) m p=_
  unfold bindC
  rw [bindC_out fun v hv=>(List.nodup_cons.mp nd).1 (List.of_mem_zip hv).1,if_neg hk]
  simp
 | p :: P,w :: vs,i+1,m,nd,h1,h2,hk=>by
  show bindC kindOf ((p,w) :: P.zip vs) m x=_
  unfold bindC
  exact bindC_get (i:=i) (List.nodup_cons.mp nd).2 (by simpa using h1) (by simpa using h2) hk
noncomputable def start (N:List Str) (vs:List V):St:=vs.map some++List.replicate (N.length - vs.length) none
noncomputable def cxOf (CX:CXT) (P:Program) (w:World) (K:PySem.W.Frag) (mg:Str->Option Value) (base:Heap) (N:List Str) (qual:Str) (scope:Scope) (f:Addr) (cd:Value) (A:Around) (outer:List Env) (s:Shared) (H:Hp) (E:XK):Cx where
 prog:=P
 w:=w
 K:=K
 mg:=mg
 base:=base
 A:=A.deeper (envOfC qual scope s.heap.objs.size f cd)
 N:=N
 s₀:=s
 H₀:=H
 env:=envOfC qual scope s.heap.objs.size f cd
 outer:=outer
 stack:=envOfC qual scope s.heap.objs.size f cd :: outer
 ex:=[]
 calm:=true
 fn:=fun _=>true
 pn:=[]
 xe:=fun e s'=>wpAny (model P w) (A.deeper (envOfC qual scope s.heap.objs.size f cd)) (leaving (envOfC qual scope s.heap.objs.size f cd) e) (fun _ s''=>CX outer H s E e s'') (fun e' s''=>CX outer H s E e' s'') s'
theorem cell_has {sc:Scope} {n:Nat} {x:Str} (h:sc.names.lookup x=some .cell):∃ c,(cellsFrom n sc.names []).lookup x=some c:=by
 have q:=PySem.W.cellsFrom_some sc.names n [] (.inl h)
 exact Option.isSome_iff_exists.mp q
theorem inv_start {CX:CXT} {P:Program} {w:World} {K:PySem.W.Frag} {mg:Str->Option Value} {base:Heap} {N ps:List Str} {qual:Str} {scope:Scope} {f:Addr} {cd:Value} {A:Around} {outer:List Env} {s s1:Shared} {H:Hp} {E:XK} {us:List Value} {vs:List V}
  (S:FnScope N ps scope) (hd:A.handled=none) (e0:Env0 P w K mg base A outer s H) (hl:vs.length=ps.length) (r:Vals vs us)
  (x:InCallC s s.heap.objs.size (bindL (envOfC qual scope s.heap.objs.size f cd).kindOf (ps.zip us) fun _=>none) (cellsFrom (s.heap.objs.size+1) scope.names []) (bindC (envOfC qual scope s.heap.objs.size f cd).kindOf (ps.zip us) fun _=>none) s1) :
  Inv (cxOf CX P w K mg base N qual scope f cd A outer s H E) [] (start N vs) H s1:=by
 have hpl:ps.length<=N.length:=by have:=congrArg List.length S.pre; rw [List.length_take] at this; lia
 obtain ⟨h1,tk,rfl,hk⟩:=x.done
 have noA:∀ b:Addr,b∉(cxOf CX P w K mg base N qual scope f cd A outer s H E).ex:=fun b z=>absurd (show b∈([]:List Addr) from z) (by simp)
 refine ⟨⟨e0.mod,S.kind,rfl,rfl,Nat.le_refl _,fun y z c h1 h2=>?_,fun y hy=>?_,fun y c _ h=>?_,fun _=>hd,Around.frames_deeper e0.frames,.inr ⟨rfl,rfl⟩,fun b z=>absurd z (noA b),e0.bs,e0.bsz,fun b _ _=>noA b,fun b z=>absurd z (noA b),e0.funs,e0.frf⟩,
  rfl,e0.bare,Un.kept hk,⟨_,x.toInCall.ns,fun i y v h1 h2 h3=>?_⟩,fun y c h=>⟨_,x.cell y c h⟩,e0.hok.fresh (Nat.le_refl _),fun y c h=>?_,fun p hp=>absurd (show p∈([]:List (Addr×Obj)) from hp) (by simp),e0.hok.kept hk,?_⟩
 ·exact name_of_addr x.apart (PySem.mem_of_lookup h1) (PySem.mem_of_lookup h2)
 ·have hy:scope.names.lookup y=some .cell\/scope.names.lookup y=some .free:=hy
  rcases hy with hy | hy
  ·exact cell_has hy
  ·exact absurd rfl (S.nofree _ (PySem.mem_of_lookup hy))
 ·exact Nat.le_of_lt (x.above y c (PySem.mem_of_lookup h))
 ·have hi:i < vs.length:=by
   unfold start at h2
   by_cases hi:i < vs.length
   ·exact hi
   ·rw [List.getElem?_append_right (by simpa using hi)] at h2
    rw [List.getElem?_replicate] at h2
    split at h2 <;> cases h2
  have ha:vs[i]?=some v:=by
   unfold start at h2
   rw [List.getElem?_append_left (by simpa using hi),List.getElem?_map] at h2
   cases e:vs[i]? with
   | none=>rw [e] at h2; cases h2
   | some a=>rw [e] at h2; cases h2; rfl
  obtain ⟨u,hu,rv⟩:=r.get ha
  have hp:ps[i]?=some y:=by
   rw [← S.pre,List.getElem?_take_of_lt (by lia)]; exact h1
  have ndP:ps.Nodup:=by rw [← S.pre]; exact S.nd.sublist (List.take_sublist _ _)
  refine ⟨u,rv,?_⟩
  rcases S.par y (List.mem_of_getElem? hp) with k | k
  ·exact .inl ⟨k,bindL_get ndP hp hu k⟩
  ·obtain ⟨c,e⟩:=cell_has (n:=s.heap.objs.size+1) k
   refine .inr ⟨.inl k,c,e,?_⟩
   have q:=x.cell y c e
   rw [bindC_get ndP hp hu (by show scope.names.lookup y≠_; rw [k]; decide)] at q
   exact q
 ·exact e0.hok.fresh (Nat.le_of_lt (x.above y c (PySem.mem_of_lookup h)))
 ·unfold start
  show _=N.length
  rw [List.length_append,List.length_map,List.length_replicate]
  lia
theorem fn_of {CX:CXT} {P:Program} {w:World} {K:PySem.W.Frag} {mg:Str->Option Value} {base:Heap} {k:Nat} {f:Addr} {name qual:Str} {params:Arguments} {body:List Stmt} {scope:Scope} {dV kV doc pm cdv ct oc:Value} {an od:Option Addr}
  {osl:Array (Option Value)} {N ps:List Str} {sp:Sp} (lk:K.lookup f=some ⟨oc,od,.func (PySem.W.fnOf name qual params body scope dV kV doc pm an cdv ct),osl⟩) (hcd:PySem.W.codeIn K cdv qual=true) (S:FnScope N ps scope)
  (len:∀ vs H Q E,sp vs H Q E->vs.length=ps.length)
  (hbody:∀ (A:Around) (outer:List Env) (s:Shared) (H:Hp) (vs:List V) (Q:VK) (E:XK),Room k (A.deeper (envOfC qual scope s.heap.objs.size f cdv))->sp vs H Q E ->
   ∃ t,PSs (cxOf CX P w K mg base N qual scope f cdv A outer s H E) body t/\t { nx:=fun _ H'=>Q .non H',rt:=Q } (start N vs) H) :
  FnOk P w K mg base CX (k+1) f (PySem.W.fnOf name qual params body scope dV kV doc pm an cdv ct) ps sp:=by
 refine ⟨len,fun A outer s H args us vs Q E hr e0 hb r hsp=>?_⟩
 have hl:=len _ _ _ _ hsp
 have KX:K.In s.heap:=e0.mod.kin.keeps fun b o e=>(e0.bs b o e).1
 have lim:s.heap.NoLimit:=e0.mod.nolimit.keeps fun b o e=>(e0.bs b o e).1
 have hkind:∀ y∈ps.zip us,scope.names.lookup y.1=some .local\/(scope.names.lookup y.1=some .cell/\((cellsFrom (s.heap.objs.size+1) scope.names []).lookup y.1).isSome=true):=fun ⟨n,v⟩ hy=>by
  rcases S.par n (List.of_mem_zip hy).1 with q | q
  ·exact .inl q
  ·exact .inr ⟨q,PySem.W.cellsFrom_some _ _ _ (.inl q)⟩
 refine codeAny_call_function hr.depth (KX _ _ lk) rfl S.co S.gen rfl (PySem.W.codeRec_of KX hcd) (hb _ _ _ _ ?_)
 refine wpAny_newFunctionEnv_cells S.kind hkind fun env he s1 x=>?_
 subst he
 refine ⟨lim.keeps x.toInCall.keep,codeAny_func ?_⟩
 obtain ⟨t,ht,hq⟩:=hbody A outer s H vs Q E (hr.deeper _) hsp
 have I:Inv (cxOf CX P w K mg base N qual scope f cdv A outer s H E) [] (start N vs) H s1:=inv_start S hr.hd e0 hl r x
 refine wpAny_mono (ht [] s1 (start N vs) H _ I hq) (fun fl s' hs=>?_) fun e s' hs=>hs
 have fin:∀ {σ':St} {H':Hp} {v:V} {u:Value},Inv (cxOf CX P w K mg base N qual scope f cdv A outer s H E) [] σ' H' s'->RelV v u->Q v H'->CE outer P w H s Q u s' :=
  fun {σ' H' v u} J rv q=>⟨v,H',J.os,J.bare,J.base,J.hok,rv,q⟩
 cases fl with
 | ret u =>
  obtain ⟨v,σ',H',J,rv,q⟩:=hs
  exact fin J rv q
 | next =>
  obtain ⟨σ',H',J,q⟩:=hs
  exact fin (v:=V.non) (u:=Value.none) J rfl q
 | brk =>
  obtain ⟨_,_,_,q⟩:=hs
  exact False.elim q
 | cont =>
  obtain ⟨_,_,_,q⟩:=hs
  exact False.elim q
end L2
namespace HT
open PySem PyProof.Rows
noncomputable def lexLt:List Int->List Int->Bool
 | [],[]=>false
 | [],_ :: _=>true
 | _ :: _,[]=>false
 | x :: xs,y :: ys=>if x=y then lexLt xs ys else decide (x < y)
theorem lexLt_cons (x y:Int) (xs ys:List Int):lexLt (x :: xs) (y :: ys)=if x=y then lexLt xs ys else decide (x < y):=rfl
theorem lexLt_nil_nil:lexLt [] []=false:=rfl
theorem lexLt_nil_cons (y:Int) (ys:List Int):lexLt [] (y :: ys)=true:=rfl
theorem lexLt_cons_nil (x:Int) (xs:List Int):lexLt (x :: xs) []=false:=rfl
theorem eqAt_int (A:Around) (s:Shared) (a:Int) (t:Tok) (c:Int) (u:Tok):∃ e,SeqAt.EqAt A s (.int a t) (.int c u) e/\(e=true↔a=c) :=
 ⟨(a == c),SeqAt.EqAt.int_int a t c u,by simp⟩
theorem rcLt_int (A:Around) (s:Shared) (a:Int) (t:Tok) (c:Int) (u:Tok) (prog:Program) (w:World) (E:Value->Shared->Prop) (Q:Value->Shared->Prop) (h:Q (.bool (decide (a < c))) s) :
  wpAny (model prog w) A (richCompare .Lt (.int a t) (.int c u)) Q E s :=
 (PyProof.Rows.lt_int h:wpAny (model prog w) A (compareOp .Lt (.int a t) (.int c u)) Q E s)
section
open PySem.SeqAt
open PySem.AutoSeq1 (wpAny_loadPart')
open PySem.MeetsSeq PySem.MeetsSeq2 PySem.MeetsSeq3
theorem tuple_lt_ints (l b:Addr) (items items2:Array Value) (n n2:Nat) (dd dd2:Option Addr) (sl sl2:Array (Option Value)) (ns ms:List Int) (hi:IntsAre items.toList ns) (hj:IntsAre items2.toList ms) :
  Meets (Builtin.«tuple.__lt__» ⟨[.ref l,.ref b],[]⟩)
   (fun _ R s=>s.heap.get? l=some { cls:=.type "tuple",dict:=dd,data:=.seq items n,slots:=sl }/\s.heap.get? b=some { cls:=.type "tuple",dict:=dd2,data:=.seq items2 n2,slots:=sl2 } /\
    R (.ok (.ret (.bool (lexLt ns ms)))) s) :=
 .of_wp fun prog w A R s h=>by
  obtain ⟨hp,g,d,tk,os⟩:=s; obtain ⟨hl,hb,h⟩:=h
  have f2:=AutoSeq1.sub_tuple_tuple
  have z1:items.size=ns.length:=by rw [← hi.length]; simp
  have z2:items2.size=ms.length:=by rw [← hj.length]; simp
  wp_walk using wpAny_loadPart' hl,wpAny_loadPart' hb,wpAny_forIn_list _ (fun rest b s'=>b.1=none/\s'=⟨hp,g,d,tk,os⟩/\∃ (vs ws:List Value) (ns' ms':List Int),rest=vs.zip ws /\
   IntsAre vs ns'/\IntsAre ws ms'/\ns'.length+items2.size=ms'.length+items.size/\R (.ok (.ret (.bool (lexLt ns' ms')))) ⟨hp,g,d,tk,os⟩) _
  case turn =>
   rintro ⟨y,x⟩ rest b s' ⟨hb',rfl,vs,ws,ns',ms',hz,hvi,hwi,hlen,hR⟩
   cases hvi with
   | nil=>rw [List.zip_nil_left] at hz; cases hz
   | cons a t hvi' =>
    cases hwi with
    | nil=>rw [List.zip_nil_right] at hz; cases hz
    | cons c u hwi' =>
     rw [List.zip_cons_cons] at hz
     injection hz with hyx hrest
     injection hyx with hy hx
     subst hy hx
     rw [lexLt_cons] at hR
     simp only [List.length_cons] at hlen
     obtain ⟨e,he,hiff⟩:=eqAt_int A.in1 ⟨hp,g,d,tk,os⟩ a t c u
     refine wpAny_bind (he prog w _ _ ?_)
     cases e with
     | true =>
      rw [if_pos (hiff.mp rfl)] at hR
      wp_walk
      exact ⟨rfl,rfl,_,_,_,_,hrest,hvi',hwi',by lia,hR⟩
     | false =>
      rw [if_neg (fun q=>absurd (hiff.mpr q) Bool.false_ne_true)] at hR
      have hri:=rcLt_int A.in1 ⟨hp,g,d,tk,os⟩ a t c u prog w
      wp_walk using hri
      exact ⟨_,rfl,by simpa using hR⟩
  case fin =>
   rintro ⟨b1,b2⟩ s' ⟨hb',rfl,vs,ws,ns',ms',hz,hvi,hwi,hlen,hR⟩
   simp only at hb'
   subst hb'
   have hv:lexLt ns' ms'=decide (items.size < items2.size):=by
    cases hvi with
    | nil =>
     cases hwi with
     | nil =>
      simp only [List.length_nil] at hlen
      rw [lexLt_nil_nil]
      exact (decide_eq_false (by lia)).symm
     | cons c u hw =>
      simp only [List.length_nil,List.length_cons] at hlen
      rw [lexLt_nil_cons]
      exact (decide_eq_true (by lia)).symm
    | cons a t hv =>
     cases hwi with
     | nil =>
      simp only [List.length_nil,List.length_cons] at hlen
      rw [lexLt_cons_nil]
      exact (decide_eq_false (by lia)).symm
     | cons c u hw =>
      rw [List.zip_cons_cons] at hz
      cases hz
   rw [hv] at hR
   wp_walk
   exact ⟨_,rfl,by simpa [Builtin.Tuple.tupleCompareSizes] using hR⟩
  case h =>
   exact ⟨rfl,rfl,items.toList,items2.toList,ns,ms,rfl,hi,hj,by lia,h⟩
end
section
variable {prog:Program} {w:World} {A:Around} {E:Value->Shared->Prop} {s:Shared}
theorem lt_tupInts {l b:Addr} {items items2:Array Value} {ns ms:List Int} {Q:Value->Shared->Prop} (hl:IsTup s.heap l items) (hb:IsTup s.heap b items2) (hi:IntsAre items.toList ns) (hj:IntsAre items2.toList ms)
  (hu:A.units < cLine) (h:Q (.bool (lexLt ns ms)) s):wpAny (model prog w) A (compareOp .Lt (.ref l) (.ref b)) Q E s:=by
 obtain ⟨⟨cls,dd,data,sl⟩,ho,hc,n,hd⟩:=id hl
 obtain ⟨⟨cls2,dd2,data2,sl2⟩,ho2,hc2,n2,hd2⟩:=id hb
 simp only at hc hd hc2 hd2
 subst hc hd hc2 hd2
 exact richCompare_meets_room (op:=.Lt) ⟨_,ho,rfl⟩ ⟨_,ho2,rfl⟩ PySem.F.slot_tuple_lt PySem.F.entry_tuple_lt (PySem.F.args_tuple_lt_2 _ _) (tuple_lt_ints l b items items2 n n2 dd dd2 sl sl2 ns ms hi hj)
  ⟨ho,ho2,show Value.bool (lexLt ns ms)≠Value.notImplemented/\Q (.bool (lexLt ns ms)) s from ⟨(fun x=>nomatch x),h⟩⟩ hu
theorem cat_tup {t b:Addr} {vs ws:List Value} {Q:Value->Shared->Prop} (ht:IsTup s.heap t vs.toArray) (hb:IsTup s.heap b ws.toArray) (hv:vs≠[])
  (h1:ws=[]->Q (.ref t) s) (h2:ws≠[]->Q (.ref s.heap.objs.size) { s with heap:=s.heap.push { cls:=.type "tuple",data:=.seq (vs++ws).toArray } })
  (hsz:vs.length+ws.length<=sizeLine):wpAny (model prog w) A (binaryOp .Add (.ref t) (.ref b)) Q E s:=by
 obtain ⟨⟨cls,dd,data,sl⟩,ho,hc,n,hd⟩:=id ht
 obtain ⟨⟨cls2,dd2,data2,sl2⟩,ho2,hc2,n2,hd2⟩:=id hb
 simp only at hc hd hc2 hd2
 subst hc hd hc2 hd2
 have e:vs.toArray++ws.toArray=(vs++ws).toArray:=by simp
 by_cases hw:ws=[]
 ·exact concat_meets ⟨_,ho,rfl⟩ ⟨_,ho2,rfl⟩ noFill_tuple_add seq_tuple_add PySem.F.slot_tuple_add PySem.F.entry_tuple_add (PySem.F.args_tuple_add_2 _ _)
   (tuple_addW1 t b vs.toArray ws.toArray n n2 dd dd2 sl sl2 (by simpa using hv) (by simp [hw])) ⟨ho,ho2,h1 hw⟩
 ·refine concat_meets ⟨_,ho,rfl⟩ ⟨_,ho2,rfl⟩ noFill_tuple_add seq_tuple_add PySem.F.slot_tuple_add PySem.F.entry_tuple_add (PySem.F.args_tuple_add_2 _ _)
   (tuple_addW2 t b vs.toArray ws.toArray n n2 dd dd2 sl sl2 (by simpa using hv) (by simpa using hw) (by rw [List.size_toArray,List.size_toArray]; exact hsz)) ⟨ho,ho2,?_⟩
  rw [e]
  exact h2 hw
noncomputable def sIx (n d:Nat):Option Int->Nat
 | none=>d
 | some v=>if v < 0 then (v+(n:Int)).toNat else min v.toNat n
theorem sIx_le (n d:Nat) (hd:d<=n) (o:Option Int):sIx n d o<=n:=by
 cases o with
 | none=>exact hd
 | some v =>
  show (if v < 0 then (v+(n:Int)).toNat else min v.toNat n)<=n
  by_cases hv:v < 0
  ·rw [if_pos hv]; lia
  ·rw [if_neg hv]; exact Nat.min_le_right _ _
theorem clip_eq (v:Int) (n d:Nat):(if v < 0 then max (v+(n:Int)) 0 else min v (n:Int))=((sIx n d (some v):Nat):Int):=by
 show (if v < 0 then max (v+(n:Int)) 0 else min v (n:Int))=(((if v < 0 then (v+(n:Int)).toNat else min v.toNat n):Nat):Int)
 by_cases hv:v < 0
 ·simp only [if_pos hv]; lia
 ·simp only [if_neg hv]; lia
theorem adjust_gen (lo hi:Option Int) (n:Nat):Builtin.Slice.sliceAdjust lo hi 1 (n:Int)=(((sIx n 0 lo:Nat):Int),((sIx n n hi:Nat):Int)):=by
 have h1:¬ ((1:Int) < 0):=by lia
 unfold Builtin.Slice.sliceAdjust
 simp only [h1,if_false]
 refine Prod.ext ?_ ?_
 ·cases lo with
  | none=>rfl
  | some v=>exact clip_eq v n 0
 ·cases hi with
  | none=>rfl
  | some v=>exact clip_eq v n n
theorem places_gen (i j:Nat):Builtin.Slice.slicePlaces (i:Int) (j:Int) 1=j - i:=by
 unfold Builtin.Slice.slicePlaces
 have h1:(1:Int) > 0:=by lia
 simp only [h1,if_true,Int.ediv_one]
 split <;> lia
theorem slicePart_ {v:Value} {o:Option Int} {Q:Option Int->Shared->Prop} (p:IsPart v o) (h:Q o s):wpAny (model prog w) A (Builtin.Slice.slicePartIndex v) Q E s:=by
 cases p with
 | none=>exact slicePart_none h
 | int i t=>exact slicePart_int h
theorem sliceApplied_gen {sl:Addr} {vl vu:Value} {lo hi:Option Int} {n:Nat} {Q:Int×Int×Nat->Shared->Prop} (hs:s.heap.IsSliceOf sl vl vu .none) (pl:IsPart vl lo) (pu:IsPart vu hi)
  (h:Q (((sIx n 0 lo:Nat):Int),1,sIx n n hi - sIx n 0 lo) s):wpAny (model prog w) A (Builtin.Slice.sliceApplied (.ref sl) (pure (n:Int))) Q E s:=by
 obtain ⟨os,hos,hcs,hds⟩:=id hs
 unfold Builtin.Slice.sliceApplied Builtin.Slice.sliceFields
 refine wpAny_bind (wpAny_bind (wpAny_field hos hds (x:=vl) rfl (wpAny_bind (wpAny_field hos hds (x:=vu) rfl (wpAny_bind (wpAny_field hos hds (x:=.none) rfl (wpAny_pure ?_)))))))
 refine wpAny_bind (slicePart_none ?_)
 show wpAny _ _ (if ((1:Int) == 0)=true then _ else _) _ _ s
 rw [if_neg (by decide)]
 refine wpAny_bind (slicePart_ pl (wpAny_bind (slicePart_ pu (wpAny_bind (wpAny_pure ?_)))))
 show wpAny _ _ (match Builtin.Slice.sliceAdjust lo hi 1 (n:Int) with | (lo,hi)=>pure (lo,(1:Int),Builtin.Slice.slicePlaces lo hi 1)) _ _ s
 rw [adjust_gen lo hi n]
 show wpAny _ _ (pure (((sIx n 0 lo:Nat):Int),(1:Int),Builtin.Slice.slicePlaces ((sIx n 0 lo:Nat):Int) ((sIx n n hi:Nat):Int) 1)) _ _ s
 rw [places_gen]
 exact wpAny_pure h
theorem pick_gen (xs:Array Value) (i k:Nat):((List.range k).filterMap fun (m:Nat)=>xs[((i:Int)+(m:Int) * 1).toNat]?).toArray=((xs.toList.drop i).take k).toArray:=by
 have e:(fun (m:Nat)=>xs[((i:Int)+(m:Int) * 1).toNat]?)=fun m=>xs[i+m]?:=by
  funext m
  have:((i:Int)+(m:Int) * 1).toNat=i+m:=by lia
  rw [this]
 rw [e]
 have:=pick_run xs i k
 rw [List.filterMap_map] at this
 have e2:((fun x=>xs[x]?)∘fun x=>i+x)=fun m=>xs[i+m]?:=rfl
 rw [e2] at this
 rw [this]
theorem getItem_tuple_cut {t sl:Addr} {items:Array Value} {vl vu:Value} {lo hi:Option Int} {Q:Value->Shared->Prop} (ht:IsTup s.heap t items) (hs:s.heap.IsSliceOf sl vl vu .none) (pl:IsPart vl lo) (pu:IsPart vu hi)
  (hw:¬ (sIx items.size 0 lo=0/\sIx items.size items.size hi=items.size))
  (h:Q (.ref s.heap.objs.size) { s with heap:=s.heap.push { cls:=.type "tuple",data:=.seq ((items.toList.drop (sIx items.size 0 lo)).take (sIx items.size items.size hi - sIx items.size 0 lo)).toArray } })
  (hsz:items.size<=sizeLine):wpAny (model prog w) A (getItem (.ref t) (.ref sl)) Q E s:=by
 have htake:sizeOk (.seq ((items.toList.drop (sIx items.size 0 lo)).take (sIx items.size items.size hi - sIx items.size 0 lo)).toArray):=by
  show ((items.toList.drop (sIx items.size 0 lo)).take (sIx items.size items.size hi - sIx items.size 0 lo)).toArray.size<=sizeLine
  rw [List.size_toArray,List.length_take,List.length_drop,Array.length_toList]
  lia
 have hj:sIx items.size items.size hi<=items.size:=sIx_le _ _ (Nat.le_refl _) hi
 obtain ⟨os,hos,hcs,hds⟩:=id hs
 have hTs:s.TypeIs (.ref sl) "slice":=⟨os,hos,hcs⟩
 unfold getItem
 try with_reducible refine wpAny_holding ?_
 first | refine wpAny_bind (wpAny_pure ?_) | skip
 refine wpAny_bind (wpAny_sequenceKey ht.typeIs (by decide) ?_)
 refine wpAny_bind (wpAny_callSpecial?_slot (name:=Str.ofString "__getitem__") ht.typeIs PyProof.Rows.slot_tuple_getitem
  (wpAny_call_entry PyProof.Rows.slot_tuple_getitem ht.typeIs entry_tuple_getitem ?_ (args_tuple_getitem _ _)))
 show wpAny _ _ (Builtin.Tuple.tupleItemsOf (.ref t) >>= _) _ _ s
 refine wpAny_bind (tupleItemsOf_ ht ?_)
 refine wpAny_bind (wpAny_typeOf hTs ?_)
 rw [if_pos (by decide)]
 refine wpAny_bind (sliceApplied_gen hs pl pu ?_)
 have hno:¬ ((((sIx items.size 0 lo:Nat):Int) == 0&&(1:Int) == 1&&(sIx items.size items.size hi - sIx items.size 0 lo) == items.size)=true):=by
  intro q
  rw [Bool.and_eq_true,Bool.and_eq_true] at q
  have q1:((sIx items.size 0 lo:Nat):Int)=0:=eq_of_beq q.1.1
  have q2:sIx items.size items.size hi - sIx items.size 0 lo=items.size:=eq_of_beq q.2
  exact hw ⟨by lia,by lia⟩
 show wpAny _ _ (if (((sIx items.size 0 lo:Nat):Int) == 0&&(1:Int) == 1&&(sIx items.size items.size hi - sIx items.size 0 lo) == items.size)=true then _ else _) _ _ s
 rw [if_neg hno,pick_gen]
 first
  | exact wpAny_bind (m:=Builtin.Tuple.tupleExact _) (wpAny_newObj_type (wpAny_pure ⟨_,rfl,wpAny_pure h⟩) htake)
  | exact wpAny_bind (m:=Builtin.Tuple.tupleExact _) (wpAny_newObj_type (wpAny_bind (wpAny_pure (wpAny_pure ⟨_,rfl,wpAny_pure h⟩))) htake)
  | exact wpAny_bind (wpAny_bind (m:=Builtin.Tuple.tupleExact _) (wpAny_newObj_type (wpAny_pure (wpAny_pure ⟨_,rfl,wpAny_pure h⟩)) htake))
  | exact wpAny_bind (wpAny_bind (m:=Builtin.Tuple.tupleExact _) (wpAny_newObj_type (wpAny_pure ⟨_,rfl,wpAny_pure h⟩) htake))
end
end HT
namespace L2
open PySem PySem.Spec PyProof.Rows
noncomputable abbrev TO:=St->Hp->(Option Int->Hp->Prop)->Prop
theorem intsAre_of {ns:List Int}:∀ {us:List Value},Vals (ns.map V.int) us->IntsAre us ns:=by
 induction ns with
 | nil=>intro us r; rw [List.map_nil] at r; cases r; exact .nil
 | cons n ns ih =>
  intro us r
  rw [List.map_cons] at r
  cases r with
  | cons r1 r2 =>
   obtain ⟨t,e⟩:=r1
   subst e
   exact .cons n t (ih r2)
section
variable {X:Cx} {e:Expr} {te:TE} {lo hi:Option Expr} {tl th:TO} {pos p2:Pos}
noncomputable def SlR (X:Cx) (r:V->Option Int->Option Int->Hp->VK->Prop):Prop :=
 ∀ (pins:List (Addr×Obj)) (s:Shared) (σ:St) (H:Hp) (x:V) (v vl vu:Value) (lo hi:Option Int) (sl:Addr) (Q:VK),Inv X pins σ H s->RelV x v->s.heap.IsSliceOf sl vl vu .none->IsPart vl lo->IsPart vu hi->r x lo hi H Q ->
  ∃ T id,typeLookup (.type T) "__getitem__" = pure (some (.builtin id))/\s.TypeIs v T/\wpAny (model X.prog X.w) X.A (getItem v (.ref sl)) (EP X pins σ Q) X.xe s
noncomputable def cutV (xs:List V) (lo hi:Option Int):List V:=(xs.drop (HT.sIx xs.length 0 lo)).take (HT.sIx xs.length xs.length hi - HT.sIx xs.length 0 lo)
theorem cutV_length (xs:List V) (lo hi:Option Int):(cutV xs lo hi).length<=xs.length:=by
 unfold cutV
 rw [List.length_take,List.length_drop]
 lia
noncomputable def rSlT (K:PySem.W.Frag):V->Option Int->Option Int->Hp->VK->Prop:=fun x lo hi H Q=>∃ a xs,x=.ref a/\SqT K H a xs /\
 ¬ (HT.sIx xs.length 0 lo=0/\HT.sIx xs.length xs.length hi=xs.length)/\∀ p,H p=none->Q (.ref p) (upd H p (.tup (cutV xs lo hi)))
theorem sl_tup:SlR X (rSlT X.K):=by
 intro pins s σ H x v vl vu lo hi sl Q I rx hs pl pu h
 obtain ⟨a,xs,rfl,hx,hw,q⟩:=h
 cases rx
 obtain ⟨its,r,ht,hz⟩:=I.tuple hx
 have hlen:its.toArray.size=xs.length:=by rw [List.size_toArray]; exact r.length.symm
 refine ⟨"tuple",_,PyProof.Rows.slot_tuple_getitem.lookup,ht.typeIs,?_⟩
 refine HT.getItem_tuple_cut ht hs pl pu (by rw [hlen]; exact hw) ?_ (by rw [hlen]; exact hz)
 rw [hlen]
 refine ⟨.ref s.heap.objs.size,_,I.laid (t':=s.toks) (o:=.tup (cutV xs lo hi)) (fun b ob q=>Heap.get?_push_of_some _ q) (Nat.le_refl _) ?_,rfl,q _ (I.hok.fresh (Nat.le_refl _))⟩
 exact ⟨Nat.le_trans (cutV_length xs lo hi) hz,_,(r.drop (HT.sIx xs.length 0 lo)).take (HT.sIx xs.length xs.length hi - HT.sIx xs.length 0 lo),IsTup.new _ _⟩
noncomputable def rLtT (K:PySem.W.Frag):R2:=fun x y H Q=>∃ a b ns ms,x=.ref a/\y=.ref b/\SqT K H a (ns.map V.int)/\SqT K H b (ms.map V.int)/\Q (.bl (HT.lexLt ns ms)) H
theorem op_ltT (hu:X.A.units < cLine):OpR X (compareOp .Lt) (rLtT X.K):=by
 intro pins s σ H x y v u Q I rx ry h
 obtain ⟨a,b,ns,ms,rfl,rfl,ha,hb,q⟩:=h
 cases rx
 cases ry
 obtain ⟨its,r1,p1,_⟩:=I.tuple ha
 obtain ⟨its2,r2,p2,_⟩:=I.tuple hb
 have i1:IntsAre its.toArray.toList ns:=intsAre_of r1
 have i2:IntsAre its2.toArray.toList ms:=intsAre_of r2
 exact HT.lt_tupInts p1 p2 i1 i2 hu ⟨.bl (HT.lexLt ns ms),H,I,rfl,q⟩
noncomputable def rCatT (K:PySem.W.Frag):R2:=fun x y H Q=>∃ a b xs ys,x=.ref a/\y=.ref b/\SqT K H a xs/\SqT K H b ys/\xs≠[]/\xs.length+ys.length<=sizeLine /\
 (ys=[]->Q (.ref a) H)/\(ys≠[]->∀ p,H p=none->Q (.ref p) (upd H p (.tup (xs++ys))))
theorem Vals.nil_iff {xs:List V} {us:List Value} (r:Vals xs us):us=[]↔xs=[]:=by
 cases r with
 | nil=>simp
 | cons _ _=>simp
theorem op_catT:OpR X (binaryOp .Add) (rCatT X.K):=by
 intro pins s σ H x y v u Q I rx ry h
 obtain ⟨a,b,xs,ys,rfl,rfl,ha,hb,hx,hz,q1,q2⟩:=h
 cases rx
 cases ry
 obtain ⟨its,r1,p1,_⟩:=I.tuple ha
 obtain ⟨its2,r2,p2,_⟩:=I.tuple hb
 refine HT.cat_tup p1 p2 (fun z=>hx (r1.nil_iff.mp z)) (fun z=>⟨.ref a,H,I,rfl,q1 (r2.nil_iff.mp z)⟩) (fun z=>?_) (by rw [← r1.length,← r2.length]; exact hz)
 refine ⟨.ref s.heap.objs.size,_,I.laid (t':=s.toks) (o:=.tup (xs++ys)) (fun b ob q=>Heap.get?_push_of_some _ q) (Nat.le_refl _) ?_,rfl,q2 (fun w=>z (r2.nil_iff.mpr w)) _ (I.hok.fresh (Nat.le_refl _))⟩
 exact ⟨by rw [List.length_append]; exact hz,_,r1.append r2,IsTup.new _ _⟩
end
noncomputable def ixN (n:Nat) (i:Int):Option Nat:=if 0<=i then (if i < n then some i.toNat else none) else if -(n:Int)<=i then some (i+n).toNat else none
noncomputable def atI {α:Type} (xs:List α) (i:Int):Option α:=(ixN xs.length i).bind fun j=>xs[j]?
theorem ixN_seq {n:Nat} {i:Int} {j:Nat} (h:ixN n i=some j):seqIndex? i n=some j/\j < n/\-(n:Int)<=i/\i < n:=by
 unfold ixN at h
 by_cases h0:0<=i
 ·rw [if_pos h0] at h
  by_cases h1:i < n
  ·rw [if_pos h1] at h
   have e:i.toNat=j:=Option.some.inj h
   exact ⟨by rw [seqIndex_of h0 h1,e],by lia,by lia,h1⟩
  ·rw [if_neg h1] at h; cases h
 ·rw [if_neg h0] at h
  by_cases h1:-(n:Int)<=i
  ·rw [if_pos h1] at h
   have e:(i+n).toNat=j:=Option.some.inj h
   exact ⟨by rw [seqIndex_neg (by lia) h1,e],by lia,h1,by lia⟩
  ·rw [if_neg h1] at h; cases h
theorem atI_get {α:Type} {xs:List α} {i:Int} {v:α} (h:atI xs i=some v):∃ j,seqIndex? i xs.length=some j/\xs[j]?=some v/\j < xs.length/\-(xs.length:Int)<=i/\i < xs.length:=by
 unfold atI at h
 cases e:ixN xs.length i with
 | none=>rw [e] at h; cases h
 | some j =>
  rw [e] at h
  obtain ⟨h1,h2,h3,h4⟩:=ixN_seq e
  exact ⟨j,h1,h,h2,h3,h4⟩
noncomputable def PlainIx (b:Expr):Prop:=∀ o i,subscripted b false o i=operate [o,i] (getItem o i)
noncomputable def IxR (X:Cx) (r:R2):Prop :=
 ∀ (value slice:Expr) (pins:List (Addr×Obj)) (s:Shared) (σ:St) (H:Hp) (x y:V) (v u:Value) (Q:VK),Inv X pins σ H s->RelV x v->RelV y u->r x y H Q ->
  subscripted slice false v u=operate [v,u] (getItem v u)->wpAny (model X.prog X.w) X.A (subscriptTail value slice v u) (EP X pins σ Q) X.xe s
noncomputable def MtR (X:Cx) (id:String) (r:V->List V->Hp->VK->Prop):Prop :=
 ∀ (pins:List (Addr×Obj)) (s:Shared) (σ:St) (H:Hp) (x:V) (xs:List V) (v:Value) (us:List Value) (Q:VK),Inv X pins σ H s->RelV x v->Vals xs us->r x xs H Q ->
  wpAny (model X.prog X.w) X.A (call (.builtin id) (v :: us)) (EP X pins σ Q) X.xe s
section
variable {X:Cx} {a b:Expr} {ta tb:TE} {pos:Pos}
noncomputable def rIxL (K:PySem.W.Frag):R2:=fun x y H Q=>∃ p xs i v,x=.ref p/\y=.int i/\SqL K H p xs/\atI xs i=some v/\Q v H
noncomputable def rIxT (K:PySem.W.Frag):R2:=fun x y H Q=>∃ p xs i v,x=.ref p/\y=.int i/\SqT K H p xs/\atI xs i=some v/\Q v H
theorem ix_list:IxR X (rIxL X.K):=by
 intro value slice pins s σ H x y v u Q I rx ry h hs
 obtain ⟨p,xs,i,z,rfl,rfl,hq,he,q⟩:=h
 cases rx
 obtain ⟨t,rfl⟩:=ry
 obtain ⟨its,r,pl,hz⟩:=I.list hq
 obtain ⟨j,h1,h2,h3,h4,h5⟩:=atI_get he
 obtain ⟨w,ew,rw'⟩:=r.get h2
 have hl:=r.length
 have hn:=line63
 have fin:EP X pins σ Q w s:=⟨z,H,I,rw',q⟩
 by_cases h0:0<=i
 ·have hj:i.toNat=j:=by
   rw [seqIndex_of h0 h5] at h1
   exact Option.some.inj h1
  exact item_listR pl.isList h0 (by lia) (by rw [hj]; simpa using ew) fin hs
 ·have hj:(i+(its.toArray.size:Int)).toNat=j:=by
   rw [seqIndex_neg (by lia) h4] at h1
   rw [List.size_toArray,← hl]
   exact Option.some.inj h1
  exact subscriptTail_builtinR (x:=w) pl.isList.typeIs slot_list_getitem.lookup
   (wpAny_getItem_list_neg (Q:=fun r s'=>r=w/\EP X pins σ Q r s') pl.isList (by lia) (by rw [List.size_toArray] <;> lia) (by lia) (by rw [hj]; simpa using ew) ⟨rfl,fin⟩) hs
theorem ix_tup:IxR X (rIxT X.K):=by
 intro value slice pins s σ H x y v u Q I rx ry h hs
 obtain ⟨p,xs,i,z,rfl,rfl,hq,he,q⟩:=h
 cases rx
 obtain ⟨t,rfl⟩:=ry
 obtain ⟨its,r,pl,hz⟩:=I.tuple hq
 obtain ⟨j,h1,h2,h3,h4,h5⟩:=atI_get he
 obtain ⟨w,ew,rw'⟩:=r.get h2
 have hl:=r.length
 have hn:=line63
 have fin:EP X pins σ Q w s:=⟨z,H,I,rw',q⟩
 exact subscriptTail_builtinR (x:=w) pl.typeIs slot_tuple_getitem.lookup
  (getItem_tuple (j:=j) (Q:=fun r s'=>r=w/\EP X pins σ Q r s') pl (by lia) (by lia) (by rw [List.size_toArray,← hl]; exact h1) (by simpa using ew) ⟨rfl,fin⟩) hs
theorem mapSeq_set (its:List Value) (n j:Nat) (u:Value):Obj.mapSeq (·.setIfInBounds j u) { cls:=.type "list",data:=.seq its.toArray n } = { cls:=.type "list",data:=.seq (its.set j u).toArray n }:=by
 simp [Obj.mapSeq]
theorem Inv.lst {pins:List (Addr×Obj)} {σ:St} {H:Hp} {s:Shared} {p:Addr} {xs:List V} (I:Inv X pins σ H s) (h:H p=some (.lst xs)) :
  ∃ (its:List Value) (n:Nat),Vals xs its/\s.heap.get? p=some { cls:=.type "list",data:=.seq its.toArray n }/\xs.length<=sizeLine:=by
 obtain ⟨z,its,n,r,e⟩:=I.hok p _ h
 exact ⟨its,n,r,e,z⟩
theorem Inv.lstUpd {pins:List (Addr×Obj)} {σ:St} {H:Hp} {s:Shared} {p:Addr} {xs ys:List V} {its its':List Value} {n n':Nat} {f:Obj->Obj} (I:Inv X pins σ H s) (h:H p=some (.lst xs))
  (ho:s.heap.get? p=some { cls:=.type "list",data:=.seq its.toArray n }) (hf:f { cls:=.type "list",data:=.seq its.toArray n } = { cls:=.type "list",data:=.seq its'.toArray n' }) (r:Vals ys its') (hz:ys.length<=sizeLine) (t:Nat) :
  Inv X pins σ (upd H p (.lst ys)) { s with heap:=s.heap.update p f,toks:=t }:=by
 have e:(s.heap.update p f).get? p=some { cls:=.type "list",data:=.seq its'.toArray n' }:=by
  rw [Heap.get?_update_self f ho (by rw [hf] <;> rfl),hf]
 refine I.write (x:=p) (e:=p) (by rw [h]; trivial) (.inl rfl) (fun b u hb q=>(Heap.get?_update_other _ _ (Ne.symm hb)).trans q) ⟨_,e⟩ ?_
 exact ⟨hz,its',n',r,e⟩
noncomputable def rSetL:V->V->V->Hp->(Hp->Prop)->Prop:=fun o i v H Q=>∃ p xs k j,o=.ref p/\i=.int k/\H p=some (.lst xs)/\ixN xs.length k=some j/\Q (upd H p (.lst (xs.set j v)))
theorem set_list:PSet X rSetL:=by
 intro pins s σ H o i v ov iv u Q I ro ri rv h
 obtain ⟨p,xs,k,j,rfl,rfl,hp,hj,q⟩:=h
 cases ro
 obtain ⟨t,rfl⟩:=ri
 obtain ⟨its,n,r,ho,hz⟩:=I.lst hp
 obtain ⟨h1,h2,h3,h4⟩:=ixN_seq hj
 have hl:=r.length
 have hn:=line63
 have I':Inv X pins σ (upd H p (.lst (xs.set j v))) { s with heap:=s.heap.update p (Obj.mapSeq (·.setIfInBounds j u)) } :=
  I.lstUpd hp ho (mapSeq_set its n j u) (r.set rv j) (by rw [List.length_set]; exact hz) s.toks
 by_cases h0:0<=k
 ·have hk:k.toNat=j:=by
   rw [seqIndex_of h0 h4] at h1
   exact Option.some.inj h1
  exact PySem.W.ki_setAt ho h0 (by lia) (by rw [List.size_toArray,← hl]; exact h4) (by rw [hk]; exact ⟨_,I',q⟩)
 ·have hk:(k+(its.toArray.size:Int)).toNat=j:=by
   rw [seqIndex_neg (by lia) h3] at h1
   rw [List.size_toArray,← hl]
   exact Option.some.inj h1
  exact PySem.W.ki_setBack ho (by lia) (by rw [List.size_toArray,← hl]; exact h3) (by lia) (by rw [hk]; exact ⟨_,I',q⟩)
theorem slice_bounds (lo hi:Option Int) (n:Nat):(sliceBounds lo hi none n).1=((HT.sIx n 0 lo:Nat):Int)/\(sliceBounds lo hi none n).2.1=((HT.sIx n n hi:Nat):Int)/\(sliceBounds lo hi none n).2.2=1:=by
 refine ⟨?_,?_,rfl⟩
 ·cases lo with
  | none=>simp [sliceBounds,HT.sIx]
  | some i =>
   simp only [sliceBounds,HT.sIx,Option.getD_none,show (1:Int) > 0 by decide,if_true]
   by_cases h:i < 0
   ·simp only [h,if_true] <;> lia
   ·simp only [h,if_false] <;> lia
 ·cases hi with
  | none=>simp [sliceBounds,HT.sIx]
  | some i =>
   simp only [sliceBounds,HT.sIx,Option.getD_none,show (1:Int) > 0 by decide,if_true]
   by_cases h:i < 0
   ·simp only [h,if_true] <;> lia
   ·simp only [h,if_false] <;> lia
theorem slicePick_cut (its:List Value) (lo hi:Option Int):slicePick its.toArray lo hi none=((its.drop (HT.sIx its.length 0 lo)).take (HT.sIx its.length its.length hi - HT.sIx its.length 0 lo)).toArray:=by
 obtain ⟨h1,h2,h3⟩:=slice_bounds lo hi its.toArray.size
 unfold slicePick
 rw [h1,h2,h3]
 simp only [sliceRange_one,pick_run,List.size_toArray] <;> rfl
noncomputable def rSlL (K:PySem.W.Frag):V->Option Int->Option Int->Hp->VK->Prop:=fun x lo hi H Q=>∃ a xs,x=.ref a/\SqL K H a xs/\∀ p,H p=none->Q (.ref p) (upd H p (.lst (cutV xs lo hi)))
theorem sl_list:SlR X (rSlL X.K):=by
 intro pins s σ H x v vl vu lo hi sl Q I rx hs pl pu h
 obtain ⟨a,xs,rfl,hx,q⟩:=h
 cases rx
 obtain ⟨its,r,ht,hz⟩:=I.list hx
 have hlen:=r.length
 refine ⟨"list",_,slot_list_getitem.lookup,ht.isList.typeIs,?_⟩
 refine wpAny_getItem_list_slice ht.isList hs pl pu .none (by simp) ?_ (by rw [List.size_toArray] <;> lia)
 rw [slicePick_cut,← hlen]
 refine ⟨.ref s.heap.objs.size,_,I.laid (t':=s.toks) (o:=.lst (cutV xs lo hi)) (fun b ob q=>Heap.get?_push_of_some _ q) (Nat.le_refl _) ?_,rfl,q _ (I.hok.fresh (Nat.le_refl _))⟩
 exact ⟨Nat.le_trans (cutV_length xs lo hi) hz,_,0,(r.drop (HT.sIx xs.length 0 lo)).take (HT.sIx xs.length xs.length hi - HT.sIx xs.length 0 lo),Heap.get?_push_size _ rfl⟩
theorem call_list_of:CallR X (.type "list") (fun xs H Q=>∃ p ys,xs=[.ref p]/\(SqL X.K H p ys\/SqT X.K H p ys)/\∀ l,H l=none->Q (.ref l) (upd H l (.lst ys))):=by
 intro pins s σ H xs us Q I r h
 obtain ⟨p,ys,rfl,hq,q⟩:=h
 obtain ⟨u,rfl,rx⟩:=vals1 r
 cases rx
 have fin:∀ (its:List Value),Vals ys its->ys.length<=sizeLine->∀ (h':Heap) (c':Nat),(∀ b o',s.heap.get? b=some o'->h'.get? b=some o') ->
   h'.get? s.heap.objs.size=some { cls:=.type "list",dict:=none,data:=.seq its.toArray c',slots:=#[] }->EP X pins σ Q (.ref s.heap.objs.size) { s with heap:=h' }:=fun its r' hz h' c' kp e =>
  ⟨.ref s.heap.objs.size,_,I.laid (t':=s.toks) kp (Nat.le_refl _) (show ObjOk X.prog X.w _ h' _ (.lst ys) from ⟨hz,its,c',r',e⟩),rfl,q _ (I.hok.fresh (Nat.le_refl _))⟩
 rcases hq with hq | hq
 ·obtain ⟨its,r',pl,hz⟩:=I.list hq
  have hlen:=r'.length
  obtain ⟨o,ho,hc,n,hd⟩:=pl.isList
  exact call_list_seq p (.inl rfl) ho hc hd (fun h' c' kp e=>fin its r' hz h' c' kp e) (by simp only [List.size_toArray] <;> lia)
 ·obtain ⟨its,r',pl,hz⟩:=I.tuple hq
  have hlen:=r'.length
  obtain ⟨o,ho,hc,n,hd⟩:=pl
  exact call_list_seq p (.inr rfl) ho hc hd (fun h' c' kp e=>fin its r' hz h' c' kp e) (by simp only [List.size_toArray] <;> lia)
noncomputable def tyV (K:PySem.W.Frag) (T:String) (x:V) (H:Hp):Prop:=match x with
 | .str _=>T = "str"
 | .int _=>T = "int"
 | .ref p=>(T = "list"/\∃ xs,SqL K H p xs)\/(T = "tuple"/\∃ o,K.lookup p=some o/\o.cls=.type "tuple"/\o.dict=none) \/
   (T = "dict"/\((∃ kvs,H p=some (.dK kvs))\/∃ kvs,H p=some (.dT kvs)))\/(T = "set"/\∃ S n,H p=some (.set S n))
 | _=>False
theorem tyV_is {pins:List (Addr×Obj)} {σ:St} {H:Hp} {s:Shared} {T:String} {x:V} {v:Value} (I:Inv X pins σ H s) (r:RelV x v) (ty:tyV X.K T x H) :
  s.TypeIs v T/\∀ a,v=.ref a->∃ ob,s.heap.get? a=some ob/\ob.dict=none:=by
 cases x with
 | str z =>
  obtain ⟨t,rfl⟩:=r
  cases (show T = "str" from ty)
  exact ⟨typeIs_str s z t,fun _ e=>nomatch e⟩
 | int i =>
  obtain ⟨t,rfl⟩:=r
  cases (show T = "int" from ty)
  exact ⟨typeIs_int s i t,fun _ e=>nomatch e⟩
 | ref p =>
  cases r
  rcases ty with ⟨rfl,xs,hq⟩ | ⟨rfl,o,hk,hc,hd⟩ | ⟨rfl,hk⟩ | ⟨rfl,S,n,hk⟩
  ·obtain ⟨its,_,pl,_⟩:=I.list hq
   refine ⟨pl.isList.typeIs,fun a e=>?_⟩
   cases e
   obtain ⟨o,n,e,c,hd,_⟩:=pl
   exact ⟨o,e,hd⟩
  ·refine ⟨⟨o,I.kIn p o hk,hc⟩,fun a e=>?_⟩
   cases e
   exact ⟨o,I.kIn _ o hk,hd⟩
  ·have z:∃ o,s.heap.get? p=some o/\o.ExactDict:=by
    rcases hk with ⟨kvs,hk⟩ | ⟨kvs,hk⟩
    ·obtain ⟨_,_,_,_,o,_,_,e,ex,_⟩:=I.hok p _ hk
     exact ⟨o,e,ex⟩
    ·obtain ⟨_,_,_,_,o,_,_,e,ex,_⟩:=I.hok p _ hk
     exact ⟨o,e,ex⟩
   obtain ⟨o,e,ex⟩:=z
   refine ⟨⟨o,e,ex.1⟩,fun a e2=>?_⟩
   cases e2
   exact ⟨o,e,ex.2.1⟩
  ·obtain ⟨o,_,_,_,e,ex,_⟩:=I.hok p _ hk
   refine ⟨⟨o,e,ex.1⟩,fun a e2=>?_⟩
   cases e2
   exact ⟨o,e,ex.2.1⟩
 | _=>exact False.elim ty
variable {o e:Expr} {es:List Expr} {to:TE} {t:TA} {name:Str} {apos cpos:Pos} {T id:String} {r:V->List V->Hp->VK->Prop}
/- xs.append(e),list.index on a module's tuple .. are MtR facts of 06m -/
end
noncomputable def MtM (X:Cx) (id:String) (r:V->List V->Hp->VK->Prop):Prop :=
 ∀ (pins:List (Addr×Obj)) (s:Shared) (σ:St) (H:Hp) (x:V) (xs:List V) (v:Value) (us:List Value) (Q:VK),Inv X pins σ H s->RelV x v->Vals xs us->r x xs H Q ->
  wpAny (model X.prog X.w) X.A (call (.builtin id) (v :: us)) (EP X pins σ Q) X.xe s
theorem Vals.one:∀ {x:V} {us:List Value},Vals [x] us->∃ u,us=[u]/\RelV x u:=by
 intro x us h
 cases h with
 | cons r t=>cases t; exact ⟨_,rfl,r⟩
section
variable {X:Cx} {pins:List (Addr×Obj)} {σ:St} {H:Hp} {s:Shared} {l b:Addr} {xs ys zs:List V}
theorem Inv.lset {its its':List Value} {n:Nat} {f:Array Value->Array Value} {t':Nat} (I:Inv X pins σ H s) (hH:H l=some (.lst xs))
  (e:s.heap.get? l=some { cls:=.type "list",data:=.seq its.toArray n }) (hf:f its.toArray=its'.toArray) (hv:Vals ys its') (hz:ys.length<=sizeLine) :
  Inv X pins σ (upd H l (.lst ys)) { s with heap:=s.heap.update l (Obj.mapSeq f),toks:=t' }:=by
 have q:=PySem.IsL.update e f
 rw [hf] at q
 refine I.write (x:=l) (e:=l) (by rw [hH]; exact trivial) (.inl rfl) (fun b' u hb hu=>(Heap.get?_update_other s.heap (Obj.mapSeq f) (Ne.symm hb)).trans hu) ⟨_,q⟩ ?_
 exact ⟨hz,its',_,hv,q⟩
theorem Inv.lnew {its:List Value} {t':Nat} (I:Inv X pins σ H s) (hv:Vals ys its) (hz:ys.length<=sizeLine) :
  Inv X pins σ (upd H s.heap.objs.size (.lst ys)) { s with heap:=s.heap.push { cls:=.type "list",data:=.seq its.toArray },toks:=t' } :=
 I.laid (fun _ _ q=>Heap.get?_push_of_some _ q) (Nat.le_refl _) ⟨hz,its,0,hv,Heap.get?_push_size _ rfl⟩
theorem Inv.lstM (I:Inv X pins σ H s) (hH:H l=some (.lst xs)):xs.length<=sizeLine/\∃ (its:List Value) (n:Nat),Vals xs its/\xs.length=its.length/\s.heap.get? l=some { cls:=.type "list",data:=.seq its.toArray n }:=by
 obtain ⟨z,its,n,r,e⟩:=I.hok l _ hH
 exact ⟨z,its,n,r,r.length,e⟩
end
section
variable {X:Cx}
noncomputable def rAppend:V->List V->Hp->VK->Prop:=fun x vs H Q=>∃ l xs y,x=.ref l/\vs=[y]/\H l=some (.lst xs)/\xs.length < sizeLine/\Q .non (upd H l (.lst (xs++[y])))
theorem mt_append:MtM X "list.append" rAppend:=by
 intro pins s σ H x vs v us Q I rx rv h
 obtain ⟨l,xs,y,rfl,rfl,hH,hz,q⟩:=h
 cases rx
 obtain ⟨u,rfl,ru⟩:=rv.one
 obtain ⟨z,its,n,r,hl,e⟩:=I.lstM hH
 refine call_meets F.slot_list_append ⟨_,e,rfl⟩ F.entry_list_append (F.args_list_append_2 _ _) (PySem.list_append l its.toArray n u (by rw [List.size_toArray]; lia)) ⟨e,?_⟩
 refine ⟨.non,_,I.lset (its':=its++[u]) hH e (by simp) (r.append (.cons ru .nil)) ?_,rfl,q⟩
 rw [List.length_append,List.length_singleton]
 lia
end
section
variable {κ:Type} [DecidableEq κ]
noncomputable def valV (kvs:List (κ×V)) (k:κ):Option V:=(kvs.find? fun kv=>decide (kv.1=k)).map (·.2)
noncomputable def putK (kvs:List (κ×V)) (k:κ) (v:V):List (κ×V) :=
 if (kvs.any fun kv=>decide (kv.1=k))=true then kvs.map (fun kv=>if kv.1=k then (kv.1,v) else kv) else kvs++[(k,v)]
theorem valV_pos {p:κ×V} {r:List (κ×V)} {k:κ} (e:p.1=k):valV (p :: r) k=some p.2:=by simp [valV,List.find?_cons,e]
theorem valV_neg {p:κ×V} {r:List (κ×V)} {k:κ} (e:¬ p.1=k):valV (p :: r) k=valV r k:=by simp [valV,List.find?_cons,e]
theorem valV_any (k:κ):∀ kvs:List (κ×V),(kvs.any fun kv=>decide (kv.1=k))=(valV kvs k).isSome
 | []=>rfl
 | p :: r=>by
  rw [List.any_cons]
  by_cases e:p.1=k
  ·simp only [valV_pos e,decide_eq_true e,Bool.true_or,Option.isSome_some]
  ·rw [valV_neg e,decide_eq_false e,Bool.false_or]; exact valV_any k r
theorem length_putK (kvs:List (κ×V)) (k:κ) (v:V):(putK kvs k v).length<=kvs.length+1:=by
 unfold putK
 split
 ·rw [List.length_map]; lia
 ·rw [List.length_append,List.length_cons,List.length_nil]; lia
theorem RelO.isSome_eq {o:Option V} {u:Option Value} (r:RelO o u):o.isSome=u.isSome:=by
 cases o with
 | none=>cases u with
  | none=>rfl
  | some _=>exact (show False from r).elim
 | some _=>cases u with
  | none=>exact (show False from r).elim
  | some _=>rfl
theorem KV.val {kvs:List (κ×V)} {vs:List (κ×Value)} (r:KV kvs vs) (k:κ):RelO (valV kvs k) (valueAt vs k):=by
 unfold KV at r
 induction r with
 | nil=>exact True.intro
 | @cons p q ps qs h t ih =>
  obtain ⟨h1,h2⟩:=h
  by_cases e:p.1=k
  ·have e':q.1=k:=h1.symm.trans e
   have b:valueAt (q :: qs) k=some q.2:=by simp [valueAt,List.find?_cons,e']
   rw [valV_pos e,b]; exact h2
  ·have e':¬ q.1=k:=fun z=>e (h1.trans z)
   have b:valueAt (q :: qs) k=valueAt qs k:=by simp [valueAt,List.find?_cons,e']
   rw [valV_neg e,b]; exact ih
theorem KV.any {kvs:List (κ×V)} {vs:List (κ×Value)} (r:KV kvs vs) (k:κ):(kvs.any fun kv=>decide (kv.1=k))=vs.any fun kv=>decide (kv.1=k):=by
 unfold KV at r
 induction r with
 | nil=>rfl
 | cons h t ih=>rw [List.any_cons,List.any_cons,ih,h.1]
theorem KV.repl {kvs:List (κ×V)} {vs:List (κ×Value)} (r:KV kvs vs) (k:κ) {y:V} {u:Value} (ry:RelV y u) :
  KV (kvs.map fun kv=>if kv.1=k then (kv.1,y) else kv) (vs.map fun kv=>if kv.1=k then (kv.1,u) else kv):=by
 unfold KV at r ⊢
 induction r with
 | nil=>exact .nil
 | @cons p q ps qs h t ih =>
  rw [List.map_cons,List.map_cons]
  refine .cons ?_ ih
  obtain ⟨h1,h2⟩:=h
  by_cases e:p.1=k
  ·rw [if_pos e,if_pos (h1.symm.trans e)]; exact ⟨h1,ry⟩
  ·rw [if_neg e,if_neg (fun z=>e (h1.trans z))]; exact ⟨h1,h2⟩
theorem KV.put {kvs:List (κ×V)} {vs:List (κ×Value)} (r:KV kvs vs) (k:κ) {y:V} {u:Value} (ry:RelV y u):KV (putK kvs k y) (stored vs k u):=by
 unfold putK stored
 rw [r.any k]
 by_cases e:(vs.any fun kv=>decide (kv.1=k))=true
 ·rw [if_pos e,if_pos e]; exact r.repl k ry
 ·rw [if_neg e,if_neg e]; exact Paired.snoc r ⟨rfl,ry⟩
theorem KV.length {kvs:List (κ×V)} {vs:List (κ×Value)} (r:KV kvs vs):kvs.length=vs.length:=Paired.length r
end
theorem kV_is {P:Program} {w:World} {k:Key} {u:Value} (r:RelV (kV k) u):(mixKind P w).is k u=true:=by
 cases k with
 | inl i=>obtain ⟨t,e⟩:=(show ∃ t,u=Value.int i t from r); subst e; exact mixKind_int P w i t
 | inr x=>obtain ⟨t,e⟩:=(show ∃ t,u=Value.str x t from r); subst e; exact mixKind_str P w x t
theorem items_are {P:Program} {w:World}:∀ {ks:List Key} {us:List Value},Vals (ks.map kV) us->ItemsAre (mixKind P w) ks us
 | [],_,r=>by rw [List.map_nil] at r; cases r; exact .nil
 | k :: ks,_,r=>by
  rw [List.map_cons] at r
  cases r with
  | cons h t=>exact .cons (kV_is h) (items_are t)
noncomputable abbrev KT (H:Hp):List (List Key×V)->List (List Key×Addr×Value)->Prop:=Paired fun p q=>p.1=q.1/\H q.2.1=some (.tup (p.1.map kV))/\RelV p.2 q.2.2
theorem KT.val {H:Hp} {kvs:List (List Key×V)} {xs:List (List Key×Addr×Value)} (r:KT H kvs xs) (k:List Key):RelO (valV kvs k) ((atKey xs k).map (·.2)):=by
 induction r with
 | nil=>exact True.intro
 | @cons p q ps qs h t ih =>
  obtain ⟨h1,_,h2⟩:=h
  by_cases e:p.1=k
  ·have e':q.1=k:=h1.symm.trans e
   have b:atKey (q :: qs) k=some q.2:=by simp [atKey,List.find?_cons,e']
   rw [valV_pos e,b]; exact h2
  ·have e':¬ q.1=k:=fun z=>e (h1.trans z)
   have b:atKey (q :: qs) k=atKey qs k:=by simp [atKey,List.find?_cons,e']
   rw [valV_neg e,b]; exact ih
theorem KT.repl {H:Hp} {kvs:List (List Key×V)} {xs:List (List Key×Addr×Value)} (r:KT H kvs xs) (k:List Key) {y:V} {u:Value} (ry:RelV y u) :
  KT H (kvs.map fun kv=>if kv.1=k then (kv.1,y) else kv) (xs.map (putAt k u)):=by
 induction r with
 | nil=>exact .nil
 | @cons p q ps qs h t ih =>
  rw [List.map_cons,List.map_cons]
  refine .cons ?_ ih
  obtain ⟨h1,h2,h3⟩:=h
  unfold putAt
  by_cases e:p.1=k
  ·rw [if_pos e,if_pos (h1.symm.trans e)]; exact ⟨h1,h2,ry⟩
  ·rw [if_neg e,if_neg (fun z=>e (h1.trans z))]; exact ⟨h1,h2,h3⟩
theorem KT.put {H:Hp} {kvs:List (List Key×V)} {xs:List (List Key×Addr×Value)} (r:KT H kvs xs) (k:List Key) {b:Addr} {y:V} {u:Value} (hb:H b=some (.tup (k.map kV))) (ry:RelV y u) :
  KT H (putK kvs k y) (storedH xs k b u):=by
 have e:(kvs.any fun kv=>decide (kv.1=k))=(atKey xs k).isSome:=by
  rw [valV_any,(r.val k).isSome_eq,Option.isSome_map]
 unfold putK storedH
 rw [e]
 by_cases q:(atKey xs k).isSome=true
 ·rw [if_pos q,if_pos q]; exact r.repl k ry
 ·rw [if_neg q,if_neg q]; exact Paired.snoc r ⟨rfl,hb,ry⟩
theorem KT.keeps {H H':Hp} {kvs:List (List Key×V)} {xs:List (List Key×Addr×Value)} (r:KT H kvs xs) (ht:∀ b ys,H b=some (.tup ys)->H' b=some (.tup ys)):KT H' kvs xs :=
 Paired.mapP r fun _ _ z=>⟨z.1,ht _ _ z.2.1,z.2.2⟩
section
variable {P:Program} {w:World} {H:Hp} {h:Heap} {a:Addr}
theorem rd_of {u:HO} (ok:HOk P w H h) (e:Rd H a u):ObjOk P w H h a u:=e.ok ok
theorem dk_rd {kvs:List (Key×V)} (ok:HOk P w H h) (e:Rd H a (.dK kvs)):kvs.length<=sizeLine/\(a == sysModules)=false/\∃ vs,KV kvs vs/\h.DictOf (mixKind P w) a vs :=
 show ObjOk P w H h a (.dK kvs) from rd_of ok e
theorem dk_of {kvs:List (Key×V)} (ok:HOk P w H h) (e:H a=some (.dK kvs)):kvs.length<=sizeLine/\(a == sysModules)=false/\∃ vs,KV kvs vs/\h.DictOf (mixKind P w) a vs:=dk_rd ok (.inl e)
theorem key_of {ks:List Key} (ok:HOk P w H h) (e:H a=some (.tup (ks.map kV))):(tupleKind (mixKind P w)).is h ks a:=by
 obtain ⟨_,its,r,o,h1,h2,n,h3⟩:=(show ObjOk P w H h a (.tup (ks.map kV)) from ok a _ e)
 exact ⟨o,its.toArray,n,h1,h2,h3,by simpa using items_are r⟩
theorem dt_rd {kvs:List (List Key×V)} (ok:HOk P w H h) (e:Rd H a (.dT kvs)):kvs.length<=sizeLine/\(a == sysModules)=false /\
  ∃ xs,KT H kvs xs/\h.DictOfH (tupleKind (mixKind P w)) a xs:=by
 obtain ⟨z,y,xs,r,o,es,ep,h1,h2,h3,h4,h5⟩:=(show ObjOk P w H h a (.dT kvs) from rd_of ok e)
 refine ⟨z,y,xs,r,o,es,ep,h1,h2,h3,h4,fun x hx=>?_,h5⟩
 have all:∀ {l:List (List Key×V)} {m:List (List Key×Addr×Value)},KT H l m->∀ x∈m,(tupleKind (mixKind P w)).is h x.1 x.2.1:=by
  intro l m q
  induction q with
  | nil=>intro x hx; exact nomatch hx
  | @cons p q ps qs hq t ih =>
   intro x hx
   rcases List.mem_cons.mp hx with e | hx
   ·subst e
    exact key_of ok (by rw [← hq.1]; exact hq.2.1)
   ·exact ih x hx
 exact all r x hx
theorem dt_of {kvs:List (List Key×V)} (ok:HOk P w H h) (e:H a=some (.dT kvs)):kvs.length<=sizeLine/\(a == sysModules)=false /\
  ∃ xs,KT H kvs xs/\h.DictOfH (tupleKind (mixKind P w)) a xs:=dt_rd ok (.inl e)
end
noncomputable def DGet (H:Hp) (a:Addr) (y:V) (r:Option V):Prop :=
 (∃ kvs k,Rd H a (.dK kvs)/\y=kV k/\r=valV kvs k)\/∃ kvs k b,Rd H a (.dT kvs)/\y=.ref b/\H b=some (.tup (k.map kV))/\r=valV kvs k
noncomputable def DPut (H:Hp) (a:Addr) (y v:V) (H':Hp):Prop :=
 (∃ kvs k,H a=some (.dK kvs)/\y=kV k/\kvs.length < sizeLine/\H'=upd H a (.dK (putK kvs k v))) \/
 ∃ kvs k b,H a=some (.dT kvs)/\y=.ref b/\H b=some (.tup (k.map kV))/\kvs.length < sizeLine/\H'=upd H a (.dT (putK kvs k v))
theorem DGet.k {H:Hp} {a:Addr} {kvs:List (Key×V)} {k:Key} (e:H a=some (.dK kvs)):DGet H a (kV k) (valV kvs k):=.inl ⟨kvs,k,.inl e,rfl,rfl⟩
theorem DGet.t {H:Hp} {a b:Addr} {kvs:List (List Key×V)} {k:List Key} (e:H a=some (.dT kvs)) (eb:H b=some (.tup (k.map kV))):DGet H a (.ref b) (valV kvs k):=.inr ⟨kvs,k,b,.inl e,rfl,eb,rfl⟩
theorem DPut.k {H:Hp} {a:Addr} {kvs:List (Key×V)} {k:Key} {v:V} (e:H a=some (.dK kvs)) (hl:kvs.length < sizeLine):DPut H a (kV k) v (upd H a (.dK (putK kvs k v))):=.inl ⟨kvs,k,e,rfl,hl,rfl⟩
theorem DPut.t {H:Hp} {a b:Addr} {kvs:List (List Key×V)} {k:List Key} {v:V} (e:H a=some (.dT kvs)) (eb:H b=some (.tup (k.map kV))) (hl:kvs.length < sizeLine) :
  DPut H a (.ref b) v (upd H a (.dT (putK kvs k v))):=.inr ⟨kvs,k,b,e,rfl,eb,hl,rfl⟩
section
variable {X:Cx} {pins:List (Addr×Obj)} {σ:St} {H:Hp} {s:Shared} {a:Addr} {y v:V} {u r:Value} {o:Option V} {A:Around} {E:Value->Shared->Prop}
theorem Inv.big (I:Inv X pins σ H s):sysModules < s.heap.objs.size:=by
 have h:mainGlobals < s.heap.objs.size:=(I.mod.glob.keeps I.bk).lt
 exact Nat.lt_trans (by decide) h
theorem d_getItem {Q:Value->Shared->Prop} (hu:A.units+1 < cLine) (I:Inv X pins σ H s) (g:DGet H a y (some v)) (ry:RelV y u) (h:∀ w' s',Inv X pins σ H s'->RelV v w'->Q w' s') :
  wpAny (model X.prog X.w) A (getItem (.ref a) u) Q E s:=by
 rcases g with ⟨kvs,k,e,ey,l⟩ | ⟨kvs,k,b,e,ey,eb,l⟩
 ·subst ey
  obtain ⟨z,hd,vs,rel,dd⟩:=dk_rd I.hok e
  obtain ⟨w',hw,rw'⟩:=RelO.some_of (v:=v) (o:=valueAt vs k) (by rw [l]; exact rel.val k)
  exact wpAny_getItem_of (kV_is ry) dd.mapOf hw (h w' _ (I.tok _) rw')
 ·subst ey
  cases (show u=Value.ref b from ry)
  obtain ⟨z,hd,xs,rel,dd⟩:=dt_rd I.hok e
  obtain ⟨w',hw,rw'⟩:=RelO.some_of (v:=v) (o:=(atKey xs k).map (·.2)) (by rw [l]; exact rel.val k)
  obtain ⟨p,hp,hp2⟩:=Option.map_eq_some_iff.mp hw
  refine wpAny_getItem_heap (tupleKind_room_in1 hu) (key_of I.hok eb) dd hp ?_
  rw [hp2]
  exact h w' _ (I.tok _) rw'
theorem d_write {h':Heap} {t':Nat} {ob:HO} (I:Inv X pins σ H s) (mu:Mut (H a)) (hs:Heap.SameBut a s.heap h') (he:∃ q,h'.get? a=some q) (new:ObjOk X.prog X.w (upd H a ob) h' a ob) :
  Inv X pins σ (upd H a ob) { s with heap:=h',toks:=t' } :=
 I.write (x:=a) (e:=a) mu (.inl rfl) (fun b q hb z=>(hs.2 b hb).trans z) he new
theorem dk_new {P:Program} {w:World} {H':Hp} {h':Heap} {kvs:List (Key×V)} {vs:List (Key×Value)} (z:kvs.length<=sizeLine) (hd:(a == sysModules)=false) (rel:KV kvs vs) (dd:h'.DictOf (mixKind P w) a vs) :
  ObjOk P w H' h' a (.dK kvs):=⟨z,hd,vs,rel,dd⟩
theorem d_setItem {H':Hp} {Q:Unit->Shared->Prop} (hu:A.units+1 < cLine) (I:Inv X pins σ H s) (g:DPut H a y v H') (ry:RelV y u) (rv:RelV v r) (h:∀ s',Inv X pins σ H' s'->Q () s') :
  wpAny (model X.prog X.w) A (setItem (.ref a) u r) Q E s:=by
 rcases g with ⟨kvs,k,e,ey,l,eH⟩ | ⟨kvs,k,b,e,ey,eb,l,eH⟩
 ·subst ey eH
  obtain ⟨z,hd,vs,rel,dd⟩:=dk_of I.hok e
  have hz:vs.length<=sizeLine:=by rw [← rel.length]; exact z
  have hl:(putK kvs k v).length<=sizeLine:=by have:=length_putK kvs k v; lia
  refine wpAny_setItem_pairs (hsz:=hz) (kV_is ry) dd fun h' dd' hs=>h _ ?_
  have he:∃ q,h'.get? a=some q:=let ⟨q,_,_,hq,_⟩:=dd'; ⟨q,hq⟩
  exact d_write I (by rw [e]; exact True.intro) hs he (dk_new hl hd (rel.put k rv) dd')
 ·subst ey eH
  cases (show u=Value.ref b from ry)
  obtain ⟨z,hd,xs,rel,dd⟩:=dt_of I.hok e
  have hz:xs.length<=sizeLine:=by rw [← Paired.length rel]; exact z
  have hl:(putK kvs k v).length<=sizeLine:=by have:=length_putK kvs k v; lia
  refine wpAny_setItem_heap (hsz:=hz) (tupleKind_room_in1 hu) (key_of I.hok eb) dd fun h' dd' hs=>h _ ?_
  obtain ⟨q,es,ep,hq,h2,h3,h4,_,h5⟩:=dd'
  refine d_write I (by rw [e]; exact True.intro) hs ⟨q,hq⟩ ⟨hl,hd,_,(rel.put k eb rv).keeps fun c ys ec=>?_,q,es,ep,hq,h2,h3,h4,h5⟩
  rw [upd_ne (ne_of ec e (fun z=>nomatch z))]
  exact ec
end
section
variable {X:Cx} {pins:List (Addr×Obj)} {σ:St} {H:Hp} {s:Shared} {a:Addr} {kvs:List (Key×V)} {k:Key} {u:Value} {A:Around} {E:Value->Shared->Prop}
theorem d_len {Q:Value->Shared->Prop} (I:Inv X pins σ H s) (e:Rd H a (.dK kvs)) (h:∀ t s',Inv X pins σ H s'->Q (.int kvs.length t) s'):wpAny (model X.prog X.w) A (call (.builtin "len") [.ref a]) Q E s:=by
 obtain ⟨z,hd,vs,rel,dd⟩:=dk_rd I.hok e
 refine call_len_dict hd dd (by rw [← rel.length]; rw [sizeLine_eq] at z; lia) ?_
 rw [← rel.length]
 exact h _ _ (I.tok _)
theorem d_truth {Q:Bool->Shared->Prop} (I:Inv X pins σ H s) (e:Rd H a (.dK kvs)) (h:∀ s',Inv X pins σ H s'->Q (!kvs.isEmpty) s'):wpAny (model X.prog X.w) A (truthy (.ref a)) Q E s:=by
 obtain ⟨z,hd,vs,rel,dd⟩:=dk_rd I.hok e
 refine wpAny_truthy_dict hd dd (by rw [← rel.length]; rw [sizeLine_eq] at z; lia) ?_
 have q:kvs.isEmpty=vs.isEmpty:=by cases rel <;> rfl
 rw [← q]
 exact h _ (I.tok _)
end
theorem dict_typeIs {X:Cx} {pins:List (Addr×Obj)} {σ:St} {H:Hp} {s:Shared} {a:Addr} {y:V} {o:Option V} (I:Inv X pins σ H s) (g:DGet H a y o):s.TypeIs (.ref a) "dict":=by
 rcases g with ⟨kvs,k,e,_,_⟩ | ⟨kvs,k,b,e,_,_,_⟩
 ·obtain ⟨_,_,vs,_,dd⟩:=dk_rd I.hok e
  exact dd.typeIs
 ·obtain ⟨_,_,xs,_,dd⟩:=dt_rd I.hok e
  exact dd.typeIs
theorem dk_empty {P:Program} {w:World} {H:Hp} (h:Heap) (hb:sysModules < h.objs.size):ObjOk P w H (h.push { cls:=.type "dict",data:=.dict #[] }) h.objs.size (.dK []) :=
 ⟨Nat.zero_le _,beq_eq_false_iff_ne.mpr (Ne.symm (Nat.ne_of_lt hb)),[],.nil,Heap.DictOf.new h⟩
noncomputable def tDNewK:TE:=fun _ H Q=>∀ p,H p=none->Q (.ref p) (upd H p (.dK []))
section
variable {X:Cx} {pos:Pos}
theorem pe_dnewK:PE X (.Dict [] [] pos) tDNewK:=fun pins s σ H Q I h =>
 wpAny_Dict_empty ⟨.ref s.heap.objs.size,_,I.laid (a:=s.heap.objs.size) (o:=.dK []) (t':=s.toks) (fun _ _ q=>Heap.get?_push_of_some _ q) (Nat.le_refl _) (dk_empty s.heap I.big),rfl,h _ (I.hok.fresh (Nat.le_refl _))⟩
end
structure M1 (X:Cx) (o:Expr) (m:Str) (apos:Pos) (e:Expr) (cpos:Pos):Prop where
 base:attributeBase o m X.env (eval o X.env)=eval o X.env
 few:((backTo cpos (starEach [e] X.env)).all (fun x=>!x.1)&&(backToKw cpos (keywordEach [] X.env)).all (fun x=>x.1.isSome)
  && decide (([e]:List Expr).length+([]:List Keyword).length+(if ([]:List Keyword).isEmpty then 0 else 1) < 30))=true
 line:(apos.endLine == cpos.line)=true
 trees:backTo cpos (starEach [e] X.env)=[(false,eval e X.env)]
structure M2 (X:Cx) (o:Expr) (m:Str) (apos:Pos) (e f:Expr) (cpos:Pos):Prop where
 base:attributeBase o m X.env (eval o X.env)=eval o X.env
 few:((backTo cpos (starEach [e,f] X.env)).all (fun x=>!x.1)&&(backToKw cpos (keywordEach [] X.env)).all (fun x=>x.1.isSome)
  && decide (([e,f]:List Expr).length+([]:List Keyword).length+(if ([]:List Keyword).isEmpty then 0 else 1) < 30))=true
 line:(apos.endLine == cpos.line)=true
 trees:backTo cpos (starEach [e,f] X.env)=[(false,eval e X.env),(false,eval f X.env)]
noncomputable def IsD (H:Hp) (a:Addr):Prop:=(∃ kvs,Rd H a (.dK kvs))\/∃ kvs,Rd H a (.dT kvs)
theorem isD_at {X:Cx} {pins:List (Addr×Obj)} {σ:St} {H:Hp} {s:Shared} {a:Addr} (I:Inv X pins σ H s) (d:IsD H a) :
  s.TypeIs (.ref a) "dict"/\(∀ b,Value.ref a=.ref b->∃ ob,s.heap.get? b=some ob/\ob.dict=none)/\(a == sysModules)=false:=by
 rcases d with ⟨kvs,e⟩ | ⟨kvs,e⟩
 ·obtain ⟨_,hd,vs,_,dd⟩:=dk_rd I.hok e
  refine ⟨dd.typeIs,fun b q=>?_,hd⟩
  cases q
  obtain ⟨ob,_,_,h1,h2,_⟩:=dd
  exact ⟨ob,h1,h2.2.1⟩
 ·obtain ⟨_,hd,xs,_,dd⟩:=dt_rd I.hok e
  refine ⟨dd.typeIs,fun b q=>?_,hd⟩
  cases q
  obtain ⟨ob,_,_,h1,h2,_⟩:=dd
  exact ⟨ob,h1,h2.2.1⟩
end L2
namespace Att
open PySem PySem.W PySem.Calls PyProof.Rows
theorem ints_of_wellAll {P:Params} {h:Heap}:∀ (ns:List Int) (vs:List Value),WellAll P h vs (ns.map WData.int)->IntsAre vs ns:=by
 intro ns
 induction ns with
 | nil =>
  intro vs w
  rw [List.map_nil] at w
  cases w
  exact .nil
 | cons n ns ih =>
  intro vs w
  rw [List.map_cons] at w
  cases w with
  | cons a b =>
   cases a
   exact .cons _ _ (ih _ b)
theorem script_of {l:OpenLaw} {n:Nat} (hn:l.most=some n) {P:Params} {h:Heap} {args:List WData} {vals:List Value}
  (hpre:l.row.toRowW.claim.pre args=true) (hwl:WellAll P h vals args) :
  ∃ a vs ns,vals=[Value.ref a]/\args=[WData.list (ns.map WData.int)]/\h.get? a=some { cls:=.type "list",data:=.seq vs.toArray }/\IntsAre vs ns/\ns.length<=n:=by
 have hsh:WShape.hasAll [] args [.list .int]=true:=(pre_splitW hpre).1
 have hc:l.pre.holds [] { args:=args } = true:=(pre_splitW hpre).2
 obtain ⟨d,r,rfl,h1,h2⟩:=hasAllW_cons hsh
 obtain rfl:=hasAllW_nil h2
 obtain ⟨xs,rfl,h3⟩:=hasW_list h1
 obtain ⟨ns,rfl⟩:=items_int h3
 have hlen:ns.length<=n:=by
  unfold OpenLaw.pre at hc
  have h4:(WTm.not (.lt (.lit (.int (n:Int))) (.len (.arg 0)))).holds [] { args:=[.list (ns.map .int)] } = true:=by
   have h4:=(holds_andW hc).1
   rw [hn] at h4
   exact h4
  have h5:=condW_of h4 (w_not (w_lt w_lit (w_len_list (w_arg rfl))))
  rw [List.length_map] at h5
  refine Nat.le_of_not_lt fun q=>?_
  have q':(n:Int) < ((ns.length:Nat):Int):=by lia
  first
   | (rw [decide_eq_true q'] at h5; exact absurd h5 (by decide))
   | (simp at h5; lia)
 cases hwl with
 | cons w1 w2 =>
  cases w2
  cases w1 with
  | list ho hall=>exact ⟨_,_,ns,rfl,rfl,ho,ints_of_wellAll ns _ hall,hlen⟩
theorem post_true (l:OpenLaw) (args:List WData):l.row.toRowW.claim.post args (.bool true) args=true :=
 postW_of (r:=l.row.toRowW) (X:=(true == true))
  (show WShape.has [] (.bool true) .bool=true by first | rfl | decide | simp [WShape.has,WShape.arms,WShape.armsAll])
  (show (WTm.eq .res (.lit (.bool true))).value [] { args:=args,res:=some (.bool true),after:=args } = some (.bool (true == true)) from w_eq_bool (w_res rfl) w_lit) rfl
theorem attach_call {l:OpenLaw} {n:Nat} {q:Program} {loose:List Str} {XP:(Str->Option Value)->Heap->Prop} {YP:World->Heap->Prop} {d:DefRec}
  (hn:l.most=some n) (hdf:d.params.defaults=[])
  (call:∀ (w:World) (s₀ s₁:Shared) (mg mb:Str->Option Value) (fa:Addr) (o:Obj) (pm cd doc:Value) (a:Addr) (vs:List Value) (ns:List Int),
   Ground q loose [] XP w s₀ mg mb s₁.heap->YP w s₁.heap ->
   s₁.heap.get? fa=some o->o.data=.func (docDef d.name d.params d.body d.scope pm cd doc)->s₁.heap.CodeRec cd d.name->mg d.name=some (.ref fa) ->
   s₁.heap.get? a=some { cls:=.type "list",data:=.seq vs.toArray }->IntsAre vs ns->ns.length<=n->s₁.gens=#[] ->
   codeAny (model l.prog w) callerA (.call (.ref fa) ⟨[.ref a],[]⟩) (fun r s'=>r=.ok (.ret (.bool true))/\OldK s₁.heap s'.heap/\s'.os=s₁.os/\AllBare s'.gens) s₁) :
  WalkO q loose XP YP l.row.toRowW d [] (fun f vs=>PySem.call f vs):=by
 intro w s₀ s₁ mg mb G Y fa o pm cd doc dV kV ho hd hcd hD hmg hg args vals as hpre hlay hrd hwl hlo
 obtain rfl:dV=.none:=Dflts.none hD hdf
 obtain rfl:kV=.none:=Dflts.noKw hD
 obtain ⟨a,vs,ns,rfl,rfl,hobj,hints,hlen⟩:=script_of hn hpre hwl
 refine enter_call (codeAny_mono (call w s₀ s₁ mg mb fa o pm cd doc a vs ns G Y ho (fd_plain hd) hcd hmg hobj hints hlen hg) fun r s' hq=>?_)
 obtain ⟨rfl,h2,h3,h4⟩:=hq
 exact ⟨.inl ⟨.bool true,.bool true,[],rfl,fun _=>rfl,.bool true,post_true l _,fun _=>⟨List.Pairwise.nil,fun _ hm=>(nomatch hm)⟩⟩,h2,h3,h4⟩
end Att
namespace L2
open PySem PySem.Spec PyProof.Rows
theorem vals_ints:∀ {vs:List Value} {ns:List Int},IntsAre vs ns->Vals (ns.map V.int) vs
 | _,_,.nil=>.nil
 | _,_,.cons n t h=>.cons ⟨t,rfl⟩ (vals_ints h)
noncomputable def Only (H:Hp):Prop:=∀ b,H b=none\/∃ o xs,H b=some (.frz o (.lst xs))
theorem law_call {P:Program} {w:World} {K:PySem.W.Frag} {mg mb:Str->Option Value} {CX:CXT} {k:Nat} {fa a:Addr} {fd:FuncData} {x:Str} {sp:Sp} {s₁:Shared} {vs:List Value} {ns:List Int}
  (KX:K.In s₁.heap) (hns:s₁.heap.Ns mainGlobals mg) (hb:s₁.heap.Ns builtinsNs mb) (hbb:∀ x:Str,x≠"__name__"->mb x=bootBuiltins x) (hlim:s₁.heap.NoLimit) (hg:s₁.gens=#[])
  (ha:s₁.heap.get? a=some { cls:=.type "list",data:=.seq vs.toArray }) (hi:IntsAre vs ns) (hl:ns.length<=sizeLine) (hr:Room k callerA)
  (F:∀ base:Heap,K.In base->base.Ns mainGlobals mg->FnOk P w K mg base CX k fa fd [x] sp) (hbind:∀ (s:Shared) (u:Value),BindsTo s fd ⟨[u],[]⟩ [(x,u)])
  (hsp:∀ H:Hp,Only H->SqL K H a (ns.map V.int)->sp [.ref a] H (fun v _=>v=.bl true) fun _ _ _=>False)
  (hCX:∀ H e s',CX [] H s₁ (fun _ _ _=>False) e s'->False) :
  codeAny (model P w) callerA (.call (.ref fa) ⟨[.ref a],[]⟩) (fun r s'=>r=.ok (.ret (.bool true))/\OldK s₁.heap s'.heap/\s'.os=s₁.os/\AllBare s'.gens) s₁:=by
 have rv:=vals_ints hi
 have lenV:=hi.length
 have core:∀ H:Hp,Only H->SqL K H a (ns.map V.int)->HOk P w H s₁.heap->(∀ b,H b≠none->b=a)->(H a≠none->K.lookup a=none) ->
   codeAny (model P w) callerA (.call (.ref fa) ⟨[.ref a],[]⟩) (fun r s'=>r=.ok (.ret (.bool true))/\OldK s₁.heap s'.heap/\s'.os=s₁.os/\AllBare s'.gens) s₁:=by
  intro H hO hS hok hA hK
  have base_of:∀ {b:Addr} {o:Obj},s₁.heap.get? b=some o->H b=none->(hidT s₁.heap H).get? b=some o:=fun e n=>hidT_get e n
  have noA:∀ {b:Addr} {o:Obj} {es:Array DictEntry} {ep:Nat},s₁.heap.get? b=some o->o.data=.dict es ep->H b=none:=fun {b o es ep} e d=>by
   cases q:H b with
   | none=>rfl
   | some u =>
    have e':b=a:=hA b (by rw [q]; simp)
    subst e'
    rw [ha] at e; cases e
    have d':Data.seq vs.toArray _=Data.dict es ep:=d
    cases d'
  have nsK:∀ {b:Addr} {m:Str->Option Value},s₁.heap.Ns b m->(hidT s₁.heap H).Ns b m:=fun {b m} ⟨o,es,ep,e,d,r⟩=>⟨o,es,ep,base_of e (noA e d),d,r⟩
  have hKb:K.In (hidT s₁.heap H):=fun b o e=>base_of (KX b o e) (by
   cases q:H b with
   | none=>rfl
   | some u =>
    have e':b=a:=hA b (by rw [q]; simp)
    subst e'
    rw [hK (by rw [q]; simp)] at e; cases e)
  have hM:Mod K mg (hidT s₁.heap H):=⟨hKb,nsK hns,⟨mb,nsK hb,hbb⟩,let ⟨mc,h1,h2⟩:=hlim; ⟨mc,nsK h1,h2⟩⟩
  have e0:Env0 P w K mg (hidT s₁.heap H) callerA [] s₁ H:=⟨rfl,hM,fun b o e=>of_hidT e,Nat.le_of_eq (hidT_size _ _),trivial,fun b hb=>absurd (show b∈([]:List Addr) from hb) (by simp),hok,.of_eq hg⟩
  refine codeAny_mono ((F _ hKb (nsK hns)).run callerA [] s₁ H ⟨[.ref a],[]⟩ [.ref a] [.ref a] _ _ hr e0 (hbind s₁ (.ref a)) (.cons rfl .nil) (hsp H hO hS)) fun r s' h=>?_
  cases r with
  | error e=>exact (hCX H e s' h).elim
  | ok fl =>
   cases fl with
   | next=>exact False.elim h
   | brk=>exact False.elim h
   | cont=>exact False.elim h
   | ret u =>
    obtain ⟨v,H',os,bare,un,hok',r',q⟩:=h
    have q':v=.bl true:=q
    subst q'
    obtain rfl:u=Value.bool true:=r'
    refine ⟨rfl,OldK.of_keep fun b o e=>?_,os,bare⟩
    cases q:H b with
    | none=>exact un.keep b o e q (by intro z; exact absurd (show b∈([]:List Addr) from z) (by simp)) (by simp)
    | some u =>
     rcases hO b with z | ⟨ob,xs,z⟩
     ·rw [q] at z; cases z
     ·have z2:=un.frzs b ob _ z
      obtain ⟨e1,_⟩:=hok b _ z
      obtain ⟨e2,_⟩:=hok' b _ z2
      rw [e] at e1; cases e1
      exact e2
 cases hk:K.lookup a with
 | some o =>
  have e:=KX a o hk
  rw [ha] at e
  cases e
  refine core (fun _=>none) (fun _=>.inl rfl) (.inr ⟨_,vs.toArray,_,hk,rfl,rfl,rfl,by rw [List.size_toArray,lenV]; exact hl,by simpa using rv⟩) (fun b u z=>by have z':(none:Option HO)=some u:=z; cases z') (fun b z=>absurd rfl z) fun z=>absurd rfl z
 | none =>
  refine core (fun b=>if b=a then some (.frz { cls:=.type "list",data:=.seq vs.toArray } (.lst (ns.map V.int))) else none) (fun b=>?_) (.inl (.inr ⟨{ cls:=.type "list",data:=.seq vs.toArray },if_pos rfl⟩)) (fun b u z=>?_) (fun b z=>?_) fun _=>hk
  ·by_cases hb:b=a
   ·exact .inr ⟨_,_,if_pos hb⟩
   ·exact .inl (if_neg hb)
  ·by_cases hb:b=a
   ·have z':=(if_pos hb).symm.trans z
    cases z'
    subst hb
    exact ⟨ha,by rw [List.length_map]; exact hl,vs,_,rv,ha⟩
   ·have z':=(if_neg hb).symm.trans z
    cases z'
  ·by_cases hb:b=a
   ·exact hb
   ·exact absurd (if_neg hb) z
theorem walk_of {l:PySem.W.OpenLaw} {n k:Nat} {q:Program} {loose:List Str} {XP:(Str->Option Value)->Heap->Prop} {YP:World->Heap->Prop} {d:DefRec} {K:Params->PySem.W.Frag} {CX:World->CXT} {sp:World->Sp} {x:Str}
  (hn:l.most=some n) (hn2:n<=sizeLine) (hdf:d.params.defaults=[]) (hr:Room k callerA)
  (hY:∀ (w:World) (h:Heap),YP w h->(K w.params).In h)
  (F:∀ (w:World) (mg:Str->Option Value) (fa:Addr) (h:Heap),(K w.params).In h->h.Ns mainGlobals mg->mg d.name=some (.ref fa) ->
   ∃ fd:FuncData,(∀ (s:Shared) (u:Value),BindsTo s fd ⟨[u],[]⟩ [(x,u)]) /\
    ∀ base:Heap,(K w.params).In base->base.Ns mainGlobals mg->FnOk l.prog w (K w.params) mg base (CX w) k fa fd [x] (sp w))
  (hsp:∀ (w:World) (H:Hp) (a:Addr) (ns:List Int),ns.length<=n->Only H->SqL (K w.params) H a (ns.map V.int)->sp w [.ref a] H (fun v _=>v=.bl true) fun _ _ _=>False)
  (hCX:∀ (w:World) (H:Hp) (s:Shared) (e:Value) (s':Shared),CX w [] H s (fun _ _ _=>False) e s'->False) :
  PySem.W.WalkO q loose XP YP l.row.toRowW d [] (fun f vs=>PySem.call f vs):=by
 refine Att.attach_call hn hdf fun w s₀ s₁ mg mb fa o pm cd doc a vs ns G Y ho hd hcd hmg hobj hints hlen hg=>?_
 have KX:=hY w _ Y
 obtain ⟨fd,hb,hF⟩:=F w mg fa _ KX G.T.g hmg
 exact law_call KX G.T.g G.T.b G.T.builtins G.T.nolimit hg hobj hints (Nat.le_trans hlen hn2) hr hF hb (fun H hO hS=>hsp w H a ns hlen hO hS) fun H e s'=>hCX w H s₁ e s'
end L2
/- THE LAST THEOREM (shape; LID,My.* are yours):
   My.Adr: a structure of the addresses that your layer names (classes,functions); My.Txt K t: a structure (Prop) of the equations over K;
   My.txt_mk:{K} {implicit addresses ..} (e1:nsIn K mainGlobals "law" = some (some (.ref f))) (e2:K.lookup f=some ⟨oc,od,.func (fnOf "law" "law" params body scope dV kV doc pm an cdv ct),sl⟩) (e3:codeIn K cdv "law" = true) ..:∃ t,My.Txt K t
(the tactic k_is has no namespace: write k_is) -/
namespace L2
open PySem PySem.Spec PyProof.Rows
noncomputable def defArgs (s:Stmt):Arguments:=match s with
 | .FunctionDef _ a _ _ _ _ _ _ _ _=>a
 | _=>{ posonlyargs:=[],args:=[],vararg:=none,kwonlyargs:=[],kw_defaults:=[],kwarg:=none,defaults:=[] }
noncomputable def defBody (s:Stmt):List Stmt:=match s with
 | .FunctionDef _ _ b _ _ _ _ _ _ _=>b
 | _=>[]
noncomputable def defScope (s:Stmt):Scope:=match s with
 | .FunctionDef _ _ _ _ _ _ sc _ _ _=>sc
 | _=>{ kind:=.function,names:=[],isGenerator:=false,isCoroutine:=false }
noncomputable abbrev CX0:CXT:=fun _ _ _ _ _ _=>False
noncomputable abbrev E0:XK:=fun _ _ _=>False
theorem pass0 {X:Cx}:Passes CX0 X E0:=fun _ _ _ _ _ _ _ h=>h.elim
structure Fun (K:PySem.W.Frag) (x qual:Str) (st:Stmt) (f:Addr) (fd:FuncData):Prop where
 ex:∃ (oc:Value) (od:Option Addr) (kV doc pm:Value) (an:Option Addr) (cdv ct:Value) (osl:Array (Option Value)),
  fd=PySem.W.fnOf x qual (defArgs st) (defBody st) (defScope st) .none kV doc pm an cdv ct/\K.lookup f=some ⟨oc,od,.func fd,osl⟩/\PySem.W.codeIn K cdv qual=true
 kp:PySem.W.keepIn K (.ref f)=true
section
variable {P:Program} {w:World} {K:PySem.W.Frag} {mg:Str->Option Value} {base:Heap}
theorem Fun.ok {x qual:Str} {st:Stmt} {f:Addr} {fd:FuncData} {N ps:List Str} {k:Nat} {sp:Sp} (F:Fun K x qual st f fd) (S:FnScope N ps (defScope st)) (len:∀ vs H Q E,sp vs H Q E->vs.length=ps.length)
  (hbody:∀ (cdv:Value) (A:Around) (outer:List Env) (s:Shared) (H:Hp) (vs:List V) (Q:VK) (E:XK),Room k (A.deeper (envOfC qual (defScope st) s.heap.objs.size f cdv))->sp vs H Q E ->
   ∃ t,PSs (cxOf CX0 P w K mg base N qual (defScope st) f cdv A outer s H E).nox (defBody st) t/\t { nx:=fun _ H'=>Q .non H',rt:=Q } (start N vs) H):FnOk P w K mg base CX0 (k+1) f fd ps sp:=by
 obtain ⟨oc,od,kV,doc,pm,an,cdv,ct,osl,rfl,lk,hcd⟩:=F.ex
 refine fn_of lk hcd S len fun A outer s H vs Q E hr hsp=>?_
 obtain ⟨t,h,q⟩:=hbody cdv A outer s H vs Q E hr hsp
 exact ⟨t,h.nox,q⟩
theorem Fun.binds {x qual:Str} {st:Stmt} {f:Addr} {fd:FuncData} {ps:List Str} (F:Fun K x qual st f fd)
  (h:∀ (kV doc pm:Value) (an:Option Addr) (cdv ct:Value) (us:List Value),us.length=ps.length->bindArgs (PySem.W.fnOf x qual (defArgs st) (defBody st) (defScope st) .none kV doc pm an cdv ct) ⟨us,[]⟩=pure (ps.zip us)):Binds K fd ps []:=by
 obtain ⟨oc,od,kV,doc,pm,an,cdv,ct,osl,rfl,lk,hcd⟩:=F.ex
 exact .all (h kV doc pm an cdv ct)
theorem fun_mk {x qual:Str} {st:Stmt} {f:Addr} {oc:Value} {od an:Option Addr} {osl:Array (Option Value)} {kV doc pm cdv ct:Value} (l:K.lookup f=some ⟨oc,od,.func (PySem.W.fnOf x qual (defArgs st) (defBody st) (defScope st) .none kV doc pm an cdv ct),osl⟩)
  (c:PySem.W.codeIn K cdv qual=true) (k:PySem.W.keepIn K (.ref f)=true):Fun K x qual st f (PySem.W.fnOf x qual (defArgs st) (defBody st) (defScope st) .none kV doc pm an cdv ct):=⟨⟨oc,od,kV,doc,pm,an,cdv,ct,osl,rfl,l,c⟩,k⟩
end
end L2
set_option autoImplicit false
section
namespace K2
open PySem (Str)
inductive D where
 | non | bl (b:Bool) | int (i:Int) | str (x:Str) | tup (ds:List D) | rol (ds:List D) | rod (kvs:List (D×D)) | ref (a:Nat) | exc (c:Str)
 deriving Inhabited
inductive GO where
 | lst (ds:List D)
 | dic (kvs:List (D×D))
noncomputable abbrev Gp:=Nat->Option GO
noncomputable def updG (G:Gp) (a:Nat) (o:GO):Gp:=fun b=>if b=a then some o else G b
theorem updG_same {G:Gp} {a:Nat} {o:GO}:updG G a o a=some o:=by unfold updG; rw [if_pos rfl]
theorem updG_ne {G:Gp} {a b:Nat} {o:GO} (h:b≠a):updG G a o b=G b:=by unfold updG; rw [if_neg h]
noncomputable abbrev SZ:Nat:=16777216
structure Ex where
 cls:Str
 flds:List (Str×D)
noncomputable abbrev XK2:=Ex->Gp->Prop
noncomputable abbrev St2:=List (Option D)
noncomputable abbrev DK:=D->Gp->Prop
noncomputable abbrev TE2:=XK2->St2->Gp->DK->Prop
noncomputable abbrev TT2:=XK2->St2->Gp->(Bool->Gp->Prop)->Prop
noncomputable abbrev TA2:=XK2->St2->Gp->(List D->Gp->Prop)->Prop
structure Ends2 where
 nx:St2->Gp->Prop
 rt:DK
 bk:St2->Gp->Prop
 ct:St2->Gp->Prop
noncomputable abbrev TS2:=XK2->Ends2->St2->Gp->Prop
noncomputable abbrev Sp2:=List D->Gp->DK->XK2->Prop
noncomputable abbrev R22:=D->D->Gp->DK->Prop
noncomputable def ixN (n:Nat) (i:Int):Option Nat:=if 0<=i then (if i < n then some i.toNat else none) else if -(n:Int)<=i then some (i+n).toNat else none
noncomputable def atI {α:Type} (xs:List α) (i:Int):Option α:=(ixN xs.length i).bind fun j=>xs[j]?
noncomputable def sIx (n d:Nat):Option Int->Nat
 | none=>d
 | some v=>if v < 0 then (v+(n:Int)).toNat else min v.toNat n
noncomputable def cut {α:Type} (xs:List α) (lo hi:Option Int):List α:=(xs.drop (sIx xs.length 0 lo)).take (sIx xs.length xs.length hi - sIx xs.length 0 lo)
mutual
noncomputable def eqD:D->D->Bool
 | .non,.non=>true
 | .bl a,.bl b=>a == b
 | .bl a,.int b=>(if a then 1 else 0) == b
 | .int a,.bl b=>a == (if b then 1 else 0)
 | .int a,.int b=>a == b
 | .str a,.str b=>a == b
 | .tup a,.tup b=>eqDs a b
 | .rol a,.rol b=>eqDs a b
 | _,_=>false
noncomputable def eqDs:List D->List D->Bool
 | [],[]=>true
 | a :: r,b :: t=>eqD a b&&eqDs r t
 | _,_=>false
end
mutual
noncomputable def nr:D->Bool
 | .ref _=>false
 | .exc _=>false
 | .rod _=>false
 | .str x=>x.cps.all (· < 0x110000)
 | .tup ds=>nrs ds
 | .rol ds=>nrs ds
 | _=>true
noncomputable def nrs:List D->Bool
 | []=>true
 | d :: r=>nr d&&nrs r
end
class inductive Sn (G:Gp):Nat->D->D->Prop
 | non {n:Nat}:Sn G n .non .non
 | bl {n:Nat} (b:Bool):Sn G n (.bl b) (.bl b)
 | int {n:Nat} (i:Int):Sn G n (.int i) (.int i)
 | str {n:Nat} (x:Str) (h:x.cps.all (· < 0x110000)=true):Sn G n (.str x) (.str x)
 | tnil {n:Nat}:Sn G (n+1) (.tup []) (.tup [])
 | tcons {n:Nat} {d s:D} {ds ss:List D}:Sn G n d s->Sn G (n+1) (.tup ds) (.tup ss)->Sn G (n+1) (.tup (d :: ds)) (.tup (s :: ss))
 | rnil {n:Nat}:Sn G (n+1) (.rol []) (.rol [])
 | rcons {n:Nat} {d s:D} {ds ss:List D}:Sn G n d s->Sn G (n+1) (.rol ds) (.rol ss)->Sn G (n+1) (.rol (d :: ds)) (.rol (s :: ss))
 | ref {n:Nat} {a:Nat} {ds ss:List D}:G a=some (.lst ds)->Sn G n (.rol ds) (.rol ss)->Sn G n (.ref a) (.rol ss)
noncomputable abbrev SN:Nat:=8
theorem Sn.nr {G:Gp} {n:Nat} {d t:D} (h:Sn G n d t):K2.nr t=true:=by
 induction h with
 | non=>rfl
 | bl b=>rfl
 | int i=>rfl
 | str x h=>exact h
 | tnil=>rfl
 | tcons _ _ ih1 ih2 =>
  show (K2.nr _&&K2.nrs _)=true
  rw [ih1]
  exact ih2
 | rnil=>rfl
 | rcons _ _ ih1 ih2 =>
  show (K2.nr _&&K2.nrs _)=true
  rw [ih1]
  exact ih2
 | ref _ _ ih=>exact ih
noncomputable def keyOk1:D->Bool
 | .int _=>true
 | .str _=>true
 | _=>false
noncomputable def tru:D->Gp->Option Bool
 | .non,_=>some false
 | .bl b,_=>some b
 | .int i,_=>some (i != 0)
 | .str x,_=>if x.length<=SZ then some ((x.length:Int) != 0) else none
 | .tup ds,_=>some (!ds.isEmpty)
 | .rol ds,_=>some (!ds.isEmpty)
 | .exc _,_=>none
 | .rod kvs,_=>if (kvs.all fun p=>keyOk1 p.1)=true then some (!kvs.isEmpty) else none
 | .ref a,G=>match G a with
  | some (.lst ds)=>some (!ds.isEmpty)
  | some (.dic kvs)=>if (kvs.all fun p=>keyOk1 p.1)=true then some (!kvs.isEmpty) else none
  | none=>none
noncomputable def dVar (i:Nat):TE2:=fun _ τ G Q=>match τ[i]? with
 | some (some d)=>Q d G
 | _=>False
noncomputable def dC (d:D):TE2:=fun _ _ G Q=>Q d G
noncomputable def dNil:TA2:=fun _ _ G Q=>Q [] G
noncomputable def dCons (a:TE2) (r:TA2):TA2:=fun E τ G Q=>a E τ G fun x G1=>r E τ G1 fun xs G2=>Q (x :: xs) G2
noncomputable def dTup (t:TA2):TE2:=fun E τ G Q=>t E τ G fun ds G1=>ds.length<=SZ/\Q (.tup ds) G1
noncomputable def dLst (t:TA2):TE2:=fun E τ G Q=>t E τ G fun ds G1=>ds.length<=SZ/\∀ p,G1 p=none->Q (.ref p) (updG G1 p (.lst ds))
noncomputable def dBin (r:R22) (a b:TE2):TE2:=fun E τ G Q=>a E τ G fun x G1=>b E τ G1 fun y G2=>r x y G2 Q
noncomputable def dUn (r:D->Gp->DK->Prop) (a:TE2):TE2:=fun E τ G Q=>a E τ G fun x G1=>r x G1 Q
noncomputable def dNew (G:Gp) (o:GO) (Q:DK):Prop:=∀ p,G p=none->Q (.ref p) (updG G p o)
noncomputable def MulOk (i j:Int):Prop:=(-(2 ^ 64) < i/\i < 2 ^ 64)\/(-(2 ^ 64) < j/\j < 2 ^ 64)
noncomputable def lstOf:D->Gp->Option (List D)
 | .rol ds,_=>some ds
 | .ref a,G=>match G a with
  | some (.lst ds)=>some ds
  | _=>none
 | _,_=>none
noncomputable def addL (x y:D) (G:Gp) (Q:DK):Prop:=match lstOf x G,lstOf y G with
 | some xs,some ys=>xs.length+ys.length<=SZ/\dNew G (.lst (xs++ys)) Q
 | _,_=>False
noncomputable def rAdd:R22
 | .int i,.int j,G,Q=>Q (.int (i+j)) G
 | .str a,.str b,G,Q=>a.length+b.length<=SZ/\Q (.str (a++b)) G
 | .tup a,.tup b,G,Q=>a≠[]/\a.length+b.length<=SZ/\Q (.tup (a++b)) G
 | x,y,G,Q=>addL x y G Q
noncomputable def rSub:R22
 | .int i,.int j,G,Q=>Q (.int (i - j)) G
 | _,_,_,_=>False
noncomputable def rMul:R22
 | .int i,.int j,G,Q=>MulOk i j/\Q (.int (i * j)) G
 | _,_,_,_=>False
noncomputable def rMod:R22
 | .int i,.int j,G,Q=>0 < j/\Q (.int (i % j)) G
 | _,_,_,_=>False
noncomputable def rFdiv:R22
 | .int i,.int j,G,Q=>0 < j/\j < 2 ^ 30/\Q (.int (i / j)) G
 | _,_,_,_=>False
noncomputable def rNeg:D->Gp->DK->Prop
 | .int i,G,Q=>Q (.int (-i)) G
 | _,_,_=>False
noncomputable def rEq (neg:Bool):R22:=fun x y G Q=>∃ a b,Sn G SN x a/\Sn G SN y b/\Q (.bl (if neg then !eqD a b else eqD a b)) G
noncomputable def lexLt:List Int->List Int->Bool
 | [],[]=>false
 | [],_ :: _=>true
 | _ :: _,[]=>false
 | x :: xs,y :: ys=>if x=y then lexLt xs ys else decide (x < y)
noncomputable def rLt:R22
 | .int i,.int j,G,Q=>Q (.bl (decide (i < j))) G
 | .tup a,.tup b,G,Q=>∃ xs ys,a=xs.map D.int/\b=ys.map D.int/\Q (.bl (lexLt xs ys)) G
 | _,_,_,_=>False
noncomputable def itemsOf:D->Gp->Option (List D)
 | .tup ds,_=>some ds
 | .rol ds,_=>some ds
 | .ref a,G=>match G a with
  | some (.lst ds)=>some ds
  | _=>none
 | _,_=>none
noncomputable def keyOkT:D->Bool
 | .tup ds=>ds.all keyOk1
 | _=>false
noncomputable def kindOk (kvs:List (D×D)) (k:D):Bool:=(keyOk1 k&&kvs.all fun p=>keyOk1 p.1)||(keyOkT k&&kvs.all fun p=>keyOkT p.1)
noncomputable def look (kvs:List (D×D)) (k:D):Option D:=(kvs.find? fun p=>eqD p.1 k).map (·.2)
noncomputable def put (kvs:List (D×D)) (k v:D):List (D×D) :=
 if (kvs.any fun p=>eqD p.1 k)=true then kvs.map (fun p=>if eqD p.1 k=true then (p.1,v) else p) else kvs++[(k,v)]
noncomputable def rIx:R22
 | .tup ds,.int i,G,Q=>(match atI ds i with
  | some d=>Q d G
  | none=>False)
 | .rol ds,.int i,G,Q=>(match atI ds i with
  | some d=>Q d G
  | none=>False)
 | .rod kvs,k,G,Q=>kindOk kvs k=true/\(match look kvs k with
  | some d=>Q d G
  | none=>False)
 | .ref a,k,G,Q=>(match G a with
  | some (.lst ds)=>(match k with
   | .int i=>(match atI ds i with
    | some d=>Q d G
    | none=>False)
   | _=>False)
  | some (.dic kvs)=>kindOk kvs k=true/\(match look kvs k with
   | some d=>Q d G
   | none=>False)
  | none=>False)
 | _,_,_,_=>False
noncomputable abbrev TO2:=XK2->St2->Gp->(Option Int->Gp->Prop)->Prop
noncomputable def dNoPart:TO2:=fun _ _ G Q=>Q none G
noncomputable def dPart (t:TE2):TO2:=fun E τ G Q=>t E τ G fun x G1=>match x with
 | .int i=>Q (some i) G1
 | _=>False
noncomputable def rSl:D->Option Int->Option Int->Gp->DK->Prop
 | .tup ds,lo,hi,G,Q=>¬ (sIx ds.length 0 lo=0/\sIx ds.length ds.length hi=ds.length)/\Q (.tup (cut ds lo hi)) G
 | .rol ds,lo,hi,G,Q=>dNew G (.lst (cut ds lo hi)) Q
 | .ref a,lo,hi,G,Q=>(match G a with
  | some (.lst ds)=>dNew G (.lst (cut ds lo hi)) Q
  | _=>False)
 | _,_,_,_,_=>False
noncomputable def dSl (a:TE2) (lo hi:TO2):TE2:=fun E τ G Q=>a E τ G fun x G1=>lo E τ G1 fun l G2=>hi E τ G2 fun h G3=>rSl x l h G3 Q
noncomputable def dTru (a:TE2):TT2:=fun E τ G Q=>a E τ G fun x G1=>match tru x G1 with
 | some b=>Q b G1
 | none=>False
noncomputable def dOr (a b:TT2):TT2:=fun E τ G Q=>a E τ G fun c G1=>if c=true then Q true G1 else b E τ G1 Q
noncomputable def dNot (a:TT2):TT2:=fun E τ G Q=>a E τ G fun c G1=>Q (!c) G1
noncomputable def dAndV (a b:TE2):TE2:=fun E τ G Q=>a E τ G fun x G1=>match tru x G1 with
 | some true=>b E τ G1 Q
 | some false=>Q x G1
 | none=>False
noncomputable def dNotV (a:TE2):TE2:=fun E τ G Q=>a E τ G fun x G1=>match tru x G1 with
 | some c=>Q (.bl (!c)) G1
 | none=>False
noncomputable def dIf (c:TT2) (a b:TE2):TE2:=fun E τ G Q=>c E τ G fun k G1=>if k=true then a E τ G1 Q else b E τ G1 Q
noncomputable def dCall (sp:Sp2) (t:TA2):TE2:=fun E τ G Q=>t E τ G fun ds G1=>sp ds G1 Q fun _ _=>False
noncomputable def dCB (r:List D->Gp->DK->Prop) (t:TA2):TE2:=fun E τ G Q=>t E τ G fun ds G1=>r ds G1 Q
noncomputable def tyL (x:D) (G:Gp):Prop:=match x with
 | .ref a=>(match G a with
  | some (.lst _)=>True
  | _=>False)
 | .rol _=>True
 | _=>False
noncomputable def tyC (x:D) (G:Gp):Prop:=match x with
 | .rod _=>True
 | .ref a=>(match G a with
  | some (.dic _)=>True
  | _=>False)
 | _=>False
noncomputable def dMt (ty:D->Gp->Prop) (r:D->List D->Gp->DK->Prop) (o:TE2) (t:TA2):TE2:=fun E τ G Q=>o E τ G fun x G1=>ty x G1/\t E τ G1 fun ds G2=>r x ds G2 Q
noncomputable def lenOf:D->Gp->Option Nat
 | .tup ds,_=>some ds.length
 | .rol ds,_=>some ds.length
 | .str x,_=>if x.length<=SZ then some x.length else none
 | .rod kvs,_=>if (kvs.all fun p=>keyOk1 p.1)=true then some kvs.length else none
 | .ref a,G=>match G a with
  | some (.lst ds)=>some ds.length
  | some (.dic kvs)=>if (kvs.all fun p=>keyOk1 p.1)=true then some kvs.length else none
  | none=>none
 | _,_=>none
noncomputable def cLen (ds:List D) (G:Gp) (Q:DK):Prop:=match ds with
 | [x]=>(match lenOf x G with
  | some n=>Q (.int (n:Int)) G
  | none=>False)
 | _=>False
noncomputable def cList (ds:List D) (G:Gp) (Q:DK):Prop:=match ds with
 | [x]=>(match itemsOf x G with
  | some xs=>dNew G (.lst xs) Q
  | none=>False)
 | _=>False
noncomputable def isI (C:String):D->Gp->Option Bool
 | .non,_=>some false
 | .bl _,_=>some (C == "bool" || C == "int")
 | .int _,_=>some (C == "int")
 | .str _,_=>some (C == "str")
 | .tup _,_=>some (C == "tuple")
 | .rol _,_=>some (C == "list")
 | .rod _,_=>some (C == "dict")
 | .exc _,_=>none
 | .ref a,G=>match G a with
  | some (.lst _)=>some (C == "list")
  | some (.dic _)=>some (C == "dict")
  | none=>none
noncomputable def dIsi (C:String) (a:TE2):TE2:=fun E τ G Q=>a E τ G fun x G1=>match isI C x G1 with
 | some b=>Q (.bl b) G1
 | none=>False
noncomputable def mInsert (x:D) (ds:List D) (G:Gp) (Q:DK):Prop:=match x,ds with
 | .ref a,[.int i,d]=>(match G a with
  | some (.lst xs)=>0<=i/\i<=xs.length/\xs.length < SZ/\Q .non (updG G a (.lst (xs.take i.toNat++d :: xs.drop i.toNat)))
  | _=>False)
 | _,_=>False
noncomputable def dNext:TS2:=fun _ K τ G=>K.nx τ G
noncomputable def dSeq (a b:TS2):TS2:=fun E K τ G=>a E { K with nx:=b E K } τ G
noncomputable def dExpr (a:TE2):TS2:=fun E K τ G=>a E τ G fun _ G1=>K.nx τ G1
noncomputable def dRet (a:TE2):TS2:=fun E K τ G=>a E τ G K.rt
noncomputable def dIfS (c:TT2) (a b:TS2):TS2:=fun E K τ G=>c E τ G fun k G1=>if k=true then a E K τ G1 else b E K τ G1
noncomputable abbrev TG2:=XK2->D->St2->Gp->(St2->Gp->Prop)->Prop
noncomputable abbrev TGs2:=XK2->List D->St2->Gp->(St2->Gp->Prop)->Prop
noncomputable def gName (i:Nat):TG2:=fun _ d τ G Q=>Q (τ.set i (some d)) G
noncomputable def gNil:TGs2:=fun _ ds τ G Q=>match ds with
 | []=>Q τ G
 | _=>False
noncomputable def gCons (t:TG2) (r:TGs2):TGs2:=fun E ds τ G Q=>match ds with
 | d :: ds=>t E d τ G fun τ1 G1=>r E ds τ1 G1 Q
 | _=>False
noncomputable def gTup (t:TGs2):TG2:=fun E d τ G Q=>match d with
 | .tup ds=>t E ds τ G Q
 | _=>False
noncomputable def setIx (o k d:D) (G:Gp) (Q:Gp->Prop):Prop:=match o with
 | .ref a=>(match G a with
  | some (.lst xs)=>(match k with
   | .int i=>(match ixN xs.length i with
    | some j=>Q (updG G a (.lst (xs.set j d)))
    | none=>False)
   | _=>False)
  | some (.dic kvs)=>kindOk kvs k=true/\kvs.length < SZ/\Q (updG G a (.dic (put kvs k d)))
  | none=>False)
 | _=>False
noncomputable def gSub (o k:TE2):TG2:=fun E d τ G Q=>o E τ G fun x G1=>k E τ G1 fun y G2=>setIx x y d G2 fun G3=>Q τ G3
noncomputable def dAsg (a:TE2) (g:TG2):TS2:=fun E K τ G=>a E τ G fun x G1=>g E x τ G1 K.nx
noncomputable abbrev TI2:=XK2->St2->Gp->(List D->(Gp->Prop)->Gp->Prop)->Prop
noncomputable def iSeq (a:TE2):TI2:=fun E τ G R=>a E τ G fun x G1=>match x with
 | .tup ds=>R ds (fun _=>True) G1
 | .rol ds=>R ds (fun _=>True) G1
 | .ref p=>(match G1 p with
  | some (.lst ds)=>R ds (fun G2=>G2 p=some (.lst ds)) G1
  | _=>False)
 | _=>False
noncomputable def rangeD (lo:Int) (n:Nat):List D:=(List.range n).map fun (i:Nat)=>D.int (lo+(i:Int))
noncomputable def iRng1 (a:TE2):TI2:=fun E τ G R=>a E τ G fun x G1=>match x with
 | .int n=>-(2 ^ 62)<=n/\n < 2 ^ 62/\R (rangeD 0 n.toNat) (fun _=>True) G1
 | _=>False
noncomputable def forGo (g:TG2) (body:TS2) (ok:Gp->Prop):List D->TS2
 | []=>fun _ K τ G=>ok G/\K.nx τ G
 | d :: r=>fun E K τ G=>ok G/\g E d τ G fun τ1 G1=>body E { K with nx:=forGo g body ok r E K,ct:=forGo g body ok r E K,bk:=K.nx } τ1 G1
noncomputable def dFor (i:TI2) (g:TG2) (body:TS2):TS2:=fun E K τ G=>i E τ G fun ds ok G1=>forGo g body ok ds E K τ G1
noncomputable def compGo (g:TG2) (c:Option TT2) (e:TE2) (ok:Gp->Prop):List D->XK2->St2->Gp->List D->(List D->Gp->Prop)->Prop
 | [],_,_,G,acc,Q=>ok G/\Q acc G
 | d :: r,E,τ,G,acc,Q=>ok G/\g E d τ G fun τ1 G1=>match c with
  | none=>e E τ1 G1 fun x G2=>compGo g c e ok r E τ1 G2 (acc++[x]) Q
  | some c=>c E τ1 G1 fun k G2=>if k=true then e E τ1 G2 fun x G3=>compGo g (some c) e ok r E τ1 G3 (acc++[x]) Q else compGo g (some c) e ok r E τ1 G2 acc Q
noncomputable def compSt (m:Nat) (fr:List Nat) (τ:St2):St2:=List.replicate m none++fr.map fun i=>(τ[i]?).getD none
noncomputable def dComp (m:Nat) (fr:List Nat) (i:TI2) (g:TG2) (c:Option TT2) (e:TE2):TE2:=fun E τ G Q =>
 i E τ G fun ds ok G1=>ds.length<=SZ/\compGo g c e ok ds (fun _ _=>False) (compSt m fr τ) G1 [] fun xs G2=>dNew G2 (.lst xs) Q
noncomputable abbrev tI (ns:List Int):D:=.tup (ns.map D.int)
noncomputable def minI:List Int->Option Int
 | []=>none
 | a :: r=>some (r.foldl (fun m x=>if x < m then x else m) a)
noncomputable def minL:List (List Int)->Option (List Int)
 | []=>none
 | a :: r=>some (r.foldl (fun m x=>if lexLt x m=true then x else m) a)
noncomputable def cMin (ds:List D) (G:Gp) (Q:DK):Prop:=match ds with
 | [x]=>(∃ ns m,itemsOf x G=some (ns.map D.int)/\minI ns=some m/\Q (.int m) G)\/∃ nss m,itemsOf x G=some (nss.map tI)/\minL nss=some m/\Q (tI m) G
 | _=>False
noncomputable def dDic:TE2:=fun _ _ G Q=>dNew G (.dic []) Q
noncomputable def GLe (G G':Gp):Prop:=∀ a o,G a=some o->G' a=some o
theorem GLe.refl (G:Gp):GLe G G:=fun _ _ h=>h
theorem GLe.trans {G G1 G2:Gp} (a:GLe G G1) (b:GLe G1 G2):GLe G G2:=fun c o h=>b c o (a c o h)
theorem GLe.new {G:Gp} {p:Nat} {o:GO} (h:G p=none):GLe G (updG G p o):=fun a ob e=>by
 by_cases ha:a=p
 ·subst ha; rw [h] at e; cases e
 ·rw [updG_ne ha]; exact e
theorem GLe.free {G G':Gp} {p:Nat} (l:GLe G G') (h:G' p=none):G p=none:=by
 cases q:G p with
 | none=>rfl
 | some o=>rw [l p o q] at h; cases h
theorem GLe.put {G G':Gp} {p:Nat} {o:GO} (l:GLe G G') (h:G p=none):GLe G (updG G' p o):=fun a ob e=>by
 by_cases ha:a=p
 ·subst ha; rw [h] at e; cases e
 ·rw [updG_ne ha]; exact l a ob e
noncomputable def ends (Q:DK):Ends2:=⟨fun _ G=>Q .non G,Q,fun _ _=>False,fun _ _=>False⟩
noncomputable def start2 (n:Nat) (ds:List D):St2:=ds.map some++List.replicate (n - ds.length) none
noncomputable def iAt (x:D) (G1:Gp) (R:List D->(Gp->Prop)->Gp->Prop):Prop:=match x with
 | .tup ds=>R ds (fun _=>True) G1
 | .rol ds=>R ds (fun _=>True) G1
 | .ref p=>(match G1 p with
  | some (.lst ds)=>R ds (fun G2=>G2 p=some (.lst ds)) G1
  | _=>False)
 | _=>False
noncomputable def partAt (x:D) (G1:Gp) (Q:Option Int->Gp->Prop):Prop:=match x with
 | .int i=>Q (some i) G1
 | _=>False
noncomputable def truAt (x:D) (G1:Gp) (Q:Bool->Gp->Prop):Prop:=match tru x G1 with
 | some b=>Q b G1
 | none=>False
noncomputable def rngAt (x:D) (G1:Gp) (R:List D->(Gp->Prop)->Gp->Prop):Prop:=match x with
 | .int n=>-(2 ^ 62)<=n/\n < 2 ^ 62/\R (rangeD 0 n.toNat) (fun _=>True) G1
 | _=>False
noncomputable def isAt (C:String) (x:D) (G1:Gp) (Q:DK):Prop:=match isI C x G1 with
 | some b=>Q (.bl b) G1
 | none=>False
theorem rAdd_int {i j:Int} {G:Gp} {Q:DK}:rAdd (.int i) (.int j) G Q=Q (.int (i+j)) G:=rfl
theorem rSub_int {i j:Int} {G:Gp} {Q:DK}:rSub (.int i) (.int j) G Q=Q (.int (i - j)) G:=rfl
theorem rMul_int {i j:Int} {G:Gp} {Q:DK}:rMul (.int i) (.int j) G Q=(MulOk i j/\Q (.int (i * j)) G):=rfl
theorem rMod_int {i j:Int} {G:Gp} {Q:DK}:rMod (.int i) (.int j) G Q=(0 < j/\Q (.int (i % j)) G):=rfl
theorem rFdiv_int {i j:Int} {G:Gp} {Q:DK}:rFdiv (.int i) (.int j) G Q=(0 < j/\j < 2 ^ 30/\Q (.int (i / j)) G):=rfl
theorem rNeg_int {i:Int} {G:Gp} {Q:DK}:rNeg (.int i) G Q=Q (.int (-i)) G:=rfl
theorem rLt_int {i j:Int} {G:Gp} {Q:DK}:rLt (.int i) (.int j) G Q=Q (.bl (decide (i < j))) G:=rfl
theorem rIx_rol {ds:List D} {i:Int} {d:D} {G:Gp} {Q:DK} (h:atI ds i=some d):rIx (.rol ds) (.int i) G Q=Q d G:=by unfold rIx; simp only [h]
theorem rIx_lst {a:Nat} {ds:List D} {i:Int} {d:D} {G:Gp} {Q:DK} (h1:G a=some (.lst ds)) (h:atI ds i=some d):rIx (.ref a) (.int i) G Q=Q d G:=by unfold rIx; simp only [h1,h]
theorem rSl_tup {ds:List D} {lo hi:Option Int} {G:Gp} {Q:DK}:rSl (.tup ds) lo hi G Q=(¬ (sIx ds.length 0 lo=0/\sIx ds.length ds.length hi=ds.length)/\Q (.tup (cut ds lo hi)) G):=rfl
theorem rSl_rol {ds:List D} {lo hi:Option Int} {G:Gp} {Q:DK}:rSl (.rol ds) lo hi G Q=dNew G (.lst (cut ds lo hi)) Q:=rfl
theorem cLen_rol {ds:List D} {G:Gp} {Q:DK}:cLen [.rol ds] G Q=Q (.int (ds.length:Int)) G:=rfl
theorem cLen_tup {ds:List D} {G:Gp} {Q:DK}:cLen [.tup ds] G Q=Q (.int (ds.length:Int)) G:=rfl
theorem cLen_lst {a:Nat} {ds:List D} {G:Gp} {Q:DK} (h:G a=some (.lst ds)):cLen [.ref a] G Q=Q (.int (ds.length:Int)) G:=by unfold cLen lenOf; simp only [h]
theorem iSeq_at {a:TE2} {E:XK2} {τ:St2} {G:Gp} {R:List D->(Gp->Prop)->Gp->Prop}:iSeq a E τ G R=a E τ G fun x G1=>iAt x G1 R:=by
 unfold iSeq iAt; rfl
theorem iAt_lst {a:Nat} {ds:List D} {G:Gp} {R:List D->(Gp->Prop)->Gp->Prop} (h:G a=some (.lst ds)):iAt (.ref a) G R=R ds (fun G2=>G2 a=some (.lst ds)) G:=by unfold iAt; simp only [h]
theorem dPart_at {t:TE2} {E:XK2} {τ:St2} {G:Gp} {Q:Option Int->Gp->Prop}:dPart t E τ G Q=t E τ G fun x G1=>partAt x G1 Q:=rfl
theorem partAt_int {i:Int} {G:Gp} {Q:Option Int->Gp->Prop}:partAt (.int i) G Q=Q (some i) G:=rfl
theorem dTru_at {a:TE2} {E:XK2} {τ:St2} {G:Gp} {Q:Bool->Gp->Prop}:dTru a E τ G Q=a E τ G fun x G1=>truAt x G1 Q:=rfl
theorem truAt_bl {b:Bool} {G:Gp} {Q:Bool->Gp->Prop}:truAt (.bl b) G Q=Q b G:=rfl
theorem truAt_lst {a:Nat} {ds:List D} {G:Gp} {Q:Bool->Gp->Prop} (h:G a=some (.lst ds)):truAt (.ref a) G Q=Q (!ds.isEmpty) G:=by unfold truAt tru; simp only [h]
theorem iRng1_at {a:TE2} {E:XK2} {τ:St2} {G:Gp} {R:List D->(Gp->Prop)->Gp->Prop}:iRng1 a E τ G R=a E τ G fun x G1=>rngAt x G1 R:=rfl
theorem rngAt_int {n:Int} {G:Gp} {R:List D->(Gp->Prop)->Gp->Prop}:rngAt (.int n) G R=(-(2 ^ 62)<=n/\n < 2 ^ 62/\R (rangeD 0 n.toNat) (fun _=>True) G):=rfl
theorem dIsi_at {C:String} {a:TE2} {E:XK2} {τ:St2} {G:Gp} {Q:DK}:dIsi C a E τ G Q=a E τ G fun x G1=>isAt C x G1 Q:=rfl
theorem isAt_int {C:String} {i:Int} {G:Gp} {Q:DK}:isAt C (.int i) G Q=Q (.bl (C == "int")) G:=rfl
theorem isAt_tup {C:String} {ds:List D} {G:Gp} {Q:DK}:isAt C (.tup ds) G Q=Q (.bl (C == "tuple")) G:=rfl
theorem dAndV_at {a b:TE2} {E:XK2} {τ:St2} {G:Gp} {Q:DK}:dAndV a b E τ G Q=a E τ G fun x G1=>truAt x G1 fun k G2=>if k=true then b E τ G2 Q else Q x G2:=by
 unfold dAndV truAt
 refine congrArg (a E τ G) ?_
 funext x G1
 cases tru x G1 with
 | none=>rfl
 | some k=>cases k <;> simp
theorem dNotV_at {a:TE2} {E:XK2} {τ:St2} {G:Gp} {Q:DK}:dNotV a E τ G Q=a E τ G fun x G1=>truAt x G1 fun k G2=>Q (.bl (!k)) G2:=rfl
theorem rAdd_ref {a:Nat} {y:D} {G:Gp} {Q:DK}:rAdd (.ref a) y G Q=addL (.ref a) y G Q:=by cases y <;> rfl
theorem rAdd_rol {a:List D} {y:D} {G:Gp} {Q:DK}:rAdd (.rol a) y G Q=addL (.rol a) y G Q:=by cases y <;> rfl
theorem rSl_ref {a:Nat} {lo hi:Option Int} {G:Gp} {Q:DK}:rSl (.ref a) lo hi G Q=(match G a with
  | some (.lst ds)=>dNew G (.lst (cut ds lo hi)) Q
  | _=>False):=rfl
theorem rIx_ref {a:Nat} {k:D} {G:Gp} {Q:DK}:rIx (.ref a) k G Q=(match G a with
  | some (.lst ds)=>(match k with
   | .int i=>(match atI ds i with
    | some d=>Q d G
    | none=>False)
   | _=>False)
  | some (.dic kvs)=>kindOk kvs k=true/\(match look kvs k with
   | some d=>Q d G
   | none=>False)
  | none=>False):=by unfold rIx; cases k <;> rfl
theorem rIx_tupM {ds:List D} {i:Int} {G:Gp} {Q:DK}:rIx (.tup ds) (.int i) G Q=(match atI ds i with
  | some d=>Q d G
  | none=>False):=rfl
theorem rIx_rolM {ds:List D} {i:Int} {G:Gp} {Q:DK}:rIx (.rol ds) (.int i) G Q=(match atI ds i with
  | some d=>Q d G
  | none=>False):=rfl
theorem cLen_ref {a:Nat} {G:Gp} {Q:DK}:cLen [.ref a] G Q=(match G a with
  | some (.lst ds)=>Q (.int (ds.length:Int)) G
  | some (.dic ds)=>(ds.all fun p=>keyOk1 p.1)=true/\Q (.int (ds.length:Int)) G
  | none=>False):=by
 unfold cLen lenOf
 cases h:G a with
 | none=>simp only [h]
 | some g =>
  cases g with
  | lst ds=>simp only [h]
  | dic ds =>
   simp only [h]
   by_cases z:(ds.all fun p=>keyOk1 p.1)=true
   ·simp only [z,if_true,true_and]
   ·simp only [z,if_false,false_and,Bool.false_eq_true]
theorem mInsert_ref {a:Nat} {i:Int} {d:D} {G:Gp} {Q:DK}:mInsert (.ref a) [.int i,d] G Q=(match G a with
  | some (.lst xs)=>0<=i/\i<=xs.length/\xs.length < SZ/\Q .non (updG G a (.lst (xs.take i.toNat++d :: xs.drop i.toNat)))
  | _=>False):=rfl
theorem tyL_ref {a:Nat} {G:Gp}:tyL (.ref a) G=(match G a with
  | some (.lst _)=>True
  | _=>False):=rfl
theorem tyC_ref {a:Nat} {G:Gp}:tyC (.ref a) G=(match G a with
  | some (.dic _)=>True
  | _=>False):=rfl
theorem rIx_rod {kvs:List (D×D)} {k:D} {G:Gp} {Q:DK}:rIx (.rod kvs) k G Q=(kindOk kvs k=true/\(match look kvs k with
  | some d=>Q d G
  | none=>False)):=by unfold rIx; cases k <;> rfl
end K2
end
section
namespace K2
open PySem (Str)
noncomputable def delG (R:Nat->Bool) (G:Gp):Gp:=fun a=>if R a=true then none else G a
mutual
inductive Fz (G:Gp) (R:Nat->Bool):D->D->Prop
 | same (d:D):Fz G R d d
 | tup {ds ss:List D}:Fzs G R ds ss->Fz G R (.tup ds) (.tup ss)
 | rol {ds ss:List D}:Fzs G R ds ss->Fz G R (.rol ds) (.rol ss)
 | ref {a:Nat} {ds ss:List D}:G a=some (.lst ds)->R a=true->Fzs G R ds ss->Fz G R (.ref a) (.rol ss)
 | dic {a:Nat} {kvs kvt:List (D×D)}:G a=some (.dic kvs)->R a=true->FzKs G R kvs kvt->Fz G R (.ref a) (.rod kvt)
inductive Fzs (G:Gp) (R:Nat->Bool):List D->List D->Prop
 | nil:Fzs G R [] []
 | cons {d s:D} {ds ss:List D}:Fz G R d s->Fzs G R ds ss->Fzs G R (d :: ds) (s :: ss)
inductive FzKs (G:Gp) (R:Nat->Bool):List (D×D)->List (D×D)->Prop
 | nil:FzKs G R [] []
 | cons {k d s:D} {ds ss:List (D×D)}:Fz G R d s->FzKs G R ds ss->FzKs G R ((k,d) :: ds) ((k,s) :: ss)
end
theorem FzKs.same {G:Gp} {R:Nat->Bool}:∀ (kvs:List (D×D)),FzKs G R kvs kvs
 | []=>.nil
 | (k,v) :: r=>.cons (.same v) (FzKs.same r)
noncomputable def FzK (G:Gp) (x:D) (Q:DK):Prop:=∃ (R:Nat->Bool) (t:D),Fz G R x t/\Q t (delG R G)
noncomputable def dFz (e:TE2):TE2:=fun E τ G Q=>e E τ G fun x G1=>FzK G1 x Q
noncomputable def dFzV (i:Nat) (t:TS2):TS2:=fun E K τ G=>t E { K with nx:=fun τ1 G1=>match τ1[i]? with
 | some (some d)=>FzK G1 d fun t G2=>K.nx (τ1.set i (some t)) G2
 | _=>False } τ G
theorem Fzs.same {G:Gp} {R:Nat->Bool}:∀ (ds:List D),Fzs G R ds ds
 | []=>.nil
 | d :: ds=>.cons (.same d) (Fzs.same ds)
theorem delG_new {G G1:Gp} (l:GLe G G1):delG (fun a=>(G a).isNone) G1=G:=by
 funext a
 unfold delG
 cases h:G a with
 | none=>simp [h]
 | some o=>simp [l a o h,h]
theorem fz_id {G:Gp} {d:D} {Q:DK} (q:Q d G):FzK G d Q:=⟨fun _=>false,d,.same d,by
 have e:delG (fun _=>false) G=G:=by funext a; simp [delG]
 rw [e]; exact q⟩
theorem fz_drop {G G1:Gp} {d:D} {Q:DK} (l:GLe G G1) (q:Q d G):FzK G1 d Q:=⟨_,d,.same d,by rw [delG_new l]; exact q⟩
theorem fz_rol {G G1:Gp} {p:Nat} {ds ss:List D} {Q:DK} (l:GLe G G1) (hp:G p=none) (h1:G1 p=some (.lst ds)) (hs:Fzs G1 (fun a=>(G a).isNone) ds ss) (q:Q (.rol ss) G):FzK G1 (.ref p) Q :=
 ⟨_,.rol ss,.ref h1 (by simp [hp]) hs,by rw [delG_new l]; exact q⟩
theorem fz_rod {G G1:Gp} {p:Nat} {kvs:List (D×D)} {Q:DK} (l:GLe G G1) (hp:G p=none) (h1:G1 p=some (.dic kvs)) (q:Q (.rod kvs) G):FzK G1 (.ref p) Q :=
 ⟨fun a=>(G a).isNone,.rod kvs,.dic h1 (by simp [hp]) (.same _),by rw [delG_new l]; exact q⟩
noncomputable def spLaw:Sp2:=fun ds G Q _=>∃ ns:List Int,ds=[.rol (ns.map D.int)]/\ns.length<=63/\(∀ a,G a=none)/\∀ G',Q (.bl true) G'
theorem seq_by {a b:TS2} {E:XK2} {K:Ends2} {τ:St2} {G:Gp} (P:St2->Gp->Prop) (h1:∀ N,(∀ τ G,P τ G->N τ G)->a E { K with nx:=N } τ G) (h2:∀ τ G,P τ G->b E K τ G):dSeq a b E K τ G:=h1 (b E K) h2
theorem seq_step {a b:TS2} {E:XK2} {K:Ends2} {τ:St2} {G:Gp}:dSeq a b E K τ G=a E { K with nx:=b E K } τ G:=rfl
theorem seq_asg {a:TE2} {g:TG2} {b:TS2} {E:XK2} {K:Ends2} {τ:St2} {G:Gp}:dSeq (dAsg a g) b E K τ G=dAsg a g E { K with nx:=b E K } τ G:=rfl
theorem for_by {g:TG2} {body:TS2} {ok:Gp->Prop} {ds:List D} {E:XK2} {K:Ends2} {τ:St2} {G:Gp} (I:List D->St2->Gp->Prop)
  (h0:I [] τ G) (hok:∀ pre τ G,I pre τ G->ok G)
  (step:∀ (pre:List D) (d:D) (post:List D) τ G (N:St2->Gp->Prop),ds=pre++d :: post->I pre τ G->(∀ τ2 G2,I (pre++[d]) τ2 G2->N τ2 G2) ->
   g E d τ G fun τ1 G1=>body E { K with nx:=N,ct:=N,bk:=K.nx } τ1 G1)
  (fin:∀ τ G,I ds τ G->K.nx τ G):forGo g body ok ds E K τ G:=by
 have main:∀ (post pre:List D) τ G,ds=pre++post->I pre τ G->forGo g body ok post E K τ G:=by
  intro post
  induction post with
  | nil =>
   intro pre τ G e h
   rw [List.append_nil] at e
   subst e
   exact ⟨hok _ _ _ h,fin _ _ h⟩
  | cons d post ih =>
   intro pre τ G e h
   refine ⟨hok _ _ _ h,?_⟩
   exact step pre d post τ G _ e h fun τ2 G2 h2=>ih (pre++[d]) τ2 G2 (by rw [e,List.append_assoc]; rfl) h2
 exact main ds [] τ G rfl h0
theorem eqDs_cc (a b:D) (r t:List D):eqDs (a :: r) (b :: t)=(eqD a b&&eqDs r t):=rfl
theorem eqD_ii (a b:Int):eqD (.int a) (.int b)=(a == b):=rfl
theorem eqD_tt (a b:List D):eqD (.tup a) (.tup b)=eqDs a b:=rfl
theorem dec_cons {α:Type} [DecidableEq α] (a b:α) (as bs:List α):(decide (a=b)&&decide (as=bs))=decide (a :: as=b :: bs):=by
 by_cases h:a=b <;> by_cases h2:as=bs <;> simp [h,h2]
end K2
end
section
namespace K2
open PySem (Str)
set_option genInjectivity true in structure T2 where
 a:Int
 b:Int
 deriving DecidableEq
set_option genInjectivity true in structure T3 where
 a:Int
 b:Int
 c:Int
 deriving DecidableEq
class Enc (α:Type) [DecidableEq α] where
 enc:α->D
 dep:Nat
 eqv:∀ a b,eqD (enc a) (enc b)=decide (a=b)
 sn:∀ (G:Gp) (n:Nat) (a:α),dep<=n->Sn G n (enc a) (enc a)
open Enc (enc)
noncomputable instance:Enc Int where
 enc:=D.int
 dep:=0
 eqv:=fun a b=>rfl
 sn:=fun G n a _=>.int a
noncomputable instance:Enc Bool where
 enc:=D.bl
 dep:=0
 eqv:=fun a b=>Bool.beq_eq_decide_eq a b
 sn:=fun G n a _=>.bl a
noncomputable instance:Enc T2 where
 enc:=fun t=>.tup [.int t.a,.int t.b]
 dep:=1
 eqv:=fun x y=>by
  cases x; cases y
  rw [eqD_tt,eqDs_cc,eqDs_cc,eqD_ii,eqD_ii]; simp only [T2.mk.injEq]; rename_i a b c d; by_cases h:a=c <;> by_cases h2:b=d <;> simp [h,h2,show eqDs [] []=true from rfl]
 sn:=fun G n t h=>by
  obtain ⟨m,rfl⟩:∃ m,n=m+1:=⟨n - 1,by lia⟩
  exact .tcons (.int _) (.tcons (.int _) .tnil)
noncomputable instance:Enc T3 where
 enc:=fun t=>.tup [.int t.a,.int t.b,.int t.c]
 dep:=1
 eqv:=fun x y=>by
  cases x; cases y
  rw [eqD_tt,eqDs_cc,eqDs_cc,eqDs_cc,eqD_ii,eqD_ii,eqD_ii]; simp only [T3.mk.injEq]; rename_i a b e c d f; by_cases h:a=c <;> by_cases h2:b=d <;> by_cases h3:e=f <;> simp [h,h2,h3,show eqDs [] []=true from rfl]
 sn:=fun G n t h=>by
  obtain ⟨m,rfl⟩:∃ m,n=m+1:=⟨n - 1,by lia⟩
  exact .tcons (.int _) (.tcons (.int _) (.tcons (.int _) .tnil))
noncomputable instance {α β:Type} [DecidableEq α] [DecidableEq β] [Enc α] [Enc β]:Enc (α×β) where
 enc:=fun t=>.tup [enc t.1,enc t.2]
 dep:=max (Enc.dep α) (Enc.dep β)+1
 eqv:=fun x y=>by
  cases x; cases y
  rw [eqD_tt,eqDs_cc,eqDs_cc,Enc.eqv,Enc.eqv]; simp only [Prod.mk.injEq]; rename_i a b c d; by_cases h:a=c <;> by_cases h2:b=d <;> simp [h,h2,show eqDs [] []=true from rfl]
 sn:=fun G n t h=>by
  obtain ⟨m,rfl⟩:∃ m,n=m+1:=⟨n - 1,by lia⟩
  exact .tcons (Enc.sn _ _ _ (by lia)) (.tcons (Enc.sn _ _ _ (by lia)) .tnil)
theorem eqDs_enc {α:Type} [DecidableEq α] [Enc α]:∀ (a b:List α),eqDs (a.map enc) (b.map enc)=decide (a=b)
 | [],[]=>(decide_eq_true rfl).symm
 | [],b :: bs=>(decide_eq_false (fun z=>nomatch z)).symm
 | a :: as,[]=>(decide_eq_false (fun z=>nomatch z)).symm
 | a :: as,b :: bs=>by
  show (eqD (enc a) (enc b)&&eqDs (as.map enc) (bs.map enc))=_
  rw [Enc.eqv,eqDs_enc as bs,dec_cons]
theorem sn_rol {α:Type} [DecidableEq α] [Enc α] (G:Gp) (n:Nat) (h:Enc.dep α<=n):∀ (xs:List α),Sn G (n+1) (.rol (xs.map enc)) (.rol (xs.map enc))
 | []=>.rnil
 | a :: as=>.rcons (Enc.sn _ _ _ h) (sn_rol G n h as)
noncomputable instance {α:Type} [DecidableEq α] [Enc α]:Enc (List α) where
 enc:=fun xs=>.rol (xs.map enc)
 dep:=Enc.dep α+1
 eqv:=fun a b=>by
  show eqDs _ _=_
  exact eqDs_enc a b
 sn:=fun G n t h=>by
  obtain ⟨m,rfl⟩:∃ m,n=m+1:=⟨n - 1,by lia⟩
  exact sn_rol G m (by lia) t
section
variable {κ α:Type} [DecidableEq κ] [Enc κ] [DecidableEq α] [Enc α]
noncomputable def encKV (l:List (κ×α)):List (D×D):=l.map fun p=>(enc p.1,enc p.2)
noncomputable def aget (l:List (κ×α)) (k:κ):Option α:=(l.find? fun p=>p.1=k).map (·.2)
noncomputable def aput (l:List (κ×α)) (k:κ) (v:α):List (κ×α):=if (l.any fun p=>p.1=k)=true then l.map (fun p=>if p.1=k then (p.1,v) else p) else l++[(k,v)]
theorem look_enc (l:List (κ×α)) (k:κ):look (encKV l) (enc k)=(aget l k).map enc:=by
 unfold look aget encKV
 induction l with
 | nil=>rfl
 | cons p r ih =>
  rw [List.map_cons,List.find?_cons,List.find?_cons]
  simp only [Enc.eqv]
  by_cases h:p.1=k
  ·simp [h]
  ·simp only [h,decide_false]; exact ih
theorem put_enc (l:List (κ×α)) (k:κ) (v:α):put (encKV l) (enc k) (enc v)=encKV (aput l k v):=by
 unfold put aput
 have e:((encKV l).any fun p=>eqD p.1 (enc k))=l.any fun p=>decide (p.1=k):=by
  unfold encKV; rw [List.any_map]; congr 1; funext p; exact Enc.eqv _ _
 rw [e]
 split
 ·unfold encKV; rw [List.map_map,List.map_map]
  refine List.map_congr_left fun p _=>?_
  simp only [Function.comp,Enc.eqv,decide_eq_true_eq]
  split <;> rfl
 ·unfold encKV; rw [List.map_append]; rfl
end
class EncKey (κ:Type) [DecidableEq κ] [Enc κ] where
 ok:(∀ k:κ,keyOk1 (enc k)=true)\/∀ k:κ,keyOkT (enc k)=true
noncomputable instance:EncKey Int:=⟨.inl fun _=>rfl⟩
noncomputable instance:EncKey T2:=⟨.inr fun _=>rfl⟩
noncomputable instance:EncKey T3:=⟨.inr fun _=>rfl⟩
theorem kindOk_enc {κ α:Type} [DecidableEq κ] [Enc κ] [EncKey κ] [DecidableEq α] [Enc α] (l:List (κ×α)) (k:κ):kindOk (encKV l) (enc k)=true:=by
 unfold kindOk encKV
 rcases EncKey.ok (κ:=κ) with h | h
 ·rw [Bool.or_eq_true]; left
  rw [h k,Bool.true_and,List.all_map,List.all_eq_true]
  intro p _; exact h p.1
 ·rw [Bool.or_eq_true]; right
  rw [h k,Bool.true_and,List.all_map,List.all_eq_true]
  intro p _; exact h p.1
end K2
end
section
namespace K2
open PySem (Str)
open Enc (enc)
mutual
noncomputable def ltD:D->D->Bool
 | .int a,.int b=>decide (a < b)
 | .tup a,.tup b=>ltDs a b
 | .rol a,.rol b=>ltDs a b
 | _,_=>false
noncomputable def ltDs:List D->List D->Bool
 | [],[]=>false
 | [],_ :: _=>true
 | _ :: _,[]=>false
 | x :: xs,y :: ys=>if eqD x y=true then ltDs xs ys else ltD x y
end
theorem ltDs_c (x y:D) (xs ys:List D):ltDs (x :: xs) (y :: ys)=if eqD x y=true then ltDs xs ys else ltD x y:=rfl
theorem ltD_i (a b:Int):ltD (.int a) (.int b)=decide (a < b):=rfl
inductive Shp where
 | int | tup (l:List Shp) | lst (s:Shp)
mutual
noncomputable def hasS:Shp->D->Bool
 | .int,.int _=>true
 | .tup l,.tup ds=>hasSs l ds
 | .lst s,.rol ds=>hasSl s ds
 | _,_=>false
noncomputable def hasSs:List Shp->List D->Bool
 | [],[]=>true
 | s :: l,d :: ds=>hasS s d&&hasSs l ds
 | _,_=>false
noncomputable def hasSl:Shp->List D->Bool
 | _,[]=>true
 | s,d :: ds=>hasS s d&&hasSl s ds
end
theorem hasS_i {a:D} (h:hasS .int a=true):∃ i,a=.int i:=by cases a <;> first | exact ⟨_,rfl⟩ | exact Bool.noConfusion (show false=true from h)
theorem hasS_t {l:List Shp} {a:D} (h:hasS (.tup l) a=true):∃ x,a=.tup x:=by cases a <;> first | exact ⟨_,rfl⟩ | exact Bool.noConfusion (show false=true from h)
theorem hasS_l {l:Shp} {a:D} (h:hasS (.lst l) a=true):∃ x,a=.rol x:=by cases a <;> first | exact ⟨_,rfl⟩ | exact Bool.noConfusion (show false=true from h)
mutual
noncomputable def dpS:Shp->Nat
 | .int=>0
 | .tup l=>dpSs l+1
 | .lst s=>dpS s+1
noncomputable def dpSs:List Shp->Nat
 | []=>0
 | s :: l=>max (dpS s) (dpSs l)
end
noncomputable def okSh (sh:Shp):Bool:=decide (dpS sh<=7)&&(match sh with
 | .tup []=>false
 | _=>true)
noncomputable def leD (a b:D):Bool:=!ltD b a
noncomputable def sortD (ds:List D):List D:=ds.mergeSort leD
class EncOrd (α:Type) [DecidableEq α] [Enc α] where
 lt:α->α->Bool
 shp:Shp
 hass:∀ a:α,hasS shp (enc a)=true
 ltd:∀ a b:α,ltD (enc a) (enc b)=lt a b
 irr:∀ a,lt a a=false
 trans:∀ a b c,lt a b=true->lt b c=true->lt a c=true
 tot:∀ a b,lt a b=false->lt b a=false->a=b
noncomputable instance:EncOrd Int where
 lt:=fun a b=>decide (a < b)
 shp:=.int
 hass:=fun _=>rfl
 ltd:=fun a b=>rfl
 irr:=fun a=>by simp
 trans:=fun a b c h1 h2=>by simp at *; lia
 tot:=fun a b h1 h2=>by simp at *; lia
noncomputable def lexO {α:Type} [DecidableEq α] (lt:α->α->Bool):List α->List α->Bool
 | [],[]=>false
 | [],_ :: _=>true
 | _ :: _,[]=>false
 | x :: xs,y :: ys=>if x=y then lexO lt xs ys else lt x y
theorem lexO_c {α:Type} [DecidableEq α] (lt:α->α->Bool) (x y:α) (xs ys:List α):lexO lt (x :: xs) (y :: ys)=if x=y then lexO lt xs ys else lt x y:=rfl
section
variable {α:Type} [DecidableEq α] {lt:α->α->Bool}
theorem lexO_irr:∀ x:List α,lexO lt x x=false
 | []=>rfl
 | a :: x=>by simp only [lexO_c,if_true]; exact lexO_irr x
theorem lexO_tot (t:∀ a b,lt a b=false->lt b a=false->a=b):∀ (x y:List α),lexO lt x y=false->lexO lt y x=false->x=y
 | [],[],_,_=>rfl
 | [],_ :: _,h,_=>by cases h
 | _ :: _,[],_,h=>by cases h
 | a :: x,b :: y,h1,h2=>by
  simp only [lexO_c] at h1 h2
  by_cases e:a=b
  ·subst e
   simp only [if_true] at h1 h2
   rw [lexO_tot t x y h1 h2]
  ·rw [if_neg e] at h1
   rw [if_neg (Ne.symm e)] at h2
   exact absurd (t a b h1 h2) e
theorem lexO_trans (ir:∀ a,lt a a=false) (tr:∀ a b c,lt a b=true->lt b c=true->lt a c=true):∀ (x y z:List α),lexO lt x y=true->lexO lt y z=true->lexO lt x z=true
 | [],[],_,h,_=>by cases h
 | [],_ :: _,[],_,h=>by cases h
 | [],_ :: _,_ :: _,_,_=>rfl
 | _ :: _,[],_,h,_=>by cases h
 | _ :: _,_ :: _,[],_,h=>by cases h
 | a :: x,b :: y,c :: z,h1,h2=>by
  simp only [lexO_c] at h1 h2 ⊢
  by_cases e1:a=b
  ·subst e1
   simp only [if_true] at h1
   by_cases e2:a=c
   ·subst e2
    simp only [if_true] at h2 ⊢
    exact lexO_trans ir tr x y z h1 h2
   ·rw [if_neg e2] at h2 ⊢; exact h2
  ·rw [if_neg e1] at h1
   by_cases e2:b=c
   ·subst e2
    rw [if_neg e1]; exact h1
   ·rw [if_neg e2] at h2
    have h3:=tr _ _ _ h1 h2
    rw [if_neg (by rintro rfl; rw [ir] at h3; cases h3)]; exact h3
end
theorem ltDs_enc {α:Type} [DecidableEq α] [Enc α] [EncOrd α]:∀ (x y:List α),ltDs (x.map enc) (y.map enc)=lexO (EncOrd.lt (α:=α)) x y
 | [],[]=>rfl
 | [],_ :: _=>rfl
 | _ :: _,[]=>rfl
 | a :: x,b :: y=>by simp only [List.map_cons,ltDs_c,lexO_c,Enc.eqv,ltDs_enc x y,EncOrd.ltd,decide_eq_true_eq]
theorem hasSl_enc {α:Type} [DecidableEq α] [Enc α] [EncOrd α]:∀ (x:List α),hasSl (EncOrd.shp α) (x.map enc)=true
 | []=>rfl
 | a :: x=>by simp only [List.map_cons,hasSl,EncOrd.hass,hasSl_enc x,Bool.and_self]
noncomputable instance {α:Type} [DecidableEq α] [Enc α] [EncOrd α]:EncOrd (List α) where
 lt:=lexO EncOrd.lt
 shp:=.lst (EncOrd.shp α)
 hass:=fun a=>hasSl_enc a
 ltd:=fun a b=>ltDs_enc a b
 irr:=lexO_irr
 trans:=lexO_trans EncOrd.irr EncOrd.trans
 tot:=lexO_tot EncOrd.tot
noncomputable def T2.l (t:T2):List Int:=[t.a,t.b]
noncomputable def T3.l (t:T3):List Int:=[t.a,t.b,t.c]
noncomputable instance:EncOrd T2 where
 lt:=fun x y=>lexO (fun a b=>decide (a < b)) x.l y.l
 shp:=.tup [.int,.int]
 hass:=fun _=>rfl
 ltd:=fun a b=>ltDs_enc a.l b.l
 irr:=fun a=>lexO_irr _
 trans:=fun a b c=>lexO_trans (α:=Int) EncOrd.irr EncOrd.trans _ _ _
 tot:=fun ⟨a,b⟩ ⟨c,d⟩ h1 h2=>by
  have:=lexO_tot (α:=Int) EncOrd.tot _ _ h1 h2
  simpa [T2.l] using this
noncomputable instance:EncOrd T3 where
 lt:=fun x y=>lexO (fun a b=>decide (a < b)) x.l y.l
 shp:=.tup [.int,.int,.int]
 hass:=fun _=>rfl
 ltd:=fun a b=>ltDs_enc a.l b.l
 irr:=fun a=>lexO_irr _
 trans:=fun a b c=>lexO_trans (α:=Int) EncOrd.irr EncOrd.trans _ _ _
 tot:=fun ⟨a,b,e⟩ ⟨c,d,f⟩ h1 h2=>by
  have:=lexO_tot (α:=Int) EncOrd.tot _ _ h1 h2
  simpa [T3.l] using this
section
variable {α:Type} [DecidableEq α] [Enc α] [EncOrd α]
noncomputable def leO (a b:α):Bool:=!EncOrd.lt b a
noncomputable def srt (xs:List α):List α:=xs.mergeSort leO
theorem sortD_enc (xs:List α):sortD (xs.map enc)=(srt xs).map enc:=by
 unfold sortD srt
 symm
 exact List.map_mergeSort fun a _ b _=>by unfold leO leD; rw [EncOrd.ltd]
theorem leO_trans (a b c:α) (h1:leO a b=true) (h2:leO b c=true):leO a c=true:=by
 unfold leO at *
 simp only [Bool.not_eq_true'] at *
 cases h:EncOrd.lt c a with
 | false=>rfl
 | true =>
  by_cases e:a=b
  ·subst e; rw [h] at h2; cases h2
  ·have hab:EncOrd.lt a b=true:=by
    cases q:EncOrd.lt a b with
    | true=>rfl
    | false=>exact absurd (EncOrd.tot _ _ q h1) e
   rw [EncOrd.trans _ _ _ h hab] at h2; cases h2
theorem leO_total (a b:α):(leO a b||leO b a)=true:=by
 unfold leO
 cases h:EncOrd.lt b a with
 | false=>rfl
 | true =>
  cases h2:EncOrd.lt a b with
  | false=>rfl
  | true=>have:=EncOrd.trans _ _ _ h h2; rw [EncOrd.irr] at this; cases this
theorem leO_anti (a b:α) (h1:leO a b=true) (h2:leO b a=true):a=b:=by
 unfold leO at *
 exact EncOrd.tot a b (by simpa using h2) (by simpa using h1)
theorem srt_perm (xs:List α):(srt xs).Perm xs:=List.mergeSort_perm xs leO
theorem srt_sorted (xs:List α):(srt xs).Pairwise fun a b=>leO a b=true:=List.pairwise_mergeSort leO_trans leO_total xs
theorem sorted_unique:∀ {xs ys:List α},xs.Perm ys->xs.Pairwise (fun a b=>leO a b=true)->ys.Pairwise (fun a b=>leO a b=true)->xs=ys:=by
 intro xs ys hp h1 h2
 exact List.Perm.eq_of_pairwise (fun a b _ _ h h'=>leO_anti a b h h') h1 h2 hp
theorem srt_eq {xs ys:List α} (h:xs.Perm ys):srt xs=srt ys:=sorted_unique (((srt_perm xs).trans h).trans (srt_perm ys).symm) (srt_sorted xs) (srt_sorted ys)
theorem srt_len (xs:List α):(srt xs).length=xs.length:=(srt_perm xs).length_eq
end
end K2
end
section
namespace K2
open PySem (Str)
mutual
theorem eqD_refl_S:∀ (sh:Shp) (a:D),hasS sh a=true->eqD a a=true
 | .int,.int i,_=>by show (i == i)=true; exact beq_self_eq_true i
 | .tup l,.tup xs,h=>by show eqDs xs xs=true; exact eqDs_refl_S l xs h
 | .lst l,.rol xs,h=>by show eqDs xs xs=true; exact eqDs_refl_L l xs h
theorem eqDs_refl_S:∀ (l:List Shp) (xs:List D),hasSs l xs=true->eqDs xs xs=true
 | [],[],_=>rfl
 | s :: l,x :: xs,h=>by
  have h:(hasS s x&&hasSs l xs)=true:=h
  rw [Bool.and_eq_true] at h
  show (eqD x x&&eqDs xs xs)=true
  rw [eqD_refl_S s x h.1,eqDs_refl_S l xs h.2]; rfl
theorem eqDs_refl_L:∀ (s:Shp) (xs:List D),hasSl s xs=true->eqDs xs xs=true
 | _,[],_=>rfl
 | s,x :: xs,h=>by
  have h:(hasS s x&&hasSl s xs)=true:=h
  rw [Bool.and_eq_true] at h
  show (eqD x x&&eqDs xs xs)=true
  rw [eqD_refl_S s x h.1,eqDs_refl_L s xs h.2]; rfl
end
theorem eqDs_L (s:Shp) (ih:∀ (a b:D),hasS s a=true->hasS s b=true->eqD a b=true->a=b):∀ (xs ys:List D),hasSl s xs=true->hasSl s ys=true->eqDs xs ys=true->xs=ys:=by
 intro xs
 induction xs with
 | nil=>intro ys _ _ h; cases ys with
  | nil=>rfl
  | cons _ _=>cases h
 | cons x xs ihx =>
  intro ys h1 h2 h
  cases ys with
  | nil=>cases h
  | cons y ys =>
   have h1:(hasS s x&&hasSl s xs)=true:=h1
   have h2:(hasS s y&&hasSl s ys)=true:=h2
   have h:(eqD x y&&eqDs xs ys)=true:=h
   rw [Bool.and_eq_true] at h1 h2 h
   rw [ih x y h1.1 h2.1 h.1,ihx ys h1.2 h2.2 h.2]
mutual
theorem eqD_S:∀ (sh:Shp) (a b:D),hasS sh a=true->hasS sh b=true->eqD a b=true->a=b
 | .int,a,b,h1,h2,h=>by
  first | obtain ⟨_,rfl⟩:=hasS_i h1 | obtain ⟨_,rfl⟩:=hasS_t h1 | obtain ⟨_,rfl⟩:=hasS_l h1
  first | obtain ⟨_,rfl⟩:=hasS_i h2 | obtain ⟨_,rfl⟩:=hasS_t h2 | obtain ⟨_,rfl⟩:=hasS_l h2
  rw [eqD_ii] at h; rw [beq_iff_eq.mp h]
 | .tup l,a,b,h1,h2,h=>by
  first | obtain ⟨_,rfl⟩:=hasS_i h1 | obtain ⟨_,rfl⟩:=hasS_t h1 | obtain ⟨_,rfl⟩:=hasS_l h1
  first | obtain ⟨_,rfl⟩:=hasS_i h2 | obtain ⟨_,rfl⟩:=hasS_t h2 | obtain ⟨_,rfl⟩:=hasS_l h2
  rw [eqDs_S l _ _ h1 h2 h]
 | .lst l,a,b,h1,h2,h=>by
  first | obtain ⟨_,rfl⟩:=hasS_i h1 | obtain ⟨_,rfl⟩:=hasS_t h1 | obtain ⟨_,rfl⟩:=hasS_l h1
  first | obtain ⟨_,rfl⟩:=hasS_i h2 | obtain ⟨_,rfl⟩:=hasS_t h2 | obtain ⟨_,rfl⟩:=hasS_l h2
  rw [eqDs_L l (eqD_S l) _ _ h1 h2 h]
theorem eqDs_S:∀ (l:List Shp) (xs ys:List D),hasSs l xs=true->hasSs l ys=true->eqDs xs ys=true->xs=ys
 | [],xs,ys,h1,h2,_=>by
  cases xs with
  | nil=>cases ys with
   | nil=>rfl
   | cons _ _=>cases h2
  | cons _ _=>cases h1
 | s :: l,xs,ys,h1,h2,h=>by
  cases xs with
  | nil=>cases h1
  | cons x xs =>
   cases ys with
   | nil=>cases h2
   | cons y ys =>
    have h1:(hasS s x&&hasSs l xs)=true:=h1
    have h2:(hasS s y&&hasSs l ys)=true:=h2
    have h:(eqD x y&&eqDs xs ys)=true:=h
    rw [Bool.and_eq_true] at h1 h2 h
    rw [eqD_S s x y h1.1 h2.1 h.1,eqDs_S l xs ys h1.2 h2.2 h.2]
end
theorem ltDl_tot (s:Shp) (ih:∀ (a b:D),hasS s a=true->hasS s b=true->ltD a b=false->ltD b a=false->a=b):∀ (xs ys:List D),hasSl s xs=true->hasSl s ys=true->ltDs xs ys=false->ltDs ys xs=false->xs=ys:=by
 intro xs
 induction xs with
 | nil=>intro ys _ _ h _; cases ys with
  | nil=>rfl
  | cons _ _=>cases h
 | cons x xs ihx =>
  intro ys h1 h2 h3 h4
  cases ys with
  | nil=>cases h4
  | cons y ys =>
   have h1:(hasS s x&&hasSl s xs)=true:=h1
   have h2:(hasS s y&&hasSl s ys)=true:=h2
   rw [Bool.and_eq_true] at h1 h2
   simp only [ltDs_c] at h3 h4
   by_cases e:eqD x y=true
   ·have exy:=eqD_S s x y h1.1 h2.1 e
    subst exy
    rw [if_pos e] at h3 h4
    rw [ihx ys h1.2 h2.2 h3 h4]
   ·rw [if_neg e] at h3
    by_cases e2:eqD y x=true
    ·have:=eqD_S s y x h2.1 h1.1 e2
     subst this; exact absurd e2 e
    ·rw [if_neg e2] at h4
     have:=ih x y h1.1 h2.1 h3 h4
     subst this
     exact absurd (eqD_refl_S s x h1.1) e
mutual
theorem ltD_tot:∀ (sh:Shp) (a b:D),hasS sh a=true->hasS sh b=true->ltD a b=false->ltD b a=false->a=b
 | .int,a,b,h1,h2,h3,h4=>by
  first | obtain ⟨_,rfl⟩:=hasS_i h1 | obtain ⟨_,rfl⟩:=hasS_t h1 | obtain ⟨_,rfl⟩:=hasS_l h1
  first | obtain ⟨_,rfl⟩:=hasS_i h2 | obtain ⟨_,rfl⟩:=hasS_t h2 | obtain ⟨_,rfl⟩:=hasS_l h2
  simp [ltD_i] at h3 h4; congr 1; lia
 | .tup l,a,b,h1,h2,h3,h4=>by
  first | obtain ⟨_,rfl⟩:=hasS_i h1 | obtain ⟨_,rfl⟩:=hasS_t h1 | obtain ⟨_,rfl⟩:=hasS_l h1
  first | obtain ⟨_,rfl⟩:=hasS_i h2 | obtain ⟨_,rfl⟩:=hasS_t h2 | obtain ⟨_,rfl⟩:=hasS_l h2
  rw [ltDs_tot l _ _ h1 h2 h3 h4]
 | .lst l,a,b,h1,h2,h3,h4=>by
  first | obtain ⟨_,rfl⟩:=hasS_i h1 | obtain ⟨_,rfl⟩:=hasS_t h1 | obtain ⟨_,rfl⟩:=hasS_l h1
  first | obtain ⟨_,rfl⟩:=hasS_i h2 | obtain ⟨_,rfl⟩:=hasS_t h2 | obtain ⟨_,rfl⟩:=hasS_l h2
  rw [ltDl_tot l (ltD_tot l) _ _ h1 h2 h3 h4]
theorem ltDs_tot:∀ (l:List Shp) (xs ys:List D),hasSs l xs=true->hasSs l ys=true->ltDs xs ys=false->ltDs ys xs=false->xs=ys
 | [],xs,ys,h1,h2,_,_=>by
  cases xs with
  | nil=>cases ys with
   | nil=>rfl
   | cons _ _=>cases h2
  | cons _ _=>cases h1
 | s :: l,xs,ys,h1,h2,h3,h4=>by
  cases xs with
  | nil=>cases h1
  | cons x xs =>
   cases ys with
   | nil=>cases h2
   | cons y ys =>
    have h1:(hasS s x&&hasSs l xs)=true:=h1
    have h2:(hasS s y&&hasSs l ys)=true:=h2
    rw [Bool.and_eq_true] at h1 h2
    simp only [ltDs_c] at h3 h4
    by_cases e:eqD x y=true
    ·have exy:=eqD_S s x y h1.1 h2.1 e
     subst exy
     rw [if_pos e] at h3 h4
     rw [ltDs_tot l xs ys h1.2 h2.2 h3 h4]
    ·rw [if_neg e] at h3
     by_cases e2:eqD y x=true
     ·have:=eqD_S s y x h2.1 h1.1 e2
      subst this; exact absurd e2 e
     ·rw [if_neg e2] at h4
      have:=ltD_tot s x y h1.1 h2.1 h3 h4
      subst this
      exact absurd (eqD_refl_S s x h1.1) e
end
mutual
theorem ltD_irr:∀ (sh:Shp) (a:D),hasS sh a=true->ltD a a=false
 | .int,.int i,_=>by rw [ltD_i]; exact decide_eq_false (Int.lt_irrefl _)
 | .tup l,.tup xs,h=>by show ltDs xs xs=false; exact ltDs_irr l xs h
 | .lst l,.rol xs,h=>by show ltDs xs xs=false; exact ltDl_irr l xs h
theorem ltDs_irr:∀ (l:List Shp) (xs:List D),hasSs l xs=true->ltDs xs xs=false
 | [],[],_=>rfl
 | s :: l,x :: xs,h=>by
  have h:(hasS s x&&hasSs l xs)=true:=h
  rw [Bool.and_eq_true] at h
  simp only [ltDs_c,eqD_refl_S s x h.1,if_true]; exact ltDs_irr l xs h.2
theorem ltDl_irr:∀ (s:Shp) (xs:List D),hasSl s xs=true->ltDs xs xs=false
 | _,[],_=>rfl
 | s,x :: xs,h=>by
  have h:(hasS s x&&hasSl s xs)=true:=h
  rw [Bool.and_eq_true] at h
  simp only [ltDs_c,eqD_refl_S s x h.1,if_true]; exact ltDl_irr s xs h.2
end
theorem ltDl_trans (s:Shp) (ih:∀ (a b c:D),hasS s a=true->hasS s b=true->hasS s c=true->ltD a b=true->ltD b c=true->ltD a c=true):∀ (xs ys zs:List D),hasSl s xs=true->hasSl s ys=true->hasSl s zs=true->ltDs xs ys=true->ltDs ys zs=true->ltDs xs zs=true:=by
 intro xs
 induction xs with
 | nil =>
  intro ys zs _ _ _ h4 h5
  cases ys with
  | nil=>cases h4
  | cons _ _=>cases zs with
   | nil=>cases h5
   | cons _ _=>rfl
 | cons x xs ihx =>
  intro ys zs h1 h2 h3 h4 h5
  cases ys with
  | nil=>cases h4
  | cons y ys =>
   cases zs with
   | nil=>cases h5
   | cons z zs =>
    have h1:(hasS s x&&hasSl s xs)=true:=h1
    have h2:(hasS s y&&hasSl s ys)=true:=h2
    have h3:(hasS s z&&hasSl s zs)=true:=h3
    rw [Bool.and_eq_true] at h1 h2 h3
    simp only [ltDs_c] at h4 h5 ⊢
    by_cases e1:eqD x y=true
    ·have:=eqD_S s x y h1.1 h2.1 e1
     subst this
     rw [if_pos e1] at h4
     by_cases e2:eqD x z=true
     ·rw [if_pos e2] at h5 ⊢
      exact ihx ys zs h1.2 h2.2 h3.2 h4 h5
     ·rw [if_neg e2] at h5 ⊢; exact h5
    ·rw [if_neg e1] at h4
     by_cases e2:eqD y z=true
     ·have:=eqD_S s y z h2.1 h3.1 e2
      subst this
      rw [if_neg e1]; exact h4
     ·rw [if_neg e2] at h5
      have h6:=ih x y z h1.1 h2.1 h3.1 h4 h5
      rw [if_neg (fun e3=>by
       have:=eqD_S s x z h1.1 h3.1 e3
       subst this
       rw [ltD_irr s x h1.1] at h6; cases h6)]
      exact h6
mutual
theorem ltD_trans:∀ (sh:Shp) (a b c:D),hasS sh a=true->hasS sh b=true->hasS sh c=true->ltD a b=true->ltD b c=true->ltD a c=true
 | .int,a,b,c,h1,h2,h3,h4,h5=>by
  first | obtain ⟨_,rfl⟩:=hasS_i h1 | obtain ⟨_,rfl⟩:=hasS_t h1 | obtain ⟨_,rfl⟩:=hasS_l h1
  first | obtain ⟨_,rfl⟩:=hasS_i h2 | obtain ⟨_,rfl⟩:=hasS_t h2 | obtain ⟨_,rfl⟩:=hasS_l h2
  first | obtain ⟨_,rfl⟩:=hasS_i h3 | obtain ⟨_,rfl⟩:=hasS_t h3 | obtain ⟨_,rfl⟩:=hasS_l h3
  simp [ltD_i] at *; lia
 | .tup l,a,b,c,h1,h2,h3,h4,h5=>by
  first | obtain ⟨_,rfl⟩:=hasS_i h1 | obtain ⟨_,rfl⟩:=hasS_t h1 | obtain ⟨_,rfl⟩:=hasS_l h1
  first | obtain ⟨_,rfl⟩:=hasS_i h2 | obtain ⟨_,rfl⟩:=hasS_t h2 | obtain ⟨_,rfl⟩:=hasS_l h2
  first | obtain ⟨_,rfl⟩:=hasS_i h3 | obtain ⟨_,rfl⟩:=hasS_t h3 | obtain ⟨_,rfl⟩:=hasS_l h3
  exact ltDs_trans l _ _ _ h1 h2 h3 h4 h5
 | .lst l,a,b,c,h1,h2,h3,h4,h5=>by
  first | obtain ⟨_,rfl⟩:=hasS_i h1 | obtain ⟨_,rfl⟩:=hasS_t h1 | obtain ⟨_,rfl⟩:=hasS_l h1
  first | obtain ⟨_,rfl⟩:=hasS_i h2 | obtain ⟨_,rfl⟩:=hasS_t h2 | obtain ⟨_,rfl⟩:=hasS_l h2
  first | obtain ⟨_,rfl⟩:=hasS_i h3 | obtain ⟨_,rfl⟩:=hasS_t h3 | obtain ⟨_,rfl⟩:=hasS_l h3
  exact ltDl_trans l (ltD_trans l) _ _ _ h1 h2 h3 h4 h5
theorem ltDs_trans:∀ (l:List Shp) (xs ys zs:List D),hasSs l xs=true->hasSs l ys=true->hasSs l zs=true->ltDs xs ys=true->ltDs ys zs=true->ltDs xs zs=true
 | [],xs,ys,zs,h1,h2,_,h,_=>by
  cases xs with
  | nil=>cases ys with
   | nil=>cases h
   | cons _ _=>cases h2
  | cons _ _=>cases h1
 | s :: l,xs,ys,zs,h1,h2,h3,h4,h5=>by
  cases xs with
  | nil=>cases h1
  | cons x xs =>
   cases ys with
   | nil=>cases h2
   | cons y ys =>
    cases zs with
    | nil=>cases h3
    | cons z zs =>
     have h1:(hasS s x&&hasSs l xs)=true:=h1
     have h2:(hasS s y&&hasSs l ys)=true:=h2
     have h3:(hasS s z&&hasSs l zs)=true:=h3
     rw [Bool.and_eq_true] at h1 h2 h3
     simp only [ltDs_c] at h4 h5 ⊢
     by_cases e1:eqD x y=true
     ·have:=eqD_S s x y h1.1 h2.1 e1
      subst this
      rw [if_pos e1] at h4
      by_cases e2:eqD x z=true
      ·rw [if_pos e2] at h5 ⊢
       exact ltDs_trans l xs ys zs h1.2 h2.2 h3.2 h4 h5
      ·rw [if_neg e2] at h5 ⊢; exact h5
     ·rw [if_neg e1] at h4
      by_cases e2:eqD y z=true
      ·have:=eqD_S s y z h2.1 h3.1 e2
       subst this
       rw [if_neg e1]; exact h4
      ·rw [if_neg e2] at h5
       have h6:=ltD_trans s x y z h1.1 h2.1 h3.1 h4 h5
       rw [if_neg (fun e3=>by
        have:=eqD_S s x z h1.1 h3.1 e3
        subst this
        rw [ltD_irr s x h1.1] at h6; cases h6)]
       exact h6
end
theorem ltD_asymm (sh:Shp) {a b:D} (h1:hasS sh a=true) (h2:hasS sh b=true) (h:ltD a b=true):ltD b a=false:=by
 cases q:ltD b a with
 | false=>rfl
 | true=>have:=ltD_trans sh a b a h1 h2 h1 h q; rw [ltD_irr sh a h1] at this; cases this
theorem ltD_ntrans (sh:Shp) {a b c:D} (h1:hasS sh a=true) (h2:hasS sh b=true) (h3:hasS sh c=true) (q1:ltD b a=false) (q2:ltD c b=false):ltD c a=false:=by
 cases h:ltD c a with
 | false=>rfl
 | true =>
  exfalso
  cases q:ltD a b with
  | false =>
   have:=ltD_tot sh a b h1 h2 q q1
   subst this; rw [h] at q2; cases q2
  | true=>rw [ltD_trans sh c a b h3 h1 h2 h q] at q2; cases q2
theorem sortD_unique (sh:Shp) {xs ys:List D} (hx:∀ x∈xs,hasS sh x=true) (hp:ys.Perm xs) (hs:ys.Pairwise fun a b=>ltD b a=false):sortD xs=ys:=by
 have hy:∀ y∈ys,hasS sh y=true:=fun y h=>hx y (hp.mem_iff.mp h)
 have p1:(sortD xs).Perm xs:=List.mergeSort_perm xs leD
 have hz:∀ z∈sortD xs,hasS sh z=true:=fun z h=>hx z (p1.mem_iff.mp h)
 have s1:(sortD xs).Pairwise fun a b=>ltD b a=false:=by
  let xs':List { d:D // hasS sh d=true }:=xs.attach.map fun x=>⟨x.1,hx x.1 x.2⟩
  have ex:xs=xs'.map (·.1):=by
   simp only [xs',List.map_map]
   conv=>lhs; rw [← List.attach_map_subtype_val xs]
   rfl
  have e2:sortD xs=(xs'.mergeSort fun a b=>leD a.1 b.1).map (·.1):=by
   unfold sortD
   rw [ex]
   exact (List.map_mergeSort (r:=fun (a b:{ d:D // hasS sh d=true })=>leD a.1 b.1) (s:=leD) (f:=fun x=>x.1) (l:=xs') fun a _ b _=>rfl).symm
  rw [e2,List.pairwise_map]
  have:=List.pairwise_mergeSort (le:=fun (a b:{ d:D // hasS sh d=true })=>leD a.1 b.1) (fun a b c h1 h2=>by
   unfold leD at *
   simp only [Bool.not_eq_true'] at *
   exact ltD_ntrans sh a.2 b.2 c.2 h1 h2) (fun a b=>by
   unfold leD
   cases q:ltD b.1 a.1 with
   | false=>rfl
   | true=>rw [ltD_asymm sh b.2 a.2 q]; rfl) xs'
  exact this.imp fun h=>by unfold leD at h; simpa using h
 refine List.Perm.eq_of_pairwise (le:=fun a b=>ltD b a=false) (fun a b ha hb h h'=>?_) s1 hs (p1.trans hp.symm)
 exact ltD_tot sh a b (hz a ha) (hy b hb) h' h
end K2
end
section
namespace K2
open PySem (Str)
open Enc (enc)
noncomputable def enumD (k:Nat):List D->List D
 | []=>[]
 | d :: r=>.tup [.int (k:Int),d] :: enumD (k+1) r
theorem enumD_get:∀ (ds:List D) (k i:Nat),(enumD k ds)[i]?=(ds[i]?).map fun d=>D.tup [.int ((k+i:Nat):Int),d]
 | [],k,i=>by simp [enumD]
 | d :: r,k,0=>by simp [enumD]
 | d :: r,k,i+1=>by
  rw [enumD,List.getElem?_cons_succ,enumD_get r (k+1) i,List.getElem?_cons_succ]
  congr 1; funext x; congr 3; lia
theorem enumD_len:∀ (ds:List D) (k:Nat),(enumD k ds).length=ds.length
 | [],_=>rfl
 | d :: r,k=>by rw [enumD,List.length_cons,List.length_cons,enumD_len r]
noncomputable def iEnumAt (x:D) (G1:Gp) (R:List D->(Gp->Prop)->Gp->Prop):Prop:=match x with
 | .rol ds=>R (enumD 0 ds) (fun _=>True) G1
 | .ref p=>(match G1 p with
  | some (.lst ds)=>R (enumD 0 ds) (fun G2=>G2 p=some (.lst ds)) G1
  | _=>False)
 | _=>False
noncomputable def iEnum (a:TE2):TI2:=fun E τ G R=>a E τ G fun x G1=>iEnumAt x G1 R
noncomputable def one1 (P:D->Gp->Prop):List D->Gp->Prop
 | [x],G=>P x G
 | _,_=>False
noncomputable def iDictAt (x:D) (G1:Gp) (R:List D->(Gp->Prop)->Gp->Prop):Prop:=match x with
 | .rod kvs=>R (kvs.map (·.1)) (fun _=>True) G1
 | _=>False
noncomputable def iDict (a:TE2):TI2:=fun E τ G R=>a E τ G fun x G1=>iDictAt x G1 R
noncomputable def IsL (G:Gp) (d:D) (ds:List D):Prop:=d=.rol ds\/∃ a,d=.ref a/\G a=some (.lst ds)
theorem IsL.rol {G:Gp} {ds:List D}:IsL G (.rol ds) ds:=.inl rfl
theorem IsL.enc {α:Type} [DecidableEq α] [Enc α] {G:Gp} (xs:List α):IsL G (enc xs) (xs.map enc):=.inl rfl
theorem IsL.ref {G:Gp} {a:Nat} {ds:List D} (h:G a=some (.lst ds)):IsL G (.ref a) ds:=.inr ⟨a,rfl,h⟩
theorem truAt_of {G:Gp} {d:D} {ds:List D} {Q:Bool->Gp->Prop} (h:IsL G d ds) (k:Q (!ds.isEmpty) G):truAt d G Q:=by
 rcases h with rfl | ⟨a,rfl,e⟩
 ·exact k
 ·rw [truAt_lst e]; exact k
theorem itemsOf_of {G:Gp} {d:D} {ds:List D} (h:IsL G d ds):itemsOf d G=some ds:=by
 rcases h with rfl | ⟨a,rfl,e⟩
 ·rfl
 ·unfold itemsOf; simp only [e]
theorem cLen_of {G:Gp} {d:D} {ds:List D} {Q:DK} (h:IsL G d ds) (k:Q (.int (ds.length:Int)) G):cLen [d] G Q:=by
 rcases h with rfl | ⟨a,rfl,e⟩
 ·exact k
 ·rw [cLen_lst e]; exact k
theorem cList_of {G:Gp} {d:D} {ds:List D} {Q:DK} (h:IsL G d ds) (k:dNew G (.lst ds) Q):cList [d] G Q:=by
 unfold cList; simp only [itemsOf_of h]; exact k
theorem rIx_of {G:Gp} {d x:D} {ds:List D} {i:Int} {Q:DK} (h:IsL G d ds) (e:atI ds i=some x) (k:Q x G):rIx d (.int i) G Q:=by
 rcases h with rfl | ⟨a,rfl,e2⟩
 ·rw [rIx_rol e]; exact k
 ·rw [rIx_lst e2 e]; exact k
theorem lstOf_of {G:Gp} {d:D} {ds:List D} (h:IsL G d ds):lstOf d G=some ds:=by
 rcases h with rfl | ⟨a,rfl,e⟩
 ·rfl
 ·unfold lstOf; simp only [e]
theorem addL_of {G:Gp} {d e:D} {ds es:List D} {Q:DK} (h:IsL G d ds) (h':IsL G e es) (hz:ds.length+es.length<=SZ) (k:dNew G (.lst (ds++es)) Q):addL d e G Q:=by
 unfold addL; simp only [lstOf_of h,lstOf_of h']; exact ⟨hz,k⟩
theorem cut_map {α β:Type} (f:α->β) (xs:List α) (lo hi:Option Int):cut (xs.map f) lo hi=(cut xs lo hi).map f:=by
 unfold cut; rw [List.length_map,List.map_take,List.map_drop]
theorem atI_nat {α:Type} (xs:List α) {k:Int} (h0:0<=k) (h1:k < xs.length):atI xs k=some (xs[k.toNat]'(by lia)):=by
 unfold atI ixN
 rw [if_pos h0,if_pos h1]
 show xs[k.toNat]?=_
 exact List.getElem?_eq_getElem (by lia)
theorem rangeD_mem {n:Nat} {pre post:List D} {d:D} (h:rangeD 0 n=pre++d :: post):d=.int (pre.length:Int)/\pre.length < n:=by
 have hl:pre.length < n:=by
  have:=congrArg List.length h
  simp [rangeD] at this; lia
 have:=congrArg (fun l=>l[pre.length]?) h
 simp only [rangeD,List.getElem?_map,List.getElem?_range hl] at this
 rw [List.getElem?_append_right (Nat.le_refl _)] at this
 simp at this
 exact ⟨this.symm,hl⟩
noncomputable def spF2 {α β γ:Type} [DecidableEq α] [Enc α] [DecidableEq β] [Enc β] [DecidableEq γ] [Enc γ] (pre:α->β->Prop) (f:α->β->γ):Sp2:=fun ds G Q _=>∃ (a:α) (b:β),ds=[enc a,enc b]/\pre a b/\Q (enc (f a b)) G
end K2
end
section
namespace K2
open PySem (Str)
open Enc (enc)
noncomputable def dicOf:D->Gp->Option (List (D×D))
 | .rod kvs,_=>some kvs
 | .ref a,G=>match G a with
  | some (.dic kvs)=>some kvs
  | _=>none
 | _,_=>none
end K2
end
section
namespace K2
open PySem (Str)
open Enc (enc)
noncomputable abbrev TF2:=XK2->St2->Gp->(List Str->Gp->Prop)->Prop
end K2
end
section
namespace K2
open PySem (Str)
open Enc (enc)
noncomputable def eqKT (l m:List (T2×T2)):Bool:=l.length == m.length&&l.all fun p=>aget m p.1 == some p.2
noncomputable def rEqT (neg:Bool):R22:=fun x y G Q=>∃ l m:List (T2×T2),dicOf x G=some (encKV l)/\dicOf y G=some (encKV m)/\eqKT l m=true/\Q (.bl (!neg)) G
end K2
end
section
namespace K2
open PySem (Str)
open Enc (enc)
noncomputable def h2 (t:T2):Int:=PySem.reduceHash (PySem.Builtin.Tuple.tupleHashOf [PySem.hashInt t.a,PySem.hashInt t.b])
noncomputable def mUpdT (x:D) (ds:List D) (G:Gp) (Q:DK):Prop:=match x,ds with
 | .ref a,[y]=>∃ l m:List (T2×T2),G a=some (.dic (encKV l))/\y=.rod (encKV m)/\(l.length+m.length<=500/\((l++m).map (·.1)).Nodup/\(l=[]->(m.map fun p=>h2 p.1).Nodup))/\Q .non (updG G a (.dic (encKV (l++m))))
 | _,_=>False
noncomputable def dLVals (t:TE2):TE2:=fun E τ G Q=>t E τ G fun x G1=>∃ l:List (T2×T2),x=.rod (encKV l)/\l.length<=500/\dNew G1 (.lst (l.map fun p=>enc p.2)) Q
noncomputable def cListR (ds:List D) (G:Gp) (Q:DK):Prop:=match ds with
 | [x]=>∃ l:List (T2×T2),x=.rod (encKV l)/\l.length<=500/\dNew G (.lst (l.map fun p=>enc p.1)) Q
 | _=>False
noncomputable def cSortedST (ds:List D) (G:Gp) (Q:DK):Prop:=match ds with
 | [x]=>∃ l:List T2,lstOf x G=some (l.map enc)/\(1<=l.length/\l.length < 64)/\∀ m:List T2,m.Nodup->(∀ y,y∈m↔y∈l)->dNew G (.lst ((srt m).map enc)) Q
 | _=>False
noncomputable def cMax (ds:List D) (G:Gp) (Q:DK):Prop:=match ds with
 | [.int a,.int b]=>Q (.int (if a < b then b else a)) G
 | _=>False
end K2
end
section
namespace K2.S
open PySem PySem.SetTable
noncomputable def f5 (m i:Nat):Nat:=(i * 5+1) % (m+1)
noncomputable def itf (m:Nat):Nat->Nat->Nat
 | 0,i=>i
 | k+1,i=>itf m k (f5 m i)
theorem itf_add (m:Nat):∀ (a b i:Nat),itf m (a+b) i=itf m b (itf m a i)
 | 0,b,i=>by rw [Nat.zero_add]; rfl
 | a+1,b,i=>by rw [Nat.succ_add]; exact itf_add m a b (f5 m i)
noncomputable def Mk (m:Nat):Prop:=m=7\/m=31\/m=127
noncomputable def orb (m:Nat):Nat->Nat->List Nat
 | 0,_=>[]
 | k+1,i=>i :: orb m k (f5 m i)
theorem orb_mem (m:Nat):∀ (n i e:Nat),e∈orb m n i->∃ k,k < n/\itf m k i=e
 | 0,_,_,h=>by cases h
 | n+1,i,e,h=>by
  rcases List.mem_cons.mp h with rfl | h
  ·exact ⟨0,Nat.succ_pos _,rfl⟩
  ·obtain ⟨k,hk,q⟩:=orb_mem m n (f5 m i) e h
   exact ⟨k+1,Nat.succ_lt_succ hk,q⟩
theorem orb_all {m:Nat} (h:Mk m):(∀ e,e < m+1->e∈orb m (m+1) 0)/\itf m (m+1) 0=0:=by
 have key:∀ m,((List.range (m+1)).all fun e=>(orb m (m+1) 0).contains e)=true->itf m (m+1) 0=0->(∀ e,e < m+1->e∈orb m (m+1) 0)/\itf m (m+1) 0=0:=fun m h1 h2 =>
  ⟨fun e he=>by simpa using (List.all_eq_true.mp h1) e (List.mem_range.mpr he),h2⟩
 rcases h with rfl | rfl | rfl
 ·exact key _ (by decide +kernel) (by decide +kernel)
 ·exact key _ (by decide +kernel) (by decide +kernel)
 ·exact key _ (by decide +kernel) (by decide +kernel)
theorem cover {m:Nat} (h:Mk m) {i e:Nat} (hi:i < m+1) (he:e < m+1):∃ k,k < m+1/\itf m k i=e:=by
 obtain ⟨all,back⟩:=orb_all h
 obtain ⟨a,ha,qa⟩:=orb_mem m _ _ _ (all i hi)
 obtain ⟨b,hb,qb⟩:=orb_mem m _ _ _ (all e he)
 by_cases c:a<=b
 ·refine ⟨b - a,by lia,?_⟩
  rw [← qa,← itf_add,show a+(b - a)=b by lia,qb]
 ·refine ⟨m+1 - a+b,by lia,?_⟩
  rw [← qa,← itf_add,show a+(m+1 - a+b)=(m+1)+b by lia,itf_add,back,qb]
noncomputable def lp (m:Nat):Nat->Nat×Nat->Nat×Nat
 | 0,x=>x
 | k+1,x=>lp m k (leap m x.1 x.2)
theorem lp_add (m:Nat):∀ (a b:Nat) (x:Nat×Nat),lp m (a+b) x=lp m b (lp m a x)
 | 0,b,i=>by rw [Nat.zero_add]; rfl
 | a+1,b,i=>by rw [Nat.succ_add]; exact lp_add m a b _
theorem lp_pert (m:Nat):∀ (k:Nat) (x:Nat×Nat),(lp m k x).2=x.2 / 32 ^ k
 | 0,x=>by rw [Nat.pow_zero,Nat.div_one]; rfl
 | k+1,x=>by
  show (lp m k _).2=_
  rw [lp_pert m k]
  show x.2 / 32 / 32 ^ k=_
  rw [Nat.div_div_eq_div_mul,Nat.pow_succ,Nat.mul_comm]
theorem lp_zero (m:Nat):∀ (k i:Nat),lp m k (i,0)=(itf m k i,0)
 | 0,_=>rfl
 | k+1,i=>by
  show lp m k ((i * 5+1+0 / 32) % (m+1),0 / 32)=_
  rw [Nat.zero_div,Nat.add_zero]
  exact lp_zero m k _
theorem lp_lt (m:Nat):∀ (k:Nat) (x:Nat×Nat),x.1 < m+1->(lp m k x).1 < m+1
 | 0,_,h=>h
 | k+1,x,_=>lp_lt m k _ (Nat.mod_lt _ (Nat.succ_pos m))
theorem lp_cover {m:Nat} (h:Mk m) {x:Nat×Nat} (h1:x.1 < m+1) (h2:x.2 < 2 ^ 64) {e:Nat} (he:e < m+1):∃ k,k < m+14/\(lp m k x).1=e:=by
 have z:(lp m 13 x).2=0:=by
  rw [lp_pert]; exact Nat.div_eq_of_lt (Nat.lt_of_lt_of_le h2 (by decide))
 obtain ⟨k,hk,q⟩:=cover h (lp_lt m 13 x h1) he
 refine ⟨13+k,by lia,?_⟩
 rw [lp_add,show lp m 13 x=((lp m 13 x).1,0) from by rw [← z],lp_zero]
 exact q
noncomputable def stp (m:Nat) (p:Probe):Probe :=
 if p.more > 0 then { p with j:=p.j+1,more:=p.more - 1 } else
 { p with j:=(leap m p.i p.perturb).1,more:=runEnd m (leap m p.i p.perturb).1 - (leap m p.i p.perturb).1,i:=(leap m p.i p.perturb).1,perturb:=(leap m p.i p.perturb).2 }
noncomputable def stps (m:Nat):Nat->Probe->Probe
 | 0,p=>p
 | k+1,p=>stps m k (stp m p)
theorem stps_add (m:Nat):∀ (a b:Nat) (p:Probe),stps m (a+b) p=stps m b (stps m a p)
 | 0,b,p=>by rw [Nat.zero_add]; rfl
 | a+1,b,p=>by rw [Nat.succ_add]; exact stps_add m a b _
theorem stps_succ (m k:Nat) (p:Probe):stps m (k+1) p=stp m (stps m k p):=stps_add m k 1 p
noncomputable def blk (m:Nat) (x:Nat×Nat):Probe:={ j:=x.1,more:=runEnd m x.1 - x.1,i:=x.1,perturb:=x.2,dummy:=none }
theorem more_le (m i:Nat):runEnd m i - i<=9:=by unfold runEnd; split <;> lia
theorem run_end (m:Nat):∀ (n:Nat) (p:Probe),p.more=n->p.dummy=none->stps m (n+1) p=blk m (leap m p.i p.perturb)
 | 0,p,h,hd=>by
  show stp m p=_
  unfold stp
  rw [if_neg (by lia)]
  obtain ⟨j,mo,i,pe,d⟩:=p
  cases hd; rfl
 | n+1,p,h,hd=>by
  show stps m (n+1) (stp m p)=_
  have e:stp m p={ p with j:=p.j+1,more:=p.more - 1 }:=by unfold stp; rw [if_pos (by lia)]
  rw [e]
  exact run_end m n _ (by show p.more - 1=n; lia) hd
theorem blks (m:Nat):∀ (k:Nat) (x:Nat×Nat),∃ n,n<=10 * k/\stps m n (blk m x)=blk m (lp m k x)
 | 0,x=>⟨0,Nat.le_refl _,rfl⟩
 | k+1,x=>by
  obtain ⟨n,hn,q⟩:=blks m k (leap m x.1 x.2)
  refine ⟨(runEnd m x.1 - x.1+1)+n,?_,?_⟩
  ·have:=more_le m x.1; lia
  ·rw [stps_add,run_end m (runEnd m x.1 - x.1) (blk m x) rfl rfl]; exact q
structure Pb (m:Nat) (p:Probe):Prop where
 hi:p.i < m+1
 hp:p.perturb < 2 ^ 64
 hm:p.more<=9
 hd:p.dummy=none
theorem Pb.leap {m:Nat} {p:Probe} (h:Pb m p):(leap m p.i p.perturb).1 < m+1/\(leap m p.i p.perturb).2 < 2 ^ 64 :=
 ⟨Nat.mod_lt _ (Nat.succ_pos m),Nat.lt_of_le_of_lt (Nat.div_le_self _ _) h.hp⟩
theorem Pb.stp {m:Nat} {p:Probe} (h:Pb m p):Pb m (stp m p):=by
 unfold S.stp
 split
 ·exact ⟨h.hi,h.hp,Nat.le_trans (Nat.sub_le _ _) h.hm,h.hd⟩
 ·exact ⟨h.leap.1,h.leap.2,more_le _ _,h.hd⟩
theorem Pb.stps {m:Nat}:∀ (k:Nat) {p:Probe},Pb m p->Pb m (stps m k p)
 | 0,_,h=>h
 | k+1,_,h=>Pb.stps k h.stp
theorem Pb.cover {m:Nat} (hm:Mk m) {p:Probe} (h:Pb m p) {e:Nat} (he:e < m+1):∃ n,n < 10 * turns m/\(S.stps m n p).j=e:=by
 obtain ⟨k,hk,q⟩:=lp_cover hm h.leap.1 h.leap.2 he
 obtain ⟨n,hn,q2⟩:=blks m k (SetTable.leap m p.i p.perturb)
 refine ⟨p.more+1+n,?_,?_⟩
 ·have:=h.hm; unfold turns; lia
 ·rw [stps_add,run_end m p.more p rfl h.hd,q2]; exact q
theorem Pb.start (t:SetTable) (h:Int):Pb t.mask (t.probeStart h):=by
 refine ⟨Nat.mod_lt _ (Nat.succ_pos _),?_,more_le _ _,rfl⟩
 show bits h < 2 ^ 64
 unfold bits
 have h1:0<=h % (2 ^ 64:Int):=Int.emod_nonneg _ (by decide)
 have h2:h % (2 ^ 64:Int) < 2 ^ 64:=Int.emod_lt_of_pos _ (by decide)
 lia
end K2.S
end
section
namespace K2.S
open PySem PySem.SetTable
noncomputable def Up (xs:Array Nat):Prop:=∀ a b,a < b->b < xs.size->xs.getD a 0 < xs.getD b 0
theorem getD_any (xs:Array Nat) {k:Nat} (h:k < xs.size) (a b:Nat):xs.getD k a=xs.getD k b:=by
 rw [Array.getD_eq_getD_getElem?,Array.getD_eq_getD_getElem?,Array.getElem?_eq_getElem h]; rfl
theorem go_spec {xs:Array Nat} (up:Up xs) (j:Nat):∀ (fuel lo hi:Nat),hi - lo<=fuel->lo<=hi->hi<=xs.size->(∀ k,k < lo->xs.getD k 0 < j)->(∀ k,hi<=k->k < xs.size->j<=xs.getD k 0) ->
  below.go xs j fuel lo hi<=xs.size/\(∀ k,k < below.go xs j fuel lo hi->xs.getD k 0 < j)/\(∀ k,below.go xs j fuel lo hi<=k->k < xs.size->j<=xs.getD k 0)
 | 0,lo,hi,h1,h2,h3,h4,h5=>by
  have e:lo=hi:=by lia
  subst e
  exact ⟨h3,h4,h5⟩
 | fuel+1,lo,hi,h1,h2,h3,h4,h5=>by
  show (below.go xs j (fuel+1) lo hi)<=_/\_
  unfold below.go
  by_cases c:lo < hi
  ·rw [if_pos c]
   have hm:(lo+hi) / 2 < xs.size:=by lia
   dsimp only
   rw [getD_any xs hm j 0]
   by_cases q:xs.getD ((lo+hi) / 2) 0 < j
   ·rw [if_pos q]
    refine go_spec up j fuel _ _ (by lia) (by lia) h3 (fun k hk=>?_) h5
    by_cases e:k=(lo+hi) / 2
    ·rw [e]; exact q
    ·exact Nat.lt_trans (up _ _ (by lia) hm) q
   ·rw [if_neg q]
    refine go_spec up j fuel _ _ (by lia) (by lia) (by lia) h4 fun k hk hs=>?_
    by_cases e:k=(lo+hi) / 2
    ·rw [e]; lia
    ·have:=up ((lo+hi) / 2) k (by lia) hs; lia
  ·rw [if_neg c]
   exact ⟨by lia,h4,fun k hk hs=>h5 k (by lia) hs⟩
theorem below_spec {xs:Array Nat} (up:Up xs) (j:Nat):below xs j<=xs.size/\(∀ k,k < below xs j->xs.getD k 0 < j)/\(∀ k,below xs j<=k->k < xs.size->j<=xs.getD k 0) :=
 go_spec up j _ _ _ (by lia) (by lia) (by lia) (fun k h=>by lia) (fun k h1 h2=>by lia)
theorem below_at {xs:Array Nat} (up:Up xs) {k:Nat} (hk:k < xs.size):below xs (xs.getD k 0)=k:=by
 obtain ⟨h1,h2,h3⟩:=below_spec up (xs.getD k 0)
 by_cases a:below xs (xs.getD k 0) < k
 ·have:=h3 _ (Nat.le_refl _) (by lia)
  have:=up _ _ a hk
  lia
 ·by_cases b:k < below xs (xs.getD k 0)
  ·have:=h2 _ b; lia
  ·lia
noncomputable def Full (xs:Array Nat) (j:Nat):Prop:=∃ k,k < xs.size/\xs.getD k 0=j
theorem Up.inj {xs:Array Nat} (up:Up xs) {a b:Nat} (ha:a < xs.size) (hb:b < xs.size) (e:xs.getD a 0=xs.getD b 0):a=b:=by
 by_cases c:a < b
 ·have:=up _ _ c hb; lia
 ·by_cases d:b < a
  ·have:=up _ _ d ha; lia
  ·lia
theorem get_getD (xs:Array Nat) {k:Nat} (h:k < xs.size):xs[k]?=some (xs.getD k 0):=by
 rw [Array.getD_eq_getD_getElem?,Array.getElem?_eq_getElem h]; rfl
theorem slot_live {t:SetTable} (up:Up t.place) {k:Nat} (hk:k < t.place.size):t.slot (t.place.getD k 0)=.live k:=by
 unfold slot
 dsimp only
 rw [below_at up hk,get_getD _ hk]
 rw [if_pos (by simp)]
theorem slot_empty {t:SetTable} (up:Up t.place) (dm:t.dummies=#[]) {j:Nat} (h:¬ Full t.place j):t.slot j=.empty:=by
 unfold slot
 dsimp only
 have n1:(t.place[below t.place j]? == some j)=false:=by
  rw [Bool.eq_false_iff]
  intro q
  have q:=beq_iff_eq.mp q
  obtain ⟨lt,e⟩:=Array.getElem?_eq_some_iff.mp q
  exact h ⟨_,lt,by rw [Array.getD_eq_getD_getElem?,q]; rfl⟩
 rw [n1,dm]
 rfl
theorem slot_cases {t:SetTable} (up:Up t.place) (dm:t.dummies=#[]) (j:Nat):(¬ Full t.place j/\t.slot j=.empty)\/(∃ k,k < t.place.size/\t.place.getD k 0=j/\t.slot j=.live k):=by
 by_cases h:Full t.place j
 ·obtain ⟨k,hk,e⟩:=h
  exact .inr ⟨k,hk,e,e ▸ slot_live up hk⟩
 ·exact .inl ⟨h,slot_empty up dm h⟩
theorem probe_go {t:SetTable} (up:Up t.place) (dm:t.dummies=#[]) (hashAt:Nat->Int) (h:Int):∀ (fuel:Nat) (p:Probe),Pb t.mask p->(∃ n,n < fuel/\¬ Full t.place (stps t.mask n p).j) ->
    ∃ n met,probe.go t hashAt h fuel p=some met/\(∀ n',n' < n->∃ k,k < t.place.size/\t.place.getD k 0=(stps t.mask n' p).j/\hashAt k≠h) /\
      ((¬ Full t.place (stps t.mask n p).j/\met=.empty (stps t.mask n p).j none) \/
       (∃ k,k < t.place.size/\t.place.getD k 0=(stps t.mask n p).j/\hashAt k=h/\met=.candidate (stps t.mask n p).j k (stps t.mask (n+1) p)))
  | 0,_,_,⟨n,hn,_⟩=>absurd hn (Nat.not_lt_zero _)
  | fuel+1,p,hp,⟨n,hn,hf⟩=>by
    rcases slot_cases up dm p.j with ⟨nf,e⟩ | ⟨k,hk,ek,e⟩
    · refine ⟨0,.empty p.j p.dummy,?_,fun n' z=>absurd z (Nat.not_lt_zero _),.inl ⟨nf,by rw [hp.hd]; rfl⟩⟩
      unfold probe.go
      rw [e]
    · by_cases q:hashAt k=h
      · refine ⟨0,.candidate p.j k (t.advance p),?_,fun n' z=>absurd z (Nat.not_lt_zero _),.inr ⟨k,hk,ek,q,rfl⟩⟩
        unfold probe.go
        rw [e]
        dsimp only
        rw [if_pos (beq_iff_eq.mpr q)]
      · have hn0:∃ m,n=m+1:=by
          cases n with
          | zero=>exact absurd ⟨k,hk,ek⟩ hf
          | succ m=>exact ⟨m,rfl⟩
        obtain ⟨m,rfl⟩:=hn0
        obtain ⟨n',met,g,all,fin⟩:=probe_go up dm hashAt h fuel (stp t.mask p) hp.stp ⟨m,by lia,hf⟩
        refine ⟨n'+1,met,?_,fun n'' z=>?_,fin⟩
        · unfold probe.go
          rw [e]
          dsimp only
          rw [if_neg (fun z=>q (beq_iff_eq.mp z))]
          exact g
        · cases n'' with
          | zero=>exact ⟨k,hk,ek,q⟩
          | succ n''=>exact all n'' (by lia)
end K2.S
end
section
namespace K2.S
open PySem PySem.SetTable
noncomputable abbrev En:=Array (Int×Value)
noncomputable def hk (es:En) (k:Nat):Int:=(es[k]?.map (·.1)).getD 0
structure Ok0 (t:SetTable) (es:En):Prop where
 ms:Mk t.mask
 dm:t.dummies=#[]
 sz:t.place.size=es.size
 up:Up t.place
 le:∀ k,k < t.place.size->t.place.getD k 0<=t.mask
 few:t.place.size<=t.mask
 way:∀ k,k < t.place.size->∃ n,(stps t.mask n (probeStart t (hk es k))).j=t.place.getD k 0/\∀ n',n' < n->Full t.place (stps t.mask n' (probeStart t (hk es k))).j
theorem idx_ge {xs:Array Nat} (up:Up xs) {m:Nat} (all:∀ e,e<=m->Full xs e):∀ e,e<=m->∀ k,k < xs.size->xs.getD k 0=e->e<=k
 | 0,_,_,_,_=>Nat.zero_le _
 | e+1,he,k,hk,q=>by
  obtain ⟨k',hk',q'⟩:=all e (by lia)
  have ih:=idx_ge up all e (by lia) k' hk' q'
  have:k' < k:=by
   by_cases c:k' < k
   ·exact c
   ·by_cases d:k=k'
    ·subst d; lia
    ·have:=up k k' (by lia) hk'; lia
  lia
theorem some_free {xs:Array Nat} (up:Up xs) {m:Nat} (few:xs.size<=m):∃ e,e<=m/\¬ Full xs e:=by
 apply Classical.byContradiction
 intro no
 have all:∀ e,e<=m->Full xs e:=fun e he=>Classical.byContradiction fun z=>no ⟨e,he,z⟩
 obtain ⟨k,hk,q⟩:=all m (Nat.le_refl _)
 have:=idx_ge up all m (Nat.le_refl _) k hk q
 lia
theorem first_free {t:SetTable} {es:En} (O:Ok0 t es) (p:Probe) (hp:Pb t.mask p):∃ N,N < 10 * turns t.mask/\¬ Full t.place (stps t.mask N p).j/\∀ n,n < N->Full t.place (stps t.mask n p).j:=by
 obtain ⟨e,he,hf⟩:=some_free O.up O.few
 obtain ⟨n0,hn,q⟩:=hp.cover O.ms (show e < t.mask+1 by lia)
 have:∀ n,n<=n0->(∃ N,N < 10 * turns t.mask/\¬ Full t.place (stps t.mask N p).j/\∀ n,n < N->Full t.place (stps t.mask n p).j)\/(∀ n',n' < n->Full t.place (stps t.mask n' p).j):=by
  intro n
  induction n with
  | zero=>intro _; exact .inr fun n' z=>absurd z (Nat.not_lt_zero _)
  | succ n ih =>
   intro hn'
   rcases ih (by lia) with a | a
   ·exact .inl a
   ·by_cases c:Full t.place (stps t.mask n p).j
    ·refine .inr fun n' z=>?_
     by_cases d:n'=n
     ·rw [d]; exact c
     ·exact a n' (by lia)
    ·exact .inl ⟨n,by lia,c,a⟩
 rcases this n0 (Nat.le_refl _) with a | a
 ·exact a
 ·exact ⟨n0,hn,by rw [q]; exact hf,a⟩
theorem ins_size {α:Type} (xs:Array α) (p:Nat) (x:α) (hp:p<=xs.size):(insertAt xs p x).size=xs.size+1:=by
 rw [← Array.length_toList,toList_insertAt,List.length_append,List.length_cons,List.length_take,List.length_drop,Array.length_toList]; lia
theorem ins_get {α:Type} (xs:Array α) (p:Nat) (x:α) (hp:p<=xs.size) (k:Nat):(insertAt xs p x)[k]?=if k < p then xs[k]? else if k=p then some x else xs[k - 1]?:=by
 rw [← Array.getElem?_toList,toList_insertAt]
 have hl:(xs.toList.take p).length=p:=by rw [List.length_take,Array.length_toList]; lia
 by_cases c:k < p
 ·rw [if_pos c,List.getElem?_append_left (by lia),List.getElem?_take_of_lt c,Array.getElem?_toList]
 ·rw [if_neg c,List.getElem?_append_right (by lia),hl]
  by_cases d:k=p
  ·subst d; rw [if_pos rfl,Nat.sub_self]; rfl
  ·rw [if_neg d,show k - p=(k - p - 1)+1 by lia,List.getElem?_cons_succ,List.getElem?_drop,show p+(k - p - 1)=k - 1 by lia,Array.getElem?_toList]
theorem ins_getD (xs:Array Nat) (p x:Nat) (hp:p<=xs.size) (k:Nat):(insertAt xs p x).getD k 0=if k < p then xs.getD k 0 else if k=p then x else xs.getD (k - 1) 0:=by
 rw [Array.getD_eq_getD_getElem?,ins_get xs p x hp]
 split
 ·rw [Array.getD_eq_getD_getElem?]
 ·split
  ·rfl
  ·rw [Array.getD_eq_getD_getElem?]
theorem put_place (t:SetTable) (dm:t.dummies=#[]) (j:Nat):t.put j=({ t with place:=insertAt t.place (below t.place j) j },below t.place j):=by
 unfold SetTable.put
 dsimp only
 rw [dm]
 have:has #[] j=false:=rfl
 rw [this]
 cases t
 cases dm
 rfl
theorem full_ins {xs:Array Nat} {p j:Nat} (hp:p<=xs.size) {e:Nat}:Full (insertAt xs p j) e↔Full xs e\/e=j:=by
 constructor
 ·rintro ⟨k,hk,q⟩
  rw [ins_size xs p j hp] at hk
  rw [ins_getD xs p j hp] at q
  by_cases c:k < p
  ·rw [if_pos c] at q; exact .inl ⟨k,by lia,q⟩
  ·rw [if_neg c] at q
   by_cases d:k=p
   ·rw [if_pos d] at q; exact .inr q.symm
   ·rw [if_neg d] at q; exact .inl ⟨k - 1,by lia,q⟩
 ·rintro (⟨k,hk,q⟩ | q)
  ·by_cases c:k < p
   ·exact ⟨k,by rw [ins_size xs p j hp]; lia,by rw [ins_getD xs p j hp,if_pos c]; exact q⟩
   ·exact ⟨k+1,by rw [ins_size xs p j hp]; lia,by rw [ins_getD xs p j hp,if_neg (by lia),if_neg (by lia)]; exact q⟩
  ·exact ⟨p,by rw [ins_size xs p j hp]; lia,by rw [ins_getD xs p j hp,if_neg (by lia),if_pos rfl]; exact q.symm⟩
theorem Ok0.add {t:SetTable} {es:En} (O:Ok0 t es) {h:Int} {x:Value} {N:Nat} (h1:¬ Full t.place (stps t.mask N (probeStart t h)).j) (h2:∀ n,n < N->Full t.place (stps t.mask n (probeStart t h)).j)
  (hj:(stps t.mask N (probeStart t h)).j<=t.mask) (room:t.place.size+1<=t.mask) {t':SetTable} (e1:t'.mask=t.mask) (e2:t'.dummies=t.dummies)
  (e3:t'.place=insertAt t.place (below t.place (stps t.mask N (probeStart t h)).j) (stps t.mask N (probeStart t h)).j) :
  Ok0 t' (insertAt es (below t.place (stps t.mask N (probeStart t h)).j) (h,x)):=by
 generalize ej:(stps t.mask N (probeStart t h)).j=j at *
 obtain ⟨b1,b2,b3⟩:=below_spec O.up j
 generalize below t.place j=p at *
 have bes:p<=es.size:=by rw [← O.sz]; exact b1
 have sz':t'.place.size=t.place.size+1:=by rw [e3,ins_size _ _ _ b1]
 have hst:∀ h,probeStart t' h=probeStart t h:=fun h=>by unfold probeStart; rw [e1]
 have fl:∀ e,Full t.place e->Full t'.place e:=fun e z=>by rw [e3]; exact (full_ins b1).mpr (.inl z)
 refine ⟨by rw [e1]; exact O.ms,e2.trans O.dm,by rw [sz',ins_size _ _ _ bes,O.sz],?_,?_,by rw [sz',e1]; exact room,?_⟩
 ·intro a b ab hb
  rw [sz'] at hb
  rw [e3,ins_getD _ _ _ b1,ins_getD _ _ _ b1]
  by_cases c1:a < p
  ·rw [if_pos c1]
   by_cases c2:b < p
   ·rw [if_pos c2]; exact O.up a b ab (by lia)
   ·rw [if_neg c2]
    by_cases c3:b=p
    ·rw [if_pos c3]; exact b2 a c1
    ·rw [if_neg c3]
     by_cases c4:a=b - 1
     ·lia
     ·exact O.up a (b - 1) (by lia) (by lia)
  ·rw [if_neg c1,if_neg (by lia:¬ b < p),if_neg (by lia:¬ b=p)]
   by_cases c3:a=p
   ·rw [if_pos c3]
    have:=b3 (b - 1) (by lia) (by lia)
    by_cases c5:t.place.getD (b - 1) 0=j
    ·exact absurd ⟨b - 1,by lia,c5⟩ h1
    ·lia
   ·rw [if_neg c3]; exact O.up (a - 1) (b - 1) (by lia) (by lia)
 ·intro k hk
  rw [sz'] at hk
  rw [e3,ins_getD _ _ _ b1,e1]
  by_cases c1:k < p
  ·rw [if_pos c1]; exact O.le k (by lia)
  ·rw [if_neg c1]
   by_cases c2:k=p
   ·rw [if_pos c2]; exact hj
   ·rw [if_neg c2]; exact O.le (k - 1) (by lia)
 ·intro k hk
  rw [sz'] at hk
  have key:∀ k',k' < t.place.size->hk=hk->(insertAt es p (h,x))[k]?=es[k']?->t'.place.getD k 0=t.place.getD k' 0 ->
    ∃ n,(stps t'.mask n (probeStart t' (S.hk (insertAt es p (h,x)) k))).j=t'.place.getD k 0/\∀ n',n' < n->Full t'.place (stps t'.mask n' (probeStart t' (S.hk (insertAt es p (h,x)) k))).j:=by
   intro k' hk' _ ee ep
   obtain ⟨n,q1,q2⟩:=O.way k' hk'
   have eh:S.hk (insertAt es p (h,x)) k=S.hk es k':=by unfold S.hk; rw [ee]
   rw [eh,hst,e1,ep]
   exact ⟨n,q1,fun n' z=>fl _ (q2 n' z)⟩
  by_cases c1:k < p
  ·refine key k (by lia) rfl ?_ ?_
   ·rw [ins_get _ _ _ bes,if_pos c1]
   ·rw [e3,ins_getD _ _ _ b1,if_pos c1]
  ·by_cases c2:k=p
   ·have eh:S.hk (insertAt es p (h,x)) k=h:=by unfold S.hk; rw [ins_get _ _ _ bes,if_neg c1,if_pos c2]; rfl
    rw [eh,hst,e1,e3,ins_getD _ _ _ b1,if_neg c1,if_pos c2]
    refine ⟨N,ej,fun n' z=>?_⟩
    exact (full_ins b1).mpr (.inl (h2 n' z))
   ·refine key (k - 1) (by lia) rfl ?_ ?_
    ·rw [ins_get _ _ _ bes,if_neg c1,if_neg c2]
    ·rw [e3,ins_getD _ _ _ b1,if_neg c1,if_neg c2]
end K2.S
end
section
namespace K2.S
open PySem PySem.SetTable
theorem run_j (m:Nat) (x:Nat×Nat):∀ n,n<=runEnd m x.1 - x.1->stps m n (blk m x)={ blk m x with j:=x.1+n,more:=runEnd m x.1 - x.1 - n }
 | 0,_=>rfl
 | n+1,h=>by
  rw [stps_succ,run_j m x n (by lia)]
  unfold stp
  dsimp only
  rw [if_pos (by lia)]
  rfl
theorem run_le {m i:Nat} (h:i < m+1) {n:Nat} (hn:n<=runEnd m i - i):i+n < m+1:=by
 unfold runEnd at hn
 split at hn <;> lia
noncomputable def ow (o:Array (Option Nat)) (j:Nat):Option Nat:=o.getD j none
theorem ow_some {o:Array (Option Nat)} {j:Nat} (h:j < o.size):o.getD j (some 0)=ow o j:=by
 unfold ow; rw [Array.getD_eq_getD_getElem?,Array.getD_eq_getD_getElem?,Array.getElem?_eq_getElem h]; rfl
theorem ow_lt {o:Array (Option Nat)} {j k:Nat} (h:ow o j=some k):j < o.size:=by
 apply Classical.byContradiction
 intro z
 unfold ow at h
 rw [Array.getD_eq_getD_getElem?,Array.getElem?_eq_none (by lia)] at h
 cases h
theorem free_spec {m:Nat} {o:Array (Option Nat)} (sz:o.size=m+1):∀ (fuel:Nat) (x:Nat×Nat),x.1 < m+1->(∃ k,k < fuel/\ow o (lp m k x).1=none) ->
  ∃ n j,layClean.free m o fuel x.1 x.2=some j/\(stps m n (blk m x)).j=j/\j < m+1/\ow o j=none/\∀ n',n' < n->(stps m n' (blk m x)).j < m+1/\ow o (stps m n' (blk m x)).j≠none
 | 0,_,_,⟨_,h,_⟩=>absurd h (Nat.not_lt_zero _)
 | fuel+1,x,hx,⟨k,hk,q⟩=>by
  have pe:∀ n,n<=runEnd m x.1 - x.1->(o.getD (x.1+n) (some 0))=ow o (x.1+n):=fun n hn=>ow_some (by rw [sz]; exact run_le hx hn)
  have pj:∀ n,n<=runEnd m x.1 - x.1->(stps m n (blk m x)).j=x.1+n:=fun n hn=>by rw [run_j m x n hn]
  have hre:x.1<=runEnd m x.1:=by unfold runEnd; split <;> lia
  cases hf:(List.range (runEnd m x.1+1 - x.1)).find? fun k=>(o.getD (x.1+k) (some 0)).isNone with
  | some n =>
   obtain ⟨h1,h2,h3⟩:=List.find?_range_eq_some.mp hf
   have hn:n<=runEnd m x.1 - x.1:=by have:=List.mem_range.mp h2; lia
   rw [pe n hn] at h1
   refine ⟨n,x.1+n,?_,pj n hn,run_le hx hn,Option.isNone_iff_eq_none.mp h1,fun n' z=>?_⟩
   ·unfold layClean.free; rw [hf]
   ·have hn':n'<=runEnd m x.1 - x.1:=by lia
    have:=h3 n' z
    rw [pe n' hn'] at this
    rw [pj n' hn']
    refine ⟨run_le hx hn',fun e=>?_⟩
    rw [e] at this; cases this
  | none =>
   have h3:=List.find?_range_eq_none.mp hf
   have all:∀ n',n'<=runEnd m x.1 - x.1->ow o (x.1+n')≠none:=fun n' hn' e=>by
    have:=h3 n' (by lia)
    rw [pe n' hn',e] at this; cases this
   obtain ⟨k,rfl⟩:∃ k',k=k'+1:=by
    cases k with
    | zero=>exact absurd q (all 0 (Nat.zero_le _))
    | succ k=>exact ⟨k,rfl⟩
   obtain ⟨n,j,g,gj,hj,gn,ga⟩:=free_spec sz fuel (leap m x.1 x.2) (Nat.mod_lt _ (Nat.succ_pos m)) ⟨k,by lia,q⟩
   refine ⟨(runEnd m x.1 - x.1+1)+n,j,?_,?_,hj,gn,fun n' z=>?_⟩
   ·unfold layClean.free; rw [hf]; exact g
   ·rw [stps_add,run_end m (runEnd m x.1 - x.1) (blk m x) rfl rfl]; exact gj
   ·by_cases c:n'<=runEnd m x.1 - x.1
    ·rw [pj n' c]; exact ⟨run_le hx c,all n' c⟩
    ·have e:n'=(runEnd m x.1 - x.1+1)+(n' - (runEnd m x.1 - x.1+1)):=by lia
     rw [e,stps_add,run_end m (runEnd m x.1 - x.1) (blk m x) rfl rfl]
     exact ga _ (by lia)
theorem pig:∀ (L:Nat) (l:List Nat),l.Nodup->(∀ x∈l,x < L)->l.length<=L
 | 0,l,_,h=>by
  cases l with
  | nil=>exact Nat.le_refl _
  | cons a r=>exact absurd (h a List.mem_cons_self) (Nat.not_lt_zero _)
 | L+1,l,hn,h=>by
  have:=pig L (l.erase L) (hn.erase L) fun x hx=>by
   have:=(hn.mem_erase_iff).mp hx
   have:=h x this.2
   lia
  rw [List.length_erase] at this
  split at this <;> lia
noncomputable def hst (m:Nat) (h:Int):Probe:=blk m (bits h % (m+1),bits h)
structure Lay (m:Nat) (hs:List Int) (o:Array (Option Nat)):Prop where
 sz:o.size=m+1
 lt:∀ j k,ow o j=some k->k < hs.length
 one:∀ k,k < hs.length->∃ j,ow o j=some k
 uni:∀ j j' k,ow o j=some k->ow o j'=some k->j=j'
 way:∀ j k,ow o j=some k->∃ n,(stps m n (hst m (hs.getD k 0))).j=j/\∀ n',n' < n->ow o (stps m n' (hst m (hs.getD k 0))).j≠none
theorem Lay.nil (m:Nat):Lay m [] (Array.replicate (m+1) none):=by
 have no:∀ j,ow (Array.replicate (m+1) none) j=none:=fun j=>by
  unfold ow
  rw [Array.getD_eq_getD_getElem?,Array.getElem?_replicate]
  split <;> rfl
 refine ⟨Array.size_replicate,fun j k h=>?_,fun k h=>absurd h (Nat.not_lt_zero _),fun j j' k h=>?_,fun j k h=>?_⟩ <;> (rw [no] at h; cases h)
theorem Lay.free {m:Nat} {hs:List Int} {o:Array (Option Nat)} (L:Lay m hs o) (few:hs.length<=m):∃ j,j < m+1/\ow o j=none:=by
 apply Classical.byContradiction
 intro no
 have all:∀ j,j < m+1->ow o j≠none:=fun j hj e=>no ⟨j,hj,e⟩
 have nd:((List.range (m+1)).map fun j=>(ow o j).getD 0).Nodup:=by
  rw [List.nodup_iff_pairwise_ne,List.pairwise_map]
  refine List.Pairwise.imp_of_mem (fun {a b} ha hb hne e=>?_) (List.nodup_iff_pairwise_ne.mp (List.nodup_range (n:=m+1)))
  obtain ⟨x,hx⟩:=Option.ne_none_iff_exists'.mp (all a (List.mem_range.mp ha))
  obtain ⟨y,hy⟩:=Option.ne_none_iff_exists'.mp (all b (List.mem_range.mp hb))
  rw [hx,hy] at e
  have e:x=y:=e
  subst e
  exact hne (L.uni a b x hx hy)
 have:=pig hs.length _ nd fun x hx=>by
  obtain ⟨j,hj,rfl⟩:=List.mem_map.mp hx
  obtain ⟨k,e⟩:=Option.ne_none_iff_exists'.mp (all j (List.mem_range.mp hj))
  rw [e]; exact L.lt j k e
 rw [List.length_map,List.length_range] at this
 lia
theorem ow_set {o:Array (Option Nat)} {j k:Nat} (hj:j < o.size) (i:Nat):ow (o.setIfInBounds j (some k)) i=if j=i then some k else ow o i:=by
 unfold ow
 rw [Array.getD_eq_getD_getElem?,Array.getElem?_setIfInBounds]
 by_cases c:j=i
 ·rw [if_pos c,if_pos c,if_pos hj]; rfl
 ·rw [if_neg c,if_neg c,Array.getD_eq_getD_getElem?]
theorem Lay.step {m:Nat} (hm:Mk m) {hs:List Int} {o:Array (Option Nat)} (L:Lay m hs o) (few:hs.length<=m) (h:Int) :
  ∃ j,layClean.free m o (turns m) (bits h % (m+1)) (bits h)=some j/\Lay m (hs++[h]) (o.setIfInBounds j (some hs.length)):=by
 obtain ⟨e,he,hf⟩:=L.free few
 have hb:bits h < 2 ^ 64:=by
  unfold bits
  have h1:0<=h % (2 ^ 64:Int):=Int.emod_nonneg _ (by decide)
  have h2:h % (2 ^ 64:Int) < 2 ^ 64:=Int.emod_lt_of_pos _ (by decide)
  lia
 have hx:bits h % (m+1) < m+1:=Nat.mod_lt _ (Nat.succ_pos m)
 obtain ⟨k,hk,q⟩:=lp_cover hm (x:=(bits h % (m+1),bits h)) hx hb he
 obtain ⟨n,j,g,gj,hj,gn,ga⟩:=free_spec L.sz (turns m) (bits h % (m+1),bits h) hx ⟨k,by unfold turns; lia,by rw [q]; exact hf⟩
 have hjs:j < o.size:=by rw [L.sz]; exact hj
 have old:∀ i k,ow o i=some k->ow (o.setIfInBounds j (some hs.length)) i=some k:=fun i k z=>by
  rw [ow_set hjs,if_neg (fun z2:j=i=>by rw [← z2,gn] at z; cases z)]; exact z
 have inv:∀ i k,ow (o.setIfInBounds j (some hs.length)) i=some k->(i=j/\k=hs.length)\/(i≠j/\ow o i=some k/\k < hs.length):=fun i k z=>by
  rw [ow_set hjs] at z
  by_cases c:j=i
  ·rw [if_pos c] at z; cases z; exact .inl ⟨c.symm,rfl⟩
  ·rw [if_neg c] at z; exact .inr ⟨fun z2=>c z2.symm,z,L.lt _ _ z⟩
 have nn:∀ i,ow o i≠none->ow (o.setIfInBounds j (some hs.length)) i≠none:=fun i z=>by
  obtain ⟨k,e⟩:=Option.ne_none_iff_exists'.mp z
  rw [old i k e]; exact fun z=>by cases z
 refine ⟨j,g,⟨by rw [Array.size_setIfInBounds]; exact L.sz,fun i k z=>?_,fun k hk=>?_,fun i i' k z z'=>?_,fun i k z=>?_⟩⟩
 ·rw [List.length_append,List.length_singleton]
  rcases inv i k z with ⟨_,rfl⟩ | ⟨_,_,hk⟩ <;> lia
 ·rw [List.length_append,List.length_singleton] at hk
  by_cases c:k=hs.length
  ·exact ⟨j,by rw [ow_set hjs,if_pos rfl,c]⟩
  ·obtain ⟨i,z⟩:=L.one k (by lia)
   exact ⟨i,old i k z⟩
 ·rcases inv i k z with ⟨a,b⟩ | ⟨a,b,c⟩ <;> rcases inv i' k z' with ⟨a',b'⟩ | ⟨a',b',c'⟩
  ·rw [a,a']
  ·lia
  ·lia
  ·exact L.uni i i' k b b'
 ·rcases inv i k z with ⟨a,b⟩ | ⟨a,b,c⟩
  ·have e:(hs++[h]).getD k 0=h:=by rw [b,List.getD_eq_getElem?_getD,List.getElem?_append_right (Nat.le_refl _),Nat.sub_self]; rfl
   rw [e,a]
   exact ⟨n,gj,fun n' z=>nn _ (ga n' z).2⟩
  ·have e:(hs++[h]).getD k 0=hs.getD k 0:=by rw [List.getD_eq_getElem?_getD,List.getElem?_append_left c,← List.getD_eq_getElem?_getD]
   rw [e]
   obtain ⟨n,q1,q2⟩:=L.way i k b
   exact ⟨n,q1,fun n' z=>nn _ (q2 n' z)⟩
theorem lay_all {m:Nat} (hm:Mk m):∀ (hs:List Int) (hs0:List Int) (o:Array (Option Nat)),Lay m hs0 o->hs0.length+hs.length<=m+1 ->
  ∃ o',hs.foldl (fun acc h=>do
   let (owner,k) ← acc
   let j ← layClean.free m owner (turns m) (bits h % (m+1)) (bits h)
   pure (owner.setIfInBounds j (some k),k+1)) (some (o,hs0.length))=some (o',(hs0++hs).length)/\Lay m (hs0++hs) o'
 | [],hs0,o,L,_=>⟨o,by rw [List.append_nil]; rfl,by rw [List.append_nil]; exact L⟩
 | h :: hs,hs0,o,L,few=>by
  obtain ⟨j,g,L'⟩:=L.step hm (by rw [List.length_cons] at few; lia) h
  obtain ⟨o',e,L''⟩:=lay_all hm hs (hs0++[h]) _ L' (by rw [List.length_append,List.length_singleton]; rw [List.length_cons] at few; lia)
  rw [List.append_assoc,List.singleton_append] at e L''
  refine ⟨o',?_,L''⟩
  rw [List.foldl_cons]
  rw [List.length_append,List.length_singleton] at e
  rw [← e]
  congr 1
  show (do let j ← layClean.free m o (turns m) (bits h % (m+1)) (bits h); pure (o.setIfInBounds j (some hs0.length),hs0.length+1))=_
  rw [g]; rfl
theorem layClean_ok {m:Nat} (hm:Mk m) (hs:Array Int) (few:hs.size<=m+1):∃ o,layClean m hs=some o/\Lay m hs.toList o:=by
 obtain ⟨o,e,L⟩:=lay_all hm hs.toList [] _ (Lay.nil m) (by rw [List.length_nil,Array.length_toList]; lia)
 refine ⟨o,?_,L⟩
 unfold layClean
 rw [← Array.foldl_toList]
 rw [List.length_nil] at e
 rw [e]
 rfl
end K2.S
end
section
namespace K2.S
open PySem PySem.SetTable
theorem fm_map (es:En):∀ (l:List Nat),(∀ k∈l,k < es.size)->l.filterMap (es[·]?)=l.map fun k=>es.getD k (0,.none)
 | [],_=>rfl
 | k :: l,h=>by
  have hk:k < es.size:=h k List.mem_cons_self
  have e:es[k]?=some (es.getD k (0,.none)):=by rw [Array.getD_eq_getD_getElem?,Array.getElem?_eq_getElem hk]; rfl
  rw [List.filterMap_cons_some e,List.map_cons,fm_map es l fun x hx=>h x (List.mem_cons_of_mem _ hx)]
theorem laid_ok {m:Nat} (hm:Mk m) (es:En) (few:es.size<=m) (finger moves:Nat) (led plain:Bool) :
  ∃ t' order,laid m finger moves led plain (es.map (·.1))=some (t',order)/\t'.mask=m/\t'.led=led/\t'.plain=plain/\(order.filterMap (es[·]?)).size=es.size /\
   List.Perm (order.filterMap (es[·]?)).toList es.toList/\Ok0 t' (order.filterMap (es[·]?)):=by
 obtain ⟨o,e,L⟩:=layClean_ok hm (es.map (·.1)) (by rw [Array.size_map]; lia)
 have hl:(es.map (·.1)).toList.length=es.size:=by rw [Array.length_toList,Array.size_map]
 generalize hlv:((List.range (m+1)).filterMap fun j=>(o.getD j none).map (j,·))=lv
 have mem:∀ p:Nat×Nat,p∈lv↔ow o p.1=some p.2:=by
  rintro ⟨j,k⟩
  rw [← hlv,List.mem_filterMap]
  constructor
  ·rintro ⟨a,_,q⟩
   obtain ⟨b,hb,q⟩:=Option.map_eq_some_iff.mp q
   cases q; exact hb
  ·intro q
   exact ⟨j,List.mem_range.mpr (by have:=ow_lt q; rw [L.sz] at this; exact this),Option.map_eq_some_iff.mpr ⟨k,q,rfl⟩⟩
 have asc:lv.Pairwise fun a b=>a.1 < b.1:=by
  rw [← hlv]
  refine List.Pairwise.filterMap _ (fun a a' r b hb b' hb'=>?_) (List.pairwise_lt_range (n:=m+1))
  obtain ⟨_,_,rfl⟩:=Option.map_eq_some_iff.mp hb
  obtain ⟨_,_,rfl⟩:=Option.map_eq_some_iff.mp hb'
  exact r
 have nd:(lv.map (·.2)).Nodup:=by
  rw [List.nodup_iff_pairwise_ne,List.pairwise_map]
  refine List.Pairwise.imp_of_mem (fun {a b} ha hb r e=>?_) asc
  have h1:=(mem a).mp ha
  have h2:=(mem b).mp hb
  rw [e] at h1
  have:=L.uni _ _ _ h1 h2
  lia
 have pm:(lv.map (·.2)).Perm (List.range es.size):=by
  refine (List.perm_ext_iff_of_nodup nd List.nodup_range).mpr fun k=>?_
  rw [List.mem_range,List.mem_map]
  constructor
  ·rintro ⟨p,hp,rfl⟩
   have:=L.lt _ _ ((mem p).mp hp)
   rw [hl] at this; exact this
  ·intro hk
   obtain ⟨j,q⟩:=L.one k (by rw [hl]; exact hk)
   exact ⟨(j,k),(mem _).mpr q,rfl⟩
 have ll:lv.length=es.size:=by have:=pm.length_eq; rw [List.length_map,List.length_range] at this; exact this
 have inb:∀ k∈lv.map (·.2),k < es.size:=fun k hk=>List.mem_range.mp (pm.mem_iff.mp hk)
 have es':((lv.map (·.2)).toArray.filterMap (es[·]?)).toList=lv.map fun p=>es.getD p.2 (0,.none):=by
  rw [Array.toList_filterMap,fm_map es _ inb,List.map_map]; rfl
 have pes:List.Perm ((lv.map (·.2)).toArray.filterMap (es[·]?)).toList es.toList:=by
  rw [Array.toList_filterMap]
  refine (pm.filterMap _).trans ?_
  rw [filterMap_getElem?_range]
 have ges:∀ i,((lv.map (·.2)).toArray.filterMap (es[·]?))[i]?=lv[i]?.map fun p:Nat×Nat=>es.getD p.2 (0,.none):=fun i=>by
  rw [← Array.getElem?_toList,es',List.getElem?_map]
 have szs:((lv.map (·.2)).toArray.filterMap (es[·]?)).size=es.size:=by
  rw [← Array.length_toList,pes.length_eq,Array.length_toList]
 have gpl:∀ i (hi:i < lv.length),(lv.map (·.1)).toArray.getD i 0=lv[i].1:=fun i hi=>by
  rw [Array.getD_eq_getD_getElem?,List.getElem?_toArray,List.getElem?_map,List.getElem?_eq_getElem hi]; rfl
 have spl:(lv.map (·.1)).toArray.size=es.size:=by rw [List.size_toArray,List.length_map,ll]
 have ful:∀ j,ow o j≠none->Full (lv.map (·.1)).toArray j:=fun j z=>by
  obtain ⟨k,q⟩:=Option.ne_none_iff_exists'.mp z
  obtain ⟨i,hi,ei⟩:=List.getElem_of_mem ((mem (j,k)).mpr q)
  exact ⟨i,by rw [spl,← ll]; exact hi,by rw [gpl i hi,ei]⟩
 refine ⟨{ mask:=m,place:=(lv.map (·.1)).toArray,dummies:=#[],finger,led,moves,plain },(lv.map (·.2)).toArray,?_,rfl,rfl,rfl,szs,pes,?_⟩
 ·unfold laid
  rw [e]
  show some _=some _
  rw [hlv]
 ·refine ⟨hm,rfl,by show (lv.map (·.1)).toArray.size=_; rw [spl,szs],?_,?_,by show (lv.map (·.1)).toArray.size<=m; rw [spl]; exact few,?_⟩
  ·intro a b ab hb
   have hb:b < lv.length:=by rw [ll,← spl]; exact hb
   show (lv.map (·.1)).toArray.getD a 0 < (lv.map (·.1)).toArray.getD b 0
   rw [gpl a (by lia),gpl b hb]
   exact List.pairwise_iff_getElem.mp asc a b (by lia) hb ab
  ·intro k hk
   have hk:k < lv.length:=by rw [ll,← spl]; exact hk
   show (lv.map (·.1)).toArray.getD k 0<=m
   rw [gpl k hk]
   have:=ow_lt ((mem _).mp (List.getElem_mem hk))
   rw [L.sz] at this; lia
  ·intro k hk
   have hk:k < lv.length:=by rw [ll,← spl]; exact hk
   have hi:=(mem _).mp (List.getElem_mem hk)
   have hlt:=inb lv[k].2 (List.mem_map_of_mem (List.getElem_mem hk))
   have eh:S.hk ((lv.map (·.2)).toArray.filterMap (es[·]?)) k=(es.map (·.1)).toList.getD lv[k].2 0:=by
    unfold S.hk
    rw [ges,List.getElem?_eq_getElem hk,List.getD_eq_getElem?_getD,Array.getElem?_toList,Array.getElem?_map,Array.getElem?_eq_getElem hlt]
    show (es.getD lv[k].2 (0,.none)).1=(es[lv[k].2]).1
    rw [Array.getD_eq_getD_getElem?,Array.getElem?_eq_getElem hlt]; rfl
   rw [eh]
   obtain ⟨n,q1,q2⟩:=L.way _ _ hi
   refine ⟨n,?_,fun n' z=>ful _ (q2 n' z)⟩
   show _=(lv.map (·.1)).toArray.getD k 0
   rw [gpl k hk]; exact q1
end K2.S
end
section
namespace K2
open PySem PySem.Spec PyProof.Rows L2
noncomputable def SqF (K:PySem.W.Frag) (H:Hp) (a:Addr) (xs:List V):Prop :=
 (∃ o,H a=some (.frz o (.lst xs))) \/
  ∃ (o:Obj) (its:Array Value) (n:Nat),K.lookup a=some o/\o.cls=.type "list"/\o.dict=none/\o.data=.seq its n/\its.size<=sizeLine/\Vals xs its.toList
theorem SqF.sq {K:PySem.W.Frag} {H:Hp} {a:Addr} {xs:List V} (h:SqF K H a xs):SqL K H a xs:=by
 rcases h with ⟨o,h⟩ | h
 ·exact .inl (.inr ⟨o,h⟩)
 ·exact .inr h
noncomputable def keyD:Key->D
 | .inl i=>.int i
 | .inr x=>.str x
noncomputable def ExcAt (K:PySem.W.Frag) (H:Hp) (a:Addr) (c:Str):Prop:=∃ (o:Obj) (C:Addr),H a=some (.frz o (.ext fun h=>h.get? a=some o))/\o.cls=.ref C/\PySem.W.nsIn K mainGlobals c=some (some (.ref C))
mutual
inductive RepD (K:PySem.W.Frag) (H:Hp):V->D->Prop
 | non:RepD K H .non .non
 | bl (b:Bool):RepD K H (.bl b) (.bl b)
 | int (i:Int):RepD K H (.int i) (.int i)
 | str (x:Str):RepD K H (.str x) (.str x)
 | tup {a:Addr} {vs:List V} {ds:List D}:H a=some (.tup vs)->RepDs K H vs ds->RepD K H (.ref a) (.tup ds)
 | rol {a:Addr} {vs:List V} {ds:List D}:SqF K H a vs->RepDs K H vs ds->RepD K H (.ref a) (.rol ds)
 | rodK {a:Addr} {o:Obj} {kv:List (Key×V)} {kvs:List (D×D)}:H a=some (.frz o (.dK kv))->DKs K H kv kvs->RepD K H (.ref a) (.rod kvs)
 | rodT {a:Addr} {o:Obj} {kv:List (List Key×V)} {kvs:List (D×D)}:H a=some (.frz o (.dT kv))->DTs K H kv kvs->RepD K H (.ref a) (.rod kvs)
 | ref (a:Addr):RepD K H (.ref a) (.ref a)
 | exc {a:Addr} {c:Str}:ExcAt K H a c->RepD K H (.ref a) (.exc c)
inductive RepDs (K:PySem.W.Frag) (H:Hp):List V->List D->Prop
 | nil:RepDs K H [] []
 | cons {v:V} {d:D} {vs:List V} {ds:List D}:RepD K H v d->RepDs K H vs ds->RepDs K H (v :: vs) (d :: ds)
inductive DKs (K:PySem.W.Frag) (H:Hp):List (Key×V)->List (D×D)->Prop
 | nil:DKs K H [] []
 | cons {k:Key} {v:V} {d:D} {r:List (Key×V)} {t:List (D×D)}:RepD K H v d->DKs K H r t->DKs K H ((k,v) :: r) ((keyD k,d) :: t)
inductive DTs (K:PySem.W.Frag) (H:Hp):List (List Key×V)->List (D×D)->Prop
 | nil:DTs K H [] []
 | cons {k:List Key} {v:V} {d:D} {r:List (List Key×V)} {t:List (D×D)}:RepD K H v d->DTs K H r t->DTs K H ((k,v) :: r) ((.tup (k.map keyD),d) :: t)
end
structure Kp (H H':Hp):Prop where
 tup:∀ a xs,H a=some (.tup xs)->H' a=some (.tup xs)
 frz:∀ a o u,H a=some (.frz o u)->H' a=some (.frz o u)
theorem Kp.refl (H:Hp):Kp H H:=⟨fun _ _ h=>h,fun _ _ _ h=>h⟩
theorem Kp.trans {H H1 H2:Hp} (a:Kp H H1) (b:Kp H1 H2):Kp H H2:=⟨fun c xs h=>b.tup c xs (a.tup c xs h),fun c o u h=>b.frz c o u (a.frz c o u h)⟩
theorem Kp.sqT {K:PySem.W.Frag} {H H':Hp} {a:Addr} {xs:List V} (k:Kp H H') (h:SqT K H a xs):SqT K H' a xs:=by
 rcases h with (h | ⟨o,h⟩) | h
 ·exact .inl (.inl (k.tup _ _ h))
 ·exact .inl (.inr ⟨o,k.frz _ _ _ h⟩)
 ·exact .inr h
theorem Kp.sqF {K:PySem.W.Frag} {H H':Hp} {a:Addr} {xs:List V} (k:Kp H H') (h:SqF K H a xs):SqF K H' a xs:=by
 rcases h with ⟨o,h⟩ | h
 ·exact .inl ⟨o,k.frz _ _ _ h⟩
 ·exact .inr h
theorem ExcAt.mono {K:PySem.W.Frag} {H H':Hp} (k:Kp H H') {a:Addr} {c:Str} (h:ExcAt K H a c):ExcAt K H' a c :=
 let ⟨o,C,h1,h2,h3⟩:=h
 ⟨o,C,k.frz _ _ _ h1,h2,h3⟩
theorem RepDs.indL {K:PySem.W.Frag} {H:Hp} {P:List V->List D->Prop} (h0:P [] []) (h1:∀ {v:V} {d:D} {vs:List V} {ds:List D},RepD K H v d->RepDs K H vs ds->P vs ds->P (v :: vs) (d :: ds)) {vs:List V} {ds:List D} (h:RepDs K H vs ds):P vs ds :=
 RepDs.rec (motive_1:=fun _ _ _=>True) (motive_2:=fun vs ds _=>P vs ds) (motive_3:=fun _ _ _=>True) (motive_4:=fun _ _ _=>True) trivial (fun _=>trivial) (fun _=>trivial) (fun _=>trivial) (fun _ _ _=>trivial) (fun _ _ _=>trivial) (fun _ _ _=>trivial) (fun _ _ _=>trivial) (fun _=>trivial) (fun _=>trivial) h0 (fun a b _ ih=>h1 a b ih) trivial (fun _ _ _ _=>trivial) trivial (fun _ _ _ _=>trivial) h
theorem RepD.mono {K:PySem.W.Frag} {H H':Hp} (k:Kp H H'):∀ {v:V} {d:D},RepD K H v d->RepD K H' v d:=fun h =>
 RepD.rec (motive_1:=fun v d _=>RepD K H' v d) (motive_2:=fun v d _=>RepDs K H' v d) (motive_3:=fun v d _=>DKs K H' v d) (motive_4:=fun v d _=>DTs K H' v d)
  .non .bl .int .str (fun h _ r=>.tup (k.tup _ _ h) r) (fun h _ r=>.rol (k.sqF h) r) (fun h _ r=>.rodK (k.frz _ _ _ h) r) (fun h _ r=>.rodT (k.frz _ _ _ h) r) .ref (fun h=>.exc (h.mono k)) .nil (fun _ _ a b=>.cons a b) .nil (fun _ _ a b=>.cons a b) .nil (fun _ _ a b=>.cons a b) h
theorem RepDs.mono {K:PySem.W.Frag} {H H':Hp} (k:Kp H H') {v:List V} {d:List D} (h:RepDs K H v d):RepDs K H' v d :=
 RepDs.indL (P:=fun v d=>RepDs K H' v d) .nil (fun r _ ih=>.cons (r.mono k) ih) h
theorem DKs.mono {K:PySem.W.Frag} {H H':Hp} (k:Kp H H') {v:List (Key×V)} {d:List (D×D)} (h:DKs K H v d):DKs K H' v d :=
 DKs.rec (motive_1:=fun v d _=>RepD K H' v d) (motive_2:=fun v d _=>RepDs K H' v d) (motive_3:=fun v d _=>DKs K H' v d) (motive_4:=fun v d _=>DTs K H' v d)
  .non .bl .int .str (fun h _ r=>.tup (k.tup _ _ h) r) (fun h _ r=>.rol (k.sqF h) r) (fun h _ r=>.rodK (k.frz _ _ _ h) r) (fun h _ r=>.rodT (k.frz _ _ _ h) r) .ref (fun h=>.exc (h.mono k)) .nil (fun _ _ a b=>.cons a b) .nil (fun _ _ a b=>.cons a b) .nil (fun _ _ a b=>.cons a b) h
theorem DTs.mono {K:PySem.W.Frag} {H H':Hp} (k:Kp H H') {v:List (List Key×V)} {d:List (D×D)} (h:DTs K H v d):DTs K H' v d :=
 DTs.rec (motive_1:=fun v d _=>RepD K H' v d) (motive_2:=fun v d _=>RepDs K H' v d) (motive_3:=fun v d _=>DKs K H' v d) (motive_4:=fun v d _=>DTs K H' v d)
  .non .bl .int .str (fun h _ r=>.tup (k.tup _ _ h) r) (fun h _ r=>.rol (k.sqF h) r) (fun h _ r=>.rodK (k.frz _ _ _ h) r) (fun h _ r=>.rodT (k.frz _ _ _ h) r) .ref (fun h=>.exc (h.mono k)) .nil (fun _ _ a b=>.cons a b) .nil (fun _ _ a b=>.cons a b) .nil (fun _ _ a b=>.cons a b) h
theorem RepDs.length {K:PySem.W.Frag} {H:Hp}:∀ {vs:List V} {ds:List D},RepDs K H vs ds->vs.length=ds.length:=fun h =>
 RepDs.indL (P:=fun vs ds=>vs.length=ds.length) rfl (fun _ _ ih=>congrArg (· + 1) ih) h
theorem RepDs.get {K:PySem.W.Frag} {H:Hp}:∀ {vs:List V} {ds:List D} {i:Nat} {d:D},RepDs K H vs ds->ds[i]?=some d->∃ v,vs[i]?=some v/\RepD K H v d:=by
 intro vs ds i d h
 refine RepDs.indL (P:=fun vs ds=>∀ (i:Nat) (d:D),ds[i]?=some d->∃ v,vs[i]?=some v/\RepD K H v d) (fun i d e=>by cases e) (fun r _ ih i d e=>?_) h i d
 cases i with
 | zero=>cases e; exact ⟨_,rfl,r⟩
 | succ i=>exact ih i d e
theorem RepDs.append {K:PySem.W.Frag} {H:Hp}:∀ {vs ws:List V} {ds es:List D},RepDs K H vs ds->RepDs K H ws es->RepDs K H (vs++ws) (ds++es):=fun {_ ws _ es} h s =>
 RepDs.indL (P:=fun vs ds=>RepDs K H (vs++ws) (ds++es)) s (fun r _ ih=>.cons r ih) h
theorem RepDs.take {K:PySem.W.Frag} {H:Hp}:∀ {vs:List V} {ds:List D} (n:Nat),RepDs K H vs ds->RepDs K H (vs.take n) (ds.take n):=fun {_ _} n h =>
 RepDs.indL (P:=fun vs ds=>∀ n,RepDs K H (vs.take n) (ds.take n)) (fun n=>by rw [List.take_nil,List.take_nil]; exact .nil) (fun r _ ih n=>by
  cases n with
  | zero=>exact .nil
  | succ n=>exact .cons r (ih n)) h n
theorem RepDs.drop {K:PySem.W.Frag} {H:Hp}:∀ {vs:List V} {ds:List D} (n:Nat),RepDs K H vs ds->RepDs K H (vs.drop n) (ds.drop n):=fun {_ _} n h =>
 RepDs.indL (P:=fun vs ds=>∀ n,RepDs K H (vs.drop n) (ds.drop n)) (fun n=>by rw [List.drop_nil,List.drop_nil]; exact .nil) (fun r t ih n=>by
  cases n with
  | zero=>exact .cons r t
  | succ n=>exact ih n) h n
theorem RepDs.set {K:PySem.W.Frag} {H:Hp} {v:V} {d:D} (r:RepD K H v d):∀ {vs:List V} {ds:List D} (i:Nat),RepDs K H vs ds->RepDs K H (vs.set i v) (ds.set i d):=fun {_ _} i h =>
 RepDs.indL (P:=fun vs ds=>∀ i,RepDs K H (vs.set i v) (ds.set i d)) (fun i=>by rw [List.set_nil,List.set_nil]; exact .nil) (fun q t ih i=>by
  cases i with
  | zero=>exact .cons r t
  | succ i=>exact .cons q (ih i)) h i
theorem RepDs.one {K:PySem.W.Frag} {H:Hp}:∀ {vs:List V} {d:D},RepDs K H vs [d]->∃ v,vs=[v]/\RepD K H v d:=by
 intro vs d h
 cases h with
 | cons r t=>cases t; exact ⟨_,rfl,r⟩
theorem RepDs.two {K:PySem.W.Frag} {H:Hp}:∀ {vs:List V} {d e:D},RepDs K H vs [d,e]->∃ v u,vs=[v,u]/\RepD K H v d/\RepD K H u e:=by
 intro vs d e h
 cases h with
 | cons r t =>
  obtain ⟨u,rfl,q⟩:=RepDs.one t
  exact ⟨_,_,rfl,r,q⟩
theorem RepDs.zero {K:PySem.W.Frag} {H:Hp}:∀ {vs:List V},RepDs K H vs []->vs=[]
 | _,.nil=>rfl
theorem RepDs.ints {K:PySem.W.Frag} {H:Hp}:∀ {vs:List V} {ns:List Int},RepDs K H vs (ns.map D.int)->vs=ns.map V.int:=by
 intro vs ns
 induction ns generalizing vs with
 | nil=>intro h; exact h.zero
 | cons n ns ih =>
  intro h
  cases h with
  | cons r t =>
   cases r
   rw [ih t]; rfl
theorem RepDs.of_ints {K:PySem.W.Frag} {H:Hp}:∀ (ns:List Int),RepDs K H (ns.map V.int) (ns.map D.int)
 | []=>.nil
 | n :: ns=>.cons (.int n) (RepDs.of_ints ns)
theorem DKs.ind {K:PySem.W.Frag} {H:Hp} {motive:∀ (kv:List (Key×V)) (kvs:List (D×D)),DKs K H kv kvs->Prop} (nil:motive [] [] .nil)
  (cons:∀ {k:Key} {v:V} {d:D} {r:List (Key×V)} {t:List (D×D)} (re:RepD K H v d) (rs:DKs K H r t),motive r t rs->motive ((k,v) :: r) ((keyD k,d) :: t) (.cons re rs)):∀ {kv:List (Key×V)} {kvs:List (D×D)} (h:DKs K H kv kvs),motive kv kvs h:=fun h =>
 DKs.rec (motive_1:=fun _ _ _=>True) (motive_2:=fun _ _ _=>True) (motive_3:=motive) (motive_4:=fun _ _ _=>True) trivial (fun _=>trivial) (fun _=>trivial) (fun _=>trivial) (fun _ _ _=>trivial) (fun _ _ _=>trivial) (fun _ _ _=>trivial) (fun _ _ _=>trivial) (fun _=>trivial) (fun _=>trivial) trivial (fun _ _ _ _=>trivial) nil (fun a b _ ih=>cons a b ih) trivial (fun _ _ _ _=>trivial) h
theorem DTs.ind {K:PySem.W.Frag} {H:Hp} {motive:∀ (kv:List (List Key×V)) (kvs:List (D×D)),DTs K H kv kvs->Prop} (nil:motive [] [] .nil)
  (cons:∀ {k:List Key} {v:V} {d:D} {r:List (List Key×V)} {t:List (D×D)} (re:RepD K H v d) (rs:DTs K H r t),motive r t rs->motive ((k,v) :: r) ((.tup (k.map keyD),d) :: t) (.cons re rs)):∀ {kv:List (List Key×V)} {kvs:List (D×D)} (h:DTs K H kv kvs),motive kv kvs h:=fun h =>
 DTs.rec (motive_1:=fun _ _ _=>True) (motive_2:=fun _ _ _=>True) (motive_3:=fun _ _ _=>True) (motive_4:=motive) trivial (fun _=>trivial) (fun _=>trivial) (fun _=>trivial) (fun _ _ _=>trivial) (fun _ _ _=>trivial) (fun _ _ _=>trivial) (fun _ _ _=>trivial) (fun _=>trivial) (fun _=>trivial) trivial (fun _ _ _ _=>trivial) trivial (fun _ _ _ _=>trivial) nil (fun a b _ ih=>cons a b ih) h
theorem DKs.length {K:PySem.W.Frag} {H:Hp}:∀ {v:List (Key×V)} {d:List (D×D)},DKs K H v d->v.length=d.length:=fun h =>
 DKs.ind (motive:=fun v d _=>v.length=d.length) rfl (fun _ _ ih=>congrArg (· + 1) ih) h
theorem DTs.length {K:PySem.W.Frag} {H:Hp}:∀ {v:List (List Key×V)} {d:List (D×D)},DTs K H v d->v.length=d.length:=fun h =>
 DTs.ind (motive:=fun v d _=>v.length=d.length) rfl (fun _ _ ih=>congrArg (· + 1) ih) h
noncomputable def AbO (K:PySem.W.Frag) (H:Hp) (a:Addr):GO->Prop
 | .lst ds=>∃ vs,H a=some (.lst vs)/\RepDs K H vs ds
 | .dic kvs=>(∃ kv,H a=some (.dK kv)/\DKs K H kv kvs)\/∃ kv,H a=some (.dT kv)/\DTs K H kv kvs
noncomputable def AbH (K:PySem.W.Frag) (H:Hp) (G:Gp):Prop:=∀ a g,G a=some g->AbO K H a g
theorem AbO.dk {K:PySem.W.Frag} {H:Hp} {a:Addr} {kv:List (Key×V)} {kvs:List (D×D)} (h:H a=some (.dK kv)) (r:DKs K H kv kvs):AbO K H a (.dic kvs):=.inl ⟨kv,h,r⟩
theorem AbO.dt {K:PySem.W.Frag} {H:Hp} {a:Addr} {kv:List (List Key×V)} {kvs:List (D×D)} (h:H a=some (.dT kv)) (r:DTs K H kv kvs):AbO K H a (.dic kvs):=.inr ⟨kv,h,r⟩
theorem AbO.mono {K:PySem.W.Frag} {H H':Hp} {a:Addr} {g:GO} (k:Kp H H') (e:H' a=H a) (h:AbO K H a g):AbO K H' a g:=by
 cases g with
 | lst ds=>obtain ⟨vs,q,r⟩:=h; exact ⟨vs,e.trans q,r.mono k⟩
 | dic kvs =>
  rcases h with ⟨kv,q,r⟩ | ⟨kv,q,r⟩
  ·exact .inl ⟨kv,e.trans q,r.mono k⟩
  ·exact .inr ⟨kv,e.trans q,r.mono k⟩
theorem AbO.tracked {K:PySem.W.Frag} {H:Hp} {a:Addr} {g:GO} (h:AbO K H a g):H a≠none:=by
 cases g with
 | lst ds=>obtain ⟨vs,q,r⟩:=h; rw [q]; simp
 | dic kvs =>
  rcases h with ⟨kv,q,r⟩ | ⟨kv,q,r⟩
  ·rw [q]; simp
  ·rw [q]; simp
theorem AbH.free {K:PySem.W.Frag} {H:Hp} {G:Gp} {a:Addr} (h:AbH K H G) (e:H a=none):G a=none:=by
 cases q:G a with
 | none=>rfl
 | some g=>exact absurd e (h a g q).tracked
theorem AbH.notup {K:PySem.W.Frag} {H:Hp} {G:Gp} {a:Addr} {xs:List V} (h:AbH K H G) (e:H a=some (.tup xs)):G a=none:=by
 cases q:G a with
 | none=>rfl
 | some g =>
  have z:=h a g q
  cases g with
  | lst ds=>obtain ⟨vs,q,r⟩:=z; rw [e] at q; cases q
  | dic kvs =>
   rcases z with ⟨kv,q,r⟩ | ⟨kv,q,r⟩
   ·rw [e] at q; cases q
   ·rw [e] at q; cases q
theorem AbH.nofrz {K:PySem.W.Frag} {H:Hp} {G:Gp} {a:Addr} {o:Obj} {u:HO} (h:AbH K H G) (e:H a=some (.frz o u)):G a=none:=by
 cases q:G a with
 | none=>rfl
 | some g =>
  have z:=h a g q
  cases g with
  | lst ds=>obtain ⟨vs,q,r⟩:=z; rw [e] at q; cases q
  | dic kvs =>
   rcases z with ⟨kv,q,r⟩ | ⟨kv,q,r⟩
   ·rw [e] at q; cases q
   ·rw [e] at q; cases q
structure Mv (K:PySem.W.Frag) (H:Hp) (G:Gp) (H':Hp) (G':Gp):Prop where
 keep:∀ a o,H a=some o->G a=none->H' a=some o/\G' a=none
 stay:∀ a,G a≠none->H' a≠none
 ab:AbH K H' G'
theorem Mv.refl {K:PySem.W.Frag} {H:Hp} {G:Gp} (h:AbH K H G):Mv K H G H G:=⟨fun _ _ e n=>⟨e,n⟩,fun a n=>by
 cases q:G a with
 | none=>exact absurd q n
 | some g=>exact (h a g q).tracked,h⟩
theorem Mv.trans {K:PySem.W.Frag} {H H1 H2:Hp} {G G1 G2:Gp} (a:Mv K H G H1 G1) (b:Mv K H1 G1 H2 G2):Mv K H G H2 G2 :=
 ⟨fun c o e n=>let ⟨e1,n1⟩:=a.keep c o e n; b.keep c o e1 n1,fun c n=>by
  have h1:=a.stay c n
  cases q:G1 c with
  | some g=>exact b.stay c (by rw [q]; simp)
  | none =>
   cases q1:H1 c with
   | none=>exact absurd q1 h1
   | some o=>rw [(b.keep c o q1 q).1]; simp,b.ab⟩
theorem Mv.kp {K:PySem.W.Frag} {H H':Hp} {G G':Gp} (m:Mv K H G H' G') (h:AbH K H G):Kp H H' :=
 ⟨fun a xs e=>(m.keep a _ e (h.notup e)).1,fun a o u e=>(m.keep a _ e (h.nofrz e)).1⟩
theorem Kp.new {H:Hp} {p:Addr} {o:HO} (hp:H p=none):Kp H (upd H p o):=⟨fun a xs e=>by rw [upd_ne (ne_of_none e hp)]; exact e,fun a ob u e=>by rw [upd_ne (ne_of_none e hp)]; exact e⟩
theorem Kp.putL {H:Hp} {p:Addr} {xs:List V} {o:HO} (hp:H p=some (.lst xs)):Kp H (upd H p o) :=
 ⟨fun a ys e=>by rw [upd_ne (by rintro rfl; rw [hp] at e; cases e)]; exact e,fun a ob u e=>by rw [upd_ne (by rintro rfl; rw [hp] at e; cases e)]; exact e⟩
theorem Mv.new {K:PySem.W.Frag} {H:Hp} {G:Gp} {p:Addr} {o:HO} {g:GO} (h:AbH K H G) (hp:H p=none) (ho:AbO K (upd H p o) p g):Mv K H G (upd H p o) (updG G p g) where
 keep:=fun a ob e n=>by
  have ne:=ne_of_none e hp
  exact ⟨by rw [upd_ne ne]; exact e,by rw [updG_ne ne]; exact n⟩
 stay:=fun a n=>by
  have ne:a≠p:=by rintro rfl; exact n (h.free hp)
  rw [upd_ne ne]
  exact (Mv.refl h).stay a n
 ab:=fun a g' e=>by
  by_cases ha:a=p
  ·subst ha; rw [updG_same] at e; cases e; exact ho
  ·rw [updG_ne ha] at e
   exact (h a g' e).mono (.new hp) (upd_ne ha)
theorem Mv.hid {K:PySem.W.Frag} {H:Hp} {G:Gp} {p:Addr} {o:HO} (h:AbH K H G) (hp:H p=none):Mv K H G (upd H p o) G where
 keep:=fun a ob e n=>⟨by rw [upd_ne (ne_of_none e hp)]; exact e,n⟩
 stay:=fun a n=>by
  have ne:a≠p:=by rintro rfl; exact n (h.free hp)
  rw [upd_ne ne]
  exact (Mv.refl h).stay a n
 ab:=fun a g' e=>by
  have ne:a≠p:=by rintro rfl; rw [h.free hp] at e; cases e
  exact (h a g' e).mono (.new hp) (upd_ne ne)
theorem Mv.put {K:PySem.W.Frag} {H:Hp} {G:Gp} {p:Addr} {o:HO} {g g0:GO} (h:AbH K H G) (hg:G p=some g0) (k:Kp H (upd H p o)) (ho:AbO K (upd H p o) p g):Mv K H G (upd H p o) (updG G p g) where
 keep:=fun a ob e n=>by
  have ne:a≠p:=by rintro rfl; rw [hg] at n; cases n
  exact ⟨by rw [upd_ne ne]; exact e,by rw [updG_ne ne]; exact n⟩
 stay:=fun a n=>by
  by_cases ha:a=p
  ·subst ha; rw [upd_same]; simp
  ·rw [upd_ne ha]; exact (Mv.refl h).stay a n
 ab:=fun a g' e=>by
  by_cases ha:a=p
  ·subst ha; rw [updG_same] at e; cases e; exact ho
  ·rw [updG_ne ha] at e
   exact (h a g' e).mono k (upd_ne ha)
theorem AbH.lst {K:PySem.W.Frag} {H:Hp} {G:Gp} {a:Addr} {ds:List D} (h:AbH K H G) (e:G a=some (.lst ds)):∃ vs,H a=some (.lst vs)/\RepDs K H vs ds:=h a _ e
theorem Mv.newL {K:PySem.W.Frag} {H:Hp} {G:Gp} {p:Addr} {vs:List V} {ds:List D} (h:AbH K H G) (hp:H p=none) (r:RepDs K H vs ds):Mv K H G (upd H p (.lst vs)) (updG G p (.lst ds)) :=
 .new h hp ⟨vs,upd_same,r.mono (.new hp)⟩
theorem Mv.putL {K:PySem.W.Frag} {H:Hp} {G:Gp} {p:Addr} {vs0 vs:List V} {ds0 ds:List D} (h:AbH K H G) (hg:G p=some (.lst ds0)) (hp:H p=some (.lst vs0)) (r:RepDs K H vs ds):Mv K H G (upd H p (.lst vs)) (updG G p (.lst ds)) :=
 .put h hg (.putL hp) ⟨vs,upd_same,r.mono (.putL hp)⟩
structure AbS (K:PySem.W.Frag) (H:Hp) (σ:L2.St) (τ:St2):Prop where
 len:σ.length=τ.length
 at':∀ (i:Nat) (d:D),τ[i]?=some (some d)->∃ v,σ[i]?=some (some v)/\RepD K H v d
theorem AbS.mono {K:PySem.W.Frag} {H H':Hp} {σ:L2.St} {τ:St2} (k:Kp H H') (a:AbS K H σ τ):AbS K H' σ τ :=
 ⟨a.len,fun i d e=>let ⟨v,h1,h2⟩:=a.at' i d e; ⟨v,h1,h2.mono k⟩⟩
theorem AbS.set {K:PySem.W.Frag} {H:Hp} {σ:L2.St} {τ:St2} {v:V} {d:D} (a:AbS K H σ τ) (i:Nat) (r:RepD K H v d):AbS K H (σ.set i (some v)) (τ.set i (some d)):=by
 refine ⟨by rw [List.length_set,List.length_set]; exact a.len,fun j e h=>?_⟩
 by_cases hj:i=j
 ·subst hj
  by_cases hi:i < τ.length
  ·rw [List.getElem?_set_self hi] at h
   cases h
   exact ⟨v,by rw [List.getElem?_set_self (by rw [a.len]; exact hi)],r⟩
  ·rw [List.set_eq_of_length_le (by lia)] at h
   rw [List.getElem?_eq_none (by lia)] at h
   cases h
 ·rw [List.getElem?_set_ne hj] at h
  obtain ⟨w,h1,h2⟩:=a.at' j e h
  exact ⟨w,by rw [List.getElem?_set_ne hj]; exact h1,h2⟩
structure I2 (X:Cx) (pins:List (Addr×Obj)) (σ:L2.St) (H:Hp) (τ:St2) (G:Gp) (s:Shared):Prop where
 inv:Inv X pins σ H s
 st:AbS X.K H σ τ
 ab:AbH X.K H G
theorem I2.mv {X:Cx} {pins:List (Addr×Obj)} {σ:L2.St} {H H':Hp} {τ:St2} {G G':Gp} {s s':Shared} (I:I2 X pins σ H τ G s) (I':Inv X pins σ H' s') (m:Mv X.K H G H' G'):I2 X pins σ H' τ G' s' :=
 ⟨I',I.st.mono (m.kp I.ab),m.ab⟩
noncomputable def CXe (P:Program) (w:World):CXT:=fun outer H s E e s'=>∃ (a C t:Addr) (B:Heap) (H':Hp),e=.ref a/\s'.os=s.os/\AllBare s'.gens/\Un (frs outer) [] H H' s.heap s'.heap/\HOk P w H' s'.heap /\
 (∀ b o,s'.heap.get? b=some o->b∉frs outer->(s.heap.get? b≠none\/H' b≠none)->B.get? b=some o)/\PySem.Heap.FlyingW B outer a (.ref C) (.ref t) s'.heap/\H' a=none/\s.heap.get? a=none/\E (.ref C) none H'
noncomputable def exK (mg:Str->Option Value) (E:XK2):XK:=fun cls _ _=>∃ (ex:Ex) (C:Addr),cls=.ref C/\mg ex.cls=some (.ref C)/\E ex (fun _=>none)
structure Lk (X:Cx) (E:XK2):Prop where
 made:∀ (pins:List (Addr×Obj)) (σ:L2.St) (H:Hp) (s:Shared) (h1:Heap) (a C:Addr) (args:List Value) (ex:Ex),Inv X pins σ H s->PySem.Heap.MadeExcOf s.heap h1 a (.ref C) args->X.mg ex.cls=some (.ref C)->E ex (fun _=>none)->X.xe (.ref a) { s with heap:=h1 }
 pass:∀ (pins:List (Addr×Obj)) (σ:L2.St) (H:Hp) (s s':Shared) (e:Value),Inv X pins σ H s->CXe X.prog X.w X.stack H s (exK X.mg E) e s'->X.xe e s'
theorem Lk.none {X:Cx} {E:XK2} (h:∀ ex G,¬ E ex G):Lk X E where
 made:=fun _ _ _ _ _ _ _ _ ex _ _ _ z=>absurd z (h ex _)
 pass:=fun _ _ _ _ _ _ _ hc=>by
  obtain ⟨_,_,_,_,_,_,_,_,_,_,_,_,_,_,hz⟩:=hc
  obtain ⟨ex,_,_,_,z⟩:=hz
  exact absurd z (h ex _)
inductive EP2 (X:Cx) (pins:List (Addr×Obj)) (σ:L2.St) (H:Hp) (G:Gp) (Q:DK) (u:Value) (s':Shared):Prop
 | mk (v:V) (H':Hp) (d:D) (G':Gp) (i:Inv X pins σ H' s') (m:Mv X.K H G H' G') (r:RelV v u) (rd:RepD X.K H' v d) (q:Q d G'):EP2 X pins σ H G Q u s'
inductive TP2 (X:Cx) (pins:List (Addr×Obj)) (σ:L2.St) (H:Hp) (G:Gp) (Q:Bool->Gp->Prop) (b:Bool) (s':Shared):Prop
 | mk (H':Hp) (G':Gp) (i:Inv X pins σ H' s') (m:Mv X.K H G H' G') (q:Q b G'):TP2 X pins σ H G Q b s'
inductive AP2 (X:Cx) (pins:List (Addr×Obj)) (σ:L2.St) (H:Hp) (G:Gp) (Q:List D->Gp->Prop) (us:List Value) (s':Shared):Prop
 | mk (vs:List V) (H':Hp) (ds:List D) (G':Gp) (i:Inv X pins σ H' s') (m:Mv X.K H G H' G') (r:Vals vs us) (rd:RepDs X.K H' vs ds) (q:Q ds G'):AP2 X pins σ H G Q us s'
inductive SPn (X:Cx) (pins:List (Addr×Obj)) (H:Hp) (G:Gp) (P:St2->Gp->Prop) (s':Shared):Prop
 | mk (σ':L2.St) (H':Hp) (τ':St2) (G':Gp) (i:I2 X pins σ' H' τ' G' s') (m:Mv X.K H G H' G') (q:P τ' G'):SPn X pins H G P s'
inductive SPr (X:Cx) (pins:List (Addr×Obj)) (H:Hp) (G:Gp) (P:D->Gp->Prop) (u:Value) (s':Shared):Prop
 | mk (v:V) (σ':L2.St) (H':Hp) (d:D) (G':Gp) (i:Inv X pins σ' H' s') (m:Mv X.K H G H' G') (r:RelV v u) (rd:RepD X.K H' v d) (q:P d G'):SPr X pins H G P u s'
noncomputable def SP2 (X:Cx) (pins:List (Addr×Obj)) (H:Hp) (G:Gp) (D:Ends2) (f:Flow) (s':Shared):Prop :=
 match f with
 | .next=>SPn X pins H G D.nx s'
 | .brk=>SPn X pins H G D.bk s'
 | .cont=>SPn X pins H G D.ct s'
 | .ret u=>SPr X pins H G D.rt u s'
noncomputable def PE2 (X:Cx) (e:Expr) (t:TE2):Prop :=
 ∀ (E:XK2) (pins:List (Addr×Obj)) (s:Shared) (σ:L2.St) (H:Hp) (τ:St2) (G:Gp) (Q:DK),Lk X E->I2 X pins σ H τ G s->t E τ G Q->wpAny (model X.prog X.w) X.A (eval e X.env) (EP2 X pins σ H G Q) X.xe s
noncomputable def PT2 (X:Cx) (e:Expr) (t:TT2):Prop :=
 ∀ (E:XK2) (pins:List (Addr×Obj)) (s:Shared) (σ:L2.St) (H:Hp) (τ:St2) (G:Gp) (Q:Bool->Gp->Prop),Lk X E->I2 X pins σ H τ G s->t E τ G Q->wpAny (model X.prog X.w) X.A (isTrue e X.env (eval e X.env)) (TP2 X pins σ H G Q) X.xe s
noncomputable def PW2 (X:Cx) (e:Expr) (t:TT2):Prop :=
 ∀ (wh:Sem Value) (E:XK2) (pins:List (Addr×Obj)) (s:Shared) (σ:L2.St) (H:Hp) (τ:St2) (G:Gp) (Q:Bool->Gp->Prop),Lk X E->I2 X pins σ H τ G s->t E τ G Q->wpAny (model X.prog X.w) X.A (isTrue e X.env wh) (TP2 X pins σ H G Q) X.xe s
noncomputable def PA2 (X:Cx) (es:List Expr) (t:TA2):Prop :=
 ∀ (pos:Pos) (E:XK2) (pins:List (Addr×Obj)) (s:Shared) (σ:L2.St) (H:Hp) (τ:St2) (G:Gp) (Q:List D->Gp->Prop),Lk X E->I2 X pins σ H τ G s->t E τ G Q->wpAny (model X.prog X.w) X.A (spliced (backTo pos (starEach es X.env))) (AP2 X pins σ H G Q) X.xe s
noncomputable def PS2 (X:Cx) (st:Stmt) (t:TS2):Prop :=
 ∀ (E:XK2) (pins:List (Addr×Obj)) (s:Shared) (σ:L2.St) (H:Hp) (τ:St2) (G:Gp) (D:Ends2),Lk X E->I2 X pins σ H τ G s->t E D τ G->wpAny (model X.prog X.w) X.A (exec st X.env) (SP2 X pins H G D) X.xe s
noncomputable def PSs2 (X:Cx) (st:List Stmt) (t:TS2):Prop :=
 ∀ (E:XK2) (pins:List (Addr×Obj)) (s:Shared) (σ:L2.St) (H:Hp) (τ:St2) (G:Gp) (D:Ends2),Lk X E->I2 X pins σ H τ G s->t E D τ G->wpAny (model X.prog X.w) X.A (execs st X.env) (SP2 X pins H G D) X.xe s
theorem SP2.trans {X:Cx} {pins:List (Addr×Obj)} {H H1:Hp} {G G1:Gp} {D:Ends2} {f:Flow} {s':Shared} (m:Mv X.K H G H1 G1) (h:SP2 X pins H1 G1 D f s'):SP2 X pins H G D f s':=by
 cases f with
 | next=>obtain ⟨σ',H',τ',G',I,m',q⟩:=h; exact ⟨σ',H',τ',G',I,m.trans m',q⟩
 | brk=>obtain ⟨σ',H',τ',G',I,m',q⟩:=h; exact ⟨σ',H',τ',G',I,m.trans m',q⟩
 | cont=>obtain ⟨σ',H',τ',G',I,m',q⟩:=h; exact ⟨σ',H',τ',G',I,m.trans m',q⟩
 | ret u=>obtain ⟨v,σ',H',d,G',I,m',r,rd,q⟩:=h; exact ⟨v,σ',H',d,G',I,m.trans m',r,rd,q⟩
section
variable {X:Cx} {a b c:Expr} {ta tb tc:TE2} {pos:Pos}
theorem thnE {pins:List (Addr×Obj)} {σ:L2.St} {H:Hp} {τ:St2} {G:Gp} {s:Shared} {E:XK2} {R:DK} {Q:Value->Shared->Prop} (ha:PE2 X a ta) (hE:Lk X E) (I:I2 X pins σ H τ G s) (h:ta E τ G R)
  (k:∀ v H1 d G1 u s1,I2 X pins σ H1 τ G1 s1->Mv X.K H G H1 G1->RelV v u->RepD X.K H1 v d->R d G1->Q u s1):wpAny (model X.prog X.w) X.A (eval a X.env) Q X.xe s :=
 thn (ha E pins s σ H τ G R hE I h) (by rintro u s1 ⟨v,H1,d,G1,I1,m,r,rd,q⟩; exact k v H1 d G1 u s1 (I.mv I1 m) m r rd q)
theorem EP2.trans {pins:List (Addr×Obj)} {σ:L2.St} {H H1:Hp} {G G1:Gp} {Q:DK} {u:Value} {s':Shared} (m:Mv X.K H G H1 G1) (h:EP2 X pins σ H1 G1 Q u s'):EP2 X pins σ H G Q u s':=by
 obtain ⟨v,H',d,G',I,m',r,rd,q⟩:=h
 exact ⟨v,H',d,G',I,m.trans m',r,rd,q⟩
theorem TP2.trans {pins:List (Addr×Obj)} {σ:L2.St} {H H1:Hp} {G G1:Gp} {Q:Bool->Gp->Prop} {u:Bool} {s':Shared} (m:Mv X.K H G H1 G1) (h:TP2 X pins σ H1 G1 Q u s'):TP2 X pins σ H G Q u s':=by
 obtain ⟨H',G',I,m',r⟩:=h
 exact ⟨H',G',I,m.trans m',r⟩
theorem pe2_var {i:Nat} {x:Str} (hN:X.N[i]?=some x) (hv:Vis X.env.scope x) (hd:autoParam ((x == ("__debug__" : Str))=false) Ad._auto_1) (hcd:autoParam ((x == ("__classdict__" : Str))=false) Ad._auto_1):PE2 X (.Name x pos) (dVar i):=by
 intro E pins s σ H τ G Q hE I h
 unfold dVar at h
 split at h
 ·rename_i d e
  obtain ⟨v,h1,h2⟩:=I.st.at' i d e
  exact thn (pe_var hN hv hd hcd pins s σ H (fun v' H'=>v'=v/\H'=H) I.inv ⟨v,h1,rfl,rfl⟩) fun u s1 hp0=>by
   obtain ⟨v',H',I1,r,e1,e2⟩:=hp0
   subst e1; subst e2
   exact ⟨_,_,d,G,I1,.refl I.ab,r,h2,h⟩
 ·exact h.elim
theorem pe2_const {e:Expr} {v:V} {d:D} (h:PE X e (tC v)) (r:∀ K H,RepD K H v d):PE2 X e (dC d):=by
 intro E pins s σ H τ G Q hE I hq
 exact thn (h pins s σ H (fun v' H'=>v'=v/\H'=H) I.inv ⟨rfl,rfl⟩) fun u s1 hp1=>by
  obtain ⟨v',H',I1,rr,e1,e2⟩:=hp1
  subst e1; subst e2
  exact ⟨_,_,d,G,I1,.refl I.ab,rr,r _ _,hq⟩
theorem pe2_int {i j}:PE2 X (.Constant (.int i) j pos) (dC (.int i)):=pe2_const pe_int fun _ _=>.int i
noncomputable def OpR2 (X:Cx) (f:Value->Value->Sem Value) (r:R22):Prop :=
 ∀ (pins:List (Addr×Obj)) (s:Shared) (σ:L2.St) (H:Hp) (G:Gp) (x y:V) (dx dy:D) (v u:Value) (Q:DK),Inv X pins σ H s->AbH X.K H G->RelV x v->RelV y u->RepD X.K H x dx->RepD X.K H y dy->r dx dy G Q ->
  wpAny (model X.prog X.w) X.A (f v u) (EP2 X pins σ H G Q) X.xe s
noncomputable def UnR2 (X:Cx) (f:Value->Sem Value) (r:D->Gp->DK->Prop):Prop :=
 ∀ (pins:List (Addr×Obj)) (s:Shared) (σ:L2.St) (H:Hp) (G:Gp) (x:V) (dx:D) (v:Value) (Q:DK),Inv X pins σ H s->AbH X.K H G->RelV x v->RepD X.K H x dx->r dx G Q ->
  wpAny (model X.prog X.w) X.A (f v) (EP2 X pins σ H G Q) X.xe s
noncomputable def CallR2 (X:Cx) (f:Value) (r:List D->Gp->DK->Prop):Prop :=
 ∀ (pins:List (Addr×Obj)) (s:Shared) (σ:L2.St) (H:Hp) (G:Gp) (xs:List V) (ds:List D) (us:List Value) (Q:DK),Inv X pins σ H s->AbH X.K H G->Vals xs us->RepDs X.K H xs ds->r ds G Q ->
  wpAny (model X.prog X.w) X.A (call f us) (EP2 X pins σ H G Q) X.xe s
noncomputable abbrev Rch (K:PySem.W.Frag) (H:Hp) (G:Gp) (Q:DK):VK:=fun v H'=>∃ d G',Mv K H G H' G'/\RepD K H' v d/\Q d G'
theorem EP2.of {pins:List (Addr×Obj)} {σ:L2.St} {H:Hp} {G:Gp} {Q:DK} {u:Value} {s':Shared} (h:EP X pins σ (Rch X.K H G Q) u s'):EP2 X pins σ H G Q u s':=by
 obtain ⟨v,H',I,r,d,G',m,rd,q⟩:=h
 exact ⟨v,H',d,G',I,m,r,rd,q⟩
theorem binT2 (ha:PE2 X a ta) (hb:PE2 X b tb) {E:XK2} {pins:List (Addr×Obj)} {s:Shared} {σ:L2.St} {H:Hp} {τ:St2} {G:Gp} {R:D->D->Gp->Prop} (hE:Lk X E) (I:I2 X pins σ H τ G s)
  (h:ta E τ G fun x G1=>tb E τ G1 fun y G2=>R x y G2) {Q:Value->Shared->Prop} {f:Value->Value->Sem Value}
  (hf:∀ v u s2 x y dx dy H2 G2,I2 X pins σ H2 τ G2 s2->Mv X.K H G H2 G2->RelV x v->RelV y u->RepD X.K H2 x dx->RepD X.K H2 y dy->R dx dy G2->wpAny (model X.prog X.w) X.A (f v u) Q X.xe s2) :
  wpAny (model X.prog X.w) X.A (eval a X.env) (fun v s₁=>wpAny (model X.prog X.w) X.A (eval b X.env) (fun u s₂=>wpAny (model X.prog X.w) X.A (f v u) Q X.xe s₂) X.xe s₁) X.xe s:=by
 refine thnE ha hE I h fun x H1 dx G1 v s1 I1 m1 r1 rd1 q1=>?_
 refine thnE hb hE I1 q1 fun y H2 dy G2 u s2 I2' m2 r2 rd2 q2=>?_
 exact hf v u s2 x y dx dy H2 G2 I2' (m1.trans m2) r1 r2 (rd1.mono (m2.kp I1.ab)) rd2 q2
theorem pe2_op {op:Operator} {r:R22} (ho:OpR2 X (binaryOp op) r) (ha:PE2 X a ta) (hb:PE2 X b tb):PE2 X (.BinOp a op b pos) (dBin r ta tb):=by
 intro E pins s σ H τ G Q hE I h
 exact wpAny_BinOp (binT2 ha hb hE I h fun v u s2 x y dx dy H2 G2 I2' m rx ry dX dY q=>thn (ho pins s2 σ H2 G2 x y dx dy v u Q I2'.inv I2'.ab rx ry dX dY q) fun _ _ z=>z.trans m)
theorem pe2_un {op:UnaryOp} {r:D->Gp->DK->Prop} (ho:UnR2 X (unaryOp op) r) (ha:PE2 X a ta):PE2 X (.UnaryOp op a pos) (dUn r ta):=by
 intro E pins s σ H τ G Q hE I h
 exact UnaryOp_ (thnE ha hE I h fun x H1 dx G1 v s1 I1 m1 r1 rd1 q1=>thn (ho pins s1 σ H1 G1 x dx v Q I1.inv I1.ab r1 rd1 q1) fun _ _ z=>z.trans m1)
theorem pe2_cmp {op:CmpOp} {r:R22} (ho:OpR2 X (compareOp op) r) (ha:PE2 X a ta) (hb:PE2 X b tb) (hm:behindInMarks op b=false):PE2 X (.Compare a [op] [b] pos) (dBin r ta tb):=by
 intro E pins s σ H τ G Q hE I h
 exact wpAny_Compare1 (binT2 ha hb hE I h fun v u s2 x y dx dy H2 G2 I2' m rx ry dX dY q=>thn (ho pins s2 σ H2 G2 x y dx dy v u Q I2'.inv I2'.ab rx ry dX dY q) fun _ _ z=>z.trans m) hm
end
end K2
end
section
namespace K2
open PySem PySem.Spec PyProof.Rows L2
theorem tru_V {K:PySem.W.Frag} {H:Hp} {G:Gp} {x:V} {d:D} {k:Bool} (ab:AbH K H G) (r:RepD K H x d) (e:tru d G=some k):(∃ p,x=.ref p/\Rd H p (.dT [])/\k=false)\/(∃ p kv,x=.ref p/\Rd H p (.dK kv)/\k=!kv.isEmpty)\/TruV K x H k:=by
 have dicts:∀ kvs:List (D×D),(if (kvs.all fun p=>keyOk1 p.1)=true then some (!kvs.isEmpty) else none)=some k->∀ p,((∃ kv,Rd H p (.dK kv)/\DKs K H kv kvs)\/∃ kv,Rd H p (.dT kv)/\DTs K H kv kvs) ->
   (∃ p',V.ref p=.ref p'/\Rd H p' (.dT [])/\k=false)\/(∃ p' kv,V.ref p=.ref p'/\Rd H p' (.dK kv)/\k=!kv.isEmpty)\/TruV K (.ref p) H k:=by
  intro kvs e p z
  by_cases ha:(kvs.all fun p=>keyOk1 p.1)=true
  ·rw [if_pos ha] at e
   cases e
   rcases z with ⟨kv,hv,rs⟩ | ⟨kv,hv,rs⟩
   ·right; left
    refine ⟨p,kv,rfl,hv,?_⟩
    cases rs <;> rfl
   ·left
    cases rs with
    | nil=>exact ⟨p,rfl,hv,rfl⟩
    | cons _ _=>simp [keyOk1] at ha
  ·rw [if_neg ha] at e; cases e
 cases r with
 | non=>right; right; cases e; rfl
 | bl b=>right; right; cases e; rfl
 | int i=>right; right; cases e; rfl
 | str y =>
  right; right
  unfold tru at e
  dsimp only at e
  by_cases h:y.length<=SZ
  ·rw [if_pos h] at e; cases e; exact ⟨by rw [sizeLine_eq]; exact h,rfl⟩
  ·rw [if_neg h] at e; cases e
 | tup h rs =>
  right; right
  cases e
  refine .inr (.inl ⟨_,.of h,?_⟩)
  cases rs <;> rfl
 | rol h rs =>
  right; right
  cases e
  refine .inl ⟨_,h.sq,?_⟩
  cases rs <;> rfl
 | rodK h rs=>exact dicts _ e _ (.inl ⟨_,.inr ⟨_,h⟩,rs⟩)
 | rodT h rs=>exact dicts _ e _ (.inr ⟨_,.inr ⟨_,h⟩,rs⟩)
 | exc h=>simp [tru] at e
 | ref a =>
  unfold tru at e
  dsimp only at e
  cases q:G a with
  | none=>rw [q] at e; cases e
  | some g =>
   rw [q] at e
   have z:=ab a g q
   cases g with
   | lst ds =>
    right; right
    obtain ⟨vs,hv,rs⟩:=z
    cases e
    refine .inl ⟨vs,.of hv,?_⟩
    cases rs <;> rfl
   | dic kvs =>
    refine dicts kvs e a ?_
    rcases z with ⟨kv,hv,rs⟩ | ⟨kv,hv,rs⟩
    ·exact .inl ⟨kv,.inl hv,rs⟩
    ·exact .inr ⟨kv,.inl hv,rs⟩
section
variable {X:Cx} {a b c:Expr} {ta tb tc:TE2} {pos:Pos}
noncomputable def TruR2 (X:Cx):Prop:=∀ (pins:List (Addr×Obj)) (s:Shared) (σ:L2.St) (H:Hp) (G:Gp) (x:V) (d:D) (v:Value) (k:Bool) (Q:Bool->Shared->Prop),Inv X pins σ H s->AbH X.K H G->RelV x v->RepD X.K H x d->tru d G=some k ->
  (∀ s',Inv X pins σ H s'->Q k s')->wpAny (model X.prog X.w) X.A (truthy v) Q X.xe s
theorem tru2:TruR2 X:=by
 intro pins s σ H G x d v k Q I ab rx rd e q
 rcases tru_V ab rd e with ⟨p,rfl,hv,hk⟩ | ⟨p,kv,rfl,hv,hk⟩ | h
 ·obtain ⟨z,hS,xs,rel,o,es,ep,ho,hx,hd',hl,nd⟩:=hv.ok I.hok
  have hxs:xs=[]:=by cases rel; rfl
  subst hxs
  have he:es=#[]:=by simpa using hl
  subst he
  cases rx
  have dd:s.heap.DictOf (mixKind X.prog X.w) p []:=⟨o,#[],ep,ho,hx,hd',(fun _ h=>by simp at h),.nil,List.nodup_nil⟩
  refine wpAny_truthy_dict hS dd (by simp) ?_
  subst hk
  exact q _ (I.tok _)
 ·cases rx
  subst hk
  exact d_truth I hv q
 ·exact thn (tru_ok pins s σ H x v (fun k' H'=>k'=k/\H'=H) I rx ⟨k,h,rfl,rfl⟩) fun k' s' hp0=>by
   obtain ⟨H',I',e1,e2⟩:=hp0
   subst e1; subst e2; exact q s' I'
theorem pt2_truth (ha:PE2 X a ta) (he:autoParam (∀ whole,isTrue a X.env whole=(do let v ← whole; standAt a.pos; holding [v] (truthy v))) Ai._auto_1):PT2 X a (dTru ta):=by
 intro E pins s σ H τ G Q hE I h
 refine isTrue_plain (thnE ha hE I h fun x H1 d G1 v s1 I1 m1 r1 rd1 q1=>?_) (he _)
 try dsimp only at q1
 split at q1
 ·rename_i k e
  exact tru2 pins s1 σ H1 G1 x d v k _ I1.inv I1.ab r1 rd1 e fun s' I'=>⟨H1,G1,I',m1,q1⟩
 ·exact q1.elim
theorem pt2_cmp {op:CmpOp} {r:R22} (ho:OpR2 X (compareOp op) r) (ha:PE2 X a ta) (hb:PE2 X b tb) (hm:behindInMarks op b=false):PT2 X (.Compare a [op] [b] pos) (dTru (dBin r ta tb)):=by
 intro E pins s σ H τ G Q hE I h
 refine wpAny_isTrue_Compare1 (thnE ha hE I h fun x H1 dx G1 v s1 I1 m1 r1 rd1 q1=>thnE hb hE I1 q1 fun y H2 dy G2 u s2 I2' m2 r2 rd2 q2 =>
  thn (ho pins s2 σ H2 G2 x y dx dy v u _ I2'.inv I2'.ab r1 r2 (rd1.mono (m2.kp I1.ab)) rd2 q2) ?_) hm
 rintro c s3 ⟨z,H3,dz,G3,I3,m3,r3,rd3,q3⟩
 try dsimp only at q3
 split at q3
 ·rename_i k e
  exact tru2 pins s3 σ H3 G3 z dz c k _ I3 m3.ab r3 rd3 e fun s' I'=>⟨H3,G3,I',(m1.trans m2).trans m3,q3⟩
 ·exact q3.elim
variable {tA tB:TT2} {rest:List Expr}
theorem PW2.pt {e:Expr} {t:TT2} (h:PW2 X e t):PT2 X e t:=fun E pins s σ H τ G Q hE I q=>h _ E pins s σ H τ G Q hE I q
theorem thnT {pins:List (Addr×Obj)} {σ:L2.St} {H:Hp} {τ:St2} {G:Gp} {s:Shared} {E:XK2} {R:Bool->Gp->Prop} {Q:Bool->Shared->Prop} (ha:PT2 X a tA) (hE:Lk X E) (I:I2 X pins σ H τ G s) (h:tA E τ G R)
  (k:∀ c H1 G1 s1,I2 X pins σ H1 τ G1 s1->Mv X.K H G H1 G1->R c G1->Q c s1):wpAny (model X.prog X.w) X.A (isTrue a X.env (eval a X.env)) Q X.xe s :=
 thn (ha E pins s σ H τ G R hE I h) (by rintro c s1 ⟨H1,G1,I1,m,q⟩; exact k c H1 G1 s1 (I.mv I1 m) m q)
theorem pw2_or1 (ha:PT2 X a tA):PW2 X (.BoolOp .Or [a] pos) tA:=by
 intro wh E pins s σ H τ G Q hE I h
 refine isTrue_or (thn (ha E pins s σ H τ G Q hE I h) fun c s1 e=>?_)
 cases c with
 | false=>exact isTrue_or_nil e
 | true=>exact e
theorem pw2_or (ha:PT2 X a tA) (hb:PW2 X (.BoolOp .Or (b :: rest) pos) tB):PW2 X (.BoolOp .Or (a :: b :: rest) pos) (dOr tA tB):=by
 intro wh E pins s σ H τ G Q hE I h
 refine isTrue_or (thnT ha hE I h fun c H1 G1 s1 I1 m1 q1=>?_)
 cases c with
 | false=>exact thn (hb wh E pins s1 σ H1 τ G1 Q hE I1 (by simpa using q1)) fun _ _ z=>z.trans m1
 | true=>exact ⟨H1,G1,I1.inv,m1,by simpa using q1⟩
theorem pt2_not (ha:PT2 X a tA):PT2 X (.UnaryOp .Not a pos) (dNot tA):=by
 intro E pins s σ H τ G Q hE I h
 exact isTrue_not (thn (ha E pins s σ H τ G (fun c H1=>Q (!c) H1) hE I h) (by rintro c s' ⟨H',G',i,m,q⟩; exact ⟨H',G',i,m,q⟩))
theorem pe2_one {op} {t:TE2} (h:PE2 X a t):PE2 X (.BoolOp op [a] pos) t:=fun E pins s σ H τ G Q hE I hw=>BoolOp_one (h E pins s σ H τ G Q hE I hw)
theorem pe2_and (ha:PE2 X a ta) (hb:PE2 X (.BoolOp .And (b :: rest) pos) tb):PE2 X (.BoolOp .And (a :: b :: rest) pos) (dAndV ta tb):=by
 intro E pins s σ H τ G Q hE I h
 refine BoolOp_and (thnE ha hE I h fun x H1 d G1 v s1 I1 m1 r1 rd1 q1=>?_)
 try dsimp only at q1
 split at q1
 ·rename_i e
  exact tru2 pins s1 σ H1 G1 x d v true _ I1.inv I1.ab r1 rd1 e fun s' I'=>thn (hb E pins s' σ H1 τ G1 Q hE ⟨I',I1.st,I1.ab⟩ q1) fun _ _ z=>z.trans m1
 ·rename_i e
  exact tru2 pins s1 σ H1 G1 x d v false _ I1.inv I1.ab r1 rd1 e fun s' I'=>⟨x,H1,d,G1,I',m1,r1,rd1,q1⟩
 ·exact q1.elim
theorem pe2_not (ha:PE2 X a ta):PE2 X (.UnaryOp .Not a pos) (dNotV ta):=by
 intro E pins s σ H τ G Q hE I h
 refine UnaryOp_ (thnE ha hE I h fun x H1 d G1 v s1 I1 m1 r1 rd1 q1=>?_)
 try dsimp only at q1
 split at q1
 ·rename_i k e
  exact not_of (tru2 pins s1 σ H1 G1 x d v k _ I1.inv I1.ab r1 rd1 e fun s' I'=>⟨.bl (!k),H1,.bl (!k),G1,I',m1,rfl,.bl _,q1⟩)
 ·exact q1.elim
theorem pe2_if (hc:PT2 X c tA) (ha:PE2 X a ta) (hb:PE2 X b tb):PE2 X (.IfExp c a b pos) (dIf tA ta tb):=by
 intro E pins s σ H τ G Q hE I h
 refine wpAny_IfExp (thnT hc hE I h fun d H1 G1 s1 I1 m1 q1=>?_)
 cases d with
 | true=>exact thn (ha E pins s1 σ H1 τ G1 Q hE I1 (by simpa using q1)) fun _ _ z=>z.trans m1
 | false=>exact thn (hb E pins s1 σ H1 τ G1 Q hE I1 (by simpa using q1)) fun _ _ z=>z.trans m1
variable {e:Expr} {es:List Expr} {te:TE2} {t:TA2}
theorem pa2_nil:PA2 X [] dNil:=fun _ _ _ _ _ H _ G Q _ I h=>Calls.spliced_nil ⟨[],H,[],G,I.inv,.refl I.ab,.nil,.nil,h⟩
theorem pa2_cons (ha:PE2 X e te) (hr:PA2 X es t) (hs:autoParam (starEach (e :: es) X.env=(false,eval e X.env) :: starEach es X.env) Ar._auto_1):PA2 X (e :: es) (dCons te t):=by
 intro pos E pins s σ H τ G Q hE I h
 rw [hs]
 show wpAny _ _ (spliced ((false,eval e X.env) :: backTo pos (starEach es X.env))) _ _ s
 refine Calls.spliced_cons (thnE ha hE I h fun x H1 d G1 u s1 I1 m1 r1 rd1 q1=>?_)
 exact thn (hr pos E pins s1 σ H1 τ G1 _ hE I1 q1) (by rintro us s2 ⟨xs,H2,ds,G2,I2',m2,r2,rd2,q2⟩; exact ⟨x :: xs,H2,d :: ds,G2,I2',m1.trans m2,.cons r1 r2,.cons (rd1.mono (m2.kp I1.ab)) rd2,q2⟩)
theorem thnA {pins:List (Addr×Obj)} {σ:L2.St} {H:Hp} {τ:St2} {G:Gp} {s:Shared} {E:XK2} {R:List D->Gp->Prop} {Q:List Value->Shared->Prop} (ha:PA2 X es t) (pos:Pos) (hE:Lk X E) (I:I2 X pins σ H τ G s) (h:t E τ G R)
  (k:∀ vs H1 ds G1 us s1,I2 X pins σ H1 τ G1 s1->Mv X.K H G H1 G1->Vals vs us->RepDs X.K H1 vs ds->R ds G1->Q us s1):wpAny (model X.prog X.w) X.A (spliced (backTo pos (starEach es X.env))) Q X.xe s :=
 thn (ha pos E pins s σ H τ G R hE I h) (by rintro us s1 ⟨vs,H1,ds,G1,I1,m,r,rd,q⟩; exact k vs H1 ds G1 us s1 (I.mv I1 m) m r rd q)
theorem pe2_tup {x1} (h:PA2 X es t):PE2 X (.Tuple es x1 pos) (dTup t):=by
 intro E pins s σ H τ G Q hE I hq
 refine wpAny_Tuple_spliced (thnA h pos hE I hq ?_)
 rintro xs H1 ds G1 us s1 I1 m1 r rd ⟨z,q⟩
 refine ⟨by rw [← r.length,rd.length,sizeLine_eq]; exact z,?_⟩
 have hf:H1 s1.heap.objs.size=none:=I1.inv.hok.fresh (Nat.le_refl _)
 refine ⟨.ref s1.heap.objs.size,upd H1 s1.heap.objs.size (.tup xs),.tup ds,G1,I1.inv.laid (t':=s1.toks) (fun b u e=>Heap.get?_push_of_some _ e) (Nat.le_refl _) ?_,m1.trans (.hid I1.ab hf),rfl,?_,q⟩
 ·exact ⟨by rw [rd.length,sizeLine_eq]; exact z,us,r,⟨_,Heap.get?_push_size _ rfl,rfl,_,rfl⟩⟩
 ·exact .tup upd_same (rd.mono (.new hf))
theorem pe2_lst (h:PA2 X es t):PE2 X (.List es pos) (dLst t):=by
 intro E pins s σ H τ G Q hE I hq
 refine wpAny_List_spliced (thnA h pos hE I hq ?_)
 rintro xs H1 ds G1 us s1 I1 m1 r rd ⟨z,q⟩
 refine ⟨by rw [← r.length,rd.length,sizeLine_eq]; exact z,?_⟩
 have hf:H1 s1.heap.objs.size=none:=I1.inv.hok.fresh (Nat.le_refl _)
 refine ⟨.ref s1.heap.objs.size,upd H1 s1.heap.objs.size (.lst xs),.ref _,updG G1 s1.heap.objs.size (.lst ds),I1.inv.laid (t':=s1.toks) (fun b u e=>Heap.get?_push_of_some _ e) (Nat.le_refl _) ?_,m1.trans (.newL I1.ab hf rd),rfl,.ref _,q _ (I1.ab.free hf)⟩
 exact ⟨by rw [rd.length,sizeLine_eq]; exact z,us,0,r,Heap.get?_push_size _ rfl⟩
noncomputable def spOf (K:PySem.W.Frag) (sp:Sp2):Sp:=fun vs H Q _=>∃ ds G Q2,RepDs K H vs ds/\AbH K H G/\sp ds G Q2 (fun _ _=>False)/\∀ d G' v H',Q2 d G'->Mv K H G H' G'->RepD K H' v d->Q v H'
variable {k:Nat} {f:Addr} {fd:FuncData} {ps:List Str} {sp:Sp2} {x:Str} {p:Pos} {r:List D->Gp->DK->Prop} {id:String}
theorem pe2_call (F:FnOk X.prog X.w X.K X.mg X.base CX0 k f fd ps (spOf X.K sp)) (hr:Room k X.A) (hg:Gl X x) (hm:X.mg x=some (.ref f)) (hk:PySem.W.keepIn X.K (.ref f)=true) (hb:Binds X.K fd ps [])
  (ha:PA2 X (e :: es) t) (hdb:autoParam ((x == ("__debug__" : Str))=false) Ad._auto_1) (he:autoParam (starEach (e :: es) X.env=(false,eval e X.env) :: starEach es X.env) Ar._auto_1) (hpl:autoParam ((backTo pos (starEach es X.env)).any (·.1)=false) Ar._auto_1) :
  PE2 X (.Call (.Name x p) (e :: es) [] pos) (fun E τ G Q=>dCall (fun ds G1 Q1 _=>sp ds G1 Q1 fun _ _=>False) t E τ G Q):=by
 intro E pins s σ H τ G Q hE I h
 refine wpAny_Call_Name_kw (ld_glob I.inv hg hm ?_ hdb)
 refine PySem.W.callWith_K (h₀:=X.base) I.inv.ok.mod.kin hk (thnA ha pos hE I h fun vs H1 ds G1 us s1 I1 m1 r rd q=>⟨I1.inv.kIn,?_⟩) he hpl
 refine thn (run_fn F hr hb .nil pass0 I1.inv r (Q:=Rch X.K H1 G1 Q) ?_) fun _ _ z=>(EP2.of z).trans m1
 rw [List.append_nil]
 exact ⟨ds,G1,Q,rd,I1.ab,q,fun d G' v H' q' m' rd'=>⟨d,G',m',rd',q'⟩⟩
theorem pe2_callB (hc:CallR2 X (.builtin id) r) (hg:Gl X x) (hm:X.mg x=none) (hv:bootBuiltins x=some (.builtin id)) (ha:PA2 X (e :: es) t) (hn:autoParam (x≠"__name__") Ad._auto_1) (hdb:autoParam ((x == ("__debug__" : Str))=false) Ad._auto_1)
  (he:autoParam (starEach (e :: es) X.env=(false,eval e X.env) :: starEach es X.env) Ar._auto_1) (hpl:autoParam ((backTo pos (starEach es X.env)).any (·.1)=false) Ar._auto_1):PE2 X (.Call (.Name x p) (e :: es) [] pos) (dCB r t):=by
 intro E pins s σ H τ G Q hE I h
 refine wpAny_Call_Name_kw (ld_blt I.inv hg hm hv ?_ hn hdb)
 exact PyProof.Rows.callWith_builtin1 (thnA ha pos hE I h fun vs H1 ds G1 us s1 I1 m1 r1 rd1 q1=>thn (hc pins s1 σ H1 G1 vs ds us Q I1.inv I1.ab r1 rd1 q1) fun _ _ z=>z.trans m1) he hpl
variable {st:Stmt} {sts:List Stmt} {u v:TS2}
theorem pss2_nil:PSs2 X [] dNext:=fun _ _ _ σ H τ G _ _ I h=>wpAny_execs_nil ⟨σ,H,τ,G,I,.refl I.ab,h⟩
theorem pss2_cons (h1:PS2 X st u) (h2:PSs2 X sts v):PSs2 X (st :: sts) (dSeq u v):=by
 intro E pins s σ H τ G D hE I h
 refine wpAny_execs_cons (thn (h1 E pins s σ H τ G { D with nx:=v E D } hE I h) fun f s1 q=>?_)
 cases f with
 | next =>
  obtain ⟨σ',H',τ',G',I',m,q⟩:=q
  exact thn (h2 E pins s1 σ' H' τ' G' D hE I' q) fun _ _ z=>z.trans m
 | ret v=>exact q
 | brk=>exact q
 | cont=>exact q
theorem pss2_one (h1:PS2 X st u):PSs2 X [st] u:=by
 intro E pins s σ H τ G D hE I h
 refine wpAny_execs_cons (thn (h1 E pins s σ H τ G D hE I h) fun f s1 q=>?_)
 cases f with
 | next=>exact wpAny_execs_nil q
 | ret v=>exact q
 | brk=>exact q
 | cont=>exact q
theorem ps2_ret (he:PE2 X e te):PS2 X (.Return (some e) pos) (dRet te):=by
 intro E pins s σ H τ G D hE I h
 exact wpAny_Return_some (thn (he E pins s σ H τ G _ hE I h) (by rintro v s1 ⟨x,H1,d,G1,I1,m,r1,rd,q1⟩; exact ⟨x,σ,H1,d,G1,I1,m,r1,rd,q1⟩))
theorem ps2_if {sa sb:List Stmt} (hc:PT2 X c tA) (ha:PSs2 X sa u) (hb:PSs2 X sb v):PS2 X (.If c sa sb pos) (dIfS tA u v):=by
 intro E pins s σ H τ G D hE I h
 refine wpAny_If (thnT hc hE I h fun d H1 G1 s1 I1 m1 q1=>?_)
 cases d with
 | true=>exact thn (ha E pins s1 σ H1 τ G1 D hE I1 (by simpa using q1)) fun _ _ z=>z.trans m1
 | false=>exact thn (hb E pins s1 σ H1 τ G1 D hE I1 (by simpa using q1)) fun _ _ z=>z.trans m1
noncomputable def PG2 (X:Cx) (target:Expr) (t:TG2):Prop :=
 ∀ (E:XK2) (pins:List (Addr×Obj)) (s:Shared) (σ:L2.St) (H:Hp) (τ:St2) (G:Gp) (w:V) (d:D) (u:Value) (Q:St2->Gp->Prop),Lk X E->I2 X pins σ H τ G s->RelV w u->RepD X.K H w d->t E d τ G Q ->
  wpAny (model X.prog X.w) X.A (assign target X.env u) (fun _ s'=>∃ σ' H' τ' G',I2 X pins σ' H' τ' G' s'/\Mv X.K H G H' G'/\Q τ' G') X.xe s
noncomputable def PGs2 (X:Cx) (ts:List Expr) (t:TGs2):Prop :=
 ∀ (E:XK2) (pins:List (Addr×Obj)) (s:Shared) (σ:L2.St) (H:Hp) (τ:St2) (G:Gp) (ws:List V) (ds:List D) (us:List Value) (Q:St2->Gp->Prop),Lk X E->I2 X pins σ H τ G s->Vals ws us->RepDs X.K H ws ds->t E ds τ G Q ->
  wpAny (model X.prog X.w) X.A (assignInOrder ((assignEach ts X.env).map (·.2)) us) (fun _ s'=>∃ σ' H' τ' G',I2 X pins σ' H' τ' G' s'/\Mv X.K H G H' G'/\Q τ' G') X.xe s
theorem pg2_name {i:Nat} {x:Str} (hN:X.N.Nodup) (hi:X.N[i]?=some x) (hx:Loc X.env.scope x) (hf:autoParam (X.fn x=true\/X.env.scope.names.lookup x=some .local) Ao._auto_1):PG2 X (.Name x pos) (gName i):=by
 intro E pins s σ H τ G w d u Q hE I r rd h
 exact wpAny_assign_Name (store_ok I.inv hN hi hx r (fun s' I'=>⟨_,H,_,G,⟨I',I.st.set i rd,I.ab⟩,.refl I.ab,h⟩) hf)
theorem pgs2_nil:PGs2 X [] gNil:=by
 intro E pins s σ H τ G ws ds us Q hE I r rd h
 unfold gNil at h
 split at h
 ·have e:=rd.zero
  subst e
  cases r
  exact assignInOrder_nil ⟨σ,H,τ,G,I,.refl I.ab,h⟩
 ·exact h.elim
theorem pgs2_cons {t:TG2} {u:TGs2} (h1:PG2 X e t) (h2:PGs2 X es u)
  (hs:autoParam ((assignEach (e :: es) X.env).map (·.2)=assign e X.env :: (assignEach es X.env).map (·.2)) Ar._auto_1):PGs2 X (e :: es) (gCons t u):=by
 intro E pins s σ H τ G ws ds us Q hE I r rd h
 unfold gCons at h
 split at h
 ·cases rd with
  | cons rd1 rd2 =>
   cases r with
   | cons r1 r2 =>
    rw [hs]
    refine assignInOrder_cons (thn (h1 E pins s σ H τ G _ _ _ _ hE I r1 rd1 h) ?_)
    rintro _ s1 ⟨σ1,H1,τ1,G1,I1,m1,q1⟩
    exact thn (h2 E pins s1 σ1 H1 τ1 G1 _ _ _ Q hE I1 r2 (rd2.mono (m1.kp I.ab)) q1) (by rintro _ _ ⟨σ2,H2,τ2,G2,I2',m2,q2⟩; exact ⟨σ2,H2,τ2,G2,I2',m1.trans m2,q2⟩)
 ·exact h.elim
theorem pg2_tup {k:Nat} {t:TGs2} {n:Nat} (hc:X.calm=true) (h:PGs2 X es t) (hgl:∀ E ds τ G Q,t E ds τ G Q->ds.length=n)
  (hn:autoParam ((assignEach es X.env).length=n) Ar._auto_1) (hst:autoParam ((assignEach es X.env).findIdx? (·.1)=none) Ar._auto_1):PG2 X (.Tuple es k pos) (gTup t):=by
 intro E pins s σ H τ G w d u Q hE I r rd hw
 unfold gTup at hw
 split at hw
 ·cases rd with
  | tup hq rs =>
   cases r
   obtain ⟨its,rv,ht,hz⟩:=I.inv.tuple (.of hq)
   refine assign_Tuple_tuple (I.inv.ok.hd hc) ht (by rw [hn,List.size_toArray,← rv.length,rs.length]; exact (hgl _ _ _ _ _ hw).symm) hst fun h' hx=>?_
   have I1:Inv X pins σ H { s with heap:=h' }:=I.inv.kept (t':=s.toks) fun b o e=>hx b o (Nat.ne_of_lt (Heap.lt_size e)) e
   exact h E pins _ σ H τ G _ _ _ Q hE ⟨I1,I.st,I.ab⟩ (by simpa using rv) rs hw
 ·exact hw.elim
theorem glen_nil:∀ E ds τ G Q,gNil E ds τ G Q->ds.length=0:=by
 intro E ds τ G Q h
 cases ds with
 | nil=>rfl
 | cons _ _=>exact h.elim
theorem glen_cons {t:TG2} {u:TGs2} {n:Nat} (h:∀ E ds τ G Q,u E ds τ G Q->ds.length=n) (hm:∀ E d τ G (Q Q':St2->Gp->Prop),t E d τ G Q->(∀ τ' G',Q τ' G'->Q' τ' G')->t E d τ G Q') (hx:∀ E d τ G,¬ t E d τ G fun _ _=>False) :
  ∀ E ds τ G Q,gCons t u E ds τ G Q->ds.length=n+1:=by
 intro E ds τ G Q q
 cases ds with
 | nil=>exact q.elim
 | cons d ds =>
  by_cases hl:ds.length=n
  ·rw [List.length_cons,hl]
  ·exact absurd (hm E d τ G _ (fun _ _=>False) q fun τ' G' z=>hl (h _ _ _ _ _ z)) (hx E d τ G)
theorem ps2_asg {tg:Expr} {g:TG2} (he:PE2 X e te) (hg:PG2 X tg g) (hs:autoParam (swapsWithSole [tg] e pos.line X.env=pure false) Ar._auto_1) (hw:autoParam (swappedStores [tg] e X.env=pure none) Ar._auto_1)
  (h1:autoParam ((assignEach [tg] X.env).map (·.2)=[assign tg X.env]) Ar._auto_1):PS2 X (.Assign [tg] e pos) (dAsg te g):=by
 intro E pins s σ H τ G D hE I h
 refine wpAny_Assign_stores (thnE he hE I h fun x H1 d G1 v s1 I1 m1 r1 rd1 q1=>?_) hs hw
 rw [h1]
 exact thn (hg E pins s1 σ H1 τ G1 x d v _ hE I1 r1 rd1 q1) (by rintro _ s2 ⟨σ2,H2,τ2,G2,I2',m2,q2⟩; exact ⟨σ2,H2,τ2,G2,I2',m1.trans m2,q2⟩)
theorem ps2_set {i:Nat} {x:Str} {pos':Pos} (hN:X.N.Nodup) (hi:X.N[i]?=some x) (hx:Loc X.env.scope x) (he:PE2 X e te) (hs:autoParam (swapsWith e (some (.Name x pos')) pos.line X.env=pure false) Ar._auto_1) (hf:autoParam (X.fn x=true\/X.env.scope.names.lookup x=some .local) Ao._auto_1) :
  PS2 X (.Assign [.Name x pos'] e pos) (dAsg te (gName i)):=by
 intro E pins s σ H τ G D hE I h
 refine wpAny_Assign_Name (thnE he hE I h fun y H1 d G1 v s1 I1 m1 r1 rd1 q1=>?_) hs
 exact store_ok I1.inv hN hi hx r1 (fun s2 I2'=>⟨_,H1,_,G1,⟨I2',I1.st.set i rd1,I1.ab⟩,m1,q1⟩) hf
theorem ps2_expr (he:PE2 X e te) (hs:autoParam (swapsWith e none pos.line X.env=pure false) Ar._auto_1):PS2 X (.Expr e pos) (dExpr te):=by
 intro E pins s σ H τ G D hE I h
 exact wpAny_Expr_any (thnE he hE I h fun y H1 d G1 v s1 I1 m1 r1 rd1 q1=>⟨σ,H1,τ,G1,I1,m1,q1⟩) I.inv.quiet hs
end
end K2
end
section
namespace K2
open PySem PySem.Spec PyProof.Rows L2
noncomputable def Walk2 (K:PySem.W.Frag) (J:It) (H':Hp) (ds:List D) (ok:Gp->Prop):Prop :=
 ∀ i H1 G1,Kp H' H1->AbH K H1 G1->ok G1->(∀ d,ds[i]?=some d->J.go i H1/\∀ x H2,J.yld i H1 x H2->RepD K H2 x d/\Mv K H1 G1 H2 G1)/\(ds.length<=i->J.stop i H1)
inductive PIE2 (X:Cx) (pins:List (Addr×Obj)) (σ:L2.St) (tg:Expr) (H:Hp) (G:Gp) (R:List D->(Gp->Prop)->Gp->Prop) (itv:Value) (s2:Shared):Prop
 | mk (it:Addr) (fp:List Addr) (tn:Nat->Heap->Prop) (J:It) (H':Hp) (G':Gp) (ds:List D) (ok:Gp->Prop) (e:itv=.ref it) (i:Inv X pins σ H' s2) (m:Mv X.K H G H' G') (T:Turn X.prog X.w X.K tg J fp it tn) (t0:tn 0 s2.heap) (f:∀ b∈fp,FpOk X pins H' b)
  (wk:Walk2 X.K J H' ds ok) (q:R ds ok G'):PIE2 X pins σ tg H G R itv s2
noncomputable def PI2 (X:Cx) (tg iter:Expr) (wi:TI2):Prop :=
 ∀ (E:XK2) (pins:List (Addr×Obj)) (s:Shared) (σ:L2.St) (H:Hp) (τ:St2) (G:Gp) (R:List D->(Gp->Prop)->Gp->Prop),Lk X E->I2 X pins σ H τ G s->wi E τ G R ->
  wpAny (model X.prog X.w) X.A (eval iter X.env) (fun v s1=>wpAny (model X.prog X.w) X.A (pyIter v) (PIE2 X pins σ tg H G R) X.xe s1) X.xe s
section
variable {X:Cx} {tg:Expr} {a b:Expr} {ta tb:TE2} {pos p:Pos}
theorem list_it {pins:List (Addr×Obj)} {σ:L2.St} {H H1:Hp} {G G1:Gp} {s1:Shared} {l:Addr} {vs:List V} {ds:List D} {ok:Gp->Prop} {R:List D->(Gp->Prop)->Gp->Prop} (I1:Inv X pins σ H1 s1) (m:Mv X.K H G H1 G1) (hq:SqL X.K H1 l vs)
  (hk:∀ H2 G2,Kp H1 H2->AbH X.K H2 G2->ok G2->∃ ws,SqL X.K H2 l ws/\RepDs X.K H2 ws ds) (q:R ds ok G1):wpAny (model X.prog X.w) X.A (pyIter (.ref l)) (PIE2 X pins σ tg H G R) X.xe s1:=by
 obtain ⟨its,rv,pl,hz⟩:=I1.list hq
 refine wpAny_pyIter_list pl.isList ?_
 refine ⟨s1.heap.objs.size,[s1.heap.objs.size],_,_,H1,G1,ds,ok,rfl,I1.kept (t':=s1.toks) fun b o e=>Heap.get?_push_of_some _ e,m,turn_list l _,⟨_,Heap.get?_push_size _ rfl,rfl,rfl⟩,fun b hb=>?_,fun i H2 G2 k ab o=>?_,q⟩
 ·have e:b=s1.heap.objs.size:=by simpa using hb
  subst e
  exact I1.fpOk (Nat.le_refl _) (I1.hok.fresh (Nat.le_refl _))
 ·obtain ⟨ws,hw,rd⟩:=hk H2 G2 k ab o
  refine ⟨fun d hd=>?_,fun hl=>⟨ws,hw,by rw [rd.length]; exact hl⟩⟩
  obtain ⟨v,hv,r⟩:=rd.get hd
  refine ⟨⟨ws,v,hw,hv⟩,?_⟩
  rintro x H3 ⟨e,y⟩
  subst e
  have:=y ws hw
  rw [hv] at this
  cases this
  exact ⟨r,.refl ab⟩
theorem tup_it {pins:List (Addr×Obj)} {σ:L2.St} {H H1:Hp} {G G1:Gp} {s1:Shared} {l:Addr} {vs:List V} {ds:List D} {R:List D->(Gp->Prop)->Gp->Prop} (I1:Inv X pins σ H1 s1) (m:Mv X.K H G H1 G1) (hq:SqT X.K H1 l vs) (rd:RepDs X.K H1 vs ds)
  (q:R ds (fun _=>True) G1):wpAny (model X.prog X.w) X.A (pyIter (.ref l)) (PIE2 X pins σ tg H G R) X.xe s1:=by
 obtain ⟨its,rv,pl,hz⟩:=I1.tuple hq
 refine wpAny_pyIter_tuple (show s1.heap.IsTuple l its.toArray from pl) ?_
 refine ⟨s1.heap.objs.size,[s1.heap.objs.size],_,_,H1,G1,ds,_,rfl,I1.kept (t':=s1.toks) fun b o e=>Heap.get?_push_of_some _ e,m,turn_tuple l _,⟨_,Heap.get?_push_size _ rfl,rfl,rfl⟩,fun b hb=>?_,fun i H2 G2 k ab _=>?_,q⟩
 ·have e:b=s1.heap.objs.size:=by simpa using hb
  subst e
  exact I1.fpOk (Nat.le_refl _) (I1.hok.fresh (Nat.le_refl _))
 ·have hw:=k.sqT hq
  have rd2:=rd.mono k
  refine ⟨fun d hd=>?_,fun hl=>⟨vs,hw,by rw [rd.length]; exact hl⟩⟩
  obtain ⟨v,hv,r⟩:=rd2.get hd
  refine ⟨⟨vs,v,hw,hv⟩,?_⟩
  rintro x H3 ⟨e,y⟩
  subst e
  have:=y vs hw
  rw [hv] at this
  cases this
  exact ⟨r,.refl ab⟩
theorem pi2_seq (ha:PE2 X a ta):PI2 X tg a (iSeq ta):=by
 intro E pins s σ H τ G R hE I h
 refine thnE ha hE I h fun x H1 d G1 v s1 I1 m1 r1 rd1 q1=>?_
 cases rd1 with
 | tup hq rs=>cases r1; exact tup_it I1.inv m1 (.of hq) rs q1
 | rol hq rs=>cases r1; exact list_it I1.inv m1 hq.sq (fun H2 G2 k ab _=>⟨_,(k.sqF hq).sq,rs.mono k⟩) q1
 | ref p =>
  cases r1
  dsimp only at q1
  split at q1
  ·rename_i ds e
   obtain ⟨vs,hv,rs⟩:=I1.ab.lst e
   refine list_it I1.inv m1 (.of hv) (fun H2 G2 k ab o=>?_) q1
   obtain ⟨ws,hw,rw'⟩:=ab.lst o
   exact ⟨ws,.of hw,rw'⟩
  ·exact q1.elim
 | rodK _ _=>exact q1.elim
 | rodT _ _=>exact q1.elim
 | non=>exact q1.elim
 | bl _=>exact q1.elim
 | int _=>exact q1.elim
 | str _=>exact q1.elim
 | exc _=>exact q1.elim
theorem rng_it {pins:List (Addr×Obj)} {σ:L2.St} {H H1:Hp} {G G1:Gp} {s:Shared} {R:List D->(Gp->Prop)->Gp->Prop} {lo hi:Int} {t u v:Tok} {tk:Nat} (I:Inv X pins σ H1 s) (m:Mv X.K H G H1 G1) (h1:-(2 ^ 62)<=lo) (h2:lo < 2 ^ 62) (h3:-(2 ^ 62)<=hi) (h4:hi < 2 ^ 62)
  (q:R (rangeD lo (hi - lo).toNat) (fun _=>True) G1):wpAny (model X.prog X.w) X.A (pyIter (.ref s.heap.objs.size)) (PIE2 X pins σ tg H G R) X.xe { s with heap:=s.heap.push { cls:=.type "range",data:=.fields #[.int lo t,.int hi u,.int 1 v] },toks:=tk }:=by
 refine thn (range_it (tg:=tg) I h1 h2 h3 h4 (R:=fun J H'=>J=Itr lo (hi - lo).toNat/\H'=H1) ⟨rfl,rfl⟩) ?_
 rintro itv s2 ⟨it,fp,tn,J,H',e,I2',T,st,fo,eJ,eH⟩
 subst eJ; subst eH
 refine ⟨it,fp,tn,_,H',G1,_,_,e,I2',m,T,st,fo,fun i H2 G2 k ab _=>⟨fun d hd=>?_,fun hl=>?_⟩,q⟩
 ·unfold rangeD at hd
  rw [List.getElem?_map] at hd
  cases hi':(List.range (hi - lo).toNat)[i]? with
  | none=>rw [hi'] at hd; cases hd
  | some j =>
   rw [hi'] at hd
   obtain ⟨hlt,ej⟩:=List.getElem?_eq_some_iff.mp hi'
   rw [List.length_range] at hlt
   rw [List.getElem_range] at ej
   subst ej
   cases hd
   refine ⟨hlt,?_⟩
   rintro x H3 ⟨e1,e2⟩
   subst e1; subst e2
   exact ⟨.int _,.refl ab⟩
 ·unfold rangeD at hl
  rw [List.length_map,List.length_range] at hl
  exact hl
theorem pi2_range1 (hg:Gl X "range") (hm:X.mg "range" = none) (ha:PE2 X a ta) (hs:autoParam (starEach [a] X.env=[(false,eval a X.env)]) Ar._auto_1):PI2 X tg (.Call (.Name "range" p) [a] [] pos) (iRng1 ta):=by
 intro E pins s σ H τ G R hE I h
 have hA:PA2 X [a] (dCons ta dNil):=pa2_cons ha pa2_nil hs
 refine Call_ (ld_blt I.inv hg hm boot_range (PyProof.Rows.callWith_type1 (thnA hA pos hE I (R:=fun ds G1=>match ds with | [.int n]=>-(2 ^ 62)<=n/\n < 2 ^ 62/\R (rangeD 0 n.toNat) (fun _=>True) G1 | _=>False) ?_ fun vs H1 ds G1 us s1 I1 m1 r1 rd1 q1=>?_) hs rfl))
 ·show ta E τ G _
  have e:(fun (x:D) (G1:Gp)=>match [x] with | [.int n]=>-(2 ^ 62)<=n/\n < 2 ^ 62/\R (rangeD 0 n.toNat) (fun _=>True) G1 | _=>False)=fun x G1=>match x with | .int n=>-(2 ^ 62)<=n/\n < 2 ^ 62/\R (rangeD 0 n.toNat) (fun _=>True) G1 | _=>False:=by
   funext x G1; cases x <;> rfl
  exact e ▸ h
 ·split at q1
  ·rename_i n
   obtain ⟨w,rfl,rw1⟩:=rd1.one
   cases rw1
   obtain ⟨u,rfl,ru⟩:=r1.one
   obtain ⟨t,rfl⟩:=ru
   obtain ⟨q1,q2,q⟩:=q1
   exact call_range_1 (rng_it I1.inv m1 (by lia) (by lia) q1 q2 (by simpa using q))
  ·exact q1.elim
theorem ps2_for {iter:Expr} {body:List Stmt} {wi:TI2} {g:TG2} {t:TS2} (hp:PassesOwn (model X.prog X.w) X.A X.env X.xe) (hc:X.calm=true) (hi:PI2 X tg iter wi) (hg:PG2 X tg g) (hb:PSs2 X body t)
  (hs:autoParam (∀ x,foldedSetIterable iter X.env x=pure x) Ai._auto_1):PS2 X (.For tg iter body [] pos) (dFor wi g t):=by
 intro E pins s σ H τ G D hE I h
 refine wpAny_For (thn (hi E pins s σ H τ G _ hE I h) fun v s1 h1=>thn h1 fun itv s2 h2=>?_) hs
 obtain ⟨it,fp,tn,J,H2,G2,ds,ok,e,I2',m2,T,st2,f2,wk,q⟩:=h2
 subst e
 have stat:∀ {H':Hp},(∀ b∈fp,H' b=none)->∀ b∈fp,FpOk X pins H' b:=fun hn b hb=>⟨hn b hb,(f2 b hb).2⟩
 refine codeAny_forLoop_any (fun n s'=>∃ i σ' H' τ' G',I2 X pins σ' H' τ' G' s'/\Mv X.K H G H' G'/\Kp H2 H'/\tn i s'.heap/\(∀ b∈fp,H' b=none)/\n=ds.length - i/\i<=ds.length/\forGo g t ok (ds.drop i) E D τ' G') ?_ ds.length
  ⟨0,σ,H2,τ,G2,I.mv I2' m2,m2,.refl _,st2,fun b hb=>(f2 b hb).1,rfl,Nat.zero_le _,q⟩
 rintro n s3 ⟨i,σ3,H3,τ3,G3,I3,m3,k3,st3,fr3,rfl,hle,w3⟩
 by_cases hlt:i < ds.length
 ·rw [List.drop_eq_getElem_cons hlt] at w3
  obtain ⟨ok3,w3⟩:=w3
  obtain ⟨go,yl⟩:=(wk i H3 G3 k3 I3.ab ok3).1 ds[i] (by simp [hlt])
  refine wpAny_passesOwn hp (thn (T.item X rfl rfl rfl hc i pins s3 σ3 H3 X.xe I3.inv (stat fr3) st3 go) ?_)
  rintro r s4 ⟨u,hr,h4⟩
  subst hr
  refine wpAny_passesOwn hp (thn h4 ?_)
  rintro _ s5 ⟨x,H5,I5,r5,y5,st5,fr5⟩
  obtain ⟨rd5,m5⟩:=yl x H5 y5
  have I5':=I5.pinned (stat fr5) (T.obj _ _ st5)
  have J5:I2 X (pins++pinsAt fp s5.heap) σ3 H5 τ3 G3 s5:=⟨I5',I3.st.mono (m5.kp I3.ab),m5.ab⟩
  refine wpAny_passesOwn hp (thn (hg E _ s5 σ3 H5 τ3 G3 x ds[i] u _ hE J5 r5 rd5 w3) ?_)
  rintro _ s6 ⟨σ6,H6,τ6,G6,I6,m6,q6⟩
  refine wpAny_passesOwn hp (thn (hb E _ s6 σ6 H6 τ6 G6 _ hE I6 q6) fun f s7 q7=>?_)
  have again:∀ {σ7:L2.St} {H7:Hp} {τ7:St2} {G7:Gp},I2 X (pins++pinsAt fp s5.heap) σ7 H7 τ7 G7 s7->Mv X.K H6 G6 H7 G7->forGo g t ok (ds.drop (i+1)) E D τ7 G7 ->
    ∃ m,m < ds.length - i/\∃ i σ' H' τ' G',I2 X pins σ' H' τ' G' s7/\Mv X.K H G H' G'/\Kp H2 H'/\tn i s7.heap/\(∀ b∈fp,H' b=none)/\m=ds.length - i/\i<=ds.length/\forGo g t ok (ds.drop i) E D τ' G':=fun {σ7 H7 τ7 G7} I7 m7 n7=>by
   have mm:=m5.trans (m6.trans m7)
   refine ⟨ds.length - (i+1),by lia,i+1,σ7,H7,τ7,G7,⟨I7.inv.unpinned,I7.st,I7.ab⟩,m3.trans mm,k3.trans (mm.kp I3.ab),T.keep _ _ _ st5 fun b hb o e=>(I7.inv.pin (b,o) (List.mem_append_right _ (List.mem_append_right _ (mem_pinsAt hb e)))).1,fun b hb=>?_,rfl,hlt,n7⟩
   obtain ⟨o,e,d⟩:=T.obj _ _ st5 b hb
   exact (I7.inv.pin (b,o) (List.mem_append_right _ (List.mem_append_right _ (mem_pinsAt hb e)))).2.1
  cases f with
  | next=>obtain ⟨σ7,H7,τ7,G7,I7,m7,n7⟩:=q7; exact again I7 m7 n7
  | cont=>obtain ⟨σ7,H7,τ7,G7,I7,m7,n7⟩:=q7; exact again I7 m7 n7
  | brk=>obtain ⟨σ7,H7,τ7,G7,I7,m7,q7⟩:=q7; exact ⟨σ7,H7,τ7,G7,⟨I7.inv.unpinned,I7.st,I7.ab⟩,m3.trans (m5.trans (m6.trans m7)),q7⟩
  | ret v=>obtain ⟨x7,σ7,H7,d7,G7,I7,m7,r7,rd7,q7⟩:=q7; exact ⟨x7,σ7,H7,d7,G7,I7.unpinned,m3.trans (m5.trans (m6.trans m7)),r7,rd7,q7⟩
 ·have hn:ds.length<=i:=by lia
  rw [List.drop_eq_nil_of_le hn] at w3
  obtain ⟨ok3,qn⟩:=w3
  have stop:=(wk i H3 G3 k3 I3.ab ok3).2 hn
  refine wpAny_passesOwn hp (thn (T.done X rfl rfl rfl hc i pins s3 σ3 H3 X.xe I3.inv (stat fr3) st3 stop) ?_)
  rintro r s4 ⟨hr,I4⟩
  subst hr
  exact wpAny_execs_nil ⟨σ3,H3,τ3,G3,⟨I4,I3.st,I3.ab⟩,m3,qn⟩
end
end K2
end
section
namespace K2
open PySem PySem.Spec PyProof.Rows L2
theorem sIx_eq (n d:Nat) (o:Option Int):HT.sIx n d o=sIx n d o:=by cases o <;> rfl
theorem RepDs.cut {K:PySem.W.Frag} {H:Hp} {vs:List V} {ds:List D} (r:RepDs K H vs ds) (lo hi:Option Int):RepDs K H (cutV vs lo hi) (K2.cut ds lo hi):=by
 unfold cutV K2.cut
 rw [sIx_eq,sIx_eq,r.length]
 exact (r.drop _).take _
theorem RepDs.atI {K:PySem.W.Frag} {H:Hp} {vs:List V} {ds:List D} {i:Int} {d:D} (r:RepDs K H vs ds) (h:K2.atI ds i=some d):∃ v,L2.atI vs i=some v/\RepD K H v d:=by
 unfold K2.atI at h
 cases e:K2.ixN ds.length i with
 | none=>rw [e] at h; cases h
 | some j =>
  rw [e] at h
  obtain ⟨v,h1,h2⟩:=r.get (show ds[j]?=some d from h)
  refine ⟨v,?_,h2⟩
  show (L2.ixN vs.length i).bind _=_
  have e':L2.ixN vs.length i=some j:=by rw [r.length]; exact e
  rw [e']
  exact h1
section
variable {X:Cx} {a b c e:Expr} {ta tb tc te:TE2} {pos p2:Pos}
theorem addL_lists {pins:List (Addr×Obj)} {s:Shared} {σ:L2.St} {H:Hp} {G:Gp} {x:V} {d:D} {v:Value} {zs:List D} (I:Inv X pins σ H s) (ab:AbH X.K H G) (rx:RelV x v) (rd:RepD X.K H x d) (hi:lstOf d G=some zs) :
  ∃ l vs its,v=.ref l/\Vals vs its/\RepDs X.K H vs zs/\s.heap.IsList l its.toArray/\vs.length<=sizeLine:=by
 cases rd with
 | rol hq rs =>
  cases hi
  cases rx
  obtain ⟨its,rv,pl,hz⟩:=I.list hq.sq
  exact ⟨_,_,its,rfl,rv,rs,pl.isList,hz⟩
 | ref l =>
  unfold lstOf at hi
  dsimp only at hi
  cases hg:G l with
  | none=>rw [hg] at hi; cases hi
  | some gg =>
   rw [hg] at hi
   cases gg with
   | lst ds =>
    cases hi
    cases rx
    obtain ⟨vs,hv,rs⟩:=ab.lst hg
    obtain ⟨its,rv,pl,hz⟩:=I.list (.of hv)
    exact ⟨_,_,its,rfl,rv,rs,pl.isList,hz⟩
   | dic _=>cases hi
 | _=>cases hi
theorem news_kept {pins:List (Addr×Obj)} {s:Shared} {σ:L2.St} {H:Hp} (I:Inv X pins σ H s) {m:Str->Option Value} (F0:Fr X.base X.env.locals s.heap m) {h':Heap} (F:Fr X.base X.env.locals h' m) (N:News X.base X.env.locals h' (allNews X.base s.heap X.env.locals)) :
  (∀ b o,b≠X.env.locals->s.heap.get? b=some o->h'.get? b=some o)/\∀ m',s.heap.Ns X.env.locals m'->h'.Ns X.env.locals m':=by
 refine ⟨fun b o hb e=>?_,fun m' hm=>?_⟩
 ·cases q:X.base.get? b with
  | some u =>
   have:=I.bk b u q
   rw [e] at this; cases this
   exact F.keep b _ q
  | none=>exact (N (b,o) (mem_allNews hb q e)).1
 ·have e1:=hm.eq_nsMap
  have e2:=F0.ns.eq_nsMap
  rw [e1,← e2]; exact F.ns
theorem obj_there {P:Program} {w:World} {H:Hp} {h:Heap} {a:Addr}:∀ {o:HO},ObjOk P w H h a o->∃ ob,h.get? a=some ob:=by
 intro o x
 cases o with
 | lst _=>obtain ⟨_,_,_,_,e⟩:=x; exact ⟨_,e⟩
 | tup _=>obtain ⟨_,_,_,ob,e,_⟩:=x; exact ⟨ob,e⟩
 | dK _=>obtain ⟨_,_,_,_,ob,_,_,e,_⟩:=x; exact ⟨ob,e⟩
 | dT _=>obtain ⟨_,_,_,_,ob,_,_,e,_⟩:=x; exact ⟨ob,e⟩
 | set _ _=>obtain ⟨ob,_,_,_,e,_⟩:=x; exact ⟨ob,e⟩
 | ins _ _ _=>obtain ⟨_,_,_,e,_⟩:=x; exact ⟨_,e⟩
 | own _=>exact x
 | xd _=>obtain ⟨_,⟨ob,_,_,e,_⟩,_⟩:=x; exact ⟨ob,e⟩
 | met _ _=>exact ⟨_,x⟩
 | rng _ _=>obtain ⟨_,_,_,e⟩:=x; exact ⟨_,e⟩
 | frz _ _=>exact ⟨_,x.1⟩
 | tbl _=>exact ⟨_,x⟩
 | ext _=>exact x.2.1
theorem free_of {P:Program} {w:World} {H:Hp} {h:Heap} {a:Addr} (ok:HOk P w H h) (e:h.get? a=none):H a=none:=by
 cases q:H a with
 | none=>rfl
 | some o =>
  obtain ⟨ob,z⟩:=obj_there (ok a o q)
  rw [e] at z; cases z
theorem Inv.laidN {pins:List (Addr×Obj)} {s:Shared} {σ:L2.St} {H:Hp} (I:Inv X pins σ H s) {h':Heap} {t':Nat} {a:Addr} {o:HO} (k:∀ b o,b≠X.env.locals->s.heap.get? b=some o->h'.get? b=some o) (ns:∀ m',s.heap.Ns X.env.locals m'->h'.Ns X.env.locals m')
  (hp:s.heap.get? a=none) (new:ObjOk X.prog X.w (upd H a o) h' a o):Inv X pins σ (upd H a o) { s with heap:=h',toks:=t' }:=by
 have hn:H a=none:=free_of I.hok hp
 have ne:∀ b u,H b=some u->b≠a:=fun b u e=>ne_of_none e hn
 have nL:∀ b u,H b=some u->b≠X.env.locals:=fun b u e=>ne_of_none e I.free
 have ht:∀ b u,s.heap.get? b=some u->b≠a:=fun b u e z=>by subst z; rw [hp] at e; cases e
 have thL:∃ o',h'.get? X.env.locals=some o':=by
  obtain ⟨m,hm,_⟩:=I.loc
  obtain ⟨o',_,_,ho,_⟩:=ns m hm
  exact ⟨o',ho⟩
 refine I.step (g':=s.gens) (d':=s.drawn) (ch:=[]) (fun b hb=>absurd hb (by simp)) (fun b o hL _ _ e _=>k b o hL e) (fun b o hL _ _ e _=>⟨o.slots,k b o hL e⟩) (fun b o _ e n=>by rw [upd_ne (ht b o e)]; exact n)
  (fun b o _ e=>?_) (fun b xs e=>by rw [upd_ne (ne _ _ e)]; exact e) (fun b o u e=>by rw [upd_ne (ne _ _ e)]; exact e) (fun b ps e=>⟨#[],by rw [upd_ne (ne _ _ e),e]; simp⟩) ns (fun b u e=>?_) I.bare
 ·by_cases hb:b=X.env.locals
  ·rw [hb]; exact thL
  ·exact ⟨o,k b o hb e⟩
 ·by_cases hb:b=a
  ·subst hb; rw [upd_same] at e; cases e; exact new
  ·rw [upd_ne hb] at e
   refine (I.hok b u e).stay (fun c v hc r=>k c v ?_ r) (fun c z=>by rw [upd_ne (ne _ _ z)]; exact z) (fun c xs z=>by rw [upd_ne (ne _ _ z)]; exact z)
   rcases hc with rfl | hc
   ·exact nL _ _ e
   ·exact nL _ _ hc
theorem op2_add:OpR2 X (binaryOp .Add) rAdd:=by
 intro pins s σ H G x y dx dy v u Q I ab rx ry dX dY q
 have lists:addL dx dy G Q->wpAny (model X.prog X.w) X.A (binaryOp .Add v u) (EP2 X pins σ H G Q) X.xe s:=by
  intro q
  unfold addL at q
  split at q
  ·rename_i xs ys e1 e2
   obtain ⟨hz,q⟩:=q
   obtain ⟨l,vs,its,rfl,rv,rs,hl,_⟩:=addL_lists I ab rx dX e1
   obtain ⟨b,ws,its2,rfl,rv2,rs2,hb,_⟩:=addL_lists I ab ry dY e2
   obtain ⟨m,F0⟩:=I.fr
   have hsz:its.length+its2.length<=sizeLine:=by rw [← rv.length,← rv2.length,rs.length,rs2.length,sizeLine_eq]; exact hz
   refine PyProof.Rows.add_lists F0 news_all hl hb (fun h' F N=>?_) hsz
   obtain ⟨kk,ns⟩:=news_kept I F0 F fun p hp=>N p (List.mem_cons_of_mem _ hp)
   have hp:H s.heap.objs.size=none:=I.hok.fresh (Nat.le_refl _)
   refine ⟨.ref s.heap.objs.size,upd H s.heap.objs.size (.lst (vs++ws)),.ref _,_,Inv.laidN (t':=s.toks) I kk ns (Heap.get?_none_of_le (Nat.le_refl _)) ?_,.newL ab hp (rs.append rs2),rfl,.ref _,q _ (ab.free hp)⟩
   exact ⟨by rw [List.length_append,rv.length,rv2.length]; exact hsz,its++its2,0,rv.append rv2,(N _ List.mem_cons_self).1⟩
  ·exact q.elim
 cases dX with
 | int i =>
  cases dY with
  | int j=>exact thn (op_add pins s σ H _ _ v u (Rch X.K H G Q) I rx ry ⟨i,j,rfl,rfl,_,_,.refl ab,.int _,q⟩) fun _ _ z=>.of z
  | _=>exact lists q
 | str i =>
  cases dY with
  | str j =>
   obtain ⟨hz,q⟩:=q
   exact thn (op_add_str pins s σ H _ _ v u (Rch X.K H G Q) I rx ry ⟨i,j,rfl,rfl,by rw [sizeLine_eq]; exact hz,_,_,.refl ab,.str _,q⟩) fun _ _ z=>.of z
  | _=>exact lists q
 | tup h1 r1 =>
  cases dY with
  | tup h2 r2 =>
   obtain ⟨hn,hz,q⟩:=q
   refine thn (op_catT pins s σ H _ _ v u (Rch X.K H G Q) I rx ry ⟨_,_,_,_,rfl,rfl,.of h1,.of h2,?_,?_,fun e=>?_,fun e p hp=>?_⟩) fun _ _ z=>.of z
   ·rintro rfl; cases r1; exact hn rfl
   ·rw [r1.length,r2.length,sizeLine_eq]; exact hz
   ·subst e
    cases r2
    rw [List.append_nil] at q
    exact ⟨_,_,.refl ab,.tup h1 r1,q⟩
   ·exact ⟨_,_,.hid ab hp,.tup upd_same ((r1.append r2).mono (.new hp)),q⟩
  | _=>exact lists q
 | ref l=>exact lists (by rw [rAdd_ref] at q; exact q)
 | rol _ _=>exact lists (by rw [rAdd_rol] at q; exact q)
 | _=>exact lists (by cases dY <;> exact q)
theorem op2_sub:OpR2 X (binaryOp .Sub) rSub:=by
 intro pins s σ H G x y dx dy v u Q I ab rx ry dX dY q
 cases dX with
 | int i =>
  cases dY with
  | int j=>exact thn (op_sub pins s σ H _ _ v u (Rch X.K H G Q) I rx ry ⟨i,j,rfl,rfl,_,_,.refl ab,.int _,q⟩) fun _ _ z=>.of z
  | _=>exact False.elim q
 | _=>exact False.elim q
theorem op2_mul:OpR2 X (binaryOp .Mult) rMul:=by
 intro pins s σ H G x y dx dy v u Q I ab rx ry dX dY q
 cases dX with
 | int i =>
  cases dY with
  | int j=>exact thn (op_mul pins s σ H _ _ v u (Rch X.K H G Q) I rx ry ⟨i,j,rfl,rfl,q.1,_,_,.refl ab,.int _,q.2⟩) fun _ _ z=>.of z
  | _=>exact False.elim q
 | _=>exact False.elim q
theorem op2_mod:OpR2 X (binaryOp .Mod) rMod:=by
 intro pins s σ H G x y dx dy v u Q I ab rx ry dX dY q
 cases dX with
 | int i =>
  cases dY with
  | int j=>exact thn (op_mod pins s σ H _ _ v u (Rch X.K H G Q) I rx ry ⟨i,j,rfl,rfl,q.1,_,_,.refl ab,.int _,q.2⟩) fun _ _ z=>.of z
  | _=>exact False.elim q
 | _=>exact False.elim q
theorem op2_fdiv:OpR2 X (binaryOp .FloorDiv) rFdiv:=by
 intro pins s σ H G x y dx dy v u Q I ab rx ry dX dY q
 cases dX with
 | int i =>
  cases dY with
  | int j=>exact thn (op_fdiv pins s σ H _ _ v u (Rch X.K H G Q) I rx ry ⟨i,j,rfl,rfl,⟨q.1,q.2.1⟩,_,_,.refl ab,.int _,q.2.2⟩) fun _ _ z=>.of z
  | _=>exact False.elim q
 | _=>exact False.elim q
theorem op2_lt (hu:X.A.units < cLine):OpR2 X (compareOp .Lt) rLt:=by
 intro pins s σ H G x y dx dy v u Q I ab rx ry dX dY q
 cases dX with
 | int i =>
  cases dY with
  | int j=>exact thn (op_lt pins s σ H _ _ v u (Rch X.K H G Q) I rx ry ⟨i,j,rfl,rfl,_,_,.refl ab,.bl _,q⟩) fun _ _ z=>.of z
  | _=>exact False.elim q
 | tup h1 r1 =>
  cases dY with
  | tup h2 r2 =>
   obtain ⟨xs,ys,e1,e2,q⟩:=q
   subst e1 e2
   have z1:=r1.ints
   have z2:=r2.ints
   subst z1 z2
   have el:∀ xs ys:List Int,HT.lexLt xs ys=K2.lexLt xs ys:=by
    intro xs
    induction xs with
    | nil=>intro ys; cases ys <;> rfl
    | cons x xs ih=>intro ys; cases ys with
     | nil=>rfl
     | cons y ys=>unfold HT.lexLt K2.lexLt; rw [ih]
   exact thn (op_ltT hu pins s σ H _ _ v u (Rch X.K H G Q) I rx ry ⟨_,_,xs,ys,rfl,rfl,.of h1,.of h2,_,_,.refl ab,.bl _,by rw [el]; exact q⟩) fun _ _ z=>.of z
  | _=>exact False.elim q
 | _=>exact False.elim q
mutual
noncomputable def pd:D->PyData
 | .non=>.none
 | .bl b=>.bool b
 | .int i=>.int i
 | .str x=>.str x
 | .tup ds=>.tuple (pds ds)
 | .rol ds=>.list (pds ds)
 | .rod _=>.none
 | .exc _=>.none
 | .ref _=>.none
noncomputable def pds:List D->List PyData
 | []=>[]
 | d :: r=>pd d :: pds r
end
mutual
theorem eqv_pd:∀ (s t:D),nr s=true->nr t=true->PyData.eqv (pd s) (pd t)=eqD s t
 | .non,t,_,ht=>by cases t <;> first | rfl | (exact Bool.noConfusion (show false=true from ht))
 | .bl a,t,_,ht=>by cases t <;> first | rfl | (exact Bool.noConfusion (show false=true from ht))
 | .int a,t,_,ht=>by cases t <;> first | rfl | (exact Bool.noConfusion (show false=true from ht))
 | .str a,t,_,ht=>by cases t <;> first | rfl | (exact Bool.noConfusion (show false=true from ht))
 | .tup a,t,hs,ht=>by
  cases t with
  | tup b=>exact eqv_pds a b hs ht
  | ref _=>exact Bool.noConfusion (show false=true from ht)
  | exc _=>exact Bool.noConfusion (show false=true from ht)
  | rod _=>exact Bool.noConfusion (show false=true from ht)
  | _=>rfl
 | .rol a,t,hs,ht=>by
  cases t with
  | rol b=>exact eqv_pds a b hs ht
  | ref _=>exact Bool.noConfusion (show false=true from ht)
  | exc _=>exact Bool.noConfusion (show false=true from ht)
  | rod _=>exact Bool.noConfusion (show false=true from ht)
  | _=>rfl
 | .ref _,_,hs,_=>Bool.noConfusion (show false=true from hs)
 | .exc _,_,hs,_=>Bool.noConfusion (show false=true from hs)
 | .rod _,_,hs,_=>Bool.noConfusion (show false=true from hs)
theorem eqv_pds:∀ (s t:List D),nrs s=true->nrs t=true->PyData.eqvAll (pds s) (pds t)=eqDs s t
 | [],[],_,_=>rfl
 | [],_ :: _,_,_=>rfl
 | _ :: _,[],_,_=>rfl
 | a :: r,b :: t,hs,ht=>by
  have hs':nr a=true/\nrs r=true:=(Bool.and_eq_true_iff).mp hs
  have ht':nr b=true/\nrs t=true:=(Bool.and_eq_true_iff).mp ht
  show (PyData.eqv (pd a) (pd b)&&PyData.eqvAll (pds r) (pds t))=(eqD a b&&eqDs r t)
  rw [eqv_pd a b hs'.1 ht'.1,eqv_pds r t hs'.2 ht'.2]
end
mutual
theorem lay_pd:∀ (s:D),nr s=true->(pd s).canLay0=true
 | .non,_=>rfl
 | .bl a,_=>rfl
 | .int a,_=>rfl
 | .str a,h=>h
 | .tup a,h=>lay_pds a h
 | .rol a,h=>lay_pds a h
 | .exc _,_=>rfl
 | .ref _,_=>rfl
 | .rod _,_=>rfl
theorem lay_pds:∀ (s:List D),nrs s=true->PyData.canLayAll0 (pds s)=true
 | [],_=>rfl
 | a :: r,h=>by
  have h':nr a=true/\nrs r=true:=(Bool.and_eq_true_iff).mp h
  show ((pd a).canLay0&&PyData.canLayAll0 (pds r))=true
  rw [lay_pd a h'.1,lay_pds r h'.2]; rfl
end
theorem dep_pd {G:Gp} {n:Nat} {d t:D} (h:Sn G n d t):(pd t).depth<=n:=by
 induction h with
 | non=>exact Nat.zero_le _
 | bl b=>exact Nat.zero_le _
 | int i=>exact Nat.zero_le _
 | str x h=>exact Nat.zero_le _
 | tnil=>exact Nat.succ_le_succ (Nat.zero_le _)
 | tcons _ _ ih1 ih2 =>
  exact Nat.succ_le_succ (Nat.max_le.mpr ⟨ih1,Nat.le_of_succ_le_succ ih2⟩)
 | rnil=>exact Nat.succ_le_succ (Nat.zero_le _)
 | rcons _ _ ih1 ih2 =>
  exact Nat.succ_le_succ (Nat.max_le.mpr ⟨ih1,Nat.le_of_succ_le_succ ih2⟩)
 | ref _ _ ih=>exact ih
theorem rep_reads {pins:List (Addr×Obj)} {σ:L2.St} {H:Hp} {s:Shared} {G:Gp} (I:Inv X pins σ H s) (ab:AbH X.K H G) {n:Nat} {d t:D} (h:Sn G n d t) :
  (∀ v u,RepD X.K H v d->RelV v u->∃ as,Reads s.heap u (pd t) as) /\
  (∀ ds ss,(d=.rol ds/\t=.rol ss)\/(d=.tup ds/\t=.tup ss)->∀ vs us,RepDs X.K H vs ds->Vals vs us->∃ as,ReadsAll s.heap us (pds ss) as):=by
 have tupOf:∀ {ds ss:List D},(∀ vs us,RepDs X.K H vs ds->Vals vs us->∃ as,ReadsAll s.heap us (pds ss) as)->∀ v u,RepD X.K H v (.tup ds)->RelV v u->∃ as,Reads s.heap u (pd (.tup ss)) as:=by
  intro ds ss k v u r ru
  cases r with
  | tup hq rs =>
   cases ru
   obtain ⟨its,rv,⟨o,ho,hc,n,hd⟩,hz⟩:=I.tuple (.of hq)
   obtain ⟨as,ra⟩:=k _ its rs rv
   exact ⟨as,.tuple ho hc hd (by simpa using ra)⟩
 have rolOf:∀ {ds ss:List D},(∀ vs us,RepDs X.K H vs ds->Vals vs us->∃ as,ReadsAll s.heap us (pds ss) as)->∀ v u,RepD X.K H v (.rol ds)->RelV v u->∃ as,Reads s.heap u (pd (.rol ss)) as:=by
  intro ds ss k v u r ru
  cases r with
  | rol hq rs =>
   cases ru
   obtain ⟨its,rv,pl,hz⟩:=I.list hq.sq
   obtain ⟨o,ho,hc,n,hd⟩:=pl.isList
   obtain ⟨as,ra⟩:=k _ its rs rv
   exact ⟨_,.list ho hc hd (by simpa using ra)⟩
 induction h with
 | non=>exact ⟨fun v u r ru=>by cases r; cases ru; exact ⟨_,.none⟩,fun ds ss e=>by rcases e with ⟨e,_⟩ | ⟨e,_⟩ <;> cases e⟩
 | bl b=>exact ⟨fun v u r ru=>by cases r; cases ru; exact ⟨_,.bool b⟩,fun ds ss e=>by rcases e with ⟨e,_⟩ | ⟨e,_⟩ <;> cases e⟩
 | int i=>exact ⟨fun v u r ru=>by cases r; obtain ⟨t,rfl⟩:=ru; exact ⟨_,.int i t⟩,fun ds ss e=>by rcases e with ⟨e,_⟩ | ⟨e,_⟩ <;> cases e⟩
 | str x hx=>exact ⟨fun v u r ru=>by cases r; obtain ⟨t,rfl⟩:=ru; exact ⟨_,.str x t⟩,fun ds ss e=>by rcases e with ⟨e,_⟩ | ⟨e,_⟩ <;> cases e⟩
 | tnil =>
  have k:∀ vs us,RepDs X.K H vs []->Vals vs us->∃ as,ReadsAll s.heap us (pds []) as:=fun vs us r ru=>by
   have e:=r.zero
   subst e
   cases ru
   exact ⟨_,.nil⟩
  refine ⟨tupOf k,fun ds ss e=>?_⟩
  rcases e with ⟨e,_⟩ | ⟨e,e2⟩
  ·cases e
  ·cases e; cases e2; exact k
 | tcons h1 h2 ih1 ih2 =>
  have k2:=ih2.2 _ _ (.inr ⟨rfl,rfl⟩)
  have k:∀ vs us,RepDs X.K H vs (_ :: _)->Vals vs us->∃ as,ReadsAll s.heap us (pds (_ :: _)) as:=fun vs us r ru=>by
   cases r with
   | cons r1 r2 =>
    cases ru with
    | cons u1 u2 =>
     obtain ⟨as,ra⟩:=ih1.1 _ _ r1 u1
     obtain ⟨bs,rb⟩:=k2 _ _ r2 u2
     exact ⟨_,.cons ra rb⟩
  refine ⟨tupOf k,fun ds ss e=>?_⟩
  rcases e with ⟨e,_⟩ | ⟨e,e2⟩
  ·cases e
  ·cases e; cases e2; exact k
 | rnil =>
  have k:∀ vs us,RepDs X.K H vs []->Vals vs us->∃ as,ReadsAll s.heap us (pds []) as:=fun vs us r ru=>by
   have e:=r.zero
   subst e
   cases ru
   exact ⟨_,.nil⟩
  refine ⟨rolOf k,fun ds ss e=>?_⟩
  rcases e with ⟨e,e2⟩ | ⟨e,_⟩
  ·cases e; cases e2; exact k
  ·cases e
 | rcons h1 h2 ih1 ih2 =>
  have k2:=ih2.2 _ _ (.inl ⟨rfl,rfl⟩)
  have k:∀ vs us,RepDs X.K H vs (_ :: _)->Vals vs us->∃ as,ReadsAll s.heap us (pds (_ :: _)) as:=fun vs us r ru=>by
   cases r with
   | cons r1 r2 =>
    cases ru with
    | cons u1 u2 =>
     obtain ⟨as,ra⟩:=ih1.1 _ _ r1 u1
     obtain ⟨bs,rb⟩:=k2 _ _ r2 u2
     exact ⟨_,.cons ra rb⟩
  refine ⟨rolOf k,fun ds ss e=>?_⟩
  rcases e with ⟨e,e2⟩ | ⟨e,_⟩
  ·cases e; cases e2; exact k
  ·cases e
 | ref hg h1 ih =>
  refine ⟨fun v u r ru=>?_,fun ds ss e=>by rcases e with ⟨e,_⟩ | ⟨e,_⟩ <;> cases e⟩
  cases r
  cases ru
  obtain ⟨vs,hv,rs⟩:=ab.lst hg
  obtain ⟨its,rv,pl,hz⟩:=I.list (.of hv)
  obtain ⟨o,ho,hc,n,hd⟩:=pl.isList
  obtain ⟨as,ra⟩:=ih.2 _ _ (.inl ⟨rfl,rfl⟩) vs its rs rv
  exact ⟨_,.list ho hc hd (by simpa using ra)⟩
theorem op2_eq (hu:X.A.units+64 < cLine):OpR2 X (compareOp .Eq) (rEq false):=by
 intro pins s σ H G x y dx dy v u Q I ab rx ry dX dY q
 obtain ⟨a,b,sa,sb,q⟩:=q
 obtain ⟨as,ra⟩:=(rep_reads I ab sa).1 x v dX rx
 obtain ⟨bs,rb⟩:=(rep_reads I ab sb).1 y u dY ry
 have d1:=dep_pd sa
 refine SeqAt.compareEq_reads ra rb (lay_pd _ sa.nr) (lay_pd _ sb.nr) (by unfold SN at d1; lia) ?_
 rw [eqv_pd _ _ sa.nr sb.nr]
 exact ⟨.bl _,H,.bl _,G,I,.refl ab,rfl,.bl _,q⟩
theorem op2_ne (hu:X.A.units+64 < cLine):OpR2 X (compareOp .NotEq) (rEq true):=by
 intro pins s σ H G x y dx dy v u Q I ab rx ry dX dY q
 obtain ⟨a,b,sa,sb,q⟩:=q
 obtain ⟨as,ra⟩:=(rep_reads I ab sa).1 x v dX rx
 obtain ⟨bs,rb⟩:=(rep_reads I ab sb).1 y u dY ry
 have d1:=dep_pd sa
 refine SeqAt.compareNe_reads ra rb (lay_pd _ sa.nr) (lay_pd _ sb.nr) (by unfold SN at d1; lia) ?_
 rw [eqv_pd _ _ sa.nr sb.nr]
 exact ⟨.bl _,H,.bl _,G,I,.refl ab,rfl,.bl _,q⟩
end
end K2
end
section
namespace K2
open PySem PySem.Spec PyProof.Rows L2
theorem eqD_key (j k:Key):eqD (keyD j) (keyD k)=decide (j=k):=by
 cases j with
 | inl a=>cases k with
  | inl b=>rw [key_ll]; rfl
  | inr b=>exact (decide_eq_false (fun z=>nomatch z)).symm
 | inr a=>cases k with
  | inl b=>exact (decide_eq_false (fun z=>nomatch z)).symm
  | inr b=>rw [key_rr]; exact (Bool.beq_eq_decide_eq a b)
theorem eqDs_keys:∀ (js ks:List Key),eqDs (js.map keyD) (ks.map keyD)=decide (js=ks)
 | [],[]=>(decide_eq_true rfl).symm
 | [],_ :: _=>(decide_eq_false (fun z=>nomatch z)).symm
 | _ :: _,[]=>(decide_eq_false (fun z=>nomatch z)).symm
 | j :: js,k :: ks=>by
  show (eqD (keyD j) (keyD k)&&eqDs (js.map keyD) (ks.map keyD))=_
  rw [eqD_key,eqDs_keys js ks,dec_cons]
theorem eqD_keyT (js ks:List Key):eqD (.tup (js.map keyD)) (.tup (ks.map keyD))=decide (js=ks):=by
 exact eqDs_keys js ks
section
variable {K:PySem.W.Frag} {H:Hp}
theorem key1_of {d:D} (h:keyOk1 d=true):∃ k:Key,d=keyD k:=by
 cases d with
 | int i=>exact ⟨.inl i,rfl⟩
 | str x=>exact ⟨.inr x,rfl⟩
 | _=>exact absurd h (by simp [keyOk1])
theorem keys_of:∀ {ds:List D},ds.all keyOk1=true->∃ ks:List Key,ds=ks.map keyD
 | [],_=>⟨[],rfl⟩
 | d :: r,h=>by
  rw [List.all_cons,Bool.and_eq_true] at h
  obtain ⟨k,rfl⟩:=key1_of h.1
  obtain ⟨ks,rfl⟩:=keys_of h.2
  exact ⟨k :: ks,rfl⟩
theorem keyT_of {d:D} (h:keyOkT d=true):∃ ks:List Key,d=.tup (ks.map keyD):=by
 cases d with
 | tup ds=>obtain ⟨ks,rfl⟩:=keys_of (ds:=ds) h; exact ⟨ks,rfl⟩
 | _=>exact absurd h (by simp [keyOkT])
theorem rep_key {v:V} {k:Key} (r:RepD K H v (keyD k)):v=kV k:=by
 cases k with
 | inl i=>cases r; rfl
 | inr x=>cases r; rfl
theorem reps_key:∀ {vs:List V} {ks:List Key},RepDs K H vs (ks.map keyD)->vs=ks.map kV
 | _,[],r=>r.zero
 | _,k :: ks,r=>by
  rw [List.map_cons] at r
  cases r with
  | cons r1 r2=>rw [rep_key r1,reps_key r2]; rfl
theorem rep_keyT {v:V} {ks:List Key} (r:RepD K H v (.tup (ks.map keyD))):∃ b,v=.ref b/\H b=some (.tup (ks.map kV)):=by
 cases r with
 | tup h rs=>have e:=reps_key rs; subst e; exact ⟨_,rfl,h⟩
theorem DKs.look {kv:List (Key×V)} {kvs:List (D×D)} (r:DKs K H kv kvs) (k:Key):(∃ v d,valV kv k=some v/\K2.look kvs (keyD k)=some d/\RepD K H v d)\/(valV kv k=none/\K2.look kvs (keyD k)=none):=by
 induction r using DKs.ind with
 | nil=>exact .inr ⟨rfl,rfl⟩
 | @cons j v d r t rd rs ih =>
  by_cases e:j=k
  ·left
   refine ⟨v,d,valV_pos (p:=(j,v)) e,?_,rd⟩
   unfold K2.look
   rw [List.find?_cons_of_pos (by show eqD (keyD j) (keyD k)=true; rw [eqD_key]; exact decide_eq_true e)]; rfl
  ·have e1:valV ((j,v) :: r) k=valV r k:=valV_neg (p:=(j,v)) e
   have e2:K2.look ((keyD j,d) :: t) (keyD k)=K2.look t (keyD k):=by
    unfold K2.look
    rw [List.find?_cons_of_neg (by show ¬ eqD (keyD j) (keyD k)=true; rw [eqD_key]; simpa using e)]
   rw [e1,e2]
   exact ih
theorem DTs.look {kv:List (List Key×V)} {kvs:List (D×D)} (r:DTs K H kv kvs) (k:List Key):(∃ v d,valV kv k=some v/\K2.look kvs (.tup (k.map keyD))=some d/\RepD K H v d)\/(valV kv k=none/\K2.look kvs (.tup (k.map keyD))=none):=by
 induction r using DTs.ind with
 | nil=>exact .inr ⟨rfl,rfl⟩
 | @cons j v d r t rd rs ih =>
  by_cases e:j=k
  ·left
   refine ⟨v,d,valV_pos (p:=(j,v)) e,?_,rd⟩
   unfold K2.look
   rw [List.find?_cons_of_pos (by show eqD (.tup (j.map keyD)) (.tup (k.map keyD))=true; rw [eqD_keyT]; exact decide_eq_true e)]; rfl
  ·have e1:valV ((j,v) :: r) k=valV r k:=valV_neg (p:=(j,v)) e
   have e2:K2.look ((.tup (j.map keyD),d) :: t) (.tup (k.map keyD))=K2.look t (.tup (k.map keyD)):=by
    unfold K2.look
    rw [List.find?_cons_of_neg (by show ¬ eqD (.tup (j.map keyD)) (.tup (k.map keyD))=true; rw [eqD_keyT]; simpa using e)]
   rw [e1,e2]
   exact ih
theorem DKs.any {kv:List (Key×V)} {kvs:List (D×D)} (r:DKs K H kv kvs) (k:Key):(kv.any fun p=>decide (p.1=k))=kvs.any fun p=>eqD p.1 (keyD k):=by
 induction r using DKs.ind with
 | nil=>rfl
 | @cons j v d r t rd rs ih=>simp only [List.any_cons]; rw [ih,eqD_key]
theorem DTs.any {kv:List (List Key×V)} {kvs:List (D×D)} (r:DTs K H kv kvs) (k:List Key):(kv.any fun p=>decide (p.1=k))=kvs.any fun p=>eqD p.1 (.tup (k.map keyD)):=by
 induction r using DTs.ind with
 | nil=>rfl
 | @cons j v d r t rd rs ih=>simp only [List.any_cons]; rw [ih,eqD_keyT]
theorem DKs.put {kv:List (Key×V)} {kvs:List (D×D)} (r:DKs K H kv kvs) (k:Key) {v:V} {d:D} (rd:RepD K H v d):DKs K H (putK kv k v) (K2.put kvs (keyD k) d):=by
 unfold putK K2.put
 rw [r.any k]
 by_cases h:(kvs.any fun p=>eqD p.1 (keyD k))=true
 ·rw [if_pos h,if_pos h]
  clear h
  induction r using DKs.ind with
  | nil=>exact .nil
  | @cons j w e r t re rs ih =>
   simp only [List.map_cons]
   rw [eqD_key]
   by_cases e:j=k
   ·simp only [e,if_true,decide_true]; exact .cons rd ih
   ·simp only [e,if_false,decide_false,Bool.false_eq_true]; exact .cons re ih
 ·rw [if_neg h,if_neg h]
  clear h
  induction r using DKs.ind with
  | nil=>exact .cons rd .nil
  | cons re rs ih=>exact .cons re ih
theorem DTs.put {kv:List (List Key×V)} {kvs:List (D×D)} (r:DTs K H kv kvs) (k:List Key) {v:V} {d:D} (rd:RepD K H v d):DTs K H (putK kv k v) (K2.put kvs (.tup (k.map keyD)) d):=by
 unfold putK K2.put
 rw [r.any k]
 by_cases h:(kvs.any fun p=>eqD p.1 (.tup (k.map keyD)))=true
 ·rw [if_pos h,if_pos h]
  clear h
  induction r using DTs.ind with
  | nil=>exact .nil
  | @cons j w e r t re rs ih =>
   simp only [List.map_cons]
   rw [eqD_keyT]
   by_cases e:j=k
   ·simp only [e,if_true,decide_true]; exact .cons rd ih
   ·simp only [e,if_false,decide_false,Bool.false_eq_true]; exact .cons re ih
 ·rw [if_neg h,if_neg h]
  clear h
  induction r using DTs.ind with
  | nil=>exact .cons rd .nil
  | cons re rs ih=>exact .cons re ih
end
theorem Kp.putD {H:Hp} {p:Addr} {o o':HO} (hp:H p=some o) (h:(∃ k,o=.dK k)\/∃ k,o=.dT k):Kp H (upd H p o') :=
 ⟨fun a ys e=>by rw [upd_ne (by rintro rfl; rw [hp] at e; rcases h with ⟨_,rfl⟩ | ⟨_,rfl⟩ <;> cases e)]; exact e,fun a ob u e=>by rw [upd_ne (by rintro rfl; rw [hp] at e; rcases h with ⟨_,rfl⟩ | ⟨_,rfl⟩ <;> cases e)]; exact e⟩
section
variable {X:Cx} {pins:List (Addr×Obj)} {σ:L2.St} {H:Hp} {s:Shared} {G:Gp} {a:Addr} {kvs:List (D×D)} {k:D} {y:V}
theorem toT (I:Inv X pins σ H s) (e:H a=some (.dK [])):Inv X pins σ (upd H a (.dT [])) s:=by
 obtain ⟨z,hd,vs,rel,dd⟩:=dk_of I.hok e
 have hv:vs=[]:=by cases rel; rfl
 subst hv
 obtain ⟨o,es,ep,ho,hx,hd',hko,hl,nd⟩:=dd
 have he:es=#[]:=by
  cases hq:es.toList with
  | nil=>simpa using hq
  | cons _ _=>rw [hq] at hl; cases hl
 subst he
 exact I.write (h':=s.heap) (t':=s.toks) (x:=a) (e:=a) (by rw [e]; exact True.intro) (.inl rfl) (fun b u _ q=>q) ⟨o,ho⟩ ⟨Nat.zero_le _,hd,[],.nil,o,#[],ep,ho,hx,hd',rfl,List.nodup_nil⟩
theorem toK (I:Inv X pins σ H s) (e:H a=some (.dT [])):Inv X pins σ (upd H a (.dK [])) s:=by
 obtain ⟨z,hd,xs,rel,o,es,ep,ho,hx,hd',hl,nd⟩:=I.hok a _ e
 have hv:xs=[]:=by cases rel; rfl
 subst hv
 have he:es=#[]:=by simpa using hl
 subst he
 exact I.write (h':=s.heap) (t':=s.toks) (x:=a) (e:=a) (by rw [e]; exact True.intro) (.inl rfl) (fun b u _ q=>q) ⟨o,ho⟩ ⟨Nat.zero_le _,hd,[],.nil,o,#[],ep,ho,hx,hd',(fun _ h=>by simp at h),.nil,List.nodup_nil⟩
theorem mv_same {o : HO} (ab : AbH X.K H G) (hg : G a = some (.dic kvs)) (k : Kp H (upd H a o)) (ho : AbO X.K (upd H a o) a (.dic kvs)) : Mv X.K H G (upd H a o) G := by
  have m := Mv.put ab hg k ho
  have e : updG G a (.dic kvs) = G := by funext b; unfold updG; split
                                         · rename_i z; rw [z, hg]
                                         · rfl
  rw [e] at m
  exact m
theorem dict_at (I:Inv X pins σ H s) (ab:AbH X.K H G) (hg:G a=some (.dic kvs)) (hk:kindOk kvs k=true) (ry:RepD X.K H y k) :
  ∃ H',Inv X pins σ H' s/\Mv X.K H G H' G/\((∃ (kv:List (Key×V)) (kk:Key),H' a=some (.dK kv)/\DKs X.K H' kv kvs/\k=keyD kk/\y=kV kk)\/∃ (kv:List (List Key×V)) (kk:List Key) (b:Addr),H' a=some (.dT kv)/\DTs X.K H' kv kvs/\k=.tup (kk.map keyD)/\y=.ref b/\H' b=some (.tup (kk.map kV))):=by
 unfold kindOk at hk
 rw [Bool.or_eq_true,Bool.and_eq_true,Bool.and_eq_true] at hk
 rcases hk with ⟨h1,h2⟩ | ⟨h1,h2⟩
 ·obtain ⟨kk,rfl⟩:=key1_of h1
  have ey:=rep_key ry
  subst ey
  rcases ab a _ hg with ⟨kv,hv,rs⟩ | ⟨kv,hv,rs⟩
  ·exact ⟨H,I,.refl ab,.inl ⟨kv,kk,hv,rs,rfl,rfl⟩⟩
  ·cases rs with
   | nil =>
    refine ⟨_,toK I hv,mv_same ab hg (.putD hv (.inr ⟨_,rfl⟩)) (.inl ⟨[],upd_same,.nil⟩),.inl ⟨[],kk,upd_same,.nil,rfl,rfl⟩⟩
   | cons _ _=>simp [keyOk1] at h2
 ·obtain ⟨kk,rfl⟩:=keyT_of h1
  obtain ⟨b,rfl,hb⟩:=rep_keyT ry
  rcases ab a _ hg with ⟨kv,hv,rs⟩ | ⟨kv,hv,rs⟩
  ·cases rs with
   | nil =>
    have kp:Kp H (upd H a (.dT [])):=.putD hv (.inl ⟨_,rfl⟩)
    exact ⟨_,toT I hv,mv_same ab hg kp (.inr ⟨[],upd_same,.nil⟩),.inr ⟨[],kk,b,upd_same,.nil,rfl,rfl,kp.tup _ _ hb⟩⟩
   | @cons j _ _ _ _ _ _=>cases j <;> simp [keyD,keyOkT] at h2
  ·exact ⟨H,I,.refl ab,.inr ⟨kv,kk,b,hv,rs,rfl,rfl,hb⟩⟩
theorem dict_get (I:Inv X pins σ H s) (ab:AbH X.K H G) (hg:G a=some (.dic kvs)) (hk:kindOk kvs k=true) (ry:RepD X.K H y k) :
  ∃ H' o,Inv X pins σ H' s/\Mv X.K H G H' G/\DGet H' a y o/\o.isSome=(look kvs k).isSome/\∀ d,look kvs k=some d->∃ v,o=some v/\RepD X.K H' v d:=by
 obtain ⟨H',I',m,h⟩:=dict_at I ab hg hk ry
 rcases h with ⟨kv,kk,hv,rs,rfl,rfl⟩ | ⟨kv,kk,b,hv,rs,rfl,rfl,hb⟩
 ·refine ⟨H',valV kv kk,I',m,.k hv,?_,fun d hd=>?_⟩
  ·rcases rs.look kk with ⟨v,d,e1,e2,_⟩ | ⟨e1,e2⟩ <;> rw [e1,e2] <;> rfl
  ·rcases rs.look kk with ⟨v,d',e1,e2,r⟩ | ⟨e1,e2⟩
   ·rw [e2] at hd; cases hd; exact ⟨v,e1,r⟩
   ·rw [e2] at hd; cases hd
 ·refine ⟨H',valV kv kk,I',m,.t hv hb,?_,fun d hd=>?_⟩
  ·rcases rs.look kk with ⟨v,d,e1,e2,_⟩ | ⟨e1,e2⟩ <;> rw [e1,e2] <;> rfl
  ·rcases rs.look kk with ⟨v,d',e1,e2,r⟩ | ⟨e1,e2⟩
   ·rw [e2] at hd; cases hd; exact ⟨v,e1,r⟩
   ·rw [e2] at hd; cases hd
theorem rod_get {x:V} (I:Inv X pins σ H s) (rd:RepD X.K H x (.rod kvs)) (hk:kindOk kvs k=true) (ry:RepD X.K H y k) :
  ∃ a o,x=.ref a/\(kvs=[]\/DGet H a y o)/\o.isSome=(look kvs k).isSome/\∀ d,look kvs k=some d->∃ v,o=some v/\RepD X.K H v d:=by
 unfold kindOk at hk
 rw [Bool.or_eq_true,Bool.and_eq_true,Bool.and_eq_true] at hk
 cases rd with
 | rodK h rs =>
  rename_i a ob kv
  rcases hk with ⟨h1,h2⟩ | ⟨h1,h2⟩
  ·obtain ⟨kk,rfl⟩:=key1_of h1
   have ey:=rep_key ry
   subst ey
   refine ⟨a,valV kv kk,rfl,.inr (.inl ⟨kv,kk,.inr ⟨_,h⟩,rfl,rfl⟩),?_,fun d hd=>?_⟩
   ·rcases rs.look kk with ⟨v,d,e1,e2,_⟩ | ⟨e1,e2⟩ <;> rw [e1,e2] <;> rfl
   ·rcases rs.look kk with ⟨v,d',e1,e2,r⟩ | ⟨e1,e2⟩
    ·rw [e2] at hd; cases hd; exact ⟨v,e1,r⟩
    ·rw [e2] at hd; cases hd
  ·cases rs with
   | nil=>exact ⟨a,none,rfl,.inl rfl,rfl,fun d hd=>by cases hd⟩
   | cons _ _ =>
    rename_i kx _ _ _ _ _ _
    rw [List.all_cons,Bool.and_eq_true] at h2
    cases kx <;> exact absurd h2.1 (by simp [keyD,keyOkT])
 | rodT h rs =>
  rename_i a ob kv
  rcases hk with ⟨h1,h2⟩ | ⟨h1,h2⟩
  ·cases rs with
   | nil=>exact ⟨a,none,rfl,.inl rfl,rfl,fun d hd=>by cases hd⟩
   | cons _ _ =>
    rw [List.all_cons,Bool.and_eq_true] at h2
    exact absurd h2.1 (by simp [keyOk1])
  ·obtain ⟨kk,rfl⟩:=keyT_of h1
   obtain ⟨b,rfl,hb⟩:=rep_keyT ry
   refine ⟨a,valV kv kk,rfl,.inr (.inr ⟨kv,kk,b,.inr ⟨_,h⟩,rfl,hb,rfl⟩),?_,fun d hd=>?_⟩
   ·rcases rs.look kk with ⟨v,d,e1,e2,_⟩ | ⟨e1,e2⟩ <;> rw [e1,e2] <;> rfl
   ·rcases rs.look kk with ⟨v,d',e1,e2,r⟩ | ⟨e1,e2⟩
    ·rw [e2] at hd; cases hd; exact ⟨v,e1,r⟩
    ·rw [e2] at hd; cases hd
theorem dict_put {v:V} {d:D} (I:Inv X pins σ H s) (ab:AbH X.K H G) (hg:G a=some (.dic kvs)) (hk:kindOk kvs k=true) (hz:kvs.length < SZ) (ry:RepD X.K H y k) (rv:RepD X.K H v d) :
  ∃ H' H'',Inv X pins σ H' s/\DPut H' a y v H''/\Mv X.K H G H'' (updG G a (.dic (put kvs k d))):=by
 obtain ⟨H',I',m,h⟩:=dict_at I ab hg hk ry
 have rv':=rv.mono (m.kp ab)
 have sz:sizeLine=16777216:=sizeLine_eq
 rcases h with ⟨kv,kk,hv,rs,rfl,rfl⟩ | ⟨kv,kk,b,hv,rs,rfl,rfl,hb⟩
 ·have kp:Kp H' (upd H' a (.dK (putK kv kk v))):=.putD hv (.inl ⟨_,rfl⟩)
  exact ⟨H',_,I',.k hv (by rw [rs.length,sz]; exact hz),m.trans (.put m.ab hg kp (.inl ⟨_,upd_same,(rs.put kk rv').mono kp⟩))⟩
 ·have kp:Kp H' (upd H' a (.dT (putK kv kk v))):=.putD hv (.inr ⟨_,rfl⟩)
  exact ⟨H',_,I',.t hv hb (by rw [rs.length,sz]; exact hz),m.trans (.put m.ab hg kp (.inr ⟨_,upd_same,(rs.put kk rv').mono kp⟩))⟩
end
end K2
end
section
namespace K2
open PySem PySem.Spec PyProof.Rows L2
section
variable {X:Cx} {a b c e:Expr} {es:List Expr} {ta tb tc te:TE2} {t:TA2} {pos p p2 apos cpos:Pos} {x:Str}
theorem pe2_bl {k:Bool} {j}:PE2 X (.Constant (.bool k) j pos) (dC (.bl k)):=pe2_const pe_bl fun _ _=>.bl k
theorem un2_neg:UnR2 X (unaryOp .USub) rNeg:=by
 intro pins s σ H G x dx v Q I ab rx dX q
 cases dX with
 | int i=>exact thn (un_neg pins s σ H _ v (Rch X.K H G Q) I rx ⟨i,rfl,_,_,.refl ab,.int _,q⟩) fun _ _ z=>.of z
 | _=>exact False.elim q
theorem pe2_ix (hu:X.A.units+64 < cLine) (ha:PE2 X a ta) (hb:PE2 X b tb) (hs:PlainIx b):PE2 X (.Subscript a b pos) (dBin rIx ta tb):=by
 intro E pins s σ H τ G Q hE I h
 refine Subscript_ (binT2 ha hb hE I h fun v u s2 x y dx dy H2 G2 J m rx ry dX dY q=>?_)
 have fin:∀ {rb:R2},IxR X rb->rb x y H2 (Rch X.K H2 G2 Q)->wpAny (model X.prog X.w) X.A (subscriptTail a b v u) (EP2 X pins σ H G Q) X.xe s2:=fun hr hq =>
  thn (hr a b pins s2 σ H2 x y v u _ J.inv rx ry hq (hs _ _)) fun _ _ z=>(EP2.of z).trans m
 cases dX with
 | tup hq rs =>
  cases dY with
  | int i =>
   rw [rIx_tupM] at q
   split at q
   ·rename_i d hd
    obtain ⟨w,hw,rw'⟩:=rs.atI hd
    exact fin ix_tup ⟨_,_,i,w,rfl,rfl,.of hq,hw,d,G2,.refl J.ab,rw',q⟩
   ·exact q.elim
  | _=>exact False.elim q
 | rol hq rs =>
  cases dY with
  | int i =>
   rw [rIx_rolM] at q
   split at q
   ·rename_i d hd
    obtain ⟨w,hw,rw'⟩:=rs.atI hd
    exact fin ix_list ⟨_,_,i,w,rfl,rfl,hq.sq,hw,d,G2,.refl J.ab,rw',q⟩
   ·exact q.elim
  | _=>exact False.elim q
 | rodK h rs =>
  rw [rIx_rod] at q
  obtain ⟨hk,q⟩:=q
  split at q
  ·rename_i d hd
   obtain ⟨a',o,ea,g,_,hv⟩:=rod_get J.inv (.rodK h rs) hk dY
   obtain ⟨w,rfl,rw'⟩:=hv d hd
   cases ea
   rcases g with rfl | g
   ·cases hd
   ·cases rx
    exact tail_any (dict_typeIs J.inv g) PySem.F.slot_dict_getitem.lookup (d_getItem (by lia) J.inv g ry fun w' s3 I4 rv=>⟨w,H2,d,G2,I4,m,rv,rw',q⟩) (hs _ _)
  ·exact q.elim
 | rodT h rs =>
  rw [rIx_rod] at q
  obtain ⟨hk,q⟩:=q
  split at q
  ·rename_i d hd
   obtain ⟨a',o,ea,g,_,hv⟩:=rod_get J.inv (.rodT h rs) hk dY
   obtain ⟨w,rfl,rw'⟩:=hv d hd
   cases ea
   rcases g with rfl | g
   ·cases hd
   ·cases rx
    exact tail_any (dict_typeIs J.inv g) PySem.F.slot_dict_getitem.lookup (d_getItem (by lia) J.inv g ry fun w' s3 I4 rv=>⟨w,H2,d,G2,I4,m,rv,rw',q⟩) (hs _ _)
  ·exact q.elim
 | ref l =>
  rw [rIx_ref] at q
  split at q
  ·rename_i ds hl
   obtain ⟨vs,hv,rs⟩:=J.ab.lst hl
   cases dY with
   | int i =>
    dsimp only at q
    split at q
    ·rename_i d hd
     obtain ⟨w,hw,rw'⟩:=rs.atI hd
     exact fin ix_list ⟨_,_,i,w,rfl,rfl,.of hv,hw,d,G2,.refl J.ab,rw',q⟩
    ·exact q.elim
   | _=>exact False.elim q
  ·rename_i kvs hl
   obtain ⟨hk,q⟩:=q
   split at q
   ·rename_i d hd
    obtain ⟨H3,o,I3,m3,g,_,hv⟩:=dict_get J.inv J.ab hl hk dY
    obtain ⟨w,rfl,rw'⟩:=hv d hd
    cases rx
    exact tail_any (dict_typeIs I3 g) PySem.F.slot_dict_getitem.lookup (d_getItem (by lia) I3 g ry fun w' s3 I4 rv=>⟨w,H3,d,G2,I4,m.trans m3,rv,rw',q⟩) (hs _ _)
   ·exact q.elim
  ·exact q.elim
 | _=>exact False.elim q
noncomputable def PO2 (X:Cx) (e:Option Expr) (t:TO2):Prop :=
 ∀ (E:XK2) (pins:List (Addr×Obj)) (s:Shared) (σ:L2.St) (H:Hp) (τ:St2) (G:Gp) (Q:Option Int->Gp->Prop),Lk X E->I2 X pins σ H τ G s->t E τ G Q ->
  wpAny (model X.prog X.w) X.A (evalPart e X.env) (fun u s'=>∃ o H' G',Inv X pins σ H' s'/\Mv X.K H G H' G'/\IsPart u o/\Q o G') X.xe s
theorem po2_none:PO2 X none dNoPart:=by
 intro E pins s σ H τ G Q hE I h
 rw [evalPart_none]
 exact wpAny_pure ⟨none,H,G,I.inv,.refl I.ab,.none,h⟩
theorem po2_some (h:PE2 X e te):PO2 X (some e) (dPart te):=by
 intro E pins s σ H τ G Q hE I hw
 rw [evalPart_some]
 refine thnE h hE I hw fun x H1 d G1 u s1 I1 m1 r1 rd1 q1=>?_
 cases rd1 with
 | int i =>
  obtain ⟨t,rfl⟩:=r1
  exact ⟨some i,H1,G1,I1.inv,m1,.int i t,q1⟩
 | _=>exact False.elim q1
theorem pe2_slice {lo hi:Option Expr} {tl th:TO2} (he:PE2 X a ta) (hl:PO2 X lo tl) (hu:PO2 X hi th):PE2 X (.Subscript a (.Slice lo hi none p2) pos) (dSl ta tl th):=by
 intro E pins s σ H τ G Q hE I h
 refine Subscript_ (thnE he hE I h fun x H1 d G1 v s1 I1 m1 r1 rd1 q1=>?_)
 refine wpAny_Slice (thn (hl E pins s1 σ H1 τ G1 _ hE I1 q1) ?_)
 rintro vl s2 ⟨l,H2,G2,I2',m2,pl,q2⟩
 refine thn (hu E pins s2 σ H2 τ G2 _ hE (I1.mv I2' m2) q2) ?_
 rintro vu s3 ⟨r,H3,G3,I3,m3,pu,q3⟩
 rw [evalPart_none]
 refine wpAny_pure ?_
 have m13:=m2.trans m3
 have mm:=m1.trans m13
 have I4:Inv X pins σ H3 { s3 with heap:=s3.heap.push { cls:=.type "slice",data:=.fields #[vl,vu,.none] } }:=I3.kept (t':=s3.toks) fun b ob q=>Heap.get?_push_of_some _ q
 have rd3:=rd1.mono (m13.kp I1.ab)
 have ab3:=m3.ab
 have key:∀ {rb:V->Option Int->Option Int->Hp->VK->Prop},SlR X rb->rb x l r H3 (Rch X.K H3 G3 Q)->wpAny (model X.prog X.w) X.A (subscriptTail a (.Slice lo hi none p2) v (.ref s3.heap.objs.size)) (EP2 X pins σ H G Q) X.xe { s3 with heap:=s3.heap.push { cls:=.type "slice",data:=.fields #[vl,vu,.none] } }:=fun hr hq=>by
  obtain ⟨T,id,hT,ht,hg⟩:=hr pins { s3 with heap:=s3.heap.push { cls:=.type "slice",data:=.fields #[vl,vu,.none] } } σ H3 x v vl vu l r s3.heap.objs.size _ I4 r1 (Heap.IsSliceOf.new ..) pl pu hq
  exact thn (tail_any (ops:=[.ref s3.heap.objs.size,v]) ht hT hg (by with_unfolding_all rfl)) fun _ _ z=>(EP2.of z).trans mm
 cases rd3 with
 | tup hq rs =>
  obtain ⟨hw,q⟩:=q3
  refine key sl_tup ⟨_,_,rfl,.of hq,?_,fun p hp=>⟨_,G3,.hid ab3 hp,.tup upd_same ((rs.cut l r).mono (.new hp)),q⟩⟩
  rw [sIx_eq,sIx_eq,rs.length]
  exact hw
 | rol hq rs=>exact key sl_list ⟨_,_,rfl,hq.sq,fun p hp=>⟨_,_,.newL ab3 hp (rs.cut l r),.ref _,q3 p (ab3.free hp)⟩⟩
 | ref g =>
  rw [rSl_ref] at q3
  split at q3
  ·rename_i ds hg
   obtain ⟨vs,hv,rs⟩:=ab3.lst hg
   exact key sl_list ⟨_,_,rfl,.of hv,fun p hp=>⟨_,_,.newL ab3 hp (rs.cut l r),.ref _,q3 p (ab3.free hp)⟩⟩
  ·exact q3.elim
 | _=>exact False.elim q3
end
end K2
end
section
namespace K2
open PySem PySem.Spec PyProof.Rows L2
section
variable {X:Cx} {a b c e o:Expr} {es:List Expr} {ta tb tc te to:TE2} {t:TA2} {pos p p2 apos cpos:Pos} {x name:Str} {id T:String}
theorem call2_len:CallR2 X (.builtin "len") cLen:=by
 intro pins s σ H G xs ds us Q I ab rx rd q
 unfold cLen at q
 split at q
 ·rename_i x
  obtain ⟨v,rfl,r⟩:=rd.one
  have viaL:∀ (n:Nat),LenV X.K v H n->Q (.int (n:Int)) G->wpAny (model X.prog X.w) X.A (call (.builtin "len") us) (EP2 X pins σ H G Q) X.xe s:=fun n hn hq =>
   thn (call_len pins s σ H [v] us (Rch X.K H G Q) I rx ⟨v,n,rfl,hn,_,_,.refl ab,.int _,hq⟩) fun _ _ z=>.of z
  have sz:sizeLine=16777216:=sizeLine_eq
  cases r with
  | tup hq rs=>exact viaL _ (.inr ⟨_,.of hq,by rw [rs.length]⟩) q
  | rol hq rs=>exact viaL _ (.inl ⟨_,hq.sq,by rw [rs.length]⟩) q
  | str y =>
   unfold lenOf at q
   dsimp only at q
   by_cases hz:y.length<=SZ
   ·rw [if_pos hz] at q; exact viaL _ ⟨by rw [sz]; exact hz,rfl⟩ q
   ·rw [if_neg hz] at q; exact q.elim
  | rodK h rs =>
   rename_i l o kv kvs
   obtain ⟨u,rfl,ru⟩:=rx.one
   cases ru
   unfold lenOf at q
   dsimp only at q
   by_cases ha:(kvs.all fun p=>keyOk1 p.1)=true
   ·rw [if_pos ha] at q
    exact d_len I (.inr ⟨_,h⟩) fun t s' I'=>⟨.int kv.length,H,_,G,I',.refl ab,⟨t,rfl⟩,.int _,by rw [rs.length]; exact q⟩
   ·rw [if_neg ha] at q; exact q.elim
  | rodT h rs =>
   rename_i l o kv kvs
   obtain ⟨u,rfl,ru⟩:=rx.one
   cases ru
   unfold lenOf at q
   dsimp only at q
   by_cases ha:(kvs.all fun p=>keyOk1 p.1)=true
   ·rw [if_pos ha] at q
    cases rs with
    | nil =>
     obtain ⟨z,hS,xs,rel,ob,es,ep,ho,hx,hd',hl,nd⟩:=(I.hok l _ h).2
     have hxs:xs=[]:=by cases rel; rfl
     subst hxs
     have he:es=#[]:=by simpa using hl
     subst he
     have dd:s.heap.DictOf (mixKind X.prog X.w) l []:=⟨ob,#[],ep,ho,hx,hd',(fun _ h=>by simp at h),.nil,List.nodup_nil⟩
     refine call_len_dict hS dd (by simp) ?_
     exact ⟨.int 0,H,_,G,I.tok _,.refl ab,⟨_,rfl⟩,.int _,q⟩
    | cons _ _=>simp [keyOk1] at ha
   ·rw [if_neg ha] at q; exact q.elim
  | ref l =>
   unfold lenOf at q
   dsimp only at q
   cases hg:G l with
   | none=>rw [hg] at q; exact q.elim
   | some g =>
    rw [hg] at q
    cases g with
    | lst ds =>
     obtain ⟨vs,hv,rs⟩:=ab.lst hg
     exact viaL _ (.inl ⟨_,.of hv,by rw [rs.length]⟩) q
    | dic kvs =>
     obtain ⟨u,rfl,ru⟩:=rx.one
     cases ru
     dsimp only at q
     by_cases ha:(kvs.all fun p=>keyOk1 p.1)=true
     ·rw [if_pos ha] at q
      rcases ab l _ hg with ⟨kv,hv,rs⟩ | ⟨kv,hv,rs⟩
      ·exact d_len I (.inl hv) fun t s' I'=>⟨.int kv.length,H,_,G,I',.refl ab,⟨t,rfl⟩,.int _,by rw [rs.length]; exact q⟩
      ·cases rs with
       | nil =>
        obtain ⟨z,hd,vs,rel,dd⟩:=dk_of (toK I hv).hok upd_same
        have hvs:vs=[]:=by cases rel; rfl
        subst hvs
        refine call_len_dict hd dd (by simp) ?_
        exact ⟨.int 0,H,_,G,I.tok _,.refl ab,⟨_,rfl⟩,.int _,q⟩
       | cons _ _=>simp [keyOk1] at ha
     ·rw [if_neg ha] at q; exact q.elim
  | _=>exact False.elim q
 ·exact q.elim
theorem call2_list:CallR2 X (.type "list") cList:=by
 intro pins s σ H G xs ds us Q I ab rx rd q
 unfold cList at q
 split at q
 ·rename_i x
  obtain ⟨v,rfl,r⟩:=rd.one
  have via:∀ (l:Addr) (ys:List V) (zs:List D),v=.ref l->(SqL X.K H l ys\/SqT X.K H l ys)->RepDs X.K H ys zs->dNew G (.lst zs) Q->wpAny (model X.prog X.w) X.A (call (.type "list") us) (EP2 X pins σ H G Q) X.xe s:=fun l ys zs e h rs hq=>by
   subst e
   exact thn (call_list_of pins s σ H _ us (Rch X.K H G Q) I rx ⟨l,ys,rfl,h,fun p hp=>⟨_,_,.newL ab hp rs,.ref _,hq p (ab.free hp)⟩⟩) fun _ _ z=>.of z
  cases r with
  | tup hq rs=>exact via _ _ _ rfl (.inr (.of hq)) rs q
  | rol hq rs=>exact via _ _ _ rfl (.inl hq.sq) rs q
  | ref l =>
   unfold itemsOf at q
   dsimp only at q
   cases hg:G l with
   | none=>rw [hg] at q; exact q.elim
   | some g =>
    rw [hg] at q
    cases g with
    | lst ds =>
     obtain ⟨vs,hv,rs⟩:=ab.lst hg
     exact via _ _ _ rfl (.inl (.of hv)) rs q
    | dic kvs=>exact q.elim
  | _=>exact False.elim q
 ·exact q.elim
theorem pe2_callTy {r:List D->Gp->DK->Prop} (hc:CallR2 X (.type T) r) (hg:Gl X x) (hm:X.mg x=none) (hv:bootBuiltins x=some (.type T)) (ha:PA2 X (e :: es) t) (hn:autoParam (x≠"__name__") Ad._auto_1) (hdb:autoParam ((x == ("__debug__" : Str))=false) Ad._auto_1)
  (he:autoParam (starEach (e :: es) X.env=(false,eval e X.env) :: starEach es X.env) Ar._auto_1) (hpl:autoParam ((backTo pos (starEach es X.env)).any (·.1)=false) Ar._auto_1):PE2 X (.Call (.Name x p) (e :: es) [] pos) (dCB r t):=by
 intro E pins s σ H τ G Q hE I h
 refine wpAny_Call_Name_kw (ld_blt I.inv hg hm hv ?_ hn hdb)
 exact PyProof.Rows.callWith_type1 (thnA ha pos hE I h fun vs H1 ds G1 us s1 I1 m1 r1 rd1 q1=>thn (hc pins s1 σ H1 G1 vs ds us Q I1.inv I1.ab r1 rd1 q1) fun _ _ z=>z.trans m1) he hpl
theorem kit_ok (K:PySem.W.Frag):∀ C∈["int","bool","list","tuple","dict","str"],∀ T∈["NoneType","bool","int","str","tuple","list","dict"],PySem.W.kitOne K (.type T) (.type C)=some (T == C||(T == "bool" && C == "int")):=by
 intro C hC T hT
 simp only [List.mem_cons,List.not_mem_nil,or_false] at hC hT
 rcases hC with rfl | rfl | rfl | rfl | rfl | rfl <;> rcases hT with rfl | rfl | rfl | rfl | rfl | rfl | rfl <;> kernel_rfl
theorem isi_core (C:String) (hC:C∈["int","bool","list","tuple","dict","str"]) {pins:List (Addr×Obj)} {s:Shared} {σ:L2.St} {H:Hp} {G:Gp} {v:V} {d:D} {u:Value} {k:Bool} {Q:DK} (I:Inv X pins σ H s) (ab:AbH X.K H G) (ru:RelV v u) (r:RepD X.K H v d)
  (hk:isI C d G=some k) (q:Q (.bl k) G):wpAny (model X.prog X.w) X.A (call (.builtin "isinstance") [u,.type C]) (EP2 X pins σ H G Q) X.xe s:=by
 have fin:∀ tk,EP2 X pins σ H G Q (.bool k) { s with toks:=tk }:=fun tk=>⟨.bl k,H,.bl k,G,I.tok _,.refl ab,rfl,.bl k,q⟩
 have hl:∀ T∈["NoneType","bool","int","str","tuple","list","dict"],k=(T == C||(T == "bool" && C == "int"))->PySem.W.kitOne X.K (.type T) (.type C)=some k:=fun T hT e=>by rw [kit_ok X.K C hC T hT,e]
 have tl:∀ {l:Addr} {o:Obj},s.heap.get? l=some o->o.cls=.type "list"->k=("list" == C||("list" == "bool" && C == "int"))->v=.ref l->wpAny (model X.prog X.w) X.A (call (.builtin "isinstance") [u,.type C]) (EP2 X pins σ H G Q) X.xe s:=fun ho hc e ev=>by
  subst ev
  cases ru
  exact PySem.W.kia_one PySem.W.kitx_list I.kIn ⟨_,ho,hc⟩ (hl "list" (by decide) e) (fun z=>nomatch z) fin
 have td:∀ {l:Addr} {o:Obj},s.heap.get? l=some o->o.cls=.type "dict"->k=("dict" == C||("dict" == "bool" && C == "int"))->v=.ref l->wpAny (model X.prog X.w) X.A (call (.builtin "isinstance") [u,.type C]) (EP2 X pins σ H G Q) X.xe s:=fun ho hc e ev=>by
  subst ev
  cases ru
  exact PySem.W.kia_one PySem.W.kitx_dict I.kIn ⟨_,ho,hc⟩ (hl "dict" (by decide) e) (fun z=>nomatch z) fin
 have cases6:∀ P:String->Prop,(∀ C'∈["int","bool","list","tuple","dict","str"],P C')->P C:=fun P h=>h C hC
 cases r with
 | non =>
  cases ru
  have e:k=("NoneType" == C||("NoneType" == "bool" && C == "int")):=by
   have:k=false:=(Option.some.inj hk).symm
   rw [this]
   exact cases6 (fun C=>false=("NoneType" == C||("NoneType" == "bool" && C == "int"))) (by decide)
  exact PySem.W.kia_one PySem.W.kitx_none I.kIn True.intro (hl _ (by decide) e) (fun z=>nomatch z) fin
 | bl y =>
  cases ru
  have e:k=("bool" == C||("bool" == "bool" && C == "int")):=by
   have:k=(C == "bool" || C == "int"):=(Option.some.inj hk).symm
   rw [this]
   exact cases6 (fun C=>(C == "bool" || C == "int")=("bool" == C||("bool" == "bool" && C == "int"))) (by decide)
  exact PySem.W.kia_one PySem.W.kitx_bool I.kIn True.intro (hl _ (by decide) e) (fun z=>nomatch z) fin
 | int y =>
  obtain ⟨t,rfl⟩:=ru
  have e:k=("int" == C||("int" == "bool" && C == "int")):=by
   have:k=(C == "int"):=(Option.some.inj hk).symm
   rw [this]
   exact cases6 (fun C=>(C == "int")=("int" == C||("int" == "bool" && C == "int"))) (by decide)
  exact PySem.W.kia_one PySem.W.kitx_int I.kIn True.intro (hl _ (by decide) e) (fun z=>nomatch z) fin
 | str y =>
  obtain ⟨t,rfl⟩:=ru
  have e:k=("str" == C||("str" == "bool" && C == "int")):=by
   have:k=(C == "str"):=(Option.some.inj hk).symm
   rw [this]
   exact cases6 (fun C=>(C == "str")=("str" == C||("str" == "bool" && C == "int"))) (by decide)
  exact PySem.W.kia_one PySem.W.kitx_str I.kIn True.intro (hl _ (by decide) e) (fun z=>nomatch z) fin
 | tup hq rs =>
  cases ru
  have e:k=("tuple" == C||("tuple" == "bool" && C == "int")):=by
   have:k=(C == "tuple"):=(Option.some.inj hk).symm
   rw [this]
   exact cases6 (fun C=>(C == "tuple")=("tuple" == C||("tuple" == "bool" && C == "int"))) (by decide)
  obtain ⟨its,rv,⟨o,h1,h2,_⟩,hz⟩:=I.tuple (.of hq)
  exact PySem.W.kia_one PySem.W.kitx_tuple I.kIn ⟨o,h1,h2⟩ (hl _ (by decide) e) (fun z=>nomatch z) fin
 | rol hq rs =>
  obtain ⟨its,rv,pl,hz⟩:=I.list hq.sq
  obtain ⟨o,h1,h2,_⟩:=pl.isList
  refine tl h1 h2 ?_ rfl
  have:k=(C == "list"):=(Option.some.inj hk).symm
  rw [this]
  exact cases6 (fun C=>(C == "list")=("list" == C||("list" == "bool" && C == "int"))) (by decide)
 | rodK h rs =>
  have e:k=("dict" == C||("dict" == "bool" && C == "int")):=by
   have:k=(C == "dict"):=(Option.some.inj hk).symm
   rw [this]
   exact cases6 (fun C=>(C == "dict")=("dict" == C||("dict" == "bool" && C == "int"))) (by decide)
  obtain ⟨_,_,vs,_,ob,_,_,h1,h2,_⟩:=dk_rd I.hok (.inr ⟨_,h⟩)
  exact td h1 h2.1 e rfl
 | rodT h rs =>
  have e:k=("dict" == C||("dict" == "bool" && C == "int")):=by
   have:k=(C == "dict"):=(Option.some.inj hk).symm
   rw [this]
   exact cases6 (fun C=>(C == "dict")=("dict" == C||("dict" == "bool" && C == "int"))) (by decide)
  obtain ⟨_,_,ys,_,ob,_,_,h1,h2,_⟩:=dt_rd I.hok (.inr ⟨_,h⟩)
  exact td h1 h2.1 e rfl
 | exc h=>simp [isI] at hk
 | ref l =>
  unfold isI at hk
  dsimp only at hk
  cases hg:G l with
  | none=>rw [hg] at hk; cases hk
  | some g =>
   rw [hg] at hk
   cases g with
   | lst ds =>
    obtain ⟨vs,hv,rs⟩:=ab.lst hg
    obtain ⟨its,rv,pl,hz⟩:=I.list (.of hv)
    obtain ⟨o,h1,h2,_⟩:=pl.isList
    refine tl h1 h2 ?_ rfl
    have:k=(C == "list"):=(Option.some.inj hk).symm
    rw [this]
    exact cases6 (fun C=>(C == "list")=("list" == C||("list" == "bool" && C == "int"))) (by decide)
   | dic kvs =>
    have e:k=("dict" == C||("dict" == "bool" && C == "int")):=by
     have:k=(C == "dict"):=(Option.some.inj hk).symm
     rw [this]
     exact cases6 (fun C=>(C == "dict")=("dict" == C||("dict" == "bool" && C == "int"))) (by decide)
    rcases ab l _ hg with ⟨kv,hv,rs⟩ | ⟨kv,hv,rs⟩
    ·obtain ⟨_,_,vs,_,ob,_,_,h1,h2,_⟩:=dk_of I.hok hv
     exact td h1 h2.1 e rfl
    ·obtain ⟨_,_,ys,_,ob,_,_,h1,h2,_⟩:=dt_of I.hok hv
     exact td h1 h2.1 e rfl
theorem pe2_isi (C:String) (hC:C∈["int","bool","list","tuple","dict","str"]) {y:Str} {py:Pos} (hg:Gl X "isinstance") (hm:X.mg "isinstance" = none) (hgC:Gl X y) (hmC:X.mg y=none) (hvC:bootBuiltins y=some (.type C)) (ha:PE2 X a ta) (hn:autoParam (y≠"__name__") Ad._auto_1) (hdb:autoParam ((y == ("__debug__" : Str))=false) Ad._auto_1)
  (he:autoParam (starEach [a,.Name y py] X.env=(false,eval a X.env) :: starEach [.Name y py] X.env) Ar._auto_1) (hpl:autoParam ((backTo pos (starEach [Expr.Name y py] X.env)).any (·.1)=false) Ar._auto_1) (he2:autoParam (starEach [.Name y py] X.env=[(false,eval (.Name y py) X.env)]) Ar._auto_1) :
  PE2 X (.Call (.Name "isinstance" p) [a,.Name y py] [] pos) (dIsi C ta):=by
 intro E pins s σ H τ G Q hE I h
 refine wpAny_Call_Name_kw (ld_blt I.inv hg hm PyProof.Rows.boot_isinstance ?_)
 refine PyProof.Rows.callWith_builtin1 ?_ he hpl
 rw [he]
 show wpAny _ _ (spliced ((false,eval a X.env) :: backTo pos (starEach [.Name y py] X.env))) _ _ s
 refine Calls.spliced_cons (thnE ha hE I h fun v H1 d G1 u s1 I1 m1 r1 rd1 q1=>?_)
 rw [he2]
 show wpAny _ _ (spliced [(false,eval (.Name y py) X.env)]) _ _ s1
 refine Calls.spliced_cons (ld_blt I1.inv hgC hmC hvC (Calls.spliced_nil ?_) hn hdb)
 try dsimp only at q1
 split at q1
 ·rename_i k hk
  exact thn (isi_core C hC I1.inv I1.ab r1 rd1 hk q1) fun _ _ z=>z.trans m1
 ·exact q1.elim
end
end K2
end
section
namespace K2
open PySem PySem.Spec PyProof.Rows L2
section
variable {X:Cx} {a b c e o:Expr} {es:List Expr} {ta tb tc te to:TE2} {t:TA2} {pos p p2 apos cpos:Pos} {x name:Str} {id T:String}
noncomputable def MtR2 (X:Cx) (id:String) (r:D->List D->Gp->DK->Prop):Prop :=
 ∀ (pins:List (Addr×Obj)) (s:Shared) (σ:L2.St) (H:Hp) (G:Gp) (x:V) (d:D) (xs:List V) (ds:List D) (v:Value) (us:List Value) (Q:DK),Inv X pins σ H s->AbH X.K H G->RelV x v->RepD X.K H x d->Vals xs us->RepDs X.K H xs ds->r d ds G Q ->
  wpAny (model X.prog X.w) X.A (call (.builtin id) (v :: us)) (EP2 X pins σ H G Q) X.xe s
noncomputable def TyR2 (X:Cx) (T:String) (ty:D->Gp->Prop):Prop:=∀ (pins:List (Addr×Obj)) (s:Shared) (σ:L2.St) (H:Hp) (G:Gp) (x:V) (d:D) (v:Value),Inv X pins σ H s->AbH X.K H G->RelV x v->RepD X.K H x d->ty d G ->
  s.TypeIs v T/\∀ a,v=.ref a->∃ ob,s.heap.get? a=some ob/\ob.dict=none
theorem ty2_list:TyR2 X "list" tyL:=by
 intro pins s σ H G x d v I ab r rd h
 cases rd with
 | rol hq rs=>exact tyV_is I r (.inl ⟨rfl,_,hq.sq⟩)
 | ref l =>
  unfold tyL at h
  dsimp only at h
  split at h
  ·rename_i ds hg
   obtain ⟨vs,hv,rs⟩:=ab.lst hg
   exact tyV_is I r (.inl ⟨rfl,vs,.of hv⟩)
  ·exact h.elim
 | _=>exact False.elim h
theorem ty2_dict:TyR2 X "dict" tyC:=by
 intro pins s σ H G x d v I ab r rd h
 cases rd with
 | rodK q rs =>
  cases r
  obtain ⟨t1,t2,_⟩:=isD_at I (.inl ⟨_,.inr ⟨_,q⟩⟩)
  exact ⟨t1,t2⟩
 | rodT q rs =>
  cases r
  obtain ⟨t1,t2,_⟩:=isD_at I (.inr ⟨_,.inr ⟨_,q⟩⟩)
  exact ⟨t1,t2⟩
 | ref l =>
  unfold tyC at h
  dsimp only at h
  split at h
  ·rename_i kvs hg
   rcases ab l _ hg with ⟨kv,hv,rs⟩ | ⟨kv,hv,rs⟩
   ·exact tyV_is I r (.inr (.inr (.inl ⟨rfl,.inl ⟨kv,hv⟩⟩)))
   ·exact tyV_is I r (.inr (.inr (.inl ⟨rfl,.inr ⟨kv,hv⟩⟩)))
  ·exact h.elim
 | _=>exact False.elim h
theorem pe2_bm {ty:D->Gp->Prop} {r:D->List D->Gp->DK->Prop} (pa:PlainAttrs T) (slot:Slot T name id) (hty:typeOf (.builtin id)=pure (.type "method_descriptor")) (ht:TyR2 X T ty) (hm:MtR2 X id r) (ho:PE2 X o to) (ha:PA2 X (e :: es) t)
  (hbase:autoParam (attributeBase o name X.env (eval o X.env)=eval o X.env) Ar._auto_1)
  (hfew:autoParam (((backTo cpos (starEach (e :: es) X.env)).all (fun x=>!x.1)&&(backToKw cpos (keywordEach [] X.env)).all (fun x=>x.1.isSome)
   && decide ((e :: es).length+([]:List Keyword).length+(if ([]:List Keyword).isEmpty then 0 else 1) < 30))=true) Ar._auto_1)
  (hline:autoParam ((apos.endLine == cpos.line)=true) Ar._auto_1) (hs:autoParam (starEach (e :: es) X.env=(false,eval e X.env) :: starEach es X.env) Ar._auto_1) (hplain:autoParam ((backTo cpos (starEach es X.env)).any (·.1)=false) Ar._auto_1) :
  PE2 X (.Call (.Attribute o name apos) (e :: es) [] cpos) (dMt ty r to t):=by
 intro E pins s σ H τ G Q hE I h
 refine wpAny_Call_method_late hbase hfew hline rfl (thnE ho hE I h ?_)
 rintro x H1 d G1 v s1 I1 m1 r1 rd1 ⟨hy,q1⟩
 obtain ⟨h1,h2⟩:=ht pins s1 σ H1 G1 x d v I1.inv I1.ab r1 rd1 hy
 refine ⟨T,id,pa,slot,hty,h1,h2,?_⟩
 have hA:=ha cpos E pins s1 σ H1 τ G1 _ hE I1 q1
 rw [hs] at hA ⊢
 refine Calls.callWith_builtin (by show (false||(backTo cpos (starEach es X.env)).any (·.1))=false; rw [hplain] <;> rfl) (Calls.evalArgs_plain ?_)
 exact thn hA (by rintro us s2 ⟨vs,H2,ds,G2,I2',m2,r2,rd2,q2⟩; exact thn (hm pins s2 σ H2 G2 x d vs ds v us Q I2' m2.ab r1 (rd1.mono (m2.kp I1.ab)) r2 rd2 q2) fun _ _ z=>z.trans (m1.trans m2))
theorem ins_eq {its:List Value} {u:Value} {k:Nat} (hk:k<=its.length):(its.toArray.extract 0 k).push u++its.toArray.extract k=(its.take k++u :: its.drop k).toArray:=by
 simp [List.extract_eq_take_drop]
 rw [List.take_of_length_le (by rw [List.length_drop]; lia)]
theorem mt2_insert:MtR2 X "list.insert" mInsert:=by
 intro pins s σ H G x d xs ds v us Q I ab rx rd rxs rds q
 unfold mInsert at q
 split at q
 ·rename_i l i d'
  cases rd
  obtain ⟨w,w2,rfl,rw1,rw2⟩:=rds.two
  cases rw1
  split at q
  ·rename_i zs hg
   obtain ⟨h0,h1,hz,q⟩:=q
   obtain ⟨vs,hv,rs⟩:=ab.lst hg
   obtain ⟨u1,u2,rfl,⟨t,rfl⟩,ru2⟩:=vals2 rxs
   cases rx
   obtain ⟨z,its,n,r,hl,e⟩:=I.lstM hv
   have sz:sizeLine=16777216:=sizeLine_eq
   have hlen:its.length=zs.length:=by rw [← hl,rs.length]
   have hs:SZ=16777216:=rfl
   have hfit:¬ (!Builtin.List.listFitsIndex i)=true:=by
    rw [fitsIndex_both (by lia) (by lia)]
    exact Bool.false_ne_true
   refine call_meets F.slot_list_insert ⟨_,e,rfl⟩ F.entry_list_insert (F.args_list_insert_3 _ _ _)
    (AutoSeq1.list_insert_list_int_val_1 l its.toArray n i t u2 hfit (by rw [List.size_toArray]; lia)) ⟨e,?_⟩
   have hi:i.toNat<=its.length:=by lia
   refine ⟨.non,_,.non,_,I.lset (its':=its.take i.toNat++u2 :: its.drop i.toNat) (ys:=vs.take i.toNat++w2 :: vs.drop i.toNat) hv e ?_ ((r.take _).append (.cons ru2 (r.drop _))) ?_,.putL ab hg hv ((rs.take _).append (.cons rw2 (rs.drop _))),rfl,.non,q⟩
   ·dsimp only
    have e1:(if i < 0 then (i+(its.toArray.size:Int)).toNat else min i.toNat its.toArray.size)=i.toNat:=by
     rw [if_neg (by lia),List.size_toArray]; lia
    rw [e1]
    exact ins_eq hi
   ·rw [List.length_append,List.length_cons,List.length_take,List.length_drop]
    lia
  ·exact q.elim
 ·exact q.elim
theorem pe2_dic:PE2 X (.Dict [] [] pos) dDic:=by
 intro E pins s σ H τ G Q hE I h
 exact thn (pe_dnewK pins s σ H (Rch X.K H G Q) I.inv fun p hp=>⟨_,_,.new I.ab hp (.dk upd_same .nil),.ref _,h p (I.ab.free hp)⟩) fun _ _ z=>.of z
end
end K2
end
section
namespace K2
open PySem PySem.Spec PyProof.Rows L2
noncomputable def takenGo (env:Env):List (Str×NameKind)->List (Str×Addr)->List (Str×Addr)
 | [],acc=>acc
 | (n,k) :: r,acc=>if k=.free then takenGo env r ((n,(env.cells.lookup n).getD 0) :: acc) else takenGo env r acc
theorem closure_go (env:Env) (f:Str×NameKind->List (Str×Addr)->Sem (ForInStep (List (Str×Addr)))) (hf:∀ n k c,f (n,k) c=if (k == NameKind.free)=true then (cellOf env n >>= fun a=>pure (ForInStep.yield ((n,a) :: c))) else pure (ForInStep.yield c)) :
  ∀ (ns:List (Str×NameKind)) (acc:List (Str×Addr)),(∀ x∈ns,x.2=.free->∃ c,env.cells.lookup x.1=some c)->forIn ns acc f=(pure (takenGo env ns acc):Sem (List (Str×Addr)))
 | [],acc,_=>rfl
 | (n,k) :: r,acc,h=>by
  rw [List.forIn_cons,hf]
  have hr:∀ x∈r,x.2=.free->∃ c,env.cells.lookup x.1=some c:=fun x hx=>h x (List.mem_cons_of_mem _ hx)
  by_cases hk:k=.free
  ·subst hk
   obtain ⟨c,hc⟩:=h (n,.free) List.mem_cons_self rfl
   have ec:cellOf env n=pure c:=by unfold cellOf; rw [hc]
   rw [if_pos (by decide),ec,pure_bind,pure_bind]
   show forIn r ((n,c) :: acc) f=_
   rw [closure_go env f hf r _ hr]
   show _=(pure (takenGo env ((n,.free) :: r) acc):Sem (List (Str×Addr)))
   rw [takenGo,if_pos rfl,hc]; rfl
  ·rw [if_neg (by simpa using hk),pure_bind]
   show forIn r acc f=_
   rw [closure_go env f hf r _ hr]
   show _=(pure (takenGo env ((n,k) :: r) acc):Sem (List (Str×Addr)))
   rw [takenGo,if_neg hk]
theorem closure_taken {env:Env} {scope:Scope} (h:∀ x∈scope.names,x.2=.free->∃ c,env.cells.lookup x.1=some c):closureFor scope env=pure (takenGo env scope.names []):=by
 unfold closureFor
 dsimp only
 rw [closure_go env _ (fun n k c=>?_) scope.names [] h]
 ·rfl
 ·by_cases hk:(k == NameKind.free)=true
  ·simp only [hk,if_true]
  ·simp only [hk,if_false,Bool.false_eq_true]
theorem taken_in {env:Env} {x:Str} {c:Addr}:∀ {ns:List (Str×NameKind)} {acc:List (Str×Addr)},(∀ y∈ns,y.2=.free->∃ c,env.cells.lookup y.1=some c)->(∀ y c,acc.lookup y=some c->env.cells.lookup y=some c)->(takenGo env ns acc).lookup x=some c->env.cells.lookup x=some c
 | [],_,_,ha,e=>ha _ _ e
 | (n,k) :: r,acc,h,ha,e=>by
  have hr:∀ y∈r,y.2=.free->∃ c,env.cells.lookup y.1=some c:=fun y hy=>h y (List.mem_cons_of_mem _ hy)
  unfold takenGo at e
  by_cases hk:k=.free
  ·rw [if_pos hk] at e
   refine taken_in hr (fun y c' q=>?_) e
   rw [List.lookup_cons] at q
   by_cases hy:(y == n)=true
   ·rw [hy] at q
    have e1:y=n:=eq_of_beq hy
    subst e1
    obtain ⟨c0,hc0⟩:=h (y,k) List.mem_cons_self hk
    rw [hc0] at q ⊢
    exact q
   ·have hy':(y == n)=false:=by simpa using hy
    rw [hy'] at q
    exact ha y c' q
  ·rw [if_neg hk] at e
   exact taken_in hr ha e
theorem taken_some {env:Env} {x:Str}:∀ {ns:List (Str×NameKind)} {acc:List (Str×Addr)},((x,NameKind.free)∈ns\/∃ c,acc.lookup x=some c)->∃ c,(takenGo env ns acc).lookup x=some c
 | [],_,h=>by rcases h with h | h; exact absurd h (by simp); exact h
 | (n,k) :: r,acc,h=>by
  unfold takenGo
  have grow:∀ a,(∃ c,acc.lookup x=some c)->∃ c,((n,a) :: acc).lookup x=some c:=fun a hp0=>by
   obtain ⟨c,hc⟩:=hp0
   rw [List.lookup_cons]
   by_cases hy:(x == n)=true
   ·rw [hy]; exact ⟨_,rfl⟩
   ·have hy':(x == n)=false:=by simpa using hy
    rw [hy']; exact ⟨c,hc⟩
  by_cases hk:k=.free
  ·rw [if_pos hk]
   refine taken_some ?_
   rcases h with h | h
   ·rcases List.mem_cons.mp h with e | h
    ·injection e with e1 e2
     subst e1
     exact .inr ⟨(env.cells.lookup x).getD 0,by rw [List.lookup_cons]; simp⟩
    ·exact .inl h
   ·exact .inr (grow _ h)
  ·rw [if_neg hk]
   refine taken_some ?_
   rcases h with h | h
   ·rcases List.mem_cons.mp h with e | h
    ·injection e with e1 e2
     exact absurd e2.symm hk
    ·exact .inl h
   ·exact .inr h
noncomputable abbrev compCx (X:Cx) (N:List Str) (scope:Scope) (C:Addr) (s:Shared) (H:Hp) (fp:List Addr):Cx :=
 { X with env:=compEnvC scope (takenGo X.env scope.names []) C X.env,N:=N,s₀:=s,H₀:=H,outer:=X.stack,stack:=X.stack,ex:=fp,fn:=fun _=>false,pn:=[],xe:=fun _ _=>False }
theorem relabel_cell {scope:Scope} {env:Env} {x:Str} (h:(relabel scope env).names.lookup x=some .cell\/(relabel scope env).names.lookup x=some .free) (hcell:∀ y∈scope.names,y.2≠.cell):(x,NameKind.free)∈scope.names:=by
 have go:∀ k,(relabel scope env).names.lookup x=some k->k=.cell\/k=.free->(x,NameKind.free)∈scope.names:=by
  intro k hk hkk
  have hm:=PySem.mem_of_lookup hk
  unfold relabel at hm
  dsimp only at hm
  obtain ⟨⟨n,j⟩,hj,e⟩:=List.mem_map.mp hm
  dsimp only at e
  by_cases hc:(j == NameKind.free&&env.scope.kind == .function&&env.kindOf n == some .cell)=true
  ·rw [if_pos hc] at e
   rw [Bool.and_eq_true,Bool.and_eq_true] at hc
   injection e with e1 e2
   have ej:j=.free:=eq_of_beq hc.1.1
   rw [ej,e1] at hj
   exact hj
  ·rw [if_neg hc] at e
   injection e with e1 e2
   subst e1
   rcases hkk with r | r
   ·exact absurd (e2.trans r) (hcell _ hj)
   ·rw [e2.trans r] at hj; exact hj
 rcases h with h | h
 ·exact go _ h (.inl rfl)
 ·exact go _ h (.inr rfl)
section
variable {X:Cx} {N:List Str} {scope:Scope} {fp:List Addr} {pins:List (Addr×Obj)} {σ:L2.St} {H:Hp} {s:Shared} {C:Addr}
theorem compOk (I:Inv X pins σ H s) (hcell:∀ y∈scope.names,y.2≠.cell) (hkind:scope.kind=.function) (hfree:∀ y∈scope.names,y.2=.free->X.env.kindOf y.1=some .cell) (hC:s.heap.objs.size<=C) (hfp:∀ b∈fp,FpOk X pins H b/\b < s.heap.objs.size):(compCx X N scope C s H fp).Ok:=by
 have hcl:∀ y∈scope.names,y.2=.free->∃ c,X.env.cells.lookup y.1=some c:=fun y hy hf=>I.ok.has _ (.inl (hfree y hy hf))
 have tin:∀ x c,(takenGo X.env scope.names []).lookup x=some c->X.env.cells.lookup x=some c:=fun x c e=>taken_in hcl (fun y c q=>by simp at q) e
 refine ⟨I.ok.mod,hkind,I.ok.glob,I.ok.blt,hC,fun x y c h1 h2=>I.ok.inj x y c (tin x c h1) (tin y c h2),fun x hx=>?_,fun x c h=>absurd h (by simp),I.ok.hd,I.ok.frames,.inl rfl,fun b hb=>?_,I.bs,Nat.le_trans I.ok.bsz I.sz,fun b o e hb=>?_,fun b hb=>?_,I.stack,I.stkFree⟩
 ·exact taken_some (.inl (relabel_cell hx hcell))
 ·obtain ⟨⟨f0,f1,f2,f3,f4,f5⟩,hlt⟩:=hfp b hb
  exact ⟨Nat.ne_of_lt (Nat.lt_of_lt_of_le hlt hC),fun x c e=>f4 x c (tin x c e)⟩
 ·obtain ⟨⟨f0,f1,f2,f3,f4,f5⟩,hlt⟩:=hfp b hb
  rcases f3 with f3 | f3
  ·exact I.ok.noex b o e f3
  ·exact absurd (Nat.lt_of_lt_of_le (Heap.lt_size e) (Nat.le_trans I.ok.bsz f3)) (Nat.lt_irrefl _)
 ·obtain ⟨⟨f0,f1,f2,f3,f4,f5⟩,hlt⟩:=hfp b hb
  intro z
  rcases List.mem_cons.mp (I.stkSub b z) with e | e
  ·exact f1 e
  ·exact f2 e
theorem compInv {h₁:Heap} {m:Nat} {fr:List Nat} {tk:Nat} (I:Inv X pins σ H s) (ok:(compCx X N scope s.heap.objs.size s H fp).Ok) (hcell0:∀ y∈scope.names,y.2≠.cell) (hfree:∀ y∈scope.names,y.2=.free->X.env.kindOf y.1=some .cell) (hN:N.length=m+fr.length)
  (hfr:∀ j i x,fr[j]?=some i->N[m+j]?=some x->X.N[i]?=some x/\X.env.scope.names.lookup x=some .cell/\(relabel scope X.env).names.lookup x=some .cell) (hns:∃ mm,h₁.Ns s.heap.objs.size mm) (hk:∀ b o,s.heap.get? b=some o->h₁.get? b=some o) :
  Inv (compCx X N scope s.heap.objs.size s H fp) [] (List.replicate m none++fr.map fun i=>(σ[i]?).getD none) H { s with heap:=h₁,toks:=tk }:=by
 have hcl:∀ y∈scope.names,y.2=.free->∃ c,X.env.cells.lookup y.1=some c:=fun y hy hf=>I.ok.has _ (.inl (hfree y hy hf))
 have tin:∀ x c,(takenGo X.env scope.names []).lookup x=some c->X.env.cells.lookup x=some c:=fun x c e=>taken_in hcl (fun y c q=>by simp at q) e
 obtain ⟨mm,hns⟩:=hns
 refine ⟨ok,rfl,I.bare,Un.kept hk,⟨mm,hns,fun i x v h1 h2 h3=>?_⟩,fun x c e=>?_,I.hok.fresh (Nat.le_refl _),fun x c e=>?_,fun p hp=>absurd hp (by simp),I.hok.kept hk,?_⟩
 ·by_cases hi:i < m
  ·rw [List.getElem?_append_left (by simpa using hi),List.getElem?_replicate] at h2
   split at h2 <;> cases h2
  ·obtain ⟨j,rfl⟩:∃ j,i=m+j:=⟨i - m,by lia⟩
   rw [List.getElem?_append_right (by simp),List.length_replicate,Nat.add_sub_cancel_left,List.getElem?_map] at h2
   cases hj:fr[j]? with
   | none=>rw [hj] at h2; cases h2
   | some k =>
    rw [hj] at h2
    have h2':(σ[k]?).getD none=some v:=by simpa using h2
    have hk':σ[k]?=some (some v):=by
     cases q:σ[k]? with
     | none=>rw [q] at h2'; cases h2'
     | some o=>rw [q] at h2'; simp at h2'; rw [h2']
    obtain ⟨e1,e2,e3⟩:=hfr j k x hj h1
    obtain ⟨m0,hn0,hl0⟩:=I.loc
    obtain ⟨u,r,l⟩:=hl0 k x v e1 hk' (.inr (.inl e2))
    refine ⟨u,r,.inr ⟨.inl e3,?_⟩⟩
    rcases l with ⟨l1,_⟩ | ⟨_,c,hc,hcell⟩
    ·have:X.env.scope.names.lookup x=some .local:=l1
     rw [e2] at this; cases this
    ·have hx:(x,NameKind.free)∈scope.names:=relabel_cell (.inl e3) hcell0
     obtain ⟨c',hc'⟩:=taken_some (env:=X.env) (x:=x) (ns:=scope.names) (acc:=[]) (.inl hx)
     have:=tin x c' hc'
     rw [hc] at this
     have ec:c=c':=Option.some.inj this
     subst ec
     obtain ⟨oc,hoc,hd⟩:=hcell
     exact ⟨c,hc',oc,hk _ _ hoc,hd⟩
 ·obtain ⟨v,oc,hoc,hd⟩:=I.cell x c (tin x c e)
  exact ⟨v,oc,hk _ _ hoc,hd⟩
 ·exact I.freeC x c (tin x c e)
 ·rw [List.length_append,List.length_replicate,List.length_map]
  exact hN.symm
theorem compLoop_own {prog:Program} {w:World} {A:Around} {R:Result->Shared->Prop} {s:Shared} {elt target iter:Expr} {ifs:List Expr} {sc:Scope} {pos:Pos} {it acc:Value} {env:Env} (J:Nat->Shared->Prop)
  (turn:∀ n s,J n s->wpAny (model prog w) A (pyNext it) (fun r s₁=>match r with
   | none=>R (.ok .next) s₁
   | some v=>wpAny (model prog w) A (letOwnedTupleGo target it v) (fun _ s₁'=>wpAny (model prog w) A (assign target env v) (fun _ s₂ =>
     wpAny (model prog w) A (forIn ifs true fun c r=>if r=true then do let ok ← isTrue c env (eval c env); pure (ForInStep.yield ok) else pure (ForInStep.yield r)) (fun k s₃ =>
      if k=true then wpAny (model prog w) A (eval elt env) (fun x s₄=>wpAny (model prog w) A (call (.builtin "list.append") [acc,x]) (fun _ s₅=>∃ m,m < n/\J m s₅) (fun _ _=>False) s₄) (fun _ _=>False) s₃
      else ∃ m,m < n/\J m s₃) (fun _ _=>False) s₂) (fun _ _=>False) s₁') (fun _ _=>False) s₁) (fun _ _=>False) s) (n:Nat) (h:J n s) :
  codeAny (model prog w) A (.compLoop (.ListComp elt [⟨target,iter,ifs,0⟩] sc pos) 0 it acc env) R s:=by
 have no:∀ {α:Type} {t:Sem α} {Q:α->Shared->Prop} {E:Value->Shared->Prop} {s:Shared},wpAny (model prog w) A t Q (fun _ _=>False) s->wpAny (model prog w) A t Q E s:=fun h=>wpAny_mono h (fun _ _ q=>q) fun _ _ z=>z.elim
 refine codeAny_loop rfl J (fun n s hJ=>?_) n h
 show wpAny _ A ((compTurn (.ListComp elt [⟨target,iter,ifs,0⟩] sc pos) 0 it acc env).onRaise (fun x=>do noteFrame x env; theTreesLotGoes x)) _ _ s
 refine wpAny_noted ?_
 rw [compTurn_list]
 refine wpAny_bind (wpAny_standAt (wpAny_bind (thn (no (turn n s hJ)) fun r s₁ h₁=>?_)))
 cases r with
 | none=>exact wpAny_pure h₁
 | some v =>
  refine wpAny_bind (thn (no h₁) fun _ s₂ h₂=>wpAny_bind (thn (no h₂) fun _ s₃ h₃=>wpAny_bind (thn (no h₃) fun k s₄ h₄=>?_)))
  cases k with
  | false=>exact wpAny_pure ⟨rfl,h₄⟩
  | true=>exact wpAny_bind (wpAny_bind (thn (no h₄) fun x s₅ h₅=>wpAny_bind (thn (no h₅) fun _ s₆ h₆=>wpAny_pure (wpAny_pure ⟨rfl,h₆⟩))))
noncomputable def CompEnd (X:Cx) (pins:List (Addr×Obj)) (σ:L2.St) (H:Hp) (G:Gp) (Q:DK) (C Dd:Addr) (s':Shared):Prop :=
 ∃ m H' G',Inv X pins σ H' s'/\s'.heap.Ns C m/\FpOk X pins H' C/\Mv X.K H G H' G'/\Q (.ref Dd) G'
inductive PIf (Xc:Cx):List Expr->Option TT2->Prop
 | none:PIf Xc [] none
 | some {c:Expr} {t:TT2}:PT2 Xc c t->PIf Xc [c] (some t)
theorem comp_core {τ:St2} {G G2:Gp} {H2:Hp} {s2:Shared} {tg elt iter:Expr} {ifs:List Expr} {pos:Pos} {m:Nat} {fr:List Nat} {E:XK2} {g:TG2} {c:Option TT2} {te:TE2} {J:It} {tn:Nat->Heap->Prop} {it:Addr} {ds:List D} {ok:Gp->Prop} {Q:DK} {Rr:Value->Addr->Result->Shared->Prop} {E0:Value->Shared->Prop}
  (hc:X.calm=true) (hcell:∀ y∈scope.names,y.2≠.cell) (hkind:scope.kind=.function) (hfree:∀ y∈scope.names,y.2=.free->X.env.kindOf y.1=some .cell) (hN:N.length=m+fr.length)
  (hfr:∀ j i x,fr[j]?=some i->N[m+j]?=some x->X.N[i]?=some x/\X.env.scope.names.lookup x=some .cell/\(relabel scope X.env).names.lookup x=some .cell)
  (hg:∀ C s H fp,PG2 (compCx X N scope C s H fp) tg g) (hi:∀ C s H fp,PIf (compCx X N scope C s H fp) ifs c) (he:∀ C s H fp,PE2 (compCx X N scope C s H fp) elt te)
  (I:I2 X pins σ H2 τ G2 s2) (m2:Mv X.K H G H2 G2) (T:Turn X.prog X.w X.K tg J fp it tn) (st2:tn 0 s2.heap) (f2:∀ b∈fp,FpOk X pins H2 b) (wk:Walk2 X.K J H2 ds ok) (hz:ds.length<=SZ)
  (hE0:∀ ex G,¬ E ex G) (q:compGo g c te ok ds E (compSt m fr τ) G2 [] fun xs G3=>dNew G3 (.lst xs) Q)
  (fin:∀ C s',CompEnd X pins σ H G Q C s2.heap.objs.size s'->Rr (.ref s2.heap.objs.size) C (.ok .next) s') :
  wpAny (model X.prog X.w) X.A (newList []) (fun acc s₃=>wpAny (model X.prog X.w) X.A (newFunctionEnv scope X.env.globals (takenGo X.env scope.names []) [] X.env.qual none .none (some X.env)) (fun cenv s₄ =>
   codeAny (model X.prog X.w) X.A (.compStart (.ListComp elt [⟨tg,iter,ifs,0⟩] scope pos) 0 (.ref it) acc { cenv with scope:=relabel scope X.env }) (Rr acc cenv.locals) s₄) E0 s₃) E0 s2:=by
 have sz:sizeLine=16777216:=sizeLine_eq
 have fresh2:H2 s2.heap.objs.size=none:=I.inv.hok.fresh (Nat.le_refl _)
 have gfree2:G2 s2.heap.objs.size=none:=I.ab.free fresh2
 refine wpAny_newObj_type (wpAny_newFunctionEnv hcell (by intro y hy; simp at hy) (fun h₁ hns₁ hsb₁=>?_) hkind)
 dsimp only at hns₁ hsb₁ ⊢
 have I3:Inv X pins σ (upd H2 s2.heap.objs.size (.lst [])) { s2 with heap:=s2.heap.push { cls:=.type "list",data:=.seq ([]:List Value).toArray },toks:=s2.toks }:=I.inv.lnew (ys:=[]) .nil (Nat.zero_le _)
 generalize hs3:({ s2 with heap:=s2.heap.push { cls:=.type "list",data:=.seq ([]:List Value).toArray },toks:=s2.toks }:Shared)=s3 at I3
 generalize hH3:upd H2 s2.heap.objs.size (.lst [])=H3 at I3
 have eH3:∀ b,b≠s2.heap.objs.size->H3 b=H2 b:=fun b hb=>by rw [← hH3,upd_ne hb]
 have heap3:s3.heap=s2.heap.push { cls:=.type "list",data:=.seq ([]:List Value).toArray }:=by rw [← hs3]
 have size3:s3.heap.objs.size=s2.heap.objs.size+1:=by rw [heap3,Heap.size_push]
 have hfpObj:∀ b∈fp,b < s2.heap.objs.size:=fun b hb=>by
  obtain ⟨o,e,_⟩:=T.obj _ _ st2 b hb
  exact Heap.lt_size e
 have hfp3:∀ b∈fp,FpOk X pins H3 b/\b < s3.heap.objs.size:=fun b hb=>by
  have hb2:=hfpObj b hb
  obtain ⟨f0,f1⟩:=f2 b hb
  exact ⟨⟨by rw [eH3 b (Nat.ne_of_lt hb2)]; exact f0,f1⟩,Nat.lt_of_lt_of_le hb2 (by rw [size3]; exact Nat.le_succ _)⟩
 have okc:(compCx X N scope s3.heap.objs.size s3 H3 fp).Ok:=compOk I3 hcell hkind hfree (Nat.le_refl _) hfp3
 have hkeep:∀ b o,s3.heap.get? b=some o->h₁.get? b=some o:=fun b o e=>by
  have hb:b < s3.heap.objs.size:=Heap.lt_size e
  refine hsb₁.extBut b o ?_ (Heap.get?_push_of_some _ ?_)
  ·rw [← heap3]; exact Nat.ne_of_lt hb
  ·rw [← heap3]; exact e
 have hnsC:∃ mm,h₁.Ns s3.heap.objs.size mm:=⟨_,by rw [heap3]; exact hns₁⟩
 have I4:=compInv (tk:=s3.toks+([]:List (Str×Value)).length) I3 okc hcell hfree hN hfr hnsC hkeep
 have kp23:Kp H2 H3:=by rw [← hH3]; exact .new fresh2
 have ab3:AbH X.K H3 G2:=by rw [← hH3]; exact (Mv.hid I.ab fresh2).ab
 have mv3:Mv X.K H2 G2 H3 G2:=by rw [← hH3]; exact .hid I.ab fresh2
 have st3:AbS X.K H3 (List.replicate m none++fr.map fun i=>(σ[i]?).getD none) (compSt m fr τ):=by
  refine ⟨by unfold compSt; rw [List.length_append,List.length_append,List.length_map,List.length_map,List.length_replicate,List.length_replicate],fun i d h2=>?_⟩
  unfold compSt at h2
  by_cases hi:i < m
  ·rw [List.getElem?_append_left (by simpa using hi),List.getElem?_replicate] at h2
   split at h2 <;> cases h2
  ·obtain ⟨j,rfl⟩:∃ j,i=m+j:=⟨i - m,by lia⟩
   rw [List.getElem?_append_right (by simp),List.length_replicate,Nat.add_sub_cancel_left,List.getElem?_map] at h2
   rw [List.getElem?_append_right (by simp),List.length_replicate,Nat.add_sub_cancel_left,List.getElem?_map]
   cases hj:fr[j]? with
   | none=>rw [hj] at h2; cases h2
   | some k =>
    rw [hj] at h2
    have h2':(τ[k]?).getD none=some d:=by simpa using h2
    have hk':τ[k]?=some (some d):=by
     cases qq:τ[k]? with
     | none=>rw [qq] at h2'; cases h2'
     | some o=>rw [qq] at h2'; simp at h2'; rw [h2']
    obtain ⟨v,e1,e2⟩:=I.st.at' k d hk'
    exact ⟨v,by simp [e1],e2.mono kp23⟩
 have hD3:H3 s2.heap.objs.size=some (.lst []):=by rw [← hH3,upd_same]
 have st2':tn 0 h₁:=T.keep _ _ _ st2 fun b hb o e=>hkeep b o (by rw [heap3]; exact Heap.get?_push_of_some _ e)
 have statc:∀ {Hc:Hp},(∀ b∈fp,Hc b=none)->∀ b∈fp,FpOk (compCx X N scope s3.heap.objs.size s3 H3 fp) [] Hc b:=fun hn b hb =>
  ⟨hn b hb,(okc.exf b hb).1,okc.exfs b hb,.inl hb,fun x c e=>(okc.exf b hb).2 x c e,fun p hp=>absurd hp (by simp)⟩
 have neD:∀ b∈fp,b≠s2.heap.objs.size:=fun b hb=>Nat.ne_of_lt (hfpObj b hb)
 have loop:codeAny (model X.prog X.w) X.A (.compLoop (.ListComp elt [⟨tg,iter,ifs,0⟩] scope pos) 0 (.ref it) (.ref s2.heap.objs.size) (compCx X N scope s3.heap.objs.size s3 H3 fp).env) (Rr (.ref s2.heap.objs.size) s3.heap.objs.size)
   { s3 with heap:=h₁,toks:=s3.toks+([]:List (Str×Value)).length }:=by
  refine compLoop_own (fun n s'=>∃ i σc Hc τc Gc accV accD,I2 (compCx X N scope s3.heap.objs.size s3 H3 fp) [] σc Hc τc Gc s'/\Gc s2.heap.objs.size=none/\Hc s2.heap.objs.size=some (.lst accV)/\RepDs X.K Hc accV accD/\accD.length<=i/\Mv X.K H2 G2 Hc Gc/\tn i s'.heap/\(∀ b∈fp,Hc b=none) /\
   n=ds.length - i/\i<=ds.length/\compGo g c te ok (ds.drop i) E τc Gc accD fun xs G3=>dNew G3 (.lst xs) Q) ?_ ds.length
   ⟨0,_,H3,_,G2,[],[],⟨I4,st3,ab3⟩,gfree2,hD3,.nil,Nat.le_refl _,mv3,st2',fun b hb=>by rw [eH3 b (neD b hb)]; exact (f2 b hb).1,rfl,Nat.zero_le _,q⟩
  rintro n s4 ⟨i,σc,Hc,τc,Gc,accV,accD,Ic,gD,hD,rA,hA,mc,stc,frc,rfl,hle,wq⟩
  have kpc:Kp H2 Hc:=mc.kp I.ab
  by_cases hlt:i < ds.length
  ·rw [List.drop_eq_getElem_cons hlt] at wq
   obtain ⟨okG,wq⟩:=wq
   obtain ⟨go,yl⟩:=(wk i Hc Gc kpc Ic.ab okG).1 ds[i] (by simp [hlt])
   refine thn (T.item (compCx X N scope s3.heap.objs.size s3 H3 fp) rfl rfl rfl hc i [] s4 σc Hc (fun _ _=>False) Ic.inv (statc frc) stc go) ?_
   rintro r s5 ⟨u,hr,h5⟩
   subst hr
   refine thn h5 ?_
   rintro _ s6 ⟨x,H6,I6,r6,y6,st6,fr6⟩
   obtain ⟨rd6,m6⟩:=yl x H6 y6
   have I6':=I6.pinned (statc fr6) (T.obj _ _ st6)
   have J6:I2 (compCx X N scope s3.heap.objs.size s3 H3 fp) ([]++pinsAt fp s6.heap) σc H6 τc Gc s6:=⟨I6',Ic.st.mono (m6.kp Ic.ab),m6.ab⟩
   have back:∀ {σ9:L2.St} {H9:Hp} {τ9:St2} {G9:Gp} {s9:Shared} {aV:List V} {aD:List D},I2 (compCx X N scope s3.heap.objs.size s3 H3 fp) ([]++pinsAt fp s6.heap) σ9 H9 τ9 G9 s9->Mv X.K H2 G2 H9 G9->G9 s2.heap.objs.size=none->H9 s2.heap.objs.size=some (.lst aV)->RepDs X.K H9 aV aD->aD.length<=i+1 ->
     (compGo g c te ok (ds.drop (i+1)) E τ9 G9 aD fun xs G3=>dNew G3 (.lst xs) Q)->∃ mm,mm < ds.length - i/\∃ i σc Hc τc Gc accV accD,I2 (compCx X N scope s3.heap.objs.size s3 H3 fp) [] σc Hc τc Gc s9/\Gc s2.heap.objs.size=none/\Hc s2.heap.objs.size=some (.lst accV)/\RepDs X.K Hc accV accD/\accD.length<=i /\
      Mv X.K H2 G2 Hc Gc/\tn i s9.heap/\(∀ b∈fp,Hc b=none)/\mm=ds.length - i/\i<=ds.length/\compGo g c te ok (ds.drop i) E τc Gc accD fun xs G3=>dNew G3 (.lst xs) Q:=fun {σ9 H9 τ9 G9 s9 aV aD} I9 m9 g9 h9 r9 l9 n9=>by
    refine ⟨ds.length - (i+1),by lia,i+1,σ9,H9,τ9,G9,aV,aD,⟨I9.inv.unpinned,I9.st,I9.ab⟩,g9,h9,r9,l9,m9,T.keep _ _ _ st6 fun b hb o e=>(I9.inv.pin (b,o) (List.mem_append_right _ (List.mem_append_right _ (mem_pinsAt hb e)))).1,fun b hb=>?_,rfl,hlt,n9⟩
    obtain ⟨o,e,d⟩:=T.obj _ _ st6 b hb
    exact (I9.inv.pin (b,o) (List.mem_append_right _ (List.mem_append_right _ (mem_pinsAt hb e)))).2.1
   have mc6:=mc.trans m6
   have hD6:=m6.keep _ _ hD gD
   refine thn (hg _ _ _ _ E _ s6 σc H6 τc Gc x ds[i] u _ (Lk.none hE0) J6 r6 rd6 wq) ?_
   rintro _ s7 ⟨σ7,H7,τ7,G7,I7,m7,q7⟩
   have hD7:=m7.keep _ _ hD6.1 gD
   have mc7:=mc6.trans m7
   have rA7:=rA.mono ((m6.trans m7).kp Ic.ab)
   have elt_:∀ (H8:Hp) (G8:Gp) (s8:Shared),I2 (compCx X N scope s3.heap.objs.size s3 H3 fp) ([]++pinsAt fp s6.heap) σ7 H8 τ7 G8 s8->Mv X.K H7 G7 H8 G8->(te E τ7 G8 fun y G9=>compGo g c te ok (ds.drop (i+1)) E τ7 G9 (accD++[y]) fun xs G3=>dNew G3 (.lst xs) Q) ->
     wpAny (model X.prog X.w) X.A (eval elt (compCx X N scope s3.heap.objs.size s3 H3 fp).env) (fun y s₄=>wpAny (model X.prog X.w) X.A (call (.builtin "list.append") [.ref s2.heap.objs.size,y]) (fun _ s₅=>∃ mm,mm < ds.length - i/\∃ i σc Hc τc Gc accV accD,I2 (compCx X N scope s3.heap.objs.size s3 H3 fp) [] σc Hc τc Gc s₅/\Gc s2.heap.objs.size=none/\Hc s2.heap.objs.size=some (.lst accV)/\RepDs X.K Hc accV accD/\accD.length<=i /\
      Mv X.K H2 G2 Hc Gc/\tn i s₅.heap/\(∀ b∈fp,Hc b=none)/\mm=ds.length - i/\i<=ds.length/\compGo g c te ok (ds.drop i) E τc Gc accD fun xs G3=>dNew G3 (.lst xs) Q) (fun _ _=>False) s₄) (fun _ _=>False) s8:=fun H8 G8 s8 I8 m8 q8=>by
    refine thnE (he _ _ _ _) (Lk.none hE0) I8 q8 fun v H9 d9 G9 u9 s9 I9 m9 r9 rd9 q9=>?_
    have m79:=m8.trans m9
    have hD9:=m79.keep _ _ hD7.1 hD7.2
    have rA9:=rA7.mono (m79.kp I7.ab)
    have mc9:=mc7.trans m79
    refine thn (mt_append (X:=compCx X N scope s3.heap.objs.size s3 H3 fp) _ s9 σ7 H9 (.ref s2.heap.objs.size) [v] _ [u9] (fun _ H'=>H'=upd H9 s2.heap.objs.size (.lst (accV++[v]))) I9.inv rfl (.cons r9 .nil)
     ⟨_,accV,v,rfl,rfl,hD9.1,by rw [rA.length,sz]; have:SZ=16777216:=rfl; lia,rfl⟩) ?_
    rintro _ s10 ⟨v10,H10,I10,_,e10⟩
    subst e10
    have kpA:Kp H9 (upd H9 s2.heap.objs.size (.lst (accV++[v]))):=.putL hD9.1
    have abA:AbH X.K (upd H9 s2.heap.objs.size (.lst (accV++[v]))) G9:=fun a g' e=>by
     have ne:a≠s2.heap.objs.size:=by rintro rfl; rw [hD9.2] at e; cases e
     exact (I9.ab a g' e).mono kpA (upd_ne ne)
    have mA:Mv X.K H2 G2 (upd H9 s2.heap.objs.size (.lst (accV++[v]))) G9:=⟨fun a o e n=>by
      have ne:a≠s2.heap.objs.size:=ne_of_none e fresh2
      obtain ⟨e1,e2⟩:=mc9.keep a o e n
      exact ⟨by rw [upd_ne ne]; exact e1,e2⟩,fun a n=>by
      by_cases ha:a=s2.heap.objs.size
      ·rw [ha,upd_same]; simp
      ·rw [upd_ne ha]; exact mc9.stay a n,abA⟩
    exact back ⟨I10,I9.st.mono kpA,abA⟩ mA hD9.2 upd_same ((rA9.append (.cons rd9 .nil)).mono kpA) (by rw [List.length_append,List.length_singleton]; lia) q9
   cases hi s3.heap.objs.size s3 H3 fp with
   | none =>
    refine wpAny_tests_nil ?_
    rw [if_pos rfl]
    exact elt_ H7 G7 s7 I7 (.refl I7.ab) q7
   | some hcond =>
    refine wpAny_tests_one (thnT hcond (Lk.none hE0) I7 q7 fun k H8 G8 s8 I8 m8 q8=>?_)
    cases k with
    | true =>
     rw [if_pos rfl] at q8 ⊢
     exact elt_ H8 G8 s8 I8 m8 q8
    | false =>
     rw [if_neg Bool.false_ne_true] at q8 ⊢
     have hD8:=m8.keep _ _ hD7.1 hD7.2
     exact back I8 (mc7.trans m8) hD8.2 hD8.1 (rA7.mono (m8.kp I7.ab)) (by lia) q8
  ·have hn:ds.length<=i:=by lia
   rw [List.drop_eq_nil_of_le hn] at wq
   obtain ⟨okG,qn⟩:=wq
   have stop:=(wk i Hc Gc kpc Ic.ab okG).2 hn
   refine thn (T.done (compCx X N scope s3.heap.objs.size s3 H3 fp) rfl rfl rfl hc i [] s4 σc Hc (fun _ _=>False) Ic.inv (statc frc) stc stop) ?_
   rintro r s5 ⟨hr,I5⟩
   subst hr
   refine fin s3.heap.objs.size s5 ?_
   obtain ⟨mm,hns5,_⟩:=I5.loc
   have hC5:Hc s3.heap.objs.size=none:=I5.free
   have I6:Inv X pins σ Hc s5:=by
    obtain ⟨h5,g5,d5,t5,o5⟩:=s5
    have eo:o5=s3.os:=I5.os
    subst eo
    exact I3.call (h':=h5) (g':=g5) (d':=d5) (t':=t5) (ch:=fp) I5.base I5.hok I5.bare fun b hb=>by
     obtain ⟨⟨f0,f1,f2',f3,f4,f5⟩,hl⟩:=hfp3 b hb
     exact ⟨f3,f1,f4,f5⟩
   have mvF:Mv X.K H2 G2 Hc (updG Gc s2.heap.objs.size (.lst accD)):=⟨fun a o e n=>by
     have ne:a≠s2.heap.objs.size:=ne_of_none e fresh2
     obtain ⟨e1,e2⟩:=mc.keep a o e n
     exact ⟨e1,by rw [updG_ne ne]; exact e2⟩,mc.stay,fun a g' e=>by
     by_cases ha:a=s2.heap.objs.size
     ·subst ha
      rw [updG_same] at e
      cases e
      exact ⟨accV,hD,rA⟩
     ·rw [updG_ne ha] at e
      exact Ic.ab a g' e⟩
   exact ⟨mm,Hc,_,I6,hns5,I3.fpOk (Nat.le_refl _) hC5,m2.trans mvF,qn _ gD⟩
 have all:codeAny (model X.prog X.w) X.A (.compStart (.ListComp elt [⟨tg,iter,ifs,0⟩] scope pos) 0 (.ref it) (.ref s2.heap.objs.size) (compCx X N scope s3.heap.objs.size s3 H3 fp).env) (Rr (.ref s2.heap.objs.size) s3.heap.objs.size)
   { s3 with heap:=h₁,toks:=s3.toks+([]:List (Str×Value)).length }:=codeAny_compStart_list loop (T.self _ 0 _ _ _ st2' loop)
 subst hs3
 exact all
end
end K2
end
section
namespace K2
open PySem PySem.Spec PyProof.Rows L2
section
variable {X:Cx} {N:List Str} {scope:Scope} {tg elt iter:Expr} {ifs:List Expr} {pos:Pos} {m:Nat} {fr:List Nat} {wi:TI2} {g:TG2} {c:Option TT2} {te:TE2}
structure CompOk (X:Cx) (N:List Str) (scope:Scope) (m:Nat) (fr:List Nat):Prop where
 cell:∀ y∈scope.names,y.2≠.cell
 kind:scope.kind=.function
 names:∀ y∈scope.names,y.2=.local->scope.names.lookup y.1=some .local
 free:∀ y∈scope.names,y.2=.free->X.env.kindOf y.1=some .cell
 len:N.length=m+fr.length
 at':∀ j i x,fr[j]?=some i->N[m+j]?=some x->X.N[i]?=some x/\X.env.scope.names.lookup x=some .cell/\(relabel scope X.env).names.lookup x=some .cell
theorem CompOk.closed {X:Cx} {N:List Str} {scope:Scope} {m:Nat} {fr:List Nat} (k:CompOk X N scope m fr) {pins:List (Addr×Obj)} {σ:L2.St} {H:Hp} {s:Shared} (I:Inv X pins σ H s):closureFor scope X.env=pure (takenGo X.env scope.names []) :=
 closure_taken fun y hy hf=>I.ok.has _ (.inl (k.free y hy hf))
theorem pe2_compG (hc:X.calm=true) (k:CompOk X N scope m fr) (hi:PI2 X tg iter wi) (hg:∀ C s H fp,PG2 (compCx X N scope C s H fp) tg g) (hif:∀ C s H fp,PIf (compCx X N scope C s H fp) ifs c) (he:∀ C s H fp,PE2 (compCx X N scope C s H fp) elt te)
  (hs:autoParam (∀ x,foldedSetIterable iter X.env x=pure x) Ai._auto_1):PE2 X (.ListComp elt [⟨tg,iter,ifs,0⟩] scope pos) (dComp m fr wi g c te):=by
 intro E pins s σ H τ G Q hE I h
 rw [eval_ListComp]
 refine wpAny_comprehension_free (use:=none) rfl hs (k.closed I.inv) k.kind k.names (thn (hi E pins s σ H τ G _ hE I h) fun xv s₁ h₁=>thn h₁ fun itv s₂ h₂=>?_)
 obtain ⟨it,fp,tn,J,H2,G2,ds,ok,e,I2',m2,T,st2,f2,wk,hz,q⟩:=h₂
 subst e
 refine comp_core (Rr:=fun acc C=>compPost (model X.prog X.w) X.A X.xe none (EP2 X pins σ H G Q) acc C) hc k.cell k.kind k.free k.len k.at' hg hif he (I.mv I2' m2) m2 T st2 f2 wk hz (fun _ _ z=>z) q ?_
 rintro C s' ⟨mm,H',G',I',hns,fpC,mv,q'⟩
 refine ⟨mm,hns,fun h' hs'=>?_⟩
 obtain ⟨f0,f1,_,f3,f4,f5⟩:=fpC
 exact ⟨.ref _,H',.ref _,G',I'.turned (t':=s'.toks) (fun b o hb e=>hs'.extBut b o hb e) f0 f1 f3 f4 f5,mv,rfl,.ref _,q'⟩
theorem ps2_setComp {i:Nat} {y:Str} {py spos:Pos} (hN:X.N.Nodup) (hyi:X.N[i]?=some y) (hy:X.env.scope.names.lookup y=some .local) (hc:X.calm=true) (k:CompOk X N scope m fr) (hi:PI2 X tg iter wi) (hg:∀ C s H fp,PG2 (compCx X N scope C s H fp) tg g)
  (hif:∀ C s H fp,PIf (compCx X N scope C s H fp) ifs c) (he:∀ C s H fp,PE2 (compCx X N scope C s H fp) elt te) (hsw:autoParam (swapsWith (.ListComp elt [⟨tg,iter,ifs,0⟩] scope pos) (some (.Name y py)) spos.line X.env=pure true) Ar._auto_1)
  (hs:autoParam (∀ x,foldedSetIterable iter X.env x=pure x) Ai._auto_1):PS2 X (.Assign [.Name y py] (.ListComp elt [⟨tg,iter,ifs,0⟩] scope pos) spos) (dAsg (dComp m fr wi g c te) (gName i)):=by
 intro E pins s σ H τ G D hE I h
 rw [exec_Assign_Name_used _ _ _ _ hsw]
 refine wpAny_bind (wpAny_standAt (wpAny_bind ?_))
 show wpAny _ X.A (do let _ ← comprehension (.ListComp elt [⟨tg,iter,ifs,0⟩] scope pos) scope X.env _ (newList []) false (eval iter X.env) (some (assign (.Name y py) X.env))) _ _ s
 refine wpAny_bind (thn (wpAny_comprehension_free (use:=some (assign (.Name y py) X.env)) (Q:=fun _ s'=>SP2 X pins H G D .next s') rfl hs (k.closed I.inv) k.kind k.names (thn (hi E pins s σ H τ G _ hE I h) fun xv s₁ h₁=>thn h₁ fun itv s₂ h₂=>?_)) fun _ s' hq=>wpAny_pure (wpAny_pure hq))
 obtain ⟨it,fp,tn,J,H2,G2,ds,ok,e,I2',m2,T,st2,f2,wk,hz,q⟩:=h₂
 subst e
 refine comp_core (Rr:=fun acc C=>compPost (model X.prog X.w) X.A X.xe (some (assign (.Name y py) X.env)) (fun _ s'=>SP2 X pins H G D .next s') acc C) hc k.cell k.kind k.free k.len k.at' hg hif he (I.mv I2' m2) m2 T st2 f2 wk hz (fun _ _ z=>z) q ?_
 rintro C s' ⟨mm,H',G',I',hns,fpC,mv,q'⟩
 show wpAny (model X.prog X.w) X.A (assign (.Name y py) X.env (.ref s₂.heap.objs.size)) _ X.xe s'
 obtain ⟨f0,f1,_,f3,f4,f5⟩:=fpC
 refine wpAny_assign_Name (store_ok2 (v:=.ref s₂.heap.objs.size) I' hN hyi (.inl hy) rfl (?_) (.inr hy))
 rintro s3 I3 ⟨a,hsb,ha⟩
 have hCa:C≠a:=by
  rcases ha with rfl | ha
  ·exact f1
  ·exact fun e=>f4 y a ha e.symm
 refine ⟨mm,hns.sameBut hsb hCa,fun h' hs'=>?_⟩
 exact ⟨_,H',_,G',⟨I3.turned (t':=s3.toks) (fun b o hb e=>hs'.extBut b o hb e) f0 f1 f3 f4 f5,(I.st.mono (mv.kp I.ab)).set i (.ref _),mv.ab⟩,mv,q'⟩
theorem glen_name {i:Nat} {u:TGs2} {n:Nat} (h:∀ E ds τ G Q,u E ds τ G Q->ds.length=n):∀ E ds τ G Q,gCons (gName i) u E ds τ G Q->ds.length=n+1 :=
 glen_cons h (fun _ _ _ _ _ _ q k=>k _ _ q) fun _ _ _ _ q=>q
theorem pv2 (i:Nat) {x:Str} {pos:Pos} (hN:autoParam (X.N[i]?=some x) Ar._auto_1) (hv:autoParam (Vis X.env.scope x) Ao._auto_1) (hd:autoParam ((x == ("__debug__" : Str))=false) Ad._auto_1)
  (hcd:autoParam ((x == ("__classdict__" : Str))=false) Ad._auto_1):PE2 X (.Name x pos) (dVar i):=pe2_var hN hv hd hcd
theorem pss_of {body:List Stmt} {t2:TS2} (h:PSs2 X body t2) {E:XK2} (hE:Lk X E):PSs X body (fun D σ H=>∃ (τ:St2) (G:Gp) (D2:Ends2),AbS X.K H σ τ/\AbH X.K H G/\t2 E D2 τ G /\
  (∀ σ' H' τ' G',Mv X.K H G H' G'->D2.nx τ' G'->D.nx σ' H')/\(∀ v H' d G',Mv X.K H G H' G'->RepD X.K H' v d->D2.rt d G'->D.rt v H')/\(∀ τ G,¬ D2.bk τ G)/\(∀ τ G,¬ D2.ct τ G)):=by
 rintro pins s σ H D I ⟨τ,G,D2,st,ab,q,k1,k2,k3,k4⟩
 refine thn (h E pins s σ H τ G D2 hE ⟨I,st,ab⟩ q) fun f s1 z=>?_
 cases f with
 | next=>obtain ⟨σ',H',τ',G',J,mv,z⟩:=z; exact ⟨σ',H',J.inv,k1 σ' H' τ' G' mv z⟩
 | brk=>obtain ⟨σ',H',τ',G',J,mv,z⟩:=z; exact (k3 _ _ z).elim
 | cont=>obtain ⟨σ',H',τ',G',J,mv,z⟩:=z; exact (k4 _ _ z).elim
 | ret u=>obtain ⟨v,σ',H',d,G',J,mv,r,rd,z⟩:=z; exact ⟨v,σ',H',J,r,k2 v H' d G' mv rd z⟩
theorem start_ab {K:PySem.W.Frag} {H:Hp} {Nn:List Str} {vs:List V} {ds:List D} (r:RepDs K H vs ds):AbS K H (L2.start Nn vs) (start2 Nn.length ds):=by
 unfold L2.start start2
 refine ⟨by simp [r.length],fun i d h=>?_⟩
 by_cases hi:i < ds.length
 ·rw [List.getElem?_append_left (by simpa using hi),List.getElem?_map] at h
  cases hd:ds[i]? with
  | none=>rw [hd] at h; cases h
  | some d' =>
   rw [hd] at h
   have e:d'=d:=by simpa using h
   subst e
   obtain ⟨v,h1,h2⟩:=r.get hd
   refine ⟨v,?_,h2⟩
   rw [List.getElem?_append_left (by simpa [r.length] using hi),List.getElem?_map,h1]; rfl
 ·rw [List.getElem?_append_right (by simpa using hi),List.getElem?_replicate] at h
  split at h <;> cases h
theorem fun_ok2 {P:Program} {w:World} {K:PySem.W.Frag} {mg:Str->Option Value} {base:Heap} {x qual:Str} {st:Stmt} {f:Addr} {fd:FuncData} {Nn ps:List Str} {k:Nat} {sp:Sp2} {rd:TS2} (F:Fun K x qual st f fd) (S:FnScope Nn ps (defScope st)) (len:∀ ds G Q E,sp ds G Q E->ds.length=ps.length)
  (hr:∀ ds G Q,sp ds G Q (fun _ _=>False)->rd (fun _ _=>False) (ends Q) (start2 Nn.length ds) G)
  (hb:∀ (cdv:Value) (A:Around) (outer:List Env) (s:Shared) (H:Hp) (E:XK),Room k (A.deeper (envOfC qual (defScope st) s.heap.objs.size f cdv))->PSs2 (cxOf CX0 P w K mg base Nn qual (defScope st) f cdv A outer s H E).nox (defBody st) rd):FnOk P w K mg base CX0 (k+1) f fd ps (spOf K sp):=by
 refine F.ok S ((by rintro vs H Q E ⟨ds,G,Q2,r,ab,q,_⟩; exact by rw [r.length]; exact len _ _ _ _ q)) ?_
 rintro cdv A outer s H vs Q E hroom ⟨ds,G,Q2,r,ab,q,kk⟩
 refine ⟨_,pss_of (hb cdv A outer s H E hroom) (E:=fun _ _=>False) (Lk.none fun _ _ z=>z),?_⟩
 exact ⟨start2 Nn.length ds,G,ends Q2,start_ab r,ab,hr ds G Q2 q,fun σ' H' τ' G' mv z=>kk _ _ _ _ z mv .non,fun v H' d G' mv rdv z=>kk _ _ _ _ z mv rdv,fun _ _ z=>z,fun _ _ z=>z⟩
noncomputable def relS (scope sc:Scope):List (Str×NameKind):=scope.names.map fun (n,k)=>if (k == .free&&sc.kind == .function&&sc.names.lookup n == some .cell) then (n,.cell) else (n,k)
noncomputable def compChk (N:List Str) (scope:Scope) (m:Nat) (fr:List Nat) (sc:Scope) (XN:List Str):Bool :=
 scope.names.all (fun y=>decide (y.2≠.cell))&&decide (scope.kind=.function)&&scope.names.all (fun y=>!decide (y.2=.local)||decide (scope.names.lookup y.1=some .local)) &&
 scope.names.all (fun y=>!decide (y.2=.free)||decide (sc.names.lookup y.1=some .cell))&&decide (N.length=m+fr.length) &&
 (List.range fr.length).all (fun j=>match fr[j]?,N[m+j]? with
  | some i,some x=>decide (XN[i]?=some x)&&decide (sc.names.lookup x=some .cell)&&decide ((relS scope sc).lookup x=some .cell)
  | _,_=>false)
theorem compOk_of {sc:Scope} {XN:List Str} (hsc:X.env.scope=sc) (hXN:X.N=XN) (hb:compChk N scope m fr sc XN=true):CompOk X N scope m fr:=by
 subst hsc hXN
 unfold compChk at hb
 simp only [Bool.and_eq_true] at hb
 obtain ⟨⟨⟨⟨⟨h1,h2⟩,h3⟩,h4⟩,h5⟩,h6⟩:=hb
 refine ⟨fun y hy=>of_decide_eq_true (List.all_eq_true.mp h1 y hy),of_decide_eq_true h2,fun y hy hl=>?_,fun y hy hl=>?_,of_decide_eq_true h5,fun j i x e1 e2=>?_⟩
 ·have:=List.all_eq_true.mp h3 y hy
  simp only [hl,decide_true,Bool.not_true,Bool.false_or] at this
  exact of_decide_eq_true this
 ·have:=List.all_eq_true.mp h4 y hy
  simp only [hl,decide_true,Bool.not_true,Bool.false_or] at this
  exact of_decide_eq_true this
 ·have hj:j < fr.length:=(List.getElem?_eq_some_iff.mp e1).1
  have:=List.all_eq_true.mp h6 j (List.mem_range.mpr hj)
  rw [e1,e2] at this
  simp only [Bool.and_eq_true] at this
  exact ⟨of_decide_eq_true this.1.1,of_decide_eq_true this.1.2,of_decide_eq_true this.2⟩
theorem pe2_comp (N:List Str) {sc:Scope} {XN:List Str} (hi:PI2 X tg iter wi) (hg:∀ C s H fp,PG2 (compCx X N scope C s H fp) tg g) (hif:∀ C s H fp,PIf (compCx X N scope C s H fp) ifs c) (he:∀ C s H fp,PE2 (compCx X N scope C s H fp) elt te)
  (hsc:autoParam (X.env.scope=sc) Ar._auto_1) (hXN:autoParam (X.N=XN) Ar._auto_1) (hb:autoParam (compChk N scope m fr sc XN=true) Ak._auto_1) (hc:autoParam (X.calm=true) Ar._auto_1) (hs:autoParam (∀ x,foldedSetIterable iter X.env x=pure x) Ai._auto_1):PE2 X (.ListComp elt [⟨tg,iter,ifs,0⟩] scope pos) (dComp m fr wi g c te) :=
 pe2_compG hc (compOk_of hsc hXN hb) hi hg hif he hs
theorem ps2_setC (N:List Str) {sc:Scope} {XN:List Str} {i:Nat} {y:Str} {py spos:Pos} (hN:X.N.Nodup) (hyi:X.N[i]?=some y) (hy:X.env.scope.names.lookup y=some .local) (hi:PI2 X tg iter wi) (hg:∀ C s H fp,PG2 (compCx X N scope C s H fp) tg g)
  (hif:∀ C s H fp,PIf (compCx X N scope C s H fp) ifs c) (he:∀ C s H fp,PE2 (compCx X N scope C s H fp) elt te) (hsc:autoParam (X.env.scope=sc) Ar._auto_1) (hXN:autoParam (X.N=XN) Ar._auto_1) (hb:autoParam (compChk N scope m fr sc XN=true) Ak._auto_1) (hc:autoParam (X.calm=true) Ar._auto_1)
  (hsw:autoParam (swapsWith (.ListComp elt [⟨tg,iter,ifs,0⟩] scope pos) (some (.Name y py)) spos.line X.env=pure true) Ar._auto_1) (hs:autoParam (∀ x,foldedSetIterable iter X.env x=pure x) Ai._auto_1) :
  PS2 X (.Assign [.Name y py] (.ListComp elt [⟨tg,iter,ifs,0⟩] scope pos) spos) (dAsg (dComp m fr wi g c te) (gName i)) :=
 ps2_setComp hN hyi hy hc (compOk_of hsc hXN hb) hi hg hif he hsw hs
theorem law_start {K:PySem.W.Frag} {H:Hp} {a:Addr} {ns:List Int} (hO:Only H) (hS:SqL K H a (ns.map V.int)) (hl:ns.length<=63):spOf K spLaw [.ref a] H (fun v _=>v=.bl true) fun _ _ _=>False:=by
 have hF:SqF K H a (ns.map V.int):=by
  rcases hS with (h | ⟨o,h⟩) | h
  ·rcases hO a with z | ⟨o,xs,z⟩
   ·rw [z] at h; cases h
   ·rw [z] at h; cases h
  ·exact .inl ⟨o,h⟩
  ·exact .inr h
 refine ⟨[.rol (ns.map D.int)],fun _=>none,fun d _=>d=.bl true,.cons (.rol hF (RepDs.of_ints ns)) .nil,fun a g e=>(by cases e),⟨ns,rfl,hl,fun _=>rfl,fun _=>rfl⟩,fun d G' v H' e mv r=>?_⟩
 subst e
 cases r
 rfl
theorem law_walk {l:PySem.W.OpenLaw} {q:Program} {loose:List Str} {XP:(Str->Option Value)->Heap->Prop} {YP:World->Heap->Prop} {d:DefRec} {K:Params->PySem.W.Frag} {k:Nat} {x:Str} (hn:l.most=some 63) (hdf:d.params.defaults=[]) (hr:Room k callerA)
  (hY:∀ (w:World) (h:Heap),YP w h->(K w.params).In h)
  (F:∀ (w:World) (mg:Str->Option Value) (fa:Addr) (h:Heap),(K w.params).In h->h.Ns mainGlobals mg->mg d.name=some (.ref fa) ->
   ∃ fd:FuncData,(∀ (s:Shared) (u:Value),BindsTo s fd ⟨[u],[]⟩ [(x,u)])/\∀ base:Heap,(K w.params).In base->base.Ns mainGlobals mg->FnOk l.prog w (K w.params) mg base CX0 k fa fd [x] (spOf (K w.params) spLaw)) :
  PySem.W.WalkO q loose XP YP l.row.toRowW d [] (fun f vs=>PySem.call f vs) :=
 L2.walk_of (n:=63) (k:=k) (x:=x) (CX:=fun _=>CX0) (sp:=fun w=>spOf (K w.params) spLaw) hn (by decide) hdf hr hY F (fun _ _ _ _ hl hO hS=>law_start hO hS hl) fun _ _ _ _ _ z=>z
end
end K2
end
section
namespace K2
open PySem PySem.Spec PyProof.Rows L2
noncomputable def canF:HO->Bool
 | .lst _=>true
 | .dK _=>true
 | .dT _=>true
 | _=>false
noncomputable def frzH (h:Heap) (S:Addr->Bool) (H:Hp):Hp:=fun a=>match H a with
 | some u=>if (canF u&&S a)=true then (match h.get? a with
  | some o=>some (.frz o u)
  | none=>some u) else some u
 | none=>none
section
variable {h:Heap} {S:Addr->Bool} {H:Hp} {a:Addr}
theorem frzH_other (n:∀ u,H a=some u->canF u=false):frzH h S H a=H a:=by
 unfold frzH
 cases e:H a with
 | none=>rfl
 | some u=>simp only [n u e,Bool.false_and,Bool.false_eq_true,if_false]
theorem frzH_out (hs:S a=false):frzH h S H a=H a:=by
 unfold frzH
 cases e:H a with
 | none=>rfl
 | some u=>simp only [hs,Bool.and_false,Bool.false_eq_true,if_false]
theorem frzH_in {u:HO} {o:Obj} (hs:S a=true) (e:H a=some u) (hu:canF u=true) (ho:h.get? a=some o):frzH h S H a=some (.frz o u):=by
 unfold frzH
 simp only [e,hs,hu,Bool.and_self,if_true,ho]
theorem frzH_none (e:H a=none):frzH h S H a=none:=by unfold frzH; rw [e]
theorem frzH_at {u:HO} (e:H a=some u) (hu:canF u=false):frzH h S H a=some u:=by rw [frzH_other (fun v z=>by rw [e] at z; cases z; exact hu)]; exact e
theorem frzH_kp:Kp H (frzH h S H):=⟨fun a xs e=>frzH_at e rfl,fun a o u e=>frzH_at e rfl⟩
end
section
variable {X:Cx} {pins:List (Addr×Obj)} {σ:L2.St} {H:Hp} {s:Shared} {G:Gp}
theorem Inv.freeze (I : Inv X pins σ H s) (S : Addr → Bool) : Inv X pins σ (frzH s.heap S H) s where
  ok := I.ok
  os := I.os
  bare := I.bare
  base := { keep := I.base.keep, slot := I.base.slot, there := I.base.there
            free := fun b o q n hx => frzH_none (I.base.free b o q n hx)
            tups := fun b xs q => frzH_at (I.base.tups b xs q) rfl
            frzs := fun b o u q => frzH_at (I.base.frzs b o u q) rfl
            tbls := fun b ps q => by
              obtain ⟨more, e⟩ := I.base.tbls b ps q
              exact ⟨more, frzH_at e rfl⟩ }
  loc := I.loc
  cell := I.cell
  free := frzH_none I.free
  freeC := fun x c e => frzH_none (I.freeC x c e)
  pin := fun p hp => let ⟨h1, h2, h3⟩ := I.pin p hp; ⟨h1, frzH_none h2, h3⟩
  hok := fun a o q => by
    have st : ∀ u, H a = some u → ObjOk X.prog X.w (frzH s.heap S H) s.heap a u := fun u e =>
      (I.hok a u e).stay (fun b v _ r => r) (fun b r => frzH_at r rfl) (fun b xs r => frzH_at r rfl)
    cases e : H a with
    | none => rw [frzH_none e] at q; cases q
    | some u =>
      by_cases hc : canF u = true
      · by_cases hs : S a = true
        · obtain ⟨ob, ho⟩ := obj_there (I.hok a _ e)
          rw [frzH_in hs e hc ho] at q
          cases q
          exact ⟨ho, st _ e⟩
        · rw [frzH_out (by simpa using hs), e] at q
          cases q
          exact st _ e
      · rw [frzH_at e (by simpa using hc)] at q
        cases q
        exact st _ e
  len := I.len
noncomputable def seenR (R:Nat->Bool) (G:Gp):Addr->Bool:=fun a=>R a&&(G a).isSome
theorem freeze_mv (I:Inv X pins σ H s) (ab:AbH X.K H G) (R:Nat->Bool):Mv X.K H G (frzH s.heap (seenR R G) H) (delG R G) where
 keep:=fun a o e n=>by
  refine ⟨by rw [frzH_out (by simp [seenR,n])]; exact e,?_⟩
  unfold delG; split
  ·rfl
  ·exact n
 stay:=fun a n=>by
  cases q:G a with
  | none=>exact absurd q n
  | some g =>
   have t:=(ab a g q).tracked
   cases e:H a with
   | none=>exact absurd e t
   | some u =>
    unfold frzH
    rw [e]
    dsimp only
    split
    ·split <;> simp
    ·simp
 ab:=fun a g e=>by
  unfold delG at e
  split at e
  ·cases e
  ·rename_i hr
   exact (ab a g e).mono frzH_kp (frzH_out (by simp [seenR,hr]))
theorem fz_rep (I:Inv X pins σ H s) (ab:AbH X.K H G) {R:Nat->Bool}:∀ {d t:D} {v:V},Fz G R d t->RepD X.K H v d->RepD X.K (frzH s.heap (seenR R G) H) v t:=by
 intro d t v h
 revert v
 refine Fz.rec (motive_1:=fun d t _=>∀ {v:V},RepD X.K H v d->RepD X.K (frzH s.heap (seenR R G) H) v t)
  (motive_2:=fun ds ts _=>∀ {vs:List V},RepDs X.K H vs ds->RepDs X.K (frzH s.heap (seenR R G) H) vs ts)
  (motive_3:=fun ds ts _=>(∀ {vs:List (Key×V)},DKs X.K H vs ds->DKs X.K (frzH s.heap (seenR R G) H) vs ts)/\∀ {vs:List (List Key×V)},DTs X.K H vs ds->DTs X.K (frzH s.heap (seenR R G) H) vs ts)
  ?_ ?_ ?_ ?_ ?_ ?_ ?_ ?_ ?_ h
 ·intro d v r; exact r.mono frzH_kp
 ·intro ds ss _ ih v r
  cases r with
  | tup h rs=>exact .tup (frzH_kp.tup _ _ h) (ih rs)
 ·intro ds ss _ ih v r
  cases r with
  | rol h rs=>exact .rol (frzH_kp.sqF h) (ih rs)
 ·intro a ds ss g hr _ ih v r
  cases r
  obtain ⟨vs,hv,rs⟩:=ab a _ g
  obtain ⟨ob,ho⟩:=obj_there (I.hok a _ hv)
  exact .rol (.inl ⟨_,frzH_in (by simp [seenR,hr,g]) hv rfl ho⟩) (ih rs)
 ·intro a ds ss g hr _ ih v r
  cases r
  rcases ab a _ g with ⟨kv,hv,rs⟩ | ⟨kv,hv,rs⟩
  ·obtain ⟨ob,ho⟩:=obj_there (I.hok a _ hv)
   exact .rodK (frzH_in (by simp [seenR,hr,g]) hv rfl ho) (ih.1 rs)
  ·obtain ⟨ob,ho⟩:=obj_there (I.hok a _ hv)
   exact .rodT (frzH_in (by simp [seenR,hr,g]) hv rfl ho) (ih.2 rs)
 ·intro vs r; cases r; exact .nil
 ·intro d s ds ss _ _ i1 i2 vs r
  cases r with
  | cons r rs=>exact .cons (i1 r) (i2 rs)
 ·exact ⟨fun r=>by cases r; exact .nil,fun r=>by cases r; exact .nil⟩
 ·intro k d s ds ss _ _ i1 i2
  exact ⟨fun r=>by cases r with | cons r rs=>exact .cons (i1 r) (i2.1 rs),fun r=>by cases r with | cons r rs=>exact .cons (i1 r) (i2.2 rs)⟩
variable {e:Expr} {te:TE2} {st:Stmt} {t:TS2}
theorem pe2_fz (he:PE2 X e te):PE2 X e (dFz te):=by
 intro E pins s σ H τ G Q hE I h
 refine thn (he E pins s σ H τ G _ hE I h) ?_
 rintro u s1 ⟨v,H1,d,G1,I1,m,r,rd,R,t,hf,q⟩
 exact ⟨v,_,t,_,Inv.freeze I1 _,m.trans (freeze_mv I1 m.ab R),r,fz_rep I1 m.ab hf rd,q⟩
theorem ps2_fzv {i:Nat} (h1:PS2 X st t):PS2 X st (dFzV i t):=by
 intro E pins s σ H τ G D hE I h
 refine thn (h1 E pins s σ H τ G _ hE I h) fun f s1 z=>?_
 cases f with
 | next =>
  obtain ⟨σ',H',τ',G',I',m,q⟩:=z
  simp only at q
  split at q
  ·rename_i d hd
   obtain ⟨R,t,hf,q⟩:=q
   obtain ⟨v,hv,rv⟩:=I'.st.at' i d hd
   have a1:=(I'.st.mono (H':=frzH s1.heap (seenR R G') H') frzH_kp).set i (fz_rep I'.inv I'.ab hf rv)
   have es:σ'.set i (some v)=σ':=by
    have hi:i < σ'.length:=(List.getElem?_eq_some_iff.mp hv).1
    have e2:=(List.getElem?_eq_some_iff.mp hv).2
    rw [← e2]; exact List.set_getElem_self hi
   rw [es] at a1
   have m2:=freeze_mv I'.inv I'.ab R
   exact ⟨σ',_,_,_,⟨Inv.freeze I'.inv _,a1,m2.ab⟩,m.trans m2,q⟩
  ·exact q.elim
 | ret v=>exact z
 | brk=>exact z
 | cont=>exact z
end
end K2
end
section
namespace K2
open PySem PySem.Spec PyProof.Rows L2
theorem bt_len:bootBuiltins "len" = some (.builtin "len"):=by decide +kernel
theorem bt_max:bootBuiltins "max" = some (.builtin "max"):=by decide +kernel
theorem bt_sorted:bootBuiltins "sorted" = some (.builtin "sorted"):=by decide +kernel
theorem bt_list:bootBuiltins "list" = some (.type "list"):=by decide +kernel
theorem bt_tuple:bootBuiltins "tuple" = some (.type "tuple"):=by decide +kernel
theorem bt_dict:bootBuiltins "dict" = some (.type "dict"):=by decide +kernel
theorem bt_int:bootBuiltins "int" = some (.type "int"):=by decide +kernel
theorem bt_bool:bootBuiltins "bool" = some (.type "bool"):=by decide +kernel
section
variable {X:Cx} {a b c e o:Expr} {es:List Expr} {ta tb tc te to:TE2} {t:TA2} {pos p p2 apos cpos:Pos} {x name:Str} {id T:String} {k:Nat} {f:Addr} {fd:FuncData} {ps:List Str} {sp:Sp2}
theorem pe2_callS (F:FnOk X.prog X.w X.K X.mg X.base CX0 k f fd ps (spOf X.K sp)) (hr:Room k X.A) (hg:Gl X x) (hm:X.mg x=some (.ref f)) (hk:PySem.W.keepIn X.K (.ref f)=true) (hb:Binds X.K fd ps [])
  (ha:PA2 X (e :: es) t) (hdb:autoParam ((x == ("__debug__" : Str))=false) Ad._auto_1) (he:autoParam (starEach (e :: es) X.env=(false,eval e X.env) :: starEach es X.env) Ar._auto_1) (hpl:autoParam ((backTo pos (starEach es X.env)).any (·.1)=false) Ar._auto_1) :
  PE2 X (.Call (.Name x p) (e :: es) [] pos) (dCall sp t):=pe2_call F hr hg hm hk hb ha hdb he hpl
end
end K2
end
section
namespace L2
open PySem PySem.Spec PyProof.Rows
section
variable {X:Cx} {pins:List (Addr×Obj)} {σ:St} {H:Hp} {s:Shared} {h':Heap}
theorem Inv.turnedL {t':Nat} {fp:List Addr} (I:Inv X pins σ H s) (hf:∀ b∈fp,FpOk X pins H b) (k:∀ b o,b∉fp->s.heap.get? b=some o->h'.get? b=some o):Inv X pins σ H { s with heap:=h',toks:=t' }:=by
 have nt:∀ b u,H b=some u->b∉fp:=fun b u e z=>by rw [(hf b z).1] at e; cases e
 refine I.step (g':=s.gens) (d':=s.drawn) (ch:=fp) (fun b hb=>?_) (fun b o _ _ hc e _=>k b o hc e) (fun b o _ _ hc e _=>⟨o.slots,k b o hc e⟩) (fun _ _ _ _ n=>n)
  (fun b o hc e=>⟨o,k b o hc e⟩) (fun _ _ e=>e) (fun _ _ _ e=>e) (fun b ps e=>⟨#[],by rw [e]; simp⟩) (fun m hm=>?_) (fun b u e=>?_) I.bare
 ·obtain ⟨f0,f1,f2,f3,f4,f5⟩:=hf b hb
  exact ⟨f3,f1,f4,f5⟩
 ·obtain ⟨o,es,ep,ho,r⟩:=hm
  exact ⟨o,es,ep,k _ _ (fun z=>(hf _ z).2.1 rfl) ho,r⟩
 ·refine (I.hok b u e).stay (fun c v hc r=>k c v ?_ r) (fun _ z=>z) (fun _ _ z=>z)
  rcases hc with rfl | hc
  ·exact nt _ _ e
  ·exact nt _ _ hc
theorem Inv.turnedT {t':Nat} {fp:List Addr} {T:Addr} {vs:List V} (I:Inv X pins σ H s) (hf:∀ b∈fp,FpOk X pins H b) (k:∀ b o,b∉fp->s.heap.get? b=some o->h'.get? b=some o) (hT:s.heap.objs.size<=T)
  (new:ObjOk X.prog X.w (upd H T (.tup vs)) h' T (.tup vs)):Inv X pins σ (upd H T (.tup vs)) { s with heap:=h',toks:=t' }:=by
 have hn:H T=none:=I.hok.fresh hT
 have ht:∀ b o,s.heap.get? b=some o->b≠T:=fun b o e z=>by subst z; exact absurd (Heap.lt_size e) (Nat.not_lt.mpr hT)
 have nt:∀ b u,H b=some u->b∉fp:=fun b u e z=>by rw [(hf b z).1] at e; cases e
 have ne:∀ b u,H b=some u->b≠T:=fun b u e=>ne_of_none e hn
 refine I.step (g':=s.gens) (d':=s.drawn) (ch:=fp) (fun b hb=>?_) (fun b o _ _ hc e _=>k b o hc e) (fun b o _ _ hc e _=>⟨o.slots,k b o hc e⟩) (fun b o _ e n=>by rw [upd_ne (ht b o e)]; exact n)
  (fun b o hc e=>⟨o,k b o hc e⟩) (fun b xs e=>by rw [upd_ne (ne _ _ e)]; exact e) (fun b o u e=>by rw [upd_ne (ne _ _ e)]; exact e) (fun b ps e=>⟨#[],by rw [upd_ne (ne _ _ e),e]; simp⟩) (fun m hm=>?_) (fun b u e=>?_) I.bare
 ·obtain ⟨f0,f1,f2,f3,f4,f5⟩:=hf b hb
  exact ⟨f3,f1,f4,f5⟩
 ·obtain ⟨o,es,ep,ho,r⟩:=hm
  exact ⟨o,es,ep,k _ _ (fun z=>(hf _ z).2.1 rfl) ho,r⟩
 ·by_cases hb:b=T
  ·subst hb; rw [upd_same] at e; cases e; exact new
  ·rw [upd_ne hb] at e
   refine (I.hok b u e).stay (fun c v hc r=>k c v ?_ r) (fun c z=>by rw [upd_ne (ne _ _ z)]; exact z) (fun c xs z=>by rw [upd_ne (ne _ _ z)]; exact z)
   rcases hc with rfl | hc
   ·exact nt _ _ e
   ·exact nt _ _ hc
theorem FpOk.upd {b T:Addr} {o:HO} (h:FpOk X pins H b) (hb:b≠T):FpOk X pins (L2.upd H T o) b:=by
 obtain ⟨f0,r⟩:=h
 exact ⟨by rw [upd_ne hb]; exact f0,r⟩
end
noncomputable def Ite (K:PySem.W.Frag) (a:Addr):It :=
  ⟨fun i H=>∃ xs x,SqL K H a xs/\xs[i]?=some x,
   fun i H v H'=>∃ T y,v=.ref T/\H T=none/\H'=upd H T (.tup [.int i,y])/\∀ xs,SqL K H a xs->xs[i]?=some y,
   fun i H=>∃ xs,SqL K H a xs/\xs.length<=i⟩
theorem turn_enum {P:Program} {w:World} {K:PySem.W.Frag} {elts:List Expr} {kk:Nat} {pos:Pos} (a e it:Addr) (hne:e≠it) :
  Turn P w K (.Tuple elts kk pos) (Ite K a) [e,it] e (fun i h=>(∃ old,IsEnum h e it i old)/\h.IsListIter it a i) where
 mem:=by simp
 obj:=fun i h hp0 b hb=>by
  obtain ⟨⟨old,he⟩,hit⟩:=hp0
  rcases List.mem_cons.mp hb with rfl | hb
  ·exact ⟨_,he,fun v z=>by cases z⟩
  ·have e:b=it:=by simpa using hb
   subst e
   obtain ⟨o,e,c,d⟩:=hit
   exact ⟨o,e,fun v z=>by rw [d] at z; cases z⟩
 keep:=(by rintro i h h' ⟨⟨old,he⟩,hit⟩ k; exact ⟨⟨old,k e (by simp) _ he⟩,hit.at fun o q=>k it (by simp) o q⟩)
 item:=by
  intro X hP hw hK hc i pins s σ H E I hf st hg
  obtain ⟨⟨old,he⟩,hit⟩:=st
  subst hP hw hK
  obtain ⟨xs,x,hq,hx⟩:=hg
  obtain ⟨its,rv,p,hz⟩:=I.list hq
  obtain ⟨u,hu,ru⟩:=rv.get hx
  have hTn:H s.heap.objs.size=none:=I.hok.fresh (Nat.le_refl _)
  have heT:e≠s.heap.objs.size:=Nat.ne_of_lt (Heap.lt_size he)
  have hiT:it≠s.heap.objs.size:=by obtain ⟨o,q,_⟩:=hit; exact Nat.ne_of_lt (Heap.lt_size q)
  refine wpAny_pyNext_enum_item he hit p.isList (x:=u) (by simpa using hu) hne fun h' ho hit' hT hsz kk=>?_
  refine ⟨_,rfl,?_⟩
  have I1:Inv X pins σ (upd H s.heap.objs.size (.tup [.int i,x])) { s with heap:=h',toks:=s.toks+1 } :=
   I.turnedT (fp:=[e,it]) hf (fun b o hb q=>kk b o (fun z=>hb (by simp [z])) (fun z=>hb (by simp [z])) q) (Nat.le_refl _)
    ⟨by show 2<=sizeLine; decide,[.int i s.toks,u],.cons ⟨_,rfl⟩ (.cons ru .nil),⟨_,hT,rfl,_,rfl⟩⟩
  refine wpAny_letOwnedTupleGo_enum (s:={ s with heap:=h',toks:=s.toks+1 }) ho fun h2 he2 hs2=>?_
  have f1:∀ b∈[e,it],FpOk X pins (upd H s.heap.objs.size (.tup [.int i,x])) b:=fun b hb=>(hf b hb).upd (by
   rcases List.mem_cons.mp hb with rfl | hb
   ·exact heT
   ·rw [List.mem_singleton.mp hb]; exact hiT)
  have I2:Inv X pins σ (upd H s.heap.objs.size (.tup [.int i,x])) { s with heap:=h2,toks:=s.toks+1 } :=
   Inv.turnedL (s:={ s with heap:=h',toks:=s.toks+1 }) (t':=s.toks+1) (fp:=[e,it]) I1 f1 fun b o hb q=>(hs2.2 b (fun z=>hb (by simp [z]))).trans q
  refine ⟨.ref s.heap.objs.size,_,I2,rfl,⟨_,x,rfl,hTn,rfl,fun ys hy=>by rw [I.list_inj hy hq]; exact hx⟩,⟨⟨u,?_⟩,?_⟩,fun b hb=>(f1 b hb).1⟩
  ·simpa using he2
  ·exact hit'.at fun o q=>(hs2.2 it (Ne.symm hne)).trans q
 done:=by
  intro X hP hw hK hc i pins s σ H E I hf st hg
  obtain ⟨⟨old,he⟩,hit⟩:=st
  subst hP hw hK
  obtain ⟨xs,hq,hx⟩:=hg
  obtain ⟨its,rv,p,hz⟩:=I.list hq
  have hl:=rv.length
  refine wpAny_pyNext_enum_end (I.ok.hd hc) he hit p.isList (by simp; lia) fun h' eb=>⟨rfl,?_⟩
  exact I.turnedL (t':=s.toks) (fp:=[e,it]) hf fun b o hb q=>eb b o (fun z=>hb (by simp [z])) q
 self:=(by rintro A i s Q E ⟨⟨old,he⟩,_⟩ h; exact wpAny_pyIter_enum he h)
end L2
namespace K2
open PySem PySem.Spec PyProof.Rows L2
section
variable {X:Cx} {elts:List Expr} {kk:Nat} {tpos:Pos} {a b:Expr} {ta tb:TE2} {pos p:Pos}
theorem enum_it {pins:List (Addr×Obj)} {σ:L2.St} {H H1:Hp} {G G1:Gp} {s1:Shared} {l:Addr} {vs:List V} {ds:List D} {ok:Gp->Prop} {R:List D->(Gp->Prop)->Gp->Prop} (I1:Inv X pins σ H1 s1) (m:Mv X.K H G H1 G1) (hq:SqL X.K H1 l vs)
  (hk:∀ H2 G2,Kp H1 H2->AbH X.K H2 G2->ok G2->∃ ws,SqL X.K H2 l ws/\RepDs X.K H2 ws ds) (q:R (enumD 0 ds) ok G1) :
  wpAny (model X.prog X.w) X.A (call (.type "enumerate") [.ref l]) (fun v s2=>wpAny (model X.prog X.w) X.A (pyIter v) (PIE2 X pins σ (.Tuple elts kk tpos) H G R) X.xe s2) X.xe s1:=by
 obtain ⟨its,rv,pl,hz⟩:=I1.list hq
 refine call_enumerate_list pl.isList fun h' he hit hsz kp=>?_
 refine wpAny_pyIter_enum he ?_
 refine ⟨_,[s1.heap.objs.size+1,s1.heap.objs.size],_,_,H1,G1,enumD 0 ds,ok,rfl,I1.kept (t':=s1.toks) kp,m,turn_enum l _ _ (Nat.succ_ne_self _),⟨⟨_,he⟩,hit⟩,fun b hb=>?_,fun i H2 G2 k ab o=>?_,q⟩
 ·have hb':s1.heap.objs.size<=b:=by
   rcases List.mem_cons.mp hb with rfl | hb
   ·lia
   ·rw [List.mem_singleton.mp hb]; exact Nat.le_refl _
  exact I1.fpOk hb' (I1.hok.fresh hb')
 ·obtain ⟨ws,hw,rd⟩:=hk H2 G2 k ab o
  refine ⟨fun d hd=>?_,fun hl=>⟨ws,hw,by rw [rd.length,← enumD_len ds 0]; exact hl⟩⟩
  rw [enumD_get] at hd
  cases hdi:ds[i]? with
  | none=>rw [hdi] at hd; cases hd
  | some d' =>
   rw [hdi] at hd
   obtain ⟨v,hv,r⟩:=rd.get hdi
   refine ⟨⟨ws,v,hw,hv⟩,?_⟩
   rintro x H3 ⟨T,y,ex,hT,e3,hy⟩
   subst ex e3
   have:=hy ws hw
   rw [hv] at this
   cases this
   have ed:D.tup [.int ((0+i:Nat):Int),d']=d:=by simpa using hd
   subst ed
   refine ⟨.tup upd_same (.cons (by rw [Nat.zero_add]; exact .int _) (.cons (r.mono (.new hT)) .nil)),.hid ab hT⟩
theorem bt_enumerate:bootBuiltins "enumerate" = some (.type "enumerate"):=by decide +kernel
theorem pi2_enum (hg:Gl X "enumerate") (hm:X.mg "enumerate" = none) (ha:PE2 X a ta) (hs:autoParam (starEach [a] X.env=[(false,eval a X.env)]) Ar._auto_1):PI2 X (.Tuple elts kk tpos) (.Call (.Name "enumerate" p) [a] [] pos) (iEnum ta):=by
 intro E pins s σ H τ G R hE I h
 have hA:PA2 X [a] (dCons ta dNil):=pa2_cons ha pa2_nil hs
 refine Call_ (ld_blt I.inv hg hm bt_enumerate (PyProof.Rows.callWith_type1 (thnA hA pos hE I (R:=one1 fun x G1=>iEnumAt x G1 R) h fun vs H1 ds G1 us s1 I1 m1 r1 rd1 q1=>?_) hs rfl))
 match ds,q1 with
 | [x],q1 =>
  change iEnumAt x G1 R at q1
  obtain ⟨w,rfl,rw1⟩:=rd1.one
  obtain ⟨u,rfl,ru⟩:=r1.one
  cases rw1 with
  | rol hq rs=>cases ru; exact enum_it I1.inv m1 hq.sq (fun H2 G2 k ab _=>⟨_,(k.sqF hq).sq,rs.mono k⟩) q1
  | ref p =>
   cases ru
   unfold iEnumAt at q1
   dsimp only at q1
   split at q1
   ·rename_i ds e
    obtain ⟨vs,hv,rs⟩:=I1.ab.lst e
    refine enum_it I1.inv m1 (.of hv) (fun H2 G2 k ab o=>?_) q1
    obtain ⟨ws,hw,rw'⟩:=ab.lst o
    exact ⟨ws,.of hw,rw'⟩
   ·exact q1.elim
  | tup _ _=>exact q1.elim
  | rodK _ _=>exact q1.elim
  | rodT _ _=>exact q1.elim
  | non=>exact q1.elim
  | bl _=>exact q1.elim
  | int _=>exact q1.elim
  | str _=>exact q1.elim
  | exc _=>exact q1.elim
 | [],q1=>exact q1.elim
 | _ :: _ :: _,q1=>exact q1.elim
end
end K2
end
section
namespace K2
open PySem PySem.Spec PyProof.Rows L2
section
variable {X:Cx} {o i a b:Expr} {to ti ta tb:TE2} {pos p:Pos}
theorem pg2_sub (hu:X.A.units+64 < cLine) (ho:PE2 X o to) (hi:PE2 X i ti)
  (ha:autoParam (∀ v,assign (.Subscript o i pos) X.env v=(do
   let ov ← holding [v] (eval o X.env)
   let iv ← holding [v,ov] (eval i X.env)
   standAt pos
   holding [v,ov,iv] (setItem ov iv v)
   release [v,ov,iv] [])) Ai._auto_1):PG2 X (.Subscript o i pos) (gSub to ti):=by
 intro E pins s σ H τ G w d u Q hE I r rd h
 rw [ha]
 refine wpAny_bind (wpAny_holding (thnE ho hE I h fun x H1 dx G1 ov s1 I1 m1 r1 rd1 q1=>?_))
 refine wpAny_bind (wpAny_holding (thnE hi hE I1 q1 fun y H2 dy G2 iv s2 I2' m2 r2 rd2 q2=>?_))
 refine wpAny_bind (wpAny_standAt (wpAny_bind (wpAny_holding ?_)))
 have m12:=m1.trans m2
 have rd':=rd.mono (m12.kp I.ab)
 have st':=I.st.mono (m12.kp I.ab)
 have rx':=rd1.mono (m2.kp I1.ab)
 unfold setIx at q2
 split at q2
 ·rename_i l
  cases rx'
  cases r1
  split at q2
  ·rename_i xs hg
   obtain ⟨vs,hv,rs⟩:=I2'.ab.lst hg
   split at q2
   ·rename_i k
    cases rd2
    split at q2
    ·rename_i j hj
     have m3:Mv X.K H2 G2 (upd H2 l (.lst (vs.set j w))) (updG G2 l (.lst (xs.set j d))):=.putL I2'.ab hg hv (rs.set rd' j)
     refine thn (set_list pins s2 σ H2 (.ref l) (.int k) w _ _ _ (fun H3=>H3=upd H2 l (.lst (vs.set j w))) I2'.inv rfl r2 r ⟨l,vs,k,j,rfl,rfl,hv,?_,rfl⟩) ?_
     ·rw [rs.length]; exact hj
     ·rintro _ s3 ⟨H3,I3,e3⟩
      subst e3
      exact wpAny_release ⟨σ,_,τ,_,⟨I3,st'.mono (m3.kp I2'.ab),m3.ab⟩,m12.trans m3,q2⟩
    ·exact q2.elim
   ·exact q2.elim
  ·rename_i kvs hg
   obtain ⟨hk,hz,q⟩:=q2
   obtain ⟨H3,H4,I3,dp,m3⟩:=dict_put I2'.inv I2'.ab hg hk hz rd2 rd'
   exact d_setItem (by lia) I3 dp r2 r fun s4 I4=>wpAny_release ⟨σ,H4,τ,_,⟨I4,st'.mono (m3.kp I2'.ab),m3.ab⟩,m12.trans m3,q⟩
  ·exact q2.elim
 ·exact q2.elim
end
end K2
end
section
namespace L2
open PySem PySem.Spec PyProof.Rows
structure ZipSt (z TI TO i1 i2 a b:Addr) (i:Nat) (h:Heap):Prop where
 hz:IsZip h z TI TO .none
 hI:IsPair h TI (.ref i1) (.ref i2)
 hO:∃ x y,IsPair h TO x y
 h1:h.IsListIter i1 a i
 h2:h.IsListIter i2 b i
end L2
end
section
namespace K2
open PySem PySem.W PyProof.Rows
noncomputable def runT {α:Type} (lt:Nat->Nat->Bool):KasT α->α
 | .ret a=>a
 | .ask i j k=>runT lt (k (lt i j))
theorem runT_bind {α β:Type} (lt:Nat->Nat->Bool) (f:α->KasT β):∀ t:KasT α,runT lt (t.bind f)=runT lt (f (runT lt t))
 | .ret _=>rfl
 | .ask i j k=>runT_bind lt f (k (lt i j))
noncomputable abbrev gA (p:Array Nat) (k:Nat):Nat:=p.getD k 0
theorem gA_eq (p:Array Nat) (k:Nat):gA p k=(p[k]?).getD 0:=by
 unfold gA; rw [Array.getD_eq_getD_getElem?]
structure SWO (lt:Nat->Nat->Bool):Prop where
 asymm:∀ i j,lt i j=true->lt j i=false
 trans:∀ i j k,lt j i=false->lt k j=false->lt k i=false
theorem SWO.refl {lt:Nat->Nat->Bool} (w:SWO lt) (i:Nat):lt i i=false:=by
 cases h:lt i i with
 | false=>rfl
 | true=>rw [w.asymm _ _ h] at h; cases h
noncomputable def Up (lt:Nat->Nat->Bool) (p:Array Nat) (m:Nat):Prop:=∀ i j,i<=j->j < m->lt (gA p j) (gA p i)=false
noncomputable def Dn (lt:Nat->Nat->Bool) (p:Array Nat) (m:Nat):Prop:=∀ i j,i<=j->j < m->lt (gA p i) (gA p j)=false
section
variable {lt:Nat->Nat->Bool}
theorem Up.more (w:SWO lt) {p:Array Nat} {n m:Nat} (h1:1<=n) (h:Up lt p n) (hs:∀ k,n<=k->k < m->lt (gA p k) (gA p (k - 1))=false):Up lt p m:=by
 intro i j hij hjm
 induction j with
 | zero =>
  have:i=0:=by lia
  subst this; exact w.refl _
 | succ j ih =>
  by_cases hj:j+1 < n
  ·exact h i (j+1) hij hj
  ·by_cases e:i=j+1
   ·subst e; exact w.refl _
   ·have h1:=ih (by lia) (by lia)
    have h2:=hs (j+1) (by lia) hjm
    exact w.trans _ _ _ h1 h2
theorem run_asc (p:Array Nat):∀ (f n:Nat),n<=runT lt (kas_asc p f n)/\runT lt (kas_asc p f n)<=n+f/\(∀ k,n<=k->k < runT lt (kas_asc p f n)->lt (gA p k) (gA p (k - 1))=false) /\
  (runT lt (kas_asc p f n) < n+f->lt (gA p (runT lt (kas_asc p f n))) (gA p (runT lt (kas_asc p f n) - 1))=true):=by
 intro f
 induction f with
 | zero=>intro n; exact ⟨Nat.le_refl _,Nat.le_refl _,fun k h1 h2=>absurd (show k < n from h2) (by lia),fun h=>absurd (show n < n+0 from h) (by lia)⟩
 | succ f ih =>
  intro n
  have e:runT lt (kas_asc p (f+1) n)=if lt (gA p n) (gA p (n - 1))=true then n else runT lt (kas_asc p f (n+1)):=by
   show runT lt (if lt (gA p n) (gA p (n - 1))=true then KasT.ret n else kas_asc p f (n+1))=_
   split <;> rfl
  rw [e]
  by_cases c:lt (gA p n) (gA p (n - 1))=true
  ·rw [if_pos c]
   exact ⟨Nat.le_refl _,by lia,fun k h1 h2=>absurd h2 (by lia),fun _=>c⟩
  ·rw [if_neg c]
   obtain ⟨h1,h2,h3,h4⟩:=ih (n+1)
   refine ⟨by lia,by lia,fun k k1 k2=>?_,fun h=>h4 (by lia)⟩
   by_cases e:k=n
   ·subst e; simpa using c
   ·exact h3 k (by lia) k2
theorem gA_mirror {p:Array Nat} {i j:Nat} (hj:j<=p.size) (k:Nat):gA (kas_rev p i j) k=if i<=k/\k < j then gA p (i+j - 1 - k) else gA p k:=by
 rw [gA_eq,kas_rev,getElem?_mirror_all hj]
 split <;> rw [gA_eq]
theorem rev_size (p:Array Nat) (i j:Nat):(kas_rev p i j).size=p.size:=mirror_size _ _ _ _
theorem rev_perm (p:Array Nat) (i j:Nat):(kas_rev p i j).Perm p:=mirror_perm _ _ _ _
theorem Dn.rev {p:Array Nat} {a n:Nat} (w:SWO lt) (hn:n<=p.size) (h:Dn lt p n) (he:∀ k,a<=k->k < n->lt (gA p (n - 1)) (gA p k)=false):Dn lt (kas_rev p a n) n:=by
 intro i j hij hjn
 rw [gA_mirror hn,gA_mirror hn]
 by_cases hi:a<=i
 ·rw [if_pos ⟨hi,by lia⟩,if_pos ⟨by lia,hjn⟩]
  exact w.trans _ _ _ (he (a+n - 1 - j) (by lia) (by lia)) (h (a+n - 1 - i) (n - 1) (by lia) (by lia))
 ·rw [if_neg (by lia)]
  by_cases hj:a<=j
  ·rw [if_pos ⟨hj,hjn⟩]
   exact h i (a+n - 1 - j) (by lia) (by lia)
  ·rw [if_neg (by lia)]
   exact h i j hij hjn
noncomputable def Eqs (lt:Nat->Nat->Bool) (p:Array Nat) (n q:Nat):Prop:=q+1<=n/\∀ k,n - (q+1)<=k->k < n->lt (gA p (n - 1)) (gA p k)=false
theorem Dn.one (w:SWO lt) {p:Array Nat} {n:Nat} (h1:1<=n) (h:Dn lt p n) (hc:lt (gA p (n - 1)) (gA p n)=false):Dn lt p (n+1):=by
 intro i j hij hj
 by_cases e:j=n
 ·subst e
  by_cases e2:i=j
  ·subst e2; exact w.refl _
  ·exact w.trans _ _ _ hc (h i (j - 1) (by lia) (by lia))
 ·exact h i j hij (by lia)
theorem run_desc (w:SWO lt):∀ (f:Nat) (p:Array Nat) (n q:Nat),n+f<=p.size->Dn lt p n->Eqs lt p n q->∃ p' n' q',runT lt (kas_desc f p n q)=(p',n',q')/\p'.Perm p/\p'.size=p.size/\n<=n'/\n'<=n+f/\Dn lt p' n'/\Eqs lt p' n' q':=by
 intro f
 induction f with
 | zero=>intro p n q _ hd he; exact ⟨p,n,q,rfl,Array.Perm.refl _,rfl,Nat.le_refl _,Nat.le_refl _,hd,he⟩
 | succ f ih =>
  intro p n q hs hd he
  have h1:1<=n:=by have:=he.1; lia
  have e:runT lt (kas_desc (f+1) p n q)=if lt (gA p n) (gA p (n - 1))=true then (if q > 0 then runT lt (kas_desc f (kas_rev p (n - (q+1)) n) (n+1) 0) else runT lt (kas_desc f p (n+1) 0))
    else if lt (gA p (n - 1)) (gA p n)=true then (p,n,q) else runT lt (kas_desc f p (n+1) (q+1)):=by
   show runT lt (if lt (gA p n) (gA p (n - 1))=true then (if q > 0 then kas_desc f (kas_rev p (n - (q+1)) n) (n+1) 0 else kas_desc f p (n+1) 0) else .ask (gA p (n - 1)) (gA p n) fun d=>if d=true then .ret (p,n,q) else kas_desc f p (n+1) (q+1))=_
   split
   ·split <;> rfl
   ·show runT lt (if lt (gA p (n - 1)) (gA p n)=true then KasT.ret (p,n,q) else kas_desc f p (n+1) (q+1))=_
    split <;> rfl
  rw [e]
  by_cases c:lt (gA p n) (gA p (n - 1))=true
  ·rw [if_pos c]
   have ca:=w.asymm _ _ c
   by_cases hq:q > 0
   ·rw [if_pos hq]
    have d1:Dn lt (kas_rev p (n - (q+1)) n) n:=hd.rev w (by lia) he.2
    have en:gA (kas_rev p (n - (q+1)) n) n=gA p n:=by rw [gA_mirror (by lia),if_neg (by lia)]
    have ca':lt (gA (kas_rev p (n - (q+1)) n) (n - 1)) (gA (kas_rev p (n - (q+1)) n) n)=false:=by
     rw [en,gA_mirror (by lia)]
     split
     ·-- an item of the stretch is above p n
      exact w.trans _ _ _ ca (hd _ (n - 1) (by lia) (by lia))
     ·exact ca
    obtain ⟨p',n',q',z,h2,h3,h4,h5,h6,h7⟩:=ih (kas_rev p (n - (q+1)) n) (n+1) 0 (by rw [rev_size]; lia) (d1.one w h1 ca') ⟨by lia,fun k k1 k2=>by
     have:k=n:=by lia
     subst this; exact w.refl _⟩
    exact ⟨p',n',q',z,h2.trans (rev_perm _ _ _),h3.trans (rev_size _ _ _),by lia,by lia,h6,h7⟩
   ·rw [if_neg hq]
    obtain ⟨p',n',q',z,h2,h3,h4,h5,h6,h7⟩:=ih p (n+1) 0 (by lia) (hd.one w h1 ca) ⟨by lia,fun k k1 k2=>by
     have:k=n:=by lia
     subst this; exact w.refl _⟩
    exact ⟨p',n',q',z,h2,h3,by lia,by lia,h6,h7⟩
  ·rw [if_neg c]
   have c':lt (gA p n) (gA p (n - 1))=false:=by simpa using c
   by_cases d:lt (gA p (n - 1)) (gA p n)=true
   ·rw [if_pos d]
    exact ⟨p,n,q,rfl,Array.Perm.refl _,rfl,Nat.le_refl _,by lia,hd,he⟩
   ·rw [if_neg d]
    have d':lt (gA p (n - 1)) (gA p n)=false:=by simpa using d
    obtain ⟨p',n',q',z,h2,h3,h4,h5,h6,h7⟩:=ih p (n+1) (q+1) (by lia) (hd.one w h1 d') ⟨by have:=he.1; lia,fun k k1 k2=>by
     rw [Nat.add_sub_cancel]
     by_cases e:k=n
     ·subst e; exact w.refl _
     ·exact w.trans _ _ _ (he.2 k (by lia) (by lia)) c'⟩
    exact ⟨p',n',q',z,h2,h3,by lia,by lia,h6,h7⟩
theorem Dn.up {p:Array Nat} {n:Nat} (hn:n<=p.size) (h:Dn lt p n):Up lt (kas_rev p 0 n) n:=by
 intro i j hij hjn
 rw [gA_mirror hn,gA_mirror hn,if_pos ⟨by lia,hjn⟩,if_pos ⟨by lia,by lia⟩]
 exact h _ _ (by lia) (by lia)
theorem run_tail (w:SWO lt) {p:Array Nat} {n nrem:Nat} (h1:1<=n) (hn:n<=nrem) (hs:nrem<=p.size) (h:Dn lt p n):∃ p' m,runT lt (kas_tail3 n nrem p)=(m,p')/\p'.Perm p/\p'.size=p.size/\n<=m/\m<=nrem/\Up lt p' m:=by
 obtain ⟨a1,a2,a3,_⟩:=run_asc (lt:=lt) (kas_rev p 0 n) (nrem - n) n
 refine ⟨kas_rev p 0 n,runT lt (kas_asc (kas_rev p 0 n) (nrem - n) n),by rw [kas_tail3,runT_bind]; rfl,rev_perm _ _ _,rev_size _ _ _,a1,by lia,?_⟩
 exact (h.up (by lia)).more w h1 a3
theorem run_descPart (w:SWO lt) {p:Array Nat} {n nrem:Nat} (h1:1<=n) (hn:n < nrem) (hs:nrem<=p.size) (h:Dn lt p n) (hc:lt (gA p (n - 1)) (gA p n)=false) :
  ∃ p' m,runT lt (kas_descPart n nrem p)=(m,p')/\p'.Perm p/\p'.size=p.size/\n<=m/\m<=nrem/\Up lt p' m:=by
 obtain ⟨p1,n1,q1,z,z2,z3,z4,z5,z6,z7⟩:=run_desc w (nrem - (n+1)) p (n+1) 0 (by lia) (h.one w h1 hc) ⟨by lia,fun k k1 k2=>by
  have:k=n:=by lia
  subst this; exact w.refl _⟩
 rw [kas_descPart,runT_bind,z]
 show ∃ p' m,runT lt (if q1 > 0 then kas_tail3 n1 nrem (kas_rev p1 (n1 - (q1+1)) n1) else kas_tail3 n1 nrem p1)=(m,p')/\_
 by_cases hq:q1 > 0
 ·rw [if_pos hq]
  obtain ⟨p',m,y1,y2,y3,y4,y5,y6⟩:=run_tail (nrem:=nrem) w (p:=kas_rev p1 (n1 - (q1+1)) n1) (by lia) (by lia) (by rw [rev_size]; lia) (z6.rev w (by lia) z7.2)
  exact ⟨p',m,y1,(y2.trans (rev_perm _ _ _)).trans z2,(y3.trans (rev_size _ _ _)).trans z3,by lia,y5,y6⟩
 ·rw [if_neg hq]
  obtain ⟨p',m,y1,y2,y3,y4,y5,y6⟩:=run_tail (nrem:=nrem) w (p:=p1) (by lia) (by lia) (by lia) z6
  exact ⟨p',m,y1,y2.trans z2,y3.trans z3,by lia,y5,y6⟩
theorem run_count (w:SWO lt) {p:Array Nat} {nrem:Nat} (h1:1<=nrem) (hs:nrem<=p.size):∃ p' m,runT lt (kas_count nrem p)=(m,p')/\p'.Perm p/\p'.size=p.size/\1<=m/\m<=nrem/\Up lt p' m:=by
 obtain ⟨a1,a2,a3,a4⟩:=run_asc (lt:=lt) p (nrem - 1) 1
 rw [kas_count,runT_bind]
 generalize runT lt (kas_asc p (nrem - 1) 1)=n at a1 a2 a3 a4
 have u1:Up lt p 1:=fun i j hij hj=>by
  have:i=j:=by lia
  subst this; exact w.refl _
 have up:Up lt p n:=u1.more w (Nat.le_refl _) a3
 by_cases e:n=nrem
 ·subst e
  rw [if_pos (by simp)]
  exact ⟨p,n,rfl,Array.Perm.refl _,rfl,a1,Nat.le_refl _,up⟩
 ·rw [if_neg (by simpa using e)]
  have hb:=a4 (by lia)
  by_cases h2:n > 1
  ·rw [if_pos h2]
   show ∃ p' m,runT lt (if lt (gA p 0) (gA p (n - 1))=true then KasT.ret (n,p) else kas_descPart n nrem (kas_rev p 0 n))=(m,p')/\_
   by_cases c:lt (gA p 0) (gA p (n - 1))=true
   ·rw [if_pos c]
    exact ⟨p,n,rfl,Array.Perm.refl _,rfl,a1,by lia,up⟩
   ·rw [if_neg c]
    have c':lt (gA p 0) (gA p (n - 1))=false:=by simpa using c
    have all:∀ i j,i < n->j < n->lt (gA p i) (gA p j)=false:=fun i j hi hj =>
     w.trans _ _ _ (w.trans _ _ _ (up j (n - 1) (by lia) (by lia)) c') (up 0 i (by lia) hi)
    have d1:Dn lt (kas_rev p 0 n) n:=fun i j hij hj=>by
     rw [gA_mirror (by lia),gA_mirror (by lia),if_pos ⟨by lia,by lia⟩,if_pos ⟨by lia,hj⟩]
     exact all _ _ (by lia) (by lia)
    have hl:lt (gA (kas_rev p 0 n) (n - 1)) (gA (kas_rev p 0 n) n)=false:=by
     rw [gA_mirror (by lia),gA_mirror (by lia),if_pos ⟨by lia,by lia⟩,if_neg (by lia)]
     exact w.trans _ _ _ (w.asymm _ _ hb) (all _ _ (by lia) (by lia))
    obtain ⟨p',m,y1,y2,y3,y4,y5,y6⟩:=run_descPart (nrem:=nrem) w (p:=kas_rev p 0 n) a1 (by lia) (by rw [rev_size]; lia) d1 hl
    exact ⟨p',m,y1,y2.trans (rev_perm _ _ _),y3.trans (rev_size _ _ _),by lia,y5,y6⟩
  ·rw [if_neg h2]
   have e1:n=1:=by lia
   subst e1
   have d1:Dn lt p 1:=fun i j hij hj=>by
    have:i=j:=by lia
    subst this; exact w.refl _
   obtain ⟨p',m,y1,y2,y3,y4,y5,y6⟩:=run_descPart (nrem:=nrem) w (p:=p) (Nat.le_refl _) (by lia) hs d1 (w.asymm _ _ hb)
   exact ⟨p',m,y1,y2,y3,by lia,y5,y6⟩
theorem run_place (w:SWO lt) {p:Array Nat} {k:Nat}:∀ (f l r:Nat),l<=r->r<=k->r - l<=f->Up lt p k->(∀ i,i < l->lt (gA p k) (gA p i)=false)->(∀ i,r<=i->i < k->lt (gA p k) (gA p i)=true) ->
  ∃ m,runT lt (kas_place p k f l r)=m/\m<=k/\(∀ i,i < m->lt (gA p k) (gA p i)=false)/\(∀ i,m<=i->i < k->lt (gA p k) (gA p i)=true):=by
 intro f
 induction f with
 | zero =>
  intro l r hlr hrk hf up h1 h2
  have:l=r:=by lia
  subst this
  exact ⟨l,rfl,hrk,h1,h2⟩
 | succ f ih =>
  intro l r hlr hrk hf up h1 h2
  have e:runT lt (kas_place p k (f+1) l r)=if l>=r then l else if lt (gA p k) (gA p ((l+r) / 2))=true then runT lt (kas_place p k f l ((l+r) / 2)) else runT lt (kas_place p k f ((l+r) / 2+1) r):=by
   show runT lt (if l>=r then KasT.ret l else .ask (gA p k) (gA p ((l+r) / 2)) fun c=>if c=true then kas_place p k f l ((l+r) / 2) else kas_place p k f ((l+r) / 2+1) r)=_
   split
   ·rfl
   ·show runT lt (if lt (gA p k) (gA p ((l+r) / 2))=true then kas_place p k f l ((l+r) / 2) else kas_place p k f ((l+r) / 2+1) r)=_
    split <;> rfl
  rw [e]
  by_cases c:l>=r
  ·rw [if_pos c]
   have:l=r:=by lia
   subst this
   exact ⟨l,rfl,hrk,h1,h2⟩
  ·rw [if_neg c]
   by_cases d:lt (gA p k) (gA p ((l+r) / 2))=true
   ·rw [if_pos d]
    refine ih l ((l+r) / 2) (by lia) (by lia) (by lia) up h1 fun i i1 i2=>?_
    cases q:lt (gA p k) (gA p i) with
    | true=>rfl
    | false=>rw [w.trans _ _ _ (up ((l+r) / 2) i i1 i2) q] at d; cases d
   ·rw [if_neg d]
    refine ih ((l+r) / 2+1) r (by lia) hrk (by lia) up (fun i hi=>?_) h2
    exact w.trans _ _ _ (up i ((l+r) / 2) (by lia) (by lia)) (by simpa using d)
theorem gA_bubble {p:Array Nat} {src d:Nat} (hs:src < p.size) (hd:d<=src) (k:Nat):gA (bubble p src d) k=if k=src - d then gA p src else if src - d < k/\k<=src then gA p (k - 1) else gA p k:=by
 rw [gA_eq,getElem?_bubble hs d hd,gA_eq p src,gA_eq p (k - 1),gA_eq p k]
 by_cases h1:k=src - d
 ·rw [if_pos h1,if_pos h1]
 ·rw [if_neg h1,if_neg h1]
  by_cases h2:src - d < k/\k<=src
  ·rw [if_pos h2,if_pos h2]
  ·rw [if_neg h2,if_neg h2]
theorem run_bin (w:SWO lt):∀ (f:Nat) (p:Array Nat) (k:Nat),k+f<=p.size->Up lt p k->∃ p',runT lt (kas_bin f p k)=p'/\p'.Perm p/\p'.size=p.size/\Up lt p' (k+f):=by
 intro f
 induction f with
 | zero=>intro p k _ up; exact ⟨p,rfl,Array.Perm.refl _,rfl,up⟩
 | succ f ih =>
  intro p k hs up
  obtain ⟨m,e,hm,h1,h2⟩:=run_place w k 0 k (Nat.zero_le _) (Nat.le_refl _) (Nat.le_refl _) up (fun i hi=>absurd hi (by lia)) (fun i i1 i2=>absurd i1 (by lia))
  have up':Up lt (bubble p k (k - m)) (k+1):=by
   intro i j hij hj
   rw [gA_bubble (by lia) (by lia),gA_bubble (by lia) (by lia)]
   have ek:k - (k - m)=m:=by lia
   rw [ek]
   by_cases j1:j=m
   ·rw [if_pos j1]
    by_cases i1:i=m
    ·rw [if_pos i1]; exact w.refl _
    ·rw [if_neg i1,if_neg (by lia)]; exact h1 i (by lia)
   ·rw [if_neg j1]
    by_cases j2:m < j/\j<=k
    ·rw [if_pos j2]
     by_cases i1:i=m
     ·rw [if_pos i1]; exact w.asymm _ _ (h2 (j - 1) (by lia) (by lia))
     ·rw [if_neg i1]
      by_cases i2:m < i/\i<=k
      ·rw [if_pos i2]; exact up _ _ (by lia) (by lia)
      ·rw [if_neg i2]; exact up _ _ (by lia) (by lia)
    ·rw [if_neg j2,if_neg (by lia),if_neg (by lia)]; exact up _ _ hij (by lia)
  obtain ⟨p',z,z1,z2,z3⟩:=ih (bubble p k (k - m)) (k+1) (by rw [bubble_size]; lia) up'
  refine ⟨p',?_,z1.trans (bubble_perm _ _ _),z2.trans (bubble_size _ _ _),by rw [show k+(f+1)=k+1+f by lia]; exact z3⟩
  rw [kas_bin,runT_bind,e]; exact z
theorem run_sort (w:SWO lt) {n:Nat} (h1:1<=n):∃ p,runT lt (kas_sort n)=p/\p.toList.Perm (List.range n)/\p.size=n/\Up lt p n:=by
 obtain ⟨p,m,z,z1,z2,z3,z4,z5⟩:=run_count w (p:=(List.range n).toArray) h1 (by simp)
 have zs:p.size=n:=by rw [z2]; simp
 have zp:p.toList.Perm (List.range n):=by simpa using z1.toList
 rw [kas_sort,runT_bind,z]
 show ∃ q,runT lt (if m < n then kas_bin (n - max m 1) p (max m 1) else .ret p)=q/\_
 by_cases c:m < n
 ·rw [if_pos c]
  have em:max m 1=m:=by lia
  rw [em]
  obtain ⟨p',y,y1,y2,y3⟩:=run_bin w (n - m) p m (by lia) z5
  exact ⟨p',y,(by simpa using y1.toList:p'.toList.Perm p.toList).trans zp,y2.trans zs,by rw [show n=m+(n - m) by lia]; exact y3⟩
 ·rw [if_neg c]
  have:m=n:=by lia
  subst this
  exact ⟨p,rfl,zp,zs,z5⟩
end
end K2
end
section
namespace K2
open PySem PySem.Spec PyProof.Rows L2
open PySem.AutoSeq1 (wpAny_loadPart')
open PySem.MeetsSeq PySem.MeetsSeq2 PySem.MeetsSeq3 PySem.SeqAt
noncomputable def LtAt (A:Around) (s:Shared) (y x:Value) (b:Bool):Prop :=
 ∀ (prog:Program) (w:World) (E:Value->Shared->Prop) (Q:Value->Shared->Prop),Q (.bool b) s->wpAny (model prog w) A (richCompare .Lt y x) Q E s
noncomputable def lexN (e l:Nat->Bool) (n m:Nat):Nat->Nat->Bool
 | 0,_=>decide (n < m)
 | f+1,i=>if e i=true then lexN e l n m f (i+1) else l i
theorem lt_loop (l b:Addr) (xs ys:Array Value) (n m:Nat) (dd de:Option Addr) (sl sm:Array (Option Value)) (e lt:Nat->Bool) (k:Nat) :
  ∀ i:Nat,i<=min xs.size ys.size->min xs.size ys.size - i=k->Meets (Builtin.«list.__eq__.loop» ⟨[.ref l,.ref b,rawInt i,rawInt 0],[]⟩)
   (fun A R s=>s.heap.get? l=some { cls:=.type "list",dict:=dd,data:=.seq xs n,slots:=sl }/\s.heap.get? b=some { cls:=.type "list",dict:=de,data:=.seq ys m,slots:=sm } /\
    (∀ j (h1:j < xs.size) (h2:j < ys.size),EqAt A.in1 s xs[j] ys[j] (e j)/\LtAt A.in1 s xs[j] ys[j] (lt j)) /\
    R (.ok (.ret (.bool (lexN e lt xs.size ys.size k i)))) s):=by
 induction k with
 | zero =>
  intro i hi hk prog w A R s h
  obtain ⟨hp,g,d,tk,os⟩:=s
  obtain ⟨hl,hb,he,h⟩:=h
  wp_walk using wpAny_loadPart' hl,wpAny_loadPart' hb
  by_cases c:xs.size<=ys.size
  ·have h1:xs[((i:Nat):Int).toNat]?=none:=by simp; lia
   rw [h1]
   wp_walk using wpAny_loadPart' hl,wpAny_loadPart' hb
   exact h
  ·have h2:ys[((i:Nat):Int).toNat]?=none:=by simp; lia
   rw [h2]
   cases q:xs[((i:Nat):Int).toNat]? with
   | none =>
    wp_walk using wpAny_loadPart' hl,wpAny_loadPart' hb
    exact h
   | some v =>
    wp_walk using wpAny_loadPart' hl,wpAny_loadPart' hb
    exact h
 | succ k ih =>
  intro i hi hk prog w A R s h
  obtain ⟨hp,g,d,tk,os⟩:=s
  obtain ⟨hl,hb,he,h⟩:=h
  wp_walk using wpAny_loadPart' hl,wpAny_loadPart' hb
  have l1:i < xs.size:=by lia
  have l2:i < ys.size:=by lia
  have h1:xs[((i:Nat):Int).toNat]?=some xs[i]:=by simp [l1]
  have h2:ys[((i:Nat):Int).toNat]?=some ys[i]:=by simp [l2]
  have hc:((i:Int)+1)=((i+1:Nat):Int):=by push_cast; rfl
  rw [h1,h2]
  refine wpAny_bind ((he i l1 l2).1 prog w _ _ ?_)
  cases q:e i with
  | true =>
   rw [lexN,q,if_pos rfl] at h
   wp_walk
   rw [hc]
   exact ⟨plainId_quiet plain_eq_loop _,codeAny_builtin entry_eq_loop (by
    rw [Around.under_plainId plain_eq_loop _]
    exact ih (i+1) (by lia) (by lia) prog w A R _ ⟨hl,hb,he,h⟩)⟩
  | false =>
   rw [lexN,q,if_neg (by simp)] at h
   wp_walk using wpAny_loadPart' hl,wpAny_loadPart' hb
   rw [h1,h2]
   have hri:=(he i l1 l2).2 prog w
   wp_walk using hri
   exact h
theorem list_ltAt (l b:Addr) (xs ys:Array Value) (n m:Nat) (dd de:Option Addr) (sl sm:Array (Option Value)) (e lt:Nat->Bool) :
  Meets (Builtin.«list.__lt__» ⟨[.ref l,.ref b],[]⟩)
   (fun A R s=>s.heap.get? l=some { cls:=.type "list",dict:=dd,data:=.seq xs n,slots:=sl }/\s.heap.get? b=some { cls:=.type "list",dict:=de,data:=.seq ys m,slots:=sm } /\
    (∀ j (h1:j < xs.size) (h2:j < ys.size),EqAt A.in1 s xs[j] ys[j] (e j)/\LtAt A.in1 s xs[j] ys[j] (lt j)) /\
    R (.ok (.ret (.bool (lexN e lt xs.size ys.size (min xs.size ys.size) 0)))) s):=by
 intro prog w A R s h
 obtain ⟨hp,g,d,tk,os⟩:=s
 obtain ⟨hl,hb,he,h⟩:=h
 have f3:=AutoSeq1.sub_list_list
 wp_walk using wpAny_loadPart' hl,wpAny_loadPart' hb
 exact ⟨plainId_quiet plain_eq_loop _,codeAny_builtin entry_eq_loop (by
  rw [Around.under_plainId plain_eq_loop _]
  exact lt_loop l b xs ys n m dd de sl sm e lt _ 0 (Nat.zero_le _) rfl prog w A R _ ⟨hl,hb,he,h⟩)⟩
theorem tuple_ltAt (l b:Addr) (xs ys:Array Value) (n m:Nat) (dd de:Option Addr) (sl sm:Array (Option Value)) (e lt:Nat->Bool) :
  Meets (Builtin.«tuple.__lt__» ⟨[.ref l,.ref b],[]⟩)
   (fun A R s=>s.heap.get? l=some { cls:=.type "tuple",dict:=dd,data:=.seq xs n,slots:=sl }/\s.heap.get? b=some { cls:=.type "tuple",dict:=de,data:=.seq ys m,slots:=sm } /\
    (∀ j (h1:j < xs.size) (h2:j < ys.size),EqAt A.in1 s xs[j] ys[j] (e j)/\LtAt A.in1 s xs[j] ys[j] (lt j)) /\
    R (.ok (.ret (.bool (lexN e lt xs.size ys.size (min xs.size ys.size) 0)))) s) :=
 .of_wp fun prog w A R s h=>by
  obtain ⟨hp,g,d,tk,os⟩:=s
  obtain ⟨hl,hb,he,h⟩:=h
  have f2:=AutoSeq1.sub_tuple_tuple
  have zl:(xs.toList.zip ys.toList).length=min xs.size ys.size:=by simp
  wp_walk using wpAny_loadPart' hl,wpAny_loadPart' hb,wpAny_forIn_list _ (fun rest c s'=>c.1=none/\s'=⟨hp,g,d,tk,os⟩/\∃ i,i<=min xs.size ys.size/\rest=(xs.toList.zip ys.toList).drop i /\
   R (.ok (.ret (.bool (lexN e lt xs.size ys.size (min xs.size ys.size - i) i)))) ⟨hp,g,d,tk,os⟩) _
  case turn =>
   rintro ⟨y,x⟩ rest c s' ⟨hc,rfl,i,hi,hz,hR⟩
   have il:i < min xs.size ys.size:=by
    have:=congrArg List.length hz
    rw [List.length_drop,zl,List.length_cons] at this
    lia
   have l1:i < xs.size:=by lia
   have l2:i < ys.size:=by lia
   rw [List.drop_eq_getElem_cons (by rw [zl]; exact il)] at hz
   injection hz with hyx hrest
   have ey:y=xs[i]/\x=ys[i]:=by simpa using hyx
   obtain ⟨rfl,rfl⟩:=ey
   obtain ⟨k,ek⟩:∃ k,min xs.size ys.size - i=k+1:=⟨min xs.size ys.size - i - 1,by lia⟩
   rw [ek,lexN] at hR
   refine wpAny_bind ((he i l1 l2).1 prog w _ _ ?_)
   cases q:e i with
   | true =>
    rw [q,if_pos rfl] at hR
    wp_walk
    exact ⟨rfl,rfl,i+1,by lia,hrest,by rw [show min xs.size ys.size - (i+1)=k by lia]; exact hR⟩
   | false =>
    rw [q,if_neg (by simp)] at hR
    have hri:=(he i l1 l2).2 prog w
    wp_walk using hri
    exact ⟨_,rfl,by simpa using hR⟩
  case fin =>
   rintro ⟨c1,c2⟩ s' ⟨hc,rfl,i,hi,hz,hR⟩
   simp only at hc
   subst hc
   have il:min xs.size ys.size - i=0:=by
    have:=congrArg List.length hz
    rw [List.length_drop,zl,List.length_nil] at this
    lia
   rw [il,lexN] at hR
   wp_walk
   exact ⟨_,rfl,by simpa [Builtin.Tuple.tupleCompareSizes] using hR⟩
  case h =>
   exact ⟨rfl,rfl,0,Nat.zero_le _,rfl,by simpa using h⟩
theorem ltAt_list {A:Around} {s:Shared} {l b:Addr} {xs ys:Array Value} {e lt:Nat->Bool} (hl:s.heap.IsList l xs) (hb:s.heap.IsList b ys) (hu:A.units < cLine)
  (he:∀ j (h1:j < xs.size) (h2:j < ys.size),EqAt A.in1 s xs[j] ys[j] (e j)/\LtAt A.in1 s xs[j] ys[j] (lt j)):LtAt A s (.ref l) (.ref b) (lexN e lt xs.size ys.size (min xs.size ys.size) 0):=by
 intro prog w E Q hq
 obtain ⟨⟨cls,dd,data,sl⟩,ho,hc,n,hd⟩:=id hl
 obtain ⟨⟨cls2,dd2,data2,sl2⟩,ho2,hc2,n2,hd2⟩:=id hb
 simp only at hc hd hc2 hd2
 subst hc hd hc2 hd2
 exact richCompare_meets_room (op:=.Lt) ⟨_,ho,rfl⟩ ⟨_,ho2,rfl⟩ PySem.F.slot_list_lt PySem.F.entry_list_lt (PySem.F.args_list_lt_2 _ _) (list_ltAt l b xs ys n n2 dd dd2 sl sl2 e lt)
  ⟨ho,ho2,he,(fun x=>nomatch x),hq⟩ hu
theorem ltAt_tuple {A:Around} {s:Shared} {l b:Addr} {xs ys:Array Value} {e lt:Nat->Bool} (hl:s.heap.IsTuple l xs) (hb:s.heap.IsTuple b ys) (hu:A.units < cLine)
  (he:∀ j (h1:j < xs.size) (h2:j < ys.size),EqAt A.in1 s xs[j] ys[j] (e j)/\LtAt A.in1 s xs[j] ys[j] (lt j)):LtAt A s (.ref l) (.ref b) (lexN e lt xs.size ys.size (min xs.size ys.size) 0):=by
 intro prog w E Q hq
 obtain ⟨⟨cls,dd,data,sl⟩,ho,hc,n,hd⟩:=id hl
 obtain ⟨⟨cls2,dd2,data2,sl2⟩,ho2,hc2,n2,hd2⟩:=id hb
 simp only at hc hd hc2 hd2
 subst hc hd hc2 hd2
 exact richCompare_meets_room (op:=.Lt) ⟨_,ho,rfl⟩ ⟨_,ho2,rfl⟩ PySem.F.slot_tuple_lt PySem.F.entry_tuple_lt (PySem.F.args_tuple_lt_2 _ _) (tuple_ltAt l b xs ys n n2 dd dd2 sl sl2 e lt)
  ⟨ho,ho2,he,(fun x=>nomatch x),hq⟩ hu
theorem lexN_ltDs (xs ys:List D):∀ (k i:Nat),i<=min xs.length ys.length->min xs.length ys.length - i=k ->
  lexN (fun j=>eqD (xs.getD j .non) (ys.getD j .non)) (fun j=>ltD (xs.getD j .non) (ys.getD j .non)) xs.length ys.length k i=ltDs (xs.drop i) (ys.drop i)
 | 0,i,hi,hk=>by
  rw [lexN]
  by_cases c:xs.length<=ys.length
  ·have e1:xs.drop i=[]:=List.drop_eq_nil_of_le (by lia)
   rw [e1]
   cases q:ys.drop i with
   | nil =>
    have:=congrArg List.length q
    rw [List.length_drop,List.length_nil] at this
    exact decide_eq_false (by lia)
   | cons y r =>
    have:=congrArg List.length q
    rw [List.length_drop,List.length_cons] at this
    exact decide_eq_true (by lia)
  ·have e1:ys.drop i=[]:=List.drop_eq_nil_of_le (by lia)
   rw [e1]
   cases q:xs.drop i with
   | nil =>
    have:=congrArg List.length q
    rw [List.length_drop,List.length_nil] at this
    exact decide_eq_false (by lia)
   | cons y r=>exact decide_eq_false (by lia)
 | k+1,i,hi,hk=>by
  have l1:i < xs.length:=by lia
  have l2:i < ys.length:=by lia
  rw [lexN,List.drop_eq_getElem_cons l1,List.drop_eq_getElem_cons l2,ltDs_c,lexN_ltDs xs ys k (i+1) (by lia) (by lia)]
  have g1:xs.getD i .non=xs[i]:=by rw [List.getD_eq_getElem?_getD,List.getElem?_eq_getElem l1]; rfl
  have g2:ys.getD i .non=ys[i]:=by rw [List.getD_eq_getElem?_getD,List.getElem?_eq_getElem l2]; rfl
  rw [g1,g2]
theorem reads_at {h:Heap}:∀ {ds:List D} {vs:List Value} {as:List Addr},ReadsAll h vs (pds ds) as->∀ j (hj:j < vs.length),∃ bs,Reads h vs[j] (pd (ds.getD j .non)) bs
 | [],vs,as,r,j,hj=>by cases r; exact absurd hj (Nat.not_lt_zero _)
 | d :: ds,_,_,.cons (v:=v) (vs:=vs) r1 r2,j,hj=>by
  cases j with
  | zero=>exact ⟨_,r1⟩
  | succ j=>exact reads_at r2 j (by simpa using hj)
theorem readsAll_len {h:Heap}:∀ {ds:List D} {vs:List Value} {as:List Addr},ReadsAll h vs (pds ds) as->vs.length=ds.length
 | [],_,_,r=>by cases r; rfl
 | d :: ds,_,_,.cons r1 r2=>by rw [List.length_cons,List.length_cons,readsAll_len r2]
theorem nrs_at:∀ {ds:List D},nrs ds=true->∀ j,nr (ds.getD j .non)=true
 | [],_,j=>by rw [List.getD_nil]; rfl
 | d :: ds,h,0=>by
  have h:(nr d&&nrs ds)=true:=h
  rw [Bool.and_eq_true] at h; simpa using h.1
 | d :: ds,h,j+1=>by
  have h:(nr d&&nrs ds)=true:=h
  rw [Bool.and_eq_true] at h; simpa using nrs_at h.2 j
theorem depthAll_at:∀ (ds:List D) (j:Nat),(pd (ds.getD j .non)).depth<=PyData.depthAll (pds ds)
 | [],j=>by rw [List.getD_nil]; exact Nat.le_refl _
 | d :: ds,0=>by
  show (pd d).depth<=PyData.depthAll (pd d :: pds ds)
  simp only [PyData.depthAll]; lia
 | d :: ds,j+1=>by
  have:=depthAll_at ds j
  show (pd (ds.getD j .non)).depth<=PyData.depthAll (pd d :: pds ds)
  simp only [PyData.depthAll]; lia
theorem hasSs_at:∀ {l:List Shp} {ds:List D},hasSs l ds=true->∀ j,j < ds.length->∃ s∈l,hasS s (ds.getD j .non)=true/\l[j]?=some s
 | [],[],_,j,hj=>absurd hj (Nat.not_lt_zero _)
 | [],_ :: _,h,_,_=>by cases h
 | _ :: _,[],h,_,_=>by cases h
 | s :: l,d :: ds,h,0,_=>by
  have h:(hasS s d&&hasSs l ds)=true:=h
  rw [Bool.and_eq_true] at h
  exact ⟨s,by simp,by simpa using h.1,by simp⟩
 | s :: l,d :: ds,h,j+1,hj=>by
  have h:(hasS s d&&hasSs l ds)=true:=h
  rw [Bool.and_eq_true] at h
  obtain ⟨s',h1,h2,h3⟩:=hasSs_at h.2 j (by simpa using hj)
  exact ⟨s',List.mem_cons_of_mem _ h1,by simpa using h2,by simpa using h3⟩
theorem hasSl_at:∀ {s:Shp} {ds:List D},hasSl s ds=true->∀ j,j < ds.length->hasS s (ds.getD j .non)=true
 | s,[],_,j,hj=>absurd hj (Nat.not_lt_zero _)
 | s,d :: ds,h,0,_=>by
  have h:(hasS s d&&hasSl s ds)=true:=h
  rw [Bool.and_eq_true] at h; simpa using h.1
 | s,d :: ds,h,j+1,hj=>by
  have h:(hasS s d&&hasSl s ds)=true:=h
  rw [Bool.and_eq_true] at h; simpa using hasSl_at h.2 j (by simpa using hj)
theorem eqAt_at {A:Around} {s:Shared} {xs ys:List D} {vs ws:Array Value} {as bs:List Addr} (r1:ReadsAll s.heap vs.toList (pds xs) as) (r2:ReadsAll s.heap ws.toList (pds ys) bs) (n1:nrs xs=true) (n2:nrs ys=true)
  (hu:A.units+PyData.depthAll (pds xs) < cLine) (j:Nat) (h1:j < vs.size) (h2:j < ws.size):EqAt A s vs[j] ws[j] (eqD (xs.getD j .non) (ys.getD j .non)):=by
 obtain ⟨as',q1⟩:=reads_at r1 j (by simpa using h1)
 obtain ⟨bs',q2⟩:=reads_at r2 j (by simpa using h2)
 have m1:=nrs_at n1 j
 have m2:=nrs_at n2 j
 have dp:=depthAll_at xs j
 have:=eqAt_reads (pd (xs.getD j .non)) (pd (ys.getD j .non)) A s _ _ _ _ q1 q2 (lay_pd _ m1) (lay_pd _ m2) (by lia)
 rw [eqv_pd _ _ m1 m2] at this
 simpa using this
theorem ltAt_reads:∀ (n:Nat) (sh:Shp) (a b:D) (A:Around) (s:Shared) (u v:Value) (as bs:List Addr),(pd a).depth<=n->hasS sh a=true->hasS sh b=true->nr a=true->nr b=true->Reads s.heap u (pd a) as->Reads s.heap v (pd b) bs->A.units+n < cLine->LtAt A s u v (ltD a b):=by
 intro n
 induction n using Nat.strongRecOn with
 | _ n ih =>
 intro sh a b A s u v as bs hn h1 h2 n1 n2 r1 r2 hu
 cases sh with
 | int =>
  first | obtain ⟨_,rfl⟩:=hasS_i h1 | obtain ⟨_,rfl⟩:=hasS_t h1 | obtain ⟨_,rfl⟩:=hasS_l h1
  first | obtain ⟨_,rfl⟩:=hasS_i h2 | obtain ⟨_,rfl⟩:=hasS_t h2 | obtain ⟨_,rfl⟩:=hasS_l h2
  cases r1; cases r2
  intro prog w E Q hq
  exact HT.rcLt_int A s _ _ _ _ prog w E Q hq
 | tup l =>
  first | obtain ⟨_,rfl⟩:=hasS_i h1 | obtain ⟨_,rfl⟩:=hasS_t h1 | obtain ⟨_,rfl⟩:=hasS_l h1
  first | obtain ⟨_,rfl⟩:=hasS_i h2 | obtain ⟨_,rfl⟩:=hasS_t h2 | obtain ⟨_,rfl⟩:=hasS_l h2
  rename_i xs ys
  have n1:nrs xs=true:=n1
  have n2:nrs ys=true:=n2
  cases r1 with
  | tuple k1 k2 k3 k4 =>
   cases r2 with
   | tuple m1 m2 m3 m4 =>
    rename_i p o vs c p' o' ws c'
    have hd:(pd (.tup xs)).depth=PyData.depthAll (pds xs)+1:=rfl
    obtain ⟨n',rfl⟩:∃ n',n=n'+1:=⟨n - 1,by lia⟩
    have z1:=readsAll_len k4
    have z2:=readsAll_len m4
    have e1:vs.size=xs.length:=by simpa using z1
    have e2:ws.size=ys.length:=by simpa using z2
    have base:=ltAt_tuple (A:=A) (s:=s) (e:=fun j=>eqD (xs.getD j .non) (ys.getD j .non)) (lt:=fun j=>ltD (xs.getD j .non) (ys.getD j .non)) ⟨_,k1,k2,_,k3⟩ ⟨_,m1,m2,_,m3⟩ (by lia) (fun j j1 j2=>by
     refine ⟨eqAt_at k4 m4 n1 n2 (by show A.units+1+_ < _; lia) j j1 j2,?_⟩
     obtain ⟨as',q1⟩:=reads_at k4 j (by simpa using j1)
     obtain ⟨bs',q2⟩:=reads_at m4 j (by simpa using j2)
     obtain ⟨sj,hsj,g1,g2⟩:=hasSs_at (l:=l) (ds:=xs) h1 j (by lia)
     obtain ⟨sj',hsj',g1',g2'⟩:=hasSs_at (l:=l) (ds:=ys) h2 j (by lia)
     rw [g2] at g2'; cases g2'
     have dp:=depthAll_at xs j
     have:=ih n' (by lia) sj (xs.getD j .non) (ys.getD j .non) A.in1 s _ _ _ _ (by lia) g1 g1' (nrs_at n1 j) (nrs_at n2 j) q1 q2 (by show A.units+1+n' < cLine; lia)
     simpa using this)
    have fin:=lexN_ltDs xs ys (min xs.length ys.length) 0 (Nat.zero_le _) rfl
    rw [e1,e2,fin] at base
    exact base
 | lst l =>
  first | obtain ⟨_,rfl⟩:=hasS_i h1 | obtain ⟨_,rfl⟩:=hasS_t h1 | obtain ⟨_,rfl⟩:=hasS_l h1
  first | obtain ⟨_,rfl⟩:=hasS_i h2 | obtain ⟨_,rfl⟩:=hasS_t h2 | obtain ⟨_,rfl⟩:=hasS_l h2
  rename_i xs ys
  have n1:nrs xs=true:=n1
  have n2:nrs ys=true:=n2
  cases r1 with
  | list k1 k2 k3 k4 =>
   cases r2 with
   | list m1 m2 m3 m4 =>
    rename_i p o vs c p' as' o' ws c' bs'
    have hd:(pd (.rol xs)).depth=PyData.depthAll (pds xs)+1:=rfl
    obtain ⟨n',rfl⟩:∃ n',n=n'+1:=⟨n - 1,by lia⟩
    have z1:=readsAll_len k4
    have z2:=readsAll_len m4
    have e1:vs.size=xs.length:=by simpa using z1
    have e2:ws.size=ys.length:=by simpa using z2
    have base:=ltAt_list (A:=A) (s:=s) (e:=fun j=>eqD (xs.getD j .non) (ys.getD j .non)) (lt:=fun j=>ltD (xs.getD j .non) (ys.getD j .non)) ⟨_,k1,k2,_,k3⟩ ⟨_,m1,m2,_,m3⟩ (by lia) (fun j j1 j2=>by
     refine ⟨eqAt_at k4 m4 n1 n2 (by show A.units+1+_ < _; lia) j j1 j2,?_⟩
     obtain ⟨as',q1⟩:=reads_at k4 j (by simpa using j1)
     obtain ⟨bs',q2⟩:=reads_at m4 j (by simpa using j2)
     have dp:=depthAll_at xs j
     have:=ih n' (by lia) l (xs.getD j .non) (ys.getD j .non) A.in1 s _ _ _ _ (by lia) (hasSl_at (s:=l) (ds:=xs) h1 j (by lia)) (hasSl_at (s:=l) (ds:=ys) h2 j (by lia)) (nrs_at n1 j) (nrs_at n2 j) q1 q2 (by show A.units+1+n' < cLine; lia)
     simpa using this)
    have fin:=lexN_ltDs xs ys (min xs.length ys.length) 0 (Nat.zero_le _) rfl
    rw [e1,e2,fin] at base
    exact base
end K2
end
section
namespace K2
open PySem PySem.Spec PyProof.Rows L2 PySem.W
section
variable {prog:Program} {w:World} {A:Around} {E:Value->Shared->Prop} {s:Shared}
theorem sort_few {at':Addr} {its:List Value} {n:Nat} {P:PySem.Fin->Shared->Prop} (hat:s.heap.get? at'=some (seqObj "list" its.toArray n)) (few:its.length < 2)
  (done:P (.done (.ret .none)) { s with heap:=sortedHeap s.heap at' its its.toArray }):wpAny (model prog w) A (Builtin.«list.sort» ⟨[.ref at'],[]⟩) P E s:=by
 rw [list_sort_plain]
 have lt':at' < s.heap.objs.size:=Heap.lt_size hat
 refine wpAny_bind (listItems_at hat rfl (wpAny_bind (listUpdate_at hat rfl ?_)))
 obtain ⟨c,hc⟩:∃ c,(s.heap.update at' (Obj.mapSeq fun _=>#[])).get? at'=some (seqObj "list" #[] c):=⟨_,get?_update_seq hat (fun _=>#[])⟩
 refine wpAny_bind (seqEpoch_at hc rfl (wpAny_bind (wpAny_newTuple (wpAny_bind (wpAny_newList (wpAny_holding ?_))))))
 have h6:(((s.heap.update at' (Obj.mapSeq fun _=>#[])).push (seqObj "tuple" its.toArray 0)).push (seqObj "list" #[] 0)).get? at'=some (seqObj "list" #[] c):=by
  rw [Heap.get?_push_ne _ _ _ (by rw [size_push',Heap.size_update]; exact Nat.ne_of_lt (Nat.lt_succ_of_lt lt')),Heap.get?_push_ne _ _ _ (by rw [Heap.size_update]; exact Nat.ne_of_lt lt')]
  exact hc
 show wpAny (model prog w) A _ P E { s with heap:=((s.heap.update at' (Obj.mapSeq fun _=>#[])).push (seqObj "tuple" its.toArray 0)).push (seqObj "list" #[] 0) }
 dsimp only
 have sz2:its.toArray.size < 2:=by simpa using few
 rw [if_pos sz2,if_pos sz2]
 refine wpAny_bind (wpAny_pure ?_)
 rw [StateT.run_pure]
 refine wpAny_bind (wpAny_pure ?_)
 dsimp only
 have es:(its.toArray.zip its.toArray).map (·.2)=its.toArray:=by
  apply Array.toList_inj.mp
  simp [List.map_snd_zip]
 refine wpAny_bind (seqEpoch_at h6 rfl (wpAny_bind (listUpdate_at h6 rfl ?_ (hsz2:=by rw [show (arrOf (SortSt.mk' general' (its.toArray.zip its.toArray) #[] 7 none)).map (·.2)=its.toArray from es,sizeLine_eq]; simp; lia))))
 simp only [bne_self_eq_false,Bool.false_eq_true,if_false]
 refine wpAny_pure ?_
 rw [show (arrOf (SortSt.mk' general' (its.toArray.zip its.toArray) #[] 7 none)).map (·.2)=its.toArray from es]
 exact done
end
section
open PySem.SeqAt
noncomputable def OneAt (A:Around) (s:Shared) (y x:Value) (b:Bool):Prop :=
 ∀ (prog:Program) (w:World) (E:Value->Shared->Prop) (Q:Bool->Shared->Prop),Q b s->wpAny (model prog w) A (oneLt' true y x) Q E s
theorem oneAt_list {A:Around} {s:Shared} {l b:Addr} {xs ys:Array Value} {e lt:Nat->Bool} (hl:s.heap.IsList l xs) (hb:s.heap.IsList b ys) (hu:A.units < cLine)
  (he:∀ j (h1:j < xs.size) (h2:j < ys.size),EqAt A.in1 s xs[j] ys[j] (e j)/\LtAt A.in1 s xs[j] ys[j] (lt j)):OneAt A s (.ref l) (.ref b) (lexN e lt xs.size ys.size (min xs.size ys.size) 0):=by
 intro prog w E Q hq
 obtain ⟨⟨cls,dd,data,sl⟩,ho,hc,n,hd⟩:=id hl
 obtain ⟨⟨cls2,dd2,data2,sl2⟩,ho2,hc2,n2,hd2⟩:=id hb
 simp only at hc hd hc2 hd2
 subst hc hd hc2 hd2
 rw [oneLt'_eq]
 simp only [if_true]
 refine wpAny_bind (wpAny_cRoomFor hu (wpAny_bind (wpAny_callSpecialIfBound?_slot (T:="list") ⟨_,ho,rfl⟩ PySem.F.slot_list_lt ?_)))
 exact call_meets PySem.F.slot_list_lt ⟨_,ho,rfl⟩ PySem.F.entry_list_lt (PySem.F.args_list_lt_2 _ _) (list_ltAt l b xs ys n n2 dd dd2 sl sl2 e lt) ⟨ho,ho2,he,wpAny_truthy_bool hq⟩
theorem oneAt_tuple {A:Around} {s:Shared} {l b:Addr} {xs ys:Array Value} {e lt:Nat->Bool} (hl:s.heap.IsTuple l xs) (hb:s.heap.IsTuple b ys) (hu:A.units < cLine)
  (he:∀ j (h1:j < xs.size) (h2:j < ys.size),EqAt A.in1 s xs[j] ys[j] (e j)/\LtAt A.in1 s xs[j] ys[j] (lt j)):OneAt A s (.ref l) (.ref b) (lexN e lt xs.size ys.size (min xs.size ys.size) 0):=by
 intro prog w E Q hq
 obtain ⟨⟨cls,dd,data,sl⟩,ho,hc,n,hd⟩:=id hl
 obtain ⟨⟨cls2,dd2,data2,sl2⟩,ho2,hc2,n2,hd2⟩:=id hb
 simp only at hc hd hc2 hd2
 subst hc hd hc2 hd2
 rw [oneLt'_eq]
 simp only [if_true]
 refine wpAny_bind (wpAny_cRoomFor hu (wpAny_bind (wpAny_callSpecialIfBound?_slot (T:="tuple") ⟨_,ho,rfl⟩ PySem.F.slot_tuple_lt ?_)))
 exact call_meets PySem.F.slot_tuple_lt ⟨_,ho,rfl⟩ PySem.F.entry_tuple_lt (PySem.F.args_tuple_lt_2 _ _) (tuple_ltAt l b xs ys n n2 dd dd2 sl sl2 e lt) ⟨ho,ho2,he,wpAny_truthy_bool hq⟩
theorem items_at {n:Nat} {A:Around} {s:Shared} {xs ys:List D} {vs ws:Array Value} {as bs:List Addr} (r1:ReadsAll s.heap vs.toList (pds xs) as) (r2:ReadsAll s.heap ws.toList (pds ys) bs) (n1:nrs xs=true) (n2:nrs ys=true) (hd:PyData.depthAll (pds xs)<=n)
  (hu:A.units+n < cLine) (hs:∀ j,j < xs.length->j < ys.length->∃ sh,hasS sh (xs.getD j .non)=true/\hasS sh (ys.getD j .non)=true) (j:Nat) (h1:j < vs.size) (h2:j < ws.size) :
  EqAt A s vs[j] ws[j] (eqD (xs.getD j .non) (ys.getD j .non))/\LtAt A s vs[j] ws[j] (ltD (xs.getD j .non) (ys.getD j .non)):=by
 have z1:=readsAll_len r1
 have z2:=readsAll_len r2
 have e1:vs.size=xs.length:=by simpa using z1
 have e2:ws.size=ys.length:=by simpa using z2
 refine ⟨eqAt_at r1 r2 n1 n2 (by lia) j h1 h2,?_⟩
 obtain ⟨as',q1⟩:=reads_at r1 j (by simpa using h1)
 obtain ⟨bs',q2⟩:=reads_at r2 j (by simpa using h2)
 obtain ⟨sh,g1,g2⟩:=hs j (by lia) (by lia)
 have dp:=depthAll_at xs j
 have:=ltAt_reads n sh (xs.getD j .non) (ys.getD j .non) A s _ _ _ _ (by lia) g1 g2 (nrs_at n1 j) (nrs_at n2 j) q1 q2 hu
 simpa using this
theorem oneAt_reads {n:Nat} {sh:Shp} {a b:D} {A:Around} {s:Shared} {u v:Value} {as bs:List Addr} (hn:(pd a).depth<=n) (h1:hasS sh a=true) (h2:hasS sh b=true) (n1:nr a=true) (n2:nr b=true) (r1:Reads s.heap u (pd a) as) (r2:Reads s.heap v (pd b) bs)
  (hu:A.units+n < cLine):OneAt A s u v (ltD a b):=by
 cases sh with
 | int =>
  first | obtain ⟨_,rfl⟩:=hasS_i h1 | obtain ⟨_,rfl⟩:=hasS_t h1 | obtain ⟨_,rfl⟩:=hasS_l h1
  first | obtain ⟨_,rfl⟩:=hasS_i h2 | obtain ⟨_,rfl⟩:=hasS_t h2 | obtain ⟨_,rfl⟩:=hasS_l h2
  cases r1; cases r2
  intro prog w E Q hq
  exact oneLt_int hq
 | tup l =>
  first | obtain ⟨_,rfl⟩:=hasS_i h1 | obtain ⟨_,rfl⟩:=hasS_t h1 | obtain ⟨_,rfl⟩:=hasS_l h1
  first | obtain ⟨_,rfl⟩:=hasS_i h2 | obtain ⟨_,rfl⟩:=hasS_t h2 | obtain ⟨_,rfl⟩:=hasS_l h2
  rename_i xs ys
  have n1:nrs xs=true:=n1
  have n2:nrs ys=true:=n2
  cases r1 with
  | tuple k1 k2 k3 k4 =>
   cases r2 with
   | tuple m1 m2 m3 m4 =>
    rename_i p o vs c p' o' ws c'
    have hd:(pd (.tup xs)).depth=PyData.depthAll (pds xs)+1:=rfl
    obtain ⟨n',rfl⟩:∃ n',n=n'+1:=⟨n - 1,by lia⟩
    have z1:=readsAll_len k4
    have z2:=readsAll_len m4
    have e1:vs.size=xs.length:=by simpa using z1
    have e2:ws.size=ys.length:=by simpa using z2
    have base:=oneAt_tuple (A:=A) (s:=s) ⟨_,k1,k2,_,k3⟩ ⟨_,m1,m2,_,m3⟩ (by lia) (items_at (A:=A.in1) (n:=n') k4 m4 n1 n2 (by lia) (by show A.units+1+n' < cLine; lia) fun j j1 j2=>by
     obtain ⟨sj,hsj,g1,g2⟩:=hasSs_at (l:=l) (ds:=xs) h1 j j1
     obtain ⟨sj',hsj',g1',g2'⟩:=hasSs_at (l:=l) (ds:=ys) h2 j j2
     rw [g2] at g2'; cases g2'
     exact ⟨sj,g1,g1'⟩)
    have fin:=lexN_ltDs xs ys (min xs.length ys.length) 0 (Nat.zero_le _) rfl
    rw [e1,e2,fin] at base
    exact base
 | lst l =>
  first | obtain ⟨_,rfl⟩:=hasS_i h1 | obtain ⟨_,rfl⟩:=hasS_t h1 | obtain ⟨_,rfl⟩:=hasS_l h1
  first | obtain ⟨_,rfl⟩:=hasS_i h2 | obtain ⟨_,rfl⟩:=hasS_t h2 | obtain ⟨_,rfl⟩:=hasS_l h2
  rename_i xs ys
  have n1:nrs xs=true:=n1
  have n2:nrs ys=true:=n2
  cases r1 with
  | list k1 k2 k3 k4 =>
   cases r2 with
   | list m1 m2 m3 m4 =>
    rename_i p o vs c p' as' o' ws c' bs'
    have hd:(pd (.rol xs)).depth=PyData.depthAll (pds xs)+1:=rfl
    obtain ⟨n',rfl⟩:∃ n',n=n'+1:=⟨n - 1,by lia⟩
    have z1:=readsAll_len k4
    have z2:=readsAll_len m4
    have e1:vs.size=xs.length:=by simpa using z1
    have e2:ws.size=ys.length:=by simpa using z2
    have base:=oneAt_list (A:=A) (s:=s) ⟨_,k1,k2,_,k3⟩ ⟨_,m1,m2,_,m3⟩ (by lia) (items_at (A:=A.in1) (n:=n') k4 m4 n1 n2 (by lia) (by show A.units+1+n' < cLine; lia) fun j j1 j2=>⟨l,hasSl_at (s:=l) (ds:=xs) h1 j j1,hasSl_at (s:=l) (ds:=ys) h2 j j2⟩)
    have fin:=lexN_ltDs xs ys (min xs.length ys.length) 0 (Nat.zero_le _) rfl
    rw [e1,e2,fin] at base
    exact base
theorem katLex_reads {prog:Program} {w:World} {A:Around} {s:Shared} {b fin:Bool} {Q:Bool->Shared->Prop} {n:Nat} (hu:A.units+n < cLine):∀ (l:List Shp) (xs ys:List D) (vs ws:List Value) (as bs:List Addr) (i:Nat),hasSs l xs=true->hasSs l ys=true->nrs xs=true->nrs ys=true ->
  ReadsAll s.heap vs (pds xs) as->ReadsAll s.heap ws (pds ys) bs->PyData.depthAll (pds xs)<=n->fin=false->Q (ltDs xs ys) s->KatLex prog w A b fin Q (vs.zip ws) i s:=by
 intro l xs
 induction xs generalizing l with
 | nil =>
  intro ys vs ws as bs i h1 h2 n1 n2 r1 r2 hd hf hq
  cases r1
  cases l with
  | nil =>
   cases ys with
   | nil=>cases r2; subst hf; exact hq
   | cons _ _=>cases h2
  | cons _ _=>cases h1
 | cons x xs ih =>
  intro ys vs ws as bs i h1 h2 n1 n2 r1 r2 hd hf hq
  cases l with
  | nil=>cases h1
  | cons sh l =>
  cases ys with
  | nil=>cases h2
  | cons y ys =>
  cases r1 with
  | @cons v vs _ _ _ _ a1 a2 =>
  cases r2 with
  | @cons u ws _ _ _ _ b1 b2 =>
  have h1:(hasS sh x&&hasSs l xs)=true:=h1
  have h2:(hasS sh y&&hasSs l ys)=true:=h2
  have n1:(nr x&&nrs xs)=true:=n1
  have n2:(nr y&&nrs ys)=true:=n2
  rw [Bool.and_eq_true] at h1 h2 n1 n2
  have hd1:(pd x).depth<=n/\PyData.depthAll (pds xs)<=n:=by
   have hd:PyData.depthAll (pd x :: pds xs)<=n:=hd
   simp only [PyData.depthAll] at hd
   lia
  show KatLex prog w A b fin Q ((v,u) :: vs.zip ws) i s
  have eq:=eqAt_reads (pd x) (pd y) A s _ _ _ _ a1 b1 (lay_pd _ n1.1) (lay_pd _ n2.1) (by lia)
  rw [eqv_pd _ _ n1.1 n2.1] at eq
  refine kat_cons (eq prog w _ _ ?_)
  rw [ltDs_c] at hq
  cases q:eqD x y with
  | true =>
   rw [q,if_pos rfl] at hq
   exact kat_yes (ih l ys vs ws _ _ (i+1) h1.2 h2.2 n1.2 n2.2 a2 b2 hd1.2 hf hq)
  | false =>
   rw [q,if_neg (by simp)] at hq
   refine kat_no ?_
   cases c:(b&&i == 0) with
   | true=>exact oneAt_reads hd1.1 h1.1 h2.1 n1.1 n2.1 a1 b1 hu prog w _ Q hq
   | false=>exact kat_one v u (ltAt_reads n sh x y A s _ _ _ _ hd1.1 h1.1 h2.1 n1.1 n2.1 a1 b1 hu prog w _ _ hq)
end
noncomputable def AskP {α:Type} (n:Nat) (P:α->Prop):KasT α->Prop
 | .ret a=>P a
 | .ask i j k=>i < n/\j < n/\∀ b,AskP n P (k b)
theorem AskP.bind {α β:Type} {n:Nat} {P:α->Prop} {P':β->Prop} {f:α->KasT β}:∀ {t:KasT α},AskP n P t->(∀ a,P a->AskP n P' (f a))->AskP n P' (t.bind f)
 | .ret a,q,h=>h a q
 | .ask i j k,⟨q1,q2,q3⟩,h=>⟨q1,q2,fun b=>AskP.bind (q3 b) h⟩
theorem kas_pure {α:Type} {n:Nat} {lt:Nat->Nat->Bool} {cmp:Nat->Nat->(Bool->Shared->Prop)->Shared->Prop} {s:Shared} {Q:α->Shared->Prop} (hc:∀ i j,i < n->j < n->∀ C:Bool->Shared->Prop,C (lt i j) s->cmp i j C s) :
  ∀ (t:KasT α),AskP n (fun _=>True) t->Q (runT lt t) s->t.kasWp cmp Q s
 | .ret a,_,q=>q
 | .ask i j k,⟨h1,h2,h3⟩,q=>hc i j h1 h2 _ (kas_pure hc (k (lt i j)) (h3 _) q)
noncomputable def Bd (n:Nat) (p:Array Nat):Prop:=0 < n/\∀ x∈p,x < n
theorem Bd.at {n:Nat} {p:Array Nat} (h:Bd n p) (k:Nat):p.getD k 0 < n:=by
 by_cases hk:k < p.size
 ·have:p.getD k 0=p[k]:=by simp [Array.getD,hk]
  rw [this]; exact h.2 _ (Array.getElem_mem hk)
 ·have:p.getD k 0=0:=by simp [Array.getD,hk]
  rw [this]; exact h.1
theorem Bd.perm {n:Nat} {p q:Array Nat} (h:Bd n p) (hp:q.Perm p):Bd n q:=⟨h.1,fun x hx=>h.2 x (hp.mem_iff.mp hx)⟩
theorem ask_asc {n:Nat} {p:Array Nat} (h:Bd n p):∀ (f k:Nat),AskP n (fun _=>True) (kas_asc p f k)
 | 0,k=>trivial
 | f+1,k=>⟨h.at _,h.at _,fun b=>by
  show AskP n _ (if b=true then KasT.ret k else kas_asc p f (k+1))
  split
  ·trivial
  ·exact ask_asc h f (k+1)⟩
theorem ask_desc {n:Nat}:∀ (f:Nat) (p:Array Nat) (k q:Nat),Bd n p->AskP n (fun r=>Bd n r.1) (kas_desc f p k q)
 | 0,p,k,q,h=>h
 | f+1,p,k,q,h=>⟨h.at _,h.at _,fun b=>by
  show AskP n _ (if b=true then (if q > 0 then kas_desc f (kas_rev p (k - (q+1)) k) (k+1) 0 else kas_desc f p (k+1) 0) else .ask (p.getD (k - 1) 0) (p.getD k 0) fun d=>if d=true then .ret (p,k,q) else kas_desc f p (k+1) (q+1))
  split
  ·split
   ·exact ask_desc f _ _ _ (h.perm (rev_perm _ _ _))
   ·exact ask_desc f _ _ _ h
  ·refine ⟨h.at _,h.at _,fun d=>?_⟩
   show AskP n _ (if d=true then KasT.ret (p,k,q) else kas_desc f p (k+1) (q+1))
   split
   ·exact h
   ·exact ask_desc f _ _ _ h⟩
theorem ask_tail {n:Nat} {p:Array Nat} (h:Bd n p) (k m:Nat):AskP n (fun r=>Bd n r.2) (kas_tail3 k m p) :=
 AskP.bind (ask_asc (h.perm (rev_perm _ _ _)) _ _) fun _ _=>h.perm (rev_perm _ _ _)
theorem ask_descPart {n:Nat} {p:Array Nat} (h:Bd n p) (k m:Nat):AskP n (fun r=>Bd n r.2) (kas_descPart k m p) :=
 AskP.bind (ask_desc _ _ _ _ h) fun r hr=>by
  split
  ·exact ask_tail (hr.perm (rev_perm _ _ _)) _ _
  ·exact ask_tail hr _ _
theorem ask_count {n:Nat} {p:Array Nat} (h:Bd n p) (m:Nat):AskP n (fun r=>Bd n r.2) (kas_count m p) :=
 AskP.bind (ask_asc h _ _) fun k _=>by
  split
  ·exact h
  ·split
   ·refine ⟨h.at _,h.at _,fun b=>?_⟩
    show AskP n _ (if b=true then KasT.ret (k,p) else kas_descPart k m (kas_rev p 0 k))
    split
    ·exact h
    ·exact ask_descPart (h.perm (rev_perm _ _ _)) _ _
   ·exact ask_descPart h _ _
theorem ask_place {n:Nat} {p:Array Nat} (h:Bd n p) (k:Nat):∀ (f l r:Nat),AskP n (fun _=>True) (kas_place p k f l r)
 | 0,l,r=>trivial
 | f+1,l,r=>by
  show AskP n _ (if l>=r then KasT.ret l else .ask (p.getD k 0) (p.getD ((l+r) / 2) 0) fun c=>if c=true then kas_place p k f l ((l+r) / 2) else kas_place p k f ((l+r) / 2+1) r)
  split
  ·trivial
  ·refine ⟨h.at _,h.at _,fun b=>?_⟩
   show AskP n _ (if b=true then kas_place p k f l ((l+r) / 2) else kas_place p k f ((l+r) / 2+1) r)
   split
   ·exact ask_place h k f _ _
   ·exact ask_place h k f _ _
theorem ask_bin {n:Nat}:∀ (f:Nat) (p:Array Nat) (k:Nat),Bd n p->AskP n (fun _=>True) (kas_bin f p k)
 | 0,p,k,h=>trivial
 | f+1,p,k,h=>AskP.bind (ask_place h k _ _ _) fun l _=>ask_bin f _ _ (h.perm (bubble_perm _ _ _))
theorem ask_sort {n:Nat} (h:0 < n):AskP n (fun _=>True) (kas_sort n) :=
 AskP.bind (ask_count ⟨h,fun x hx=>by simpa using hx⟩ n) fun r hr=>by
  split
  ·exact ask_bin _ _ _ hr
  ·trivial
end K2
end
section
namespace K2
open PySem PySem.Spec PyProof.Rows L2 PySem.W
mutual
theorem reads_keepS {h h':Heap} (hk:∀ b o vs n,o.data=.seq vs n->h.get? b=some o->h'.get? b=some o):∀ (d:D) {v:Value} {as:List Addr},nr d=true->Reads h v (pd d) as->Reads h' v (pd d) as
 | .non,_,_,_,r=>by cases r; exact .none
 | .bl b,_,_,_,r=>by cases r; exact .bool b
 | .int i,_,_,_,r=>by cases r; exact .int i _
 | .str x,_,_,_,r=>by cases r; exact .str x _
 | .tup ds,_,_,n,r=>by
  cases r with
  | tuple h1 h2 h3 h4=>exact .tuple (hk _ _ _ _ h3 h1) h2 h3 (readsAll_keepS hk ds n h4)
 | .rol ds,_,_,n,r=>by
  cases r with
  | list h1 h2 h3 h4=>exact .list (hk _ _ _ _ h3 h1) h2 h3 (readsAll_keepS hk ds n h4)
 | .rod _,_,_,n,_=>by cases n
 | .ref _,_,_,n,_=>by cases n
 | .exc _,_,_,n,_=>by cases n
theorem readsAll_keepS {h h':Heap} (hk:∀ b o vs n,o.data=.seq vs n->h.get? b=some o->h'.get? b=some o):∀ (ds:List D) {vs:List Value} {as:List Addr},nrs ds=true->ReadsAll h vs (pds ds) as->ReadsAll h' vs (pds ds) as
 | [],_,_,_,r=>by cases r; exact .nil
 | d :: ds,_,_,n,r=>by
  have n:(nr d&&nrs ds)=true:=n
  rw [Bool.and_eq_true] at n
  cases r with
  | cons r1 r2=>exact .cons (reads_keepS hk d n.1 r1) (readsAll_keepS hk ds n.2 r2)
end
mutual
theorem sn_shp (G:Gp):∀ (sh:Shp) (d:D) (n:Nat),hasS sh d=true->dpS sh<=n->Sn G n d d
 | .int,.int i,n,_,_=>.int i
 | .tup l,.tup ds,n,h,hn=>by
  have hn:dpSs l+1<=n:=hn
  obtain ⟨m,rfl⟩:∃ m,n=m+1:=⟨n - 1,by lia⟩
  exact sn_shps G l ds m h (by lia)
 | .lst s,.rol ds,n,h,hn=>by
  have hn:dpS s+1<=n:=hn
  obtain ⟨m,rfl⟩:∃ m,n=m+1:=⟨n - 1,by lia⟩
  exact sn_shpl G s ds m h (by lia)
theorem sn_shps (G:Gp):∀ (l:List Shp) (ds:List D) (m:Nat),hasSs l ds=true->dpSs l<=m->Sn G (m+1) (.tup ds) (.tup ds)
 | [],[],m,_,_=>.tnil
 | s :: l,d :: ds,m,h,hm=>by
  have h:(hasS s d&&hasSs l ds)=true:=h
  have hm:max (dpS s) (dpSs l)<=m:=hm
  rw [Bool.and_eq_true] at h
  exact .tcons (sn_shp G s d m h.1 (by lia)) (sn_shps G l ds m h.2 (by lia))
theorem sn_shpl (G:Gp):∀ (s:Shp) (ds:List D) (m:Nat),hasSl s ds=true->dpS s<=m->Sn G (m+1) (.rol ds) (.rol ds)
 | s,[],m,_,_=>.rnil
 | s,d :: ds,m,h,hm=>by
  have h:(hasS s d&&hasSl s ds)=true:=h
  rw [Bool.and_eq_true] at h
  exact .rcons (sn_shp G s d m h.1 hm) (sn_shpl G s ds m h.2 hm)
end
theorem getD_at {α:Type} (xs:List α) (d:α) {i:Nat} (h:i < xs.length):xs.getD i d=xs[i]:=by
 rw [List.getD_eq_getElem?_getD,List.getElem?_eq_getElem h]; rfl
theorem map_getD_range {α:Type} (xs:List α) (d:α):(List.range xs.length).map (fun i=>xs.getD i d)=xs:=by
 refine List.ext_getElem (by simp) fun i h1 h2=>?_
 rw [List.getElem_map,List.getElem_range]
 exact getD_at _ _ h2
theorem tups_firsts {h:Heap} {s1:Shp} {l:List Shp}:∀ (zs:List D) (vs:List Value),(∀ z∈zs,hasS (.tup (s1 :: l)) z=true)->(∀ i,i < vs.length->∃ as,Reads h (vs.getD i .none) (pd (zs.getD i .non)) as)->vs.length=zs.length ->
  ∃ fs,KatTups h vs fs/\fs.length=vs.length/\∀ f∈fs,∃ d as,hasS s1 d=true/\Reads h f (pd d) as:=by
 intro zs
 induction zs with
 | nil =>
  intro vs _ _ h
  have:vs=[]:=List.length_eq_zero_iff.mp h
  subst this
  exact ⟨[],trivial,rfl,fun _ h=>by cases h⟩
 | cons z zs ih =>
 intro vs hs hr hl
 cases vs with
 | nil=>cases hl
 | cons v vs =>
  obtain ⟨fs,h1,h2,h3⟩:=ih vs (fun z hz=>hs z (List.mem_cons_of_mem _ hz)) (fun i hi=>by
   obtain ⟨as,r⟩:=hr (i+1) (by simpa using hi)
   exact ⟨as,by simpa using r⟩) (by simpa using hl)
  obtain ⟨as,r⟩:=hr 0 (by simp)
  have hz:=hs z (by simp)
  simp only [List.getD_cons_zero] at r
  cases z <;> first | (cases hz; done) | skip
  rename_i ds
  cases ds with
  | nil=>cases hz
  | cons d ds =>
   have hz:(hasS s1 d&&hasSs l ds)=true:=hz
   rw [Bool.and_eq_true] at hz
   cases r with
   | tuple k1 k2 k3 k4 =>
    rename_i p o ws c
    have k5:ReadsAll h ws.toList (pd d :: pds ds) as:=k4
    cases q:ws.toList with
    | nil=>rw [q] at k5; cases k5
    | cons f rest =>
     rw [q] at k5
     cases k5 with
     | cons r1 r2 =>
      have hf:ws[0]?=some f:=by
       have:ws.toList[0]?=some f:=by rw [q]; rfl
       simpa using this
      refine ⟨f :: fs,.cons k1 k2 k3 hf h1,by simp [h2],fun g hg=>?_⟩
      rcases List.mem_cons.mp hg with rfl | hg
      ·exact ⟨d,_,hz.1,r1⟩
      ·exact h3 g hg
noncomputable def tyShp:Shp->Value
 | .int=>.type "int"
 | .tup _=>.type "tuple"
 | .lst _=>.type "list"
theorem looks_shp {M:Model} {h:Heap} {sh:Shp} {d:D} {v:Value} {as:List Addr} (hs:hasS sh d=true) (r:Reads h v (pd d) as):Looks M h (typeOf v) (tyShp sh):=by
 cases sh with
 | int =>
  cases d <;> first | (cases hs; done) | skip
  cases r
  exact .now
 | tup l =>
  cases d <;> first | (cases hs; done) | skip
  cases r with
  | tuple k1 k2 k3 k4 =>
   rename_i p o ws c
   have:Looks M h (typeOf (.ref p)) o.cls:=(Looks.ld k1).andThen .now
   rw [k2] at this; exact this
 | lst l =>
  cases d <;> first | (cases hs; done) | skip
  cases r with
  | list k1 k2 k3 k4 =>
   rename_i p o ws c as
   have:Looks M h (typeOf (.ref p)) o.cls:=(Looks.ld k1).andThen .now
   rw [k2] at this; exact this
theorem keyLt_tup {prog:Program} {w:World} {A:Around} {s:Shared} {E:Value->Shared->Prop} {Q:Bool->Shared->Prop} {n:Nat} {b:Bool} {l:List Shp} {a c:D} {u v:Value} {as bs:List Addr} (hn:(pd a).depth<=n+1) (h1:hasS (.tup l) a=true) (h2:hasS (.tup l) c=true) (n1:nr a=true) (n2:nr c=true)
  (r1:Reads s.heap u (pd a) as) (r2:Reads s.heap v (pd c) bs) (hu:A.units+n < cLine) (hq:Q (ltD a c) s):wpAny (model prog w) A (keyLt' (tuples' b) u v) Q E s:=by
 first | obtain ⟨_,rfl⟩:=hasS_i h1 | obtain ⟨_,rfl⟩:=hasS_t h1 | obtain ⟨_,rfl⟩:=hasS_l h1
 first | obtain ⟨_,rfl⟩:=hasS_i h2 | obtain ⟨_,rfl⟩:=hasS_t h2 | obtain ⟨_,rfl⟩:=hasS_l h2
 rename_i xs ys
 cases r1 with
 | tuple k1 k2 k3 k4 =>
  cases r2 with
  | tuple m1 m2 m3 m4 =>
   rename_i p o vs c p' o' ws c'
   have z1:=readsAll_len k4
   have z2:=readsAll_len m4
   have e1:vs.size=xs.length:=by simpa using z1
   have e2:ws.size=ys.length:=by simpa using z2
   have el:∀ (l:List Shp) (xs ys:List D),hasSs l xs=true->hasSs l ys=true->xs.length=ys.length:=by
    intro l
    induction l with
    | nil =>
     intro xs ys h1 h2
     cases xs with
     | nil=>cases ys with
      | nil=>rfl
      | cons _ _=>cases h2
     | cons _ _=>cases h1
    | cons s l ih =>
     intro xs ys h1 h2
     cases xs with
     | nil=>cases h1
     | cons x xs =>
      cases ys with
      | nil=>cases h2
      | cons y ys =>
       have h1:(hasS s x&&hasSs l xs)=true:=h1
       have h2:(hasS s y&&hasSs l ys)=true:=h2
       rw [Bool.and_eq_true] at h1 h2
       rw [List.length_cons,List.length_cons,ih xs ys h1.2 h2.2]
   have hd:(pd (.tup xs)).depth=PyData.depthAll (pds xs)+1:=rfl
   refine kat_lt k1 k3 m1 m3 (katLex_reads (n:=n) hu l xs ys _ _ _ _ 0 h1 h2 n1 n2 k4 m4 (by lia) (decide_eq_false (by rw [e1,e2,el l xs ys h1 h2]; lia)) hq)
end K2
end
section
namespace L2
open PySem PySem.Spec PyProof.Rows
section
variable {prog:Program} {w:World} {A:Around} {E:Value->Shared->Prop} {s:Shared}
theorem keys_begin {d:Addr} {od:Obj} {es:Array DictEntry} {c:Nat} {Q:Value->Shared->Prop} (ns:(d == sysModules)=false) (hod:s.heap.get? d=some od) (ex:od.ExactDict) (dd:od.data=.dict es c)
  (hQ:Q (.ref s.heap.objs.size) { s with heap:=s.heap.push { cls:=.type "dict_keyiterator",data:=.fields #[.ref d,.int 0 0,.int es.size 0,.int c 0] } }):wpAny (model prog w) A (pyIter (.ref d)) Q E s:=by
 have ty:s.TypeIs (.ref d) "dict":=⟨od,hod,ex.1⟩
 refine wpAny_pyIter_slot ty F.slot_dict_iter (wpAny_call_entry F.slot_dict_iter ty F.entry_dict_iter ?_ (F.args_dict_iter_1 _))
 unfold Builtin.«dict.__iter__» Builtin.Dict.dictSlotNone
 refine wpAny_bind (wpAny_bind (wpAny_notOrdered_dict ty (show wpAny _ _ (pure (Value.ref d)) _ _ s from wpAny_pure ?_)))
 show wpAny _ _ (Builtin.Dict.showsAll d >>= _) _ _ s
 unfold Builtin.Dict.showsAll
 rw [if_neg (fun z=>by rw [ns] at z; cases z)]
 refine wpAny_bind (wpAny_pure (wpAny_bind (wpAny_dictEntries hod dd (wpAny_bind (wpAny_dictEpoch hod dd ?_)))))
 refine wpAny_bind (wpAny_newObj_type (wpAny_pure ⟨_,rfl,"dict_keyiterator",_,⟨_,Heap.get?_push_size _ rfl,rfl⟩,F.slot_dict_keyiterator_next.lookup,?_⟩))
 simpa [rawInt] using hQ
theorem keys_item {it d:Addr} {od:Obj} {es:Array DictEntry} {i c:Nat} {Q:Option Value->Shared->Prop} (ki:s.heap.IsKeyIter it d i es.size c) (hod:s.heap.get? d=some od) (dd:od.data=.dict es c) (hi:i < es.size)
  (hQ:∀ h',h'.IsKeyIter it d (i+1) es.size c->Heap.SameBut it s.heap h'->Q (some es[i].key) { s with heap:=h' }):wpAny (model prog w) A (pyNext (.ref it)) Q E s:=by
 obtain ⟨o,ho,hc,hf⟩:=id ki
 unfold pyNext
 refine wpAny_bind (wpAny_attempt (wpAny_callSpecial?_slot (name:=Str.ofString "__next__") ki.typeIs F.slot_dict_keyiterator_next (wpAny_call_entry F.slot_dict_keyiterator_next ki.typeIs F.entry_dict_keyiterator_next ?_ (F.args_dict_keyiterator_next_1 _))))
 refine wpAny_bind (wpAny_pure (wpAny_bind (wpAny_bind ?_)))
 first | refine wpAny_bind (wpAny_typeNameOfWhole_keyiter ki.typeIs (wpAny_pure ?_)) | refine wpAny_bind (wpAny_typeNameOf_keyiter ki.typeIs (wpAny_pure ?_))
 refine wpAny_bind (wpAny_fieldsOf ho hf ?_)
 have own0:Builtin.Dict_items.ownsTuple "dict_keyiterator" = false:=by decide
 rw [own0]
 show wpAny _ _ (if (Value.ref d == Value.none)=true then _ else _) _ _ s
 rw [if_neg (fun z=>by cases z)]
 refine wpAny_bind (wpAny_pure (wpAny_bind (wpAny_dictEntries hod dd ?_)))
 rw [if_neg (by simp)]
 refine wpAny_bind (wpAny_pure (wpAny_bind (wpAny_dictEpoch hod dd ?_)))
 rw [if_neg (by simp)]
 refine wpAny_pure ?_
 dsimp only
 rw [if_neg (show ¬ ((i:Int) < 0) from Int.not_lt.mpr (Int.natCast_nonneg i)),Int.toNat_natCast,Array.getElem?_eq_getElem hi]
 dsimp only
 refine wpAny_bind ?_
 first | refine wpAny_bind (wpAny_typeNameOfWhole_keyiter ki.typeIs (wpAny_pure ?_)) | refine wpAny_bind (wpAny_typeNameOf_keyiter ki.typeIs (wpAny_pure ?_))
 refine wpAny_bind (wpAny_isOneOf_keyiter ki.typeIs ?_)
 show wpAny _ _ (setField (.ref it) 1 (rawInt ((i:Int)+1)) >>= _) _ _ s
 refine wpAny_bind (wpAny_setField ho hf (by simp) ?_)
 have ki2:(s.heap.update it (Obj.mapFields (·.setIfInBounds 1 (rawInt ((i:Int)+1))))).IsKeyIter it d (i+1) es.size c :=
  ⟨_,Heap.get?_update_self _ ho (Obj.isFreed_of_fields (Obj.data_mapFields hf _)),(Obj.cls_mapFields ..).trans hc,by rw [Obj.data_mapFields hf]; simp [rawInt]⟩
 refine wpAny_bind (wpAny_holding (wpAny_bind (wpAny_isOneOf_keyiter (s:={ s with heap:=s.heap.update it (Obj.mapFields (·.setIfInBounds 1 (rawInt ((i:Int)+1)))) }) ki2.typeIs ?_)))
 show wpAny _ _ (pure es[i].key) _ _ _
 exact wpAny_pure (wpAny_pure ⟨_,rfl,wpAny_pure (hQ _ ki2 (Heap.SameBut.update ..))⟩)
theorem keys_end {it d:Addr} {od:Obj} {es:Array DictEntry} {i c:Nat} {Q:Option Value->Shared->Prop} (calm:A.handled=none) (ki:s.heap.IsKeyIter it d i es.size c) (hod:s.heap.get? d=some od) (dd:od.data=.dict es c) (hi:es.size<=i)
  (hQ:∀ h',Heap.ExtBut it s.heap h'->Q none { s with heap:=h' }):wpAny (model prog w) A (pyNext (.ref it)) Q E s:=by
 obtain ⟨o,ho,hc,hf⟩:=id ki
 unfold pyNext
 refine wpAny_bind (wpAny_attempt (wpAny_callSpecial?_slot (name:=Str.ofString "__next__") ki.typeIs F.slot_dict_keyiterator_next (wpAny_call_entry F.slot_dict_keyiterator_next ki.typeIs F.entry_dict_keyiterator_next ?_ (F.args_dict_keyiterator_next_1 _))))
 refine wpAny_bind (wpAny_pure (wpAny_bind (wpAny_bind ?_)))
 first | refine wpAny_bind (wpAny_typeNameOfWhole_keyiter ki.typeIs (wpAny_pure ?_)) | refine wpAny_bind (wpAny_typeNameOf_keyiter ki.typeIs (wpAny_pure ?_))
 refine wpAny_bind (wpAny_fieldsOf ho hf ?_)
 have own0:Builtin.Dict_items.ownsTuple "dict_keyiterator" = false:=by decide
 rw [own0]
 show wpAny _ _ (if (Value.ref d == Value.none)=true then _ else _) _ _ s
 rw [if_neg (fun z=>by cases z)]
 refine wpAny_bind (wpAny_pure (wpAny_bind (wpAny_dictEntries hod dd ?_)))
 rw [if_neg (by simp)]
 refine wpAny_bind (wpAny_pure (wpAny_bind (wpAny_dictEpoch hod dd ?_)))
 rw [if_neg (by simp)]
 refine wpAny_pure ?_
 dsimp only
 rw [if_neg (show ¬ ((i:Int) < 0) from Int.not_lt.mpr (Int.natCast_nonneg i)),Int.toNat_natCast,Array.getElem?_eq_none hi]
 dsimp only
 refine wpAny_bind ?_
 first | refine wpAny_bind (wpAny_typeNameOfWhole_keyiter ki.typeIs (wpAny_pure ?_)) | refine wpAny_bind (wpAny_typeNameOf_keyiter ki.typeIs (wpAny_pure ?_))
 show wpAny _ _ (setField (.ref it) 0 .none >>= _) _ _ s
 refine wpAny_bind (wpAny_setField ho hf (by simp) ?_)
 show wpAny _ _ (newExc (.type "StopIteration") [] >>= _) _ _ _
 refine wpAny_bind ?_
 simp only [newExc,newTuple]
 refine wpAny_bind (wpAny_newObj_type (wpAny_bind (m:=firstArgMember _ _) (wpAny_of_eq (a:=Value.none) (by first | rfl | (simp only [firstArgMember]; rfl)) (wpAny_newObj_type ?_ (by size_fits)))) (by size_fits))
 simp only [raiseNew]
 refine wpAny_bind (wpAny_handled ?_)
 rw [show A.in1.handled=none from calm]
 refine wpAny_bind (wpAny_pure (wpAny_throw ?_))
 refine wpAny_bind (wpAny_isInstance (T:="StopIteration") (b:=true) ⟨_,Heap.get?_push_size _ rfl,rfl⟩ isSubtype_stop (?_))
 exact wpAny_pure (hQ _ (((Heap.SameBut.update ..).extBut.push _).push _))
end
noncomputable def Itk (a:Addr) (o:Obj) (es:Array DictEntry) (ks:List V):It :=
 ⟨fun i H=>(∃ u,H a=some (.frz o u))/\i < es.size,fun i H v H'=>H'=H/\ks[i]?=some v,fun i H=>(∃ u,H a=some (.frz o u))/\es.size<=i⟩
theorem turn_keys {P:Program} {w:World} {K:PySem.W.Frag} {tg:Expr} (a it:Addr) (o:Obj) (es:Array DictEntry) (c:Nat) (ks:List V) (dd:o.data=.dict es c) (hk:∀ i (h:i < es.size),∃ v,ks[i]?=some v/\RelV v es[i].key) :
  Turn P w K tg (Itk a o es ks) [it] it (fun i h=>h.IsKeyIter it a i es.size c) where
 mem:=by simp
 obj:=fun i h st b hb=>by
  have e:b=it:=by simpa using hb
  subst e
  obtain ⟨o',q,_,d⟩:=st
  exact ⟨o',q,fun v z=>by rw [d] at z; cases z⟩
 keep:=(by rintro i h h' ⟨o',q,r⟩ k; exact ⟨o',k it (by simp) o' q,r⟩)
 item:=by
  intro X hP hw hK hc i pins s σ H E I hf st hg
  subst hP hw hK
  obtain ⟨⟨u,hu⟩,hi⟩:=hg
  obtain ⟨f0,f1,f2,f3,f4,f5⟩:=hf it (by simp)
  obtain ⟨v,hv,rv⟩:=hk i hi
  refine keys_item st (I.hok a _ hu).1 dd hi fun h' st' sb=>?_
  have I1:Inv X pins σ H { s with heap:=h' }:=I.turned (t':=s.toks) (fun b o hb e=>(sb.2 b hb).trans e) f0 f1 f3 f4 f5
  obtain ⟨o',e,cl,d'⟩:=id st'
  exact ⟨_,rfl,go_of (s:={ s with heap:=h' }) e cl d' (by decide) ⟨v,H,I1,rv,⟨rfl,hv⟩,st',fun b hb=>(hf b hb).1⟩⟩
 done:=by
  intro X hP hw hK hc i pins s σ H E I hf st hg
  subst hP hw hK
  obtain ⟨⟨u,hu⟩,hi⟩:=hg
  obtain ⟨f0,f1,f2,f3,f4,f5⟩:=hf it (by simp)
  exact keys_end (I.ok.hd hc) st (I.hok a _ hu).1 dd hi fun h' eb=>⟨rfl,I.turned (t':=s.toks) (fun b o hb e=>eb b o hb e) f0 f1 f3 f4 f5⟩
 self:=fun A i s Q E st h=>by
  refine wpAny_pyIter_slot st.typeIs F.slot_dict_keyiterator_iter (wpAny_call_entry F.slot_dict_keyiterator_iter st.typeIs F.entry_dict_keyiterator_iter ?_ (F.args_dict_keyiterator_iter_1 _))
  show wpAny _ _ (ret (.ref it)) _ _ s
  exact wpAny_pure ⟨_,rfl,"dict_keyiterator",_,st.typeIs,F.slot_dict_keyiterator_next.lookup,h⟩
end L2
namespace K2
open PySem PySem.Spec PyProof.Rows L2
section
variable {X:Cx} {tg a:Expr} {ta:TE2} {pos p:Pos}
theorem paired_at {α β:Type} {F:α->β->Prop}:∀ {l:List α} {m:List β},Paired F l m->∀ i (h1:i < l.length) (h2:i < m.length),F l[i] m[i]:=by
 intro l m h
 induction h with
 | nil=>intro i h1; exact absurd h1 (Nat.not_lt_zero i)
 | cons h t ih =>
  intro i h1 h2
  cases i with
  | zero=>exact h
  | succ i=>exact ih i (Nat.lt_of_succ_lt_succ h1) (Nat.lt_of_succ_lt_succ h2)
theorem kV_of_is {P:Program} {w:World} {k:Key} {u:Value} (h:(mixKind P w).is k u=true):RelV (kV k) u:=by
 rcases keyIs_shape h with ⟨i,t,rfl,rfl⟩ | ⟨x,t,rfl,rfl⟩
 ·exact ⟨t,rfl⟩
 ·exact ⟨t,rfl⟩
theorem DKs.keys {K:PySem.W.Frag} {H:Hp}:∀ {kv:List (Key×V)} {kvs:List (D×D)},DKs K H kv kvs->kvs.map (·.1)=kv.map fun p=>keyD p.1:=fun h =>
 DKs.ind (motive:=fun kv kvs _=>kvs.map (·.1)=kv.map fun p=>keyD p.1) rfl (fun _ _ ih=>congrArg (_ :: ·) ih) h
theorem DTs.keys {K:PySem.W.Frag} {H:Hp}:∀ {kv:List (List Key×V)} {kvs:List (D×D)},DTs K H kv kvs->kvs.map (·.1)=kv.map fun p=>D.tup (p.1.map keyD):=fun h =>
 DTs.ind (motive:=fun kv kvs _=>kvs.map (·.1)=kv.map fun p=>D.tup (p.1.map keyD)) rfl (fun _ _ ih=>congrArg (_ :: ·) ih) h
theorem rep_keyD {K:PySem.W.Frag} {H:Hp} (k:Key):RepD K H (kV k) (keyD k):=by
 cases k with
 | inl i=>exact .int i
 | inr x=>exact .str x
theorem reps_keyD {K:PySem.W.Frag} {H:Hp}:∀ (ks:List Key),RepDs K H (ks.map kV) (ks.map keyD)
 | []=>.nil
 | k :: ks=>.cons (rep_keyD k) (reps_keyD ks)
theorem pi2_dict (ha:PE2 X a ta):PI2 X tg a (iDict ta):=by
 intro E pins s σ H τ G R hE I h
 refine thnE ha hE I h fun x H1 d G1 v s1 I1 m1 r1 rd1 q1=>?_
 unfold iDictAt at q1
 have go:∀ (l:Addr) (o:Obj) (u:HO) (kvs:List (D×D)) (es:Array DictEntry) (c:Nat) (ks:List V),(l == sysModules)=false->H1 l=some (.frz o u)->o.ExactDict->o.data=.dict es c->(∀ i (h:i < es.size),∃ v,ks[i]?=some v/\RelV v es[i].key)->ks.length=es.size ->
   RepDs X.K H1 ks (kvs.map (·.1))->R (kvs.map (·.1)) (fun _=>True) G1->wpAny (model X.prog X.w) X.A (pyIter (.ref l)) (PIE2 X pins σ tg H G R) X.xe s1:=by
  intro l o u kvs es c ks ns hl ex dd hk hlen rs q
  refine keys_begin ns (I1.inv.hok l _ hl).1 ex dd ?_
  refine ⟨s1.heap.objs.size,[s1.heap.objs.size],_,_,H1,G1,kvs.map (·.1),_,rfl,I1.inv.kept (t':=s1.toks) fun b o e=>Heap.get?_push_of_some _ e,m1,turn_keys l _ o es c ks dd hk,⟨_,Heap.get?_push_size _ rfl,rfl,rfl⟩,fun b hb=>?_,fun i H2 G2 k ab _=>?_,q⟩
  ·have e:b=s1.heap.objs.size:=by simpa using hb
   subst e
   exact I1.inv.fpOk (Nat.le_refl _) (I1.inv.hok.fresh (Nat.le_refl _))
  ·have hl2:=k.frz _ _ _ hl
   have rs2:=rs.mono k
   refine ⟨fun d hd=>?_,fun hle=>⟨⟨u,hl2⟩,by rw [← hlen,rs.length]; exact hle⟩⟩
   obtain ⟨v,hv,r⟩:=rs2.get hd
   have hi:i < es.size:=by rw [← hlen]; exact (List.getElem?_eq_some_iff.mp hv).1
   refine ⟨⟨⟨u,hl2⟩,hi⟩,?_⟩
   rintro x H3 ⟨e,y⟩
   subst e
   rw [hv] at y
   cases y
   exact ⟨r,.refl ab⟩
 cases rd1 with
 | rodK hq rs =>
  rename_i l o kv kvs
  cases r1
  obtain ⟨z,ns,vs,rel,ob,es,ep,ho,ex,dd,hko,hp,nd⟩:=(I1.inv.hok l _ hq).2
  have eo:ob=o:=by have:=(I1.inv.hok l _ hq).1; rw [ho] at this; exact Option.some.inj this
  subst eo
  have l1:es.size=vs.length:=by simpa using hp.length
  have l2:kv.length=vs.length:=Paired.length rel
  refine go l ob _ kvs es ep (kv.map fun p=>kV p.1) ns hq ex dd (fun i hi=>?_) (by rw [List.length_map]; lia) ?_ q1
  ·have i2:i < vs.length:=by lia
   have i3:i < kv.length:=by lia
   have g1:=(hp.get? (e:=es[i]) (k:=vs[i].1) (v:=vs[i].2) (by rw [List.getElem?_eq_getElem (by simpa using hi)]; simp) (by rw [List.getElem?_eq_getElem i2])).1
   refine ⟨kV kv[i].1,by simp [i3],?_⟩
   have ek:kv[i].1=vs[i].1:=(paired_at rel i i3 i2).1
   rw [ek]
   exact kV_of_is g1
  ·rw [rs.keys]
   have:∀ (l:List (Key×V)),RepDs X.K H1 (l.map fun p=>kV p.1) (l.map fun p=>keyD p.1):=by
    intro l
    induction l with
    | nil=>exact .nil
    | cons p l ih=>exact .cons (rep_keyD p.1) ih
   exact this kv
 | rodT hq rs =>
  rename_i l o kv kvs
  cases r1
  obtain ⟨z,ns,xs,rel,ob,es,ep,ho,ex,dd,hl,nd⟩:=(I1.inv.hok l _ hq).2
  have eo:ob=o:=by have:=(I1.inv.hok l _ hq).1; rw [ho] at this; exact Option.some.inj this
  subst eo
  have l1:=congrArg List.length hl
  rw [List.length_map,Array.length_toList] at l1
  refine go l ob _ kvs es ep (xs.map fun q=>V.ref q.2.1) ns hq ex dd (fun i hi=>?_) (by rw [List.length_map]; lia) ?_ q1
  ·have i2:i < xs.length:=by lia
   refine ⟨.ref xs[i].2.1,by simp [i2],?_⟩
   have:es[i]=entryOfKey (tupleKind (mixKind X.prog X.w)) xs[i]:=by
    have:=congrArg (fun l=>l[i]?) hl
    simp only [List.getElem?_map,List.getElem?_eq_getElem i2] at this
    simpa [hi] using this
   rw [this]
   rfl
  ·rw [rs.keys]
   have:∀ (kv:List (List Key×V)) (xs:List (List Key×Addr×Value)),Paired (fun (p:List Key×V) (q:List Key×Addr×Value)=>p.1=q.1/\H1 q.2.1=some (.tup (p.1.map kV))/\RelV p.2 q.2.2) kv xs->RepDs X.K H1 (xs.map fun q=>V.ref q.2.1) (kv.map fun p=>D.tup (p.1.map keyD)):=by
    intro kv xs r
    induction r with
    | nil=>exact .nil
    | cons h _ ih=>exact .cons (.tup h.2.1 (reps_keyD _)) ih
   exact this kv xs rel
 | _=>exact q1.elim
end
end K2
end
section
namespace L2
open PySem PySem.Spec PyProof.Rows PySem.W
section
variable {prog:Program} {w:World}
theorem walks_keys {A:Around} {it d:Addr} {od:Obj} {es:Array DictEntry} {c:Nat} (hh:A.handled=none) (hne:d≠it) (dd:od.data=.dict es c) :
  PySem.Walks prog w A it [it,d] [it] es.size (fun i v=>∃ h:i < es.size,v=es[i].key) (fun i h=>h.IsKeyIter it d i es.size c/\h.get? d=some od) where
 sub:=fun b hb=>by simp at hb; simp [hb]
 frame:=fun i h h' st hk=>⟨st.1.at fun o e=>hk it (by simp) o e,hk d (by simp) od st.2⟩
 item:=fun i s Q E hi st hQ=>keys_item st.1 st.2 dd hi fun h' st' sb=>hQ _ h' s.toks ⟨hi,rfl⟩ ⟨st',(sb.2 d hne).trans st.2⟩ fun b o hb e=>(sb.2 b (by simpa using hb)).trans e
 done:=fun s Q E st hQ=>keys_end hh st.1 st.2 dd (Nat.le_refl _) fun h' eb=>hQ h' s.toks fun b o hb e=>eb b o (by simpa using hb) e
 self:=fun i s Q E st hQ=>wpAny_pyIter_keyiter st.1 hQ
theorem src_keys {d:Addr} {od:Obj} {es:Array DictEntry} {c:Nat} (ns:(d == sysModules)=false) (ex:od.ExactDict) (dd:od.data=.dict es c) :
  KdlSrc prog w "dict" d d es.size (fun i v=>∃ h:i < es.size,v=es[i].key) (fun h=>h.get? d=some od) where
 type:=fun s hok=>⟨od,hok,ex.1⟩
 there:=fun h hok=>⟨Heap.lt_size hok,Heap.lt_size hok⟩
 keep:=fun h h' hok hk=>hk d (.inl rfl) od hok
 notList:=by decide
 notTuple:=by decide
 hint:=fun A E s Q hok hq=>kdl_hint_dict ⟨od,hok,ex.1⟩ hq
 iter:=fun A s hh hok=>⟨_,_,(fun E Q hq=>keys_begin ns hok ex dd hq),walks_keys hh (Nat.ne_of_lt (Heap.lt_size hok)) dd,⟨⟨_,Heap.get?_push_size _ rfl,rfl,rfl⟩,Heap.get?_push_of_some _ hok⟩⟩
end
end L2
namespace K2
open PySem PySem.Spec PyProof.Rows L2 PySem.W
section
variable {X:Cx}
theorem vals_of:∀ (ks:List V) (us:List Value),ks.length=us.length->(∀ i (h1:i < ks.length) (h2:i < us.length),RelV ks[i] us[i])->Vals ks us
 | [],[],_,_=>.nil
 | [],_ :: _,h,_=>by cases h
 | _ :: _,[],h,_=>by cases h
 | k :: ks,u :: us,h,hr=>.cons (hr 0 (by simp) (by simp)) (vals_of ks us (by simpa using h) fun i h1 h2=>hr (i+1) (by simpa using h1) (by simpa using h2))
end
end K2
end
section
namespace K2
open PySem PySem.Spec PyProof.Rows L2 PySem.W
section
variable {X:Cx}
variable {es:List Expr} {t:TF2} {e v1 v2:Expr} {te:TE2} {pos:Pos} {c:Str} {k:Nat}
variable {a:Expr} {ta:TE2} {p p2 pos2:Pos}
theorem sorted_src {pins:List (Addr×Obj)} {σ:L2.St} {H:Hp} {G:Gp} {s:Shared} {Q:DK} {T:String} {r d:Addr} {n:Nat} {P:Nat->Value->Prop} {OK:Heap->Prop} (hc:X.calm=true) (hu:X.A.units+64 < cLine) (I:Inv X pins σ H s) (ab:AbH X.K H G)
  (K:PySem.W.KdlSrc X.prog X.w T r d n P OK) (hok0:OK s.heap) {vs:List V} {zs:List D} (hlen:vs.length=n) (hP:∀ i u (h:i < vs.length),P i u->RelV vs[i] u) (rs:RepDs X.K H vs zs) (sh:Shp) (hz:∀ z∈zs,hasS sh z=true) (hok:okSh sh=true) (h64:zs.length < 64)
  (q:dNew G (.lst (sortD zs)) Q):wpAny (model X.prog X.w) X.A (call (.builtin "sorted") [.ref r]) (EP2 X pins σ H G Q) X.xe s:=by
 have hl2:=rs.length
 have hsz:sizeLine=16777216:=sizeLine_eq
 obtain ⟨m,F0⟩:=I.fr
 have nL:∀ b o vs n,o.data=.seq vs n->s.heap.get? b=some o->b≠X.env.locals:=fun b o vs n e1 e2 z=>by
  obtain ⟨o',es,ep,ho',hd',_⟩:=F0.ns
  rw [z,ho'] at e2; cases e2; rw [hd'] at e1; cases e1
 unfold okSh at hok
 rw [Bool.and_eq_true] at hok
 have hdp:dpS sh<=7:=of_decide_eq_true hok.1
 have sn:∀ z∈zs,Sn G 7 z z:=fun z h=>sn_shp G sh z 7 (hz z h) hdp
 refine kdu_sorted K (I.ok.hd hc) F0 news_all hok0 (by lia) fun Dd h0 tk its F1 N1 hlt hl0 hP'=>?_
 have hl1:vs.length=its.length:=by lia
 have rv:Vals vs its:=vals_of vs its hl1 fun i h1 h2=>hP i its[i] h1 (hP' i its[i] (List.getElem?_eq_getElem h2))
 by_cases few:its.length < 2
 ·have e2:h0.get? Dd=some (seqObj "list" its.toArray 0):=(N1 _ List.mem_cons_self).1
  refine wpAny_call_entry slot_list_sort ⟨_,e2,rfl⟩ entry_list_sort (sort_few (s:={ s with heap:=h0,toks:=tk }) e2 few ⟨_,rfl,?_⟩) (args_list_sort _)
  obtain ⟨kk,ns⟩:=news_kept I F0 F1 fun p hp=>N1 p (List.mem_cons_of_mem _ hp)
  have hD:s.heap.get? Dd=none:=by
   have nD:=N1 _ List.mem_cons_self
   cases qd:s.heap.get? Dd with
   | none=>rfl
   | some o=>exact absurd (hlt _ (mem_allNews nD.2.1 nD.2.2 qd)) (Nat.lt_irrefl _)
  have hp:H Dd=none:=free_of I.hok hD
  have hDL:Dd≠X.env.locals:=(N1 _ List.mem_cons_self).2.1
  obtain ⟨e3,h3⟩:=sortedHeap_at (out:=its.toArray) e2
  have es:sortD zs=zs:=sortD_unique sh hz (.refl _) (by
   match zs,hl2,few with
   | [],_,_=>exact .nil
   | [z],_,_=>exact List.pairwise_singleton _ _
   | _ :: _ :: _,h,f=>exact absurd f (by rw [← hl1,h]; simp))
  rw [es] at q
  refine ⟨.ref Dd,upd H Dd (.lst vs),.ref _,_,Inv.laidN (t':=tk) I (fun b o hb e=>?_) (fun m' hm=>?_) hD ⟨by lia,its,e3,rv,h3⟩,.newL ab hp rs,rfl,.ref _,q _ (ab.free hp)⟩
  ·have hb2:b≠Dd:=fun z=>by rw [z,hD] at e; cases e
   have e4:=kk b o hb e
   rw [sortedHeap_old hb2 (Heap.lt_size e4)]; exact e4
  ·obtain ⟨o,es,ep,ho,r⟩:=ns m' hm
   exact ⟨o,es,ep,by rw [sortedHeap_old (Ne.symm hDL) (Heap.lt_size ho)]; exact ho,r⟩
 have nz:0 < zs.length:=by lia
 refine kat_lsort (vs:=its) F1 N1 (.head fun q hq z=>absurd (hlt q hq) (by rw [z]; exact Nat.lt_irrefl _)) (by simp) (by lia) (by lia) fun e1 h' F N=>?_
 obtain ⟨kk,ns⟩:=news_kept I F0 F fun p hp=>N p (List.mem_cons_of_mem _ hp)
 have rds:∀ i,i < its.length->∃ as,Reads h' (its.getD i .none) (pd (zs.getD i .non)) as:=fun i hi=>by
  have i1:i < zs.length:=by lia
  have i2:i < vs.length:=by lia
  have g1:zs.getD i .non=zs[i]:=getD_at _ _ i1
  have g2:its.getD i .none=its[i]:=getD_at _ _ hi
  obtain ⟨v,hv,rdv⟩:=rs.get (List.getElem?_eq_getElem i1)
  obtain ⟨u,hu',ruv⟩:=rv.get hv
  rw [List.getElem?_eq_getElem hi] at hu'
  cases hu'
  obtain ⟨as,r⟩:=(rep_reads I ab (sn _ (List.getElem_mem i1))).1 v _ rdv ruv
  rw [g1,g2]
  exact ⟨as,reads_keepS (fun b o vs n e1 e2=>kk b o (nL b o vs n e1 e2) e2) _ (sn _ (List.getElem_mem i1)).nr r⟩
 have shp:∀ i,i < zs.length->hasS sh (zs.getD i .non)=true:=fun i hi=>by rw [getD_at _ _ hi]; exact hz _ (List.getElem_mem hi)
 have nrz:∀ i,i < zs.length->nr (zs.getD i .non)=true:=fun i hi=>by rw [getD_at _ _ hi]; exact (sn _ (List.getElem_mem hi)).nr
 have dpz:∀ i,i < zs.length->(pd (zs.getD i .non)).depth<=7:=fun i hi=>by rw [getD_at _ _ hi]; exact dep_pd (sn _ (List.getElem_mem hi))
 let zz:Nat->D:=fun i=>if i < zs.length then zs.getD i .non else zs.getD 0 .non
 have zzs:∀ i,hasS sh (zz i)=true:=fun i=>by
  show hasS sh (if i < zs.length then zs.getD i .non else zs.getD 0 .non)=true
  split
  ·exact shp i (by assumption)
  ·exact shp 0 nz
 let lt:Nat->Nat->Bool:=fun i j=>ltD (zz i) (zz j)
 have swo:SWO lt:=⟨fun i j h=>ltD_asymm sh (zzs i) (zzs j) h,fun i j k h1 h2=>ltD_ntrans sh (zzs i) (zzs j) (zzs k) h1 h2⟩
 have lte:∀ i j,i < zs.length->j < zs.length->lt i j=ltD (zs.getD i .non) (zs.getD j .non):=fun i j hi hj=>by
  show ltD (if i < zs.length then _ else _) (if j < zs.length then _ else _)=_
  rw [if_pos hi,if_pos hj]
 obtain ⟨p,ep,hperm,psz,hup⟩:=run_sort swo (n:=its.length) (by lia)
 have hA2:X.A.in1.in1.units=X.A.units+2:=rfl
 have ask:∀ κ:SortKind,(∀ i j,i < its.length->j < its.length->∀ C:Bool->Shared->Prop,C (ltD (zs.getD i .non) (zs.getD j .non)) { s with heap:=h',toks:=tk }->kas_ask X.prog X.w X.A.in1.in1 κ its i j C { s with heap:=h',toks:=tk }) ->
   (kas_sort its.length).kasWp (kas_ask X.prog X.w X.A.in1.in1 κ its) (fun p s''=>KasFin X.base X.env.locals m Dd e1 (p.toList.map fun i=>its.getD i Value.none) (fun s3=>EP2 X pins σ H G Q (.ref Dd) s3) s'') { s with heap:=h',toks:=tk }:=by
  intro κ hk
  refine kas_pure (lt:=lt) (n:=its.length) (fun i j i1 i2 C hC=>hk i j i1 i2 C (by rw [← lte i j (by lia) (by lia)]; exact hC)) _ (ask_sort (by lia)) ?_
  rw [ep]
  refine KasFin.intro (g:=fun o=>(Dd,o) :: allNews X.base s.heap X.env.locals) F N (.head (fun q hq z=>absurd (hlt q hq) (by rw [z]; exact Nat.lt_irrefl _))) fun h2 c F2 N2=>?_
  obtain ⟨k2,ns2⟩:=news_kept I F0 F2 fun p hp=>N2 p (List.mem_cons_of_mem _ hp)
  have hD:s.heap.get? Dd=none:=by
   have nD:=N _ List.mem_cons_self
   cases qd:s.heap.get? Dd with
   | none=>rfl
   | some o=>exact absurd (hlt _ (mem_allNews nD.2.1 nD.2.2 qd)) (Nat.lt_irrefl _)
  have hp:H Dd=none:=free_of I.hok hD
  have rvp:Vals (p.toList.map fun i=>vs.getD i .non) (p.toList.map fun i=>its.getD i Value.none):=by
   have:∀ (ps:List Nat),(∀ i∈ps,i < its.length)->Vals (ps.map fun i=>vs.getD i .non) (ps.map fun i=>its.getD i Value.none):=by
    intro ps
    induction ps with
    | nil=>intro _; exact .nil
    | cons i ps ih =>
     intro hh
     have hi:=hh i (by simp)
     refine .cons ?_ (ih fun j hj=>hh j (List.mem_cons_of_mem _ hj))
     have i2:i < vs.length:=by lia
     obtain ⟨u,hu',ruv⟩:=rv.get (List.getElem?_eq_getElem i2)
     rw [List.getElem?_eq_getElem hi] at hu'
     cases hu'
     show RelV (vs.getD i .non) (its.getD i .none)
     rw [getD_at _ _ i2,getD_at _ _ hi]; exact ruv
   exact this _ fun i hi=>by simpa using hperm.mem_iff.mp hi
  have rsp:RepDs X.K H (p.toList.map fun i=>vs.getD i .non) (p.toList.map fun i=>zs.getD i .non):=by
   have:∀ (ps:List Nat),(∀ i∈ps,i < its.length)->RepDs X.K H (ps.map fun i=>vs.getD i .non) (ps.map fun i=>zs.getD i .non):=by
    intro ps
    induction ps with
    | nil=>intro _; exact .nil
    | cons i ps ih =>
     intro hh
     have hi:=hh i (by simp)
     refine .cons ?_ (ih fun j hj=>hh j (List.mem_cons_of_mem _ hj))
     have i2:i < vs.length:=by lia
     have i1:i < zs.length:=by lia
     obtain ⟨v,hv,r⟩:=rs.get (List.getElem?_eq_getElem i1)
     rw [List.getElem?_eq_getElem i2] at hv
     cases hv
     show RepD X.K H (vs.getD i .non) (zs.getD i .non)
     rw [getD_at _ _ i2,getD_at _ _ i1]; exact r
   exact this _ fun i hi=>by simpa using hperm.mem_iff.mp hi
  have es:sortD zs=p.toList.map fun i=>zs.getD i .non:=by
   refine sortD_unique sh hz ?_ ?_
   ·have h1:(p.toList.map fun i=>zs.getD i .non).Perm ((List.range zs.length).map fun i=>zs.getD i .non):=by
     have:its.length=zs.length:=by lia
     rw [← this]
     exact hperm.map _
    rw [map_getD_range] at h1
    exact h1
   ·rw [List.pairwise_map,List.pairwise_iff_getElem]
    intro i j hi hj hij
    have g1:gA p i=p.toList[i]:=by
     have:i < p.size:=by simpa using hi
     simp [gA,Array.getD,this]
    have g2:gA p j=p.toList[j]:=by
     have:j < p.size:=by simpa using hj
     simp [gA,Array.getD,this]
    have bi:p.toList[i] < its.length:=by simpa using hperm.mem_iff.mp (List.getElem_mem hi)
    have bj:p.toList[j] < its.length:=by simpa using hperm.mem_iff.mp (List.getElem_mem hj)
    have:=hup i j (by lia) (by have:j < p.toList.length:=hj; rw [Array.length_toList,psz] at this; exact this)
    rw [g1,g2,lte _ _ (by lia) (by lia)] at this
    exact this
  rw [es] at q
  have ln:(p.toList.map fun i=>vs.getD i .non).length<=sizeLine:=by rw [List.length_map,Array.length_toList,psz]; lia
  refine ⟨.ref Dd,upd H Dd (.lst (p.toList.map fun i=>vs.getD i .non)),.ref _,_,Inv.laidN (t':=tk) I k2 ns2 hD ?_,.newL ab hp rsp,rfl,.ref _,q _ (ab.free hp)⟩
  exact ⟨ln,_,c,rvp,(N2 _ List.mem_cons_self).1⟩
 have gen:∀ i j,i < its.length->j < its.length->∀ C:Bool->Shared->Prop,C (ltD (zs.getD i .non) (zs.getD j .non)) { s with heap:=h',toks:=tk }->wpAny (model X.prog X.w) X.A.in1.in1 (keyLt' oneType' (its.getD i Value.none) (its.getD j Value.none)) C (fun _ _=>False) { s with heap:=h',toks:=tk }:=by
  intro i j hi hj C hC
  obtain ⟨as,r1⟩:=rds i hi
  obtain ⟨bs,r2⟩:=rds j hj
  rw [keyLt'_oneType]
  exact oneAt_reads (s:={ s with heap:=h',toks:=tk }) (n:=7) (dpz i (by lia)) (shp i (by lia)) (shp j (by lia)) (nrz i (by lia)) (nrz j (by lia)) r1 r2 (by rw [hA2]; lia) X.prog X.w _ C hC
 have lk:∀ v∈its,Looks (model X.prog X.w) h' (typeOf v) (tyShp sh):=fun v hv=>by
  obtain ⟨i,hi,rfl⟩:=List.getElem_of_mem hv
  obtain ⟨as,r⟩:=rds i hi
  rw [getD_at _ _ hi] at r
  exact looks_shp (shp i (by lia)) r
 cases sh with
 | int=>exact kas_kind (s:={ s with heap:=h',toks:=tk }) (T:=.type "int") (by lia) lk rfl rfl (ask oneType' gen)
 | lst ss=>exact kas_kind (s:={ s with heap:=h',toks:=tk }) (T:=.type "list") (by lia) lk rfl rfl (ask oneType' gen)
 | tup ss =>
  cases ss with
  | nil=>exact absurd hok.2 (by simp)
  | cons s1 ss =>
   obtain ⟨fs,t1,t2,t3⟩:=tups_firsts (h:=h') zs its hz rds (by lia)
   refine kat_kind (s:={ s with heap:=h',toks:=tk }) (T:=tyShp s1) t1 (by lia) (fun f hf=>?_) (by cases s1 <;> rfl) (ask _ fun i j hi hj C hC=>?_)
   ·obtain ⟨d,as,h1,h2⟩:=t3 f hf
    exact looks_shp h1 h2
   ·obtain ⟨as,r1⟩:=rds i hi
    obtain ⟨bs,r2⟩:=rds j hj
    exact keyLt_tup (s:={ s with heap:=h',toks:=tk }) (n:=7) (by have:=dpz i (by lia); lia) (shp i (by lia)) (shp j (by lia)) (nrz i (by lia)) (nrz j (by lia)) r1 r2 (by rw [hA2]; lia) hC
end
end K2
end
section
namespace L2
open PySem PySem.Spec PyProof.Rows PySem.W
section
variable {prog:Program} {w:World} {A:Around} {E:Value->Shared->Prop} {s:Shared}
theorem samePairsH {nm:String} {a b:Addr} {xa xb:List (List Key×Addr×Value)} {Q:Bool->Shared->Prop} (hu:A.units < cLine) (ha:(a == sysModules)=false) (hb:(b == sysModules)=false)
  (da:s.heap.DictOfH (tupleKind (mixKind prog w)) a xa) (db:s.heap.DictOfH (tupleKind (mixKind prog w)) b xb) (len:xa.length=xb.length)
  (hits:∀ x∈xa,∃ (p:Addr×Value) (c c':Addr) (ks:List Key),atKey xb x.1=some p/\x.2.2=.ref c/\p.2=.ref c'/\(tupleKind (mixKind prog w)).is s.heap ks c/\(tupleKind (mixKind prog w)).is s.heap ks c')
  (h:Q true s):wpAny (model prog w) A (Builtin.Dict.samePairs nm a b) Q E s:=by
 obtain ⟨oa,es,ep,hoa,ea,hda,hea,hia,hna⟩:=da
 obtain ⟨ob,et,eq,hob,eb,hdb,heb,hib,hnb⟩:=db
 have za:=size_of_entries hea
 have zb:=size_of_entries heb
 have na:¬ (a == sysModules)=true:=fun z=>by rw [ha] at z; cases z
 have nb:¬ (b == sysModules)=true:=fun z=>by rw [hb] at z; cases z
 have ne:¬ (es.size != et.size)=true:=by rw [za,zb,len]; simp
 unfold Builtin.Dict.samePairs Builtin.Dict.showsAll
 rw [if_neg na,if_neg nb]
 refine wpAny_bind (wpAny_pure (wpAny_bind (wpAny_pure (wpAny_bind (wpAny_dictEntries hoa hda (wpAny_bind (wpAny_dictEntries hob hdb ?_)))))))
 rw [if_neg ne]
 refine wpAny_bind (wpAny_dictEpoch hoa hda (wpAny_bind ?_))
 rw [Std.Legacy.Range.forIn_eq_forIn_range']
 simp only [Std.Legacy.Range.size,Nat.sub_zero,Nat.add_sub_cancel,Nat.div_one]
 refine wpAny_forIn_list _ (fun rest q s'=>s'=s/\q=(none,())/\∃ i,rest=List.range' i (es.size - i)/\i<=es.size) _ ?_ ?_ _ _ ⟨rfl,rfl,0,by simp,Nat.zero_le _⟩
 ·rintro x rest q s' ⟨e1,e2,i,hr,hi⟩
  subst e1 e2
  have lt:i < es.size:=by
   apply Classical.byContradiction
   intro z
   rw [Nat.sub_eq_zero_of_le (by lia)] at hr
   cases hr
  rw [show es.size - i=(es.size - (i+1))+1 by lia,List.range'_succ] at hr
  injection hr with h1 h2
  subst h1
  have lx:x < xa.length:=by lia
  have ex:es[x]?=some (entryOfKey (tupleKind (mixKind prog w)) xa[x]):=by rw [entry_at hea x,List.getElem?_eq_getElem lx]; rfl
  refine wpAny_bind (wpAny_dictEntries hoa hda ?_)
  rw [ex]
  obtain ⟨p,c,c',ks,k1,k2,k3,k4,k5⟩:=hits xa[x] (List.getElem_mem lx)
  show wpAny _ _ (holding [Value.ref xa[x].2.1,xa[x].2.2] _ >>= _) _ _ _
  refine wpAny_bind (wpAny_holding (wpAny_bind (wpAny_dictFind_heap (k:=xa[x].1) hu (hia _ (List.getElem_mem lx)) hob hdb heb hib hnb ?_ ?_)))
  ·intro no
   rw [atKey_none_of_get no] at k1
   cases k1
  ·intro j p' hj
   rw [atKey_of_get hnb hj] at k1
   have ey:et[j]?=some (entryOfKey (tupleKind (mixKind prog w)) (xa[x].1,p')):=by rw [entry_at heb j,hj]; rfl
   refine wpAny_bind (wpAny_dictEntries hob hdb ?_)
   rw [ey]
   have ep':p'=p:=Option.some.inj k1
   subst ep'
   show wpAny _ _ (holding [p'.2] (eqBool xa[x].2.2 p'.2)) _ _ _
   rw [k2,k3]
   refine wpAny_holding ((tupleKind (mixKind prog w)).eqBool (x:=ks) (y:=ks) hu k4 k5 ?_)
   rw [decide_eq_true rfl]
   show wpAny _ _ (if (!true)=true then _ else _) _ _ _
   rw [if_neg (by decide)]
   refine wpAny_bind (wpAny_dictEpoch hoa hda ?_)
   rw [if_neg (by simp)]
   exact wpAny_pure ⟨rfl,rfl,x+1,h2,lt⟩
 ·rintro q s' ⟨e1,e2,i,hr,hi⟩
  subst e1 e2
  exact wpAny_pure h
theorem eqH {a b:Addr} {xa xb:List (List Key×Addr×Value)} {Q:Value->Shared->Prop} (hu:A.units+1 < cLine) (ha:(a == sysModules)=false) (hb:(b == sysModules)=false)
  (da:s.heap.DictOfH (tupleKind (mixKind prog w)) a xa) (db:s.heap.DictOfH (tupleKind (mixKind prog w)) b xb) (len:xa.length=xb.length)
  (hits:∀ x∈xa,∃ (p:Addr×Value) (c c':Addr) (ks:List Key),atKey xb x.1=some p/\x.2.2=.ref c/\p.2=.ref c'/\(tupleKind (mixKind prog w)).is s.heap ks c/\(tupleKind (mixKind prog w)).is s.heap ks c')
  (h:Q (.bool true) s):wpAny (model prog w) A (compareOp .Eq (.ref a) (.ref b)) Q E s:=by
 have ta:=da.typeIs
 have tb:=db.typeIs
 refine wpAny_richCompare_same_room (op:=.Eq) ta tb PySem.F.slot_dict_eq (wpAny_call_entry PySem.F.slot_dict_eq ta PySem.F.entry_dict_eq ?_ (PySem.F.args_dict_eq_2 _ _)) (by lia)
 show wpAny _ _ (Builtin.Dict.dictSlotArgs "__eq__" ⟨[Value.ref a,Value.ref b],[]⟩ >>= _) _ _ s
 unfold Builtin.Dict.dictSlotArgs
 refine wpAny_bind (wpAny_bind (wpAny_notOrdered_dict ta (show wpAny _ _ (pure (Value.ref a,Value.ref b)) _ _ s from wpAny_pure ?_)))
 refine wpAny_bind (wpAny_isInstance (T:="dict") tb PySem.F.sub_dict_dict ?_)
 simp only [Bool.not_true,Bool.false_eq_true,if_false]
 refine wpAny_bind (wpAny_pure (wpAny_bind (wpAny_pure (wpAny_bind (samePairsH (A:=A.in1) hu ha hb da db len hits ?_)))))
 exact wpAny_pure ⟨_,rfl,(fun z=>nomatch z),h⟩
end
end L2
namespace K2
open PySem PySem.Spec PyProof.Rows L2 PySem.W
section
variable {X:Cx}
noncomputable def PT (X:Cx) (h:Heap) (p:T2×T2) (q:List Key×Addr×Value):Prop:=q.1=[.inl p.1.a,.inl p.1.b]/\∃ c,q.2.2=.ref c/\(tupleKind (mixKind X.prog X.w)).is h [.inl p.2.a,.inl p.2.b] c
theorem dts_pt {H:Hp} {s:Shared} (ok:HOk X.prog X.w H s.heap):∀ {l:List (T2×T2)} {kv:List (List Key×V)} {xs:List (List Key×Addr×Value)},DTs X.K H kv (encKV l)->KT H kv xs->Paired (PT X s.heap) l xs
 | [],kv,xs,rs,r=>by
  have rs:DTs X.K H kv []:=rs
  cases rs
  cases r
  exact .nil
 | p :: l,kv,xs,hrs,r=>by
  have rs:DTs X.K H kv ((D.tup [.int p.1.a,.int p.1.b],D.tup [.int p.2.a,.int p.2.b]) :: encKV l):=hrs
  clear hrs
  generalize e:(D.tup [.int p.1.a,.int p.1.b],D.tup [.int p.2.a,.int p.2.b]) :: encKV l=t at rs
  cases rs with
  | nil=>cases e
  | cons re rs =>
   rename_i k v d kv' t'
   injection e with e1 e2
   injection e1 with e3 e4
   subst e2 e4
   cases r with
   | cons h r =>
    rename_i q xs'
    obtain ⟨h1,h2,h3⟩:=h
    refine .cons ⟨?_,?_⟩ (dts_pt ok rs r)
    ·rw [← h1]
     injection e3 with e3
     match k,e3 with
     | [],z=>cases z
     | [_],z =>
      injection z with z1 z2
      cases z2
     | [.inl i,.inl j],z =>
      injection z with z1 z2
      injection z2 with z2 _
      injection z1 with z1
      injection z2 with z2
      rw [z1,z2]
     | [.inl _,.inr _],z =>
      injection z with z1 z2
      injection z2 with z2 _
      cases z2
     | [.inr _,_],z =>
      injection z with z1 z2
      cases z1
     | _ :: _ :: _ :: _,z =>
      injection z with z1 z2
      injection z2 with z2 z3
      cases z3
    ·generalize ed:D.tup [.int p.2.a,.int p.2.b]=d at re
     cases re with
     | tup hc rs2 =>
      rename_i c vs ds
      injection ed with ed
      subst ed
      obtain ⟨v1,v2,rfl,r1,r2⟩:=rs2.two
      cases r1
      cases r2
      refine ⟨c,h3,key_of ok (ks:=[.inl p.2.a,.inl p.2.b]) hc⟩
     | _=>cases ed
theorem dicT_of {pins:List (Addr×Obj)} {σ:L2.St} {H:Hp} {s:Shared} {G:Gp} {x:V} {d:D} {l:List (T2×T2)} (I:Inv X pins σ H s) (ab:AbH X.K H G) (rd:RepD X.K H x d) (hd:dicOf d G=some (encKV l)) :
  ∃ a xs,x=.ref a/\(a == sysModules)=false/\s.heap.DictOfH (tupleKind (mixKind X.prog X.w)) a xs/\Paired (PT X s.heap) l xs:=by
 have goT:∀ (a:Addr) (kv:List (List Key×V)),Rd H a (.dT kv)->DTs X.K H kv (encKV l)->∃ a' xs,V.ref a=.ref a'/\(a' == sysModules)=false/\s.heap.DictOfH (tupleKind (mixKind X.prog X.w)) a' xs/\Paired (PT X s.heap) l xs:=by
  intro a kv e rs
  obtain ⟨z,hm,xs,rel,dd⟩:=dt_rd I.hok e
  exact ⟨a,xs,rfl,hm,dd,dts_pt I.hok rs rel⟩
 have goK:∀ (a:Addr) (kv:List (Key×V)),Rd H a (.dK kv)->DKs X.K H kv (encKV l)->∃ a' xs,V.ref a=.ref a'/\(a' == sysModules)=false/\s.heap.DictOfH (tupleKind (mixKind X.prog X.w)) a' xs/\Paired (PT X s.heap) l xs:=by
  intro a kv e hrs
  cases l with
  | nil =>
   have rs:DKs X.K H kv []:=hrs
   clear hrs
   cases rs
   obtain ⟨z,hm,vs,rel,o,es,ep,ho,ex,hd,hko,hp,nd⟩:=dk_rd I.hok e
   cases rel
   have he:es.toList=[]:=List.length_eq_zero_iff.mp hp.length
   exact ⟨a,[],rfl,hm,⟨o,es,ep,ho,ex,hd,he,(fun _ z=>by cases z),List.nodup_nil⟩,.nil⟩
  | cons p l =>
   have rs:DKs X.K H kv ((D.tup [.int p.1.a,.int p.1.b],D.tup [.int p.2.a,.int p.2.b]) :: encKV l):=hrs
   clear hrs e hd
   generalize e:(D.tup [.int p.1.a,.int p.1.b],D.tup [.int p.2.a,.int p.2.b]) :: encKV l=t at rs
   cases rs with
   | nil=>cases e
   | cons re rs =>
    rename_i k v d kv' t'
    injection e with e1 e2
    injection e1 with e3 e4
    cases k <;> cases e3
 cases rd with
 | rodK hq rs =>
  cases (show some _=some (encKV l) from hd)
  exact goK _ _ (.inr ⟨_,hq⟩) rs
 | rodT hq rs =>
  cases (show some _=some (encKV l) from hd)
  exact goT _ _ (.inr ⟨_,hq⟩) rs
 | ref a =>
  unfold dicOf at hd
  dsimp only at hd
  split at hd
  ·rename_i kv' hg
   cases hd
   rcases ab a _ hg with ⟨kv,hv,rs⟩ | ⟨kv,hv,rs⟩
   ·exact goK a kv (.inl hv) rs
   ·exact goT a kv (.inl hv) rs
  ·cases hd
 | _=>cases hd
theorem pt_at {h:Heap}:∀ {l:List (T2×T2)} {xs:List (List Key×Addr×Value)} {k v:T2},Paired (PT X h) l xs->aget l k=some v->∃ p c,atKey xs [.inl k.a,.inl k.b]=some p/\p.2=.ref c/\(tupleKind (mixKind X.prog X.w)).is h [.inl v.a,.inl v.b] c
 | _,_,k,v,.nil,e=>by cases e
 | p :: l,q :: xs,k,v,.cons hh r,e=>by
  obtain ⟨e1,c,e2,e3⟩:=hh
  obtain ⟨qk,qp⟩:=q
  dsimp only at e1
  subst e1
  by_cases hk:p.1=k
  ·have:aget (p :: l) k=some p.2:=by unfold aget; simp [hk]
   rw [this] at e
   cases e
   refine ⟨qp,c,?_,e2,e3⟩
   unfold atKey
   rw [hk]; simp
  ·have:aget (p :: l) k=aget l k:=by unfold aget; simp [hk]
   rw [this] at e
   obtain ⟨p',c',h1,h2,h3⟩:=pt_at r e
   refine ⟨p',c',?_,h2,h3⟩
   have nk:¬ (([.inl p.1.a,.inl p.1.b]:List Key)=[.inl k.a,.inl k.b]):=fun z=>hk (by
    injection z with z1 z2
    injection z2 with z2 _
    injection z1 with z1
    injection z2 with z2
    obtain ⟨⟨pa,pb⟩,_⟩:=p
    obtain ⟨ka,kb⟩:=k
    exact congr (congrArg T2.mk z1) z2)
   unfold atKey at h1 ⊢
   rw [List.find?_cons]
   simp only [nk,decide_false]
   exact h1
theorem pt_hits {h:Heap} {m:List (T2×T2)} {ys:List (List Key×Addr×Value)} (pm:Paired (PT X h) m ys):∀ {l:List (T2×T2)} {xs:List (List Key×Addr×Value)},Paired (PT X h) l xs->(l.all fun p=>aget m p.1 == some p.2)=true ->
  ∀ x∈xs,∃ (p:Addr×Value) (c c':Addr) (ks:List Key),atKey ys x.1=some p/\x.2.2=.ref c/\p.2=.ref c'/\(tupleKind (mixKind X.prog X.w)).is h ks c/\(tupleKind (mixKind X.prog X.w)).is h ks c'
 | _,_,.nil,_,x,hx=>by cases hx
 | p :: l,q :: xs,.cons hh r,e,x,hx=>by
  rw [List.all_cons,Bool.and_eq_true] at e
  rcases List.mem_cons.mp hx with z | hx
  ·subst z
   obtain ⟨e1,c,e2,e3⟩:=hh
   have ea:aget m p.1=some p.2:=by simpa using e.1
   obtain ⟨p',c',h1,h2,h3⟩:=pt_at pm ea
   exact ⟨p',c,c',_,by rw [e1]; exact h1,e2,h2,e3,h3⟩
  ·exact pt_hits pm r e.2 x hx
theorem op2_eqT (hu:X.A.units+64 < cLine):OpR2 X (compareOp .Eq) (rEqT false):=by
 intro pins s σ H G x y dx dy v u Q I ab rx ry dX dY q
 obtain ⟨l,m,e1,e2,e,q⟩:=q
 obtain ⟨a,xs,rfl,hm,da,pl⟩:=dicT_of I ab dX e1
 obtain ⟨b,ys,rfl,hm2,db,pm⟩:=dicT_of I ab dY e2
 cases rx
 cases ry
 unfold eqKT at e
 rw [Bool.and_eq_true] at e
 have len:xs.length=ys.length:=by rw [← pl.length,← pm.length]; simpa using e.1
 exact eqH (by lia) hm hm2 da db len (pt_hits pm pl e.2) ⟨.bl true,H,.bl true,G,I,.refl ab,rfl,.bl _,q⟩
end
end K2
end
section
namespace K2
open PySem PySem.Spec PyProof.Rows L2 PySem.W
section
variable {X:Cx}
theorem list_src {pins:List (Addr×Obj)} {σ:L2.St} {H:Hp} {G:Gp} {s:Shared} {Q:DK} {T:String} {r d:Addr} {n:Nat} {P:Nat->Value->Prop} {OK:Heap->Prop} (hc:X.calm=true) (I:Inv X pins σ H s) (ab:AbH X.K H G)
  (K:PySem.W.KdlSrc X.prog X.w T r d n P OK) (hok0:OK s.heap) {vs:List V} {zs:List D} (hlen:vs.length=n) (hP:∀ i u (h:i < vs.length),P i u->RelV vs[i] u) (rs:RepDs X.K H vs zs) (hn:n<=1000)
  (q:dNew G (.lst zs) Q):wpAny (model X.prog X.w) X.A (call (.type "list") [.ref r]) (EP2 X pins σ H G Q) X.xe s:=by
 have hsz:sizeLine=16777216:=sizeLine_eq
 refine kdl_call K (I.ok.hd hc) hok0 (by lia) fun h' tk acc c' hk hD hacc=>?_
 have hp:H s.heap.objs.size=none:=I.hok.fresh (Nat.le_refl _)
 have rv:Vals vs acc.toList:=vals_of vs acc.toList (by have:=hacc.1; have e:=Array.length_toList (xs:=acc); lia) fun i h1 h2=>hP i acc.toList[i] h1 (hacc.2 i _ (by rw [Array.getElem?_eq_getElem (by simpa using h2)]; simp))
 exact ⟨.ref _,upd H s.heap.objs.size (.lst vs),.ref _,_,I.laid (a:=s.heap.objs.size) (t':=tk) (fun b o e=>hk b o e) (Nat.le_refl _) ⟨by lia,acc.toList,c',rv,by simpa [seqObj,W.listOf] using hD⟩,.newL ab hp rs,rfl,.ref _,q _ (ab.free hp)⟩
variable {a:Expr} {ta:TE2} {pos p pos2 p2:Pos}
end
end K2
end
section
namespace K2
open PySem PySem.Spec PyProof.Rows L2
section
variable {K:PySem.W.Frag} {h:Heap} {C:Addr} {bmB:List Value} {newId:String}
inductive ExcObj (h:Heap) (C:Addr) (bmB:List Value) (newId:String):Prop
 | mk (bm N nm qn bs hdct sn sub ab col dd k0 k1 k2 k3 k5 mN) (o:h.get? C=some (excClassObj nm qn C N bs bm hdct sn sub ab col dd k0 k1 k2 k3 k5 newId)) (n:h.Ns N mN) (i:mN "__init__" = none) (t:OwnTail h bmB bm):ExcObj h C bmB newId
end
end K2
end
section
namespace K2
open PySem PySem.Spec PyProof.Rows L2
noncomputable def kp1:HO->Bool
 | .tup _=>true
 | .frz _ (.lst _)=>true
 | .frz _ (.dK _)=>true
 | .frz _ (.dT _)=>true
 | .frz _ (.ext _)=>true
 | _=>false
noncomputable def hr (H:Hp):Hp:=fun b=>(H b).bind fun o=>if kp1 o=true then some o else none
end K2
end
section
namespace K2
open PySem PySem.Spec PyProof.Rows L2
noncomputable def subIn (K:PySem.W.Frag) (C:Addr) (v:Value):Bool:=match K.lookup C with
 | some ⟨_,_,.cls cd,_⟩=>cd.mro.contains v
 | _=>false
section
variable {X:Cx} {x cn n:Str} {D f:Addr} {fd:FuncData} {ps:List Str} {k i:Nat} {sp:Sp2} {bmD:List Value} {newD:String} {cat:List Str} {e:Expr} {es:List Expr} {p np pos ep hpos tp:Pos} {st0:Stmt} {suite:List Stmt} {t:TA2} {th:TS2}
structure AtDef (X:Cx):Prop where
 st:X.stack=X.env :: X.outer
 fr:X.env.frame=some X.env.locals
 ex:X.ex=[]
structure Clause (X:Cx) (i:Nat) (n cn:Str) (D:Addr) (cat:List Str):Prop where
 nd:X.N.Nodup
 at1:X.N[i]?=some n
 loc:X.env.scope.names.lookup n=some .local
 gl:Gl X cn
 mg:X.mg cn=some (.ref D)
 cls:∃ bmD newD,PySem.W.excIn X.K D bmD newD=true/\bmD.contains (.type "BaseException")=true
 cat:∀ c,cat.contains c=true->∃ C bmB newId,PySem.W.nsIn X.K mainGlobals c=some (some (.ref C))/\PySem.W.excIn X.K C bmB newId=true/\subIn X.K C (.ref D)=true
end
end K2
end
section
namespace K2
open PySem PySem.Spec PyProof.Rows L2 PySem.W PySem.Calls PySem.Builtin PySem.Builtin.Getset_descriptor
section
variable {prog:Program} {w:World} {A:Around} {E:Value->Shared->Prop} {s:Shared} {K:PySem.W.Frag} {a C:Addr} {ox:Obj}
structure ExcIs (K:PySem.W.Frag) (C:Addr):Prop where
 ga:findIn K (.ref C) "__getattribute__" = some (some (.builtin "BaseException.__getattribute__"))
 gn:findIn K (.ref C) "__getattr__" = some none
 at1:findIn K (.ref C) "__class__" = some (some (.builtin "object.__class__"))
 sp:specialIn K (.builtin "object.__class__") "__get__" = some (some (.builtin "getset_descriptor.__get__"))
 tk:takesIn K (.builtin "object.__class__")=some true
 mo:mroIn K C (.type "object")=some true
 mb:mroIn K C (.type "BaseException")=some true
 is:(clsIn K C).isSome=true
end
end K2
end
section
namespace K2
open PySem PySem.Spec PyProof.Rows L2
section
variable {X:Cx} {e:Expr} {te:TE2} {pos:Pos}
theorem pst {i:Nat} {x:Str} {pos':Pos} (hN:X.N.Nodup) (hi:X.N[i]?=some x) (he:PE2 X e te) (hx:autoParam (Loc X.env.scope x) Ao._auto_1) (hs:autoParam (swapsWith e (some (.Name x pos')) pos.line X.env=pure false) Ar._auto_1) (hf:autoParam (X.fn x=true\/X.env.scope.names.lookup x=some .local) Ao._auto_1) :
  PS2 X (.Assign [.Name x pos'] e pos) (dAsg te (gName i)):=ps2_set hN hi hx he hs hf
theorem pgn {i:Nat} {x:Str} (hN:X.N.Nodup) (hi:X.N[i]?=some x) (hx:autoParam (Loc X.env.scope x) Ao._auto_1) (hf:autoParam (X.fn x=true\/X.env.scope.names.lookup x=some .local) Ao._auto_1):PG2 X (.Name x pos) (gName i):=pg2_name hN hi hx hf
theorem fo2 {P:Program} {w:World} {K:PySem.W.Frag} {mg:Str->Option Value} {base:Heap} {x qual:Str} {st:Stmt} {f:Addr} {fd:FuncData} {Nn ps:List Str} {k:Nat} {sp:Sp2} {rd:TS2} (F:Fun K x qual st f fd) (S:FnScope Nn ps (defScope st))
  (hr:∀ ds G Q,sp ds G Q (fun _ _=>False)->rd (fun _ _=>False) (ends Q) (start2 Nn.length ds) G)
  (hb:∀ (cdv:Value) (A:Around) (outer:List Env) (s:Shared) (H:Hp) (E:XK),Room k (A.deeper (envOfC qual (defScope st) s.heap.objs.size f cdv))->PSs2 (cxOf CX0 P w K mg base Nn qual (defScope st) f cdv A outer s H E).nox (defBody st) rd)
  (len:autoParam (∀ ds G Q E,sp ds G Q E->ds.length=ps.length) Al._auto_1):FnOk P w K mg base CX0 (k+1) f fd ps (spOf K sp):=fun_ok2 F S len hr hb
theorem scm {N ps:List Str} {sc:Scope} (h1:autoParam (sc.kind=.function) Ar._auto_1) (h2:autoParam (sc.isCoroutine=false) Ar._auto_1) (h3:autoParam (sc.isGenerator=false) Ar._auto_1) (h4:autoParam N.Nodup Ak._auto_1) (h5:autoParam (N.take ps.length=ps) Ar._auto_1)
  (h6:autoParam (∀ x∈ps,sc.names.lookup x=some .local\/sc.names.lookup x=some .cell) Ak._auto_1) (h7:autoParam (∀ y∈sc.names,y.2≠.free) Ak._auto_1):FnScope N ps sc:=⟨h1,h2,h3,h4,h5,h6,h7⟩
end
end K2
end
section
namespace K2
open PySem PySem.Spec PyProof.Rows L2
theorem len1 {α:Type} {us:List α} (h:us.length=1):∃ a,us=[a]:=List.length_eq_one_iff.mp h
theorem lenS {α:Type} {us:List α} {n:Nat} (h:us.length=n+1):∃ a t,us=a :: t/\t.length=n:=by
 cases us with
 | nil=>cases h
 | cons a t=>exact ⟨a,t,rfl,Nat.succ.inj h⟩
theorem len2 {α:Type} {us:List α} (h:us.length=2):∃ a b,us=[a,b]:=by
 obtain ⟨a,t,rfl,h2⟩:=lenS h; obtain ⟨b,rfl⟩:=len1 h2; exact ⟨a,b,rfl⟩
theorem len3 {α:Type} {us:List α} (h:us.length=3):∃ a b c,us=[a,b,c]:=by
 obtain ⟨a,t,rfl,h2⟩:=lenS h; obtain ⟨b,c,rfl⟩:=len2 h2; exact ⟨a,b,c,rfl⟩
end K2
end
section
namespace K2.S
open PySem PySem.Spec PyProof.Rows L2 PySem.SetTable
section
variable {prog:Program} {w:World} {A:Around} {E:Value->Shared->Prop} {s:Shared}
noncomputable abbrev TK (prog:Program) (w:World):HeapKind prog w (List Key):=tupleKind (mixKind prog w)
theorem is_keep {h h':Heap} {k:List Key} {b:Addr} (x:(TK prog w).is h k b) (e:∀ o,h.get? b=some o->h'.get? b=some o):(TK prog w).is h' k b:=by
 obtain ⟨o,items,n,ho,r⟩:=x
 exact ⟨o,items,n,e o ho,r⟩
theorem is_fun {h:Heap} {k k':List Key} {b:Addr} (x:(TK prog w).is h k b) (y:(TK prog w).is h k' b):k=k':=(TK prog w).inj x y
noncomputable def Els (B:Addr->Prop) (prog:Program) (w:World) (h:Heap) (es:En) (ks:List (List Key)):Prop :=
 ks.length=es.size/\∀ (i:Nat) (e:Int×Value),es[i]?=some e->∃ (k:List Key) (b:Addr),ks[i]?=some k/\e.2=.ref b/\(TK prog w).is h k b/\e.1=(TK prog w).hash k/\B b
theorem wp_state {a:Addr} {o:Obj} {es:En} {ep:Nat} {t:SetTable} {Q:(En×Nat×SetTable)->Shared->Prop} (ho:s.heap.get? a=some o) (hd:o.data=.set es ep t) (O:Ok0 t es) (h:Q (es,ep,t) s) :
  wpAny (model prog w) A (setState a) Q E s :=
 wpAny_setState_of ho hd (by unfold SetTable.fits SetTable.fill; rw [O.sz,O.dm]; have:=O.few; have:=O.sz; simp; lia) h
theorem cls_byValue (n:Nat) {v:Value} (h:carriedByValue v=true):ofAClassStatement n v=pure false:=by
 cases v <;> first | (unfold ofAClassStatement; rfl) | (exact Bool.noConfusion (show false=true from h))
theorem wp_cls {k:List Key} {b:Addr} (hx:(TK prog w).is s.heap k b) {Q:Bool->Shared->Prop} (h:Q false s):wpAny (model prog w) A (ofAClassStatement 8 (.ref b)) Q E s:=by
 have hT:s.TypeIs (.ref b) "tuple":=IsTupleKey.typeIs hx
 obtain ⟨o,items,n,ho,_,hd,hi⟩:=hx
 unfold ofAClassStatement
 refine wpAny_bind (wpAny_typeOf hT ?_)
 dsimp only
 rw [if_pos (beq_self_eq_true _)]
 refine wpAny_bind (wpAny_pure ?_)
 rw [if_neg (by intro z; cases z)]
 refine wpAny_bind (wpAny_seqItems ho hd ?_)
 dsimp only
 refine wpAny_bind ?_
 show wpAny _ _ (forIn items _ _) _ _ s
 rw [← Array.forIn_toList]
 refine wpAny_forIn_list _ (fun rest r s'=>r.1=none/\s'=s/\∀ v∈rest,carriedByValue v=true) _ ?_ ?_ _ _ ⟨rfl,rfl,hi.byValue⟩
 ·rintro v rest r s' ⟨hr,rfl,hall⟩
  rw [cls_byValue _ (hall v List.mem_cons_self)]
  refine wpAny_bind (wpAny_pure ?_)
  rw [if_neg (by intro z; cases z)]
  exact wpAny_pure ⟨rfl,rfl,fun u hu'=>hall u (List.mem_cons_of_mem _ hu')⟩
 ·rintro ⟨r1,r2⟩ s' ⟨hr,rfl,_⟩
  simp only at hr
  subst hr
  exact wpAny_pure h
theorem wp_unseen {x:Value} {k:List Key} {b:Addr} (ex:x=.ref b) (hx:(TK prog w).is s.heap k b) {l:List Value} (hl:∀ y∈l,∃ k' b',y=.ref b'/\(TK prog w).is s.heap k' b') {Q:Bool->Shared->Prop} (h:Q false s) :
  wpAny (model prog w) A (searchCouldBeSeen x l) Q E s:=by
 subst ex
 unfold searchCouldBeSeen
 refine wpAny_bind ?_
 refine wpAny_forIn_list _ (fun rest r s'=>r.1=none/\s'=s/\∀ y∈rest,∃ k' b',y=.ref b'/\(TK prog w).is s.heap k' b') _ ?_ ?_ _ _ ⟨rfl,rfl,hl⟩
 ·rintro v rest r s' ⟨hr,rfl,hall⟩
  obtain ⟨k',b',rfl,hv⟩:=hall v List.mem_cons_self
  have go:∀ y∈rest,∃ k' b',y=.ref b'/\(TK prog w).is s'.heap k' b':=fun u hu'=>hall u (List.mem_cons_of_mem _ hu')
  dsimp only
  by_cases c:(b == b'||carriedByValue (.ref b)&&carriedByValue (.ref b'))=true
  ·rw [if_pos c]; exact wpAny_pure ⟨rfl,rfl,go⟩
  ·rw [if_neg c]
   refine wpAny_bind (wpAny_eqIsQuiet_tuple hx ?_)
   rw [if_neg (by intro z; cases z)]
   refine wpAny_bind (wpAny_eqIsQuiet_tuple hv ?_)
   rw [if_neg (by intro z; cases z)]
   refine wpAny_bind (wp_cls hx ?_)
   rw [if_neg (by intro z; cases z)]
   refine wpAny_bind (wp_cls hv ?_)
   rw [if_neg (by intro z; cases z)]
   exact wpAny_pure ⟨rfl,rfl,go⟩
 ·rintro ⟨r1,r2⟩ s' ⟨hr,rfl,_⟩
  simp only at hr
  subst hr
  exact wpAny_pure h
theorem wp_search {a:Addr} {o:Obj} {es:En} {ep:Nat} {t:SetTable} {ks:List (List Key)} {k:List Key} {b:Addr} (hu:(TK prog w).room A) (ho:s.heap.get? a=some o) (hd:o.data=.set es ep t) (O:Ok0 t es) {B:Addr->Prop} (M:Els B prog w s.heap es ks) (hx:(TK prog w).is s.heap k b)
  {N:Nat} (h1:¬ Full t.place (stps t.mask N (probeStart t ((TK prog w).hash k))).j) (h2:∀ n,n < N->Full t.place (stps t.mask n (probeStart t ((TK prog w).hash k))).j) {Q:SetFound->Shared->Prop}
  (yes:k∈ks->Q (.there none) s) (no:k∉ks->Q (.free (stps t.mask N (probeStart t ((TK prog w).hash k))).j false) s) :
  ∀ (fuel n:Nat) (st:Option Probe),N - n < fuel->n<=N->st.getD (probeStart t ((TK prog w).hash k))=stps t.mask n (probeStart t ((TK prog w).hash k)) ->
   (∀ n',n' < n->∀ i,i < t.place.size->t.place.getD i 0=(stps t.mask n' (probeStart t ((TK prog w).hash k))).j->ks[i]?≠some k) ->
   wpAny (model prog w) A (setSearchFrom a (.ref b) ((TK prog w).hash k) true fuel st) Q E s
 | 0,n,st,hf,_,_,_=>absurd hf (Nat.not_lt_zero _)
 | fuel+1,n,st,hf,hn,hst,past=>by
  generalize hh:(TK prog w).hash k=h at *
  unfold setSearchFrom
  refine wpAny_bind (wp_state ho hd O ?_)
  dsimp only
  have gw:t.gaveWay=false:=by
   unfold SetTable.gaveWay
   rcases O.ms with e | e | e <;> rw [e] <;> rfl
  rw [gw,if_neg (by intro z; cases z),hst]
  have pb:Pb t.mask (stps t.mask n (probeStart t h)):=Pb.stps n (Pb.start t h)
  obtain ⟨N',hN',hf',_⟩:=first_free O _ pb
  obtain ⟨n1,met,g,ba,fin⟩:=probe_go O.up O.dm (S.hk es) h (10 * turns t.mask) _ pb ⟨N',hN',hf'⟩
  rw [show stps t.mask n1 (stps t.mask n (probeStart t h))=stps t.mask (n+n1) (probeStart t h) from (stps_add _ _ _ _).symm,show stps t.mask (n1+1) (stps t.mask n (probeStart t h))=stps t.mask (n+n1+1) (probeStart t h) from (stps_add _ n (n1+1) _).symm] at fin
  generalize hP:t.probe _ h (stps t.mask n (probeStart t h))=P
  have eP:P=some met:=hP.symm.trans g
  subst eP
  dsimp only
  have le:n+n1<=N:=by
   apply Classical.byContradiction
   intro z
   obtain ⟨i,hi,e,_⟩:=ba (N - n) (by lia)
   rw [← stps_add,show n+(N - n)=N by lia] at e
   exact h1 ⟨i,hi,e⟩
  have hki:∀ i,i < t.place.size->ks[i]?=some k->S.hk es i=h:=by
   intro i hi e
   have hi':i < es.size:=by rw [← O.sz]; exact hi
   obtain ⟨k',b',q1,_,_,q4⟩:=M.2 i _ (Array.getElem?_eq_getElem hi')
   rw [e] at q1; cases q1
   unfold S.hk
   rw [Array.getElem?_eq_getElem hi',← hh]; exact q4.1
  have past2:∀ n',n' < n+n1->∀ i,i < t.place.size->t.place.getD i 0=(stps t.mask n' (probeStart t h)).j->ks[i]?≠some k:=by
   intro n' hn' i hi e ek
   by_cases c:n' < n
   ·exact past n' c i hi e ek
   ·obtain ⟨i',hi',e',ne⟩:=ba (n' - n) (by lia)
    rw [← stps_add,show n+(n' - n)=n' by lia] at e'
    have:=O.up.inj hi hi' (e.trans e'.symm)
    subst this
    exact ne (hki i hi ek)
  rcases fin with ⟨nf,rfl⟩ | ⟨i,hi,pi,hhash,rfl⟩
  ·have eN:n+n1=N:=by
    by_cases c:n+n1 < N
    ·exact absurd (h2 _ c) nf
    ·lia
   rw [eN]
   dsimp only
   refine wpAny_pure (no fun hk=>?_)
   obtain ⟨i,hi,e⟩:=List.getElem_of_mem hk
   have ek:ks[i]?=some k:=by rw [List.getElem?_eq_getElem hi,e]
   have hi':i < t.place.size:=by rw [O.sz,← M.1]; exact hi
   obtain ⟨n0,w1,w2⟩:=O.way i hi'
   rw [hki i hi' ek] at w1 w2
   have lt:n0 < N:=by
    apply Classical.byContradiction
    intro z
    by_cases c:n0=N
    ·subst c; exact h1 ⟨i,hi',w1.symm⟩
    ·exact h1 (w2 N (by lia))
   exact past2 n0 (by lia) i hi' w1.symm ek
  ·have hi':i < es.size:=by rw [← O.sz]; exact hi
   obtain ⟨k',b',q1,q2,q3,q4⟩:=M.2 i _ (Array.getElem?_eq_getElem hi')
   have nN:n+n1≠N:=fun z=>h1 ⟨i,hi,by rw [← z]; exact pi⟩
   have red:∀ (l:List Value) (m:Sem SetFound),(∀ y∈l,∃ k' b',y=.ref b'/\(TK prog w).is s.heap k' b')->wpAny (model prog w) A m Q E s ->
     wpAny (model prog w) A (if (!t.led)=true then (searchCouldBeSeen (.ref b) l >>= fun r=>if r=true then ((unsupported "set:the-search-would-show-the-table" : Sem PUnit) >>= fun _=>m) else m) else m) Q E s:=by
    intro l m hl hm
    cases t.led with
    | true=>rw [if_neg (by intro z; cases z)]; exact hm
    | false =>
     rw [if_pos (show (!false)=true from rfl)]
     refine wpAny_bind (wp_unseen rfl hx hl ?_)
     rw [if_neg (by intro z; cases z)]; exact hm
   refine red _ _ (fun y hy=>?_) ?_
   ·obtain ⟨e,he,rfl⟩:=List.mem_map.mp hy
    rw [Array.toList_filter] at he
    have he:=(List.mem_filter.mp he).1
    obtain ⟨m,hm,em⟩:=List.getElem_of_mem he
    obtain ⟨k2,b2,_,z2,z3,_⟩:=M.2 m e (by rw [← Array.getElem?_toList,List.getElem?_eq_getElem hm,em])
    exact ⟨k2,b2,z2,z3⟩
   ·rw [Array.getElem?_eq_getElem hi']
    generalize he0:es[i]=e0 at q2 q4 ⊢
    obtain ⟨h0,y⟩:=e0
    have q2:y=.ref b':=q2
    subst q2
    dsimp only
    refine wpAny_bind (wpAny_holding ((TK prog w).eqBool hu q3 hx ?_))
    refine wpAny_bind (wp_state ho hd O ?_)
    dsimp only
    by_cases c:k'=k
    ·rw [decide_eq_true c,if_pos (show (true&&true)=true from rfl)]
     subst c
     exact wpAny_pure (yes (List.mem_of_getElem? q1))
    ·rw [decide_eq_false c,if_neg (by intro z; cases z)]
     have sm:t.sameMemory t.moves t.mask=some true:=by unfold SetTable.sameMemory; rw [if_pos (beq_self_eq_true _)]
     rw [sm]
     dsimp only
     rw [if_pos (show true=true from rfl),show t.slot (stps t.mask (n+n1) (probeStart t h)).j=.live i from pi ▸ slot_live O.up hi]
     dsimp only
     rw [Array.getElem?_eq_getElem hi',he0]
     dsimp only
     refine wpAny_bind ?_
     unfold isSame
     dsimp only
     rw [if_pos (beq_self_eq_true b')]
     refine wpAny_pure (wpAny_bind (wpAny_pure ?_))
     rw [if_pos (show true=true from rfl)]
     dsimp only
     rw [if_neg (by intro z; cases z)]
     have rec':=wp_search hu ho hd O M hx (N:=N) (Q:=Q) (by rw [hh]; exact h1) (by rw [hh]; exact h2) yes (by rw [hh]; exact no) fuel (n+n1+1) (some (stps t.mask (n+n1+1) (probeStart t h)))
     rw [hh] at rec'
     refine rec' (by lia) (by lia) rfl fun n' hn' i2 hi2 e2 ek=>?_
     by_cases c2:n' < n+n1
     ·exact past2 n' c2 i2 hi2 e2 ek
     ·have:n'=n+n1:=by lia
      subst this
      have:=O.up.inj hi2 hi (e2.trans pi.symm)
      subst this
      rw [q1] at ek; cases ek; exact c rfl
end
end K2.S
end
section
namespace K2.S
open PySem PySem.Spec PyProof.Rows L2 PySem.SetTable
section
variable {B:Addr->Prop} {prog:Program} {w:World} {A:Around} {E:Value->Shared->Prop} {s:Shared}
theorem Els.keep {h h':Heap} {es:En} {ks:List (List Key)} (M:Els B prog w h es ks) (e:∀ b o,B b->h.get? b=some o->(∃ items n,o.data=.seq items n)->h'.get? b=some o):Els B prog w h' es ks:=by
 refine ⟨M.1,fun i x hx=>?_⟩
 obtain ⟨k,b,q1,q2,q3,q4⟩:=M.2 i x hx
 refine ⟨k,b,q1,q2,?_,q4⟩
 obtain ⟨o,items,n,ho,hc,hd,r⟩:=q3
 exact ⟨o,items,n,e b o q4.2 ho ⟨items,n,hd⟩,hc,hd,r⟩
theorem Els.perm {h:Heap} {es es':En} {ks:List (List Key)} (M:Els B prog w h es ks) (p:List.Perm es'.toList es.toList):∃ ks',Els B prog w h es' ks'/\ks'.Perm ks:=by
 classical
 let Kf:Int×Value->List Key:=fun e=>if z:∃ k,∃ b,e.2=.ref b/\(TK prog w).is h k b then Classical.choose z else []
 have at_:∀ e∈es.toList,∃ b,e.2=.ref b/\(TK prog w).is h (Kf e) b/\e.1=(TK prog w).hash (Kf e)/\B b:=by
  intro e he
  obtain ⟨i,hi,ei⟩:=List.getElem_of_mem he
  obtain ⟨k,b,q1,q2,q3,q4⟩:=M.2 i e (by rw [← Array.getElem?_toList,List.getElem?_eq_getElem hi,ei])
  have z:∃ k,∃ b,e.2=.ref b/\(TK prog w).is h k b:=⟨k,b,q2,q3⟩
  have ek:Kf e=Classical.choose z:=dif_pos z
  obtain ⟨b2,e2,i2⟩:=Classical.choose_spec z
  rw [q2] at e2
  cases e2
  have:=is_fun q3 i2
  rw [ek,← this]
  exact ⟨b,q2,q3,q4⟩
 have eks:ks=es.toList.map Kf:=by
  refine List.ext_getElem? fun i=>?_
  rw [List.getElem?_map]
  by_cases hi:i < es.size
  ·obtain ⟨k,b,q1,q2,q3,q4⟩:=M.2 i _ (Array.getElem?_eq_getElem hi)
   rw [q1,Array.getElem?_toList,Array.getElem?_eq_getElem hi]
   obtain ⟨b2,z1,z2,_⟩:=at_ es[i] (Array.getElem_mem_toList hi)
   rw [q2] at z1; cases z1
   rw [is_fun q3 z2]; rfl
  ·rw [List.getElem?_eq_none (by rw [M.1]; lia),Array.getElem?_toList,Array.getElem?_eq_none (by lia)]; rfl
 refine ⟨es'.toList.map Kf,⟨by rw [List.length_map,Array.length_toList],fun i e he=>?_⟩,by rw [eks]; exact p.map _⟩
 have hm:e∈es'.toList:=List.mem_of_getElem? (by rw [Array.getElem?_toList]; exact he)
 obtain ⟨b,z1,z2,z3⟩:=at_ e (p.mem_iff.mp hm)
 exact ⟨Kf e,b,by rw [List.getElem?_map,Array.getElem?_toList,he]; rfl,z1,z2,z3⟩
theorem Els.ins {h:Heap} {es:En} {ks:List (List Key)} (M:Els B prog w h es ks) {k:List Key} {b:Addr} (hx:(TK prog w).is h k b) (hB:B b) {p:Nat} (hp:p<=es.size) :
  Els B prog w h (insertAt es p ((TK prog w).hash k,.ref b)) (ks.take p++k :: ks.drop p):=by
 have lk:(ks.take p).length=p:=by rw [List.length_take,M.1]; lia
 refine ⟨by rw [List.length_append,List.length_cons,lk,List.length_drop,ins_size _ _ _ hp,M.1]; lia,fun i e he=>?_⟩
 rw [ins_get _ _ _ hp] at he
 by_cases c:i < p
 ·rw [if_pos c] at he
  obtain ⟨k',b',q⟩:=M.2 i e he
  exact ⟨k',b',by rw [List.getElem?_append_left (by lia),List.getElem?_take_of_lt c]; exact q.1,q.2⟩
 ·rw [if_neg c] at he
  by_cases d:i=p
  ·rw [if_pos d] at he
   cases he
   exact ⟨k,b,by rw [List.getElem?_append_right (by lia),lk,d,Nat.sub_self]; rfl,rfl,hx,rfl,hB⟩
  ·rw [if_neg d] at he
   obtain ⟨k',b',q⟩:=M.2 (i - 1) e he
   exact ⟨k',b',by rw [List.getElem?_append_right (by lia),lk,show i - p=(i - p - 1)+1 by lia,List.getElem?_cons_succ,List.getElem?_drop,show p+(i - p - 1)=i - 1 by lia]; exact q.1,q.2⟩
noncomputable def IntK (k:List Key):Prop:=∀ x∈k,∃ i,x=Sum.inl i
noncomputable def StT (B:Addr->Prop) (prog:Program) (w:World) (h:Heap) (a:Addr) (led:Bool) (ks:List (List Key)):Prop :=
 ∃ o es ep t,h.get? a=some o/\o.ExactSet/\o.data=.set es ep t/\Ok0 t es/\t.tooFull=false/\t.led=led/\((∀ k∈ks,IntK k)->t.plain=true)/\Els B prog w h es ks
theorem int_at {k:List Key} {vs:List Value} (hi:ItemsAre (mixKind prog w) k vs) (c:IntK k) {v:Value} (hv:v∈vs):∃ t:Int×Tok,v=.int t.1 t.2:=by
 induction hi with
 | nil=>cases hv
 | cons h _ ih =>
  rcases List.mem_cons.mp hv with e | hv
  ·subst e
   obtain ⟨i,rfl⟩:=c _ List.mem_cons_self
   rcases keyIs_shape (k:=.inl i) h with ⟨j,t,e,rfl⟩ | ⟨_,_,e,_⟩
   ·exact ⟨(j,t),rfl⟩
   ·cases e
  ·exact ih (fun x hx=>c x (List.mem_cons_of_mem _ hx)) hv
theorem wp_hbv {k:List Key} {b:Addr} (hx:(TK prog w).is s.heap k b) {Q:Bool->Shared->Prop} (h:∀ r,(IntK k->r=true)->Q r s):wpAny (model prog w) A (hashByValue 8 (.ref b)) Q E s:=by
 have hT:s.TypeIs (.ref b) "tuple":=IsTupleKey.typeIs hx
 obtain ⟨o,items,n,ho,_,hd,hi⟩:=hx
 unfold hashByValue
 refine wpAny_bind (wpAny_specialOf hT F.slot_tuple_hash.lookup ?_)
 show wpAny _ _ (seqItems? (.ref b) >>= _) _ _ s
 refine wpAny_bind (wpAny_seqItems ho hd ?_)
 refine wpAny_bind ?_
 show wpAny _ _ (forIn items _ _) _ _ s
 rw [← Array.forIn_toList]
 have hb:∀ v∈items.toList,∃ r,hashByValue 7 v=pure r/\(IntK k->r=true):=by
  intro v hv0
  by_cases c:IntK k
  ·obtain ⟨t,e⟩:=int_at hi c hv0
   subst e
   exact ⟨true,rfl,fun _=>rfl⟩
  ·have hv:=hi.byValue v hv0
   cases v <;> first | exact ⟨_,rfl,fun z=>absurd z c⟩ | (exact Bool.noConfusion (show false=true from hv))
 refine wpAny_forIn_list _ (fun rest r s'=>r.1=none/\s'=s/\∀ v∈rest,∃ r,hashByValue 7 v=pure r/\(IntK k->r=true)) _ ?_ ?_ _ _ ⟨rfl,rfl,hb⟩
 ·rintro v rest r s' ⟨hr,rfl,hall⟩
  obtain ⟨x,hv,hx1⟩:=hall v List.mem_cons_self
  rw [hv]
  refine wpAny_bind (wpAny_pure ?_)
  cases x with
  | true =>
   rw [if_neg (by intro z; cases z)]
   exact wpAny_pure ⟨rfl,rfl,fun u hu'=>hall u (List.mem_cons_of_mem _ hu')⟩
  | false =>
   rw [if_pos (show (!false)=true from rfl)]
   exact wpAny_pure (wpAny_pure (h _ hx1))
 ·rintro ⟨r1,r2⟩ s' ⟨hr,rfl,_⟩
  simp only at hr
  subst hr
  exact wpAny_pure (h _ fun _=>rfl)
theorem sz_after {m n:Nat} (hm:Mk m) (h1:¬ n * 5>=m * 3) (h2:(n+1) * 5>=m * 3) (h3:n < 76):Mk (sizeAbove (grown (n+1)) - 1)/\n+1<=sizeAbove (grown (n+1)) - 1/\¬ (n+1) * 5>=(sizeAbove (grown (n+1)) - 1) * 3/\sizeAbove (grown (n+1))<=128:=by
 rcases hm with rfl | rfl | rfl
 ·have:n=4:=by lia
  subst this
  exact ⟨.inr (.inl (by decide)),by decide,by decide,by decide⟩
 ·have:n=18:=by lia
  subst this
  exact ⟨.inr (.inr (by decide)),by decide,by decide,by decide⟩
 ·lia
end
end K2.S
end
section
namespace K2.S
open PySem PySem.Spec PyProof.Rows L2 PySem.SetTable
section
variable {B:Addr->Prop} {prog:Program} {w:World} {A:Around} {E:Value->Shared->Prop} {s:Shared}
theorem run_in {m i:Nat} (h:i < m+1):i+(runEnd m i - i)<=m:=by
 unfold runEnd; split <;> lia
theorem stp_j {m:Nat} {p:Probe} (h:p.j+p.more<=m):(stp m p).j+(stp m p).more<=m:=by
 unfold stp
 by_cases c:p.more > 0
 ·rw [if_pos c]; dsimp only; lia
 ·rw [if_neg c]; exact run_in (Nat.mod_lt _ (Nat.succ_pos m))
theorem stps_j {m:Nat}:∀ (n:Nat) {p:Probe},p.j+p.more<=m->(stps m n p).j+(stps m n p).more<=m
 | 0,_,h=>h
 | n+1,_,h=>stps_j n (stp_j h)
theorem put_get {h:Heap} {a:Addr} {o:Obj} {es:En} {ep:Nat} {t:SetTable} (ho:h.get? a=some o) (hd:o.data=.set es ep t) (es':En) (t':SetTable) :
  (h.update a (Obj.putSet es' t')).get? a=some { o with data:=.set es' (ep+1) t' }:=by
 have:=Heap.get?_update_self (Obj.putSet es' t') ho (by rw [putSet_of es' t' hd]; rfl)
 rw [putSet_of es' t' hd] at this; exact this
theorem put_keep {h:Heap} {a:Addr} {o:Obj} {es:En} {ep:Nat} {t:SetTable} (ho:h.get? a=some o) (hd:o.data=.set es ep t) (f:Obj->Obj):∀ b o',h.get? b=some o'->(∃ items n,o'.data=.seq items n)->(h.update a f).get? b=some o':=by
 rintro b o' e ⟨items,n,q⟩
 have nb:a≠b:=fun z=>by subst z; rw [ho] at e; cases e; rw [hd] at q; cases q
 exact (Heap.get?_update_other _ _ nb).trans e
theorem full_eq (t:SetTable) (dm:t.dummies=#[]):t.tooFull=decide (t.place.size * 5>=t.mask * 3):=by
 unfold SetTable.tooFull SetTable.fill; rw [dm]; rfl
theorem wp_add {a:Addr} {led:Bool} {ks:List (List Key)} {k:List Key} {b:Addr} (hu:(TK prog w).room A) (hS:StT B prog w s.heap a led ks) (hx:(TK prog w).is s.heap k b) (hB:B b) (few:ks.length < 76) {Q:Bool->Shared->Prop}
  (h:∀ h' ks' r,(k∈ks->ks'=ks)->(k∉ks->ks'.Perm (k :: ks))->Heap.SameBut a s.heap h'->StT B prog w h' a led ks'->Q r { s with heap:=h' }) :
  wpAny (model prog w) A (setAddHashed a (.ref b) ((TK prog w).hash k)) Q E s:=by
 obtain ⟨o,es,ep,t,ho,hex,hd,O,nf,hl,hpn,M⟩:=hS
 have hsz:es.size < 76:=by rw [← M.1]; exact few
 obtain ⟨N,hN,h1,h2⟩:=first_free O _ (Pb.start t ((TK prog w).hash k))
 have hN':N < 100000:=by
  have:t.mask<=127:=by rcases O.ms with e | e | e <;> lia
  unfold turns at hN; lia
 unfold setAddHashed setAddHashedIn
 refine wpAny_holding (wpAny_bind (wp_state ho hd O ?_))
 dsimp only
 rw [show byScan (.ref b) es=false from rfl,if_neg (by intro z; cases z)]
 unfold setSearch
 refine wpAny_bind (wp_search hu ho hd O M hx h1 h2 (fun hk=>?_) (fun hk=>?_) 100000 0 none (by lia) (Nat.zero_le _) rfl (fun n' z=>absurd z (Nat.not_lt_zero _)))
 ·dsimp only
  refine wpAny_pure ?_
  have e:s={ s with heap:=s.heap }:=by cases s; rfl
  rw [e]
  exact h s.heap ks false (fun _=>rfl) (fun z=>absurd hk z) (Heap.SameBut.refl a s.heap) ⟨o,es,ep,t,ho,hex,hd,O,nf,hl,hpn,M⟩
 ·dsimp only
  refine wpAny_bind (wp_state ho hd O ?_)
  dsimp only
  rw [put_place t O.dm]
  dsimp only
  obtain ⟨j,ej⟩:∃ j,(stps t.mask N (probeStart t ((TK prog w).hash k))).j=j:=⟨_,rfl⟩
  rw [ej]
  have hj:j<=t.mask:=by
   rw [← ej]
   exact Nat.le_trans (Nat.le_add_right _ _) (stps_j N (run_in (Nat.mod_lt _ (Nat.succ_pos t.mask))))
  have nf':¬ t.place.size * 5>=t.mask * 3:=by rw [full_eq t O.dm] at nf; exact of_decide_eq_false nf
  have room:t.place.size+1<=t.mask:=by rcases O.ms with e | e | e <;> lia
  have bes:below t.place j<=es.size:=by rw [← O.sz]; exact (below_spec O.up j).1
  have rest:∀ t':SetTable,t'.mask=t.mask->t'.dummies=t.dummies->t'.place=insertAt t.place (below t.place j) j->t'.led=t.led->((∀ x∈k :: ks,IntK x)->t'.plain=true) ->
    wpAny (model prog w) A (do
     storeSet a (insertAt es (below t.place j) ((TK prog w).hash k,.ref b)) t'
     if (!false&&t'.tooFull)=true then do
      setRelay a (grown (es.size+1))
      pure true
     else pure true) Q E s:=by
   intro t' e1 e2 e3 e4 e5
   have O':Ok0 t' (insertAt es (below t.place j) ((TK prog w).hash k,.ref b)):=by
    have:=O.add (x:=.ref b) h1 h2 (by rw [ej]; exact hj) room e1 e2 (by rw [ej]; exact e3)
    rw [ej] at this; exact this
   have M':=M.ins hx hB bes
   have sz':t'.place.size=es.size+1:=by rw [O'.sz,ins_size _ _ _ bes]
   have pk:(ks.take (below t.place j)++k :: ks.drop (below t.place j)).Perm (k :: ks):=by
    refine List.perm_middle.trans ?_
    rw [List.take_append_drop]
   refine wpAny_bind (wpAny_storeSet_of ho hd ?_ (by rw [ins_size _ _ _ bes,sizeLine_eq]; lia))
   have g1:=put_get ho hd (insertAt es (below t.place j) ((TK prog w).hash k,.ref b)) t'
   have M1:=M'.keep (h':=s.heap.update a (Obj.putSet (insertAt es (below t.place j) ((TK prog w).hash k,.ref b)) t')) (fun c o _=>put_keep ho hd _ c o)
   have sb1:=Heap.SameBut.update s.heap a (Obj.putSet (insertAt es (below t.place j) ((TK prog w).hash k,.ref b)) t')
   cases tf:t'.tooFull with
   | false =>
    rw [if_neg (by intro z; cases z)]
    exact wpAny_pure (h _ _ true (fun z=>absurd z hk) (fun _=>pk) sb1 ⟨_,_,_,_,g1,hex,rfl,O',tf,e4.trans hl,fun z=>e5 fun x hx=>z x (pk.mem_iff.mpr hx),M1⟩)
   | true =>
    rw [if_pos (show (!false&&true)=true from rfl)]
    rw [full_eq t' O'.dm,sz',e1] at tf
    obtain ⟨m1,m2,m3,m4⟩:=sz_after O.ms (n:=es.size) (by rw [← O.sz]; exact nf') (of_decide_eq_true tf) hsz
    refine wpAny_bind ?_
    unfold setRelay
    refine wpAny_bind (wp_state (s:={ s with heap:=s.heap.update a (Obj.putSet (insertAt es (below t.place j) ((TK prog w).hash k,.ref b)) t') }) g1 rfl O' ?_)
    dsimp only
    rw [if_neg (by rw [sizeLine_eq]; lia)]
    obtain ⟨t2,order,el,l1,l2,l3,l4,l5,O2⟩:=laid_ok m1 (insertAt es (below t.place j) ((TK prog w).hash k,.ref b)) (by rw [ins_size _ _ _ bes]; exact m2) t'.finger (t'.movedTo (sizeAbove (grown (es.size+1)) - 1)) t'.led t'.plain
    have er:t'.relaid ((insertAt es (below t.place j) ((TK prog w).hash k,Value.ref b)).map (·.1)) (grown (es.size+1))=some (t2,order):=el
    rw [er]
    refine wpAny_bind (wpAny_of_eq (a:=(order.filterMap ((insertAt es (below t.place j) ((TK prog w).hash k,Value.ref b))[·]?),t2)) ?_ ?_)
    ·show (if (_ != _)=true then _ else _)=_
     rw [if_neg (by rw [l4,bne_self_eq_false]; intro z; cases z)]
    obtain ⟨ks2,M2,pm⟩:=M1.perm l5
    refine wpAny_storeSet_of g1 rfl ?_ (by rw [l4,ins_size _ _ _ bes,sizeLine_eq]; lia)
    have g2:=put_get g1 rfl (order.filterMap ((insertAt es (below t.place j) ((TK prog w).hash k,Value.ref b))[·]?)) t2
    have M3:=M2.keep (h':=(s.heap.update a (Obj.putSet (insertAt es (below t.place j) ((TK prog w).hash k,.ref b)) t')).update a (Obj.putSet (order.filterMap ((insertAt es (below t.place j) ((TK prog w).hash k,Value.ref b))[·]?)) t2)) (fun c o _=>put_keep g1 rfl _ c o)
    refine wpAny_pure (h _ ks2 true (fun z=>absurd z hk) (fun _=>pm.trans pk) (sb1.trans (Heap.SameBut.update _ a _)) ⟨_,_,_,_,g2,hex,rfl,O2,?_,by rw [l2,e4]; exact hl,fun z=>l3.trans (e5 fun x hx=>z x ((pm.trans pk).mem_iff.mpr hx)),M3⟩)
    rw [full_eq t2 O2.dm,O2.sz,l4,ins_size _ _ _ bes,l1]
    exact decide_eq_false m3
  cases hp:t.plain with
  | true =>
   rw [if_pos (show true=true from rfl)]
   refine wpAny_bind (wp_hbv hx fun r hr=>?_)
   cases r with
   | true=>exact rest _ rfl rfl rfl rfl fun _=>rfl
   | false=>exact rest _ rfl rfl rfl rfl fun z=>hr (z k List.mem_cons_self)
  | false =>
   rw [if_neg (by intro z; cases z)]
   exact wpAny_bind (wpAny_pure (rest _ rfl rfl rfl rfl fun z=>by have:=hpn fun x hx=>z x (List.mem_cons_of_mem _ hx); rw [hp] at this; exact this))
end
end K2.S
end
section
namespace K2.S
open PySem PySem.Spec PyProof.Rows L2 PySem.SetTable
section
variable {B:Addr->Prop} {prog:Program} {w:World} {A:Around} {E:Value->Shared->Prop} {s:Shared}
noncomputable def byX (w:World):Bool:=w.params.followText "set-order"
noncomputable def setT (w:World):Obj:={ cls:=.type "set",dict:=none,data:=.set #[] 0 (.fresh 0 0 (!byX w)) }
theorem setT_st {h:Heap} {a:Addr} (e:h.get? a=some (setT w)):StT B prog w h a (!byX w) []:=by
 refine ⟨_,#[],0,.fresh 0 0 (!byX w),e,⟨rfl,rfl,rfl⟩,rfl,⟨.inl rfl,rfl,rfl,fun a b _ z=>absurd z (Nat.not_lt_zero _),fun k z=>absurd z (Nat.not_lt_zero _),Nat.zero_le _,fun k z=>absurd z (Nat.not_lt_zero _)⟩,rfl,rfl,(fun _=>rfl),rfl,fun i e he=>?_⟩
 cases he
theorem stnew (x:Value) {Q:Value->Shared->Prop} (h:Q (.ref s.heap.objs.size) { s with heap:=s.heap.push (setT w) }):codeAny (model prog w) A (.call (.builtin "set.__new__") ⟨[.type "set",x],[]⟩) (wants Q E) s:=by
 refine codeAny_of_tree (show wpAny _ A.in1 (do checkBuiltinCall "set.__new__" ⟨[.type "set",x],[]⟩; again (.builtin "set.__new__" ⟨[.type "set",x],[]⟩)) _ _ s from ?_)
 refine wpAny_bind (wpAny_of_eq (F.newCall_set_1 x) (wpAny_pure ⟨plainId_quiet F.plain_set_new _,codeAny_builtin F.entry_set_new ?_⟩))
 rw [Around.under_plainId F.plain_set_new _]
 unfold Builtin.«set.__new__» Builtin.Frozenset.newClass
 have hsub:=sub_set_self
 obtain ⟨hp,g,d,tk,os⟩:=s
 dsimp only at h ⊢
 wp_walk
 refine wpAny_askSetting (wpAny_pure ?_)
 dsimp only
 simp only [newObj]
 refine wpAny_bind (wpAny_alloc (wpAny_pure (wpAny_pure h)))
variable {R:Result->Shared->Prop} {I:Addr} {fp wr:List Addr} {G:Array GenState->Array GenState->Prop} {n:Nat} {P:Nat->Value->Prop} {St:Nat->Shared->Prop}
noncomputable def hasK (acc:List (List Key)) (k:List Key):Bool:=acc.any fun x=>decide (x=k)
theorem hasK_iff {acc:List (List Key)} {k:List Key}:hasK acc k=true↔k∈acc:=by
 unfold hasK
 rw [List.any_eq_true]
 exact ⟨fun ⟨x,hx,e⟩=>of_decide_eq_true e ▸ hx,fun h=>⟨k,h,decide_eq_true rfl⟩⟩
noncomputable def stepd (acc:List (List Key)) (k:List Key):List (List Key):=if hasK acc k=true then acc else acc++[k]
noncomputable def ded (l:List (List Key)):List (List Key):=l.foldl stepd []
theorem stepd_len (acc:List (List Key)) (k:List Key):(stepd acc k).length<=acc.length+1:=by
 unfold stepd; split
 ·lia
 ·rw [List.length_append,List.length_singleton]; exact Nat.le_refl _
theorem StT.keeps {h h':Heap} {a:Addr} {b:Bool} {ks:List (List Key)} (x:StT B prog w h a b ks) (k:∀ c o,(c=a\/B c)->h.get? c=some o->h'.get? c=some o):StT B prog w h' a b ks:=by
 obtain ⟨o,es,ep,t,e,r1,r2,r3,r4,r5,r6,M⟩:=x
 exact ⟨o,es,ep,t,k a o (.inl rfl) e,r1,r2,r3,r4,r5,r6,M.keep fun c o z e _=>k c o (.inr z) e⟩
theorem stloop {b:Bool} (W:WalksS prog w A.in1 I fp wr G n P St) (S:Addr) (hSf:S∉fp) (T:Heap->Prop) (key:Nat->List Key) (few:n<=76) (hu:(TK prog w).room A.in1)
  (hT:∀ h,T h->∀ i v,P i v->∃ c,v=.ref c/\(TK prog w).is h (key i) c/\B c) (hTk:∀ h h',T h->(∀ c o,c∉S :: wr->h.get? c=some o->h'.get? c=some o)->T h')
  (hW:∀ c,B c->c∉wr) :
  ∀ (k i:Nat) (s:Shared) (acc ks:List (List Key)),n - i=k->i<=n->acc.length<=i->ks.Perm acc->St i s->T s.heap->StT B prog w s.heap S b ks ->
   (∀ s' ks',Moved (S :: wr) G s s'->ks'.Perm (((List.range' i k).map key).foldl stepd acc)->T s'.heap->StT B prog w s'.heap S b ks'->R (.ok (.ret .none)) s') ->
   codeAny (model prog w) A (.builtin "set.update.loop" ⟨[.ref S,.ref I],[]⟩) R s:=by
 have hSw:S∉wr:=fun h=>hSf (W.sub _ h)
 have hsub:∀ c∈wr,c∈S :: wr:=fun c hc=>List.mem_cons_of_mem _ hc
 intro k
 induction k with
 | zero =>
  intro i s acc ks hk hi ha hp hst ht hS hR
  have hin:i=n:=by lia
  subst hin
  refine codeAny_builtin F.entry_set_update_loop ?_
  rw [Around.under_plainId F.plain_set_update_loop _]
  show wpAny _ A.in1 (pyNext (.ref I) >>= _) _ _ s
  refine wpAny_bind (W.done s _ _ hst fun s' hm=>(show wpAny _ A.in1 (ret Value.none) _ _ s' from wpAny_pure (hR s' ks (hm.mono hsub) hp (hTk _ _ ht fun c o hc e=>hm.heap c o (fun z=>hc (hsub c z)) e) (hS.keeps fun c o z e=>hm.heap c o (fun q=>?_) e))))
  rcases z with rfl | z
  ·exact hSw q
  ·exact hW c z q
 | succ k ih =>
  intro i s acc ks hk hi ha hp hst ht hS hR
  have hlt:i < n:=by lia
  refine codeAny_builtin F.entry_set_update_loop ?_
  rw [Around.under_plainId F.plain_set_update_loop _]
  show wpAny _ A.in1 (pyNext (.ref I) >>= _) _ _ s
  refine wpAny_bind (W.item i s _ _ hlt hst fun v s' hP hst' hm=>?_)
  have ht':T s'.heap:=hTk _ _ ht fun c o hc e=>hm.heap c o (fun z=>hc (hsub c z)) e
  obtain ⟨c,rfl,hx,hB⟩:=hT _ ht' i v hP
  have hS':StT B prog w s'.heap S b ks:=hS.keeps fun c o z e=>hm.heap c o (fun q=>by
   rcases z with rfl | z
   ·exact hSw q
   ·exact hW c z q) e
  show wpAny _ A.in1 (holding [Value.ref c] (setAdd S (.ref c)) >>= _) _ _ s'
  refine wpAny_bind (wpAny_holding ?_)
  unfold setAdd
  refine wpAny_holding (wpAny_bind ((TK prog w).pyHash hu hx ?_))
  refine wp_add (s:={ s' with toks:=s'.toks+(TK prog w).draws (key i) }) hu hS' hx hB (by rw [hp.length_eq]; lia) fun h' ks' r hin hno hsb hS2=>?_
  have tk':T h':=hTk _ _ ht' fun c o hc e=>by rw [hsb.2 c (fun z:c=S=>hc (by rw [z]; exact List.mem_cons_self))]; exact e
  have hp':ks'.Perm (stepd acc (key i)):=by
   unfold stepd
   by_cases z:hasK acc (key i)=true
   ·rw [if_pos z,hin (hp.mem_iff.mpr (hasK_iff.mp z))]; exact hp
   ·rw [if_neg z]
    exact (hno fun q=>z (hasK_iff.mpr (hp.mem_iff.mp q))).trans ((hp.cons _).trans (List.perm_append_singleton _ _).symm)
  refine wpAny_pure ⟨plainId_quiet F.plain_set_update_loop _,ih (i+1) _ (stepd acc (key i)) ks' (by lia) hlt (Nat.le_trans (stepd_len _ _) (by lia)) hp' (W.frame _ s' _ _ hst' (Nat.le_add_right _ _) fun c hc o e=>?_) tk' hS2 fun s2 ks2 hm2 hq2 ht2 hS3=>?_⟩
  ·rw [hsb.2 c (fun z:c=S=>hSf (by rw [← z]; exact hc))]; exact e
  ·refine hR s2 ks2 (Moved.trans W.gtrans ((hm.mono hsub).then_heap (Nat.le_add_right _ _) fun c o hc e=>?_) hm2) hq2 ht2 hS3
   rw [hsb.2 c (fun z:c=S=>hc (by rw [z]; exact List.mem_cons_self))]; exact e
end
end K2.S
end
section
namespace K2.S
open PySem PySem.Spec PyProof.Rows L2 PySem.SetTable
section
variable {prog:Program} {w:World} {A:Around} {E:Value->Shared->Prop} {s:Shared}
set_option maxRecDepth 100000 in
theorem stcall {l:Addr} {items:Array Value} {Q:Value->Shared->Prop} (hh:A.handled=none) (hu:A.units+64 < cLine) (hl:s.heap.IsList l items) (key:Nat->List Key) (few:items.size<=76) (hval:∀ (i:Nat) (v:Value),items[i]?=some v->∃ c,v=.ref c/\(TK prog w).is s.heap (key i) c)
  (h:∀ (h':Heap) (tk:Nat) (ks:List (List Key)),StT (fun c=>c < s.heap.objs.size/\Value.ref c∈items.toList) prog w h' s.heap.objs.size (!byX w) ks->ks.Perm (ded ((List.range items.size).map key))->(∀ c o,c < s.heap.objs.size->s.heap.get? c=some o->h'.get? c=some o)->Q (.ref s.heap.objs.size) { s with heap:=h',toks:=tk }) :
  wpAny (model prog w) A (call (.type "set") [.ref l]) Q E s:=by
 obtain ⟨c,tl,hmro⟩:=F.called_set.mro
 have hmade:=F.called_set.made
 have hsub:=F.called_set.sub
 refine wpAny_call (codeAny_of_tree (show wpAny _ _ (callAny (.type "set") _) _ _ _ from ?_))
 refine wpAny_pure ⟨Code.quiet_builtin _ (by decide +kernel),codeAny_builtin F.entry_type_call ?_⟩
 rw [Around.under_plain (weight_type_call_type "set" [.ref l] []) rfl]
 have h1:=F.called_set.notType
 have h2:=F.called_set.canCreate
 have hct:=F.typeCall_set_1 (.ref l)
 repeat (any_goals (first | assumption | wp_step))
 refine codeAny_mono (stnew (.ref l) (E:=E) (Q:=fun obj s₁=>obj=.ref s.heap.objs.size/\s₁={ s with heap:=s.heap.push (setT w) }) ⟨rfl,rfl⟩) fun r s1 hr=>?_
 cases r with
 | error e=>exact hr
 | ok fl =>
  cases fl with
  | ret obj =>
   obtain ⟨rfl,rfl⟩:=hr
   have hS:(s.heap.push (setT w)).get? s.heap.objs.size=some (setT w):=Heap.get?_push_size _ rfl
   have hT:Shared.TypeIs { s with heap:=s.heap.push (setT w) } (.ref s.heap.objs.size) "set":=⟨_,hS,rfl⟩
   have hli:=F.called_set.init.lookup
   have hbi:=F.called_set.init.bind (.ref s.heap.objs.size)
   repeat (any_goals (first | assumption | wp_step))
   refine codeAny_mono (codeAny_call_builtin (R:=wants (fun r s₂=>r=.none/\∃ h' tk ks,s₂={ s with heap:=h',toks:=tk }/\StT (fun c=>c < s.heap.objs.size/\Value.ref c∈items.toList) prog w h' s.heap.objs.size (!byX w) ks/\ks.Perm (ded ((List.range items.size).map key)) /\
     (∀ c o,c < s.heap.objs.size->s.heap.get? c=some o->h'.get? c=some o)) E) F.called_set.init.plain F.entry_set_init (check_set_init_1 hT ?_)) fun r₂ s₂ hr₂=>?_
   ·obtain ⟨⟨ocls,odict,odata,oslots⟩,hol,hcl,nl,hdl⟩:=hl
    simp only at hcl hdl
    subst hcl hdl
    have hol':(s.heap.push (setT w)).get? l=some { cls:=.type "list",dict:=odict,data:=.seq items nl,slots:=oslots }:=Heap.get?_push_of_some _ hol
    have hsls:=F.sub_list_set
    have hslf:=F.sub_list_frozenset
    have hne:(Value.type "list" == Value.type "dict")=false:=by decide
    have hl1:(s.heap.push (setT w)).IsList l items:=⟨_,hol',rfl,nl,rfl⟩
    unfold setT at *
    unfold Builtin.«set.__init__» noKeywords Builtin.Frozenset.updateFrom
    generalize hPI:pyIter=PI
    wp_walk
    subst hPI
    refine wpAny_pyIter_list hl1 (wpAny_bind (wpAny_runValue ?_))
    have hlS:l < s.heap.objs.size:=Heap.lt_size hol
    have hh3:A.in1.in1.in1.handled=none:=by simp [hh]
    have hsz:(s.heap.push (setT w)).objs.size=s.heap.objs.size+1:=Heap.size_push _ _
    unfold setT at hsz
    have hIn:∀ c,c < s.heap.objs.size->c∉[(s.heap.push { cls:=.type "set",dict:=none,data:=.set #[] 0 (.fresh 0 0 (!byX w)) }).objs.size]:=fun c hc=>by
     rw [hsz]; simp only [List.mem_singleton]; lia
    refine stloop (B:=(fun c=>c < s.heap.objs.size/\Value.ref c∈items.toList)) (b:=!byX w) ((Walks.list hh3 _ l (by rw [hsz]; exact Nat.ne_of_lt (Nat.lt_succ_of_lt hlS)) items).toS) s.heap.objs.size (by rw [hsz]; simp only [List.mem_cons,List.not_mem_nil,or_false,not_or]; exact ⟨Nat.ne_of_lt (Nat.lt_succ_self _),Nat.ne_of_gt hlS⟩)
     (fun h=>∀ c o,c < s.heap.objs.size->s.heap.get? c=some o->h.get? c=some o) key few (by show A.in1.in1.in1.units < cLine; show A.units+1+1+1 < cLine; lia) (fun h ht i v hP=>?h1) (fun h h' ht k c o hc e=>k c o ?h2 (ht c o hc e)) (fun c hc=>hIn c hc.1) (items.size - 0) 0 _ [] [] (by lia) (Nat.zero_le _) (Nat.le_refl _) (List.Perm.refl _) ⟨⟨_,Heap.get?_push_size _ rfl,rfl,rfl⟩,hl1.push _⟩
     (fun c o hc e=>Heap.get?_push_of_some _ (Heap.get?_push_of_some _ e)) ?hS0 ?hR
    case h1 =>
     obtain ⟨c,e1,e2⟩:=hval i v hP
     obtain ⟨o,_,_,eo,_⟩:=id e2
     exact ⟨c,e1,is_keep e2 fun o e=>ht c o (Heap.lt_size e) e,Heap.lt_size eo,by rw [← e1]; exact Array.mem_toList_iff.mpr (Array.mem_of_getElem? hP)⟩
    case h2 =>
     intro z
     rcases List.mem_cons.mp z with z | z
     ·exact absurd z (Nat.ne_of_lt hc)
     ·exact hIn c hc z
    case hS0=>exact setT_st (Heap.get?_push_of_some _ hS)
    case hR =>
     intro s' ks hm hq ht hS'
     obtain ⟨h',g',d',tk',os'⟩:=s'
     cases (show g'=s.gens from hm.gens)
     cases (show d'=s.drawn from hm.drawn)
     cases (show os'=s.os from hm.os)
     refine wpAny_pure (show wpAny _ _ (ret Value.none) _ _ _ from wpAny_pure ⟨rfl,h',tk',ks,rfl,hS',?_,ht⟩)
     rw [Nat.sub_zero,← List.range_eq_range'] at hq; exact hq
   ·cases r₂ with
    | error e=>exact hr₂
    | ok fl₂ =>
     cases fl₂ with
     | ret r =>
      obtain ⟨rfl,h',tk,ks,rfl,hS',hq,hk'⟩:=hr₂
      repeat (any_goals (first | assumption | wp_step))
      exact h _ _ ks hS' hq hk'
     | _=>exact hr₂.elim
  | _=>exact hr.elim
end
end K2.S
end
section
namespace K2
open PySem PySem.Spec PyProof.Rows L2 PySem.W
section
variable {X:Cx} {a:Expr} {ta:TA2} {pos p pos2 p2:Pos}
theorem bt_setT:bootBuiltins "set" = some (.type "set"):=by first | rfl | decide +kernel
noncomputable def tk (k:List Key):D:=.tup (k.map keyD)
end
end K2
end
section
namespace K2
open PySem PySem.Spec PyProof.Rows L2
section
variable {X:Cx} {elts:List Expr} {kk:Nat} {tpos apos cpos:Pos} {o:Expr} {to:TE2}
theorem DTs.item {K:PySem.W.Frag} {H:Hp} {kv:List (List Key×V)} {kvs:List (D×D)} (h:DTs K H kv kvs):∀ {i:Nat} {q:D×D},kvs[i]?=some q->∃ p,kv[i]?=some p/\q.1=.tup (p.1.map keyD)/\RepD K H p.2 q.2:=by
 induction h using DTs.ind with
 | nil=>intro i q e; simp at e
 | @cons k v d r t rd rs ih =>
  intro i q e
  cases i with
  | zero=>simp at e; subst e; exact ⟨_,rfl,rfl,rd⟩
  | succ i =>
   obtain ⟨p,h1,h2⟩:=ih (i:=i) (q:=q) (by simpa using e)
   exact ⟨p,by simpa using h1,h2⟩
theorem DTs.len {K:PySem.W.Frag} {H:Hp} {kv:List (List Key×V)} {kvs:List (D×D)} (h:DTs K H kv kvs):kv.length=kvs.length:=by
 have:=congrArg List.length h.keys
 simpa using this.symm
end
end K2
end
section
namespace K2.S
open PySem PySem.Spec PyProof.Rows L2 PySem.SetTable
namespace F5
theorem slot_next:Slot "set_iterator" "__next__" "set_iterator.__next__" :=
 .of (owner:="set_iterator") (n:="__next__") (by rw [typeLookup_type,builtinLookup_eq_fast]; kernel_rfl) (by decide +kernel) (by decide +kernel) (by decide +kernel) (by first | exact .inl (by decide +kernel) | exact .inr (by decide +kernel)) (by rw [isSubtype_type]; kernel_rfl)
theorem entry_next:entryFor table "set_iterator.__next__" = some Builtin.«set_iterator.__next__»:=entryFor_of_tree (by kernel_rfl)
theorem slot_iter:Slot "set_iterator" "__iter__" "set_iterator.__iter__" :=
 .of (owner:="set_iterator") (n:="__iter__") (by rw [typeLookup_type,builtinLookup_eq_fast]; kernel_rfl) (by decide +kernel) (by decide +kernel) (by decide +kernel) (by first | exact .inl (by decide +kernel) | exact .inr (by decide +kernel)) (by rw [isSubtype_type]; kernel_rfl)
theorem entry_iter:entryFor table "set_iterator.__iter__" = some Builtin.«dict_keyiterator.__iter__»:=entryFor_alias (id':="dict_keyiterator.__iter__") (by kernel_rfl) rfl (by decide +kernel) (by kernel_rfl)
theorem entry_siter:entryFor table "set.__iter__" = some Builtin.«frozenset.__iter__»:=entryFor_alias (id':="frozenset.__iter__") (by kernel_rfl) rfl (by decide +kernel) (by kernel_rfl)
theorem own:Manifest.owners.lookup (String.ofList ['r','o','t','a','r','e','t','i','_','t','e','s'].reverse)=some Manifest.sig_set_iterator:=by kernel_rfl
theorem args_next (a:Value):argsOk "set_iterator.__next__" ⟨[a],[]⟩:=by
 unfold argsOk; rw [signature?_of (id:="set_iterator.__next__") (n:=['_','_','t','x','e','n','_','_']) (o:=['r','o','t','a','r','e','t','i','_','t','e','s']) (by kernel_rfl) own]; kernel_rfl
theorem args_iter (a:Value):argsOk "set_iterator.__iter__" ⟨[a],[]⟩:=by
 unfold argsOk; rw [signature?_of (id:="set_iterator.__iter__") (n:=['_','_','r','e','t','i','_','_']) (o:=['r','o','t','a','r','e','t','i','_','t','e','s']) (by kernel_rfl) own]; kernel_rfl
end F5
noncomputable def stAt (pl:Array Nat) (i:Nat):Nat:=if i=0 then 0 else pl.getD (i - 1) 0+1
theorem below_st {xs:Array Nat} (up:Up xs) {i:Nat} (h:i<=xs.size):below xs (stAt xs i)=i:=by
 obtain ⟨h1,h2,h3⟩:=below_spec up (stAt xs i)
 unfold stAt at h1 h2 h3 ⊢
 by_cases c:i=0
 ·rw [if_pos c] at h1 h2 h3 ⊢
  apply Classical.byContradiction
  intro z
  have:=h2 0 (by lia)
  lia
 ·rw [if_neg c] at h1 h2 h3 ⊢
  apply Classical.byContradiction
  intro z
  by_cases q:below xs (xs.getD (i - 1) 0+1) < i
  ·have:=h3 (i - 1) (by lia) (by lia); lia
  ·have a1:=h2 i (by lia)
   have a2:=up (i - 1) i (by lia) (by lia)
   lia
section
variable {prog:Program} {w:World} {A:Around} {E:Value->Shared->Prop} {s:Shared}
noncomputable abbrev tb (w:World) (mk:Nat) (pl dm:Array Nat) (fg mv:Nat):SetTable:={ mask:=mk,place:=pl,dummies:=dm,finger:=fg,led:=!byX w,moves:=mv,plain:=true }
structure Wk (w:World) (o:Obj) (es:En) (ep:Nat) (mk:Nat) (pl dm:Array Nat) (fg mv:Nat):Prop where
 ex:o.ExactSet
 dd:o.data=.set es ep (tb w mk pl dm fg mv)
 fit:(tb w mk pl dm fg mv).fits es.size=true
 sz:pl.size=es.size
 up:Up pl
noncomputable def ord (w:World) (a:Addr) (ep:Nat) (es:En):En:=if byX w=true then pickOrder (w.params.setOrder a ep) es else es
noncomputable def slt (w:World) (pl:Array Nat) (i:Nat):Nat:=if byX w=true then 0 else stAt pl i
noncomputable abbrev sitO (a:Addr) (sl i n ep:Nat):Obj:={ cls:=.type "set_iterator",data:=.fields #[.int sl 0,.int i 0,.ref a,.int n 0,.int ep 0] }
noncomputable def StI (h:Heap) (it a:Addr) (sl i n ep:Nat):Prop:=∃ o,h.get? it=some o/\o.cls=.type "set_iterator"/\o.data=.fields #[.int sl 0,.int i 0,.ref a,.int n 0,.int ep 0]
theorem StI.ty {it a:Addr} {sl i n ep:Nat} (x:StI s.heap it a sl i n ep):s.TypeIs (.ref it) "set_iterator":=by
 obtain ⟨o,h,c,_⟩:=x
 exact ⟨o,h,c⟩
theorem byX_ask {Q:Bool->Shared->Prop} (h:Q (byX w) s):wpAny (model prog w) A setsByText Q E s:=by
 unfold setsByText
 exact wpAny_bind (wpAny_askSetting (wpAny_pure h))
variable {es:En} {mk fg mv:Nat} {pl dm:Array Nat} {a it:Addr} {o:Obj} {ep:Nat}
theorem st_begin {Q:Value->Shared->Prop} (ho:s.heap.get? a=some o) (W:Wk w o es ep mk pl dm fg mv)
  (hQ:Q (.ref s.heap.objs.size) { s with heap:=s.heap.push (sitO a 0 0 es.size ep) }):wpAny (model prog w) A (pyIter (.ref a)) Q E s:=by
 have ty:s.TypeIs (.ref a) "set":=⟨o,ho,W.ex.1⟩
 refine wpAny_pyIter_slot ty PySem.F.slot_set_iter (wpAny_call_entry PySem.F.slot_set_iter ty F5.entry_siter ?_ (PySem.F.args_set_iter_1 _))
 unfold Builtin.«frozenset.__iter__» Builtin.Frozenset.slot0 slotArgs
 simp only [List.isEmpty_nil,Bool.not_true,Bool.false_eq_true,↓reduceIte,bind_assoc,List.length_nil,bne_self_eq_false]
 unfold Builtin.Frozenset.addrOf Builtin.Frozenset.sizeOf
 refine wpAny_bind (wpAny_pure ?_)
 try dsimp only
 refine wpAny_bind (wpAny_pure (wpAny_bind (wpAny_bind (wpAny_setEntries_of ho W.dd W.fit (wpAny_pure ?_)))))
 refine wpAny_bind ?_
 unfold setDrawn
 refine wpAny_bind (wpAny_setState_of ho W.dd W.fit ?_)
 dsimp only
 refine wpAny_bind (byX_ask (wpAny_pure ?_))
 split
 ·rename_i z
  exact absurd z (by cases byX w <;> exact Bool.false_ne_true)
 ·refine wpAny_bind (wpAny_pure ?_)
  unfold setEpoch
  refine wpAny_bind (wpAny_bind (wpAny_setState_of ho W.dd W.fit (wpAny_pure ?_)))
  unfold newFields
  refine wpAny_bind (wpAny_newObj_type (wpAny_pure ⟨_,rfl,"set_iterator",_,⟨_,Heap.get?_push_size _ rfl,rfl⟩,F5.slot_next.lookup,?_⟩) (by size_fits))
  exact hQ
theorem st_walk (hb:byX w=true) (ho:s.heap.get? a=some o) (W:Wk w o es ep mk pl dm fg mv):wpAny (model prog w) A (setWalk a) (fun r s'=>r=pickOrder (w.params.setOrder a ep) es/\s'=s) (fun _ _=>False) s:=by
 unfold setWalk
 refine wpAny_bind (wpAny_setState_of ho W.dd W.fit ?_)
 dsimp only
 refine wpAny_bind (byX_ask ?_)
 rw [hb,if_pos rfl]
 exact wpAny_bind (wpAny_askSetting (wpAny_pure ⟨rfl,rfl⟩))
theorem st_next {i:Nat} (hi:i<=es.size) (ho:s.heap.get? a=some o) (W:Wk w o es ep mk pl dm fg mv):wpAny (model prog w) A (setNext a (slt w pl i) i ep) (fun r s'=>r=((ord w a ep es)[i]?).map (fun e=>(e.2,slt w pl (i+1)))/\s'=s) (fun _ _=>False) s:=by
 unfold setNext
 refine wpAny_bind (wpAny_setState_of ho W.dd W.fit ?_)
 dsimp only
 refine wpAny_bind (byX_ask ?_)
 cases hb:byX w with
 | true =>
  rw [if_pos rfl,if_neg (by simp)]
  refine wpAny_bind (wpAny_mono (st_walk hb ho W) (fun r s' z=>?_) fun _ _ z=>z)
  obtain ⟨rfl,rfl⟩:=z
  refine wpAny_pure ⟨?_,rfl⟩
  unfold ord slt
  rw [hb]; rfl
 | false =>
  rw [if_neg (by simp)]
  have sl:slt w pl i=stAt pl i:=by unfold slt; rw [hb]; rfl
  have sl1:slt w pl (i+1)=pl.getD i 0+1:=by unfold slt; rw [hb]; rfl
  have bl:SetTable.below pl (stAt pl i)=i:=below_st W.up (by rw [W.sz]; exact hi)
  split
  ·rename_i z
   exact absurd z Bool.false_ne_true
  ·refine wpAny_bind (show wpAny (model prog w) A (if (!(!byX w)&&!es.isEmpty)=true then unsupported "set:maker-not-led" else pure ()) _ _ s from ?_)
   rw [if_neg (by rw [hb]; simp)]
   refine wpAny_pure (wpAny_pure ⟨?_,rfl⟩)
   show (match es[SetTable.below pl (slt w pl i)]?,pl[SetTable.below pl (slt w pl i)]? with
    | some (_,x),some j=>some (x,j+1)
    | _,_=>none)=_
   rw [sl,bl,sl1]
   unfold ord
   rw [hb,if_neg (by simp)]
   by_cases c:i < es.size
   ·have hp:i < pl.size:=by rw [W.sz]; exact c
    rw [Array.getElem?_eq_getElem c,Array.getElem?_eq_getElem hp]
    simp [Array.getD,hp]
   ·rw [Array.getElem?_eq_none (by lia)]; rfl
theorem st_item {i:Nat} {Q:Option Value->Shared->Prop} (ki:StI s.heap it a (slt w pl i) i es.size ep) (ho:s.heap.get? a=some o) (W:Wk w o es ep mk pl dm fg mv) (hi:i<=es.size) {e:Int×Value} (he:(ord w a ep es)[i]?=some e)
  (hQ:∀ h',StI h' it a (slt w pl (i+1)) (i+1) es.size ep->Heap.SameBut it s.heap h'->Q (some e.2) { s with heap:=h' }):wpAny (model prog w) A (pyNext (.ref it)) Q E s:=by
 obtain ⟨oi,hoi,hci,hfi⟩:=id ki
 unfold pyNext
 refine wpAny_bind (wpAny_attempt (wpAny_callSpecial?_slot (name:=Str.ofString "__next__") ki.ty F5.slot_next (wpAny_call_entry F5.slot_next ki.ty F5.entry_next ?_ (F5.args_next _))))
 unfold Builtin.«set_iterator.__next__» slotArgs
 simp only [List.isEmpty_nil,Bool.not_true,Bool.false_eq_true,↓reduceIte,bind_assoc,List.length_nil,bne_self_eq_false]
 refine wpAny_bind (wpAny_pure ?_)
 refine wpAny_bind (wpAny_fieldsOf hoi hfi ?_)
 show wpAny _ _ (setEntries a >>= _) _ _ s
 refine wpAny_bind (wpAny_setEntries_of ho W.dd W.fit ?_)
 rw [if_neg (by simp)]
 show wpAny _ _ (setNext a (Int.toNat (slt w pl i:Int)) (Int.toNat (i:Int)) (Int.toNat (ep:Int)) >>= _) _ _ s
 rw [Int.toNat_natCast,Int.toNat_natCast,Int.toNat_natCast]
 refine wpAny_bind (wpAny_mono (st_next hi ho W) (fun r s' z=>?_) fun _ _ z=>z.elim)
 obtain ⟨rfl,rfl⟩:=z
 rw [he]
 show wpAny _ _ (setField (.ref it) 0 (rawInt (slt w pl (i+1):Int)) >>= _) _ _ _
 refine wpAny_bind (wpAny_setField hoi hfi (by simp) ?_)
 have g1:=Heap.get?_update_self (Obj.mapFields (·.setIfInBounds 0 (rawInt (slt w pl (i+1):Int)))) hoi (Obj.isFreed_of_fields (Obj.data_mapFields hfi _))
 refine wpAny_bind (wpAny_setField g1 (Obj.data_mapFields hfi _) (by simp) ?_)
 have g2:=Heap.get?_update_self (Obj.mapFields (·.setIfInBounds 1 (rawInt ((i:Int)+1)))) g1 (Obj.isFreed_of_fields (Obj.data_mapFields (Obj.data_mapFields hfi _) _))
 refine wpAny_pure ⟨_,rfl,wpAny_pure (hQ _ ⟨_,g2,?_,?_⟩ ((Heap.SameBut.update ..).trans (Heap.SameBut.update ..)))⟩
 ·rw [Obj.cls_mapFields,Obj.cls_mapFields]; exact hci
 ·rw [Obj.data_mapFields (Obj.data_mapFields hfi _)]; simp [rawInt]
theorem st_end {Q:Option Value->Shared->Prop} (calm:A.handled=none) (ki:StI s.heap it a (slt w pl es.size) es.size es.size ep) (ho:s.heap.get? a=some o) (W:Wk w o es ep mk pl dm fg mv) (hl:(ord w a ep es).size=es.size)
  (hQ:∀ h',Heap.ExtBut it s.heap h'->Q none { s with heap:=h' }):wpAny (model prog w) A (pyNext (.ref it)) Q E s:=by
 obtain ⟨oi,hoi,hci,hfi⟩:=id ki
 unfold pyNext
 refine wpAny_bind (wpAny_attempt (wpAny_callSpecial?_slot (name:=Str.ofString "__next__") ki.ty F5.slot_next (wpAny_call_entry F5.slot_next ki.ty F5.entry_next ?_ (F5.args_next _))))
 unfold Builtin.«set_iterator.__next__» slotArgs
 simp only [List.isEmpty_nil,Bool.not_true,Bool.false_eq_true,↓reduceIte,bind_assoc,List.length_nil,bne_self_eq_false]
 refine wpAny_bind (wpAny_pure (wpAny_bind (wpAny_fieldsOf hoi hfi ?_)))
 show wpAny _ _ (setEntries a >>= _) _ _ s
 refine wpAny_bind (wpAny_setEntries_of ho W.dd W.fit ?_)
 rw [if_neg (by simp)]
 show wpAny _ _ (setNext a (Int.toNat (slt w pl es.size:Int)) (Int.toNat (es.size:Int)) (Int.toNat (ep:Int)) >>= _) _ _ s
 rw [Int.toNat_natCast,Int.toNat_natCast,Int.toNat_natCast]
 refine wpAny_bind (wpAny_mono (st_next (Nat.le_refl _) ho W) (fun r s' z=>?_) fun _ _ z=>z.elim)
 obtain ⟨rfl,rfl⟩:=z
 rw [Array.getElem?_eq_none (by lia)]
 show wpAny _ _ (setField (.ref it) 2 .none >>= _) _ _ _
 refine wpAny_bind (wpAny_setField hoi hfi (by simp) ?_)
 show wpAny _ _ (newExc (.type "StopIteration") [] >>= _) _ _ _
 refine wpAny_bind ?_
 simp only [newExc,newTuple]
 refine wpAny_bind (wpAny_newObj_type (wpAny_bind (m:=firstArgMember _ _) (wpAny_of_eq (a:=Value.none) (by first | rfl | (simp only [firstArgMember]; rfl)) (wpAny_newObj_type ?_ (by size_fits)))) (by size_fits))
 simp only [raiseNew]
 refine wpAny_bind (wpAny_handled ?_)
 rw [show A.in1.handled=none from calm]
 refine wpAny_bind (wpAny_pure (wpAny_throw ?_))
 refine wpAny_bind (wpAny_isInstance (T:="StopIteration") (b:=true) ⟨_,Heap.get?_push_size _ rfl,rfl⟩ isSubtype_stop (?_))
 exact wpAny_pure (hQ _ (((Heap.SameBut.update ..).extBut.push _).push _))
theorem get_er {α:Type}:∀ (l:List α) (i:Nat) (h:i < l.length),(l[i] :: l.eraseIdx i).Perm l
 | x :: r,0,_=>.refl _
 | x :: r,i+1,h=>by
  rw [List.getElem_cons_succ,List.eraseIdx_cons_succ]
  exact (List.Perm.swap _ _ _).trans (.cons _ (get_er r i (by simpa using h)))
theorem pick_perm {α:Type} (next:Nat->Nat):∀ (f k:Nat) (l:List α) (out:Array α),l.length<=f->(pickOrder.go next f k l out).toList.Perm (out.toList++l)
 | 0,k,l,out,h=>by
  have:l=[]:=List.length_eq_zero_iff.mp (by lia)
  subst this
  rw [List.append_nil]; exact .refl _
 | f+1,k,l,out,h=>by
  unfold pickOrder.go
  cases l with
  | nil=>simp
  | cons x r =>
   have hi:next k % (x :: r).length < (x :: r).length:=Nat.mod_lt _ (by simp)
   rw [List.getElem?_eq_getElem hi]
   dsimp only
   refine (pick_perm next f (k+1) _ _ (by rw [List.length_eraseIdx_of_lt hi]; simp at h ⊢; lia)).trans ?_
   rw [Array.toList_push,List.append_assoc]
   exact .append_left _ (get_er _ _ hi)
theorem ord_perm (w:World) (a:Addr) (ep:Nat) (es:En):(ord w a ep es).toList.Perm es.toList:=by
 unfold ord
 split
 ·unfold pickOrder
  have:=pick_perm (w.params.setOrder a ep) es.size 0 es.toList #[] (by simp)
  simpa using this
 ·exact .refl _
theorem ord_size (w:World) (a:Addr) (ep:Nat) (es:En):(ord w a ep es).size=es.size:=by have:=(ord_perm w a ep es).length_eq; simpa using this
theorem st_walks (hh:A.handled=none) (hne:a≠it) (W:Wk w o es ep mk pl dm fg mv) :
  PySem.Walks prog w A it [it,a] [it] es.size (fun i v=>∃ e,(ord w a ep es)[i]?=some e/\v=e.2) (fun i h=>StI h it a (slt w pl i) i es.size ep/\h.get? a=some o) where
 sub:=fun c hc=>by simp at hc; simp [hc]
 frame:=fun i h h' st hk=>⟨let ⟨o,e,r⟩:=st.1; ⟨o,hk it (by simp) o e,r⟩,hk a (by simp) o st.2⟩
 item:=fun i s Q E hi st hQ=>by
  have hi':i < (ord w a ep es).size:=by rw [ord_size]; exact hi
  have he:(ord w a ep es)[i]?=some (ord w a ep es)[i]:=Array.getElem?_eq_getElem hi'
  exact st_item st.1 st.2 W (Nat.le_of_lt hi) he fun h' st' sb=>hQ _ h' s.toks ⟨_,he,rfl⟩ ⟨st',(sb.2 a hne).trans st.2⟩ fun c o hc e=>(sb.2 c (by simpa using hc)).trans e
 done:=fun s Q E st hQ=>st_end hh st.1 st.2 W (ord_size ..) fun h' eb=>hQ h' s.toks fun c o hc e=>eb c o (by simpa using hc) e
 self:=fun i s Q E st hQ=>by
  refine wpAny_pyIter_slot st.1.ty F5.slot_iter (wpAny_call_entry F5.slot_iter st.1.ty F5.entry_iter ?_ (F5.args_iter _))
  show wpAny _ _ (ret (.ref it)) _ _ s
  exact wpAny_pure ⟨_,rfl,"set_iterator",_,st.1.ty,F5.slot_next.lookup,hQ⟩
theorem st_hint {r:Addr} {Q:Bool->Shared->Prop} (hT:s.TypeIs (.ref r) "set") (h:Q false s):wpAny (model prog w) A (Builtin.List.listLengthHint (.ref r)) Q E s:=by
 unfold Builtin.List.listLengthHint
 refine wpAny_bind (wpAny_specialOf hT PySem.F.slot_set_len.lookup ?_)
 generalize hid:("set.__len__" : String)=id0
 wp_delta
 rw [show splitId id0=some ("set","__len__") from by subst hid; decide +kernel]
 subst hid
 refine wpAny_bind (wpAny_isInstance (T:="set") (b:=true) hT (by rw [isSubtype_type]; kernel_rfl) (wpAny_ite_split (fun hab=>absurd hab (by decide)) fun _=>?_))
 exact wpAny_ite_split (fun _=>wpAny_bind (wpAny_typeOf hT (wpAny_pure h))) fun hab=>absurd (by decide +kernel) hab
theorem st_src (W:Wk w o es ep mk pl dm fg mv) :
  PySem.W.KdlSrc prog w "set" a a es.size (fun i v=>∃ e,(ord w a ep es)[i]?=some e/\v=e.2) (fun h=>h.get? a=some o) where
 type:=fun s hok=>⟨o,hok,W.ex.1⟩
 there:=fun h hok=>⟨Heap.lt_size hok,Heap.lt_size hok⟩
 keep:=fun h h' hok hk=>hk a (.inl rfl) o hok
 notList:=by decide
 notTuple:=by decide
 hint:=fun A E s Q hok hq=>st_hint ⟨o,hok,W.ex.1⟩ hq
 iter:=fun A s hh hok=>⟨_,_,(fun E Q hq=>st_begin hok W hq),st_walks hh (Nat.ne_of_lt (Heap.lt_size hok)) W,⟨⟨_,Heap.get?_push_size _ rfl,rfl,by unfold slt stAt; simp⟩,Heap.get?_push_of_some _ hok⟩⟩
end
end K2.S
end
section
namespace K2
open PySem PySem.Spec PyProof.Rows L2 PySem.W
section
variable {X:Cx} {a:Expr} {ta:TA2} {pos p pos2 p2:Pos}
noncomputable def t2k (t:T2):List Key:=[.inl t.a,.inl t.b]
theorem t2k_inj {x y:T2} (h:t2k x=t2k y):x=y:=by
 cases x; cases y
 unfold t2k at h
 injection h with h1 h2
 injection h2 with h2 _
 cases h1; cases h2; rfl
theorem map_t2 (l:List T2):l.map (Enc.enc:T2->D)=(l.map t2k).map tk:=by rw [List.map_map]; rfl
theorem ded_go:∀ (l acc:List (List Key)),acc.Nodup->(l.foldl S.stepd acc).Nodup/\∀ k,k∈l.foldl S.stepd acc↔k∈acc\/k∈l
 | [],acc,h=>⟨h,fun k=>⟨.inl,fun z=>z.elim id fun q=>by cases q⟩⟩
 | x :: l,acc,h=>by
  rw [List.foldl_cons]
  have hs:(S.stepd acc x).Nodup/\∀ k,k∈S.stepd acc x↔k∈acc\/k=x:=by
   unfold S.stepd
   by_cases c:S.hasK acc x=true
   ·rw [if_pos c]
    exact ⟨h,fun k=>⟨.inl,fun z=>z.elim id fun e=>e ▸ S.hasK_iff.mp c⟩⟩
   ·rw [if_neg c]
    refine ⟨?_,fun k=>by rw [List.mem_append,List.mem_singleton]⟩
    rw [List.nodup_append]
    refine ⟨h,by simp,fun u hu v hv e=>?_⟩
    rw [List.mem_singleton.mp hv] at e
    subst e
    exact c (S.hasK_iff.mpr hu)
  obtain ⟨h1,h2⟩:=ded_go l _ hs.1
  refine ⟨h1,fun k=>(h2 k).trans ?_⟩
  rw [hs.2,List.mem_cons,or_assoc]
theorem ks_t2:∀ (ks:List (List Key)),(∀ k∈ks,∃ t,k=t2k t)->∃ m:List T2,ks=m.map t2k
 | [],_=>⟨[],rfl⟩
 | k :: ks,h=>by
  obtain ⟨t,rfl⟩:=h k List.mem_cons_self
  obtain ⟨m,rfl⟩:=ks_t2 ks fun x hx=>h x (List.mem_cons_of_mem _ hx)
  exact ⟨t :: m,rfl⟩
theorem reps_at {K:PySem.W.Frag} {H:Hp}:∀ (vs:List V) (zs:List D),vs.length=zs.length->(∀ (i:Nat) (v:V) (z:D),vs[i]?=some v->zs[i]?=some z->RepD K H v z)->RepDs K H vs zs
 | [],[],_,_=>.nil
 | [],_ :: _,h,_=>by cases h
 | _ :: _,[],h,_=>by cases h
 | v :: vs,z :: zs,h,hr=>.cons (hr 0 v z rfl rfl) (reps_at vs zs (by simpa using h) fun i u y h1 h2=>hr (i+1) u y h1 h2)
noncomputable def vOf (v:Value):V:=match v with
 | .ref b=>.ref b
 | _=>.non
theorem pe2_sortedsetT (hc:X.calm=true) (hu:X.A.units+64 < cLine) (hg:Gl X "sorted") (hm:X.mg "sorted" = none) (hg2:Gl X "set") (hm2:X.mg "set" = none) (ha:PA2 X [a] ta) (hs:autoParam (starEach [a] X.env=(false,eval a X.env) :: starEach [] X.env) Ar._auto_1)
  (hs2:autoParam (starEach [.Call (.Name "set" p2) [a] [] pos2] X.env=(false,eval (.Call (.Name "set" p2) [a] [] pos2) X.env) :: starEach [] X.env) Ar._auto_1) (hpl:autoParam ((backTo pos (starEach [] X.env)).any (·.1)=false) Ar._auto_1) (hpl2:autoParam ((backTo pos2 (starEach [] X.env)).any (·.1)=false) Ar._auto_1) :
  PE2 X (.Call (.Name "sorted" p) [.Call (.Name "set" p2) [a] [] pos2] [] pos) (dCB cSortedST ta):=by
 intro E pins s σ H τ G Q hE I h
 refine wpAny_Call_Name_kw (ld_blt I.inv hg hm bt_sorted (PyProof.Rows.callWith_builtin1 ?_ hs2 hpl))
 rw [hs2]
 show wpAny _ _ (spliced ((false,eval (.Call (.Name "set" p2) [a] [] pos2) X.env) :: backTo pos (starEach [] X.env))) _ _ s
 refine Calls.spliced_cons (wpAny_Call_Name_kw (ld_blt I.inv hg2 hm2 bt_setT (PyProof.Rows.callWith_type1 (thnA ha pos2 hE I h fun vs H1 ds G1 us s1 I1 m1 r1 rd1 q1=>?_) hs hpl2)))
 unfold cSortedST at q1
 split at q1
 ·rename_i x
  obtain ⟨tl,hlo,⟨hpos,hlen⟩,q⟩:=q1
  obtain ⟨w1,rfl,rw1⟩:=rd1.one
  obtain ⟨u,rfl,ru⟩:=r1.one
  obtain ⟨l,vs,its,rfl,rv,rs,hL,hz⟩:=addL_lists I1.inv I1.ab ru rw1 hlo
  rw [map_t2] at rs
  have kll:(tl.map t2k).length=tl.length:=List.length_map _
  have klt:∀ k∈tl.map t2k,∃ t∈tl,k=t2k t:=fun k hk=>by obtain ⟨t,ht,e⟩:=List.mem_map.mp hk; exact ⟨t,ht,e.symm⟩
  have kin:∀ t,t2k t∈tl.map t2k↔t∈tl:=fun t=>⟨fun h=>by obtain ⟨t',h1,e⟩:=List.mem_map.mp h; rw [← t2k_inj e]; exact h1,List.mem_map_of_mem⟩
  generalize tl.map t2k=kl at rs kll klt kin
  have li:its.length=kl.length:=by rw [← rv.length,rs.length,List.length_map]
  have at_:∀ (i:Nat) (v:Value),its.toArray[i]?=some v->∃ c,v=.ref c/\(S.TK X.prog X.w).is s1.heap (kl.getD i []) c:=fun i v hv=>by
   have hv:its[i]?=some v:=by rw [List.getElem?_toArray] at hv; exact hv
   have hi:i < kl.length:=by have:=(List.getElem?_eq_some_iff.mp hv).1; lia
   have hd:(kl.map tk)[i]?=some (tk (kl.getD i [])):=by rw [List.getElem?_map,List.getD_eq_getElem?_getD,List.getElem?_eq_getElem hi]; rfl
   obtain ⟨vv,h1,h2⟩:=rs.get hd
   obtain ⟨uu,h3,h4⟩:=rv.get h1
   rw [hv] at h3
   cases h3
   obtain ⟨c,rfl,hb⟩:=rep_keyT h2
   cases h4
   exact ⟨c,rfl,key_of I1.inv.hok hb⟩
  refine S.stcall (I1.inv.ok.hd hc) hu hL (fun i=>kl.getD i []) (by rw [List.size_toArray,li]; lia) at_ fun h' tk' ks S' hp kp=>?_
  rw [(show backTo pos (starEach [] X.env)=[] from rfl)]
  refine wpAny_pure ?_
  obtain ⟨o,es,ep,t,ho,hex,hd,O,tf,hld,hpn,M⟩:=S'
  have hp:ks.Perm (kl.foldl S.stepd []):=by
   rw [List.size_toArray,li,map_getD_range] at hp; exact hp
  obtain ⟨dn,dm⟩:=ded_go kl [] List.nodup_nil
  have kin2:∀ k,k∈ks↔k∈kl:=fun k=>(hp.mem_iff.trans (dm k)).trans ⟨fun z=>z.elim (fun q=>by cases q) id,.inr⟩
  have pn:t.plain=true:=hpn fun k hk=>by
   obtain ⟨y,_,rfl⟩:=klt k ((kin2 k).mp hk)
   intro x hx
   rcases List.mem_cons.mp hx with e | hx
   ·exact ⟨_,e⟩
   ·exact ⟨_,List.mem_singleton.mp hx⟩
  have hfits:t.fits es.size=true:=by unfold SetTable.fits SetTable.fill; rw [O.sz,O.dm]; have:=O.few; have:=O.sz; simp; lia
  obtain ⟨mk,pl,dmm,fg,ld,mv,pln⟩:=t
  have e1:ld=!S.byX X.w:=hld
  have e2:pln=true:=pn
  subst e1 e2
  have W:S.Wk X.w o es ep mk pl dmm fg mv:=⟨hex,hd,hfits,O.sz,O.up⟩
  obtain ⟨ks2,M2,pk2⟩:=M.perm (es':=S.ord X.w s1.heap.objs.size ep es) (S.ord_perm ..)
  obtain ⟨m,rfl⟩:=ks_t2 ks2 fun k hk=>by
   obtain ⟨y,_,e⟩:=klt k ((kin2 k).mp (pk2.mem_iff.mp hk))
   exact ⟨y,e⟩
  have nd2:(m.map t2k).Nodup:=pk2.nodup_iff.mpr (hp.nodup_iff.mpr dn)
  have nd:m.Nodup:=by
   rw [List.nodup_iff_pairwise_ne,List.pairwise_map] at nd2
   exact List.nodup_iff_pairwise_ne.mpr (nd2.imp fun {x y} h e=>h (by rw [e]))
  have mm:∀ y,y∈m↔y∈tl:=fun y=>by
   rw [← kin y,← kin2,← pk2.mem_iff]
   exact ⟨List.mem_map_of_mem,fun h=>by obtain ⟨z,hz,e⟩:=List.mem_map.mp h; rw [← t2k_inj e]; exact hz⟩
  have kp':∀ b u,s1.heap.get? b=some u->h'.get? b=some u:=fun b u e=>kp b u (Heap.lt_size e) e
  have I3:=I1.inv.kept (t':=tk') kp'
  have I4:=I1.mv I3 (.refl I1.ab)
  have ml:m.length=es.size:=by have:=M2.1; rw [List.length_map,S.ord_size] at this; exact this
  have at2:∀ (i:Nat) (e:Int×Value) (y:T2),(S.ord X.w s1.heap.objs.size ep es)[i]?=some e->m[i]?=some y->∃ b,e.2=.ref b/\RepD X.K H1 (.ref b) (Enc.enc y):=fun i e y he hy=>by
   obtain ⟨k,b,q1,q2,q3,_,_,q5⟩:=M2.2 i e he
   have ek:k=t2k y:=by
    rw [List.getElem?_map,hy] at q1
    exact (Option.some.inj q1).symm
   subst ek
   refine ⟨b,q2,?_⟩
   obtain ⟨j,hj,ej⟩:=List.getElem_of_mem q5
   have hj:j < its.length:=hj
   have hj1:its[j]?=some (.ref b):=by rw [List.getElem?_eq_getElem hj]; exact congrArg some ej
   have hj2:j < kl.length:=by lia
   have hdj:(kl.map tk)[j]?=some (tk (kl.getD j [])):=by rw [List.getElem?_map,List.getD_eq_getElem?_getD,List.getElem?_eq_getElem hj2]; rfl
   obtain ⟨vv,h1,h2⟩:=rs.get hdj
   obtain ⟨uu,h3,h4⟩:=rv.get h1
   rw [hj1] at h3
   cases h3
   obtain ⟨c,rfl,hb⟩:=rep_keyT h2
   cases h4
   have i1:=S.is_keep (key_of I1.inv.hok hb) fun o e=>kp' _ o e
   rw [S.is_fun i1 q3] at h2
   exact h2
  refine wpAny_mono (sorted_src hc hu I4.inv I4.ab (S.st_src W) ho (vs:=(S.ord X.w s1.heap.objs.size ep es).toList.map fun e=>vOf e.2) (zs:=m.map Enc.enc) (by rw [List.length_map,Array.length_toList,S.ord_size]) (fun i u hi hP=>?_) (reps_at _ _ ?_ fun i v z hv hz'=>?_) (EncOrd.shp T2) (fun z hz'=>?_) (by decide) ?_ ?_) (fun r s' ⟨v,H2,d,G2,I2,m2,r2,rd2,q2⟩=>⟨v,H2,d,G2,I2,m1.trans m2,r2,rd2,q2⟩) fun _ _ z=>z
  ·obtain ⟨e,he,rfl⟩:=hP
   have hi2:i < m.length:=by rw [List.length_map,Array.length_toList,S.ord_size] at hi; lia
   obtain ⟨b,e1,_⟩:=at2 i e m[i] he (List.getElem?_eq_getElem hi2)
   have:(S.ord X.w s1.heap.objs.size ep es).toList[i]'(by rw [List.length_map] at hi; exact hi)=e:=by
    rw [← Array.getElem?_toList] at he
    exact (List.getElem?_eq_some_iff.mp he).2
   rw [List.getElem_map,this,e1]
   rfl
  ·rw [List.length_map,List.length_map,Array.length_toList,S.ord_size,ml]
  ·rw [List.getElem?_map] at hv hz'
   obtain ⟨e,he,rfl⟩:=Option.map_eq_some_iff.mp hv
   obtain ⟨y,hy,rfl⟩:=Option.map_eq_some_iff.mp hz'
   rw [Array.getElem?_toList] at he
   obtain ⟨b,e1,e2⟩:=at2 i e y he hy
   rw [e1]
   exact e2
  ·obtain ⟨y,_,rfl⟩:=List.mem_map.mp hz'
   exact EncOrd.hass y
  ·rw [List.length_map]
   exact Nat.lt_of_le_of_lt (List.Nodup.length_le_of_subset nd fun y hy=>(mm y).mp hy) hlen
  ·rw [sortD_enc]
   exact q m nd mm
 ·exact q1.elim
end
end K2
end
section
namespace L2
open PySem PySem.Spec PyProof.Rows
section
variable {prog:Program} {w:World} {A:Around} {E:Value->Shared->Prop} {s:Shared}
theorem meets_valuesE (d:Addr) (ns:(d == sysModules)=false):MeetsIn prog w (Builtin.«dict.values» ⟨[.ref d],[]⟩) (fun _ R s=>s.TypeIs (.ref d) "dict"/\R (.ok (.ret (.ref s.heap.objs.size))) { s with heap:=s.heap.push { cls:=.type "dict_values",data:=.fields #[.ref d] } }):=by
 refine .of_wp ?_
 rintro A R s ⟨ty,h⟩
 refine wpAny_bind (m:=Builtin.Dict.noArgs _ _) ?_
 unfold Builtin.Dict.noArgs
 refine wpAny_bind (wpAny_notOrdered_dict ty (show wpAny _ _ (pure d) _ _ s from wpAny_pure ?_))
 show wpAny _ _ (Builtin.Dict.showsAll d >>= _) _ _ s
 unfold Builtin.Dict.showsAll
 rw [if_neg (fun z=>by rw [ns] at z; cases z)]
 exact wpAny_bind (wpAny_pure (wpAny_bind (wpAny_newObj_type (wpAny_pure ⟨_,rfl,h⟩))))
variable {v d it:Addr} {od:Obj} {es:Array DictEntry} {ep i:Nat}
theorem vals_begin {Q:Value->Shared->Prop} (hv:s.heap.IsValuesView v d) (hod:s.heap.get? d=some od) (dd:od.data=.dict es ep)
  (hQ:Q (.ref s.heap.objs.size) { s with heap:=s.heap.push { cls:=.type "dict_valueiterator",data:=.fields #[.ref d,.int 0 0,.int es.size 0,.int ep 0] } }):wpAny (model prog w) A (pyIter (.ref v)) Q E s:=by
 obtain ⟨ov,hov,hcv,hdv⟩:=id hv
 refine wpAny_pyIter_slot hv.typeIs F.slot_dict_values_iter (wpAny_call_entry F.slot_dict_values_iter hv.typeIs F.entry_dict_values_iter ?_ (F.args_dict_values_iter_1 _))
 unfold Builtin.«dict_values.__iter__» Builtin.Dict_items.dictOf
 refine wpAny_bind (wpAny_pure (wpAny_bind (wpAny_bind (wpAny_field hov hdv (x:=.ref d) rfl (wpAny_pure (wpAny_bind ?_))))))
 unfold Builtin.Dict_items.newIterator
 refine wpAny_bind (wpAny_dictEntries hod dd (wpAny_bind (wpAny_dictEpoch hod dd ?_)))
 have own1:Builtin.Dict_items.ownsTuple "dict_valueiterator" = false:=by decide
 simp only [own1,Bool.false_eq_true,if_false]
 exact wpAny_newObj_type (wpAny_pure ⟨_,rfl,"dict_valueiterator",_,⟨_,Heap.get?_push_size _ rfl,rfl⟩,F.slot_dict_valueiterator_next.lookup,by simpa [rawInt] using hQ⟩)
theorem vals_item {Q:Option Value->Shared->Prop} (hit:s.heap.IsValIter it d i es.size ep) (hod:s.heap.get? d=some od) (dd:od.data=.dict es ep) (hi:i < es.size)
  (hQ:∀ h',h'.IsValIter it d (i+1) es.size ep->Heap.SameBut it s.heap h'->Q (some es[i].val) { s with heap:=h' }):wpAny (model prog w) A (pyNext (.ref it)) Q E s:=by
 obtain ⟨o,ho,hc,hd⟩:=id hit
 have ty:=hit.typeIs
 unfold pyNext
 refine wpAny_bind (wpAny_attempt (wpAny_callSpecial?_slot (name:=Str.ofString "__next__") ty F.slot_dict_valueiterator_next (wpAny_call_entry F.slot_dict_valueiterator_next ty F.entry_dict_valueiterator_next ?_ (F.args_dict_valueiterator_next_1 _))))
 refine wpAny_bind (wpAny_pure (wpAny_bind (wpAny_bind ?_)))
 first | refine wpAny_bind (wpAny_typeNameOfWhole_valiter ty (wpAny_pure (wpAny_bind (wpAny_fieldsOf ho hd ?_)))) | refine wpAny_bind (wpAny_typeNameOf_valiter ty (wpAny_pure (wpAny_bind (wpAny_fieldsOf ho hd ?_))))
 have own1:Builtin.Dict_items.ownsTuple "dict_valueiterator" = false:=by decide
 rw [own1]
 show wpAny _ _ (if (Value.ref d == Value.none)=true then _ else _) _ _ s
 rw [if_neg (fun z=>by cases z)]
 refine wpAny_bind (wpAny_pure (wpAny_bind (wpAny_dictEntries hod dd ?_)))
 rw [if_neg (by simp)]
 refine wpAny_bind (wpAny_pure (wpAny_bind (wpAny_dictEpoch hod dd ?_)))
 rw [if_neg (by simp)]
 refine wpAny_pure ?_
 dsimp only
 rw [if_neg (show ¬ ((i:Int) < 0) from Int.not_lt.mpr (Int.natCast_nonneg i)),Int.toNat_natCast,Array.getElem?_eq_getElem hi]
 dsimp only
 refine wpAny_bind ?_
 first | refine wpAny_bind (wpAny_typeNameOfWhole_valiter ty (wpAny_pure (wpAny_bind (wpAny_isOneOf_valiter ty ?_)))) | refine wpAny_bind (wpAny_typeNameOf_valiter ty (wpAny_pure (wpAny_bind (wpAny_isOneOf_valiter ty ?_))))
 show wpAny _ _ (setField (.ref it) 1 (rawInt ((i:Int)+1)) >>= _) _ _ s
 refine wpAny_bind (wpAny_setField ho hd (by simp) ?_)
 have st:(s.heap.update it (Obj.mapFields (·.setIfInBounds 1 (rawInt ((i:Int)+1))))).IsValIter it d (i+1) es.size ep:=⟨_,Heap.get?_update_self _ ho (Obj.isFreed_of_fields (Obj.data_mapFields hd _)),(Obj.cls_mapFields ..).trans hc,by rw [Obj.data_mapFields hd]; simp [rawInt]⟩
 have sb:Heap.SameBut it s.heap (s.heap.update it (Obj.mapFields (·.setIfInBounds 1 (rawInt ((i:Int)+1))))):=Heap.SameBut.update ..
 generalize s.heap.update it (Obj.mapFields (·.setIfInBounds 1 (rawInt ((i:Int)+1))))=h1 at st sb
 have ty1:Shared.TypeIs { s with heap:=h1 } (.ref it) "dict_valueiterator":=st.typeIs (s:={ s with heap:=h1 })
 refine wpAny_bind (wpAny_holding (wpAny_bind (wpAny_isOneOf_valiter ty1 (wpAny_bind (wpAny_isOneOf_valiter ty1 ?_)))))
 show wpAny _ _ (pure es[i].val) _ _ _
 exact wpAny_pure (wpAny_pure ⟨_,rfl,wpAny_pure (hQ _ st sb)⟩)
theorem vals_end {Q:Option Value->Shared->Prop} (calm:A.handled=none) (hit:s.heap.IsValIter it d i es.size ep) (hod:s.heap.get? d=some od) (dd:od.data=.dict es ep) (hi:es.size<=i)
  (hQ:∀ h',Heap.ExtBut it s.heap h'->Q none { s with heap:=h' }):wpAny (model prog w) A (pyNext (.ref it)) Q E s:=by
 obtain ⟨o,ho,hc,hd⟩:=id hit
 have ty:=hit.typeIs
 unfold pyNext
 refine wpAny_bind (wpAny_attempt (wpAny_callSpecial?_slot (name:=Str.ofString "__next__") ty F.slot_dict_valueiterator_next (wpAny_call_entry F.slot_dict_valueiterator_next ty F.entry_dict_valueiterator_next ?_ (F.args_dict_valueiterator_next_1 _))))
 refine wpAny_bind (wpAny_pure (wpAny_bind (wpAny_bind ?_)))
 first | refine wpAny_bind (wpAny_typeNameOfWhole_valiter ty (wpAny_pure (wpAny_bind (wpAny_fieldsOf ho hd ?_)))) | refine wpAny_bind (wpAny_typeNameOf_valiter ty (wpAny_pure (wpAny_bind (wpAny_fieldsOf ho hd ?_))))
 have own1:Builtin.Dict_items.ownsTuple "dict_valueiterator" = false:=by decide
 rw [own1]
 show wpAny _ _ (if (Value.ref d == Value.none)=true then _ else _) _ _ s
 rw [if_neg (fun z=>by cases z)]
 refine wpAny_bind (wpAny_pure (wpAny_bind (wpAny_dictEntries hod dd ?_)))
 rw [if_neg (by simp)]
 refine wpAny_bind (wpAny_pure (wpAny_bind (wpAny_dictEpoch hod dd ?_)))
 rw [if_neg (by simp)]
 refine wpAny_pure ?_
 dsimp only
 rw [if_neg (show ¬ ((i:Int) < 0) from Int.not_lt.mpr (Int.natCast_nonneg i)),Int.toNat_natCast,Array.getElem?_eq_none hi]
 dsimp only
 refine wpAny_bind ?_
 first | refine wpAny_bind (wpAny_typeNameOfWhole_valiter ty (wpAny_pure (?_))) | refine wpAny_bind (wpAny_typeNameOf_valiter ty (wpAny_pure (?_)))
 show wpAny _ _ (setField (.ref it) 0 .none >>= _) _ _ s
 refine wpAny_bind (wpAny_setField ho hd (by simp) (show wpAny _ _ (newExc (.type "StopIteration") [] >>= _) _ _ _ from wpAny_bind ?_))
 simp only [newExc,newTuple]
 refine wpAny_bind (wpAny_newObj_type (wpAny_bind (m:=firstArgMember _ _) (wpAny_of_eq (a:=Value.none) (by first | rfl | (simp only [firstArgMember]; rfl)) (wpAny_newObj_type ?_ (by size_fits)))) (by size_fits))
 simp only [raiseNew]
 refine wpAny_bind (wpAny_handled ?_)
 rw [show A.in1.handled=none from calm]
 refine wpAny_bind (wpAny_pure (wpAny_throw ?_))
 refine wpAny_bind (wpAny_isInstance (T:="StopIteration") (b:=true) ⟨_,Heap.get?_push_size _ rfl,rfl⟩ isSubtype_stop (?_))
 exact wpAny_pure (hQ _ (((Heap.SameBut.update ..).extBut.push _).push _))
theorem entry_vit:entryFor table "dict_valueiterator.__iter__" = some Builtin.«dict_keyiterator.__iter__»:=entryFor_alias (id':="dict_keyiterator.__iter__") (by kernel_rfl) rfl (by decide +kernel) (by kernel_rfl)
theorem walks_vals (hh:A.handled=none) (hne:d≠it) (dd:od.data=.dict es ep) :
  PySem.Walks prog w A it [it,d] [it] es.size (fun i v=>∃ h:i < es.size,v=es[i].val) (fun i h=>h.IsValIter it d i es.size ep/\h.get? d=some od) where
 sub:=fun b hb=>by simp at hb; simp [hb]
 frame:=fun i h h' st hk=>⟨let ⟨o,e,r⟩:=st.1; ⟨o,hk it (by simp) o e,r⟩,hk d (by simp) od st.2⟩
 item:=fun i s Q E hi st hQ=>vals_item st.1 st.2 dd hi fun h' st' sb=>hQ _ h' s.toks ⟨hi,rfl⟩ ⟨st',(sb.2 d hne).trans st.2⟩ fun b o hb e=>(sb.2 b (by simpa using hb)).trans e
 done:=fun s Q E st hQ=>vals_end hh st.1 st.2 dd (Nat.le_refl _) fun h' eb=>hQ h' s.toks fun b o hb e=>eb b o (by simpa using hb) e
 self:=fun i s Q E st hQ=>by
  refine wpAny_pyIter_slot st.1.typeIs F.slot_dict_valueiterator_iter (wpAny_call_entry F.slot_dict_valueiterator_iter st.1.typeIs entry_vit ?_ (F.args_dict_valueiterator_iter_1 _))
  show wpAny _ _ (ret (.ref it)) _ _ s
  exact wpAny_pure ⟨_,rfl,"dict_valueiterator",_,st.1.typeIs,F.slot_dict_valueiterator_next.lookup,hQ⟩
theorem src_vals (dd:od.data=.dict es ep):PySem.W.KdlSrc prog w "dict_values" v d es.size (fun i v=>∃ h:i < es.size,v=es[i].val) (fun h=>h.IsValuesView v d/\h.get? d=some od) where
 type:=fun s hok=>hok.1.typeIs
 there:=fun h hok=>⟨let ⟨_,ho,_⟩:=hok.1; Heap.lt_size ho,Heap.lt_size hok.2⟩
 keep:=fun h h' hok hk=>⟨let ⟨o,ho,x⟩:=hok.1; ⟨o,hk v (.inl rfl) o ho,x⟩,hk d (.inr rfl) od hok.2⟩
 notList:=by decide
 notTuple:=by decide
 hint:=fun A E s Q hok hq=>PySem.W.kdl_hint_values hok.1.typeIs hq
 iter:=fun A s hh hok=>⟨_,_,(fun E Q hq=>vals_begin hok.1 hok.2 dd hq),walks_vals hh (Nat.ne_of_lt (Heap.lt_size hok.2)) dd,⟨⟨_,Heap.get?_push_size _ rfl,rfl,rfl⟩,Heap.get?_push_of_some _ hok.2⟩⟩
end
end L2
namespace K2
open PySem PySem.Spec PyProof.Rows L2 PySem.W
section
variable {X:Cx} {o:Expr} {to:TE2} {apos cpos pos p:Pos}
theorem rod_T {pins:List (Addr×Obj)} {σ:L2.St} {H:Hp} {s:Shared} {x:V} {l:List (T2×T2)} (I:Inv X pins σ H s) (r:RepD X.K H x (.rod (encKV l))) :
  ∃ (a:Addr) (od:Obj) (es:Array DictEntry) (ep:Nat) (ks vs:List V),x=.ref a/\(a == sysModules)=false/\s.heap.get? a=some od/\od.ExactDict/\od.data=.dict es ep/\l.length=es.size /\
   RepDs X.K H ks (l.map fun q=>Enc.enc q.1)/\RepDs X.K H vs (l.map fun q=>Enc.enc q.2)/\∀ i (h:i < es.size),∃ k v,ks[i]?=some k/\vs[i]?=some v/\RelV k es[i].key/\RelV v es[i].val:=by
 have k1:(encKV l).map (·.1)=l.map fun q=>Enc.enc q.1:=by unfold encKV; rw [List.map_map]; rfl
 have k2:(encKV l).map (·.2)=l.map fun q=>Enc.enc q.2:=by unfold encKV; rw [List.map_map]; rfl
 have k3:(encKV l).length=l.length:=by unfold encKV; rw [List.length_map]
 have k4:∀ q∈encKV l,keyOkT q.1=true:=fun q hq=>by unfold encKV at hq; obtain ⟨y,_,rfl⟩:=List.mem_map.mp hq; rfl
 rw [← k1,← k2,← k3]
 generalize encKV l=kvs at r k4
 cases r with
 | rodK hq rs =>
  rename_i a o kv
  cases rs with
  | nil =>
   obtain ⟨z,ns,vs,rel,ob,es,ep,ho,ex,dd,hko,hp,nd⟩:=(I.hok a _ hq).2
   have l1:es.size=vs.length:=by simpa using hp.length
   have l2:([]:List (Key×V)).length=vs.length:=Paired.length rel
   have l3:es.size=0:=by rw [l1,← l2]; rfl
   exact ⟨a,ob,es,ep,[],[],rfl,ns,ho,ex,dd,by rw [l3]; rfl,.nil,.nil,fun i h=>by lia⟩
  | @cons j _ _ _ _ _ _ =>
   have:=k4 _ List.mem_cons_self
   cases j <;> simp [keyD,keyOkT] at this
 | rodT hq rs =>
  rename_i a o kv
  obtain ⟨z,ns,xs,rel,ob,es,ep,ho,ex,dd,hl,nd⟩:=(I.hok a _ hq).2
  have l1:=congrArg List.length hl
  rw [List.length_map,Array.length_toList] at l1
  have l2:kv.length=xs.length:=Paired.length rel
  have l3:=rs.len
  refine ⟨a,ob,es,ep,xs.map fun q=>V.ref q.2.1,kv.map (·.2),rfl,ns,ho,ex,dd,by lia,?_,?_,fun i hi=>?_⟩
  ·rw [rs.keys]
   have:∀ (kv:List (List Key×V)) (xs:List (List Key×Addr×Value)),KT H kv xs->RepDs X.K H (xs.map fun q=>V.ref q.2.1) (kv.map fun p=>D.tup (p.1.map keyD)):=by
    intro kv xs r
    induction r with
    | nil=>exact .nil
    | cons h _ ih=>exact .cons (.tup h.2.1 (reps_keyD _)) ih
   exact this kv xs rel
  ·refine reps_at _ _ (by rw [List.length_map,List.length_map,l3]) fun i v z hv hz=>?_
   rw [List.getElem?_map] at hv hz
   obtain ⟨q,hq1,rfl⟩:=Option.map_eq_some_iff.mp hz
   obtain ⟨p,hp1,_,rp⟩:=rs.item hq1
   rw [hp1] at hv
   cases hv
   exact rp
  ·have i2:i < xs.length:=by lia
   have i3:i < kv.length:=by lia
   have ee:es[i]=entryOfKey (tupleKind (mixKind X.prog X.w)) xs[i]:=by
    have:=congrArg (fun l=>l[i]?) hl
    simp only [List.getElem?_map,List.getElem?_eq_getElem i2] at this
    simpa [hi] using this
   refine ⟨_,_,by rw [List.getElem?_map,List.getElem?_eq_getElem i2]; rfl,by rw [List.getElem?_map,List.getElem?_eq_getElem i3]; rfl,?_⟩
   rw [ee]
   exact ⟨rfl,(paired_at rel i i3 i2).2.2⟩
theorem call2_listR (hc:X.calm=true):CallR2 X (.type "list") cListR:=by
 intro pins s σ H G xs ds us Q I ab rx rd q
 unfold cListR at q
 split at q
 ·obtain ⟨l,rfl,hn,q⟩:=q
  obtain ⟨w1,rfl,rw1⟩:=rd.one
  obtain ⟨u,rfl,ru⟩:=rx.one
  obtain ⟨a,od,es,ep,ks,vs,rfl,ns,ho,ex,dd,hl,rk,rv,hat⟩:=rod_T I rw1
  cases ru
  have kl:=rk.length
  rw [List.length_map] at kl
  refine list_src hc I ab (src_keys ns ex dd) ho (vs:=ks) (zs:=l.map fun q=>Enc.enc q.1) (by lia) (fun i u hi hP=>?_) rk (by lia) q
  obtain ⟨hi2,rfl⟩:=hP
  obtain ⟨k,v,h1,_,h3,_⟩:=hat i hi2
  rw [List.getElem?_eq_getElem hi] at h1
  cases h1
  exact h3
 ·exact q.elim
theorem bt_listV:bootBuiltins "list" = some (.type "list"):=by first | rfl | decide +kernel
theorem pe2_lvals (hc:X.calm=true) (hg:Gl X "list") (hm:X.mg "list" = none) (ho:PE2 X o to) (hbase:autoParam (attributeBase o "values" X.env (eval o X.env)=eval o X.env) Ar._auto_1) (hline:autoParam ((apos.endLine == cpos.line)=true) Ar._auto_1)
  (hs:autoParam (starEach [.Call (.Attribute o "values" apos) [] [] cpos] X.env=(false,eval (.Call (.Attribute o "values" apos) [] [] cpos) X.env) :: starEach [] X.env) Ar._auto_1) (hpl:autoParam ((backTo pos (starEach [] X.env)).any (·.1)=false) Ar._auto_1) :
  PE2 X (.Call (.Name "list" p) [.Call (.Attribute o "values" apos) [] [] cpos] [] pos) (dLVals to):=by
 intro E pins s σ H τ G Q hE I h
 refine wpAny_Call_Name_kw (ld_blt I.inv hg hm bt_listV (PyProof.Rows.callWith_type1 ?_ hs hpl))
 rw [hs]
 show wpAny _ _ (spliced ((false,eval (.Call (.Attribute o "values" apos) [] [] cpos) X.env) :: backTo pos (starEach [] X.env))) _ _ s
 refine Calls.spliced_cons ?_
 refine wpAny_Call_method0_late hbase hline (thnE ho hE I h fun x H1 d G1 v s1 I1 m1 r1 rd1 q1=>?_)
 obtain ⟨l,rfl,hn,q⟩:=q1
 obtain ⟨t1,t2⟩:=ty2_dict pins s1 σ H1 G1 x _ v I1.inv I1.ab r1 rd1 trivial
 obtain ⟨a,od,es,ep,ks,vs,rfl,ns,hod,ex,dd,hl,rk,rv,hat⟩:=rod_T I1.inv rd1
 cases r1
 refine ⟨"dict","dict.values",PySem.F.plainAttrs_dict,PySem.F.slot_dict_values,PySem.F.type_dict_values,t1,t2,Calls.callWith_builtin rfl (PySem.evalArgs_none ?_)⟩
 refine call_meetsIn PySem.F.slot_dict_values t1 PySem.F.entry_dict_values (PySem.F.args_dict_values_1 _) (meets_valuesE a ns) ⟨t1,?_⟩
 have I2:Inv X pins σ H1 { s1 with heap:=s1.heap.push { cls:=.type "dict_values",data:=.fields #[.ref a] } }:=I1.inv.kept (t':=s1.toks) fun b o e=>Heap.get?_push_of_some _ e
 rw [(show backTo pos (starEach [] X.env)=[] from rfl)]
 refine wpAny_pure ?_
 have vl:=rv.length
 rw [List.length_map] at vl
 refine wpAny_mono (list_src (T:="dict_values") hc I2 I1.ab (src_vals dd) ⟨⟨_,Heap.get?_push_size _ rfl,rfl,rfl⟩,Heap.get?_push_of_some _ hod⟩ (vs:=vs) (zs:=l.map fun q=>Enc.enc q.2) (by lia) (fun i u hi hP=>?_) rv (by lia) q) (fun r s' ⟨v,H2,d,G2,I2,m2,r2,rd2,q2⟩=>⟨v,H2,d,G2,I2,m1.trans m2,r2,rd2,q2⟩) fun _ _ z=>z
 obtain ⟨hi2,rfl⟩:=hP
 obtain ⟨k,v,_,h2,_,h4⟩:=hat i hi2
 rw [List.getElem?_eq_getElem hi] at h2
 cases h2
 exact h4
end
end K2
end
section
namespace L2
open PySem PySem.Spec PyProof.Rows
section
variable {prog:Program} {w:World} {A:Around} {E:Value->Shared->Prop} {s:Shared}
noncomputable abbrev hkT (prog:Program) (w:World) (k:List Key):Int:=(tupleKind (mixKind prog w)).hash k
theorem set_newH {d a:Addr} {xs:List (List Key×Addr×Value)} {k:List Key} {v:Value} {Q:Unit->Shared->Prop} (hu:A.units < cLine) (hkey:(tupleKind (mixKind prog w)).is s.heap k a) (hm:s.heap.DictOfH (tupleKind (mixKind prog w)) d xs) (new:k∉xs.map (·.1)) (hz:xs.length<=sizeLine)
  (hQ:∀ h',h'.DictOfH (tupleKind (mixKind prog w)) d (xs++[(k,a,v)])->Heap.SameBut d s.heap h'->Q () { s with heap:=h' }):wpAny (model prog w) A (dictSetHashed d (.ref a) (hkT prog w k) v) Q E s:=by
 obtain ⟨o,es,ep,ho,hc,hd,he,his,hn⟩:=hm
 have e0:=size_of_entries he
 unfold dictSetHashed
 try with_reducible refine wpAny_holding ?_
 refine wpAny_bind (wpAny_dictFind_heap hu hkey ho hd he his hn (fun hno=>?_) fun j p hj=>absurd (List.mem_map_of_mem (List.mem_of_getElem? hj)) new)
 refine wpAny_bind (wpAny_rule (wpAny_updateDictKeys (hz:=by lia) ho hd (hQ _ ⟨_,_,ep+1,Heap.get?_update_self _ ho (Obj.isFreed_of_dict (Obj.data_mapDictKeys hd _)),hc.mapDictKeys _,Obj.data_mapDictKeys hd _,by simp [he,entryOfKey,hkT],fun x hx=>?_,?_⟩ (Heap.SameBut.update ..))))
 ·rcases List.mem_append.mp hx with hx | hx
  ·exact (tupleKind (mixKind prog w)).keeps (his x hx) ho hd (Heap.SameBut.update ..)
  ·rw [List.mem_singleton.mp hx]
   exact (tupleKind (mixKind prog w)).keeps hkey ho hd (Heap.SameBut.update ..)
 ·rw [List.map_append,List.nodup_append]
  refine ⟨hn,by simp,fun x hx y hy e=>?_⟩
  rw [List.map_cons,List.map_nil,List.mem_singleton] at hy
  have hy:y=k:=hy
  exact new (by rw [← hy,← e]; exact hx)
theorem quiet_tup {a:Addr} {Q:Bool->Shared->Prop} (ty:s.TypeIs (.ref a) "tuple") (h:Q false s):wpAny (model prog w) A (Builtin.Dict.quietEq (.ref a)) Q E s:=by
 unfold Builtin.Dict.quietEq
 refine wpAny_bind (wpAny_specialOf ty F.slot_tuple_eq.lookup (wpAny_pure ?_))
 exact h
theorem filt_one {es:List DictEntry} (nd:(es.map (·.hash)).Nodup) (e:DictEntry):(es.filter fun x=>x.hash == e.hash).length<=1:=by
 induction es with
 | nil=>exact Nat.zero_le _
 | cons x es ih =>
  rw [List.map_cons,List.nodup_cons] at nd
  by_cases c:x.hash=e.hash
  ·rw [List.filter_cons_of_pos (by simp [c])]
   have:es.filter (fun y=>y.hash == e.hash)=[]:=by
    rw [List.filter_eq_nil_iff]
    intro y hy z
    have z:y.hash=e.hash:=by simpa using z
    exact nd.1 (by rw [c,← z]; exact List.mem_map_of_mem hy)
   rw [this]; exact Nat.le_refl _
  ·rw [List.filter_cons_of_neg (by simp [c])]; exact ih nd.2
theorem empty_entries {id:String} {o:Addr} {oo:Obj} {es:Array DictEntry} {ep:Nat} {Q:Array DictEntry->Shared->Prop} (ho:s.heap.get? o=some oo) (hd:oo.data=.dict es ep) (ht:∀ e∈es.toList,∃ a,e.key=.ref a/\s.TypeIs (.ref a) "tuple") (nd:(es.toList.map (·.hash)).Nodup) (h:Q es s) :
  wpAny (model prog w) A (Builtin.Dict.entriesForEmpty id o) Q E s:=by
 unfold Builtin.Dict.entriesForEmpty
 refine wpAny_bind (wpAny_dictEntries ho hd ?_)
 refine wpAny_bind ?_
 rw [← Array.forIn_toList]
 refine wpAny_forIn_list _ (fun rest _ s'=>s'=s/\∀ e∈rest,∃ a,e.key=.ref a/\s.TypeIs (.ref a) "tuple") _ ?_ ?_ _ _ ⟨rfl,ht⟩
 ·rintro e rest r s' ⟨rfl,hall⟩
  obtain ⟨a,ek,ty⟩:=hall e List.mem_cons_self
  have one:¬ (es.filter fun x=>x.hash == e.hash).size > 1:=by
   have:=filt_one nd e
   rw [← Array.length_toList,Array.toList_filter]; lia
  rw [ek]
  refine wpAny_bind (quiet_tup ty ?_)
  rw [if_pos (show (!false)=true from rfl),if_neg one]
  exact wpAny_pure ⟨rfl,fun x hx=>hall x (List.mem_cons_of_mem _ hx)⟩
 ·rintro r s' ⟨rfl,_⟩
  exact wpAny_pure h
theorem merge_H {nm:String} {d o:Addr} {xs ys:List (List Key×Addr×Value)} {Q:Unit->Shared->Prop} (hu:A.units < cLine) (hdo:d≠o) (ns:(o == sysModules)=false) (hd:s.heap.DictOfH (tupleKind (mixKind prog w)) d xs) (ho:s.heap.DictOfH (tupleKind (mixKind prog w)) o ys)
  (nd:((xs++ys).map (·.1)).Nodup) (hh:xs=[]->(ys.map fun y=>hkT prog w y.1).Nodup) (hz:xs.length+ys.length<=1000)
  (hQ:∀ h',h'.DictOfH (tupleKind (mixKind prog w)) d (xs++ys)->Heap.SameBut d s.heap h'->Q () { s with heap:=h' }):wpAny (model prog w) A (Builtin.Dict.mergeDict nm d o) Q E s:=by
 obtain ⟨od,esd,epd,hod,hcd,hdd,hed,hid,hnd⟩:=id hd
 obtain ⟨oo,eso,epo,hoo,hco,hdo',heo,hio,hno⟩:=id ho
 have zd:=size_of_entries hed
 have zo:=size_of_entries heo
 have szl:=sizeLine_eq
 unfold Builtin.Dict.mergeDict Builtin.Dict.showsAll
 rw [if_neg (by simpa using hdo),if_neg (by rw [ns]; exact Bool.false_ne_true)]
 refine wpAny_bind (wpAny_pure (wpAny_bind (wpAny_dictEntries hoo hdo' ?_)))
 have loop:wpAny (model prog w) A (do
   let epoch ← dictEpoch o
   for i in [0:(← dictEntries o).size] do
    let some e:=(← dictEntries o)[i]? | unsupported "internal:dict-merge"
    holding [e.key,e.val] (dictSetHashed d e.key e.hash e.val)
    if (← dictEpoch o) != epoch then unsupported s!"{nm}:source-changed-during-callback") Q E s:=by
  refine wpAny_bind (wpAny_dictEpoch hoo hdo' (wpAny_bind (wpAny_dictEntries hoo hdo' ?_)))
  rw [Std.Legacy.Range.forIn_eq_forIn_range']
  simp only [Std.Legacy.Range.size,Nat.sub_zero,Nat.add_sub_cancel,Nat.div_one]
  refine wpAny_bind (wpAny_forIn_list _ (fun rest _ s'=>∃ h' i,s'={ s with heap:=h' }/\rest=List.range' i (eso.size - i)/\i<=eso.size/\h'.DictOfH (tupleKind (mixKind prog w)) d (xs++ys.take i)/\Heap.SameBut d s.heap h') _ ?_ ?_ _ _ ⟨s.heap,0,rfl,by simp,Nat.zero_le _,by rw [List.take_zero,List.append_nil]; exact hd,Heap.SameBut.refl _ _⟩)
  ·rintro x rest b s' ⟨h',i,rfl,hr,hi,hd',hs'⟩
   have lt:i < eso.size:=by
    apply Classical.byContradiction
    intro z
    rw [Nat.sub_eq_zero_of_le (by lia)] at hr
    cases hr
   rw [show eso.size - i=(eso.size - (i+1))+1 by lia,List.range'_succ] at hr
   injection hr with h1 hr2
   subst h1
   have lx:x < ys.length:=by lia
   have hoo':h'.get? o=some oo:=(hs'.2 o (Ne.symm hdo)).trans hoo
   have ex:eso[x]?=some (entryOfKey (tupleKind (mixKind prog w)) ys[x]):=by rw [entry_at heo x,List.getElem?_eq_getElem lx]; rfl
   refine wpAny_bind (wpAny_dictEntries (s:={ s with heap:=h' }) hoo' hdo' ?_)
   rw [ex]
   show wpAny _ _ (holding [Value.ref ys[x].2.1,ys[x].2.2] (dictSetHashed d (.ref ys[x].2.1) (hkT prog w ys[x].1) ys[x].2.2) >>= _) _ _ _
   have key':(tupleKind (mixKind prog w)).is h' ys[x].1 ys[x].2.1:=(tupleKind (mixKind prog w)).keeps (hio _ (List.getElem_mem lx)) hod hdd hs'
   have new:ys[x].1∉(xs++ys.take x).map (·.1):=fun z=>by
    have e:xs++ys=(xs++ys.take x)++ys[x] :: ys.drop (x+1):=by rw [List.append_assoc,List.getElem_cons_drop,List.take_append_drop]
    rw [e,List.map_append,List.nodup_append] at nd
    exact nd.2.2 _ z _ List.mem_cons_self rfl
   refine wpAny_bind (wpAny_holding (set_newH (s:={ s with heap:=h' }) hu key' hd' new (by rw [List.length_append,List.length_take]; lia) fun h2 hd2 hs2=>?_))
   have hoo2:h2.get? o=some oo:=(hs2.2 o (Ne.symm hdo)).trans hoo'
   refine wpAny_bind (wpAny_dictEpoch (s:={ s with heap:=h2 }) hoo2 hdo' ?_)
   rw [if_neg (by simp)]
   refine wpAny_pure ⟨h2,x+1,rfl,?_,lt,?_,hs'.trans hs2⟩
   ·exact hr2
   ·rw [List.take_add_one,List.getElem?_eq_getElem lx,← List.append_assoc]; exact hd2
  ·rintro b s' ⟨h',i,rfl,hr,hi,hd',hs'⟩
   have hin:i=eso.size:=by
    apply Classical.byContradiction
    intro z
    rw [show eso.size - i=(eso.size - (i+1))+1 by lia,List.range'_succ] at hr
    cases hr
   refine wpAny_pure (hQ h' ?_ hs')
   rw [hin,zo,List.take_length] at hd'; exact hd'
 dsimp only
 split
 ·refine wpAny_bind (wpAny_dictEntries hod hdd ?_)
  split
  ·rename_i hemp
   have xe:xs=[]:=by
    have h0:esd=#[]:=Array.isEmpty_iff.mp hemp
    rw [h0] at zd
    exact List.length_eq_zero_iff.mp zd.symm
   have hth:∀ e∈eso.toList,∃ a,e.key=.ref a/\s.TypeIs (.ref a) "tuple":=fun e he=>by
    rw [heo] at he
    obtain ⟨y,hy,rfl⟩:=List.mem_map.mp he
    exact ⟨_,rfl,IsTupleKey.typeIs (hio y hy)⟩
   have hhs:(eso.toList.map (·.hash)).Nodup:=by
    rw [heo,List.map_map]; exact hh xe
   refine wpAny_bind (empty_entries hoo hdo' hth hhs ?_)
   split
   ·refine wpAny_bind (wpAny_updateDictKeysTo hod hdd (wpAny_pure (hQ _ ⟨_,_,epd+1,Heap.get?_update_self _ hod (Obj.isFreed_of_dict (Obj.data_mapDictKeys hdd _)),hcd.mapDictKeys _,Obj.data_mapDictKeys hdd _,?_,fun y hy=>?_,nd⟩ (Heap.SameBut.update ..))) (by lia))
    ·rw [xe,List.nil_append]; exact heo
    ·rw [xe,List.nil_append] at hy
     exact (tupleKind (mixKind prog w)).keeps (hio y hy) hod hdd (Heap.SameBut.update ..)
   ·rename_i hne
    have h0:eso=#[]:=Array.isEmpty_iff.mp (by simpa using hne)
    have y0:ys=[]:=by
     rw [h0] at zo
     exact List.length_eq_zero_iff.mp zo.symm
    refine wpAny_pure (hQ s.heap ?_ (Heap.SameBut.refl _ _))
    rw [y0,List.append_nil]; exact hd
  ·exact loop
 ·exact loop
theorem meets_updH (d o:Addr) (hdo:d≠o) (ns:(o == sysModules)=false):MeetsIn prog w (Builtin.«dict.update» ⟨[.ref d,.ref o],[]⟩) (fun A R s=>∃ xs ys,A.in1.units < cLine/\s.heap.DictOfH (tupleKind (mixKind prog w)) d xs/\s.heap.DictOfH (tupleKind (mixKind prog w)) o ys /\
  (((xs++ys).map (·.1)).Nodup/\(xs=[]->(ys.map fun y=>hkT prog w y.1).Nodup)/\xs.length+ys.length<=1000)/\∀ h',h'.DictOfH (tupleKind (mixKind prog w)) d (xs++ys)->Heap.SameBut d s.heap h'->R (.ok (.ret .none)) { s with heap:=h' }):=by
 refine .of_wp ?_
 rintro A R s ⟨xs,ys,hu,hd,ho,⟨h1,h2,h3⟩,h⟩
 unfold Builtin.«dict.update» Builtin.Dict.selfAndRest
 refine wpAny_bind (wpAny_bind (wpAny_notOrdered_dict hd.typeIs (show wpAny _ _ (pure (d,[Value.ref o])) _ _ s from wpAny_pure ?_)))
 show wpAny _ _ (Builtin.Dict.updateFrom "dict.update" d (.ref o) [] .none) _ _ s
 unfold Builtin.Dict.updateFrom
 refine wpAny_bind (wpAny_typeOf ho.typeIs ?_)
 rw [if_neg (by decide)]
 refine wpAny_bind ?_
 unfold Builtin.Dict.merge Builtin.Dict.readDirectly
 refine wpAny_bind (wpAny_bind (wpAny_isInstance ho.typeIs PySem.F.sub_dict_dict ?_))
 simp only [Bool.not_true,Bool.false_eq_true,if_false]
 refine wpAny_bind (wpAny_specialOf ho.typeIs F.slot_dict_iter.lookup (wpAny_pure ?_))
 simp only [beq_self_eq_true,if_true]
 refine wpAny_bind (wpAny_pure (merge_H hu hdo ns hd ho h1 h2 h3 fun h' hd' hs'=>?_))
 show wpAny _ _ (Builtin.Dict.addKeywords d [] >>= _) _ _ _
 exact wpAny_bind (wpAny_pure (wpAny_pure ⟨.none,rfl,h h' hd' hs'⟩))
end
end L2
namespace K2
open PySem PySem.Spec PyProof.Rows L2 PySem.W
section
variable {X:Cx} {pins:List (Addr×Obj)} {σ:L2.St} {H:Hp} {s:Shared} {G:Gp}
theorem tk_inj {x y:List Key} (h:tk x=tk y):x=y:=by
 have e:=eqD_keyT x y
 have e2:=eqD_keyT y y
 rw [show D.tup (x.map keyD)=D.tup (y.map keyD) from h,e2] at e
 exact of_decide_eq_true (e.symm.trans (decide_eq_true rfl))
theorem map_tk_inj:∀ {a b:List (List Key)},a.map tk=b.map tk->a=b
 | [],[],_=>rfl
 | [],_ :: _,h=>by cases h
 | _ :: _,[],h=>by cases h
 | x :: a,y :: b,h=>by
  rw [List.map_cons,List.map_cons] at h
  injection h with h1 h2
  rw [tk_inj h1,map_tk_inj h2]
theorem keysT {K:PySem.W.Frag} {l:List (T2×T2)} {kv:List (List Key×V)} (rs:DTs K H kv (encKV l)):kv.map (·.1)=l.map fun p=>t2k p.1:=by
 have h:=rs.keys
 have e1:(encKV l).map (·.1)=(l.map fun p=>t2k p.1).map tk:=by unfold encKV; rw [List.map_map,List.map_map]; rfl
 have e2:(kv.map fun p=>D.tup (p.1.map keyD))=(kv.map (·.1)).map tk:=by rw [List.map_map]; rfl
 rw [e1,e2] at h
 exact (map_tk_inj h).symm
theorem kt_keys {kv:List (List Key×V)} {xs:List (List Key×Addr×Value)} (r:KT H kv xs):xs.map (·.1)=kv.map (·.1):=by
 induction r with
 | nil=>rfl
 | cons h _ ih=>rw [List.map_cons,List.map_cons,ih,h.1]
theorem kt_app {kv kw:List (List Key×V)} {xs ys:List (List Key×Addr×Value)} (r:KT H kv xs) (q:KT H kw ys):KT H (kv++kw) (xs++ys):=by
 induction r with
 | nil=>exact q
 | cons h _ ih=>exact .cons h ih
theorem dt_app {K:PySem.W.Frag} {kv kw:List (List Key×V)} {k1 k2:List (D×D)} (r:DTs K H kv k1) (q:DTs K H kw k2):DTs K H (kv++kw) (k1++k2):=by
 induction r using DTs.ind with
 | nil=>exact q
 | cons h _ ih=>exact .cons h ih
theorem okT_enc (l:List (T2×T2)):∀ q∈encKV l,keyOkT q.1=true:=fun q hq=>by unfold encKV at hq; obtain ⟨y,_,rfl⟩:=List.mem_map.mp hq; rfl
theorem dest_T {a:Addr} {l:List (T2×T2)} (I:Inv X pins σ H s) (ab:AbH X.K H G) (hg:G a=some (.dic (encKV l))) :
  ∃ H' kv,Inv X pins σ H' s/\Mv X.K H G H' G/\H' a=some (.dT kv)/\DTs X.K H' kv (encKV l):=by
 have ok:=okT_enc l
 generalize encKV l=kvs at hg ok
 rcases ab a _ hg with ⟨kv,hv,rs⟩ | ⟨kv,hv,rs⟩
 ·cases rs with
  | nil=>exact ⟨_,[],toT I hv,mv_same ab hg (.putD hv (.inl ⟨_,rfl⟩)) (.inr ⟨[],upd_same,.nil⟩),upd_same,.nil⟩
  | @cons j _ _ _ _ _ _ =>
   have:=ok _ List.mem_cons_self
   cases j <;> simp [keyD,keyOkT] at this
 ·exact ⟨H,kv,I,.refl ab,hv,rs⟩
theorem src_T {x:V} {m:List (T2×T2)} (I:Inv X pins σ H s) (r:RepD X.K H x (.rod (encKV m))) :
  ∃ b kw ys,x=.ref b/\(b == sysModules)=false/\(∃ o u,H b=some (.frz o u))/\DTs X.K H kw (encKV m)/\KT H kw ys/\s.heap.DictOfH (tupleKind (mixKind X.prog X.w)) b ys:=by
 have ok:=okT_enc m
 generalize encKV m=kvs at r ok
 cases r with
 | rodK hq rs =>
  rename_i b o kv
  cases rs with
  | nil =>
   obtain ⟨z,ns,vs,rel,ob,es,ep,ho,ex,dd,hko,hp,nd⟩:=(I.hok b _ hq).2
   cases rel
   have he:es.toList=[]:=List.length_eq_zero_iff.mp hp.length
   exact ⟨b,[],[],rfl,ns,⟨_,_,hq⟩,.nil,.nil,ob,es,ep,ho,ex,dd,he,(fun _ z=>by cases z),List.nodup_nil⟩
  | @cons j _ _ _ _ _ _ =>
   have:=ok _ List.mem_cons_self
   cases j <;> simp [keyD,keyOkT] at this
 | rodT hq rs =>
  rename_i b o kv
  obtain ⟨z,ns,ys,rel,dd⟩:=dt_rd I.hok (.inr ⟨_,hq⟩)
  exact ⟨b,kv,ys,rfl,ns,⟨_,_,hq⟩,rs,rel,dd⟩
theorem mt2_updT (hu:X.A.units+64 < cLine):MtR2 X "dict.update" mUpdT:=by
 intro pins s σ H G x d xs ds v us Q I ab rx rd rxs rds q
 unfold mUpdT at q
 split at q
 ·rename_i a y
  obtain ⟨l,m,hg,rfl,⟨hz,nd,hh⟩,q⟩:=q
  cases rd
  obtain ⟨w1,rfl,rw1⟩:=rds.one
  obtain ⟨u,rfl,ru⟩:=rxs.one
  cases rx
  obtain ⟨H',kv,I',mv,hv,rs⟩:=dest_T I ab hg
  obtain ⟨b,kw,ys,rfl,nb,⟨ob,ub,hb⟩,rsb,relb,ddb⟩:=src_T I' (rw1.mono (mv.kp ab))
  cases ru
  obtain ⟨z,na,zs,rel,dda⟩:=dt_of I'.hok hv
  have ne:a≠b:=fun e=>by rw [← e,hv] at hb; cases hb
  have k1:(zs++ys).map (·.1)=(l++m).map fun p=>t2k p.1:=by rw [List.map_append,List.map_append,kt_keys rel,kt_keys relb,keysT rs,keysT rsb]
  have nd':((zs++ys).map (·.1)).Nodup:=by
   rw [k1]
   have:((l++m).map fun p=>t2k p.1)=((l++m).map (·.1)).map t2k:=by rw [List.map_map]; rfl
   rw [this,List.nodup_iff_pairwise_ne,List.pairwise_map]
   exact (List.nodup_iff_pairwise_ne.mp nd).imp fun h e=>h (t2k_inj e)
  have l1:zs.length=l.length:=by have:=congrArg List.length ((kt_keys rel).trans (keysT rs)); simpa using this
  have l2:ys.length=m.length:=by have:=congrArg List.length ((kt_keys relb).trans (keysT rsb)); simpa using this
  have hh':zs=[]->(ys.map fun y=>hkT X.prog X.w y.1).Nodup:=fun e=>by
   have le:l=[]:=List.length_eq_zero_iff.mp (by rw [← l1,e]; rfl)
   have:(ys.map fun y=>hkT X.prog X.w y.1)=m.map fun p=>h2 p.1:=by
    have e1:(ys.map fun y=>hkT X.prog X.w y.1)=(ys.map (·.1)).map (hkT X.prog X.w):=by rw [List.map_map]; rfl
    rw [e1,kt_keys relb,keysT rsb,List.map_map]; rfl
   rw [this]; exact hh le
  have sz:sizeLine=16777216:=sizeLine_eq
  refine call_meetsIn PySem.F.slot_dict_update dda.typeIs PySem.F.entry_dict_update (PySem.F.args_dict_update_2 _ _) (meets_updH a b ne nb) ⟨zs,ys,(by show X.A.units+1 < cLine; lia),dda,ddb,⟨nd',hh',by lia⟩,fun h' hd' hs=>?_⟩
  have kp:Kp H' (upd H' a (.dT (kv++kw))):=.putD hv (.inr ⟨_,rfl⟩)
  obtain ⟨o',es',ep',p1,p2,p3,p4,_,p6⟩:=hd'
  have kl:(kv++kw).length<=sizeLine:=by
   have e1:=Paired.length rel
   have e2:=Paired.length relb
   rw [List.length_append,sz]; lia
  have e5:encKV (l++m)=encKV l++encKV m:=by unfold encKV; rw [List.map_append]
  refine ⟨.non,_,.non,_,d_write (t':=s.toks) I' (by rw [hv]; exact True.intro) hs ⟨_,p1⟩ (ob:=.dT (kv++kw)) ⟨kl,na,zs++ys,(kt_app rel relb).keeps kp.tup,o',es',ep',p1,p2,p3,p4,p6⟩,mv.trans (.put mv.ab hg kp (.dt upd_same ?_)),rfl,.non,q⟩
  rw [e5]
  exact (dt_app rs rsb).mono kp
 ·exact q.elim
end
end K2
end
section
namespace K2
open PySem PySem.Spec PyProof.Rows L2 PySem.W
section
variable {X:Cx}
theorem call2_max (hc:X.calm=true) (hu:X.A.units+64 < cLine):CallR2 X (.builtin "max") cMax:=by
 intro pins s σ H G xs ds us Q I ab rx rd q
 unfold cMax at q
 split at q
 ·rename_i a b
  obtain ⟨w1,w2,rfl,rw1,rw2⟩:=rd.two
  obtain ⟨u1,u2,rfl,ru1,ru2⟩:=vals2 rx
  cases rw1
  cases rw2
  obtain ⟨t,rfl⟩:=ru1
  obtain ⟨t2,rfl⟩:=ru2
  refine max_two_ints (I.ok.hd hc) fun h' tk k=>?_
  have I2:=I.kept (t':=tk) k
  by_cases c:a < b
  ·rw [if_pos c] at q
   rw [if_pos (show b > a from c)]
   exact ⟨.int b,H,.int b,G,I2,.refl ab,⟨_,rfl⟩,.int _,q⟩
  ·rw [if_neg c] at q
   rw [if_neg (show ¬ b > a from c)]
   exact ⟨.int a,H,.int a,G,I2,.refl ab,⟨_,rfl⟩,.int _,q⟩
 ·exact q.elim
end
end K2
end
section
namespace K2
open PySem (Str)
open Enc (enc)
theorem fz_enc {α:Type} [DecidableEq α] [Enc α] {G G1:Gp} {p:Nat} {xs:List α} {Q:DK} (l:GLe G G1) (hp:G p=none) (h1:G1 p=some (.lst (xs.map enc))) (q:Q (enc xs) G):FzK G1 (.ref p) Q :=
 fz_rol l hp h1 (Fzs.same _) q
theorem for_enc {α:Type} {f:α->D} {g:TG2} {body:TS2} {ok:Gp->Prop} {xs:List α} {E:XK2} {K:Ends2} {τ:St2} {G:Gp} (I:List α->St2->Gp->Prop)
  (h0:I [] τ G) (hok:∀ pre τ G,I pre τ G->ok G)
  (step:∀ (pre:List α) (x:α) (post:List α) τ G (N:St2->Gp->Prop),xs=pre++x :: post->I pre τ G->(∀ τ2 G2,I (pre++[x]) τ2 G2->N τ2 G2) ->
   g E (f x) τ G fun τ1 G1=>body E { K with nx:=N,ct:=N,bk:=K.nx } τ1 G1)
  (fin:∀ τ G,I xs τ G->K.nx τ G):forGo g body ok (xs.map f) E K τ G:=by
 have main:∀ (post pre:List α) τ G,xs=pre++post->I pre τ G->forGo g body ok (post.map f) E K τ G:=by
  intro post
  induction post with
  | nil =>
   intro pre τ G e h
   rw [List.append_nil] at e
   subst e
   exact ⟨hok _ _ _ h,fin _ _ h⟩
  | cons d post ih =>
   intro pre τ G e h
   refine ⟨hok _ _ _ h,?_⟩
   exact step pre d post τ G _ e h fun τ2 G2 h2=>ih (pre++[d]) τ2 G2 (by rw [e,List.append_assoc]; rfl) h2
 exact main xs [] τ G rfl h0
theorem comp_enc {α:Type} {f:α->D} {g:TG2} {c:Option TT2} {e:TE2} {ok:Gp->Prop} {xs:List α} {E:XK2} {τ:St2} {G:Gp} {Q:List D->Gp->Prop} (I:List α->List D->St2->Gp->Prop)
  (h0:I [] [] τ G) (hok:∀ pre acc τ G,I pre acc τ G->ok G)
  (step:∀ (pre:List α) (x:α) (post:List α) (acc:List D) τ G (N:St2->List D->Gp->Prop),xs=pre++x :: post->I pre acc τ G->(∀ τ2 acc2 G2,I (pre++[x]) acc2 τ2 G2->N τ2 acc2 G2) ->
   g E (f x) τ G fun τ1 G1=>match c with
    | none=>e E τ1 G1 fun x G2=>N τ1 (acc++[x]) G2
    | some c=>c E τ1 G1 fun k G2=>if k=true then e E τ1 G2 fun x G3=>N τ1 (acc++[x]) G3 else N τ1 acc G2)
  (fin:∀ acc τ G,I xs acc τ G->Q acc G):compGo g c e ok (xs.map f) E τ G [] Q:=by
 have main:∀ (post pre:List α) (acc:List D) τ G,xs=pre++post->I pre acc τ G->compGo g c e ok (post.map f) E τ G acc Q:=by
  intro post
  induction post with
  | nil =>
   intro pre acc τ G e h
   rw [List.append_nil] at e
   subst e
   exact ⟨hok _ _ _ _ h,fin _ _ _ h⟩
  | cons d post ih =>
   intro pre acc τ G e' h
   refine ⟨hok _ _ _ _ h,?_⟩
   have:=step pre d post acc τ G (fun τ2 acc2 G2=>compGo g c e ok (post.map f) E τ2 G2 acc2 Q) e' h fun τ2 acc2 G2 h2=>ih (pre++[d]) acc2 τ2 G2 (by rw [e',List.append_assoc]; rfl) h2
   cases c with
   | none=>exact this
   | some c=>exact this
 exact main xs [] [] τ G rfl h0
theorem iAt_enc {α:Type} [DecidableEq α] [Enc α] {xs:List α} {G:Gp} {R:List D->(Gp->Prop)->Gp->Prop} (h:R (xs.map enc) (fun _=>True) G):iAt (enc xs) G R:=h
theorem iEnumAt_enc {α:Type} [DecidableEq α] [Enc α] {xs:List α} {G:Gp} {R:List D->(Gp->Prop)->Gp->Prop} (h:R (enumD 0 (xs.map enc)) (fun _=>True) G):iEnumAt (enc xs) G R:=h
theorem szl {n:Nat} (h:n<=1000):n<=SZ:=by unfold SZ; lia
theorem szlt {n:Nat} (h:n<=1000):n < SZ:=by unfold SZ; lia
noncomputable abbrev Rows:=List (List T3)
noncomputable def T3.s (p:T3):T2:=⟨p.a,p.b⟩
structure Dr (rows:Rows):Prop where
 nd:(rows.flatten.map T3.s).Nodup
 way:∀ p∈rows.flatten,p.b=0\/p.b=1
 hand:∀ p∈rows.flatten,p.c=1\/p.c=-1
 mate:∀ p∈rows.flatten,(⟨p.a,1 - p.b,p.c⟩:T3)∈rows.flatten
 few:rows.flatten.length<=24
 str:rows.length<=3
namespace P
theorem enc_T3 (p:T3):(enc p:D)=.tup [.int p.a,.int p.b,.int p.c]:=rfl
theorem enc_T2 (p:T2):(enc p:D)=.tup [.int p.a,.int p.b]:=rfl
theorem at0 {a:D} {r:List D}:atI (a :: r) 0=some a:=by
 rw [atI_nat _ (by lia) (by simp)]; rfl
theorem at1 {a b:D} {r:List D}:atI (a :: b :: r) 1=some b:=by
 rw [atI_nat _ (by lia) (by simp; lia)]; rfl
noncomputable def names (rows:Rows):List Int:=srt ((rows.flatten.filter fun p=>p.b == 0).map (·.a))
noncomputable def spotsOn (row:List T3) (i:Int):List T2:=if row=[] then [⟨i,2⟩] else row.map T3.s
noncomputable def sp_spots_on:Sp2:=spF2 (fun (row:List T3) (_:Int)=>row.length<=1000) spotsOn
noncomputable def rd_spots_on:TS2 :=
 (dSeq (dIfS (dNot (dTru (dVar 0))) (dRet (dFz (dLst (dCons (dTup (dCons (dVar 1) (dCons (dC (.int 2)) dNil))) dNil)))) dNext)
 (dRet (dFz (dComp 1 [] (iSeq (dVar 0)) (gName 0) none (dSl (dVar 0) dNoPart (dPart (dC (.int 2))))))))
theorem cut_s (p:T3):cut [D.int p.a,D.int p.b,D.int p.c] none (some 2)=[D.int p.a,D.int p.b]:=rfl
theorem OK_spots_on (ds:List D) (G:Gp) (Q:DK) (h:sp_spots_on ds G Q fun _ _=>False):rd_spots_on (fun _ _=>False) (ends Q) (start2 2 ds) G:=by
 obtain ⟨row,i,rfl,hl,q⟩:=h
 unfold rd_spots_on
 refine seq_by (fun τ G'=>G=G'/\τ=[some (enc row),some (enc i)]/\row≠[]) ?_ ?_
 ·intro N hN
  simp only [dIfS,dNot,start2,List.map_cons,List.map_nil,List.length_cons,List.length_nil,List.cons_append,List.nil_append,dRet,dFz,dLst,dCons,dTup,dVar,List.getElem?_cons_succ,List.getElem?_cons_zero,dC,dNil,ends,dNext,dTru_at]
  refine truAt_of (IsL.enc row) ?_
  cases row with
  | nil =>
   simp only [List.map_nil,List.isEmpty_nil,Bool.not_true,Bool.not_false,if_true]
   refine ⟨by decide,by decide,fun p hp=>fz_enc (xs:=[(⟨i,2⟩:T2)]) (.new hp) hp updG_same ?_⟩
   exact q
  | cons a r =>
   simp only [List.map_cons,List.isEmpty_cons,Bool.not_false,Bool.not_true,Bool.false_eq_true,if_false]
   exact hN _ _ ⟨rfl,rfl,by simp⟩
 rintro _ _ ⟨rfl,rfl,hne⟩
 simp only [dRet,dFz,dComp,ends,iSeq_at,dVar,List.getElem?_cons_zero]
 refine iAt_enc ⟨szl (by rw [List.length_map]; exact hl),?_⟩
 refine comp_enc (xs:=row) (fun pre acc τ G'=>G=G'/\(∃ a,τ=[a])/\acc=(pre.map T3.s).map enc) ⟨rfl,⟨_,rfl⟩,rfl⟩ (fun _ _ _ _ _=>trivial) ?_ ?_
 ·rintro pre x post acc τ G' N e ⟨rfl,⟨a,rfl⟩,rfl⟩ hN
  simp only [gName,dSl,dVar,enc_T3,List.set_cons_zero,List.getElem?_cons_zero,dNoPart,rSl_tup,List.length_cons,List.length_nil,dPart_at,dC,partAt_int]
  refine ⟨by decide,hN _ _ _ ⟨rfl,⟨_,rfl⟩,?_⟩⟩
  rw [List.map_append,List.map_append]; rfl
 ·rintro acc τ G' ⟨rfl,⟨a,rfl⟩,rfl⟩ p hp
  refine fz_enc (.new hp) hp updG_same ?_
  have:spotsOn row i=row.map T3.s:=by unfold spotsOn; rw [if_neg hne]
  rw [← this]; exact q
noncomputable def spotsL:Rows->Nat->List T2
 | [],_=>[]
 | r :: rs,k=>spotsOn r (k:Int)++spotsL rs (k+1)
theorem enum_get (xs:List (List T3)):enumD 0 (xs.map enc)=(xs.zipIdx 0).map fun p=>D.tup [.int (p.2:Int),enc p.1]:=by
 have:∀ (xs:List (List T3)) (k:Nat),enumD k (xs.map enc)=(xs.zipIdx k).map fun p=>D.tup [.int (p.2:Int),enc p.1]:=by
  intro xs
  induction xs with
  | nil=>intro k; rfl
  | cons x xs ih=>intro k; rw [List.map_cons,enumD,ih,List.zipIdx_cons,List.map_cons]
 exact this xs 0
theorem zipIdx_split {α:Type} {xs:List α} {pre post:List (α×Nat)} {x:α×Nat} (h:xs.zipIdx 0=pre++x :: post):∃ l r,xs=l++x.1 :: r/\x.2=l.length/\pre=l.zipIdx 0:=by
 have e1:xs=(pre.map (·.1))++x.1 :: post.map (·.1):=by
  have:=congrArg (List.map (·.1)) h
  rw [List.zipIdx_map_fst] at this
  rw [this]; simp
 have hl:pre.length < (xs.zipIdx 0).length:=by rw [h]; simp
 have hx:(xs.zipIdx 0)[pre.length]?=some x:=by rw [h]; simp
 refine ⟨pre.map (·.1),post.map (·.1),e1,?_,?_⟩
 ·rw [List.getElem?_zipIdx] at hx
  rw [List.length_map]
  cases q:xs[pre.length]? with
  | none=>rw [q] at hx; cases hx
  | some y=>rw [q] at hx; simp at hx; rw [← hx]
 ·have:(pre.map (·.1)).zipIdx 0=(xs.zipIdx 0).take pre.length:=by
   conv=>rhs; rw [e1,List.zipIdx_append]
   rw [List.take_append_of_le_length (by simp)]
   rw [List.take_of_length_le (by simp)]
  rw [this,h]; simp
theorem setIx_dic {κ α:Type} [DecidableEq κ] [Enc κ] [EncKey κ] [DecidableEq α] [Enc α] {a:Nat} {l:List (κ×α)} {k:κ} {v:α} {G:Gp} {Q:Gp->Prop} (h:G a=some (.dic (encKV l))) (hl:l.length<=1000) (q:Q (updG G a (.dic (encKV (aput l k v))))):setIx (.ref a) (enc k) (enc v) G Q:=by
 unfold setIx
 simp only [h]
 refine ⟨kindOk_enc l k,?_,by rw [put_enc]; exact q⟩
 unfold encKV; rw [List.length_map]; exact szlt hl
end P
end K2
end
section
namespace K2
open PySem (Str)
open Enc (enc)
class inductive Cn {α:Type} (ps:List (α×α)):α->α->Prop
 | refl (x:α):Cn ps x x
 | pair {x y:α}:(x,y)∈ps->Cn ps x y
 | symm {x y:α}:Cn ps x y->Cn ps y x
 | trans {x y z:α}:Cn ps x y->Cn ps y z->Cn ps x z
theorem rEq_enc {α:Type} [DecidableEq α] [Enc α] {neg:Bool} {x y:α} {G:Gp} {Q:DK} (hd:Enc.dep α<=8) (q:Q (.bl (if neg then !decide (x=y) else decide (x=y))) G):rEq neg (enc x) (enc y) G Q:=by
 refine ⟨enc x,enc y,Enc.sn _ _ _ hd,Enc.sn _ _ _ hd,?_⟩
 rw [Enc.eqv]; exact q
class EncMin (α:Type) [DecidableEq α] [Enc α] [EncOrd α] where
 mn:∀ {x:D} {G:Gp} {xs:List α} {Q:DK},itemsOf x G=some (xs.map enc)->xs≠[]->(∀ m∈xs,(∀ y∈xs,leO m y=true)->Q (enc m) G)->cMin [x] G Q
theorem fold_least {α:Type} [DecidableEq α] [Enc α] [EncOrd α]:∀ (r:List α) (a:α),r.foldl (fun m x=>if EncOrd.lt x m=true then x else m) a∈a :: r/\∀ y∈a :: r,leO (r.foldl (fun m x=>if EncOrd.lt x m=true then x else m) a) y=true
 | [],a=>⟨by simp,fun y hy=>by rw [List.mem_singleton.mp hy]; unfold leO; rw [List.foldl_nil,EncOrd.irr]; rfl⟩
 | b :: r,a=>by
  rw [List.foldl_cons]
  by_cases c:EncOrd.lt b a=true
  ·rw [if_pos c]
   obtain ⟨h1,h2⟩:=fold_least r b
   refine ⟨List.mem_cons_of_mem _ h1,fun y hy=>?_⟩
   rcases List.mem_cons.mp hy with rfl | hy
   ·refine leO_trans _ _ _ (h2 b (by simp)) ?_
    unfold leO
    cases q:EncOrd.lt y b with
    | false=>rfl
    | true=>have:=EncOrd.trans _ _ _ q c; rw [EncOrd.irr] at this; cases this
   ·exact h2 y hy
  ·rw [if_neg c]
   obtain ⟨h1,h2⟩:=fold_least r a
   refine ⟨?_,fun y hy=>?_⟩
   ·rcases List.mem_cons.mp h1 with h | h
    ·rw [h]; simp
    ·exact List.mem_cons_of_mem _ (List.mem_cons_of_mem _ h)
   ·rcases List.mem_cons.mp hy with rfl | hy
    ·exact h2 y (by simp)
    ·rcases List.mem_cons.mp hy with rfl | hy
     ·refine leO_trans _ _ _ (h2 a (by simp)) ?_
      unfold leO; simpa using c
     ·exact h2 y (List.mem_cons_of_mem _ hy)
noncomputable instance:EncMin Int where
 mn:=by
  intro x G xs Q hi hne k
  cases xs with
  | nil=>exact absurd rfl hne
  | cons a r =>
   obtain ⟨h1,h2⟩:=fold_least r a
   refine .inl ⟨a :: r,_,hi,rfl,?_⟩
   have:(fun (m x:Int)=>if x < m then x else m)=fun m x=>if EncOrd.lt x m=true then x else m:=by
    funext m x
    show (if x < m then x else m)=if decide (x < m)=true then x else m
    simp
   show Q (enc (r.foldl (fun m x=>if x < m then x else m) a)) G
   rw [this]
   exact k _ h1 h2
theorem lexO_lexLt:∀ (x y:List Int),lexO (fun a b=>decide (a < b)) x y=lexLt x y
 | [],[]=>rfl
 | [],_ :: _=>rfl
 | _ :: _,[]=>rfl
 | a :: x,b :: y=>by simp only [lexO_c,lexLt,lexO_lexLt x y]
noncomputable instance:EncMin T3 where
 mn:=by
  intro x G xs Q hi hne k
  cases xs with
  | nil=>exact absurd rfl hne
  | cons a r =>
   obtain ⟨h1,h2⟩:=fold_least r a
   have ei:itemsOf x G=some (((a :: r).map T3.l).map tI):=by rw [hi,List.map_map]; rfl
   refine .inr ⟨(a :: r).map T3.l,_,ei,rfl,?_⟩
   have:∀ (r:List T3) (a:T3),(r.map T3.l).foldl (fun m x=>if lexLt x m=true then x else m) a.l=(r.foldl (fun m x=>if EncOrd.lt x m=true then x else m) a).l:=by
    intro r
    induction r with
    | nil=>intro a; rfl
    | cons b r ih =>
     intro a
     rw [List.map_cons,List.foldl_cons,List.foldl_cons]
     have e:(if lexLt b.l a.l=true then b.l else a.l)=(if EncOrd.lt b a=true then b else a).l:=by
      have:EncOrd.lt b a=lexLt b.l a.l:=lexO_lexLt _ _
      rw [this]
      split <;> rfl
     rw [e]; exact ih _
   rw [this r a]
   exact k _ h1 h2
namespace P
section
variable {α:Type} [DecidableEq α] [Enc α] [EncOrd α] [EncKey α] [EncMin α]
structure GI (ms:List α) (ps:List (α×α)) (l:List (α×List α)):Prop where
 len:l.length<=64
 at':∀ m∈ms,∃ g,aget l m=some g/\g.Nodup/\∀ x,x∈g↔Cn ps m x
end
end P
end K2
end
section
namespace K2
open PySem (Str)
open Enc (enc)
namespace P
theorem aput_new {κ β:Type} [DecidableEq κ] {l:List (κ×β)} {k:κ} {v:β} (h:k∉l.map (·.1)):aput l k v=l++[(k,v)]:=by
 unfold aput
 rw [if_neg]
 intro q
 obtain ⟨p,h1,h2⟩:=List.any_eq_true.mp q
 exact h (List.mem_map.mpr ⟨p,h1,by simpa using h2⟩)
theorem aget_of_mem {κ β:Type} [DecidableEq κ]:∀ {l:List (κ×β)} {p:κ×β},(l.map (·.1)).Nodup->p∈l->aget l p.1=some p.2
 | q :: l,p,hn,h=>by
  unfold aget
  rw [List.find?_cons]
  rcases List.mem_cons.mp h with rfl | h
  ·simp
  ·rw [List.map_cons,List.nodup_cons] at hn
   have:q.1≠p.1:=fun z=>hn.1 (by rw [z]; exact List.mem_map_of_mem h)
   simp only [this,decide_false]
   exact aget_of_mem hn.2 h
variable {rows:Rows}
theorem no2 (d:Dr rows) {p:T3} (h:p∈rows.flatten):p.s.b≠2:=by
 have:=d.way p h
 show p.b≠2
 lia
end P
end K2
end
section
namespace K2
open PySem (Str)
open Enc (enc)
namespace P
variable {rows:Rows}
theorem spotsL_len (rows:Rows):(spotsL rows 0).length<=rows.flatten.length+rows.length:=by
 have:∀ (rs:Rows) (k:Nat),(spotsL rs k).length<=rs.flatten.length+rs.length:=by
  intro rs
  induction rs with
  | nil=>intro k; simp [spotsL]
  | cons r rs ih =>
   intro k
   have:=ih (k+1)
   rw [spotsL,List.length_append,List.flatten_cons,List.length_append,List.length_cons]
   have:(spotsOn r (k:Int)).length<=r.length+1:=by
    unfold spotsOn; split <;> simp
   lia
 exact this rows 0
theorem spotsL_nd (d:Dr rows):(spotsL rows 0).Nodup:=by
 have:∀ (rs:Rows) (k:Nat),(rs.flatten.map T3.s).Nodup->(∀ p∈rs.flatten,p.s.b≠2)->(spotsL rs k).Nodup/\∀ s∈spotsL rs k,(s.b=2/\(k:Int)<=s.a)\/(s.b≠2/\s∈rs.flatten.map T3.s):=by
  intro rs
  induction rs with
  | nil=>intro k _ _; exact ⟨List.nodup_nil,fun s h=>by cases h⟩
  | cons r rs ih =>
   intro k hn hb
   rw [List.flatten_cons,List.map_append,List.nodup_append] at hn
   obtain ⟨n1,n2,n3⟩:=hn
   obtain ⟨i1,i2⟩:=ih (k+1) n2 fun p hp=>hb p (by rw [List.flatten_cons]; exact List.mem_append_right _ hp)
   have on:(spotsOn r (k:Int)).Nodup/\∀ s∈spotsOn r (k:Int),(s=⟨(k:Int),2⟩)\/(s.b≠2/\s∈r.map T3.s):=by
    unfold spotsOn
    split
    ·exact ⟨by simp,fun s h=>.inl (List.mem_singleton.mp h)⟩
    ·refine ⟨n1,fun s h=>.inr ⟨?_,h⟩⟩
     obtain ⟨p,hp,rfl⟩:=List.mem_map.mp h
     exact hb p (by rw [List.flatten_cons]; exact List.mem_append_left _ hp)
   rw [spotsL]
   refine ⟨?_,?_⟩
   ·rw [List.nodup_append]
    refine ⟨on.1,i1,fun a ha b hb' e=>?_⟩
    subst e
    rcases on.2 a ha with rfl | ⟨h1,h2⟩ <;> rcases i2 _ hb' with ⟨h3,h4⟩ | ⟨h3,h4⟩
    ·dsimp only at h4; lia
    ·exact h3 rfl
    ·exact h1 h3
    ·exact n3 _ h2 _ h4 rfl
   ·intro s hs
    rcases List.mem_append.mp hs with h | h
    ·rcases on.2 s h with rfl | ⟨h1,h2⟩
     ·exact .inl ⟨rfl,Int.le_refl _⟩
     ·exact .inr ⟨h1,by rw [List.flatten_cons,List.map_append]; exact List.mem_append_left _ h2⟩
    ·rcases i2 s h with ⟨h1,h2⟩ | ⟨h1,h2⟩
     ·exact .inl ⟨h1,by lia⟩
     ·exact .inr ⟨h1,by rw [List.flatten_cons,List.map_append]; exact List.mem_append_right _ h2⟩
 exact (this rows 0 d.nd fun p hp=>no2 d hp).1
end P
end K2
end
section
namespace K2
open PySem (Str)
open Enc (enc)
namespace K12
open K2.P
noncomputable def rd_law_cell:TS2 :=
 (dSeq (dIfS (dTru (dBin rLt (dVar 1) (dCB cLen (dCons (dVar 0) dNil)))) (dRet (dFz (dBin rIx (dVar 0) (dVar 1)))) dNext)
 (dRet (dFz (dC (.int 0)))))
noncomputable def cellI (ns:List Int) (k:Int):Int:=ns.getD k.toNat 0
noncomputable def sp_law_cell:Sp2:=fun ds G Q _=>∃ (ns:List Int) (k:Int),ds=[.rol (ns.map D.int),.int k]/\0<=k/\Q (.int (cellI ns k)) G
theorem OK_law_cell (ds:List D) (G:Gp) (Q:DK) (h:sp_law_cell ds G Q fun _ _=>False):rd_law_cell (fun _ _=>False) (ends Q) (start2 2 ds) G:=by
 obtain ⟨ns,k,rfl,h0,q⟩:=h
 unfold rd_law_cell
 simp only [dSeq,dIfS,start2,List.map_cons,List.map_nil,List.length_cons,List.length_nil,List.cons_append,List.nil_append,dRet,dFz,dBin,dVar,List.getElem?_cons_zero,List.getElem?_cons_succ,ends,rIx_rolM,dNext,dC,dTru_at,dCB,dCons,dNil,cLen_rol,rLt_int,truAt_bl]
 split
 ·rename_i h
  have h1:k < (ns.map D.int).length:=by simpa using h
  rw [atI_nat _ h0 h1]
  simp only [List.getElem_map]
  rw [List.length_map] at h1
  have e:cellI ns k=ns[k.toNat]:=by unfold cellI; rw [List.getD_eq_getElem?_getD,List.getElem?_eq_getElem (by lia)]; rfl
  rw [← e]; exact fz_id q
 ·rename_i h
  have h1:¬ k < (ns.map D.int).length:=by simpa using h
  rw [List.length_map] at h1
  have e:cellI ns k=0:=by unfold cellI; rw [List.getD_eq_getElem?_getD,List.getElem?_eq_none (by lia)]; rfl
  rw [← e]; exact fz_id q
noncomputable def rd_law_whole:TS2 :=
 (dRet (dFz (dAndV (dIsi "int" (dVar 0)) (dNotV (dIsi "bool" (dVar 0))))))
noncomputable def sp_law_whole:Sp2:=fun ds G Q _=>∃ i:Int,ds=[.int i]/\Q (.bl true) G
theorem OK_law_whole (ds:List D) (G:Gp) (Q:DK) (h:sp_law_whole ds G Q fun _ _=>False):rd_law_whole (fun _ _=>False) (ends Q) (start2 1 ds) G:=by
 obtain ⟨i,rfl,q⟩:=h
 unfold rd_law_whole
 simp only [dRet,dFz,start2,List.map_cons,List.map_nil,List.length_cons,List.length_nil,List.cons_append,List.nil_append,ends,dAndV_at,dNotV_at,dIsi_at,dVar,List.getElem?_cons_zero,isAt_int,truAt_bl]
 simpa using fz_id q
noncomputable def rd_law_part:TS2 :=
 (dRet (dFz (dBin rMod (dBin rMod (dBin rMul (dVar 0) (dC (.int 48271))) (dVar 1)) (dVar 2))))
noncomputable def part (c p m:Int):Int:=c * 48271 % p % m
noncomputable def sp_law_part:Sp2:=fun ds G Q _=>∃ c p m:Int,ds=[.int c,.int p,.int m]/\(0 < p/\0 < m)/\Q (.int (part c p m)) G
theorem OK_law_part (ds:List D) (G:Gp) (Q:DK) (h:sp_law_part ds G Q fun _ _=>False):rd_law_part (fun _ _=>False) (ends Q) (start2 3 ds) G:=by
 obtain ⟨c,p,m,rfl,⟨hp,hm⟩,q⟩:=h
 unfold rd_law_part
 simp only [dRet,dFz,dBin,dVar,start2,List.map_cons,List.map_nil,List.length_cons,List.length_nil,List.cons_append,List.nil_append,List.getElem?_cons_zero,dC,List.getElem?_cons_succ,ends,rMul_int,rMod_int]
 exact ⟨.inr ⟨by decide,by decide⟩,hp,hm,fz_id q⟩
theorem part_lo (c p:Int) {m:Int} (h:0 < m):0<=part c p m:=Int.emod_nonneg _ (by lia)
theorem part_hi (c p:Int) {m:Int} (h:0 < m):part c p m < m:=Int.emod_lt_of_pos _ h
structure HR (G G':Gp) (p0:Nat) (as:List Nat) (rs:Rows):Prop where
 le:GLe G G'
 fp:G p0=none
 gp:G' p0=some (.lst (as.map D.ref))
 np:p0∉as
 nd:as.Nodup
 fr:∀ a∈as,G a=none
 len:as.length=rs.length
 at':∀ (i a:Nat) (r:List T3),as[i]?=some a->rs[i]?=some r->G' a=some (.lst (r.map enc))
theorem HR.put {G G':Gp} {p0:Nat} {as:List Nat} {rs:Rows} (h:HR G G' p0 as rs) {j a:Nat} {r':List T3} (ha:as[j]?=some a):HR G (updG G' a (.lst (r'.map enc))) p0 as (rs.set j r'):=by
 have hm:a∈as:=List.mem_of_getElem? ha
 have hj:j < as.length:=(List.getElem?_eq_some_iff.mp ha).1
 refine ⟨h.le.put (h.fr a hm),h.fp,?_,h.np,h.nd,h.fr,by rw [List.length_set]; exact h.len,fun i b r hb hr=>?_⟩
 ·rw [updG_ne (by rintro rfl; exact h.np hm)]; exact h.gp
 ·by_cases e:i=j
  ·subst e
   rw [ha] at hb; cases hb
   rw [List.getElem?_set_self (by have:=h.len; lia)] at hr
   cases hr
   exact updG_same
  ·have:b≠a:=by
    rintro rfl
    have h1:=List.getElem?_eq_some_iff.mp hb
    have h2:=List.getElem?_eq_some_iff.mp ha
    have pw:=List.pairwise_iff_getElem.mp h.nd
    rcases Nat.lt_trichotomy i j with lt | eq | gt
    ·exact pw i j h1.1 h2.1 lt (h1.2.trans h2.2.symm)
    ·exact e eq
    ·exact pw j i h2.1 h1.1 gt (h2.2.trans h1.2.symm)
   rw [updG_ne this]
   rw [List.getElem?_set_ne (fun z=>e z.symm)] at hr
   exact h.at' i b r hb hr
theorem HR.fz {G G':Gp} {p0:Nat} {as:List Nat} {rs:Rows} (h:HR G G' p0 as rs) {Q:DK} (q:Q (enc rs) G):FzK G' (.ref p0) Q:=by
 refine fz_rol h.le h.fp h.gp (ss:=rs.map enc) ?_ q
 have:∀ (as:List Nat) (rs:Rows),as.length=rs.length->(∀ a∈as,G a=none)->(∀ (i a:Nat) (r:List T3),as[i]?=some a->rs[i]?=some r->G' a=some (.lst (r.map enc)))->Fzs G' (fun a=>(G a).isNone) (as.map D.ref) (rs.map enc):=by
  intro as
  induction as with
  | nil=>intro rs hl _ _; cases rs with
   | nil=>exact .nil
   | cons _ _=>cases hl
  | cons a as ih =>
   intro rs hl hf hat
   cases rs with
   | nil=>cases hl
   | cons r rs =>
    refine .cons (.ref (hat 0 a r rfl rfl) (by simp [hf a (by simp)]) (Fzs.same _)) ?_
    exact ih rs (by simpa using hl) (fun b hb=>hf b (List.mem_cons_of_mem _ hb)) fun i b s h1 h2=>hat (i+1) b s h1 h2
 exact this as rs h.len h.fr h.at'
theorem set_flat {x:T3} {r r':List T3} (hr:r'.Perm (x :: r)):∀ (rs:Rows) (j:Nat),rs[j]?=some r->(rs.set j r').flatten.Perm (x :: rs.flatten)
 | [],j,h=>by cases h
 | s :: rs,0,h=>by
  cases h
  rw [List.set_cons_zero,List.flatten_cons,List.flatten_cons]
  exact hr.append_right _
 | s :: rs,j+1,h=>by
  rw [List.set_cons_succ,List.flatten_cons,List.flatten_cons]
  exact ((set_flat hr rs j h).append_left s).trans List.perm_middle
structure MI (st:Int) (n:Nat) (name:Int) (L:List T3):Prop where
 off:∃ off:Int,0<=off/\off<=83 * n/\name=(st+off) % 999/\∀ p∈L,∃ o:Int,0 < o/\o<=off/\p.a=(st+o) % 999+1
 nd:(L.map T3.s).Nodup
 way:∀ p∈L,p.b=0\/p.b=1
 hand:∀ p∈L,p.c=1\/p.c=-1
 mate:∀ p∈L,(⟨p.a,1 - p.b,p.c⟩:T3)∈L
 len:L.length=2 * n
theorem MI.perm {st:Int} {n:Nat} {name:Int} {L L':List T3} (h:MI st n name L) (p:L'.Perm L):MI st n name L':=by
 obtain ⟨off,h1,h2,h3,h4⟩:=h.off
 exact ⟨⟨off,h1,h2,h3,fun x hx=>h4 x (p.mem_iff.mp hx)⟩,(p.map _).nodup_iff.mpr h.nd,fun x hx=>h.way x (p.mem_iff.mp hx),fun x hx=>h.hand x (p.mem_iff.mp hx),
  fun x hx=>p.mem_iff.mpr (h.mate x (p.mem_iff.mp hx)),by rw [p.length_eq]; exact h.len⟩
theorem MI.more {st:Int} {n:Nat} {name:Int} {L:List T3} (h:MI st n name L) (hn:n < 12) (c:Int) :
  MI st (n+1) ((name+1+part c 1009 83) % 999) (⟨(name+1+part c 1009 83) % 999+1,1,1 - 2 * part c 1013 2⟩ :: ⟨(name+1+part c 1009 83) % 999+1,0,1 - 2 * part c 1013 2⟩ :: L):=by
 obtain ⟨off,h1,h2,h3,h4⟩:=h.off
 have p1:=part_lo c 1009 (m:=83) (by lia)
 have p2:=part_hi c 1009 (m:=83) (by lia)
 have p3:=part_lo c 1013 (m:=2) (by lia)
 have p4:=part_hi c 1013 (m:=2) (by lia)
 generalize part c 1009 83=a at *
 generalize part c 1013 2=b at *
 have en:(name+1+a) % 999=(st+(off+1+a)) % 999:=by rw [h3]; lia
 have new:∀ p∈L,p.a≠(name+1+a) % 999+1:=by
  intro p hp e
  obtain ⟨o,o1,o2,o3⟩:=h4 p hp
  rw [o3,en] at e
  lia
 have nin:∀ w:Int,(⟨(name+1+a) % 999+1,w⟩:T2)∉L.map T3.s:=by
  intro w hw
  obtain ⟨p,hp,e⟩:=List.mem_map.mp hw
  exact new p hp (by have:=congrArg T2.a e; exact this)
 refine ⟨⟨off+1+a,by lia,by lia,en,?_⟩,?_,?_,?_,?_,by rw [List.length_cons,List.length_cons,h.len]; lia⟩
 ·intro p hp
  rcases List.mem_cons.mp hp with rfl | hp
  ·exact ⟨off+1+a,by lia,by lia,by dsimp only; rw [en]⟩
  ·rcases List.mem_cons.mp hp with rfl | hp
   ·exact ⟨off+1+a,by lia,by lia,by dsimp only; rw [en]⟩
   ·obtain ⟨o,o1,o2,o3⟩:=h4 p hp
    exact ⟨o,o1,by lia,o3⟩
 ·rw [List.map_cons,List.map_cons,List.nodup_cons,List.nodup_cons]
  refine ⟨fun z=>?_,nin 0,h.nd⟩
  rcases List.mem_cons.mp z with z | z
  ·have:=congrArg T2.b z; exact absurd this (by show ¬ (1:Int)=0; decide)
  ·exact nin 1 z
 ·intro p hp
  rcases List.mem_cons.mp hp with rfl | hp
  ·exact .inr rfl
  ·rcases List.mem_cons.mp hp with rfl | hp
   ·exact .inl rfl
   ·exact h.way p hp
 ·intro p hp
  rcases List.mem_cons.mp hp with rfl | hp
  ·dsimp only; lia
  ·rcases List.mem_cons.mp hp with rfl | hp
   ·dsimp only; lia
   ·exact h.hand p hp
 ·intro p hp
  rcases List.mem_cons.mp hp with rfl | hp
  ·exact List.mem_cons_of_mem _ (List.mem_cons_self ..)
  ·rcases List.mem_cons.mp hp with rfl | hp
   ·exact List.mem_cons_self ..
   ·exact List.mem_cons_of_mem _ (List.mem_cons_of_mem _ (h.mate p hp))
noncomputable def rd_law_made:TS2 :=
 (dSeq (dAsg (dComp 1 [] (iRng1 (dVar 1)) (gName 0) none (dLst dNil)) (gName 3))
 (dSeq (dAsg (dVar 2) (gName 4))
 (dSeq (dFor (iSeq (dVar 0)) (gName 5) (dSeq (dAsg (dBin rMod (dBin rAdd (dBin rAdd (dVar 4) (dC (.int 1))) (dCall sp_law_part (dCons (dVar 5) (dCons (dC (.int 1009)) (dCons (dC (.int 83)) dNil))))) (dC (.int 999))) (gName 4))
 (dSeq (dAsg (dBin rSub (dC (.int 1)) (dBin rMul (dC (.int 2)) (dCall sp_law_part (dCons (dVar 5) (dCons (dC (.int 1013)) (dCons (dC (.int 2)) dNil)))))) (gName 6))
 (dFor (iRng1 (dC (.int 2))) (gName 7) (dSeq (dAsg (dBin rIx (dVar 3) (dCall sp_law_part (dCons (dVar 5) (dCons (dBin rAdd (dC (.int 1019)) (dBin rMul (dC (.int 2)) (dVar 7))) (dCons (dVar 1) dNil))))) (gName 8))
 (dExpr (dMt tyL mInsert (dVar 8) (dCons (dCall sp_law_part (dCons (dVar 5) (dCons (dBin rAdd (dC (.int 1031)) (dBin rMul (dC (.int 2)) (dVar 7))) (dCons (dBin rAdd (dCB cLen (dCons (dVar 8) dNil)) (dC (.int 1))) dNil)))) (dCons (dTup (dCons (dBin rAdd (dVar 4) (dC (.int 1))) (dCons (dVar 7) (dCons (dVar 6) dNil)))) dNil)))))))))
 (dRet (dFz (dVar 3))))))
noncomputable def sp_law_madeN:Sp2:=fun ds G Q _=>∃ (d:D) (cs:List Int) (k st:Int),ds=[d,.int k,.int st]/\IsL G d (cs.map D.int)/\(cs.length<=12/\1<=k/\k<=3/\0<=st/\st < 999)/\∀ rows:Rows,Dr rows->rows≠[]->(∀ p∈rows.flatten,1<=p.a/\p.a<=999)->Q (enc rows) G
theorem iAt_of' {G G2:Gp} {d:D} {ds:List D} {R:List D->(Gp->Prop)->Gp->Prop} (h:IsL G d ds) (l:GLe G G2) (k:∀ ok:Gp->Prop,(∀ G',GLe G G'->ok G')->R ds ok G2):iAt d G2 R:=by
 rcases h with rfl | ⟨a,rfl,e⟩
 ·exact k _ fun _ _=>trivial
 ·rw [iAt_lst (l a _ e)]; exact k _ fun G' l=>l a _ e
theorem len_flat {r:List T3}:∀ {rs:Rows},r∈rs->r.length<=rs.flatten.length
 | a :: rs,h=>by
  rw [List.flatten_cons,List.length_append]
  rcases List.mem_cons.mp h with rfl | h
  ·lia
  ·have:=len_flat h; lia
theorem take_ins (x:T3) (r:List T3) (i:Nat):(r.take i++x :: r.drop i).Perm (x :: r):=by
 refine List.perm_middle.trans (.cons _ ?_)
 rw [List.take_append_drop]
theorem OK_law_madeN (ds:List D) (G:Gp) (Q:DK) (h:sp_law_madeN ds G Q fun _ _=>False):rd_law_made (fun _ _=>False) (ends Q) (start2 9 ds) G:=by
 obtain ⟨d,cs,k,st,rfl,hd,⟨hc,hk1,hk3,hs0,hs9⟩,q⟩:=h
 unfold rd_law_made
 simp only [ends,start2,List.map_cons,List.map_nil,List.length_cons,List.length_nil,List.replicate,List.cons_append,List.nil_append,seq_asg,dAsg,dComp,gName,List.set_cons_succ,List.set_cons_zero,dVar,List.getElem?_cons_succ,List.getElem?_cons_zero,iRng1_at,rngAt_int]
 refine ⟨by lia,by lia,szl (by unfold rangeD; rw [List.length_map,List.length_range]; lia),?_⟩
 unfold rangeD
 refine comp_enc (xs:=List.range k.toNat) (fun pre acc τ G'=>(∃ a,τ=[a])/\∃ as:List Nat,acc=as.map D.ref/\as.length=pre.length/\as.Nodup/\(∀ a∈as,G a=none/\G' a=some (.lst []))/\GLe G G') ⟨⟨_,rfl⟩,[],rfl,rfl,List.nodup_nil,(fun a h=>by cases h),.refl G⟩ (fun _ _ _ _ _=>trivial) ?_ ?_
 ·rintro pre x post acc τ G' N e ⟨⟨a,rfl⟩,as,rfl,hl,hn,ha,le⟩ hN
  simp only [gName,dLst,dNil,List.length_nil,List.set_cons_zero]
  refine ⟨by decide,fun p hp=>?_⟩
  refine hN _ _ _ ⟨⟨_,rfl⟩,as++[p],by simp,by simp [hl],?_,?_,le.trans (.new hp)⟩
  ·rw [List.nodup_append]
   refine ⟨hn,by simp,fun a h b hb e=>?_⟩
   rw [List.mem_singleton] at hb
   subst hb e
   rw [(ha a h).2] at hp; cases hp
  ·intro a h0
   rcases List.mem_append.mp h0 with h | h
   ·refine ⟨(ha a h).1,?_⟩
    rw [updG_ne (fun z=>by rw [← z,(ha a h).2] at hp; cases hp)]
    exact (ha a h).2
   ·rw [List.mem_singleton] at h
    subst h
    exact ⟨le.free hp,updG_same⟩
 rintro acc τ G1 ⟨⟨a,rfl⟩,as,rfl,hl,hn,ha,le⟩ p0 hp0
 rw [List.length_range] at hl
 have hr0:HR G (updG G1 p0 (.lst (as.map D.ref))) p0 as (List.replicate as.length []):=by
  refine ⟨le.trans (.new hp0),le.free hp0,updG_same,fun z=>?_,hn,fun a h=>(ha a h).1,by simp,fun i b r hb hr=>?_⟩
  ·rw [(ha p0 z).2] at hp0; cases hp0
  ·have hb':=List.mem_of_getElem? hb
   have:r=[]:=by
    have:=List.mem_of_getElem? hr
    exact List.eq_of_mem_replicate this
   subst this
   rw [updG_ne (by rintro rfl; rw [(ha b hb').2] at hp0; cases hp0)]
   exact (ha b hb').2
 have mi0:MI st 0 st (List.replicate as.length ([]:List T3)).flatten:=by
  have:(List.replicate as.length ([]:List T3)).flatten=[]:=by simp
  rw [this]
  exact ⟨⟨0,by lia,by lia,by lia,fun p h=>by cases h⟩,List.nodup_nil,(fun p h=>by cases h),(fun p h=>by cases h),(fun p h=>by cases h),rfl⟩
 generalize updG G1 p0 (.lst (as.map D.ref))=G2 at *
 refine seq_by (fun τ G'=>(∃ a b c e f,τ=[some d,some (.int k),some (.int st),some (.ref p0),a,b,c,e,f])/\∃ rs,HR G G' p0 as rs/\∃ name,MI st cs.length name rs.flatten) ?_ ?_
 ·intro N hN
  simp only [dFor,iSeq_at,dVar,List.getElem?_cons_zero]
  refine iAt_of' hd hr0.le fun ok hok=>?_
  refine for_enc (xs:=cs) (fun pre τ G'=>∃ name rs,(∃ b c e f,τ=[some d,some (.int k),some (.int st),some (.ref p0),some (.int name),b,c,e,f])/\HR G G' p0 as rs/\MI st pre.length name rs.flatten) ⟨st,_,⟨_,_,_,_,rfl⟩,hr0,mi0⟩ (fun _ _ _ h=>by obtain ⟨_,_,_,h,_⟩:=h; exact hok _ h.le) ?_ ?_
  ·rintro pre c post τ G' N2 e ⟨name,rs,⟨b1,b2,b3,b4,rfl⟩,hr,mi⟩ hN2
   have hpre:pre.length < 12:=by have:=congrArg List.length e; simp at this; lia
   simp only [gName,List.set_cons_succ,List.set_cons_zero,seq_asg,dAsg,dBin,dVar,List.getElem?_cons_succ,List.getElem?_cons_zero,dC,dCall,dCons,dNil,rAdd_int]
   refine ⟨c,1009,83,rfl,⟨by lia,by lia⟩,?_⟩
   simp only [rAdd_int,rMod_int]
   refine ⟨by lia,c,1013,2,rfl,⟨by lia,by lia⟩,?_⟩
   simp only [rMul_int,rSub_int]
   refine ⟨.inl ⟨by decide,by decide⟩,?_⟩
   have more:=mi.more hpre c
   generalize (name+1+part c 1009 83) % 999=nm at *
   generalize 1 - 2 * part c 1013 2=hh at *
   simp only [dFor]
   simp only [iRng1_at,dC,rngAt_int]
   refine ⟨by decide,by decide,?_⟩
   unfold rangeD
   refine for_enc (xs:=List.range (2:Int).toNat) (fun pw τ G'=>∃ rs',(∃ e f,τ=[some d,some (.int k),some (.int st),some (.ref p0),some (.int nm),some (.int c),some (.int hh),e,f])/\HR G G' p0 as rs'/\rs'.flatten.Perm ((pw.map fun (i:Nat)=>(⟨nm+1,0+(i:Int),hh⟩:T3)).reverse++rs.flatten)) ⟨rs,⟨_,_,rfl⟩,hr,.refl _⟩ (fun _ _ _ _=>trivial) ?_ ?_
   ·rintro pw w post2 τ G3 N3 e3 ⟨rs',⟨f1,f2,rfl⟩,hr3,hp3⟩ hN3
    have hw:w < 2:=List.mem_range.mp (show w∈List.range 2 by show w∈List.range (2:Int).toNat; rw [e3]; simp)
    simp only [gName,List.set_cons_succ,List.set_cons_zero,seq_asg,dAsg,dBin,dVar,List.getElem?_cons_succ,List.getElem?_cons_zero,dCall,dCons,dC,dNil,dExpr,dMt,dCB,dTup,List.length_cons,List.length_nil,rAdd_int,rMul_int]
    refine ⟨.inl ⟨by decide,by decide⟩,c,1019+2 * (0+(w:Int)),k,rfl,⟨by lia,by lia⟩,?_⟩
    have j1:=part_lo c (1019+2 * (0+(w:Int))) (m:=k) (by lia)
    have j2:=part_hi c (1019+2 * (0+(w:Int))) (m:=k) (by lia)
    generalize part c (1019+2 * (0+(w:Int))) k=j at *
    have hj:j.toNat < as.length:=by lia
    have ea:as[j.toNat]?=some as[j.toNat]:=List.getElem?_eq_getElem hj
    have er:rs'[j.toNat]?=some (rs'[j.toNat]'(by have:=hr3.len; lia)):=List.getElem?_eq_getElem _
    generalize as[j.toNat]=a at *
    generalize (rs'[j.toNat]'(by have:=hr3.len; lia))=r at *
    have ga:=hr3.at' _ _ _ ea er
    refine rIx_of (x:=.ref a) (IsL.ref hr3.gp) (by
     rw [atI_nat _ j1 (by rw [List.length_map]; lia)]
     rw [List.getElem_map]
     have:=List.getElem?_eq_some_iff.mp ea
     rw [this.2]) ?_
    simp only [tyL_ref,ga,cLen_ref,rAdd_int,true_and]
    refine ⟨.inl ⟨by decide,by decide⟩,c,1031+2 * (0+(w:Int)),_,rfl,⟨by lia,by lia⟩,?_⟩
    rw [List.length_map]
    have i1:=part_lo c (1031+2 * (0+(w:Int))) (m:=(r.length:Int)+1) (by lia)
    have i2:=part_hi c (1031+2 * (0+(w:Int))) (m:=(r.length:Int)+1) (by lia)
    generalize part c (1031+2 * (0+(w:Int))) ((r.length:Int)+1)=i at *
    have hrl:r.length<=1000:=by
     have h1:=len_flat (List.mem_of_getElem? er)
     have h2:=hp3.length_eq
     rw [List.length_append,List.length_reverse,List.length_map,mi.len] at h2
     have h3:=congrArg List.length e3
     rw [List.length_range,List.length_append,List.length_cons] at h3
     have h4:(2:Int).toNat=2:=rfl
     lia
    simp only [mInsert_ref,ga]
    refine ⟨by decide,i1,by rw [List.length_map]; lia,szlt (by rw [List.length_map]; exact hrl),?_⟩
    have ein:(r.map enc).take i.toNat++D.tup [.int (nm+1),.int (0+(w:Int)),.int hh] :: (r.map enc).drop i.toNat=(r.take i.toNat++(⟨nm+1,0+(w:Int),hh⟩:T3) :: r.drop i.toNat).map enc:=by
     rw [List.map_append,List.map_cons,List.map_take,List.map_drop]; rfl
    rw [ein]
    refine hN3 _ _ ⟨_,⟨_,_,rfl⟩,hr3.put ea,?_⟩
    refine (set_flat (take_ins _ _ _) rs' _ er).trans ?_
    rw [List.map_append,List.reverse_append]
    exact .cons _ hp3
   ·rintro τ G3 ⟨rs',⟨f1,f2,rfl⟩,hr3,hp3⟩
    refine hN2 _ _ ⟨nm,rs',⟨_,_,_,_,rfl⟩,hr3,?_⟩
    rw [List.length_append]
    exact more.perm hp3
  ·rintro τ G' ⟨name,rs,⟨b1,b2,b3,b4,rfl⟩,hr,mi⟩
   exact hN _ _ ⟨⟨_,_,_,_,_,rfl⟩,rs,hr,name,mi⟩
 ·rintro _ G' ⟨⟨b0,b1,b2,b3,b4,rfl⟩,rs,hr,name,mi⟩
  simp only [dRet,dFz,dVar,List.getElem?_cons_succ,List.getElem?_cons_zero]
  refine hr.fz (q rs ⟨mi.nd,mi.way,mi.hand,mi.mate,by rw [mi.len]; lia,?_⟩ (fun z=>?_) fun p hp=>?_)
  ·rw [← hr.len,hl]; lia
  ·have:=hr.len
   rw [z,List.length_nil] at this; lia
  ·obtain ⟨off,_,_,_,h4⟩:=mi.off
   obtain ⟨o,_,_,e⟩:=h4 p hp
   rw [e]
   lia
end K12
end K2
end
section
namespace K2
namespace K51
noncomputable def bt (d x:Nat):Bool:=Nat.beq (Nat.land (Nat.shiftRight x d) 1) 1
noncomputable def ndB:Nat->List Nat->Bool
 | _,[]=>true
 | _,[_]=>true
 | 0,_=>false
 | d+1,l=>ndB d (l.filter (bt d))&&ndB d (l.filter fun x=>!bt d x)
theorem nd_split {l:List Nat} (p:Nat->Bool) (h1:(l.filter p).Nodup) (h2:(l.filter fun x=>!p x).Nodup):l.Nodup:=by
 induction l with
 | nil=>exact List.nodup_nil
 | cons x l ih =>
  rw [List.nodup_cons]
  cases hp:p x with
  | true =>
   rw [List.filter_cons_of_pos hp,List.nodup_cons] at h1
   rw [List.filter_cons_of_neg (by rw [hp]; decide)] at h2
   exact ⟨fun z=>h1.1 (List.mem_filter.mpr ⟨z,hp⟩),ih h1.2 h2⟩
  | false =>
   rw [List.filter_cons_of_neg (by rw [hp]; decide)] at h1
   rw [List.filter_cons_of_pos (by rw [hp]; decide),List.nodup_cons] at h2
   exact ⟨fun z=>h2.1 (List.mem_filter.mpr ⟨z,by rw [hp]; decide⟩),ih h1 h2.2⟩
theorem nd_of:∀ (d:Nat) (l:List Nat),ndB d l=true->l.Nodup
 | _,[],_=>List.nodup_nil
 | _,[x],_=>List.nodup_cons.mpr ⟨List.not_mem_nil,List.nodup_nil⟩
 | 0,_ :: _ :: _,h=>Bool.noConfusion (show false=true from h)
 | d+1,x :: y :: l,h=>by
  have h:(ndB d ((x :: y :: l).filter (bt d))&&ndB d ((x :: y :: l).filter fun x=>!bt d x))=true:=h
  rw [Bool.and_eq_true] at h
  exact nd_split (bt d) (nd_of d _ h.1) (nd_of d _ h.2)
noncomputable def hN (t:T2):Nat:=(h2 t+9223372036854775808).toNat
noncomputable def pts:Nat->List T2
 | 0=>[]
 | n+1=>⟨((n+1:Nat):Int),0⟩ :: ⟨((n+1:Nat):Int),1⟩ :: pts n
set_option maxRecDepth 100000 in
theorem pts_nd:ndB 64 ((pts 999).map hN)=true:=by decide +kernel
theorem pts_in:∀ (n:Nat) (t:T2),1<=t.a->t.a<=n->t.b=0\/t.b=1->t∈pts n
 | 0,t,h1,h2,_=>by lia
 | n+1,⟨a,b⟩,h1,h2,h3=>by
  by_cases c:a=((n+1:Nat):Int)
  ·subst c
   rcases h3 with h3 | h3
   ·have h3:b=0:=h3
    subst h3
    exact List.mem_cons_self
   ·have h3:b=1:=h3
    subst h3
    exact List.mem_cons_of_mem _ List.mem_cons_self
  ·exact List.mem_cons_of_mem _ (List.mem_cons_of_mem _ (pts_in n _ h1 (by have:a<=((n+1:Nat):Int):=h2; show a<=(n:Int); lia) h3))
theorem inj_of {α β:Type} {f:α->β}:∀ {l:List α},(l.map f).Nodup->∀ x∈l,∀ y∈l,f x=f y->x=y
 | [],_,x,hx,_,_,_=>by cases hx
 | a :: l,nd,x,hx,y,hy,e=>by
  rw [List.map_cons,List.nodup_cons] at nd
  rcases List.mem_cons.mp hx with q | q
  ·rcases List.mem_cons.mp hy with r | r
   ·rw [q,r]
   ·exact absurd (by rw [← q,e]; exact List.mem_map_of_mem r) nd.1
  ·rcases List.mem_cons.mp hy with r | r
   ·exact absurd (by rw [← r,← e]; exact List.mem_map_of_mem q) nd.1
   ·exact inj_of nd.2 x q y r e
theorem h2_inj {s t:T2} (hs:(1<=s.a/\s.a<=999)/\(s.b=0\/s.b=1)) (ht:(1<=t.a/\t.a<=999)/\(t.b=0\/t.b=1)) (e:h2 s=h2 t):s=t :=
 inj_of (nd_of 64 _ pts_nd) s (pts_in 999 s hs.1.1 hs.1.2 hs.2) t (pts_in 999 t ht.1.1 ht.1.2 ht.2) (by unfold hN; rw [e])
theorem h2_nd:∀ (l:List T2),l.Nodup->(∀ s∈l,(1<=s.a/\s.a<=999)/\(s.b=0\/s.b=1))->(l.map h2).Nodup
 | [],_,_=>List.nodup_nil
 | s :: l,nd,h=>by
  rw [List.nodup_cons] at nd
  rw [List.map_cons,List.nodup_cons]
  refine ⟨fun z=>?_,h2_nd l nd.2 fun t ht=>h t (List.mem_cons_of_mem _ ht)⟩
  obtain ⟨t,ht,e⟩:=List.mem_map.mp z
  have:=h2_inj (h s List.mem_cons_self) (h t (List.mem_cons_of_mem _ ht)) e.symm
  exact nd.1 (this ▸ ht)
end K51
end K2
end
section
namespace K2
open PySem (Str)
open Enc (enc)
namespace K51
open K2.P K2.K12
noncomputable def stp (b s:T2):T2:=if s.b=1 then s else b
noncomputable def goOn:T2->List T2->List (T2×T2)
 | _,[]=>[]
 | b,s :: ss=>(s,stp b s) :: goOn (stp b s) ss
noncomputable def bow0 (ss:List T2) (k:Int):T2:=ss.foldl stp ⟨k,2⟩
noncomputable def prsOn (r:List T3) (k:Int):List (T2×T2):=goOn (bow0 (spotsOn r k) k) (spotsOn r k)
theorem goOn_app:∀ (a c:List T2) (b:T2),goOn b (a++c)=goOn b a++goOn (a.foldl stp b) c
 | [],c,b=>rfl
 | s :: a,c,b=>by rw [List.cons_append,goOn,goOn,goOn_app a c,List.cons_append]; rfl
theorem goOn_keys:∀ (a:List T2) (b:T2),(goOn b a).map (·.1)=a
 | [],_=>rfl
 | s :: a,b=>by rw [goOn,List.map_cons,goOn_keys a]
theorem goOn_len (a:List T2) (b:T2):(goOn b a).length=a.length:=by have:=congrArg List.length (goOn_keys a b); rwa [List.length_map] at this
theorem fold_find:∀ (l:List T2) (b:T2),l.foldl stp b=(l.reverse.find? fun s=>s.b == 1).getD b
 | [],b=>rfl
 | s :: l,b=>by
  rw [List.foldl_cons,fold_find l,List.reverse_cons,List.find?_append]
  cases h:l.reverse.find? fun s=>s.b == 1 with
  | some t=>rfl
  | none =>
   by_cases c:s.b=1
   ·simp [stp,c]
   ·simp [stp,c]
theorem fold_filter:∀ (l:List T2) (b:T2),l.foldl stp b=((l.filter fun s=>s.b == 1).getLast?).getD b
 | [],b=>rfl
 | s :: l,b=>by
  rw [List.foldl_cons,fold_filter l]
  by_cases c:s.b=1
  ·have:(s :: l).filter (fun s=>s.b == 1)=s :: l.filter (fun s=>s.b == 1):=List.filter_cons_of_pos (by simp [c])
   rw [this,List.getLast?_cons,stp,if_pos c]; simp
  ·have:(s :: l).filter (fun s=>s.b == 1)=l.filter (fun s=>s.b == 1):=List.filter_cons_of_neg (by simp [c])
   rw [this,stp,if_neg c]
noncomputable def prsL:Rows->Nat->List (T2×T2)
 | [],_=>[]
 | r :: rs,k=>prsOn r (k:Int)++prsL rs (k+1)
theorem prsL_app:∀ (a b:Rows) (k:Nat),prsL (a++b) k=prsL a k++prsL b (k+a.length)
 | [],b,k=>by simp [prsL]
 | r :: a,b,k=>by rw [List.cons_append,prsL,prsL,prsL_app a b (k+1),List.append_assoc,List.length_cons]; congr 3; lia
theorem prsL_keys:∀ (rs:Rows) (k:Nat),(prsL rs k).map (·.1)=spotsL rs k
 | [],_=>rfl
 | r :: rs,k=>by rw [prsL,spotsL,List.map_append,prsL_keys rs,prsOn,goOn_keys]
theorem prsL_len (rs:Rows) (k:Nat):(prsL rs k).length=(spotsL rs k).length:=by have:=congrArg List.length (prsL_keys rs k); rwa [List.length_map] at this
noncomputable def und (r:List T3) (k:Int):List T2:=(spotsOn r k).filter fun s=>s.b == 1
noncomputable def ubs (r:List T3) (k:Int):List T2:=if und r k=[] then [⟨k,2⟩] else und r k
noncomputable def ubsL:Rows->Nat->List T2
 | [],_=>[]
 | r :: rs,k=>ubs r (k:Int)++ubsL rs (k+1)
theorem spotsOn_ne (r:List T3) (k:Int):spotsOn r k≠[]:=by
 unfold spotsOn
 split
 ·simp
 ·rename_i h; simpa using h
theorem stp_cases (b s:T2):(s.b=1/\stp b s=s)\/(s.b≠1/\stp b s=b):=by
 unfold stp
 by_cases c:s.b=1
 ·exact .inl ⟨c,if_pos c⟩
 ·exact .inr ⟨c,if_neg c⟩
theorem goOn_val:∀ (a:List T2) (b y:T2),y∈(goOn b a).map (·.2)->(y∈a/\y.b=1)\/y=b
 | [],b,y,h=>by cases h
 | s :: a,b,y,h=>by
  rw [goOn,List.map_cons] at h
  rcases List.mem_cons.mp h with e | h
  ·rcases stp_cases b s with ⟨c,e2⟩ | ⟨_,e2⟩
   ·exact .inl ⟨by rw [e,e2]; exact List.mem_cons_self,by rw [e,e2]; exact c⟩
   ·exact .inr (e.trans e2)
  ·rcases goOn_val a _ y h with ⟨h1,h2⟩ | h1
   ·exact .inl ⟨List.mem_cons_of_mem _ h1,h2⟩
   ·rcases stp_cases b s with ⟨c,e2⟩ | ⟨_,e2⟩
    ·exact .inl ⟨by rw [h1,e2]; exact List.mem_cons_self,by rw [h1,e2]; exact c⟩
    ·exact .inr (h1.trans e2)
theorem goOn_und:∀ (a:List T2) (b y:T2),y∈a->y.b=1->y∈(goOn b a).map (·.2)
 | [],b,y,h,_=>by cases h
 | s :: a,b,y,h,hy=>by
  rw [goOn,List.map_cons]
  rcases List.mem_cons.mp h with e | h
  ·subst e
   rw [show stp b y=y from if_pos hy]; exact List.mem_cons_self
  ·exact List.mem_cons_of_mem _ (goOn_und a _ y h hy)
theorem goOn_none:∀ (a:List T2) (b:T2),a≠[]->(a.filter fun s=>s.b == 1)=[]->b∈(goOn b a).map (·.2)
 | [],b,h,_=>absurd rfl h
 | s :: a,b,_,h=>by
  have c:s.b≠1:=fun z=>by
   rw [List.filter_cons_of_pos (by simp [z])] at h; cases h
  rw [goOn,List.map_cons,show stp b s=b from if_neg c]; exact List.mem_cons_self
theorem fold_in (l:List T2) (b:T2):(l.foldl stp b∈l.filter fun s=>s.b == 1)\/((l.filter fun s=>s.b == 1)=[]/\l.foldl stp b=b):=by
 rw [fold_filter]
 cases h:(l.filter fun s=>s.b == 1).getLast? with
 | none=>exact .inr ⟨List.getLast?_eq_none_iff.mp h,rfl⟩
 | some t=>exact .inl (List.mem_of_getLast? h)
theorem prsOn_val (r:List T3) (k:Int) (y:T2):y∈(prsOn r k).map (·.2)↔y∈ubs r k:=by
 unfold prsOn ubs und
 have hne:=spotsOn_ne r k
 generalize spotsOn r k=ss at hne
 constructor
 ·intro h
  rcases goOn_val ss _ y h with ⟨h1,h2⟩ | h1
  ·have:y∈ss.filter fun s=>s.b == 1:=List.mem_filter.mpr ⟨h1,by simp [h2]⟩
   rw [if_neg (fun z=>by rw [z] at this; cases this)]; exact this
  ·unfold bow0 at h1
   rcases fold_in ss ⟨k,2⟩ with h2 | ⟨h2,h3⟩
   ·rw [if_neg (fun z=>by rw [z] at h2; cases h2),h1]; exact h2
   ·rw [if_pos h2,h1,h3]; exact List.mem_singleton_self _
 ·intro h
  by_cases c:(ss.filter fun s=>s.b == 1)=[]
  ·rw [if_pos c] at h
   rw [List.mem_singleton.mp h]
   have:=goOn_none ss (bow0 ss k) hne c
   rcases fold_in ss ⟨k,2⟩ with h2 | ⟨h2,h3⟩
   ·rw [c] at h2; cases h2
   ·unfold bow0 at this ⊢; rw [h3] at this ⊢; exact this
  ·rw [if_neg c] at h
   obtain ⟨h1,h2⟩:=List.mem_filter.mp h
   exact goOn_und ss _ y h1 (by simpa using h2)
theorem prsL_val:∀ (rs:Rows) (k:Nat) (y:T2),y∈(prsL rs k).map (·.2)↔y∈ubsL rs k
 | [],_,_=>Iff.rfl
 | r :: rs,k,y=>by rw [prsL,ubsL,List.map_append,List.mem_append,List.mem_append,prsOn_val,prsL_val rs]
theorem und_in {r:List T3} {k:Int} {y:T2} (h:y∈und r k):y∈r.map T3.s/\y.b=1:=by
 obtain ⟨h1,h2⟩:=List.mem_filter.mp h
 have h2:y.b=1:=by simpa using h2
 unfold spotsOn at h1
 split at h1
 ·rw [List.mem_singleton.mp h1] at h2; exact absurd (show (2:Int)=1 from h2) (by decide)
 ·exact ⟨h1,h2⟩
theorem ubs_in {r:List T3} {k:Int} {y:T2} (h:y∈ubs r k):(y∈r.map T3.s/\y.b=1)\/y=⟨k,2⟩:=by
 unfold ubs at h
 split at h
 ·exact .inr (List.mem_singleton.mp h)
 ·exact .inl (und_in h)
theorem ubsL_in:∀ (rs:Rows) (k:Nat) (y:T2),y∈ubsL rs k->(y∈rs.flatten.map T3.s/\y.b=1)\/(y.b=2/\(k:Int)<=y.a)
 | [],_,_,h=>by cases h
 | r :: rs,k,y,h=>by
  rw [ubsL] at h
  rw [List.flatten_cons,List.map_append]
  rcases List.mem_append.mp h with h | h
  ·rcases ubs_in h with ⟨h1,h2⟩ | rfl
   ·exact .inl ⟨List.mem_append_left _ h1,h2⟩
   ·exact .inr ⟨rfl,Int.le_refl _⟩
  ·rcases ubsL_in rs (k+1) y h with ⟨h1,h2⟩ | ⟨h1,h2⟩
   ·exact .inl ⟨List.mem_append_right _ h1,h2⟩
   ·exact .inr ⟨h1,by lia⟩
theorem und_nd {r:List T3} (k:Int) (h:(r.map T3.s).Nodup):(und r k).Nodup:=by
 unfold und spotsOn
 split
 ·exact (List.Pairwise.filter _ (by simp))
 ·exact h.filter _
theorem ubs_nd {r:List T3} (k:Int) (h:(r.map T3.s).Nodup):(ubs r k).Nodup:=by
 unfold ubs
 split
 ·simp
 ·exact und_nd k h
theorem ubsL_nd:∀ (rs:Rows) (k:Nat),(rs.flatten.map T3.s).Nodup->(ubsL rs k).Nodup
 | [],_,_=>List.nodup_nil
 | r :: rs,k,h=>by
  rw [List.flatten_cons,List.map_append,List.nodup_append] at h
  rw [ubsL,List.nodup_append]
  refine ⟨ubs_nd _ h.1,ubsL_nd rs (k+1) h.2.1,fun a ha b hb e=>?_⟩
  subst e
  rcases ubs_in ha with ⟨h1,h2⟩ | h1
  ·rcases ubsL_in rs _ _ hb with ⟨h3,h4⟩ | ⟨h3,h4⟩
   ·exact h.2.2 a h1 a h3 rfl
   ·rw [h2] at h3; exact absurd h3 (by decide)
  ·rcases ubsL_in rs _ _ hb with ⟨h3,h4⟩ | ⟨h3,h4⟩
   ·rw [h1] at h4; exact absurd h4 (by show ¬ (2:Int)=1; decide)
   ·rw [h1] at h4
    have h4:((k+1:Nat):Int)<=(k:Int):=h4
    lia
noncomputable def bowsL (rows:Rows):List T2:=srt (ubsL rows 0)
theorem bows_of {rows:Rows} (d:Dr rows) {m:List T2} (nd:m.Nodup) (h:∀ y,y∈m↔y∈(prsL rows 0).map (·.2)):srt m=bowsL rows :=
 srt_eq ((List.perm_ext_iff_of_nodup nd (ubsL_nd rows 0 d.nd)).mpr fun y=>(h y).trans (prsL_val rows 0 y))
noncomputable def cnt (r:List T3):Nat:=max 1 (r.filter fun p=>p.b == 1).length
theorem ubs_len (r:List T3) (k:Int):(ubs r k).length=cnt r:=by
 have e:(und r k).length=(r.filter fun p=>p.b == 1).length:=by
  unfold und spotsOn
  split
  ·rename_i h; subst h; rfl
  ·rw [List.filter_map,List.length_map]; rfl
 unfold ubs cnt
 split
 ·rename_i h
  rw [h] at e
  have e:0=(r.filter fun p=>p.b == 1).length:=e
  rw [← e]; rfl
 ·rename_i h
  rw [e]
  have:(r.filter fun p=>p.b == 1).length≠0:=fun z=>h (List.length_eq_zero_iff.mp (e.trans z))
  lia
theorem ubsL_len:∀ (rs:Rows) (k:Nat),(ubsL rs k).length=(rs.map cnt).sum
 | [],_=>rfl
 | r :: rs,k=>by rw [ubsL,List.length_append,ubs_len,ubsL_len rs,List.map_cons,List.sum_cons]
theorem bows_len (rows:Rows):(bowsL rows).length=(rows.map cnt).sum:=by unfold bowsL; rw [srt_len,ubsL_len]
noncomputable def visR (r:List T3) (j:Nat):List T3:=(r.take (j+1)).reverse++(r.drop (j+1)).reverse
noncomputable def lawBow (r:List T3) (k:Int) (j:Nat):T2:=(((visR r j).find? fun p=>p.b == 1).map T3.s).getD ⟨k,2⟩
theorem find_s (l:List T3):(l.map T3.s).find? (fun s=>s.b == 1)=(l.find? fun p=>p.b == 1).map T3.s:=by
 rw [List.find?_map]; rfl
theorem lawBow_eq (r:List T3) (k:Int) (j:Nat) (hr:r≠[]):lawBow r k j=((spotsOn r k).take (j+1)).foldl stp (bow0 (spotsOn r k) k):=by
 have e:spotsOn r k=r.map T3.s:=by unfold spotsOn; rw [if_neg hr]
 rw [e]
 unfold lawBow visR bow0
 rw [fold_find,fold_find,List.find?_append,← List.map_take,← List.map_reverse,find_s,← List.map_reverse,find_s]
 have e2:r.reverse=(r.drop (j+1)).reverse++(r.take (j+1)).reverse:=by rw [← List.reverse_append,List.take_append_drop]
 rw [e2,List.find?_append]
 cases h1:(r.take (j+1)).reverse.find? fun p=>p.b == 1 with
 | some t=>rfl
 | none =>
  cases h2:(r.drop (j+1)).reverse.find? fun p=>p.b == 1 with
  | some t=>rfl
  | none=>rfl
theorem vis_len (r:List T3) (j:Nat):(visR r j).length=r.length:=by
 unfold visR
 rw [List.length_append,List.length_reverse,List.length_reverse,List.length_take,List.length_drop]; lia
theorem vis_at {r:List T3} {j b:Nat} (hj:j < r.length) (hb:b < r.length):∃ p,(visR r j)[b]?=some p/\atI (r.map enc) ((j:Int) - (b:Int))=some (enc p):=by
 unfold visR
 by_cases c:b<=j
 ·refine ⟨r[j - b],?_,?_⟩
  ·rw [List.getElem?_append_left (by rw [List.length_reverse,List.length_take]; lia),List.getElem?_reverse (by rw [List.length_take]; lia),List.length_take,List.getElem?_take_of_lt (by lia),show min (j+1) r.length - 1 - b=j - b by lia,List.getElem?_eq_getElem]
  ·rw [atI_nat _ (by lia) (by rw [List.length_map]; lia)]
   simp only [List.getElem_map]
   congr 3; lia
 ·refine ⟨r[r.length+j - b],?_,?_⟩
  ·rw [List.getElem?_append_right (by rw [List.length_reverse,List.length_take]; lia),List.getElem?_reverse (by rw [List.length_drop,List.length_reverse,List.length_take]; lia),List.length_drop,List.length_reverse,List.length_take,List.getElem?_drop,show j+1+(r.length - (j+1) - 1 - (b - min (j+1) r.length))=r.length+j - b by lia,List.getElem?_eq_getElem]
  ·unfold atI ixN
   rw [if_neg (by lia),List.length_map,if_pos (by lia)]
   show (r.map enc)[((j:Int) - (b:Int)+(r.length:Int)).toNat]?=_
   rw [show ((j:Int) - (b:Int)+(r.length:Int)).toNat=r.length+j - b by lia,List.getElem?_map,List.getElem?_eq_getElem (by lia)]; rfl
end K51
end K2
end
section
namespace K2
open PySem (Str)
open Enc (enc)
namespace K51
open K2.P K2.K12
theorem eq_int (i j:Int):eqD (.int i) (.int j)=decide (i=j):=Enc.eqv i j
theorem ifs_at {c:TT2} {a b:TS2} {E:XK2} {K:Ends2} {τ:St2} {G:Gp}:dIfS c a b E K τ G=c E τ G fun k G1=>if k=true then a E K τ G1 else b E K τ G1:=rfl
noncomputable def rd_bows_on:TS2 :=
 (dSeq (dAsg (dCall sp_spots_on (dCons (dVar 0) (dCons (dVar 1) dNil))) (gName 2))
 (dSeq (dAsg (dComp 1 [] (iSeq (dVar 2)) (gName 0) (some (dTru (dBin (rEq false) (dBin rIx (dVar 0) (dC (.int 1))) (dC (.int 1))))) (dVar 0)) (gName 3))
 (dSeq (dAsg (dIf (dTru (dVar 3)) (dBin rIx (dVar 3) (dUn rNeg (dC (.int 1)))) (dTup (dCons (dVar 1) (dCons (dC (.int 2)) dNil)))) (gName 4))
 (dSeq (dAsg dDic (gName 5))
 (dSeq (dFor (iSeq (dVar 2)) (gName 6) (dSeq (dIfS (dTru (dBin (rEq false) (dBin rIx (dVar 6) (dC (.int 1))) (dC (.int 1)))) (dAsg (dVar 6) (gName 4)) dNext)
 (dAsg (dVar 4) (gSub (dVar 5) (dVar 6)))))
 (dRet (dFz (dVar 5))))))))
noncomputable def sp_bows_on:Sp2:=fun ds G Q _=>∃ (r:List T3) (k:Int),ds=[enc r,.int k]/\((spotsOn r k).Nodup/\r.length<=24)/\Q (.rod (encKV (prsOn r k))) G
theorem spotsOn_len (r:List T3) (k:Int):(spotsOn r k).length<=r.length+1:=by
 unfold spotsOn; split
 ·simp
 ·rw [List.length_map]; lia
theorem OK_bows_on (ds:List D) (G:Gp) (Q:DK) (h:sp_bows_on ds G Q fun _ _=>False):rd_bows_on (fun _ _=>False) (ends Q) (start2 7 ds) G:=by
 obtain ⟨r,k,rfl,⟨nd,hl⟩,q⟩:=h
 have sl:=spotsOn_len r k
 have hne:=spotsOn_ne r k
 unfold rd_bows_on
 simp only [ends,start2,List.map_cons,List.map_nil,List.length_cons,List.length_nil,List.replicate,List.cons_append,List.nil_append,seq_asg,dAsg,dCall,dCons,dVar,List.getElem?_cons_zero,List.getElem?_cons_succ,dNil,gName,List.set_cons_succ,List.set_cons_zero,dComp,dDic,iSeq_at]
 refine ⟨r,k,rfl,by lia,?_⟩
 unfold prsOn at q
 generalize spotsOn r k=ss at nd sl hne q
 refine iAt_enc ⟨szl (by rw [List.length_map]; lia),?_⟩
 refine comp_enc (xs:=ss) (fun pre acc τ G'=>G=G'/\(∃ a,τ=[a])/\acc=(pre.filter fun s=>s.b == 1).map enc) ⟨rfl,⟨_,rfl⟩,rfl⟩ (fun _ _ _ _ _=>trivial) ?_ ?_
 ·rintro pre x post acc τ G' N e ⟨rfl,⟨a,rfl⟩,rfl⟩ hN
  simp only [gName,enc_T2,List.set_cons_zero,dVar,List.getElem?_cons_zero,dTru_at,dBin,dC,rIx_tupM,at1]
  refine ⟨_,_,.int _,.int _,?_⟩
  rw [eq_int]
  by_cases c:x.b=1
  ·simp only [Bool.false_eq_true,c,decide_true,Bool.not_true,if_false,truAt_bl,if_true]
   refine hN _ _ _ ⟨rfl,⟨_,rfl⟩,?_⟩
   rw [List.filter_append,List.map_append,List.filter_cons_of_pos (by simp [c])];
   simp only [List.filter_nil,List.map_cons,List.map_nil,enc_T2,c]
  ·simp only [Bool.false_eq_true,c,decide_false,Bool.not_false,if_false,truAt_bl]
   refine hN _ _ _ ⟨rfl,⟨_,rfl⟩,?_⟩
   rw [List.filter_append,List.filter_cons_of_neg (by simp [c])]; simp
 ·rintro acc τ G' ⟨rfl,⟨a,rfl⟩,rfl⟩ p3 f3
  have fl:=fold_filter ss ⟨k,2⟩
  have ul:(ss.filter fun s=>s.b == 1).length<=ss.length:=List.length_filter_le _ _
  generalize (ss.filter fun s=>s.b == 1)=us at fl ul
  have g3:(updG G p3 (.lst (us.map enc))) p3=some (.lst (us.map enc)):=updG_same
  have l3:GLe G (updG G p3 (.lst (us.map enc))):=.new f3
  generalize updG G p3 (.lst (us.map enc))=G3 at g3 l3
  have pick:∀ (Q2:DK) (E:XK2),Q2 (enc (bow0 ss k)) G3->dIf (dTru (dVar 3)) (dBin rIx (dVar 3) (dUn rNeg (dC (D.int 1)))) (dTup (dCons (dVar 1) (dCons (dC (D.int 2)) dNil))) E [some (enc r),some (D.int k),some (enc ss),some (D.ref p3),none,none,none] G3 Q2:=by
   intro Q2 E q2
   simp only [dIf,dBin,dVar,List.getElem?_cons_succ,List.getElem?_cons_zero,dUn,dC,rNeg_int,dTup,dCons,dNil,List.length_cons,List.length_nil,dTru_at]
   refine truAt_of (IsL.ref g3) ?_
   cases hu:us with
   | nil =>
    simp only [List.map_nil,List.isEmpty_nil,Bool.not_true,Bool.false_eq_true,if_false]
    refine ⟨by decide,?_⟩
    have:bow0 ss k=⟨k,2⟩:=by unfold bow0; rw [fl,hu]; rfl
    rw [this] at q2; exact q2
   | cons u us' =>
    simp only [List.map_cons,List.isEmpty_cons,Bool.not_false,if_true]
    refine rIx_of (IsL.ref g3) (x:=enc (bow0 ss k)) ?_ q2
    unfold bow0
    rw [fl,List.getLast?_eq_getElem?,hu]
    unfold atI ixN
    rw [if_neg (by decide),if_pos (by simp only [List.length_map,List.length_cons]; lia)]
    show (((u :: us').map enc))[((-1:Int)+(((u :: us').map (enc:T2->D)).length:Int)).toNat]?=_
    rw [List.length_map,show ((-1:Int)+(((u :: us').length:Nat):Int)).toNat=(u :: us').length - 1 by simp only [List.length_cons]; lia,List.getElem?_map,List.getElem?_eq_getElem (by simp)]; rfl
  refine pick _ _ ?_
  simp only [dNew]
  intro p5 f5
  have n5:G p5=none:=l3.free f5
  refine seq_by (fun τ G'=>GLe G G'/\G' p5=some (.dic (encKV (goOn (bow0 ss k) ss)))/\∃ a b c d e f,τ=[a,b,c,d,e,some (.ref p5),f]) ?_ ?_
  ·intro N hN
   simp only [dFor,iSeq_at,dVar,List.getElem?_cons_succ,List.getElem?_cons_zero]
   refine iAt_enc ?_
   refine for_enc (xs:=ss) (fun pre τ G'=>GLe G G'/\G' p5=some (.dic (encKV (goOn (bow0 ss k) pre)))/\∃ f,τ=[some (enc r),some (.int k),some (enc ss),some (.ref p3),some (enc (pre.foldl stp (bow0 ss k))),some (.ref p5),f]) ⟨l3.trans (.new f5),updG_same,_,rfl⟩ (fun _ _ _ _=>trivial) ?_ ?_
   ·rintro pre s post τ G' N2 e ⟨le,gp,f,rfl⟩ hN2
    have hlp:pre.length < ss.length:=by have:=congrArg List.length e; simp at this; lia
    have hnew:s∉(goOn (bow0 ss k) pre).map (·.1):=fun z=>by
     rw [goOn_keys] at z
     rw [e,List.nodup_append] at nd
     exact nd.2.2 s z s List.mem_cons_self rfl
    have gl:=goOn_len pre (bow0 ss k)
    refine seq_by (fun τ G2=>G'=G2/\τ=[some (enc r),some (.int k),some (enc ss),some (.ref p3),some (enc (stp (pre.foldl stp (bow0 ss k)) s)),some (.ref p5),some (enc s)]) ?_ ?_
    ·intro N3 hN3
     simp only [enc_T2,List.set_cons_succ,List.set_cons_zero,ifs_at,dAsg,dVar,List.getElem?_cons_succ,List.getElem?_cons_zero,gName,dNext,dTru_at,dBin,dC,rIx_tupM,at1]
     refine ⟨_,_,.int _,.int _,?_⟩
     rw [eq_int]
     by_cases c:s.b=1
     ·simp only [Bool.false_eq_true,c,decide_true,Bool.not_true,if_false,truAt_bl,if_true]
      refine hN3 _ _ ⟨rfl,?_⟩
      rw [show stp (pre.foldl stp (bow0 ss k)) s=s from if_pos c]
      simp only [enc_T2,c]
     ·simp only [Bool.false_eq_true,c,decide_false,Bool.not_false,if_false,truAt_bl]
      refine hN3 _ _ ⟨rfl,?_⟩
      rw [show stp (pre.foldl stp (bow0 ss k)) s=pre.foldl stp (bow0 ss k) from if_neg c]
      simp only [enc_T2]
    ·rintro _ _ ⟨rfl,rfl⟩
     simp only [dAsg,dVar,List.getElem?_cons_succ,List.getElem?_cons_zero,gSub]
     refine P.setIx_dic (k:=s) (v:=stp (pre.foldl stp (bow0 ss k)) s) gp (by lia) ?_
     refine hN2 _ _ ⟨le.put n5,?_,some (enc s),?_⟩
     ·rw [updG_same,goOn_app,aput_new hnew]; rfl
     ·rw [List.foldl_append]; rfl
   ·rintro τ G' ⟨le,gp,f,rfl⟩
    exact hN _ _ ⟨le,gp,_,_,_,_,_,_,rfl⟩
  ·rintro _ G' ⟨le,gp,a,b,c,d,e,f,rfl⟩
   simp only [dRet,dFz,dVar,List.getElem?_cons_succ,List.getElem?_cons_zero]
   exact fz_rod le n5 gp q
noncomputable def rd_bow_at:TS2 :=
 (dSeq (dAsg dDic (gName 1))
 (dSeq (dFor (iEnum (dVar 0)) (gTup (gCons (gName 2) (gCons (gName 3) gNil))) (dExpr (dMt tyC mUpdT (dVar 1) (dCons (dFz (dCall sp_bows_on (dCons (dVar 3) (dCons (dVar 2) dNil)))) dNil))))
 (dRet (dFz (dVar 1)))))
noncomputable def NB (rows:Rows):Prop:=∀ p∈rows.flatten,1<=p.a/\p.a<=999
noncomputable def sp_bow_at:Sp2:=fun ds G Q _=>∃ rows:Rows,ds=[enc rows]/\(Dr rows/\NB rows)/\Q (.rod (encKV (prsL rows 0))) G
theorem row_nd {rows:Rows} (d:Dr rows) {r:List T3} (h:r∈rows):(r.map T3.s).Nodup:=by
 obtain ⟨a,b,e⟩:=List.append_of_mem h
 have:=d.nd
 rw [e,List.flatten_append,List.flatten_cons,List.map_append,List.map_append,List.nodup_append,List.nodup_append] at this
 exact this.2.1.1
theorem row_len {rows:Rows} (d:Dr rows) {r:List T3} (h:r∈rows):r.length<=24:=by
 obtain ⟨a,b,e⟩:=List.append_of_mem h
 have:=d.few
 rw [e,List.flatten_append,List.flatten_cons,List.length_append,List.length_append] at this
 lia
theorem spotsOn_nd {r:List T3} (k:Int) (h:(r.map T3.s).Nodup):(spotsOn r k).Nodup:=by
 unfold spotsOn; split
 ·simp
 ·exact h
theorem prs_few {rows:Rows} (d:Dr rows):(prsL rows 0).length<=27:=by
 rw [prsL_len]
 have:=spotsL_len rows
 have:=d.few
 have:=d.str
 lia
theorem prs_h2 {rows:Rows} (d:Dr rows) (nb:NB rows) {r:List T3} (h:r∈rows) (k:Int):((prsOn r k).map fun p=>h2 p.1).Nodup:=by
 have e:((prsOn r k).map fun p=>h2 p.1)=(spotsOn r k).map h2:=by
  rw [← goOn_keys (spotsOn r k) (bow0 (spotsOn r k) k),List.map_map]; rfl
 rw [e]
 by_cases c:r=[]
 ·subst c
  exact List.nodup_cons.mpr ⟨List.not_mem_nil,List.nodup_nil⟩
 ·have es:spotsOn r k=r.map T3.s:=by unfold spotsOn; rw [if_neg c]
  rw [es]
  refine h2_nd _ (row_nd d h) fun s hs=>?_
  obtain ⟨p,hp,rfl⟩:=List.mem_map.mp hs
  have hp':p∈rows.flatten:=List.mem_flatten.mpr ⟨r,h,hp⟩
  exact ⟨nb p hp',d.way p hp'⟩
theorem OK_bow_at (ds:List D) (G:Gp) (Q:DK) (h:sp_bow_at ds G Q fun _ _=>False):rd_bow_at (fun _ _=>False) (ends Q) (start2 4 ds) G:=by
 obtain ⟨rows,rfl,⟨d,nb⟩,q⟩:=h
 have few:=prs_few d
 unfold rd_bow_at
 simp only [ends,start2,List.map_cons,List.map_nil,List.length_cons,List.length_nil,List.replicate,List.cons_append,List.nil_append,seq_asg,dAsg,dDic,dNew,gName,List.set_cons_succ,List.set_cons_zero]
 intro p hp
 refine seq_by (fun τ G'=>(∃ a b,τ=[some (enc rows),some (.ref p),a,b])/\GLe G G'/\G' p=some (.dic (encKV (prsL rows 0)))) ?_ ?_
 ·intro N hN
  simp only [dFor,iEnum,dVar,List.getElem?_cons_zero]
  refine iEnumAt_enc ?_
  rw [enum_get]
  refine for_enc (xs:=rows.zipIdx 0) (fun pre τ G'=>(∃ a b,τ=[some (enc rows),some (.ref p),a,b])/\GLe G G'/\G' p=some (.dic (encKV (prsL (pre.map (·.1)) 0)))) ⟨⟨_,_,rfl⟩,.new hp,updG_same⟩ (fun _ _ _ _=>trivial) ?_ ?_
  ·rintro pre x post τ G' N2 e ⟨⟨a,b,rfl⟩,l,gp⟩ hN2
   obtain ⟨lft,rgt,e1,e2,e3⟩:=zipIdx_split e
   have hx:x.1∈rows:=by rw [e1]; simp
   have ep:pre.map (·.1)=lft:=by rw [e3,List.zipIdx_map_fst]
   rw [ep] at gp
   have eL:prsL rows 0=(prsL lft 0++prsOn x.1 (x.2:Int))++prsL rgt (lft.length+1):=by
    rw [e1,prsL_app,prsL,e2,Nat.zero_add,List.append_assoc]
   have hlen:(prsL lft 0).length+(prsOn x.1 (x.2:Int)).length<=27:=by
    rw [eL,List.length_append,List.length_append] at few; lia
   have knd:((prsL lft 0++prsOn x.1 (x.2:Int)).map (·.1)).Nodup:=by
    have:=spotsL_nd d
    rw [← prsL_keys,eL,List.map_append,List.nodup_append] at this
    exact this.1
   simp only [gTup,gCons,gName,gNil,dExpr,dMt,dVar,List.set_cons_succ,List.set_cons_zero,List.getElem?_cons_succ,List.getElem?_cons_zero,tyC_ref,gp,dCons,dFz,dCall,dNil,true_and]
   refine ⟨x.1,_,rfl,⟨spotsOn_nd _ (row_nd d hx),row_len d hx⟩,fz_id ?_⟩
   refine ⟨prsL lft 0,prsOn x.1 (x.2:Int),gp,rfl,⟨by lia,knd,fun _=>prs_h2 d nb hx _⟩,?_⟩
   refine hN2 _ _ ⟨⟨_,_,rfl⟩,l.put hp,?_⟩
   rw [updG_same,List.map_append,ep]
   simp only [List.map_cons,List.map_nil]
   rw [prsL_app,prsL,prsL,List.append_nil,e2,Nat.zero_add]
  ·rintro τ G' ⟨⟨a,b,rfl⟩,l,gp⟩
   rw [List.zipIdx_map_fst] at gp
   exact hN _ _ ⟨⟨_,_,rfl⟩,l,gp⟩
 ·rintro _ G' ⟨⟨a,b,rfl⟩,l,gp⟩
  simp only [dRet,dFz,dVar,List.getElem?_cons_succ,List.getElem?_cons_zero]
  exact fz_rod l hp gp q
noncomputable def rd_bows:TS2 :=
 (dRet (dFz (dCB cSortedST (dCons (dLVals (dCall sp_bow_at (dCons (dVar 0) dNil))) dNil))))
noncomputable def sp_bows:Sp2:=fun ds G Q _=>∃ rows:Rows,ds=[enc rows]/\(Dr rows/\NB rows/\rows≠[])/\Q (enc (bowsL rows)) G
theorem prs_pos {rows:Rows} (h:rows≠[]):1<=(prsL rows 0).length:=by
 cases rows with
 | nil=>exact absurd rfl h
 | cons r rs =>
  rw [prsL,List.length_append,prsOn,goOn_len]
  have:=List.length_pos_iff.mpr (spotsOn_ne r ((0:Nat):Int))
  lia
theorem OK_bows (ds:List D) (G:Gp) (Q:DK) (h:sp_bows ds G Q fun _ _=>False):rd_bows (fun _ _=>False) (ends Q) (start2 1 ds) G:=by
 obtain ⟨rows,rfl,⟨d,nb,hne⟩,q⟩:=h
 have few:=prs_few d
 have pos:=prs_pos hne
 unfold rd_bows
 simp only [dRet,dFz,dCB,dCons,dLVals,dCall,dVar,start2,List.map_cons,List.map_nil,List.length_cons,List.length_nil,List.cons_append,List.nil_append,List.getElem?_cons_zero,dNil,ends]
 refine ⟨rows,rfl,⟨d,nb⟩,⟨prsL rows 0,rfl,by lia,fun p1 f1=>?_⟩⟩
 refine ⟨(prsL rows 0).map (·.2),?_,by rw [List.length_map]; lia,fun m nd hm p2 f2=>?_⟩
 ·unfold lstOf; simp only [updG_same]; rw [List.map_map]; rfl
 ·rw [bows_of d nd hm]
  refine fz_enc ((GLe.new f1).trans (.new f2)) ((GLe.new f1).free f2) updG_same q
end K51
end K2
end
section
namespace K2
open PySem (Str)
open Enc (enc)
namespace K51
open K2.P K2.K12
noncomputable def rd_law_bow:TS2 :=
 (dSeq (dFor (iRng1 (dCB cLen (dCons (dVar 0) dNil))) (gName 3) (dIfS (dTru (dBin (rEq false) (dBin rIx (dBin rIx (dVar 0) (dBin rSub (dVar 2) (dVar 3))) (dC (.int 1))) (dC (.int 1)))) (dRet (dFz (dSl (dBin rIx (dVar 0) (dBin rSub (dVar 2) (dVar 3))) dNoPart (dPart (dC (.int 2)))))) dNext))
 (dRet (dFz (dTup (dCons (dVar 1) (dCons (dC (.int 2)) dNil))))))
noncomputable def sp_law_bow:Sp2:=fun ds G Q _=>∃ (r:List T3) (k:Int) (j:Nat),ds=[enc r,.int k,.int j]/\(j < r.length/\r.length<=24)/\Q (enc (lawBow r k j)) G
theorem OK_law_bow (ds:List D) (G:Gp) (Q:DK) (h:sp_law_bow ds G Q fun _ _=>False):rd_law_bow (fun _ _=>False) (ends Q) (start2 4 ds) G:=by
 obtain ⟨r,k,j,rfl,⟨hj,hl⟩,q⟩:=h
 unfold rd_law_bow
 refine seq_by (fun τ G'=>G=G'/\(∀ p∈visR r j,p.b≠1)/\∃ a,τ=[some (enc r),some (.int k),some (.int j),a]) ?_ ?_
 ·intro N hN
  simp only [dFor,start2,List.map_cons,List.map_nil,List.length_cons,List.length_nil,List.replicate,List.cons_append,List.nil_append,ends,iRng1_at,dCB,dCons,dVar,List.getElem?_cons_zero,dNil]
  refine cLen_of (IsL.enc r) ?_
  simp only [List.length_map,rngAt_int]
  refine ⟨by lia,by lia,?_⟩
  rw [Int.toNat_natCast]
  refine for_by (fun pre τ G'=>G=G'/\(∀ i,i < pre.length->∀ p,(visR r j)[i]?=some p->p.b≠1)/\∃ a,τ=[some (enc r),some (.int k),some (.int j),a]) ⟨rfl,fun i hi=>absurd hi (Nat.not_lt_zero _),_,rfl⟩ (fun _ _ _ _=>trivial) ?_ ?_
  ·rintro pre x post τ G' N2 e ⟨rfl,hv,a,rfl⟩ hN2
   obtain ⟨rfl,hlt⟩:=rangeD_mem e
   obtain ⟨p,hp,ha⟩:=vis_at hj hlt
   simp only [gName,List.set_cons_succ,List.set_cons_zero,ifs_at,dRet,dFz,dSl,dBin,dVar,List.getElem?_cons_zero,List.getElem?_cons_succ,dNoPart,dPart_at,dC,partAt_int,rSub_int,dNext,dTru_at]
   refine rIx_of (IsL.enc r) ha ?_
   simp only [enc_T3,rIx_tupM,at1]
   refine ⟨_,_,.int _,.int _,?_⟩
   rw [eq_int]
   by_cases c:p.b=1
   ·simp only [Bool.false_eq_true,c,decide_true,Bool.not_true,if_false,truAt_bl,if_true]
    refine rIx_of (IsL.enc r) ha ?_
    simp only [enc_T3,rSl_tup,List.length_cons,List.length_nil]
    refine ⟨by decide,fz_id ?_⟩
    have:lawBow r k j=p.s:=by
     unfold lawBow
     have:(visR r j).find? (fun p=>p.b == 1)=some p:=by
      rw [List.find?_eq_some_iff_getElem]
      have hi:=(List.getElem?_eq_some_iff.mp hp)
      refine ⟨by simp [c],pre.length,hi.1,hi.2,fun m hm=>?_⟩
      have:=hv m hm _ (List.getElem?_eq_getElem (Nat.lt_trans hm hi.1))
      simp [this]
     rw [this]; rfl
    rw [this] at q
    exact q
   ·simp only [Bool.false_eq_true,c,decide_false,Bool.not_false,if_false,truAt_bl]
    refine hN2 _ _ ⟨rfl,fun i hi p' hp'=>?_,_,rfl⟩
    rw [List.length_append,List.length_singleton] at hi
    by_cases z:i=pre.length
    ·subst z; rw [hp] at hp'; cases hp'; exact c
    ·exact hv i (by lia) p' hp'
  ·rintro τ G' ⟨rfl,hv,a,rfl⟩
   refine hN _ _ ⟨rfl,fun p hp=>?_,_,rfl⟩
   obtain ⟨i,hi,e⟩:=List.getElem_of_mem hp
   refine hv i ?_ p (by rw [List.getElem?_eq_getElem hi,e])
   rw [vis_len] at hi
   simpa [rangeD] using hi
 ·rintro _ _ ⟨rfl,hv,a,rfl⟩
  simp only [dRet,dFz,dTup,dCons,dVar,List.getElem?_cons_succ,List.getElem?_cons_zero,dC,dNil,List.length_cons,List.length_nil,ends]
  refine ⟨by decide,fz_id ?_⟩
  have:lawBow r k j=⟨k,2⟩:=by
   unfold lawBow
   have:(visR r j).find? (fun p=>p.b == 1)=none:=by
    rw [List.find?_eq_none]
    intro p hp z
    exact hv p hp (by simpa using z)
   rw [this]; rfl
  rw [this] at q; exact q
noncomputable def rd_law_homes:TS2 :=
 (dSeq (dAsg dDic (gName 1))
 (dSeq (dFor (iEnum (dVar 0)) (gTup (gCons (gName 2) (gCons (gName 3) gNil))) (dSeq (dIfS (dTru (dBin (rEq false) (dVar 3) (dLst dNil))) (dAsg (dTup (dCons (dVar 2) (dCons (dC (.int 2)) dNil))) (gSub (dVar 1) (dTup (dCons (dVar 2) (dCons (dC (.int 2)) dNil))))) dNext)
 (dFor (iRng1 (dCB cLen (dCons (dVar 3) dNil))) (gName 4) (dAsg (dCall sp_law_bow (dCons (dVar 3) (dCons (dVar 2) (dCons (dVar 4) dNil)))) (gSub (dVar 1) (dSl (dBin rIx (dVar 3) (dVar 4)) dNoPart (dPart (dC (.int 2)))))))))
 (dRet (dFz (dVar 1)))))
noncomputable def sp_law_homes:Sp2:=sp_bow_at
theorem take_succ' {α:Type} {l:List α} {j:Nat} (h:j < l.length):l.take (j+1)=l.take j++[l[j]]:=by rw [List.take_append_getElem h]
theorem OK_law_homes (ds:List D) (G:Gp) (Q:DK) (h:sp_law_homes ds G Q fun _ _=>False):rd_law_homes (fun _ _=>False) (ends Q) (start2 5 ds) G:=by
 obtain ⟨rows,rfl,⟨d,_⟩,q⟩:=h
 have few:=prs_few d
 unfold rd_law_homes
 simp only [ends,start2,List.map_cons,List.map_nil,List.length_cons,List.length_nil,List.replicate,List.cons_append,List.nil_append,seq_asg,dAsg,dDic,dNew,gName,List.set_cons_succ,List.set_cons_zero]
 intro p hp
 refine seq_by (fun τ G'=>(∃ a b c,τ=[some (enc rows),some (.ref p),a,b,c])/\GLe G G'/\G' p=some (.dic (encKV (prsL rows 0)))) ?_ ?_
 ·intro N hN
  simp only [dFor,iEnum,dVar,List.getElem?_cons_zero]
  refine iEnumAt_enc ?_
  rw [enum_get]
  refine for_enc (xs:=rows.zipIdx 0) (fun pre τ G'=>(∃ a b c,τ=[some (enc rows),some (.ref p),a,b,c])/\GLe G G'/\G' p=some (.dic (encKV (prsL (pre.map (·.1)) 0)))) ⟨⟨_,_,_,rfl⟩,.new hp,updG_same⟩ (fun _ _ _ _=>trivial) ?_ ?_
  ·rintro pre x post τ G' N2 e ⟨⟨a,b,c,rfl⟩,l,gp⟩ hN2
   obtain ⟨lft,rgt,e1,e2,e3⟩:=zipIdx_split e
   have hx:x.1∈rows:=by rw [e1]; simp
   have ep:pre.map (·.1)=lft:=by rw [e3,List.zipIdx_map_fst]
   rw [ep] at gp
   have eL:prsL rows 0=(prsL lft 0++prsOn x.1 (x.2:Int))++prsL rgt (lft.length+1):=by
    rw [e1,prsL_app,prsL,e2,Nat.zero_add,List.append_assoc]
   have hlen:(prsL lft 0).length+(prsOn x.1 (x.2:Int)).length<=27:=by
    rw [eL,List.length_append,List.length_append] at few; lia
   have knd:((prsL lft 0++prsOn x.1 (x.2:Int)).map (·.1)).Nodup:=by
    have:=spotsL_nd d
    rw [← prsL_keys,eL,List.map_append,List.nodup_append] at this
    exact this.1
   have eN:prsL ((pre++[x]).map (·.1)) 0=prsL lft 0++prsOn x.1 (x.2:Int):=by
    rw [List.map_append,ep]
    simp only [List.map_cons,List.map_nil]
    rw [prsL_app,prsL,prsL,List.append_nil,e2,Nat.zero_add]
   rw [eN] at hN2
   have rl:=row_len d hx
   obtain ⟨r,k⟩:=x
   simp only at hlen knd hN2 rl
   generalize hL0:prsL lft 0=L0 at hlen knd hN2 gp
   simp only [gTup,gCons,gName,gNil,List.set_cons_succ,List.set_cons_zero]
   by_cases hr:r=[]
   ·subst hr
    have ePr:prsOn [] (k:Int)=[((⟨k,2⟩:T2),(⟨k,2⟩:T2))]:=rfl
    rw [ePr] at hN2 hlen knd
    have hnew:(⟨k,2⟩:T2)∉L0.map (·.1):=fun z=>by
     rw [List.map_append,List.nodup_append] at knd
     exact knd.2.2 _ z _ (by simp) rfl
    refine seq_by (fun τ G2=>GLe G G2/\G2 p=some (.dic (encKV (L0++[((⟨k,2⟩:T2),(⟨k,2⟩:T2))])))/\τ=[some (enc rows),some (.ref p),some (.int k),some (enc ([]:List T3)),c]) ?_ ?_
    ·intro N3 hN3
     simp only [ifs_at,dAsg,dTup,dCons,dVar,List.getElem?_cons_succ,List.getElem?_cons_zero,dC,dNil,List.length_cons,List.length_nil,dNext,dTru_at,dBin,dLst]
     refine ⟨by decide,fun p2 f2=>?_⟩
     refine ⟨_,_,.rnil,.ref updG_same .rnil,?_⟩
     have:eqD (.rol []) (.rol [])=true:=rfl
     simp only [Bool.false_eq_true,this,Bool.not_true,if_false,gSub,dVar,List.getElem?_cons_succ,List.getElem?_cons_zero,dTup,dCons,dC,dNil,List.length_cons,List.length_nil,truAt_bl,if_true]
     refine ⟨by decide,?_⟩
     have np:p≠p2:=fun z=>by rw [← z,gp] at f2; cases f2
     refine ⟨by decide,P.setIx_dic (k:=(⟨k,2⟩:T2)) (v:=(⟨k,2⟩:T2)) (l:=L0) ((GLe.new f2) _ _ gp) (by simp only [List.length_cons,List.length_nil] at hlen; lia) ?_⟩
     refine hN3 _ _ ⟨(l.trans (.new f2)).put hp,?_,rfl⟩
     rw [updG_same,aput_new hnew]
    ·rintro _ G2 ⟨l2,g2,rfl⟩
     simp only [dFor,iRng1_at,dCB,dCons,dVar,List.getElem?_cons_succ,List.getElem?_cons_zero,dNil]
     refine cLen_of (IsL.enc ([]:List T3)) ?_
     simp only [List.map_nil,List.length_nil,rngAt_int]
     refine ⟨by decide,by decide,?_⟩
     refine for_by (fun pre τ G'=>pre=[]/\G2=G'/\τ=[some (enc rows),some (.ref p),some (.int k),some (enc ([]:List T3)),c]) ⟨rfl,rfl,rfl⟩ (fun _ _ _ _=>trivial) ?_ ?_
     ·rintro pre y post τ G3 N3 e4 _ _
      have:=congrArg List.length e4
      simp [rangeD] at this
     ·rintro τ G3 ⟨_,rfl,rfl⟩
      exact hN2 _ _ ⟨⟨_,_,_,rfl⟩,l2,g2⟩
   ·refine seq_by (fun τ G2=>GLe G G2/\G2 p=some (.dic (encKV L0))/\τ=[some (enc rows),some (.ref p),some (.int k),some (enc r),c]) ?_ ?_
    ·intro N3 hN3
     simp only [ifs_at,dAsg,dTup,dCons,dVar,List.getElem?_cons_succ,List.getElem?_cons_zero,dC,dNil,List.length_cons,List.length_nil,dNext,dTru_at,dBin,dLst]
     refine ⟨by decide,fun p2 f2=>?_⟩
     refine ⟨_,_,Enc.sn _ _ _ (by decide),.ref updG_same .rnil,?_⟩
     have:eqD (enc r) (.rol [])=false:=by
      have:=Enc.eqv r []
      rw [show (enc ([]:List T3):D)=.rol [] from rfl] at this
      rw [this]; simp [hr]
     simp only [Bool.false_eq_true,this,Bool.not_false,if_false,truAt_bl]
     exact hN3 _ _ ⟨l.trans (.new f2),(GLe.new f2) _ _ gp,rfl⟩
    ·rintro _ G2 ⟨l2,g2,rfl⟩
     have es:spotsOn r (k:Int)=r.map T3.s:=by unfold spotsOn; rw [if_neg hr]
     have ss:(spotsOn r (k:Int)).length=r.length:=by rw [es,List.length_map]
     simp only [dFor,iRng1_at,dCB,dCons,dVar,List.getElem?_cons_succ,List.getElem?_cons_zero,dNil]
     refine cLen_of (IsL.enc r) ?_
     simp only [List.length_map,rngAt_int]
     refine ⟨by lia,by lia,?_⟩
     rw [Int.toNat_natCast]
     refine for_by (fun pre τ G'=>GLe G G'/\G' p=some (.dic (encKV (L0++goOn (bow0 (spotsOn r k) k) ((spotsOn r k).take pre.length))))/\∃ a,τ=[some (enc rows),some (.ref p),some (.int k),some (enc r),a]) ⟨l2,by rw [List.length_nil,List.take_zero]; show _=some (GO.dic (encKV (L0++[]))); rw [List.append_nil]; exact g2,_,rfl⟩ (fun _ _ _ _=>trivial) ?_ ?_
     ·rintro pr y po τ G3 N3 e4 ⟨l3,g3,a,rfl⟩ hN3
      obtain ⟨rfl,hlt⟩:=rangeD_mem e4
      have ha:atI (r.map enc) ((pr.length:Nat):Int)=some (enc r[pr.length]):=by
       rw [atI_nat _ (by lia) (by rw [List.length_map]; lia)]
       simp only [List.getElem_map,Int.toNat_natCast]
      simp only [gName,dAsg,dCall,dCons,dVar,List.set_cons_succ,List.set_cons_zero,List.getElem?_cons_succ,List.getElem?_cons_zero,dNil,gSub,dSl,dBin,dNoPart,dPart_at,dC,partAt_int]
      refine ⟨r,k,pr.length,rfl,⟨hlt,rl⟩,?_⟩
      refine rIx_of (IsL.enc r) ha ?_
      simp only [enc_T3,rSl_tup,List.length_cons,List.length_nil,cut_s]
      have et:(spotsOn r (k:Int)).take (pr.length+1)=(spotsOn r (k:Int)).take pr.length++[(r[pr.length]).s]:=by
       rw [take_succ' (by lia)]; congr 2; simp [es]
      have ev:lawBow r k pr.length=stp (((spotsOn r (k:Int)).take pr.length).foldl stp (bow0 (spotsOn r k) k)) (r[pr.length]).s:=by
       rw [lawBow_eq r k pr.length hr,et,List.foldl_append]; rfl
      have hnew:(r[pr.length]).s∉(L0++goOn (bow0 (spotsOn r k) k) ((spotsOn r k).take pr.length)).map (·.1):=fun z=>by
       have e5:prsOn r (k:Int)=goOn (bow0 (spotsOn r k) k) ((spotsOn r k).take pr.length)++goOn (((spotsOn r k).take pr.length).foldl stp (bow0 (spotsOn r k) k)) ((spotsOn r k).drop pr.length):=by
        unfold prsOn
        rw [← goOn_app,List.take_append_drop]
       rw [e5,← List.append_assoc,List.map_append,List.nodup_append] at knd
       refine knd.2.2 _ z _ ?_ rfl
       rw [goOn_keys,List.mem_drop_iff_getElem]
       exact ⟨0,by lia,by simp [es]⟩
      refine ⟨by decide,P.setIx_dic (k:=(r[pr.length]).s) (v:=lawBow r k pr.length) g3 ?_ ?_⟩
      ·rw [List.length_append,goOn_len,List.length_take]; lia
      ·refine hN3 _ _ ⟨l3.put hp,?_,_,rfl⟩
       rw [updG_same,aput_new hnew,List.length_append,List.length_singleton,et,goOn_app,ev,List.append_assoc]; rfl
     ·rintro τ G3 ⟨l3,g3,a,rfl⟩
      refine hN2 _ _ ⟨⟨_,_,_,rfl⟩,l3,?_⟩
      rw [g3,show (rangeD 0 r.length).length=r.length by simp [rangeD],List.take_of_length_le (by lia)]; rfl
  ·rintro τ G' ⟨⟨a,b,c,rfl⟩,l,gp⟩
   rw [List.zipIdx_map_fst] at gp
   exact hN _ _ ⟨⟨_,_,_,rfl⟩,l,gp⟩
 ·rintro _ G' ⟨⟨a,b,c,rfl⟩,l,gp⟩
  simp only [dRet,dFz,dVar,List.getElem?_cons_succ,List.getElem?_cons_zero]
  exact fz_rod l hp gp q
end K51
end K2
end
section
namespace K2
open PySem (Str)
open Enc (enc)
namespace K51
open K2.P
open K2.K12 hiding rd_law_made
noncomputable def rd_law_bows:TS2 :=
 (dSeq (dAsg (dCall sp_law_homes (dCons (dVar 0) dNil)) (gName 1))
 (dRet (dFz (dCB cSortedST (dCons (dComp 1 [1] (iDict (dVar 1)) (gName 0) none (dBin rIx (dVar 1) (dVar 0))) dNil)))))
noncomputable def sp_law_bows:Sp2:=sp_bows
theorem prs_nd {rows:Rows} (d:Dr rows):((prsL rows 0).map (·.1)).Nodup:=by rw [prsL_keys]; exact spotsL_nd d
theorem OK_law_bows (ds:List D) (G:Gp) (Q:DK) (h:sp_law_bows ds G Q fun _ _=>False):rd_law_bows (fun _ _=>False) (ends Q) (start2 2 ds) G:=by
 obtain ⟨rows,rfl,⟨d,nb,hne⟩,q⟩:=h
 have few:=prs_few d
 have pos:=prs_pos hne
 have bo:=fun m nd hm=>bows_of (m:=m) d nd hm
 have knd:=prs_nd d
 unfold rd_law_bows
 simp only [ends,start2,List.map_cons,List.map_nil,List.length_cons,List.length_nil,List.replicate,List.cons_append,List.nil_append,seq_asg,dAsg,dCall,dCons,dVar,List.getElem?_cons_zero,dNil,gName,dRet,dFz,dCB,dComp,List.set_cons_succ,List.set_cons_zero]
 refine ⟨rows,rfl,⟨d,nb⟩,?_⟩
 generalize prsL rows 0=l at few pos bo knd
 simp only [iDict,dVar,List.getElem?_cons_succ,List.getElem?_cons_zero,iDictAt]
 have ek:(encKV l).map (·.1)=l.map fun p=>enc p.1:=by unfold encKV; rw [List.map_map]; rfl
 rw [ek]
 refine ⟨szl (by rw [List.length_map]; lia),?_⟩
 refine comp_enc (xs:=l) (f:=fun p=>enc p.1) (fun pre acc τ G'=>G=G'/\(∃ a,τ=[a,some (.rod (encKV l))])/\acc=pre.map fun p=>enc p.2) ⟨rfl,⟨_,rfl⟩,rfl⟩ (fun _ _ _ _ _=>trivial) ?_ ?_
 ·rintro pre x post acc τ G' N e ⟨rfl,⟨a,rfl⟩,rfl⟩ hN
  have hx:x∈l:=by rw [e]; simp
  simp only [gName,dBin,dVar,List.set_cons_zero,List.getElem?_cons_succ,List.getElem?_cons_zero,rIx_rod,look_enc,aget_of_mem knd hx,Option.map_some]
  exact ⟨kindOk_enc _ _,hN _ _ _ ⟨rfl,⟨_,rfl⟩,by rw [List.map_append]; rfl⟩⟩
 ·rintro acc τ G' ⟨rfl,⟨a,rfl⟩,rfl⟩ p1 f1
  refine ⟨l.map (·.2),?_,by rw [List.length_map]; lia,fun m nd hm p2 f2=>?_⟩
  ·unfold lstOf; simp only [updG_same]; rw [List.map_map]; rfl
  ·rw [bo m nd hm]
   exact fz_enc ((GLe.new f1).trans (.new f2)) ((GLe.new f1).free f2) updG_same q
noncomputable def rd_law_spot:TS2 :=
 (dRet (dFz (dAndV (dIsi "tuple" (dVar 0)) (dAndV (dBin (rEq false) (dCB cLen (dCons (dVar 0) dNil)) (dC (.int 2))) (dAndV (dCall sp_law_whole (dCons (dBin rIx (dVar 0) (dC (.int 0))) dNil)) (dCall sp_law_whole (dCons (dBin rIx (dVar 0) (dC (.int 1))) dNil)))))))
noncomputable def sp_law_spot:Sp2:=fun ds G Q _=>∃ s:T2,ds=[enc s]/\Q (.bl true) G
theorem OK_law_spot (ds:List D) (G:Gp) (Q:DK) (h:sp_law_spot ds G Q fun _ _=>False):rd_law_spot (fun _ _=>False) (ends Q) (start2 1 ds) G:=by
 obtain ⟨s,rfl,q⟩:=h
 unfold rd_law_spot
 simp only [dRet,dFz,start2,enc_T2,List.map_cons,List.map_nil,List.length_cons,List.length_nil,List.cons_append,List.nil_append,ends,dAndV_at,dBin,dCB,dCons,dVar,List.getElem?_cons_zero,dNil,dC,dCall,rIx_tupM,cLen_tup,dIsi_at,isAt_tup,truAt_bl]
 refine ⟨_,_,.int _,.int _,?_⟩
 rw [eq_int]
 simp only [Bool.false_eq_true,if_false,at0,at1,truAt_bl]
 refine ⟨_,rfl,?_⟩
 simp only [truAt_bl,if_true]
 exact ⟨_,rfl,fz_id q⟩
noncomputable def rd_law_right:TS2 :=
 (dSeq (dIfS (dOr (dNot (dTru (dIsi "dict" (dVar 1)))) (dNot (dTru (dIsi "list" (dVar 2))))) (dRet (dFz (dC (.bl false)))) dNext)
 (dSeq (dFor (iSeq (dBin rAdd (dBin rAdd (dCB cListR (dCons (dVar 1) dNil)) (dLVals (dVar 1))) (dVar 2))) (gName 3) (dIfS (dNot (dTru (dCall sp_law_spot (dCons (dVar 3) dNil)))) (dRet (dFz (dC (.bl false)))) dNext))
 (dSeq (dAsg (dC (.int 0)) (gName 4))
 (dSeq (dFor (iSeq (dVar 0)) (gName 5) (dAsg (dBin rAdd (dVar 4) (dCB cMax (dCons (dC (.int 1)) (dCons (dCB cLen (dCons (dComp 1 [] (iSeq (dVar 5)) (gName 0) (some (dTru (dBin (rEq false) (dBin rIx (dVar 0) (dC (.int 1))) (dC (.int 1))))) (dVar 0)) dNil)) dNil)))) (gName 4)))
 (dRet (dFz (dAndV (dBin (rEqT false) (dVar 1) (dCall sp_law_homes (dCons (dVar 0) dNil))) (dAndV (dBin (rEq false) (dVar 2) (dCall sp_law_bows (dCons (dVar 0) dNil))) (dBin (rEq false) (dCB cLen (dCons (dVar 2) dNil)) (dVar 4))))))))))
noncomputable def sp_law_right:Sp2:=fun ds G Q _=>∃ rows:Rows,ds=[enc rows,.rod (encKV (prsL rows 0)),enc (bowsL rows)]/\(Dr rows/\NB rows/\rows≠[])/\Q (.bl true) G
theorem eqKT_self {l:List (T2×T2)} (h:(l.map (·.1)).Nodup):eqKT l l=true:=by
 unfold eqKT
 rw [Bool.and_eq_true]
 refine ⟨by simp,List.all_eq_true.mpr fun p hp=>?_⟩
 rw [aget_of_mem h hp]; simp
theorem bows_few {rows:Rows} (d:Dr rows):(bowsL rows).length<=27:=by
 rw [bows_len]
 have h1:=d.few
 have h2:=d.str
 have go:∀ rs:Rows,(rs.map cnt).sum<=rs.flatten.length+rs.length:=fun rs=>by
  induction rs with
  | nil=>exact Nat.le_refl _
  | cons r rs ih =>
   rw [List.map_cons,List.sum_cons,List.flatten_cons,List.length_append,List.length_cons]
   have:cnt r<=r.length+1:=by
    unfold cnt
    have:=List.length_filter_le (fun p:T3=>p.b == 1) r
    lia
   lia
 have:=go rows
 lia
theorem OK_law_right (ds:List D) (G:Gp) (Q:DK) (h:sp_law_right ds G Q fun _ _=>False):rd_law_right (fun _ _=>False) (ends Q) (start2 6 ds) G:=by
 obtain ⟨rows,rfl,⟨d,nb,hne⟩,q⟩:=h
 have few:=prs_few d
 have bf:=bows_few d
 have bl:=bows_len rows
 have knd:=prs_nd d
 have hP:∀ G (Q:DK),Q (.rod (encKV (prsL rows 0))) G->sp_law_homes [enc rows] G Q fun _ _=>False:=fun G Q q=>⟨rows,rfl,⟨d,nb⟩,q⟩
 have hB:∀ G (Q:DK),Q (enc (bowsL rows)) G->sp_law_bows [enc rows] G Q fun _ _=>False:=fun G Q q=>⟨rows,rfl,⟨d,nb,hne⟩,q⟩
 unfold rd_law_right
 generalize prsL rows 0=l at few knd hP
 generalize bowsL rows=bs at bf bl hB
 have e0:(enc bs:D)=.rol (bs.map enc):=rfl
 rw [e0]
 refine seq_by (fun τ G'=>G=G'/\τ=[some (enc rows),some (.rod (encKV l)),some (.rol (bs.map enc)),none,none,none]) ?_ ?_
 ·intro N hN
  simp only [ends,start2,List.map_cons,List.map_nil,List.length_cons,List.length_nil,List.replicate,List.cons_append,List.nil_append,ifs_at,dOr,dNot,dRet,dFz,dC,dNext,if_true,dTru_at,dIsi_at,dVar,List.getElem?_cons_succ,List.getElem?_cons_zero]
  simp only [dIsi,isAt,Bool.not_true,Bool.false_eq_true,if_false]
  exact hN _ _ ⟨rfl,rfl⟩
 rintro _ _ ⟨rfl,rfl⟩
 refine seq_by (fun τ G'=>GLe G G'/\∃ a,τ=[some (enc rows),some (.rod (encKV l)),some (.rol (bs.map enc)),a,none,none]) ?_ ?_
 ·intro N hN
  simp only [dFor,ends,iSeq_at,dBin,dCB,dCons,dVar,List.getElem?_cons_succ,List.getElem?_cons_zero,dNil,dLVals]
  refine ⟨l,rfl,by lia,fun p1 f1=>⟨l,rfl,by lia,fun p2 f2=>?_⟩⟩
  refine addL_of (IsL.ref ((GLe.new f2) _ _ updG_same)) (IsL.ref updG_same) (szl (by rw [List.length_map,List.length_map]; lia)) fun p3 f3=>?_
  rw [rAdd_ref]
  refine addL_of (IsL.ref updG_same) IsL.rol (szl (by rw [List.length_append,List.length_map,List.length_map,List.length_map]; lia)) fun p4 f4=>?_
  have l4:=((((GLe.new (o:=.lst (l.map fun p=>enc p.1)) f1).trans (.new (o:=.lst (l.map fun p=>enc p.2)) f2)).trans (.new (o:=.lst (l.map (fun p=>enc p.1)++l.map fun p=>enc p.2)) f3)).trans (.new (o:=.lst ((l.map (fun p=>enc p.1)++l.map fun p=>enc p.2)++bs.map enc)) f4))
  have e4:((l.map (fun p=>enc p.1)++l.map fun p=>enc p.2)++bs.map enc)=((l.map (·.1)++l.map (·.2))++bs).map (enc:T2->D):=by
   rw [List.map_append,List.map_append,List.map_map,List.map_map]; rfl
  have g4:=updG_same (G:=updG (updG (updG G p1 (.lst (l.map fun p=>enc p.1))) p2 (.lst (l.map fun p=>enc p.2))) p3 (.lst (l.map (fun p=>enc p.1)++l.map fun p=>enc p.2))) (a:=p4) (o:=.lst ((l.map (fun p=>enc p.1)++l.map fun p=>enc p.2)++bs.map enc))
  rw [iAt_lst g4,e4]
  rw [e4] at g4 l4
  generalize updG (updG (updG (updG G p1 (.lst (l.map fun p=>enc p.1))) p2 (.lst (l.map fun p=>enc p.2))) p3 (.lst (l.map (fun p=>enc p.1)++l.map fun p=>enc p.2))) p4 (.lst (((l.map (·.1)++l.map (·.2))++bs).map enc))=G4 at g4 l4
  refine for_enc (xs:=(l.map (·.1)++l.map (·.2))++bs) (fun pre τ G'=>G4=G'/\∃ a,τ=[some (enc rows),some (.rod (encKV l)),some (.rol (bs.map enc)),a,none,none]) ⟨rfl,_,rfl⟩ (fun _ _ _ h=>by rw [← h.1]; exact g4) ?_ ?_
  ·rintro pre s post τ G' N2 e ⟨rfl,a,rfl⟩ hN2
   simp only [gName,List.set_cons_succ,List.set_cons_zero,ifs_at,dNot,dRet,dFz,dC,dNext,dTru_at,dCall,dCons,dVar,List.getElem?_cons_succ,List.getElem?_cons_zero,dNil]
   refine ⟨s,rfl,?_⟩
   simp only [truAt_bl,Bool.not_true,Bool.false_eq_true,if_false]
   exact hN2 _ _ ⟨rfl,_,rfl⟩
  ·rintro τ G' ⟨rfl,a,rfl⟩
   exact hN _ _ ⟨l4,_,rfl⟩
 rintro _ G1 ⟨le1,a,rfl⟩
 simp only [ends,seq_asg,dAsg,dC,gName,List.set_cons_succ,List.set_cons_zero]
 refine seq_by (fun τ G'=>GLe G G'/\∃ a b,τ=[some (enc rows),some (.rod (encKV l)),some (.rol (bs.map enc)),a,some (.int ((rows.map cnt).sum:Nat)),b]) ?_ ?_
 ·intro N hN
  simp only [dFor,iSeq_at,dVar,List.getElem?_cons_zero]
  refine iAt_enc ?_
  refine for_enc (xs:=rows) (fun pre τ G'=>GLe G G'/\∃ a b,τ=[some (enc rows),some (.rod (encKV l)),some (.rol (bs.map enc)),a,some (.int ((pre.map cnt).sum:Nat)),b]) ⟨le1,_,_,rfl⟩ (fun _ _ _ _=>trivial) ?_ ?_
  ·rintro pre r post τ G' N2 e ⟨le,a0,b,rfl⟩ hN2
   have hr:r∈rows:=by rw [e]; simp
   have rl:=row_len d hr
   simp only [gName,dAsg,dBin,dVar,List.set_cons_succ,List.set_cons_zero,List.getElem?_cons_succ,List.getElem?_cons_zero,dCB,dCons,dC,dComp,dNil,iSeq_at]
   refine iAt_enc ⟨szl (by rw [List.length_map]; lia),?_⟩
   refine comp_enc (xs:=r) (fun pr acc τ G2=>G'=G2/\(∃ a,τ=[a])/\acc=(pr.filter fun s=>s.b == 1).map enc) ⟨rfl,⟨_,rfl⟩,rfl⟩ (fun _ _ _ _ _=>trivial) ?_ ?_
   ·rintro pr x po acc τ G2 N3 e3 ⟨rfl,⟨a,rfl⟩,rfl⟩ hN3
    simp only [gName,enc_T3,List.set_cons_zero,dVar,List.getElem?_cons_zero,dTru_at,dBin,dC,rIx_tupM,at1]
    refine ⟨_,_,.int _,.int _,?_⟩
    rw [eq_int]
    by_cases c:x.b=1
    ·simp only [Bool.false_eq_true,c,decide_true,Bool.not_true,if_false,truAt_bl,if_true]
     refine hN3 _ _ _ ⟨rfl,⟨_,rfl⟩,?_⟩
     rw [List.filter_append,List.map_append,List.filter_cons_of_pos (by simp [c])]
     simp only [List.filter_nil,List.map_cons,List.map_nil,enc_T3,c]
    ·simp only [Bool.false_eq_true,c,decide_false,Bool.not_false,if_false,truAt_bl]
     refine hN3 _ _ _ ⟨rfl,⟨_,rfl⟩,?_⟩
     rw [List.filter_append,List.filter_cons_of_neg (by simp [c])]; simp
   ·rintro acc τ G2 ⟨rfl,⟨a,rfl⟩,rfl⟩ p3 f3
    refine cLen_of (IsL.ref updG_same) ?_
    simp only [List.length_map]
    have ec:(if (1:Int) < (((r.filter fun s=>s.b == 1).length:Nat):Int) then (((r.filter fun s=>s.b == 1).length:Nat):Int) else 1)=((cnt r:Nat):Int):=by
     unfold cnt
     split <;> lia
    simp only [cMax,ec,rAdd_int]
    refine hN2 _ _ ⟨le.trans (.new f3),a0,some (enc r),?_⟩
    rw [List.map_append,List.sum_append]
    simp
  ·rintro τ G' ⟨le,a,b,rfl⟩
   exact hN _ _ ⟨le,_,_,rfl⟩
 ·rintro _ G2 ⟨le,a,b,rfl⟩
  simp only [dRet,dFz,dAndV_at,dBin,dVar,List.getElem?_cons_succ,List.getElem?_cons_zero,dCall,dCons,dNil,dCB,cLen_rol]
  refine hP _ _ ⟨l,l,rfl,rfl,eqKT_self knd,?_⟩
  simp only [Bool.not_false,truAt_bl,if_true]
  refine hB _ _ ?_
  rw [← e0]
  refine rEq_enc (by decide) ?_
  simp only [Bool.false_eq_true,decide_true,Bool.not_true,if_false,truAt_bl,if_true]
  refine ⟨_,_,.int _,.int _,?_⟩
  rw [eq_int,List.length_map,bl]
  simp only [decide_true]
  exact fz_drop le q
noncomputable def rd_law_made:TS2 :=
 (dSeq (dAsg (dComp 1 [] (iRng1 (dVar 1)) (gName 0) none (dLst dNil)) (gName 3))
 (dSeq (dAsg (dVar 2) (gName 4))
 (dSeq (dFor (iSeq (dVar 0)) (gName 5) (dSeq (dAsg (dBin rMod (dBin rAdd (dBin rAdd (dVar 4) (dC (.int 1))) (dCall sp_law_part (dCons (dVar 5) (dCons (dC (.int 1009)) (dCons (dC (.int 83)) dNil))))) (dC (.int 999))) (gName 4))
 (dSeq (dAsg (dBin rSub (dC (.int 1)) (dBin rMul (dC (.int 2)) (dCall sp_law_part (dCons (dVar 5) (dCons (dC (.int 1013)) (dCons (dC (.int 2)) dNil)))))) (gName 6))
 (dFor (iRng1 (dC (.int 2))) (gName 7) (dSeq (dAsg (dBin rIx (dVar 3) (dCall sp_law_part (dCons (dVar 5) (dCons (dBin rAdd (dC (.int 1019)) (dBin rMul (dC (.int 2)) (dVar 7))) (dCons (dVar 1) dNil))))) (gName 8))
 (dExpr (dMt tyL mInsert (dVar 8) (dCons (dCall sp_law_part (dCons (dVar 5) (dCons (dBin rAdd (dC (.int 1031)) (dBin rMul (dC (.int 2)) (dVar 7))) (dCons (dBin rAdd (dCB cLen (dCons (dVar 8) dNil)) (dC (.int 1))) dNil)))) (dCons (dTup (dCons (dBin rAdd (dVar 4) (dC (.int 1))) (dCons (dVar 7) (dCons (dVar 6) dNil)))) dNil)))))))))
 (dRet (dFz (dVar 3))))))
noncomputable def sp_law_made:Sp2:=K12.sp_law_madeN
theorem OK_law_made (ds:List D) (G:Gp) (Q:DK) (h:sp_law_made ds G Q fun _ _=>False):rd_law_made (fun _ _=>False) (ends Q) (start2 9 ds) G:=K12.OK_law_madeN ds G Q h
noncomputable def rd_law:TS2 :=
 (dSeq (dAsg (dCall sp_law_cell (dCons (dVar 0) (dCons (dC (.int 0)) dNil))) (gName 1))
 (dSeq (dAsg (dCall sp_law_made (dCons (dSl (dVar 0) (dPart (dC (.int 1))) (dPart (dC (.int 13)))) (dCons (dBin rAdd (dC (.int 1)) (dBin rMod (dVar 1) (dC (.int 3)))) (dCons (dBin rMod (dBin rFdiv (dVar 1) (dC (.int 3))) (dC (.int 999))) dNil)))) (gName 2))
 (dSeq (dAsg (dCall sp_law_made (dCons (dSl (dVar 0) (dPart (dC (.int 2))) (dPart (dC (.int 6)))) (dCons (dBin rAdd (dC (.int 1)) (dBin rMod (dBin rFdiv (dVar 1) (dC (.int 3))) (dC (.int 3)))) (dCons (dC (.int 500)) dNil)))) (gName 3))
 (dSeq (dFzV 4 (dAsg (dComp 1 [] (iSeq (dVar 2)) (gName 0) none (dFz (dCB cList (dCons (dVar 0) dNil)))) (gName 4)))
 (dSeq (dAsg (dCall sp_bow_at (dCons (dVar 4) dNil)) (gName 5))
 (dSeq (dAsg (dCall sp_bow_at (dCons (dVar 3) dNil)) (gName 6))
 (dSeq (dAsg (dCall sp_bows (dCons (dVar 4) dNil)) (gName 7))
 (dSeq (dIfS (dOr (dTru (dBin (rEq true) (dVar 4) (dVar 2))) (dNot (dTru (dCall sp_law_right (dCons (dVar 2) (dCons (dVar 5) (dCons (dVar 7) dNil))))))) (dRet (dFz (dC (.bl false)))) dNext)
 (dRet (dFz (dCall sp_law_right (dCons (dVar 3) (dCons (dVar 6) (dCons (dCall sp_bows (dCons (dVar 3) dNil)) dNil))))))))))))))
noncomputable def sp_law:Sp2:=spLaw
theorem dFzV_at {i:Nat} {t:TS2} {E:XK2} {K:Ends2} {τ:St2} {G:Gp}:dFzV i t E K τ G=t E { K with nx:=fun τ1 G1=>match τ1[i]? with
 | some (some d)=>FzK G1 d fun t G2=>K.nx (τ1.set i (some t)) G2
 | _=>False } τ G:=rfl
theorem OK_law (ds:List D) (G:Gp) (Q:DK) (h:sp_law ds G Q fun _ _=>False):rd_law (fun _ _=>False) (ends Q) (start2 8 ds) G:=by
 obtain ⟨ns,rfl,hl,hG,q⟩:=h
 unfold rd_law
 simp only [ends,start2,List.map_cons,List.map_nil,List.length_cons,List.length_nil,List.replicate,List.cons_append,List.nil_append,seq_asg,dAsg,dCall,dCons,dVar,List.getElem?_cons_zero,dC,dNil,gName,List.set_cons_succ,List.set_cons_zero,dSl,dBin,List.getElem?_cons_succ,rSl_rol,dPart_at,partAt_int]
 refine ⟨ns,0,rfl,Int.le_refl _,?_⟩
 generalize cellI ns 0=fi
 simp only [rFdiv_int,rMod_int,rAdd_int]
 rw [cut_map,cut_map]
 intro p1 h1
 refine ⟨by decide,by decide,by decide,by decide,.ref p1,cut ns (some 1) (some 13),_,_,rfl,IsL.ref updG_same,⟨?_,by lia,by lia,by lia,by lia⟩,fun rows dr hne nb=>?_⟩
 ·unfold cut
  rw [show sIx ns.length 0 (some 1)=min 1 ns.length from rfl,show sIx ns.length ns.length (some 13)=min 13 ns.length from rfl]
  simp only [List.length_take,List.length_drop]; lia
 intro p2 h2
 refine ⟨by decide,by decide,by decide,.ref p2,cut ns (some 2) (some 6),_,_,rfl,IsL.ref updG_same,⟨?_,by lia,by lia,by lia,by lia⟩,fun others dr2 hne2 nb2=>?_⟩
 ·unfold cut
  rw [show sIx ns.length 0 (some 2)=min 2 ns.length from rfl,show sIx ns.length ns.length (some 6)=min 6 ns.length from rfl]
  simp only [List.length_take,List.length_drop]; lia
 generalize updG (updG G p1 (.lst ((cut ns (some 1) (some 13)).map D.int))) p2 (.lst ((cut ns (some 2) (some 6)).map D.int))=G2
 have hstr:=dr.str
 simp only [seq_step,dFzV_at,dAsg,dComp,gName,List.set_cons_succ,List.set_cons_zero,List.getElem?_cons_succ,List.getElem?_cons_zero,dCall,dCons,dVar,dNil,iSeq_at]
 refine ⟨szl (by rw [List.length_map]; lia),?_⟩
 refine comp_enc (xs:=rows) (fun pre acc τ G'=>G2=G'/\(∃ a,τ=[a])/\acc=pre.map enc) ⟨rfl,⟨_,rfl⟩,rfl⟩ (fun _ _ _ _ _=>trivial) ?_ ?_
 ·rintro pre r post acc τ G' N e ⟨rfl,⟨a,rfl⟩,rfl⟩ hN
  simp only [gName,dFz,dCB,dCons,dVar,List.set_cons_zero,List.getElem?_cons_zero,dNil]
  refine cList_of (IsL.enc r) fun p3 h3=>?_
  refine fz_enc (.new h3) h3 updG_same ?_
  exact hN _ _ _ ⟨rfl,⟨_,rfl⟩,by simp⟩
 rintro acc τ G' ⟨rfl,⟨a,rfl⟩,rfl⟩ p3 h3
 refine fz_enc (xs:=rows) (.new h3) h3 updG_same ?_
 refine ⟨rows,rfl,⟨dr,nb⟩,?_⟩
 refine ⟨others,rfl,⟨dr2,nb2⟩,?_⟩
 refine ⟨rows,rfl,⟨dr,nb,hne⟩,?_⟩
 simp only [ifs_at,dOr,dRet,dFz,dC,dNext,dCall,dCons,dVar,List.getElem?_cons_succ,List.getElem?_cons_zero,dNil,if_true,dNot,dTru_at,dBin]
 refine rEq_enc (by decide) ?_
 simp only [decide_true,Bool.not_true,if_true,truAt_bl,Bool.false_eq_true,if_false]
 refine ⟨rows,rfl,⟨dr,nb,hne⟩,?_⟩
 simp only [truAt_bl,Bool.not_true,Bool.false_eq_true,if_false]
 refine ⟨others,rfl,⟨dr2,nb2,hne2⟩,?_⟩
 exact ⟨others,rfl,⟨dr2,nb2,hne2⟩,fz_id (q _)⟩
end K51
end K2
end
namespace Fin
open PySem PySem.Spec PyProof.Rows L2 K2
open K2.K12 hiding rd_law_made
open K2.K51
open K2.P
noncomputable def top (i:Nat):Stmt:=PySem.Challenge.pw_knotwise_k51_bows.main.body.getD i (.Pass ⟨0,0,0,0⟩)
section
variable {P:Program} {w:World} {K:PySem.W.Frag} {mg:Str->Option Value} {base:Heap}
theorem sc_law_cell:FnScope ["_law_script","_law_k"] ["_law_script","_law_k"] (defScope (top 7)):=scm
theorem fn_law_cell {f:Addr} {fd:FuncData} (F:Fun K "_law_cell" "_law_cell" (top 7) f fd) (no_len:mg "len" = none):FnOk P w K mg base CX0 1 f fd ["_law_script","_law_k"] (spOf K sp_law_cell) :=
 fo2 F sc_law_cell OK_law_cell fun _ _ _ _ _ _ hr=>have hu:=hr.units; have hu0:=hr.units0; (pss2_cons (ps2_if (pt2_cmp (op2_lt hu0) (pv2 1) (pe2_callB call2_len rfl no_len bt_len (pa2_cons (pv2 0) pa2_nil)) (nomark _)) (pss2_one (ps2_ret (pe2_fz (pe2_ix hu (pv2 0) (pv2 1) (fun _ _=>rfl))))) pss2_nil)
 (pss2_one (ps2_ret (pe2_fz pe2_int))))
theorem sc_law_part:FnScope ["_law_cell_here","_law_prime","_law_many"] ["_law_cell_here","_law_prime","_law_many"] (defScope (top 8)):=scm
theorem fn_law_part {f:Addr} {fd:FuncData} (F:Fun K "_law_part" "_law_part" (top 8) f fd):FnOk P w K mg base CX0 1 f fd ["_law_cell_here","_law_prime","_law_many"] (spOf K sp_law_part) :=
 fo2 F sc_law_part OK_law_part fun _ _ _ _ _ _ hr=>(pss2_one (ps2_ret (pe2_fz (pe2_op op2_mod (pe2_op op2_mod (pe2_op op2_mul (pv2 0) pe2_int) (pv2 1)) (pv2 2)))))
theorem sc_law_made:FnScope ["_law_cells","_law_strings","_law_start","_law_rows","_law_name","_law_cell_here","_law_hand","_law_way","_law_row"] ["_law_cells","_law_strings","_law_start"] (defScope (top 10)):=scm
theorem fn_law_made {f:Addr} {fd:FuncData} (F:Fun K "_law_made" "_law_made" (top 10) f fd) (no_len:mg "len" = none) (no_range:mg "range" = none) {f_law_part:Addr} {d_law_part:FuncData} (ok_law_part:FnOk P w K mg base CX0 1 f_law_part d_law_part ["_law_cell_here","_law_prime","_law_many"] (spOf K sp_law_part)) (mg_law_part:mg "_law_part" = some (.ref f_law_part)) (kp_law_part:PySem.W.keepIn K (.ref f_law_part)=true) (bi_law_part:Binds K d_law_part ["_law_cell_here","_law_prime","_law_many"] []):FnOk P w K mg base CX0 2 f fd ["_law_cells","_law_strings","_law_start"] (spOf K sp_law_made) :=
 fo2 F sc_law_made OK_law_made fun _ _ _ _ _ _ hr=>have nd:=sc_law_made.nd; have hu:=hr.units; (pss2_cons (ps2_setC ["_law_k"] (sc:=defScope (top 10)) (XN:=["_law_cells","_law_strings","_law_start","_law_rows","_law_name","_law_cell_here","_law_hand","_law_way","_law_row"]) (i:=3) nd rfl rfl (pi2_range1 rfl no_range (pv2 1)) (fun _ _ _ _=>(pgn (i:=0) (show (["_law_k"]:List Str).Nodup by decide +kernel) rfl)) (fun _ _ _ _=>.none) (fun _ _ _ _=>(pe2_lst pa2_nil)))
 (pss2_cons (pst (i:=4) nd rfl (pv2 2))
 (pss2_cons (ps2_for PassesOwn.never rfl (pi2_seq (pv2 0)) (pgn (i:=5) nd rfl) (pss2_cons (pst (i:=4) nd rfl (pe2_op op2_mod (pe2_op op2_add (pe2_op op2_add (pv2 4) pe2_int) (pe2_callS ok_law_part (hr.mono (by decide)) rfl mg_law_part kp_law_part bi_law_part (pa2_cons (pv2 5) (pa2_cons pe2_int (pa2_cons pe2_int pa2_nil))))) pe2_int))
 (pss2_cons (pst (i:=6) nd rfl (pe2_op op2_sub pe2_int (pe2_op op2_mul pe2_int (pe2_callS ok_law_part (hr.mono (by decide)) rfl mg_law_part kp_law_part bi_law_part (pa2_cons (pv2 5) (pa2_cons pe2_int (pa2_cons pe2_int pa2_nil)))))))
 (pss2_one (ps2_for PassesOwn.never rfl (pi2_range1 rfl no_range pe2_int) (pgn (i:=7) nd rfl) (pss2_cons (pst (i:=8) nd rfl (pe2_ix hu (pv2 3) (pe2_callS ok_law_part (hr.mono (by decide)) rfl mg_law_part kp_law_part bi_law_part (pa2_cons (pv2 5) (pa2_cons (pe2_op op2_add pe2_int (pe2_op op2_mul pe2_int (pv2 7))) (pa2_cons (pv2 1) pa2_nil)))) (fun _ _=>rfl)))
 (pss2_one (ps2_expr (pe2_bm PySem.F.plainAttrs_list PySem.F.slot_list_insert PySem.F.type_list_insert ty2_list mt2_insert (pv2 8) (pa2_cons (pe2_callS ok_law_part (hr.mono (by decide)) rfl mg_law_part kp_law_part bi_law_part (pa2_cons (pv2 5) (pa2_cons (pe2_op op2_add pe2_int (pe2_op op2_mul pe2_int (pv2 7))) (pa2_cons (pe2_op op2_add (pe2_callB call2_len rfl no_len bt_len (pa2_cons (pv2 8) pa2_nil)) pe2_int) pa2_nil)))) (pa2_cons (pe2_tup (pa2_cons (pe2_op op2_add (pv2 4) pe2_int) (pa2_cons (pv2 7) (pa2_cons (pv2 6) pa2_nil)))) pa2_nil)))))))))))
 (pss2_one (ps2_ret (pe2_fz (pv2 3)))))))
theorem sc_spots_on:FnScope ["row","string"] ["row","string"] (defScope (top 1)):=scm
theorem fn_spots_on {f:Addr} {fd:FuncData} (F:Fun K "spots_on" "spots_on" (top 1) f fd):FnOk P w K mg base CX0 1 f fd ["row","string"] (spOf K sp_spots_on) :=
 fo2 F sc_spots_on OK_spots_on fun _ _ _ _ _ _ hr=>(pss2_cons (ps2_if (pt2_not (pt2_truth (pv2 0))) (pss2_one (ps2_ret (pe2_fz (pe2_lst (pa2_cons (pe2_tup (pa2_cons (pv2 1) (pa2_cons pe2_int pa2_nil))) pa2_nil))))) pss2_nil)
 (pss2_one (ps2_ret (pe2_fz (pe2_comp ["passing"] (sc:=defScope (top 1)) (XN:=["row","string"]) (pi2_seq (pv2 0)) (fun _ _ _ _=>(pgn (i:=0) (show (["passing"]:List Str).Nodup by decide +kernel) rfl)) (fun _ _ _ _=>.none) (fun _ _ _ _=>(pe2_slice (pv2 0) po2_none (po2_some pe2_int))))))))
theorem sc_bows_on:FnScope ["row","string","spots","unders","bow","found","spot"] ["row","string"] (defScope (top 3)):=scm
theorem fn_bows_on {f:Addr} {fd:FuncData} (F:Fun K "bows_on" "bows_on" (top 3) f fd) {f_spots_on:Addr} {d_spots_on:FuncData} (ok_spots_on:FnOk P w K mg base CX0 1 f_spots_on d_spots_on ["row","string"] (spOf K sp_spots_on)) (mg_spots_on:mg "spots_on" = some (.ref f_spots_on)) (kp_spots_on:PySem.W.keepIn K (.ref f_spots_on)=true) (bi_spots_on:Binds K d_spots_on ["row","string"] []):FnOk P w K mg base CX0 2 f fd ["row","string"] (spOf K sp_bows_on) :=
 fo2 F sc_bows_on OK_bows_on fun _ _ _ _ _ _ hr=>have nd:=sc_bows_on.nd; have hu:=hr.units; (pss2_cons (pst (i:=2) nd rfl (pe2_callS ok_spots_on (hr.mono (by decide)) rfl mg_spots_on kp_spots_on bi_spots_on (pa2_cons (pv2 0) (pa2_cons (pv2 1) pa2_nil))))
 (pss2_cons (ps2_setC ["spot"] (sc:=defScope (top 3)) (XN:=["row","string","spots","unders","bow","found","spot"]) (i:=3) nd rfl rfl (pi2_seq (pv2 2)) (fun _ _ _ _=>(pgn (i:=0) (show (["spot"]:List Str).Nodup by decide +kernel) rfl)) (fun _ _ _ _=>(.some (pt2_cmp (op2_eq hu) (pe2_ix hu (pv2 0) pe2_int (fun _ _=>rfl)) pe2_int (nomark _)))) (fun _ _ _ _=>(pv2 0)))
 (pss2_cons (pst (i:=4) nd rfl (pe2_if (pt2_truth (pv2 3)) (pe2_ix hu (pv2 3) (pe2_un un2_neg pe2_int) (fun _ _=>rfl)) (pe2_tup (pa2_cons (pv2 1) (pa2_cons pe2_int pa2_nil)))))
 (pss2_cons (pst (i:=5) nd rfl pe2_dic)
 (pss2_cons (ps2_for PassesOwn.never rfl (pi2_seq (pv2 2)) (pgn (i:=6) nd rfl) (pss2_cons (ps2_if (pt2_cmp (op2_eq hu) (pe2_ix hu (pv2 6) pe2_int (fun _ _=>rfl)) pe2_int (nomark _)) (pss2_one (pst (i:=4) nd rfl (pv2 6))) pss2_nil)
 (pss2_one (ps2_asg (pv2 4) (pg2_sub hu (pv2 5) (pv2 6))))))
 (pss2_one (ps2_ret (pe2_fz (pv2 5)))))))))
theorem sc_bow_at:FnScope ["drawing","found","string","row"] ["drawing"] (defScope (top 4)):=scm
theorem fn_bow_at {f:Addr} {fd:FuncData} (F:Fun K "bow_at" "bow_at" (top 4) f fd) (no_enumerate:mg "enumerate" = none) {f_bows_on:Addr} {d_bows_on:FuncData} (ok_bows_on:FnOk P w K mg base CX0 2 f_bows_on d_bows_on ["row","string"] (spOf K sp_bows_on)) (mg_bows_on:mg "bows_on" = some (.ref f_bows_on)) (kp_bows_on:PySem.W.keepIn K (.ref f_bows_on)=true) (bi_bows_on:Binds K d_bows_on ["row","string"] []):FnOk P w K mg base CX0 3 f fd ["drawing"] (spOf K sp_bow_at) :=
 fo2 F sc_bow_at OK_bow_at fun _ _ _ _ _ _ hr=>have nd:=sc_bow_at.nd; have hu:=hr.units; (pss2_cons (pst (i:=1) nd rfl pe2_dic)
 (pss2_cons (ps2_for PassesOwn.never rfl (pi2_enum rfl no_enumerate (pv2 0)) (pg2_tup rfl (pgs2_cons (pgn (i:=2) nd rfl) (pgs2_cons (pgn (i:=3) nd rfl) pgs2_nil)) (glen_name (glen_name glen_nil))) (pss2_one (ps2_expr (pe2_bm PySem.F.plainAttrs_dict PySem.F.slot_dict_update PySem.F.type_dict_update ty2_dict (mt2_updT hu) (pv2 1) (pa2_cons (pe2_fz (pe2_callS ok_bows_on (hr.mono (by decide)) rfl mg_bows_on kp_bows_on bi_bows_on (pa2_cons (pv2 3) (pa2_cons (pv2 2) pa2_nil)))) pa2_nil)))))
 (pss2_one (ps2_ret (pe2_fz (pv2 1))))))
theorem sc_bows:FnScope ["drawing"] ["drawing"] (defScope (top 5)):=scm
theorem fn_bows {f:Addr} {fd:FuncData} (F:Fun K "bows" "bows" (top 5) f fd) (no_list:mg "list" = none) (no_set:mg "set" = none) (no_sorted:mg "sorted" = none) {f_bow_at:Addr} {d_bow_at:FuncData} (ok_bow_at:FnOk P w K mg base CX0 3 f_bow_at d_bow_at ["drawing"] (spOf K sp_bow_at)) (mg_bow_at:mg "bow_at" = some (.ref f_bow_at)) (kp_bow_at:PySem.W.keepIn K (.ref f_bow_at)=true) (bi_bow_at:Binds K d_bow_at ["drawing"] []):FnOk P w K mg base CX0 4 f fd ["drawing"] (spOf K sp_bows) :=
 fo2 F sc_bows OK_bows fun _ _ _ _ _ _ hr=>have hu:=hr.units; (pss2_one (ps2_ret (pe2_fz (pe2_sortedsetT rfl hu rfl no_sorted rfl no_set (pa2_cons (pe2_lvals rfl rfl no_list (pe2_callS ok_bow_at (hr.mono (by decide)) rfl mg_bow_at kp_bow_at bi_bow_at (pa2_cons (pv2 0) pa2_nil))) pa2_nil)))))
theorem sc_law_whole:FnScope ["_law_found"] ["_law_found"] (defScope (top 9)):=scm
theorem fn_law_whole {f:Addr} {fd:FuncData} (F:Fun K "_law_whole" "_law_whole" (top 9) f fd) (no_bool:mg "bool" = none) (no_int:mg "int" = none) (no_isinstance:mg "isinstance" = none):FnOk P w K mg base CX0 1 f fd ["_law_found"] (spOf K sp_law_whole) :=
 fo2 F sc_law_whole OK_law_whole fun _ _ _ _ _ _ hr=>(pss2_one (ps2_ret (pe2_fz (pe2_and (pe2_isi "int" (by decide) rfl no_isinstance rfl no_int bt_int (pv2 0)) (pe2_one (pe2_not (pe2_isi "bool" (by decide) rfl no_isinstance rfl no_bool bt_bool (pv2 0))))))))
theorem sc_law_spot:FnScope ["_law_found"] ["_law_found"] (defScope (top 14)):=scm
theorem fn_law_spot {f:Addr} {fd:FuncData} (F:Fun K "_law_spot" "_law_spot" (top 14) f fd) (no_isinstance:mg "isinstance" = none) (no_len:mg "len" = none) (no_tuple:mg "tuple" = none) {f_law_whole:Addr} {d_law_whole:FuncData} (ok_law_whole:FnOk P w K mg base CX0 1 f_law_whole d_law_whole ["_law_found"] (spOf K sp_law_whole)) (mg_law_whole:mg "_law_whole" = some (.ref f_law_whole)) (kp_law_whole:PySem.W.keepIn K (.ref f_law_whole)=true) (bi_law_whole:Binds K d_law_whole ["_law_found"] []):FnOk P w K mg base CX0 2 f fd ["_law_found"] (spOf K sp_law_spot) :=
 fo2 F sc_law_spot OK_law_spot fun _ _ _ _ _ _ hr=>have hu:=hr.units; (pss2_one (ps2_ret (pe2_fz (pe2_and (pe2_isi "tuple" (by decide) rfl no_isinstance rfl no_tuple bt_tuple (pv2 0)) (pe2_and (pe2_cmp (op2_eq hu) (pe2_callB call2_len rfl no_len bt_len (pa2_cons (pv2 0) pa2_nil)) pe2_int (nomark _)) (pe2_and (pe2_callS ok_law_whole (hr.mono (by decide)) rfl mg_law_whole kp_law_whole bi_law_whole (pa2_cons (pe2_ix hu (pv2 0) pe2_int (fun _ _=>rfl)) pa2_nil)) (pe2_one (pe2_callS ok_law_whole (hr.mono (by decide)) rfl mg_law_whole kp_law_whole bi_law_whole (pa2_cons (pe2_ix hu (pv2 0) pe2_int (fun _ _=>rfl)) pa2_nil)))))))))
theorem sc_law_bow:FnScope ["_law_row","_law_at","_law_k","_law_back"] ["_law_row","_law_at","_law_k"] (defScope (top 11)):=scm
theorem fn_law_bow {f:Addr} {fd:FuncData} (F:Fun K "_law_bow" "_law_bow" (top 11) f fd) (no_len:mg "len" = none) (no_range:mg "range" = none):FnOk P w K mg base CX0 1 f fd ["_law_row","_law_at","_law_k"] (spOf K sp_law_bow) :=
 fo2 F sc_law_bow OK_law_bow fun _ _ _ _ _ _ hr=>have nd:=sc_law_bow.nd; have hu:=hr.units; (pss2_cons (ps2_for PassesOwn.never rfl (pi2_range1 rfl no_range (pe2_callB call2_len rfl no_len bt_len (pa2_cons (pv2 0) pa2_nil))) (pgn (i:=3) nd rfl) (pss2_one (ps2_if (pt2_cmp (op2_eq hu) (pe2_ix hu (pe2_ix hu (pv2 0) (pe2_op op2_sub (pv2 2) (pv2 3)) (fun _ _=>rfl)) pe2_int (fun _ _=>rfl)) pe2_int (nomark _)) (pss2_one (ps2_ret (pe2_fz (pe2_slice (pe2_ix hu (pv2 0) (pe2_op op2_sub (pv2 2) (pv2 3)) (fun _ _=>rfl)) po2_none (po2_some pe2_int))))) pss2_nil)))
 (pss2_one (ps2_ret (pe2_fz (pe2_tup (pa2_cons (pv2 1) (pa2_cons pe2_int pa2_nil)))))))
theorem sc_law_homes:FnScope ["_law_rows","_law_homes_here","_law_at","_law_row","_law_k"] ["_law_rows"] (defScope (top 12)):=scm
theorem fn_law_homes {f:Addr} {fd:FuncData} (F:Fun K "_law_homes" "_law_homes" (top 12) f fd) (no_enumerate:mg "enumerate" = none) (no_len:mg "len" = none) (no_range:mg "range" = none) {f_law_bow:Addr} {d_law_bow:FuncData} (ok_law_bow:FnOk P w K mg base CX0 1 f_law_bow d_law_bow ["_law_row","_law_at","_law_k"] (spOf K sp_law_bow)) (mg_law_bow:mg "_law_bow" = some (.ref f_law_bow)) (kp_law_bow:PySem.W.keepIn K (.ref f_law_bow)=true) (bi_law_bow:Binds K d_law_bow ["_law_row","_law_at","_law_k"] []):FnOk P w K mg base CX0 2 f fd ["_law_rows"] (spOf K sp_law_homes) :=
 fo2 F sc_law_homes OK_law_homes fun _ _ _ _ _ _ hr=>have nd:=sc_law_homes.nd; have hu:=hr.units; (pss2_cons (pst (i:=1) nd rfl pe2_dic)
 (pss2_cons (ps2_for PassesOwn.never rfl (pi2_enum rfl no_enumerate (pv2 0)) (pg2_tup rfl (pgs2_cons (pgn (i:=2) nd rfl) (pgs2_cons (pgn (i:=3) nd rfl) pgs2_nil)) (glen_name (glen_name glen_nil))) (pss2_cons (ps2_if (pt2_cmp (op2_eq hu) (pv2 3) (pe2_lst pa2_nil) (nomark _)) (pss2_one (ps2_asg (pe2_tup (pa2_cons (pv2 2) (pa2_cons pe2_int pa2_nil))) (pg2_sub hu (pv2 1) (pe2_tup (pa2_cons (pv2 2) (pa2_cons pe2_int pa2_nil)))))) pss2_nil)
 (pss2_one (ps2_for PassesOwn.never rfl (pi2_range1 rfl no_range (pe2_callB call2_len rfl no_len bt_len (pa2_cons (pv2 3) pa2_nil))) (pgn (i:=4) nd rfl) (pss2_one (ps2_asg (pe2_callS ok_law_bow (hr.mono (by decide)) rfl mg_law_bow kp_law_bow bi_law_bow (pa2_cons (pv2 3) (pa2_cons (pv2 2) (pa2_cons (pv2 4) pa2_nil)))) (pg2_sub hu (pv2 1) (pe2_slice (pe2_ix hu (pv2 3) (pv2 4) (fun _ _=>rfl)) po2_none (po2_some pe2_int)))))))))
 (pss2_one (ps2_ret (pe2_fz (pv2 1))))))
theorem sc_law_bows:FnScope ["_law_rows","_law_homes_here"] ["_law_rows"] (defScope (top 13)):=scm
theorem fn_law_bows {f:Addr} {fd:FuncData} (F:Fun K "_law_bows" "_law_bows" (top 13) f fd) (no_set:mg "set" = none) (no_sorted:mg "sorted" = none) {f_law_homes:Addr} {d_law_homes:FuncData} (ok_law_homes:FnOk P w K mg base CX0 2 f_law_homes d_law_homes ["_law_rows"] (spOf K sp_law_homes)) (mg_law_homes:mg "_law_homes" = some (.ref f_law_homes)) (kp_law_homes:PySem.W.keepIn K (.ref f_law_homes)=true) (bi_law_homes:Binds K d_law_homes ["_law_rows"] []):FnOk P w K mg base CX0 3 f fd ["_law_rows"] (spOf K sp_law_bows) :=
 fo2 F sc_law_bows OK_law_bows fun _ _ _ _ _ _ hr=>have nd:=sc_law_bows.nd; have hu:=hr.units; (pss2_cons (pst (i:=1) nd rfl (pe2_callS ok_law_homes (hr.mono (by decide)) rfl mg_law_homes kp_law_homes bi_law_homes (pa2_cons (pv2 0) pa2_nil)))
 (pss2_one (ps2_ret (pe2_fz (pe2_sortedsetT rfl hu rfl no_sorted rfl no_set (pa2_cons (pe2_comp ["_law_spot_here","_law_homes_here"] (sc:=defScope (top 13)) (XN:=["_law_rows","_law_homes_here"]) (pi2_dict (pv2 1)) (fun _ _ _ _=>(pgn (i:=0) (show (["_law_spot_here","_law_homes_here"]:List Str).Nodup by decide +kernel) rfl)) (fun _ _ _ _=>.none) (fun _ _ _ _=>(pe2_ix hu (pv2 1) (pv2 0) (fun _ _=>rfl)))) pa2_nil))))))
theorem sc_law_right:FnScope ["_law_rows","_law_home","_law_told","_law_one","_law_many","_law_row"] ["_law_rows","_law_home","_law_told"] (defScope (top 15)):=scm
theorem fn_law_right {f:Addr} {fd:FuncData} (F:Fun K "_law_right" "_law_right" (top 15) f fd) (no_dict:mg "dict" = none) (no_isinstance:mg "isinstance" = none) (no_len:mg "len" = none) (no_list:mg "list" = none) (no_max:mg "max" = none) {f_law_spot:Addr} {d_law_spot:FuncData} (ok_law_spot:FnOk P w K mg base CX0 2 f_law_spot d_law_spot ["_law_found"] (spOf K sp_law_spot)) (mg_law_spot:mg "_law_spot" = some (.ref f_law_spot)) (kp_law_spot:PySem.W.keepIn K (.ref f_law_spot)=true) (bi_law_spot:Binds K d_law_spot ["_law_found"] []) {f_law_homes:Addr} {d_law_homes:FuncData} (ok_law_homes:FnOk P w K mg base CX0 2 f_law_homes d_law_homes ["_law_rows"] (spOf K sp_law_homes)) (mg_law_homes:mg "_law_homes" = some (.ref f_law_homes)) (kp_law_homes:PySem.W.keepIn K (.ref f_law_homes)=true) (bi_law_homes:Binds K d_law_homes ["_law_rows"] []) {f_law_bows:Addr} {d_law_bows:FuncData} (ok_law_bows:FnOk P w K mg base CX0 3 f_law_bows d_law_bows ["_law_rows"] (spOf K sp_law_bows)) (mg_law_bows:mg "_law_bows" = some (.ref f_law_bows)) (kp_law_bows:PySem.W.keepIn K (.ref f_law_bows)=true) (bi_law_bows:Binds K d_law_bows ["_law_rows"] []):FnOk P w K mg base CX0 4 f fd ["_law_rows","_law_home","_law_told"] (spOf K sp_law_right) :=
 fo2 F sc_law_right OK_law_right fun _ _ _ _ _ _ hr=>have nd:=sc_law_right.nd; have hu:=hr.units; (pss2_cons (ps2_if (PW2.pt (pw2_or (pt2_not (pt2_truth (pe2_isi "dict" (by decide) rfl no_isinstance rfl no_dict bt_dict (pv2 1)))) (pw2_or1 (pt2_not (pt2_truth (pe2_isi "list" (by decide) rfl no_isinstance rfl no_list bt_list (pv2 2))))))) (pss2_one (ps2_ret (pe2_fz pe2_bl))) pss2_nil)
 (pss2_cons (ps2_for PassesOwn.never rfl (pi2_seq (pe2_op op2_add (pe2_op op2_add (pe2_callTy (call2_listR rfl) rfl no_list bt_list (pa2_cons (pv2 1) pa2_nil)) (pe2_lvals rfl rfl no_list (pv2 1))) (pv2 2))) (pgn (i:=3) nd rfl) (pss2_one (ps2_if (pt2_not (pt2_truth (pe2_callS ok_law_spot (hr.mono (by decide)) rfl mg_law_spot kp_law_spot bi_law_spot (pa2_cons (pv2 3) pa2_nil)))) (pss2_one (ps2_ret (pe2_fz pe2_bl))) pss2_nil)))
 (pss2_cons (pst (i:=4) nd rfl pe2_int)
 (pss2_cons (ps2_for PassesOwn.never rfl (pi2_seq (pv2 0)) (pgn (i:=5) nd rfl) (pss2_one (pst (i:=4) nd rfl (pe2_op op2_add (pv2 4) (pe2_callB (call2_max rfl hu) rfl no_max bt_max (pa2_cons pe2_int (pa2_cons (pe2_callB call2_len rfl no_len bt_len (pa2_cons (pe2_comp ["_law_passing"] (sc:=defScope (top 15)) (XN:=["_law_rows","_law_home","_law_told","_law_one","_law_many","_law_row"]) (pi2_seq (pv2 5)) (fun _ _ _ _=>(pgn (i:=0) (show (["_law_passing"]:List Str).Nodup by decide +kernel) rfl)) (fun _ _ _ _=>(.some (pt2_cmp (op2_eq hu) (pe2_ix hu (pv2 0) pe2_int (fun _ _=>rfl)) pe2_int (nomark _)))) (fun _ _ _ _=>(pv2 0))) pa2_nil)) pa2_nil)))))))
 (pss2_one (ps2_ret (pe2_fz (pe2_and (pe2_cmp (op2_eqT hu) (pv2 1) (pe2_callS ok_law_homes (hr.mono (by decide)) rfl mg_law_homes kp_law_homes bi_law_homes (pa2_cons (pv2 0) pa2_nil)) (nomark _)) (pe2_and (pe2_cmp (op2_eq hu) (pv2 2) (pe2_callS ok_law_bows (hr.mono (by decide)) rfl mg_law_bows kp_law_bows bi_law_bows (pa2_cons (pv2 0) pa2_nil)) (nomark _)) (pe2_one (pe2_cmp (op2_eq hu) (pe2_callB call2_len rfl no_len bt_len (pa2_cons (pv2 2) pa2_nil)) (pv2 4) (nomark _))))))))))))
theorem sc_law:FnScope ["_law_script","_law_first","_law_rows","_law_others","_law_handed","_law_home","_law_other_home","_law_told"] ["_law_script"] (defScope (top 16)):=scm
theorem fn_law {f:Addr} {fd:FuncData} (F:Fun K "law" "law" (top 16) f fd) (no_list:mg "list" = none) {f_law_cell:Addr} {d_law_cell:FuncData} (ok_law_cell:FnOk P w K mg base CX0 1 f_law_cell d_law_cell ["_law_script","_law_k"] (spOf K sp_law_cell)) (mg_law_cell:mg "_law_cell" = some (.ref f_law_cell)) (kp_law_cell:PySem.W.keepIn K (.ref f_law_cell)=true) (bi_law_cell:Binds K d_law_cell ["_law_script","_law_k"] []) {f_law_made:Addr} {d_law_made:FuncData} (ok_law_made:FnOk P w K mg base CX0 2 f_law_made d_law_made ["_law_cells","_law_strings","_law_start"] (spOf K sp_law_made)) (mg_law_made:mg "_law_made" = some (.ref f_law_made)) (kp_law_made:PySem.W.keepIn K (.ref f_law_made)=true) (bi_law_made:Binds K d_law_made ["_law_cells","_law_strings","_law_start"] []) {f_bow_at:Addr} {d_bow_at:FuncData} (ok_bow_at:FnOk P w K mg base CX0 3 f_bow_at d_bow_at ["drawing"] (spOf K sp_bow_at)) (mg_bow_at:mg "bow_at" = some (.ref f_bow_at)) (kp_bow_at:PySem.W.keepIn K (.ref f_bow_at)=true) (bi_bow_at:Binds K d_bow_at ["drawing"] []) {f_bows:Addr} {d_bows:FuncData} (ok_bows:FnOk P w K mg base CX0 4 f_bows d_bows ["drawing"] (spOf K sp_bows)) (mg_bows:mg "bows" = some (.ref f_bows)) (kp_bows:PySem.W.keepIn K (.ref f_bows)=true) (bi_bows:Binds K d_bows ["drawing"] []) {f_law_right:Addr} {d_law_right:FuncData} (ok_law_right:FnOk P w K mg base CX0 4 f_law_right d_law_right ["_law_rows","_law_home","_law_told"] (spOf K sp_law_right)) (mg_law_right:mg "_law_right" = some (.ref f_law_right)) (kp_law_right:PySem.W.keepIn K (.ref f_law_right)=true) (bi_law_right:Binds K d_law_right ["_law_rows","_law_home","_law_told"] []):FnOk P w K mg base CX0 5 f fd ["_law_script"] (spOf K K2.spLaw) :=
 fo2 F sc_law OK_law fun _ _ _ _ _ _ hr=>have nd:=sc_law.nd; have hu:=hr.units; (pss2_cons (pst (i:=1) nd rfl (pe2_callS ok_law_cell (hr.mono (by decide)) rfl mg_law_cell kp_law_cell bi_law_cell (pa2_cons (pv2 0) (pa2_cons pe2_int pa2_nil))))
 (pss2_cons (pst (i:=2) nd rfl (pe2_callS ok_law_made (hr.mono (by decide)) rfl mg_law_made kp_law_made bi_law_made (pa2_cons (pe2_slice (pv2 0) (po2_some pe2_int) (po2_some pe2_int)) (pa2_cons (pe2_op op2_add pe2_int (pe2_op op2_mod (pv2 1) pe2_int)) (pa2_cons (pe2_op op2_mod (pe2_op op2_fdiv (pv2 1) pe2_int) pe2_int) pa2_nil)))))
 (pss2_cons (pst (i:=3) nd rfl (pe2_callS ok_law_made (hr.mono (by decide)) rfl mg_law_made kp_law_made bi_law_made (pa2_cons (pe2_slice (pv2 0) (po2_some pe2_int) (po2_some pe2_int)) (pa2_cons (pe2_op op2_add pe2_int (pe2_op op2_mod (pe2_op op2_fdiv (pv2 1) pe2_int) pe2_int)) (pa2_cons pe2_int pa2_nil)))))
 (pss2_cons (ps2_fzv (ps2_setC ["_law_row"] (sc:=defScope (top 16)) (XN:=["_law_script","_law_first","_law_rows","_law_others","_law_handed","_law_home","_law_other_home","_law_told"]) (i:=4) nd rfl rfl (pi2_seq (pv2 2)) (fun _ _ _ _=>(pgn (i:=0) (show (["_law_row"]:List Str).Nodup by decide +kernel) rfl)) (fun _ _ _ _=>.none) (fun _ _ _ _=>(pe2_fz (pe2_callTy call2_list rfl no_list bt_list (pa2_cons (pv2 0) pa2_nil))))))
 (pss2_cons (pst (i:=5) nd rfl (pe2_callS ok_bow_at (hr.mono (by decide)) rfl mg_bow_at kp_bow_at bi_bow_at (pa2_cons (pv2 4) pa2_nil)))
 (pss2_cons (pst (i:=6) nd rfl (pe2_callS ok_bow_at (hr.mono (by decide)) rfl mg_bow_at kp_bow_at bi_bow_at (pa2_cons (pv2 3) pa2_nil)))
 (pss2_cons (pst (i:=7) nd rfl (pe2_callS ok_bows (hr.mono (by decide)) rfl mg_bows kp_bows bi_bows (pa2_cons (pv2 4) pa2_nil)))
 (pss2_cons (ps2_if (PW2.pt (pw2_or (pt2_cmp (op2_ne hu) (pv2 4) (pv2 2) (nomark _)) (pw2_or1 (pt2_not (pt2_truth (pe2_callS ok_law_right (hr.mono (by decide)) rfl mg_law_right kp_law_right bi_law_right (pa2_cons (pv2 2) (pa2_cons (pv2 5) (pa2_cons (pv2 7) pa2_nil))))))))) (pss2_one (ps2_ret (pe2_fz pe2_bl))) pss2_nil)
 (pss2_one (ps2_ret (pe2_fz (pe2_callS ok_law_right (hr.mono (by decide)) rfl mg_law_right kp_law_right bi_law_right (pa2_cons (pv2 3) (pa2_cons (pv2 6) (pa2_cons (pe2_callS ok_bows (hr.mono (by decide)) rfl mg_bows kp_bows bi_bows (pa2_cons (pv2 3) pa2_nil)) pa2_nil)))))))))))))))
end
theorem all_mk {l:PySem.W.OpenLaw} {w:World} {K:PySem.W.Frag} {h:Heap} {mg:Str->Option Value} {fa:Addr} (X:K.In h) (G:h.Ns mainGlobals mg) (hfa:mg "law" = some (.ref fa))
  {f0:Addr} {od0 an0:Option Addr} {sl0:Array (Option Value)} {oc0 kV0 dc0 pm0 cd0 ct0:Value} (a0:PySem.W.nsIn K mainGlobals "_law_cell" = some (some (.ref f0))) (l0:K.lookup f0=some ⟨oc0,od0,.func (PySem.W.fnOf "_law_cell" "_law_cell" (defArgs (top 7)) (defBody (top 7)) (defScope (top 7)) .none kV0 dc0 pm0 an0 cd0 ct0),sl0⟩) (c0:PySem.W.codeIn K cd0 "_law_cell" = true) (k0:PySem.W.keepIn K (.ref f0)=true)
  {f1:Addr} {od1 an1:Option Addr} {sl1:Array (Option Value)} {oc1 kV1 dc1 pm1 cd1 ct1:Value} (a1:PySem.W.nsIn K mainGlobals "_law_part" = some (some (.ref f1))) (l1:K.lookup f1=some ⟨oc1,od1,.func (PySem.W.fnOf "_law_part" "_law_part" (defArgs (top 8)) (defBody (top 8)) (defScope (top 8)) .none kV1 dc1 pm1 an1 cd1 ct1),sl1⟩) (c1:PySem.W.codeIn K cd1 "_law_part" = true) (k1:PySem.W.keepIn K (.ref f1)=true)
  {f2:Addr} {od2 an2:Option Addr} {sl2:Array (Option Value)} {oc2 kV2 dc2 pm2 cd2 ct2:Value} (a2:PySem.W.nsIn K mainGlobals "_law_made" = some (some (.ref f2))) (l2:K.lookup f2=some ⟨oc2,od2,.func (PySem.W.fnOf "_law_made" "_law_made" (defArgs (top 10)) (defBody (top 10)) (defScope (top 10)) .none kV2 dc2 pm2 an2 cd2 ct2),sl2⟩) (c2:PySem.W.codeIn K cd2 "_law_made" = true) (k2:PySem.W.keepIn K (.ref f2)=true)
  {f3:Addr} {od3 an3:Option Addr} {sl3:Array (Option Value)} {oc3 kV3 dc3 pm3 cd3 ct3:Value} (a3:PySem.W.nsIn K mainGlobals "spots_on" = some (some (.ref f3))) (l3:K.lookup f3=some ⟨oc3,od3,.func (PySem.W.fnOf "spots_on" "spots_on" (defArgs (top 1)) (defBody (top 1)) (defScope (top 1)) .none kV3 dc3 pm3 an3 cd3 ct3),sl3⟩) (c3:PySem.W.codeIn K cd3 "spots_on" = true) (k3:PySem.W.keepIn K (.ref f3)=true)
  {f4:Addr} {od4 an4:Option Addr} {sl4:Array (Option Value)} {oc4 kV4 dc4 pm4 cd4 ct4:Value} (a4:PySem.W.nsIn K mainGlobals "bows_on" = some (some (.ref f4))) (l4:K.lookup f4=some ⟨oc4,od4,.func (PySem.W.fnOf "bows_on" "bows_on" (defArgs (top 3)) (defBody (top 3)) (defScope (top 3)) .none kV4 dc4 pm4 an4 cd4 ct4),sl4⟩) (c4:PySem.W.codeIn K cd4 "bows_on" = true) (k4:PySem.W.keepIn K (.ref f4)=true)
  {f5:Addr} {od5 an5:Option Addr} {sl5:Array (Option Value)} {oc5 kV5 dc5 pm5 cd5 ct5:Value} (a5:PySem.W.nsIn K mainGlobals "bow_at" = some (some (.ref f5))) (l5:K.lookup f5=some ⟨oc5,od5,.func (PySem.W.fnOf "bow_at" "bow_at" (defArgs (top 4)) (defBody (top 4)) (defScope (top 4)) .none kV5 dc5 pm5 an5 cd5 ct5),sl5⟩) (c5:PySem.W.codeIn K cd5 "bow_at" = true) (k5:PySem.W.keepIn K (.ref f5)=true)
  {f6:Addr} {od6 an6:Option Addr} {sl6:Array (Option Value)} {oc6 kV6 dc6 pm6 cd6 ct6:Value} (a6:PySem.W.nsIn K mainGlobals "bows" = some (some (.ref f6))) (l6:K.lookup f6=some ⟨oc6,od6,.func (PySem.W.fnOf "bows" "bows" (defArgs (top 5)) (defBody (top 5)) (defScope (top 5)) .none kV6 dc6 pm6 an6 cd6 ct6),sl6⟩) (c6:PySem.W.codeIn K cd6 "bows" = true) (k6:PySem.W.keepIn K (.ref f6)=true)
  {f7:Addr} {od7 an7:Option Addr} {sl7:Array (Option Value)} {oc7 kV7 dc7 pm7 cd7 ct7:Value} (a7:PySem.W.nsIn K mainGlobals "_law_whole" = some (some (.ref f7))) (l7:K.lookup f7=some ⟨oc7,od7,.func (PySem.W.fnOf "_law_whole" "_law_whole" (defArgs (top 9)) (defBody (top 9)) (defScope (top 9)) .none kV7 dc7 pm7 an7 cd7 ct7),sl7⟩) (c7:PySem.W.codeIn K cd7 "_law_whole" = true) (k7:PySem.W.keepIn K (.ref f7)=true)
  {f8:Addr} {od8 an8:Option Addr} {sl8:Array (Option Value)} {oc8 kV8 dc8 pm8 cd8 ct8:Value} (a8:PySem.W.nsIn K mainGlobals "_law_spot" = some (some (.ref f8))) (l8:K.lookup f8=some ⟨oc8,od8,.func (PySem.W.fnOf "_law_spot" "_law_spot" (defArgs (top 14)) (defBody (top 14)) (defScope (top 14)) .none kV8 dc8 pm8 an8 cd8 ct8),sl8⟩) (c8:PySem.W.codeIn K cd8 "_law_spot" = true) (k8:PySem.W.keepIn K (.ref f8)=true)
  {f9:Addr} {od9 an9:Option Addr} {sl9:Array (Option Value)} {oc9 kV9 dc9 pm9 cd9 ct9:Value} (a9:PySem.W.nsIn K mainGlobals "_law_bow" = some (some (.ref f9))) (l9:K.lookup f9=some ⟨oc9,od9,.func (PySem.W.fnOf "_law_bow" "_law_bow" (defArgs (top 11)) (defBody (top 11)) (defScope (top 11)) .none kV9 dc9 pm9 an9 cd9 ct9),sl9⟩) (c9:PySem.W.codeIn K cd9 "_law_bow" = true) (k9:PySem.W.keepIn K (.ref f9)=true)
  {f10:Addr} {od10 an10:Option Addr} {sl10:Array (Option Value)} {oc10 kV10 dc10 pm10 cd10 ct10:Value} (a10:PySem.W.nsIn K mainGlobals "_law_homes" = some (some (.ref f10))) (l10:K.lookup f10=some ⟨oc10,od10,.func (PySem.W.fnOf "_law_homes" "_law_homes" (defArgs (top 12)) (defBody (top 12)) (defScope (top 12)) .none kV10 dc10 pm10 an10 cd10 ct10),sl10⟩) (c10:PySem.W.codeIn K cd10 "_law_homes" = true) (k10:PySem.W.keepIn K (.ref f10)=true)
  {f11:Addr} {od11 an11:Option Addr} {sl11:Array (Option Value)} {oc11 kV11 dc11 pm11 cd11 ct11:Value} (a11:PySem.W.nsIn K mainGlobals "_law_bows" = some (some (.ref f11))) (l11:K.lookup f11=some ⟨oc11,od11,.func (PySem.W.fnOf "_law_bows" "_law_bows" (defArgs (top 13)) (defBody (top 13)) (defScope (top 13)) .none kV11 dc11 pm11 an11 cd11 ct11),sl11⟩) (c11:PySem.W.codeIn K cd11 "_law_bows" = true) (k11:PySem.W.keepIn K (.ref f11)=true)
  {f12:Addr} {od12 an12:Option Addr} {sl12:Array (Option Value)} {oc12 kV12 dc12 pm12 cd12 ct12:Value} (a12:PySem.W.nsIn K mainGlobals "_law_right" = some (some (.ref f12))) (l12:K.lookup f12=some ⟨oc12,od12,.func (PySem.W.fnOf "_law_right" "_law_right" (defArgs (top 15)) (defBody (top 15)) (defScope (top 15)) .none kV12 dc12 pm12 an12 cd12 ct12),sl12⟩) (c12:PySem.W.codeIn K cd12 "_law_right" = true) (k12:PySem.W.keepIn K (.ref f12)=true)
  {f13:Addr} {od13 an13:Option Addr} {sl13:Array (Option Value)} {oc13 kV13 dc13 pm13 cd13 ct13:Value} (a13:PySem.W.nsIn K mainGlobals "law" = some (some (.ref f13))) (l13:K.lookup f13=some ⟨oc13,od13,.func (PySem.W.fnOf "law" "law" (defArgs (top 16)) (defBody (top 16)) (defScope (top 16)) .none kV13 dc13 pm13 an13 cd13 ct13),sl13⟩) (c13:PySem.W.codeIn K cd13 "law" = true) (k13:PySem.W.keepIn K (.ref f13)=true)
  (z_len:PySem.W.nsIn K mainGlobals "len" = some none) (z_range:PySem.W.nsIn K mainGlobals "range" = some none) (z_enumerate:PySem.W.nsIn K mainGlobals "enumerate" = some none) (z_list:PySem.W.nsIn K mainGlobals "list" = some none) (z_set:PySem.W.nsIn K mainGlobals "set" = some none) (z_sorted:PySem.W.nsIn K mainGlobals "sorted" = some none) (z_bool:PySem.W.nsIn K mainGlobals "bool" = some none) (z_int:PySem.W.nsIn K mainGlobals "int" = some none) (z_isinstance:PySem.W.nsIn K mainGlobals "isinstance" = some none) (z_tuple:PySem.W.nsIn K mainGlobals "tuple" = some none) (z_dict:PySem.W.nsIn K mainGlobals "dict" = some none) (z_max:PySem.W.nsIn K mainGlobals "max" = some none) :
  ∃ fd:FuncData,(∀ (s:Shared) (v:Value),BindsTo s fd ⟨[v],[]⟩ [("_law_script",v)])/\∀ base:Heap,K.In base->base.Ns mainGlobals mg->FnOk l.prog w K mg base CX0 5 fa fd ["_law_script"] (spOf K K2.spLaw):=by
 have e:=hfa.symm.trans (PySem.W.mg_of X G a13)
 cases e
 have F0:=fun_mk (st:=top 7) l0 c0 k0
 have b0:=F0.binds (ps:=["_law_script","_law_k"]) fun _ _ _ _ _ _ us hl=>by obtain ⟨_,_,rfl⟩:=len2 hl; rfl
 have F1:=fun_mk (st:=top 8) l1 c1 k1
 have b1:=F1.binds (ps:=["_law_cell_here","_law_prime","_law_many"]) fun _ _ _ _ _ _ us hl=>by obtain ⟨_,_,_,rfl⟩:=len3 hl; rfl
 have F2:=fun_mk (st:=top 10) l2 c2 k2
 have b2:=F2.binds (ps:=["_law_cells","_law_strings","_law_start"]) fun _ _ _ _ _ _ us hl=>by obtain ⟨_,_,_,rfl⟩:=len3 hl; rfl
 have F3:=fun_mk (st:=top 1) l3 c3 k3
 have b3:=F3.binds (ps:=["row","string"]) fun _ _ _ _ _ _ us hl=>by obtain ⟨_,_,rfl⟩:=len2 hl; rfl
 have F4:=fun_mk (st:=top 3) l4 c4 k4
 have b4:=F4.binds (ps:=["row","string"]) fun _ _ _ _ _ _ us hl=>by obtain ⟨_,_,rfl⟩:=len2 hl; rfl
 have F5:=fun_mk (st:=top 4) l5 c5 k5
 have b5:=F5.binds (ps:=["drawing"]) fun _ _ _ _ _ _ us hl=>by obtain ⟨_,rfl⟩:=len1 hl; rfl
 have F6:=fun_mk (st:=top 5) l6 c6 k6
 have b6:=F6.binds (ps:=["drawing"]) fun _ _ _ _ _ _ us hl=>by obtain ⟨_,rfl⟩:=len1 hl; rfl
 have F7:=fun_mk (st:=top 9) l7 c7 k7
 have b7:=F7.binds (ps:=["_law_found"]) fun _ _ _ _ _ _ us hl=>by obtain ⟨_,rfl⟩:=len1 hl; rfl
 have F8:=fun_mk (st:=top 14) l8 c8 k8
 have b8:=F8.binds (ps:=["_law_found"]) fun _ _ _ _ _ _ us hl=>by obtain ⟨_,rfl⟩:=len1 hl; rfl
 have F9:=fun_mk (st:=top 11) l9 c9 k9
 have b9:=F9.binds (ps:=["_law_row","_law_at","_law_k"]) fun _ _ _ _ _ _ us hl=>by obtain ⟨_,_,_,rfl⟩:=len3 hl; rfl
 have F10:=fun_mk (st:=top 12) l10 c10 k10
 have b10:=F10.binds (ps:=["_law_rows"]) fun _ _ _ _ _ _ us hl=>by obtain ⟨_,rfl⟩:=len1 hl; rfl
 have F11:=fun_mk (st:=top 13) l11 c11 k11
 have b11:=F11.binds (ps:=["_law_rows"]) fun _ _ _ _ _ _ us hl=>by obtain ⟨_,rfl⟩:=len1 hl; rfl
 have F12:=fun_mk (st:=top 15) l12 c12 k12
 have b12:=F12.binds (ps:=["_law_rows","_law_home","_law_told"]) fun _ _ _ _ _ _ us hl=>by obtain ⟨_,_,_,rfl⟩:=len3 hl; rfl
 have F13:=fun_mk (st:=top 16) l13 c13 k13
 have no_len:=PySem.W.mg_none_of X G z_len
 have no_range:=PySem.W.mg_none_of X G z_range
 have no_enumerate:=PySem.W.mg_none_of X G z_enumerate
 have no_list:=PySem.W.mg_none_of X G z_list
 have no_set:=PySem.W.mg_none_of X G z_set
 have no_sorted:=PySem.W.mg_none_of X G z_sorted
 have no_bool:=PySem.W.mg_none_of X G z_bool
 have no_int:=PySem.W.mg_none_of X G z_int
 have no_isinstance:=PySem.W.mg_none_of X G z_isinstance
 have no_tuple:=PySem.W.mg_none_of X G z_tuple
 have no_dict:=PySem.W.mg_none_of X G z_dict
 have no_max:=PySem.W.mg_none_of X G z_max
 refine ⟨PySem.W.fnOf "law" "law" (defArgs (top 16)) (defBody (top 16)) (defScope (top 16)) .none kV13 dc13 pm13 an13 cd13 ct13,fun s v=>.of_eq rfl,fun base _ _=>?_⟩
 have ok0:=fn_law_cell (P:=l.prog) (w:=w) (mg:=mg) (base:=base) F0 no_len
 have ok1:=fn_law_part (P:=l.prog) (w:=w) (mg:=mg) (base:=base) F1
 have ok2:=fn_law_made (P:=l.prog) (w:=w) (mg:=mg) (base:=base) F2 no_len no_range ok1 (PySem.W.mg_of X G a1) k1 b1
 have ok3:=fn_spots_on (P:=l.prog) (w:=w) (mg:=mg) (base:=base) F3
 have ok4:=fn_bows_on (P:=l.prog) (w:=w) (mg:=mg) (base:=base) F4 ok3 (PySem.W.mg_of X G a3) k3 b3
 have ok5:=fn_bow_at (P:=l.prog) (w:=w) (mg:=mg) (base:=base) F5 no_enumerate ok4 (PySem.W.mg_of X G a4) k4 b4
 have ok6:=fn_bows (P:=l.prog) (w:=w) (mg:=mg) (base:=base) F6 no_list no_set no_sorted ok5 (PySem.W.mg_of X G a5) k5 b5
 have ok7:=fn_law_whole (P:=l.prog) (w:=w) (mg:=mg) (base:=base) F7 no_bool no_int no_isinstance
 have ok8:=fn_law_spot (P:=l.prog) (w:=w) (mg:=mg) (base:=base) F8 no_isinstance no_len no_tuple ok7 (PySem.W.mg_of X G a7) k7 b7
 have ok9:=fn_law_bow (P:=l.prog) (w:=w) (mg:=mg) (base:=base) F9 no_len no_range
 have ok10:=fn_law_homes (P:=l.prog) (w:=w) (mg:=mg) (base:=base) F10 no_enumerate no_len no_range ok9 (PySem.W.mg_of X G a9) k9 b9
 have ok11:=fn_law_bows (P:=l.prog) (w:=w) (mg:=mg) (base:=base) F11 no_set no_sorted ok10 (PySem.W.mg_of X G a10) k10 b10
 have ok12:=fn_law_right (P:=l.prog) (w:=w) (mg:=mg) (base:=base) F12 no_dict no_isinstance no_len no_list no_max ok8 (PySem.W.mg_of X G a8) k8 b8 ok10 (PySem.W.mg_of X G a10) k10 b10 ok11 (PySem.W.mg_of X G a11) k11 b11
 exact fn_law F13 no_list ok0 (PySem.W.mg_of X G a0) k0 b0 ok2 (PySem.W.mg_of X G a2) k2 b2 ok5 (PySem.W.mg_of X G a5) k5 b5 ok6 (PySem.W.mg_of X G a6) k6 b6 ok12 (PySem.W.mg_of X G a12) k12 b12
end Fin
end Internal
open Internal
open PySem PySem.W PyProof.Rows
set_option maxRecDepth 100000 in
set_option maxHeartbeats 0 in
theorem PySem.Challenge.cw_knotwise_k51_bows_holds : PySem.Challenge.rw_knotwise_k51_bows.Holds := by
 w_on; o_law; k_head; (case hw=>w_witness2)
 k_fill
 refine K2.law_walk (l:=PySem.Challenge.rw_knotwise_k51_bows) (k:=5) (x:="_law_script") rfl rfl ⟨rfl,by decide,by decide⟩ (fun w h Y=>PySem.W.kIn_of Y) ?F
 case F =>
  intro w mg fa h KX G hmg
  refine' Fin.all_mk KX G hmg ?a0 ?l0 ?c0 ?k0 ?a1 ?l1 ?c1 ?k1 ?a2 ?l2 ?c2 ?k2 ?a3 ?l3 ?c3 ?k3 ?a4 ?l4 ?c4 ?k4 ?a5 ?l5 ?c5 ?k5 ?a6 ?l6 ?c6 ?k6 ?a7 ?l7 ?c7 ?k7 ?a8 ?l8 ?c8 ?k8 ?a9 ?l9 ?c9 ?k9 ?a10 ?l10 ?c10 ?k10 ?a11 ?l11 ?c11 ?k11 ?a12 ?l12 ?c12 ?k12 ?a13 ?l13 ?c13 ?k13 ?z_len ?z_range ?z_enumerate ?z_list ?z_set ?z_sorted ?z_bool ?z_int ?z_isinstance ?z_tuple ?z_dict ?z_max
  (case a0=>k_is); (case l0=>k_is); (case c0=>k_is); (case k0=>k_is)
  (case a1=>k_is); (case l1=>k_is); (case c1=>k_is); (case k1=>k_is)
  (case a2=>k_is); (case l2=>k_is); (case c2=>k_is); (case k2=>k_is)
  (case a3=>k_is); (case l3=>k_is); (case c3=>k_is); (case k3=>k_is)
  (case a4=>k_is); (case l4=>k_is); (case c4=>k_is); (case k4=>k_is)
  (case a5=>k_is); (case l5=>k_is); (case c5=>k_is); (case k5=>k_is)
  (case a6=>k_is); (case l6=>k_is); (case c6=>k_is); (case k6=>k_is)
  (case a7=>k_is); (case l7=>k_is); (case c7=>k_is); (case k7=>k_is)
  (case a8=>k_is); (case l8=>k_is); (case c8=>k_is); (case k8=>k_is)
  (case a9=>k_is); (case l9=>k_is); (case c9=>k_is); (case k9=>k_is)
  (case a10=>k_is); (case l10=>k_is); (case c10=>k_is); (case k10=>k_is)
  (case a11=>k_is); (case l11=>k_is); (case c11=>k_is); (case k11=>k_is)
  (case a12=>k_is); (case l12=>k_is); (case c12=>k_is); (case k12=>k_is)
  (case a13=>k_is); (case l13=>k_is); (case c13=>k_is); (case k13=>k_is)
  (case z_len=>k_is)
  (case z_range=>k_is)
  (case z_enumerate=>k_is)
  (case z_list=>k_is)
  (case z_set=>k_is)
  (case z_sorted=>k_is)
  (case z_bool=>k_is)
  (case z_int=>k_is)
  (case z_isinstance=>k_is)
  (case z_tuple=>k_is)
  (case z_dict=>k_is)
  (case z_max=>k_is)
