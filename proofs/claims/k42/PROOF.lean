import PyProof.Rows.All
import Wide.All
import OpenK.AllK
import Wide.FinOn
import Lean
import PyProof.EqAt
import PyProof.EqKinds
import PyProof.TupleCall
import KE.LcSums
import KE.KTryMore
import PyProof.Rows.CountFlat
import PyProof.Rows.SeqMore2
import PySem.Builtin.Int.W1All
import PyProof.StrLawsIn
import PyProof.Rows.Range3
import PySem.Challenge.RW_widewords_k42_signed_quotients_run
set_option Elab.async false
set_option linter.all false
set_option maxRecDepth 100000
set_option maxHeartbeats 0
namespace L2
open PySem PySem.Spec PyProof.Rows
abbrev Key:=Sum Int Str
def keyIs:Key->Value->Bool
 | .inl k,v=>Value.isInt k v
 | .inr x,v=>Value.isStrOf x v
def keyH (w:World):Key->Int
 | .inl k=>hashInt k
 | .inr x=>hashStr w x
theorem za0:∀ {k:Key} {v:Value},keyIs k v=true->(∃ i t,k=Sum.inl i/\v=Value.int i t) \/ (∃ x t,k=Sum.inr x/\v=Value.str x t)
 | .inl i,v,h=>by
  obtain ⟨t,e⟩:=Value.isInt_shape (k:=i) (v:=v) h
  exact .inl ⟨i,t,rfl,e⟩
 | .inr x,v,h=>by
  obtain ⟨t,e⟩:=Value.isStrOf_shape (x:=x) (v:=v) h
  exact .inr ⟨x,t,rfl,e⟩
theorem znV (i:Int) (t:Tok):keyIs (.inl i) (.int i t)=true:=by simp [keyIs,Value.isInt]
theorem zmP (x:Str) (t:Tok):keyIs (.inr x) (.str x t)=true:=by simp [keyIs,Value.isStrOf]
theorem zq5 (a b:Int):decide ((Sum.inl a:Key)=Sum.inl b)=(a == b):=by
 by_cases e:a=b
 ·subst e; simp
 ·have h:¬ (Sum.inl a:Key)=Sum.inl b:=fun q=>e (Sum.inl.inj q)
  rw [decide_eq_false h]
  exact (beq_eq_false_iff_ne.mpr e).symm
theorem zrn (a b:Str):decide ((Sum.inr a:Key)=Sum.inr b)=decide (a=b):=by
 by_cases e:a=b
 ·subst e; simp
 ·have h:¬ (Sum.inr a:Key)=Sum.inr b:=fun q=>e (Sum.inr.inj q)
  rw [decide_eq_false h,decide_eq_false e]
theorem zrz (a:Int) (b:Str):decide ((Sum.inl a:Key)=Sum.inr b)=false:=decide_eq_false (fun q=>nomatch q)
theorem zsh (a:Str) (b:Int):decide ((Sum.inr a:Key)=Sum.inl b)=false:=decide_eq_false (fun q=>nomatch q)
def mixKind (prog:Program) (w:World):PySem.KeyKind prog w Key where
 is:=keyIs
 hash:=keyH w
 inj:=fun v a b ha hb=>by
  rcases za0 ha with ⟨i,t,rfl,rfl⟩ | ⟨x,t,rfl,rfl⟩
  ·rcases za0 hb with ⟨j,u,rfl,e⟩ | ⟨y,u,rfl,e⟩
   ·injection e with e1 _; rw [e1]
   ·exact nomatch e
  ·rcases za0 hb with ⟨j,u,rfl,e⟩ | ⟨y,u,rfl,e⟩
   ·exact nomatch e
   ·injection e with e1 _; rw [e1]
 byValue:=fun k v h=>by
  rcases za0 h with ⟨i,t,rfl,rfl⟩ | ⟨x,t,rfl,rfl⟩ <;> rfl
 pyHash:=fun hv h=>by
  rcases za0 hv with ⟨i,t,rfl,rfl⟩ | ⟨x,t,rfl,rfl⟩
  ·exact wpAny_pyHash_int h
  ·exact wpAny_pyHash_str h
 eqBool:=fun hu hv h=>by
  rcases za0 hu with ⟨i,t,rfl,rfl⟩ | ⟨x,t,rfl,rfl⟩
  ·rcases za0 hv with ⟨j,u,rfl,rfl⟩ | ⟨y,u,rfl,rfl⟩
   ·rw [zq5] at h; exact wpAny_eqBool_int h
   ·rw [zrz] at h; exact SeqAt.EqAt.int_str i t y u _ _ _ _ h
  ·rcases za0 hv with ⟨j,u,rfl,rfl⟩ | ⟨y,u,rfl,rfl⟩
   ·rw [zsh] at h; exact SeqAt.EqAt.str_int x t j u _ _ _ _ h
   ·rw [zrn] at h; exact wpAny_eqBool_str h
 «strs»:=fun k x t v h=>by
  rcases za0 h with ⟨i,u,rfl,e⟩ | ⟨y,u,rfl,e⟩
  ·exact nomatch e
  ·injection e with e1 _
   subst e1
   cases v <;> rfl
theorem zkD (prog:Program) (w:World) (i:Int) (t:Tok):(mixKind prog w).is (.inl i) (.int i t)=true:=znV i t
theorem zkj (prog:Program) (w:World) (x:Str) (t:Tok):(mixKind prog w).is (.inr x) (.str x t)=true:=zmP x t
inductive V where
 | non | bl (b:Bool) | int (i:Int) | str (x:Str) | byt (b:Array UInt8) | flt (b:UInt64) | ref (a:Addr) | ty (n:String)
 deriving DecidableEq
def RelV:V->Value->Prop
 | .non,u=>u=Value.none
 | .bl b,u=>u=Value.bool b
 | .int i,u=>∃ t,u=Value.int i t
 | .str x,u=>∃ t,u=Value.str x t
 | .byt b,u=>∃ t,u=Value.bytes b t
 | .flt b,u=>∃ t,u=Value.float b t
 | .ref a,u=>u=Value.ref a
 | .ty n,u=>u=Value.type n
abbrev Vals:List V->List Value->Prop:=Paired RelV
theorem Vals.length {xs:List V} {us:List Value} (r:Vals xs us):xs.length=us.length:=Paired.length r
theorem Vals.get:∀ {xs:List V} {us:List Value} {i:Nat} {x:V},Vals xs us->xs[i]?=some x->∃ u,us[i]?=some u/\RelV x u
 | _,_,_,_,.nil,e=>by simp at e
 | _,_,0,_,.cons r _,e=>by simp at e; subst e; exact ⟨_,rfl,r⟩
 | _,_,i+1,x,.cons _ t,e=>by
  obtain ⟨u,h1,h2⟩:=Vals.get (i:=i) (x:=x) t (by simpa using e)
  exact ⟨u,by simpa using h1,h2⟩
theorem Vals.set {x:V} {u:Value} (r:RelV x u):∀ {xs:List V} {us:List Value} (i:Nat),Vals xs us->Vals (xs.set i x) (us.set i u)
 | _,_,_,.nil=>.nil
 | _,_,0,.cons _ t=>.cons r t
 | _,_,i+1,.cons q t=>.cons q (Vals.set r i t)
theorem Vals.append:∀ {xs ys:List V} {us ws:List Value},Vals xs us->Vals ys ws->Vals (xs++ys) (us++ws)
 | _,_,_,_,.nil,s=>s
 | _,_,_,_,.cons r t,s=>.cons r (Vals.append t s)
theorem Vals.take:∀ {xs:List V} {us:List Value} (n:Nat),Vals xs us->Vals (xs.take n) (us.take n)
 | _,_,0,_=>.nil
 | _,_,_+1,.nil=>.nil
 | _,_,n+1,.cons r t=>.cons r (Vals.take n t)
theorem Vals.drop:∀ {xs:List V} {us:List Value} (n:Nat),Vals xs us->Vals (xs.drop n) (us.drop n)
 | _,_,0,r=>r
 | _,_,_+1,.nil=>.nil
 | _,_,n+1,.cons _ t=>Vals.drop n t
def RelO:Option V->Option Value->Prop
 | some v,some u=>RelV v u
 | none,none=>True
 | _,_=>False
def KV {κ:Type}:List (κ × V)->List (κ × Value)->Prop:=Paired fun (p:κ × V) (q:κ × Value)=>p.1=q.1/\RelV p.2 q.2
def kV:Key->V
 | .inl i=>.int i
 | .inr x=>.str x
inductive HO where
 | lst (xs:List V)
 | tup (xs:List V)
 | dK (kvs:List (Key × V)) | dT (kvs:List (List Key × V))
 | set (S:Int->Bool) (n:Nat)
 | ins (C dx:Addr) (fs:List (Str × V))
 | own (x:Addr)
 | xd (fs:List (Str × V))
 | met (f x:Addr)
 | rng (lo hi:Int)
 | frz (o:Obj) (u:HO)
 | tbl (ps:Array Value)
 | ext (φ:Heap->Prop)
abbrev Hp:=Addr->Option HO
def upd (H:Hp) (a:Addr) (o:HO):Hp:=fun b=>if b=a then some o else H b
theorem zav {H:Hp} {a:Addr} {o:HO}:upd H a o a=some o:=by unfold upd; rw [if_pos rfl]
theorem zR {H:Hp} {a b:Addr} {o:HO} (h:b ≠ a):upd H a o b=H b:=by unfold upd; rw [if_neg h]
theorem zqV {H:Hp} {a:Addr} {o u:HO}:upd (upd H a o) a u=upd H a u:=by
 funext b; unfold upd; split <;> rfl
theorem zsM {H:Hp} {a b:Addr} {o u:HO} (h:H a=some o) (h':H b=some u) (d:o ≠ u):a ≠ b:=by
 intro e; subst e; rw [h] at h'; exact d (Option.some.inj h')
theorem zae {H:Hp} {a b:Addr} {o:HO} (h:H a=some o) (h':H b=none):a ≠ b:=by
 intro e; subst e; rw [h] at h'; cases h'
section
variable (P:Program) (w:World)
def ObjOk (H:Hp) (h:Heap) (a:Addr):HO->Prop
 | .lst xs=>xs.length<=sizeLine/\∃ (its:List Value) (n:Nat),Vals xs its/\h.get? a=some { cls:=.type "list",data:=.seq its.toArray n }
 | .tup xs=>xs.length<=sizeLine/\∃ its:List Value,Vals xs its/\IsTup h a its.toArray
 | .dK kvs=>kvs.length<=sizeLine/\(a == sysModules)=false/\∃ vs,KV kvs vs/\h.DictOf (mixKind P w) a vs
 | .dT kvs=>kvs.length<=sizeLine/\(a == sysModules)=false/\∃ xs:List (List Key × Addr × Value),
   Paired (fun (p:List Key × V) (q:List Key × Addr × Value)=>p.1=q.1/\H q.2.1=some (.tup (p.1.map kV))/\RelV p.2 q.2.2) kvs xs /\
   ∃ o es ep,h.get? a=some o/\o.ExactDict/\o.data=.dict es ep/\es.toList=xs.map (entryOfKey (tupleKind (mixKind P w)))/\(xs.map (·.1)).Nodup
 | .set S n=>h.SetOf (intKind P w) a S n
 | .ins C dx fs=>H dx=some (.own a)/\fs.length<=1000/\dx ≠ a/\h.get? a=some (PySem.W.instObj C dx) /\
   ∃ mA,h.Ns1 dx mA/\(∀ f,RelO (fs.lookup f) (mA f))/\PySem.Within mA (fs.map (·.1))
 | .own _=>∃ o,h.get? a=some o
 | .xd fs=>∃ mA,h.Ns1 a mA/\∀ f,RelO (fs.lookup f) (mA f)
 | .rng lo hi=>∃ t u v,h.get? a=some { cls:=.type "range",data:=.fields #[.int lo t,.int hi u,.int 1 v] }
 | .frz o u=>h.get? a=some o/\ObjOk H h a u
 | .tbl ps=>h.get? a=some { cls:=.none,data:=.fields ps }
 | .met f x=>h.get? a=some (PySem.W.methodObj (.ref f) (.ref x))
 | .ext φ=>φ h/\(∃ o,h.get? a=some o)/\∀ h1 h2:Heap,φ h1->(∀ o,h1.get? a=some o->h2.get? a=some o)->φ h2
def HOk (H:Hp) (h:Heap):Prop:=∀ a o,H a=some o->ObjOk P w H h a o
end
section
variable {P:Program} {w:World} {H H':Hp} {h h':Heap} {a:Addr} {o:HO}
theorem ObjOk.lt (x:ObjOk P w H h a o):a < h.objs.size:=by
 cases o with
 | lst xs=>obtain ⟨_,_,_,_,e⟩:=x; exact Heap.lt_size e
 | tup xs=>obtain ⟨_,_,_,p⟩:=x; exact p.lt
 | dK kvs=>obtain ⟨_,_,_,_,o,_,_,e,_⟩:=x; exact Heap.lt_size e
 | dT kvs=>obtain ⟨_,_,_,_,o,_,_,e,_⟩:=x; exact Heap.lt_size e
 | set S n=>obtain ⟨o,_,_,_,e,_⟩:=x; exact Heap.lt_size e
 | ins C dx fs=>obtain ⟨_,_,_,e,_⟩:=x; exact Heap.lt_size e
 | own y=>obtain ⟨_,e⟩:=x; exact Heap.lt_size e
 | xd fs=>obtain ⟨_,⟨_,_,_,e,_⟩,_⟩:=x; exact Heap.lt_size e
 | rng lo hi=>obtain ⟨_,_,_,e⟩:=x; exact Heap.lt_size e
 | frz ob u=>obtain ⟨e,_⟩:=x; exact Heap.lt_size e
 | tbl ps=>exact Heap.lt_size (show h.get? a=some _ from x)
 | met f y=>exact Heap.lt_size (show h.get? a=some _ from x)
 | ext φ=>obtain ⟨_,⟨_,e⟩,_⟩:=x; exact Heap.lt_size e
theorem Paired.mapP {α β:Type} {F G:α->β->Prop}:∀ {l₁:List α} {l₂:List β},Paired F l₁ l₂->(∀ a b,F a b->G a b)->Paired G l₁ l₂
 | _,_,.nil,_=>.nil
 | _,_,.cons r t,f=>.cons (f _ _ r) (Paired.mapP t f)
theorem ObjOk.stay (x:ObjOk P w H h a o) (k:∀ b u,(b=a \/ H b=some (.own a))->h.get? b=some u->h'.get? b=some u)
  (ho:∀ b,H b=some (.own a)->H' b=some (.own a)) (ht:∀ b xs,H b=some (.tup xs)->H' b=some (.tup xs)):ObjOk P w H' h' a o:=by
 induction o with
 | lst xs=>obtain ⟨z,its,n,r,e⟩:=x; exact ⟨z,its,n,r,k _ _ (.inl rfl) e⟩
 | tup xs=>obtain ⟨z,its,r,ob,e,c⟩:=x; exact ⟨z,its,r,ob,k _ _ (.inl rfl) e,c⟩
 | dK kvs=>obtain ⟨z,y,vs,r,ob,es,ep,e,c⟩:=x; exact ⟨z,y,vs,r,ob,es,ep,k _ _ (.inl rfl) e,c⟩
 | dT kvs =>
  obtain ⟨z,y,xs,r,ob,es,ep,e,c⟩:=x
  exact ⟨z,y,xs,Paired.mapP r fun p q z=>⟨z.1,ht _ _ z.2.1,z.2.2⟩,ob,es,ep,k _ _ (.inl rfl) e,c⟩
 | set S n=>obtain ⟨ob,es,ep,t,e,c⟩:=x; exact ⟨ob,es,ep,t,k _ _ (.inl rfl) e,c⟩
 | ins C dx fs =>
  obtain ⟨d,z,ne,e,mA,⟨od,es,ep,e2,c⟩,r⟩:=x
  exact ⟨ho _ d,z,ne,k _ _ (.inl rfl) e,mA,⟨od,es,ep,k _ _ (.inr d) e2,c⟩,r⟩
 | own y=>obtain ⟨ob,e⟩:=x; exact ⟨ob,k _ _ (.inl rfl) e⟩
 | xd fs=>obtain ⟨mA,⟨od,es,ep,e,c⟩,r⟩:=x; exact ⟨mA,⟨od,es,ep,k _ _ (.inl rfl) e,c⟩,r⟩
 | rng lo hi=>obtain ⟨t,u,v,e⟩:=x; exact ⟨t,u,v,k _ _ (.inl rfl) e⟩
 | frz ob u ih=>obtain ⟨e,q⟩:=x; exact ⟨k _ _ (.inl rfl) e,ih q⟩
 | tbl ps =>
  have e:h.get? a=some { cls:=.none,data:=.fields ps }:=x
  show h'.get? a=some { cls:=.none,data:=.fields ps }
  exact k a _ (.inl rfl) e
 | met f y =>
  have e:h.get? a=some (PySem.W.methodObj (.ref f) (.ref y)):=x
  show h'.get? a=some (PySem.W.methodObj (.ref f) (.ref y))
  exact k a _ (.inl rfl) e
 | ext φ=>obtain ⟨p,⟨o,e⟩,st⟩:=x; exact ⟨st _ _ p fun o q=>k _ _ (.inl rfl) q,⟨o,k _ _ (.inl rfl) e⟩,st⟩
theorem HOk.lt (x:HOk P w H h) (e:H a=some o):a < h.objs.size:=(x a o e).lt
theorem HOk.fresh (x:HOk P w H h) (e:h.objs.size<=a):H a=none:=by
 cases q:H a with
 | none=>rfl
 | some u=>exact absurd (Nat.lt_of_lt_of_le (x.lt q) e) (Nat.lt_irrefl _)
theorem HOk.kept (x:HOk P w H h) (k:∀ b u,h.get? b=some u->h'.get? b=some u):HOk P w H h':=fun a o e =>
 (x a o e).stay (fun b u _ q=>k b u q) (fun _ q=>q) fun _ _ q=>q
theorem HOk.laid (x:HOk P w H h) (k:∀ b u,h.get? b=some u->h'.get? b=some u) (hp:h.objs.size<=a) (new:ObjOk P w (upd H a o) h' a o):HOk P w (upd H a o) h':=fun b u e=>by
 have hn:=x.fresh hp
 by_cases hb:b=a
 ·subst hb; rw [zav] at e; cases e; exact new
 ·rw [zR hb] at e
  exact (x b u e).stay (fun c v _ q=>k c v q) (fun c q=>by rw [zR (zae q hn)]; exact q) fun c xs q=>by rw [zR (zae q hn)]; exact q
end
def Rd (H:Hp) (a:Addr) (u:HO):Prop:=H a=some u \/ ∃ o,H a=some (.frz o u)
theorem Rd.of {H:Hp} {a:Addr} {u:HO} (h:H a=some u):Rd H a u:=.inl h
theorem Rd.ok {P:Program} {w:World} {H:Hp} {h:Heap} {a:Addr} {u:HO} (r:Rd H a u) (x:HOk P w H h):ObjOk P w H h a u:=by
 rcases r with r | ⟨o,r⟩
 ·exact x a u r
 ·obtain ⟨_,q⟩:=x a _ r
  exact q
def Mut:Option HO->Prop
 | some (.lst _)=>True
 | some (.dK _)=>True
 | some (.dT _)=>True
 | some (.set _ _)=>True
 | some (.ins _ _ _)=>True
 | some (.ext _)=>True
 | _=>False
section
variable {P:Program} {w:World} {H:Hp} {h h':Heap} {x e:Addr} {o':HO}
theorem HOk.write (ok:HOk P w H h) (mu:Mut (H x)) (he:e=x \/ H e=some (.own x)) (k:∀ b u,b ≠ e->h.get? b=some u->h'.get? b=some u) (heo:∃ u,h'.get? e=some u)
  (new:ObjOk P w (upd H x o') h' x o'):HOk P w (upd H x o') h':=fun b u q=>by
 have nown:∀ c y,H c=some (.own y)->c ≠ x:=fun c y r z=>by subst z; rw [r] at mu; exact mu
 have ntup:∀ c xs,H c=some (.tup xs)->c ≠ x:=fun c xs r z=>by subst z; rw [r] at mu; exact mu
 by_cases hb:b=x
 ·subst hb; rw [zav] at q; cases q; exact new
 ·rw [zR hb] at q
  by_cases hbe:b=e
  ·have q':H b=some (.own x):=by
    rcases he with z | z
    ·exact absurd (hbe.trans z) hb
    ·rw [hbe]; exact z
   rw [q] at q'; cases q'
   obtain ⟨v,hv⟩:=heo
   exact ⟨v,by rw [hbe]; exact hv⟩
  ·refine (ok b u q).stay (fun c v hc r=>k c v ?_ r) (fun c r=>by rw [zR (nown c b r)]; exact r) fun c xs r=>by rw [zR (ntup c xs r)]; exact r
   rcases hc with rfl | hc
   ·exact hbe
   ·rintro rfl
    rcases he with z | z
    ·exact nown c b hc z
    ·rw [hc] at z; cases z; exact hb rfl
end
structure Un (fs ex:List Addr) (H H':Hp) (h h':Heap):Prop where
 keep:∀ b o,h.get? b=some o->H b=none->b ∉ fs->b ∉ ex->h'.get? b=some o
 slot:∀ b o,h.get? b=some o->H b=none->b ∈ fs->b ∉ ex->∃ sl,h'.get? b=some { o with slots:=sl }
 free:∀ b o,h.get? b=some o->H b=none->b ∉ ex->H' b=none
 there:∀ b o,h.get? b=some o->b ∉ ex->∃ o',h'.get? b=some o'
 tups:∀ b xs,H b=some (.tup xs)->H' b=some (.tup xs)
 frzs:∀ b o u,H b=some (.frz o u)->H' b=some (.frz o u)
 tbls:∀ b ps,H b=some (.tbl ps)->∃ more,H' b=some (.tbl (ps++more))
section
variable {fs fs' ex ex':List Addr} {H H1 H2:Hp} {h h1 h2 h':Heap} {a x e:Addr} {o:HO}
theorem Un.any (u:Un fs ex H H1 h h1) {b:Addr} {ob:Obj} (q:h.get? b=some ob) (n:H b=none) (hx:b ∉ ex):∃ sl,h1.get? b=some { ob with slots:=sl }:=by
 by_cases hb:b ∈ fs
 ·exact u.slot b ob q n hb hx
 ·exact ⟨ob.slots,u.keep b ob q n hb hx⟩
theorem Un.kept (k:∀ b u,h.get? b=some u->h'.get? b=some u):Un fs ex H H h h' :=
 ⟨fun b ob q _ _ _=>k b ob q,fun b ob q _ _ _=>⟨ob.slots,k b ob q⟩,fun _ _ _ n _=>n,fun b ob q _=>⟨ob,k b ob q⟩,fun _ _ q=>q,fun _ _ _ q=>q,fun _ ps q=>⟨#[],by rw [q]; simp⟩⟩
theorem Un.refl:Un fs ex H H h h:=Un.kept fun _ _ q=>q
theorem Un.laid (k:∀ b u,h.get? b=some u->h'.get? b=some u) (hp:h.objs.size<=a) (hn:H a=none):Un fs ex H (upd H a o) h h' where
 keep:=fun b u q _ _ _=>k b u q
 slot:=fun b u q _ _ _=>⟨u.slots,k b u q⟩
 free:=fun b u q n _=>by rw [zR (Nat.ne_of_lt (Nat.lt_of_lt_of_le (Heap.lt_size q) hp))]; exact n
 there:=fun b u q _=>⟨u,k b u q⟩
 tups:=fun b xs q=>by rw [zR (zae q hn)]; exact q
 frzs:=fun b u xs q=>by rw [zR (zae q hn)]; exact q
 tbls:=fun b ps q=>⟨#[],by rw [zR (zae q hn),q]; simp⟩
theorem Un.write (mu:Mut (H x)) (he:e=x \/ H e=some (.own x)) (k:∀ b u,b ≠ e->h.get? b=some u->h'.get? b=some u) (heo:∃ u,h'.get? e=some u):Un fs ex H (upd H x o) h h':=by
 have hx:∀ b,H b=none->b ≠ x:=fun b n z=>by subst z; rw [n] at mu; exact mu
 have hb:∀ b,H b=none->b ≠ e:=fun b n z=>by
  subst z
  rcases he with r | r
  ·exact hx b n r
  ·rw [n] at r; cases r
 have hm:∀ b u,H b=some u->¬ Mut (some u)->b ≠ x:=fun b u q nm z=>by subst z; rw [q] at mu; exact nm mu
 refine ⟨fun b u q n _ _=>k b u (hb b n) q,fun b u q n _ _=>⟨u.slots,k b u (hb b n) q⟩,fun b u q n _=>by rw [zR (hx b n)]; exact n,fun b u q _=>?_,
  fun b xs q=>by rw [zR (hm b _ q fun z=>z)]; exact q,fun b u xs q=>by rw [zR (hm b _ q fun z=>z)]; exact q,fun b ps q=>⟨#[],by rw [zR (hm b _ q fun z=>z),q]; simp⟩⟩
 by_cases hbe:b=e
 ·subst hbe; exact heo
 ·exact ⟨u,k b u hbe q⟩
end
def trk (h:Heap) (H:Hp):List Addr:=(List.range h.objs.size).filter fun a=>(H a).isSome
def hidT (h:Heap) (H:Hp):Heap:=PySem.W.hideAll h (trk h H)
theorem znd (h:Heap) (H:Hp):(hidT h H).objs.size=h.objs.size:=PySem.W.hideAll_size _ _
theorem zoB {h:Heap} {H:Hp} {b:Addr} {o:Obj} (e:h.get? b=some o) (n:H b=none):(hidT h H).get? b=some o :=
 PySem.W.hideAll_get _ e fun hm=>by
  have q:(H b).isSome=true:=(List.mem_filter.mp hm).2
  rw [n] at q; simp at q
theorem zqh {h:Heap} {H:Hp} {b:Addr} {o:Obj} (e:(hidT h H).get? b=some o):h.get? b=some o/\H b=none:=by
 have e':h.get? b=some o:=PySem.W.of_hideAll (trk h H) e
 refine ⟨e',?_⟩
 cases q:H b with
 | none=>rfl
 | some x =>
  have hm:b ∈ trk h H:=List.mem_filter.mpr ⟨List.mem_range.mpr (Heap.lt_size e'),by simp [q]⟩
  have z:(hidT h H).get? b=none:=PySem.W.hideAll_none (trk h H) hm
  rw [z] at e; cases e
structure Mod (K:PySem.W.Frag) (mg:Str->Option Value) (base:Heap):Prop where
 kin:K.In base
 glob:base.Ns mainGlobals mg
 blt:∃ mb,base.Ns builtinsNs mb/\∀ x:Str,x ≠ "__name__"->mb x=bootBuiltins x
 nolimit:base.NoLimit
structure Cx where
 prog:Program
 w:World
 K:PySem.W.Frag
 mg:Str->Option Value
 base:Heap
 A:Around
 N:List Str
 s₀:Shared
 H₀:Hp
 env:Env
 outer:List Env
 stack:List Env
 ex:List Addr
 fn:Str->Bool
 calm:Bool
 pn:List (Addr × Obj)
 xe:Value->Shared->Prop
def frs (l:List Env):List Addr:=l.filterMap (·.frame)
abbrev Cx.fs (X:Cx):List Addr:=frs X.outer
def Vis (sc:Scope) (x:Str):Prop:=sc.names.lookup x=some .local \/ sc.names.lookup x=some .cell \/ sc.names.lookup x=some .free
def Loc (sc:Scope) (x:Str):Prop:=sc.names.lookup x=some .local \/ sc.names.lookup x=some .cell
def Look (env:Env) (h:Heap) (m:Str->Option Value) (x:Str) (u:Value):Prop :=
 (env.kindOf x=some .local/\m x=some u) \/ ((env.kindOf x=some .cell \/ env.kindOf x=some .free)/\∃ c,env.cells.lookup x=some c/\h.IsCell c (some u))
structure Cx.Ok (X:Cx):Prop where
 mod:Mod X.K X.mg X.base
 kind:X.env.scope.kind=.function
 glob:X.env.globals=mainGlobals
 blt:X.env.builtins=builtinsNs
 above:X.s₀.heap.objs.size<=X.env.locals
 inj:∀ x y c,X.env.cells.lookup x=some c->X.env.cells.lookup y=some c->x=y
 has:∀ x,(X.env.kindOf x=some .cell \/ X.env.kindOf x=some .free)->∃ c,X.env.cells.lookup x=some c
 cab:∀ x c,X.fn x=true->X.env.cells.lookup x=some c->X.s₀.heap.objs.size<=c
 hd:X.calm=true->X.A.handled=none
 frames:X.A.frames=some X.stack
 stk:X.stack=X.outer \/ (X.stack=X.env :: X.outer/\X.env.frame=some X.env.locals)
 exf:∀ b ∈ X.ex,b ≠ X.env.locals/\∀ x c,X.env.cells.lookup x=some c->c ≠ b
 bs:∀ b o,X.base.get? b=some o->X.s₀.heap.get? b=some o/\X.H₀ b=none
 bsz:X.base.objs.size<=X.s₀.heap.objs.size
 noex:∀ b o,X.base.get? b=some o->b ∉ X.ex
 exfs:∀ b ∈ X.ex,b ∉ X.fs
 funs:X.s₀.heap.FunFrames X.base X.outer
 frf:∀ b ∈ X.fs,X.H₀ b=none
structure Inv (X:Cx) (pins:List (Addr × Obj)) (σ:List (Option V)) (H:Hp) (s:Shared):Prop where
 ok:X.Ok
 os:s.os=X.s₀.os
 bare:AllBare s.gens
 base:Un X.fs X.ex X.H₀ H X.s₀.heap s.heap
 loc:∃ m,s.heap.Ns X.env.locals m/\∀ (i:Nat) (x:Str) (v:V),X.N[i]?=some x->σ[i]?=some (some v)->Vis X.env.scope x->∃ u,RelV v u/\Look X.env s.heap m x u
 cell:∀ x c,X.env.cells.lookup x=some c->∃ v,s.heap.IsCell c v
 free:H X.env.locals=none
 freeC:∀ x c,X.env.cells.lookup x=some c->H c=none
 pin:∀ p ∈ X.pn++pins,s.heap.get? p.1=some p.2/\H p.1=none/\p.1 ≠ X.env.locals/\p.1 ∉ X.fs/\∀ v,p.2.data ≠ .cell v
 hok:HOk X.prog X.w H s.heap
 len:σ.length=X.N.length
section
variable {X:Cx} {pins:List (Addr × Obj)} {σ:List (Option V)} {H H':Hp} {s:Shared} {h':Heap}
theorem Cx.Ok.nofr (ok:X.Ok) {b:Addr} {o:Obj} (e:X.base.get? b=some o):b ∉ X.fs:=fun hb=>by
 have:=(ok.funs.mem hb).1
 rw [e] at this; cases this
theorem Inv.bs (I:Inv X pins σ H s):∀ b o,X.base.get? b=some o->s.heap.get? b=some o/\H b=none:=fun b o e =>
 ⟨I.base.keep b o (I.ok.bs b o e).1 (I.ok.bs b o e).2 (I.ok.nofr e) (I.ok.noex b o e),I.base.free b o (I.ok.bs b o e).1 (I.ok.bs b o e).2 (I.ok.noex b o e)⟩
theorem Inv.bk (I:Inv X pins σ H s):∀ b o,X.base.get? b=some o->s.heap.get? b=some o:=fun b o e=>(I.bs b o e).1
theorem Inv.mod (I:Inv X pins σ H s):Mod X.K X.mg X.base:=I.ok.mod
theorem Inv.kIn (I:Inv X pins σ H s):X.K.In s.heap:=I.ok.mod.kin.keeps I.bk
theorem Inv.lt (I:Inv X pins σ H s):X.env.locals < s.heap.objs.size:=let ⟨_,hn,_⟩:=I.loc; hn.lt
theorem Inv.sz (I:Inv X pins σ H s):X.s₀.heap.objs.size<=s.heap.objs.size:=Nat.le_trans I.ok.above (Nat.le_of_lt I.lt)
theorem Inv.nofs (I:Inv X pins σ H s) {a:Addr} (h:s.heap.objs.size<=a):a ∉ X.fs:=fun hb=>by
 obtain ⟨_,o,ho,_⟩:=I.ok.funs.mem hb
 exact absurd (Nat.lt_of_lt_of_le (Heap.lt_size ho) (Nat.le_trans I.sz h)) (Nat.lt_irrefl _)
theorem Inv.cne (I:Inv X pins σ H s):∀ x c,X.env.cells.lookup x=some c->c ≠ X.env.locals:=fun x c e z=>by
 obtain ⟨v,o,ho,hd⟩:=I.cell x c e
 obtain ⟨m,⟨o',es,ep,ho',hd',_⟩,_⟩:=I.loc
 rw [z,ho'] at ho; cases ho; rw [hd'] at hd; cases hd
theorem Inv.funs (I:Inv X pins σ H s):s.heap.FunFrames X.base X.outer:=by
 have all:∀ (l:List Env),(∀ b ∈ frs l,b ∈ X.fs)->X.s₀.heap.FunFrames X.base l->s.heap.FunFrames X.base l:=by
  intro l
  induction l with
  | nil=>intro _ _; trivial
  | cons env r ih =>
   intro hs hl
   obtain ⟨hk,⟨L,o,hf,hn,ho,hd⟩,hr⟩:=hl
   have hL:L ∈ X.fs:=hs L (by unfold frs; rw [List.filterMap_cons,hf]; exact List.mem_cons_self)
   obtain ⟨sl,e⟩:=I.base.slot L o ho (I.ok.frf L hL) hL fun z=>I.ok.exfs L z hL
   exact ⟨hk,⟨L,_,hf,hn,e,hd⟩,ih (fun b hb=>hs b (by unfold frs; rw [List.filterMap_cons,hf]; exact List.mem_cons_of_mem _ hb)) hr⟩
 exact all X.outer (fun _ hb=>hb) I.ok.funs
theorem Inv.stack (I:Inv X pins σ H s):s.heap.FunFrames X.base X.stack:=by
 rcases I.ok.stk with e | ⟨e,hf⟩
 ·rw [e]; exact I.funs
 ·rw [e]
  obtain ⟨m,hn,_⟩:=I.loc
  refine .cons (by rw [I.ok.kind]; decide) hf hn ?_ I.funs
  exact Heap.get?_none_of_le (Nat.le_trans I.ok.bsz I.ok.above)
theorem Inv.stkSub (I:Inv X pins σ H s):∀ b ∈ frs X.stack,b ∈ X.env.locals :: X.fs:=fun b hb=>by
 rcases I.ok.stk with e | ⟨e,hf⟩
 ·rw [e] at hb; exact List.mem_cons_of_mem _ hb
 ·rw [e] at hb
  unfold frs at hb
  rw [List.filterMap_cons,hf] at hb
  exact hb
theorem Inv.stkFree (I:Inv X pins σ H s):∀ b ∈ frs X.stack,H b=none:=fun b hb=>by
 rcases List.mem_cons.mp (I.stkSub b hb) with e | hb
 ·rw [e]; exact I.free
 ·obtain ⟨_,o,ho,_⟩:=I.ok.funs.mem hb
  exact I.base.free b o ho (I.ok.frf b hb) fun z=>I.ok.exfs b z hb
theorem Inv.step {g':Array GenState} {t':Nat} {d':Drawn} {ch:List Addr} (I:Inv X pins σ H s)
  (hch:∀ b ∈ ch,(b ∈ X.ex \/ X.s₀.heap.objs.size<=b)/\b ≠ X.env.locals/\(∀ x c,X.env.cells.lookup x=some c->c ≠ b)/\∀ p ∈ X.pn++pins,p.1 ≠ b)
  (keep:∀ b o,b ≠ X.env.locals->b ∉ X.fs->b ∉ ch->s.heap.get? b=some o->H b=none->h'.get? b=some o)
  (slot:∀ b o,b ≠ X.env.locals->b ∈ X.fs->b ∉ ch->s.heap.get? b=some o->H b=none->∃ sl,h'.get? b=some { o with slots:=sl }) (free:∀ b o,b ∉ ch->s.heap.get? b=some o->H b=none->H' b=none)
  (there:∀ b o,b ∉ ch->s.heap.get? b=some o->∃ o',h'.get? b=some o')
  (tups:∀ b xs,H b=some (.tup xs)->H' b=some (.tup xs)) (frzs:∀ b o u,H b=some (.frz o u)->H' b=some (.frz o u)) (tbls:∀ b ps,H b=some (.tbl ps)->∃ more,H' b=some (.tbl (ps++more)))
  (ns:∀ m,s.heap.Ns X.env.locals m->h'.Ns X.env.locals m) (hok:HOk X.prog X.w H' h') (hg:AllBare g') :
  Inv X pins σ H' { s with heap:=h',gens:=g',drawn:=d',toks:=t' }:=by
 have neL:∀ b o,X.s₀.heap.get? b=some o->b ≠ X.env.locals:=fun b o e=>Nat.ne_of_lt (Nat.lt_of_lt_of_le (Heap.lt_size e) I.ok.above)
 have neC:∀ b o,X.s₀.heap.get? b=some o->b ∉ X.ex->b ∉ ch:=fun b o e hx hb=>by
  rcases (hch b hb).1 with z | z
  ·exact hx z
  ·exact absurd (Nat.lt_of_lt_of_le (Heap.lt_size e) z) (Nat.lt_irrefl _)
 have cellK:∀ x c,X.env.cells.lookup x=some c->∀ v,s.heap.IsCell c v->h'.IsCell c v:=fun x c e v ⟨o,ho,hd⟩=>by
  have nch:c ∉ ch:=fun z=>(hch c z).2.2.1 x c e rfl
  by_cases hc:c ∈ X.fs
  ·obtain ⟨sl,q⟩:=slot c o (I.cne x c e) hc nch ho (I.freeC x c e)
   exact ⟨_,q,hd⟩
  ·exact ⟨o,keep c o (I.cne x c e) hc nch ho (I.freeC x c e),hd⟩
 refine ⟨I.ok,I.os,hg,⟨fun b o e n hb hx=>?_,fun b o e n hb hx=>?_,fun b o e n hx=>?_,fun b o e hx=>?_,fun b xs e=>tups b xs (I.base.tups b xs e),fun b o xs e=>frzs b o xs (I.base.frzs b o xs e),fun b ps e=>?_⟩,?_,fun x c e=>?_,?_,fun x c e=>?_,fun p hp=>?_,hok,I.len⟩
 ·exact keep b o (neL b o e) hb (neC b o e hx) (I.base.keep b o e n hb hx) (I.base.free b o e n hx)
 ·obtain ⟨sl,e1⟩:=I.base.slot b o e n hb hx
  obtain ⟨sl',e2⟩:=slot b _ (neL b o e) hb (neC b o e hx) e1 (I.base.free b o e n hx)
  exact ⟨sl',e2⟩
 ·obtain ⟨o',e1⟩:=I.base.there b o e hx
  exact free b o' (neC b o e hx) e1 (I.base.free b o e n hx)
 ·obtain ⟨o',e1⟩:=I.base.there b o e hx
  exact there b o' (neC b o e hx) e1
 ·obtain ⟨m1,e1⟩:=I.base.tbls b ps e
  obtain ⟨m2,e2⟩:=tbls b _ e1
  exact ⟨m1++m2,by rw [e2,Array.append_assoc]⟩
 ·obtain ⟨m,hn,hl⟩:=I.loc
  refine ⟨m,ns m hn,fun i x v e1 e2 e3=>?_⟩
  obtain ⟨u,r,l⟩:=hl i x v e1 e2 e3
  refine ⟨u,r,?_⟩
  rcases l with l | ⟨k,c,e,z⟩
  ·exact .inl l
  ·exact .inr ⟨k,c,e,cellK x c e _ z⟩
 ·obtain ⟨v,z⟩:=I.cell x c e
  exact ⟨v,cellK x c e v z⟩
 ·obtain ⟨m,⟨o,_,_,ho,_⟩,_⟩:=I.loc
  exact free _ o (fun z=>(hch _ z).2.1 rfl) ho I.free
 ·obtain ⟨v,o,ho,hd⟩:=I.cell x c e
  exact free c o (fun z=>(hch c z).2.2.1 x c e rfl) ho (I.freeC x c e)
 ·obtain ⟨e,n,ne,nf,d⟩:=I.pin p hp
  have nch:p.1 ∉ ch:=fun z=>(hch p.1 z).2.2.2 p hp rfl
  exact ⟨keep p.1 p.2 ne nf nch e n,free p.1 p.2 nch e n,ne,nf,d⟩
theorem Inv.un {t':Nat} (I:Inv X pins σ H s) (u:Un X.fs [] H H' s.heap h') (hok:HOk X.prog X.w H' h'):Inv X pins σ H' { s with heap:=h',toks:=t' }:=by
 obtain ⟨m,⟨o,es,ep,ho,r⟩,_⟩:=id I.loc
 obtain ⟨sl,hL⟩:=u.any ho I.free (by simp)
 exact I.step (g':=s.gens) (d':=s.drawn) (ch:=[]) (fun _ z=>nomatch z) (fun b o _ hb _ e n=>u.keep b o e n hb (by simp)) (fun b o _ hb _ e n=>u.slot b o e n hb (by simp)) (fun b o _ e n=>u.free b o e n (by simp)) (fun b o _ e=>u.there b o e (by simp)) u.tups u.frzs u.tbls (fun m' hm=>by
  obtain ⟨o',es',ep',ho',r'⟩:=hm
  rw [ho] at ho'; cases ho'
  exact ⟨_,es',ep',hL,r'⟩) hok I.bare
theorem Inv.call {g':Array GenState} {t':Nat} {d':Drawn} {ch:List Addr} (I:Inv X pins σ H s) (u:Un (frs X.stack) ch H H' s.heap h') (hok:HOk X.prog X.w H' h') (hg:AllBare g')
  (hch:∀ b ∈ ch,(b ∈ X.ex \/ X.s₀.heap.objs.size<=b)/\b ≠ X.env.locals/\(∀ x c,X.env.cells.lookup x=some c->c ≠ b)/\∀ p ∈ X.pn++pins,p.1 ≠ b) :
  Inv X pins σ H' { s with heap:=h',gens:=g',drawn:=d',toks:=t' }:=by
 obtain ⟨m,⟨o,es,ep,ho,r⟩,_⟩:=id I.loc
 obtain ⟨sl,hL⟩:=u.any ho I.free fun z=>(hch _ z).2.1 rfl
 exact I.step (ch:=ch) hch (fun b o hL hb hc e n=>u.keep b o e n (fun z=>(List.mem_cons.mp (I.stkSub b z)).elim hL hb) hc) (fun b o _ _ hc e n=>u.any e n hc) (fun b o hc e n=>u.free b o e n hc) (fun b o hc e=>u.there b o e hc) u.tups u.frzs u.tbls (fun m' hm=>by
  obtain ⟨o',es',ep',ho',r'⟩:=hm
  rw [ho] at ho'; cases ho'
  exact ⟨_,es',ep',hL,r'⟩) hok hg
theorem Inv.turned {t':Nat} {it:Addr} (I:Inv X pins σ H s) (k:∀ b o,b ≠ it->s.heap.get? b=some o->h'.get? b=some o) (hn:H it=none) (hL:it ≠ X.env.locals)
  (h1:it ∈ X.ex \/ X.s₀.heap.objs.size<=it) (h2:∀ x c,X.env.cells.lookup x=some c->c ≠ it) (h3:∀ p ∈ X.pn++pins,p.1 ≠ it):Inv X pins σ H { s with heap:=h',toks:=t' }:=by
 have nit:∀ b u,H b=some u->b ≠ it:=fun b u e z=>by rw [z,hn] at e; cases e
 refine I.step (g':=s.gens) (d':=s.drawn) (ch:=[it]) (fun b hb=>?_) (fun b o _ _ hc e _=>k b o (fun z=>hc (by simp [z])) e) (fun b o _ _ hc e _=>⟨o.slots,k b o (fun z=>hc (by simp [z])) e⟩) (fun _ _ _ _ n=>n)
  (fun b o hc e=>⟨o,k b o (fun z=>hc (by simp [z])) e⟩) (fun _ _ e=>e) (fun _ _ _ e=>e) (fun b ps e=>⟨#[],by rw [e]; simp⟩) (fun m hm=>?_) (fun b u e=>?_) I.bare
 ·have e:b=it:=by simpa using hb
  subst e
  exact ⟨h1,hL,h2,h3⟩
 ·obtain ⟨o,es,ep,ho,r⟩:=hm
  exact ⟨o,es,ep,k _ o (Ne.symm hL) ho,r⟩
 ·refine (I.hok b u e).stay (fun c v hc q=>k c v ?_ q) (fun _ q=>q) fun _ _ q=>q
  rcases hc with z | z
  ·rw [z]; exact nit b u e
  ·exact nit c _ z
theorem Inv.tok (I:Inv X pins σ H s) (t:Nat):Inv X pins σ H { s with toks:=t }:=I.un (h':=s.heap) (t':=t) Un.refl I.hok
theorem Inv.kept {t':Nat} (I:Inv X pins σ H s) (k:∀ b u,s.heap.get? b=some u->h'.get? b=some u):Inv X pins σ H { s with heap:=h',toks:=t' }:=I.un (Un.kept k) (I.hok.kept k)
theorem Inv.laid {a:Addr} {o:HO} {t':Nat} (I:Inv X pins σ H s) (k:∀ b u,s.heap.get? b=some u->h'.get? b=some u) (hp:s.heap.objs.size<=a) (new:ObjOk X.prog X.w (upd H a o) h' a o) :
  Inv X pins σ (upd H a o) { s with heap:=h',toks:=t' }:=I.un (Un.laid k hp (I.hok.fresh hp)) (I.hok.laid k hp new)
theorem Inv.write {x e:Addr} {o:HO} {t':Nat} (I:Inv X pins σ H s) (mu:Mut (H x)) (he:e=x \/ H e=some (.own x)) (k:∀ b u,b ≠ e->s.heap.get? b=some u->h'.get? b=some u) (heo:∃ u,h'.get? e=some u)
  (new:ObjOk X.prog X.w (upd H x o) h' x o):Inv X pins σ (upd H x o) { s with heap:=h',toks:=t' }:=I.un (Un.write mu he k heo) (I.hok.write mu he k heo new)
theorem Inv.pins_of {pins':List (Addr × Obj)} (I:Inv X pins σ H s) (h:∀ p ∈ pins',s.heap.get? p.1=some p.2/\H p.1=none/\p.1 ≠ X.env.locals/\p.1 ∉ X.fs/\∀ v,p.2.data ≠ .cell v):Inv X pins' σ H s :=
 ⟨I.ok,I.os,I.bare,I.base,I.loc,I.cell,I.free,I.freeC,fun p hp=>(List.mem_append.mp hp).elim (fun z=>I.pin p (List.mem_append_left _ z)) (h p),I.hok,I.len⟩
theorem zkZ {N:List Str} (hN:N.Nodup) {i j:Nat} {x:Str} (a:N[i]?=some x) (b:N[j]?=some x):i=j:=by
 obtain ⟨h1,e1⟩:=List.getElem?_eq_some_iff.mp a
 obtain ⟨h2,e2⟩:=List.getElem?_eq_some_iff.mp b
 exact (List.getElem_inj hN).mp (e1.trans e2.symm)
theorem zn1 {M:Model} {A:Around} {E:Value->Shared->Prop} {i:Nat} {x:Str} {v:V} {u:Value} {Q:Unit->Shared->Prop} (I:Inv X pins σ H s) (hN:X.N.Nodup) (hi:X.N[i]?=some x) (hx:Loc X.env.scope x) (r:RelV v u)
  (h:∀ s',Inv X pins (σ.set i (some v)) H s'->(∃ a,Heap.SameBut a s.heap s'.heap/\(a=X.env.locals \/ X.env.cells.lookup x=some a))->Q () s') (hf:X.fn x=true \/ X.env.scope.names.lookup x=some .local:=by first | exact .inl rfl | exact .inr rfl | assumption):wpAny M A (storeName X.env x u) Q E s:=by
 obtain ⟨m,hn,hl⟩:=id I.loc
 have hcls:(X.env.scope.kind == .class || (X.env.scope.kind == .module && X.env.locals != X.env.globals))=false:=by rw [I.ok.kind]; rfl
 have hiσ:i < σ.length:=by rw [I.len]; exact (List.getElem?_eq_some_iff.mp hi).1
 have cne:=I.cne
 have tracked:∀ {a:Addr} {h':Heap},(∃ o,s.heap.get? a=some o/\H a=none)->Heap.SameBut a s.heap h'->HOk X.prog X.w H h':=fun {a h'} ha hs b ob e=>by
  obtain ⟨_,_,hfree⟩:=ha
  refine (I.hok b ob e).stay (fun c w' hc q=>(hs.2 c ?_).trans q) (fun _ q=>q) fun _ _ q=>q
  rintro rfl
  rcases hc with rfl | hc
  ·rw [hfree] at e; cases e
  ·rw [hfree] at hc; cases hc
 rcases hx with hk | hk
 ·refine wpAny_storeName_local hk hn (fun h' hn' hs=>?_) hcls
  obtain ⟨oL,_,_,hoL,_⟩:=id hn
  refine h _ ⟨I.ok,I.os,I.bare,⟨fun b o e n hb hx=>?_,fun b o e n hb hx=>?_,I.base.free,fun b o e hx=>?_,I.base.tups,I.base.frzs,I.base.tbls⟩,⟨_,hn',fun j y v' e1 e2 e3=>?_⟩,fun y c e=>?_,I.free,I.freeC,fun p hp=>?_,tracked ⟨oL,hoL,I.free⟩ hs,by simpa using I.len⟩ ⟨_,hs,.inl rfl⟩
  ·exact (hs.2 b (Nat.ne_of_lt (Nat.lt_of_lt_of_le (Heap.lt_size e) I.ok.above))).trans (I.base.keep b o e n hb hx)
  ·obtain ⟨sl,e1⟩:=I.base.slot b o e n hb hx
   exact ⟨sl,(hs.2 b (Nat.ne_of_lt (Nat.lt_of_lt_of_le (Heap.lt_size e) I.ok.above))).trans e1⟩
  ·obtain ⟨o',e1⟩:=I.base.there b o e hx
   exact ⟨o',(hs.2 b (Nat.ne_of_lt (Nat.lt_of_lt_of_le (Heap.lt_size e) I.ok.above))).trans e1⟩
  ·by_cases hj:j=i
   ·subst hj
    rw [hi] at e1; cases e1
    rw [List.getElem?_set_self hiσ] at e2
    cases e2
    exact ⟨u,r,.inl ⟨hk,by simp⟩⟩
   ·rw [List.getElem?_set_ne (Ne.symm hj)] at e2
    obtain ⟨u',r',q⟩:=hl j y v' e1 e2 e3
    refine ⟨u',r',?_⟩
    rcases q with ⟨k,e⟩ | ⟨k,c,e,z⟩
    ·refine .inl ⟨k,?_⟩
     have:y ≠ x:=fun e=>hj (zkZ hN e1 (e ▸ hi))
     simp [this,e]
    ·exact .inr ⟨k,c,e,z.sameBut hs (cne y c e)⟩
  ·obtain ⟨w',z⟩:=I.cell y c e
   exact ⟨w',z.sameBut hs (cne y c e)⟩
  ·obtain ⟨e,n,ne,nf,d⟩:=I.pin p hp
   exact ⟨(hs.2 p.1 ne).trans e,n,ne,nf,d⟩
 ·have hfn:X.fn x=true:=by
   rcases hf with z | z
   ·exact z
   ·rw [z] at hk; cases hk
  obtain ⟨c,hc⟩:=I.ok.has x (.inl hk)
  obtain ⟨w',z⟩:=I.cell x c hc
  refine wpAny_storeName_cell I.ok.kind hk hc z (fun h' hc' hs=>?_)
  obtain ⟨oc,hoc,hocd⟩:=id z
  refine h { s with heap:=h' } ⟨I.ok,I.os,I.bare,⟨fun b o e n hb hx=>?_,fun b o e n hb hx=>?_,I.base.free,fun b o e hx=>?_,I.base.tups,I.base.frzs,I.base.tbls⟩,⟨m,hn.sameBut hs (Ne.symm (cne x c hc)),fun j y v' e1 e2 e3=>?_⟩,fun y c' e=>?_,I.free,I.freeC,fun p hp=>?_,tracked ⟨oc,hoc,I.freeC x c hc⟩ hs,by simpa using I.len⟩ ⟨c,hs,.inr hc⟩
  ·exact (hs.2 b (Nat.ne_of_lt (Nat.lt_of_lt_of_le (Heap.lt_size e) (I.ok.cab x c hfn hc)))).trans (I.base.keep b o e n hb hx)
  ·obtain ⟨sl,e1⟩:=I.base.slot b o e n hb hx
   exact ⟨sl,(hs.2 b (Nat.ne_of_lt (Nat.lt_of_lt_of_le (Heap.lt_size e) (I.ok.cab x c hfn hc)))).trans e1⟩
  ·obtain ⟨o',e1⟩:=I.base.there b o e hx
   exact ⟨o',(hs.2 b (Nat.ne_of_lt (Nat.lt_of_lt_of_le (Heap.lt_size e) (I.ok.cab x c hfn hc)))).trans e1⟩
  ·by_cases hj:j=i
   ·subst hj
    rw [hi] at e1; cases e1
    rw [List.getElem?_set_self hiσ] at e2
    cases e2
    exact ⟨u,r,.inr ⟨.inl hk,c,hc,hc'⟩⟩
   ·rw [List.getElem?_set_ne (Ne.symm hj)] at e2
    obtain ⟨u',r',q⟩:=hl j y v' e1 e2 e3
    refine ⟨u',r',?_⟩
    rcases q with q | ⟨k,c',e,z'⟩
    ·exact .inl q
    ·refine .inr ⟨k,c',e,z'.sameBut hs ?_⟩
     rintro rfl
     exact hj (zkZ hN e1 (I.ok.inj _ _ _ e hc ▸ hi))
  ·by_cases hcc:c'=c
   ·subst hcc; exact ⟨_,hc'⟩
   ·obtain ⟨w2,z2⟩:=I.cell y c' e
    exact ⟨w2,z2.sameBut hs hcc⟩
  ·obtain ⟨e,n,ne,nf,d⟩:=I.pin p hp
   refine ⟨(hs.2 p.1 ?_).trans e,n,ne,nf,d⟩
   intro q
   rw [q,hoc] at e
   have q':oc=p.2:=Option.some.inj e
   exact d w' (by rw [<- q']; exact hocd)
theorem ze5 {M:Model} {A:Around} {E:Value->Shared->Prop} {i:Nat} {x:Str} {v:V} {u:Value} {Q:Unit->Shared->Prop} (I:Inv X pins σ H s) (hN:X.N.Nodup) (hi:X.N[i]?=some x) (hx:Loc X.env.scope x) (r:RelV v u)
  (h:∀ s',Inv X pins (σ.set i (some v)) H s'->Q () s') (hf:X.fn x=true \/ X.env.scope.names.lookup x=some .local:=by first | exact .inl rfl | exact .inr rfl | assumption):wpAny M A (storeName X.env x u) Q E s :=
 zn1 I hN hi hx r (fun s' I' _=>h s' I') hf
theorem Inv.call' {s':Shared} {ch:List Addr} (I:Inv X pins σ H s) (ho:s'.os=s.os) (u:Un (frs X.stack) ch H H' s.heap s'.heap) (hok:HOk X.prog X.w H' s'.heap) (hg:AllBare s'.gens)
  (hch:∀ b ∈ ch,(b ∈ X.ex \/ X.s₀.heap.objs.size<=b)/\b ≠ X.env.locals/\(∀ x c,X.env.cells.lookup x=some c->c ≠ b)/\∀ p ∈ X.pn++pins,p.1 ≠ b):Inv X pins σ H' s':=by
 obtain ⟨h',g',d',t',o'⟩:=s'
 have e:o'=s.os:=ho
 subst e
 exact I.call (g':=g') (t':=t') (d':=d') u hok hg hch
end
abbrev XK:=Value->Option Addr->Hp->Prop
abbrev St:=List (Option V)
abbrev VK:=V->Hp->Prop
abbrev TE:=St->Hp->VK->Prop
abbrev TT:=St->Hp->(Bool->Hp->Prop)->Prop
abbrev TA:=St->Hp->(List V->Hp->Prop)->Prop
structure Ends where
 nx:St->Hp->Prop
 rt:VK
 bk:St->Hp->Prop:=fun _ _=>False
 ct:St->Hp->Prop:=fun _ _=>False
abbrev TS:=Ends->St->Hp->Prop
def EP (X:Cx) (pins:List (Addr × Obj)) (σ:St) (Q:VK) (u:Value) (s':Shared):Prop:=∃ v H',Inv X pins σ H' s'/\RelV v u/\Q v H'
def TP (X:Cx) (pins:List (Addr × Obj)) (σ:St) (Q:Bool->Hp->Prop) (b:Bool) (s':Shared):Prop:=∃ H',Inv X pins σ H' s'/\Q b H'
def AP (X:Cx) (pins:List (Addr × Obj)) (σ:St) (Q:List V->Hp->Prop) (us:List Value) (s':Shared):Prop:=∃ vs H',Inv X pins σ H' s'/\Vals vs us/\Q vs H'
def SP (X:Cx) (pins:List (Addr × Obj)) (D:Ends) (f:Flow) (s':Shared):Prop :=
 match f with
 | .next=>∃ σ' H',Inv X pins σ' H' s'/\D.nx σ' H'
 | .brk=>∃ σ' H',Inv X pins σ' H' s'/\D.bk σ' H'
 | .cont=>∃ σ' H',Inv X pins σ' H' s'/\D.ct σ' H'
 | .ret u=>∃ v σ' H',Inv X pins σ' H' s'/\RelV v u/\D.rt v H'
def PE (X:Cx) (e:Expr) (t:TE):Prop :=
 ∀ (pins:List (Addr × Obj)) (s:Shared) (σ:St) (H:Hp) (Q:VK),Inv X pins σ H s->t σ H Q->wpAny (model X.prog X.w) X.A (eval e X.env) (EP X pins σ Q) X.xe s
def PT (X:Cx) (e:Expr) (t:TT):Prop :=
 ∀ (pins:List (Addr × Obj)) (s:Shared) (σ:St) (H:Hp) (Q:Bool->Hp->Prop),Inv X pins σ H s->t σ H Q->wpAny (model X.prog X.w) X.A (isTrue e X.env (eval e X.env)) (TP X pins σ Q) X.xe s
def PW (X:Cx) (e:Expr) (t:TT):Prop :=
 ∀ (whole:Sem Value) (pins:List (Addr × Obj)) (s:Shared) (σ:St) (H:Hp) (Q:Bool->Hp->Prop),Inv X pins σ H s->t σ H Q->wpAny (model X.prog X.w) X.A (isTrue e X.env whole) (TP X pins σ Q) X.xe s
theorem PW.pt {X:Cx} {e:Expr} {t:TT} (h:PW X e t):PT X e t:=h _
def PA (X:Cx) (es:List Expr) (t:TA):Prop :=
 ∀ (pos:Pos) (pins:List (Addr × Obj)) (s:Shared) (σ:St) (H:Hp) (Q:List V->Hp->Prop),Inv X pins σ H s->t σ H Q->wpAny (model X.prog X.w) X.A (spliced (backTo pos (starEach es X.env))) (AP X pins σ Q) X.xe s
def PS (X:Cx) (st:Stmt) (t:TS):Prop :=
 ∀ (pins:List (Addr × Obj)) (s:Shared) (σ:St) (H:Hp) (D:Ends),Inv X pins σ H s->t D σ H->wpAny (model X.prog X.w) X.A (exec st X.env) (SP X pins D) X.xe s
def PSs (X:Cx) (st:List Stmt) (t:TS):Prop :=
 ∀ (pins:List (Addr × Obj)) (s:Shared) (σ:St) (H:Hp) (D:Ends),Inv X pins σ H s->t D σ H->wpAny (model X.prog X.w) X.A (execs st X.env) (SP X pins D) X.xe s
theorem thn {α:Type} {t:Sem α} {Q Q':α->Shared->Prop} {M:Model} {A:Around} {E:Value->Shared->Prop} {s:Shared} (h:wpAny M A t Q E s) (hQ:∀ a s,Q a s->Q' a s):wpAny M A t Q' E s:=wpAny_mono h hQ fun _ _ x=>x
section
variable {X:Cx}
theorem bin {a b:Expr} {ta tb:TE} (ha:PE X a ta) (hb:PE X b tb) {pins:List (Addr × Obj)} {s:Shared} {σ:St} {H:Hp} {R:V->V->Hp->Prop} (I:Inv X pins σ H s) (h:ta σ H fun x H1=>tb σ H1 fun y H2=>R x y H2)
  {α:Type} {Q:α->Shared->Prop} {f:Value->Value->Sem α}
  (hf:∀ v u s2 x y H2,Inv X pins σ H2 s2->RelV x v->RelV y u->R x y H2->wpAny (model X.prog X.w) X.A (f v u) Q X.xe s2) :
  wpAny (model X.prog X.w) X.A (eval a X.env) (fun v s₁=>wpAny (model X.prog X.w) X.A (eval b X.env) (fun u s₂=>wpAny (model X.prog X.w) X.A (f v u) Q X.xe s₂) X.xe s₁) X.xe s:=by
 refine thn (ha pins s σ H _ I h) fun v s1 ⟨x,H1,I1,r1,q1⟩=>?_
 refine thn (hb pins s1 σ H1 _ I1 q1) fun u s2 ⟨y,H2,I2,r2,q2⟩=>?_
 exact hf v u s2 x y H2 I2 r1 r2 q2
def tVar (i:Nat):TE:=fun σ H Q=>∃ v,σ[i]?=some (some v)/\Q v H
def tC (v:V):TE:=fun _ H Q=>Q v H
theorem zss {i:Nat} {x:Str} {pos:Pos} (hN:X.N[i]?=some x) (hv:Vis X.env.scope x) (hd:(x == ("__debug__":Str))=false:=by decide) (hcd:(x == ("__classdict__":Str))=false:=by decide):PE X (.Name x pos) (tVar i):=by
 intro pins s σ H Q I h
 obtain ⟨v,e,h⟩:=h
 obtain ⟨m,hn,hl⟩:=I.loc
 obtain ⟨u,r,l⟩:=hl i x v hN e hv
 have fin:EP X pins σ Q u s:=⟨v,H,I,r,h⟩
 rcases l with ⟨hk,hm⟩ | ⟨hk,c,hc,hcell⟩
 ·exact wpAny_Name (wpAny_loadName_local I.ok.kind hk hn hm fin) hd
 ·rcases hk with hk | hk
  ·exact wpAny_Name (wpAny_loadName_cell I.ok.kind hk hc hcell fin) hd
  ·exact wpAny_Name (wpAny_loadName_free I.ok.kind hk hc hcell fin hcd) hd
theorem pe_int {i j pos}:PE X (.Constant (.int i) j pos) (tC (.int i)):=fun _ _ _ H _ I h=>wpAny_Constant_int ⟨.int i,H,I.tok _,⟨_,rfl⟩,h⟩
theorem pe_bl {b j pos}:PE X (.Constant (.bool b) j pos) (tC (.bl b)):=fun _ _ _ H _ I h=>Constant_bool ⟨.bl b,H,I,rfl,h⟩
theorem pe_non {j pos}:PE X (.Constant .none j pos) (tC .non):=fun _ _ _ H _ I h=>Constant_none ⟨.non,H,I,rfl,h⟩
theorem pe_str {x j pos}:PE X (.Constant (.str x) j pos) (tC (.str x)):=fun _ _ _ H _ I h=>Calls.Constant_str ⟨.str x,H,I.tok _,⟨_,rfl⟩,h⟩
def Gl (X:Cx) (x:Str):Prop:=X.env.kindOf x=some .globalImplicit
theorem ziG {E:Value->Shared->Prop} {pins:List (Addr × Obj)} {s:Shared} {σ:St} {H:Hp} {x:Str} {u:Value} {pos:Pos} {Q:Value->Shared->Prop} (I:Inv X pins σ H s) (hg:Gl X x) (hm:X.mg x=some u) (h:Q u s)
  (hd:(x == ("__debug__":Str))=false:=by decide):wpAny (model X.prog X.w) X.A (eval (.Name x pos) X.env) Q E s :=
 Calls.Name_function_global I.ok.kind hg (Calls.loadGlobal_global (by rw [I.ok.glob]; exact I.mod.glob.keeps I.bk) hm h) hd
theorem zik {E:Value->Shared->Prop} {pins:List (Addr × Obj)} {s:Shared} {σ:St} {H:Hp} {x:Str} {u:Value} {pos:Pos} {Q:Value->Shared->Prop} (I:Inv X pins σ H s) (hg:Gl X x) (hm:X.mg x=none) (hv:bootBuiltins x=some u) (h:Q u s)
  (hn:x ≠ "__name__":=by decide) (hd:(x == ("__debug__":Str))=false:=by decide):wpAny (model X.prog X.w) X.A (eval (.Name x pos) X.env) Q E s:=by
 obtain ⟨mb,h1,h2⟩:=I.mod.blt
 exact Calls.Name_function_global I.ok.kind hg (Calls.loadGlobal_builtin (by rw [I.ok.glob]; exact I.mod.glob.keeps I.bk) hm (by rw [I.ok.blt]; exact h1.keeps I.bk) ((h2 x hn).trans hv) h) hd
theorem zqx {x:Str} {v:V} {u:Value} {pos:Pos} (hg:Gl X x) (hm:X.mg x=some u) (r:RelV v u) (hd:(x == ("__debug__":Str))=false:=by decide):PE X (.Name x pos) (tC v) :=
 fun _ _ _ H _ I h=>ziG I hg hm ⟨v,H,I,r,h⟩ hd
theorem zqq {x:Str} {v:V} {u:Value} {pos:Pos} (hg:Gl X x) (hm:X.mg x=none) (hv:bootBuiltins x=some u) (r:RelV v u) (hn:x ≠ "__name__":=by decide) (hd:(x == ("__debug__":Str))=false:=by decide):PE X (.Name x pos) (tC v) :=
 fun _ _ _ H _ I h=>zik I hg hm hv ⟨v,H,I,r,h⟩ hn hd
variable {a b:Expr} {ta tb:TE} {pos:Pos}
variable {tA tB':TT} {rest:List Expr}
def tAnd (t u:TT):TT:=fun σ H Q=>t σ H fun c H1=>if c=true then u σ H1 Q else Q false H1
def tOr (t u:TT):TT:=fun σ H Q=>t σ H fun c H1=>if c=true then Q true H1 else u σ H1 Q
def tNot (t:TT):TT:=fun σ H Q=>t σ H fun c H1=>Q (!c) H1
theorem zqs (ha:PT X a tA):PW X (.BoolOp .And [a] pos) tA:=by
 intro wh pins s σ H Q I h
 refine isTrue_and (thn (ha pins s σ H Q I h) fun c s1 e=>?_)
 cases c with
 | true=>exact isTrue_and_nil e
 | false=>exact e
theorem zr6 (ha:PT X a tA):PW X (.BoolOp .Or [a] pos) tA:=by
 intro wh pins s σ H Q I h
 refine isTrue_or (thn (ha pins s σ H Q I h) fun c s1 e=>?_)
 cases c with
 | false=>exact isTrue_or_nil e
 | true=>exact e
theorem zrC (ha:PT X a tA) (hb:PW X (.BoolOp .And (b :: rest) pos) tB'):PW X (.BoolOp .And (a :: b :: rest) pos) (tAnd tA tB'):=by
 intro wh pins s σ H Q I h
 refine isTrue_and (thn (ha pins s σ H _ I h) fun c s1 ⟨H1,I1,q1⟩=>?_)
 cases c with
 | true=>exact hb wh pins s1 σ H1 Q I1 q1
 | false=>exact ⟨H1,I1,q1⟩
theorem zs0 (ha:PT X a tA) (hb:PW X (.BoolOp .Or (b :: rest) pos) tB'):PW X (.BoolOp .Or (a :: b :: rest) pos) (tOr tA tB'):=by
 intro wh pins s σ H Q I h
 refine isTrue_or (thn (ha pins s σ H _ I h) fun c s1 ⟨H1,I1,q1⟩=>?_)
 cases c with
 | true=>exact ⟨H1,I1,q1⟩
 | false=>exact hb wh pins s1 σ H1 Q I1 q1
theorem zr2 (ha:PT X a tA):PT X (.UnaryOp .Not a pos) (tNot tA):=by
 intro pins s σ H Q I h
 exact isTrue_not (ha pins s σ H (fun c H1=>Q (!c) H1) I h)
def tAndV (ta tb:TE):TE:=fun σ H Q=>ta σ H fun x H1=>∃ c,x=.bl c/\if c=true then tb σ H1 Q else Q (.bl false) H1
def tOrV (ta tb:TE):TE:=fun σ H Q=>ta σ H fun x H1=>∃ c,x=.bl c/\if c=true then Q (.bl true) H1 else tb σ H1 Q
def tNotV (ta:TE):TE:=fun σ H Q=>ta σ H fun x H1=>∃ c,x=.bl c/\Q (.bl (!c)) H1
theorem zrt {op} {t:TE} (h:PE X a t):PE X (.BoolOp op [a] pos) t:=fun pins s σ H Q I hw=>BoolOp_one (h pins s σ H Q I hw)
theorem zrs (ha:PE X a ta) (hb:PE X (.BoolOp .And (b :: rest) pos) tb):PE X (.BoolOp .And (a :: b :: rest) pos) (tAndV ta tb):=by
 intro pins s σ H Q I h
 refine BoolOp_and (thn (ha pins s σ H _ I h) fun v s1 ⟨x,H1,I1,r1,q1⟩=>?_)
 obtain ⟨c,rfl,q1⟩:=q1
 cases r1
 refine wpAny_truthy_bool ?_
 cases c with
 | true=>exact hb pins s1 σ H1 Q I1 q1
 | false=>exact ⟨.bl false,H1,I1,rfl,q1⟩
theorem zsX (ha:PE X a ta) (hb:PE X (.BoolOp .Or (b :: rest) pos) tb):PE X (.BoolOp .Or (a :: b :: rest) pos) (tOrV ta tb):=by
 intro pins s σ H Q I h
 refine BoolOp_or (thn (ha pins s σ H _ I h) fun v s1 ⟨x,H1,I1,r1,q1⟩=>?_)
 obtain ⟨c,rfl,q1⟩:=q1
 cases r1
 refine wpAny_truthy_bool ?_
 cases c with
 | false=>exact hb pins s1 σ H1 Q I1 q1
 | true=>exact ⟨.bl true,H1,I1,rfl,q1⟩
theorem zsx (ha:PE X a ta):PE X (.UnaryOp .Not a pos) (tNotV ta):=by
 intro pins s σ H Q I h
 refine UnaryOp_ (thn (ha pins s σ H _ I h) fun v s1 ⟨x,H1,I1,r1,q1⟩=>?_)
 obtain ⟨c,rfl,q1⟩:=q1
 cases r1
 exact not_of (wpAny_truthy_bool ⟨.bl (!c),H1,I1,rfl,q1⟩)
end
def SqL (K:PySem.W.Frag) (H:Hp) (a:Addr) (xs:List V):Prop :=
 Rd H a (.lst xs) \/
  ∃ (o:Obj) (its:Array Value) (n:Nat),K.lookup a=some o/\o.cls=.type "list"/\o.dict=none/\o.data=.seq its n/\its.size<=sizeLine/\Vals xs its.toList
def SqT (K:PySem.W.Frag) (H:Hp) (a:Addr) (xs:List V):Prop :=
 Rd H a (.tup xs) \/
  ∃ (o:Obj) (its:Array Value) (n:Nat),K.lookup a=some o/\o.cls=.type "tuple"/\o.data=.seq its n/\its.size<=sizeLine/\Vals xs its.toList
def absV:Value->Option V
 | .none=>some .non
 | .bool b=>some (.bl b)
 | .int i _=>some (.int i)
 | .str x _=>some (.str x)
 | .bytes b _=>some (.byt b)
 | .float b _=>some (.flt b)
 | .ref a=>some (.ref a)
 | .type n=>some (.ty n)
 | _=>none
theorem RelV.abs {x:V} {u:Value} (r:RelV x u):absV u=some x:=by
 cases x with
 | non=>cases r; rfl
 | bl _=>cases r; rfl
 | int _=>obtain ⟨t,rfl⟩:=r; rfl
 | str _=>obtain ⟨t,rfl⟩:=r; rfl
 | byt _=>obtain ⟨t,rfl⟩:=r; rfl
 | flt _=>obtain ⟨t,rfl⟩:=r; rfl
 | ref _=>cases r; rfl
 | ty _=>cases r; rfl
theorem RelV.inj {x y:V} {u:Value} (r:RelV x u) (q:RelV y u):x=y:=Option.some.inj (r.abs.symm.trans q.abs)
theorem Vals.inj:∀ {xs ys:List V} {us:List Value},Vals xs us->Vals ys us->xs=ys
 | _,_,_,.nil,.nil=>rfl
 | _,_,_,.cons r t,.cons r' t'=>by rw [r.inj r',Vals.inj t t']
section
variable {X:Cx} {pins:List (Addr × Obj)} {σ:St} {H:Hp} {s:Shared} {a:Addr} {xs ys:List V}
theorem SqL.of {K:PySem.W.Frag} (h:H a=some (.lst xs)):SqL K H a xs:=.inl (.inl h)
theorem Inv.list (I:Inv X pins σ H s) (h:SqL X.K H a xs):∃ its:List Value,Vals xs its/\PlainL s.heap a its.toArray/\xs.length<=sizeLine:=by
 rcases h with h | ⟨o,its,n,hk,hc,hd,hs,hz,r⟩
 ·obtain ⟨z,its,n,r,e⟩:=h.ok I.hok
  exact ⟨its,r,⟨_,n,e,rfl,rfl,rfl⟩,z⟩
 ·refine ⟨its.toList,r,⟨o,n,I.kIn a o hk,hc,hd,by simpa using hs⟩,?_⟩
  have e:=r.length
  simp only [Array.length_toList] at e
  omega
theorem Inv.tuple (I:Inv X pins σ H s) (h:SqT X.K H a xs):∃ its:List Value,Vals xs its/\IsTup s.heap a its.toArray/\xs.length<=sizeLine:=by
 rcases h with h | ⟨o,its,n,hk,hc,hs,hz,r⟩
 ·obtain ⟨z,its,r,p⟩:=h.ok I.hok
  exact ⟨its,r,p,z⟩
 ·refine ⟨its.toList,r,⟨o,I.kIn a o hk,hc,n,by simpa using hs⟩,?_⟩
  have e:=r.length
  simp only [Array.length_toList] at e
  omega
theorem Inv.list_inj (I:Inv X pins σ H s) (h:SqL X.K H a xs) (h':SqL X.K H a ys):xs=ys:=by
 obtain ⟨its,r,⟨o,n,e,_,_,d⟩,_⟩:=I.list h
 obtain ⟨its',r',⟨o',n',e',_,_,d'⟩,_⟩:=I.list h'
 rw [e] at e'; cases e'
 rw [d] at d'
 injection d' with d1 _
 have:its=its':=by simpa using congrArg Array.toList d1
 subst this
 exact r.inj r'
theorem Inv.tuple_inj (I:Inv X pins σ H s) (h:SqT X.K H a xs) (h':SqT X.K H a ys):xs=ys:=by
 obtain ⟨its,r,⟨o,e,_,n,d⟩,_⟩:=I.tuple h
 obtain ⟨its',r',⟨o',e',_,n',d'⟩,_⟩:=I.tuple h'
 rw [e] at e'; cases e'
 rw [d] at d'
 injection d' with d1 _
 have:its=its':=by simpa using congrArg Array.toList d1
 subst this
 exact r.inj r'
end
section
variable {X:Cx} {pins:List (Addr × Obj)} {σ:St} {H:Hp} {s:Shared} {E:Value->Shared->Prop}
end
section
variable {X:Cx} {st:Stmt} {rest:List Stmt} {t u:TS} {e:Expr} {te:TE} {pos:Pos}
def tNext:TS:=fun D σ H=>D.nx σ H
def tSeq (t u:TS):TS:=fun D σ H=>t { D with nx:=u D } σ H
theorem pss_nil:PSs X [] tNext:=fun _ _ σ H _ I h=>wpAny_execs_nil ⟨σ,H,I,h⟩
theorem zoS (h1:PS X st t) (h2:PSs X rest u):PSs X (st :: rest) (tSeq t u):=by
 intro pins s σ H D I h
 refine wpAny_execs_cons (thn (h1 pins s σ H { D with nx:=u D } I h) fun f s1 q=>?_)
 cases f with
 | next =>
  obtain ⟨σ',H',I',q⟩:=q
  exact h2 pins s1 σ' H' D I' q
 | ret v=>exact q
 | brk=>exact q
 | cont=>exact q
theorem Inv.quiet {pins:List (Addr × Obj)} {σ:St} {H:Hp} {s:Shared} (I:Inv X pins σ H s):interactive X.env=false:=by simp [interactive,I.ok.kind]
def tDrop (te:TE):TS:=fun D σ H=>te σ H fun _ H1=>D.nx σ H1
theorem zpY (he:PE X e te) (hs:swapsWith e none pos.line X.env=pure false:=by rfl):PS X (.Expr e pos) (tDrop te):=by
 intro pins s σ H D I h
 exact wpAny_Expr_any (thn (he pins s σ H _ I h) fun v s1 ⟨x,H1,I1,r1,q1⟩=>⟨σ,H1,I1,q1⟩) I.quiet hs
def tRet (te:TE):TS:=fun D σ H=>te σ H D.rt
theorem zr3 (he:PE X e te):PS X (.Return (some e) pos) (tRet te):=by
 intro pins s σ H D I h
 exact wpAny_Return_some (thn (he pins s σ H _ I h) fun v s1 ⟨x,H1,I1,r1,q1⟩=>⟨x,σ,H1,I1,r1,q1⟩)
def tIfS (c:TT) (t u:TS):TS:=fun D σ H=>c σ H fun b H1=>if b=true then t D σ H1 else u D σ H1
theorem zsF {c:Expr} {a b:List Stmt} {tc:TT} (hc:PT X c tc) (ha:PSs X a t) (hb:PSs X b u):PS X (.If c a b pos) (tIfS tc t u):=by
 intro pins s σ H D I h
 refine wpAny_If (thn (hc pins s σ H _ I h) fun d s1 ⟨H1,I1,q1⟩=>?_)
 cases d with
 | true=>exact ha pins s1 σ H1 D I1 q1
 | false=>exact hb pins s1 σ H1 D I1 q1
end
abbrev TG:=V->St->Hp->(St->Hp->Prop)->Prop
abbrev TGs:=List V->St->Hp->(St->Hp->Prop)->Prop
def PG (X:Cx) (target:Expr) (t:TG):Prop :=
 ∀ (pins:List (Addr × Obj)) (s:Shared) (σ:St) (H:Hp) (v:V) (u:Value) (Q:St->Hp->Prop),Inv X pins σ H s->RelV v u->t v σ H Q ->
  wpAny (model X.prog X.w) X.A (assign target X.env u) (fun _ s'=>∃ σ' H',Inv X pins σ' H' s'/\Q σ' H') X.xe s
def PGs (X:Cx) (ts:List Expr) (t:TGs):Prop :=
 ∀ (pins:List (Addr × Obj)) (s:Shared) (σ:St) (H:Hp) (vs:List V) (us:List Value) (Q:St->Hp->Prop),Inv X pins σ H s->Vals vs us->t vs σ H Q ->
  wpAny (model X.prog X.w) X.A (assignInOrder ((assignEach ts X.env).map (·.2)) us) (fun _ s'=>∃ σ' H',Inv X pins σ' H' s'/\Q σ' H') X.xe s
abbrev TSet:=V->V->V->Hp->(Hp->Prop)->Prop
def PSet (X:Cx) (t:TSet):Prop :=
 ∀ (pins:List (Addr × Obj)) (s:Shared) (σ:St) (H:Hp) (o i v:V) (ov iv u:Value) (Q:Hp->Prop),Inv X pins σ H s->RelV o ov->RelV i iv->RelV v u->t o i v H Q ->
  wpAny (model X.prog X.w) X.A (setItem ov iv u) (fun _ s'=>∃ H',Inv X pins σ H' s'/\Q H') X.xe s
abbrev TIp:=V->V->Hp->VK->Prop
def PIp (X:Cx) (op:Operator) (t:TIp):Prop :=
 ∀ (pins:List (Addr × Obj)) (s:Shared) (σ:St) (H:Hp) (x y:V) (v u:Value) (Q:VK),Inv X pins σ H s->RelV x v->RelV y u->t x y H Q ->
  wpAny (model X.prog X.w) X.A (inplaceOp op v u) (EP X pins σ Q) X.xe s
section
variable {X:Cx} {pos:Pos}
def gName (i:Nat):TG:=fun v σ H Q=>Q (σ.set i (some v)) H
theorem zmE {i:Nat} {x:Str} (hN:X.N.Nodup) (hi:X.N[i]?=some x) (hx:Loc X.env.scope x) (hf:X.fn x=true \/ X.env.scope.names.lookup x=some .local:=by first | exact .inl rfl | exact .inr rfl | assumption):PG X (.Name x pos) (gName i):=by
 intro pins s σ H v u Q I r h
 exact wpAny_assign_Name (ze5 I hN hi hx r (fun s' I'=>⟨_,H,I',h⟩) hf)
def gNil:TGs:=fun vs σ H Q=>vs=[]/\Q σ H
def gCons (t:TG) (u:TGs):TGs:=fun vs σ H Q=>∃ v r,vs=v :: r/\t v σ H fun σ' H'=>u r σ' H' Q
theorem pgs_nil:PGs X [] gNil:=by
 intro pins s σ H vs us Q I r h
 obtain ⟨e,h⟩:=h
 subst e
 cases r
 exact assignInOrder_nil ⟨σ,H,I,h⟩
theorem zo0 {e:Expr} {es:List Expr} {t:TG} {u:TGs} (h1:PG X e t) (h2:PGs X es u)
  (hs:(assignEach (e :: es) X.env).map (·.2)=assign e X.env :: (assignEach es X.env).map (·.2):=by rfl):PGs X (e :: es) (gCons t u):=by
 intro pins s σ H vs us Q I r h
 obtain ⟨v,vr,e1,h⟩:=h
 subst e1
 cases r with
 | cons r rr =>
  rw [hs]
  refine assignInOrder_cons (thn (h1 pins s σ H _ _ _ I r h) fun _ s1 ⟨σ1,H1,I1,q1⟩=>?_)
  exact h2 pins s1 σ1 H1 _ _ Q I1 rr q1
def gTup (K:PySem.W.Frag) (n:Nat) (t:TGs):TG:=fun v σ H Q=>∃ a xs,v=.ref a/\SqT K H a xs/\xs.length=n/\t xs σ H Q
theorem zrV {es:List Expr} {k:Nat} {t:TGs} {n:Nat} (hc:X.calm=true) (h:PGs X es t)
  (hn:(assignEach es X.env).length=n:=by rfl) (hst:(assignEach es X.env).findIdx? (·.1)=none:=by rfl):PG X (.Tuple es k pos) (gTup X.K n t):=by
 intro pins s σ H v u Q I r hw
 obtain ⟨a,xs,e1,hq,hl,hw⟩:=hw
 subst e1
 cases r
 obtain ⟨its,rv,ht,hz⟩:=I.tuple hq
 refine assign_Tuple_tuple (I.ok.hd hc) ht (by simp [hn,<- hl,rv.length]) hst fun h' hx=>?_
 have I1:Inv X pins σ H { s with heap:=h' }:=I.kept (t':=s.toks) fun b o e=>hx b o (Nat.ne_of_lt (Heap.lt_size e)) e
 exact h pins _ σ H xs _ Q I1 (by simpa using rv) hw
def gSub (to ti:TE) (t:TSet):TG:=fun v σ H Q=>to σ H fun o H1=>ti σ H1 fun i H2=>t o i v H2 fun H3=>Q σ H3
theorem zhk {o i:Expr} {to ti:TE} {t:TSet} (ho:PE X o to) (hi:PE X i ti) (hs:PSet X t)
  (ha:∀ v,assign (.Subscript o i pos) X.env v=(do
   let ov <- holding [v] (eval o X.env)
   let iv <- holding [v,ov] (eval i X.env)
   standAt pos
   holding [v,ov,iv] (setItem ov iv v)
   release [v,ov,iv] []):=by intro _; rfl):PG X (.Subscript o i pos) (gSub to ti t):=by
 intro pins s σ H v u Q I r h
 rw [ha]
 refine wpAny_bind (wpAny_holding (thn (ho pins s σ H _ I h) fun ov s1 ⟨x,H1,I1,r1,q1⟩=>?_))
 refine wpAny_bind (wpAny_holding (thn (hi pins s1 σ H1 _ I1 q1) fun iv s2 ⟨y,H2,I2,r2,q2⟩=>?_))
 refine wpAny_bind (wpAny_standAt (wpAny_bind (wpAny_holding (thn (hs pins s2 σ H2 x y v ov iv u _ I2 r1 r2 r q2) fun _ s3 ⟨H3,I3,q3⟩=>?_))))
 exact wpAny_release ⟨σ,H3,I3,q3⟩
def tAsg (te:TE) (g:TG):TS:=fun D σ H=>te σ H fun x H1=>g x σ H1 D.nx
theorem zpB {tg e:Expr} {te:TE} {g:TG} (he:PE X e te) (hg:PG X tg g) (hs:swapsWithSole [tg] e pos.line X.env=pure false:=by rfl) (hw:swappedStores [tg] e X.env=pure none:=by rfl)
  (h1:(assignEach [tg] X.env).map (·.2)=[assign tg X.env]:=by rfl):PS X (.Assign [tg] e pos) (tAsg te g):=by
 intro pins s σ H D I h
 refine wpAny_Assign_stores (thn (he pins s σ H _ I h) fun v s1 ⟨x,H1,I1,r1,q1⟩=>?_) hs hw
 rw [h1]
 exact thn (hg pins s1 σ H1 x v _ I1 r1 q1) fun _ s2 q=>q
theorem zrh {i:Nat} {x:Str} {e:Expr} {te:TE} {pos':Pos} (hN:X.N.Nodup) (hi:X.N[i]?=some x) (hx:Loc X.env.scope x) (he:PE X e te) (hs:swapsWith e (some (.Name x pos')) pos.line X.env=pure false:=by rfl) (hf:X.fn x=true \/ X.env.scope.names.lookup x=some .local:=by first | exact .inl rfl | exact .inr rfl | assumption) :
  PS X (.Assign [.Name x pos'] e pos) (tAsg te (gName i)):=by
 intro pins s σ H D I h
 refine wpAny_Assign_Name (thn (he pins s σ H _ I h) fun v s1 ⟨y,H1,I1,r1,q1⟩=>?_) hs
 exact ze5 I1 hN hi hx r1 (fun s2 I2=>⟨_,H1,I2,q1⟩) hf
def tPar (i j:Nat) (ta:TA):TS:=fun D σ H=>ta σ H fun vs H1=>∃ v w,vs=[v,w]/\D.nx ((σ.set i (some v)).set j (some w)) H1
theorem zpx {i j:Nat} {x y:Str} {a b:Expr} {ta:TA} {px py pt:Pos} {kt k2 pt2} (hc:X.calm=true) (hN:X.N.Nodup) (hi:X.N[i]?=some x) (hj:X.N[j]?=some y) (hij:i ≠ j)
  (hx:X.env.scope.names.lookup x=some .local) (hy:X.env.scope.names.lookup y=some .local) (ha:PA X [a,b] ta)
  (hw:swappedStores [.Tuple [.Name x px,.Name y py] kt pt] (.Tuple [a,b] k2 pt2) X.env=pure (some [x,y]))
  (hs:swapsWithSole [.Tuple [.Name x px,.Name y py] kt pt] (.Tuple [a,b] k2 pt2) pos.line X.env=pure false:=by rfl) :
  PS X (.Assign [.Tuple [.Name x px,.Name y py] kt pt] (.Tuple [a,b] k2 pt2) pos) (tPar i j ta):=by
 intro pins s σ H D I h
 rw [exec_Assign_arm]
 refine wpAny_bind (wpAny_standAt ?_)
 rw [hs]
 refine wpAny_bind (wpAny_pure ?_)
 rw [if_neg (by decide)]
 refine wpAny_bind (Tuple_ (thn (ha _ pins s σ H _ I h) fun us s1 ⟨vs,H1,I1,r1,q1⟩=>?_))
 obtain ⟨v,w,e1,q1⟩:=q1
 subst e1
 obtain ⟨u1,u2,rfl,rv,rw'⟩:∃ u1 u2,us=[u1,u2]/\RelV v u1/\RelV w u2:=by
  cases r1 with
  | cons p q =>
   cases q with
   | cons p' q' =>
    cases q'
    exact ⟨_,_,rfl,p,p'⟩
 refine wpAny_newObj_type ?_ (by show 2<=sizeLine; decide)
 have I2:Inv X pins σ H1 { s1 with heap:=s1.heap.push { cls:=.type "tuple",data:=.seq [u1,u2].toArray } }:=I1.kept (t':=s1.toks) fun b o e=>Heap.get?_push_of_some _ e
 rw [hw]
 refine wpAny_bind (wpAny_pure ?_)
 show wpAny (model X.prog X.w) X.A (do rule "assign.swapped-stores"; let items <- unpackItems (.ref s1.heap.objs.size) 2 none; assignInOrder [fun v=>bindName X.env y v,fun v=>bindName X.env x v] items.reverse; pure Flow.next) _ _ _
 refine wpAny_bind (wpAny_rule (wpAny_bind (unpackItems_tuple (items:=#[u1,u2]) (I.ok.hd hc) (IsTup.new s1.heap _) fun h' hx'=>?_)))
 have I3:=I2.kept (h':=h') (t':=s1.toks) fun b o e=>hx' b o (Nat.ne_of_lt (Heap.lt_size e)) e
 show wpAny _ _ (assignInOrder [fun v=>bindName X.env y v,fun v=>bindName X.env x v] [u2,u1] >>= fun _=>pure Flow.next) _ _ _
 refine wpAny_bind (assignInOrder_cons (wpAny_bindName (ze5 I3 hN hj (.inl hy) rw' (fun s2 I4=>?_) (.inr hy))))
 refine assignInOrder_cons (wpAny_bindName (ze5 I4 hN hi (.inl hx) rv (fun s3 I5=>assignInOrder_nil (wpAny_pure ?_)) (.inr hx)))
 rw [List.set_comm _ _ (Ne.symm hij)] at I5
 exact ⟨_,H1,I5,q1⟩
def tAug (i:Nat) (te:TE) (ti:TIp):TS:=fun D σ H=>∃ x,σ[i]?=some (some x)/\te σ H fun y H1=>ti x y H1 fun z H2=>D.nx (σ.set i (some z)) H2
theorem zso {i:Nat} {x:Str} {e:Expr} {te:TE} {op:Operator} {ti:TIp} {pos':Pos} (hN:X.N.Nodup) (hi:X.N[i]?=some x) (hx:Loc X.env.scope x) (he:PE X e te) (ho:PIp X op ti) (hf:X.fn x=true \/ X.env.scope.names.lookup x=some .local:=by first | exact .inl rfl | exact .inr rfl | assumption) :
  PS X (.AugAssign (.Name x pos') op e pos) (tAug i te ti):=by
 intro pins s σ H D I h
 obtain ⟨v,e1,h⟩:=h
 obtain ⟨m,hn,hl⟩:=I.loc
 have vis:Vis X.env.scope x:=by rcases hx with k | k; exact .inl k; exact .inr (.inl k)
 obtain ⟨u,r,l⟩:=hl i x v hi e1 vis
 refine wpAny_AugAssign_Name ?_
 have go:wpAny (model X.prog X.w) X.A (eval e X.env) (fun w s₂=>wpAny (model X.prog X.w) X.A (inplaceOp op u w) (fun r s₃=>wpAny (model X.prog X.w) X.A (storeName X.env x r) (fun _=>SP X pins D .next) X.xe s₃) X.xe s₂) X.xe s:=by
  refine thn (he pins s σ H _ I h) fun w s1 ⟨y,H1,I1,r1,q1⟩=>?_
  refine thn (ho pins s1 σ H1 v y u w _ I1 r r1 q1) fun z s2 ⟨zv,H2,I2,r2,q2⟩=>?_
  exact ze5 I2 hN hi hx r2 (fun s3 I3=>⟨_,H2,I3,q2⟩) hf
 rcases l with ⟨hk,hm⟩ | ⟨hk,c,hc,hcell⟩
 ·exact wpAny_loadName_local I.ok.kind hk hn hm go
 ·rcases hk with hk | hk
  ·exact wpAny_loadName_cell I.ok.kind hk hc hcell go
  ·rcases hx with k | k
   ·have:X.env.scope.names.lookup x=some .free:=hk
    rw [k] at this; cases this
   ·have:X.env.scope.names.lookup x=some .free:=hk
    rw [k] at this; cases this
def ipI (f:Int->Int->Int):TIp:=fun x y H Q=>∃ i j,x=.int i/\y=.int j/\Q (.int (f i j)) H
theorem zq1:PIp X .Add (ipI fun i j=>i+j):=by
 intro pins s σ H x y v u Q I r1 r2 h
 obtain ⟨i,j,e1,e2,q⟩:=h
 subst e1; subst e2
 obtain ⟨t,rfl⟩:=r1
 obtain ⟨t',rfl⟩:=r2
 exact iadd_int ⟨.int _,H,I.tok _,⟨_,rfl⟩,q⟩
end
section
variable {X:Cx} {pos:Pos}
def tWhile (c:TT) (tb:TS):TS:=fun D σ H=>∃ W:Nat->St->Hp->Prop,(∃ m,W m σ H)/\∀ m σ H,W m σ H ->
 c σ H fun b H1=>if b=true then ∃ N:St->Hp->Prop,(∀ σ' H',N σ' H'->∃ m',m' < m/\W m' σ' H')/\tb { D with nx:=N,ct:=N,bk:=D.nx } σ H1 else D.nx σ H1
theorem zol {c:Expr} {body:List Stmt} {tc:TT} {tb:TS} (hp:PassesOwn (model X.prog X.w) X.A X.env X.xe) (hc:PT X c tc) (hb:PSs X body tb):PS X (.While c body [] pos) (tWhile tc tb):=by
 intro pins s σ H D I h
 obtain ⟨W,⟨m0,w0⟩,turn⟩:=h
 refine wpAny_While (codeAny_whileLoop (fun n s'=>∃ σ' H',Inv X pins σ' H' s'/\W n σ' H') ?_ m0 ⟨σ,H,I,w0⟩)
 rintro n s1 ⟨σ1,H1,I1,w1⟩
 refine wpAny_passesOwn hp (thn (hc pins s1 σ1 H1 _ I1 (turn n σ1 H1 w1)) fun b s2 ⟨H2,I2,q2⟩=>?_)
 cases b with
 | true =>
  obtain ⟨N,hN,q2⟩:=q2
  rw [if_pos rfl]
  refine wpAny_passesOwn hp (thn (hb pins s2 σ1 H2 _ I2 q2) fun f s3 q3=>?_)
  cases f with
  | next =>
   obtain ⟨σ3,H3,I3,n3⟩:=q3
   obtain ⟨m',hm,w3⟩:=hN σ3 H3 n3
   exact ⟨m',hm,σ3,H3,I3,w3⟩
  | cont =>
   obtain ⟨σ3,H3,I3,n3⟩:=q3
   obtain ⟨m',hm,w3⟩:=hN σ3 H3 n3
   exact ⟨m',hm,σ3,H3,I3,w3⟩
  | brk=>exact q3
  | ret v=>exact q3
 | false =>
  rw [if_neg Bool.false_ne_true]
  exact wpAny_execs_nil ⟨σ1,H2,I2,q2⟩
end
structure It where
 go:Nat->Hp->Prop
 yld:Nat->Hp->V->Hp->Prop
 stop:Nat->Hp->Prop
def FpOk (X:Cx) (pins:List (Addr × Obj)) (H:Hp) (b:Addr):Prop :=
 H b=none/\b ≠ X.env.locals/\b ∉ X.fs/\(b ∈ X.ex \/ X.s₀.heap.objs.size<=b)/\(∀ x c,X.env.cells.lookup x=some c->c ≠ b)/\∀ p ∈ X.pn++pins,p.1 ≠ b
theorem Inv.fpOk {X:Cx} {pins:List (Addr × Obj)} {σ:St} {H H':Hp} {s:Shared} {b:Addr} (I:Inv X pins σ H s) (hb:s.heap.objs.size<=b) (hn:H' b=none):FpOk X pins H' b:=by
 refine ⟨hn,Nat.ne_of_gt (Nat.lt_of_lt_of_le I.lt hb),I.nofs hb,.inr (Nat.le_trans I.sz hb),fun x c e z=>?_,fun p hp z=>?_⟩
 ·obtain ⟨v,q⟩:=I.cell x c e
  exact absurd (Nat.lt_of_lt_of_le q.lt (by rw [z]; exact hb)) (Nat.lt_irrefl _)
 ·exact absurd (Nat.lt_of_lt_of_le (Heap.lt_size (I.pin p hp).1) (by rw [z]; exact hb)) (Nat.lt_irrefl _)
structure Turn (P:Program) (w:World) (K:PySem.W.Frag) (tg:Expr) (J:It) (fp:List Addr) (it:Addr) (tn:Nat->Heap->Prop):Prop where
 mem:it ∈ fp
 obj:∀ i h,tn i h->∀ b ∈ fp,∃ o,h.get? b=some o/\∀ v,o.data ≠ .cell v
 keep:∀ i h h',tn i h->(∀ b ∈ fp,∀ o,h.get? b=some o->h'.get? b=some o)->tn i h'
 item:∀ (X:Cx),X.prog=P->X.w=w->X.K=K->X.calm=true->∀ (i:Nat) (pins:List (Addr × Obj)) (s:Shared) (σ:St) (H:Hp) (E:Value->Shared->Prop),Inv X pins σ H s->(∀ b ∈ fp,FpOk X pins H b)->tn i s.heap->J.go i H ->
  wpAny (model P w) X.A (pyNext (.ref it)) (fun r s1=>∃ u,r=some u /\
   wpAny (model P w) X.A (letOwnedTupleGo tg (.ref it) u) (fun _ s2=>∃ x H',Inv X pins σ H' s2/\RelV x u/\J.yld i H x H'/\tn (i+1) s2.heap/\∀ b ∈ fp,H' b=none) E s1) E s
 done:∀ (X:Cx),X.prog=P->X.w=w->X.K=K->X.calm=true->∀ (i:Nat) (pins:List (Addr × Obj)) (s:Shared) (σ:St) (H:Hp) (E:Value->Shared->Prop),Inv X pins σ H s->(∀ b ∈ fp,FpOk X pins H b)->tn i s.heap->J.stop i H ->
  wpAny (model P w) X.A (pyNext (.ref it)) (fun r s1=>r=none/\Inv X pins σ H s1) E s
 self:∀ (A:Around) (i:Nat) (s:Shared) (Q:Value->Shared->Prop) (E:Value->Shared->Prop),tn i s.heap->Q (.ref it) s->wpAny (model P w) A (pyIter (.ref it)) Q E s
abbrev TI:=St->Hp->(It->Hp->Prop)->Prop
def PIE (X:Cx) (pins:List (Addr × Obj)) (σ:St) (tg:Expr) (R:It->Hp->Prop) (itv:Value) (s2:Shared):Prop :=
 ∃ (it:Addr) (fp:List Addr) (tn:Nat->Heap->Prop) (J:It) (H':Hp),itv=.ref it/\Inv X pins σ H' s2/\Turn X.prog X.w X.K tg J fp it tn/\tn 0 s2.heap/\(∀ b ∈ fp,FpOk X pins H' b)/\R J H'
def PI (X:Cx) (tg iter:Expr) (wi:TI):Prop :=
 ∀ (pins:List (Addr × Obj)) (s:Shared) (σ:St) (H:Hp) (R:It->Hp->Prop),Inv X pins σ H s->wi σ H R ->
  wpAny (model X.prog X.w) X.A (eval iter X.env) (fun v s1=>wpAny (model X.prog X.w) X.A (pyIter v) (PIE X pins σ tg R) X.xe s1) X.xe s
theorem zoc {M:Model} {A:Around} {E:Value->Shared->Prop} {s:Shared} {tg:Expr} {it:Addr} {u:Value} {o:Obj} {n:String} {vs:Array Value} {Q:Unit->Shared->Prop} (ho:s.heap.get? it=some o) (hc:o.cls=.type n) (hd:o.data=.fields vs)
  (hn:["enumerate","zip","dict_itemiterator","dict_reverseitemiterator","odict_iterator","itertools.zip_longest","itertools.pairwise"].contains n=false) (hQ:Q () s):wpAny M A (letOwnedTupleGo tg (.ref it) u) Q E s:=by
 unfold letOwnedTupleGo
 cases tg <;> first
  | exact wpAny_pure hQ
  | (cases u <;> first
    | exact wpAny_pure hQ
    | (refine wpAny_bind (wpAny_load ho ?_)
       rw [hc,hd]
       show wpAny M A (if (["enumerate","zip","dict_itemiterator","dict_reverseitemiterator","odict_iterator","itertools.zip_longest","itertools.pairwise"].contains n && vs[0]? == some (rawInt _))=true then _ else _) Q E s
       rw [if_neg (by intro h; rw [hn,Bool.false_and] at h; cases h)]
       exact wpAny_pure hQ))
def Itl (K:PySem.W.Frag) (a:Addr):It :=
 ⟨fun i H=>∃ xs x,SqL K H a xs/\xs[i]?=some x,fun i H x H'=>H'=H/\∀ xs,SqL K H a xs->xs[i]?=some x,fun i H=>∃ xs,SqL K H a xs/\xs.length<=i⟩
def Itt (K:PySem.W.Frag) (a:Addr):It :=
 ⟨fun i H=>∃ xs x,SqT K H a xs/\xs[i]?=some x,fun i H x H'=>H'=H/\∀ xs,SqT K H a xs->xs[i]?=some x,fun i H=>∃ xs,SqT K H a xs/\xs.length<=i⟩
def Itr (lo:Int) (n:Nat):It:=⟨fun i _=>i < n,fun i H x H'=>H'=H/\x=.int (lo+i),fun i _=>n<=i⟩
theorem zm4 {P:Program} {w:World} {K:PySem.W.Frag} {tg:Expr} (a it:Addr):Turn P w K tg (Itl K a) [it] it (fun i h=>h.IsListIter it a i) where
 mem:=by simp
 obj:=fun i h st b hb=>by
  have e:b=it:=by simpa using hb
  subst e
  obtain ⟨o,e,c,d⟩:=st
  exact ⟨o,e,fun v z=>by rw [d] at z; cases z⟩
 keep:=fun i h h' st k=>st.at fun o e=>k it (by simp) o e
 item:=by
  intro X hP hw hK hc i pins s σ H E I hf st hg
  subst hP hw hK
  obtain ⟨xs,x,hq,hx⟩:=hg
  obtain ⟨its,rv,p,hz⟩:=I.list hq
  obtain ⟨u,hu,ru⟩:=rv.get hx
  obtain ⟨f0,f1,f2,f3,f4,f5⟩:=hf it (by simp)
  refine wpAny_pyNext_list_item st p.isList (x:=u) (by simpa using hu) fun h' st' sb=>?_
  have I1:Inv X pins σ H { s with heap:=h' }:=I.turned (t':=s.toks) (fun b o hb e=>(sb.2 b hb).trans e) f0 f1 f3 f4 f5
  obtain ⟨o,e,c,d⟩:=id st'
  exact ⟨u,rfl,zoc (s:={ s with heap:=h' }) e c d (by decide) ⟨x,H,I1,ru,⟨rfl,fun ys hy=>by rw [I.list_inj hy hq]; exact hx⟩,st',fun b hb=>(hf b hb).1⟩⟩
 done:=by
  intro X hP hw hK hc i pins s σ H E I hf st hg
  subst hP hw hK
  obtain ⟨xs,hq,hx⟩:=hg
  obtain ⟨its,rv,p,hz⟩:=I.list hq
  obtain ⟨f0,f1,f2,f3,f4,f5⟩:=hf it (by simp)
  have hl:=rv.length
  exact wpAny_pyNext_list_end (I.ok.hd hc) st p.isList (by simp; omega) fun h' eb=>⟨rfl,I.turned (t':=s.toks) (fun b o hb e=>eb b o hb e) f0 f1 f3 f4 f5⟩
 self:=fun _ _ _ _ _ st h=>wpAny_pyIter_listiter st h
theorem zmj {P:Program} {w:World} {K:PySem.W.Frag} {tg:Expr} (a it:Addr):Turn P w K tg (Itt K a) [it] it (fun i h=>h.IsTupleIter it a i) where
 mem:=by simp
 obj:=fun i h st b hb=>by
  have e:b=it:=by simpa using hb
  subst e
  obtain ⟨o,e,c,d⟩:=st
  exact ⟨o,e,fun v z=>by rw [d] at z; cases z⟩
 keep:=fun i h h' st k=>st.at fun o e=>k it (by simp) o e
 item:=by
  intro X hP hw hK hc i pins s σ H E I hf st hg
  subst hP hw hK
  obtain ⟨xs,x,hq,hx⟩:=hg
  obtain ⟨its,rv,p,hz⟩:=I.tuple hq
  obtain ⟨u,hu,ru⟩:=rv.get hx
  obtain ⟨f0,f1,f2,f3,f4,f5⟩:=hf it (by simp)
  refine wpAny_pyNext_tuple_item st (show s.heap.IsTuple a its.toArray from p) (x:=u) (by simpa using hu) fun h' st' sb=>?_
  have I1:Inv X pins σ H { s with heap:=h' }:=I.turned (t':=s.toks) (fun b o hb e=>(sb.2 b hb).trans e) f0 f1 f3 f4 f5
  obtain ⟨o,e,c,d⟩:=id st'
  exact ⟨u,rfl,zoc (s:={ s with heap:=h' }) e c d (by decide) ⟨x,H,I1,ru,⟨rfl,fun ys hy=>by rw [I.tuple_inj hy hq]; exact hx⟩,st',fun b hb=>(hf b hb).1⟩⟩
 done:=by
  intro X hP hw hK hc i pins s σ H E I hf st hg
  subst hP hw hK
  obtain ⟨xs,hq,hx⟩:=hg
  obtain ⟨its,rv,p,hz⟩:=I.tuple hq
  obtain ⟨f0,f1,f2,f3,f4,f5⟩:=hf it (by simp)
  have hl:=rv.length
  exact wpAny_pyNext_tuple_end (I.ok.hd hc) st (show s.heap.IsTuple a its.toArray from p) (by simp; omega) fun h' eb=>⟨rfl,I.turned (t':=s.toks) (fun b o hb e=>eb b o hb e) f0 f1 f3 f4 f5⟩
 self:=fun _ _ _ _ _ st h=>wpAny_pyIter_tupleiter st h
theorem zl7 {P:Program} {w:World} {K:PySem.W.Frag} {tg:Expr} (it:Addr) (lo:Int) (n:Nat):Turn P w K tg (Itr lo n) [it] it (fun i h=>IsRangeIter h it (lo+(i:Nat) * 1) ((n:Int) - (i:Nat)) 1) where
 mem:=by simp
 obj:=fun i h st b hb=>by
  have e:b=it:=by simpa using hb
  subst e
  exact ⟨_,st,fun v z=>by
   have z':Data.fields _=Data.cell v:=z
   cases z'⟩
 keep:=fun i h h' st k=>k it (by simp) _ st
 item:=by
  intro X hP hw hK hc i pins s σ H E I hf st hg
  subst hP hw hK
  obtain ⟨f0,f1,f2,f3,f4,f5⟩:=hf it (by simp)
  have W:=Walks.range (prog:=X.prog) (w:=X.w) (I.ok.hd hc) it lo 1 n
  refine W.item i s _ _ hg st fun v h' tk hv st' kk=>?_
  obtain ⟨t,rfl⟩:=hv
  have I1:Inv X pins σ H { s with heap:=h',toks:=tk }:=I.turned (fun b o hb e=>kk b o (by simpa using hb) e) f0 f1 f3 f4 f5
  refine ⟨_,rfl,zoc (s:={ s with heap:=h',toks:=tk }) (n:="range_iterator") st' rfl rfl (by decide) ⟨.int (lo+i),H,I1,⟨t,?_⟩,⟨rfl,rfl⟩,st',fun b hb=>(hf b hb).1⟩⟩
  rw [Int.mul_one]
 done:=by
  intro X hP hw hK hc i pins s σ H E I hf st hg
  subst hP hw hK
  obtain ⟨f0,f1,f2,f3,f4,f5⟩:=hf it (by simp)
  exact wpAny_pyNext_range_end (I.ok.hd hc) st (by have:n<=i:=hg; omega) fun h' eb=>⟨rfl,I.turned (t':=s.toks) (fun b o hb e=>eb b o hb e) f0 f1 f3 f4 f5⟩
 self:=fun _ _ _ _ _ st h=>wpAny_pyIter_rangeiter st h
section
variable {X:Cx} {tg:Expr}
theorem zpa {pins:List (Addr × Obj)} {σ:St} {H:Hp} {s:Shared} {R:It->Hp->Prop} {E:Value->Shared->Prop} {lo hi:Int} {t u v:Tok} {tk:Nat} (I:Inv X pins σ H s) (h1:-(2 ^ 62)<=lo) (h2:lo < 2 ^ 62) (h3:-(2 ^ 62)<=hi) (h4:hi < 2 ^ 62)
  (q:R (Itr lo (hi - lo).toNat) H):wpAny (model X.prog X.w) X.A (pyIter (.ref s.heap.objs.size)) (PIE X pins σ tg R) E { s with heap:=s.heap.push { cls:=.type "range",data:=.fields #[.int lo t,.int hi u,.int 1 v] },toks:=tk }:=by
 refine wpAny_pyIter_range (IsRange.new ..) (small_one h1 h2 h3 h4) ?_
 have I1:Inv X pins σ H { s with heap:=s.heap.push { cls:=.type "range",data:=.fields #[.int lo t,.int hi u,.int 1 v] },toks:=tk }:=I.kept fun b o e=>Heap.get?_push_of_some _ e
 refine ⟨(s.heap.push { cls:=.type "range",data:=.fields #[.int lo t,.int hi u,.int 1 v] }).objs.size,[(s.heap.push { cls:=.type "range",data:=.fields #[.int lo t,.int hi u,.int 1 v] }).objs.size],_,_,H,rfl,
  I1.kept (t':=tk) fun b o e=>Heap.get?_push_of_some _ e,zl7 _ lo (hi - lo).toNat,?_,fun b hb=>?_,q⟩
 ·have e1:lo+((0:Nat):Int) * 1=lo:=by simp
  have e2:(((hi - lo).toNat:Nat):Int) - ((0:Nat):Int)=Builtin.Range.rangeSize lo hi 1:=by rw [rangeSize_one]; split <;> omega
  show IsRangeIter _ _ (lo+((0:Nat):Int) * 1) ((((hi - lo).toNat:Nat):Int) - ((0:Nat):Int)) 1
  rw [e1,e2]
  exact Heap.get?_push_size _ rfl
 ·have e:b=(s.heap.push { cls:=.type "range",data:=.fields #[.int lo t,.int hi u,.int 1 v] }).objs.size:=by simpa using hb
  subst e
  exact I1.fpOk (Nat.le_refl _) (I1.hok.fresh (Nat.le_refl _))
def iRng1 (ta:TA):TI:=fun σ H R=>ta σ H fun vs H1=>∃ j:Int,vs=[.int j]/\-(2 ^ 62)<=j/\j < 2 ^ 62/\R (Itr 0 j.toNat) H1
theorem znO {a:Expr} {ta:TA} {p pos:Pos} (hg:Gl X "range") (hm:X.mg "range"=none) (ha:PA X [a] ta) (hs:starEach [a] X.env=[(false,eval a X.env)]:=by rfl):PI X tg (.Call (.Name "range" p) [a] [] pos) (iRng1 ta):=by
 intro pins s σ H R I h
 refine Call_ (zik I hg hm boot_range (PyProof.Rows.callWith_type1 (thn (ha pos pins s σ H _ I h) fun us s1 ⟨vs,H1,I1,r1,q1⟩=>?_) hs rfl))
 obtain ⟨j,e,q1,q2,q⟩:=q1
 subst e
 cases r1 with
 | cons r rr =>
  cases rr
  obtain ⟨t,rfl⟩:=r
  exact call_range_1 (zpa I1 (by omega) (by omega) q1 q2 (by simpa using q))
def tFor (wi:TI) (g:TG) (tb:TS):TS:=fun D σ H=>wi σ H fun J H1=>∃ W:Nat->Nat->St->Hp->Prop,(∃ m,W 0 m σ H1)/\∀ i m σ H,W i m σ H ->
 (J.stop i H/\D.nx σ H) \/ (J.go i H/\∃ N:St->Hp->Prop,(∀ σ' H',N σ' H'->∃ m',m' < m/\W (i+1) m' σ' H')/\∀ x H',J.yld i H x H'->g x σ H' fun σ2 H2=>tb { D with nx:=N,ct:=N,bk:=D.nx } σ2 H2)
def pinsAt (fp:List Addr) (h:Heap):List (Addr × Obj):=fp.filterMap fun b=>(h.get? b).map fun o=>(b,o)
theorem zei {fp:List Addr} {h:Heap} {b:Addr} {o:Obj} (hb:b ∈ fp) (e:h.get? b=some o):(b,o) ∈ pinsAt fp h:=List.mem_filterMap.mpr ⟨b,hb,by rw [e]; rfl⟩
theorem znR {fp:List Addr} {h:Heap} {p:Addr × Obj} (hp:p ∈ pinsAt fp h):p.1 ∈ fp/\h.get? p.1=some p.2:=by
 obtain ⟨b,hb,e⟩:=List.mem_filterMap.mp hp
 cases q:h.get? b with
 | none=>rw [q] at e; cases e
 | some o =>
  rw [q] at e
  have e':(b,o)=p:=Option.some.inj e
  subst e'
  exact ⟨hb,q⟩
theorem Inv.pinned {pins:List (Addr × Obj)} {σ:St} {H:Hp} {s:Shared} {fp:List Addr} (I:Inv X pins σ H s) (hf:∀ b ∈ fp,FpOk X pins H b) (ho:∀ b ∈ fp,∃ o,s.heap.get? b=some o/\∀ v,o.data ≠ .cell v):Inv X (pins++pinsAt fp s.heap) σ H s :=
 I.pins_of fun p hp=>(List.mem_append.mp hp).elim (fun z=>I.pin p (List.mem_append_right _ z)) fun z=>by
  obtain ⟨hb,e⟩:=znR z
  obtain ⟨f0,f1,f2,_⟩:=hf p.1 hb
  obtain ⟨o,e',d⟩:=ho p.1 hb
  rw [e] at e'; cases e'
  exact ⟨e,f0,f1,f2,d⟩
theorem Inv.unpinned {pins pl:List (Addr × Obj)} {σ:St} {H:Hp} {s:Shared} (I:Inv X (pins++pl) σ H s):Inv X pins σ H s:=I.pins_of fun p hp=>I.pin p (List.mem_append_right _ (List.mem_append_left _ hp))
theorem zrK {iter:Expr} {body:List Stmt} {wi:TI} {g:TG} {tb:TS} {pos:Pos} (hp:PassesOwn (model X.prog X.w) X.A X.env X.xe) (hc:X.calm=true) (hi:PI X tg iter wi) (hg:PG X tg g) (hb:PSs X body tb)
  (hs:∀ x,foldedSetIterable iter X.env x=pure x:=by intro _; rfl):PS X (.For tg iter body [] pos) (tFor wi g tb):=by
 intro pins s σ H D I h
 refine wpAny_For (thn (hi pins s σ H _ I h) fun v s1 h1=>thn h1 fun itv s2 h2=>?_) hs
 obtain ⟨it,fp,tn,J,H2,e,I2,T,st2,f2,W,⟨m0,w0⟩,turn⟩:=h2
 subst e
 have stat:∀ {H':Hp},(∀ b ∈ fp,H' b=none)->∀ b ∈ fp,FpOk X pins H' b:=fun hn b hb=>⟨hn b hb,(f2 b hb).2⟩
 refine codeAny_forLoop_any (fun n s'=>∃ i σ' H',Inv X pins σ' H' s'/\tn i s'.heap/\(∀ b ∈ fp,H' b=none)/\W i n σ' H') ?_ m0 ⟨0,σ,H2,I2,st2,fun b hb=>(f2 b hb).1,w0⟩
 rintro n s3 ⟨i,σ3,H3,I3,st3,fr3,w3⟩
 rcases turn i n σ3 H3 w3 with ⟨stop,qn⟩ | ⟨go,N,hN,step⟩
 ·refine wpAny_passesOwn hp (thn (T.done X rfl rfl rfl hc i pins s3 σ3 H3 X.xe I3 (stat fr3) st3 stop) fun r s4 ⟨hr,I4⟩=>?_)
  subst hr
  exact wpAny_execs_nil ⟨σ3,H3,I4,qn⟩
 ·refine wpAny_passesOwn hp (thn (T.item X rfl rfl rfl hc i pins s3 σ3 H3 X.xe I3 (stat fr3) st3 go) fun r s4 ⟨u,hr,h4⟩=>?_)
  subst hr
  refine wpAny_passesOwn hp (thn h4 fun _ s5 ⟨x,H5,I5,r5,y5,st5,fr5⟩=>?_)
  have I5':=I5.pinned (stat fr5) (T.obj _ _ st5)
  refine wpAny_passesOwn hp (thn (hg _ s5 σ3 H5 x u _ I5' r5 (step x H5 y5)) fun _ s6 ⟨σ6,H6,I6,q6⟩=>?_)
  refine wpAny_passesOwn hp (thn (hb _ s6 σ6 H6 _ I6 q6) fun f s7 q7=>?_)
  have again:∀ {σ7:St} {H7:Hp},Inv X (pins++pinsAt fp s5.heap) σ7 H7 s7->N σ7 H7->∃ m,m < n/\∃ i σ' H',Inv X pins σ' H' s7/\tn i s7.heap/\(∀ b ∈ fp,H' b=none)/\W i m σ' H':=fun {σ7 H7} I7 n7=>by
   obtain ⟨m',hm,w7⟩:=hN σ7 H7 n7
   refine ⟨m',hm,i+1,σ7,H7,I7.unpinned,T.keep _ _ _ st5 fun b hb o e=>(I7.pin (b,o) (List.mem_append_right _ (List.mem_append_right _ (zei hb e)))).1,fun b hb=>?_,w7⟩
   obtain ⟨o,e,d⟩:=T.obj _ _ st5 b hb
   exact (I7.pin (b,o) (List.mem_append_right _ (List.mem_append_right _ (zei hb e)))).2.1
  cases f with
  | next=>obtain ⟨σ7,H7,I7,n7⟩:=q7; exact again I7 n7
  | cont=>obtain ⟨σ7,H7,I7,n7⟩:=q7; exact again I7 n7
  | brk=>obtain ⟨σ7,H7,I7,q7⟩:=q7; exact ⟨σ7,H7,I7.unpinned,q7⟩
  | ret v=>obtain ⟨x7,σ7,H7,I7,r7,q7⟩:=q7; exact ⟨x7,σ7,H7,I7.unpinned,r7,q7⟩
end
abbrev R2:=V->V->Hp->VK->Prop
def OpR (X:Cx) (f:Value->Value->Sem Value) (r:R2):Prop :=
 ∀ (pins:List (Addr × Obj)) (s:Shared) (σ:St) (H:Hp) (x y:V) (v u:Value) (Q:VK),Inv X pins σ H s->RelV x v->RelV y u->r x y H Q ->
  wpAny (model X.prog X.w) X.A (f v u) (EP X pins σ Q) X.xe s
def UnR (X:Cx) (f:Value->Sem Value) (r:V->Hp->VK->Prop):Prop :=
 ∀ (pins:List (Addr × Obj)) (s:Shared) (σ:St) (H:Hp) (x:V) (v:Value) (Q:VK),Inv X pins σ H s->RelV x v->r x H Q ->
  wpAny (model X.prog X.w) X.A (f v) (EP X pins σ Q) X.xe s
def CallR (X:Cx) (f:Value) (r:List V->Hp->VK->Prop):Prop :=
 ∀ (pins:List (Addr × Obj)) (s:Shared) (σ:St) (H:Hp) (xs:List V) (us:List Value) (Q:VK),Inv X pins σ H s->Vals xs us->r xs H Q ->
  wpAny (model X.prog X.w) X.A (call f us) (EP X pins σ Q) X.xe s
def TruR (X:Cx) (r:V->Hp->(Bool->Hp->Prop)->Prop):Prop :=
 ∀ (pins:List (Addr × Obj)) (s:Shared) (σ:St) (H:Hp) (x:V) (v:Value) (Q:Bool->Hp->Prop),Inv X pins σ H s->RelV x v->r x H Q ->
  wpAny (model X.prog X.w) X.A (truthy v) (TP X pins σ Q) X.xe s
def tOp (r:R2) (ta tb:TE):TE:=fun σ H Q=>ta σ H fun x H1=>tb σ H1 fun y H2=>r x y H2 Q
def tUn (r:V->Hp->VK->Prop) (ta:TE):TE:=fun σ H Q=>ta σ H fun x H1=>r x H1 Q
def rI (C:Int->Int->Prop) (g:Int->Int->V):R2:=fun x y H Q=>∃ i j,x=.int i/\y=.int j/\C i j/\Q (g i j) H
def rI0 (g:Int->Int->V):R2:=fun x y H Q=>∃ i j,x=.int i/\y=.int j/\Q (g i j) H
def rU (g:Int->V):V->Hp->VK->Prop:=fun x H Q=>∃ i,x=.int i/\Q (g i) H
section
variable {X:Cx} {a b c:Expr} {ta tb tc:TE} {pos:Pos}
theorem binT (ha:PE X a ta) (hb:PE X b tb) {pins:List (Addr × Obj)} {s:Shared} {σ:St} {H:Hp} {R:V->V->Hp->Prop} (I:Inv X pins σ H s)
  (h:ta σ H fun x H1=>tb σ H1 fun y H2=>R x y H2) {Q:Value->Shared->Prop} {f:Value->Value->Sem Value}
  (hf:∀ v u s2 x y H2,Inv X pins σ H2 s2->RelV x v->RelV y u->R x y H2->wpAny (model X.prog X.w) X.A (f v u) Q X.xe s2) :
  wpAny (model X.prog X.w) X.A (eval a X.env) (fun v s₁=>wpAny (model X.prog X.w) X.A (eval b X.env) (fun u s₂=>wpAny (model X.prog X.w) X.A (f v u) Q X.xe s₂) X.xe s₁) X.xe s:=by
 refine thn (ha pins s σ H _ I h) fun v s1 ⟨x,H1,I1,r1,q1⟩=>?_
 refine thn (hb pins s1 σ H1 _ I1 q1) fun u s2 ⟨y,H2,I2,r2,q2⟩=>?_
 exact hf v u s2 x y H2 I2 r1 r2 q2
theorem zsN {op:Operator} {r:R2} (ho:OpR X (binaryOp op) r) (ha:PE X a ta) (hb:PE X b tb):PE X (.BinOp a op b pos) (tOp r ta tb):=by
 intro pins s σ H Q I h
 exact wpAny_BinOp (binT ha hb I h fun v u s2 x y H2 I2 rx ry q=>ho pins s2 σ H2 x y v u Q I2 rx ry q)
theorem zsd {op:UnaryOp} {r:V->Hp->VK->Prop} (ho:UnR X (unaryOp op) r) (ha:PE X a ta):PE X (.UnaryOp op a pos) (tUn r ta):=by
 intro pins s σ H Q I h
 exact UnaryOp_ (thn (ha pins s σ H _ I h) fun v s1 ⟨x,H1,I1,r1,q1⟩=>ho pins s1 σ H1 x v Q I1 r1 q1)
theorem opI {f:Value->Value->Sem Value} {C:Int->Int->Prop} {g:Int->Int->Int}
  (rule:∀ (i j:Int) (t u:Tok) (s:Shared) (Q:Value->Shared->Prop) (E:Value->Shared->Prop),C i j->Q (.int (g i j) s.toks) { s with toks:=s.toks+1 }->wpAny (model X.prog X.w) X.A (f (.int i t) (.int j u)) Q E s) :
  OpR X f (rI C fun i j=>.int (g i j)):=by
 intro pins s σ H x y v u Q I rx ry h
 obtain ⟨i,j,rfl,rfl,hc,q⟩:=h
 obtain ⟨t,rfl⟩:=rx
 obtain ⟨t',rfl⟩:=ry
 exact rule i j t t' s _ _ hc ⟨.int (g i j),H,I.tok _,⟨_,rfl⟩,q⟩
theorem opI0 {f:Value->Value->Sem Value} {g:Int->Int->Int}
  (rule:∀ (i j:Int) (t u:Tok) (s:Shared) (Q:Value->Shared->Prop) (E:Value->Shared->Prop),Q (.int (g i j) s.toks) { s with toks:=s.toks+1 }->wpAny (model X.prog X.w) X.A (f (.int i t) (.int j u)) Q E s) :
  OpR X f (rI0 fun i j=>.int (g i j)):=by
 intro pins s σ H x y v u Q I rx ry h
 obtain ⟨i,j,rfl,rfl,q⟩:=h
 obtain ⟨t,rfl⟩:=rx
 obtain ⟨t',rfl⟩:=ry
 exact rule i j t t' s _ _ ⟨.int (g i j),H,I.tok _,⟨_,rfl⟩,q⟩
theorem opB0 {f:Value->Value->Sem Value} {g:Int->Int->Bool}
  (rule:∀ (i j:Int) (t u:Tok) (s:Shared) (Q:Value->Shared->Prop) (E:Value->Shared->Prop),Q (.bool (g i j)) s->wpAny (model X.prog X.w) X.A (f (.int i t) (.int j u)) Q E s) :
  OpR X f (rI0 fun i j=>.bl (g i j)):=by
 intro pins s σ H x y v u Q I rx ry h
 obtain ⟨i,j,rfl,rfl,q⟩:=h
 obtain ⟨t,rfl⟩:=rx
 obtain ⟨t',rfl⟩:=ry
 exact rule i j t t' s _ _ ⟨.bl (g i j),H,I,rfl,q⟩
def CPow (i j:Int):Prop:=0<=j/\j<=1000000/\i.natAbs < 2 ^ 64
def CMul (i j:Int):Prop:=(-(2 ^ 64) < i/\i < 2 ^ 64) \/ (-(2 ^ 64) < j/\j < 2 ^ 64)
theorem CMul.ok {i j:Int} (h:CMul i j):IntMulOk i j:=by
 rcases h with ⟨h1,h2⟩ | ⟨h1,h2⟩
 ·exact .of_left (intBits_le_64 h1 h2)
 ·exact .of_right (intBits_le_64 h1 h2)
theorem zr8:OpR X (binaryOp .Add) (rI0 fun i j=>.int (i+j)):=opI0 fun _ _ _ _ _ _ _ q=>add_int q
theorem zrA:OpR X (binaryOp .Sub) (rI0 fun i j=>.int (i - j)):=opI0 fun _ _ _ _ _ _ _ q=>sub_int q
theorem zrq:OpR X (binaryOp .Mult) (rI CMul fun i j=>.int (i * j)):=opI fun _ _ _ _ _ _ _ hc q=>mul_int q hc.ok
theorem zrF:OpR X (binaryOp .Mod) (rI (fun _ j=>0 < j) fun i j=>.int (i % j)):=opI fun i j _ _ _ _ _ hc q=>by
 have h1:(0:Int) < j:=hc
 exact mod_int' (by omega) (by rw [Int.fmod_eq_emod_of_nonneg i (by omega)]; exact q)
theorem zrg:OpR X (binaryOp .Pow) (rI CPow fun i j=>.int (i ^ j.toNat)):=opI fun _ _ _ _ _ _ _ hc q=>pow_int_small hc.1 hc.2.1 hc.2.2 q
theorem zro:OpR X (binaryOp .BitAnd) (rI0 fun i j=>.int (Builtin.bitAnd i j)):=opI0 fun _ _ _ _ _ _ _ q=>and_int q
theorem zsD:OpR X (binaryOp .BitOr) (rI0 fun i j=>.int (Builtin.bitOr i j)):=opI0 fun _ _ _ _ _ _ _ q=>or_int q
theorem zrL:OpR X (binaryOp .BitXor) (rI0 fun i j=>.int (Builtin.bitXor i j)):=opI0 fun _ _ _ _ _ _ _ q=>xor_int q
theorem unI {f:Value->Sem Value} {g:Int->Int}
  (rule:∀ (i:Int) (t:Tok) (s:Shared) (Q:Value->Shared->Prop) (E:Value->Shared->Prop),Q (.int (g i) s.toks) { s with toks:=s.toks+1 }->wpAny (model X.prog X.w) X.A (f (.int i t)) Q E s) :
  UnR X f (rU fun i=>.int (g i)):=by
 intro pins s σ H x v Q I rx h
 obtain ⟨i,rfl,q⟩:=h
 obtain ⟨t,rfl⟩:=rx
 exact rule i t s _ _ ⟨.int (g i),H,I.tok _,⟨_,rfl⟩,q⟩
theorem zpi:UnR X (unaryOp .USub) (rU fun i=>.int (-i)):=unI fun _ _ _ _ _ q=>neg_int q
theorem zmn:OpR X (binaryOp .Add) (fun x y H Q=>∃ i k,x=.int i/\y=.bl k/\Q (.int (i+b2i k)) H):=by
 intro pins s σ H x y v u Q I rx ry h
 obtain ⟨i,k,rfl,rfl,q⟩:=h
 obtain ⟨t,rfl⟩:=rx
 cases ry
 exact add_int_bool ⟨.int (i+b2i k),H,I.tok _,⟨_,rfl⟩,q⟩
end
section
variable {X:Cx} {a b c:Expr} {ta tb tc:TE} {pos:Pos}
theorem znL {pins:List (Addr × Obj)} {σ:St} {H:Hp} {s:Shared} {Q:VK} {k k':Bool} (I:Inv X pins σ H s) (q:Q (.bl k) H) (e:k=k'):EP X pins σ Q (.bool k') s:=by
 subst e
 exact ⟨.bl k,H,I,rfl,q⟩
theorem zsV:OpR X (compareOp .Lt) (rI0 fun i j=>.bl (decide (i < j))):=opB0 fun _ _ _ _ _ _ _ q=>lt_int q
theorem zsQ:OpR X (compareOp .LtE) (rI0 fun i j=>.bl (decide (i<=j))):=opB0 fun _ _ _ _ _ _ _ q=>le_int q
theorem zsZ:OpR X (compareOp .Gt) (rI0 fun i j=>.bl (decide (j < i))):=opB0 fun _ _ _ _ _ _ _ q=>gt_int q
theorem zsT:OpR X (compareOp .GtE) (rI0 fun i j=>.bl (decide (j<=i))):=opB0 fun _ _ _ _ _ _ _ q=>ge_int q
theorem zm5:OpR X (compareOp .In) (fun x y H Q=>∃ i j,x=.str i/\y=.str j/\Q (.bl (!(Builtin.Str.occurrences j i 0 j.length 1).isEmpty)) H):=by
 intro pins s σ H x y v u Q I rx ry h
 obtain ⟨i,j,rfl,rfl,q⟩:=h
 obtain ⟨t,rfl⟩:=rx
 obtain ⟨t',rfl⟩:=ry
 exact in_str (znL I q rfl)
theorem zq8:OpR X (compareOp .Is) (fun x y H Q=>y=.non/\Q (.bl (decide (x=.non))) H):=by
 intro pins s σ H x y v u Q I rx ry h
 obtain ⟨rfl,q⟩:=h
 cases ry
 refine is_none_gen (znL I q ?_)
 cases x <;> first
  | (cases rx; rfl)
  | (obtain ⟨t,rfl⟩:=rx; rfl)
theorem zjN:OpR X (compareOp .NotIn) (fun x y H Q=>∃ i j,x=.str i/\y=.str j/\Q (.bl (!(!(Builtin.Str.occurrences j i 0 j.length 1).isEmpty))) H):=by
 intro pins s σ H x y v u Q I rx ry h
 obtain ⟨i,j,rfl,rfl,q⟩:=h
 obtain ⟨t,rfl⟩:=rx
 obtain ⟨t',rfl⟩:=ry
 exact notIn_str (znL I q rfl)
theorem nomark (b:Expr) {op:CmpOp} (h:op ≠ .In:=by decide) (h2:op ≠ .NotIn:=by decide):behindInMarks op b=false:=by
 have e1:(op == CmpOp.In)=false:=by cases op <;> first | rfl | exact absurd rfl h
 have e2:(op == CmpOp.NotIn)=false:=by cases op <;> first | rfl | exact absurd rfl h2
 cases b <;> simp [behindInMarks,e1,e2]
theorem zqL {op:CmpOp} {r:R2} (ho:OpR X (compareOp op) r) (ha:PE X a ta) (hb:PE X b tb) (hm:behindInMarks op b=false):PE X (.Compare a [op] [b] pos) (tOp r ta tb):=by
 intro pins s σ H Q I h
 exact wpAny_Compare1 (binT ha hb I h fun v u s2 x y H2 I2 rx ry q=>ho pins s2 σ H2 x y v u Q I2 rx ry q) hm
def tTest (t:TE):TT:=fun σ H Q=>t σ H fun x H'=>∃ k,x=.bl k/\Q k H'
theorem zqi {op:CmpOp} {r:R2} (ho:OpR X (compareOp op) r) (ha:PE X a ta) (hb:PE X b tb) (hm:behindInMarks op b=false):PT X (.Compare a [op] [b] pos) (tTest (tOp r ta tb)):=by
 intro pins s σ H Q I h
 refine wpAny_isTrue_Compare1 (thn (ha pins s σ H _ I h) fun v s1 ⟨x,H1,I1,r1,q1⟩=>thn (hb pins s1 σ H1 _ I1 q1) fun u s2 ⟨y,H2,I2,r2,q2⟩ =>
  thn (ho pins s2 σ H2 x y v u _ I2 r1 r2 q2) fun c s3 ⟨z,H3,I3,r3,k,e,q3⟩=>?_) hm
 subst e
 cases r3
 exact wpAny_truthy_bool ⟨H3,I3,q3⟩
def tChain (r r':R2) (ta tb tc:TE):TE:=fun σ H Q=>ta σ H fun x H1=>tb σ H1 fun y H2=>r x y H2 fun z H3=>∃ k,z=.bl k /\
 (if k=true then tc σ H3 fun w' H4=>r' y w' H4 Q else Q (.bl false) H3)
theorem zoD {op op':CmpOp} {r r':R2} (ho:OpR X (compareOp op) r) (ho':OpR X (compareOp op') r') (ha:PE X a ta) (hb:PE X b tb) (hc:PE X c tc)
  (hm:lastMarks [op,op'] [b,c]=false:=by with_unfolding_all rfl):PE X (.Compare a [op,op'] [b,c] pos) (tChain r r' ta tb tc):=by
 intro pins s σ H Q I h
 refine Compare_chain (thn (ha pins s σ H _ I h) fun v s1 ⟨x,H1,I1,r1,q1⟩=>chain_link (thn (hb pins s1 σ H1 _ I1 q1) fun u s2 ⟨y,H2,I2,r2,q2⟩ =>
  thn (ho pins s2 σ H2 x y v u _ I2 r1 r2 q2) fun d s3 ⟨z,H3,I3,r3,k,e,q3⟩=>?_)) hm
 subst e
 cases r3
 refine wpAny_truthy_bool ?_
 cases k with
 | false=>exact ite_ff ⟨.bl false,H3,I3,rfl,q3⟩
 | true=>exact ite_tt (chain_last (thn (hc pins s3 σ H3 _ I3 q3) fun w' s4 ⟨z',H4,I4,r4,q4⟩=>ho' pins s4 σ H4 y z' u w' Q I4 r2 r4 q4))
theorem zoz {op op':CmpOp} {r r':R2} (ho:OpR X (compareOp op) r) (ho':OpR X (compareOp op') r') (ha:PE X a ta) (hb:PE X b tb) (hc:PE X c tc)
  (hm:lastMarks [op,op'] [b,c]=false:=by with_unfolding_all rfl):PT X (.Compare a [op,op'] [b,c] pos) (tTest (tChain r r' ta tb tc)):=by
 intro pins s σ H Q I h
 refine isTrue_chain (thn (ha pins s σ H _ I h) fun v s1 ⟨x,H1,I1,r1,q1⟩=>test_link (thn (hb pins s1 σ H1 _ I1 q1) fun u s2 ⟨y,H2,I2,r2,q2⟩ =>
  thn (ho pins s2 σ H2 x y v u _ I2 r1 r2 q2) fun d s3 ⟨z,H3,I3,r3,k,e,q3⟩=>?_)) hm
 subst e
 cases r3
 refine wpAny_truthy_bool ?_
 cases k with
 | false =>
  obtain ⟨k',e',q'⟩:=q3
  cases e'
  exact ite_ff ⟨H3,I3,q'⟩
 | true =>
  refine ite_tt (test_last (thn (hc pins s3 σ H3 _ I3 q3) fun w' s4 ⟨z',H4,I4,r4,q4⟩=>thn (ho' pins s4 σ H4 y z' u w' _ I4 r2 r4 q4) fun d' s5 ⟨z2,H5,I5,r5,k2,e2,q5⟩=>?_))
  subst e2
  cases r5
  exact wpAny_truthy_bool ⟨H5,I5,q5⟩
def TruV (K:PySem.W.Frag) (x:V) (H:Hp) (k:Bool):Prop :=
 match x with
 | .non=>k=false
 | .bl b=>k=b
 | .int i=>k=(i != 0)
 | .str y=>y.length<=sizeLine/\k=((y.length:Int) != 0)
 | .byt y=>y.size<=sizeLine/\k=((y.size:Int) != 0)
 | .ref p=>(∃ xs,SqL K H p xs/\k=!xs.isEmpty) \/ (∃ xs,SqT K H p xs/\k=!xs.isEmpty) \/ ∃ kvs,H p=some (.dK kvs)/\k=!kvs.isEmpty
 | _=>False
theorem zlR {κ:Type} {kvs:List (κ × V)} {vs:List (κ × Value)} (r:KV kvs vs):(!vs.isEmpty)=!kvs.isEmpty:=by
 cases r <;> rfl
theorem zh2 {xs:List V} {its:List Value} (r:Vals xs its):(!its.toArray.isEmpty)=!xs.isEmpty:=by
 cases r <;> simp
theorem line63:(sizeLine:Nat) < 2 ^ 63:=by rw [sizeLine_eq]; decide
theorem zsc:TruR X (fun x H Q=>∃ k,TruV X.K x H k/\Q k H):=by
 intro pins s σ H x v Q I rx h
 obtain ⟨k,e,q⟩:=h
 have hl:=line63
 have hs:sizeLine=16777216:=sizeLine_eq
 cases x with
 | non =>
  cases rx
  have e':k=false:=e
  subst e'
  exact truthy_none ⟨H,I,q⟩
 | bl b =>
  cases rx
  have e':k=b:=e
  subst e'
  exact wpAny_truthy_bool ⟨H,I,q⟩
 | int i =>
  obtain ⟨t,rfl⟩:=rx
  have e':k=(i != 0):=e
  subst e'
  exact PySem.P.truthy_int ⟨H,I,q⟩
 | str y =>
  obtain ⟨t,rfl⟩:=rx
  obtain ⟨hy,e'⟩:y.length<=sizeLine/\k=((y.length:Int) != 0):=e
  subst e'
  exact PySem.P.truthy_str (by omega) ⟨H,I.tok _,q⟩
 | byt y =>
  obtain ⟨t,rfl⟩:=rx
  obtain ⟨hy,e'⟩:y.size<=sizeLine/\k=((y.size:Int) != 0):=e
  subst e'
  exact PySem.W.truthy_bytes (by omega) ⟨H,I.tok _,q⟩
 | ref p =>
  cases rx
  have e':(∃ xs,SqL X.K H p xs/\k=!xs.isEmpty) \/ (∃ xs,SqT X.K H p xs/\k=!xs.isEmpty) \/ ∃ kvs,H p=some (.dK kvs)/\k=!kvs.isEmpty:=e
  rcases e' with ⟨xs,hx,e'⟩ | ⟨xs,hx,e'⟩ | ⟨kvs,hx,e'⟩
  ·subst e'
   obtain ⟨its,r,pl,hz⟩:=I.list hx
   have hlen:=r.length
   exact wpAny_truthy_list pl.isList (by simp only [List.size_toArray]; omega) ⟨H,I.tok _,by rw [zh2 r]; exact q⟩
  ·subst e'
   obtain ⟨its,r,pl,hz⟩:=I.tuple hx
   have hlen:=r.length
   exact truthy_tuple pl (by simp only [List.size_toArray]; omega) ⟨H,I.tok _,by rw [zh2 r]; exact q⟩
  ·subst e'
   obtain ⟨hz,hS,vs,r,m⟩:kvs.length<=sizeLine/\(p == sysModules)=false/\∃ vs,KV kvs vs/\s.heap.DictOf (mixKind X.prog X.w) p vs:=I.hok p _ hx
   have hlen:kvs.length=vs.length:=Paired.length r
   exact wpAny_truthy_dict hS m (by omega) ⟨H,I.tok _,by rw [zlR r]; exact q⟩
 | _=>exact (show False from e).elim
theorem zoT (ha:PE X a ta) (he:∀ whole,isTrue a X.env whole=(do let v <- whole; standAt a.pos; holding [v] (truthy v))) :
  PT X a (fun σ H Q=>ta σ H fun x H'=>∃ k,TruV X.K x H' k/\Q k H'):=by
 intro pins s σ H Q I h
 exact isTrue_plain (thn (ha pins s σ H _ I h) fun v s1 ⟨x,H1,I1,r1,q1⟩=>zsc pins s1 σ H1 x v Q I1 r1 q1) (he _)
theorem zl4:OpR X (binaryOp .Add) (fun x y H Q=>∃ i j,x=.str i/\y=.str j/\i.length+j.length<=sizeLine/\Q (.str (i++j)) H):=by
 intro pins s σ H x y v u Q I rx ry h
 obtain ⟨i,j,rfl,rfl,hz,q⟩:=h
 obtain ⟨t,rfl⟩:=rx
 obtain ⟨t',rfl⟩:=ry
 exact add_str (fun t' tk=>⟨.str (i++j),H,I.tok _,⟨_,rfl⟩,q⟩) hz
theorem vals1 {x:V} {us:List Value} (r:Vals [x] us):∃ u,us=[u]/\RelV x u:=by
 cases r with
 | cons r1 r2=>cases r2; exact ⟨_,rfl,r1⟩
theorem vals2 {x y:V} {us:List Value} (r:Vals [x,y] us):∃ u w',us=[u,w']/\RelV x u/\RelV y w':=by
 cases r with
 | cons r1 r2 =>
  cases r2 with
  | cons r3 r4=>cases r4; exact ⟨_,_,rfl,r1,r3⟩
theorem zoG:CallR X (.builtin "abs") (fun xs H Q=>∃ i,xs=[.int i]/\Q (.int (if i < 0 then -i else i)) H):=by
 intro pins s σ H xs us Q I r h
 obtain ⟨i,rfl,q⟩:=h
 obtain ⟨u,rfl,t,rfl⟩:=vals1 r
 exact call_abs_int fun u tk=>⟨.int (if i < 0 then -i else i),H,I.tok _,⟨_,rfl⟩,q⟩
theorem zmF (hc:X.calm=true):CallR X (.builtin "max") (fun xs H Q=>∃ i j,xs=[.int i,.int j]/\Q (.int (if j > i then j else i)) H):=by
 intro pins s σ H xs us Q I r h
 obtain ⟨i,j,rfl,q⟩:=h
 obtain ⟨u,w',rfl,⟨t,rfl⟩,⟨t',rfl⟩⟩:=vals2 r
 refine max_two_ints (I.ok.hd hc) fun h' tk k=>⟨_,H,I.kept k,?_,q⟩
 by_cases hj:j > i
 ·rw [if_pos hj,if_pos hj]; exact ⟨_,rfl⟩
 ·rw [if_neg hj,if_neg hj]; exact ⟨_,rfl⟩
theorem zmT (hc:X.calm=true):CallR X (.builtin "min") (fun xs H Q=>∃ i j,xs=[.int i,.int j]/\Q (.int (if j < i then j else i)) H):=by
 intro pins s σ H xs us Q I r h
 obtain ⟨i,j,rfl,q⟩:=h
 obtain ⟨u,w',rfl,⟨t,rfl⟩,⟨t',rfl⟩⟩:=vals2 r
 refine min_two_ints (I.ok.hd hc) fun h' tk k=>⟨_,H,I.kept k,?_,q⟩
 by_cases hj:j < i
 ·rw [if_pos hj,if_pos hj]; exact ⟨_,rfl⟩
 ·rw [if_neg hj,if_neg hj]; exact ⟨_,rfl⟩
theorem zjw:CallR X (.type "int") (fun xs H Q=>(∃ i,xs=[.int i]/\Q (.int i) H) \/ ∃ k,xs=[.bl k]/\Q (.int (if k then 1 else 0)) H):=by
 intro pins s σ H xs us Q I r h
 rcases h with ⟨i,rfl,q⟩ | ⟨k,rfl,q⟩
 ·obtain ⟨u,rfl,t,rfl⟩:=vals1 r
  exact call_int_int ⟨.int i,H,I,⟨_,rfl⟩,q⟩
 ·obtain ⟨u,rfl,r1⟩:=vals1 r
  cases r1
  exact call_int_bool ⟨.int (if k then 1 else 0),H,I.tok _,⟨_,rfl⟩,q⟩
end
section
variable {prog:Program} {w:World} {A:Around} {E:Value->Shared->Prop} {s:Shared} {K:PySem.W.Frag} {x dx C f:Addr} {mA:Str->Option Value} {name:Str} {v:Value}
end
section
variable {P:Program} {w:World} {H H':Hp} {h h':Heap} {a C dx:Addr} {fs fs':List (Str × V)}
end
section
variable {X:Cx} {pins:List (Addr × Obj)} {σ:St} {H:Hp} {s:Shared} {a C dx:Addr} {fs:List (Str × V)} {f:Str} {v:V} {A:Around} {E:Value->Shared->Prop}
end
section
variable {X:Cx} {o e value:Expr} {f:Str} {pos pos' tpos:Pos} {ta tv:TE}
end
section
variable {X:Cx} {pins:List (Addr × Obj)} {σ:St} {H:Hp} {s:Shared} {A:Around} {E:Value->Shared->Prop} {Q:Value->Shared->Prop} {c:Value} {b:Bool}
end
structure Room (k:Nat) (A:Around):Prop where
 hd:A.handled=none
 dp:A.depth+3 * k+5 < recursionLimit
 un:A.units+16 * k+200 < cLine
theorem Room.deeper {k:Nat} {A:Around} (r:Room (k+1) A) (env:Env):Room k (A.deeper env) :=
 ⟨r.hd,by have:=r.dp; show A.depth+1+3 * k+5 < _; omega,by have:=r.un; show A.units+3+16 * k+200 < _; omega⟩
theorem Room.depth {k:Nat} {A:Around} (r:Room k A):A.depth < recursionLimit:=by have:=r.dp; omega
theorem Room.units {k:Nat} {A:Around} (r:Room k A):A.units+64 < cLine:=by have:=r.un; omega
def tNil:TA:=fun _ H Q=>Q [] H
def tCons (ta:TE) (tr:TA):TA:=fun σ H Q=>ta σ H fun x H1=>tr σ H1 fun xs H2=>Q (x :: xs) H2
section
variable {X:Cx} {e:Expr} {es:List Expr} {te:TE} {t:TA} {pos:Pos}
theorem pa_nil:PA X [] tNil:=fun _ _ _ _ H Q I h=>Calls.spliced_nil ⟨[],H,I,.nil,h⟩
theorem zd8 (ha:PE X e te) (hr:PA X es t) (hs:starEach (e :: es) X.env=(false,eval e X.env) :: starEach es X.env:=by rfl):PA X (e :: es) (tCons te t):=by
 intro pos pins s σ H Q I h
 rw [hs]
 show wpAny _ _ (spliced ((false,eval e X.env) :: backTo pos (starEach es X.env))) _ _ s
 refine Calls.spliced_cons (thn (ha pins s σ H _ I h) fun u s1 ⟨x,H1,I1,r1,q1⟩=>?_)
 exact thn (hr pos pins s1 σ H1 _ I1 q1) fun us s2 ⟨xs,H2,I2,r2,q2⟩=>⟨x :: xs,H2,I2,.cons r1 r2,q2⟩
def tTup (t:TA):TE:=fun σ H Q=>t σ H fun xs H1=>xs.length<=sizeLine/\∀ p,H1 p=none->Q (.ref p) (upd H1 p (.tup xs))
def tLst (t:TA):TE:=fun σ H Q=>t σ H fun xs H1=>xs.length<=sizeLine/\∀ p,H1 p=none->Q (.ref p) (upd H1 p (.lst xs))
theorem zsy {x1} (h:PA X es t):PE X (.Tuple es x1 pos) (tTup t):=by
 intro pins s σ H Q I hq
 refine wpAny_Tuple_spliced (thn (h pos pins s σ H _ I hq) fun us s1 ⟨xs,H1,I1,r,z,q⟩=>⟨by rw [<- r.length]; exact z,?_⟩)
 have hf:H1 s1.heap.objs.size=none:=I1.hok.fresh (Nat.le_refl _)
 refine ⟨.ref s1.heap.objs.size,upd H1 s1.heap.objs.size (.tup xs),I1.laid (t':=s1.toks) (fun b u e=>Heap.get?_push_of_some _ e) (Nat.le_refl _) ?_,rfl,q _ hf⟩
 exact ⟨z,us,r,⟨_,Heap.get?_push_size _ rfl,rfl,_,rfl⟩⟩
theorem zpn (h:PA X es t):PE X (.List es pos) (tLst t):=by
 intro pins s σ H Q I hq
 refine wpAny_List_spliced (thn (h pos pins s σ H _ I hq) fun us s1 ⟨xs,H1,I1,r,z,q⟩=>⟨by rw [<- r.length]; exact z,?_⟩)
 have hf:H1 s1.heap.objs.size=none:=I1.hok.fresh (Nat.le_refl _)
 refine ⟨.ref s1.heap.objs.size,upd H1 s1.heap.objs.size (.lst xs),I1.laid (t':=s1.toks) (fun b u e=>Heap.get?_push_of_some _ e) (Nat.le_refl _) ?_,rfl,q _ hf⟩
 exact ⟨z,us,0,r,Heap.get?_push_size _ rfl⟩
end
abbrev Sp:=List V->Hp->VK->XK->Prop
abbrev CXT:=List Env->Hp->Shared->XK->Value->Shared->Prop
structure Env0 (P:Program) (w:World) (K:PySem.W.Frag) (mg:Str->Option Value) (base:Heap) (A:Around) (outer:List Env) (s:Shared) (H:Hp):Prop where
 frames:A.frames=some outer
 mod:Mod K mg base
 bs:∀ b o,base.get? b=some o->s.heap.get? b=some o/\H b=none
 bsz:base.objs.size<=s.heap.objs.size
 funs:s.heap.FunFrames base outer
 frf:∀ b ∈ frs outer,H b=none
 hok:HOk P w H s.heap
 bare:AllBare s.gens
def CE (outer:List Env) (P:Program) (w:World) (H:Hp) (s:Shared) (Q:VK) (u:Value) (s':Shared):Prop :=
 ∃ v H',s'.os=s.os/\AllBare s'.gens/\Un (frs outer) [] H H' s.heap s'.heap/\HOk P w H' s'.heap/\RelV v u/\Q v H'
def CR (CX:CXT) (outer:List Env) (P:Program) (w:World) (H:Hp) (s:Shared) (Q:VK) (E:XK) (r:Result) (s':Shared):Prop :=
 match r with
 | .ok (.ret u)=>CE outer P w H s Q u s'
 | .ok _=>False
 | .error e=>CX outer H s E e s'
structure FnOk (P:Program) (w:World) (K:PySem.W.Frag) (mg:Str->Option Value) (base:Heap) (CX:CXT) (k:Nat) (f:Addr) (fd:FuncData) (ps:List Str) (sp:Sp):Prop where
 len:∀ vs H Q E,sp vs H Q E->vs.length=ps.length
 run:∀ (A:Around) (outer:List Env) (s:Shared) (H:Hp) (args:Args) (us:List Value) (vs:List V) (Q:VK) (E:XK),Room k A->Env0 P w K mg base A outer s H->BindsTo s fd args (ps.zip us)->Vals vs us->sp vs H Q E ->
  codeAny (model P w) A (.call (.ref f) args) (CR CX outer P w H s Q E) s
section
variable {X:Cx} {pins:List (Addr × Obj)} {σ:St} {H:Hp} {s s':Shared}
theorem Inv.env0 (I:Inv X pins σ H s):Env0 X.prog X.w X.K X.mg X.base X.A X.stack s H :=
 ⟨I.ok.frames,I.ok.mod,I.bs,Nat.le_trans I.ok.bsz I.sz,I.stack,I.stkFree,I.hok,I.bare⟩
theorem Inv.after {Q:VK} {u:Value} (I:Inv X pins σ H s) (h:CE X.stack X.prog X.w H s Q u s'):EP X pins σ Q u s':=by
 obtain ⟨v,H',os,bare,un,hok,r,q⟩:=h
 obtain ⟨hh,g,d,t,os'⟩:=s'
 obtain rfl:os'=s.os:=os
 exact ⟨v,H',I.call (h':=hh) (g':=g) (d':=d) (t':=t) (ch:=[]) un hok bare (fun b z=>absurd z (by simp)),r,q⟩
end
def Binds (K:PySem.W.Frag) (fd:FuncData) (ps:List Str) (ds:List Value):Prop :=
 ∀ (s:Shared) (us:List Value),K.In s.heap->(us++ds).length=ps.length->BindsTo s fd ⟨us,[]⟩ (ps.zip (us++ds))
theorem Binds.all {K:PySem.W.Frag} {fd:FuncData} {ps:List Str} (h:∀ us:List Value,us.length=ps.length->bindArgs fd ⟨us,[]⟩=pure (ps.zip us)):Binds K fd ps []:=fun s us _ hl=>by
 rw [List.append_nil] at hl ⊢
 exact .of_eq (h us hl)
def Passes (CX:CXT) (X:Cx) (E:XK):Prop:=∀ (pins:List (Addr × Obj)) (σ:St) (H:Hp) (s:Shared) (e:Value) (s':Shared),Inv X pins σ H s->CX X.stack H s E e s'->X.xe e s'
section
variable {X:Cx} {CX:CXT} {k:Nat} {f C:Addr} {fd:FuncData} {ps:List Str} {sp:Sp} {dvs:List V} {ds:List Value} {E:XK} {x m:Str} {p pos apos:Pos} {e o:Expr} {es:List Expr} {ta:TE} {t:TA}
end
def PK (X:Cx) (kws:List Keyword) (t:TA):Prop :=
 ∀ (pos:Pos) (pins:List (Addr × Obj)) (s:Shared) (σ:St) (H:Hp) (Q:List V->Hp->Prop),Inv X pins σ H s->t σ H Q->wpAny (model X.prog X.w) X.A (evalAll ((backToKw pos (keywordEach kws X.env)).map (·.2))) (AP X pins σ Q) X.xe s
section
variable {X:Cx} {CX:CXT} {k:Nat} {f C:Addr} {fd:FuncData} {ps ks:List Str} {sp:Sp} {E:XK} {x m:Str} {p pos apos kpos:Pos} {e o:Expr} {es:List Expr} {kws:List Keyword} {te ta:TE} {t tk:TA} {nm:Option Str}
theorem pk_nil:PK X [] tNil:=fun _ _ _ _ H Q I h=>wpAny_evalAll_nil ⟨[],H,I,.nil,h⟩
theorem zpN (ha:PE X e te) (hr:PK X kws t):PK X (⟨nm,e,kpos⟩ :: kws) (tCons te t):=by
 intro pos pins s σ H Q I h
 show wpAny _ _ (evalAll ((do let v <- eval e X.env; standAt pos; pure v) :: (backToKw pos (keywordEach kws X.env)).map (·.2))) _ _ s
 refine wpAny_evalAll_cons (wpAny_bind (thn (ha pins s σ H _ I h) fun u s1 ⟨x,H1,I1,r1,q1⟩=>wpAny_bind (wpAny_standAt (wpAny_pure ?_))))
 exact thn (hr pos pins s1 σ H1 _ I1 q1) fun us s2 ⟨xs,H2,I2,r2,q2⟩=>⟨x :: xs,H2,I2,.cons r1 r2,q2⟩
structure KBinds (K:PySem.W.Frag) (fd:FuncData) (ps ks:List Str) (g:List Value->List Value->List Value) (gV:List V->List V->List V):Prop where
 to:∀ (s:Shared) (us ws:List Value),K.In s.heap->(g us ws).length=ps.length->BindsTo s fd ⟨us,ks.zip ws⟩ (ps.zip (g us ws))
 rel:∀ {vs:List V} {us:List Value} {zs:List V} {ws:List Value},Vals vs us->Vals zs ws->Vals (gV vs zs) (g us ws)
variable {g:List Value->List Value->List Value} {gV:List V->List V->List V}
end
structure FnScope (N P:List Str) (sc:Scope):Prop where
 kind:sc.kind=.function
 co:sc.isCoroutine=false
 gen:sc.isGenerator=false
 nd:N.Nodup
 pre:N.take P.length=P
 par:∀ x ∈ P,sc.names.lookup x=some .local \/ sc.names.lookup x=some .cell
 nofree:∀ y ∈ sc.names,y.2 ≠ .free
theorem zjH {kindOf:Str->Option NameKind} {x:Str}:∀ {binds:List (Str × Value)} {m:Str->Option Value},(∀ v,(x,v) ∉ binds)->bindL kindOf binds m x=m x
 | [],_,_=>rfl
 | (n,v) :: r,m,h=>by
  unfold bindL
  rw [zjH fun w hw=>h w (List.mem_cons_of_mem _ hw)]
  split
  ·have:x ≠ n:=by rintro rfl; exact h v List.mem_cons_self
   simp [this]
  ·rfl
theorem zjl {kindOf:Str->Option NameKind} {x:Str}:∀ {binds:List (Str × Value)} {m:Str->Option Value},(∀ v,(x,v) ∉ binds)->bindC kindOf binds m x=m x
 | [],_,_=>rfl
 | (n,v) :: r,m,h=>by
  unfold bindC
  rw [zjl fun w hw=>h w (List.mem_cons_of_mem _ hw)]
  split
  ·rfl
  ·have:x ≠ n:=by rintro rfl; exact h v List.mem_cons_self
   simp [this]
theorem zjp {kindOf:Str->Option NameKind} {x:Str} {v:Value}:∀ {P:List Str} {vs:List Value} {i:Nat} {m:Str->Option Value},P.Nodup->P[i]?=some x->vs[i]?=some v->kindOf x=some .local ->
  bindL kindOf (P.zip vs) m x=some v
 | [],_,_,_,_,h,_,_=>by simp at h
 | _ :: _,[],_,_,_,_,h,_=>by simp at h
 | p :: P,w :: vs,0,m,nd,h1,h2,hk=>by
  simp at h1 h2; subst h1; subst h2
  show bindL kindOf ((p,w) :: P.zip vs) m p=_
  unfold bindL
  rw [zjH fun v hv=>(List.nodup_cons.mp nd).1 (List.of_mem_zip hv).1,if_pos hk]
  simp
 | p :: P,w :: vs,i+1,m,nd,h1,h2,hk=>by
  show bindL kindOf ((p,w) :: P.zip vs) m x=_
  unfold bindL
  exact zjp (i:=i) (List.nodup_cons.mp nd).2 (by simpa using h1) (by simpa using h2) hk
theorem zjB {kindOf:Str->Option NameKind} {x:Str} {v:Value}:∀ {P:List Str} {vs:List Value} {i:Nat} {m:Str->Option Value},P.Nodup->P[i]?=some x->vs[i]?=some v->kindOf x ≠ some .local ->
  bindC kindOf (P.zip vs) m x=some v
 | [],_,_,_,_,h,_,_=>by simp at h
 | _ :: _,[],_,_,_,_,h,_=>by simp at h
 | p :: P,w :: vs,0,m,nd,h1,h2,hk=>by
  simp at h1 h2; subst h1; subst h2
  show bindC kindOf ((p,w) :: P.zip vs) m p=_
  unfold bindC
  rw [zjl fun v hv=>(List.nodup_cons.mp nd).1 (List.of_mem_zip hv).1,if_neg hk]
  simp
 | p :: P,w :: vs,i+1,m,nd,h1,h2,hk=>by
  show bindC kindOf ((p,w) :: P.zip vs) m x=_
  unfold bindC
  exact zjB (i:=i) (List.nodup_cons.mp nd).2 (by simpa using h1) (by simpa using h2) hk
def start (N:List Str) (vs:List V):St:=vs.map some++List.replicate (N.length - vs.length) none
def cxOf (CX:CXT) (P:Program) (w:World) (K:PySem.W.Frag) (mg:Str->Option Value) (base:Heap) (N:List Str) (qual:Str) (scope:Scope) (f:Addr) (cd:Value) (A:Around) (outer:List Env) (s:Shared) (H:Hp) (E:XK):Cx where
 prog:=P
 w:=w
 K:=K
 mg:=mg
 base:=base
 A:=A.deeper (envOfC qual scope s.heap.objs.size f cd)
 N:=N
 s₀:=s
 H₀:=H
 env:=envOfC qual scope s.heap.objs.size f cd
 outer:=outer
 stack:=envOfC qual scope s.heap.objs.size f cd :: outer
 ex:=[]
 calm:=true
 fn:=fun _=>true
 pn:=[]
 xe:=fun e s'=>wpAny (model P w) (A.deeper (envOfC qual scope s.heap.objs.size f cd)) (leaving (envOfC qual scope s.heap.objs.size f cd) e) (fun _ s''=>CX outer H s E e s'') (fun e' s''=>CX outer H s E e' s'') s'
theorem zlm {sc:Scope} {n:Nat} {x:Str} (h:sc.names.lookup x=some .cell):∃ c,(cellsFrom n sc.names []).lookup x=some c:=by
 have q:=PySem.W.cellsFrom_some sc.names n [] (.inl h)
 exact Option.isSome_iff_exists.mp q
theorem zm3 {CX:CXT} {P:Program} {w:World} {K:PySem.W.Frag} {mg:Str->Option Value} {base:Heap} {N ps:List Str} {qual:Str} {scope:Scope} {f:Addr} {cd:Value} {A:Around} {outer:List Env} {s s1:Shared} {H:Hp} {E:XK} {us:List Value} {vs:List V}
  (S:FnScope N ps scope) (hd:A.handled=none) (e0:Env0 P w K mg base A outer s H) (hl:vs.length=ps.length) (r:Vals vs us)
  (x:InCallC s s.heap.objs.size (bindL (envOfC qual scope s.heap.objs.size f cd).kindOf (ps.zip us) fun _=>none) (cellsFrom (s.heap.objs.size+1) scope.names []) (bindC (envOfC qual scope s.heap.objs.size f cd).kindOf (ps.zip us) fun _=>none) s1) :
  Inv (cxOf CX P w K mg base N qual scope f cd A outer s H E) [] (start N vs) H s1:=by
 have hpl:ps.length<=N.length:=by have:=congrArg List.length S.pre; rw [List.length_take] at this; omega
 obtain ⟨h1,tk,rfl,hk⟩:=x.done
 have noA:∀ b:Addr,b ∉ (cxOf CX P w K mg base N qual scope f cd A outer s H E).ex:=fun b z=>absurd (show b ∈ ([]:List Addr) from z) (by simp)
 refine ⟨⟨e0.mod,S.kind,rfl,rfl,Nat.le_refl _,fun y z c h1 h2=>?_,fun y hy=>?_,fun y c _ h=>?_,fun _=>hd,Around.frames_deeper e0.frames,.inr ⟨rfl,rfl⟩,fun b z=>absurd z (noA b),e0.bs,e0.bsz,fun b _ _=>noA b,fun b z=>absurd z (noA b),e0.funs,e0.frf⟩,
  rfl,e0.bare,Un.kept hk,⟨_,x.toInCall.ns,fun i y v h1 h2 h3=>?_⟩,fun y c h=>⟨_,x.cell y c h⟩,e0.hok.fresh (Nat.le_refl _),fun y c h=>?_,fun p hp=>absurd (show p ∈ ([]:List (Addr × Obj)) from hp) (by simp),e0.hok.kept hk,?_⟩
 ·exact name_of_addr x.apart (PySem.mem_of_lookup h1) (PySem.mem_of_lookup h2)
 ·have hy:scope.names.lookup y=some .cell \/ scope.names.lookup y=some .free:=hy
  rcases hy with hy | hy
  ·exact zlm hy
  ·exact absurd rfl (S.nofree _ (PySem.mem_of_lookup hy))
 ·exact Nat.le_of_lt (x.above y c (PySem.mem_of_lookup h))
 ·have hi:i < vs.length:=by
   unfold start at h2
   by_cases hi:i < vs.length
   ·exact hi
   ·rw [List.getElem?_append_right (by simpa using hi)] at h2
    rw [List.getElem?_replicate] at h2
    split at h2 <;> cases h2
  have ha:vs[i]?=some v:=by
   unfold start at h2
   rw [List.getElem?_append_left (by simpa using hi),List.getElem?_map] at h2
   cases e:vs[i]? with
   | none=>rw [e] at h2; cases h2
   | some a=>rw [e] at h2; cases h2; rfl
  obtain ⟨u,hu,rv⟩:=r.get ha
  have hp:ps[i]?=some y:=by
   rw [<- S.pre,List.getElem?_take_of_lt (by omega)]; exact h1
  have ndP:ps.Nodup:=by rw [<- S.pre]; exact S.nd.sublist (List.take_sublist _ _)
  refine ⟨u,rv,?_⟩
  rcases S.par y (List.mem_of_getElem? hp) with k | k
  ·exact .inl ⟨k,zjp ndP hp hu k⟩
  ·obtain ⟨c,e⟩:=zlm (n:=s.heap.objs.size+1) k
   refine .inr ⟨.inl k,c,e,?_⟩
   have q:=x.cell y c e
   rw [zjB ndP hp hu (by show scope.names.lookup y ≠ _; rw [k]; decide)] at q
   exact q
 ·exact e0.hok.fresh (Nat.le_of_lt (x.above y c (PySem.mem_of_lookup h)))
 ·unfold start
  show _=N.length
  rw [List.length_append,List.length_map,List.length_replicate]
  omega
theorem zrp {CX:CXT} {P:Program} {w:World} {K:PySem.W.Frag} {mg:Str->Option Value} {base:Heap} {k:Nat} {f:Addr} {name qual:Str} {params:Arguments} {body:List Stmt} {scope:Scope} {dV kV doc pm cdv ct oc:Value} {an od:Option Addr}
  {osl:Array (Option Value)} {N ps:List Str} {sp:Sp} (lk:K.lookup f=some ⟨oc,od,.func (PySem.W.fnOf name qual params body scope dV kV doc pm an cdv ct),osl⟩) (hcd:PySem.W.codeIn K cdv qual=true) (S:FnScope N ps scope)
  (len:∀ vs H Q E,sp vs H Q E->vs.length=ps.length)
  (hbody:∀ (A:Around) (outer:List Env) (s:Shared) (H:Hp) (vs:List V) (Q:VK) (E:XK),Room k (A.deeper (envOfC qual scope s.heap.objs.size f cdv))->sp vs H Q E ->
   ∃ t,PSs (cxOf CX P w K mg base N qual scope f cdv A outer s H E) body t/\t { nx:=fun _ H'=>Q .non H',rt:=Q } (start N vs) H) :
  FnOk P w K mg base CX (k+1) f (PySem.W.fnOf name qual params body scope dV kV doc pm an cdv ct) ps sp:=by
 refine ⟨len,fun A outer s H args us vs Q E hr e0 hb r hsp=>?_⟩
 have hl:=len _ _ _ _ hsp
 have KX:K.In s.heap:=e0.mod.kin.keeps fun b o e=>(e0.bs b o e).1
 have lim:s.heap.NoLimit:=e0.mod.nolimit.keeps fun b o e=>(e0.bs b o e).1
 have hkind:∀ y ∈ ps.zip us,scope.names.lookup y.1=some .local \/ (scope.names.lookup y.1=some .cell/\((cellsFrom (s.heap.objs.size+1) scope.names []).lookup y.1).isSome=true):=fun ⟨n,v⟩ hy=>by
  rcases S.par n (List.of_mem_zip hy).1 with q | q
  ·exact .inl q
  ·exact .inr ⟨q,PySem.W.cellsFrom_some _ _ _ (.inl q)⟩
 refine codeAny_call_function hr.depth (KX _ _ lk) rfl S.co S.gen rfl (PySem.W.codeRec_of KX hcd) (hb _ _ _ _ ?_)
 refine wpAny_newFunctionEnv_cells S.kind hkind fun env he s1 x=>?_
 subst he
 refine ⟨lim.keeps x.toInCall.keep,codeAny_func ?_⟩
 obtain ⟨t,ht,hq⟩:=hbody A outer s H vs Q E (hr.deeper _) hsp
 have I:Inv (cxOf CX P w K mg base N qual scope f cdv A outer s H E) [] (start N vs) H s1:=zm3 S hr.hd e0 hl r x
 refine wpAny_mono (ht [] s1 (start N vs) H _ I hq) (fun fl s' hs=>?_) fun e s' hs=>hs
 have fin:∀ {σ':St} {H':Hp} {v:V} {u:Value},Inv (cxOf CX P w K mg base N qual scope f cdv A outer s H E) [] σ' H' s'->RelV v u->Q v H'->CE outer P w H s Q u s' :=
  fun {σ' H' v u} J rv q=>⟨v,H',J.os,J.bare,J.base,J.hok,rv,q⟩
 cases fl with
 | ret u =>
  obtain ⟨v,σ',H',J,rv,q⟩:=hs
  exact fin J rv q
 | next =>
  obtain ⟨σ',H',J,q⟩:=hs
  exact fin (v:=V.non) (u:=Value.none) J rfl q
 | brk =>
  obtain ⟨_,_,_,q⟩:=hs
  exact False.elim q
 | cont =>
  obtain ⟨_,_,_,q⟩:=hs
  exact False.elim q
section
variable {X:Cx} {x:Str} {p pos:Pos} {e:Expr} {es:List Expr} {t:TA} {id T:String} {r:List V->Hp->VK->Prop}
def tCB (r:List V->Hp->VK->Prop) (t:TA):TE:=fun σ H Q=>t σ H fun vs H1=>r vs H1 Q
theorem zlv (hc:CallR X (.builtin id) r) (hg:Gl X x) (hm:X.mg x=none) (hv:bootBuiltins x=some (.builtin id)) (ha:PA X (e :: es) t) (hn:x ≠ "__name__":=by decide) (hdb:(x == ("__debug__":Str))=false:=by decide)
  (he:starEach (e :: es) X.env=(false,eval e X.env) :: starEach es X.env:=by rfl) (hpl:(backTo pos (starEach es X.env)).any (·.1)=false:=by rfl):PE X (.Call (.Name x p) (e :: es) [] pos) (tCB r t):=by
 intro pins s σ H Q I h
 refine wpAny_Call_Name_kw (zik I hg hm hv ?_ hn hdb)
 exact PyProof.Rows.callWith_builtin1 (thn (ha pos pins s σ H _ I h) fun us s1 ⟨vs,H1,I1,r1,q1⟩=>hc pins s1 σ H1 vs us Q I1 r1 q1) he hpl
theorem zmO (hc:CallR X (.type T) r) (hg:Gl X x) (hm:X.mg x=none) (hv:bootBuiltins x=some (.type T)) (ha:PA X (e :: es) t) (hn:x ≠ "__name__":=by decide) (hdb:(x == ("__debug__":Str))=false:=by decide)
  (he:starEach (e :: es) X.env=(false,eval e X.env) :: starEach es X.env:=by rfl) (hpl:(backTo pos (starEach es X.env)).any (·.1)=false:=by rfl):PE X (.Call (.Name x p) (e :: es) [] pos) (tCB r t):=by
 intro pins s σ H Q I h
 refine wpAny_Call_Name_kw (zik I hg hm hv ?_ hn hdb)
 exact PyProof.Rows.callWith_type1 (thn (ha pos pins s σ H _ I h) fun us s1 ⟨vs,H1,I1,r1,q1⟩=>hc pins s1 σ H1 vs us Q I1 r1 q1) he hpl
end
end L2
namespace HT
open PySem PyProof.Rows
section
open PySem.SeqAt
open PySem.AutoSeq1 (wpAny_loadPart')
open PySem.MeetsSeq PySem.MeetsSeq2 PySem.MeetsSeq3
end
section
variable {prog:Program} {w:World} {A:Around} {E:Value->Shared->Prop} {s:Shared}
theorem cat_tup {t b:Addr} {vs ws:List Value} {Q:Value->Shared->Prop} (ht:IsTup s.heap t vs.toArray) (hb:IsTup s.heap b ws.toArray) (hv:vs ≠ [])
  (h1:ws=[]->Q (.ref t) s) (h2:ws ≠ []->Q (.ref s.heap.objs.size) { s with heap:=s.heap.push { cls:=.type "tuple",data:=.seq (vs++ws).toArray } })
  (hsz:vs.length+ws.length<=sizeLine):wpAny (model prog w) A (binaryOp .Add (.ref t) (.ref b)) Q E s:=by
 obtain ⟨⟨cls,dd,data,sl⟩,ho,hc,n,hd⟩:=id ht
 obtain ⟨⟨cls2,dd2,data2,sl2⟩,ho2,hc2,n2,hd2⟩:=id hb
 simp only at hc hd hc2 hd2
 subst hc hd hc2 hd2
 have e:vs.toArray++ws.toArray=(vs++ws).toArray:=by simp
 by_cases hw:ws=[]
 ·exact concat_meets ⟨_,ho,rfl⟩ ⟨_,ho2,rfl⟩ noFill_tuple_add seq_tuple_add PySem.F.slot_tuple_add PySem.F.entry_tuple_add (PySem.F.args_tuple_add_2 _ _)
   (tuple_addW1 t b vs.toArray ws.toArray n n2 dd dd2 sl sl2 (by simpa using hv) (by simp [hw])) ⟨ho,ho2,h1 hw⟩
 ·refine concat_meets ⟨_,ho,rfl⟩ ⟨_,ho2,rfl⟩ noFill_tuple_add seq_tuple_add PySem.F.slot_tuple_add PySem.F.entry_tuple_add (PySem.F.args_tuple_add_2 _ _)
   (tuple_addW2 t b vs.toArray ws.toArray n n2 dd dd2 sl sl2 (by simpa using hv) (by simpa using hw) (by rw [List.size_toArray,List.size_toArray]; exact hsz)) ⟨ho,ho2,?_⟩
  rw [e]
  exact h2 hw
def sIx (n d:Nat):Option Int->Nat
 | none=>d
 | some v=>if v < 0 then (v+(n:Int)).toNat else min v.toNat n
theorem zrE (n d:Nat) (hd:d<=n) (o:Option Int):sIx n d o<=n:=by
 cases o with
 | none=>exact hd
 | some v =>
  show (if v < 0 then (v+(n:Int)).toNat else min v.toNat n)<=n
  by_cases hv:v < 0
  ·rw [if_pos hv]; omega
  ·rw [if_neg hv]; exact Nat.min_le_right _ _
theorem zmH (v:Int) (n d:Nat):(if v < 0 then max (v+(n:Int)) 0 else min v (n:Int))=((sIx n d (some v):Nat):Int):=by
 show (if v < 0 then max (v+(n:Int)) 0 else min v (n:Int))=(((if v < 0 then (v+(n:Int)).toNat else min v.toNat n):Nat):Int)
 by_cases hv:v < 0
 ·simp only [if_pos hv]; omega
 ·simp only [if_neg hv]; omega
theorem zme (lo hi:Option Int) (n:Nat):Builtin.Slice.sliceAdjust lo hi 1 (n:Int)=(((sIx n 0 lo:Nat):Int),((sIx n n hi:Nat):Int)):=by
 have h1:¬ ((1:Int) < 0):=by omega
 unfold Builtin.Slice.sliceAdjust
 simp only [h1,if_false]
 refine Prod.ext ?_ ?_
 ·cases lo with
  | none=>rfl
  | some v=>exact zmH v n 0
 ·cases hi with
  | none=>rfl
  | some v=>exact zmH v n n
theorem zmc (i j:Nat):Builtin.Slice.slicePlaces (i:Int) (j:Int) 1=j - i:=by
 unfold Builtin.Slice.slicePlaces
 have h1:(1:Int) > 0:=by omega
 simp only [h1,if_true,Int.ediv_one]
 split <;> omega
theorem zil {v:Value} {o:Option Int} {Q:Option Int->Shared->Prop} (p:IsPart v o) (h:Q o s):wpAny (model prog w) A (Builtin.Slice.slicePartIndex v) Q E s:=by
 cases p with
 | none=>exact slicePart_none h
 | int i t=>exact slicePart_int h
theorem zgq {sl:Addr} {vl vu:Value} {lo hi:Option Int} {n:Nat} {Q:Int × Int × Nat->Shared->Prop} (hs:s.heap.IsSliceOf sl vl vu .none) (pl:IsPart vl lo) (pu:IsPart vu hi)
  (h:Q (((sIx n 0 lo:Nat):Int),1,sIx n n hi - sIx n 0 lo) s):wpAny (model prog w) A (Builtin.Slice.sliceApplied (.ref sl) (pure (n:Int))) Q E s:=by
 obtain ⟨os,hos,hcs,hds⟩:=id hs
 unfold Builtin.Slice.sliceApplied Builtin.Slice.sliceFields
 refine wpAny_bind (wpAny_bind (wpAny_field hos hds (x:=vl) rfl (wpAny_bind (wpAny_field hos hds (x:=vu) rfl (wpAny_bind (wpAny_field hos hds (x:=.none) rfl (wpAny_pure ?_)))))))
 refine wpAny_bind (slicePart_none ?_)
 show wpAny _ _ (if ((1:Int) == 0)=true then _ else _) _ _ s
 rw [if_neg (by decide)]
 refine wpAny_bind (zil pl (wpAny_bind (zil pu (wpAny_bind (wpAny_pure ?_)))))
 show wpAny _ _ (match Builtin.Slice.sliceAdjust lo hi 1 (n:Int) with | (lo,hi)=>pure (lo,(1:Int),Builtin.Slice.slicePlaces lo hi 1)) _ _ s
 rw [zme lo hi n]
 show wpAny _ _ (pure (((sIx n 0 lo:Nat):Int),(1:Int),Builtin.Slice.slicePlaces ((sIx n 0 lo:Nat):Int) ((sIx n n hi:Nat):Int) 1)) _ _ s
 rw [zmc]
 exact wpAny_pure h
theorem zod (xs:Array Value) (i k:Nat):((List.range k).filterMap fun (m:Nat)=>xs[((i:Int)+(m:Int) * 1).toNat]?).toArray=((xs.toList.drop i).take k).toArray:=by
 have e:(fun (m:Nat)=>xs[((i:Int)+(m:Int) * 1).toNat]?)=fun m=>xs[i+m]?:=by
  funext m
  have:((i:Int)+(m:Int) * 1).toNat=i+m:=by omega
  rw [this]
 rw [e]
 have:=pick_run xs i k
 rw [List.filterMap_map] at this
 have e2:((fun x=>xs[x]?) ∘ fun x=>i+x)=fun m=>xs[i+m]?:=rfl
 rw [e2] at this
 rw [this]
theorem getItem_tuple_cut {t sl:Addr} {items:Array Value} {vl vu:Value} {lo hi:Option Int} {Q:Value->Shared->Prop} (ht:IsTup s.heap t items) (hs:s.heap.IsSliceOf sl vl vu .none) (pl:IsPart vl lo) (pu:IsPart vu hi)
  (hw:¬ (sIx items.size 0 lo=0/\sIx items.size items.size hi=items.size))
  (h:Q (.ref s.heap.objs.size) { s with heap:=s.heap.push { cls:=.type "tuple",data:=.seq ((items.toList.drop (sIx items.size 0 lo)).take (sIx items.size items.size hi - sIx items.size 0 lo)).toArray } })
  (hsz:items.size<=sizeLine):wpAny (model prog w) A (getItem (.ref t) (.ref sl)) Q E s:=by
 have htake:sizeOk (.seq ((items.toList.drop (sIx items.size 0 lo)).take (sIx items.size items.size hi - sIx items.size 0 lo)).toArray):=by
  show ((items.toList.drop (sIx items.size 0 lo)).take (sIx items.size items.size hi - sIx items.size 0 lo)).toArray.size<=sizeLine
  rw [List.size_toArray,List.length_take,List.length_drop,Array.length_toList]
  omega
 have hj:sIx items.size items.size hi<=items.size:=zrE _ _ (Nat.le_refl _) hi
 obtain ⟨os,hos,hcs,hds⟩:=id hs
 have hTs:s.TypeIs (.ref sl) "slice":=⟨os,hos,hcs⟩
 unfold getItem
 try with_reducible refine wpAny_holding ?_
 first | refine wpAny_bind (wpAny_pure ?_) | skip
 refine wpAny_bind (wpAny_sequenceKey ht.typeIs (by decide) ?_)
 refine wpAny_bind (wpAny_callSpecial?_slot (name:=Str.ofString "__getitem__") ht.typeIs PyProof.Rows.slot_tuple_getitem
  (wpAny_call_entry PyProof.Rows.slot_tuple_getitem ht.typeIs entry_tuple_getitem ?_ (args_tuple_getitem _ _)))
 show wpAny _ _ (Builtin.Tuple.tupleItemsOf (.ref t) >>= _) _ _ s
 refine wpAny_bind (tupleItemsOf_ ht ?_)
 refine wpAny_bind (wpAny_typeOf hTs ?_)
 rw [if_pos (by decide)]
 refine wpAny_bind (zgq hs pl pu ?_)
 have hno:¬ ((((sIx items.size 0 lo:Nat):Int) == 0 && (1:Int) == 1 && (sIx items.size items.size hi - sIx items.size 0 lo) == items.size)=true):=by
  intro q
  rw [Bool.and_eq_true,Bool.and_eq_true] at q
  have q1:((sIx items.size 0 lo:Nat):Int)=0:=eq_of_beq q.1.1
  have q2:sIx items.size items.size hi - sIx items.size 0 lo=items.size:=eq_of_beq q.2
  exact hw ⟨by omega,by omega⟩
 show wpAny _ _ (if (((sIx items.size 0 lo:Nat):Int) == 0 && (1:Int) == 1 && (sIx items.size items.size hi - sIx items.size 0 lo) == items.size)=true then _ else _) _ _ s
 rw [if_neg hno,zod]
 first
  | exact wpAny_bind (m:=Builtin.Tuple.tupleExact _) (wpAny_newObj_type (wpAny_pure ⟨_,rfl,wpAny_pure h⟩) htake)
  | exact wpAny_bind (m:=Builtin.Tuple.tupleExact _) (wpAny_newObj_type (wpAny_bind (wpAny_pure (wpAny_pure ⟨_,rfl,wpAny_pure h⟩))) htake)
  | exact wpAny_bind (wpAny_bind (m:=Builtin.Tuple.tupleExact _) (wpAny_newObj_type (wpAny_pure (wpAny_pure ⟨_,rfl,wpAny_pure h⟩)) htake))
  | exact wpAny_bind (wpAny_bind (m:=Builtin.Tuple.tupleExact _) (wpAny_newObj_type (wpAny_pure ⟨_,rfl,wpAny_pure h⟩) htake))
end
end HT
namespace L2
open PySem PySem.Spec PyProof.Rows
abbrev TO:=St->Hp->(Option Int->Hp->Prop)->Prop
def PO (X:Cx) (e:Option Expr) (t:TO):Prop :=
 ∀ (pins:List (Addr × Obj)) (s:Shared) (σ:St) (H:Hp) (Q:Option Int->Hp->Prop),Inv X pins σ H s->t σ H Q ->
  wpAny (model X.prog X.w) X.A (evalPart e X.env) (fun u s'=>∃ o H',Inv X pins σ H' s'/\IsPart u o/\Q o H') X.xe s
def tNoPart:TO:=fun _ H Q=>Q none H
theorem zlL {ns:List Int}:∀ {us:List Value},Vals (ns.map V.int) us->IntsAre us ns:=by
 induction ns with
 | nil=>intro us r; rw [List.map_nil] at r; cases r; exact .nil
 | cons n ns ih =>
  intro us r
  rw [List.map_cons] at r
  cases r with
  | cons r1 r2 =>
   obtain ⟨t,e⟩:=r1
   subst e
   exact .cons n t (ih r2)
section
variable {X:Cx} {e:Expr} {te:TE} {lo hi:Option Expr} {tl th:TO} {pos p2:Pos}
theorem zqv:PO X none tNoPart:=by
 intro pins s σ H Q I h
 rw [evalPart_none]
 exact wpAny_pure ⟨none,H,I,.none,h⟩
def SlR (X:Cx) (r:V->Option Int->Option Int->Hp->VK->Prop):Prop :=
 ∀ (pins:List (Addr × Obj)) (s:Shared) (σ:St) (H:Hp) (x:V) (v vl vu:Value) (lo hi:Option Int) (sl:Addr) (Q:VK),Inv X pins σ H s->RelV x v->s.heap.IsSliceOf sl vl vu .none->IsPart vl lo->IsPart vu hi->r x lo hi H Q ->
  ∃ T id,typeLookup (.type T) "__getitem__"=pure (some (.builtin id))/\s.TypeIs v T/\wpAny (model X.prog X.w) X.A (getItem v (.ref sl)) (EP X pins σ Q) X.xe s
def tSl (r:V->Option Int->Option Int->Hp->VK->Prop) (te:TE) (tl th:TO):TE:=fun σ H Q=>te σ H fun x H1=>tl σ H1 fun l H2=>th σ H2 fun u H3=>r x l u H3 Q
theorem zoq {r:V->Option Int->Option Int->Hp->VK->Prop} (hr:SlR X r) (he:PE X e te) (hl:PO X lo tl) (hu:PO X hi th):PE X (.Subscript e (.Slice lo hi none p2) pos) (tSl r te tl th):=by
 intro pins s σ H Q I h
 refine Subscript_ (thn (he pins s σ H _ I h) fun v s1 ⟨x,H1,I1,r1,q1⟩=>?_)
 refine wpAny_Slice (thn (hl pins s1 σ H1 _ I1 q1) fun vl s2 ⟨l,H2,I2,pl,q2⟩=>thn (hu pins s2 σ H2 _ I2 q2) fun vu s3 ⟨u,H3,I3,pu,q3⟩=>?_)
 rw [evalPart_none]
 refine wpAny_pure ?_
 have I4:Inv X pins σ H3 { s3 with heap:=s3.heap.push { cls:=.type "slice",data:=.fields #[vl,vu,.none] } }:=I3.kept (t':=s3.toks) fun b ob q=>Heap.get?_push_of_some _ q
 obtain ⟨T,id,hT,ht,hg⟩:=hr pins { s3 with heap:=s3.heap.push { cls:=.type "slice",data:=.fields #[vl,vu,.none] } } σ H3 x v vl vu l u s3.heap.objs.size Q I4 r1 (Heap.IsSliceOf.new ..) pl pu q3
 show wpAny (model X.prog X.w) X.A (subscriptTail e (.Slice lo hi none p2) v (.ref s3.heap.objs.size)) (EP X pins σ Q) X.xe { s3 with heap:=s3.heap.push { cls:=.type "slice",data:=.fields #[vl,vu,.none] } }
 exact tail_any (ops:=[.ref s3.heap.objs.size,v]) ht hT hg (by with_unfolding_all rfl)
def cutV (xs:List V) (lo hi:Option Int):List V:=(xs.drop (HT.sIx xs.length 0 lo)).take (HT.sIx xs.length xs.length hi - HT.sIx xs.length 0 lo)
theorem zhC (xs:List V) (lo hi:Option Int):(cutV xs lo hi).length<=xs.length:=by
 unfold cutV
 rw [List.length_take,List.length_drop]
 omega
def rSlT (K:PySem.W.Frag):V->Option Int->Option Int->Hp->VK->Prop:=fun x lo hi H Q=>∃ a xs,x=.ref a/\SqT K H a xs /\
 ¬ (HT.sIx xs.length 0 lo=0/\HT.sIx xs.length xs.length hi=xs.length)/\∀ p,H p=none->Q (.ref p) (upd H p (.tup (cutV xs lo hi)))
theorem zrl:SlR X (rSlT X.K):=by
 intro pins s σ H x v vl vu lo hi sl Q I rx hs pl pu h
 obtain ⟨a,xs,rfl,hx,hw,q⟩:=h
 cases rx
 obtain ⟨its,r,ht,hz⟩:=I.tuple hx
 have hlen:its.toArray.size=xs.length:=by rw [List.size_toArray]; exact r.length.symm
 refine ⟨"tuple",_,PyProof.Rows.slot_tuple_getitem.lookup,ht.typeIs,?_⟩
 refine HT.getItem_tuple_cut ht hs pl pu (by rw [hlen]; exact hw) ?_ (by rw [hlen]; exact hz)
 rw [hlen]
 refine ⟨.ref s.heap.objs.size,_,I.laid (t':=s.toks) (o:=.tup (cutV xs lo hi)) (fun b ob q=>Heap.get?_push_of_some _ q) (Nat.le_refl _) ?_,rfl,q _ (I.hok.fresh (Nat.le_refl _))⟩
 exact ⟨Nat.le_trans (zhC xs lo hi) hz,_,(r.drop (HT.sIx xs.length 0 lo)).take (HT.sIx xs.length xs.length hi - HT.sIx xs.length 0 lo),IsTup.new _ _⟩
def rCatT (K:PySem.W.Frag):R2:=fun x y H Q=>∃ a b xs ys,x=.ref a/\y=.ref b/\SqT K H a xs/\SqT K H b ys/\xs ≠ []/\xs.length+ys.length<=sizeLine /\
 (ys=[]->Q (.ref a) H)/\(ys ≠ []->∀ p,H p=none->Q (.ref p) (upd H p (.tup (xs++ys))))
theorem Vals.nil_iff {xs:List V} {us:List Value} (r:Vals xs us):us=[] ↔ xs=[]:=by
 cases r with
 | nil=>simp
 | cons _ _=>simp
theorem zqK:OpR X (binaryOp .Add) (rCatT X.K):=by
 intro pins s σ H x y v u Q I rx ry h
 obtain ⟨a,b,xs,ys,rfl,rfl,ha,hb,hx,hz,q1,q2⟩:=h
 cases rx
 cases ry
 obtain ⟨its,r1,p1,_⟩:=I.tuple ha
 obtain ⟨its2,r2,p2,_⟩:=I.tuple hb
 refine HT.cat_tup p1 p2 (fun z=>hx (r1.nil_iff.mp z)) (fun z=>⟨.ref a,H,I,rfl,q1 (r2.nil_iff.mp z)⟩) (fun z=>?_) (by rw [<- r1.length,<- r2.length]; exact hz)
 refine ⟨.ref s.heap.objs.size,_,I.laid (t':=s.toks) (o:=.tup (xs++ys)) (fun b ob q=>Heap.get?_push_of_some _ q) (Nat.le_refl _) ?_,rfl,q2 (fun w=>z (r2.nil_iff.mpr w)) _ (I.hok.fresh (Nat.le_refl _))⟩
 exact ⟨by rw [List.length_append]; exact hz,_,r1.append r2,IsTup.new _ _⟩
end
def ixN (n:Nat) (i:Int):Option Nat:=if 0<=i then (if i < n then some i.toNat else none) else if -(n:Int)<=i then some (i+n).toNat else none
def atI {α:Type} (xs:List α) (i:Int):Option α:=(ixN xs.length i).bind fun j=>xs[j]?
theorem zmo {n:Nat} {i:Int} {j:Nat} (h:ixN n i=some j):seqIndex? i n=some j/\j < n/\-(n:Int)<=i/\i < n:=by
 unfold ixN at h
 by_cases h0:0<=i
 ·rw [if_pos h0] at h
  by_cases h1:i < n
  ·rw [if_pos h1] at h
   have e:i.toNat=j:=Option.some.inj h
   exact ⟨by rw [seqIndex_of h0 h1,e],by omega,by omega,h1⟩
  ·rw [if_neg h1] at h; cases h
 ·rw [if_neg h0] at h
  by_cases h1:-(n:Int)<=i
  ·rw [if_pos h1] at h
   have e:(i+n).toNat=j:=Option.some.inj h
   exact ⟨by rw [seqIndex_neg (by omega) h1,e],by omega,h1,by omega⟩
  ·rw [if_neg h1] at h; cases h
theorem zkw {α:Type} {xs:List α} {i:Int} {v:α} (h:atI xs i=some v):∃ j,seqIndex? i xs.length=some j/\xs[j]?=some v/\j < xs.length/\-(xs.length:Int)<=i/\i < xs.length:=by
 unfold atI at h
 cases e:ixN xs.length i with
 | none=>rw [e] at h; cases h
 | some j =>
  rw [e] at h
  obtain ⟨h1,h2,h3,h4⟩:=zmo e
  exact ⟨j,h1,h,h2,h3,h4⟩
def PlainIx (b:Expr):Prop:=∀ o i,subscripted b false o i=operate [o,i] (getItem o i)
def IxR (X:Cx) (r:R2):Prop :=
 ∀ (value slice:Expr) (pins:List (Addr × Obj)) (s:Shared) (σ:St) (H:Hp) (x y:V) (v u:Value) (Q:VK),Inv X pins σ H s->RelV x v->RelV y u->r x y H Q ->
  subscripted slice false v u=operate [v,u] (getItem v u)->wpAny (model X.prog X.w) X.A (subscriptTail value slice v u) (EP X pins σ Q) X.xe s
def MtR (X:Cx) (id:String) (r:V->List V->Hp->VK->Prop):Prop :=
 ∀ (pins:List (Addr × Obj)) (s:Shared) (σ:St) (H:Hp) (x:V) (xs:List V) (v:Value) (us:List Value) (Q:VK),Inv X pins σ H s->RelV x v->Vals xs us->r x xs H Q ->
  wpAny (model X.prog X.w) X.A (call (.builtin id) (v :: us)) (EP X pins σ Q) X.xe s
section
variable {X:Cx} {a b:Expr} {ta tb:TE} {pos:Pos}
theorem IxR.or {r r':R2} (h:IxR X r) (h':IxR X r'):IxR X (fun x y H Q=>r x y H Q \/ r' x y H Q):=by
 intro value slice pins s σ H x y v u Q I rx ry q hs
 rcases q with q | q
 ·exact h value slice pins s σ H x y v u Q I rx ry q hs
 ·exact h' value slice pins s σ H x y v u Q I rx ry q hs
theorem zsP {r:R2} (hr:IxR X r) (ha:PE X a ta) (hb:PE X b tb) (hs:PlainIx b):PE X (.Subscript a b pos) (tOp r ta tb):=by
 intro pins s σ H Q I h
 exact Subscript_ (binT ha hb I h fun v u s2 x y H2 I2 rx ry q=>hr a b pins s2 σ H2 x y v u Q I2 rx ry q (hs _ _))
def rIxL (K:PySem.W.Frag):R2:=fun x y H Q=>∃ p xs i v,x=.ref p/\y=.int i/\SqL K H p xs/\atI xs i=some v/\Q v H
def rIxT (K:PySem.W.Frag):R2:=fun x y H Q=>∃ p xs i v,x=.ref p/\y=.int i/\SqT K H p xs/\atI xs i=some v/\Q v H
def rIxS:R2:=fun x y H Q=>∃ z i c,x=.str z/\y=.int i/\z.length<=sizeLine/\atI z.cps.toList i=some c/\Q (.str ⟨#[c]⟩) H
theorem ix_list:IxR X (rIxL X.K):=by
 intro value slice pins s σ H x y v u Q I rx ry h hs
 obtain ⟨p,xs,i,z,rfl,rfl,hq,he,q⟩:=h
 cases rx
 obtain ⟨t,rfl⟩:=ry
 obtain ⟨its,r,pl,hz⟩:=I.list hq
 obtain ⟨j,h1,h2,h3,h4,h5⟩:=zkw he
 obtain ⟨w,ew,rw'⟩:=r.get h2
 have hl:=r.length
 have hn:=line63
 have fin:EP X pins σ Q w s:=⟨z,H,I,rw',q⟩
 by_cases h0:0<=i
 ·have hj:i.toNat=j:=by
   rw [seqIndex_of h0 h5] at h1
   exact Option.some.inj h1
  exact item_listR pl.isList h0 (by omega) (by rw [hj]; simpa using ew) fin hs
 ·have hj:(i+(its.toArray.size:Int)).toNat=j:=by
   rw [seqIndex_neg (by omega) h4] at h1
   rw [List.size_toArray,<- hl]
   exact Option.some.inj h1
  exact subscriptTail_builtinR (x:=w) pl.isList.typeIs slot_list_getitem.lookup
   (wpAny_getItem_list_neg (Q:=fun r s'=>r=w/\EP X pins σ Q r s') pl.isList (by omega) (by rw [List.size_toArray] <;> omega) (by omega) (by rw [hj]; simpa using ew) ⟨rfl,fin⟩) hs
theorem ix_tup:IxR X (rIxT X.K):=by
 intro value slice pins s σ H x y v u Q I rx ry h hs
 obtain ⟨p,xs,i,z,rfl,rfl,hq,he,q⟩:=h
 cases rx
 obtain ⟨t,rfl⟩:=ry
 obtain ⟨its,r,pl,hz⟩:=I.tuple hq
 obtain ⟨j,h1,h2,h3,h4,h5⟩:=zkw he
 obtain ⟨w,ew,rw'⟩:=r.get h2
 have hl:=r.length
 have hn:=line63
 have fin:EP X pins σ Q w s:=⟨z,H,I,rw',q⟩
 exact subscriptTail_builtinR (x:=w) pl.typeIs slot_tuple_getitem.lookup
  (getItem_tuple (j:=j) (Q:=fun r s'=>r=w/\EP X pins σ Q r s') pl (by omega) (by omega) (by rw [List.size_toArray,<- hl]; exact h1) (by simpa using ew) ⟨rfl,fin⟩) hs
theorem zsj:IxR X rIxS:=by
 intro value slice pins s σ H x y v u Q I rx ry h hs
 obtain ⟨z,i,c,rfl,rfl,hz,he,q⟩:=h
 obtain ⟨t,rfl⟩:=rx
 obtain ⟨t',rfl⟩:=ry
 obtain ⟨j,h1,h2,h3,h4,h5⟩:=zkw he
 have hl:z.cps.toList.length=z.length:=by simp [Str.length]
 rw [hl] at h1 h4 h5
 have hn:=line63
 exact tail_any (typeIs_str s z t) slot_str_getitem.lookup (getItem_str (c:=c) (by
  have e1:decide (i < -(2 ^ 63:Int))=false:=decide_eq_false (by omega)
  have e2:decide (i ≥ 2 ^ 63)=false:=decide_eq_false (by omega)
  rw [e1,e2,Bool.or_false]) (by rw [h1]; simpa using h2) ⟨.str ⟨#[c]⟩,H,I.tok _,⟨_,rfl⟩,q⟩) hs
def rIx (K:PySem.W.Frag):R2:=fun x y H Q=>rIxL K x y H Q \/ rIxT K x y H Q \/ rIxS x y H Q
theorem zlq:IxR X (rIx X.K):=ix_list.or (ix_tup.or zsj)
theorem zmi (its:List Value) (n j:Nat) (u:Value):Obj.mapSeq (·.setIfInBounds j u) { cls:=.type "list",data:=.seq its.toArray n }={ cls:=.type "list",data:=.seq (its.set j u).toArray n }:=by
 simp [Obj.mapSeq]
theorem Inv.lst {pins:List (Addr × Obj)} {σ:St} {H:Hp} {s:Shared} {p:Addr} {xs:List V} (I:Inv X pins σ H s) (h:H p=some (.lst xs)) :
  ∃ (its:List Value) (n:Nat),Vals xs its/\s.heap.get? p=some { cls:=.type "list",data:=.seq its.toArray n }/\xs.length<=sizeLine:=by
 obtain ⟨z,its,n,r,e⟩:=I.hok p _ h
 exact ⟨its,n,r,e,z⟩
theorem Inv.lstUpd {pins:List (Addr × Obj)} {σ:St} {H:Hp} {s:Shared} {p:Addr} {xs ys:List V} {its its':List Value} {n n':Nat} {f:Obj->Obj} (I:Inv X pins σ H s) (h:H p=some (.lst xs))
  (ho:s.heap.get? p=some { cls:=.type "list",data:=.seq its.toArray n }) (hf:f { cls:=.type "list",data:=.seq its.toArray n }={ cls:=.type "list",data:=.seq its'.toArray n' }) (r:Vals ys its') (hz:ys.length<=sizeLine) (t:Nat) :
  Inv X pins σ (upd H p (.lst ys)) { s with heap:=s.heap.update p f,toks:=t }:=by
 have e:(s.heap.update p f).get? p=some { cls:=.type "list",data:=.seq its'.toArray n' }:=by
  rw [Heap.get?_update_self f ho (by rw [hf] <;> rfl),hf]
 refine I.write (x:=p) (e:=p) (by rw [h]; trivial) (.inl rfl) (fun b u hb q=>(Heap.get?_update_other _ _ (Ne.symm hb)).trans q) ⟨_,e⟩ ?_
 exact ⟨hz,its',n',r,e⟩
def rSetL:V->V->V->Hp->(Hp->Prop)->Prop:=fun o i v H Q=>∃ p xs k j,o=.ref p/\i=.int k/\H p=some (.lst xs)/\ixN xs.length k=some j/\Q (upd H p (.lst (xs.set j v)))
theorem zde:PSet X rSetL:=by
 intro pins s σ H o i v ov iv u Q I ro ri rv h
 obtain ⟨p,xs,k,j,rfl,rfl,hp,hj,q⟩:=h
 cases ro
 obtain ⟨t,rfl⟩:=ri
 obtain ⟨its,n,r,ho,hz⟩:=I.lst hp
 obtain ⟨h1,h2,h3,h4⟩:=zmo hj
 have hl:=r.length
 have hn:=line63
 have I':Inv X pins σ (upd H p (.lst (xs.set j v))) { s with heap:=s.heap.update p (Obj.mapSeq (·.setIfInBounds j u)) } :=
  I.lstUpd hp ho (zmi its n j u) (r.set rv j) (by rw [List.length_set]; exact hz) s.toks
 by_cases h0:0<=k
 ·have hk:k.toNat=j:=by
   rw [seqIndex_of h0 h4] at h1
   exact Option.some.inj h1
  exact PySem.W.ki_setAt ho h0 (by omega) (by rw [List.size_toArray,<- hl]; exact h4) (by rw [hk]; exact ⟨_,I',q⟩)
 ·have hk:(k+(its.toArray.size:Int)).toNat=j:=by
   rw [seqIndex_neg (by omega) h3] at h1
   rw [List.size_toArray,<- hl]
   exact Option.some.inj h1
  exact PySem.W.ki_setBack ho (by omega) (by rw [List.size_toArray,<- hl]; exact h3) (by omega) (by rw [hk]; exact ⟨_,I',q⟩)
theorem zjO (lo hi:Option Int) (n:Nat):(sliceBounds lo hi none n).1=((HT.sIx n 0 lo:Nat):Int)/\(sliceBounds lo hi none n).2.1=((HT.sIx n n hi:Nat):Int)/\(sliceBounds lo hi none n).2.2=1:=by
 refine ⟨?_,?_,rfl⟩
 ·cases lo with
  | none=>simp [sliceBounds,HT.sIx]
  | some i =>
   simp only [sliceBounds,HT.sIx,Option.getD_none,show (1:Int) > 0 by decide,if_true]
   by_cases h:i < 0
   ·simp only [h,if_true] <;> omega
   ·simp only [h,if_false] <;> omega
 ·cases hi with
  | none=>simp [sliceBounds,HT.sIx]
  | some i =>
   simp only [sliceBounds,HT.sIx,Option.getD_none,show (1:Int) > 0 by decide,if_true]
   by_cases h:i < 0
   ·simp only [h,if_true] <;> omega
   ·simp only [h,if_false] <;> omega
theorem zix (its:List Value) (lo hi:Option Int):slicePick its.toArray lo hi none=((its.drop (HT.sIx its.length 0 lo)).take (HT.sIx its.length its.length hi - HT.sIx its.length 0 lo)).toArray:=by
 obtain ⟨h1,h2,h3⟩:=zjO lo hi its.toArray.size
 unfold slicePick
 rw [h1,h2,h3]
 simp only [sliceRange_one,pick_run,List.size_toArray] <;> rfl
def rSlL (K:PySem.W.Frag):V->Option Int->Option Int->Hp->VK->Prop:=fun x lo hi H Q=>∃ a xs,x=.ref a/\SqL K H a xs/\∀ p,H p=none->Q (.ref p) (upd H p (.lst (cutV xs lo hi)))
theorem znt:SlR X (rSlL X.K):=by
 intro pins s σ H x v vl vu lo hi sl Q I rx hs pl pu h
 obtain ⟨a,xs,rfl,hx,q⟩:=h
 cases rx
 obtain ⟨its,r,ht,hz⟩:=I.list hx
 have hlen:=r.length
 refine ⟨"list",_,slot_list_getitem.lookup,ht.isList.typeIs,?_⟩
 refine wpAny_getItem_list_slice ht.isList hs pl pu .none (by simp) ?_ (by rw [List.size_toArray] <;> omega)
 rw [zix,<- hlen]
 refine ⟨.ref s.heap.objs.size,_,I.laid (t':=s.toks) (o:=.lst (cutV xs lo hi)) (fun b ob q=>Heap.get?_push_of_some _ q) (Nat.le_refl _) ?_,rfl,q _ (I.hok.fresh (Nat.le_refl _))⟩
 exact ⟨Nat.le_trans (zhC xs lo hi) hz,_,0,(r.drop (HT.sIx xs.length 0 lo)).take (HT.sIx xs.length xs.length hi - HT.sIx xs.length 0 lo),Heap.get?_push_size _ rfl⟩
def flatV:V->Bool
 | .non=>true
 | .bl _=>true
 | .int _=>true
 | .str _=>true
 | _=>false
def eqV:V->V->Bool
 | .non,.non=>true
 | .bl a,.bl b=>a == b
 | .bl a,.int b=>(if a then 1 else 0) == b
 | .int a,.bl b=>a == (if b then 1 else 0)
 | .int a,.int b=>a == b
 | .str a,.str b=>a == b
 | _,_=>false
theorem zq7 {A:Around} {s:Shared} {y x:V} {u v:Value} (ry:RelV y u) (rx:RelV x v) (fy:flatV y=true) (fx:flatV x=true):SeqAt.EqAt A s u v (eqV y x):=by
 cases y with
 | non =>
  cases ry
  cases x with
  | non=>cases rx; exact SeqAt.EqAt.same _
  | bl b=>cases rx; exact SeqAt.EqAt.none_bool b
  | int b=>obtain ⟨t,rfl⟩:=rx; exact SeqAt.EqAt.none_int b t
  | str b=>obtain ⟨t,rfl⟩:=rx; exact SeqAt.EqAt.none_str b t
  | _=>exact absurd (show false=true from fx) Bool.false_ne_true
 | bl a =>
  cases ry
  cases x with
  | non=>cases rx; exact SeqAt.EqAt.bool_none a
  | bl b=>cases rx; exact SeqAt.EqAt.bool_bool a b
  | int b=>obtain ⟨t,rfl⟩:=rx; exact SeqAt.EqAt.bool_int a b t
  | str b=>obtain ⟨t,rfl⟩:=rx; exact SeqAt.EqAt.bool_str a b t
  | _=>exact absurd (show false=true from fx) Bool.false_ne_true
 | int a =>
  obtain ⟨t',rfl⟩:=ry
  cases x with
  | non=>cases rx; exact SeqAt.EqAt.int_none a t'
  | bl b=>cases rx; exact SeqAt.EqAt.int_bool a t' b
  | int b=>obtain ⟨t,rfl⟩:=rx; exact SeqAt.EqAt.int_int a t' b t
  | str b=>obtain ⟨t,rfl⟩:=rx; exact SeqAt.EqAt.int_str a t' b t
  | _=>exact absurd (show false=true from fx) Bool.false_ne_true
 | str a =>
  obtain ⟨t',rfl⟩:=ry
  cases x with
  | non=>cases rx; exact SeqAt.EqAt.str_none a t'
  | bl b=>cases rx; exact SeqAt.EqAt.str_bool a t' b
  | int b=>obtain ⟨t,rfl⟩:=rx; exact SeqAt.EqAt.str_int a t' b t
  | str b=>obtain ⟨t,rfl⟩:=rx; exact SeqAt.EqAt.str_str a t' b t
  | _=>exact absurd (show false=true from fx) Bool.false_ne_true
 | _=>exact absurd (show false=true from fy) Bool.false_ne_true
def eqU (x:V) (u:Value):Bool:=match u with
 | .none=>eqV .non x
 | .bool b=>eqV (.bl b) x
 | .int i _=>eqV (.int i) x
 | .str z _=>eqV (.str z) x
 | _=>false
theorem zpk {x y:V} {u:Value} (r:RelV y u) (f:flatV y=true):eqU x u=eqV y x:=by
 cases y with
 | non=>cases r; rfl
 | bl b=>cases r; rfl
 | int i=>obtain ⟨t,rfl⟩:=r; rfl
 | str z=>obtain ⟨t,rfl⟩:=r; rfl
 | _=>exact absurd (show false=true from f) Bool.false_ne_true
theorem zg0 {x:V}:∀ {xs:List V} {us:List Value},Vals xs us->xs.all flatV=true->us.any (eqU x)=xs.any fun y=>eqV y x
 | _,_,.nil,_=>rfl
 | y :: xs,u :: us,.cons r t,f=>by
  rw [List.all_cons,Bool.and_eq_true] at f
  rw [List.any_cons,List.any_cons,zpk r f.1,zg0 t f.2]
theorem zft {A:Around} {s:Shared} {x:V} {v:Value} (rx:RelV x v) (fx:flatV x=true):∀ {xs:List V} {us:List Value},Vals xs us->xs.all flatV=true->∀ u ∈ us,SeqAt.EqAt A s u v (eqU x u)
 | _,_,.nil,_=>fun u hu=>by cases hu
 | y :: xs,u :: us,.cons r t,f=>fun u' hu=>by
  rw [List.all_cons,Bool.and_eq_true] at f
  rcases List.mem_cons.mp hu with rfl | hu
  ·rw [zpk r f.1]; exact zq7 r rx f.1 fx
  ·exact zft rx fx t f.2 u' hu
def inV (x:V) (xs:List V):Bool:=xs.any fun y=>eqV y x
def rIn (K:PySem.W.Frag) (neg:Bool):R2:=fun x y H Q=>∃ p xs,y=.ref p/\(SqL K H p xs \/ SqT K H p xs)/\flatV x=true/\xs.all flatV=true/\Q (.bl (if neg then !inV x xs else inV x xs)) H
theorem zjS:OpR X (compareOp .In) (rIn X.K false):=by
 intro pins s σ H x y v u Q I rx ry h
 obtain ⟨p,xs,rfl,hq,fx,fs,q⟩:=h
 cases ry
 rcases hq with hq | hq
 ·obtain ⟨its,r,pl,hz⟩:=I.list hq
  refine SeqAt.in_listAt (eqU x) pl.isList (fun w hw=>zft rx fx r fs w (by simpa using hw)) ⟨.bl _,H,I,rfl,?_⟩
  rw [show its.toArray.any (eqU x)=its.any (eqU x) by simp,zg0 r fs]
  exact q
 ·obtain ⟨its,r,pl,hz⟩:=I.tuple hq
  refine SeqAt.in_tupleAt (eqU x) pl (fun w hw=>zft rx fx r fs w (by simpa using hw)) ⟨.bl _,H,I,rfl,?_⟩
  rw [show its.toArray.any (eqU x)=its.any (eqU x) by simp,zg0 r fs]
  exact q
theorem zgb:OpR X (compareOp .NotIn) (rIn X.K true):=by
 intro pins s σ H x y v u Q I rx ry h
 obtain ⟨p,xs,rfl,hq,fx,fs,q⟩:=h
 cases ry
 rcases hq with hq | hq
 ·obtain ⟨its,r,pl,hz⟩:=I.list hq
  refine SeqAt.notIn_listAt (eqU x) pl.isList (fun w hw=>zft rx fx r fs w (by simpa using hw)) ⟨.bl _,H,I,rfl,?_⟩
  rw [show its.toArray.any (eqU x)=its.any (eqU x) by simp,zg0 r fs]
  exact q
 ·obtain ⟨its,r,pl,hz⟩:=I.tuple hq
  refine SeqAt.notIn_tupleAt (eqU x) pl (fun w hw=>zft rx fx r fs w (by simpa using hw)) ⟨.bl _,H,I,rfl,?_⟩
  rw [show its.toArray.any (eqU x)=its.any (eqU x) by simp,zg0 r fs]
  exact q
theorem zjZ:CallR X (.builtin "len") (fun xs H Q=>∃ p ys,xs=[.ref p]/\(SqL X.K H p ys \/ SqT X.K H p ys)/\Q (.int ys.length) H):=by
 intro pins s σ H xs us Q I r h
 obtain ⟨p,ys,rfl,hq,q⟩:=h
 obtain ⟨u,rfl,rx⟩:=vals1 r
 cases rx
 have hn:=line63
 rcases hq with hq | hq
 ·obtain ⟨its,r',pl,hz⟩:=I.list hq
  have hlen:=r'.length
  exact Calls.call_len_list pl.isList (by simp only [List.size_toArray] <;> omega) ⟨.int ys.length,H,I.tok _,⟨s.toks+1,by rw [List.size_toArray,hlen]⟩,q⟩
 ·obtain ⟨its,r',pl,hz⟩:=I.tuple hq
  have hlen:=r'.length
  exact len_tuple pl (by simp only [List.size_toArray] <;> omega) ⟨.int ys.length,H,I.tok _,⟨s.toks+1,by rw [List.size_toArray,hlen]⟩,q⟩
theorem zj7:CallR X (.builtin "len") (fun xs H Q=>∃ z,xs=[.str z]/\z.length<=sizeLine/\Q (.int z.length) H):=by
 intro pins s σ H xs us Q I r h
 obtain ⟨z,rfl,hz,q⟩:=h
 obtain ⟨u,rfl,t,rfl⟩:=vals1 r
 have hn:=line63
 exact len_str (by omega) ⟨.int z.length,H,I.tok _,⟨_,rfl⟩,q⟩
theorem zfb:CallR X (.type "tuple") (fun xs H Q=>∃ p ys,xs=[.ref p]/\((SqL X.K H p ys/\∀ l,H l=none->Q (.ref l) (upd H l (.tup ys))) \/ (SqT X.K H p ys/\Q (.ref p) H))):=by
 intro pins s σ H xs us Q I r h
 obtain ⟨p,ys,rfl,h⟩:=h
 obtain ⟨u,rfl,rx⟩:=vals1 r
 cases rx
 rcases h with ⟨hq,q⟩ | ⟨hq,q⟩
 ·obtain ⟨its,r',pl,hz⟩:=I.list hq
  have hlen:=r'.length
  refine call_tuple_list pl.isList (fun h' kp=>?_) (by simp only [List.size_toArray] <;> omega)
  have I1:Inv X pins σ H { s with heap:=h' }:=I.kept (t':=s.toks) kp
  have I2:Inv X pins σ (upd H h'.objs.size (.tup ys)) { s with heap:=h'.push { cls:=.type "tuple",data:=.seq its.toArray } } :=
   I1.laid (t':=s.toks) (fun b o e=>Heap.get?_push_of_some _ e) (Nat.le_refl _) (show ObjOk X.prog X.w _ _ _ (.tup ys) from ⟨hz,its,r',IsTup.new _ _⟩)
  exact ⟨.ref h'.objs.size,_,I2,rfl,q _ (I1.hok.fresh (Nat.le_refl _))⟩
 ·obtain ⟨its,r',pl,hz⟩:=I.tuple hq
  exact call_tuple_same pl ⟨.ref p,H,I,rfl,q⟩
def tyV (K:PySem.W.Frag) (T:String) (x:V) (H:Hp):Prop:=match x with
 | .str _=>T="str"
 | .int _=>T="int"
 | .ref p=>(T="list"/\∃ xs,SqL K H p xs) \/ (T="tuple"/\∃ o,K.lookup p=some o/\o.cls=.type "tuple"/\o.dict=none) \/
   (T="dict"/\((∃ kvs,H p=some (.dK kvs)) \/ ∃ kvs,H p=some (.dT kvs))) \/ (T="set"/\∃ S n,H p=some (.set S n))
 | _=>False
theorem zrb {pins:List (Addr × Obj)} {σ:St} {H:Hp} {s:Shared} {T:String} {x:V} {v:Value} (I:Inv X pins σ H s) (r:RelV x v) (ty:tyV X.K T x H) :
  s.TypeIs v T/\∀ a,v=.ref a->∃ ob,s.heap.get? a=some ob/\ob.dict=none:=by
 cases x with
 | str z =>
  obtain ⟨t,rfl⟩:=r
  cases (show T="str" from ty)
  exact ⟨typeIs_str s z t,fun _ e=>nomatch e⟩
 | int i =>
  obtain ⟨t,rfl⟩:=r
  cases (show T="int" from ty)
  exact ⟨typeIs_int s i t,fun _ e=>nomatch e⟩
 | ref p =>
  cases r
  rcases ty with ⟨rfl,xs,hq⟩ | ⟨rfl,o,hk,hc,hd⟩ | ⟨rfl,hk⟩ | ⟨rfl,S,n,hk⟩
  ·obtain ⟨its,_,pl,_⟩:=I.list hq
   refine ⟨pl.isList.typeIs,fun a e=>?_⟩
   cases e
   obtain ⟨o,n,e,c,hd,_⟩:=pl
   exact ⟨o,e,hd⟩
  ·refine ⟨⟨o,I.kIn p o hk,hc⟩,fun a e=>?_⟩
   cases e
   exact ⟨o,I.kIn _ o hk,hd⟩
  ·have z:∃ o,s.heap.get? p=some o/\o.ExactDict:=by
    rcases hk with ⟨kvs,hk⟩ | ⟨kvs,hk⟩
    ·obtain ⟨_,_,_,_,o,_,_,e,ex,_⟩:=I.hok p _ hk
     exact ⟨o,e,ex⟩
    ·obtain ⟨_,_,_,_,o,_,_,e,ex,_⟩:=I.hok p _ hk
     exact ⟨o,e,ex⟩
   obtain ⟨o,e,ex⟩:=z
   refine ⟨⟨o,e,ex.1⟩,fun a e2=>?_⟩
   cases e2
   exact ⟨o,e,ex.2.1⟩
  ·obtain ⟨o,_,_,_,e,ex,_⟩:=I.hok p _ hk
   refine ⟨⟨o,e,ex.1⟩,fun a e2=>?_⟩
   cases e2
   exact ⟨o,e,ex.2.1⟩
 | _=>exact False.elim ty
def tBM (K:PySem.W.Frag) (T:String) (r:V->List V->Hp->VK->Prop) (to:TE) (t:TA):TE:=fun σ H Q=>to σ H fun x H1=>tyV K T x H1/\t σ H1 fun xs H2=>r x xs H2 Q
variable {o e:Expr} {es:List Expr} {to:TE} {t:TA} {name:Str} {apos cpos:Pos} {T id:String} {r:V->List V->Hp->VK->Prop}
theorem zsr (pa:PlainAttrs T) (slot:Slot T name id) (hty:typeOf (.builtin id)=pure (.type "method_descriptor")) (hm:MtR X id r) (ho:PE X o to) (ha:PA X (e :: es) t)
  (hbase:attributeBase o name X.env (eval o X.env)=eval o X.env:=by rfl)
  (hfew:((backTo cpos (starEach (e :: es) X.env)).all (fun x=>!x.1) && (backToKw cpos (keywordEach [] X.env)).all (fun x=>x.1.isSome)
   && decide ((e :: es).length+([]:List Keyword).length+(if ([]:List Keyword).isEmpty then 0 else 1) < 30))=true:=by rfl)
  (hline:(apos.endLine == cpos.line)=true:=by rfl) (hs:starEach (e :: es) X.env=(false,eval e X.env) :: starEach es X.env:=by rfl) (hplain:(backTo cpos (starEach es X.env)).any (·.1)=false:=by rfl) :
  PE X (.Call (.Attribute o name apos) (e :: es) [] cpos) (tBM X.K T r to t):=by
 intro pins s σ H Q I h
 refine wpAny_Call_method_late hbase hfew hline rfl (thn (ho pins s σ H _ I h) fun v s1 ⟨x,H1,I1,r1,ty,q1⟩=>?_)
 obtain ⟨h1,h2⟩:=zrb I1 r1 ty
 refine ⟨T,id,pa,slot,hty,h1,h2,?_⟩
 have hA:=ha cpos pins s1 σ H1 _ I1 q1
 rw [hs] at hA ⊢
 refine Calls.callWith_builtin (by show (false || (backTo cpos (starEach es X.env)).any (·.1))=false; rw [hplain] <;> rfl) (Calls.evalArgs_plain ?_)
 exact thn hA fun us s2 ⟨vs,H2,I2,r2,q2⟩=>hm pins s2 σ H2 x vs v us Q I2 r1 r2 q2
/- xs.append(e),list.index on a module's tuple .. are MtR facts of 06m -/
end
def MtM (X:Cx) (id:String) (r:V->List V->Hp->VK->Prop):Prop :=
 ∀ (pins:List (Addr × Obj)) (s:Shared) (σ:St) (H:Hp) (x:V) (xs:List V) (v:Value) (us:List Value) (Q:VK),Inv X pins σ H s->RelV x v->Vals xs us->r x xs H Q ->
  wpAny (model X.prog X.w) X.A (call (.builtin id) (v :: us)) (EP X pins σ Q) X.xe s
theorem Vals.one:∀ {x:V} {us:List Value},Vals [x] us->∃ u,us=[u]/\RelV x u
 | _,_,.cons r .nil=>⟨_,rfl,r⟩
section
variable {X:Cx} {pins:List (Addr × Obj)} {σ:St} {H:Hp} {s:Shared} {l b:Addr} {xs ys zs:List V}
theorem Inv.lset {its its':List Value} {n:Nat} {f:Array Value->Array Value} {t':Nat} (I:Inv X pins σ H s) (hH:H l=some (.lst xs))
  (e:s.heap.get? l=some { cls:=.type "list",data:=.seq its.toArray n }) (hf:f its.toArray=its'.toArray) (hv:Vals ys its') (hz:ys.length<=sizeLine) :
  Inv X pins σ (upd H l (.lst ys)) { s with heap:=s.heap.update l (Obj.mapSeq f),toks:=t' }:=by
 have q:=PySem.IsL.update e f
 rw [hf] at q
 refine I.write (x:=l) (e:=l) (by rw [hH]; exact trivial) (.inl rfl) (fun b' u hb hu=>(Heap.get?_update_other s.heap (Obj.mapSeq f) (Ne.symm hb)).trans hu) ⟨_,q⟩ ?_
 exact ⟨hz,its',_,hv,q⟩
theorem Inv.lnew {its:List Value} {t':Nat} (I:Inv X pins σ H s) (hv:Vals ys its) (hz:ys.length<=sizeLine) :
  Inv X pins σ (upd H s.heap.objs.size (.lst ys)) { s with heap:=s.heap.push { cls:=.type "list",data:=.seq its.toArray },toks:=t' } :=
 I.laid (fun _ _ q=>Heap.get?_push_of_some _ q) (Nat.le_refl _) ⟨hz,its,0,hv,Heap.get?_push_size _ rfl⟩
theorem Inv.fresh (I:Inv X pins σ H s):H s.heap.objs.size=none:=I.hok.fresh (Nat.le_refl _)
theorem Inv.lstM (I:Inv X pins σ H s) (hH:H l=some (.lst xs)):xs.length<=sizeLine/\∃ (its:List Value) (n:Nat),Vals xs its/\xs.length=its.length/\s.heap.get? l=some { cls:=.type "list",data:=.seq its.toArray n }:=by
 obtain ⟨z,its,n,r,e⟩:=I.hok l _ hH
 exact ⟨z,its,n,r,r.length,e⟩
theorem notLongL {n:Nat} (h:n<=sizeLine):Builtin.List.listTooLong n=false:=by
 unfold Builtin.List.listTooLong
 exact decide_eq_false (by omega)
end
section
variable {X:Cx}
def rAppend:V->List V->Hp->VK->Prop:=fun x vs H Q=>∃ l xs y,x=.ref l/\vs=[y]/\H l=some (.lst xs)/\xs.length < sizeLine/\Q .non (upd H l (.lst (xs++[y])))
theorem zjo:MtM X "list.append" rAppend:=by
 intro pins s σ H x vs v us Q I rx rv h
 obtain ⟨l,xs,y,rfl,rfl,hH,hz,q⟩:=h
 cases rx
 obtain ⟨u,rfl,ru⟩:=rv.one
 obtain ⟨z,its,n,r,hl,e⟩:=I.lstM hH
 refine call_meets F.slot_list_append ⟨_,e,rfl⟩ F.entry_list_append (F.args_list_append_2 _ _) (PySem.list_append l its.toArray n u (by rw [List.size_toArray]; omega)) ⟨e,?_⟩
 refine ⟨.non,_,I.lset (its':=its++[u]) hH e (by simp) (r.append (.cons ru .nil)) ?_,rfl,q⟩
 rw [List.length_append,List.length_singleton]
 omega
def rExtend:V->List V->Hp->VK->Prop:=fun x vs H Q=>∃ l b xs zs,x=.ref l/\vs=[.ref b]/\H l=some (.lst xs)/\H b=some (.lst zs)/\xs.length+zs.length<=sizeLine/\Q .non (upd H l (.lst (xs++zs)))
theorem znp:MtM X "list.extend" rExtend:=by
 intro pins s σ H x vs v us Q I rx rv h
 obtain ⟨l,b,xs,zs,rfl,rfl,hH,hB,hz,q⟩:=h
 cases rx
 obtain ⟨u,rfl,ru⟩:=rv.one
 cases ru
 obtain ⟨z,its,n,r,hl,e⟩:=I.lstM hH
 obtain ⟨z2,its2,n2,r2,hl2,e2⟩:=I.lstM hB
 have hsz:its.toArray.size+its2.toArray.size<=sizeLine:=by rw [List.size_toArray,List.size_toArray]; omega
 have hlong:¬ (!its.toArray.isEmpty && Builtin.List.listTooLong (its.toArray.size+its2.toArray.size))=true:=by
  rw [notLongL hsz,Bool.and_false]
  exact Bool.false_ne_true
 refine call_meets F.slot_list_extend ⟨_,e,rfl⟩ F.entry_list_extend (F.args_list_extend_2 _ _)
  (AutoSeq1.list_extend_list_list_0 l its.toArray n b its2.toArray n2 hlong (by rw [List.size_toArray]; omega) (by omega)) ⟨e,e2,?_⟩
 refine ⟨.non,_,I.lset (its':=its++its2) hH e (by simp) (r.append r2) ?_,rfl,q⟩
 rw [List.length_append]
 omega
def rCat:R2:=fun x y H Q=>∃ l b xs zs,x=.ref l/\y=.ref b/\H l=some (.lst xs)/\H b=some (.lst zs)/\xs.length+zs.length<=sizeLine/\∀ p,H p=none->Q (.ref p) (upd H p (.lst (xs++zs)))
theorem zq6:OpR X (binaryOp .Add) rCat:=by
 intro pins s σ H x y v u Q I rx ry h
 obtain ⟨l,b,xs,zs,rfl,rfl,hH,hB,hz,q⟩:=h
 cases rx
 cases ry
 obtain ⟨z,its,n,r,hl,e⟩:=I.lstM hH
 obtain ⟨z2,its2,n2,r2,hl2,e2⟩:=I.lstM hB
 refine PySem.P.add_list e e2 ?_ (by rw [List.size_toArray,List.size_toArray]; omega)
 have ea:its.toArray++its2.toArray=(its++its2).toArray:=by simp
 rw [ea]
 exact ⟨.ref _,_,I.lnew (t':=s.toks) (r.append r2) (by rw [List.length_append]; omega),rfl,q _ I.fresh⟩
end
section
variable {prog:Program} {w:World} {A:Around} {E:Value->Shared->Prop} {s:Shared}
end
section
variable {X:Cx}
end
end L2
namespace Att
open PySem PySem.W PySem.Calls PyProof.Rows
theorem zgV {P:Params} {h:Heap}:∀ (ns:List Int) (vs:List Value),WellAll P h vs (ns.map WData.int)->IntsAre vs ns:=by
 intro ns
 induction ns with
 | nil =>
  intro vs w
  rw [List.map_nil] at w
  cases w
  exact .nil
 | cons n ns ih =>
  intro vs w
  rw [List.map_cons] at w
  cases w with
  | cons a b =>
   cases a
   exact .cons _ _ (ih _ b)
theorem zn2 {l:OpenLaw} {n:Nat} (hn:l.most=some n) {P:Params} {h:Heap} {args:List WData} {vals:List Value}
  (hpre:l.row.toRowW.claim.pre args=true) (hwl:WellAll P h vals args) :
  ∃ a vs ns,vals=[Value.ref a]/\args=[WData.list (ns.map WData.int)]/\h.get? a=some { cls:=.type "list",data:=.seq vs.toArray }/\IntsAre vs ns/\ns.length<=n:=by
 have hsh:WShape.hasAll [] args [.list .int]=true:=(pre_splitW hpre).1
 have hc:l.pre.holds [] { args:=args }=true:=(pre_splitW hpre).2
 obtain ⟨d,r,rfl,h1,h2⟩:=hasAllW_cons hsh
 obtain rfl:=hasAllW_nil h2
 obtain ⟨xs,rfl,h3⟩:=hasW_list h1
 obtain ⟨ns,rfl⟩:=items_int h3
 have hlen:ns.length<=n:=by
  unfold OpenLaw.pre at hc
  have h4:(WTm.not (.lt (.lit (.int (n:Int))) (.len (.arg 0)))).holds [] { args:=[.list (ns.map .int)] }=true:=by
   have h4:=(holds_andW hc).1
   rw [hn] at h4
   exact h4
  have h5:=condW_of h4 (w_not (w_lt w_lit (w_len_list (w_arg rfl))))
  rw [List.length_map] at h5
  refine Nat.le_of_not_lt fun q=>?_
  have q':(n:Int) < ((ns.length:Nat):Int):=by omega
  first
   | (rw [decide_eq_true q'] at h5; exact absurd h5 (by decide))
   | (simp at h5; omega)
 cases hwl with
 | cons w1 w2 =>
  cases w2
  cases w1 with
  | list ho hall=>exact ⟨_,_,ns,rfl,rfl,ho,zgV ns _ hall,hlen⟩
theorem znh (l:OpenLaw) (args:List WData):l.row.toRowW.claim.post args (.bool true) args=true :=
 postW_of (r:=l.row.toRowW) (X:=(true == true))
  (show WShape.has [] (.bool true) .bool=true by first | rfl | decide | simp [WShape.has,WShape.arms,WShape.armsAll])
  (show (WTm.eq .res (.lit (.bool true))).value [] { args:=args,res:=some (.bool true),after:=args }=some (.bool (true == true)) from w_eq_bool (w_res rfl) w_lit) rfl
theorem attach_call {l:OpenLaw} {n:Nat} {q:Program} {loose:List Str} {XP:(Str->Option Value)->Heap->Prop} {YP:World->Heap->Prop} {d:DefRec}
  (hn:l.most=some n) (hdf:d.params.defaults=[])
  (call:∀ (w:World) (s₀ s₁:Shared) (mg mb:Str->Option Value) (fa:Addr) (o:Obj) (pm cd doc:Value) (a:Addr) (vs:List Value) (ns:List Int),
   Ground q loose [] XP w s₀ mg mb s₁.heap->YP w s₁.heap ->
   s₁.heap.get? fa=some o->o.data=.func (docDef d.name d.params d.body d.scope pm cd doc)->s₁.heap.CodeRec cd d.name->mg d.name=some (.ref fa) ->
   s₁.heap.get? a=some { cls:=.type "list",data:=.seq vs.toArray }->IntsAre vs ns->ns.length<=n->s₁.gens=#[] ->
   codeAny (model l.prog w) callerA (.call (.ref fa) ⟨[.ref a],[]⟩) (fun r s'=>r=.ok (.ret (.bool true))/\OldK s₁.heap s'.heap/\s'.os=s₁.os/\AllBare s'.gens) s₁) :
  WalkO q loose XP YP l.row.toRowW d [] (fun f vs=>PySem.call f vs):=by
 intro w s₀ s₁ mg mb G Y fa o pm cd doc dV kV ho hd hcd hD hmg hg args vals as hpre hlay hrd hwl hlo
 obtain rfl:dV=.none:=Dflts.none hD hdf
 obtain rfl:kV=.none:=Dflts.noKw hD
 obtain ⟨a,vs,ns,rfl,rfl,hobj,hints,hlen⟩:=zn2 hn hpre hwl
 refine enter_call (codeAny_mono (call w s₀ s₁ mg mb fa o pm cd doc a vs ns G Y ho (fd_plain hd) hcd hmg hobj hints hlen hg) fun r s' hq=>?_)
 obtain ⟨rfl,h2,h3,h4⟩:=hq
 exact ⟨.inl ⟨.bool true,.bool true,[],rfl,fun _=>rfl,.bool true,znh l _,fun _=>⟨List.Pairwise.nil,fun _ hm=>(nomatch hm)⟩⟩,h2,h3,h4⟩
section
variable {prog:Program} {w:World} {A:Around} {E:Value->Shared->Prop} {s:Shared} {K:Frag}
end
end Att
namespace L2
open PySem PySem.Spec PyProof.Rows
theorem zji:∀ {vs:List Value} {ns:List Int},IntsAre vs ns->Vals (ns.map V.int) vs
 | _,_,.nil=>.nil
 | _,_,.cons n t h=>.cons ⟨t,rfl⟩ (zji h)
def Only (H:Hp):Prop:=∀ b,H b=none \/ ∃ o xs,H b=some (.frz o (.lst xs))
theorem zoJ {P:Program} {w:World} {K:PySem.W.Frag} {mg mb:Str->Option Value} {CX:CXT} {k:Nat} {fa a:Addr} {fd:FuncData} {x:Str} {sp:Sp} {s₁:Shared} {vs:List Value} {ns:List Int}
  (KX:K.In s₁.heap) (hns:s₁.heap.Ns mainGlobals mg) (hb:s₁.heap.Ns builtinsNs mb) (hbb:∀ x:Str,x ≠ "__name__"->mb x=bootBuiltins x) (hlim:s₁.heap.NoLimit) (hg:s₁.gens=#[])
  (ha:s₁.heap.get? a=some { cls:=.type "list",data:=.seq vs.toArray }) (hi:IntsAre vs ns) (hl:ns.length<=sizeLine) (hr:Room k callerA)
  (F:∀ base:Heap,K.In base->base.Ns mainGlobals mg->FnOk P w K mg base CX k fa fd [x] sp) (hbind:∀ (s:Shared) (u:Value),BindsTo s fd ⟨[u],[]⟩ [(x,u)])
  (hsp:∀ H:Hp,Only H->SqL K H a (ns.map V.int)->sp [.ref a] H (fun v _=>v=.bl true) fun _ _ _=>False)
  (hCX:∀ H e s',CX [] H s₁ (fun _ _ _=>False) e s'->False) :
  codeAny (model P w) callerA (.call (.ref fa) ⟨[.ref a],[]⟩) (fun r s'=>r=.ok (.ret (.bool true))/\OldK s₁.heap s'.heap/\s'.os=s₁.os/\AllBare s'.gens) s₁:=by
 have rv:=zji hi
 have lenV:=hi.length
 have core:∀ H:Hp,Only H->SqL K H a (ns.map V.int)->HOk P w H s₁.heap->(∀ b,H b ≠ none->b=a)->(H a ≠ none->K.lookup a=none) ->
   codeAny (model P w) callerA (.call (.ref fa) ⟨[.ref a],[]⟩) (fun r s'=>r=.ok (.ret (.bool true))/\OldK s₁.heap s'.heap/\s'.os=s₁.os/\AllBare s'.gens) s₁:=by
  intro H hO hS hok hA hK
  have base_of:∀ {b:Addr} {o:Obj},s₁.heap.get? b=some o->H b=none->(hidT s₁.heap H).get? b=some o:=fun e n=>zoB e n
  have noA:∀ {b:Addr} {o:Obj} {es:Array DictEntry} {ep:Nat},s₁.heap.get? b=some o->o.data=.dict es ep->H b=none:=fun {b o es ep} e d=>by
   cases q:H b with
   | none=>rfl
   | some u =>
    have e':b=a:=hA b (by rw [q]; simp)
    subst e'
    rw [ha] at e; cases e
    have d':Data.seq vs.toArray _=Data.dict es ep:=d
    cases d'
  have nsK:∀ {b:Addr} {m:Str->Option Value},s₁.heap.Ns b m->(hidT s₁.heap H).Ns b m:=fun {b m} ⟨o,es,ep,e,d,r⟩=>⟨o,es,ep,base_of e (noA e d),d,r⟩
  have hKb:K.In (hidT s₁.heap H):=fun b o e=>base_of (KX b o e) (by
   cases q:H b with
   | none=>rfl
   | some u =>
    have e':b=a:=hA b (by rw [q]; simp)
    subst e'
    rw [hK (by rw [q]; simp)] at e; cases e)
  have hM:Mod K mg (hidT s₁.heap H):=⟨hKb,nsK hns,⟨mb,nsK hb,hbb⟩,let ⟨mc,h1,h2⟩:=hlim; ⟨mc,nsK h1,h2⟩⟩
  have e0:Env0 P w K mg (hidT s₁.heap H) callerA [] s₁ H:=⟨rfl,hM,fun b o e=>zqh e,Nat.le_of_eq (znd _ _),trivial,fun b hb=>absurd (show b ∈ ([]:List Addr) from hb) (by simp),hok,.of_eq hg⟩
  refine codeAny_mono ((F _ hKb (nsK hns)).run callerA [] s₁ H ⟨[.ref a],[]⟩ [.ref a] [.ref a] _ _ hr e0 (hbind s₁ (.ref a)) (.cons rfl .nil) (hsp H hO hS)) fun r s' h=>?_
  cases r with
  | error e=>exact (hCX H e s' h).elim
  | ok fl =>
   cases fl with
   | next=>exact False.elim h
   | brk=>exact False.elim h
   | cont=>exact False.elim h
   | ret u =>
    obtain ⟨v,H',os,bare,un,hok',r',q⟩:=h
    have q':v=.bl true:=q
    subst q'
    obtain rfl:u=Value.bool true:=r'
    refine ⟨rfl,OldK.of_keep fun b o e=>?_,os,bare⟩
    cases q:H b with
    | none=>exact un.keep b o e q (by intro z; exact absurd (show b ∈ ([]:List Addr) from z) (by simp)) (by simp)
    | some u =>
     rcases hO b with z | ⟨ob,xs,z⟩
     ·rw [q] at z; cases z
     ·have z2:=un.frzs b ob _ z
      obtain ⟨e1,_⟩:=hok b _ z
      obtain ⟨e2,_⟩:=hok' b _ z2
      rw [e] at e1; cases e1
      exact e2
 cases hk:K.lookup a with
 | some o =>
  have e:=KX a o hk
  rw [ha] at e
  cases e
  refine core (fun _=>none) (fun _=>.inl rfl) (.inr ⟨_,vs.toArray,_,hk,rfl,rfl,rfl,by rw [List.size_toArray,lenV]; exact hl,by simpa using rv⟩) (fun b u z=>by have z':(none:Option HO)=some u:=z; cases z') (fun b z=>absurd rfl z) fun z=>absurd rfl z
 | none =>
  refine core (fun b=>if b=a then some (.frz { cls:=.type "list",data:=.seq vs.toArray } (.lst (ns.map V.int))) else none) (fun b=>?_) (.inl (.inr ⟨{ cls:=.type "list",data:=.seq vs.toArray },if_pos rfl⟩)) (fun b u z=>?_) (fun b z=>?_) fun _=>hk
  ·by_cases hb:b=a
   ·exact .inr ⟨_,_,if_pos hb⟩
   ·exact .inl (if_neg hb)
  ·by_cases hb:b=a
   ·have z':=(if_pos hb).symm.trans z
    cases z'
    subst hb
    exact ⟨ha,by rw [List.length_map]; exact hl,vs,_,rv,ha⟩
   ·have z':=(if_neg hb).symm.trans z
    cases z'
  ·by_cases hb:b=a
   ·exact hb
   ·exact absurd (if_neg hb) z
theorem walk_of {l:PySem.W.OpenLaw} {n k:Nat} {q:Program} {loose:List Str} {XP:(Str->Option Value)->Heap->Prop} {YP:World->Heap->Prop} {d:DefRec} {K:Params->PySem.W.Frag} {CX:World->CXT} {sp:World->Sp} {x:Str}
  (hn:l.most=some n) (hn2:n<=sizeLine) (hdf:d.params.defaults=[]) (hr:Room k callerA)
  (hY:∀ (w:World) (h:Heap),YP w h->(K w.params).In h)
  (F:∀ (w:World) (mg:Str->Option Value) (fa:Addr) (h:Heap),(K w.params).In h->h.Ns mainGlobals mg->mg d.name=some (.ref fa) ->
   ∃ fd:FuncData,(∀ (s:Shared) (u:Value),BindsTo s fd ⟨[u],[]⟩ [(x,u)]) /\
    ∀ base:Heap,(K w.params).In base->base.Ns mainGlobals mg->FnOk l.prog w (K w.params) mg base (CX w) k fa fd [x] (sp w))
  (hsp:∀ (w:World) (H:Hp) (a:Addr) (ns:List Int),ns.length<=n->Only H->SqL (K w.params) H a (ns.map V.int)->sp w [.ref a] H (fun v _=>v=.bl true) fun _ _ _=>False)
  (hCX:∀ (w:World) (H:Hp) (s:Shared) (e:Value) (s':Shared),CX w [] H s (fun _ _ _=>False) e s'->False) :
  PySem.W.WalkO q loose XP YP l.row.toRowW d [] (fun f vs=>PySem.call f vs):=by
 refine Att.attach_call hn hdf fun w s₀ s₁ mg mb fa o pm cd doc a vs ns G Y ho hd hcd hmg hobj hints hlen hg=>?_
 have KX:=hY w _ Y
 obtain ⟨fd,hb,hF⟩:=F w mg fa _ KX G.T.g hmg
 exact zoJ KX G.T.g G.T.b G.T.builtins G.T.nolimit hg hobj hints (Nat.le_trans hlen hn2) hr hF hb (fun H hO hS=>hsp w H a ns hlen hO hS) fun H e s'=>hCX w H s₁ e s'
def defArgs (s:Stmt):Arguments:=match s with
 | .FunctionDef _ a _ _ _ _ _ _ _ _=>a
 | _=>{ posonlyargs:=[],args:=[],vararg:=none,kwonlyargs:=[],kw_defaults:=[],kwarg:=none,defaults:=[] }
def defBody (s:Stmt):List Stmt:=match s with
 | .FunctionDef _ _ b _ _ _ _ _ _ _=>b
 | _=>[]
def defScope (s:Stmt):Scope:=match s with
 | .FunctionDef _ _ _ _ _ _ sc _ _ _=>sc
 | _=>{ kind:=.function,names:=[],isGenerator:=false,isCoroutine:=false }
structure Fun (K:PySem.W.Frag) (x qual:Str) (st:Stmt) (f:Addr) (fd:FuncData):Prop where
 ex:∃ (oc:Value) (od:Option Addr) (kV doc pm:Value) (an:Option Addr) (cdv ct:Value) (osl:Array (Option Value)),
  fd=PySem.W.fnOf x qual (defArgs st) (defBody st) (defScope st) .none kV doc pm an cdv ct/\K.lookup f=some ⟨oc,od,.func fd,osl⟩/\PySem.W.codeIn K cdv qual=true
 kp:PySem.W.keepIn K (.ref f)=true
section
variable {P:Program} {w:World} {K:PySem.W.Frag} {mg:Str->Option Value} {base:Heap}
theorem Fun.binds {x qual:Str} {st:Stmt} {f:Addr} {fd:FuncData} {ps:List Str} (F:Fun K x qual st f fd)
  (h:∀ (kV doc pm:Value) (an:Option Addr) (cdv ct:Value) (us:List Value),us.length=ps.length->bindArgs (PySem.W.fnOf x qual (defArgs st) (defBody st) (defScope st) .none kV doc pm an cdv ct) ⟨us,[]⟩=pure (ps.zip us)):Binds K fd ps []:=by
 obtain ⟨oc,od,kV,doc,pm,an,cdv,ct,osl,rfl,lk,hcd⟩:=F.ex
 exact .all (h kV doc pm an cdv ct)
theorem zph {x qual:Str} {st:Stmt} {f:Addr} {oc:Value} {od an:Option Addr} {osl:Array (Option Value)} {kV doc pm cdv ct:Value} (l:K.lookup f=some ⟨oc,od,.func (PySem.W.fnOf x qual (defArgs st) (defBody st) (defScope st) .none kV doc pm an cdv ct),osl⟩)
  (c:PySem.W.codeIn K cdv qual=true) (k:PySem.W.keepIn K (.ref f)=true):Fun K x qual st f (PySem.W.fnOf x qual (defArgs st) (defBody st) (defScope st) .none kV doc pm an cdv ct):=⟨⟨oc,od,kV,doc,pm,an,cdv,ct,osl,rfl,l,c⟩,k⟩
end
theorem zaf {A:Around} {k:Nat} (hr:Room k A):A.units+1 < cLine:=Nat.lt_of_le_of_lt (Nat.add_le_add_left (by decide:1<=64) _) hr.units
section
variable {X:Cx}
end
section
variable {κ:Type} [DecidableEq κ]
def valV (kvs:List (κ × V)) (k:κ):Option V:=(kvs.find? fun kv=>decide (kv.1=k)).map (·.2)
def putK (kvs:List (κ × V)) (k:κ) (v:V):List (κ × V) :=
 if (kvs.any fun kv=>decide (kv.1=k))=true then kvs.map (fun kv=>if kv.1=k then (kv.1,v) else kv) else kvs++[(k,v)]
theorem zfj {p:κ × V} {r:List (κ × V)} {k:κ} (e:p.1=k):valV (p :: r) k=some p.2:=by simp [valV,List.find?_cons,e]
theorem zeY {p:κ × V} {r:List (κ × V)} {k:κ} (e:¬ p.1=k):valV (p :: r) k=valV r k:=by simp [valV,List.find?_cons,e]
theorem zkV (k:κ):∀ kvs:List (κ × V),(kvs.any fun kv=>decide (kv.1=k))=(valV kvs k).isSome
 | []=>rfl
 | p :: r=>by
  rw [List.any_cons]
  by_cases e:p.1=k
  ·simp only [zfj e,decide_eq_true e,Bool.true_or,Option.isSome_some]
  ·rw [zeY e,decide_eq_false e,Bool.false_or]; exact zkV k r
theorem zeR (kvs:List (κ × V)) (k:κ) (v:V):(putK kvs k v).length<=kvs.length+1:=by
 unfold putK
 split
 ·rw [List.length_map]; omega
 ·rw [List.length_append,List.length_cons,List.length_nil]; omega
theorem RelO.isSome_eq {o:Option V} {u:Option Value} (r:RelO o u):o.isSome=u.isSome:=by
 cases o with
 | none=>cases u with
  | none=>rfl
  | some _=>exact (show False from r).elim
 | some _=>cases u with
  | none=>exact (show False from r).elim
  | some _=>rfl
theorem RelO.getD {o:Option V} {u:Option Value} {d:V} {d':Value} (r:RelO o u) (rd:RelV d d'):RelV (o.getD d) (u.getD d'):=by
 cases o with
 | none=>cases u with
  | none=>exact rd
  | some _=>exact (show False from r).elim
 | some _=>cases u with
  | none=>exact (show False from r).elim
  | some _=>exact r
theorem KV.val {kvs:List (κ × V)} {vs:List (κ × Value)} (r:KV kvs vs) (k:κ):RelO (valV kvs k) (valueAt vs k):=by
 unfold KV at r
 induction r with
 | nil=>exact True.intro
 | @cons p q ps qs h t ih =>
  obtain ⟨h1,h2⟩:=h
  by_cases e:p.1=k
  ·have e':q.1=k:=h1.symm.trans e
   have b:valueAt (q :: qs) k=some q.2:=by simp [valueAt,List.find?_cons,e']
   rw [zfj e,b]; exact h2
  ·have e':¬ q.1=k:=fun z=>e (h1.trans z)
   have b:valueAt (q :: qs) k=valueAt qs k:=by simp [valueAt,List.find?_cons,e']
   rw [zeY e,b]; exact ih
theorem KV.any {kvs:List (κ × V)} {vs:List (κ × Value)} (r:KV kvs vs) (k:κ):(kvs.any fun kv=>decide (kv.1=k))=vs.any fun kv=>decide (kv.1=k):=by
 unfold KV at r
 induction r with
 | nil=>rfl
 | cons h t ih=>rw [List.any_cons,List.any_cons,ih,h.1]
theorem KV.repl {kvs:List (κ × V)} {vs:List (κ × Value)} (r:KV kvs vs) (k:κ) {y:V} {u:Value} (ry:RelV y u) :
  KV (kvs.map fun kv=>if kv.1=k then (kv.1,y) else kv) (vs.map fun kv=>if kv.1=k then (kv.1,u) else kv):=by
 unfold KV at r ⊢
 induction r with
 | nil=>exact .nil
 | @cons p q ps qs h t ih =>
  rw [List.map_cons,List.map_cons]
  refine .cons ?_ ih
  obtain ⟨h1,h2⟩:=h
  by_cases e:p.1=k
  ·rw [if_pos e,if_pos (h1.symm.trans e)]; exact ⟨h1,ry⟩
  ·rw [if_neg e,if_neg (fun z=>e (h1.trans z))]; exact ⟨h1,h2⟩
theorem KV.put {kvs:List (κ × V)} {vs:List (κ × Value)} (r:KV kvs vs) (k:κ) {y:V} {u:Value} (ry:RelV y u):KV (putK kvs k y) (stored vs k u):=by
 unfold putK stored
 rw [r.any k]
 by_cases e:(vs.any fun kv=>decide (kv.1=k))=true
 ·rw [if_pos e,if_pos e]; exact r.repl k ry
 ·rw [if_neg e,if_neg e]; exact Paired.snoc r ⟨rfl,ry⟩
theorem KV.length {kvs:List (κ × V)} {vs:List (κ × Value)} (r:KV kvs vs):kvs.length=vs.length:=Paired.length r
end
theorem zoa {P:Program} {w:World} {k:Key} {u:Value} (r:RelV (kV k) u):(mixKind P w).is k u=true:=by
 cases k with
 | inl i=>obtain ⟨t,e⟩:=(show ∃ t,u=Value.int i t from r); subst e; exact zkD P w i t
 | inr x=>obtain ⟨t,e⟩:=(show ∃ t,u=Value.str x t from r); subst e; exact zkj P w x t
theorem zjx {P:Program} {w:World}:∀ {ks:List Key} {us:List Value},Vals (ks.map kV) us->ItemsAre (mixKind P w) ks us
 | [],_,r=>by rw [List.map_nil] at r; cases r; exact .nil
 | k :: ks,_,r=>by
  rw [List.map_cons] at r
  cases r with
  | cons h t=>exact .cons (zoa h) (zjx t)
abbrev KT (H:Hp):List (List Key × V)->List (List Key × Addr × Value)->Prop:=Paired fun p q=>p.1=q.1/\H q.2.1=some (.tup (p.1.map kV))/\RelV p.2 q.2.2
theorem KT.val {H:Hp} {kvs:List (List Key × V)} {xs:List (List Key × Addr × Value)} (r:KT H kvs xs) (k:List Key):RelO (valV kvs k) ((atKey xs k).map (·.2)):=by
 induction r with
 | nil=>exact True.intro
 | @cons p q ps qs h t ih =>
  obtain ⟨h1,_,h2⟩:=h
  by_cases e:p.1=k
  ·have e':q.1=k:=h1.symm.trans e
   have b:atKey (q :: qs) k=some q.2:=by simp [atKey,List.find?_cons,e']
   rw [zfj e,b]; exact h2
  ·have e':¬ q.1=k:=fun z=>e (h1.trans z)
   have b:atKey (q :: qs) k=atKey qs k:=by simp [atKey,List.find?_cons,e']
   rw [zeY e,b]; exact ih
theorem KT.repl {H:Hp} {kvs:List (List Key × V)} {xs:List (List Key × Addr × Value)} (r:KT H kvs xs) (k:List Key) {y:V} {u:Value} (ry:RelV y u) :
  KT H (kvs.map fun kv=>if kv.1=k then (kv.1,y) else kv) (xs.map (putAt k u)):=by
 induction r with
 | nil=>exact .nil
 | @cons p q ps qs h t ih =>
  rw [List.map_cons,List.map_cons]
  refine .cons ?_ ih
  obtain ⟨h1,h2,h3⟩:=h
  unfold putAt
  by_cases e:p.1=k
  ·rw [if_pos e,if_pos (h1.symm.trans e)]; exact ⟨h1,h2,ry⟩
  ·rw [if_neg e,if_neg (fun z=>e (h1.trans z))]; exact ⟨h1,h2,h3⟩
theorem KT.put {H:Hp} {kvs:List (List Key × V)} {xs:List (List Key × Addr × Value)} (r:KT H kvs xs) (k:List Key) {b:Addr} {y:V} {u:Value} (hb:H b=some (.tup (k.map kV))) (ry:RelV y u) :
  KT H (putK kvs k y) (storedH xs k b u):=by
 have e:(kvs.any fun kv=>decide (kv.1=k))=(atKey xs k).isSome:=by
  rw [zkV,(r.val k).isSome_eq,Option.isSome_map]
 unfold putK storedH
 rw [e]
 by_cases q:(atKey xs k).isSome=true
 ·rw [if_pos q,if_pos q]; exact r.repl k ry
 ·rw [if_neg q,if_neg q]; exact Paired.snoc r ⟨rfl,hb,ry⟩
theorem KT.keeps {H H':Hp} {kvs:List (List Key × V)} {xs:List (List Key × Addr × Value)} (r:KT H kvs xs) (ht:∀ b ys,H b=some (.tup ys)->H' b=some (.tup ys)):KT H' kvs xs :=
 Paired.mapP r fun _ _ z=>⟨z.1,ht _ _ z.2.1,z.2.2⟩
section
variable {P:Program} {w:World} {H:Hp} {h:Heap} {a:Addr}
theorem zrZ {u:HO} (ok:HOk P w H h) (e:Rd H a u):ObjOk P w H h a u:=e.ok ok
theorem zp8 {kvs:List (Key × V)} (ok:HOk P w H h) (e:Rd H a (.dK kvs)):kvs.length<=sizeLine/\(a == sysModules)=false/\∃ vs,KV kvs vs/\h.DictOf (mixKind P w) a vs :=
 show ObjOk P w H h a (.dK kvs) from zrZ ok e
theorem zsk {kvs:List (Key × V)} (ok:HOk P w H h) (e:H a=some (.dK kvs)):kvs.length<=sizeLine/\(a == sysModules)=false/\∃ vs,KV kvs vs/\h.DictOf (mixKind P w) a vs:=zp8 ok (.inl e)
theorem zmI {ks:List Key} (ok:HOk P w H h) (e:H a=some (.tup (ks.map kV))):(tupleKind (mixKind P w)).is h ks a:=by
 obtain ⟨_,its,r,o,h1,h2,n,h3⟩:=(show ObjOk P w H h a (.tup (ks.map kV)) from ok a _ e)
 exact ⟨o,its.toArray,n,h1,h2,h3,by simpa using zjx r⟩
theorem zqP {kvs:List (List Key × V)} (ok:HOk P w H h) (e:Rd H a (.dT kvs)):kvs.length<=sizeLine/\(a == sysModules)=false /\
  ∃ xs,KT H kvs xs/\h.DictOfH (tupleKind (mixKind P w)) a xs:=by
 obtain ⟨z,y,xs,r,o,es,ep,h1,h2,h3,h4,h5⟩:=(show ObjOk P w H h a (.dT kvs) from zrZ ok e)
 refine ⟨z,y,xs,r,o,es,ep,h1,h2,h3,h4,fun x hx=>?_,h5⟩
 have all:∀ {l:List (List Key × V)} {m:List (List Key × Addr × Value)},KT H l m->∀ x ∈ m,(tupleKind (mixKind P w)).is h x.1 x.2.1:=by
  intro l m q
  induction q with
  | nil=>intro x hx; exact nomatch hx
  | @cons p q ps qs hq t ih =>
   intro x hx
   rcases List.mem_cons.mp hx with e | hx
   ·subst e
    exact zmI ok (by rw [<- hq.1]; exact hq.2.1)
   ·exact ih x hx
 exact all r x hx
theorem zsY {kvs:List (List Key × V)} (ok:HOk P w H h) (e:H a=some (.dT kvs)):kvs.length<=sizeLine/\(a == sysModules)=false /\
  ∃ xs,KT H kvs xs/\h.DictOfH (tupleKind (mixKind P w)) a xs:=zqP ok (.inl e)
end
def DGet (H:Hp) (a:Addr) (y:V) (r:Option V):Prop :=
 (∃ kvs k,Rd H a (.dK kvs)/\y=kV k/\r=valV kvs k) \/ ∃ kvs k b,Rd H a (.dT kvs)/\y=.ref b/\H b=some (.tup (k.map kV))/\r=valV kvs k
def DPut (H:Hp) (a:Addr) (y v:V) (H':Hp):Prop :=
 (∃ kvs k,H a=some (.dK kvs)/\y=kV k/\kvs.length < sizeLine/\H'=upd H a (.dK (putK kvs k v))) \/
 ∃ kvs k b,H a=some (.dT kvs)/\y=.ref b/\H b=some (.tup (k.map kV))/\kvs.length < sizeLine/\H'=upd H a (.dT (putK kvs k v))
section
variable {X:Cx} {pins:List (Addr × Obj)} {σ:St} {H:Hp} {s:Shared} {a:Addr} {y v:V} {u r:Value} {o:Option V} {A:Around} {E:Value->Shared->Prop}
theorem Inv.big (I:Inv X pins σ H s):sysModules < s.heap.objs.size:=by
 have h:mainGlobals < s.heap.objs.size:=(I.mod.glob.keeps I.bk).lt
 exact Nat.lt_trans (by decide) h
theorem zkR {h':Heap} {t':Nat} {ob:HO} (I:Inv X pins σ H s) (mu:Mut (H a)) (hs:Heap.SameBut a s.heap h') (he:∃ q,h'.get? a=some q) (new:ObjOk X.prog X.w (upd H a ob) h' a ob) :
  Inv X pins σ (upd H a ob) { s with heap:=h',toks:=t' } :=
 I.write (x:=a) (e:=a) mu (.inl rfl) (fun b q hb z=>(hs.2 b hb).trans z) he new
theorem zpv {P:Program} {w:World} {H':Hp} {h':Heap} {kvs:List (Key × V)} {vs:List (Key × Value)} (z:kvs.length<=sizeLine) (hd:(a == sysModules)=false) (rel:KV kvs vs) (dd:h'.DictOf (mixKind P w) a vs) :
  ObjOk P w H' h' a (.dK kvs):=⟨z,hd,vs,rel,dd⟩
theorem znf {H':Hp} {Q:Unit->Shared->Prop} (hu:A.units+1 < cLine) (I:Inv X pins σ H s) (g:DPut H a y v H') (ry:RelV y u) (rv:RelV v r) (h:∀ s',Inv X pins σ H' s'->Q () s') :
  wpAny (model X.prog X.w) A (setItem (.ref a) u r) Q E s:=by
 rcases g with ⟨kvs,k,e,ey,l,eH⟩ | ⟨kvs,k,b,e,ey,eb,l,eH⟩
 ·subst ey eH
  obtain ⟨z,hd,vs,rel,dd⟩:=zsk I.hok e
  have hz:vs.length<=sizeLine:=by rw [<- rel.length]; exact z
  have hl:(putK kvs k v).length<=sizeLine:=by have:=zeR kvs k v; omega
  refine wpAny_setItem_pairs (hsz:=hz) (zoa ry) dd fun h' dd' hs=>h _ ?_
  have he:∃ q,h'.get? a=some q:=let ⟨q,_,_,hq,_⟩:=dd'; ⟨q,hq⟩
  exact zkR I (by rw [e]; exact True.intro) hs he (zpv hl hd (rel.put k rv) dd')
 ·subst ey eH
  cases (show u=Value.ref b from ry)
  obtain ⟨z,hd,xs,rel,dd⟩:=zsY I.hok e
  have hz:xs.length<=sizeLine:=by rw [<- Paired.length rel]; exact z
  have hl:(putK kvs k v).length<=sizeLine:=by have:=zeR kvs k v; omega
  refine wpAny_setItem_heap (hsz:=hz) (tupleKind_room_in1 hu) (zmI I.hok eb) dd fun h' dd' hs=>h _ ?_
  obtain ⟨q,es,ep,hq,h2,h3,h4,_,h5⟩:=dd'
  refine zkR I (by rw [e]; exact True.intro) hs ⟨q,hq⟩ ⟨hl,hd,_,(rel.put k eb rv).keeps fun c ys ec=>?_,q,es,ep,hq,h2,h3,h4,h5⟩
  rw [zR (zsM ec e (fun z=>nomatch z))]
  exact ec
end
section
variable {X:Cx} {pins:List (Addr × Obj)} {σ:St} {H:Hp} {s:Shared} {a:Addr} {kvs:List (Key × V)} {k:Key} {u:Value} {A:Around} {E:Value->Shared->Prop}
end
def sDPut (td ty tv:TE):TS:=fun D σ H=>tv σ H fun v H1=>td σ H1 fun x H2=>ty σ H2 fun y H3=>∃ a H4,x=.ref a/\DPut H3 a y v H4/\D.nx σ H4
section
variable {X:Cx} {o i e value:Expr} {pos pos' tpos:Pos} {td ty tv:TE}
theorem zpO (hu:X.A.units+1 < cLine) (ho:PE X o td) (hi:PE X i ty) (hv:PE X value tv) (hs:swapsWith value (some (.Subscript o i pos')) pos.line X.env=pure false) :
  PS X (.Assign [.Subscript o i pos'] value pos) (sDPut td ty tv):=by
 intro pins s σ H D I h
 refine wpAny_Assign_Subscript (thn (hv pins s σ H _ I h) fun r s1 ⟨v,H1,I1,rv,q1⟩=>thn (ho pins s1 σ H1 _ I1 q1) fun u s2 ⟨x,H2,I2,rx,q2⟩=>thn (hi pins s2 σ H2 _ I2 q2) fun iv s3 ⟨y,H3,I3,ry,a,H4,ex,g,q3⟩=>?_) hs
 subst ex
 obtain rfl:u=Value.ref a:=rx
 exact znf hu I3 g ry rv fun s4 I4=>⟨σ,H4,I4,q3⟩
end
theorem zo4 {P:Program} {w:World} {H:Hp} (h:Heap) (hb:sysModules < h.objs.size):ObjOk P w H (h.push { cls:=.type "dict",data:=.dict #[] }) h.objs.size (.dK []) :=
 ⟨Nat.zero_le _,beq_eq_false_iff_ne.mpr (Ne.symm (Nat.ne_of_lt hb)),[],.nil,Heap.DictOf.new h⟩
theorem zpf {P:Program} {w:World} {H:Hp} (h:Heap) (hb:sysModules < h.objs.size):ObjOk P w H (h.push { cls:=.type "dict",data:=.dict #[] }) h.objs.size (.dT []) :=
 ⟨Nat.zero_le _,beq_eq_false_iff_ne.mpr (Ne.symm (Nat.ne_of_lt hb)),[],.nil,_,#[],0,Heap.get?_push_size _ rfl,⟨rfl,rfl,rfl⟩,rfl,rfl,List.nodup_nil⟩
def tDNewT:TE:=fun _ H Q=>∀ p,H p=none->Q (.ref p) (upd H p (.dT []))
section
variable {X:Cx} {pos:Pos}
theorem pe_dnewT:PE X (.Dict [] [] pos) tDNewT:=fun pins s σ H Q I h =>
 wpAny_Dict_empty ⟨.ref s.heap.objs.size,_,I.laid (a:=s.heap.objs.size) (o:=.dT []) (t':=s.toks) (fun _ _ q=>Heap.get?_push_of_some _ q) (Nat.le_refl _) (zpf s.heap I.big),rfl,h _ (I.hok.fresh (Nat.le_refl _))⟩
end
def tPairs:List (TE × TE)->St->Hp->(List (V × V)->Hp->Prop)->Prop
 | [],_,H,Q=>Q [] H
 | (tk,tv) :: r,σ,H,Q=>tk σ H fun x H1=>tv σ H1 fun y H2=>tPairs r σ H2 fun ps H3=>Q ((x,y) :: ps) H3
abbrev VV:List (V × V)->List (Value × Value)->Prop:=Paired fun p q=>RelV p.1 q.1/\RelV p.2 q.2
def PPs (X:Cx) (pos:Pos) (keys:List (Option Expr)) (values:List Expr) (trs:List (TE × TE)):Prop :=
 ∀ (pins:List (Addr × Obj)) (s:Shared) (σ:St) (H:Hp) (Q:List (V × V)->Hp->Prop),Inv X pins σ H s->tPairs trs σ H Q ->
  wpAny (model X.prog X.w) X.A (evalPairs (pairTrees keys values X.env pos)) (fun vs s'=>∃ ps H',Inv X pins σ H' s'/\VV ps vs/\Q ps H') X.xe s
theorem zqa {X:Cx} {pos:Pos}:PPs X pos [] [] []:=fun pins s σ H Q I h=>pairTrees_nil_walk ⟨[],H,I,.nil,h⟩
theorem zoC {X:Cx} {pos:Pos} {k v:Expr} {ks:List (Option Expr)} {vs:List Expr} {tk tv:TE} {trs:List (TE × TE)} (hk:PE X k tk) (hv:PE X v tv) (hr:PPs X pos ks vs trs) :
  PPs X pos (some k :: ks) (v :: vs) ((tk,tv) :: trs):=fun pins s σ H Q I h =>
 pairTrees_cons_walk (thn (hk pins s σ H _ I h) fun u s1 ⟨x,H1,I1,rx,q1⟩=>thn (hv pins s1 σ H1 _ I1 q1) fun w2 s2 ⟨y,H2,I2,ry,q2⟩ =>
  thn (hr pins s2 σ H2 _ I2 q2) fun ws s3 ⟨ps,H3,I3,rel,q3⟩=>⟨(x,y) :: ps,H3,I3,.cons ⟨rx,ry⟩ rel,q3⟩)
def mergeK (kvs more:List (Key × V)):List (Key × V):=more.foldl (fun acc kv=>putK acc kv.1 kv.2) kvs
theorem KV.merge:∀ {more:List (Key × V)} {rs:List (Key × Value)} {kvs:List (Key × V)} {vs:List (Key × Value)},KV more rs->KV kvs vs->KV (mergeK kvs more) (merged vs rs):=by
 intro more rs kvs vs r
 unfold KV at r
 induction r generalizing kvs vs with
 | nil=>intro q; exact q
 | @cons p q ps qs h t ih =>
  intro r0
  have e:KV (putK kvs p.1 p.2) (stored vs q.1 q.2):=by
   have:=r0.put p.1 h.2
   rw [<- h.1]; exact this
  exact ih e
theorem zfC:∀ (more kvs:List (Key × V)),(mergeK kvs more).length<=kvs.length+more.length
 | [],kvs=>by show kvs.length<=kvs.length+0; omega
 | p :: r,kvs=>by
  have h1:=zfC r (putK kvs p.1 p.2)
  have h2:=zeR kvs p.1 p.2
  show (mergeK (putK kvs p.1 p.2) r).length<=_
  rw [List.length_cons]; omega
theorem zij {P:Program} {w:World}:∀ {kvs:List (Key × V)} {ws:List (Value × Value)},VV (kvs.map fun kv=>(kV kv.1,kv.2)) ws->∃ rs,Carries (mixKind P w) ws rs/\KV kvs rs
 | [],_,r=>by rw [List.map_nil] at r; cases r; exact ⟨[],True.intro,.nil⟩
 | p :: kvs,_,r=>by
  rw [List.map_cons] at r
  cases r with
  | @cons a b as bs h t =>
   obtain ⟨rs,c,q⟩:=zij (P:=P) (w:=w) t
   obtain ⟨b1,b2⟩:=b
   exact ⟨(p.1,b2) :: rs,⟨zoa h.1,rfl,c⟩,.cons ⟨rfl,h.2⟩ q⟩
def tDisp (trs:List (TE × TE)):TE:=fun σ H Q=>∀ p,H p=none->tPairs trs σ (upd H p (.dK [])) fun ps H2=>H2 p=some (.dK [])/\∃ kvs:List (Key × V),ps=kvs.map (fun kv=>(kV kv.1,kv.2))/\kvs.length<=15/\Q (.ref p) (upd H2 p (.dK (mergeK [] kvs)))
theorem zqb {X:Cx} {pos:Pos} {keys:List (Option Expr)} {values:List Expr} {trs:List (TE × TE)} (h:PPs X pos keys values trs) (hall:keys.all (·.isSome)=true) (hl:keys.length=values.length) (h0:keys ≠ [])
  (h15:keys.length<=15):PE X (.Dict keys values pos) (tDisp trs):=by
 intro pins s σ H Q I q
 have hn:=I.hok.fresh (Nat.le_refl s.heap.objs.size)
 have I1:=I.laid (a:=s.heap.objs.size) (o:=.dK []) (h':=s.heap.push { cls:=.type "dict",data:=.dict #[] }) (t':=s.toks) (fun _ _ q=>Heap.get?_push_of_some _ q) (Nat.le_refl _) (zo4 s.heap I.big)
 refine wpAny_Dict_walk (knd:=mixKind X.prog X.w) hall hl h0 h15 (thn (h pins _ σ _ _ I1 (q _ hn)) fun ws s2 ⟨ps,H2,I2,rel,e,kvs,ep,lk,q2⟩=>?_)
 subst ep
 obtain ⟨rs,c,rk⟩:=zij (P:=X.prog) (w:=X.w) rel
 obtain ⟨z,hd,vs0,r0,dd⟩:=zsk I2.hok e
 cases r0
 refine ⟨rs,c,dd,fun h' dd' hs=>⟨.ref s.heap.objs.size,_,?_,rfl,q2⟩⟩
 have hz:(mergeK [] kvs).length<=sizeLine:=by
  have h1:=zfC kvs []
  rw [List.length_nil] at h1
  rw [sizeLine_eq]; omega
 have he:∃ q,h'.get? s.heap.objs.size=some q:=let ⟨q,_,_,hq,_⟩:=dd'; ⟨q,hq⟩
 exact zkR I2 (by rw [e]; exact True.intro) hs he (zpv hz hd (rk.merge .nil) dd')
structure M2 (X:Cx) (o:Expr) (m:Str) (apos:Pos) (e f:Expr) (cpos:Pos):Prop where
 base:attributeBase o m X.env (eval o X.env)=eval o X.env
 few:((backTo cpos (starEach [e,f] X.env)).all (fun x=>!x.1) && (backToKw cpos (keywordEach [] X.env)).all (fun x=>x.1.isSome)
  && decide (([e,f]:List Expr).length+([]:List Keyword).length+(if ([]:List Keyword).isEmpty then 0 else 1) < 30))=true
 line:(apos.endLine == cpos.line)=true
 trees:backTo cpos (starEach [e,f] X.env)=[(false,eval e X.env),(false,eval f X.env)]
def IsD (H:Hp) (a:Addr):Prop:=(∃ kvs,Rd H a (.dK kvs)) \/ ∃ kvs,Rd H a (.dT kvs)
theorem zrH {X:Cx} {pins:List (Addr × Obj)} {σ:St} {H:Hp} {s:Shared} {a:Addr} (I:Inv X pins σ H s) (d:IsD H a) :
  s.TypeIs (.ref a) "dict"/\(∀ b,Value.ref a=.ref b->∃ ob,s.heap.get? b=some ob/\ob.dict=none)/\(a == sysModules)=false:=by
 rcases d with ⟨kvs,e⟩ | ⟨kvs,e⟩
 ·obtain ⟨_,hd,vs,_,dd⟩:=zp8 I.hok e
  refine ⟨dd.typeIs,fun b q=>?_,hd⟩
  cases q
  obtain ⟨ob,_,_,h1,h2,_⟩:=dd
  exact ⟨ob,h1,h2.2.1⟩
 ·obtain ⟨_,hd,xs,_,dd⟩:=zqP I.hok e
  refine ⟨dd.typeIs,fun b q=>?_,hd⟩
  cases q
  obtain ⟨ob,_,_,h1,h2,_⟩:=dd
  exact ⟨ob,h1,h2.2.1⟩
section
variable {X:Cx} {pins:List (Addr × Obj)} {σ:St} {H:Hp} {s:Shared} {a:Addr} {y d:V} {u r:Value} {o:Option V} {A:Around} {E:Value->Shared->Prop}
theorem zrf {Q:Value->Shared->Prop} (hu:A.units+1 < cLine) (I:Inv X pins σ H s) (g:DGet H a y o) (ry:RelV y u) (rd:RelV d r) (h:∀ w' s',Inv X pins σ H s'->RelV (o.getD d) w'->Q w' s') :
  wpAny (model X.prog X.w) A (call (.builtin "dict.get") [.ref a,u,r]) Q E s:=by
 rcases g with ⟨kvs,k,e,ey,l⟩ | ⟨kvs,k,b,e,ey,eb,l⟩
 ·subst ey
  obtain ⟨z,hd,vs,rel,dd⟩:=zp8 I.hok e
  refine call_meetsIn PySem.F.slot_dict_get dd.typeIs PySem.F.entry_dict_get (PySem.F.args_dict_get_3 _ _ _) (meets_dict_get_default (mixKind X.prog X.w) a (zoa ry) hd r) ⟨_,dd.mapOf,h _ _ (I.tok _) ?_⟩
  rw [l]
  exact (rel.val k).getD rd
 ·subst ey
  cases (show u=Value.ref b from ry)
  obtain ⟨z,hd,xs,rel,dd⟩:=zqP I.hok e
  refine call_meetsIn PySem.F.slot_dict_get dd.typeIs PySem.F.entry_dict_get (PySem.F.args_dict_get_3 _ _ _) (meetsH_dict_get_default (tupleKind (mixKind X.prog X.w)) a b hd r) ⟨tupleKind_room_in1 hu,k,xs,zmI I.hok eb,dd,h _ _ (I.tok _) ?_⟩
  rw [l]
  exact (rel.val k).getD rd
end
def tDGet2 (td ty tx:TE):TE:=fun σ H Q=>td σ H fun x H1=>∃ a,x=.ref a/\IsD H1 a/\ty σ H1 fun y H2=>tx σ H2 fun z H3=>∃ o,DGet H3 a y o/\Q (o.getD z) H3
section
variable {X:Cx} {o e f:Expr} {apos cpos:Pos} {td ty tx:TE}
theorem zo3 (hu:X.A.units+1 < cLine) (ho:PE X o td) (he:PE X e ty) (hf:PE X f tx) (m:M2 X o "get" apos e f cpos):PE X (.Call (.Attribute o "get" apos) [e,f] [] cpos) (tDGet2 td ty tx):=by
 intro pins s σ H Q I h
 refine wpAny_Call_method m.base m.few m.line PySem.F.plainAttrs_dict PySem.F.slot_dict_get PySem.F.type_dict_get (thn (ho pins s σ H _ I h) fun u s1 ⟨x,H1,I1,rx,a,ex,d,q1⟩=>?_)
 subst ex
 obtain rfl:u=Value.ref a:=rx
 obtain ⟨t1,t2,_⟩:=zrH I1 d
 refine ⟨t1,t2,?_⟩
 rw [m.trees]
 refine Calls.callWith_builtin rfl (Calls.evalArgs_plain (Calls.spliced_cons (thn (he pins s1 σ H1 _ I1 q1) fun iv s2 ⟨y,H2,I2,ry,q2⟩ =>
  Calls.spliced_cons (thn (hf pins s2 σ H2 _ I2 q2) fun fv s3 ⟨z,H3,I3,rz,ov,g,q3⟩=>Calls.spliced_nil ?_))))
 exact zrf hu I3 g ry rz fun w' s4 I4 rw'=>⟨_,H3,I4,rw',q3⟩
end
section
variable {X:Cx} {pins:List (Addr × Obj)} {σ:St} {H:Hp} {s:Shared} {a:Addr} {kvs:List (Key × V)} {A:Around} {E:Value->Shared->Prop}
end
section
variable {X:Cx} {pins:List (Addr × Obj)} {σ:St} {H:Hp} {s:Shared} {a:Addr} {y:V} {u:Value} {A:Around} {E:Value->Shared->Prop}
end
end L2
namespace WE
open PySem PySem.Spec PyProof.Rows
open AutoSeq1 (wpAny_loadPart')
section
variable {pg:Program} {wd:World} {A:Around} {Er:Value->Shared->Prop} {s:Shared}
theorem zlF {it t:Addr} {i:Nat} {xs:Array Value} {x:Value} {Q:Value->Shared->Prop} (hi:s.heap.IsTupleIter it t i) (ht:s.heap.IsTuple t xs) (hx:xs[i]?=some x)
  (k:∀ h',h'.IsTupleIter it t (i+1)->Heap.SameBut it s.heap h'->Q x { s with heap:=h' }):wpAny (model pg wd) A (Builtin.SmallTypes.nextOf (.ref it)) Q Er s:=by
 obtain ⟨oi,gi,ci,di⟩:=id hi
 obtain ⟨ot,gt,_,nt,dt⟩:=ht
 unfold Builtin.SmallTypes.nextOf
 refine wpAny_bind (wpAny_callSpecial?_slot (name:=Str.ofString "__next__") hi.typeIs F.slot_tuple_iterator_next (wpAny_call_entry F.slot_tuple_iterator_next hi.typeIs F.entry_tuple_iterator_next ?_ (F.args_tuple_iterator_next_1 _)))
 show wpAny _ _ (field (.ref it) 0 >>= _) _ _ _
 refine wpAny_bind (wpAny_field gi di (x:=.ref t) rfl ?_); show wpAny _ _ (if (Value.ref t == Value.none)=true then _ else _) _ _ _
 rw [if_neg (show ¬ ((Value.ref t == Value.none)=true) from fun z=>Bool.false_ne_true z)]; show wpAny _ _ (field (.ref it) 1 >>= _) _ _ _
 refine wpAny_bind (wpAny_field gi di (x:=.int i 0) rfl ?_); show wpAny _ _ (seqItems? (.ref t) >>= _) _ _ _
 refine wpAny_bind (wpAny_seqItems gt dt ?_)
 simp only [Int.toNat_natCast,hx]
 refine wpAny_bind (wpAny_setField gi di (by simp) (wpAny_pure ⟨x,rfl,wpAny_pure (k _ ?_ (Heap.SameBut.update ..))⟩))
 refine ⟨_,Heap.get?_update_self _ gi (Obj.isFreed_of_fields (Obj.data_mapFields di _)),(Obj.cls_mapFields ..).trans ci,?_⟩
 rw [Obj.data_mapFields di]; simp [rawInt]
theorem zm0 {it t:Addr} {i:Nat} {xs:Array Value} {Q:Value->Shared->Prop} (hh:A.handled=none) (hi:s.heap.IsTupleIter it t i) (ht:s.heap.IsTuple t xs) (hx:xs[i]?=none)
  (k:∀ h' e,Heap.ExtBut it s.heap h'->(∃ o,h'.get? e=some o/\o.cls=.type "StopIteration")->Er (.ref e) { s with heap:=h' }):wpAny (model pg wd) A (Builtin.SmallTypes.nextOf (.ref it)) Q Er s:=by
 obtain ⟨oi,gi,ci,di⟩:=id hi
 obtain ⟨ot,gt,_,nt,dt⟩:=ht
 unfold Builtin.SmallTypes.nextOf
 refine wpAny_bind (wpAny_callSpecial?_slot (name:=Str.ofString "__next__") hi.typeIs F.slot_tuple_iterator_next (wpAny_call_entry F.slot_tuple_iterator_next hi.typeIs F.entry_tuple_iterator_next ?_ (F.args_tuple_iterator_next_1 _)))
 show wpAny _ _ (field (.ref it) 0 >>= _) _ _ _
 refine wpAny_bind (wpAny_field gi di (x:=.ref t) rfl ?_); show wpAny _ _ (if (Value.ref t == Value.none)=true then _ else _) _ _ _
 rw [if_neg (show ¬ ((Value.ref t == Value.none)=true) from fun z=>Bool.false_ne_true z)]; show wpAny _ _ (field (.ref it) 1 >>= _) _ _ _
 refine wpAny_bind (wpAny_field gi di (x:=.int i 0) rfl ?_); show wpAny _ _ (seqItems? (.ref t) >>= _) _ _ _
 refine wpAny_bind (wpAny_seqItems gt dt ?_)
 simp only [Int.toNat_natCast,hx]
 refine wpAny_bind (wpAny_rule (wpAny_bind (wpAny_setField gi di (by simp) ?_))); show wpAny _ _ (newExc (.type "StopIteration") [] >>= _) _ _ _
 refine wpAny_bind ?_; simp only [newExc,newTuple]
 refine wpAny_bind (wpAny_newObj_type ?_ (by size_fits)); refine wpAny_bind (m:=firstArgMember _ _) (wpAny_of_eq (a:=Value.none) (by first | rfl | (simp only [firstArgMember]; rfl)) ?_)
 refine wpAny_newObj_type ?_ (by size_fits); simp only [raiseNew]
 refine wpAny_bind (wpAny_handled ?_); first | rw [show A.in1.handled=none from hh] | rw [hh]
 refine wpAny_bind (wpAny_pure (wpAny_throw ?_))
 exact k _ _ (((Heap.SameBut.update ..).extBut.push _).push _) ⟨_,Heap.get?_push_size _ rfl,rfl⟩
end
theorem draws_tuple {pg:Program} {wd:World} {A:Around} (hh:A.handled=none) (it t:Addr) (hne:t ≠ it) (xs:Array Value) :
  Draws pg wd A it [it,t] xs.size (fun i v=>xs[i]?=some v) (fun i h=>h.IsTupleIter it t i/\h.IsTuple t xs) where
 live:=fun _ _ st=>let ⟨o,g,_⟩:=st.1; ⟨o,g⟩
 frame:=fun _ _ _ st kp=>⟨let ⟨o,g,r⟩:=st.1; ⟨o,kp it (by simp) o g,r⟩,let ⟨o,g,r⟩:=st.2; ⟨o,kp t (by simp) o g,r⟩⟩
 item:=fun i s Q E hi st hQ=>zlF st.1 st.2 (x:=xs[i]) (by simp [hi]) fun h' hit' hs'=>hQ _ h' s.toks (by simp [hi]) ⟨hit',st.2.extBut hs'.extBut hne⟩ hs'
 done:=fun s Q E st hE=>zm0 hh st.1 st.2 (by simp) hE
theorem zkd (l:Addr) (xs:Array Value) (n:Nat) (dc:Option Addr) (sl:Array (Option Value)) :
  Meets (Builtin.«enumerate.__new__» ⟨[.type "enumerate",.ref l],[]⟩) (fun _ R s=>s.heap.get? l=some { cls:=.type "tuple",dict:=dc,data:=.seq xs n,slots:=sl } /\
   R (.ok (.ret (.ref (s.heap.push { cls:=.type "tuple_iterator",data:=.fields #[.ref l,.int 0 0] }).objs.size)))
    { s with heap:=(s.heap.push { cls:=.type "tuple_iterator",data:=.fields #[.ref l,.int 0 0] }).push { cls:=.type "enumerate",data:=.fields #[.none,.bool false,.ref s.heap.objs.size,rawInt 0,.none,.none] } }) :=
 .of_wp fun prog w A R s h=>by
  obtain ⟨hp,g,d,tk,os⟩:=s; obtain ⟨gl,h⟩:=h
  have hsub:=sub_enumerate
  have hT:Heap.IsTuple (Shared.heap ⟨hp,g,d,tk,os⟩) l xs:=⟨_,gl,rfl,n,rfl⟩
  wp_walk using wpAny_loadPart' gl
  refine wpAny_stack_any fun st=>wpAny_pure ?_
  split
  ·rename_i c _ _ _ _ _
   cases (c == Value.type "enumerate")
   ·wp_walk using wpAny_loadPart' gl,wpAny_pyIter_tuple hT
    exact ⟨_,rfl,h⟩
   ·wp_walk using wpAny_loadPart' gl,wpAny_pyIter_tuple hT
    exact ⟨_,rfl,h⟩
  ·wp_walk using wpAny_loadPart' gl,wpAny_pyIter_tuple hT
   exact ⟨_,rfl,h⟩
theorem call_enumT {pg:Program} {wd:World} {A:Around} {Er:Value->Shared->Prop} {s:Shared} {l:Addr} {xs:Array Value} {Q:Value->Shared->Prop} (hT:s.heap.IsTuple l xs)
  (k:∀ h',IsEnum h' (s.heap.objs.size+1) s.heap.objs.size 0 .none->h'.IsTupleIter s.heap.objs.size l 0->h'.objs.size=s.heap.objs.size+2 ->
   (∀ b o,s.heap.get? b=some o->h'.get? b=some o)->Q (.ref (s.heap.objs.size+1)) { s with heap:=h' }):wpAny (model pg wd) A (call (.type "enumerate") [.ref l]) Q Er s:=by
 obtain ⟨⟨c,dct,dt,sl⟩,gl,hc,n,hd⟩:=hT
 cases (show c=.type "tuple" from hc)
 cases (show dt=.seq xs n from hd)
 refine callType_new F.called_enumerate (by decide) (F.typeCall_enumerate_1 _) (F.newCall_enumerate_1 _) (fun obj=>F.args_object_init_2 obj _) F.entry_enumerate_new (zkd l xs n dct sl) ⟨gl,?_⟩
 have hz:(s.heap.push { cls:=.type "tuple_iterator",data:=.fields #[.ref l,.int 0 0] }).objs.size=s.heap.objs.size+1:=Heap.size_push ..
 show _/\_
 rw [hz]
 have he:IsEnum ((s.heap.push { cls:=.type "tuple_iterator",data:=.fields #[.ref l,.int 0 0] }).push { cls:=.type "enumerate",data:=.fields #[.none,.bool false,.ref s.heap.objs.size,rawInt 0,.none,.none] }) (s.heap.objs.size+1) s.heap.objs.size 0 .none:=by
  have q:=Heap.get?_push_size (s.heap.push { cls:=.type "tuple_iterator",data:=.fields #[.ref l,.int 0 0] }) (o:={ cls:=.type "enumerate",data:=.fields #[.none,.bool false,.ref s.heap.objs.size,rawInt 0,.none,.none] }) rfl
  rw [hz] at q; exact q
 exact ⟨⟨_,he,rfl⟩,k _ he ⟨_,Heap.get?_push_of_some _ (Heap.get?_push_size _ rfl),rfl,rfl⟩ (by rw [Heap.size_push,hz]) fun b o y=>Heap.get?_push_of_some _ (Heap.get?_push_of_some _ y)⟩
end WE
namespace L2
open PySem PySem.Spec PyProof.Rows
section
variable {X:Cx}
def CDivB (i j:Int):Prop:=0 < j/\j < 10000000000000000000000000000000000000000000000000000000000000000000000
theorem zoh:OpR X (binaryOp .FloorDiv) (rI CDivB fun i j=>.int (i / j)):=opI fun i j _ _ _ _ _ hc q=>by
 obtain ⟨h1,h2⟩:=hc
 refine floordiv_int (by omega) (by rw [Int.fdiv_eq_ediv_of_nonneg i (by omega)]; exact q) (.inl (PyProof.noPylong_of_log2 ?_))
 have h0:j.natAbs ≠ 0:=by omega
 refine Nat.lt_of_lt_of_le ((Nat.log2_lt h0).mpr (?_:j.natAbs < 2 ^ 250)) (by decide)
 have e:(10000000000000000000000000000000000000000000000000000000000000000000000:Nat) < 2 ^ 250:=by decide
 omega
end
section
variable {X:Cx} {pins:List (Addr × Obj)} {σ:St} {H:Hp} {s:Shared} {h':Heap}
theorem Inv.turnLaid {t':Nat} {ch:List Addr} {T:Addr} {o:HO} (I:Inv X pins σ H s) (hf:∀ b ∈ ch,FpOk X pins H b) (k:∀ b u,b ∉ ch->s.heap.get? b=some u->h'.get? b=some u)
  (hp:s.heap.objs.size<=T) (new:ObjOk X.prog X.w (upd H T o) h' T o):Inv X pins σ (upd H T o) { s with heap:=h',toks:=t' }:=by
 have hn:H T=none:=I.hok.fresh hp
 have nch:∀ b u,H b=some u->b ∉ ch:=fun b u e z=>by
  have q:=(hf b z).1
  rw [e] at q
  cases q
 refine I.step (g':=s.gens) (d':=s.drawn) (ch:=ch) (fun b hb=>?_) (fun b u _ _ hc e _=>k b u hc e) (fun b u _ _ hc e _=>⟨u.slots,k b u hc e⟩) (fun b u _ e n=>?_) (fun b u hc e=>⟨u,k b u hc e⟩) (fun b xs e=>?_) (fun b u v e=>?_) (fun b ps e=>⟨#[],?_⟩) (fun m hm=>?_) (fun b u e=>?_) I.bare
 ·obtain ⟨f0,f1,f2,f3,f4,f5⟩:=hf b hb
  exact ⟨f3,f1,f4,f5⟩
 ·rw [zR (Nat.ne_of_lt (Nat.lt_of_lt_of_le (Heap.lt_size e) hp))]
  exact n
 ·rw [zR (zae e hn)]
  exact e
 ·rw [zR (zae e hn)]
  exact e
 ·rw [zR (zae e hn),e]
  simp
 ·obtain ⟨ob,es,ep,ho,r⟩:=hm
  exact ⟨ob,es,ep,k _ ob (fun z=>(hf _ z).2.1 rfl) ho,r⟩
 ·by_cases hb:b=T
  ·subst hb
   rw [zav] at e
   cases e
   exact new
  ·rw [zR hb] at e
   refine (I.hok b u e).stay (fun c v hc q=>k c v ?_ q) (fun c q=>by rw [zR (zae q hn)]; exact q) fun c xs q=>by rw [zR (zae q hn)]; exact q
   rcases hc with z | z
   ·rw [z]
    exact nch b u e
   ·exact nch c _ z
theorem Inv.turnedL {t':Nat} {ch:List Addr} (I:Inv X pins σ H s) (hf:∀ b ∈ ch,FpOk X pins H b) (k:∀ b u,b ∉ ch->s.heap.get? b=some u->h'.get? b=some u):Inv X pins σ H { s with heap:=h',toks:=t' }:=by
 have nch:∀ b u,H b=some u->b ∉ ch:=fun b u e z=>by
  have q:=(hf b z).1
  rw [e] at q
  cases q
 refine I.step (g':=s.gens) (d':=s.drawn) (ch:=ch) (fun b hb=>?_) (fun b u _ _ hc e _=>k b u hc e) (fun b u _ _ hc e _=>⟨u.slots,k b u hc e⟩) (fun _ _ _ _ n=>n) (fun b u hc e=>⟨u,k b u hc e⟩) (fun _ _ e=>e) (fun _ _ _ e=>e) (fun b ps e=>⟨#[],by rw [e]; simp⟩) (fun m hm=>?_) (fun b u e=>?_) I.bare
 ·obtain ⟨f0,f1,f2,f3,f4,f5⟩:=hf b hb
  exact ⟨f3,f1,f4,f5⟩
 ·obtain ⟨ob,es,ep,ho,r⟩:=hm
  exact ⟨ob,es,ep,k _ ob (fun z=>(hf _ z).2.1 rfl) ho,r⟩
 ·refine (I.hok b u e).stay (fun c v hc q=>k c v ?_ q) (fun _ q=>q) fun _ _ q=>q
  rcases hc with z | z
  ·rw [z]
   exact nch b u e
  ·exact nch c _ z
end
def Ite (K:PySem.W.Frag) (a:Addr):It :=
 ⟨fun i H=>∃ xs x,SqT K H a xs/\xs[i]?=some x,fun i H x H'=>∃ T,H T=none/\x=.ref T/\∀ xs y,SqT K H a xs->xs[i]?=some y->H'=upd H T (.tup [.int i,y]),fun i H=>∃ xs,SqT K H a xs/\xs.length=i⟩
theorem zig {h:Heap} {a b:Addr} {o u:Obj} (x:h.get? a=some o) (y:h.get? b=some u) (z:o.cls ≠ u.cls):a ≠ b:=fun e=>by
 subst e
 rw [x] at y
 cases y
 exact z rfl
theorem zlK {P:Program} {w:World} {K:PySem.W.Frag} {es:List Expr} {kk:Nat} {pos:Pos} (a e it:Addr) :
  Turn P w K (.Tuple es kk pos) (Ite K a) [e,it] e (fun i h=>(∃ old,IsEnum h e it i old)/\h.IsTupleIter it a i) where
 mem:=by simp
 obj:=fun i h st b hb=>by
  obtain ⟨⟨old,he⟩,oi,gi,ci,di⟩:=st
  rcases List.mem_cons.mp hb with z | z
  ·subst z
   exact ⟨_,he,fun v y=>nomatch y⟩
  ·have z:b=it:=by simpa using z
   subst z
   exact ⟨oi,gi,fun v y=>by rw [di] at y; cases y⟩
 keep:=fun i h h' st k=>by
  obtain ⟨⟨old,he⟩,oi,gi,r⟩:=st
  exact ⟨⟨old,k e (by simp) _ he⟩,oi,k it (by simp) _ gi,r⟩
 item:=by
  intro X hP hw hK hc i pins s σ H E I hf st hg
  subst hP hw hK
  obtain ⟨xs,x,hq,hx⟩:=hg
  obtain ⟨its,rv,p,hz⟩:=I.tuple hq
  obtain ⟨⟨old,he⟩,hi⟩:=st
  obtain ⟨oi,gi,ci,di⟩:=id hi
  obtain ⟨oa,ga,ca,na,da⟩:=id p
  have nai:a ≠ it:=zig ga gi (by rw [ca,ci]; exact fun z=>absurd (Value.type.inj z) (by decide))
  have nei:e ≠ it:=zig he gi (by rw [ci]; exact fun z=>absurd (Value.type.inj z) (by decide))
  have nea:e ≠ a:=zig he ga (by rw [ca]; exact fun z=>absurd (Value.type.inj z) (by decide))
  have hl:=rv.length
  have hil:i < its.toArray.size:=by
   have:=(List.getElem?_eq_some_iff.mp hx).1
   simpa using (by omega:i < its.length)
  have W:=WalksT.enumerateD (prog:=X.prog) (w:=X.w) (A:=X.A) (WE.draws_tuple (pg:=X.prog) (wd:=X.w) (A:=X.A.in1) (I.ok.hd hc) it a nai its.toArray) e nei (by simp [nei,nea]) (by simp)
  refine W.item i s _ E hil ⟨⟨old,he⟩,hi,p⟩ fun T vals h1 tk hP hsz hT mid kp=>⟨.ref T,rfl,?_⟩
  refine W.go es kk pos i T _ _ E mid fun h2 st2 kp2=>?_
  obtain ⟨t,y,hy,rfl⟩:=hP
  obtain ⟨u,hu,ru⟩:=rv.get hx
  have ey:y=u:=Option.some.inj (hy.symm.trans (by simpa using hu))
  subst ey
  have hch:∀ b o,b ∉ [e,it]->s.heap.get? b=some o->h2.get? b=some o:=fun b o hb q=>kp2 b o hb (kp b o hb q)
  have hTw:=W.apart i T h1 mid
  have new:ObjOk X.prog X.w (upd H T (.tup [.int i,x])) h2 T (.tup [.int i,x]):=by
   obtain ⟨o,g,r⟩:=hT
   exact ⟨by show 2<=sizeLine; decide,[.int i t,y],.cons ⟨t,rfl⟩ (.cons ru .nil),o,kp2 T o hTw g,r⟩
  have I2:=I.turnLaid (t':=tk) hf hch hsz new
  refine ⟨.ref T,_,I2,rfl,⟨T,I.hok.fresh hsz,rfl,fun ys z hy' hz'=>?_⟩,⟨st2.1,st2.2.1⟩,fun b hb=>?_⟩
  ·rw [I.tuple_inj hy' hq] at hz'
   rw [hx] at hz'
   cases hz'
   rfl
  ·rw [zR (fun z:b=T=>hTw (z ▸ hb))]
   exact (hf b hb).1
 done:=by
  intro X hP hw hK hc i pins s σ H E I hf st hg
  subst hP hw hK
  obtain ⟨xs,hq,hx⟩:=hg
  obtain ⟨its,rv,p,hz⟩:=I.tuple hq
  obtain ⟨⟨old,he⟩,hi⟩:=st
  obtain ⟨oi,gi,ci,di⟩:=id hi
  obtain ⟨oa,ga,ca,na,da⟩:=id p
  have nai:a ≠ it:=zig ga gi (by rw [ca,ci]; exact fun z=>absurd (Value.type.inj z) (by decide))
  have nei:e ≠ it:=zig he gi (by rw [ci]; exact fun z=>absurd (Value.type.inj z) (by decide))
  have nea:e ≠ a:=zig he ga (by rw [ca]; exact fun z=>absurd (Value.type.inj z) (by decide))
  have hl:=rv.length
  have W:=WalksT.enumerateD (prog:=X.prog) (w:=X.w) (A:=X.A) (WE.draws_tuple (pg:=X.prog) (wd:=X.w) (A:=X.A.in1) (I.ok.hd hc) it a nai its.toArray) e nei (by simp [nei,nea]) (by simp)
  have en:its.toArray.size=i:=by simp; omega
  refine W.done s _ E (by rw [en]; exact ⟨⟨old,he⟩,hi,p⟩) fun h2 tk kp=>⟨rfl,I.turnedL (t':=tk) hf kp⟩
 self:=fun _ _ _ _ _ st q=>by
  obtain ⟨⟨old,he⟩,_⟩:=st
  exact wpAny_pyIter_enum he q
def iEnT (K:PySem.W.Frag) (ta:TA):TI:=fun σ H R=>ta σ H fun vs H1=>∃ a,vs=[.ref a]/\(∃ xs,SqT K H1 a xs)/\R (Ite K a) H1
theorem zoK {X:Cx} {a:Expr} {es:List Expr} {kk:Nat} {tp:Pos} {ta:TA} {p pos:Pos} (hg:Gl X "enumerate") (hm:X.mg "enumerate"=none) (ha:PA X [a] ta) (hs:starEach [a] X.env=[(false,eval a X.env)]:=by rfl) :
  PI X (.Tuple es kk tp) (.Call (.Name "enumerate" p) [a] [] pos) (iEnT X.K ta):=by
 intro pins s σ H R I h
 refine wpAny_Call_Name_kw (zik I hg hm boot_enumerate ?_)
 refine PyProof.Rows.callWith_type1 (thn (ha pos pins s σ H _ I h) fun us s1 ⟨vs,H1,I1,r1,q1⟩=>?_) hs rfl
 obtain ⟨l,rfl,⟨xs,hq⟩,q⟩:=q1
 obtain ⟨u,rfl,ru⟩:=Vals.one r1
 cases (show u=Value.ref l from ru)
 obtain ⟨its,rv,pt,hz⟩:=I1.tuple hq
 refine WE.call_enumT (show s1.heap.IsTuple l its.toArray from pt) fun h1 he hi hsz kp=>?_
 refine wpAny_pyIter_enum he ?_
 refine ⟨_,[s1.heap.objs.size+1,s1.heap.objs.size],_,_,H1,rfl,I1.kept (t':=s1.toks) kp,zlK l _ s1.heap.objs.size,⟨⟨_,he⟩,hi⟩,fun b hb=>?_,q⟩
 have hb2:s1.heap.objs.size<=b:=by
  rcases List.mem_cons.mp hb with z | z
  ·subst z
   exact Nat.le_succ _
  ·have z:b=s1.heap.objs.size:=by simpa using z
   subst z
   exact Nat.le_refl _
 exact I1.fpOk hb2 (I1.hok.fresh hb2)
abbrev No:Value->Shared->Prop:=fun _ _=>False
abbrev ifsOf (ifs:List Expr) (env:Env):Sem Bool:=forIn ifs true fun c r=>if r=true then do let ok <- isTrue c env (eval c env); pure (ForInStep.yield ok) else pure (ForInStep.yield r)
section
variable {pg:Program} {wd:World} {A:Around} {R:Result->Shared->Prop} {s:Shared}
theorem znH {elt tg iter:Expr} {ifs:List Expr} {sc:Scope} {pos:Pos} {it acc:Value} {env:Env} (I:Nat->Shared->Prop)
  (turn:∀ n s,I n s->wpAny (model pg wd) A (pyNext it) (fun r s1=>match r with
   | none=>R (.ok .next) s1
   | some v=>wpAny (model pg wd) A (letOwnedTupleGo tg it v) (fun _ s2=>wpAny (model pg wd) A (assign tg env v) (fun _ s3=>wpAny (model pg wd) A (ifsOf ifs env) (fun ok s4 =>
     if ok=true then wpAny (model pg wd) A (eval elt env) (fun x s5=>wpAny (model pg wd) A (call (.builtin "list.append") [acc,x]) (fun _ s6=>∃ m,m < n/\I m s6) No s5) No s4
     else ∃ m,m < n/\I m s4) No s3) No s2) No s1) No s)
  (n:Nat) (h:I n s):codeAny (model pg wd) A (.compLoop (.ListComp elt [⟨tg,iter,ifs,0⟩] sc pos) 0 it acc env) R s:=by
 refine codeAny_loop rfl I (fun n s hI=>?_) n h
 show wpAny _ A ((compTurn (.ListComp elt [⟨tg,iter,ifs,0⟩] sc pos) 0 it acc env).onRaise (fun x=>do noteFrame x env; theTreesLotGoes x)) _ _ s
 refine wpAny_noted ?_
 rw [compTurn_list]
 refine wpAny_bind (wpAny_standAt (wpAny_bind (wpAny_mono (turn n s hI) (fun r s1 h1=>?_) fun _ _ f=>f.elim)))
 cases r with
 | none=>exact wpAny_pure h1
 | some v =>
  refine wpAny_bind (wpAny_mono h1 (fun _ s2 h2=>wpAny_bind (wpAny_mono h2 (fun _ s3 h3=>wpAny_bind (wpAny_mono h3 (fun ok s4 h4=>?_) fun _ _ f=>f.elim)) fun _ _ f=>f.elim)) fun _ _ f=>f.elim)
  cases ok with
  | false=>exact wpAny_pure ⟨rfl,h4⟩
  | true=>exact wpAny_bind (wpAny_bind (wpAny_mono h4 (fun x s5 h5=>wpAny_bind (wpAny_mono h5 (fun _ s6 h6=>wpAny_pure (wpAny_pure ⟨rfl,h6⟩)) fun _ _ f=>f.elim)) fun _ _ f=>f.elim))
end
def clStep (env:Env) (r:List (Str × Addr)) (x:Str × NameKind):List (Str × Addr):=if x.2=.free then (x.1,(env.cells.lookup x.1).getD 0) :: r else r
def clOf (sc:Scope) (env:Env):List (Str × Addr):=sc.names.foldl (clStep env) []
theorem zlM {α β:Type} {l:List α} {f:α->β->Sem (ForInStep β)} {g:β->α->β} (h:∀ x ∈ l,∀ c,f x c=pure (.yield (g c x))):∀ c:β,forIn l c f=pure (l.foldl g c):=by
 induction l with
 | nil=>exact fun _=>rfl
 | cons x l ih =>
  intro c
  rw [List.forIn_cons,h x List.mem_cons_self,pure_bind,List.foldl_cons]
  exact ih (fun y hy=>h y (List.mem_cons_of_mem _ hy)) (g c x)
theorem zg7 {sc:Scope} {env:Env} (hf:∀ y ∈ sc.names,y.2=.free->∃ c,env.cells.lookup y.1=some c):closureFor sc env=pure (clOf sc env):=by
 simp only [closureFor]
 rw [zlM (g:=clStep env) (fun x hx c=>?_)]
 ·rfl
 ·obtain ⟨n,k⟩:=x
  by_cases hk:k=.free
  ·subst hk
   obtain ⟨a,ha⟩:=hf _ hx rfl
   have ha':env.cells.lookup n=some a:=ha
   simp [clStep,cellOf,ha']
  ·have hb:(k == NameKind.free)=false:=by simpa using hk
   simp [clStep,hk,hb]
theorem zh4 {env:Env}:∀ (l:List (Str × NameKind)) (r:List (Str × Addr)),(∀ y ∈ l,y.2=.free->∃ c,env.cells.lookup y.1=some c)->(∀ x c,r.lookup x=some c->env.cells.lookup x=some c) ->
  ∀ x c,(l.foldl (clStep env) r).lookup x=some c->env.cells.lookup x=some c
 | [],r,_,h=>h
 | y :: l,r,hf,h=>by
  refine zh4 l (clStep env r y) (fun z hz=>hf z (List.mem_cons_of_mem _ hz)) fun x c e=>?_
  unfold clStep at e
  by_cases hk:y.2=.free
  ·obtain ⟨a,ha⟩:=hf y List.mem_cons_self hk
   rw [if_pos hk,List.lookup_cons] at e
   cases hx:x == y.1 with
   | true =>
    rw [hx,ha] at e
    rw [eq_of_beq hx,ha]
    exact e
   | false =>
    rw [hx] at e
    exact h x c e
  ·rw [if_neg hk] at e
   exact h x c e
theorem zhd {env:Env} {x:Str}:∀ (l:List (Str × NameKind)) (r:List (Str × Addr)),(∃ c,r.lookup x=some c)->∃ c,(l.foldl (clStep env) r).lookup x=some c
 | [],r,h=>h
 | y :: l,r,h=>by
  refine zhd l (clStep env r y) ?_
  unfold clStep
  by_cases hk:y.2=.free
  ·rw [if_pos hk,List.lookup_cons]
   cases hx:x == y.1 with
   | true=>exact ⟨_,rfl⟩
   | false=>exact h
  ·rw [if_neg hk]
   exact h
theorem zfR {env:Env}:∀ (l:List (Str × NameKind)) (r:List (Str × Addr)),∀ y ∈ l,y.2=.free->∃ c,(l.foldl (clStep env) r).lookup y.1=some c
 | [],_,y,hy,_=>nomatch hy
 | z :: l,r,y,hy,hk=>by
  rcases List.mem_cons.mp hy with e | e
  ·subst e
   refine zhd l (clStep env r y) ?_
   unfold clStep
   rw [if_pos hk,List.lookup_cons,beq_self_eq_true]
   exact ⟨_,rfl⟩
  ·exact zfR l (clStep env r z) y e hk
theorem mem_of_lookup {β:Type} {x:Str} {k:β}:∀ {l:List (Str × β)},l.lookup x=some k->(x,k) ∈ l
 | [],h=>nomatch h
 | y :: l,h=>by
  rw [List.lookup_cons] at h
  cases hx:x == y.1 with
  | true =>
   rw [hx] at h
   cases h
   rw [eq_of_beq hx]
   exact List.mem_cons_self
  | false =>
   rw [hx] at h
   exact List.mem_cons_of_mem _ (mem_of_lookup h)
def relK (env:Env) (x:Str) (k:NameKind):NameKind:=if (k == .free && env.scope.kind == .function && env.kindOf x == some .cell)=true then .cell else k
theorem zh6 {sc:Scope} {env:Env} (x:Str):(relabel sc env).names.lookup x=(sc.names.lookup x).map (relK env x):=by
 unfold relabel
 show (sc.names.map fun (n,k)=>if (k == NameKind.free && env.scope.kind == .function && env.kindOf n == some .cell) then (n,NameKind.cell) else (n,k)).lookup x=_
 induction sc.names with
 | nil=>rfl
 | cons y l ih =>
  obtain ⟨n,k⟩:=y
  rw [List.map_cons]
  show List.lookup x ((if (k == NameKind.free && env.scope.kind == .function && env.kindOf n == some .cell)=true then (n,NameKind.cell) else (n,k)) :: _)=_
  cases hx:x == n with
  | true =>
   have e:=eq_of_beq hx
   subst e
   by_cases hc:(k == NameKind.free && env.scope.kind == .function && env.kindOf x == some .cell)=true
   ·rw [if_pos hc,List.lookup_cons,beq_self_eq_true]
    simp [relK,hc]
   ·rw [if_neg hc,List.lookup_cons,beq_self_eq_true]
    simp [relK,hc]
  | false =>
   by_cases hc:(k == NameKind.free && env.scope.kind == .function && env.kindOf n == some .cell)=true
   ·rw [if_pos hc]
    simp only [List.lookup_cons,hx]
    exact ih
   ·rw [if_neg hc]
    simp only [List.lookup_cons,hx]
    exact ih
structure CI where
 C:Addr
 s:Shared
 H:Hp
 fp:List Addr
def cxC (X:Cx) (sc:Scope) (NC:List Str) (j:CI):Cx where
 prog:=X.prog
 w:=X.w
 K:=X.K
 mg:=X.mg
 base:=X.base
 A:=X.A
 N:=NC
 s₀:=j.s
 H₀:=j.H
 env:=compEnvC sc (clOf sc X.env) j.C X.env
 outer:=X.stack
 stack:=X.stack
 ex:=j.fp
 fn:=fun _=>false
 calm:=X.calm
 pn:=[]
 xe:=No
def inn (slots:List (Option Nat)) (σ:St):St:=slots.map fun o=>o.bind fun j=>(σ[j]?).join
structure CompOk (X:Cx) (sc:Scope) (NC:List Str) (slots:List (Option Nat)):Prop where
 kind:sc.kind=.function
 names:∀ y ∈ sc.names,y.2=.local->sc.names.lookup y.1=some .local
 nocell:∀ y ∈ sc.names,y.2 ≠ .cell
 free:∀ y ∈ sc.names,y.2=.free->X.env.scope.names.lookup y.1=some .cell
 slot:∀ (i:Nat) (x:Str) (j:Nat),NC[i]?=some x->slots[i]?=some (some j)->X.N[j]?=some x/\sc.names.lookup x=some .free
 len:slots.length=NC.length
theorem compOk {X:Cx} {sc:Scope} {NC:List Str} {slots:List (Option Nat)} (N:List Str) (so:Scope) (hN:X.N=N) (hs:X.env.scope=so) (kind:sc.kind=.function)
  (names:∀ y ∈ sc.names,y.2=.local->sc.names.lookup y.1=some .local) (nocell:∀ y ∈ sc.names,y.2 ≠ .cell) (free:∀ y ∈ sc.names,y.2=.free->so.names.lookup y.1=some .cell)
  (slot:∀ p ∈ NC.zip slots,(p.2.all fun j=>decide (N[j]?=some p.1/\sc.names.lookup p.1=some .free))=true) (len:slots.length=NC.length):CompOk X sc NC slots:=by
 subst hN hs
 refine ⟨kind,names,nocell,free,fun i x j e1 e2=>?_,len⟩
 have hm:(x,some j) ∈ NC.zip slots:=List.mem_of_getElem? (i:=i) (by rw [List.getElem?_zip_eq_some]; exact ⟨e1,e2⟩)
 have:=slot _ hm
 simpa using this
section
variable {X:Cx} {sc:Scope} {NC:List Str} {slots:List (Option Nat)} {pins:List (Addr × Obj)} {σ:St} {H:Hp} {s:Shared}
theorem CompOk.cells (O:CompOk X sc NC slots) (ok:X.Ok):∀ y ∈ sc.names,y.2=.free->∃ c,X.env.cells.lookup y.1=some c:=fun y hy hk=>ok.has y.1 (.inl (O.free y hy hk))
theorem CompOk.sub (O:CompOk X sc NC slots) (ok:X.Ok):∀ x c,(clOf sc X.env).lookup x=some c->X.env.cells.lookup x=some c:=zh4 sc.names [] (O.cells ok) fun _ _ e=>nomatch e
theorem CompOk.rel (O:CompOk X sc NC slots) (ok:X.Ok) {x:Str} (h:sc.names.lookup x=some .free):(relabel sc X.env).names.lookup x=some .cell:=by
 rw [zh6,h]
 have e:X.env.kindOf x=some .cell:=O.free _ (mem_of_lookup h) rfl
 simp [relK,ok.kind,e]
theorem zmg (I:Inv X pins σ H s) (O:CompOk X sc NC slots) {fp:List Addr} (hf:∀ b ∈ fp,FpOk X pins H b) (hob:∀ b ∈ fp,∃ o,s.heap.get? b=some o) {h1:Heap} {t':Nat} {m:Str->Option Value} (hns:h1.Ns s.heap.objs.size m)
  (hk:∀ b o,s.heap.get? b=some o->h1.get? b=some o):Inv (cxC X sc NC ⟨s.heap.objs.size,s,H,fp⟩) [] (inn slots σ) H { s with heap:=h1,toks:=t' }:=by
 have sub:=O.sub I.ok
 have fss:∀ b,b ≠ X.env.locals->b ∉ X.fs->b ∉ frs X.stack:=fun b h1 h2 hb=>(List.mem_cons.mp (I.stkSub b hb)).elim h1 h2
 have ltC:∀ x c,(clOf sc X.env).lookup x=some c->c < s.heap.objs.size:=fun x c e=>by
  obtain ⟨v,q⟩:=I.cell x c (sub x c e)
  exact q.lt
 refine ⟨⟨I.ok.mod,O.kind,I.ok.glob,I.ok.blt,Nat.le_refl _,fun x y c e1 e2=>I.ok.inj x y c (sub x c e1) (sub y c e2),fun x hx=>?_,fun _ _ z=>(nomatch z),I.ok.hd,I.ok.frames,.inl rfl,fun b hb=>⟨?_,fun x c e=>(hf b hb).2.2.2.2.1 x c (sub x c e)⟩,I.bs,Nat.le_trans I.ok.bsz I.sz,fun b o e hb=>?_,fun b hb=>fss b (hf b hb).2.1 (hf b hb).2.2.1,I.stack,I.stkFree⟩,
  rfl,I.bare,Un.kept hk,⟨m,hns,fun i x v e1 e2 e3=>?_⟩,fun x c e=>?_,I.hok.fresh (Nat.le_refl _),fun x c e=>I.freeC x c (sub x c e),fun p hp=>(nomatch hp),I.hok.kept hk,?_⟩
 ·have hx':(relabel sc X.env).names.lookup x=some .cell \/ (relabel sc X.env).names.lookup x=some .free:=hx
  rw [zh6] at hx'
  cases q:sc.names.lookup x with
  | none =>
   rw [q] at hx'
   rcases hx' with z | z <;> cases z
  | some k =>
   have hm:=mem_of_lookup q
   have hkf:k=.free:=by
    rw [q] at hx'
    have nc:=O.nocell _ hm
    by_cases hk:k=.free
    ·exact hk
    ·exfalso
     have hb:(k == NameKind.free)=false:=by simpa using hk
     rcases hx' with z | z
     ·simp [relK,hb] at z
      exact nc z
     ·simp [relK,hb] at z
      exact hk z
   subst hkf
   exact zfR sc.names [] _ hm rfl
 ·obtain ⟨o,e⟩:=hob b hb
  exact Nat.ne_of_lt (Heap.lt_size e)
 ·rcases (hf b hb).2.2.2.1 with z | z
  ·exact I.ok.noex b o e z
  ·exact absurd (Nat.lt_of_lt_of_le (Heap.lt_size e) (Nat.le_trans I.ok.bsz z)) (Nat.lt_irrefl _)
 ·obtain ⟨j,e4,e5⟩:∃ j,slots[i]?=some (some j)/\σ[j]?=some (some v):=by
   have e2':(slots.map fun o=>o.bind fun j=>(σ[j]?).join)[i]?=some (some v):=e2
   rw [List.getElem?_map] at e2'
   cases q:slots[i]? with
   | none =>
    rw [q] at e2'
    cases e2'
   | some o =>
    rw [q] at e2'
    cases o with
    | none=>cases e2'
    | some j =>
     refine ⟨j,rfl,?_⟩
     have e6:(σ[j]?).join=some v:=Option.some.inj e2'
     cases q2:σ[j]? with
     | none =>
      rw [q2] at e6
      cases e6
     | some w =>
      rw [q2] at e6
      have e7:w=some v:=e6
      rw [e7]
  obtain ⟨e6,e7⟩:=O.slot i x j e1 e4
  have kc:X.env.scope.names.lookup x=some .cell:=O.free _ (mem_of_lookup e7) rfl
  obtain ⟨m0,hn0,hl⟩:=I.loc
  obtain ⟨u,r,lk⟩:=hl j x v e6 e5 (.inr (.inl kc))
  refine ⟨u,r,.inr ⟨.inl (O.rel I.ok e7),?_⟩⟩
  rcases lk with ⟨z,_⟩ | ⟨_,c,hc,o,ho,hd⟩
  ·rw [show X.env.kindOf x=some .cell from kc] at z
   cases z
  ·obtain ⟨c',hc'⟩:=zfR (env:=X.env) sc.names [] _ (mem_of_lookup e7) rfl
   have e8:c'=c:=Option.some.inj ((sub x c' hc').symm.trans hc)
   subst e8
   exact ⟨c',hc',o,hk _ _ ho,hd⟩
 ·obtain ⟨v,o,ho,hd⟩:=I.cell x c (sub x c e)
  exact ⟨v,o,hk _ _ ho,hd⟩
 ·show (slots.map fun o=>o.bind fun j=>(σ[j]?).join).length=NC.length
  rw [List.length_map,O.len]
theorem zlS (I:Inv X pins σ H s) {fp:List Addr} (hf:∀ b ∈ fp,FpOk X pins H b) {C:Addr} (hC:s.heap.objs.size<=C) {pl:List (Addr × Obj)} {σ':St} {H':Hp} {s':Shared} (J:Inv (cxC X sc NC ⟨C,s,H,fp⟩) pl σ' H' s')
  {h2:Heap} (hb:Heap.SameBut C s'.heap h2):Inv X pins σ H' { s' with heap:=h2 }:=by
 have nC:∀ b o,s.heap.get? b=some o->b ≠ C:=fun b o e=>Nat.ne_of_lt (Nat.lt_of_lt_of_le (Heap.lt_size e) hC)
 have B:Un (frs X.stack) fp H H' s.heap s'.heap:=J.base
 have fC:H' C=none:=J.free
 refine I.call' (ch:=fp) J.os ⟨fun b o e n h3 h4=>(hb.2 b (nC b o e)).trans (B.keep b o e n h3 h4),fun b o e n h3 h4=>?_,B.free,fun b o e h4=>?_,B.tups,B.frzs,B.tbls⟩ (fun b u e=>?_) J.bare fun b h3=>⟨(hf b h3).2.2.2.1,(hf b h3).2.1,(hf b h3).2.2.2.2.1,(hf b h3).2.2.2.2.2⟩
 ·obtain ⟨sl,q⟩:=B.slot b o e n h3 h4
  exact ⟨sl,(hb.2 b (nC b o e)).trans q⟩
 ·obtain ⟨o',q⟩:=B.there b o e h4
  exact ⟨o',(hb.2 b (nC b o e)).trans q⟩
 ·refine (J.hok b u e).stay (fun c v hc q=>(hb.2 c fun z=>?_).trans q) (fun _ q=>q) fun _ _ q=>q
  subst z
  rcases hc with z | z
  ·rw [z,e] at fC
   cases fC
  ·rw [z] at fC
   cases fC
end
def PTs (X:Cx) (ifs:List Expr) (t:TT):Prop :=
 ∀ (pins:List (Addr × Obj)) (s:Shared) (σ:St) (H:Hp) (Q:Bool->Hp->Prop),Inv X pins σ H s->t σ H Q->wpAny (model X.prog X.w) X.A (ifsOf ifs X.env) (TP X pins σ Q) X.xe s
def tYes:TT:=fun _ H Q=>Q true H
theorem zqw {X:Cx}:PTs X [] tYes:=fun _ _ _ H _ I h=>wpAny_tests_nil ⟨H,I,h⟩
def CompR (J:It) (D:Addr) (g:TG) (ti:TT) (te:TE) (W:Nat->Nat->St->List V->Hp->Prop) (Q:Hp->Prop):Prop :=
 ∀ i m σc ys H2,W i m σc ys H2->H2 D=some (.lst ys)/\((J.stop i H2/\Q H2) \/ (J.go i H2/\ys.length < sizeLine/\∃ N:St->List V->Hp->Prop,(∀ σ' ys' H',N σ' ys' H'->∃ m',m' < m/\W (i+1) m' σ' ys' H') /\
  ∀ x H3,J.yld i H2 x H3->g x σc H3 fun σ4 H4=>ti σ4 H4 fun b H5=>if b=true then te σ4 H5 fun y H6=>H6 D=some (.lst ys)/\N σ4 (ys++[y]) (upd H6 D (.lst (ys++[y]))) else N σ4 ys H5))
def tComp (slots:List (Option Nat)) (wi:TI) (g:TG) (ti:TT) (te:TE):TE:=fun σ H Q=>wi σ H fun J H1=>∀ D,H1 D=none->∃ W:Nat->Nat->St->List V->Hp->Prop,(∃ m,W 0 m (inn slots σ) [] (upd H1 D (.lst [])))/\CompR J D g ti te W (Q (.ref D))
section
variable {X:Cx} {sc:Scope} {NC:List Str} {slots:List (Option Nat)} {elt tg iter:Expr} {ifs:List Expr} {pos:Pos} {g:TG} {ti:TT} {te:TE}
theorem zoX (hc:X.calm=true) (hg:∀ j,PG (cxC X sc NC j) tg g) (ht:∀ j,PTs (cxC X sc NC j) ifs ti) (he:∀ j,PE (cxC X sc NC j) elt te) {cj:CI} {it D:Addr} {tn:Nat->Heap->Prop} {J:It}
  {W:Nat->Nat->St->List V->Hp->Prop} {Q:Hp->Prop} {R:Result->Shared->Prop} {s:Shared} {σc:St} {ys:List V} {H:Hp} (T:Turn X.prog X.w X.K tg J cj.fp it tn)
  (I:Inv (cxC X sc NC cj) [] σc H s) (hf:∀ b ∈ cj.fp,FpOk (cxC X sc NC cj) [] H b) (st:tn 0 s.heap) {m:Nat} (w0:W 0 m σc ys H) (step:CompR J D g ti te W Q)
  (fin:∀ σ' H' s',Inv (cxC X sc NC cj) [] σ' H' s'->Q H'->R (.ok .next) s') :
  codeAny (model X.prog X.w) X.A (.compLoop (.ListComp elt [⟨tg,iter,ifs,0⟩] sc pos) 0 (.ref it) (.ref D) (cxC X sc NC cj).env) R s:=by
 have stat:∀ {H':Hp},(∀ b ∈ cj.fp,H' b=none)->∀ b ∈ cj.fp,FpOk (cxC X sc NC cj) [] H' b:=fun hn b hb=>⟨hn b hb,(hf b hb).2⟩
 refine znH (fun n s'=>∃ i σ' ys' H',Inv (cxC X sc NC cj) [] σ' H' s'/\tn i s'.heap/\(∀ b ∈ cj.fp,H' b=none)/\W i n σ' ys' H') ?_ m ⟨0,σc,ys,H,I,st,fun b hb=>(hf b hb).1,w0⟩
 rintro n s3 ⟨i,σ3,ys3,H3,I3,st3,fr3,w3⟩
 obtain ⟨hD,q⟩:=step i n σ3 ys3 H3 w3
 rcases q with ⟨stop,qn⟩ | ⟨go,hz,N,hN,turn⟩
 ·refine thn (T.done (cxC X sc NC cj) rfl rfl rfl hc i [] s3 σ3 H3 No I3 (stat fr3) st3 stop) fun r s4 ⟨hr,I4⟩=>?_
  subst hr
  exact fin σ3 H3 s4 I4 qn
 ·refine thn (T.item (cxC X sc NC cj) rfl rfl rfl hc i [] s3 σ3 H3 No I3 (stat fr3) st3 go) fun r s4 ⟨u,hr,h4⟩=>?_
  subst hr
  refine thn h4 fun _ s5 ⟨x,H5,I5,r5,y5,st5,fr5⟩=>?_
  have I5':=I5.pinned (stat fr5) (T.obj _ _ st5)
  refine thn (hg cj _ s5 σ3 H5 x u _ I5' r5 (turn x H5 y5)) fun _ s6 ⟨σ6,H6,I6,q6⟩=>?_
  refine thn (ht cj _ s6 σ6 H6 _ I6 q6) fun ok s7 ⟨H7,I7,q7⟩=>?_
  have again:∀ {σ8:St} {ys8:List V} {H8:Hp} {s8:Shared},Inv (cxC X sc NC cj) ([]++pinsAt cj.fp s5.heap) σ8 H8 s8->N σ8 ys8 H8->∃ m,m < n/\∃ i σ' ys' H',Inv (cxC X sc NC cj) [] σ' H' s8/\tn i s8.heap/\(∀ b ∈ cj.fp,H' b=none)/\W i m σ' ys' H':=fun {σ8 ys8 H8 s8} I8 n8=>by
   obtain ⟨m',hm,w8⟩:=hN σ8 ys8 H8 n8
   refine ⟨m',hm,i+1,σ8,ys8,H8,I8.unpinned,T.keep _ _ _ st5 fun b hb o e=>(I8.pin (b,o) (List.mem_append_right _ (List.mem_append_right _ (zei hb e)))).1,fun b hb=>?_,w8⟩
   obtain ⟨o,e,d⟩:=T.obj _ _ st5 b hb
   exact (I8.pin (b,o) (List.mem_append_right _ (List.mem_append_right _ (zei hb e)))).2.1
  cases ok with
  | false =>
   rw [if_neg Bool.false_ne_true] at q7 ⊢
   exact again I7 q7
  | true =>
   rw [if_pos rfl] at q7 ⊢
   refine thn (he cj _ s7 σ6 H7 _ I7 q7) fun y s8 ⟨v,H8,I8,r8,hD8,q8⟩=>?_
   refine thn (zjo (X:=cxC X sc NC cj) _ s8 σ6 H8 (.ref D) [v] (.ref D) [y] (fun z H'=>z=.non/\H'=upd H8 D (.lst (ys3++[v]))) I8 rfl (.cons r8 .nil) ⟨D,ys3,v,rfl,rfl,hD8,hz,rfl,rfl⟩) fun z s9 ⟨zv,H9,I9,r9,e1,e2⟩=>?_
   subst e2
   exact again I9 q8
theorem zl2 (hc:X.calm=true) (O:CompOk X sc NC slots) (hg:∀ j,PG (cxC X sc NC j) tg g) (ht:∀ j,PTs (cxC X sc NC j) ifs ti) (he:∀ j,PE (cxC X sc NC j) elt te) {pins:List (Addr × Obj)} {s:Shared} {σ:St} {H:Hp} (I:Inv X pins σ H s)
  {it:Addr} {fp:List Addr} {tn:Nat->Heap->Prop} {J:It} (T:Turn X.prog X.w X.K tg J fp it tn) (st:tn 0 s.heap) (hf:∀ b ∈ fp,FpOk X pins H b) {Q:VK}
  (h:∀ D,H D=none->∃ W:Nat->Nat->St->List V->Hp->Prop,(∃ m,W 0 m (inn slots σ) [] (upd H D (.lst [])))/\CompR J D g ti te W (Q (.ref D))) {RR:Value->Addr->Result->Shared->Prop}
  (fin:∀ D C s' H',Q (.ref D) H'->(∃ o m,s'.heap.get? C=some o/\s'.heap.Ns C m/\∀ v,o.data ≠ .cell v)->FpOk X pins H' C->(∀ h2,Heap.SameBut C s'.heap h2->Inv X pins σ H' { s' with heap:=h2 })->RR (.ref D) C (.ok .next) s') :
  wpAny (model X.prog X.w) X.A (newList []) (fun acc s3=>wpAny (model X.prog X.w) X.A (newFunctionEnv sc X.env.globals (clOf sc X.env) [] X.env.qual none .none (some X.env)) (fun cenv s4 =>
   codeAny (model X.prog X.w) X.A (.compStart (.ListComp elt [⟨tg,iter,ifs,0⟩] sc pos) 0 (.ref it) acc { cenv with scope:=relabel sc X.env }) (RR acc cenv.locals) s4) X.xe s3) X.xe s:=by
 refine wpAny_newObj_type (wpAny_newFunctionEnv O.nocell (by intro y hy; simp at hy) (fun h1 hns1 hsb1=>?_) O.kind)
 dsimp only at hns1 hsb1 ⊢
 have hDn:H s.heap.objs.size=none:=I.hok.fresh (Nat.le_refl _)
 obtain ⟨W,⟨m,w0⟩,step⟩:=h s.heap.objs.size hDn
 obtain ⟨s3,hs3⟩:∃ x:Shared,x=({ s with heap:=s.heap.push { cls:=.type "list",dict:=none,data:=.seq ([]:List Value).toArray } }:Shared):=⟨_,rfl⟩
 have e3:s3.heap=s.heap.push { cls:=.type "list",dict:=none,data:=.seq ([]:List Value).toArray }:=by rw [hs3]
 rw [<- e3] at hns1 hsb1
 have hp3:∀ b o,s.heap.get? b=some o->s3.heap.get? b=some o:=fun b o e=>by
  rw [e3]
  exact Heap.get?_push_of_some _ e
 have I3:Inv X pins σ (upd H s.heap.objs.size (.lst [])) s3:=by
  have q:=I.laid (a:=s.heap.objs.size) (o:=.lst []) (h':=s3.heap) (t':=s.toks) hp3 (Nat.le_refl _) ⟨Nat.zero_le _,[],_,.nil,by rw [e3]; exact Heap.get?_push_size _ rfl⟩
  rw [hs3] at q ⊢
  exact q
 have hf3:∀ b ∈ fp,FpOk X pins (upd H s.heap.objs.size (.lst [])) b:=fun b hb=>by
  obtain ⟨o,e,_⟩:=T.obj _ _ st b hb
  refine ⟨?_,(hf b hb).2⟩
  rw [zR (Nat.ne_of_lt (Heap.lt_size e))]
  exact (hf b hb).1
 have st3:tn 0 s3.heap:=T.keep _ _ _ st fun b _ o e=>hp3 b o e
 have hob:∀ b ∈ fp,∃ o,s3.heap.get? b=some o:=fun b hb=>by
  obtain ⟨o,e,_⟩:=T.obj _ _ st3 b hb
  exact ⟨o,e⟩
 have hk1:∀ b o,s3.heap.get? b=some o->h1.get? b=some o:=fun b o e=>hsb1.extBut b o (Nat.ne_of_lt (Heap.lt_size e)) (Heap.get?_push_of_some _ e)
 have J1:=zmg (t':=s3.toks+([]:List (Str × Value)).length) I3 O hf3 hob hns1 hk1
 have hfc:∀ b ∈ fp,FpOk (cxC X sc NC ⟨s3.heap.objs.size,s3,upd H s.heap.objs.size (.lst []),fp⟩) [] (upd H s.heap.objs.size (.lst [])) b:=fun b hb =>
  ⟨(hf3 b hb).1,(J1.ok.exf b hb).1,J1.ok.exfs b hb,.inl hb,(J1.ok.exf b hb).2,fun p hp=>nomatch hp⟩
 have loop:codeAny (model X.prog X.w) X.A (.compLoop (.ListComp elt [⟨tg,iter,ifs,0⟩] sc pos) 0 (.ref it) (.ref s.heap.objs.size) (cxC X sc NC ⟨s3.heap.objs.size,s3,upd H s.heap.objs.size (.lst []),fp⟩).env) (RR (.ref s.heap.objs.size) s3.heap.objs.size)
   { s3 with heap:=h1,toks:=s3.toks+([]:List (Str × Value)).length }:=by
  refine zoX (D:=s.heap.objs.size) (Q:=Q (.ref s.heap.objs.size)) hc hg ht he T J1 hfc (T.keep _ _ _ st3 fun b _ o e=>hk1 b o e) w0 step fun σ' H' s' J' q'=>?_
  have fC:H' s3.heap.objs.size=none:=J'.free
  refine fin _ _ s' H' q' ?_ (I3.fpOk (Nat.le_refl _) fC) fun h2 hb=>zlS I3 hf3 (Nat.le_refl _) J' hb
  obtain ⟨m',hn',_⟩:=J'.loc
  obtain ⟨o,es,ep,ho,hd,r⟩:=id hn'
  exact ⟨o,m',ho,hn',fun v z=>by rw [hd] at z; cases z⟩
 have self:=fun (RQ:Value->Shared->Prop) (EE:Value->Shared->Prop)=>T.self X.A 0 { s3 with heap:=h1,toks:=s3.toks+([]:List (Str × Value)).length } RQ EE (T.keep _ _ _ st3 fun b _ o e=>hk1 b o e)
 subst hs3
 exact codeAny_compStart_list loop (self _ _ loop)
variable {wi:TI}
theorem zp4 (hc:X.calm=true) (O:CompOk X sc NC slots) (hi:PI X tg iter wi) (hg:∀ j,PG (cxC X sc NC j) tg g) (ht:∀ j,PTs (cxC X sc NC j) ifs ti) (he:∀ j,PE (cxC X sc NC j) elt te)
  (hs:∀ x,foldedSetIterable iter X.env x=pure x:=by intro _; rfl):PE X (.ListComp elt [⟨tg,iter,ifs,0⟩] sc pos) (tComp slots wi g ti te):=by
 intro pins s σ H Q I h
 rw [eval_ListComp]
 refine wpAny_comprehension_free (use:=none) rfl hs (zg7 (O.cells I.ok)) O.kind O.names (thn (hi pins s σ H _ I h) fun v s1 h1=>thn h1 fun itv s2 h2=>?_)
 obtain ⟨it,fp,tn,J,H2,rfl,I2,T,st2,f2,q2⟩:=h2
 refine zl2 hc O hg ht he I2 T st2 f2 q2 fun D C s' H' q' ⟨o,m,ho,hn,_⟩ _ out=>⟨m,hn,fun h2 hb=>⟨.ref D,H',out h2 hb,rfl,q'⟩⟩
end
theorem zk7:∀ {bs:List Bool} {us:List Value},Vals (bs.map V.bl) us->LSm.BoolsAre us bs
 | [],_,.nil=>.nil
 | b :: bs,_,.cons r q=>by
  cases (show _=Value.bool b from r)
  exact .cons b (zk7 q)
section
variable {X:Cx}
def rAll (K:PySem.W.Frag):List V->Hp->VK->Prop:=fun xs H Q=>∃ (l:Addr) (bs:List Bool),xs=[.ref l]/\SqL K H l (bs.map V.bl)/\Q (.bl (bs.all id)) H
theorem zoi (hc:X.calm=true):CallR X (.builtin "all") (rAll X.K):=by
 intro pins s σ H xs us Q I r h
 obtain ⟨l,bs,rfl,hq,q⟩:=h
 obtain ⟨u,rfl,ru⟩:=Vals.one r
 cases (show u=Value.ref l from ru)
 obtain ⟨its,rv,pl,hz⟩:=I.list hq
 have hb:=zk7 rv
 have hl:=pl.isList
 have hlt:l < s.heap.objs.size:=by
  obtain ⟨_,e,_⟩:=hl
  exact Heap.lt_size e
 refine call_all_walk (wpAny_pyIter_list hl ?_)
 refine ⟨s.heap.objs.size,[s.heap.objs.size,l],[s.heap.objs.size],its.toArray.size,_,_,fun i=>(bs[i]?).getD true,rfl,Walks.list (A:=X.A.in1) (I.ok.hd hc) _ l (Nat.ne_of_lt hlt) its.toArray,⟨⟨_,Heap.get?_push_size _ rfl,rfl,rfl⟩,hl.push _⟩,fun i v s' Q' E' hP hQ=>?_,fun h' tk hk=>?_⟩
 ·obtain ⟨b,e,rfl⟩:=hb.get i v (by simpa using hP)
  simp only [e,Option.getD_some] at hQ
  exact wpAny_truthy_bool hQ
 ·have e:((List.range its.toArray.size).all fun i=>(bs[i]?).getD true)=bs.all id:=by
   rw [List.size_toArray,hb.length]
   exact LSm.range_all bs
  rw [e]
  exact ⟨.bl _,H,I.kept (t':=tk) (LSm.kept_iter hk),rfl,q⟩
end
section
variable {X:Cx} {pins:List (Addr × Obj)} {σ:St} {H:Hp} {s:Shared}
end
section
variable {X:Cx} {a:Expr} {ta:TE} {K:PySem.W.Frag}
end
end L2
namespace L2
end L2
namespace L2
open PySem PySem.Spec PyProof.Rows
section
variable {X:Cx}
def rMax (K:PySem.W.Frag):List V->Hp->VK->Prop:=fun xs H Q=>∃ (l:Addr) (ns:List Int),xs=[.ref l]/\SqL K H l (ns.map V.int)/\0 < ns.length/\∀ M,M ∈ ns->(∀ a,a ∈ ns->a<=M)->Q (.int M) H
theorem zm9 (hc:X.calm=true):CallR X (.builtin "max") (rMax X.K):=by
 intro pins s σ H xs us Q I r h
 obtain ⟨l,ns,rfl,hq,hne,q⟩:=h
 obtain ⟨u,rfl,ru⟩:=Vals.one r
 cases (show u=Value.ref l from ru)
 obtain ⟨its,rv,pl,hz⟩:=I.list hq
 have hi:IntsAre its ns:=zlL rv
 obtain ⟨ys,e⟩:=hi.allInts.items
 have hns:ns=ys.toList.map (·.1):=by rw [<- hi.numsOf,<- nums_intItems,<- e]
 have hsz:0 < ys.size:=by
  rw [hns,List.length_map,Array.length_toList] at hne
  exact hne
 have hl:=pl.isList
 rw [e] at hl
 refine max_intList (I.ok.hd hc) hl hsz fun v h' tk hv hk=>?_
 obtain ⟨t,rfl⟩:=intItems_at hv
 obtain ⟨h1,h2⟩:=argBest_gt (numAt ys) (ys.size - 1)
 refine ⟨.int _,H,I.kept (t':=tk) hk,⟨t,rfl⟩,q _ ?_ fun a ha=>?_⟩
 ·rw [hns,numAt_eq]
  exact getD_mem (by rw [List.length_map,Array.length_toList]; omega)
 ·rw [hns] at ha
  obtain ⟨j,hj,rfl⟩:=mem_getD ha
  rw [List.length_map,Array.length_toList] at hj
  rw [<- numAt_eq]
  exact h2 j (by omega)
end
def CX1 (P:Program) (w:World):CXT:=fun outer H s E e s'=>∃ (a:Addr) (cls a0:Value) (H':Hp) (B:Heap),e=.ref a/\s'.os=s.os/\AllBare s'.gens/\Heap.FlyingW B outer a cls a0 s'.heap/\HOk P w H' s'.heap/\Un (frs outer) [] H H' s.heap s'.heap /\
 (∀ b o,s.heap.get? b=some o->H b=none->b ∉ frs outer->B.get? b=some o)/\(∀ b u,H' b=some u->∃ o,B.get? b=some o)/\(∀ b o,s.heap.get? b=some o->b ∉ frs outer->∃ o',B.get? b=some o')/\E cls none H'
theorem ObjOk.there {P:Program} {w:World} {H:Hp} {h:Heap} {a:Addr} {o:HO} (x:ObjOk P w H h a o):∃ ob,h.get? a=some ob:=by
 induction o with
 | lst xs=>obtain ⟨_,_,_,_,e⟩:=x; exact ⟨_,e⟩
 | tup xs=>obtain ⟨_,_,_,ob,e,_⟩:=x; exact ⟨ob,e⟩
 | dK kvs=>obtain ⟨_,_,_,_,ob,_,_,e,_⟩:=x; exact ⟨ob,e⟩
 | dT kvs=>obtain ⟨_,_,_,_,ob,_,_,e,_⟩:=x; exact ⟨ob,e⟩
 | set S n=>obtain ⟨ob,_,_,_,e,_⟩:=x; exact ⟨ob,e⟩
 | ins C dx fs=>obtain ⟨_,_,_,e,_⟩:=x; exact ⟨_,e⟩
 | own y=>exact x
 | xd fs=>obtain ⟨_,⟨ob,_,_,e,_⟩,_⟩:=x; exact ⟨ob,e⟩
 | rng lo hi=>obtain ⟨_,_,_,e⟩:=x; exact ⟨_,e⟩
 | frz ob u ih=>exact ⟨ob,x.1⟩
 | tbl ps=>exact ⟨_,x⟩
 | met f y=>exact ⟨_,x⟩
 | ext φ=>exact x.2.1
theorem HOk.inB {P:Program} {w:World} {H:Hp} {h h' B:Heap} (ok:HOk P w H h) (hB:B.StaysIn h) (hB':B.StaysIn h') (tr:∀ b u,H b=some u->∃ o,B.get? b=some o):HOk P w H h':=fun a o e =>
 (ok a o e).stay (fun b u hb q=>by
  have hb':∃ o,B.get? b=some o:=by
   rcases hb with z | z
   ·rw [z]
    exact tr a o e
   ·exact tr b _ z
  obtain ⟨o',q'⟩:=hb'
  have:=hB b o' q'
  rw [q] at this
  cases this
  exact hB' b u q') (fun _ q=>q) fun _ _ q=>q
section
variable {P:Program} {w:World} {K:PySem.W.Frag} {mg:Str->Option Value} {base:Heap} {N:List Str} {qual:Str} {scope:Scope} {f:Addr} {cd:Value} {A:Around} {outer:List Env} {s₀:Shared} {H₀:Hp} {E:XK}
 {pins:List (Addr × Obj)} {σ:St} {H:Hp} {s:Shared}
theorem zni {h':Heap} {e:Addr} {cls:Value} {vs:List Value} (I:Inv (cxOf (CX1 P w) P w K mg base N qual scope f cd A outer s₀ H₀ E) pins σ H s) (hx:Heap.MadeExcOf s.heap h' e cls vs) (hE:E cls none H) :
  (cxOf (CX1 P w) P w K mg base N qual scope f cd A outer s₀ H₀ E).xe (.ref e) { s with heap:=h' }:=by
 have stk:s.heap.FunFrames base (envOfC qual scope s₀.heap.objs.size f cd :: outer):=I.stack
 have hst:∀ b,b ∈ frs (envOfC qual scope s₀.heap.objs.size f cd :: outer)->b=s₀.heap.objs.size \/ b ∈ frs outer:=fun b hb=>by
  have hb':b ∈ s₀.heap.objs.size :: frs outer:=hb
  exact List.mem_cons.mp hb'
 have inB:∀ b o,s.heap.get? b=some o->b ∉ frs (envOfC qual scope s₀.heap.objs.size f cd :: outer)->(PySem.W.hideAll s.heap (frs (envOfC qual scope s₀.heap.objs.size f cd :: outer))).get? b=some o:=fun b o q n=>PySem.W.hideAll_get _ q n
 have hB:(PySem.W.hideAll s.heap (frs (envOfC qual scope s₀.heap.objs.size f cd :: outer))).StaysIn s.heap:=fun b o q=>PySem.W.of_hideAll _ q
 have bse:Un (frs outer) [] H₀ H s₀.heap s.heap:=I.base
 have lt:∀ b o,s₀.heap.get? b=some o->b ≠ s₀.heap.objs.size:=fun b o q=>Nat.ne_of_lt (Heap.lt_size q)
 have tr:∀ b u,H b=some u->∃ o,(PySem.W.hideAll s.heap (frs (envOfC qual scope s₀.heap.objs.size f cd :: outer))).get? b=some o:=fun b u q=>by
  obtain ⟨o,ho⟩:=ObjOk.there (I.hok b u q)
  exact ⟨o,inB b o ho fun hb=>by
   have:=I.stkFree b hb
   rw [q] at this
   cases this⟩
 refine wpAny_leaves_madeW (base:=PySem.W.hideAll s.heap (frs (envOfC qual scope s₀.heap.objs.size f cd :: outer))) (h:=s.heap) I.ok.frames rfl hB (PySem.W.funFrames_hide stk fun env he a ha=>List.mem_filterMap.mpr ⟨env,he,ha⟩) hx fun h'' t fl tu tn up=>?_
 have up':s.heap.UpToSlots h'':=(Heap.UpToSlots.of_keeps hx.keeps).trans up
 refine ⟨e,cls,_,H,_,rfl,I.os,I.bare,fl,HOk.inB I.hok hB fl.1 tr,⟨fun b o q n hb _=>?_,fun b o q n hb _=>?_,bse.free,fun b o q _=>?_,bse.tups,bse.frzs,bse.tbls⟩,fun b o q n hb=>?_,tr,fun b o q hb=>?_,hE⟩
 ·refine fl.1 b o (inB b o (bse.keep b o q n hb (by simp)) fun z=>?_)
  rcases hst b z with z | z
  ·exact lt b o q z
  ·exact hb z
 ·obtain ⟨sl,q1⟩:=bse.slot b o q n hb (by simp)
  obtain ⟨_,o',ho',hd⟩:=Heap.FunFrames.mem stk (show b ∈ List.filterMap (fun (z:Env)=>z.frame) _ from List.mem_cons_of_mem _ hb)
  obtain ⟨sl',q2⟩:=up' b _ q1 (by rw [ho'] at q1; cases q1; exact hd)
  exact ⟨sl',q2⟩
 ·obtain ⟨o',q1⟩:=bse.there b o q (by simp)
  by_cases hb:b ∈ frs (envOfC qual scope s₀.heap.objs.size f cd :: outer)
  ·obtain ⟨_,o2,ho',hd⟩:=Heap.FunFrames.mem stk hb
   obtain ⟨sl',q2⟩:=up' b _ ho' hd
   exact ⟨_,q2⟩
  ·exact ⟨o',fl.1 b o' (inB b o' q1 hb)⟩
 ·refine inB b o (bse.keep b o q n hb (by simp)) fun z=>?_
  rcases hst b z with z | z
  ·exact lt b o q z
  ·exact hb z
 ·obtain ⟨o',q1⟩:=bse.there b o q (by simp)
  refine ⟨o',inB b o' q1 fun z=>?_⟩
  rcases hst b z with z | z
  ·exact lt b o q z
  ·exact hb z
theorem pass1:Passes (CX1 P w) (cxOf (CX1 P w) P w K mg base N qual scope f cd A outer s₀ H₀ E) E:=by
 intro pins σ H s e s' I h
 obtain ⟨a,cls,a0,H',B,rfl,os,bare,fl,hok,un,hB,tr,hT,hE⟩:=h
 have bse:Un (frs outer) [] H₀ H s₀.heap s.heap:=I.base
 have lt:∀ b o,s₀.heap.get? b=some o->b ≠ s₀.heap.objs.size:=fun b o q=>Nat.ne_of_lt (Heap.lt_size q)
 have hst:∀ b,b ∈ frs (envOfC qual scope s₀.heap.objs.size f cd :: outer)->b=s₀.heap.objs.size \/ b ∈ frs outer:=fun b hb=>by
  have hb':b ∈ s₀.heap.objs.size :: frs outer:=hb
  exact List.mem_cons.mp hb'
 have un':Un (frs (envOfC qual scope s₀.heap.objs.size f cd :: outer)) [] H H' s.heap s'.heap:=un
 have kB:∀ b o,s₀.heap.get? b=some o->H₀ b=none->b ∉ frs outer->B.get? b=some o:=fun b o q n hb=>hB b o (bse.keep b o q n hb (by simp)) (bse.free b o q n (by simp)) fun z=>by
  rcases hst b z with z | z
  ·exact lt b o q z
  ·exact hb z
 have kT:∀ b o,s₀.heap.get? b=some o->b ∉ frs outer->∃ o',B.get? b=some o':=fun b o q hb=>by
  obtain ⟨o',q1⟩:=bse.there b o q (by simp)
  refine hT b o' q1 fun z=>?_
  rcases hst b z with z | z
  ·exact lt b o q z
  ·exact hb z
 refine wpAny_leaves_onW I.ok.frames rfl fl fun h'' fl' up=>?_
 refine ⟨a,cls,a0,H',B,rfl,os.trans I.os,bare,fl',HOk.inB hok fl.1 fl'.1 tr,⟨fun b o q n hb _=>fl'.1 b o (kB b o q n hb),fun b o q n hb _=>?_,fun b o q n _=>?_,fun b o q _=>?_,fun b xs q=>un'.tups b xs (bse.tups b xs q),fun b o u q=>un'.frzs b o u (bse.frzs b o u q),fun b ps q=>?_⟩,kB,tr,kT,hE⟩
 ·obtain ⟨sl,q1⟩:=bse.slot b o q n hb (by simp)
  have n1:=bse.free b o q n (by simp)
  obtain ⟨sl1,q2⟩:=un'.slot b _ q1 n1 (List.mem_cons_of_mem _ hb) (by simp)
  obtain ⟨_,o',ho',hd⟩:=Heap.FunFrames.mem fl.2.2.1 (show b ∈ List.filterMap (fun (z:Env)=>z.frame) _ from List.mem_cons_of_mem _ hb)
  obtain ⟨sl',q3⟩:=up b _ q2 (by rw [ho'] at q2; cases q2; exact hd)
  exact ⟨sl',q3⟩
 ·obtain ⟨o',q1⟩:=bse.there b o q (by simp)
  exact un'.free b o' q1 (bse.free b o q n (by simp)) (by simp)
 ·obtain ⟨o',q1⟩:=bse.there b o q (by simp)
  obtain ⟨o2,q2⟩:=un'.there b o' q1 (by simp)
  by_cases hb:b ∈ frs outer
  ·obtain ⟨_,o3,ho3,hd⟩:=Heap.FunFrames.mem fl.2.2.1 (show b ∈ List.filterMap (fun (z:Env)=>z.frame) _ from List.mem_cons_of_mem _ hb)
   obtain ⟨sl',q3⟩:=up b _ ho3 hd
   exact ⟨_,q3⟩
  ·obtain ⟨o4,q4⟩:=kT b o q hb
   exact ⟨o4,fl'.1 b o4 q4⟩
 ·obtain ⟨m1,e1⟩:=bse.tbls b ps q
  obtain ⟨m2,e2⟩:=un'.tbls b _ e1
  exact ⟨m1++m2,by rw [e2,Array.append_assoc]⟩
end
section
variable {X:Cx} {e:Expr} {es:List Expr} {te:TE}
end
section
variable {X:Cx} {e:Expr} {es:List Expr} {t:TA} {E:XK}
end
section
variable {pg:Program} {wd:World} {A:Around} {E:Value->Shared->Prop} {h:Heap} {g:Array GenState} {d:Drawn} {t:Nat} {os:OsState} {a C:Addr} {o:Obj} {K:PySem.W.Frag}
end
def ExcO (a C:Addr):Heap->Prop:=fun h=>∃ o,h.get? a=some o/\o.cls=.ref C
section
variable {X:Cx}
end
section
variable {X:Cx} {pins:List (Addr × Obj)} {σ:St} {H:Hp} {s:Shared}
end
section
variable {X:Cx} {pins:List (Addr × Obj)} {σ:St} {H:Hp} {s:Shared}
end
section
variable {X:Cx} {body suite:List Stmt} {b₀:Stmt} {x n:Str} {np hpos pos:Pos} {tb:XK->TS} {ts:TS} {W:Addr} {i:Nat}
end
section
variable {P:Program} {w:World} {K:PySem.W.Frag} {mg:Str->Option Value} {base:Heap}
end
section
variable {X:Cx} {k:Nat} {f:Addr} {fd:FuncData} {ps:List Str} {sp:Sp} {x:Str} {p pos:Pos} {e:Expr} {es:List Expr} {t:TA}
end
section
variable {P:Program} {w:World} {K:PySem.W.Frag} {mg:Str->Option Value} {base:Heap}
theorem Fun.okX {x qual:Str} {st:Stmt} {f:Addr} {fd:FuncData} {N ps:List Str} {k:Nat} {sp:Sp} (F:Fun K x qual st f fd) (S:FnScope N ps (defScope st)) (len:∀ vs H Q E,sp vs H Q E->vs.length=ps.length)
  (body:∀ (cdv:Value) (A:Around) (outer:List Env) (s:Shared) (H:Hp) (vs:List V) (Q:VK) (E:XK),Room k (A.deeper (envOfC qual (defScope st) s.heap.objs.size f cdv))->sp vs H Q E ->
   ∃ t,PSs (cxOf (CX1 P w) P w K mg base N qual (defScope st) f cdv A outer s H E) (defBody st) t/\t { nx:=fun _ H'=>Q .non H',rt:=Q } (start N vs) H):FnOk P w K mg base (CX1 P w) (k+1) f fd ps sp:=by
 obtain ⟨oc,od,kV,doc,pm,an,cdv,ct,osl,rfl,lk,hcd⟩:=F.ex
 exact zrp lk hcd S len fun A outer s H vs Q E hr hsp=>body cdv A outer s H vs Q E hr hsp
theorem own1 {N:List Str} {qual:Str} {scope:Scope} {f:Addr} {cd:Value} {A:Around} {outer:List Env} {s:Shared} {H:Hp} {E:XK} {CX:CXT} :
  PassesOwn (model (cxOf CX P w K mg base N qual scope f cd A outer s H E).prog (cxOf CX P w K mg base N qual scope f cd A outer s H E).w) (cxOf CX P w K mg base N qual scope f cd A outer s H E).A (cxOf CX P w K mg base N qual scope f cd A outer s H E).env (cxOf CX P w K mg base N qual scope f cd A outer s H E).xe :=
 PassesOwn.leaving
end
section
variable {X:Cx}
end
end L2
namespace IC
open PySem
inductive PV where
 | non | bl (b:Bool) | int (i:Int) | str (x:Str) | tp (k:Bool) (xs:List PV) | lst (xs:List PV) | loc (n:Nat) | exn (c:Nat) | scr (xs:List PV)
deriving Inhabited
noncomputable abbrev PV.tup (xs:List PV):PV:=.tp false xs
mutual
noncomputable def noLoc:PV->Bool
 | .loc _=>false
 | .exn _=>false
 | .tp _ xs=>noLocs xs
 | .lst xs=>noLocs xs
 | .scr xs=>noLocs xs
 | _=>true
noncomputable def noLocs:List PV->Bool
 | []=>true
 | x :: xs=>noLoc x && noLocs xs
end
mutual
noncomputable def shd (n:Nat):PV->Bool
 | .non=>true
 | .bl _=>true
 | .int _=>true
 | .str x=>x.cps.all (· < 0x110000)
 | .tp _ xs=>decide (0 < n) && shds (n - 1) xs
 | .lst xs=>decide (0 < n) && shds (n - 1) xs
 | _=>false
noncomputable def shds (n:Nat):List PV->Bool
 | []=>true
 | x :: xs=>shd n x && shds n xs
end
noncomputable abbrev shp (v:PV):Bool:=shd 60 v
noncomputable def flat:PV->Bool
 | .non=>true
 | .bl _=>true
 | .int _=>true
 | .str _=>true
 | _=>false
noncomputable def bi (b:Bool):Int:=if b then 1 else 0
mutual
noncomputable def peq:PV->PV->Bool
 | .non,.non=>true
 | .bl a,.bl b=>a == b
 | .bl a,.int j=>bi a == j
 | .int i,.bl b=>i == bi b
 | .int i,.int j=>i == j
 | .str x,.str y=>x == y
 | .tp _ xs,.tp _ ys=>peqs xs ys
 | .lst xs,.lst ys=>peqs xs ys
 | _,_=>false
noncomputable def peqs:List PV->List PV->Bool
 | [],[]=>true
 | x :: xs,y :: ys=>peq x y && peqs xs ys
 | _,_=>false
end
inductive Ob where
 | lst (xs:List PV) | dct (t:Bool) (kvs:List (PV × PV)) | dead
noncomputable abbrev Env:=List (Option PV)
noncomputable abbrev Store:=List Ob
inductive R (α:Type) where
 | ok (a:α) (st:Store) | exc (c:Nat) (st:Store) | bad
noncomputable def R.bind {α β:Type} (r:R α) (k:α->Store->R β):R β :=
 match r with
 | .ok a st=>k a st
 | .exc c st=>.exc c st
 | .bad=>.bad
inductive BOp where
 | add | sub | mul | fdiv | mod | pow | shl | shr | band | bor | bxor
inductive COp where
 | eq | ne | lt | le | gt | ge | is | isnot | isin | notin
inductive Ty where
 | int | bool | str | tuple | list | cls (c:Nat) | val
inductive Blt where
 | len | int | abs | min | max | tuple | list | all | sum | dict
inductive Mth where
 | append | extend | get | bits | upper
inductive Tg where
 | n (i:Nat) | t (l:List Nat)
mutual
inductive Ce where
 | cst (v:PV)
 | var (i:Nat)
 | bin (o:BOp) (a b:Ce)
 | neg (a:Ce)
 | not (a:Ce)
 | and (a b:Ce)
 | or (a b:Ce)
 | cmp (o:COp) (a b:Ce)
 | chain (o p:COp) (a b c:Ce)
 | ite (c a b:Ce)
 | tup (es:Ces)
 | lst (es:Ces)
 | newl (es:Ces)
 | newd (kvs:List (Str × Int))
 | dict0 (t:Bool)
 | idx (a i:Ce)
 | slc (a:Ce) (lo hi:Ce)
 | call (f:Nat) (args:Ces)
 | blt (b:Blt) (args:Ces)
 | mth (m:Mth) (o:Ce) (args:Ces)
 | isi (a:Ce) (t:List Ty)
 | comp (sl:List (Option Nat)) (tg:Tg) (it:Cit) (c:Ce) (e:Ce)
 | frz (a:Ce)
 | nope
 | fst (e:Ces)
inductive Ces where
 | nil
 | cons (e:Ce) (es:Ces)
inductive Cit where
 | seq (e:Ce)
 | range1 (a:Ce)
 | range2 (a b:Ce)
 | rangeD (a b:Ce)
 | enum (e:Ce)
 | zip (a b:Ce)
end
mutual
inductive Cs where
 | expr (e:Ce)
 | asg (t:Tg) (e:Ce)
 | six (o i e:Ce)
 | dput (o i e:Ce)
 | aug (i:Nat) (o:BOp) (e:Ce)
 | ret (e:Ce)
 | ite (c:Ce) (a b:Css)
 | for (t:Tg) (it:Cit) (b:Css)
 | while (c:Ce) (b:Css)
 | nope
 | brk
 | cnt
 | pass
 | raise (c:Nat) (e:Ce)
 | try (b:Css) (c:Nat) (i:Nat) (h:Css)
inductive Css where
 | nil
 | cons (s:Cs) (ss:Css)
end
noncomputable def CMulB (i j:Int):Bool:=(decide (i.natAbs < 18446744073709551616)) || (decide (j.natAbs < 18446744073709551616))
noncomputable def binI (o:BOp) (i j:Int):Option PV :=
 match o with
 | .add=>some (.int (i+j))
 | .sub=>some (.int (i - j))
 | .mul=>if CMulB i j then some (.int (i * j)) else none
 | .fdiv=>if 0 < j/\j < 10000000000000000000000000000000000000000000000000000000000000000000000 then some (.int (i / j)) else none
 | .mod=>if 0 < j then some (.int (i % j)) else none
 | .pow=>if 0<=j/\j<=1000000/\i.natAbs < 18446744073709551616 then some (.int (i ^ j.toNat)) else none
 | .shl=>if 0<=j/\j<=1000000/\i.natAbs < 18446744073709551616 then some (.int (i * 2 ^ j.toNat)) else none
 | .shr=>if 0<=j then some (.int (i / 2 ^ j.toNat)) else none
 | .band=>some (.int (Builtin.bitAnd i j))
 | .bor=>some (.int (Builtin.bitOr i j))
 | .bxor=>some (.int (Builtin.bitXor i j))
noncomputable def sizeMax:Nat:=16777216
noncomputable def binV (o:BOp) (x y:PV):Option PV :=
 match x,y with
 | .int i,.int j=>binI o i j
 | .int i,.bl b=>match o with
  | .add=>some (.int (i+bi b))
  | _=>none
 | .str a,.str b=>match o with
  | .add=>if a.length+b.length<=sizeMax then some (.str (a++b)) else none
  | _=>none
 | .tp _ a,.tp _ b=>match o with
  | .add=>if a.length+b.length<=sizeMax/\a.isEmpty=false/\b.isEmpty=false then some (.tup (a++b)) else none
  | _=>none
 | .lst a,.lst b=>match o with
  | .add=>if a.length+b.length<=sizeMax then some (.lst (a++b)) else none
  | _=>none
 | _,_=>none
noncomputable def augV (o:BOp) (x y:PV):Option PV :=
 match x,y with
 | .int i,.int j=>binI o i j
 | _,_=>none
noncomputable def isNon:PV->Bool
 | .non=>true
 | _=>false
noncomputable def inL (x:PV):List PV->Bool
 | []=>false
 | y :: ys=>peq y x || inL x ys
noncomputable def inS (a b:Str):Bool:=(List.range (b.length+1)).any fun i=>decide (i+a.length<=b.length) && (b.cps.extract i (i+a.length) == a.cps)
noncomputable def cmpI (o:COp) (i j:Int):Option PV :=
 match o with
 | .lt=>some (.bl (decide (i < j)))
 | .le=>some (.bl (decide (i<=j)))
 | .gt=>some (.bl (decide (j < i)))
 | .ge=>some (.bl (decide (j<=i)))
 | _=>none
noncomputable def cmpV (o:COp) (x y:PV):Option PV :=
 match o with
 | .eq=>if shp x && shp y then some (.bl (peq x y)) else none
 | .ne=>if shp x && shp y then some (.bl (!peq x y)) else none
 | .is=>match y with
  | .non=>some (.bl (isNon x))
  | _=>none
 | .isnot=>match y with
  | .non=>some (.bl (!isNon x))
  | _=>none
 | .isin=>match x,y with
  | .str a,.str b=>some (.bl (inS a b))
  | x,.tp _ l=>if flat x && l.all flat then some (.bl (inL x l)) else none
  | x,.lst l=>if flat x && l.all flat then some (.bl (inL x l)) else none
  | _,_=>none
 | .notin=>match x,y with
  | .str a,.str b=>some (.bl (!inS a b))
  | x,.tp _ l=>if flat x && l.all flat then some (.bl (!inL x l)) else none
  | x,.lst l=>if flat x && l.all flat then some (.bl (!inL x l)) else none
  | _,_=>none
 | o=>match x,y with
  | .int i,.int j=>cmpI o i j
  | _,_=>none
noncomputable def truV (st:Store) (x:PV):Option Bool :=
 match x with
 | .non=>some false
 | .bl b=>some b
 | .int i=>some (i != 0)
 | .str y=>if y.length<=sizeMax then some ((y.length:Int) != 0) else none
 | .tp _ xs=>some (!xs.isEmpty)
 | .lst xs=>some (!xs.isEmpty)
 | .loc n=>match st[n]? with
  | some (.lst xs)=>some (!xs.isEmpty)
  | _=>none
 | _=>none
noncomputable def ixI (n:Nat) (i:Int):Option Nat:=if 0<=i then (if i < n then some i.toNat else none) else if -(n:Int)<=i then some (i+n).toNat else none
noncomputable def at? {α:Type} (xs:List α) (i:Int):Option α:=(ixI xs.length i).bind fun j=>xs[j]?
noncomputable def look (k:PV):List (PV × PV)->Option PV
 | []=>none
 | (a,b) :: r=>if peq a k then some b else look k r
noncomputable def put (k v:PV) (kvs:List (PV × PV)):List (PV × PV) :=
 if (kvs.any fun p=>peq p.1 k)=true then kvs.map (fun p=>if peq p.1 k=true then (p.1,v) else p) else kvs++[(k,v)]
noncomputable def isKey0:PV->Bool
 | .int _=>true
 | .str _=>true
 | _=>false
noncomputable def isKey (t:Bool) (k:PV):Bool :=
 match t with
 | false=>isKey0 k
 | true=>match k with
  | .tp false xs=>xs.all isKey0
  | _=>false
noncomputable def idxI {α:Type} (xs:List α) (i:PV):Option α :=
 match i with
 | .int k=>at? xs k
 | _=>none
noncomputable def idxV (st:Store) (x i:PV):Option PV :=
 match x with
 | .tp _ xs=>idxI xs i
 | .lst xs=>idxI xs i
 | .str s=>if s.length<=sizeMax then (idxI s.cps.toList i).map fun c=>.str ⟨#[c]⟩ else none
 | .loc n=>match st[n]? with
  | some (.lst xs)=>idxI xs i
  | _=>none
 | _=>none
noncomputable def clampI (n:Nat) (v:Int):Nat:=if v < 0 then (v+(n:Int)).toNat else min v.toNat n
noncomputable def loOf (n:Nat) (lo:Option Int):Nat :=
 match lo with
 | none=>0
 | some i=>clampI n i
noncomputable def hiOf (n:Nat) (hi:Option Int):Nat :=
 match hi with
 | none=>n
 | some i=>clampI n i
noncomputable def cut {α:Type} (xs:List α) (lo hi:Option Int):List α:=(xs.drop (loOf xs.length lo)).take (hiOf xs.length hi - loOf xs.length lo)
noncomputable def optI:PV->Option (Option Int)
 | .non=>some none
 | .int i=>some (some i)
 | _=>none
noncomputable def slcO (x:PV) (a b:Option Int):Option PV :=
 match x with
 | .tp _ xs=>if loOf xs.length a=0/\hiOf xs.length b=xs.length then none else some (.tup (cut xs a b))
 | .lst xs=>some (.lst (cut xs a b))
 | .scr xs=>some (.lst (cut xs a b))
 | _=>none
noncomputable def slcV (x:PV) (a:Option Int) (hi:PV):Option PV :=
 match optI hi with
 | some b=>slcO x a b
 | none=>none
noncomputable def isTy (x:PV) (t:Ty):Bool :=
 match x,t with
 | .int _,.int=>true
 | .bl _,.int=>true
 | .bl _,.bool=>true
 | .str _,.str=>true
 | .tp _ _,.tuple=>true
 | .lst _,.list=>true
 | .exn c,.cls d=>c == d
 | .exn _,.val=>true
 | _,_=>false
noncomputable def isBl:Ty->Bool
 | .cls _=>false
 | .val=>false
 | _=>true
noncomputable def isiV (x:PV) (ts:List Ty):Option PV :=
 match x with
 | .loc _=>none
 | .scr _=>none
 | .exn c=>if ts.all isBl then none else some (.bl (ts.any (isTy (.exn c))))
 | x=>match ts with
  | [t]=>if isBl t then some (.bl (isTy x t)) else none
  | _=>none
noncomputable def allB:List PV->Option Bool
 | []=>some true
 | .bl b :: r=>match allB r with
  | some c=>some (b && c)
  | none=>none
 | _ :: _=>none
noncomputable def sumI:List PV->Option Int
 | []=>some 0
 | .int i :: r=>match sumI r with
  | some c=>some (i+c)
  | none=>none
 | _ :: _=>none
noncomputable def maxI:List PV->Option Int
 | []=>none
 | [.int i]=>some i
 | .int i :: r=>match maxI r with
  | some c=>some (if i < c then c else i)
  | none=>none
 | _ :: _=>none
noncomputable def seqOf (st:Store):PV->Option (List PV)
 | .tp _ xs=>some xs
 | .lst xs=>some xs
 | .loc n=>match st[n]? with
  | some (.lst xs)=>some xs
  | _=>none
 | _=>none
noncomputable def lstOf (st:Store):PV->Option (List PV)
 | .lst xs=>some xs
 | .loc n=>match st[n]? with
  | some (.lst xs)=>some xs
  | _=>none
 | _=>none
noncomputable def lenV (st:Store) (x:PV):Option PV :=
 match x with
 | .str s=>if s.length<=sizeMax then some (.int s.length) else none
 | x=>(seqOf st x).map fun xs=>.int xs.length
noncomputable def intV (x:PV):Option PV :=
 match x with
 | .int i=>some (.int i)
 | .bl k=>some (.int (bi k))
 | _=>none
noncomputable def absV1 (x:PV):Option PV :=
 match x with
 | .int i=>some (.int (if i < 0 then -i else i))
 | _=>none
noncomputable def minV (x y:PV):Option PV :=
 match x,y with
 | .int i,.int j=>some (.int (if j < i then j else i))
 | _,_=>none
noncomputable def maxV (x y:PV):Option PV :=
 match x,y with
 | .int i,.int j=>some (.int (if i < j then j else i))
 | _,_=>none
noncomputable def tupV (st:Store) (x:PV):Option PV :=
 match x with
 | .tp k xs=>some (.tp k xs)
 | x=>(lstOf st x).map .tup
noncomputable def bltV (b:Blt) (st:Store) (vs:List PV):Option PV :=
 match vs with
 | [x]=>match b with
  | .len=>lenV st x
  | .int=>intV x
  | .abs=>absV1 x
  | .max=>(lstOf st x).bind fun xs=>(maxI xs).map .int
  | .tuple=>tupV st x
  | .list=>(seqOf st x).map .lst
  | .all=>(lstOf st x).bind fun xs=>(allB xs).map .bl
  | .sum=>(lstOf st x).bind fun xs=>(sumI xs).map .int
  | _=>none
 | [x,y]=>match b with
  | .min=>minV x y
  | .max=>maxV x y
  | _=>none
 | _=>none
noncomputable def dctOf (st:Store):PV->Option (Bool × List (PV × PV))
 | .loc n=>match st[n]? with
  | some (.dct t xs)=>some (t,xs)
  | _=>none
 | _=>none
noncomputable def mthOk (m:Mth) (st:Store) (x:PV):Option Bool :=
 match m with
 | .append=>(lstOf st x).map fun _=>true
 | .extend=>(lstOf st x).map fun _=>true
 | .get=>(dctOf st x).map fun _=>true
 | .bits=>match x with
  | .int _=>some true
  | _=>none
 | .upper=>none
noncomputable def appV (st:Store) (o v:PV):R PV :=
 match o with
 | .loc n=>match st[n]? with
  | some (.lst xs)=>if xs.length < 1000000 then .ok .non (st.set n (.lst (xs++[v]))) else .bad
  | _=>.bad
 | _=>.bad
noncomputable def extV (st:Store) (o v:PV):R PV :=
 match o with
 | .loc n=>match st[n]? with
  | some (.lst xs)=>match v with
   | .lst ys=>if xs.length+ys.length<=1000000 then .ok .non (st.set n (.lst (xs++ys))) else .bad
   | _=>.bad
  | _=>.bad
 | _=>.bad
noncomputable def getV (st:Store) (o k d:PV):R PV :=
 match dctOf st o with
 | some (t,kvs)=>if isKey t k then .ok ((look k kvs).getD d) st else .bad
 | none=>.bad
noncomputable def mthV (m:Mth) (st:Store) (o:PV) (vs:List PV):R PV :=
 match m,vs with
 | .append,[v]=>appV st o v
 | .extend,[v]=>extV st o v
 | .get,[k,d]=>getV st o k d
 | .bits,[]=>match o with
  | .int i=>.ok (.int (Builtin.Int.intBits i)) st
  | _=>.bad
 | _,_=>.bad
noncomputable def toR (o:Option PV) (st:Store):R PV :=
 match o with
 | some v=>.ok v st
 | none=>.bad
noncomputable def bindT (t:Tg) (v:PV) (ρ:Env):Option Env :=
 match t,v with
 | .n i,v=>some (ρ.set i (some v))
 | .t l,.tp _ xs=>if l.length=xs.length then some ((l.zip xs).foldl (fun ρ p=>ρ.set p.1 (some p.2)) ρ) else none
 | _,_=>none
noncomputable def pairsUp:Nat->List PV->List PV
 | _,[]=>[]
 | k,x :: xs=>.tup [.int k,x] :: pairsUp (k+1) xs
noncomputable def zipUp:List PV->List PV->List PV
 | x :: xs,y :: ys=>.tup [x,y] :: zipUp xs ys
 | _,_=>[]
noncomputable def rangeL:Nat->Int->Int->List PV
 | 0,_,_=>[]
 | n+1,a,d=>.int a :: rangeL n (a+d) d
noncomputable def rng1 (x:PV):Option (List PV) :=
 match x with
 | .int j=>if j.natAbs < 1000000000 then some (rangeL j.toNat 0 1) else none
 | _=>none
noncomputable def rng2 (x y:PV):Option (List PV) :=
 match x,y with
 | .int i,.int j=>if i.natAbs < 1000000000/\j.natAbs < 1000000000 then some (rangeL (j - i).toNat i 1) else none
 | _,_=>none
noncomputable def rngD (x y:PV):Option (List PV) :=
 match x,y with
 | .int i,.int j=>if i.natAbs < 1000000000/\j.natAbs < 1000000000 then some (rangeL (i - j).toNat i (-1)) else none
 | _,_=>none
noncomputable def toL (o:Option (List PV)) (st:Store):R (List PV) :=
 match o with
 | some v=>.ok v st
 | none=>.bad
noncomputable def frzV (v:PV) (st:Store):R PV :=
 match v with
 | .loc n=>match st[n]? with
  | some (.lst xs)=>.ok (.lst xs) (st.set n .dead)
  | _=>.bad
 | v=>.ok v st
inductive Fl where
 | nx (ρ:Env) (st:Store) | rt (v:PV) (st:Store) | bk (ρ:Env) (st:Store) | ct (ρ:Env) (st:Store) | exc (c:Nat) (ρ:Env) (st:Store) | bad
noncomputable def onBl {α:Type} (x:PV) (k:Bool->R α):R α :=
 match x with
 | .bl b=>k b
 | _=>.bad
noncomputable def onO {α:Type} (o:Option Bool) (k:Bool->R α):R α :=
 match o with
 | some b=>k b
 | none=>.bad
noncomputable def onF (o:Option Bool) (k:Bool->Fl):Fl :=
 match o with
 | some b=>k b
 | none=>.bad
noncomputable def onP {α:Type} (o:Option (Option Int)) (k:Option Int->R α):R α :=
 match o with
 | some b=>k b
 | none=>.bad
noncomputable def blO (o:Option PV):Option Bool :=
 match o with
 | some (.bl b)=>some b
 | _=>none
noncomputable def consO (o:Option PV) (ys:List PV):List PV :=
 match o with
 | some y=>y :: ys
 | none=>ys
noncomputable def compL (one:PV->Store->R (Option PV)):List PV->Store->R (List PV)
 | [],st=>.ok [] st
 | x :: xs,st=>(one x st).bind fun o st1=>(compL one xs st1).bind fun ys st2=>.ok (consO o ys) st2
noncomputable def lstR (r:R (List PV)):R PV :=
 match r with
 | .ok ys st=>if ys.length<=1000000 then .ok (.lst ys) st else .bad
 | _=>.bad
mutual
noncomputable def ev (call:Nat->List PV->Store->R PV) (ρ:Env) (st:Store):Ce->R PV
 | .cst v=>.ok v st
 | .var i=>match ρ[i]? with
  | some (some v)=>.ok v st
  | _=>.bad
 | .bin o a b=>(ev call ρ st a).bind fun x st1=>(ev call ρ st1 b).bind fun y st2=>toR (binV o x y) st2
 | .neg a=>(ev call ρ st a).bind fun x st1=>match x with
  | .int i=>.ok (.int (-i)) st1
  | _=>.bad
 | .not a=>(ev call ρ st a).bind fun x st1=>onBl x fun k=>.ok (.bl (!k)) st1
 | .and a b=>(ev call ρ st a).bind fun x st1=>onBl x fun k=>cond k (ev call ρ st1 b) (.ok (.bl false) st1)
 | .or a b=>(ev call ρ st a).bind fun x st1=>onBl x fun k=>cond k (.ok (.bl true) st1) (ev call ρ st1 b)
 | .cmp o a b=>(ev call ρ st a).bind fun x st1=>(ev call ρ st1 b).bind fun y st2=>toR (cmpV o x y) st2
 | .chain o p a b c=>(ev call ρ st a).bind fun x st1=>(ev call ρ st1 b).bind fun y st2=>onO (blO (cmpV o x y)) fun k=>cond k ((ev call ρ st2 c).bind fun z st3=>toR (cmpV p y z) st3) (.ok (.bl false) st2)
 | .ite c a b=>(ev call ρ st c).bind fun x st1=>onO (truV st1 x) fun k=>cond k (ev call ρ st1 a) (ev call ρ st1 b)
 | .tup es=>(evs call ρ st es).bind fun vs st1=>if vs.length<=sizeMax then .ok (.tup vs) st1 else .bad
 | .lst es=>(evs call ρ st es).bind fun vs st1=>if vs.length<=sizeMax then .ok (.lst vs) st1 else .bad
 | .newl es=>(evs call ρ st es).bind fun vs st1=>if vs.length<=sizeMax then .ok (.loc st1.length) (st1++[.lst vs]) else .bad
 | .newd kvs=>if kvs.length<=15 then .ok (.loc st.length) (st++[.dct false (kvs.foldl (fun acc kv=>put (.str kv.1) (.int kv.2) acc) [])]) else .bad
 | .dict0 t=>.ok (.loc st.length) (st++[.dct t []])
 | .idx a i=>(ev call ρ st a).bind fun x st1=>(ev call ρ st1 i).bind fun y st2=>toR (idxV st2 x y) st2
 | .slc a l h=>(ev call ρ st a).bind fun x st1=>(ev call ρ st1 l).bind fun y st2=>onP (optI y) fun o=>(ev call ρ st2 h).bind fun z st3=>toR (slcV x o z) st3
 | .call f es=>(evs call ρ st es).bind fun vs st1=>call f vs st1
 | .blt b es=>(evs call ρ st es).bind fun vs st1=>toR (bltV b st1 vs) st1
 | .mth m o es=>(ev call ρ st o).bind fun x st1=>onO (mthOk m st1 x) fun _=>(evs call ρ st1 es).bind fun vs st2=>mthV m st2 x vs
 | .isi a ts=>(ev call ρ st a).bind fun x st1=>toR (isiV x ts) st1
 | .comp sl tg it c e=>(evi call ρ st it).bind fun xs st1 =>
  let ρ0:Env:=sl.map fun o=>o.bind fun j=>(ρ[j]?).join
  lstR (compL (fun x st2=>match bindT tg x ρ0 with
   | none=>.bad
   | some ρ1=>(ev call ρ1 st2 c).bind fun b st3=>onO (truV st3 b) fun k=>cond k ((ev call ρ1 st3 e).bind fun y st4=>.ok (some y) st4) (.ok none st3)) xs st1)
 | .nope=>.bad
 | .frz a=>(ev call ρ st a).bind fun x st1=>frzV x st1
 | .fst es=>(evs call ρ st es).bind fun _ st1=>.ok (.str ⟨#[]⟩) st1
noncomputable def evs (call:Nat->List PV->Store->R PV) (ρ:Env) (st:Store):Ces->R (List PV)
 | .nil=>.ok [] st
 | .cons e es=>(ev call ρ st e).bind fun v st1=>(evs call ρ st1 es).bind fun vs st2=>.ok (v :: vs) st2
noncomputable def evi (call:Nat->List PV->Store->R PV) (ρ:Env) (st:Store):Cit->R (List PV)
 | .seq e=>(ev call ρ st e).bind fun v st1=>match v with
  | .tp _ xs=>.ok xs st1
  | .lst xs=>.ok xs st1
  | _=>.bad
 | .range1 a=>(ev call ρ st a).bind fun x st1=>toL (rng1 x) st1
 | .range2 a b=>(ev call ρ st a).bind fun x st1=>(ev call ρ st1 b).bind fun y st2=>toL (rng2 x y) st2
 | .rangeD a b=>(ev call ρ st a).bind fun x st1=>(ev call ρ st1 b).bind fun y st2=>toL (rngD x y) st2
 | .enum e=>(ev call ρ st e).bind fun v st1=>match v with
  | .tp _ xs=>.ok (pairsUp 0 xs) st1
  | _=>.bad
 | .zip a b=>(ev call ρ st a).bind fun x st1=>(ev call ρ st1 b).bind fun y st2=>match x,y with
  | .tp _ xs,.tp _ ys=>.ok (zipUp xs ys) st2
  | .lst xs,.tp _ ys=>.ok (zipUp xs ys) st2
  | .tp _ xs,.lst ys=>.ok (zipUp xs ys) st2
  | .lst xs,.lst ys=>.ok (zipUp xs ys) st2
  | _,_=>.bad
end
noncomputable def R.fl {α:Type} (r:R α) (ρ:Env) (k:α->Store->Fl):Fl :=
 match r with
 | .ok a st=>k a st
 | .exc c st=>.exc c ρ st
 | .bad=>.bad
noncomputable def againF (f:Fl) (k:Env->Store->Fl):Fl :=
 match f with
 | .nx ρ st=>k ρ st
 | .ct ρ st=>k ρ st
 | .bk ρ st=>.nx ρ st
 | f=>f
noncomputable def forL (t:Tg) (body:Env->Store->Fl):List PV->Env->Store->Fl
 | [],ρ,st=>.nx ρ st
 | x :: xs,ρ,st=>match bindT t x ρ with
  | none=>.bad
  | some ρ1=>againF (body ρ1 st) fun ρ2 st2=>forL t body xs ρ2 st2
noncomputable def whileL (test:Env->Store->R PV) (body:Env->Store->Fl):Nat->Env->Store->Fl
 | 0,_,_=>.bad
 | n+1,ρ,st=>(test ρ st).fl ρ fun x st1=>onF (truV st1 x) fun k=>cond k (againF (body ρ st1) fun ρ2 st2=>whileL test body n ρ2 st2) (.nx ρ st1)
noncomputable def sixV (st:Store) (o i v:PV):Option Store :=
 match o with
 | .loc n=>match st[n]? with
  | some (.lst xs)=>match i with
   | .int k=>match ixI xs.length k with
    | some j=>some (st.set n (.lst (xs.set j v)))
    | none=>none
   | _=>none
  | _=>none
 | _=>none
noncomputable def dputV (st:Store) (o i v:PV):Option Store :=
 match o with
 | .loc n=>match st[n]? with
  | some (.dct t kvs)=>if isKey t i/\kvs.length < 1000000 then some (st.set n (.dct t (put i v kvs))) else none
  | _=>none
 | _=>none
mutual
noncomputable def ex (call:Nat->List PV->Store->R PV) (ρ:Env) (st:Store):Cs->Fl
 | .expr e=>(ev call ρ st e).fl ρ fun _ st1=>.nx ρ st1
 | .asg t e=>(ev call ρ st e).fl ρ fun v st1=>match bindT t v ρ with
  | some ρ1=>.nx ρ1 st1
  | none=>.bad
 | .six o i e=>(ev call ρ st e).fl ρ fun v st1=>(ev call ρ st1 o).fl ρ fun x st2=>(ev call ρ st2 i).fl ρ fun y st3=>match sixV st3 x y v with
  | some st4=>.nx ρ st4
  | none=>.bad
 | .dput o i e=>(ev call ρ st e).fl ρ fun v st1=>(ev call ρ st1 o).fl ρ fun x st2=>(ev call ρ st2 i).fl ρ fun y st3=>match dputV st3 x y v with
  | some st4=>.nx ρ st4
  | none=>.bad
 | .aug i o e=>match ρ[i]? with
  | some (some x)=>(ev call ρ st e).fl ρ fun y st1=>match augV o x y with
   | some z=>.nx (ρ.set i (some z)) st1
   | none=>.bad
  | _=>.bad
 | .ret e=>(ev call ρ st e).fl ρ fun v st1=>.rt v st1
 | .ite c a b=>(ev call ρ st c).fl ρ fun x st1=>onF (truV st1 x) fun k=>cond k (exs call ρ st1 a) (exs call ρ st1 b)
 | .for t it b=>(evi call ρ st it).fl ρ fun xs st1=>forL t (fun ρ2 st2=>exs call ρ2 st2 b) xs ρ st1
 | .while c b=>whileL (fun ρ2 st2=>ev call ρ2 st2 c) (fun ρ2 st2=>exs call ρ2 st2 b) 100000 ρ st
 | .nope=>.bad
 | .brk=>.bk ρ st
 | .cnt=>.ct ρ st
 | .pass=>.nx ρ st
 | .raise c e=>(ev call ρ st e).fl ρ fun _ st1=>.exc c ρ st1
 | .try b c i h=>match exs call ρ st b with
  | .exc d ρ1 st1=>match exs call (ρ1.set i (some (.exn d))) st1 h with
   | .nx ρ2 st2=>.nx (ρ2.set i none) st2
   | .rt v st2=>.rt v st2
   | _=>.bad
  | f=>f
noncomputable def exs (call:Nat->List PV->Store->R PV) (ρ:Env) (st:Store):Css->Fl
 | .nil=>.nx ρ st
 | .cons s ss=>match ex call ρ st s with
  | .nx ρ1 st1=>exs call ρ1 st1 ss
  | f=>f
end
structure Fn where
 np:Nat
 ns:Nat
 pure:Bool
 body:Css
noncomputable def callT (T:Nat->Option Fn):Nat->Nat->List PV->Store->R PV
 | 0,_,_,_=>.bad
 | k+1,f,args,st=>match T f with
  | none=>.bad
  | some fn=>if args.length=fn.np then
    if fn.pure then
     if noLocs args then match exs (callT T k) (args.map some++List.replicate (fn.ns - fn.np) none) [] fn.body with
      | .rt v _=>if noLoc v then .ok v st else .bad
      | .nx _ _=>.ok .non st
      | .exc c _ _=>.exc c st
      | _=>.bad
     else .bad
    else match exs (callT T k) (args.map some++List.replicate (fn.ns - fn.np) none) st fn.body with
     | .rt v st1=>.ok v st1
     | .nx _ st1=>.ok .non st1
     | .exc c _ st1=>.exc c st1
     | _=>.bad
   else .bad
noncomputable def tailC:List (Sum Ce Int)->Ces
 | []=>.nil
 | .inl c :: r=>.cons c (tailC r)
 | .inr i :: r=>.cons (.cst (.int i)) (tailC r)
noncomputable def appC:Ces->Ces->Ces
 | .nil,b=>b
 | .cons e r,b=>.cons e (appC r b)
def RLe {α:Type} (r q:R α):Prop:=r=.bad \/ r=q
def FLe (f g:Fl):Prop:=f=.bad \/ f=g
noncomputable abbrev Cl:=Nat->List PV->Store->R PV
def CLe (c d:Cl):Prop:=∀ f a s,RLe (c f a s) (d f a s)
theorem RLe.rfl {α:Type} {r:R α}:RLe r r:=.inr (Eq.refl _)
theorem FLe.rfl {f:Fl}:FLe f f:=.inr (Eq.refl _)
theorem RLe.bind {α β:Type} {r q:R α} {k l:α->Store->R β} (h:RLe r q) (hk:∀ a s,RLe (k a s) (l a s)):RLe (r.bind k) (q.bind l):=by
 rcases h with h | h
 ·subst h; exact .inl (Eq.refl _)
 ·subst h
  cases r with
  | ok a s=>exact hk a s
  | exc c s=>exact .rfl
  | bad=>exact .rfl
theorem RLe.fl {α:Type} {r q:R α} {ρ:Env} {k l:α->Store->Fl} (h:RLe r q) (hk:∀ a s,FLe (k a s) (l a s)):FLe (r.fl ρ k) (q.fl ρ l):=by
 rcases h with h | h
 ·subst h; exact .inl (Eq.refl _)
 ·subst h
  cases r with
  | ok a s=>exact hk a s
  | exc c s=>exact .rfl
  | bad=>exact .rfl
theorem RLe.comp {r q:R (List PV)} (h:RLe r q):RLe (lstR r) (lstR q):=by
 rcases h with h | h
 ·subst h; exact .inl (Eq.refl _)
 ·subst h; exact .rfl
theorem zmp {α:Type} {x:PV} {k l:Bool->R α} (h:∀ b,RLe (k b) (l b)):RLe (onBl x k) (onBl x l):=by
 cases x with
 | bl b=>exact h b
 | _=>exact .rfl
theorem zlx {α:Type} {x:Option Bool} {k l:Bool->R α} (h:∀ b,RLe (k b) (l b)):RLe (onO x k) (onO x l):=by
 cases x with
 | some b=>exact h b
 | none=>exact .rfl
theorem zpy {x:Option Bool} {k l:Bool->Fl} (h:∀ b,FLe (k b) (l b)):FLe (onF x k) (onF x l):=by
 cases x with
 | some b=>exact h b
 | none=>exact .rfl
theorem zre {α:Type} {x:Option (Option Int)} {k l:Option Int->R α} (h:∀ b,RLe (k b) (l b)):RLe (onP x k) (onP x l):=by
 cases x with
 | some b=>exact h b
 | none=>exact .rfl
theorem zhB {α:Type} {b:Bool} {r q r' q':R α} (h:RLe r q) (h':RLe r' q'):RLe (cond b r r') (cond b q q'):=by
 cases b
 ·exact h'
 ·exact h
theorem zlk {b:Bool} {r q r' q':Fl} (h:FLe r q) (h':FLe r' q'):FLe (cond b r r') (cond b q q'):=by
 cases b
 ·exact h'
 ·exact h
theorem ziT {f g:PV->Store->R (Option PV)} (h:∀ x s,RLe (f x s) (g x s)):∀ xs s,RLe (compL f xs s) (compL g xs s)
 | [],s=>.rfl
 | x :: xs,s=>(h x s).bind fun o s1=>(ziT h xs s1).bind fun ys s2=>.rfl
theorem zj4 {f g:Fl} {k l:Env->Store->Fl} (h:FLe f g) (hk:∀ ρ s,FLe (k ρ s) (l ρ s)):FLe (againF f k) (againF g l):=by
 rcases h with h | h
 ·subst h; exact .inl (Eq.refl _)
 ·subst h
  cases f with
  | nx ρ s=>exact hk ρ s
  | ct ρ s=>exact hk ρ s
  | _=>exact .rfl
theorem zmK {t:Tg} {f g:Env->Store->Fl} (h:∀ ρ s,FLe (f ρ s) (g ρ s)):∀ xs ρ s,FLe (forL t f xs ρ s) (forL t g xs ρ s)
 | [],ρ,s=>.rfl
 | x :: xs,ρ,s=>by
  unfold forL
  cases bindT t x ρ with
  | none=>exact .rfl
  | some ρ1=>exact zj4 (h ρ1 s) fun ρ2 s2=>zmK h xs ρ2 s2
theorem zj9 {t u:Env->Store->R PV} {f g:Env->Store->Fl} (ht:∀ ρ s,RLe (t ρ s) (u ρ s)) (h:∀ ρ s,FLe (f ρ s) (g ρ s)):∀ n ρ s,FLe (whileL t f n ρ s) (whileL u g n ρ s)
 | 0,ρ,s=>.rfl
 | n+1,ρ,s=>by
  unfold whileL
  exact (ht ρ s).fl fun x s1=>zpy fun b=>zlk (zj4 (h ρ s1) fun ρ2 s2=>zj9 ht h n ρ2 s2) .rfl
mutual
theorem zau {c d:Cl} (h:CLe c d):∀ (e:Ce) (ρ:Env) (s:Store),RLe (ev c ρ s e) (ev d ρ s e)
 | .cst v,ρ,s=>by simp only [ev]; exact .rfl
 | .var i,ρ,s=>by simp only [ev]; exact .rfl
 | .bin o a b,ρ,s=>by
  simp only [ev]
  exact (zau h a ρ s).bind fun x s1=>(zau h b ρ s1).bind fun y s2=>.rfl
 | .neg a,ρ,s=>by
  simp only [ev]
  exact (zau h a ρ s).bind fun x s1=>.rfl
 | .not a,ρ,s=>by
  simp only [ev]
  exact (zau h a ρ s).bind fun x s1=>.rfl
 | .and a b,ρ,s=>by
  simp only [ev]
  refine (zau h a ρ s).bind fun x s1=>?_
  exact zmp fun k=>zhB (zau h b ρ s1) .rfl
 | .or a b,ρ,s=>by
  simp only [ev]
  refine (zau h a ρ s).bind fun x s1=>?_
  exact zmp fun k=>zhB .rfl (zau h b ρ s1)
 | .cmp o a b,ρ,s=>by
  simp only [ev]
  exact (zau h a ρ s).bind fun x s1=>(zau h b ρ s1).bind fun y s2=>.rfl
 | .chain o p a b k,ρ,s=>by
  simp only [ev]
  refine (zau h a ρ s).bind fun x s1=>(zau h b ρ s1).bind fun y s2=>?_
  exact zlx fun q=>zhB ((zau h k ρ s2).bind fun z s3=>.rfl) .rfl
 | .ite k a b,ρ,s=>by
  simp only [ev]
  exact (zau h k ρ s).bind fun x s1=>zlx fun q=>zhB (zau h a ρ s1) (zau h b ρ s1)
 | .tup es,ρ,s=>by
  simp only [ev]
  exact (zgo h es ρ s).bind fun x s1=>.rfl
 | .lst es,ρ,s=>by
  simp only [ev]
  exact (zgo h es ρ s).bind fun x s1=>.rfl
 | .newl es,ρ,s=>by
  simp only [ev]
  exact (zgo h es ρ s).bind fun x s1=>.rfl
 | .newd kvs,ρ,s=>by simp only [ev]; exact .rfl
 | .dict0 t,ρ,s=>by simp only [ev]; exact .rfl
 | .idx a i,ρ,s=>by
  simp only [ev]
  exact (zau h a ρ s).bind fun x s1=>(zau h i ρ s1).bind fun y s2=>.rfl
 | .slc a l u,ρ,s=>by
  simp only [ev]
  exact (zau h a ρ s).bind fun x s1=>(zau h l ρ s1).bind fun y s2=>zre fun o=>(zau h u ρ s2).bind fun z s3=>.rfl
 | .call f es,ρ,s=>by
  simp only [ev]
  exact (zgo h es ρ s).bind fun x s1=>h f x s1
 | .blt b es,ρ,s=>by
  simp only [ev]
  exact (zgo h es ρ s).bind fun x s1=>.rfl
 | .mth m o es,ρ,s=>by
  simp only [ev]
  exact (zau h o ρ s).bind fun x s1=>zlx fun _=>(zgo h es ρ s1).bind fun y s2=>.rfl
 | .isi a ts,ρ,s=>by
  simp only [ev]
  exact (zau h a ρ s).bind fun x s1=>.rfl
 | .comp sl tg it k e,ρ,s=>by
  simp only [ev]
  refine (zpm h it ρ s).bind fun xs s1=>?_
  have q:=fun (f g:PV->Store->R (Option PV)) (hfg:∀ x s,RLe (f x s) (g x s))=>ziT hfg xs s1
  refine RLe.comp (ziT (fun x s2=>?_) xs s1)
  cases bindT tg x _ with
  | none=>exact .rfl
  | some ρ1 =>
   dsimp only
   exact (zau h k ρ1 s2).bind fun b s3=>zlx fun q=>zhB ((zau h e ρ1 s3).bind fun y s4=>.rfl) .rfl
 | .nope,ρ,s=>by simp only [ev]; exact .rfl
 | .frz a,ρ,s=>by
  simp only [ev]
  exact (zau h a ρ s).bind fun x s1=>.rfl
 | .fst es,ρ,s=>by
  simp only [ev]
  exact (zgo h es ρ s).bind fun x s1=>.rfl
theorem zgo {c d:Cl} (h:CLe c d):∀ (e:Ces) (ρ:Env) (s:Store),RLe (evs c ρ s e) (evs d ρ s e)
 | .nil,ρ,s=>by simp only [evs]; exact .rfl
 | .cons e es,ρ,s=>by
  simp only [evs]
  exact (zau h e ρ s).bind fun x s1=>(zgo h es ρ s1).bind fun y s2=>.rfl
theorem zpm {c d:Cl} (h:CLe c d):∀ (e:Cit) (ρ:Env) (s:Store),RLe (evi c ρ s e) (evi d ρ s e)
 | .seq e,ρ,s=>by
  simp only [evi]
  exact (zau h e ρ s).bind fun x s1=>.rfl
 | .range1 a,ρ,s=>by
  simp only [evi]
  exact (zau h a ρ s).bind fun x s1=>.rfl
 | .range2 a b,ρ,s=>by
  simp only [evi]
  exact (zau h a ρ s).bind fun x s1=>(zau h b ρ s1).bind fun y s2=>.rfl
 | .rangeD a b,ρ,s=>by
  simp only [evi]
  exact (zau h a ρ s).bind fun x s1=>(zau h b ρ s1).bind fun y s2=>.rfl
 | .enum e,ρ,s=>by
  simp only [evi]
  exact (zau h e ρ s).bind fun x s1=>.rfl
 | .zip a b,ρ,s=>by
  simp only [evi]
  exact (zau h a ρ s).bind fun x s1=>(zau h b ρ s1).bind fun y s2=>.rfl
end
mutual
theorem zsI {c d:Cl} (h:CLe c d):∀ (x:Cs) (ρ:Env) (s:Store),FLe (ex c ρ s x) (ex d ρ s x)
 | .expr e,ρ,s=>by
  simp only [ex]
  exact (zau h e ρ s).fl fun x s1=>.rfl
 | .asg t e,ρ,s=>by
  simp only [ex]
  exact (zau h e ρ s).fl fun x s1=>.rfl
 | .six o i e,ρ,s=>by
  simp only [ex]
  exact (zau h e ρ s).fl fun x s1=>(zau h o ρ s1).fl fun y s2=>(zau h i ρ s2).fl fun z s3=>.rfl
 | .dput o i e,ρ,s=>by
  simp only [ex]
  exact (zau h e ρ s).fl fun x s1=>(zau h o ρ s1).fl fun y s2=>(zau h i ρ s2).fl fun z s3=>.rfl
 | .aug i o e,ρ,s=>by
  simp only [ex]
  split
  ·exact (zau h e ρ s).fl fun x s1=>.rfl
  ·exact .rfl
 | .ret e,ρ,s=>by
  simp only [ex]
  exact (zau h e ρ s).fl fun x s1=>.rfl
 | .ite k a b,ρ,s=>by
  simp only [ex]
  exact (zau h k ρ s).fl fun x s1=>zpy fun q=>zlk (zfn h a ρ s1) (zfn h b ρ s1)
 | .for t it b,ρ,s=>by
  simp only [ex]
  exact (zpm h it ρ s).fl fun xs s1=>zmK (fun ρ2 s2=>zfn h b ρ2 s2) xs ρ s1
 | .while k b,ρ,s=>by
  simp only [ex]
  exact zj9 (fun ρ2 s2=>zau h k ρ2 s2) (fun ρ2 s2=>zfn h b ρ2 s2) _ ρ s
 | .nope,ρ,s=>by simp only [ex]; exact .rfl
 | .brk,ρ,s=>by simp only [ex]; exact .rfl
 | .cnt,ρ,s=>by simp only [ex]; exact .rfl
 | .pass,ρ,s=>by simp only [ex]; exact .rfl
 | .raise k e,ρ,s=>by
  simp only [ex]
  exact (zau h e ρ s).fl fun x s1=>.rfl
 | .try b k i u,ρ,s=>by
  simp only [ex]
  rcases zfn h b ρ s with e | e
  ·rw [e]; exact .inl (Eq.refl _)
  ·rw [e]
   cases exs d ρ s b with
   | exc q ρ1 s1 =>
    dsimp only
    rcases zfn h u (ρ1.set i (some (.exn q))) s1 with e | e
    ·rw [e]; exact .inl (Eq.refl _)
    ·rw [e]; exact .rfl
   | _=>exact .rfl
theorem zfn {c d:Cl} (h:CLe c d):∀ (x:Css) (ρ:Env) (s:Store),FLe (exs c ρ s x) (exs d ρ s x)
 | .nil,ρ,s=>by simp only [exs]; exact .rfl
 | .cons x xs,ρ,s=>by
  simp only [exs]
  rcases zsI h x ρ s with e | e
  ·rw [e]; exact .inl (Eq.refl _)
  ·rw [e]
   cases ex d ρ s x with
   | nx ρ1 s1=>exact zfn h xs ρ1 s1
   | _=>exact .rfl
end
theorem zjz (T:Nat->Option Fn):∀ k,CLe (callT T k) (callT T (k+1))
 | 0,f,a,s=>.inl (Eq.refl _)
 | k+1,f,a,s=>by
  have h:=zjz T k
  rw [callT,callT]
  cases T f with
  | none=>exact .rfl
  | some fn =>
   dsimp only
   split
   ·split
    ·split
     ·rcases zfn h fn.body (a.map some++List.replicate (fn.ns - fn.np) none) [] with e | e
      ·rw [e]; exact .inl (Eq.refl _)
      ·rw [e]; exact .rfl
     ·exact .rfl
    ·rcases zfn h fn.body (a.map some++List.replicate (fn.ns - fn.np) none) s with e | e
     ·rw [e]; exact .inl (Eq.refl _)
     ·rw [e]; exact .rfl
   ·exact .rfl
theorem zlt {T:Nat->Option Fn} {k:Nat} {f:Nat} {a:List PV} {s s':Store} {v:PV} (h:callT T k f a s=.ok v s'):∀ j,callT T (k+j) f a s=.ok v s'
 | 0=>h
 | j+1=>by
  have q:=zlt h j
  rcases zjz T (k+j) f a s with e | e
  ·rw [q] at e; cases e
  ·rw [Nat.add_assoc] at e
   rw [<- e]; exact q
end IC
namespace L2
open PySem PySem.Spec PyProof.Rows IC
noncomputable abbrev Ph:=List (Option Addr)
section
variable (K:PySem.W.Frag) (cl:Nat->Addr) (B:Addr->Prop) (φ:Ph) (H:Hp)
def RTup (k:Bool) (a:Addr) (xs:List V):Prop:=(H a=some (.tup xs)/\¬ B a/\some a ∉ φ) \/
 k=true/\∃ (o:Obj) (its:Array Value) (n:Nat),K.lookup a=some o/\o.cls=.type "tuple"/\o.data=.seq its n/\its.size<=sizeLine/\Vals xs its.toList
def RLst (a:Addr) (xs:List V):Prop:=H a=some (.lst xs)/\¬ B a/\some a ∉ φ
def RScr (a:Addr) (xs:List V):Prop:=(Rd H a (.lst xs)/\¬ B a/\some a ∉ φ) \/
 ∃ (o:Obj) (its:Array Value) (n:Nat),K.lookup a=some o/\o.cls=.type "list"/\o.dict=none/\o.data=.seq its n/\its.size<=sizeLine/\Vals xs its.toList
mutual
noncomputable def RepV:PV->V->Prop
 | .non,x=>x=.non
 | .bl b,x=>x=.bl b
 | .int i,x=>x=.int i
 | .str s,x=>x=.str s
 | .tp k vs,x=>∃ a xs,x=.ref a/\RTup K B φ H k a xs/\RepL vs xs
 | .lst vs,x=>∃ a xs,x=.ref a/\RLst B φ H a xs/\RepL vs xs
 | .loc n,x=>n < φ.length/\∃ a,x=.ref a/\∀ b,φ[n]?=some (some b)->b=a
 | .exn c,x=>∃ a,x=.ref a/\H a=some (.ext (ExcO a (cl c)))/\¬ B a/\some a ∉ φ
 | .scr vs,x=>∃ a xs,x=.ref a/\RScr K B φ H a xs/\RepL vs xs
noncomputable def RepL:List PV->List V->Prop
 | [],xs=>xs=[]
 | v :: vs,xs=>∃ y ys,xs=y :: ys/\RepV v y/\RepL vs ys
end
noncomputable def keyP:Key->PV
 | .inl i=>.int i
 | .inr y=>.str y
noncomputable def DK:List (PV × PV)->List (Key × V)->Prop
 | [],ks=>ks=[]
 | (k,v) :: r,ks=>∃ q x s,ks=(q,x) :: s/\k=keyP q/\RepV K cl B φ H v x/\DK r s
noncomputable def DT:List (PV × PV)->List (List Key × V)->Prop
 | [],ks=>ks=[]
 | (k,v) :: r,ks=>∃ q x s,ks=(q,x) :: s/\k=.tup (q.map keyP)/\RepV K cl B φ H v x/\DT r s
noncomputable def RepO:Ob->Addr->Prop
 | .lst vs,a=>∃ xs,H a=some (.lst xs)/\RepL K cl B φ H vs xs
 | .dct false kvs,a=>∃ ks,H a=some (.dK ks)/\DK K cl B φ H kvs ks
 | .dct true kvs,a=>∃ ks,H a=some (.dT ks)/\DT K cl B φ H kvs ks
 | .dead,_=>False
structure RepS (st:Store):Prop where
 len:φ.length=st.length
 inj:∀ (m n:Nat) (a:Addr),φ[m]?=some (some a)->φ[n]?=some (some a)->m=n
 obj:∀ (n:Nat) (a:Addr),φ[n]?=some (some a)->∃ o,st[n]?=some o/\RepO K cl B φ H o a
 liv:∀ (n:Nat) (o:Ob),st[n]?=some o->o ≠ .dead->∃ a,φ[n]?=some (some a)
 nb:∀ a,some a ∈ φ->¬ B a
 dom:∀ a,B a->∃ o,H a=some o
structure RepE (ρ:IC.Env) (σ:St):Prop where
 len:ρ.length=σ.length
 get:∀ (i:Nat) (v:PV),ρ[i]?=some (some v)->∃ x,σ[i]?=some (some x)/\RepV K cl B φ H v x
end
structure Step (φ:Ph) (H:Hp) (φ':Ph) (H':Hp):Prop where
 keep:∀ b o,some b ∉ φ->H b=some o->H' b=some o
 len:φ.length<=φ'.length
 pre:∀ (n:Nat) (a:Addr),n < φ.length->φ'[n]?=some (some a)->φ[n]?=some (some a)
 new:∀ b,some b ∈ φ'->some b ∈ φ \/ H b=none
theorem Step.rfl {φ:Ph} {H:Hp}:Step φ H φ H:=⟨fun _ _ _ e=>e,Nat.le_refl _,fun _ _ _ e=>e,fun _ h=>.inl h⟩
theorem Step.trans {φ φ1 φ2:Ph} {H H1 H2:Hp} (s:Step φ H φ1 H1) (t:Step φ1 H1 φ2 H2):Step φ H φ2 H2:=by
 refine ⟨fun b o n e=>?_,Nat.le_trans s.len t.len,fun n a hn e=>s.pre n a hn (t.pre n a (Nat.lt_of_lt_of_le hn s.len) e),fun b hb=>?_⟩
 ·refine t.keep b o (fun h=>?_) (s.keep b o n e)
  rcases s.new b h with q | q
  ·exact n q
  ·rw [e] at q; cases q
 ·rcases t.new b hb with q | q
  ·exact s.new b q
  ·by_cases h:some b ∈ φ
   ·exact .inl h
   ·refine .inr ?_
    cases e:H b with
    | none=>exact Eq.refl _
    | some o=>rw [s.keep b o h e] at q; cases q
section
variable {K:PySem.W.Frag} {cl:Nat->Addr} {B:Addr->Prop} {φ φ':Ph} {H H':Hp} {st:Store} {ρ:IC.Env} {σ:St}
theorem Rd.step (s:Step φ H φ' H') {a:Addr} {u:HO} (n:some a ∉ φ) (r:Rd H a u):Rd H' a u/\some a ∉ φ':=by
 have h:∃ o,H a=some o:=by
  rcases r with r | ⟨o,r⟩ <;> exact ⟨_,r⟩
 refine ⟨?_,fun z=>?_⟩
 ·rcases r with r | ⟨o,r⟩
  ·exact .inl (s.keep _ _ n r)
  ·exact .inr ⟨o,s.keep _ _ n r⟩
 ·obtain ⟨o,e⟩:=h
  rcases s.new a z with q | q
  ·exact n q
  ·rw [e] at q; cases q
theorem RTup.step (s:Step φ H φ' H') {k:Bool} {a:Addr} {xs:List V} (r:RTup K B φ H k a xs):RTup K B φ' H' k a xs:=by
 rcases r with ⟨r,b,n⟩ | r
 ·obtain ⟨_,n'⟩:=(Rd.of r).step s n
  exact .inl ⟨s.keep _ _ n r,b,n'⟩
 ·exact .inr r
theorem RLst.step (s:Step φ H φ' H') {a:Addr} {xs:List V} (r:RLst B φ H a xs):RLst B φ' H' a xs:=by
 obtain ⟨r,b,n⟩:=r
 obtain ⟨_,n'⟩:=(Rd.of r).step s n
 exact ⟨s.keep _ _ n r,b,n'⟩
theorem RScr.step (s:Step φ H φ' H') {a:Addr} {xs:List V} (r:RScr K B φ H a xs):RScr K B φ' H' a xs:=by
 rcases r with ⟨r,b,n⟩ | r
 ·obtain ⟨r',n'⟩:=r.step s n
  exact .inl ⟨r',b,n'⟩
 ·exact .inr r
mutual
theorem RepV.step (s:Step φ H φ' H'):∀ (v:PV) (x:V),RepV K cl B φ H v x->RepV K cl B φ' H' v x
 | .non,x,h=>by simp only [RepV] at h ⊢; exact h
 | .bl b,x,h=>by simp only [RepV] at h ⊢; exact h
 | .int i,x,h=>by simp only [RepV] at h ⊢; exact h
 | .str y,x,h=>by simp only [RepV] at h ⊢; exact h
 | .tp k vs,x,h=>by
  simp only [RepV] at h ⊢
  obtain ⟨a,xs,e,r,l⟩:=h
  exact ⟨a,xs,e,r.step s,RepL.step s vs xs l⟩
 | .lst vs,x,h=>by
  simp only [RepV] at h ⊢
  obtain ⟨a,xs,e,r,l⟩:=h
  exact ⟨a,xs,e,r.step s,RepL.step s vs xs l⟩
 | .loc n,x,h=>by
  simp only [RepV] at h ⊢
  obtain ⟨h1,a,e,h2⟩:=h
  exact ⟨Nat.lt_of_lt_of_le h1 s.len,a,e,fun b q=>h2 b (s.pre n b h1 q)⟩
 | .exn c,x,h=>by
  simp only [RepV] at h ⊢
  obtain ⟨a,e,r,b,n⟩:=h
  obtain ⟨_,n'⟩:=(Rd.of r).step s n
  exact ⟨a,e,s.keep _ _ n r,b,n'⟩
 | .scr vs,x,h=>by
  simp only [RepV] at h ⊢
  obtain ⟨a,xs,e,r,l⟩:=h
  exact ⟨a,xs,e,r.step s,RepL.step s vs xs l⟩
theorem RepL.step (s:Step φ H φ' H'):∀ (v:List PV) (x:List V),RepL K cl B φ H v x->RepL K cl B φ' H' v x
 | [],x,h=>by simp only [RepL] at h ⊢; exact h
 | v :: vs,x,h=>by
  simp only [RepL] at h ⊢
  obtain ⟨y,ys,e,r,l⟩:=h
  exact ⟨y,ys,e,RepV.step s v y r,RepL.step s vs ys l⟩
end
theorem RepE.step (s:Step φ H φ' H') (r:RepE K cl B φ H ρ σ):RepE K cl B φ' H' ρ σ:=⟨r.len,fun i v e=>by
 obtain ⟨x,h,q⟩:=r.get i v e
 exact ⟨x,h,q.step s⟩⟩
mutual
theorem RepV.inn (hn:∀ a,some a ∈ φ->¬ B a):∀ (v:PV) (x:V),noLoc v=true->RepV K cl B φ H v x->RepV K cl (fun a=>B a \/ some a ∈ φ) [] H v x
 | .non,x,_,h=>by simp only [RepV] at h ⊢; exact h
 | .bl b,x,_,h=>by simp only [RepV] at h ⊢; exact h
 | .int i,x,_,h=>by simp only [RepV] at h ⊢; exact h
 | .str y,x,_,h=>by simp only [RepV] at h ⊢; exact h
 | .tp k vs,x,q,h=>by
  simp only [RepV] at h ⊢
  obtain ⟨a,xs,e,r,l⟩:=h
  refine ⟨a,xs,e,?_,RepL.inn hn vs xs (by simpa only [noLoc] using q) l⟩
  rcases r with ⟨r,b,n⟩ | r
  ·exact .inl ⟨r,fun z=>z.elim b n,by simp⟩
  ·exact .inr r
 | .lst vs,x,q,h=>by
  simp only [RepV] at h ⊢
  obtain ⟨a,xs,e,⟨r,b,n⟩,l⟩:=h
  exact ⟨a,xs,e,⟨r,fun z=>z.elim b n,by simp⟩,RepL.inn hn vs xs (by simpa only [noLoc] using q) l⟩
 | .loc n,x,q,h=>by simp [noLoc] at q
 | .exn c,x,q,h=>by simp [noLoc] at q
 | .scr vs,x,q,h=>by
  simp only [RepV] at h ⊢
  obtain ⟨a,xs,e,r,l⟩:=h
  refine ⟨a,xs,e,?_,RepL.inn hn vs xs (by simpa only [noLoc] using q) l⟩
  rcases r with ⟨r,b,n⟩ | r
  ·exact .inl ⟨r,fun z=>z.elim b n,by simp⟩
  ·exact .inr r
theorem RepL.inn (hn:∀ a,some a ∈ φ->¬ B a):∀ (v:List PV) (x:List V),noLocs v=true->RepL K cl B φ H v x->RepL K cl (fun a=>B a \/ some a ∈ φ) [] H v x
 | [],x,_,h=>by simp only [RepL] at h ⊢; exact h
 | v :: vs,x,q,h=>by
  simp only [RepL] at h ⊢
  simp only [noLocs,Bool.and_eq_true] at q
  obtain ⟨y,ys,e,r,l⟩:=h
  exact ⟨y,ys,e,RepV.inn hn v y q.1 r,RepL.inn hn vs ys q.2 l⟩
end
mutual
theorem RepV.out {ψ:Ph}:∀ (v:PV) (x:V),noLoc v=true->RepV K cl (fun a=>B a \/ some a ∈ φ) ψ H v x->RepV K cl B φ H v x
 | .non,x,_,h=>by simp only [RepV] at h ⊢; exact h
 | .bl b,x,_,h=>by simp only [RepV] at h ⊢; exact h
 | .int i,x,_,h=>by simp only [RepV] at h ⊢; exact h
 | .str y,x,_,h=>by simp only [RepV] at h ⊢; exact h
 | .tp k vs,x,q,h=>by
  simp only [RepV] at h ⊢
  obtain ⟨a,xs,e,r,l⟩:=h
  refine ⟨a,xs,e,?_,RepL.out vs xs (by simpa only [noLoc] using q) l⟩
  rcases r with ⟨r,b,n⟩ | r
  ·exact .inl ⟨r,fun z=>b (.inl z),fun z=>b (.inr z)⟩
  ·exact .inr r
 | .lst vs,x,q,h=>by
  simp only [RepV] at h ⊢
  obtain ⟨a,xs,e,⟨r,b,n⟩,l⟩:=h
  exact ⟨a,xs,e,⟨r,fun z=>b (.inl z),fun z=>b (.inr z)⟩,RepL.out vs xs (by simpa only [noLoc] using q) l⟩
 | .loc n,x,q,h=>by simp [noLoc] at q
 | .exn c,x,q,h=>by simp [noLoc] at q
 | .scr vs,x,q,h=>by
  simp only [RepV] at h ⊢
  obtain ⟨a,xs,e,r,l⟩:=h
  refine ⟨a,xs,e,?_,RepL.out vs xs (by simpa only [noLoc] using q) l⟩
  rcases r with ⟨r,b,n⟩ | r
  ·exact .inl ⟨r,fun z=>b (.inl z),fun z=>b (.inr z)⟩
  ·exact .inr r
theorem RepL.out {ψ:Ph}:∀ (v:List PV) (x:List V),noLocs v=true->RepL K cl (fun a=>B a \/ some a ∈ φ) ψ H v x->RepL K cl B φ H v x
 | [],x,_,h=>by simp only [RepL] at h ⊢; exact h
 | v :: vs,x,q,h=>by
  simp only [RepL] at h ⊢
  simp only [noLocs,Bool.and_eq_true] at q
  obtain ⟨y,ys,e,r,l⟩:=h
  exact ⟨y,ys,e,RepV.out v y q.1 r,RepL.out vs ys q.2 l⟩
end
theorem RepL.length:∀ {v:List PV} {x:List V},RepL K cl B φ H v x->v.length=x.length
 | [],x,h=>by simp only [RepL] at h; subst h; rfl
 | v :: vs,x,h=>by
  simp only [RepL] at h
  obtain ⟨y,ys,rfl,_,l⟩:=h
  simp [RepL.length l]
theorem DK.step (s:Step φ H φ' H'):∀ {kvs:List (PV × PV)} {ks:List (Key × V)},DK K cl B φ H kvs ks->DK K cl B φ' H' kvs ks
 | [],ks,h=>h
 | (k,v) :: r,ks,h=>by
  obtain ⟨q,x,t,e,m,rv,l⟩:=h
  exact ⟨q,x,t,e,m,rv.step s,DK.step s l⟩
theorem DT.step (s:Step φ H φ' H'):∀ {kvs:List (PV × PV)} {ks:List (List Key × V)},DT K cl B φ H kvs ks->DT K cl B φ' H' kvs ks
 | [],ks,h=>h
 | (k,v) :: r,ks,h=>by
  obtain ⟨q,x,t,e,m,rv,l⟩:=h
  exact ⟨q,x,t,e,m,rv.step s,DT.step s l⟩
theorem RepO.step (s:Step φ H φ' H') {o:Ob} {a:Addr} (e:H' a=H a) (r:RepO K cl B φ H o a):RepO K cl B φ' H' o a:=by
 cases o with
 | lst vs =>
  obtain ⟨xs,q,l⟩:=r
  exact ⟨xs,e.trans q,l.step s⟩
 | dct t kvs =>
  cases t with
  | false=>obtain ⟨ks,q,l⟩:=r; exact ⟨ks,e.trans q,l.step s⟩
  | true=>obtain ⟨ks,q,l⟩:=r; exact ⟨ks,e.trans q,l.step s⟩
 | dead=>exact r
theorem RepO.there {o:Ob} {a:Addr} (r:RepO K cl B φ H o a):∃ u,H a=some u:=by
 cases o with
 | lst vs=>obtain ⟨xs,q,l⟩:=r; exact ⟨_,q⟩
 | dct t kvs=>cases t <;> (obtain ⟨ks,q,l⟩:=r; exact ⟨_,q⟩)
 | dead=>exact r.elim
theorem RepS.there (S:RepS K cl B φ H st) {a:Addr} (h:some a ∈ φ):∃ u,H a=some u:=by
 obtain ⟨n,e⟩:=List.mem_iff_getElem?.mp h
 obtain ⟨o,_,r⟩:=S.obj n a e
 exact r.there
theorem Step.upd {p:Addr} {o:HO} (hp:H p=none):Step φ H φ (upd H p o) :=
 ⟨fun b u n e=>by rw [zR (zae e hp)]; exact e,Nat.le_refl _,fun _ _ _ e=>e,fun _ h=>.inl h⟩
theorem RepS.same (S:RepS K cl B φ H st) (k:∀ b o,H b=some o->H' b=some o):RepS K cl B φ H' st:=by
 have s:Step φ H φ H':=⟨fun b o _ e=>k b o e,Nat.le_refl _,fun _ _ _ e=>e,fun _ h=>.inl h⟩
 refine ⟨S.len,S.inj,fun n a e=>?_,S.liv,S.nb,fun a h=>?_⟩
 ·obtain ⟨o,q,r⟩:=S.obj n a e
  obtain ⟨u,z⟩:=r.there
  exact ⟨o,q,r.step s ((k a u z).trans z.symm)⟩
 ·obtain ⟨o,q⟩:=S.dom a h
  exact ⟨o,k a o q⟩
theorem RepS.upd {p:Addr} {o:HO} (S:RepS K cl B φ H st) (hp:H p=none):RepS K cl B φ (upd H p o) st:=S.same fun b u e=>by rw [zR (zae e hp)]; exact e
mutual
theorem RepV.moreB {B':Addr->Prop} (hn:∀ y,B' y->B y \/ H y=none):∀ (v:PV) (x:V),RepV K cl B φ H v x->RepV K cl B' φ H v x
 | .non,x,h=>by simp only [RepV] at h ⊢; exact h
 | .bl b,x,h=>by simp only [RepV] at h ⊢; exact h
 | .int i,x,h=>by simp only [RepV] at h ⊢; exact h
 | .str y,x,h=>by simp only [RepV] at h ⊢; exact h
 | .tp k vs,x,h=>by
  simp only [RepV] at h ⊢
  obtain ⟨y,xs,e,r,l⟩:=h
  refine ⟨y,xs,e,?_,RepL.moreB hn vs xs l⟩
  rcases r with ⟨r,b,n⟩ | r
  ·exact .inl ⟨r,fun z=>(hn y z).elim b fun q=>(by rw [q] at r; cases r),n⟩
  ·exact .inr r
 | .lst vs,x,h=>by
  simp only [RepV] at h ⊢
  obtain ⟨y,xs,e,⟨r,b,n⟩,l⟩:=h
  exact ⟨y,xs,e,⟨r,fun z=>(hn y z).elim b fun q=>(by rw [q] at r; cases r),n⟩,RepL.moreB hn vs xs l⟩
 | .loc n,x,h=>by simp only [RepV] at h ⊢; exact h
 | .exn c,x,h=>by
  simp only [RepV] at h ⊢
  obtain ⟨y,e,r,b,n⟩:=h
  exact ⟨y,e,r,fun z=>(hn y z).elim b fun q=>(by rw [q] at r; cases r),n⟩
 | .scr vs,x,h=>by
  simp only [RepV] at h ⊢
  obtain ⟨y,xs,e,r,l⟩:=h
  refine ⟨y,xs,e,?_,RepL.moreB hn vs xs l⟩
  rcases r with ⟨r,b,n⟩ | r
  ·refine .inl ⟨r,fun z=>(hn y z).elim b fun q=>?_,n⟩
   rcases r with r | ⟨o,r⟩ <;> (rw [q] at r; cases r)
  ·exact .inr r
theorem RepL.moreB {B':Addr->Prop} (hn:∀ y,B' y->B y \/ H y=none):∀ (v:List PV) (x:List V),RepL K cl B φ H v x->RepL K cl B' φ H v x
 | [],x,h=>by simp only [RepL] at h ⊢; exact h
 | v :: vs,x,h=>by
  simp only [RepL] at h ⊢
  obtain ⟨y,ys,e,r,l⟩:=h
  exact ⟨y,ys,e,RepV.moreB hn v y r,RepL.moreB hn vs ys l⟩
end
end
structure Se where
 cl:Nat->Addr
 call:Nat->List PV->Store->R PV
 may:Bool
section
variable (S:Se) (X:Cx)
def ExcAt (σ:St) (B:Addr->Prop) (φ:Ph) (H:Hp) (k:Nat) (st':Store) (e:Value) (s':Shared):Prop :=
 (∃ pins H1 s φ1,Inv X pins σ H1 s/\Step φ H φ1 H1/\CX1 X.prog X.w X.stack H1 s (fun cls _ H'=>cls=.ref (S.cl k)/\∃ φ',Step φ1 H1 φ' H'/\RepS X.K S.cl B φ' H' st') e s') \/
 (S.may=true/\∃ pins H1 s φ1 h' e0 vs,Inv X pins σ H1 s/\Step φ H φ1 H1/\RepS X.K S.cl B φ1 H1 st'/\Heap.MadeExcOf s.heap h' e0 (.ref (S.cl k)) vs/\e=.ref e0/\s'={ s with heap:=h' })
def Run {α β:Type} (σ:St) (B:Addr->Prop) (φ:Ph) (H:Hp) (Rel:Ph->Hp->α->β->Prop) (r:R α) (Q:β->Hp->Prop):Prop :=
 match r with
 | .ok v st'=>∀ x H' φ',Step φ H φ' H'->RepS X.K S.cl B φ' H' st'->Rel φ' H' v x->Q x H'
 | .exc k st'=>∀ e s',ExcAt S X σ B φ H k st' e s'->X.xe e s'
 | .bad=>False
noncomputable abbrev RV (B:Addr->Prop):Ph->Hp->PV->V->Prop:=fun φ H=>RepV X.K S.cl B φ H
noncomputable abbrev RL (B:Addr->Prop):Ph->Hp->List PV->List V->Prop:=fun φ H=>RepL X.K S.cl B φ H
noncomputable abbrev RB:Ph->Hp->Bool->Bool->Prop:=fun _ _ b c=>b=c
noncomputable def tE (c:Ce):TE:=fun σ H Q=>∃ B φ st ρ,RepS X.K S.cl B φ H st/\RepE X.K S.cl B φ H ρ σ/\Run S X σ B φ H (RV S X B) (ev S.call ρ st c) Q
noncomputable def tAs (c:Ces):TA:=fun σ H Q=>∃ B φ st ρ,RepS X.K S.cl B φ H st/\RepE X.K S.cl B φ H ρ σ/\Run S X σ B φ H (RL S X B) (evs S.call ρ st c) Q
noncomputable def truR (r:R PV):R Bool:=r.bind fun x st=>onO (truV st x) fun b=>.ok b st
noncomputable def tTs (c:Ce):TT:=fun σ H Q=>∃ B φ st ρ,RepS X.K S.cl B φ H st/\RepE X.K S.cl B φ H ρ σ/\Run S X σ B φ H RB (truR (ev S.call ρ st c)) Q
end
section
variable {S:Se} {X:Cx} {σ:St} {B:Addr->Prop} {φ φ1:Ph} {H H1:Hp}
theorem ExcAt.back {k:Nat} {st':Store} {e:Value} {s':Shared} (s:Step φ H φ1 H1) (h:ExcAt S X σ B φ1 H1 k st' e s'):ExcAt S X σ B φ H k st' e s':=by
 rcases h with ⟨pins,H2,t,φ2,I,q,c⟩ | ⟨m,pins,H2,t,φ2,h',e0,vs,I,q,c⟩
 ·exact .inl ⟨pins,H2,t,φ2,I,s.trans q,c⟩
 ·exact .inr ⟨m,pins,H2,t,φ2,h',e0,vs,I,s.trans q,c⟩
variable {α β γ δ:Type} {Rel:Ph->Hp->α->β->Prop} {Rel2:Ph->Hp->γ->δ->Prop}
theorem Run.on {r:R α} {Q:β->Hp->Prop} (s:Step φ H φ1 H1) (h:Run S X σ B φ H Rel r Q):Run S X σ B φ1 H1 Rel r Q:=by
 cases r with
 | ok v st'=>exact fun x H' φ' t=>h x H' φ' (s.trans t)
 | exc k st'=>exact fun e s' x=>h e s' (x.back s)
 | bad=>exact h
theorem Run.mono {r:R α} {Q Q':β->Hp->Prop} (h:Run S X σ B φ H Rel r Q) (k:∀ x H',Q x H'->Q' x H'):Run S X σ B φ H Rel r Q':=by
 cases r with
 | ok v st'=>exact fun x H' φ' t rs rv=>k x H' (h x H' φ' t rs rv)
 | exc c st'=>exact h
 | bad=>exact h
theorem Run.bind {r:R α} {k:α->Store->R γ} {Q:δ->Hp->Prop} (h:Run S X σ B φ H Rel2 (r.bind k) Q) :
  Run S X σ B φ H Rel r fun x H1=>∃ v st1 φ1,Step φ H φ1 H1/\RepS X.K S.cl B φ1 H1 st1/\Rel φ1 H1 v x/\Run S X σ B φ1 H1 Rel2 (k v st1) Q:=by
 cases r with
 | ok v st'=>exact fun x H' φ' t rs rv=>⟨v,st',φ',t,rs,rv,Run.on t h⟩
 | exc c st'=>exact h
 | bad=>exact h
theorem Run.ok {v:α} {st:Store} {Q:β->Hp->Prop} (h:Run S X σ B φ H Rel (.ok v st) Q) (rs:RepS X.K S.cl B φ H st) {x:β} (rv:Rel φ H v x):Q x H:=h x H φ .rfl rs rv
theorem PE.imp {e:Expr} {t t':TE} (h:PE X e t') (k:∀ σ H Q,t σ H Q->t' σ H Q):PE X e t:=fun pins s σ H Q I q=>h pins s σ H Q I (k σ H Q q)
theorem PT.imp {e:Expr} {t t':TT} (h:PT X e t') (k:∀ σ H Q,t σ H Q->t' σ H Q):PT X e t:=fun pins s σ H Q I q=>h pins s σ H Q I (k σ H Q q)
theorem PW.imp {e:Expr} {t t':TT} (h:PW X e t') (k:∀ σ H Q,t σ H Q->t' σ H Q):PW X e t:=fun wh pins s σ H Q I q=>h wh pins s σ H Q I (k σ H Q q)
theorem PA.imp {e:List Expr} {t t':TA} (h:PA X e t') (k:∀ σ H Q,t σ H Q->t' σ H Q):PA X e t:=fun pos pins s σ H Q I q=>h pos pins s σ H Q I (k σ H Q q)
theorem tE.bind {c:Ce} {ρ:IC.Env} {st:Store} {k:PV->Store->R γ} {Q:δ->Hp->Prop} {P:V->Hp->Prop} (rs:RepS X.K S.cl B φ H st) (re:RepE X.K S.cl B φ H ρ σ) (h:Run S X σ B φ H Rel2 ((ev S.call ρ st c).bind k) Q)
  (n:∀ x H1 v st1 φ1,Step φ H φ1 H1->RepS X.K S.cl B φ1 H1 st1->RepE X.K S.cl B φ1 H1 ρ σ->RepV X.K S.cl B φ1 H1 v x->Run S X σ B φ1 H1 Rel2 (k v st1) Q->P x H1):tE S X c σ H P :=
 ⟨B,φ,st,ρ,rs,re,(Run.bind h).mono fun x H1 ⟨v,st1,φ1,s,rs1,rv,h1⟩=>n x H1 v st1 φ1 s rs1 (re.step s) rv h1⟩
theorem tAs.bind {c:Ces} {ρ:IC.Env} {st:Store} {k:List PV->Store->R γ} {Q:δ->Hp->Prop} {P:List V->Hp->Prop} (rs:RepS X.K S.cl B φ H st) (re:RepE X.K S.cl B φ H ρ σ) (h:Run S X σ B φ H Rel2 ((evs S.call ρ st c).bind k) Q)
  (n:∀ x H1 v st1 φ1,Step φ H φ1 H1->RepS X.K S.cl B φ1 H1 st1->RepE X.K S.cl B φ1 H1 ρ σ->RepL X.K S.cl B φ1 H1 v x->Run S X σ B φ1 H1 Rel2 (k v st1) Q->P x H1):tAs S X c σ H P :=
 ⟨B,φ,st,ρ,rs,re,(Run.bind h).mono fun x H1 ⟨v,st1,φ1,s,rs1,rv,h1⟩=>n x H1 v st1 φ1 s rs1 (re.step s) rv h1⟩
variable {i:Int} {b:Bool} {x:Str} {j:Nat} {pos:Pos} {e a a':Expr} {c ca cb cc:Ce}
theorem zc:PE X (.Constant (.int i) j pos) (tE S X (.cst (.int i))):=pe_int.imp fun σ H Q ⟨B,φ,st,ρ,rs,re,h⟩=>by
 simp only [ev] at h
 exact h.ok rs (by simp only [RepV])
theorem zkM:PE X (.Constant (.bool b) j pos) (tE S X (.cst (.bl b))):=pe_bl.imp fun σ H Q ⟨B,φ,st,ρ,rs,re,h⟩=>by
 simp only [ev] at h
 exact h.ok rs (by simp only [RepV])
theorem zlu:PE X (.Constant .none j pos) (tE S X (.cst .non)):=pe_non.imp fun σ H Q ⟨B,φ,st,ρ,rs,re,h⟩=>by
 simp only [ev] at h
 exact h.ok rs (by simp only [RepV])
theorem zo:PE X (.Constant (.str x) j pos) (tE S X (.cst (.str x))):=pe_str.imp fun σ H Q ⟨B,φ,st,ρ,rs,re,h⟩=>by
 simp only [ev] at h
 exact h.ok rs (by simp only [RepV])
theorem zps {i:Nat} (hN:X.N[i]?=some x) (hv:Vis X.env.scope x) (hd:(x == ("__debug__":Str))=false:=by decide) (hcd:(x == ("__classdict__":Str))=false:=by decide):PE X (.Name x pos) (tE S X (.var i)) :=
 (zss hN hv hd hcd).imp fun σ H Q ⟨B,φ,st,ρ,rs,re,h⟩=>by
  simp only [ev] at h
  cases q:ρ[i]? with
  | none=>rw [q] at h; exact h.elim
  | some o =>
   cases o with
   | none=>rw [q] at h; exact h.elim
   | some v =>
    rw [q] at h
    obtain ⟨y,hy,rv⟩:=re.get i v q
    exact ⟨y,hy,h.ok rs rv⟩
theorem zqm {v:PV} {y:Addr} (hg:Gl X x) (hm:X.mg x=some (.ref y)) (hk:∀ B φ H,RepV X.K S.cl B φ H v (.ref y)) (hd:(x == ("__debug__":Str))=false:=by decide):PE X (.Name x pos) (tE S X (.cst v)) :=
 (zqx hg hm (show RelV (.ref y) (.ref y) from rfl) hd).imp fun σ H Q ⟨B,φ,st,ρ,rs,re,h⟩=>by
  simp only [ev] at h
  exact h.ok rs (hk B φ H)
theorem zea {o:Option PV} {st:Store} {Q:VK} (h:Run S X σ B φ H (RV S X B) (toR o st) Q) (rs:RepS X.K S.cl B φ H st):∃ z,o=some z/\∀ z' H' φ',Step φ H φ' H'->RepS X.K S.cl B φ' H' st->RepV X.K S.cl B φ' H' z z'->Q z' H':=by
 cases o with
 | none=>exact h.elim
 | some z=>exact ⟨z,rfl,h⟩
noncomputable def rT2 (S:Se) (X:Cx) (f:PV->PV->Option PV):R2:=fun x y H Q=>∃ B φ st v w z,RepS X.K S.cl B φ H st/\RepV X.K S.cl B φ H v x/\RepV X.K S.cl B φ H w y/\f v w=some z /\
 ∀ z' H' φ',Step φ H φ' H'->RepS X.K S.cl B φ' H' st->RepV X.K S.cl B φ' H' z z'->Q z' H'
theorem zf {op:Operator} {o:BOp} (ho:OpR X (binaryOp op) (rT2 S X (binV o))) (ha:PE X a (tE S X ca)) (hb:PE X a' (tE S X cb)):PE X (.BinOp a op a' pos) (tE S X (.bin o ca cb)) :=
 (zsN ho ha hb).imp fun σ H Q ⟨B,φ,st,ρ,rs,re,h⟩=>by
  simp only [ev] at h
  refine tE.bind rs re h fun x H1 v st1 φ1 s1 rs1 re1 rv h1=>tE.bind rs1 re1 h1 fun y H2 w st2 φ2 s2 rs2 re2 rw h2=>?_
  obtain ⟨z,e,q⟩:=zea h2 rs2
  exact ⟨B,φ2,st2,v,w,z,rs2,rv.step s2,rw,e,q⟩
theorem zbb {op:CmpOp} {o:COp} (ho:OpR X (compareOp op) (rT2 S X (cmpV o))) (ha:PE X a (tE S X ca)) (hb:PE X a' (tE S X cb)) (hm:behindInMarks op a'=false):PE X (.Compare a [op] [a'] pos) (tE S X (.cmp o ca cb)) :=
 (zqL ho ha hb hm).imp fun σ H Q ⟨B,φ,st,ρ,rs,re,h⟩=>by
  simp only [ev] at h
  refine tE.bind rs re h fun x H1 v st1 φ1 s1 rs1 re1 rv h1=>tE.bind rs1 re1 h1 fun y H2 w st2 φ2 s2 rs2 re2 rw h2=>?_
  obtain ⟨z,e,q⟩:=zea h2 rs2
  exact ⟨B,φ2,st2,v,w,z,rs2,rv.step s2,rw,e,q⟩
end
section
variable {S:Se} {X:Cx} {σ:St} {B:Addr->Prop} {φ φ1:Ph} {H H1:Hp} {K:PySem.W.Frag} {cl:Nat->Addr} {st:Store}
theorem RTup.sq {k:Bool} {a:Addr} {xs:List V} (r:RTup K B φ H k a xs):SqT K H a xs:=by
 rcases r with ⟨r,_⟩ | r
 ·exact .inl (.inl r)
 ·exact .inr r.2
theorem RLst.sq {a:Addr} {xs:List V} (r:RLst B φ H a xs):SqL K H a xs:=.inl (.inl r.1)
theorem RepV.tup_new {vs:List PV} {xs:List V} {p:Addr} (hp:H p=none) (rs:RepS K cl B φ H st) (r:RepL K cl B φ H vs xs):RepV K cl B φ (upd H p (.tup xs)) (.tup vs) (.ref p):=by
 simp only [RepV]
 refine ⟨p,xs,rfl,.inl ⟨zav,fun z=>?_,fun z=>?_⟩,r.step (.upd hp)⟩
 ·obtain ⟨o,e⟩:=rs.dom p z
  rw [hp] at e; cases e
 ·obtain ⟨o,e⟩:=rs.there z
  rw [hp] at e; cases e
theorem RepV.lst_new {vs:List PV} {xs:List V} {p:Addr} (hp:H p=none) (rs:RepS K cl B φ H st) (r:RepL K cl B φ H vs xs):RepV K cl B φ (upd H p (.lst xs)) (.lst vs) (.ref p):=by
 simp only [RepV]
 refine ⟨p,xs,rfl,⟨zav,fun z=>?_,fun z=>?_⟩,r.step (.upd hp)⟩
 ·obtain ⟨o,e⟩:=rs.dom p z
  rw [hp] at e; cases e
 ·obtain ⟨o,e⟩:=rs.there z
  rw [hp] at e; cases e
theorem RepL.append:∀ {vs ws:List PV} {xs ys:List V},RepL K cl B φ H vs xs->RepL K cl B φ H ws ys->RepL K cl B φ H (vs++ws) (xs++ys)
 | [],ws,xs,ys,h,q=>by simp only [RepL] at h; subst h; exact q
 | v :: vs,ws,xs,ys,h,q=>by
  simp only [RepL] at h
  obtain ⟨y,zs,rfl,r,l⟩:=h
  show RepL K cl B φ H (v :: (vs++ws)) (y :: (zs++ys))
  simp only [RepL]
  exact ⟨y,zs++ys,rfl,r,RepL.append l q⟩
theorem RepL.get:∀ {vs:List PV} {xs:List V} (j:Nat) {v:PV},RepL K cl B φ H vs xs->vs[j]?=some v->∃ x,xs[j]?=some x/\RepV K cl B φ H v x
 | [],xs,j,v,h,e=>by simp at e
 | w :: vs,xs,0,v,h,e=>by
  simp only [RepL] at h
  obtain ⟨y,zs,rfl,r,l⟩:=h
  simp at e; subst e
  exact ⟨y,rfl,r⟩
 | w :: vs,xs,j+1,v,h,e=>by
  simp only [RepL] at h
  obtain ⟨y,zs,rfl,r,l⟩:=h
  obtain ⟨x,q1,q2⟩:=RepL.get j l (by simpa using e)
  exact ⟨x,by simpa using q1,q2⟩
theorem RepL.drop:∀ {vs:List PV} {xs:List V} (n:Nat),RepL K cl B φ H vs xs->RepL K cl B φ H (vs.drop n) (xs.drop n)
 | vs,xs,0,h=>by simpa using h
 | [],xs,n+1,h=>by simp only [RepL] at h; subst h; simp [RepL]
 | v :: vs,xs,n+1,h=>by
  simp only [RepL] at h
  obtain ⟨y,ys,rfl,_,l⟩:=h
  simpa using RepL.drop n l
theorem RepL.take:∀ {vs:List PV} {xs:List V} (n:Nat),RepL K cl B φ H vs xs->RepL K cl B φ H (vs.take n) (xs.take n)
 | vs,xs,0,h=>by simp [RepL]
 | [],xs,n+1,h=>by simp only [RepL] at h; subst h; simp [RepL]
 | v :: vs,xs,n+1,h=>by
  simp only [RepL] at h
  obtain ⟨y,ys,rfl,r,l⟩:=h
  simp only [List.take_succ_cons,RepL]
  exact ⟨y,ys.take n,rfl,r,RepL.take n l⟩
theorem zis {f:Value->Value->Sem Value} {o:BOp} {C:Int->Int->Prop} {g:Int->Int->Int} (h:OpR X f (rI C fun i j=>.int (g i j)))
  (hb:∀ v w z,binV o v w=some z->∃ i j,v=.int i/\w=.int j/\C i j/\z=.int (g i j)):OpR X f (rT2 S X (binV o)):=by
 rintro pins s σ H x y v u Q I rx ry ⟨B,φ,st,a,b,z,rs,ra,rb,e,q⟩
 obtain ⟨i,j,rfl,rfl,hc,rfl⟩:=hb a b z e
 simp only [RepV] at ra rb
 subst ra rb
 exact h pins s σ H _ _ v u Q I rx ry ⟨i,j,rfl,rfl,hc,q _ H φ .rfl rs (by simp only [RepV])⟩
theorem zgF {f:Value->Value->Sem Value} {o:BOp} {g:Int->Int->Int} (h:OpR X f (rI0 fun i j=>.int (g i j)))
  (hb:∀ v w z,binV o v w=some z->∃ i j,v=.int i/\w=.int j/\z=.int (g i j)):OpR X f (rT2 S X (binV o)):=by
 rintro pins s σ H x y v u Q I rx ry ⟨B,φ,st,a,b,z,rs,ra,rb,e,q⟩
 obtain ⟨i,j,rfl,rfl,rfl⟩:=hb a b z e
 simp only [RepV] at ra rb
 subst ra rb
 exact h pins s σ H _ _ v u Q I rx ry ⟨i,j,rfl,rfl,q _ H φ .rfl rs (by simp only [RepV])⟩
theorem zqt (v w z:PV) (h:binV .sub v w=some z):∃ i j,v=.int i/\w=.int j/\z=.int (i - j):=by
 unfold binV at h
 split at h <;> first | (cases h; done) | skip
 exact ⟨_,_,rfl,rfl,(Option.some.inj h).symm⟩
theorem zqf (v w z:PV) (h:binV .mul v w=some z):∃ i j,v=.int i/\w=.int j/\CMul i j/\z=.int (i * j):=by
 unfold binV at h
 split at h <;> first | (cases h; done) | skip
 rename_i i j
 simp only [IC.binI] at h
 split at h
 ·rename_i c
  refine ⟨i,j,rfl,rfl,?_,(Option.some.inj h).symm⟩
  simp only [CMulB,Bool.or_eq_true,decide_eq_true_eq] at c
  unfold CMul
  rcases c with c | c
  ·left; constructor <;> omega
  ·right; constructor <;> omega
 ·cases h
theorem zoF (v w z:PV) (h:binV .fdiv v w=some z):∃ i j,v=.int i/\w=.int j/\CDivB i j/\z=.int (i / j):=by
 unfold binV at h
 split at h <;> first | (cases h; done) | skip
 rename_i i j
 simp only [IC.binI] at h
 split at h
 ·rename_i c
  exact ⟨i,j,rfl,rfl,c,(Option.some.inj h).symm⟩
 ·cases h
theorem zqk (v w z:PV) (h:binV .mod v w=some z):∃ i j,v=.int i/\w=.int j/\0 < j/\z=.int (i % j):=by
 unfold binV at h
 split at h <;> first | (cases h; done) | skip
 rename_i i j
 simp only [IC.binI] at h
 split at h
 ·rename_i c
  exact ⟨i,j,rfl,rfl,c,(Option.some.inj h).symm⟩
 ·cases h
theorem zqg (v w z:PV) (h:binV .pow v w=some z):∃ i j,v=.int i/\w=.int j/\CPow i j/\z=.int (i ^ j.toNat):=by
 unfold binV at h
 split at h <;> first | (cases h; done) | skip
 rename_i i j
 simp only [IC.binI] at h
 split at h
 ·rename_i c
  exact ⟨i,j,rfl,rfl,⟨c.1,c.2.1,by have:=c.2.2; omega⟩,(Option.some.inj h).symm⟩
 ·cases h
theorem zoP (v w z:PV) (h:binV .band v w=some z):∃ i j,v=.int i/\w=.int j/\z=.int (Builtin.bitAnd i j):=by
 unfold binV at h
 split at h <;> first | (cases h; done) | skip
 exact ⟨_,_,rfl,rfl,(Option.some.inj h).symm⟩
theorem zpQ (v w z:PV) (h:binV .bor v w=some z):∃ i j,v=.int i/\w=.int j/\z=.int (Builtin.bitOr i j):=by
 unfold binV at h
 split at h <;> first | (cases h; done) | skip
 exact ⟨_,_,rfl,rfl,(Option.some.inj h).symm⟩
theorem zo9 (v w z:PV) (h:binV .bxor v w=some z):∃ i j,v=.int i/\w=.int j/\z=.int (Builtin.bitXor i j):=by
 unfold binV at h
 split at h <;> first | (cases h; done) | skip
 exact ⟨_,_,rfl,rfl,(Option.some.inj h).symm⟩
theorem zaY:OpR X (binaryOp .Sub) (rT2 S X (binV .sub)):=zgF zrA zqt
theorem zT:OpR X (binaryOp .Mult) (rT2 S X (binV .mul)):=zis zrq zqf
theorem zaR:OpR X (binaryOp .FloorDiv) (rT2 S X (binV .fdiv)):=zis zoh zoF
theorem zbn:OpR X (binaryOp .Mod) (rT2 S X (binV .mod)):=zis zrF zqk
theorem znm:OpR X (binaryOp .Pow) (rT2 S X (binV .pow)):=zis zrg zqg
theorem zp1:OpR X (binaryOp .BitAnd) (rT2 S X (binV .band)):=zgF zro zoP
theorem zqW:OpR X (binaryOp .BitOr) (rT2 S X (binV .bor)):=zgF zsD zpQ
theorem zqR:OpR X (binaryOp .BitXor) (rT2 S X (binV .bxor)):=zgF zrL zo9
theorem zbk:sizeMax=sizeLine:=by rw [sizeLine_eq]; rfl
theorem zD:OpR X (binaryOp .Add) (rT2 S X (binV .add)):=by
 rintro pins s σ H x y v u Q I rx ry ⟨B,φ,st,a,b,z,rs,ra,rb,e,q⟩
 unfold binV at e
 split at e
 ·rename_i i j
  simp only [RepV] at ra rb
  subst ra rb
  cases e
  exact zr8 pins s σ H _ _ v u Q I rx ry ⟨i,j,rfl,rfl,q _ H φ .rfl rs (by simp only [RepV])⟩
 ·rename_i i k
  simp only [RepV] at ra rb
  subst ra rb
  cases e
  exact zmn pins s σ H _ _ v u Q I rx ry ⟨i,k,rfl,rfl,q _ H φ .rfl rs (by simp only [RepV]; cases k <;> rfl)⟩
 ·rename_i i j
  simp only [RepV] at ra rb
  subst ra rb
  dsimp only at e
  split at e
  ·rename_i c
   cases e
   exact zl4 pins s σ H _ _ v u Q I rx ry ⟨i,j,rfl,rfl,by rw [<- zbk]; exact c,q _ H φ .rfl rs (by simp only [RepV])⟩
  ·cases e
 ·rename_i k1 vs k2 ws
  simp only [RepV] at ra rb
  obtain ⟨p,xs,rfl,r1,l1⟩:=ra
  obtain ⟨p',ys,rfl,r2,l2⟩:=rb
  dsimp only at e
  split at e
  ·rename_i c
   cases e
   have n1:=l1.length
   have n2:=l2.length
   refine zqK pins s σ H _ _ v u Q I rx ry ⟨p,p',xs,ys,rfl,rfl,r1.sq,r2.sq,?_,by rw [<- zbk]; omega,fun z=>?_,fun _ t ht=>?_⟩
   ·rintro rfl
    cases vs with
    | nil=>exact absurd c.2.1 (by simp)
    | cons _ _=>simp at n1
   ·subst z
    cases ws with
    | nil=>exact absurd c.2.2 (by simp)
    | cons _ _=>simp at n2
   ·exact q _ _ φ (.upd ht) (rs.upd ht) (.tup_new ht rs (l1.append l2))
  ·cases e
 ·rename_i vs ws
  simp only [RepV] at ra rb
  obtain ⟨p,xs,rfl,r1,l1⟩:=ra
  obtain ⟨p',ys,rfl,r2,l2⟩:=rb
  dsimp only at e
  split at e
  ·rename_i c
   cases e
   have n1:=l1.length
   have n2:=l2.length
   exact zq6 pins s σ H _ _ v u Q I rx ry ⟨p,p',xs,ys,rfl,rfl,r1.1,r2.1,by rw [<- zbk]; omega,fun t ht=>q _ _ φ (.upd ht) (rs.upd ht) (.lst_new ht rs (l1.append l2))⟩
  ·cases e
 ·cases e
end
mutual
noncomputable def toD:PV->PyData
 | .non=>.none
 | .bl b=>.bool b
 | .int i=>.int i
 | .str x=>.str x
 | .tp _ xs=>.tuple (toDs xs)
 | .lst xs=>.list (toDs xs)
 | _=>.none
noncomputable def toDs:List PV->List PyData
 | []=>[]
 | x :: xs=>toD x :: toDs xs
end
mutual
theorem zn6:∀ (v:PV) (n:Nat),shd n v=true->(toD v).canLay0=true/\(toD v).depth<=n
 | .non,n,h=>by simp [toD,PyData.canLay0,PyData.depth]
 | .bl b,n,h=>by simp [toD,PyData.canLay0,PyData.depth]
 | .int i,n,h=>by simp [toD,PyData.canLay0,PyData.depth]
 | .str x,n,h=>by
  simp only [shd] at h
  simp only [toD,PyData.canLay0,PyData.depth,Nat.zero_le,and_true]
  exact h
 | .tp _ xs,n,h=>by
  simp only [shd,Bool.and_eq_true,decide_eq_true_eq] at h
  obtain ⟨q1,q2⟩:=ziM xs (n - 1) h.2
  simp only [toD,PyData.canLay0,PyData.depth]
  exact ⟨q1,by omega⟩
 | .lst xs,n,h=>by
  simp only [shd,Bool.and_eq_true,decide_eq_true_eq] at h
  obtain ⟨q1,q2⟩:=ziM xs (n - 1) h.2
  simp only [toD,PyData.canLay0,PyData.depth]
  exact ⟨q1,by omega⟩
 | .loc k,n,h=>by simp [shd] at h
 | .exn k,n,h=>by simp [shd] at h
 | .scr xs,n,h=>by simp [shd] at h
theorem ziM:∀ (v:List PV) (n:Nat),shds n v=true->PyData.canLayAll0 (toDs v)=true/\PyData.depthAll (toDs v)<=n
 | [],n,h=>by simp [toDs,PyData.canLayAll0,PyData.depthAll]
 | v :: vs,n,h=>by
  simp only [shds,Bool.and_eq_true] at h
  obtain ⟨q1,q2⟩:=zn6 v n h.1
  obtain ⟨q3,q4⟩:=ziM vs n h.2
  simp only [toDs,PyData.canLayAll0,PyData.depthAll,Bool.and_eq_true]
  exact ⟨⟨q1,q3⟩,by omega⟩
end
theorem zed {v:PV} (h:shp v=true):SeqAt.shaped (toD v)=true:=by
 obtain ⟨q1,q2⟩:=zn6 v 60 h
 unfold SeqAt.shaped
 rw [q1,Bool.true_and,decide_eq_true_eq]
 omega
mutual
theorem zkF:∀ (v w:PV) (n m:Nat),shd n v=true->shd m w=true->PyData.eqv (toD v) (toD w)=peq v w
 | .non,w,n,m,h,q=>by cases w <;> simp_all [toD,PyData.eqv,peq,shd]
 | .bl b,w,n,m,h,q=>by cases w <;> simp_all [toD,PyData.eqv,peq,shd,bi]
 | .int i,w,n,m,h,q=>by cases w <;> simp_all [toD,PyData.eqv,peq,shd,bi]
 | .str x,w,n,m,h,q=>by cases w <;> simp_all [toD,PyData.eqv,peq,shd]
 | .tp _ xs,.tp _ ys,n,m,h,q=>by
  simp only [shd,Bool.and_eq_true] at h q
  simp only [toD,PyData.eqv,peq]
  exact zi1 xs ys (n - 1) (m - 1) h.2 q.2
 | .lst xs,.lst ys,n,m,h,q=>by
  simp only [shd,Bool.and_eq_true] at h q
  simp only [toD,PyData.eqv,peq]
  exact zi1 xs ys (n - 1) (m - 1) h.2 q.2
 | .tp _ xs,.non,n,m,h,q=>by simp [toD,PyData.eqv,peq]
 | .tp _ xs,.bl _,n,m,h,q=>by simp [toD,PyData.eqv,peq]
 | .tp _ xs,.int _,n,m,h,q=>by simp [toD,PyData.eqv,peq]
 | .tp _ xs,.str _,n,m,h,q=>by simp [toD,PyData.eqv,peq]
 | .tp _ xs,.lst _,n,m,h,q=>by simp [toD,PyData.eqv,peq]
 | .lst xs,.non,n,m,h,q=>by simp [toD,PyData.eqv,peq]
 | .lst xs,.bl _,n,m,h,q=>by simp [toD,PyData.eqv,peq]
 | .lst xs,.int _,n,m,h,q=>by simp [toD,PyData.eqv,peq]
 | .lst xs,.str _,n,m,h,q=>by simp [toD,PyData.eqv,peq]
 | .lst xs,.tp _ _,n,m,h,q=>by simp [toD,PyData.eqv,peq]
 | .loc k,w,n,m,h,q=>by simp [shd] at h
 | .exn k,w,n,m,h,q=>by simp [shd] at h
 | .scr k,w,n,m,h,q=>by simp [shd] at h
 | v,.loc k,n,m,h,q=>by simp [shd] at q
 | v,.exn k,n,m,h,q=>by simp [shd] at q
 | v,.scr k,n,m,h,q=>by simp [shd] at q
theorem zi1:∀ (v w:List PV) (n m:Nat),shds n v=true->shds m w=true->PyData.eqvAll (toDs v) (toDs w)=peqs v w
 | [],[],n,m,h,q=>by simp [toDs,PyData.eqvAll,peqs]
 | [],y :: ys,n,m,h,q=>by simp [toDs,PyData.eqvAll,peqs]
 | x :: xs,[],n,m,h,q=>by simp [toDs,PyData.eqvAll,peqs]
 | x :: xs,y :: ys,n,m,h,q=>by
  simp only [shds,Bool.and_eq_true] at h q
  simp only [toDs,PyData.eqvAll,peqs]
  rw [zkF x y n m h.1 q.1,zi1 xs ys n m h.2 q.2]
end
section
variable {S:Se} {X:Cx} {σ:St} {B:Addr->Prop} {φ φ1:Ph} {H H1:Hp} {st:Store} {pins:List (Addr × Obj)} {s:Shared}
mutual
theorem zfl (I:Inv X pins σ H s):∀ (v:PV) (n:Nat) (x:V) (u:Value),shd n v=true->RepV X.K S.cl B φ H v x->RelV x u->∃ as,Reads s.heap u (toD v) as
 | .non,n,x,u,h,r,q=>by
  simp only [RepV] at r; subst r; cases (show u=Value.none from q); exact ⟨_,.none⟩
 | .bl b,n,x,u,h,r,q=>by
  simp only [RepV] at r; subst r; cases (show u=Value.bool b from q); exact ⟨_,.bool b⟩
 | .int i,n,x,u,h,r,q=>by
  simp only [RepV] at r; subst r; obtain ⟨t,rfl⟩:=q; exact ⟨_,.int i t⟩
 | .str y,n,x,u,h,r,q=>by
  simp only [RepV] at r; subst r; obtain ⟨t,rfl⟩:=q; exact ⟨_,.str y t⟩
 | .tp _ vs,n,x,u,h,r,q=>by
  simp only [RepV] at r
  obtain ⟨a,xs,rfl,rt,l⟩:=r
  cases (show u=Value.ref a from q)
  simp only [shd,Bool.and_eq_true] at h
  obtain ⟨its,rv,⟨o,g,c,k,d⟩,_⟩:=I.tuple rt.sq
  obtain ⟨as,z⟩:=zhD I vs (n - 1) xs its h.2 l rv
  exact ⟨as,.tuple g c d (by simpa using z)⟩
 | .lst vs,n,x,u,h,r,q=>by
  simp only [RepV] at r
  obtain ⟨a,xs,rfl,rt,l⟩:=r
  cases (show u=Value.ref a from q)
  simp only [shd,Bool.and_eq_true] at h
  obtain ⟨its,rv,⟨o,k,g,c,_,d⟩,_⟩:=I.list (rt.sq (K:=X.K))
  obtain ⟨as,z⟩:=zhD I vs (n - 1) xs its h.2 l rv
  exact ⟨_,.list g c d (by simpa using z)⟩
 | .loc k,n,x,u,h,r,q=>by simp [shd] at h
 | .exn k,n,x,u,h,r,q=>by simp [shd] at h
 | .scr k,n,x,u,h,r,q=>by simp [shd] at h
theorem zhD (I:Inv X pins σ H s):∀ (v:List PV) (n:Nat) (x:List V) (u:List Value),shds n v=true->RepL X.K S.cl B φ H v x->Vals x u->∃ as,ReadsAll s.heap u (toDs v) as
 | [],n,x,u,h,r,q=>by
  simp only [RepL] at r; subst r; cases q; exact ⟨_,.nil⟩
 | v :: vs,n,x,u,h,r,q=>by
  simp only [RepL] at r
  obtain ⟨y,ys,rfl,rv,l⟩:=r
  simp only [shds,Bool.and_eq_true] at h
  cases q with
  | cons q1 q2 =>
   obtain ⟨as,z1⟩:=zfl I v n y _ h.1 rv q1
   obtain ⟨bs,z2⟩:=zhD I vs n ys _ h.2 l q2
   exact ⟨_,.cons z1 z2⟩
end
theorem zag (hu:X.A.units+64 < cLine):OpR X (compareOp .Eq) (rT2 S X (cmpV .eq)):=by
 rintro pins s σ H x y v u Q I rx ry ⟨B,φ,st,a,b,z,rs,ra,rb,e,q⟩
 simp only [cmpV] at e
 split at e
 ·rename_i c
  rw [Bool.and_eq_true] at c
  cases e
  obtain ⟨as,z1⟩:=zfl (S:=S) I a 60 x v c.1 ra rx
  obtain ⟨bs,z2⟩:=zfl (S:=S) I b 60 y u c.2 rb ry
  refine eq_dataH z1 z2 (zed c.1) (zed c.2) hu ⟨.bl _,H,I,rfl,?_⟩
  rw [zkF a b 60 60 c.1 c.2]
  exact q _ H φ .rfl rs (by simp only [RepV])
 ·cases e
theorem zf1 (hu:X.A.units+64 < cLine):OpR X (compareOp .NotEq) (rT2 S X (cmpV .ne)):=by
 rintro pins s σ H x y v u Q I rx ry ⟨B,φ,st,a,b,z,rs,ra,rb,e,q⟩
 simp only [cmpV] at e
 split at e
 ·rename_i c
  rw [Bool.and_eq_true] at c
  cases e
  obtain ⟨as,z1⟩:=zfl (S:=S) I a 60 x v c.1 ra rx
  obtain ⟨bs,z2⟩:=zfl (S:=S) I b 60 y u c.2 rb ry
  refine ne_dataH z1 z2 (zed c.1) (zed c.2) hu ⟨.bl _,H,I,rfl,?_⟩
  rw [zkF a b 60 60 c.1 c.2]
  exact q _ H φ .rfl rs (by simp only [RepV])
 ·cases e
theorem ziF {f:Value->Value->Sem Value} {o:COp} {g:Int->Int->Bool} (h:OpR X f (rI0 fun i j=>.bl (g i j)))
  (hb:∀ v w z,cmpV o v w=some z->∃ i j,v=.int i/\w=.int j/\z=.bl (g i j)):OpR X f (rT2 S X (cmpV o)):=by
 rintro pins s σ H x y v u Q I rx ry ⟨B,φ,st,a,b,z,rs,ra,rb,e,q⟩
 obtain ⟨i,j,rfl,rfl,rfl⟩:=hb a b z e
 simp only [RepV] at ra rb
 subst ra rb
 exact h pins s σ H _ _ v u Q I rx ry ⟨i,j,rfl,rfl,q _ H φ .rfl rs (by simp only [RepV])⟩
theorem ziW {o:COp} {g:Int->Int->Bool} (ho:∀ v w,cmpV o v w=match v,w with
   | .int i,.int j=>cmpI o i j
   | _,_=>none) (hg:∀ i j,cmpI o i j=some (.bl (g i j))) (v w z:PV) (h:cmpV o v w=some z):∃ i j,v=.int i/\w=.int j/\z=.bl (g i j):=by
 rw [ho] at h
 split at h
 ·rename_i i j
  rw [hg] at h
  exact ⟨i,j,rfl,rfl,(Option.some.inj h).symm⟩
 ·cases h
theorem zhT:OpR X (compareOp .Lt) (rT2 S X (cmpV .lt)):=ziF zsV (ziW (fun _ _=>rfl) fun _ _=>rfl)
theorem zjQ:OpR X (compareOp .LtE) (rT2 S X (cmpV .le)):=ziF zsQ (ziW (fun _ _=>rfl) fun _ _=>rfl)
theorem zir:OpR X (compareOp .Gt) (rT2 S X (cmpV .gt)):=ziF zsZ (ziW (fun _ _=>rfl) fun _ _=>rfl)
theorem zmv:OpR X (compareOp .GtE) (rT2 S X (cmpV .ge)):=ziF zsT (ziW (fun _ _=>rfl) fun _ _=>rfl)
theorem RepV.isNon {K:PySem.W.Frag} {cl:Nat->Addr} {v:PV} {x:V} (r:RepV K cl B φ H v x):decide (x=.non)=IC.isNon v:=by
 cases v with
 | loc n=>simp only [RepV] at r; obtain ⟨_,a,rfl,_⟩:=r; rfl
 | non=>simp only [RepV] at r; subst r; rfl
 | bl b=>simp only [RepV] at r; subst r; rfl
 | int b=>simp only [RepV] at r; subst r; rfl
 | str b=>simp only [RepV] at r; subst r; rfl
 | tp k vs=>simp only [RepV] at r; obtain ⟨a,xs,rfl,_⟩:=r; rfl
 | lst vs=>simp only [RepV] at r; obtain ⟨a,xs,rfl,_⟩:=r; rfl
 | exn vs=>simp only [RepV] at r; obtain ⟨a,rfl,_⟩:=r; rfl
 | scr vs=>simp only [RepV] at r; obtain ⟨a,xs,rfl,_⟩:=r; rfl
theorem zsp:OpR X (compareOp .Is) (rT2 S X (cmpV .is)):=by
 rintro pins s σ H x y v u Q I rx ry ⟨B,φ,st,a,b,z,rs,ra,rb,e,q⟩
 simp only [cmpV] at e
 split at e
 ·cases e
  simp only [RepV] at rb
  exact zq8 pins s σ H _ _ v u Q I rx ry ⟨rb,q _ H φ .rfl rs (by simp only [RepV]; rw [ra.isNon])⟩
 ·cases e
theorem RepV.flat {K:PySem.W.Frag} {cl:Nat->Addr} {v:PV} {x:V} (r:RepV K cl B φ H v x) (h:IC.flat v=true):flatV x=true/\∀ (w:PV) (y:V),IC.flat w=true->RepV K cl B φ H w y->eqV x y=peq v w:=by
 cases v with
 | non =>
  simp only [RepV] at r; subst r
  refine ⟨rfl,fun w y hw rw=>?_⟩
  cases w <;> first | (simp [IC.flat] at hw; done) | (simp only [RepV] at rw; subst rw; simp [eqV,peq,bi])
 | bl b =>
  simp only [RepV] at r; subst r
  refine ⟨rfl,fun w y hw rw=>?_⟩
  cases w <;> first | (simp [IC.flat] at hw; done) | (simp only [RepV] at rw; subst rw; simp [eqV,peq,bi])
 | int b =>
  simp only [RepV] at r; subst r
  refine ⟨rfl,fun w y hw rw=>?_⟩
  cases w <;> first | (simp [IC.flat] at hw; done) | (simp only [RepV] at rw; subst rw; simp [eqV,peq,bi])
 | str b =>
  simp only [RepV] at r; subst r
  refine ⟨rfl,fun w y hw rw=>?_⟩
  cases w <;> first | (simp [IC.flat] at hw; done) | (simp only [RepV] at rw; subst rw; simp [eqV,peq,bi])
 | _=>simp [IC.flat] at h
theorem zhx {K:PySem.W.Frag} {cl:Nat->Addr} {v:PV} {x:V} (r:RepV K cl B φ H v x) (h:IC.flat v=true):∀ {vs:List PV} {xs:List V},RepL K cl B φ H vs xs->vs.all IC.flat=true->xs.all flatV=true/\inV x xs=inL v vs
 | [],xs,l,_=>by simp only [RepL] at l; subst l; exact ⟨rfl,rfl⟩
 | w :: vs,xs,l,f=>by
  simp only [RepL] at l
  obtain ⟨y,ys,rfl,rw,l⟩:=l
  rw [List.all_cons,Bool.and_eq_true] at f
  obtain ⟨q1,q2⟩:=zhx r h l f.2
  obtain ⟨q3,q4⟩:=rw.flat f.1
  refine ⟨by rw [List.all_cons,q3,q1]; rfl,?_⟩
  unfold inV at q2 ⊢
  rw [List.any_cons,q2,q4 v x h r]
  rfl
end
theorem znc (a b:Str):(!(Builtin.Str.occurrences b a 0 b.length 1).isEmpty)=inS a b:=by
 rw [Bool.eq_iff_iff,StrLaws.found_iff]
 unfold inS
 rw [List.any_eq_true]
 constructor
 ·rintro ⟨i,h1,h2⟩
  exact ⟨i,by rw [List.mem_range]; omega,by rw [Bool.and_eq_true,decide_eq_true_eq]; exact ⟨h1,h2⟩⟩
 ·rintro ⟨i,_,h⟩
  rw [Bool.and_eq_true,decide_eq_true_eq] at h
  exact ⟨i,h.1,h.2⟩
section
variable {S:Se} {X:Cx} {σ:St} {B:Addr->Prop} {φ φ1:Ph} {H H1:Hp} {st:Store}
theorem zhP:OpR X (compareOp .In) (rT2 S X (cmpV .isin)):=by
 rintro pins s σ H x y v u Q I rx ry ⟨B,φ,st,a,b,z,rs,ra,rb,e,q⟩
 simp only [cmpV] at e
 split at e
 ·rename_i i j
  simp only [RepV] at ra rb
  subst ra rb
  cases e
  exact zm5 pins s σ H _ _ v u Q I rx ry ⟨i,j,rfl,rfl,by rw [znc]; exact q _ H φ .rfl rs (by simp only [RepV])⟩
 ·rename_i l
  split at e
  ·rename_i c
   rw [Bool.and_eq_true] at c
   cases e
   simp only [RepV] at rb
   obtain ⟨p,xs,rfl,r,l'⟩:=rb
   obtain ⟨q1,q2⟩:=zhx ra c.1 l' c.2
   exact zjS pins s σ H _ _ v u Q I rx ry ⟨p,xs,rfl,.inr r.sq,(ra.flat c.1).1,q1,q _ H φ .rfl rs (by simp only [RepV]; rw [<- q2]; rfl)⟩
  ·cases e
 ·rename_i l
  split at e
  ·rename_i c
   rw [Bool.and_eq_true] at c
   cases e
   simp only [RepV] at rb
   obtain ⟨p,xs,rfl,r,l'⟩:=rb
   obtain ⟨q1,q2⟩:=zhx ra c.1 l' c.2
   exact zjS pins s σ H _ _ v u Q I rx ry ⟨p,xs,rfl,.inl r.sq,(ra.flat c.1).1,q1,q _ H φ .rfl rs (by simp only [RepV]; rw [<- q2]; rfl)⟩
  ·cases e
 ·cases e
theorem zog:OpR X (compareOp .NotIn) (rT2 S X (cmpV .notin)):=by
 rintro pins s σ H x y v u Q I rx ry ⟨B,φ,st,a,b,z,rs,ra,rb,e,q⟩
 simp only [cmpV] at e
 split at e
 ·rename_i i j
  simp only [RepV] at ra rb
  subst ra rb
  cases e
  exact zjN pins s σ H _ _ v u Q I rx ry ⟨i,j,rfl,rfl,by rw [znc]; exact q _ H φ .rfl rs (by simp only [RepV])⟩
 ·rename_i l
  split at e
  ·rename_i c
   rw [Bool.and_eq_true] at c
   cases e
   simp only [RepV] at rb
   obtain ⟨p,xs,rfl,r,l'⟩:=rb
   obtain ⟨q1,q2⟩:=zhx ra c.1 l' c.2
   exact zgb pins s σ H _ _ v u Q I rx ry ⟨p,xs,rfl,.inr r.sq,(ra.flat c.1).1,q1,q _ H φ .rfl rs (by simp only [RepV]; rw [<- q2]; rfl)⟩
  ·cases e
 ·rename_i l
  split at e
  ·rename_i c
   rw [Bool.and_eq_true] at c
   cases e
   simp only [RepV] at rb
   obtain ⟨p,xs,rfl,r,l'⟩:=rb
   obtain ⟨q1,q2⟩:=zhx ra c.1 l' c.2
   exact zgb pins s σ H _ _ v u Q I rx ry ⟨p,xs,rfl,.inl r.sq,(ra.flat c.1).1,q1,q _ H φ .rfl rs (by simp only [RepV]; rw [<- q2]; rfl)⟩
  ·cases e
 ·cases e
theorem RepL.empty {K:PySem.W.Frag} {cl:Nat->Addr} {vs:List PV} {xs:List V} (l:RepL K cl B φ H vs xs):vs.isEmpty=xs.isEmpty:=by
 have:=l.length
 cases vs <;> cases xs <;> simp_all
theorem zp6 {K:PySem.W.Frag} {cl:Nat->Addr} {v:PV} {x:V} {k:Bool} (rs:RepS K cl B φ H st) (r:RepV K cl B φ H v x) (h:truV st v=some k):TruV K x H k:=by
 cases v with
 | non=>simp only [RepV] at r; subst r; cases h; rfl
 | bl b=>simp only [RepV] at r; subst r; cases h; rfl
 | int b=>simp only [RepV] at r; subst r; cases h; rfl
 | str b =>
  simp only [RepV] at r; subst r
  simp only [truV] at h
  split at h
  ·rename_i c
   cases h
   exact ⟨by rw [<- zbk]; exact c,rfl⟩
  ·cases h
 | tp k vs =>
  simp only [RepV] at r
  obtain ⟨a,xs,rfl,rt,l⟩:=r
  cases h
  exact .inr (.inl ⟨xs,rt.sq,by rw [l.empty]⟩)
 | lst vs =>
  simp only [RepV] at r
  obtain ⟨a,xs,rfl,rt,l⟩:=r
  cases h
  exact .inl ⟨xs,rt.sq,by rw [l.empty]⟩
 | loc n =>
  simp only [RepV] at r
  obtain ⟨hn,a,rfl,ha⟩:=r
  simp only [truV] at h
  split at h
  ·rename_i vs hv
   cases h
   obtain ⟨b,hb⟩:=rs.liv n _ hv (by intro z; cases z)
   obtain rfl:=ha b hb
   obtain ⟨o,ho,ro⟩:=rs.obj n b hb
   rw [hv] at ho; cases ho
   obtain ⟨xs,hx,l⟩:=ro
   exact .inl ⟨xs,.of hx,by rw [l.empty]⟩
  ·cases h
 | exn c=>cases h
 | scr c=>cases h
end
theorem R.bind_assoc {α β γ:Type} {r:R α} {k:α->Store->R β} {l:β->Store->R γ}:(r.bind k).bind l=r.bind fun a s=>(k a s).bind l:=by
 cases r <;> rfl
section
variable {S:Se} {X:Cx} {σ:St} {B:Addr->Prop} {φ φ1:Ph} {H H1:Hp} {st:Store} {ρ:IC.Env} {pos:Pos} {a b c d:Expr} {ca cb cc:Ce} {es:List Expr} {ces:Ces}
theorem ziH {o:COp} {v w z:PV} (h:cmpV o v w=some z):∃ k,z=.bl k:=by
 cases o <;> simp only [cmpV] at h
 all_goals (repeat' split at h) <;> first | (cases h; done) | (cases h; exact ⟨_,rfl⟩) | skip
 all_goals (simp only [cmpI] at h; cases h; exact ⟨_,rfl⟩)
theorem zr {op:CmpOp} {o:COp} (ho:OpR X (compareOp op) (rT2 S X (cmpV o))) (ha:PE X a (tE S X ca)) (hb:PE X b (tE S X cb)) (hm:behindInMarks op b=false):PT X (.Compare a [op] [b] pos) (tTs S X (.cmp o ca cb)) :=
 (zqi ho ha hb hm).imp fun σ H Q ⟨B,φ,st,ρ,rs,re,h⟩=>by
  simp only [ev,truR,R.bind_assoc] at h
  refine tE.bind rs re h fun x H1 v st1 φ1 s1 rs1 re1 rv h1=>tE.bind rs1 re1 h1 fun y H2 w st2 φ2 s2 rs2 re2 rw h2=>?_
  cases e:cmpV o v w with
  | none=>rw [e] at h2; exact h2.elim
  | some z =>
   obtain ⟨k,rfl⟩:=ziH e
   rw [e] at h2
   refine ⟨B,φ2,st2,v,w,.bl k,rs2,rv.step s2,rw,e,fun z' H' φ' s' rs' rz=>?_⟩
   simp only [RepV] at rz
   exact ⟨k,rz,h2 k H' φ' s' rs' rfl⟩
theorem za4 (ha:PE X a (tE S X ca)) (he:∀ whole,isTrue a X.env whole=(do let v <- whole; standAt a.pos; holding [v] (truthy v)):=by intro _; rfl):PT X a (tTs S X ca) :=
 (zoT ha he).imp fun σ H Q ⟨B,φ,st,ρ,rs,re,h⟩=>by
  simp only [truR] at h
  refine tE.bind rs re h fun x H1 v st1 φ1 s1 rs1 re1 rv h1=>?_
  cases e:truV st1 v with
  | none=>rw [e] at h1; exact h1.elim
  | some k =>
   rw [e] at h1
   exact ⟨k,zp6 rs1 rv e,h1.ok rs1 rfl⟩
theorem tTs.bind {γ δ:Type} {Rel2:Ph->Hp->γ->δ->Prop} {k:Bool->Store->R γ} {Q:δ->Hp->Prop} {P:Bool->Hp->Prop} (rs:RepS X.K S.cl B φ H st) (re:RepE X.K S.cl B φ H ρ σ) (h:Run S X σ B φ H Rel2 ((truR (ev S.call ρ st ca)).bind k) Q)
  (n:∀ b H1 st1 φ1,Step φ H φ1 H1->RepS X.K S.cl B φ1 H1 st1->RepE X.K S.cl B φ1 H1 ρ σ->Run S X σ B φ1 H1 Rel2 (k b st1) Q->P b H1):tTs S X ca σ H P :=
 ⟨B,φ,st,ρ,rs,re,(Run.bind h).mono fun x H1 ⟨v,st1,φ1,s,rs1,rv,h1⟩=>by
  subst rv
  exact n v H1 st1 φ1 s rs1 (re.step s) h1⟩
theorem zkJ (r:R PV) (f:Bool->Store->R PV):truR (r.bind fun x st1=>onBl x fun b=>f b st1)=r.bind fun x st1=>onBl x fun b=>truR (f b st1):=by
 unfold truR
 rw [R.bind_assoc]
 congr 1
 funext x st1
 cases x <;> rfl
theorem Run.bl_tru {r:R PV} {k:Bool->Store->R Bool} {Q:Bool->Hp->Prop} (h:Run S X σ B φ H RB (r.bind fun x st1=>onBl x fun b=>k b st1) Q):Run S X σ B φ H RB ((truR r).bind k) Q:=by
 cases r with
 | bad=>exact h
 | exc c s=>exact h
 | ok v s =>
  cases v with
  | bl b=>exact h
  | _=>exact h.elim
theorem zbs (ha:PT X a (tTs S X ca)):PT X (.UnaryOp .Not a pos) (tTs S X (.not ca)) :=
 (zr2 ha).imp fun σ H Q ⟨B,φ,st,ρ,rs,re,h⟩=>by
  simp only [ev] at h
  rw [zkJ _ fun k st1=>.ok (.bl (!k)) st1] at h
  exact tTs.bind rs re (Run.bl_tru (k:=fun b st1=>.ok (!b) st1) h) fun b H1 st1 φ1 s1 rs1 re1 h1=>h1.ok rs1 rfl
variable {rest:List Expr}
theorem zdg (ha:PT X a (tTs S X ca)):PW X (.BoolOp .And [a] pos) (tTs S X ca):=zqs ha
theorem zb1 (ha:PT X a (tTs S X ca)):PW X (.BoolOp .Or [a] pos) (tTs S X ca):=zr6 ha
theorem ze8 (ha:PT X a (tTs S X ca)) (hb:PW X (.BoolOp .And (b :: rest) pos) (tTs S X cb)):PW X (.BoolOp .And (a :: b :: rest) pos) (tTs S X (.and ca cb)) :=
 (zrC ha hb).imp fun σ H Q ⟨B,φ,st,ρ,rs,re,h⟩=>by
  simp only [ev] at h
  rw [zkJ _ fun k st1=>cond k (ev S.call ρ st1 cb) (.ok (.bl false) st1)] at h
  refine tTs.bind rs re (Run.bl_tru h) fun k H1 st1 φ1 s1 rs1 re1 h1=>?_
  cases k with
  | false=>exact h1.ok rs1 rfl
  | true=>exact ⟨B,φ1,st1,ρ,rs1,re1,h1⟩
theorem zb9 (ha:PT X a (tTs S X ca)) (hb:PW X (.BoolOp .Or (b :: rest) pos) (tTs S X cb)):PW X (.BoolOp .Or (a :: b :: rest) pos) (tTs S X (.or ca cb)) :=
 (zs0 ha hb).imp fun σ H Q ⟨B,φ,st,ρ,rs,re,h⟩=>by
  simp only [ev] at h
  rw [zkJ _ fun k st1=>cond k (.ok (.bl true) st1) (ev S.call ρ st1 cb)] at h
  refine tTs.bind rs re (Run.bl_tru h) fun k H1 st1 φ1 s1 rs1 re1 h1=>?_
  cases k with
  | true=>exact h1.ok rs1 rfl
  | false=>exact ⟨B,φ1,st1,ρ,rs1,re1,h1⟩
theorem zcM {op:BoolOp} (h:PE X a (tE S X ca)):PE X (.BoolOp op [a] pos) (tE S X ca):=zrt h
theorem zcj (ha:PE X a (tE S X ca)) (hb:PE X (.BoolOp .And (b :: rest) pos) (tE S X cb)):PE X (.BoolOp .And (a :: b :: rest) pos) (tE S X (.and ca cb)) :=
 (zrs ha hb).imp fun σ H Q ⟨B,φ,st,ρ,rs,re,h⟩=>by
  simp only [ev] at h
  refine tE.bind rs re h fun x H1 v st1 φ1 s1 rs1 re1 rv h1=>?_
  cases v with
  | bl k =>
   simp only [RepV] at rv
   refine ⟨k,rv,?_⟩
   cases k with
   | true=>exact ⟨B,φ1,st1,ρ,rs1,re1,h1⟩
   | false=>exact h1.ok rs1 (by simp only [RepV])
  | _=>exact h1.elim
theorem zpS (ha:PE X a (tE S X ca)) (hb:PE X (.BoolOp .Or (b :: rest) pos) (tE S X cb)):PE X (.BoolOp .Or (a :: b :: rest) pos) (tE S X (.or ca cb)) :=
 (zsX ha hb).imp fun σ H Q ⟨B,φ,st,ρ,rs,re,h⟩=>by
  simp only [ev] at h
  refine tE.bind rs re h fun x H1 v st1 φ1 s1 rs1 re1 rv h1=>?_
  cases v with
  | bl k =>
   simp only [RepV] at rv
   refine ⟨k,rv,?_⟩
   cases k with
   | false=>exact ⟨B,φ1,st1,ρ,rs1,re1,h1⟩
   | true=>exact h1.ok rs1 (by simp only [RepV])
  | _=>exact h1.elim
theorem zrY (ha:PE X a (tE S X ca)):PE X (.UnaryOp .Not a pos) (tE S X (.not ca)) :=
 (zsx ha).imp fun σ H Q ⟨B,φ,st,ρ,rs,re,h⟩=>by
  simp only [ev] at h
  refine tE.bind rs re h fun x H1 v st1 φ1 s1 rs1 re1 rv h1=>?_
  cases v with
  | bl k =>
   simp only [RepV] at rv
   exact ⟨k,rv,h1.ok rs1 (by simp only [RepV])⟩
  | _=>exact h1.elim
theorem zf9 (ha:PE X a (tE S X ca)):PE X (.UnaryOp .USub a pos) (tE S X (.neg ca)) :=
 (zsd zpi ha).imp fun σ H Q ⟨B,φ,st,ρ,rs,re,h⟩=>by
  simp only [ev] at h
  refine tE.bind rs re h fun x H1 v st1 φ1 s1 rs1 re1 rv h1=>?_
  split at h1
  ·simp only [RepV] at rv
   exact ⟨_,rv,h1.ok rs1 (by simp only [RepV])⟩
  ·exact h1.elim
theorem zd:PA X [] (tAs S X .nil):=pa_nil.imp fun σ H Q ⟨B,φ,st,ρ,rs,re,h⟩=>by
 simp only [evs] at h
 exact h.ok rs (by simp only [RepL])
theorem za (ha:PE X a (tE S X ca)) (hr:PA X es (tAs S X ces)) (hs:starEach (a :: es) X.env=(false,eval a X.env) :: starEach es X.env:=by rfl):PA X (a :: es) (tAs S X (.cons ca ces)) :=
 (zd8 ha hr hs).imp fun σ H Q ⟨B,φ,st,ρ,rs,re,h⟩=>by
  simp only [evs] at h
  refine tE.bind rs re h fun x H1 v st1 φ1 s1 rs1 re1 rv h1=>tAs.bind rs1 re1 h1 fun xs H2 vs st2 φ2 s2 rs2 re2 rvs h2=>?_
  refine h2.ok rs2 ?_
  simp only [RepL]
  exact ⟨x,xs,rfl,rv.step s2,rvs⟩
theorem zx {k:Nat} (h:PA X es (tAs S X ces)):PE X (.Tuple es k pos) (tE S X (.tup ces)) :=
 (zsy h).imp fun σ H Q ⟨B,φ,st,ρ,rs,re,h⟩=>by
  simp only [ev] at h
  refine tAs.bind rs re h fun xs H1 vs st1 φ1 s1 rs1 re1 rv h1=>?_
  split at h1
  ·rename_i c
   refine ⟨by rw [<- zbk,<- rv.length]; exact c,fun p hp=>h1 _ _ φ1 (.upd hp) (rs1.upd hp) (.tup_new hp rs1 rv)⟩
  ·exact h1.elim
theorem zbU (h:PA X es (tAs S X ces)):PE X (.List es pos) (tE S X (.lst ces)) :=
 (zpn h).imp fun σ H Q ⟨B,φ,st,ρ,rs,re,h⟩=>by
  simp only [ev] at h
  refine tAs.bind rs re h fun xs H1 vs st1 φ1 s1 rs1 re1 rv h1=>?_
  split at h1
  ·rename_i c
   refine ⟨by rw [<- zbk,<- rv.length]; exact c,fun p hp=>h1 _ _ φ1 (.upd hp) (rs1.upd hp) (.lst_new hp rs1 rv)⟩
  ·exact h1.elim
theorem Step.push {p:Addr} {o:HO} (hp:H p=none):Step φ H (φ++[some p]) (L2.upd H p o):=by
 refine ⟨fun b u n e=>by rw [zR (zae e hp)]; exact e,by simp,fun n a hn e=>?_,fun b h=>?_⟩
 ·rw [List.getElem?_append_left hn] at e
  exact e
 ·rw [List.mem_append] at h
  rcases h with h | h
  ·exact .inl h
  ·have:b=p:=by simpa using h
   subst this
   exact .inr hp
theorem RepS.push {K:PySem.W.Frag} {cl:Nat->Addr} {p:Addr} {u:HO} {o:Ob} (rs:RepS K cl B φ H st) (hp:H p=none) (hb:¬ B p) (ho:RepO K cl B (φ++[some p]) (L2.upd H p u) o p):RepS K cl B (φ++[some p]) (L2.upd H p u) (st++[o]):=by
 have s:Step φ H (φ++[some p]) (L2.upd H p u):=.push hp
 have np:some p ∉ φ:=fun z=>by
  obtain ⟨w,e⟩:=rs.there z
  rw [hp] at e; cases e
 have hl:φ.length=st.length:=rs.len
 refine ⟨by simp [hl],fun m n a e1 e2=>?_,fun n a e=>?_,fun n o' e ho'=>?_,fun a h=>?_,fun a h=>?_⟩
 ·by_cases hm:m < φ.length
  ·rw [List.getElem?_append_left hm] at e1
   by_cases hn:n < φ.length
   ·rw [List.getElem?_append_left hn] at e2
    exact rs.inj m n a e1 e2
   ·rw [List.getElem?_append_right (by omega)] at e2
    have:a=p:=by
     cases q:n - φ.length with
     | zero=>rw [q] at e2; simpa using e2.symm
     | succ k=>rw [q] at e2; simp at e2
    subst this
    exact absurd (List.mem_of_getElem? e1) np
  ·rw [List.getElem?_append_right (by omega)] at e1
   have:m - φ.length=0/\a=p:=by
    cases q:m - φ.length with
    | zero=>rw [q] at e1; exact ⟨rfl,by simpa using e1.symm⟩
    | succ k=>rw [q] at e1; simp at e1
   obtain ⟨q1,rfl⟩:=this
   by_cases hn:n < φ.length
   ·rw [List.getElem?_append_left hn] at e2
    exact absurd (List.mem_of_getElem? e2) np
   ·rw [List.getElem?_append_right (by omega)] at e2
    have:n - φ.length=0:=by
     cases q:n - φ.length with
     | zero=>rfl
     | succ k=>rw [q] at e2; simp at e2
    omega
 ·by_cases hn:n < φ.length
  ·rw [List.getElem?_append_left hn] at e
   obtain ⟨o',q,r⟩:=rs.obj n a e
   refine ⟨o',by rw [List.getElem?_append_left (by omega)]; exact q,r.step s ?_⟩
   rw [zR]
   rintro rfl
   exact np (List.mem_of_getElem? e)
  ·rw [List.getElem?_append_right (by omega)] at e
   have:n - φ.length=0/\a=p:=by
    cases q:n - φ.length with
    | zero=>rw [q] at e; exact ⟨rfl,by simpa using e.symm⟩
    | succ k=>rw [q] at e; simp at e
   obtain ⟨q1,rfl⟩:=this
   refine ⟨o,?_,ho⟩
   rw [List.getElem?_append_right (by omega)]
   have:n - st.length=0:=by omega
   rw [this]; rfl
 ·by_cases hn:n < φ.length
  ·rw [List.getElem?_append_left (by omega)] at e
   obtain ⟨a,q⟩:=rs.liv n o' e ho'
   exact ⟨a,by rw [List.getElem?_append_left hn]; exact q⟩
  ·rw [List.getElem?_append_right (by omega)] at e
   have:n - st.length=0:=by
    cases q:n - st.length with
    | zero=>rfl
    | succ k=>rw [q] at e; simp at e
   refine ⟨p,?_⟩
   rw [List.getElem?_append_right (by omega)]
   have:n - φ.length=0:=by omega
   rw [this]; rfl
 ·rw [List.mem_append] at h
  rcases h with h | h
  ·exact rs.nb a h
  ·have:a=p:=by simpa using h
   subst this
   exact hb
 ·obtain ⟨w,e⟩:=rs.dom a h
  exact ⟨w,by rw [zR (zae e hp)]; exact e⟩
theorem RepS.nB {K:PySem.W.Frag} {cl:Nat->Addr} {p:Addr} (rs:RepS K cl B φ H st) (hp:H p=none):¬ B p:=fun z=>by
 obtain ⟨o,e⟩:=rs.dom p z
 rw [hp] at e; cases e
theorem RepV.loc_new {K:PySem.W.Frag} {cl:Nat->Addr} {p:Addr} (rs:RepS K cl B φ H st):RepV K cl B (φ++[some p]) H1 (.loc st.length) (.ref p):=by
 simp only [RepV]
 have hl:=rs.len
 refine ⟨by simp [hl],p,rfl,fun b e=>?_⟩
 rw [List.getElem?_append_right (by omega)] at e
 have:st.length - φ.length=0:=by omega
 rw [this] at e
 simpa using e.symm
theorem ziA (h:PA X es (tAs S X ces)):PE X (.List es pos) (tE S X (.newl ces)) :=
 (zpn h).imp fun σ H Q ⟨B,φ,st,ρ,rs,re,h⟩=>by
  simp only [ev] at h
  refine tAs.bind rs re h fun xs H1 vs st1 φ1 s1 rs1 re1 rv h1=>?_
  split at h1
  ·rename_i c
   refine ⟨by rw [<- zbk,<- rv.length]; exact c,fun p hp=>h1 _ _ (φ1++[some p]) (.push hp) (rs1.push hp (rs1.nB hp) ⟨xs,zav,rv.step (.push hp)⟩) (.loc_new rs1)⟩
  ·exact h1.elim
end
section
variable {S:Se} {X:Cx} {σ:St} {B:Addr->Prop} {φ φ1:Ph} {H H1:Hp} {st:Store} {ρ:IC.Env} {pos p2:Pos} {a b c d:Expr} {ca cb cc:Ce} {es:List Expr} {ces:Ces} {K:PySem.W.Frag} {cl:Nat->Addr}
theorem zm8 {o:COp} {v w:PV} {α β:Type} {Rel:Ph->Hp->α->β->Prop} {k:Bool->R α} {Q:β->Hp->Prop} (h:Run S X σ B φ H Rel (onO (blO (cmpV o v w)) k) Q):∃ b,cmpV o v w=some (.bl b)/\Run S X σ B φ H Rel (k b) Q:=by
 cases e:cmpV o v w with
 | none=>rw [e] at h; exact h.elim
 | some z =>
  obtain ⟨b,rfl⟩:=ziH e
  rw [e] at h
  exact ⟨b,rfl,h⟩
theorem zop {op op':CmpOp} {o p:COp} (ho:OpR X (compareOp op) (rT2 S X (cmpV o))) (ho':OpR X (compareOp op') (rT2 S X (cmpV p))) (ha:PE X a (tE S X ca)) (hb:PE X b (tE S X cb)) (hc:PE X c (tE S X cc))
  (hm:lastMarks [op,op'] [b,c]=false:=by with_unfolding_all rfl):PE X (.Compare a [op,op'] [b,c] pos) (tE S X (.chain o p ca cb cc)) :=
 (zoD ho ho' ha hb hc hm).imp fun σ H Q ⟨B,φ,st,ρ,rs,re,h⟩=>by
  simp only [ev] at h
  refine tE.bind rs re h fun x H1 v st1 φ1 s1 rs1 re1 rv h1=>tE.bind rs1 re1 h1 fun y H2 w st2 φ2 s2 rs2 re2 rw h2=>?_
  obtain ⟨k,e,h2⟩:=zm8 h2
  refine ⟨B,φ2,st2,v,w,.bl k,rs2,rv.step s2,rw,e,fun z' H' φ' s' rs' rz=>?_⟩
  simp only [RepV] at rz
  refine ⟨k,rz,?_⟩
  cases k with
  | false=>exact h2 _ H' φ' s' rs' (by simp only [RepV])
  | true =>
   refine tE.bind rs' (re2.step s') (Run.on s' h2) fun z H3 v3 st3 φ3 s3 rs3 re3 rv3 h3=>?_
   obtain ⟨q,eq,hq⟩:=zea h3 rs3
   exact ⟨B,φ3,st3,w,v3,q,rs3,(rw.step s').step s3,rv3,eq,hq⟩
theorem zpd {op op':CmpOp} {o p:COp} (ho:OpR X (compareOp op) (rT2 S X (cmpV o))) (ho':OpR X (compareOp op') (rT2 S X (cmpV p))) (ha:PE X a (tE S X ca)) (hb:PE X b (tE S X cb)) (hc:PE X c (tE S X cc))
  (hm:lastMarks [op,op'] [b,c]=false:=by with_unfolding_all rfl):PT X (.Compare a [op,op'] [b,c] pos) (tTs S X (.chain o p ca cb cc)) :=
 (zoz ho ho' ha hb hc hm).imp fun σ H Q ⟨B,φ,st,ρ,rs,re,h⟩=>by
  simp only [ev,truR,R.bind_assoc] at h
  refine tE.bind rs re h fun x H1 v st1 φ1 s1 rs1 re1 rv h1=>tE.bind rs1 re1 h1 fun y H2 w st2 φ2 s2 rs2 re2 rw h2=>?_
  have h2':Run S X σ B φ2 H2 RB (onO (blO (cmpV o v w)) fun k=>cond k ((ev S.call ρ st2 cc).bind fun z st3=>(toR (cmpV p w z) st3).bind fun x st=>onO (truV st x) fun b=>.ok b st) (.ok false st2)) Q:=by
   cases e:cmpV o v w with
   | none=>rw [e] at h2; exact h2
   | some z =>
    obtain ⟨b,rfl⟩:=ziH e
    rw [e] at h2
    cases b with
    | false=>exact h2
    | true =>
     simp only [blO,onO,cond_true,R.bind_assoc] at h2 ⊢
     exact h2
  obtain ⟨k,e,h2⟩:=zm8 h2'
  refine ⟨B,φ2,st2,v,w,.bl k,rs2,rv.step s2,rw,e,fun z' H' φ' s' rs' rz=>?_⟩
  simp only [RepV] at rz
  refine ⟨k,rz,?_⟩
  cases k with
  | false=>exact ⟨false,rfl,h2 _ H' φ' s' rs' rfl⟩
  | true =>
   refine tE.bind rs' (re2.step s') (Run.on s' h2) fun z H3 v3 st3 φ3 s3 rs3 re3 rv3 h3=>?_
   cases eq:cmpV p w v3 with
   | none=>rw [eq] at h3; exact h3.elim
   | some q =>
    obtain ⟨b,rfl⟩:=ziH eq
    rw [eq] at h3
    refine ⟨B,φ3,st3,w,v3,.bl b,rs3,(rw.step s').step s3,rv3,eq,fun z2 H4 φ4 s4 rs4 rz4=>?_⟩
    simp only [RepV] at rz4
    exact ⟨b,rz4,h3 b H4 φ4 s4 rs4 rfl⟩
theorem RepL.at {vs:List PV} {xs:List V} {i:Int} {v:PV} (l:RepL K cl B φ H vs xs) (h:at? vs i=some v):∃ x,atI xs i=some x/\RepV K cl B φ H v x:=by
 unfold at? at h
 rw [l.length] at h
 unfold atI
 cases e:ixI xs.length i with
 | none=>rw [e] at h; cases h
 | some j =>
  rw [e] at h
  have e':ixN xs.length i=some j:=e
  rw [e']
  exact l.get j h
theorem RepS.list {n:Nat} {vs:List PV} {x:V} (rs:RepS K cl B φ H st) (r:RepV K cl B φ H (.loc n) x) (h:st[n]?=some (.lst vs)):∃ a xs,x=.ref a/\φ[n]?=some (some a)/\H a=some (.lst xs)/\RepL K cl B φ H vs xs:=by
 simp only [RepV] at r
 obtain ⟨hn,a,rfl,ha⟩:=r
 obtain ⟨b,hb⟩:=rs.liv n _ h (by intro z; cases z)
 obtain rfl:=ha b hb
 obtain ⟨o,ho,ro⟩:=rs.obj n b hb
 rw [h] at ho; cases ho
 obtain ⟨xs,hx,l⟩:=ro
 exact ⟨b,xs,rfl,hb,hx,l⟩
noncomputable def rTS (S:Se) (X:Cx) (f:Store->PV->PV->Option PV):R2:=fun x y H Q=>∃ B φ st v w z,RepS X.K S.cl B φ H st/\RepV X.K S.cl B φ H v x/\RepV X.K S.cl B φ H w y/\f st v w=some z /\
 ∀ z' H' φ',Step φ H φ' H'->RepS X.K S.cl B φ' H' st->RepV X.K S.cl B φ' H' z z'->Q z' H'
theorem zgH {α:Type} {xs:List α} {i:PV} {z:α} (h:idxI xs i=some z):∃ k,i=.int k/\at? xs k=some z:=by
 cases i with
 | int k=>exact ⟨k,rfl,h⟩
 | _=>cases h
theorem zqy:IxR X (rTS S X idxV):=by
 rintro value slice pins s σ H x y v u Q I rx ry ⟨B,φ,st,a,i,z,rs,ra,ri,e,q⟩ hs
 cases a with
 | tp k vs =>
  obtain ⟨k,rfl,e⟩:=zgH e
  simp only [RepV] at ra ri
  subst ri
  obtain ⟨p,xs,rfl,rt,l⟩:=ra
  obtain ⟨w,e1,rw⟩:=l.at e
  exact zlq value slice pins s σ H _ _ v u Q I rx ry (.inr (.inl ⟨p,xs,k,w,rfl,rfl,rt.sq,e1,q w H φ .rfl rs rw⟩)) hs
 | lst vs =>
  obtain ⟨k,rfl,e⟩:=zgH e
  simp only [RepV] at ra ri
  subst ri
  obtain ⟨p,xs,rfl,rt,l⟩:=ra
  obtain ⟨w,e1,rw⟩:=l.at e
  exact zlq value slice pins s σ H _ _ v u Q I rx ry (.inl ⟨p,xs,k,w,rfl,rfl,rt.sq,e1,q w H φ .rfl rs rw⟩) hs
 | loc n =>
  simp only [idxV] at e
  split at e
  ·rename_i vs h1
   obtain ⟨k,rfl,e⟩:=zgH e
   simp only [RepV] at ri
   subst ri
   obtain ⟨p,xs,rfl,_,hx,l⟩:=rs.list ra h1
   obtain ⟨w,e1,rw⟩:=l.at e
   exact zlq value slice pins s σ H _ _ v u Q I rx ry (.inl ⟨p,xs,k,w,rfl,rfl,.of hx,e1,q w H φ .rfl rs rw⟩) hs
  ·cases e
 | str t =>
  simp only [idxV] at e
  split at e
  ·rename_i hl
   cases e1:idxI t.cps.toList i with
   | none=>rw [e1] at e; cases e
   | some c =>
    rw [e1] at e
    cases e
    obtain ⟨k,rfl,e1⟩:=zgH e1
    simp only [RepV] at ra ri
    subst ra ri
    exact zlq value slice pins s σ H _ _ v u Q I rx ry (.inr (.inr ⟨t,k,c,rfl,rfl,by rw [<- zbk]; exact hl,e1,q _ H φ .rfl rs (by simp only [RepV])⟩)) hs
  ·cases e
 | _=>cases e
theorem zk (ha:PE X a (tE S X ca)) (hb:PE X b (tE S X cb)) (hs:PlainIx b:=by exact fun _ _=>rfl):PE X (.Subscript a b pos) (tE S X (.idx ca cb)) :=
 (zsP zqy ha hb hs).imp fun σ H Q ⟨B,φ,st,ρ,rs,re,h⟩=>by
  simp only [ev] at h
  refine tE.bind rs re h fun x H1 v st1 φ1 s1 rs1 re1 rv h1=>tE.bind rs1 re1 h1 fun y H2 w st2 φ2 s2 rs2 re2 rw h2=>?_
  obtain ⟨z,e,q⟩:=zea h2 rs2
  exact ⟨B,φ2,st2,v,w,z,rs2,rv.step s2,rw,e,q⟩
theorem RepL.cut {vs:List PV} {xs:List V} (lo hi:Option Int) (l:RepL K cl B φ H vs xs):RepL K cl B φ H (IC.cut vs lo hi) (cutV xs lo hi):=by
 have e1:∀ n o,loOf n o=HT.sIx n 0 o:=fun n o=>by cases o <;> rfl
 have e2:∀ n o,hiOf n o=HT.sIx n n o:=fun n o=>by cases o <;> rfl
 unfold IC.cut cutV
 rw [l.length,e1,e2]
 exact (l.drop _).take _
noncomputable def tO (S:Se) (X:Cx) (c:Ce):TO:=fun σ H Q=>tE S X c σ H fun x H1=>(x=.non/\Q none H1) \/ ∃ i,x=.int i/\Q (some i) H1
theorem ziB:PO X none (tO S X (.cst .non)):=fun pins s σ H Q I h=>by
 refine zqv pins s σ H Q I ?_
 obtain ⟨B,φ,st,ρ,rs,re,h⟩:=h
 simp only [ev] at h
 rcases h.ok rs (x:=V.non) (by simp only [RepV]) with q | ⟨i,z,_⟩
 ·exact q.2
 ·cases z
theorem zi7 (ha:PE X a (tE S X ca)):PO X (some a) (tO S X ca):=by
 intro pins s σ H Q I hw
 rw [evalPart_some]
 refine thn (ha pins s σ H _ I hw) fun u s1 ⟨x,H1,I1,r1,q1⟩=>?_
 rcases q1 with ⟨rfl,q⟩ | ⟨i,rfl,q⟩
 ·cases r1
  exact ⟨none,H1,I1,.none,q⟩
 ·obtain ⟨t,rfl⟩:=r1
  exact ⟨some i,H1,I1,.int i t,q⟩
noncomputable def rSl (S:Se) (X:Cx):V->Option Int->Option Int->Hp->VK->Prop:=fun x lo hi H Q=>∃ B φ st v z,RepS X.K S.cl B φ H st/\RepV X.K S.cl B φ H v x/\slcO v lo hi=some z /\
 ∀ z' H' φ',Step φ H φ' H'->RepS X.K S.cl B φ' H' st->RepV X.K S.cl B φ' H' z z'->Q z' H'
theorem zp7:SlR X (rSl S X):=by
 rintro pins s σ H x v vl vu lo hi sl Q I rx hs pl pu ⟨B,φ,st,w,z,rs,rw,e,q⟩
 have e1:∀ n o,loOf n o=HT.sIx n 0 o:=fun n o=>by cases o <;> rfl
 have e2:∀ n o,hiOf n o=HT.sIx n n o:=fun n o=>by cases o <;> rfl
 cases w with
 | tp k vs =>
  simp only [slcO] at e
  split at e
  ·cases e
  ·rename_i c
   cases e
   simp only [RepV] at rw
   obtain ⟨p,xs,rfl,rt,l⟩:=rw
   refine zrl pins s σ H _ v vl vu lo hi sl Q I rx hs pl pu ⟨p,xs,rfl,rt.sq,?_,fun t ht=>q _ _ φ (.upd ht) (rs.upd ht) (.tup_new ht rs (l.cut lo hi))⟩
   rw [l.length,e1,e2] at c
   exact c
 | lst vs =>
  simp only [slcO] at e
  cases e
  simp only [RepV] at rw
  obtain ⟨p,xs,rfl,rt,l⟩:=rw
  exact znt pins s σ H _ v vl vu lo hi sl Q I rx hs pl pu ⟨p,xs,rfl,rt.sq,fun t ht=>q _ _ φ (.upd ht) (rs.upd ht) (.lst_new ht rs (l.cut lo hi))⟩
 | scr vs =>
  simp only [slcO] at e
  cases e
  simp only [RepV] at rw
  obtain ⟨p,xs,rfl,rt,l⟩:=rw
  exact znt pins s σ H _ v vl vu lo hi sl Q I rx hs pl pu ⟨p,xs,rfl,(by rcases rt with rt | rt; exact .inl rt.1; exact .inr rt),fun t ht=>q _ _ φ (.upd ht) (rs.upd ht) (.lst_new ht rs (l.cut lo hi))⟩
 | _=>cases e
theorem zk0 {lo hi:Option Expr} (ha:PE X a (tE S X ca)) (hl:PO X lo (tO S X cb)) (hh:PO X hi (tO S X cc)):PE X (.Subscript a (.Slice lo hi none p2) pos) (tE S X (.slc ca cb cc)) :=
 (zoq zp7 ha hl hh).imp fun σ H Q ⟨B,φ,st,ρ,rs,re,h⟩=>by
  simp only [ev] at h
  have oi:∀ {v:PV} {x:V} {o:Option Int} {B φ H},RepV X.K S.cl B φ H v x->optI v=some o->(x=.non/\o=none) \/ ∃ i,x=.int i/\o=some i:=fun {v x o B φ H} r e=>by
   cases v with
   | non=>simp only [RepV] at r; cases e; exact .inl ⟨r,rfl⟩
   | int i=>simp only [RepV] at r; cases e; exact .inr ⟨i,r,rfl⟩
   | _=>cases e
  refine tE.bind rs re h fun x H1 v st1 φ1 s1 rs1 re1 rv h1=>tE.bind rs1 re1 h1 fun y H2 w st2 φ2 s2 rs2 re2 rw h2=>?_
  cases eo:optI w with
  | none=>rw [eo] at h2; exact h2.elim
  | some o1 =>
   rw [eo] at h2
   have key:tO S X cc σ H2 fun u H3=>rSl S X x o1 u H3 Q:=by
    refine tE.bind rs2 re2 h2 fun y' H3 w' st3 φ3 s3 rs3 re3 rw' h3=>?_
    obtain ⟨z,e,q⟩:=zea h3 rs3
    unfold slcV at e
    cases eo':optI w' with
    | none=>rw [eo'] at e; cases e
    | some o2 =>
     rw [eo'] at e
     have fin:rSl S X x o1 o2 H3 Q:=⟨B,φ3,st3,v,z,rs3,(rv.step s2).step s3,e,q⟩
     rcases oi rw' eo' with ⟨rfl,rfl⟩ | ⟨i,rfl,rfl⟩
     ·exact .inl ⟨rfl,fin⟩
     ·exact .inr ⟨i,rfl,fin⟩
   rcases oi rw eo with ⟨rfl,rfl⟩ | ⟨i,rfl,rfl⟩
   ·exact .inl ⟨rfl,key⟩
   ·exact .inr ⟨i,rfl,key⟩
end
section
variable {S:Se} {X:Cx} {σ:St} {B:Addr->Prop} {φ φ1:Ph} {H H1:Hp} {st:Store} {ρ:IC.Env} {p pos p2:Pos} {a b c d:Expr} {ca cb cc:Ce} {es:List Expr} {ces:Ces} {K:PySem.W.Frag} {cl:Nat->Addr}
noncomputable def rB (S:Se) (X:Cx) (k:Blt):List V->Hp->VK->Prop:=fun xs H Q=>∃ B φ st vs z,RepS X.K S.cl B φ H st/\RepL X.K S.cl B φ H vs xs/\bltV k st vs=some z /\
 ∀ z' H' φ',Step φ H φ' H'->RepS X.K S.cl B φ' H' st->RepV X.K S.cl B φ' H' z z'->Q z' H'
theorem RepL.one {v:PV} {xs:List V} (l:RepL K cl B φ H [v] xs):∃ x,xs=[x]/\RepV K cl B φ H v x:=by
 simp only [RepL] at l
 obtain ⟨y,ys,rfl,r,rfl⟩:=l
 exact ⟨y,rfl,r⟩
theorem RepL.two {v w:PV} {xs:List V} (l:RepL K cl B φ H [v,w] xs):∃ x y,xs=[x,y]/\RepV K cl B φ H v x/\RepV K cl B φ H w y:=by
 simp only [RepL] at l
 obtain ⟨y,ys,rfl,r,z,zs,rfl,r2,rfl⟩:=l
 exact ⟨y,z,rfl,r,r2⟩
theorem zha {k:Blt} {st:Store} {vs:List PV} {z:PV} (h:bltV k st vs=some z) (h2:∀ x y,bltV k st [x,y]=none):∃ x,vs=[x]:=by
 match vs,h with
 | [x],_=>exact ⟨x,rfl⟩
 | [x,y],h=>rw [h2] at h; cases h
theorem zg3 {v:PV} {x:V} {vs:List PV} (rs:RepS K cl B φ H st) (r:RepV K cl B φ H v x) (h:lstOf st v=some vs):∃ a xs,x=.ref a/\SqL K H a xs/\RepL K cl B φ H vs xs:=by
 cases v with
 | lst ws =>
  cases h
  simp only [RepV] at r
  obtain ⟨a,xs,rfl,rt,l⟩:=r
  exact ⟨a,xs,rfl,rt.sq,l⟩
 | loc n =>
  simp only [lstOf] at h
  split at h
  ·rename_i ws hw
   cases h
   obtain ⟨a,xs,rfl,_,hx,l⟩:=rs.list r hw
   exact ⟨a,xs,rfl,.of hx,l⟩
  ·cases h
 | _=>cases h
theorem zq2 {v:PV} {x:V} {vs:List PV} (rs:RepS K cl B φ H st) (r:RepV K cl B φ H v x) (h:seqOf st v=some vs):∃ a xs,x=.ref a/\(SqL K H a xs \/ SqT K H a xs)/\RepL K cl B φ H vs xs:=by
 cases v with
 | tp k ws =>
  cases h
  simp only [RepV] at r
  obtain ⟨a,xs,rfl,rt,l⟩:=r
  exact ⟨a,xs,rfl,.inr rt.sq,l⟩
 | lst ws =>
  obtain ⟨a,xs,e,q,l⟩:=zg3 rs r (vs:=vs) h
  exact ⟨a,xs,e,.inl q,l⟩
 | loc n =>
  obtain ⟨a,xs,e,q,l⟩:=zg3 rs r (vs:=vs) h
  exact ⟨a,xs,e,.inl q,l⟩
 | _=>cases h
theorem zaZ:CallR X (.builtin "len") (rB S X .len):=by
 rintro pins s σ H xs us Q I r ⟨B,φ,st,vs,z,rs,l,e,q⟩
 obtain ⟨v,rfl⟩:=zha e fun _ _=>rfl
 obtain ⟨x,rfl,rv⟩:=l.one
 simp only [bltV,lenV] at e
 split at e
 ·rename_i t
  split at e
  ·rename_i c
   cases e
   simp only [RepV] at rv
   subst rv
   exact zj7 pins s σ H _ us Q I r ⟨t,rfl,by rw [<- zbk]; exact c,q _ H φ .rfl rs (by simp only [RepV])⟩
  ·cases e
 ·cases e1:seqOf st v with
  | none=>rw [e1] at e; cases e
  | some ws =>
   rw [e1] at e
   cases e
   obtain ⟨a,ys,rfl,h,l⟩:=zq2 rs rv e1
   refine zjZ pins s σ H _ us Q I r ⟨a,ys,rfl,?_,q _ H φ .rfl rs (by simp only [RepV]; rw [l.length])⟩
   exact h
theorem zjD:CallR X (.type "int") (rB S X .int):=by
 rintro pins s σ H xs us Q I r ⟨B,φ,st,vs,z,rs,l,e,q⟩
 obtain ⟨v,rfl⟩:=zha e fun _ _=>rfl
 obtain ⟨x,rfl,rv⟩:=l.one
 simp only [bltV] at e
 cases v with
 | int i =>
  cases e
  simp only [RepV] at rv
  subst rv
  exact zjw pins s σ H _ us Q I r (.inl ⟨i,rfl,q _ H φ .rfl rs (by simp only [RepV])⟩)
 | bl k =>
  cases e
  simp only [RepV] at rv
  subst rv
  exact zjw pins s σ H _ us Q I r (.inr ⟨k,rfl,q _ H φ .rfl rs (by simp only [RepV,bi])⟩)
 | _=>cases e
theorem zmr:CallR X (.builtin "abs") (rB S X .abs):=by
 rintro pins s σ H xs us Q I r ⟨B,φ,st,vs,z,rs,l,e,q⟩
 obtain ⟨v,rfl⟩:=zha e fun _ _=>rfl
 obtain ⟨x,rfl,rv⟩:=l.one
 simp only [bltV] at e
 cases v with
 | int i =>
  cases e
  simp only [RepV] at rv
  subst rv
  exact zoG pins s σ H _ us Q I r ⟨i,rfl,q _ H φ .rfl rs (by simp only [RepV])⟩
 | _=>cases e
theorem zp3 {k:Blt} {st:Store} {vs:List PV} {z:PV} (h:bltV k st vs=some z) (h2:∀ x,bltV k st [x]=none):∃ x y,vs=[x,y]:=by
 match vs,h with
 | [x,y],_=>exact ⟨x,y,rfl⟩
 | [x],h=>rw [h2] at h; cases h
theorem zla (hc:X.calm=true):CallR X (.builtin "min") (rB S X .min):=by
 rintro pins s σ H xs us Q I r ⟨B,φ,st,vs,z,rs,l,e,q⟩
 obtain ⟨v,w,rfl⟩:=zp3 e fun _=>rfl
 obtain ⟨x,y,rfl,rv,rw⟩:=l.two
 simp only [bltV,minV] at e
 split at e
 ·cases e
  simp only [RepV] at rv rw
  subst rv rw
  exact zmT hc pins s σ H _ us Q I r ⟨_,_,rfl,q _ H φ .rfl rs (by simp only [RepV])⟩
 ·cases e
theorem zpF:∀ {vs:List PV} {m:Int},maxI vs=some m->∃ ns:List Int,vs=ns.map .int/\m ∈ ns/\∀ a ∈ ns,a<=m
 | [],m,h=>by cases h
 | [.int i],m,h=>by cases h; exact ⟨[i],rfl,by simp,by simp⟩
 | .int i :: w :: r,m,h=>by
  simp only [maxI] at h
  split at h
  ·rename_i c e
   cases h
   obtain ⟨ns,e1,e2,e3⟩:=zpF e
   refine ⟨i :: ns,by rw [e1]; rfl,?_,fun a ha=>?_⟩
   ·split
    ·exact List.mem_cons_of_mem _ e2
    ·exact List.mem_cons_self
   ·rcases List.mem_cons.mp ha with rfl | ha
    ·split <;> omega
    ·have:=e3 a ha
     split <;> omega
  ·cases h
 | .non :: r,m,h=>by cases r <;> cases h
 | .bl _ :: r,m,h=>by cases r <;> cases h
 | .str _ :: r,m,h=>by cases r <;> cases h
 | .tp _ _ :: r,m,h=>by cases r <;> cases h
 | .lst _ :: r,m,h=>by cases r <;> cases h
 | .loc _ :: r,m,h=>by cases r <;> cases h
 | .exn _ :: r,m,h=>by cases r <;> cases h
 | .scr _ :: r,m,h=>by cases r <;> cases h
theorem RepL.ints:∀ {ns:List Int} {xs:List V},RepL K cl B φ H (ns.map .int) xs->xs=ns.map V.int
 | [],xs,h=>by simpa only [List.map_nil,RepL] using h
 | n :: ns,xs,h=>by
  simp only [List.map_cons,RepL] at h
  obtain ⟨y,ys,rfl,r,l⟩:=h
  simp only [RepV] at r
  rw [r,RepL.ints l]
  rfl
theorem RepL.bls:∀ {ns:List Bool} {xs:List V},RepL K cl B φ H (ns.map .bl) xs->xs=ns.map V.bl
 | [],xs,h=>by simpa only [List.map_nil,RepL] using h
 | n :: ns,xs,h=>by
  simp only [List.map_cons,RepL] at h
  obtain ⟨y,ys,rfl,r,l⟩:=h
  simp only [RepV] at r
  rw [r,RepL.bls l]
  rfl
theorem zqj {v w z:PV} (e:maxV v w=some z):∃ i j,v=.int i/\w=.int j/\z=.int (if i < j then j else i):=by
 unfold maxV at e
 split at e
 ·exact ⟨_,_,rfl,rfl,(Option.some.inj e).symm⟩
 ·cases e
theorem zpg (hc:X.calm=true):CallR X (.builtin "max") (rB S X .max):=by
 rintro pins s σ H xs us Q I r ⟨B,φ,st,vs,z,rs,l,e,q⟩
 rcases vs with _ | ⟨v,_ | ⟨w,_ | ⟨u',t⟩⟩⟩
 ·simp [bltV] at e
 ·obtain ⟨x,rfl,rv⟩:=l.one
  simp only [bltV] at e
  cases e1:lstOf st v with
  | none=>rw [e1] at e; cases e
  | some ws =>
   rw [e1] at e
   simp only [Option.bind_some] at e
   cases e2:maxI ws with
   | none=>rw [e2] at e; cases e
   | some m =>
    rw [e2] at e
    obtain rfl:=Option.some.inj e
    obtain ⟨ns,rfl,hm,hb⟩:=zpF e2
    obtain ⟨a,ys,rfl,h,l⟩:=zg3 rs rv e1
    rw [l.ints] at h
    refine zm9 hc pins s σ H _ us Q I r ⟨a,ns,rfl,h,List.length_pos_of_mem hm,fun M h1 h2=>?_⟩
    have:M=m:=by
     have:=hb M h1
     have:=h2 m hm
     omega
    subst this
    exact q _ H φ .rfl rs (by simp only [RepV])
 ·obtain ⟨x,y,rfl,rv,rw⟩:=l.two
  have e:maxV v w=some z:=e
  obtain ⟨i,j,rfl,rfl,rfl⟩:=zqj e
  simp only [RepV] at rv rw
  subst rv rw
  exact zmF hc pins s σ H _ us Q I r ⟨i,j,rfl,q (.int (if i < j then j else i)) H φ .rfl rs (by simp only [RepV])⟩
 ·simp [bltV] at e
theorem zgI:CallR X (.type "tuple") (rB S X .tuple):=by
 rintro pins s σ H xs us Q I r ⟨B,φ,st,vs,z,rs,l,e,q⟩
 obtain ⟨v,rfl⟩:=zha e fun _ _=>rfl
 obtain ⟨x,rfl,rv⟩:=l.one
 simp only [bltV,tupV] at e
 split at e
 ·cases e
  simp only [RepV] at rv
  obtain ⟨a,ys,rfl,rt,l⟩:=rv
  exact zfb pins s σ H _ us Q I r ⟨a,ys,rfl,.inr ⟨rt.sq,q _ H φ .rfl rs (by simp only [RepV]; exact ⟨a,ys,rfl,rt,l⟩)⟩⟩
 ·cases e1:lstOf st v with
  | none=>rw [e1] at e; cases e
  | some ws =>
   rw [e1] at e
   cases e
   obtain ⟨a,ys,rfl,h,l⟩:=zg3 rs rv e1
   exact zfb pins s σ H _ us Q I r ⟨a,ys,rfl,.inl ⟨h,fun t ht=>q _ _ φ (.upd ht) (rs.upd ht) (.tup_new ht rs l)⟩⟩
theorem zpw:∀ {vs:List PV} {m:Bool},IC.allB vs=some m->∃ ns:List Bool,vs=ns.map .bl/\m=ns.all id
 | [],m,h=>by cases h; exact ⟨[],rfl,rfl⟩
 | .bl i :: r,m,h=>by
  simp only [IC.allB] at h
  split at h
  ·rename_i c e
   cases h
   obtain ⟨ns,e1,e2⟩:=zpw e
   exact ⟨i :: ns,by rw [e1]; rfl,by rw [e2]; rfl⟩
  ·cases h
 | .non :: r,m,h=>by cases h
 | .int _ :: r,m,h=>by cases h
 | .str _ :: r,m,h=>by cases h
 | .tp _ _ :: r,m,h=>by cases h
 | .lst _ :: r,m,h=>by cases h
 | .loc _ :: r,m,h=>by cases h
 | .exn _ :: r,m,h=>by cases h
 | .scr _ :: r,m,h=>by cases h
theorem zjc (hc:X.calm=true):CallR X (.builtin "all") (rB S X .all):=by
 rintro pins s σ H xs us Q I r ⟨B,φ,st,vs,z,rs,l,e,q⟩
 obtain ⟨v,rfl⟩:=zha e fun _ _=>rfl
 obtain ⟨x,rfl,rv⟩:=l.one
 simp only [bltV] at e
 cases e1:lstOf st v with
 | none=>rw [e1] at e; cases e
 | some ws =>
  rw [e1] at e
  simp only [Option.bind_some] at e
  cases e2:IC.allB ws with
  | none=>rw [e2] at e; cases e
  | some m =>
   rw [e2] at e
   cases e
   obtain ⟨ns,rfl,rfl⟩:=zpw e2
   obtain ⟨a,ys,rfl,h,l⟩:=zg3 rs rv e1
   rw [l.bls] at h
   exact zoi hc pins s σ H _ us Q I r ⟨a,ns,rfl,h,q _ H φ .rfl rs (by simp only [RepV])⟩
variable {x:Str} {id T:String} {k:Blt}
theorem zY (hc:CallR X (.builtin id) (rB S X k)) (hg:Gl X x) (hm:X.mg x=none) (hv:bootBuiltins x=some (.builtin id)) (ha:PA X (a :: es) (tAs S X ces)) (hn:x ≠ "__name__":=by decide) (hdb:(x == ("__debug__":Str))=false:=by decide)
  (he:starEach (a :: es) X.env=(false,eval a X.env) :: starEach es X.env:=by rfl) (hpl:(backTo pos (starEach es X.env)).any (·.1)=false:=by rfl):PE X (.Call (.Name x p) (a :: es) [] pos) (tE S X (.blt k ces)) :=
 (zlv hc hg hm hv ha hn hdb he hpl).imp fun σ H Q ⟨B,φ,st,ρ,rs,re,h⟩=>by
  simp only [ev] at h
  refine tAs.bind rs re h fun xs H1 vs st1 φ1 s1 rs1 re1 rv h1=>?_
  obtain ⟨z,e,q⟩:=zea h1 rs1
  exact ⟨B,φ1,st1,vs,z,rs1,rv,e,q⟩
theorem zdc (hc:CallR X (.type T) (rB S X k)) (hg:Gl X x) (hm:X.mg x=none) (hv:bootBuiltins x=some (.type T)) (ha:PA X (a :: es) (tAs S X ces)) (hn:x ≠ "__name__":=by decide) (hdb:(x == ("__debug__":Str))=false:=by decide)
  (he:starEach (a :: es) X.env=(false,eval a X.env) :: starEach es X.env:=by rfl) (hpl:(backTo pos (starEach es X.env)).any (·.1)=false:=by rfl):PE X (.Call (.Name x p) (a :: es) [] pos) (tE S X (.blt k ces)) :=
 (zmO hc hg hm hv ha hn hdb he hpl).imp fun σ H Q ⟨B,φ,st,ρ,rs,re,h⟩=>by
  simp only [ev] at h
  refine tAs.bind rs re h fun xs H1 vs st1 φ1 s1 rs1 re1 rv h1=>?_
  obtain ⟨z,e,q⟩:=zea h1 rs1
  exact ⟨B,φ1,st1,vs,z,rs1,rv,e,q⟩
end
section
variable {S:Se} {X:Cx} {σ:St} {B:Addr->Prop} {φ φ1:Ph} {H H1:Hp} {st:Store} {ρ:IC.Env} {p pos p2 apos:Pos} {a b c d:Expr} {ca cb cc:Ce} {es:List Expr} {ces:Ces} {K:PySem.W.Frag} {cl:Nat->Addr}
theorem Step.put {l:Addr} {u:HO} (hl:some l ∈ φ):Step φ H φ (L2.upd H l u) :=
 ⟨fun b o n e=>by rw [zR (show b ≠ l from fun z=>n (by rw [z]; exact hl))]; exact e,Nat.le_refl _,fun _ _ _ e=>e,fun _ h=>.inl h⟩
theorem RepS.put {n:Nat} {l:Addr} {u:HO} {o:Ob} (rs:RepS K cl B φ H st) (hn:φ[n]?=some (some l)) (ho:RepO K cl B φ (L2.upd H l u) o l):RepS K cl B φ (L2.upd H l u) (st.set n o):=by
 have hm:some l ∈ φ:=List.mem_of_getElem? hn
 have s:Step φ H φ (L2.upd H l u):=.put hm
 have hlt:n < st.length:=by rw [<- rs.len]; exact (List.getElem?_eq_some_iff.mp hn).1
 refine ⟨by rw [List.length_set]; exact rs.len,rs.inj,fun m a e=>?_,fun m o' e ho'=>?_,rs.nb,fun a h=>?_⟩
 ·by_cases hmn:m=n
  ·subst hmn
   rw [hn] at e; cases e
   exact ⟨o,by rw [List.getElem?_set_self hlt],ho⟩
  ·obtain ⟨o',q,r⟩:=rs.obj m a e
   refine ⟨o',by rw [List.getElem?_set_ne (Ne.symm hmn)]; exact q,r.step s ?_⟩
   rw [zR]
   rintro rfl
   exact hmn (rs.inj m n a e hn)
 ·by_cases hmn:m=n
  ·subst hmn
   exact ⟨l,hn⟩
  ·rw [List.getElem?_set_ne (Ne.symm hmn)] at e
   exact rs.liv m o' e ho'
 ·obtain ⟨w,e⟩:=rs.dom a h
  by_cases z:a=l
  ·subst z; exact ⟨u,zav⟩
  ·exact ⟨w,by rw [zR z]; exact e⟩
theorem million:1000000<=sizeLine:=by rw [sizeLine_eq]; decide
theorem zkS {m:Mth} {v:PV} {st:Store} {α β:Type} {Rel:Ph->Hp->α->β->Prop} {k:Bool->R α} {Q:β->Hp->Prop} (h:Run S X σ B φ H Rel (onO (mthOk m st v) k) Q):∃ b,mthOk m st v=some b/\Run S X σ B φ H Rel (k b) Q:=by
 cases e:mthOk m st v with
 | none=>rw [e] at h; exact h.elim
 | some z=>rw [e] at h; exact ⟨z,rfl,h⟩
theorem zdS (ha:PE X a (tE S X ca)) (hb:PE X b (tE S X cb)) (hs:starEach [b] X.env=[(false,eval b X.env)]:=by rfl) (hbase:attributeBase a "append" X.env (eval a X.env)=eval a X.env:=by rfl) (hline:(apos.endLine == pos.line)=true:=by rfl)
  (hfew:((backTo pos (starEach [b] X.env)).all (fun x=>!x.1) && (backToKw pos (keywordEach [] X.env)).all (fun x=>x.1.isSome) && decide (([b]:List Expr).length+([]:List Keyword).length+(if ([]:List Keyword).isEmpty then 0 else 1) < 30))=true:=by rfl) :
  PE X (.Call (.Attribute a "append" apos) [b] [] pos) (tE S X (.mth .append ca (.cons cb .nil))) :=
 (zsr PySem.F.plainAttrs_list PySem.F.slot_list_append PySem.F.type_list_append zjo ha (za (S:=S) hb zd hs) hbase hfew hline hs rfl).imp fun σ H Q ⟨B,φ,st,ρ,rs,re,h⟩=>by
  simp only [ev] at h
  refine tE.bind rs re h fun x H1 v st1 φ1 s1 rs1 re1 rv h1=>?_
  obtain ⟨_,e1,h1⟩:=zkS h1
  have t1:∃ ws,lstOf st1 v=some ws:=by
   simp only [mthOk] at e1
   cases q:lstOf st1 v with
   | none=>rw [q] at e1; cases e1
   | some ws=>exact ⟨ws,rfl⟩
  obtain ⟨ws,t1⟩:=t1
  obtain ⟨l,xs,rfl,hl,_⟩:=zg3 rs1 rv t1
  refine ⟨.inl ⟨rfl,xs,hl⟩,tAs.bind rs1 re1 h1 fun ys H2 vs st2 φ2 s2 rs2 re2 rvs h2=>?_⟩
  have rv2:=rv.step s2
  rcases vs with _ | ⟨w,_ | ⟨w',t⟩⟩
  ·exact h2.elim
  ·obtain ⟨y,rfl,rw⟩:=rvs.one
   simp only [mthV,appV] at h2
   split at h2
   ·rename_i n
    split at h2
    ·rename_i zs hz
     split at h2
     ·rename_i c
      obtain ⟨l',xs',e,hn,hx,lr⟩:=rs2.list rv2 hz
      cases e
      refine ⟨l,xs',y,rfl,rfl,hx,by have:=million; have:=lr.length; omega,?_⟩
      exact h2 _ _ φ2 (.put (List.mem_of_getElem? hn)) (rs2.put hn ⟨_,zav,(lr.append (by simp only [RepL]; exact ⟨y,[],rfl,rw,rfl⟩)).step (.put (List.mem_of_getElem? hn))⟩) (by simp only [RepV])
     ·exact h2.elim
    ·exact h2.elim
   ·exact h2.elim
  ·exact h2.elim
theorem zm7 (ha:PE X a (tE S X ca)) (hb:PE X b (tE S X cb)) (hs:starEach [b] X.env=[(false,eval b X.env)]:=by rfl) (hbase:attributeBase a "extend" X.env (eval a X.env)=eval a X.env:=by rfl) (hline:(apos.endLine == pos.line)=true:=by rfl)
  (hfew:((backTo pos (starEach [b] X.env)).all (fun x=>!x.1) && (backToKw pos (keywordEach [] X.env)).all (fun x=>x.1.isSome) && decide (([b]:List Expr).length+([]:List Keyword).length+(if ([]:List Keyword).isEmpty then 0 else 1) < 30))=true:=by rfl) :
  PE X (.Call (.Attribute a "extend" apos) [b] [] pos) (tE S X (.mth .extend ca (.cons cb .nil))) :=
 (zsr PySem.F.plainAttrs_list PySem.F.slot_list_extend PySem.F.type_list_extend znp ha (za (S:=S) hb zd hs) hbase hfew hline hs rfl).imp fun σ H Q ⟨B,φ,st,ρ,rs,re,h⟩=>by
  simp only [ev] at h
  refine tE.bind rs re h fun x H1 v st1 φ1 s1 rs1 re1 rv h1=>?_
  obtain ⟨_,e1,h1⟩:=zkS h1
  have t1:∃ ws,lstOf st1 v=some ws:=by
   simp only [mthOk] at e1
   cases q:lstOf st1 v with
   | none=>rw [q] at e1; cases e1
   | some ws=>exact ⟨ws,rfl⟩
  obtain ⟨ws,t1⟩:=t1
  obtain ⟨l,xs,rfl,hl,_⟩:=zg3 rs1 rv t1
  refine ⟨.inl ⟨rfl,xs,hl⟩,tAs.bind rs1 re1 h1 fun ys H2 vs st2 φ2 s2 rs2 re2 rvs h2=>?_⟩
  have rv2:=rv.step s2
  rcases vs with _ | ⟨w,_ | ⟨w',t⟩⟩
  ·exact h2.elim
  ·obtain ⟨y,rfl,rw⟩:=rvs.one
   simp only [mthV,extV] at h2
   split at h2
   ·rename_i n
    split at h2
    ·rename_i zs hz
     split at h2
     ·rename_i ks
      split at h2
      ·rename_i c
       obtain ⟨l',xs',e,hn,hx,lr⟩:=rs2.list rv2 hz
       cases e
       simp only [RepV] at rw
       obtain ⟨b',ys',rfl,rl,lr2⟩:=rw
       refine ⟨l,b',xs',ys',rfl,rfl,hx,rl.1,by have:=million; have:=lr.length; have:=lr2.length; omega,?_⟩
       exact h2 _ _ φ2 (.put (List.mem_of_getElem? hn)) (rs2.put hn ⟨_,zav,(lr.append lr2).step (.put (List.mem_of_getElem? hn))⟩) (by simp only [RepV])
      ·exact h2.elim
     ·exact h2.elim
    ·exact h2.elim
   ·exact h2.elim
  ·exact h2.elim
theorem zqZ (ha:PE X a (tE S X ca)):PE X a (tE S X (.frz ca)) :=
 ha.imp fun σ H Q ⟨B,φ,st,ρ,rs,re,h⟩=>by
  simp only [ev] at h
  refine tE.bind rs re h fun x H1 v st1 φ1 s1 rs1 re1 rv h1=>?_
  unfold frzV at h1
  split at h1
  ·rename_i n
   split at h1
   ·rename_i vs hv
    obtain ⟨l,xs,rfl,hn,hx,lr⟩:=rs1.list rv hv
    have hm:some l ∈ φ1:=List.mem_of_getElem? hn
    have hlt:n < φ1.length:=(List.getElem?_eq_some_iff.mp hn).1
    have nl:some l ∉ φ1.set n none:=fun z=>by
     obtain ⟨m,e⟩:=List.mem_iff_getElem?.mp z
     by_cases hmn:m=n
     ·subst hmn
      rw [List.getElem?_set_self hlt] at e; cases e
     ·rw [List.getElem?_set_ne (Ne.symm hmn)] at e
      exact hmn (rs1.inj m n l e hn)
    have sb:∀ b,some b ∈ φ1.set n none->some b ∈ φ1:=fun b z=>by
     obtain ⟨m,e⟩:=List.mem_iff_getElem?.mp z
     by_cases hmn:m=n
     ·subst hmn
      rw [List.getElem?_set_self hlt] at e; cases e
     ·rw [List.getElem?_set_ne (Ne.symm hmn)] at e
      exact List.mem_of_getElem? e
    have s:Step φ1 H1 (φ1.set n none) H1:=⟨fun _ _ _ e=>e,by simp,fun m a hm' e=>by
     by_cases hmn:m=n
     ·subst hmn
      rw [List.getElem?_set_self hlt] at e; cases e
     ·rw [List.getElem?_set_ne (Ne.symm hmn)] at e
      exact e,fun b z=>.inl (sb b z)⟩
    refine h1 _ H1 (φ1.set n none) s ⟨by simp [rs1.len],fun m k a e1 e2=>?_,fun m a e=>?_,fun m o e ho=>?_,fun a z=>rs1.nb a (sb a z),rs1.dom⟩ ?_
    ·by_cases h1':m=n
     ·subst h1'; rw [List.getElem?_set_self hlt] at e1; cases e1
     ·by_cases h2':k=n
      ·subst h2'; rw [List.getElem?_set_self hlt] at e2; cases e2
      ·rw [List.getElem?_set_ne (Ne.symm h1')] at e1
       rw [List.getElem?_set_ne (Ne.symm h2')] at e2
       exact rs1.inj m k a e1 e2
    ·by_cases hmn:m=n
     ·subst hmn; rw [List.getElem?_set_self hlt] at e; cases e
     ·rw [List.getElem?_set_ne (Ne.symm hmn)] at e
      obtain ⟨o,q,r⟩:=rs1.obj m a e
      exact ⟨o,by rw [List.getElem?_set_ne (Ne.symm hmn)]; exact q,r.step s rfl⟩
    ·by_cases hmn:m=n
     ·subst hmn
      rw [List.getElem?_set_self (by rw [<- rs1.len]; exact hlt)] at e; cases e
      exact absurd rfl ho
     ·rw [List.getElem?_set_ne (Ne.symm hmn)] at e ⊢
      exact rs1.liv m o e ho
    ·simp only [RepV]
     exact ⟨l,xs,rfl,⟨hx,rs1.nb l hm,nl⟩,lr.step s⟩
   ·exact h1.elim
  ·exact h1.ok rs1 rv
end
section
variable (S:Se) (X:Cx)
def RunF (B:Addr->Prop) (φ:Ph) (H:Hp) (f:Fl) (D:Ends):Prop :=
 match f with
 | .nx ρ' st'=>∀ σ' H' φ',Step φ H φ' H'->RepS X.K S.cl B φ' H' st'->RepE X.K S.cl B φ' H' ρ' σ'->D.nx σ' H'
 | .rt v st'=>∀ x H' φ',Step φ H φ' H'->RepS X.K S.cl B φ' H' st'->RepV X.K S.cl B φ' H' v x->D.rt x H'
 | .bk ρ' st'=>∀ σ' H' φ',Step φ H φ' H'->RepS X.K S.cl B φ' H' st'->RepE X.K S.cl B φ' H' ρ' σ'->D.bk σ' H'
 | .ct ρ' st'=>∀ σ' H' φ',Step φ H φ' H'->RepS X.K S.cl B φ' H' st'->RepE X.K S.cl B φ' H' ρ' σ'->D.ct σ' H'
 | .exc k ρ' st'=>∀ σ' φ1 H1 e s',Step φ H φ1 H1->RepE X.K S.cl B φ1 H1 ρ' σ'->ExcAt S X σ' B φ1 H1 k st' e s'->X.xe e s'
 | .bad=>False
noncomputable def tS (c:Cs):TS:=fun D σ H=>∃ B φ st ρ,RepS X.K S.cl B φ H st/\RepE X.K S.cl B φ H ρ σ/\RunF S X B φ H (ex S.call ρ st c) D
noncomputable def tSs (c:Css):TS:=fun D σ H=>∃ B φ st ρ,RepS X.K S.cl B φ H st/\RepE X.K S.cl B φ H ρ σ/\RunF S X B φ H (exs S.call ρ st c) D
end
section
variable {S:Se} {X:Cx} {σ:St} {B:Addr->Prop} {φ φ1:Ph} {H H1:Hp} {st:Store} {ρ:IC.Env} {D:Ends} {pos p2 px:Pos} {a b c o:Expr} {ca cb cc:Ce} {s1:Stmt} {ss ss':List Stmt} {c1:Cs} {cs cs':Css}
theorem RunF.on {f:Fl} (s:Step φ H φ1 H1) (h:RunF S X B φ H f D):RunF S X B φ1 H1 f D:=by
 cases f with
 | nx ρ st=>exact fun σ' H' φ' t=>h σ' H' φ' (s.trans t)
 | rt ρ st=>exact fun σ' H' φ' t=>h σ' H' φ' (s.trans t)
 | bk ρ st=>exact fun σ' H' φ' t=>h σ' H' φ' (s.trans t)
 | ct ρ st=>exact fun σ' H' φ' t=>h σ' H' φ' (s.trans t)
 | exc k ρ st=>exact fun σ' φ2 H2 e s' t=>h σ' φ2 H2 e s' (s.trans t)
 | bad=>exact h
theorem tE.fl {k:PV->Store->Fl} {P:V->Hp->Prop} (rs:RepS X.K S.cl B φ H st) (re:RepE X.K S.cl B φ H ρ σ) (h:RunF S X B φ H ((ev S.call ρ st ca).fl ρ k) D)
  (n:∀ x H1 v st1 φ1,Step φ H φ1 H1->RepS X.K S.cl B φ1 H1 st1->RepE X.K S.cl B φ1 H1 ρ σ->RepV X.K S.cl B φ1 H1 v x->RunF S X B φ1 H1 (k v st1) D->P x H1):tE S X ca σ H P:=by
 refine ⟨B,φ,st,ρ,rs,re,?_⟩
 cases e:ev S.call ρ st ca with
 | ok v st' =>
  rw [e] at h
  exact fun x H' φ' s rs' rv=>n x H' v st' φ' s rs' (re.step s) rv (h.on s)
 | exc k st' =>
  rw [e] at h
  exact fun e s' x=>h σ φ H e s' .rfl re x
 | bad=>rw [e] at h; exact h
theorem PS.imp {t t':TS} (h:PS X s1 t') (k:∀ D σ H,t D σ H->t' D σ H):PS X s1 t:=fun pins s σ H D I q=>h pins s σ H D I (k D σ H q)
theorem PSs.imp {t t':TS} (h:PSs X ss t') (k:∀ D σ H,t D σ H->t' D σ H):PSs X ss t:=fun pins s σ H D I q=>h pins s σ H D I (k D σ H q)
theorem RepE.set {K:PySem.W.Frag} {cl:Nat->Addr} (r:RepE K cl B φ H ρ σ) (i:Nat) {v:PV} {x:V} (rv:RepV K cl B φ H v x):RepE K cl B φ H (ρ.set i (some v)) (σ.set i (some x)):=by
 refine ⟨by rw [List.length_set,List.length_set]; exact r.len,fun j w e=>?_⟩
 by_cases h:j=i
 ·subst h
  by_cases hl:j < ρ.length
  ·rw [List.getElem?_set_self hl] at e
   cases e
   exact ⟨x,by rw [List.getElem?_set_self (by rw [<- r.len]; exact hl)],rv⟩
  ·rw [List.getElem?_eq_none (by rw [List.length_set]; omega)] at e
   cases e
 ·rw [List.getElem?_set_ne (Ne.symm h)] at e ⊢
  exact r.get j w e
theorem ze:PSs X [] (tSs S X .nil):=pss_nil.imp fun D σ H ⟨B,φ,st,ρ,rs,re,h⟩=>by
 simp only [exs] at h
 exact h σ H φ .rfl rs re
theorem zb (h1:PS X s1 (tS S X c1)) (h2:PSs X ss (tSs S X cs)):PSs X (s1 :: ss) (tSs S X (.cons c1 cs)) :=
 (zoS h1 h2).imp fun D σ H ⟨B,φ,st,ρ,rs,re,h⟩=>by
  simp only [exs] at h
  refine ⟨B,φ,st,ρ,rs,re,?_⟩
  cases e:ex S.call ρ st c1 with
  | nx ρ1 st1 =>
   rw [e] at h
   exact fun σ' H' φ' s rs' re'=>⟨B,φ',st1,ρ1,rs',re',h.on s⟩
  | rt v st1=>rw [e] at h; exact h
  | bk ρ1 st1=>rw [e] at h; exact h
  | ct ρ1 st1=>rw [e] at h; exact h
  | exc k ρ1 st1=>rw [e] at h; exact h
  | bad=>rw [e] at h; exact h
theorem zeI (he:PE X a (tE S X ca)) (hs:swapsWith a none pos.line X.env=pure false:=by rfl):PS X (.Expr a pos) (tS S X (.expr ca)) :=
 (zpY he hs).imp fun D σ H ⟨B,φ,st,ρ,rs,re,h⟩=>by
  simp only [ex] at h
  exact tE.fl rs re h fun x H1 v st1 φ1 s rs1 re1 rv h1=>h1 σ H1 φ1 .rfl rs1 re1
theorem zu (he:PE X a (tE S X ca)):PS X (.Return (some a) pos) (tS S X (.ret ca)) :=
 (zr3 he).imp fun D σ H ⟨B,φ,st,ρ,rs,re,h⟩=>by
  simp only [ex] at h
  exact tE.fl rs re h fun x H1 v st1 φ1 s rs1 re1 rv h1=>h1 x H1 φ1 .rfl rs1 rv
theorem zp {i:Nat} {x:Str} (hN:X.N.Nodup) (hi:X.N[i]?=some x) (hx:Loc X.env.scope x) (he:PE X a (tE S X ca)) (hs:swapsWith a (some (.Name x px)) pos.line X.env=pure false:=by rfl)
  (hf:X.fn x=true \/ X.env.scope.names.lookup x=some .local:=by first | exact .inl rfl | exact .inr rfl | assumption):PS X (.Assign [.Name x px] a pos) (tS S X (.asg (.n i) ca)) :=
 (zrh hN hi hx he hs hf).imp fun D σ H ⟨B,φ,st,ρ,rs,re,h⟩=>by
  simp only [ex] at h
  exact tE.fl rs re h fun x H1 v st1 φ1 s rs1 re1 rv h1=>h1 _ H1 φ1 .rfl rs1 (re1.set i rv)
theorem flT (r:R PV) (f:Bool->Store->Fl):(r.fl ρ fun x st1=>onF (truV st1 x) fun k=>f k st1)=(truR r).fl ρ f:=by
 cases r with
 | ok v s =>
  simp only [R.fl,truR,R.bind]
  cases truV s v <;> rfl
 | exc c s=>rfl
 | bad=>rfl
theorem tTs.fl {k:Bool->Store->Fl} {P:Bool->Hp->Prop} (rs:RepS X.K S.cl B φ H st) (re:RepE X.K S.cl B φ H ρ σ) (h:RunF S X B φ H ((truR (ev S.call ρ st ca)).fl ρ k) D)
  (n:∀ b H1 st1 φ1,Step φ H φ1 H1->RepS X.K S.cl B φ1 H1 st1->RepE X.K S.cl B φ1 H1 ρ σ->RunF S X B φ1 H1 (k b st1) D->P b H1):tTs S X ca σ H P:=by
 refine ⟨B,φ,st,ρ,rs,re,?_⟩
 cases e:truR (ev S.call ρ st ca) with
 | ok v st' =>
  rw [e] at h
  exact fun x H' φ' s rs' rv=>by
   subst rv
   exact n v H' st' φ' s rs' (re.step s) (h.on s)
 | exc k st' =>
  rw [e] at h
  exact fun e s' x=>h σ φ H e s' .rfl re x
 | bad=>rw [e] at h; exact h
theorem zK (hc:PT X c (tTs S X cc)) (ha:PSs X ss (tSs S X cs)) (hb:PSs X ss' (tSs S X cs')):PS X (.If c ss ss' pos) (tS S X (.ite cc cs cs')) :=
 (zsF hc ha hb).imp fun D σ H ⟨B,φ,st,ρ,rs,re,h⟩=>by
  simp only [ex] at h
  rw [flT _ fun k st1=>cond k (exs S.call ρ st1 cs) (exs S.call ρ st1 cs')] at h
  refine tTs.fl rs re h fun k H1 st1 φ1 s rs1 re1 h1=>?_
  cases k with
  | true=>exact ⟨B,φ1,st1,ρ,rs1,re1,h1⟩
  | false=>exact ⟨B,φ1,st1,ρ,rs1,re1,h1⟩
theorem zn3 {i:Nat} {x:Str} {op:Operator} {bo:BOp} (hN:X.N.Nodup) (hi:X.N[i]?=some x) (hx:Loc X.env.scope x) (he:PE X a (tE S X ca)) (ho:PIp X op (rT2 S X (augV bo)))
  (hf:X.fn x=true \/ X.env.scope.names.lookup x=some .local:=by first | exact .inl rfl | exact .inr rfl | assumption) (hd:(x == ("__debug__":Str))=false:=by decide) (hcd:(x == ("__classdict__":Str))=false:=by decide):PS X (.AugAssign (.Name x px) op a pos) (tS S X (.aug i bo ca)) :=
 (zso hN hi hx he ho hf).imp fun D σ H ⟨B,φ,st,ρ,rs,re,h⟩=>by
  simp only [ex] at h
  cases q:ρ[i]? with
  | none=>rw [q] at h; exact h.elim
  | some w =>
   cases w with
   | none=>rw [q] at h; exact h.elim
   | some w =>
    rw [q] at h
    obtain ⟨y,hy,rw⟩:=re.get i w q
    refine ⟨y,hy,tE.fl rs re h fun z H1 v st1 φ1 s rs1 re1 rv h1=>?_⟩
    cases e:augV bo w v with
    | none=>rw [e] at h1; exact h1.elim
    | some u =>
     rw [e] at h1
     exact ⟨B,φ1,st1,w,v,u,rs1,rw.step s,rv,e,fun z' H' φ' s' rs' rz=>h1 _ H' φ' s' rs' ((re1.step s').set i rz)⟩
end
section
variable (S:Se) (X:Cx)
structure Drw (B:Addr->Prop) (φ0:Ph) (H0:Hp) (xs:List PV) (J:It):Prop where
 stop:∀ φ H,Step φ0 H0 φ H->J.stop xs.length H
 go:∀ (i:Nat) φ H,Step φ0 H0 φ H->i < xs.length->J.go i H
 yld:∀ (i:Nat) φ H st x H' (B':Addr->Prop),(∀ y,B' y->B y \/ H0 y=none)->Step φ0 H0 φ H->RepS X.K S.cl B' φ H st->i < xs.length->J.yld i H x H'->∃ v,xs[i]?=some v/\RepV X.K S.cl B' φ H' v x/\∀ b o,H b=some o->H' b=some o
noncomputable abbrev RD (B:Addr->Prop):Ph->Hp->List PV->It->Prop:=fun φ H=>Drw S X B φ H
noncomputable def tI (c:Cit):TI:=fun σ H R=>∃ B φ st ρ,RepS X.K S.cl B φ H st/\RepE X.K S.cl B φ H ρ σ/\Run S X σ B φ H (RD S X B) (evi S.call ρ st c) R
end
section
variable {S:Se} {X:Cx} {σ:St} {B:Addr->Prop} {φ φ1:Ph} {H H1:Hp} {st:Store} {ρ:IC.Env} {D:Ends} {pos p p2 px:Pos} {a b c o tg l:Expr} {ca cb cc:Ce} {es:List Expr} {ces:Ces} {ss:List Stmt} {cs:Css} {ci:Cit} {ct:Tg}
theorem zab {s1:Stmt}:PS X s1 (tS S X .nope):=fun pins s σ H D I ⟨B,φ,st,ρ,rs,re,h⟩=>by
 simp only [ex] at h
 exact h.elim
theorem PI.imp {t t':TI} (h:PI X tg l t') (k:∀ σ H R,t σ H R->t' σ H R):PI X tg l t:=fun pins s σ H R I q=>h pins s σ H R I (k σ H R q)
theorem zsu {tl:TE} (hl:PE X l tl):PI X tg l (fun σ H R=>tl σ H fun x H1=>∃ a,x=.ref a/\(((∃ xs,SqL X.K H1 a xs)/\R (Itl X.K a) H1) \/ ((∃ xs,SqT X.K H1 a xs)/\R (Itt X.K a) H1))):=by
 intro pins s σ H R I h
 refine thn (hl pins s σ H _ I h) fun v s1 ⟨x,H1,I1,r1,q1⟩=>?_
 obtain ⟨a,e,q1⟩:=q1
 subst e
 cases r1
 rcases q1 with ⟨⟨xs,hq⟩,q⟩ | ⟨⟨xs,hq⟩,q⟩
 ·obtain ⟨its,rv,p,hz⟩:=I1.list hq
  refine wpAny_pyIter_list p.isList ?_
  refine ⟨s1.heap.objs.size,[s1.heap.objs.size],_,_,H1,rfl,I1.kept (t':=s1.toks) fun b o e=>Heap.get?_push_of_some _ e,zm4 a _,⟨_,Heap.get?_push_size _ rfl,rfl,rfl⟩,fun b hb=>?_,q⟩
  have e:b=s1.heap.objs.size:=by simpa using hb
  subst e
  exact I1.fpOk (Nat.le_refl _) (I1.hok.fresh (Nat.le_refl _))
 ·obtain ⟨its,rv,p,hz⟩:=I1.tuple hq
  refine wpAny_pyIter_tuple (show s1.heap.IsTuple a its.toArray from p) ?_
  refine ⟨s1.heap.objs.size,[s1.heap.objs.size],_,_,H1,rfl,I1.kept (t':=s1.toks) fun b o e=>Heap.get?_push_of_some _ e,zmj a _,⟨_,Heap.get?_push_size _ rfl,rfl,rfl⟩,fun b hb=>?_,q⟩
  have e:b=s1.heap.objs.size:=by simpa using hb
  subst e
  exact I1.fpOk (Nat.le_refl _) (I1.hok.fresh (Nat.le_refl _))
theorem zqo {k:Bool} {vs:List PV} {xs:List V} {y:Addr} (rt:RTup X.K B φ H k y xs) (l:RepL X.K S.cl B φ H vs xs):Drw S X B φ H vs (Itt X.K y):=by
 have hl:=l.length
 refine ⟨fun φ' H' s=>⟨xs,(rt.step s).sq,by omega⟩,fun i φ' H' s hi=>⟨xs,xs[i]'(by omega),(rt.step s).sq,by simp [show i < xs.length by omega]⟩,fun i φ' H' st x H2 B' hB s rs hi q=>?_⟩
 obtain ⟨rfl,q⟩:=q
 obtain ⟨v,hv⟩:∃ v,vs[i]?=some v:=⟨vs[i],by simp [hi]⟩
 obtain ⟨x',hx',rv⟩:=l.get i hv
 have:=q xs (rt.step s).sq
 rw [this] at hx'
 cases hx'
 exact ⟨v,hv,(rv.moreB hB).step s,fun _ _ e=>e⟩
theorem zqu {vs:List PV} {xs:List V} {y:Addr} (rt:RLst B φ H y xs) (l:RepL X.K S.cl B φ H vs xs):Drw S X B φ H vs (Itl X.K y):=by
 have hl:=l.length
 refine ⟨fun φ' H' s=>⟨xs,(rt.step s).sq,by omega⟩,fun i φ' H' s hi=>⟨xs,xs[i]'(by omega),(rt.step s).sq,by simp [show i < xs.length by omega]⟩,fun i φ' H' st x H2 B' hB s rs hi q=>?_⟩
 obtain ⟨rfl,q⟩:=q
 obtain ⟨v,hv⟩:∃ v,vs[i]?=some v:=⟨vs[i],by simp [hi]⟩
 obtain ⟨x',hx',rv⟩:=l.get i hv
 have:=q xs (rt.step s).sq
 rw [this] at hx'
 cases hx'
 exact ⟨v,hv,(rv.moreB hB).step s,fun _ _ e=>e⟩
theorem zcL (hl:PE X l (tE S X ca)):PI X tg l (tI S X (.seq ca)) :=
 (zsu hl).imp fun σ H R ⟨B,φ,st,ρ,rs,re,h⟩=>by
  simp only [evi] at h
  refine tE.bind rs re h fun x H1 v st1 φ1 s1 rs1 re1 rv h1=>?_
  cases v with
  | tp k vs =>
   simp only [RepV] at rv
   obtain ⟨y,xs,rfl,rt,l⟩:=rv
   exact ⟨y,rfl,.inr ⟨⟨xs,rt.sq⟩,h1.ok rs1 (zqo rt l)⟩⟩
  | lst vs =>
   simp only [RepV] at rv
   obtain ⟨y,xs,rfl,rt,l⟩:=rv
   exact ⟨y,rfl,.inl ⟨⟨xs,rt.sq⟩,h1.ok rs1 (zqu rt l)⟩⟩
  | _=>exact h1.elim
theorem zcb:∀ (n:Nat) (lo d:Int) (i:Nat),(rangeL n lo d)[i]?=if i < n then some (.int (lo+i * d)) else none
 | 0,lo,d,i=>by simp [rangeL]
 | n+1,lo,d,0=>by simp [rangeL]
 | n+1,lo,d,i+1=>by
  simp only [rangeL,List.getElem?_cons_succ]
  rw [zcb n (lo+d) d i]
  by_cases h:i < n
  ·rw [if_pos h,if_pos (by omega),Int.natCast_succ,Int.add_mul,Int.one_mul,Int.add_assoc,Int.add_comm d]
  ·rw [if_neg h,if_neg (by omega)]
theorem zaT:∀ (n:Nat) (lo d:Int),(rangeL n lo d).length=n
 | 0,lo,d=>rfl
 | n+1,lo,d=>by simp [rangeL,zaT n]
theorem zn5 {lo:Int} {n:Nat}:Drw S X B φ H (rangeL n lo 1) (Itr lo n):=by
 refine ⟨fun φ' H' s=>by rw [zaT]; exact Nat.le_refl _,fun i φ' H' s hi=>by rw [zaT] at hi; exact hi,fun i φ' H' st x H2 B' hB s rs hi q=>?_⟩
 rw [zaT] at hi
 obtain ⟨rfl,rfl⟩:=q
 refine ⟨.int (lo+i),?_,by simp only [RepV],fun _ _ e=>e⟩
 rw [zcb,if_pos hi,Int.mul_one]
theorem zmy {o:Option (List PV)} {st:Store} {Q:It->Hp->Prop} (h:Run S X σ B φ H (RD S X B) (toL o st) Q):∃ xs,o=some xs/\Run S X σ B φ H (RD S X B) (.ok xs st) Q:=by
 cases o with
 | none=>exact h.elim
 | some z=>exact ⟨z,rfl,h⟩
theorem zbq (hg:Gl X "range") (hm:X.mg "range"=none) (ha:PE X a (tE S X ca)) (hs:starEach [a] X.env=[(false,eval a X.env)]:=by rfl):PI X tg (.Call (.Name "range" p) [a] [] pos) (tI S X (.range1 ca)) :=
 (znO hg hm (zd8 ha pa_nil hs) hs).imp fun σ H R ⟨B,φ,st,ρ,rs,re,h⟩=>by
  simp only [evi] at h
  refine tE.bind rs re h fun x H1 v st1 φ1 s1 rs1 re1 rv h1=>?_
  obtain ⟨xs,e,h1⟩:=zmy h1
  cases v with
  | int j =>
   simp only [rng1] at e
   split at e
   ·cases e
    simp only [RepV] at rv
    subst rv
    exact ⟨j,rfl,by omega,by omega,h1.ok rs1 zn5⟩
   ·cases e
  | _=>cases e
theorem zpc {x y:PV} {xs:List PV} (h:rngD x y=some xs):∃ i j,x=.int i/\y=.int j/\i.natAbs < 1000000000/\j.natAbs < 1000000000/\xs=rangeL (i - j).toNat i (-1):=by
 unfold rngD at h
 split at h
 ·split at h
  ·rename_i c
   exact ⟨_,_,rfl,rfl,c.1,c.2,(Option.some.inj h).symm⟩
  ·cases h
 ·cases h
theorem zhh:∀ (xs:List PV) (k i:Nat),(pairsUp k xs)[i]?=(xs[i]?).map fun x=>.tup [.int ((k+i:Nat):Int),x]
 | [],k,i=>by simp [pairsUp]
 | x :: xs,k,0=>by simp [pairsUp]
 | x :: xs,k,i+1=>by
  simp only [pairsUp,List.getElem?_cons_succ]
  rw [zhh xs (k+1) i]
  have:k+1+i=k+(i+1):=by omega
  rw [this]
theorem zhj:∀ (xs:List PV) (k:Nat),(pairsUp k xs).length=xs.length
 | [],k=>rfl
 | x :: xs,k=>by simp [pairsUp,zhj xs]
theorem zor {k:Bool} {vs:List PV} {xs:List V} {y:Addr} (rt:RTup X.K B φ H k y xs) (l:RepL X.K S.cl B φ H vs xs):Drw S X B φ H (pairsUp 0 vs) (Ite X.K y):=by
 have hl:=l.length
 have hp:=zhj vs 0
 refine ⟨fun φ' H' s=>⟨xs,(rt.step s).sq,by omega⟩,fun i φ' H' s hi=>⟨xs,xs[i]'(by omega),(rt.step s).sq,by simp [show i < xs.length by omega]⟩,fun i φ' H' st x H2 B' hB s rs hi q=>?_⟩
 obtain ⟨T,hT,rfl,q⟩:=q
 obtain ⟨v,hv⟩:∃ v,vs[i]?=some v:=⟨vs[i]'(by omega),by simp [show i < vs.length by omega]⟩
 obtain ⟨x',hx',rv⟩:=l.get i hv
 have e:=q xs x' (rt.step s).sq hx'
 subst e
 refine ⟨.tup [.int i,v],?_,.tup_new hT rs ?_,fun b o e=>by rw [zR (zae e hT)]; exact e⟩
 ·rw [zhh,hv]
  simp
 ·simp only [RepL,RepV]
  exact ⟨_,_,rfl,rfl,x',[],rfl,(rv.moreB hB).step s,rfl⟩
theorem zki {es:List Expr} {kk:Nat} {tp:Pos} (hg:Gl X "enumerate") (hm:X.mg "enumerate"=none) (ha:PE X a (tE S X ca)) (hs:starEach [a] X.env=[(false,eval a X.env)]:=by rfl) :
  PI X (.Tuple es kk tp) (.Call (.Name "enumerate" p) [a] [] pos) (tI S X (.enum ca)) :=
 (zoK hg hm (zd8 ha pa_nil hs) hs).imp fun σ H R ⟨B,φ,st,ρ,rs,re,h⟩=>by
  simp only [evi] at h
  refine tE.bind rs re h fun x H1 v st1 φ1 s1 rs1 re1 rv h1=>?_
  cases v with
  | tp k vs =>
   simp only [RepV] at rv
   obtain ⟨y,xs,rfl,rt,l⟩:=rv
   exact ⟨y,rfl,⟨xs,rt.sq⟩,h1.ok rs1 (zor rt l)⟩
  | _=>exact h1.elim
noncomputable def tG (S:Se) (X:Cx) (t:Tg):TG:=fun v σ H Q=>∃ B φ st ρ w ρ',RepS X.K S.cl B φ H st/\RepE X.K S.cl B φ H ρ σ/\RepV X.K S.cl B φ H w v/\bindT t w ρ=some ρ'/\∀ σ',RepE X.K S.cl B φ H ρ' σ'->Q σ' H
theorem PG.imp {t t':TG} (h:PG X tg t') (k:∀ v σ H Q,t v σ H Q->t' v σ H Q):PG X tg t:=fun pins s σ H v u Q I rv q=>h pins s σ H v u Q I rv (k v σ H Q q)
theorem zar {i:Nat} {x:Str} (hN:X.N.Nodup) (hi:X.N[i]?=some x) (hx:Loc X.env.scope x) (hf:X.fn x=true \/ X.env.scope.names.lookup x=some .local:=by first | exact .inl rfl | exact .inr rfl | assumption):PG X (.Name x pos) (tG S X (.n i)) :=
 (zmE hN hi hx hf).imp fun v σ H Q ⟨B,φ,st,ρ,w,ρ',rs,re,rv,e,q⟩=>by
  cases e
  exact q _ (re.set i rv)
noncomputable def gNs (l:List Nat):TGs:=fun vs σ H Q=>vs.length=l.length/\Q ((l.zip vs).foldl (fun σ p=>σ.set p.1 (some p.2)) σ) H
theorem PGs.imp {es:List Expr} {t t':TGs} (h:PGs X es t') (k:∀ v σ H Q,t v σ H Q->t' v σ H Q):PGs X es t:=fun pins s σ H vs us Q I rv q=>h pins s σ H vs us Q I rv (k vs σ H Q q)
theorem ziY:PGs X [] (gNs []):=pgs_nil.imp fun vs σ H Q ⟨h,q⟩=>by
 cases vs with
 | nil=>exact ⟨rfl,q⟩
 | cons _ _=>cases h
theorem zcS {es:List Expr} {l:List Nat} {i:Nat} {x:Str} (hN:X.N.Nodup) (hi:X.N[i]?=some x) (hx:Loc X.env.scope x) (h2:PGs X es (gNs l)) (hf:X.fn x=true \/ X.env.scope.names.lookup x=some .local:=by first | exact .inl rfl | exact .inr rfl | assumption):PGs X (.Name x pos :: es) (gNs (i :: l)) :=
 (zo0 (zmE hN hi hx hf) h2).imp fun vs σ H Q ⟨h,q⟩=>by
  cases vs with
  | nil=>cases h
  | cons v vs=>exact ⟨v,vs,rfl,by simpa using h,q⟩
theorem RepE.sets {K:PySem.W.Frag} {cl:Nat->Addr}:∀ (l:List Nat) {vs:List PV} {xs:List V} {ρ:IC.Env} {σ:St},RepE K cl B φ H ρ σ->RepL K cl B φ H vs xs ->
  RepE K cl B φ H ((l.zip vs).foldl (fun ρ p=>ρ.set p.1 (some p.2)) ρ) ((l.zip xs).foldl (fun σ p=>σ.set p.1 (some p.2)) σ)
 | [],vs,xs,ρ,σ,re,l=>by simpa using re
 | i :: is,[],xs,ρ,σ,re,l=>by
  simp only [RepL] at l
  subst l
  simpa using re
 | i :: is,v :: vs,xs,ρ,σ,re,l=>by
  simp only [RepL] at l
  obtain ⟨y,ys,rfl,r,l⟩:=l
  simp only [List.zip_cons_cons,List.foldl_cons]
  exact RepE.sets is (re.set i r) l
theorem zkX {es:List Expr} {l:List Nat} {k:Nat} (hc:X.calm=true) (h:PGs X es (gNs l)) (hn:(assignEach es X.env).length=l.length:=by rfl) (hst:(assignEach es X.env).findIdx? (·.1)=none:=by rfl):PG X (.Tuple es k pos) (tG S X (.t l)) :=
 (zrV hc h hn hst).imp fun v σ H Q ⟨B,φ,st,ρ,w,ρ',rs,re,rv,e,q⟩=>by
  cases w with
  | tp kk vs =>
   simp only [bindT] at e
   split at e
   ·rename_i c
    cases e
    simp only [RepV] at rv
    obtain ⟨y,xs,rfl,rt,lr⟩:=rv
    have hl:=lr.length
    exact ⟨y,xs,rfl,rt.sq,by omega,by omega,q _ (RepE.sets l re lr)⟩
   ·cases e
  | _=>cases e
theorem zqO {es:List Expr} {l:List Nat} {k:Nat} (he:PE X a (tE S X ca)) (hg:PG X (.Tuple es k p2) (tG S X (.t l))) (hs:swapsWithSole [.Tuple es k p2] a pos.line X.env=pure false:=by rfl) (hw:swappedStores [.Tuple es k p2] a X.env=pure none:=by rfl) :
  PS X (.Assign [.Tuple es k p2] a pos) (tS S X (.asg (.t l) ca)) :=
 (zpB he hg hs hw).imp fun D σ H ⟨B,φ,st,ρ,rs,re,h⟩=>by
  simp only [ex] at h
  refine tE.fl rs re h fun x H1 v st1 φ1 s rs1 re1 rv h1=>?_
  cases e:bindT (.t l) v ρ with
  | none=>rw [e] at h1; exact h1.elim
  | some ρ' =>
   rw [e] at h1
   exact ⟨B,φ1,st1,ρ,v,ρ',rs1,re1,rv,e,fun σ' re'=>h1 σ' H1 φ1 .rfl rs1 re'⟩
theorem tI.fl {k:List PV->Store->Fl} {P:It->Hp->Prop} (rs:RepS X.K S.cl B φ H st) (re:RepE X.K S.cl B φ H ρ σ) (h:RunF S X B φ H ((evi S.call ρ st ci).fl ρ k) D)
  (n:∀ x H1 v st1 φ1,Step φ H φ1 H1->RepS X.K S.cl B φ1 H1 st1->RepE X.K S.cl B φ1 H1 ρ σ->Drw S X B φ1 H1 v x->RunF S X B φ1 H1 (k v st1) D->P x H1):tI S X ci σ H P:=by
 refine ⟨B,φ,st,ρ,rs,re,?_⟩
 cases e:evi S.call ρ st ci with
 | ok v st' =>
  rw [e] at h
  exact fun x H' φ' s rs' rv=>n x H' v st' φ' s rs' (re.step s) rv (h.on s)
 | exc k st' =>
  rw [e] at h
  exact fun e s' x=>h σ φ H e s' .rfl re x
 | bad=>rw [e] at h; exact h
theorem zbO (hp:PassesOwn (model X.prog X.w) X.A X.env X.xe) (hc:X.calm=true) (hi:PI X tg l (tI S X ci)) (hg:PG X tg (tG S X ct)) (hb:PSs X ss (tSs S X cs)) (hs:∀ x,foldedSetIterable l X.env x=pure x:=by intro _; rfl) :
  PS X (.For tg l ss [] pos) (tS S X (.for ct ci cs)) :=
 (zrK hp hc hi hg hb hs).imp fun D σ H ⟨B,φ,st,ρ,rs,re,h⟩=>by
  simp only [ex] at h
  refine tI.fl rs re h fun J H1 xs st1 φ1 s1 rs1 re1 dr h1=>?_
  refine ⟨fun i m σ H=>∃ φ st ρ,i+m=xs.length/\Step φ1 H1 φ H/\RepS X.K S.cl B φ H st/\RepE X.K S.cl B φ H ρ σ/\RunF S X B φ H (forL ct (fun ρ2 st2=>exs S.call ρ2 st2 cs) (xs.drop i) ρ st) D,
   ⟨xs.length,φ1,st1,ρ,by omega,.rfl,rs1,re1,by simpa using h1⟩,?_⟩
  rintro i m σ2 H2 ⟨φ2,st2,ρ2,hm,s2,rs2,re2,h2⟩
  by_cases hi:i < xs.length
  ·refine .inr ⟨dr.go i φ2 H2 s2 hi,fun σ' H'=>∃ φ st ρ,Step φ1 H1 φ H'/\RepS X.K S.cl B φ H' st/\RepE X.K S.cl B φ H' ρ σ'/\RunF S X B φ H' (forL ct (fun ρ2 st2=>exs S.call ρ2 st2 cs) (xs.drop (i+1)) ρ st) D,
    fun σ' H' ⟨φ,st,ρ,s,q⟩=>⟨m - 1,by omega,φ,st,ρ,by omega,s,q⟩,fun x H3 hy=>?_⟩
   obtain ⟨v,hv,rv,kk⟩:=dr.yld i φ2 H2 st2 x H3 B (fun _ z=>.inl z) s2 rs2 hi hy
   have e:xs.drop i=v :: xs.drop (i+1):=by
    rw [List.drop_eq_getElem_cons hi]
    rw [List.getElem?_eq_getElem hi] at hv
    rw [Option.some.inj hv]
   have s3:Step φ2 H2 φ2 H3:=⟨fun b o _ e=>kk b o e,Nat.le_refl _,fun _ _ _ e=>e,fun _ h=>.inl h⟩
   have rs3:RepS X.K S.cl B φ2 H3 st2:=rs2.same kk
   rw [e,forL] at h2
   cases eb:bindT ct v ρ2 with
   | none=>rw [eb] at h2; exact h2.elim
   | some ρ3 =>
    rw [eb] at h2
    refine ⟨B,φ2,st2,ρ2,v,ρ3,rs3,re2.step s3,rv,eb,fun σ' re'=>⟨B,φ2,st2,ρ3,rs3,re',?_⟩⟩
    have h3:=RunF.on s3 h2
    dsimp only at h3
    cases ee:exs S.call ρ3 st2 cs with
    | nx ρ4 st4 =>
     rw [ee] at h3
     exact fun σ4 H4 φ4 s4 rs4 re4=>⟨φ4,st4,ρ4,s2.trans (s3.trans s4),rs4,re4,RunF.on s4 h3⟩
    | ct ρ4 st4 =>
     rw [ee] at h3
     exact fun σ4 H4 φ4 s4 rs4 re4=>⟨φ4,st4,ρ4,s2.trans (s3.trans s4),rs4,re4,RunF.on s4 h3⟩
    | bk ρ4 st4=>rw [ee] at h3; exact h3
    | rt v4 st4=>rw [ee] at h3; exact h3
    | exc k ρ4 st4=>rw [ee] at h3; exact h3
    | bad=>rw [ee] at h3; exact h3
  ·have e:i=xs.length:=by omega
   subst e
   rw [List.drop_length,forL] at h2
   exact .inl ⟨dr.stop φ2 H2 s2,h2 σ2 H2 φ2 .rfl rs2 re2⟩
theorem zov (hp:PassesOwn (model X.prog X.w) X.A X.env X.xe) (hc:PT X c (tTs S X cc)) (hb:PSs X ss (tSs S X cs)):PS X (.While c ss [] pos) (tS S X (.while cc cs)) :=
 (zol hp hc hb).imp fun D σ H ⟨B,φ,st,ρ,rs,re,h⟩=>by
  simp only [ex] at h
  refine ⟨fun m σ H=>∃ φ st ρ,RepS X.K S.cl B φ H st/\RepE X.K S.cl B φ H ρ σ/\RunF S X B φ H (whileL (fun ρ2 st2=>ev S.call ρ2 st2 cc) (fun ρ2 st2=>exs S.call ρ2 st2 cs) m ρ st) D,⟨100000,φ,st,ρ,rs,re,h⟩,?_⟩
  rintro m σ2 H2 ⟨φ2,st2,ρ2,rs2,re2,h2⟩
  cases m with
  | zero=>exact h2.elim
  | succ m =>
   rw [whileL] at h2
   rw [flT _ fun k st1=>cond k (againF (exs S.call ρ2 st1 cs) fun ρ2 st2=>whileL (fun ρ2 st2=>ev S.call ρ2 st2 cc) (fun ρ2 st2=>exs S.call ρ2 st2 cs) m ρ2 st2) (.nx ρ2 st1)] at h2
   refine tTs.fl rs2 re2 h2 fun k H3 st3 φ3 s3 rs3 re3 h3=>?_
   cases k with
   | false=>exact h3 σ2 H3 φ3 .rfl rs3 re3
   | true =>
    refine ⟨fun σ' H'=>∃ φ st ρ,RepS X.K S.cl B φ H' st/\RepE X.K S.cl B φ H' ρ σ'/\RunF S X B φ H' (whileL (fun ρ2 st2=>ev S.call ρ2 st2 cc) (fun ρ2 st2=>exs S.call ρ2 st2 cs) m ρ st) D,
     fun σ' H' q=>⟨m,by omega,q⟩,B,φ3,st3,ρ2,rs3,re3,?_⟩
    simp only [cond_true] at h3
    cases ee:exs S.call ρ2 st3 cs with
    | nx ρ4 st4 =>
     rw [ee] at h3
     exact fun σ4 H4 φ4 s4 rs4 re4=>⟨φ4,st4,ρ4,rs4,re4,RunF.on s4 h3⟩
    | ct ρ4 st4 =>
     rw [ee] at h3
     exact fun σ4 H4 φ4 s4 rs4 re4=>⟨φ4,st4,ρ4,rs4,re4,RunF.on s4 h3⟩
    | bk ρ4 st4=>rw [ee] at h3; exact h3
    | rt v4 st4=>rw [ee] at h3; exact h3
    | exc k ρ4 st4=>rw [ee] at h3; exact h3
    | bad=>rw [ee] at h3; exact h3
end
section
variable (S:Se) (K:PySem.W.Frag)
def Run0 {α β:Type} (B:Addr->Prop) (φ:Ph) (H:Hp) (Rel:Ph->Hp->α->β->Prop) (r:R α) (Q:β->Hp->Prop):Prop :=
 match r with
 | .ok v st'=>∀ x H' φ',Step φ H φ' H'->RepS K S.cl B φ' H' st'->Rel φ' H' v x->Q x H'
 | _=>False
noncomputable def tE0 (c:Ce):TE:=fun σ H Q=>∃ B φ st ρ,RepS K S.cl B φ H st/\RepE K S.cl B φ H ρ σ/\Run0 S K B φ H (fun φ H=>RepV K S.cl B φ H) (ev S.call ρ st c) Q
noncomputable def tT0 (c:Ce):TT:=fun σ H Q=>∃ B φ st ρ,RepS K S.cl B φ H st/\RepE K S.cl B φ H ρ σ/\Run0 S K B φ H RB (truR (ev S.call ρ st c)) Q
noncomputable def tG0 (t:Tg):TG:=fun v σ H Q=>∃ B φ st ρ w ρ',RepS K S.cl B φ H st/\RepE K S.cl B φ H ρ σ/\RepV K S.cl B φ H w v/\bindT t w ρ=some ρ'/\∀ σ',RepE K S.cl B φ H ρ' σ'->Q σ' H
end
section
variable {S:Se} {X:Cx} {K:PySem.W.Frag} {cl:Nat->Addr} {σ:St} {B:Addr->Prop} {φ φ1:Ph} {H H1:Hp} {st:Store} {ρ:IC.Env} {pos p p2 px:Pos} {a b c o tg l elt iter:Expr} {ca cb cc ce:Ce} {ci:Cit} {ct:Tg}
theorem zd1 (hK:X.K=K) (h:PE X a (tE S X ca)):PE X a (tE0 S K ca):=by
 subst hK
 refine h.imp fun σ H Q ⟨B,φ,st,ρ,rs,re,q⟩=>⟨B,φ,st,ρ,rs,re,?_⟩
 cases e:ev S.call ρ st ca with
 | ok v st'=>rw [e] at q; exact q
 | exc k st'=>rw [e] at q; exact q.elim
 | bad=>rw [e] at q; exact q
theorem zcP:PTs X [] (tT0 S K (.cst (.bl true))):=fun pins s σ H Q I ⟨B,φ,st,ρ,rs,re,q⟩=>by
 refine zqw pins s σ H Q I ?_
 simp only [ev,truR,R.bind,truV,onO] at q
 exact q true H φ .rfl rs rfl
theorem zd6 (hK:X.K=K) (h:PG X tg (tG S X ct)):PG X tg (tG0 S K ct):=by
 subst hK
 exact h
theorem RTup.skip {k:Bool} {D y:Addr} {u:HO} {xs:List V} (hD:B D) (r:RTup K B φ H k y xs):RTup K B φ (L2.upd H D u) k y xs:=by
 rcases r with ⟨r,b,n⟩ | r
 ·exact .inl ⟨by rw [zR (show y ≠ D from fun z=>b (z ▸ hD))]; exact r,b,n⟩
 ·exact .inr r
mutual
theorem RepV.skip {D:Addr} {u:HO} (hD:B D):∀ (v:PV) (x:V),RepV K cl B φ H v x->RepV K cl B φ (L2.upd H D u) v x
 | .non,x,h=>by simp only [RepV] at h ⊢; exact h
 | .bl b,x,h=>by simp only [RepV] at h ⊢; exact h
 | .int i,x,h=>by simp only [RepV] at h ⊢; exact h
 | .str y,x,h=>by simp only [RepV] at h ⊢; exact h
 | .tp k vs,x,h=>by
  simp only [RepV] at h ⊢
  obtain ⟨y,xs,e,r,l⟩:=h
  exact ⟨y,xs,e,r.skip hD,RepL.skip hD vs xs l⟩
 | .lst vs,x,h=>by
  simp only [RepV] at h ⊢
  obtain ⟨y,xs,e,⟨r,b,n⟩,l⟩:=h
  exact ⟨y,xs,e,⟨by rw [zR (show y ≠ D from fun z=>b (z ▸ hD))]; exact r,b,n⟩,RepL.skip hD vs xs l⟩
 | .loc n,x,h=>by simp only [RepV] at h ⊢; exact h
 | .exn c,x,h=>by
  simp only [RepV] at h ⊢
  obtain ⟨y,e,r,b,n⟩:=h
  exact ⟨y,e,by rw [zR (show y ≠ D from fun z=>b (z ▸ hD))]; exact r,b,n⟩
 | .scr vs,x,h=>by
  simp only [RepV] at h ⊢
  obtain ⟨y,xs,e,r,l⟩:=h
  refine ⟨y,xs,e,?_,RepL.skip hD vs xs l⟩
  rcases r with ⟨r,b,n⟩ | r
  ·refine .inl ⟨?_,b,n⟩
   have ne:y ≠ D:=fun z=>b (z ▸ hD)
   rcases r with r | ⟨o,r⟩
   ·exact .inl (by rw [zR ne]; exact r)
   ·exact .inr ⟨o,by rw [zR ne]; exact r⟩
  ·exact .inr r
theorem RepL.skip {D:Addr} {u:HO} (hD:B D):∀ (v:List PV) (x:List V),RepL K cl B φ H v x->RepL K cl B φ (L2.upd H D u) v x
 | [],x,h=>by simp only [RepL] at h ⊢; exact h
 | v :: vs,x,h=>by
  simp only [RepL] at h ⊢
  obtain ⟨y,ys,e,r,l⟩:=h
  exact ⟨y,ys,e,RepV.skip hD v y r,RepL.skip hD vs ys l⟩
end
theorem DK.skip {D:Addr} {u:HO} (hD:B D):∀ {kvs:List (PV × PV)} {ks:List (Key × V)},DK K cl B φ H kvs ks->DK K cl B φ (L2.upd H D u) kvs ks
 | [],ks,h=>h
 | (k,v) :: r,ks,h=>by
  obtain ⟨q,x,t,e,m,rv,l⟩:=h
  exact ⟨q,x,t,e,m,rv.skip hD,DK.skip hD l⟩
theorem DT.skip {D:Addr} {u:HO} (hD:B D):∀ {kvs:List (PV × PV)} {ks:List (List Key × V)},DT K cl B φ H kvs ks->DT K cl B φ (L2.upd H D u) kvs ks
 | [],ks,h=>h
 | (k,v) :: r,ks,h=>by
  obtain ⟨q,x,t,e,m,rv,l⟩:=h
  exact ⟨q,x,t,e,m,rv.skip hD,DT.skip hD l⟩
theorem RepS.skip {D:Addr} {u:HO} (hD:B D) (rs:RepS K cl B φ H st):RepS K cl B φ (L2.upd H D u) st:=by
 refine ⟨rs.len,rs.inj,fun n y e=>?_,rs.liv,rs.nb,fun y h=>?_⟩
 ·obtain ⟨o,q,r⟩:=rs.obj n y e
  have ne:y ≠ D:=fun z=>rs.nb y (List.mem_of_getElem? e) (z ▸ hD)
  refine ⟨o,q,?_⟩
  cases o with
  | lst vs =>
   obtain ⟨xs,hx,l⟩:=r
   exact ⟨xs,by rw [zR ne]; exact hx,l.skip hD⟩
  | dct t kvs =>
   cases t with
   | false =>
    obtain ⟨xs,hx,l⟩:=r
    exact ⟨xs,by rw [zR ne]; exact hx,l.skip hD⟩
   | true =>
    obtain ⟨xs,hx,l⟩:=r
    exact ⟨xs,by rw [zR ne]; exact hx,l.skip hD⟩
  | dead=>exact r.elim
 ·by_cases z:y=D
  ·subst z; exact ⟨u,zav⟩
  ·obtain ⟨w,e⟩:=rs.dom y h
   exact ⟨w,by rw [zR z]; exact e⟩
theorem RepE.skip {D:Addr} {u:HO} (hD:B D) (re:RepE K cl B φ H ρ σ):RepE K cl B φ (L2.upd H D u) ρ σ:=⟨re.len,fun i v e=>by
 obtain ⟨x,h,q⟩:=re.get i v e
 exact ⟨x,h,q.skip hD⟩⟩
noncomputable def Bx (B:Addr->Prop) (D:Addr):Addr->Prop:=fun y=>B y \/ y=D
theorem zmB {D:Addr} (hn:H D=none):∀ y,Bx B D y->B y \/ H y=none:=fun y z=>z.elim .inl fun q=>.inr (q ▸ hn)
theorem RepV.more {D:Addr} (hn:H D=none) {v:PV} {x:V} (h:RepV K cl B φ H v x):RepV K cl (Bx B D) φ H v x:=h.moreB (zmB hn)
theorem RepL.more {D:Addr} (hn:H D=none) {v:List PV} {x:List V} (h:RepL K cl B φ H v x):RepL K cl (Bx B D) φ H v x:=h.moreB (zmB hn)
mutual
theorem RepV.less {D:Addr}:∀ (v:PV) (x:V),RepV K cl (Bx B D) φ H v x->RepV K cl B φ H v x
 | .non,x,h=>by simp only [RepV] at h ⊢; exact h
 | .bl b,x,h=>by simp only [RepV] at h ⊢; exact h
 | .int i,x,h=>by simp only [RepV] at h ⊢; exact h
 | .str y,x,h=>by simp only [RepV] at h ⊢; exact h
 | .tp k vs,x,h=>by
  simp only [RepV] at h ⊢
  obtain ⟨y,xs,e,r,l⟩:=h
  refine ⟨y,xs,e,?_,RepL.less vs xs l⟩
  rcases r with ⟨r,b,n⟩ | r
  ·exact .inl ⟨r,fun z=>b (.inl z),n⟩
  ·exact .inr r
 | .lst vs,x,h=>by
  simp only [RepV] at h ⊢
  obtain ⟨y,xs,e,⟨r,b,n⟩,l⟩:=h
  exact ⟨y,xs,e,⟨r,fun z=>b (.inl z),n⟩,RepL.less vs xs l⟩
 | .loc n,x,h=>by simp only [RepV] at h ⊢; exact h
 | .exn c,x,h=>by
  simp only [RepV] at h ⊢
  obtain ⟨y,e,r,b,n⟩:=h
  exact ⟨y,e,r,fun z=>b (.inl z),n⟩
 | .scr vs,x,h=>by
  simp only [RepV] at h ⊢
  obtain ⟨y,xs,e,r,l⟩:=h
  refine ⟨y,xs,e,?_,RepL.less vs xs l⟩
  rcases r with ⟨r,b,n⟩ | r
  ·exact .inl ⟨r,fun z=>b (.inl z),n⟩
  ·exact .inr r
theorem RepL.less {D:Addr}:∀ (v:List PV) (x:List V),RepL K cl (Bx B D) φ H v x->RepL K cl B φ H v x
 | [],x,h=>by simp only [RepL] at h ⊢; exact h
 | v :: vs,x,h=>by
  simp only [RepL] at h ⊢
  obtain ⟨y,ys,e,r,l⟩:=h
  exact ⟨y,ys,e,RepV.less v y r,RepL.less vs ys l⟩
end
theorem DK.more {D:Addr} (hn:H D=none):∀ {kvs:List (PV × PV)} {ks:List (Key × V)},DK K cl B φ H kvs ks->DK K cl (Bx B D) φ H kvs ks
 | [],ks,h=>h
 | (k,v) :: r,ks,h=>by
  obtain ⟨q,x,t,e,m,rv,l⟩:=h
  exact ⟨q,x,t,e,m,rv.more hn,DK.more hn l⟩
theorem DT.more {D:Addr} (hn:H D=none):∀ {kvs:List (PV × PV)} {ks:List (List Key × V)},DT K cl B φ H kvs ks->DT K cl (Bx B D) φ H kvs ks
 | [],ks,h=>h
 | (k,v) :: r,ks,h=>by
  obtain ⟨q,x,t,e,m,rv,l⟩:=h
  exact ⟨q,x,t,e,m,rv.more hn,DT.more hn l⟩
theorem DK.less {D:Addr}:∀ {kvs:List (PV × PV)} {ks:List (Key × V)},DK K cl (Bx B D) φ H kvs ks->DK K cl B φ H kvs ks
 | [],ks,h=>h
 | (k,v) :: r,ks,h=>by
  obtain ⟨q,x,t,e,m,rv,l⟩:=h
  exact ⟨q,x,t,e,m,rv.less,DK.less l⟩
theorem DT.less {D:Addr}:∀ {kvs:List (PV × PV)} {ks:List (List Key × V)},DT K cl (Bx B D) φ H kvs ks->DT K cl B φ H kvs ks
 | [],ks,h=>h
 | (k,v) :: r,ks,h=>by
  obtain ⟨q,x,t,e,m,rv,l⟩:=h
  exact ⟨q,x,t,e,m,rv.less,DT.less l⟩
theorem RepS.less {D:Addr} (rs:RepS K cl (Bx B D) φ H st):RepS K cl B φ H st:=by
 refine ⟨rs.len,rs.inj,fun n y e=>?_,rs.liv,fun y h z=>rs.nb y h (.inl z),fun y h=>rs.dom y (.inl h)⟩
 obtain ⟨o,q,r⟩:=rs.obj n y e
 refine ⟨o,q,?_⟩
 cases o with
 | lst vs=>obtain ⟨xs,hx,l⟩:=r; exact ⟨xs,hx,l.less⟩
 | dct t kvs=>cases t <;> (obtain ⟨xs,hx,l⟩:=r; exact ⟨xs,hx,l.less⟩)
 | dead=>exact r.elim
theorem RepS.more {D:Addr} {u:HO} (hn:H D=none) (rs:RepS K cl B φ H st):RepS K cl (Bx B D) φ (L2.upd H D u) st:=by
 have nD:some D ∉ φ:=fun z=>by
  obtain ⟨w,e⟩:=rs.there z
  rw [hn] at e; cases e
 have s:Step φ H φ (L2.upd H D u):=.upd hn
 have rs':=rs.upd (o:=u) hn
 refine ⟨rs.len,rs.inj,fun n y e=>?_,rs.liv,fun y h z=>z.elim (rs.nb y h) fun q=>nD (q ▸ h),fun y h=>?_⟩
 ·obtain ⟨o,q,r⟩:=rs.obj n y e
  have ne:y ≠ D:=fun z=>nD (z ▸ List.mem_of_getElem? e)
  have hD:Bx B D D:=.inr rfl
  refine ⟨o,q,?_⟩
  cases o with
  | lst vs=>obtain ⟨xs,hx,l⟩:=r; exact ⟨xs,by rw [zR ne]; exact hx,(l.more hn).skip hD⟩
  | dct t kvs =>
   cases t with
   | false=>obtain ⟨xs,hx,l⟩:=r; exact ⟨xs,by rw [zR ne]; exact hx,(l.more hn).skip hD⟩
   | true=>obtain ⟨xs,hx,l⟩:=r; exact ⟨xs,by rw [zR ne]; exact hx,(l.more hn).skip hD⟩
  | dead=>exact r.elim
 ·rcases h with h | h
  ·exact rs'.dom y h
  ·subst h; exact ⟨u,zav⟩
theorem RepE.more {D:Addr} {u:HO} (hn:H D=none) (re:RepE K cl B φ H ρ σ):RepE K cl (Bx B D) φ (L2.upd H D u) ρ σ:=⟨re.len,fun i v e=>by
 obtain ⟨x,h,q⟩:=re.get i v e
 exact ⟨x,h,(q.more hn).skip (.inr rfl)⟩⟩
noncomputable def tgtFree:Tg->List (Option Nat)->Bool
 | .n i,sl=>decide (sl[i]?=some none)
 | .t l,sl=>l.all fun i=>decide (sl[i]?=some none)
theorem zk3:∀ (l:List Nat) (vs:List PV) (ρ:IC.Env) (j:Nat),j ∉ l->((l.zip vs).foldl (fun ρ p=>ρ.set p.1 (some p.2)) ρ)[j]?=ρ[j]?
 | [],vs,ρ,j,h=>by simp
 | i :: is,[],ρ,j,h=>by simp
 | i :: is,v :: vs,ρ,j,h=>by
  simp only [List.zip_cons_cons,List.foldl_cons]
  rw [zk3 is vs _ j fun z=>h (List.mem_cons_of_mem _ z),List.getElem?_set_ne]
  rintro rfl
  exact h List.mem_cons_self
theorem zlp:∀ (l:List Nat) (vs:List PV) (ρ:IC.Env),((l.zip vs).foldl (fun ρ p=>ρ.set p.1 (some p.2)) ρ).length=ρ.length
 | [],vs,ρ=>by simp
 | i :: is,[],ρ=>by simp
 | i :: is,v :: vs,ρ=>by
  simp only [List.zip_cons_cons,List.foldl_cons]
  rw [zlp is vs,List.length_set]
theorem RepE.untgt {sl:List (Option Nat)} {ρ0 ρ1:IC.Env} {v:PV} (hf:tgtFree ct sl=true) (h0:∀ (i:Nat),sl[i]?=some none->ρ0[i]?=some none) (hb:bindT ct v ρ0=some ρ1) (re:RepE K cl B φ H ρ1 σ):RepE K cl B φ H ρ0 σ:=by
 cases ct with
 | n i =>
  cases hb
  simp only [tgtFree,decide_eq_true_eq] at hf
  refine ⟨by rw [<- re.len,List.length_set],fun j w e=>re.get j w ?_⟩
  rw [List.getElem?_set_ne]
  ·exact e
  ·rintro rfl
   rw [h0 _ hf] at e; cases e
 | t l =>
  cases v with
  | tp k vs =>
   simp only [bindT] at hb
   split at hb
   ·cases hb
    simp only [tgtFree,List.all_eq_true,decide_eq_true_eq] at hf
    refine ⟨by rw [<- re.len,zlp],fun j w e=>re.get j w ?_⟩
    rw [zk3]
    ·exact e
    ·intro z
     rw [h0 _ (hf j z)] at e; cases e
   ·cases hb
  | _=>cases hb
theorem RepE.inn {sl:List (Option Nat)} (re:RepE K cl B φ H ρ σ):RepE K cl B φ H (sl.map fun o=>o.bind fun j=>(ρ[j]?).join) (L2.inn sl σ):=by
 unfold L2.inn
 refine ⟨by simp,fun i v e=>?_⟩
 rw [List.getElem?_map] at e ⊢
 cases q:sl[i]? with
 | none=>rw [q] at e; cases e
 | some o =>
  rw [q] at e
  cases o with
  | none=>cases e
  | some j =>
   simp only [Option.map_some,Option.bind_some,Option.some.injEq] at e ⊢
   cases q2:ρ[j]? with
   | none=>rw [q2] at e; cases e
   | some w =>
    rw [q2] at e
    simp only [Option.join_some] at e
    subst e
    obtain ⟨x,hx,rv⟩:=re.get j v q2
    exact ⟨x,by rw [hx]; rfl,rv⟩
theorem million1:1000000 < sizeLine:=by rw [sizeLine_eq]; decide
theorem zrr {α:Type} {o:Option Bool} {k:Bool->R α} {z:α} {s:Store} (h:onO o k=.ok z s):∃ b,o=some b/\k b=.ok z s:=by
 cases o with
 | none=>cases h
 | some b=>exact ⟨b,rfl,h⟩
theorem zd7 {α β:Type} {r:R α} {k:α->Store->R β} {z:β} {s:Store} (h:r.bind k=.ok z s):∃ a s1,r=.ok a s1/\k a s1=.ok z s:=by
 cases r with
 | ok a s1=>exact ⟨a,s1,rfl,h⟩
 | exc c s=>cases h
 | bad=>cases h
theorem zn4 {sl:List (Option Nat)} (hf:tgtFree ct sl=true) {H:Hp} {Q:VK} (h:tE S X (.comp sl ct ci cc ce) σ H Q):tComp sl (tI S X ci) (tG0 S X.K ct) (tT0 S X.K cc) (tE0 S X.K ce) σ H Q:=by
  obtain ⟨B,φ,st,ρ,rs,re,h⟩:=h
  simp only [ev] at h
  refine ⟨B,φ,st,ρ,rs,re,(Run.bind h).mono fun J H1 ⟨xs,st1,φ1,s1,rs1,dr,h1⟩=>fun D hD=>?_⟩
  generalize hone:(fun (x:PV) (st2:Store)=>match bindT ct x (sl.map fun o=>o.bind fun j=>(ρ[j]?).join) with
   | none=>(R.bad:R (Option PV))
   | some ρ1=>(ev S.call ρ1 st2 cc).bind fun b st3=>onO (truV st3 b) fun k=>cond k ((ev S.call ρ1 st3 ce).bind fun y st4=>.ok (some y) st4) (.ok none st3))=one at h1
  cases e:compL one xs st1 with
  | exc k s=>rw [e] at h1; exact h1.elim
  | bad=>rw [e] at h1; exact h1.elim
  | ok zs st5 =>
   rw [e] at h1
   simp only [lstR] at h1
   split at h1
   case isFalse=>exact h1.elim
   rename_i hz
   have nB:¬ B D:=rs1.nB hD
   have nD:some D ∉ φ1:=fun z=>by
    obtain ⟨w,e⟩:=rs1.there z
    rw [hD] at e; cases e
   refine ⟨fun i m σc ys H2=>∃ φ2 st2 vs rest,i+m=xs.length/\Step φ1 H1 φ2 H2/\H2 D=some (.lst ys)/\some D ∉ φ2/\RepS X.K S.cl (Bx B D) φ2 H2 st2/\RepE X.K S.cl (Bx B D) φ2 H2 (sl.map fun o=>o.bind fun j=>(ρ[j]?).join) σc /\
     RepL X.K S.cl (Bx B D) φ2 H2 vs ys/\compL one (xs.drop i) st2=.ok rest st5/\vs++rest=zs,
    ⟨xs.length,φ1,st1,[],zs,by omega,.upd hD,zav,nD,rs1.more hD,(RepE.inn (re.step s1)).more hD,by simp only [RepL],by simpa using e,rfl⟩,?_⟩
   rintro i m σc ys H2 ⟨φ2,st2,vs,rest,hm,s2,hD2,nD2,rs2,re2,l2,ec,ez⟩
   refine ⟨hD2,?_⟩
   by_cases hi:i < xs.length
   ·have hl2:=l2.length
    have hml:=million1
    have hzl:=congrArg List.length ez
    rw [List.length_append] at hzl
    refine .inr ⟨dr.go i φ2 H2 s2 hi,by omega,fun σ' ys' H'=>∃ φ2 st2 vs rest,Step φ1 H1 φ2 H'/\H' D=some (.lst ys')/\some D ∉ φ2/\RepS X.K S.cl (Bx B D) φ2 H' st2/\RepE X.K S.cl (Bx B D) φ2 H' (sl.map fun o=>o.bind fun j=>(ρ[j]?).join) σ' /\
     RepL X.K S.cl (Bx B D) φ2 H' vs ys'/\compL one (xs.drop (i+1)) st2=.ok rest st5/\vs++rest=zs,fun σ' ys' H' ⟨φ2,st2,vs,rest,q⟩=>⟨m - 1,by omega,φ2,st2,vs,rest,by omega,q⟩,fun x H3 hy=>?_⟩
    obtain ⟨v,hv,rv,kk⟩:=dr.yld i φ2 H2 st2 x H3 (Bx B D) (fun y z=>z.elim .inl fun q=>.inr (q ▸ hD)) s2 rs2 hi hy
    have s3:Step φ2 H2 φ2 H3:=⟨fun b o _ e=>kk b o e,Nat.le_refl _,fun _ _ _ e=>e,fun _ h=>.inl h⟩
    have rs3:RepS X.K S.cl (Bx B D) φ2 H3 st2:=rs2.same kk
    have ed:xs.drop i=v :: xs.drop (i+1):=by
     rw [List.drop_eq_getElem_cons hi]
     rw [List.getElem?_eq_getElem hi] at hv
     rw [Option.some.inj hv]
    rw [ed,compL] at ec
    obtain ⟨o,st3,e1,ec⟩:=zd7 ec
    obtain ⟨rest',st4,e2,ec⟩:=zd7 ec
    rw [<- hone] at e1
    dsimp only at e1
    cases eb:bindT ct v (sl.map fun o=>o.bind fun j=>(ρ[j]?).join) with
    | none=>rw [eb] at e1; cases e1
    | some ρ1 =>
     rw [eb] at e1
     dsimp only at e1
     obtain ⟨bv,st6,e3,e1⟩:=zd7 e1
     obtain ⟨k,e4,e1⟩:=zrr e1
     have er:st4=st5/\consO o rest'=rest:=by
      injection ec with q1 q2
      exact ⟨q2,q1⟩
     obtain ⟨rfl,rfl⟩:=er
     refine ⟨Bx B D,φ2,st2,_,v,ρ1,rs3,re2.step s3,rv,eb,fun σ4 re4=>⟨Bx B D,φ2,st2,ρ1,rs3,re4,?_⟩⟩
     have et:truR (ev S.call ρ1 st2 cc)=.ok k st6:=by
      rw [e3]
      simp only [truR,R.bind,e4,onO]
     rw [et]
     rintro k' H5 φ5 s5 rs5 rfl
     have nD5:some D ∉ φ5:=fun z=>by
      rcases s5.new D z with q | q
      ·exact nD2 q
      ·rw [kk D _ hD2] at q; cases q
     have hD5:H5 D=some (.lst ys):=s5.keep D _ nD2 (kk D _ hD2)
     have s25:Step φ1 H1 φ5 H5:=s2.trans (s3.trans s5)
     have l5:=(l2.step s3).step s5
     have re5:RepE X.K S.cl (Bx B D) φ5 H5 ρ1 σ4:=re4.step s5
     have h0:∀ (i:Nat),sl[i]?=some none->(sl.map fun o=>o.bind fun j=>(ρ[j]?).join)[i]?=some none:=fun i q=>by
      rw [List.getElem?_map,q]; rfl
     cases k with
     | false =>
      simp only [cond_false] at e1
      cases e1
      exact ⟨φ5,_,vs,rest',s25,hD5,nD5,rs5,RepE.untgt hf h0 eb re5,l5,e2,ez⟩
     | true =>
      simp only [cond_true] at e1
      obtain ⟨y,st7,e5,e1⟩:=zd7 e1
      cases e1
      refine ⟨Bx B D,φ5,st6,ρ1,rs5,re5,?_⟩
      rw [e5]
      intro y' H6 φ6 s6 rs6 ry
      have nD6:some D ∉ φ6:=fun z=>by
       rcases s6.new D z with q | q
       ·exact nD5 q
       ·rw [hD5] at q; cases q
      have hD6:H6 D=some (.lst ys):=s6.keep D _ nD5 hD5
      have hBD:Bx B D D:=.inr rfl
      refine ⟨hD6,φ6,_,vs++[y],rest',?_,zav,nD6,rs6.skip hBD,(RepE.untgt hf h0 eb (re5.step s6)).skip hBD,((l5.step s6).append (by simp only [RepL]; exact ⟨y',[],rfl,ry,rfl⟩)).skip hBD,e2,?_⟩
      ·have s16:=s25.trans s6
       exact ⟨fun b o n q=>by rw [zR (zae q hD)]; exact s16.keep b o n q,s16.len,s16.pre,s16.new⟩
      ·simpa [consO] using ez
   ·have ei:i=xs.length:=by omega
    subst ei
    rw [List.drop_length,compL] at ec
    cases ec
    refine .inl ⟨dr.stop φ2 H2 s2,h1 (.ref D) H2 φ2 s2 rs2.less ?_⟩
    simp only [RepV]
    exact ⟨D,ys,rfl,⟨hD2,nB,nD2⟩,by rw [<- ez,List.append_nil]; exact l2.less⟩
theorem zdJ {sc:Scope} {NC:List Str} {sl:List (Option Nat)} {ifs:List Expr} (hc:X.calm=true) (O:CompOk X sc NC sl) (hf:tgtFree ct sl=true) (hi:PI X tg iter (tI S X ci)) (hg:∀ j,PG (cxC X sc NC j) tg (tG0 S X.K ct))
  (ht:∀ j,PTs (cxC X sc NC j) ifs (tT0 S X.K cc)) (he:∀ j,PE (cxC X sc NC j) elt (tE0 S X.K ce)) (hs:∀ x,foldedSetIterable iter X.env x=pure x:=by intro _; rfl) :
  PE X (.ListComp elt [⟨tg,iter,ifs,0⟩] sc pos) (tE S X (.comp sl ct ci cc ce)) :=
 (zp4 hc O hi hg ht he hs).imp fun σ H Q h=>zn4 hf h
end
noncomputable def spI (K:PySem.W.Frag) (cl:Nat->Addr) (call:Nat->List PV->Store->R PV) (f:Nat):Sp:=fun vs H Q E=>∃ B φ st args,RepS K cl B φ H st/\RepL K cl B φ H args vs/\match call f args st with
 | .ok v st'=>∀ x H' φ',Step φ H φ' H'->RepS K cl B φ' H' st'->RepV K cl B φ' H' v x->Q x H'
 | .exc c st'=>∀ H' φ',Step φ H φ' H'->RepS K cl B φ' H' st'->E (.ref (cl c)) none H'
 | .bad=>False
section
variable {S:Se} {X:Cx} {k:Nat} {f:Addr} {fd:FuncData} {ps ks:List Str} {sp:Sp} {dvs:List V} {ds:List Value} {x:Str} {p pos:Pos} {e:Expr} {es:List Expr} {t tk:TA} {CX:CXT} {σ:St} {H:Hp}
theorem zmz {pins:List (Addr × Obj)} {s:Shared} {Q:VK} {us:List Value} {vs:List V} {E:XK} (F:FnOk X.prog X.w X.K X.mg X.base CX k f fd ps sp) (hr:Room k X.A) (hb:Binds X.K fd ps ds) (hd:Vals dvs ds)
  (I:Inv X pins σ H s) (r:Vals vs us) (h:sp (vs++dvs) H Q E) (hx:∀ e s',CX X.stack H s E e s'->X.xe e s'):wpAny (model X.prog X.w) X.A (call (.ref f) us) (EP X pins σ Q) X.xe s:=by
 have r2:Vals (vs++dvs) (us++ds):=r.append hd
 have hl:(us++ds).length=ps.length:=by rw [<- r2.length]; exact F.len _ _ _ _ h
 refine wpAny_call (codeAny_mono (F.run X.A X.stack s H ⟨us,[]⟩ (us++ds) (vs++dvs) Q E hr I.env0 (hb s us I.kIn hl) r2 h) fun r s' hq=>?_)
 cases r with
 | error e=>exact hx e s' hq
 | ok fl =>
  cases fl with
  | ret u=>exact I.after hq
  | next=>exact False.elim hq
  | brk=>exact False.elim hq
  | cont=>exact False.elim hq
noncomputable def tCallS (CX:CXT) (X:Cx) (sp:Sp) (dvs:List V) (t:TA):TE:=fun σ H Q=>t σ H fun vs H1=>∃ E:XK,sp (vs++dvs) H1 Q E/\∀ pins s e s',Inv X pins σ H1 s->CX X.stack H1 s E e s'->X.xe e s'
theorem zos (F:FnOk X.prog X.w X.K X.mg X.base CX k f fd ps sp) (hr:Room k X.A) (hg:Gl X x) (hm:X.mg x=some (.ref f)) (hk:PySem.W.keepIn X.K (.ref f)=true) (hb:Binds X.K fd ps ds) (hd:Vals dvs ds)
  (ha:PA X (e :: es) t) (hdb:(x == ("__debug__":Str))=false:=by decide) (he:starEach (e :: es) X.env=(false,eval e X.env) :: starEach es X.env:=by rfl) (hpl:(backTo pos (starEach es X.env)).any (·.1)=false:=by rfl) :
  PE X (.Call (.Name x p) (e :: es) [] pos) (tCallS CX X sp dvs t):=by
 intro pins s σ H Q I h
 refine wpAny_Call_Name_kw (ziG I hg hm ?_ hdb)
 refine PySem.W.callWith_K (h₀:=X.base) I.ok.mod.kin hk (thn (ha pos pins s σ H _ I h) fun us s1 ⟨vs,H1,I1,r,E,q,hx⟩=>⟨I1.kIn,?_⟩) he hpl
 exact zmz F hr hb hd I1 r q fun e s' c=>hx pins s1 e s' I1 c
theorem zmV (F:FnOk X.prog X.w X.K X.mg X.base CX k f fd ps sp) (hr:Room k X.A) (hg:Gl X x) (hm:X.mg x=some (.ref f)) (hk:PySem.W.keepIn X.K (.ref f)=true) (hb:Binds X.K fd ps ds) (hd:Vals dvs ds)
  (hdb:(x == ("__debug__":Str))=false:=by decide):PE X (.Call (.Name x p) [] [] pos) (tCallS CX X sp dvs tNil):=by
 intro pins s σ H Q I h
 obtain ⟨E,q,hx⟩:=h
 refine wpAny_Call_Name_kw (ziG I hg hm ?_ hdb)
 exact PySem.W.callWith_K0 I.kIn hk (zmz F hr hb hd I .nil q fun e s' c=>hx pins s e s' I c)
variable {B:Addr->Prop} {φ:Ph} {st:Store} {ces:Ces} {fi:Nat}
theorem zhq {vs:List PV} {xs:List V} {Q:VK} (rs:RepS X.K S.cl B φ H st) (l:RepL X.K S.cl B φ H vs xs) (h:Run S X σ B φ H (RV S X B) (S.call fi vs st) Q) :
  ∃ E:XK,spI X.K S.cl S.call fi xs H Q E/\∀ pins s e s',Inv X pins σ H s->CX1 X.prog X.w X.stack H s E e s'->X.xe e s':=by
 cases c:S.call fi vs st with
 | ok v st' =>
  rw [c] at h
  refine ⟨fun _ _ _=>False,⟨B,φ,st,vs,rs,l,by rw [c]; exact h⟩,fun pins s e s' _ z=>?_⟩
  obtain ⟨_,_,_,_,_,_,_,_,_,_,_,_,_,_,z⟩:=z
  exact z.elim
 | exc k st' =>
  rw [c] at h
  refine ⟨fun cls _ H'=>cls=.ref (S.cl k)/\∃ φ',Step φ H φ' H'/\RepS X.K S.cl B φ' H' st',⟨B,φ,st,vs,rs,l,by rw [c]; exact fun H' φ' s r=>⟨rfl,φ',s,r⟩⟩,fun pins s e s' I z=>h e s' (.inl ⟨pins,H,s,φ,I,.rfl,z⟩)⟩
 | bad=>rw [c] at h; exact h.elim
theorem zg (F:FnOk X.prog X.w X.K X.mg X.base (CX1 X.prog X.w) k f fd ps (spI X.K S.cl S.call fi)) (hr:Room k X.A) (hg:Gl X x) (hm:X.mg x=some (.ref f)) (hk:PySem.W.keepIn X.K (.ref f)=true) (hb:Binds X.K fd ps [])
  (ha:PA X (e :: es) (tAs S X ces)) (hdb:(x == ("__debug__":Str))=false:=by decide) (he:starEach (e :: es) X.env=(false,eval e X.env) :: starEach es X.env:=by rfl) (hpl:(backTo pos (starEach es X.env)).any (·.1)=false:=by rfl) :
  PE X (.Call (.Name x p) (e :: es) [] pos) (tE S X (.call fi ces)) :=
 (zos F hr hg hm hk hb .nil ha hdb he hpl).imp fun σ H Q ⟨B,φ,st,ρ,rs,re,h⟩=>by
  simp only [ev] at h
  refine tAs.bind rs re h fun xs H1 vs st1 φ1 s1 rs1 re1 rv h1=>?_
  rw [List.append_nil]
  exact zhq rs1 rv h1
theorem ziq (F:FnOk X.prog X.w X.K X.mg X.base (CX1 X.prog X.w) k f fd ps (spI X.K S.cl S.call fi)) (hr:Room k X.A) (hg:Gl X x) (hm:X.mg x=some (.ref f)) (hk:PySem.W.keepIn X.K (.ref f)=true) (hb:Binds X.K fd ps [])
  (hdb:(x == ("__debug__":Str))=false:=by decide):PE X (.Call (.Name x p) [] [] pos) (tE S X (.call fi .nil)) :=
 (zmV F hr hg hm hk hb .nil hdb).imp fun σ H Q ⟨B,φ,st,ρ,rs,re,h⟩=>by
  simp only [ev,evs,R.bind] at h
  exact zhq rs (by simp only [RepL]; rfl) h
end
section
variable {P:Program} {w:World} {K:PySem.W.Frag} {mg:Str->Option Value} {base:Heap} {cl:Nat->Addr} {T:Nat->Option Fn} {fi:Nat} {fn:IC.Fn} {x qual:Str} {stm:Stmt} {f:Addr} {fd:FuncData} {N ps:List Str} {k:Nat}
theorem CX1.mono {outer:List PySem.Env} {H:Hp} {s:Shared} {E E':XK} {e:Value} {s':Shared} (h:CX1 P w outer H s E e s') (n:∀ cls H',E cls none H'->E' cls none H'):CX1 P w outer H s E' e s':=by
 obtain ⟨a,cls,a0,H',Bh,r1,r2,r3,r4,r5,r6,r7,r8,r9,r10⟩:=h
 exact ⟨a,cls,a0,H',Bh,r1,r2,r3,r4,r5,r6,r7,r8,r9,n _ _ r10⟩
theorem RepE.start {B:Addr->Prop} {φ:Ph} {H:Hp} {args:List PV} {vs:List V} (l:RepL K cl B φ H args vs) (n:Nat) (hn:N.length - vs.length=n):RepE K cl B φ H (args.map some++List.replicate n none) (L2.start N vs):=by
 have hl:=l.length
 unfold L2.start
 refine ⟨by simp [hl,hn],fun i v e=>?_⟩
 by_cases hi:i < args.length
 ·rw [List.getElem?_append_left (by simpa using hi),List.getElem?_map] at e
  cases q:args[i]? with
  | none=>rw [q] at e; cases e
  | some v' =>
   rw [q] at e
   cases e
   obtain ⟨y,hy,rv⟩:=l.get i q
   exact ⟨y,by rw [List.getElem?_append_left (by simp; omega),List.getElem?_map,hy]; rfl,rv⟩
 ·rw [List.getElem?_append_right (by simp; omega),List.getElem?_replicate] at e
  split at e <;> cases e
theorem leave {N:List Str} {scope:Scope} {cd:Value} {A:Around} {outer:List PySem.Env} {s₀:Shared} {H₀:Hp} {E:XK} {call:Nat->List PV->Store->R PV} {σ:St} {B:Addr->Prop} {φ:Ph} {H:Hp} {c:Nat} {st':Store} {e:Value} {s':Shared}
  (h:ExcAt ⟨cl,call,true⟩ (cxOf (CX1 P w) P w K mg base N qual scope f cd A outer s₀ H₀ E) σ B φ H c st' e s') (n:∀ φ' H',Step φ H φ' H'->RepS K cl B φ' H' st'->E (.ref (cl c)) none H') :
  (cxOf (CX1 P w) P w K mg base N qual scope f cd A outer s₀ H₀ E).xe e s':=by
 rcases h with ⟨pins,H1,s,φ1,I,s1,q⟩ | ⟨_,pins,H1,s,φ1,h',e0,vs,I,s1,rs,mk,rfl,rfl⟩
 ·exact pass1 pins σ H1 s e s' I (q.mono fun cls H' ⟨e1,φ',s2,r⟩=>by subst e1; exact n φ' H' (s1.trans s2) r)
 ·exact zni I mk (n φ1 H1 s1 rs)
theorem zpH (hT:T fi=some fn):∀ (args:List PV) (st:Store),callT T (k+1) fi args st ≠ .bad->args.length=fn.np:=fun args st hne=>by
 apply Classical.byContradiction
 intro c
 apply hne
 rw [callT,hT]
 exact if_neg c
theorem zpq (hT:T fi=some fn) (hnp:ps.length=fn.np) {vs:List V} {H:Hp} {Q:VK} {E:XK} (h:spI K cl (callT T (k+1)) fi vs H Q E):vs.length=ps.length:=by
 obtain ⟨B,φ,st,args,rs,l,h⟩:=h
 rw [hnp,<- l.length]
 refine zpH (k:=k) hT args st fun z=>?_
 rw [z] at h
 exact h
theorem zmC (hT:T fi=some fn) (hns:N.length=fn.ns) {scope:Scope} {cdv:Value} {A:Around} {outer:List PySem.Env} {s:Shared} {vs:List V} {H:Hp} {Q:VK} {E:XK} (h:spI K cl (callT T (k+1)) fi vs H Q E) :
  tSs ⟨cl,callT T k,true⟩ (cxOf (CX1 P w) P w K mg base N qual scope f cdv A outer s H E) fn.body { nx:=fun _ H'=>Q .non H',rt:=Q } (L2.start N vs) H:=by
 obtain ⟨B,φ,st,args,rs,l,h⟩:=h
 have hl:args.length=fn.np:=zpH (k:=k) hT args st fun z=>by rw [z] at h; exact h
 have hlen:=l.length
 rw [callT,hT] at h
 dsimp only at h
 rw [if_pos hl] at h
 by_cases hp:fn.pure=true
 ·rw [if_pos hp] at h
  by_cases hz:noLocs args=true
  ·rw [if_pos hz] at h
   have rs0:RepS K cl (fun a=>B a \/ some a ∈ φ) [] H []:=⟨rfl,fun m n a e=>by simp at e,fun n a e=>by simp at e,fun n o e=>by simp at e,fun a z=>by simp at z,fun a z=>z.elim (rs.dom a) rs.there⟩
   have back:∀ {φ':Ph} {H':Hp},Step [] H φ' H'->Step φ H φ H'/\RepS K cl B φ H' st:=fun {φ' H'} s' =>
    have kk:∀ b o,H b=some o->H' b=some o:=fun b o e=>s'.keep b o (by simp) e
    ⟨⟨fun b o _ e=>kk b o e,Nat.le_refl _,fun _ _ _ e=>e,fun _ h=>.inl h⟩,rs.same kk⟩
   refine ⟨_,[],[],_,rs0,RepE.start (RepL.inn rs.nb args vs hz l) (fn.ns - fn.np) (by omega),?_⟩
   show RunF _ _ _ _ _ (exs (callT T k) (args.map some++List.replicate (fn.ns - fn.np) none) [] fn.body) _
   cases e:exs (callT T k) (args.map some++List.replicate (fn.ns - fn.np) none) [] fn.body with
   | nx ρ' st' =>
    rw [e] at h
    intro σ' H' φ' s' rs' re'
    obtain ⟨s2,r2⟩:=back s'
    exact h .non H' φ s2 r2 (by simp only [RepV])
   | rt v st' =>
    rw [e] at h
    dsimp only at h
    by_cases hv:noLoc v=true
    ·rw [if_pos hv] at h
     intro y H' φ' s' rs' rv
     obtain ⟨s2,r2⟩:=back s'
     exact h y H' φ s2 r2 (RepV.out v y hv rv)
    ·rw [if_neg hv] at h
     exact h.elim
   | exc c ρ' st' =>
    rw [e] at h
    intro σ' φ1 H1 ev s' s1 _ ex
    refine leave ex fun φ2 H2 s2 _=>?_
    obtain ⟨s3,r3⟩:=back (s1.trans s2)
    exact h H2 φ s3 r3
   | bk ρ' st'=>rw [e] at h; exact h.elim
   | ct ρ' st'=>rw [e] at h; exact h.elim
   | bad=>rw [e] at h; exact h.elim
  ·rw [if_neg hz] at h
   exact h.elim
 ·rw [if_neg hp] at h
  refine ⟨B,φ,st,_,rs,RepE.start l (fn.ns - fn.np) (by omega),?_⟩
  show RunF _ _ _ _ _ (exs (callT T k) (args.map some++List.replicate (fn.ns - fn.np) none) st fn.body) _
  cases e:exs (callT T k) (args.map some++List.replicate (fn.ns - fn.np) none) st fn.body with
  | nx ρ' st' =>
   rw [e] at h
   intro σ' H' φ' s' rs' re'
   exact h .non H' φ' s' rs' (by simp only [RepV])
  | rt v st' =>
   rw [e] at h
   intro y H' φ' s' rs' rv
   exact h y H' φ' s' rs' rv
  | exc c ρ' st' =>
   rw [e] at h
   intro σ' φ1 H1 ev s' s1 _ ex
   exact leave ex fun φ2 H2 s2 r2=>h H2 φ2 (s1.trans s2) r2
  | bk ρ' st'=>rw [e] at h; exact h.elim
  | ct ρ' st'=>rw [e] at h; exact h.elim
  | bad=>rw [e] at h; exact h.elim
theorem zap (hT:T fi=some fn) (F:Fun K x qual stm f fd) (Sc:FnScope N ps (defScope stm)) (hnp:ps.length=fn.np) (hns:N.length=fn.ns)
  (body:∀ (cdv:Value) (A:Around) (outer:List PySem.Env) (s:Shared) (H:Hp) (E:XK),Room k (A.deeper (envOfC qual (defScope stm) s.heap.objs.size f cdv)) ->
   PSs (cxOf (CX1 P w) P w K mg base N qual (defScope stm) f cdv A outer s H E) (defBody stm) (tSs ⟨cl,callT T k,true⟩ (cxOf (CX1 P w) P w K mg base N qual (defScope stm) f cdv A outer s H E) fn.body)) :
  FnOk P w K mg base (CX1 P w) (k+1) f fd ps (spI K cl (callT T (k+1)) fi) :=
 F.okX Sc (fun vs H Q E h=>zpq hT hnp h) fun cdv A outer s H vs Q E hr h=>⟨_,body cdv A outer s H E hr,zmC hT hns h⟩
theorem zpT (hps:ps=ps):FnOk P w K mg base (CX1 P w) 0 f fd ps (spI K cl (callT T 0) fi) :=
 ⟨fun vs H Q E ⟨_,_,_,_,_,_,h⟩=>by rw [callT] at h; exact h.elim,fun A outer s H args us vs Q E _ _ _ _ ⟨_,_,_,_,_,_,h⟩=>by rw [callT] at h; exact h.elim⟩
end
noncomputable def tyN:Ty->String
 | .int=>"int" | .bool=>"bool" | .str=>"str" | .tuple=>"tuple" | .list=>"list" | _=>""
structure KitT (K:PySem.W.Frag) (t:Ty):Prop where
 n:PySem.W.kitOne K (.type "NoneType") (.type (tyN t))=some (isTy .non t)
 b:PySem.W.kitOne K (.type "bool") (.type (tyN t))=some (isTy (.bl true) t)
 i:PySem.W.kitOne K (.type "int") (.type (tyN t))=some (isTy (.int 0) t)
 s:PySem.W.kitOne K (.type "str") (.type (tyN t))=some (isTy (.str Str.empty) t)
 p:PySem.W.kitOne K (.type "tuple") (.type (tyN t))=some (isTy (.tp true []) t)
 l:PySem.W.kitOne K (.type "list") (.type (tyN t))=some (isTy (.lst []) t)
section
variable {S:Se} {X:Cx} {σ:St} {B:Addr->Prop} {φ:Ph} {H:Hp} {st:Store} {p pos p2 px:Pos} {a b c d o:Expr} {ca cb cc:Ce} {t:Ty}
noncomputable def rIsi (S:Se) (X:Cx) (t:Ty):List V->Hp->VK->Prop:=fun xs H Q=>∃ B φ st v x z,xs=[x,.ty (tyN t)]/\RepS X.K S.cl B φ H st/\RepV X.K S.cl B φ H v x/\isiV v [t]=some z/\isBl t=true /\
 ∀ z' H' φ',Step φ H φ' H'->RepS X.K S.cl B φ' H' st->RepV X.K S.cl B φ' H' z z'->Q z' H'
theorem zru (Z:KitT X.K t):CallR X (.builtin "isinstance") (rIsi S X t):=by
 rintro pins s σ H xs us Q I r ⟨B,φ,st,v,x,z,rfl,rs,rv,e,hb,q⟩
 obtain ⟨u,c',rfl,ru,rc⟩:=vals2 r
 cases (show c'=Value.type (tyN t) from rc)
 have fin:∀ (k:Bool) (tk:Nat),z=.bl k->EP X pins σ Q (.bool k) { s with toks:=tk }:=fun k tk ez=>⟨.bl k,H,I.tok tk,rfl,q _ H φ .rfl rs (by subst ez; simp only [RepV])⟩
 cases v with
 | non =>
  simp only [RepV] at rv; subst rv
  cases (show u=Value.none from ru)
  simp only [isiV,hb,if_true] at e
  exact PySem.W.kia_one PySem.W.kitx_none I.kIn True.intro Z.n (fun z=>nomatch z) fun tk=>fin _ tk (by cases e; cases t <;> rfl)
 | bl k =>
  simp only [RepV] at rv; subst rv
  cases (show u=Value.bool k from ru)
  simp only [isiV,hb,if_true] at e
  exact PySem.W.kia_one PySem.W.kitx_bool I.kIn True.intro Z.b (fun z=>nomatch z) fun tk=>fin _ tk (by cases e; cases t <;> rfl)
 | int k =>
  simp only [RepV] at rv; subst rv
  obtain ⟨tk,rfl⟩:=ru
  simp only [isiV,hb,if_true] at e
  exact PySem.W.kia_one PySem.W.kitx_int I.kIn True.intro Z.i (fun z=>nomatch z) fun tk=>fin _ tk (by cases e; cases t <;> rfl)
 | str k =>
  simp only [RepV] at rv; subst rv
  obtain ⟨tk,rfl⟩:=ru
  simp only [isiV,hb,if_true] at e
  exact PySem.W.kia_one PySem.W.kitx_str I.kIn True.intro Z.s (fun z=>nomatch z) fun tk=>fin _ tk (by cases e; cases t <;> rfl)
 | tp k vs =>
  simp only [RepV] at rv
  obtain ⟨y,ys,rfl,rt,l⟩:=rv
  cases (show u=Value.ref y from ru)
  simp only [isiV,hb,if_true] at e
  obtain ⟨its,_,⟨o,g,c,_,_⟩,_⟩:=I.tuple rt.sq
  exact PySem.W.kia_one PySem.W.kitx_tuple I.kIn ⟨o,g,c⟩ Z.p (fun z=>nomatch z) fun tk=>fin _ tk (by cases e; cases t <;> rfl)
 | lst vs =>
  simp only [RepV] at rv
  obtain ⟨y,ys,rfl,rt,l⟩:=rv
  cases (show u=Value.ref y from ru)
  simp only [isiV,hb,if_true] at e
  obtain ⟨_,_,n,_,h1⟩:=(show ObjOk X.prog X.w H s.heap y (.lst ys) from I.hok y _ rt.1)
  exact PySem.W.kia_one PySem.W.kitx_list I.kIn ⟨_,h1,rfl⟩ Z.l (fun z=>nomatch z) fun tk=>fin _ tk (by cases e; cases t <;> rfl)
 | loc n=>cases e
 | scr n=>cases e
 | exn n=>simp only [isiV,List.all_cons,List.all_nil,hb,Bool.and_self,if_true] at e; cases e
theorem zcf {T:Str} (Z:KitT X.K t) (ht:isBl t=true) (hg:Gl X "isinstance") (hm:X.mg "isinstance"=none) (hgT:Gl X T) (hmT:X.mg T=none) (hT:bootBuiltins T=some (.type (tyN t))) (ha:PE X a (tE S X ca)) (hnT:T ≠ "__name__":=by decide) (hdT:(T == ("__debug__":Str))=false:=by decide)
  (he:starEach [a,.Name T p2] X.env=(false,eval a X.env) :: starEach [.Name T p2] X.env:=by rfl) (hpl:(backTo pos (starEach [.Name T p2] X.env)).any (·.1)=false:=by rfl) :
  PE X (.Call (.Name "isinstance" p) [a,.Name T p2] [] pos) (tE S X (.isi ca [t])) :=
 (zlv (zru Z) hg hm PyProof.Rows.boot_isinstance (zd8 ha (zd8 (zqq (v:=.ty (tyN t)) hgT hmT hT rfl hnT hdT) pa_nil) he) (by decide) (by decide) he hpl).imp fun σ H Q ⟨B,φ,st,ρ,rs,re,h⟩=>by
  simp only [ev] at h
  refine tE.bind rs re h fun x H1 v st1 φ1 s1 rs1 re1 rv h1=>?_
  obtain ⟨z,e,q⟩:=zea h1 rs1
  exact ⟨B,φ1,st1,v,x,z,rfl,rs1,rv,e,ht,q⟩
theorem zoL {st4:Store} {x y v:PV} (h:sixV st x y v=some st4):∃ n xs k j,x=.loc n/\st[n]?=some (.lst xs)/\y=.int k/\ixI xs.length k=some j/\st4=st.set n (.lst (xs.set j v)):=by
 cases x with
 | loc n =>
  simp only [sixV] at h
  cases q:st[n]? with
  | none=>rw [q] at h; cases h
  | some o =>
   rw [q] at h
   cases o with
   | lst xs =>
    cases y with
    | int k =>
     dsimp only at h
     cases q2:ixI xs.length k with
     | none=>rw [q2] at h; cases h
     | some j=>rw [q2] at h; exact ⟨n,xs,k,j,rfl,q,rfl,q2,(Option.some.inj h).symm⟩
    | _=>cases h
   | _=>cases h
 | _=>cases h
theorem RepL.put {K:PySem.W.Frag} {cl:Nat->Addr}:∀ {vs:List PV} {xs:List V} (j:Nat) {v:PV} {x:V},RepL K cl B φ H vs xs->RepV K cl B φ H v x->RepL K cl B φ H (vs.set j v) (xs.set j x)
 | [],xs,j,v,x,l,r=>by simp only [RepL] at l; subst l; simp [RepL]
 | w :: vs,xs,0,v,x,l,r=>by
  simp only [RepL] at l
  obtain ⟨y,ys,rfl,_,l⟩:=l
  simp only [List.set_cons_zero,RepL]
  exact ⟨x,ys,rfl,r,l⟩
 | w :: vs,xs,j+1,v,x,l,r=>by
  simp only [RepL] at l
  obtain ⟨y,ys,rfl,ry,l⟩:=l
  simp only [List.set_cons_succ,RepL]
  exact ⟨y,ys.set j x,rfl,ry,RepL.put j l r⟩
theorem zhZ (he:PE X a (tE S X ca)) (ho:PE X b (tE S X cb)) (hi:PE X c (tE S X cc)) (hs:swapsWithSole [.Subscript b c px] a pos.line X.env=pure false:=by rfl) (hw:swappedStores [.Subscript b c px] a X.env=pure none:=by rfl)
  (hg:PG X (.Subscript b c px) (gSub (tE S X cb) (tE S X cc) rSetL):=by exact zhk ‹_› ‹_› zde):PS X (.Assign [.Subscript b c px] a pos) (tS S X (.six cb cc ca)) :=
 (zpB he hg hs hw).imp fun D σ H ⟨B,φ,st,ρ,rs,re,h⟩=>by
  simp only [ex] at h
  refine tE.fl rs re h fun v' H1 v st1 φ1 s1 rs1 re1 rv h1=>tE.fl rs1 re1 h1 fun x' H2 x st2 φ2 s2 rs2 re2 rx h2=>tE.fl rs2 re2 h2 fun y' H3 y st3 φ3 s3 rs3 re3 ry h3=>?_
  cases e:sixV st3 x y v with
  | none=>rw [e] at h3; exact h3.elim
  | some st4 =>
   rw [e] at h3
   obtain ⟨n,xs,k,j,rfl,hn,rfl,hj,rfl⟩:=zoL e
   simp only [RepV] at ry
   subst ry
   obtain ⟨l,ys,rfl,hp,hx,lr⟩:=rs3.list (rx.step s3) hn
   refine ⟨l,ys,k,j,rfl,rfl,hx,by rw [<- lr.length]; exact hj,?_⟩
   have s4:Step φ3 H3 φ3 (L2.upd H3 l (.lst (ys.set j v'))):=.put (List.mem_of_getElem? hp)
   exact h3 σ _ φ3 s4 (rs3.put hp ⟨_,zav,(lr.put j ((rv.step s2).step s3)).step s4⟩) (re3.step s4)
end
section
variable {S:Se} {X:Cx} {σ:St} {B:Addr->Prop} {φ:Ph} {H:Hp} {st:Store} {p pos p2 px py pt pt2 apos:Pos} {a b c d o:Expr} {ca cb cc:Ce} {kt k2:Nat}
theorem zpE {i j:Nat} {x y:Str} (hc:X.calm=true) (hN:X.N.Nodup) (hi:X.N[i]?=some x) (hj:X.N[j]?=some y) (hij:i ≠ j) (h:PS X (.Assign [.Tuple [.Name x px,.Name y py] kt pt] (.Tuple [a,b] k2 pt2) pos) (tPar i j (tAs S X (.cons ca (.cons cb .nil))))) :
  PS X (.Assign [.Tuple [.Name x px,.Name y py] kt pt] (.Tuple [a,b] k2 pt2) pos) (tS S X (.asg (.t [i,j]) (.tup (.cons ca (.cons cb .nil))))) :=
 h.imp fun D σ H ⟨B,φ,st,ρ,rs,re,h⟩=>by
  simp only [ex,ev] at h
  refine ⟨B,φ,st,ρ,rs,re,?_⟩
  cases e:evs S.call ρ st (.cons ca (.cons cb .nil)) with
  | bad=>rw [e] at h; exact h
  | exc k st'=>rw [e] at h; exact fun e s' x=>h σ φ H e s' .rfl re x
  | ok vs st' =>
   rw [e] at h
   intro xs H' φ' s rs' l
   simp only [R.bind] at h
   split at h
   ·rcases vs with _ | ⟨v,_ | ⟨w,_ | ⟨u,t⟩⟩⟩
    ·exact h.elim
    ·exact h.elim
    ·obtain ⟨v',w',rfl,rv,rw⟩:=l.two
     refine ⟨v',w',rfl,?_⟩
     exact h _ H' φ' s rs' (((re.step s).set i rv).set j rw)
    ·exact h.elim
   ·exact h.elim
theorem zqG {bo:BOp} {v w z:PV} (h:augV bo v w=some z):∃ i j,v=.int i/\w=.int j/\IC.binI bo i j=some z:=by
 unfold augV at h
 split at h
 ·exact ⟨_,_,rfl,rfl,h⟩
 ·cases h
theorem zko:PIp X .Add (rT2 S X (augV .add)):=by
 rintro pins s σ H x y v u Q I rx ry ⟨B,φ,st,a,b,z,rs,ra,rb,e,q⟩
 obtain ⟨i,j,rfl,rfl,e⟩:=zqG e
 cases e
 simp only [RepV] at ra rb
 subst ra rb
 exact zq1 pins s σ H _ _ v u Q I rx ry ⟨i,j,rfl,rfl,q _ H φ .rfl rs (by simp only [RepV])⟩
end
end L2
namespace WK
open PySem L2 IC
structure Fn (K:PySem.W.Frag) (mg:Str->Option Value) (x:Str) (st:Stmt) (ps:List Str) (f:Addr) (fd:FuncData):Prop where
 F:Fun K x x st f fd
 b:Binds K fd ps []
 m:mg x=some (.ref f)
def GC (K:PySem.W.Frag) (mg:Str->Option Value) (cl:Nat->Addr) (x:Str) (v:PV):Prop:=∃ y:Addr,mg x=some (.ref y)/\∀ B φ H,RepV K cl B φ H v (.ref y)
theorem zac {S:Se} {X:Cx} {x:Str} {v:PV} {pos:Pos} (hg:Gl X x) (h:GC X.K X.mg S.cl x v) (hd:(x == ("__debug__":Str))=false:=by decide):PE X (.Name x pos) (tE S X (.cst v)):=by
 obtain ⟨y,hm,hk⟩:=h
 exact zqm hg hm hk hd
theorem zh3:bootBuiltins "int"=some (.type "int"):=by decide +kernel
theorem zqr:bootBuiltins "bool"=some (.type "bool"):=by decide +kernel
theorem zpr:bootBuiltins "str"=some (.type "str"):=by decide +kernel
theorem zaK:bootBuiltins "tuple"=some (.type "tuple"):=by decide +kernel
theorem zaW:bootBuiltins "len"=some (.builtin "len"):=by decide +kernel
theorem znl:bootBuiltins "abs"=some (.builtin "abs"):=by decide +kernel
theorem zls:bootBuiltins "min"=some (.builtin "min"):=by decide +kernel
theorem zpK:bootBuiltins "max"=some (.builtin "max"):=by decide +kernel
theorem zjE:bootBuiltins "all"=some (.builtin "all"):=by decide +kernel
theorem zaf {k:Nat} {A:Around} (r:Room k A):A.units+1 < cLine:=by have:=r.units; omega
def VisAll (N:List Str) (sc:Scope):Prop:=(N.all fun x=>decide (sc.names.lookup x=some .local) || decide (sc.names.lookup x=some .cell))=true
theorem lcF {N:List Str} {sc:Scope} {i:Nat} {x:Str} (V:VisAll N sc) (h:N[i]?=some x):Loc sc x:=by
 have:=List.all_eq_true.mp V x (List.mem_of_getElem? h)
 rw [Bool.or_eq_true,decide_eq_true_eq,decide_eq_true_eq] at this
 exact this
theorem svF {S:Se} {X:Cx} {x:Str} {pos:Pos} (V:VisAll X.N X.env.scope) (i:Nat) (hN:X.N[i]?=some x:=by rfl) (hd:(x == ("__debug__":Str))=false:=by decide) (hcd:(x == ("__classdict__":Str))=false:=by decide):PE X (.Name x pos) (tE S X (.var i)) :=
 zps hN (by rcases lcF V hN with h | h; exact .inl h; exact .inr (.inl h)) hd hcd
theorem sv {S:Se} {X:Cx} (i:Nat) {x:Str} {pos:Pos} (hN:X.N[i]?=some x:=by rfl) (hv:Vis X.env.scope x:=by first | exact Or.inl rfl | exact Or.inr (Or.inl rfl) | exact Or.inr (Or.inr rfl)) (hd:(x == ("__debug__":Str))=false:=by decide)
  (hcd:(x == ("__classdict__":Str))=false:=by decide):PE X (.Name x pos) (tE S X (.var i)):=zps hN hv hd hcd
end WK
namespace L2
open PySem PySem.Spec PyProof.Rows IC
noncomputable def shC:Sum Ce Int->Option Int
 | .inl _=>none
 | .inr i=>some i
noncomputable def mergeV:List (Option Int)->List V->List V
 | [],_=>[]
 | some i :: r,zs=>.int i :: mergeV r zs
 | none :: r,z :: zs=>z :: mergeV r zs
 | none :: _,[]=>[]
noncomputable def pick:List (Option Int)->List V->List V
 | none :: r,v :: vs=>v :: pick r vs
 | some _ :: r,_ :: vs=>pick r vs
 | _,_=>[]
noncomputable def nKw:List (Option Int)->Nat
 | []=>0
 | none :: r=>nKw r+1
 | some _ :: r=>nKw r
noncomputable def lenC:Ces->Nat
 | .nil=>0
 | .cons _ r=>lenC r+1
noncomputable def gK (np:Nat) (sh:List (Option Int)) (vs zs:List V):List V:=if vs.length=np/\zs.length=nKw sh then vs++mergeV sh zs else []
theorem zmw {call:Nat->List PV->Store->R PV} {ρ:IC.Env}:∀ (a:Ces) {st st':Store} {vs:List PV},evs call ρ st a=.ok vs st'->vs.length=lenC a
 | .nil,st,st',vs,h=>by simp only [evs] at h; cases h; rfl
 | .cons e r,st,st',vs,h=>by
  simp only [evs] at h
  cases q:ev call ρ st e with
  | ok v s1 =>
   rw [q] at h
   simp only [R.bind] at h
   cases q2:evs call ρ s1 r with
   | ok ws s2 =>
    rw [q2] at h
    cases h
    simp [lenC,zmw r q2]
   | exc c s=>rw [q2] at h; cases h
   | bad=>rw [q2] at h; cases h
  | exc c s=>rw [q] at h; cases h
  | bad=>rw [q] at h; cases h
theorem zny {call:Nat->List PV->Store->R PV} {ρ:IC.Env}:∀ (a b:Ces) (st:Store),evs call ρ st (appC a b)=(evs call ρ st a).bind fun vs st1=>(evs call ρ st1 b).bind fun ws st2=>.ok (vs++ws) st2
 | .nil,b,st=>by
  simp only [appC,evs,R.bind,List.nil_append]
  cases evs call ρ st b <;> rfl
 | .cons e r,b,st=>by
  simp only [appC,evs]
  cases ev call ρ st e with
  | ok v st1 =>
   simp only [R.bind]
   rw [zny r b st1]
   cases evs call ρ st1 r with
   | ok vs st2 =>
    simp only [R.bind]
    cases evs call ρ st2 b <;> rfl
   | exc c s=>rfl
   | bad=>rfl
  | exc c s=>rfl
  | bad=>rfl
section
variable {S:Se} {X:Cx} {k:Nat} {f:Addr} {fd:FuncData} {ps ks:List Str} {sp:Sp} {x:Str} {p pos kpos:Pos} {e:Expr} {es:List Expr} {kws:List Keyword} {nm:Option Str} {t tk:TA} {CX:CXT} {ca:Ce} {ces:Ces} {items:List (Sum Ce Int)} {g:List Value->List Value->List Value} {gV:List V->List V->List V}
theorem zfL {K:PySem.W.Frag} {cl:Nat->Addr} {B:Addr->Prop} {φ:Ph} {H:Hp} {call:Nat->List PV->Store->R PV} {ρ:IC.Env}:∀ (items:List (Sum Ce Int)) {st st':Store} {vs:List PV} {xs:List V},evs call ρ st (tailC items)=.ok vs st'->RepL K cl B φ H vs xs->mergeV (items.map shC) (pick (items.map shC) xs)=xs/\(pick (items.map shC) xs).length=nKw (items.map shC)
 | [],st,st',vs,xs,h,l=>by
  simp only [tailC,evs] at h
  cases h
  simp only [RepL] at l
  subst l
  exact ⟨rfl,rfl⟩
 | .inl c :: r,st,st',vs,xs,h,l=>by
  simp only [tailC,evs] at h
  obtain ⟨v,s1,e1,h⟩:=zd7 h
  obtain ⟨ws,s2,e2,h⟩:=zd7 h
  cases h
  simp only [RepL] at l
  obtain ⟨y,ys,rfl,_,l⟩:=l
  obtain ⟨q1,q2⟩:=zfL r e2 l
  simp only [List.map_cons,shC,pick,mergeV,nKw,List.length_cons,q1,q2]
  exact ⟨trivial,trivial⟩
 | .inr i :: r,st,st',vs,xs,h,l=>by
  simp only [tailC,evs,ev] at h
  obtain ⟨v,s1,e1,h⟩:=zd7 h
  obtain ⟨ws,s2,e2,h⟩:=zd7 h
  cases h
  cases e1
  simp only [RepL,RepV] at l
  obtain ⟨y,ys,rfl,rfl,l⟩:=l
  obtain ⟨q1,q2⟩:=zfL r e2 l
  simp only [List.map_cons,shC,pick,mergeV,nKw,q1,q2]
  exact ⟨trivial,trivial⟩
noncomputable def tK (S:Se) (X:Cx) (items:List (Sum Ce Int)):TA:=fun σ H Q=>∃ B φ st ρ,RepS X.K S.cl B φ H st/\RepE X.K S.cl B φ H ρ σ/\Run S X σ B φ H (RL S X B) (evs S.call ρ st (tailC items)) fun xs H'=>Q (pick (items.map shC) xs) H'
theorem PK.imp {t t':TA} (h:PK X kws t') (k:∀ σ H Q,t σ H Q->t' σ H Q):PK X kws t:=fun pos pins s σ H Q I q=>h pos pins s σ H Q I (k σ H Q q)
theorem zX:PK X [] (tK S X []):=pk_nil.imp fun σ H Q ⟨B,φ,st,ρ,rs,re,h⟩=>by
 simp only [tailC,evs] at h
 exact h.ok rs (x:=[]) (by simp only [RepL])
theorem zw {i:Int} (h:PK X kws (tK S X items)):PK X kws (tK S X (.inr i :: items)):=h.imp fun σ H Q ⟨B,φ,st,ρ,rs,re,h⟩=>by
 simp only [tailC,evs,ev,R.bind] at h
 refine ⟨B,φ,st,ρ,rs,re,?_⟩
 cases e:evs S.call ρ st (tailC items) with
 | ok vs st' =>
  rw [e] at h
  intro xs H' φ' s rs' l
  exact h (.int i :: xs) H' φ' s rs' (by simp only [RepL,RepV]; exact ⟨_,_,rfl,rfl,l⟩)
 | exc c s=>rw [e] at h; exact h
 | bad=>rw [e] at h; exact h
theorem zbo (ha:PE X e (tE S X ca)) (h:PK X kws (tK S X items)):PK X (⟨nm,e,kpos⟩ :: kws) (tK S X (.inl ca :: items)):=(zpN ha h).imp fun σ H Q ⟨B,φ,st,ρ,rs,re,h⟩=>by
 simp only [tailC,evs] at h
 refine tE.bind rs re h fun x H1 v st1 φ1 s1 rs1 re1 rv h1=>⟨B,φ1,st1,ρ,rs1,re1,?_⟩
 refine (Run.bind (Rel:=RL S X B) h1).mono fun xs H2 ⟨ws,st2,φ2,s2,rs2,l,h2⟩=>?_
 exact h2.ok rs2 (x:=x :: xs) (by simp only [RepL]; exact ⟨x,xs,rfl,rv.step s2,l⟩)
theorem zz {fi:Nat} (F:FnOk X.prog X.w X.K X.mg X.base (CX1 X.prog X.w) k f fd ps (spI X.K S.cl S.call fi)) (hr:Room k X.A) (hg:Gl X x) (hm:X.mg x=some (.ref f)) (hk:PySem.W.keepIn X.K (.ref f)=true) {np:Nat} (hb:∃ g,KBinds X.K fd ps ks g (gK np (items.map shC))) (hnp:lenC ces=np)
  (ha:PA X (e :: es) (tAs S X ces)) (hkw:PK X kws (tK S X items)) (hall:(backToKw pos (keywordEach kws X.env)).all (·.1.isSome)=true:=by rfl) (hks:(backToKw pos (keywordEach kws X.env)).filterMap (·.1)=ks:=by rfl)
  (hdb:(x == ("__debug__":Str))=false:=by decide) (he:starEach (e :: es) X.env=(false,eval e X.env) :: starEach es X.env:=by rfl)
  (hpl:((backTo pos (starEach (e :: es) X.env)).any (·.1) || (backToKw pos (keywordEach kws X.env)).any (·.1.isNone))=false:=by rfl) :
  PE X (.Call (.Name x p) (e :: es) kws pos) (tE S X (.call fi (appC ces (tailC items)))):=by
 intro pins s σ H Q I ⟨B,φ,st,ρ,rs,re,h⟩
 simp only [ev] at h
 rw [zny,R.bind_assoc] at h
 refine wpAny_Call_Name_kw (ziG I hg hm ?_ hdb)
 have h0:tAs S X ces σ H fun vs H1=>tK S X items σ H1 fun zs H2=>∃ E:XK,spI X.K S.cl S.call fi (gK np (items.map shC) vs zs) H2 Q E/\∀ pins s e s',Inv X pins σ H2 s->CX1 X.prog X.w X.stack H2 s E e s'->X.xe e s':=by
  have hlen:∀ vs st',evs S.call ρ st ces=.ok vs st'->vs.length=np:=fun vs st' q=>(zmw ces q).trans hnp
  refine ⟨B,φ,st,ρ,rs,re,?_⟩
  cases q:evs S.call ρ st ces with
  | exc c s=>rw [q] at h; exact h
  | bad=>rw [q] at h; exact h
  | ok vs st1 =>
  rw [q] at h
  intro xs H1 φ1 s1 rs1 rv
  have h1:=Run.on s1 h
  have re1:=re.step s1
  have hv:=hlen vs st1 q
  refine ⟨B,φ1,st1,ρ,rs1,re1,?_⟩
  have h1:Run S X σ B φ1 H1 (RV S X B) (((evs S.call ρ st1 (tailC items)).bind fun a st=>(R.ok (vs++a) st:R (List PV))).bind fun vs st1=>S.call fi vs st1) Q:=h1
  rw [R.bind_assoc] at h1
  cases e:evs S.call ρ st1 (tailC items) with
  | ok ws st2 =>
   rw [e] at h1
   intro ys H2 φ2 s2 rs2 l2
   obtain ⟨m1,m2⟩:=zfL items e l2
   have eg:gK np (items.map shC) xs (pick (items.map shC) ys)=xs++ys:=by
    unfold gK
    rw [if_pos ⟨by rw [<- rv.length]; exact hv,m2⟩,m1]
   show ∃ E:XK,spI X.K S.cl S.call fi (gK np (items.map shC) xs (pick (items.map shC) ys)) H2 Q E/\_
   rw [eg]
   exact zhq rs2 ((rv.step s2).append l2) (Run.on s2 h1)
  | exc c s=>rw [e] at h1; exact h1
  | bad=>rw [e] at h1; exact h1
 refine PySem.W.callWith_KW (h₀:=X.base) I.ok.mod.kin hk hall (thn (ha pos pins s σ H _ I h0) fun us s1 ⟨vs,H1,I1,r,q⟩=>?_) hpl he
 refine thn (hkw pos pins s1 σ H1 _ I1 q) fun ws s2 ⟨zs,H2,I2,rz,E,q2,hx⟩=>⟨I2.kIn,?_⟩
 rw [hks]
 obtain ⟨g,hb⟩:=hb
 have r2:=hb.rel r rz
 have hl:(g us ws).length=ps.length:=by rw [<- r2.length]; exact F.len _ _ _ _ q2
 refine wpAny_call (codeAny_mono (F.run X.A X.stack s2 H2 ⟨us,ks.zip ws⟩ (g us ws) (gK np (items.map shC) vs zs) Q E hr I2.env0 (hb.to s2 us ws I2.kIn hl) r2 q2) fun r s' hq=>?_)
 cases r with
 | error e=>exact hx pins s2 e s' I2 hq
 | ok fl =>
  cases fl with
  | ret u=>exact I2.after hq
  | next=>exact False.elim hq
  | brk=>exact False.elim hq
  | cont=>exact False.elim hq
end
noncomputable def mergeU:List (Option Int)->List Value->List Value->List Value
 | [],_,_=>[]
 | some _ :: r,ws,d :: ds=>d :: mergeU r ws ds
 | none :: r,w :: ws,_ :: ds=>w :: mergeU r ws ds
 | _,_,_=>[]
theorem zg6:∀ (sh:List (Option Int)) (ds:List Int) {zs:List V} {ws us:List Value},Vals (ds.map V.int) us->Vals zs ws->sh.length=ds.length->(∀ p ∈ sh.zip ds,∀ i,p.1=some i->i=p.2)->Vals (mergeV sh zs) (mergeU sh ws us)
 | [],ds,zs,ws,us,r,q,hl,h=>.nil
 | some i :: r,[],zs,ws,us,rr,q,hl,h=>by simp at hl
 | some i :: r,d :: ds,zs,ws,_,.cons a b,q,hl,h=>by
  have:i=d:=h (some i,d) (by simp) i rfl
  subst this
  exact .cons a (zg6 r ds b q (by simpa using hl) fun p hp=>h p (by simp [hp]))
 | none :: r,[],zs,ws,us,rr,q,hl,h=>by simp at hl
 | none :: r,d :: ds,_,_,_,.cons a b,.nil,hl,h=>.nil
 | none :: r,d :: ds,_,_,_,.cons a b,.cons c q,hl,h=>.cons c (zg6 r ds b q (by simpa using hl) fun p hp=>h p (by simp [hp]))
structure FnD (K:PySem.W.Frag) (mg:Str->Option Value) (x:Str) (st:Stmt) (ps:List Str) (ds:List Int) (f:Addr) (fd:FuncData):Prop where
 ex:∃ (oc:Value) (od:Option Addr) (dT:Addr) (kV doc pm:Value) (an:Option Addr) (cdv ct:Value) (osl:Array (Option Value)) (o:Obj) (its:Array Value) (n:Nat),
  fd=PySem.W.fnOf x x (defArgs st) (defBody st) (defScope st) (.ref dT) kV doc pm an cdv ct/\K.lookup f=some ⟨oc,od,.func fd,osl⟩/\PySem.W.codeIn K cdv x=true/\K.lookup dT=some o/\o.data=.seq its n/\Vals (ds.map V.int) its.toList
 kp:PySem.W.keepIn K (.ref f)=true
 m:mg x=some (.ref f)
theorem kbD {K:PySem.W.Frag} {mg:Str->Option Value} {x:Str} {st:Stmt} {ps ks:List Str} {ds:List Int} {f:Addr} {fd:FuncData} {np off:Nat} {sh:List (Option Int)} (D:FnD K mg x st ps ds f fd) (hnk:ks.length=nKw sh) (hsh:sh.length=(ds.drop off).length) (hd':((sh.zip (ds.drop off)).all fun p=>p.1.all fun i=>decide (i=p.2))=true)
  (h:∀ (dT:Addr) (kV doc pm:Value) (an:Option Addr) (cdv ct:Value) (us ws its:List Value),us.length=np->ws.length=ks.length->its.length=ds.length ->
   ∃ k,bindArgs (PySem.W.fnOf x x (defArgs st) (defBody st) (defScope st) (.ref dT) kV doc pm an cdv ct) ⟨us,ks.zip ws⟩=seqItems? (.ref dT) >>= k/\k (some its.toArray)=pure (ps.zip (us++mergeU sh ws (its.drop off)))) (hps:0 < ps.length) :
  ∃ g,KBinds K fd ps ks g (gK np sh):=by
 have hd:∀ p ∈ sh.zip (ds.drop off),∀ i,p.1=some i->i=p.2:=fun p hp i hi=>by
  have:=List.all_eq_true.mp hd' p hp
  rw [hi] at this
  simpa using this
 obtain ⟨oc,od,dT,kV,doc,pm,an,cdv,ct,osl,o,its,n,rfl,lk,hcd,lo,hs,r⟩:=D.ex
 refine ⟨fun us ws=>if us.length=np/\ws.length=nKw sh then us++mergeU sh ws (its.toList.drop off) else [],⟨fun s us ws KX hl=>?_,fun {vs us zs ws} rv rz=>?_⟩⟩
 ·by_cases c:us.length=np/\ws.length=nKw sh
  ·rw [if_pos c] at hl ⊢
   obtain ⟨k,h1,h2⟩:=h dT kV doc pm an cdv ct us ws its.toList c.1 (by rw [hnk]; exact c.2) (by rw [<- r.length,List.length_map])
   exact BindsTo.of_defaults rfl (KX _ _ lo) hs h1 (by simpa using h2)
  ·rw [if_neg c] at hl
   simp at hl
   omega
 ·unfold gK
  have e1:=rv.length
  have e2:=rz.length
  by_cases c:us.length=np/\ws.length=nKw sh
  ·rw [if_pos c,if_pos (by omega)]
   refine rv.append (zg6 sh (ds.drop off) ?_ rz hsh hd)
   rw [List.map_drop]
   exact r.drop off
  ·rw [if_neg c,if_neg (by omega)]
   exact .nil
section
variable {P:Program} {w:World} {K:PySem.W.Frag} {mg:Str->Option Value} {base:Heap} {cl:Nat->Addr} {T:Nat->Option IC.Fn} {fi:Nat} {fn:IC.Fn} {x:Str} {stm:Stmt} {f:Addr} {fd:FuncData} {N ps:List Str} {ds:List Int} {k:Nat}
theorem Fun.okXD {sp:Sp} (F:FnD K mg x stm ps ds f fd) (S:FnScope N ps (defScope stm)) (len:∀ vs H Q E,sp vs H Q E->vs.length=ps.length)
  (body:∀ (cdv:Value) (A:Around) (outer:List PySem.Env) (s:Shared) (H:Hp) (vs:List V) (Q:VK) (E:XK),Room k (A.deeper (envOfC x (defScope stm) s.heap.objs.size f cdv))->sp vs H Q E ->
   ∃ t,PSs (cxOf (CX1 P w) P w K mg base N x (defScope stm) f cdv A outer s H E) (defBody stm) t/\t { nx:=fun _ H'=>Q .non H',rt:=Q } (start N vs) H):FnOk P w K mg base (CX1 P w) (k+1) f fd ps sp:=by
 obtain ⟨oc,od,dT,kV,doc,pm,an,cdv,ct,osl,o,its,n,rfl,lk,hcd,_⟩:=F.ex
 exact zrp lk hcd S len fun A outer s H vs Q E hr hsp=>body cdv A outer s H vs Q E hr hsp
theorem zle (hT:T fi=some fn) (F:FnD K mg x stm ps ds f fd) (Sc:FnScope N ps (defScope stm)) (hnp:ps.length=fn.np) (hns:N.length=fn.ns)
  (body:∀ (cdv:Value) (A:Around) (outer:List PySem.Env) (s:Shared) (H:Hp) (E:XK),Room k (A.deeper (envOfC x (defScope stm) s.heap.objs.size f cdv)) ->
   PSs (cxOf (CX1 P w) P w K mg base N x (defScope stm) f cdv A outer s H E) (defBody stm) (tSs ⟨cl,callT T k,true⟩ (cxOf (CX1 P w) P w K mg base N x (defScope stm) f cdv A outer s H E) fn.body)) :
  FnOk P w K mg base (CX1 P w) (k+1) f fd ps (spI K cl (callT T (k+1)) fi) :=
 Fun.okXD F Sc (fun vs H Q E h=>zpq hT hnp h) fun cdv A outer s H vs Q E hr h=>⟨_,body cdv A outer s H E hr,zmC hT hns h⟩
end
theorem ziy (a b:Key):peq (keyP a) (keyP b)=decide (a=b):=by
 rw [Bool.eq_iff_iff]
 cases a <;> cases b <;> simp [keyP,peq]
theorem zlh:∀ (a b:List Key),peqs (a.map keyP) (b.map keyP)=decide (a=b)
 | [],[]=>by simp [peqs]
 | [],y :: ys=>by simp [peqs]
 | x :: xs,[]=>by simp [peqs]
 | x :: xs,y :: ys=>by
  simp only [List.map_cons,peqs,ziy,zlh xs ys]
  rw [Bool.eq_iff_iff]
  simp
theorem zio (a b:List Key):peq (.tup (a.map keyP)) (.tup (b.map keyP))=decide (a=b):=by
 simp only [peq,zlh]
theorem znw {k:PV} (h:isKey0 k=true):∃ q,k=keyP q:=by
 cases k with
 | int i=>exact ⟨.inl i,rfl⟩
 | str i=>exact ⟨.inr i,rfl⟩
 | _=>cases h
theorem znP:∀ {ks:List PV},ks.all isKey0=true->∃ qs:List Key,ks=qs.map keyP
 | [],_=>⟨[],rfl⟩
 | k :: ks,h=>by
  rw [List.all_cons,Bool.and_eq_true] at h
  obtain ⟨q,rfl⟩:=znw h.1
  obtain ⟨qs,rfl⟩:=znP h.2
  exact ⟨q :: qs,rfl⟩
section
variable {S:Se} {X:Cx} {K:PySem.W.Frag} {cl:Nat->Addr} {σ:St} {B:Addr->Prop} {φ:Ph} {H:Hp} {st:Store} {p pos p2 px apos:Pos} {a b c d o:Expr} {ca cb cc:Ce}
theorem repV_key {q:Key} {x:V}:RepV K cl B φ H (keyP q) x ↔ x=kV q:=by
 cases q <;> simp [keyP,RepV,kV]
theorem zjL:∀ {qs:List Key} {xs:List V},RepL K cl B φ H (qs.map keyP) xs->xs=qs.map kV
 | [],xs,l=>by simpa only [List.map_nil,RepL] using l
 | q :: qs,xs,l=>by
  simp only [List.map_cons,RepL] at l
  obtain ⟨y,ys,rfl,r,l⟩:=l
  rw [repV_key.mp r,zjL l]
  rfl
theorem DK.look {q:Key}:∀ {kvs:List (PV × PV)} {ks:List (Key × V)},DK K cl B φ H kvs ks->∀ {v:PV} {x:V},RepV K cl B φ H v x->RepV K cl B φ H ((IC.look (keyP q) kvs).getD v) ((valV ks q).getD x)
 | [],ks,h,v,x,r=>by cases h; exact r
 | (k,w) :: t,ks,h,v,x,r=>by
  obtain ⟨q',y,s,rfl,rfl,rv,l⟩:=h
  simp only [IC.look,ziy]
  by_cases e:q'=q
  ·rw [zfj (p:=(q',y)) e]
   simp [e,rv]
  ·rw [zeY (p:=(q',y)) e]
   simp only [decide_eq_true_eq,e,if_false]
   exact DK.look l r
theorem DT.look {q:List Key}:∀ {kvs:List (PV × PV)} {ks:List (List Key × V)},DT K cl B φ H kvs ks->∀ {v:PV} {x:V},RepV K cl B φ H v x->RepV K cl B φ H ((IC.look (.tup (q.map keyP)) kvs).getD v) ((valV ks q).getD x)
 | [],ks,h,v,x,r=>by cases h; exact r
 | (k,w) :: t,ks,h,v,x,r=>by
  obtain ⟨q',y,s,rfl,rfl,rv,l⟩:=h
  simp only [IC.look,zio]
  by_cases e:q'=q
  ·rw [zfj (p:=(q',y)) e]
   simp [e,rv]
  ·rw [zeY (p:=(q',y)) e]
   simp only [decide_eq_true_eq,e,if_false]
   exact DT.look l r
theorem DK.any {q:Key}:∀ {kvs:List (PV × PV)} {ks:List (Key × V)},DK K cl B φ H kvs ks->(kvs.any fun p=>peq p.1 (keyP q))=ks.any fun kv=>decide (kv.1=q)
 | [],ks,h=>by cases h; rfl
 | (k,w) :: t,ks,h=>by
  obtain ⟨q',y,s,rfl,rfl,rv,l⟩:=h
  simp only [List.any_cons,ziy,DK.any l]
theorem DT.any {q:List Key}:∀ {kvs:List (PV × PV)} {ks:List (List Key × V)},DT K cl B φ H kvs ks->(kvs.any fun p=>peq p.1 (.tup (q.map keyP)))=ks.any fun kv=>decide (kv.1=q)
 | [],ks,h=>by cases h; rfl
 | (k,w) :: t,ks,h=>by
  obtain ⟨q',y,s,rfl,rfl,rv,l⟩:=h
  simp only [List.any_cons,zio,DT.any l]
theorem DK.map {q:Key} {v:PV} {x:V} (r:RepV K cl B φ H v x):∀ {kvs:List (PV × PV)} {ks:List (Key × V)},DK K cl B φ H kvs ks->DK K cl B φ H (kvs.map fun p=>if peq p.1 (keyP q)=true then (p.1,v) else p) (ks.map fun kv=>if kv.1=q then (kv.1,x) else kv)
 | [],ks,h=>by cases h; exact rfl
 | (k,w) :: t,ks,h=>by
  obtain ⟨q',y,s,rfl,rfl,rv,l⟩:=h
  simp only [List.map_cons,ziy,decide_eq_true_eq]
  by_cases e:q'=q
  ·simp only [e,if_true]
   exact ⟨q,x,_,rfl,rfl,r,DK.map r l⟩
  ·simp only [e,if_false]
   exact ⟨q',y,_,rfl,rfl,rv,DK.map r l⟩
theorem DT.map {q:List Key} {v:PV} {x:V} (r:RepV K cl B φ H v x):∀ {kvs:List (PV × PV)} {ks:List (List Key × V)},DT K cl B φ H kvs ks->DT K cl B φ H (kvs.map fun p=>if peq p.1 (.tup (q.map keyP))=true then (p.1,v) else p) (ks.map fun kv=>if kv.1=q then (kv.1,x) else kv)
 | [],ks,h=>by cases h; exact rfl
 | (k,w) :: t,ks,h=>by
  obtain ⟨q',y,s,rfl,rfl,rv,l⟩:=h
  simp only [List.map_cons,zio,decide_eq_true_eq]
  by_cases e:q'=q
  ·simp only [e,if_true]
   exact ⟨q,x,_,rfl,rfl,r,DT.map r l⟩
  ·simp only [e,if_false]
   exact ⟨q',y,_,rfl,rfl,rv,DT.map r l⟩
theorem DK.snoc {q:Key} {v:PV} {x:V} (r:RepV K cl B φ H v x):∀ {kvs:List (PV × PV)} {ks:List (Key × V)},DK K cl B φ H kvs ks->DK K cl B φ H (kvs++[(keyP q,v)]) (ks++[(q,x)])
 | [],ks,h=>by cases h; exact ⟨q,x,[],rfl,rfl,r,rfl⟩
 | (k,w) :: t,ks,h=>by
  obtain ⟨q',y,s,rfl,rfl,rv,l⟩:=h
  exact ⟨q',y,_,rfl,rfl,rv,DK.snoc r l⟩
theorem DT.snoc {q:List Key} {v:PV} {x:V} (r:RepV K cl B φ H v x):∀ {kvs:List (PV × PV)} {ks:List (List Key × V)},DT K cl B φ H kvs ks->DT K cl B φ H (kvs++[(.tup (q.map keyP),v)]) (ks++[(q,x)])
 | [],ks,h=>by cases h; exact ⟨q,x,[],rfl,rfl,r,rfl⟩
 | (k,w) :: t,ks,h=>by
  obtain ⟨q',y,s,rfl,rfl,rv,l⟩:=h
  exact ⟨q',y,_,rfl,rfl,rv,DT.snoc r l⟩
theorem DK.put {q:Key} {v:PV} {x:V} {kvs:List (PV × PV)} {ks:List (Key × V)} (l:DK K cl B φ H kvs ks) (r:RepV K cl B φ H v x):DK K cl B φ H (IC.put (keyP q) v kvs) (putK ks q x):=by
 unfold IC.put putK
 rw [DK.any l]
 split
 ·exact DK.map r l
 ·exact DK.snoc r l
theorem DT.put {q:List Key} {v:PV} {x:V} {kvs:List (PV × PV)} {ks:List (List Key × V)} (l:DT K cl B φ H kvs ks) (r:RepV K cl B φ H v x):DT K cl B φ H (IC.put (.tup (q.map keyP)) v kvs) (putK ks q x):=by
 unfold IC.put putK
 rw [DT.any l]
 split
 ·exact DT.map r l
 ·exact DT.snoc r l
theorem DK.len:∀ {kvs:List (PV × PV)} {ks:List (Key × V)},DK K cl B φ H kvs ks->kvs.length=ks.length
 | [],ks,h=>by cases h; rfl
 | (k,w) :: t,ks,h=>by
  obtain ⟨q',y,s,rfl,rfl,rv,l⟩:=h
  simp [DK.len l]
theorem DT.len:∀ {kvs:List (PV × PV)} {ks:List (List Key × V)},DT K cl B φ H kvs ks->kvs.length=ks.length
 | [],ks,h=>by cases h; rfl
 | (k,w) :: t,ks,h=>by
  obtain ⟨q',y,s,rfl,rfl,rv,l⟩:=h
  simp [DT.len l]
theorem RepS.dct {n:Nat} {t:Bool} {kvs:List (PV × PV)} {x:V} (rs:RepS K cl B φ H st) (r:RepV K cl B φ H (.loc n) x) (h:st[n]?=some (.dct t kvs)):∃ y,x=.ref y/\φ[n]?=some (some y)/\RepO K cl B φ H (.dct t kvs) y:=by
 simp only [RepV] at r
 obtain ⟨hn,y,rfl,ha⟩:=r
 obtain ⟨z,hz⟩:=rs.liv n _ h (by intro z; cases z)
 obtain rfl:=ha z hz
 obtain ⟨o,ho,ro⟩:=rs.obj n z hz
 rw [h] at ho; cases ho
 exact ⟨z,rfl,hz,ro⟩
theorem zj3 {v:PV} {t:Bool} {kvs:List (PV × PV)} (h:dctOf st v=some (t,kvs)):∃ n,v=.loc n/\st[n]?=some (.dct t kvs):=by
 cases v with
 | loc n =>
  simp only [dctOf] at h
  split at h
  ·rename_i t' xs q
   cases h
   exact ⟨n,rfl,q⟩
  ·cases h
 | _=>cases h
theorem zmM {k:PV} (h:isKey false k=true):∃ q,k=keyP q:=znw h
theorem zms {k:PV} (h:isKey true k=true):∃ q:List Key,k=.tup (q.map keyP):=by
 cases k with
 | tp b xs =>
  cases b with
  | false =>
   obtain ⟨qs,rfl⟩:=znP h
   exact ⟨qs,rfl⟩
  | true=>cases h
 | _=>cases h
theorem znQ {q:List Key} {x:V} (r:RepV K cl B φ H (.tup (q.map keyP)) x):∃ y,x=.ref y/\H y=some (.tup (q.map kV)):=by
 simp only [RepV] at r
 obtain ⟨y,xs,rfl,rt,l⟩:=r
 rcases rt with ⟨rt,_⟩ | ⟨z,_⟩
 ·exact ⟨y,rfl,by rw [rt,zjL l]⟩
 ·cases z
theorem znJ:PE X (.Dict [] [] pos) (tE S X (.dict0 true)):=pe_dnewT.imp fun σ H Q ⟨B,φ,st,ρ,rs,re,h⟩=>by
 simp only [ev] at h
 exact fun p hp=>h _ _ (φ++[some p]) (.push hp) (rs.push hp (rs.nB hp) ⟨[],zav,rfl⟩) (.loc_new rs)
theorem zfr (hu:X.A.units+1 < cLine) (ha:PE X a (tE S X ca)) (hb:PE X b (tE S X cb)) (hc:PE X c (tE S X cc)) (m:M2 X a "get" apos b c pos:=by exact ⟨rfl,rfl,rfl,rfl⟩):PE X (.Call (.Attribute a "get" apos) [b,c] [] pos) (tE S X (.mth .get ca (.cons cb (.cons cc .nil)))) :=
 (zo3 hu ha hb hc m).imp fun σ H Q ⟨B,φ,st,ρ,rs,re,h⟩=>by
  simp only [ev] at h
  refine tE.bind rs re h fun x H1 v st1 φ1 s1 rs1 re1 rv h1=>?_
  obtain ⟨_,e1,h1⟩:=zkS h1
  simp only [mthOk] at e1
  cases q:dctOf st1 v with
  | none=>rw [q] at e1; cases e1
  | some tk =>
   obtain ⟨t,kvs⟩:=tk
   obtain ⟨n,rfl,hn⟩:=zj3 q
   obtain ⟨y,rfl,hy,ro⟩:=rs1.dct rv hn
   refine ⟨y,rfl,?_,?_⟩
   ·cases t with
    | false=>obtain ⟨ks,hk,_⟩:=ro; exact .inl ⟨ks,.inl hk⟩
    | true=>obtain ⟨ks,hk,_⟩:=ro; exact .inr ⟨ks,.inl hk⟩
   ·simp only [evs,R.bind_assoc] at h1
    refine tE.bind rs1 re1 h1 fun kx H2 kv st2 φ2 s2 rs2 re2 rk h2=>tE.bind rs2 re2 h2 fun dx H3 dv st3 φ3 s3 rs3 re3 rd h3=>?_
    simp only [R.bind,mthV,getV] at h3
    cases q3:dctOf st3 (.loc n) with
    | none=>rw [q3] at h3; exact h3.elim
    | some tk3 =>
     obtain ⟨t3,kvs3⟩:=tk3
     rw [q3] at h3
     dsimp only at h3
     split at h3
     ·rename_i hk
      obtain ⟨n',e',hn3⟩:=zj3 q3
      cases e'
      obtain ⟨y3,ey,hy3,ro3⟩:=rs3.dct ((rv.step s2).step s3) hn3
      cases ey
      have rk3:=rk.step s3
      cases t3 with
      | false =>
       obtain ⟨q,rfl⟩:=zmM hk
       obtain ⟨ks,hks,l⟩:=ro3
       refine ⟨valV ks q,.inl ⟨ks,q,.inl hks,repV_key.mp rk3,rfl⟩,h3.ok rs3 (DK.look l rd)⟩
      | true =>
       obtain ⟨q,rfl⟩:=zms hk
       obtain ⟨ks,hks,l⟩:=ro3
       obtain ⟨b',rfl,hb'⟩:=znQ rk3
       exact ⟨valV ks q,.inr ⟨ks,q,b',.inl hks,rfl,hb',rfl⟩,h3.ok rs3 (DT.look l rd)⟩
     ·exact h3.elim
theorem znB {st4:Store} {x y v:PV} (h:dputV st x y v=some st4):∃ n t kvs,x=.loc n/\st[n]?=some (.dct t kvs)/\isKey t y=true/\kvs.length < 1000000/\st4=st.set n (.dct t (IC.put y v kvs)):=by
 cases x with
 | loc n =>
  simp only [dputV] at h
  split at h
  ·rename_i t kvs q
   split at h
   ·rename_i c
    exact ⟨n,t,kvs,rfl,q,c.1,c.2,(Option.some.inj h).symm⟩
   ·cases h
  ·cases h
 | _=>cases h
theorem zbK (hu:X.A.units+1 < cLine) (ho:PE X b (tE S X cb)) (hi:PE X c (tE S X cc)) (hv:PE X a (tE S X ca)) (hs:swapsWith a (some (.Subscript b c px)) pos.line X.env=pure false:=by rfl):PS X (.Assign [.Subscript b c px] a pos) (tS S X (.dput cb cc ca)) :=
 (zpO hu ho hi hv hs).imp fun D σ H ⟨B,φ,st,ρ,rs,re,h⟩=>by
  simp only [ex] at h
  refine tE.fl rs re h fun v' H1 v st1 φ1 s1 rs1 re1 rv h1=>tE.fl rs1 re1 h1 fun x' H2 x st2 φ2 s2 rs2 re2 rx h2=>tE.fl rs2 re2 h2 fun y' H3 y st3 φ3 s3 rs3 re3 ry h3=>?_
  cases e:dputV st3 x y v with
  | none=>rw [e] at h3; exact h3.elim
  | some st4 =>
   rw [e] at h3
   obtain ⟨n,t,kvs,rfl,hn,hk,hl,rfl⟩:=znB e
   obtain ⟨l,rfl,hp,ro⟩:=rs3.dct (rx.step s3) hn
   have rv3:=(rv.step s2).step s3
   have hm:=million
   cases t with
   | false =>
    obtain ⟨q,rfl⟩:=zmM hk
    obtain ⟨ks,hks,ld⟩:=ro
    have s4:Step φ3 H3 φ3 (L2.upd H3 l (.dK (putK ks q v'))):=.put (List.mem_of_getElem? hp)
    refine ⟨l,_,rfl,.inl ⟨ks,q,hks,repV_key.mp ry,by have:=ld.len; omega,rfl⟩,h3 σ _ φ3 s4 (rs3.put hp ⟨_,zav,(ld.put rv3).step s4⟩) (re3.step s4)⟩
   | true =>
    obtain ⟨q,rfl⟩:=zms hk
    obtain ⟨ks,hks,ld⟩:=ro
    obtain ⟨b',rfl,hb'⟩:=znQ ry
    have s4:Step φ3 H3 φ3 (L2.upd H3 l (.dT (putK ks q v'))):=.put (List.mem_of_getElem? hp)
    refine ⟨l,_,rfl,.inr ⟨ks,q,b',hks,rfl,hb',by have:=ld.len; omega,rfl⟩,h3 σ _ φ3 s4 (rs3.put hp ⟨_,zav,(ld.put rv3).step s4⟩) (re3.step s4)⟩
noncomputable def trC (kvs:List (Str × Int)):List (TE × TE):=kvs.map fun kv=>(tC (.str kv.1),tC (.int kv.2))
theorem zrv:PPs X pos [] [] (trC []):=zqa
theorem zp2 {ks:List (Option Expr)} {vs:List Expr} {kvs:List (Str × Int)} {x:Str} {i:Int} {j1 j2:Nat} {p1 p2:Pos} (h:PPs X pos ks vs (trC kvs)):PPs X pos (some (.Constant (.str x) j1 p1) :: ks) (.Constant (.int i) j2 p2 :: vs) (trC ((x,i) :: kvs)):=zoC pe_str pe_int h
theorem zh9:∀ (kvs:List (Str × Int)) {σ:St} {H:Hp} {Q:List (V × V)->Hp->Prop},Q (kvs.map fun kv=>(.str kv.1,.int kv.2)) H->tPairs (trC kvs) σ H Q
 | [],σ,H,Q,h=>h
 | kv :: r,σ,H,Q,h=>zh9 r (Q:=fun ps H3=>Q ((.str kv.1,.int kv.2) :: ps) H3) h
theorem DK.fold:∀ (kvs:List (Str × Int)) {acc:List (PV × PV)} {ks:List (Key × V)},DK K cl B φ H acc ks->DK K cl B φ H (kvs.foldl (fun acc kv=>IC.put (.str kv.1) (.int kv.2) acc) acc) (mergeK ks (kvs.map fun kv=>(Sum.inr kv.1,.int kv.2)))
 | [],acc,ks,l=>l
 | kv :: r,acc,ks,l=>by
  unfold mergeK
  simp only [List.foldl_cons,List.map_cons]
  exact DK.fold r (l.put (q:=Sum.inr kv.1) (x:=.int kv.2) (by simp only [RepV]))
theorem zp5 {ks:List (Option Expr)} {vs:List Expr} {kvs:List (Str × Int)} (h:PPs X pos ks vs (trC kvs)) (hall:ks.all (·.isSome)=true:=by rfl) (hl:ks.length=vs.length:=by rfl) (h0:ks ≠ []:=by simp) (h15:ks.length<=15:=by decide):PE X (.Dict ks vs pos) (tE S X (.newd kvs)) :=
 (zqb h hall hl h0 h15).imp fun σ H Q ⟨B,φ,st,ρ,rs,re,h⟩=>by
  simp only [ev] at h
  split at h
  ·rename_i c
   intro p hp
   refine zh9 kvs ⟨zav,kvs.map fun kv=>(Sum.inr kv.1,.int kv.2),by simp [kV],by simpa using c,?_⟩
   rw [zqV]
   exact h _ _ (φ++[some p]) (.push hp) (rs.push hp (rs.nB hp) ⟨_,zav,DK.fold kvs rfl⟩) (.loc_new rs)
  ·exact h.elim
end
noncomputable def Itd (lo:Int) (n:Nat):It:=⟨fun i _=>i < n,fun i H x H'=>H'=H/\x=.int (lo+i * (-1)),fun i _=>n<=i⟩
theorem zkk {P:Program} {w:World} {K:PySem.W.Frag} {tg:Expr} (it:Addr) (lo:Int) (n:Nat):Turn P w K tg (Itd lo n) [it] it (fun i h=>IsRangeIter h it (lo+(i:Nat) * (-1)) ((n:Int) - (i:Nat)) (-1)) where
 mem:=by simp
 obj:=fun i h st b hb=>by
  have e:b=it:=by simpa using hb
  subst e
  exact ⟨_,st,fun v z=>by
   have z':Data.fields _=Data.cell v:=z
   cases z'⟩
 keep:=fun i h h' st k=>k it (by simp) _ st
 item:=by
  intro X hP hw hK hc i pins s σ H E I hf st hg
  subst hP hw hK
  obtain ⟨f0,f1,f2,f3,f4,f5⟩:=hf it (by simp)
  have W:=Walks.range (prog:=X.prog) (w:=X.w) (I.ok.hd hc) it lo (-1) n
  refine W.item i s _ _ hg st fun v h' tk hv st' kk=>?_
  obtain ⟨t,rfl⟩:=hv
  have I1:Inv X pins σ H { s with heap:=h',toks:=tk }:=I.turned (fun b o hb e=>kk b o (by simpa using hb) e) f0 f1 f3 f4 f5
  exact ⟨_,rfl,zoc (s:={ s with heap:=h',toks:=tk }) (n:="range_iterator") st' rfl rfl (by decide) ⟨.int (lo+i * (-1)),H,I1,⟨t,rfl⟩,⟨rfl,rfl⟩,st',fun b hb=>(hf b hb).1⟩⟩
 done:=by
  intro X hP hw hK hc i pins s σ H E I hf st hg
  subst hP hw hK
  obtain ⟨f0,f1,f2,f3,f4,f5⟩:=hf it (by simp)
  exact wpAny_pyNext_range_end (I.ok.hd hc) st (by have:n<=i:=hg; omega) fun h' eb=>⟨rfl,I.turned (t':=s.toks) (fun b o hb e=>eb b o hb e) f0 f1 f3 f4 f5⟩
 self:=fun _ _ _ _ _ st h=>wpAny_pyIter_rangeiter st h
section
variable {S:Se} {X:Cx} {σ:St} {B:Addr->Prop} {φ:Ph} {H:Hp} {p pos p3 p4:Pos} {a b tg:Expr} {ca cb:Ce}
theorem zne {pins:List (Addr × Obj)} {σ:St} {H:Hp} {s:Shared} {R:It->Hp->Prop} {E:Value->Shared->Prop} {lo hi:Int} {t u v:Tok} {tk:Nat} (I:Inv X pins σ H s) (h1:lo.natAbs < 1000000000) (h2:hi.natAbs < 1000000000)
  (q:R (Itd lo (lo - hi).toNat) H):wpAny (model X.prog X.w) X.A (pyIter (.ref s.heap.objs.size)) (PIE X pins σ tg R) E { s with heap:=s.heap.push { cls:=.type "range",data:=.fields #[.int lo t,.int hi u,.int (-1) v] },toks:=tk }:=by
 refine wpAny_pyIter_range (IsRange.new ..) ?_ ?_
 ·unfold Builtin.Range.small
  have e2:Builtin.Range.rangeSize lo hi (-1)=((lo - hi).toNat:Int):=by
   unfold Builtin.Range.rangeSize
   rw [if_neg (by decide)]
   split
   ·rw [show -(-1:Int)=1 by decide,Int.ediv_one]; omega
   ·omega
  rw [e2]
  simp only [Builtin.Range.rangeFitsLong,Bool.and_eq_true,Bool.or_eq_true,decide_eq_true_eq,beq_iff_eq,show ¬ (-1:Int) > 0 by decide,if_false]
  omega
 have I1:Inv X pins σ H { s with heap:=s.heap.push { cls:=.type "range",data:=.fields #[.int lo t,.int hi u,.int (-1) v] },toks:=tk }:=I.kept fun b o e=>Heap.get?_push_of_some _ e
 refine ⟨(s.heap.push { cls:=.type "range",data:=.fields #[.int lo t,.int hi u,.int (-1) v] }).objs.size,[(s.heap.push { cls:=.type "range",data:=.fields #[.int lo t,.int hi u,.int (-1) v] }).objs.size],_,_,H,rfl,
  I1.kept (t':=tk) fun b o e=>Heap.get?_push_of_some _ e,zkk _ lo (lo - hi).toNat,?_,fun b hb=>?_,q⟩
 ·have e1:lo+((0:Nat):Int) * (-1)=lo:=by simp
  have e2:(((lo - hi).toNat:Nat):Int) - ((0:Nat):Int)=Builtin.Range.rangeSize lo hi (-1):=by
   unfold Builtin.Range.rangeSize
   rw [if_neg (by decide)]
   split
   ·rw [show -(-1:Int)=1 by decide,Int.ediv_one]; omega
   ·omega
  show IsRangeIter _ _ (lo+((0:Nat):Int) * (-1)) ((((lo - hi).toNat:Nat):Int) - ((0:Nat):Int)) (-1)
  rw [e1,e2]
  exact Heap.get?_push_size _ rfl
 ·have e:b=(s.heap.push { cls:=.type "range",data:=.fields #[.int lo t,.int hi u,.int (-1) v] }).objs.size:=by simpa using hb
  subst e
  exact I1.fpOk (Nat.le_refl _) (I1.hok.fresh (Nat.le_refl _))
theorem zlB {lo:Int} {n:Nat}:Drw S X B φ H (rangeL n lo (-1)) (Itd lo n):=by
 refine ⟨fun φ' H' s=>by rw [zaT]; exact Nat.le_refl _,fun i φ' H' s hi=>by rw [zaT] at hi; exact hi,fun i φ' H' st x H2 B' hB s rs hi q=>?_⟩
 rw [zaT] at hi
 obtain ⟨rfl,rfl⟩:=q
 refine ⟨.int (lo+i * (-1)),?_,by simp only [RepV],fun _ _ e=>e⟩
 rw [zcb,if_pos hi]
theorem zn0 {j:Nat} (hg:Gl X "range") (hm:X.mg "range"=none) (ha:PE X a (tE S X ca)) (hb:PE X b (tE S X cb)) (hs:starEach [a,b,.UnaryOp .USub (.Constant (.int 1) j p3) p4] X.env=[(false,eval a X.env),(false,eval b X.env),(false,eval (.UnaryOp .USub (.Constant (.int 1) j p3) p4) X.env)]:=by rfl)
  (hs1:starEach [b,.UnaryOp .USub (.Constant (.int 1) j p3) p4] X.env=[(false,eval b X.env),(false,eval (.UnaryOp .USub (.Constant (.int 1) j p3) p4) X.env)]:=by rfl) (hs2:starEach [.UnaryOp .USub (.Constant (.int 1) j p3) p4] X.env=[(false,eval (.UnaryOp .USub (.Constant (.int 1) j p3) p4) X.env)]:=by rfl) :
  PI X tg (.Call (.Name "range" p) [a,b,.UnaryOp .USub (.Constant (.int 1) j p3) p4] [] pos) (tI S X (.rangeD ca cb)):=by
 intro pins s σ H R I ⟨B,φ,st,ρ,rs,re,h⟩
 simp only [evi] at h
 have h0:(tCons (tE S X ca) (tCons (tE S X cb) (tCons (tUn (rU fun i=>.int (-i)) (tC (.int 1))) tNil))) σ H fun vs H1=>∃ i j:Int,vs=[.int i,.int j,.int (-1)]/\i.natAbs < 1000000000/\j.natAbs < 1000000000/\R (Itd i (i - j).toNat) H1:=by
  refine tE.bind rs re h fun x H1 v st1 φ1 s1 rs1 re1 rv h1=>tE.bind rs1 re1 h1 fun y H2 w st2 φ2 s2 rs2 re2 rw h2=>?_
  obtain ⟨xs,e,h2⟩:=zmy h2
  obtain ⟨i,j,rfl,rfl,hi,hj,rfl⟩:=zpc e
  simp only [RepV] at rv rw
  subst rv rw
  exact ⟨1,rfl,i,j,rfl,hi,hj,h2.ok rs2 zlB⟩
 refine Call_ (zik I hg hm boot_range (PyProof.Rows.callWith_type1 (thn (zd8 ha (zd8 hb (zd8 (zsd zpi pe_int) pa_nil hs2) (by rw [hs1,hs2])) (by rw [hs,hs1]) pos pins s σ H _ I h0) fun us s1 ⟨vs,H1,I1,r1,q1⟩=>?_) (by rw [hs,hs1]) (by rw [hs1]; rfl)))
 obtain ⟨i,j,e,hi,hj,q⟩:=q1
 subst e
 cases r1 with
 | cons r rr =>
  cases rr with
  | cons r' rr =>
   cases rr with
   | cons r'' rr =>
    cases rr
    obtain ⟨t,rfl⟩:=r
    obtain ⟨t',rfl⟩:=r'
    obtain ⟨t'',rfl⟩:=r''
    exact call_range_3 (by decide) (zne I1 hi hj q) (.inl (PyProof.noPylong_small (by decide)))
end
end L2
namespace WK
open PySem L2 IC
theorem zaq {K:PySem.W.Frag} {h:Heap} {mg:Str->Option Value} {x:Str} {st:Stmt} {ps:List Str} {f:Addr} {oc:Value} {od an:Option Addr} {osl:Array (Option Value)} {kV doc pm cdv ct:Value} (X:K.In h) (G:h.Ns mainGlobals mg)
  (a:PySem.W.nsIn K mainGlobals x=some (some (.ref f))) (l:K.lookup f=some ⟨oc,od,.func (PySem.W.fnOf x x (defArgs st) (defBody st) (defScope st) .none kV doc pm an cdv ct),osl⟩) (c:PySem.W.codeIn K cdv x=true) (k:PySem.W.keepIn K (.ref f)=true)
  (hb:∀ (kV doc pm:Value) (an:Option Addr) (cdv ct:Value) (us:List Value),us.length=ps.length->bindArgs (PySem.W.fnOf x x (defArgs st) (defBody st) (defScope st) .none kV doc pm an cdv ct) ⟨us,[]⟩=pure (ps.zip us)) :
  Fn K mg x st ps f (PySem.W.fnOf x x (defArgs st) (defBody st) (defScope st) .none kV doc pm an cdv ct):=⟨zph l c k,(zph l c k).binds hb,PySem.W.mg_of X G a⟩
noncomputable def clx:Nat->Addr:=fun _=>0
section
variable {K:PySem.W.Frag} {cl:Nat->Addr} {B:Addr->Prop} {φ:Ph} {H:Hp}
theorem zat:RepL K cl B φ H [] []:=by simp only [RepL]
theorem zh {v:PV} {x:V} {vs:List PV} {xs:List V} (h:RepV K cl B φ H v x) (l:RepL K cl B φ H vs xs):RepL K cl B φ H (v :: vs) (x :: xs):=by
 simp only [RepL]
 exact ⟨x,xs,rfl,h,l⟩
theorem zaC {y:Addr} {d:Option Addr} {its:Array Value} {n:Nat} {sl:Array (Option Value)} {xs:List V} {vs:List PV} (h:K.lookup y=some ⟨.type "tuple",d,.seq its n,sl⟩) (hz:its.size<=1000) (r:Vals xs its.toList) (l:RepL K cl B φ H vs xs):RepV K cl B φ H (.tp true vs) (.ref y):=by
 simp only [RepV]
 exact ⟨y,xs,rfl,.inr ⟨rfl,_,its,n,h,rfl,rfl,by rw [sizeLine_eq]; omega,r⟩,l⟩
end
theorem zsA {P:Program} {w:World} {outer:List PySem.Env} {H:Hp} {s:Shared} {e:Value} {s':Shared} (h:CX1 P w outer H s (fun _ _ _=>False) e s'):False:=by
 obtain ⟨_,_,_,_,_,_,_,_,_,_,_,_,_,_,z⟩:=h
 exact z
theorem zmW {K:PySem.W.Frag} {cl:Nat->Addr} {B:Addr->Prop} {φ:Ph} {H:Hp}:∀ ns:List Int,RepL K cl B φ H (ns.map .int) (ns.map V.int)
 | []=>zat
 | n :: ns=>zh (by simp only [RepV]) (zmW ns)
theorem znF {K:PySem.W.Frag} {call:Nat->List PV->Store->R PV} {fi:Nat} {H:Hp} {a:Addr} {ns:List Int} (ht:∀ ns:List Int,ns.length<=63->call fi [.scr (ns.map .int)] []=.ok (.bl true) []) (hl:ns.length<=63) (hS:SqL K H a (ns.map V.int)) :
  spI K clx call fi [.ref a] H (fun v _=>v=.bl true) fun _ _ _=>False:=by
 refine ⟨fun _=>False,[],[],[.scr (ns.map .int)],⟨rfl,fun m n a e=>by simp at e,fun n a e=>by simp at e,fun n o e=>by simp at e,fun a z=>by simp at z,fun a z=>z.elim⟩,zh ?_ zat,?_⟩
 ·simp only [RepV]
  refine ⟨a,_,rfl,?_,zmW ns⟩
  rcases hS with hS | hS
  ·exact .inl ⟨hS,fun z=>z,by simp⟩
  ·exact .inr hS
 ·rw [ht ns hl]
  intro x H' φ' _ _ r
  simpa only [RepV] using r
end WK
namespace IC
open PySem
noncomputable def zh0:PV:=(.tp true [(.str "f"),(.tp true [(.int 0),(.int 0),(.int 0),(.int 0)])])
noncomputable def zge:PV:=(.tp true [(.int 0),(.int 0),(.int 1)])
noncomputable def zbH:PV:=(.tp true [(.int 0),(.int 1),(.int 0)])
noncomputable def zdl:PV:=(.tp true [(.str "g"),(.tp true [(.int 0),(.int 0),(.int 0),(.int 0)])])
noncomputable def zpt:PV:=(.tp true [(.str "turned"),(.str "bare")])
noncomputable def zdn:PV:=(.tp true [(.tp true [(.str "m"),(.tp true [(.int 0),(.int 0),(.int 0),(.int 0)])]),(.tp true [(.str "m"),(.tp true [(.int 1),(.int 0),(.int 0),(.int 0)])]),(.tp true [(.str "m"),(.tp true [(.int 2),(.int 0),(.int 0),(.int 0)])]),(.tp true [(.str "m"),(.tp true [(.int 3),(.int 0),(.int 0),(.int 0)])])])
noncomputable def zgP:PV:=(.tp true [(.str "z"),(.tp true [(.int 0),(.int 0),(.int 0),(.int 0)])])
noncomputable def zkY:PV:=(.tp true [(.str "sum"),(.str "difference"),(.str "compare"),(.str "both"),(.str "any"),(.str "odd"),(.str "product"),(.str "signed product"),(.str "quotient"),(.str "signed quotient")])
noncomputable def zh8:PV:=(.tp true [(.str "both"),(.str "any"),(.str "odd")])
noncomputable def zju:PV:=(.tp true [(.str "s"),(.tp true [(.int 0),(.int 0),(.int 0),(.int 0)])])
noncomputable def zi4:PV:=(.tp true [(.str "left"),(.str "right"),(.str "down"),(.str "roll")])
noncomputable def zbx:PV:=(.tp true [(.str "k"),(.tp true [(.int 0),(.int 0),(.int 0),(.int 0)])])
noncomputable def zfp:PV:=(.tp true [(.str "i"),(.tp true [(.int 0),(.int 0),(.int 0),(.int 0)])])
noncomputable def zgG:PV:=(.tp true [(.str "j"),(.tp true [(.int 0),(.int 0),(.int 0),(.int 0)])])
noncomputable def zdT:PV:=(.tp true [(.str "t"),(.tp true [(.int 0),(.int 0),(.int 0),(.int 0)])])
noncomputable def zpu:Fn:=⟨5,5,true,(.cons (.ret (.tup (.cons (.var 0) (.cons (.tup (.cons (.var 1) (.cons (.var 2) (.cons (.var 3) (.cons (.var 4) .nil))))) .nil)))) .nil)⟩
noncomputable def zhA:Fn:=⟨1,1,true,(.cons (.ret (.call 0 (appC (.cons (.var 0) (.cons (.neg (.cst (.int 1))) .nil)) (tailC [.inr 0,.inr 0,.inl (.cst (.int 1))])))) .nil)⟩
noncomputable def zpo:Fn:=⟨1,1,true,(.cons (.ret (.blt .tuple (.cons (.comp [none] (.n 0) (.seq (.var 0)) (.cst (.bl true)) (.tup (.cons (.cst (.str "row")) (.cons (.var 0) .nil)))) .nil))) .nil)⟩
noncomputable def zlb:Fn:=⟨3,3,true,(.cons (.ret (.tup (.cons (.tup (.cons (.cst (.str "rounds")) (.cons (.var 0) (.cons (.var 1) (.cons (.var 2) .nil))))) .nil))) .nil)⟩
noncomputable def zk4:Fn:=⟨5,5,true,(.cons (.ret (.tup (.cons (.cst (.str "slice")) (.cons (.var 0) (.cons (.tup (.cons (.cst (.int 0)) (.cons (.cst (.int 0)) (.cons (.cst (.int 0)) (.cons (.cst (.int 0)) .nil))))) (.cons (.tup (.cons (.var 1) (.cons (.var 2) (.cons (.var 3) (.cons (.var 4) .nil))))) .nil)))))) .nil)⟩
noncomputable def zpj:Fn:=⟨6,6,true,(.cons (.ret (.tup (.cons (.var 0) (.cons (.tup (.cons (.cst (.int 0)) (.cons (.var 2) (.cons (.cst (.int 0)) (.cons (.var 3) (.cons (.var 4) (.cons (.var 5) .nil))))))) (.cons (.var 1) .nil))))) .nil)⟩
noncomputable def zmR:Fn:=⟨3,4,true,(.cons (.asg (.n 3) (.tup (.cons (.call 5 (appC (.cons (.cst (.int 1)) (.cons (.tup (.cons (.call 4 (appC (.cons (.var 1) .nil) (tailC [.inr 0,.inl (.cst (.int 1)),.inr 0,.inr 0]))) .nil)) .nil)) (tailC [.inr 0,.inr 0,.inr 0,.inr 0]))) (.cons (.call 5 (appC (.cons (.neg (.cst (.int 1))) (.cons (.tup (.cons (.call 4 (appC (.cons (.var 0) .nil) (tailC [.inr 0,.inl (.cst (.int 1)),.inr 0,.inr 0]))) .nil)) .nil)) (tailC [.inr 0,.inr 0,.inr 0,.inr 0]))) .nil)))) (.cons (.ret (.call 3 (.cons (.tup (.cons (.var 2) (.cons (.cst (.int 1)) (.cons (.cst (.int 0)) .nil)))) (.cons (.var 3) (.cons (.call 2 (.cons (.lst (.cons (.tup (.cons (.cst (.str "move")) (.cons (.call 0 (appC (.cons (.var 0) .nil) (tailC [.inr 0,.inl (.cst (.int 1)),.inr 0,.inr 0]))) (.cons (.call 0 (appC (.cons (.var 1) .nil) (tailC [.inr 0,.inl (.cst (.int 1)),.inr 0,.inr 0]))) .nil)))) .nil)) .nil)) .nil))))) .nil))⟩
noncomputable def zjY:Fn:=⟨2,2,true,(.cons (.ret (.call 3 (.cons (.var 1) (.cons (.tup .nil) (.cons (.call 2 (.cons (.lst (.cons (.tup (.cons (.cst (.str "twice")) (.cons (.call 0 (appC (.cons (.var 0) .nil) (tailC [.inr 0,.inr 0,.inl (.cst (.int 1)),.inr 0]))) (.cons (.call 0 (appC (.cons (.var 0) .nil) (tailC [.inr 0,.inr 0,.inl (.cst (.int 1)),.inr 0]))) .nil)))) .nil)) .nil)) .nil))))) .nil)⟩
noncomputable def zhp:Fn:=⟨1,1,true,(.cons (.ret (.tup (.cons (.cst (.str "sum")) (.cons (.var 0) (.cons (.cst zgP) (.cons (.cst zgP) .nil)))))) .nil)⟩
noncomputable def zd9:Fn:=⟨1,1,true,(.cons (.ret (.lst (.cons (.tup (.cons (.cst (.str "set")) (.cons (.var 0) (.cons (.cst (.int 1)) .nil)))) (.cons (.tup (.cons (.cst (.str "less")) (.cons (.var 0) (.cons (.var 0) (.cons (.cst zgP) .nil))))) .nil)))) .nil)⟩
noncomputable def zeZ:Fn:=⟨3,4,true,(.cons (.asg (.n 3) (.tup (.cons (.cst (.str "any")) (.cons (.cst zju) (.cons (.cst zju) (.cons (.call 0 (appC (.cons (.var 0) .nil) (tailC [.inr 0,.inl (.cst (.int 1)),.inr 0,.inl (.var 1)]))) .nil)))))) (.cons (.ret (.bin .add (.bin .add (.call 2 (.cons (.lst (.cons (.tup (.cons (.cst (.str "set")) (.cons (.cst zju) (.cons (.cst (.int 0)) .nil)))) .nil)) .nil)) (.call 3 (.cons (.var 2) (.cons (.tup .nil) (.cons (.call 2 (.cons (.lst (.cons (.var 3) .nil)) .nil)) .nil))))) (.call 2 (.cons (.lst (.cons (.tup (.cons (.cst (.str "ask")) (.cons (.cst zju) .nil))) .nil)) .nil)))) .nil))⟩
noncomputable def zey:Fn:=⟨2,3,true,(.cons (.asg (.n 2) (.lst (.cons (.tup (.cons (.cst (.str "twice")) (.cons (.cst zdT) (.cons (.call 0 (appC (.cons (.cst (.str "c")) (.cons (.bin .sub (.var 0) (.cst (.int 1))) .nil)) (tailC [.inr 0,.inr 0,.inl (.var 1)]))) .nil)))) (.cons (.call 8 (.cons (.idx (.cst zdn) (.cst (.int 3))) .nil)) .nil)))) (.cons (.ret (.bin .add (.call 10 (.cons (.cst (.str "c")) (.cons (.cst (.int 0)) (.cons (.tup (.cons (.var 0) (.cons (.var 1) (.cons (.cst (.int 0)) .nil)))) .nil)))) (.call 2 (.cons (.bin .add (.call 9 (.cons (.idx (.cst zdn) (.cst (.int 2))) .nil)) (.var 2)) .nil)))) .nil))⟩
noncomputable def zho:Fn:=⟨0,0,true,(.cons (.ret (.bin .add (.call 10 (.cons (.cst (.str "b")) (.cons (.cst (.int 0)) (.cons (.cst zbH) .nil)))) (.call 2 (.cons (.call 9 (.cons (.idx (.cst zdn) (.cst (.int 0))) .nil)) .nil)))) .nil)⟩
noncomputable def zjV:Fn:=⟨4,6,true,(.cons (.asg (.n 4) (.tup (.cons (.call 5 (appC (.cons (.cst (.int 1)) (.cons (.tup (.cons (.call 4 (appC (.cons (.var 0) .nil) (tailC [.inr 0,.inr 0,.inr 0,.inl (.cst (.int 1))]))) .nil)) .nil)) (tailC [.inl (.cst (.int 1)),.inr 0,.inr 0,.inr 0]))) (.cons (.call 5 (appC (.cons (.neg (.cst (.int 1))) (.cons (.tup (.cons (.call 4 (appC (.cons (.var 2) .nil) (tailC [.inr 0,.inr 0,.inr 0,.inl (.cst (.int 1))]))) (.cons (.call 4 (appC (.cons (.var 1) .nil) (tailC [.inr 0,.inr 0,.inr 0,.inl (.cst (.int 1))]))) .nil))) .nil)) (tailC [.inr 0,.inr 0,.inr 0,.inl (.cst (.int 1))]))) (.cons (.call 5 (appC (.cons (.neg (.cst (.int 1))) (.cons (.tup (.cons (.call 4 (appC (.cons (.var 3) (.cons (.cst (.int 1)) .nil)) (tailC [.inr 0,.inr 0,.inl (.cst (.int 1))]))) .nil)) .nil)) (tailC [.inr 0,.inr 0,.inr 0,.inl (.cst (.int 1))]))) (.cons (.call 5 (appC (.cons (.neg (.cst (.int 1))) (.cons (.tup (.cons (.call 4 (appC (.cons (.cst (.str "e")) .nil) (tailC [.inr 0,.inr 0,.inr 0,.inl (.cst (.int 1))]))) .nil)) .nil)) (tailC [.inr 0,.inr 0,.inr 0,.inr 0]))) .nil)))))) (.cons (.asg (.n 5) (.bin .add (.bin .add (.bin .add (.call 14 (.cons (.var 3) .nil)) (.call 15 (.cons (.var 3) (.cons (.var 1) .nil)))) (.call 16 (.cons (.var 3) (.cons (.var 1) .nil)))) (.call 17 (.cons (.var 2) .nil)))) (.cons (.ret (.bin .add (.call 6 (appC (.cons (.cst (.str "e")) (.cons (.var 0) .nil)) (tailC [.inr 0]))) (.call 3 (.cons (.cst zge) (.cons (.var 4) (.cons (.var 5) .nil)))))) .nil)))⟩
noncomputable def zgp:Fn:=⟨1,1,true,(.cons (.ret (.bin .add (.bin .add (.call 2 (.cons (.lst (.cons (.tup (.cons (.cst (.str "mark")) (.cons (.cst (.int 0)) .nil))) .nil)) .nil)) (.call 7 (.cons (.cst (.str "e")) (.cons (.cst zbH) .nil)))) (.call 7 (.cons (.var 0) (.cons (.tup (.cons (.cst (.int 1)) (.cons (.cst (.int 1)) (.cons (.cst (.int 0)) .nil)))) .nil))))) .nil)⟩
noncomputable def zeC:Fn:=⟨2,4,true,(.cons (.asg (.n 2) (.tup (.cons (.cst (.str "less")) (.cons (.call 0 (appC (.cons (.var 0) .nil) (tailC [.inr 0,.inr 0,.inl (.cst (.int 1)),.inr 0]))) (.cons (.call 0 (appC (.cons (.var 0) .nil) (tailC [.inr 0,.inr 0,.inl (.cst (.int 1)),.inr 0]))) (.cons (.call 0 (appC (.cons (.var 1) .nil) (tailC [.inr 0,.inr 0,.inl (.cst (.int 1)),.inr 0]))) .nil)))))) (.cons (.asg (.n 3) (.call 0 (appC (.cons (.var 0) .nil) (tailC [.inr 0,.inr 0,.inr 0,.inl (.cst (.int 1))])))) (.cons (.ret (.bin .add (.call 3 (.cons (.cst zbH) (.cons (.tup .nil) (.cons (.call 2 (.cons (.lst (.cons (.var 2) .nil)) .nil)) .nil)))) (.call 2 (.cons (.lst (.cons (.tup (.cons (.cst (.str "less")) (.cons (.var 3) (.cons (.var 3) (.cons (.cst zgP) .nil))))) .nil)) .nil)))) .nil)))⟩
noncomputable def zid:Fn:=⟨2,5,true,(.cons (.asg (.n 2) (.lst (.cons (.tup (.cons (.cst (.str "both")) (.cons (.cst zdT) (.cons (.call 0 (appC (.cons (.var 1) .nil) (tailC [.inr 0,.inr 0,.inl (.cst (.int 1)),.inr 0]))) (.cons (.cst zh0) .nil))))) (.cons (.tup (.cons (.cst (.str "sum")) (.cons (.call 0 (appC (.cons (.var 0) .nil) (tailC [.inr 0,.inr 0,.inl (.cst (.int 1)),.inr 0]))) (.cons (.call 0 (appC (.cons (.var 0) .nil) (tailC [.inr 0,.inr 0,.inl (.cst (.int 1)),.inr 0]))) (.cons (.cst zdT) .nil))))) .nil)))) (.cons (.asg (.n 3) (.call 0 (appC (.cons (.var 0) .nil) (tailC [.inr 0,.inr 0,.inr 0,.inl (.cst (.int 1))])))) (.cons (.asg (.n 4) (.call 2 (.cons (.lst (.cons (.tup (.cons (.cst (.str "less")) (.cons (.cst zh0) (.cons (.cst zgP) (.cons (.cst zgP) .nil))))) (.cons (.tup (.cons (.cst (.str "mark")) (.cons (.cst (.int 0)) .nil))) .nil))) .nil))) (.cons (.ret (.bin .add (.bin .add (.var 4) (.call 3 (.cons (.cst zbH) (.cons (.tup .nil) (.cons (.call 2 (.cons (.var 2) .nil)) .nil))))) (.call 2 (.cons (.lst (.cons (.tup (.cons (.cst (.str "sum")) (.cons (.var 3) (.cons (.var 3) (.cons (.cst zgP) .nil))))) .nil)) .nil)))) .nil))))⟩
noncomputable def zfs:Fn:=⟨1,1,true,(.cons (.ret (.bin .add (.call 2 (.cons (.lst (.cons (.tup (.cons (.cst (.str "bare")) (.cons (.cst zh0) (.cons (.cst zh0) .nil)))) (.cons (.tup (.cons (.cst (.str "ask")) (.cons (.cst zh0) .nil))) .nil))) .nil)) (.call 7 (.cons (.var 0) (.cons (.cst zbH) .nil))))) .nil)⟩
noncomputable def zbp:Fn:=⟨0,3,true,(.cons (.asg (.n 0) (.bin .add (.bin .add (.call 19 (.cons (.cst zfp) (.cons (.cst (.str "a")) .nil))) (.call 19 (.cons (.cst zgG) (.cons (.cst (.str "b")) .nil)))) (.call 2 (.cons (.lst (.cons (.tup (.cons (.cst (.str "odd")) (.cons (.cst zbx) (.cons (.cst zfp) (.cons (.cst zgG) .nil))))) .nil)) .nil)))) (.cons (.asg (.n 1) (.bin .add (.call 21 (.cons (.cst zfp) (.cons (.cst (.str "u")) (.cons (.cst (.str "a")) .nil)))) (.call 21 (.cons (.cst zgG) (.cons (.cst (.str "v")) (.cons (.cst (.str "b")) .nil)))))) (.cons (.asg (.n 2) (.bin .add (.call 21 (.cons (.cst zbx) (.cons (.cst (.str "c")) (.cons (.cst (.str "q")) .nil)))) (.call 21 (.cons (.cst zfp) (.cons (.cst (.str "d")) (.cons (.cst (.str "r")) .nil)))))) (.cons (.ret (.bin .add (.bin .add (.bin .add (.bin .add (.bin .add (.bin .add (.var 0) (.var 1)) (.call 13 (.cons (.cst (.str "u")) (.cons (.cst (.str "v")) (.cons (.cst (.str "q")) (.cons (.cst (.str "r")) .nil)))))) (.var 2)) (.call 12 .nil)) (.call 22 .nil)) (.call 11 (.cons (.cst (.int 0)) (.cons (.cst (.int 1)) .nil))))) .nil))))⟩
noncomputable def zhw:Fn:=⟨2,2,true,(.cons (.ret (.call 2 (.cons (.lst (.cons (.tup (.cons (.cst (.str "twice")) (.cons (.cst zdT) (.cons (.call 1 (.cons (.var 1) .nil)) .nil)))) (.cons (.call 8 (.cons (.var 0) .nil)) .nil))) .nil))) .nil)⟩
noncomputable def zie:Fn:=⟨1,1,true,(.cons (.ret (.call 4 (appC (.cons (.idx (.var 0) (.cst (.int 0))) (.cons (.cst (.int 1)) .nil)) (tailC [.inr 0,.inr 0,.inr 0])))) .nil)⟩
noncomputable def zez:Fn:=⟨3,4,true,(.cons (.asg (.n 3) (.tup (.cons (.call 5 (appC (.cons (.cst (.int 1)) (.cons (.tup (.cons (.call 4 (appC (.cons (.var 1) .nil) (tailC [.inr 0,.inl (.cst (.int 1)),.inr 0,.inr 0]))) .nil)) .nil)) (tailC [.inr 0,.inr 0,.inr 0,.inr 0]))) (.cons (.call 5 (appC (.cons (.cst (.int 1)) (.cons (.tup (.cons (.tup (.cons (.cst (.str "mark")) .nil)) .nil)) .nil)) (tailC [.inr 0,.inl (.cst (.int 1)),.inr 0,.inr 0]))) (.cons (.call 5 (appC (.cons (.neg (.cst (.int 1))) (.cons (.tup (.cons (.call 4 (appC (.cons (.var 2) .nil) (tailC [.inr 0,.inl (.cst (.int 1)),.inr 0,.inr 0]))) .nil)) .nil)) (tailC [.inr 0,.inr 0,.inr 0,.inr 0]))) (.cons (.call 5 (appC (.cons (.cst (.int 2)) (.cons (.tup (.cons (.call 20 (.cons (.var 0) .nil)) (.cons (.call 4 (appC (.cons (.var 2) .nil) (tailC [.inr 0,.inl (.cst (.int 1)),.inr 0,.inr 0]))) .nil))) .nil)) (tailC [.inr 0,.inr 0,.inr 0,.inr 0]))) (.cons (.call 5 (appC (.cons (.neg (.cst (.int 1))) (.cons (.tup (.cons (.call 20 (.cons (.var 0) .nil)) .nil)) .nil)) (tailC [.inr 0,.inl (.cst (.int 1)),.inr 0,.inr 0]))) .nil))))))) (.cons (.ret (.bin .add (.call 2 (.cons (.lst (.cons (.tup (.cons (.cst (.str "ask")) (.cons (.var 0) .nil))) (.cons (.tup (.cons (.cst (.str "less")) (.cons (.cst zdl) (.cons (.cst zgP) (.cons (.cst zgP) .nil))))) .nil))) .nil)) (.call 3 (.cons (.cst zbH) (.cons (.var 3) (.cons (.call 2 (.cons (.lst (.cons (.tup (.cons (.cst (.str "odd")) (.cons (.cst zdT) (.cons (.call 0 (appC (.cons (.var 2) .nil) (tailC [.inr 0,.inl (.cst (.int 1)),.inr 0,.inr 0]))) (.cons (.cst zdl) .nil))))) (.cons (.tup (.cons (.cst (.str "sum")) (.cons (.call 0 (appC (.cons (.var 1) .nil) (tailC [.inr 0,.inl (.cst (.int 1)),.inr 0,.inr 0]))) (.cons (.cst zdT) (.cons (.cst zgP) .nil))))) .nil))) .nil)) .nil)))))) .nil))⟩
noncomputable def zds:Fn:=⟨0,0,true,(.cons (.ret (.call 2 (.cons (.lst (.cons (.tup (.cons (.cst (.str "twice")) (.cons (.cst zdT) (.cons (.call 1 (.cons (.cst (.str "q")) .nil)) .nil)))) (.cons (.call 8 (.cons (.idx (.cst zdn) (.cst (.int 1))) .nil)) (.cons (.tup (.cons (.cst (.str "any")) (.cons (.idx (.cst zdn) (.cst (.int 1))) (.cons (.idx (.cst zdn) (.cst (.int 1))) (.cons (.cst zbx) .nil))))) (.cons (.tup (.cons (.cst (.str "odd")) (.cons (.idx (.cst zdn) (.cst (.int 1))) (.cons (.idx (.cst zdn) (.cst (.int 1))) (.cons (.cst zbx) .nil))))) .nil))))) .nil))) .nil)⟩
noncomputable def zjj:Fn:=⟨1,1,true,(.cons (.ite (.not (.call 24 (.cons (.var 0) .nil))) (.cons .nope .nil) .nil) (.cons (.ite (.cmp .eq (.idx (.var 0) (.cst (.int 0))) (.cst (.str "led"))) (.cons .nope .nil) .nil) (.cons (.ite (.cmp .isin (.idx (.var 0) (.cst (.int 0))) (.cst zi4)) (.cons .nope .nil) .nil) (.cons (.ite (.cmp .isin (.idx (.var 0) (.cst (.int 0))) (.cst zh8)) (.cons .nope .nil) .nil) (.cons (.ret (.call 25 (.cons (.idx (.var 0) (.cst (.int 0))) .nil))) .nil)))))⟩
noncomputable def zj1:Fn:=⟨1,1,true,(.cons (.ite (.or (.not (.isi (.var 0) [.tuple])) (.cmp .eq (.blt .len (.cons (.var 0) .nil)) (.cst (.int 0)))) (.cons .nope .nil) .nil) (.cons (.ite (.cmp .eq (.idx (.var 0) (.cst (.int 0))) (.cst (.str "led"))) (.cons .nope .nil) .nil) (.cons (.ite (.cmp .isin (.idx (.var 0) (.cst (.int 0))) (.cst zi4)) (.cons .nope .nil) .nil) (.cons (.ret (.and (.cmp .eq (.blt .len (.cons (.var 0) .nil)) (.cst (.int 1))) (.or (.cmp .isin (.idx (.var 0) (.cst (.int 0))) (.cst zkY)) (.cmp .isin (.idx (.var 0) (.cst (.int 0))) (.cst zpt))))) .nil))))⟩
noncomputable def zdP:Fn:=⟨1,1,true,(.cons (.ite (.cmp .eq (.var 0) (.cst (.str "sum"))) (.cons .nope .nil) .nil) (.cons (.ite (.cmp .eq (.var 0) (.cst (.str "difference"))) (.cons .nope .nil) .nil) (.cons (.ite (.cmp .eq (.var 0) (.cst (.str "turned"))) (.cons .nope .nil) .nil) (.cons (.ite (.cmp .eq (.var 0) (.cst (.str "compare"))) (.cons .nope .nil) .nil) (.cons (.ite (.cmp .eq (.var 0) (.cst (.str "bare"))) (.cons .nope .nil) .nil) (.cons (.ite (.cmp .eq (.var 0) (.cst (.str "product"))) (.cons .nope .nil) .nil) (.cons (.ite (.cmp .eq (.var 0) (.cst (.str "signed product"))) (.cons .nope .nil) .nil) (.cons (.ite (.cmp .eq (.var 0) (.cst (.str "quotient"))) (.cons .nope .nil) .nil) (.cons (.ret (.call 18 .nil)) .nil)))))))))⟩
noncomputable def zgL:Fn:=⟨1,1,false,(.cons (.ret (.newl (.cons (.slc (.var 0) (.cst .non) (.cst (.int 63))) (.cons (.cst (.int 0)) (.cons (.cst (.int 0)) (.cons (.cst (.bl false)) .nil)))))) .nil)⟩
noncomputable def f_qmixed:Fn:=⟨1,8,true,(.cons (.asg (.n 1) (.tup (.cons (.cst (.int 2147483647)) (.cons (.cst (.int 2147483629)) (.cons (.cst (.int 2147483587)) (.cons (.cst (.int 2147483579)) (.cons (.cst (.int 2147483563)) .nil))))))) (.cons (.asg (.n 2) (.cst (.int 0))) (.cons (.for (.t [3,4]) (.enum (.var 1)) (.cons (.asg (.n 5) (.bin .add (.var 0) (.idx (.tup (.cons (.cst (.int 11)) (.cons (.cst (.int 101)) (.cons (.cst (.int 1009)) (.cons (.cst (.int 10007)) (.cons (.cst (.int 100003)) .nil)))))) (.var 3)))) (.cons (.asg (.n 5) (.bin .mod (.bin .mul (.var 5) (.bin .add (.cst (.int 48271)) (.bin .mul (.cst (.int 2)) (.var 3)))) (.var 4))) (.cons (.asg (.n 6) (.bin .mod (.bin .mul (.var 5) (.var 5)) (.var 4))) (.cons (.asg (.n 7) (.bin .mod (.bin .mul (.bin .mod (.bin .mul (.var 6) (.var 6)) (.var 4)) (.var 5)) (.var 4))) (.cons (.asg (.n 2) (.bin .add (.bin .mul (.var 2) (.var 4)) (.var 7))) .nil)))))) (.cons (.ret (.var 2)) .nil))))⟩
noncomputable def zeT:Fn:=⟨1,4,false,(.cons (.asg (.t [1,2]) (.tup (.cons (.idx (.var 0) (.cst (.int 0))) (.cons (.idx (.var 0) (.cst (.int 1))) .nil)))) (.cons (.asg (.n 3) (.bin .add (.bin .mul (.cst (.int 31)) (.var 2)) (.cst (.int 7)))) (.cons (.ite (.cmp .gt (.blt .len (.cons (.var 1) .nil)) (.cst (.int 0))) (.cons (.asg (.n 3) (.bin .mul (.cst (.int 104729)) (.bin .fdiv (.var 2) (.blt .len (.cons (.var 1) .nil))))) (.cons (.asg (.n 3) (.bin .add (.var 3) (.idx (.var 1) (.bin .mod (.var 2) (.blt .len (.cons (.var 1) .nil)))))) .nil)) .nil) (.cons (.six (.var 0) (.cst (.int 1)) (.bin .add (.var 2) (.cst (.int 1)))) (.cons (.six (.var 0) (.cst (.int 3)) (.or (.cmp .ge (.var 2) (.blt .len (.cons (.var 1) .nil))) (.cmp .lt (.var 3) (.bin .pow (.cst (.int 10)) (.cst (.int 18)))))) (.cons (.ite (.idx (.var 0) (.cst (.int 3))) (.cons (.six (.var 0) (.cst (.int 2)) (.call 27 (.cons (.var 3) .nil))) .nil) (.cons (.six (.var 0) (.cst (.int 2)) (.bin .sub (.var 3) (.bin .pow (.cst (.int 10)) (.cst (.int 18))))) .nil)) .nil))))))⟩
noncomputable def f_qtake:Fn:=⟨2,4,false,(.cons (.asg (.n 2) (.cst (.int 0))) (.cons (.while (.and (.cmp .lt (.var 2) (.cst (.int 64))) (.or (.cmp .eq (.idx (.var 0) (.cst (.int 2))) (.cst (.int 0))) (.and (.idx (.var 0) (.cst (.int 3))) (.cmp .lt (.idx (.var 0) (.cst (.int 2))) (.bin .mul (.var 1) (.cst (.int 4096))))))) (.cons (.expr (.call 28 (.cons (.var 0) .nil))) (.cons (.aug 2 .add (.cst (.int 1))) (.cons (.ite (.and (.idx (.var 0) (.cst (.int 3))) (.cmp .lt (.idx (.var 0) (.cst (.int 2))) (.bin .mul (.var 1) (.cst (.int 4096))))) (.cons (.six (.var 0) (.cst (.int 2)) (.bin .add (.idx (.var 0) (.cst (.int 2))) (.bin .mul (.bin .mul (.var 1) (.cst (.int 4096))) (.bin .add (.cst (.int 1)) (.bin .mod (.idx (.var 0) (.cst (.int 2))) (.cst (.int 4093))))))) .nil) .nil) .nil)))) (.cons (.asg (.n 3) (.bin .mod (.idx (.var 0) (.cst (.int 2))) (.var 1))) (.cons (.six (.var 0) (.cst (.int 2)) (.bin .fdiv (.idx (.var 0) (.cst (.int 2))) (.var 1))) (.cons (.ret (.var 3)) .nil)))))⟩
noncomputable def f_qworth:Fn:=⟨3,13,false,(.cons (.asg (.n 3) (.call 29 (.cons (.var 0) (.cons (.cst (.int 12)) .nil)))) (.cons (.asg (.n 4) (.cst (.int 1))) (.cons (.for (.n 5) (.range1 (.bin .mul (.var 1) (.var 2))) (.cons (.asg (.n 4) (.bin .mul (.cst (.int 2)) (.var 4))) .nil)) (.cons (.asg (.n 6) (.tup (.cons (.cst (.int 0)) (.cons (.cst (.int 1)) (.cons (.bin .sub (.var 4) (.cst (.int 1))) (.cons (.bin .fdiv (.var 4) (.cst (.int 2))) (.cons (.bin .sub (.bin .fdiv (.var 4) (.cst (.int 2))) (.cst (.int 1))) (.cons (.bin .sub (.var 4) (.cst (.int 2))) .nil)))))))) (.cons (.ite (.cmp .lt (.var 3) (.cst (.int 6))) (.cons (.ret (.idx (.var 6) (.var 3))) .nil) .nil) (.cons (.asg (.n 7) (.call 29 (.cons (.var 0) (.cons (.var 4) .nil)))) (.cons (.ite (.cmp .eq (.var 3) (.cst (.int 6))) (.cons (.asg (.n 8) (.cst (.int 1))) (.cons (.for (.n 5) (.range1 (.call 29 (.cons (.var 0) (.cons (.bin .mul (.var 1) (.var 2)) .nil)))) (.cons (.asg (.n 8) (.bin .mul (.cst (.int 2)) (.var 8))) .nil)) (.cons (.ret (.bin .mul (.bin .fdiv (.var 7) (.var 8)) (.var 8))) .nil))) .nil) (.cons (.ite (.cmp .eq (.var 3) (.cst (.int 7))) (.cons (.asg (.n 8) (.cst (.int 1))) (.cons (.for (.n 5) (.range1 (.call 29 (.cons (.var 0) (.cons (.bin .mul (.var 1) (.var 2)) .nil)))) (.cons (.asg (.n 8) (.bin .mul (.cst (.int 2)) (.var 8))) .nil)) (.cons (.ret (.bin .sub (.var 4) (.var 8))) .nil))) .nil) (.cons (.ite (.cmp .gt (.var 3) (.cst (.int 9))) (.cons (.ret (.var 7)) .nil) .nil) (.cons (.asg (.n 9) (.cst (.int 1))) (.cons (.for (.n 5) (.range1 (.var 1)) (.cons (.asg (.n 9) (.bin .mul (.cst (.int 2)) (.var 9))) .nil)) (.cons (.asg (.n 10) (.cst (.int 0))) (.cons (.for (.n 5) (.range1 (.var 2)) (.cons (.asg (.n 11) (.bin .mod (.bin .fdiv (.var 7) (.bin .add (.var 5) (.cst (.int 1)))) (.var 9))) (.cons (.asg (.n 12) (.tup (.cons (.cst (.int 0)) (.cons (.cst (.int 1)) (.cons (.bin .sub (.var 9) (.cst (.int 1))) (.cons (.bin .fdiv (.var 9) (.cst (.int 2))) (.cons (.var 11) .nil))))))) (.cons (.asg (.n 10) (.bin .add (.bin .mul (.var 10) (.var 9)) (.idx (.var 12) (.call 29 (.cons (.var 0) (.cons (.cst (.int 5)) .nil)))))) .nil)))) (.cons (.ret (.var 10)) .nil))))))))))))))⟩
noncomputable def ze1:Fn:=⟨1,3,true,(.cons (.asg (.n 1) (.cst (.int 1))) (.cons (.for (.n 2) (.range1 (.var 0)) (.cons (.asg (.n 1) (.bin .mul (.cst (.int 2)) (.var 1))) .nil)) (.cons (.ret (.var 1)) .nil)))⟩
noncomputable def zgM:Fn:=⟨3,6,true,(.cons (.asg (.n 3) (.call 31 (.cons (.var 1) .nil))) (.cons (.asg (.n 4) (.newl .nil)) (.cons (.for (.n 5) (.range1 (.var 2)) (.cons (.expr (.mth .append (.var 4) (.cons (.bin .mod (.var 0) (.var 3)) .nil))) (.cons (.asg (.n 0) (.bin .fdiv (.var 0) (.var 3))) .nil))) (.cons (.ret (.blt .tuple (.cons (.var 4) .nil))) .nil))))⟩
noncomputable def zfB:Fn:=⟨2,3,true,(.cons (.asg (.n 2) (.call 31 (.cons (.var 1) .nil))) (.cons (.ite (.cmp .ge (.bin .mul (.cst (.int 2)) (.var 0)) (.var 2)) (.cons (.ret (.bin .sub (.var 0) (.var 2))) .nil) .nil) (.cons (.ret (.var 0)) .nil)))⟩
noncomputable def zk2:Fn:=⟨1,1,true,(.cons (.ret (.and (.isi (.var 0) [.int]) (.not (.isi (.var 0) [.bool])))) .nil)⟩
noncomputable def zjk:Fn:=⟨3,3,true,(.cons (.ite (.or (.not (.isi (.var 0) [.tuple])) (.cmp .ne (.blt .len (.cons (.var 0) .nil)) (.var 1))) (.cons .nope .nil) .nil) (.cons (.ret (.blt .all (.cons (.comp [none,some 2] (.n 0) (.seq (.var 0)) (.cst (.bl true)) (.and (.call 34 (.cons (.var 0) .nil)) (.chain .le .le (.bin .sub (.cst (.int 0)) (.var 1)) (.var 0) (.var 1)))) .nil))) .nil))⟩
noncomputable def zjG:Fn:=⟨1,1,true,(.cons (.ret (.and (.isi (.var 0) [.str]) (.and (.cmp .eq (.blt .len (.cons (.var 0) .nil)) (.cst (.int 1))) (.cmp .isin (.var 0) (.cst (.str "abcdefghijklmnopqrstuvwxyz")))))) .nil)⟩
noncomputable def zfw:Fn:=⟨1,1,true,(.cons (.ret (.and (.isi (.var 0) [.tuple]) (.and (.cmp .eq (.blt .len (.cons (.var 0) .nil)) (.cst (.int 2))) (.and (.call 36 (.cons (.idx (.var 0) (.cst (.int 0))) .nil)) (.call 35 (.cons (.idx (.var 0) (.cst (.int 1))) (.cons (.cst (.int 4)) (.cons (.cst (.int 200)) .nil)))))))) .nil)⟩
noncomputable def zex:Fn:=⟨1,2,true,(.cons (.ite (.or (.not (.isi (.var 0) [.tuple])) (.or (.cmp .lt (.blt .len (.cons (.var 0) .nil)) (.cst (.int 2))) (.not (.isi (.idx (.var 0) (.cst (.int 0))) [.str])))) (.cons .nope .nil) .nil) (.cons (.ite (.cmp .eq (.idx (.var 0) (.cst (.int 0))) (.cst (.str "mark"))) (.cons (.ret (.and (.cmp .eq (.blt .len (.cons (.var 0) .nil)) (.cst (.int 2))) (.and (.call 34 (.cons (.idx (.var 0) (.cst (.int 1))) .nil)) (.cmp .isin (.idx (.var 0) (.cst (.int 1))) (.tup (.cons (.cst (.int 0)) (.cons (.cst (.int 1)) .nil))))))) .nil) .nil) (.cons (.ite (.cmp .eq (.idx (.var 0) (.cst (.int 0))) (.cst (.str "ask"))) (.cons (.ret (.and (.cmp .eq (.blt .len (.cons (.var 0) .nil)) (.cst (.int 2))) (.call 37 (.cons (.idx (.var 0) (.cst (.int 1))) .nil)))) .nil) .nil) (.cons (.ite (.cmp .eq (.idx (.var 0) (.cst (.int 0))) (.cst (.str "set"))) (.cons (.ret (.and (.cmp .eq (.blt .len (.cons (.var 0) .nil)) (.cst (.int 3))) (.and (.call 37 (.cons (.idx (.var 0) (.cst (.int 1))) .nil)) (.and (.call 34 (.cons (.idx (.var 0) (.cst (.int 2))) .nil)) (.cmp .isin (.idx (.var 0) (.cst (.int 2))) (.tup (.cons (.cst (.int 0)) (.cons (.cst (.int 1)) .nil)))))))) .nil) .nil) (.cons (.asg (.n 1) (.newd [("move",3),("bare",3),("twice",3),("half",3),("sum",4),("less",4),("both",4),("any",4),("odd",4)])) (.cons (.dput (.var 1) (.cst (.str "times")) (.cst (.int 5))) (.cons (.ite (.or (.cmp .ne (.mth .get (.var 1) (.cons (.idx (.var 0) (.cst (.int 0))) (.cons (.cst (.int 0)) .nil))) (.blt .len (.cons (.var 0) .nil))) (.not (.blt .all (.cons (.comp [none] (.n 0) (.seq (.slc (.var 0) (.cst (.int 1)) (.cst .non))) (.cst (.bl true)) (.call 37 (.cons (.var 0) .nil))) .nil)))) (.cons .nope .nil) .nil) (.cons (.ret (.or (.cmp .ne (.idx (.var 0) (.cst (.int 0))) (.cst (.str "times"))) (.cmp .ne (.idx (.var 0) (.cst (.int 1))) (.idx (.var 0) (.cst (.int 2)))))) .nil))))))))⟩
noncomputable def zkU:Fn:=⟨1,1,true,(.cons (.ite (.cmp .eq (.var 0) (.tup (.cons (.cst (.str "mark")) .nil))) (.cons (.ret (.cst (.bl true))) .nil) .nil) (.cons (.ite (.or (.not (.isi (.var 0) [.tuple])) (.or (.cmp .ne (.blt .len (.cons (.var 0) .nil)) (.cst (.int 4))) (.or (.cmp .ne (.idx (.var 0) (.cst (.int 0))) (.cst (.str "slice"))) (.not (.call 36 (.cons (.idx (.var 0) (.cst (.int 1))) .nil)))))) (.cons .nope .nil) .nil) (.cons (.ret (.and (.call 35 (.cons (.idx (.var 0) (.cst (.int 2))) (.cons (.cst (.int 4)) (.cons (.cst (.int 200)) .nil)))) (.call 35 (.cons (.idx (.var 0) (.cst (.int 3))) (.cons (.cst (.int 4)) (.cons (.cst (.int 200)) .nil)))))) .nil)))⟩
noncomputable def zew:Fn:=⟨1,2,true,(.cons (.ite (.or (.not (.isi (.var 0) [.tuple])) (.cmp .gt (.blt .len (.cons (.var 0) .nil)) (.cst (.int 20)))) (.cons .nope .nil) .nil) (.cons (.for (.n 1) (.seq (.var 0)) (.cons (.ite (.or (.not (.isi (.var 1) [.tuple])) (.or (.cmp .ne (.blt .len (.cons (.var 1) .nil)) (.cst (.int 3))) (.not (.call 35 (.cons (.idx (.var 1) (.cst (.int 1))) (.cons (.cst (.int 6)) (.cons (.cst (.int 200)) .nil))))))) (.cons .nope .nil) .nil) (.cons (.ite (.or (.not (.call 34 (.cons (.idx (.var 1) (.cst (.int 0))) .nil))) (.or (.cmp .ge (.blt .abs (.cons (.idx (.var 1) (.cst (.int 0))) .nil)) (.bin .pow (.cst (.int 10)) (.cst (.int 40)))) (.not (.isi (.idx (.var 1) (.cst (.int 2))) [.tuple])))) (.cons .nope .nil) .nil) (.cons (.ite (.or (.cmp .gt (.blt .len (.cons (.idx (.var 1) (.cst (.int 2))) .nil)) (.cst (.int 2))) (.not (.blt .all (.cons (.comp [none] (.n 0) (.seq (.idx (.var 1) (.cst (.int 2)))) (.cst (.bl true)) (.call 39 (.cons (.var 0) .nil))) .nil)))) (.cons .nope .nil) .nil) .nil)))) (.cons (.ret (.cst (.bl true))) .nil)))⟩
noncomputable def zno:Fn:=⟨2,2,true,(.cons (.ite (.or (.not (.isi (.var 0) [.tuple])) (.cmp .lt (.blt .len (.cons (.var 0) .nil)) (.cst (.int 2)))) (.cons .nope .nil) .nil) (.cons (.ite (.cmp .eq (.idx (.var 0) (.cst (.int 0))) (.cst (.str "row"))) (.cons (.ret (.and (.cmp .eq (.blt .len (.cons (.var 0) .nil)) (.cst (.int 2))) (.call 38 (.cons (.idx (.var 0) (.cst (.int 1))) .nil)))) .nil) .nil) (.cons (.ite (.or (.cmp .ne (.idx (.var 0) (.cst (.int 0))) (.cst (.str "rounds"))) (.or (.cmp .ne (.blt .len (.cons (.var 0) .nil)) (.cst (.int 4))) (.or (.cmp .gt (.var 1) (.cst (.int 1))) (.not (.call 35 (.cons (.idx (.var 0) (.cst (.int 1))) (.cons (.cst (.int 3)) (.cons (.cst (.int 200)) .nil)))))))) (.cons .nope .nil) .nil) (.cons (.ite (.or (.not (.call 40 (.cons (.idx (.var 0) (.cst (.int 2))) .nil))) (.not (.isi (.idx (.var 0) (.cst (.int 3))) [.tuple]))) (.cons .nope .nil) .nil) (.cons (.ret (.blt .all (.cons (.comp [none,some 1] (.n 0) (.seq (.idx (.var 0) (.cst (.int 3)))) (.cst (.bl true)) (.call 41 (.cons (.var 0) (.cons (.bin .add (.var 1) (.cst (.int 1))) .nil)))) .nil))) .nil)))))⟩
noncomputable def zfk:Fn:=⟨1,1,true,(.cons (.ret (.and (.isi (.var 0) [.tuple]) (.blt .all (.cons (.comp [none] (.n 0) (.seq (.var 0)) (.cst (.bl true)) (.call 41 (.cons (.var 0) (.cons (.cst (.int 0)) .nil)))) .nil)))) .nil)⟩
noncomputable def zo6:Fn:=⟨4,4,true,(.cons (.ret (.bin .add (.bin .add (.bin .add (.idx (.var 0) (.cst (.int 0))) (.bin .mul (.idx (.var 0) (.cst (.int 1))) (.var 1))) (.bin .mul (.idx (.var 0) (.cst (.int 2))) (.var 2))) (.bin .mul (.idx (.var 0) (.cst (.int 3))) (.var 3)))) .nil)⟩
noncomputable def f_qplain_row:Fn:=⟨4,6,true,(.cons (.asg (.n 4) (.newl (.cons (.idx (.var 0) (.cst (.int 0))) .nil))) (.cons (.for (.n 5) (.seq (.slc (.var 0) (.cst (.int 1)) (.cst .non))) (.cons (.ite (.isi (.var 5) [.tuple]) (.cons (.expr (.mth .append (.var 4) (.cons (.tup (.cons (.idx (.var 5) (.cst (.int 0))) (.cons (.call 43 (.cons (.idx (.var 5) (.cst (.int 1))) (.cons (.var 1) (.cons (.var 2) (.cons (.var 3) .nil))))) .nil))) .nil))) .nil) (.cons (.expr (.mth .append (.var 4) (.cons (.var 5) .nil))) .nil)) .nil)) (.cons (.ret (.blt .tuple (.cons (.var 4) .nil))) .nil)))⟩
noncomputable def zbC:Fn:=⟨4,5,false,(.cons (.asg (.n 4) (.mth .get (.var 0) (.cons (.idx (.var 2) (.cst (.int 2))) (.cons (.cst (.int 0)) .nil)))) (.cons (.ite (.cmp .eq (.idx (.var 2) (.cst (.int 0))) (.cst (.str "move"))) (.cons (.dput (.var 0) (.idx (.var 2) (.cst (.int 1))) (.var 4)) .nil) .nil) (.cons (.ite (.cmp .eq (.idx (.var 2) (.cst (.int 0))) (.cst (.str "bare"))) (.cons (.dput (.var 0) (.idx (.var 2) (.cst (.int 1))) (.bin .sub (.bin .sub (.var 3) (.cst (.int 1))) (.var 4))) .nil) .nil) (.cons (.ite (.cmp .eq (.idx (.var 2) (.cst (.int 0))) (.cst (.str "twice"))) (.cons (.dput (.var 0) (.idx (.var 2) (.cst (.int 1))) (.bin .mod (.bin .add (.bin .mul (.cst (.int 2)) (.var 4)) (.var 1)) (.var 3))) (.cons (.ret (.bin .fdiv (.bin .add (.bin .mul (.cst (.int 2)) (.var 4)) (.var 1)) (.var 3))) .nil)) .nil) (.cons (.ite (.cmp .eq (.idx (.var 2) (.cst (.int 0))) (.cst (.str "half"))) (.cons (.dput (.var 0) (.idx (.var 2) (.cst (.int 1))) (.bin .add (.bin .fdiv (.var 4) (.cst (.int 2))) (.bin .mul (.var 1) (.bin .fdiv (.var 3) (.cst (.int 2)))))) (.cons (.ret (.bin .mod (.var 4) (.cst (.int 2)))) .nil)) .nil) (.cons (.ret (.var 1)) .nil))))))⟩
noncomputable def f_qdone:Fn:=⟨4,7,false,(.cons (.ite (.cmp .eq (.idx (.var 2) (.cst (.int 0))) (.cst (.str "mark"))) (.cons (.ret (.idx (.var 2) (.cst (.int 1)))) .nil) .nil) (.cons (.ite (.cmp .eq (.idx (.var 2) (.cst (.int 0))) (.cst (.str "ask"))) (.cons (.ret (.blt .int (.cons (.cmp .ne (.mth .get (.var 0) (.cons (.idx (.var 2) (.cst (.int 1))) (.cons (.cst (.int 0)) .nil))) (.cst (.int 0))) .nil))) .nil) .nil) (.cons (.ite (.cmp .eq (.idx (.var 2) (.cst (.int 0))) (.cst (.str "set"))) (.cons (.dput (.var 0) (.idx (.var 2) (.cst (.int 1))) (.idx (.var 2) (.cst (.int 2)))) (.cons (.ret (.var 1)) .nil)) .nil) (.cons (.ite (.cmp .eq (.blt .len (.cons (.var 2) .nil)) (.cst (.int 3))) (.cons (.ret (.call 45 (.cons (.var 0) (.cons (.var 1) (.cons (.var 2) (.cons (.var 3) .nil)))))) .nil) .nil) (.cons (.ite (.cmp .eq (.idx (.var 2) (.cst (.int 0))) (.cst (.str "times"))) (.cons (.asg (.n 4) (.bin .mul (.mth .get (.var 0) (.cons (.idx (.var 2) (.cst (.int 3))) (.cons (.cst (.int 0)) .nil))) (.mth .get (.var 0) (.cons (.idx (.var 2) (.cst (.int 4))) (.cons (.cst (.int 0)) .nil))))) (.cons (.dput (.var 0) (.idx (.var 2) (.cst (.int 1))) (.bin .mod (.var 4) (.var 3))) (.cons (.dput (.var 0) (.idx (.var 2) (.cst (.int 2))) (.bin .fdiv (.var 4) (.var 3))) (.cons (.ret (.var 1)) .nil)))) .nil) (.cons (.asg (.n 5) (.mth .get (.var 0) (.cons (.idx (.var 2) (.cst (.int 2))) (.cons (.cst (.int 0)) .nil)))) (.cons (.asg (.n 6) (.mth .get (.var 0) (.cons (.idx (.var 2) (.cst (.int 3))) (.cons (.cst (.int 0)) .nil)))) (.cons (.ite (.cmp .eq (.idx (.var 2) (.cst (.int 0))) (.cst (.str "sum"))) (.cons (.dput (.var 0) (.idx (.var 2) (.cst (.int 1))) (.bin .mod (.bin .add (.bin .add (.var 5) (.var 6)) (.var 1)) (.var 3))) (.cons (.ret (.bin .fdiv (.bin .add (.bin .add (.var 5) (.var 6)) (.var 1)) (.var 3))) .nil)) .nil) (.cons (.ite (.cmp .eq (.idx (.var 2) (.cst (.int 0))) (.cst (.str "less"))) (.cons (.dput (.var 0) (.idx (.var 2) (.cst (.int 1))) (.bin .mod (.bin .sub (.bin .sub (.var 5) (.var 6)) (.var 1)) (.var 3))) (.cons (.ret (.blt .int (.cons (.cmp .lt (.bin .sub (.bin .sub (.var 5) (.var 6)) (.var 1)) (.cst (.int 0))) .nil))) .nil)) .nil) (.cons (.ite (.cmp .eq (.idx (.var 2) (.cst (.int 0))) (.cst (.str "both"))) (.cons (.dput (.var 0) (.idx (.var 2) (.cst (.int 1))) (.bin .band (.var 5) (.var 6))) .nil) .nil) (.cons (.ite (.cmp .eq (.idx (.var 2) (.cst (.int 0))) (.cst (.str "any"))) (.cons (.dput (.var 0) (.idx (.var 2) (.cst (.int 1))) (.bin .bor (.var 5) (.var 6))) .nil) .nil) (.cons (.ite (.cmp .eq (.idx (.var 2) (.cst (.int 0))) (.cst (.str "odd"))) (.cons (.dput (.var 0) (.idx (.var 2) (.cst (.int 1))) (.bin .bxor (.var 5) (.var 6))) .nil) .nil) (.cons (.ret (.var 1)) .nil)))))))))))))⟩
noncomputable def zgK:Fn:=⟨3,3,true,(.cons (.ret (.bin .add (.bin .add (.idx (.var 0) (.cst (.int 0))) (.bin .mul (.idx (.var 0) (.cst (.int 1))) (.var 2))) (.bin .mul (.bin .mul (.idx (.var 0) (.cst (.int 2))) (.var 1)) (.var 2)))) .nil)⟩
noncomputable def f_qunrolled:Fn:=⟨4,11,true,(.cons (.asg (.n 4) (.newl .nil)) (.cons (.asg (.n 5) (.cst (.int 0))) (.cons (.for (.n 6) (.seq (.var 0)) (.cons (.ite (.cmp .eq (.idx (.var 6) (.cst (.int 0))) (.cst (.str "row"))) (.cons (.expr (.mth .append (.var 4) (.cons (.call 44 (.cons (.idx (.var 6) (.cst (.int 1))) (.cons (.cst (.int 0)) (.cons (.cst (.int 0)) (.cons (.var 2) .nil))))) .nil))) .nil) (.cons (.for (.n 7) (.range1 (.blt .min (.cons (.call 47 (.cons (.idx (.var 6) (.cst (.int 1))) (.cons (.var 1) (.cons (.var 2) .nil)))) (.cons (.cst (.int 4001)) .nil)))) (.cons (.aug 5 .add (.cst (.int 1))) (.cons (.for (.n 8) (.seq (.idx (.var 6) (.cst (.int 3)))) (.cons (.ite (.cmp .eq (.idx (.var 8) (.cst (.int 0))) (.cst (.str "row"))) (.cons (.expr (.mth .append (.var 4) (.cons (.call 44 (.cons (.idx (.var 8) (.cst (.int 1))) (.cons (.var 7) (.cons (.cst (.int 0)) (.cons (.var 2) .nil))))) .nil))) .nil) (.cons (.ite (.and (.cmp .le (.var 5) (.cst (.int 4000))) (.cmp .le (.blt .len (.cons (.var 4) .nil)) (.var 3))) (.cons (.asg (.n 9) (.blt .min (.cons (.blt .max (.cons (.cst (.int 0)) (.cons (.call 47 (.cons (.idx (.var 8) (.cst (.int 1))) (.cons (.var 1) (.cons (.var 2) .nil)))) .nil))) (.cons (.cst (.int 4001)) .nil)))) (.cons (.aug 5 .add (.var 9)) (.cons (.for (.n 10) (.range1 (.var 9)) (.cons (.ite (.and (.cmp .le (.var 5) (.cst (.int 4000))) (.cmp .le (.blt .len (.cons (.var 4) .nil)) (.var 3))) (.cons (.expr (.mth .extend (.var 4) (.cons (.comp [none,some 7,some 10,some 2] (.n 0) (.seq (.idx (.var 8) (.cst (.int 3)))) (.cst (.bl true)) (.call 44 (.cons (.idx (.var 0) (.cst (.int 1))) (.cons (.var 1) (.cons (.var 2) (.cons (.var 3) .nil)))))) .nil))) .nil) .nil) .nil)) .nil))) .nil) .nil)) .nil)) (.cons (.ite (.or (.cmp .gt (.var 5) (.cst (.int 4000))) (.cmp .gt (.blt .len (.cons (.var 4) .nil)) (.var 3))) (.cons (.ret (.cst .non)) .nil) .nil) .nil)))) .nil)) .nil)) (.cons (.ite (.cmp .gt (.blt .len (.cons (.var 4) .nil)) (.var 3)) (.cons (.ret (.cst .non)) .nil) .nil) (.cons (.ret (.frz (.var 4))) .nil)))))⟩
noncomputable def f_qrows_right:Fn:=⟨1,3,true,(.cons (.for (.n 1) (.seq (.var 0)) (.cons (.for (.n 2) (.seq (.slc (.var 1) (.cst (.int 1)) (.cst .non))) (.cons (.ite (.and (.isi (.var 2) [.tuple]) (.not (.chain .le .le (.cst (.int 0)) (.idx (.var 2) (.cst (.int 1))) (.cst (.int 99))))) (.cons (.ret (.cst (.bl false))) .nil) .nil) .nil)) (.cons (.ite (.and (.cmp .eq (.idx (.var 1) (.cst (.int 0))) (.cst (.str "times"))) (.or (.cmp .eq (.idx (.var 1) (.cst (.int 1))) (.idx (.var 1) (.cst (.int 2)))) (.cmp .isin (.idx (.idx (.var 1) (.cst (.int 2))) (.cst (.int 0))) (.cst (.str "ab"))))) (.cons (.ret (.cst (.bl false))) .nil) .nil) (.cons (.ite (.and (.cmp .notin (.idx (.var 1) (.cst (.int 0))) (.tup (.cons (.cst (.str "mark")) (.cons (.cst (.str "ask")) .nil)))) (.cmp .isin (.idx (.idx (.var 1) (.cst (.int 1))) (.cst (.int 0))) (.cst (.str "ab")))) (.cons (.ret (.cst (.bl false))) .nil) .nil) .nil)))) (.cons (.ret (.cst (.bl true))) .nil))⟩
noncomputable def zgE:Fn:=⟨4,7,false,(.cons (.asg (.n 4) (.dict0 true)) (.cons (.for (.t [5,6]) (.enum (.call 32 (.cons (.var 2) (.cons (.var 0) (.cons (.var 1) .nil))))) (.cons (.dput (.var 4) (.tup (.cons (.cst (.str "a")) (.cons (.var 5) .nil))) (.var 6)) .nil)) (.cons (.for (.t [5,6]) (.enum (.call 32 (.cons (.var 3) (.cons (.var 0) (.cons (.var 1) .nil))))) (.cons (.dput (.var 4) (.tup (.cons (.cst (.str "b")) (.cons (.var 5) .nil))) (.var 6)) .nil)) (.cons (.ret (.var 4)) .nil))))⟩
noncomputable def f_qrun:Fn:=⟨5,10,false,(.cons (.ite (.not (.call 42 (.cons (.var 0) .nil))) (.cons .nope .nil) .nil) (.cons (.asg (.n 5) (.call 48 (.cons (.var 0) (.cons (.var 1) (.cons (.var 2) (.cons (.cst (.int 4000)) .nil)))))) (.cons (.ite (.or (.cmp .is (.var 5) (.cst .non)) (.not (.call 49 (.cons (.var 5) .nil)))) (.cons .nope .nil) .nil) (.cons (.asg (.n 6) (.call 50 (.cons (.var 1) (.cons (.var 2) (.cons (.var 3) (.cons (.var 4) .nil)))))) (.cons (.asg (.n 7) (.call 31 (.cons (.var 1) .nil))) (.cons (.asg (.n 8) (.cst (.int 0))) (.cons (.for (.n 9) (.seq (.var 5)) (.cons (.asg (.n 8) (.call 46 (.cons (.var 6) (.cons (.var 8) (.cons (.var 9) (.cons (.var 7) .nil)))))) .nil)) (.cons (.ret (.var 6)) .nil))))))))⟩
noncomputable def ziv:Fn:=⟨4,7,false,(.cons (.asg (.n 4) (.call 31 (.cons (.var 3) .nil))) (.cons (.asg (.n 5) (.cst (.int 0))) (.cons (.for (.n 6) (.rangeD (.bin .sub (.var 2) (.cst (.int 1))) (.neg (.cst (.int 1)))) (.cons (.asg (.n 5) (.bin .add (.bin .mul (.var 5) (.var 4)) (.mth .get (.var 0) (.cons (.tup (.cons (.var 1) (.cons (.var 6) .nil))) (.cons (.cst (.int 0)) .nil))))) .nil)) (.cons (.ret (.var 5)) .nil))))⟩
noncomputable def zgD:Fn:=⟨1,1,false,(.cons (.ret (.blt .tuple (.cons (.comp [none,some 0] (.n 0) (.range1 (.cst (.int 4))) (.cst (.bl true)) (.mth .get (.var 1) (.cons (.tup (.cons (.cst (.str "m")) (.cons (.var 0) .nil))) (.cons (.cst (.int 0)) .nil)))) .nil))) .nil)⟩
noncomputable def zit:Fn:=⟨2,2,true,(.cons (.ret (.tup (.cons (.blt .int (.cons (.cmp .eq (.var 0) (.cst (.int 0))) .nil)) (.cons (.blt .int (.cons (.cmp .ge (.bin .mul (.cst (.int 2)) (.var 0)) (.call 31 (.cons (.var 1) .nil))) .nil)) .nil)))) .nil)⟩
noncomputable def f_qtwo:Fn:=⟨3,7,false,(.cons (.asg (.n 3) (.call 30 (.cons (.var 0) (.cons (.var 1) (.cons (.var 2) .nil))))) (.cons (.asg (.n 4) (.call 30 (.cons (.var 0) (.cons (.var 1) (.cons (.var 2) .nil))))) (.cons (.asg (.n 5) (.call 29 (.cons (.var 0) (.cons (.cst (.int 7)) .nil)))) (.cons (.asg (.n 6) (.call 31 (.cons (.call 29 (.cons (.var 0) (.cons (.bin .mul (.var 1) (.var 2)) .nil))) .nil))) (.cons (.ite (.or (.cmp .eq (.var 5) (.cst (.int 0))) (.cmp .eq (.var 5) (.cst (.int 5)))) (.cons (.asg (.n 4) (.bin .fdiv (.var 4) (.var 6))) .nil) .nil) (.cons (.ite (.cmp .eq (.var 5) (.cst (.int 1))) (.cons (.asg (.n 4) (.bin .add (.cst (.int 1)) (.call 29 (.cons (.var 0) (.cons (.cst (.int 9)) .nil))))) .nil) .nil) (.cons (.ite (.cmp .eq (.var 5) (.cst (.int 2))) (.cons (.asg (.n 4) (.var 6)) .nil) .nil) (.cons (.ite (.and (.or (.cmp .eq (.var 5) (.cst (.int 4))) (.cmp .eq (.var 5) (.cst (.int 5)))) (.cmp .gt (.var 4) (.cst (.int 0)))) (.cons (.asg (.n 3) (.blt .max (.cons (.cst (.int 0)) (.cons (.blt .min (.cons (.bin .sub (.call 31 (.cons (.bin .mul (.var 1) (.var 2)) .nil)) (.cst (.int 1))) (.cons (.bin .sub (.bin .add (.bin .mul (.bin .fdiv (.var 3) (.var 4)) (.var 4)) (.call 29 (.cons (.var 0) (.cons (.cst (.int 3)) .nil)))) (.cst (.int 1))) .nil))) .nil)))) .nil) .nil) (.cons (.ite (.cmp .eq (.var 5) (.cst (.int 6))) (.cons (.asg (.n 4) (.var 3)) .nil) .nil) (.cons (.ret (.tup (.cons (.var 3) (.cons (.var 4) .nil)))) .nil))))))))))⟩
noncomputable def f_law:Fn:=⟨1,15,true,(.cons (.asg (.n 1) (.call 26 (.cons (.var 0) .nil))) (.cons (.asg (.n 2) (.call 23 (.cons (.tup (.cons (.cst (.str "signed quotient")) .nil)) .nil))) (.cons (.asg (.n 3) (.bin .add (.cst (.int 1)) (.call 29 (.cons (.var 1) (.cons (.cst (.int 4)) .nil))))) (.cons (.asg (.n 4) (.bin .add (.cst (.int 4)) (.call 29 (.cons (.var 1) (.cons (.blt .min (.cons (.cst (.int 13)) (.cons (.bin .sub (.bin .fdiv (.cst (.int 40)) (.var 3)) (.cst (.int 3))) .nil))) .nil))))) (.cons (.ite (.cmp .eq (.call 29 (.cons (.var 1) (.cons (.cst (.int 32)) .nil))) (.cst (.int 5))) (.cons (.asg (.t [4,3]) (.tup (.cons (.bin .sub (.cst (.int 16)) (.bin .mod (.var 4) (.cst (.int 3)))) (.cons (.cst (.int 4)) .nil)))) .nil) .nil) (.cons (.asg (.n 5) (.call 31 (.cons (.bin .mul (.var 4) (.var 3)) .nil))) (.cons (.asg (.t [6,7]) (.call 55 (.cons (.var 1) (.cons (.var 4) (.cons (.var 3) .nil))))) (.cons (.asg (.n 8) (.call 29 (.cons (.var 1) (.cons (.cst (.int 8)) .nil)))) (.cons (.ite (.cmp .eq (.bin .mod (.var 8) (.cst (.int 2))) (.cst (.int 1))) (.cons (.asg (.n 6) (.bin .mod (.bin .sub (.cst (.int 0)) (.var 6)) (.var 5))) .nil) .nil) (.cons (.ite (.cmp .eq (.bin .mod (.bin .fdiv (.var 8) (.cst (.int 2))) (.cst (.int 2))) (.cst (.int 1))) (.cons (.asg (.n 7) (.bin .mod (.bin .sub (.cst (.int 0)) (.var 7)) (.var 5))) .nil) .nil) (.cons (.ite (.cmp .eq (.call 29 (.cons (.var 1) (.cons (.cst (.int 8)) .nil))) (.cst (.int 3))) (.cons (.asg (.n 6) (.bin .fdiv (.var 5) (.cst (.int 2)))) (.cons (.asg (.n 7) (.idx (.tup (.cons (.bin .sub (.var 5) (.cst (.int 1))) (.cons (.cst (.int 1)) (.cons (.cst (.int 2)) (.cons (.bin .fdiv (.var 5) (.cst (.int 2))) .nil))))) (.call 29 (.cons (.var 1) (.cons (.cst (.int 4)) .nil))))) .nil)) .nil) (.cons (.ite (.cmp .eq (.var 7) (.cst (.int 0))) (.cons (.asg (.n 7) (.bin .sub (.var 5) (.cst (.int 1)))) .nil) .nil) (.cons (.asg (.n 9) (.call 33 (.cons (.var 6) (.cons (.bin .mul (.var 4) (.var 3)) .nil)))) (.cons (.asg (.n 10) (.call 33 (.cons (.var 7) (.cons (.bin .mul (.var 4) (.var 3)) .nil)))) (.cons (.asg (.n 11) (.bin .fdiv (.blt .abs (.cons (.var 9) .nil)) (.blt .abs (.cons (.var 10) .nil)))) (.cons (.ite (.cmp .ne (.cmp .lt (.var 9) (.cst (.int 0))) (.cmp .lt (.var 10) (.cst (.int 0)))) (.cons (.asg (.n 11) (.bin .sub (.cst (.int 0)) (.var 11))) .nil) .nil) (.cons (.asg (.n 12) (.bin .sub (.var 9) (.bin .mul (.var 10) (.var 11)))) (.cons (.asg (.n 13) (.call 51 (.cons (.var 2) (.cons (.var 4) (.cons (.var 3) (.cons (.var 6) (.cons (.var 7) .nil))))))) (.cons (.ite (.or (.cmp .is (.var 13) (.cst .non)) (.or (.cmp .ne (.call 52 (.cons (.var 13) (.cons (.cst (.str "c")) (.cons (.var 3) (.cons (.var 4) .nil))))) (.bin .mod (.var 11) (.var 5))) (.cmp .ne (.call 52 (.cons (.var 13) (.cons (.cst (.str "d")) (.cons (.var 3) (.cons (.var 4) .nil))))) (.bin .mod (.var 12) (.var 5))))) (.cons .nope .nil) .nil) (.cons (.asg (.n 14) (.blt .int (.cons (.cmp .ge (.bin .mul (.cst (.int 2)) (.var 11)) (.var 5)) .nil))) (.cons (.ret (.cmp .eq (.call 53 (.cons (.var 13) .nil)) (.bin .add (.tup (.cons (.cst (.int 0)) (.cons (.var 14) .nil))) (.call 54 (.cons (.bin .mod (.var 11) (.var 5)) (.cons (.bin .mul (.var 4) (.var 3)) .nil)))))) .nil)))))))))))))))))))))⟩
noncomputable def T:Nat->Option Fn
 | 0=>some zpu
 | 1=>some zhA
 | 2=>some zpo
 | 3=>some zlb
 | 4=>some zk4
 | 5=>some zpj
 | 6=>some zmR
 | 7=>some zjY
 | 8=>some zhp
 | 9=>some zd9
 | 10=>some zeZ
 | 11=>some zey
 | 12=>some zho
 | 13=>some zjV
 | 14=>some zgp
 | 15=>some zeC
 | 16=>some zid
 | 17=>some zfs
 | 18=>some zbp
 | 19=>some zhw
 | 20=>some zie
 | 21=>some zez
 | 22=>some zds
 | 23=>some zjj
 | 24=>some zj1
 | 25=>some zdP
 | 26=>some zgL
 | 27=>some f_qmixed
 | 28=>some zeT
 | 29=>some f_qtake
 | 30=>some f_qworth
 | 31=>some ze1
 | 32=>some zgM
 | 33=>some zfB
 | 34=>some zk2
 | 35=>some zjk
 | 36=>some zjG
 | 37=>some zfw
 | 38=>some zex
 | 39=>some zkU
 | 40=>some zew
 | 41=>some zno
 | 42=>some zfk
 | 43=>some zo6
 | 44=>some f_qplain_row
 | 45=>some zbC
 | 46=>some f_qdone
 | 47=>some zgK
 | 48=>some f_qunrolled
 | 49=>some f_qrows_right
 | 50=>some zgE
 | 51=>some f_qrun
 | 52=>some ziv
 | 53=>some zgD
 | 54=>some zit
 | 55=>some f_qtwo
 | 56=>some f_law
 | _=>none
noncomputable abbrev zht:Nat:=23
noncomputable abbrev ziD:Nat:=26
noncomputable abbrev zlo:Nat:=27
noncomputable abbrev zmJ:Nat:=28
noncomputable abbrev zdb:Nat:=29
noncomputable abbrev zlw:Nat:=30
noncomputable abbrev zhr:Nat:=31
noncomputable abbrev zk1:Nat:=32
noncomputable abbrev ze0:Nat:=33
noncomputable abbrev zb0:Nat:=42
noncomputable abbrev zrO:Nat:=43
noncomputable abbrev zeb:Nat:=44
noncomputable abbrev zkn:Nat:=45
noncomputable abbrev zfU:Nat:=46
noncomputable abbrev zld:Nat:=47
noncomputable abbrev zdj:Nat:=48
noncomputable abbrev zcu:Nat:=49
noncomputable abbrev zlf:Nat:=50
noncomputable abbrev zh1:Nat:=51
noncomputable abbrev ziz:Nat:=52
noncomputable abbrev ziQ:Nat:=53
noncomputable abbrev zkb:Nat:=54
noncomputable abbrev znv:Nat:=55
noncomputable abbrev zns:Nat:=56
end IC
namespace WK
open PySem L2 IC
noncomputable def top (i:Nat):Stmt:=PySem.Challenge.pw_widewords_k42_signed_quotients_run.main.body.getD i (.Pass ⟨0,0,0,0⟩)
noncomputable abbrev zeu:Stmt:=top 9
theorem sc_word:FnScope ["letter","c","i","j","m"] ["letter","c","i","j","m"] (defScope zeu):=⟨rfl,rfl,rfl,by decide +kernel,rfl,by decide +kernel,by decide +kernel⟩
noncomputable abbrev zbG:Stmt:=top 10
theorem sc_last_word:FnScope ["letter"] ["letter"] (defScope zbG):=⟨rfl,rfl,rfl,by decide +kernel,rfl,by decide +kernel,by decide +kernel⟩
noncomputable abbrev zgc:Stmt:=top 11
theorem sc_rows:FnScope ["told"] ["told"] (defScope zgc):=⟨rfl,rfl,rfl,by decide +kernel,rfl,by decide +kernel,by decide +kernel⟩
noncomputable abbrev zeg:Stmt:=top 12
theorem sc_rounds:FnScope ["count","sentence","inner"] ["count","sentence","inner"] (defScope zeg):=⟨rfl,rfl,rfl,by decide +kernel,rfl,by decide +kernel,by decide +kernel⟩
noncomputable abbrev zcv:Stmt:=top 13
theorem sc_lowest:FnScope ["letter","c","i","j","m"] ["letter","c","i","j","m"] (defScope zcv):=⟨rfl,rfl,rfl,by decide +kernel,rfl,by decide +kernel,by decide +kernel⟩
noncomputable abbrev zfi:Stmt:=top 14
theorem sc_term:FnScope ["f","things","i","p","q","r"] ["f","things","i","p","q","r"] (defScope zfi):=⟨rfl,rfl,rfl,by decide +kernel,rfl,by decide +kernel,by decide +kernel⟩
noncomputable abbrev zcF:Stmt:=top 15
theorem sc_moved:FnScope ["to","source","c","sentence"] ["to","source","c"] (defScope zcF):=⟨rfl,rfl,rfl,by decide +kernel,rfl,by decide +kernel,by decide +kernel⟩
noncomputable abbrev zbX:Stmt:=top 16
theorem sc_doubled:FnScope ["letter","count"] ["letter","count"] (defScope zbX):=⟨rfl,rfl,rfl,by decide +kernel,rfl,by decide +kernel,by decide +kernel⟩
noncomputable abbrev zbE:Stmt:=top 17
theorem sc_kept_mark:FnScope ["to"] ["to"] (defScope zbE):=⟨rfl,rfl,rfl,by decide +kernel,rfl,by decide +kernel,by decide +kernel⟩
noncomputable abbrev zaE:Stmt:=top 18
theorem sc_kept_contrary:FnScope ["to"] ["to"] (defScope zaE):=⟨rfl,rfl,rfl,by decide +kernel,rfl,by decide +kernel,by decide +kernel⟩
noncomputable abbrev zal:Stmt:=top 21
theorem sc_asked_words:FnScope ["letter","m","count","gathered"] ["letter","m","count"] (defScope zal):=⟨rfl,rfl,rfl,by decide +kernel,rfl,by decide +kernel,by decide +kernel⟩
noncomputable abbrev zM:Stmt:=top 22
theorem sc_answer_marks:FnScope ["c","m","sign"] ["c","m"] (defScope zM):=⟨rfl,rfl,rfl,by decide +kernel,rfl,by decide +kernel,by decide +kernel⟩
noncomputable abbrev zaN:Stmt:=top 42
theorem sc_by_nought:FnScope [] [] (defScope zaN):=⟨rfl,rfl,rfl,by decide +kernel,rfl,by decide +kernel,by decide +kernel⟩
noncomputable abbrev zaB:Stmt:=top 43
theorem sc_divided:FnScope ["x","y","answer","rest","sentence","one_place"] ["x","y","answer","rest"] (defScope zaB):=⟨rfl,rfl,rfl,by decide +kernel,rfl,by decide +kernel,by decide +kernel⟩
noncomputable abbrev zaJ:Stmt:=top 44
theorem sc_next_place:FnScope ["rest"] ["rest"] (defScope zaJ):=⟨rfl,rfl,rfl,by decide +kernel,rfl,by decide +kernel,by decide +kernel⟩
noncomputable abbrev zV:Stmt:=top 45
theorem sc_less_divisor:FnScope ["rest","y","taken","top"] ["rest","y"] (defScope zV):=⟨rfl,rfl,rfl,by decide +kernel,rfl,by decide +kernel,by decide +kernel⟩
noncomputable abbrev zax:Stmt:=top 46
theorem sc_put_back:FnScope ["rest","y","added","top","begun"] ["rest","y"] (defScope zax):=⟨rfl,rfl,rfl,by decide +kernel,rfl,by decide +kernel,by decide +kernel⟩
noncomputable abbrev zam:Stmt:=top 47
theorem sc_next_figure:FnScope ["answer"] ["answer"] (defScope zam):=⟨rfl,rfl,rfl,by decide +kernel,rfl,by decide +kernel,by decide +kernel⟩
noncomputable abbrev zl:Stmt:=top 67
theorem sc_signed_quotient_telling:FnScope ["signs","begun","ended"] [] (defScope zl):=⟨rfl,rfl,rfl,by decide +kernel,rfl,by decide +kernel,by decide +kernel⟩
noncomputable abbrev zaO:Stmt:=top 68
theorem sc_kept_sign:FnScope ["to","letter"] ["to","letter"] (defScope zaO):=⟨rfl,rfl,rfl,by decide +kernel,rfl,by decide +kernel,by decide +kernel⟩
noncomputable abbrev zb6:Stmt:=top 69
theorem sc_worth_of:FnScope ["cell"] ["cell"] (defScope zb6):=⟨rfl,rfl,rfl,by decide +kernel,rfl,by decide +kernel,by decide +kernel⟩
noncomputable abbrev zA:Stmt:=top 76
theorem sc_turned_where:FnScope ["sign","to","source","sentence"] ["sign","to","source"] (defScope zA):=⟨rfl,rfl,rfl,by decide +kernel,rfl,by decide +kernel,by decide +kernel⟩
noncomputable abbrev zJ:Stmt:=top 77
theorem sc_unfit_quotient:FnScope [] [] (defScope zJ):=⟨rfl,rfl,rfl,by decide +kernel,rfl,by decide +kernel,by decide +kernel⟩
noncomputable abbrev zbr:Stmt:=top 93
theorem sc_telling:FnScope ["deed"] ["deed"] (defScope zbr):=⟨rfl,rfl,rfl,by decide +kernel,rfl,by decide +kernel,by decide +kernel⟩
noncomputable abbrev za8:Stmt:=top 94
theorem sc_is_deed:FnScope ["thing"] ["thing"] (defScope za8):=⟨rfl,rfl,rfl,by decide +kernel,rfl,by decide +kernel,by decide +kernel⟩
noncomputable abbrev zay:Stmt:=top 96
theorem sc_named_telling:FnScope ["name"] ["name"] (defScope zay):=⟨rfl,rfl,rfl,by decide +kernel,rfl,by decide +kernel,by decide +kernel⟩
noncomputable abbrev zeh:Stmt:=top 98
theorem sc_qfresh:FnScope ["_law_script"] ["_law_script"] (defScope zeh):=⟨rfl,rfl,rfl,by decide +kernel,rfl,by decide +kernel,by decide +kernel⟩
noncomputable abbrev zdh:Stmt:=top 99
theorem sc_qmixed:FnScope ["_law_seed","_law_primes","_law_number","_law_k","_law_prime","_law_far","_law_square","_law_power"] ["_law_seed"] (defScope zdh):=⟨rfl,rfl,rfl,by decide +kernel,rfl,by decide +kernel,by decide +kernel⟩
noncomputable abbrev zdU:Stmt:=top 100
theorem sc_qfill:FnScope ["_law_state","_law_cells","_law_at_here","_law_seed"] ["_law_state"] (defScope zdU):=⟨rfl,rfl,rfl,by decide +kernel,rfl,by decide +kernel,by decide +kernel⟩
noncomputable abbrev zeQ:Stmt:=top 101
theorem sc_qtake:FnScope ["_law_state","_law_many","_law_turns","_law_digit"] ["_law_state","_law_many"] (defScope zeQ):=⟨rfl,rfl,rfl,by decide +kernel,rfl,by decide +kernel,by decide +kernel⟩
noncomputable abbrev zcR:Stmt:=top 102
theorem sc_qworth:FnScope ["_law_state","_law_w","_law_n","_law_way","_law_top","_law_k","_law_edges","_law_any_one","_law_low","_law_wide","_law_worth_here","_law_some","_law_words_here"] ["_law_state","_law_w","_law_n"] (defScope zcR):=⟨rfl,rfl,rfl,by decide +kernel,rfl,by decide +kernel,by decide +kernel⟩
noncomputable abbrev zcC:Stmt:=top 103
theorem sc_qtwo_to:FnScope ["_law_many","_law_found","_law_k"] ["_law_many"] (defScope zcC):=⟨rfl,rfl,rfl,by decide +kernel,rfl,by decide +kernel,by decide +kernel⟩
noncomputable abbrev zct:Stmt:=top 104
theorem sc_qwords:FnScope ["_law_worth_here","_law_w","_law_n","_law_wide","_law_words_here","_law_k"] ["_law_worth_here","_law_w","_law_n"] (defScope zct):=⟨rfl,rfl,rfl,by decide +kernel,rfl,by decide +kernel,by decide +kernel⟩
noncomputable abbrev zcD:Stmt:=top 105
theorem sc_qsigned:FnScope ["_law_worth_here","_law_many","_law_top"] ["_law_worth_here","_law_many"] (defScope zcD):=⟨rfl,rfl,rfl,by decide +kernel,rfl,by decide +kernel,by decide +kernel⟩
noncomputable abbrev zcs:Stmt:=top 106
theorem sc_qwhole:FnScope ["_law_thing_here"] ["_law_thing_here"] (defScope zcs):=⟨rfl,rfl,rfl,by decide +kernel,rfl,by decide +kernel,by decide +kernel⟩
noncomputable abbrev zbi:Stmt:=top 107
theorem sc_qwholes:FnScope ["_law_thing_here","_law_many","_law_most"] ["_law_thing_here","_law_many","_law_most"] (defScope zbi):=⟨rfl,rfl,rfl,by decide +kernel,rfl,by decide +kernel,by decide +kernel⟩
noncomputable abbrev zbS:Stmt:=top 108
theorem sc_qletter:FnScope ["_law_thing_here"] ["_law_thing_here"] (defScope zbS):=⟨rfl,rfl,rfl,by decide +kernel,rfl,by decide +kernel,by decide +kernel⟩
noncomputable abbrev zZ:Stmt:=top 109
theorem sc_qindex_cell:FnScope ["_law_thing_here"] ["_law_thing_here"] (defScope zZ):=⟨rfl,rfl,rfl,by decide +kernel,rfl,by decide +kernel,by decide +kernel⟩
noncomputable abbrev zF:Stmt:=top 110
theorem sc_qtelling_row:FnScope ["_law_row","_law_lengths"] ["_law_row"] (defScope zF):=⟨rfl,rfl,rfl,by decide +kernel,rfl,by decide +kernel,by decide +kernel⟩
noncomputable abbrev zb2:Stmt:=top 111
theorem sc_qthing:FnScope ["_law_thing_here"] ["_law_thing_here"] (defScope zb2):=⟨rfl,rfl,rfl,by decide +kernel,rfl,by decide +kernel,by decide +kernel⟩
noncomputable abbrev zE:Stmt:=top 112
theorem sc_qis_sentence:FnScope ["_law_told","_law_term"] ["_law_told"] (defScope zE):=⟨rfl,rfl,rfl,by decide +kernel,rfl,by decide +kernel,by decide +kernel⟩
noncomputable abbrev zbV:Stmt:=top 113
theorem sc_qpart:FnScope ["_law_part_here","_law_deep"] ["_law_part_here","_law_deep"] (defScope zbV):=⟨rfl,rfl,rfl,by decide +kernel,rfl,by decide +kernel,by decide +kernel⟩
noncomputable abbrev zan:Stmt:=top 114
theorem sc_qis_telling:FnScope ["_law_told"] ["_law_told"] (defScope zan):=⟨rfl,rfl,rfl,by decide +kernel,rfl,by decide +kernel,by decide +kernel⟩
noncomputable abbrev zlC:Stmt:=top 115
theorem sc_qat:FnScope ["_law_index","_law_i","_law_j","_law_n"] ["_law_index","_law_i","_law_j","_law_n"] (defScope zlC):=⟨rfl,rfl,rfl,by decide +kernel,rfl,by decide +kernel,by decide +kernel⟩
noncomputable abbrev zaM:Stmt:=top 116
theorem sc_qplain_row:FnScope ["_law_row","_law_i","_law_j","_law_n","_law_told","_law_part_here"] ["_law_row","_law_i","_law_j","_law_n"] (defScope zaM):=⟨rfl,rfl,rfl,by decide +kernel,rfl,by decide +kernel,by decide +kernel⟩
noncomputable abbrev zcc:Stmt:=top 117
theorem sc_qone_done:FnScope ["_law_cells","_law_mark","_law_row","_law_wide","_law_x"] ["_law_cells","_law_mark","_law_row","_law_wide"] (defScope zcc):=⟨rfl,rfl,rfl,by decide +kernel,rfl,by decide +kernel,by decide +kernel⟩
noncomputable abbrev zdd:Stmt:=top 118
theorem sc_qdone:FnScope ["_law_cells","_law_mark","_law_row","_law_wide","_law_both","_law_x","_law_y"] ["_law_cells","_law_mark","_law_row","_law_wide"] (defScope zdd):=⟨rfl,rfl,rfl,by decide +kernel,rfl,by decide +kernel,by decide +kernel⟩
noncomputable abbrev zee:Stmt:=top 119
theorem sc_qcount:FnScope ["_law_count_here","_law_w","_law_n"] ["_law_count_here","_law_w","_law_n"] (defScope zee):=⟨rfl,rfl,rfl,by decide +kernel,rfl,by decide +kernel,by decide +kernel⟩
noncomputable abbrev zak:Stmt:=top 120
theorem sc_qunrolled:FnScope ["_law_told","_law_w","_law_n","_law_most","_law_rows","_law_rounds","_law_part_here","_law_i","_law_inner","_law_many","_law_j"] ["_law_told","_law_w","_law_n","_law_most"] (defScope zak):=⟨rfl,rfl,rfl,by decide +kernel,rfl,by decide +kernel,by decide +kernel⟩
noncomputable abbrev zaL:Stmt:=top 121
theorem sc_qrows_right:FnScope ["_law_rows","_law_row","_law_part_here"] ["_law_rows"] (defScope zaL):=⟨rfl,rfl,rfl,by decide +kernel,rfl,by decide +kernel,by decide +kernel⟩
noncomputable abbrev zcO:Stmt:=top 122
theorem sc_qbegun:FnScope ["_law_w","_law_n","_law_x","_law_y","_law_cells","_law_k","_law_word"] ["_law_w","_law_n","_law_x","_law_y"] (defScope zcO):=⟨rfl,rfl,rfl,by decide +kernel,rfl,by decide +kernel,by decide +kernel⟩
noncomputable abbrev zdo:Stmt:=top 123
theorem sc_qrun:FnScope ["_law_told","_law_w","_law_n","_law_x","_law_y","_law_rows","_law_cells","_law_wide","_law_mark","_law_row"] ["_law_told","_law_w","_law_n","_law_x","_law_y"] (defScope zdo):=⟨rfl,rfl,rfl,by decide +kernel,rfl,by decide +kernel,by decide +kernel⟩
noncomputable abbrev zdH:Stmt:=top 124
theorem sc_qread:FnScope ["_law_cells","_law_letter_here","_law_many","_law_w","_law_wide","_law_worth_here","_law_k"] ["_law_cells","_law_letter_here","_law_many","_law_w"] (defScope zdH):=⟨rfl,rfl,rfl,by decide +kernel,rfl,by decide +kernel,by decide +kernel⟩
noncomputable abbrev zcQ:Stmt:=top 125
theorem sc_qmarks:FnScope ["_law_cells"] ["_law_cells"] (defScope zcQ):=⟨rfl,rfl,rfl,by decide +kernel,rfl,by decide +kernel,by decide +kernel⟩
noncomputable abbrev zdL:Stmt:=top 126
theorem sc_qends:FnScope ["_law_worth_here","_law_many"] ["_law_worth_here","_law_many"] (defScope zdL):=⟨rfl,rfl,rfl,by decide +kernel,rfl,by decide +kernel,by decide +kernel⟩
noncomputable abbrev zdW:Stmt:=top 127
theorem sc_qtwo:FnScope ["_law_state","_law_w","_law_n","_law_x","_law_y","_law_way","_law_low"] ["_law_state","_law_w","_law_n"] (defScope zdW):=⟨rfl,rfl,rfl,by decide +kernel,rfl,by decide +kernel,by decide +kernel⟩
noncomputable abbrev zc8:Stmt:=top 128
theorem sc_law:FnScope ["_law_script","_law_state","_law_told","_law_n","_law_w","_law_top","_law_x","_law_y","_law_turns","_law_first","_law_other","_law_quotient","_law_rest","_law_cells","_law_over"] ["_law_script"] (defScope zc8):=⟨rfl,rfl,rfl,by decide +kernel,rfl,by decide +kernel,by decide +kernel⟩
theorem zhc:VisAll ["letter","c","i","j","m"] (defScope zeu):=by unfold VisAll; decide +kernel
theorem zjJ:VisAll ["letter"] (defScope zbG):=by unfold VisAll; decide +kernel
abbrev GI (s:Stmt) (x:String):Prop:=(defScope s).names.lookup (Str.ofString x)=some .globalImplicit
theorem zfW:GI zbG "word":=by decide +kernel
theorem zqH:VisAll ["told"] (defScope zgc):=by unfold VisAll; decide +kernel
theorem ziR:GI zgc "tuple":=by decide +kernel
theorem zgX:VisAll ["count","sentence","inner"] (defScope zeg):=by unfold VisAll; decide +kernel
theorem zdY:VisAll ["letter","c","i","j","m"] (defScope zcv):=by unfold VisAll; decide +kernel
theorem zfV:VisAll ["f","things","i","p","q","r"] (defScope zfi):=by unfold VisAll; decide +kernel
theorem zda:VisAll ["to","source","c","sentence"] (defScope zcF):=by unfold VisAll; decide +kernel
theorem zec:GI zcF "lowest":=by decide +kernel
theorem zgQ:GI zcF "rounds":=by decide +kernel
theorem ziN:GI zcF "rows":=by decide +kernel
theorem zfc:GI zcF "term":=by decide +kernel
theorem ze2:GI zcF "word":=by decide +kernel
theorem zfO:VisAll ["letter","count"] (defScope zbX):=by unfold VisAll; decide +kernel
theorem zfJ:GI zbX "rounds":=by decide +kernel
theorem zhs:GI zbX "rows":=by decide +kernel
theorem zdQ:GI zbX "word":=by decide +kernel
theorem zjm:VisAll ["to"] (defScope zbE):=by unfold VisAll; decide +kernel
theorem zdp:GI zbE "NIL":=by decide +kernel
theorem zck:VisAll ["to"] (defScope zaE):=by unfold VisAll; decide +kernel
theorem zem:GI zaE "NIL":=by decide +kernel
theorem zbw:VisAll ["letter","m","count","gathered"] (defScope zal):=by unfold VisAll; decide +kernel
theorem za2:GI zal "SEEN":=by decide +kernel
theorem zdX:GI zal "rounds":=by decide +kernel
theorem zbI:GI zal "rows":=by decide +kernel
theorem zeH:GI zal "word":=by decide +kernel
theorem zaU:VisAll ["c","m","sign"] (defScope zM):=by unfold VisAll; decide +kernel
theorem zcg:GI zM "MARKS":=by decide +kernel
theorem zd4:GI zM "SPARE":=by decide +kernel
theorem zcI:GI zM "asked_words":=by decide +kernel
theorem zcl:GI zM "kept_contrary":=by decide +kernel
theorem zcY:GI zM "kept_mark":=by decide +kernel
theorem zel:GI zM "rows":=by decide +kernel
theorem zeq:GI zM "word":=by decide +kernel
theorem zdF:GI zaN "EACH_WORD":=by decide +kernel
theorem zff:GI zaN "MARKS":=by decide +kernel
theorem zc5:GI zaN "asked_words":=by decide +kernel
theorem zcK:GI zaN "kept_contrary":=by decide +kernel
theorem zfM:GI zaN "rows":=by decide +kernel
theorem zaj:VisAll ["x","y","answer","rest","sentence","one_place"] (defScope zaB):=by unfold VisAll; decide +kernel
theorem zdI:GI zaB "EACH_PLACE":=by decide +kernel
theorem zdk:GI zaB "less_divisor":=by decide +kernel
theorem zaS:GI zaB "lowest":=by decide +kernel
theorem zgy:GI zaB "moved":=by decide +kernel
theorem zdw:GI zaB "next_figure":=by decide +kernel
theorem zdK:GI zaB "next_place":=by decide +kernel
theorem zeS:GI zaB "put_back":=by decide +kernel
theorem zfK:GI zaB "rounds":=by decide +kernel
theorem zbT:GI zaB "term":=by decide +kernel
theorem zim:VisAll ["rest"] (defScope zaJ):=by unfold VisAll; decide +kernel
theorem zdm:GI zaJ "EACH_WORD":=by decide +kernel
theorem zce:GI zaJ "doubled":=by decide +kernel
theorem zfd:GI zaJ "rows":=by decide +kernel
theorem zad:VisAll ["rest","y","taken","top"] (defScope zV):=by unfold VisAll; decide +kernel
theorem zcZ:GI zV "EACH_WORD":=by decide +kernel
theorem zeO:GI zV "NIL":=by decide +kernel
theorem zdB:GI zV "rounds":=by decide +kernel
theorem zcp:GI zV "rows":=by decide +kernel
theorem zaQ:GI zV "word":=by decide +kernel
theorem zaA:VisAll ["rest","y","added","top","begun"] (defScope zax):=by unfold VisAll; decide +kernel
theorem zdu:GI zax "BACK":=by decide +kernel
theorem zd2:GI zax "EACH_WORD":=by decide +kernel
theorem zcH:GI zax "NIL":=by decide +kernel
theorem zc1:GI zax "SPARE":=by decide +kernel
theorem zfu:GI zax "rounds":=by decide +kernel
theorem zcm:GI zax "rows":=by decide +kernel
theorem zbz:GI zax "word":=by decide +kernel
theorem zhH:VisAll ["answer"] (defScope zam):=by unfold VisAll; decide +kernel
theorem zbJ:GI zam "BACK":=by decide +kernel
theorem zc9:GI zam "EACH_WORD":=by decide +kernel
theorem zdz:GI zam "doubled":=by decide +kernel
theorem zeL:GI zam "rows":=by decide +kernel
theorem zH:VisAll ["signs","begun","ended"] (defScope zl):=by unfold VisAll; decide +kernel
theorem zao:GI zl "SIGN_OF_BOTH":=by decide +kernel
theorem zN:GI zl "SIGN_X":=by decide +kernel
theorem zaa:GI zl "SIGN_Y":=by decide +kernel
theorem zbj:GI zl "answer_marks":=by decide +kernel
theorem zbt:GI zl "by_nought":=by decide +kernel
theorem zbQ:GI zl "divided":=by decide +kernel
theorem zaw:GI zl "kept_sign":=by decide +kernel
theorem zb8:GI zl "rows":=by decide +kernel
theorem zB:GI zl "turned_where":=by decide +kernel
theorem za9:GI zl "unfit_quotient":=by decide +kernel
theorem zf8:VisAll ["to","letter"] (defScope zaO):=by unfold VisAll; decide +kernel
theorem zeW:GI zaO "SPARE":=by decide +kernel
theorem zdy:GI zaO "kept_mark":=by decide +kernel
theorem zdD:GI zaO "last_word":=by decide +kernel
theorem zfN:GI zaO "rows":=by decide +kernel
theorem zkc:VisAll ["cell"] (defScope zb6):=by unfold VisAll; decide +kernel
theorem zeX:GI zb6 "lowest":=by decide +kernel
theorem zU:VisAll ["sign","to","source","sentence"] (defScope zA):=by unfold VisAll; decide +kernel
theorem zcV:GI zA "EACH_WORD":=by decide +kernel
theorem zbe:GI zA "FILL_signed":=by decide +kernel
theorem zbF:GI zA "NIL":=by decide +kernel
theorem zci:GI zA "SPARE":=by decide +kernel
theorem zba:GI zA "lowest":=by decide +kernel
theorem zdA:GI zA "rounds":=by decide +kernel
theorem zcq:GI zA "rows":=by decide +kernel
theorem zas:GI zA "term":=by decide +kernel
theorem zcn:GI zA "word":=by decide +kernel
theorem zbL:GI zA "worth_of":=by decide +kernel
theorem z8:GI zJ "MARKS":=by decide +kernel
theorem zaX:GI zJ "SIGN_OF_BOTH":=by decide +kernel
theorem zdf:GI zJ "SPARE":=by decide +kernel
theorem zcz:GI zJ "kept_mark":=by decide +kernel
theorem zcA:GI zJ "last_word":=by decide +kernel
theorem zdv:GI zJ "rows":=by decide +kernel
theorem zc6:VisAll ["deed"] (defScope zbr):=by unfold VisAll; decide +kernel
theorem zeG:GI zbr "PAIRWISE":=by decide +kernel
theorem zfP:GI zbr "SHIFTS":=by decide +kernel
theorem ze9:GI zbr "is_deed":=by decide +kernel
theorem zc7:GI zbr "named_telling":=by decide +kernel
theorem zca:VisAll ["thing"] (defScope za8):=by unfold VisAll; decide +kernel
theorem zhn:GI za8 "LONE":=by decide +kernel
theorem zfH:GI za8 "PAIRED":=by decide +kernel
theorem zfS:GI za8 "SHIFTS":=by decide +kernel
theorem zdO:GI za8 "isinstance":=by decide +kernel
theorem zeD:GI za8 "len":=by decide +kernel
theorem zgv:GI za8 "tuple":=by decide +kernel
theorem zah:VisAll ["name"] (defScope zay):=by unfold VisAll; decide +kernel
theorem zbc:GI zay "signed_quotient_telling":=by decide +kernel
theorem znE:VisAll ["_law_script"] (defScope zeh):=by unfold VisAll; decide +kernel
theorem zC:VisAll ["_law_seed","_law_primes","_law_number","_law_k","_law_prime","_law_far","_law_square","_law_power"] (defScope zdh):=by unfold VisAll; decide +kernel
theorem zeV:GI zdh "enumerate":=by decide +kernel
theorem zP:VisAll ["_law_state","_law_cells","_law_at_here","_law_seed"] (defScope zdU):=by unfold VisAll; decide +kernel
theorem zhe:GI zdU "_law_mixed":=by decide +kernel
theorem zcT:GI zdU "len":=by decide +kernel
theorem zW:VisAll ["_law_state","_law_many","_law_turns","_law_digit"] (defScope zeQ):=by unfold VisAll; decide +kernel
theorem zhI:GI zeQ "_law_fill":=by decide +kernel
theorem zi:VisAll ["_law_state","_law_w","_law_n","_law_way","_law_top","_law_k","_law_edges","_law_any_one","_law_low","_law_wide","_law_worth_here","_law_some","_law_words_here"] (defScope zcR):=by unfold VisAll; decide +kernel
theorem zbh:GI zcR "_law_take":=by decide +kernel
theorem zbd:GI zcR "range":=by decide +kernel
theorem zcw:VisAll ["_law_many","_law_found","_law_k"] (defScope zcC):=by unfold VisAll; decide +kernel
theorem zgt:GI zcC "range":=by decide +kernel
theorem za7:VisAll ["_law_worth_here","_law_w","_law_n","_law_wide","_law_words_here","_law_k"] (defScope zct):=by unfold VisAll; decide +kernel
theorem zfF:GI zct "_law_two_to":=by decide +kernel
theorem zg9:GI zct "range":=by decide +kernel
theorem zhz:GI zct "tuple":=by decide +kernel
theorem zb7:VisAll ["_law_worth_here","_law_many","_law_top"] (defScope zcD):=by unfold VisAll; decide +kernel
theorem ze7:GI zcD "_law_two_to":=by decide +kernel
theorem zjq:VisAll ["_law_thing_here"] (defScope zcs):=by unfold VisAll; decide +kernel
theorem zhF:GI zcs "bool":=by decide +kernel
theorem ziw:GI zcs "int":=by decide +kernel
theorem zco:GI zcs "isinstance":=by decide +kernel
theorem zek:VisAll ["_law_thing_here","_law_many","_law_most"] (defScope zbi):=by unfold VisAll; decide +kernel
theorem zhG:GI zbi "all":=by decide +kernel
theorem zdG:GI zbi "isinstance":=by decide +kernel
theorem zhO:GI zbi "len":=by decide +kernel
theorem zgs:GI zbi "tuple":=by decide +kernel
theorem zfZ:VisAll ["_law_thing_here"] (defScope zbS):=by unfold VisAll; decide +kernel
theorem zdV:GI zbS "isinstance":=by decide +kernel
theorem zhW:GI zbS "len":=by decide +kernel
theorem zhV:GI zbS "str":=by decide +kernel
theorem zcd:VisAll ["_law_thing_here"] (defScope zZ):=by unfold VisAll; decide +kernel
theorem zdE:GI zZ "_law_letter":=by decide +kernel
theorem zdC:GI zZ "_law_wholes":=by decide +kernel
theorem zc0:GI zZ "isinstance":=by decide +kernel
theorem zfv:GI zZ "len":=by decide +kernel
theorem zer:GI zZ "tuple":=by decide +kernel
theorem zn:VisAll ["_law_row","_law_lengths"] (defScope zF):=by unfold VisAll; decide +kernel
theorem zbg:GI zF "_law_index_cell":=by decide +kernel
theorem zb3:GI zF "_law_whole":=by decide +kernel
theorem zeJ:GI zF "all":=by decide +kernel
theorem zbm:GI zF "isinstance":=by decide +kernel
theorem zaF:GI zF "len":=by decide +kernel
theorem zeF:GI zF "str":=by decide +kernel
theorem zd0:GI zF "tuple":=by decide +kernel
theorem zcE:VisAll ["_law_thing_here"] (defScope zb2):=by unfold VisAll; decide +kernel
theorem zf0:GI zb2 "_law_letter":=by decide +kernel
theorem zc2:GI zb2 "_law_wholes":=by decide +kernel
theorem zeo:GI zb2 "isinstance":=by decide +kernel
theorem ziV:GI zb2 "len":=by decide +kernel
theorem zg5:GI zb2 "tuple":=by decide +kernel
theorem zI:VisAll ["_law_told","_law_term"] (defScope zE):=by unfold VisAll; decide +kernel
theorem zdx:GI zE "_law_whole":=by decide +kernel
theorem zdi:GI zE "_law_wholes":=by decide +kernel
theorem zeE:GI zE "abs":=by decide +kernel
theorem zeU:GI zE "all":=by decide +kernel
theorem zaI:GI zE "isinstance":=by decide +kernel
theorem zbD:GI zE "len":=by decide +kernel
theorem zbf:GI zE "tuple":=by decide +kernel
theorem zbB:VisAll ["_law_part_here","_law_deep"] (defScope zbV):=by unfold VisAll; decide +kernel
theorem zdR:GI zbV "_law_is_sentence":=by decide +kernel
theorem zdM:GI zbV "_law_telling_row":=by decide +kernel
theorem zgx:GI zbV "_law_wholes":=by decide +kernel
theorem zj6:GI zbV "all":=by decide +kernel
theorem zcB:GI zbV "isinstance":=by decide +kernel
theorem zdN:GI zbV "len":=by decide +kernel
theorem zeA:GI zbV "tuple":=by decide +kernel
theorem zev:VisAll ["_law_told"] (defScope zan):=by unfold VisAll; decide +kernel
theorem ze4:GI zan "all":=by decide +kernel
theorem zcX:GI zan "isinstance":=by decide +kernel
theorem zep:GI zan "tuple":=by decide +kernel
theorem zgR:VisAll ["_law_index","_law_i","_law_j","_law_n"] (defScope zlC):=by unfold VisAll; decide +kernel
theorem zO:VisAll ["_law_row","_law_i","_law_j","_law_n","_law_told","_law_part_here"] (defScope zaM):=by unfold VisAll; decide +kernel
theorem zfE:GI zaM "_law_at":=by decide +kernel
theorem zc3:GI zaM "isinstance":=by decide +kernel
theorem zcx:GI zaM "tuple":=by decide +kernel
theorem zq:VisAll ["_law_cells","_law_mark","_law_row","_law_wide","_law_x"] (defScope zcc):=by unfold VisAll; decide +kernel
theorem zm:VisAll ["_law_cells","_law_mark","_law_row","_law_wide","_law_both","_law_x","_law_y"] (defScope zdd):=by unfold VisAll; decide +kernel
theorem zfa:GI zdd "_law_one_done":=by decide +kernel
theorem zgk:GI zdd "int":=by decide +kernel
theorem zjW:GI zdd "len":=by decide +kernel
theorem zc4:VisAll ["_law_count_here","_law_w","_law_n"] (defScope zee):=by unfold VisAll; decide +kernel
theorem zj:VisAll ["_law_told","_law_w","_law_n","_law_most","_law_rows","_law_rounds","_law_part_here","_law_i","_law_inner","_law_many","_law_j"] (defScope zak):=by unfold VisAll; decide +kernel
theorem zcy:GI zak "_law_count":=by decide +kernel
theorem zbY:GI zak "_law_plain_row":=by decide +kernel
theorem zbA:GI zak "len":=by decide +kernel
theorem zgr:GI zak "max":=by decide +kernel
theorem zdq:GI zak "min":=by decide +kernel
theorem zcN:GI zak "range":=by decide +kernel
theorem zQ:VisAll ["_law_rows","_law_row","_law_part_here"] (defScope zaL):=by unfold VisAll; decide +kernel
theorem zcW:GI zaL "isinstance":=by decide +kernel
theorem zen:GI zaL "tuple":=by decide +kernel
theorem zai:VisAll ["_law_w","_law_n","_law_x","_law_y","_law_cells","_law_k","_law_word"] (defScope zcO):=by unfold VisAll; decide +kernel
theorem zdt:GI zcO "_law_words":=by decide +kernel
theorem zcG:GI zcO "enumerate":=by decide +kernel
theorem zaz:VisAll ["_law_told","_law_w","_law_n","_law_x","_law_y","_law_rows","_law_cells","_law_wide","_law_mark","_law_row"] (defScope zdo):=by unfold VisAll; decide +kernel
theorem zhN:GI zdo "_law_begun":=by decide +kernel
theorem ziS:GI zdo "_law_done":=by decide +kernel
theorem zeM:GI zdo "_law_is_telling":=by decide +kernel
theorem zeP:GI zdo "_law_rows_right":=by decide +kernel
theorem zgZ:GI zdo "_law_two_to":=by decide +kernel
theorem zfY:GI zdo "_law_unrolled":=by decide +kernel
theorem zby:VisAll ["_law_cells","_law_letter_here","_law_many","_law_w","_law_wide","_law_worth_here","_law_k"] (defScope zdH):=by unfold VisAll; decide +kernel
theorem zgu:GI zdH "_law_two_to":=by decide +kernel
theorem zhS:GI zdH "range":=by decide +kernel
theorem zhm:GI zcQ "range":=by decide +kernel
theorem zgW:GI zcQ "tuple":=by decide +kernel
theorem ziK:VisAll ["_law_worth_here","_law_many"] (defScope zdL):=by unfold VisAll; decide +kernel
theorem zgA:GI zdL "_law_two_to":=by decide +kernel
theorem zf5:GI zdL "int":=by decide +kernel
theorem zG:VisAll ["_law_state","_law_w","_law_n","_law_x","_law_y","_law_way","_law_low"] (defScope zdW):=by unfold VisAll; decide +kernel
theorem zcr:GI zdW "_law_take":=by decide +kernel
theorem zd5:GI zdW "_law_two_to":=by decide +kernel
theorem zes:GI zdW "_law_worth":=by decide +kernel
theorem zkO:GI zdW "max":=by decide +kernel
theorem zkm:GI zdW "min":=by decide +kernel
theorem zt:VisAll ["_law_script","_law_state","_law_told","_law_n","_law_w","_law_top","_law_x","_law_y","_law_turns","_law_first","_law_other","_law_quotient","_law_rest","_law_cells","_law_over"] (defScope zc8):=by unfold VisAll; decide +kernel
theorem zjn:GI zc8 "_law_ends":=by decide +kernel
theorem ziE:GI zc8 "_law_fresh":=by decide +kernel
theorem zi2:GI zc8 "_law_marks":=by decide +kernel
theorem zga:GI zc8 "_law_read":=by decide +kernel
theorem zkA:GI zc8 "_law_run":=by decide +kernel
theorem zet:GI zc8 "_law_signed":=by decide +kernel
theorem zbN:GI zc8 "_law_take":=by decide +kernel
theorem zkh:GI zc8 "_law_two":=by decide +kernel
theorem zhQ:GI zc8 "_law_two_to":=by decide +kernel
theorem zif:GI zc8 "abs":=by decide +kernel
theorem zl8:GI zc8 "int":=by decide +kernel
theorem zlY:GI zc8 "min":=by decide +kernel
theorem zhR:GI zc8 "telling":=by decide +kernel
noncomputable def pss:Nat->Option (List Str)
 | 0=>some ["letter","c","i","j","m"]
 | 1=>some ["letter"]
 | 2=>some ["told"]
 | 3=>some ["count","sentence","inner"]
 | 4=>some ["letter","c","i","j","m"]
 | 5=>some ["f","things","i","p","q","r"]
 | 6=>some ["to","source","c"]
 | 7=>some ["letter","count"]
 | 8=>some ["to"]
 | 9=>some ["to"]
 | 10=>some ["letter","m","count"]
 | 11=>some ["c","m"]
 | 12=>some []
 | 13=>some ["x","y","answer","rest"]
 | 14=>some ["rest"]
 | 15=>some ["rest","y"]
 | 16=>some ["rest","y"]
 | 17=>some ["answer"]
 | 18=>some []
 | 19=>some ["to","letter"]
 | 20=>some ["cell"]
 | 21=>some ["sign","to","source"]
 | 22=>some []
 | 23=>some ["deed"]
 | 24=>some ["thing"]
 | 25=>some ["name"]
 | 26=>some ["_law_script"]
 | 27=>some ["_law_seed"]
 | 28=>some ["_law_state"]
 | 29=>some ["_law_state","_law_many"]
 | 30=>some ["_law_state","_law_w","_law_n"]
 | 31=>some ["_law_many"]
 | 32=>some ["_law_worth_here","_law_w","_law_n"]
 | 33=>some ["_law_worth_here","_law_many"]
 | 34=>some ["_law_thing_here"]
 | 35=>some ["_law_thing_here","_law_many","_law_most"]
 | 36=>some ["_law_thing_here"]
 | 37=>some ["_law_thing_here"]
 | 38=>some ["_law_row"]
 | 39=>some ["_law_thing_here"]
 | 40=>some ["_law_told"]
 | 41=>some ["_law_part_here","_law_deep"]
 | 42=>some ["_law_told"]
 | 43=>some ["_law_index","_law_i","_law_j","_law_n"]
 | 44=>some ["_law_row","_law_i","_law_j","_law_n"]
 | 45=>some ["_law_cells","_law_mark","_law_row","_law_wide"]
 | 46=>some ["_law_cells","_law_mark","_law_row","_law_wide"]
 | 47=>some ["_law_count_here","_law_w","_law_n"]
 | 48=>some ["_law_told","_law_w","_law_n","_law_most"]
 | 49=>some ["_law_rows"]
 | 50=>some ["_law_w","_law_n","_law_x","_law_y"]
 | 51=>some ["_law_told","_law_w","_law_n","_law_x","_law_y"]
 | 52=>some ["_law_cells","_law_letter_here","_law_many","_law_w"]
 | 53=>some ["_law_cells"]
 | 54=>some ["_law_worth_here","_law_many"]
 | 55=>some ["_law_state","_law_w","_law_n"]
 | 56=>some ["_law_script"]
 | _=>none
structure Facts (K:PySem.W.Frag) (mg:Str->Option Value) (cl:Nat->Addr) (fa:Nat->Addr) (fdd:Nat->FuncData):Prop where
 F0:FnD K mg "word" zeu ["letter","c","i","j","m"] [0,0,0,0] (fa 0) (fdd 0)
 F1:Fn K mg "last_word" zbG ["letter"] (fa 1) (fdd 1)
 F2:Fn K mg "rows" zgc ["told"] (fa 2) (fdd 2)
 F3:Fn K mg "rounds" zeg ["count","sentence","inner"] (fa 3) (fdd 3)
 F4:FnD K mg "lowest" zcv ["letter","c","i","j","m"] [0,0,0,0] (fa 4) (fdd 4)
 F5:FnD K mg "term" zfi ["f","things","i","p","q","r"] [0,0,0,0] (fa 5) (fdd 5)
 F6:FnD K mg "moved" zcF ["to","source","c"] [0] (fa 6) (fdd 6)
 F7:Fn K mg "doubled" zbX ["letter","count"] (fa 7) (fdd 7)
 F8:Fn K mg "kept_mark" zbE ["to"] (fa 8) (fdd 8)
 F9:Fn K mg "kept_contrary" zaE ["to"] (fa 9) (fdd 9)
 F10:Fn K mg "asked_words" zal ["letter","m","count"] (fa 10) (fdd 10)
 F11:Fn K mg "answer_marks" zM ["c","m"] (fa 11) (fdd 11)
 F12:Fn K mg "by_nought" zaN [] (fa 12) (fdd 12)
 F13:Fn K mg "divided" zaB ["x","y","answer","rest"] (fa 13) (fdd 13)
 F14:Fn K mg "next_place" zaJ ["rest"] (fa 14) (fdd 14)
 F15:Fn K mg "less_divisor" zV ["rest","y"] (fa 15) (fdd 15)
 F16:Fn K mg "put_back" zax ["rest","y"] (fa 16) (fdd 16)
 F17:Fn K mg "next_figure" zam ["answer"] (fa 17) (fdd 17)
 F18:Fn K mg "signed_quotient_telling" zl [] (fa 18) (fdd 18)
 F19:Fn K mg "kept_sign" zaO ["to","letter"] (fa 19) (fdd 19)
 F20:Fn K mg "worth_of" zb6 ["cell"] (fa 20) (fdd 20)
 F21:Fn K mg "turned_where" zA ["sign","to","source"] (fa 21) (fdd 21)
 F22:Fn K mg "unfit_quotient" zJ [] (fa 22) (fdd 22)
 F23:Fn K mg "telling" zbr ["deed"] (fa 23) (fdd 23)
 F24:Fn K mg "is_deed" za8 ["thing"] (fa 24) (fdd 24)
 F25:Fn K mg "named_telling" zay ["name"] (fa 25) (fdd 25)
 F26:Fn K mg "_law_fresh" zeh ["_law_script"] (fa 26) (fdd 26)
 F27:Fn K mg "_law_mixed" zdh ["_law_seed"] (fa 27) (fdd 27)
 F28:Fn K mg "_law_fill" zdU ["_law_state"] (fa 28) (fdd 28)
 F29:Fn K mg "_law_take" zeQ ["_law_state","_law_many"] (fa 29) (fdd 29)
 F30:Fn K mg "_law_worth" zcR ["_law_state","_law_w","_law_n"] (fa 30) (fdd 30)
 F31:Fn K mg "_law_two_to" zcC ["_law_many"] (fa 31) (fdd 31)
 F32:Fn K mg "_law_words" zct ["_law_worth_here","_law_w","_law_n"] (fa 32) (fdd 32)
 F33:Fn K mg "_law_signed" zcD ["_law_worth_here","_law_many"] (fa 33) (fdd 33)
 F34:Fn K mg "_law_whole" zcs ["_law_thing_here"] (fa 34) (fdd 34)
 F35:Fn K mg "_law_wholes" zbi ["_law_thing_here","_law_many","_law_most"] (fa 35) (fdd 35)
 F36:Fn K mg "_law_letter" zbS ["_law_thing_here"] (fa 36) (fdd 36)
 F37:Fn K mg "_law_index_cell" zZ ["_law_thing_here"] (fa 37) (fdd 37)
 F38:Fn K mg "_law_telling_row" zF ["_law_row"] (fa 38) (fdd 38)
 F39:Fn K mg "_law_thing" zb2 ["_law_thing_here"] (fa 39) (fdd 39)
 F40:Fn K mg "_law_is_sentence" zE ["_law_told"] (fa 40) (fdd 40)
 F41:Fn K mg "_law_part" zbV ["_law_part_here","_law_deep"] (fa 41) (fdd 41)
 F42:Fn K mg "_law_is_telling" zan ["_law_told"] (fa 42) (fdd 42)
 F43:Fn K mg "_law_at" zlC ["_law_index","_law_i","_law_j","_law_n"] (fa 43) (fdd 43)
 F44:Fn K mg "_law_plain_row" zaM ["_law_row","_law_i","_law_j","_law_n"] (fa 44) (fdd 44)
 F45:Fn K mg "_law_one_done" zcc ["_law_cells","_law_mark","_law_row","_law_wide"] (fa 45) (fdd 45)
 F46:Fn K mg "_law_done" zdd ["_law_cells","_law_mark","_law_row","_law_wide"] (fa 46) (fdd 46)
 F47:Fn K mg "_law_count" zee ["_law_count_here","_law_w","_law_n"] (fa 47) (fdd 47)
 F48:Fn K mg "_law_unrolled" zak ["_law_told","_law_w","_law_n","_law_most"] (fa 48) (fdd 48)
 F49:Fn K mg "_law_rows_right" zaL ["_law_rows"] (fa 49) (fdd 49)
 F50:Fn K mg "_law_begun" zcO ["_law_w","_law_n","_law_x","_law_y"] (fa 50) (fdd 50)
 F51:Fn K mg "_law_run" zdo ["_law_told","_law_w","_law_n","_law_x","_law_y"] (fa 51) (fdd 51)
 F52:Fn K mg "_law_read" zdH ["_law_cells","_law_letter_here","_law_many","_law_w"] (fa 52) (fdd 52)
 F53:Fn K mg "_law_marks" zcQ ["_law_cells"] (fa 53) (fdd 53)
 F54:Fn K mg "_law_ends" zdL ["_law_worth_here","_law_many"] (fa 54) (fdd 54)
 F55:Fn K mg "_law_two" zdW ["_law_state","_law_w","_law_n"] (fa 55) (fdd 55)
 F56:Fn K mg "law" zc8 ["_law_script"] (fa 56) (fdd 56)
 z_abs:mg "abs"=none
 z_all:mg "all"=none
 z_bool:mg "bool"=none
 z_enumerate:mg "enumerate"=none
 z_int:mg "int"=none
 z_isinstance:mg "isinstance"=none
 z_len:mg "len"=none
 z_max:mg "max"=none
 z_min:mg "min"=none
 z_range:mg "range"=none
 z_str:mg "str"=none
 z_tuple:mg "tuple"=none
 k_bool:KitT K .bool
 k_int:KitT K .int
 k_str:KitT K .str
 k_tuple:KitT K .tuple
 c_BACK:GC K mg cl "BACK" zh0
 c_EACH_PLACE:GC K mg cl "EACH_PLACE" zge
 c_EACH_WORD:GC K mg cl "EACH_WORD" zbH
 c_FILL_signed:GC K mg cl "FILL_signed" zdl
 c_LONE:GC K mg cl "LONE" zpt
 c_MARKS:GC K mg cl "MARKS" zdn
 c_NIL:GC K mg cl "NIL" zgP
 c_PAIRED:GC K mg cl "PAIRED" zkY
 c_PAIRWISE:GC K mg cl "PAIRWISE" zh8
 c_SEEN:GC K mg cl "SEEN" zju
 c_SHIFTS:GC K mg cl "SHIFTS" zi4
 c_SIGN_OF_BOTH:GC K mg cl "SIGN_OF_BOTH" zbx
 c_SIGN_X:GC K mg cl "SIGN_X" zfp
 c_SIGN_Y:GC K mg cl "SIGN_Y" zgG
 c_SPARE:GC K mg cl "SPARE" zdT
def Fns (P:Program) (w:World) (K:PySem.W.Frag) (mg:Str->Option Value) (base:Heap) (cl:Nat->Addr) (fa:Nat->Addr) (fdd:Nat->FuncData) (k:Nat):Prop:=∀ i ps,pss i=some ps->FnOk P w K mg base (CX1 P w) k (fa i) (fdd i) ps (spI K cl (callT T k) i)
section
variable {P:Program} {w:World} {K:PySem.W.Frag} {mg:Str->Option Value} {base:Heap} {cl:Nat->Addr} {fa:Nat->Addr} {fdd:Nat->FuncData} {k:Nat}
theorem kl0 {α:Type} (l:List α) (h:l.length=0):l=[] := List.eq_nil_of_length_eq_zero h
theorem kl1 {α:Type} (l:List α) (h:l.length=1):∃ a,l=[a] := match l,h with | [a],_ => ⟨a,rfl⟩
theorem kl2 {α:Type} (l:List α) (h:l.length=2):∃ a b,l=[a,b] := match l,h with | [a,b],_ => ⟨a,b,rfl⟩
theorem kl3 {α:Type} (l:List α) (h:l.length=3):∃ a b c,l=[a,b,c] := match l,h with | [a,b,c],_ => ⟨a,b,c,rfl⟩
theorem kl5 {α:Type} (l:List α) (h:l.length=5):∃ a b c d e,l=[a,b,c,d,e] := match l,h with | [a,b,c,d,e],_ => ⟨a,b,c,d,e,rfl⟩
theorem kl6 {α:Type} (l:List α) (h:l.length=6):∃ a b c d e f,l=[a,b,c,d,e,f] := match l,h with | [a,b,c,d,e,f],_ => ⟨a,b,c,d,e,f,rfl⟩
theorem kl7 {α:Type} (l:List α) (h:l.length=7):∃ a b c d e f g,l=[a,b,c,d,e,f,g] := match l,h with | [a,b,c,d,e,f,g],_ => ⟨a,b,c,d,e,f,g,rfl⟩
theorem kl8 {α:Type} (l:List α) (h:l.length=8):∃ a b c d e f g k,l=[a,b,c,d,e,f,g,k] := match l,h with | [a,b,c,d,e,f,g,k],_ => ⟨a,b,c,d,e,f,g,k,rfl⟩
theorem kl4 {α:Type} (l:List α) (h:l.length=4):∃ a b c d,l=[a,b,c,d] := match l,h with | [a,b,c,d],_ => ⟨a,b,c,d,rfl⟩
theorem zlr {K:PySem.W.Frag} {mg:Str->Option Value} {f:Addr} {fd:FuncData} (D:FnD K mg "word" zeu ["letter","c","i","j","m"] [0,0,0,0] f fd):∃ g,KBinds K fd ["letter","c","i","j","m"] ["m"] g (gK 2 [some 0,some 0,none]) :=
 kbD (off:=1) D rfl rfl rfl (fun dT kV doc pm an cdv ct us ws its h1 h2 h3=>by obtain ⟨a,b,rfl⟩ := kl2 us h1; obtain ⟨d,rfl⟩ := kl1 ws h2; obtain ⟨m,n,p,q,rfl⟩ := kl4 its h3; exact ⟨_,rfl,rfl⟩) (by decide)
theorem zfq {K:PySem.W.Frag} {mg:Str->Option Value} {f:Addr} {fd:FuncData} (D:FnD K mg "lowest" zcv ["letter","c","i","j","m"] [0,0,0,0] f fd):∃ g,KBinds K fd ["letter","c","i","j","m"] ["i"] g (gK 1 [some 0,none,some 0,some 0]) :=
 kbD (off:=0) D rfl rfl rfl (fun dT kV doc pm an cdv ct us ws its h1 h2 h3=>by obtain ⟨a,rfl⟩ := kl1 us h1; obtain ⟨d,rfl⟩ := kl1 ws h2; obtain ⟨m,n,p,q,rfl⟩ := kl4 its h3; exact ⟨_,rfl,rfl⟩) (by decide)
theorem zfG {K:PySem.W.Frag} {mg:Str->Option Value} {f:Addr} {fd:FuncData} (D:FnD K mg "term" zfi ["f","things","i","p","q","r"] [0,0,0,0] f fd):∃ g,KBinds K fd ["f","things","i","p","q","r"] [] g (gK 2 [some 0,some 0,some 0,some 0]) :=
 kbD (off:=0) D rfl rfl rfl (fun dT kV doc pm an cdv ct us ws its h1 h2 h3=>by obtain ⟨a,b,rfl⟩ := kl2 us h1; obtain rfl := kl0 ws h2; obtain ⟨m,n,p,q,rfl⟩ := kl4 its h3; exact ⟨_,rfl,rfl⟩) (by decide)
theorem zgJ {K:PySem.W.Frag} {mg:Str->Option Value} {f:Addr} {fd:FuncData} (D:FnD K mg "word" zeu ["letter","c","i","j","m"] [0,0,0,0] f fd):∃ g,KBinds K fd ["letter","c","i","j","m"] ["i"] g (gK 1 [some 0,none,some 0,some 0]) :=
 kbD (off:=0) D rfl rfl rfl (fun dT kV doc pm an cdv ct us ws its h1 h2 h3=>by obtain ⟨a,rfl⟩ := kl1 us h1; obtain ⟨d,rfl⟩ := kl1 ws h2; obtain ⟨m,n,p,q,rfl⟩ := kl4 its h3; exact ⟨_,rfl,rfl⟩) (by decide)
theorem zcU {K:PySem.W.Frag} {mg:Str->Option Value} {f:Addr} {fd:FuncData} (D:FnD K mg "word" zeu ["letter","c","i","j","m"] [0,0,0,0] f fd):∃ g,KBinds K fd ["letter","c","i","j","m"] ["j"] g (gK 1 [some 0,some 0,none,some 0]) :=
 kbD (off:=0) D rfl rfl rfl (fun dT kV doc pm an cdv ct us ws its h1 h2 h3=>by obtain ⟨a,rfl⟩ := kl1 us h1; obtain ⟨d,rfl⟩ := kl1 ws h2; obtain ⟨m,n,p,q,rfl⟩ := kl4 its h3; exact ⟨_,rfl,rfl⟩) (by decide)
theorem zlQ {K:PySem.W.Frag} {mg:Str->Option Value} {f:Addr} {fd:FuncData} (D:FnD K mg "word" zeu ["letter","c","i","j","m"] [0,0,0,0] f fd):∃ g,KBinds K fd ["letter","c","i","j","m"] ["i","m"] g (gK 1 [some 0,none,some 0,none]) :=
 kbD (off:=0) D rfl rfl rfl (fun dT kV doc pm an cdv ct us ws its h1 h2 h3=>by obtain ⟨a,rfl⟩ := kl1 us h1; obtain ⟨d,e,rfl⟩ := kl2 ws h2; obtain ⟨m,n,p,q,rfl⟩ := kl4 its h3; exact ⟨_,rfl,rfl⟩) (by decide)
theorem zgB {K:PySem.W.Frag} {mg:Str->Option Value} {f:Addr} {fd:FuncData} (D:FnD K mg "lowest" zcv ["letter","c","i","j","m"] [0,0,0,0] f fd):∃ g,KBinds K fd ["letter","c","i","j","m"] ["m"] g (gK 1 [some 0,some 0,some 0,none]) :=
 kbD (off:=0) D rfl rfl rfl (fun dT kV doc pm an cdv ct us ws its h1 h2 h3=>by obtain ⟨a,rfl⟩ := kl1 us h1; obtain ⟨d,rfl⟩ := kl1 ws h2; obtain ⟨m,n,p,q,rfl⟩ := kl4 its h3; exact ⟨_,rfl,rfl⟩) (by decide)
theorem zo5 {K:PySem.W.Frag} {mg:Str->Option Value} {f:Addr} {fd:FuncData} (D:FnD K mg "term" zfi ["f","things","i","p","q","r"] [0,0,0,0] f fd):∃ g,KBinds K fd ["f","things","i","p","q","r"] ["i"] g (gK 2 [none,some 0,some 0,some 0]) :=
 kbD (off:=0) D rfl rfl rfl (fun dT kV doc pm an cdv ct us ws its h1 h2 h3=>by obtain ⟨a,b,rfl⟩ := kl2 us h1; obtain ⟨d,rfl⟩ := kl1 ws h2; obtain ⟨m,n,p,q,rfl⟩ := kl4 its h3; exact ⟨_,rfl,rfl⟩) (by decide)
theorem zkT {K:PySem.W.Frag} {mg:Str->Option Value} {f:Addr} {fd:FuncData} (D:FnD K mg "term" zfi ["f","things","i","p","q","r"] [0,0,0,0] f fd):∃ g,KBinds K fd ["f","things","i","p","q","r"] ["r"] g (gK 2 [some 0,some 0,some 0,none]) :=
 kbD (off:=0) D rfl rfl rfl (fun dT kV doc pm an cdv ct us ws its h1 h2 h3=>by obtain ⟨a,b,rfl⟩ := kl2 us h1; obtain ⟨d,rfl⟩ := kl1 ws h2; obtain ⟨m,n,p,q,rfl⟩ := kl4 its h3; exact ⟨_,rfl,rfl⟩) (by decide)
theorem zoe {K:PySem.W.Frag} {mg:Str->Option Value} {f:Addr} {fd:FuncData} (D:FnD K mg "lowest" zcv ["letter","c","i","j","m"] [0,0,0,0] f fd):∃ g,KBinds K fd ["letter","c","i","j","m"] ["m"] g (gK 2 [some 0,some 0,none]) :=
 kbD (off:=1) D rfl rfl rfl (fun dT kV doc pm an cdv ct us ws its h1 h2 h3=>by obtain ⟨a,b,rfl⟩ := kl2 us h1; obtain ⟨d,rfl⟩ := kl1 ws h2; obtain ⟨m,n,p,q,rfl⟩ := kl4 its h3; exact ⟨_,rfl,rfl⟩) (by decide)
theorem zpW {K:PySem.W.Frag} {mg:Str->Option Value} {f:Addr} {fd:FuncData} (D:FnD K mg "moved" zcF ["to","source","c"] [0] f fd):∃ g,KBinds K fd ["to","source","c"] [] g (gK 2 [some 0]) :=
 kbD (off:=0) D rfl rfl rfl (fun dT kV doc pm an cdv ct us ws its h1 h2 h3=>by obtain ⟨a,b,rfl⟩ := kl2 us h1; obtain rfl := kl0 ws h2; obtain ⟨m,rfl⟩ := kl1 its h3; exact ⟨_,rfl,rfl⟩) (by decide)
theorem zlj {K:PySem.W.Frag} {mg:Str->Option Value} {f:Addr} {fd:FuncData} (D:FnD K mg "word" zeu ["letter","c","i","j","m"] [0,0,0,0] f fd):∃ g,KBinds K fd ["letter","c","i","j","m"] ["m"] g (gK 1 [some 0,some 0,some 0,none]) :=
 kbD (off:=0) D rfl rfl rfl (fun dT kV doc pm an cdv ct us ws its h1 h2 h3=>by obtain ⟨a,rfl⟩ := kl1 us h1; obtain ⟨d,rfl⟩ := kl1 ws h2; obtain ⟨m,n,p,q,rfl⟩ := kl4 its h3; exact ⟨_,rfl,rfl⟩) (by decide)
theorem zpP {K:PySem.W.Frag} {mg:Str->Option Value} {f:Addr} {fd:FuncData} (D:FnD K mg "lowest" zcv ["letter","c","i","j","m"] [0,0,0,0] f fd):∃ g,KBinds K fd ["letter","c","i","j","m"] [] g (gK 2 [some 0,some 0,some 0]) :=
 kbD (off:=1) D rfl rfl rfl (fun dT kV doc pm an cdv ct us ws its h1 h2 h3=>by obtain ⟨a,b,rfl⟩ := kl2 us h1; obtain rfl := kl0 ws h2; obtain ⟨m,n,p,q,rfl⟩ := kl4 its h3; exact ⟨_,rfl,rfl⟩) (by decide)
theorem zkW {K:PySem.W.Frag} {mg:Str->Option Value} {f:Addr} {fd:FuncData} (D:FnD K mg "term" zfi ["f","things","i","p","q","r"] [0,0,0,0] f fd):∃ g,KBinds K fd ["f","things","i","p","q","r"] ["p"] g (gK 2 [some 0,none,some 0,some 0]) :=
 kbD (off:=0) D rfl rfl rfl (fun dT kV doc pm an cdv ct us ws its h1 h2 h3=>by obtain ⟨a,b,rfl⟩ := kl2 us h1; obtain ⟨d,rfl⟩ := kl1 ws h2; obtain ⟨m,n,p,q,rfl⟩ := kl4 its h3; exact ⟨_,rfl,rfl⟩) (by decide)
abbrev BD (P:Program) (w:World) (K:PySem.W.Frag) (mg:Str->Option Value) (base:Heap) (cl fa:Nat->Addr) (fdd:Nat->FuncData) (k i:Nat) (ps:List Str):Prop := Facts K mg cl fa fdd->Fns P w K mg base cl fa fdd k->FnOk P w K mg base (CX1 P w) (k+1) (fa i) (fdd i) ps (spI K cl (callT T (k+1)) i)
theorem zpX :BD P w K mg base cl fa fdd k 0 ["letter","c","i","j","m"]:=fun Z C=>zle (fn:=zpu) rfl Z.F0 sc_word rfl rfl fun _ _ _ _ _ _ hr=>have nd:=sc_word.nd; have hu1:=zaf hr; (zb (zu (zx (za (svF zhc 0) (za (zx (za (svF zhc 1) (za (svF zhc 2) (za (svF zhc 3) (za (svF zhc 4) zd))))) zd)))) ze)
theorem zjg :BD P w K mg base cl fa fdd k 1 ["letter"]:=fun Z C=>zap (fn:=zhA) rfl Z.F1.F sc_last_word rfl rfl fun _ _ _ _ _ _ hr=>have nd:=sc_last_word.nd; have hu1:=zaf hr; (zb (zu (zz (C 0 _ rfl) hr zfW Z.F0.m Z.F0.kp (zlr Z.F0) rfl (za (svF zjJ 0) (za (zf9 zc) zd)) (zw (zw (zbo zc zX))))) ze)
theorem zpM :BD P w K mg base cl fa fdd k 2 ["told"]:=fun Z C=>zap (fn:=zpo) rfl Z.F2.F sc_rows rfl rfl fun _ _ _ _ _ _ hr=>have nd:=sc_rows.nd; have hu1:=zaf hr; (zb (zu (zdc zgI ziR Z.z_tuple zaK (za (zdJ rfl (compOk (NC:=["row"]) (slots:=[none]) ["told"] (defScope zgc) rfl rfl rfl (by decide +kernel) (by decide +kernel) (by decide +kernel) (by decide +kernel) rfl) (by decide) (zcL (svF zqH 0)) (fun j=>zd6 rfl (zar (i:=0) (show (["row"]:List Str).Nodup by decide +kernel) rfl (by first | exact Or.inl rfl | exact Or.inr rfl))) (fun j=>zcP) (fun j=>zd1 rfl (zx (za zo (za (sv 0) zd))))) zd))) ze)
theorem zmX :BD P w K mg base cl fa fdd k 3 ["count","sentence","inner"]:=fun Z C=>zap (fn:=zlb) rfl Z.F3.F sc_rounds rfl rfl fun _ _ _ _ _ _ hr=>have nd:=sc_rounds.nd; have hu1:=zaf hr; (zb (zu (zx (za (zx (za zo (za (svF zgX 0) (za (svF zgX 1) (za (svF zgX 2) zd))))) zd))) ze)
theorem zmQ :BD P w K mg base cl fa fdd k 4 ["letter","c","i","j","m"]:=fun Z C=>zle (fn:=zk4) rfl Z.F4 sc_lowest rfl rfl fun _ _ _ _ _ _ hr=>have nd:=sc_lowest.nd; have hu1:=zaf hr; (zb (zu (zx (za zo (za (svF zdY 0) (za (zx (za zc (za zc (za zc (za zc zd))))) (za (zx (za (svF zdY 1) (za (svF zdY 2) (za (svF zdY 3) (za (svF zdY 4) zd))))) zd)))))) ze)
theorem zp9 :BD P w K mg base cl fa fdd k 5 ["f","things","i","p","q","r"]:=fun Z C=>zle (fn:=zpj) rfl Z.F5 sc_term rfl rfl fun _ _ _ _ _ _ hr=>have nd:=sc_term.nd; have hu1:=zaf hr; (zb (zu (zx (za (svF zfV 0) (za (zx (za zc (za (svF zfV 2) (za zc (za (svF zfV 3) (za (svF zfV 4) (za (svF zfV 5) zd))))))) (za (svF zfV 1) zd))))) ze)
theorem zn9 :BD P w K mg base cl fa fdd k 6 ["to","source","c"]:=fun Z C=>zle (fn:=zmR) rfl Z.F6 sc_moved rfl rfl fun _ _ _ _ _ _ hr=>have nd:=sc_moved.nd; have hu1:=zaf hr; (zb (zp (i:=3) nd rfl (lcF (i:=3) zda rfl) (zx (za (zz (C 5 _ rfl) hr zfc Z.F5.m Z.F5.kp (zfG Z.F5) rfl (za zc (za (zx (za (zz (C 4 _ rfl) hr zec Z.F4.m Z.F4.kp (zfq Z.F4) rfl (za (svF zda 1) zd) (zw (zbo zc (zw (zw zX))))) zd)) zd)) (zw (zw (zw (zw zX))))) (za (zz (C 5 _ rfl) hr zfc Z.F5.m Z.F5.kp (zfG Z.F5) rfl (za (zf9 zc) (za (zx (za (zz (C 4 _ rfl) hr zec Z.F4.m Z.F4.kp (zfq Z.F4) rfl (za (svF zda 0) zd) (zw (zbo zc (zw (zw zX))))) zd)) zd)) (zw (zw (zw (zw zX))))) zd)))) (zb (zu (zg (C 3 _ rfl) hr zgQ Z.F3.m Z.F3.F.kp Z.F3.b (za (zx (za (svF zda 2) (za zc (za zc zd)))) (za (svF zda 3) (za (zg (C 2 _ rfl) hr ziN Z.F2.m Z.F2.F.kp Z.F2.b (za (zbU (za (zx (za zo (za (zz (C 0 _ rfl) hr ze2 Z.F0.m Z.F0.kp (zgJ Z.F0) rfl (za (svF zda 0) zd) (zw (zbo zc (zw (zw zX))))) (za (zz (C 0 _ rfl) hr ze2 Z.F0.m Z.F0.kp (zgJ Z.F0) rfl (za (svF zda 1) zd) (zw (zbo zc (zw (zw zX))))) zd)))) zd)) zd)) zd))))) ze))
theorem zmm :BD P w K mg base cl fa fdd k 7 ["letter","count"]:=fun Z C=>zap (fn:=zjY) rfl Z.F7.F sc_doubled rfl rfl fun _ _ _ _ _ _ hr=>have nd:=sc_doubled.nd; have hu1:=zaf hr; (zb (zu (zg (C 3 _ rfl) hr zfJ Z.F3.m Z.F3.F.kp Z.F3.b (za (svF zfO 1) (za (zx zd) (za (zg (C 2 _ rfl) hr zhs Z.F2.m Z.F2.F.kp Z.F2.b (za (zbU (za (zx (za zo (za (zz (C 0 _ rfl) hr zdQ Z.F0.m Z.F0.kp (zcU Z.F0) rfl (za (svF zfO 0) zd) (zw (zw (zbo zc (zw zX))))) (za (zz (C 0 _ rfl) hr zdQ Z.F0.m Z.F0.kp (zcU Z.F0) rfl (za (svF zfO 0) zd) (zw (zw (zbo zc (zw zX))))) zd)))) zd)) zd)) zd))))) ze)
theorem zjt :BD P w K mg base cl fa fdd k 8 ["to"]:=fun Z C=>zap (fn:=zhp) rfl Z.F8.F sc_kept_mark rfl rfl fun _ _ _ _ _ _ hr=>have nd:=sc_kept_mark.nd; have hu1:=zaf hr; (zb (zu (zx (za zo (za (svF zjm 0) (za (zac zdp Z.c_NIL) (za (zac zdp Z.c_NIL) zd)))))) ze)
theorem zgz :BD P w K mg base cl fa fdd k 9 ["to"]:=fun Z C=>zap (fn:=zd9) rfl Z.F9.F sc_kept_contrary rfl rfl fun _ _ _ _ _ _ hr=>have nd:=sc_kept_contrary.nd; have hu1:=zaf hr; (zb (zu (zbU (za (zx (za zo (za (svF zck 0) (za zc zd)))) (za (zx (za zo (za (svF zck 0) (za (svF zck 0) (za (zac zem Z.c_NIL) zd))))) zd)))) ze)
theorem zhK :BD P w K mg base cl fa fdd k 10 ["letter","m","count"]:=fun Z C=>zap (fn:=zeZ) rfl Z.F10.F sc_asked_words rfl rfl fun _ _ _ _ _ _ hr=>have nd:=sc_asked_words.nd; have hu1:=zaf hr; (zb (zp (i:=3) nd rfl (lcF (i:=3) zbw rfl) (zx (za zo (za (zac za2 Z.c_SEEN) (za (zac za2 Z.c_SEEN) (za (zz (C 0 _ rfl) hr zeH Z.F0.m Z.F0.kp (zlQ Z.F0) rfl (za (svF zbw 0) zd) (zw (zbo zc (zw (zbo (svF zbw 1) zX))))) zd)))))) (zb (zu (zf zD (zf zD (zg (C 2 _ rfl) hr zbI Z.F2.m Z.F2.F.kp Z.F2.b (za (zbU (za (zx (za zo (za (zac za2 Z.c_SEEN) (za zc zd)))) zd)) zd)) (zg (C 3 _ rfl) hr zdX Z.F3.m Z.F3.F.kp Z.F3.b (za (svF zbw 2) (za (zx zd) (za (zg (C 2 _ rfl) hr zbI Z.F2.m Z.F2.F.kp Z.F2.b (za (zbU (za (svF zbw 3) zd)) zd)) zd))))) (zg (C 2 _ rfl) hr zbI Z.F2.m Z.F2.F.kp Z.F2.b (za (zbU (za (zx (za zo (za (zac za2 Z.c_SEEN) zd))) zd)) zd)))) ze))
theorem zg2 :BD P w K mg base cl fa fdd k 11 ["c","m"]:=fun Z C=>zap (fn:=zey) rfl Z.F11.F sc_answer_marks rfl rfl fun _ _ _ _ _ _ hr=>have nd:=sc_answer_marks.nd; have hu1:=zaf hr; (zb (zp (i:=2) nd rfl (lcF (i:=2) zaU rfl) (zbU (za (zx (za zo (za (zac zd4 Z.c_SPARE) (za (zz (C 0 _ rfl) hr zeq Z.F0.m Z.F0.kp (zlr Z.F0) rfl (za zo (za (zf zaY (svF zaU 0) zc) zd)) (zw (zw (zbo (svF zaU 1) zX)))) zd)))) (za (zg (C 8 _ rfl) hr zcY Z.F8.m Z.F8.F.kp Z.F8.b (za (zk (zac zcg Z.c_MARKS) zc) zd)) zd)))) (zb (zu (zf zD (zg (C 10 _ rfl) hr zcI Z.F10.m Z.F10.F.kp Z.F10.b (za zo (za zc (za (zx (za (svF zaU 0) (za (svF zaU 1) (za zc zd)))) zd)))) (zg (C 2 _ rfl) hr zel Z.F2.m Z.F2.F.kp Z.F2.b (za (zf zD (zg (C 9 _ rfl) hr zcl Z.F9.m Z.F9.F.kp Z.F9.b (za (zk (zac zcg Z.c_MARKS) zc) zd)) (svF zaU 2)) zd)))) ze))
theorem zjX :BD P w K mg base cl fa fdd k 12 []:=fun Z C=>zap (fn:=zho) rfl Z.F12.F sc_by_nought rfl rfl fun _ _ _ _ _ _ hr=>have nd:=sc_by_nought.nd; have hu1:=zaf hr; (zb (zu (zf zD (zg (C 10 _ rfl) hr zc5 Z.F10.m Z.F10.F.kp Z.F10.b (za zo (za zc (za (zac zdF Z.c_EACH_WORD) zd)))) (zg (C 2 _ rfl) hr zfM Z.F2.m Z.F2.F.kp Z.F2.b (za (zg (C 9 _ rfl) hr zcK Z.F9.m Z.F9.F.kp Z.F9.b (za (zk (zac zff Z.c_MARKS) zc) zd)) zd)))) ze)
theorem zlI :BD P w K mg base cl fa fdd k 13 ["x","y","answer","rest"]:=fun Z C=>zap (fn:=zjV) rfl Z.F13.F sc_divided rfl rfl fun _ _ _ _ _ _ hr=>have nd:=sc_divided.nd; have hu1:=zaf hr; (zb (zp (i:=4) nd rfl (lcF (i:=4) zaj rfl) (zx (za (zz (C 5 _ rfl) hr zbT Z.F5.m Z.F5.kp (zo5 Z.F5) rfl (za zc (za (zx (za (zz (C 4 _ rfl) hr zaS Z.F4.m Z.F4.kp (zgB Z.F4) rfl (za (svF zaj 0) zd) (zw (zw (zw (zbo zc zX))))) zd)) zd)) (zbo zc (zw (zw (zw zX))))) (za (zz (C 5 _ rfl) hr zbT Z.F5.m Z.F5.kp (zkT Z.F5) rfl (za (zf9 zc) (za (zx (za (zz (C 4 _ rfl) hr zaS Z.F4.m Z.F4.kp (zgB Z.F4) rfl (za (svF zaj 2) zd) (zw (zw (zw (zbo zc zX))))) (za (zz (C 4 _ rfl) hr zaS Z.F4.m Z.F4.kp (zgB Z.F4) rfl (za (svF zaj 1) zd) (zw (zw (zw (zbo zc zX))))) zd))) zd)) (zw (zw (zw (zbo zc zX))))) (za (zz (C 5 _ rfl) hr zbT Z.F5.m Z.F5.kp (zkT Z.F5) rfl (za (zf9 zc) (za (zx (za (zz (C 4 _ rfl) hr zaS Z.F4.m Z.F4.kp (zoe Z.F4) rfl (za (svF zaj 3) (za zc zd)) (zw (zw (zbo zc zX)))) zd)) zd)) (zw (zw (zw (zbo zc zX))))) (za (zz (C 5 _ rfl) hr zbT Z.F5.m Z.F5.kp (zfG Z.F5) rfl (za (zf9 zc) (za (zx (za (zz (C 4 _ rfl) hr zaS Z.F4.m Z.F4.kp (zgB Z.F4) rfl (za zo zd) (zw (zw (zw (zbo zc zX))))) zd)) zd)) (zw (zw (zw (zw zX))))) zd)))))) (zb (zp (i:=5) nd rfl (lcF (i:=5) zaj rfl) (zf zD (zf zD (zf zD (zg (C 14 _ rfl) hr zdK Z.F14.m Z.F14.F.kp Z.F14.b (za (svF zaj 3) zd)) (zg (C 15 _ rfl) hr zdk Z.F15.m Z.F15.F.kp Z.F15.b (za (svF zaj 3) (za (svF zaj 1) zd)))) (zg (C 16 _ rfl) hr zeS Z.F16.m Z.F16.F.kp Z.F16.b (za (svF zaj 3) (za (svF zaj 1) zd)))) (zg (C 17 _ rfl) hr zdw Z.F17.m Z.F17.F.kp Z.F17.b (za (svF zaj 2) zd)))) (zb (zu (zf zD (zz (C 6 _ rfl) hr zgy Z.F6.m Z.F6.kp (zpW Z.F6) rfl (za zo (za (svF zaj 0) zd)) (zw zX)) (zg (C 3 _ rfl) hr zfK Z.F3.m Z.F3.F.kp Z.F3.b (za (zac zdI Z.c_EACH_PLACE) (za (svF zaj 4) (za (svF zaj 5) zd)))))) ze)))
theorem ziP :BD P w K mg base cl fa fdd k 14 ["rest"]:=fun Z C=>zap (fn:=zgp) rfl Z.F14.F sc_next_place rfl rfl fun _ _ _ _ _ _ hr=>have nd:=sc_next_place.nd; have hu1:=zaf hr; (zb (zu (zf zD (zf zD (zg (C 2 _ rfl) hr zfd Z.F2.m Z.F2.F.kp Z.F2.b (za (zbU (za (zx (za zo (za zc zd))) zd)) zd)) (zg (C 7 _ rfl) hr zce Z.F7.m Z.F7.F.kp Z.F7.b (za zo (za (zac zdm Z.c_EACH_WORD) zd)))) (zg (C 7 _ rfl) hr zce Z.F7.m Z.F7.F.kp Z.F7.b (za (svF zim 0) (za (zx (za zc (za zc (za zc zd)))) zd))))) ze)
theorem zgS :BD P w K mg base cl fa fdd k 15 ["rest","y"]:=fun Z C=>zap (fn:=zeC) rfl Z.F15.F sc_less_divisor rfl rfl fun _ _ _ _ _ _ hr=>have nd:=sc_less_divisor.nd; have hu1:=zaf hr; (zb (zp (i:=2) nd rfl (lcF (i:=2) zad rfl) (zx (za zo (za (zz (C 0 _ rfl) hr zaQ Z.F0.m Z.F0.kp (zcU Z.F0) rfl (za (svF zad 0) zd) (zw (zw (zbo zc (zw zX))))) (za (zz (C 0 _ rfl) hr zaQ Z.F0.m Z.F0.kp (zcU Z.F0) rfl (za (svF zad 0) zd) (zw (zw (zbo zc (zw zX))))) (za (zz (C 0 _ rfl) hr zaQ Z.F0.m Z.F0.kp (zcU Z.F0) rfl (za (svF zad 1) zd) (zw (zw (zbo zc (zw zX))))) zd)))))) (zb (zp (i:=3) nd rfl (lcF (i:=3) zad rfl) (zz (C 0 _ rfl) hr zaQ Z.F0.m Z.F0.kp (zlj Z.F0) rfl (za (svF zad 0) zd) (zw (zw (zw (zbo zc zX)))))) (zb (zu (zf zD (zg (C 3 _ rfl) hr zdB Z.F3.m Z.F3.F.kp Z.F3.b (za (zac zcZ Z.c_EACH_WORD) (za (zx zd) (za (zg (C 2 _ rfl) hr zcp Z.F2.m Z.F2.F.kp Z.F2.b (za (zbU (za (svF zad 2) zd)) zd)) zd)))) (zg (C 2 _ rfl) hr zcp Z.F2.m Z.F2.F.kp Z.F2.b (za (zbU (za (zx (za zo (za (svF zad 3) (za (svF zad 3) (za (zac zeO Z.c_NIL) zd))))) zd)) zd)))) ze)))
theorem zkQ :BD P w K mg base cl fa fdd k 16 ["rest","y"]:=fun Z C=>zap (fn:=zid) rfl Z.F16.F sc_put_back rfl rfl fun _ _ _ _ _ _ hr=>have nd:=sc_put_back.nd; have hu1:=zaf hr; (zb (zp (i:=2) nd rfl (lcF (i:=2) zaA rfl) (zbU (za (zx (za zo (za (zac zc1 Z.c_SPARE) (za (zz (C 0 _ rfl) hr zbz Z.F0.m Z.F0.kp (zcU Z.F0) rfl (za (svF zaA 1) zd) (zw (zw (zbo zc (zw zX))))) (za (zac zdu Z.c_BACK) zd))))) (za (zx (za zo (za (zz (C 0 _ rfl) hr zbz Z.F0.m Z.F0.kp (zcU Z.F0) rfl (za (svF zaA 0) zd) (zw (zw (zbo zc (zw zX))))) (za (zz (C 0 _ rfl) hr zbz Z.F0.m Z.F0.kp (zcU Z.F0) rfl (za (svF zaA 0) zd) (zw (zw (zbo zc (zw zX))))) (za (zac zc1 Z.c_SPARE) zd))))) zd)))) (zb (zp (i:=3) nd rfl (lcF (i:=3) zaA rfl) (zz (C 0 _ rfl) hr zbz Z.F0.m Z.F0.kp (zlj Z.F0) rfl (za (svF zaA 0) zd) (zw (zw (zw (zbo zc zX)))))) (zb (zp (i:=4) nd rfl (lcF (i:=4) zaA rfl) (zg (C 2 _ rfl) hr zcm Z.F2.m Z.F2.F.kp Z.F2.b (za (zbU (za (zx (za zo (za (zac zdu Z.c_BACK) (za (zac zcH Z.c_NIL) (za (zac zcH Z.c_NIL) zd))))) (za (zx (za zo (za zc zd))) zd))) zd))) (zb (zu (zf zD (zf zD (svF zaA 4) (zg (C 3 _ rfl) hr zfu Z.F3.m Z.F3.F.kp Z.F3.b (za (zac zd2 Z.c_EACH_WORD) (za (zx zd) (za (zg (C 2 _ rfl) hr zcm Z.F2.m Z.F2.F.kp Z.F2.b (za (svF zaA 2) zd)) zd))))) (zg (C 2 _ rfl) hr zcm Z.F2.m Z.F2.F.kp Z.F2.b (za (zbU (za (zx (za zo (za (svF zaA 3) (za (svF zaA 3) (za (zac zcH Z.c_NIL) zd))))) zd)) zd)))) ze))))
theorem zhM :BD P w K mg base cl fa fdd k 17 ["answer"]:=fun Z C=>zap (fn:=zfs) rfl Z.F17.F sc_next_figure rfl rfl fun _ _ _ _ _ _ hr=>have nd:=sc_next_figure.nd; have hu1:=zaf hr; (zb (zu (zf zD (zg (C 2 _ rfl) hr zeL Z.F2.m Z.F2.F.kp Z.F2.b (za (zbU (za (zx (za zo (za (zac zbJ Z.c_BACK) (za (zac zbJ Z.c_BACK) zd)))) (za (zx (za zo (za (zac zbJ Z.c_BACK) zd))) zd))) zd)) (zg (C 7 _ rfl) hr zdz Z.F7.m Z.F7.F.kp Z.F7.b (za (svF zhH 0) (za (zac zc9 Z.c_EACH_WORD) zd))))) ze)
theorem zcJ :BD P w K mg base cl fa fdd k 18 []:=fun Z C=>zap (fn:=zbp) rfl Z.F18.F sc_signed_quotient_telling rfl rfl fun _ _ _ _ _ _ hr=>have nd:=sc_signed_quotient_telling.nd; have hu1:=zaf hr; (zb (zp (i:=0) nd rfl (lcF (i:=0) zH rfl) (zf zD (zf zD (zg (C 19 _ rfl) hr zaw Z.F19.m Z.F19.F.kp Z.F19.b (za (zac zN Z.c_SIGN_X) (za zo zd))) (zg (C 19 _ rfl) hr zaw Z.F19.m Z.F19.F.kp Z.F19.b (za (zac zaa Z.c_SIGN_Y) (za zo zd)))) (zg (C 2 _ rfl) hr zb8 Z.F2.m Z.F2.F.kp Z.F2.b (za (zbU (za (zx (za zo (za (zac zao Z.c_SIGN_OF_BOTH) (za (zac zN Z.c_SIGN_X) (za (zac zaa Z.c_SIGN_Y) zd))))) zd)) zd)))) (zb (zp (i:=1) nd rfl (lcF (i:=1) zH rfl) (zf zD (zg (C 21 _ rfl) hr zB Z.F21.m Z.F21.F.kp Z.F21.b (za (zac zN Z.c_SIGN_X) (za zo (za zo zd)))) (zg (C 21 _ rfl) hr zB Z.F21.m Z.F21.F.kp Z.F21.b (za (zac zaa Z.c_SIGN_Y) (za zo (za zo zd)))))) (zb (zp (i:=2) nd rfl (lcF (i:=2) zH rfl) (zf zD (zg (C 21 _ rfl) hr zB Z.F21.m Z.F21.F.kp Z.F21.b (za (zac zao Z.c_SIGN_OF_BOTH) (za zo (za zo zd)))) (zg (C 21 _ rfl) hr zB Z.F21.m Z.F21.F.kp Z.F21.b (za (zac zN Z.c_SIGN_X) (za zo (za zo zd)))))) (zb (zu (zf zD (zf zD (zf zD (zf zD (zf zD (zf zD (svF zH 0) (svF zH 1)) (zg (C 13 _ rfl) hr zbQ Z.F13.m Z.F13.F.kp Z.F13.b (za zo (za zo (za zo (za zo zd)))))) (svF zH 2)) (ziq (C 12 _ rfl) hr zbt Z.F12.m Z.F12.F.kp Z.F12.b)) (ziq (C 22 _ rfl) hr za9 Z.F22.m Z.F22.F.kp Z.F22.b)) (zg (C 11 _ rfl) hr zbj Z.F11.m Z.F11.F.kp Z.F11.b (za zc (za zc zd))))) ze))))
theorem zjT :BD P w K mg base cl fa fdd k 19 ["to","letter"]:=fun Z C=>zap (fn:=zhw) rfl Z.F19.F sc_kept_sign rfl rfl fun _ _ _ _ _ _ hr=>have nd:=sc_kept_sign.nd; have hu1:=zaf hr; (zb (zu (zg (C 2 _ rfl) hr zfN Z.F2.m Z.F2.F.kp Z.F2.b (za (zbU (za (zx (za zo (za (zac zeW Z.c_SPARE) (za (zg (C 1 _ rfl) hr zdD Z.F1.m Z.F1.F.kp Z.F1.b (za (svF zf8 1) zd)) zd)))) (za (zg (C 8 _ rfl) hr zdy Z.F8.m Z.F8.F.kp Z.F8.b (za (svF zf8 0) zd)) zd))) zd))) ze)
theorem zkt :BD P w K mg base cl fa fdd k 20 ["cell"]:=fun Z C=>zap (fn:=zie) rfl Z.F20.F sc_worth_of rfl rfl fun _ _ _ _ _ _ hr=>have nd:=sc_worth_of.nd; have hu1:=zaf hr; (zb (zu (zz (C 4 _ rfl) hr zeX Z.F4.m Z.F4.kp (zpP Z.F4) rfl (za (zk (svF zkc 0) zc) (za zc zd)) (zw (zw (zw zX))))) ze)
theorem zhl :BD P w K mg base cl fa fdd k 21 ["sign","to","source"]:=fun Z C=>zap (fn:=zez) rfl Z.F21.F sc_turned_where rfl rfl fun _ _ _ _ _ _ hr=>have nd:=sc_turned_where.nd; have hu1:=zaf hr; (zb (zp (i:=3) nd rfl (lcF (i:=3) zU rfl) (zx (za (zz (C 5 _ rfl) hr zas Z.F5.m Z.F5.kp (zfG Z.F5) rfl (za zc (za (zx (za (zz (C 4 _ rfl) hr zba Z.F4.m Z.F4.kp (zfq Z.F4) rfl (za (svF zU 1) zd) (zw (zbo zc (zw (zw zX))))) zd)) zd)) (zw (zw (zw (zw zX))))) (za (zz (C 5 _ rfl) hr zas Z.F5.m Z.F5.kp (zkW Z.F5) rfl (za zc (za (zx (za (zx (za zo zd)) zd)) zd)) (zw (zbo zc (zw (zw zX))))) (za (zz (C 5 _ rfl) hr zas Z.F5.m Z.F5.kp (zfG Z.F5) rfl (za (zf9 zc) (za (zx (za (zz (C 4 _ rfl) hr zba Z.F4.m Z.F4.kp (zfq Z.F4) rfl (za (svF zU 2) zd) (zw (zbo zc (zw (zw zX))))) zd)) zd)) (zw (zw (zw (zw zX))))) (za (zz (C 5 _ rfl) hr zas Z.F5.m Z.F5.kp (zfG Z.F5) rfl (za zc (za (zx (za (zg (C 20 _ rfl) hr zbL Z.F20.m Z.F20.F.kp Z.F20.b (za (svF zU 0) zd)) (za (zz (C 4 _ rfl) hr zba Z.F4.m Z.F4.kp (zfq Z.F4) rfl (za (svF zU 2) zd) (zw (zbo zc (zw (zw zX))))) zd))) zd)) (zw (zw (zw (zw zX))))) (za (zz (C 5 _ rfl) hr zas Z.F5.m Z.F5.kp (zkW Z.F5) rfl (za (zf9 zc) (za (zx (za (zg (C 20 _ rfl) hr zbL Z.F20.m Z.F20.F.kp Z.F20.b (za (svF zU 0) zd)) zd)) zd)) (zw (zbo zc (zw (zw zX))))) zd))))))) (zb (zu (zf zD (zg (C 2 _ rfl) hr zcq Z.F2.m Z.F2.F.kp Z.F2.b (za (zbU (za (zx (za zo (za (svF zU 0) zd))) (za (zx (za zo (za (zac zbe Z.c_FILL_signed) (za (zac zbF Z.c_NIL) (za (zac zbF Z.c_NIL) zd))))) zd))) zd)) (zg (C 3 _ rfl) hr zdA Z.F3.m Z.F3.F.kp Z.F3.b (za (zac zcV Z.c_EACH_WORD) (za (svF zU 3) (za (zg (C 2 _ rfl) hr zcq Z.F2.m Z.F2.F.kp Z.F2.b (za (zbU (za (zx (za zo (za (zac zci Z.c_SPARE) (za (zz (C 0 _ rfl) hr zcn Z.F0.m Z.F0.kp (zgJ Z.F0) rfl (za (svF zU 2) zd) (zw (zbo zc (zw (zw zX))))) (za (zac zbe Z.c_FILL_signed) zd))))) (za (zx (za zo (za (zz (C 0 _ rfl) hr zcn Z.F0.m Z.F0.kp (zgJ Z.F0) rfl (za (svF zU 1) zd) (zw (zbo zc (zw (zw zX))))) (za (zac zci Z.c_SPARE) (za (zac zbF Z.c_NIL) zd))))) zd))) zd)) zd)))))) ze))
theorem zfI :BD P w K mg base cl fa fdd k 22 []:=fun Z C=>zap (fn:=zds) rfl Z.F22.F sc_unfit_quotient rfl rfl fun _ _ _ _ _ _ hr=>have nd:=sc_unfit_quotient.nd; have hu1:=zaf hr; (zb (zu (zg (C 2 _ rfl) hr zdv Z.F2.m Z.F2.F.kp Z.F2.b (za (zbU (za (zx (za zo (za (zac zdf Z.c_SPARE) (za (zg (C 1 _ rfl) hr zcA Z.F1.m Z.F1.F.kp Z.F1.b (za zo zd)) zd)))) (za (zg (C 8 _ rfl) hr zcz Z.F8.m Z.F8.F.kp Z.F8.b (za (zk (zac z8 Z.c_MARKS) zc) zd)) (za (zx (za zo (za (zk (zac z8 Z.c_MARKS) zc) (za (zk (zac z8 Z.c_MARKS) zc) (za (zac zaX Z.c_SIGN_OF_BOTH) zd))))) (za (zx (za zo (za (zk (zac z8 Z.c_MARKS) zc) (za (zk (zac z8 Z.c_MARKS) zc) (za (zac zaX Z.c_SIGN_OF_BOTH) zd))))) zd))))) zd))) ze)
theorem zl6 :BD P w K mg base cl fa fdd k 23 ["deed"]:=fun Z C=>zap (fn:=zjj) rfl Z.F23.F sc_telling rfl rfl fun _ _ _ _ _ _ hr=>have nd:=sc_telling.nd; have hu1:=zaf hr; (zb (zK (zbs (za4 (zg (C 24 _ rfl) hr ze9 Z.F24.m Z.F24.F.kp Z.F24.b (za (svF zc6 0) zd)))) (zb zab ze) ze) (zb (zK (zr (zag hr.units) (zk (svF zc6 0) zc) zo (nomark _)) (zb zab ze) ze) (zb (zK (zr zhP (zk (svF zc6 0) zc) (zac zfP Z.c_SHIFTS) (by with_unfolding_all rfl)) (zb zab ze) ze) (zb (zK (zr zhP (zk (svF zc6 0) zc) (zac zeG Z.c_PAIRWISE) (by with_unfolding_all rfl)) (zb zab ze) ze) (zb (zu (zg (C 25 _ rfl) hr zc7 Z.F25.m Z.F25.F.kp Z.F25.b (za (zk (svF zc6 0) zc) zd))) ze)))))
theorem zmd :BD P w K mg base cl fa fdd k 24 ["thing"]:=fun Z C=>zap (fn:=zj1) rfl Z.F24.F sc_is_deed rfl rfl fun _ _ _ _ _ _ hr=>have nd:=sc_is_deed.nd; have hu1:=zaf hr; (zb (zK (PW.pt (zb9 (zbs (za4 (zcf (t:=.tuple) Z.k_tuple rfl zdO Z.z_isinstance zgv Z.z_tuple zaK (svF zca 0)))) (zb1 (zr (zag hr.units) (zY zaZ zeD Z.z_len zaW (za (svF zca 0) zd)) zc (nomark _))))) (zb zab ze) ze) (zb (zK (zr (zag hr.units) (zk (svF zca 0) zc) zo (nomark _)) (zb zab ze) ze) (zb (zK (zr zhP (zk (svF zca 0) zc) (zac zfS Z.c_SHIFTS) (by with_unfolding_all rfl)) (zb zab ze) ze) (zb (zu (zcj (zbb (zag hr.units) (zY zaZ zeD Z.z_len zaW (za (svF zca 0) zd)) zc (nomark _)) (zcM (zpS (zbb zhP (zk (svF zca 0) zc) (zac zfH Z.c_PAIRED) (by with_unfolding_all rfl)) (zcM (zbb zhP (zk (svF zca 0) zc) (zac zhn Z.c_LONE) (by with_unfolding_all rfl))))))) ze))))
theorem zgw :BD P w K mg base cl fa fdd k 25 ["name"]:=fun Z C=>zap (fn:=zdP) rfl Z.F25.F sc_named_telling rfl rfl fun _ _ _ _ _ _ hr=>have nd:=sc_named_telling.nd; have hu1:=zaf hr; (zb (zK (zr (zag hr.units) (svF zah 0) zo (nomark _)) (zb zab ze) ze) (zb (zK (zr (zag hr.units) (svF zah 0) zo (nomark _)) (zb zab ze) ze) (zb (zK (zr (zag hr.units) (svF zah 0) zo (nomark _)) (zb zab ze) ze) (zb (zK (zr (zag hr.units) (svF zah 0) zo (nomark _)) (zb zab ze) ze) (zb (zK (zr (zag hr.units) (svF zah 0) zo (nomark _)) (zb zab ze) ze) (zb (zK (zr (zag hr.units) (svF zah 0) zo (nomark _)) (zb zab ze) ze) (zb (zK (zr (zag hr.units) (svF zah 0) zo (nomark _)) (zb zab ze) ze) (zb (zK (zr (zag hr.units) (svF zah 0) zo (nomark _)) (zb zab ze) ze) (zb (zu (ziq (C 18 _ rfl) hr zbc Z.F18.m Z.F18.F.kp Z.F18.b)) ze)))))))))
theorem zmA :BD P w K mg base cl fa fdd k 26 ["_law_script"]:=fun Z C=>zap (fn:=zgL) rfl Z.F26.F sc_qfresh rfl rfl fun _ _ _ _ _ _ hr=>have nd:=sc_qfresh.nd; have hu1:=zaf hr; (zb (zu (ziA (za (zk0 (svF znE 0) ziB (zi7 zc)) (za zc (za zc (za zkM zd)))))) ze)
theorem znC :BD P w K mg base cl fa fdd k 27 ["_law_seed"]:=fun Z C=>zap (fn:=f_qmixed) rfl Z.F27.F sc_qmixed rfl rfl fun _ _ _ _ _ _ hr=>have nd:=sc_qmixed.nd; have hu1:=zaf hr; (zb (zp (i:=1) nd rfl (lcF (i:=1) zC rfl) (zx (za zc (za zc (za zc (za zc (za zc zd))))))) (zb (zp (i:=2) nd rfl (lcF (i:=2) zC rfl) zc) (zb (zbO own1 rfl (zki zeV Z.z_enumerate (svF zC 1)) (zkX rfl (zcS (i:=3) nd rfl (lcF (i:=3) zC rfl) (zcS (i:=4) nd rfl (lcF (i:=4) zC rfl) ziY))) (zb (zp (i:=5) nd rfl (lcF (i:=5) zC rfl) (zf zD (svF zC 0) (zk (zx (za zc (za zc (za zc (za zc (za zc zd)))))) (svF zC 3)))) (zb (zp (i:=5) nd rfl (lcF (i:=5) zC rfl) (zf zbn (zf zT (svF zC 5) (zf zD zc (zf zT zc (svF zC 3)))) (svF zC 4))) (zb (zp (i:=6) nd rfl (lcF (i:=6) zC rfl) (zf zbn (zf zT (svF zC 5) (svF zC 5)) (svF zC 4))) (zb (zp (i:=7) nd rfl (lcF (i:=7) zC rfl) (zf zbn (zf zT (zf zbn (zf zT (svF zC 6) (svF zC 6)) (svF zC 4)) (svF zC 5)) (svF zC 4))) (zb (zp (i:=2) nd rfl (lcF (i:=2) zC rfl) (zf zD (zf zT (svF zC 2) (svF zC 4)) (svF zC 7))) ze)))))) (zb (zu (svF zC 2)) ze))))
theorem zo8 :BD P w K mg base cl fa fdd k 28 ["_law_state"]:=fun Z C=>zap (fn:=zeT) rfl Z.F28.F sc_qfill rfl rfl fun _ _ _ _ _ _ hr=>have nd:=sc_qfill.nd; have hu1:=zaf hr; (zb (zpE rfl nd rfl rfl (by decide) (zpx rfl nd rfl rfl (by decide) rfl rfl (za (zk (svF zP 0) zc) (za (zk (svF zP 0) zc) zd)) rfl)) (zb (zp (i:=3) nd rfl (lcF (i:=3) zP rfl) (zf zD (zf zT zc (svF zP 2)) zc)) (zb (zK (zr zir (zY zaZ zcT Z.z_len zaW (za (svF zP 1) zd)) zc (nomark _)) (zb (zp (i:=3) nd rfl (lcF (i:=3) zP rfl) (zf zT zc (zf zaR (svF zP 2) (zY zaZ zcT Z.z_len zaW (za (svF zP 1) zd))))) (zb (zp (i:=3) nd rfl (lcF (i:=3) zP rfl) (zf zD (svF zP 3) (zk (svF zP 1) (zf zbn (svF zP 2) (zY zaZ zcT Z.z_len zaW (za (svF zP 1) zd)))))) ze)) ze) (zb (zhZ (zf zD (svF zP 2) zc) (svF zP 0) zc (hg:=zhk (svF zP 0) zc zde)) (zb (zhZ (zpS (zbb zmv (svF zP 2) (zY zaZ zcT Z.z_len zaW (za (svF zP 1) zd)) (nomark _)) (zcM (zbb zhT (svF zP 3) (zf znm zc zc) (nomark _)))) (svF zP 0) zc (hg:=zhk (svF zP 0) zc zde)) (zb (zK (za4 (zk (svF zP 0) zc)) (zb (zhZ (zg (C 27 _ rfl) hr zhe Z.F27.m Z.F27.F.kp Z.F27.b (za (svF zP 3) zd)) (svF zP 0) zc (hg:=zhk (svF zP 0) zc zde)) ze) (zb (zhZ (zf zaY (svF zP 3) (zf znm zc zc)) (svF zP 0) zc (hg:=zhk (svF zP 0) zc zde)) ze)) ze))))))
theorem zoR :BD P w K mg base cl fa fdd k 29 ["_law_state","_law_many"]:=fun Z C=>zap (fn:=f_qtake) rfl Z.F29.F sc_qtake rfl rfl fun _ _ _ _ _ _ hr=>have nd:=sc_qtake.nd; have hu1:=zaf hr; (zb (zp (i:=2) nd rfl (lcF (i:=2) zW rfl) zc) (zb (zov own1 (PW.pt (ze8 (zr zhT (svF zW 2) zc (nomark _)) (zdg (PW.pt (zb9 (zr (zag hr.units) (zk (svF zW 0) zc) zc (nomark _)) (zb1 (PW.pt (ze8 (za4 (zk (svF zW 0) zc)) (zdg (zr zhT (zk (svF zW 0) zc) (zf zT (svF zW 1) zc) (nomark _))))))))))) (zb (zeI (zg (C 28 _ rfl) hr zhI Z.F28.m Z.F28.F.kp Z.F28.b (za (svF zW 0) zd))) (zb (zn3 (i:=2) nd rfl (lcF (i:=2) zW rfl) zc zko) (zb (zK (PW.pt (ze8 (za4 (zk (svF zW 0) zc)) (zdg (zr zhT (zk (svF zW 0) zc) (zf zT (svF zW 1) zc) (nomark _))))) (zb (zhZ (zf zD (zk (svF zW 0) zc) (zf zT (zf zT (svF zW 1) zc) (zf zD zc (zf zbn (zk (svF zW 0) zc) zc)))) (svF zW 0) zc (hg:=zhk (svF zW 0) zc zde)) ze) ze) ze)))) (zb (zp (i:=3) nd rfl (lcF (i:=3) zW rfl) (zf zbn (zk (svF zW 0) zc) (svF zW 1))) (zb (zhZ (zf zaR (zk (svF zW 0) zc) (svF zW 1)) (svF zW 0) zc (hg:=zhk (svF zW 0) zc zde)) (zb (zu (svF zW 3)) ze)))))
theorem zmu :BD P w K mg base cl fa fdd k 30 ["_law_state","_law_w","_law_n"]:=fun Z C=>zap (fn:=f_qworth) rfl Z.F30.F sc_qworth rfl rfl fun _ _ _ _ _ _ hr=>have nd:=sc_qworth.nd; have hu1:=zaf hr; (zb (zp (i:=3) nd rfl (lcF (i:=3) zi rfl) (zg (C 29 _ rfl) hr zbh Z.F29.m Z.F29.F.kp Z.F29.b (za (svF zi 0) (za zc zd)))) (zb (zp (i:=4) nd rfl (lcF (i:=4) zi rfl) zc) (zb (zbO own1 rfl (zbq zbd Z.z_range (zf zT (svF zi 1) (svF zi 2))) (zar (i:=5) nd rfl (lcF (i:=5) zi rfl)) (zb (zp (i:=4) nd rfl (lcF (i:=4) zi rfl) (zf zT zc (svF zi 4))) ze)) (zb (zp (i:=6) nd rfl (lcF (i:=6) zi rfl) (zx (za zc (za zc (za (zf zaY (svF zi 4) zc) (za (zf zaR (svF zi 4) zc) (za (zf zaY (zf zaR (svF zi 4) zc) zc) (za (zf zaY (svF zi 4) zc) zd)))))))) (zb (zK (zr zhT (svF zi 3) zc (nomark _)) (zb (zu (zk (svF zi 6) (svF zi 3))) ze) ze) (zb (zp (i:=7) nd rfl (lcF (i:=7) zi rfl) (zg (C 29 _ rfl) hr zbh Z.F29.m Z.F29.F.kp Z.F29.b (za (svF zi 0) (za (svF zi 4) zd)))) (zb (zK (zr (zag hr.units) (svF zi 3) zc (nomark _)) (zb (zp (i:=8) nd rfl (lcF (i:=8) zi rfl) zc) (zb (zbO own1 rfl (zbq zbd Z.z_range (zg (C 29 _ rfl) hr zbh Z.F29.m Z.F29.F.kp Z.F29.b (za (svF zi 0) (za (zf zT (svF zi 1) (svF zi 2)) zd)))) (zar (i:=5) nd rfl (lcF (i:=5) zi rfl)) (zb (zp (i:=8) nd rfl (lcF (i:=8) zi rfl) (zf zT zc (svF zi 8))) ze)) (zb (zu (zf zT (zf zaR (svF zi 7) (svF zi 8)) (svF zi 8))) ze))) ze) (zb (zK (zr (zag hr.units) (svF zi 3) zc (nomark _)) (zb (zp (i:=8) nd rfl (lcF (i:=8) zi rfl) zc) (zb (zbO own1 rfl (zbq zbd Z.z_range (zg (C 29 _ rfl) hr zbh Z.F29.m Z.F29.F.kp Z.F29.b (za (svF zi 0) (za (zf zT (svF zi 1) (svF zi 2)) zd)))) (zar (i:=5) nd rfl (lcF (i:=5) zi rfl)) (zb (zp (i:=8) nd rfl (lcF (i:=8) zi rfl) (zf zT zc (svF zi 8))) ze)) (zb (zu (zf zaY (svF zi 4) (svF zi 8))) ze))) ze) (zb (zK (zr zir (svF zi 3) zc (nomark _)) (zb (zu (svF zi 7)) ze) ze) (zb (zp (i:=9) nd rfl (lcF (i:=9) zi rfl) zc) (zb (zbO own1 rfl (zbq zbd Z.z_range (svF zi 1)) (zar (i:=5) nd rfl (lcF (i:=5) zi rfl)) (zb (zp (i:=9) nd rfl (lcF (i:=9) zi rfl) (zf zT zc (svF zi 9))) ze)) (zb (zp (i:=10) nd rfl (lcF (i:=10) zi rfl) zc) (zb (zbO own1 rfl (zbq zbd Z.z_range (svF zi 2)) (zar (i:=5) nd rfl (lcF (i:=5) zi rfl)) (zb (zp (i:=11) nd rfl (lcF (i:=11) zi rfl) (zf zbn (zf zaR (svF zi 7) (zf zD (svF zi 5) zc)) (svF zi 9))) (zb (zp (i:=12) nd rfl (lcF (i:=12) zi rfl) (zx (za zc (za zc (za (zf zaY (svF zi 9) zc) (za (zf zaR (svF zi 9) zc) (za (svF zi 11) zd))))))) (zb (zp (i:=10) nd rfl (lcF (i:=10) zi rfl) (zf zD (zf zT (svF zi 10) (svF zi 9)) (zk (svF zi 12) (zg (C 29 _ rfl) hr zbh Z.F29.m Z.F29.F.kp Z.F29.b (za (svF zi 0) (za zc zd)))))) ze)))) (zb (zu (svF zi 10)) ze))))))))))))))
theorem zl0 :BD P w K mg base cl fa fdd k 31 ["_law_many"]:=fun Z C=>zap (fn:=ze1) rfl Z.F31.F sc_qtwo_to rfl rfl fun _ _ _ _ _ _ hr=>have nd:=sc_qtwo_to.nd; have hu1:=zaf hr; (zb (zp (i:=1) nd rfl (lcF (i:=1) zcw rfl) zc) (zb (zbO own1 rfl (zbq zgt Z.z_range (svF zcw 0)) (zar (i:=2) nd rfl (lcF (i:=2) zcw rfl)) (zb (zp (i:=1) nd rfl (lcF (i:=1) zcw rfl) (zf zT zc (svF zcw 1))) ze)) (zb (zu (svF zcw 1)) ze)))
theorem znT :BD P w K mg base cl fa fdd k 32 ["_law_worth_here","_law_w","_law_n"]:=fun Z C=>zap (fn:=zgM) rfl Z.F32.F sc_qwords rfl rfl fun _ _ _ _ _ _ hr=>have nd:=sc_qwords.nd; have hu1:=zaf hr; (zb (zp (i:=3) nd rfl (lcF (i:=3) za7 rfl) (zg (C 31 _ rfl) hr zfF Z.F31.m Z.F31.F.kp Z.F31.b (za (svF za7 1) zd))) (zb (zp (i:=4) nd rfl (lcF (i:=4) za7 rfl) (ziA zd)) (zb (zbO own1 rfl (zbq zg9 Z.z_range (svF za7 2)) (zar (i:=5) nd rfl (lcF (i:=5) za7 rfl)) (zb (zeI (zdS (svF za7 4) (zf zbn (svF za7 0) (svF za7 3)))) (zb (zp (i:=0) nd rfl (lcF (i:=0) za7 rfl) (zf zaR (svF za7 0) (svF za7 3))) ze))) (zb (zu (zdc zgI zhz Z.z_tuple zaK (za (svF za7 4) zd))) ze))))
theorem zmk :BD P w K mg base cl fa fdd k 33 ["_law_worth_here","_law_many"]:=fun Z C=>zap (fn:=zfB) rfl Z.F33.F sc_qsigned rfl rfl fun _ _ _ _ _ _ hr=>have nd:=sc_qsigned.nd; have hu1:=zaf hr; (zb (zp (i:=2) nd rfl (lcF (i:=2) zb7 rfl) (zg (C 31 _ rfl) hr ze7 Z.F31.m Z.F31.F.kp Z.F31.b (za (svF zb7 1) zd))) (zb (zK (zr zmv (zf zT zc (svF zb7 0)) (svF zb7 2) (nomark _)) (zb (zu (zf zaY (svF zb7 0) (svF zb7 2))) ze) ze) (zb (zu (svF zb7 0)) ze)))
theorem zmL :BD P w K mg base cl fa fdd k 34 ["_law_thing_here"]:=fun Z C=>zap (fn:=zk2) rfl Z.F34.F sc_qwhole rfl rfl fun _ _ _ _ _ _ hr=>have nd:=sc_qwhole.nd; have hu1:=zaf hr; (zb (zu (zcj (zcf (t:=.int) Z.k_int rfl zco Z.z_isinstance ziw Z.z_int zh3 (svF zjq 0)) (zcM (zrY (zcf (t:=.bool) Z.k_bool rfl zco Z.z_isinstance zhF Z.z_bool zqr (svF zjq 0)))))) ze)
theorem zmh :BD P w K mg base cl fa fdd k 35 ["_law_thing_here","_law_many","_law_most"]:=fun Z C=>zap (fn:=zjk) rfl Z.F35.F sc_qwholes rfl rfl fun _ _ _ _ _ _ hr=>have nd:=sc_qwholes.nd; have hu1:=zaf hr; (zb (zK (PW.pt (zb9 (zbs (za4 (zcf (t:=.tuple) Z.k_tuple rfl zdG Z.z_isinstance zgs Z.z_tuple zaK (svF zek 0)))) (zb1 (zr (zf1 hr.units) (zY zaZ zhO Z.z_len zaW (za (svF zek 0) zd)) (svF zek 1) (nomark _))))) (zb zab ze) ze) (zb (zu (zY (zjc rfl) zhG Z.z_all zjE (za (zdJ rfl (compOk (NC:=["_law_part_here","_law_most"]) (slots:=[none,some 2]) ["_law_thing_here","_law_many","_law_most"] (defScope zbi) rfl rfl rfl (by decide +kernel) (by decide +kernel) (by decide +kernel) (by decide +kernel) rfl) (by decide) (zcL (svF zek 0)) (fun j=>zd6 rfl (zar (i:=0) (show (["_law_part_here","_law_most"]:List Str).Nodup by decide +kernel) rfl (by first | exact Or.inl rfl | exact Or.inr rfl))) (fun j=>zcP) (fun j=>zd1 rfl (zcj (zg (C 34 _ rfl) hr rfl Z.F34.m Z.F34.F.kp Z.F34.b (za (sv 0) zd)) (zcM (zop zjQ zjQ (zf zaY zc (sv 1)) (sv 0) (sv 1)))))) zd))) ze))
theorem zlH :BD P w K mg base cl fa fdd k 36 ["_law_thing_here"]:=fun Z C=>zap (fn:=zjG) rfl Z.F36.F sc_qletter rfl rfl fun _ _ _ _ _ _ hr=>have nd:=sc_qletter.nd; have hu1:=zaf hr; (zb (zu (zcj (zcf (t:=.str) Z.k_str rfl zdV Z.z_isinstance zhV Z.z_str zpr (svF zfZ 0)) (zcj (zbb (zag hr.units) (zY zaZ zhW Z.z_len zaW (za (svF zfZ 0) zd)) zc (nomark _)) (zcM (zbb zhP (svF zfZ 0) zo (by with_unfolding_all rfl)))))) ze)
theorem zhL :BD P w K mg base cl fa fdd k 37 ["_law_thing_here"]:=fun Z C=>zap (fn:=zfw) rfl Z.F37.F sc_qindex_cell rfl rfl fun _ _ _ _ _ _ hr=>have nd:=sc_qindex_cell.nd; have hu1:=zaf hr; (zb (zu (zcj (zcf (t:=.tuple) Z.k_tuple rfl zc0 Z.z_isinstance zer Z.z_tuple zaK (svF zcd 0)) (zcj (zbb (zag hr.units) (zY zaZ zfv Z.z_len zaW (za (svF zcd 0) zd)) zc (nomark _)) (zcj (zg (C 36 _ rfl) hr zdE Z.F36.m Z.F36.F.kp Z.F36.b (za (zk (svF zcd 0) zc) zd)) (zcM (zg (C 35 _ rfl) hr zdC Z.F35.m Z.F35.F.kp Z.F35.b (za (zk (svF zcd 0) zc) (za zc (za zc zd))))))))) ze)
inductive OkD:List (Option Expr)->List Expr->List (Str × Int)->Prop
 | nil:OkD [] [] []
 | cons {x:Str} {i:Int} {j1 j2:Nat} {p1 p2:Pos} {ks:List (Option Expr)} {vs:List Expr} {kvs:List (Str × Int)} (h:OkD ks vs kvs):OkD (some (.Constant (.str x) j1 p1) :: ks) (.Constant (.int i) j2 p2 :: vs) ((x,i) :: kvs)
theorem zsf {X:L2.Cx} {pos:Pos}:∀ {ks:List (Option Expr)} {vs:List Expr} {kvs:List (Str × Int)},OkD ks vs kvs->PPs X pos ks vs (trC kvs)
 | _,_,_,.nil => zrv
 | _,_,_,.cons h => zp2 (zsf h)
@[irreducible] def PEi (X:L2.Cx) (a:Expr) (t:L2.TE):Prop:=L2.PE X a t
theorem zrd {X:L2.Cx} {a:Expr} {t:L2.TE} (h:L2.PE X a t):PEi X a t:=by unfold PEi; exact h
theorem zrk {X:L2.Cx} {a:Expr} {t:L2.TE} (h:PEi X a t):L2.PE X a t:=by unfold PEi at h; exact h
theorem zoE {S:Se} {X:L2.Cx} {pos:Pos} {ks:List (Option Expr)} {vs:List Expr} {kvs:List (Str × Int)} (h:OkD ks vs kvs) (hall:ks.all (·.isSome)=true) (hl:ks.length=vs.length) (h0:ks ≠ []) (h15:ks.length<=15):PEi X (.Dict ks vs pos) (tE S X (.newd kvs)):=zrd (zp5 (zsf h) hall hl h0 h15)
theorem zqc {S:Se} {X:L2.Cx} {a:Expr} {ca:Ce} {px pos:Pos} {i:Nat} {x:Str} (hN:X.N.Nodup) (hi:X.N[i]?=some x) (hx:Loc X.env.scope x) (he:PEi X a (tE S X ca)) (hs:swapsWith a (some (.Name x px)) pos.line X.env=pure false)
  (hf:X.fn x=true \/ X.env.scope.names.lookup x=some .local):PS X (.Assign [.Name x px] a pos) (tS S X (.asg (.n i) ca)):=zp hN hi hx (zrk he) hs hf
@[irreducible] def PSI (X:L2.Cx) (s:Stmt) (t:L2.TS):Prop:=L2.PS X s t
@[irreducible] def PSsI (X:L2.Cx) (s:List Stmt) (t:L2.TS):Prop:=L2.PSs X s t
theorem zr0 {X:L2.Cx} {a:Stmt} {t:L2.TS} (h:L2.PS X a t):PSI X a t:=by unfold PSI; exact h
theorem zsa {X:L2.Cx} {a:Stmt} {t:L2.TS} (h:PSI X a t):L2.PS X a t:=by unfold PSI at h; exact h
theorem znq {X:L2.Cx} {a:List Stmt} {t:L2.TS} (h:L2.PSs X a t):PSsI X a t:=by unfold PSsI; exact h
theorem zmt {X:L2.Cx} {a:List Stmt} {t:L2.TS} (h:PSsI X a t):L2.PSs X a t:=by unfold PSsI at h; exact h
theorem zok {S:Se} {X:L2.Cx} {s1:Stmt} {ss:List Stmt} {c1:Cs} {cs:Css} (h1:PSI X s1 (tS S X c1)) (h2:PSsI X ss (tSs S X cs)):PSsI X (s1 :: ss) (tSs S X (.cons c1 cs)):=znq (zb (zsa h1) (zmt h2))
theorem zqU {S:Se} {X:L2.Cx} {a:Expr} {ca:Ce} {px pos:Pos} {i:Nat} {x:Str} (hN:X.N.Nodup) (hi:X.N[i]?=some x) (hx:Loc X.env.scope x) (he:PEi X a (tE S X ca)) (hs:swapsWith a (some (.Name x px)) pos.line X.env=pure false)
  (hf:X.fn x=true \/ X.env.scope.names.lookup x=some .local):PSI X (.Assign [.Name x px] a pos) (tS S X (.asg (.n i) ca)):=zr0 (zqc hN hi hx he hs hf)
theorem zoV {S:Se} {X:L2.Cx} {s1:Stmt} {ss:List Stmt} {c1:Cs} {cs:Css} (h1:L2.PS X s1 (tS S X c1)) (h2:PSsI X ss (tSs S X cs)):L2.PSs X (s1 :: ss) (tSs S X (.cons c1 cs)):=zb h1 (zmt h2)
theorem zg1 :BD P w K mg base cl fa fdd k 38 ["_law_row"]:=fun Z C=>zap (fn:=zex) rfl Z.F38.F sc_qtelling_row rfl rfl fun _ _ _ _ _ _ hr=>have nd:=sc_qtelling_row.nd; have hu1:=zaf hr; (zb (zK (PW.pt (zb9 (zbs (za4 (zcf (t:=.tuple) Z.k_tuple rfl zbm Z.z_isinstance zd0 Z.z_tuple zaK (svF zn 0)))) (zb9 (zr zhT (zY zaZ zaF Z.z_len zaW (za (svF zn 0) zd)) zc (nomark _)) (zb1 (zbs (za4 (zcf (t:=.str) Z.k_str rfl zbm Z.z_isinstance zeF Z.z_str zpr (zk (svF zn 0) zc)))))))) (zb zab ze) ze) (zb (zK (zr (zag hr.units) (zk (svF zn 0) zc) zo (nomark _)) (zb (zu (zcj (zbb (zag hr.units) (zY zaZ zaF Z.z_len zaW (za (svF zn 0) zd)) zc (nomark _)) (zcj (zg (C 34 _ rfl) hr zb3 Z.F34.m Z.F34.F.kp Z.F34.b (za (zk (svF zn 0) zc) zd)) (zcM (zbb zhP (zk (svF zn 0) zc) (zx (za zc (za zc zd))) (by with_unfolding_all rfl)))))) ze) ze) (zb (zK (zr (zag hr.units) (zk (svF zn 0) zc) zo (nomark _)) (zb (zu (zcj (zbb (zag hr.units) (zY zaZ zaF Z.z_len zaW (za (svF zn 0) zd)) zc (nomark _)) (zcM (zg (C 37 _ rfl) hr zbg Z.F37.m Z.F37.F.kp Z.F37.b (za (zk (svF zn 0) zc) zd))))) ze) ze) (zoV (zK (zr (zag hr.units) (zk (svF zn 0) zc) zo (nomark _)) (zb (zu (zcj (zbb (zag hr.units) (zY zaZ zaF Z.z_len zaW (za (svF zn 0) zd)) zc (nomark _)) (zcj (zg (C 37 _ rfl) hr zbg Z.F37.m Z.F37.F.kp Z.F37.b (za (zk (svF zn 0) zc) zd)) (zcj (zg (C 34 _ rfl) hr zb3 Z.F34.m Z.F34.F.kp Z.F34.b (za (zk (svF zn 0) zc) zd)) (zcM (zbb zhP (zk (svF zn 0) zc) (zx (za zc (za zc zd))) (by with_unfolding_all rfl))))))) ze) ze) (zok (zqU (i:=1) nd rfl (lcF (i:=1) zn rfl) (zoE (by repeat constructor) rfl rfl (by simp) (by decide)) rfl (by first | exact .inl rfl | exact .inr rfl | assumption)) (znq (zb (zbK hu1 (svF zn 1) zo zc) (zb (zK (PW.pt (zb9 (zr (zf1 hr.units) (zfr hu1 (svF zn 1) (zk (svF zn 0) zc) zc) (zY zaZ zaF Z.z_len zaW (za (svF zn 0) zd)) (nomark _)) (zb1 (zbs (za4 (zY (zjc rfl) zeJ Z.z_all zjE (za (zdJ rfl (compOk (NC:=["_law_part_here"]) (slots:=[none]) ["_law_row","_law_lengths"] (defScope zF) rfl rfl rfl (by decide +kernel) (by decide +kernel) (by decide +kernel) (by decide +kernel) rfl) (by decide) (zcL (zk0 (svF zn 0) (zi7 zc) ziB)) (fun j=>zd6 rfl (zar (i:=0) (show (["_law_part_here"]:List Str).Nodup by decide +kernel) rfl (by first | exact Or.inl rfl | exact Or.inr rfl))) (fun j=>zcP) (fun j=>zd1 rfl (zg (C 37 _ rfl) hr rfl Z.F37.m Z.F37.F.kp Z.F37.b (za (sv 0) zd)))) zd))))))) (zb zab ze) ze) (zb (zu (zpS (zbb (zf1 hr.units) (zk (svF zn 0) zc) zo (nomark _)) (zcM (zbb (zf1 hr.units) (zk (svF zn 0) zc) (zk (svF zn 0) zc) (nomark _))))) ze)))))))))
theorem zm1 :BD P w K mg base cl fa fdd k 39 ["_law_thing_here"]:=fun Z C=>zap (fn:=zkU) rfl Z.F39.F sc_qthing rfl rfl fun _ _ _ _ _ _ hr=>have nd:=sc_qthing.nd; have hu1:=zaf hr; (zb (zK (zr (zag hr.units) (svF zcE 0) (zx (za zo zd)) (nomark _)) (zb (zu zkM) ze) ze) (zb (zK (PW.pt (zb9 (zbs (za4 (zcf (t:=.tuple) Z.k_tuple rfl zeo Z.z_isinstance zg5 Z.z_tuple zaK (svF zcE 0)))) (zb9 (zr (zf1 hr.units) (zY zaZ ziV Z.z_len zaW (za (svF zcE 0) zd)) zc (nomark _)) (zb9 (zr (zf1 hr.units) (zk (svF zcE 0) zc) zo (nomark _)) (zb1 (zbs (za4 (zg (C 36 _ rfl) hr zf0 Z.F36.m Z.F36.F.kp Z.F36.b (za (zk (svF zcE 0) zc) zd))))))))) (zb zab ze) ze) (zb (zu (zcj (zg (C 35 _ rfl) hr zc2 Z.F35.m Z.F35.F.kp Z.F35.b (za (zk (svF zcE 0) zc) (za zc (za zc zd)))) (zcM (zg (C 35 _ rfl) hr zc2 Z.F35.m Z.F35.F.kp Z.F35.b (za (zk (svF zcE 0) zc) (za zc (za zc zd))))))) ze)))
theorem zgY :BD P w K mg base cl fa fdd k 40 ["_law_told"]:=fun Z C=>zap (fn:=zew) rfl Z.F40.F sc_qis_sentence rfl rfl fun _ _ _ _ _ _ hr=>have nd:=sc_qis_sentence.nd; have hu1:=zaf hr; (zb (zK (PW.pt (zb9 (zbs (za4 (zcf (t:=.tuple) Z.k_tuple rfl zaI Z.z_isinstance zbf Z.z_tuple zaK (svF zI 0)))) (zb1 (zr zir (zY zaZ zbD Z.z_len zaW (za (svF zI 0) zd)) zc (nomark _))))) (zb zab ze) ze) (zb (zbO own1 rfl (zcL (svF zI 0)) (zar (i:=1) nd rfl (lcF (i:=1) zI rfl)) (zb (zK (PW.pt (zb9 (zbs (za4 (zcf (t:=.tuple) Z.k_tuple rfl zaI Z.z_isinstance zbf Z.z_tuple zaK (svF zI 1)))) (zb9 (zr (zf1 hr.units) (zY zaZ zbD Z.z_len zaW (za (svF zI 1) zd)) zc (nomark _)) (zb1 (zbs (za4 (zg (C 35 _ rfl) hr zdi Z.F35.m Z.F35.F.kp Z.F35.b (za (zk (svF zI 1) zc) (za zc (za zc zd)))))))))) (zb zab ze) ze) (zb (zK (PW.pt (zb9 (zbs (za4 (zg (C 34 _ rfl) hr zdx Z.F34.m Z.F34.F.kp Z.F34.b (za (zk (svF zI 1) zc) zd)))) (zb9 (zr zmv (zY zmr zeE Z.z_abs znl (za (zk (svF zI 1) zc) zd)) (zf znm zc zc) (nomark _)) (zb1 (zbs (za4 (zcf (t:=.tuple) Z.k_tuple rfl zaI Z.z_isinstance zbf Z.z_tuple zaK (zk (svF zI 1) zc)))))))) (zb zab ze) ze) (zb (zK (PW.pt (zb9 (zr zir (zY zaZ zbD Z.z_len zaW (za (zk (svF zI 1) zc) zd)) zc (nomark _)) (zb1 (zbs (za4 (zY (zjc rfl) zeU Z.z_all zjE (za (zdJ rfl (compOk (NC:=["_law_thing_here"]) (slots:=[none]) ["_law_told","_law_term"] (defScope zE) rfl rfl rfl (by decide +kernel) (by decide +kernel) (by decide +kernel) (by decide +kernel) rfl) (by decide) (zcL (zk (svF zI 1) zc)) (fun j=>zd6 rfl (zar (i:=0) (show (["_law_thing_here"]:List Str).Nodup by decide +kernel) rfl (by first | exact Or.inl rfl | exact Or.inr rfl))) (fun j=>zcP) (fun j=>zd1 rfl (zg (C 39 _ rfl) hr rfl Z.F39.m Z.F39.F.kp Z.F39.b (za (sv 0) zd)))) zd))))))) (zb zab ze) ze) ze)))) (zb (zu zkM) ze)))
theorem zoy :BD P w K mg base cl fa fdd k 41 ["_law_part_here","_law_deep"]:=fun Z C=>zap (fn:=zno) rfl Z.F41.F sc_qpart rfl rfl fun _ _ _ _ _ _ hr=>have nd:=sc_qpart.nd; have hu1:=zaf hr; (zb (zK (PW.pt (zb9 (zbs (za4 (zcf (t:=.tuple) Z.k_tuple rfl zcB Z.z_isinstance zeA Z.z_tuple zaK (svF zbB 0)))) (zb1 (zr zhT (zY zaZ zdN Z.z_len zaW (za (svF zbB 0) zd)) zc (nomark _))))) (zb zab ze) ze) (zb (zK (zr (zag hr.units) (zk (svF zbB 0) zc) zo (nomark _)) (zb (zu (zcj (zbb (zag hr.units) (zY zaZ zdN Z.z_len zaW (za (svF zbB 0) zd)) zc (nomark _)) (zcM (zg (C 38 _ rfl) hr zdM Z.F38.m Z.F38.F.kp Z.F38.b (za (zk (svF zbB 0) zc) zd))))) ze) ze) (zb (zK (PW.pt (zb9 (zr (zf1 hr.units) (zk (svF zbB 0) zc) zo (nomark _)) (zb9 (zr (zf1 hr.units) (zY zaZ zdN Z.z_len zaW (za (svF zbB 0) zd)) zc (nomark _)) (zb9 (zr zir (svF zbB 1) zc (nomark _)) (zb1 (zbs (za4 (zg (C 35 _ rfl) hr zgx Z.F35.m Z.F35.F.kp Z.F35.b (za (zk (svF zbB 0) zc) (za zc (za zc zd))))))))))) (zb zab ze) ze) (zb (zK (PW.pt (zb9 (zbs (za4 (zg (C 40 _ rfl) hr zdR Z.F40.m Z.F40.F.kp Z.F40.b (za (zk (svF zbB 0) zc) zd)))) (zb1 (zbs (za4 (zcf (t:=.tuple) Z.k_tuple rfl zcB Z.z_isinstance zeA Z.z_tuple zaK (zk (svF zbB 0) zc))))))) (zb zab ze) ze) (zb (zu (zY (zjc rfl) zj6 Z.z_all zjE (za (zdJ rfl (compOk (NC:=["_law_inner","_law_deep"]) (slots:=[none,some 1]) ["_law_part_here","_law_deep"] (defScope zbV) rfl rfl rfl (by decide +kernel) (by decide +kernel) (by decide +kernel) (by decide +kernel) rfl) (by decide) (zcL (zk (svF zbB 0) zc)) (fun j=>zd6 rfl (zar (i:=0) (show (["_law_inner","_law_deep"]:List Str).Nodup by decide +kernel) rfl (by first | exact Or.inl rfl | exact Or.inr rfl))) (fun j=>zcP) (fun j=>zd1 rfl (zg (C 41 _ rfl) hr rfl Z.F41.m Z.F41.F.kp Z.F41.b (za (sv 0) (za (zf zD (sv 1) zc) zd))))) zd))) ze)))))
theorem zhX :BD P w K mg base cl fa fdd k 42 ["_law_told"]:=fun Z C=>zap (fn:=zfk) rfl Z.F42.F sc_qis_telling rfl rfl fun _ _ _ _ _ _ hr=>have nd:=sc_qis_telling.nd; have hu1:=zaf hr; (zb (zu (zcj (zcf (t:=.tuple) Z.k_tuple rfl zcX Z.z_isinstance zep Z.z_tuple zaK (svF zev 0)) (zcM (zY (zjc rfl) ze4 Z.z_all zjE (za (zdJ rfl (compOk (NC:=["_law_part_here"]) (slots:=[none]) ["_law_told"] (defScope zan) rfl rfl rfl (by decide +kernel) (by decide +kernel) (by decide +kernel) (by decide +kernel) rfl) (by decide) (zcL (svF zev 0)) (fun j=>zd6 rfl (zar (i:=0) (show (["_law_part_here"]:List Str).Nodup by decide +kernel) rfl (by first | exact Or.inl rfl | exact Or.inr rfl))) (fun j=>zcP) (fun j=>zd1 rfl (zg (C 41 _ rfl) hr rfl Z.F41.m Z.F41.F.kp Z.F41.b (za (sv 0) (za zc zd))))) zd))))) ze)
theorem zr5 :BD P w K mg base cl fa fdd k 43 ["_law_index","_law_i","_law_j","_law_n"]:=fun Z C=>zap (fn:=zo6) rfl Z.F43.F sc_qat rfl rfl fun _ _ _ _ _ _ hr=>have nd:=sc_qat.nd; have hu1:=zaf hr; (zb (zu (zf zD (zf zD (zf zD (zk (svF zgR 0) zc) (zf zT (zk (svF zgR 0) zc) (svF zgR 1))) (zf zT (zk (svF zgR 0) zc) (svF zgR 2))) (zf zT (zk (svF zgR 0) zc) (svF zgR 3)))) ze)
theorem ziO :BD P w K mg base cl fa fdd k 44 ["_law_row","_law_i","_law_j","_law_n"]:=fun Z C=>zap (fn:=f_qplain_row) rfl Z.F44.F sc_qplain_row rfl rfl fun _ _ _ _ _ _ hr=>have nd:=sc_qplain_row.nd; have hu1:=zaf hr; (zb (zp (i:=4) nd rfl (lcF (i:=4) zO rfl) (ziA (za (zk (svF zO 0) zc) zd))) (zb (zbO own1 rfl (zcL (zk0 (svF zO 0) (zi7 zc) ziB)) (zar (i:=5) nd rfl (lcF (i:=5) zO rfl)) (zb (zK (za4 (zcf (t:=.tuple) Z.k_tuple rfl zc3 Z.z_isinstance zcx Z.z_tuple zaK (svF zO 5))) (zb (zeI (zdS (svF zO 4) (zx (za (zk (svF zO 5) zc) (za (zg (C 43 _ rfl) hr zfE Z.F43.m Z.F43.F.kp Z.F43.b (za (zk (svF zO 5) zc) (za (svF zO 1) (za (svF zO 2) (za (svF zO 3) zd))))) zd))))) ze) (zb (zeI (zdS (svF zO 4) (svF zO 5))) ze)) ze)) (zb (zu (zdc zgI zcx Z.z_tuple zaK (za (svF zO 4) zd))) ze)))
theorem zj8 :BD P w K mg base cl fa fdd k 45 ["_law_cells","_law_mark","_law_row","_law_wide"]:=fun Z C=>zap (fn:=zbC) rfl Z.F45.F sc_qone_done rfl rfl fun _ _ _ _ _ _ hr=>have nd:=sc_qone_done.nd; have hu1:=zaf hr; (zb (zp (i:=4) nd rfl (lcF (i:=4) zq rfl) (zfr hu1 (svF zq 0) (zk (svF zq 2) zc) zc)) (zb (zK (zr (zag hr.units) (zk (svF zq 2) zc) zo (nomark _)) (zb (zbK hu1 (svF zq 0) (zk (svF zq 2) zc) (svF zq 4)) ze) ze) (zb (zK (zr (zag hr.units) (zk (svF zq 2) zc) zo (nomark _)) (zb (zbK hu1 (svF zq 0) (zk (svF zq 2) zc) (zf zaY (zf zaY (svF zq 3) zc) (svF zq 4))) ze) ze) (zb (zK (zr (zag hr.units) (zk (svF zq 2) zc) zo (nomark _)) (zb (zbK hu1 (svF zq 0) (zk (svF zq 2) zc) (zf zbn (zf zD (zf zT zc (svF zq 4)) (svF zq 1)) (svF zq 3))) (zb (zu (zf zaR (zf zD (zf zT zc (svF zq 4)) (svF zq 1)) (svF zq 3))) ze)) ze) (zb (zK (zr (zag hr.units) (zk (svF zq 2) zc) zo (nomark _)) (zb (zbK hu1 (svF zq 0) (zk (svF zq 2) zc) (zf zD (zf zaR (svF zq 4) zc) (zf zT (svF zq 1) (zf zaR (svF zq 3) zc)))) (zb (zu (zf zbn (svF zq 4) zc)) ze)) ze) (zb (zu (svF zq 1)) ze))))))
theorem zoI :BD P w K mg base cl fa fdd k 46 ["_law_cells","_law_mark","_law_row","_law_wide"]:=fun Z C=>zap (fn:=f_qdone) rfl Z.F46.F sc_qdone rfl rfl fun _ _ _ _ _ _ hr=>have nd:=sc_qdone.nd; have hu1:=zaf hr; (zb (zK (zr (zag hr.units) (zk (svF zm 2) zc) zo (nomark _)) (zb (zu (zk (svF zm 2) zc)) ze) ze) (zb (zK (zr (zag hr.units) (zk (svF zm 2) zc) zo (nomark _)) (zb (zu (zdc zjD zgk Z.z_int zh3 (za (zbb (zf1 hr.units) (zfr hu1 (svF zm 0) (zk (svF zm 2) zc) zc) zc (nomark _)) zd))) ze) ze) (zb (zK (zr (zag hr.units) (zk (svF zm 2) zc) zo (nomark _)) (zb (zbK hu1 (svF zm 0) (zk (svF zm 2) zc) (zk (svF zm 2) zc)) (zb (zu (svF zm 1)) ze)) ze) (zb (zK (zr (zag hr.units) (zY zaZ zjW Z.z_len zaW (za (svF zm 2) zd)) zc (nomark _)) (zb (zu (zg (C 45 _ rfl) hr zfa Z.F45.m Z.F45.F.kp Z.F45.b (za (svF zm 0) (za (svF zm 1) (za (svF zm 2) (za (svF zm 3) zd)))))) ze) ze) (zb (zK (zr (zag hr.units) (zk (svF zm 2) zc) zo (nomark _)) (zb (zp (i:=4) nd rfl (lcF (i:=4) zm rfl) (zf zT (zfr hu1 (svF zm 0) (zk (svF zm 2) zc) zc) (zfr hu1 (svF zm 0) (zk (svF zm 2) zc) zc))) (zb (zbK hu1 (svF zm 0) (zk (svF zm 2) zc) (zf zbn (svF zm 4) (svF zm 3))) (zb (zbK hu1 (svF zm 0) (zk (svF zm 2) zc) (zf zaR (svF zm 4) (svF zm 3))) (zb (zu (svF zm 1)) ze)))) ze) (zb (zp (i:=5) nd rfl (lcF (i:=5) zm rfl) (zfr hu1 (svF zm 0) (zk (svF zm 2) zc) zc)) (zb (zp (i:=6) nd rfl (lcF (i:=6) zm rfl) (zfr hu1 (svF zm 0) (zk (svF zm 2) zc) zc)) (zb (zK (zr (zag hr.units) (zk (svF zm 2) zc) zo (nomark _)) (zb (zbK hu1 (svF zm 0) (zk (svF zm 2) zc) (zf zbn (zf zD (zf zD (svF zm 5) (svF zm 6)) (svF zm 1)) (svF zm 3))) (zb (zu (zf zaR (zf zD (zf zD (svF zm 5) (svF zm 6)) (svF zm 1)) (svF zm 3))) ze)) ze) (zb (zK (zr (zag hr.units) (zk (svF zm 2) zc) zo (nomark _)) (zb (zbK hu1 (svF zm 0) (zk (svF zm 2) zc) (zf zbn (zf zaY (zf zaY (svF zm 5) (svF zm 6)) (svF zm 1)) (svF zm 3))) (zb (zu (zdc zjD zgk Z.z_int zh3 (za (zbb zhT (zf zaY (zf zaY (svF zm 5) (svF zm 6)) (svF zm 1)) zc (nomark _)) zd))) ze)) ze) (zb (zK (zr (zag hr.units) (zk (svF zm 2) zc) zo (nomark _)) (zb (zbK hu1 (svF zm 0) (zk (svF zm 2) zc) (zf zp1 (svF zm 5) (svF zm 6))) ze) ze) (zb (zK (zr (zag hr.units) (zk (svF zm 2) zc) zo (nomark _)) (zb (zbK hu1 (svF zm 0) (zk (svF zm 2) zc) (zf zqW (svF zm 5) (svF zm 6))) ze) ze) (zb (zK (zr (zag hr.units) (zk (svF zm 2) zc) zo (nomark _)) (zb (zbK hu1 (svF zm 0) (zk (svF zm 2) zc) (zf zqR (svF zm 5) (svF zm 6))) ze) ze) (zb (zu (svF zm 1)) ze)))))))))))))
theorem zmq :BD P w K mg base cl fa fdd k 47 ["_law_count_here","_law_w","_law_n"]:=fun Z C=>zap (fn:=zgK) rfl Z.F47.F sc_qcount rfl rfl fun _ _ _ _ _ _ hr=>have nd:=sc_qcount.nd; have hu1:=zaf hr; (zb (zu (zf zD (zf zD (zk (svF zc4 0) zc) (zf zT (zk (svF zc4 0) zc) (svF zc4 2))) (zf zT (zf zT (zk (svF zc4 0) zc) (svF zc4 1)) (svF zc4 2)))) ze)
theorem zj2 :BD P w K mg base cl fa fdd k 48 ["_law_told","_law_w","_law_n","_law_most"]:=fun Z C=>zap (fn:=f_qunrolled) rfl Z.F48.F sc_qunrolled rfl rfl fun _ _ _ _ _ _ hr=>have nd:=sc_qunrolled.nd; have hu1:=zaf hr; (zb (zp (i:=4) nd rfl (lcF (i:=4) zj rfl) (ziA zd)) (zb (zp (i:=5) nd rfl (lcF (i:=5) zj rfl) zc) (zb (zbO own1 rfl (zcL (svF zj 0)) (zar (i:=6) nd rfl (lcF (i:=6) zj rfl)) (zb (zK (zr (zag hr.units) (zk (svF zj 6) zc) zo (nomark _)) (zb (zeI (zdS (svF zj 4) (zg (C 44 _ rfl) hr zbY Z.F44.m Z.F44.F.kp Z.F44.b (za (zk (svF zj 6) zc) (za zc (za zc (za (svF zj 2) zd))))))) ze) (zb (zbO own1 rfl (zbq zcN Z.z_range (zY (zla rfl) zdq Z.z_min zls (za (zg (C 47 _ rfl) hr zcy Z.F47.m Z.F47.F.kp Z.F47.b (za (zk (svF zj 6) zc) (za (svF zj 1) (za (svF zj 2) zd)))) (za zc zd)))) (zar (i:=7) nd rfl (lcF (i:=7) zj rfl)) (zb (zn3 (i:=5) nd rfl (lcF (i:=5) zj rfl) zc zko) (zb (zbO own1 rfl (zcL (zk (svF zj 6) zc)) (zar (i:=8) nd rfl (lcF (i:=8) zj rfl)) (zb (zK (zr (zag hr.units) (zk (svF zj 8) zc) zo (nomark _)) (zb (zeI (zdS (svF zj 4) (zg (C 44 _ rfl) hr zbY Z.F44.m Z.F44.F.kp Z.F44.b (za (zk (svF zj 8) zc) (za (svF zj 7) (za zc (za (svF zj 2) zd))))))) ze) (zb (zK (PW.pt (ze8 (zr zjQ (svF zj 5) zc (nomark _)) (zdg (zr zjQ (zY zaZ zbA Z.z_len zaW (za (svF zj 4) zd)) (svF zj 3) (nomark _))))) (zb (zp (i:=9) nd rfl (lcF (i:=9) zj rfl) (zY (zla rfl) zdq Z.z_min zls (za (zY (zpg rfl) zgr Z.z_max zpK (za zc (za (zg (C 47 _ rfl) hr zcy Z.F47.m Z.F47.F.kp Z.F47.b (za (zk (svF zj 8) zc) (za (svF zj 1) (za (svF zj 2) zd)))) zd))) (za zc zd)))) (zb (zn3 (i:=5) nd rfl (lcF (i:=5) zj rfl) (svF zj 9) zko) (zb (zbO own1 rfl (zbq zcN Z.z_range (svF zj 9)) (zar (i:=10) nd rfl (lcF (i:=10) zj rfl)) (zb (zK (PW.pt (ze8 (zr zjQ (svF zj 5) zc (nomark _)) (zdg (zr zjQ (zY zaZ zbA Z.z_len zaW (za (svF zj 4) zd)) (svF zj 3) (nomark _))))) (zb (zeI (zm7 (svF zj 4) (zdJ rfl (compOk (NC:=["_law_deep","_law_i","_law_j","_law_n"]) (slots:=[none,some 7,some 10,some 2]) ["_law_told","_law_w","_law_n","_law_most","_law_rows","_law_rounds","_law_part_here","_law_i","_law_inner","_law_many","_law_j"] (defScope zak) rfl rfl rfl (by decide +kernel) (by decide +kernel) (by decide +kernel) (by decide +kernel) rfl) (by decide) (zcL (zk (svF zj 8) zc)) (fun j=>zd6 rfl (zar (i:=0) (show (["_law_deep","_law_i","_law_j","_law_n"]:List Str).Nodup by decide +kernel) rfl (by first | exact Or.inl rfl | exact Or.inr rfl))) (fun j=>zcP) (fun j=>zd1 rfl (zg (C 44 _ rfl) hr rfl Z.F44.m Z.F44.F.kp Z.F44.b (za (zk (sv 0) zc) (za (sv 1) (za (sv 2) (za (sv 3) zd))))))))) ze) ze) ze)) ze))) ze) ze)) ze)) (zb (zK (PW.pt (zb9 (zr zir (svF zj 5) zc (nomark _)) (zb1 (zr zir (zY zaZ zbA Z.z_len zaW (za (svF zj 4) zd)) (svF zj 3) (nomark _))))) (zb (zu zlu) ze) ze) ze)))) ze)) ze)) (zb (zK (zr zir (zY zaZ zbA Z.z_len zaW (za (svF zj 4) zd)) (svF zj 3) (nomark _)) (zb (zu zlu) ze) ze) (zb (zu (zqZ (svF zj 4))) ze)))))
theorem zhJ :BD P w K mg base cl fa fdd k 49 ["_law_rows"]:=fun Z C=>zap (fn:=f_qrows_right) rfl Z.F49.F sc_qrows_right rfl rfl fun _ _ _ _ _ _ hr=>have nd:=sc_qrows_right.nd; have hu1:=zaf hr; (zb (zbO own1 rfl (zcL (svF zQ 0)) (zar (i:=1) nd rfl (lcF (i:=1) zQ rfl)) (zb (zbO own1 rfl (zcL (zk0 (svF zQ 1) (zi7 zc) ziB)) (zar (i:=2) nd rfl (lcF (i:=2) zQ rfl)) (zb (zK (PW.pt (ze8 (za4 (zcf (t:=.tuple) Z.k_tuple rfl zcW Z.z_isinstance zen Z.z_tuple zaK (svF zQ 2))) (zdg (zbs (zpd zjQ zjQ zc (zk (svF zQ 2) zc) zc))))) (zb (zu zkM) ze) ze) ze)) (zb (zK (PW.pt (ze8 (zr (zag hr.units) (zk (svF zQ 1) zc) zo (nomark _)) (zdg (PW.pt (zb9 (zr (zag hr.units) (zk (svF zQ 1) zc) (zk (svF zQ 1) zc) (nomark _)) (zb1 (zr zhP (zk (zk (svF zQ 1) zc) zc) zo (by with_unfolding_all rfl)))))))) (zb (zu zkM) ze) ze) (zb (zK (PW.pt (ze8 (zr zog (zk (svF zQ 1) zc) (zx (za zo (za zo zd))) (by with_unfolding_all rfl)) (zdg (zr zhP (zk (zk (svF zQ 1) zc) zc) zo (by with_unfolding_all rfl))))) (zb (zu zkM) ze) ze) ze)))) (zb (zu zkM) ze))
theorem znZ :BD P w K mg base cl fa fdd k 50 ["_law_w","_law_n","_law_x","_law_y"]:=fun Z C=>zap (fn:=zgE) rfl Z.F50.F sc_qbegun rfl rfl fun _ _ _ _ _ _ hr=>have nd:=sc_qbegun.nd; have hu1:=zaf hr; (zb (zp (i:=4) nd rfl (lcF (i:=4) zai rfl) znJ) (zb (zbO own1 rfl (zki zcG Z.z_enumerate (zg (C 32 _ rfl) hr zdt Z.F32.m Z.F32.F.kp Z.F32.b (za (svF zai 2) (za (svF zai 0) (za (svF zai 1) zd))))) (zkX rfl (zcS (i:=5) nd rfl (lcF (i:=5) zai rfl) (zcS (i:=6) nd rfl (lcF (i:=6) zai rfl) ziY))) (zb (zbK hu1 (svF zai 4) (zx (za zo (za (svF zai 5) zd))) (svF zai 6)) ze)) (zb (zbO own1 rfl (zki zcG Z.z_enumerate (zg (C 32 _ rfl) hr zdt Z.F32.m Z.F32.F.kp Z.F32.b (za (svF zai 3) (za (svF zai 0) (za (svF zai 1) zd))))) (zkX rfl (zcS (i:=5) nd rfl (lcF (i:=5) zai rfl) (zcS (i:=6) nd rfl (lcF (i:=6) zai rfl) ziY))) (zb (zbK hu1 (svF zai 4) (zx (za zo (za (svF zai 5) zd))) (svF zai 6)) ze)) (zb (zu (svF zai 4)) ze))))
theorem zqF :BD P w K mg base cl fa fdd k 51 ["_law_told","_law_w","_law_n","_law_x","_law_y"]:=fun Z C=>zap (fn:=f_qrun) rfl Z.F51.F sc_qrun rfl rfl fun _ _ _ _ _ _ hr=>have nd:=sc_qrun.nd; have hu1:=zaf hr; (zb (zK (zbs (za4 (zg (C 42 _ rfl) hr zeM Z.F42.m Z.F42.F.kp Z.F42.b (za (svF zaz 0) zd)))) (zb zab ze) ze) (zb (zp (i:=5) nd rfl (lcF (i:=5) zaz rfl) (zg (C 48 _ rfl) hr zfY Z.F48.m Z.F48.F.kp Z.F48.b (za (svF zaz 0) (za (svF zaz 1) (za (svF zaz 2) (za zc zd)))))) (zb (zK (PW.pt (zb9 (zr zsp (svF zaz 5) zlu (nomark _)) (zb1 (zbs (za4 (zg (C 49 _ rfl) hr zeP Z.F49.m Z.F49.F.kp Z.F49.b (za (svF zaz 5) zd))))))) (zb zab ze) ze) (zb (zp (i:=6) nd rfl (lcF (i:=6) zaz rfl) (zg (C 50 _ rfl) hr zhN Z.F50.m Z.F50.F.kp Z.F50.b (za (svF zaz 1) (za (svF zaz 2) (za (svF zaz 3) (za (svF zaz 4) zd)))))) (zb (zp (i:=7) nd rfl (lcF (i:=7) zaz rfl) (zg (C 31 _ rfl) hr zgZ Z.F31.m Z.F31.F.kp Z.F31.b (za (svF zaz 1) zd))) (zb (zp (i:=8) nd rfl (lcF (i:=8) zaz rfl) zc) (zb (zbO own1 rfl (zcL (svF zaz 5)) (zar (i:=9) nd rfl (lcF (i:=9) zaz rfl)) (zb (zp (i:=8) nd rfl (lcF (i:=8) zaz rfl) (zg (C 46 _ rfl) hr ziS Z.F46.m Z.F46.F.kp Z.F46.b (za (svF zaz 6) (za (svF zaz 8) (za (svF zaz 9) (za (svF zaz 7) zd)))))) ze)) (zb (zu (svF zaz 6)) ze))))))))
theorem zoZ :BD P w K mg base cl fa fdd k 52 ["_law_cells","_law_letter_here","_law_many","_law_w"]:=fun Z C=>zap (fn:=ziv) rfl Z.F52.F sc_qread rfl rfl fun _ _ _ _ _ _ hr=>have nd:=sc_qread.nd; have hu1:=zaf hr; (zb (zp (i:=4) nd rfl (lcF (i:=4) zby rfl) (zg (C 31 _ rfl) hr zgu Z.F31.m Z.F31.F.kp Z.F31.b (za (svF zby 3) zd))) (zb (zp (i:=5) nd rfl (lcF (i:=5) zby rfl) zc) (zb (zbO own1 rfl (zn0 zhS Z.z_range (zf zaY (svF zby 2) zc) (zf9 zc)) (zar (i:=6) nd rfl (lcF (i:=6) zby rfl)) (zb (zp (i:=5) nd rfl (lcF (i:=5) zby rfl) (zf zD (zf zT (svF zby 5) (svF zby 4)) (zfr hu1 (svF zby 0) (zx (za (svF zby 1) (za (svF zby 6) zd))) zc))) ze)) (zb (zu (svF zby 5)) ze))))
theorem znA :BD P w K mg base cl fa fdd k 53 ["_law_cells"]:=fun Z C=>zap (fn:=zgD) rfl Z.F53.F sc_qmarks rfl rfl fun _ _ _ _ _ _ hr=>have nd:=sc_qmarks.nd; have hu1:=zaf hr; (zb (zu (zdc zgI zgW Z.z_tuple zaK (za (zdJ rfl (compOk (NC:=["_law_k","_law_cells"]) (slots:=[none,some 0]) ["_law_cells"] (defScope zcQ) rfl rfl rfl (by decide +kernel) (by decide +kernel) (by decide +kernel) (by decide +kernel) rfl) (by decide) (zbq zhm Z.z_range zc) (fun j=>zd6 rfl (zar (i:=0) (show (["_law_k","_law_cells"]:List Str).Nodup by decide +kernel) rfl (by first | exact Or.inl rfl | exact Or.inr rfl))) (fun j=>zcP) (fun j=>zd1 rfl (zfr hu1 (sv 1) (zx (za zo (za (sv 0) zd))) zc))) zd))) ze)
theorem zpe :BD P w K mg base cl fa fdd k 54 ["_law_worth_here","_law_many"]:=fun Z C=>zap (fn:=zit) rfl Z.F54.F sc_qends rfl rfl fun _ _ _ _ _ _ hr=>have nd:=sc_qends.nd; have hu1:=zaf hr; (zb (zu (zx (za (zdc zjD zf5 Z.z_int zh3 (za (zbb (zag hr.units) (svF ziK 0) zc (nomark _)) zd)) (za (zdc zjD zf5 Z.z_int zh3 (za (zbb zmv (zf zT zc (svF ziK 0)) (zg (C 31 _ rfl) hr zgA Z.F31.m Z.F31.F.kp Z.F31.b (za (svF ziK 1) zd)) (nomark _)) zd)) zd)))) ze)
theorem zqS :BD P w K mg base cl fa fdd k 55 ["_law_state","_law_w","_law_n"]:=fun Z C=>zap (fn:=f_qtwo) rfl Z.F55.F sc_qtwo rfl rfl fun _ _ _ _ _ _ hr=>have nd:=sc_qtwo.nd; have hu1:=zaf hr; (zb (zp (i:=3) nd rfl (lcF (i:=3) zG rfl) (zg (C 30 _ rfl) hr zes Z.F30.m Z.F30.F.kp Z.F30.b (za (svF zG 0) (za (svF zG 1) (za (svF zG 2) zd))))) (zb (zp (i:=4) nd rfl (lcF (i:=4) zG rfl) (zg (C 30 _ rfl) hr zes Z.F30.m Z.F30.F.kp Z.F30.b (za (svF zG 0) (za (svF zG 1) (za (svF zG 2) zd))))) (zb (zp (i:=5) nd rfl (lcF (i:=5) zG rfl) (zg (C 29 _ rfl) hr zcr Z.F29.m Z.F29.F.kp Z.F29.b (za (svF zG 0) (za zc zd)))) (zb (zp (i:=6) nd rfl (lcF (i:=6) zG rfl) (zg (C 31 _ rfl) hr zd5 Z.F31.m Z.F31.F.kp Z.F31.b (za (zg (C 29 _ rfl) hr zcr Z.F29.m Z.F29.F.kp Z.F29.b (za (svF zG 0) (za (zf zT (svF zG 1) (svF zG 2)) zd))) zd))) (zb (zK (PW.pt (zb9 (zr (zag hr.units) (svF zG 5) zc (nomark _)) (zb1 (zr (zag hr.units) (svF zG 5) zc (nomark _))))) (zb (zp (i:=4) nd rfl (lcF (i:=4) zG rfl) (zf zaR (svF zG 4) (svF zG 6))) ze) ze) (zb (zK (zr (zag hr.units) (svF zG 5) zc (nomark _)) (zb (zp (i:=4) nd rfl (lcF (i:=4) zG rfl) (zf zD zc (zg (C 29 _ rfl) hr zcr Z.F29.m Z.F29.F.kp Z.F29.b (za (svF zG 0) (za zc zd))))) ze) ze) (zb (zK (zr (zag hr.units) (svF zG 5) zc (nomark _)) (zb (zp (i:=4) nd rfl (lcF (i:=4) zG rfl) (svF zG 6)) ze) ze) (zb (zK (PW.pt (ze8 (PW.pt (zb9 (zr (zag hr.units) (svF zG 5) zc (nomark _)) (zb1 (zr (zag hr.units) (svF zG 5) zc (nomark _))))) (zdg (zr zir (svF zG 4) zc (nomark _))))) (zb (zp (i:=3) nd rfl (lcF (i:=3) zG rfl) (zY (zpg rfl) zkO Z.z_max zpK (za zc (za (zY (zla rfl) zkm Z.z_min zls (za (zf zaY (zg (C 31 _ rfl) hr zd5 Z.F31.m Z.F31.F.kp Z.F31.b (za (zf zT (svF zG 1) (svF zG 2)) zd)) zc) (za (zf zaY (zf zD (zf zT (zf zaR (svF zG 3) (svF zG 4)) (svF zG 4)) (zg (C 29 _ rfl) hr zcr Z.F29.m Z.F29.F.kp Z.F29.b (za (svF zG 0) (za zc zd)))) zc) zd))) zd)))) ze) ze) (zb (zK (zr (zag hr.units) (svF zG 5) zc (nomark _)) (zb (zp (i:=4) nd rfl (lcF (i:=4) zG rfl) (svF zG 3)) ze) ze) (zb (zu (zx (za (svF zG 3) (za (svF zG 4) zd)))) ze))))))))))
theorem zst :BD P w K mg base cl fa fdd k 56 ["_law_script"]:=fun Z C=>zap (fn:=f_law) rfl Z.F56.F sc_law rfl rfl fun _ _ _ _ _ _ hr=>have nd:=sc_law.nd; have hu1:=zaf hr; (zb (zp (i:=1) nd rfl (lcF (i:=1) zt rfl) (zg (C 26 _ rfl) hr ziE Z.F26.m Z.F26.F.kp Z.F26.b (za (svF zt 0) zd))) (zb (zp (i:=2) nd rfl (lcF (i:=2) zt rfl) (zg (C 23 _ rfl) hr zhR Z.F23.m Z.F23.F.kp Z.F23.b (za (zx (za zo zd)) zd))) (zb (zp (i:=3) nd rfl (lcF (i:=3) zt rfl) (zf zD zc (zg (C 29 _ rfl) hr zbN Z.F29.m Z.F29.F.kp Z.F29.b (za (svF zt 1) (za zc zd))))) (zb (zp (i:=4) nd rfl (lcF (i:=4) zt rfl) (zf zD zc (zg (C 29 _ rfl) hr zbN Z.F29.m Z.F29.F.kp Z.F29.b (za (svF zt 1) (za (zY (zla rfl) zlY Z.z_min zls (za zc (za (zf zaY (zf zaR zc (svF zt 3)) zc) zd))) zd))))) (zb (zK (zr (zag hr.units) (zg (C 29 _ rfl) hr zbN Z.F29.m Z.F29.F.kp Z.F29.b (za (svF zt 1) (za zc zd))) zc (nomark _)) (zb (zpE rfl nd rfl rfl (by decide) (zpx rfl nd rfl rfl (by decide) rfl rfl (za (zf zaY zc (zf zbn (svF zt 4) zc)) (za zc zd)) rfl)) ze) ze) (zb (zp (i:=5) nd rfl (lcF (i:=5) zt rfl) (zg (C 31 _ rfl) hr zhQ Z.F31.m Z.F31.F.kp Z.F31.b (za (zf zT (svF zt 4) (svF zt 3)) zd))) (zb (zqO (zg (C 55 _ rfl) hr zkh Z.F55.m Z.F55.F.kp Z.F55.b (za (svF zt 1) (za (svF zt 4) (za (svF zt 3) zd)))) (zkX rfl (zcS (i:=6) nd rfl (lcF (i:=6) zt rfl) (zcS (i:=7) nd rfl (lcF (i:=7) zt rfl) ziY)))) (zb (zp (i:=8) nd rfl (lcF (i:=8) zt rfl) (zg (C 29 _ rfl) hr zbN Z.F29.m Z.F29.F.kp Z.F29.b (za (svF zt 1) (za zc zd)))) (zb (zK (zr (zag hr.units) (zf zbn (svF zt 8) zc) zc (nomark _)) (zb (zp (i:=6) nd rfl (lcF (i:=6) zt rfl) (zf zbn (zf zaY zc (svF zt 6)) (svF zt 5))) ze) ze) (zb (zK (zr (zag hr.units) (zf zbn (zf zaR (svF zt 8) zc) zc) zc (nomark _)) (zb (zp (i:=7) nd rfl (lcF (i:=7) zt rfl) (zf zbn (zf zaY zc (svF zt 7)) (svF zt 5))) ze) ze) (zb (zK (zr (zag hr.units) (zg (C 29 _ rfl) hr zbN Z.F29.m Z.F29.F.kp Z.F29.b (za (svF zt 1) (za zc zd))) zc (nomark _)) (zb (zp (i:=6) nd rfl (lcF (i:=6) zt rfl) (zf zaR (svF zt 5) zc)) (zb (zp (i:=7) nd rfl (lcF (i:=7) zt rfl) (zk (zx (za (zf zaY (svF zt 5) zc) (za zc (za zc (za (zf zaR (svF zt 5) zc) zd))))) (zg (C 29 _ rfl) hr zbN Z.F29.m Z.F29.F.kp Z.F29.b (za (svF zt 1) (za zc zd))))) ze)) ze) (zb (zK (zr (zag hr.units) (svF zt 7) zc (nomark _)) (zb (zp (i:=7) nd rfl (lcF (i:=7) zt rfl) (zf zaY (svF zt 5) zc)) ze) ze) (zb (zp (i:=9) nd rfl (lcF (i:=9) zt rfl) (zg (C 33 _ rfl) hr zet Z.F33.m Z.F33.F.kp Z.F33.b (za (svF zt 6) (za (zf zT (svF zt 4) (svF zt 3)) zd)))) (zb (zp (i:=10) nd rfl (lcF (i:=10) zt rfl) (zg (C 33 _ rfl) hr zet Z.F33.m Z.F33.F.kp Z.F33.b (za (svF zt 7) (za (zf zT (svF zt 4) (svF zt 3)) zd)))) (zb (zp (i:=11) nd rfl (lcF (i:=11) zt rfl) (zf zaR (zY zmr zif Z.z_abs znl (za (svF zt 9) zd)) (zY zmr zif Z.z_abs znl (za (svF zt 10) zd)))) (zb (zK (zr (zf1 hr.units) (zbb zhT (svF zt 9) zc (nomark _)) (zbb zhT (svF zt 10) zc (nomark _)) (nomark _)) (zb (zp (i:=11) nd rfl (lcF (i:=11) zt rfl) (zf zaY zc (svF zt 11))) ze) ze) (zb (zp (i:=12) nd rfl (lcF (i:=12) zt rfl) (zf zaY (svF zt 9) (zf zT (svF zt 10) (svF zt 11)))) (zb (zp (i:=13) nd rfl (lcF (i:=13) zt rfl) (zg (C 51 _ rfl) hr zkA Z.F51.m Z.F51.F.kp Z.F51.b (za (svF zt 2) (za (svF zt 4) (za (svF zt 3) (za (svF zt 6) (za (svF zt 7) zd))))))) (zb (zK (PW.pt (zb9 (zr zsp (svF zt 13) zlu (nomark _)) (zb9 (zr (zf1 hr.units) (zg (C 52 _ rfl) hr zga Z.F52.m Z.F52.F.kp Z.F52.b (za (svF zt 13) (za zo (za (svF zt 3) (za (svF zt 4) zd))))) (zf zbn (svF zt 11) (svF zt 5)) (nomark _)) (zb1 (zr (zf1 hr.units) (zg (C 52 _ rfl) hr zga Z.F52.m Z.F52.F.kp Z.F52.b (za (svF zt 13) (za zo (za (svF zt 3) (za (svF zt 4) zd))))) (zf zbn (svF zt 12) (svF zt 5)) (nomark _)))))) (zb zab ze) ze) (zb (zp (i:=14) nd rfl (lcF (i:=14) zt rfl) (zdc zjD zl8 Z.z_int zh3 (za (zbb zmv (zf zT zc (svF zt 11)) (svF zt 5) (nomark _)) zd))) (zb (zu (zbb (zag hr.units) (zg (C 53 _ rfl) hr zi2 Z.F53.m Z.F53.F.kp Z.F53.b (za (svF zt 13) zd)) (zf zD (zx (za zc (za (svF zt 14) zd))) (zg (C 54 _ rfl) hr zjn Z.F54.m Z.F54.F.kp Z.F54.b (za (zf zbn (svF zt 11) (svF zt 5)) (za (zf zT (svF zt 4) (svF zt 3)) zd)))) (nomark _))) ze)))))))))))))))))))))
end
end WK
namespace IC
open PySem
noncomputable def forB (call:Cl) (t:Tg) (b:Css) (xs:List PV) (ρ:Env) (st:Store):Fl:=forL t (fun ρ2 st2=>exs call ρ2 st2 b) xs ρ st
noncomputable def whileB (call:Cl) (c:Ce) (b:Css) (n:Nat) (ρ:Env) (st:Store):Fl:=whileL (fun ρ2 st2=>ev call ρ2 st2 c) (fun ρ2 st2=>exs call ρ2 st2 b) n ρ st
noncomputable def oneB (call:Cl) (ρ0:Env) (t:Tg) (c e:Ce) (x:PV) (st2:Store):R (Option PV):=match bindT t x ρ0 with
 | none=>.bad
 | some ρ1=>(ev call ρ1 st2 c).bind fun b st3=>onO (truV st3 b) fun k=>cond k ((ev call ρ1 st3 e).bind fun y st4=>.ok (some y) st4) (.ok none st3)
noncomputable def compB (call:Cl) (ρ0:Env) (t:Tg) (c e:Ce) (xs:List PV) (st:Store):R (List PV):=compL (oneB call ρ0 t c e) xs st
noncomputable def thenF (f:Fl) (k:Env->Store->Fl):Fl :=
 match f with
 | .nx ρ st=>k ρ st
 | f=>f
noncomputable def nxO (o:Option Env) (st:Store):Fl :=
 match o with
 | some ρ=>.nx ρ st
 | none=>.bad
noncomputable def stO (ρ:Env) (o:Option Store):Fl :=
 match o with
 | some st=>.nx ρ st
 | none=>.bad
section
variable {call:Cl} {ρ:Env} {st:Store}
theorem zbR {t:Tg} {it:Cit} {b:Css}:ex call ρ st (.for t it b)=(evi call ρ st it).fl ρ fun xs st1=>forB call t b xs ρ st1:=by rw [ex]; rfl
theorem zqp {c:Ce} {b:Css}:ex call ρ st (.while c b)=whileB call c b 100000 ρ st:=by rw [ex]; rfl
theorem zpA {sl:List (Option Nat)} {t:Tg} {it:Cit} {c e:Ce}:ev call ρ st (.comp sl t it c e)=(evi call ρ st it).bind fun xs st1=>lstR (compB call (sl.map fun o=>o.bind fun j=>(ρ[j]?).join) t c e xs st1):=by rw [ev]; rfl
theorem zbl {t:Tg} {b:Css}:forB call t b [] ρ st=.nx ρ st:=by rw [forB,forL]
theorem za5 {t:Tg} {b:Css} {x:PV} {xs:List PV} {ρ1:Env} (h:bindT t x ρ=some ρ1):forB call t b (x :: xs) ρ st=againF (exs call ρ1 st b) fun ρ2 st2=>forB call t b xs ρ2 st2:=by
 rw [forB,forL,h]; rfl
theorem zfo {t:Tg} {b:Css} (P:Nat->Env->Store->Prop):∀ (xs:List PV) (i:Nat) (ρ:Env) (st:Store),P i ρ st ->
  (∀ (j:Nat) (x:PV) (ρ:Env) (st:Store),xs[j]?=some x->P (i+j) ρ st->∃ ρ1 ρ2 st2,bindT t x ρ=some ρ1/\exs call ρ1 st b=.nx ρ2 st2/\P (i+j+1) ρ2 st2) ->
  ∃ ρ' st',forB call t b xs ρ st=.nx ρ' st'/\P (i+xs.length) ρ' st'
 | [],i,ρ,st,h,_=>⟨ρ,st,zbl,h⟩
 | x :: xs,i,ρ,st,h,k=>by
  obtain ⟨ρ1,ρ2,st2,e1,e2,h2⟩:=k 0 x ρ st rfl h
  obtain ⟨ρ',st',e3,h3⟩:=zfo P xs (i+1) ρ2 st2 h2 fun j y ρ st hy hp=>by
   have:=k (j+1) y ρ st (by simpa using hy) (by rw [show i+(j+1)=i+1+j by omega]; exact hp)
   rw [show i+(j+1)+1=i+1+j+1 by omega] at this
   exact this
  refine ⟨ρ',st',?_,by rw [List.length_cons,show i+(xs.length+1)=i+1+xs.length by omega]; exact h3⟩
  rw [za5 e1,e2]
  exact e3
theorem znG {c:Ce} {b:Css} {n:Nat} {x:PV} {st1 st2:Store} {ρ2:Env} (h:ev call ρ st c=.ok x st1) (ht:truV st1 x=some true) (hb:exs call ρ st1 b=.nx ρ2 st2):whileB call c b (n+1) ρ st=whileB call c b n ρ2 st2:=by
 rw [whileB,whileL,h]
 simp only [R.fl,ht,onF,cond_true,hb,againF]
 rfl
theorem zkI {c:Ce} {b:Css} {n:Nat} {x:PV} {st1:Store} (h:ev call ρ st c=.ok x st1) (ht:truV st1 x=some false):whileB call c b (n+1) ρ st=.nx ρ st1:=by
 rw [whileB,whileL,h]
 simp only [R.fl,ht,onF,cond_false]
theorem zj5 {ρ0:Env} {t:Tg} {c e:Ce}:compB call ρ0 t c e [] st=.ok [] st:=by rw [compB,compL]
theorem zhY {ρ0:Env} {t:Tg} {c e:Ce} {x:PV} {xs:List PV}:compB call ρ0 t c e (x :: xs) st=(oneB call ρ0 t c e x st).bind fun o st1=>(compB call ρ0 t c e xs st1).bind fun ys st2=>.ok (consO o ys) st2:=by
 rw [compB,compL]; rfl
theorem zjU {ρ0:Env} {t:Tg} {c e:Ce} {f:PV->PV}:∀ (xs:List PV),(∀ x ∈ xs,oneB call ρ0 t c e x st=.ok (some (f x)) st)->compB call ρ0 t c e xs st=.ok (xs.map f) st
 | [],_=>zj5
 | x :: xs,h=>by
  rw [zhY,h x List.mem_cons_self]
  simp only [R.bind]
  rw [zjU xs fun y hy=>h y (List.mem_cons_of_mem _ hy)]
  rfl
theorem xs_nil:exs call ρ st .nil=.nx ρ st:=by rw [exs]
theorem xs_cons {s:Cs} {ss:Css}:exs call ρ st (.cons s ss)=thenF (ex call ρ st s) fun ρ1 st1=>exs call ρ1 st1 ss:=by
 rw [exs]
 cases ex call ρ st s <;> rfl
theorem x_asg {t:Tg} {e:Ce}:ex call ρ st (.asg t e)=(ev call ρ st e).fl ρ fun v st1=>nxO (bindT t v ρ) st1:=by
 rw [ex]
 refine congrArg _ (funext fun v=>funext fun st1=>?_)
 cases bindT t v ρ <;> rfl
theorem zfe {e:Ce}:ex call ρ st (.expr e)=(ev call ρ st e).fl ρ fun _ st1=>.nx ρ st1:=by rw [ex]
theorem x_ret {e:Ce}:ex call ρ st (.ret e)=(ev call ρ st e).fl ρ fun v st1=>.rt v st1:=by rw [ex]
theorem x_ite {c:Ce} {a b:Css}:ex call ρ st (.ite c a b)=(ev call ρ st c).fl ρ fun x st1=>onF (truV st1 x) fun k=>cond k (exs call ρ st1 a) (exs call ρ st1 b):=by rw [ex]
theorem zjd {o i e:Ce}:ex call ρ st (.six o i e)=(ev call ρ st e).fl ρ fun v st1=>(ev call ρ st1 o).fl ρ fun x st2=>(ev call ρ st2 i).fl ρ fun y st3=>stO ρ (sixV st3 x y v):=by
 rw [ex]
 refine congrArg _ (funext fun v=>funext fun st1=>congrArg _ (funext fun x=>funext fun st2=>congrArg _ (funext fun y=>funext fun st3=>?_)))
 cases sixV st3 x y v <;> rfl
theorem zb4 {o i e:Ce}:ex call ρ st (.dput o i e)=(ev call ρ st e).fl ρ fun v st1=>(ev call ρ st1 o).fl ρ fun x st2=>(ev call ρ st2 i).fl ρ fun y st3=>stO ρ (dputV st3 x y v):=by
 rw [ex]
 refine congrArg _ (funext fun v=>funext fun st1=>congrArg _ (funext fun x=>funext fun st2=>congrArg _ (funext fun y=>funext fun st3=>?_)))
 cases dputV st3 x y v <;> rfl
theorem zsb {i:Nat} {o:BOp} {e:Ce} {x:PV} (h:ρ[i]?=some (some x)):ex call ρ st (.aug i o e)=(ev call ρ st e).fl ρ fun y st1=>nxO ((augV o x y).map fun z=>ρ.set i (some z)) st1:=by
 rw [ex,h]
 show (ev call ρ st e).fl ρ _=_
 refine congrArg _ (funext fun y=>funext fun st1=>?_)
 cases augV o x y <;> rfl
end
end IC
namespace WK
open IC PySem
mutual
noncomputable def pvq:PV->PV->Bool
 | .non,.non=>true
 | .bl a,.bl b=>a == b
 | .int i,.int j=>decide (i=j)
 | .str x,.str y=>decide (x=y)
 | .tp k xs,.tp l ys=>(k == l) && pvqs xs ys
 | .lst xs,.lst ys=>pvqs xs ys
 | _,_=>false
noncomputable def pvqs:List PV->List PV->Bool
 | [],[]=>true
 | x :: xs,y :: ys=>pvq x y && pvqs xs ys
 | _,_=>false
end
mutual
theorem zpp:∀ (a b:PV),pvq a b=true->a=b
 | .non,b,h=>by cases b <;> simp [pvq] at h ⊢
 | .bl a,b,h=>by cases b <;> simp [pvq] at h ⊢; exact h
 | .int a,b,h=>by cases b <;> simp [pvq] at h ⊢; exact h
 | .str a,b,h=>by cases b <;> simp [pvq] at h ⊢; exact h
 | .tp k xs,b,h=>by
  cases b <;> simp [pvq] at h ⊢
  exact ⟨h.1,zke _ _ h.2⟩
 | .lst xs,b,h=>by
  cases b <;> simp [pvq] at h ⊢
  exact zke _ _ h
 | .loc _,b,h=>by cases b <;> simp [pvq] at h
 | .exn _,b,h=>by cases b <;> simp [pvq] at h
 | .scr _,b,h=>by cases b <;> simp [pvq] at h
theorem zke:∀ (a b:List PV),pvqs a b=true->a=b
 | [],b,h=>by cases b <;> simp [pvqs] at h ⊢
 | x :: xs,b,h=>by
  cases b with
  | nil=>simp [pvqs] at h
  | cons y ys =>
   simp [pvqs] at h
   rw [zpp x y h.1,zke xs ys h.2]
end
noncomputable def isOk (r:R PV) (v:PV):Bool:=match r with
 | .ok w []=>pvq w v
 | _=>false
theorem zqz {r:R PV} {v:PV} (h:isOk r v=true):r=.ok v []:=by
 match r with
 | .ok w []=>rw [zpp w v h]
 | .ok w (_ :: _)=>simp [isOk] at h
 | .exc _ _=>simp [isOk] at h
 | .bad=>simp [isOk] at h
noncomputable def chS (c:Nat):Str:=⟨#[c]⟩
noncomputable def cellV (c:Nat) (i:Int):PV:=.tup [.str (chS c),.int i]
theorem zqn {c d:Nat} (h:chS c=chS d):c=d:=by
 have:=congrArg (fun x=>x.cps) h
 simpa [chS] using this
theorem zef (c d:Nat) (i j:Int):peq (cellV c i) (cellV d j)=decide (c=d/\i=j):=by
 have h:(chS c == chS d)=decide (c=d):=by
  rw [Bool.eq_iff_iff]
  simp
  exact ⟨zqn,fun e=>by rw [e]⟩
 simp [cellV,peq,peqs,h,Bool.decide_and]
 try rfl
noncomputable abbrev Mem:=Nat->Int->Int
noncomputable def upd (M:Mem) (c:Nat) (i v:Int):Mem:=fun d j=>if d=c/\j=i then v else M d j
def AllC (kvs:List (PV × PV)):Prop:=∀ p ∈ kvs,∃ c i,p.1=cellV c i
def Rel (kvs:List (PV × PV)) (M:Mem):Prop:=∀ c i,(look (cellV c i) kvs).getD (.int 0)=.int (M c i)
theorem zln (c:Nat) (i:Int) (v:PV) (d:Nat) (j:Int):∀ kvs,AllC kvs->look (cellV d j) (kvs.map fun p=>if peq p.1 (cellV c i)=true then (p.1,v) else p)=if d=c/\j=i then (if (kvs.any fun p=>peq p.1 (cellV c i))=true then some v else none) else look (cellV d j) kvs
 | [],_=>by simp [look]
 | p :: kvs,h=>by
  obtain ⟨e,g,hp⟩:=h p List.mem_cons_self
  obtain ⟨p1,p2⟩:=p
  simp only at hp
  subst hp
  have ih:=zln c i v d j kvs fun q hq=>h q (List.mem_cons_of_mem _ hq)
  rw [List.map_cons,List.any_cons]
  simp only [zef]
  by_cases h1:e=c/\g=i
  ·obtain ⟨rfl,rfl⟩:=h1
   simp only [and_self,decide_true,if_true,look,zef,Bool.true_or]
   by_cases h2:e=d/\g=j
   ·obtain ⟨rfl,rfl⟩:=h2
    simp
   ·have h3:¬ (d=e/\j=g):=fun z=>h2 ⟨z.1.symm,z.2.symm⟩
    simp only [h2,h3,decide_false,if_false,Bool.false_eq_true]
    rw [ih,if_neg h3]
  ·simp only [h1,decide_false,Bool.false_or,Bool.false_eq_true,if_false]
   rw [look,look]
   simp only [zef]
   by_cases h2:e=d/\g=j
   ·obtain ⟨rfl,rfl⟩:=h2
    simp [h1]
   ·simp only [h2,decide_false,Bool.false_eq_true,if_false]
    exact ih
theorem zli (c:Nat) (i:Int) (v:PV) (d:Nat) (j:Int):∀ kvs,AllC kvs->(kvs.any fun p=>peq p.1 (cellV c i))=false->look (cellV d j) (kvs++[(cellV c i,v)])=if d=c/\j=i then some v else look (cellV d j) kvs
 | [],_,_=>by
  simp only [List.nil_append,look,zef]
  by_cases h2:c=d/\i=j
  ·obtain ⟨rfl,rfl⟩:=h2; simp
  ·have h3:¬ (d=c/\j=i):=fun z=>h2 ⟨z.1.symm,z.2.symm⟩
   simp [h2,h3]
 | p :: kvs,h,hn=>by
  obtain ⟨e,g,hp⟩:=h p List.mem_cons_self
  obtain ⟨p1,p2⟩:=p
  simp only at hp
  subst hp
  rw [List.any_cons,Bool.or_eq_false_iff] at hn
  have ih:=zli c i v d j kvs (fun q hq=>h q (List.mem_cons_of_mem _ hq)) hn.2
  have h1:¬ (e=c/\g=i):=by simpa [zef] using hn.1
  rw [List.cons_append,look,look]
  simp only [zef]
  by_cases h2:e=d/\g=j
  ·obtain ⟨rfl,rfl⟩:=h2
   simp [h1]
  ·simp only [h2,decide_false,Bool.false_eq_true,if_false]
   exact ih
theorem zoN (c:Nat) (i:Int) (v:PV) (d:Nat) (j:Int) (kvs:List (PV × PV)) (h:AllC kvs):look (cellV d j) (put (cellV c i) v kvs)=if d=c/\j=i then some v else look (cellV d j) kvs:=by
 unfold put
 split
 ·rename_i z
  rw [zln _ _ _ _ _ _ h,z,if_pos rfl]
 ·rename_i z
  exact zli _ _ _ _ _ _ h (by simpa using z)
theorem zoo {c:Nat} {i:Int} {v:PV} {kvs:List (PV × PV)} (h:AllC kvs):AllC (put (cellV c i) v kvs):=by
 unfold put
 split
 ·intro p hp
  obtain ⟨q,hq,rfl⟩:=List.mem_map.1 hp
  obtain ⟨e,g,he⟩:=h q hq
  refine ⟨e,g,?_⟩
  split
  ·exact he
  ·exact he
 ·intro p hp
  rcases List.mem_append.1 hp with hp | hp
  ·exact h p hp
  ·simp at hp
   exact ⟨c,i,by rw [hp]⟩
theorem zqA {c:Nat} {i v:Int} {kvs:List (PV × PV)} {M:Mem} (h:AllC kvs) (r:Rel kvs M):Rel (put (cellV c i) (.int v) kvs) (upd M c i v):=by
 intro d j
 rw [zoN _ _ _ _ _ _ h]
 unfold upd
 split
 ·rfl
 ·exact r d j
theorem zqT {k v:PV} {kvs:List (PV × PV)}:(put k v kvs).length<=kvs.length+1:=by
 unfold put
 split
 ·simp
 ·simp
theorem zk5 (c:Nat) (i:Int):isKey true (cellV c i)=true:=rfl
structure Dc (st:Store) (n:Nat) (M:Mem) (L:Nat):Prop where
 ex:∃ kvs,st[n]?=some (.dct true kvs)/\AllC kvs/\Rel kvs M/\kvs.length<=L
theorem zaH {st:Store} {n L:Nat} {M:Mem} (h:Dc st n M L) (c:Nat) (i:Int):getV st (.loc n) (cellV c i) (.int 0)=.ok (.int (M c i)) st:=by
 obtain ⟨kvs,h1,h2,h3,h4⟩:=h
 simp only [getV,dctOf,h1,zk5,if_true,h3 c i]
theorem zbZ {st:Store} {n L:Nat} {M:Mem} (h:Dc st n M L) (hL:L < 999999) (c:Nat) (i v:Int):∃ kvs,dputV st (.loc n) (cellV c i) (.int v)=some (st.set n (.dct true kvs))/\Dc (st.set n (.dct true kvs)) n (upd M c i v) (L+1):=by
 obtain ⟨kvs,h1,h2,h3,h4⟩:=h
 have hn:n < st.length:=by
  rcases Nat.lt_or_ge n st.length with z | z
  ·exact z
  ·rw [List.getElem?_eq_none z] at h1; cases h1
 refine ⟨put (cellV c i) (.int v) kvs,?_,⟨_,List.getElem?_set_self hn,zoo h2,zqA h2 h3,Nat.le_trans zqT (by omega)⟩⟩
 have h5:kvs.length < 1000000:=by omega
 simp only [dputV,h1,zk5,h5,and_self,if_true]
noncomputable abbrev Cel:=Nat × Int
noncomputable def celV (x:Cel):PV:=cellV x.1 x.2
inductive Rw where
 | mark (d:Int) | ask (x:Cel) | set (t:Cel) (d:Int) | move (t x:Cel) | bare (t x:Cel) | twice (t x:Cel) | half (t x:Cel)
 | sum (t x y:Cel) | less (t x y:Cel) | both (t x y:Cel) | any (t x y:Cel) | odd (t x y:Cel)
noncomputable def rowV:Rw->PV
 | .mark d=>.tup [.str "mark",.int d]
 | .ask x=>.tup [.str "ask",celV x]
 | .set t d=>.tup [.str "set",celV t,.int d]
 | .move t x=>.tup [.str "move",celV t,celV x]
 | .bare t x=>.tup [.str "bare",celV t,celV x]
 | .twice t x=>.tup [.str "twice",celV t,celV x]
 | .half t x=>.tup [.str "half",celV t,celV x]
 | .sum t x y=>.tup [.str "sum",celV t,celV x,celV y]
 | .less t x y=>.tup [.str "less",celV t,celV x,celV y]
 | .both t x y=>.tup [.str "both",celV t,celV x,celV y]
 | .any t x y=>.tup [.str "any",celV t,celV x,celV y]
 | .odd t x y=>.tup [.str "odd",celV t,celV x,celV y]
noncomputable def rd (M:Mem) (x:Cel):Int:=M x.1 x.2
noncomputable def wr (M:Mem) (x:Cel) (v:Int):Mem:=upd M x.1 x.2 v
noncomputable def stepM (W:Int) (M:Mem) (k:Int):Rw->Mem × Int
 | .mark d=>(M,d)
 | .ask x=>(M,bi (!(rd M x == 0)))
 | .set t d=>(wr M t d,k)
 | .move t x=>(wr M t (rd M x),k)
 | .bare t x=>(wr M t (W - 1 - rd M x),k)
 | .twice t x=>(wr M t ((2 * rd M x+k) % W),(2 * rd M x+k) / W)
 | .half t x=>(wr M t (rd M x / 2+k * (W / 2)),rd M x % 2)
 | .sum t x y=>(wr M t ((rd M x+rd M y+k) % W),(rd M x+rd M y+k) / W)
 | .less t x y=>(wr M t ((rd M x - rd M y - k) % W),bi (decide (rd M x - rd M y - k < 0)))
 | .both t x y=>(wr M t (Builtin.bitAnd (rd M x) (rd M y)),k)
 | .any t x y=>(wr M t (Builtin.bitOr (rd M x) (rd M y)),k)
 | .odd t x y=>(wr M t (Builtin.bitXor (rd M x) (rd M y)),k)
noncomputable def runM (W:Int):List Rw->Mem->Int->Mem × Int
 | [],M,k=>(M,k)
 | r :: rs,M,k=>runM W rs (stepM W M k r).1 (stepM W M k r).2
theorem zS (W:Int):∀ (a b:List Rw) (M:Mem) (k:Int),runM W (a++b) M k=runM W b (runM W a M k).1 (runM W a M k).2
 | [],b,M,k=>rfl
 | r :: a,b,M,k=>by rw [List.cons_append,runM,zS W a b,runM]
theorem zk9 {st:Store} {n:Nat} {o:Ob} (h:st[n]?=some o):st=st.set n o:=by
 refine List.ext_getElem? fun i=>?_
 rw [List.getElem?_set]
 split
 ·rename_i e
  subst e
  split
  ·exact h
  ·rename_i z
   rw [List.getElem?_eq_none (by omega)] at h
   cases h
 ·rfl
theorem zeK (i:Int):shp (.int i)=true:=rfl
section
variable {st:Store} {k:Bool} {a b c d e:PV} {r:List PV} {i j:Int}
theorem ix0:idxV st (.tp k (a :: r)) (.int 0)=some a:=by simp [idxV,idxI,at?,ixI]
theorem ix1:idxV st (.tp k (a :: b :: r)) (.int 1)=some b:=by
 have:(1:Int) < (r.length:Int)+1+1:=by omega
 simp [idxV,idxI,at?,ixI,this]
theorem ix2:idxV st (.tp k (a :: b :: c :: r)) (.int 2)=some c:=by
 have:(2:Int) < (r.length:Int)+1+1+1:=by omega
 simp [idxV,idxI,at?,ixI,this]
theorem ix3:idxV st (.tp k (a :: b :: c :: d :: r)) (.int 3)=some d:=by
 have:(3:Int) < (r.length:Int)+1+1+1+1:=by omega
 simp [idxV,idxI,at?,ixI,this]
theorem ix4:idxV st (.tp k (a :: b :: c :: d :: e :: r)) (.int 4)=some e:=by
 have:(4:Int) < (r.length:Int)+1+1+1+1+1:=by omega
 simp [idxV,idxI,at?,ixI,this]
theorem zbP:binV .add (.int i) (.int j)=some (.int (i+j)):=rfl
theorem za6:binV .sub (.int i) (.int j)=some (.int (i - j)):=rfl
theorem zpR (h:i.natAbs < 18446744073709551616 \/ j.natAbs < 18446744073709551616):binV .mul (.int i) (.int j)=some (.int (i * j)):=by
 have:CMulB i j=true:=by simpa [CMulB] using h
 simp [binV,binI,this]
theorem zdr (h:i.natAbs < 18446744073709551616):binV .mul (.int i) (.int j)=some (.int (i * j)):=zpR (.inl h)
theorem zaV (h:j.natAbs < 18446744073709551616):binV .mul (.int i) (.int j)=some (.int (i * j)):=zpR (.inr h)
theorem zbv:binV .mul (.int 2) (.int j)=some (.int (2 * j)):=zpR (.inl (by decide))
theorem zch (h:0 < j) (h2:j < 18446744073709551616 * 18446744073709551616):binV .fdiv (.int i) (.int j)=some (.int (i / j)):=by
 have h3:j < 10000000000000000000000000000000000000000000000000000000000000000000000:=by omega
 simp [binV,binI,h,h3]
theorem zaP:binV .fdiv (.int i) (.int 2)=some (.int (i / 2)):=rfl
theorem zb5 (h:0 < j):binV .mod (.int i) (.int j)=some (.int (i % j)):=by simp [binV,binI,h]
theorem zbu:binV .mod (.int i) (.int 2)=some (.int (i % 2)):=rfl
theorem zdZ:binV .band (.int i) (.int j)=some (.int (Builtin.bitAnd i j)):=rfl
theorem b_or:binV .bor (.int i) (.int j)=some (.int (Builtin.bitOr i j)):=rfl
theorem zd3:binV .bxor (.int i) (.int j)=some (.int (Builtin.bitXor i j)):=rfl
theorem toR_some {v:PV}:toR (some v) st=.ok v st:=rfl
theorem c_ne:cmpV .ne (.int i) (.int j)=some (.bl (!(i == j))):=by simp [cmpV,zeK,peq]
theorem c_eq:cmpV .eq (.int i) (.int j)=some (.bl (i == j)):=by simp [cmpV,zeK,peq]
theorem c_lt:cmpV .lt (.int i) (.int j)=some (.bl (decide (i < j))):=rfl
theorem c_le:cmpV .le (.int i) (.int j)=some (.bl (decide (i<=j))):=rfl
theorem c_gt:cmpV .gt (.int i) (.int j)=some (.bl (decide (j < i))):=rfl
theorem c_ge:cmpV .ge (.int i) (.int j)=some (.bl (decide (j<=i))):=rfl
theorem t_bl {b:Bool}:truV st (.bl b)=some b:=rfl
theorem on_t {f:Bool->Fl} {b:Bool}:onF (some b) f=f b:=rfl
theorem ono {α:Type} {f:Bool->R α} {b:Bool}:onO (some b) f=f b:=rfl
theorem zaG {ρ:IC.Env}:stO ρ (some st)=.nx ρ st:=rfl
theorem nxO_some {ρ:IC.Env}:nxO (some ρ) st=.nx ρ st:=rfl
theorem fl_ok {α:Type} {a:α} {ρ:IC.Env} {k:α->Store->Fl}:(R.ok a st).fl ρ k=k a st:=rfl
theorem bd_ok {α β:Type} {a:α} {k:α->Store->R β}:(R.ok a st).bind k=k a st:=rfl
theorem th_nx {ρ:IC.Env} {k:IC.Env->Store->Fl}:thenF (.nx ρ st) k=k ρ st:=rfl
theorem th_rt {v:PV} {k:IC.Env->Store->Fl}:thenF (.rt v st) k=.rt v st:=rfl
theorem za3 {x:PV}:bltV .int st [x]=intV x:=rfl
theorem zbW {b:Bool}:intV (.bl b)=some (.int (bi b)):=rfl
theorem bT_n {i:Nat} {v:PV} {ρ:IC.Env}:bindT (.n i) v ρ=some (ρ.set i (some v)):=rfl
theorem mget {o k d:PV}:mthV .get st o [k,d]=getV st o k d:=rfl
end
end WK
local macro_rules | `(tactic| simp! [$xs,*])=>`(tactic| simp only [IC.ev.eq_1,IC.ev.eq_18,IC.ev.eq_2,IC.ev.eq_8,IC.evs,IC.x_asg,IC.x_ite,IC.x_ret,IC.xs_cons,IC.xs_nil,List.cons_append,List.getElem?_cons_succ,List.getElem?_cons_zero,List.length_cons,List.length_nil,List.map_cons,List.map_nil,List.nil_append,List.replicate,List.set_cons_succ,List.set_cons_zero,Nat.reduceAdd,Nat.reduceSub,Nat.zero_add,WK.bT_n,WK.bd_ok,WK.fl_ok,WK.nxO_some,WK.on_t,WK.t_bl,WK.th_nx,WK.th_rt,WK.toR_some,if_true,$xs,*])
local macro_rules | `(tactic| dsimp! [$xs,*])=>`(tactic| simp only [IC.ev.eq_1,IC.ev.eq_11,IC.ev.eq_16,IC.ev.eq_2,IC.evs,IC.sizeMax,IC.xs_cons,IC.xs_nil,List.getElem?_cons_succ,List.getElem?_cons_zero,List.length_cons,List.length_nil,Nat.reduceAdd,Nat.reduceLeDiff,Nat.zero_add,WK.bd_ok,WK.fl_ok,WK.th_nx,WK.toR_some,if_true,$xs,*])
local macro_rules | `(tactic| simp_all! [$xs,*])=>`(tactic| simp only [List.cons_append,List.length_cons,List.length_nil,List.map_cons,List.map_nil,List.nil_append,List.replicate,Nat.reduceSub,if_true,$xs,*])
local macro_rules | `(tactic| simp? [$xs,*])=>`(tactic| simp only [IC.ev.eq_2,List.getElem?_cons_succ,List.getElem?_cons_zero,$xs,*])
local macro_rules | `(tactic| dsimp? [$xs,*])=>`(tactic| simp only [IC.ev.eq_1,List.set_cons_zero,WK.bT_n,WK.bd_ok,$xs,*])
namespace WK
open IC PySem
noncomputable abbrev cZ:Cel:=(122,0)
noncomputable abbrev cS:Cel:=(115,0)
noncomputable abbrev cT:Cel:=(116,0)
noncomputable def upRows (f:Int->Rw):Nat->List Rw
 | 0=>[]
 | n+1=>upRows f n++[f n]
noncomputable def endRows (n:Nat):List Rw:=[.set cS 0]++upRows (fun i=>Rw.any cS cS (99,i)) n++[.ask cS,.set (109,2) 1,.less (109,2) (109,2) cZ,.twice cT (99,(n:Int) - 1),.sum (109,3) cZ cZ]
noncomputable def wordsL (W:Int):Nat->Int->List Int
 | 0,_=>[]
 | n+1,x=>x % W :: wordsL W n (x / W)
theorem zbM (W:Int):∀ n x,(wordsL W n x).length=n
 | 0,_=>rfl
 | n+1,x=>by rw [wordsL,List.length_cons,zbM]
noncomputable def fillM (c:Nat):Nat->List Int->Mem->Mem
 | _,[],M=>M
 | i,v :: vs,M=>fillM c (i+1) vs (upd M c i v)
noncomputable def M0:Mem:=fun _ _=>0
noncomputable def begM (W:Int) (n:Nat) (x y:Int):Mem:=fillM 98 0 (wordsL W n y) (fillM 97 0 (wordsL W n x) M0)
noncomputable def valM (W:Int) (M:Mem) (c:Nat):Nat->Int
 | 0=>0
 | n+1=>valM W M c n+M c n * W ^ n
theorem zq4:∀ (n x y:Nat),x<=n->(x ^^^ y)+(x &&& y)=x ||| y
 | n,x,y,h=>by
  by_cases hx:x=0
  ·subst hx; simp
  ·have ih:=zq4 (n - 1) (x / 2) (y / 2) (by omega)
   rw [<- Nat.xor_div_two,<- Nat.and_div_two,<- Nat.or_div_two] at ih
   have m1:(x ^^^ y) % 2=((x % 2) ^^^ (y % 2)):=by
    have:=Nat.xor_mod_two_pow (a:=x) (b:=y) (n:=1); simpa using this
   have m2:(x &&& y) % 2=((x % 2) &&& (y % 2)):=by
    have:=Nat.and_mod_two_pow (a:=x) (b:=y) (n:=1); simpa using this
   have m3:(x ||| y) % 2=((x % 2) ||| (y % 2)):=by
    have:=Nat.or_mod_two_pow (a:=x) (b:=y) (n:=1); simpa using this
   rcases Nat.mod_two_eq_zero_or_one x with a | a <;> rcases Nat.mod_two_eq_zero_or_one y with b | b <;> rw [a,b] at m1 m2 m3 <;> simp only [Nat.reduceXor,Nat.reduceAnd,Nat.reduceOr] at m1 m2 m3 <;> omega
theorem zlg (x y:Nat):Builtin.bitAnd (x:Int) (y:Int)=((x &&& y:Nat):Int):=by
 simp [Builtin.bitAnd]
theorem zjb (x y:Nat):Builtin.bitOr (x:Int) (y:Int)=((x ||| y:Nat):Int):=by
 have h1:¬ (0:Int)<=-(x:Int) - 1:=by omega
 have h2:¬ (0:Int)<=-(y:Int) - 1:=by omega
 have h3:(-(-(x:Int) - 1) - 1).toNat=x:=by omega
 have h4:(-(-(y:Int) - 1) - 1).toNat=y:=by omega
 simp only [Builtin.bitOr,Builtin.bitAnd,Builtin.bitNot,h1,h2,decide_false,h3,h4]
 omega
theorem zrx (x y:Nat):Builtin.bitXor (x:Int) (y:Int)=((x ^^^ y:Nat):Int):=by
 have:=zq4 x x y (Nat.le_refl x)
 rw [Builtin.bitXor,zjb,zlg]
 omega
theorem pw (w:Nat):((2 ^ w:Nat):Int)=2 ^ w:=by simp
theorem zmG {a b:Int} (a0:0<=a) (b0:0<=b):Builtin.bitOr a b=0 ↔ a=0/\b=0:=by
 obtain ⟨x,rfl⟩:∃ n:Nat,a=n:=⟨a.toNat,by omega⟩
 obtain ⟨y,rfl⟩:∃ n:Nat,b=n:=⟨b.toNat,by omega⟩
 rw [zjb]
 have:=Nat.or_eq_zero_iff (n:=x) (m:=y)
 omega
noncomputable def tb (w:Nat) (a:Int):Int:=(2 * a) / 2 ^ w
theorem zsv {w:Nat} (hw:0 < w) {a:Int} (a0:0<=a) (a1:a < 2 ^ w):tb w a=if 2 ^ w<=2 * a then 1 else 0:=by
 have h1:(0:Int) < 2 ^ w:=Int.pow_pos (by omega)
 unfold tb
 split
 ·rename_i h
  exact Int.le_antisymm (Int.le_of_lt_add_one (Int.ediv_lt_of_lt_mul h1 (by omega))) (Int.le_ediv_of_mul_le h1 (by omega))
 ·exact Int.ediv_eq_zero_of_lt (by omega) (by omega)
def Dg (W:Int) (M:Mem) (c n:Nat):Prop:=∀ i:Nat,i < n->0<=M c i/\M c i < W
theorem Dg.mono {W:Int} {M:Mem} {c n:Nat} (h:Dg W M c (n+1)):Dg W M c n:=fun i hi=>h i (by omega)
theorem zL {W:Int} {M M':Mem} {c c':Nat}:∀ n,(∀ i:Nat,i < n->M c i=M' c' i)->valM W M c n=valM W M' c' n
 | 0,_=>rfl
 | n+1,h=>by rw [valM,valM,zL n fun i hi=>h i (by omega),h n (by omega)]
theorem za1 {W:Int} (hW:0 < W) {M:Mem} {c:Nat}:∀ n,Dg W M c n->0<=valM W M c n/\valM W M c n < W ^ n
 | 0,_=>by simp [valM]
 | n+1,h=>by
  obtain ⟨a,b⟩:=za1 hW n h.mono
  obtain ⟨c0,c1⟩:=h n (by omega)
  have hp:0 < W ^ n:=Int.pow_pos hW
  have h1:0<=M c n * W ^ n:=Int.mul_nonneg c0 (by omega)
  have h2:M c n * W ^ n<=(W - 1) * W ^ n:=Int.mul_le_mul_of_nonneg_right (by omega) (by omega)
  rw [Int.sub_mul,Int.one_mul] at h2
  rw [valM,Int.pow_succ,Int.mul_comm (W ^ n) W]
  omega
theorem ze6 {W:Int} (hW:0 < W) {M:Mem} {c:Nat}:∀ n,Dg W M c n->(valM W M c n=0 ↔ ∀ i:Nat,i < n->M c i=0)
 | 0,_=>by simp [valM]
 | n+1,h=>by
  have ih:=ze6 hW n h.mono
  obtain ⟨a,b⟩:=za1 hW n h.mono
  obtain ⟨c0,c1⟩:=h n (by omega)
  have hp:0 < W ^ n:=Int.pow_pos hW
  have h1:0<=M c n * W ^ n:=Int.mul_nonneg c0 (by omega)
  rw [valM]
  constructor
  ·intro h2 i hi
   have h3:M c n * W ^ n=0:=by omega
   rcases Nat.lt_or_ge i n with z | z
   ·exact ih.1 (by omega) i z
   ·rw [show i=n by omega]
    rcases Int.mul_eq_zero.1 h3 with e | e
    ·exact e
    ·omega
  ·intro h2
   rw [h2 n (by omega),ih.2 fun i hi=>h2 i (by omega)]
   simp
theorem znX {w:Nat} (hw:0 < w) {M:Mem} {c n:Nat} (h:Dg (2 ^ w) M c (n+1)):tb w (M c n)=if (2 ^ w:Int) ^ (n+1)<=2 * valM (2 ^ w) M c (n+1) then 1 else 0:=by
 obtain ⟨c0,c1⟩:=h n (by omega)
 obtain ⟨a,b⟩:=za1 (Int.pow_pos (by omega)) n h.mono
 rw [zsv hw c0 c1,valM]
 obtain ⟨v,rfl⟩:∃ v,w=v+1:=⟨w - 1,by omega⟩
 have hp:0 < ((2:Int) ^ (v+1)) ^ n:=Int.pow_pos (Int.pow_pos (by omega))
 rw [Int.pow_succ ((2:Int) ^ (v+1)) n]
 generalize ((2:Int) ^ (v+1)) ^ n=P at *
 generalize hV:valM (2 ^ (v+1)) M c n=V at *
 rw [Int.pow_succ] at *
 generalize (2:Int) ^ v=H at *
 generalize M c (n:Int)=d at *
 by_cases hd:H<=d
 ·have h1:=Int.mul_le_mul_of_nonneg_right hd (show 0<=P by omega)
  have h2:P * (H * 2)=2 * (H * P):=by rw [Int.mul_comm P,Int.mul_assoc,Int.mul_comm 2 P,<- Int.mul_assoc,Int.mul_comm 2]
  rw [if_pos (by omega),if_pos (by rw [h2]; omega)]
 ·have h1:=Int.mul_le_mul_of_nonneg_right (show d<=H - 1 by omega) (show 0<=P by omega)
  rw [Int.sub_mul,Int.one_mul] at h1
  have h2:P * (H * 2)=2 * (H * P):=by rw [Int.mul_comm P,Int.mul_assoc,Int.mul_comm 2 P,<- Int.mul_assoc,Int.mul_comm 2]
  rw [if_neg (by omega),if_neg (by rw [h2]; omega)]
theorem zk6 {W:Int} (M:Mem) (k:Int) (hS:0<=M 115 0):∀ n,(∀ i:Nat,i < n->0<=M 99 i) ->
  (runM W (upRows (fun i=>Rw.any cS cS (99,i)) n) M k).2=k/\(∀ d j,d ≠ 115->(runM W (upRows (fun i=>Rw.any cS cS (99,i)) n) M k).1 d j=M d j)/\0<=(runM W (upRows (fun i=>Rw.any cS cS (99,i)) n) M k).1 115 0/\((runM W (upRows (fun i=>Rw.any cS cS (99,i)) n) M k).1 115 0=0 ↔ M 115 0=0/\∀ i:Nat,i < n->M 99 i=0)
 | 0,_=>⟨rfl,fun _ _ _=>rfl,hS,by simp [upRows,runM]⟩
 | n+1,h=>by
  obtain ⟨h1,h2,h3,h4⟩:=zk6 (W:=W) M k hS n fun i hi=>h i (by omega)
  rw [upRows,zS]
  generalize runM W (upRows (fun i=>Rw.any cS cS (99,i)) n) M k=R at *
  obtain ⟨M1,k'⟩:=R
  simp only at *
  have hb:=h n (by omega)
  simp only [runM,stepM,rd,wr,cS,h2 99 n (by decide)]
  have hz:=zmG h3 hb
  refine ⟨h1,fun d j hd=>?_,?_,?_⟩
  ·unfold upd
   rw [if_neg (by omega),h2 d j hd]
  ·unfold upd
   rw [if_pos ⟨rfl,rfl⟩]
   obtain ⟨x,hx⟩:∃ x:Nat,M1 115 0=x:=⟨(M1 115 0).toNat,by omega⟩
   obtain ⟨y,hy⟩:∃ y:Nat,M 99 n=y:=⟨(M 99 n).toNat,by omega⟩
   rw [hx,hy,zjb]
   omega
  ·unfold upd
   rw [if_pos ⟨rfl,rfl⟩,hz,h4]
   constructor
   ·rintro ⟨⟨a,b⟩,c⟩
    refine ⟨a,fun i hi=>?_⟩
    rcases Nat.lt_or_ge i n with z | z
    ·exact b i z
    ·rw [show i=n by omega]; exact c
   ·rintro ⟨a,b⟩
    exact ⟨⟨a,fun i hi=>b i (by omega)⟩,b n (by omega)⟩
theorem zaD {W:Int} {r:Rw} {rs:List Rw} {M:Mem} {k:Int}:runM W (r :: rs) M k=runM W rs (stepM W M k r).1 (stepM W M k r).2:=rfl
theorem zll (b:Bool):0<=bi b/\bi b<=1:=by cases b <;> decide
theorem zoA {w:Nat} (hw:1 < w) {n:Nat} (M:Mem) (k:Int) (hc:Dg (2 ^ w) M 99 (n+1)) (hz:M 122 0=0) :
  (∀ j,(runM (2 ^ w) (endRows (n+1)) M k).1 99 j=M 99 j)/\(runM (2 ^ w) (endRows (n+1)) M k).1 109 0=M 109 0/\(runM (2 ^ w) (endRows (n+1)) M k).1 109 1=M 109 1 /\
  (runM (2 ^ w) (endRows (n+1)) M k).1 109 2=bi (valM (2 ^ w) M 99 (n+1) == 0)/\(runM (2 ^ w) (endRows (n+1)) M k).1 109 3=bi (decide ((2 ^ w:Int) ^ (n+1)<=2 * valM (2 ^ w) M 99 (n+1))):=by
 have hW:(0:Int) < 2 ^ w:=Int.pow_pos (by omega)
 have hW4:(4:Int)<=2 ^ w:=by
  have h:(2:Nat) ^ 2<=2 ^ w:=Nat.pow_le_pow_right (by omega) (by omega)
  have h2:=pw w
  omega
 obtain ⟨h1,h2,h3,h4⟩:=zk6 (W:=2 ^ w) (wr M cS 0) k (by simp [wr,upd]) (n+1) (fun i hi=>by simp [wr,upd]; exact (hc i hi).1)
 have e:endRows (n+1)=.set cS 0 :: (upRows (fun i=>Rw.any cS cS (99,i)) (n+1)++[.ask cS,.set (109,2) 1,.less (109,2) (109,2) cZ,.twice cT (99,((n+1:Nat):Int) - 1),.sum (109,3) cZ cZ]):=rfl
 have hst:stepM (2 ^ w) M k (.set cS 0)=(wr M cS 0,k):=rfl
 rw [e,zaD,hst,zS]
 generalize runM (2 ^ w) (upRows (fun i=>Rw.any cS cS (99,i)) (n+1)) (wr M cS 0) k=R at *
 obtain ⟨M1,k'⟩:=R
 simp only at *
 subst h1
 have g:∀ d j,d ≠ 115->M1 d j=M d j:=fun d j hd=>by
  rw [h2 d j hd]
  simp only [wr,upd,cS]
  rw [if_neg (by omega)]
 have hn:((n+1:Nat):Int) - 1=n:=by omega
 have h5:M1 115 0=0 ↔ valM (2 ^ w) M 99 (n+1)=0:=by
  rw [h4,ze6 hW (n+1) hc]
  constructor
  ·rintro ⟨_,b⟩ i hi
   have:=b i hi
   simpa [wr,upd] using this
  ·intro b
   exact ⟨by simp [wr,upd],fun i hi=>by simpa [wr,upd] using b i hi⟩
 have ht:=znX (by omega) hc
 have hb:bi (!(M1 115 0 == 0))=1 - bi (valM (2 ^ w) M 99 (n+1) == 0):=by
  by_cases hv:valM (2 ^ w) M 99 (n+1)=0
  ·rw [h5.2 hv,hv]; rfl
  ·have:¬ M1 115 0=0:=fun z=>hv (h5.1 z)
   rw [beq_eq_false_iff_ne.2 this,beq_eq_false_iff_ne.2 hv]; rfl
 have hbr:=zll (valM (2 ^ w) M 99 (n+1) == 0)
 rw [hn]
 simp only [runM,stepM,rd,wr,upd,cS,cT,cZ]
 rw [hb]
 generalize bi (valM (2 ^ w) M 99 (n+1) == 0)=v at *
 have hm:bi (decide ((1:Int) - 0 - (1 - v) < 0))=0:=by
  rw [decide_eq_false (by omega)]; rfl
 have hm2:(1 - 0 - (1 - v)) % (2:Int) ^ w=v:=by
  rw [show 1 - 0 - (1 - v)=v by omega]
  exact Int.emod_eq_of_lt (by omega) (by omega)
 have hT:(2 * M 99 n+0) / 2 ^ w=bi (decide ((2 ^ w:Int) ^ (n+1)<=2 * valM (2 ^ w) M 99 (n+1))):=by
  rw [Int.add_zero]
  show tb w (M 99 n)=_
  rw [ht]
  by_cases q:(2 ^ w:Int) ^ (n+1)<=2 * valM (2 ^ w) M 99 (n+1)
  ·rw [if_pos q,decide_eq_true q]; rfl
  ·rw [if_neg q,decide_eq_false q]; rfl
 have hTr:=zll (decide ((2 ^ w:Int) ^ (n+1)<=2 * valM (2 ^ w) M 99 (n+1)))
 simp only [Nat.reduceEqDiff,false_and,if_false,Int.reduceEq,and_false,and_self,if_true,g _ _ (show (99:Nat) ≠ 115 by decide),g _ _ (show (109:Nat) ≠ 115 by decide),g _ _ (show (122:Nat) ≠ 115 by decide),hz,hm,hm2,hT]
 refine ⟨fun j=>trivial,trivial,trivial,trivial,?_⟩
 rw [show (0:Int)+0+bi (decide ((2 ^ w:Int) ^ (n+1)<=2 * valM (2 ^ w) M 99 (n+1)))=bi (decide ((2 ^ w:Int) ^ (n+1)<=2 * valM (2 ^ w) M 99 (n+1))) by omega]
 exact Int.emod_eq_of_lt (by omega) (by omega)
theorem zfm {c d:Nat} (h:d ≠ c) (j:Int):∀ (vs:List Int) (i:Nat) (M:Mem),fillM c i vs M d j=M d j
 | [],_,_=>rfl
 | v :: vs,i,M=>by
  rw [fillM,zfm h j vs,upd,if_neg (by omega)]
theorem zgO {c:Nat} (j:Int):∀ (vs:List Int) (i:Nat) (M:Mem),j < i->fillM c i vs M c j=M c j
 | [],_,_,_=>rfl
 | v :: vs,i,M,h=>by
  rw [fillM,zgO j vs (i+1) _ (by omega),upd,if_neg (by omega)]
theorem ziZ {c:Nat}:∀ (vs:List Int) (i:Nat) (M:Mem) (k:Nat),k < vs.length->fillM c i vs M c ((i+k:Nat):Int)=vs.getD k 0
 | [],_,_,_,h=>by simp at h
 | v :: vs,i,M,0,h=>by
  rw [fillM,zgO _ vs (i+1) _ (by omega),upd,if_pos ⟨rfl,by simp⟩]
  rfl
 | v :: vs,i,M,k+1,h=>by
  rw [fillM,show i+(k+1)=i+1+k by omega,ziZ vs (i+1) _ k (by simpa using h)]
  rfl
theorem zg4 {W:Int} (hW:0 < W):∀ (n:Nat) (x:Int) (k:Nat),k < n->(wordsL W n x).getD k 0=x / W ^ k % W
 | 0,_,_,h=>by omega
 | n+1,x,0,h=>by simp [wordsL]
 | n+1,x,k+1,h=>by
  rw [wordsL]
  show (wordsL W n (x / W)).getD k 0=_
  rw [zg4 hW n (x / W) k (by omega),Int.pow_succ,Int.mul_comm (W ^ k),Int.ediv_ediv_of_nonneg (by omega)]
theorem zi0 {W x:Int} (hW:0 < W) (n:Nat):x % W ^ (n+1)=x % W ^ n+x / W ^ n % W * W ^ n:=by
 have hp:0 < W ^ n:=Int.pow_pos hW
 rw [Int.pow_succ]
 generalize W ^ n=P at *
 have e1:=Int.emod_add_mul_ediv x P
 have e2:=Int.emod_add_mul_ediv (x / P) W
 have a0:=Int.emod_nonneg x (show P ≠ 0 by omega)
 have a1:=Int.emod_lt_of_pos x hp
 have b0:=Int.emod_nonneg (x / P) (show W ≠ 0 by omega)
 have b1:=Int.emod_lt_of_pos (x / P) hW
 generalize x % P=r at *
 generalize x / P=q at *
 generalize q % W=s at *
 generalize q / W=t at *
 subst e2
 have e3:x=r+s * P+P * W * t:=by
  rw [<- e1,Int.mul_add,Int.mul_comm P s,Int.mul_assoc P W t]; omega
 have c1:s * P<=(W - 1) * P:=Int.mul_le_mul_of_nonneg_right (by omega) (by omega)
 have c0:0<=s * P:=Int.mul_nonneg b0 (by omega)
 rw [Int.sub_mul,Int.one_mul] at c1
 rw [e3,Int.add_mul_emod_self_left,Int.emod_eq_of_lt (by omega) (by rw [Int.mul_comm P W]; omega)]
theorem ziI {W:Int} (hW:0 < W) {M:Mem} {c:Nat} {x:Int}:∀ n,(∀ i:Nat,i < n->M c i=x / W ^ i % W)->valM W M c n=x % W ^ n
 | 0,_=>by simp [valM,Int.emod_one]
 | n+1,h=>by rw [valM,ziI hW n fun i hi=>h i (by omega),h n (by omega),zi0 hW]
section
variable {W:Int} (n:Nat) (x y:Int)
theorem zsE {d:Nat} (h1:d ≠ 97) (h2:d ≠ 98) (j:Int):begM W n x y d j=0:=by
 rw [begM,zfm h2,zfm h1]; rfl
variable (hW:0 < W)
include hW
theorem zqX {i:Nat} (h:i < n):begM W n x y 97 i=x / W ^ i % W:=by
 rw [begM,zfm (by decide)]
 have:=ziZ (c:=97) (wordsL W n x) 0 M0 i (by rw [zbM]; exact h)
 rw [Nat.zero_add] at this
 rw [this,zg4 hW n x i h]
theorem zsg {i:Nat} (h:i < n):begM W n x y 98 i=y / W ^ i % W:=by
 rw [begM]
 have:=ziZ (c:=98) (wordsL W n y) 0 (fillM 97 0 (wordsL W n x) M0) i (by rw [zbM]; exact h)
 rw [Nat.zero_add] at this
 rw [this,zg4 hW n y i h]
theorem zrN:Dg W (begM W n x y) 97 n:=fun i hi=>by
 rw [zqX n x y hW hi]
 exact ⟨Int.emod_nonneg _ (by omega),Int.emod_lt_of_pos _ hW⟩
theorem zr9:Dg W (begM W n x y) 98 n:=fun i hi=>by
 rw [zsg n x y hW hi]
 exact ⟨Int.emod_nonneg _ (by omega),Int.emod_lt_of_pos _ hW⟩
theorem zrc (h0:0<=x) (h1:x < W ^ n):valM W (begM W n x y) 97 n=x:=by
 rw [ziI hW n fun i hi=>zqX n x y hW hi,Int.emod_eq_of_lt h0 h1]
theorem zrT (h0:0<=y) (h1:y < W ^ n):valM W (begM W n x y) 98 n=y:=by
 rw [ziI hW n fun i hi=>zsg n x y hW hi,Int.emod_eq_of_lt h0 h1]
end
end WK
namespace WK
open IC
theorem dbl {call:Cl} {i j:Nat} (hij:i ≠ j):∀ (N:Nat) (a:Int) (ρ:IC.Env) (v:Int) (st:Store),ρ[i]?=some (some (.int v)) ->
  ∃ u,forB call (.n j) (.cons (.asg (.n i) (.bin .mul (.cst (.int 2)) (.var i))) .nil) (rangeL N a 1) ρ st=.nx ((ρ.set i (some (.int (2 ^ N * v)))).set j u) st/\(N=0->ρ[j]?=some u \/ ρ.length<=j)
 | 0,a,ρ,v,st,h=>by
  have hi:ρ.set i (some (.int v))=ρ:=by
   refine List.ext_getElem? fun z=>?_
   rw [List.getElem?_set]
   split
   ·rename_i e
    subst e
    split
    ·exact h.symm
    ·rw [List.getElem?_eq_none (by omega)] at h
     cases h
   ·rfl
  rcases Nat.lt_or_ge j ρ.length with hj | hj
  ·refine ⟨ρ[j],?_,fun _=>.inl (List.getElem?_eq_getElem hj)⟩
   rw [rangeL,zbl,Int.pow_zero,Int.one_mul,hi,List.set_getElem_self]
  ·refine ⟨none,?_,fun _=>.inr hj⟩
   rw [rangeL,zbl,Int.pow_zero,Int.one_mul,hi,List.set_eq_of_length_le hj]
 | N+1,a,ρ,v,st,h=>by
  have h1:(ρ.set j (some (.int a)))[i]?=some (some (.int v)):=by
   rw [List.getElem?_set_ne (Ne.symm hij)]; exact h
  have hil:i < ρ.length:=by
   rcases Nat.lt_or_ge i ρ.length with z | z
   ·exact z
   ·rw [List.getElem?_eq_none z] at h; cases h
  have h2:exs call (ρ.set j (some (.int a))) st (.cons (.asg (.n i) (.bin .mul (.cst (.int 2)) (.var i))) .nil)=.nx ((ρ.set j (some (.int a))).set i (some (.int (2 * v)))) st:=by
   simp only [xs_nil,xs_cons,x_asg,thenF,nxO,ev.eq_1,ev.eq_2,ev.eq_3,R.bind,R.fl,h1,bindT,binV,binI,CMulB,toR]
   simp
  obtain ⟨u,h3,_⟩:=dbl (call:=call) hij N (a+1) ((ρ.set j (some (.int a))).set i (some (.int (2 * v)))) (2 * v) st (by rw [List.getElem?_set_self (by rw [List.length_set]; exact hil)])
  refine ⟨u,?_,fun z=>by cases z⟩
  rw [rangeL,za5 (ρ1:=ρ.set j (some (.int a))) rfl,h2]
  show forB call _ _ _ _ _=_
  rw [h3,List.set_set,List.set_comm _ _ (Ne.symm hij),List.set_set,Int.pow_succ,Int.mul_assoc]
end WK
namespace WK
open IC PySem
noncomputable def sgd (T x:Int):Int:=if T<=2 * x then x - T else x
structure Cx where
 l:Nat
 c:Int
 i:Int
 j:Int
 m:Int
deriving DecidableEq
inductive Op where
 | fig (d:Int) | cel (x:Cx)
deriving DecidableEq
structure Rs where
 nm:Str
 ops:List Op
deriving DecidableEq
inductive T2 where
 | row (r:Rs) | rounds (c m t:Int) (rs:List Rs)
deriving DecidableEq
inductive T1 where
 | row (r:Rs) | rounds (c m t:Int) (ps:List T2)
deriving DecidableEq
noncomputable def Cx.at (x:Cx) (I J n:Int):Int:=x.c+x.i * I+x.j * J+x.m * n
noncomputable def Op.pv (I J n:Int):Op->PV
 | .fig d=>.int d
 | .cel x=>cellV x.l (x.at I J n)
noncomputable def Rs.pv (r:Rs) (I J n:Int):PV:=.tup (.str r.nm :: r.ops.map (Op.pv I J n))
noncomputable def cnt (c m t w n:Int):Nat:=(c+m * n+t * w * n).toNat
noncomputable def upTo {α:Type} (f:Nat->List α):Nat->List α
 | 0=>[]
 | n+1=>upTo f n++f n
noncomputable def T2.rows (w n:Int) (I:Nat):T2->List PV
 | .row r=>[r.pv I 0 n]
 | .rounds c m t rs=>upTo (fun J=>rs.map fun r=>r.pv I J n) (cnt c m t w n)
noncomputable def T2.rnd (w n:Int):T2->Nat
 | .row _=>0
 | .rounds c m t _=>cnt c m t w n
noncomputable def rows2 (w n:Int) (I:Nat) (ps:List T2):List PV:=ps.flatMap (T2.rows w n I)
noncomputable def rnd2 (w n:Int) (ps:List T2):Nat:=(ps.map (T2.rnd w n)).sum
noncomputable def T1.rows (w n:Int):T1->List PV
 | .row r=>[r.pv 0 0 n]
 | .rounds c m t ps=>upTo (fun I=>rows2 w n I ps) (cnt c m t w n)
noncomputable def T1.rnd (w n:Int):T1->Nat
 | .row _=>0
 | .rounds c m t ps=>cnt c m t w n * (1+rnd2 w n ps)
noncomputable def rows1 (w n:Int) (ps:List T1):List PV:=ps.flatMap (T1.rows w n)
noncomputable def rnd1 (w n:Int) (ps:List T1):Nat:=(ps.map (T1.rnd w n)).sum
noncomputable def sm (i:Int):Bool:=decide (i.natAbs<=200)
noncomputable def opOf:PV->Option Op
 | .int d=>some (.fig d)
 | .tp _ [.str s,.tp _ [.int c,.int i,.int j,.int m]]=>if s=chS (s.cps.getD 0 0)/\(sm c && sm i && sm j && sm m)=true then some (.cel ⟨s.cps.getD 0 0,c,i,j,m⟩) else none
 | _=>none
noncomputable def opsOf:List PV->Option (List Op)
 | []=>some []
 | v :: vs=>match opOf v,opsOf vs with
  | some a,some b=>some (a :: b)
  | _,_=>none
noncomputable def rowOf:PV->Option Rs
 | .tp _ (.str nm :: vs)=>match opsOf vs with
  | some ops=>if vs.length < 100 then some ⟨nm,ops⟩ else none
  | none=>none
 | _=>none
noncomputable def isRow (s:Str):Bool:=decide (s=Str.ofString "row")
noncomputable def rowP:PV->Option Rs
 | .tp _ [.str s,v]=>if isRow s then rowOf v else none
 | _=>none
noncomputable def deepOf:List PV->Option (List Rs)
 | []=>some []
 | v :: vs=>match rowP v,deepOf vs with
  | some a,some b=>some (a :: b)
  | _,_=>none
noncomputable def isRnd (s:Str):Bool:=decide (s=Str.ofString "rounds")
noncomputable def part2 (v:PV):Option T2 :=
 match v with
 | .tp _ [.str s,.tp _ [.int c,.int m,.int t],_,.tp _ vs]=>if isRnd s && (sm c && sm m && sm t) then (deepOf vs).map (.rounds c m t) else none
 | v=>(rowP v).map .row
noncomputable def parts2:List PV->Option (List T2)
 | []=>some []
 | v :: vs=>match part2 v,parts2 vs with
  | some a,some b=>some (a :: b)
  | _,_=>none
noncomputable def part1 (v:PV):Option T1 :=
 match v with
 | .tp _ [.str s,.tp _ [.int c,.int m,.int t],_,.tp _ vs]=>if isRnd s && (sm c && sm m && sm t) then (parts2 vs).map (.rounds c m t) else none
 | v=>(rowP v).map .row
noncomputable def parts1:List PV->Option (List T1)
 | []=>some []
 | v :: vs=>match part1 v,parts1 vs with
  | some a,some b=>some (a :: b)
  | _,_=>none
theorem znD {v:PV} {o:Op} (h:opOf v=some o):(∃ d,o=.fig d/\v=.int d) \/ ∃ a b x,o=.cel x/\v=.tp a [.str (chS x.l),.tp b [.int x.c,.int x.i,.int x.j,.int x.m]]/\x.i.natAbs<=200/\x.j.natAbs<=200/\x.m.natAbs<=200:=by
 unfold opOf at h
 split at h
 ·left; cases h; exact ⟨_,rfl,rfl⟩
 ·right
  rename_i a s b c i j m
  split at h
  ·rename_i q
   cases h
   have q2:=q.2
   simp only [sm,Bool.and_eq_true,decide_eq_true_eq] at q2
   refine ⟨a,b,_,rfl,?_,q2.1.1.2,q2.1.2,q2.2⟩
   simp only
   rw [<- q.1]
  ·cases h
 ·cases h
theorem zk8 {v:PV} {r:Rs} (h:rowOf v=some r):∃ a vs,v=.tp a (.str r.nm :: vs)/\opsOf vs=some r.ops/\vs.length < 100:=by
 unfold rowOf at h
 split at h
 ·rename_i a nm vs
  split at h
  ·rename_i ops q
   split at h
   ·rename_i z
    cases h; exact ⟨a,vs,rfl,q,z⟩
   ·cases h
  ·cases h
 ·cases h
theorem zkE {v:PV} {r:Rs} (h:rowP v=some r):∃ a v1,v=.tp a [.str "row",v1]/\rowOf v1=some r:=by
 unfold rowP at h
 split at h
 ·rename_i a s v1
  split at h
  ·rename_i q
   have q:s=Str.ofString "row":=by simpa [isRow] using q
   exact ⟨a,v1,by rw [q],h⟩
  ·cases h
 ·cases h
theorem zpb {v:PV} {p:T2} (h:part2 v=some p):(∃ r,p=.row r/\rowP v=some r) \/ ∃ a b sn d vs c m t rs,p=.rounds c m t rs/\v=.tp a [.str "rounds",.tp b [.int c,.int m,.int t],sn,.tp d vs]/\deepOf vs=some rs/\c.natAbs<=200/\m.natAbs<=200/\t.natAbs<=200:=by
 unfold part2 at h
 split at h
 ·right
  rename_i a s b c m t sn d vs
  split at h
  ·rename_i q
   simp only [isRnd,sm,Bool.and_eq_true,decide_eq_true_eq] at q
   cases e:deepOf vs with
   | none=>rw [e] at h; cases h
   | some rs =>
    rw [e] at h
    cases h
    exact ⟨a,b,sn,d,vs,c,m,t,rs,rfl,by rw [q.1],e,q.2.1.1,q.2.1.2,q.2.2⟩
  ·cases h
 ·left
  cases e:rowP v with
  | none=>rw [e] at h; cases h
  | some r=>rw [e] at h; cases h; exact ⟨r,rfl,rfl⟩
theorem zow {v:PV} {p:T1} (h:part1 v=some p):(∃ r,p=.row r/\rowP v=some r) \/ ∃ a b sn d vs c m t ps,p=.rounds c m t ps/\v=.tp a [.str "rounds",.tp b [.int c,.int m,.int t],sn,.tp d vs]/\parts2 vs=some ps/\c.natAbs<=200/\m.natAbs<=200/\t.natAbs<=200:=by
 unfold part1 at h
 split at h
 ·right
  rename_i a s b c m t sn d vs
  split at h
  ·rename_i q
   simp only [isRnd,sm,Bool.and_eq_true,decide_eq_true_eq] at q
   cases e:parts2 vs with
   | none=>rw [e] at h; cases h
   | some rs =>
    rw [e] at h
    cases h
    exact ⟨a,b,sn,d,vs,c,m,t,rs,rfl,by rw [q.1],e,q.2.1.1,q.2.1.2,q.2.2⟩
  ·cases h
 ·left
  cases e:rowP v with
  | none=>rw [e] at h; cases h
  | some r=>rw [e] at h; cases h; exact ⟨r,rfl,rfl⟩
inductive Rt where
 | mark (d:Int) | ask (x:Cx) | set (t:Cx) (d:Int) | move (t x:Cx) | bare (t x:Cx) | twice (t x:Cx) | half (t x:Cx)
 | sum (t x y:Cx) | less (t x y:Cx) | both (t x y:Cx) | any (t x y:Cx) | odd (t x y:Cx)
noncomputable def Rt.rs:Rt->Rs
 | .mark d=>⟨Str.ofString "mark",[.fig d]⟩
 | .ask x=>⟨Str.ofString "ask",[.cel x]⟩
 | .set t d=>⟨Str.ofString "set",[.cel t,.fig d]⟩
 | .move t x=>⟨Str.ofString "move",[.cel t,.cel x]⟩
 | .bare t x=>⟨Str.ofString "bare",[.cel t,.cel x]⟩
 | .twice t x=>⟨Str.ofString "twice",[.cel t,.cel x]⟩
 | .half t x=>⟨Str.ofString "half",[.cel t,.cel x]⟩
 | .sum t x y=>⟨Str.ofString "sum",[.cel t,.cel x,.cel y]⟩
 | .less t x y=>⟨Str.ofString "less",[.cel t,.cel x,.cel y]⟩
 | .both t x y=>⟨Str.ofString "both",[.cel t,.cel x,.cel y]⟩
 | .any t x y=>⟨Str.ofString "any",[.cel t,.cel x,.cel y]⟩
 | .odd t x y=>⟨Str.ofString "odd",[.cel t,.cel x,.cel y]⟩
noncomputable def Cx.cl (x:Cx) (I J n:Int):Cel:=(x.l,x.at I J n)
noncomputable def Rt.rw (I J n:Int):Rt->Rw
 | .mark d=>.mark d
 | .ask x=>.ask (x.cl I J n)
 | .set t d=>.set (t.cl I J n) d
 | .move t x=>.move (t.cl I J n) (x.cl I J n)
 | .bare t x=>.bare (t.cl I J n) (x.cl I J n)
 | .twice t x=>.twice (t.cl I J n) (x.cl I J n)
 | .half t x=>.half (t.cl I J n) (x.cl I J n)
 | .sum t x y=>.sum (t.cl I J n) (x.cl I J n) (y.cl I J n)
 | .less t x y=>.less (t.cl I J n) (x.cl I J n) (y.cl I J n)
 | .both t x y=>.both (t.cl I J n) (x.cl I J n) (y.cl I J n)
 | .any t x y=>.any (t.cl I J n) (x.cl I J n) (y.cl I J n)
 | .odd t x y=>.odd (t.cl I J n) (x.cl I J n) (y.cl I J n)
theorem zpU (r:Rt) (I J n:Int):r.rs.pv I J n=rowV (r.rw I J n):=by cases r <;> rfl
inductive P2 where
 | row (r:Rt) | rounds (c m t:Int) (rs:List Rt)
inductive P1 where
 | row (r:Rt) | rounds (c m t:Int) (ps:List P2)
noncomputable def P2.t2:P2->T2
 | .row r=>.row r.rs
 | .rounds c m t rs=>.rounds c m t (rs.map Rt.rs)
noncomputable def P1.t1:P1->T1
 | .row r=>.row r.rs
 | .rounds c m t ps=>.rounds c m t (ps.map P2.t2)
noncomputable def P2.rw (w n:Int) (I:Nat):P2->List Rw
 | .row r=>[r.rw I 0 n]
 | .rounds c m t rs=>upTo (fun J=>rs.map fun r=>r.rw I J n) (cnt c m t w n)
noncomputable def P1.rw (w n:Int):P1->List Rw
 | .row r=>[r.rw 0 0 n]
 | .rounds c m t ps=>upTo (fun I=>ps.flatMap (P2.rw w n I)) (cnt c m t w n)
noncomputable def rwP (w n:Int) (ps:List P1):List Rw:=ps.flatMap (P1.rw w n)
theorem zi5 {α β:Type} (f:Nat->List α) (g:α->β):∀ n,upTo (fun i=>(f i).map g) n=(upTo f n).map g
 | 0=>rfl
 | n+1=>by rw [upTo,upTo,List.map_append,zi5 f g n]
theorem zsK (w n:Int) (I:Nat) (p:P2):T2.rows w n I p.t2=(p.rw w n I).map rowV:=by
 cases p with
 | row r=>simp only [P2.t2,T2.rows,P2.rw,List.map_cons,List.map_nil,zpU]
 | rounds c m t rs =>
  simp only [P2.t2,T2.rows,P2.rw]
  rw [<- zi5]
  congr 1
  funext J
  simp only [List.map_map]
  congr 1
  funext r
  exact zpU r _ _ _
theorem zpD (w n:Int) (I:Nat):∀ ps:List P2,rows2 w n I (ps.map P2.t2)=(ps.flatMap (P2.rw w n I)).map rowV
 | []=>rfl
 | p :: ps=>by
  have ih:=zpD w n I ps
  unfold rows2 at ih ⊢
  rw [List.map_cons,List.flatMap_cons,List.flatMap_cons,List.map_append,ih,zsK]
theorem zsL (w n:Int) (p:P1):T1.rows w n p.t1=(p.rw w n).map rowV:=by
 cases p with
 | row r=>simp only [P1.t1,T1.rows,P1.rw,List.map_cons,List.map_nil,zpU]
 | rounds c m t ps =>
  simp only [P1.t1,T1.rows,P1.rw]
  rw [<- zi5]
  congr 1
  funext I
  exact zpD w n I ps
theorem zna (w n:Int):∀ ps:List P1,rows1 w n (ps.map P1.t1)=(rwP w n ps).map rowV
 | []=>rfl
 | p :: ps=>by
  have ih:=zna w n ps
  unfold rows1 rwP at ih ⊢
  rw [List.map_cons,List.flatMap_cons,List.flatMap_cons,List.map_append,ih,zsL]
theorem znM (w n:Int) (a b:List P1):rwP w n (a++b)=rwP w n a++rwP w n b:=by
 unfold rwP; rw [List.flatMap_append]
noncomputable def P2.len (w n:Int):P2->Nat
 | .row _=>1
 | .rounds c m t rs=>cnt c m t w n * rs.length
noncomputable def P1.len (w n:Int):P1->Nat
 | .row _=>1
 | .rounds c m t ps=>cnt c m t w n * (ps.map (P2.len w n)).sum
theorem zi9 {α:Type} (f:Nat->List α) (L:Nat) (h:∀ i,(f i).length=L):∀ n,(upTo f n).length=n * L
 | 0=>by simp [upTo]
 | n+1=>by rw [upTo,List.length_append,zi9 f L h n,h,Nat.succ_mul]
theorem zsm (w n:Int) (I:Nat) (p:P2):(p.rw w n I).length=p.len w n:=by
 cases p with
 | row r=>rfl
 | rounds c m t rs=>exact zi9 _ _ (fun J=>by rw [List.length_map]) _
theorem zmZ (w n:Int) (I:Nat):∀ ps:List P2,(ps.flatMap (P2.rw w n I)).length=(ps.map (P2.len w n)).sum
 | []=>rfl
 | p :: ps=>by rw [List.flatMap_cons,List.length_append,zmZ w n I ps,zsm,List.map_cons,List.sum_cons]
theorem zrQ (w n:Int) (p:P1):(p.rw w n).length=p.len w n:=by
 cases p with
 | row r=>rfl
 | rounds c m t ps=>exact zi9 _ _ (fun I=>zmZ w n I ps) _
theorem znr (w n:Int):∀ ps:List P1,(rwP w n ps).length=(ps.map (P1.len w n)).sum
 | []=>rfl
 | p :: ps=>by
  have ih:=znr w n ps
  unfold rwP at ih ⊢
  rw [List.flatMap_cons,List.length_append,ih,zrQ,List.map_cons,List.sum_cons]
noncomputable def okX (x:Cx):Bool:=decide (x.c<=5) && (decide (0<=x.c) && (decide (x.i=0) && decide (x.j=0) && decide (x.m=0) || decide (x.i=1) && decide (x.j=0) && decide (x.m=0) || decide (x.i=0) && decide (x.j=1) && decide (x.m=0)) || decide (-1<=x.c) && decide (x.i=0) && decide (x.j=0) && decide (x.m=1))
theorem zrM {x:Cx} (h:okX x=true) {I J n:Int} (i0:0<=I) (i1:I < 90) (j0:0<=J) (j1:J < 90) (n0:1<=n) (n1:n<=8):0<=x.at I J n/\x.at I J n<=99:=by
 obtain ⟨l,c,i,j,m⟩:=x
 simp only [okX,Bool.and_eq_true,Bool.or_eq_true,decide_eq_true_eq] at h
 unfold Cx.at
 obtain ⟨hc,⟨h0,(⟨⟨h1,h2⟩,h3⟩ | ⟨⟨h1,h2⟩,h3⟩) | ⟨⟨h1,h2⟩,h3⟩⟩ | ⟨⟨⟨h0,h1⟩,h2⟩,h3⟩⟩:=h <;> (simp only at *; subst h1; subst h2; subst h3; omega)
noncomputable def okTg (t:Cx):Bool:=okX t && (!decide (t.l=97) && !decide (t.l=98) && !decide (t.l=122) && (!decide (t.l=109) || decide (1<=t.c) && decide (t.i=0) && decide (t.j=0) && decide (t.m=0)))
noncomputable def Rt.ok:Rt->Bool
 | .mark _=>true
 | .ask x=>okX x
 | .set t _=>okTg t
 | .move t x=>okTg t && okX x
 | .bare t x=>okTg t && okX x
 | .twice t x=>okTg t && okX x
 | .half t x=>okTg t && okX x
 | .sum t x y=>okTg t && okX x && okX y
 | .less t x y=>okTg t && okX x && okX y
 | .both t x y=>okTg t && okX x && okX y
 | .any t x y=>okTg t && okX x && okX y
 | .odd t x y=>okTg t && okX x && okX y
noncomputable def okN (c m t:Int):Bool:=decide (0<=c) && decide (c<=1) && decide (0<=m) && decide (m<=1) && decide (0<=t) && decide (t<=1)
theorem zmx {c m t:Int} (h:okN c m t=true) {w n:Nat} (hn:n<=8) (hw:w * n<=64):cnt c m t w n<=73:=by
 simp only [okN,Bool.and_eq_true,decide_eq_true_eq] at h
 obtain ⟨⟨⟨⟨⟨a,b⟩,c1⟩,d⟩,e⟩,f⟩:=h
 have hw2:(w:Int) * n<=64:=by exact_mod_cast hw
 unfold cnt
 rcases (by omega:m=0 \/ m=1) with z | z <;> rcases (by omega:t=0 \/ t=1) with y | y <;> subst z <;> subst y <;> simp only [Int.zero_mul,Int.one_mul] <;> omega
noncomputable def P2.ok:P2->Bool
 | .row r=>r.ok
 | .rounds c m t rs=>okN c m t && rs.all Rt.ok
noncomputable def P1.ok:P1->Bool
 | .row r=>r.ok
 | .rounds c m t ps=>okN c m t && ps.all P2.ok
theorem zgN {α:Type} {f:Nat->List α} {r:α}:∀ {n:Nat},r ∈ upTo f n->∃ i:Nat,i < n/\r ∈ f i
 | 0,h=>by simp [upTo] at h
 | n+1,h=>by
  rw [upTo,List.mem_append] at h
  rcases h with h | h
  ·obtain ⟨i,hi,e⟩:=zgN h
   exact ⟨i,by omega,e⟩
  ·exact ⟨n,by omega,h⟩
theorem zsR {w n I:Nat} (hn:n<=8) (hw:w * n<=64) {p:P2} (h:p.ok=true) {q:Rw} (hq:q ∈ p.rw w n I):∃ (r:Rt) (J:Nat),J < 90/\r.ok=true/\q=r.rw I J n:=by
 cases p with
 | row r =>
  simp only [P2.rw,List.mem_cons,List.not_mem_nil,or_false] at hq
  exact ⟨r,0,by omega,h,hq⟩
 | rounds c m t rs =>
  simp only [P2.ok,Bool.and_eq_true,List.all_eq_true] at h
  obtain ⟨J,hJ,hq⟩:=zgN hq
  obtain ⟨r,hr,rfl⟩:=List.mem_map.1 hq
  have:=zmx h.1 hn hw
  exact ⟨r,J,by omega,h.2 r hr,rfl⟩
theorem zsO {w n:Nat} (hn:n<=8) (hw:w * n<=64) {p:P1} (h:p.ok=true) {q:Rw} (hq:q ∈ p.rw w n):∃ (r:Rt) (I J:Nat),I < 90/\J < 90/\r.ok=true/\q=r.rw I J n:=by
 cases p with
 | row r =>
  simp only [P1.rw,List.mem_cons,List.not_mem_nil,or_false] at hq
  exact ⟨r,0,0,by omega,by omega,h,hq⟩
 | rounds c m t ps =>
  simp only [P1.ok,Bool.and_eq_true,List.all_eq_true] at h
  obtain ⟨I,hI,hq⟩:=zgN hq
  obtain ⟨p,hp,hq⟩:=List.mem_flatMap.1 hq
  obtain ⟨r,J,hJ,hr,e⟩:=zsR hn hw (h.2 p hp) hq
  have:=zmx h.1 hn hw
  exact ⟨r,I,J,by omega,hJ,hr,e⟩
theorem zpL {w n:Nat} (hn:n<=8) (hw:w * n<=64) {ps:List P1} (h:ps.all P1.ok=true) {q:Rw} (hq:q ∈ rwP w n ps):∃ (r:Rt) (I J:Nat),I < 90/\J < 90/\r.ok=true/\q=r.rw I J n:=by
 obtain ⟨p,hp,hq⟩:=List.mem_flatMap.1 hq
 exact zsO hn hw (List.all_eq_true.1 h p hp) hq
noncomputable def tg:Rw->Option Cel
 | .mark _=>none
 | .ask _=>none
 | .set t _=>some t
 | .move t _=>some t
 | .bare t _=>some t
 | .twice t _=>some t
 | .half t _=>some t
 | .sum t _ _=>some t
 | .less t _ _=>some t
 | .both t _ _=>some t
 | .any t _ _=>some t
 | .odd t _ _=>some t
theorem zrU {M:Mem} {t:Cel} {v:Int} {d:Nat} {j:Int} (h:some t ≠ some (d,j)):wr M t v d j=M d j:=by
 obtain ⟨a,b⟩:=t
 simp only [wr,upd]
 rw [if_neg]
 rintro ⟨rfl,rfl⟩
 exact h rfl
theorem zob (W:Int) (M:Mem) (k:Int) {r:Rw} {d:Nat} {j:Int} (h:tg r ≠ some (d,j)):(stepM W M k r).1 d j=M d j:=by
 cases r <;> first | rfl | exact zrU h
theorem ziJ (W:Int) {d:Nat} {j:Int}:∀ (rs:List Rw) (M:Mem) (k:Int),(∀ r ∈ rs,tg r ≠ some (d,j))->(runM W rs M k).1 d j=M d j
 | [],_,_,_=>rfl
 | r :: rs,M,k,h=>by
  rw [zaD,ziJ W rs _ _ fun q hq=>h q (List.mem_cons_of_mem _ hq),zob W M k (h r List.mem_cons_self)]
theorem zsi {W:Int} (M:Mem) (k:Int) (hS:0<=M 115 0):∀ n,(∀ i:Nat,i < n->0<=M 98 i) ->
  (runM W (upTo (fun i=>[Rw.any cS cS (98,i)]) n) M k).2=k/\(∀ d j,d ≠ 115->(runM W (upTo (fun i=>[Rw.any cS cS (98,i)]) n) M k).1 d j=M d j)/\0<=(runM W (upTo (fun i=>[Rw.any cS cS (98,i)]) n) M k).1 115 0/\((runM W (upTo (fun i=>[Rw.any cS cS (98,i)]) n) M k).1 115 0=0 ↔ M 115 0=0/\∀ i:Nat,i < n->M 98 i=0)
 | 0,_=>⟨rfl,fun _ _ _=>rfl,hS,by simp [upTo,runM]⟩
 | n+1,h=>by
  obtain ⟨h1,h2,h3,h4⟩:=zsi (W:=W) M k hS n fun i hi=>h i (by omega)
  rw [upTo,zS]
  generalize runM W (upTo (fun i=>[Rw.any cS cS (98,i)]) n) M k=R at *
  obtain ⟨M1,k'⟩:=R
  simp only at *
  have hb:=h n (by omega)
  simp only [runM,stepM,rd,wr,cS,h2 98 n (by decide)]
  have hz:=zmG h3 hb
  refine ⟨h1,fun d j hd=>?_,?_,?_⟩
  ·unfold upd
   rw [if_neg (by omega),h2 d j hd]
  ·unfold upd
   rw [if_pos ⟨rfl,rfl⟩]
   obtain ⟨x,hx⟩:∃ x:Nat,M1 115 0=x:=⟨(M1 115 0).toNat,by omega⟩
   obtain ⟨y,hy⟩:∃ y:Nat,M 98 n=y:=⟨(M 98 n).toNat,by omega⟩
   rw [hx,hy,zjb]
   omega
  ·unfold upd
   rw [if_pos ⟨rfl,rfl⟩,hz,h4]
   constructor
   ·rintro ⟨⟨a,b⟩,c⟩
    refine ⟨a,fun i hi=>?_⟩
    rcases Nat.lt_or_ge i n with z | z
    ·exact b i z
    ·rw [show i=n by omega]; exact c
   ·rintro ⟨a,b⟩
    exact ⟨⟨a,fun i hi=>b i (by omega)⟩,b n (by omega)⟩
noncomputable def nR (n:Nat):List Rw:=[.set cS 0]++upTo (fun i=>[Rw.any cS cS (98,i)]) n++[.ask cS,.set (109,0) 1,.less (109,0) (109,0) cZ]
theorem zsz {w:Nat} (hw:1 < w) (n:Nat) (M:Mem) (k:Int) (hz:M 122 0=0) (hb:∀ i:Nat,i < n->0<=M 98 i) :
  ((∀ i:Nat,i < n->M 98 i=0)->(runM (2 ^ w) (nR n) M k).1 109 0=1)/\((¬ ∀ i:Nat,i < n->M 98 i=0)->(runM (2 ^ w) (nR n) M k).1 109 0=0):=by
 have hW4:(4:Int)<=2 ^ w:=by
  have h:(2:Nat) ^ 2<=2 ^ w:=Nat.pow_le_pow_right (by omega) (by omega)
  have h2:=pw w
  omega
 have hst:stepM (2 ^ w) M k (.set cS 0)=(wr M cS 0,k):=rfl
 have e:nR n=.set cS 0 :: (upTo (fun i=>[Rw.any cS cS (98,i)]) n++[.ask cS,.set (109,0) 1,.less (109,0) (109,0) cZ]):=by simp [nR]
 have u1:wr M cS 0 115 0=0:=by simp [wr,upd]
 have u2:∀ (d:Nat) (j:Int),d ≠ 115->wr M cS 0 d j=M d j:=fun d j hd=>by
  simp only [wr,upd]; rw [if_neg (fun z=>hd z.1)]
 obtain ⟨h1,h2,h3,h4⟩:=zsi (W:=2 ^ w) (wr M cS 0) k (by rw [u1]; omega) n (fun i hi=>by rw [u2 _ _ (by decide)]; exact hb i hi)
 rw [e,zaD,hst,zS]
 simp only at h1 h2 h3 h4 ⊢
 generalize runM (2 ^ w) (upTo (fun i=>[Rw.any cS cS (98,i)]) n) (wr M cS 0) k=R at *
 obtain ⟨M1,k'⟩:=R
 simp only at *
 have hz1:M1 122 0=0:=by rw [h2 _ _ (by decide),u2 _ _ (by decide),hz]
 have h5:M1 115 0=0 ↔ ∀ i:Nat,i < n->M 98 i=0:=by
  rw [h4,u1]
  constructor
  ·rintro ⟨_,a⟩ i hi
   rw [<- u2 98 i (by decide)]; exact a i hi
  ·intro a
   exact ⟨rfl,fun i hi=>by rw [u2 _ _ (by decide)]; exact a i hi⟩
 rw [<- h5]
 simp only [runM,stepM,rd,wr,upd,cS,cZ,Nat.reduceEqDiff,false_and,if_false,and_self,if_true,hz1]
 constructor
 ·intro a
  rw [a]
  show (1 - 0 - 0) % (2 ^ w:Int)=1
  exact Int.emod_eq_of_lt (by omega) (by omega)
 ·intro a
  have:(M1 115 0 == 0)=false:=by simpa using a
  rw [this]
  show (1 - 0 - 1) % (2 ^ w:Int)=0
  rfl
theorem zej {W:Int} (hW:0 < W) {s:Int} (s0:0<=s) (s1:s < 2 * W):0<=s % W/\s % W < W/\0<=s / W/\s / W<=1/\s % W+s / W * W=s:=by
 have d1:=Int.emod_nonneg s (show W ≠ 0 by omega)
 have d2:=Int.emod_lt_of_pos s hW
 have d3:=Int.emod_add_mul_ediv s W
 have d4:0<=s / W:=Int.ediv_nonneg s0 (by omega)
 have d5:s / W < 2:=Int.ediv_lt_of_lt_mul hW (by omega)
 rw [Int.mul_comm] at d3
 exact ⟨d1,d2,d4,by omega,d3⟩
theorem zfX {W:Int} {M:Mem} {c n:Nat} {v:Int}:valM W (upd M c n v) c (n+1)=valM W M c n+v * W ^ n:=by
 rw [valM,zL (M':=M) (c':=c) n fun i hi=>by unfold upd; rw [if_neg (by omega)]]
 unfold upd
 rw [if_pos ⟨rfl,rfl⟩]
theorem zib {W:Int} {M:Mem} {c n:Nat} {v:Int} (h:Dg W M c n) (v0:0<=v) (v1:v < W):Dg W (upd M c n v) c (n+1):=fun i hi=>by
 unfold upd
 by_cases hin:i=n
 ·subst hin; rw [if_pos ⟨rfl,rfl⟩]; exact ⟨v0,v1⟩
 ·rw [if_neg (by omega)]; exact h i (by omega)
noncomputable def twR (c n:Nat):List Rw:=upTo (fun J=>[Rw.twice (c,(J:Int)) (c,(J:Int))]) n
theorem ziu {W:Int} (hW:2<=W) (c:Nat) (M:Mem) (k:Int) (k0:0<=k) (k1:k<=1):∀ n,Dg W M c n->∃ M' k',runM W (twR c n) M k=(M',k')/\(∀ d j,(d ≠ c \/ (n:Int)<=j)->M' d j=M d j)/\Dg W M' c n/\0<=k'/\k'<=1/\valM W M' c n+k' * W ^ n=2 * valM W M c n+k
 | 0,_=>⟨M,k,rfl,fun _ _ _=>rfl,fun i hi=>by omega,k0,k1,by simp [valM]⟩
 | n+1,ha=>by
  obtain ⟨M1,k',e1,h1,h2,h3,h4,h5⟩:=ziu hW c M k k0 k1 n ha.mono
  obtain ⟨a0,a1⟩:=ha n (by omega)
  obtain ⟨d1,d2,d3,d4,d5⟩:=zej (W:=W) (by omega) (s:=2 * M c n+k') (by omega) (by omega)
  refine ⟨upd M1 c n ((2 * M c n+k') % W),(2 * M c n+k') / W,?_,fun d j hd=>?_,zib h2 d1 d2,d3,d4,?_⟩
  ·rw [twR,upTo,zS]
   show runM W [Rw.twice (c,(n:Int)) (c,(n:Int))] (runM W (twR c n) M k).1 (runM W (twR c n) M k).2=_
   rw [e1]
   simp only [runM,stepM,rd,wr,h1 c n (.inr (by omega))]
  ·unfold upd; rw [if_neg (by omega),h1 d j (by omega)]
  ·rw [zfX,valM,Int.pow_succ]
   generalize W ^ n=P at *
   generalize (2 * M c n+k') % W=u at *
   generalize (2 * M c n+k') / W=t at *
   generalize M c (n:Int)=A at *
   have e3:(u+t * W) * P=(2 * A+k') * P:=by rw [d5]
   rw [Int.add_mul,Int.add_mul,Int.mul_assoc t W P,Int.mul_comm W P,Int.mul_assoc 2 A P] at e3
   generalize u * P=x1 at *
   generalize t * (P * W)=x2 at *
   generalize A * P=x3 at *
   generalize k' * P=x4 at *
   omega
noncomputable def lsR (r y n:Nat):List Rw:=upTo (fun J=>[Rw.less (r,(J:Int)) (r,(J:Int)) (y,(J:Int))]) n
theorem zhg {W:Int} (hW:0 < W) {s:Int} (s0:-W<=s) (s1:s < W):0<=s % W/\s % W < W/\0<=bi (decide (s < 0))/\bi (decide (s < 0))<=1/\s % W - bi (decide (s < 0)) * W=s:=by
 have d1:=Int.emod_nonneg s (show W ≠ 0 by omega)
 have d2:=Int.emod_lt_of_pos s hW
 refine ⟨d1,d2,(zll _).1,(zll _).2,?_⟩
 by_cases hl:s < 0
 ·rw [decide_eq_true hl,<- Int.add_emod_right]
  rw [Int.emod_eq_of_lt (by omega) (by omega)]
  show s+W - 1 * W=s
  omega
 ·rw [decide_eq_false hl,Int.emod_eq_of_lt (by omega) (by omega)]
  show s - 0 * W=s
  omega
theorem znk {W:Int} (hW:0 < W) {r y:Nat} (hry:y ≠ r) (M:Mem) (k:Int) (k0:0<=k) (k1:k<=1):∀ n,Dg W M r n->Dg W M y n->∃ M' k',runM W (lsR r y n) M k=(M',k')/\(∀ d j,(d ≠ r \/ (n:Int)<=j)->M' d j=M d j)/\Dg W M' r n/\0<=k'/\k'<=1/\valM W M' r n - k' * W ^ n=valM W M r n - valM W M y n - k
 | 0,_,_=>⟨M,k,rfl,fun _ _ _=>rfl,fun i hi=>by omega,k0,k1,by simp [valM]⟩
 | n+1,ha,hb=>by
  obtain ⟨M1,k',e1,h1,h2,h3,h4,h5⟩:=znk hW hry M k k0 k1 n ha.mono hb.mono
  obtain ⟨a0,a1⟩:=ha n (by omega)
  obtain ⟨b0,b1⟩:=hb n (by omega)
  obtain ⟨d1,d2,d3,d4,d5⟩:=zhg (W:=W) hW (s:=M r n - M y n - k') (by omega) (by omega)
  refine ⟨upd M1 r n ((M r n - M y n - k') % W),bi (decide (M r n - M y n - k' < 0)),?_,fun d j hd=>?_,zib h2 d1 d2,d3,d4,?_⟩
  ·rw [lsR,upTo,zS]
   show runM W [Rw.less (r,(n:Int)) (r,(n:Int)) (y,(n:Int))] (runM W (lsR r y n) M k).1 (runM W (lsR r y n) M k).2=_
   rw [e1]
   simp only [runM,stepM,rd,wr,h1 r n (.inr (by omega)),h1 y n (.inl hry)]
  ·unfold upd; rw [if_neg (by omega),h1 d j (by omega)]
  ·rw [zfX,valM,valM,Int.pow_succ]
   generalize W ^ n=P at *
   generalize (M r n - M y n - k') % W=u at *
   generalize bi (decide (M r n - M y n - k' < 0))=t at *
   generalize M r (n:Int)=A at *
   generalize M y (n:Int)=B at *
   have e3:(u - t * W) * P=(A - B - k') * P:=by rw [d5]
   rw [Int.sub_mul,Int.sub_mul,Int.sub_mul,Int.mul_assoc t W P,Int.mul_comm W P] at e3
   generalize u * P=x1 at *
   generalize t * (P * W)=x2 at *
   generalize A * P=x3 at *
   generalize B * P=x5 at *
   generalize k' * P=x4 at *
   omega
noncomputable abbrev cF:Cel:=(102,0)
noncomputable def adR (r y n:Nat):List Rw:=upTo (fun J=>[Rw.both cT (y,(J:Int)) cF,Rw.sum (r,(J:Int)) (r,(J:Int)) cT]) n
theorem znu {w:Nat} {A b:Int} (a0:0<=A) (a1:A < 2 ^ w) (hb:b=0 \/ b=1):Builtin.bitAnd A (b * (2 ^ w - 1))=b * A:=by
 obtain ⟨x,rfl⟩:∃ n:Nat,A=n:=⟨A.toNat,by omega⟩
 rcases hb with rfl | rfl
 ·rw [Int.zero_mul,Int.zero_mul]
  have:=zlg x 0
  simpa using this
 ·rw [Int.one_mul,Int.one_mul]
  have hp:=pw w
  have h1:(0:Nat) < 2 ^ w:=Nat.pow_pos (by omega)
  have h2:((2:Int) ^ w - 1)=((2 ^ w - 1:Nat):Int):=by omega
  rw [h2,zlg,Nat.and_two_pow_sub_one_eq_mod,Nat.mod_eq_of_lt (by omega)]
theorem znI {w:Nat} (hw:1<=w) {r y:Nat} (hry:y ≠ r) (hr:r ≠ 116/\r ≠ 102) (hy:y ≠ 116) (M:Mem) (k b:Int) (k0:0<=k) (k1:k<=1) (hb:b=0 \/ b=1) (hf:M 102 0=b * (2 ^ w - 1)):∀ n,Dg (2 ^ w) M r n->Dg (2 ^ w) M y n->∃ M' k',runM (2 ^ w) (adR r y n) M k=(M',k')/\(∀ d j,d ≠ 116->(d ≠ r \/ (n:Int)<=j)->M' d j=M d j)/\Dg (2 ^ w) M' r n/\0<=k'/\k'<=1/\valM (2 ^ w) M' r n+k' * (2 ^ w) ^ n=valM (2 ^ w) M r n+b * valM (2 ^ w) M y n+k
 | 0,_,_=>⟨M,k,rfl,fun _ _ _ _=>rfl,fun i hi=>by omega,k0,k1,by simp [valM]⟩
 | n+1,ha,hd=>by
  have hW:(0:Int) < 2 ^ w:=Int.pow_pos (by omega)
  obtain ⟨M1,k',e1,h1,h2,h3,h4,h5⟩:=znI hw hry hr hy M k b k0 k1 hb hf n ha.mono hd.mono
  obtain ⟨a0,a1⟩:=ha n (by omega)
  obtain ⟨b0,b1⟩:=hd n (by omega)
  have bB:0<=b * M y n/\b * M y n < 2 ^ w:=by rcases hb with rfl | rfl <;> omega
  obtain ⟨d1,d2,d3,d4,d5⟩:=zej (W:=2 ^ w) hW (s:=M r n+b * M y n+k') (by omega) (by omega)
  have hT:∀ d j,d ≠ 116->upd M1 116 0 (b * M y n) d j=M1 d j:=fun d j h=>by unfold upd; rw [if_neg (by omega)]
  have hv:∀ i:Nat,i < n->upd M1 116 0 (b * M y n) r i=M1 r i:=fun i _=>hT r i hr.1
  refine ⟨upd (upd M1 116 0 (b * M y n)) r n ((M r n+b * M y n+k') % 2 ^ w),(M r n+b * M y n+k') / 2 ^ w,?_,fun d j h6 h7=>?_,zib (fun i hi=>by rw [hv i hi]; exact h2 i hi) d1 d2,d3,d4,?_⟩
  ·rw [adR,upTo,zS]
   show runM (2 ^ w) [Rw.both cT (y,(n:Int)) cF,Rw.sum (r,(n:Int)) (r,(n:Int)) cT] (runM (2 ^ w) (adR r y n) M k).1 (runM (2 ^ w) (adR r y n) M k).2=_
   rw [e1]
   have hff:M1 102 0=b * (2 ^ w - 1):=by rw [h1 102 0 (by decide) (.inl (fun z=>hr.2 z.symm)),hf]
   have hyy:M1 y n=M y n:=h1 y n hy (.inl hry)
   have hrr:upd M1 116 0 (b * M y n) r n=M r n:=by rw [hT r n hr.1,h1 r n hr.1 (.inr (by omega))]
   have htt:upd M1 116 0 (b * M y n) 116 0=b * M y n:=by unfold upd; rw [if_pos ⟨rfl,rfl⟩]
   simp only [runM,stepM,rd,wr,cT,cF,hff,hyy,znu b0 b1 hb,hrr,htt]
  ·unfold upd; rw [if_neg (by omega),if_neg (by omega),h1 d j h6 (by omega)]
  ·rw [zfX,zL (M':=M1) (c':=r) n hv,valM,valM,Int.pow_succ]
   generalize ((2:Int) ^ w) ^ n=P at *
   generalize (M r n+b * M y n+k') % 2 ^ w=u at *
   generalize (M r n+b * M y n+k') / 2 ^ w=t at *
   generalize M r (n:Int)=A at *
   generalize M y (n:Int)=B at *
   generalize (2:Int) ^ w=W at *
   have e3:(u+t * W) * P=(A+b * B+k') * P:=by rw [d5]
   rw [Int.add_mul,Int.add_mul,Int.add_mul,Int.mul_assoc t W P,Int.mul_comm W P,Int.mul_assoc b B P] at e3
   rw [Int.mul_add]
   generalize u * P=x1 at *
   generalize t * (P * W)=x2 at *
   generalize A * P=x3 at *
   generalize b * (B * P)=x5 at *
   generalize k' * P=x4 at *
   generalize b * valM W M y n=x6 at *
   omega
noncomputable def divRnd (y q r n:Nat):List Rw:=.mark 0 :: (twR 101 n++(twR r (n+1)++(lsR r y n++(.less (r,(n:Int)) (r,(n:Int)) cZ :: .less cF cZ cZ :: .mark 0 :: (adR r y n++(.sum (r,(n:Int)) (r,(n:Int)) cZ :: .bare cF cF :: .ask cF :: twR q n))))))
structure Dv (w n y q r:Nat) (M0 M:Mem) (x Y:Int) (I:Nat):Prop where
 de:Dg (2 ^ w) M 101 n
 dr:Dg (2 ^ w) M r (n+1)
 dq:Dg (2 ^ w) M q n
 keep:∀ d j,d ≠ 101->d ≠ r->d ≠ q->d ≠ 116->d ≠ 102->M d j=M0 d j
 rest:valM (2 ^ w) M r (n+1) < Y
 sent:valM (2 ^ w) M q n * Y * (2 ^ w) ^ n+valM (2 ^ w) M r (n+1) * (2 ^ w) ^ n+valM (2 ^ w) M 101 n=x * 2 ^ I
theorem zrw {w n:Nat}:((2:Int) ^ w) ^ n=2 ^ (w * n):=by rw [Int.pow_mul]
structure Lt (y q r:Nat):Prop where
 yr:y ≠ r
 yq:y ≠ q
 qr:q ≠ r
 hy:y ≠ 101/\y ≠ 116/\y ≠ 102/\y ≠ 122
 hq:q ≠ 101/\q ≠ 116/\q ≠ 102/\q ≠ 122
 hr:r ≠ 101/\r ≠ 116/\r ≠ 102/\r ≠ 122
theorem zml {W R Y P:Int} (hW:2<=W) (hP:0 < P) (hR:R < Y) (hY:Y<=P):2 * R+1 < P * W:=by
 have:=Int.mul_le_mul_of_nonneg_left hW (show 0<=P by omega)
 omega
theorem updO {A:Mem} {c d:Nat} {i v j:Int} (h:d ≠ c):upd A c i v d j=A d j:=if_neg fun e=>h e.1
theorem updS {A:Mem} {c:Nat} {i v:Int}:upd A c i v c i=v:=if_pos ⟨rfl,rfl⟩
theorem z01 {b:Int} (h:0<=b) (g:b<=1):b=0 \/ b=1:=by omega
theorem z02 {b:Int} (h:b=0 \/ b=1):0<=1 - b/\1 - b<=1:=by omega
theorem z03 {W t k:Int} (t0:0<=t) (t1:t < W) (k0:0<=k) (k1:k<=1) (h:4<=W):-W<=t - 0 - k/\t - 0 - k < W/\0<=t+0+k/\t+0+k < 2 * W:=by omega
theorem zsq {W P u b m k A B Y:Int} (d5:u - b * W=m - 0 - k) (v3:A - k * P=B - Y - 0):A+u * P - b * (P * W)=B+m * P - Y:=by
 have e9:(u - b * W) * P=(m - 0 - k) * P:=by rw [d5]
 rw [Int.sub_mul,Int.sub_mul,Int.sub_mul,Int.zero_mul,Int.mul_assoc b W P,Int.mul_comm W P] at e9
 omega
theorem zrP {W P u c m k A B Y b:Int} (c5:u+c * W=m+0+k) (v6:A+k * P=B+b * Y+0):A+u * P+c * (P * W)=B+m * P+b * Y:=by
 have e9:(u+c * W) * P=(m+0+k) * P:=by rw [c5]
 rw [Int.add_mul,Int.add_mul,Int.add_mul,Int.zero_mul,Int.mul_assoc c W P,Int.mul_comm W P] at e9
 omega
theorem zrJ {b c Q Y P V7 V4 V2 V k1:Int} (hb:b=0 \/ b=1) (c0:0<=c) (c1:c<=1) (v2:V2=2 * V+k1) (v4:V4 - b * Q=V2 - Y) (v7:V7+c * Q=V4+b * Y) (r0:0<=V) (k0:0<=k1) (k1':k1<=1) (r40:0<=V4) (r41:V4 < Q) (r70:0<=V7) (r71:V7 < Q) (hr:V < Y) (hY:Y < P) (hP:P<=Q) :
  V7=2 * V+k1 - (1 - b) * Y/\V7 < Y:=by
 rcases hb with rfl | rfl <;> rcases (by omega:c=0 \/ c=1) with rfl | rfl <;> omega
theorem zrR {A B Y P E E1 k1 b Z:Int} (hs:A * Y * P+B * P+E=Z) (v1:E1+k1 * P=2 * E):(2 * A+(1 - b)) * Y * P+(2 * B+k1 - (1 - b) * Y) * P+E1=Z * 2:=by
 have f1:(2 * A+(1 - b)) * Y * P=2 * (A * Y * P)+(1 - b) * Y * P:=by
  rw [Int.add_mul,Int.add_mul,Int.mul_assoc 2 A Y,Int.mul_assoc 2 (A * Y) P]
 have f2:(2 * B+k1 - (1 - b) * Y) * P=2 * (B * P)+k1 * P - (1 - b) * Y * P:=by
  rw [Int.sub_mul,Int.add_mul,Int.mul_assoc 2 B P]
 rw [f1,f2]
 omega
theorem zrS {A Y P V E x T:Int} (hYp:1<=Y) (hP:0 < P) (A0:0<=A) (V0:0<=V) (E0:0<=E) (x1:x < P) (T0:0 < T) (hle:T<=P) (key:(A+1 * P) * Y * P+V * P+E=x * T):False:=by
 have a1:P * P<=(A+1 * P) * Y * P:=by
  have b1:P<=(A+1 * P) * Y:=by
   have:=Int.mul_le_mul_of_nonneg_left hYp (show 0<=A+1 * P by omega)
   omega
  exact Int.mul_le_mul_of_nonneg_right b1 (by omega)
 have a2:0<=V * P:=Int.mul_nonneg V0 (by omega)
 have a3:x * T<=(P - 1) * T:=Int.mul_le_mul_of_nonneg_right (by omega) (by omega)
 have a4:(P - 1) * T<=(P - 1) * P:=Int.mul_le_mul_of_nonneg_left hle (by omega)
 have a5:(P - 1) * P=P * P - P:=by rw [Int.sub_mul,Int.one_mul]
 omega
theorem zpz {W b:Int} (hW:1 < W) (hb:b=0 \/ b=1):((0 - 0 - b) % W,bi (decide ((0:Int) - 0 - b < 0)))=(b * (W - 1),b):=by
 rcases hb with rfl | rfl
 ·simp [bi]
 ·have:((0:Int) - 0 - 1) % W=1 * (W - 1):=by
   rw [<- Int.add_emod_right,Int.emod_eq_of_lt (by omega) (by omega)]; omega
  rw [this]; rfl
theorem zr1 {W b:Int} (hW:1 < W) (hb:b=0 \/ b=1):bi (!((1 - b) * (W - 1) == 0))=1 - b:=by
 rcases hb with rfl | rfl
 ·have:¬ ((1 - 0) * (W - 1)=0):=by omega
  rw [beq_eq_false_iff_ne.2 this]; rfl
 ·simp [bi]
theorem zsn {W b:Int} (hb:b=0 \/ b=1):W - 1 - b * (W - 1)=(1 - b) * (W - 1):=by
 rcases hb with rfl | rfl <;> omega
theorem zrD {W P R R2 k1 k2 Y:Int} (hW:2<=W) (hP:0 < P) (r0:0<=R) (hR:R < Y) (hY:Y < P) (k10:0<=k1) (k11:k1<=1) (p:0<=k2) (p':k2<=1) (v2:R2+k2 * (P * W)=2 * R+k1) (r2:0<=R2):k2=0:=by
 have hlt:=zml hW hP hR (Int.le_of_lt hY)
 rcases (by omega:k2=0 \/ k2=1) with z | z
 ·exact z
 ·subst z; omega
theorem znn {w n y q r:Nat} (hw:1 < w) (L:Lt y q r) {M0 M:Mem} {x Y k:Int} {I:Nat} (hz:M0 122 0=0) (hD:Dg (2 ^ w) M0 y n) (hY:valM (2 ^ w) M0 y n=Y) (x1:x < (2 ^ w:Int) ^ n) (hI:I < w * n) (h:Dv w n y q r M0 M x Y I) :
  ∃ M' k',runM (2 ^ w) (divRnd y q r n) M k=(M',k')/\Dv w n y q r M0 M' x Y (I+1):=by
 have hW4:(4:Int)<=2 ^ w:=by
  have h:(2:Nat) ^ 2<=2 ^ w:=Nat.pow_le_pow_right (by omega) (by omega)
  have h2:=pw w
  omega
 have hW:(0:Int) < 2 ^ w:=Int.lt_of_lt_of_le (by decide) hW4
 have hW2:(2:Int)<=2 ^ w:=Int.le_trans (by decide) hW4
 have hW1:(1:Int) < 2 ^ w:=Int.lt_of_lt_of_le (by decide) hW4
 have hP:(0:Int) < (2 ^ w) ^ n:=Int.pow_pos hW
 obtain ⟨y0,y1⟩:=za1 hW n hD
 rw [hY] at y0 y1
 obtain ⟨r0,r1⟩:=za1 hW (n+1) h.dr
 have hzM:M 122 0=0:=by rw [h.keep 122 0 (by decide) (fun e=>L.hr.2.2.2 e.symm) (fun e=>L.hq.2.2.2 e.symm) (by decide) (by decide),hz]
 have hyM:∀ j,M y j=M0 y j:=fun j=>h.keep y j L.hy.1 L.yr L.yq L.hy.2.1 L.hy.2.2.1
 obtain ⟨M1,k1,e1,o1,g1,p1,p1',v1⟩:=ziu (W:=2 ^ w) hW2 101 M 0 (by decide) (by decide) n h.de
 have q1:∀ j,M1 r j=M r j:=fun j=>o1 r j (.inl L.hr.1)
 obtain ⟨M2,k2,e2,o2,g2,p2,p2',v2⟩:=ziu (W:=2 ^ w) hW2 r M1 k1 p1 p1' (n+1) (fun i hi=>by rw [q1]; exact h.dr i hi)
 rw [zL (M:=M1) (M':=M) (c:=r) (c':=r) (n+1) fun i _=>q1 i] at v2
 obtain ⟨r20,r21⟩:=za1 hW (n+1) g2
 have hk2:k2=0:=zrD hW2 hP r0 h.rest y1 p1 p1' p2 p2' (by rw [<- Int.pow_succ]; exact v2) r20
 subst hk2
 rw [Int.zero_mul,Int.add_zero] at v2
 have q2:∀ j,M2 y j=M0 y j:=fun j=>by rw [o2 y j (.inl L.yr),o1 y j (.inl L.hy.1),hyM]
 have z2:M2 122 0=0:=by rw [o2 122 0 (.inl (fun e=>L.hr.2.2.2 e.symm)),o1 122 0 (.inl (by decide)),hzM]
 obtain ⟨M3,k3,e3,o3,g3,p3,p3',v3⟩:=znk (W:=2 ^ w) hW L.yr M2 0 (by decide) (by decide) n g2.mono (fun i hi=>by rw [q2]; exact hD i hi)
 rw [zL (M:=M2) (M':=M0) (c:=y) (c':=y) n fun i _=>q2 i,hY] at v3
 have t3:M3 r n=M2 r n:=o3 r n (.inr (Int.le_refl _))
 obtain ⟨t0,t1⟩:=g2 n (Nat.lt_succ_self n)
 obtain ⟨d1,d2,d3,d4,d5⟩:=zhg (W:=2 ^ w) hW (s:=M2 r n - 0 - k3) (z03 t0 t1 p3 p3' hW4).1 (z03 t0 t1 p3 p3' hW4).2.1
 have z3:M3 122 0=0:=by rw [o3 122 0 (.inl (fun e=>L.hr.2.2.2 e.symm)),z2]
 have e4:stepM (2 ^ w) M3 k3 (.less (r,(n:Int)) (r,(n:Int)) cZ)=(upd M3 r n ((M2 r n - 0 - k3) % 2 ^ w),bi (decide (M2 r n - 0 - k3 < 0))):=by
  simp only [stepM,rd,wr,cZ,t3,z3]
 generalize hb:bi (decide (M2 r n - 0 - k3 < 0))=b at d3 d4 d5 e4
 generalize hu:(M2 r n - 0 - k3) % 2 ^ w=u at d1 d2 d5 e4
 have g4:Dg (2 ^ w) (upd M3 r n u) r (n+1):=zib g3 d1 d2
 have v4:valM (2 ^ w) (upd M3 r n u) r (n+1) - b * (2 ^ w) ^ (n+1)=valM (2 ^ w) M2 r (n+1) - Y:=by
  rw [zfX,valM,Int.pow_succ]; exact zsq d5 v3
 have o4:∀ d j,d ≠ r->upd M3 r n u d j=M2 d j:=fun d j hd=>by rw [updO hd,o3 d j (.inl hd)]
 generalize upd M3 r n u=M4 at e4 g4 v4 o4
 obtain ⟨r40,r41⟩:=za1 hW (n+1) g4
 have hb01:b=0 \/ b=1:=z01 d3 d4
 have z4:M4 122 0=0:=by rw [o4 122 0 (fun e=>L.hr.2.2.2 e.symm),z2]
 have e5:stepM (2 ^ w) M4 b (.less cF cZ cZ)=(upd M4 102 0 (b * (2 ^ w - 1)),b):=by
  simp only [stepM,rd,wr,cF,cZ,z4]
  rw [(Prod.mk.inj (zpz hW1 hb01)).1,(Prod.mk.inj (zpz hW1 hb01)).2]
 have o5:∀ d j,d ≠ 102->upd M4 102 0 (b * (2 ^ w - 1)) d j=M4 d j:=fun d j hd=>updO hd
 have f5:upd M4 102 0 (b * (2 ^ w - 1)) 102 0=b * (2 ^ w - 1):=updS
 generalize upd M4 102 0 (b * (2 ^ w - 1))=M5 at e5 o5 f5
 have q5:∀ j,M5 r j=M4 r j:=fun j=>o5 r j L.hr.2.2.1
 have y5:∀ j,M5 y j=M0 y j:=fun j=>by rw [o5 y j L.hy.2.2.1,o4 y j L.yr,q2]
 obtain ⟨M6,k6,e6,o6,g6,p6,p6',v6⟩:=znI (w:=w) (Nat.le_of_lt hw) L.yr ⟨L.hr.2.1,L.hr.2.2.1⟩ L.hy.2.1 M5 0 b (by decide) (by decide) hb01 f5 n (fun i hi=>by rw [q5]; exact g4 i (Nat.lt_succ_of_lt hi)) (fun i hi=>by rw [y5]; exact hD i hi)
 rw [zL (M:=M5) (M':=M4) (c:=r) (c':=r) n fun i _=>q5 i,zL (M:=M5) (M':=M0) (c:=y) (c':=y) n fun i _=>y5 i,hY] at v6
 have t6:M6 r n=M4 r n:=by rw [o6 r n L.hr.2.1 (.inr (Int.le_refl _)),q5]
 obtain ⟨s0,s1⟩:=g4 n (Nat.lt_succ_self n)
 obtain ⟨c1,c2,c3,c4,c5⟩:=zej (W:=2 ^ w) hW (s:=M4 r n+0+k6) (z03 s0 s1 p6 p6' hW4).2.2.1 (z03 s0 s1 p6 p6' hW4).2.2.2
 have z6:M6 122 0=0:=by rw [o6 122 0 (by decide) (.inl (fun e=>L.hr.2.2.2 e.symm)),o5 122 0 (by decide),z4]
 have e7:stepM (2 ^ w) M6 k6 (.sum (r,(n:Int)) (r,(n:Int)) cZ)=(upd M6 r n ((M4 r n+0+k6) % 2 ^ w),(M4 r n+0+k6) / 2 ^ w):=by
  simp only [stepM,rd,wr,cZ,t6,z6]
 generalize (M4 r n+0+k6) / 2 ^ w=c at c3 c4 c5 e7
 generalize (M4 r n+0+k6) % 2 ^ w=u7 at c1 c2 c5 e7
 have g7:Dg (2 ^ w) (upd M6 r n u7) r (n+1):=zib g6 c1 c2
 have v7:valM (2 ^ w) (upd M6 r n u7) r (n+1)+c * (2 ^ w) ^ (n+1)=valM (2 ^ w) M4 r (n+1)+b * Y:=by
  rw [zfX,valM,Int.pow_succ]; exact zrP c5 v6
 have o7:∀ d j,d ≠ r->d ≠ 116->d ≠ 102->upd M6 r n u7 d j=M2 d j:=fun d j hd h1 h2=>by
  rw [updO hd,o6 d j h1 (.inl hd),o5 d j h2,o4 d j hd]
 have f7:upd M6 r n u7 102 0=b * (2 ^ w - 1):=by
  rw [updO (fun z=>L.hr.2.2.1 z.symm),o6 102 0 (by decide) (.inl (fun e=>L.hr.2.2.1 e.symm)),f5]
 generalize upd M6 r n u7=M7 at e7 g7 v7 o7 f7
 obtain ⟨r70,r71⟩:=za1 hW (n+1) g7
 have hv2:valM (2 ^ w) M2 r (n+1)=2 * valM (2 ^ w) M r (n+1)+k1:=v2
 have hPW:(2 ^ w:Int) ^ n<=(2 ^ w) ^ (n+1):=by
  rw [Int.pow_succ]
  have:=Int.mul_le_mul_of_nonneg_left (Int.le_of_lt hW1) (Int.le_of_lt hP)
  rwa [Int.mul_one] at this
 have hrest:valM (2 ^ w) M7 r (n+1)=2 * valM (2 ^ w) M r (n+1)+k1 - (1 - b) * Y/\valM (2 ^ w) M7 r (n+1) < Y:=zrJ hb01 c3 c4 hv2 v4 v7 r0 p1 p1' r40 r41 r70 r71 h.rest y1 hPW
 have e8:stepM (2 ^ w) M7 c (.bare cF cF)=(upd M7 102 0 ((1 - b) * (2 ^ w - 1)),c):=by
  simp only [stepM,rd,wr,cF,f7]
  rw [zsn hb01]
 have o8:∀ d j,d ≠ 102->upd M7 102 0 ((1 - b) * (2 ^ w - 1)) d j=M7 d j:=fun d j hd=>updO hd
 have f8:upd M7 102 0 ((1 - b) * (2 ^ w - 1)) 102 0=(1 - b) * (2 ^ w - 1):=updS
 generalize upd M7 102 0 ((1 - b) * (2 ^ w - 1))=M8 at e8 o8 f8
 have e9:stepM (2 ^ w) M8 c (.ask cF)=(M8,1 - b):=by
  simp only [stepM,rd,cF,f8]
  rw [zr1 hW1 hb01]
 have q8:∀ j,M8 q j=M q j:=fun j=>by
  rw [o8 q j L.hq.2.2.1,o7 q j L.qr L.hq.2.1 L.hq.2.2.1,o2 q j (.inl L.qr),o1 q j (.inl L.hq.1)]
 obtain ⟨M9,k9,ea,o9,g9,p9,p9',v9⟩:=ziu (W:=2 ^ w) hW2 q M8 (1 - b) (z02 hb01).1 (z02 hb01).2 n (fun i hi=>by rw [q8]; exact h.dq i hi)
 rw [zL (M:=M8) (M':=M) (c:=q) (c':=q) n fun i _=>q8 i] at v9
 obtain ⟨u0,u1⟩:=za1 hW n g9
 obtain ⟨w0,w1⟩:=za1 hW n h.dq
 obtain ⟨ee0,ee1⟩:=za1 hW n g1
 have hs:=h.sent
 have ve:valM (2 ^ w) M9 101 n=valM (2 ^ w) M1 101 n:=zL n fun i _=>by
  rw [o9 101 i (.inl (fun e=>L.hq.1 e.symm)),o8 101 i (by decide),o7 101 i (fun e=>L.hr.1 e.symm) (by decide) (by decide),o2 101 i (.inl (fun e=>L.hr.1 e.symm))]
 have vr:valM (2 ^ w) M9 r (n+1)=valM (2 ^ w) M7 r (n+1):=zL (n+1) fun i _=>by
  rw [o9 r i (.inl (fun e=>L.qr e.symm)),o8 r i L.hr.2.2.1]
 have v1':valM (2 ^ w) M1 101 n+k1 * (2 ^ w) ^ n=2 * valM (2 ^ w) M 101 n:=by rw [v1,Int.add_zero]
 have key:(2 * valM (2 ^ w) M q n+(1 - b)) * Y * (2 ^ w) ^ n+valM (2 ^ w) M7 r (n+1) * (2 ^ w) ^ n+valM (2 ^ w) M1 101 n=x * 2 ^ (I+1):=by
  rw [hrest.1,Int.pow_succ,<- Int.mul_assoc]; exact zrR hs v1'
 have hk9:k9=0:=by
  rcases z01 p9 p9' with z | z
  ·exact z
  ·exfalso
   subst z
   have hle:(2:Int) ^ (I+1)<=(2 ^ w) ^ n:=by
    rw [zrw]
    exact_mod_cast Nat.pow_le_pow_right (n:=2) (by decide) hI
   rw [<- v9] at key
   exact zrS (Int.lt_of_le_of_lt r0 h.rest) hP u0 r70 ee0 x1 (Int.pow_pos (by decide)) hle key
 subst hk9
 rw [Int.zero_mul,Int.add_zero] at v9
 rw [<- v9] at key
 refine ⟨M9,0,?_,⟨fun i hi=>?_,fun i hi=>?_,g9,fun d j h1 h2 h3 h4 h5=>?_,?_,?_⟩⟩
 ·have em:stepM (2 ^ w) M k (.mark 0)=(M,0):=rfl
  have em2:stepM (2 ^ w) M5 b (.mark 0)=(M5,0):=rfl
  rw [divRnd,zaD,em]
  simp only
  rw [zS,e1,zS]
  simp only
  rw [e2,zS]
  simp only
  rw [e3,zaD,e4,zaD]
  simp only
  rw [e5,zaD,em2,zS]
  simp only
  rw [e6,zaD,e7,zaD]
  simp only
  rw [e8,zaD,e9]
  simp only
  rw [ea]
 ·rw [o9 101 i (.inl (fun e=>L.hq.1 e.symm)),o8 101 i (by decide),o7 101 i (fun e=>L.hr.1 e.symm) (by decide) (by decide),o2 101 i (.inl (fun e=>L.hr.1 e.symm))]
  exact g1 i hi
 ·rw [o9 r i (.inl (fun e=>L.qr e.symm)),o8 r i L.hr.2.2.1]
  exact g7 i hi
 ·rw [o9 d j (.inl h3),o8 d j h5,o7 d j h2 h4 h5,o2 d j (.inl h2),o1 d j (.inl h1)]
  exact h.keep d j h1 h2 h3 h4 h5
 ·rw [vr]; exact hrest.2
 ·rw [ve,vr]; exact key
theorem zh5 {w n y q r:Nat} (hw:1 < w) (L:Lt y q r) {M0 M:Mem} {x Y k:Int} (hz:M0 122 0=0) (hD:Dg (2 ^ w) M0 y n) (hY:valM (2 ^ w) M0 y n=Y) (x1:x < (2 ^ w:Int) ^ n) (h:Dv w n y q r M0 M x Y 0) :
  ∀ I:Nat,I<=w * n->∃ M' k',runM (2 ^ w) (upTo (fun _=>divRnd y q r n) I) M k=(M',k')/\Dv w n y q r M0 M' x Y I
 | 0,_=>⟨M,k,rfl,h⟩
 | I+1,hI=>by
  obtain ⟨M1,k1,e1,h1⟩:=zh5 hw L hz hD hY x1 h I (by omega)
  obtain ⟨M2,k2,e2,h2⟩:=znn hw L (k:=k1) hz hD hY x1 (by omega) h1
  refine ⟨M2,k2,?_,h2⟩
  rw [upTo,zS,e1]
  exact e2
theorem zon {w n y q r:Nat} (hw:1 < w) {M0 M:Mem} {x Y:Int} (x0:0<=x) (h:Dv w n y q r M0 M x Y (w * n)) (hYP:Y<=(2 ^ w:Int) ^ n):valM (2 ^ w) M q n=x / Y/\valM (2 ^ w) M r n=x % Y/\M r n=0:=by
 have hW:(0:Int) < 2 ^ w:=Int.pow_pos (by omega)
 have hP:(0:Int) < (2 ^ w) ^ n:=Int.pow_pos hW
 obtain ⟨r0,r1⟩:=za1 hW (n+1) h.dr
 obtain ⟨a0,a1⟩:=za1 hW n h.de
 obtain ⟨b0,b1⟩:=za1 hW n h.dr.mono
 obtain ⟨t0,t1⟩:=h.dr n (by omega)
 have hs:=h.sent
 have hr:=h.rest
 rw [<- zrw] at hs
 have htop:M r n=0:=by
  rw [valM] at hr
  rcases (by omega:M r n=0 \/ 1<=M r n) with z | z
  ·exact z
  ·have:=Int.mul_le_mul_of_nonneg_right z (show (0:Int)<=(2 ^ w) ^ n by omega)
   omega
 have hv:valM (2 ^ w) M r (n+1)=valM (2 ^ w) M r n:=by rw [valM,htop]; omega
 rw [hv] at hs hr
 generalize ((2:Int) ^ w) ^ n=P at *
 generalize valM (2 ^ w) M q n=A at *
 generalize valM (2 ^ w) M r n=B at *
 generalize valM (2 ^ w) M 101 n=E at *
 have e0:E=0:=by
  have h1:E=(x - A * Y - B) * P:=by
   rw [Int.sub_mul,Int.sub_mul]; omega
  have h2:E % P=E:=Int.emod_eq_of_lt a0 a1
  rw [<- h2,h1,Int.mul_emod_left]
 subst e0
 have hx:A * Y+B=x:=by
  have h1:(A * Y+B) * P=x * P:=by rw [Int.add_mul]; omega
  exact Int.eq_of_mul_eq_mul_right (by omega) h1
 have hYp:0 < Y:=by omega
 refine ⟨?_,?_,htop⟩
 ·rw [<- hx,Int.add_comm,Int.add_mul_ediv_right _ _ (by omega),Int.ediv_eq_zero_of_lt b0 hr,Int.zero_add]
 ·rw [<- hx,Int.add_comm,Int.add_mul_emod_self_right,Int.emod_eq_of_lt b0 hr]
noncomputable abbrev cG:Cel:=(103,0)
theorem zo7 {w:Nat} {A b:Int} (a0:0<=A) (a1:A < 2 ^ w) (hb:b=0 \/ b=1):Builtin.bitXor A (b * (2 ^ w - 1))=A+b * (2 ^ w - 1 - 2 * A):=by
 obtain ⟨x,rfl⟩:∃ n:Nat,A=n:=⟨A.toNat,by omega⟩
 rcases hb with rfl | rfl
 ·rw [Int.zero_mul,Int.zero_mul]
  have:=zrx x 0
  simpa using this
 ·rw [Int.one_mul,Int.one_mul]
  have hp:=pw w
  have h1:(0:Nat) < 2 ^ w:=Nat.pow_pos (by omega)
  have h2:((2:Int) ^ w - 1)=((2 ^ w - 1:Nat):Int):=by omega
  have h3:=zlg x (2 ^ w - 1)
  have h4:=zjb x (2 ^ w - 1)
  have h6:x ||| (2 ^ w - 1)=2 ^ w - 1:=by
   apply Nat.eq_of_testBit_eq
   intro i
   rw [Nat.testBit_or,Nat.testBit_two_pow_sub_one]
   by_cases hi:i < w
   ·simp [hi]
   ·have:x < 2 ^ i:=Nat.lt_of_lt_of_le (by omega) (Nat.pow_le_pow_right (by omega) (show w<=i by omega))
    rw [Nat.testBit_lt_two_pow this]; simp [hi]
  rw [Builtin.bitXor,h2,h3,h4,h6,Nat.and_two_pow_sub_one_eq_mod,Nat.mod_eq_of_lt (by omega)]
  omega
noncomputable def trL (src to n:Nat):List Rw:=upTo (fun i=>[Rw.odd cT (src,(i:Int)) cG,Rw.sum (to,(i:Int)) cT cZ]) n
theorem znY {w:Nat} (hw:1<=w) {src to:Nat} (h1:src ≠ to) (h2:src ≠ 116) (h3:to ≠ 116/\to ≠ 103/\to ≠ 122) (M:Mem) (b:Int) (hb:b=0 \/ b=1) (hg:M 103 0=b * (2 ^ w - 1)) (hz:M 122 0=0):∀ n,Dg (2 ^ w) M src n->∃ M' k',runM (2 ^ w) (trL src to n) M b=(M',k')/\(∀ d j,d ≠ 116->(d ≠ to \/ (n:Int)<=j)->M' d j=M d j)/\Dg (2 ^ w) M' to n/\0<=k'/\k'<=1/\valM (2 ^ w) M' to n+k' * (2 ^ w) ^ n=valM (2 ^ w) M src n+b * ((2 ^ w) ^ n - 2 * valM (2 ^ w) M src n)
 | 0,_=>⟨M,b,rfl,fun _ _ _ _=>rfl,fun i hi=>by omega,by omega,by omega,by simp [valM]⟩
 | n+1,hd=>by
  have hW:(0:Int) < 2 ^ w:=Int.pow_pos (by omega)
  obtain ⟨M1,k',e1,o1,g1,p1,p2,v1⟩:=znY hw h1 h2 h3 M b hb hg hz n hd.mono
  obtain ⟨a0,a1⟩:=hd n (by omega)
  have hX:0<=M src n+b * (2 ^ w - 1 - 2 * M src n)/\M src n+b * (2 ^ w - 1 - 2 * M src n) < 2 ^ w:=by rcases hb with rfl | rfl <;> omega
  generalize hXX:M src n+b * (2 ^ w - 1 - 2 * M src n)=X at *
  obtain ⟨d1,d2,d3,d4,d5⟩:=zej (W:=2 ^ w) hW (s:=X+0+k') (by omega) (by omega)
  have hT:∀ d j,d ≠ 116->upd M1 116 0 X d j=M1 d j:=fun d j h=>by unfold upd; rw [if_neg (by omega)]
  have hv:∀ i:Nat,i < n->upd M1 116 0 X to i=M1 to i:=fun i _=>hT to i h3.1
  refine ⟨upd (upd M1 116 0 X) to n ((X+0+k') % 2 ^ w),(X+0+k') / 2 ^ w,?_,fun d j h6 h7=>?_,zib (fun i hi=>by rw [hv i hi]; exact g1 i hi) d1 d2,d3,d4,?_⟩
  ·rw [trL,upTo,zS]
   show runM (2 ^ w) [Rw.odd cT (src,(n:Int)) cG,Rw.sum (to,(n:Int)) cT cZ] (runM (2 ^ w) (trL src to n) M b).1 (runM (2 ^ w) (trL src to n) M b).2=_
   rw [e1]
   have hgg:M1 103 0=b * (2 ^ w - 1):=by rw [o1 103 0 (by decide) (.inl (fun z=>h3.2.1 z.symm)),hg]
   have hss:M1 src n=M src n:=o1 src n h2 (.inl h1)
   have htt:upd M1 116 0 X 116 0=X:=by unfold upd; rw [if_pos ⟨rfl,rfl⟩]
   have hzz:upd M1 116 0 X 122 0=0:=by rw [hT 122 0 (by decide),o1 122 0 (by decide) (.inl (fun z=>h3.2.2 z.symm)),hz]
   simp only [runM,stepM,rd,wr,cT,cG,cZ,hgg,hss,zo7 a0 a1 hb,hXX,htt,hzz]
  ·unfold upd; rw [if_neg (by omega),if_neg (by omega),o1 d j h6 (by omega)]
  ·rw [zfX,zL (M':=M1) (c':=to) n hv,valM,Int.pow_succ]
   generalize ((2:Int) ^ w) ^ n=P at *
   generalize (X+0+k') % 2 ^ w=u at *
   generalize (X+0+k') / 2 ^ w=t at *
   generalize M src (n:Int)=A at *
   generalize (2:Int) ^ w=W at *
   generalize valM W M src n=V at *
   generalize valM W M1 to n=Z at *
   have e3:(u+t * W) * P=(X+0+k') * P:=by rw [d5]
   rw [Int.add_mul,Int.add_mul,Int.add_mul,Int.zero_mul,Int.mul_assoc t W P,Int.mul_comm W P,<- hXX,Int.add_mul,Int.mul_assoc b,Int.sub_mul,Int.sub_mul,Int.one_mul,Int.mul_assoc 2 A P,Int.mul_comm W P] at e3
   generalize u * P=x1 at *
   generalize t * (P * W)=x2 at *
   generalize A * P=x3 at *
   generalize k' * P=x4 at *
   generalize P * W=x7 at *
   rcases hb with rfl | rfl <;> omega
noncomputable def trn (s src to n:Nat):List Rw:=.ask (s,0) :: .less cG cZ cZ :: trL src to n
theorem zi6 {w:Nat} (hw:1 < w) {s src to:Nat} (h1:src ≠ to) (h2:src ≠ 116/\src ≠ 103) (h3:to ≠ 116/\to ≠ 103/\to ≠ 122) {M:Mem} {k:Int} {b:Int} (hb:b=0 \/ b=1) (hs:M s 0=b) (hz:M 122 0=0) {n:Nat} (hd:Dg (2 ^ w) M src n) :
  ∃ M' k',runM (2 ^ w) (trn s src to n) M k=(M',k')/\(∀ d j,d ≠ 116->d ≠ 103->d ≠ to->M' d j=M d j)/\Dg (2 ^ w) M' to n/\valM (2 ^ w) M' to n=(if b=1 then 0 - valM (2 ^ w) M src n else valM (2 ^ w) M src n) % (2 ^ w) ^ n:=by
 have hW:(0:Int) < 2 ^ w:=Int.pow_pos (by omega)
 have hW4:(4:Int)<=2 ^ w:=by
  have h:(2:Nat) ^ 2<=2 ^ w:=Nat.pow_le_pow_right (by omega) (by omega)
  have h2:=pw w
  omega
 have e1:stepM (2 ^ w) M k (.ask (s,0))=(M,b):=by
  simp only [stepM,rd,hs]
  rcases hb with rfl | rfl <;> rfl
 have e2:stepM (2 ^ w) M b (.less cG cZ cZ)=(upd M 103 0 (b * (2 ^ w - 1)),b):=by
  simp only [stepM,rd,wr,cG,cZ,hz]
  rcases hb with rfl | rfl
  ·simp [bi]
  ·have:((0:Int) - 0 - 1) % 2 ^ w=1 * (2 ^ w - 1):=by
    rw [<- Int.add_emod_right,Int.emod_eq_of_lt (by omega) (by omega)]; omega
   rw [this]; rfl
 have o2:∀ d j,d ≠ 103->upd M 103 0 (b * (2 ^ w - 1)) d j=M d j:=fun d j hd=>by unfold upd; rw [if_neg (by omega)]
 have f2:upd M 103 0 (b * (2 ^ w - 1)) 103 0=b * (2 ^ w - 1):=by unfold upd; rw [if_pos ⟨rfl,rfl⟩]
 generalize upd M 103 0 (b * (2 ^ w - 1))=M1 at *
 obtain ⟨M2,k2,e3,o3,g3,p3,p4,v3⟩:=znY (w:=w) (by omega) h1 h2.1 h3 M1 b hb f2 (by rw [o2 122 0 (by decide),hz]) n (fun i hi=>by rw [o2 src i h2.2]; exact hd i hi)
 rw [zL (M:=M1) (M':=M) (c:=src) (c':=src) n fun i _=>o2 src i h2.2] at v3
 obtain ⟨r0,r1⟩:=za1 hW n g3
 refine ⟨M2,k2,?_,fun d j h4 h5 h6=>by rw [o3 d j h4 (.inl h6),o2 d j h5],g3,?_⟩
 ·rw [trn,zaD,e1,zaD,e2]; exact e3
 ·generalize ((2:Int) ^ w) ^ n=P at *
  generalize valM (2 ^ w) M src n=V at *
  generalize valM (2 ^ w) M2 to n=Z at *
  rcases hb with rfl | rfl
  ·rw [if_neg (by omega),show V=Z+k2 * P by omega,Int.add_mul_emod_self_right,Int.emod_eq_of_lt r0 r1]
  ·have e:Z+k2 * P=0 - V+1 * P:=by omega
   rw [if_pos rfl,<- Int.add_mul_emod_self_right (0 - V) 1 P,<- e,Int.add_mul_emod_self_right,Int.emod_eq_of_lt r0 r1]
theorem zja {w:Nat} (hw:1 < w) {s c:Nat} (hs:s ≠ 116) (hc:c ≠ 116) {M:Mem} {k:Int} (k0:k=0) (hz:M 122 0=0) {n:Nat} (hd:Dg (2 ^ w) M c (n+1)) (j:Int) :
  runM (2 ^ w) [.twice cT (c,((n+1:Nat):Int) - 1),.sum (s,j) cZ cZ] M k=(upd (upd M 116 0 (2 * M c n % 2 ^ w)) s j (if (2 ^ w:Int) ^ (n+1)<=2 * valM (2 ^ w) M c (n+1) then 1 else 0),0):=by
 have hW4:(4:Int)<=2 ^ w:=by
  have h:(2:Nat) ^ 2<=2 ^ w:=Nat.pow_le_pow_right (by omega) (by omega)
  have h2:=pw w
  omega
 subst k0
 have ht:=znX (by omega) hd
 have hn:((n+1:Nat):Int) - 1=n:=by omega
 have hz2:upd M 116 0 (2 * M c n % 2 ^ w) 122 0=0:=by unfold upd; rw [if_neg (by omega),hz]
 have hT:2 * M c n / 2 ^ w=if (2 ^ w:Int) ^ (n+1)<=2 * valM (2 ^ w) M c (n+1) then 1 else 0:=ht
 rw [hn]
 simp only [runM,stepM,rd,wr,cT,cZ,Int.add_zero,hT,hz2]
 generalize hb:(if (2 ^ w:Int) ^ (n+1)<=2 * valM (2 ^ w) M c (n+1) then (1:Int) else 0)=b
 have hb2:0<=b/\b<=1:=by split at hb <;> omega
 rw [Int.zero_add,Int.emod_eq_of_lt hb2.1 (by omega),Int.ediv_eq_zero_of_lt hb2.1 (by omega)]
theorem zox {c:Cl} {N acc lo:Int} {st:Store}:exs c [some (.int N),some (.int acc),some (.int lo)] st (.cons (.asg (.n 1) (.bin .mul (.cst (.int 2)) (.var 1))) .nil)=.nx [some (.int N),some (.int (2 * acc)),some (.int lo)] st:=by
 simp? [xs_nil,xs_cons,x_asg,thenF,nxO,ev.eq_1,ev.eq_3,R.bind,R.fl,bindT,binV,binI,CMulB,toR,List.set_cons_zero,List.set_cons_succ]
 simp
theorem zfA (k n:Nat) (hn:n < 1000) (st:Store):callT T (k+1) zhr [.int n] st=.ok (.int (2 ^ n)) st:=by
 obtain ⟨ρ',st',h,u,e1,e2⟩:=zfo (call:=callT T k) (t:=.n 2) (b:=.cons (.asg (.n 1) (.bin .mul (.cst (.int 2)) (.var 1))) .nil) (fun i ρ st=>∃ u,ρ=[some (.int n),some (.int (2 ^ i)),u]/\st=[]) (rangeL n 0 1) 0 [some (.int n),some (.int 1),none] [] ⟨_,rfl,rfl⟩ (by
  rintro j x ρ st hx ⟨u,rfl,rfl⟩
  have hx:∃ i,x=.int i:=by
   have:∀ (n:Nat) (a d:Int) (j:Nat) x,(rangeL n a d)[j]?=some x->∃ i,x=.int i:=by
    intro n
    induction n with
    | zero=>intro a d j x h; simp [rangeL] at h
    | succ n ih =>
     intro a d j x h
     cases j with
     | zero=>simp [rangeL] at h; exact ⟨a,h.symm⟩
     | succ j=>simp [rangeL] at h; exact ih _ _ _ _ h
   exact this _ _ _ _ _ hx
  obtain ⟨i,rfl⟩:=hx
  exact ⟨_,_,_,rfl,zox,_,by rw [Int.pow_succ,Int.mul_comm],rfl⟩)
 have hl:(rangeL n 0 1).length=n:=by
  have:∀ (n:Nat) (a d:Int),(rangeL n a d).length=n:=by
   intro n
   induction n with
   | zero=>intro a d; rfl
   | succ n ih=>intro a d; simp [rangeL,ih]
  exact this _ _ _
 rw [hl,Nat.zero_add] at e1
 subst e1 e2
 rw [callT,show T zhr=some ze1 from rfl]
 simp_all! [ze1,noLocs,noLoc,Bool.and_self,xs_cons,xs_nil,x_asg,zbR,x_ret,thenF,nxO,ev.eq_1,ev.eq_2,R.fl,bindT,List.set_cons_zero,List.set_cons_succ,evi,R.bind,List.getElem?_cons_zero,rng1,toL]
 simp only [show (n:Int).natAbs < 1000000000 by omega,if_true,Int.toNat_natCast,h]
 simp [noLoc]
noncomputable def primes:PV:=.tup [.int 2147483647,.int 2147483629,.int 2147483587,.int 2147483579,.int 2147483563]
noncomputable def mixB:Css:=match f_qmixed.body with
 | .cons _ (.cons _ (.cons (.for _ _ b) _))=>b
 | _=>.nil
theorem zgU {c:Cl} {s num g p:Int} {i:Nat} {u5 u6 u7:Option PV} (hg:∀ st,idxV st (.tup [.int 11,.int 101,.int 1009,.int 10007,.int 100003]) (.int i)=some (.int g)) (hi:i < 5) (hp:0 < p) (hp2:p < 18446744073709551616) :
  ∃ num' v5 v6 v7,exs c [some (.int s),some primes,some (.int num),some (.int i),some (.int p),u5,u6,u7] [] mixB=.nx [some (.int s),some primes,some (.int num'),some (.int i),some (.int p),v5,v6,v7] []:=by
 have h1:∀ z:Int,binV .mul (.int z) (.int (48271+2 * (i:Int)))=some (.int (z * (48271+2 * (i:Int)))):=fun z=>zaV (by omega)
 have h2:∀ z y:Int,binV .mul (.int z) (.int (y % p))=some (.int (z * (y % p))):=fun z y=>zaV (by
  have a:=Int.emod_nonneg y (show p ≠ 0 by omega)
  have b:=Int.emod_lt_of_pos y hp
  omega)
 have h3:∀ z:Int,binV .mul (.int z) (.int p)=some (.int (z * p)):=fun z=>zaV (by omega)
 dsimp! [mixB,f_qmixed,x_asg,ev.eq_3,bT_n,nxO_some,List.set_cons_zero,List.set_cons_succ,zbP,zbv,hg,h1,h2,h3,zb5 hp]
 exact ⟨_,_,_,_,rfl⟩
theorem zoU {c:Cl} {s num:Int} {u5 u6 u7:Option PV} (i:Nat) (p:Int) (h:(i,p) ∈ [(0,(2147483647:Int)),(1,2147483629),(2,2147483587),(3,2147483579),(4,2147483563)]) :
  ∃ num' v5 v6 v7,exs c [some (.int s),some primes,some (.int num),some (.int i),some (.int p),u5,u6,u7] [] mixB=.nx [some (.int s),some primes,some (.int num'),some (.int i),some (.int p),v5,v6,v7] []:=by
 simp only [List.mem_cons,Prod.mk.injEq,List.not_mem_nil,or_false] at h
 rcases h with ⟨rfl,rfl⟩ | ⟨rfl,rfl⟩ | ⟨rfl,rfl⟩ | ⟨rfl,rfl⟩ | ⟨rfl,rfl⟩
 ·exact zgU (fun _=>rfl) (by decide) (by decide) (by decide)
 ·exact zgU (fun _=>rfl) (by decide) (by decide) (by decide)
 ·exact zgU (fun _=>rfl) (by decide) (by decide) (by decide)
 ·exact zgU (fun _=>rfl) (by decide) (by decide) (by decide)
 ·exact zgU (fun _=>rfl) (by decide) (by decide) (by decide)
noncomputable def mixL:List PV:=[.tup [.int 0,.int 2147483647],.tup [.int 1,.int 2147483629],.tup [.int 2,.int 2147483587],.tup [.int 3,.int 2147483579],.tup [.int 4,.int 2147483563]]
theorem mixed (k:Nat) (s:Int) (st:Store):∃ num,callT T (k+1) zlo [.int s] st=.ok (.int num) st:=by
 obtain ⟨ρ',st',h,num,a,b,c,d,e,e1,e2⟩:=zfo (call:=callT T k) (t:=.t [3,4]) (b:=mixB) (fun _ ρ st=>∃ num a b c d e,ρ=[some (.int s),some primes,some (.int num),a,b,c,d,e]/\st=[]) mixL 0 [some (.int s),some primes,some (.int 0),none,none,none,none,none] [] ⟨_,_,_,_,_,_,rfl,rfl⟩ (by
  rintro j x ρ st hx ⟨num,a,b,c,d,e,rfl,rfl⟩
  have hx:=List.mem_of_getElem? hx
  have hx:∃ i p,x=.tup [.int ((i:Nat):Int),.int p]/\(i,p) ∈ [(0,(2147483647:Int)),(1,2147483629),(2,2147483587),(3,2147483579),(4,2147483563)]:=by
   simp only [mixL,List.mem_cons,List.not_mem_nil,or_false] at hx
   rcases hx with rfl | rfl | rfl | rfl | rfl
   ·exact ⟨0,_,rfl,by simp⟩
   ·exact ⟨1,_,rfl,by simp⟩
   ·exact ⟨2,_,rfl,by simp⟩
   ·exact ⟨3,_,rfl,by simp⟩
   ·exact ⟨4,_,rfl,by simp⟩
  obtain ⟨i,p,rfl,hm⟩:=hx
  obtain ⟨num',v5,v6,v7,hh⟩:=zoU (c:=callT T k) (s:=s) (num:=num) (u5:=c) (u6:=d) (u7:=e) i p hm
  exact ⟨_,_,_,rfl,hh,_,_,_,_,_,_,rfl,rfl⟩)
 subst e1 e2
 refine ⟨num,?_⟩
 rw [callT]
 have hb:f_qmixed.body=.cons (.asg (.n 1) (.tup (.cons (.cst (.int 2147483647)) (.cons (.cst (.int 2147483629)) (.cons (.cst (.int 2147483587)) (.cons (.cst (.int 2147483579)) (.cons (.cst (.int 2147483563)) .nil))))))) (.cons (.asg (.n 2) (.cst (.int 0))) (.cons (.for (.t [3,4]) (.enum (.var 1)) mixB) (.cons (.ret (.var 2)) .nil))):=rfl
 have hT:T zlo=some ⟨1,8,true,f_qmixed.body⟩:=rfl
 have hp:PV.tup [.int 2147483647,.int 2147483629,.int 2147483587,.int 2147483579,.int 2147483563]=primes:=rfl
 rw [hT,hb]
 have h5:ev (callT T k) [some (.int s),none,none,none,none,none,none,none] [] (.tup (.cons (.cst (.int 2147483647)) (.cons (.cst (.int 2147483629)) (.cons (.cst (.int 2147483587)) (.cons (.cst (.int 2147483579)) (.cons (.cst (.int 2147483563)) .nil))))))=.ok primes []:=by
  simp [ev.eq_1,ev.eq_11,evs,R.bind,sizeMax,primes]
 have he:evi (callT T k) [some (.int s),some primes,some (.int 0),none,none,none,none,none] [] (.enum (.var 1))=.ok mixL []:=by
  simp [evi,ev.eq_2,R.bind,primes,pairsUp,mixL]
 simp_all! [noLocs,noLoc,Bool.and_self,xs_cons,xs_nil,x_asg,zbR,x_ret,h5,R.fl,bindT,nxO,thenF,List.set_cons_zero,List.set_cons_succ,ev.eq_1,he,h,ev.eq_2,List.getElem?_cons_zero,List.getElem?_cons_succ]
theorem rdS {st:Store} {n:Nat} {o x:Ob} (h:st[n]?=some o):(st.set n x)[n]?=some x:=by
 have:n < st.length:=by
  rcases Nat.lt_or_ge n st.length with h1 | h1
  ·exact h1
  ·rw [List.getElem?_eq_none h1] at h; cases h
 rw [List.getElem?_set_self this]
theorem fill (k n:Nat) (ns:List Int) (hns:ns.length<=1000) (a p:Int) (ha:0<=a) (f:Bool) (st:Store) (h:st[n]?=some (.lst [.lst (ns.map .int),.int a,.int p,.bl f])) :
  ∃ p' f',callT T (k+2) zmJ [.loc n] st=.ok .non (st.set n (.lst [.lst (ns.map .int),.int (a+1),.int p',.bl f'])):=by
 rw [callT,show T zmJ=some zeT from rfl]
 by_cases hn:ns=[]
 ·subst hn
  obtain ⟨q,hq⟩:=mixed k (31 * a+7) (st.set n (.lst [.lst [],.int (a+1),.int p,.bl true]))
  have h':st[n]?=some (.lst [.lst [],.int a,.int p,.bl f]):=h
  refine ⟨q,true,?_⟩
  simp_all! [zeT,xs_cons,xs_nil,x_asg,zjd,x_ite,thenF,nxO,stO,ev.eq_1,ev.eq_2,ev.eq_3,ev.eq_7,ev.eq_8,ev.eq_11,ev.eq_16,ev.eq_18,ev.eq_19,evs,R.fl,R.bind,bindT,List.set_cons_zero,List.set_cons_succ,List.getElem?_cons_zero,List.getElem?_cons_succ,h,rdS h,idxV,idxI,at?,ixI,sizeMax,binV,binI,CMulB,toR,sixV,bltV,lenV,seqOf,cmpV,cmpI,onF,onBl,truV,ha,decide_true,cond_true]
  simp [ha,h',rdS h',hq]
 ·have h0:0 < ns.length:=List.length_pos_iff.2 hn
  have h1:=Int.emod_nonneg a (show (ns.length:Int) ≠ 0 by omega)
  have h2:=Int.emod_lt_of_pos a (show (0:Int) < ns.length by omega)
  have h3:(a % (ns.length:Int)).toNat < ns.length:=by omega
  obtain ⟨v,hv⟩:∃ v,ns[(a % (ns.length:Int)).toNat]?=some v:=⟨_,List.getElem?_eq_getElem h3⟩
  have hw:ns[(a % (ns.length:Int)).toNat]'h3=v:=by rw [List.getElem?_eq_getElem h3] at hv; exact Option.some.inj hv
  have h4:(ns.length:Int) < 10000000000000000000000000000000000000000000000000000000000000000000000:=by omega
  have h5:(0:Int) < ns.length:=by omega
  by_cases hf:(ns.length:Int)<=a \/ 104729 * (a / (ns.length:Int))+v < 1000000000000000000
  ·obtain ⟨q,hq⟩:=mixed k (104729 * (a / (ns.length:Int))+v) (st.set n (.lst [.lst (ns.map .int),.int (a+1),.int p,.bl true]))
   refine ⟨q,true,?_⟩
   rcases Classical.em ((ns.length:Int)<=a) with hg | hg
   ·simp_all! [zeT,xs_cons,xs_nil,x_asg,zjd,x_ite,thenF,nxO,stO,ev.eq_1,ev.eq_2,ev.eq_3,ev.eq_7,ev.eq_8,ev.eq_11,ev.eq_16,ev.eq_18,ev.eq_19,evs,R.fl,R.bind,bindT,List.set_cons_zero,List.set_cons_succ,List.getElem?_cons_zero,List.getElem?_cons_succ,h,rdS h,idxV,idxI,at?,ixI,sizeMax,binV,binI,CMulB,toR,sixV,bltV,lenV,seqOf,cmpV,cmpI,onF,onBl,truV,List.length_map,h5,h1,h2,h4,hg,and_self,decide_true,cond_true,List.getElem?_map,hv,Option.bind_some,Option.map_some]
    simp [h,rdS h,hq,h0,h1,h2,h4,hv,hw,hg]
   ·have hf:=hf.resolve_left hg
    simp_all! [zeT,xs_cons,xs_nil,x_asg,zjd,x_ite,thenF,nxO,stO,ev.eq_1,ev.eq_2,ev.eq_3,ev.eq_7,ev.eq_8,ev.eq_11,ev.eq_16,ev.eq_18,ev.eq_19,evs,R.fl,R.bind,bindT,List.set_cons_zero,List.set_cons_succ,List.getElem?_cons_zero,List.getElem?_cons_succ,h,rdS h,idxV,idxI,at?,ixI,sizeMax,binV,binI,CMulB,toR,sixV,bltV,lenV,seqOf,cmpV,cmpI,onF,onBl,truV,List.length_map,h5,h1,h2,h4,hg,hf,and_self,decide_true,cond_true,List.getElem?_map,hv,Option.bind_some,Option.map_some]
    simp [h,rdS h,hq,h0,h1,h2,h4,hv,hw,hg,hf]
  ·have hg:¬ (ns.length:Int)<=a:=fun z=>hf (.inl z)
   have hf:¬ 104729 * (a / (ns.length:Int))+v < 1000000000000000000:=fun z=>hf (.inr z)
   refine ⟨104729 * (a / (ns.length:Int))+v - 1000000000000000000,false,?_⟩
   simp_all! [zeT,xs_cons,xs_nil,x_asg,zjd,x_ite,thenF,nxO,stO,ev.eq_1,ev.eq_2,ev.eq_3,ev.eq_7,ev.eq_8,ev.eq_11,ev.eq_16,ev.eq_18,ev.eq_19,evs,R.fl,R.bind,bindT,List.set_cons_zero,List.set_cons_succ,List.getElem?_cons_zero,List.getElem?_cons_succ,h,rdS h,idxV,idxI,at?,ixI,sizeMax,binV,binI,CMulB,toR,sixV,bltV,lenV,seqOf,cmpV,cmpI,onF,onBl,truV,List.length_map,h5,h1,h2,h4,hg,hf,and_self,decide_true,cond_true,List.getElem?_map,hv,Option.bind_some,Option.map_some]
   simp [h,rdS h,h0,h1,h2,h4,hv,hw,hg,hf]
noncomputable def takeC:Ce:=match f_qtake.body with
 | .cons _ (.cons (.while c _) _)=>c
 | _=>.nope
noncomputable def takeB:Css:=match f_qtake.body with
 | .cons _ (.cons (.while _ b) _)=>b
 | _=>.nil
theorem zmD {c:Cl} {n:Nat} {ns:List Int} {a p m t:Int} {f:Bool} {u:Option PV} {st:Store} (h:st[n]?=some (.lst [.lst (ns.map .int),.int a,.int p,.bl f])) :
  ∃ B,ev c [some (.loc n),some (.int m),some (.int t),u] st takeC=.ok (.bl B) st/\(B=true->t < 64):=by
 by_cases h1:t < 64
 ·by_cases h2:p=0
  ·refine ⟨true,?_,fun _=>h1⟩
   simp? [takeC,f_qtake,ev.eq_1,ev.eq_3,ev.eq_6,ev.eq_7,ev.eq_8,ev.eq_16,R.bind,h,idxV,idxI,at?,ixI,binV,binI,CMulB,toR,cmpV,cmpI,onBl]
   simp [h1,h2,zeK,peq]
  ·have h2:(p == 0)=false:=by simp [h2]
   cases f
   ·refine ⟨false,?_,fun _=>h1⟩
    simp? [takeC,f_qtake,ev.eq_1,ev.eq_3,ev.eq_6,ev.eq_7,ev.eq_8,ev.eq_16,R.bind,h,idxV,idxI,at?,ixI,binV,binI,CMulB,toR,cmpV,cmpI,onBl]
    simp [h,h1,h2,zeK,peq]
   ·refine ⟨decide (p < m * 4096),?_,fun _=>h1⟩
    simp? [takeC,f_qtake,ev.eq_1,ev.eq_3,ev.eq_6,ev.eq_7,ev.eq_8,ev.eq_16,R.bind,h,idxV,idxI,at?,ixI,binV,binI,CMulB,toR,cmpV,cmpI,onBl]
    simp [h,h1,h2,zeK,peq]
 ·refine ⟨false,?_,fun z=>by cases z⟩
  simp? [takeC,f_qtake,ev.eq_1,ev.eq_3,ev.eq_6,ev.eq_7,ev.eq_8,ev.eq_16,R.bind,h,idxV,idxI,at?,ixI,binV,binI,CMulB,toR,cmpV,cmpI,onBl]
  simp [h1]
theorem znb (k:Nat) {n:Nat} {ns:List Int} (hns:ns.length<=1000) {a p m t:Int} (ha:0<=a) {f:Bool} {u:Option PV} {st:Store} (h:st[n]?=some (.lst [.lst (ns.map .int),.int a,.int p,.bl f])) :
  ∃ p' f',exs (callT T (k+2)) [some (.loc n),some (.int m),some (.int t),u] st takeB=.nx [some (.loc n),some (.int m),some (.int (t+1)),u] (st.set n (.lst [.lst (ns.map .int),.int (a+1),.int p',.bl f'])):=by
 obtain ⟨q,g,hq⟩:=fill k n ns hns a p ha f st h
 have hm:(1+q % 4093).natAbs < 18446744073709551616:=by omega
 have hau:∀ st,ex (callT T (k+2)) [some (.loc n),some (.int m),some (.int t),u] st (.aug 2 .add (.cst (.int 1)))=.nx [some (.loc n),some (.int m),some (.int (t+1)),u] st:=fun st=>by
  rw [zsb (x:=.int t) rfl]
  simp [ev.eq_1,R.fl,augV,binV,binI,nxO]
 cases g
 ·refine ⟨q,false,?_⟩
  simp? [takeB,f_qtake,xs_cons,xs_nil,zfe,x_ite,zjd,hau,thenF,nxO,ev.eq_1,ev.eq_3,ev.eq_6,ev.eq_8,ev.eq_16,ev.eq_18,evs,R.fl,R.bind,hq,augV,binV,binI,Option.map_some,List.set_cons_zero,List.set_cons_succ,rdS h,idxV,idxI,at?,ixI,CMulB,toR,cmpV,cmpI,onBl,onF,truV]
  simp [rdS h]
 ·by_cases hl:q < m * 4096
  ·refine ⟨q+m * 4096 * (1+q % 4093),true,?_⟩
   simp? [takeB,f_qtake,xs_cons,xs_nil,zfe,x_ite,zjd,hau,thenF,nxO,ev.eq_1,ev.eq_3,ev.eq_6,ev.eq_8,ev.eq_16,ev.eq_18,evs,R.fl,R.bind,hq,augV,binV,binI,Option.map_some,List.set_cons_zero,List.set_cons_succ,rdS h,idxV,idxI,at?,ixI,CMulB,toR,cmpV,cmpI,onBl,onF,truV,stO,sixV]
   simp [rdS h,hl,hm]
  ·refine ⟨q,true,?_⟩
   simp? [takeB,f_qtake,xs_cons,xs_nil,zfe,x_ite,zjd,hau,thenF,nxO,ev.eq_1,ev.eq_3,ev.eq_6,ev.eq_8,ev.eq_16,ev.eq_18,evs,R.fl,R.bind,hq,augV,binV,binI,Option.map_some,List.set_cons_zero,List.set_cons_succ,rdS h,idxV,idxI,at?,ixI,CMulB,toR,cmpV,cmpI,onBl,onF,truV]
   simp [rdS h,hl]
theorem zjf (k:Nat) {n:Nat} {ns:List Int} (hns:ns.length<=1000) {m:Int} {u:Option PV}:∀ (r N:Nat) (t a p:Int) (f:Bool) (st:Store),r<=N->64 - t<=r->0<=a->st[n]?=some (.lst [.lst (ns.map .int),.int a,.int p,.bl f]) ->
  ∃ t' a' p' f',0<=a'/\whileB (callT T (k+2)) takeC takeB (N+1) [some (.loc n),some (.int m),some (.int t),u] st=.nx [some (.loc n),some (.int m),some (.int t'),u] (st.set n (.lst [.lst (ns.map .int),.int a',.int p',.bl f']))
 | r,N,t,a,p,f,st,hN,ht,ha,h=>by
  obtain ⟨B,hB,hb⟩:=zmD (c:=callT T (k+2)) (m:=m) (t:=t) (u:=u) h
  have hs:st.set n (.lst [.lst (ns.map .int),.int a,.int p,.bl f])=st:=by
   refine List.ext_getElem? fun i=>?_
   rw [List.getElem?_set]
   split
   ·rename_i e
    subst e
    split
    ·exact h.symm
    ·rename_i z
     rw [List.getElem?_eq_none (by omega)] at h
     cases h
   ·rfl
  cases B with
  | false=>exact ⟨t,a,p,f,ha,by rw [zkI hB rfl,hs]⟩
  | true =>
   have h64:=hb rfl
   match r,N with
   | 0,_=>exact absurd ht (by omega)
   | r+1,N+1 =>
    obtain ⟨p1,f1,hx⟩:=znb k hns (m:=m) (t:=t) ha (u:=u) h
    obtain ⟨t',a',p',f',h0,h2⟩:=zjf k hns (m:=m) (u:=u) r N (t+1) (a+1) p1 f1 _ (by omega) (by omega) (by omega) (rdS h)
    refine ⟨t',a',p',f',h0,?_⟩
    rw [znG hB rfl hx,h2,List.set_set]
theorem take (k n:Nat) (ns:List Int) (hns:ns.length<=1000) (a p m:Int) (ha:0<=a) (hm:0 < m) (hm2:m < 10000000000000000000000000000000000000000000000000000000000000000000000) (f:Bool) (st:Store) (h:st[n]?=some (.lst [.lst (ns.map .int),.int a,.int p,.bl f])) :
  ∃ d a' p' f',0<=d/\d < m/\0<=a'/\callT T (k+3) zdb [.loc n,.int m] st=.ok (.int d) (st.set n (.lst [.lst (ns.map .int),.int a',.int p',.bl f'])):=by
 obtain ⟨t',a',p',f',h0,h2⟩:=zjf k hns (m:=m) (u:=none) 64 99999 0 a p f st (by omega) (by omega) ha h
 refine ⟨p' % m,a',p' / m,f',Int.emod_nonneg _ (by omega),Int.emod_lt_of_pos _ hm,h0,?_⟩
 have hb:f_qtake.body=.cons (.asg (.n 2) (.cst (.int 0))) (.cons (.while takeC takeB) (.cons (.asg (.n 3) (.bin .mod (.idx (.var 0) (.cst (.int 2))) (.var 1))) (.cons (.six (.var 0) (.cst (.int 2)) (.bin .fdiv (.idx (.var 0) (.cst (.int 2))) (.var 1))) (.cons (.ret (.var 3)) .nil)))):=rfl
 have hT:T zdb=some ⟨2,4,false,f_qtake.body⟩:=rfl
 rw [callT,hT,hb]
 simp_all! [xs_cons,xs_nil,x_asg,zqp,zjd,x_ret,thenF,nxO,stO,ev.eq_1,ev.eq_2,ev.eq_3,ev.eq_16,R.fl,R.bind,bindT,List.set_cons_zero,List.set_cons_succ,List.getElem?_cons_zero,List.getElem?_cons_succ,h2,rdS h,idxV,idxI,at?,ixI,binV,binI,hm,hm2,and_self,toR,sixV]
 simp [rdS h,hm,hm2]
def Drw (ns:List Int) (n:Nat) (st:Store):Prop:=∃ a p f,0<=a/\st[n]?=some (.lst [.lst (ns.map .int),.int a,.int p,.bl f])
def Onl (ns:List Int) (n:Nat) (st st':Store):Prop:=∃ a p f,0<=a/\st'=st.set n (.lst [.lst (ns.map .int),.int a,.int p,.bl f])
theorem Onl.drw {ns:List Int} {n:Nat} {st st':Store} (h:Drw ns n st) (o:Onl ns n st st'):Drw ns n st':=by
 obtain ⟨a,p,f,ha,h⟩:=h
 obtain ⟨b,q,g,hb,rfl⟩:=o
 exact ⟨b,q,g,hb,rdS h⟩
theorem Onl.trans {ns:List Int} {n:Nat} {st st1 st2:Store} (o:Onl ns n st st1) (o2:Onl ns n st1 st2):Onl ns n st st2:=by
 obtain ⟨b,q,g,hb,rfl⟩:=o
 obtain ⟨c,r,j,hc,rfl⟩:=o2
 exact ⟨c,r,j,hc,by rw [List.set_set]⟩
theorem takeD (k:Nat) {n:Nat} {ns:List Int} (hns:ns.length<=1000) {m:Int} (hm:0 < m) (hm2:m < 10000000000000000000000000000000000000000000000000000000000000000000000) {st:Store} (h:Drw ns n st) :
  ∃ d st',0<=d/\d < m/\Onl ns n st st'/\callT T (k+3) zdb [.loc n,.int m] st=.ok (.int d) st':=by
 obtain ⟨a,p,f,ha,h⟩:=h
 obtain ⟨d,a',p',f',h1,h2,h3,h4⟩:=take k n ns hns a p m ha hm hm2 f st h
 exact ⟨d,_,h1,h2,⟨_,_,_,h3,rfl⟩,h4⟩
theorem fresh (k:Nat) (ns:List Int) (h:ns.length<=63) (st:Store):∃ v,callT T (k+1) ziD [.scr (ns.map .int)] st=.ok (.loc st.length) (st++[v])/\v=.lst [.lst (ns.map .int),.int 0,.int 0,.bl false]:=by
 have hT:T ziD=some zgL:=rfl
 refine ⟨_,?_,rfl⟩
 rw [callT,hT]
 simp_all! [zgL,xs_cons,xs_nil,x_ret,thenF,ev,evs,R.fl,R.bind,List.getElem?_cons_zero,toR]
 have hc:slcV (.scr (ns.map PV.int)) none (.int 63)=some (.lst (ns.map .int)):=by
  have hk:clampI ns.length 63=ns.length:=by
   show min 63 ns.length=ns.length
   omega
  simp [slcV,optI,slcO,cut,loOf,hiOf,hk]
  try rw [<- List.length_map (f:=PV.int),List.take_length]
 simp [optI,onP,hc,sizeMax]
end WK
namespace WK
open IC
theorem ziC (K:Nat):(0:Int) < 2 ^ K:=Int.pow_pos (by omega)
noncomputable def worthR:Css:=match f_qworth.body with
 | .cons _ (.cons _ (.cons _ r))=>r
 | _=>.nil
noncomputable def wT2:Css:=match worthR with
 | .cons _ (.cons _ (r))=>r
 | _=>.nil
theorem wE2:worthR=(match worthR with
 | .cons q0 (.cons q1 (_))=>.cons q0 (.cons q1 (wT2))
 | _=>.nil):=rfl
noncomputable def wT4:Css:=match worthR with
 | .cons _ (.cons _ (.cons _ (.cons _ (r))))=>r
 | _=>.nil
theorem wE4:worthR=(match worthR with
 | .cons q0 (.cons q1 (.cons q2 (.cons q3 (_))))=>.cons q0 (.cons q1 (.cons q2 (.cons q3 (wT4))))
 | _=>.nil):=rfl
noncomputable def wT5:Css:=match worthR with
 | .cons _ (.cons _ (.cons _ (.cons _ (.cons _ (r)))))=>r
 | _=>.nil
theorem wE5:worthR=(match worthR with
 | .cons q0 (.cons q1 (.cons q2 (.cons q3 (.cons q4 (_)))))=>.cons q0 (.cons q1 (.cons q2 (.cons q3 (.cons q4 (wT5)))))
 | _=>.nil):=rfl
noncomputable def wT6:Css:=match worthR with
 | .cons _ (.cons _ (.cons _ (.cons _ (.cons _ (.cons _ (r))))))=>r
 | _=>.nil
theorem wE6:worthR=(match worthR with
 | .cons q0 (.cons q1 (.cons q2 (.cons q3 (.cons q4 (.cons q5 (_))))))=>.cons q0 (.cons q1 (.cons q2 (.cons q3 (.cons q4 (.cons q5 (wT6))))))
 | _=>.nil):=rfl
theorem zlU {c:Cl} {n:Nat} {w z kd m:Int} {u5 u6 u7 u8 u9 u10 u11 u12:Option PV} {st:Store} (h0:0<=kd) (h6:kd < 6) (hm:16<=m) :
  ∃ x,0<=x/\x < m/\exs c [some (.loc n),some (.int w),some (.int z),some (.int kd),some (.int m),u5,u6,u7,u8,u9,u10,u11,u12] st worthR=.rt (.int x) st:=by
 obtain ⟨x,x0,x1,hv⟩:∃ x:Int,0<=x/\x < m/\∀ st,idxV st (.tup [.int 0,.int 1,.int (m - 1),.int (m / 2),.int (m / 2 - 1),.int (m - 2)]) (.int kd)=some (.int x):=by
  rcases (by omega:kd=0 \/ kd=1 \/ kd=2 \/ kd=3 \/ kd=4 \/ kd=5) with rfl | rfl | rfl | rfl | rfl | rfl
  ·exact ⟨0,by omega,by omega,fun _=>rfl⟩
  ·exact ⟨1,by omega,by omega,fun _=>rfl⟩
  ·exact ⟨m - 1,by omega,by omega,fun _=>rfl⟩
  ·exact ⟨m / 2,by omega,by omega,fun _=>rfl⟩
  ·exact ⟨m / 2 - 1,by omega,by omega,fun _=>rfl⟩
  ·exact ⟨m - 2,by omega,by omega,fun _=>rfl⟩
 refine ⟨x,x0,x1,?_⟩
 rw [wE2]
 dsimp! [worthR,f_qworth,x_asg,x_ite,x_ret,ev.eq_3,ev.eq_8,ev.eq_18,bT_n,nxO_some,th_rt,List.set_cons_zero,List.set_cons_succ,t_bl,on_t,za6,zaP,c_lt,c_eq,c_gt,cond_true,cond_false,hv,h6,decide_true]
theorem zm2 (k:Nat) {n:Nat} {ns:List Int} (hns:ns.length<=1000) {w z kd m:Int} {u5 u6 u7 u8 u9 u10 u11 u12:Option PV} {st:Store} (h:Drw ns n st) (h9:9 < kd) (hm:16<=m) (hm2:m<=18446744073709551616) :
  ∃ x st',0<=x/\x < m/\Onl ns n st st'/\exs (callT T (k+3)) [some (.loc n),some (.int w),some (.int z),some (.int kd),some (.int m),u5,u6,u7,u8,u9,u10,u11,u12] st worthR=.rt (.int x) st':=by
 obtain ⟨d,s1,d1,d2,o1,e1⟩:=takeD k hns (m:=m) (by omega) (by omega) h
 refine ⟨d,s1,d1,d2,o1,?_⟩
 have k1:decide (kd < 6)=false:=decide_eq_false (by omega)
 have k2:(kd == 6)=false:=beq_eq_false_iff_ne.2 (by omega)
 have k3:(kd == 7)=false:=beq_eq_false_iff_ne.2 (by omega)
 rw [wE6]
 dsimp! [worthR,f_qworth,x_asg,x_ite,x_ret,ev.eq_3,ev.eq_8,ev.eq_18,bT_n,nxO_some,th_rt,List.set_cons_zero,List.set_cons_succ,t_bl,on_t,za6,zaP,c_lt,c_eq,c_gt,cond_true,cond_false,e1,h9,decide_true,k1,k2,k3]
theorem zlZ (k:Nat) {n:Nat} {ns:List Int} (hns:ns.length<=1000) {w z kd m:Int} {u5 u6 u7 u8 u9 u10 u11 u12:Option PV} {st:Store} (h:Drw ns n st) (hk:kd=6 \/ kd=7) (hw:4<=w) (hw2:w<=16) (hz:1<=z) (hz2:z<=4) (hm:m=2 ^ (w * z).toNat) :
  ∃ x st',0<=x/\x < m/\Onl ns n st st'/\exs (callT T (k+3)) [some (.loc n),some (.int w),some (.int z),some (.int kd),some (.int m),u5,u6,u7,u8,u9,u10,u11,u12] st worthR=.rt (.int x) st':=by
 have hwz:4<=w * z:=by
  have:=Int.mul_le_mul hw hz (by omega) (by omega); omega
 have hwz2:w * z<=64:=by
  have:=Int.mul_le_mul hw2 hz2 (by omega) (by omega); omega
 have hm1:0 < m:=hm ▸ ziC _
 have hm2:m<=18446744073709551616:=by
  have h64:(2:Nat) ^ (w * z).toNat<=2 ^ 64:=Nat.pow_le_pow_right (by omega) (by omega)
  have h65:((2 ^ (w * z).toNat:Nat):Int)=2 ^ (w * z).toNat:=by simp
  rw [hm,<- h65]
  omega
 obtain ⟨d,s1,d1,d2,o1,e1⟩:=takeD k hns (m:=m) (by omega) (by omega) h
 obtain ⟨e,s2,d3,d4,o2,e2⟩:=takeD k hns (m:=w * z) (by omega) (by omega) (o1.drw h)
 have hj:(2:Int) ^ e.toNat < m:=by
  rw [hm]; exact Int.pow_lt_pow_of_lt (by omega) (by omega)
 have hj1:=ziC e.toNat
 have hj2:(2:Int) ^ e.toNat < 10000000000000000000000000000000000000000000000000000000000000000000000:=by omega
 have hj3:((2:Int) ^ e.toNat).natAbs < 18446744073709551616:=by omega
 have hj4:(2:Nat) ^ e.toNat < 18446744073709551616:=by
  have h65:((2 ^ e.toNat:Nat):Int)=2 ^ e.toNat:=by simp
  omega
 have hwa:w.natAbs < 18446744073709551616:=by omega
 have hea:e.natAbs < 1000000000:=by omega
 rcases hk with rfl | rfl
 ·obtain ⟨u,hd,_⟩:=dbl (call:=callT T (k+3)) (i:=8) (j:=5) (by omega) e.toNat 0 [some (.loc n),some (.int w),some (.int z),some (.int 6),some (.int m),u5,some (.tup [.int 0,.int 1,.int (m - 1),.int (m / 2),.int (m / 2 - 1),.int (m - 2)]),some (.int d),some (.int 1),u9,u10,u11,u12] 1 s2 rfl
  refine ⟨d / 2 ^ e.toNat * 2 ^ e.toNat,s2,Int.mul_nonneg (Int.ediv_nonneg d1 (by omega)) (by omega),Int.lt_of_le_of_lt (Int.ediv_mul_le d (by omega)) d2,o1.trans o2,?_⟩
  rw [wE4]
  simp? [worthR,f_qworth,xs_cons,xs_nil,x_asg,x_ite,x_ret,zbR,evi,rng1,toL,thenF,nxO,ev.eq_1,ev.eq_3,ev.eq_8,ev.eq_11,ev.eq_16,ev.eq_18,evs,R.fl,R.bind,bindT,List.set_cons_zero,List.set_cons_succ,idxV,idxI,at?,ixI,binV,binI,toR,cmpV,cmpI,onF,truV,CMulB,e1,e2]
  simp [sizeMax,zeK,peq,e1,e2,hwa,hea,hd,hj1,hj2,hj3,hj4]
 ·obtain ⟨u,hd,_⟩:=dbl (call:=callT T (k+3)) (i:=8) (j:=5) (by omega) e.toNat 0 [some (.loc n),some (.int w),some (.int z),some (.int 7),some (.int m),u5,some (.tup [.int 0,.int 1,.int (m - 1),.int (m / 2),.int (m / 2 - 1),.int (m - 2)]),some (.int d),some (.int 1),u9,u10,u11,u12] 1 s2 rfl
  refine ⟨m - 2 ^ e.toNat,s2,by omega,by omega,o1.trans o2,?_⟩
  rw [wE5]
  simp? [worthR,f_qworth,xs_cons,xs_nil,x_asg,x_ite,x_ret,zbR,evi,rng1,toL,thenF,nxO,ev.eq_1,ev.eq_3,ev.eq_8,ev.eq_11,ev.eq_16,ev.eq_18,evs,R.fl,R.bind,bindT,List.set_cons_zero,List.set_cons_succ,idxV,idxI,at?,ixI,binV,binI,toR,cmpV,cmpI,onF,truV,CMulB,e1,e2]
  simp [sizeMax,zeK,peq,e1,e2,hwa,hea,hd,hj1,hj2,hj3,hj4]
end WK
namespace WK
open IC PySem
abbrev cQ (a b:Str) (r:Bool):Prop:=cmpV .eq (.str a) (.str b)=some (.bl r)
theorem zjM:cQ "mark" "mark" true:=by with_unfolding_all rfl
theorem zkq:cQ "ask" "mark" false:=by with_unfolding_all rfl
theorem zl3:cQ "ask" "ask" true:=by with_unfolding_all rfl
theorem zkl:cQ "set" "mark" false:=by with_unfolding_all rfl
theorem zlO:cQ "set" "ask" false:=by with_unfolding_all rfl
theorem zlV:cQ "set" "set" true:=by with_unfolding_all rfl
theorem zgn:cQ "move" "mark" false:=by with_unfolding_all rfl
theorem zg8:cQ "move" "ask" false:=by with_unfolding_all rfl
theorem zhy:cQ "move" "set" false:=by with_unfolding_all rfl
theorem zgl:cQ "move" "move" true:=by with_unfolding_all rfl
theorem zgi:cQ "move" "bare" false:=by with_unfolding_all rfl
theorem ze3:cQ "move" "twice" false:=by with_unfolding_all rfl
theorem zf2:cQ "move" "half" false:=by with_unfolding_all rfl
theorem zf6:cQ "bare" "mark" false:=by with_unfolding_all rfl
theorem zhE:cQ "bare" "ask" false:=by with_unfolding_all rfl
theorem zhf:cQ "bare" "set" false:=by with_unfolding_all rfl
theorem zgd:cQ "bare" "move" false:=by with_unfolding_all rfl
theorem zgh:cQ "bare" "bare" true:=by with_unfolding_all rfl
theorem zfg:cQ "bare" "twice" false:=by with_unfolding_all rfl
theorem zgg:cQ "bare" "half" false:=by with_unfolding_all rfl
theorem zfx:cQ "twice" "mark" false:=by with_unfolding_all rfl
theorem zf3:cQ "twice" "ask" false:=by with_unfolding_all rfl
theorem zf7:cQ "twice" "set" false:=by with_unfolding_all rfl
theorem zfz:cQ "twice" "move" false:=by with_unfolding_all rfl
theorem zfh:cQ "twice" "bare" false:=by with_unfolding_all rfl
theorem zeB:cQ "twice" "twice" true:=by with_unfolding_all rfl
theorem zfD:cQ "twice" "half" false:=by with_unfolding_all rfl
theorem zgm:cQ "half" "mark" false:=by with_unfolding_all rfl
theorem zhi:cQ "half" "ask" false:=by with_unfolding_all rfl
theorem zhu:cQ "half" "set" false:=by with_unfolding_all rfl
theorem zf4:cQ "half" "move" false:=by with_unfolding_all rfl
theorem zgj:cQ "half" "bare" false:=by with_unfolding_all rfl
theorem zfy:cQ "half" "twice" false:=by with_unfolding_all rfl
theorem zgf:cQ "half" "half" true:=by with_unfolding_all rfl
theorem zky:cQ "sum" "mark" false:=by with_unfolding_all rfl
theorem zlT:cQ "sum" "ask" false:=by with_unfolding_all rfl
theorem zlE:cQ "sum" "set" false:=by with_unfolding_all rfl
theorem zjs:cQ "sum" "times" false:=by with_unfolding_all rfl
theorem zlD:cQ "sum" "sum" true:=by with_unfolding_all rfl
theorem zjK:cQ "less" "mark" false:=by with_unfolding_all rfl
theorem zkg:cQ "less" "ask" false:=by with_unfolding_all rfl
theorem zkv:cQ "less" "set" false:=by with_unfolding_all rfl
theorem zi8:cQ "less" "times" false:=by with_unfolding_all rfl
theorem zkP:cQ "less" "sum" false:=by with_unfolding_all rfl
theorem zjh:cQ "less" "less" true:=by with_unfolding_all rfl
theorem zjI:cQ "both" "mark" false:=by with_unfolding_all rfl
theorem zkN:cQ "both" "ask" false:=by with_unfolding_all rfl
theorem zkG:cQ "both" "set" false:=by with_unfolding_all rfl
theorem zi3:cQ "both" "times" false:=by with_unfolding_all rfl
theorem zku:cQ "both" "sum" false:=by with_unfolding_all rfl
theorem zje:cQ "both" "less" false:=by with_unfolding_all rfl
theorem zjR:cQ "both" "both" true:=by with_unfolding_all rfl
theorem zkK:cQ "both" "any" false:=by with_unfolding_all rfl
theorem zkC:cQ "both" "odd" false:=by with_unfolding_all rfl
theorem zkz:cQ "any" "mark" false:=by with_unfolding_all rfl
theorem zlG:cQ "any" "ask" false:=by with_unfolding_all rfl
theorem zlA:cQ "any" "set" false:=by with_unfolding_all rfl
theorem zjA:cQ "any" "times" false:=by with_unfolding_all rfl
theorem zlP:cQ "any" "sum" false:=by with_unfolding_all rfl
theorem zkr:cQ "any" "less" false:=by with_unfolding_all rfl
theorem zkH:cQ "any" "both" false:=by with_unfolding_all rfl
theorem zly:cQ "any" "any" true:=by with_unfolding_all rfl
theorem zl9:cQ "any" "odd" false:=by with_unfolding_all rfl
theorem zkp:cQ "odd" "mark" false:=by with_unfolding_all rfl
theorem zlN:cQ "odd" "ask" false:=by with_unfolding_all rfl
theorem zma:cQ "odd" "set" false:=by with_unfolding_all rfl
theorem zjy:cQ "odd" "times" false:=by with_unfolding_all rfl
theorem zlX:cQ "odd" "sum" false:=by with_unfolding_all rfl
theorem zkf:cQ "odd" "less" false:=by with_unfolding_all rfl
theorem zkB:cQ "odd" "both" false:=by with_unfolding_all rfl
theorem zlJ:cQ "odd" "any" false:=by with_unfolding_all rfl
theorem zlz:cQ "odd" "odd" true:=by with_unfolding_all rfl
theorem mok {st:Store} {n L:Nat} {M:Mem} (h:Dc st n M L):mthOk .get st (.loc n)=some true:=by
 obtain ⟨kvs,h1,h2,h3,h4⟩:=h
 simp [mthOk,dctOf,h1]
theorem zlc:T zkn=some zbC:=rfl
theorem len3 {a b c:PV} {st:Store} {k:Bool}:bltV .len st [.tp k [a,b,c]]=some (.int 3):=rfl
theorem len4 {a b c d:PV} {st:Store} {k:Bool}:bltV .len st [.tp k [a,b,c,d]]=some (.int 4):=rfl
theorem c33:cmpV .eq (.int 3) (.int 3)=some (.bl true):=rfl
theorem c43:cmpV .eq (.int 4) (.int 3)=some (.bl false):=rfl
def Done (k n:Nat) (st:Store) (M:Mem) (L:Nat) (W m:Int) (r:Rw):Prop:=∃ st',callT T (k+2) zfU [.loc n,.int m,rowV r,.int W] st=.ok (.int (stepM W M m r).2) st'/\(∃ o,st'=st.set n o)/\Dc st' n (stepM W M m r).1 (L+1)
theorem ziX {st:Store} {n L:Nat} {M:Mem} (h:Dc st n M L):∃ o,st=st.set n o:=by
 obtain ⟨kvs,h1,_⟩:=h
 exact ⟨_,zk9 h1⟩
theorem zmY {st:Store} {n L:Nat} {M:Mem} (h:Dc st n M L):Dc st n M (L+1):=by
 obtain ⟨kvs,h1,h2,h3,h4⟩:=h
 exact ⟨kvs,h1,h2,h3,by omega⟩
noncomputable def tlQ1:Css:=match f_qdone.body with
 | .cons _ (r)=>r
 | _=>.nil
theorem htQ1:T zfU=some ⟨f_qdone.np,f_qdone.ns,f_qdone.pure,match f_qdone.body with
 | .cons q0 (_)=>.cons q0 (tlQ1)
 | _=>.nil⟩:=rfl
noncomputable def tlQ2:Css:=match f_qdone.body with
 | .cons _ (.cons _ (r))=>r
 | _=>.nil
theorem htQ2:T zfU=some ⟨f_qdone.np,f_qdone.ns,f_qdone.pure,match f_qdone.body with
 | .cons q0 (.cons q1 (_))=>.cons q0 (.cons q1 (tlQ2))
 | _=>.nil⟩:=rfl
noncomputable def tlQ3:Css:=match f_qdone.body with
 | .cons _ (.cons _ (.cons _ (r)))=>r
 | _=>.nil
theorem htQ3:T zfU=some ⟨f_qdone.np,f_qdone.ns,f_qdone.pure,match f_qdone.body with
 | .cons q0 (.cons q1 (.cons q2 (_)))=>.cons q0 (.cons q1 (.cons q2 (tlQ3)))
 | _=>.nil⟩:=rfl
noncomputable def tlQ4:Css:=match f_qdone.body with
 | .cons _ (.cons _ (.cons _ (.cons _ (r))))=>r
 | _=>.nil
theorem htQ4:T zfU=some ⟨f_qdone.np,f_qdone.ns,f_qdone.pure,match f_qdone.body with
 | .cons q0 (.cons q1 (.cons q2 (.cons q3 (_))))=>.cons q0 (.cons q1 (.cons q2 (.cons q3 (tlQ4))))
 | _=>.nil⟩:=rfl
noncomputable def bdQ:Css:=f_qdone.body
theorem htQ:T zfU=some ⟨4,7,false,bdQ⟩:=rfl
noncomputable def tlQ7:Css:=match f_qdone.body with
 | .cons _ (.cons _ (.cons _ (.cons _ (.cons _ (.cons _ (.cons _ (r)))))))=>r
 | _=>.nil
noncomputable def tlQ8:Css:=match f_qdone.body with
 | .cons _ (.cons _ (.cons _ (.cons _ (.cons _ (.cons _ (.cons _ (.cons _ (r))))))))=>r
 | _=>.nil
noncomputable def tlQ9:Css:=match f_qdone.body with
 | .cons _ (.cons _ (.cons _ (.cons _ (.cons _ (.cons _ (.cons _ (.cons _ (.cons _ (r)))))))))=>r
 | _=>.nil
theorem eqQ7:bdQ=(match f_qdone.body with
 | .cons q0 (.cons q1 (.cons q2 (.cons q3 (.cons q4 (.cons q5 (.cons q6 (_)))))))=>.cons q0 (.cons q1 (.cons q2 (.cons q3 (.cons q4 (.cons q5 (.cons q6 (tlQ7)))))))
 | _=>.nil):=rfl
theorem eqQ8:tlQ7=(match f_qdone.body with
 | .cons _ (.cons _ (.cons _ (.cons _ (.cons _ (.cons _ (.cons _ (.cons q7 _)))))))=>.cons q7 tlQ8
 | _=>.nil):=rfl
theorem eqQ9:tlQ7=(match f_qdone.body with
 | .cons _ (.cons _ (.cons _ (.cons _ (.cons _ (.cons _ (.cons _ (.cons q7 (.cons q8 _))))))))=>.cons q7 (.cons q8 tlQ9)
 | _=>.nil):=rfl
theorem preQ {c:Cl} {n:Nat} {st:Store} {M:Mem} {L:Nat} {W m:Int} (h:Dc st n M L) (t x y:Cel) {a:Str} (h1:cmpV .eq (.str a) (.str "mark")=some (.bl false)) (h2:cmpV .eq (.str a) (.str "ask")=some (.bl false)) (h3:cmpV .eq (.str a) (.str "set")=some (.bl false)) (h4:cmpV .eq (.str a) (.str "times")=some (.bl false)) :
  exs c [some (.loc n),some (.int m),some (.tup [.str a,cellV t.1 t.2,cellV x.1 x.2,cellV y.1 y.2]),some (.int W),none,none,none] st bdQ=exs c [some (.loc n),some (.int m),some (.tup [.str a,cellV t.1 t.2,cellV x.1 x.2,cellV y.1 y.2]),some (.int W),none,some (.int (M x.1 x.2)),some (.int (M y.1 y.2))] st tlQ7:=by
 have gx:=zaH h x.1 x.2
 have gy:=zaH h y.1 y.2
 rw [eqQ7]
 simp! [f_qdone,zb4,zaG,ev.eq_3,ev.eq_16,ev.eq_19,ev.eq_20,ix0,ix1,ix2,ix3,ono,mget,zbP,za6,zbv,zaP,zbu,zdZ,b_or,zd3,c_ne,c_lt,za3,zbW,cond_true,cond_false,Bool.false_eq_true,if_false,h1,h2,h3,h4,gx,gy,mok h,c33,c43,len3,len4]
theorem zmU (k:Nat) {n:Nat} {st:Store} {M:Mem} {L:Nat} {W m:Int} (h:Dc st n M L) (hL:L < 999999) (hW:0 < W) (hW2:W < 18446744073709551616) (d:Int):Done k n st M L W m (.mark d):=by
 have hW3:W < 18446744073709551616 * 18446744073709551616:=by omega
 have hW4:(W / 2).natAbs < 18446744073709551616:=by omega
 refine ⟨st,?_,ziX h,zmY h⟩
 rw [callT,htQ1]
 simp! [f_qdone,rowV,celV,zb4,zaG,ev.eq_3,ev.eq_16,ev.eq_19,ev.eq_20,ix0,ix1,ix2,ix3,ono,mget,zbP,za6,zbv,zaP,zbu,zdZ,b_or,zd3,c_ne,c_lt,za3,zbW,cond_true,cond_false,Bool.false_eq_true,if_false,zjM,mok h,zb5 hW,zch hW hW3,zaV hW4,c33,c43,len3,len4]
 first | rfl | (simp only [stepM,rd]; done)
theorem zot (k:Nat) {n:Nat} {st:Store} {M:Mem} {L:Nat} {W m:Int} (h:Dc st n M L) (hL:L < 999999) (hW:0 < W) (hW2:W < 18446744073709551616) (x:Cel):Done k n st M L W m (.ask x):=by
 have hW3:W < 18446744073709551616 * 18446744073709551616:=by omega
 have hW4:(W / 2).natAbs < 18446744073709551616:=by omega
 refine ⟨st,?_,ziX h,zmY h⟩
 have gx:=zaH h x.1 x.2
 rw [callT,htQ2]
 simp! [f_qdone,rowV,celV,zb4,zaG,ev.eq_3,ev.eq_16,ev.eq_19,ev.eq_20,ix0,ix1,ix2,ix3,ono,mget,zbP,za6,zbv,zaP,zbu,zdZ,b_or,zd3,c_ne,c_lt,za3,zbW,cond_true,cond_false,Bool.false_eq_true,if_false,zkq,zl3,gx,mok h,zb5 hW,zch hW hW3,zaV hW4,c33,c43,len3,len4]
 first | rfl | (simp only [stepM,rd]; done)
theorem zn8 (k:Nat) {n:Nat} {st:Store} {M:Mem} {L:Nat} {W m:Int} (h:Dc st n M L) (hL:L < 999999) (hW:0 < W) (hW2:W < 18446744073709551616) (t:Cel) (d:Int):Done k n st M L W m (.set t d):=by
 have hW3:W < 18446744073709551616 * 18446744073709551616:=by omega
 have hW4:(W / 2).natAbs < 18446744073709551616:=by omega
 obtain ⟨kvs,hp,hd⟩:=zbZ h hL t.1 t.2 (d)
 refine ⟨_,?_,⟨_,rfl⟩,hd⟩
 rw [callT,htQ3]
 simp! [f_qdone,rowV,celV,zb4,zaG,ev.eq_3,ev.eq_16,ev.eq_19,ev.eq_20,ix0,ix1,ix2,ix3,ono,mget,zbP,za6,zbv,zaP,zbu,zdZ,b_or,zd3,c_ne,c_lt,za3,zbW,cond_true,cond_false,Bool.false_eq_true,if_false,zkl,zlO,zlV,hp,mok h,zb5 hW,zch hW hW3,zaV hW4,c33,c43,len3,len4]
 first | rfl | (simp only [stepM,rd]; done)
theorem znz (k:Nat) {n:Nat} {st:Store} {M:Mem} {L:Nat} {W m:Int} (h:Dc st n M L) (hL:L < 999999) (hW:0 < W) (hW2:W < 18446744073709551616) (t x:Cel):Done k n st M L W m (.move t x):=by
 have hW3:W < 18446744073709551616 * 18446744073709551616:=by omega
 have hW4:(W / 2).natAbs < 18446744073709551616:=by omega
 obtain ⟨kvs,hp,hd⟩:=zbZ h hL t.1 t.2 (M x.1 x.2)
 refine ⟨_,?_,⟨_,rfl⟩,hd⟩
 have gx:=zaH h x.1 x.2
 rw [callT,htQ4]
 simp! [f_qdone,rowV,celV,zb4,zaG,ev.eq_3,ev.eq_16,ev.eq_19,ev.eq_20,ix0,ix1,ix2,ix3,ono,mget,zbP,za6,zbv,zaP,zbu,zdZ,b_or,zd3,c_ne,c_lt,za3,zbW,cond_true,cond_false,Bool.false_eq_true,if_false,zgn,zg8,zhy,zgl,zgi,ze3,zf2,gx,hp,mok h,zb5 hW,zch hW hW3,zaV hW4,c33,c43,len3,len4]
 rw [callT,zlc]
 simp! [zbC,zb4,zaG,ev.eq_3,ev.eq_16,ev.eq_19,ev.eq_20,ix0,ix1,ix2,ix3,ono,mget,zbP,za6,zbv,zaP,zbu,zdZ,b_or,zd3,c_ne,c_lt,za3,zbW,cond_true,cond_false,Bool.false_eq_true,if_false,zgn,zg8,zhy,zgl,zgi,ze3,zf2,gx,hp,mok h,zb5 hW,zch hW hW3,zaV hW4,c33,c43,len3,len4]
 first | rfl | (simp only [stepM,rd]; done)
theorem znN (k:Nat) {n:Nat} {st:Store} {M:Mem} {L:Nat} {W m:Int} (h:Dc st n M L) (hL:L < 999999) (hW:0 < W) (hW2:W < 18446744073709551616) (t x:Cel):Done k n st M L W m (.bare t x):=by
 have hW3:W < 18446744073709551616 * 18446744073709551616:=by omega
 have hW4:(W / 2).natAbs < 18446744073709551616:=by omega
 obtain ⟨kvs,hp,hd⟩:=zbZ h hL t.1 t.2 (W - 1 - M x.1 x.2)
 refine ⟨_,?_,⟨_,rfl⟩,hd⟩
 have gx:=zaH h x.1 x.2
 rw [callT,htQ4]
 simp! [f_qdone,rowV,celV,zb4,zaG,ev.eq_3,ev.eq_16,ev.eq_19,ev.eq_20,ix0,ix1,ix2,ix3,ono,mget,zbP,za6,zbv,zaP,zbu,zdZ,b_or,zd3,c_ne,c_lt,za3,zbW,cond_true,cond_false,Bool.false_eq_true,if_false,zf6,zhE,zhf,zgd,zgh,zfg,zgg,gx,hp,mok h,zb5 hW,zch hW hW3,zaV hW4,c33,c43,len3,len4]
 rw [callT,zlc]
 simp! [zbC,zb4,zaG,ev.eq_3,ev.eq_16,ev.eq_19,ev.eq_20,ix0,ix1,ix2,ix3,ono,mget,zbP,za6,zbv,zaP,zbu,zdZ,b_or,zd3,c_ne,c_lt,za3,zbW,cond_true,cond_false,Bool.false_eq_true,if_false,zf6,zhE,zhf,zgd,zgh,zfg,zgg,gx,hp,mok h,zb5 hW,zch hW hW3,zaV hW4,c33,c43,len3,len4]
 first | rfl | (simp only [stepM,rd]; done)
theorem zl5 (k:Nat) {n:Nat} {st:Store} {M:Mem} {L:Nat} {W m:Int} (h:Dc st n M L) (hL:L < 999999) (hW:0 < W) (hW2:W < 18446744073709551616) (t x:Cel):Done k n st M L W m (.twice t x):=by
 have hW3:W < 18446744073709551616 * 18446744073709551616:=by omega
 have hW4:(W / 2).natAbs < 18446744073709551616:=by omega
 obtain ⟨kvs,hp,hd⟩:=zbZ h hL t.1 t.2 ((2 * M x.1 x.2+m) % W)
 refine ⟨_,?_,⟨_,rfl⟩,hd⟩
 have gx:=zaH h x.1 x.2
 rw [callT,htQ4]
 simp! [f_qdone,rowV,celV,zb4,zaG,ev.eq_3,ev.eq_16,ev.eq_19,ev.eq_20,ix0,ix1,ix2,ix3,ono,mget,zbP,za6,zbv,zaP,zbu,zdZ,b_or,zd3,c_ne,c_lt,za3,zbW,cond_true,cond_false,Bool.false_eq_true,if_false,zfx,zf3,zf7,zfz,zfh,zeB,zfD,gx,hp,mok h,zb5 hW,zch hW hW3,zaV hW4,c33,c43,len3,len4]
 rw [callT,zlc]
 simp! [zbC,zb4,zaG,ev.eq_3,ev.eq_16,ev.eq_19,ev.eq_20,ix0,ix1,ix2,ix3,ono,mget,zbP,za6,zbv,zaP,zbu,zdZ,b_or,zd3,c_ne,c_lt,za3,zbW,cond_true,cond_false,Bool.false_eq_true,if_false,zfx,zf3,zf7,zfz,zfh,zeB,zfD,gx,hp,mok h,zb5 hW,zch hW hW3,zaV hW4,c33,c43,len3,len4]
 first | rfl | (simp only [stepM,rd]; done)
theorem zm6 (k:Nat) {n:Nat} {st:Store} {M:Mem} {L:Nat} {W m:Int} (h:Dc st n M L) (hL:L < 999999) (hW:0 < W) (hW2:W < 18446744073709551616) (t x:Cel):Done k n st M L W m (.half t x):=by
 have hW3:W < 18446744073709551616 * 18446744073709551616:=by omega
 have hW4:(W / 2).natAbs < 18446744073709551616:=by omega
 obtain ⟨kvs,hp,hd⟩:=zbZ h hL t.1 t.2 (M x.1 x.2 / 2+m * (W / 2))
 refine ⟨_,?_,⟨_,rfl⟩,hd⟩
 have gx:=zaH h x.1 x.2
 rw [callT,htQ4]
 simp! [f_qdone,rowV,celV,zb4,zaG,ev.eq_3,ev.eq_16,ev.eq_19,ev.eq_20,ix0,ix1,ix2,ix3,ono,mget,zbP,za6,zbv,zaP,zbu,zdZ,b_or,zd3,c_ne,c_lt,za3,zbW,cond_true,cond_false,Bool.false_eq_true,if_false,zgm,zhi,zhu,zf4,zgj,zfy,zgf,gx,hp,mok h,zb5 hW,zch hW hW3,zaV hW4,c33,c43,len3,len4]
 rw [callT,zlc]
 simp! [zbC,zb4,zaG,ev.eq_3,ev.eq_16,ev.eq_19,ev.eq_20,ix0,ix1,ix2,ix3,ono,mget,zbP,za6,zbv,zaP,zbu,zdZ,b_or,zd3,c_ne,c_lt,za3,zbW,cond_true,cond_false,Bool.false_eq_true,if_false,zgm,zhi,zhu,zf4,zgj,zfy,zgf,gx,hp,mok h,zb5 hW,zch hW hW3,zaV hW4,c33,c43,len3,len4]
 first | rfl | (simp only [stepM,rd]; done)
theorem zn7 (k:Nat) {n:Nat} {st:Store} {M:Mem} {L:Nat} {W m:Int} (h:Dc st n M L) (hL:L < 999999) (hW:0 < W) (hW2:W < 18446744073709551616) (t x y:Cel):Done k n st M L W m (.sum t x y):=by
 have hW3:W < 18446744073709551616 * 18446744073709551616:=by omega
 have hW4:(W / 2).natAbs < 18446744073709551616:=by omega
 obtain ⟨kvs,hp,hd⟩:=zbZ h hL t.1 t.2 ((M x.1 x.2+M y.1 y.2+m) % W)
 refine ⟨_,?_,⟨_,rfl⟩,hd⟩
 have gx:=zaH h x.1 x.2
 have gy:=zaH h y.1 y.2
 rw [callT,htQ]
 simp! [preQ h t x y zky zlT zlE zjs,eqQ8,f_qdone,rowV,celV,zb4,zaG,ev.eq_3,ev.eq_16,ev.eq_19,ev.eq_20,ix0,ix1,ix2,ix3,ono,mget,zbP,za6,zbv,zaP,zbu,zdZ,b_or,zd3,c_ne,c_lt,za3,zbW,cond_true,cond_false,Bool.false_eq_true,if_false,zlD,gx,gy,hp,mok h,zb5 hW,zch hW hW3,zaV hW4,c33,c43,len3,len4]
 first | rfl | (simp only [stepM,rd]; done)
theorem znS (k:Nat) {n:Nat} {st:Store} {M:Mem} {L:Nat} {W m:Int} (h:Dc st n M L) (hL:L < 999999) (hW:0 < W) (hW2:W < 18446744073709551616) (t x y:Cel):Done k n st M L W m (.less t x y):=by
 have hW3:W < 18446744073709551616 * 18446744073709551616:=by omega
 have hW4:(W / 2).natAbs < 18446744073709551616:=by omega
 obtain ⟨kvs,hp,hd⟩:=zbZ h hL t.1 t.2 ((M x.1 x.2 - M y.1 y.2 - m) % W)
 refine ⟨_,?_,⟨_,rfl⟩,hd⟩
 have gx:=zaH h x.1 x.2
 have gy:=zaH h y.1 y.2
 rw [callT,htQ]
 simp! [preQ h t x y zjK zkg zkv zi8,eqQ9,f_qdone,rowV,celV,zb4,zaG,ev.eq_3,ev.eq_16,ev.eq_19,ev.eq_20,ix0,ix1,ix2,ix3,ono,mget,zbP,za6,zbv,zaP,zbu,zdZ,b_or,zd3,c_ne,c_lt,za3,zbW,cond_true,cond_false,Bool.false_eq_true,if_false,zkP,zjh,gx,gy,hp,mok h,zb5 hW,zch hW hW3,zaV hW4,c33,c43,len3,len4]
 first | rfl | (simp only [stepM,rd]; done)
theorem zmS (k:Nat) {n:Nat} {st:Store} {M:Mem} {L:Nat} {W m:Int} (h:Dc st n M L) (hL:L < 999999) (hW:0 < W) (hW2:W < 18446744073709551616) (t x y:Cel):Done k n st M L W m (.both t x y):=by
 have hW3:W < 18446744073709551616 * 18446744073709551616:=by omega
 have hW4:(W / 2).natAbs < 18446744073709551616:=by omega
 obtain ⟨kvs,hp,hd⟩:=zbZ h hL t.1 t.2 (Builtin.bitAnd (M x.1 x.2) (M y.1 y.2))
 refine ⟨_,?_,⟨_,rfl⟩,hd⟩
 have gx:=zaH h x.1 x.2
 have gy:=zaH h y.1 y.2
 rw [callT,htQ]
 simp! [preQ h t x y zjI zkN zkG zi3,tlQ7,f_qdone,rowV,celV,zb4,zaG,ev.eq_3,ev.eq_16,ev.eq_19,ev.eq_20,ix0,ix1,ix2,ix3,ono,mget,zbP,za6,zbv,zaP,zbu,zdZ,b_or,zd3,c_ne,c_lt,za3,zbW,cond_true,cond_false,Bool.false_eq_true,if_false,zku,zje,zjR,zkK,zkC,gx,gy,hp,mok h,zb5 hW,zch hW hW3,zaV hW4,c33,c43,len3,len4]
 first | rfl | (simp only [stepM,rd]; done)
theorem zoQ (k:Nat) {n:Nat} {st:Store} {M:Mem} {L:Nat} {W m:Int} (h:Dc st n M L) (hL:L < 999999) (hW:0 < W) (hW2:W < 18446744073709551616) (t x y:Cel):Done k n st M L W m (.any t x y):=by
 have hW3:W < 18446744073709551616 * 18446744073709551616:=by omega
 have hW4:(W / 2).natAbs < 18446744073709551616:=by omega
 obtain ⟨kvs,hp,hd⟩:=zbZ h hL t.1 t.2 (Builtin.bitOr (M x.1 x.2) (M y.1 y.2))
 refine ⟨_,?_,⟨_,rfl⟩,hd⟩
 have gx:=zaH h x.1 x.2
 have gy:=zaH h y.1 y.2
 rw [callT,htQ]
 simp! [preQ h t x y zkz zlG zlA zjA,tlQ7,f_qdone,rowV,celV,zb4,zaG,ev.eq_3,ev.eq_16,ev.eq_19,ev.eq_20,ix0,ix1,ix2,ix3,ono,mget,zbP,za6,zbv,zaP,zbu,zdZ,b_or,zd3,c_ne,c_lt,za3,zbW,cond_true,cond_false,Bool.false_eq_true,if_false,zlP,zkr,zkH,zly,zl9,gx,gy,hp,mok h,zb5 hW,zch hW hW3,zaV hW4,c33,c43,len3,len4]
 first | rfl | (simp only [stepM,rd]; done)
theorem zom (k:Nat) {n:Nat} {st:Store} {M:Mem} {L:Nat} {W m:Int} (h:Dc st n M L) (hL:L < 999999) (hW:0 < W) (hW2:W < 18446744073709551616) (t x y:Cel):Done k n st M L W m (.odd t x y):=by
 have hW3:W < 18446744073709551616 * 18446744073709551616:=by omega
 have hW4:(W / 2).natAbs < 18446744073709551616:=by omega
 obtain ⟨kvs,hp,hd⟩:=zbZ h hL t.1 t.2 (Builtin.bitXor (M x.1 x.2) (M y.1 y.2))
 refine ⟨_,?_,⟨_,rfl⟩,hd⟩
 have gx:=zaH h x.1 x.2
 have gy:=zaH h y.1 y.2
 rw [callT,htQ]
 simp! [preQ h t x y zkp zlN zma zjy,tlQ7,f_qdone,rowV,celV,zb4,zaG,ev.eq_3,ev.eq_16,ev.eq_19,ev.eq_20,ix0,ix1,ix2,ix3,ono,mget,zbP,za6,zbv,zaP,zbu,zdZ,b_or,zd3,c_ne,c_lt,za3,zbW,cond_true,cond_false,Bool.false_eq_true,if_false,zlX,zkf,zkB,zlJ,zlz,gx,gy,hp,mok h,zb5 hW,zch hW hW3,zaV hW4,c33,c43,len3,len4]
 first | rfl | (simp only [stepM,rd]; done)
theorem zqd (k:Nat) {n:Nat} {st:Store} {M:Mem} {L:Nat} {W m:Int} (h:Dc st n M L) (hL:L < 999999) (hW:0 < W) (hW2:W < 18446744073709551616) (r:Rw):Done k n st M L W m r:=by
 cases r
 ·exact zmU k h hL hW hW2 _
 ·exact zot k h hL hW hW2 _
 ·exact zn8 k h hL hW hW2 _ _
 ·exact znz k h hL hW hW2 _ _
 ·exact znN k h hL hW hW2 _ _
 ·exact zl5 k h hL hW hW2 _ _
 ·exact zm6 k h hL hW hW2 _ _
 ·exact zn7 k h hL hW hW2 _ _ _
 ·exact znS k h hL hW hW2 _ _ _
 ·exact zmS k h hL hW hW2 _ _ _
 ·exact zoQ k h hL hW hW2 _ _ _
 ·exact zom k h hL hW hW2 _ _ _
noncomputable def runB:Css:=match f_qrun.body with
 | .cons _ (.cons _ (.cons _ (.cons _ (.cons _ (.cons _ (.cons (.for _ _ b) _))))))=>b
 | _=>.nil
theorem ziU (k:Nat) {n:Nat} {W:Int} (hW:0 < W) (hW2:W < 18446744073709551616) {p0 p1 p2 p3 p4 p5:Option PV}:∀ (rs:List Rw) (M:Mem) (m:Int) (st:Store) (u:Option PV) (L:Nat),Dc st n M L->L+rs.length < 999999 ->
  ∃ st' u',forB (callT T (k+2)) (.n 9) runB (rs.map rowV) [p0,p1,p2,p3,p4,p5,some (.loc n),some (.int W),some (.int m),u] st=.nx [p0,p1,p2,p3,p4,p5,some (.loc n),some (.int W),some (.int (runM W rs M m).2),u'] st'/\(∃ o,st'=st.set n o)/\Dc st' n (runM W rs M m).1 (L+rs.length)
 | [],M,m,st,u,L,h,_=>⟨st,u,by rw [List.map_nil,zbl]; rfl,ziX h,h⟩
 | r :: rs,M,m,st,u,L,h,hl=>by
  rw [List.length_cons] at hl
  obtain ⟨s1,h1,⟨o1,h2⟩,h3⟩:=zqd k (m:=m) h (by omega) hW hW2 r
  obtain ⟨s2,u2,e1,⟨o2,e2⟩,e3⟩:=ziU k hW hW2 (p0:=p0) (p1:=p1) (p2:=p2) (p3:=p3) (p4:=p4) (p5:=p5) rs _ (stepM W M m r).2 s1 (some (rowV r)) (L+1) h3 (by omega)
  refine ⟨s2,u2,?_,⟨o2,by rw [e2,h2,List.set_set]⟩,by rw [List.length_cons,show L+(rs.length+1)=L+1+rs.length by omega]; exact e3⟩
  rw [List.map_cons,za5 (ρ1:=[p0,p1,p2,p3,p4,p5,some (.loc n),some (.int W),some (.int m),some (rowV r)]) rfl]
  have hb:exs (callT T (k+2)) [p0,p1,p2,p3,p4,p5,some (.loc n),some (.int W),some (.int m),some (rowV r)] st runB=.nx [p0,p1,p2,p3,p4,p5,some (.loc n),some (.int W),some (.int (stepM W M m r).2),some (rowV r)] s1:=by
   simp? [runB,f_qrun,xs_cons,xs_nil,x_asg,ev.eq_18,evs,bd_ok,fl_ok,h1,bT_n,nxO_some,th_nx,List.set_cons_zero,List.set_cons_succ]
  rw [hb]
  exact e1
theorem zii {call:Cl} {W:Int} (hW:0 < W) (hW2:W < 18446744073709551616) {p1 p2:Option PV}:∀ (n:Nat) (a x:Int) (acc:List PV) (u:Option PV),acc.length+n < 1000000 ->
  ∃ x' u',forB call (.n 5) (.cons (.expr (.mth .append (.var 4) (.cons (.bin .mod (.var 0) (.var 3)) .nil))) (.cons (.asg (.n 0) (.bin .fdiv (.var 0) (.var 3))) .nil)) (rangeL n a 1) [some (.int x),p1,p2,some (.int W),some (.loc 0),u] [.lst acc]=.nx [some (.int x'),p1,p2,some (.int W),some (.loc 0),u'] [.lst (acc++(wordsL W n x).map .int)]
 | 0,a,x,acc,u,_=>⟨x,u,by rw [rangeL,zbl]; simp [wordsL]⟩
 | n+1,a,x,acc,u,h=>by
  obtain ⟨x',u',e⟩:=zii (call:=call) hW hW2 (p1:=p1) (p2:=p2) n (a+1) (x / W) (acc++[.int (x % W)]) (some (.int a)) (by simp; omega)
  refine ⟨x',u',?_⟩
  have hW3:W < 18446744073709551616 * 18446744073709551616:=by omega
  have hl:acc.length < 1000000:=by omega
  rw [rangeL,za5 (ρ1:=[some (.int x),p1,p2,some (.int W),some (.loc 0),some (.int a)]) rfl]
  have hm:mthOk .append [Ob.lst acc] (.loc 0)=some true:=rfl
  have hap:mthV .append [Ob.lst acc] (.loc 0) [.int (x % W)]=.ok .non [.lst (acc++[.int (x % W)])]:=by
   simp [mthV,appV,hl]
  simp? [xs_cons,xs_nil,x_asg,zfe,ev.eq_20,ev.eq_3,evs,bd_ok,fl_ok,hm,ono,zb5 hW,zch hW hW3,toR_some,hap,bT_n,nxO_some,th_nx,List.set_cons_zero,List.set_cons_succ,againF]
  rw [e]
  simp [wordsL]
theorem zks {z:Int} (h:0<=z):∃ n:Nat,z=n:=⟨z.toNat,by omega⟩
theorem zeN:∀ (l:List Int),noLocs (l.map PV.int)=true
 | []=>rfl
 | x :: l=>by simp [noLocs,noLoc,zeN l]
theorem zgC (n:Nat) (h:n < 1000):rng1 (.int (n:Int))=some (rangeL n 0 1):=by
 simp only [rng1]
 rw [if_pos (by omega),Int.toNat_natCast]
theorem words (k:Nat) (x:Int) (w n:Nat) (hw:w<=16) (hn:n < 1000) (st:Store):callT T (k+2) zk1 [.int x,.int w,.int n] st=.ok (.tup ((wordsL (2 ^ w) n x).map .int)) st:=by
 have hW:(0:Int) < 2 ^ w:=Int.pow_pos (by omega)
 have hW2:(2:Int) ^ w < 18446744073709551616:=by
  have h:(2:Nat) ^ w<=2 ^ 16:=Nat.pow_le_pow_right (by omega) hw
  have h2:((2 ^ w:Nat):Int)=2 ^ w:=by simp
  omega
 obtain ⟨x',u',e⟩:=zii (call:=callT T (k+1)) hW hW2 (p1:=some (.int w)) (p2:=some (.int n)) n 0 x [] none (by simp; omega)
 have ht:=zfA k w (by omega) []
 have hT:T zk1=some zgM:=rfl
 rw [callT,hT]
 simp_all! [zgM,Nat.zero_add,Nat.reduceAdd,noLocs,noLoc,Bool.and_self,xs_cons,xs_nil,x_asg,zbR,x_ret,ev.eq_18,ev.eq_2,ev.eq_13,ev.eq_19,evs,evi,List.getElem?_cons_zero,List.getElem?_cons_succ,bd_ok,fl_ok,ht,bT_n,nxO_some,th_nx,List.set_cons_zero,List.set_cons_succ,zgC n hn,toL,Nat.zero_le,sizeMax,e]
 simp [bltV,tupV,lstOf,toR,fl_ok,noLoc,zeN,R.fl,thenF]
theorem chA:Str.ofString "a"=chS 97:=by with_unfolding_all rfl
theorem chB:Str.ofString "b"=chS 98:=by with_unfolding_all rfl
theorem chC:Str.ofString "c"=chS 99:=by with_unfolding_all rfl
theorem chD:Str.ofString "d"=chS 100:=by with_unfolding_all rfl
theorem chM:Str.ofString "m"=chS 109:=by with_unfolding_all rfl
theorem zng {st:Store} {n L:Nat} {M:Mem} {call:Cl} (h:Dc st n M L) (hL:L < 999999) {ρ:IC.Env} {o i e:Ce} {c:Nat} {j v:Int} (he:ev call ρ st e=.ok (.int v) st) (ho:ev call ρ st o=.ok (.loc n) st) (hi:ev call ρ st i=.ok (cellV c j) st) :
  ∃ kvs,ex call ρ st (.dput o i e)=.nx ρ (st.set n (.dct true kvs))/\Dc (st.set n (.dct true kvs)) n (upd M c j v) (L+1):=by
 obtain ⟨kvs,h1,h2⟩:=zbZ h hL c j v
 exact ⟨kvs,by simp only [zb4,he,ho,hi,fl_ok,h1,zaG],h2⟩
theorem zgT {call:Cl} {n:Nat} {s:Str} {c:Nat} (hs:s=chS c) {p0 p1 p2 p3:Option PV}:∀ (vs:List Int) (i:Nat) (M:Mem) (st:Store) (L:Nat) (u v:Option PV),Dc st n M L->L+vs.length < 999999 ->
  ∃ st' u' v',forB call (.t [5,6]) (.cons (.dput (.var 4) (.tup (.cons (.cst (.str s)) (.cons (.var 5) .nil))) (.var 6)) .nil) (pairsUp i (vs.map .int)) [p0,p1,p2,p3,some (.loc n),u,v] st=.nx [p0,p1,p2,p3,some (.loc n),u',v'] st'/\(∃ o,st'=st.set n o)/\Dc st' n (fillM c i vs M) (L+vs.length)
 | [],i,M,st,L,u,v,h,_=>⟨st,u,v,by rw [List.map_nil,pairsUp,zbl],ziX h,h⟩
 | x :: vs,i,M,st,L,u,v,h,hl=>by
  rw [List.length_cons] at hl
  obtain ⟨kvs,e1,h1⟩:=zng (call:=call) (ρ:=[p0,p1,p2,p3,some (.loc n),some (.int i),some (.int x)]) (o:=.var 4) (i:=.tup (.cons (.cst (.str s)) (.cons (.var 5) .nil))) (e:=.var 6) (c:=c) (j:=i) (v:=x) h (by omega) (by simp? []) (by simp? []) (by
   subst hs
   simp? [ev.eq_1,ev.eq_11,evs,bd_ok,List.length_cons,List.length_nil]
   rw [if_pos (by decide)]
   rfl)
  obtain ⟨s2,u2,v2,e2,⟨o2,e3⟩,h2⟩:=zgT (call:=call) hs (p0:=p0) (p1:=p1) (p2:=p2) (p3:=p3) vs (i+1) _ _ (L+1) (some (.int i)) (some (.int x)) h1 (by omega)
  refine ⟨s2,u2,v2,?_,⟨o2,by rw [e3,List.set_set]⟩,by rw [List.length_cons,show L+(vs.length+1)=L+1+vs.length by omega]; exact h2⟩
  rw [List.map_cons,pairsUp,za5 (ρ1:=[p0,p1,p2,p3,some (.loc n),some (.int i),some (.int x)]) rfl,xs_cons,e1,th_nx,xs_nil]
  exact e2
theorem begun (k:Nat) (w n:Nat) (hw:w<=16) (hn:n < 1000) (x y:Int) (st:Store):∃ o,callT T (k+3) zlf [.int w,.int n,.int x,.int y] st=.ok (.loc st.length) (st++[o])/\Dc (st++[o]) st.length (begM (2 ^ w) n x y) (2 * n):=by
 have h0:Dc (st++[.dct true []]) st.length M0 0:=⟨[],by simp,by simp [AllC],fun c i=>rfl,by simp⟩
 have w1:=words k x w n hw hn
 have w2:=words k y w n hw hn
 obtain ⟨s1,u1,v1,e1,⟨o1,f1⟩,h1⟩:=zgT (call:=callT T (k+2)) chA (p0:=some (.int w)) (p1:=some (.int n)) (p2:=some (.int x)) (p3:=some (.int y)) (wordsL (2 ^ w) n x) 0 M0 _ 0 none none h0 (by rw [zbM]; omega)
 obtain ⟨s2,u2,v2,e2,⟨o2,f2⟩,h2⟩:=zgT (call:=callT T (k+2)) chB (p0:=some (.int w)) (p1:=some (.int n)) (p2:=some (.int x)) (p3:=some (.int y)) (wordsL (2 ^ w) n y) 0 _ _ _ u1 v1 h1 (by rw [zbM,zbM]; omega)
 have f3:s2=st++[o2]:=by rw [f2,f1,List.set_set]; simp
 rw [zbM,zbM,show 0+n+n=2 * n by omega] at h2
 refine ⟨o2,?_,by rw [<- f3]; exact h2⟩
 have hT:T zlf=some zgE:=rfl
 rw [callT,hT,<- f3]
 simp_all! [zgE,Nat.zero_add,Nat.reduceAdd,Bool.false_eq_true,if_false,xs_cons,xs_nil,x_asg,zbR,x_ret,ev.eq_18,ev.eq_2,ev.eq_15,evs,evi,List.getElem?_cons_zero,List.getElem?_cons_succ,bd_ok,fl_ok,bT_n,nxO_some,th_nx,th_rt,List.set_cons_zero,List.set_cons_succ,w1,w2,e1,e2]
theorem zpI {call:Cl} {st:Store} {n L:Nat} {M:Mem} (h:Dc st n M L) {ρ:IC.Env} {o i d:Ce} {c:Nat} {j:Int} (ho:ev call ρ st o=.ok (.loc n) st) (hi:ev call ρ st i=.ok (cellV c j) st) (hd:ev call ρ st d=.ok (.int 0) st):ev call ρ st (.mth .get o (.cons i (.cons d .nil)))=.ok (.int (M c j)) st:=by
 simp only [ev.eq_20,ho,hi,hd,evs,bd_ok,mok h,ono,mget,zaH h]
theorem zjv {call:Cl} {st:Store} {n L:Nat} {M:Mem} (h:Dc st n M L) {c:Nat} {W:Int} (hW:0 < W) (hW2:W < 18446744073709551616) {p2 p3:Option PV}:∀ (z:Nat) (acc:Int) (u:Option PV),
  ∃ u',forB call (.n 6) (.cons (.asg (.n 5) (.bin .add (.bin .mul (.var 5) (.var 4)) (.mth .get (.var 0) (.cons (.tup (.cons (.var 1) (.cons (.var 6) .nil))) (.cons (.cst (.int 0)) .nil))))) .nil) (rangeL z ((z:Int) - 1) (-1)) [some (.loc n),some (.str (chS c)),p2,p3,some (.int W),some (.int acc),u] st=.nx [some (.loc n),some (.str (chS c)),p2,p3,some (.int W),some (.int (acc * W ^ z+valM W M c z)),u'] st
 | 0,acc,u=>⟨u,by rw [rangeL,zbl]; simp [valM]⟩
 | z+1,acc,u=>by
  obtain ⟨u',e⟩:=zjv (call:=call) h (c:=c) hW hW2 (p2:=p2) (p3:=p3) z (acc * W+M c z) (some (.int z))
  refine ⟨u',?_⟩
  have hz:((z+1:Nat):Int) - 1=z:=by omega
  rw [rangeL,hz,za5 (ρ1:=[some (.loc n),some (.str (chS c)),p2,p3,some (.int W),some (.int acc),some (.int z)]) rfl]
  have hg:=zpI (call:=call) h (ρ:=[some (.loc n),some (.str (chS c)),p2,p3,some (.int W),some (.int acc),some (.int z)]) (o:=.var 0) (i:=.tup (.cons (.var 1) (.cons (.var 6) .nil))) (d:=.cst (.int 0)) (c:=c) (j:=z) (by simp? []) (by
   simp? [ev.eq_1,ev.eq_11,evs,bd_ok,List.length_cons,List.length_nil]
   rw [if_pos (by decide)]
   rfl) (by simp only [ev.eq_1])
  have hm:(W).natAbs < 18446744073709551616:=by omega
  simp? [xs_cons,xs_nil,x_asg,ev.eq_3,hg,bd_ok,fl_ok,zaV hm,zbP,toR_some,bT_n,nxO_some,th_nx,List.set_cons_zero,List.set_cons_succ,againF]
  rw [show (z:Int)+-1=(z:Int) - 1 by omega,e]
  have hf:(acc * W+M c z) * W ^ z+valM W M c z=acc * W ^ (z+1)+valM W M c (z+1):=by
   rw [valM,Int.pow_succ,Int.add_mul,Int.mul_assoc,Int.mul_comm W]
   omega
  rw [hf]
theorem neg1 {call:Cl} {ρ:IC.Env} {st:Store}:ev call ρ st (.neg (.cst (.int 1)))=.ok (.int (-1)) st:=by
 with_unfolding_all rfl
theorem read (k:Nat) {st:Store} {n L:Nat} {M:Mem} (h:Dc st n M L) (s:Str) (c:Nat) (hs:s=chS c) (w z:Nat) (hw:w<=16) (hz:z < 1000):callT T (k+2) ziz [.loc n,.str s,.int z,.int w] st=.ok (.int (valM (2 ^ w) M c z)) st:=by
 subst hs
 have hW:(0:Int) < 2 ^ w:=Int.pow_pos (by omega)
 have hW2:(2:Int) ^ w < 18446744073709551616:=by
  have h:(2:Nat) ^ w<=2 ^ 16:=Nat.pow_le_pow_right (by omega) hw
  have h2:((2 ^ w:Nat):Int)=2 ^ w:=by simp
  omega
 obtain ⟨u',e⟩:=zjv (call:=callT T (k+1)) h (c:=c) hW hW2 (p2:=some (.int z)) (p3:=some (.int w)) z 0 none
 have ht:=zfA k w (by omega) st
 have hT:T ziz=some ziv:=rfl
 have hr:rngD (.int ((z:Int) - 1)) (.int (-1))=some (rangeL z ((z:Int) - 1) (-1)):=by
  simp only [rngD]
  rw [if_pos ⟨by omega,by decide⟩,show ((z:Int) - 1 - -1).toNat=z by omega]
 rw [callT,hT]
 simp_all! [ziv,Nat.zero_add,Nat.reduceAdd,Bool.false_eq_true,if_false,xs_cons,xs_nil,x_asg,zbR,x_ret,ev.eq_18,ev.eq_1,ev.eq_2,ev.eq_3,neg1,evs,evi,List.getElem?_cons_zero,List.getElem?_cons_succ,bd_ok,fl_ok,ht,za6,toR_some,bT_n,nxO_some,th_nx,th_rt,List.set_cons_zero,List.set_cons_succ,hr,toL,e]
 simp
theorem marks (k:Nat) {st:Store} {n L:Nat} {M:Mem} (h:Dc st n M L):callT T (k+1) ziQ [.loc n] st=.ok (.tup [.int (M 109 0),.int (M 109 1),.int (M 109 2),.int (M 109 3)]) st:=by
 have hT:T ziQ=some zgD:=rfl
 have hc:=zjU (call:=callT T k) (st:=st) (ρ0:=[none,some (.loc n)]) (t:=.n 0) (c:=.cst (.bl true)) (e:=.mth .get (.var 1) (.cons (.tup (.cons (.cst (.str "m")) (.cons (.var 0) .nil))) (.cons (.cst (.int 0)) .nil))) (f:=fun x=>match x with | .int i=>.int (M 109 i) | _=>.non) [.int 0,.int 1,.int 2,.int 3] (by
  have:∀ i:Int,oneB (callT T k) [none,some (.loc n)] (.n 0) (.cst (.bl true)) (.mth .get (.var 1) (.cons (.tup (.cons (.cst (.str "m")) (.cons (.var 0) .nil))) (.cons (.cst (.int 0)) .nil))) (.int i) st=.ok (some (.int (M 109 i))) st:=by
   intro i
   have hg:=zpI (call:=callT T k) h (ρ:=[some (.int i),some (.loc n)]) (o:=.var 1) (i:=.tup (.cons (.cst (.str "m")) (.cons (.var 0) .nil))) (d:=.cst (.int 0)) (c:=109) (j:=i) (by simp? []) (by
    rw [chM]
    simp? [ev.eq_1,ev.eq_11,evs,bd_ok,List.length_cons,List.length_nil]
    rw [if_pos (by decide)]
    rfl) (by simp only [ev.eq_1])
   dsimp? [oneB,hg,t_bl,ono,cond_true]
  intro x hx
  simp only [List.mem_cons,List.not_mem_nil,or_false] at hx
  rcases hx with rfl | rfl | rfl | rfl <;> exact this _)
 rw [callT,hT]
 have hr:rng1 (.int 4)=some [.int 0,.int 1,.int 2,.int 3]:=rfl
 simp_all! [zgD,Nat.zero_add,Nat.reduceAdd,Bool.false_eq_true,if_false,List.append_nil,xs_cons,xs_nil,x_ret,zpA,ev.eq_1,ev.eq_19,evs,evi,hr,toL,bd_ok,fl_ok,Option.bind_none,Option.bind_some,List.getElem?_cons_zero,Option.join_some,Option.bind_fun_some]
 rw [hc]
 simp [lstR,bd_ok,bltV,tupV,lstOf,toR,R.fl,R.bind,thenF,sizeMax]
theorem ends (k:Nat) (v:Int) (K:Nat) (hK:K < 1000) (st:Store):callT T (k+2) zkb [.int v,.int K] st=.ok (.tup [.int (bi (v == 0)),.int (bi (decide (2 ^ K<=2 * v)))]) st:=by
 have ht:=zfA k K hK []
 have hT:T zkb=some zit:=rfl
 rw [callT,hT]
 simp_all! [zit,Nat.zero_add,Nat.reduceAdd,noLocs,noLoc,Bool.and_self,List.append_nil,xs_cons,xs_nil,x_asg,x_ret,ev.eq_18,ev.eq_1,ev.eq_2,ev.eq_3,ev.eq_8,ev.eq_11,ev.eq_19,evs,List.getElem?_cons_zero,List.getElem?_cons_succ,bd_ok,fl_ok,ht,za6,zbv,toR_some,c_eq,c_ge,za3,zbW]
 simp [R.fl,thenF,noLoc,noLocs,sizeMax]
theorem signed (k:Nat) (x:Int) (K:Nat) (hK:K < 1000) (st:Store):callT T (k+2) ze0 [.int x,.int K] st=.ok (.int (if 2 ^ K<=2 * x then x - 2 ^ K else x)) st:=by
 have ht:=zfA k K hK []
 have hT:T ze0=some zfB:=rfl
 rw [callT,hT]
 simp! [zfB,noLocs,noLoc,Bool.and_self,ev.eq_3,ht,za6,zbv,c_ge]
 by_cases h:2 ^ K<=2 * x <;> simp [h,R.fl,thenF,noLoc]
theorem lift8 {f:Nat} {a:List PV} {s s':Store} {v:PV} (h:callT T 8 f a s=.ok v s') (j:Nat):callT T (8+j) f a s=.ok v s':=zlt h j
theorem zsC (w:Nat):(0:Int) < 2 ^ w:=Int.pow_pos (by omega)
theorem w_lt {w:Nat} (hw:w<=16):(2:Int) ^ w < 18446744073709551616:=by
 have h:(2:Nat) ^ w<=2 ^ 16:=Nat.pow_le_pow_right (by omega) hw
 have h2:((2 ^ w:Nat):Int)=2 ^ w:=by simp
 omega
theorem run (j:Nat) {v:PV} {rs:List Rw} (w n:Nat) (hw:w<=16) (hn:n < 1000) (hl:rs.length < 5000) (x y:Int) (hv:noLoc v=true)
  (h1:callT T 8 zb0 [v] []=.ok (.bl true) []) (h2:callT T 8 zdj [v,.int w,.int n,.int 4000] []=.ok (.lst (rs.map rowV)) []) (h3:callT T 8 zcu [.lst (rs.map rowV)] []=.ok (.bl true) []) :
  ∃ o,callT T (8+j+1) zh1 [v,.int w,.int n,.int x,.int y] []=.ok (.loc 0) [o]/\∃ L,Dc [o] 0 (runM (2 ^ w) rs (begM (2 ^ w) n x y) 0).1 L:=by
 have g1:=lift8 h1 j
 have g2:=lift8 h2 j
 have g3:=lift8 h3 j
 obtain ⟨o,b1,b2⟩:=begun (5+j) w n hw hn x y []
 rw [show 5+j+3=8+j by omega] at b1
 have ht:=zfA (7+j) w (by omega) [o]
 rw [show 7+j+1=8+j by omega] at ht
 obtain ⟨s2,u2,e1,⟨o2,e2⟩,e3⟩:=ziU (6+j) (zsC w) (w_lt hw) (p0:=some v) (p1:=some (.int w)) (p2:=some (.int n)) (p3:=some (.int x)) (p4:=some (.int y)) (p5:=some (.lst (rs.map rowV))) rs _ 0 _ none _ b2 (by omega)
 rw [show 6+j+2=8+j by omega] at e1
 have e4:s2=[o2]:=by rw [e2]; rfl
 rw [e4] at e1 e3
 simp only [List.nil_append,List.length_nil] at b1 e1 e3
 refine ⟨o2,?_,_,e3⟩
 have hT:T zh1=some ⟨5,10,false,f_qrun.body⟩:=rfl
 have hb:f_qrun.body=(.cons (.ite (.not (.call 42 (.cons (.var 0) .nil))) (.cons .nope .nil) .nil) (.cons (.asg (.n 5) (.call 48 (.cons (.var 0) (.cons (.var 1) (.cons (.var 2) (.cons (.cst (.int 4000)) .nil)))))) (.cons (.ite (.or (.cmp .is (.var 5) (.cst .non)) (.not (.call 49 (.cons (.var 5) .nil)))) (.cons .nope .nil) .nil) (.cons (.asg (.n 6) (.call 50 (.cons (.var 1) (.cons (.var 2) (.cons (.var 3) (.cons (.var 4) .nil)))))) (.cons (.asg (.n 7) (.call 31 (.cons (.var 1) .nil))) (.cons (.asg (.n 8) (.cst (.int 0))) (.cons (.for (.n 9) (.seq (.var 5)) runB) (.cons (.ret (.var 6)) .nil)))))))):=rfl
 have ci:cmpV .is (.lst (rs.map rowV)) .non=some (.bl false):=rfl
 rw [callT,hT,hb]
 simp! [Bool.false_eq_true,if_false,zbR,ev.eq_5,ev.eq_7,evi,g1,g2,g3,ci,b1,ht,ono,Bool.not_true,cond_false,onBl,e1]
theorem pure0 {f k:Nat} {a:List PV} {v:PV} {fn:IC.Fn} (hT:T f=some fn) (hp:fn.pure=true) (h:callT T k f a []=.ok v []) (st:Store):callT T k f a st=.ok v st:=by
 cases k with
 | zero=>cases h
 | succ k =>
  rw [callT,hT] at h ⊢
  simp only [hp,if_true] at h ⊢
  by_cases h1:a.length=fn.np
  ·rw [if_pos h1] at h ⊢
   by_cases h2:noLocs a=true
   ·rw [if_pos h2] at h ⊢
    generalize exs (callT T k) (a.map some++List.replicate (fn.ns - fn.np) none) [] fn.body=r at h
    cases r with
    | rt v' s' =>
     simp only at h ⊢
     by_cases h3:noLoc v'=true
     ·rw [if_pos h3] at h ⊢; cases h; rfl
     ·rw [if_neg h3] at h; cases h
    | nx _ _=>cases h; rfl
    | exc _ _ _=>cases h
    | _=>cases h
   ·rw [if_neg h2] at h; cases h
  ·rw [if_neg h1] at h; cases h
theorem runS (j:Nat) {v:PV} {rs:List Rw} (w n:Nat) (hw:w<=16) (hn:n < 1000) (hl:rs.length < 5000) (x y:Int) (st:Store)
  (h1:callT T 8 zb0 [v] []=.ok (.bl true) []) (h2:callT T 8 zdj [v,.int w,.int n,.int 4000] []=.ok (.lst (rs.map rowV)) []) (h3:callT T 8 zcu [.lst (rs.map rowV)] []=.ok (.bl true) []) :
  ∃ o,callT T (8+j+1) zh1 [v,.int w,.int n,.int x,.int y] st=.ok (.loc st.length) (st++[o])/\∃ L,Dc (st++[o]) st.length (runM (2 ^ w) rs (begM (2 ^ w) n x y) 0).1 L:=by
 have g1:=pure0 rfl rfl (lift8 h1 j) st
 have g2:=pure0 rfl rfl (lift8 h2 j) st
 have g3:=pure0 rfl rfl (lift8 h3 j) st
 obtain ⟨o,b1,b2⟩:=begun (5+j) w n hw hn x y st
 rw [show 5+j+3=8+j by omega] at b1
 have ht:=zfA (7+j) w (by omega) (st++[o])
 rw [show 7+j+1=8+j by omega] at ht
 obtain ⟨s2,u2,e1,⟨o2,e2⟩,e3⟩:=ziU (6+j) (zsC w) (w_lt hw) (p0:=some v) (p1:=some (.int w)) (p2:=some (.int n)) (p3:=some (.int x)) (p4:=some (.int y)) (p5:=some (.lst (rs.map rowV))) rs _ 0 _ none _ b2 (by omega)
 rw [show 6+j+2=8+j by omega] at e1
 have e4:s2=st++[o2]:=by rw [e2]; simp
 rw [e4] at e1 e3
 refine ⟨o2,?_,_,e3⟩
 have hT:T zh1=some ⟨5,10,false,f_qrun.body⟩:=rfl
 have hb:f_qrun.body=(.cons (.ite (.not (.call 42 (.cons (.var 0) .nil))) (.cons .nope .nil) .nil) (.cons (.asg (.n 5) (.call 48 (.cons (.var 0) (.cons (.var 1) (.cons (.var 2) (.cons (.cst (.int 4000)) .nil)))))) (.cons (.ite (.or (.cmp .is (.var 5) (.cst .non)) (.not (.call 49 (.cons (.var 5) .nil)))) (.cons .nope .nil) .nil) (.cons (.asg (.n 6) (.call 50 (.cons (.var 1) (.cons (.var 2) (.cons (.var 3) (.cons (.var 4) .nil)))))) (.cons (.asg (.n 7) (.call 31 (.cons (.var 1) .nil))) (.cons (.asg (.n 8) (.cst (.int 0))) (.cons (.for (.n 9) (.seq (.var 5)) runB) (.cons (.ret (.var 6)) .nil)))))))):=rfl
 have ci:cmpV .is (.lst (rs.map rowV)) .non=some (.bl false):=rfl
 rw [callT,hT,hb]
 simp! [Bool.false_eq_true,if_false,zbR,ev.eq_5,ev.eq_7,evi,g1,g2,g3,ci,b1,ht,ono,Bool.not_true,cond_false,onBl,e1]
theorem Drw.refl {ns:List Int} {n:Nat} {st:Store} (h:Drw ns n st):Onl ns n st st:=by
 obtain ⟨a,p,f,ha,h⟩:=h
 exact ⟨a,p,f,ha,zk9 h⟩
noncomputable def worthB:Css:=match worthR with
 | .cons _ (.cons _ (.cons _ (.cons _ (.cons _ (.cons _ (.cons _ (.cons _ (.cons _ (.cons (.for _ _ b) _)))))))))=>b
 | _=>.nil
theorem zmf (k:Nat) {n:Nat} {ns:List Int} (hns:ns.length<=1000) {p1 p2 p3 p4 p6 p8 u11 u12:Option PV} {d W acc a:Int} {st:Store} (h:Drw ns n st) (ha:0<=a) (ha2:a < 1000) (hW:4<=W) (hW2:W < 18446744073709551616) :
  ∃ e st' v11 v12,0<=e/\e < W/\Onl ns n st st'/\exs (callT T (k+3)) [some (.loc n),p1,p2,p3,p4,some (.int a),p6,some (.int d),p8,some (.int W),some (.int acc),u11,u12] st worthB=.nx [some (.loc n),p1,p2,p3,p4,some (.int a),p6,some (.int d),p8,some (.int W),some (.int (acc * W+e)),v11,v12] st':=by
 obtain ⟨t,s1,d1,d2,o1,e1⟩:=takeD k hns (m:=5) (by omega) (by omega) h
 have hW0:0 < W:=by omega
 have hWm:W.natAbs < 18446744073709551616:=by omega
 have ha3:0 < a+1:=by omega
 have ha4:a+1 < 18446744073709551616 * 18446744073709551616:=by omega
 have q0:=Int.emod_nonneg (d / (a+1)) (show W ≠ 0 by omega)
 have q1:=Int.emod_lt_of_pos (d / (a+1)) hW0
 have ht:t=0 \/ t=1 \/ t=2 \/ t=3 \/ t=4:=by omega
 rcases ht with rfl | rfl | rfl | rfl | rfl
 ·refine ⟨0,s1,some (.int (d / (a+1) % W)),some (.tup [.int 0,.int 1,.int (W - 1),.int (W / 2),.int (d / (a+1) % W)]),by omega,by omega,o1,?_⟩
  dsimp! [worthB,worthR,f_qworth,x_asg,ev.eq_3,ev.eq_18,bT_n,nxO_some,List.set_cons_zero,List.set_cons_succ,zbP,za6,zch ha3 ha4,zb5 hW0,zaP,zaV hWm,e1,ix0,ix1,ix2,ix3,ix4]
 ·refine ⟨1,s1,some (.int (d / (a+1) % W)),some (.tup [.int 0,.int 1,.int (W - 1),.int (W / 2),.int (d / (a+1) % W)]),by omega,by omega,o1,?_⟩
  dsimp! [worthB,worthR,f_qworth,x_asg,ev.eq_3,ev.eq_18,bT_n,nxO_some,List.set_cons_zero,List.set_cons_succ,zbP,za6,zch ha3 ha4,zb5 hW0,zaP,zaV hWm,e1,ix0,ix1,ix2,ix3,ix4]
 ·refine ⟨W - 1,s1,some (.int (d / (a+1) % W)),some (.tup [.int 0,.int 1,.int (W - 1),.int (W / 2),.int (d / (a+1) % W)]),by omega,by omega,o1,?_⟩
  dsimp! [worthB,worthR,f_qworth,x_asg,ev.eq_3,ev.eq_18,bT_n,nxO_some,List.set_cons_zero,List.set_cons_succ,zbP,za6,zch ha3 ha4,zb5 hW0,zaP,zaV hWm,e1,ix0,ix1,ix2,ix3,ix4]
 ·refine ⟨W / 2,s1,some (.int (d / (a+1) % W)),some (.tup [.int 0,.int 1,.int (W - 1),.int (W / 2),.int (d / (a+1) % W)]),by omega,by omega,o1,?_⟩
  dsimp! [worthB,worthR,f_qworth,x_asg,ev.eq_3,ev.eq_18,bT_n,nxO_some,List.set_cons_zero,List.set_cons_succ,zbP,za6,zch ha3 ha4,zb5 hW0,zaP,zaV hWm,e1,ix0,ix1,ix2,ix3,ix4]
 ·refine ⟨d / (a+1) % W,s1,some (.int (d / (a+1) % W)),some (.tup [.int 0,.int 1,.int (W - 1),.int (W / 2),.int (d / (a+1) % W)]),q0,q1,o1,?_⟩
  dsimp! [worthB,worthR,f_qworth,x_asg,ev.eq_3,ev.eq_18,bT_n,nxO_some,List.set_cons_zero,List.set_cons_succ,zbP,za6,zch ha3 ha4,zb5 hW0,zaP,zaV hWm,e1,ix0,ix1,ix2,ix3,ix4]
theorem zia (k:Nat) {n:Nat} {ns:List Int} (hns:ns.length<=1000) {p1 p2 p3 p4 p6 p8:Option PV} {d W:Int} (hW:4<=W) (hW2:W < 18446744073709551616):∀ (r i:Nat) (a acc:Int) (u5 u11 u12:Option PV) (st:Store),0<=a->a+r < 1000->0<=acc->acc < W ^ i->Drw ns n st ->
  ∃ acc' st' v5 v11 v12,0<=acc'/\acc' < W ^ (i+r)/\Onl ns n st st'/\forB (callT T (k+3)) (.n 5) worthB (rangeL r a 1) [some (.loc n),p1,p2,p3,p4,u5,p6,some (.int d),p8,some (.int W),some (.int acc),u11,u12] st=.nx [some (.loc n),p1,p2,p3,p4,v5,p6,some (.int d),p8,some (.int W),some (.int acc'),v11,v12] st'
 | 0,i,a,acc,u5,u11,u12,st,_,_,h0,h1,h=>⟨acc,st,u5,u11,u12,h0,h1,h.refl,by rw [rangeL,zbl]⟩
 | r+1,i,a,acc,u5,u11,u12,st,ha,hr,h0,h1,h=>by
  obtain ⟨e,s1,v11,v12,e0,e1,o1,hs⟩:=zmf k hns (p1:=p1) (p2:=p2) (p3:=p3) (p4:=p4) (p6:=p6) (p8:=p8) (u11:=u11) (u12:=u12) (d:=d) (acc:=acc) h ha (by omega) hW hW2
  have hb:acc * W+e < W ^ (i+1):=by
   have:=Int.mul_le_mul_of_nonneg_right (show acc<=W ^ i - 1 by omega) (show 0<=W by omega)
   rw [Int.sub_mul,Int.one_mul] at this
   rw [Int.pow_succ]
   omega
  have hb0:0<=acc * W:=Int.mul_nonneg h0 (by omega)
  obtain ⟨acc',s2,w5,w11,w12,f0,f1,o2,hf⟩:=zia k hns (p1:=p1) (p2:=p2) (p3:=p3) (p4:=p4) (p6:=p6) (p8:=p8) (d:=d) hW hW2 r (i+1) (a+1) (acc * W+e) (some (.int a)) v11 v12 s1 (by omega) (by omega) (by omega) hb (o1.drw h)
  refine ⟨acc',s2,w5,w11,w12,f0,by rw [show i+(r+1)=i+1+r by omega]; exact f1,o1.trans o2,?_⟩
  rw [rangeL,za5 (ρ1:=[some (.loc n),p1,p2,p3,p4,some (.int a),p6,some (.int d),p8,some (.int W),some (.int acc),u11,u12]) rfl,hs]
  exact hf
theorem zkL (k:Nat) {n:Nat} {ns:List Int} (hns:ns.length<=1000) {w z:Nat} {kd m:Int} {u5 u6 u7 u8 u9 u10 u11 u12:Option PV} {st:Store} (h:Drw ns n st) (hk:kd=8 \/ kd=9) (hw:4<=w) (hw2:w<=16) (hz:1<=z) (hz2:z<=4) (hm:m=2 ^ (w * z)) :
  ∃ x st',0<=x/\x < m/\Onl ns n st st'/\exs (callT T (k+3)) [some (.loc n),some (.int w),some (.int z),some (.int kd),some (.int m),u5,u6,u7,u8,u9,u10,u11,u12] st worthR=.rt (.int x) st':=by
 have hwz2:w * z<=64:=Nat.mul_le_mul hw2 hz2
 have hm1:0 < m:=hm ▸ ziC _
 have hm2:m<=18446744073709551616:=by
  have h64:(2:Nat) ^ (w * z)<=2 ^ 64:=Nat.pow_le_pow_right (by omega) hwz2
  rw [hm,<- pw]
  omega
 obtain ⟨d,s1,d1,d2,o1,e1⟩:=takeD k hns (m:=m) (by omega) (by omega) h
 have hW4:(4:Int)<=2 ^ w:=by
  have h:(2:Nat) ^ 2<=2 ^ w:=Nat.pow_le_pow_right (by omega) (by omega)
  have h2:=pw w
  omega
 have hWl:(2:Int) ^ w < 18446744073709551616:=by
  have h:(2:Nat) ^ w<=2 ^ 16:=Nat.pow_le_pow_right (by omega) hw2
  have h2:=pw w
  omega
 have r1:rng1 (.int (w:Int))=some (rangeL w 0 1):=zgC w (by omega)
 have r2:rng1 (.int (z:Int))=some (rangeL z 0 1):=zgC z (by omega)
 have k1:¬ kd < 6:=by omega
 have k2:(kd == 6)=false:=by simp; omega
 have k3:(kd == 7)=false:=by simp; omega
 have k4:¬ 9 < kd:=by omega
 obtain ⟨u,hd,_⟩:=dbl (call:=callT T (k+3)) (i:=9) (j:=5) (by omega) w 0 [some (.loc n),some (.int w),some (.int z),some (.int kd),some (.int m),u5,some (.tup [.int 0,.int 1,.int (m - 1),.int (m / 2),.int (m / 2 - 1),.int (m - 2)]),some (.int d),u8,some (.int 1),u10,u11,u12] 1 s1 rfl
 simp only [List.set_cons_zero,List.set_cons_succ,Int.mul_one] at hd
 obtain ⟨acc',s2,w5,w11,w12,f0,f1,o2,hf⟩:=zia k hns (p1:=some (.int w)) (p2:=some (.int z)) (p3:=some (.int kd)) (p4:=some (.int m)) (p6:=some (.tup [.int 0,.int 1,.int (m - 1),.int (m / 2),.int (m / 2 - 1),.int (m - 2)])) (p8:=u8) (d:=d) (W:=2 ^ w) hW4 hWl z 0 0 0 u u11 u12 s1 (by omega) (by omega) (by omega) (by simp) (o1.drw h)
 rw [Nat.zero_add,<- Int.pow_mul,<- hm] at f1
 refine ⟨acc',s2,f0,f1,o1.trans o2,?_⟩
 have hR:worthR=.cons (.asg (.n 6) (.tup (.cons (.cst (.int 0)) (.cons (.cst (.int 1)) (.cons (.bin .sub (.var 4) (.cst (.int 1))) (.cons (.bin .fdiv (.var 4) (.cst (.int 2))) (.cons (.bin .sub (.bin .fdiv (.var 4) (.cst (.int 2))) (.cst (.int 1))) (.cons (.bin .sub (.var 4) (.cst (.int 2))) .nil)))))))) (match worthR with
  | .cons _ (.cons a (.cons b (.cons c (.cons d (.cons e (.cons f (.cons g (.cons h (.cons (.for t i _) r)))))))))=>.cons a (.cons b (.cons c (.cons d (.cons e (.cons f (.cons g (.cons h (.cons (.for t i worthB) r))))))))
  | _=>.nil):=rfl
 rw [hR]
 dsimp! [worthR,f_qworth,x_asg,x_ite,x_ret,zbR,evi,r1,r2,toL,ev.eq_3,ev.eq_8,ev.eq_18,bT_n,nxO_some,th_rt,List.set_cons_zero,List.set_cons_succ,za6,zaP,c_lt,c_eq,c_gt,on_t,t_bl,k1,k2,k3,k4,decide_false,cond_false,e1,hd,hf]
theorem worth (k:Nat) {n:Nat} {ns:List Int} (hns:ns.length<=1000) (w z:Nat) (hw:4<=w) (hw2:w<=16) (hz:1<=z) (hz2:z<=4) {st:Store} (h:Drw ns n st) :
  ∃ x st',0<=x/\x < 2 ^ (w * z)/\Onl ns n st st'/\callT T (k+4) zlw [.loc n,.int w,.int z] st=.ok (.int x) st':=by
 obtain ⟨kd,s1,d1,d2,o1,e1⟩:=takeD k hns (m:=12) (by omega) (by omega) h
 have h1:=o1.drw h
 have hwz2:w * z<=64:=Nat.mul_le_mul hw2 hz2
 have hwz:4<=w * z:=Nat.mul_le_mul hw hz
 have hm:(16:Int)<=2 ^ (w * z):=by
  have h:(2:Nat) ^ 4<=2 ^ (w * z):=Nat.pow_le_pow_right (by omega) hwz
  have h2:=pw (w * z)
  omega
 have hm2:(2:Int) ^ (w * z)<=18446744073709551616:=by
  have h:(2:Nat) ^ (w * z)<=2 ^ 64:=Nat.pow_le_pow_right (by omega) hwz2
  have h2:=pw (w * z)
  omega
 have hwa:(w:Int).natAbs < 18446744073709551616:=by omega
 have hwm:(w:Int) * (z:Int)=((w * z:Nat):Int):=by simp
 have r1:rng1 (.int ((w * z:Nat):Int))=some (rangeL (w * z) 0 1):=zgC _ (by omega)
 obtain ⟨u,hd,_⟩:=dbl (call:=callT T (k+3)) (i:=4) (j:=5) (by omega) (w * z) 0 [some (.loc n),some (.int w),some (.int z),some (.int kd),some (.int 1),none,none,none,none,none,none,none,none] 1 s1 rfl
 simp only [List.set_cons_zero,List.set_cons_succ,Int.mul_one] at hd
 have key:∃ x st',0<=x/\x < 2 ^ (w * z)/\Onl ns n s1 st'/\exs (callT T (k+3)) [some (.loc n),some (.int w),some (.int z),some (.int kd),some (.int (2 ^ (w * z))),u,none,none,none,none,none,none,none] s1 worthR=.rt (.int x) st':=by
  rcases (by omega:kd < 6 \/ (kd=6 \/ kd=7) \/ (kd=8 \/ kd=9) \/ 9 < kd) with q | q | q | q
  ·obtain ⟨x,a,b,e⟩:=zlU (c:=callT T (k+3)) (n:=n) (w:=w) (z:=z) (st:=s1) (u5:=u) (u6:=none) (u7:=none) (u8:=none) (u9:=none) (u10:=none) (u11:=none) (u12:=none) d1 q hm
   exact ⟨x,s1,a,b,h1.refl,e⟩
  ·exact zlZ k hns h1 q (by omega) (by omega) (by omega) (by omega) (by rw [hwm,Int.toNat_natCast])
  ·exact zkL k hns h1 q hw hw2 hz hz2 rfl
  ·exact zm2 k hns h1 q hm hm2
 obtain ⟨x,s2,a,b,o2,e2⟩:=key
 refine ⟨x,s2,a,b,o1.trans o2,?_⟩
 have hT:T zlw=some ⟨3,13,false,f_qworth.body⟩:=rfl
 have hb:f_qworth.body=.cons (.asg (.n 3) (.call 29 (.cons (.var 0) (.cons (.cst (.int 12)) .nil)))) (.cons (.asg (.n 4) (.cst (.int 1))) (.cons (.for (.n 5) (.range1 (.bin .mul (.var 1) (.var 2))) (.cons (.asg (.n 4) (.bin .mul (.cst (.int 2)) (.var 4))) .nil)) worthR)):=rfl
 rw [callT,hT,hb]
 simp_all! [Nat.zero_add,Nat.reduceAdd,Bool.false_eq_true,if_false]
 rw [xs_cons,x_asg]
 simp? [ev.eq_18,ev.eq_1,evs,bd_ok,fl_ok,e1,bT_n,nxO_some,th_nx,List.set_cons_zero,List.set_cons_succ]
 rw [xs_cons,x_asg]
 dsimp? [fl_ok,nxO_some,th_nx,List.set_cons_succ]
 rw [xs_cons,zbR]
 simp? [evi,ev.eq_3,bd_ok,fl_ok,zdr hwa,hwm,r1,toL,toR_some,hd,th_nx,e2]
theorem zrX (k:Nat) {b:Bool} {c i j m I J n:Int} (hi:i.natAbs<=200) (hj:j.natAbs<=200) (hm:m.natAbs<=200) (st:Store):callT T (k+1) zrO [.tp b [.int c,.int i,.int j,.int m],.int I,.int J,.int n] st=.ok (.int (c+i * I+j * J+m * n)) st:=by
 have hT:T zrO=some zo6:=rfl
 have h1:i.natAbs < 18446744073709551616:=by omega
 have h2:j.natAbs < 18446744073709551616:=by omega
 have h3:m.natAbs < 18446744073709551616:=by omega
 rw [callT,hT]
 simp_all! [zo6,Nat.zero_add,Nat.reduceAdd,noLocs,noLoc,Bool.and_self,List.append_nil,xs_cons,xs_nil,x_ret,ev.eq_1,ev.eq_2,ev.eq_3,ev.eq_16,List.getElem?_cons_zero,List.getElem?_cons_succ,bd_ok,fl_ok,toR_some,ix0,ix1,ix2,ix3,zdr h1,zdr h2,zdr h3,zbP,th_rt]
noncomputable def plB:Css:=match f_qplain_row.body with
 | .cons _ (.cons (.for _ _ b) _)=>b
 | _=>.nil
theorem zh7 (k:Nat) {p0:Option PV} {I J n:Int}:∀ (vs:List PV) (ops:List Op) (acc:List PV) (u:Option PV),opsOf vs=some ops->acc.length+vs.length < 1000000 ->
  ∃ u',forB (callT T (k+1)) (.n 5) plB vs [p0,some (.int I),some (.int J),some (.int n),some (.loc 0),u] [.lst acc]=.nx [p0,some (.int I),some (.int J),some (.int n),some (.loc 0),u'] [.lst (acc++ops.map (Op.pv I J n))]
 | [],ops,acc,u,h,_=>by
  cases h
  exact ⟨u,by rw [zbl]; simp⟩
 | v :: vs,ops,acc,u,h,hl=>by
  rw [List.length_cons] at hl
  unfold opsOf at h
  split at h
  ·rename_i a b ha hb
   cases h
   obtain ⟨u',e⟩:=zh7 k (p0:=p0) (I:=I) (J:=J) (n:=n) vs b (acc++[Op.pv I J n a]) (some v) hb (by simp; omega)
   refine ⟨u',?_⟩
   have hal:acc.length < 1000000:=by omega
   have hm:mthOk .append [Ob.lst acc] (.loc 0)=some true:=rfl
   have hap:∀ x:PV,mthV .append [Ob.lst acc] (.loc 0) [x]=.ok .non [.lst (acc++[x])]:=fun x=>by simp [mthV,appV,hal]
   have hs:exs (callT T (k+1)) [p0,some (.int I),some (.int J),some (.int n),some (.loc 0),some v] [.lst acc] plB=.nx [p0,some (.int I),some (.int J),some (.int n),some (.loc 0),some v] [.lst (acc++[Op.pv I J n a])]:=by
    rcases znD ha with ⟨d,rfl,rfl⟩ | ⟨f1,f2,x,rfl,rfl,q1,q2,q3⟩
    ·have hi:isiV (.int d) [.tuple]=some (.bl false):=rfl
     simp? [plB,f_qplain_row,xs_cons,xs_nil,x_ite,zfe,ev.eq_20,ev.eq_21,evs,bd_ok,fl_ok,toR_some,hi,t_bl,on_t,cond_false,hm,ono,hap,th_nx,Op.pv]
    ·have hi:isiV (.tp f1 [.str (chS x.l),.tp f2 [.int x.c,.int x.i,.int x.j,.int x.m]]) [.tuple]=some (.bl true):=rfl
     have hat:=zrX k (b:=f2) (c:=x.c) (I:=I) (J:=J) (n:=n) q1 q2 q3 [.lst acc]
     dsimp! [plB,f_qplain_row,x_ite,zfe,ev.eq_18,ev.eq_20,ev.eq_21,hi,t_bl,on_t,cond_true,hm,ono,hap,Op.pv,ix0,ix1,hat,cellV,Cx.at]
   rw [za5 (ρ1:=[p0,some (.int I),some (.int J),some (.int n),some (.loc 0),some v]) rfl,hs]
   show forB _ _ _ _ _ _=_
   rw [e]
   simp
  ·cases h
theorem zoj (I J n:Int) (o:Op):noLoc (o.pv I J n)=true:=by cases o <;> rfl
theorem zjC (I J n:Int):∀ ops:List Op,noLocs (ops.map (Op.pv I J n))=true
 | []=>rfl
 | o :: ops=>by simp [noLocs,zoj,zjC I J n ops]
theorem zoY {v:PV} {o:Op} (h:opOf v=some o):noLoc v=true:=by
 rcases znD h with ⟨d,rfl,rfl⟩ | ⟨f1,f2,x,rfl,rfl,_⟩ <;> rfl
theorem zjr:∀ {vs:List PV} {ops:List Op},opsOf vs=some ops->noLocs vs=true
 | [],_,_=>rfl
 | v :: vs,ops,h=>by
  unfold opsOf at h
  split at h
  ·rename_i a b ha hb
   simp [noLocs,zoY ha,zjr hb]
  ·cases h
theorem znU {v:PV} {r:Rs} (h:rowOf v=some r):noLoc v=true:=by
 obtain ⟨a,vs,rfl,h2,_⟩:=zk8 h
 simp [noLoc,noLocs,zjr h2]
theorem zhv (k:Nat) {v:PV} {r:Rs} (h:rowOf v=some r) (I J n:Int) (st:Store):callT T (k+2) zeb [v,.int I,.int J,.int n] st=.ok (r.pv I J n) st:=by
 have hnv:=znU h
 obtain ⟨a,vs,rfl,h2,h3⟩:=zk8 h
 obtain ⟨u',e⟩:=zh7 k (p0:=some (.tp a (.str r.nm :: vs))) (I:=I) (J:=J) (n:=n) vs r.ops [.str r.nm] none h2 (by simp; omega)
 have hT:T zeb=some ⟨4,6,true,f_qplain_row.body⟩:=rfl
 have hb:f_qplain_row.body=.cons (.asg (.n 4) (.newl (.cons (.idx (.var 0) (.cst (.int 0))) .nil))) (.cons (.for (.n 5) (.seq (.slc (.var 0) (.cst (.int 1)) (.cst .non))) plB) (.cons (.ret (.blt .tuple (.cons (.var 4) .nil))) .nil)):=rfl
 have hsl:slcV (.tp a (.str r.nm :: vs)) (some 1) .non=some (.tup vs):=by
  have h1:clampI (vs.length+1) 1=1:=by simp [clampI]
  simp [slcV,optI,slcO,loOf,hiOf,cut,h1]
 have hnl:noLocs [.tp a (.str r.nm :: vs),.int I,.int J,.int n]=true:=by simp [noLocs,noLoc] at hnv ⊢; exact hnv
 rw [callT,hT,hb]
 simp_all! [Nat.zero_add,Nat.reduceAdd,hnl]
 rw [xs_cons,x_asg]
 simp? [ev.eq_1,ev.eq_13,ev.eq_16,evs,bd_ok,fl_ok,toR_some,ix0,List.length_cons,List.length_nil,Nat.zero_add,sizeMax,Nat.reduceLeDiff,if_true,bT_n,nxO_some,th_nx,List.set_cons_zero,List.set_cons_succ,List.nil_append]
 rw [xs_cons,zbR]
 simp? [evi,ev.eq_1,ev.eq_17,bd_ok,fl_ok,optI,onP,hsl,toR_some,e,th_nx]
 simp [xs_cons,xs_nil,x_ret,ev.eq_2,ev.eq_19,evs,bltV,tupV,lstOf,toR,R.fl,R.bind,thenF,noLoc,noLocs,zjC,Rs.pv]
theorem zkx {α:Type} (f:Nat->List α) {i:Nat}:∀ n,i<=n->(upTo f i).length<=(upTo f n).length
 | 0,h=>by rw [show i=0 by omega]; exact Nat.le_refl _
 | n+1,h=>by
  by_cases e:i=n+1
  ·rw [e]; exact Nat.le_refl _
  ·have:=zkx f n (show i<=n by omega)
   simp [upTo]; omega
theorem zcb:∀ (N:Nat) (a:Int) (j:Nat) (x:PV),(rangeL N a 1)[j]?=some x->x=.int (a+j)/\j < N
 | 0,a,j,x,h=>by simp [rangeL] at h
 | N+1,a,0,x,h=>by simp [rangeL] at h; exact ⟨by simp [h],by omega⟩
 | N+1,a,j+1,x,h=>by
  simp [rangeL] at h
  obtain ⟨h1,h2⟩:=zcb N (a+1) j x h
  exact ⟨by rw [h1]; congr 1; omega,by omega⟩
theorem zaT:∀ (N:Nat) (a:Int),(rangeL N a 1).length=N
 | 0,_=>rfl
 | N+1,a=>by simp [rangeL,zaT N]
theorem zjP {c m t w n:Int} (hc:c.natAbs<=200) (hm:m.natAbs<=200) (ht:t.natAbs<=200) (w0:0<=w) (w1:w<=16) (n0:0<=n) (n1:n<=8):(c+m * n+t * w * n).natAbs < 1000000:=by
 have h1:(m * n).natAbs<=200 * 8:=by rw [Int.natAbs_mul]; exact Nat.mul_le_mul hm (by omega)
 have h2:(t * w * n).natAbs<=200 * 16 * 8:=by rw [Int.natAbs_mul,Int.natAbs_mul]; exact Nat.mul_le_mul (Nat.mul_le_mul ht (by omega)) (by omega)
 generalize m * n=A at *
 generalize t * w * n=B at *
 omega
theorem zka (k:Nat) {b:Bool} {c m t w n:Int} (hm:m.natAbs<=200) (ht:t.natAbs<=200) (n0:0<=n) (n1:n<=8) (st:Store):callT T (k+1) zld [.tp b [.int c,.int m,.int t],.int w,.int n] st=.ok (.int (c+m * n+t * w * n)) st:=by
 have hT:T zld=some zgK:=rfl
 have h1:m.natAbs < 18446744073709551616:=by omega
 have h2:t.natAbs < 18446744073709551616:=by omega
 have h3:n.natAbs < 18446744073709551616:=by omega
 rw [callT,hT]
 simp_all! [zgK,Nat.zero_add,Nat.reduceAdd,noLocs,noLoc,Bool.and_self,List.append_nil,xs_cons,xs_nil,x_ret,ev.eq_1,ev.eq_2,ev.eq_3,ev.eq_16,List.getElem?_cons_zero,List.getElem?_cons_succ,bd_ok,fl_ok,toR_some,ix0,ix1,ix2,zdr h1,zdr h2,zaV h3,zbP,th_rt]
theorem zpJ {call:Cl} {ρ:IC.Env} {st:Store} {e:Ce} {R v:Int} (h:ρ[5]?=some (some (.int R))) (he:ev call ρ st e=.ok (.int v) st):ex call ρ st (.aug 5 .add e)=.nx (ρ.set 5 (some (.int (R+v)))) st:=by
 rw [zsb h,he]
 rfl
noncomputable def unB6:Css:=match f_qunrolled.body with
 | .cons _ (.cons _ (.cons (.for _ _ b) _))=>b
 | _=>.nil
noncomputable def unB7:Css:=match unB6 with
 | .cons (.ite _ _ (.cons (.for _ _ b) _)) _=>b
 | _=>.nil
noncomputable def unB8:Css:=match unB7 with
 | .cons _ (.cons (.for _ _ b) _)=>b
 | _=>.nil
noncomputable def unB10:Css:=match unB8 with
 | .cons (.ite _ _ (.cons (.ite _ (.cons _ (.cons _ (.cons (.for _ _ b) _))) _) _)) _=>b
 | _=>.nil
noncomputable def unC:Ce:=.call zeb (.cons (.idx (.var 0) (.cst (.int 1))) (.cons (.var 1) (.cons (.var 2) (.cons (.var 3) .nil))))
theorem zj0 (k:Nat) {I J n:Int} {st:Store}:∀ (vs:List PV) (rs:List Rs),deepOf vs=some rs->compB (callT T (k+2)) [none,some (.int I),some (.int J),some (.int n)] (.n 0) (.cst (.bl true)) unC vs st=.ok (rs.map fun r=>r.pv I J n) st
 | [],rs,h=>by cases h; exact zj5
 | v :: vs,rs,h=>by
  unfold deepOf at h
  split at h
  ·rename_i a b ha hb
   cases h
   obtain ⟨f,v1,rfl,h1⟩:=zkE ha
   have hp:=zhv k h1 I J n st
   have ih:=zj0 k (I:=I) (J:=J) (n:=n) (st:=st) vs b hb
   have h1:oneB (callT T (k+2)) [none,some (.int I),some (.int J),some (.int n)] (.n 0) (.cst (.bl true)) unC (.tp f [.str "row",v1]) st=.ok (some (a.pv I J n)) st:=by
    simp? [oneB,unC,bT_n,List.set_cons_zero,ev.eq_1,ev.eq_16,ev.eq_18,evs,bd_ok,t_bl,ono,cond_true,toR_some,ix1,hp]
   rw [zhY,h1,bd_ok,ih,bd_ok]
   rfl
  ·cases h
theorem zq3 {acc:List PV}:mthOk .extend [Ob.lst acc] (.loc 0)=some true:=rfl
theorem zpl {acc:List PV}:mthOk .append [Ob.lst acc] (.loc 0)=some true:=rfl
theorem len0 {acc:List PV}:bltV .len [Ob.lst acc] [.loc 0]=some (.int acc.length):=rfl
theorem znx (k:Nat) {p0 p6 p9:Option PV} {w n I J R:Int} {f:Bool} {s c sn:PV} {d:Bool} {vs:List PV} {rs:List Rs} (hd:deepOf vs=some rs) {acc:List PV} (hR:R<=4000) (hl:acc.length+rs.length<=4000) :
  exs (callT T (k+2)) [p0,some (.int w),some (.int n),some (.int 4000),some (.loc 0),some (.int R),p6,some (.int I),some (.tp f [s,c,sn,.tp d vs]),p9,some (.int J)] [.lst acc] unB10=.nx [p0,some (.int w),some (.int n),some (.int 4000),some (.loc 0),some (.int R),p6,some (.int I),some (.tp f [s,c,sn,.tp d vs]),p9,some (.int J)] [.lst (acc++rs.map fun r=>r.pv I J n)]:=by
 have hc:=zj0 k (I:=I) (J:=J) (n:=n) (st:=[.lst acc]) vs rs hd
 have h1:(acc.length:Int)<=4000:=by omega
 have h2:rs.length<=1000000:=by omega
 have h3:acc.length+rs.length<=1000000:=by omega
 have hls:lstR (.ok (rs.map fun r=>r.pv I J n) [.lst acc])=.ok (.lst (rs.map fun r=>r.pv I J n)) [.lst acc]:=by simp [lstR,h2]
 have hex:mthV .extend [Ob.lst acc] (.loc 0) [.lst (rs.map fun r=>r.pv I J n)]=.ok .non [.lst (acc++rs.map fun r=>r.pv I J n)]:=by simp [mthV,extV,h3]
 have hb:unB10=.cons (.ite (.and (.cmp .le (.var 5) (.cst (.int 4000))) (.cmp .le (.blt .len (.cons (.var 4) .nil)) (.var 3))) (.cons (.expr (.mth .extend (.var 4) (.cons (.comp [none,some 7,some 10,some 2] (.n 0) (.seq (.idx (.var 8) (.cst (.int 3)))) (.cst (.bl true)) unC) .nil))) .nil) .nil) .nil:=rfl
 rw [hb]
 simp? [xs_cons,xs_nil,x_ite,zfe,zpA,evi,ev.eq_1,ev.eq_6,ev.eq_8,ev.eq_16,ev.eq_19,ev.eq_20,evs,bd_ok,fl_ok,toR_some,len0,c_le,hR,h1,decide_true,onBl,cond_true,t_bl,on_t,ono,zq3,List.map_cons,List.map_nil,Option.bind_none,Option.bind_some,Option.join_some,ix3,hc,hls,hex,th_nx]
theorem un10 (k:Nat) {p0 p6 p9:Option PV} {w n R:Int} {I:Nat} {f:Bool} {s c sn:PV} {d:Bool} {vs:List PV} {rs:List Rs} (hd:deepOf vs=some rs) {acc:List PV} {N:Nat} {u:Option PV} (hR:R<=4000) (hl:acc.length+(upTo (fun J=>rs.map fun r=>r.pv I J n) N).length<=4000) :
  ∃ u',forB (callT T (k+2)) (.n 10) unB10 (rangeL N 0 1) [p0,some (.int w),some (.int n),some (.int 4000),some (.loc 0),some (.int R),p6,some (.int I),some (.tp f [s,c,sn,.tp d vs]),p9,u] [.lst acc]=.nx [p0,some (.int w),some (.int n),some (.int 4000),some (.loc 0),some (.int R),p6,some (.int I),some (.tp f [s,c,sn,.tp d vs]),p9,u'] [.lst (acc++upTo (fun J=>rs.map fun r=>r.pv I J n) N)]:=by
 obtain ⟨ρ',st',h1,u',rfl,rfl⟩:=zfo (call:=callT T (k+2)) (t:=.n 10) (b:=unB10) (fun i ρ st=>∃ u,ρ=[p0,some (.int w),some (.int n),some (.int 4000),some (.loc 0),some (.int R),p6,some (.int I),some (.tp f [s,c,sn,.tp d vs]),p9,u]/\st=[.lst (acc++upTo (fun J=>rs.map fun r=>r.pv I J n) i)]) (rangeL N 0 1) 0 [p0,some (.int w),some (.int n),some (.int 4000),some (.loc 0),some (.int R),p6,some (.int I),some (.tp f [s,c,sn,.tp d vs]),p9,u] [.lst acc] ⟨u,rfl,by simp [upTo]⟩ (by
  rintro j x ρ st hx ⟨u,rfl,rfl⟩
  obtain ⟨rfl,hj⟩:=zcb N 0 j x hx
  rw [Nat.zero_add,Int.zero_add]
  have hle:=zkx (fun J=>rs.map fun r=>r.pv I J n) (i:=j+1) N (by omega)
  simp only [upTo,List.length_append,List.length_map] at hle hl
  refine ⟨_,_,_,rfl,znx k hd hR (by simp; omega),_,rfl,?_⟩
  rw [upTo,List.append_assoc])
 rw [zaT,Nat.zero_add] at h1
 exact ⟨u',h1⟩
theorem zic:cQ "row" "row" true:=by with_unfolding_all rfl
theorem zih:cQ "rounds" "row" false:=by with_unfolding_all rfl
theorem app0 {acc:List PV} {x:PV} (h:acc.length < 1000000):mthV .append [Ob.lst acc] (.loc 0) [x]=.ok .non [.lst (acc++[x])]:=by simp [mthV,appV,h]
theorem zmN {z:Int} (h:z.natAbs < 1000000):rng1 (.int z)=some (rangeL z.toNat 0 1):=by
 simp only [rng1]
 rw [if_pos (by omega)]
theorem zoW (k:Nat) {p0 p6 u9 u10:Option PV} {w n R:Int} {I:Nat} {v:PV} {p:T2} (hp:part2 v=some p) {acc:List PV} (w0:0<=w) (w1:w<=16) (n0:0<=n) (n1:n<=8) (hR0:0<=R) (hR:R+p.rnd w n<=4000) (hl:acc.length+(p.rows w n I).length<=4000) :
  ∃ v9 v10,exs (callT T (k+2)) [p0,some (.int w),some (.int n),some (.int 4000),some (.loc 0),some (.int R),p6,some (.int I),some v,u9,u10] [.lst acc] unB8=.nx [p0,some (.int w),some (.int n),some (.int 4000),some (.loc 0),some (.int (R+p.rnd w n)),p6,some (.int I),some v,v9,v10] [.lst (acc++p.rows w n I)]:=by
 rcases zpb hp with ⟨r,rfl,hr⟩ | ⟨a,b,sn,d,vs,c,m,t,rs,rfl,rfl,hd,hc,hm,ht⟩
 ·obtain ⟨f,v1,rfl,h1⟩:=zkE hr
  have hpl:=zhv k h1 I 0 n [.lst acc]
  have hal:acc.length < 1000000:=by omega
  refine ⟨u9,u10,?_⟩
  simp? [unB8,unB7,unB6,f_qunrolled,xs_cons,xs_nil,x_ite,zfe,ev.eq_1,ev.eq_8,ev.eq_16,ev.eq_18,ev.eq_20,evs,bd_ok,fl_ok,toR_some,ix0,ix1,zic,t_bl,on_t,cond_true,ono,zpl,hpl,app0 hal,th_nx,T2.rnd,T2.rows]
  simp
 ·have hcn:=zka (k+1) (b:=b) (c:=c) (w:=w) hm ht n0 n1 [.lst acc]
  have hcb:=zjP hc hm ht w0 w1 n0 n1
  simp only [T2.rnd,T2.rows] at hR hl ⊢
  have hN:((cnt c m t w n:Nat):Int)=if 0 < (c+m * n+t * w * n) then (c+m * n+t * w * n) else 0:=by
   unfold cnt; split <;> omega
  have h40:R<=4000:=by omega
  have hal:(acc.length:Int)<=4000:=by omega
  have hmax:bltV .max [Ob.lst acc] [.int 0,.int (c+m * n+t * w * n)]=some (.int ((cnt c m t w n:Nat):Int)):=by
   simp only [bltV,maxV]; rw [hN]
  have hmin:bltV .min [Ob.lst acc] [.int ((cnt c m t w n:Nat):Int),.int 4001]=some (.int ((cnt c m t w n:Nat):Int)):=by
   simp only [bltV,minV]; rw [if_neg (by omega)]
  have hrg:rng1 (.int ((cnt c m t w n:Nat):Int))=some (rangeL (cnt c m t w n) 0 1):=by
   rw [zmN (by omega),Int.toNat_natCast]
  obtain ⟨u',e⟩:=un10 k (p0:=p0) (p6:=p6) (p9:=some (.int ((cnt c m t w n:Nat):Int))) (w:=w) (n:=n) (R:=R+(cnt c m t w n:Nat)) (I:=I) (f:=a) (s:=.str "rounds") (c:=.tp b [.int c,.int m,.int t]) (sn:=sn) (d:=d) hd (acc:=acc) (N:=cnt c m t w n) (u:=u10) hR hl
  refine ⟨some (.int ((cnt c m t w n:Nat):Int)),u',?_⟩
  have hau:∀ st,ex (callT T (k+2)) [p0,some (.int w),some (.int n),some (.int 4000),some (.loc 0),some (.int R),p6,some (.int I),some (.tp a [.str "rounds",.tp b [.int c,.int m,.int t],sn,.tp d vs]),some (.int ((cnt c m t w n:Nat):Int)),u10] st (.aug 5 .add (.var 9))=.nx [p0,some (.int w),some (.int n),some (.int 4000),some (.loc 0),some (.int (R+(cnt c m t w n:Nat))),p6,some (.int I),some (.tp a [.str "rounds",.tp b [.int c,.int m,.int t],sn,.tp d vs]),some (.int ((cnt c m t w n:Nat):Int)),u10] st:=fun st=>zpJ rfl (by simp? [])
  have hb:unB8=(match unB8 with
   | .cons (.ite q1 q2 (.cons (.ite q3 (.cons q4 (.cons q5 (.cons (.for q6 q7 _) q8))) q9) q10)) q11=>.cons (.ite q1 q2 (.cons (.ite q3 (.cons q4 (.cons q5 (.cons (.for q6 q7 unB10) q8))) q9) q10)) q11
   | _=>.nil):=rfl
  rw [hb]
  simp? [unB8,unB7,unB6,f_qunrolled,xs_cons,xs_nil,x_ite,x_asg,zbR,evi,ev.eq_1,ev.eq_6,ev.eq_8,ev.eq_16,ev.eq_18,ev.eq_19,evs,bd_ok,fl_ok,toR_some,ix0,ix1,ix3,zih,t_bl,on_t,onBl,cond_true,cond_false,c_le,len0,h40,hal,decide_true,hcn,hmax,hmin,bT_n,nxO_some,th_nx,List.set_cons_zero,List.set_cons_succ,hau,hrg,toL,e]
theorem un8 (k:Nat) {p0 p6:Option PV} {w n:Int} {I:Nat} (w0:0<=w) (w1:w<=16) (n0:0<=n) (n1:n<=8):∀ (vs:List PV) (ps:List T2) (R:Int) (acc:List PV) (u8 u9 u10:Option PV),parts2 vs=some ps->0<=R->R+rnd2 w n ps<=4000->acc.length+(rows2 w n I ps).length<=4000 ->
  ∃ v8 v9 v10,forB (callT T (k+2)) (.n 8) unB8 vs [p0,some (.int w),some (.int n),some (.int 4000),some (.loc 0),some (.int R),p6,some (.int I),u8,u9,u10] [.lst acc]=.nx [p0,some (.int w),some (.int n),some (.int 4000),some (.loc 0),some (.int (R+rnd2 w n ps)),p6,some (.int I),v8,v9,v10] [.lst (acc++rows2 w n I ps)]
 | [],ps,R,acc,u8,u9,u10,h,_,_,_=>by
  cases h
  exact ⟨u8,u9,u10,by rw [zbl]; simp [rnd2,rows2]⟩
 | v :: vs,ps,R,acc,u8,u9,u10,h,hR0,hR,hl=>by
  unfold parts2 at h
  split at h
  ·rename_i a b ha hb
   cases h
   have q1:rnd2 w n (a :: b)=a.rnd w n+rnd2 w n b:=by simp [rnd2]
   have q2:rows2 w n I (a :: b)=a.rows w n I++rows2 w n I b:=by simp [rows2]
   rw [q1] at hR
   rw [q2,List.length_append] at hl
   obtain ⟨v9,v10,e1⟩:=zoW k (p0:=p0) (p6:=p6) (u9:=u9) (u10:=u10) (R:=R) (I:=I) ha (acc:=acc) w0 w1 n0 n1 hR0 (by omega) (by omega)
   obtain ⟨x8,x9,x10,e2⟩:=un8 k (p0:=p0) (p6:=p6) (I:=I) w0 w1 n0 n1 vs b (R+a.rnd w n) (acc++a.rows w n I) (some v) v9 v10 hb (by omega) (by omega) (by rw [List.length_append]; omega)
   refine ⟨x8,x9,x10,?_⟩
   rw [za5 (ρ1:=[p0,some (.int w),some (.int n),some (.int 4000),some (.loc 0),some (.int R),p6,some (.int I),some v,u9,u10]) rfl,e1,q1,q2]
   show forB _ _ _ _ _ _=_
   rw [e2,List.append_assoc,Int.natCast_add,Int.add_assoc]
  ·cases h
theorem zoO (k:Nat) {p0 u8 u9 u10:Option PV} {w n R:Int} {I:Nat} {a b d:Bool} {sn:PV} {vs:List PV} {c m t:Int} {ps:List T2} (hp:parts2 vs=some ps) {acc:List PV} (w0:0<=w) (w1:w<=16) (n0:0<=n) (n1:n<=8) (hR0:0<=R) (hR:R+1+rnd2 w n ps<=4000) (hl:acc.length+(rows2 w n I ps).length<=4000) :
  ∃ v8 v9 v10,exs (callT T (k+2)) [p0,some (.int w),some (.int n),some (.int 4000),some (.loc 0),some (.int R),some (.tp a [.str "rounds",.tp b [.int c,.int m,.int t],sn,.tp d vs]),some (.int I),u8,u9,u10] [.lst acc] unB7=.nx [p0,some (.int w),some (.int n),some (.int 4000),some (.loc 0),some (.int (R+1+rnd2 w n ps)),some (.tp a [.str "rounds",.tp b [.int c,.int m,.int t],sn,.tp d vs]),some (.int I),v8,v9,v10] [.lst (acc++rows2 w n I ps)]:=by
 obtain ⟨v8,v9,v10,e⟩:=un8 k (p0:=p0) (p6:=some (.tp a [.str "rounds",.tp b [.int c,.int m,.int t],sn,.tp d vs])) (I:=I) w0 w1 n0 n1 vs ps (R+1) acc u8 u9 u10 hp (by omega) hR hl
 refine ⟨v8,v9,v10,?_⟩
 have hau:∀ st,ex (callT T (k+2)) [p0,some (.int w),some (.int n),some (.int 4000),some (.loc 0),some (.int R),some (.tp a [.str "rounds",.tp b [.int c,.int m,.int t],sn,.tp d vs]),some (.int I),u8,u9,u10] st (.aug 5 .add (.cst (.int 1)))=.nx [p0,some (.int w),some (.int n),some (.int 4000),some (.loc 0),some (.int (R+1)),some (.tp a [.str "rounds",.tp b [.int c,.int m,.int t],sn,.tp d vs]),some (.int I),u8,u9,u10] st:=fun st=>zpJ rfl (by simp only [ev.eq_1])
 have hb:unB7=.cons (.aug 5 .add (.cst (.int 1))) (.cons (.for (.n 8) (.seq (.idx (.var 6) (.cst (.int 3)))) unB8) (.cons (.ite (.or (.cmp .gt (.var 5) (.cst (.int 4000))) (.cmp .gt (.blt .len (.cons (.var 4) .nil)) (.var 3))) (.cons (.ret (.cst .non)) .nil) .nil) .nil)):=rfl
 have g1:¬ (4000:Int) < R+1+rnd2 w n ps:=by omega
 have g2:¬ (4000:Int) < ((acc++rows2 w n I ps).length:Nat):=by rw [List.length_append]; omega
 rw [hb]
 simp? [xs_cons,xs_nil,x_ite,zbR,evi,hau,ev.eq_1,ev.eq_7,ev.eq_8,ev.eq_16,ev.eq_19,evs,bd_ok,fl_ok,toR_some,ix3,th_nx,e,c_gt,len0,g1,g2,decide_false,onBl,cond_false,t_bl,on_t]
theorem un7 (k:Nat) {p0:Option PV} {w n R:Int} {a b d:Bool} {sn:PV} {vs:List PV} {c m t:Int} {ps:List T2} (hp:parts2 vs=some ps) {acc:List PV} {N:Nat} {u7 u8 u9 u10:Option PV} (w0:0<=w) (w1:w<=16) (n0:0<=n) (n1:n<=8) (hR0:0<=R) (hR:R+(N * (1+rnd2 w n ps):Nat)<=4000) (hl:acc.length+(upTo (fun I=>rows2 w n I ps) N).length<=4000) :
  ∃ v7 v8 v9 v10,forB (callT T (k+2)) (.n 7) unB7 (rangeL N 0 1) [p0,some (.int w),some (.int n),some (.int 4000),some (.loc 0),some (.int R),some (.tp a [.str "rounds",.tp b [.int c,.int m,.int t],sn,.tp d vs]),u7,u8,u9,u10] [.lst acc]=.nx [p0,some (.int w),some (.int n),some (.int 4000),some (.loc 0),some (.int (R+(N * (1+rnd2 w n ps):Nat))),some (.tp a [.str "rounds",.tp b [.int c,.int m,.int t],sn,.tp d vs]),v7,v8,v9,v10] [.lst (acc++upTo (fun I=>rows2 w n I ps) N)]:=by
 obtain ⟨ρ',st',h1,v7,v8,v9,v10,rfl,rfl⟩:=zfo (call:=callT T (k+2)) (t:=.n 7) (b:=unB7) (fun i ρ st=>∃ v7 v8 v9 v10,ρ=[p0,some (.int w),some (.int n),some (.int 4000),some (.loc 0),some (.int (R+(i * (1+rnd2 w n ps):Nat))),some (.tp a [.str "rounds",.tp b [.int c,.int m,.int t],sn,.tp d vs]),v7,v8,v9,v10]/\st=[.lst (acc++upTo (fun I=>rows2 w n I ps) i)]) (rangeL N 0 1) 0 [p0,some (.int w),some (.int n),some (.int 4000),some (.loc 0),some (.int R),some (.tp a [.str "rounds",.tp b [.int c,.int m,.int t],sn,.tp d vs]),u7,u8,u9,u10] [.lst acc] ⟨u7,u8,u9,u10,by simp,by simp [upTo]⟩ (by
  rintro j x ρ st hx ⟨v7,v8,v9,v10,rfl,rfl⟩
  obtain ⟨rfl,hj⟩:=zcb N 0 j x hx
  rw [Nat.zero_add,Int.zero_add]
  have hle:=zkx (fun I=>rows2 w n I ps) (i:=j+1) N (by omega)
  have hmu:(j+1) * (1+rnd2 w n ps)<=N * (1+rnd2 w n ps):=Nat.mul_le_mul_right _ (by omega)
  have hms:(j+1) * (1+rnd2 w n ps)=j * (1+rnd2 w n ps)+(1+rnd2 w n ps):=Nat.succ_mul _ _
  simp only [upTo,List.length_append] at hle hl
  obtain ⟨x8,x9,x10,e⟩:=zoO k (p0:=p0) (u8:=v8) (u9:=v9) (u10:=v10) (R:=R+(j * (1+rnd2 w n ps):Nat)) (I:=j) (a:=a) (b:=b) (d:=d) (sn:=sn) (c:=c) (m:=m) (t:=t) hp (acc:=acc++upTo (fun I=>rows2 w n I ps) j) w0 w1 n0 n1 (by omega) (by omega) (by simp only [List.length_append]; omega)
  refine ⟨_,_,_,rfl,e,some (.int j),x8,x9,x10,?_,?_⟩
  ·rw [hms]
   simp only [List.cons.injEq,and_true,true_and,Option.some.injEq,PV.int.injEq]
   omega
  ·rw [upTo,List.append_assoc])
 rw [zaT,Nat.zero_add] at h1
 exact ⟨v7,v8,v9,v10,h1⟩
theorem zof (k:Nat) {p0 u7 u8 u9 u10:Option PV} {w n R:Int} {v:PV} {p:T1} (hp:part1 v=some p) {acc:List PV} (w0:0<=w) (w1:w<=16) (n0:0<=n) (n1:n<=8) (hR0:0<=R) (hR:R+p.rnd w n<=4000) (hl:acc.length+(p.rows w n).length<=4000) :
  ∃ v7 v8 v9 v10,exs (callT T (k+2)) [p0,some (.int w),some (.int n),some (.int 4000),some (.loc 0),some (.int R),some v,u7,u8,u9,u10] [.lst acc] unB6=.nx [p0,some (.int w),some (.int n),some (.int 4000),some (.loc 0),some (.int (R+p.rnd w n)),some v,v7,v8,v9,v10] [.lst (acc++p.rows w n)]:=by
 rcases zow hp with ⟨r,rfl,hr⟩ | ⟨a,b,sn,d,vs,c,m,t,ps,rfl,rfl,hd,hc,hm,ht⟩
 ·obtain ⟨f,v1,rfl,h1⟩:=zkE hr
  have hpl:=zhv k h1 0 0 n [.lst acc]
  have hal:acc.length < 1000000:=by omega
  refine ⟨u7,u8,u9,u10,?_⟩
  simp? [unB6,f_qunrolled,xs_cons,xs_nil,x_ite,zfe,ev.eq_1,ev.eq_8,ev.eq_16,ev.eq_18,ev.eq_20,evs,bd_ok,fl_ok,toR_some,ix0,ix1,zic,t_bl,on_t,cond_true,ono,zpl,hpl,app0 hal,th_nx,T1.rnd,T1.rows]
  simp
 ·have hcn:=zka (k+1) (b:=b) (c:=c) (w:=w) hm ht n0 n1 [.lst acc]
  have hcb:=zjP hc hm ht w0 w1 n0 n1
  simp only [T1.rnd,T1.rows] at hR hl ⊢
  obtain ⟨v7,v8,v9,v10,e⟩:=un7 k (p0:=p0) (R:=R) (a:=a) (b:=b) (d:=d) (sn:=sn) (c:=c) (m:=m) (t:=t) hd (acc:=acc) (N:=cnt c m t w n) (u7:=u7) (u8:=u8) (u9:=u9) (u10:=u10) w0 w1 n0 n1 hR0 hR hl
  have hN1:cnt c m t w n<=cnt c m t w n * (1+rnd2 w n ps):=Nat.le_mul_of_pos_right _ (by omega)
  have hmin:bltV .min [Ob.lst acc] [.int (c+m * n+t * w * n),.int 4001]=some (.int (c+m * n+t * w * n)):=by
   simp only [bltV,minV]; rw [if_neg (by unfold cnt at *; omega)]
  have hrg:rng1 (.int (c+m * n+t * w * n))=some (rangeL (cnt c m t w n) 0 1):=zmN hcb
  refine ⟨v7,v8,v9,v10,?_⟩
  have hb:unB6=(match unB6 with
   | .cons (.ite q1 q2 (.cons (.for q6 q7 _) q8)) q11=>.cons (.ite q1 q2 (.cons (.for q6 q7 unB7) q8)) q11
   | _=>.nil):=rfl
  rw [hb]
  simp? [unB6,f_qunrolled,xs_cons,xs_nil,x_ite,zbR,evi,ev.eq_1,ev.eq_8,ev.eq_16,ev.eq_18,ev.eq_19,evs,bd_ok,fl_ok,toR_some,ix0,ix1,zih,t_bl,on_t,cond_false,hcn,hmin,hrg,toL,e,th_nx]
theorem un6 (k:Nat) {p0:Option PV} {w n:Int} (w0:0<=w) (w1:w<=16) (n0:0<=n) (n1:n<=8):∀ (vs:List PV) (ps:List T1) (R:Int) (acc:List PV) (u6 u7 u8 u9 u10:Option PV),parts1 vs=some ps->0<=R->R+rnd1 w n ps<=4000->acc.length+(rows1 w n ps).length<=4000 ->
  ∃ v6 v7 v8 v9 v10,forB (callT T (k+2)) (.n 6) unB6 vs [p0,some (.int w),some (.int n),some (.int 4000),some (.loc 0),some (.int R),u6,u7,u8,u9,u10] [.lst acc]=.nx [p0,some (.int w),some (.int n),some (.int 4000),some (.loc 0),some (.int (R+rnd1 w n ps)),v6,v7,v8,v9,v10] [.lst (acc++rows1 w n ps)]
 | [],ps,R,acc,u6,u7,u8,u9,u10,h,_,_,_=>by
  cases h
  exact ⟨u6,u7,u8,u9,u10,by rw [zbl]; simp [rnd1,rows1]⟩
 | v :: vs,ps,R,acc,u6,u7,u8,u9,u10,h,hR0,hR,hl=>by
  unfold parts1 at h
  split at h
  ·rename_i a b ha hb
   cases h
   have q1:rnd1 w n (a :: b)=a.rnd w n+rnd1 w n b:=by simp [rnd1]
   have q2:rows1 w n (a :: b)=a.rows w n++rows1 w n b:=by simp [rows1]
   rw [q1] at hR
   rw [q2,List.length_append] at hl
   obtain ⟨v7,v8,v9,v10,e1⟩:=zof k (p0:=p0) (u7:=u7) (u8:=u8) (u9:=u9) (u10:=u10) (R:=R) ha (acc:=acc) w0 w1 n0 n1 hR0 (by omega) (by omega)
   obtain ⟨x6,x7,x8,x9,x10,e2⟩:=un6 k (p0:=p0) w0 w1 n0 n1 vs b (R+a.rnd w n) (acc++a.rows w n) (some v) v7 v8 v9 v10 hb (by omega) (by omega) (by rw [List.length_append]; omega)
   refine ⟨x6,x7,x8,x9,x10,?_⟩
   rw [za5 (ρ1:=[p0,some (.int w),some (.int n),some (.int 4000),some (.loc 0),some (.int R),some v,u7,u8,u9,u10]) rfl,e1,q1,q2]
   show forB _ _ _ _ _ _=_
   rw [e2,List.append_assoc,Int.natCast_add,Int.add_assoc]
  ·cases h
theorem unrolled (k:Nat) {b:Bool} {vs:List PV} {ps:List T1} {w n:Int} (hv:noLocs vs=true) (hp:parts1 vs=some ps) (w0:0<=w) (w1:w<=16) (n0:0<=n) (n1:n<=8) (hR:rnd1 w n ps<=4000) (hl:(rows1 w n ps).length<=4000) (hno:noLocs (rows1 w n ps)=true) (st:Store) :
  callT T (k+3) zdj [.tp b vs,.int w,.int n,.int 4000] st=.ok (.lst (rows1 w n ps)) st:=by
 obtain ⟨v6,v7,v8,v9,v10,e⟩:=un6 k (p0:=some (.tp b vs)) w0 w1 n0 n1 vs ps 0 [] none none none none none hp (by omega) (by omega) (by simpa using hl)
 rw [List.nil_append] at e
 have hT:T zdj=some ⟨4,11,true,f_qunrolled.body⟩:=rfl
 have hb:f_qunrolled.body=.cons (.asg (.n 4) (.newl .nil)) (.cons (.asg (.n 5) (.cst (.int 0))) (.cons (.for (.n 6) (.seq (.var 0)) unB6) (.cons (.ite (.cmp .gt (.blt .len (.cons (.var 4) .nil)) (.var 3)) (.cons (.ret (.cst .non)) .nil) .nil) (.cons (.ret (.frz (.var 4))) .nil)))):=rfl
 have hnl:noLocs [.tp b vs,.int w,.int n,.int 4000]=true:=by simp [noLocs,noLoc,hv]
 have g:¬ (4000:Int) < ((rows1 w n ps).length:Nat):=by omega
 have hf:frzV (.loc 0) [.lst (rows1 w n ps)]=.ok (.lst (rows1 w n ps)) [.dead]:=rfl
 rw [callT,hT,hb]
 simp_all! [Nat.zero_add,Nat.reduceAdd,hnl,xs_cons,xs_nil,x_asg,zbR,x_ite,x_ret,evi,ev.eq_1,ev.eq_2,ev.eq_8,ev.eq_13,ev.eq_19,ev.eq_24,evs,List.getElem?_cons_zero,List.getElem?_cons_succ,bd_ok,fl_ok,toR_some,sizeMax,Nat.zero_le,bT_n,nxO_some,th_nx,th_rt,List.set_cons_zero,List.set_cons_succ,e,len0,c_gt,g,decide_false,t_bl,on_t,cond_false,hf,noLoc,hno]
theorem zpZ:cQ "mark" "times" false:=by with_unfolding_all rfl
theorem zqe:cmpV .notin (.str "mark") (.tup [.str "mark",.str "ask"])=some (.bl false):=by with_unfolding_all rfl
theorem zra:cQ "ask" "times" false:=by with_unfolding_all rfl
theorem zq0:cmpV .notin (.str "ask") (.tup [.str "mark",.str "ask"])=some (.bl false):=by with_unfolding_all rfl
theorem zr4:cQ "set" "times" false:=by with_unfolding_all rfl
theorem zrB:cmpV .notin (.str "set") (.tup [.str "mark",.str "ask"])=some (.bl true):=by with_unfolding_all rfl
theorem zqC:cQ "move" "times" false:=by with_unfolding_all rfl
theorem zp0:cmpV .notin (.str "move") (.tup [.str "mark",.str "ask"])=some (.bl true):=by with_unfolding_all rfl
theorem zql:cQ "bare" "times" false:=by with_unfolding_all rfl
theorem zqB:cmpV .notin (.str "bare") (.tup [.str "mark",.str "ask"])=some (.bl true):=by with_unfolding_all rfl
theorem zoH:cQ "twice" "times" false:=by with_unfolding_all rfl
theorem zou:cmpV .notin (.str "twice") (.tup [.str "mark",.str "ask"])=some (.bl true):=by with_unfolding_all rfl
theorem zqM:cQ "half" "times" false:=by with_unfolding_all rfl
theorem zqN:cmpV .notin (.str "half") (.tup [.str "mark",.str "ask"])=some (.bl true):=by with_unfolding_all rfl
theorem zri:cQ "sum" "times" false:=by with_unfolding_all rfl
theorem zsB:cmpV .notin (.str "sum") (.tup [.str "mark",.str "ask"])=some (.bl true):=by with_unfolding_all rfl
theorem zqQ:cQ "less" "times" false:=by with_unfolding_all rfl
theorem zqI:cmpV .notin (.str "less") (.tup [.str "mark",.str "ask"])=some (.bl true):=by with_unfolding_all rfl
theorem zqJ:cQ "both" "times" false:=by with_unfolding_all rfl
theorem zqE:cmpV .notin (.str "both") (.tup [.str "mark",.str "ask"])=some (.bl true):=by with_unfolding_all rfl
theorem zrm:cQ "any" "times" false:=by with_unfolding_all rfl
theorem zsl:cmpV .notin (.str "any") (.tup [.str "mark",.str "ask"])=some (.bl true):=by with_unfolding_all rfl
theorem zry:cQ "odd" "times" false:=by with_unfolding_all rfl
theorem zr7:cmpV .notin (.str "odd") (.tup [.str "mark",.str "ask"])=some (.bl true):=by with_unfolding_all rfl
theorem abS:Str.ofString "ab"=⟨#[97,98]⟩:=by with_unfolding_all rfl
theorem zhU {l:Nat} (h1:l ≠ 97) (h2:l ≠ 98):cmpV .isin (.str (chS l)) (.str "ab")=some (.bl false):=by
 have e0:(#[97,98]:Array Nat).extract 0 1=#[97]:=rfl
 have e1:(#[97,98]:Array Nat).extract 1 2=#[98]:=rfl
 have n1:¬ (97=l):=fun z=>h1 z.symm
 have n2:¬ (98=l):=fun z=>h2 z.symm
 rw [abS]
 simp [cmpV,inS,chS,Str.length,List.range,List.range.loop,e0,e1,n1,n2]
def okC (x:Cel):Prop:=0<=x.2/\x.2<=99
def okP (x:Cel):Prop:=okC x/\x.1 ≠ 97/\x.1 ≠ 98
noncomputable def okR:Rw->Prop
 | .mark _=>True
 | .ask x=>okC x
 | .set t _=>okP t
 | .move t x=>okP t/\okC x
 | .bare t x=>okP t/\okC x
 | .twice t x=>okP t/\okC x
 | .half t x=>okP t/\okC x
 | .sum t x y=>okP t/\okC x/\okC y
 | .less t x y=>okP t/\okC x/\okC y
 | .both t x y=>okP t/\okC x/\okC y
 | .any t x y=>okP t/\okC x/\okC y
 | .odd t x y=>okP t/\okC x/\okC y
noncomputable def rrB1:Css:=match f_qrows_right.body with
 | .cons (.for _ _ b) _=>b
 | _=>.nil
noncomputable def rrB2:Css:=match rrB1 with
 | .cons (.for _ _ b) _=>b
 | _=>.nil
theorem zfQ {call:Cl} {p0 p1:Option PV} {st:Store}:∀ (vs:List PV) (u:Option PV),(∀ v ∈ vs,(∃ d,v=.int d) \/ ∃ x,v=celV x/\okC x)->∃ u',forB call (.n 2) rrB2 vs [p0,p1,u] st=.nx [p0,p1,u'] st
 | [],u,_=>⟨u,zbl⟩
 | v :: vs,u,h=>by
  obtain ⟨u',e⟩:=zfQ (call:=call) (p0:=p0) (p1:=p1) (st:=st) vs (some v) fun x hx=>h x (List.mem_cons_of_mem _ hx)
  refine ⟨u',?_⟩
  have hb:exs call [p0,p1,some v] st rrB2=.nx [p0,p1,some v] st:=by
   rcases h v List.mem_cons_self with ⟨d,rfl⟩ | ⟨x,rfl,h1,h2⟩
   ·have hi:isiV (.int d) [.tuple]=some (.bl false):=rfl
    simp? [rrB2,rrB1,f_qrows_right,xs_cons,xs_nil,x_ite,ev.eq_6,ev.eq_21,bd_ok,fl_ok,toR_some,hi,onBl,cond_false,t_bl,on_t,th_nx]
   ·have hi:isiV (celV x) [.tuple]=some (.bl true):=rfl
    have hx:∀ st,idxV st (celV x) (.int 1)=some (.int x.2):=fun st=>ix1
    simp? [rrB2,rrB1,f_qrows_right,xs_cons,xs_nil,x_ite,ev.eq_1,ev.eq_5,ev.eq_6,ev.eq_9,ev.eq_16,ev.eq_21,bd_ok,fl_ok,toR_some,hi,hx,c_le,h1,h2,decide_true,blO,onO,onBl,cond_true,cond_false,t_bl,on_t,Bool.not_true,th_nx]
  rw [za5 (ρ1:=[p0,p1,some v]) rfl,hb]
  exact e
theorem slc1 {a:Bool} {x:PV} {vs:List PV}:slcV (.tp a (x :: vs)) (some 1) .non=some (.tup vs):=by
 have h1:clampI (vs.length+1) 1=1:=by simp [clampI]
 simp [slcV,optI,slcO,loOf,hiOf,cut,h1]
theorem zrG {call:Cl} {p0 u:Option PV} {st:Store} (r:Rw) (h:okR r):∃ u',exs call [p0,some (rowV r),u] st rrB1=.nx [p0,some (rowV r),u'] st:=by
 have hb:rrB1=(match rrB1 with
  | .cons (.for t i _) q=>.cons (.for t i rrB2) q
  | _=>.nil):=rfl
 rw [hb]
 cases r
 ·rename_i d
  obtain ⟨u',e⟩:=zfQ (call:=call) (p0:=p0) (p1:=some (rowV (.mark d))) (st:=st) [.int d] u (fun v hv=>by simp at hv; exact .inl ⟨d,hv⟩)
  refine ⟨u',?_⟩
  simp only [rowV] at e
  dsimp! [f_qrows_right,rrB1,rowV,zbR,x_ite,evi,ev.eq_6,ev.eq_7,ev.eq_8,ev.eq_17,optI,onP,slc1,ix0,ix1,onBl,cond_true,cond_false,t_bl,on_t,e,zpZ,zqe]
 ·rename_i x
  obtain ⟨u',e⟩:=zfQ (call:=call) (p0:=p0) (p1:=some (rowV (.ask x))) (st:=st) [celV x] u (fun v hv=>by simp at hv; exact .inr ⟨x,hv,h⟩)
  refine ⟨u',?_⟩
  simp only [rowV] at e
  dsimp! [f_qrows_right,rrB1,rowV,zbR,x_ite,evi,ev.eq_6,ev.eq_7,ev.eq_8,ev.eq_17,optI,onP,slc1,ix0,ix1,onBl,cond_true,cond_false,t_bl,on_t,e,zra,zq0]
 ·rename_i t d
  obtain ⟨u',e⟩:=zfQ (call:=call) (p0:=p0) (p1:=some (rowV (.set t d))) (st:=st) [celV t,.int d] u (fun v hv=>by
   simp at hv
   rcases hv with rfl | rfl
   ·exact .inr ⟨t,rfl,h.1⟩
   ·exact .inl ⟨d,rfl⟩)
  have hl:∀ st,idxV st (celV t) (.int 0)=some (.str (chS t.1)):=fun st=>ix0
  refine ⟨u',?_⟩
  simp only [rowV] at e
  dsimp! [f_qrows_right,rrB1,rowV,zbR,x_ite,evi,ev.eq_6,ev.eq_7,ev.eq_8,ev.eq_17,optI,onP,slc1,ix0,ix1,onBl,cond_true,cond_false,t_bl,on_t,e,zr4,zrB,hl,zhU h.2.1 h.2.2]
 ·rename_i t x
  obtain ⟨u',e⟩:=zfQ (call:=call) (p0:=p0) (p1:=some (rowV (.move t x))) (st:=st) [celV t,celV x] u (fun v hv=>by
   simp at hv
   rcases hv with rfl | rfl
   ·exact .inr ⟨t,rfl,h.1.1⟩
   ·exact .inr ⟨x,rfl,h.2⟩)
  have hl:∀ st,idxV st (celV t) (.int 0)=some (.str (chS t.1)):=fun st=>ix0
  refine ⟨u',?_⟩
  simp only [rowV] at e
  dsimp! [f_qrows_right,rrB1,rowV,zbR,x_ite,evi,ev.eq_6,ev.eq_7,ev.eq_8,ev.eq_17,optI,onP,slc1,ix0,ix1,onBl,cond_true,cond_false,t_bl,on_t,e,zqC,zp0,hl,zhU h.1.2.1 h.1.2.2]
 ·rename_i t x
  obtain ⟨u',e⟩:=zfQ (call:=call) (p0:=p0) (p1:=some (rowV (.bare t x))) (st:=st) [celV t,celV x] u (fun v hv=>by
   simp at hv
   rcases hv with rfl | rfl
   ·exact .inr ⟨t,rfl,h.1.1⟩
   ·exact .inr ⟨x,rfl,h.2⟩)
  have hl:∀ st,idxV st (celV t) (.int 0)=some (.str (chS t.1)):=fun st=>ix0
  refine ⟨u',?_⟩
  simp only [rowV] at e
  dsimp! [f_qrows_right,rrB1,rowV,zbR,x_ite,evi,ev.eq_6,ev.eq_7,ev.eq_8,ev.eq_17,optI,onP,slc1,ix0,ix1,onBl,cond_true,cond_false,t_bl,on_t,e,zql,zqB,hl,zhU h.1.2.1 h.1.2.2]
 ·rename_i t x
  obtain ⟨u',e⟩:=zfQ (call:=call) (p0:=p0) (p1:=some (rowV (.twice t x))) (st:=st) [celV t,celV x] u (fun v hv=>by
   simp at hv
   rcases hv with rfl | rfl
   ·exact .inr ⟨t,rfl,h.1.1⟩
   ·exact .inr ⟨x,rfl,h.2⟩)
  have hl:∀ st,idxV st (celV t) (.int 0)=some (.str (chS t.1)):=fun st=>ix0
  refine ⟨u',?_⟩
  simp only [rowV] at e
  dsimp! [f_qrows_right,rrB1,rowV,zbR,x_ite,evi,ev.eq_6,ev.eq_7,ev.eq_8,ev.eq_17,optI,onP,slc1,ix0,ix1,onBl,cond_true,cond_false,t_bl,on_t,e,zoH,zou,hl,zhU h.1.2.1 h.1.2.2]
 ·rename_i t x
  obtain ⟨u',e⟩:=zfQ (call:=call) (p0:=p0) (p1:=some (rowV (.half t x))) (st:=st) [celV t,celV x] u (fun v hv=>by
   simp at hv
   rcases hv with rfl | rfl
   ·exact .inr ⟨t,rfl,h.1.1⟩
   ·exact .inr ⟨x,rfl,h.2⟩)
  have hl:∀ st,idxV st (celV t) (.int 0)=some (.str (chS t.1)):=fun st=>ix0
  refine ⟨u',?_⟩
  simp only [rowV] at e
  dsimp! [f_qrows_right,rrB1,rowV,zbR,x_ite,evi,ev.eq_6,ev.eq_7,ev.eq_8,ev.eq_17,optI,onP,slc1,ix0,ix1,onBl,cond_true,cond_false,t_bl,on_t,e,zqM,zqN,hl,zhU h.1.2.1 h.1.2.2]
 ·rename_i t x y
  obtain ⟨u',e⟩:=zfQ (call:=call) (p0:=p0) (p1:=some (rowV (.sum t x y))) (st:=st) [celV t,celV x,celV y] u (fun v hv=>by
   simp at hv
   rcases hv with rfl | rfl | rfl
   ·exact .inr ⟨t,rfl,h.1.1⟩
   ·exact .inr ⟨x,rfl,h.2.1⟩
   ·exact .inr ⟨y,rfl,h.2.2⟩)
  have hl:∀ st,idxV st (celV t) (.int 0)=some (.str (chS t.1)):=fun st=>ix0
  refine ⟨u',?_⟩
  simp only [rowV] at e
  dsimp! [f_qrows_right,rrB1,rowV,zbR,x_ite,evi,ev.eq_6,ev.eq_7,ev.eq_8,ev.eq_17,optI,onP,slc1,ix0,ix1,onBl,cond_true,cond_false,t_bl,on_t,e,zri,zsB,hl,zhU h.1.2.1 h.1.2.2]
 ·rename_i t x y
  obtain ⟨u',e⟩:=zfQ (call:=call) (p0:=p0) (p1:=some (rowV (.less t x y))) (st:=st) [celV t,celV x,celV y] u (fun v hv=>by
   simp at hv
   rcases hv with rfl | rfl | rfl
   ·exact .inr ⟨t,rfl,h.1.1⟩
   ·exact .inr ⟨x,rfl,h.2.1⟩
   ·exact .inr ⟨y,rfl,h.2.2⟩)
  have hl:∀ st,idxV st (celV t) (.int 0)=some (.str (chS t.1)):=fun st=>ix0
  refine ⟨u',?_⟩
  simp only [rowV] at e
  dsimp! [f_qrows_right,rrB1,rowV,zbR,x_ite,evi,ev.eq_6,ev.eq_7,ev.eq_8,ev.eq_17,optI,onP,slc1,ix0,ix1,onBl,cond_true,cond_false,t_bl,on_t,e,zqQ,zqI,hl,zhU h.1.2.1 h.1.2.2]
 ·rename_i t x y
  obtain ⟨u',e⟩:=zfQ (call:=call) (p0:=p0) (p1:=some (rowV (.both t x y))) (st:=st) [celV t,celV x,celV y] u (fun v hv=>by
   simp at hv
   rcases hv with rfl | rfl | rfl
   ·exact .inr ⟨t,rfl,h.1.1⟩
   ·exact .inr ⟨x,rfl,h.2.1⟩
   ·exact .inr ⟨y,rfl,h.2.2⟩)
  have hl:∀ st,idxV st (celV t) (.int 0)=some (.str (chS t.1)):=fun st=>ix0
  refine ⟨u',?_⟩
  simp only [rowV] at e
  dsimp! [f_qrows_right,rrB1,rowV,zbR,x_ite,evi,ev.eq_6,ev.eq_7,ev.eq_8,ev.eq_17,optI,onP,slc1,ix0,ix1,onBl,cond_true,cond_false,t_bl,on_t,e,zqJ,zqE,hl,zhU h.1.2.1 h.1.2.2]
 ·rename_i t x y
  obtain ⟨u',e⟩:=zfQ (call:=call) (p0:=p0) (p1:=some (rowV (.any t x y))) (st:=st) [celV t,celV x,celV y] u (fun v hv=>by
   simp at hv
   rcases hv with rfl | rfl | rfl
   ·exact .inr ⟨t,rfl,h.1.1⟩
   ·exact .inr ⟨x,rfl,h.2.1⟩
   ·exact .inr ⟨y,rfl,h.2.2⟩)
  have hl:∀ st,idxV st (celV t) (.int 0)=some (.str (chS t.1)):=fun st=>ix0
  refine ⟨u',?_⟩
  simp only [rowV] at e
  dsimp! [f_qrows_right,rrB1,rowV,zbR,x_ite,evi,ev.eq_6,ev.eq_7,ev.eq_8,ev.eq_17,optI,onP,slc1,ix0,ix1,onBl,cond_true,cond_false,t_bl,on_t,e,zrm,zsl,hl,zhU h.1.2.1 h.1.2.2]
 ·rename_i t x y
  obtain ⟨u',e⟩:=zfQ (call:=call) (p0:=p0) (p1:=some (rowV (.odd t x y))) (st:=st) [celV t,celV x,celV y] u (fun v hv=>by
   simp at hv
   rcases hv with rfl | rfl | rfl
   ·exact .inr ⟨t,rfl,h.1.1⟩
   ·exact .inr ⟨x,rfl,h.2.1⟩
   ·exact .inr ⟨y,rfl,h.2.2⟩)
  have hl:∀ st,idxV st (celV t) (.int 0)=some (.str (chS t.1)):=fun st=>ix0
  refine ⟨u',?_⟩
  simp only [rowV] at e
  dsimp! [f_qrows_right,rrB1,rowV,zbR,x_ite,evi,ev.eq_6,ev.eq_7,ev.eq_8,ev.eq_17,optI,onP,slc1,ix0,ix1,onBl,cond_true,cond_false,t_bl,on_t,e,zry,zr7,hl,zhU h.1.2.1 h.1.2.2]
theorem znK {call:Cl} {p0:Option PV} {st:Store}:∀ (rs:List Rw) (u1 u2:Option PV),(∀ r ∈ rs,okR r)->∃ v1 v2,forB call (.n 1) rrB1 (rs.map rowV) [p0,u1,u2] st=.nx [p0,v1,v2] st
 | [],u1,u2,_=>⟨u1,u2,by rw [List.map_nil,zbl]⟩
 | r :: rs,u1,u2,h=>by
  obtain ⟨u',e1⟩:=zrG (call:=call) (p0:=p0) (u:=u2) (st:=st) r (h r List.mem_cons_self)
  obtain ⟨v1,v2,e2⟩:=znK (call:=call) (p0:=p0) (st:=st) rs (some (rowV r)) u' fun x hx=>h x (List.mem_cons_of_mem _ hx)
  refine ⟨v1,v2,?_⟩
  rw [List.map_cons,za5 (ρ1:=[p0,some (rowV r),u2]) rfl,e1]
  exact e2
theorem zo2 (r:Rw):noLoc (rowV r)=true:=by cases r <;> rfl
theorem zhb:∀ rs:List Rw,noLocs (rs.map rowV)=true
 | []=>rfl
 | r :: rs=>by simp [noLocs,zo2,zhb rs]
theorem zlW (k:Nat) {rs:List Rw} (h:∀ r ∈ rs,okR r) (st:Store):callT T (k+1) zcu [.lst (rs.map rowV)] st=.ok (.bl true) st:=by
 obtain ⟨v1,v2,e⟩:=znK (call:=callT T k) (p0:=some (.lst (rs.map rowV))) (st:=[]) rs none none h
 have hT:T zcu=some ⟨1,3,true,f_qrows_right.body⟩:=rfl
 have hb:f_qrows_right.body=.cons (.for (.n 1) (.seq (.var 0)) rrB1) (.cons (.ret (.cst (.bl true))) .nil):=rfl
 have hnl:noLocs [.lst (rs.map rowV)]=true:=by simp [noLocs,noLoc,zhb]
 rw [callT,hT,hb]
 simp_all! [Nat.zero_add,Nat.reduceAdd,hnl,xs_cons,xs_nil,zbR,x_ret,evi,ev.eq_1,ev.eq_2,List.getElem?_cons_zero,bd_ok,fl_ok,e,th_nx,th_rt,noLoc]
noncomputable def nT:List P1:=[.row (.set ⟨115,0,0,0,0⟩ 0),.rounds 0 1 0 [.row (.any ⟨115,0,0,0,0⟩ ⟨115,0,0,0,0⟩ ⟨98,0,1,0,0⟩)],.row (.ask ⟨115,0,0,0,0⟩),.row (.set ⟨109,0,0,0,0⟩ 1),.row (.less ⟨109,0,0,0,0⟩ ⟨109,0,0,0,0⟩ ⟨122,0,0,0,0⟩)]
noncomputable def sA:List P1:=[.row (.twice ⟨116,0,0,0,0⟩ ⟨97,(-1),0,0,1⟩),
 .row (.sum ⟨105,0,0,0,0⟩ ⟨122,0,0,0,0⟩ ⟨122,0,0,0,0⟩),
 .row (.twice ⟨116,0,0,0,0⟩ ⟨98,(-1),0,0,1⟩),
 .row (.sum ⟨106,0,0,0,0⟩ ⟨122,0,0,0,0⟩ ⟨122,0,0,0,0⟩),
 .row (.odd ⟨107,0,0,0,0⟩ ⟨105,0,0,0,0⟩ ⟨106,0,0,0,0⟩),
 .row (.ask ⟨105,0,0,0,0⟩),
 .row (.less ⟨103,0,0,0,0⟩ ⟨122,0,0,0,0⟩ ⟨122,0,0,0,0⟩),
 .rounds 0 1 0 [.row (.odd ⟨116,0,0,0,0⟩ ⟨97,0,1,0,0⟩ ⟨103,0,0,0,0⟩),.row (.sum ⟨117,0,1,0,0⟩ ⟨116,0,0,0,0⟩ ⟨122,0,0,0,0⟩)],
 .row (.ask ⟨106,0,0,0,0⟩),
 .row (.less ⟨103,0,0,0,0⟩ ⟨122,0,0,0,0⟩ ⟨122,0,0,0,0⟩),
 .rounds 0 1 0 [.row (.odd ⟨116,0,0,0,0⟩ ⟨98,0,1,0,0⟩ ⟨103,0,0,0,0⟩),.row (.sum ⟨118,0,1,0,0⟩ ⟨116,0,0,0,0⟩ ⟨122,0,0,0,0⟩)],
 .rounds 0 1 0 [.row (.move ⟨101,0,1,0,0⟩ ⟨117,0,1,0,0⟩)],
 .rounds 0 0 1 [.row (.mark 0),.rounds 0 1 0 [.twice ⟨101,0,0,1,0⟩ ⟨101,0,0,1,0⟩],.rounds 1 1 0 [.twice ⟨114,0,0,1,0⟩ ⟨114,0,0,1,0⟩],.rounds 0 1 0 [.less ⟨114,0,0,1,0⟩ ⟨114,0,0,1,0⟩ ⟨118,0,0,1,0⟩],.row (.less ⟨114,0,0,0,1⟩ ⟨114,0,0,0,1⟩ ⟨122,0,0,0,0⟩),.row (.less ⟨102,0,0,0,0⟩ ⟨122,0,0,0,0⟩ ⟨122,0,0,0,0⟩),.row (.mark 0),.rounds 0 1 0 [.both ⟨116,0,0,0,0⟩ ⟨118,0,0,1,0⟩ ⟨102,0,0,0,0⟩,.sum ⟨114,0,0,1,0⟩ ⟨114,0,0,1,0⟩ ⟨116,0,0,0,0⟩],.row (.sum ⟨114,0,0,0,1⟩ ⟨114,0,0,0,1⟩ ⟨122,0,0,0,0⟩),.row (.bare ⟨102,0,0,0,0⟩ ⟨102,0,0,0,0⟩),.row (.ask ⟨102,0,0,0,0⟩),.rounds 0 1 0 [.twice ⟨113,0,0,1,0⟩ ⟨113,0,0,1,0⟩]],
 .row (.ask ⟨107,0,0,0,0⟩),
 .row (.less ⟨103,0,0,0,0⟩ ⟨122,0,0,0,0⟩ ⟨122,0,0,0,0⟩),
 .rounds 0 1 0 [.row (.odd ⟨116,0,0,0,0⟩ ⟨113,0,1,0,0⟩ ⟨103,0,0,0,0⟩),.row (.sum ⟨99,0,1,0,0⟩ ⟨116,0,0,0,0⟩ ⟨122,0,0,0,0⟩)],
 .row (.ask ⟨105,0,0,0,0⟩),
 .row (.less ⟨103,0,0,0,0⟩ ⟨122,0,0,0,0⟩ ⟨122,0,0,0,0⟩),
 .rounds 0 1 0 [.row (.odd ⟨116,0,0,0,0⟩ ⟨114,0,1,0,0⟩ ⟨103,0,0,0,0⟩),.row (.sum ⟨100,0,1,0,0⟩ ⟨116,0,0,0,0⟩ ⟨122,0,0,0,0⟩)]]
noncomputable def sB:List P1:=[.row (.twice ⟨116,0,0,0,0⟩ ⟨113,(-1),0,0,1⟩),
 .row (.sum ⟨109,1,0,0,0⟩ ⟨122,0,0,0,0⟩ ⟨122,0,0,0,0⟩),
 .row (.any ⟨109,1,0,0,0⟩ ⟨109,1,0,0,0⟩ ⟨107,0,0,0,0⟩),
 .row (.odd ⟨109,1,0,0,0⟩ ⟨109,1,0,0,0⟩ ⟨107,0,0,0,0⟩),
 .row (.set ⟨115,0,0,0,0⟩ 0),
 .rounds 0 1 0 [.row (.any ⟨115,0,0,0,0⟩ ⟨115,0,0,0,0⟩ ⟨99,0,1,0,0⟩)],
 .row (.ask ⟨115,0,0,0,0⟩),
 .row (.set ⟨109,2,0,0,0⟩ 1),
 .row (.less ⟨109,2,0,0,0⟩ ⟨109,2,0,0,0⟩ ⟨122,0,0,0,0⟩),
 .row (.twice ⟨116,0,0,0,0⟩ ⟨99,(-1),0,0,1⟩),
 .row (.sum ⟨109,3,0,0,0⟩ ⟨122,0,0,0,0⟩ ⟨122,0,0,0,0⟩)]
noncomputable def tQ:List P1:=sA++nT++sB
noncomputable def deedQ:PV:=.tup [.str "signed quotient"]
noncomputable def chkQ:Bool:=match callT T 8 zht [deedQ] [] with
 | .ok (.tp b vs) []=>decide (parts1 vs=some (tQ.map P1.t1)) && noLocs vs && isOk (callT T 8 zb0 [.tp b vs] []) (.bl true) && (match cmpV .eq (.tp b vs) (.tp b vs) with
  | some (.bl t)=>t
  | _=>false)
 | _=>false
theorem allQ:chkQ=true:=by decide +kernel
theorem tellQ:∃ b vs,callT T 8 zht [deedQ] []=.ok (.tp b vs) []/\parts1 vs=some (tQ.map P1.t1)/\noLocs vs=true/\callT T 8 zb0 [.tp b vs] []=.ok (.bl true) []/\cmpV .eq (.tp b vs) (.tp b vs)=some (.bl true):=by
 have h:=allQ
 unfold chkQ at h
 split at h
 ·rename_i b vs e
  simp only [Bool.and_eq_true,decide_eq_true_eq] at h
  refine ⟨b,vs,e,h.1.1.1,h.1.1.2,zqz h.1.2,?_⟩
  have h2:=h.2
  split at h2
  ·rename_i t e2
   rw [e2,h2]
  ·cases h2
 ·cases h
noncomputable def szQ (n w:Nat):Bool:=Nat.ble (rnd1 w n (tQ.map P1.t1)) 4000 && Nat.ble (tQ.map (P1.len w n)).sum 4000
theorem allS:([1,2,3,4].all fun n=>(List.range 17).all (szQ n))=true:=by decide +kernel
theorem sizeQ {n w:Nat} (hn:1<=n) (hn2:n<=4) (hw:w<=16):rnd1 w n (tQ.map P1.t1)<=4000/\(rwP w n tQ).length<=4000:=by
 have h:=List.all_eq_true.1 allS n (by simp; omega)
 have h:=List.all_eq_true.1 h w (by simp; omega)
 simp only [szQ,Bool.and_eq_true] at h
 exact ⟨Nat.le_of_ble_eq_true h.1,by rw [znr]; exact Nat.le_of_ble_eq_true h.2⟩
theorem okA:sA.all P1.ok=true:=by decide +kernel
theorem okB:sB.all P1.ok=true:=by decide +kernel
theorem zrI {x:Cx} (h:okX x=true) {I J n:Nat} (hI:I < 90) (hJ:J < 90) (hn:1<=n) (hn2:n<=8):okC (x.cl I J n) :=
 zrM h (by omega) (by omega) (by omega) (by omega) (by omega) (by omega)
theorem zqY {x:Cx} (h:okTg x=true) {I J n:Nat} (hI:I < 90) (hJ:J < 90) (hn:1<=n) (hn2:n<=8):okP (x.cl I J n):=by
 have h':=h
 simp only [okTg,Bool.and_eq_true,Bool.not_eq_true',decide_eq_false_iff_not] at h
 exact ⟨zrI h.1 hI hJ hn hn2,h.2.1.1.1,h.2.1.1.2⟩
theorem zpG {r:Rt} (h:r.ok=true) {I J n:Nat} (hI:I < 90) (hJ:J < 90) (hn:1<=n) (hn2:n<=8):okR (r.rw I J n):=by
 have c:=fun {x:Cx} (h:okX x=true)=>zrI h hI hJ hn hn2
 have p:=fun {x:Cx} (h:okTg x=true)=>zqY h hI hJ hn hn2
 cases r <;> simp only [Rt.ok,Bool.and_eq_true] at h <;> simp only [Rt.rw,okR] <;> first | exact c h | exact p h | exact ⟨p h.1,c h.2⟩ | exact ⟨p h.1.1,c h.1.2,c h.2⟩
theorem zsS (w n:Nat):rwP w n nT=nR n:=by
 have hc:cnt 0 1 0 w n=n:=by unfold cnt; simp
 simp only [rwP,nT,List.flatMap_cons,List.flatMap_nil,P1.rw,P2.rw,Rt.rw,hc,Cx.cl,Cx.at,nR]
 simp
theorem zsJ {n:Nat} (hn:n<=8):∀ r ∈ nR n,okR r:=by
 intro r hr
 simp only [nR,List.mem_append,List.mem_cons,List.not_mem_nil,or_false] at hr
 rcases hr with (rfl | hr) | rfl | rfl | rfl
 ·simp only [okR,okP,okC]; omega
 ·obtain ⟨i,hi,hr⟩:=zgN hr
  simp only [List.mem_cons,List.not_mem_nil,or_false] at hr
  subst hr
  simp only [okR,okP,okC]; omega
 all_goals simp only [okR,okP,okC]; omega
noncomputable def rwQ (w n:Nat):List Rw:=rwP w n sA++nR n++rwP w n sB
theorem zpC (w n:Nat):rwP w n tQ=rwQ w n:=by
 rw [tQ,znM,znM,zsS]; rfl
theorem zsw {w n:Nat} (hn:1<=n) (hn2:n<=8) (hw:w * n<=64):∀ r ∈ rwQ w n,okR r:=by
 intro q hq
 simp only [rwQ,List.mem_append] at hq
 rcases hq with (hq | hq) | hq
 ·obtain ⟨r,I,J,hI,hJ,hr,rfl⟩:=zpL hn2 hw okA hq
  exact zpG hr hI hJ hn hn2
 ·exact zsJ hn2 q hq
 ·obtain ⟨r,I,J,hI,hJ,hr,rfl⟩:=zpL hn2 hw okB hq
  exact zpG hr hI hJ hn hn2
theorem runQ (j w n:Nat) {b:Bool} {vs:List PV} (e1:parts1 vs=some (tQ.map P1.t1)) (e2:noLocs vs=true) (e3:callT T 8 zb0 [.tp b vs] []=.ok (.bl true) []) (hw2:w<=16) (hn:1<=n) (hn2:n<=4) (x y:Int) (st:Store) :
  ∃ o,callT T (8+j+1) zh1 [.tp b vs,.int w,.int n,.int x,.int y] st=.ok (.loc st.length) (st++[o])/\∃ L,Dc (st++[o]) st.length (runM (2 ^ w) (rwQ w n) (begM (2 ^ w) n x y) 0).1 L:=by
 obtain ⟨z1,z2⟩:=sizeQ hn hn2 hw2
 have hwn:w * n<=64:=Nat.mul_le_mul hw2 hn2
 have er:rows1 w n (tQ.map P1.t1)=(rwQ w n).map rowV:=by rw [zna,zpC]
 rw [zpC] at z2
 have hu:=unrolled 5 (b:=b) (w:=w) (n:=n) e2 e1 (by omega) (by omega) (by omega) (by omega) z1 (by rw [er,List.length_map]; exact z2) (by rw [er]; exact zhb _) []
 rw [er] at hu
 exact runS j w n hw2 (by omega) (rs:=rwQ w n) (by omega) x y st e3 hu (zlW 7 (zsw hn (by omega) hwn) [])
theorem znj {W:Int} {t x:Nat} (ht:x ≠ t) (M:Mem) (k:Int):∀ n:Nat,∃ M',runM W (upTo (fun i=>[Rw.move (t,(i:Int)) (x,(i:Int))]) n) M k=(M',k)/\(∀ d j,(d ≠ t \/ (n:Int)<=j)->M' d j=M d j)/\∀ i:Nat,i < n->M' t i=M x i
 | 0=>⟨M,rfl,fun _ _ _=>rfl,fun i hi=>by omega⟩
 | n+1=>by
  obtain ⟨M1,e1,h1,h2⟩:=znj (W:=W) ht M k n
  refine ⟨upd M1 t n (M x n),?_,fun d j hd=>?_,fun i hi=>?_⟩
  ·rw [upTo,zS,e1]
   simp only [runM,stepM,rd,wr,h1 x n (.inl ht)]
  ·unfold upd; rw [if_neg (by omega),h1 d j (by omega)]
  ·unfold upd
   by_cases hin:i=n
   ·subst hin; rw [if_pos ⟨rfl,rfl⟩]
   ·rw [if_neg (by omega)]; exact h2 i (by omega)
theorem zrW {n:Nat} {d:Nat} {j:Int} (h1:d ≠ 115) (h2:d ≠ 109 \/ j ≠ 0):∀ r ∈ nR n,tg r ≠ some (d,j):=by
 intro r hr e
 simp only [nR,List.mem_append,List.mem_cons,List.not_mem_nil,or_false] at hr
 rcases hr with (rfl | hr) | rfl | rfl | rfl
 ·simp only [tg,cS,Option.some.injEq,Prod.mk.injEq] at e; omega
 ·obtain ⟨i,hi,hr⟩:=zgN hr
  simp only [List.mem_cons,List.not_mem_nil,or_false] at hr
  subst hr
  simp only [tg,cS,Option.some.injEq,Prod.mk.injEq] at e; omega
 ·cases e
 ·simp only [tg,Option.some.injEq,Prod.mk.injEq] at e; omega
 ·simp only [tg,Option.some.injEq,Prod.mk.injEq] at e; omega
theorem zjF {f:Int->Rw} {r:Rw}:∀ {n:Nat},r ∈ upRows f n->∃ i:Nat,i < n/\r=f i
 | 0,h=>by simp [upRows] at h
 | n+1,h=>by
  rw [upRows,List.mem_append] at h
  rcases h with h | h
  ·obtain ⟨i,hi,e⟩:=zjF h
   exact ⟨i,by omega,e⟩
  ·simp at h
   exact ⟨n,by omega,h⟩
theorem zrj {n:Nat} {d:Nat} {j:Int} (h1:d ≠ 115) (h2:d ≠ 109) (h3:d ≠ 116):∀ r ∈ endRows n,tg r ≠ some (d,j):=by
 intro r hr e
 simp only [endRows,List.mem_append,List.mem_cons,List.not_mem_nil,or_false] at hr
 rcases hr with (rfl | hr) | rfl | rfl | rfl | rfl | rfl
 ·simp only [tg,cS,Option.some.injEq,Prod.mk.injEq] at e; omega
 ·obtain ⟨i,hi,rfl⟩:=zjF hr
  simp only [tg,cS,Option.some.injEq,Prod.mk.injEq] at e; omega
 ·cases e
 all_goals simp only [tg,cT,Option.some.injEq,Prod.mk.injEq] at e; omega
theorem lt_s:Lt 118 113 114:=⟨by decide,by decide,by decide,by decide,by decide,by decide⟩
theorem zqD {W:Int} (n:Nat) (M:Mem) (k:Int) (hz:M 122 0=0):(runM W (nR n) M k).2=0:=by
 have e:nR n=([.set cS 0]++upTo (fun i=>[Rw.any cS cS (98,i)]) n)++[.ask cS,.set (109,0) 1,.less (109,0) (109,0) cZ]:=rfl
 have hm:∀ r ∈ [.set cS 0]++upTo (fun i=>[Rw.any cS cS (98,i)]) n,tg r ≠ some (122,0):=fun r hr=>zrW (n:=n) (by decide) (.inl (by decide)) r (by rw [e]; exact List.mem_append_left _ hr)
 rw [e,zS]
 have hz1:=ziJ W (d:=122) (j:=0) _ M k hm
 generalize runM W ([.set cS 0]++upTo (fun i=>[Rw.any cS cS (98,i)]) n) M k=R at *
 obtain ⟨M1,k1⟩:=R
 simp only at *
 rw [hz] at hz1
 simp only [runM,stepM,rd,wr,upd,cS,cZ,Nat.reduceEqDiff,false_and,if_false,and_self,if_true,hz1]
 cases (M1 115 0 == 0) <;> rfl
theorem zsU (w n:Nat):rwP w n sA=[.twice cT (97,(n:Int) - 1),.sum (105,0) cZ cZ]++([.twice cT (98,(n:Int) - 1),.sum (106,0) cZ cZ]++(.odd (107,0) (105,0) (106,0) :: (trn 105 97 117 n++(trn 106 98 118 n++(upTo (fun i=>[Rw.move (101,(i:Int)) (117,(i:Int))]) n++(upTo (fun _=>divRnd 118 113 114 n) (w * n)++(trn 107 113 99 n++trn 105 114 100 n))))))):=by
 have hc:cnt 0 1 0 w n=n:=by unfold cnt; simp
 have hc1:cnt 1 1 0 w n=n+1:=by unfold cnt; simp; omega
 have hc2:cnt 0 0 1 w n=w * n:=by unfold cnt; rw [show (0:Int)+0 * n+1 * w * n=((w * n:Nat):Int) by simp]; rfl
 have hm:(n:Int) - 1=-1+(n:Int):=by omega
 simp only [rwP,sA,List.flatMap_cons,List.flatMap_nil,P1.rw,P2.rw,Rt.rw,hc,hc1,hc2,Cx.cl,Cx.at,List.map_cons,List.map_nil,List.append_nil,hm]
 simp [divRnd,twR,lsR,adR,trn,trL]
theorem zsG (w n:Nat):rwP w n sB=[.twice cT (113,(n:Int) - 1),.sum (109,1) cZ cZ]++(.any (109,1) (109,1) (107,0) :: .odd (109,1) (109,1) (107,0) :: endRows n):=by
 have hc:cnt 0 1 0 w n=n:=by unfold cnt; simp
 have hu:∀ (f:Int->Rw) (m:Nat),upTo (fun i=>[f (i:Int)]) m=upRows f m:=by
  intro f m
  induction m with
  | zero=>rfl
  | succ m ih=>rw [upTo,upRows,ih]
 have hm:(n:Int) - 1=-1+(n:Int):=by omega
 simp only [rwP,sB,List.flatMap_cons,List.flatMap_nil,P1.rw,P2.rw,Rt.rw,hc,Cx.cl,Cx.at,endRows,hm]
 simp only [<- hu]
 simp
noncomputable def absI (x:Int):Int:=if x < 0 then -x else x
noncomputable def quoI (X Y:Int):Int:=if (decide (X < 0) != decide (Y < 0))=true then 0 - absI X / absI Y else absI X / absI Y
theorem bits2 {a b:Int} (ha:a=0 \/ a=1) (hb:b=0 \/ b=1):Builtin.bitXor a b=(if a=b then 0 else 1)/\Builtin.bitXor (Builtin.bitOr a b) b=(if a=1/\b=0 then 1 else 0):=by
 rcases ha with rfl | rfl <;> rcases hb with rfl | rfl <;> decide
theorem zin {P x:Int} (x0:0<=x) (x1:x < P):(if (if P<=2 * x then (1:Int) else 0)=1 then 0 - x else x) % P=absI (sgd P x)/\(sgd P x < 0 ↔ P<=2 * x)/\absI (sgd P x) < P/\0<=absI (sgd P x)/\(0 < x->0 < absI (sgd P x)):=by
 unfold absI sgd
 by_cases h:P<=2 * x
 ·simp only [h,if_true]
  have e:(0 - x) % P=P - x:=by
   rw [<- Int.add_emod_right]
   rw [Int.emod_eq_of_lt (by omega) (by omega)]; omega
  rw [if_pos (by omega),e]
  exact ⟨by omega,⟨fun _=>trivial,fun _=>by omega⟩,by omega,by omega,fun _=>by omega⟩
 ·have h0:¬ x < 0:=by omega
  simp only [h,if_false,h0]
  rw [if_neg (by omega),Int.emod_eq_of_lt x0 x1]
  exact ⟨rfl,trivial,x1,x0,fun z=>z⟩
theorem zfT (x:Int):x < 0/\absI x=-x \/ ¬ x < 0/\absI x=x:=by
 unfold absI
 by_cases h:x < 0
 ·rw [if_pos h]; exact .inl ⟨h,rfl⟩
 ·rw [if_neg h]; exact .inr ⟨h,rfl⟩
theorem zpV (X Y:Int):X - Y * quoI X Y=if X < 0 then 0 - absI X % absI Y else absI X % absI Y:=by
 have hd:=Int.emod_def (absI X) (absI Y)
 unfold quoI
 rcases zfT X with ⟨a,ea⟩ | ⟨a,ea⟩ <;> rcases zfT Y with ⟨b,eb⟩ | ⟨b,eb⟩ <;> simp only [a,b,decide_true,decide_false,bne_self_eq_false,Bool.false_eq_true,if_false,if_true,Bool.true_bne,Bool.false_bne,Bool.not_false,Bool.not_true] <;> rw [hd] <;> generalize absI X / absI Y=q at * <;> rw [ea,eb] <;> (have e1:Y * (0 - q)=-(Y * q):=by rw [Int.mul_sub,Int.mul_zero,Int.zero_sub]) <;> (have e2:-Y * q=-(Y * q):=Int.neg_mul ..) <;> (try rw [e1]) <;> (try rw [e2]) <;> generalize Y * q=z at * <;> omega
theorem zq9 {p:Prop} [Decidable p]:(if p then (1:Int) else 0)=bi (decide p):=by
 by_cases h:p
 ·rw [if_pos h,decide_eq_true h]; rfl
 ·rw [if_neg h,decide_eq_false h]; rfl
theorem upd2 {A:Mem} {c d e:Nat} {i v j k u:Int} (h:d ≠ c) (g:d ≠ e \/ j ≠ k):upd (upd A c i v) e k u d j=A d j:=by
 unfold upd
 rw [if_neg fun z=>g.elim (fun a=>a z.1) fun a=>a z.2,if_neg fun e=>h e.1]
theorem upd3 {A:Mem} {c d:Nat} {j k u v:Int} (g:d ≠ c \/ j ≠ k):upd (upd A c k v) c k u d j=A d j:=by
 have h:¬ (d=c/\j=k):=fun z=>g.elim (fun a=>a z.1) fun a=>a z.2
 unfold upd
 rw [if_neg h,if_neg h]
theorem if01 {p:Prop} [Decidable p] {s:Int} (h:(if p then (1:Int) else 0)=s):s=0 \/ s=1:=by subst h; split <;> decide
theorem if01' {p:Prop} [Decidable p] {s:Int} (h:(if p then (0:Int) else 1)=s):s=0 \/ s=1:=by subst h; split <;> decide
theorem if1 {p:Prop} [Decidable p] {s:Int} (h:(if p then (1:Int) else 0)=s):s=1 ↔ p:=by
 subst h; by_cases g:p
 ·rw [if_pos g]; exact ⟨fun _=>g,fun _=>rfl⟩
 ·rw [if_neg g]; exact ⟨fun z=>absurd z (by decide),fun z=>absurd z g⟩
theorem zsW {sx sy sk X Y:Int} (hx:sx=0 \/ sx=1) (hy:sy=0 \/ sy=1) (h1:sx=1 ↔ X < 0) (h2:sy=1 ↔ Y < 0) (hsk:(if sx=sy then (0:Int) else 1)=sk):sk=1 ↔ (decide (X < 0) != decide (Y < 0))=true:=by
 by_cases a:X < 0 <;> by_cases b:Y < 0 <;> rcases hx with rfl | rfl <;> rcases hy with rfl | rfl <;> simp [a,b] at h1 h2 hsk ⊢ <;> omega
theorem zse {P D t sk:Int} (hP:0 < P) (hD:0<=D) (ht:(if P<=2 * D then (1:Int) else 0)=t) (h:sk=0 \/ sk=1):(t=1/\sk=0) ↔ P<=2 * (if sk=1 then 0 - D else D):=by
 rw [if1 ht]
 rcases h with rfl | rfl
 ·rw [if_neg (by decide)]; exact ⟨fun z=>z.1,fun z=>⟨z,rfl⟩⟩
 ·rw [if_pos rfl]; omega
theorem zmb {w:Nat} (hw:1 < w) {n:Nat} {x y:Int} (x0:0<=x) (x1:x < (2 ^ w:Int) ^ (n+1)) (y0:0 < y) (y1:y < (2 ^ w:Int) ^ (n+1)) {P X Y Q:Int} (hP:P=(2 ^ w:Int) ^ (n+1)) (hX:X=sgd P x) (hY:Y=sgd P y) (hQ:Q=quoI X Y) :
  valM (2 ^ w) (runM (2 ^ w) (rwQ w (n+1)) (begM (2 ^ w) (n+1) x y) 0).1 99 (n+1)=Q % P/\valM (2 ^ w) (runM (2 ^ w) (rwQ w (n+1)) (begM (2 ^ w) (n+1) x y) 0).1 100 (n+1)=(X - Y * Q) % P /\
  (runM (2 ^ w) (rwQ w (n+1)) (begM (2 ^ w) (n+1) x y) 0).1 109 0=0/\(runM (2 ^ w) (rwQ w (n+1)) (begM (2 ^ w) (n+1) x y) 0).1 109 1=bi (decide (P<=2 * Q)) /\
  (runM (2 ^ w) (rwQ w (n+1)) (begM (2 ^ w) (n+1) x y) 0).1 109 2=bi (Q % P == 0)/\(runM (2 ^ w) (rwQ w (n+1)) (begM (2 ^ w) (n+1) x y) 0).1 109 3=bi (decide (P<=2 * (Q % P))):=by
 have hW:(0:Int) < 2 ^ w:=Int.pow_pos (by decide)
 have hb0:∀ d j,d ≠ 97->d ≠ 98->begM (2 ^ w) (n+1) x y d j=0:=fun d j h1 h2=>zsE _ _ _ h1 h2 _
 have da:=zrN (n+1) x y hW
 have db:=zr9 (n+1) x y hW
 have va:=zrc (n+1) x y hW x0 x1
 have vb:=zrT (n+1) x y hW (Int.le_of_lt y0) y1
 rw [rwQ,zsU,zsG]
 generalize begM (2 ^ w) (n+1) x y=A at hb0 da db va vb ⊢
 have e1:=zja hw (s:=105) (c:=97) (M:=A) (k:=0) (by decide) (by decide) rfl (hb0 122 0 (by decide) (by decide)) da 0
 rw [va,<- hP] at e1
 generalize hsx:(if P<=2 * x then (1:Int) else 0)=sx at e1
 have o1:∀ d j,d ≠ 116->d ≠ 105->upd (upd A 116 0 (2 * A 97 n % 2 ^ w)) 105 0 sx d j=A d j:=fun d j h1 h2=>upd2 h1 (.inl h2)
 have f1:upd (upd A 116 0 (2 * A 97 n % 2 ^ w)) 105 0 sx 105 0=sx:=updS
 generalize upd (upd A 116 0 (2 * A 97 n % 2 ^ w)) 105 0 sx=M1 at e1 o1 f1
 have e2:=zja hw (s:=106) (c:=98) (M:=M1) (k:=0) (by decide) (by decide) rfl (by rw [o1 122 0 (by decide) (by decide)]; exact hb0 122 0 (by decide) (by decide)) (n:=n) (fun i hi=>by rw [o1 98 i (by decide) (by decide)]; exact db i hi) 0
 rw [zL (M:=M1) (M':=A) (c:=98) (c':=98) (n+1) fun i _=>o1 98 i (by decide) (by decide),vb,<- hP] at e2
 generalize hsy:(if P<=2 * y then (1:Int) else 0)=sy at e2
 have o2:∀ d j,d ≠ 116->d ≠ 106->upd (upd M1 116 0 (2 * M1 98 n % 2 ^ w)) 106 0 sy d j=M1 d j:=fun d j h1 h2=>upd2 h1 (.inl h2)
 have f2:upd (upd M1 116 0 (2 * M1 98 n % 2 ^ w)) 106 0 sy 106 0=sy:=updS
 generalize upd (upd M1 116 0 (2 * M1 98 n % 2 ^ w)) 106 0 sy=M2 at e2 o2 f2
 have hsx01:sx=0 \/ sx=1:=if01 hsx
 have hsy01:sy=0 \/ sy=1:=if01 hsy
 have f2x:M2 105 0=sx:=by rw [o2 105 0 (by decide) (by decide),f1]
 have e3:stepM (2 ^ w) M2 0 (.odd (107,0) (105,0) (106,0))=(upd M2 107 0 (if sx=sy then 0 else 1),0):=by
  simp only [stepM,rd,wr,f2x,f2,(bits2 hsx01 hsy01).1]
 generalize hsk:(if sx=sy then (0:Int) else 1)=sk at e3
 have hsk01:sk=0 \/ sk=1:=if01' hsk
 have o3:∀ d j,d ≠ 107->upd M2 107 0 sk d j=M2 d j:=fun d j h1=>updO h1
 have f3:upd M2 107 0 sk 107 0=sk:=updS
 generalize upd M2 107 0 sk=M3 at e3 o3 f3
 have oA:∀ d j,d ≠ 116->d ≠ 105->d ≠ 106->d ≠ 107->M3 d j=A d j:=fun d j h1 h2 h3 h4=>by rw [o3 d j h4,o2 d j h1 h3,o1 d j h1 h2]
 obtain ⟨M4,k4,e4,o4,g4,v4⟩:=zi6 hw (s:=105) (src:=97) (to:=117) (by decide) (by decide) (by decide) (M:=M3) (k:=0) hsx01 (by rw [o3 105 0 (by decide),f2x]) (by rw [oA 122 0 (by decide) (by decide) (by decide) (by decide)]; exact hb0 122 0 (by decide) (by decide)) (n:=n+1) (fun i hi=>by rw [oA 97 i (by decide) (by decide) (by decide) (by decide)]; exact da i hi)
 rw [zL (M:=M3) (M':=A) (c:=97) (c':=97) (n+1) fun i _=>oA 97 i (by decide) (by decide) (by decide) (by decide),va] at v4
 have p4:∀ d j,d ≠ 116->d ≠ 103->d ≠ 117->d ≠ 105->d ≠ 106->d ≠ 107->M4 d j=A d j:=fun d j h1 h2 h3 h4 h5 h6=>by rw [o4 d j h1 h2 h3,oA d j h1 h4 h5 h6]
 obtain ⟨M5,k5,e5,o5,g5,v5⟩:=zi6 hw (s:=106) (src:=98) (to:=118) (by decide) (by decide) (by decide) (M:=M4) (k:=k4) hsy01 (by rw [o4 106 0 (by decide) (by decide) (by decide),o3 106 0 (by decide),f2]) (by rw [p4 122 0 (by decide) (by decide) (by decide) (by decide) (by decide) (by decide)]; exact hb0 122 0 (by decide) (by decide)) (n:=n+1) (fun i hi=>by rw [p4 98 i (by decide) (by decide) (by decide) (by decide) (by decide) (by decide)]; exact db i hi)
 rw [zL (M:=M4) (M':=A) (c:=98) (c':=98) (n+1) fun i _=>p4 98 i (by decide) (by decide) (by decide) (by decide) (by decide) (by decide),vb] at v5
 obtain ⟨ax,bx,cx,dx,_⟩:=zin x0 x1
 obtain ⟨ay,by',cy,dy,fy⟩:=zin (x:=y) (Int.le_of_lt y0) y1
 rw [<- hP] at ax bx cx dx ay by' cy dy fy v4 v5
 rw [hsx,<- hX] at ax
 rw [hsy,<- hY] at ay
 rw [<- hX] at bx cx dx
 rw [<- hY] at by' cy dy fy
 rw [ax] at v4
 rw [ay] at v5
 have fy:=fy y0
 obtain ⟨M6,e6,o6,v6⟩:=znj (W:=2 ^ w) (t:=101) (x:=117) (by decide) M5 k5 (n+1)
 have z5:∀ d j,d ≠ 116->d ≠ 103->d ≠ 117->d ≠ 118->d ≠ 105->d ≠ 106->d ≠ 107->M5 d j=A d j:=fun d j h1 h2 h3 h4 h5 h6 h7=>by rw [o5 d j h1 h2 h4,p4 d j h1 h2 h3 h5 h6 h7]
 have z0:∀ (d m:Nat),(d=113 \/ d=114)->valM (2 ^ w) M6 d m=0/\Dg (2 ^ w) M6 d m:=fun d m h=>by
  have hz:∀ i:Nat,M6 d i=0:=fun i=>by
   rcases h with rfl | rfl
   ·rw [o6 _ i (.inl (by decide)),z5 _ i (by decide) (by decide) (by decide) (by decide) (by decide) (by decide) (by decide),hb0 _ i (by decide) (by decide)]
   ·rw [o6 _ i (.inl (by decide)),z5 _ i (by decide) (by decide) (by decide) (by decide) (by decide) (by decide) (by decide),hb0 _ i (by decide) (by decide)]
  have hd:Dg (2 ^ w) M6 d m:=fun i _=>by rw [hz]; exact ⟨Int.le_refl 0,hW⟩
  exact ⟨(ze6 hW m hd).2 fun i _=>hz i,hd⟩
 have u5:∀ j,M5 117 j=M4 117 j:=fun j=>o5 117 j (by decide) (by decide) (by decide)
 have D0:Dv w (n+1) 118 113 114 M5 M6 (absI X) (absI Y) 0:={
  de:=fun i hi=>by rw [v6 i hi,u5]; exact g4 i hi
  dr:=(z0 114 _ (.inr rfl)).2
  dq:=(z0 113 _ (.inl rfl)).2
  keep:=fun d j h1 _ _ _ _=>o6 d j (.inl h1)
  rest:=by rw [(z0 114 _ (.inr rfl)).1]; exact fy
  sent:=by
   rw [(z0 114 _ (.inr rfl)).1,(z0 113 _ (.inl rfl)).1,zL (M':=M4) (c':=117) (n+1) fun i hi=>by rw [v6 i hi,u5],v4]
   rw [Int.zero_mul,Int.zero_mul,Int.zero_add,Int.zero_add,Int.pow_zero,Int.mul_one] }
 have z122:M5 122 0=0:=by rw [z5 122 0 (by decide) (by decide) (by decide) (by decide) (by decide) (by decide) (by decide)]; exact hb0 122 0 (by decide) (by decide)
 obtain ⟨M7,k7,e7,D7⟩:=zh5 hw lt_s (k:=k5) z122 g5 v5 (by rw [<- hP]; exact cx) D0 (w * (n+1)) (Nat.le_refl _)
 obtain ⟨q1,q2,q3⟩:=zon hw dx D7 (by rw [<- hP]; exact Int.le_of_lt cy)
 have k7':∀ d j,d ≠ 101->d ≠ 114->d ≠ 113->d ≠ 116->d ≠ 102->M7 d j=M5 d j:=D7.keep
 have s7:M7 107 0=sk:=by rw [k7' 107 0 (by decide) (by decide) (by decide) (by decide) (by decide),o5 107 0 (by decide) (by decide) (by decide),o4 107 0 (by decide) (by decide) (by decide),f3]
 have x7:M7 105 0=sx:=by rw [k7' 105 0 (by decide) (by decide) (by decide) (by decide) (by decide),o5 105 0 (by decide) (by decide) (by decide),o4 105 0 (by decide) (by decide) (by decide),o3 105 0 (by decide),f2x]
 have z7:M7 122 0=0:=by rw [k7' 122 0 (by decide) (by decide) (by decide) (by decide) (by decide),z122]
 obtain ⟨M8,k8,e8,o8,g8,v8⟩:=zi6 hw (s:=107) (src:=113) (to:=99) (by decide) (by decide) (by decide) (M:=M7) (k:=k7) hsk01 s7 z7 D7.dq
 obtain ⟨M9,k9,e9,o9,g9,v9⟩:=zi6 hw (s:=105) (src:=114) (to:=100) (by decide) (by decide) (by decide) (M:=M8) (k:=k8) hsx01 (by rw [o8 105 0 (by decide) (by decide) (by decide),x7]) (by rw [o8 122 0 (by decide) (by decide) (by decide),z7]) (n:=n+1) (fun i hi=>by rw [o8 114 i (by decide) (by decide) (by decide)]; exact D7.dr.mono i hi)
 rw [zL (M:=M8) (M':=M7) (c:=114) (c':=114) (n+1) fun i _=>o8 114 i (by decide) (by decide) (by decide),q2] at v9
 rw [q1] at v8
 have p9:∀ d j,d ≠ 116->d ≠ 103->d ≠ 99->d ≠ 100->M9 d j=M7 d j:=fun d j h1 h2 h3 h4=>by rw [o9 d j h1 h2 h4,o8 d j h1 h2 h3]
 have kb:∀ j,M9 98 j=A 98 j:=fun j=>by rw [p9 98 j (by decide) (by decide) (by decide) (by decide),k7' 98 j (by decide) (by decide) (by decide) (by decide) (by decide),z5 98 j (by decide) (by decide) (by decide) (by decide) (by decide) (by decide) (by decide)]
 have z9:M9 122 0=0:=by rw [p9 122 0 (by decide) (by decide) (by decide) (by decide),z7]
 have n0:=(zsz hw (n+1) M9 k9 z9 (fun i hi=>by rw [kb]; exact (db i hi).1)).2 (fun z=>by
  have:valM (2 ^ w) A 98 (n+1)=0:=(ze6 hW (n+1) db).2 fun i hi=>by rw [<- kb]; exact z i hi
  rw [vb] at this; exact absurd this (Int.ne_of_gt y0))
 have no:∀ d j,d ≠ 115->(d ≠ 109 \/ j ≠ 0)->(runM (2 ^ w) (nR (n+1)) M9 k9).1 d j=M9 d j:=fun d j h1 h2=>ziJ _ _ _ _ (zrW h1 h2)
 have nm:=zqD (W:=2 ^ w) (n+1) M9 k9 z9
 have eA:runM (2 ^ w) ([.twice cT (97,((n+1:Nat):Int) - 1),.sum (105,0) cZ cZ]++([.twice cT (98,((n+1:Nat):Int) - 1),.sum (106,0) cZ cZ]++(.odd (107,0) (105,0) (106,0) :: (trn 105 97 117 (n+1)++(trn 106 98 118 (n+1)++(upTo (fun i=>[Rw.move (101,(i:Int)) (117,(i:Int))]) (n+1)++(upTo (fun _=>divRnd 118 113 114 (n+1)) (w * (n+1))++(trn 107 113 99 (n+1)++trn 105 114 100 (n+1))))))))) A 0=(M9,k9):=by
  rw [zS,e1,zS]
  simp only
  rw [e2,zaD,e3,zS]
  simp only
  rw [e4,zS]
  simp only
  rw [e5,zS]
  simp only
  rw [e6,zS]
  simp only
  rw [e7,zS]
  simp only
  rw [e8]
  exact e9
 rw [zS,zS,zS,eA]
 simp only
 generalize runM (2 ^ w) (nR (n+1)) M9 k9=R at n0 no nm ⊢
 obtain ⟨M10,k10⟩:=R
 simp only at n0 no nm ⊢
 have q10:∀ j,M10 113 j=M7 113 j:=fun j=>by rw [no 113 j (by decide) (.inl (by decide)),p9 113 j (by decide) (by decide) (by decide) (by decide)]
 have z10:M10 122 0=0:=by rw [no 122 0 (by decide) (.inl (by decide)),z9]
 have ea:=zja hw (s:=109) (c:=113) (M:=M10) (k:=k10) (by decide) (by decide) nm z10 (n:=n) (fun i hi=>by rw [q10]; exact D7.dq i hi) 1
 rw [zL (M:=M10) (M':=M7) (c:=113) (c':=113) (n+1) fun i _=>q10 i,q1,<- hP] at ea
 rw [ea]
 generalize ht:(if P<=2 * (absI X / absI Y) then (1:Int) else 0)=t at ea ⊢
 have ht01:t=0 \/ t=1:=if01 ht
 have ob:∀ d j,d ≠ 116->(d ≠ 109 \/ j ≠ 1)->upd (upd M10 116 0 (2 * M10 113 n % 2 ^ w)) 109 1 t d j=M10 d j:=fun d j h1 h2=>upd2 h1 h2
 have fb:upd (upd M10 116 0 (2 * M10 113 n % 2 ^ w)) 109 1 t 109 1=t:=updS
 generalize upd (upd M10 116 0 (2 * M10 113 n % 2 ^ w)) 109 1 t=Mb at ob fb ⊢
 have sb:Mb 107 0=sk:=by rw [ob 107 0 (by decide) (.inl (by decide)),no 107 0 (by decide) (.inl (by decide)),p9 107 0 (by decide) (by decide) (by decide) (by decide),s7]
 have ec:∀ rs:List Rw,runM (2 ^ w) (.any (109,1) (109,1) (107,0) :: .odd (109,1) (109,1) (107,0) :: rs) Mb 0=runM (2 ^ w) rs (upd (upd Mb 109 1 (Builtin.bitOr t sk)) 109 1 (if t=1/\sk=0 then 1 else 0)) 0:=fun rs=>by
  have h1:stepM (2 ^ w) Mb 0 (.any (109,1) (109,1) (107,0))=(upd Mb 109 1 (Builtin.bitOr t sk),0):=by simp only [stepM,rd,wr,fb,sb]
  have g1:upd Mb 109 1 (Builtin.bitOr t sk) 109 1=Builtin.bitOr t sk:=updS
  have g2:upd Mb 109 1 (Builtin.bitOr t sk) 107 0=sk:=by rw [updO (by decide),sb]
  rw [zaD,h1,zaD]
  simp only [stepM,rd,wr,g1,g2,(bits2 ht01 hsk01).2]
 simp only
 rw [ec]
 have od:∀ d j,(d ≠ 109 \/ j ≠ 1)->upd (upd Mb 109 1 (Builtin.bitOr t sk)) 109 1 (if t=1/\sk=0 then 1 else 0) d j=Mb d j:=fun d j h2=>upd3 h2
 have fd:upd (upd Mb 109 1 (Builtin.bitOr t sk)) 109 1 (if t=1/\sk=0 then 1 else 0) 109 1=(if t=1/\sk=0 then 1 else 0):=updS
 generalize upd (upd Mb 109 1 (Builtin.bitOr t sk)) 109 1 (if t=1/\sk=0 then 1 else 0)=Md at od fd ⊢
 have cc:∀ j,Md 99 j=M8 99 j:=fun j=>by rw [od 99 j (.inl (by decide)),ob 99 j (by decide) (.inl (by decide)),no 99 j (by decide) (.inl (by decide)),o9 99 j (by decide) (by decide) (by decide)]
 have cd:∀ j,Md 100 j=M9 100 j:=fun j=>by rw [od 100 j (.inl (by decide)),ob 100 j (by decide) (.inl (by decide)),no 100 j (by decide) (.inl (by decide))]
 have hqq:(if sk=1 then 0 - absI X / absI Y else absI X / absI Y)=Q:=by
  rw [hQ]; unfold quoI
  congr 1
  rw [eq_iff_iff]
  exact zsW hsx01 hsy01 ((if1 hsx).trans bx.symm) ((if1 hsy).trans by'.symm) hsk
 have hrr:(if sx=1 then 0 - absI X % absI Y else absI X % absI Y)=X - Y * Q:=by
  rw [hQ,zpV]
  congr 1
  rw [eq_iff_iff]; exact (if1 hsx).trans bx.symm
 rw [hqq,<- hP] at v8
 rw [hrr,<- hP] at v9
 have dc:Dg (2 ^ w) Md 99 (n+1):=fun i hi=>by rw [cc]; exact g8 i hi
 have vc:valM (2 ^ w) Md 99 (n+1)=Q % P:=by rw [<- v8]; exact zL _ fun i _=>cc i
 obtain ⟨f1',f2',f3',f4',f5'⟩:=zoA hw Md 0 dc (by rw [od 122 0 (.inl (by decide)),ob 122 0 (by decide) (.inl (by decide)),z10])
 have f6:∀ j,(runM (2 ^ w) (endRows (n+1)) Md 0).1 100 j=Md 100 j:=fun j=>ziJ _ _ _ _ (zrj (by decide) (by decide) (by decide))
 rw [vc,<- hP] at f5'
 rw [vc] at f4'
 refine ⟨?_,?_,?_,?_,f4',f5'⟩
 ·rw [<- vc]; exact zL _ fun i _=>f1' i
 ·rw [<- v9]; exact zL _ fun i _=>by rw [f6,cd]
 ·rw [f2',od 109 0 (.inr (by decide)),ob 109 0 (by decide) (.inr (by decide)),n0]
 ·rw [f3',fd,zq9]
  congr 1
  rw [decide_eq_decide]
  rw [<- hqq]
  exact zse (by rw [hP]; exact Int.pow_pos hW) (Int.ediv_nonneg dx (Int.le_of_lt fy)) ht hsk01
theorem max1 {a b:Int} (st:Store):bltV .max st [.int a,.int b]=some (.int (if a < b then b else a)):=by
 simp only [bltV,maxV]
theorem min1 {a b:Int} (st:Store):bltV .min st [.int a,.int b]=some (.int (if b < a then b else a)):=by
 simp only [bltV,minV]
noncomputable def lt4:Cs:=match f_qtwo.body with
 | .cons _ (.cons _ (.cons _ (.cons _ (.cons s _))))=>s
 | _=>.pass
noncomputable def lt5:Cs:=match f_qtwo.body with
 | .cons _ (.cons _ (.cons _ (.cons _ (.cons _ (.cons s _)))))=>s
 | _=>.pass
noncomputable def lt6:Cs:=match f_qtwo.body with
 | .cons _ (.cons _ (.cons _ (.cons _ (.cons _ (.cons _ (.cons s _))))))=>s
 | _=>.pass
noncomputable def lt7:Cs:=match f_qtwo.body with
 | .cons _ (.cons _ (.cons _ (.cons _ (.cons _ (.cons _ (.cons _ (.cons s _)))))))=>s
 | _=>.pass
noncomputable def lt8:Cs:=match f_qtwo.body with
 | .cons _ (.cons _ (.cons _ (.cons _ (.cons _ (.cons _ (.cons _ (.cons _ (.cons s _))))))))=>s
 | _=>.pass
noncomputable def ltU:Css:=.cons lt4 (.cons lt5 (.cons lt6 (.cons lt7 (.cons lt8 (.cons (.ret (.tup (.cons (.var 3) (.cons (.var 4) .nil)))) .nil)))))
theorem ziL {ns:List Int} {n:Nat} {st:Store} (h:Drw ns n st):Onl ns n st st:=by
 obtain ⟨a,p,f,ha,e⟩:=h
 refine ⟨a,p,f,ha,?_⟩
 obtain ⟨hl,hg⟩:=List.getElem?_eq_some_iff.1 e
 rw [<- hg,List.set_getElem_self]
theorem znW {m:Nat} (h4:4<=m) (h64:m<=64):(2:Int) ^ m<=18446744073709551616/\(16:Int)<=2 ^ m:=by
 have h2:=pw m
 have a:(2:Nat) ^ m<=2 ^ 64:=Nat.pow_le_pow_right (by decide) h64
 have b:(2:Nat) ^ 4<=2 ^ m:=Nat.pow_le_pow_right (by decide) h4
 omega
theorem zsH {m:Nat} (h4:4<=m) (h64:m<=64):0 < (m:Int)/\(m:Int) < 10000000000000000000000000000000000000000000000000000000000000000000000:=by omega
noncomputable abbrev e7 (p:Option PV) (w n:Nat) (x y t q:Int):IC.Env:=[p,some (.int w),some (.int n),some (.int x),some (.int y),some (.int t),some (.int q)]
section
variable {p0:Option PV} {w n:Nat} {x y t q P:Int}
theorem tw4 {c:Cl} {st:Store} (q0:0 < q) (q1:q < 2 ^ 64) (y0:0<=y) (y1:y < P):∃ y',0<=y'/\y' < P/\ex c (e7 p0 w n x y t q) st lt4=.nx (e7 p0 w n x y' t q) st:=by
 have hdv:binV .fdiv (.int y) (.int q)=some (.int (y / q)):=zch q0 (by omega)
 have h0:=Int.ediv_nonneg y0 (Int.le_of_lt q0)
 have h1:=Int.lt_of_le_of_lt (Int.ediv_le_self q y0) y1
 cases ha:(t == 0)
 ·cases hb:(t == 5)
  ·exact ⟨y,y0,y1,by simp! [lt4,f_qtwo,e7,ha,hb,Bool.false_eq_true,if_false,ev.eq_3,ev.eq_6,ev.eq_7,ev.eq_11,ev.eq_19,c_eq,c_gt,onBl,cond_true,cond_false,sizeMax,Nat.reduceLeDiff]⟩
  ·exact ⟨y / q,h0,h1,by simp! [lt4,f_qtwo,e7,ha,hb,hdv,Bool.false_eq_true,if_false,ev.eq_3,ev.eq_6,ev.eq_7,ev.eq_11,ev.eq_19,c_eq,c_gt,onBl,cond_true,cond_false,sizeMax,Nat.reduceLeDiff]⟩
 ·exact ⟨y / q,h0,h1,by simp! [lt4,f_qtwo,e7,ha,hdv,Bool.false_eq_true,if_false,ev.eq_3,ev.eq_6,ev.eq_7,ev.eq_11,ev.eq_19,c_eq,c_gt,onBl,cond_true,cond_false,sizeMax,Nat.reduceLeDiff]⟩
theorem tw5 (k:Nat) {n0:Nat} {ns:List Int} (hns:ns.length<=1000) {st:Store} (h:Drw ns n0 st) (hp:p0=some (.loc n0)) (hP:16<=P) (y0:0<=y) (y1:y < P):∃ y' s',0<=y'/\y' < P/\Onl ns n0 st s'/\ex (callT T (k+4)) (e7 p0 w n x y t q) st lt5=.nx (e7 p0 w n x y' t q) s':=by
 subst hp
 cases ha:(t == 1)
 ·exact ⟨y,st,y0,y1,ziL h,by simp! [lt5,f_qtwo,e7,ha,Bool.false_eq_true,if_false,ev.eq_3,ev.eq_6,ev.eq_7,ev.eq_11,ev.eq_19,c_eq,c_gt,onBl,cond_true,cond_false,sizeMax,Nat.reduceLeDiff]⟩
 ·obtain ⟨d,s5,d0,d1,o5,f5⟩:=takeD (k+1) hns (m:=9) (by decide) (by decide) h
  exact ⟨1+d,s5,by omega,by omega,o5,by simp! [lt5,f_qtwo,e7,ha,f5,zbP,Bool.false_eq_true,if_false,ev.eq_3,ev.eq_6,ev.eq_7,ev.eq_11,ev.eq_19,c_eq,c_gt,onBl,cond_true,cond_false,sizeMax,Nat.reduceLeDiff]⟩
theorem tw6 {c:Cl} {st:Store} (q0:0 < q) (q1:q < P) (y0:0<=y) (y1:y < P):∃ y',0<=y'/\y' < P/\ex c (e7 p0 w n x y t q) st lt6=.nx (e7 p0 w n x y' t q) st:=by
 cases ha:(t == 2)
 ·exact ⟨y,y0,y1,by simp! [lt6,f_qtwo,e7,ha,Bool.false_eq_true,if_false,ev.eq_3,ev.eq_6,ev.eq_7,ev.eq_11,ev.eq_19,c_eq,c_gt,onBl,cond_true,cond_false,sizeMax,Nat.reduceLeDiff]⟩
 ·exact ⟨q,Int.le_of_lt q0,q1,by simp! [lt6,f_qtwo,e7,ha,Bool.false_eq_true,if_false,ev.eq_3,ev.eq_6,ev.eq_7,ev.eq_11,ev.eq_19,c_eq,c_gt,onBl,cond_true,cond_false,sizeMax,Nat.reduceLeDiff]⟩
theorem tw8 {c:Cl} {st:Store} (x0:0<=x) (x1:x < P) (y0:0<=y) (y1:y < P):∃ y',0<=y'/\y' < P/\ex c (e7 p0 w n x y t q) st lt8=.nx (e7 p0 w n x y' t q) st:=by
 cases ha:(t == 6)
 ·exact ⟨y,y0,y1,by simp! [lt8,f_qtwo,e7,ha,Bool.false_eq_true,if_false,ev.eq_3,ev.eq_6,ev.eq_7,ev.eq_11,ev.eq_19,c_eq,c_gt,onBl,cond_true,cond_false,sizeMax,Nat.reduceLeDiff]⟩
 ·exact ⟨x,x0,x1,by simp! [lt8,f_qtwo,e7,ha,Bool.false_eq_true,if_false,ev.eq_3,ev.eq_6,ev.eq_7,ev.eq_11,ev.eq_19,c_eq,c_gt,onBl,cond_true,cond_false,sizeMax,Nat.reduceLeDiff]⟩
theorem zoM {a P:Int} (hP:0 < P):0<=(if 0 < (if a < P - 1 then a else P - 1) then (if a < P - 1 then a else P - 1) else 0)/\(if 0 < (if a < P - 1 then a else P - 1) then (if a < P - 1 then a else P - 1) else 0) < P:=by
 split <;> split <;> omega
theorem tw7a (k:Nat) {n0:Nat} {ns:List Int} (hns:ns.length<=1000) {st:Store} (h:Drw ns n0 st) (hP:P=2 ^ (w * n)) (hK:w * n<=64) (hwa:(w:Int).natAbs < 18446744073709551616) (x0:0<=x) (x1:x < P) (y0:0 < y) (y1:y < P) (hb:P<=18446744073709551616) :
  ∃ x' s',0<=x'/\x' < P/\Onl ns n0 st s'/\∀ e,e=4 \/ e=5->t=e->p0=some (.loc n0)->ex (callT T (k+4)) (e7 p0 w n x y t q) st lt7=.nx (e7 p0 w n x' y t q) s':=by
 obtain ⟨d,s5,d0,d1,o5,f5⟩:=takeD (k+1) hns (m:=3) (by decide) (by decide) h
 have hr:=zoM (a:=x / y * y+d - 1) (P:=P) (Int.lt_of_le_of_lt x0 x1)
 refine ⟨_,s5,hr.1,hr.2,o5,?_⟩
 have hwm:(w:Int) * (n:Int)=((w * n:Nat):Int):=by simp
 have ht:=fun st=>zfA (k+3) (w * n) (by omega) st
 rw [<- hP] at ht
 have hd:binV .fdiv (.int x) (.int y)=some (.int (x / y)):=zch y0 (by omega)
 have hm:binV .mul (.int (x / y)) (.int y)=some (.int (x / y * y)):=zaV (by omega)
 have hmn:=fun st=>min1 (a:=P - 1) (b:=x / y * y+d - 1) st
 have hmx:=fun st b=>max1 (a:=0) (b:=b) st
 intro e he te hp
 subst te; subst hp
 rcases he with rfl | rfl
 ·simp! [lt7,f_qtwo,e7,Int.reduceBEq,y0,decide_true,zdr hwa,hwm,ht,za6,zbP,f5,hd,hm,hmn,hmx,Bool.false_eq_true,if_false,ev.eq_3,ev.eq_6,ev.eq_7,ev.eq_11,ev.eq_19,c_eq,c_gt,onBl,cond_true,cond_false,sizeMax,Nat.reduceLeDiff]
 ·simp! [lt7,f_qtwo,e7,Int.reduceBEq,y0,decide_true,zdr hwa,hwm,ht,za6,zbP,f5,hd,hm,hmn,hmx,Bool.false_eq_true,if_false,ev.eq_3,ev.eq_6,ev.eq_7,ev.eq_11,ev.eq_19,c_eq,c_gt,onBl,cond_true,cond_false,sizeMax,Nat.reduceLeDiff]
theorem tw7 (k:Nat) {n0:Nat} {ns:List Int} (hns:ns.length<=1000) {st:Store} (h:Drw ns n0 st) (hp:p0=some (.loc n0)) (hP:P=2 ^ (w * n)) (hK:w * n<=64) (hwa:(w:Int).natAbs < 18446744073709551616) (x0:0<=x) (x1:x < P) (y0:0<=y) (y1:y < P) (hb:P<=18446744073709551616) :
  ∃ x' s',0<=x'/\x' < P/\Onl ns n0 st s'/\ex (callT T (k+4)) (e7 p0 w n x y t q) st lt7=.nx (e7 p0 w n x' y t q) s':=by
 by_cases hy:0 < y
 ·by_cases ha:t=4
  ·obtain ⟨x',s',a,b,c,d⟩:=tw7a (p0:=p0) (q:=q) (t:=t) k hns h hP hK hwa x0 x1 hy y1 hb
   exact ⟨x',s',a,b,c,d 4 (.inl rfl) ha hp⟩
  ·by_cases hc:t=5
   ·obtain ⟨x',s',a,b,c,d⟩:=tw7a (p0:=p0) (q:=q) (t:=t) k hns h hP hK hwa x0 x1 hy y1 hb
    exact ⟨x',s',a,b,c,d 5 (.inr rfl) hc hp⟩
   ·have ha:=beq_eq_false_iff_ne.2 ha
    have hc:=beq_eq_false_iff_ne.2 hc
    exact ⟨x,st,x0,x1,ziL h,by simp! [lt7,f_qtwo,e7,ha,hc,Bool.false_eq_true,if_false,ev.eq_3,ev.eq_6,ev.eq_7,ev.eq_11,ev.eq_19,c_eq,c_gt,onBl,cond_true,cond_false,sizeMax,Nat.reduceLeDiff]⟩
 ·refine ⟨x,st,x0,x1,ziL h,?_⟩
  cases ha:(t == 4) <;> cases hc:(t == 5) <;> simp! [lt7,f_qtwo,e7,ha,hc,hy,decide_false,Bool.false_eq_true,if_false,ev.eq_3,ev.eq_6,ev.eq_7,ev.eq_11,ev.eq_19,c_eq,c_gt,onBl,cond_true,cond_false,sizeMax,Nat.reduceLeDiff]
end
theorem two (k:Nat) {n0:Nat} {ns:List Int} (hns:ns.length<=1000) (w n:Nat) (hw:4<=w) (hw2:w<=16) (hn:1<=n) (hn2:n<=4) {st:Store} (h:Drw ns n0 st) :
  ∃ x y st',0<=x/\x < 2 ^ (w * n)/\0<=y/\y < 2 ^ (w * n)/\Onl ns n0 st st'/\callT T (k+5) znv [.loc n0,.int w,.int n] st=.ok (.tup [.int x,.int y]) st':=by
 have hK:4<=w * n:=Nat.mul_le_mul hw hn
 have hK64:w * n<=64:=Nat.mul_le_mul hw2 hn2
 have hwm:(w:Int) * (n:Int)=((w * n:Nat):Int):=by simp
 have hwa:(w:Int).natAbs < 18446744073709551616:=by omega
 obtain ⟨hpow,h16⟩:=znW hK hK64
 obtain ⟨m0,m1⟩:=zsH hK hK64
 obtain ⟨x,s1,x0,x1,o1,f1⟩:=worth k hns w n hw hw2 hn hn2 h
 have h1:=o1.drw h
 obtain ⟨y,s2,y0,y1,o2,f2⟩:=worth k hns w n hw hw2 hn hn2 h1
 have h2:=o2.drw h1
 obtain ⟨t,s3,t0,t1,o3,f3⟩:=takeD (k+1) hns (m:=7) (by decide) (by decide) h2
 have h3:=o3.drw h2
 obtain ⟨p,s4,p0,p1,o4,f4⟩:=takeD (k+1) hns (m:=((w * n:Nat):Int)) m0 m1 h3
 have h4:=o4.drw h3
 obtain ⟨p,rfl⟩:=zks p0
 have hlt:p < w * n:=Int.ofNat_lt.1 p1
 have ht:=zfA (k+3) p (Nat.lt_of_lt_of_le hlt (Nat.le_trans hK64 (by decide))) s4
 have hpK:(2:Int) ^ p < 2 ^ (w * n):=by exact_mod_cast Nat.pow_lt_pow_right (a:=2) (by decide) hlt
 have hp0:(0:Int) < 2 ^ p:=Int.pow_pos (by decide)
 obtain ⟨ya,ya0,ya1,g4⟩:=tw4 (p0:=some (.loc n0)) (w:=w) (n:=n) (x:=x) (t:=t) (c:=callT T (k+4)) (st:=s4) hp0 (Int.lt_of_lt_of_le hpK hpow) y0 y1
 obtain ⟨yb,s5,yb0,yb1,o5,g5⟩:=tw5 (w:=w) (n:=n) (x:=x) (t:=t) (q:=2 ^ p) k hns h4 rfl h16 ya0 ya1
 have h5:=o5.drw h4
 obtain ⟨yc,yc0,yc1,g6⟩:=tw6 (p0:=some (.loc n0)) (w:=w) (n:=n) (x:=x) (t:=t) (c:=callT T (k+4)) (st:=s5) hp0 hpK yb0 yb1
 obtain ⟨xd,s6,xd0,xd1,o6,g7⟩:=tw7 (t:=t) (q:=2 ^ p) k hns h5 rfl rfl hK64 hwa x0 x1 yc0 yc1 hpow
 obtain ⟨ye,ye0,ye1,g8⟩:=tw8 (p0:=some (.loc n0)) (w:=w) (n:=n) (t:=t) (q:=2 ^ p) (c:=callT T (k+4)) (st:=s6) xd0 xd1 yc0 yc1
 refine ⟨xd,ye,s6,xd0,xd1,ye0,ye1,((((o1.trans o2).trans o3).trans o4).trans o5).trans o6,?_⟩
 have hT:T znv=some ⟨3,7,false,f_qtwo.body⟩:=rfl
 have hb:f_qtwo.body=(match f_qtwo.body with
  | .cons q0 (.cons q1 (.cons q2 (.cons q3 _)))=>.cons q0 (.cons q1 (.cons q2 (.cons q3 ltU)))
  | _=>.nil):=rfl
 rw [callT,hT,hb]
 simp! [f_qtwo,ltU,f1,f2,f3,zdr hwa,hwm,f4,ht,g4,g5,g6,g7,g8,Bool.false_eq_true,if_false,ev.eq_3,ev.eq_6,ev.eq_7,ev.eq_11,ev.eq_19,c_eq,c_gt,onBl,cond_true,cond_false,sizeMax,Nat.reduceLeDiff]
noncomputable def ls4:Cs:=match f_law.body with
 | .cons _ (.cons _ (.cons _ (.cons _ (.cons s _))))=>s
 | _=>.pass
noncomputable def ls8:Cs:=match f_law.body with
 | .cons _ (.cons _ (.cons _ (.cons _ (.cons _ (.cons _ (.cons _ (.cons _ (.cons s _))))))))=>s
 | _=>.pass
noncomputable def ls9:Cs:=match f_law.body with
 | .cons _ (.cons _ (.cons _ (.cons _ (.cons _ (.cons _ (.cons _ (.cons _ (.cons _ (.cons s _)))))))))=>s
 | _=>.pass
noncomputable def ls10:Cs:=match f_law.body with
 | .cons _ (.cons _ (.cons _ (.cons _ (.cons _ (.cons _ (.cons _ (.cons _ (.cons _ (.cons _ (.cons s _))))))))))=>s
 | _=>.pass
noncomputable def ls11:Cs:=match f_law.body with
 | .cons _ (.cons _ (.cons _ (.cons _ (.cons _ (.cons _ (.cons _ (.cons _ (.cons _ (.cons _ (.cons _ (.cons s _)))))))))))=>s
 | _=>.pass
noncomputable def ls15:Cs:=match f_law.body with
 | .cons _ (.cons _ (.cons _ (.cons _ (.cons _ (.cons _ (.cons _ (.cons _ (.cons _ (.cons _ (.cons _ (.cons _ (.cons _ (.cons _ (.cons _ (.cons s _)))))))))))))))=>s
 | _=>.pass
noncomputable def lsV:Css:=match f_law.body with
 | .cons _ (.cons _ (.cons _ (.cons _ (.cons _ (.cons _ (.cons _ (.cons _ (.cons _ (.cons _ (.cons _ (.cons _ (r))))))))))))=>r
 | _=>.nil
noncomputable def lsU:Css:=match f_law.body with
 | .cons _ (.cons _ (.cons _ (.cons _ (.cons _ (.cons q5 (.cons q6 (.cons q7 (.cons _ (.cons _ (.cons _ (.cons _ _)))))))))))=>.cons q5 (.cons q6 (.cons q7 (.cons ls8 (.cons ls9 (.cons ls10 (.cons ls11 lsV))))))
 | _=>.nil
noncomputable def lsW:Css:=match f_law.body with
 | .cons _ (.cons _ (.cons _ (.cons _ (.cons _ (.cons _ (.cons _ (.cons _ (.cons _ (.cons _ (.cons _ (.cons _ ((.cons q12 (.cons q13 (.cons q14 (.cons _ r)))) ))))))))))))=>.cons q12 (.cons q13 (.cons q14 (.cons ls15 r)))
 | _=>.nil
section
variable {p0 p2:Option PV} {ns:List Int} (hns:ns.length<=1000)
include hns
theorem st4 {w N:Nat} (hw:4<=w/\w<=16) (hN:1<=N/\N<=4) {st:Store} (h:Drw ns 0 st):∃ (w' n':Nat) (s':Store),4<=w'/\w'<=16/\1<=n'/\n'<=4/\Onl ns 0 st s'/\ex (callT T 11) [p0,some (.loc 0),p2,some (.int N),some (.int w),none,none,none,none,none,none,none,none,none,none] st ls4=.nx [p0,some (.loc 0),p2,some (.int n'),some (.int w'),none,none,none,none,none,none,none,none,none,none] s':=by
 obtain ⟨t,s3,t0,t1,o3,f3⟩:=takeD 8 hns (m:=32) (by omega) (by omega) h
 have f3:callT T 11 zdb [.loc 0,.int 32] st=_:=f3
 have hmod:binV .mod (.int (w:Int)) (.int 3)=some (.int ((w:Int) % 3)):=zb5 (by omega)
 have hbt:∀ a c p d e r q t u v z y g j k:Option PV,∀ s i:PV,bindT (.t [4,3]) (.tup [s,i]) [a,c,p,d,e,r,q,t,u,v,z,y,g,j,k]=some [a,c,p,some i,some s,r,q,t,u,v,z,y,g,j,k]:=fun _ _ _ _ _ _ _ _ _ _ _ _ _ _ _ _ _=>rfl
 by_cases ht:t=5
 ·refine ⟨16 - w % 3,4,s3,by omega,by omega,by omega,by omega,o3,?_⟩
  have hr:(16:Int) - (w:Int) % 3=((16 - w % 3:Nat):Int):=by omega
  subst ht
  simp! [ls4,f_law,Bool.false_eq_true,if_false,ev.eq_3,ev.eq_6,ev.eq_7,ev.eq_11,ev.eq_16,ev.eq_19,onBl,sizeMax,Nat.reduceLeDiff,f3,za6,hmod,hr,c_eq,beq_self_eq_true,cond_true,hbt]
  rfl
 ·refine ⟨w,N,s3,by omega,by omega,by omega,by omega,o3,?_⟩
  have hb:(t == 5)=false:=by simpa using ht
  simp! [ls4,f_law,Bool.false_eq_true,if_false,ev.eq_3,ev.eq_6,ev.eq_7,ev.eq_11,ev.eq_16,ev.eq_19,onBl,sizeMax,Nat.reduceLeDiff,f3,c_eq,hb,cond_false]
omit hns in
theorem st8 {w n:Nat} {P x y t:Int} (hP:0 < P) (x0:0<=x) (x1:x < P) (st:Store):∃ x',0<=x'/\x' < P/\ex (callT T 11) [p0,some (.loc 0),p2,some (.int n),some (.int w),some (.int P),some (.int x),some (.int y),some (.int t),none,none,none,none,none,none] st ls8=.nx [p0,some (.loc 0),p2,some (.int n),some (.int w),some (.int P),some (.int x'),some (.int y),some (.int t),none,none,none,none,none,none] st:=by
 by_cases ht:t % 2=1
 ·refine ⟨(0 - x) % P,Int.emod_nonneg _ (by omega),Int.emod_lt_of_pos _ hP,?_⟩
  simp! [ls8,f_law,Bool.false_eq_true,if_false,ev.eq_3,ev.eq_6,ev.eq_7,ev.eq_11,ev.eq_16,ev.eq_19,onBl,sizeMax,Nat.reduceLeDiff,zbu,za6,zb5 hP,c_eq,ht,beq_self_eq_true,cond_true]
 ·have hb:(t % 2 == 1)=false:=by simpa using ht
  refine ⟨x,x0,x1,?_⟩
  simp! [ls8,f_law,Bool.false_eq_true,if_false,ev.eq_3,ev.eq_6,ev.eq_7,ev.eq_11,ev.eq_16,ev.eq_19,onBl,sizeMax,Nat.reduceLeDiff,zbu,c_eq,hb,cond_false]
omit hns in
theorem st9 {w n:Nat} {P x y t:Int} (hP:0 < P) (y0:0<=y) (y1:y < P) (st:Store):∃ y',0<=y'/\y' < P/\ex (callT T 11) [p0,some (.loc 0),p2,some (.int n),some (.int w),some (.int P),some (.int x),some (.int y),some (.int t),none,none,none,none,none,none] st ls9=.nx [p0,some (.loc 0),p2,some (.int n),some (.int w),some (.int P),some (.int x),some (.int y'),some (.int t),none,none,none,none,none,none] st:=by
 by_cases ht:t / 2 % 2=1
 ·refine ⟨(0 - y) % P,Int.emod_nonneg _ (by omega),Int.emod_lt_of_pos _ hP,?_⟩
  simp! [ls9,f_law,Bool.false_eq_true,if_false,ev.eq_3,ev.eq_6,ev.eq_7,ev.eq_11,ev.eq_16,ev.eq_19,onBl,sizeMax,Nat.reduceLeDiff,zaP,zbu,za6,zb5 hP,c_eq,ht,beq_self_eq_true,cond_true]
 ·have hb:(t / 2 % 2 == 1)=false:=by simpa using ht
  refine ⟨y,y0,y1,?_⟩
  simp! [ls9,f_law,Bool.false_eq_true,if_false,ev.eq_3,ev.eq_6,ev.eq_7,ev.eq_11,ev.eq_16,ev.eq_19,onBl,sizeMax,Nat.reduceLeDiff,zaP,zbu,c_eq,hb,cond_false]
theorem st10 {w n:Nat} {P x y t:Int} (hP:4<=P) (x0:0<=x) (x1:x < P) (y0:0<=y) (y1:y < P) {st:Store} (h:Drw ns 0 st):∃ x' y' s',0<=x'/\x' < P/\0<=y'/\y' < P/\Onl ns 0 st s'/\ex (callT T 11) [p0,some (.loc 0),p2,some (.int n),some (.int w),some (.int P),some (.int x),some (.int y),some (.int t),none,none,none,none,none,none] st ls10=.nx [p0,some (.loc 0),p2,some (.int n),some (.int w),some (.int P),some (.int x'),some (.int y'),some (.int t),none,none,none,none,none,none] s':=by
 obtain ⟨d,s3,d0,d1,o3,f3⟩:=takeD 8 hns (m:=8) (by omega) (by omega) h
 have f3:callT T 11 zdb [.loc 0,.int 8] st=_:=f3
 by_cases hd:d=3
 ·obtain ⟨e,s4,e0,e1,o4,f4⟩:=takeD 8 hns (m:=4) (by omega) (by omega) (o3.drw h)
  have f4:callT T 11 zdb [.loc 0,.int 4] s3=_:=f4
  obtain ⟨v,v0,v1,hv⟩:∃ v:Int,0<=v/\v < P/\∀ st,idxV st (.tup [.int (P - 1),.int 1,.int 2,.int (P / 2)]) (.int e)=some (.int v):=by
   rcases (by omega:e=0 \/ e=1 \/ e=2 \/ e=3) with z | z | z | z <;> subst z
   ·exact ⟨P - 1,by omega,by omega,fun st=>rfl⟩
   ·exact ⟨1,by omega,by omega,fun st=>rfl⟩
   ·exact ⟨2,by omega,by omega,fun st=>rfl⟩
   ·exact ⟨P / 2,by omega,by omega,fun st=>rfl⟩
  refine ⟨P / 2,v,s4,by omega,by omega,v0,v1,o3.trans o4,?_⟩
  subst hd
  simp! [ls10,f_law,Bool.false_eq_true,if_false,ev.eq_3,ev.eq_6,ev.eq_7,ev.eq_11,ev.eq_16,ev.eq_19,onBl,sizeMax,Nat.reduceLeDiff,f3,c_eq,beq_self_eq_true,cond_true,zaP,za6,f4,hv]
 ·have hb:(d == 3)=false:=by simpa using hd
  refine ⟨x,y,s3,x0,x1,y0,y1,o3,?_⟩
  simp! [ls10,f_law,Bool.false_eq_true,if_false,ev.eq_3,ev.eq_6,ev.eq_7,ev.eq_11,ev.eq_16,ev.eq_19,onBl,sizeMax,Nat.reduceLeDiff,f3,c_eq,hb,cond_false]
omit hns in
theorem st11 {w n:Nat} {P x y t:Int} (hP:4<=P) (y0:0<=y) (y1:y < P) (st:Store):∃ y',0 < y'/\y' < P/\ex (callT T 11) [p0,some (.loc 0),p2,some (.int n),some (.int w),some (.int P),some (.int x),some (.int y),some (.int t),none,none,none,none,none,none] st ls11=.nx [p0,some (.loc 0),p2,some (.int n),some (.int w),some (.int P),some (.int x),some (.int y'),some (.int t),none,none,none,none,none,none] st:=by
 by_cases ht:y=0
 ·subst ht
  refine ⟨P - 1,by omega,by omega,?_⟩
  simp! [ls11,f_law,Bool.false_eq_true,if_false,ev.eq_3,ev.eq_6,ev.eq_7,ev.eq_11,ev.eq_16,ev.eq_19,onBl,sizeMax,Nat.reduceLeDiff,za6,c_eq,beq_self_eq_true,cond_true]
 ·have hb:(y == 0)=false:=by simpa using ht
  refine ⟨y,by omega,y1,?_⟩
  simp! [ls11,f_law,Bool.false_eq_true,if_false,ev.eq_3,ev.eq_6,ev.eq_7,ev.eq_11,ev.eq_16,ev.eq_19,onBl,sizeMax,Nat.reduceLeDiff,c_eq,hb,cond_false]
omit hns in
theorem st15 {w n:Nat} {P x y t X Y:Int} (st:Store):ex (callT T 11) [p0,some (.loc 0),p2,some (.int n),some (.int w),some (.int P),some (.int x),some (.int y),some (.int t),some (.int X),some (.int Y),some (.int (absI X / absI Y)),none,none,none] st ls15=.nx [p0,some (.loc 0),p2,some (.int n),some (.int w),some (.int P),some (.int x),some (.int y),some (.int t),some (.int X),some (.int Y),some (.int (quoI X Y)),none,none,none] st:=by
 have hne:∀ a b:Bool,cmpV .ne (.bl a) (.bl b)=some (.bl (a != b)):=fun a b=>rfl
 unfold quoI
 cases hb:(decide (X < 0) != decide (Y < 0))
 ·simp! [ls15,f_law,Bool.false_eq_true,if_false,ev.eq_3,ev.eq_6,ev.eq_7,ev.eq_11,ev.eq_16,ev.eq_19,onBl,sizeMax,Nat.reduceLeDiff,c_lt,hne,hb,cond_false]
 ·simp! [ls15,f_law,Bool.false_eq_true,if_false,ev.eq_3,ev.eq_6,ev.eq_7,ev.eq_11,ev.eq_16,ev.eq_19,onBl,sizeMax,Nat.reduceLeDiff,c_lt,hne,hb,cond_true,za6]
end
theorem zl1 (l:List Int):noLocs [PV.scr (l.map .int)]=true:=by simp [noLocs,noLoc,zeN]
theorem la1 {N:Nat} {d:Int} (h:1+d=N) (d0:0<=d) (d1:d < 4):1<=N/\N<=4:=by omega
theorem la2 {N:Nat} (h:1<=N/\N<=4):0 < (N:Int)/\(N:Int) < 18446744073709551616 * 18446744073709551616:=by omega
theorem la3 {N:Nat} {q m:Int} (h:1<=N/\N<=4) (hq:(40:Int) / N=q) (hm:(if q - 3 < 13 then q - 3 else 13)=m):0 < m/\m<=13:=by
 subst hm; subst hq
 rcases (by omega:N=1 \/ N=2 \/ N=3 \/ N=4) with z | z | z | z <;> subst z <;> decide
theorem la5 {v:Nat} {e m:Int} (h:4+e=v) (e0:0<=e) (e1:e < m) (hm:m<=13):4<=v/\v<=16:=by omega
theorem la7 {Y P:Int} (h:absI Y < P) (hP:P<=18446744073709551616):Y.natAbs < 18446744073709551616:=by
 rcases zfT Y with ⟨_,z⟩ | ⟨_,z⟩ <;> omega
theorem la8 {w:Nat} (h:w<=16):(w:Int).natAbs < 18446744073709551616:=by omega
theorem la9 {a:Int} (st:Store):bltV .abs st [.int a]=some (.int (absI a)):=rfl
theorem la10 (a b c e:PV):binV .add (.tup [a,b]) (.tup [c,e])=some (.tup [a,b,c,e]):=by simp [binV,sizeMax]
theorem la11 (a b c e:Int):cmpV .eq (.tup [.int a,.int b,.int c,.int e]) (.tup [.int a,.int b,.int c,.int e])=some (.bl true):=by simp [cmpV,shd,shds,peq,peqs]
theorem la12 (a:Int):cmpV .ne (.int a) (.int a)=some (.bl false):=by rw [c_ne]; simp
theorem zo1 (ns:List Int) (hn:ns.length<=63):callT T 12 zns [.scr (ns.map .int)] []=.ok (.bl true) []:=by
 obtain ⟨o,e1,ho⟩:=fresh 10 ns hn []
 have h0:Drw ns 0 [o]:=⟨0,0,false,Int.le_refl 0,by rw [ho]; rfl⟩
 have hns:ns.length<=1000:=Nat.le_trans hn (by decide)
 obtain ⟨b,vs,t0,t1,t2,t3,t4⟩:=tellQ
 have g0:=fun st=>pure0 rfl rfl (lift8 t0 3) st
 obtain ⟨d,s1,d0,d1,o1,f1⟩:=takeD 8 hns (m:=4) (by decide) (by decide) h0
 have h1:=o1.drw h0
 obtain ⟨N,hN⟩:=zks (Int.add_nonneg (show (0:Int)<=1 by decide) d0)
 have hN1:1<=N/\N<=4:=la1 hN d0 d1
 have hq:=zch (i:=40) (j:=(N:Int)) (la2 hN1).1 (la2 hN1).2
 obtain ⟨q,hqq⟩:∃ q:Int,(40:Int) / N=q:=⟨_,rfl⟩
 rw [hqq] at hq
 have hm:=min1 (a:=13) (b:=q - 3) s1
 obtain ⟨m,hmm⟩:∃ m:Int,(if q - 3 < 13 then q - 3 else 13)=m:=⟨_,rfl⟩
 rw [hmm] at hm
 have hm1:0 < m/\m<=13:=la3 hN1 hqq hmm
 obtain ⟨e,s2,e0,e2,o2,f2⟩:=takeD 8 hns (m:=m) hm1.1 (Int.lt_of_le_of_lt hm1.2 (by decide)) h1
 have h2:=o2.drw h1
 obtain ⟨v,hv⟩:=zks (Int.add_nonneg (show (0:Int)<=4 by decide) e0)
 obtain ⟨w,n,s3,a1,a2,a3,a4,o3,f3⟩:=st4 hns (p0:=some (.scr (ns.map .int))) (p2:=some (.tp b vs)) (w:=v) (N:=N) (la5 hv e0 e2 hm1.2) hN1 h2
 have h3:=o3.drw h2
 have hK64:w * n<=64:=Nat.mul_le_mul a2 a4
 have hK1:w * n < 1000:=Nat.lt_of_le_of_lt hK64 (by decide)
 have ht:=zfA 10 (w * n) hK1 s3
 obtain ⟨hpow,h16⟩:=znW (Nat.le_trans a1 (Nat.le_mul_of_pos_right w a3)) hK64
 have hpw:(4:Int)<=2 ^ (w * n):=Int.le_trans (by decide) h16
 have hpp:(0:Int) < 2 ^ (w * n):=Int.lt_of_lt_of_le (by decide) hpw
 obtain ⟨x,y,s4,x0,x1,y0,y1,o4,f4⟩:=two 6 hns w n a1 a2 a3 a4 h3
 have h4:=o4.drw h3
 obtain ⟨t,s5,u0,u1,o5,f5⟩:=takeD 8 hns (m:=8) (by decide) (by decide) h4
 have h5:=o5.drw h4
 obtain ⟨xa,xa0,xa1,f6⟩:=st8 (p0:=some (.scr (ns.map .int))) (p2:=some (.tp b vs)) (w:=w) (n:=n) (y:=y) (t:=t) hpp x0 x1 s5
 obtain ⟨ya,ya0,ya1,f7⟩:=st9 (p0:=some (.scr (ns.map .int))) (p2:=some (.tp b vs)) (w:=w) (n:=n) (x:=xa) (t:=t) hpp y0 y1 s5
 obtain ⟨xb,yb,s6,xb0,xb1,yb0,yb1,o6,f8⟩:=st10 hns (p0:=some (.scr (ns.map .int))) (p2:=some (.tp b vs)) (w:=w) (n:=n) (t:=t) hpw xa0 xa1 ya0 ya1 h5
 obtain ⟨yc,yc0,yc1,f9⟩:=st11 (p0:=some (.scr (ns.map .int))) (p2:=some (.tp b vs)) (w:=w) (n:=n) (x:=xb) (t:=t) hpw yb0 yb1 s6
 have hsx:=signed 9 xb (w * n) hK1 s6
 have hsy:=signed 9 yc (w * n) hK1 s6
 have hsx:callT T 11 ze0 [.int xb,.int ((w * n:Nat):Int)] s6=.ok (.int (sgd (2 ^ (w * n)) xb)) s6:=hsx
 have hsy:callT T 11 ze0 [.int yc,.int ((w * n:Nat):Int)] s6=.ok (.int (sgd (2 ^ (w * n)) yc)) s6:=hsy
 obtain ⟨X,hX⟩:∃ X,X=sgd (2 ^ (w * n)) xb:=⟨_,rfl⟩
 obtain ⟨Y,hY⟩:∃ Y,Y=sgd (2 ^ (w * n)) yc:=⟨_,rfl⟩
 obtain ⟨_,_,cx,dx,_⟩:=zin xb0 xb1
 obtain ⟨_,_,cy,dy,fy⟩:=zin (x:=yc) (Int.le_of_lt yc0) yc1
 have fy:=fy yc0
 rw [<- hX] at hsx cx dx
 rw [<- hY] at hsy cy dy fy
 have hax:bltV .abs s6 [.int X]=some (.int (absI X)):=la9 s6
 have hay:bltV .abs s6 [.int Y]=some (.int (absI Y)):=la9 s6
 have hdv:binV .fdiv (.int (absI X)) (.int (absI Y))=some (.int (absI X / absI Y)):=zch fy (Int.lt_trans (Int.lt_of_lt_of_le cy hpow) (by decide))
 have f10:=st15 (p0:=some (.scr (ns.map .int))) (p2:=some (.tp b vs)) (w:=w) (n:=n) (P:=2 ^ (w * n)) (x:=xb) (y:=yc) (t:=t) (X:=X) (Y:=Y) s6
 obtain ⟨Q,hQ⟩:∃ Q,Q=quoI X Y:=⟨_,rfl⟩
 rw [<- hQ] at f10
 have hYa:Y.natAbs < 18446744073709551616:=la7 cy hpow
 obtain ⟨ob,r1,L,r2⟩:=runQ 2 w n t1 t2 t3 a2 a3 a4 xb yc s6
 have hn1:n - 1+1=n:=Nat.sub_add_cancel a3
 have hp:(2:Int) ^ (w * n)=(2 ^ w:Int) ^ n:=Int.pow_mul
 have mm:=zmb (w:=w) (Nat.lt_of_lt_of_le (by decide) a1) (n:=n - 1) xb0 (by rw [hn1,<- hp]; exact xb1) yc0 (by rw [hn1,<- hp]; exact yc1) (P:=2 ^ (w * n)) (X:=X) (Y:=Y) (Q:=Q) (by rw [hn1,hp]) hX hY hQ
 rw [hn1] at mm
 obtain ⟨m1,m2,m3,m4,m5,m6⟩:=mm
 have hn3:n < 1000:=Nat.lt_of_le_of_lt a4 (by decide)
 have hrc:=read 9 r2 (Str.ofString "c") 99 chC w n a2 hn3
 have hrd:=read 9 r2 (Str.ofString "d") 100 chD w n a2 hn3
 have hmk:=marks 10 r2
 have hen:=ends 9 (Q % 2 ^ (w * n)) (w * n) hK1 (s6++[ob])
 rw [m1] at hrc
 rw [m2] at hrd
 rw [m3,m4,m5,m6] at hmk
 have hwm:(w:Int) * (n:Int)=((w * n:Nat):Int):=by simp
 have hwa:=la8 a2
 have hmd:∀ z:Int,binV .mod (.int z) (.int (2 ^ (w * n)))=some (.int (z % 2 ^ (w * n))):=fun z=>zb5 hpp
 have hT:T zns=some ⟨1,15,true,f_law.body⟩:=rfl
 have e1:callT T 11 ziD [.scr (ns.map .int)] []=.ok (.loc 0) [o]:=e1
 have g0:∀ st,callT T 11 zht [.tup [.str "signed quotient"]] st=.ok (.tp b vs) st:=g0
 have f1:callT T 11 zdb [.loc 0,.int 4] [o]=_:=f1
 have f2:callT T 11 zdb [.loc 0,.int m] s1=_:=f2
 have ht:callT T 11 zhr [.int ((w * n:Nat):Int)] s3=_:=ht
 have f4:callT T 11 znv [.loc 0,.int w,.int n] s3=_:=f4
 have f5:callT T 11 zdb [.loc 0,.int 8] s4=_:=f5
 have r1:callT T 11 zh1 [.tp b vs,.int w,.int n,.int xb,.int yc] s6=.ok (.loc s6.length) (s6++[ob]):=r1
 have hrc:callT T 11 ziz [.loc s6.length,.str "c",.int n,.int w] (s6++[ob])=_:=hrc
 have hrd:callT T 11 ziz [.loc s6.length,.str "d",.int n,.int w] (s6++[ob])=_:=hrd
 have hmk:callT T 11 ziQ [.loc s6.length] (s6++[ob])=_:=hmk
 have hen:callT T 11 zkb [.int (Q % 2 ^ (w * n)),.int ((w * n:Nat):Int)] (s6++[ob])=_:=hen
 have ci:cmpV .is (.loc s6.length) .non=some (.bl false):=rfl
 have hbt:∀ a c p d e r q t u v z y g j k:Option PV,∀ s i:PV,bindT (.t [6,7]) (.tup [s,i]) [a,c,p,d,e,r,q,t,u,v,z,y,g,j,k]=some [a,c,p,d,e,r,some s,some i,u,v,z,y,g,j,k]:=fun _ _ _ _ _ _ _ _ _ _ _ _ _ _ _ _ _=>rfl
 have hv0:lsV=lsW:=rfl
 have runV:exs (callT T 11) [some (.scr (ns.map .int)),some (.loc 0),some (.tp b vs),some (.int n),some (.int w),some (.int (2 ^ (w * n))),some (.int xb),some (.int yc),some (.int t),none,none,none,none,none,none] s6 lsV=.rt (.bl true) (s6++[ob]):=by
  rw [hv0]
  simp! [lsW,f_law,Bool.false_eq_true,if_false,ev.eq_3,ev.eq_6,ev.eq_7,ev.eq_11,ev.eq_16,ev.eq_19,onBl,sizeMax,Nat.reduceLeDiff,za6,zdr hwa,hwm,hsx,hsy,hax,hay,hdv,f10,zdr hYa,r1,ci,hrc,hrd,hmd,la12,cond_false,cond_true,ono,zbv,c_ge,za3,zbW,hmk,hen,la10,la11,noLoc]
 have runU:exs (callT T 11) [some (.scr (ns.map .int)),some (.loc 0),some (.tp b vs),some (.int n),some (.int w),none,none,none,none,none,none,none,none,none,none] s3 lsU=.rt (.bl true) (s6++[ob]):=by
  simp! [lsU,f_law,Bool.false_eq_true,if_false,ev.eq_3,ev.eq_6,ev.eq_7,ev.eq_11,ev.eq_16,ev.eq_19,onBl,sizeMax,Nat.reduceLeDiff,zdr hwa,hwm,ht,f4,hbt,f5,f6,f7,f8,f9,runV]
 have hb:f_law.body=(match f_law.body with
  | .cons q0 (.cons q1 (.cons q2 (.cons q3 (.cons _ _))))=>.cons q0 (.cons q1 (.cons q2 (.cons q3 (.cons ls4 lsU))))
  | _=>.nil):=rfl
 rw [callT,hT,hb]
 simp! [f_law,zl1,Bool.false_eq_true,if_false,ev.eq_3,ev.eq_6,ev.eq_7,ev.eq_11,ev.eq_16,ev.eq_19,onBl,sizeMax,Nat.reduceLeDiff,e1,g0,f1,zbP,hN,hq,za6,hm,f2,hv,f3,runU,noLoc]
end WK
namespace WK
open PySem L2 IC
section
variable {P:Program} {w:World} {K:PySem.W.Frag} {mg:Str->Option Value} {base:Heap} {cl:Nat->Addr} {fa:Nat->Addr} {fdd:Nat->FuncData}
theorem zy (Z:Facts K mg cl fa fdd):∀ k,Fns P w K mg base cl fa fdd k
 | 0=>fun i ps _=>zpT rfl
 | k+1=>fun i ps h=>match i,h with
  | 0,h=>by cases h; exact zpX Z (zy Z k)
  | 1,h=>by cases h; exact zjg Z (zy Z k)
  | 2,h=>by cases h; exact zpM Z (zy Z k)
  | 3,h=>by cases h; exact zmX Z (zy Z k)
  | 4,h=>by cases h; exact zmQ Z (zy Z k)
  | 5,h=>by cases h; exact zp9 Z (zy Z k)
  | 6,h=>by cases h; exact zn9 Z (zy Z k)
  | 7,h=>by cases h; exact zmm Z (zy Z k)
  | 8,h=>by cases h; exact zjt Z (zy Z k)
  | 9,h=>by cases h; exact zgz Z (zy Z k)
  | 10,h=>by cases h; exact zhK Z (zy Z k)
  | 11,h=>by cases h; exact zg2 Z (zy Z k)
  | 12,h=>by cases h; exact zjX Z (zy Z k)
  | 13,h=>by cases h; exact zlI Z (zy Z k)
  | 14,h=>by cases h; exact ziP Z (zy Z k)
  | 15,h=>by cases h; exact zgS Z (zy Z k)
  | 16,h=>by cases h; exact zkQ Z (zy Z k)
  | 17,h=>by cases h; exact zhM Z (zy Z k)
  | 18,h=>by cases h; exact zcJ Z (zy Z k)
  | 19,h=>by cases h; exact zjT Z (zy Z k)
  | 20,h=>by cases h; exact zkt Z (zy Z k)
  | 21,h=>by cases h; exact zhl Z (zy Z k)
  | 22,h=>by cases h; exact zfI Z (zy Z k)
  | 23,h=>by cases h; exact zl6 Z (zy Z k)
  | 24,h=>by cases h; exact zmd Z (zy Z k)
  | 25,h=>by cases h; exact zgw Z (zy Z k)
  | 26,h=>by cases h; exact zmA Z (zy Z k)
  | 27,h=>by cases h; exact znC Z (zy Z k)
  | 28,h=>by cases h; exact zo8 Z (zy Z k)
  | 29,h=>by cases h; exact zoR Z (zy Z k)
  | 30,h=>by cases h; exact zmu Z (zy Z k)
  | 31,h=>by cases h; exact zl0 Z (zy Z k)
  | 32,h=>by cases h; exact znT Z (zy Z k)
  | 33,h=>by cases h; exact zmk Z (zy Z k)
  | 34,h=>by cases h; exact zmL Z (zy Z k)
  | 35,h=>by cases h; exact zmh Z (zy Z k)
  | 36,h=>by cases h; exact zlH Z (zy Z k)
  | 37,h=>by cases h; exact zhL Z (zy Z k)
  | 38,h=>by cases h; exact zg1 Z (zy Z k)
  | 39,h=>by cases h; exact zm1 Z (zy Z k)
  | 40,h=>by cases h; exact zgY Z (zy Z k)
  | 41,h=>by cases h; exact zoy Z (zy Z k)
  | 42,h=>by cases h; exact zhX Z (zy Z k)
  | 43,h=>by cases h; exact zr5 Z (zy Z k)
  | 44,h=>by cases h; exact ziO Z (zy Z k)
  | 45,h=>by cases h; exact zj8 Z (zy Z k)
  | 46,h=>by cases h; exact zoI Z (zy Z k)
  | 47,h=>by cases h; exact zmq Z (zy Z k)
  | 48,h=>by cases h; exact zj2 Z (zy Z k)
  | 49,h=>by cases h; exact zhJ Z (zy Z k)
  | 50,h=>by cases h; exact znZ Z (zy Z k)
  | 51,h=>by cases h; exact zqF Z (zy Z k)
  | 52,h=>by cases h; exact zoZ Z (zy Z k)
  | 53,h=>by cases h; exact znA Z (zy Z k)
  | 54,h=>by cases h; exact zpe Z (zy Z k)
  | 55,h=>by cases h; exact zqS Z (zy Z k)
  | 56,h=>by cases h; exact zst Z (zy Z k)
  | i+57,h=>by cases h
end
set_option maxHeartbeats 0 in
noncomputable abbrev FN (x:Str) (s:Stmt) (d kV dc pm:Value) (an:Option Addr) (cd ct:Value):=PySem.W.fnOf x x (defArgs s) (defBody s) (defScope s) d kV dc pm an cd ct
noncomputable abbrev lN (K:PySem.W.Frag) (f:Addr) (x:Str) (s:Stmt) (d oc:Value) (od:Option Addr) (kV dc pm:Value) (an:Option Addr) (cd ct:Value) (sl:Array (Option Value)) := K.lookup f=some ⟨oc,od,.func (FN x s d kV dc pm an cd ct),sl⟩
noncomputable abbrev aN (K:PySem.W.Frag) (x:Str) (f:Addr):=PySem.W.nsIn K mainGlobals x=some (some (.ref f))
noncomputable abbrev cN (K:PySem.W.Frag) (c:Value) (x:Str):=PySem.W.codeIn K c x=true
noncomputable abbrev pN (K:PySem.W.Frag) (f:Addr):=PySem.W.keepIn K (.ref f)=true
theorem all_mk {l:PySem.W.OpenLaw} {w:World} {K:PySem.W.Frag} {h:Heap} {mg:Str->Option Value} {fx:Addr} (X:K.In h) (G:h.Ns mainGlobals mg) (hfa:mg "law"=some (.ref fx)) (a0:aN K "word" f0) (l0:lN K f0 "word" zeu (.ref dT0) oc0 od0 kV0 dc0 pm0 an0 cd0 ct0 sl0) (c0:cN K cd0 "word") (p0:pN K f0) (d0:K.lookup dT0=some ⟨.type "tuple",dd0,.seq #[.int 0 dk0_0,.int 0 dk0_1,.int 0 dk0_2,.int 0 dk0_3] dn0,ds0⟩) (a1:aN K "last_word" f1) (l1:lN K f1 "last_word" zbG .none oc1 od1 kV1 dc1 pm1 an1 cd1 ct1 sl1) (c1:cN K cd1 "last_word") (p1:pN K f1) (a2:aN K "rows" f2) (l2:lN K f2 "rows" zgc .none oc2 od2 kV2 dc2 pm2 an2 cd2 ct2 sl2) (c2:cN K cd2 "rows") (p2:pN K f2) (a3:aN K "rounds" f3) (l3:lN K f3 "rounds" zeg .none oc3 od3 kV3 dc3 pm3 an3 cd3 ct3 sl3) (c3:cN K cd3 "rounds") (p3:pN K f3) (a4:aN K "lowest" f4) (l4:lN K f4 "lowest" zcv (.ref dT4) oc4 od4 kV4 dc4 pm4 an4 cd4 ct4 sl4) (c4:cN K cd4 "lowest") (p4:pN K f4) (d4:K.lookup dT4=some ⟨.type "tuple",dd4,.seq #[.int 0 dk4_0,.int 0 dk4_1,.int 0 dk4_2,.int 0 dk4_3] dn4,ds4⟩) (a5:aN K "term" f5) (l5:lN K f5 "term" zfi (.ref dT5) oc5 od5 kV5 dc5 pm5 an5 cd5 ct5 sl5) (c5:cN K cd5 "term") (p5:pN K f5) (d5:K.lookup dT5=some ⟨.type "tuple",dd5,.seq #[.int 0 dk5_0,.int 0 dk5_1,.int 0 dk5_2,.int 0 dk5_3] dn5,ds5⟩) (a6:aN K "moved" f6) (l6:lN K f6 "moved" zcF (.ref dT6) oc6 od6 kV6 dc6 pm6 an6 cd6 ct6 sl6) (c6:cN K cd6 "moved") (p6:pN K f6) (d6:K.lookup dT6=some ⟨.type "tuple",dd6,.seq #[.int 0 dk6_0] dn6,ds6⟩) (a7:aN K "doubled" f7) (l7:lN K f7 "doubled" zbX .none oc7 od7 kV7 dc7 pm7 an7 cd7 ct7 sl7) (c7:cN K cd7 "doubled") (p7:pN K f7) (a8:aN K "kept_mark" f8) (l8:lN K f8 "kept_mark" zbE .none oc8 od8 kV8 dc8 pm8 an8 cd8 ct8 sl8) (c8:cN K cd8 "kept_mark") (p8:pN K f8) (a9:aN K "kept_contrary" f9) (l9:lN K f9 "kept_contrary" zaE .none oc9 od9 kV9 dc9 pm9 an9 cd9 ct9 sl9) (c9:cN K cd9 "kept_contrary") (p9:pN K f9) (a10:aN K "asked_words" f10) (l10:lN K f10 "asked_words" zal .none oc10 od10 kV10 dc10 pm10 an10 cd10 ct10 sl10) (c10:cN K cd10 "asked_words") (p10:pN K f10) (a11:aN K "answer_marks" f11) (l11:lN K f11 "answer_marks" zM .none oc11 od11 kV11 dc11 pm11 an11 cd11 ct11 sl11) (c11:cN K cd11 "answer_marks") (p11:pN K f11) (a12:aN K "by_nought" f12) (l12:lN K f12 "by_nought" zaN .none oc12 od12 kV12 dc12 pm12 an12 cd12 ct12 sl12) (c12:cN K cd12 "by_nought") (p12:pN K f12) (a13:aN K "divided" f13) (l13:lN K f13 "divided" zaB .none oc13 od13 kV13 dc13 pm13 an13 cd13 ct13 sl13) (c13:cN K cd13 "divided") (p13:pN K f13) (a14:aN K "next_place" f14) (l14:lN K f14 "next_place" zaJ .none oc14 od14 kV14 dc14 pm14 an14 cd14 ct14 sl14) (c14:cN K cd14 "next_place") (p14:pN K f14) (a15:aN K "less_divisor" f15) (l15:lN K f15 "less_divisor" zV .none oc15 od15 kV15 dc15 pm15 an15 cd15 ct15 sl15) (c15:cN K cd15 "less_divisor") (p15:pN K f15) (a16:aN K "put_back" f16) (l16:lN K f16 "put_back" zax .none oc16 od16 kV16 dc16 pm16 an16 cd16 ct16 sl16) (c16:cN K cd16 "put_back") (p16:pN K f16) (a17:aN K "next_figure" f17) (l17:lN K f17 "next_figure" zam .none oc17 od17 kV17 dc17 pm17 an17 cd17 ct17 sl17) (c17:cN K cd17 "next_figure") (p17:pN K f17) (a18:aN K "signed_quotient_telling" f18) (l18:lN K f18 "signed_quotient_telling" zl .none oc18 od18 kV18 dc18 pm18 an18 cd18 ct18 sl18) (c18:cN K cd18 "signed_quotient_telling") (p18:pN K f18) (a19:aN K "kept_sign" f19) (l19:lN K f19 "kept_sign" zaO .none oc19 od19 kV19 dc19 pm19 an19 cd19 ct19 sl19) (c19:cN K cd19 "kept_sign") (p19:pN K f19) (a20:aN K "worth_of" f20) (l20:lN K f20 "worth_of" zb6 .none oc20 od20 kV20 dc20 pm20 an20 cd20 ct20 sl20) (c20:cN K cd20 "worth_of") (p20:pN K f20) (a21:aN K "turned_where" f21) (l21:lN K f21 "turned_where" zA .none oc21 od21 kV21 dc21 pm21 an21 cd21 ct21 sl21) (c21:cN K cd21 "turned_where") (p21:pN K f21) (a22:aN K "unfit_quotient" f22) (l22:lN K f22 "unfit_quotient" zJ .none oc22 od22 kV22 dc22 pm22 an22 cd22 ct22 sl22) (c22:cN K cd22 "unfit_quotient") (p22:pN K f22) (a23:aN K "telling" f23) (l23:lN K f23 "telling" zbr .none oc23 od23 kV23 dc23 pm23 an23 cd23 ct23 sl23) (c23:cN K cd23 "telling") (p23:pN K f23) (a24:aN K "is_deed" f24) (l24:lN K f24 "is_deed" za8 .none oc24 od24 kV24 dc24 pm24 an24 cd24 ct24 sl24) (c24:cN K cd24 "is_deed") (p24:pN K f24) (a25:aN K "named_telling" f25) (l25:lN K f25 "named_telling" zay .none oc25 od25 kV25 dc25 pm25 an25 cd25 ct25 sl25) (c25:cN K cd25 "named_telling") (p25:pN K f25) (a26:aN K "_law_fresh" f26) (l26:lN K f26 "_law_fresh" zeh .none oc26 od26 kV26 dc26 pm26 an26 cd26 ct26 sl26) (c26:cN K cd26 "_law_fresh") (p26:pN K f26) (a27:aN K "_law_mixed" f27) (l27:lN K f27 "_law_mixed" zdh .none oc27 od27 kV27 dc27 pm27 an27 cd27 ct27 sl27) (c27:cN K cd27 "_law_mixed") (p27:pN K f27) (a28:aN K "_law_fill" f28) (l28:lN K f28 "_law_fill" zdU .none oc28 od28 kV28 dc28 pm28 an28 cd28 ct28 sl28) (c28:cN K cd28 "_law_fill") (p28:pN K f28) (a29:aN K "_law_take" f29) (l29:lN K f29 "_law_take" zeQ .none oc29 od29 kV29 dc29 pm29 an29 cd29 ct29 sl29) (c29:cN K cd29 "_law_take") (p29:pN K f29) (a30:aN K "_law_worth" f30) (l30:lN K f30 "_law_worth" zcR .none oc30 od30 kV30 dc30 pm30 an30 cd30 ct30 sl30) (c30:cN K cd30 "_law_worth") (p30:pN K f30) (a31:aN K "_law_two_to" f31) (l31:lN K f31 "_law_two_to" zcC .none oc31 od31 kV31 dc31 pm31 an31 cd31 ct31 sl31) (c31:cN K cd31 "_law_two_to") (p31:pN K f31) (a32:aN K "_law_words" f32) (l32:lN K f32 "_law_words" zct .none oc32 od32 kV32 dc32 pm32 an32 cd32 ct32 sl32) (c32:cN K cd32 "_law_words") (p32:pN K f32) (a33:aN K "_law_signed" f33) (l33:lN K f33 "_law_signed" zcD .none oc33 od33 kV33 dc33 pm33 an33 cd33 ct33 sl33) (c33:cN K cd33 "_law_signed") (p33:pN K f33) (a34:aN K "_law_whole" f34) (l34:lN K f34 "_law_whole" zcs .none oc34 od34 kV34 dc34 pm34 an34 cd34 ct34 sl34) (c34:cN K cd34 "_law_whole") (p34:pN K f34) (a35:aN K "_law_wholes" f35) (l35:lN K f35 "_law_wholes" zbi .none oc35 od35 kV35 dc35 pm35 an35 cd35 ct35 sl35) (c35:cN K cd35 "_law_wholes") (p35:pN K f35) (a36:aN K "_law_letter" f36) (l36:lN K f36 "_law_letter" zbS .none oc36 od36 kV36 dc36 pm36 an36 cd36 ct36 sl36) (c36:cN K cd36 "_law_letter") (p36:pN K f36) (a37:aN K "_law_index_cell" f37) (l37:lN K f37 "_law_index_cell" zZ .none oc37 od37 kV37 dc37 pm37 an37 cd37 ct37 sl37) (c37:cN K cd37 "_law_index_cell") (p37:pN K f37) (a38:aN K "_law_telling_row" f38) (l38:lN K f38 "_law_telling_row" zF .none oc38 od38 kV38 dc38 pm38 an38 cd38 ct38 sl38) (c38:cN K cd38 "_law_telling_row") (p38:pN K f38) (a39:aN K "_law_thing" f39) (l39:lN K f39 "_law_thing" zb2 .none oc39 od39 kV39 dc39 pm39 an39 cd39 ct39 sl39) (c39:cN K cd39 "_law_thing") (p39:pN K f39) (a40:aN K "_law_is_sentence" f40) (l40:lN K f40 "_law_is_sentence" zE .none oc40 od40 kV40 dc40 pm40 an40 cd40 ct40 sl40) (c40:cN K cd40 "_law_is_sentence") (p40:pN K f40) (a41:aN K "_law_part" f41) (l41:lN K f41 "_law_part" zbV .none oc41 od41 kV41 dc41 pm41 an41 cd41 ct41 sl41) (c41:cN K cd41 "_law_part") (p41:pN K f41) (a42:aN K "_law_is_telling" f42) (l42:lN K f42 "_law_is_telling" zan .none oc42 od42 kV42 dc42 pm42 an42 cd42 ct42 sl42) (c42:cN K cd42 "_law_is_telling") (p42:pN K f42) (a43:aN K "_law_at" f43) (l43:lN K f43 "_law_at" zlC .none oc43 od43 kV43 dc43 pm43 an43 cd43 ct43 sl43) (c43:cN K cd43 "_law_at") (p43:pN K f43) (a44:aN K "_law_plain_row" f44) (l44:lN K f44 "_law_plain_row" zaM .none oc44 od44 kV44 dc44 pm44 an44 cd44 ct44 sl44) (c44:cN K cd44 "_law_plain_row") (p44:pN K f44) (a45:aN K "_law_one_done" f45) (l45:lN K f45 "_law_one_done" zcc .none oc45 od45 kV45 dc45 pm45 an45 cd45 ct45 sl45) (c45:cN K cd45 "_law_one_done") (p45:pN K f45) (a46:aN K "_law_done" f46) (l46:lN K f46 "_law_done" zdd .none oc46 od46 kV46 dc46 pm46 an46 cd46 ct46 sl46) (c46:cN K cd46 "_law_done") (p46:pN K f46) (a47:aN K "_law_count" f47) (l47:lN K f47 "_law_count" zee .none oc47 od47 kV47 dc47 pm47 an47 cd47 ct47 sl47) (c47:cN K cd47 "_law_count") (p47:pN K f47) (a48:aN K "_law_unrolled" f48) (l48:lN K f48 "_law_unrolled" zak .none oc48 od48 kV48 dc48 pm48 an48 cd48 ct48 sl48) (c48:cN K cd48 "_law_unrolled") (p48:pN K f48) (a49:aN K "_law_rows_right" f49) (l49:lN K f49 "_law_rows_right" zaL .none oc49 od49 kV49 dc49 pm49 an49 cd49 ct49 sl49) (c49:cN K cd49 "_law_rows_right") (p49:pN K f49) (a50:aN K "_law_begun" f50) (l50:lN K f50 "_law_begun" zcO .none oc50 od50 kV50 dc50 pm50 an50 cd50 ct50 sl50) (c50:cN K cd50 "_law_begun") (p50:pN K f50) (a51:aN K "_law_run" f51) (l51:lN K f51 "_law_run" zdo .none oc51 od51 kV51 dc51 pm51 an51 cd51 ct51 sl51) (c51:cN K cd51 "_law_run") (p51:pN K f51) (a52:aN K "_law_read" f52) (l52:lN K f52 "_law_read" zdH .none oc52 od52 kV52 dc52 pm52 an52 cd52 ct52 sl52) (c52:cN K cd52 "_law_read") (p52:pN K f52) (a53:aN K "_law_marks" f53) (l53:lN K f53 "_law_marks" zcQ .none oc53 od53 kV53 dc53 pm53 an53 cd53 ct53 sl53) (c53:cN K cd53 "_law_marks") (p53:pN K f53) (a54:aN K "_law_ends" f54) (l54:lN K f54 "_law_ends" zdL .none oc54 od54 kV54 dc54 pm54 an54 cd54 ct54 sl54) (c54:cN K cd54 "_law_ends") (p54:pN K f54) (a55:aN K "_law_two" f55) (l55:lN K f55 "_law_two" zdW .none oc55 od55 kV55 dc55 pm55 an55 cd55 ct55 sl55) (c55:cN K cd55 "_law_two") (p55:pN K f55) (a56:aN K "law" f56) (l56:lN K f56 "law" zc8 .none oc56 od56 kV56 dc56 pm56 an56 cd56 ct56 sl56) (c56:cN K cd56 "law") (p56:pN K f56) (z_abs:PySem.W.nsIn K mainGlobals "abs"=some none) (z_all:PySem.W.nsIn K mainGlobals "all"=some none) (z_bool:PySem.W.nsIn K mainGlobals "bool"=some none) (z_enumerate:PySem.W.nsIn K mainGlobals "enumerate"=some none) (z_int:PySem.W.nsIn K mainGlobals "int"=some none) (z_isinstance:PySem.W.nsIn K mainGlobals "isinstance"=some none) (z_len:PySem.W.nsIn K mainGlobals "len"=some none) (z_max:PySem.W.nsIn K mainGlobals "max"=some none) (z_min:PySem.W.nsIn K mainGlobals "min"=some none) (z_range:PySem.W.nsIn K mainGlobals "range"=some none) (z_str:PySem.W.nsIn K mainGlobals "str"=some none) (z_tuple:PySem.W.nsIn K mainGlobals "tuple"=some none) (k_bool_n:PySem.W.kitOne K (.type "NoneType") (.type "bool")=some false) (k_bool_b:PySem.W.kitOne K (.type "bool") (.type "bool")=some true) (k_bool_i:PySem.W.kitOne K (.type "int") (.type "bool")=some false) (k_bool_s:PySem.W.kitOne K (.type "str") (.type "bool")=some false) (k_bool_p:PySem.W.kitOne K (.type "tuple") (.type "bool")=some false) (k_bool_l:PySem.W.kitOne K (.type "list") (.type "bool")=some false) (k_int_n:PySem.W.kitOne K (.type "NoneType") (.type "int")=some false) (k_int_b:PySem.W.kitOne K (.type "bool") (.type "int")=some true) (k_int_i:PySem.W.kitOne K (.type "int") (.type "int")=some true) (k_int_s:PySem.W.kitOne K (.type "str") (.type "int")=some false) (k_int_p:PySem.W.kitOne K (.type "tuple") (.type "int")=some false) (k_int_l:PySem.W.kitOne K (.type "list") (.type "int")=some false) (k_str_n:PySem.W.kitOne K (.type "NoneType") (.type "str")=some false) (k_str_b:PySem.W.kitOne K (.type "bool") (.type "str")=some false) (k_str_i:PySem.W.kitOne K (.type "int") (.type "str")=some false) (k_str_s:PySem.W.kitOne K (.type "str") (.type "str")=some true) (k_str_p:PySem.W.kitOne K (.type "tuple") (.type "str")=some false) (k_str_l:PySem.W.kitOne K (.type "list") (.type "str")=some false) (k_tuple_n:PySem.W.kitOne K (.type "NoneType") (.type "tuple")=some false) (k_tuple_b:PySem.W.kitOne K (.type "bool") (.type "tuple")=some false) (k_tuple_i:PySem.W.kitOne K (.type "int") (.type "tuple")=some false) (k_tuple_s:PySem.W.kitOne K (.type "str") (.type "tuple")=some false) (k_tuple_p:PySem.W.kitOne K (.type "tuple") (.type "tuple")=some true) (k_tuple_l:PySem.W.kitOne K (.type "list") (.type "tuple")=some false) (g_BACK_a:aN K "BACK" g_BACK_y0) (g_BACK_l0:K.lookup g_BACK_y0=some ⟨.type "tuple",g_BACK_d0,.seq #[.str "f" g_BACK_t0_0,.ref g_BACK_y1] g_BACK_n0,g_BACK_s0⟩) (g_BACK_l1:K.lookup g_BACK_y1=some ⟨.type "tuple",g_BACK_d1,.seq #[.int 0 g_BACK_t1_0,.int 0 g_BACK_t1_1,.int 0 g_BACK_t1_2,.int 0 g_BACK_t1_3] g_BACK_n1,g_BACK_s1⟩) (g_EACH_PLACE_a:aN K "EACH_PLACE" g_EACH_PLACE_y0) (g_EACH_PLACE_l0:K.lookup g_EACH_PLACE_y0=some ⟨.type "tuple",g_EACH_PLACE_d0,.seq #[.int 0 g_EACH_PLACE_t0_0,.int 0 g_EACH_PLACE_t0_1,.int 1 g_EACH_PLACE_t0_2] g_EACH_PLACE_n0,g_EACH_PLACE_s0⟩) (g_EACH_WORD_a:aN K "EACH_WORD" g_EACH_WORD_y0) (g_EACH_WORD_l0:K.lookup g_EACH_WORD_y0=some ⟨.type "tuple",g_EACH_WORD_d0,.seq #[.int 0 g_EACH_WORD_t0_0,.int 1 g_EACH_WORD_t0_1,.int 0 g_EACH_WORD_t0_2] g_EACH_WORD_n0,g_EACH_WORD_s0⟩) (g_FILL_signed_a:aN K "FILL_signed" g_FILL_signed_y0) (g_FILL_signed_l0:K.lookup g_FILL_signed_y0=some ⟨.type "tuple",g_FILL_signed_d0,.seq #[.str "g" g_FILL_signed_t0_0,.ref g_FILL_signed_y1] g_FILL_signed_n0,g_FILL_signed_s0⟩) (g_FILL_signed_l1:K.lookup g_FILL_signed_y1=some ⟨.type "tuple",g_FILL_signed_d1,.seq #[.int 0 g_FILL_signed_t1_0,.int 0 g_FILL_signed_t1_1,.int 0 g_FILL_signed_t1_2,.int 0 g_FILL_signed_t1_3] g_FILL_signed_n1,g_FILL_signed_s1⟩) (g_LONE_a:aN K "LONE" g_LONE_y0) (g_LONE_l0:K.lookup g_LONE_y0=some ⟨.type "tuple",g_LONE_d0,.seq #[.str "turned" g_LONE_t0_0,.str "bare" g_LONE_t0_1] g_LONE_n0,g_LONE_s0⟩) (g_MARKS_a:aN K "MARKS" g_MARKS_y0) (g_MARKS_l0:K.lookup g_MARKS_y0=some ⟨.type "tuple",g_MARKS_d0,.seq #[.ref g_MARKS_y1,.ref g_MARKS_y3,.ref g_MARKS_y5,.ref g_MARKS_y7] g_MARKS_n0,g_MARKS_s0⟩) (g_MARKS_l1:K.lookup g_MARKS_y1=some ⟨.type "tuple",g_MARKS_d1,.seq #[.str "m" g_MARKS_t1_0,.ref g_MARKS_y2] g_MARKS_n1,g_MARKS_s1⟩) (g_MARKS_l2:K.lookup g_MARKS_y2=some ⟨.type "tuple",g_MARKS_d2,.seq #[.int 0 g_MARKS_t2_0,.int 0 g_MARKS_t2_1,.int 0 g_MARKS_t2_2,.int 0 g_MARKS_t2_3] g_MARKS_n2,g_MARKS_s2⟩) (g_MARKS_l3:K.lookup g_MARKS_y3=some ⟨.type "tuple",g_MARKS_d3,.seq #[.str "m" g_MARKS_t3_0,.ref g_MARKS_y4] g_MARKS_n3,g_MARKS_s3⟩) (g_MARKS_l4:K.lookup g_MARKS_y4=some ⟨.type "tuple",g_MARKS_d4,.seq #[.int 1 g_MARKS_t4_0,.int 0 g_MARKS_t4_1,.int 0 g_MARKS_t4_2,.int 0 g_MARKS_t4_3] g_MARKS_n4,g_MARKS_s4⟩) (g_MARKS_l5:K.lookup g_MARKS_y5=some ⟨.type "tuple",g_MARKS_d5,.seq #[.str "m" g_MARKS_t5_0,.ref g_MARKS_y6] g_MARKS_n5,g_MARKS_s5⟩) (g_MARKS_l6:K.lookup g_MARKS_y6=some ⟨.type "tuple",g_MARKS_d6,.seq #[.int 2 g_MARKS_t6_0,.int 0 g_MARKS_t6_1,.int 0 g_MARKS_t6_2,.int 0 g_MARKS_t6_3] g_MARKS_n6,g_MARKS_s6⟩) (g_MARKS_l7:K.lookup g_MARKS_y7=some ⟨.type "tuple",g_MARKS_d7,.seq #[.str "m" g_MARKS_t7_0,.ref g_MARKS_y8] g_MARKS_n7,g_MARKS_s7⟩) (g_MARKS_l8:K.lookup g_MARKS_y8=some ⟨.type "tuple",g_MARKS_d8,.seq #[.int 3 g_MARKS_t8_0,.int 0 g_MARKS_t8_1,.int 0 g_MARKS_t8_2,.int 0 g_MARKS_t8_3] g_MARKS_n8,g_MARKS_s8⟩) (g_NIL_a:aN K "NIL" g_NIL_y0) (g_NIL_l0:K.lookup g_NIL_y0=some ⟨.type "tuple",g_NIL_d0,.seq #[.str "z" g_NIL_t0_0,.ref g_NIL_y1] g_NIL_n0,g_NIL_s0⟩) (g_NIL_l1:K.lookup g_NIL_y1=some ⟨.type "tuple",g_NIL_d1,.seq #[.int 0 g_NIL_t1_0,.int 0 g_NIL_t1_1,.int 0 g_NIL_t1_2,.int 0 g_NIL_t1_3] g_NIL_n1,g_NIL_s1⟩) (g_PAIRED_a:aN K "PAIRED" g_PAIRED_y0) (g_PAIRED_l0:K.lookup g_PAIRED_y0=some ⟨.type "tuple",g_PAIRED_d0,.seq #[.str "sum" g_PAIRED_t0_0,.str "difference" g_PAIRED_t0_1,.str "compare" g_PAIRED_t0_2,.str "both" g_PAIRED_t0_3,.str "any" g_PAIRED_t0_4,.str "odd" g_PAIRED_t0_5,.str "product" g_PAIRED_t0_6,.str "signed product" g_PAIRED_t0_7,.str "quotient" g_PAIRED_t0_8,.str "signed quotient" g_PAIRED_t0_9] g_PAIRED_n0,g_PAIRED_s0⟩) (g_PAIRWISE_a:aN K "PAIRWISE" g_PAIRWISE_y0) (g_PAIRWISE_l0:K.lookup g_PAIRWISE_y0=some ⟨.type "tuple",g_PAIRWISE_d0,.seq #[.str "both" g_PAIRWISE_t0_0,.str "any" g_PAIRWISE_t0_1,.str "odd" g_PAIRWISE_t0_2] g_PAIRWISE_n0,g_PAIRWISE_s0⟩) (g_SEEN_a:aN K "SEEN" g_SEEN_y0) (g_SEEN_l0:K.lookup g_SEEN_y0=some ⟨.type "tuple",g_SEEN_d0,.seq #[.str "s" g_SEEN_t0_0,.ref g_SEEN_y1] g_SEEN_n0,g_SEEN_s0⟩) (g_SEEN_l1:K.lookup g_SEEN_y1=some ⟨.type "tuple",g_SEEN_d1,.seq #[.int 0 g_SEEN_t1_0,.int 0 g_SEEN_t1_1,.int 0 g_SEEN_t1_2,.int 0 g_SEEN_t1_3] g_SEEN_n1,g_SEEN_s1⟩) (g_SHIFTS_a:aN K "SHIFTS" g_SHIFTS_y0) (g_SHIFTS_l0:K.lookup g_SHIFTS_y0=some ⟨.type "tuple",g_SHIFTS_d0,.seq #[.str "left" g_SHIFTS_t0_0,.str "right" g_SHIFTS_t0_1,.str "down" g_SHIFTS_t0_2,.str "roll" g_SHIFTS_t0_3] g_SHIFTS_n0,g_SHIFTS_s0⟩) (g_SIGN_OF_BOTH_a:aN K "SIGN_OF_BOTH" g_SIGN_OF_BOTH_y0) (g_SIGN_OF_BOTH_l0:K.lookup g_SIGN_OF_BOTH_y0=some ⟨.type "tuple",g_SIGN_OF_BOTH_d0,.seq #[.str "k" g_SIGN_OF_BOTH_t0_0,.ref g_SIGN_OF_BOTH_y1] g_SIGN_OF_BOTH_n0,g_SIGN_OF_BOTH_s0⟩) (g_SIGN_OF_BOTH_l1:K.lookup g_SIGN_OF_BOTH_y1=some ⟨.type "tuple",g_SIGN_OF_BOTH_d1,.seq #[.int 0 g_SIGN_OF_BOTH_t1_0,.int 0 g_SIGN_OF_BOTH_t1_1,.int 0 g_SIGN_OF_BOTH_t1_2,.int 0 g_SIGN_OF_BOTH_t1_3] g_SIGN_OF_BOTH_n1,g_SIGN_OF_BOTH_s1⟩) (g_SIGN_X_a:aN K "SIGN_X" g_SIGN_X_y0) (g_SIGN_X_l0:K.lookup g_SIGN_X_y0=some ⟨.type "tuple",g_SIGN_X_d0,.seq #[.str "i" g_SIGN_X_t0_0,.ref g_SIGN_X_y1] g_SIGN_X_n0,g_SIGN_X_s0⟩) (g_SIGN_X_l1:K.lookup g_SIGN_X_y1=some ⟨.type "tuple",g_SIGN_X_d1,.seq #[.int 0 g_SIGN_X_t1_0,.int 0 g_SIGN_X_t1_1,.int 0 g_SIGN_X_t1_2,.int 0 g_SIGN_X_t1_3] g_SIGN_X_n1,g_SIGN_X_s1⟩) (g_SIGN_Y_a:aN K "SIGN_Y" g_SIGN_Y_y0) (g_SIGN_Y_l0:K.lookup g_SIGN_Y_y0=some ⟨.type "tuple",g_SIGN_Y_d0,.seq #[.str "j" g_SIGN_Y_t0_0,.ref g_SIGN_Y_y1] g_SIGN_Y_n0,g_SIGN_Y_s0⟩) (g_SIGN_Y_l1:K.lookup g_SIGN_Y_y1=some ⟨.type "tuple",g_SIGN_Y_d1,.seq #[.int 0 g_SIGN_Y_t1_0,.int 0 g_SIGN_Y_t1_1,.int 0 g_SIGN_Y_t1_2,.int 0 g_SIGN_Y_t1_3] g_SIGN_Y_n1,g_SIGN_Y_s1⟩) (g_SPARE_a:aN K "SPARE" g_SPARE_y0) (g_SPARE_l0:K.lookup g_SPARE_y0=some ⟨.type "tuple",g_SPARE_d0,.seq #[.str "t" g_SPARE_t0_0,.ref g_SPARE_y1] g_SPARE_n0,g_SPARE_s0⟩) (g_SPARE_l1:K.lookup g_SPARE_y1=some ⟨.type "tuple",g_SPARE_d1,.seq #[.int 0 g_SPARE_t1_0,.int 0 g_SPARE_t1_1,.int 0 g_SPARE_t1_2,.int 0 g_SPARE_t1_3] g_SPARE_n1,g_SPARE_s1⟩)
   :∃ fd:FuncData,(∀ (s:Shared) (v:Value),BindsTo s fd ⟨[v],[]⟩ [("_law_script",v)])/\∀ base:Heap,K.In base->base.Ns mainGlobals mg->FnOk l.prog w K mg base (CX1 l.prog w) 12 fx fd ["_law_script"] (spI K clx (callT T 12) zns):=by
 have e:=Value.ref.inj (Option.some.inj (hfa.symm.trans (PySem.W.mg_of X G a56)))
 subst e
 have Z:Facts K mg clx (fun i=>([f0,f1,f2,f3,f4,f5,f6,f7,f8,f9,f10,f11,f12,f13,f14,f15,f16,f17,f18,f19,f20,f21,f22,f23,f24,f25,f26,f27,f28,f29,f30,f31,f32,f33,f34,f35,f36,f37,f38,f39,f40,f41,f42,f43,f44,f45,f46,f47,f48,f49,f50,f51,f52,f53,f54,f55,fx]:List Addr).getD i 0) (fun i=>match i with
  | 0=>(FN "word" zeu (.ref dT0) kV0 dc0 pm0 an0 cd0 ct0)
  | 1=>(FN "last_word" zbG .none kV1 dc1 pm1 an1 cd1 ct1)
  | 2=>(FN "rows" zgc .none kV2 dc2 pm2 an2 cd2 ct2)
  | 3=>(FN "rounds" zeg .none kV3 dc3 pm3 an3 cd3 ct3)
  | 4=>(FN "lowest" zcv (.ref dT4) kV4 dc4 pm4 an4 cd4 ct4)
  | 5=>(FN "term" zfi (.ref dT5) kV5 dc5 pm5 an5 cd5 ct5)
  | 6=>(FN "moved" zcF (.ref dT6) kV6 dc6 pm6 an6 cd6 ct6)
  | 7=>(FN "doubled" zbX .none kV7 dc7 pm7 an7 cd7 ct7)
  | 8=>(FN "kept_mark" zbE .none kV8 dc8 pm8 an8 cd8 ct8)
  | 9=>(FN "kept_contrary" zaE .none kV9 dc9 pm9 an9 cd9 ct9)
  | 10=>(FN "asked_words" zal .none kV10 dc10 pm10 an10 cd10 ct10)
  | 11=>(FN "answer_marks" zM .none kV11 dc11 pm11 an11 cd11 ct11)
  | 12=>(FN "by_nought" zaN .none kV12 dc12 pm12 an12 cd12 ct12)
  | 13=>(FN "divided" zaB .none kV13 dc13 pm13 an13 cd13 ct13)
  | 14=>(FN "next_place" zaJ .none kV14 dc14 pm14 an14 cd14 ct14)
  | 15=>(FN "less_divisor" zV .none kV15 dc15 pm15 an15 cd15 ct15)
  | 16=>(FN "put_back" zax .none kV16 dc16 pm16 an16 cd16 ct16)
  | 17=>(FN "next_figure" zam .none kV17 dc17 pm17 an17 cd17 ct17)
  | 18=>(FN "signed_quotient_telling" zl .none kV18 dc18 pm18 an18 cd18 ct18)
  | 19=>(FN "kept_sign" zaO .none kV19 dc19 pm19 an19 cd19 ct19)
  | 20=>(FN "worth_of" zb6 .none kV20 dc20 pm20 an20 cd20 ct20)
  | 21=>(FN "turned_where" zA .none kV21 dc21 pm21 an21 cd21 ct21)
  | 22=>(FN "unfit_quotient" zJ .none kV22 dc22 pm22 an22 cd22 ct22)
  | 23=>(FN "telling" zbr .none kV23 dc23 pm23 an23 cd23 ct23)
  | 24=>(FN "is_deed" za8 .none kV24 dc24 pm24 an24 cd24 ct24)
  | 25=>(FN "named_telling" zay .none kV25 dc25 pm25 an25 cd25 ct25)
  | 26=>(FN "_law_fresh" zeh .none kV26 dc26 pm26 an26 cd26 ct26)
  | 27=>(FN "_law_mixed" zdh .none kV27 dc27 pm27 an27 cd27 ct27)
  | 28=>(FN "_law_fill" zdU .none kV28 dc28 pm28 an28 cd28 ct28)
  | 29=>(FN "_law_take" zeQ .none kV29 dc29 pm29 an29 cd29 ct29)
  | 30=>(FN "_law_worth" zcR .none kV30 dc30 pm30 an30 cd30 ct30)
  | 31=>(FN "_law_two_to" zcC .none kV31 dc31 pm31 an31 cd31 ct31)
  | 32=>(FN "_law_words" zct .none kV32 dc32 pm32 an32 cd32 ct32)
  | 33=>(FN "_law_signed" zcD .none kV33 dc33 pm33 an33 cd33 ct33)
  | 34=>(FN "_law_whole" zcs .none kV34 dc34 pm34 an34 cd34 ct34)
  | 35=>(FN "_law_wholes" zbi .none kV35 dc35 pm35 an35 cd35 ct35)
  | 36=>(FN "_law_letter" zbS .none kV36 dc36 pm36 an36 cd36 ct36)
  | 37=>(FN "_law_index_cell" zZ .none kV37 dc37 pm37 an37 cd37 ct37)
  | 38=>(FN "_law_telling_row" zF .none kV38 dc38 pm38 an38 cd38 ct38)
  | 39=>(FN "_law_thing" zb2 .none kV39 dc39 pm39 an39 cd39 ct39)
  | 40=>(FN "_law_is_sentence" zE .none kV40 dc40 pm40 an40 cd40 ct40)
  | 41=>(FN "_law_part" zbV .none kV41 dc41 pm41 an41 cd41 ct41)
  | 42=>(FN "_law_is_telling" zan .none kV42 dc42 pm42 an42 cd42 ct42)
  | 43=>(FN "_law_at" zlC .none kV43 dc43 pm43 an43 cd43 ct43)
  | 44=>(FN "_law_plain_row" zaM .none kV44 dc44 pm44 an44 cd44 ct44)
  | 45=>(FN "_law_one_done" zcc .none kV45 dc45 pm45 an45 cd45 ct45)
  | 46=>(FN "_law_done" zdd .none kV46 dc46 pm46 an46 cd46 ct46)
  | 47=>(FN "_law_count" zee .none kV47 dc47 pm47 an47 cd47 ct47)
  | 48=>(FN "_law_unrolled" zak .none kV48 dc48 pm48 an48 cd48 ct48)
  | 49=>(FN "_law_rows_right" zaL .none kV49 dc49 pm49 an49 cd49 ct49)
  | 50=>(FN "_law_begun" zcO .none kV50 dc50 pm50 an50 cd50 ct50)
  | 51=>(FN "_law_run" zdo .none kV51 dc51 pm51 an51 cd51 ct51)
  | 52=>(FN "_law_read" zdH .none kV52 dc52 pm52 an52 cd52 ct52)
  | 53=>(FN "_law_marks" zcQ .none kV53 dc53 pm53 an53 cd53 ct53)
  | 54=>(FN "_law_ends" zdL .none kV54 dc54 pm54 an54 cd54 ct54)
  | 55=>(FN "_law_two" zdW .none kV55 dc55 pm55 an55 cd55 ct55)
  | 56=>(FN "law" zc8 .none kV56 dc56 pm56 an56 cd56 ct56)
  | _=>(FN "law" zc8 .none kV56 dc56 pm56 an56 cd56 ct56)):={
  F0:=⟨⟨_,_,dT0,_,_,_,_,_,_,_,_,_,_,rfl,l0,c0,d0,rfl,.cons ⟨_,rfl⟩ (.cons ⟨_,rfl⟩ (.cons ⟨_,rfl⟩ (.cons ⟨_,rfl⟩ (.nil))))⟩,p0,PySem.W.mg_of X G a0⟩
  F1:=zaq (st:=zbG) (ps:=["letter"]) X G a1 l1 c1 p1 fun _ _ _ _ _ _ us hl=>by obtain ⟨a,rfl⟩ := kl1 us hl; exact rfl
  F2:=zaq (st:=zgc) (ps:=["told"]) X G a2 l2 c2 p2 fun _ _ _ _ _ _ us hl=>by obtain ⟨a,rfl⟩ := kl1 us hl; exact rfl
  F3:=zaq (st:=zeg) (ps:=["count","sentence","inner"]) X G a3 l3 c3 p3 fun _ _ _ _ _ _ us hl=>by obtain ⟨a,b,c,rfl⟩ := kl3 us hl; exact rfl
  F4:=⟨⟨_,_,dT4,_,_,_,_,_,_,_,_,_,_,rfl,l4,c4,d4,rfl,.cons ⟨_,rfl⟩ (.cons ⟨_,rfl⟩ (.cons ⟨_,rfl⟩ (.cons ⟨_,rfl⟩ (.nil))))⟩,p4,PySem.W.mg_of X G a4⟩
  F5:=⟨⟨_,_,dT5,_,_,_,_,_,_,_,_,_,_,rfl,l5,c5,d5,rfl,.cons ⟨_,rfl⟩ (.cons ⟨_,rfl⟩ (.cons ⟨_,rfl⟩ (.cons ⟨_,rfl⟩ (.nil))))⟩,p5,PySem.W.mg_of X G a5⟩
  F6:=⟨⟨_,_,dT6,_,_,_,_,_,_,_,_,_,_,rfl,l6,c6,d6,rfl,.cons ⟨_,rfl⟩ (.nil)⟩,p6,PySem.W.mg_of X G a6⟩
  F7:=zaq (st:=zbX) (ps:=["letter","count"]) X G a7 l7 c7 p7 fun _ _ _ _ _ _ us hl=>by obtain ⟨a,b,rfl⟩ := kl2 us hl; exact rfl
  F8:=zaq (st:=zbE) (ps:=["to"]) X G a8 l8 c8 p8 fun _ _ _ _ _ _ us hl=>by obtain ⟨a,rfl⟩ := kl1 us hl; exact rfl
  F9:=zaq (st:=zaE) (ps:=["to"]) X G a9 l9 c9 p9 fun _ _ _ _ _ _ us hl=>by obtain ⟨a,rfl⟩ := kl1 us hl; exact rfl
  F10:=zaq (st:=zal) (ps:=["letter","m","count"]) X G a10 l10 c10 p10 fun _ _ _ _ _ _ us hl=>by obtain ⟨a,b,c,rfl⟩ := kl3 us hl; exact rfl
  F11:=zaq (st:=zM) (ps:=["c","m"]) X G a11 l11 c11 p11 fun _ _ _ _ _ _ us hl=>by obtain ⟨a,b,rfl⟩ := kl2 us hl; exact rfl
  F12:=zaq (st:=zaN) (ps:=[]) X G a12 l12 c12 p12 fun _ _ _ _ _ _ us hl=>by obtain rfl := kl0 us hl; exact rfl
  F13:=zaq (st:=zaB) (ps:=["x","y","answer","rest"]) X G a13 l13 c13 p13 fun _ _ _ _ _ _ us hl=>by obtain ⟨a,b,c,d,rfl⟩ := kl4 us hl; exact rfl
  F14:=zaq (st:=zaJ) (ps:=["rest"]) X G a14 l14 c14 p14 fun _ _ _ _ _ _ us hl=>by obtain ⟨a,rfl⟩ := kl1 us hl; exact rfl
  F15:=zaq (st:=zV) (ps:=["rest","y"]) X G a15 l15 c15 p15 fun _ _ _ _ _ _ us hl=>by obtain ⟨a,b,rfl⟩ := kl2 us hl; exact rfl
  F16:=zaq (st:=zax) (ps:=["rest","y"]) X G a16 l16 c16 p16 fun _ _ _ _ _ _ us hl=>by obtain ⟨a,b,rfl⟩ := kl2 us hl; exact rfl
  F17:=zaq (st:=zam) (ps:=["answer"]) X G a17 l17 c17 p17 fun _ _ _ _ _ _ us hl=>by obtain ⟨a,rfl⟩ := kl1 us hl; exact rfl
  F18:=zaq (st:=zl) (ps:=[]) X G a18 l18 c18 p18 fun _ _ _ _ _ _ us hl=>by obtain rfl := kl0 us hl; exact rfl
  F19:=zaq (st:=zaO) (ps:=["to","letter"]) X G a19 l19 c19 p19 fun _ _ _ _ _ _ us hl=>by obtain ⟨a,b,rfl⟩ := kl2 us hl; exact rfl
  F20:=zaq (st:=zb6) (ps:=["cell"]) X G a20 l20 c20 p20 fun _ _ _ _ _ _ us hl=>by obtain ⟨a,rfl⟩ := kl1 us hl; exact rfl
  F21:=zaq (st:=zA) (ps:=["sign","to","source"]) X G a21 l21 c21 p21 fun _ _ _ _ _ _ us hl=>by obtain ⟨a,b,c,rfl⟩ := kl3 us hl; exact rfl
  F22:=zaq (st:=zJ) (ps:=[]) X G a22 l22 c22 p22 fun _ _ _ _ _ _ us hl=>by obtain rfl := kl0 us hl; exact rfl
  F23:=zaq (st:=zbr) (ps:=["deed"]) X G a23 l23 c23 p23 fun _ _ _ _ _ _ us hl=>by obtain ⟨a,rfl⟩ := kl1 us hl; exact rfl
  F24:=zaq (st:=za8) (ps:=["thing"]) X G a24 l24 c24 p24 fun _ _ _ _ _ _ us hl=>by obtain ⟨a,rfl⟩ := kl1 us hl; exact rfl
  F25:=zaq (st:=zay) (ps:=["name"]) X G a25 l25 c25 p25 fun _ _ _ _ _ _ us hl=>by obtain ⟨a,rfl⟩ := kl1 us hl; exact rfl
  F26:=zaq (st:=zeh) (ps:=["_law_script"]) X G a26 l26 c26 p26 fun _ _ _ _ _ _ us hl=>by obtain ⟨a,rfl⟩ := kl1 us hl; exact rfl
  F27:=zaq (st:=zdh) (ps:=["_law_seed"]) X G a27 l27 c27 p27 fun _ _ _ _ _ _ us hl=>by obtain ⟨a,rfl⟩ := kl1 us hl; exact rfl
  F28:=zaq (st:=zdU) (ps:=["_law_state"]) X G a28 l28 c28 p28 fun _ _ _ _ _ _ us hl=>by obtain ⟨a,rfl⟩ := kl1 us hl; exact rfl
  F29:=zaq (st:=zeQ) (ps:=["_law_state","_law_many"]) X G a29 l29 c29 p29 fun _ _ _ _ _ _ us hl=>by obtain ⟨a,b,rfl⟩ := kl2 us hl; exact rfl
  F30:=zaq (st:=zcR) (ps:=["_law_state","_law_w","_law_n"]) X G a30 l30 c30 p30 fun _ _ _ _ _ _ us hl=>by obtain ⟨a,b,c,rfl⟩ := kl3 us hl; exact rfl
  F31:=zaq (st:=zcC) (ps:=["_law_many"]) X G a31 l31 c31 p31 fun _ _ _ _ _ _ us hl=>by obtain ⟨a,rfl⟩ := kl1 us hl; exact rfl
  F32:=zaq (st:=zct) (ps:=["_law_worth_here","_law_w","_law_n"]) X G a32 l32 c32 p32 fun _ _ _ _ _ _ us hl=>by obtain ⟨a,b,c,rfl⟩ := kl3 us hl; exact rfl
  F33:=zaq (st:=zcD) (ps:=["_law_worth_here","_law_many"]) X G a33 l33 c33 p33 fun _ _ _ _ _ _ us hl=>by obtain ⟨a,b,rfl⟩ := kl2 us hl; exact rfl
  F34:=zaq (st:=zcs) (ps:=["_law_thing_here"]) X G a34 l34 c34 p34 fun _ _ _ _ _ _ us hl=>by obtain ⟨a,rfl⟩ := kl1 us hl; exact rfl
  F35:=zaq (st:=zbi) (ps:=["_law_thing_here","_law_many","_law_most"]) X G a35 l35 c35 p35 fun _ _ _ _ _ _ us hl=>by obtain ⟨a,b,c,rfl⟩ := kl3 us hl; exact rfl
  F36:=zaq (st:=zbS) (ps:=["_law_thing_here"]) X G a36 l36 c36 p36 fun _ _ _ _ _ _ us hl=>by obtain ⟨a,rfl⟩ := kl1 us hl; exact rfl
  F37:=zaq (st:=zZ) (ps:=["_law_thing_here"]) X G a37 l37 c37 p37 fun _ _ _ _ _ _ us hl=>by obtain ⟨a,rfl⟩ := kl1 us hl; exact rfl
  F38:=zaq (st:=zF) (ps:=["_law_row"]) X G a38 l38 c38 p38 fun _ _ _ _ _ _ us hl=>by obtain ⟨a,rfl⟩ := kl1 us hl; exact rfl
  F39:=zaq (st:=zb2) (ps:=["_law_thing_here"]) X G a39 l39 c39 p39 fun _ _ _ _ _ _ us hl=>by obtain ⟨a,rfl⟩ := kl1 us hl; exact rfl
  F40:=zaq (st:=zE) (ps:=["_law_told"]) X G a40 l40 c40 p40 fun _ _ _ _ _ _ us hl=>by obtain ⟨a,rfl⟩ := kl1 us hl; exact rfl
  F41:=zaq (st:=zbV) (ps:=["_law_part_here","_law_deep"]) X G a41 l41 c41 p41 fun _ _ _ _ _ _ us hl=>by obtain ⟨a,b,rfl⟩ := kl2 us hl; exact rfl
  F42:=zaq (st:=zan) (ps:=["_law_told"]) X G a42 l42 c42 p42 fun _ _ _ _ _ _ us hl=>by obtain ⟨a,rfl⟩ := kl1 us hl; exact rfl
  F43:=zaq (st:=zlC) (ps:=["_law_index","_law_i","_law_j","_law_n"]) X G a43 l43 c43 p43 fun _ _ _ _ _ _ us hl=>by obtain ⟨a,b,c,d,rfl⟩ := kl4 us hl; exact rfl
  F44:=zaq (st:=zaM) (ps:=["_law_row","_law_i","_law_j","_law_n"]) X G a44 l44 c44 p44 fun _ _ _ _ _ _ us hl=>by obtain ⟨a,b,c,d,rfl⟩ := kl4 us hl; exact rfl
  F45:=zaq (st:=zcc) (ps:=["_law_cells","_law_mark","_law_row","_law_wide"]) X G a45 l45 c45 p45 fun _ _ _ _ _ _ us hl=>by obtain ⟨a,b,c,d,rfl⟩ := kl4 us hl; exact rfl
  F46:=zaq (st:=zdd) (ps:=["_law_cells","_law_mark","_law_row","_law_wide"]) X G a46 l46 c46 p46 fun _ _ _ _ _ _ us hl=>by obtain ⟨a,b,c,d,rfl⟩ := kl4 us hl; exact rfl
  F47:=zaq (st:=zee) (ps:=["_law_count_here","_law_w","_law_n"]) X G a47 l47 c47 p47 fun _ _ _ _ _ _ us hl=>by obtain ⟨a,b,c,rfl⟩ := kl3 us hl; exact rfl
  F48:=zaq (st:=zak) (ps:=["_law_told","_law_w","_law_n","_law_most"]) X G a48 l48 c48 p48 fun _ _ _ _ _ _ us hl=>by obtain ⟨a,b,c,d,rfl⟩ := kl4 us hl; exact rfl
  F49:=zaq (st:=zaL) (ps:=["_law_rows"]) X G a49 l49 c49 p49 fun _ _ _ _ _ _ us hl=>by obtain ⟨a,rfl⟩ := kl1 us hl; exact rfl
  F50:=zaq (st:=zcO) (ps:=["_law_w","_law_n","_law_x","_law_y"]) X G a50 l50 c50 p50 fun _ _ _ _ _ _ us hl=>by obtain ⟨a,b,c,d,rfl⟩ := kl4 us hl; exact rfl
  F51:=zaq (st:=zdo) (ps:=["_law_told","_law_w","_law_n","_law_x","_law_y"]) X G a51 l51 c51 p51 fun _ _ _ _ _ _ us hl=>by obtain ⟨a,b,c,d,e,rfl⟩ := kl5 us hl; exact rfl
  F52:=zaq (st:=zdH) (ps:=["_law_cells","_law_letter_here","_law_many","_law_w"]) X G a52 l52 c52 p52 fun _ _ _ _ _ _ us hl=>by obtain ⟨a,b,c,d,rfl⟩ := kl4 us hl; exact rfl
  F53:=zaq (st:=zcQ) (ps:=["_law_cells"]) X G a53 l53 c53 p53 fun _ _ _ _ _ _ us hl=>by obtain ⟨a,rfl⟩ := kl1 us hl; exact rfl
  F54:=zaq (st:=zdL) (ps:=["_law_worth_here","_law_many"]) X G a54 l54 c54 p54 fun _ _ _ _ _ _ us hl=>by obtain ⟨a,b,rfl⟩ := kl2 us hl; exact rfl
  F55:=zaq (st:=zdW) (ps:=["_law_state","_law_w","_law_n"]) X G a55 l55 c55 p55 fun _ _ _ _ _ _ us hl=>by obtain ⟨a,b,c,rfl⟩ := kl3 us hl; exact rfl
  F56:=zaq (st:=zc8) (ps:=["_law_script"]) X G a56 l56 c56 p56 fun _ _ _ _ _ _ us hl=>by obtain ⟨a,rfl⟩ := kl1 us hl; exact rfl
  z_abs:=PySem.W.mg_none_of X G z_abs
  z_all:=PySem.W.mg_none_of X G z_all
  z_bool:=PySem.W.mg_none_of X G z_bool
  z_enumerate:=PySem.W.mg_none_of X G z_enumerate
  z_int:=PySem.W.mg_none_of X G z_int
  z_isinstance:=PySem.W.mg_none_of X G z_isinstance
  z_len:=PySem.W.mg_none_of X G z_len
  z_max:=PySem.W.mg_none_of X G z_max
  z_min:=PySem.W.mg_none_of X G z_min
  z_range:=PySem.W.mg_none_of X G z_range
  z_str:=PySem.W.mg_none_of X G z_str
  z_tuple:=PySem.W.mg_none_of X G z_tuple
  k_bool:=⟨k_bool_n,k_bool_b,k_bool_i,k_bool_s,k_bool_p,k_bool_l⟩
  k_int:=⟨k_int_n,k_int_b,k_int_i,k_int_s,k_int_p,k_int_l⟩
  k_str:=⟨k_str_n,k_str_b,k_str_i,k_str_s,k_str_p,k_str_l⟩
  k_tuple:=⟨k_tuple_n,k_tuple_b,k_tuple_i,k_tuple_s,k_tuple_p,k_tuple_l⟩
  c_BACK:=⟨g_BACK_y0,PySem.W.mg_of X G g_BACK_a,fun B φ H=>zaC (xs:=[.str "f",.ref g_BACK_y1]) g_BACK_l0 (Nat.le_of_ble_eq_true rfl) (.cons ⟨_,rfl⟩ (.cons rfl .nil)) (zh (by simp only [RepV]) (zh (zaC (xs:=[.int 0,.int 0,.int 0,.int 0]) g_BACK_l1 (Nat.le_of_ble_eq_true rfl) (.cons ⟨_,rfl⟩ (.cons ⟨_,rfl⟩ (.cons ⟨_,rfl⟩ (.cons ⟨_,rfl⟩ .nil)))) (zh (by simp only [RepV]) (zh (by simp only [RepV]) (zh (by simp only [RepV]) (zh (by simp only [RepV]) zat))))) zat))⟩
  c_EACH_PLACE:=⟨g_EACH_PLACE_y0,PySem.W.mg_of X G g_EACH_PLACE_a,fun B φ H=>zaC (xs:=[.int 0,.int 0,.int 1]) g_EACH_PLACE_l0 (Nat.le_of_ble_eq_true rfl) (.cons ⟨_,rfl⟩ (.cons ⟨_,rfl⟩ (.cons ⟨_,rfl⟩ .nil))) (zh (by simp only [RepV]) (zh (by simp only [RepV]) (zh (by simp only [RepV]) zat)))⟩
  c_EACH_WORD:=⟨g_EACH_WORD_y0,PySem.W.mg_of X G g_EACH_WORD_a,fun B φ H=>zaC (xs:=[.int 0,.int 1,.int 0]) g_EACH_WORD_l0 (Nat.le_of_ble_eq_true rfl) (.cons ⟨_,rfl⟩ (.cons ⟨_,rfl⟩ (.cons ⟨_,rfl⟩ .nil))) (zh (by simp only [RepV]) (zh (by simp only [RepV]) (zh (by simp only [RepV]) zat)))⟩
  c_FILL_signed:=⟨g_FILL_signed_y0,PySem.W.mg_of X G g_FILL_signed_a,fun B φ H=>zaC (xs:=[.str "g",.ref g_FILL_signed_y1]) g_FILL_signed_l0 (Nat.le_of_ble_eq_true rfl) (.cons ⟨_,rfl⟩ (.cons rfl .nil)) (zh (by simp only [RepV]) (zh (zaC (xs:=[.int 0,.int 0,.int 0,.int 0]) g_FILL_signed_l1 (Nat.le_of_ble_eq_true rfl) (.cons ⟨_,rfl⟩ (.cons ⟨_,rfl⟩ (.cons ⟨_,rfl⟩ (.cons ⟨_,rfl⟩ .nil)))) (zh (by simp only [RepV]) (zh (by simp only [RepV]) (zh (by simp only [RepV]) (zh (by simp only [RepV]) zat))))) zat))⟩
  c_LONE:=⟨g_LONE_y0,PySem.W.mg_of X G g_LONE_a,fun B φ H=>zaC (xs:=[.str "turned",.str "bare"]) g_LONE_l0 (Nat.le_of_ble_eq_true rfl) (.cons ⟨_,rfl⟩ (.cons ⟨_,rfl⟩ .nil)) (zh (by simp only [RepV]) (zh (by simp only [RepV]) zat))⟩
  c_MARKS:=⟨g_MARKS_y0,PySem.W.mg_of X G g_MARKS_a,fun B φ H=>zaC (xs:=[.ref g_MARKS_y1,.ref g_MARKS_y3,.ref g_MARKS_y5,.ref g_MARKS_y7]) g_MARKS_l0 (Nat.le_of_ble_eq_true rfl) (.cons rfl (.cons rfl (.cons rfl (.cons rfl .nil)))) (zh (zaC (xs:=[.str "m",.ref g_MARKS_y2]) g_MARKS_l1 (Nat.le_of_ble_eq_true rfl) (.cons ⟨_,rfl⟩ (.cons rfl .nil)) (zh (by simp only [RepV]) (zh (zaC (xs:=[.int 0,.int 0,.int 0,.int 0]) g_MARKS_l2 (Nat.le_of_ble_eq_true rfl) (.cons ⟨_,rfl⟩ (.cons ⟨_,rfl⟩ (.cons ⟨_,rfl⟩ (.cons ⟨_,rfl⟩ .nil)))) (zh (by simp only [RepV]) (zh (by simp only [RepV]) (zh (by simp only [RepV]) (zh (by simp only [RepV]) zat))))) zat))) (zh (zaC (xs:=[.str "m",.ref g_MARKS_y4]) g_MARKS_l3 (Nat.le_of_ble_eq_true rfl) (.cons ⟨_,rfl⟩ (.cons rfl .nil)) (zh (by simp only [RepV]) (zh (zaC (xs:=[.int 1,.int 0,.int 0,.int 0]) g_MARKS_l4 (Nat.le_of_ble_eq_true rfl) (.cons ⟨_,rfl⟩ (.cons ⟨_,rfl⟩ (.cons ⟨_,rfl⟩ (.cons ⟨_,rfl⟩ .nil)))) (zh (by simp only [RepV]) (zh (by simp only [RepV]) (zh (by simp only [RepV]) (zh (by simp only [RepV]) zat))))) zat))) (zh (zaC (xs:=[.str "m",.ref g_MARKS_y6]) g_MARKS_l5 (Nat.le_of_ble_eq_true rfl) (.cons ⟨_,rfl⟩ (.cons rfl .nil)) (zh (by simp only [RepV]) (zh (zaC (xs:=[.int 2,.int 0,.int 0,.int 0]) g_MARKS_l6 (Nat.le_of_ble_eq_true rfl) (.cons ⟨_,rfl⟩ (.cons ⟨_,rfl⟩ (.cons ⟨_,rfl⟩ (.cons ⟨_,rfl⟩ .nil)))) (zh (by simp only [RepV]) (zh (by simp only [RepV]) (zh (by simp only [RepV]) (zh (by simp only [RepV]) zat))))) zat))) (zh (zaC (xs:=[.str "m",.ref g_MARKS_y8]) g_MARKS_l7 (Nat.le_of_ble_eq_true rfl) (.cons ⟨_,rfl⟩ (.cons rfl .nil)) (zh (by simp only [RepV]) (zh (zaC (xs:=[.int 3,.int 0,.int 0,.int 0]) g_MARKS_l8 (Nat.le_of_ble_eq_true rfl) (.cons ⟨_,rfl⟩ (.cons ⟨_,rfl⟩ (.cons ⟨_,rfl⟩ (.cons ⟨_,rfl⟩ .nil)))) (zh (by simp only [RepV]) (zh (by simp only [RepV]) (zh (by simp only [RepV]) (zh (by simp only [RepV]) zat))))) zat))) zat))))⟩
  c_NIL:=⟨g_NIL_y0,PySem.W.mg_of X G g_NIL_a,fun B φ H=>zaC (xs:=[.str "z",.ref g_NIL_y1]) g_NIL_l0 (Nat.le_of_ble_eq_true rfl) (.cons ⟨_,rfl⟩ (.cons rfl .nil)) (zh (by simp only [RepV]) (zh (zaC (xs:=[.int 0,.int 0,.int 0,.int 0]) g_NIL_l1 (Nat.le_of_ble_eq_true rfl) (.cons ⟨_,rfl⟩ (.cons ⟨_,rfl⟩ (.cons ⟨_,rfl⟩ (.cons ⟨_,rfl⟩ .nil)))) (zh (by simp only [RepV]) (zh (by simp only [RepV]) (zh (by simp only [RepV]) (zh (by simp only [RepV]) zat))))) zat))⟩
  c_PAIRED:=⟨g_PAIRED_y0,PySem.W.mg_of X G g_PAIRED_a,fun B φ H=>zaC (xs:=[.str "sum",.str "difference",.str "compare",.str "both",.str "any",.str "odd",.str "product",.str "signed product",.str "quotient",.str "signed quotient"]) g_PAIRED_l0 (Nat.le_of_ble_eq_true rfl) (.cons ⟨_,rfl⟩ (.cons ⟨_,rfl⟩ (.cons ⟨_,rfl⟩ (.cons ⟨_,rfl⟩ (.cons ⟨_,rfl⟩ (.cons ⟨_,rfl⟩ (.cons ⟨_,rfl⟩ (.cons ⟨_,rfl⟩ (.cons ⟨_,rfl⟩ (.cons ⟨_,rfl⟩ .nil)))))))))) (zh (by simp only [RepV]) (zh (by simp only [RepV]) (zh (by simp only [RepV]) (zh (by simp only [RepV]) (zh (by simp only [RepV]) (zh (by simp only [RepV]) (zh (by simp only [RepV]) (zh (by simp only [RepV]) (zh (by simp only [RepV]) (zh (by simp only [RepV]) zat))))))))))⟩
  c_PAIRWISE:=⟨g_PAIRWISE_y0,PySem.W.mg_of X G g_PAIRWISE_a,fun B φ H=>zaC (xs:=[.str "both",.str "any",.str "odd"]) g_PAIRWISE_l0 (Nat.le_of_ble_eq_true rfl) (.cons ⟨_,rfl⟩ (.cons ⟨_,rfl⟩ (.cons ⟨_,rfl⟩ .nil))) (zh (by simp only [RepV]) (zh (by simp only [RepV]) (zh (by simp only [RepV]) zat)))⟩
  c_SEEN:=⟨g_SEEN_y0,PySem.W.mg_of X G g_SEEN_a,fun B φ H=>zaC (xs:=[.str "s",.ref g_SEEN_y1]) g_SEEN_l0 (Nat.le_of_ble_eq_true rfl) (.cons ⟨_,rfl⟩ (.cons rfl .nil)) (zh (by simp only [RepV]) (zh (zaC (xs:=[.int 0,.int 0,.int 0,.int 0]) g_SEEN_l1 (Nat.le_of_ble_eq_true rfl) (.cons ⟨_,rfl⟩ (.cons ⟨_,rfl⟩ (.cons ⟨_,rfl⟩ (.cons ⟨_,rfl⟩ .nil)))) (zh (by simp only [RepV]) (zh (by simp only [RepV]) (zh (by simp only [RepV]) (zh (by simp only [RepV]) zat))))) zat))⟩
  c_SHIFTS:=⟨g_SHIFTS_y0,PySem.W.mg_of X G g_SHIFTS_a,fun B φ H=>zaC (xs:=[.str "left",.str "right",.str "down",.str "roll"]) g_SHIFTS_l0 (Nat.le_of_ble_eq_true rfl) (.cons ⟨_,rfl⟩ (.cons ⟨_,rfl⟩ (.cons ⟨_,rfl⟩ (.cons ⟨_,rfl⟩ .nil)))) (zh (by simp only [RepV]) (zh (by simp only [RepV]) (zh (by simp only [RepV]) (zh (by simp only [RepV]) zat))))⟩
  c_SIGN_OF_BOTH:=⟨g_SIGN_OF_BOTH_y0,PySem.W.mg_of X G g_SIGN_OF_BOTH_a,fun B φ H=>zaC (xs:=[.str "k",.ref g_SIGN_OF_BOTH_y1]) g_SIGN_OF_BOTH_l0 (Nat.le_of_ble_eq_true rfl) (.cons ⟨_,rfl⟩ (.cons rfl .nil)) (zh (by simp only [RepV]) (zh (zaC (xs:=[.int 0,.int 0,.int 0,.int 0]) g_SIGN_OF_BOTH_l1 (Nat.le_of_ble_eq_true rfl) (.cons ⟨_,rfl⟩ (.cons ⟨_,rfl⟩ (.cons ⟨_,rfl⟩ (.cons ⟨_,rfl⟩ .nil)))) (zh (by simp only [RepV]) (zh (by simp only [RepV]) (zh (by simp only [RepV]) (zh (by simp only [RepV]) zat))))) zat))⟩
  c_SIGN_X:=⟨g_SIGN_X_y0,PySem.W.mg_of X G g_SIGN_X_a,fun B φ H=>zaC (xs:=[.str "i",.ref g_SIGN_X_y1]) g_SIGN_X_l0 (Nat.le_of_ble_eq_true rfl) (.cons ⟨_,rfl⟩ (.cons rfl .nil)) (zh (by simp only [RepV]) (zh (zaC (xs:=[.int 0,.int 0,.int 0,.int 0]) g_SIGN_X_l1 (Nat.le_of_ble_eq_true rfl) (.cons ⟨_,rfl⟩ (.cons ⟨_,rfl⟩ (.cons ⟨_,rfl⟩ (.cons ⟨_,rfl⟩ .nil)))) (zh (by simp only [RepV]) (zh (by simp only [RepV]) (zh (by simp only [RepV]) (zh (by simp only [RepV]) zat))))) zat))⟩
  c_SIGN_Y:=⟨g_SIGN_Y_y0,PySem.W.mg_of X G g_SIGN_Y_a,fun B φ H=>zaC (xs:=[.str "j",.ref g_SIGN_Y_y1]) g_SIGN_Y_l0 (Nat.le_of_ble_eq_true rfl) (.cons ⟨_,rfl⟩ (.cons rfl .nil)) (zh (by simp only [RepV]) (zh (zaC (xs:=[.int 0,.int 0,.int 0,.int 0]) g_SIGN_Y_l1 (Nat.le_of_ble_eq_true rfl) (.cons ⟨_,rfl⟩ (.cons ⟨_,rfl⟩ (.cons ⟨_,rfl⟩ (.cons ⟨_,rfl⟩ .nil)))) (zh (by simp only [RepV]) (zh (by simp only [RepV]) (zh (by simp only [RepV]) (zh (by simp only [RepV]) zat))))) zat))⟩
  c_SPARE:=⟨g_SPARE_y0,PySem.W.mg_of X G g_SPARE_a,fun B φ H=>zaC (xs:=[.str "t",.ref g_SPARE_y1]) g_SPARE_l0 (Nat.le_of_ble_eq_true rfl) (.cons ⟨_,rfl⟩ (.cons rfl .nil)) (zh (by simp only [RepV]) (zh (zaC (xs:=[.int 0,.int 0,.int 0,.int 0]) g_SPARE_l1 (Nat.le_of_ble_eq_true rfl) (.cons ⟨_,rfl⟩ (.cons ⟨_,rfl⟩ (.cons ⟨_,rfl⟩ (.cons ⟨_,rfl⟩ .nil)))) (zh (by simp only [RepV]) (zh (by simp only [RepV]) (zh (by simp only [RepV]) (zh (by simp only [RepV]) zat))))) zat))⟩
 }
 exact ⟨_,fun s v=>.of_eq rfl,fun base XB _=>zy Z 12 56 _ rfl⟩
theorem walk {l:PySem.W.OpenLaw} {q:Program} {loose:List Str} {XP:(Str->Option Value)->Heap->Prop} {YP:World->Heap->Prop} {d:DefRec} {K:Params->PySem.W.Frag} (hn:l.most=some 63) (hdf:d.params.defaults=[])
  (hY:∀ (w:World) (h:Heap),YP w h->(K w.params).In h)
  (F:∀ (w:World) (mg:Str->Option Value) (fa:Addr) (h:Heap),(K w.params).In h->h.Ns mainGlobals mg->mg d.name=some (.ref fa) ->
   ∃ fd:FuncData,(∀ (s:Shared) (u:Value),BindsTo s fd ⟨[u],[]⟩ [("_law_script",u)])/\∀ base:Heap,(K w.params).In base->base.Ns mainGlobals mg->FnOk l.prog w (K w.params) mg base (CX1 l.prog w) 12 fa fd ["_law_script"] (spI (K w.params) clx (callT T 12) zns)) :
  PySem.W.WalkO q loose XP YP l.row.toRowW d [] (fun f vs=>PySem.call f vs) :=
 L2.walk_of (n:=63) (k:=12) (x:="_law_script") (CX:=fun w=>CX1 l.prog w) (sp:=fun w=>spI (K w.params) clx (callT T 12) zns) hn (by decide) hdf ⟨rfl,by decide,by decide⟩ hY F (fun w H a ns hl _ hS=>znF zo1 hl hS) fun _ _ _ _ _ z=>zsA z
end WK
open PySem PySem.W PyProof.Rows
namespace PySem.W.Fast
def tw12142566451665427727:=Nat
def tw3521052754815442176:=Nat
def tw16928102257714599683:=Nat
def tw6594836353253358630:=Nat
def tw13976132392796723414:=Nat
def tw6075428790701050839:=Nat
def tw3643507662072274229:=Nat
def tw5646788164539985677:=Nat
def tw1685379976705442940:=Nat
def tw17845157101281752348:=Nat
def tw10333079430903205575:=Nat
def tw15764390957841421300:=Nat
def tw2174456259375658571:=Nat
def tw17888228908533562805:=Nat
def tw1259173375251903223:=Nat
def tw16093384947018756994:=Nat
def tw10976750779786050495:=Nat
def tw11051991543985176200:=Nat
def tw2444068839506856042:=Nat
def tw13917045922185607459:=Nat
def tw7527599203540592129:=Nat
def tw10797861959909630425:=Nat
def tw14766496224580596047:=Nat
def tw11941517153990630407:=Nat
def tw6392675042851691082:=Nat
def tw3809758566400360281:=Nat
def tw488257278816067400:=Nat
def tw12089506090833111726:=Nat
def tw12004293304596904107:=Nat
def tw16819765695095979020:=Nat
def tw13238257153162134048:=Nat
def tw3367425313011550895:=Nat
def tw3825602963636518359:=Nat
def tw13940205052524327553:=Nat
def tw27567524480824598:=Nat
def tw13425555371233255813:=Nat
def tw9349390803881789126:=Nat
def tw9599960817271091748:=Nat
def tw6549212243188501443:=Nat
def tw7744229870447530936:=Nat
def tw10377611946861348238:=Nat
def tw2973642943685893096:=Nat
def tw117600345138796238:=Nat
def tw3156436711012052954:=Nat
def tw3997294154433827348:=Nat
def tw15092692759813380990:=Nat
def tw8565152898542599065:=Nat
def tw1538052698745217901:=Nat
def tw3869807390403917669:=Nat
def tw9202246554191825319:=Nat
def tw13560203736072848040:=Nat
def tw1438453676989016371:=Nat
def tw11341889027006280293:=Nat
def tw10944597449374497508:=Nat
def tw17571288909886775837:=Nat
def tw1025101989368527688:=Nat
def tw7077458181555770588:=Nat
def tw2546571816891465382:=Nat
def tw13709299085685994173:=Nat
def tw11224644864010916409:=Nat
def tw1866582683794890251:=Nat
def tw7156613451519659192:=Nat
def tw6153133010573519540:=Nat
def tw1261023182925840862:=Nat
def tw5638583716370921458:=Nat
def tw7697240178588278510:=Nat
def tw4673567726649817087:=Nat
def tw13981931807712767991:=Nat
def tw13099594438663976923:=Nat
def tw17538132679594542963:=Nat
def tw9790450819136352330:=Nat
def tw1583958883051599878:=Nat
def tw6784131650623636366:=Nat
def tw652759913892060572:=Nat
def tw2127070170793026983:=Nat
def tw13787280230552508811:=Nat
def tw14864099838652260530:=Nat
def tw11966294638946232324:=Nat
def tw583233245963396319:=Nat
def tw7309735129469697426:=Nat
def tw716654444480167655:=Nat
def tw8203649509752516467:=Nat
def tw12089435552446715457:=Nat
def tw11319202785984364293:=Nat
def tw10514402411022839361:=Nat
def tw7387129084167190365:=Nat
def tw7168650730163978672:=Nat
def tw1576821062072396565:=Nat
def tw12601535180507144449:=Nat
def tw217341809659857295:=Nat
def tw10229754842017553203:=Nat
def tw4321903097513209421:=Nat
def tw17289767018150579901:=Nat
def tw1839542362858018351:=Nat
def tw17869838128340013753:=Nat
def tw6447635455448344911:=Nat
def tw17941336589429033104:=Nat
def tw11214365432257809739:=Nat
def tw9474097905495652202:=Nat
def tw14960056506970112051:=Nat
def tw15531197745190745408:=Nat
def tw18061586416435213833:=Nat
def tw14819134905275496404:=Nat
def tw8386042139503986481:=Nat
def tw12111009210047990888:=Nat
def tw3563361403161662253:=Nat
def tw4938150832314293898:=Nat
def tw6391207967915104269:=Nat
def tw14057783862824776205:=Nat
def tw6134201571388607132:=Nat
def tw7625876986729382970:=Nat
def tw8611476133084325910:=Nat
def tw11277777275338074778:=Nat
def tw14149704980240507525:=Nat
def tw594942403127579489:=Nat
def tw7152187865016915185:=Nat
def tw10263993079641425126:=Nat
def tw857104103072656392:=Nat
def tw1851184717509159873:=Nat
def tw6812668540198512845:=Nat
def tw1138430478660516111:=Nat
def tw13895117414598601192:=Nat
def tw2531701334571336067:=Nat
def tw13473443199757935535:=Nat
def tw14313470423826039954:=Nat
def tw11578054041290104925:=Nat
def tw8895096252998732371:=Nat
def tw5870234771251214061:=Nat
def tw398397952121096506:=Nat
def tw10872791237300989766:=Nat
def tw14160762512300349028:=Nat
def tw13435821290882497619:=Nat
def tw18250773175004940189:=Nat
def tw6139346943882426611:=Nat
def tw17170070441648123701:=Nat
def tw17693068195473333785:=Nat
def tw16425138077566002690:=Nat
def tw5037309083391459810:=Nat
def tw16078982385067922150:=Nat
def tw12219314742085049581:=Nat
def tw12289733723883189705:=Nat
def tw10147360804020137214:=Nat
def tw13131745012100136823:=Nat
def tw17697233321473987761:=Nat
def tw15257315846843582156:=Nat
def tw12983482795864326332:=Nat
def tw12713004377273710957:=Nat
def tw10141939628188761081:=Nat
def tw4675105373276390054:=Nat
def tw6051154768427853048:=Nat
def tw5775234809325142827:=Nat
def tw7129789343802652811:=Nat
def tw2391069967071448316:=Nat
def tw2528527551292501707:=Nat
def tw11609912720397299444:=Nat
def tw7857802164473486500:=Nat
def tw10253975567867854983:=Nat
def tw4355122883065397430:=Nat
def tw17512392558137186490:=Nat
def tw7896773667243325128:=Nat
def tw5619171052445997957:=Nat
def tw5310432994140461773:=Nat
def tw13969150192862638912:=Nat
def tw12963595784718890064:=Nat
def tw16484015986319877261:=Nat
def tw17767036691002741976:=Nat
def tw8976171375281960519:=Nat
def tw13652942041442004337:=Nat
def tw671526083848089475:=Nat
def tw1856764906175309712:=Nat
def tw1561271543301746627:=Nat
def tw4301876570051973789:=Nat
def tw15220956821850678131:=Nat
def tw5473455474619708739:=Nat
def tw14593442227466586191:=Nat
def tw6066783541072437086:=Nat
def tw789321289671390645:=Nat
def tw3811259612080346662:=Nat
def tw16670406983932013893:=Nat
def tw4595268936686663318:=Nat
def tw14924472276760154135:=Nat
def tw4240371525288298722:=Nat
def tw8480479855215478070:=Nat
def tw3317557413286583333:=Nat
def tw13724720614427101735:=Nat
def tw8467932077050147762:=Nat
def tw13455857014490324113:=Nat
def tw7061454309482022482:=Nat
def tw18150126926528273597:=Nat
def tw4560310617052490231:=Nat
def tw1811544367414612491:=Nat
def tw12596835557844408670:=Nat
def tw2259332367233325524:=Nat
def tw5163761216748840268:=Nat
def tw8228423721412135043:=Nat
def tw5808970487721617412:=Nat
def tw2094297647735335521:=Nat
def tw8614796149866277138:=Nat
def tw705330842716210683:=Nat
def tw10212661953749365932:=Nat
def tw2650691580122656792:=Nat
def tw16041595592050246163:=Nat
def tw109297119108892978:=Nat
def tw2379451704809693164:=Nat
def tw8430204224017615831:=Nat
def tw3281034451269561775:=Nat
def tw16259577344765640121:=Nat
def tw10112381441516829227:=Nat
def tw5185523656019355956:=Nat
def tw9470042821424429895:=Nat
def tw17302262125940882762:=Nat
def tw6881020468430044422:=Nat
def tw15063739193099348881:=Nat
def tw4711105047844237354:=Nat
def tw12490664557466397340:=Nat
def tw11540693263950598226:=Nat
def tw10737206936141794272:=Nat
def tw11612174844436902911:=Nat
def tw12382960919444222336:=Nat
def tw14919367210283705019:=Nat
def tw12698082181228155342:=Nat
def tw8061448795413905176:=Nat
def tw9524474088653963356:=Nat
def tw6500158187393050298:=Nat
def tw5108060351050339401:=Nat
def tw5346401036402815171:=Nat
def tw8637832158743942342:=Nat
def tw4617807736516307877:=Nat
def tw1144729911457077674:=Nat
def tw4079605952535147803:=Nat
def tw250642997015631955:=Nat
def tw13847224603777346663:=Nat
def tw14627108057585416930:=Nat
def tw125269488439905100:=Nat
def tw15605775021867436637:=Nat
def tw7355248091637308918:=Nat
def tw6942566697259976455:=Nat
def tw2256773652654041640:=Nat
def tw9599805381130042117:=Nat
def tw5640576659150798971:=Nat
def tw13920030117629334997:=Nat
def tw12020596803286417404:=Nat
def tw2571209317810953771:=Nat
def tw17294405091226190090:=Nat
def tw9129790594493764869:=Nat
def tw13619552073316785293:=Nat
def tw11066109491330082717:=Nat
def tw8527853387654518124:=Nat
def tw17111836076854754046:=Nat
def tw4013004989547596305:=Nat
def tw192410753020192129:=Nat
def tw5148214177519007795:=Nat
def tw5922282366585349356:=Nat
def tw15041444397716494033:=Nat
def tw18173689125527110145:=Nat
def tw4047339000844819972:=Nat
def tw9244110220205735304:=Nat
def tw13313599624135403812:=Nat
def tw15991001620829315182:=Nat
def tw16746339977135508668:=Nat
def tw17702053254083016570:=Nat
def tw9845197101995505916:=Nat
def tw12307495193351555278:=Nat
def tw10254068371484669695:=Nat
def tw7764097912447006203:=Nat
def tw9121307964397543985:=Nat
def tw18184319325949318793:=Nat
def tw15126380288120642379:=Nat
def tw2867328204708265999:=Nat
def tw2078623925954709556:=Nat
def tw158968094785706699:=Nat
def tw1395213806487990101:=Nat
def tw13461842583672390703:=Nat
def tw9796519705485358199:=Nat
def tw11920633898630031090:=Nat
def tw13513964470782721629:=Nat
def tw9836455331382896575:=Nat
def tw13157682233213358924:=Nat
def tw2834318152032931618:=Nat
def tw15891257798618374446:=Nat
def tw16803794769394672225:=Nat
def tw9096691519878355448:=Nat
def tw7702964105481658356:=Nat
def tw12976068025425016321:=Nat
def tw6659418357374376976:=Nat
def tw10843594811895523189:=Nat
def tw17020704034547556259:=Nat
def tw16209493572079891288:=Nat
def tw17468545444698650028:=Nat
def tw16993954604128455762:=Nat
def tw16882514983888438762:=Nat
def tw7908478208447022968:=Nat
def tw3540172984669855230:=Nat
def tw11009069057719977745:=Nat
def tw11654591469932174508:=Nat
def tw10578785083471932294:=Nat
def tw3649657249480850681:=Nat
def tw12579391335160931550:=Nat
def tw3303172315085361556:=Nat
def tw15967772726881468948:=Nat
def tw648398423751812224:=Nat
def tw13297006885712042274:=Nat
def tw4582831775076318393:=Nat
def tw9726169369617816444:=Nat
def tw10039686973853668765:=Nat
def tw9431434545297657763:=Nat
def tw9164036432632084245:=Nat
def tw16460857969633760926:=Nat
def tw6646616964374097253:=Nat
def tw14478533959495369569:=Nat
def tw10925128241387646117:=Nat
def tw2057572530129090427:=Nat
def tw17568364434240193066:=Nat
def tw12746028900126268514:=Nat
def tw13752067527760687652:=Nat
def tw17757018780891755689:=Nat
def tw6591543231288238119:=Nat
def tw9140727904328523852:=Nat
def tw16044615024605114907:=Nat
def tw9346504838884872229:=Nat
def tw6272439208971273923:=Nat
def tw9018714624605002158:=Nat
def tw8208724282451226731:=Nat
def tw13474100526466543598:=Nat
def tw3577905941911627022:=Nat
def tw12063429483436588348:=Nat
def tw3614758142377109298:=Nat
def tw17189510635702209690:=Nat
def tw16428529753468737018:=Nat
def tw14964820027075560691:=Nat
def tw16506892052669677698:=Nat
def tw1553371489608811366:=Nat
def tw2270632743937799062:=Nat
def tw12373983834593806126:=Nat
def tw1075812998919860046:=Nat
def tw5356355473824013923:=Nat
def tw2742864644658341528:=Nat
def tw5725787502766391572:=Nat
def tw2671250676235243949:=Nat
def tw15729978995517986215:=Nat
def tw226274607851908166:=Nat
def tw10561676900684932090:=Nat
def tw2568135667940265512:=Nat
def tw1272778873176997021:=Nat
def tw15770843013803962124:=Nat
def tw1819800238273727430:=Nat
def tw15299929813341157173:=Nat
def tw5681844334479229704:=Nat
def tw13903758492110171555:=Nat
def tw11373689191750520702:=Nat
def tw11432494893813962940:=Nat
def tw2075723151913409640:=Nat
def tw8293206388783372623:=Nat
def tw6521858474010426400:=Nat
def tw17662571810369878529:=Nat
def tw7133004897160801491:=Nat
def tw1286638290071497585:=Nat
def tw11317802041625741811:=Nat
def tw13975012355907808649:=Nat
def tw7815564286395007858:=Nat
def tw13111317413062662819:=Nat
def tw7680194843362344349:=Nat
def tw11596352857873071343:=Nat
def tw17807526049368103662:=Nat
def tw178303462206944755:=Nat
def tw10189010424726485732:=Nat
def tw14432558453965612302:=Nat
def tw9250142223813548421:=Nat
def tw9558622553412446292:=Nat
def tw960654448112967629:=Nat
def tw3981819567185292880:=Nat
def tw7628404245009121457:=Nat
def tw10996620527045673708:=Nat
def tw6232951644508953433:=Nat
end PySem.W.Fast
set_option maxRecDepth 100000 in
set_option maxHeartbeats 0 in
theorem PySem.Challenge.cw_widewords_k42_signed_quotients_run_holds : PySem.Challenge.rw_widewords_k42_signed_quotients_run.Holds := by
 w_on; o_law; k_head; (case hw=>w_witness2)
 k_fill
 refine WK.walk (l:=PySem.Challenge.rw_widewords_k42_signed_quotients_run) rfl rfl (fun w h Y=>PySem.W.kIn_of Y) ?F
 case F =>
  intro w mg fa h KX G hmg
  refine' WK.all_mk KX G hmg ?a0 ?l0 ?c0 ?p0 ?d0 ?a1 ?l1 ?c1 ?p1 ?a2 ?l2 ?c2 ?p2 ?a3 ?l3 ?c3 ?p3 ?a4 ?l4 ?c4 ?p4 ?d4 ?a5 ?l5 ?c5 ?p5 ?d5 ?a6 ?l6 ?c6 ?p6 ?d6 ?a7 ?l7 ?c7 ?p7 ?a8 ?l8 ?c8 ?p8 ?a9 ?l9 ?c9 ?p9 ?a10 ?l10 ?c10 ?p10 ?a11 ?l11 ?c11 ?p11 ?a12 ?l12 ?c12 ?p12 ?a13 ?l13 ?c13 ?p13 ?a14 ?l14 ?c14 ?p14 ?a15 ?l15 ?c15 ?p15 ?a16 ?l16 ?c16 ?p16 ?a17 ?l17 ?c17 ?p17 ?a18 ?l18 ?c18 ?p18 ?a19 ?l19 ?c19 ?p19 ?a20 ?l20 ?c20 ?p20 ?a21 ?l21 ?c21 ?p21 ?a22 ?l22 ?c22 ?p22 ?a23 ?l23 ?c23 ?p23 ?a24 ?l24 ?c24 ?p24 ?a25 ?l25 ?c25 ?p25 ?a26 ?l26 ?c26 ?p26 ?a27 ?l27 ?c27 ?p27 ?a28 ?l28 ?c28 ?p28 ?a29 ?l29 ?c29 ?p29 ?a30 ?l30 ?c30 ?p30 ?a31 ?l31 ?c31 ?p31 ?a32 ?l32 ?c32 ?p32 ?a33 ?l33 ?c33 ?p33 ?a34 ?l34 ?c34 ?p34 ?a35 ?l35 ?c35 ?p35 ?a36 ?l36 ?c36 ?p36 ?a37 ?l37 ?c37 ?p37 ?a38 ?l38 ?c38 ?p38 ?a39 ?l39 ?c39 ?p39 ?a40 ?l40 ?c40 ?p40 ?a41 ?l41 ?c41 ?p41 ?a42 ?l42 ?c42 ?p42 ?a43 ?l43 ?c43 ?p43 ?a44 ?l44 ?c44 ?p44 ?a45 ?l45 ?c45 ?p45 ?a46 ?l46 ?c46 ?p46 ?a47 ?l47 ?c47 ?p47 ?a48 ?l48 ?c48 ?p48 ?a49 ?l49 ?c49 ?p49 ?a50 ?l50 ?c50 ?p50 ?a51 ?l51 ?c51 ?p51 ?a52 ?l52 ?c52 ?p52 ?a53 ?l53 ?c53 ?p53 ?a54 ?l54 ?c54 ?p54 ?a55 ?l55 ?c55 ?p55 ?a56 ?l56 ?c56 ?p56 ?z_abs ?z_all ?z_bool ?z_enumerate ?z_int ?z_isinstance ?z_len ?z_max ?z_min ?z_range ?z_str ?z_tuple ?k_bool_n ?k_bool_b ?k_bool_i ?k_bool_s ?k_bool_p ?k_bool_l ?k_int_n ?k_int_b ?k_int_i ?k_int_s ?k_int_p ?k_int_l ?k_str_n ?k_str_b ?k_str_i ?k_str_s ?k_str_p ?k_str_l ?k_tuple_n ?k_tuple_b ?k_tuple_i ?k_tuple_s ?k_tuple_p ?k_tuple_l ?g_BACK_a ?g_BACK_l0 ?g_BACK_l1 ?g_EACH_PLACE_a ?g_EACH_PLACE_l0 ?g_EACH_WORD_a ?g_EACH_WORD_l0 ?g_FILL_signed_a ?g_FILL_signed_l0 ?g_FILL_signed_l1 ?g_LONE_a ?g_LONE_l0 ?g_MARKS_a ?g_MARKS_l0 ?g_MARKS_l1 ?g_MARKS_l2 ?g_MARKS_l3 ?g_MARKS_l4 ?g_MARKS_l5 ?g_MARKS_l6 ?g_MARKS_l7 ?g_MARKS_l8 ?g_NIL_a ?g_NIL_l0 ?g_NIL_l1 ?g_PAIRED_a ?g_PAIRED_l0 ?g_PAIRWISE_a ?g_PAIRWISE_l0 ?g_SEEN_a ?g_SEEN_l0 ?g_SEEN_l1 ?g_SHIFTS_a ?g_SHIFTS_l0 ?g_SIGN_OF_BOTH_a ?g_SIGN_OF_BOTH_l0 ?g_SIGN_OF_BOTH_l1 ?g_SIGN_X_a ?g_SIGN_X_l0 ?g_SIGN_X_l1 ?g_SIGN_Y_a ?g_SIGN_Y_l0 ?g_SIGN_Y_l1 ?g_SPARE_a ?g_SPARE_l0 ?g_SPARE_l1
  all_goals try delta WK.aN WK.cN WK.pN WK.lN
  (case a0|l0|c0|p0|d0|a1|l1|c1|p1|a2|l2|c2|p2|a3|l3|c3|p3|a4|l4|c4|p4|d4|a5|l5|c5|p5|d5|a6|l6|c6|p6|d6|a7|l7|c7|p7|a8|l8|c8|p8|a9|l9|c9|p9|a10|l10|c10|p10|a11|l11|c11|p11|a12|l12|c12|p12|a13|l13|c13|p13|a14|l14|c14|p14|a15|l15|c15|p15|a16|l16|c16|p16|a17|l17|c17|p17|a18|l18|c18|p18|a19|l19|c19|p19|a20|l20|c20|p20|a21|l21|c21|p21|a22|l22|c22|p22|a23|l23|c23|p23|a24|l24|c24|p24|a25|l25|c25|p25|a26|l26|c26|p26|a27|l27|c27|p27|a28|l28|c28|p28|a29|l29|c29|p29|a30|l30|c30|p30|a31|l31|c31|p31|a32|l32|c32|p32|a33|l33|c33|p33|a34|l34|c34|p34|a35|l35|c35|p35|a36|l36|c36|p36|a37|l37|c37|p37|a38|l38|c38|p38|a39|l39|c39|p39|a40|l40|c40|p40|a41|l41|c41|p41|a42|l42|c42|p42|a43|l43|c43|p43|a44|l44|c44|p44|a45|l45|c45|p45|a46|l46|c46|p46|a47|l47|c47|p47|a48|l48|c48|p48|a49|l49|c49|p49|a50|l50|c50|p50|a51|l51|c51|p51|a52|l52|c52|p52|a53|l53|c53|p53|a54|l54|c54|p54|a55|l55|c55|p55|a56|l56|c56|p56|z_abs|z_all|z_bool|z_enumerate|z_int|z_isinstance|z_len|z_max|z_min|z_range|z_str|z_tuple=>k_is); (case k_bool_n|k_bool_b|k_bool_i|k_bool_s|k_bool_p|k_bool_l|k_int_n|k_int_b|k_int_i|k_int_s|k_int_p|k_int_l|k_str_n|k_str_b|k_str_i|k_str_s|k_str_p|k_str_l|k_tuple_n|k_tuple_b|k_tuple_i|k_tuple_s|k_tuple_p|k_tuple_l=>kit_is); (case g_BACK_a|g_BACK_l0|g_BACK_l1|g_EACH_PLACE_a|g_EACH_PLACE_l0|g_EACH_WORD_a|g_EACH_WORD_l0|g_FILL_signed_a|g_FILL_signed_l0|g_FILL_signed_l1|g_LONE_a|g_LONE_l0|g_MARKS_a|g_MARKS_l0|g_MARKS_l1|g_MARKS_l2|g_MARKS_l3|g_MARKS_l4|g_MARKS_l5|g_MARKS_l6|g_MARKS_l7|g_MARKS_l8|g_NIL_a|g_NIL_l0|g_NIL_l1|g_PAIRED_a|g_PAIRED_l0|g_PAIRWISE_a|g_PAIRWISE_l0|g_SEEN_a|g_SEEN_l0|g_SEEN_l1|g_SHIFTS_a|g_SHIFTS_l0|g_SIGN_OF_BOTH_a|g_SIGN_OF_BOTH_l0|g_SIGN_OF_BOTH_l1|g_SIGN_X_a|g_SIGN_X_l0|g_SIGN_X_l1|g_SIGN_Y_a|g_SIGN_Y_l0|g_SIGN_Y_l1|g_SPARE_a|g_SPARE_l0|g_SPARE_l1=>k_is)
