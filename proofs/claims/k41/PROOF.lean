import PyProof.Rows.All
import Wide.All
import OpenK.AllK
import Wide.FinOn
import Lean
import PyProof.EqAt
import PyProof.EqKinds
import PyProof.TupleCall
import KE.LcSums
import KE.KTryMore
import PyProof.Rows.CountFlat
import PyProof.Rows.SeqMore2
import PySem.Builtin.Int.W1All
import PyProof.StrLawsIn
import PyProof.Rows.Range3
import PySem.Challenge.RW_widewords_k41_quotients_run
set_option Elab.async false
set_option linter.all false
set_option maxRecDepth 100000
set_option maxHeartbeats 0
namespace L2
open PySem PySem.Spec PyProof.Rows
abbrev Key:=Sum Int Str
def keyIs:Key -> Value -> Bool
  | .inl k,v=>Value.isInt k v
  | .inr x,v=>Value.isStrOf x v
def keyH (w:World):Key -> Int
  | .inl k=>hashInt k
  | .inr x=>hashStr w x
theorem zaC:∀ {k:Key} {v:Value},keyIs k v = true -> (∃ i t,k = Sum.inl i /\ v = Value.int i t) \/ (∃ x t,k = Sum.inr x /\ v = Value.str x t)
  | .inl i,v,h=>by
    obtain ⟨t,e⟩:=Value.isInt_shape (k:=i) (v:=v) h
    exact .inl ⟨i,t,rfl,e⟩
  | .inr x,v,h=>by
    obtain ⟨t,e⟩:=Value.isStrOf_shape (x:=x) (v:=v) h
    exact .inr ⟨x,t,rfl,e⟩
theorem zmL (i:Int) (t:Tok):keyIs (.inl i) (.int i t) = true:=by simp [keyIs,Value.isInt]
theorem zlU (x:Str) (t:Tok):keyIs (.inr x) (.str x t) = true:=by simp [keyIs,Value.isStrOf]
theorem zrl (a b:Int):decide ((Sum.inl a:Key) = Sum.inl b) = (a == b):=by
  by_cases e:a = b
  · subst e; simp
  · have h:¬ (Sum.inl a:Key) = Sum.inl b:=fun q=>e (Sum.inl.inj q)
    rw [decide_eq_false h]
    exact (beq_eq_false_iff_ne.mpr e).symm
theorem zq8 (a b:Str):decide ((Sum.inr a:Key) = Sum.inr b) = decide (a = b):=by
  by_cases e:a = b
  · subst e; simp
  · have h:¬ (Sum.inr a:Key) = Sum.inr b:=fun q=>e (Sum.inr.inj q)
    rw [decide_eq_false h,decide_eq_false e]
theorem zrp (a:Int) (b:Str):decide ((Sum.inl a:Key) = Sum.inr b) = false:=decide_eq_false (fun q=>nomatch q)
theorem zrm (a:Str) (b:Int):decide ((Sum.inr a:Key) = Sum.inl b) = false:=decide_eq_false (fun q=>nomatch q)
def mixKind (prog:Program) (w:World):PySem.KeyKind prog w Key where
  is:=keyIs
  hash:=keyH w
  inj:=fun v a b ha hb=>by
    rcases zaC ha with ⟨i,t,rfl,rfl⟩ | ⟨x,t,rfl,rfl⟩
    · rcases zaC hb with ⟨j,u,rfl,e⟩ | ⟨y,u,rfl,e⟩
      · injection e with e1 _; rw [e1]
      · exact nomatch e
    · rcases zaC hb with ⟨j,u,rfl,e⟩ | ⟨y,u,rfl,e⟩
      · exact nomatch e
      · injection e with e1 _; rw [e1]
  byValue:=fun k v h=>by
    rcases zaC h with ⟨i,t,rfl,rfl⟩ | ⟨x,t,rfl,rfl⟩ <;> rfl
  pyHash:=fun hv h=>by
    rcases zaC hv with ⟨i,t,rfl,rfl⟩ | ⟨x,t,rfl,rfl⟩
    · exact wpAny_pyHash_int h
    · exact wpAny_pyHash_str h
  eqBool:=fun hu hv h=>by
    rcases zaC hu with ⟨i,t,rfl,rfl⟩ | ⟨x,t,rfl,rfl⟩
    · rcases zaC hv with ⟨j,u,rfl,rfl⟩ | ⟨y,u,rfl,rfl⟩
      · rw [zrl] at h; exact wpAny_eqBool_int h
      · rw [zrp] at h; exact SeqAt.EqAt.int_str i t y u _ _ _ _ h
    · rcases zaC hv with ⟨j,u,rfl,rfl⟩ | ⟨y,u,rfl,rfl⟩
      · rw [zrm] at h; exact SeqAt.EqAt.str_int x t j u _ _ _ _ h
      · rw [zq8] at h; exact wpAny_eqBool_str h
  «strs»:=fun k x t v h=>by
    rcases zaC h with ⟨i,u,rfl,e⟩ | ⟨y,u,rfl,e⟩
    · exact nomatch e
    · injection e with e1 _
      subst e1
      cases v <;> rfl
theorem zjv (prog:Program) (w:World) (i:Int) (t:Tok):(mixKind prog w).is (.inl i) (.int i t) = true:=zmL i t
theorem zjC (prog:Program) (w:World) (x:Str) (t:Tok):(mixKind prog w).is (.inr x) (.str x t) = true:=zlU x t
end L2
namespace L2
open PySem PySem.Spec PyProof.Rows
inductive V where
  | non | bl (b:Bool) | int (i:Int) | str (x:Str) | byt (b:Array UInt8) | flt (b:UInt64) | ref (a:Addr) | ty (n:String)
  deriving DecidableEq
def RelV:V -> Value -> Prop
  | .non,u=>u = Value.none
  | .bl b,u=>u = Value.bool b
  | .int i,u=>∃ t,u = Value.int i t
  | .str x,u=>∃ t,u = Value.str x t
  | .byt b,u=>∃ t,u = Value.bytes b t
  | .flt b,u=>∃ t,u = Value.float b t
  | .ref a,u=>u = Value.ref a
  | .ty n,u=>u = Value.type n
abbrev Vals:List V -> List Value -> Prop:=Paired RelV
theorem Vals.length {xs:List V} {us:List Value} (r:Vals xs us):xs.length = us.length:=Paired.length r
theorem Vals.get:∀ {xs:List V} {us:List Value} {i:Nat} {x:V},Vals xs us -> xs[i]? = some x -> ∃ u,us[i]? = some u /\ RelV x u
  | _,_,_,_,.nil,e=>by simp at e
  | _,_,0,_,.cons r _,e=>by simp at e; subst e; exact ⟨_,rfl,r⟩
  | _,_,i + 1,x,.cons _ t,e=>by
    obtain ⟨u,h1,h2⟩:=Vals.get (i:=i) (x:=x) t (by simpa using e)
    exact ⟨u,by simpa using h1,h2⟩
theorem Vals.set {x:V} {u:Value} (r:RelV x u):∀ {xs:List V} {us:List Value} (i:Nat),Vals xs us -> Vals (xs.set i x) (us.set i u)
  | _,_,_,.nil=>.nil
  | _,_,0,.cons _ t=>.cons r t
  | _,_,i + 1,.cons q t=>.cons q (Vals.set r i t)
theorem Vals.append:∀ {xs ys:List V} {us ws:List Value},Vals xs us -> Vals ys ws -> Vals (xs ++ ys) (us ++ ws)
  | _,_,_,_,.nil,s=>s
  | _,_,_,_,.cons r t,s=>.cons r (Vals.append t s)
theorem Vals.take:∀ {xs:List V} {us:List Value} (n:Nat),Vals xs us -> Vals (xs.take n) (us.take n)
  | _,_,0,_=>.nil
  | _,_,_ + 1,.nil=>.nil
  | _,_,n + 1,.cons r t=>.cons r (Vals.take n t)
theorem Vals.drop:∀ {xs:List V} {us:List Value} (n:Nat),Vals xs us -> Vals (xs.drop n) (us.drop n)
  | _,_,0,r=>r
  | _,_,_ + 1,.nil=>.nil
  | _,_,n + 1,.cons _ t=>Vals.drop n t
def RelO:Option V -> Option Value -> Prop
  | some v,some u=>RelV v u
  | none,none=>True
  | _,_=>False
def KV {κ:Type}:List (κ × V) -> List (κ × Value) -> Prop:=Paired fun (p:κ × V) (q:κ × Value)=>p.1 = q.1 /\ RelV p.2 q.2
def kV:Key -> V
  | .inl i=>.int i
  | .inr x=>.str x
inductive HO where
  | lst (xs:List V)
  | tup (xs:List V)
  | dK (kvs:List (Key × V)) | dT (kvs:List (List Key × V))
  | set (S:Int -> Bool) (n:Nat)
  | ins (C dx:Addr) (fs:List (Str × V))
  | own (x:Addr)
  | xd (fs:List (Str × V))
  | met (f x:Addr)
  | rng (lo hi:Int)
  | frz (o:Obj) (u:HO)
  | tbl (ps:Array Value)
  | ext (φ:Heap -> Prop)
abbrev Hp:=Addr -> Option HO
def upd (H:Hp) (a:Addr) (o:HO):Hp:=fun b=>if b = a then some o else H b
theorem zab {H:Hp} {a:Addr} {o:HO}:upd H a o a = some o:=by unfold upd; rw [if_pos rfl]
theorem zJ {H:Hp} {a b:Addr} {o:HO} (h:b ≠ a):upd H a o b = H b:=by unfold upd; rw [if_neg h]
theorem zpd {H:Hp} {a:Addr} {o u:HO}:upd (upd H a o) a u = upd H a u:=by
  funext b; unfold upd; split <;> rfl
theorem zrS {H:Hp} {a b:Addr} {o u:HO} (h:H a = some o) (h':H b = some u) (d:o ≠ u):a ≠ b:=by
  intro e; subst e; rw [h] at h'; exact d (Option.some.inj h')
theorem zR {H:Hp} {a b:Addr} {o:HO} (h:H a = some o) (h':H b = none):a ≠ b:=by
  intro e; subst e; rw [h] at h'; cases h'
section
variable (P:Program) (w:World)
def ObjOk (H:Hp) (h:Heap) (a:Addr):HO -> Prop
  | .lst xs=>xs.length <= sizeLine /\ ∃ (its:List Value) (n:Nat),Vals xs its /\ h.get? a = some { cls:=.type "list",data:=.seq its.toArray n }
  | .tup xs=>xs.length <= sizeLine /\ ∃ its:List Value,Vals xs its /\ IsTup h a its.toArray
  | .dK kvs=>kvs.length <= sizeLine /\ (a == sysModules) = false /\ ∃ vs,KV kvs vs /\ h.DictOf (mixKind P w) a vs
  | .dT kvs=>kvs.length <= sizeLine /\ (a == sysModules) = false /\ ∃ xs:List (List Key × Addr × Value),
      Paired (fun (p:List Key × V) (q:List Key × Addr × Value)=>p.1 = q.1 /\ H q.2.1 = some (.tup (p.1.map kV)) /\ RelV p.2 q.2.2) kvs xs /\
      ∃ o es ep,h.get? a = some o /\ o.ExactDict /\ o.data = .dict es ep /\ es.toList = xs.map (entryOfKey (tupleKind (mixKind P w))) /\ (xs.map (·.1)).Nodup
  | .set S n=>h.SetOf (intKind P w) a S n
  | .ins C dx fs=>H dx = some (.own a) /\ fs.length <= 1000 /\ dx ≠ a /\ h.get? a = some (PySem.W.instObj C dx) /\
      ∃ mA,h.Ns1 dx mA /\ (∀ f,RelO (fs.lookup f) (mA f)) /\ PySem.Within mA (fs.map (·.1))
  | .own _=>∃ o,h.get? a = some o
  | .xd fs=>∃ mA,h.Ns1 a mA /\ ∀ f,RelO (fs.lookup f) (mA f)
  | .rng lo hi=>∃ t u v,h.get? a = some { cls:=.type "range",data:=.fields #[.int lo t,.int hi u,.int 1 v] }
  | .frz o u=>h.get? a = some o /\ ObjOk H h a u
  | .tbl ps=>h.get? a = some { cls:=.none,data:=.fields ps }
  | .met f x=>h.get? a = some (PySem.W.methodObj (.ref f) (.ref x))
  | .ext φ=>φ h /\ (∃ o,h.get? a = some o) /\ ∀ h1 h2:Heap,φ h1 -> (∀ o,h1.get? a = some o -> h2.get? a = some o) -> φ h2
def HOk (H:Hp) (h:Heap):Prop:=∀ a o,H a = some o -> ObjOk P w H h a o
end
section
variable {P:Program} {w:World} {H H':Hp} {h h':Heap} {a:Addr} {o:HO}
theorem ObjOk.lt (x:ObjOk P w H h a o):a < h.objs.size:=by
  cases o with
  | lst xs=>obtain ⟨_,_,_,_,e⟩:=x; exact Heap.lt_size e
  | tup xs=>obtain ⟨_,_,_,p⟩:=x; exact p.lt
  | dK kvs=>obtain ⟨_,_,_,_,o,_,_,e,_⟩:=x; exact Heap.lt_size e
  | dT kvs=>obtain ⟨_,_,_,_,o,_,_,e,_⟩:=x; exact Heap.lt_size e
  | set S n=>obtain ⟨o,_,_,_,e,_⟩:=x; exact Heap.lt_size e
  | ins C dx fs=>obtain ⟨_,_,_,e,_⟩:=x; exact Heap.lt_size e
  | own y=>obtain ⟨_,e⟩:=x; exact Heap.lt_size e
  | xd fs=>obtain ⟨_,⟨_,_,_,e,_⟩,_⟩:=x; exact Heap.lt_size e
  | rng lo hi=>obtain ⟨_,_,_,e⟩:=x; exact Heap.lt_size e
  | frz ob u=>obtain ⟨e,_⟩:=x; exact Heap.lt_size e
  | tbl ps=>exact Heap.lt_size (show h.get? a = some _ from x)
  | met f y=>exact Heap.lt_size (show h.get? a = some _ from x)
  | ext φ=>obtain ⟨_,⟨_,e⟩,_⟩:=x; exact Heap.lt_size e
theorem Paired.mapP {α β:Type} {F G:α -> β -> Prop}:∀ {l₁:List α} {l₂:List β},Paired F l₁ l₂ -> (∀ a b,F a b -> G a b) -> Paired G l₁ l₂
  | _,_,.nil,_=>.nil
  | _,_,.cons r t,f=>.cons (f _ _ r) (Paired.mapP t f)
theorem ObjOk.stay (x:ObjOk P w H h a o) (k:∀ b u,(b = a \/ H b = some (.own a)) -> h.get? b = some u -> h'.get? b = some u)
    (ho:∀ b,H b = some (.own a) -> H' b = some (.own a)) (ht:∀ b xs,H b = some (.tup xs) -> H' b = some (.tup xs)):ObjOk P w H' h' a o:=by
  induction o with
  | lst xs=>obtain ⟨z,its,n,r,e⟩:=x; exact ⟨z,its,n,r,k _ _ (.inl rfl) e⟩
  | tup xs=>obtain ⟨z,its,r,ob,e,c⟩:=x; exact ⟨z,its,r,ob,k _ _ (.inl rfl) e,c⟩
  | dK kvs=>obtain ⟨z,y,vs,r,ob,es,ep,e,c⟩:=x; exact ⟨z,y,vs,r,ob,es,ep,k _ _ (.inl rfl) e,c⟩
  | dT kvs =>
    obtain ⟨z,y,xs,r,ob,es,ep,e,c⟩:=x
    exact ⟨z,y,xs,Paired.mapP r fun p q z=>⟨z.1,ht _ _ z.2.1,z.2.2⟩,ob,es,ep,k _ _ (.inl rfl) e,c⟩
  | set S n=>obtain ⟨ob,es,ep,t,e,c⟩:=x; exact ⟨ob,es,ep,t,k _ _ (.inl rfl) e,c⟩
  | ins C dx fs =>
    obtain ⟨d,z,ne,e,mA,⟨od,es,ep,e2,c⟩,r⟩:=x
    exact ⟨ho _ d,z,ne,k _ _ (.inl rfl) e,mA,⟨od,es,ep,k _ _ (.inr d) e2,c⟩,r⟩
  | own y=>obtain ⟨ob,e⟩:=x; exact ⟨ob,k _ _ (.inl rfl) e⟩
  | xd fs=>obtain ⟨mA,⟨od,es,ep,e,c⟩,r⟩:=x; exact ⟨mA,⟨od,es,ep,k _ _ (.inl rfl) e,c⟩,r⟩
  | rng lo hi=>obtain ⟨t,u,v,e⟩:=x; exact ⟨t,u,v,k _ _ (.inl rfl) e⟩
  | frz ob u ih=>obtain ⟨e,q⟩:=x; exact ⟨k _ _ (.inl rfl) e,ih q⟩
  | tbl ps =>
    have e:h.get? a = some { cls:=.none,data:=.fields ps }:=x
    show h'.get? a = some { cls:=.none,data:=.fields ps }
    exact k a _ (.inl rfl) e
  | met f y =>
    have e:h.get? a = some (PySem.W.methodObj (.ref f) (.ref y)):=x
    show h'.get? a = some (PySem.W.methodObj (.ref f) (.ref y))
    exact k a _ (.inl rfl) e
  | ext φ=>obtain ⟨p,⟨o,e⟩,st⟩:=x; exact ⟨st _ _ p fun o q=>k _ _ (.inl rfl) q,⟨o,k _ _ (.inl rfl) e⟩,st⟩
theorem HOk.lt (x:HOk P w H h) (e:H a = some o):a < h.objs.size:=(x a o e).lt
theorem HOk.fresh (x:HOk P w H h) (e:h.objs.size <= a):H a = none:=by
  cases q:H a with
  | none=>rfl
  | some u=>exact absurd (Nat.lt_of_lt_of_le (x.lt q) e) (Nat.lt_irrefl _)
theorem HOk.kept (x:HOk P w H h) (k:∀ b u,h.get? b = some u -> h'.get? b = some u):HOk P w H h':=fun a o e =>
  (x a o e).stay (fun b u _ q=>k b u q) (fun _ q=>q) fun _ _ q=>q
theorem HOk.laid (x:HOk P w H h) (k:∀ b u,h.get? b = some u -> h'.get? b = some u) (hp:h.objs.size <= a) (new:ObjOk P w (upd H a o) h' a o):HOk P w (upd H a o) h':=fun b u e=>by
  have hn:=x.fresh hp
  by_cases hb:b = a
  · subst hb; rw [zab] at e; cases e; exact new
  · rw [zJ hb] at e
    exact (x b u e).stay (fun c v _ q=>k c v q) (fun c q=>by rw [zJ (zR q hn)]; exact q) fun c xs q=>by rw [zJ (zR q hn)]; exact q
end
def Rd (H:Hp) (a:Addr) (u:HO):Prop:=H a = some u \/ ∃ o,H a = some (.frz o u)
theorem Rd.of {H:Hp} {a:Addr} {u:HO} (h:H a = some u):Rd H a u:=.inl h
theorem Rd.ok {P:Program} {w:World} {H:Hp} {h:Heap} {a:Addr} {u:HO} (r:Rd H a u) (x:HOk P w H h):ObjOk P w H h a u:=by
  rcases r with r | ⟨o,r⟩
  · exact x a u r
  · obtain ⟨_,q⟩:=x a _ r
    exact q
def Mut:Option HO -> Prop
  | some (.lst _)=>True
  | some (.dK _)=>True
  | some (.dT _)=>True
  | some (.set _ _)=>True
  | some (.ins _ _ _)=>True
  | some (.ext _)=>True
  | _=>False
section
variable {P:Program} {w:World} {H:Hp} {h h':Heap} {x e:Addr} {o':HO}
theorem HOk.write (ok:HOk P w H h) (mu:Mut (H x)) (he:e = x \/ H e = some (.own x)) (k:∀ b u,b ≠ e -> h.get? b = some u -> h'.get? b = some u) (heo:∃ u,h'.get? e = some u)
    (new:ObjOk P w (upd H x o') h' x o'):HOk P w (upd H x o') h':=fun b u q=>by
  have nown:∀ c y,H c = some (.own y) -> c ≠ x:=fun c y r z=>by subst z; rw [r] at mu; exact mu
  have ntup:∀ c xs,H c = some (.tup xs) -> c ≠ x:=fun c xs r z=>by subst z; rw [r] at mu; exact mu
  by_cases hb:b = x
  · subst hb; rw [zab] at q; cases q; exact new
  · rw [zJ hb] at q
    by_cases hbe:b = e
    · have q':H b = some (.own x):=by
        rcases he with z | z
        · exact absurd (hbe.trans z) hb
        · rw [hbe]; exact z
      rw [q] at q'; cases q'
      obtain ⟨v,hv⟩:=heo
      exact ⟨v,by rw [hbe]; exact hv⟩
    · refine (ok b u q).stay (fun c v hc r=>k c v ?_ r) (fun c r=>by rw [zJ (nown c b r)]; exact r) fun c xs r=>by rw [zJ (ntup c xs r)]; exact r
      rcases hc with rfl | hc
      · exact hbe
      · rintro rfl
        rcases he with z | z
        · exact nown c b hc z
        · rw [hc] at z; cases z; exact hb rfl
end
structure Un (fs ex:List Addr) (H H':Hp) (h h':Heap):Prop where
  keep:∀ b o,h.get? b = some o -> H b = none -> b ∉ fs -> b ∉ ex -> h'.get? b = some o
  slot:∀ b o,h.get? b = some o -> H b = none -> b ∈ fs -> b ∉ ex -> ∃ sl,h'.get? b = some { o with slots:=sl }
  free:∀ b o,h.get? b = some o -> H b = none -> b ∉ ex -> H' b = none
  there:∀ b o,h.get? b = some o -> b ∉ ex -> ∃ o',h'.get? b = some o'
  tups:∀ b xs,H b = some (.tup xs) -> H' b = some (.tup xs)
  frzs:∀ b o u,H b = some (.frz o u) -> H' b = some (.frz o u)
  tbls:∀ b ps,H b = some (.tbl ps) -> ∃ more,H' b = some (.tbl (ps ++ more))
section
variable {fs fs' ex ex':List Addr} {H H1 H2:Hp} {h h1 h2 h':Heap} {a x e:Addr} {o:HO}
theorem Un.any (u:Un fs ex H H1 h h1) {b:Addr} {ob:Obj} (q:h.get? b = some ob) (n:H b = none) (hx:b ∉ ex):∃ sl,h1.get? b = some { ob with slots:=sl }:=by
  by_cases hb:b ∈ fs
  · exact u.slot b ob q n hb hx
  · exact ⟨ob.slots,u.keep b ob q n hb hx⟩
theorem Un.kept (k:∀ b u,h.get? b = some u -> h'.get? b = some u):Un fs ex H H h h' :=
  ⟨fun b ob q _ _ _=>k b ob q,fun b ob q _ _ _=>⟨ob.slots,k b ob q⟩,fun _ _ _ n _=>n,fun b ob q _=>⟨ob,k b ob q⟩,fun _ _ q=>q,fun _ _ _ q=>q,fun _ ps q=>⟨#[],by rw [q]; simp⟩⟩
theorem Un.refl:Un fs ex H H h h:=Un.kept fun _ _ q=>q
theorem Un.laid (k:∀ b u,h.get? b = some u -> h'.get? b = some u) (hp:h.objs.size <= a) (hn:H a = none):Un fs ex H (upd H a o) h h' where
  keep:=fun b u q _ _ _=>k b u q
  slot:=fun b u q _ _ _=>⟨u.slots,k b u q⟩
  free:=fun b u q n _=>by rw [zJ (Nat.ne_of_lt (Nat.lt_of_lt_of_le (Heap.lt_size q) hp))]; exact n
  there:=fun b u q _=>⟨u,k b u q⟩
  tups:=fun b xs q=>by rw [zJ (zR q hn)]; exact q
  frzs:=fun b u xs q=>by rw [zJ (zR q hn)]; exact q
  tbls:=fun b ps q=>⟨#[],by rw [zJ (zR q hn),q]; simp⟩
theorem Un.write (mu:Mut (H x)) (he:e = x \/ H e = some (.own x)) (k:∀ b u,b ≠ e -> h.get? b = some u -> h'.get? b = some u) (heo:∃ u,h'.get? e = some u):Un fs ex H (upd H x o) h h':=by
  have hx:∀ b,H b = none -> b ≠ x:=fun b n z=>by subst z; rw [n] at mu; exact mu
  have hb:∀ b,H b = none -> b ≠ e:=fun b n z=>by
    subst z
    rcases he with r | r
    · exact hx b n r
    · rw [n] at r; cases r
  have hm:∀ b u,H b = some u -> ¬ Mut (some u) -> b ≠ x:=fun b u q nm z=>by subst z; rw [q] at mu; exact nm mu
  refine ⟨fun b u q n _ _=>k b u (hb b n) q,fun b u q n _ _=>⟨u.slots,k b u (hb b n) q⟩,fun b u q n _=>by rw [zJ (hx b n)]; exact n,fun b u q _=>?_,
    fun b xs q=>by rw [zJ (hm b _ q fun z=>z)]; exact q,fun b u xs q=>by rw [zJ (hm b _ q fun z=>z)]; exact q,fun b ps q=>⟨#[],by rw [zJ (hm b _ q fun z=>z),q]; simp⟩⟩
  by_cases hbe:b = e
  · subst hbe; exact heo
  · exact ⟨u,k b u hbe q⟩
end
def trk (h:Heap) (H:Hp):List Addr:=(List.range h.objs.size).filter fun a=>(H a).isSome
def hidT (h:Heap) (H:Hp):Heap:=PySem.W.hideAll h (trk h H)
theorem zmB (h:Heap) (H:Hp):(hidT h H).objs.size = h.objs.size:=PySem.W.hideAll_size _ _
theorem zok {h:Heap} {H:Hp} {b:Addr} {o:Obj} (e:h.get? b = some o) (n:H b = none):(hidT h H).get? b = some o :=
  PySem.W.hideAll_get _ e fun hm=>by
    have q:(H b).isSome = true:=(List.mem_filter.mp hm).2
    rw [n] at q; simp at q
theorem zpv {h:Heap} {H:Hp} {b:Addr} {o:Obj} (e:(hidT h H).get? b = some o):h.get? b = some o /\ H b = none:=by
  have e':h.get? b = some o:=PySem.W.of_hideAll (trk h H) e
  refine ⟨e',?_⟩
  cases q:H b with
  | none=>rfl
  | some x =>
    have hm:b ∈ trk h H:=List.mem_filter.mpr ⟨List.mem_range.mpr (Heap.lt_size e'),by simp [q]⟩
    have z:(hidT h H).get? b = none:=PySem.W.hideAll_none (trk h H) hm
    rw [z] at e; cases e
end L2
namespace L2
open PySem PySem.Spec PyProof.Rows
structure Mod (K:PySem.W.Frag) (mg:Str -> Option Value) (base:Heap):Prop where
  kin:K.In base
  glob:base.Ns mainGlobals mg
  blt:∃ mb,base.Ns builtinsNs mb /\ ∀ x:Str,x ≠ "__name__" -> mb x = bootBuiltins x
  nolimit:base.NoLimit
structure Cx where
  prog:Program
  w:World
  K:PySem.W.Frag
  mg:Str -> Option Value
  base:Heap
  A:Around
  N:List Str
  s₀:Shared
  H₀:Hp
  env:Env
  outer:List Env
  stack:List Env
  ex:List Addr
  fn:Str -> Bool
  calm:Bool
  pn:List (Addr × Obj)
  xe:Value -> Shared -> Prop
def frs (l:List Env):List Addr:=l.filterMap (·.frame)
abbrev Cx.fs (X:Cx):List Addr:=frs X.outer
def Vis (sc:Scope) (x:Str):Prop:=sc.names.lookup x = some .local \/ sc.names.lookup x = some .cell \/ sc.names.lookup x = some .free
def Loc (sc:Scope) (x:Str):Prop:=sc.names.lookup x = some .local \/ sc.names.lookup x = some .cell
def Look (env:Env) (h:Heap) (m:Str -> Option Value) (x:Str) (u:Value):Prop :=
  (env.kindOf x = some .local /\ m x = some u) \/ ((env.kindOf x = some .cell \/ env.kindOf x = some .free) /\ ∃ c,env.cells.lookup x = some c /\ h.IsCell c (some u))
structure Cx.Ok (X:Cx):Prop where
  mod:Mod X.K X.mg X.base
  kind:X.env.scope.kind = .function
  glob:X.env.globals = mainGlobals
  blt:X.env.builtins = builtinsNs
  above:X.s₀.heap.objs.size <= X.env.locals
  inj:∀ x y c,X.env.cells.lookup x = some c -> X.env.cells.lookup y = some c -> x = y
  has:∀ x,(X.env.kindOf x = some .cell \/ X.env.kindOf x = some .free) -> ∃ c,X.env.cells.lookup x = some c
  cab:∀ x c,X.fn x = true -> X.env.cells.lookup x = some c -> X.s₀.heap.objs.size <= c
  hd:X.calm = true -> X.A.handled = none
  frames:X.A.frames = some X.stack
  stk:X.stack = X.outer \/ (X.stack = X.env :: X.outer /\ X.env.frame = some X.env.locals)
  exf:∀ b ∈ X.ex,b ≠ X.env.locals /\ ∀ x c,X.env.cells.lookup x = some c -> c ≠ b
  bs:∀ b o,X.base.get? b = some o -> X.s₀.heap.get? b = some o /\ X.H₀ b = none
  bsz:X.base.objs.size <= X.s₀.heap.objs.size
  noex:∀ b o,X.base.get? b = some o -> b ∉ X.ex
  exfs:∀ b ∈ X.ex,b ∉ X.fs
  funs:X.s₀.heap.FunFrames X.base X.outer
  frf:∀ b ∈ X.fs,X.H₀ b = none
structure Inv (X:Cx) (pins:List (Addr × Obj)) (σ:List (Option V)) (H:Hp) (s:Shared):Prop where
  ok:X.Ok
  os:s.os = X.s₀.os
  bare:AllBare s.gens
  base:Un X.fs X.ex X.H₀ H X.s₀.heap s.heap
  loc:∃ m,s.heap.Ns X.env.locals m /\ ∀ (i:Nat) (x:Str) (v:V),X.N[i]? = some x -> σ[i]? = some (some v) -> Vis X.env.scope x -> ∃ u,RelV v u /\ Look X.env s.heap m x u
  cell:∀ x c,X.env.cells.lookup x = some c -> ∃ v,s.heap.IsCell c v
  free:H X.env.locals = none
  freeC:∀ x c,X.env.cells.lookup x = some c -> H c = none
  pin:∀ p ∈ X.pn ++ pins,s.heap.get? p.1 = some p.2 /\ H p.1 = none /\ p.1 ≠ X.env.locals /\ p.1 ∉ X.fs /\ ∀ v,p.2.data ≠ .cell v
  hok:HOk X.prog X.w H s.heap
  len:σ.length = X.N.length
section
variable {X:Cx} {pins:List (Addr × Obj)} {σ:List (Option V)} {H H':Hp} {s:Shared} {h':Heap}
theorem Cx.Ok.nofr (ok:X.Ok) {b:Addr} {o:Obj} (e:X.base.get? b = some o):b ∉ X.fs:=fun hb=>by
  have:=(ok.funs.mem hb).1
  rw [e] at this; cases this
theorem Inv.bs (I:Inv X pins σ H s):∀ b o,X.base.get? b = some o -> s.heap.get? b = some o /\ H b = none:=fun b o e =>
  ⟨I.base.keep b o (I.ok.bs b o e).1 (I.ok.bs b o e).2 (I.ok.nofr e) (I.ok.noex b o e),I.base.free b o (I.ok.bs b o e).1 (I.ok.bs b o e).2 (I.ok.noex b o e)⟩
theorem Inv.bk (I:Inv X pins σ H s):∀ b o,X.base.get? b = some o -> s.heap.get? b = some o:=fun b o e=>(I.bs b o e).1
theorem Inv.mod (I:Inv X pins σ H s):Mod X.K X.mg X.base:=I.ok.mod
theorem Inv.kIn (I:Inv X pins σ H s):X.K.In s.heap:=I.ok.mod.kin.keeps I.bk
theorem Inv.lt (I:Inv X pins σ H s):X.env.locals < s.heap.objs.size:=let ⟨_,hn,_⟩:=I.loc; hn.lt
theorem Inv.sz (I:Inv X pins σ H s):X.s₀.heap.objs.size <= s.heap.objs.size:=Nat.le_trans I.ok.above (Nat.le_of_lt I.lt)
theorem Inv.nofs (I:Inv X pins σ H s) {a:Addr} (h:s.heap.objs.size <= a):a ∉ X.fs:=fun hb=>by
  obtain ⟨_,o,ho,_⟩:=I.ok.funs.mem hb
  exact absurd (Nat.lt_of_lt_of_le (Heap.lt_size ho) (Nat.le_trans I.sz h)) (Nat.lt_irrefl _)
theorem Inv.cne (I:Inv X pins σ H s):∀ x c,X.env.cells.lookup x = some c -> c ≠ X.env.locals:=fun x c e z=>by
  obtain ⟨v,o,ho,hd⟩:=I.cell x c e
  obtain ⟨m,⟨o',es,ep,ho',hd',_⟩,_⟩:=I.loc
  rw [z,ho'] at ho; cases ho; rw [hd'] at hd; cases hd
theorem Inv.funs (I:Inv X pins σ H s):s.heap.FunFrames X.base X.outer:=by
  have all:∀ (l:List Env),(∀ b ∈ frs l,b ∈ X.fs) -> X.s₀.heap.FunFrames X.base l -> s.heap.FunFrames X.base l:=by
    intro l
    induction l with
    | nil=>intro _ _; trivial
    | cons env r ih =>
      intro hs hl
      obtain ⟨hk,⟨L,o,hf,hn,ho,hd⟩,hr⟩:=hl
      have hL:L ∈ X.fs:=hs L (by unfold frs; rw [List.filterMap_cons,hf]; exact List.mem_cons_self)
      obtain ⟨sl,e⟩:=I.base.slot L o ho (I.ok.frf L hL) hL fun z=>I.ok.exfs L z hL
      exact ⟨hk,⟨L,_,hf,hn,e,hd⟩,ih (fun b hb=>hs b (by unfold frs; rw [List.filterMap_cons,hf]; exact List.mem_cons_of_mem _ hb)) hr⟩
  exact all X.outer (fun _ hb=>hb) I.ok.funs
theorem Inv.stack (I:Inv X pins σ H s):s.heap.FunFrames X.base X.stack:=by
  rcases I.ok.stk with e | ⟨e,hf⟩
  · rw [e]; exact I.funs
  · rw [e]
    obtain ⟨m,hn,_⟩:=I.loc
    refine .cons (by rw [I.ok.kind]; decide) hf hn ?_ I.funs
    exact Heap.get?_none_of_le (Nat.le_trans I.ok.bsz I.ok.above)
theorem Inv.stkSub (I:Inv X pins σ H s):∀ b ∈ frs X.stack,b ∈ X.env.locals :: X.fs:=fun b hb=>by
  rcases I.ok.stk with e | ⟨e,hf⟩
  · rw [e] at hb; exact List.mem_cons_of_mem _ hb
  · rw [e] at hb
    unfold frs at hb
    rw [List.filterMap_cons,hf] at hb
    exact hb
theorem Inv.stkFree (I:Inv X pins σ H s):∀ b ∈ frs X.stack,H b = none:=fun b hb=>by
  rcases List.mem_cons.mp (I.stkSub b hb) with e | hb
  · rw [e]; exact I.free
  · obtain ⟨_,o,ho,_⟩:=I.ok.funs.mem hb
    exact I.base.free b o ho (I.ok.frf b hb) fun z=>I.ok.exfs b z hb
theorem Inv.step {g':Array GenState} {t':Nat} {d':Drawn} {ch:List Addr} (I:Inv X pins σ H s)
    (hch:∀ b ∈ ch,(b ∈ X.ex \/ X.s₀.heap.objs.size <= b) /\ b ≠ X.env.locals /\ (∀ x c,X.env.cells.lookup x = some c -> c ≠ b) /\ ∀ p ∈ X.pn ++ pins,p.1 ≠ b)
    (keep:∀ b o,b ≠ X.env.locals -> b ∉ X.fs -> b ∉ ch -> s.heap.get? b = some o -> H b = none -> h'.get? b = some o)
    (slot:∀ b o,b ≠ X.env.locals -> b ∈ X.fs -> b ∉ ch -> s.heap.get? b = some o -> H b = none -> ∃ sl,h'.get? b = some { o with slots:=sl }) (free:∀ b o,b ∉ ch -> s.heap.get? b = some o -> H b = none -> H' b = none)
    (there:∀ b o,b ∉ ch -> s.heap.get? b = some o -> ∃ o',h'.get? b = some o')
    (tups:∀ b xs,H b = some (.tup xs) -> H' b = some (.tup xs)) (frzs:∀ b o u,H b = some (.frz o u) -> H' b = some (.frz o u)) (tbls:∀ b ps,H b = some (.tbl ps) -> ∃ more,H' b = some (.tbl (ps ++ more)))
    (ns:∀ m,s.heap.Ns X.env.locals m -> h'.Ns X.env.locals m) (hok:HOk X.prog X.w H' h') (hg:AllBare g') :
    Inv X pins σ H' { s with heap:=h',gens:=g',drawn:=d',toks:=t' }:=by
  have neL:∀ b o,X.s₀.heap.get? b = some o -> b ≠ X.env.locals:=fun b o e=>Nat.ne_of_lt (Nat.lt_of_lt_of_le (Heap.lt_size e) I.ok.above)
  have neC:∀ b o,X.s₀.heap.get? b = some o -> b ∉ X.ex -> b ∉ ch:=fun b o e hx hb=>by
    rcases (hch b hb).1 with z | z
    · exact hx z
    · exact absurd (Nat.lt_of_lt_of_le (Heap.lt_size e) z) (Nat.lt_irrefl _)
  have cellK:∀ x c,X.env.cells.lookup x = some c -> ∀ v,s.heap.IsCell c v -> h'.IsCell c v:=fun x c e v ⟨o,ho,hd⟩=>by
    have nch:c ∉ ch:=fun z=>(hch c z).2.2.1 x c e rfl
    by_cases hc:c ∈ X.fs
    · obtain ⟨sl,q⟩:=slot c o (I.cne x c e) hc nch ho (I.freeC x c e)
      exact ⟨_,q,hd⟩
    · exact ⟨o,keep c o (I.cne x c e) hc nch ho (I.freeC x c e),hd⟩
  refine ⟨I.ok,I.os,hg,⟨fun b o e n hb hx=>?_,fun b o e n hb hx=>?_,fun b o e n hx=>?_,fun b o e hx=>?_,fun b xs e=>tups b xs (I.base.tups b xs e),fun b o xs e=>frzs b o xs (I.base.frzs b o xs e),fun b ps e=>?_⟩,?_,fun x c e=>?_,?_,fun x c e=>?_,fun p hp=>?_,hok,I.len⟩
  · exact keep b o (neL b o e) hb (neC b o e hx) (I.base.keep b o e n hb hx) (I.base.free b o e n hx)
  · obtain ⟨sl,e1⟩:=I.base.slot b o e n hb hx
    obtain ⟨sl',e2⟩:=slot b _ (neL b o e) hb (neC b o e hx) e1 (I.base.free b o e n hx)
    exact ⟨sl',e2⟩
  · obtain ⟨o',e1⟩:=I.base.there b o e hx
    exact free b o' (neC b o e hx) e1 (I.base.free b o e n hx)
  · obtain ⟨o',e1⟩:=I.base.there b o e hx
    exact there b o' (neC b o e hx) e1
  · obtain ⟨m1,e1⟩:=I.base.tbls b ps e
    obtain ⟨m2,e2⟩:=tbls b _ e1
    exact ⟨m1 ++ m2,by rw [e2,Array.append_assoc]⟩
  · obtain ⟨m,hn,hl⟩:=I.loc
    refine ⟨m,ns m hn,fun i x v e1 e2 e3=>?_⟩
    obtain ⟨u,r,l⟩:=hl i x v e1 e2 e3
    refine ⟨u,r,?_⟩
    rcases l with l | ⟨k,c,e,z⟩
    · exact .inl l
    · exact .inr ⟨k,c,e,cellK x c e _ z⟩
  · obtain ⟨v,z⟩:=I.cell x c e
    exact ⟨v,cellK x c e v z⟩
  · obtain ⟨m,⟨o,_,_,ho,_⟩,_⟩:=I.loc
    exact free _ o (fun z=>(hch _ z).2.1 rfl) ho I.free
  · obtain ⟨v,o,ho,hd⟩:=I.cell x c e
    exact free c o (fun z=>(hch c z).2.2.1 x c e rfl) ho (I.freeC x c e)
  · obtain ⟨e,n,ne,nf,d⟩:=I.pin p hp
    have nch:p.1 ∉ ch:=fun z=>(hch p.1 z).2.2.2 p hp rfl
    exact ⟨keep p.1 p.2 ne nf nch e n,free p.1 p.2 nch e n,ne,nf,d⟩
theorem Inv.un {t':Nat} (I:Inv X pins σ H s) (u:Un X.fs [] H H' s.heap h') (hok:HOk X.prog X.w H' h'):Inv X pins σ H' { s with heap:=h',toks:=t' }:=by
  obtain ⟨m,⟨o,es,ep,ho,r⟩,_⟩:=id I.loc
  obtain ⟨sl,hL⟩:=u.any ho I.free (by simp)
  exact I.step (g':=s.gens) (d':=s.drawn) (ch:=[]) (fun _ z=>nomatch z) (fun b o _ hb _ e n=>u.keep b o e n hb (by simp)) (fun b o _ hb _ e n=>u.slot b o e n hb (by simp)) (fun b o _ e n=>u.free b o e n (by simp)) (fun b o _ e=>u.there b o e (by simp)) u.tups u.frzs u.tbls (fun m' hm=>by
    obtain ⟨o',es',ep',ho',r'⟩:=hm
    rw [ho] at ho'; cases ho'
    exact ⟨_,es',ep',hL,r'⟩) hok I.bare
theorem Inv.call {g':Array GenState} {t':Nat} {d':Drawn} {ch:List Addr} (I:Inv X pins σ H s) (u:Un (frs X.stack) ch H H' s.heap h') (hok:HOk X.prog X.w H' h') (hg:AllBare g')
    (hch:∀ b ∈ ch,(b ∈ X.ex \/ X.s₀.heap.objs.size <= b) /\ b ≠ X.env.locals /\ (∀ x c,X.env.cells.lookup x = some c -> c ≠ b) /\ ∀ p ∈ X.pn ++ pins,p.1 ≠ b) :
    Inv X pins σ H' { s with heap:=h',gens:=g',drawn:=d',toks:=t' }:=by
  obtain ⟨m,⟨o,es,ep,ho,r⟩,_⟩:=id I.loc
  obtain ⟨sl,hL⟩:=u.any ho I.free fun z=>(hch _ z).2.1 rfl
  exact I.step (ch:=ch) hch (fun b o hL hb hc e n=>u.keep b o e n (fun z=>(List.mem_cons.mp (I.stkSub b z)).elim hL hb) hc) (fun b o _ _ hc e n=>u.any e n hc) (fun b o hc e n=>u.free b o e n hc) (fun b o hc e=>u.there b o e hc) u.tups u.frzs u.tbls (fun m' hm=>by
    obtain ⟨o',es',ep',ho',r'⟩:=hm
    rw [ho] at ho'; cases ho'
    exact ⟨_,es',ep',hL,r'⟩) hok hg
theorem Inv.turned {t':Nat} {it:Addr} (I:Inv X pins σ H s) (k:∀ b o,b ≠ it -> s.heap.get? b = some o -> h'.get? b = some o) (hn:H it = none) (hL:it ≠ X.env.locals)
    (h1:it ∈ X.ex \/ X.s₀.heap.objs.size <= it) (h2:∀ x c,X.env.cells.lookup x = some c -> c ≠ it) (h3:∀ p ∈ X.pn ++ pins,p.1 ≠ it):Inv X pins σ H { s with heap:=h',toks:=t' }:=by
  have nit:∀ b u,H b = some u -> b ≠ it:=fun b u e z=>by rw [z,hn] at e; cases e
  refine I.step (g':=s.gens) (d':=s.drawn) (ch:=[it]) (fun b hb=>?_) (fun b o _ _ hc e _=>k b o (fun z=>hc (by simp [z])) e) (fun b o _ _ hc e _=>⟨o.slots,k b o (fun z=>hc (by simp [z])) e⟩) (fun _ _ _ _ n=>n)
    (fun b o hc e=>⟨o,k b o (fun z=>hc (by simp [z])) e⟩) (fun _ _ e=>e) (fun _ _ _ e=>e) (fun b ps e=>⟨#[],by rw [e]; simp⟩) (fun m hm=>?_) (fun b u e=>?_) I.bare
  · have e:b = it:=by simpa using hb
    subst e
    exact ⟨h1,hL,h2,h3⟩
  · obtain ⟨o,es,ep,ho,r⟩:=hm
    exact ⟨o,es,ep,k _ o (Ne.symm hL) ho,r⟩
  · refine (I.hok b u e).stay (fun c v hc q=>k c v ?_ q) (fun _ q=>q) fun _ _ q=>q
    rcases hc with z | z
    · rw [z]; exact nit b u e
    · exact nit c _ z
theorem Inv.tok (I:Inv X pins σ H s) (t:Nat):Inv X pins σ H { s with toks:=t }:=I.un (h':=s.heap) (t':=t) Un.refl I.hok
theorem Inv.kept {t':Nat} (I:Inv X pins σ H s) (k:∀ b u,s.heap.get? b = some u -> h'.get? b = some u):Inv X pins σ H { s with heap:=h',toks:=t' }:=I.un (Un.kept k) (I.hok.kept k)
theorem Inv.laid {a:Addr} {o:HO} {t':Nat} (I:Inv X pins σ H s) (k:∀ b u,s.heap.get? b = some u -> h'.get? b = some u) (hp:s.heap.objs.size <= a) (new:ObjOk X.prog X.w (upd H a o) h' a o) :
    Inv X pins σ (upd H a o) { s with heap:=h',toks:=t' }:=I.un (Un.laid k hp (I.hok.fresh hp)) (I.hok.laid k hp new)
theorem Inv.write {x e:Addr} {o:HO} {t':Nat} (I:Inv X pins σ H s) (mu:Mut (H x)) (he:e = x \/ H e = some (.own x)) (k:∀ b u,b ≠ e -> s.heap.get? b = some u -> h'.get? b = some u) (heo:∃ u,h'.get? e = some u)
    (new:ObjOk X.prog X.w (upd H x o) h' x o):Inv X pins σ (upd H x o) { s with heap:=h',toks:=t' }:=I.un (Un.write mu he k heo) (I.hok.write mu he k heo new)
theorem Inv.pins_of {pins':List (Addr × Obj)} (I:Inv X pins σ H s) (h:∀ p ∈ pins',s.heap.get? p.1 = some p.2 /\ H p.1 = none /\ p.1 ≠ X.env.locals /\ p.1 ∉ X.fs /\ ∀ v,p.2.data ≠ .cell v):Inv X pins' σ H s :=
  ⟨I.ok,I.os,I.bare,I.base,I.loc,I.cell,I.free,I.freeC,fun p hp=>(List.mem_append.mp hp).elim (fun z=>I.pin p (List.mem_append_left _ z)) (h p),I.hok,I.len⟩
theorem zj9 {N:List Str} (hN:N.Nodup) {i j:Nat} {x:Str} (a:N[i]? = some x) (b:N[j]? = some x):i = j:=by
  obtain ⟨h1,e1⟩:=List.getElem?_eq_some_iff.mp a
  obtain ⟨h2,e2⟩:=List.getElem?_eq_some_iff.mp b
  exact (List.getElem_inj hN).mp (e1.trans e2.symm)
theorem zmD {M:Model} {A:Around} {E:Value -> Shared -> Prop} {i:Nat} {x:Str} {v:V} {u:Value} {Q:Unit -> Shared -> Prop} (I:Inv X pins σ H s) (hN:X.N.Nodup) (hi:X.N[i]? = some x) (hx:Loc X.env.scope x) (r:RelV v u)
    (h:∀ s',Inv X pins (σ.set i (some v)) H s' -> (∃ a,Heap.SameBut a s.heap s'.heap /\ (a = X.env.locals \/ X.env.cells.lookup x = some a)) -> Q () s') (hf:X.fn x = true \/ X.env.scope.names.lookup x = some .local:=by first | exact .inl rfl | exact .inr rfl | assumption):wpAny M A (storeName X.env x u) Q E s:=by
  obtain ⟨m,hn,hl⟩:=id I.loc
  have hcls:(X.env.scope.kind == .class || (X.env.scope.kind == .module && X.env.locals != X.env.globals)) = false:=by rw [I.ok.kind]; rfl
  have hiσ:i < σ.length:=by rw [I.len]; exact (List.getElem?_eq_some_iff.mp hi).1
  have cne:=I.cne
  have tracked:∀ {a:Addr} {h':Heap},(∃ o,s.heap.get? a = some o /\ H a = none) -> Heap.SameBut a s.heap h' -> HOk X.prog X.w H h':=fun {a h'} ha hs b ob e=>by
    obtain ⟨_,_,hfree⟩:=ha
    refine (I.hok b ob e).stay (fun c w' hc q=>(hs.2 c ?_).trans q) (fun _ q=>q) fun _ _ q=>q
    rintro rfl
    rcases hc with rfl | hc
    · rw [hfree] at e; cases e
    · rw [hfree] at hc; cases hc
  rcases hx with hk | hk
  · refine wpAny_storeName_local hk hn (fun h' hn' hs=>?_) hcls
    obtain ⟨oL,_,_,hoL,_⟩:=id hn
    refine h _ ⟨I.ok,I.os,I.bare,⟨fun b o e n hb hx=>?_,fun b o e n hb hx=>?_,I.base.free,fun b o e hx=>?_,I.base.tups,I.base.frzs,I.base.tbls⟩,⟨_,hn',fun j y v' e1 e2 e3=>?_⟩,fun y c e=>?_,I.free,I.freeC,fun p hp=>?_,tracked ⟨oL,hoL,I.free⟩ hs,by simpa using I.len⟩ ⟨_,hs,.inl rfl⟩
    · exact (hs.2 b (Nat.ne_of_lt (Nat.lt_of_lt_of_le (Heap.lt_size e) I.ok.above))).trans (I.base.keep b o e n hb hx)
    · obtain ⟨sl,e1⟩:=I.base.slot b o e n hb hx
      exact ⟨sl,(hs.2 b (Nat.ne_of_lt (Nat.lt_of_lt_of_le (Heap.lt_size e) I.ok.above))).trans e1⟩
    · obtain ⟨o',e1⟩:=I.base.there b o e hx
      exact ⟨o',(hs.2 b (Nat.ne_of_lt (Nat.lt_of_lt_of_le (Heap.lt_size e) I.ok.above))).trans e1⟩
    · by_cases hj:j = i
      · subst hj
        rw [hi] at e1; cases e1
        rw [List.getElem?_set_self hiσ] at e2
        cases e2
        exact ⟨u,r,.inl ⟨hk,by simp⟩⟩
      · rw [List.getElem?_set_ne (Ne.symm hj)] at e2
        obtain ⟨u',r',q⟩:=hl j y v' e1 e2 e3
        refine ⟨u',r',?_⟩
        rcases q with ⟨k,e⟩ | ⟨k,c,e,z⟩
        · refine .inl ⟨k,?_⟩
          have:y ≠ x:=fun e=>hj (zj9 hN e1 (e ▸ hi))
          simp [this,e]
        · exact .inr ⟨k,c,e,z.sameBut hs (cne y c e)⟩
    · obtain ⟨w',z⟩:=I.cell y c e
      exact ⟨w',z.sameBut hs (cne y c e)⟩
    · obtain ⟨e,n,ne,nf,d⟩:=I.pin p hp
      exact ⟨(hs.2 p.1 ne).trans e,n,ne,nf,d⟩
  · have hfn:X.fn x = true:=by
      rcases hf with z | z
      · exact z
      · rw [z] at hk; cases hk
    obtain ⟨c,hc⟩:=I.ok.has x (.inl hk)
    obtain ⟨w',z⟩:=I.cell x c hc
    refine wpAny_storeName_cell I.ok.kind hk hc z (fun h' hc' hs=>?_)
    obtain ⟨oc,hoc,hocd⟩:=id z
    refine h { s with heap:=h' } ⟨I.ok,I.os,I.bare,⟨fun b o e n hb hx=>?_,fun b o e n hb hx=>?_,I.base.free,fun b o e hx=>?_,I.base.tups,I.base.frzs,I.base.tbls⟩,⟨m,hn.sameBut hs (Ne.symm (cne x c hc)),fun j y v' e1 e2 e3=>?_⟩,fun y c' e=>?_,I.free,I.freeC,fun p hp=>?_,tracked ⟨oc,hoc,I.freeC x c hc⟩ hs,by simpa using I.len⟩ ⟨c,hs,.inr hc⟩
    · exact (hs.2 b (Nat.ne_of_lt (Nat.lt_of_lt_of_le (Heap.lt_size e) (I.ok.cab x c hfn hc)))).trans (I.base.keep b o e n hb hx)
    · obtain ⟨sl,e1⟩:=I.base.slot b o e n hb hx
      exact ⟨sl,(hs.2 b (Nat.ne_of_lt (Nat.lt_of_lt_of_le (Heap.lt_size e) (I.ok.cab x c hfn hc)))).trans e1⟩
    · obtain ⟨o',e1⟩:=I.base.there b o e hx
      exact ⟨o',(hs.2 b (Nat.ne_of_lt (Nat.lt_of_lt_of_le (Heap.lt_size e) (I.ok.cab x c hfn hc)))).trans e1⟩
    · by_cases hj:j = i
      · subst hj
        rw [hi] at e1; cases e1
        rw [List.getElem?_set_self hiσ] at e2
        cases e2
        exact ⟨u,r,.inr ⟨.inl hk,c,hc,hc'⟩⟩
      · rw [List.getElem?_set_ne (Ne.symm hj)] at e2
        obtain ⟨u',r',q⟩:=hl j y v' e1 e2 e3
        refine ⟨u',r',?_⟩
        rcases q with q | ⟨k,c',e,z'⟩
        · exact .inl q
        · refine .inr ⟨k,c',e,z'.sameBut hs ?_⟩
          rintro rfl
          exact hj (zj9 hN e1 (I.ok.inj _ _ _ e hc ▸ hi))
    · by_cases hcc:c' = c
      · subst hcc; exact ⟨_,hc'⟩
      · obtain ⟨w2,z2⟩:=I.cell y c' e
        exact ⟨w2,z2.sameBut hs hcc⟩
    · obtain ⟨e,n,ne,nf,d⟩:=I.pin p hp
      refine ⟨(hs.2 p.1 ?_).trans e,n,ne,nf,d⟩
      intro q
      rw [q,hoc] at e
      have q':oc = p.2:=Option.some.inj e
      exact d w' (by rw [<- q']; exact hocd)
theorem zeP {M:Model} {A:Around} {E:Value -> Shared -> Prop} {i:Nat} {x:Str} {v:V} {u:Value} {Q:Unit -> Shared -> Prop} (I:Inv X pins σ H s) (hN:X.N.Nodup) (hi:X.N[i]? = some x) (hx:Loc X.env.scope x) (r:RelV v u)
    (h:∀ s',Inv X pins (σ.set i (some v)) H s' -> Q () s') (hf:X.fn x = true \/ X.env.scope.names.lookup x = some .local:=by first | exact .inl rfl | exact .inr rfl | assumption):wpAny M A (storeName X.env x u) Q E s :=
  zmD I hN hi hx r (fun s' I' _=>h s' I') hf
theorem Inv.call' {s':Shared} {ch:List Addr} (I:Inv X pins σ H s) (ho:s'.os = s.os) (u:Un (frs X.stack) ch H H' s.heap s'.heap) (hok:HOk X.prog X.w H' s'.heap) (hg:AllBare s'.gens)
    (hch:∀ b ∈ ch,(b ∈ X.ex \/ X.s₀.heap.objs.size <= b) /\ b ≠ X.env.locals /\ (∀ x c,X.env.cells.lookup x = some c -> c ≠ b) /\ ∀ p ∈ X.pn ++ pins,p.1 ≠ b):Inv X pins σ H' s':=by
  obtain ⟨h',g',d',t',o'⟩:=s'
  have e:o' = s.os:=ho
  subst e
  exact I.call (g':=g') (t':=t') (d':=d') u hok hg hch
end
abbrev XK:=Value -> Option Addr -> Hp -> Prop
abbrev St:=List (Option V)
abbrev VK:=V -> Hp -> Prop
abbrev TE:=St -> Hp -> VK -> Prop
abbrev TT:=St -> Hp -> (Bool -> Hp -> Prop) -> Prop
abbrev TA:=St -> Hp -> (List V -> Hp -> Prop) -> Prop
structure Ends where
  nx:St -> Hp -> Prop
  rt:VK
  bk:St -> Hp -> Prop:=fun _ _=>False
  ct:St -> Hp -> Prop:=fun _ _=>False
abbrev TS:=Ends -> St -> Hp -> Prop
def EP (X:Cx) (pins:List (Addr × Obj)) (σ:St) (Q:VK) (u:Value) (s':Shared):Prop:=∃ v H',Inv X pins σ H' s' /\ RelV v u /\ Q v H'
def TP (X:Cx) (pins:List (Addr × Obj)) (σ:St) (Q:Bool -> Hp -> Prop) (b:Bool) (s':Shared):Prop:=∃ H',Inv X pins σ H' s' /\ Q b H'
def AP (X:Cx) (pins:List (Addr × Obj)) (σ:St) (Q:List V -> Hp -> Prop) (us:List Value) (s':Shared):Prop:=∃ vs H',Inv X pins σ H' s' /\ Vals vs us /\ Q vs H'
def SP (X:Cx) (pins:List (Addr × Obj)) (D:Ends) (f:Flow) (s':Shared):Prop :=
  match f with
  | .next=>∃ σ' H',Inv X pins σ' H' s' /\ D.nx σ' H'
  | .brk=>∃ σ' H',Inv X pins σ' H' s' /\ D.bk σ' H'
  | .cont=>∃ σ' H',Inv X pins σ' H' s' /\ D.ct σ' H'
  | .ret u=>∃ v σ' H',Inv X pins σ' H' s' /\ RelV v u /\ D.rt v H'
def PE (X:Cx) (e:Expr) (t:TE):Prop :=
  ∀ (pins:List (Addr × Obj)) (s:Shared) (σ:St) (H:Hp) (Q:VK),Inv X pins σ H s -> t σ H Q -> wpAny (model X.prog X.w) X.A (eval e X.env) (EP X pins σ Q) X.xe s
def PT (X:Cx) (e:Expr) (t:TT):Prop :=
  ∀ (pins:List (Addr × Obj)) (s:Shared) (σ:St) (H:Hp) (Q:Bool -> Hp -> Prop),Inv X pins σ H s -> t σ H Q -> wpAny (model X.prog X.w) X.A (isTrue e X.env (eval e X.env)) (TP X pins σ Q) X.xe s
def PW (X:Cx) (e:Expr) (t:TT):Prop :=
  ∀ (whole:Sem Value) (pins:List (Addr × Obj)) (s:Shared) (σ:St) (H:Hp) (Q:Bool -> Hp -> Prop),Inv X pins σ H s -> t σ H Q -> wpAny (model X.prog X.w) X.A (isTrue e X.env whole) (TP X pins σ Q) X.xe s
theorem PW.pt {X:Cx} {e:Expr} {t:TT} (h:PW X e t):PT X e t:=h _
def PA (X:Cx) (es:List Expr) (t:TA):Prop :=
  ∀ (pos:Pos) (pins:List (Addr × Obj)) (s:Shared) (σ:St) (H:Hp) (Q:List V -> Hp -> Prop),Inv X pins σ H s -> t σ H Q -> wpAny (model X.prog X.w) X.A (spliced (backTo pos (starEach es X.env))) (AP X pins σ Q) X.xe s
def PS (X:Cx) (st:Stmt) (t:TS):Prop :=
  ∀ (pins:List (Addr × Obj)) (s:Shared) (σ:St) (H:Hp) (D:Ends),Inv X pins σ H s -> t D σ H -> wpAny (model X.prog X.w) X.A (exec st X.env) (SP X pins D) X.xe s
def PSs (X:Cx) (st:List Stmt) (t:TS):Prop :=
  ∀ (pins:List (Addr × Obj)) (s:Shared) (σ:St) (H:Hp) (D:Ends),Inv X pins σ H s -> t D σ H -> wpAny (model X.prog X.w) X.A (execs st X.env) (SP X pins D) X.xe s
theorem thn {α:Type} {t:Sem α} {Q Q':α -> Shared -> Prop} {M:Model} {A:Around} {E:Value -> Shared -> Prop} {s:Shared} (h:wpAny M A t Q E s) (hQ:∀ a s,Q a s -> Q' a s):wpAny M A t Q' E s:=wpAny_mono h hQ fun _ _ x=>x
end L2
namespace L2
open PySem PySem.Spec PyProof.Rows
section
variable {X:Cx}
theorem bin {a b:Expr} {ta tb:TE} (ha:PE X a ta) (hb:PE X b tb) {pins:List (Addr × Obj)} {s:Shared} {σ:St} {H:Hp} {R:V -> V -> Hp -> Prop} (I:Inv X pins σ H s) (h:ta σ H fun x H1=>tb σ H1 fun y H2=>R x y H2)
    {α:Type} {Q:α -> Shared -> Prop} {f:Value -> Value -> Sem α}
    (hf:∀ v u s2 x y H2,Inv X pins σ H2 s2 -> RelV x v -> RelV y u -> R x y H2 -> wpAny (model X.prog X.w) X.A (f v u) Q X.xe s2) :
    wpAny (model X.prog X.w) X.A (eval a X.env) (fun v s₁=>wpAny (model X.prog X.w) X.A (eval b X.env) (fun u s₂=>wpAny (model X.prog X.w) X.A (f v u) Q X.xe s₂) X.xe s₁) X.xe s:=by
  refine thn (ha pins s σ H _ I h) fun v s1 ⟨x,H1,I1,r1,q1⟩=>?_
  refine thn (hb pins s1 σ H1 _ I1 q1) fun u s2 ⟨y,H2,I2,r2,q2⟩=>?_
  exact hf v u s2 x y H2 I2 r1 r2 q2
def tVar (i:Nat):TE:=fun σ H Q=>∃ v,σ[i]? = some (some v) /\ Q v H
def tC (v:V):TE:=fun _ H Q=>Q v H
theorem zq7 {i:Nat} {x:Str} {pos:Pos} (hN:X.N[i]? = some x) (hv:Vis X.env.scope x) (hd:(x == ("__debug__":Str)) = false:=by decide) (hcd:(x == ("__classdict__":Str)) = false:=by decide):PE X (.Name x pos) (tVar i):=by
  intro pins s σ H Q I h
  obtain ⟨v,e,h⟩:=h
  obtain ⟨m,hn,hl⟩:=I.loc
  obtain ⟨u,r,l⟩:=hl i x v hN e hv
  have fin:EP X pins σ Q u s:=⟨v,H,I,r,h⟩
  rcases l with ⟨hk,hm⟩ | ⟨hk,c,hc,hcell⟩
  · exact wpAny_Name (wpAny_loadName_local I.ok.kind hk hn hm fin) hd
  · rcases hk with hk | hk
    · exact wpAny_Name (wpAny_loadName_cell I.ok.kind hk hc hcell fin) hd
    · exact wpAny_Name (wpAny_loadName_free I.ok.kind hk hc hcell fin hcd) hd
theorem pe_int {i j pos}:PE X (.Constant (.int i) j pos) (tC (.int i)):=fun _ _ _ H _ I h=>wpAny_Constant_int ⟨.int i,H,I.tok _,⟨_,rfl⟩,h⟩
theorem pe_bl {b j pos}:PE X (.Constant (.bool b) j pos) (tC (.bl b)):=fun _ _ _ H _ I h=>Constant_bool ⟨.bl b,H,I,rfl,h⟩
theorem pe_non {j pos}:PE X (.Constant .none j pos) (tC .non):=fun _ _ _ H _ I h=>Constant_none ⟨.non,H,I,rfl,h⟩
theorem pe_str {x j pos}:PE X (.Constant (.str x) j pos) (tC (.str x)):=fun _ _ _ H _ I h=>Calls.Constant_str ⟨.str x,H,I.tok _,⟨_,rfl⟩,h⟩
def Gl (X:Cx) (x:Str):Prop:=X.env.kindOf x = some .globalImplicit
theorem zhw {E:Value -> Shared -> Prop} {pins:List (Addr × Obj)} {s:Shared} {σ:St} {H:Hp} {x:Str} {u:Value} {pos:Pos} {Q:Value -> Shared -> Prop} (I:Inv X pins σ H s) (hg:Gl X x) (hm:X.mg x = some u) (h:Q u s)
    (hd:(x == ("__debug__":Str)) = false:=by decide):wpAny (model X.prog X.w) X.A (eval (.Name x pos) X.env) Q E s :=
  Calls.Name_function_global I.ok.kind hg (Calls.loadGlobal_global (by rw [I.ok.glob]; exact I.mod.glob.keeps I.bk) hm h) hd
theorem zg5 {E:Value -> Shared -> Prop} {pins:List (Addr × Obj)} {s:Shared} {σ:St} {H:Hp} {x:Str} {u:Value} {pos:Pos} {Q:Value -> Shared -> Prop} (I:Inv X pins σ H s) (hg:Gl X x) (hm:X.mg x = none) (hv:bootBuiltins x = some u) (h:Q u s)
    (hn:x ≠ "__name__":=by decide) (hd:(x == ("__debug__":Str)) = false:=by decide):wpAny (model X.prog X.w) X.A (eval (.Name x pos) X.env) Q E s:=by
  obtain ⟨mb,h1,h2⟩:=I.mod.blt
  exact Calls.Name_function_global I.ok.kind hg (Calls.loadGlobal_builtin (by rw [I.ok.glob]; exact I.mod.glob.keeps I.bk) hm (by rw [I.ok.blt]; exact h1.keeps I.bk) ((h2 x hn).trans hv) h) hd
theorem zpX {x:Str} {v:V} {u:Value} {pos:Pos} (hg:Gl X x) (hm:X.mg x = some u) (r:RelV v u) (hd:(x == ("__debug__":Str)) = false:=by decide):PE X (.Name x pos) (tC v) :=
  fun _ _ _ H _ I h=>zhw I hg hm ⟨v,H,I,r,h⟩ hd
theorem zqa {x:Str} {v:V} {u:Value} {pos:Pos} (hg:Gl X x) (hm:X.mg x = none) (hv:bootBuiltins x = some u) (r:RelV v u) (hn:x ≠ "__name__":=by decide) (hd:(x == ("__debug__":Str)) = false:=by decide):PE X (.Name x pos) (tC v) :=
  fun _ _ _ H _ I h=>zg5 I hg hm hv ⟨v,H,I,r,h⟩ hn hd
variable {a b:Expr} {ta tb:TE} {pos:Pos}
variable {tA tB':TT} {rest:List Expr}
def tAnd (t u:TT):TT:=fun σ H Q=>t σ H fun c H1=>if c = true then u σ H1 Q else Q false H1
def tOr (t u:TT):TT:=fun σ H Q=>t σ H fun c H1=>if c = true then Q true H1 else u σ H1 Q
def tNot (t:TT):TT:=fun σ H Q=>t σ H fun c H1=>Q (!c) H1
theorem zpj (ha:PT X a tA):PW X (.BoolOp .And [a] pos) tA:=by
  intro wh pins s σ H Q I h
  refine isTrue_and (thn (ha pins s σ H Q I h) fun c s1 e=>?_)
  cases c with
  | true=>exact isTrue_and_nil e
  | false=>exact e
theorem zrD (ha:PT X a tA):PW X (.BoolOp .Or [a] pos) tA:=by
  intro wh pins s σ H Q I h
  refine isTrue_or (thn (ha pins s σ H Q I h) fun c s1 e=>?_)
  cases c with
  | false=>exact isTrue_or_nil e
  | true=>exact e
theorem zrq (ha:PT X a tA) (hb:PW X (.BoolOp .And (b :: rest) pos) tB'):PW X (.BoolOp .And (a :: b :: rest) pos) (tAnd tA tB'):=by
  intro wh pins s σ H Q I h
  refine isTrue_and (thn (ha pins s σ H _ I h) fun c s1 ⟨H1,I1,q1⟩=>?_)
  cases c with
  | true=>exact hb wh pins s1 σ H1 Q I1 q1
  | false=>exact ⟨H1,I1,q1⟩
theorem zrL (ha:PT X a tA) (hb:PW X (.BoolOp .Or (b :: rest) pos) tB'):PW X (.BoolOp .Or (a :: b :: rest) pos) (tOr tA tB'):=by
  intro wh pins s σ H Q I h
  refine isTrue_or (thn (ha pins s σ H _ I h) fun c s1 ⟨H1,I1,q1⟩=>?_)
  cases c with
  | true=>exact ⟨H1,I1,q1⟩
  | false=>exact hb wh pins s1 σ H1 Q I1 q1
theorem zqT (ha:PT X a tA):PT X (.UnaryOp .Not a pos) (tNot tA):=by
  intro pins s σ H Q I h
  exact isTrue_not (ha pins s σ H (fun c H1=>Q (!c) H1) I h)
def tAndV (ta tb:TE):TE:=fun σ H Q=>ta σ H fun x H1=>∃ c,x = .bl c /\ if c = true then tb σ H1 Q else Q (.bl false) H1
def tOrV (ta tb:TE):TE:=fun σ H Q=>ta σ H fun x H1=>∃ c,x = .bl c /\ if c = true then Q (.bl true) H1 else tb σ H1 Q
def tNotV (ta:TE):TE:=fun σ H Q=>ta σ H fun x H1=>∃ c,x = .bl c /\ Q (.bl (!c)) H1
theorem zqZ {op} {t:TE} (h:PE X a t):PE X (.BoolOp op [a] pos) t:=fun pins s σ H Q I hw=>BoolOp_one (h pins s σ H Q I hw)
theorem zqu (ha:PE X a ta) (hb:PE X (.BoolOp .And (b :: rest) pos) tb):PE X (.BoolOp .And (a :: b :: rest) pos) (tAndV ta tb):=by
  intro pins s σ H Q I h
  refine BoolOp_and (thn (ha pins s σ H _ I h) fun v s1 ⟨x,H1,I1,r1,q1⟩=>?_)
  obtain ⟨c,rfl,q1⟩:=q1
  cases r1
  refine wpAny_truthy_bool ?_
  cases c with
  | true=>exact hb pins s1 σ H1 Q I1 q1
  | false=>exact ⟨.bl false,H1,I1,rfl,q1⟩
theorem zrW (ha:PE X a ta) (hb:PE X (.BoolOp .Or (b :: rest) pos) tb):PE X (.BoolOp .Or (a :: b :: rest) pos) (tOrV ta tb):=by
  intro pins s σ H Q I h
  refine BoolOp_or (thn (ha pins s σ H _ I h) fun v s1 ⟨x,H1,I1,r1,q1⟩=>?_)
  obtain ⟨c,rfl,q1⟩:=q1
  cases r1
  refine wpAny_truthy_bool ?_
  cases c with
  | false=>exact hb pins s1 σ H1 Q I1 q1
  | true=>exact ⟨.bl true,H1,I1,rfl,q1⟩
theorem zqB (ha:PE X a ta):PE X (.UnaryOp .Not a pos) (tNotV ta):=by
  intro pins s σ H Q I h
  refine UnaryOp_ (thn (ha pins s σ H _ I h) fun v s1 ⟨x,H1,I1,r1,q1⟩=>?_)
  obtain ⟨c,rfl,q1⟩:=q1
  cases r1
  exact not_of (wpAny_truthy_bool ⟨.bl (!c),H1,I1,rfl,q1⟩)
end
end L2
namespace L2
open PySem PySem.Spec PyProof.Rows
def SqL (K:PySem.W.Frag) (H:Hp) (a:Addr) (xs:List V):Prop :=
  Rd H a (.lst xs) \/
    ∃ (o:Obj) (its:Array Value) (n:Nat),K.lookup a = some o /\ o.cls = .type "list" /\ o.dict = none /\ o.data = .seq its n /\ its.size <= sizeLine /\ Vals xs its.toList
def SqT (K:PySem.W.Frag) (H:Hp) (a:Addr) (xs:List V):Prop :=
  Rd H a (.tup xs) \/
    ∃ (o:Obj) (its:Array Value) (n:Nat),K.lookup a = some o /\ o.cls = .type "tuple" /\ o.data = .seq its n /\ its.size <= sizeLine /\ Vals xs its.toList
def absV:Value -> Option V
  | .none=>some .non
  | .bool b=>some (.bl b)
  | .int i _=>some (.int i)
  | .str x _=>some (.str x)
  | .bytes b _=>some (.byt b)
  | .float b _=>some (.flt b)
  | .ref a=>some (.ref a)
  | .type n=>some (.ty n)
  | _=>none
theorem RelV.abs {x:V} {u:Value} (r:RelV x u):absV u = some x:=by
  cases x with
  | non=>cases r; rfl
  | bl _=>cases r; rfl
  | int _=>obtain ⟨t,rfl⟩:=r; rfl
  | str _=>obtain ⟨t,rfl⟩:=r; rfl
  | byt _=>obtain ⟨t,rfl⟩:=r; rfl
  | flt _=>obtain ⟨t,rfl⟩:=r; rfl
  | ref _=>cases r; rfl
  | ty _=>cases r; rfl
theorem RelV.inj {x y:V} {u:Value} (r:RelV x u) (q:RelV y u):x = y:=Option.some.inj (r.abs.symm.trans q.abs)
theorem Vals.inj:∀ {xs ys:List V} {us:List Value},Vals xs us -> Vals ys us -> xs = ys
  | _,_,_,.nil,.nil=>rfl
  | _,_,_,.cons r t,.cons r' t'=>by rw [r.inj r',Vals.inj t t']
section
variable {X:Cx} {pins:List (Addr × Obj)} {σ:St} {H:Hp} {s:Shared} {a:Addr} {xs ys:List V}
theorem SqL.of {K:PySem.W.Frag} (h:H a = some (.lst xs)):SqL K H a xs:=.inl (.inl h)
theorem Inv.list (I:Inv X pins σ H s) (h:SqL X.K H a xs):∃ its:List Value,Vals xs its /\ PlainL s.heap a its.toArray /\ xs.length <= sizeLine:=by
  rcases h with h | ⟨o,its,n,hk,hc,hd,hs,hz,r⟩
  · obtain ⟨z,its,n,r,e⟩:=h.ok I.hok
    exact ⟨its,r,⟨_,n,e,rfl,rfl,rfl⟩,z⟩
  · refine ⟨its.toList,r,⟨o,n,I.kIn a o hk,hc,hd,by simpa using hs⟩,?_⟩
    have e:=r.length
    simp only [Array.length_toList] at e
    omega
theorem Inv.tuple (I:Inv X pins σ H s) (h:SqT X.K H a xs):∃ its:List Value,Vals xs its /\ IsTup s.heap a its.toArray /\ xs.length <= sizeLine:=by
  rcases h with h | ⟨o,its,n,hk,hc,hs,hz,r⟩
  · obtain ⟨z,its,r,p⟩:=h.ok I.hok
    exact ⟨its,r,p,z⟩
  · refine ⟨its.toList,r,⟨o,I.kIn a o hk,hc,n,by simpa using hs⟩,?_⟩
    have e:=r.length
    simp only [Array.length_toList] at e
    omega
theorem Inv.list_inj (I:Inv X pins σ H s) (h:SqL X.K H a xs) (h':SqL X.K H a ys):xs = ys:=by
  obtain ⟨its,r,⟨o,n,e,_,_,d⟩,_⟩:=I.list h
  obtain ⟨its',r',⟨o',n',e',_,_,d'⟩,_⟩:=I.list h'
  rw [e] at e'; cases e'
  rw [d] at d'
  injection d' with d1 _
  have:its = its':=by simpa using congrArg Array.toList d1
  subst this
  exact r.inj r'
theorem Inv.tuple_inj (I:Inv X pins σ H s) (h:SqT X.K H a xs) (h':SqT X.K H a ys):xs = ys:=by
  obtain ⟨its,r,⟨o,e,_,n,d⟩,_⟩:=I.tuple h
  obtain ⟨its',r',⟨o',e',_,n',d'⟩,_⟩:=I.tuple h'
  rw [e] at e'; cases e'
  rw [d] at d'
  injection d' with d1 _
  have:its = its':=by simpa using congrArg Array.toList d1
  subst this
  exact r.inj r'
end
section
variable {X:Cx} {pins:List (Addr × Obj)} {σ:St} {H:Hp} {s:Shared} {E:Value -> Shared -> Prop}
end
section
variable {X:Cx} {st:Stmt} {rest:List Stmt} {t u:TS} {e:Expr} {te:TE} {pos:Pos}
def tNext:TS:=fun D σ H=>D.nx σ H
def tSeq (t u:TS):TS:=fun D σ H=>t { D with nx:=u D } σ H
theorem pss_nil:PSs X [] tNext:=fun _ _ σ H _ I h=>wpAny_execs_nil ⟨σ,H,I,h⟩
theorem zn2 (h1:PS X st t) (h2:PSs X rest u):PSs X (st :: rest) (tSeq t u):=by
  intro pins s σ H D I h
  refine wpAny_execs_cons (thn (h1 pins s σ H { D with nx:=u D } I h) fun f s1 q=>?_)
  cases f with
  | next =>
    obtain ⟨σ',H',I',q⟩:=q
    exact h2 pins s1 σ' H' D I' q
  | ret v=>exact q
  | brk=>exact q
  | cont=>exact q
theorem Inv.quiet {pins:List (Addr × Obj)} {σ:St} {H:Hp} {s:Shared} (I:Inv X pins σ H s):interactive X.env = false:=by simp [interactive,I.ok.kind]
def tDrop (te:TE):TS:=fun D σ H=>te σ H fun _ H1=>D.nx σ H1
theorem zo7 (he:PE X e te) (hs:swapsWith e none pos.line X.env = pure false:=by rfl):PS X (.Expr e pos) (tDrop te):=by
  intro pins s σ H D I h
  exact wpAny_Expr_any (thn (he pins s σ H _ I h) fun v s1 ⟨x,H1,I1,r1,q1⟩=>⟨σ,H1,I1,q1⟩) I.quiet hs
def tRet (te:TE):TS:=fun D σ H=>te σ H D.rt
theorem zq3 (he:PE X e te):PS X (.Return (some e) pos) (tRet te):=by
  intro pins s σ H D I h
  exact wpAny_Return_some (thn (he pins s σ H _ I h) fun v s1 ⟨x,H1,I1,r1,q1⟩=>⟨x,σ,H1,I1,r1,q1⟩)
def tIfS (c:TT) (t u:TS):TS:=fun D σ H=>c σ H fun b H1=>if b = true then t D σ H1 else u D σ H1
theorem zr0 {c:Expr} {a b:List Stmt} {tc:TT} (hc:PT X c tc) (ha:PSs X a t) (hb:PSs X b u):PS X (.If c a b pos) (tIfS tc t u):=by
  intro pins s σ H D I h
  refine wpAny_If (thn (hc pins s σ H _ I h) fun d s1 ⟨H1,I1,q1⟩=>?_)
  cases d with
  | true=>exact ha pins s1 σ H1 D I1 q1
  | false=>exact hb pins s1 σ H1 D I1 q1
end
abbrev TG:=V -> St -> Hp -> (St -> Hp -> Prop) -> Prop
abbrev TGs:=List V -> St -> Hp -> (St -> Hp -> Prop) -> Prop
def PG (X:Cx) (target:Expr) (t:TG):Prop :=
  ∀ (pins:List (Addr × Obj)) (s:Shared) (σ:St) (H:Hp) (v:V) (u:Value) (Q:St -> Hp -> Prop),Inv X pins σ H s -> RelV v u -> t v σ H Q ->
    wpAny (model X.prog X.w) X.A (assign target X.env u) (fun _ s'=>∃ σ' H',Inv X pins σ' H' s' /\ Q σ' H') X.xe s
def PGs (X:Cx) (ts:List Expr) (t:TGs):Prop :=
  ∀ (pins:List (Addr × Obj)) (s:Shared) (σ:St) (H:Hp) (vs:List V) (us:List Value) (Q:St -> Hp -> Prop),Inv X pins σ H s -> Vals vs us -> t vs σ H Q ->
    wpAny (model X.prog X.w) X.A (assignInOrder ((assignEach ts X.env).map (·.2)) us) (fun _ s'=>∃ σ' H',Inv X pins σ' H' s' /\ Q σ' H') X.xe s
abbrev TSet:=V -> V -> V -> Hp -> (Hp -> Prop) -> Prop
def PSet (X:Cx) (t:TSet):Prop :=
  ∀ (pins:List (Addr × Obj)) (s:Shared) (σ:St) (H:Hp) (o i v:V) (ov iv u:Value) (Q:Hp -> Prop),Inv X pins σ H s -> RelV o ov -> RelV i iv -> RelV v u -> t o i v H Q ->
    wpAny (model X.prog X.w) X.A (setItem ov iv u) (fun _ s'=>∃ H',Inv X pins σ H' s' /\ Q H') X.xe s
abbrev TIp:=V -> V -> Hp -> VK -> Prop
def PIp (X:Cx) (op:Operator) (t:TIp):Prop :=
  ∀ (pins:List (Addr × Obj)) (s:Shared) (σ:St) (H:Hp) (x y:V) (v u:Value) (Q:VK),Inv X pins σ H s -> RelV x v -> RelV y u -> t x y H Q ->
    wpAny (model X.prog X.w) X.A (inplaceOp op v u) (EP X pins σ Q) X.xe s
section
variable {X:Cx} {pos:Pos}
def gName (i:Nat):TG:=fun v σ H Q=>Q (σ.set i (some v)) H
theorem zmj {i:Nat} {x:Str} (hN:X.N.Nodup) (hi:X.N[i]? = some x) (hx:Loc X.env.scope x) (hf:X.fn x = true \/ X.env.scope.names.lookup x = some .local:=by first | exact .inl rfl | exact .inr rfl | assumption):PG X (.Name x pos) (gName i):=by
  intro pins s σ H v u Q I r h
  exact wpAny_assign_Name (zeP I hN hi hx r (fun s' I'=>⟨_,H,I',h⟩) hf)
def gNil:TGs:=fun vs σ H Q=>vs = [] /\ Q σ H
def gCons (t:TG) (u:TGs):TGs:=fun vs σ H Q=>∃ v r,vs = v :: r /\ t v σ H fun σ' H'=>u r σ' H' Q
theorem pgs_nil:PGs X [] gNil:=by
  intro pins s σ H vs us Q I r h
  obtain ⟨e,h⟩:=h
  subst e
  cases r
  exact assignInOrder_nil ⟨σ,H,I,h⟩
theorem znD {e:Expr} {es:List Expr} {t:TG} {u:TGs} (h1:PG X e t) (h2:PGs X es u)
    (hs:(assignEach (e :: es) X.env).map (·.2) = assign e X.env :: (assignEach es X.env).map (·.2):=by rfl):PGs X (e :: es) (gCons t u):=by
  intro pins s σ H vs us Q I r h
  obtain ⟨v,vr,e1,h⟩:=h
  subst e1
  cases r with
  | cons r rr =>
    rw [hs]
    refine assignInOrder_cons (thn (h1 pins s σ H _ _ _ I r h) fun _ s1 ⟨σ1,H1,I1,q1⟩=>?_)
    exact h2 pins s1 σ1 H1 _ _ Q I1 rr q1
def gTup (K:PySem.W.Frag) (n:Nat) (t:TGs):TG:=fun v σ H Q=>∃ a xs,v = .ref a /\ SqT K H a xs /\ xs.length = n /\ t xs σ H Q
theorem zqv {es:List Expr} {k:Nat} {t:TGs} {n:Nat} (hc:X.calm = true) (h:PGs X es t)
    (hn:(assignEach es X.env).length = n:=by rfl) (hst:(assignEach es X.env).findIdx? (·.1) = none:=by rfl):PG X (.Tuple es k pos) (gTup X.K n t):=by
  intro pins s σ H v u Q I r hw
  obtain ⟨a,xs,e1,hq,hl,hw⟩:=hw
  subst e1
  cases r
  obtain ⟨its,rv,ht,hz⟩:=I.tuple hq
  refine assign_Tuple_tuple (I.ok.hd hc) ht (by simp [hn,<- hl,rv.length]) hst fun h' hx=>?_
  have I1:Inv X pins σ H { s with heap:=h' }:=I.kept (t':=s.toks) fun b o e=>hx b o (Nat.ne_of_lt (Heap.lt_size e)) e
  exact h pins _ σ H xs _ Q I1 (by simpa using rv) hw
def gSub (to ti:TE) (t:TSet):TG:=fun v σ H Q=>to σ H fun o H1=>ti σ H1 fun i H2=>t o i v H2 fun H3=>Q σ H3
theorem zga {o i:Expr} {to ti:TE} {t:TSet} (ho:PE X o to) (hi:PE X i ti) (hs:PSet X t)
    (ha:∀ v,assign (.Subscript o i pos) X.env v = (do
      let ov <- holding [v] (eval o X.env)
      let iv <- holding [v,ov] (eval i X.env)
      standAt pos
      holding [v,ov,iv] (setItem ov iv v)
      release [v,ov,iv] []):=by intro _; rfl):PG X (.Subscript o i pos) (gSub to ti t):=by
  intro pins s σ H v u Q I r h
  rw [ha]
  refine wpAny_bind (wpAny_holding (thn (ho pins s σ H _ I h) fun ov s1 ⟨x,H1,I1,r1,q1⟩=>?_))
  refine wpAny_bind (wpAny_holding (thn (hi pins s1 σ H1 _ I1 q1) fun iv s2 ⟨y,H2,I2,r2,q2⟩=>?_))
  refine wpAny_bind (wpAny_standAt (wpAny_bind (wpAny_holding (thn (hs pins s2 σ H2 x y v ov iv u _ I2 r1 r2 r q2) fun _ s3 ⟨H3,I3,q3⟩=>?_))))
  exact wpAny_release ⟨σ,H3,I3,q3⟩
def tAsg (te:TE) (g:TG):TS:=fun D σ H=>te σ H fun x H1=>g x σ H1 D.nx
theorem zoW {tg e:Expr} {te:TE} {g:TG} (he:PE X e te) (hg:PG X tg g) (hs:swapsWithSole [tg] e pos.line X.env = pure false:=by rfl) (hw:swappedStores [tg] e X.env = pure none:=by rfl)
    (h1:(assignEach [tg] X.env).map (·.2) = [assign tg X.env]:=by rfl):PS X (.Assign [tg] e pos) (tAsg te g):=by
  intro pins s σ H D I h
  refine wpAny_Assign_stores (thn (he pins s σ H _ I h) fun v s1 ⟨x,H1,I1,r1,q1⟩=>?_) hs hw
  rw [h1]
  exact thn (hg pins s1 σ H1 x v _ I1 r1 q1) fun _ s2 q=>q
theorem zra {i:Nat} {x:Str} {e:Expr} {te:TE} {pos':Pos} (hN:X.N.Nodup) (hi:X.N[i]? = some x) (hx:Loc X.env.scope x) (he:PE X e te) (hs:swapsWith e (some (.Name x pos')) pos.line X.env = pure false:=by rfl) (hf:X.fn x = true \/ X.env.scope.names.lookup x = some .local:=by first | exact .inl rfl | exact .inr rfl | assumption) :
    PS X (.Assign [.Name x pos'] e pos) (tAsg te (gName i)):=by
  intro pins s σ H D I h
  refine wpAny_Assign_Name (thn (he pins s σ H _ I h) fun v s1 ⟨y,H1,I1,r1,q1⟩=>?_) hs
  exact zeP I1 hN hi hx r1 (fun s2 I2=>⟨_,H1,I2,q1⟩) hf
def tPar (i j:Nat) (ta:TA):TS:=fun D σ H=>ta σ H fun vs H1=>∃ v w,vs = [v,w] /\ D.nx ((σ.set i (some v)).set j (some w)) H1
theorem zqK {i j:Nat} {x y:Str} {a b:Expr} {ta:TA} {px py pt:Pos} {kt k2 pt2} (hc:X.calm = true) (hN:X.N.Nodup) (hi:X.N[i]? = some x) (hj:X.N[j]? = some y) (hij:i ≠ j)
    (hx:X.env.scope.names.lookup x = some .local) (hy:X.env.scope.names.lookup y = some .local) (ha:PA X [a,b] ta)
    (hw:swappedStores [.Tuple [.Name x px,.Name y py] kt pt] (.Tuple [a,b] k2 pt2) X.env = pure (some [x,y]))
    (hs:swapsWithSole [.Tuple [.Name x px,.Name y py] kt pt] (.Tuple [a,b] k2 pt2) pos.line X.env = pure false:=by rfl) :
    PS X (.Assign [.Tuple [.Name x px,.Name y py] kt pt] (.Tuple [a,b] k2 pt2) pos) (tPar i j ta):=by
  intro pins s σ H D I h
  rw [exec_Assign_arm]
  refine wpAny_bind (wpAny_standAt ?_)
  rw [hs]
  refine wpAny_bind (wpAny_pure ?_)
  rw [if_neg (by decide)]
  refine wpAny_bind (Tuple_ (thn (ha _ pins s σ H _ I h) fun us s1 ⟨vs,H1,I1,r1,q1⟩=>?_))
  obtain ⟨v,w,e1,q1⟩:=q1
  subst e1
  obtain ⟨u1,u2,rfl,rv,rw'⟩:∃ u1 u2,us = [u1,u2] /\ RelV v u1 /\ RelV w u2:=by
    cases r1 with
    | cons p q =>
      cases q with
      | cons p' q' =>
        cases q'
        exact ⟨_,_,rfl,p,p'⟩
  refine wpAny_newObj_type ?_ (by show 2 <= sizeLine; decide)
  have I2:Inv X pins σ H1 { s1 with heap:=s1.heap.push { cls:=.type "tuple",data:=.seq [u1,u2].toArray } }:=I1.kept (t':=s1.toks) fun b o e=>Heap.get?_push_of_some _ e
  rw [hw]
  refine wpAny_bind (wpAny_pure ?_)
  show wpAny (model X.prog X.w) X.A (do rule "assign.swapped-stores"; let items <- unpackItems (.ref s1.heap.objs.size) 2 none; assignInOrder [fun v=>bindName X.env y v,fun v=>bindName X.env x v] items.reverse; pure Flow.next) _ _ _
  refine wpAny_bind (wpAny_rule (wpAny_bind (unpackItems_tuple (items:=#[u1,u2]) (I.ok.hd hc) (IsTup.new s1.heap _) fun h' hx'=>?_)))
  have I3:=I2.kept (h':=h') (t':=s1.toks) fun b o e=>hx' b o (Nat.ne_of_lt (Heap.lt_size e)) e
  show wpAny _ _ (assignInOrder [fun v=>bindName X.env y v,fun v=>bindName X.env x v] [u2,u1] >>= fun _=>pure Flow.next) _ _ _
  refine wpAny_bind (assignInOrder_cons (wpAny_bindName (zeP I3 hN hj (.inl hy) rw' (fun s2 I4=>?_) (.inr hy))))
  refine assignInOrder_cons (wpAny_bindName (zeP I4 hN hi (.inl hx) rv (fun s3 I5=>assignInOrder_nil (wpAny_pure ?_)) (.inr hx)))
  rw [List.set_comm _ _ (Ne.symm hij)] at I5
  exact ⟨_,H1,I5,q1⟩
def tAug (i:Nat) (te:TE) (ti:TIp):TS:=fun D σ H=>∃ x,σ[i]? = some (some x) /\ te σ H fun y H1=>ti x y H1 fun z H2=>D.nx (σ.set i (some z)) H2
theorem zrA {i:Nat} {x:Str} {e:Expr} {te:TE} {op:Operator} {ti:TIp} {pos':Pos} (hN:X.N.Nodup) (hi:X.N[i]? = some x) (hx:Loc X.env.scope x) (he:PE X e te) (ho:PIp X op ti) (hf:X.fn x = true \/ X.env.scope.names.lookup x = some .local:=by first | exact .inl rfl | exact .inr rfl | assumption) :
    PS X (.AugAssign (.Name x pos') op e pos) (tAug i te ti):=by
  intro pins s σ H D I h
  obtain ⟨v,e1,h⟩:=h
  obtain ⟨m,hn,hl⟩:=I.loc
  have vis:Vis X.env.scope x:=by rcases hx with k | k; exact .inl k; exact .inr (.inl k)
  obtain ⟨u,r,l⟩:=hl i x v hi e1 vis
  refine wpAny_AugAssign_Name ?_
  have go:wpAny (model X.prog X.w) X.A (eval e X.env) (fun w s₂=>wpAny (model X.prog X.w) X.A (inplaceOp op u w) (fun r s₃=>wpAny (model X.prog X.w) X.A (storeName X.env x r) (fun _=>SP X pins D .next) X.xe s₃) X.xe s₂) X.xe s:=by
    refine thn (he pins s σ H _ I h) fun w s1 ⟨y,H1,I1,r1,q1⟩=>?_
    refine thn (ho pins s1 σ H1 v y u w _ I1 r r1 q1) fun z s2 ⟨zv,H2,I2,r2,q2⟩=>?_
    exact zeP I2 hN hi hx r2 (fun s3 I3=>⟨_,H2,I3,q2⟩) hf
  rcases l with ⟨hk,hm⟩ | ⟨hk,c,hc,hcell⟩
  · exact wpAny_loadName_local I.ok.kind hk hn hm go
  · rcases hk with hk | hk
    · exact wpAny_loadName_cell I.ok.kind hk hc hcell go
    · rcases hx with k | k
      · have:X.env.scope.names.lookup x = some .free:=hk
        rw [k] at this; cases this
      · have:X.env.scope.names.lookup x = some .free:=hk
        rw [k] at this; cases this
def ipI (f:Int -> Int -> Int):TIp:=fun x y H Q=>∃ i j,x = .int i /\ y = .int j /\ Q (.int (f i j)) H
theorem zqY:PIp X .Add (ipI fun i j=>i + j):=by
  intro pins s σ H x y v u Q I r1 r2 h
  obtain ⟨i,j,e1,e2,q⟩:=h
  subst e1; subst e2
  obtain ⟨t,rfl⟩:=r1
  obtain ⟨t',rfl⟩:=r2
  exact iadd_int ⟨.int _,H,I.tok _,⟨_,rfl⟩,q⟩
end
section
variable {X:Cx} {pos:Pos}
def tWhile (c:TT) (tb:TS):TS:=fun D σ H=>∃ W:Nat -> St -> Hp -> Prop,(∃ m,W m σ H) /\ ∀ m σ H,W m σ H ->
  c σ H fun b H1=>if b = true then ∃ N:St -> Hp -> Prop,(∀ σ' H',N σ' H' -> ∃ m',m' < m /\ W m' σ' H') /\ tb { D with nx:=N,ct:=N,bk:=D.nx } σ H1 else D.nx σ H1
theorem znx {c:Expr} {body:List Stmt} {tc:TT} {tb:TS} (hp:PassesOwn (model X.prog X.w) X.A X.env X.xe) (hc:PT X c tc) (hb:PSs X body tb):PS X (.While c body [] pos) (tWhile tc tb):=by
  intro pins s σ H D I h
  obtain ⟨W,⟨m0,w0⟩,turn⟩:=h
  refine wpAny_While (codeAny_whileLoop (fun n s'=>∃ σ' H',Inv X pins σ' H' s' /\ W n σ' H') ?_ m0 ⟨σ,H,I,w0⟩)
  rintro n s1 ⟨σ1,H1,I1,w1⟩
  refine wpAny_passesOwn hp (thn (hc pins s1 σ1 H1 _ I1 (turn n σ1 H1 w1)) fun b s2 ⟨H2,I2,q2⟩=>?_)
  cases b with
  | true =>
    obtain ⟨N,hN,q2⟩:=q2
    rw [if_pos rfl]
    refine wpAny_passesOwn hp (thn (hb pins s2 σ1 H2 _ I2 q2) fun f s3 q3=>?_)
    cases f with
    | next =>
      obtain ⟨σ3,H3,I3,n3⟩:=q3
      obtain ⟨m',hm,w3⟩:=hN σ3 H3 n3
      exact ⟨m',hm,σ3,H3,I3,w3⟩
    | cont =>
      obtain ⟨σ3,H3,I3,n3⟩:=q3
      obtain ⟨m',hm,w3⟩:=hN σ3 H3 n3
      exact ⟨m',hm,σ3,H3,I3,w3⟩
    | brk=>exact q3
    | ret v=>exact q3
  | false =>
    rw [if_neg Bool.false_ne_true]
    exact wpAny_execs_nil ⟨σ1,H2,I2,q2⟩
end
structure It where
  go:Nat -> Hp -> Prop
  yld:Nat -> Hp -> V -> Hp -> Prop
  stop:Nat -> Hp -> Prop
def FpOk (X:Cx) (pins:List (Addr × Obj)) (H:Hp) (b:Addr):Prop :=
  H b = none /\ b ≠ X.env.locals /\ b ∉ X.fs /\ (b ∈ X.ex \/ X.s₀.heap.objs.size <= b) /\ (∀ x c,X.env.cells.lookup x = some c -> c ≠ b) /\ ∀ p ∈ X.pn ++ pins,p.1 ≠ b
theorem Inv.fpOk {X:Cx} {pins:List (Addr × Obj)} {σ:St} {H H':Hp} {s:Shared} {b:Addr} (I:Inv X pins σ H s) (hb:s.heap.objs.size <= b) (hn:H' b = none):FpOk X pins H' b:=by
  refine ⟨hn,Nat.ne_of_gt (Nat.lt_of_lt_of_le I.lt hb),I.nofs hb,.inr (Nat.le_trans I.sz hb),fun x c e z=>?_,fun p hp z=>?_⟩
  · obtain ⟨v,q⟩:=I.cell x c e
    exact absurd (Nat.lt_of_lt_of_le q.lt (by rw [z]; exact hb)) (Nat.lt_irrefl _)
  · exact absurd (Nat.lt_of_lt_of_le (Heap.lt_size (I.pin p hp).1) (by rw [z]; exact hb)) (Nat.lt_irrefl _)
structure Turn (P:Program) (w:World) (K:PySem.W.Frag) (tg:Expr) (J:It) (fp:List Addr) (it:Addr) (tn:Nat -> Heap -> Prop):Prop where
  mem:it ∈ fp
  obj:∀ i h,tn i h -> ∀ b ∈ fp,∃ o,h.get? b = some o /\ ∀ v,o.data ≠ .cell v
  keep:∀ i h h',tn i h -> (∀ b ∈ fp,∀ o,h.get? b = some o -> h'.get? b = some o) -> tn i h'
  item:∀ (X:Cx),X.prog = P -> X.w = w -> X.K = K -> X.calm = true -> ∀ (i:Nat) (pins:List (Addr × Obj)) (s:Shared) (σ:St) (H:Hp) (E:Value -> Shared -> Prop),Inv X pins σ H s -> (∀ b ∈ fp,FpOk X pins H b) -> tn i s.heap -> J.go i H ->
    wpAny (model P w) X.A (pyNext (.ref it)) (fun r s1=>∃ u,r = some u /\
      wpAny (model P w) X.A (letOwnedTupleGo tg (.ref it) u) (fun _ s2=>∃ x H',Inv X pins σ H' s2 /\ RelV x u /\ J.yld i H x H' /\ tn (i + 1) s2.heap /\ ∀ b ∈ fp,H' b = none) E s1) E s
  done:∀ (X:Cx),X.prog = P -> X.w = w -> X.K = K -> X.calm = true -> ∀ (i:Nat) (pins:List (Addr × Obj)) (s:Shared) (σ:St) (H:Hp) (E:Value -> Shared -> Prop),Inv X pins σ H s -> (∀ b ∈ fp,FpOk X pins H b) -> tn i s.heap -> J.stop i H ->
    wpAny (model P w) X.A (pyNext (.ref it)) (fun r s1=>r = none /\ Inv X pins σ H s1) E s
  self:∀ (A:Around) (i:Nat) (s:Shared) (Q:Value -> Shared -> Prop) (E:Value -> Shared -> Prop),tn i s.heap -> Q (.ref it) s -> wpAny (model P w) A (pyIter (.ref it)) Q E s
abbrev TI:=St -> Hp -> (It -> Hp -> Prop) -> Prop
def PIE (X:Cx) (pins:List (Addr × Obj)) (σ:St) (tg:Expr) (R:It -> Hp -> Prop) (itv:Value) (s2:Shared):Prop :=
  ∃ (it:Addr) (fp:List Addr) (tn:Nat -> Heap -> Prop) (J:It) (H':Hp),itv = .ref it /\ Inv X pins σ H' s2 /\ Turn X.prog X.w X.K tg J fp it tn /\ tn 0 s2.heap /\ (∀ b ∈ fp,FpOk X pins H' b) /\ R J H'
def PI (X:Cx) (tg iter:Expr) (wi:TI):Prop :=
  ∀ (pins:List (Addr × Obj)) (s:Shared) (σ:St) (H:Hp) (R:It -> Hp -> Prop),Inv X pins σ H s -> wi σ H R ->
    wpAny (model X.prog X.w) X.A (eval iter X.env) (fun v s1=>wpAny (model X.prog X.w) X.A (pyIter v) (PIE X pins σ tg R) X.xe s1) X.xe s
theorem znL {M:Model} {A:Around} {E:Value -> Shared -> Prop} {s:Shared} {tg:Expr} {it:Addr} {u:Value} {o:Obj} {n:String} {vs:Array Value} {Q:Unit -> Shared -> Prop} (ho:s.heap.get? it = some o) (hc:o.cls = .type n) (hd:o.data = .fields vs)
    (hn:["enumerate","zip","dict_itemiterator","dict_reverseitemiterator","odict_iterator","itertools.zip_longest","itertools.pairwise"].contains n = false) (hQ:Q () s):wpAny M A (letOwnedTupleGo tg (.ref it) u) Q E s:=by
  unfold letOwnedTupleGo
  cases tg <;> first
    | exact wpAny_pure hQ
    | (cases u <;> first
        | exact wpAny_pure hQ
        | (refine wpAny_bind (wpAny_load ho ?_)
           rw [hc,hd]
           show wpAny M A (if (["enumerate","zip","dict_itemiterator","dict_reverseitemiterator","odict_iterator","itertools.zip_longest","itertools.pairwise"].contains n && vs[0]? == some (rawInt _)) = true then _ else _) Q E s
           rw [if_neg (by intro h; rw [hn,Bool.false_and] at h; cases h)]
           exact wpAny_pure hQ))
def Itl (K:PySem.W.Frag) (a:Addr):It :=
  ⟨fun i H=>∃ xs x,SqL K H a xs /\ xs[i]? = some x,fun i H x H'=>H' = H /\ ∀ xs,SqL K H a xs -> xs[i]? = some x,fun i H=>∃ xs,SqL K H a xs /\ xs.length <= i⟩
def Itt (K:PySem.W.Frag) (a:Addr):It :=
  ⟨fun i H=>∃ xs x,SqT K H a xs /\ xs[i]? = some x,fun i H x H'=>H' = H /\ ∀ xs,SqT K H a xs -> xs[i]? = some x,fun i H=>∃ xs,SqT K H a xs /\ xs.length <= i⟩
def Itr (lo:Int) (n:Nat):It:=⟨fun i _=>i < n,fun i H x H'=>H' = H /\ x = .int (lo + i),fun i _=>n <= i⟩
theorem zl8 {P:Program} {w:World} {K:PySem.W.Frag} {tg:Expr} (a it:Addr):Turn P w K tg (Itl K a) [it] it (fun i h=>h.IsListIter it a i) where
  mem:=by simp
  obj:=fun i h st b hb=>by
    have e:b = it:=by simpa using hb
    subst e
    obtain ⟨o,e,c,d⟩:=st
    exact ⟨o,e,fun v z=>by rw [d] at z; cases z⟩
  keep:=fun i h h' st k=>st.at fun o e=>k it (by simp) o e
  item:=by
    intro X hP hw hK hc i pins s σ H E I hf st hg
    subst hP hw hK
    obtain ⟨xs,x,hq,hx⟩:=hg
    obtain ⟨its,rv,p,hz⟩:=I.list hq
    obtain ⟨u,hu,ru⟩:=rv.get hx
    obtain ⟨f0,f1,f2,f3,f4,f5⟩:=hf it (by simp)
    refine wpAny_pyNext_list_item st p.isList (x:=u) (by simpa using hu) fun h' st' sb=>?_
    have I1:Inv X pins σ H { s with heap:=h' }:=I.turned (t':=s.toks) (fun b o hb e=>(sb.2 b hb).trans e) f0 f1 f3 f4 f5
    obtain ⟨o,e,c,d⟩:=id st'
    exact ⟨u,rfl,znL (s:={ s with heap:=h' }) e c d (by decide) ⟨x,H,I1,ru,⟨rfl,fun ys hy=>by rw [I.list_inj hy hq]; exact hx⟩,st',fun b hb=>(hf b hb).1⟩⟩
  done:=by
    intro X hP hw hK hc i pins s σ H E I hf st hg
    subst hP hw hK
    obtain ⟨xs,hq,hx⟩:=hg
    obtain ⟨its,rv,p,hz⟩:=I.list hq
    obtain ⟨f0,f1,f2,f3,f4,f5⟩:=hf it (by simp)
    have hl:=rv.length
    exact wpAny_pyNext_list_end (I.ok.hd hc) st p.isList (by simp; omega) fun h' eb=>⟨rfl,I.turned (t':=s.toks) (fun b o hb e=>eb b o hb e) f0 f1 f3 f4 f5⟩
  self:=fun _ _ _ _ _ st h=>wpAny_pyIter_listiter st h
theorem zlr {P:Program} {w:World} {K:PySem.W.Frag} {tg:Expr} (a it:Addr):Turn P w K tg (Itt K a) [it] it (fun i h=>h.IsTupleIter it a i) where
  mem:=by simp
  obj:=fun i h st b hb=>by
    have e:b = it:=by simpa using hb
    subst e
    obtain ⟨o,e,c,d⟩:=st
    exact ⟨o,e,fun v z=>by rw [d] at z; cases z⟩
  keep:=fun i h h' st k=>st.at fun o e=>k it (by simp) o e
  item:=by
    intro X hP hw hK hc i pins s σ H E I hf st hg
    subst hP hw hK
    obtain ⟨xs,x,hq,hx⟩:=hg
    obtain ⟨its,rv,p,hz⟩:=I.tuple hq
    obtain ⟨u,hu,ru⟩:=rv.get hx
    obtain ⟨f0,f1,f2,f3,f4,f5⟩:=hf it (by simp)
    refine wpAny_pyNext_tuple_item st (show s.heap.IsTuple a its.toArray from p) (x:=u) (by simpa using hu) fun h' st' sb=>?_
    have I1:Inv X pins σ H { s with heap:=h' }:=I.turned (t':=s.toks) (fun b o hb e=>(sb.2 b hb).trans e) f0 f1 f3 f4 f5
    obtain ⟨o,e,c,d⟩:=id st'
    exact ⟨u,rfl,znL (s:={ s with heap:=h' }) e c d (by decide) ⟨x,H,I1,ru,⟨rfl,fun ys hy=>by rw [I.tuple_inj hy hq]; exact hx⟩,st',fun b hb=>(hf b hb).1⟩⟩
  done:=by
    intro X hP hw hK hc i pins s σ H E I hf st hg
    subst hP hw hK
    obtain ⟨xs,hq,hx⟩:=hg
    obtain ⟨its,rv,p,hz⟩:=I.tuple hq
    obtain ⟨f0,f1,f2,f3,f4,f5⟩:=hf it (by simp)
    have hl:=rv.length
    exact wpAny_pyNext_tuple_end (I.ok.hd hc) st (show s.heap.IsTuple a its.toArray from p) (by simp; omega) fun h' eb=>⟨rfl,I.turned (t':=s.toks) (fun b o hb e=>eb b o hb e) f0 f1 f3 f4 f5⟩
  self:=fun _ _ _ _ _ st h=>wpAny_pyIter_tupleiter st h
theorem zkZ {P:Program} {w:World} {K:PySem.W.Frag} {tg:Expr} (it:Addr) (lo:Int) (n:Nat):Turn P w K tg (Itr lo n) [it] it (fun i h=>IsRangeIter h it (lo + (i:Nat) * 1) ((n:Int) - (i:Nat)) 1) where
  mem:=by simp
  obj:=fun i h st b hb=>by
    have e:b = it:=by simpa using hb
    subst e
    exact ⟨_,st,fun v z=>by
      have z':Data.fields _ = Data.cell v:=z
      cases z'⟩
  keep:=fun i h h' st k=>k it (by simp) _ st
  item:=by
    intro X hP hw hK hc i pins s σ H E I hf st hg
    subst hP hw hK
    obtain ⟨f0,f1,f2,f3,f4,f5⟩:=hf it (by simp)
    have W:=Walks.range (prog:=X.prog) (w:=X.w) (I.ok.hd hc) it lo 1 n
    refine W.item i s _ _ hg st fun v h' tk hv st' kk=>?_
    obtain ⟨t,rfl⟩:=hv
    have I1:Inv X pins σ H { s with heap:=h',toks:=tk }:=I.turned (fun b o hb e=>kk b o (by simpa using hb) e) f0 f1 f3 f4 f5
    refine ⟨_,rfl,znL (s:={ s with heap:=h',toks:=tk }) (n:="range_iterator") st' rfl rfl (by decide) ⟨.int (lo + i),H,I1,⟨t,?_⟩,⟨rfl,rfl⟩,st',fun b hb=>(hf b hb).1⟩⟩
    rw [Int.mul_one]
  done:=by
    intro X hP hw hK hc i pins s σ H E I hf st hg
    subst hP hw hK
    obtain ⟨f0,f1,f2,f3,f4,f5⟩:=hf it (by simp)
    exact wpAny_pyNext_range_end (I.ok.hd hc) st (by have:n <= i:=hg; omega) fun h' eb=>⟨rfl,I.turned (t':=s.toks) (fun b o hb e=>eb b o hb e) f0 f1 f3 f4 f5⟩
  self:=fun _ _ _ _ _ st h=>wpAny_pyIter_rangeiter st h
end L2
namespace L2
open PySem PySem.Spec PyProof.Rows
section
variable {X:Cx} {tg:Expr}
theorem zom {pins:List (Addr × Obj)} {σ:St} {H:Hp} {s:Shared} {R:It -> Hp -> Prop} {E:Value -> Shared -> Prop} {lo hi:Int} {t u v:Tok} {tk:Nat} (I:Inv X pins σ H s) (h1:-(2 ^ 62) <= lo) (h2:lo < 2 ^ 62) (h3:-(2 ^ 62) <= hi) (h4:hi < 2 ^ 62)
    (q:R (Itr lo (hi - lo).toNat) H):wpAny (model X.prog X.w) X.A (pyIter (.ref s.heap.objs.size)) (PIE X pins σ tg R) E { s with heap:=s.heap.push { cls:=.type "range",data:=.fields #[.int lo t,.int hi u,.int 1 v] },toks:=tk }:=by
  refine wpAny_pyIter_range (IsRange.new ..) (small_one h1 h2 h3 h4) ?_
  have I1:Inv X pins σ H { s with heap:=s.heap.push { cls:=.type "range",data:=.fields #[.int lo t,.int hi u,.int 1 v] },toks:=tk }:=I.kept fun b o e=>Heap.get?_push_of_some _ e
  refine ⟨(s.heap.push { cls:=.type "range",data:=.fields #[.int lo t,.int hi u,.int 1 v] }).objs.size,[(s.heap.push { cls:=.type "range",data:=.fields #[.int lo t,.int hi u,.int 1 v] }).objs.size],_,_,H,rfl,
    I1.kept (t':=tk) fun b o e=>Heap.get?_push_of_some _ e,zkZ _ lo (hi - lo).toNat,?_,fun b hb=>?_,q⟩
  · have e1:lo + ((0:Nat):Int) * 1 = lo:=by simp
    have e2:(((hi - lo).toNat:Nat):Int) - ((0:Nat):Int) = Builtin.Range.rangeSize lo hi 1:=by rw [rangeSize_one]; split <;> omega
    show IsRangeIter _ _ (lo + ((0:Nat):Int) * 1) ((((hi - lo).toNat:Nat):Int) - ((0:Nat):Int)) 1
    rw [e1,e2]
    exact Heap.get?_push_size _ rfl
  · have e:b = (s.heap.push { cls:=.type "range",data:=.fields #[.int lo t,.int hi u,.int 1 v] }).objs.size:=by simpa using hb
    subst e
    exact I1.fpOk (Nat.le_refl _) (I1.hok.fresh (Nat.le_refl _))
def iRng1 (ta:TA):TI:=fun σ H R=>ta σ H fun vs H1=>∃ j:Int,vs = [.int j] /\ -(2 ^ 62) <= j /\ j < 2 ^ 62 /\ R (Itr 0 j.toNat) H1
theorem zl3 {a:Expr} {ta:TA} {p pos:Pos} (hg:Gl X "range") (hm:X.mg "range" = none) (ha:PA X [a] ta) (hs:starEach [a] X.env = [(false,eval a X.env)]:=by rfl):PI X tg (.Call (.Name "range" p) [a] [] pos) (iRng1 ta):=by
  intro pins s σ H R I h
  refine Call_ (zg5 I hg hm boot_range (PyProof.Rows.callWith_type1 (thn (ha pos pins s σ H _ I h) fun us s1 ⟨vs,H1,I1,r1,q1⟩=>?_) hs rfl))
  obtain ⟨j,e,q1,q2,q⟩:=q1
  subst e
  cases r1 with
  | cons r rr =>
    cases rr
    obtain ⟨t,rfl⟩:=r
    exact call_range_1 (zom I1 (by omega) (by omega) q1 q2 (by simpa using q))
def tFor (wi:TI) (g:TG) (tb:TS):TS:=fun D σ H=>wi σ H fun J H1=>∃ W:Nat -> Nat -> St -> Hp -> Prop,(∃ m,W 0 m σ H1) /\ ∀ i m σ H,W i m σ H ->
  (J.stop i H /\ D.nx σ H) \/ (J.go i H /\ ∃ N:St -> Hp -> Prop,(∀ σ' H',N σ' H' -> ∃ m',m' < m /\ W (i + 1) m' σ' H') /\ ∀ x H',J.yld i H x H' -> g x σ H' fun σ2 H2=>tb { D with nx:=N,ct:=N,bk:=D.nx } σ2 H2)
def pinsAt (fp:List Addr) (h:Heap):List (Addr × Obj):=fp.filterMap fun b=>(h.get? b).map fun o=>(b,o)
theorem zdx {fp:List Addr} {h:Heap} {b:Addr} {o:Obj} (hb:b ∈ fp) (e:h.get? b = some o):(b,o) ∈ pinsAt fp h:=List.mem_filterMap.mpr ⟨b,hb,by rw [e]; rfl⟩
theorem znp {fp:List Addr} {h:Heap} {p:Addr × Obj} (hp:p ∈ pinsAt fp h):p.1 ∈ fp /\ h.get? p.1 = some p.2:=by
  obtain ⟨b,hb,e⟩:=List.mem_filterMap.mp hp
  cases q:h.get? b with
  | none=>rw [q] at e; cases e
  | some o =>
    rw [q] at e
    have e':(b,o) = p:=Option.some.inj e
    subst e'
    exact ⟨hb,q⟩
theorem Inv.pinned {pins:List (Addr × Obj)} {σ:St} {H:Hp} {s:Shared} {fp:List Addr} (I:Inv X pins σ H s) (hf:∀ b ∈ fp,FpOk X pins H b) (ho:∀ b ∈ fp,∃ o,s.heap.get? b = some o /\ ∀ v,o.data ≠ .cell v):Inv X (pins ++ pinsAt fp s.heap) σ H s :=
  I.pins_of fun p hp=>(List.mem_append.mp hp).elim (fun z=>I.pin p (List.mem_append_right _ z)) fun z=>by
    obtain ⟨hb,e⟩:=znp z
    obtain ⟨f0,f1,f2,_⟩:=hf p.1 hb
    obtain ⟨o,e',d⟩:=ho p.1 hb
    rw [e] at e'; cases e'
    exact ⟨e,f0,f1,f2,d⟩
theorem Inv.unpinned {pins pl:List (Addr × Obj)} {σ:St} {H:Hp} {s:Shared} (I:Inv X (pins ++ pl) σ H s):Inv X pins σ H s:=I.pins_of fun p hp=>I.pin p (List.mem_append_right _ (List.mem_append_left _ hp))
theorem zqH {iter:Expr} {body:List Stmt} {wi:TI} {g:TG} {tb:TS} {pos:Pos} (hp:PassesOwn (model X.prog X.w) X.A X.env X.xe) (hc:X.calm = true) (hi:PI X tg iter wi) (hg:PG X tg g) (hb:PSs X body tb)
    (hs:∀ x,foldedSetIterable iter X.env x = pure x:=by intro _; rfl):PS X (.For tg iter body [] pos) (tFor wi g tb):=by
  intro pins s σ H D I h
  refine wpAny_For (thn (hi pins s σ H _ I h) fun v s1 h1=>thn h1 fun itv s2 h2=>?_) hs
  obtain ⟨it,fp,tn,J,H2,e,I2,T,st2,f2,W,⟨m0,w0⟩,turn⟩:=h2
  subst e
  -- what stays true of the iterator's objects through the loop
  have stat:∀ {H':Hp},(∀ b ∈ fp,H' b = none) -> ∀ b ∈ fp,FpOk X pins H' b:=fun hn b hb=>⟨hn b hb,(f2 b hb).2⟩
  refine codeAny_forLoop_any (fun n s'=>∃ i σ' H',Inv X pins σ' H' s' /\ tn i s'.heap /\ (∀ b ∈ fp,H' b = none) /\ W i n σ' H') ?_ m0 ⟨0,σ,H2,I2,st2,fun b hb=>(f2 b hb).1,w0⟩
  rintro n s3 ⟨i,σ3,H3,I3,st3,fr3,w3⟩
  rcases turn i n σ3 H3 w3 with ⟨stop,qn⟩ | ⟨go,N,hN,step⟩
  · refine wpAny_passesOwn hp (thn (T.done X rfl rfl rfl hc i pins s3 σ3 H3 X.xe I3 (stat fr3) st3 stop) fun r s4 ⟨hr,I4⟩=>?_)
    subst hr
    exact wpAny_execs_nil ⟨σ3,H3,I4,qn⟩
  · refine wpAny_passesOwn hp (thn (T.item X rfl rfl rfl hc i pins s3 σ3 H3 X.xe I3 (stat fr3) st3 go) fun r s4 ⟨u,hr,h4⟩=>?_)
    subst hr
    refine wpAny_passesOwn hp (thn h4 fun _ s5 ⟨x,H5,I5,r5,y5,st5,fr5⟩=>?_)
    have I5':=I5.pinned (stat fr5) (T.obj _ _ st5)
    refine wpAny_passesOwn hp (thn (hg _ s5 σ3 H5 x u _ I5' r5 (step x H5 y5)) fun _ s6 ⟨σ6,H6,I6,q6⟩=>?_)
    refine wpAny_passesOwn hp (thn (hb _ s6 σ6 H6 _ I6 q6) fun f s7 q7=>?_)
    have again:∀ {σ7:St} {H7:Hp},Inv X (pins ++ pinsAt fp s5.heap) σ7 H7 s7 -> N σ7 H7 -> ∃ m,m < n /\ ∃ i σ' H',Inv X pins σ' H' s7 /\ tn i s7.heap /\ (∀ b ∈ fp,H' b = none) /\ W i m σ' H':=fun {σ7 H7} I7 n7=>by
      obtain ⟨m',hm,w7⟩:=hN σ7 H7 n7
      refine ⟨m',hm,i + 1,σ7,H7,I7.unpinned,T.keep _ _ _ st5 fun b hb o e=>(I7.pin (b,o) (List.mem_append_right _ (List.mem_append_right _ (zdx hb e)))).1,fun b hb=>?_,w7⟩
      obtain ⟨o,e,d⟩:=T.obj _ _ st5 b hb
      exact (I7.pin (b,o) (List.mem_append_right _ (List.mem_append_right _ (zdx hb e)))).2.1
    cases f with
    | next=>obtain ⟨σ7,H7,I7,n7⟩:=q7; exact again I7 n7
    | cont=>obtain ⟨σ7,H7,I7,n7⟩:=q7; exact again I7 n7
    | brk=>obtain ⟨σ7,H7,I7,q7⟩:=q7; exact ⟨σ7,H7,I7.unpinned,q7⟩
    | ret v=>obtain ⟨x7,σ7,H7,I7,r7,q7⟩:=q7; exact ⟨x7,σ7,H7,I7.unpinned,r7,q7⟩
end
end L2
namespace L2
open PySem PySem.Spec PyProof.Rows
abbrev R2:=V -> V -> Hp -> VK -> Prop
def OpR (X:Cx) (f:Value -> Value -> Sem Value) (r:R2):Prop :=
  ∀ (pins:List (Addr × Obj)) (s:Shared) (σ:St) (H:Hp) (x y:V) (v u:Value) (Q:VK),Inv X pins σ H s -> RelV x v -> RelV y u -> r x y H Q ->
    wpAny (model X.prog X.w) X.A (f v u) (EP X pins σ Q) X.xe s
def UnR (X:Cx) (f:Value -> Sem Value) (r:V -> Hp -> VK -> Prop):Prop :=
  ∀ (pins:List (Addr × Obj)) (s:Shared) (σ:St) (H:Hp) (x:V) (v:Value) (Q:VK),Inv X pins σ H s -> RelV x v -> r x H Q ->
    wpAny (model X.prog X.w) X.A (f v) (EP X pins σ Q) X.xe s
def CallR (X:Cx) (f:Value) (r:List V -> Hp -> VK -> Prop):Prop :=
  ∀ (pins:List (Addr × Obj)) (s:Shared) (σ:St) (H:Hp) (xs:List V) (us:List Value) (Q:VK),Inv X pins σ H s -> Vals xs us -> r xs H Q ->
    wpAny (model X.prog X.w) X.A (call f us) (EP X pins σ Q) X.xe s
def TruR (X:Cx) (r:V -> Hp -> (Bool -> Hp -> Prop) -> Prop):Prop :=
  ∀ (pins:List (Addr × Obj)) (s:Shared) (σ:St) (H:Hp) (x:V) (v:Value) (Q:Bool -> Hp -> Prop),Inv X pins σ H s -> RelV x v -> r x H Q ->
    wpAny (model X.prog X.w) X.A (truthy v) (TP X pins σ Q) X.xe s
def tOp (r:R2) (ta tb:TE):TE:=fun σ H Q=>ta σ H fun x H1=>tb σ H1 fun y H2=>r x y H2 Q
def tUn (r:V -> Hp -> VK -> Prop) (ta:TE):TE:=fun σ H Q=>ta σ H fun x H1=>r x H1 Q
def rI (C:Int -> Int -> Prop) (g:Int -> Int -> V):R2:=fun x y H Q=>∃ i j,x = .int i /\ y = .int j /\ C i j /\ Q (g i j) H
def rI0 (g:Int -> Int -> V):R2:=fun x y H Q=>∃ i j,x = .int i /\ y = .int j /\ Q (g i j) H
def rU (g:Int -> V):V -> Hp -> VK -> Prop:=fun x H Q=>∃ i,x = .int i /\ Q (g i) H
section
variable {X:Cx} {a b c:Expr} {ta tb tc:TE} {pos:Pos}
theorem binT (ha:PE X a ta) (hb:PE X b tb) {pins:List (Addr × Obj)} {s:Shared} {σ:St} {H:Hp} {R:V -> V -> Hp -> Prop} (I:Inv X pins σ H s)
    (h:ta σ H fun x H1=>tb σ H1 fun y H2=>R x y H2) {Q:Value -> Shared -> Prop} {f:Value -> Value -> Sem Value}
    (hf:∀ v u s2 x y H2,Inv X pins σ H2 s2 -> RelV x v -> RelV y u -> R x y H2 -> wpAny (model X.prog X.w) X.A (f v u) Q X.xe s2) :
    wpAny (model X.prog X.w) X.A (eval a X.env) (fun v s₁=>wpAny (model X.prog X.w) X.A (eval b X.env) (fun u s₂=>wpAny (model X.prog X.w) X.A (f v u) Q X.xe s₂) X.xe s₁) X.xe s:=by
  refine thn (ha pins s σ H _ I h) fun v s1 ⟨x,H1,I1,r1,q1⟩=>?_
  refine thn (hb pins s1 σ H1 _ I1 q1) fun u s2 ⟨y,H2,I2,r2,q2⟩=>?_
  exact hf v u s2 x y H2 I2 r1 r2 q2
theorem zrQ {op:Operator} {r:R2} (ho:OpR X (binaryOp op) r) (ha:PE X a ta) (hb:PE X b tb):PE X (.BinOp a op b pos) (tOp r ta tb):=by
  intro pins s σ H Q I h
  exact wpAny_BinOp (binT ha hb I h fun v u s2 x y H2 I2 rx ry q=>ho pins s2 σ H2 x y v u Q I2 rx ry q)
theorem zrG {op:UnaryOp} {r:V -> Hp -> VK -> Prop} (ho:UnR X (unaryOp op) r) (ha:PE X a ta):PE X (.UnaryOp op a pos) (tUn r ta):=by
  intro pins s σ H Q I h
  exact UnaryOp_ (thn (ha pins s σ H _ I h) fun v s1 ⟨x,H1,I1,r1,q1⟩=>ho pins s1 σ H1 x v Q I1 r1 q1)
theorem opI {f:Value -> Value -> Sem Value} {C:Int -> Int -> Prop} {g:Int -> Int -> Int}
    (rule:∀ (i j:Int) (t u:Tok) (s:Shared) (Q:Value -> Shared -> Prop) (E:Value -> Shared -> Prop),C i j -> Q (.int (g i j) s.toks) { s with toks:=s.toks + 1 } -> wpAny (model X.prog X.w) X.A (f (.int i t) (.int j u)) Q E s) :
    OpR X f (rI C fun i j=>.int (g i j)):=by
  intro pins s σ H x y v u Q I rx ry h
  obtain ⟨i,j,rfl,rfl,hc,q⟩:=h
  obtain ⟨t,rfl⟩:=rx
  obtain ⟨t',rfl⟩:=ry
  exact rule i j t t' s _ _ hc ⟨.int (g i j),H,I.tok _,⟨_,rfl⟩,q⟩
theorem opI0 {f:Value -> Value -> Sem Value} {g:Int -> Int -> Int}
    (rule:∀ (i j:Int) (t u:Tok) (s:Shared) (Q:Value -> Shared -> Prop) (E:Value -> Shared -> Prop),Q (.int (g i j) s.toks) { s with toks:=s.toks + 1 } -> wpAny (model X.prog X.w) X.A (f (.int i t) (.int j u)) Q E s) :
    OpR X f (rI0 fun i j=>.int (g i j)):=by
  intro pins s σ H x y v u Q I rx ry h
  obtain ⟨i,j,rfl,rfl,q⟩:=h
  obtain ⟨t,rfl⟩:=rx
  obtain ⟨t',rfl⟩:=ry
  exact rule i j t t' s _ _ ⟨.int (g i j),H,I.tok _,⟨_,rfl⟩,q⟩
theorem opB0 {f:Value -> Value -> Sem Value} {g:Int -> Int -> Bool}
    (rule:∀ (i j:Int) (t u:Tok) (s:Shared) (Q:Value -> Shared -> Prop) (E:Value -> Shared -> Prop),Q (.bool (g i j)) s -> wpAny (model X.prog X.w) X.A (f (.int i t) (.int j u)) Q E s) :
    OpR X f (rI0 fun i j=>.bl (g i j)):=by
  intro pins s σ H x y v u Q I rx ry h
  obtain ⟨i,j,rfl,rfl,q⟩:=h
  obtain ⟨t,rfl⟩:=rx
  obtain ⟨t',rfl⟩:=ry
  exact rule i j t t' s _ _ ⟨.bl (g i j),H,I,rfl,q⟩
def CPow (i j:Int):Prop:=0 <= j /\ j <= 1000000 /\ i.natAbs < 2 ^ 64
def CMul (i j:Int):Prop:=(-(2 ^ 64) < i /\ i < 2 ^ 64) \/ (-(2 ^ 64) < j /\ j < 2 ^ 64)
theorem CMul.ok {i j:Int} (h:CMul i j):IntMulOk i j:=by
  rcases h with ⟨h1,h2⟩ | ⟨h1,h2⟩
  · exact .of_left (intBits_le_64 h1 h2)
  · exact .of_right (intBits_le_64 h1 h2)
theorem zrH:OpR X (binaryOp .Add) (rI0 fun i j=>.int (i + j)):=opI0 fun _ _ _ _ _ _ _ q=>add_int q
theorem zqc:OpR X (binaryOp .Sub) (rI0 fun i j=>.int (i - j)):=opI0 fun _ _ _ _ _ _ _ q=>sub_int q
theorem zqS:OpR X (binaryOp .Mult) (rI CMul fun i j=>.int (i * j)):=opI fun _ _ _ _ _ _ _ hc q=>mul_int q hc.ok
theorem zqF:OpR X (binaryOp .Mod) (rI (fun _ j=>0 < j) fun i j=>.int (i % j)):=opI fun i j _ _ _ _ _ hc q=>by
  have h1:(0:Int) < j:=hc
  exact mod_int' (by omega) (by rw [Int.fmod_eq_emod_of_nonneg i (by omega)]; exact q)
theorem zq1:OpR X (binaryOp .Pow) (rI CPow fun i j=>.int (i ^ j.toNat)):=opI fun _ _ _ _ _ _ _ hc q=>pow_int_small hc.1 hc.2.1 hc.2.2 q
theorem zqh:OpR X (binaryOp .BitAnd) (rI0 fun i j=>.int (Builtin.bitAnd i j)):=opI0 fun _ _ _ _ _ _ _ q=>and_int q
theorem zrO:OpR X (binaryOp .BitOr) (rI0 fun i j=>.int (Builtin.bitOr i j)):=opI0 fun _ _ _ _ _ _ _ q=>or_int q
theorem zqn:OpR X (binaryOp .BitXor) (rI0 fun i j=>.int (Builtin.bitXor i j)):=opI0 fun _ _ _ _ _ _ _ q=>xor_int q
theorem unI {f:Value -> Sem Value} {g:Int -> Int}
    (rule:∀ (i:Int) (t:Tok) (s:Shared) (Q:Value -> Shared -> Prop) (E:Value -> Shared -> Prop),Q (.int (g i) s.toks) { s with toks:=s.toks + 1 } -> wpAny (model X.prog X.w) X.A (f (.int i t)) Q E s) :
    UnR X f (rU fun i=>.int (g i)):=by
  intro pins s σ H x v Q I rx h
  obtain ⟨i,rfl,q⟩:=h
  obtain ⟨t,rfl⟩:=rx
  exact rule i t s _ _ ⟨.int (g i),H,I.tok _,⟨_,rfl⟩,q⟩
theorem zoE:UnR X (unaryOp .USub) (rU fun i=>.int (-i)):=unI fun _ _ _ _ _ q=>neg_int q
theorem zmZ:OpR X (binaryOp .Add) (fun x y H Q=>∃ i k,x = .int i /\ y = .bl k /\ Q (.int (i + b2i k)) H):=by
  intro pins s σ H x y v u Q I rx ry h
  obtain ⟨i,k,rfl,rfl,q⟩:=h
  obtain ⟨t,rfl⟩:=rx
  cases ry
  exact add_int_bool ⟨.int (i + b2i k),H,I.tok _,⟨_,rfl⟩,q⟩
end
section
variable {X:Cx} {a b c:Expr} {ta tb tc:TE} {pos:Pos}
theorem zlY {pins:List (Addr × Obj)} {σ:St} {H:Hp} {s:Shared} {Q:VK} {k k':Bool} (I:Inv X pins σ H s) (q:Q (.bl k) H) (e:k = k'):EP X pins σ Q (.bool k') s:=by
  subst e
  exact ⟨.bl k,H,I,rfl,q⟩
theorem zrY:OpR X (compareOp .Lt) (rI0 fun i j=>.bl (decide (i < j))):=opB0 fun _ _ _ _ _ _ _ q=>lt_int q
theorem zrM:OpR X (compareOp .LtE) (rI0 fun i j=>.bl (decide (i <= j))):=opB0 fun _ _ _ _ _ _ _ q=>le_int q
theorem zr6:OpR X (compareOp .Gt) (rI0 fun i j=>.bl (decide (j < i))):=opB0 fun _ _ _ _ _ _ _ q=>gt_int q
theorem zrN:OpR X (compareOp .GtE) (rI0 fun i j=>.bl (decide (j <= i))):=opB0 fun _ _ _ _ _ _ _ q=>ge_int q
theorem zmI:OpR X (compareOp .In) (fun x y H Q=>∃ i j,x = .str i /\ y = .str j /\ Q (.bl (!(Builtin.Str.occurrences j i 0 j.length 1).isEmpty)) H):=by
  intro pins s σ H x y v u Q I rx ry h
  obtain ⟨i,j,rfl,rfl,q⟩:=h
  obtain ⟨t,rfl⟩:=rx
  obtain ⟨t',rfl⟩:=ry
  exact in_str (zlY I q rfl)
theorem zqg:OpR X (compareOp .Is) (fun x y H Q=>y = .non /\ Q (.bl (decide (x = .non))) H):=by
  intro pins s σ H x y v u Q I rx ry h
  obtain ⟨rfl,q⟩:=h
  cases ry
  refine is_none_gen (zlY I q ?_)
  cases x <;> first
    | (cases rx; rfl)
    | (obtain ⟨t,rfl⟩:=rx; rfl)
theorem ziH:OpR X (compareOp .NotIn) (fun x y H Q=>∃ i j,x = .str i /\ y = .str j /\ Q (.bl (!(!(Builtin.Str.occurrences j i 0 j.length 1).isEmpty))) H):=by
  intro pins s σ H x y v u Q I rx ry h
  obtain ⟨i,j,rfl,rfl,q⟩:=h
  obtain ⟨t,rfl⟩:=rx
  obtain ⟨t',rfl⟩:=ry
  exact notIn_str (zlY I q rfl)
theorem nomark (b:Expr) {op:CmpOp} (h:op ≠ .In:=by decide) (h2:op ≠ .NotIn:=by decide):behindInMarks op b = false:=by
  have e1:(op == CmpOp.In) = false:=by cases op <;> first | rfl | exact absurd rfl h
  have e2:(op == CmpOp.NotIn) = false:=by cases op <;> first | rfl | exact absurd rfl h2
  cases b <;> simp [behindInMarks,e1,e2]
theorem zo8 {op:CmpOp} {r:R2} (ho:OpR X (compareOp op) r) (ha:PE X a ta) (hb:PE X b tb) (hm:behindInMarks op b = false):PE X (.Compare a [op] [b] pos) (tOp r ta tb):=by
  intro pins s σ H Q I h
  exact wpAny_Compare1 (binT ha hb I h fun v u s2 x y H2 I2 rx ry q=>ho pins s2 σ H2 x y v u Q I2 rx ry q) hm
def tTest (t:TE):TT:=fun σ H Q=>t σ H fun x H'=>∃ k,x = .bl k /\ Q k H'
theorem zpp {op:CmpOp} {r:R2} (ho:OpR X (compareOp op) r) (ha:PE X a ta) (hb:PE X b tb) (hm:behindInMarks op b = false):PT X (.Compare a [op] [b] pos) (tTest (tOp r ta tb)):=by
  intro pins s σ H Q I h
  refine wpAny_isTrue_Compare1 (thn (ha pins s σ H _ I h) fun v s1 ⟨x,H1,I1,r1,q1⟩=>thn (hb pins s1 σ H1 _ I1 q1) fun u s2 ⟨y,H2,I2,r2,q2⟩ =>
    thn (ho pins s2 σ H2 x y v u _ I2 r1 r2 q2) fun c s3 ⟨z,H3,I3,r3,k,e,q3⟩=>?_) hm
  subst e
  cases r3
  exact wpAny_truthy_bool ⟨H3,I3,q3⟩
def tChain (r r':R2) (ta tb tc:TE):TE:=fun σ H Q=>ta σ H fun x H1=>tb σ H1 fun y H2=>r x y H2 fun z H3=>∃ k,z = .bl k /\
  (if k = true then tc σ H3 fun w' H4=>r' y w' H4 Q else Q (.bl false) H3)
theorem znz {op op':CmpOp} {r r':R2} (ho:OpR X (compareOp op) r) (ho':OpR X (compareOp op') r') (ha:PE X a ta) (hb:PE X b tb) (hc:PE X c tc)
    (hm:lastMarks [op,op'] [b,c] = false:=by with_unfolding_all rfl):PE X (.Compare a [op,op'] [b,c] pos) (tChain r r' ta tb tc):=by
  intro pins s σ H Q I h
  refine Compare_chain (thn (ha pins s σ H _ I h) fun v s1 ⟨x,H1,I1,r1,q1⟩=>chain_link (thn (hb pins s1 σ H1 _ I1 q1) fun u s2 ⟨y,H2,I2,r2,q2⟩ =>
    thn (ho pins s2 σ H2 x y v u _ I2 r1 r2 q2) fun d s3 ⟨z,H3,I3,r3,k,e,q3⟩=>?_)) hm
  subst e
  cases r3
  refine wpAny_truthy_bool ?_
  cases k with
  | false=>exact ite_ff ⟨.bl false,H3,I3,rfl,q3⟩
  | true=>exact ite_tt (chain_last (thn (hc pins s3 σ H3 _ I3 q3) fun w' s4 ⟨z',H4,I4,r4,q4⟩=>ho' pins s4 σ H4 y z' u w' Q I4 r2 r4 q4))
theorem znK {op op':CmpOp} {r r':R2} (ho:OpR X (compareOp op) r) (ho':OpR X (compareOp op') r') (ha:PE X a ta) (hb:PE X b tb) (hc:PE X c tc)
    (hm:lastMarks [op,op'] [b,c] = false:=by with_unfolding_all rfl):PT X (.Compare a [op,op'] [b,c] pos) (tTest (tChain r r' ta tb tc)):=by
  intro pins s σ H Q I h
  refine isTrue_chain (thn (ha pins s σ H _ I h) fun v s1 ⟨x,H1,I1,r1,q1⟩=>test_link (thn (hb pins s1 σ H1 _ I1 q1) fun u s2 ⟨y,H2,I2,r2,q2⟩ =>
    thn (ho pins s2 σ H2 x y v u _ I2 r1 r2 q2) fun d s3 ⟨z,H3,I3,r3,k,e,q3⟩=>?_)) hm
  subst e
  cases r3
  refine wpAny_truthy_bool ?_
  cases k with
  | false =>
    obtain ⟨k',e',q'⟩:=q3
    cases e'
    exact ite_ff ⟨H3,I3,q'⟩
  | true =>
    refine ite_tt (test_last (thn (hc pins s3 σ H3 _ I3 q3) fun w' s4 ⟨z',H4,I4,r4,q4⟩=>thn (ho' pins s4 σ H4 y z' u w' _ I4 r2 r4 q4) fun d' s5 ⟨z2,H5,I5,r5,k2,e2,q5⟩=>?_))
    subst e2
    cases r5
    exact wpAny_truthy_bool ⟨H5,I5,q5⟩
def TruV (K:PySem.W.Frag) (x:V) (H:Hp) (k:Bool):Prop :=
  match x with
  | .non=>k = false
  | .bl b=>k = b
  | .int i=>k = (i != 0)
  | .str y=>y.length <= sizeLine /\ k = ((y.length:Int) != 0)
  | .byt y=>y.size <= sizeLine /\ k = ((y.size:Int) != 0)
  | .ref p=>(∃ xs,SqL K H p xs /\ k = !xs.isEmpty) \/ (∃ xs,SqT K H p xs /\ k = !xs.isEmpty) \/ ∃ kvs,H p = some (.dK kvs) /\ k = !kvs.isEmpty
  | _=>False
theorem zkP {κ:Type} {kvs:List (κ × V)} {vs:List (κ × Value)} (r:KV kvs vs):(!vs.isEmpty) = !kvs.isEmpty:=by
  cases r <;> rfl
theorem zg4 {xs:List V} {its:List Value} (r:Vals xs its):(!its.toArray.isEmpty) = !xs.isEmpty:=by
  cases r <;> simp
theorem line63:(sizeLine:Nat) < 2 ^ 63:=by rw [sizeLine_eq]; decide
theorem zrg:TruR X (fun x H Q=>∃ k,TruV X.K x H k /\ Q k H):=by
  intro pins s σ H x v Q I rx h
  obtain ⟨k,e,q⟩:=h
  have hl:=line63
  have hs:sizeLine = 16777216:=sizeLine_eq
  cases x with
  | non =>
    cases rx
    have e':k = false:=e
    subst e'
    exact truthy_none ⟨H,I,q⟩
  | bl b =>
    cases rx
    have e':k = b:=e
    subst e'
    exact wpAny_truthy_bool ⟨H,I,q⟩
  | int i =>
    obtain ⟨t,rfl⟩:=rx
    have e':k = (i != 0):=e
    subst e'
    exact PySem.P.truthy_int ⟨H,I,q⟩
  | str y =>
    obtain ⟨t,rfl⟩:=rx
    obtain ⟨hy,e'⟩:y.length <= sizeLine /\ k = ((y.length:Int) != 0):=e
    subst e'
    exact PySem.P.truthy_str (by omega) ⟨H,I.tok _,q⟩
  | byt y =>
    obtain ⟨t,rfl⟩:=rx
    obtain ⟨hy,e'⟩:y.size <= sizeLine /\ k = ((y.size:Int) != 0):=e
    subst e'
    exact PySem.W.truthy_bytes (by omega) ⟨H,I.tok _,q⟩
  | ref p =>
    cases rx
    have e':(∃ xs,SqL X.K H p xs /\ k = !xs.isEmpty) \/ (∃ xs,SqT X.K H p xs /\ k = !xs.isEmpty) \/ ∃ kvs,H p = some (.dK kvs) /\ k = !kvs.isEmpty:=e
    rcases e' with ⟨xs,hx,e'⟩ | ⟨xs,hx,e'⟩ | ⟨kvs,hx,e'⟩
    · subst e'
      obtain ⟨its,r,pl,hz⟩:=I.list hx
      have hlen:=r.length
      exact wpAny_truthy_list pl.isList (by simp only [List.size_toArray]; omega) ⟨H,I.tok _,by rw [zg4 r]; exact q⟩
    · subst e'
      obtain ⟨its,r,pl,hz⟩:=I.tuple hx
      have hlen:=r.length
      exact truthy_tuple pl (by simp only [List.size_toArray]; omega) ⟨H,I.tok _,by rw [zg4 r]; exact q⟩
    · subst e'
      obtain ⟨hz,hS,vs,r,m⟩:kvs.length <= sizeLine /\ (p == sysModules) = false /\ ∃ vs,KV kvs vs /\ s.heap.DictOf (mixKind X.prog X.w) p vs:=I.hok p _ hx
      have hlen:kvs.length = vs.length:=Paired.length r
      exact wpAny_truthy_dict hS m (by omega) ⟨H,I.tok _,by rw [zkP r]; exact q⟩
  | _=>exact (show False from e).elim
theorem znB (ha:PE X a ta) (he:∀ whole,isTrue a X.env whole = (do let v <- whole; standAt a.pos; holding [v] (truthy v))) :
    PT X a (fun σ H Q=>ta σ H fun x H'=>∃ k,TruV X.K x H' k /\ Q k H'):=by
  intro pins s σ H Q I h
  exact isTrue_plain (thn (ha pins s σ H _ I h) fun v s1 ⟨x,H1,I1,r1,q1⟩=>zrg pins s1 σ H1 x v Q I1 r1 q1) (he _)
theorem zlm:OpR X (binaryOp .Add) (fun x y H Q=>∃ i j,x = .str i /\ y = .str j /\ i.length + j.length <= sizeLine /\ Q (.str (i ++ j)) H):=by
  intro pins s σ H x y v u Q I rx ry h
  obtain ⟨i,j,rfl,rfl,hz,q⟩:=h
  obtain ⟨t,rfl⟩:=rx
  obtain ⟨t',rfl⟩:=ry
  exact add_str (fun t' tk=>⟨.str (i ++ j),H,I.tok _,⟨_,rfl⟩,q⟩) hz
theorem vals1 {x:V} {us:List Value} (r:Vals [x] us):∃ u,us = [u] /\ RelV x u:=by
  cases r with
  | cons r1 r2=>cases r2; exact ⟨_,rfl,r1⟩
theorem vals2 {x y:V} {us:List Value} (r:Vals [x,y] us):∃ u w',us = [u,w'] /\ RelV x u /\ RelV y w':=by
  cases r with
  | cons r1 r2 =>
    cases r2 with
    | cons r3 r4=>cases r4; exact ⟨_,_,rfl,r1,r3⟩
theorem znY:CallR X (.builtin "abs") (fun xs H Q=>∃ i,xs = [.int i] /\ Q (.int (if i < 0 then -i else i)) H):=by
  intro pins s σ H xs us Q I r h
  obtain ⟨i,rfl,q⟩:=h
  obtain ⟨u,rfl,t,rfl⟩:=vals1 r
  exact call_abs_int fun u tk=>⟨.int (if i < 0 then -i else i),H,I.tok _,⟨_,rfl⟩,q⟩
theorem znh (hc:X.calm = true):CallR X (.builtin "max") (fun xs H Q=>∃ i j,xs = [.int i,.int j] /\ Q (.int (if j > i then j else i)) H):=by
  intro pins s σ H xs us Q I r h
  obtain ⟨i,j,rfl,q⟩:=h
  obtain ⟨u,w',rfl,⟨t,rfl⟩,⟨t',rfl⟩⟩:=vals2 r
  refine max_two_ints (I.ok.hd hc) fun h' tk k=>⟨_,H,I.kept k,?_,q⟩
  by_cases hj:j > i
  · rw [if_pos hj,if_pos hj]; exact ⟨_,rfl⟩
  · rw [if_neg hj,if_neg hj]; exact ⟨_,rfl⟩
theorem zmw (hc:X.calm = true):CallR X (.builtin "min") (fun xs H Q=>∃ i j,xs = [.int i,.int j] /\ Q (.int (if j < i then j else i)) H):=by
  intro pins s σ H xs us Q I r h
  obtain ⟨i,j,rfl,q⟩:=h
  obtain ⟨u,w',rfl,⟨t,rfl⟩,⟨t',rfl⟩⟩:=vals2 r
  refine min_two_ints (I.ok.hd hc) fun h' tk k=>⟨_,H,I.kept k,?_,q⟩
  by_cases hj:j < i
  · rw [if_pos hj,if_pos hj]; exact ⟨_,rfl⟩
  · rw [if_neg hj,if_neg hj]; exact ⟨_,rfl⟩
theorem ziR:CallR X (.type "int") (fun xs H Q=>(∃ i,xs = [.int i] /\ Q (.int i) H) \/ ∃ k,xs = [.bl k] /\ Q (.int (if k then 1 else 0)) H):=by
  intro pins s σ H xs us Q I r h
  rcases h with ⟨i,rfl,q⟩ | ⟨k,rfl,q⟩
  · obtain ⟨u,rfl,t,rfl⟩:=vals1 r
    exact call_int_int ⟨.int i,H,I,⟨_,rfl⟩,q⟩
  · obtain ⟨u,rfl,r1⟩:=vals1 r
    cases r1
    exact call_int_bool ⟨.int (if k then 1 else 0),H,I.tok _,⟨_,rfl⟩,q⟩
end
end L2
namespace L2
open PySem PySem.Spec PyProof.Rows
section
variable {prog:Program} {w:World} {A:Around} {E:Value -> Shared -> Prop} {s:Shared} {K:PySem.W.Frag} {x dx C f:Addr} {mA:Str -> Option Value} {name:Str} {v:Value}
end
section
variable {P:Program} {w:World} {H H':Hp} {h h':Heap} {a C dx:Addr} {fs fs':List (Str × V)}
end
section
variable {X:Cx} {pins:List (Addr × Obj)} {σ:St} {H:Hp} {s:Shared} {a C dx:Addr} {fs:List (Str × V)} {f:Str} {v:V} {A:Around} {E:Value -> Shared -> Prop}
end
section
variable {X:Cx} {o e value:Expr} {f:Str} {pos pos' tpos:Pos} {ta tv:TE}
end
section
variable {X:Cx} {pins:List (Addr × Obj)} {σ:St} {H:Hp} {s:Shared} {A:Around} {E:Value -> Shared -> Prop} {Q:Value -> Shared -> Prop} {c:Value} {b:Bool}
end
end L2
namespace L2
open PySem PySem.Spec PyProof.Rows
structure Room (k:Nat) (A:Around):Prop where
  hd:A.handled = none
  dp:A.depth + 3 * k + 5 < recursionLimit
  un:A.units + 16 * k + 200 < cLine
theorem Room.deeper {k:Nat} {A:Around} (r:Room (k + 1) A) (env:Env):Room k (A.deeper env) :=
  ⟨r.hd,by have:=r.dp; show A.depth + 1 + 3 * k + 5 < _; omega,by have:=r.un; show A.units + 3 + 16 * k + 200 < _; omega⟩
theorem Room.depth {k:Nat} {A:Around} (r:Room k A):A.depth < recursionLimit:=by have:=r.dp; omega
theorem Room.units {k:Nat} {A:Around} (r:Room k A):A.units + 64 < cLine:=by have:=r.un; omega
def tNil:TA:=fun _ H Q=>Q [] H
def tCons (ta:TE) (tr:TA):TA:=fun σ H Q=>ta σ H fun x H1=>tr σ H1 fun xs H2=>Q (x :: xs) H2
section
variable {X:Cx} {e:Expr} {es:List Expr} {te:TE} {t:TA} {pos:Pos}
theorem pa_nil:PA X [] tNil:=fun _ _ _ _ H Q I h=>Calls.spliced_nil ⟨[],H,I,.nil,h⟩
theorem zde (ha:PE X e te) (hr:PA X es t) (hs:starEach (e :: es) X.env = (false,eval e X.env) :: starEach es X.env:=by rfl):PA X (e :: es) (tCons te t):=by
  intro pos pins s σ H Q I h
  rw [hs]
  show wpAny _ _ (spliced ((false,eval e X.env) :: backTo pos (starEach es X.env))) _ _ s
  refine Calls.spliced_cons (thn (ha pins s σ H _ I h) fun u s1 ⟨x,H1,I1,r1,q1⟩=>?_)
  exact thn (hr pos pins s1 σ H1 _ I1 q1) fun us s2 ⟨xs,H2,I2,r2,q2⟩=>⟨x :: xs,H2,I2,.cons r1 r2,q2⟩
def tTup (t:TA):TE:=fun σ H Q=>t σ H fun xs H1=>xs.length <= sizeLine /\ ∀ p,H1 p = none -> Q (.ref p) (upd H1 p (.tup xs))
def tLst (t:TA):TE:=fun σ H Q=>t σ H fun xs H1=>xs.length <= sizeLine /\ ∀ p,H1 p = none -> Q (.ref p) (upd H1 p (.lst xs))
theorem zqx {x1} (h:PA X es t):PE X (.Tuple es x1 pos) (tTup t):=by
  intro pins s σ H Q I hq
  refine wpAny_Tuple_spliced (thn (h pos pins s σ H _ I hq) fun us s1 ⟨xs,H1,I1,r,z,q⟩=>⟨by rw [<- r.length]; exact z,?_⟩)
  have hf:H1 s1.heap.objs.size = none:=I1.hok.fresh (Nat.le_refl _)
  refine ⟨.ref s1.heap.objs.size,upd H1 s1.heap.objs.size (.tup xs),I1.laid (t':=s1.toks) (fun b u e=>Heap.get?_push_of_some _ e) (Nat.le_refl _) ?_,rfl,q _ hf⟩
  exact ⟨z,us,r,⟨_,Heap.get?_push_size _ rfl,rfl,_,rfl⟩⟩
theorem zoS (h:PA X es t):PE X (.List es pos) (tLst t):=by
  intro pins s σ H Q I hq
  refine wpAny_List_spliced (thn (h pos pins s σ H _ I hq) fun us s1 ⟨xs,H1,I1,r,z,q⟩=>⟨by rw [<- r.length]; exact z,?_⟩)
  have hf:H1 s1.heap.objs.size = none:=I1.hok.fresh (Nat.le_refl _)
  refine ⟨.ref s1.heap.objs.size,upd H1 s1.heap.objs.size (.lst xs),I1.laid (t':=s1.toks) (fun b u e=>Heap.get?_push_of_some _ e) (Nat.le_refl _) ?_,rfl,q _ hf⟩
  exact ⟨z,us,0,r,Heap.get?_push_size _ rfl⟩
end
abbrev Sp:=List V -> Hp -> VK -> XK -> Prop
abbrev CXT:=List Env -> Hp -> Shared -> XK -> Value -> Shared -> Prop
structure Env0 (P:Program) (w:World) (K:PySem.W.Frag) (mg:Str -> Option Value) (base:Heap) (A:Around) (outer:List Env) (s:Shared) (H:Hp):Prop where
  frames:A.frames = some outer
  mod:Mod K mg base
  bs:∀ b o,base.get? b = some o -> s.heap.get? b = some o /\ H b = none
  bsz:base.objs.size <= s.heap.objs.size
  funs:s.heap.FunFrames base outer
  frf:∀ b ∈ frs outer,H b = none
  hok:HOk P w H s.heap
  bare:AllBare s.gens
def CE (outer:List Env) (P:Program) (w:World) (H:Hp) (s:Shared) (Q:VK) (u:Value) (s':Shared):Prop :=
  ∃ v H',s'.os = s.os /\ AllBare s'.gens /\ Un (frs outer) [] H H' s.heap s'.heap /\ HOk P w H' s'.heap /\ RelV v u /\ Q v H'
def CR (CX:CXT) (outer:List Env) (P:Program) (w:World) (H:Hp) (s:Shared) (Q:VK) (E:XK) (r:Result) (s':Shared):Prop :=
  match r with
  | .ok (.ret u)=>CE outer P w H s Q u s'
  | .ok _=>False
  | .error e=>CX outer H s E e s'
structure FnOk (P:Program) (w:World) (K:PySem.W.Frag) (mg:Str -> Option Value) (base:Heap) (CX:CXT) (k:Nat) (f:Addr) (fd:FuncData) (ps:List Str) (sp:Sp):Prop where
  len:∀ vs H Q E,sp vs H Q E -> vs.length = ps.length
  run:∀ (A:Around) (outer:List Env) (s:Shared) (H:Hp) (args:Args) (us:List Value) (vs:List V) (Q:VK) (E:XK),Room k A -> Env0 P w K mg base A outer s H -> BindsTo s fd args (ps.zip us) -> Vals vs us -> sp vs H Q E ->
    codeAny (model P w) A (.call (.ref f) args) (CR CX outer P w H s Q E) s
section
variable {X:Cx} {pins:List (Addr × Obj)} {σ:St} {H:Hp} {s s':Shared}
theorem Inv.env0 (I:Inv X pins σ H s):Env0 X.prog X.w X.K X.mg X.base X.A X.stack s H :=
  ⟨I.ok.frames,I.ok.mod,I.bs,Nat.le_trans I.ok.bsz I.sz,I.stack,I.stkFree,I.hok,I.bare⟩
theorem Inv.after {Q:VK} {u:Value} (I:Inv X pins σ H s) (h:CE X.stack X.prog X.w H s Q u s'):EP X pins σ Q u s':=by
  obtain ⟨v,H',os,bare,un,hok,r,q⟩:=h
  obtain ⟨hh,g,d,t,os'⟩:=s'
  obtain rfl:os' = s.os:=os
  exact ⟨v,H',I.call (h':=hh) (g':=g) (d':=d) (t':=t) (ch:=[]) un hok bare (fun b z=>absurd z (by simp)),r,q⟩
end
def Binds (K:PySem.W.Frag) (fd:FuncData) (ps:List Str) (ds:List Value):Prop :=
  ∀ (s:Shared) (us:List Value),K.In s.heap -> (us ++ ds).length = ps.length -> BindsTo s fd ⟨us,[]⟩ (ps.zip (us ++ ds))
theorem Binds.all {K:PySem.W.Frag} {fd:FuncData} {ps:List Str} (h:∀ us:List Value,us.length = ps.length -> bindArgs fd ⟨us,[]⟩ = pure (ps.zip us)):Binds K fd ps []:=fun s us _ hl=>by
  rw [List.append_nil] at hl ⊢
  exact .of_eq (h us hl)
def Passes (CX:CXT) (X:Cx) (E:XK):Prop:=∀ (pins:List (Addr × Obj)) (σ:St) (H:Hp) (s:Shared) (e:Value) (s':Shared),Inv X pins σ H s -> CX X.stack H s E e s' -> X.xe e s'
section
variable {X:Cx} {CX:CXT} {k:Nat} {f C:Addr} {fd:FuncData} {ps:List Str} {sp:Sp} {dvs:List V} {ds:List Value} {E:XK} {x m:Str} {p pos apos:Pos} {e o:Expr} {es:List Expr} {ta:TE} {t:TA}
end
def PK (X:Cx) (kws:List Keyword) (t:TA):Prop :=
  ∀ (pos:Pos) (pins:List (Addr × Obj)) (s:Shared) (σ:St) (H:Hp) (Q:List V -> Hp -> Prop),Inv X pins σ H s -> t σ H Q -> wpAny (model X.prog X.w) X.A (evalAll ((backToKw pos (keywordEach kws X.env)).map (·.2))) (AP X pins σ Q) X.xe s
section
variable {X:Cx} {CX:CXT} {k:Nat} {f C:Addr} {fd:FuncData} {ps ks:List Str} {sp:Sp} {E:XK} {x m:Str} {p pos apos kpos:Pos} {e o:Expr} {es:List Expr} {kws:List Keyword} {te ta:TE} {t tk:TA} {nm:Option Str}
theorem pk_nil:PK X [] tNil:=fun _ _ _ _ H Q I h=>wpAny_evalAll_nil ⟨[],H,I,.nil,h⟩
theorem zp0 (ha:PE X e te) (hr:PK X kws t):PK X (⟨nm,e,kpos⟩ :: kws) (tCons te t):=by
  intro pos pins s σ H Q I h
  show wpAny _ _ (evalAll ((do let v <- eval e X.env; standAt pos; pure v) :: (backToKw pos (keywordEach kws X.env)).map (·.2))) _ _ s
  refine wpAny_evalAll_cons (wpAny_bind (thn (ha pins s σ H _ I h) fun u s1 ⟨x,H1,I1,r1,q1⟩=>wpAny_bind (wpAny_standAt (wpAny_pure ?_))))
  exact thn (hr pos pins s1 σ H1 _ I1 q1) fun us s2 ⟨xs,H2,I2,r2,q2⟩=>⟨x :: xs,H2,I2,.cons r1 r2,q2⟩
structure KBinds (K:PySem.W.Frag) (fd:FuncData) (ps ks:List Str) (g:List Value -> List Value -> List Value) (gV:List V -> List V -> List V):Prop where
  to:∀ (s:Shared) (us ws:List Value),K.In s.heap -> (g us ws).length = ps.length -> BindsTo s fd ⟨us,ks.zip ws⟩ (ps.zip (g us ws))
  rel:∀ {vs:List V} {us:List Value} {zs:List V} {ws:List Value},Vals vs us -> Vals zs ws -> Vals (gV vs zs) (g us ws)
variable {g:List Value -> List Value -> List Value} {gV:List V -> List V -> List V}
end
structure FnScope (N P:List Str) (sc:Scope):Prop where
  kind:sc.kind = .function
  co:sc.isCoroutine = false
  gen:sc.isGenerator = false
  nd:N.Nodup
  pre:N.take P.length = P
  par:∀ x ∈ P,sc.names.lookup x = some .local \/ sc.names.lookup x = some .cell
  nofree:∀ y ∈ sc.names,y.2 ≠ .free
theorem zi0 {kindOf:Str -> Option NameKind} {x:Str}:∀ {binds:List (Str × Value)} {m:Str -> Option Value},(∀ v,(x,v) ∉ binds) -> bindL kindOf binds m x = m x
  | [],_,_=>rfl
  | (n,v) :: r,m,h=>by
    unfold bindL
    rw [zi0 fun w hw=>h w (List.mem_cons_of_mem _ hw)]
    split
    · have:x ≠ n:=by rintro rfl; exact h v List.mem_cons_self
      simp [this]
    · rfl
theorem zh2 {kindOf:Str -> Option NameKind} {x:Str}:∀ {binds:List (Str × Value)} {m:Str -> Option Value},(∀ v,(x,v) ∉ binds) -> bindC kindOf binds m x = m x
  | [],_,_=>rfl
  | (n,v) :: r,m,h=>by
    unfold bindC
    rw [zh2 fun w hw=>h w (List.mem_cons_of_mem _ hw)]
    split
    · rfl
    · have:x ≠ n:=by rintro rfl; exact h v List.mem_cons_self
      simp [this]
theorem zio {kindOf:Str -> Option NameKind} {x:Str} {v:Value}:∀ {P:List Str} {vs:List Value} {i:Nat} {m:Str -> Option Value},P.Nodup -> P[i]? = some x -> vs[i]? = some v -> kindOf x = some .local ->
    bindL kindOf (P.zip vs) m x = some v
  | [],_,_,_,_,h,_,_=>by simp at h
  | _ :: _,[],_,_,_,_,h,_=>by simp at h
  | p :: P,w :: vs,0,m,nd,h1,h2,hk=>by
    simp at h1 h2; subst h1; subst h2
    show bindL kindOf ((p,w) :: P.zip vs) m p = _
    unfold bindL
    rw [zi0 fun v hv=>(List.nodup_cons.mp nd).1 (List.of_mem_zip hv).1,if_pos hk]
    simp
  | p :: P,w :: vs,i + 1,m,nd,h1,h2,hk=>by
    show bindL kindOf ((p,w) :: P.zip vs) m x = _
    unfold bindL
    exact zio (i:=i) (List.nodup_cons.mp nd).2 (by simpa using h1) (by simpa using h2) hk
theorem ziB {kindOf:Str -> Option NameKind} {x:Str} {v:Value}:∀ {P:List Str} {vs:List Value} {i:Nat} {m:Str -> Option Value},P.Nodup -> P[i]? = some x -> vs[i]? = some v -> kindOf x ≠ some .local ->
    bindC kindOf (P.zip vs) m x = some v
  | [],_,_,_,_,h,_,_=>by simp at h
  | _ :: _,[],_,_,_,_,h,_=>by simp at h
  | p :: P,w :: vs,0,m,nd,h1,h2,hk=>by
    simp at h1 h2; subst h1; subst h2
    show bindC kindOf ((p,w) :: P.zip vs) m p = _
    unfold bindC
    rw [zh2 fun v hv=>(List.nodup_cons.mp nd).1 (List.of_mem_zip hv).1,if_neg hk]
    simp
  | p :: P,w :: vs,i + 1,m,nd,h1,h2,hk=>by
    show bindC kindOf ((p,w) :: P.zip vs) m x = _
    unfold bindC
    exact ziB (i:=i) (List.nodup_cons.mp nd).2 (by simpa using h1) (by simpa using h2) hk
def start (N:List Str) (vs:List V):St:=vs.map some ++ List.replicate (N.length - vs.length) none
def cxOf (CX:CXT) (P:Program) (w:World) (K:PySem.W.Frag) (mg:Str -> Option Value) (base:Heap) (N:List Str) (qual:Str) (scope:Scope) (f:Addr) (cd:Value) (A:Around) (outer:List Env) (s:Shared) (H:Hp) (E:XK):Cx where
  prog:=P
  w:=w
  K:=K
  mg:=mg
  base:=base
  A:=A.deeper (envOfC qual scope s.heap.objs.size f cd)
  N:=N
  s₀:=s
  H₀:=H
  env:=envOfC qual scope s.heap.objs.size f cd
  outer:=outer
  stack:=envOfC qual scope s.heap.objs.size f cd :: outer
  ex:=[]
  calm:=true
  fn:=fun _=>true
  pn:=[]
  xe:=fun e s'=>wpAny (model P w) (A.deeper (envOfC qual scope s.heap.objs.size f cd)) (leaving (envOfC qual scope s.heap.objs.size f cd) e) (fun _ s''=>CX outer H s E e s'') (fun e' s''=>CX outer H s E e' s'') s'
theorem zkC {sc:Scope} {n:Nat} {x:Str} (h:sc.names.lookup x = some .cell):∃ c,(cellsFrom n sc.names []).lookup x = some c:=by
  have q:=PySem.W.cellsFrom_some sc.names n [] (.inl h)
  exact Option.isSome_iff_exists.mp q
theorem zl7 {CX:CXT} {P:Program} {w:World} {K:PySem.W.Frag} {mg:Str -> Option Value} {base:Heap} {N ps:List Str} {qual:Str} {scope:Scope} {f:Addr} {cd:Value} {A:Around} {outer:List Env} {s s1:Shared} {H:Hp} {E:XK} {us:List Value} {vs:List V}
    (S:FnScope N ps scope) (hd:A.handled = none) (e0:Env0 P w K mg base A outer s H) (hl:vs.length = ps.length) (r:Vals vs us)
    (x:InCallC s s.heap.objs.size (bindL (envOfC qual scope s.heap.objs.size f cd).kindOf (ps.zip us) fun _=>none) (cellsFrom (s.heap.objs.size + 1) scope.names []) (bindC (envOfC qual scope s.heap.objs.size f cd).kindOf (ps.zip us) fun _=>none) s1) :
    Inv (cxOf CX P w K mg base N qual scope f cd A outer s H E) [] (start N vs) H s1:=by
  have hpl:ps.length <= N.length:=by have:=congrArg List.length S.pre; rw [List.length_take] at this; omega
  obtain ⟨h1,tk,rfl,hk⟩:=x.done
  have noA:∀ b:Addr,b ∉ (cxOf CX P w K mg base N qual scope f cd A outer s H E).ex:=fun b z=>absurd (show b ∈ ([]:List Addr) from z) (by simp)
  refine ⟨⟨e0.mod,S.kind,rfl,rfl,Nat.le_refl _,fun y z c h1 h2=>?_,fun y hy=>?_,fun y c _ h=>?_,fun _=>hd,Around.frames_deeper e0.frames,.inr ⟨rfl,rfl⟩,fun b z=>absurd z (noA b),e0.bs,e0.bsz,fun b _ _=>noA b,fun b z=>absurd z (noA b),e0.funs,e0.frf⟩,
    rfl,e0.bare,Un.kept hk,⟨_,x.toInCall.ns,fun i y v h1 h2 h3=>?_⟩,fun y c h=>⟨_,x.cell y c h⟩,e0.hok.fresh (Nat.le_refl _),fun y c h=>?_,fun p hp=>absurd (show p ∈ ([]:List (Addr × Obj)) from hp) (by simp),e0.hok.kept hk,?_⟩
  · exact name_of_addr x.apart (PySem.mem_of_lookup h1) (PySem.mem_of_lookup h2)
  · have hy:scope.names.lookup y = some .cell \/ scope.names.lookup y = some .free:=hy
    rcases hy with hy | hy
    · exact zkC hy
    · exact absurd rfl (S.nofree _ (PySem.mem_of_lookup hy))
  · exact Nat.le_of_lt (x.above y c (PySem.mem_of_lookup h))
  · have hi:i < vs.length:=by
      unfold start at h2
      by_cases hi:i < vs.length
      · exact hi
      · rw [List.getElem?_append_right (by simpa using hi)] at h2
        rw [List.getElem?_replicate] at h2
        split at h2 <;> cases h2
    have ha:vs[i]? = some v:=by
      unfold start at h2
      rw [List.getElem?_append_left (by simpa using hi),List.getElem?_map] at h2
      cases e:vs[i]? with
      | none=>rw [e] at h2; cases h2
      | some a=>rw [e] at h2; cases h2; rfl
    obtain ⟨u,hu,rv⟩:=r.get ha
    have hp:ps[i]? = some y:=by
      rw [<- S.pre,List.getElem?_take_of_lt (by omega)]; exact h1
    have ndP:ps.Nodup:=by rw [<- S.pre]; exact S.nd.sublist (List.take_sublist _ _)
    refine ⟨u,rv,?_⟩
    rcases S.par y (List.mem_of_getElem? hp) with k | k
    · exact .inl ⟨k,zio ndP hp hu k⟩
    · obtain ⟨c,e⟩:=zkC (n:=s.heap.objs.size + 1) k
      refine .inr ⟨.inl k,c,e,?_⟩
      have q:=x.cell y c e
      rw [ziB ndP hp hu (by show scope.names.lookup y ≠ _; rw [k]; decide)] at q
      exact q
  · exact e0.hok.fresh (Nat.le_of_lt (x.above y c (PySem.mem_of_lookup h)))
  · unfold start
    show _ = N.length
    rw [List.length_append,List.length_map,List.length_replicate]
    omega
theorem zrJ {CX:CXT} {P:Program} {w:World} {K:PySem.W.Frag} {mg:Str -> Option Value} {base:Heap} {k:Nat} {f:Addr} {name qual:Str} {params:Arguments} {body:List Stmt} {scope:Scope} {dV kV doc pm cdv ct oc:Value} {an od:Option Addr}
    {osl:Array (Option Value)} {N ps:List Str} {sp:Sp} (lk:K.lookup f = some ⟨oc,od,.func (PySem.W.fnOf name qual params body scope dV kV doc pm an cdv ct),osl⟩) (hcd:PySem.W.codeIn K cdv qual = true) (S:FnScope N ps scope)
    (len:∀ vs H Q E,sp vs H Q E -> vs.length = ps.length)
    (hbody:∀ (A:Around) (outer:List Env) (s:Shared) (H:Hp) (vs:List V) (Q:VK) (E:XK),Room k (A.deeper (envOfC qual scope s.heap.objs.size f cdv)) -> sp vs H Q E ->
      ∃ t,PSs (cxOf CX P w K mg base N qual scope f cdv A outer s H E) body t /\ t { nx:=fun _ H'=>Q .non H',rt:=Q } (start N vs) H) :
    FnOk P w K mg base CX (k + 1) f (PySem.W.fnOf name qual params body scope dV kV doc pm an cdv ct) ps sp:=by
  refine ⟨len,fun A outer s H args us vs Q E hr e0 hb r hsp=>?_⟩
  have hl:=len _ _ _ _ hsp
  have KX:K.In s.heap:=e0.mod.kin.keeps fun b o e=>(e0.bs b o e).1
  have lim:s.heap.NoLimit:=e0.mod.nolimit.keeps fun b o e=>(e0.bs b o e).1
  have hkind:∀ y ∈ ps.zip us,scope.names.lookup y.1 = some .local \/ (scope.names.lookup y.1 = some .cell /\ ((cellsFrom (s.heap.objs.size + 1) scope.names []).lookup y.1).isSome = true):=fun ⟨n,v⟩ hy=>by
    rcases S.par n (List.of_mem_zip hy).1 with q | q
    · exact .inl q
    · exact .inr ⟨q,PySem.W.cellsFrom_some _ _ _ (.inl q)⟩
  refine codeAny_call_function hr.depth (KX _ _ lk) rfl S.co S.gen rfl (PySem.W.codeRec_of KX hcd) (hb _ _ _ _ ?_)
  refine wpAny_newFunctionEnv_cells S.kind hkind fun env he s1 x=>?_
  subst he
  refine ⟨lim.keeps x.toInCall.keep,codeAny_func ?_⟩
  obtain ⟨t,ht,hq⟩:=hbody A outer s H vs Q E (hr.deeper _) hsp
  have I:Inv (cxOf CX P w K mg base N qual scope f cdv A outer s H E) [] (start N vs) H s1:=zl7 S hr.hd e0 hl r x
  refine wpAny_mono (ht [] s1 (start N vs) H _ I hq) (fun fl s' hs=>?_) fun e s' hs=>hs
  have fin:∀ {σ':St} {H':Hp} {v:V} {u:Value},Inv (cxOf CX P w K mg base N qual scope f cdv A outer s H E) [] σ' H' s' -> RelV v u -> Q v H' -> CE outer P w H s Q u s' :=
    fun {σ' H' v u} J rv q=>⟨v,H',J.os,J.bare,J.base,J.hok,rv,q⟩
  cases fl with
  | ret u =>
    obtain ⟨v,σ',H',J,rv,q⟩:=hs
    exact fin J rv q
  | next =>
    obtain ⟨σ',H',J,q⟩:=hs
    exact fin (v:=V.non) (u:=Value.none) J rfl q
  | brk =>
    obtain ⟨_,_,_,q⟩:=hs
    exact False.elim q
  | cont =>
    obtain ⟨_,_,_,q⟩:=hs
    exact False.elim q
end L2
namespace L2
open PySem PySem.Spec PyProof.Rows
section
variable {X:Cx} {x:Str} {p pos:Pos} {e:Expr} {es:List Expr} {t:TA} {id T:String} {r:List V -> Hp -> VK -> Prop}
def tCB (r:List V -> Hp -> VK -> Prop) (t:TA):TE:=fun σ H Q=>t σ H fun vs H1=>r vs H1 Q
theorem zkj (hc:CallR X (.builtin id) r) (hg:Gl X x) (hm:X.mg x = none) (hv:bootBuiltins x = some (.builtin id)) (ha:PA X (e :: es) t) (hn:x ≠ "__name__":=by decide) (hdb:(x == ("__debug__":Str)) = false:=by decide)
    (he:starEach (e :: es) X.env = (false,eval e X.env) :: starEach es X.env:=by rfl) (hpl:(backTo pos (starEach es X.env)).any (·.1) = false:=by rfl):PE X (.Call (.Name x p) (e :: es) [] pos) (tCB r t):=by
  intro pins s σ H Q I h
  refine wpAny_Call_Name_kw (zg5 I hg hm hv ?_ hn hdb)
  exact PyProof.Rows.callWith_builtin1 (thn (ha pos pins s σ H _ I h) fun us s1 ⟨vs,H1,I1,r1,q1⟩=>hc pins s1 σ H1 vs us Q I1 r1 q1) he hpl
theorem zmX (hc:CallR X (.type T) r) (hg:Gl X x) (hm:X.mg x = none) (hv:bootBuiltins x = some (.type T)) (ha:PA X (e :: es) t) (hn:x ≠ "__name__":=by decide) (hdb:(x == ("__debug__":Str)) = false:=by decide)
    (he:starEach (e :: es) X.env = (false,eval e X.env) :: starEach es X.env:=by rfl) (hpl:(backTo pos (starEach es X.env)).any (·.1) = false:=by rfl):PE X (.Call (.Name x p) (e :: es) [] pos) (tCB r t):=by
  intro pins s σ H Q I h
  refine wpAny_Call_Name_kw (zg5 I hg hm hv ?_ hn hdb)
  exact PyProof.Rows.callWith_type1 (thn (ha pos pins s σ H _ I h) fun us s1 ⟨vs,H1,I1,r1,q1⟩=>hc pins s1 σ H1 vs us Q I1 r1 q1) he hpl
end
end L2
namespace HT
open PySem PyProof.Rows
section
open PySem.SeqAt
open PySem.AutoSeq1 (wpAny_loadPart')
open PySem.MeetsSeq PySem.MeetsSeq2 PySem.MeetsSeq3
end
section
variable {prog:Program} {w:World} {A:Around} {E:Value -> Shared -> Prop} {s:Shared}
theorem cat_tup {t b:Addr} {vs ws:List Value} {Q:Value -> Shared -> Prop} (ht:IsTup s.heap t vs.toArray) (hb:IsTup s.heap b ws.toArray) (hv:vs ≠ [])
    (h1:ws = [] -> Q (.ref t) s) (h2:ws ≠ [] -> Q (.ref s.heap.objs.size) { s with heap:=s.heap.push { cls:=.type "tuple",data:=.seq (vs ++ ws).toArray } })
    (hsz:vs.length + ws.length <= sizeLine):wpAny (model prog w) A (binaryOp .Add (.ref t) (.ref b)) Q E s:=by
  obtain ⟨⟨cls,dd,data,sl⟩,ho,hc,n,hd⟩:=id ht
  obtain ⟨⟨cls2,dd2,data2,sl2⟩,ho2,hc2,n2,hd2⟩:=id hb
  simp only at hc hd hc2 hd2
  subst hc hd hc2 hd2
  have e:vs.toArray ++ ws.toArray = (vs ++ ws).toArray:=by simp
  by_cases hw:ws = []
  · exact concat_meets ⟨_,ho,rfl⟩ ⟨_,ho2,rfl⟩ noFill_tuple_add seq_tuple_add PySem.F.slot_tuple_add PySem.F.entry_tuple_add (PySem.F.args_tuple_add_2 _ _)
      (tuple_addW1 t b vs.toArray ws.toArray n n2 dd dd2 sl sl2 (by simpa using hv) (by simp [hw])) ⟨ho,ho2,h1 hw⟩
  · refine concat_meets ⟨_,ho,rfl⟩ ⟨_,ho2,rfl⟩ noFill_tuple_add seq_tuple_add PySem.F.slot_tuple_add PySem.F.entry_tuple_add (PySem.F.args_tuple_add_2 _ _)
      (tuple_addW2 t b vs.toArray ws.toArray n n2 dd dd2 sl sl2 (by simpa using hv) (by simpa using hw) (by rw [List.size_toArray,List.size_toArray]; exact hsz)) ⟨ho,ho2,?_⟩
    rw [e]
    exact h2 hw
def sIx (n d:Nat):Option Int -> Nat
  | none=>d
  | some v=>if v < 0 then (v + (n:Int)).toNat else min v.toNat n
theorem zqq (n d:Nat) (hd:d <= n) (o:Option Int):sIx n d o <= n:=by
  cases o with
  | none=>exact hd
  | some v =>
    show (if v < 0 then (v + (n:Int)).toNat else min v.toNat n) <= n
    by_cases hv:v < 0
    · rw [if_pos hv]; omega
    · rw [if_neg hv]; exact Nat.min_le_right _ _
theorem zmT (v:Int) (n d:Nat):(if v < 0 then max (v + (n:Int)) 0 else min v (n:Int)) = ((sIx n d (some v):Nat):Int):=by
  show (if v < 0 then max (v + (n:Int)) 0 else min v (n:Int)) = (((if v < 0 then (v + (n:Int)).toNat else min v.toNat n):Nat):Int)
  by_cases hv:v < 0
  · simp only [if_pos hv]; omega
  · simp only [if_neg hv]; omega
theorem zk9 (lo hi:Option Int) (n:Nat):Builtin.Slice.sliceAdjust lo hi 1 (n:Int) = (((sIx n 0 lo:Nat):Int),((sIx n n hi:Nat):Int)):=by
  have h1:¬ ((1:Int) < 0):=by omega
  unfold Builtin.Slice.sliceAdjust
  simp only [h1,if_false]
  refine Prod.ext ?_ ?_
  · cases lo with
    | none=>rfl
    | some v=>exact zmT v n 0
  · cases hi with
    | none=>rfl
    | some v=>exact zmT v n n
theorem zkX (i j:Nat):Builtin.Slice.slicePlaces (i:Int) (j:Int) 1 = j - i:=by
  unfold Builtin.Slice.slicePlaces
  have h1:(1:Int) > 0:=by omega
  simp only [h1,if_true,Int.ediv_one]
  split <;> omega
theorem zgZ {v:Value} {o:Option Int} {Q:Option Int -> Shared -> Prop} (p:IsPart v o) (h:Q o s):wpAny (model prog w) A (Builtin.Slice.slicePartIndex v) Q E s:=by
  cases p with
  | none=>exact slicePart_none h
  | int i t=>exact slicePart_int h
theorem zfy {sl:Addr} {vl vu:Value} {lo hi:Option Int} {n:Nat} {Q:Int × Int × Nat -> Shared -> Prop} (hs:s.heap.IsSliceOf sl vl vu .none) (pl:IsPart vl lo) (pu:IsPart vu hi)
    (h:Q (((sIx n 0 lo:Nat):Int),1,sIx n n hi - sIx n 0 lo) s):wpAny (model prog w) A (Builtin.Slice.sliceApplied (.ref sl) (pure (n:Int))) Q E s:=by
  obtain ⟨os,hos,hcs,hds⟩:=id hs
  unfold Builtin.Slice.sliceApplied Builtin.Slice.sliceFields
  refine wpAny_bind (wpAny_bind (wpAny_field hos hds (x:=vl) rfl (wpAny_bind (wpAny_field hos hds (x:=vu) rfl (wpAny_bind (wpAny_field hos hds (x:=.none) rfl (wpAny_pure ?_)))))))
  refine wpAny_bind (slicePart_none ?_)
  show wpAny _ _ (if ((1:Int) == 0) = true then _ else _) _ _ s
  rw [if_neg (by decide)]
  refine wpAny_bind (zgZ pl (wpAny_bind (zgZ pu (wpAny_bind (wpAny_pure ?_)))))
  show wpAny _ _ (match Builtin.Slice.sliceAdjust lo hi 1 (n:Int) with | (lo,hi)=>pure (lo,(1:Int),Builtin.Slice.slicePlaces lo hi 1)) _ _ s
  rw [zk9 lo hi n]
  show wpAny _ _ (pure (((sIx n 0 lo:Nat):Int),(1:Int),Builtin.Slice.slicePlaces ((sIx n 0 lo:Nat):Int) ((sIx n n hi:Nat):Int) 1)) _ _ s
  rw [zkX]
  exact wpAny_pure h
theorem zoy (xs:Array Value) (i k:Nat):((List.range k).filterMap fun (m:Nat)=>xs[((i:Int) + (m:Int) * 1).toNat]?).toArray = ((xs.toList.drop i).take k).toArray:=by
  have e:(fun (m:Nat)=>xs[((i:Int) + (m:Int) * 1).toNat]?) = fun m=>xs[i + m]?:=by
    funext m
    have:((i:Int) + (m:Int) * 1).toNat = i + m:=by omega
    rw [this]
  rw [e]
  have:=pick_run xs i k
  rw [List.filterMap_map] at this
  have e2:((fun x=>xs[x]?) ∘ fun x=>i + x) = fun m=>xs[i + m]?:=rfl
  rw [e2] at this
  rw [this]
theorem getItem_tuple_cut {t sl:Addr} {items:Array Value} {vl vu:Value} {lo hi:Option Int} {Q:Value -> Shared -> Prop} (ht:IsTup s.heap t items) (hs:s.heap.IsSliceOf sl vl vu .none) (pl:IsPart vl lo) (pu:IsPart vu hi)
    (hw:¬ (sIx items.size 0 lo = 0 /\ sIx items.size items.size hi = items.size))
    (h:Q (.ref s.heap.objs.size) { s with heap:=s.heap.push { cls:=.type "tuple",data:=.seq ((items.toList.drop (sIx items.size 0 lo)).take (sIx items.size items.size hi - sIx items.size 0 lo)).toArray } })
    (hsz:items.size <= sizeLine):wpAny (model prog w) A (getItem (.ref t) (.ref sl)) Q E s:=by
  have htake:sizeOk (.seq ((items.toList.drop (sIx items.size 0 lo)).take (sIx items.size items.size hi - sIx items.size 0 lo)).toArray):=by
    show ((items.toList.drop (sIx items.size 0 lo)).take (sIx items.size items.size hi - sIx items.size 0 lo)).toArray.size <= sizeLine
    rw [List.size_toArray,List.length_take,List.length_drop,Array.length_toList]
    omega
  have hj:sIx items.size items.size hi <= items.size:=zqq _ _ (Nat.le_refl _) hi
  obtain ⟨os,hos,hcs,hds⟩:=id hs
  have hTs:s.TypeIs (.ref sl) "slice":=⟨os,hos,hcs⟩
  unfold getItem
  try with_reducible refine wpAny_holding ?_
  first | refine wpAny_bind (wpAny_pure ?_) | skip
  refine wpAny_bind (wpAny_sequenceKey ht.typeIs (by decide) ?_)
  refine wpAny_bind (wpAny_callSpecial?_slot (name:=Str.ofString "__getitem__") ht.typeIs PyProof.Rows.slot_tuple_getitem
    (wpAny_call_entry PyProof.Rows.slot_tuple_getitem ht.typeIs entry_tuple_getitem ?_ (args_tuple_getitem _ _)))
  show wpAny _ _ (Builtin.Tuple.tupleItemsOf (.ref t) >>= _) _ _ s
  refine wpAny_bind (tupleItemsOf_ ht ?_)
  refine wpAny_bind (wpAny_typeOf hTs ?_)
  rw [if_pos (by decide)]
  refine wpAny_bind (zfy hs pl pu ?_)
  have hno:¬ ((((sIx items.size 0 lo:Nat):Int) == 0 && (1:Int) == 1 && (sIx items.size items.size hi - sIx items.size 0 lo) == items.size) = true):=by
    intro q
    rw [Bool.and_eq_true,Bool.and_eq_true] at q
    have q1:((sIx items.size 0 lo:Nat):Int) = 0:=eq_of_beq q.1.1
    have q2:sIx items.size items.size hi - sIx items.size 0 lo = items.size:=eq_of_beq q.2
    exact hw ⟨by omega,by omega⟩
  show wpAny _ _ (if (((sIx items.size 0 lo:Nat):Int) == 0 && (1:Int) == 1 && (sIx items.size items.size hi - sIx items.size 0 lo) == items.size) = true then _ else _) _ _ s
  rw [if_neg hno,zoy]
  first
    | exact wpAny_bind (m:=Builtin.Tuple.tupleExact _) (wpAny_newObj_type (wpAny_pure ⟨_,rfl,wpAny_pure h⟩) htake)
    | exact wpAny_bind (m:=Builtin.Tuple.tupleExact _) (wpAny_newObj_type (wpAny_bind (wpAny_pure (wpAny_pure ⟨_,rfl,wpAny_pure h⟩))) htake)
    | exact wpAny_bind (wpAny_bind (m:=Builtin.Tuple.tupleExact _) (wpAny_newObj_type (wpAny_pure (wpAny_pure ⟨_,rfl,wpAny_pure h⟩)) htake))
    | exact wpAny_bind (wpAny_bind (m:=Builtin.Tuple.tupleExact _) (wpAny_newObj_type (wpAny_pure ⟨_,rfl,wpAny_pure h⟩) htake))
end
end HT
namespace L2
open PySem PySem.Spec PyProof.Rows
abbrev TO:=St -> Hp -> (Option Int -> Hp -> Prop) -> Prop
def PO (X:Cx) (e:Option Expr) (t:TO):Prop :=
  ∀ (pins:List (Addr × Obj)) (s:Shared) (σ:St) (H:Hp) (Q:Option Int -> Hp -> Prop),Inv X pins σ H s -> t σ H Q ->
    wpAny (model X.prog X.w) X.A (evalPart e X.env) (fun u s'=>∃ o H',Inv X pins σ H' s' /\ IsPart u o /\ Q o H') X.xe s
def tNoPart:TO:=fun _ H Q=>Q none H
theorem zkV {ns:List Int}:∀ {us:List Value},Vals (ns.map V.int) us -> IntsAre us ns:=by
  induction ns with
  | nil=>intro us r; rw [List.map_nil] at r; cases r; exact .nil
  | cons n ns ih =>
    intro us r
    rw [List.map_cons] at r
    cases r with
    | cons r1 r2 =>
      obtain ⟨t,e⟩:=r1
      subst e
      exact .cons n t (ih r2)
section
variable {X:Cx} {e:Expr} {te:TE} {lo hi:Option Expr} {tl th:TO} {pos p2:Pos}
theorem zpa:PO X none tNoPart:=by
  intro pins s σ H Q I h
  rw [evalPart_none]
  exact wpAny_pure ⟨none,H,I,.none,h⟩
def SlR (X:Cx) (r:V -> Option Int -> Option Int -> Hp -> VK -> Prop):Prop :=
  ∀ (pins:List (Addr × Obj)) (s:Shared) (σ:St) (H:Hp) (x:V) (v vl vu:Value) (lo hi:Option Int) (sl:Addr) (Q:VK),Inv X pins σ H s -> RelV x v -> s.heap.IsSliceOf sl vl vu .none -> IsPart vl lo -> IsPart vu hi -> r x lo hi H Q ->
    ∃ T id,typeLookup (.type T) "__getitem__" = pure (some (.builtin id)) /\ s.TypeIs v T /\ wpAny (model X.prog X.w) X.A (getItem v (.ref sl)) (EP X pins σ Q) X.xe s
def tSl (r:V -> Option Int -> Option Int -> Hp -> VK -> Prop) (te:TE) (tl th:TO):TE:=fun σ H Q=>te σ H fun x H1=>tl σ H1 fun l H2=>th σ H2 fun u H3=>r x l u H3 Q
theorem znQ {r:V -> Option Int -> Option Int -> Hp -> VK -> Prop} (hr:SlR X r) (he:PE X e te) (hl:PO X lo tl) (hu:PO X hi th):PE X (.Subscript e (.Slice lo hi none p2) pos) (tSl r te tl th):=by
  intro pins s σ H Q I h
  refine Subscript_ (thn (he pins s σ H _ I h) fun v s1 ⟨x,H1,I1,r1,q1⟩=>?_)
  refine wpAny_Slice (thn (hl pins s1 σ H1 _ I1 q1) fun vl s2 ⟨l,H2,I2,pl,q2⟩=>thn (hu pins s2 σ H2 _ I2 q2) fun vu s3 ⟨u,H3,I3,pu,q3⟩=>?_)
  rw [evalPart_none]
  refine wpAny_pure ?_
  have I4:Inv X pins σ H3 { s3 with heap:=s3.heap.push { cls:=.type "slice",data:=.fields #[vl,vu,.none] } }:=I3.kept (t':=s3.toks) fun b ob q=>Heap.get?_push_of_some _ q
  obtain ⟨T,id,hT,ht,hg⟩:=hr pins { s3 with heap:=s3.heap.push { cls:=.type "slice",data:=.fields #[vl,vu,.none] } } σ H3 x v vl vu l u s3.heap.objs.size Q I4 r1 (Heap.IsSliceOf.new ..) pl pu q3
  show wpAny (model X.prog X.w) X.A (subscriptTail e (.Slice lo hi none p2) v (.ref s3.heap.objs.size)) (EP X pins σ Q) X.xe { s3 with heap:=s3.heap.push { cls:=.type "slice",data:=.fields #[vl,vu,.none] } }
  exact tail_any (ops:=[.ref s3.heap.objs.size,v]) ht hT hg (by with_unfolding_all rfl)
def cutV (xs:List V) (lo hi:Option Int):List V:=(xs.drop (HT.sIx xs.length 0 lo)).take (HT.sIx xs.length xs.length hi - HT.sIx xs.length 0 lo)
theorem zgF (xs:List V) (lo hi:Option Int):(cutV xs lo hi).length <= xs.length:=by
  unfold cutV
  rw [List.length_take,List.length_drop]
  omega
def rSlT (K:PySem.W.Frag):V -> Option Int -> Option Int -> Hp -> VK -> Prop:=fun x lo hi H Q=>∃ a xs,x = .ref a /\ SqT K H a xs /\
  ¬ (HT.sIx xs.length 0 lo = 0 /\ HT.sIx xs.length xs.length hi = xs.length) /\ ∀ p,H p = none -> Q (.ref p) (upd H p (.tup (cutV xs lo hi)))
theorem zrE:SlR X (rSlT X.K):=by
  intro pins s σ H x v vl vu lo hi sl Q I rx hs pl pu h
  obtain ⟨a,xs,rfl,hx,hw,q⟩:=h
  cases rx
  obtain ⟨its,r,ht,hz⟩:=I.tuple hx
  have hlen:its.toArray.size = xs.length:=by rw [List.size_toArray]; exact r.length.symm
  refine ⟨"tuple",_,PyProof.Rows.slot_tuple_getitem.lookup,ht.typeIs,?_⟩
  refine HT.getItem_tuple_cut ht hs pl pu (by rw [hlen]; exact hw) ?_ (by rw [hlen]; exact hz)
  rw [hlen]
  refine ⟨.ref s.heap.objs.size,_,I.laid (t':=s.toks) (o:=.tup (cutV xs lo hi)) (fun b ob q=>Heap.get?_push_of_some _ q) (Nat.le_refl _) ?_,rfl,q _ (I.hok.fresh (Nat.le_refl _))⟩
  exact ⟨Nat.le_trans (zgF xs lo hi) hz,_,(r.drop (HT.sIx xs.length 0 lo)).take (HT.sIx xs.length xs.length hi - HT.sIx xs.length 0 lo),IsTup.new _ _⟩
def rCatT (K:PySem.W.Frag):R2:=fun x y H Q=>∃ a b xs ys,x = .ref a /\ y = .ref b /\ SqT K H a xs /\ SqT K H b ys /\ xs ≠ [] /\ xs.length + ys.length <= sizeLine /\
  (ys = [] -> Q (.ref a) H) /\ (ys ≠ [] -> ∀ p,H p = none -> Q (.ref p) (upd H p (.tup (xs ++ ys))))
theorem Vals.nil_iff {xs:List V} {us:List Value} (r:Vals xs us):us = [] ↔ xs = []:=by
  cases r with
  | nil=>simp
  | cons _ _=>simp
theorem zpW:OpR X (binaryOp .Add) (rCatT X.K):=by
  intro pins s σ H x y v u Q I rx ry h
  obtain ⟨a,b,xs,ys,rfl,rfl,ha,hb,hx,hz,q1,q2⟩:=h
  cases rx
  cases ry
  obtain ⟨its,r1,p1,_⟩:=I.tuple ha
  obtain ⟨its2,r2,p2,_⟩:=I.tuple hb
  refine HT.cat_tup p1 p2 (fun z=>hx (r1.nil_iff.mp z)) (fun z=>⟨.ref a,H,I,rfl,q1 (r2.nil_iff.mp z)⟩) (fun z=>?_) (by rw [<- r1.length,<- r2.length]; exact hz)
  refine ⟨.ref s.heap.objs.size,_,I.laid (t':=s.toks) (o:=.tup (xs ++ ys)) (fun b ob q=>Heap.get?_push_of_some _ q) (Nat.le_refl _) ?_,rfl,q2 (fun w=>z (r2.nil_iff.mpr w)) _ (I.hok.fresh (Nat.le_refl _))⟩
  exact ⟨by rw [List.length_append]; exact hz,_,r1.append r2,IsTup.new _ _⟩
end
end L2
namespace L2
open PySem PySem.Spec PyProof.Rows
def ixN (n:Nat) (i:Int):Option Nat:=if 0 <= i then (if i < n then some i.toNat else none) else if -(n:Int) <= i then some (i + n).toNat else none
def atI {α:Type} (xs:List α) (i:Int):Option α:=(ixN xs.length i).bind fun j=>xs[j]?
theorem zmk {n:Nat} {i:Int} {j:Nat} (h:ixN n i = some j):seqIndex? i n = some j /\ j < n /\ -(n:Int) <= i /\ i < n:=by
  unfold ixN at h
  by_cases h0:0 <= i
  · rw [if_pos h0] at h
    by_cases h1:i < n
    · rw [if_pos h1] at h
      have e:i.toNat = j:=Option.some.inj h
      exact ⟨by rw [seqIndex_of h0 h1,e],by omega,by omega,h1⟩
    · rw [if_neg h1] at h; cases h
  · rw [if_neg h0] at h
    by_cases h1:-(n:Int) <= i
    · rw [if_pos h1] at h
      have e:(i + n).toNat = j:=Option.some.inj h
      exact ⟨by rw [seqIndex_neg (by omega) h1,e],by omega,h1,by omega⟩
    · rw [if_neg h1] at h; cases h
theorem zjD {α:Type} {xs:List α} {i:Int} {v:α} (h:atI xs i = some v):∃ j,seqIndex? i xs.length = some j /\ xs[j]? = some v /\ j < xs.length /\ -(xs.length:Int) <= i /\ i < xs.length:=by
  unfold atI at h
  cases e:ixN xs.length i with
  | none=>rw [e] at h; cases h
  | some j =>
    rw [e] at h
    obtain ⟨h1,h2,h3,h4⟩:=zmk e
    exact ⟨j,h1,h,h2,h3,h4⟩
def PlainIx (b:Expr):Prop:=∀ o i,subscripted b false o i = operate [o,i] (getItem o i)
def IxR (X:Cx) (r:R2):Prop :=
  ∀ (value slice:Expr) (pins:List (Addr × Obj)) (s:Shared) (σ:St) (H:Hp) (x y:V) (v u:Value) (Q:VK),Inv X pins σ H s -> RelV x v -> RelV y u -> r x y H Q ->
    subscripted slice false v u = operate [v,u] (getItem v u) -> wpAny (model X.prog X.w) X.A (subscriptTail value slice v u) (EP X pins σ Q) X.xe s
def MtR (X:Cx) (id:String) (r:V -> List V -> Hp -> VK -> Prop):Prop :=
  ∀ (pins:List (Addr × Obj)) (s:Shared) (σ:St) (H:Hp) (x:V) (xs:List V) (v:Value) (us:List Value) (Q:VK),Inv X pins σ H s -> RelV x v -> Vals xs us -> r x xs H Q ->
    wpAny (model X.prog X.w) X.A (call (.builtin id) (v :: us)) (EP X pins σ Q) X.xe s
section
variable {X:Cx} {a b:Expr} {ta tb:TE} {pos:Pos}
theorem IxR.or {r r':R2} (h:IxR X r) (h':IxR X r'):IxR X (fun x y H Q=>r x y H Q \/ r' x y H Q):=by
  intro value slice pins s σ H x y v u Q I rx ry q hs
  rcases q with q | q
  · exact h value slice pins s σ H x y v u Q I rx ry q hs
  · exact h' value slice pins s σ H x y v u Q I rx ry q hs
theorem zrZ {r:R2} (hr:IxR X r) (ha:PE X a ta) (hb:PE X b tb) (hs:PlainIx b):PE X (.Subscript a b pos) (tOp r ta tb):=by
  intro pins s σ H Q I h
  exact Subscript_ (binT ha hb I h fun v u s2 x y H2 I2 rx ry q=>hr a b pins s2 σ H2 x y v u Q I2 rx ry q (hs _ _))
def rIxL (K:PySem.W.Frag):R2:=fun x y H Q=>∃ p xs i v,x = .ref p /\ y = .int i /\ SqL K H p xs /\ atI xs i = some v /\ Q v H
def rIxT (K:PySem.W.Frag):R2:=fun x y H Q=>∃ p xs i v,x = .ref p /\ y = .int i /\ SqT K H p xs /\ atI xs i = some v /\ Q v H
def rIxS:R2:=fun x y H Q=>∃ z i c,x = .str z /\ y = .int i /\ z.length <= sizeLine /\ atI z.cps.toList i = some c /\ Q (.str ⟨#[c]⟩) H
theorem ix_list:IxR X (rIxL X.K):=by
  intro value slice pins s σ H x y v u Q I rx ry h hs
  obtain ⟨p,xs,i,z,rfl,rfl,hq,he,q⟩:=h
  cases rx
  obtain ⟨t,rfl⟩:=ry
  obtain ⟨its,r,pl,hz⟩:=I.list hq
  obtain ⟨j,h1,h2,h3,h4,h5⟩:=zjD he
  obtain ⟨w,ew,rw'⟩:=r.get h2
  have hl:=r.length
  have hn:=line63
  have fin:EP X pins σ Q w s:=⟨z,H,I,rw',q⟩
  by_cases h0:0 <= i
  · have hj:i.toNat = j:=by
      rw [seqIndex_of h0 h5] at h1
      exact Option.some.inj h1
    exact item_listR pl.isList h0 (by omega) (by rw [hj]; simpa using ew) fin hs
  · have hj:(i + (its.toArray.size:Int)).toNat = j:=by
      rw [seqIndex_neg (by omega) h4] at h1
      rw [List.size_toArray,<- hl]
      exact Option.some.inj h1
    exact subscriptTail_builtinR (x:=w) pl.isList.typeIs slot_list_getitem.lookup
      (wpAny_getItem_list_neg (Q:=fun r s'=>r = w /\ EP X pins σ Q r s') pl.isList (by omega) (by rw [List.size_toArray] <;> omega) (by omega) (by rw [hj]; simpa using ew) ⟨rfl,fin⟩) hs
theorem ix_tup:IxR X (rIxT X.K):=by
  intro value slice pins s σ H x y v u Q I rx ry h hs
  obtain ⟨p,xs,i,z,rfl,rfl,hq,he,q⟩:=h
  cases rx
  obtain ⟨t,rfl⟩:=ry
  obtain ⟨its,r,pl,hz⟩:=I.tuple hq
  obtain ⟨j,h1,h2,h3,h4,h5⟩:=zjD he
  obtain ⟨w,ew,rw'⟩:=r.get h2
  have hl:=r.length
  have hn:=line63
  have fin:EP X pins σ Q w s:=⟨z,H,I,rw',q⟩
  exact subscriptTail_builtinR (x:=w) pl.typeIs slot_tuple_getitem.lookup
    (getItem_tuple (j:=j) (Q:=fun r s'=>r = w /\ EP X pins σ Q r s') pl (by omega) (by omega) (by rw [List.size_toArray,<- hl]; exact h1) (by simpa using ew) ⟨rfl,fin⟩) hs
theorem zrf:IxR X rIxS:=by
  intro value slice pins s σ H x y v u Q I rx ry h hs
  obtain ⟨z,i,c,rfl,rfl,hz,he,q⟩:=h
  obtain ⟨t,rfl⟩:=rx
  obtain ⟨t',rfl⟩:=ry
  obtain ⟨j,h1,h2,h3,h4,h5⟩:=zjD he
  have hl:z.cps.toList.length = z.length:=by simp [Str.length]
  rw [hl] at h1 h4 h5
  have hn:=line63
  exact tail_any (typeIs_str s z t) slot_str_getitem.lookup (getItem_str (c:=c) (by
    have e1:decide (i < -(2 ^ 63:Int)) = false:=decide_eq_false (by omega)
    have e2:decide (i ≥ 2 ^ 63) = false:=decide_eq_false (by omega)
    rw [e1,e2,Bool.or_false]) (by rw [h1]; simpa using h2) ⟨.str ⟨#[c]⟩,H,I.tok _,⟨_,rfl⟩,q⟩) hs
def rIx (K:PySem.W.Frag):R2:=fun x y H Q=>rIxL K x y H Q \/ rIxT K x y H Q \/ rIxS x y H Q
theorem zkc:IxR X (rIx X.K):=ix_list.or (ix_tup.or zrf)
theorem zkL (its:List Value) (n j:Nat) (u:Value):Obj.mapSeq (·.setIfInBounds j u) { cls:=.type "list",data:=.seq its.toArray n } = { cls:=.type "list",data:=.seq (its.set j u).toArray n }:=by
  simp [Obj.mapSeq]
theorem Inv.lst {pins:List (Addr × Obj)} {σ:St} {H:Hp} {s:Shared} {p:Addr} {xs:List V} (I:Inv X pins σ H s) (h:H p = some (.lst xs)) :
    ∃ (its:List Value) (n:Nat),Vals xs its /\ s.heap.get? p = some { cls:=.type "list",data:=.seq its.toArray n } /\ xs.length <= sizeLine:=by
  obtain ⟨z,its,n,r,e⟩:=I.hok p _ h
  exact ⟨its,n,r,e,z⟩
theorem Inv.lstUpd {pins:List (Addr × Obj)} {σ:St} {H:Hp} {s:Shared} {p:Addr} {xs ys:List V} {its its':List Value} {n n':Nat} {f:Obj -> Obj} (I:Inv X pins σ H s) (h:H p = some (.lst xs))
    (ho:s.heap.get? p = some { cls:=.type "list",data:=.seq its.toArray n }) (hf:f { cls:=.type "list",data:=.seq its.toArray n } = { cls:=.type "list",data:=.seq its'.toArray n' }) (r:Vals ys its') (hz:ys.length <= sizeLine) (t:Nat) :
    Inv X pins σ (upd H p (.lst ys)) { s with heap:=s.heap.update p f,toks:=t }:=by
  have e:(s.heap.update p f).get? p = some { cls:=.type "list",data:=.seq its'.toArray n' }:=by
    rw [Heap.get?_update_self f ho (by rw [hf] <;> rfl),hf]
  refine I.write (x:=p) (e:=p) (by rw [h]; trivial) (.inl rfl) (fun b u hb q=>(Heap.get?_update_other _ _ (Ne.symm hb)).trans q) ⟨_,e⟩ ?_
  exact ⟨hz,its',n',r,e⟩
def rSetL:V -> V -> V -> Hp -> (Hp -> Prop) -> Prop:=fun o i v H Q=>∃ p xs k j,o = .ref p /\ i = .int k /\ H p = some (.lst xs) /\ ixN xs.length k = some j /\ Q (upd H p (.lst (xs.set j v)))
theorem zcK:PSet X rSetL:=by
  intro pins s σ H o i v ov iv u Q I ro ri rv h
  obtain ⟨p,xs,k,j,rfl,rfl,hp,hj,q⟩:=h
  cases ro
  obtain ⟨t,rfl⟩:=ri
  obtain ⟨its,n,r,ho,hz⟩:=I.lst hp
  obtain ⟨h1,h2,h3,h4⟩:=zmk hj
  have hl:=r.length
  have hn:=line63
  have I':Inv X pins σ (upd H p (.lst (xs.set j v))) { s with heap:=s.heap.update p (Obj.mapSeq (·.setIfInBounds j u)) } :=
    I.lstUpd hp ho (zkL its n j u) (r.set rv j) (by rw [List.length_set]; exact hz) s.toks
  by_cases h0:0 <= k
  · have hk:k.toNat = j:=by
      rw [seqIndex_of h0 h4] at h1
      exact Option.some.inj h1
    exact PySem.W.ki_setAt ho h0 (by omega) (by rw [List.size_toArray,<- hl]; exact h4) (by rw [hk]; exact ⟨_,I',q⟩)
  · have hk:(k + (its.toArray.size:Int)).toNat = j:=by
      rw [seqIndex_neg (by omega) h3] at h1
      rw [List.size_toArray,<- hl]
      exact Option.some.inj h1
    exact PySem.W.ki_setBack ho (by omega) (by rw [List.size_toArray,<- hl]; exact h3) (by omega) (by rw [hk]; exact ⟨_,I',q⟩)
theorem ziv (lo hi:Option Int) (n:Nat):(sliceBounds lo hi none n).1 = ((HT.sIx n 0 lo:Nat):Int) /\ (sliceBounds lo hi none n).2.1 = ((HT.sIx n n hi:Nat):Int) /\ (sliceBounds lo hi none n).2.2 = 1:=by
  refine ⟨?_,?_,rfl⟩
  · cases lo with
    | none=>simp [sliceBounds,HT.sIx]
    | some i =>
      simp only [sliceBounds,HT.sIx,Option.getD_none,show (1:Int) > 0 by decide,if_true]
      by_cases h:i < 0
      · simp only [h,if_true] <;> omega
      · simp only [h,if_false] <;> omega
  · cases hi with
    | none=>simp [sliceBounds,HT.sIx]
    | some i =>
      simp only [sliceBounds,HT.sIx,Option.getD_none,show (1:Int) > 0 by decide,if_true]
      by_cases h:i < 0
      · simp only [h,if_true] <;> omega
      · simp only [h,if_false] <;> omega
theorem zhp (its:List Value) (lo hi:Option Int):slicePick its.toArray lo hi none = ((its.drop (HT.sIx its.length 0 lo)).take (HT.sIx its.length its.length hi - HT.sIx its.length 0 lo)).toArray:=by
  obtain ⟨h1,h2,h3⟩:=ziv lo hi its.toArray.size
  unfold slicePick
  rw [h1,h2,h3]
  simp only [sliceRange_one,pick_run,List.size_toArray] <;> rfl
def rSlL (K:PySem.W.Frag):V -> Option Int -> Option Int -> Hp -> VK -> Prop:=fun x lo hi H Q=>∃ a xs,x = .ref a /\ SqL K H a xs /\ ∀ p,H p = none -> Q (.ref p) (upd H p (.lst (cutV xs lo hi)))
theorem zml:SlR X (rSlL X.K):=by
  intro pins s σ H x v vl vu lo hi sl Q I rx hs pl pu h
  obtain ⟨a,xs,rfl,hx,q⟩:=h
  cases rx
  obtain ⟨its,r,ht,hz⟩:=I.list hx
  have hlen:=r.length
  refine ⟨"list",_,slot_list_getitem.lookup,ht.isList.typeIs,?_⟩
  refine wpAny_getItem_list_slice ht.isList hs pl pu .none (by simp) ?_ (by rw [List.size_toArray] <;> omega)
  rw [zhp,<- hlen]
  refine ⟨.ref s.heap.objs.size,_,I.laid (t':=s.toks) (o:=.lst (cutV xs lo hi)) (fun b ob q=>Heap.get?_push_of_some _ q) (Nat.le_refl _) ?_,rfl,q _ (I.hok.fresh (Nat.le_refl _))⟩
  exact ⟨Nat.le_trans (zgF xs lo hi) hz,_,0,(r.drop (HT.sIx xs.length 0 lo)).take (HT.sIx xs.length xs.length hi - HT.sIx xs.length 0 lo),Heap.get?_push_size _ rfl⟩
def flatV:V -> Bool
  | .non=>true
  | .bl _=>true
  | .int _=>true
  | .str _=>true
  | _=>false
def eqV:V -> V -> Bool
  | .non,.non=>true
  | .bl a,.bl b=>a == b
  | .bl a,.int b=>(if a then 1 else 0) == b
  | .int a,.bl b=>a == (if b then 1 else 0)
  | .int a,.int b=>a == b
  | .str a,.str b=>a == b
  | _,_=>false
theorem zrc {A:Around} {s:Shared} {y x:V} {u v:Value} (ry:RelV y u) (rx:RelV x v) (fy:flatV y = true) (fx:flatV x = true):SeqAt.EqAt A s u v (eqV y x):=by
  cases y with
  | non =>
    cases ry
    cases x with
    | non=>cases rx; exact SeqAt.EqAt.same _
    | bl b=>cases rx; exact SeqAt.EqAt.none_bool b
    | int b=>obtain ⟨t,rfl⟩:=rx; exact SeqAt.EqAt.none_int b t
    | str b=>obtain ⟨t,rfl⟩:=rx; exact SeqAt.EqAt.none_str b t
    | _=>exact absurd (show false = true from fx) Bool.false_ne_true
  | bl a =>
    cases ry
    cases x with
    | non=>cases rx; exact SeqAt.EqAt.bool_none a
    | bl b=>cases rx; exact SeqAt.EqAt.bool_bool a b
    | int b=>obtain ⟨t,rfl⟩:=rx; exact SeqAt.EqAt.bool_int a b t
    | str b=>obtain ⟨t,rfl⟩:=rx; exact SeqAt.EqAt.bool_str a b t
    | _=>exact absurd (show false = true from fx) Bool.false_ne_true
  | int a =>
    obtain ⟨t',rfl⟩:=ry
    cases x with
    | non=>cases rx; exact SeqAt.EqAt.int_none a t'
    | bl b=>cases rx; exact SeqAt.EqAt.int_bool a t' b
    | int b=>obtain ⟨t,rfl⟩:=rx; exact SeqAt.EqAt.int_int a t' b t
    | str b=>obtain ⟨t,rfl⟩:=rx; exact SeqAt.EqAt.int_str a t' b t
    | _=>exact absurd (show false = true from fx) Bool.false_ne_true
  | str a =>
    obtain ⟨t',rfl⟩:=ry
    cases x with
    | non=>cases rx; exact SeqAt.EqAt.str_none a t'
    | bl b=>cases rx; exact SeqAt.EqAt.str_bool a t' b
    | int b=>obtain ⟨t,rfl⟩:=rx; exact SeqAt.EqAt.str_int a t' b t
    | str b=>obtain ⟨t,rfl⟩:=rx; exact SeqAt.EqAt.str_str a t' b t
    | _=>exact absurd (show false = true from fx) Bool.false_ne_true
  | _=>exact absurd (show false = true from fy) Bool.false_ne_true
def eqU (x:V) (u:Value):Bool:=match u with
  | .none=>eqV .non x
  | .bool b=>eqV (.bl b) x
  | .int i _=>eqV (.int i) x
  | .str z _=>eqV (.str z) x
  | _=>false
theorem zoT {x y:V} {u:Value} (r:RelV y u) (f:flatV y = true):eqU x u = eqV y x:=by
  cases y with
  | non=>cases r; rfl
  | bl b=>cases r; rfl
  | int i=>obtain ⟨t,rfl⟩:=r; rfl
  | str z=>obtain ⟨t,rfl⟩:=r; rfl
  | _=>exact absurd (show false = true from f) Bool.false_ne_true
theorem zf2 {x:V}:∀ {xs:List V} {us:List Value},Vals xs us -> xs.all flatV = true -> us.any (eqU x) = xs.any fun y=>eqV y x
  | _,_,.nil,_=>rfl
  | y :: xs,u :: us,.cons r t,f=>by
    rw [List.all_cons,Bool.and_eq_true] at f
    rw [List.any_cons,List.any_cons,zoT r f.1,zf2 t f.2]
theorem zeo {A:Around} {s:Shared} {x:V} {v:Value} (rx:RelV x v) (fx:flatV x = true):∀ {xs:List V} {us:List Value},Vals xs us -> xs.all flatV = true -> ∀ u ∈ us,SeqAt.EqAt A s u v (eqU x u)
  | _,_,.nil,_=>fun u hu=>by cases hu
  | y :: xs,u :: us,.cons r t,f=>fun u' hu=>by
    rw [List.all_cons,Bool.and_eq_true] at f
    rcases List.mem_cons.mp hu with rfl | hu
    · rw [zoT r f.1]; exact zrc r rx f.1 fx
    · exact zeo rx fx t f.2 u' hu
def inV (x:V) (xs:List V):Bool:=xs.any fun y=>eqV y x
def rIn (K:PySem.W.Frag) (neg:Bool):R2:=fun x y H Q=>∃ p xs,y = .ref p /\ (SqL K H p xs \/ SqT K H p xs) /\ flatV x = true /\ xs.all flatV = true /\ Q (.bl (if neg then !inV x xs else inV x xs)) H
theorem ziW:OpR X (compareOp .In) (rIn X.K false):=by
  intro pins s σ H x y v u Q I rx ry h
  obtain ⟨p,xs,rfl,hq,fx,fs,q⟩:=h
  cases ry
  rcases hq with hq | hq
  · obtain ⟨its,r,pl,hz⟩:=I.list hq
    refine SeqAt.in_listAt (eqU x) pl.isList (fun w hw=>zeo rx fx r fs w (by simpa using hw)) ⟨.bl _,H,I,rfl,?_⟩
    rw [show its.toArray.any (eqU x) = its.any (eqU x) by simp,zf2 r fs]
    exact q
  · obtain ⟨its,r,pl,hz⟩:=I.tuple hq
    refine SeqAt.in_tupleAt (eqU x) pl (fun w hw=>zeo rx fx r fs w (by simpa using hw)) ⟨.bl _,H,I,rfl,?_⟩
    rw [show its.toArray.any (eqU x) = its.any (eqU x) by simp,zf2 r fs]
    exact q
theorem zfk:OpR X (compareOp .NotIn) (rIn X.K true):=by
  intro pins s σ H x y v u Q I rx ry h
  obtain ⟨p,xs,rfl,hq,fx,fs,q⟩:=h
  cases ry
  rcases hq with hq | hq
  · obtain ⟨its,r,pl,hz⟩:=I.list hq
    refine SeqAt.notIn_listAt (eqU x) pl.isList (fun w hw=>zeo rx fx r fs w (by simpa using hw)) ⟨.bl _,H,I,rfl,?_⟩
    rw [show its.toArray.any (eqU x) = its.any (eqU x) by simp,zf2 r fs]
    exact q
  · obtain ⟨its,r,pl,hz⟩:=I.tuple hq
    refine SeqAt.notIn_tupleAt (eqU x) pl (fun w hw=>zeo rx fx r fs w (by simpa using hw)) ⟨.bl _,H,I,rfl,?_⟩
    rw [show its.toArray.any (eqU x) = its.any (eqU x) by simp,zf2 r fs]
    exact q
theorem zh9:CallR X (.builtin "len") (fun xs H Q=>∃ p ys,xs = [.ref p] /\ (SqL X.K H p ys \/ SqT X.K H p ys) /\ Q (.int ys.length) H):=by
  intro pins s σ H xs us Q I r h
  obtain ⟨p,ys,rfl,hq,q⟩:=h
  obtain ⟨u,rfl,rx⟩:=vals1 r
  cases rx
  have hn:=line63
  rcases hq with hq | hq
  · obtain ⟨its,r',pl,hz⟩:=I.list hq
    have hlen:=r'.length
    exact Calls.call_len_list pl.isList (by simp only [List.size_toArray] <;> omega) ⟨.int ys.length,H,I.tok _,⟨s.toks + 1,by rw [List.size_toArray,hlen]⟩,q⟩
  · obtain ⟨its,r',pl,hz⟩:=I.tuple hq
    have hlen:=r'.length
    exact len_tuple pl (by simp only [List.size_toArray] <;> omega) ⟨.int ys.length,H,I.tok _,⟨s.toks + 1,by rw [List.size_toArray,hlen]⟩,q⟩
theorem zi5:CallR X (.builtin "len") (fun xs H Q=>∃ z,xs = [.str z] /\ z.length <= sizeLine /\ Q (.int z.length) H):=by
  intro pins s σ H xs us Q I r h
  obtain ⟨z,rfl,hz,q⟩:=h
  obtain ⟨u,rfl,t,rfl⟩:=vals1 r
  have hn:=line63
  exact len_str (by omega) ⟨.int z.length,H,I.tok _,⟨_,rfl⟩,q⟩
theorem zeN:CallR X (.type "tuple") (fun xs H Q=>∃ p ys,xs = [.ref p] /\ ((SqL X.K H p ys /\ ∀ l,H l = none -> Q (.ref l) (upd H l (.tup ys))) \/ (SqT X.K H p ys /\ Q (.ref p) H))):=by
  intro pins s σ H xs us Q I r h
  obtain ⟨p,ys,rfl,h⟩:=h
  obtain ⟨u,rfl,rx⟩:=vals1 r
  cases rx
  rcases h with ⟨hq,q⟩ | ⟨hq,q⟩
  · obtain ⟨its,r',pl,hz⟩:=I.list hq
    have hlen:=r'.length
    refine call_tuple_list pl.isList (fun h' kp=>?_) (by simp only [List.size_toArray] <;> omega)
    have I1:Inv X pins σ H { s with heap:=h' }:=I.kept (t':=s.toks) kp
    have I2:Inv X pins σ (upd H h'.objs.size (.tup ys)) { s with heap:=h'.push { cls:=.type "tuple",data:=.seq its.toArray } } :=
      I1.laid (t':=s.toks) (fun b o e=>Heap.get?_push_of_some _ e) (Nat.le_refl _) (show ObjOk X.prog X.w _ _ _ (.tup ys) from ⟨hz,its,r',IsTup.new _ _⟩)
    exact ⟨.ref h'.objs.size,_,I2,rfl,q _ (I1.hok.fresh (Nat.le_refl _))⟩
  · obtain ⟨its,r',pl,hz⟩:=I.tuple hq
    exact call_tuple_same pl ⟨.ref p,H,I,rfl,q⟩
def tyV (K:PySem.W.Frag) (T:String) (x:V) (H:Hp):Prop:=match x with
  | .str _=>T = "str"
  | .int _=>T = "int"
  | .ref p=>(T = "list" /\ ∃ xs,SqL K H p xs) \/ (T = "tuple" /\ ∃ o,K.lookup p = some o /\ o.cls = .type "tuple" /\ o.dict = none) \/
      (T = "dict" /\ ((∃ kvs,H p = some (.dK kvs)) \/ ∃ kvs,H p = some (.dT kvs))) \/ (T = "set" /\ ∃ S n,H p = some (.set S n))
  | _=>False
theorem zqp {pins:List (Addr × Obj)} {σ:St} {H:Hp} {s:Shared} {T:String} {x:V} {v:Value} (I:Inv X pins σ H s) (r:RelV x v) (ty:tyV X.K T x H) :
    s.TypeIs v T /\ ∀ a,v = .ref a -> ∃ ob,s.heap.get? a = some ob /\ ob.dict = none:=by
  cases x with
  | str z =>
    obtain ⟨t,rfl⟩:=r
    cases (show T = "str" from ty)
    exact ⟨typeIs_str s z t,fun _ e=>nomatch e⟩
  | int i =>
    obtain ⟨t,rfl⟩:=r
    cases (show T = "int" from ty)
    exact ⟨typeIs_int s i t,fun _ e=>nomatch e⟩
  | ref p =>
    cases r
    rcases ty with ⟨rfl,xs,hq⟩ | ⟨rfl,o,hk,hc,hd⟩ | ⟨rfl,hk⟩ | ⟨rfl,S,n,hk⟩
    · obtain ⟨its,_,pl,_⟩:=I.list hq
      refine ⟨pl.isList.typeIs,fun a e=>?_⟩
      cases e
      obtain ⟨o,n,e,c,hd,_⟩:=pl
      exact ⟨o,e,hd⟩
    · refine ⟨⟨o,I.kIn p o hk,hc⟩,fun a e=>?_⟩
      cases e
      exact ⟨o,I.kIn _ o hk,hd⟩
    · have z:∃ o,s.heap.get? p = some o /\ o.ExactDict:=by
        rcases hk with ⟨kvs,hk⟩ | ⟨kvs,hk⟩
        · obtain ⟨_,_,_,_,o,_,_,e,ex,_⟩:=I.hok p _ hk
          exact ⟨o,e,ex⟩
        · obtain ⟨_,_,_,_,o,_,_,e,ex,_⟩:=I.hok p _ hk
          exact ⟨o,e,ex⟩
      obtain ⟨o,e,ex⟩:=z
      refine ⟨⟨o,e,ex.1⟩,fun a e2=>?_⟩
      cases e2
      exact ⟨o,e,ex.2.1⟩
    · obtain ⟨o,_,_,_,e,ex,_⟩:=I.hok p _ hk
      refine ⟨⟨o,e,ex.1⟩,fun a e2=>?_⟩
      cases e2
      exact ⟨o,e,ex.2.1⟩
  | _=>exact False.elim ty
def tBM (K:PySem.W.Frag) (T:String) (r:V -> List V -> Hp -> VK -> Prop) (to:TE) (t:TA):TE:=fun σ H Q=>to σ H fun x H1=>tyV K T x H1 /\ t σ H1 fun xs H2=>r x xs H2 Q
variable {o e:Expr} {es:List Expr} {to:TE} {t:TA} {name:Str} {apos cpos:Pos} {T id:String} {r:V -> List V -> Hp -> VK -> Prop}
theorem zrn (pa:PlainAttrs T) (slot:Slot T name id) (hty:typeOf (.builtin id) = pure (.type "method_descriptor")) (hm:MtR X id r) (ho:PE X o to) (ha:PA X (e :: es) t)
    (hbase:attributeBase o name X.env (eval o X.env) = eval o X.env:=by rfl)
    (hfew:((backTo cpos (starEach (e :: es) X.env)).all (fun x=>!x.1) && (backToKw cpos (keywordEach [] X.env)).all (fun x=>x.1.isSome)
      && decide ((e :: es).length + ([]:List Keyword).length + (if ([]:List Keyword).isEmpty then 0 else 1) < 30)) = true:=by rfl)
    (hline:(apos.endLine == cpos.line) = true:=by rfl) (hs:starEach (e :: es) X.env = (false,eval e X.env) :: starEach es X.env:=by rfl) (hplain:(backTo cpos (starEach es X.env)).any (·.1) = false:=by rfl) :
    PE X (.Call (.Attribute o name apos) (e :: es) [] cpos) (tBM X.K T r to t):=by
  intro pins s σ H Q I h
  refine wpAny_Call_method_late hbase hfew hline rfl (thn (ho pins s σ H _ I h) fun v s1 ⟨x,H1,I1,r1,ty,q1⟩=>?_)
  obtain ⟨h1,h2⟩:=zqp I1 r1 ty
  refine ⟨T,id,pa,slot,hty,h1,h2,?_⟩
  have hA:=ha cpos pins s1 σ H1 _ I1 q1
  rw [hs] at hA ⊢
  refine Calls.callWith_builtin (by show (false || (backTo cpos (starEach es X.env)).any (·.1)) = false; rw [hplain] <;> rfl) (Calls.evalArgs_plain ?_)
  exact thn hA fun us s2 ⟨vs,H2,I2,r2,q2⟩=>hm pins s2 σ H2 x vs v us Q I2 r1 r2 q2
/- xs.append(e),list.index on a module's tuple .. are MtR facts of 06m -/
end
end L2
namespace L2
open PySem PySem.Spec PyProof.Rows
def MtM (X:Cx) (id:String) (r:V -> List V -> Hp -> VK -> Prop):Prop :=
  ∀ (pins:List (Addr × Obj)) (s:Shared) (σ:St) (H:Hp) (x:V) (xs:List V) (v:Value) (us:List Value) (Q:VK),Inv X pins σ H s -> RelV x v -> Vals xs us -> r x xs H Q ->
    wpAny (model X.prog X.w) X.A (call (.builtin id) (v :: us)) (EP X pins σ Q) X.xe s
theorem Vals.one:∀ {x:V} {us:List Value},Vals [x] us -> ∃ u,us = [u] /\ RelV x u
  | _,_,.cons r .nil=>⟨_,rfl,r⟩
section
variable {X:Cx} {pins:List (Addr × Obj)} {σ:St} {H:Hp} {s:Shared} {l b:Addr} {xs ys zs:List V}
theorem Inv.lset {its its':List Value} {n:Nat} {f:Array Value -> Array Value} {t':Nat} (I:Inv X pins σ H s) (hH:H l = some (.lst xs))
    (e:s.heap.get? l = some { cls:=.type "list",data:=.seq its.toArray n }) (hf:f its.toArray = its'.toArray) (hv:Vals ys its') (hz:ys.length <= sizeLine) :
    Inv X pins σ (upd H l (.lst ys)) { s with heap:=s.heap.update l (Obj.mapSeq f),toks:=t' }:=by
  have q:=PySem.IsL.update e f
  rw [hf] at q
  refine I.write (x:=l) (e:=l) (by rw [hH]; exact trivial) (.inl rfl) (fun b' u hb hu=>(Heap.get?_update_other s.heap (Obj.mapSeq f) (Ne.symm hb)).trans hu) ⟨_,q⟩ ?_
  exact ⟨hz,its',_,hv,q⟩
theorem Inv.lnew {its:List Value} {t':Nat} (I:Inv X pins σ H s) (hv:Vals ys its) (hz:ys.length <= sizeLine) :
    Inv X pins σ (upd H s.heap.objs.size (.lst ys)) { s with heap:=s.heap.push { cls:=.type "list",data:=.seq its.toArray },toks:=t' } :=
  I.laid (fun _ _ q=>Heap.get?_push_of_some _ q) (Nat.le_refl _) ⟨hz,its,0,hv,Heap.get?_push_size _ rfl⟩
theorem Inv.fresh (I:Inv X pins σ H s):H s.heap.objs.size = none:=I.hok.fresh (Nat.le_refl _)
theorem Inv.lstM (I:Inv X pins σ H s) (hH:H l = some (.lst xs)):xs.length <= sizeLine /\ ∃ (its:List Value) (n:Nat),Vals xs its /\ xs.length = its.length /\ s.heap.get? l = some { cls:=.type "list",data:=.seq its.toArray n }:=by
  obtain ⟨z,its,n,r,e⟩:=I.hok l _ hH
  exact ⟨z,its,n,r,r.length,e⟩
theorem notLongL {n:Nat} (h:n <= sizeLine):Builtin.List.listTooLong n = false:=by
  unfold Builtin.List.listTooLong
  exact decide_eq_false (by omega)
end
section
variable {X:Cx}
def rAppend:V -> List V -> Hp -> VK -> Prop:=fun x vs H Q=>∃ l xs y,x = .ref l /\ vs = [y] /\ H l = some (.lst xs) /\ xs.length < sizeLine /\ Q .non (upd H l (.lst (xs ++ [y])))
theorem ziX:MtM X "list.append" rAppend:=by
  intro pins s σ H x vs v us Q I rx rv h
  obtain ⟨l,xs,y,rfl,rfl,hH,hz,q⟩:=h
  cases rx
  obtain ⟨u,rfl,ru⟩:=rv.one
  obtain ⟨z,its,n,r,hl,e⟩:=I.lstM hH
  refine call_meets F.slot_list_append ⟨_,e,rfl⟩ F.entry_list_append (F.args_list_append_2 _ _) (PySem.list_append l its.toArray n u (by rw [List.size_toArray]; omega)) ⟨e,?_⟩
  refine ⟨.non,_,I.lset (its':=its ++ [u]) hH e (by simp) (r.append (.cons ru .nil)) ?_,rfl,q⟩
  rw [List.length_append,List.length_singleton]
  omega
def rExtend:V -> List V -> Hp -> VK -> Prop:=fun x vs H Q=>∃ l b xs zs,x = .ref l /\ vs = [.ref b] /\ H l = some (.lst xs) /\ H b = some (.lst zs) /\ xs.length + zs.length <= sizeLine /\ Q .non (upd H l (.lst (xs ++ zs)))
theorem zmf:MtM X "list.extend" rExtend:=by
  intro pins s σ H x vs v us Q I rx rv h
  obtain ⟨l,b,xs,zs,rfl,rfl,hH,hB,hz,q⟩:=h
  cases rx
  obtain ⟨u,rfl,ru⟩:=rv.one
  cases ru
  obtain ⟨z,its,n,r,hl,e⟩:=I.lstM hH
  obtain ⟨z2,its2,n2,r2,hl2,e2⟩:=I.lstM hB
  have hsz:its.toArray.size + its2.toArray.size <= sizeLine:=by rw [List.size_toArray,List.size_toArray]; omega
  have hlong:¬ (!its.toArray.isEmpty && Builtin.List.listTooLong (its.toArray.size + its2.toArray.size)) = true:=by
    rw [notLongL hsz,Bool.and_false]
    exact Bool.false_ne_true
  refine call_meets F.slot_list_extend ⟨_,e,rfl⟩ F.entry_list_extend (F.args_list_extend_2 _ _)
    (AutoSeq1.list_extend_list_list_0 l its.toArray n b its2.toArray n2 hlong (by rw [List.size_toArray]; omega) (by omega)) ⟨e,e2,?_⟩
  refine ⟨.non,_,I.lset (its':=its ++ its2) hH e (by simp) (r.append r2) ?_,rfl,q⟩
  rw [List.length_append]
  omega
def rCat:R2:=fun x y H Q=>∃ l b xs zs,x = .ref l /\ y = .ref b /\ H l = some (.lst xs) /\ H b = some (.lst zs) /\ xs.length + zs.length <= sizeLine /\ ∀ p,H p = none -> Q (.ref p) (upd H p (.lst (xs ++ zs)))
theorem zqO:OpR X (binaryOp .Add) rCat:=by
  intro pins s σ H x y v u Q I rx ry h
  obtain ⟨l,b,xs,zs,rfl,rfl,hH,hB,hz,q⟩:=h
  cases rx
  cases ry
  obtain ⟨z,its,n,r,hl,e⟩:=I.lstM hH
  obtain ⟨z2,its2,n2,r2,hl2,e2⟩:=I.lstM hB
  refine PySem.P.add_list e e2 ?_ (by rw [List.size_toArray,List.size_toArray]; omega)
  have ea:its.toArray ++ its2.toArray = (its ++ its2).toArray:=by simp
  rw [ea]
  exact ⟨.ref _,_,I.lnew (t':=s.toks) (r.append r2) (by rw [List.length_append]; omega),rfl,q _ I.fresh⟩
end
section
variable {prog:Program} {w:World} {A:Around} {E:Value -> Shared -> Prop} {s:Shared}
end
section
variable {X:Cx}
end
end L2
namespace Att
open PySem PySem.W PySem.Calls PyProof.Rows
theorem zgA {P:Params} {h:Heap}:∀ (ns:List Int) (vs:List Value),WellAll P h vs (ns.map WData.int) -> IntsAre vs ns:=by
  intro ns
  induction ns with
  | nil =>
    intro vs w
    rw [List.map_nil] at w
    cases w
    exact .nil
  | cons n ns ih =>
    intro vs w
    rw [List.map_cons] at w
    cases w with
    | cons a b =>
      cases a
      exact .cons _ _ (ih _ b)
theorem zlV {l:OpenLaw} {n:Nat} (hn:l.most = some n) {P:Params} {h:Heap} {args:List WData} {vals:List Value}
    (hpre:l.row.toRowW.claim.pre args = true) (hwl:WellAll P h vals args) :
    ∃ a vs ns,vals = [Value.ref a] /\ args = [WData.list (ns.map WData.int)] /\ h.get? a = some { cls:=.type "list",data:=.seq vs.toArray } /\ IntsAre vs ns /\ ns.length <= n:=by
  have hsh:WShape.hasAll [] args [.list .int] = true:=(pre_splitW hpre).1
  have hc:l.pre.holds [] { args:=args } = true:=(pre_splitW hpre).2
  obtain ⟨d,r,rfl,h1,h2⟩:=hasAllW_cons hsh
  obtain rfl:=hasAllW_nil h2
  obtain ⟨xs,rfl,h3⟩:=hasW_list h1
  obtain ⟨ns,rfl⟩:=items_int h3
  have hlen:ns.length <= n:=by
    unfold OpenLaw.pre at hc
    have h4:(WTm.not (.lt (.lit (.int (n:Int))) (.len (.arg 0)))).holds [] { args:=[.list (ns.map .int)] } = true:=by
      have h4:=(holds_andW hc).1
      rw [hn] at h4
      exact h4
    have h5:=condW_of h4 (w_not (w_lt w_lit (w_len_list (w_arg rfl))))
    rw [List.length_map] at h5
    refine Nat.le_of_not_lt fun q=>?_
    have q':(n:Int) < ((ns.length:Nat):Int):=by omega
    first
      | (rw [decide_eq_true q'] at h5; exact absurd h5 (by decide))
      | (simp at h5; omega)
  cases hwl with
  | cons w1 w2 =>
    cases w2
    cases w1 with
    | list ho hall=>exact ⟨_,_,ns,rfl,rfl,ho,zgA ns _ hall,hlen⟩
theorem zmH (l:OpenLaw) (args:List WData):l.row.toRowW.claim.post args (.bool true) args = true :=
  postW_of (r:=l.row.toRowW) (X:=(true == true))
    (show WShape.has [] (.bool true) .bool = true by first | rfl | decide | simp [WShape.has,WShape.arms,WShape.armsAll])
    (show (WTm.eq .res (.lit (.bool true))).value [] { args:=args,res:=some (.bool true),after:=args } = some (.bool (true == true)) from w_eq_bool (w_res rfl) w_lit) rfl
theorem attach_call {l:OpenLaw} {n:Nat} {q:Program} {loose:List Str} {XP:(Str -> Option Value) -> Heap -> Prop} {YP:World -> Heap -> Prop} {d:DefRec}
    (hn:l.most = some n) (hdf:d.params.defaults = [])
    (call:∀ (w:World) (s₀ s₁:Shared) (mg mb:Str -> Option Value) (fa:Addr) (o:Obj) (pm cd doc:Value) (a:Addr) (vs:List Value) (ns:List Int),
      Ground q loose [] XP w s₀ mg mb s₁.heap -> YP w s₁.heap ->
      s₁.heap.get? fa = some o -> o.data = .func (docDef d.name d.params d.body d.scope pm cd doc) -> s₁.heap.CodeRec cd d.name -> mg d.name = some (.ref fa) ->
      s₁.heap.get? a = some { cls:=.type "list",data:=.seq vs.toArray } -> IntsAre vs ns -> ns.length <= n -> s₁.gens = #[] ->
      codeAny (model l.prog w) callerA (.call (.ref fa) ⟨[.ref a],[]⟩) (fun r s'=>r = .ok (.ret (.bool true)) /\ OldK s₁.heap s'.heap /\ s'.os = s₁.os /\ AllBare s'.gens) s₁) :
    WalkO q loose XP YP l.row.toRowW d [] (fun f vs=>PySem.call f vs):=by
  intro w s₀ s₁ mg mb G Y fa o pm cd doc dV kV ho hd hcd hD hmg hg args vals as hpre hlay hrd hwl hlo
  obtain rfl:dV = .none:=Dflts.none hD hdf
  obtain rfl:kV = .none:=Dflts.noKw hD
  obtain ⟨a,vs,ns,rfl,rfl,hobj,hints,hlen⟩:=zlV hn hpre hwl
  refine enter_call (codeAny_mono (call w s₀ s₁ mg mb fa o pm cd doc a vs ns G Y ho (fd_plain hd) hcd hmg hobj hints hlen hg) fun r s' hq=>?_)
  obtain ⟨rfl,h2,h3,h4⟩:=hq
  exact ⟨.inl ⟨.bool true,.bool true,[],rfl,fun _=>rfl,.bool true,zmH l _,fun _=>⟨List.Pairwise.nil,fun _ hm=>(nomatch hm)⟩⟩,h2,h3,h4⟩
section
variable {prog:Program} {w:World} {A:Around} {E:Value -> Shared -> Prop} {s:Shared} {K:Frag}
end
end Att
namespace L2
open PySem PySem.Spec PyProof.Rows
theorem zif:∀ {vs:List Value} {ns:List Int},IntsAre vs ns -> Vals (ns.map V.int) vs
  | _,_,.nil=>.nil
  | _,_,.cons n t h=>.cons ⟨t,rfl⟩ (zif h)
def Only (H:Hp):Prop:=∀ b,H b = none \/ ∃ o xs,H b = some (.frz o (.lst xs))
theorem znT {P:Program} {w:World} {K:PySem.W.Frag} {mg mb:Str -> Option Value} {CX:CXT} {k:Nat} {fa a:Addr} {fd:FuncData} {x:Str} {sp:Sp} {s₁:Shared} {vs:List Value} {ns:List Int}
    (KX:K.In s₁.heap) (hns:s₁.heap.Ns mainGlobals mg) (hb:s₁.heap.Ns builtinsNs mb) (hbb:∀ x:Str,x ≠ "__name__" -> mb x = bootBuiltins x) (hlim:s₁.heap.NoLimit) (hg:s₁.gens = #[])
    (ha:s₁.heap.get? a = some { cls:=.type "list",data:=.seq vs.toArray }) (hi:IntsAre vs ns) (hl:ns.length <= sizeLine) (hr:Room k callerA)
    (F:∀ base:Heap,K.In base -> base.Ns mainGlobals mg -> FnOk P w K mg base CX k fa fd [x] sp) (hbind:∀ (s:Shared) (u:Value),BindsTo s fd ⟨[u],[]⟩ [(x,u)])
    (hsp:∀ H:Hp,Only H -> SqL K H a (ns.map V.int) -> sp [.ref a] H (fun v _=>v = .bl true) fun _ _ _=>False)
    (hCX:∀ H e s',CX [] H s₁ (fun _ _ _=>False) e s' -> False) :
    codeAny (model P w) callerA (.call (.ref fa) ⟨[.ref a],[]⟩) (fun r s'=>r = .ok (.ret (.bool true)) /\ OldK s₁.heap s'.heap /\ s'.os = s₁.os /\ AllBare s'.gens) s₁:=by
  have rv:=zif hi
  have lenV:=hi.length
  -- from an abstract heap in which nothing but the script may be tracked
  have core:∀ H:Hp,Only H -> SqL K H a (ns.map V.int) -> HOk P w H s₁.heap -> (∀ b,H b ≠ none -> b = a) -> (H a ≠ none -> K.lookup a = none) ->
      codeAny (model P w) callerA (.call (.ref fa) ⟨[.ref a],[]⟩) (fun r s'=>r = .ok (.ret (.bool true)) /\ OldK s₁.heap s'.heap /\ s'.os = s₁.os /\ AllBare s'.gens) s₁:=by
    intro H hO hS hok hA hK
    have base_of:∀ {b:Addr} {o:Obj},s₁.heap.get? b = some o -> H b = none -> (hidT s₁.heap H).get? b = some o:=fun e n=>zok e n
    have noA:∀ {b:Addr} {o:Obj} {es:Array DictEntry} {ep:Nat},s₁.heap.get? b = some o -> o.data = .dict es ep -> H b = none:=fun {b o es ep} e d=>by
      cases q:H b with
      | none=>rfl
      | some u =>
        have e':b = a:=hA b (by rw [q]; simp)
        subst e'
        rw [ha] at e; cases e
        have d':Data.seq vs.toArray _ = Data.dict es ep:=d
        cases d'
    have nsK:∀ {b:Addr} {m:Str -> Option Value},s₁.heap.Ns b m -> (hidT s₁.heap H).Ns b m:=fun {b m} ⟨o,es,ep,e,d,r⟩=>⟨o,es,ep,base_of e (noA e d),d,r⟩
    have hKb:K.In (hidT s₁.heap H):=fun b o e=>base_of (KX b o e) (by
      cases q:H b with
      | none=>rfl
      | some u =>
        have e':b = a:=hA b (by rw [q]; simp)
        subst e'
        rw [hK (by rw [q]; simp)] at e; cases e)
    have hM:Mod K mg (hidT s₁.heap H):=⟨hKb,nsK hns,⟨mb,nsK hb,hbb⟩,let ⟨mc,h1,h2⟩:=hlim; ⟨mc,nsK h1,h2⟩⟩
    have e0:Env0 P w K mg (hidT s₁.heap H) callerA [] s₁ H:=⟨rfl,hM,fun b o e=>zpv e,Nat.le_of_eq (zmB _ _),trivial,fun b hb=>absurd (show b ∈ ([]:List Addr) from hb) (by simp),hok,.of_eq hg⟩
    refine codeAny_mono ((F _ hKb (nsK hns)).run callerA [] s₁ H ⟨[.ref a],[]⟩ [.ref a] [.ref a] _ _ hr e0 (hbind s₁ (.ref a)) (.cons rfl .nil) (hsp H hO hS)) fun r s' h=>?_
    cases r with
    | error e=>exact (hCX H e s' h).elim
    | ok fl =>
      cases fl with
      | next=>exact False.elim h
      | brk=>exact False.elim h
      | cont=>exact False.elim h
      | ret u =>
        obtain ⟨v,H',os,bare,un,hok',r',q⟩:=h
        have q':v = .bl true:=q
        subst q'
        obtain rfl:u = Value.bool true:=r'
        refine ⟨rfl,OldK.of_keep fun b o e=>?_,os,bare⟩
        cases q:H b with
        | none=>exact un.keep b o e q (by intro z; exact absurd (show b ∈ ([]:List Addr) from z) (by simp)) (by simp)
        | some u =>
          rcases hO b with z | ⟨ob,xs,z⟩
          · rw [q] at z; cases z
          · have z2:=un.frzs b ob _ z
            obtain ⟨e1,_⟩:=hok b _ z
            obtain ⟨e2,_⟩:=hok' b _ z2
            rw [e] at e1; cases e1
            exact e2
  cases hk:K.lookup a with
  | some o =>
    -- the script is one of the module's own objects
    have e:=KX a o hk
    rw [ha] at e
    cases e
    refine core (fun _=>none) (fun _=>.inl rfl) (.inr ⟨_,vs.toArray,_,hk,rfl,rfl,rfl,by rw [List.size_toArray,lenV]; exact hl,by simpa using rv⟩) (fun b u z=>by have z':(none:Option HO) = some u:=z; cases z') (fun b z=>absurd rfl z) fun z=>absurd rfl z
  | none =>
    refine core (fun b=>if b = a then some (.frz { cls:=.type "list",data:=.seq vs.toArray } (.lst (ns.map V.int))) else none) (fun b=>?_) (.inl (.inr ⟨{ cls:=.type "list",data:=.seq vs.toArray },if_pos rfl⟩)) (fun b u z=>?_) (fun b z=>?_) fun _=>hk
    · by_cases hb:b = a
      · exact .inr ⟨_,_,if_pos hb⟩
      · exact .inl (if_neg hb)
    · by_cases hb:b = a
      · have z':=(if_pos hb).symm.trans z
        cases z'
        subst hb
        exact ⟨ha,by rw [List.length_map]; exact hl,vs,_,rv,ha⟩
      · have z':=(if_neg hb).symm.trans z
        cases z'
    · by_cases hb:b = a
      · exact hb
      · exact absurd (if_neg hb) z
end L2
namespace L2
open PySem PySem.Spec PyProof.Rows
theorem walk_of {l:PySem.W.OpenLaw} {n k:Nat} {q:Program} {loose:List Str} {XP:(Str -> Option Value) -> Heap -> Prop} {YP:World -> Heap -> Prop} {d:DefRec} {K:Params -> PySem.W.Frag} {CX:World -> CXT} {sp:World -> Sp} {x:Str}
    (hn:l.most = some n) (hn2:n <= sizeLine) (hdf:d.params.defaults = []) (hr:Room k callerA)
    (hY:∀ (w:World) (h:Heap),YP w h -> (K w.params).In h)
    (F:∀ (w:World) (mg:Str -> Option Value) (fa:Addr) (h:Heap),(K w.params).In h -> h.Ns mainGlobals mg -> mg d.name = some (.ref fa) ->
      ∃ fd:FuncData,(∀ (s:Shared) (u:Value),BindsTo s fd ⟨[u],[]⟩ [(x,u)]) /\
        ∀ base:Heap,(K w.params).In base -> base.Ns mainGlobals mg -> FnOk l.prog w (K w.params) mg base (CX w) k fa fd [x] (sp w))
    (hsp:∀ (w:World) (H:Hp) (a:Addr) (ns:List Int),ns.length <= n -> Only H -> SqL (K w.params) H a (ns.map V.int) -> sp w [.ref a] H (fun v _=>v = .bl true) fun _ _ _=>False)
    (hCX:∀ (w:World) (H:Hp) (s:Shared) (e:Value) (s':Shared),CX w [] H s (fun _ _ _=>False) e s' -> False) :
    PySem.W.WalkO q loose XP YP l.row.toRowW d [] (fun f vs=>PySem.call f vs):=by
  refine Att.attach_call hn hdf fun w s₀ s₁ mg mb fa o pm cd doc a vs ns G Y ho hd hcd hmg hobj hints hlen hg=>?_
  have KX:=hY w _ Y
  obtain ⟨fd,hb,hF⟩:=F w mg fa _ KX G.T.g hmg
  exact znT KX G.T.g G.T.b G.T.builtins G.T.nolimit hg hobj hints (Nat.le_trans hlen hn2) hr hF hb (fun H hO hS=>hsp w H a ns hlen hO hS) fun H e s'=>hCX w H s₁ e s'
end L2
namespace L2
open PySem PySem.Spec PyProof.Rows
def defArgs (s:Stmt):Arguments:=match s with
  | .FunctionDef _ a _ _ _ _ _ _ _ _=>a
  | _=>{ posonlyargs:=[],args:=[],vararg:=none,kwonlyargs:=[],kw_defaults:=[],kwarg:=none,defaults:=[] }
def defBody (s:Stmt):List Stmt:=match s with
  | .FunctionDef _ _ b _ _ _ _ _ _ _=>b
  | _=>[]
def defScope (s:Stmt):Scope:=match s with
  | .FunctionDef _ _ _ _ _ _ sc _ _ _=>sc
  | _=>{ kind:=.function,names:=[],isGenerator:=false,isCoroutine:=false }
structure Fun (K:PySem.W.Frag) (x qual:Str) (st:Stmt) (f:Addr) (fd:FuncData):Prop where
  ex:∃ (oc:Value) (od:Option Addr) (kV doc pm:Value) (an:Option Addr) (cdv ct:Value) (osl:Array (Option Value)),
    fd = PySem.W.fnOf x qual (defArgs st) (defBody st) (defScope st) .none kV doc pm an cdv ct /\ K.lookup f = some ⟨oc,od,.func fd,osl⟩ /\ PySem.W.codeIn K cdv qual = true
  kp:PySem.W.keepIn K (.ref f) = true
section
variable {P:Program} {w:World} {K:PySem.W.Frag} {mg:Str -> Option Value} {base:Heap}
theorem Fun.binds {x qual:Str} {st:Stmt} {f:Addr} {fd:FuncData} {ps:List Str} (F:Fun K x qual st f fd)
    (h:∀ (kV doc pm:Value) (an:Option Addr) (cdv ct:Value) (us:List Value),us.length = ps.length -> bindArgs (PySem.W.fnOf x qual (defArgs st) (defBody st) (defScope st) .none kV doc pm an cdv ct) ⟨us,[]⟩ = pure (ps.zip us)):Binds K fd ps []:=by
  obtain ⟨oc,od,kV,doc,pm,an,cdv,ct,osl,rfl,lk,hcd⟩:=F.ex
  exact .all (h kV doc pm an cdv ct)
theorem zoI {x qual:Str} {st:Stmt} {f:Addr} {oc:Value} {od an:Option Addr} {osl:Array (Option Value)} {kV doc pm cdv ct:Value} (l:K.lookup f = some ⟨oc,od,.func (PySem.W.fnOf x qual (defArgs st) (defBody st) (defScope st) .none kV doc pm an cdv ct),osl⟩)
    (c:PySem.W.codeIn K cdv qual = true) (k:PySem.W.keepIn K (.ref f) = true):Fun K x qual st f (PySem.W.fnOf x qual (defArgs st) (defBody st) (defScope st) .none kV doc pm an cdv ct):=⟨⟨oc,od,kV,doc,pm,an,cdv,ct,osl,rfl,l,c⟩,k⟩
end
theorem z8 {A:Around} {k:Nat} (hr:Room k A):A.units + 1 < cLine:=Nat.lt_of_le_of_lt (Nat.add_le_add_left (by decide:1 <= 64) _) hr.units
section
variable {X:Cx}
end
end L2
namespace L2
open PySem PySem.Spec PyProof.Rows
section
variable {κ:Type} [DecidableEq κ]
def valV (kvs:List (κ × V)) (k:κ):Option V:=(kvs.find? fun kv=>decide (kv.1 = k)).map (·.2)
def putK (kvs:List (κ × V)) (k:κ) (v:V):List (κ × V) :=
  if (kvs.any fun kv=>decide (kv.1 = k)) = true then kvs.map (fun kv=>if kv.1 = k then (kv.1,v) else kv) else kvs ++ [(k,v)]
theorem zeO {p:κ × V} {r:List (κ × V)} {k:κ} (e:p.1 = k):valV (p :: r) k = some p.2:=by simp [valV,List.find?_cons,e]
theorem zex {p:κ × V} {r:List (κ × V)} {k:κ} (e:¬ p.1 = k):valV (p :: r) k = valV r k:=by simp [valV,List.find?_cons,e]
theorem zkF (k:κ):∀ kvs:List (κ × V),(kvs.any fun kv=>decide (kv.1 = k)) = (valV kvs k).isSome
  | []=>rfl
  | p :: r=>by
    rw [List.any_cons]
    by_cases e:p.1 = k
    · simp only [zeO e,decide_eq_true e,Bool.true_or,Option.isSome_some]
    · rw [zex e,decide_eq_false e,Bool.false_or]; exact zkF k r
theorem zeb (kvs:List (κ × V)) (k:κ) (v:V):(putK kvs k v).length <= kvs.length + 1:=by
  unfold putK
  split
  · rw [List.length_map]; omega
  · rw [List.length_append,List.length_cons,List.length_nil]; omega
theorem RelO.isSome_eq {o:Option V} {u:Option Value} (r:RelO o u):o.isSome = u.isSome:=by
  cases o with
  | none=>cases u with
    | none=>rfl
    | some _=>exact (show False from r).elim
  | some _=>cases u with
    | none=>exact (show False from r).elim
    | some _=>rfl
theorem RelO.getD {o:Option V} {u:Option Value} {d:V} {d':Value} (r:RelO o u) (rd:RelV d d'):RelV (o.getD d) (u.getD d'):=by
  cases o with
  | none=>cases u with
    | none=>exact rd
    | some _=>exact (show False from r).elim
  | some _=>cases u with
    | none=>exact (show False from r).elim
    | some _=>exact r
theorem KV.val {kvs:List (κ × V)} {vs:List (κ × Value)} (r:KV kvs vs) (k:κ):RelO (valV kvs k) (valueAt vs k):=by
  unfold KV at r
  induction r with
  | nil=>exact True.intro
  | @cons p q ps qs h t ih =>
    obtain ⟨h1,h2⟩:=h
    by_cases e:p.1 = k
    · have e':q.1 = k:=h1.symm.trans e
      have b:valueAt (q :: qs) k = some q.2:=by simp [valueAt,List.find?_cons,e']
      rw [zeO e,b]; exact h2
    · have e':¬ q.1 = k:=fun z=>e (h1.trans z)
      have b:valueAt (q :: qs) k = valueAt qs k:=by simp [valueAt,List.find?_cons,e']
      rw [zex e,b]; exact ih
theorem KV.any {kvs:List (κ × V)} {vs:List (κ × Value)} (r:KV kvs vs) (k:κ):(kvs.any fun kv=>decide (kv.1 = k)) = vs.any fun kv=>decide (kv.1 = k):=by
  unfold KV at r
  induction r with
  | nil=>rfl
  | cons h t ih=>rw [List.any_cons,List.any_cons,ih,h.1]
theorem KV.repl {kvs:List (κ × V)} {vs:List (κ × Value)} (r:KV kvs vs) (k:κ) {y:V} {u:Value} (ry:RelV y u) :
    KV (kvs.map fun kv=>if kv.1 = k then (kv.1,y) else kv) (vs.map fun kv=>if kv.1 = k then (kv.1,u) else kv):=by
  unfold KV at r ⊢
  induction r with
  | nil=>exact .nil
  | @cons p q ps qs h t ih =>
    rw [List.map_cons,List.map_cons]
    refine .cons ?_ ih
    obtain ⟨h1,h2⟩:=h
    by_cases e:p.1 = k
    · rw [if_pos e,if_pos (h1.symm.trans e)]; exact ⟨h1,ry⟩
    · rw [if_neg e,if_neg (fun z=>e (h1.trans z))]; exact ⟨h1,h2⟩
theorem KV.put {kvs:List (κ × V)} {vs:List (κ × Value)} (r:KV kvs vs) (k:κ) {y:V} {u:Value} (ry:RelV y u):KV (putK kvs k y) (stored vs k u):=by
  unfold putK stored
  rw [r.any k]
  by_cases e:(vs.any fun kv=>decide (kv.1 = k)) = true
  · rw [if_pos e,if_pos e]; exact r.repl k ry
  · rw [if_neg e,if_neg e]; exact Paired.snoc r ⟨rfl,ry⟩
theorem KV.length {kvs:List (κ × V)} {vs:List (κ × Value)} (r:KV kvs vs):kvs.length = vs.length:=Paired.length r
end
theorem znG {P:Program} {w:World} {k:Key} {u:Value} (r:RelV (kV k) u):(mixKind P w).is k u = true:=by
  cases k with
  | inl i=>obtain ⟨t,e⟩:=(show ∃ t,u = Value.int i t from r); subst e; exact zjv P w i t
  | inr x=>obtain ⟨t,e⟩:=(show ∃ t,u = Value.str x t from r); subst e; exact zjC P w x t
theorem zii {P:Program} {w:World}:∀ {ks:List Key} {us:List Value},Vals (ks.map kV) us -> ItemsAre (mixKind P w) ks us
  | [],_,r=>by rw [List.map_nil] at r; cases r; exact .nil
  | k :: ks,_,r=>by
    rw [List.map_cons] at r
    cases r with
    | cons h t=>exact .cons (znG h) (zii t)
abbrev KT (H:Hp):List (List Key × V) -> List (List Key × Addr × Value) -> Prop:=Paired fun p q=>p.1 = q.1 /\ H q.2.1 = some (.tup (p.1.map kV)) /\ RelV p.2 q.2.2
theorem KT.val {H:Hp} {kvs:List (List Key × V)} {xs:List (List Key × Addr × Value)} (r:KT H kvs xs) (k:List Key):RelO (valV kvs k) ((atKey xs k).map (·.2)):=by
  induction r with
  | nil=>exact True.intro
  | @cons p q ps qs h t ih =>
    obtain ⟨h1,_,h2⟩:=h
    by_cases e:p.1 = k
    · have e':q.1 = k:=h1.symm.trans e
      have b:atKey (q :: qs) k = some q.2:=by simp [atKey,List.find?_cons,e']
      rw [zeO e,b]; exact h2
    · have e':¬ q.1 = k:=fun z=>e (h1.trans z)
      have b:atKey (q :: qs) k = atKey qs k:=by simp [atKey,List.find?_cons,e']
      rw [zex e,b]; exact ih
theorem KT.repl {H:Hp} {kvs:List (List Key × V)} {xs:List (List Key × Addr × Value)} (r:KT H kvs xs) (k:List Key) {y:V} {u:Value} (ry:RelV y u) :
    KT H (kvs.map fun kv=>if kv.1 = k then (kv.1,y) else kv) (xs.map (putAt k u)):=by
  induction r with
  | nil=>exact .nil
  | @cons p q ps qs h t ih =>
    rw [List.map_cons,List.map_cons]
    refine .cons ?_ ih
    obtain ⟨h1,h2,h3⟩:=h
    unfold putAt
    by_cases e:p.1 = k
    · rw [if_pos e,if_pos (h1.symm.trans e)]; exact ⟨h1,h2,ry⟩
    · rw [if_neg e,if_neg (fun z=>e (h1.trans z))]; exact ⟨h1,h2,h3⟩
theorem KT.put {H:Hp} {kvs:List (List Key × V)} {xs:List (List Key × Addr × Value)} (r:KT H kvs xs) (k:List Key) {b:Addr} {y:V} {u:Value} (hb:H b = some (.tup (k.map kV))) (ry:RelV y u) :
    KT H (putK kvs k y) (storedH xs k b u):=by
  have e:(kvs.any fun kv=>decide (kv.1 = k)) = (atKey xs k).isSome:=by
    rw [zkF,(r.val k).isSome_eq,Option.isSome_map]
  unfold putK storedH
  rw [e]
  by_cases q:(atKey xs k).isSome = true
  · rw [if_pos q,if_pos q]; exact r.repl k ry
  · rw [if_neg q,if_neg q]; exact Paired.snoc r ⟨rfl,hb,ry⟩
theorem KT.keeps {H H':Hp} {kvs:List (List Key × V)} {xs:List (List Key × Addr × Value)} (r:KT H kvs xs) (ht:∀ b ys,H b = some (.tup ys) -> H' b = some (.tup ys)):KT H' kvs xs :=
  Paired.mapP r fun _ _ z=>⟨z.1,ht _ _ z.2.1,z.2.2⟩
section
variable {P:Program} {w:World} {H:Hp} {h:Heap} {a:Addr}
theorem zqG {u:HO} (ok:HOk P w H h) (e:Rd H a u):ObjOk P w H h a u:=e.ok ok
theorem zpn {kvs:List (Key × V)} (ok:HOk P w H h) (e:Rd H a (.dK kvs)):kvs.length <= sizeLine /\ (a == sysModules) = false /\ ∃ vs,KV kvs vs /\ h.DictOf (mixKind P w) a vs :=
  show ObjOk P w H h a (.dK kvs) from zqG ok e
theorem zry {kvs:List (Key × V)} (ok:HOk P w H h) (e:H a = some (.dK kvs)):kvs.length <= sizeLine /\ (a == sysModules) = false /\ ∃ vs,KV kvs vs /\ h.DictOf (mixKind P w) a vs:=zpn ok (.inl e)
theorem zmV {ks:List Key} (ok:HOk P w H h) (e:H a = some (.tup (ks.map kV))):(tupleKind (mixKind P w)).is h ks a:=by
  obtain ⟨_,its,r,o,h1,h2,n,h3⟩:=(show ObjOk P w H h a (.tup (ks.map kV)) from ok a _ e)
  exact ⟨o,its.toArray,n,h1,h2,h3,by simpa using zii r⟩
theorem zp1 {kvs:List (List Key × V)} (ok:HOk P w H h) (e:Rd H a (.dT kvs)):kvs.length <= sizeLine /\ (a == sysModules) = false /\
    ∃ xs,KT H kvs xs /\ h.DictOfH (tupleKind (mixKind P w)) a xs:=by
  obtain ⟨z,y,xs,r,o,es,ep,h1,h2,h3,h4,h5⟩:=(show ObjOk P w H h a (.dT kvs) from zqG ok e)
  refine ⟨z,y,xs,r,o,es,ep,h1,h2,h3,h4,fun x hx=>?_,h5⟩
  have all:∀ {l:List (List Key × V)} {m:List (List Key × Addr × Value)},KT H l m -> ∀ x ∈ m,(tupleKind (mixKind P w)).is h x.1 x.2.1:=by
    intro l m q
    induction q with
    | nil=>intro x hx; exact nomatch hx
    | @cons p q ps qs hq t ih =>
      intro x hx
      rcases List.mem_cons.mp hx with e | hx
      · subst e
        exact zmV ok (by rw [<- hq.1]; exact hq.2.1)
      · exact ih x hx
  exact all r x hx
theorem zrT {kvs:List (List Key × V)} (ok:HOk P w H h) (e:H a = some (.dT kvs)):kvs.length <= sizeLine /\ (a == sysModules) = false /\
    ∃ xs,KT H kvs xs /\ h.DictOfH (tupleKind (mixKind P w)) a xs:=zp1 ok (.inl e)
end
def DGet (H:Hp) (a:Addr) (y:V) (r:Option V):Prop :=
  (∃ kvs k,Rd H a (.dK kvs) /\ y = kV k /\ r = valV kvs k) \/ ∃ kvs k b,Rd H a (.dT kvs) /\ y = .ref b /\ H b = some (.tup (k.map kV)) /\ r = valV kvs k
def DPut (H:Hp) (a:Addr) (y v:V) (H':Hp):Prop :=
  (∃ kvs k,H a = some (.dK kvs) /\ y = kV k /\ kvs.length < sizeLine /\ H' = upd H a (.dK (putK kvs k v))) \/
  ∃ kvs k b,H a = some (.dT kvs) /\ y = .ref b /\ H b = some (.tup (k.map kV)) /\ kvs.length < sizeLine /\ H' = upd H a (.dT (putK kvs k v))
section
variable {X:Cx} {pins:List (Addr × Obj)} {σ:St} {H:Hp} {s:Shared} {a:Addr} {y v:V} {u r:Value} {o:Option V} {A:Around} {E:Value -> Shared -> Prop}
theorem Inv.big (I:Inv X pins σ H s):sysModules < s.heap.objs.size:=by
  have h:mainGlobals < s.heap.objs.size:=(I.mod.glob.keeps I.bk).lt
  exact Nat.lt_trans (by decide) h
theorem zjx {h':Heap} {t':Nat} {ob:HO} (I:Inv X pins σ H s) (mu:Mut (H a)) (hs:Heap.SameBut a s.heap h') (he:∃ q,h'.get? a = some q) (new:ObjOk X.prog X.w (upd H a ob) h' a ob) :
    Inv X pins σ (upd H a ob) { s with heap:=h',toks:=t' } :=
  I.write (x:=a) (e:=a) mu (.inl rfl) (fun b q hb z=>(hs.2 b hb).trans z) he new
theorem zoQ {P:Program} {w:World} {H':Hp} {h':Heap} {kvs:List (Key × V)} {vs:List (Key × Value)} (z:kvs.length <= sizeLine) (hd:(a == sysModules) = false) (rel:KV kvs vs) (dd:h'.DictOf (mixKind P w) a vs) :
    ObjOk P w H' h' a (.dK kvs):=⟨z,hd,vs,rel,dd⟩
theorem znn {H':Hp} {Q:Unit -> Shared -> Prop} (hu:A.units + 1 < cLine) (I:Inv X pins σ H s) (g:DPut H a y v H') (ry:RelV y u) (rv:RelV v r) (h:∀ s',Inv X pins σ H' s' -> Q () s') :
    wpAny (model X.prog X.w) A (setItem (.ref a) u r) Q E s:=by
  rcases g with ⟨kvs,k,e,ey,l,eH⟩ | ⟨kvs,k,b,e,ey,eb,l,eH⟩
  · subst ey eH
    obtain ⟨z,hd,vs,rel,dd⟩:=zry I.hok e
    have hz:vs.length <= sizeLine:=by rw [<- rel.length]; exact z
    have hl:(putK kvs k v).length <= sizeLine:=by have:=zeb kvs k v; omega
    refine wpAny_setItem_pairs (hsz:=hz) (znG ry) dd fun h' dd' hs=>h _ ?_
    have he:∃ q,h'.get? a = some q:=let ⟨q,_,_,hq,_⟩:=dd'; ⟨q,hq⟩
    exact zjx I (by rw [e]; exact True.intro) hs he (zoQ hl hd (rel.put k rv) dd')
  · subst ey eH
    cases (show u = Value.ref b from ry)
    obtain ⟨z,hd,xs,rel,dd⟩:=zrT I.hok e
    have hz:xs.length <= sizeLine:=by rw [<- Paired.length rel]; exact z
    have hl:(putK kvs k v).length <= sizeLine:=by have:=zeb kvs k v; omega
    refine wpAny_setItem_heap (hsz:=hz) (tupleKind_room_in1 hu) (zmV I.hok eb) dd fun h' dd' hs=>h _ ?_
    obtain ⟨q,es,ep,hq,h2,h3,h4,_,h5⟩:=dd'
    refine zjx I (by rw [e]; exact True.intro) hs ⟨q,hq⟩ ⟨hl,hd,_,(rel.put k eb rv).keeps fun c ys ec=>?_,q,es,ep,hq,h2,h3,h4,h5⟩
    rw [zJ (zrS ec e (fun z=>nomatch z))]
    exact ec
end
section
variable {X:Cx} {pins:List (Addr × Obj)} {σ:St} {H:Hp} {s:Shared} {a:Addr} {kvs:List (Key × V)} {k:Key} {u:Value} {A:Around} {E:Value -> Shared -> Prop}
end
def sDPut (td ty tv:TE):TS:=fun D σ H=>tv σ H fun v H1=>td σ H1 fun x H2=>ty σ H2 fun y H3=>∃ a H4,x = .ref a /\ DPut H3 a y v H4 /\ D.nx σ H4
section
variable {X:Cx} {o i e value:Expr} {pos pos' tpos:Pos} {td ty tv:TE}
theorem zp9 (hu:X.A.units + 1 < cLine) (ho:PE X o td) (hi:PE X i ty) (hv:PE X value tv) (hs:swapsWith value (some (.Subscript o i pos')) pos.line X.env = pure false) :
    PS X (.Assign [.Subscript o i pos'] value pos) (sDPut td ty tv):=by
  intro pins s σ H D I h
  refine wpAny_Assign_Subscript (thn (hv pins s σ H _ I h) fun r s1 ⟨v,H1,I1,rv,q1⟩=>thn (ho pins s1 σ H1 _ I1 q1) fun u s2 ⟨x,H2,I2,rx,q2⟩=>thn (hi pins s2 σ H2 _ I2 q2) fun iv s3 ⟨y,H3,I3,ry,a,H4,ex,g,q3⟩=>?_) hs
  subst ex
  obtain rfl:u = Value.ref a:=rx
  exact znn hu I3 g ry rv fun s4 I4=>⟨σ,H4,I4,q3⟩
end
theorem zoA {P:Program} {w:World} {H:Hp} (h:Heap) (hb:sysModules < h.objs.size):ObjOk P w H (h.push { cls:=.type "dict",data:=.dict #[] }) h.objs.size (.dK []) :=
  ⟨Nat.zero_le _,beq_eq_false_iff_ne.mpr (Ne.symm (Nat.ne_of_lt hb)),[],.nil,Heap.DictOf.new h⟩
theorem zoo {P:Program} {w:World} {H:Hp} (h:Heap) (hb:sysModules < h.objs.size):ObjOk P w H (h.push { cls:=.type "dict",data:=.dict #[] }) h.objs.size (.dT []) :=
  ⟨Nat.zero_le _,beq_eq_false_iff_ne.mpr (Ne.symm (Nat.ne_of_lt hb)),[],.nil,_,#[],0,Heap.get?_push_size _ rfl,⟨rfl,rfl,rfl⟩,rfl,rfl,List.nodup_nil⟩
def tDNewT:TE:=fun _ H Q=>∀ p,H p = none -> Q (.ref p) (upd H p (.dT []))
section
variable {X:Cx} {pos:Pos}
theorem pe_dnewT:PE X (.Dict [] [] pos) tDNewT:=fun pins s σ H Q I h =>
  wpAny_Dict_empty ⟨.ref s.heap.objs.size,_,I.laid (a:=s.heap.objs.size) (o:=.dT []) (t':=s.toks) (fun _ _ q=>Heap.get?_push_of_some _ q) (Nat.le_refl _) (zoo s.heap I.big),rfl,h _ (I.hok.fresh (Nat.le_refl _))⟩
end
def tPairs:List (TE × TE) -> St -> Hp -> (List (V × V) -> Hp -> Prop) -> Prop
  | [],_,H,Q=>Q [] H
  | (tk,tv) :: r,σ,H,Q=>tk σ H fun x H1=>tv σ H1 fun y H2=>tPairs r σ H2 fun ps H3=>Q ((x,y) :: ps) H3
abbrev VV:List (V × V) -> List (Value × Value) -> Prop:=Paired fun p q=>RelV p.1 q.1 /\ RelV p.2 q.2
def PPs (X:Cx) (pos:Pos) (keys:List (Option Expr)) (values:List Expr) (trs:List (TE × TE)):Prop :=
  ∀ (pins:List (Addr × Obj)) (s:Shared) (σ:St) (H:Hp) (Q:List (V × V) -> Hp -> Prop),Inv X pins σ H s -> tPairs trs σ H Q ->
    wpAny (model X.prog X.w) X.A (evalPairs (pairTrees keys values X.env pos)) (fun vs s'=>∃ ps H',Inv X pins σ H' s' /\ VV ps vs /\ Q ps H') X.xe s
theorem zpm {X:Cx} {pos:Pos}:PPs X pos [] [] []:=fun pins s σ H Q I h=>pairTrees_nil_walk ⟨[],H,I,.nil,h⟩
theorem znE {X:Cx} {pos:Pos} {k v:Expr} {ks:List (Option Expr)} {vs:List Expr} {tk tv:TE} {trs:List (TE × TE)} (hk:PE X k tk) (hv:PE X v tv) (hr:PPs X pos ks vs trs) :
    PPs X pos (some k :: ks) (v :: vs) ((tk,tv) :: trs):=fun pins s σ H Q I h =>
  pairTrees_cons_walk (thn (hk pins s σ H _ I h) fun u s1 ⟨x,H1,I1,rx,q1⟩=>thn (hv pins s1 σ H1 _ I1 q1) fun w2 s2 ⟨y,H2,I2,ry,q2⟩ =>
    thn (hr pins s2 σ H2 _ I2 q2) fun ws s3 ⟨ps,H3,I3,rel,q3⟩=>⟨(x,y) :: ps,H3,I3,.cons ⟨rx,ry⟩ rel,q3⟩)
def mergeK (kvs more:List (Key × V)):List (Key × V):=more.foldl (fun acc kv=>putK acc kv.1 kv.2) kvs
theorem KV.merge:∀ {more:List (Key × V)} {rs:List (Key × Value)} {kvs:List (Key × V)} {vs:List (Key × Value)},KV more rs -> KV kvs vs -> KV (mergeK kvs more) (merged vs rs):=by
  intro more rs kvs vs r
  unfold KV at r
  induction r generalizing kvs vs with
  | nil=>intro q; exact q
  | @cons p q ps qs h t ih =>
    intro r0
    have e:KV (putK kvs p.1 p.2) (stored vs q.1 q.2):=by
      have:=r0.put p.1 h.2
      rw [<- h.1]; exact this
    exact ih e
theorem zek:∀ (more kvs:List (Key × V)),(mergeK kvs more).length <= kvs.length + more.length
  | [],kvs=>by show kvs.length <= kvs.length + 0; omega
  | p :: r,kvs=>by
    have h1:=zek r (putK kvs p.1 p.2)
    have h2:=zeb kvs p.1 p.2
    show (mergeK (putK kvs p.1 p.2) r).length <= _
    rw [List.length_cons]; omega
theorem zg9 {P:Program} {w:World}:∀ {kvs:List (Key × V)} {ws:List (Value × Value)},VV (kvs.map fun kv=>(kV kv.1,kv.2)) ws -> ∃ rs,Carries (mixKind P w) ws rs /\ KV kvs rs
  | [],_,r=>by rw [List.map_nil] at r; cases r; exact ⟨[],True.intro,.nil⟩
  | p :: kvs,_,r=>by
    rw [List.map_cons] at r
    cases r with
    | @cons a b as bs h t =>
      obtain ⟨rs,c,q⟩:=zg9 (P:=P) (w:=w) t
      obtain ⟨b1,b2⟩:=b
      exact ⟨(p.1,b2) :: rs,⟨znG h.1,rfl,c⟩,.cons ⟨rfl,h.2⟩ q⟩
def tDisp (trs:List (TE × TE)):TE:=fun σ H Q=>∀ p,H p = none -> tPairs trs σ (upd H p (.dK [])) fun ps H2=>H2 p = some (.dK []) /\ ∃ kvs:List (Key × V),ps = kvs.map (fun kv=>(kV kv.1,kv.2)) /\ kvs.length <= 15 /\ Q (.ref p) (upd H2 p (.dK (mergeK [] kvs)))
theorem zpb {X:Cx} {pos:Pos} {keys:List (Option Expr)} {values:List Expr} {trs:List (TE × TE)} (h:PPs X pos keys values trs) (hall:keys.all (·.isSome) = true) (hl:keys.length = values.length) (h0:keys ≠ [])
    (h15:keys.length <= 15):PE X (.Dict keys values pos) (tDisp trs):=by
  intro pins s σ H Q I q
  have hn:=I.hok.fresh (Nat.le_refl s.heap.objs.size)
  have I1:=I.laid (a:=s.heap.objs.size) (o:=.dK []) (h':=s.heap.push { cls:=.type "dict",data:=.dict #[] }) (t':=s.toks) (fun _ _ q=>Heap.get?_push_of_some _ q) (Nat.le_refl _) (zoA s.heap I.big)
  refine wpAny_Dict_walk (knd:=mixKind X.prog X.w) hall hl h0 h15 (thn (h pins _ σ _ _ I1 (q _ hn)) fun ws s2 ⟨ps,H2,I2,rel,e,kvs,ep,lk,q2⟩=>?_)
  subst ep
  obtain ⟨rs,c,rk⟩:=zg9 (P:=X.prog) (w:=X.w) rel
  obtain ⟨z,hd,vs0,r0,dd⟩:=zry I2.hok e
  cases r0
  refine ⟨rs,c,dd,fun h' dd' hs=>⟨.ref s.heap.objs.size,_,?_,rfl,q2⟩⟩
  have hz:(mergeK [] kvs).length <= sizeLine:=by
    have h1:=zek kvs []
    rw [List.length_nil] at h1
    rw [sizeLine_eq]; omega
  have he:∃ q,h'.get? s.heap.objs.size = some q:=let ⟨q,_,_,hq,_⟩:=dd'; ⟨q,hq⟩
  exact zjx I2 (by rw [e]; exact True.intro) hs he (zoQ hz hd (rk.merge .nil) dd')
structure M2 (X:Cx) (o:Expr) (m:Str) (apos:Pos) (e f:Expr) (cpos:Pos):Prop where
  base:attributeBase o m X.env (eval o X.env) = eval o X.env
  few:((backTo cpos (starEach [e,f] X.env)).all (fun x=>!x.1) && (backToKw cpos (keywordEach [] X.env)).all (fun x=>x.1.isSome)
    && decide (([e,f]:List Expr).length + ([]:List Keyword).length + (if ([]:List Keyword).isEmpty then 0 else 1) < 30)) = true
  line:(apos.endLine == cpos.line) = true
  trees:backTo cpos (starEach [e,f] X.env) = [(false,eval e X.env),(false,eval f X.env)]
def IsD (H:Hp) (a:Addr):Prop:=(∃ kvs,Rd H a (.dK kvs)) \/ ∃ kvs,Rd H a (.dT kvs)
theorem zrb {X:Cx} {pins:List (Addr × Obj)} {σ:St} {H:Hp} {s:Shared} {a:Addr} (I:Inv X pins σ H s) (d:IsD H a) :
    s.TypeIs (.ref a) "dict" /\ (∀ b,Value.ref a = .ref b -> ∃ ob,s.heap.get? b = some ob /\ ob.dict = none) /\ (a == sysModules) = false:=by
  rcases d with ⟨kvs,e⟩ | ⟨kvs,e⟩
  · obtain ⟨_,hd,vs,_,dd⟩:=zpn I.hok e
    refine ⟨dd.typeIs,fun b q=>?_,hd⟩
    cases q
    obtain ⟨ob,_,_,h1,h2,_⟩:=dd
    exact ⟨ob,h1,h2.2.1⟩
  · obtain ⟨_,hd,xs,_,dd⟩:=zp1 I.hok e
    refine ⟨dd.typeIs,fun b q=>?_,hd⟩
    cases q
    obtain ⟨ob,_,_,h1,h2,_⟩:=dd
    exact ⟨ob,h1,h2.2.1⟩
section
variable {X:Cx} {pins:List (Addr × Obj)} {σ:St} {H:Hp} {s:Shared} {a:Addr} {y d:V} {u r:Value} {o:Option V} {A:Around} {E:Value -> Shared -> Prop}
theorem zqI {Q:Value -> Shared -> Prop} (hu:A.units + 1 < cLine) (I:Inv X pins σ H s) (g:DGet H a y o) (ry:RelV y u) (rd:RelV d r) (h:∀ w' s',Inv X pins σ H s' -> RelV (o.getD d) w' -> Q w' s') :
    wpAny (model X.prog X.w) A (call (.builtin "dict.get") [.ref a,u,r]) Q E s:=by
  rcases g with ⟨kvs,k,e,ey,l⟩ | ⟨kvs,k,b,e,ey,eb,l⟩
  · subst ey
    obtain ⟨z,hd,vs,rel,dd⟩:=zpn I.hok e
    refine call_meetsIn PySem.F.slot_dict_get dd.typeIs PySem.F.entry_dict_get (PySem.F.args_dict_get_3 _ _ _) (meets_dict_get_default (mixKind X.prog X.w) a (znG ry) hd r) ⟨_,dd.mapOf,h _ _ (I.tok _) ?_⟩
    rw [l]
    exact (rel.val k).getD rd
  · subst ey
    cases (show u = Value.ref b from ry)
    obtain ⟨z,hd,xs,rel,dd⟩:=zp1 I.hok e
    refine call_meetsIn PySem.F.slot_dict_get dd.typeIs PySem.F.entry_dict_get (PySem.F.args_dict_get_3 _ _ _) (meetsH_dict_get_default (tupleKind (mixKind X.prog X.w)) a b hd r) ⟨tupleKind_room_in1 hu,k,xs,zmV I.hok eb,dd,h _ _ (I.tok _) ?_⟩
    rw [l]
    exact (rel.val k).getD rd
end
def tDGet2 (td ty tx:TE):TE:=fun σ H Q=>td σ H fun x H1=>∃ a,x = .ref a /\ IsD H1 a /\ ty σ H1 fun y H2=>tx σ H2 fun z H3=>∃ o,DGet H3 a y o /\ Q (o.getD z) H3
section
variable {X:Cx} {o e f:Expr} {apos cpos:Pos} {td ty tx:TE}
theorem zoq (hu:X.A.units + 1 < cLine) (ho:PE X o td) (he:PE X e ty) (hf:PE X f tx) (m:M2 X o "get" apos e f cpos):PE X (.Call (.Attribute o "get" apos) [e,f] [] cpos) (tDGet2 td ty tx):=by
  intro pins s σ H Q I h
  refine wpAny_Call_method m.base m.few m.line PySem.F.plainAttrs_dict PySem.F.slot_dict_get PySem.F.type_dict_get (thn (ho pins s σ H _ I h) fun u s1 ⟨x,H1,I1,rx,a,ex,d,q1⟩=>?_)
  subst ex
  obtain rfl:u = Value.ref a:=rx
  obtain ⟨t1,t2,_⟩:=zrb I1 d
  refine ⟨t1,t2,?_⟩
  rw [m.trees]
  refine Calls.callWith_builtin rfl (Calls.evalArgs_plain (Calls.spliced_cons (thn (he pins s1 σ H1 _ I1 q1) fun iv s2 ⟨y,H2,I2,ry,q2⟩ =>
    Calls.spliced_cons (thn (hf pins s2 σ H2 _ I2 q2) fun fv s3 ⟨z,H3,I3,rz,ov,g,q3⟩=>Calls.spliced_nil ?_))))
  exact zqI hu I3 g ry rz fun w' s4 I4 rw'=>⟨_,H3,I4,rw',q3⟩
end
section
variable {X:Cx} {pins:List (Addr × Obj)} {σ:St} {H:Hp} {s:Shared} {a:Addr} {kvs:List (Key × V)} {A:Around} {E:Value -> Shared -> Prop}
end
section
variable {X:Cx} {pins:List (Addr × Obj)} {σ:St} {H:Hp} {s:Shared} {a:Addr} {y:V} {u:Value} {A:Around} {E:Value -> Shared -> Prop}
end
end L2
namespace WE
open PySem PySem.Spec PyProof.Rows
open AutoSeq1 (wpAny_loadPart')
section
variable {pg:Program} {wd:World} {A:Around} {Er:Value -> Shared -> Prop} {s:Shared}
theorem zkW {it t:Addr} {i:Nat} {xs:Array Value} {x:Value} {Q:Value -> Shared -> Prop} (hi:s.heap.IsTupleIter it t i) (ht:s.heap.IsTuple t xs) (hx:xs[i]? = some x)
    (k:∀ h',h'.IsTupleIter it t (i + 1) -> Heap.SameBut it s.heap h' -> Q x { s with heap:=h' }):wpAny (model pg wd) A (Builtin.SmallTypes.nextOf (.ref it)) Q Er s:=by
  obtain ⟨oi,gi,ci,di⟩:=id hi
  obtain ⟨ot,gt,_,nt,dt⟩:=ht
  unfold Builtin.SmallTypes.nextOf
  refine wpAny_bind (wpAny_callSpecial?_slot (name:=Str.ofString "__next__") hi.typeIs F.slot_tuple_iterator_next (wpAny_call_entry F.slot_tuple_iterator_next hi.typeIs F.entry_tuple_iterator_next ?_ (F.args_tuple_iterator_next_1 _)))
  show wpAny _ _ (field (.ref it) 0 >>= _) _ _ _
  refine wpAny_bind (wpAny_field gi di (x:=.ref t) rfl ?_); show wpAny _ _ (if (Value.ref t == Value.none) = true then _ else _) _ _ _
  rw [if_neg (show ¬ ((Value.ref t == Value.none) = true) from fun z=>Bool.false_ne_true z)]; show wpAny _ _ (field (.ref it) 1 >>= _) _ _ _
  refine wpAny_bind (wpAny_field gi di (x:=.int i 0) rfl ?_); show wpAny _ _ (seqItems? (.ref t) >>= _) _ _ _
  refine wpAny_bind (wpAny_seqItems gt dt ?_)
  simp only [Int.toNat_natCast,hx]
  refine wpAny_bind (wpAny_setField gi di (by simp) (wpAny_pure ⟨x,rfl,wpAny_pure (k _ ?_ (Heap.SameBut.update ..))⟩))
  refine ⟨_,Heap.get?_update_self _ gi (Obj.isFreed_of_fields (Obj.data_mapFields di _)),(Obj.cls_mapFields ..).trans ci,?_⟩
  rw [Obj.data_mapFields di]; simp [rawInt]
theorem znf {it t:Addr} {i:Nat} {xs:Array Value} {Q:Value -> Shared -> Prop} (hh:A.handled = none) (hi:s.heap.IsTupleIter it t i) (ht:s.heap.IsTuple t xs) (hx:xs[i]? = none)
    (k:∀ h' e,Heap.ExtBut it s.heap h' -> (∃ o,h'.get? e = some o /\ o.cls = .type "StopIteration") -> Er (.ref e) { s with heap:=h' }):wpAny (model pg wd) A (Builtin.SmallTypes.nextOf (.ref it)) Q Er s:=by
  obtain ⟨oi,gi,ci,di⟩:=id hi
  obtain ⟨ot,gt,_,nt,dt⟩:=ht
  unfold Builtin.SmallTypes.nextOf
  refine wpAny_bind (wpAny_callSpecial?_slot (name:=Str.ofString "__next__") hi.typeIs F.slot_tuple_iterator_next (wpAny_call_entry F.slot_tuple_iterator_next hi.typeIs F.entry_tuple_iterator_next ?_ (F.args_tuple_iterator_next_1 _)))
  show wpAny _ _ (field (.ref it) 0 >>= _) _ _ _
  refine wpAny_bind (wpAny_field gi di (x:=.ref t) rfl ?_); show wpAny _ _ (if (Value.ref t == Value.none) = true then _ else _) _ _ _
  rw [if_neg (show ¬ ((Value.ref t == Value.none) = true) from fun z=>Bool.false_ne_true z)]; show wpAny _ _ (field (.ref it) 1 >>= _) _ _ _
  refine wpAny_bind (wpAny_field gi di (x:=.int i 0) rfl ?_); show wpAny _ _ (seqItems? (.ref t) >>= _) _ _ _
  refine wpAny_bind (wpAny_seqItems gt dt ?_)
  simp only [Int.toNat_natCast,hx]
  refine wpAny_bind (wpAny_rule (wpAny_bind (wpAny_setField gi di (by simp) ?_))); show wpAny _ _ (newExc (.type "StopIteration") [] >>= _) _ _ _
  refine wpAny_bind ?_; simp only [newExc,newTuple]
  refine wpAny_bind (wpAny_newObj_type ?_ (by size_fits)); refine wpAny_bind (m:=firstArgMember _ _) (wpAny_of_eq (a:=Value.none) (by first | rfl | (simp only [firstArgMember]; rfl)) ?_)
  refine wpAny_newObj_type ?_ (by size_fits); simp only [raiseNew]
  refine wpAny_bind (wpAny_handled ?_); first | rw [show A.in1.handled = none from hh] | rw [hh]
  refine wpAny_bind (wpAny_pure (wpAny_throw ?_))
  exact k _ _ (((Heap.SameBut.update ..).extBut.push _).push _) ⟨_,Heap.get?_push_size _ rfl,rfl⟩
end
theorem draws_tuple {pg:Program} {wd:World} {A:Around} (hh:A.handled = none) (it t:Addr) (hne:t ≠ it) (xs:Array Value) :
    Draws pg wd A it [it,t] xs.size (fun i v=>xs[i]? = some v) (fun i h=>h.IsTupleIter it t i /\ h.IsTuple t xs) where
  live:=fun _ _ st=>let ⟨o,g,_⟩:=st.1; ⟨o,g⟩
  frame:=fun _ _ _ st kp=>⟨let ⟨o,g,r⟩:=st.1; ⟨o,kp it (by simp) o g,r⟩,let ⟨o,g,r⟩:=st.2; ⟨o,kp t (by simp) o g,r⟩⟩
  item:=fun i s Q E hi st hQ=>zkW st.1 st.2 (x:=xs[i]) (by simp [hi]) fun h' hit' hs'=>hQ _ h' s.toks (by simp [hi]) ⟨hit',st.2.extBut hs'.extBut hne⟩ hs'
  done:=fun s Q E st hE=>znf hh st.1 st.2 (by simp) hE
theorem zju (l:Addr) (xs:Array Value) (n:Nat) (dc:Option Addr) (sl:Array (Option Value)) :
    Meets (Builtin.«enumerate.__new__» ⟨[.type "enumerate",.ref l],[]⟩) (fun _ R s=>s.heap.get? l = some { cls:=.type "tuple",dict:=dc,data:=.seq xs n,slots:=sl } /\
      R (.ok (.ret (.ref (s.heap.push { cls:=.type "tuple_iterator",data:=.fields #[.ref l,.int 0 0] }).objs.size)))
        { s with heap:=(s.heap.push { cls:=.type "tuple_iterator",data:=.fields #[.ref l,.int 0 0] }).push { cls:=.type "enumerate",data:=.fields #[.none,.bool false,.ref s.heap.objs.size,rawInt 0,.none,.none] } }) :=
  .of_wp fun prog w A R s h=>by
    obtain ⟨hp,g,d,tk,os⟩:=s; obtain ⟨gl,h⟩:=h
    have hsub:=sub_enumerate
    have hT:Heap.IsTuple (Shared.heap ⟨hp,g,d,tk,os⟩) l xs:=⟨_,gl,rfl,n,rfl⟩
    wp_walk using wpAny_loadPart' gl
    refine wpAny_stack_any fun st=>wpAny_pure ?_
    split
    · rename_i c _ _ _ _ _
      cases (c == Value.type "enumerate")
      · wp_walk using wpAny_loadPart' gl,wpAny_pyIter_tuple hT
        exact ⟨_,rfl,h⟩
      · wp_walk using wpAny_loadPart' gl,wpAny_pyIter_tuple hT
        exact ⟨_,rfl,h⟩
    · wp_walk using wpAny_loadPart' gl,wpAny_pyIter_tuple hT
      exact ⟨_,rfl,h⟩
theorem call_enumT {pg:Program} {wd:World} {A:Around} {Er:Value -> Shared -> Prop} {s:Shared} {l:Addr} {xs:Array Value} {Q:Value -> Shared -> Prop} (hT:s.heap.IsTuple l xs)
    (k:∀ h',IsEnum h' (s.heap.objs.size + 1) s.heap.objs.size 0 .none -> h'.IsTupleIter s.heap.objs.size l 0 -> h'.objs.size = s.heap.objs.size + 2 ->
      (∀ b o,s.heap.get? b = some o -> h'.get? b = some o) -> Q (.ref (s.heap.objs.size + 1)) { s with heap:=h' }):wpAny (model pg wd) A (call (.type "enumerate") [.ref l]) Q Er s:=by
  obtain ⟨⟨c,dct,dt,sl⟩,gl,hc,n,hd⟩:=hT
  cases (show c = .type "tuple" from hc)
  cases (show dt = .seq xs n from hd)
  refine callType_new F.called_enumerate (by decide) (F.typeCall_enumerate_1 _) (F.newCall_enumerate_1 _) (fun obj=>F.args_object_init_2 obj _) F.entry_enumerate_new (zju l xs n dct sl) ⟨gl,?_⟩
  have hz:(s.heap.push { cls:=.type "tuple_iterator",data:=.fields #[.ref l,.int 0 0] }).objs.size = s.heap.objs.size + 1:=Heap.size_push ..
  show _ /\ _
  rw [hz]
  have he:IsEnum ((s.heap.push { cls:=.type "tuple_iterator",data:=.fields #[.ref l,.int 0 0] }).push { cls:=.type "enumerate",data:=.fields #[.none,.bool false,.ref s.heap.objs.size,rawInt 0,.none,.none] }) (s.heap.objs.size + 1) s.heap.objs.size 0 .none:=by
    have q:=Heap.get?_push_size (s.heap.push { cls:=.type "tuple_iterator",data:=.fields #[.ref l,.int 0 0] }) (o:={ cls:=.type "enumerate",data:=.fields #[.none,.bool false,.ref s.heap.objs.size,rawInt 0,.none,.none] }) rfl
    rw [hz] at q; exact q
  exact ⟨⟨_,he,rfl⟩,k _ he ⟨_,Heap.get?_push_of_some _ (Heap.get?_push_size _ rfl),rfl,rfl⟩ (by rw [Heap.size_push,hz]) fun b o y=>Heap.get?_push_of_some _ (Heap.get?_push_of_some _ y)⟩
end WE
namespace L2
open PySem PySem.Spec PyProof.Rows
section
variable {X:Cx}
def CDivB (i j:Int):Prop:=0 < j /\ j < 10000000000000000000000000000000000000000000000000000000000000000000000
theorem zob:OpR X (binaryOp .FloorDiv) (rI CDivB fun i j=>.int (i / j)):=opI fun i j _ _ _ _ _ hc q=>by
  obtain ⟨h1,h2⟩:=hc
  refine floordiv_int (by omega) (by rw [Int.fdiv_eq_ediv_of_nonneg i (by omega)]; exact q) (.inl (PyProof.noPylong_of_log2 ?_))
  have h0:j.natAbs ≠ 0:=by omega
  refine Nat.lt_of_lt_of_le ((Nat.log2_lt h0).mpr (?_:j.natAbs < 2 ^ 250)) (by decide)
  have e:(10000000000000000000000000000000000000000000000000000000000000000000000:Nat) < 2 ^ 250:=by decide
  omega
end
section
variable {X:Cx} {pins:List (Addr × Obj)} {σ:St} {H:Hp} {s:Shared} {h':Heap}
theorem Inv.turnLaid {t':Nat} {ch:List Addr} {T:Addr} {o:HO} (I:Inv X pins σ H s) (hf:∀ b ∈ ch,FpOk X pins H b) (k:∀ b u,b ∉ ch -> s.heap.get? b = some u -> h'.get? b = some u)
    (hp:s.heap.objs.size <= T) (new:ObjOk X.prog X.w (upd H T o) h' T o):Inv X pins σ (upd H T o) { s with heap:=h',toks:=t' }:=by
  have hn:H T = none:=I.hok.fresh hp
  have nch:∀ b u,H b = some u -> b ∉ ch:=fun b u e z=>by
    have q:=(hf b z).1
    rw [e] at q
    cases q
  refine I.step (g':=s.gens) (d':=s.drawn) (ch:=ch) (fun b hb=>?_) (fun b u _ _ hc e _=>k b u hc e) (fun b u _ _ hc e _=>⟨u.slots,k b u hc e⟩) (fun b u _ e n=>?_) (fun b u hc e=>⟨u,k b u hc e⟩) (fun b xs e=>?_) (fun b u v e=>?_) (fun b ps e=>⟨#[],?_⟩) (fun m hm=>?_) (fun b u e=>?_) I.bare
  · obtain ⟨f0,f1,f2,f3,f4,f5⟩:=hf b hb
    exact ⟨f3,f1,f4,f5⟩
  · rw [zJ (Nat.ne_of_lt (Nat.lt_of_lt_of_le (Heap.lt_size e) hp))]
    exact n
  · rw [zJ (zR e hn)]
    exact e
  · rw [zJ (zR e hn)]
    exact e
  · rw [zJ (zR e hn),e]
    simp
  · obtain ⟨ob,es,ep,ho,r⟩:=hm
    exact ⟨ob,es,ep,k _ ob (fun z=>(hf _ z).2.1 rfl) ho,r⟩
  · by_cases hb:b = T
    · subst hb
      rw [zab] at e
      cases e
      exact new
    · rw [zJ hb] at e
      refine (I.hok b u e).stay (fun c v hc q=>k c v ?_ q) (fun c q=>by rw [zJ (zR q hn)]; exact q) fun c xs q=>by rw [zJ (zR q hn)]; exact q
      rcases hc with z | z
      · rw [z]
        exact nch b u e
      · exact nch c _ z
theorem Inv.turnedL {t':Nat} {ch:List Addr} (I:Inv X pins σ H s) (hf:∀ b ∈ ch,FpOk X pins H b) (k:∀ b u,b ∉ ch -> s.heap.get? b = some u -> h'.get? b = some u):Inv X pins σ H { s with heap:=h',toks:=t' }:=by
  have nch:∀ b u,H b = some u -> b ∉ ch:=fun b u e z=>by
    have q:=(hf b z).1
    rw [e] at q
    cases q
  refine I.step (g':=s.gens) (d':=s.drawn) (ch:=ch) (fun b hb=>?_) (fun b u _ _ hc e _=>k b u hc e) (fun b u _ _ hc e _=>⟨u.slots,k b u hc e⟩) (fun _ _ _ _ n=>n) (fun b u hc e=>⟨u,k b u hc e⟩) (fun _ _ e=>e) (fun _ _ _ e=>e) (fun b ps e=>⟨#[],by rw [e]; simp⟩) (fun m hm=>?_) (fun b u e=>?_) I.bare
  · obtain ⟨f0,f1,f2,f3,f4,f5⟩:=hf b hb
    exact ⟨f3,f1,f4,f5⟩
  · obtain ⟨ob,es,ep,ho,r⟩:=hm
    exact ⟨ob,es,ep,k _ ob (fun z=>(hf _ z).2.1 rfl) ho,r⟩
  · refine (I.hok b u e).stay (fun c v hc q=>k c v ?_ q) (fun _ q=>q) fun _ _ q=>q
    rcases hc with z | z
    · rw [z]
      exact nch b u e
    · exact nch c _ z
end
def Ite (K:PySem.W.Frag) (a:Addr):It :=
  ⟨fun i H=>∃ xs x,SqT K H a xs /\ xs[i]? = some x,fun i H x H'=>∃ T,H T = none /\ x = .ref T /\ ∀ xs y,SqT K H a xs -> xs[i]? = some y -> H' = upd H T (.tup [.int i,y]),fun i H=>∃ xs,SqT K H a xs /\ xs.length = i⟩
theorem zgY {h:Heap} {a b:Addr} {o u:Obj} (x:h.get? a = some o) (y:h.get? b = some u) (z:o.cls ≠ u.cls):a ≠ b:=fun e=>by
  subst e
  rw [x] at y
  cases y
  exact z rfl
theorem zk8 {P:Program} {w:World} {K:PySem.W.Frag} {es:List Expr} {kk:Nat} {pos:Pos} (a e it:Addr) :
    Turn P w K (.Tuple es kk pos) (Ite K a) [e,it] e (fun i h=>(∃ old,IsEnum h e it i old) /\ h.IsTupleIter it a i) where
  mem:=by simp
  obj:=fun i h st b hb=>by
    obtain ⟨⟨old,he⟩,oi,gi,ci,di⟩:=st
    rcases List.mem_cons.mp hb with z | z
    · subst z
      exact ⟨_,he,fun v y=>nomatch y⟩
    · have z:b = it:=by simpa using z
      subst z
      exact ⟨oi,gi,fun v y=>by rw [di] at y; cases y⟩
  keep:=fun i h h' st k=>by
    obtain ⟨⟨old,he⟩,oi,gi,r⟩:=st
    exact ⟨⟨old,k e (by simp) _ he⟩,oi,k it (by simp) _ gi,r⟩
  item:=by
    intro X hP hw hK hc i pins s σ H E I hf st hg
    subst hP hw hK
    obtain ⟨xs,x,hq,hx⟩:=hg
    obtain ⟨its,rv,p,hz⟩:=I.tuple hq
    obtain ⟨⟨old,he⟩,hi⟩:=st
    obtain ⟨oi,gi,ci,di⟩:=id hi
    obtain ⟨oa,ga,ca,na,da⟩:=id p
    have nai:a ≠ it:=zgY ga gi (by rw [ca,ci]; exact fun z=>absurd (Value.type.inj z) (by decide))
    have nei:e ≠ it:=zgY he gi (by rw [ci]; exact fun z=>absurd (Value.type.inj z) (by decide))
    have nea:e ≠ a:=zgY he ga (by rw [ca]; exact fun z=>absurd (Value.type.inj z) (by decide))
    have hl:=rv.length
    have hil:i < its.toArray.size:=by
      have:=(List.getElem?_eq_some_iff.mp hx).1
      simpa using (by omega:i < its.length)
    have W:=WalksT.enumerateD (prog:=X.prog) (w:=X.w) (A:=X.A) (WE.draws_tuple (pg:=X.prog) (wd:=X.w) (A:=X.A.in1) (I.ok.hd hc) it a nai its.toArray) e nei (by simp [nei,nea]) (by simp)
    refine W.item i s _ E hil ⟨⟨old,he⟩,hi,p⟩ fun T vals h1 tk hP hsz hT mid kp=>⟨.ref T,rfl,?_⟩
    refine W.go es kk pos i T _ _ E mid fun h2 st2 kp2=>?_
    obtain ⟨t,y,hy,rfl⟩:=hP
    obtain ⟨u,hu,ru⟩:=rv.get hx
    have ey:y = u:=Option.some.inj (hy.symm.trans (by simpa using hu))
    subst ey
    have hch:∀ b o,b ∉ [e,it] -> s.heap.get? b = some o -> h2.get? b = some o:=fun b o hb q=>kp2 b o hb (kp b o hb q)
    have hTw:=W.apart i T h1 mid
    have new:ObjOk X.prog X.w (upd H T (.tup [.int i,x])) h2 T (.tup [.int i,x]):=by
      obtain ⟨o,g,r⟩:=hT
      exact ⟨by show 2 <= sizeLine; decide,[.int i t,y],.cons ⟨t,rfl⟩ (.cons ru .nil),o,kp2 T o hTw g,r⟩
    have I2:=I.turnLaid (t':=tk) hf hch hsz new
    refine ⟨.ref T,_,I2,rfl,⟨T,I.hok.fresh hsz,rfl,fun ys z hy' hz'=>?_⟩,⟨st2.1,st2.2.1⟩,fun b hb=>?_⟩
    · rw [I.tuple_inj hy' hq] at hz'
      rw [hx] at hz'
      cases hz'
      rfl
    · rw [zJ (fun z:b = T=>hTw (z ▸ hb))]
      exact (hf b hb).1
  done:=by
    intro X hP hw hK hc i pins s σ H E I hf st hg
    subst hP hw hK
    obtain ⟨xs,hq,hx⟩:=hg
    obtain ⟨its,rv,p,hz⟩:=I.tuple hq
    obtain ⟨⟨old,he⟩,hi⟩:=st
    obtain ⟨oi,gi,ci,di⟩:=id hi
    obtain ⟨oa,ga,ca,na,da⟩:=id p
    have nai:a ≠ it:=zgY ga gi (by rw [ca,ci]; exact fun z=>absurd (Value.type.inj z) (by decide))
    have nei:e ≠ it:=zgY he gi (by rw [ci]; exact fun z=>absurd (Value.type.inj z) (by decide))
    have nea:e ≠ a:=zgY he ga (by rw [ca]; exact fun z=>absurd (Value.type.inj z) (by decide))
    have hl:=rv.length
    have W:=WalksT.enumerateD (prog:=X.prog) (w:=X.w) (A:=X.A) (WE.draws_tuple (pg:=X.prog) (wd:=X.w) (A:=X.A.in1) (I.ok.hd hc) it a nai its.toArray) e nei (by simp [nei,nea]) (by simp)
    have en:its.toArray.size = i:=by simp; omega
    refine W.done s _ E (by rw [en]; exact ⟨⟨old,he⟩,hi,p⟩) fun h2 tk kp=>⟨rfl,I.turnedL (t':=tk) hf kp⟩
  self:=fun _ _ _ _ _ st q=>by
    obtain ⟨⟨old,he⟩,_⟩:=st
    exact wpAny_pyIter_enum he q
def iEnT (K:PySem.W.Frag) (ta:TA):TI:=fun σ H R=>ta σ H fun vs H1=>∃ a,vs = [.ref a] /\ (∃ xs,SqT K H1 a xs) /\ R (Ite K a) H1
theorem znN {X:Cx} {a:Expr} {es:List Expr} {kk:Nat} {tp:Pos} {ta:TA} {p pos:Pos} (hg:Gl X "enumerate") (hm:X.mg "enumerate" = none) (ha:PA X [a] ta) (hs:starEach [a] X.env = [(false,eval a X.env)]:=by rfl) :
    PI X (.Tuple es kk tp) (.Call (.Name "enumerate" p) [a] [] pos) (iEnT X.K ta):=by
  intro pins s σ H R I h
  refine wpAny_Call_Name_kw (zg5 I hg hm boot_enumerate ?_)
  refine PyProof.Rows.callWith_type1 (thn (ha pos pins s σ H _ I h) fun us s1 ⟨vs,H1,I1,r1,q1⟩=>?_) hs rfl
  obtain ⟨l,rfl,⟨xs,hq⟩,q⟩:=q1
  obtain ⟨u,rfl,ru⟩:=Vals.one r1
  cases (show u = Value.ref l from ru)
  obtain ⟨its,rv,pt,hz⟩:=I1.tuple hq
  refine WE.call_enumT (show s1.heap.IsTuple l its.toArray from pt) fun h1 he hi hsz kp=>?_
  refine wpAny_pyIter_enum he ?_
  refine ⟨_,[s1.heap.objs.size + 1,s1.heap.objs.size],_,_,H1,rfl,I1.kept (t':=s1.toks) kp,zk8 l _ s1.heap.objs.size,⟨⟨_,he⟩,hi⟩,fun b hb=>?_,q⟩
  have hb2:s1.heap.objs.size <= b:=by
    rcases List.mem_cons.mp hb with z | z
    · subst z
      exact Nat.le_succ _
    · have z:b = s1.heap.objs.size:=by simpa using z
      subst z
      exact Nat.le_refl _
  exact I1.fpOk hb2 (I1.hok.fresh hb2)
end L2
namespace L2
open PySem PySem.Spec PyProof.Rows
abbrev No:Value -> Shared -> Prop:=fun _ _=>False
abbrev ifsOf (ifs:List Expr) (env:Env):Sem Bool:=forIn ifs true fun c r=>if r = true then do let ok <- isTrue c env (eval c env); pure (ForInStep.yield ok) else pure (ForInStep.yield r)
section
variable {pg:Program} {wd:World} {A:Around} {R:Result -> Shared -> Prop} {s:Shared}
theorem zmA {elt tg iter:Expr} {ifs:List Expr} {sc:Scope} {pos:Pos} {it acc:Value} {env:Env} (I:Nat -> Shared -> Prop)
    (turn:∀ n s,I n s -> wpAny (model pg wd) A (pyNext it) (fun r s1=>match r with
      | none=>R (.ok .next) s1
      | some v=>wpAny (model pg wd) A (letOwnedTupleGo tg it v) (fun _ s2=>wpAny (model pg wd) A (assign tg env v) (fun _ s3=>wpAny (model pg wd) A (ifsOf ifs env) (fun ok s4 =>
          if ok = true then wpAny (model pg wd) A (eval elt env) (fun x s5=>wpAny (model pg wd) A (call (.builtin "list.append") [acc,x]) (fun _ s6=>∃ m,m < n /\ I m s6) No s5) No s4
          else ∃ m,m < n /\ I m s4) No s3) No s2) No s1) No s)
    (n:Nat) (h:I n s):codeAny (model pg wd) A (.compLoop (.ListComp elt [⟨tg,iter,ifs,0⟩] sc pos) 0 it acc env) R s:=by
  refine codeAny_loop rfl I (fun n s hI=>?_) n h
  show wpAny _ A ((compTurn (.ListComp elt [⟨tg,iter,ifs,0⟩] sc pos) 0 it acc env).onRaise (fun x=>do noteFrame x env; theTreesLotGoes x)) _ _ s
  refine wpAny_noted ?_
  rw [compTurn_list]
  refine wpAny_bind (wpAny_standAt (wpAny_bind (wpAny_mono (turn n s hI) (fun r s1 h1=>?_) fun _ _ f=>f.elim)))
  cases r with
  | none=>exact wpAny_pure h1
  | some v =>
    refine wpAny_bind (wpAny_mono h1 (fun _ s2 h2=>wpAny_bind (wpAny_mono h2 (fun _ s3 h3=>wpAny_bind (wpAny_mono h3 (fun ok s4 h4=>?_) fun _ _ f=>f.elim)) fun _ _ f=>f.elim)) fun _ _ f=>f.elim)
    cases ok with
    | false=>exact wpAny_pure ⟨rfl,h4⟩
    | true=>exact wpAny_bind (wpAny_bind (wpAny_mono h4 (fun x s5 h5=>wpAny_bind (wpAny_mono h5 (fun _ s6 h6=>wpAny_pure (wpAny_pure ⟨rfl,h6⟩)) fun _ _ f=>f.elim)) fun _ _ f=>f.elim))
end
def clStep (env:Env) (r:List (Str × Addr)) (x:Str × NameKind):List (Str × Addr):=if x.2 = .free then (x.1,(env.cells.lookup x.1).getD 0) :: r else r
def clOf (sc:Scope) (env:Env):List (Str × Addr):=sc.names.foldl (clStep env) []
theorem zls {α β:Type} {l:List α} {f:α -> β -> Sem (ForInStep β)} {g:β -> α -> β} (h:∀ x ∈ l,∀ c,f x c = pure (.yield (g c x))):∀ c:β,forIn l c f = pure (l.foldl g c):=by
  induction l with
  | nil=>exact fun _=>rfl
  | cons x l ih =>
    intro c
    rw [List.forIn_cons,h x List.mem_cons_self,pure_bind,List.foldl_cons]
    exact ih (fun y hy=>h y (List.mem_cons_of_mem _ hy)) (g c x)
theorem zgn {sc:Scope} {env:Env} (hf:∀ y ∈ sc.names,y.2 = .free -> ∃ c,env.cells.lookup y.1 = some c):closureFor sc env = pure (clOf sc env):=by
  simp only [closureFor]
  rw [zls (g:=clStep env) (fun x hx c=>?_)]
  · rfl
  · obtain ⟨n,k⟩:=x
    by_cases hk:k = .free
    · subst hk
      obtain ⟨a,ha⟩:=hf _ hx rfl
      have ha':env.cells.lookup n = some a:=ha
      simp [clStep,cellOf,ha']
    · have hb:(k == NameKind.free) = false:=by simpa using hk
      simp [clStep,hk,hb]
theorem zhb {env:Env}:∀ (l:List (Str × NameKind)) (r:List (Str × Addr)),(∀ y ∈ l,y.2 = .free -> ∃ c,env.cells.lookup y.1 = some c) -> (∀ x c,r.lookup x = some c -> env.cells.lookup x = some c) ->
    ∀ x c,(l.foldl (clStep env) r).lookup x = some c -> env.cells.lookup x = some c
  | [],r,_,h=>h
  | y :: l,r,hf,h=>by
    refine zhb l (clStep env r y) (fun z hz=>hf z (List.mem_cons_of_mem _ hz)) fun x c e=>?_
    unfold clStep at e
    by_cases hk:y.2 = .free
    · obtain ⟨a,ha⟩:=hf y List.mem_cons_self hk
      rw [if_pos hk,List.lookup_cons] at e
      cases hx:x == y.1 with
      | true =>
        rw [hx,ha] at e
        rw [eq_of_beq hx,ha]
        exact e
      | false =>
        rw [hx] at e
        exact h x c e
    · rw [if_neg hk] at e
      exact h x c e
theorem zgw {env:Env} {x:Str}:∀ (l:List (Str × NameKind)) (r:List (Str × Addr)),(∃ c,r.lookup x = some c) -> ∃ c,(l.foldl (clStep env) r).lookup x = some c
  | [],r,h=>h
  | y :: l,r,h=>by
    refine zgw l (clStep env r y) ?_
    unfold clStep
    by_cases hk:y.2 = .free
    · rw [if_pos hk,List.lookup_cons]
      cases hx:x == y.1 with
      | true=>exact ⟨_,rfl⟩
      | false=>exact h
    · rw [if_neg hk]
      exact h
theorem ze2 {env:Env}:∀ (l:List (Str × NameKind)) (r:List (Str × Addr)),∀ y ∈ l,y.2 = .free -> ∃ c,(l.foldl (clStep env) r).lookup y.1 = some c
  | [],_,y,hy,_=>nomatch hy
  | z :: l,r,y,hy,hk=>by
    rcases List.mem_cons.mp hy with e | e
    · subst e
      refine zgw l (clStep env r y) ?_
      unfold clStep
      rw [if_pos hk,List.lookup_cons,beq_self_eq_true]
      exact ⟨_,rfl⟩
    · exact ze2 l (clStep env r z) y e hk
theorem mem_of_lookup {β:Type} {x:Str} {k:β}:∀ {l:List (Str × β)},l.lookup x = some k -> (x,k) ∈ l
  | [],h=>nomatch h
  | y :: l,h=>by
    rw [List.lookup_cons] at h
    cases hx:x == y.1 with
    | true =>
      rw [hx] at h
      cases h
      rw [eq_of_beq hx]
      exact List.mem_cons_self
    | false =>
      rw [hx] at h
      exact List.mem_cons_of_mem _ (mem_of_lookup h)
def relK (env:Env) (x:Str) (k:NameKind):NameKind:=if (k == .free && env.scope.kind == .function && env.kindOf x == some .cell) = true then .cell else k
theorem zg2 {sc:Scope} {env:Env} (x:Str):(relabel sc env).names.lookup x = (sc.names.lookup x).map (relK env x):=by
  unfold relabel
  show (sc.names.map fun (n,k)=>if (k == NameKind.free && env.scope.kind == .function && env.kindOf n == some .cell) then (n,NameKind.cell) else (n,k)).lookup x = _
  induction sc.names with
  | nil=>rfl
  | cons y l ih =>
    obtain ⟨n,k⟩:=y
    rw [List.map_cons]
    show List.lookup x ((if (k == NameKind.free && env.scope.kind == .function && env.kindOf n == some .cell) = true then (n,NameKind.cell) else (n,k)) :: _) = _
    cases hx:x == n with
    | true =>
      have e:=eq_of_beq hx
      subst e
      by_cases hc:(k == NameKind.free && env.scope.kind == .function && env.kindOf x == some .cell) = true
      · rw [if_pos hc,List.lookup_cons,beq_self_eq_true]
        simp [relK,hc]
      · rw [if_neg hc,List.lookup_cons,beq_self_eq_true]
        simp [relK,hc]
    | false =>
      by_cases hc:(k == NameKind.free && env.scope.kind == .function && env.kindOf n == some .cell) = true
      · rw [if_pos hc]
        simp only [List.lookup_cons,hx]
        exact ih
      · rw [if_neg hc]
        simp only [List.lookup_cons,hx]
        exact ih
structure CI where
  C:Addr
  s:Shared
  H:Hp
  fp:List Addr
def cxC (X:Cx) (sc:Scope) (NC:List Str) (j:CI):Cx where
  prog:=X.prog
  w:=X.w
  K:=X.K
  mg:=X.mg
  base:=X.base
  A:=X.A
  N:=NC
  s₀:=j.s
  H₀:=j.H
  env:=compEnvC sc (clOf sc X.env) j.C X.env
  outer:=X.stack
  stack:=X.stack
  ex:=j.fp
  fn:=fun _=>false
  calm:=X.calm
  pn:=[]
  xe:=No
def inn (slots:List (Option Nat)) (σ:St):St:=slots.map fun o=>o.bind fun j=>(σ[j]?).join
structure CompOk (X:Cx) (sc:Scope) (NC:List Str) (slots:List (Option Nat)):Prop where
  kind:sc.kind = .function
  names:∀ y ∈ sc.names,y.2 = .local -> sc.names.lookup y.1 = some .local
  nocell:∀ y ∈ sc.names,y.2 ≠ .cell
  free:∀ y ∈ sc.names,y.2 = .free -> X.env.scope.names.lookup y.1 = some .cell
  slot:∀ (i:Nat) (x:Str) (j:Nat),NC[i]? = some x -> slots[i]? = some (some j) -> X.N[j]? = some x /\ sc.names.lookup x = some .free
  len:slots.length = NC.length
theorem compOk {X:Cx} {sc:Scope} {NC:List Str} {slots:List (Option Nat)} (N:List Str) (so:Scope) (hN:X.N = N) (hs:X.env.scope = so) (kind:sc.kind = .function)
    (names:∀ y ∈ sc.names,y.2 = .local -> sc.names.lookup y.1 = some .local) (nocell:∀ y ∈ sc.names,y.2 ≠ .cell) (free:∀ y ∈ sc.names,y.2 = .free -> so.names.lookup y.1 = some .cell)
    (slot:∀ p ∈ NC.zip slots,(p.2.all fun j=>decide (N[j]? = some p.1 /\ sc.names.lookup p.1 = some .free)) = true) (len:slots.length = NC.length):CompOk X sc NC slots:=by
  subst hN hs
  refine ⟨kind,names,nocell,free,fun i x j e1 e2=>?_,len⟩
  have hm:(x,some j) ∈ NC.zip slots:=List.mem_of_getElem? (i:=i) (by rw [List.getElem?_zip_eq_some]; exact ⟨e1,e2⟩)
  have:=slot _ hm
  simpa using this
section
variable {X:Cx} {sc:Scope} {NC:List Str} {slots:List (Option Nat)} {pins:List (Addr × Obj)} {σ:St} {H:Hp} {s:Shared}
theorem CompOk.cells (O:CompOk X sc NC slots) (ok:X.Ok):∀ y ∈ sc.names,y.2 = .free -> ∃ c,X.env.cells.lookup y.1 = some c:=fun y hy hk=>ok.has y.1 (.inl (O.free y hy hk))
theorem CompOk.sub (O:CompOk X sc NC slots) (ok:X.Ok):∀ x c,(clOf sc X.env).lookup x = some c -> X.env.cells.lookup x = some c:=zhb sc.names [] (O.cells ok) fun _ _ e=>nomatch e
theorem CompOk.rel (O:CompOk X sc NC slots) (ok:X.Ok) {x:Str} (h:sc.names.lookup x = some .free):(relabel sc X.env).names.lookup x = some .cell:=by
  rw [zg2,h]
  have e:X.env.kindOf x = some .cell:=O.free _ (mem_of_lookup h) rfl
  simp [relK,ok.kind,e]
theorem zk4 (I:Inv X pins σ H s) (O:CompOk X sc NC slots) {fp:List Addr} (hf:∀ b ∈ fp,FpOk X pins H b) (hob:∀ b ∈ fp,∃ o,s.heap.get? b = some o) {h1:Heap} {t':Nat} {m:Str -> Option Value} (hns:h1.Ns s.heap.objs.size m)
    (hk:∀ b o,s.heap.get? b = some o -> h1.get? b = some o):Inv (cxC X sc NC ⟨s.heap.objs.size,s,H,fp⟩) [] (inn slots σ) H { s with heap:=h1,toks:=t' }:=by
  have sub:=O.sub I.ok
  have fss:∀ b,b ≠ X.env.locals -> b ∉ X.fs -> b ∉ frs X.stack:=fun b h1 h2 hb=>(List.mem_cons.mp (I.stkSub b hb)).elim h1 h2
  have ltC:∀ x c,(clOf sc X.env).lookup x = some c -> c < s.heap.objs.size:=fun x c e=>by
    obtain ⟨v,q⟩:=I.cell x c (sub x c e)
    exact q.lt
  refine ⟨⟨I.ok.mod,O.kind,I.ok.glob,I.ok.blt,Nat.le_refl _,fun x y c e1 e2=>I.ok.inj x y c (sub x c e1) (sub y c e2),fun x hx=>?_,fun _ _ z=>(nomatch z),I.ok.hd,I.ok.frames,.inl rfl,fun b hb=>⟨?_,fun x c e=>(hf b hb).2.2.2.2.1 x c (sub x c e)⟩,I.bs,Nat.le_trans I.ok.bsz I.sz,fun b o e hb=>?_,fun b hb=>fss b (hf b hb).2.1 (hf b hb).2.2.1,I.stack,I.stkFree⟩,
    rfl,I.bare,Un.kept hk,⟨m,hns,fun i x v e1 e2 e3=>?_⟩,fun x c e=>?_,I.hok.fresh (Nat.le_refl _),fun x c e=>I.freeC x c (sub x c e),fun p hp=>(nomatch hp),I.hok.kept hk,?_⟩
  · have hx':(relabel sc X.env).names.lookup x = some .cell \/ (relabel sc X.env).names.lookup x = some .free:=hx
    rw [zg2] at hx'
    cases q:sc.names.lookup x with
    | none =>
      rw [q] at hx'
      rcases hx' with z | z <;> cases z
    | some k =>
      have hm:=mem_of_lookup q
      have hkf:k = .free:=by
        rw [q] at hx'
        have nc:=O.nocell _ hm
        by_cases hk:k = .free
        · exact hk
        · exfalso
          have hb:(k == NameKind.free) = false:=by simpa using hk
          rcases hx' with z | z
          · simp [relK,hb] at z
            exact nc z
          · simp [relK,hb] at z
            exact hk z
      subst hkf
      exact ze2 sc.names [] _ hm rfl
  · obtain ⟨o,e⟩:=hob b hb
    exact Nat.ne_of_lt (Heap.lt_size e)
  · rcases (hf b hb).2.2.2.1 with z | z
    · exact I.ok.noex b o e z
    · exact absurd (Nat.lt_of_lt_of_le (Heap.lt_size e) (Nat.le_trans I.ok.bsz z)) (Nat.lt_irrefl _)
  · obtain ⟨j,e4,e5⟩:∃ j,slots[i]? = some (some j) /\ σ[j]? = some (some v):=by
      have e2':(slots.map fun o=>o.bind fun j=>(σ[j]?).join)[i]? = some (some v):=e2
      rw [List.getElem?_map] at e2'
      cases q:slots[i]? with
      | none =>
        rw [q] at e2'
        cases e2'
      | some o =>
        rw [q] at e2'
        cases o with
        | none=>cases e2'
        | some j =>
          refine ⟨j,rfl,?_⟩
          have e6:(σ[j]?).join = some v:=Option.some.inj e2'
          cases q2:σ[j]? with
          | none =>
            rw [q2] at e6
            cases e6
          | some w =>
            rw [q2] at e6
            have e7:w = some v:=e6
            rw [e7]
    obtain ⟨e6,e7⟩:=O.slot i x j e1 e4
    have kc:X.env.scope.names.lookup x = some .cell:=O.free _ (mem_of_lookup e7) rfl
    obtain ⟨m0,hn0,hl⟩:=I.loc
    obtain ⟨u,r,lk⟩:=hl j x v e6 e5 (.inr (.inl kc))
    refine ⟨u,r,.inr ⟨.inl (O.rel I.ok e7),?_⟩⟩
    rcases lk with ⟨z,_⟩ | ⟨_,c,hc,o,ho,hd⟩
    · rw [show X.env.kindOf x = some .cell from kc] at z
      cases z
    · obtain ⟨c',hc'⟩:=ze2 (env:=X.env) sc.names [] _ (mem_of_lookup e7) rfl
      have e8:c' = c:=Option.some.inj ((sub x c' hc').symm.trans hc)
      subst e8
      exact ⟨c',hc',o,hk _ _ ho,hd⟩
  · obtain ⟨v,o,ho,hd⟩:=I.cell x c (sub x c e)
    exact ⟨v,o,hk _ _ ho,hd⟩
  · show (slots.map fun o=>o.bind fun j=>(σ[j]?).join).length = NC.length
    rw [List.length_map,O.len]
theorem zlb (I:Inv X pins σ H s) {fp:List Addr} (hf:∀ b ∈ fp,FpOk X pins H b) {C:Addr} (hC:s.heap.objs.size <= C) {pl:List (Addr × Obj)} {σ':St} {H':Hp} {s':Shared} (J:Inv (cxC X sc NC ⟨C,s,H,fp⟩) pl σ' H' s')
    {h2:Heap} (hb:Heap.SameBut C s'.heap h2):Inv X pins σ H' { s' with heap:=h2 }:=by
  have nC:∀ b o,s.heap.get? b = some o -> b ≠ C:=fun b o e=>Nat.ne_of_lt (Nat.lt_of_lt_of_le (Heap.lt_size e) hC)
  have B:Un (frs X.stack) fp H H' s.heap s'.heap:=J.base
  have fC:H' C = none:=J.free
  refine I.call' (ch:=fp) J.os ⟨fun b o e n h3 h4=>(hb.2 b (nC b o e)).trans (B.keep b o e n h3 h4),fun b o e n h3 h4=>?_,B.free,fun b o e h4=>?_,B.tups,B.frzs,B.tbls⟩ (fun b u e=>?_) J.bare fun b h3=>⟨(hf b h3).2.2.2.1,(hf b h3).2.1,(hf b h3).2.2.2.2.1,(hf b h3).2.2.2.2.2⟩
  · obtain ⟨sl,q⟩:=B.slot b o e n h3 h4
    exact ⟨sl,(hb.2 b (nC b o e)).trans q⟩
  · obtain ⟨o',q⟩:=B.there b o e h4
    exact ⟨o',(hb.2 b (nC b o e)).trans q⟩
  · refine (J.hok b u e).stay (fun c v hc q=>(hb.2 c fun z=>?_).trans q) (fun _ q=>q) fun _ _ q=>q
    subst z
    rcases hc with z | z
    · rw [z,e] at fC
      cases fC
    · rw [z] at fC
      cases fC
end
def PTs (X:Cx) (ifs:List Expr) (t:TT):Prop :=
  ∀ (pins:List (Addr × Obj)) (s:Shared) (σ:St) (H:Hp) (Q:Bool -> Hp -> Prop),Inv X pins σ H s -> t σ H Q -> wpAny (model X.prog X.w) X.A (ifsOf ifs X.env) (TP X pins σ Q) X.xe s
def tYes:TT:=fun _ H Q=>Q true H
theorem zpM {X:Cx}:PTs X [] tYes:=fun _ _ _ H _ I h=>wpAny_tests_nil ⟨H,I,h⟩
def CompR (J:It) (D:Addr) (g:TG) (ti:TT) (te:TE) (W:Nat -> Nat -> St -> List V -> Hp -> Prop) (Q:Hp -> Prop):Prop :=
  ∀ i m σc ys H2,W i m σc ys H2 -> H2 D = some (.lst ys) /\ ((J.stop i H2 /\ Q H2) \/ (J.go i H2 /\ ys.length < sizeLine /\ ∃ N:St -> List V -> Hp -> Prop,(∀ σ' ys' H',N σ' ys' H' -> ∃ m',m' < m /\ W (i + 1) m' σ' ys' H') /\
    ∀ x H3,J.yld i H2 x H3 -> g x σc H3 fun σ4 H4=>ti σ4 H4 fun b H5=>if b = true then te σ4 H5 fun y H6=>H6 D = some (.lst ys) /\ N σ4 (ys ++ [y]) (upd H6 D (.lst (ys ++ [y]))) else N σ4 ys H5))
def tComp (slots:List (Option Nat)) (wi:TI) (g:TG) (ti:TT) (te:TE):TE:=fun σ H Q=>wi σ H fun J H1=>∀ D,H1 D = none -> ∃ W:Nat -> Nat -> St -> List V -> Hp -> Prop,(∃ m,W 0 m (inn slots σ) [] (upd H1 D (.lst []))) /\ CompR J D g ti te W (Q (.ref D))
section
variable {X:Cx} {sc:Scope} {NC:List Str} {slots:List (Option Nat)} {elt tg iter:Expr} {ifs:List Expr} {pos:Pos} {g:TG} {ti:TT} {te:TE}
theorem znw (hc:X.calm = true) (hg:∀ j,PG (cxC X sc NC j) tg g) (ht:∀ j,PTs (cxC X sc NC j) ifs ti) (he:∀ j,PE (cxC X sc NC j) elt te) {cj:CI} {it D:Addr} {tn:Nat -> Heap -> Prop} {J:It}
    {W:Nat -> Nat -> St -> List V -> Hp -> Prop} {Q:Hp -> Prop} {R:Result -> Shared -> Prop} {s:Shared} {σc:St} {ys:List V} {H:Hp} (T:Turn X.prog X.w X.K tg J cj.fp it tn)
    (I:Inv (cxC X sc NC cj) [] σc H s) (hf:∀ b ∈ cj.fp,FpOk (cxC X sc NC cj) [] H b) (st:tn 0 s.heap) {m:Nat} (w0:W 0 m σc ys H) (step:CompR J D g ti te W Q)
    (fin:∀ σ' H' s',Inv (cxC X sc NC cj) [] σ' H' s' -> Q H' -> R (.ok .next) s') :
    codeAny (model X.prog X.w) X.A (.compLoop (.ListComp elt [⟨tg,iter,ifs,0⟩] sc pos) 0 (.ref it) (.ref D) (cxC X sc NC cj).env) R s:=by
  have stat:∀ {H':Hp},(∀ b ∈ cj.fp,H' b = none) -> ∀ b ∈ cj.fp,FpOk (cxC X sc NC cj) [] H' b:=fun hn b hb=>⟨hn b hb,(hf b hb).2⟩
  refine zmA (fun n s'=>∃ i σ' ys' H',Inv (cxC X sc NC cj) [] σ' H' s' /\ tn i s'.heap /\ (∀ b ∈ cj.fp,H' b = none) /\ W i n σ' ys' H') ?_ m ⟨0,σc,ys,H,I,st,fun b hb=>(hf b hb).1,w0⟩
  rintro n s3 ⟨i,σ3,ys3,H3,I3,st3,fr3,w3⟩
  obtain ⟨hD,q⟩:=step i n σ3 ys3 H3 w3
  rcases q with ⟨stop,qn⟩ | ⟨go,hz,N,hN,turn⟩
  · refine thn (T.done (cxC X sc NC cj) rfl rfl rfl hc i [] s3 σ3 H3 No I3 (stat fr3) st3 stop) fun r s4 ⟨hr,I4⟩=>?_
    subst hr
    exact fin σ3 H3 s4 I4 qn
  · refine thn (T.item (cxC X sc NC cj) rfl rfl rfl hc i [] s3 σ3 H3 No I3 (stat fr3) st3 go) fun r s4 ⟨u,hr,h4⟩=>?_
    subst hr
    refine thn h4 fun _ s5 ⟨x,H5,I5,r5,y5,st5,fr5⟩=>?_
    have I5':=I5.pinned (stat fr5) (T.obj _ _ st5)
    refine thn (hg cj _ s5 σ3 H5 x u _ I5' r5 (turn x H5 y5)) fun _ s6 ⟨σ6,H6,I6,q6⟩=>?_
    refine thn (ht cj _ s6 σ6 H6 _ I6 q6) fun ok s7 ⟨H7,I7,q7⟩=>?_
    have again:∀ {σ8:St} {ys8:List V} {H8:Hp} {s8:Shared},Inv (cxC X sc NC cj) ([] ++ pinsAt cj.fp s5.heap) σ8 H8 s8 -> N σ8 ys8 H8 -> ∃ m,m < n /\ ∃ i σ' ys' H',Inv (cxC X sc NC cj) [] σ' H' s8 /\ tn i s8.heap /\ (∀ b ∈ cj.fp,H' b = none) /\ W i m σ' ys' H':=fun {σ8 ys8 H8 s8} I8 n8=>by
      obtain ⟨m',hm,w8⟩:=hN σ8 ys8 H8 n8
      refine ⟨m',hm,i + 1,σ8,ys8,H8,I8.unpinned,T.keep _ _ _ st5 fun b hb o e=>(I8.pin (b,o) (List.mem_append_right _ (List.mem_append_right _ (zdx hb e)))).1,fun b hb=>?_,w8⟩
      obtain ⟨o,e,d⟩:=T.obj _ _ st5 b hb
      exact (I8.pin (b,o) (List.mem_append_right _ (List.mem_append_right _ (zdx hb e)))).2.1
    cases ok with
    | false =>
      rw [if_neg Bool.false_ne_true] at q7 ⊢
      exact again I7 q7
    | true =>
      rw [if_pos rfl] at q7 ⊢
      refine thn (he cj _ s7 σ6 H7 _ I7 q7) fun y s8 ⟨v,H8,I8,r8,hD8,q8⟩=>?_
      refine thn (ziX (X:=cxC X sc NC cj) _ s8 σ6 H8 (.ref D) [v] (.ref D) [y] (fun z H'=>z = .non /\ H' = upd H8 D (.lst (ys3 ++ [v]))) I8 rfl (.cons r8 .nil) ⟨D,ys3,v,rfl,rfl,hD8,hz,rfl,rfl⟩) fun z s9 ⟨zv,H9,I9,r9,e1,e2⟩=>?_
      subst e2
      exact again I9 q8
theorem zkM (hc:X.calm = true) (O:CompOk X sc NC slots) (hg:∀ j,PG (cxC X sc NC j) tg g) (ht:∀ j,PTs (cxC X sc NC j) ifs ti) (he:∀ j,PE (cxC X sc NC j) elt te) {pins:List (Addr × Obj)} {s:Shared} {σ:St} {H:Hp} (I:Inv X pins σ H s)
    {it:Addr} {fp:List Addr} {tn:Nat -> Heap -> Prop} {J:It} (T:Turn X.prog X.w X.K tg J fp it tn) (st:tn 0 s.heap) (hf:∀ b ∈ fp,FpOk X pins H b) {Q:VK}
    (h:∀ D,H D = none -> ∃ W:Nat -> Nat -> St -> List V -> Hp -> Prop,(∃ m,W 0 m (inn slots σ) [] (upd H D (.lst []))) /\ CompR J D g ti te W (Q (.ref D))) {RR:Value -> Addr -> Result -> Shared -> Prop}
    (fin:∀ D C s' H',Q (.ref D) H' -> (∃ o m,s'.heap.get? C = some o /\ s'.heap.Ns C m /\ ∀ v,o.data ≠ .cell v) -> FpOk X pins H' C -> (∀ h2,Heap.SameBut C s'.heap h2 -> Inv X pins σ H' { s' with heap:=h2 }) -> RR (.ref D) C (.ok .next) s') :
    wpAny (model X.prog X.w) X.A (newList []) (fun acc s3=>wpAny (model X.prog X.w) X.A (newFunctionEnv sc X.env.globals (clOf sc X.env) [] X.env.qual none .none (some X.env)) (fun cenv s4 =>
      codeAny (model X.prog X.w) X.A (.compStart (.ListComp elt [⟨tg,iter,ifs,0⟩] sc pos) 0 (.ref it) acc { cenv with scope:=relabel sc X.env }) (RR acc cenv.locals) s4) X.xe s3) X.xe s:=by
  refine wpAny_newObj_type (wpAny_newFunctionEnv O.nocell (by intro y hy; simp at hy) (fun h1 hns1 hsb1=>?_) O.kind)
  dsimp only at hns1 hsb1 ⊢
  have hDn:H s.heap.objs.size = none:=I.hok.fresh (Nat.le_refl _)
  obtain ⟨W,⟨m,w0⟩,step⟩:=h s.heap.objs.size hDn
  obtain ⟨s3,hs3⟩:∃ x:Shared,x = ({ s with heap:=s.heap.push { cls:=.type "list",dict:=none,data:=.seq ([]:List Value).toArray } }:Shared):=⟨_,rfl⟩
  have e3:s3.heap = s.heap.push { cls:=.type "list",dict:=none,data:=.seq ([]:List Value).toArray }:=by rw [hs3]
  rw [<- e3] at hns1 hsb1
  have hp3:∀ b o,s.heap.get? b = some o -> s3.heap.get? b = some o:=fun b o e=>by
    rw [e3]
    exact Heap.get?_push_of_some _ e
  have I3:Inv X pins σ (upd H s.heap.objs.size (.lst [])) s3:=by
    have q:=I.laid (a:=s.heap.objs.size) (o:=.lst []) (h':=s3.heap) (t':=s.toks) hp3 (Nat.le_refl _) ⟨Nat.zero_le _,[],_,.nil,by rw [e3]; exact Heap.get?_push_size _ rfl⟩
    rw [hs3] at q ⊢
    exact q
  have hf3:∀ b ∈ fp,FpOk X pins (upd H s.heap.objs.size (.lst [])) b:=fun b hb=>by
    obtain ⟨o,e,_⟩:=T.obj _ _ st b hb
    refine ⟨?_,(hf b hb).2⟩
    rw [zJ (Nat.ne_of_lt (Heap.lt_size e))]
    exact (hf b hb).1
  have st3:tn 0 s3.heap:=T.keep _ _ _ st fun b _ o e=>hp3 b o e
  have hob:∀ b ∈ fp,∃ o,s3.heap.get? b = some o:=fun b hb=>by
    obtain ⟨o,e,_⟩:=T.obj _ _ st3 b hb
    exact ⟨o,e⟩
  have hk1:∀ b o,s3.heap.get? b = some o -> h1.get? b = some o:=fun b o e=>hsb1.extBut b o (Nat.ne_of_lt (Heap.lt_size e)) (Heap.get?_push_of_some _ e)
  have J1:=zk4 (t':=s3.toks + ([]:List (Str × Value)).length) I3 O hf3 hob hns1 hk1
  have hfc:∀ b ∈ fp,FpOk (cxC X sc NC ⟨s3.heap.objs.size,s3,upd H s.heap.objs.size (.lst []),fp⟩) [] (upd H s.heap.objs.size (.lst [])) b:=fun b hb =>
    ⟨(hf3 b hb).1,(J1.ok.exf b hb).1,J1.ok.exfs b hb,.inl hb,(J1.ok.exf b hb).2,fun p hp=>nomatch hp⟩
  have loop:codeAny (model X.prog X.w) X.A (.compLoop (.ListComp elt [⟨tg,iter,ifs,0⟩] sc pos) 0 (.ref it) (.ref s.heap.objs.size) (cxC X sc NC ⟨s3.heap.objs.size,s3,upd H s.heap.objs.size (.lst []),fp⟩).env) (RR (.ref s.heap.objs.size) s3.heap.objs.size)
      { s3 with heap:=h1,toks:=s3.toks + ([]:List (Str × Value)).length }:=by
    refine znw (D:=s.heap.objs.size) (Q:=Q (.ref s.heap.objs.size)) hc hg ht he T J1 hfc (T.keep _ _ _ st3 fun b _ o e=>hk1 b o e) w0 step fun σ' H' s' J' q'=>?_
    have fC:H' s3.heap.objs.size = none:=J'.free
    refine fin _ _ s' H' q' ?_ (I3.fpOk (Nat.le_refl _) fC) fun h2 hb=>zlb I3 hf3 (Nat.le_refl _) J' hb
    obtain ⟨m',hn',_⟩:=J'.loc
    obtain ⟨o,es,ep,ho,hd,r⟩:=id hn'
    exact ⟨o,m',ho,hn',fun v z=>by rw [hd] at z; cases z⟩
  have self:=fun (RQ:Value -> Shared -> Prop) (EE:Value -> Shared -> Prop)=>T.self X.A 0 { s3 with heap:=h1,toks:=s3.toks + ([]:List (Str × Value)).length } RQ EE (T.keep _ _ _ st3 fun b _ o e=>hk1 b o e)
  subst hs3
  exact codeAny_compStart_list loop (self _ _ loop)
variable {wi:TI}
theorem zpT (hc:X.calm = true) (O:CompOk X sc NC slots) (hi:PI X tg iter wi) (hg:∀ j,PG (cxC X sc NC j) tg g) (ht:∀ j,PTs (cxC X sc NC j) ifs ti) (he:∀ j,PE (cxC X sc NC j) elt te)
    (hs:∀ x,foldedSetIterable iter X.env x = pure x:=by intro _; rfl):PE X (.ListComp elt [⟨tg,iter,ifs,0⟩] sc pos) (tComp slots wi g ti te):=by
  intro pins s σ H Q I h
  rw [eval_ListComp]
  refine wpAny_comprehension_free (use:=none) rfl hs (zgn (O.cells I.ok)) O.kind O.names (thn (hi pins s σ H _ I h) fun v s1 h1=>thn h1 fun itv s2 h2=>?_)
  obtain ⟨it,fp,tn,J,H2,rfl,I2,T,st2,f2,q2⟩:=h2
  refine zkM hc O hg ht he I2 T st2 f2 q2 fun D C s' H' q' ⟨o,m,ho,hn,_⟩ _ out=>⟨m,hn,fun h2 hb=>⟨.ref D,H',out h2 hb,rfl,q'⟩⟩
end
end L2
namespace L2
open PySem PySem.Spec PyProof.Rows
theorem zkm:∀ {bs:List Bool} {us:List Value},Vals (bs.map V.bl) us -> LSm.BoolsAre us bs
  | [],_,.nil=>.nil
  | b :: bs,_,.cons r q=>by
    cases (show _ = Value.bool b from r)
    exact .cons b (zkm q)
section
variable {X:Cx}
def rAll (K:PySem.W.Frag):List V -> Hp -> VK -> Prop:=fun xs H Q=>∃ (l:Addr) (bs:List Bool),xs = [.ref l] /\ SqL K H l (bs.map V.bl) /\ Q (.bl (bs.all id)) H
theorem znZ (hc:X.calm = true):CallR X (.builtin "all") (rAll X.K):=by
  intro pins s σ H xs us Q I r h
  obtain ⟨l,bs,rfl,hq,q⟩:=h
  obtain ⟨u,rfl,ru⟩:=Vals.one r
  cases (show u = Value.ref l from ru)
  obtain ⟨its,rv,pl,hz⟩:=I.list hq
  have hb:=zkm rv
  have hl:=pl.isList
  have hlt:l < s.heap.objs.size:=by
    obtain ⟨_,e,_⟩:=hl
    exact Heap.lt_size e
  refine call_all_walk (wpAny_pyIter_list hl ?_)
  refine ⟨s.heap.objs.size,[s.heap.objs.size,l],[s.heap.objs.size],its.toArray.size,_,_,fun i=>(bs[i]?).getD true,rfl,Walks.list (A:=X.A.in1) (I.ok.hd hc) _ l (Nat.ne_of_lt hlt) its.toArray,⟨⟨_,Heap.get?_push_size _ rfl,rfl,rfl⟩,hl.push _⟩,fun i v s' Q' E' hP hQ=>?_,fun h' tk hk=>?_⟩
  · obtain ⟨b,e,rfl⟩:=hb.get i v (by simpa using hP)
    simp only [e,Option.getD_some] at hQ
    exact wpAny_truthy_bool hQ
  · have e:((List.range its.toArray.size).all fun i=>(bs[i]?).getD true) = bs.all id:=by
      rw [List.size_toArray,hb.length]
      exact LSm.range_all bs
    rw [e]
    exact ⟨.bl _,H,I.kept (t':=tk) (LSm.kept_iter hk),rfl,q⟩
end
section
variable {X:Cx} {pins:List (Addr × Obj)} {σ:St} {H:Hp} {s:Shared}
end
end L2
namespace L2
open PySem PySem.Spec PyProof.Rows
end L2
namespace L2
open PySem PySem.Spec PyProof.Rows
section
variable {X:Cx} {a:Expr} {ta:TE} {K:PySem.W.Frag}
end
end L2
namespace L2
end L2
namespace L2
open PySem PySem.Spec PyProof.Rows
section
variable {X:Cx}
def rMax (K:PySem.W.Frag):List V -> Hp -> VK -> Prop:=fun xs H Q=>∃ (l:Addr) (ns:List Int),xs = [.ref l] /\ SqL K H l (ns.map V.int) /\ 0 < ns.length /\ ∀ M,M ∈ ns -> (∀ a,a ∈ ns -> a <= M) -> Q (.int M) H
theorem zlN (hc:X.calm = true):CallR X (.builtin "max") (rMax X.K):=by
  intro pins s σ H xs us Q I r h
  obtain ⟨l,ns,rfl,hq,hne,q⟩:=h
  obtain ⟨u,rfl,ru⟩:=Vals.one r
  cases (show u = Value.ref l from ru)
  obtain ⟨its,rv,pl,hz⟩:=I.list hq
  have hi:IntsAre its ns:=zkV rv
  obtain ⟨ys,e⟩:=hi.allInts.items
  have hns:ns = ys.toList.map (·.1):=by rw [<- hi.numsOf,<- nums_intItems,<- e]
  have hsz:0 < ys.size:=by
    rw [hns,List.length_map,Array.length_toList] at hne
    exact hne
  have hl:=pl.isList
  rw [e] at hl
  refine max_intList (I.ok.hd hc) hl hsz fun v h' tk hv hk=>?_
  obtain ⟨t,rfl⟩:=intItems_at hv
  obtain ⟨h1,h2⟩:=argBest_gt (numAt ys) (ys.size - 1)
  refine ⟨.int _,H,I.kept (t':=tk) hk,⟨t,rfl⟩,q _ ?_ fun a ha=>?_⟩
  · rw [hns,numAt_eq]
    exact getD_mem (by rw [List.length_map,Array.length_toList]; omega)
  · rw [hns] at ha
    obtain ⟨j,hj,rfl⟩:=mem_getD ha
    rw [List.length_map,Array.length_toList] at hj
    rw [<- numAt_eq]
    exact h2 j (by omega)
end
end L2
namespace L2
open PySem PySem.Spec PyProof.Rows
def CX1 (P:Program) (w:World):CXT:=fun outer H s E e s'=>∃ (a:Addr) (cls a0:Value) (H':Hp) (B:Heap),e = .ref a /\ s'.os = s.os /\ AllBare s'.gens /\ Heap.FlyingW B outer a cls a0 s'.heap /\ HOk P w H' s'.heap /\ Un (frs outer) [] H H' s.heap s'.heap /\
  (∀ b o,s.heap.get? b = some o -> H b = none -> b ∉ frs outer -> B.get? b = some o) /\ (∀ b u,H' b = some u -> ∃ o,B.get? b = some o) /\ (∀ b o,s.heap.get? b = some o -> b ∉ frs outer -> ∃ o',B.get? b = some o') /\ E cls none H'
theorem ObjOk.there {P:Program} {w:World} {H:Hp} {h:Heap} {a:Addr} {o:HO} (x:ObjOk P w H h a o):∃ ob,h.get? a = some ob:=by
  induction o with
  | lst xs=>obtain ⟨_,_,_,_,e⟩:=x; exact ⟨_,e⟩
  | tup xs=>obtain ⟨_,_,_,ob,e,_⟩:=x; exact ⟨ob,e⟩
  | dK kvs=>obtain ⟨_,_,_,_,ob,_,_,e,_⟩:=x; exact ⟨ob,e⟩
  | dT kvs=>obtain ⟨_,_,_,_,ob,_,_,e,_⟩:=x; exact ⟨ob,e⟩
  | set S n=>obtain ⟨ob,_,_,_,e,_⟩:=x; exact ⟨ob,e⟩
  | ins C dx fs=>obtain ⟨_,_,_,e,_⟩:=x; exact ⟨_,e⟩
  | own y=>exact x
  | xd fs=>obtain ⟨_,⟨ob,_,_,e,_⟩,_⟩:=x; exact ⟨ob,e⟩
  | rng lo hi=>obtain ⟨_,_,_,e⟩:=x; exact ⟨_,e⟩
  | frz ob u ih=>exact ⟨ob,x.1⟩
  | tbl ps=>exact ⟨_,x⟩
  | met f y=>exact ⟨_,x⟩
  | ext φ=>exact x.2.1
theorem HOk.inB {P:Program} {w:World} {H:Hp} {h h' B:Heap} (ok:HOk P w H h) (hB:B.StaysIn h) (hB':B.StaysIn h') (tr:∀ b u,H b = some u -> ∃ o,B.get? b = some o):HOk P w H h':=fun a o e =>
  (ok a o e).stay (fun b u hb q=>by
    have hb':∃ o,B.get? b = some o:=by
      rcases hb with z | z
      · rw [z]
        exact tr a o e
      · exact tr b _ z
    obtain ⟨o',q'⟩:=hb'
    have:=hB b o' q'
    rw [q] at this
    cases this
    exact hB' b u q') (fun _ q=>q) fun _ _ q=>q
section
variable {P:Program} {w:World} {K:PySem.W.Frag} {mg:Str -> Option Value} {base:Heap} {N:List Str} {qual:Str} {scope:Scope} {f:Addr} {cd:Value} {A:Around} {outer:List Env} {s₀:Shared} {H₀:Hp} {E:XK}
  {pins:List (Addr × Obj)} {σ:St} {H:Hp} {s:Shared}
theorem zmb {h':Heap} {e:Addr} {cls:Value} {vs:List Value} (I:Inv (cxOf (CX1 P w) P w K mg base N qual scope f cd A outer s₀ H₀ E) pins σ H s) (hx:Heap.MadeExcOf s.heap h' e cls vs) (hE:E cls none H) :
    (cxOf (CX1 P w) P w K mg base N qual scope f cd A outer s₀ H₀ E).xe (.ref e) { s with heap:=h' }:=by
  have stk:s.heap.FunFrames base (envOfC qual scope s₀.heap.objs.size f cd :: outer):=I.stack
  have hst:∀ b,b ∈ frs (envOfC qual scope s₀.heap.objs.size f cd :: outer) -> b = s₀.heap.objs.size \/ b ∈ frs outer:=fun b hb=>by
    have hb':b ∈ s₀.heap.objs.size :: frs outer:=hb
    exact List.mem_cons.mp hb'
  have inB:∀ b o,s.heap.get? b = some o -> b ∉ frs (envOfC qual scope s₀.heap.objs.size f cd :: outer) -> (PySem.W.hideAll s.heap (frs (envOfC qual scope s₀.heap.objs.size f cd :: outer))).get? b = some o:=fun b o q n=>PySem.W.hideAll_get _ q n
  have hB:(PySem.W.hideAll s.heap (frs (envOfC qual scope s₀.heap.objs.size f cd :: outer))).StaysIn s.heap:=fun b o q=>PySem.W.of_hideAll _ q
  have bse:Un (frs outer) [] H₀ H s₀.heap s.heap:=I.base
  have lt:∀ b o,s₀.heap.get? b = some o -> b ≠ s₀.heap.objs.size:=fun b o q=>Nat.ne_of_lt (Heap.lt_size q)
  have tr:∀ b u,H b = some u -> ∃ o,(PySem.W.hideAll s.heap (frs (envOfC qual scope s₀.heap.objs.size f cd :: outer))).get? b = some o:=fun b u q=>by
    obtain ⟨o,ho⟩:=ObjOk.there (I.hok b u q)
    exact ⟨o,inB b o ho fun hb=>by
      have:=I.stkFree b hb
      rw [q] at this
      cases this⟩
  refine wpAny_leaves_madeW (base:=PySem.W.hideAll s.heap (frs (envOfC qual scope s₀.heap.objs.size f cd :: outer))) (h:=s.heap) I.ok.frames rfl hB (PySem.W.funFrames_hide stk fun env he a ha=>List.mem_filterMap.mpr ⟨env,he,ha⟩) hx fun h'' t fl tu tn up=>?_
  have up':s.heap.UpToSlots h'':=(Heap.UpToSlots.of_keeps hx.keeps).trans up
  refine ⟨e,cls,_,H,_,rfl,I.os,I.bare,fl,HOk.inB I.hok hB fl.1 tr,⟨fun b o q n hb _=>?_,fun b o q n hb _=>?_,bse.free,fun b o q _=>?_,bse.tups,bse.frzs,bse.tbls⟩,fun b o q n hb=>?_,tr,fun b o q hb=>?_,hE⟩
  · refine fl.1 b o (inB b o (bse.keep b o q n hb (by simp)) fun z=>?_)
    rcases hst b z with z | z
    · exact lt b o q z
    · exact hb z
  · obtain ⟨sl,q1⟩:=bse.slot b o q n hb (by simp)
    obtain ⟨_,o',ho',hd⟩:=Heap.FunFrames.mem stk (show b ∈ List.filterMap (fun (z:Env)=>z.frame) _ from List.mem_cons_of_mem _ hb)
    obtain ⟨sl',q2⟩:=up' b _ q1 (by rw [ho'] at q1; cases q1; exact hd)
    exact ⟨sl',q2⟩
  · obtain ⟨o',q1⟩:=bse.there b o q (by simp)
    by_cases hb:b ∈ frs (envOfC qual scope s₀.heap.objs.size f cd :: outer)
    · obtain ⟨_,o2,ho',hd⟩:=Heap.FunFrames.mem stk hb
      obtain ⟨sl',q2⟩:=up' b _ ho' hd
      exact ⟨_,q2⟩
    · exact ⟨o',fl.1 b o' (inB b o' q1 hb)⟩
  · refine inB b o (bse.keep b o q n hb (by simp)) fun z=>?_
    rcases hst b z with z | z
    · exact lt b o q z
    · exact hb z
  · obtain ⟨o',q1⟩:=bse.there b o q (by simp)
    refine ⟨o',inB b o' q1 fun z=>?_⟩
    rcases hst b z with z | z
    · exact lt b o q z
    · exact hb z
theorem pass1:Passes (CX1 P w) (cxOf (CX1 P w) P w K mg base N qual scope f cd A outer s₀ H₀ E) E:=by
  intro pins σ H s e s' I h
  obtain ⟨a,cls,a0,H',B,rfl,os,bare,fl,hok,un,hB,tr,hT,hE⟩:=h
  have bse:Un (frs outer) [] H₀ H s₀.heap s.heap:=I.base
  have lt:∀ b o,s₀.heap.get? b = some o -> b ≠ s₀.heap.objs.size:=fun b o q=>Nat.ne_of_lt (Heap.lt_size q)
  have hst:∀ b,b ∈ frs (envOfC qual scope s₀.heap.objs.size f cd :: outer) -> b = s₀.heap.objs.size \/ b ∈ frs outer:=fun b hb=>by
    have hb':b ∈ s₀.heap.objs.size :: frs outer:=hb
    exact List.mem_cons.mp hb'
  have un':Un (frs (envOfC qual scope s₀.heap.objs.size f cd :: outer)) [] H H' s.heap s'.heap:=un
  have kB:∀ b o,s₀.heap.get? b = some o -> H₀ b = none -> b ∉ frs outer -> B.get? b = some o:=fun b o q n hb=>hB b o (bse.keep b o q n hb (by simp)) (bse.free b o q n (by simp)) fun z=>by
    rcases hst b z with z | z
    · exact lt b o q z
    · exact hb z
  have kT:∀ b o,s₀.heap.get? b = some o -> b ∉ frs outer -> ∃ o',B.get? b = some o':=fun b o q hb=>by
    obtain ⟨o',q1⟩:=bse.there b o q (by simp)
    refine hT b o' q1 fun z=>?_
    rcases hst b z with z | z
    · exact lt b o q z
    · exact hb z
  refine wpAny_leaves_onW I.ok.frames rfl fl fun h'' fl' up=>?_
  refine ⟨a,cls,a0,H',B,rfl,os.trans I.os,bare,fl',HOk.inB hok fl.1 fl'.1 tr,⟨fun b o q n hb _=>fl'.1 b o (kB b o q n hb),fun b o q n hb _=>?_,fun b o q n _=>?_,fun b o q _=>?_,fun b xs q=>un'.tups b xs (bse.tups b xs q),fun b o u q=>un'.frzs b o u (bse.frzs b o u q),fun b ps q=>?_⟩,kB,tr,kT,hE⟩
  · obtain ⟨sl,q1⟩:=bse.slot b o q n hb (by simp)
    have n1:=bse.free b o q n (by simp)
    obtain ⟨sl1,q2⟩:=un'.slot b _ q1 n1 (List.mem_cons_of_mem _ hb) (by simp)
    obtain ⟨_,o',ho',hd⟩:=Heap.FunFrames.mem fl.2.2.1 (show b ∈ List.filterMap (fun (z:Env)=>z.frame) _ from List.mem_cons_of_mem _ hb)
    obtain ⟨sl',q3⟩:=up b _ q2 (by rw [ho'] at q2; cases q2; exact hd)
    exact ⟨sl',q3⟩
  · obtain ⟨o',q1⟩:=bse.there b o q (by simp)
    exact un'.free b o' q1 (bse.free b o q n (by simp)) (by simp)
  · obtain ⟨o',q1⟩:=bse.there b o q (by simp)
    obtain ⟨o2,q2⟩:=un'.there b o' q1 (by simp)
    by_cases hb:b ∈ frs outer
    · obtain ⟨_,o3,ho3,hd⟩:=Heap.FunFrames.mem fl.2.2.1 (show b ∈ List.filterMap (fun (z:Env)=>z.frame) _ from List.mem_cons_of_mem _ hb)
      obtain ⟨sl',q3⟩:=up b _ ho3 hd
      exact ⟨_,q3⟩
    · obtain ⟨o4,q4⟩:=kT b o q hb
      exact ⟨o4,fl'.1 b o4 q4⟩
  · obtain ⟨m1,e1⟩:=bse.tbls b ps q
    obtain ⟨m2,e2⟩:=un'.tbls b _ e1
    exact ⟨m1 ++ m2,by rw [e2,Array.append_assoc]⟩
end
end L2
namespace L2
open PySem PySem.Spec PyProof.Rows
section
variable {X:Cx} {e:Expr} {es:List Expr} {te:TE}
end
section
variable {X:Cx} {e:Expr} {es:List Expr} {t:TA} {E:XK}
end
end L2
namespace L2
open PySem PySem.Spec PyProof.Rows
section
variable {pg:Program} {wd:World} {A:Around} {E:Value -> Shared -> Prop} {h:Heap} {g:Array GenState} {d:Drawn} {t:Nat} {os:OsState} {a C:Addr} {o:Obj} {K:PySem.W.Frag}
end
end L2
namespace L2
open PySem PySem.Spec PyProof.Rows
def ExcO (a C:Addr):Heap -> Prop:=fun h=>∃ o,h.get? a = some o /\ o.cls = .ref C
section
variable {X:Cx}
end
end L2
namespace L2
open PySem PySem.Spec PyProof.Rows
section
variable {X:Cx} {pins:List (Addr × Obj)} {σ:St} {H:Hp} {s:Shared}
end
section
variable {X:Cx} {pins:List (Addr × Obj)} {σ:St} {H:Hp} {s:Shared}
end
section
variable {X:Cx} {body suite:List Stmt} {b₀:Stmt} {x n:Str} {np hpos pos:Pos} {tb:XK -> TS} {ts:TS} {W:Addr} {i:Nat}
end
end L2
namespace L2
open PySem PySem.Spec PyProof.Rows
section
variable {P:Program} {w:World} {K:PySem.W.Frag} {mg:Str -> Option Value} {base:Heap}
end
section
variable {X:Cx} {k:Nat} {f:Addr} {fd:FuncData} {ps:List Str} {sp:Sp} {x:Str} {p pos:Pos} {e:Expr} {es:List Expr} {t:TA}
end
end L2
namespace L2
open PySem PySem.Spec PyProof.Rows
section
variable {P:Program} {w:World} {K:PySem.W.Frag} {mg:Str -> Option Value} {base:Heap}
theorem Fun.okX {x qual:Str} {st:Stmt} {f:Addr} {fd:FuncData} {N ps:List Str} {k:Nat} {sp:Sp} (F:Fun K x qual st f fd) (S:FnScope N ps (defScope st)) (len:∀ vs H Q E,sp vs H Q E -> vs.length = ps.length)
    (body:∀ (cdv:Value) (A:Around) (outer:List Env) (s:Shared) (H:Hp) (vs:List V) (Q:VK) (E:XK),Room k (A.deeper (envOfC qual (defScope st) s.heap.objs.size f cdv)) -> sp vs H Q E ->
      ∃ t,PSs (cxOf (CX1 P w) P w K mg base N qual (defScope st) f cdv A outer s H E) (defBody st) t /\ t { nx:=fun _ H'=>Q .non H',rt:=Q } (start N vs) H):FnOk P w K mg base (CX1 P w) (k + 1) f fd ps sp:=by
  obtain ⟨oc,od,kV,doc,pm,an,cdv,ct,osl,rfl,lk,hcd⟩:=F.ex
  exact zrJ lk hcd S len fun A outer s H vs Q E hr hsp=>body cdv A outer s H vs Q E hr hsp
theorem own1 {N:List Str} {qual:Str} {scope:Scope} {f:Addr} {cd:Value} {A:Around} {outer:List Env} {s:Shared} {H:Hp} {E:XK} {CX:CXT} :
    PassesOwn (model (cxOf CX P w K mg base N qual scope f cd A outer s H E).prog (cxOf CX P w K mg base N qual scope f cd A outer s H E).w) (cxOf CX P w K mg base N qual scope f cd A outer s H E).A (cxOf CX P w K mg base N qual scope f cd A outer s H E).env (cxOf CX P w K mg base N qual scope f cd A outer s H E).xe :=
  PassesOwn.leaving
end
end L2
namespace L2
open PySem PySem.Spec PyProof.Rows
section
variable {X:Cx}
end
end L2
namespace IC
open PySem
inductive PV where
  | non | bl (b:Bool) | int (i:Int) | str (x:Str) | tp (k:Bool) (xs:List PV) | lst (xs:List PV) | loc (n:Nat) | exn (c:Nat) | scr (xs:List PV)
deriving Inhabited
noncomputable abbrev PV.tup (xs:List PV):PV:=.tp false xs
mutual
noncomputable def noLoc:PV -> Bool
  | .loc _=>false
  | .exn _=>false
  | .tp _ xs=>noLocs xs
  | .lst xs=>noLocs xs
  | .scr xs=>noLocs xs
  | _=>true
noncomputable def noLocs:List PV -> Bool
  | []=>true
  | x :: xs=>noLoc x && noLocs xs
end
mutual
noncomputable def shd (n:Nat):PV -> Bool
  | .non=>true
  | .bl _=>true
  | .int _=>true
  | .str x=>x.cps.all (· < 0x110000)
  | .tp _ xs=>decide (0 < n) && shds (n - 1) xs
  | .lst xs=>decide (0 < n) && shds (n - 1) xs
  | _=>false
noncomputable def shds (n:Nat):List PV -> Bool
  | []=>true
  | x :: xs=>shd n x && shds n xs
end
noncomputable abbrev shp (v:PV):Bool:=shd 60 v
noncomputable def flat:PV -> Bool
  | .non=>true
  | .bl _=>true
  | .int _=>true
  | .str _=>true
  | _=>false
noncomputable def bi (b:Bool):Int:=if b then 1 else 0
mutual
noncomputable def peq:PV -> PV -> Bool
  | .non,.non=>true
  | .bl a,.bl b=>a == b
  | .bl a,.int j=>bi a == j
  | .int i,.bl b=>i == bi b
  | .int i,.int j=>i == j
  | .str x,.str y=>x == y
  | .tp _ xs,.tp _ ys=>peqs xs ys
  | .lst xs,.lst ys=>peqs xs ys
  | _,_=>false
noncomputable def peqs:List PV -> List PV -> Bool
  | [],[]=>true
  | x :: xs,y :: ys=>peq x y && peqs xs ys
  | _,_=>false
end
inductive Ob where
  | lst (xs:List PV) | dct (t:Bool) (kvs:List (PV × PV)) | dead
noncomputable abbrev Env:=List (Option PV)
noncomputable abbrev Store:=List Ob
inductive R (α:Type) where
  | ok (a:α) (st:Store) | exc (c:Nat) (st:Store) | bad
noncomputable def R.bind {α β:Type} (r:R α) (k:α -> Store -> R β):R β :=
  match r with
  | .ok a st=>k a st
  | .exc c st=>.exc c st
  | .bad=>.bad
inductive BOp where
  | add | sub | mul | fdiv | mod | pow | shl | shr | band | bor | bxor
inductive COp where
  | eq | ne | lt | le | gt | ge | is | isnot | isin | notin
inductive Ty where
  | int | bool | str | tuple | list | cls (c:Nat) | val
inductive Blt where
  | len | int | abs | min | max | tuple | list | all | sum | dict
inductive Mth where
  | append | extend | get | bits | upper
inductive Tg where
  | n (i:Nat) | t (l:List Nat)
mutual
inductive Ce where
  | cst (v:PV)
  | var (i:Nat)
  | bin (o:BOp) (a b:Ce)
  | neg (a:Ce)
  | not (a:Ce)
  | and (a b:Ce)
  | or (a b:Ce)
  | cmp (o:COp) (a b:Ce)
  | chain (o p:COp) (a b c:Ce)
  | ite (c a b:Ce)
  | tup (es:Ces)
  | lst (es:Ces)
  | newl (es:Ces)
  | newd (kvs:List (Str × Int))
  | dict0 (t:Bool)
  | idx (a i:Ce)
  | slc (a:Ce) (lo hi:Ce)
  | call (f:Nat) (args:Ces)
  | blt (b:Blt) (args:Ces)
  | mth (m:Mth) (o:Ce) (args:Ces)
  | isi (a:Ce) (t:List Ty)
  | comp (sl:List (Option Nat)) (tg:Tg) (it:Cit) (c:Ce) (e:Ce)
  | frz (a:Ce)
  | nope
  | fst (e:Ces)
inductive Ces where
  | nil
  | cons (e:Ce) (es:Ces)
inductive Cit where
  | seq (e:Ce)
  | range1 (a:Ce)
  | range2 (a b:Ce)
  | rangeD (a b:Ce)
  | enum (e:Ce)
  | zip (a b:Ce)
end
mutual
inductive Cs where
  | expr (e:Ce)
  | asg (t:Tg) (e:Ce)
  | six (o i e:Ce)
  | dput (o i e:Ce)
  | aug (i:Nat) (o:BOp) (e:Ce)
  | ret (e:Ce)
  | ite (c:Ce) (a b:Css)
  | for (t:Tg) (it:Cit) (b:Css)
  | while (c:Ce) (b:Css)
  | nope
  | brk
  | cnt
  | pass
  | raise (c:Nat) (e:Ce)
  | try (b:Css) (c:Nat) (i:Nat) (h:Css)
inductive Css where
  | nil
  | cons (s:Cs) (ss:Css)
end
noncomputable def CMulB (i j:Int):Bool:=(decide (i.natAbs < 18446744073709551616)) || (decide (j.natAbs < 18446744073709551616))
noncomputable def binI (o:BOp) (i j:Int):Option PV :=
  match o with
  | .add=>some (.int (i + j))
  | .sub=>some (.int (i - j))
  | .mul=>if CMulB i j then some (.int (i * j)) else none
  | .fdiv=>if 0 < j /\ j < 10000000000000000000000000000000000000000000000000000000000000000000000 then some (.int (i / j)) else none
  | .mod=>if 0 < j then some (.int (i % j)) else none
  | .pow=>if 0 <= j /\ j <= 1000000 /\ i.natAbs < 18446744073709551616 then some (.int (i ^ j.toNat)) else none
  | .shl=>if 0 <= j /\ j <= 1000000 /\ i.natAbs < 18446744073709551616 then some (.int (i * 2 ^ j.toNat)) else none
  | .shr=>if 0 <= j then some (.int (i / 2 ^ j.toNat)) else none
  | .band=>some (.int (Builtin.bitAnd i j))
  | .bor=>some (.int (Builtin.bitOr i j))
  | .bxor=>some (.int (Builtin.bitXor i j))
noncomputable def sizeMax:Nat:=16777216
noncomputable def binV (o:BOp) (x y:PV):Option PV :=
  match x,y with
  | .int i,.int j=>binI o i j
  | .int i,.bl b=>match o with
    | .add=>some (.int (i + bi b))
    | _=>none
  | .str a,.str b=>match o with
    | .add=>if a.length + b.length <= sizeMax then some (.str (a ++ b)) else none
    | _=>none
  | .tp _ a,.tp _ b=>match o with
    | .add=>if a.length + b.length <= sizeMax /\ a.isEmpty = false /\ b.isEmpty = false then some (.tup (a ++ b)) else none
    | _=>none
  | .lst a,.lst b=>match o with
    | .add=>if a.length + b.length <= sizeMax then some (.lst (a ++ b)) else none
    | _=>none
  | _,_=>none
noncomputable def augV (o:BOp) (x y:PV):Option PV :=
  match x,y with
  | .int i,.int j=>binI o i j
  | _,_=>none
noncomputable def isNon:PV -> Bool
  | .non=>true
  | _=>false
noncomputable def inL (x:PV):List PV -> Bool
  | []=>false
  | y :: ys=>peq y x || inL x ys
noncomputable def inS (a b:Str):Bool:=(List.range (b.length + 1)).any fun i=>decide (i + a.length <= b.length) && (b.cps.extract i (i + a.length) == a.cps)
noncomputable def cmpI (o:COp) (i j:Int):Option PV :=
  match o with
  | .lt=>some (.bl (decide (i < j)))
  | .le=>some (.bl (decide (i <= j)))
  | .gt=>some (.bl (decide (j < i)))
  | .ge=>some (.bl (decide (j <= i)))
  | _=>none
noncomputable def cmpV (o:COp) (x y:PV):Option PV :=
  match o with
  | .eq=>if shp x && shp y then some (.bl (peq x y)) else none
  | .ne=>if shp x && shp y then some (.bl (!peq x y)) else none
  | .is=>match y with
    | .non=>some (.bl (isNon x))
    | _=>none
  | .isnot=>match y with
    | .non=>some (.bl (!isNon x))
    | _=>none
  | .isin=>match x,y with
    | .str a,.str b=>some (.bl (inS a b))
    | x,.tp _ l=>if flat x && l.all flat then some (.bl (inL x l)) else none
    | x,.lst l=>if flat x && l.all flat then some (.bl (inL x l)) else none
    | _,_=>none
  | .notin=>match x,y with
    | .str a,.str b=>some (.bl (!inS a b))
    | x,.tp _ l=>if flat x && l.all flat then some (.bl (!inL x l)) else none
    | x,.lst l=>if flat x && l.all flat then some (.bl (!inL x l)) else none
    | _,_=>none
  | o=>match x,y with
    | .int i,.int j=>cmpI o i j
    | _,_=>none
noncomputable def truV (st:Store) (x:PV):Option Bool :=
  match x with
  | .non=>some false
  | .bl b=>some b
  | .int i=>some (i != 0)
  | .str y=>if y.length <= sizeMax then some ((y.length:Int) != 0) else none
  | .tp _ xs=>some (!xs.isEmpty)
  | .lst xs=>some (!xs.isEmpty)
  | .loc n=>match st[n]? with
    | some (.lst xs)=>some (!xs.isEmpty)
    | _=>none
  | _=>none
noncomputable def ixI (n:Nat) (i:Int):Option Nat:=if 0 <= i then (if i < n then some i.toNat else none) else if -(n:Int) <= i then some (i + n).toNat else none
noncomputable def at? {α:Type} (xs:List α) (i:Int):Option α:=(ixI xs.length i).bind fun j=>xs[j]?
noncomputable def look (k:PV):List (PV × PV) -> Option PV
  | []=>none
  | (a,b) :: r=>if peq a k then some b else look k r
noncomputable def put (k v:PV) (kvs:List (PV × PV)):List (PV × PV) :=
  if (kvs.any fun p=>peq p.1 k) = true then kvs.map (fun p=>if peq p.1 k = true then (p.1,v) else p) else kvs ++ [(k,v)]
noncomputable def isKey0:PV -> Bool
  | .int _=>true
  | .str _=>true
  | _=>false
noncomputable def isKey (t:Bool) (k:PV):Bool :=
  match t with
  | false=>isKey0 k
  | true=>match k with
    | .tp false xs=>xs.all isKey0
    | _=>false
noncomputable def idxI {α:Type} (xs:List α) (i:PV):Option α :=
  match i with
  | .int k=>at? xs k
  | _=>none
noncomputable def idxV (st:Store) (x i:PV):Option PV :=
  match x with
  | .tp _ xs=>idxI xs i
  | .lst xs=>idxI xs i
  | .str s=>if s.length <= sizeMax then (idxI s.cps.toList i).map fun c=>.str ⟨#[c]⟩ else none
  | .loc n=>match st[n]? with
    | some (.lst xs)=>idxI xs i
    | _=>none
  | _=>none
noncomputable def clampI (n:Nat) (v:Int):Nat:=if v < 0 then (v + (n:Int)).toNat else min v.toNat n
noncomputable def loOf (n:Nat) (lo:Option Int):Nat :=
  match lo with
  | none=>0
  | some i=>clampI n i
noncomputable def hiOf (n:Nat) (hi:Option Int):Nat :=
  match hi with
  | none=>n
  | some i=>clampI n i
noncomputable def cut {α:Type} (xs:List α) (lo hi:Option Int):List α:=(xs.drop (loOf xs.length lo)).take (hiOf xs.length hi - loOf xs.length lo)
noncomputable def optI:PV -> Option (Option Int)
  | .non=>some none
  | .int i=>some (some i)
  | _=>none
noncomputable def slcO (x:PV) (a b:Option Int):Option PV :=
  match x with
  | .tp _ xs=>if loOf xs.length a = 0 /\ hiOf xs.length b = xs.length then none else some (.tup (cut xs a b))
  | .lst xs=>some (.lst (cut xs a b))
  | .scr xs=>some (.lst (cut xs a b))
  | _=>none
noncomputable def slcV (x:PV) (a:Option Int) (hi:PV):Option PV :=
  match optI hi with
  | some b=>slcO x a b
  | none=>none
noncomputable def isTy (x:PV) (t:Ty):Bool :=
  match x,t with
  | .int _,.int=>true
  | .bl _,.int=>true
  | .bl _,.bool=>true
  | .str _,.str=>true
  | .tp _ _,.tuple=>true
  | .lst _,.list=>true
  | .exn c,.cls d=>c == d
  | .exn _,.val=>true
  | _,_=>false
noncomputable def isBl:Ty -> Bool
  | .cls _=>false
  | .val=>false
  | _=>true
noncomputable def isiV (x:PV) (ts:List Ty):Option PV :=
  match x with
  | .loc _=>none
  | .scr _=>none
  | .exn c=>if ts.all isBl then none else some (.bl (ts.any (isTy (.exn c))))
  | x=>match ts with
    | [t]=>if isBl t then some (.bl (isTy x t)) else none
    | _=>none
noncomputable def allB:List PV -> Option Bool
  | []=>some true
  | .bl b :: r=>match allB r with
    | some c=>some (b && c)
    | none=>none
  | _ :: _=>none
noncomputable def sumI:List PV -> Option Int
  | []=>some 0
  | .int i :: r=>match sumI r with
    | some c=>some (i + c)
    | none=>none
  | _ :: _=>none
noncomputable def maxI:List PV -> Option Int
  | []=>none
  | [.int i]=>some i
  | .int i :: r=>match maxI r with
    | some c=>some (if i < c then c else i)
    | none=>none
  | _ :: _=>none
noncomputable def seqOf (st:Store):PV -> Option (List PV)
  | .tp _ xs=>some xs
  | .lst xs=>some xs
  | .loc n=>match st[n]? with
    | some (.lst xs)=>some xs
    | _=>none
  | _=>none
noncomputable def lstOf (st:Store):PV -> Option (List PV)
  | .lst xs=>some xs
  | .loc n=>match st[n]? with
    | some (.lst xs)=>some xs
    | _=>none
  | _=>none
noncomputable def lenV (st:Store) (x:PV):Option PV :=
  match x with
  | .str s=>if s.length <= sizeMax then some (.int s.length) else none
  | x=>(seqOf st x).map fun xs=>.int xs.length
noncomputable def intV (x:PV):Option PV :=
  match x with
  | .int i=>some (.int i)
  | .bl k=>some (.int (bi k))
  | _=>none
noncomputable def absV1 (x:PV):Option PV :=
  match x with
  | .int i=>some (.int (if i < 0 then -i else i))
  | _=>none
noncomputable def minV (x y:PV):Option PV :=
  match x,y with
  | .int i,.int j=>some (.int (if j < i then j else i))
  | _,_=>none
noncomputable def maxV (x y:PV):Option PV :=
  match x,y with
  | .int i,.int j=>some (.int (if i < j then j else i))
  | _,_=>none
noncomputable def tupV (st:Store) (x:PV):Option PV :=
  match x with
  | .tp k xs=>some (.tp k xs)
  | x=>(lstOf st x).map .tup
noncomputable def bltV (b:Blt) (st:Store) (vs:List PV):Option PV :=
  match vs with
  | [x]=>match b with
    | .len=>lenV st x
    | .int=>intV x
    | .abs=>absV1 x
    | .max=>(lstOf st x).bind fun xs=>(maxI xs).map .int
    | .tuple=>tupV st x
    | .list=>(seqOf st x).map .lst
    | .all=>(lstOf st x).bind fun xs=>(allB xs).map .bl
    | .sum=>(lstOf st x).bind fun xs=>(sumI xs).map .int
    | _=>none
  | [x,y]=>match b with
    | .min=>minV x y
    | .max=>maxV x y
    | _=>none
  | _=>none
noncomputable def dctOf (st:Store):PV -> Option (Bool × List (PV × PV))
  | .loc n=>match st[n]? with
    | some (.dct t xs)=>some (t,xs)
    | _=>none
  | _=>none
noncomputable def mthOk (m:Mth) (st:Store) (x:PV):Option Bool :=
  match m with
  | .append=>(lstOf st x).map fun _=>true
  | .extend=>(lstOf st x).map fun _=>true
  | .get=>(dctOf st x).map fun _=>true
  | .bits=>match x with
    | .int _=>some true
    | _=>none
  | .upper=>none
noncomputable def appV (st:Store) (o v:PV):R PV :=
  match o with
  | .loc n=>match st[n]? with
    | some (.lst xs)=>if xs.length < 1000000 then .ok .non (st.set n (.lst (xs ++ [v]))) else .bad
    | _=>.bad
  | _=>.bad
noncomputable def extV (st:Store) (o v:PV):R PV :=
  match o with
  | .loc n=>match st[n]? with
    | some (.lst xs)=>match v with
      | .lst ys=>if xs.length + ys.length <= 1000000 then .ok .non (st.set n (.lst (xs ++ ys))) else .bad
      | _=>.bad
    | _=>.bad
  | _=>.bad
noncomputable def getV (st:Store) (o k d:PV):R PV :=
  match dctOf st o with
  | some (t,kvs)=>if isKey t k then .ok ((look k kvs).getD d) st else .bad
  | none=>.bad
noncomputable def mthV (m:Mth) (st:Store) (o:PV) (vs:List PV):R PV :=
  match m,vs with
  | .append,[v]=>appV st o v
  | .extend,[v]=>extV st o v
  | .get,[k,d]=>getV st o k d
  | .bits,[]=>match o with
    | .int i=>.ok (.int (Builtin.Int.intBits i)) st
    | _=>.bad
  | _,_=>.bad
noncomputable def toR (o:Option PV) (st:Store):R PV :=
  match o with
  | some v=>.ok v st
  | none=>.bad
noncomputable def bindT (t:Tg) (v:PV) (ρ:Env):Option Env :=
  match t,v with
  | .n i,v=>some (ρ.set i (some v))
  | .t l,.tp _ xs=>if l.length = xs.length then some ((l.zip xs).foldl (fun ρ p=>ρ.set p.1 (some p.2)) ρ) else none
  | _,_=>none
noncomputable def pairsUp:Nat -> List PV -> List PV
  | _,[]=>[]
  | k,x :: xs=>.tup [.int k,x] :: pairsUp (k + 1) xs
noncomputable def zipUp:List PV -> List PV -> List PV
  | x :: xs,y :: ys=>.tup [x,y] :: zipUp xs ys
  | _,_=>[]
noncomputable def rangeL:Nat -> Int -> Int -> List PV
  | 0,_,_=>[]
  | n + 1,a,d=>.int a :: rangeL n (a + d) d
noncomputable def rng1 (x:PV):Option (List PV) :=
  match x with
  | .int j=>if j.natAbs < 1000000000 then some (rangeL j.toNat 0 1) else none
  | _=>none
noncomputable def rng2 (x y:PV):Option (List PV) :=
  match x,y with
  | .int i,.int j=>if i.natAbs < 1000000000 /\ j.natAbs < 1000000000 then some (rangeL (j - i).toNat i 1) else none
  | _,_=>none
noncomputable def rngD (x y:PV):Option (List PV) :=
  match x,y with
  | .int i,.int j=>if i.natAbs < 1000000000 /\ j.natAbs < 1000000000 then some (rangeL (i - j).toNat i (-1)) else none
  | _,_=>none
noncomputable def toL (o:Option (List PV)) (st:Store):R (List PV) :=
  match o with
  | some v=>.ok v st
  | none=>.bad
noncomputable def frzV (v:PV) (st:Store):R PV :=
  match v with
  | .loc n=>match st[n]? with
    | some (.lst xs)=>.ok (.lst xs) (st.set n .dead)
    | _=>.bad
  | v=>.ok v st
inductive Fl where
  | nx (ρ:Env) (st:Store) | rt (v:PV) (st:Store) | bk (ρ:Env) (st:Store) | ct (ρ:Env) (st:Store) | exc (c:Nat) (ρ:Env) (st:Store) | bad
noncomputable def onBl {α:Type} (x:PV) (k:Bool -> R α):R α :=
  match x with
  | .bl b=>k b
  | _=>.bad
noncomputable def onO {α:Type} (o:Option Bool) (k:Bool -> R α):R α :=
  match o with
  | some b=>k b
  | none=>.bad
noncomputable def onF (o:Option Bool) (k:Bool -> Fl):Fl :=
  match o with
  | some b=>k b
  | none=>.bad
noncomputable def onP {α:Type} (o:Option (Option Int)) (k:Option Int -> R α):R α :=
  match o with
  | some b=>k b
  | none=>.bad
noncomputable def blO (o:Option PV):Option Bool :=
  match o with
  | some (.bl b)=>some b
  | _=>none
noncomputable def consO (o:Option PV) (ys:List PV):List PV :=
  match o with
  | some y=>y :: ys
  | none=>ys
noncomputable def compL (one:PV -> Store -> R (Option PV)):List PV -> Store -> R (List PV)
  | [],st=>.ok [] st
  | x :: xs,st=>(one x st).bind fun o st1=>(compL one xs st1).bind fun ys st2=>.ok (consO o ys) st2
noncomputable def lstR (r:R (List PV)):R PV :=
  match r with
  | .ok ys st=>if ys.length <= 1000000 then .ok (.lst ys) st else .bad
  | _=>.bad
mutual
noncomputable def ev (call:Nat -> List PV -> Store -> R PV) (ρ:Env) (st:Store):Ce -> R PV
  | .cst v=>.ok v st
  | .var i=>match ρ[i]? with
    | some (some v)=>.ok v st
    | _=>.bad
  | .bin o a b=>(ev call ρ st a).bind fun x st1=>(ev call ρ st1 b).bind fun y st2=>toR (binV o x y) st2
  | .neg a=>(ev call ρ st a).bind fun x st1=>match x with
    | .int i=>.ok (.int (-i)) st1
    | _=>.bad
  | .not a=>(ev call ρ st a).bind fun x st1=>onBl x fun k=>.ok (.bl (!k)) st1
  | .and a b=>(ev call ρ st a).bind fun x st1=>onBl x fun k=>cond k (ev call ρ st1 b) (.ok (.bl false) st1)
  | .or a b=>(ev call ρ st a).bind fun x st1=>onBl x fun k=>cond k (.ok (.bl true) st1) (ev call ρ st1 b)
  | .cmp o a b=>(ev call ρ st a).bind fun x st1=>(ev call ρ st1 b).bind fun y st2=>toR (cmpV o x y) st2
  | .chain o p a b c=>(ev call ρ st a).bind fun x st1=>(ev call ρ st1 b).bind fun y st2=>onO (blO (cmpV o x y)) fun k=>cond k ((ev call ρ st2 c).bind fun z st3=>toR (cmpV p y z) st3) (.ok (.bl false) st2)
  | .ite c a b=>(ev call ρ st c).bind fun x st1=>onO (truV st1 x) fun k=>cond k (ev call ρ st1 a) (ev call ρ st1 b)
  | .tup es=>(evs call ρ st es).bind fun vs st1=>if vs.length <= sizeMax then .ok (.tup vs) st1 else .bad
  | .lst es=>(evs call ρ st es).bind fun vs st1=>if vs.length <= sizeMax then .ok (.lst vs) st1 else .bad
  | .newl es=>(evs call ρ st es).bind fun vs st1=>if vs.length <= sizeMax then .ok (.loc st1.length) (st1 ++ [.lst vs]) else .bad
  | .newd kvs=>if kvs.length <= 15 then .ok (.loc st.length) (st ++ [.dct false (kvs.foldl (fun acc kv=>put (.str kv.1) (.int kv.2) acc) [])]) else .bad
  | .dict0 t=>.ok (.loc st.length) (st ++ [.dct t []])
  | .idx a i=>(ev call ρ st a).bind fun x st1=>(ev call ρ st1 i).bind fun y st2=>toR (idxV st2 x y) st2
  | .slc a l h=>(ev call ρ st a).bind fun x st1=>(ev call ρ st1 l).bind fun y st2=>onP (optI y) fun o=>(ev call ρ st2 h).bind fun z st3=>toR (slcV x o z) st3
  | .call f es=>(evs call ρ st es).bind fun vs st1=>call f vs st1
  | .blt b es=>(evs call ρ st es).bind fun vs st1=>toR (bltV b st1 vs) st1
  | .mth m o es=>(ev call ρ st o).bind fun x st1=>onO (mthOk m st1 x) fun _=>(evs call ρ st1 es).bind fun vs st2=>mthV m st2 x vs
  | .isi a ts=>(ev call ρ st a).bind fun x st1=>toR (isiV x ts) st1
  | .comp sl tg it c e=>(evi call ρ st it).bind fun xs st1 =>
    let ρ0:Env:=sl.map fun o=>o.bind fun j=>(ρ[j]?).join
    lstR (compL (fun x st2=>match bindT tg x ρ0 with
      | none=>.bad
      | some ρ1=>(ev call ρ1 st2 c).bind fun b st3=>onO (truV st3 b) fun k=>cond k ((ev call ρ1 st3 e).bind fun y st4=>.ok (some y) st4) (.ok none st3)) xs st1)
  | .nope=>.bad
  | .frz a=>(ev call ρ st a).bind fun x st1=>frzV x st1
  | .fst es=>(evs call ρ st es).bind fun _ st1=>.ok (.str ⟨#[]⟩) st1
noncomputable def evs (call:Nat -> List PV -> Store -> R PV) (ρ:Env) (st:Store):Ces -> R (List PV)
  | .nil=>.ok [] st
  | .cons e es=>(ev call ρ st e).bind fun v st1=>(evs call ρ st1 es).bind fun vs st2=>.ok (v :: vs) st2
noncomputable def evi (call:Nat -> List PV -> Store -> R PV) (ρ:Env) (st:Store):Cit -> R (List PV)
  | .seq e=>(ev call ρ st e).bind fun v st1=>match v with
    | .tp _ xs=>.ok xs st1
    | .lst xs=>.ok xs st1
    | _=>.bad
  | .range1 a=>(ev call ρ st a).bind fun x st1=>toL (rng1 x) st1
  | .range2 a b=>(ev call ρ st a).bind fun x st1=>(ev call ρ st1 b).bind fun y st2=>toL (rng2 x y) st2
  | .rangeD a b=>(ev call ρ st a).bind fun x st1=>(ev call ρ st1 b).bind fun y st2=>toL (rngD x y) st2
  | .enum e=>(ev call ρ st e).bind fun v st1=>match v with
    | .tp _ xs=>.ok (pairsUp 0 xs) st1
    | _=>.bad
  | .zip a b=>(ev call ρ st a).bind fun x st1=>(ev call ρ st1 b).bind fun y st2=>match x,y with
    | .tp _ xs,.tp _ ys=>.ok (zipUp xs ys) st2
    | .lst xs,.tp _ ys=>.ok (zipUp xs ys) st2
    | .tp _ xs,.lst ys=>.ok (zipUp xs ys) st2
    | .lst xs,.lst ys=>.ok (zipUp xs ys) st2
    | _,_=>.bad
end
noncomputable def R.fl {α:Type} (r:R α) (ρ:Env) (k:α -> Store -> Fl):Fl :=
  match r with
  | .ok a st=>k a st
  | .exc c st=>.exc c ρ st
  | .bad=>.bad
noncomputable def againF (f:Fl) (k:Env -> Store -> Fl):Fl :=
  match f with
  | .nx ρ st=>k ρ st
  | .ct ρ st=>k ρ st
  | .bk ρ st=>.nx ρ st
  | f=>f
noncomputable def forL (t:Tg) (body:Env -> Store -> Fl):List PV -> Env -> Store -> Fl
  | [],ρ,st=>.nx ρ st
  | x :: xs,ρ,st=>match bindT t x ρ with
    | none=>.bad
    | some ρ1=>againF (body ρ1 st) fun ρ2 st2=>forL t body xs ρ2 st2
noncomputable def whileL (test:Env -> Store -> R PV) (body:Env -> Store -> Fl):Nat -> Env -> Store -> Fl
  | 0,_,_=>.bad
  | n + 1,ρ,st=>(test ρ st).fl ρ fun x st1=>onF (truV st1 x) fun k=>cond k (againF (body ρ st1) fun ρ2 st2=>whileL test body n ρ2 st2) (.nx ρ st1)
noncomputable def sixV (st:Store) (o i v:PV):Option Store :=
  match o with
  | .loc n=>match st[n]? with
    | some (.lst xs)=>match i with
      | .int k=>match ixI xs.length k with
        | some j=>some (st.set n (.lst (xs.set j v)))
        | none=>none
      | _=>none
    | _=>none
  | _=>none
noncomputable def dputV (st:Store) (o i v:PV):Option Store :=
  match o with
  | .loc n=>match st[n]? with
    | some (.dct t kvs)=>if isKey t i /\ kvs.length < 1000000 then some (st.set n (.dct t (put i v kvs))) else none
    | _=>none
  | _=>none
mutual
noncomputable def ex (call:Nat -> List PV -> Store -> R PV) (ρ:Env) (st:Store):Cs -> Fl
  | .expr e=>(ev call ρ st e).fl ρ fun _ st1=>.nx ρ st1
  | .asg t e=>(ev call ρ st e).fl ρ fun v st1=>match bindT t v ρ with
    | some ρ1=>.nx ρ1 st1
    | none=>.bad
  | .six o i e=>(ev call ρ st e).fl ρ fun v st1=>(ev call ρ st1 o).fl ρ fun x st2=>(ev call ρ st2 i).fl ρ fun y st3=>match sixV st3 x y v with
    | some st4=>.nx ρ st4
    | none=>.bad
  | .dput o i e=>(ev call ρ st e).fl ρ fun v st1=>(ev call ρ st1 o).fl ρ fun x st2=>(ev call ρ st2 i).fl ρ fun y st3=>match dputV st3 x y v with
    | some st4=>.nx ρ st4
    | none=>.bad
  | .aug i o e=>match ρ[i]? with
    | some (some x)=>(ev call ρ st e).fl ρ fun y st1=>match augV o x y with
      | some z=>.nx (ρ.set i (some z)) st1
      | none=>.bad
    | _=>.bad
  | .ret e=>(ev call ρ st e).fl ρ fun v st1=>.rt v st1
  | .ite c a b=>(ev call ρ st c).fl ρ fun x st1=>onF (truV st1 x) fun k=>cond k (exs call ρ st1 a) (exs call ρ st1 b)
  | .for t it b=>(evi call ρ st it).fl ρ fun xs st1=>forL t (fun ρ2 st2=>exs call ρ2 st2 b) xs ρ st1
  | .while c b=>whileL (fun ρ2 st2=>ev call ρ2 st2 c) (fun ρ2 st2=>exs call ρ2 st2 b) 100000 ρ st
  | .nope=>.bad
  | .brk=>.bk ρ st
  | .cnt=>.ct ρ st
  | .pass=>.nx ρ st
  | .raise c e=>(ev call ρ st e).fl ρ fun _ st1=>.exc c ρ st1
  | .try b c i h=>match exs call ρ st b with
    | .exc d ρ1 st1=>match exs call (ρ1.set i (some (.exn d))) st1 h with
      | .nx ρ2 st2=>.nx (ρ2.set i none) st2
      | .rt v st2=>.rt v st2
      | _=>.bad
    | f=>f
noncomputable def exs (call:Nat -> List PV -> Store -> R PV) (ρ:Env) (st:Store):Css -> Fl
  | .nil=>.nx ρ st
  | .cons s ss=>match ex call ρ st s with
    | .nx ρ1 st1=>exs call ρ1 st1 ss
    | f=>f
end
structure Fn where
  np:Nat
  ns:Nat
  pure:Bool
  body:Css
noncomputable def callT (T:Nat -> Option Fn):Nat -> Nat -> List PV -> Store -> R PV
  | 0,_,_,_=>.bad
  | k + 1,f,args,st=>match T f with
    | none=>.bad
    | some fn=>if args.length = fn.np then
        if fn.pure then
          if noLocs args then match exs (callT T k) (args.map some ++ List.replicate (fn.ns - fn.np) none) [] fn.body with
            | .rt v _=>if noLoc v then .ok v st else .bad
            | .nx _ _=>.ok .non st
            | .exc c _ _=>.exc c st
            | _=>.bad
          else .bad
        else match exs (callT T k) (args.map some ++ List.replicate (fn.ns - fn.np) none) st fn.body with
          | .rt v st1=>.ok v st1
          | .nx _ st1=>.ok .non st1
          | .exc c _ st1=>.exc c st1
          | _=>.bad
      else .bad
noncomputable def tailC:List (Sum Ce Int) -> Ces
  | []=>.nil
  | .inl c :: r=>.cons c (tailC r)
  | .inr i :: r=>.cons (.cst (.int i)) (tailC r)
noncomputable def appC:Ces -> Ces -> Ces
  | .nil,b=>b
  | .cons e r,b=>.cons e (appC r b)
end IC
namespace IC
open PySem
def RLe {α:Type} (r q:R α):Prop:=r = .bad \/ r = q
def FLe (f g:Fl):Prop:=f = .bad \/ f = g
noncomputable abbrev Cl:=Nat -> List PV -> Store -> R PV
def CLe (c d:Cl):Prop:=∀ f a s,RLe (c f a s) (d f a s)
theorem RLe.rfl {α:Type} {r:R α}:RLe r r:=.inr (Eq.refl _)
theorem FLe.rfl {f:Fl}:FLe f f:=.inr (Eq.refl _)
theorem RLe.bind {α β:Type} {r q:R α} {k l:α -> Store -> R β} (h:RLe r q) (hk:∀ a s,RLe (k a s) (l a s)):RLe (r.bind k) (q.bind l):=by
  rcases h with h | h
  · subst h; exact .inl (Eq.refl _)
  · subst h
    cases r with
    | ok a s=>exact hk a s
    | exc c s=>exact .rfl
    | bad=>exact .rfl
theorem RLe.fl {α:Type} {r q:R α} {ρ:Env} {k l:α -> Store -> Fl} (h:RLe r q) (hk:∀ a s,FLe (k a s) (l a s)):FLe (r.fl ρ k) (q.fl ρ l):=by
  rcases h with h | h
  · subst h; exact .inl (Eq.refl _)
  · subst h
    cases r with
    | ok a s=>exact hk a s
    | exc c s=>exact .rfl
    | bad=>exact .rfl
theorem RLe.comp {r q:R (List PV)} (h:RLe r q):RLe (lstR r) (lstR q):=by
  rcases h with h | h
  · subst h; exact .inl (Eq.refl _)
  · subst h; exact .rfl
theorem zmq {α:Type} {x:PV} {k l:Bool -> R α} (h:∀ b,RLe (k b) (l b)):RLe (onBl x k) (onBl x l):=by
  cases x with
  | bl b=>exact h b
  | _=>exact .rfl
theorem zkn {α:Type} {x:Option Bool} {k l:Bool -> R α} (h:∀ b,RLe (k b) (l b)):RLe (onO x k) (onO x l):=by
  cases x with
  | some b=>exact h b
  | none=>exact .rfl
theorem zoF {x:Option Bool} {k l:Bool -> Fl} (h:∀ b,FLe (k b) (l b)):FLe (onF x k) (onF x l):=by
  cases x with
  | some b=>exact h b
  | none=>exact .rfl
theorem zqj {α:Type} {x:Option (Option Int)} {k l:Option Int -> R α} (h:∀ b,RLe (k b) (l b)):RLe (onP x k) (onP x l):=by
  cases x with
  | some b=>exact h b
  | none=>exact .rfl
theorem zf8 {α:Type} {b:Bool} {r q r' q':R α} (h:RLe r q) (h':RLe r' q'):RLe (cond b r r') (cond b q q'):=by
  cases b
  · exact h'
  · exact h
theorem zkA {b:Bool} {r q r' q':Fl} (h:FLe r q) (h':FLe r' q'):FLe (cond b r r') (cond b q q'):=by
  cases b
  · exact h'
  · exact h
theorem zhP {f g:PV -> Store -> R (Option PV)} (h:∀ x s,RLe (f x s) (g x s)):∀ xs s,RLe (compL f xs s) (compL g xs s)
  | [],s=>.rfl
  | x :: xs,s=>(h x s).bind fun o s1=>(zhP h xs s1).bind fun ys s2=>.rfl
theorem ziO {f g:Fl} {k l:Env -> Store -> Fl} (h:FLe f g) (hk:∀ ρ s,FLe (k ρ s) (l ρ s)):FLe (againF f k) (againF g l):=by
  rcases h with h | h
  · subst h; exact .inl (Eq.refl _)
  · subst h
    cases f with
    | nx ρ s=>exact hk ρ s
    | ct ρ s=>exact hk ρ s
    | _=>exact .rfl
theorem zmo {t:Tg} {f g:Env -> Store -> Fl} (h:∀ ρ s,FLe (f ρ s) (g ρ s)):∀ xs ρ s,FLe (forL t f xs ρ s) (forL t g xs ρ s)
  | [],ρ,s=>.rfl
  | x :: xs,ρ,s=>by
    unfold forL
    cases bindT t x ρ with
    | none=>exact .rfl
    | some ρ1=>exact ziO (h ρ1 s) fun ρ2 s2=>zmo h xs ρ2 s2
theorem zi8 {t u:Env -> Store -> R PV} {f g:Env -> Store -> Fl} (ht:∀ ρ s,RLe (t ρ s) (u ρ s)) (h:∀ ρ s,FLe (f ρ s) (g ρ s)):∀ n ρ s,FLe (whileL t f n ρ s) (whileL u g n ρ s)
  | 0,ρ,s=>.rfl
  | n + 1,ρ,s=>by
    unfold whileL
    exact (ht ρ s).fl fun x s1=>zoF fun b=>zkA (ziO (h ρ s1) fun ρ2 s2=>zi8 ht h n ρ2 s2) .rfl
mutual
theorem zac {c d:Cl} (h:CLe c d):∀ (e:Ce) (ρ:Env) (s:Store),RLe (ev c ρ s e) (ev d ρ s e)
  | .cst v,ρ,s=>by simp only [ev]; exact .rfl
  | .var i,ρ,s=>by simp only [ev]; exact .rfl
  | .bin o a b,ρ,s=>by
    simp only [ev]
    exact (zac h a ρ s).bind fun x s1=>(zac h b ρ s1).bind fun y s2=>.rfl
  | .neg a,ρ,s=>by
    simp only [ev]
    exact (zac h a ρ s).bind fun x s1=>.rfl
  | .not a,ρ,s=>by
    simp only [ev]
    exact (zac h a ρ s).bind fun x s1=>.rfl
  | .and a b,ρ,s=>by
    simp only [ev]
    refine (zac h a ρ s).bind fun x s1=>?_
    exact zmq fun k=>zf8 (zac h b ρ s1) .rfl
  | .or a b,ρ,s=>by
    simp only [ev]
    refine (zac h a ρ s).bind fun x s1=>?_
    exact zmq fun k=>zf8 .rfl (zac h b ρ s1)
  | .cmp o a b,ρ,s=>by
    simp only [ev]
    exact (zac h a ρ s).bind fun x s1=>(zac h b ρ s1).bind fun y s2=>.rfl
  | .chain o p a b k,ρ,s=>by
    simp only [ev]
    refine (zac h a ρ s).bind fun x s1=>(zac h b ρ s1).bind fun y s2=>?_
    exact zkn fun q=>zf8 ((zac h k ρ s2).bind fun z s3=>.rfl) .rfl
  | .ite k a b,ρ,s=>by
    simp only [ev]
    exact (zac h k ρ s).bind fun x s1=>zkn fun q=>zf8 (zac h a ρ s1) (zac h b ρ s1)
  | .tup es,ρ,s=>by
    simp only [ev]
    exact (zfn h es ρ s).bind fun x s1=>.rfl
  | .lst es,ρ,s=>by
    simp only [ev]
    exact (zfn h es ρ s).bind fun x s1=>.rfl
  | .newl es,ρ,s=>by
    simp only [ev]
    exact (zfn h es ρ s).bind fun x s1=>.rfl
  | .newd kvs,ρ,s=>by simp only [ev]; exact .rfl
  | .dict0 t,ρ,s=>by simp only [ev]; exact .rfl
  | .idx a i,ρ,s=>by
    simp only [ev]
    exact (zac h a ρ s).bind fun x s1=>(zac h i ρ s1).bind fun y s2=>.rfl
  | .slc a l u,ρ,s=>by
    simp only [ev]
    exact (zac h a ρ s).bind fun x s1=>(zac h l ρ s1).bind fun y s2=>zqj fun o=>(zac h u ρ s2).bind fun z s3=>.rfl
  | .call f es,ρ,s=>by
    simp only [ev]
    exact (zfn h es ρ s).bind fun x s1=>h f x s1
  | .blt b es,ρ,s=>by
    simp only [ev]
    exact (zfn h es ρ s).bind fun x s1=>.rfl
  | .mth m o es,ρ,s=>by
    simp only [ev]
    exact (zac h o ρ s).bind fun x s1=>zkn fun _=>(zfn h es ρ s1).bind fun y s2=>.rfl
  | .isi a ts,ρ,s=>by
    simp only [ev]
    exact (zac h a ρ s).bind fun x s1=>.rfl
  | .comp sl tg it k e,ρ,s=>by
    simp only [ev]
    refine (zoU h it ρ s).bind fun xs s1=>?_
    have q:=fun (f g:PV -> Store -> R (Option PV)) (hfg:∀ x s,RLe (f x s) (g x s))=>zhP hfg xs s1
    refine RLe.comp (zhP (fun x s2=>?_) xs s1)
    cases bindT tg x _ with
    | none=>exact .rfl
    | some ρ1 =>
      dsimp only
      exact (zac h k ρ1 s2).bind fun b s3=>zkn fun q=>zf8 ((zac h e ρ1 s3).bind fun y s4=>.rfl) .rfl
  | .nope,ρ,s=>by simp only [ev]; exact .rfl
  | .frz a,ρ,s=>by
    simp only [ev]
    exact (zac h a ρ s).bind fun x s1=>.rfl
  | .fst es,ρ,s=>by
    simp only [ev]
    exact (zfn h es ρ s).bind fun x s1=>.rfl
theorem zfn {c d:Cl} (h:CLe c d):∀ (e:Ces) (ρ:Env) (s:Store),RLe (evs c ρ s e) (evs d ρ s e)
  | .nil,ρ,s=>by simp only [evs]; exact .rfl
  | .cons e es,ρ,s=>by
    simp only [evs]
    exact (zac h e ρ s).bind fun x s1=>(zfn h es ρ s1).bind fun y s2=>.rfl
theorem zoU {c d:Cl} (h:CLe c d):∀ (e:Cit) (ρ:Env) (s:Store),RLe (evi c ρ s e) (evi d ρ s e)
  | .seq e,ρ,s=>by
    simp only [evi]
    exact (zac h e ρ s).bind fun x s1=>.rfl
  | .range1 a,ρ,s=>by
    simp only [evi]
    exact (zac h a ρ s).bind fun x s1=>.rfl
  | .range2 a b,ρ,s=>by
    simp only [evi]
    exact (zac h a ρ s).bind fun x s1=>(zac h b ρ s1).bind fun y s2=>.rfl
  | .rangeD a b,ρ,s=>by
    simp only [evi]
    exact (zac h a ρ s).bind fun x s1=>(zac h b ρ s1).bind fun y s2=>.rfl
  | .enum e,ρ,s=>by
    simp only [evi]
    exact (zac h e ρ s).bind fun x s1=>.rfl
  | .zip a b,ρ,s=>by
    simp only [evi]
    exact (zac h a ρ s).bind fun x s1=>(zac h b ρ s1).bind fun y s2=>.rfl
end
mutual
theorem zr4 {c d:Cl} (h:CLe c d):∀ (x:Cs) (ρ:Env) (s:Store),FLe (ex c ρ s x) (ex d ρ s x)
  | .expr e,ρ,s=>by
    simp only [ex]
    exact (zac h e ρ s).fl fun x s1=>.rfl
  | .asg t e,ρ,s=>by
    simp only [ex]
    exact (zac h e ρ s).fl fun x s1=>.rfl
  | .six o i e,ρ,s=>by
    simp only [ex]
    exact (zac h e ρ s).fl fun x s1=>(zac h o ρ s1).fl fun y s2=>(zac h i ρ s2).fl fun z s3=>.rfl
  | .dput o i e,ρ,s=>by
    simp only [ex]
    exact (zac h e ρ s).fl fun x s1=>(zac h o ρ s1).fl fun y s2=>(zac h i ρ s2).fl fun z s3=>.rfl
  | .aug i o e,ρ,s=>by
    simp only [ex]
    split
    · exact (zac h e ρ s).fl fun x s1=>.rfl
    · exact .rfl
  | .ret e,ρ,s=>by
    simp only [ex]
    exact (zac h e ρ s).fl fun x s1=>.rfl
  | .ite k a b,ρ,s=>by
    simp only [ex]
    exact (zac h k ρ s).fl fun x s1=>zoF fun q=>zkA (zeJ h a ρ s1) (zeJ h b ρ s1)
  | .for t it b,ρ,s=>by
    simp only [ex]
    exact (zoU h it ρ s).fl fun xs s1=>zmo (fun ρ2 s2=>zeJ h b ρ2 s2) xs ρ s1
  | .while k b,ρ,s=>by
    simp only [ex]
    exact zi8 (fun ρ2 s2=>zac h k ρ2 s2) (fun ρ2 s2=>zeJ h b ρ2 s2) _ ρ s
  | .nope,ρ,s=>by simp only [ex]; exact .rfl
  | .brk,ρ,s=>by simp only [ex]; exact .rfl
  | .cnt,ρ,s=>by simp only [ex]; exact .rfl
  | .pass,ρ,s=>by simp only [ex]; exact .rfl
  | .raise k e,ρ,s=>by
    simp only [ex]
    exact (zac h e ρ s).fl fun x s1=>.rfl
  | .try b k i u,ρ,s=>by
    simp only [ex]
    rcases zeJ h b ρ s with e | e
    · rw [e]; exact .inl (Eq.refl _)
    · rw [e]
      cases exs d ρ s b with
      | exc q ρ1 s1 =>
        dsimp only
        rcases zeJ h u (ρ1.set i (some (.exn q))) s1 with e | e
        · rw [e]; exact .inl (Eq.refl _)
        · rw [e]; exact .rfl
      | _=>exact .rfl
theorem zeJ {c d:Cl} (h:CLe c d):∀ (x:Css) (ρ:Env) (s:Store),FLe (exs c ρ s x) (exs d ρ s x)
  | .nil,ρ,s=>by simp only [exs]; exact .rfl
  | .cons x xs,ρ,s=>by
    simp only [exs]
    rcases zr4 h x ρ s with e | e
    · rw [e]; exact .inl (Eq.refl _)
    · rw [e]
      cases ex d ρ s x with
      | nx ρ1 s1=>exact zeJ h xs ρ1 s1
      | _=>exact .rfl
end
theorem ziA (T:Nat -> Option Fn):∀ k,CLe (callT T k) (callT T (k + 1))
  | 0,f,a,s=>.inl (Eq.refl _)
  | k + 1,f,a,s=>by
    have h:=ziA T k
    rw [callT,callT]
    cases T f with
    | none=>exact .rfl
    | some fn =>
      dsimp only
      split
      · split
        · split
          · rcases zeJ h fn.body (a.map some ++ List.replicate (fn.ns - fn.np) none) [] with e | e
            · rw [e]; exact .inl (Eq.refl _)
            · rw [e]; exact .rfl
          · exact .rfl
        · rcases zeJ h fn.body (a.map some ++ List.replicate (fn.ns - fn.np) none) s with e | e
          · rw [e]; exact .inl (Eq.refl _)
          · rw [e]; exact .rfl
      · exact .rfl
theorem zkr {T:Nat -> Option Fn} {k:Nat} {f:Nat} {a:List PV} {s s':Store} {v:PV} (h:callT T k f a s = .ok v s'):∀ j,callT T (k + j) f a s = .ok v s'
  | 0=>h
  | j + 1=>by
    have q:=zkr h j
    rcases ziA T (k + j) f a s with e | e
    · rw [q] at e; cases e
    · rw [Nat.add_assoc] at e
      rw [<- e]; exact q
end IC
namespace L2
open PySem PySem.Spec PyProof.Rows IC
noncomputable abbrev Ph:=List (Option Addr)
section
variable (K:PySem.W.Frag) (cl:Nat -> Addr) (B:Addr -> Prop) (φ:Ph) (H:Hp)
def RTup (k:Bool) (a:Addr) (xs:List V):Prop:=(H a = some (.tup xs) /\ ¬ B a /\ some a ∉ φ) \/
  k = true /\ ∃ (o:Obj) (its:Array Value) (n:Nat),K.lookup a = some o /\ o.cls = .type "tuple" /\ o.data = .seq its n /\ its.size <= sizeLine /\ Vals xs its.toList
def RLst (a:Addr) (xs:List V):Prop:=H a = some (.lst xs) /\ ¬ B a /\ some a ∉ φ
def RScr (a:Addr) (xs:List V):Prop:=(Rd H a (.lst xs) /\ ¬ B a /\ some a ∉ φ) \/
  ∃ (o:Obj) (its:Array Value) (n:Nat),K.lookup a = some o /\ o.cls = .type "list" /\ o.dict = none /\ o.data = .seq its n /\ its.size <= sizeLine /\ Vals xs its.toList
mutual
noncomputable def RepV:PV -> V -> Prop
  | .non,x=>x = .non
  | .bl b,x=>x = .bl b
  | .int i,x=>x = .int i
  | .str s,x=>x = .str s
  | .tp k vs,x=>∃ a xs,x = .ref a /\ RTup K B φ H k a xs /\ RepL vs xs
  | .lst vs,x=>∃ a xs,x = .ref a /\ RLst B φ H a xs /\ RepL vs xs
  | .loc n,x=>n < φ.length /\ ∃ a,x = .ref a /\ ∀ b,φ[n]? = some (some b) -> b = a
  | .exn c,x=>∃ a,x = .ref a /\ H a = some (.ext (ExcO a (cl c))) /\ ¬ B a /\ some a ∉ φ
  | .scr vs,x=>∃ a xs,x = .ref a /\ RScr K B φ H a xs /\ RepL vs xs
noncomputable def RepL:List PV -> List V -> Prop
  | [],xs=>xs = []
  | v :: vs,xs=>∃ y ys,xs = y :: ys /\ RepV v y /\ RepL vs ys
end
noncomputable def keyP:Key -> PV
  | .inl i=>.int i
  | .inr y=>.str y
noncomputable def DK:List (PV × PV) -> List (Key × V) -> Prop
  | [],ks=>ks = []
  | (k,v) :: r,ks=>∃ q x s,ks = (q,x) :: s /\ k = keyP q /\ RepV K cl B φ H v x /\ DK r s
noncomputable def DT:List (PV × PV) -> List (List Key × V) -> Prop
  | [],ks=>ks = []
  | (k,v) :: r,ks=>∃ q x s,ks = (q,x) :: s /\ k = .tup (q.map keyP) /\ RepV K cl B φ H v x /\ DT r s
noncomputable def RepO:Ob -> Addr -> Prop
  | .lst vs,a=>∃ xs,H a = some (.lst xs) /\ RepL K cl B φ H vs xs
  | .dct false kvs,a=>∃ ks,H a = some (.dK ks) /\ DK K cl B φ H kvs ks
  | .dct true kvs,a=>∃ ks,H a = some (.dT ks) /\ DT K cl B φ H kvs ks
  | .dead,_=>False
structure RepS (st:Store):Prop where
  len:φ.length = st.length
  inj:∀ (m n:Nat) (a:Addr),φ[m]? = some (some a) -> φ[n]? = some (some a) -> m = n
  obj:∀ (n:Nat) (a:Addr),φ[n]? = some (some a) -> ∃ o,st[n]? = some o /\ RepO K cl B φ H o a
  liv:∀ (n:Nat) (o:Ob),st[n]? = some o -> o ≠ .dead -> ∃ a,φ[n]? = some (some a)
  nb:∀ a,some a ∈ φ -> ¬ B a
  dom:∀ a,B a -> ∃ o,H a = some o
structure RepE (ρ:IC.Env) (σ:St):Prop where
  len:ρ.length = σ.length
  get:∀ (i:Nat) (v:PV),ρ[i]? = some (some v) -> ∃ x,σ[i]? = some (some x) /\ RepV K cl B φ H v x
end
structure Step (φ:Ph) (H:Hp) (φ':Ph) (H':Hp):Prop where
  keep:∀ b o,some b ∉ φ -> H b = some o -> H' b = some o
  len:φ.length <= φ'.length
  pre:∀ (n:Nat) (a:Addr),n < φ.length -> φ'[n]? = some (some a) -> φ[n]? = some (some a)
  new:∀ b,some b ∈ φ' -> some b ∈ φ \/ H b = none
theorem Step.rfl {φ:Ph} {H:Hp}:Step φ H φ H:=⟨fun _ _ _ e=>e,Nat.le_refl _,fun _ _ _ e=>e,fun _ h=>.inl h⟩
theorem Step.trans {φ φ1 φ2:Ph} {H H1 H2:Hp} (s:Step φ H φ1 H1) (t:Step φ1 H1 φ2 H2):Step φ H φ2 H2:=by
  refine ⟨fun b o n e=>?_,Nat.le_trans s.len t.len,fun n a hn e=>s.pre n a hn (t.pre n a (Nat.lt_of_lt_of_le hn s.len) e),fun b hb=>?_⟩
  · refine t.keep b o (fun h=>?_) (s.keep b o n e)
    rcases s.new b h with q | q
    · exact n q
    · rw [e] at q; cases q
  · rcases t.new b hb with q | q
    · exact s.new b q
    · by_cases h:some b ∈ φ
      · exact .inl h
      · refine .inr ?_
        cases e:H b with
        | none=>exact Eq.refl _
        | some o=>rw [s.keep b o h e] at q; cases q
section
variable {K:PySem.W.Frag} {cl:Nat -> Addr} {B:Addr -> Prop} {φ φ':Ph} {H H':Hp} {st:Store} {ρ:IC.Env} {σ:St}
theorem Rd.step (s:Step φ H φ' H') {a:Addr} {u:HO} (n:some a ∉ φ) (r:Rd H a u):Rd H' a u /\ some a ∉ φ':=by
  have h:∃ o,H a = some o:=by
    rcases r with r | ⟨o,r⟩ <;> exact ⟨_,r⟩
  refine ⟨?_,fun z=>?_⟩
  · rcases r with r | ⟨o,r⟩
    · exact .inl (s.keep _ _ n r)
    · exact .inr ⟨o,s.keep _ _ n r⟩
  · obtain ⟨o,e⟩:=h
    rcases s.new a z with q | q
    · exact n q
    · rw [e] at q; cases q
theorem RTup.step (s:Step φ H φ' H') {k:Bool} {a:Addr} {xs:List V} (r:RTup K B φ H k a xs):RTup K B φ' H' k a xs:=by
  rcases r with ⟨r,b,n⟩ | r
  · obtain ⟨_,n'⟩:=(Rd.of r).step s n
    exact .inl ⟨s.keep _ _ n r,b,n'⟩
  · exact .inr r
theorem RLst.step (s:Step φ H φ' H') {a:Addr} {xs:List V} (r:RLst B φ H a xs):RLst B φ' H' a xs:=by
  obtain ⟨r,b,n⟩:=r
  obtain ⟨_,n'⟩:=(Rd.of r).step s n
  exact ⟨s.keep _ _ n r,b,n'⟩
theorem RScr.step (s:Step φ H φ' H') {a:Addr} {xs:List V} (r:RScr K B φ H a xs):RScr K B φ' H' a xs:=by
  rcases r with ⟨r,b,n⟩ | r
  · obtain ⟨r',n'⟩:=r.step s n
    exact .inl ⟨r',b,n'⟩
  · exact .inr r
mutual
theorem RepV.step (s:Step φ H φ' H'):∀ (v:PV) (x:V),RepV K cl B φ H v x -> RepV K cl B φ' H' v x
  | .non,x,h=>by simp only [RepV] at h ⊢; exact h
  | .bl b,x,h=>by simp only [RepV] at h ⊢; exact h
  | .int i,x,h=>by simp only [RepV] at h ⊢; exact h
  | .str y,x,h=>by simp only [RepV] at h ⊢; exact h
  | .tp k vs,x,h=>by
    simp only [RepV] at h ⊢
    obtain ⟨a,xs,e,r,l⟩:=h
    exact ⟨a,xs,e,r.step s,RepL.step s vs xs l⟩
  | .lst vs,x,h=>by
    simp only [RepV] at h ⊢
    obtain ⟨a,xs,e,r,l⟩:=h
    exact ⟨a,xs,e,r.step s,RepL.step s vs xs l⟩
  | .loc n,x,h=>by
    simp only [RepV] at h ⊢
    obtain ⟨h1,a,e,h2⟩:=h
    exact ⟨Nat.lt_of_lt_of_le h1 s.len,a,e,fun b q=>h2 b (s.pre n b h1 q)⟩
  | .exn c,x,h=>by
    simp only [RepV] at h ⊢
    obtain ⟨a,e,r,b,n⟩:=h
    obtain ⟨_,n'⟩:=(Rd.of r).step s n
    exact ⟨a,e,s.keep _ _ n r,b,n'⟩
  | .scr vs,x,h=>by
    simp only [RepV] at h ⊢
    obtain ⟨a,xs,e,r,l⟩:=h
    exact ⟨a,xs,e,r.step s,RepL.step s vs xs l⟩
theorem RepL.step (s:Step φ H φ' H'):∀ (v:List PV) (x:List V),RepL K cl B φ H v x -> RepL K cl B φ' H' v x
  | [],x,h=>by simp only [RepL] at h ⊢; exact h
  | v :: vs,x,h=>by
    simp only [RepL] at h ⊢
    obtain ⟨y,ys,e,r,l⟩:=h
    exact ⟨y,ys,e,RepV.step s v y r,RepL.step s vs ys l⟩
end
theorem RepE.step (s:Step φ H φ' H') (r:RepE K cl B φ H ρ σ):RepE K cl B φ' H' ρ σ:=⟨r.len,fun i v e=>by
  obtain ⟨x,h,q⟩:=r.get i v e
  exact ⟨x,h,q.step s⟩⟩
mutual
theorem RepV.inn (hn:∀ a,some a ∈ φ -> ¬ B a):∀ (v:PV) (x:V),noLoc v = true -> RepV K cl B φ H v x -> RepV K cl (fun a=>B a \/ some a ∈ φ) [] H v x
  | .non,x,_,h=>by simp only [RepV] at h ⊢; exact h
  | .bl b,x,_,h=>by simp only [RepV] at h ⊢; exact h
  | .int i,x,_,h=>by simp only [RepV] at h ⊢; exact h
  | .str y,x,_,h=>by simp only [RepV] at h ⊢; exact h
  | .tp k vs,x,q,h=>by
    simp only [RepV] at h ⊢
    obtain ⟨a,xs,e,r,l⟩:=h
    refine ⟨a,xs,e,?_,RepL.inn hn vs xs (by simpa only [noLoc] using q) l⟩
    rcases r with ⟨r,b,n⟩ | r
    · exact .inl ⟨r,fun z=>z.elim b n,by simp⟩
    · exact .inr r
  | .lst vs,x,q,h=>by
    simp only [RepV] at h ⊢
    obtain ⟨a,xs,e,⟨r,b,n⟩,l⟩:=h
    exact ⟨a,xs,e,⟨r,fun z=>z.elim b n,by simp⟩,RepL.inn hn vs xs (by simpa only [noLoc] using q) l⟩
  | .loc n,x,q,h=>by simp [noLoc] at q
  | .exn c,x,q,h=>by simp [noLoc] at q
  | .scr vs,x,q,h=>by
    simp only [RepV] at h ⊢
    obtain ⟨a,xs,e,r,l⟩:=h
    refine ⟨a,xs,e,?_,RepL.inn hn vs xs (by simpa only [noLoc] using q) l⟩
    rcases r with ⟨r,b,n⟩ | r
    · exact .inl ⟨r,fun z=>z.elim b n,by simp⟩
    · exact .inr r
theorem RepL.inn (hn:∀ a,some a ∈ φ -> ¬ B a):∀ (v:List PV) (x:List V),noLocs v = true -> RepL K cl B φ H v x -> RepL K cl (fun a=>B a \/ some a ∈ φ) [] H v x
  | [],x,_,h=>by simp only [RepL] at h ⊢; exact h
  | v :: vs,x,q,h=>by
    simp only [RepL] at h ⊢
    simp only [noLocs,Bool.and_eq_true] at q
    obtain ⟨y,ys,e,r,l⟩:=h
    exact ⟨y,ys,e,RepV.inn hn v y q.1 r,RepL.inn hn vs ys q.2 l⟩
end
mutual
theorem RepV.out {ψ:Ph}:∀ (v:PV) (x:V),noLoc v = true -> RepV K cl (fun a=>B a \/ some a ∈ φ) ψ H v x -> RepV K cl B φ H v x
  | .non,x,_,h=>by simp only [RepV] at h ⊢; exact h
  | .bl b,x,_,h=>by simp only [RepV] at h ⊢; exact h
  | .int i,x,_,h=>by simp only [RepV] at h ⊢; exact h
  | .str y,x,_,h=>by simp only [RepV] at h ⊢; exact h
  | .tp k vs,x,q,h=>by
    simp only [RepV] at h ⊢
    obtain ⟨a,xs,e,r,l⟩:=h
    refine ⟨a,xs,e,?_,RepL.out vs xs (by simpa only [noLoc] using q) l⟩
    rcases r with ⟨r,b,n⟩ | r
    · exact .inl ⟨r,fun z=>b (.inl z),fun z=>b (.inr z)⟩
    · exact .inr r
  | .lst vs,x,q,h=>by
    simp only [RepV] at h ⊢
    obtain ⟨a,xs,e,⟨r,b,n⟩,l⟩:=h
    exact ⟨a,xs,e,⟨r,fun z=>b (.inl z),fun z=>b (.inr z)⟩,RepL.out vs xs (by simpa only [noLoc] using q) l⟩
  | .loc n,x,q,h=>by simp [noLoc] at q
  | .exn c,x,q,h=>by simp [noLoc] at q
  | .scr vs,x,q,h=>by
    simp only [RepV] at h ⊢
    obtain ⟨a,xs,e,r,l⟩:=h
    refine ⟨a,xs,e,?_,RepL.out vs xs (by simpa only [noLoc] using q) l⟩
    rcases r with ⟨r,b,n⟩ | r
    · exact .inl ⟨r,fun z=>b (.inl z),fun z=>b (.inr z)⟩
    · exact .inr r
theorem RepL.out {ψ:Ph}:∀ (v:List PV) (x:List V),noLocs v = true -> RepL K cl (fun a=>B a \/ some a ∈ φ) ψ H v x -> RepL K cl B φ H v x
  | [],x,_,h=>by simp only [RepL] at h ⊢; exact h
  | v :: vs,x,q,h=>by
    simp only [RepL] at h ⊢
    simp only [noLocs,Bool.and_eq_true] at q
    obtain ⟨y,ys,e,r,l⟩:=h
    exact ⟨y,ys,e,RepV.out v y q.1 r,RepL.out vs ys q.2 l⟩
end
theorem RepL.length:∀ {v:List PV} {x:List V},RepL K cl B φ H v x -> v.length = x.length
  | [],x,h=>by simp only [RepL] at h; subst h; rfl
  | v :: vs,x,h=>by
    simp only [RepL] at h
    obtain ⟨y,ys,rfl,_,l⟩:=h
    simp [RepL.length l]
theorem DK.step (s:Step φ H φ' H'):∀ {kvs:List (PV × PV)} {ks:List (Key × V)},DK K cl B φ H kvs ks -> DK K cl B φ' H' kvs ks
  | [],ks,h=>h
  | (k,v) :: r,ks,h=>by
    obtain ⟨q,x,t,e,m,rv,l⟩:=h
    exact ⟨q,x,t,e,m,rv.step s,DK.step s l⟩
theorem DT.step (s:Step φ H φ' H'):∀ {kvs:List (PV × PV)} {ks:List (List Key × V)},DT K cl B φ H kvs ks -> DT K cl B φ' H' kvs ks
  | [],ks,h=>h
  | (k,v) :: r,ks,h=>by
    obtain ⟨q,x,t,e,m,rv,l⟩:=h
    exact ⟨q,x,t,e,m,rv.step s,DT.step s l⟩
theorem RepO.step (s:Step φ H φ' H') {o:Ob} {a:Addr} (e:H' a = H a) (r:RepO K cl B φ H o a):RepO K cl B φ' H' o a:=by
  cases o with
  | lst vs =>
    obtain ⟨xs,q,l⟩:=r
    exact ⟨xs,e.trans q,l.step s⟩
  | dct t kvs =>
    cases t with
    | false=>obtain ⟨ks,q,l⟩:=r; exact ⟨ks,e.trans q,l.step s⟩
    | true=>obtain ⟨ks,q,l⟩:=r; exact ⟨ks,e.trans q,l.step s⟩
  | dead=>exact r
theorem RepO.there {o:Ob} {a:Addr} (r:RepO K cl B φ H o a):∃ u,H a = some u:=by
  cases o with
  | lst vs=>obtain ⟨xs,q,l⟩:=r; exact ⟨_,q⟩
  | dct t kvs=>cases t <;> (obtain ⟨ks,q,l⟩:=r; exact ⟨_,q⟩)
  | dead=>exact r.elim
theorem RepS.there (S:RepS K cl B φ H st) {a:Addr} (h:some a ∈ φ):∃ u,H a = some u:=by
  obtain ⟨n,e⟩:=List.mem_iff_getElem?.mp h
  obtain ⟨o,_,r⟩:=S.obj n a e
  exact r.there
theorem Step.upd {p:Addr} {o:HO} (hp:H p = none):Step φ H φ (upd H p o) :=
  ⟨fun b u n e=>by rw [zJ (zR e hp)]; exact e,Nat.le_refl _,fun _ _ _ e=>e,fun _ h=>.inl h⟩
theorem RepS.same (S:RepS K cl B φ H st) (k:∀ b o,H b = some o -> H' b = some o):RepS K cl B φ H' st:=by
  have s:Step φ H φ H':=⟨fun b o _ e=>k b o e,Nat.le_refl _,fun _ _ _ e=>e,fun _ h=>.inl h⟩
  refine ⟨S.len,S.inj,fun n a e=>?_,S.liv,S.nb,fun a h=>?_⟩
  · obtain ⟨o,q,r⟩:=S.obj n a e
    obtain ⟨u,z⟩:=r.there
    exact ⟨o,q,r.step s ((k a u z).trans z.symm)⟩
  · obtain ⟨o,q⟩:=S.dom a h
    exact ⟨o,k a o q⟩
theorem RepS.upd {p:Addr} {o:HO} (S:RepS K cl B φ H st) (hp:H p = none):RepS K cl B φ (upd H p o) st:=S.same fun b u e=>by rw [zJ (zR e hp)]; exact e
mutual
theorem RepV.moreB {B':Addr -> Prop} (hn:∀ y,B' y -> B y \/ H y = none):∀ (v:PV) (x:V),RepV K cl B φ H v x -> RepV K cl B' φ H v x
  | .non,x,h=>by simp only [RepV] at h ⊢; exact h
  | .bl b,x,h=>by simp only [RepV] at h ⊢; exact h
  | .int i,x,h=>by simp only [RepV] at h ⊢; exact h
  | .str y,x,h=>by simp only [RepV] at h ⊢; exact h
  | .tp k vs,x,h=>by
    simp only [RepV] at h ⊢
    obtain ⟨y,xs,e,r,l⟩:=h
    refine ⟨y,xs,e,?_,RepL.moreB hn vs xs l⟩
    rcases r with ⟨r,b,n⟩ | r
    · exact .inl ⟨r,fun z=>(hn y z).elim b fun q=>(by rw [q] at r; cases r),n⟩
    · exact .inr r
  | .lst vs,x,h=>by
    simp only [RepV] at h ⊢
    obtain ⟨y,xs,e,⟨r,b,n⟩,l⟩:=h
    exact ⟨y,xs,e,⟨r,fun z=>(hn y z).elim b fun q=>(by rw [q] at r; cases r),n⟩,RepL.moreB hn vs xs l⟩
  | .loc n,x,h=>by simp only [RepV] at h ⊢; exact h
  | .exn c,x,h=>by
    simp only [RepV] at h ⊢
    obtain ⟨y,e,r,b,n⟩:=h
    exact ⟨y,e,r,fun z=>(hn y z).elim b fun q=>(by rw [q] at r; cases r),n⟩
  | .scr vs,x,h=>by
    simp only [RepV] at h ⊢
    obtain ⟨y,xs,e,r,l⟩:=h
    refine ⟨y,xs,e,?_,RepL.moreB hn vs xs l⟩
    rcases r with ⟨r,b,n⟩ | r
    · refine .inl ⟨r,fun z=>(hn y z).elim b fun q=>?_,n⟩
      rcases r with r | ⟨o,r⟩ <;> (rw [q] at r; cases r)
    · exact .inr r
theorem RepL.moreB {B':Addr -> Prop} (hn:∀ y,B' y -> B y \/ H y = none):∀ (v:List PV) (x:List V),RepL K cl B φ H v x -> RepL K cl B' φ H v x
  | [],x,h=>by simp only [RepL] at h ⊢; exact h
  | v :: vs,x,h=>by
    simp only [RepL] at h ⊢
    obtain ⟨y,ys,e,r,l⟩:=h
    exact ⟨y,ys,e,RepV.moreB hn v y r,RepL.moreB hn vs ys l⟩
end
end
end L2
namespace L2
open PySem PySem.Spec PyProof.Rows IC
structure Se where
  cl:Nat -> Addr
  call:Nat -> List PV -> Store -> R PV
  may:Bool
section
variable (S:Se) (X:Cx)
def ExcAt (σ:St) (B:Addr -> Prop) (φ:Ph) (H:Hp) (k:Nat) (st':Store) (e:Value) (s':Shared):Prop :=
  (∃ pins H1 s φ1,Inv X pins σ H1 s /\ Step φ H φ1 H1 /\ CX1 X.prog X.w X.stack H1 s (fun cls _ H'=>cls = .ref (S.cl k) /\ ∃ φ',Step φ1 H1 φ' H' /\ RepS X.K S.cl B φ' H' st') e s') \/
  (S.may = true /\ ∃ pins H1 s φ1 h' e0 vs,Inv X pins σ H1 s /\ Step φ H φ1 H1 /\ RepS X.K S.cl B φ1 H1 st' /\ Heap.MadeExcOf s.heap h' e0 (.ref (S.cl k)) vs /\ e = .ref e0 /\ s' = { s with heap:=h' })
def Run {α β:Type} (σ:St) (B:Addr -> Prop) (φ:Ph) (H:Hp) (Rel:Ph -> Hp -> α -> β -> Prop) (r:R α) (Q:β -> Hp -> Prop):Prop :=
  match r with
  | .ok v st'=>∀ x H' φ',Step φ H φ' H' -> RepS X.K S.cl B φ' H' st' -> Rel φ' H' v x -> Q x H'
  | .exc k st'=>∀ e s',ExcAt S X σ B φ H k st' e s' -> X.xe e s'
  | .bad=>False
noncomputable abbrev RV (B:Addr -> Prop):Ph -> Hp -> PV -> V -> Prop:=fun φ H=>RepV X.K S.cl B φ H
noncomputable abbrev RL (B:Addr -> Prop):Ph -> Hp -> List PV -> List V -> Prop:=fun φ H=>RepL X.K S.cl B φ H
noncomputable abbrev RB:Ph -> Hp -> Bool -> Bool -> Prop:=fun _ _ b c=>b = c
noncomputable def tE (c:Ce):TE:=fun σ H Q=>∃ B φ st ρ,RepS X.K S.cl B φ H st /\ RepE X.K S.cl B φ H ρ σ /\ Run S X σ B φ H (RV S X B) (ev S.call ρ st c) Q
noncomputable def tAs (c:Ces):TA:=fun σ H Q=>∃ B φ st ρ,RepS X.K S.cl B φ H st /\ RepE X.K S.cl B φ H ρ σ /\ Run S X σ B φ H (RL S X B) (evs S.call ρ st c) Q
noncomputable def truR (r:R PV):R Bool:=r.bind fun x st=>onO (truV st x) fun b=>.ok b st
noncomputable def tTs (c:Ce):TT:=fun σ H Q=>∃ B φ st ρ,RepS X.K S.cl B φ H st /\ RepE X.K S.cl B φ H ρ σ /\ Run S X σ B φ H RB (truR (ev S.call ρ st c)) Q
end
section
variable {S:Se} {X:Cx} {σ:St} {B:Addr -> Prop} {φ φ1:Ph} {H H1:Hp}
theorem ExcAt.back {k:Nat} {st':Store} {e:Value} {s':Shared} (s:Step φ H φ1 H1) (h:ExcAt S X σ B φ1 H1 k st' e s'):ExcAt S X σ B φ H k st' e s':=by
  rcases h with ⟨pins,H2,t,φ2,I,q,c⟩ | ⟨m,pins,H2,t,φ2,h',e0,vs,I,q,c⟩
  · exact .inl ⟨pins,H2,t,φ2,I,s.trans q,c⟩
  · exact .inr ⟨m,pins,H2,t,φ2,h',e0,vs,I,s.trans q,c⟩
variable {α β γ δ:Type} {Rel:Ph -> Hp -> α -> β -> Prop} {Rel2:Ph -> Hp -> γ -> δ -> Prop}
theorem Run.on {r:R α} {Q:β -> Hp -> Prop} (s:Step φ H φ1 H1) (h:Run S X σ B φ H Rel r Q):Run S X σ B φ1 H1 Rel r Q:=by
  cases r with
  | ok v st'=>exact fun x H' φ' t=>h x H' φ' (s.trans t)
  | exc k st'=>exact fun e s' x=>h e s' (x.back s)
  | bad=>exact h
theorem Run.mono {r:R α} {Q Q':β -> Hp -> Prop} (h:Run S X σ B φ H Rel r Q) (k:∀ x H',Q x H' -> Q' x H'):Run S X σ B φ H Rel r Q':=by
  cases r with
  | ok v st'=>exact fun x H' φ' t rs rv=>k x H' (h x H' φ' t rs rv)
  | exc c st'=>exact h
  | bad=>exact h
theorem Run.bind {r:R α} {k:α -> Store -> R γ} {Q:δ -> Hp -> Prop} (h:Run S X σ B φ H Rel2 (r.bind k) Q) :
    Run S X σ B φ H Rel r fun x H1=>∃ v st1 φ1,Step φ H φ1 H1 /\ RepS X.K S.cl B φ1 H1 st1 /\ Rel φ1 H1 v x /\ Run S X σ B φ1 H1 Rel2 (k v st1) Q:=by
  cases r with
  | ok v st'=>exact fun x H' φ' t rs rv=>⟨v,st',φ',t,rs,rv,Run.on t h⟩
  | exc c st'=>exact h
  | bad=>exact h
theorem Run.ok {v:α} {st:Store} {Q:β -> Hp -> Prop} (h:Run S X σ B φ H Rel (.ok v st) Q) (rs:RepS X.K S.cl B φ H st) {x:β} (rv:Rel φ H v x):Q x H:=h x H φ .rfl rs rv
theorem PE.imp {e:Expr} {t t':TE} (h:PE X e t') (k:∀ σ H Q,t σ H Q -> t' σ H Q):PE X e t:=fun pins s σ H Q I q=>h pins s σ H Q I (k σ H Q q)
theorem PT.imp {e:Expr} {t t':TT} (h:PT X e t') (k:∀ σ H Q,t σ H Q -> t' σ H Q):PT X e t:=fun pins s σ H Q I q=>h pins s σ H Q I (k σ H Q q)
theorem PW.imp {e:Expr} {t t':TT} (h:PW X e t') (k:∀ σ H Q,t σ H Q -> t' σ H Q):PW X e t:=fun wh pins s σ H Q I q=>h wh pins s σ H Q I (k σ H Q q)
theorem PA.imp {e:List Expr} {t t':TA} (h:PA X e t') (k:∀ σ H Q,t σ H Q -> t' σ H Q):PA X e t:=fun pos pins s σ H Q I q=>h pos pins s σ H Q I (k σ H Q q)
theorem tE.bind {c:Ce} {ρ:IC.Env} {st:Store} {k:PV -> Store -> R γ} {Q:δ -> Hp -> Prop} {P:V -> Hp -> Prop} (rs:RepS X.K S.cl B φ H st) (re:RepE X.K S.cl B φ H ρ σ) (h:Run S X σ B φ H Rel2 ((ev S.call ρ st c).bind k) Q)
    (n:∀ x H1 v st1 φ1,Step φ H φ1 H1 -> RepS X.K S.cl B φ1 H1 st1 -> RepE X.K S.cl B φ1 H1 ρ σ -> RepV X.K S.cl B φ1 H1 v x -> Run S X σ B φ1 H1 Rel2 (k v st1) Q -> P x H1):tE S X c σ H P :=
  ⟨B,φ,st,ρ,rs,re,(Run.bind h).mono fun x H1 ⟨v,st1,φ1,s,rs1,rv,h1⟩=>n x H1 v st1 φ1 s rs1 (re.step s) rv h1⟩
theorem tAs.bind {c:Ces} {ρ:IC.Env} {st:Store} {k:List PV -> Store -> R γ} {Q:δ -> Hp -> Prop} {P:List V -> Hp -> Prop} (rs:RepS X.K S.cl B φ H st) (re:RepE X.K S.cl B φ H ρ σ) (h:Run S X σ B φ H Rel2 ((evs S.call ρ st c).bind k) Q)
    (n:∀ x H1 v st1 φ1,Step φ H φ1 H1 -> RepS X.K S.cl B φ1 H1 st1 -> RepE X.K S.cl B φ1 H1 ρ σ -> RepL X.K S.cl B φ1 H1 v x -> Run S X σ B φ1 H1 Rel2 (k v st1) Q -> P x H1):tAs S X c σ H P :=
  ⟨B,φ,st,ρ,rs,re,(Run.bind h).mono fun x H1 ⟨v,st1,φ1,s,rs1,rv,h1⟩=>n x H1 v st1 φ1 s rs1 (re.step s) rv h1⟩
variable {i:Int} {b:Bool} {x:Str} {j:Nat} {pos:Pos} {e a a':Expr} {c ca cb cc:Ce}
theorem zc:PE X (.Constant (.int i) j pos) (tE S X (.cst (.int i))):=pe_int.imp fun σ H Q ⟨B,φ,st,ρ,rs,re,h⟩=>by
  simp only [ev] at h
  exact h.ok rs (by simp only [RepV])
theorem zk2:PE X (.Constant (.bool b) j pos) (tE S X (.cst (.bl b))):=pe_bl.imp fun σ H Q ⟨B,φ,st,ρ,rs,re,h⟩=>by
  simp only [ev] at h
  exact h.ok rs (by simp only [RepV])
theorem zkI:PE X (.Constant .none j pos) (tE S X (.cst .non)):=pe_non.imp fun σ H Q ⟨B,φ,st,ρ,rs,re,h⟩=>by
  simp only [ev] at h
  exact h.ok rs (by simp only [RepV])
theorem zp:PE X (.Constant (.str x) j pos) (tE S X (.cst (.str x))):=pe_str.imp fun σ H Q ⟨B,φ,st,ρ,rs,re,h⟩=>by
  simp only [ev] at h
  exact h.ok rs (by simp only [RepV])
theorem zoN {i:Nat} (hN:X.N[i]? = some x) (hv:Vis X.env.scope x) (hd:(x == ("__debug__":Str)) = false:=by decide) (hcd:(x == ("__classdict__":Str)) = false:=by decide):PE X (.Name x pos) (tE S X (.var i)) :=
  (zq7 hN hv hd hcd).imp fun σ H Q ⟨B,φ,st,ρ,rs,re,h⟩=>by
    simp only [ev] at h
    cases q:ρ[i]? with
    | none=>rw [q] at h; exact h.elim
    | some o =>
      cases o with
      | none=>rw [q] at h; exact h.elim
      | some v =>
        rw [q] at h
        obtain ⟨y,hy,rv⟩:=re.get i v q
        exact ⟨y,hy,h.ok rs rv⟩
theorem zqb {v:PV} {y:Addr} (hg:Gl X x) (hm:X.mg x = some (.ref y)) (hk:∀ B φ H,RepV X.K S.cl B φ H v (.ref y)) (hd:(x == ("__debug__":Str)) = false:=by decide):PE X (.Name x pos) (tE S X (.cst v)) :=
  (zpX hg hm (show RelV (.ref y) (.ref y) from rfl) hd).imp fun σ H Q ⟨B,φ,st,ρ,rs,re,h⟩=>by
    simp only [ev] at h
    exact h.ok rs (hk B φ H)
theorem zdh {o:Option PV} {st:Store} {Q:VK} (h:Run S X σ B φ H (RV S X B) (toR o st) Q) (rs:RepS X.K S.cl B φ H st):∃ z,o = some z /\ ∀ z' H' φ',Step φ H φ' H' -> RepS X.K S.cl B φ' H' st -> RepV X.K S.cl B φ' H' z z' -> Q z' H':=by
  cases o with
  | none=>exact h.elim
  | some z=>exact ⟨z,rfl,h⟩
noncomputable def rT2 (S:Se) (X:Cx) (f:PV -> PV -> Option PV):R2:=fun x y H Q=>∃ B φ st v w z,RepS X.K S.cl B φ H st /\ RepV X.K S.cl B φ H v x /\ RepV X.K S.cl B φ H w y /\ f v w = some z /\
  ∀ z' H' φ',Step φ H φ' H' -> RepS X.K S.cl B φ' H' st -> RepV X.K S.cl B φ' H' z z' -> Q z' H'
theorem zf {op:Operator} {o:BOp} (ho:OpR X (binaryOp op) (rT2 S X (binV o))) (ha:PE X a (tE S X ca)) (hb:PE X a' (tE S X cb)):PE X (.BinOp a op a' pos) (tE S X (.bin o ca cb)) :=
  (zrQ ho ha hb).imp fun σ H Q ⟨B,φ,st,ρ,rs,re,h⟩=>by
    simp only [ev] at h
    refine tE.bind rs re h fun x H1 v st1 φ1 s1 rs1 re1 rv h1=>tE.bind rs1 re1 h1 fun y H2 w st2 φ2 s2 rs2 re2 rw h2=>?_
    obtain ⟨z,e,q⟩:=zdh h2 rs2
    exact ⟨B,φ2,st2,v,w,z,rs2,rv.step s2,rw,e,q⟩
theorem zaW {op:CmpOp} {o:COp} (ho:OpR X (compareOp op) (rT2 S X (cmpV o))) (ha:PE X a (tE S X ca)) (hb:PE X a' (tE S X cb)) (hm:behindInMarks op a' = false):PE X (.Compare a [op] [a'] pos) (tE S X (.cmp o ca cb)) :=
  (zo8 ho ha hb hm).imp fun σ H Q ⟨B,φ,st,ρ,rs,re,h⟩=>by
    simp only [ev] at h
    refine tE.bind rs re h fun x H1 v st1 φ1 s1 rs1 re1 rv h1=>tE.bind rs1 re1 h1 fun y H2 w st2 φ2 s2 rs2 re2 rw h2=>?_
    obtain ⟨z,e,q⟩:=zdh h2 rs2
    exact ⟨B,φ2,st2,v,w,z,rs2,rv.step s2,rw,e,q⟩
end
end L2
namespace L2
open PySem PySem.Spec PyProof.Rows IC
section
variable {S:Se} {X:Cx} {σ:St} {B:Addr -> Prop} {φ φ1:Ph} {H H1:Hp} {K:PySem.W.Frag} {cl:Nat -> Addr} {st:Store}
theorem RTup.sq {k:Bool} {a:Addr} {xs:List V} (r:RTup K B φ H k a xs):SqT K H a xs:=by
  rcases r with ⟨r,_⟩ | r
  · exact .inl (.inl r)
  · exact .inr r.2
theorem RLst.sq {a:Addr} {xs:List V} (r:RLst B φ H a xs):SqL K H a xs:=.inl (.inl r.1)
theorem RepV.tup_new {vs:List PV} {xs:List V} {p:Addr} (hp:H p = none) (rs:RepS K cl B φ H st) (r:RepL K cl B φ H vs xs):RepV K cl B φ (upd H p (.tup xs)) (.tup vs) (.ref p):=by
  simp only [RepV]
  refine ⟨p,xs,rfl,.inl ⟨zab,fun z=>?_,fun z=>?_⟩,r.step (.upd hp)⟩
  · obtain ⟨o,e⟩:=rs.dom p z
    rw [hp] at e; cases e
  · obtain ⟨o,e⟩:=rs.there z
    rw [hp] at e; cases e
theorem RepV.lst_new {vs:List PV} {xs:List V} {p:Addr} (hp:H p = none) (rs:RepS K cl B φ H st) (r:RepL K cl B φ H vs xs):RepV K cl B φ (upd H p (.lst xs)) (.lst vs) (.ref p):=by
  simp only [RepV]
  refine ⟨p,xs,rfl,⟨zab,fun z=>?_,fun z=>?_⟩,r.step (.upd hp)⟩
  · obtain ⟨o,e⟩:=rs.dom p z
    rw [hp] at e; cases e
  · obtain ⟨o,e⟩:=rs.there z
    rw [hp] at e; cases e
theorem RepL.append:∀ {vs ws:List PV} {xs ys:List V},RepL K cl B φ H vs xs -> RepL K cl B φ H ws ys -> RepL K cl B φ H (vs ++ ws) (xs ++ ys)
  | [],ws,xs,ys,h,q=>by simp only [RepL] at h; subst h; exact q
  | v :: vs,ws,xs,ys,h,q=>by
    simp only [RepL] at h
    obtain ⟨y,zs,rfl,r,l⟩:=h
    show RepL K cl B φ H (v :: (vs ++ ws)) (y :: (zs ++ ys))
    simp only [RepL]
    exact ⟨y,zs ++ ys,rfl,r,RepL.append l q⟩
theorem RepL.get:∀ {vs:List PV} {xs:List V} (j:Nat) {v:PV},RepL K cl B φ H vs xs -> vs[j]? = some v -> ∃ x,xs[j]? = some x /\ RepV K cl B φ H v x
  | [],xs,j,v,h,e=>by simp at e
  | w :: vs,xs,0,v,h,e=>by
    simp only [RepL] at h
    obtain ⟨y,zs,rfl,r,l⟩:=h
    simp at e; subst e
    exact ⟨y,rfl,r⟩
  | w :: vs,xs,j + 1,v,h,e=>by
    simp only [RepL] at h
    obtain ⟨y,zs,rfl,r,l⟩:=h
    obtain ⟨x,q1,q2⟩:=RepL.get j l (by simpa using e)
    exact ⟨x,by simpa using q1,q2⟩
theorem RepL.drop:∀ {vs:List PV} {xs:List V} (n:Nat),RepL K cl B φ H vs xs -> RepL K cl B φ H (vs.drop n) (xs.drop n)
  | vs,xs,0,h=>by simpa using h
  | [],xs,n + 1,h=>by simp only [RepL] at h; subst h; simp [RepL]
  | v :: vs,xs,n + 1,h=>by
    simp only [RepL] at h
    obtain ⟨y,ys,rfl,_,l⟩:=h
    simpa using RepL.drop n l
theorem RepL.take:∀ {vs:List PV} {xs:List V} (n:Nat),RepL K cl B φ H vs xs -> RepL K cl B φ H (vs.take n) (xs.take n)
  | vs,xs,0,h=>by simp [RepL]
  | [],xs,n + 1,h=>by simp only [RepL] at h; subst h; simp [RepL]
  | v :: vs,xs,n + 1,h=>by
    simp only [RepL] at h
    obtain ⟨y,ys,rfl,r,l⟩:=h
    simp only [List.take_succ_cons,RepL]
    exact ⟨y,ys.take n,rfl,r,RepL.take n l⟩
theorem zhM {f:Value -> Value -> Sem Value} {o:BOp} {C:Int -> Int -> Prop} {g:Int -> Int -> Int} (h:OpR X f (rI C fun i j=>.int (g i j)))
    (hb:∀ v w z,binV o v w = some z -> ∃ i j,v = .int i /\ w = .int j /\ C i j /\ z = .int (g i j)):OpR X f (rT2 S X (binV o)):=by
  rintro pins s σ H x y v u Q I rx ry ⟨B,φ,st,a,b,z,rs,ra,rb,e,q⟩
  obtain ⟨i,j,rfl,rfl,hc,rfl⟩:=hb a b z e
  simp only [RepV] at ra rb
  subst ra rb
  exact h pins s σ H _ _ v u Q I rx ry ⟨i,j,rfl,rfl,hc,q _ H φ .rfl rs (by simp only [RepV])⟩
theorem zfJ {f:Value -> Value -> Sem Value} {o:BOp} {g:Int -> Int -> Int} (h:OpR X f (rI0 fun i j=>.int (g i j)))
    (hb:∀ v w z,binV o v w = some z -> ∃ i j,v = .int i /\ w = .int j /\ z = .int (g i j)):OpR X f (rT2 S X (binV o)):=by
  rintro pins s σ H x y v u Q I rx ry ⟨B,φ,st,a,b,z,rs,ra,rb,e,q⟩
  obtain ⟨i,j,rfl,rfl,rfl⟩:=hb a b z e
  simp only [RepV] at ra rb
  subst ra rb
  exact h pins s σ H _ _ v u Q I rx ry ⟨i,j,rfl,rfl,q _ H φ .rfl rs (by simp only [RepV])⟩
theorem zpe (v w z:PV) (h:binV .sub v w = some z):∃ i j,v = .int i /\ w = .int j /\ z = .int (i - j):=by
  unfold binV at h
  split at h <;> first | (cases h; done) | skip
  exact ⟨_,_,rfl,rfl,(Option.some.inj h).symm⟩
theorem zpg (v w z:PV) (h:binV .mul v w = some z):∃ i j,v = .int i /\ w = .int j /\ CMul i j /\ z = .int (i * j):=by
  unfold binV at h
  split at h <;> first | (cases h; done) | skip
  rename_i i j
  simp only [IC.binI] at h
  split at h
  · rename_i c
    refine ⟨i,j,rfl,rfl,?_,(Option.some.inj h).symm⟩
    simp only [CMulB,Bool.or_eq_true,decide_eq_true_eq] at c
    unfold CMul
    rcases c with c | c
    · left; constructor <;> omega
    · right; constructor <;> omega
  · cases h
theorem zou (v w z:PV) (h:binV .fdiv v w = some z):∃ i j,v = .int i /\ w = .int j /\ CDivB i j /\ z = .int (i / j):=by
  unfold binV at h
  split at h <;> first | (cases h; done) | skip
  rename_i i j
  simp only [IC.binI] at h
  split at h
  · rename_i c
    exact ⟨i,j,rfl,rfl,c,(Option.some.inj h).symm⟩
  · cases h
theorem zo9 (v w z:PV) (h:binV .mod v w = some z):∃ i j,v = .int i /\ w = .int j /\ 0 < j /\ z = .int (i % j):=by
  unfold binV at h
  split at h <;> first | (cases h; done) | skip
  rename_i i j
  simp only [IC.binI] at h
  split at h
  · rename_i c
    exact ⟨i,j,rfl,rfl,c,(Option.some.inj h).symm⟩
  · cases h
theorem zpY (v w z:PV) (h:binV .pow v w = some z):∃ i j,v = .int i /\ w = .int j /\ CPow i j /\ z = .int (i ^ j.toNat):=by
  unfold binV at h
  split at h <;> first | (cases h; done) | skip
  rename_i i j
  simp only [IC.binI] at h
  split at h
  · rename_i c
    exact ⟨i,j,rfl,rfl,⟨c.1,c.2.1,by have:=c.2.2; omega⟩,(Option.some.inj h).symm⟩
  · cases h
theorem znH (v w z:PV) (h:binV .band v w = some z):∃ i j,v = .int i /\ w = .int j /\ z = .int (Builtin.bitAnd i j):=by
  unfold binV at h
  split at h <;> first | (cases h; done) | skip
  exact ⟨_,_,rfl,rfl,(Option.some.inj h).symm⟩
theorem zpD (v w z:PV) (h:binV .bor v w = some z):∃ i j,v = .int i /\ w = .int j /\ z = .int (Builtin.bitOr i j):=by
  unfold binV at h
  split at h <;> first | (cases h; done) | skip
  exact ⟨_,_,rfl,rfl,(Option.some.inj h).symm⟩
theorem zol (v w z:PV) (h:binV .bxor v w = some z):∃ i j,v = .int i /\ w = .int j /\ z = .int (Builtin.bitXor i j):=by
  unfold binV at h
  split at h <;> first | (cases h; done) | skip
  exact ⟨_,_,rfl,rfl,(Option.some.inj h).symm⟩
theorem zbr:OpR X (binaryOp .Sub) (rT2 S X (binV .sub)):=zfJ zqc zpe
theorem zS:OpR X (binaryOp .Mult) (rT2 S X (binV .mul)):=zhM zqS zpg
theorem zaJ:OpR X (binaryOp .FloorDiv) (rT2 S X (binV .fdiv)):=zhM zob zou
theorem zbS:OpR X (binaryOp .Mod) (rT2 S X (binV .mod)):=zhM zqF zo9
theorem zmS:OpR X (binaryOp .Pow) (rT2 S X (binV .pow)):=zhM zq1 zpY
theorem zpS:OpR X (binaryOp .BitAnd) (rT2 S X (binV .band)):=zfJ zqh znH
theorem zqC:OpR X (binaryOp .BitOr) (rT2 S X (binV .bor)):=zfJ zrO zpD
theorem zp7:OpR X (binaryOp .BitXor) (rT2 S X (binV .bxor)):=zfJ zqn zol
theorem zaT:sizeMax = sizeLine:=by rw [sizeLine_eq]; rfl
theorem zI:OpR X (binaryOp .Add) (rT2 S X (binV .add)):=by
  rintro pins s σ H x y v u Q I rx ry ⟨B,φ,st,a,b,z,rs,ra,rb,e,q⟩
  unfold binV at e
  split at e
  · rename_i i j
    simp only [RepV] at ra rb
    subst ra rb
    cases e
    exact zrH pins s σ H _ _ v u Q I rx ry ⟨i,j,rfl,rfl,q _ H φ .rfl rs (by simp only [RepV])⟩
  · rename_i i k
    simp only [RepV] at ra rb
    subst ra rb
    cases e
    exact zmZ pins s σ H _ _ v u Q I rx ry ⟨i,k,rfl,rfl,q _ H φ .rfl rs (by simp only [RepV]; cases k <;> rfl)⟩
  · rename_i i j
    simp only [RepV] at ra rb
    subst ra rb
    dsimp only at e
    split at e
    · rename_i c
      cases e
      exact zlm pins s σ H _ _ v u Q I rx ry ⟨i,j,rfl,rfl,by rw [<- zaT]; exact c,q _ H φ .rfl rs (by simp only [RepV])⟩
    · cases e
  · rename_i k1 vs k2 ws
    simp only [RepV] at ra rb
    obtain ⟨p,xs,rfl,r1,l1⟩:=ra
    obtain ⟨p',ys,rfl,r2,l2⟩:=rb
    dsimp only at e
    split at e
    · rename_i c
      cases e
      have n1:=l1.length
      have n2:=l2.length
      refine zpW pins s σ H _ _ v u Q I rx ry ⟨p,p',xs,ys,rfl,rfl,r1.sq,r2.sq,?_,by rw [<- zaT]; omega,fun z=>?_,fun _ t ht=>?_⟩
      · rintro rfl
        cases vs with
        | nil=>exact absurd c.2.1 (by simp)
        | cons _ _=>simp at n1
      · subst z
        cases ws with
        | nil=>exact absurd c.2.2 (by simp)
        | cons _ _=>simp at n2
      · exact q _ _ φ (.upd ht) (rs.upd ht) (.tup_new ht rs (l1.append l2))
    · cases e
  · rename_i vs ws
    simp only [RepV] at ra rb
    obtain ⟨p,xs,rfl,r1,l1⟩:=ra
    obtain ⟨p',ys,rfl,r2,l2⟩:=rb
    dsimp only at e
    split at e
    · rename_i c
      cases e
      have n1:=l1.length
      have n2:=l2.length
      exact zqO pins s σ H _ _ v u Q I rx ry ⟨p,p',xs,ys,rfl,rfl,r1.1,r2.1,by rw [<- zaT]; omega,fun t ht=>q _ _ φ (.upd ht) (rs.upd ht) (.lst_new ht rs (l1.append l2))⟩
    · cases e
  · cases e
end
end L2
namespace L2
open PySem PySem.Spec PyProof.Rows IC
mutual
noncomputable def toD:PV -> PyData
  | .non=>.none
  | .bl b=>.bool b
  | .int i=>.int i
  | .str x=>.str x
  | .tp _ xs=>.tuple (toDs xs)
  | .lst xs=>.list (toDs xs)
  | _=>.none
noncomputable def toDs:List PV -> List PyData
  | []=>[]
  | x :: xs=>toD x :: toDs xs
end
mutual
theorem zm3:∀ (v:PV) (n:Nat),shd n v = true -> (toD v).canLay0 = true /\ (toD v).depth <= n
  | .non,n,h=>by simp [toD,PyData.canLay0,PyData.depth]
  | .bl b,n,h=>by simp [toD,PyData.canLay0,PyData.depth]
  | .int i,n,h=>by simp [toD,PyData.canLay0,PyData.depth]
  | .str x,n,h=>by
    simp only [shd] at h
    simp only [toD,PyData.canLay0,PyData.depth,Nat.zero_le,and_true]
    exact h
  | .tp _ xs,n,h=>by
    simp only [shd,Bool.and_eq_true,decide_eq_true_eq] at h
    obtain ⟨q1,q2⟩:=zhG xs (n - 1) h.2
    simp only [toD,PyData.canLay0,PyData.depth]
    exact ⟨q1,by omega⟩
  | .lst xs,n,h=>by
    simp only [shd,Bool.and_eq_true,decide_eq_true_eq] at h
    obtain ⟨q1,q2⟩:=zhG xs (n - 1) h.2
    simp only [toD,PyData.canLay0,PyData.depth]
    exact ⟨q1,by omega⟩
  | .loc k,n,h=>by simp [shd] at h
  | .exn k,n,h=>by simp [shd] at h
  | .scr xs,n,h=>by simp [shd] at h
theorem zhG:∀ (v:List PV) (n:Nat),shds n v = true -> PyData.canLayAll0 (toDs v) = true /\ PyData.depthAll (toDs v) <= n
  | [],n,h=>by simp [toDs,PyData.canLayAll0,PyData.depthAll]
  | v :: vs,n,h=>by
    simp only [shds,Bool.and_eq_true] at h
    obtain ⟨q1,q2⟩:=zm3 v n h.1
    obtain ⟨q3,q4⟩:=zhG vs n h.2
    simp only [toDs,PyData.canLayAll0,PyData.depthAll,Bool.and_eq_true]
    exact ⟨⟨q1,q3⟩,by omega⟩
end
theorem zdy {v:PV} (h:shp v = true):SeqAt.shaped (toD v) = true:=by
  obtain ⟨q1,q2⟩:=zm3 v 60 h
  unfold SeqAt.shaped
  rw [q1,Bool.true_and,decide_eq_true_eq]
  omega
mutual
theorem zjV:∀ (v w:PV) (n m:Nat),shd n v = true -> shd m w = true -> PyData.eqv (toD v) (toD w) = peq v w
  | .non,w,n,m,h,q=>by cases w <;> simp_all [toD,PyData.eqv,peq,shd]
  | .bl b,w,n,m,h,q=>by cases w <;> simp_all [toD,PyData.eqv,peq,shd,bi]
  | .int i,w,n,m,h,q=>by cases w <;> simp_all [toD,PyData.eqv,peq,shd,bi]
  | .str x,w,n,m,h,q=>by cases w <;> simp_all [toD,PyData.eqv,peq,shd]
  | .tp _ xs,.tp _ ys,n,m,h,q=>by
    simp only [shd,Bool.and_eq_true] at h q
    simp only [toD,PyData.eqv,peq]
    exact zhz xs ys (n - 1) (m - 1) h.2 q.2
  | .lst xs,.lst ys,n,m,h,q=>by
    simp only [shd,Bool.and_eq_true] at h q
    simp only [toD,PyData.eqv,peq]
    exact zhz xs ys (n - 1) (m - 1) h.2 q.2
  | .tp _ xs,.non,n,m,h,q=>by simp [toD,PyData.eqv,peq]
  | .tp _ xs,.bl _,n,m,h,q=>by simp [toD,PyData.eqv,peq]
  | .tp _ xs,.int _,n,m,h,q=>by simp [toD,PyData.eqv,peq]
  | .tp _ xs,.str _,n,m,h,q=>by simp [toD,PyData.eqv,peq]
  | .tp _ xs,.lst _,n,m,h,q=>by simp [toD,PyData.eqv,peq]
  | .lst xs,.non,n,m,h,q=>by simp [toD,PyData.eqv,peq]
  | .lst xs,.bl _,n,m,h,q=>by simp [toD,PyData.eqv,peq]
  | .lst xs,.int _,n,m,h,q=>by simp [toD,PyData.eqv,peq]
  | .lst xs,.str _,n,m,h,q=>by simp [toD,PyData.eqv,peq]
  | .lst xs,.tp _ _,n,m,h,q=>by simp [toD,PyData.eqv,peq]
  | .loc k,w,n,m,h,q=>by simp [shd] at h
  | .exn k,w,n,m,h,q=>by simp [shd] at h
  | .scr k,w,n,m,h,q=>by simp [shd] at h
  | v,.loc k,n,m,h,q=>by simp [shd] at q
  | v,.exn k,n,m,h,q=>by simp [shd] at q
  | v,.scr k,n,m,h,q=>by simp [shd] at q
theorem zhz:∀ (v w:List PV) (n m:Nat),shds n v = true -> shds m w = true -> PyData.eqvAll (toDs v) (toDs w) = peqs v w
  | [],[],n,m,h,q=>by simp [toDs,PyData.eqvAll,peqs]
  | [],y :: ys,n,m,h,q=>by simp [toDs,PyData.eqvAll,peqs]
  | x :: xs,[],n,m,h,q=>by simp [toDs,PyData.eqvAll,peqs]
  | x :: xs,y :: ys,n,m,h,q=>by
    simp only [shds,Bool.and_eq_true] at h q
    simp only [toDs,PyData.eqvAll,peqs]
    rw [zjV x y n m h.1 q.1,zhz xs ys n m h.2 q.2]
end
section
variable {S:Se} {X:Cx} {σ:St} {B:Addr -> Prop} {φ φ1:Ph} {H H1:Hp} {st:Store} {pins:List (Addr × Obj)} {s:Shared}
mutual
theorem zew (I:Inv X pins σ H s):∀ (v:PV) (n:Nat) (x:V) (u:Value),shd n v = true -> RepV X.K S.cl B φ H v x -> RelV x u -> ∃ as,Reads s.heap u (toD v) as
  | .non,n,x,u,h,r,q=>by
    simp only [RepV] at r; subst r; cases (show u = Value.none from q); exact ⟨_,.none⟩
  | .bl b,n,x,u,h,r,q=>by
    simp only [RepV] at r; subst r; cases (show u = Value.bool b from q); exact ⟨_,.bool b⟩
  | .int i,n,x,u,h,r,q=>by
    simp only [RepV] at r; subst r; obtain ⟨t,rfl⟩:=q; exact ⟨_,.int i t⟩
  | .str y,n,x,u,h,r,q=>by
    simp only [RepV] at r; subst r; obtain ⟨t,rfl⟩:=q; exact ⟨_,.str y t⟩
  | .tp _ vs,n,x,u,h,r,q=>by
    simp only [RepV] at r
    obtain ⟨a,xs,rfl,rt,l⟩:=r
    cases (show u = Value.ref a from q)
    simp only [shd,Bool.and_eq_true] at h
    obtain ⟨its,rv,⟨o,g,c,k,d⟩,_⟩:=I.tuple rt.sq
    obtain ⟨as,z⟩:=zgo I vs (n - 1) xs its h.2 l rv
    exact ⟨as,.tuple g c d (by simpa using z)⟩
  | .lst vs,n,x,u,h,r,q=>by
    simp only [RepV] at r
    obtain ⟨a,xs,rfl,rt,l⟩:=r
    cases (show u = Value.ref a from q)
    simp only [shd,Bool.and_eq_true] at h
    obtain ⟨its,rv,⟨o,k,g,c,_,d⟩,_⟩:=I.list (rt.sq (K:=X.K))
    obtain ⟨as,z⟩:=zgo I vs (n - 1) xs its h.2 l rv
    exact ⟨_,.list g c d (by simpa using z)⟩
  | .loc k,n,x,u,h,r,q=>by simp [shd] at h
  | .exn k,n,x,u,h,r,q=>by simp [shd] at h
  | .scr k,n,x,u,h,r,q=>by simp [shd] at h
theorem zgo (I:Inv X pins σ H s):∀ (v:List PV) (n:Nat) (x:List V) (u:List Value),shds n v = true -> RepL X.K S.cl B φ H v x -> Vals x u -> ∃ as,ReadsAll s.heap u (toDs v) as
  | [],n,x,u,h,r,q=>by
    simp only [RepL] at r; subst r; cases q; exact ⟨_,.nil⟩
  | v :: vs,n,x,u,h,r,q=>by
    simp only [RepL] at r
    obtain ⟨y,ys,rfl,rv,l⟩:=r
    simp only [shds,Bool.and_eq_true] at h
    cases q with
    | cons q1 q2 =>
      obtain ⟨as,z1⟩:=zew I v n y _ h.1 rv q1
      obtain ⟨bs,z2⟩:=zgo I vs n ys _ h.2 l q2
      exact ⟨_,.cons z1 z2⟩
end
theorem zV (hu:X.A.units + 64 < cLine):OpR X (compareOp .Eq) (rT2 S X (cmpV .eq)):=by
  rintro pins s σ H x y v u Q I rx ry ⟨B,φ,st,a,b,z,rs,ra,rb,e,q⟩
  simp only [cmpV] at e
  split at e
  · rename_i c
    rw [Bool.and_eq_true] at c
    cases e
    obtain ⟨as,z1⟩:=zew (S:=S) I a 60 x v c.1 ra rx
    obtain ⟨bs,z2⟩:=zew (S:=S) I b 60 y u c.2 rb ry
    refine eq_dataH z1 z2 (zdy c.1) (zdy c.2) hu ⟨.bl _,H,I,rfl,?_⟩
    rw [zjV a b 60 60 c.1 c.2]
    exact q _ H φ .rfl rs (by simp only [RepV])
  · cases e
theorem zfv (hu:X.A.units + 64 < cLine):OpR X (compareOp .NotEq) (rT2 S X (cmpV .ne)):=by
  rintro pins s σ H x y v u Q I rx ry ⟨B,φ,st,a,b,z,rs,ra,rb,e,q⟩
  simp only [cmpV] at e
  split at e
  · rename_i c
    rw [Bool.and_eq_true] at c
    cases e
    obtain ⟨as,z1⟩:=zew (S:=S) I a 60 x v c.1 ra rx
    obtain ⟨bs,z2⟩:=zew (S:=S) I b 60 y u c.2 rb ry
    refine ne_dataH z1 z2 (zdy c.1) (zdy c.2) hu ⟨.bl _,H,I,rfl,?_⟩
    rw [zjV a b 60 60 c.1 c.2]
    exact q _ H φ .rfl rs (by simp only [RepV])
  · cases e
theorem zhH {f:Value -> Value -> Sem Value} {o:COp} {g:Int -> Int -> Bool} (h:OpR X f (rI0 fun i j=>.bl (g i j)))
    (hb:∀ v w z,cmpV o v w = some z -> ∃ i j,v = .int i /\ w = .int j /\ z = .bl (g i j)):OpR X f (rT2 S X (cmpV o)):=by
  rintro pins s σ H x y v u Q I rx ry ⟨B,φ,st,a,b,z,rs,ra,rb,e,q⟩
  obtain ⟨i,j,rfl,rfl,rfl⟩:=hb a b z e
  simp only [RepV] at ra rb
  subst ra rb
  exact h pins s σ H _ _ v u Q I rx ry ⟨i,j,rfl,rfl,q _ H φ .rfl rs (by simp only [RepV])⟩
theorem zhy {o:COp} {g:Int -> Int -> Bool} (ho:∀ v w,cmpV o v w = match v,w with
      | .int i,.int j=>cmpI o i j
      | _,_=>none) (hg:∀ i j,cmpI o i j = some (.bl (g i j))) (v w z:PV) (h:cmpV o v w = some z):∃ i j,v = .int i /\ w = .int j /\ z = .bl (g i j):=by
  rw [ho] at h
  split at h
  · rename_i i j
    rw [hg] at h
    exact ⟨i,j,rfl,rfl,(Option.some.inj h).symm⟩
  · cases h
theorem ziI:OpR X (compareOp .Lt) (rT2 S X (cmpV .lt)):=zhH zrY (zhy (fun _ _=>rfl) fun _ _=>rfl)
theorem zic:OpR X (compareOp .LtE) (rT2 S X (cmpV .le)):=zhH zrM (zhy (fun _ _=>rfl) fun _ _=>rfl)
theorem zhQ:OpR X (compareOp .Gt) (rT2 S X (cmpV .gt)):=zhH zr6 (zhy (fun _ _=>rfl) fun _ _=>rfl)
theorem zpl:OpR X (compareOp .GtE) (rT2 S X (cmpV .ge)):=zhH zrN (zhy (fun _ _=>rfl) fun _ _=>rfl)
theorem RepV.isNon {K:PySem.W.Frag} {cl:Nat -> Addr} {v:PV} {x:V} (r:RepV K cl B φ H v x):decide (x = .non) = IC.isNon v:=by
  cases v with
  | loc n=>simp only [RepV] at r; obtain ⟨_,a,rfl,_⟩:=r; rfl
  | non=>simp only [RepV] at r; subst r; rfl
  | bl b=>simp only [RepV] at r; subst r; rfl
  | int b=>simp only [RepV] at r; subst r; rfl
  | str b=>simp only [RepV] at r; subst r; rfl
  | tp k vs=>simp only [RepV] at r; obtain ⟨a,xs,rfl,_⟩:=r; rfl
  | lst vs=>simp only [RepV] at r; obtain ⟨a,xs,rfl,_⟩:=r; rfl
  | exn vs=>simp only [RepV] at r; obtain ⟨a,rfl,_⟩:=r; rfl
  | scr vs=>simp only [RepV] at r; obtain ⟨a,xs,rfl,_⟩:=r; rfl
theorem zq6:OpR X (compareOp .Is) (rT2 S X (cmpV .is)):=by
  rintro pins s σ H x y v u Q I rx ry ⟨B,φ,st,a,b,z,rs,ra,rb,e,q⟩
  simp only [cmpV] at e
  split at e
  · cases e
    simp only [RepV] at rb
    exact zqg pins s σ H _ _ v u Q I rx ry ⟨rb,q _ H φ .rfl rs (by simp only [RepV]; rw [ra.isNon])⟩
  · cases e
theorem RepV.flat {K:PySem.W.Frag} {cl:Nat -> Addr} {v:PV} {x:V} (r:RepV K cl B φ H v x) (h:IC.flat v = true):flatV x = true /\ ∀ (w:PV) (y:V),IC.flat w = true -> RepV K cl B φ H w y -> eqV x y = peq v w:=by
  cases v with
  | non =>
    simp only [RepV] at r; subst r
    refine ⟨rfl,fun w y hw rw=>?_⟩
    cases w <;> first | (simp [IC.flat] at hw; done) | (simp only [RepV] at rw; subst rw; simp [eqV,peq,bi])
  | bl b =>
    simp only [RepV] at r; subst r
    refine ⟨rfl,fun w y hw rw=>?_⟩
    cases w <;> first | (simp [IC.flat] at hw; done) | (simp only [RepV] at rw; subst rw; simp [eqV,peq,bi])
  | int b =>
    simp only [RepV] at r; subst r
    refine ⟨rfl,fun w y hw rw=>?_⟩
    cases w <;> first | (simp [IC.flat] at hw; done) | (simp only [RepV] at rw; subst rw; simp [eqV,peq,bi])
  | str b =>
    simp only [RepV] at r; subst r
    refine ⟨rfl,fun w y hw rw=>?_⟩
    cases w <;> first | (simp [IC.flat] at hw; done) | (simp only [RepV] at rw; subst rw; simp [eqV,peq,bi])
  | _=>simp [IC.flat] at h
theorem zfY {K:PySem.W.Frag} {cl:Nat -> Addr} {v:PV} {x:V} (r:RepV K cl B φ H v x) (h:IC.flat v = true):∀ {vs:List PV} {xs:List V},RepL K cl B φ H vs xs -> vs.all IC.flat = true -> xs.all flatV = true /\ inV x xs = inL v vs
  | [],xs,l,_=>by simp only [RepL] at l; subst l; exact ⟨rfl,rfl⟩
  | w :: vs,xs,l,f=>by
    simp only [RepL] at l
    obtain ⟨y,ys,rfl,rw,l⟩:=l
    rw [List.all_cons,Bool.and_eq_true] at f
    obtain ⟨q1,q2⟩:=zfY r h l f.2
    obtain ⟨q3,q4⟩:=rw.flat f.1
    refine ⟨by rw [List.all_cons,q3,q1]; rfl,?_⟩
    unfold inV at q2 ⊢
    rw [List.any_cons,q2,q4 v x h r]
    rfl
end
end L2
namespace L2
open PySem PySem.Spec PyProof.Rows IC
theorem zmr (a b:Str):(!(Builtin.Str.occurrences b a 0 b.length 1).isEmpty) = inS a b:=by
  rw [Bool.eq_iff_iff,StrLaws.found_iff]
  unfold inS
  rw [List.any_eq_true]
  constructor
  · rintro ⟨i,h1,h2⟩
    exact ⟨i,by rw [List.mem_range]; omega,by rw [Bool.and_eq_true,decide_eq_true_eq]; exact ⟨h1,h2⟩⟩
  · rintro ⟨i,_,h⟩
    rw [Bool.and_eq_true,decide_eq_true_eq] at h
    exact ⟨i,h.1,h.2⟩
section
variable {S:Se} {X:Cx} {σ:St} {B:Addr -> Prop} {φ φ1:Ph} {H H1:Hp} {st:Store}
theorem zgQ:OpR X (compareOp .In) (rT2 S X (cmpV .isin)):=by
  rintro pins s σ H x y v u Q I rx ry ⟨B,φ,st,a,b,z,rs,ra,rb,e,q⟩
  simp only [cmpV] at e
  split at e
  · rename_i i j
    simp only [RepV] at ra rb
    subst ra rb
    cases e
    exact zmI pins s σ H _ _ v u Q I rx ry ⟨i,j,rfl,rfl,by rw [zmr]; exact q _ H φ .rfl rs (by simp only [RepV])⟩
  · rename_i l
    split at e
    · rename_i c
      rw [Bool.and_eq_true] at c
      cases e
      simp only [RepV] at rb
      obtain ⟨p,xs,rfl,r,l'⟩:=rb
      obtain ⟨q1,q2⟩:=zfY ra c.1 l' c.2
      exact ziW pins s σ H _ _ v u Q I rx ry ⟨p,xs,rfl,.inr r.sq,(ra.flat c.1).1,q1,q _ H φ .rfl rs (by simp only [RepV]; rw [<- q2]; rfl)⟩
    · cases e
  · rename_i l
    split at e
    · rename_i c
      rw [Bool.and_eq_true] at c
      cases e
      simp only [RepV] at rb
      obtain ⟨p,xs,rfl,r,l'⟩:=rb
      obtain ⟨q1,q2⟩:=zfY ra c.1 l' c.2
      exact ziW pins s σ H _ _ v u Q I rx ry ⟨p,xs,rfl,.inl r.sq,(ra.flat c.1).1,q1,q _ H φ .rfl rs (by simp only [RepV]; rw [<- q2]; rfl)⟩
    · cases e
  · cases e
theorem zn6:OpR X (compareOp .NotIn) (rT2 S X (cmpV .notin)):=by
  rintro pins s σ H x y v u Q I rx ry ⟨B,φ,st,a,b,z,rs,ra,rb,e,q⟩
  simp only [cmpV] at e
  split at e
  · rename_i i j
    simp only [RepV] at ra rb
    subst ra rb
    cases e
    exact ziH pins s σ H _ _ v u Q I rx ry ⟨i,j,rfl,rfl,by rw [zmr]; exact q _ H φ .rfl rs (by simp only [RepV])⟩
  · rename_i l
    split at e
    · rename_i c
      rw [Bool.and_eq_true] at c
      cases e
      simp only [RepV] at rb
      obtain ⟨p,xs,rfl,r,l'⟩:=rb
      obtain ⟨q1,q2⟩:=zfY ra c.1 l' c.2
      exact zfk pins s σ H _ _ v u Q I rx ry ⟨p,xs,rfl,.inr r.sq,(ra.flat c.1).1,q1,q _ H φ .rfl rs (by simp only [RepV]; rw [<- q2]; rfl)⟩
    · cases e
  · rename_i l
    split at e
    · rename_i c
      rw [Bool.and_eq_true] at c
      cases e
      simp only [RepV] at rb
      obtain ⟨p,xs,rfl,r,l'⟩:=rb
      obtain ⟨q1,q2⟩:=zfY ra c.1 l' c.2
      exact zfk pins s σ H _ _ v u Q I rx ry ⟨p,xs,rfl,.inl r.sq,(ra.flat c.1).1,q1,q _ H φ .rfl rs (by simp only [RepV]; rw [<- q2]; rfl)⟩
    · cases e
  · cases e
theorem RepL.empty {K:PySem.W.Frag} {cl:Nat -> Addr} {vs:List PV} {xs:List V} (l:RepL K cl B φ H vs xs):vs.isEmpty = xs.isEmpty:=by
  have:=l.length
  cases vs <;> cases xs <;> simp_all
theorem zpL {K:PySem.W.Frag} {cl:Nat -> Addr} {v:PV} {x:V} {k:Bool} (rs:RepS K cl B φ H st) (r:RepV K cl B φ H v x) (h:truV st v = some k):TruV K x H k:=by
  cases v with
  | non=>simp only [RepV] at r; subst r; cases h; rfl
  | bl b=>simp only [RepV] at r; subst r; cases h; rfl
  | int b=>simp only [RepV] at r; subst r; cases h; rfl
  | str b =>
    simp only [RepV] at r; subst r
    simp only [truV] at h
    split at h
    · rename_i c
      cases h
      exact ⟨by rw [<- zaT]; exact c,rfl⟩
    · cases h
  | tp k vs =>
    simp only [RepV] at r
    obtain ⟨a,xs,rfl,rt,l⟩:=r
    cases h
    exact .inr (.inl ⟨xs,rt.sq,by rw [l.empty]⟩)
  | lst vs =>
    simp only [RepV] at r
    obtain ⟨a,xs,rfl,rt,l⟩:=r
    cases h
    exact .inl ⟨xs,rt.sq,by rw [l.empty]⟩
  | loc n =>
    simp only [RepV] at r
    obtain ⟨hn,a,rfl,ha⟩:=r
    simp only [truV] at h
    split at h
    · rename_i vs hv
      cases h
      obtain ⟨b,hb⟩:=rs.liv n _ hv (by intro z; cases z)
      obtain rfl:=ha b hb
      obtain ⟨o,ho,ro⟩:=rs.obj n b hb
      rw [hv] at ho; cases ho
      obtain ⟨xs,hx,l⟩:=ro
      exact .inl ⟨xs,.of hx,by rw [l.empty]⟩
    · cases h
  | exn c=>cases h
  | scr c=>cases h
end
end L2
namespace L2
open PySem PySem.Spec PyProof.Rows IC
theorem R.bind_assoc {α β γ:Type} {r:R α} {k:α -> Store -> R β} {l:β -> Store -> R γ}:(r.bind k).bind l = r.bind fun a s=>(k a s).bind l:=by
  cases r <;> rfl
section
variable {S:Se} {X:Cx} {σ:St} {B:Addr -> Prop} {φ φ1:Ph} {H H1:Hp} {st:Store} {ρ:IC.Env} {pos:Pos} {a b c d:Expr} {ca cb cc:Ce} {es:List Expr} {ces:Ces}
theorem zhu {o:COp} {v w z:PV} (h:cmpV o v w = some z):∃ k,z = .bl k:=by
  cases o <;> simp only [cmpV] at h
  all_goals (repeat' split at h) <;> first | (cases h; done) | (cases h; exact ⟨_,rfl⟩) | skip
  all_goals (simp only [cmpI] at h; cases h; exact ⟨_,rfl⟩)
theorem zo {op:CmpOp} {o:COp} (ho:OpR X (compareOp op) (rT2 S X (cmpV o))) (ha:PE X a (tE S X ca)) (hb:PE X b (tE S X cb)) (hm:behindInMarks op b = false):PT X (.Compare a [op] [b] pos) (tTs S X (.cmp o ca cb)) :=
  (zpp ho ha hb hm).imp fun σ H Q ⟨B,φ,st,ρ,rs,re,h⟩=>by
    simp only [ev,truR,R.bind_assoc] at h
    refine tE.bind rs re h fun x H1 v st1 φ1 s1 rs1 re1 rv h1=>tE.bind rs1 re1 h1 fun y H2 w st2 φ2 s2 rs2 re2 rw h2=>?_
    cases e:cmpV o v w with
    | none=>rw [e] at h2; exact h2.elim
    | some z =>
      obtain ⟨k,rfl⟩:=zhu e
      rw [e] at h2
      refine ⟨B,φ2,st2,v,w,.bl k,rs2,rv.step s2,rw,e,fun z' H' φ' s' rs' rz=>?_⟩
      simp only [RepV] at rz
      exact ⟨k,rz,h2 k H' φ' s' rs' rfl⟩
theorem zaI (ha:PE X a (tE S X ca)) (he:∀ whole,isTrue a X.env whole = (do let v <- whole; standAt a.pos; holding [v] (truthy v)):=by intro _; rfl):PT X a (tTs S X ca) :=
  (znB ha he).imp fun σ H Q ⟨B,φ,st,ρ,rs,re,h⟩=>by
    simp only [truR] at h
    refine tE.bind rs re h fun x H1 v st1 φ1 s1 rs1 re1 rv h1=>?_
    cases e:truV st1 v with
    | none=>rw [e] at h1; exact h1.elim
    | some k =>
      rw [e] at h1
      exact ⟨k,zpL rs1 rv e,h1.ok rs1 rfl⟩
theorem tTs.bind {γ δ:Type} {Rel2:Ph -> Hp -> γ -> δ -> Prop} {k:Bool -> Store -> R γ} {Q:δ -> Hp -> Prop} {P:Bool -> Hp -> Prop} (rs:RepS X.K S.cl B φ H st) (re:RepE X.K S.cl B φ H ρ σ) (h:Run S X σ B φ H Rel2 ((truR (ev S.call ρ st ca)).bind k) Q)
    (n:∀ b H1 st1 φ1,Step φ H φ1 H1 -> RepS X.K S.cl B φ1 H1 st1 -> RepE X.K S.cl B φ1 H1 ρ σ -> Run S X σ B φ1 H1 Rel2 (k b st1) Q -> P b H1):tTs S X ca σ H P :=
  ⟨B,φ,st,ρ,rs,re,(Run.bind h).mono fun x H1 ⟨v,st1,φ1,s,rs1,rv,h1⟩=>by
    subst rv
    exact n v H1 st1 φ1 s rs1 (re.step s) h1⟩
theorem zjF (r:R PV) (f:Bool -> Store -> R PV):truR (r.bind fun x st1=>onBl x fun b=>f b st1) = r.bind fun x st1=>onBl x fun b=>truR (f b st1):=by
  unfold truR
  rw [R.bind_assoc]
  congr 1
  funext x st1
  cases x <;> rfl
theorem Run.bl_tru {r:R PV} {k:Bool -> Store -> R Bool} {Q:Bool -> Hp -> Prop} (h:Run S X σ B φ H RB (r.bind fun x st1=>onBl x fun b=>k b st1) Q):Run S X σ B φ H RB ((truR r).bind k) Q:=by
  cases r with
  | bad=>exact h
  | exc c s=>exact h
  | ok v s =>
    cases v with
    | bl b=>exact h
    | _=>exact h.elim
theorem za2 (ha:PT X a (tTs S X ca)):PT X (.UnaryOp .Not a pos) (tTs S X (.not ca)) :=
  (zqT ha).imp fun σ H Q ⟨B,φ,st,ρ,rs,re,h⟩=>by
    simp only [ev] at h
    rw [zjF _ fun k st1=>.ok (.bl (!k)) st1] at h
    exact tTs.bind rs re (Run.bl_tru (k:=fun b st1=>.ok (!b) st1) h) fun b H1 st1 φ1 s1 rs1 re1 h1=>h1.ok rs1 rfl
variable {rest:List Expr}
theorem zcL (ha:PT X a (tTs S X ca)):PW X (.BoolOp .And [a] pos) (tTs S X ca):=zpj ha
theorem zbi (ha:PT X a (tTs S X ca)):PW X (.BoolOp .Or [a] pos) (tTs S X ca):=zrD ha
theorem zes (ha:PT X a (tTs S X ca)) (hb:PW X (.BoolOp .And (b :: rest) pos) (tTs S X cb)):PW X (.BoolOp .And (a :: b :: rest) pos) (tTs S X (.and ca cb)) :=
  (zrq ha hb).imp fun σ H Q ⟨B,φ,st,ρ,rs,re,h⟩=>by
    simp only [ev] at h
    rw [zjF _ fun k st1=>cond k (ev S.call ρ st1 cb) (.ok (.bl false) st1)] at h
    refine tTs.bind rs re (Run.bl_tru h) fun k H1 st1 φ1 s1 rs1 re1 h1=>?_
    cases k with
    | false=>exact h1.ok rs1 rfl
    | true=>exact ⟨B,φ1,st1,ρ,rs1,re1,h1⟩
theorem zbB (ha:PT X a (tTs S X ca)) (hb:PW X (.BoolOp .Or (b :: rest) pos) (tTs S X cb)):PW X (.BoolOp .Or (a :: b :: rest) pos) (tTs S X (.or ca cb)) :=
  (zrL ha hb).imp fun σ H Q ⟨B,φ,st,ρ,rs,re,h⟩=>by
    simp only [ev] at h
    rw [zjF _ fun k st1=>cond k (.ok (.bl true) st1) (ev S.call ρ st1 cb)] at h
    refine tTs.bind rs re (Run.bl_tru h) fun k H1 st1 φ1 s1 rs1 re1 h1=>?_
    cases k with
    | true=>exact h1.ok rs1 rfl
    | false=>exact ⟨B,φ1,st1,ρ,rs1,re1,h1⟩
theorem zcd {op:BoolOp} (h:PE X a (tE S X ca)):PE X (.BoolOp op [a] pos) (tE S X ca):=zqZ h
theorem zbx (ha:PE X a (tE S X ca)) (hb:PE X (.BoolOp .And (b :: rest) pos) (tE S X cb)):PE X (.BoolOp .And (a :: b :: rest) pos) (tE S X (.and ca cb)) :=
  (zqu ha hb).imp fun σ H Q ⟨B,φ,st,ρ,rs,re,h⟩=>by
    simp only [ev] at h
    refine tE.bind rs re h fun x H1 v st1 φ1 s1 rs1 re1 rv h1=>?_
    cases v with
    | bl k =>
      simp only [RepV] at rv
      refine ⟨k,rv,?_⟩
      cases k with
      | true=>exact ⟨B,φ1,st1,ρ,rs1,re1,h1⟩
      | false=>exact h1.ok rs1 (by simp only [RepV])
    | _=>exact h1.elim
theorem zpO (ha:PE X a (tE S X ca)) (hb:PE X (.BoolOp .Or (b :: rest) pos) (tE S X cb)):PE X (.BoolOp .Or (a :: b :: rest) pos) (tE S X (.or ca cb)) :=
  (zrW ha hb).imp fun σ H Q ⟨B,φ,st,ρ,rs,re,h⟩=>by
    simp only [ev] at h
    refine tE.bind rs re h fun x H1 v st1 φ1 s1 rs1 re1 rv h1=>?_
    cases v with
    | bl k =>
      simp only [RepV] at rv
      refine ⟨k,rv,?_⟩
      cases k with
      | false=>exact ⟨B,φ1,st1,ρ,rs1,re1,h1⟩
      | true=>exact h1.ok rs1 (by simp only [RepV])
    | _=>exact h1.elim
theorem zqA (ha:PE X a (tE S X ca)):PE X (.UnaryOp .Not a pos) (tE S X (.not ca)) :=
  (zqB ha).imp fun σ H Q ⟨B,φ,st,ρ,rs,re,h⟩=>by
    simp only [ev] at h
    refine tE.bind rs re h fun x H1 v st1 φ1 s1 rs1 re1 rv h1=>?_
    cases v with
    | bl k =>
      simp only [RepV] at rv
      exact ⟨k,rv,h1.ok rs1 (by simp only [RepV])⟩
    | _=>exact h1.elim
theorem ziE (ha:PE X a (tE S X ca)):PE X (.UnaryOp .USub a pos) (tE S X (.neg ca)) :=
  (zrG zoE ha).imp fun σ H Q ⟨B,φ,st,ρ,rs,re,h⟩=>by
    simp only [ev] at h
    refine tE.bind rs re h fun x H1 v st1 φ1 s1 rs1 re1 rv h1=>?_
    split at h1
    · simp only [RepV] at rv
      exact ⟨_,rv,h1.ok rs1 (by simp only [RepV])⟩
    · exact h1.elim
theorem zd:PA X [] (tAs S X .nil):=pa_nil.imp fun σ H Q ⟨B,φ,st,ρ,rs,re,h⟩=>by
  simp only [evs] at h
  exact h.ok rs (by simp only [RepL])
theorem za (ha:PE X a (tE S X ca)) (hr:PA X es (tAs S X ces)) (hs:starEach (a :: es) X.env = (false,eval a X.env) :: starEach es X.env:=by rfl):PA X (a :: es) (tAs S X (.cons ca ces)) :=
  (zde ha hr hs).imp fun σ H Q ⟨B,φ,st,ρ,rs,re,h⟩=>by
    simp only [evs] at h
    refine tE.bind rs re h fun x H1 v st1 φ1 s1 rs1 re1 rv h1=>tAs.bind rs1 re1 h1 fun xs H2 vs st2 φ2 s2 rs2 re2 rvs h2=>?_
    refine h2.ok rs2 ?_
    simp only [RepL]
    exact ⟨x,xs,rfl,rv.step s2,rvs⟩
theorem zu {k:Nat} (h:PA X es (tAs S X ces)):PE X (.Tuple es k pos) (tE S X (.tup ces)) :=
  (zqx h).imp fun σ H Q ⟨B,φ,st,ρ,rs,re,h⟩=>by
    simp only [ev] at h
    refine tAs.bind rs re h fun xs H1 vs st1 φ1 s1 rs1 re1 rv h1=>?_
    split at h1
    · rename_i c
      refine ⟨by rw [<- zaT,<- rv.length]; exact c,fun p hp=>h1 _ _ φ1 (.upd hp) (rs1.upd hp) (.tup_new hp rs1 rv)⟩
    · exact h1.elim
theorem zcf (h:PA X es (tAs S X ces)):PE X (.List es pos) (tE S X (.lst ces)) :=
  (zoS h).imp fun σ H Q ⟨B,φ,st,ρ,rs,re,h⟩=>by
    simp only [ev] at h
    refine tAs.bind rs re h fun xs H1 vs st1 φ1 s1 rs1 re1 rv h1=>?_
    split at h1
    · rename_i c
      refine ⟨by rw [<- zaT,<- rv.length]; exact c,fun p hp=>h1 _ _ φ1 (.upd hp) (rs1.upd hp) (.lst_new hp rs1 rv)⟩
    · exact h1.elim
theorem Step.push {p:Addr} {o:HO} (hp:H p = none):Step φ H (φ ++ [some p]) (L2.upd H p o):=by
  refine ⟨fun b u n e=>by rw [zJ (zR e hp)]; exact e,by simp,fun n a hn e=>?_,fun b h=>?_⟩
  · rw [List.getElem?_append_left hn] at e
    exact e
  · rw [List.mem_append] at h
    rcases h with h | h
    · exact .inl h
    · have:b = p:=by simpa using h
      subst this
      exact .inr hp
theorem RepS.push {K:PySem.W.Frag} {cl:Nat -> Addr} {p:Addr} {u:HO} {o:Ob} (rs:RepS K cl B φ H st) (hp:H p = none) (hb:¬ B p) (ho:RepO K cl B (φ ++ [some p]) (L2.upd H p u) o p):RepS K cl B (φ ++ [some p]) (L2.upd H p u) (st ++ [o]):=by
  have s:Step φ H (φ ++ [some p]) (L2.upd H p u):=.push hp
  have np:some p ∉ φ:=fun z=>by
    obtain ⟨w,e⟩:=rs.there z
    rw [hp] at e; cases e
  have hl:φ.length = st.length:=rs.len
  refine ⟨by simp [hl],fun m n a e1 e2=>?_,fun n a e=>?_,fun n o' e ho'=>?_,fun a h=>?_,fun a h=>?_⟩
  · by_cases hm:m < φ.length
    · rw [List.getElem?_append_left hm] at e1
      by_cases hn:n < φ.length
      · rw [List.getElem?_append_left hn] at e2
        exact rs.inj m n a e1 e2
      · rw [List.getElem?_append_right (by omega)] at e2
        have:a = p:=by
          cases q:n - φ.length with
          | zero=>rw [q] at e2; simpa using e2.symm
          | succ k=>rw [q] at e2; simp at e2
        subst this
        exact absurd (List.mem_of_getElem? e1) np
    · rw [List.getElem?_append_right (by omega)] at e1
      have:m - φ.length = 0 /\ a = p:=by
        cases q:m - φ.length with
        | zero=>rw [q] at e1; exact ⟨rfl,by simpa using e1.symm⟩
        | succ k=>rw [q] at e1; simp at e1
      obtain ⟨q1,rfl⟩:=this
      by_cases hn:n < φ.length
      · rw [List.getElem?_append_left hn] at e2
        exact absurd (List.mem_of_getElem? e2) np
      · rw [List.getElem?_append_right (by omega)] at e2
        have:n - φ.length = 0:=by
          cases q:n - φ.length with
          | zero=>rfl
          | succ k=>rw [q] at e2; simp at e2
        omega
  · by_cases hn:n < φ.length
    · rw [List.getElem?_append_left hn] at e
      obtain ⟨o',q,r⟩:=rs.obj n a e
      refine ⟨o',by rw [List.getElem?_append_left (by omega)]; exact q,r.step s ?_⟩
      rw [zJ]
      rintro rfl
      exact np (List.mem_of_getElem? e)
    · rw [List.getElem?_append_right (by omega)] at e
      have:n - φ.length = 0 /\ a = p:=by
        cases q:n - φ.length with
        | zero=>rw [q] at e; exact ⟨rfl,by simpa using e.symm⟩
        | succ k=>rw [q] at e; simp at e
      obtain ⟨q1,rfl⟩:=this
      refine ⟨o,?_,ho⟩
      rw [List.getElem?_append_right (by omega)]
      have:n - st.length = 0:=by omega
      rw [this]; rfl
  · by_cases hn:n < φ.length
    · rw [List.getElem?_append_left (by omega)] at e
      obtain ⟨a,q⟩:=rs.liv n o' e ho'
      exact ⟨a,by rw [List.getElem?_append_left hn]; exact q⟩
    · rw [List.getElem?_append_right (by omega)] at e
      have:n - st.length = 0:=by
        cases q:n - st.length with
        | zero=>rfl
        | succ k=>rw [q] at e; simp at e
      refine ⟨p,?_⟩
      rw [List.getElem?_append_right (by omega)]
      have:n - φ.length = 0:=by omega
      rw [this]; rfl
  · rw [List.mem_append] at h
    rcases h with h | h
    · exact rs.nb a h
    · have:a = p:=by simpa using h
      subst this
      exact hb
  · obtain ⟨w,e⟩:=rs.dom a h
    exact ⟨w,by rw [zJ (zR e hp)]; exact e⟩
theorem RepS.nB {K:PySem.W.Frag} {cl:Nat -> Addr} {p:Addr} (rs:RepS K cl B φ H st) (hp:H p = none):¬ B p:=fun z=>by
  obtain ⟨o,e⟩:=rs.dom p z
  rw [hp] at e; cases e
theorem RepV.loc_new {K:PySem.W.Frag} {cl:Nat -> Addr} {p:Addr} (rs:RepS K cl B φ H st):RepV K cl B (φ ++ [some p]) H1 (.loc st.length) (.ref p):=by
  simp only [RepV]
  have hl:=rs.len
  refine ⟨by simp [hl],p,rfl,fun b e=>?_⟩
  rw [List.getElem?_append_right (by omega)] at e
  have:st.length - φ.length = 0:=by omega
  rw [this] at e
  simpa using e.symm
theorem zh1 (h:PA X es (tAs S X ces)):PE X (.List es pos) (tE S X (.newl ces)) :=
  (zoS h).imp fun σ H Q ⟨B,φ,st,ρ,rs,re,h⟩=>by
    simp only [ev] at h
    refine tAs.bind rs re h fun xs H1 vs st1 φ1 s1 rs1 re1 rv h1=>?_
    split at h1
    · rename_i c
      refine ⟨by rw [<- zaT,<- rv.length]; exact c,fun p hp=>h1 _ _ (φ1 ++ [some p]) (.push hp) (rs1.push hp (rs1.nB hp) ⟨xs,zab,rv.step (.push hp)⟩) (.loc_new rs1)⟩
    · exact h1.elim
end
end L2
namespace L2
open PySem PySem.Spec PyProof.Rows IC
section
variable {S:Se} {X:Cx} {σ:St} {B:Addr -> Prop} {φ φ1:Ph} {H H1:Hp} {st:Store} {ρ:IC.Env} {pos p2:Pos} {a b c d:Expr} {ca cb cc:Ce} {es:List Expr} {ces:Ces} {K:PySem.W.Frag} {cl:Nat -> Addr}
theorem znc {o:COp} {v w:PV} {α β:Type} {Rel:Ph -> Hp -> α -> β -> Prop} {k:Bool -> R α} {Q:β -> Hp -> Prop} (h:Run S X σ B φ H Rel (onO (blO (cmpV o v w)) k) Q):∃ b,cmpV o v w = some (.bl b) /\ Run S X σ B φ H Rel (k b) Q:=by
  cases e:cmpV o v w with
  | none=>rw [e] at h; exact h.elim
  | some z =>
    obtain ⟨b,rfl⟩:=zhu e
    rw [e] at h
    exact ⟨b,rfl,h⟩
theorem zoe {op op':CmpOp} {o p:COp} (ho:OpR X (compareOp op) (rT2 S X (cmpV o))) (ho':OpR X (compareOp op') (rT2 S X (cmpV p))) (ha:PE X a (tE S X ca)) (hb:PE X b (tE S X cb)) (hc:PE X c (tE S X cc))
    (hm:lastMarks [op,op'] [b,c] = false:=by with_unfolding_all rfl):PE X (.Compare a [op,op'] [b,c] pos) (tE S X (.chain o p ca cb cc)) :=
  (znz ho ho' ha hb hc hm).imp fun σ H Q ⟨B,φ,st,ρ,rs,re,h⟩=>by
    simp only [ev] at h
    refine tE.bind rs re h fun x H1 v st1 φ1 s1 rs1 re1 rv h1=>tE.bind rs1 re1 h1 fun y H2 w st2 φ2 s2 rs2 re2 rw h2=>?_
    obtain ⟨k,e,h2⟩:=znc h2
    refine ⟨B,φ2,st2,v,w,.bl k,rs2,rv.step s2,rw,e,fun z' H' φ' s' rs' rz=>?_⟩
    simp only [RepV] at rz
    refine ⟨k,rz,?_⟩
    cases k with
    | false=>exact h2 _ H' φ' s' rs' (by simp only [RepV])
    | true =>
      refine tE.bind rs' (re2.step s') (Run.on s' h2) fun z H3 v3 st3 φ3 s3 rs3 re3 rv3 h3=>?_
      obtain ⟨q,eq,hq⟩:=zdh h3 rs3
      exact ⟨B,φ3,st3,w,v3,q,rs3,(rw.step s').step s3,rv3,eq,hq⟩
theorem zot {op op':CmpOp} {o p:COp} (ho:OpR X (compareOp op) (rT2 S X (cmpV o))) (ho':OpR X (compareOp op') (rT2 S X (cmpV p))) (ha:PE X a (tE S X ca)) (hb:PE X b (tE S X cb)) (hc:PE X c (tE S X cc))
    (hm:lastMarks [op,op'] [b,c] = false:=by with_unfolding_all rfl):PT X (.Compare a [op,op'] [b,c] pos) (tTs S X (.chain o p ca cb cc)) :=
  (znK ho ho' ha hb hc hm).imp fun σ H Q ⟨B,φ,st,ρ,rs,re,h⟩=>by
    simp only [ev,truR,R.bind_assoc] at h
    refine tE.bind rs re h fun x H1 v st1 φ1 s1 rs1 re1 rv h1=>tE.bind rs1 re1 h1 fun y H2 w st2 φ2 s2 rs2 re2 rw h2=>?_
    have h2':Run S X σ B φ2 H2 RB (onO (blO (cmpV o v w)) fun k=>cond k ((ev S.call ρ st2 cc).bind fun z st3=>(toR (cmpV p w z) st3).bind fun x st=>onO (truV st x) fun b=>.ok b st) (.ok false st2)) Q:=by
      cases e:cmpV o v w with
      | none=>rw [e] at h2; exact h2
      | some z =>
        obtain ⟨b,rfl⟩:=zhu e
        rw [e] at h2
        cases b with
        | false=>exact h2
        | true =>
          simp only [blO,onO,cond_true,R.bind_assoc] at h2 ⊢
          exact h2
    obtain ⟨k,e,h2⟩:=znc h2'
    refine ⟨B,φ2,st2,v,w,.bl k,rs2,rv.step s2,rw,e,fun z' H' φ' s' rs' rz=>?_⟩
    simp only [RepV] at rz
    refine ⟨k,rz,?_⟩
    cases k with
    | false=>exact ⟨false,rfl,h2 _ H' φ' s' rs' rfl⟩
    | true =>
      refine tE.bind rs' (re2.step s') (Run.on s' h2) fun z H3 v3 st3 φ3 s3 rs3 re3 rv3 h3=>?_
      cases eq:cmpV p w v3 with
      | none=>rw [eq] at h3; exact h3.elim
      | some q =>
        obtain ⟨b,rfl⟩:=zhu eq
        rw [eq] at h3
        refine ⟨B,φ3,st3,w,v3,.bl b,rs3,(rw.step s').step s3,rv3,eq,fun z2 H4 φ4 s4 rs4 rz4=>?_⟩
        simp only [RepV] at rz4
        exact ⟨b,rz4,h3 b H4 φ4 s4 rs4 rfl⟩
theorem RepL.at {vs:List PV} {xs:List V} {i:Int} {v:PV} (l:RepL K cl B φ H vs xs) (h:at? vs i = some v):∃ x,atI xs i = some x /\ RepV K cl B φ H v x:=by
  unfold at? at h
  rw [l.length] at h
  unfold atI
  cases e:ixI xs.length i with
  | none=>rw [e] at h; cases h
  | some j =>
    rw [e] at h
    have e':ixN xs.length i = some j:=e
    rw [e']
    exact l.get j h
theorem RepS.list {n:Nat} {vs:List PV} {x:V} (rs:RepS K cl B φ H st) (r:RepV K cl B φ H (.loc n) x) (h:st[n]? = some (.lst vs)):∃ a xs,x = .ref a /\ φ[n]? = some (some a) /\ H a = some (.lst xs) /\ RepL K cl B φ H vs xs:=by
  simp only [RepV] at r
  obtain ⟨hn,a,rfl,ha⟩:=r
  obtain ⟨b,hb⟩:=rs.liv n _ h (by intro z; cases z)
  obtain rfl:=ha b hb
  obtain ⟨o,ho,ro⟩:=rs.obj n b hb
  rw [h] at ho; cases ho
  obtain ⟨xs,hx,l⟩:=ro
  exact ⟨b,xs,rfl,hb,hx,l⟩
noncomputable def rTS (S:Se) (X:Cx) (f:Store -> PV -> PV -> Option PV):R2:=fun x y H Q=>∃ B φ st v w z,RepS X.K S.cl B φ H st /\ RepV X.K S.cl B φ H v x /\ RepV X.K S.cl B φ H w y /\ f st v w = some z /\
  ∀ z' H' φ',Step φ H φ' H' -> RepS X.K S.cl B φ' H' st -> RepV X.K S.cl B φ' H' z z' -> Q z' H'
theorem zfN {α:Type} {xs:List α} {i:PV} {z:α} (h:idxI xs i = some z):∃ k,i = .int k /\ at? xs k = some z:=by
  cases i with
  | int k=>exact ⟨k,rfl,h⟩
  | _=>cases h
theorem zpi:IxR X (rTS S X idxV):=by
  rintro value slice pins s σ H x y v u Q I rx ry ⟨B,φ,st,a,i,z,rs,ra,ri,e,q⟩ hs
  cases a with
  | tp k vs =>
    obtain ⟨k,rfl,e⟩:=zfN e
    simp only [RepV] at ra ri
    subst ri
    obtain ⟨p,xs,rfl,rt,l⟩:=ra
    obtain ⟨w,e1,rw⟩:=l.at e
    exact zkc value slice pins s σ H _ _ v u Q I rx ry (.inr (.inl ⟨p,xs,k,w,rfl,rfl,rt.sq,e1,q w H φ .rfl rs rw⟩)) hs
  | lst vs =>
    obtain ⟨k,rfl,e⟩:=zfN e
    simp only [RepV] at ra ri
    subst ri
    obtain ⟨p,xs,rfl,rt,l⟩:=ra
    obtain ⟨w,e1,rw⟩:=l.at e
    exact zkc value slice pins s σ H _ _ v u Q I rx ry (.inl ⟨p,xs,k,w,rfl,rfl,rt.sq,e1,q w H φ .rfl rs rw⟩) hs
  | loc n =>
    simp only [idxV] at e
    split at e
    · rename_i vs h1
      obtain ⟨k,rfl,e⟩:=zfN e
      simp only [RepV] at ri
      subst ri
      obtain ⟨p,xs,rfl,_,hx,l⟩:=rs.list ra h1
      obtain ⟨w,e1,rw⟩:=l.at e
      exact zkc value slice pins s σ H _ _ v u Q I rx ry (.inl ⟨p,xs,k,w,rfl,rfl,.of hx,e1,q w H φ .rfl rs rw⟩) hs
    · cases e
  | str t =>
    simp only [idxV] at e
    split at e
    · rename_i hl
      cases e1:idxI t.cps.toList i with
      | none=>rw [e1] at e; cases e
      | some c =>
        rw [e1] at e
        cases e
        obtain ⟨k,rfl,e1⟩:=zfN e1
        simp only [RepV] at ra ri
        subst ra ri
        exact zkc value slice pins s σ H _ _ v u Q I rx ry (.inr (.inr ⟨t,k,c,rfl,rfl,by rw [<- zaT]; exact hl,e1,q _ H φ .rfl rs (by simp only [RepV])⟩)) hs
    · cases e
  | _=>cases e
theorem zk (ha:PE X a (tE S X ca)) (hb:PE X b (tE S X cb)) (hs:PlainIx b:=by exact fun _ _=>rfl):PE X (.Subscript a b pos) (tE S X (.idx ca cb)) :=
  (zrZ zpi ha hb hs).imp fun σ H Q ⟨B,φ,st,ρ,rs,re,h⟩=>by
    simp only [ev] at h
    refine tE.bind rs re h fun x H1 v st1 φ1 s1 rs1 re1 rv h1=>tE.bind rs1 re1 h1 fun y H2 w st2 φ2 s2 rs2 re2 rw h2=>?_
    obtain ⟨z,e,q⟩:=zdh h2 rs2
    exact ⟨B,φ2,st2,v,w,z,rs2,rv.step s2,rw,e,q⟩
theorem RepL.cut {vs:List PV} {xs:List V} (lo hi:Option Int) (l:RepL K cl B φ H vs xs):RepL K cl B φ H (IC.cut vs lo hi) (cutV xs lo hi):=by
  have e1:∀ n o,loOf n o = HT.sIx n 0 o:=fun n o=>by cases o <;> rfl
  have e2:∀ n o,hiOf n o = HT.sIx n n o:=fun n o=>by cases o <;> rfl
  unfold IC.cut cutV
  rw [l.length,e1,e2]
  exact (l.drop _).take _
noncomputable def tO (S:Se) (X:Cx) (c:Ce):TO:=fun σ H Q=>tE S X c σ H fun x H1=>(x = .non /\ Q none H1) \/ ∃ i,x = .int i /\ Q (some i) H1
theorem zhl:PO X none (tO S X (.cst .non)):=fun pins s σ H Q I h=>by
  refine zpa pins s σ H Q I ?_
  obtain ⟨B,φ,st,ρ,rs,re,h⟩:=h
  simp only [ev] at h
  rcases h.ok rs (x:=V.non) (by simp only [RepV]) with q | ⟨i,z,_⟩
  · exact q.2
  · cases z
theorem zhN (ha:PE X a (tE S X ca)):PO X (some a) (tO S X ca):=by
  intro pins s σ H Q I hw
  rw [evalPart_some]
  refine thn (ha pins s σ H _ I hw) fun u s1 ⟨x,H1,I1,r1,q1⟩=>?_
  rcases q1 with ⟨rfl,q⟩ | ⟨i,rfl,q⟩
  · cases r1
    exact ⟨none,H1,I1,.none,q⟩
  · obtain ⟨t,rfl⟩:=r1
    exact ⟨some i,H1,I1,.int i t,q⟩
noncomputable def rSl (S:Se) (X:Cx):V -> Option Int -> Option Int -> Hp -> VK -> Prop:=fun x lo hi H Q=>∃ B φ st v z,RepS X.K S.cl B φ H st /\ RepV X.K S.cl B φ H v x /\ slcO v lo hi = some z /\
  ∀ z' H' φ',Step φ H φ' H' -> RepS X.K S.cl B φ' H' st -> RepV X.K S.cl B φ' H' z z' -> Q z' H'
theorem zpc:SlR X (rSl S X):=by
  rintro pins s σ H x v vl vu lo hi sl Q I rx hs pl pu ⟨B,φ,st,w,z,rs,rw,e,q⟩
  have e1:∀ n o,loOf n o = HT.sIx n 0 o:=fun n o=>by cases o <;> rfl
  have e2:∀ n o,hiOf n o = HT.sIx n n o:=fun n o=>by cases o <;> rfl
  cases w with
  | tp k vs =>
    simp only [slcO] at e
    split at e
    · cases e
    · rename_i c
      cases e
      simp only [RepV] at rw
      obtain ⟨p,xs,rfl,rt,l⟩:=rw
      refine zrE pins s σ H _ v vl vu lo hi sl Q I rx hs pl pu ⟨p,xs,rfl,rt.sq,?_,fun t ht=>q _ _ φ (.upd ht) (rs.upd ht) (.tup_new ht rs (l.cut lo hi))⟩
      rw [l.length,e1,e2] at c
      exact c
  | lst vs =>
    simp only [slcO] at e
    cases e
    simp only [RepV] at rw
    obtain ⟨p,xs,rfl,rt,l⟩:=rw
    exact zml pins s σ H _ v vl vu lo hi sl Q I rx hs pl pu ⟨p,xs,rfl,rt.sq,fun t ht=>q _ _ φ (.upd ht) (rs.upd ht) (.lst_new ht rs (l.cut lo hi))⟩
  | scr vs =>
    simp only [slcO] at e
    cases e
    simp only [RepV] at rw
    obtain ⟨p,xs,rfl,rt,l⟩:=rw
    exact zml pins s σ H _ v vl vu lo hi sl Q I rx hs pl pu ⟨p,xs,rfl,(by rcases rt with rt | rt; exact .inl rt.1; exact .inr rt),fun t ht=>q _ _ φ (.upd ht) (rs.upd ht) (.lst_new ht rs (l.cut lo hi))⟩
  | _=>cases e
theorem zkl {lo hi:Option Expr} (ha:PE X a (tE S X ca)) (hl:PO X lo (tO S X cb)) (hh:PO X hi (tO S X cc)):PE X (.Subscript a (.Slice lo hi none p2) pos) (tE S X (.slc ca cb cc)) :=
  (znQ zpc ha hl hh).imp fun σ H Q ⟨B,φ,st,ρ,rs,re,h⟩=>by
    simp only [ev] at h
    have oi:∀ {v:PV} {x:V} {o:Option Int} {B φ H},RepV X.K S.cl B φ H v x -> optI v = some o -> (x = .non /\ o = none) \/ ∃ i,x = .int i /\ o = some i:=fun {v x o B φ H} r e=>by
      cases v with
      | non=>simp only [RepV] at r; cases e; exact .inl ⟨r,rfl⟩
      | int i=>simp only [RepV] at r; cases e; exact .inr ⟨i,r,rfl⟩
      | _=>cases e
    refine tE.bind rs re h fun x H1 v st1 φ1 s1 rs1 re1 rv h1=>tE.bind rs1 re1 h1 fun y H2 w st2 φ2 s2 rs2 re2 rw h2=>?_
    cases eo:optI w with
    | none=>rw [eo] at h2; exact h2.elim
    | some o1 =>
      rw [eo] at h2
      have key:tO S X cc σ H2 fun u H3=>rSl S X x o1 u H3 Q:=by
        refine tE.bind rs2 re2 h2 fun y' H3 w' st3 φ3 s3 rs3 re3 rw' h3=>?_
        obtain ⟨z,e,q⟩:=zdh h3 rs3
        unfold slcV at e
        cases eo':optI w' with
        | none=>rw [eo'] at e; cases e
        | some o2 =>
          rw [eo'] at e
          have fin:rSl S X x o1 o2 H3 Q:=⟨B,φ3,st3,v,z,rs3,(rv.step s2).step s3,e,q⟩
          rcases oi rw' eo' with ⟨rfl,rfl⟩ | ⟨i,rfl,rfl⟩
          · exact .inl ⟨rfl,fin⟩
          · exact .inr ⟨i,rfl,fin⟩
      rcases oi rw eo with ⟨rfl,rfl⟩ | ⟨i,rfl,rfl⟩
      · exact .inl ⟨rfl,key⟩
      · exact .inr ⟨i,rfl,key⟩
end
end L2
namespace L2
open PySem PySem.Spec PyProof.Rows IC
section
variable {S:Se} {X:Cx} {σ:St} {B:Addr -> Prop} {φ φ1:Ph} {H H1:Hp} {st:Store} {ρ:IC.Env} {p pos p2:Pos} {a b c d:Expr} {ca cb cc:Ce} {es:List Expr} {ces:Ces} {K:PySem.W.Frag} {cl:Nat -> Addr}
noncomputable def rB (S:Se) (X:Cx) (k:Blt):List V -> Hp -> VK -> Prop:=fun xs H Q=>∃ B φ st vs z,RepS X.K S.cl B φ H st /\ RepL X.K S.cl B φ H vs xs /\ bltV k st vs = some z /\
  ∀ z' H' φ',Step φ H φ' H' -> RepS X.K S.cl B φ' H' st -> RepV X.K S.cl B φ' H' z z' -> Q z' H'
theorem RepL.one {v:PV} {xs:List V} (l:RepL K cl B φ H [v] xs):∃ x,xs = [x] /\ RepV K cl B φ H v x:=by
  simp only [RepL] at l
  obtain ⟨y,ys,rfl,r,rfl⟩:=l
  exact ⟨y,rfl,r⟩
theorem RepL.two {v w:PV} {xs:List V} (l:RepL K cl B φ H [v,w] xs):∃ x y,xs = [x,y] /\ RepV K cl B φ H v x /\ RepV K cl B φ H w y:=by
  simp only [RepL] at l
  obtain ⟨y,ys,rfl,r,z,zs,rfl,r2,rfl⟩:=l
  exact ⟨y,z,rfl,r,r2⟩
theorem zfW {k:Blt} {st:Store} {vs:List PV} {z:PV} (h:bltV k st vs = some z) (h2:∀ x y,bltV k st [x,y] = none):∃ x,vs = [x]:=by
  match vs,h with
  | [x],_=>exact ⟨x,rfl⟩
  | [x,y],h=>rw [h2] at h; cases h
theorem zfS {v:PV} {x:V} {vs:List PV} (rs:RepS K cl B φ H st) (r:RepV K cl B φ H v x) (h:lstOf st v = some vs):∃ a xs,x = .ref a /\ SqL K H a xs /\ RepL K cl B φ H vs xs:=by
  cases v with
  | lst ws =>
    cases h
    simp only [RepV] at r
    obtain ⟨a,xs,rfl,rt,l⟩:=r
    exact ⟨a,xs,rfl,rt.sq,l⟩
  | loc n =>
    simp only [lstOf] at h
    split at h
    · rename_i ws hw
      cases h
      obtain ⟨a,xs,rfl,_,hx,l⟩:=rs.list r hw
      exact ⟨a,xs,rfl,.of hx,l⟩
    · cases h
  | _=>cases h
theorem zqE {v:PV} {x:V} {vs:List PV} (rs:RepS K cl B φ H st) (r:RepV K cl B φ H v x) (h:seqOf st v = some vs):∃ a xs,x = .ref a /\ (SqL K H a xs \/ SqT K H a xs) /\ RepL K cl B φ H vs xs:=by
  cases v with
  | tp k ws =>
    cases h
    simp only [RepV] at r
    obtain ⟨a,xs,rfl,rt,l⟩:=r
    exact ⟨a,xs,rfl,.inr rt.sq,l⟩
  | lst ws =>
    obtain ⟨a,xs,e,q,l⟩:=zfS rs r (vs:=vs) h
    exact ⟨a,xs,e,.inl q,l⟩
  | loc n =>
    obtain ⟨a,xs,e,q,l⟩:=zfS rs r (vs:=vs) h
    exact ⟨a,xs,e,.inl q,l⟩
  | _=>cases h
theorem zaB:CallR X (.builtin "len") (rB S X .len):=by
  rintro pins s σ H xs us Q I r ⟨B,φ,st,vs,z,rs,l,e,q⟩
  obtain ⟨v,rfl⟩:=zfW e fun _ _=>rfl
  obtain ⟨x,rfl,rv⟩:=l.one
  simp only [bltV,lenV] at e
  split at e
  · rename_i t
    split at e
    · rename_i c
      cases e
      simp only [RepV] at rv
      subst rv
      exact zi5 pins s σ H _ us Q I r ⟨t,rfl,by rw [<- zaT]; exact c,q _ H φ .rfl rs (by simp only [RepV])⟩
    · cases e
  · cases e1:seqOf st v with
    | none=>rw [e1] at e; cases e
    | some ws =>
      rw [e1] at e
      cases e
      obtain ⟨a,ys,rfl,h,l⟩:=zqE rs rv e1
      refine zh9 pins s σ H _ us Q I r ⟨a,ys,rfl,?_,q _ H φ .rfl rs (by simp only [RepV]; rw [l.length])⟩
      exact h
theorem zkp:CallR X (.type "int") (rB S X .int):=by
  rintro pins s σ H xs us Q I r ⟨B,φ,st,vs,z,rs,l,e,q⟩
  obtain ⟨v,rfl⟩:=zfW e fun _ _=>rfl
  obtain ⟨x,rfl,rv⟩:=l.one
  simp only [bltV] at e
  cases v with
  | int i =>
    cases e
    simp only [RepV] at rv
    subst rv
    exact ziR pins s σ H _ us Q I r (.inl ⟨i,rfl,q _ H φ .rfl rs (by simp only [RepV])⟩)
  | bl k =>
    cases e
    simp only [RepV] at rv
    subst rv
    exact ziR pins s σ H _ us Q I r (.inr ⟨k,rfl,q _ H φ .rfl rs (by simp only [RepV,bi])⟩)
  | _=>cases e
theorem zrs:CallR X (.builtin "abs") (rB S X .abs):=by
  rintro pins s σ H xs us Q I r ⟨B,φ,st,vs,z,rs,l,e,q⟩
  obtain ⟨v,rfl⟩:=zfW e fun _ _=>rfl
  obtain ⟨x,rfl,rv⟩:=l.one
  simp only [bltV] at e
  cases v with
  | int i =>
    cases e
    simp only [RepV] at rv
    subst rv
    exact znY pins s σ H _ us Q I r ⟨i,rfl,q _ H φ .rfl rs (by simp only [RepV])⟩
  | _=>cases e
theorem zo6 {k:Blt} {st:Store} {vs:List PV} {z:PV} (h:bltV k st vs = some z) (h2:∀ x,bltV k st [x] = none):∃ x y,vs = [x,y]:=by
  match vs,h with
  | [x,y],_=>exact ⟨x,y,rfl⟩
  | [x],h=>rw [h2] at h; cases h
theorem zkv (hc:X.calm = true):CallR X (.builtin "min") (rB S X .min):=by
  rintro pins s σ H xs us Q I r ⟨B,φ,st,vs,z,rs,l,e,q⟩
  obtain ⟨v,w,rfl⟩:=zo6 e fun _=>rfl
  obtain ⟨x,y,rfl,rv,rw⟩:=l.two
  simp only [bltV,minV] at e
  split at e
  · cases e
    simp only [RepV] at rv rw
    subst rv rw
    exact zmw hc pins s σ H _ us Q I r ⟨_,_,rfl,q _ H φ .rfl rs (by simp only [RepV])⟩
  · cases e
theorem zoH:∀ {vs:List PV} {m:Int},maxI vs = some m -> ∃ ns:List Int,vs = ns.map .int /\ m ∈ ns /\ ∀ a ∈ ns,a <= m
  | [],m,h=>by cases h
  | [.int i],m,h=>by cases h; exact ⟨[i],rfl,by simp,by simp⟩
  | .int i :: w :: r,m,h=>by
    simp only [maxI] at h
    split at h
    · rename_i c e
      cases h
      obtain ⟨ns,e1,e2,e3⟩:=zoH e
      refine ⟨i :: ns,by rw [e1]; rfl,?_,fun a ha=>?_⟩
      · split
        · exact List.mem_cons_of_mem _ e2
        · exact List.mem_cons_self
      · rcases List.mem_cons.mp ha with rfl | ha
        · split <;> omega
        · have:=e3 a ha
          split <;> omega
    · cases h
  | .non :: r,m,h=>by cases r <;> cases h
  | .bl _ :: r,m,h=>by cases r <;> cases h
  | .str _ :: r,m,h=>by cases r <;> cases h
  | .tp _ _ :: r,m,h=>by cases r <;> cases h
  | .lst _ :: r,m,h=>by cases r <;> cases h
  | .loc _ :: r,m,h=>by cases r <;> cases h
  | .exn _ :: r,m,h=>by cases r <;> cases h
  | .scr _ :: r,m,h=>by cases r <;> cases h
theorem RepL.ints:∀ {ns:List Int} {xs:List V},RepL K cl B φ H (ns.map .int) xs -> xs = ns.map V.int
  | [],xs,h=>by simpa only [List.map_nil,RepL] using h
  | n :: ns,xs,h=>by
    simp only [List.map_cons,RepL] at h
    obtain ⟨y,ys,rfl,r,l⟩:=h
    simp only [RepV] at r
    rw [r,RepL.ints l]
    rfl
theorem RepL.bls:∀ {ns:List Bool} {xs:List V},RepL K cl B φ H (ns.map .bl) xs -> xs = ns.map V.bl
  | [],xs,h=>by simpa only [List.map_nil,RepL] using h
  | n :: ns,xs,h=>by
    simp only [List.map_cons,RepL] at h
    obtain ⟨y,ys,rfl,r,l⟩:=h
    simp only [RepV] at r
    rw [r,RepL.bls l]
    rfl
theorem zp5 {v w z:PV} (e:maxV v w = some z):∃ i j,v = .int i /\ w = .int j /\ z = .int (if i < j then j else i):=by
  unfold maxV at e
  split at e
  · exact ⟨_,_,rfl,rfl,(Option.some.inj e).symm⟩
  · cases e
theorem zmm (hc:X.calm = true):CallR X (.builtin "max") (rB S X .max):=by
  rintro pins s σ H xs us Q I r ⟨B,φ,st,vs,z,rs,l,e,q⟩
  rcases vs with _ | ⟨v,_ | ⟨w,_ | ⟨u',t⟩⟩⟩
  · simp [bltV] at e
  · obtain ⟨x,rfl,rv⟩:=l.one
    simp only [bltV] at e
    cases e1:lstOf st v with
    | none=>rw [e1] at e; cases e
    | some ws =>
      rw [e1] at e
      simp only [Option.bind_some] at e
      cases e2:maxI ws with
      | none=>rw [e2] at e; cases e
      | some m =>
        rw [e2] at e
        obtain rfl:=Option.some.inj e
        obtain ⟨ns,rfl,hm,hb⟩:=zoH e2
        obtain ⟨a,ys,rfl,h,l⟩:=zfS rs rv e1
        rw [l.ints] at h
        refine zlN hc pins s σ H _ us Q I r ⟨a,ns,rfl,h,List.length_pos_of_mem hm,fun M h1 h2=>?_⟩
        have:M = m:=by
          have:=hb M h1
          have:=h2 m hm
          omega
        subst this
        exact q _ H φ .rfl rs (by simp only [RepV])
  · obtain ⟨x,y,rfl,rv,rw⟩:=l.two
    have e:maxV v w = some z:=e
    obtain ⟨i,j,rfl,rfl,rfl⟩:=zp5 e
    simp only [RepV] at rv rw
    subst rv rw
    exact znh hc pins s σ H _ us Q I r ⟨i,j,rfl,q (.int (if i < j then j else i)) H φ .rfl rs (by simp only [RepV])⟩
  · simp [bltV] at e
theorem zfO:CallR X (.type "tuple") (rB S X .tuple):=by
  rintro pins s σ H xs us Q I r ⟨B,φ,st,vs,z,rs,l,e,q⟩
  obtain ⟨v,rfl⟩:=zfW e fun _ _=>rfl
  obtain ⟨x,rfl,rv⟩:=l.one
  simp only [bltV,tupV] at e
  split at e
  · cases e
    simp only [RepV] at rv
    obtain ⟨a,ys,rfl,rt,l⟩:=rv
    exact zeN pins s σ H _ us Q I r ⟨a,ys,rfl,.inr ⟨rt.sq,q _ H φ .rfl rs (by simp only [RepV]; exact ⟨a,ys,rfl,rt,l⟩)⟩⟩
  · cases e1:lstOf st v with
    | none=>rw [e1] at e; cases e
    | some ws =>
      rw [e1] at e
      cases e
      obtain ⟨a,ys,rfl,h,l⟩:=zfS rs rv e1
      exact zeN pins s σ H _ us Q I r ⟨a,ys,rfl,.inl ⟨h,fun t ht=>q _ _ φ (.upd ht) (rs.upd ht) (.tup_new ht rs l)⟩⟩
theorem zoP:∀ {vs:List PV} {m:Bool},IC.allB vs = some m -> ∃ ns:List Bool,vs = ns.map .bl /\ m = ns.all id
  | [],m,h=>by cases h; exact ⟨[],rfl,rfl⟩
  | .bl i :: r,m,h=>by
    simp only [IC.allB] at h
    split at h
    · rename_i c e
      cases h
      obtain ⟨ns,e1,e2⟩:=zoP e
      exact ⟨i :: ns,by rw [e1]; rfl,by rw [e2]; rfl⟩
    · cases h
  | .non :: r,m,h=>by cases h
  | .int _ :: r,m,h=>by cases h
  | .str _ :: r,m,h=>by cases h
  | .tp _ _ :: r,m,h=>by cases h
  | .lst _ :: r,m,h=>by cases h
  | .loc _ :: r,m,h=>by cases h
  | .exn _ :: r,m,h=>by cases h
  | .scr _ :: r,m,h=>by cases h
theorem zik (hc:X.calm = true):CallR X (.builtin "all") (rB S X .all):=by
  rintro pins s σ H xs us Q I r ⟨B,φ,st,vs,z,rs,l,e,q⟩
  obtain ⟨v,rfl⟩:=zfW e fun _ _=>rfl
  obtain ⟨x,rfl,rv⟩:=l.one
  simp only [bltV] at e
  cases e1:lstOf st v with
  | none=>rw [e1] at e; cases e
  | some ws =>
    rw [e1] at e
    simp only [Option.bind_some] at e
    cases e2:IC.allB ws with
    | none=>rw [e2] at e; cases e
    | some m =>
      rw [e2] at e
      cases e
      obtain ⟨ns,rfl,rfl⟩:=zoP e2
      obtain ⟨a,ys,rfl,h,l⟩:=zfS rs rv e1
      rw [l.bls] at h
      exact znZ hc pins s σ H _ us Q I r ⟨a,ns,rfl,h,q _ H φ .rfl rs (by simp only [RepV])⟩
variable {x:Str} {id T:String} {k:Blt}
theorem zP (hc:CallR X (.builtin id) (rB S X k)) (hg:Gl X x) (hm:X.mg x = none) (hv:bootBuiltins x = some (.builtin id)) (ha:PA X (a :: es) (tAs S X ces)) (hn:x ≠ "__name__":=by decide) (hdb:(x == ("__debug__":Str)) = false:=by decide)
    (he:starEach (a :: es) X.env = (false,eval a X.env) :: starEach es X.env:=by rfl) (hpl:(backTo pos (starEach es X.env)).any (·.1) = false:=by rfl):PE X (.Call (.Name x p) (a :: es) [] pos) (tE S X (.blt k ces)) :=
  (zkj hc hg hm hv ha hn hdb he hpl).imp fun σ H Q ⟨B,φ,st,ρ,rs,re,h⟩=>by
    simp only [ev] at h
    refine tAs.bind rs re h fun xs H1 vs st1 φ1 s1 rs1 re1 rv h1=>?_
    obtain ⟨z,e,q⟩:=zdh h1 rs1
    exact ⟨B,φ1,st1,vs,z,rs1,rv,e,q⟩
theorem zc3 (hc:CallR X (.type T) (rB S X k)) (hg:Gl X x) (hm:X.mg x = none) (hv:bootBuiltins x = some (.type T)) (ha:PA X (a :: es) (tAs S X ces)) (hn:x ≠ "__name__":=by decide) (hdb:(x == ("__debug__":Str)) = false:=by decide)
    (he:starEach (a :: es) X.env = (false,eval a X.env) :: starEach es X.env:=by rfl) (hpl:(backTo pos (starEach es X.env)).any (·.1) = false:=by rfl):PE X (.Call (.Name x p) (a :: es) [] pos) (tE S X (.blt k ces)) :=
  (zmX hc hg hm hv ha hn hdb he hpl).imp fun σ H Q ⟨B,φ,st,ρ,rs,re,h⟩=>by
    simp only [ev] at h
    refine tAs.bind rs re h fun xs H1 vs st1 φ1 s1 rs1 re1 rv h1=>?_
    obtain ⟨z,e,q⟩:=zdh h1 rs1
    exact ⟨B,φ1,st1,vs,z,rs1,rv,e,q⟩
end
end L2
namespace L2
open PySem PySem.Spec PyProof.Rows IC
section
variable {S:Se} {X:Cx} {σ:St} {B:Addr -> Prop} {φ φ1:Ph} {H H1:Hp} {st:Store} {ρ:IC.Env} {p pos p2 apos:Pos} {a b c d:Expr} {ca cb cc:Ce} {es:List Expr} {ces:Ces} {K:PySem.W.Frag} {cl:Nat -> Addr}
theorem Step.put {l:Addr} {u:HO} (hl:some l ∈ φ):Step φ H φ (L2.upd H l u) :=
  ⟨fun b o n e=>by rw [zJ (show b ≠ l from fun z=>n (by rw [z]; exact hl))]; exact e,Nat.le_refl _,fun _ _ _ e=>e,fun _ h=>.inl h⟩
theorem RepS.put {n:Nat} {l:Addr} {u:HO} {o:Ob} (rs:RepS K cl B φ H st) (hn:φ[n]? = some (some l)) (ho:RepO K cl B φ (L2.upd H l u) o l):RepS K cl B φ (L2.upd H l u) (st.set n o):=by
  have hm:some l ∈ φ:=List.mem_of_getElem? hn
  have s:Step φ H φ (L2.upd H l u):=.put hm
  have hlt:n < st.length:=by rw [<- rs.len]; exact (List.getElem?_eq_some_iff.mp hn).1
  refine ⟨by rw [List.length_set]; exact rs.len,rs.inj,fun m a e=>?_,fun m o' e ho'=>?_,rs.nb,fun a h=>?_⟩
  · by_cases hmn:m = n
    · subst hmn
      rw [hn] at e; cases e
      exact ⟨o,by rw [List.getElem?_set_self hlt],ho⟩
    · obtain ⟨o',q,r⟩:=rs.obj m a e
      refine ⟨o',by rw [List.getElem?_set_ne (Ne.symm hmn)]; exact q,r.step s ?_⟩
      rw [zJ]
      rintro rfl
      exact hmn (rs.inj m n a e hn)
  · by_cases hmn:m = n
    · subst hmn
      exact ⟨l,hn⟩
    · rw [List.getElem?_set_ne (Ne.symm hmn)] at e
      exact rs.liv m o' e ho'
  · obtain ⟨w,e⟩:=rs.dom a h
    by_cases z:a = l
    · subst z; exact ⟨u,zab⟩
    · exact ⟨w,by rw [zJ z]; exact e⟩
theorem million:1000000 <= sizeLine:=by rw [sizeLine_eq]; decide
theorem zjz {m:Mth} {v:PV} {st:Store} {α β:Type} {Rel:Ph -> Hp -> α -> β -> Prop} {k:Bool -> R α} {Q:β -> Hp -> Prop} (h:Run S X σ B φ H Rel (onO (mthOk m st v) k) Q):∃ b,mthOk m st v = some b /\ Run S X σ B φ H Rel (k b) Q:=by
  cases e:mthOk m st v with
  | none=>rw [e] at h; exact h.elim
  | some z=>rw [e] at h; exact ⟨z,rfl,h⟩
theorem zdq (ha:PE X a (tE S X ca)) (hb:PE X b (tE S X cb)) (hs:starEach [b] X.env = [(false,eval b X.env)]:=by rfl) (hbase:attributeBase a "append" X.env (eval a X.env) = eval a X.env:=by rfl) (hline:(apos.endLine == pos.line) = true:=by rfl)
    (hfew:((backTo pos (starEach [b] X.env)).all (fun x=>!x.1) && (backToKw pos (keywordEach [] X.env)).all (fun x=>x.1.isSome) && decide (([b]:List Expr).length + ([]:List Keyword).length + (if ([]:List Keyword).isEmpty then 0 else 1) < 30)) = true:=by rfl) :
    PE X (.Call (.Attribute a "append" apos) [b] [] pos) (tE S X (.mth .append ca (.cons cb .nil))) :=
  (zrn PySem.F.plainAttrs_list PySem.F.slot_list_append PySem.F.type_list_append ziX ha (za (S:=S) hb zd hs) hbase hfew hline hs rfl).imp fun σ H Q ⟨B,φ,st,ρ,rs,re,h⟩=>by
    simp only [ev] at h
    refine tE.bind rs re h fun x H1 v st1 φ1 s1 rs1 re1 rv h1=>?_
    obtain ⟨_,e1,h1⟩:=zjz h1
    have t1:∃ ws,lstOf st1 v = some ws:=by
      simp only [mthOk] at e1
      cases q:lstOf st1 v with
      | none=>rw [q] at e1; cases e1
      | some ws=>exact ⟨ws,rfl⟩
    obtain ⟨ws,t1⟩:=t1
    obtain ⟨l,xs,rfl,hl,_⟩:=zfS rs1 rv t1
    refine ⟨.inl ⟨rfl,xs,hl⟩,tAs.bind rs1 re1 h1 fun ys H2 vs st2 φ2 s2 rs2 re2 rvs h2=>?_⟩
    have rv2:=rv.step s2
    rcases vs with _ | ⟨w,_ | ⟨w',t⟩⟩
    · exact h2.elim
    · obtain ⟨y,rfl,rw⟩:=rvs.one
      simp only [mthV,appV] at h2
      split at h2
      · rename_i n
        split at h2
        · rename_i zs hz
          split at h2
          · rename_i c
            obtain ⟨l',xs',e,hn,hx,lr⟩:=rs2.list rv2 hz
            cases e
            refine ⟨l,xs',y,rfl,rfl,hx,by have:=million; have:=lr.length; omega,?_⟩
            exact h2 _ _ φ2 (.put (List.mem_of_getElem? hn)) (rs2.put hn ⟨_,zab,(lr.append (by simp only [RepL]; exact ⟨y,[],rfl,rw,rfl⟩)).step (.put (List.mem_of_getElem? hn))⟩) (by simp only [RepV])
          · exact h2.elim
        · exact h2.elim
      · exact h2.elim
    · exact h2.elim
theorem zlW (ha:PE X a (tE S X ca)) (hb:PE X b (tE S X cb)) (hs:starEach [b] X.env = [(false,eval b X.env)]:=by rfl) (hbase:attributeBase a "extend" X.env (eval a X.env) = eval a X.env:=by rfl) (hline:(apos.endLine == pos.line) = true:=by rfl)
    (hfew:((backTo pos (starEach [b] X.env)).all (fun x=>!x.1) && (backToKw pos (keywordEach [] X.env)).all (fun x=>x.1.isSome) && decide (([b]:List Expr).length + ([]:List Keyword).length + (if ([]:List Keyword).isEmpty then 0 else 1) < 30)) = true:=by rfl) :
    PE X (.Call (.Attribute a "extend" apos) [b] [] pos) (tE S X (.mth .extend ca (.cons cb .nil))) :=
  (zrn PySem.F.plainAttrs_list PySem.F.slot_list_extend PySem.F.type_list_extend zmf ha (za (S:=S) hb zd hs) hbase hfew hline hs rfl).imp fun σ H Q ⟨B,φ,st,ρ,rs,re,h⟩=>by
    simp only [ev] at h
    refine tE.bind rs re h fun x H1 v st1 φ1 s1 rs1 re1 rv h1=>?_
    obtain ⟨_,e1,h1⟩:=zjz h1
    have t1:∃ ws,lstOf st1 v = some ws:=by
      simp only [mthOk] at e1
      cases q:lstOf st1 v with
      | none=>rw [q] at e1; cases e1
      | some ws=>exact ⟨ws,rfl⟩
    obtain ⟨ws,t1⟩:=t1
    obtain ⟨l,xs,rfl,hl,_⟩:=zfS rs1 rv t1
    refine ⟨.inl ⟨rfl,xs,hl⟩,tAs.bind rs1 re1 h1 fun ys H2 vs st2 φ2 s2 rs2 re2 rvs h2=>?_⟩
    have rv2:=rv.step s2
    rcases vs with _ | ⟨w,_ | ⟨w',t⟩⟩
    · exact h2.elim
    · obtain ⟨y,rfl,rw⟩:=rvs.one
      simp only [mthV,extV] at h2
      split at h2
      · rename_i n
        split at h2
        · rename_i zs hz
          split at h2
          · rename_i ks
            split at h2
            · rename_i c
              obtain ⟨l',xs',e,hn,hx,lr⟩:=rs2.list rv2 hz
              cases e
              simp only [RepV] at rw
              obtain ⟨b',ys',rfl,rl,lr2⟩:=rw
              refine ⟨l,b',xs',ys',rfl,rfl,hx,rl.1,by have:=million; have:=lr.length; have:=lr2.length; omega,?_⟩
              exact h2 _ _ φ2 (.put (List.mem_of_getElem? hn)) (rs2.put hn ⟨_,zab,(lr.append lr2).step (.put (List.mem_of_getElem? hn))⟩) (by simp only [RepV])
            · exact h2.elim
          · exact h2.elim
        · exact h2.elim
      · exact h2.elim
    · exact h2.elim
theorem zqk (ha:PE X a (tE S X ca)):PE X a (tE S X (.frz ca)) :=
  ha.imp fun σ H Q ⟨B,φ,st,ρ,rs,re,h⟩=>by
    simp only [ev] at h
    refine tE.bind rs re h fun x H1 v st1 φ1 s1 rs1 re1 rv h1=>?_
    unfold frzV at h1
    split at h1
    · rename_i n
      split at h1
      · rename_i vs hv
        obtain ⟨l,xs,rfl,hn,hx,lr⟩:=rs1.list rv hv
        have hm:some l ∈ φ1:=List.mem_of_getElem? hn
        have hlt:n < φ1.length:=(List.getElem?_eq_some_iff.mp hn).1
        have nl:some l ∉ φ1.set n none:=fun z=>by
          obtain ⟨m,e⟩:=List.mem_iff_getElem?.mp z
          by_cases hmn:m = n
          · subst hmn
            rw [List.getElem?_set_self hlt] at e; cases e
          · rw [List.getElem?_set_ne (Ne.symm hmn)] at e
            exact hmn (rs1.inj m n l e hn)
        have sb:∀ b,some b ∈ φ1.set n none -> some b ∈ φ1:=fun b z=>by
          obtain ⟨m,e⟩:=List.mem_iff_getElem?.mp z
          by_cases hmn:m = n
          · subst hmn
            rw [List.getElem?_set_self hlt] at e; cases e
          · rw [List.getElem?_set_ne (Ne.symm hmn)] at e
            exact List.mem_of_getElem? e
        have s:Step φ1 H1 (φ1.set n none) H1:=⟨fun _ _ _ e=>e,by simp,fun m a hm' e=>by
          by_cases hmn:m = n
          · subst hmn
            rw [List.getElem?_set_self hlt] at e; cases e
          · rw [List.getElem?_set_ne (Ne.symm hmn)] at e
            exact e,fun b z=>.inl (sb b z)⟩
        refine h1 _ H1 (φ1.set n none) s ⟨by simp [rs1.len],fun m k a e1 e2=>?_,fun m a e=>?_,fun m o e ho=>?_,fun a z=>rs1.nb a (sb a z),rs1.dom⟩ ?_
        · by_cases h1':m = n
          · subst h1'; rw [List.getElem?_set_self hlt] at e1; cases e1
          · by_cases h2':k = n
            · subst h2'; rw [List.getElem?_set_self hlt] at e2; cases e2
            · rw [List.getElem?_set_ne (Ne.symm h1')] at e1
              rw [List.getElem?_set_ne (Ne.symm h2')] at e2
              exact rs1.inj m k a e1 e2
        · by_cases hmn:m = n
          · subst hmn; rw [List.getElem?_set_self hlt] at e; cases e
          · rw [List.getElem?_set_ne (Ne.symm hmn)] at e
            obtain ⟨o,q,r⟩:=rs1.obj m a e
            exact ⟨o,by rw [List.getElem?_set_ne (Ne.symm hmn)]; exact q,r.step s rfl⟩
        · by_cases hmn:m = n
          · subst hmn
            rw [List.getElem?_set_self (by rw [<- rs1.len]; exact hlt)] at e; cases e
            exact absurd rfl ho
          · rw [List.getElem?_set_ne (Ne.symm hmn)] at e ⊢
            exact rs1.liv m o e ho
        · simp only [RepV]
          exact ⟨l,xs,rfl,⟨hx,rs1.nb l hm,nl⟩,lr.step s⟩
      · exact h1.elim
    · exact h1.ok rs1 rv
end
end L2
namespace L2
open PySem PySem.Spec PyProof.Rows IC
section
variable (S:Se) (X:Cx)
def RunF (B:Addr -> Prop) (φ:Ph) (H:Hp) (f:Fl) (D:Ends):Prop :=
  match f with
  | .nx ρ' st'=>∀ σ' H' φ',Step φ H φ' H' -> RepS X.K S.cl B φ' H' st' -> RepE X.K S.cl B φ' H' ρ' σ' -> D.nx σ' H'
  | .rt v st'=>∀ x H' φ',Step φ H φ' H' -> RepS X.K S.cl B φ' H' st' -> RepV X.K S.cl B φ' H' v x -> D.rt x H'
  | .bk ρ' st'=>∀ σ' H' φ',Step φ H φ' H' -> RepS X.K S.cl B φ' H' st' -> RepE X.K S.cl B φ' H' ρ' σ' -> D.bk σ' H'
  | .ct ρ' st'=>∀ σ' H' φ',Step φ H φ' H' -> RepS X.K S.cl B φ' H' st' -> RepE X.K S.cl B φ' H' ρ' σ' -> D.ct σ' H'
  | .exc k ρ' st'=>∀ σ' φ1 H1 e s',Step φ H φ1 H1 -> RepE X.K S.cl B φ1 H1 ρ' σ' -> ExcAt S X σ' B φ1 H1 k st' e s' -> X.xe e s'
  | .bad=>False
noncomputable def tS (c:Cs):TS:=fun D σ H=>∃ B φ st ρ,RepS X.K S.cl B φ H st /\ RepE X.K S.cl B φ H ρ σ /\ RunF S X B φ H (ex S.call ρ st c) D
noncomputable def tSs (c:Css):TS:=fun D σ H=>∃ B φ st ρ,RepS X.K S.cl B φ H st /\ RepE X.K S.cl B φ H ρ σ /\ RunF S X B φ H (exs S.call ρ st c) D
end
section
variable {S:Se} {X:Cx} {σ:St} {B:Addr -> Prop} {φ φ1:Ph} {H H1:Hp} {st:Store} {ρ:IC.Env} {D:Ends} {pos p2 px:Pos} {a b c o:Expr} {ca cb cc:Ce} {s1:Stmt} {ss ss':List Stmt} {c1:Cs} {cs cs':Css}
theorem RunF.on {f:Fl} (s:Step φ H φ1 H1) (h:RunF S X B φ H f D):RunF S X B φ1 H1 f D:=by
  cases f with
  | nx ρ st=>exact fun σ' H' φ' t=>h σ' H' φ' (s.trans t)
  | rt ρ st=>exact fun σ' H' φ' t=>h σ' H' φ' (s.trans t)
  | bk ρ st=>exact fun σ' H' φ' t=>h σ' H' φ' (s.trans t)
  | ct ρ st=>exact fun σ' H' φ' t=>h σ' H' φ' (s.trans t)
  | exc k ρ st=>exact fun σ' φ2 H2 e s' t=>h σ' φ2 H2 e s' (s.trans t)
  | bad=>exact h
theorem tE.fl {k:PV -> Store -> Fl} {P:V -> Hp -> Prop} (rs:RepS X.K S.cl B φ H st) (re:RepE X.K S.cl B φ H ρ σ) (h:RunF S X B φ H ((ev S.call ρ st ca).fl ρ k) D)
    (n:∀ x H1 v st1 φ1,Step φ H φ1 H1 -> RepS X.K S.cl B φ1 H1 st1 -> RepE X.K S.cl B φ1 H1 ρ σ -> RepV X.K S.cl B φ1 H1 v x -> RunF S X B φ1 H1 (k v st1) D -> P x H1):tE S X ca σ H P:=by
  refine ⟨B,φ,st,ρ,rs,re,?_⟩
  cases e:ev S.call ρ st ca with
  | ok v st' =>
    rw [e] at h
    exact fun x H' φ' s rs' rv=>n x H' v st' φ' s rs' (re.step s) rv (h.on s)
  | exc k st' =>
    rw [e] at h
    exact fun e s' x=>h σ φ H e s' .rfl re x
  | bad=>rw [e] at h; exact h
theorem PS.imp {t t':TS} (h:PS X s1 t') (k:∀ D σ H,t D σ H -> t' D σ H):PS X s1 t:=fun pins s σ H D I q=>h pins s σ H D I (k D σ H q)
theorem PSs.imp {t t':TS} (h:PSs X ss t') (k:∀ D σ H,t D σ H -> t' D σ H):PSs X ss t:=fun pins s σ H D I q=>h pins s σ H D I (k D σ H q)
theorem RepE.set {K:PySem.W.Frag} {cl:Nat -> Addr} (r:RepE K cl B φ H ρ σ) (i:Nat) {v:PV} {x:V} (rv:RepV K cl B φ H v x):RepE K cl B φ H (ρ.set i (some v)) (σ.set i (some x)):=by
  refine ⟨by rw [List.length_set,List.length_set]; exact r.len,fun j w e=>?_⟩
  by_cases h:j = i
  · subst h
    by_cases hl:j < ρ.length
    · rw [List.getElem?_set_self hl] at e
      cases e
      exact ⟨x,by rw [List.getElem?_set_self (by rw [<- r.len]; exact hl)],rv⟩
    · rw [List.getElem?_eq_none (by rw [List.length_set]; omega)] at e
      cases e
  · rw [List.getElem?_set_ne (Ne.symm h)] at e ⊢
    exact r.get j w e
theorem ze:PSs X [] (tSs S X .nil):=pss_nil.imp fun D σ H ⟨B,φ,st,ρ,rs,re,h⟩=>by
  simp only [exs] at h
  exact h σ H φ .rfl rs re
theorem zb (h1:PS X s1 (tS S X c1)) (h2:PSs X ss (tSs S X cs)):PSs X (s1 :: ss) (tSs S X (.cons c1 cs)) :=
  (zn2 h1 h2).imp fun D σ H ⟨B,φ,st,ρ,rs,re,h⟩=>by
    simp only [exs] at h
    refine ⟨B,φ,st,ρ,rs,re,?_⟩
    cases e:ex S.call ρ st c1 with
    | nx ρ1 st1 =>
      rw [e] at h
      exact fun σ' H' φ' s rs' re'=>⟨B,φ',st1,ρ1,rs',re',h.on s⟩
    | rt v st1=>rw [e] at h; exact h
    | bk ρ1 st1=>rw [e] at h; exact h
    | ct ρ1 st1=>rw [e] at h; exact h
    | exc k ρ1 st1=>rw [e] at h; exact h
    | bad=>rw [e] at h; exact h
theorem zed (he:PE X a (tE S X ca)) (hs:swapsWith a none pos.line X.env = pure false:=by rfl):PS X (.Expr a pos) (tS S X (.expr ca)) :=
  (zo7 he hs).imp fun D σ H ⟨B,φ,st,ρ,rs,re,h⟩=>by
    simp only [ex] at h
    exact tE.fl rs re h fun x H1 v st1 φ1 s rs1 re1 rv h1=>h1 σ H1 φ1 .rfl rs1 re1
theorem zr (he:PE X a (tE S X ca)):PS X (.Return (some a) pos) (tS S X (.ret ca)) :=
  (zq3 he).imp fun D σ H ⟨B,φ,st,ρ,rs,re,h⟩=>by
    simp only [ex] at h
    exact tE.fl rs re h fun x H1 v st1 φ1 s rs1 re1 rv h1=>h1 x H1 φ1 .rfl rs1 rv
theorem zq {i:Nat} {x:Str} (hN:X.N.Nodup) (hi:X.N[i]? = some x) (hx:Loc X.env.scope x) (he:PE X a (tE S X ca)) (hs:swapsWith a (some (.Name x px)) pos.line X.env = pure false:=by rfl)
    (hf:X.fn x = true \/ X.env.scope.names.lookup x = some .local:=by first | exact .inl rfl | exact .inr rfl | assumption):PS X (.Assign [.Name x px] a pos) (tS S X (.asg (.n i) ca)) :=
  (zra hN hi hx he hs hf).imp fun D σ H ⟨B,φ,st,ρ,rs,re,h⟩=>by
    simp only [ex] at h
    exact tE.fl rs re h fun x H1 v st1 φ1 s rs1 re1 rv h1=>h1 _ H1 φ1 .rfl rs1 (re1.set i rv)
theorem flT (r:R PV) (f:Bool -> Store -> Fl):(r.fl ρ fun x st1=>onF (truV st1 x) fun k=>f k st1) = (truR r).fl ρ f:=by
  cases r with
  | ok v s =>
    simp only [R.fl,truR,R.bind]
    cases truV s v <;> rfl
  | exc c s=>rfl
  | bad=>rfl
theorem tTs.fl {k:Bool -> Store -> Fl} {P:Bool -> Hp -> Prop} (rs:RepS X.K S.cl B φ H st) (re:RepE X.K S.cl B φ H ρ σ) (h:RunF S X B φ H ((truR (ev S.call ρ st ca)).fl ρ k) D)
    (n:∀ b H1 st1 φ1,Step φ H φ1 H1 -> RepS X.K S.cl B φ1 H1 st1 -> RepE X.K S.cl B φ1 H1 ρ σ -> RunF S X B φ1 H1 (k b st1) D -> P b H1):tTs S X ca σ H P:=by
  refine ⟨B,φ,st,ρ,rs,re,?_⟩
  cases e:truR (ev S.call ρ st ca) with
  | ok v st' =>
    rw [e] at h
    exact fun x H' φ' s rs' rv=>by
      subst rv
      exact n v H' st' φ' s rs' (re.step s) (h.on s)
  | exc k st' =>
    rw [e] at h
    exact fun e s' x=>h σ φ H e s' .rfl re x
  | bad=>rw [e] at h; exact h
theorem zG (hc:PT X c (tTs S X cc)) (ha:PSs X ss (tSs S X cs)) (hb:PSs X ss' (tSs S X cs')):PS X (.If c ss ss' pos) (tS S X (.ite cc cs cs')) :=
  (zr0 hc ha hb).imp fun D σ H ⟨B,φ,st,ρ,rs,re,h⟩=>by
    simp only [ex] at h
    rw [flT _ fun k st1=>cond k (exs S.call ρ st1 cs) (exs S.call ρ st1 cs')] at h
    refine tTs.fl rs re h fun k H1 st1 φ1 s rs1 re1 h1=>?_
    cases k with
    | true=>exact ⟨B,φ1,st1,ρ,rs1,re1,h1⟩
    | false=>exact ⟨B,φ1,st1,ρ,rs1,re1,h1⟩
theorem zmO {i:Nat} {x:Str} {op:Operator} {bo:BOp} (hN:X.N.Nodup) (hi:X.N[i]? = some x) (hx:Loc X.env.scope x) (he:PE X a (tE S X ca)) (ho:PIp X op (rT2 S X (augV bo)))
    (hf:X.fn x = true \/ X.env.scope.names.lookup x = some .local:=by first | exact .inl rfl | exact .inr rfl | assumption) (hd:(x == ("__debug__":Str)) = false:=by decide) (hcd:(x == ("__classdict__":Str)) = false:=by decide):PS X (.AugAssign (.Name x px) op a pos) (tS S X (.aug i bo ca)) :=
  (zrA hN hi hx he ho hf).imp fun D σ H ⟨B,φ,st,ρ,rs,re,h⟩=>by
    simp only [ex] at h
    cases q:ρ[i]? with
    | none=>rw [q] at h; exact h.elim
    | some w =>
      cases w with
      | none=>rw [q] at h; exact h.elim
      | some w =>
        rw [q] at h
        obtain ⟨y,hy,rw⟩:=re.get i w q
        refine ⟨y,hy,tE.fl rs re h fun z H1 v st1 φ1 s rs1 re1 rv h1=>?_⟩
        cases e:augV bo w v with
        | none=>rw [e] at h1; exact h1.elim
        | some u =>
          rw [e] at h1
          exact ⟨B,φ1,st1,w,v,u,rs1,rw.step s,rv,e,fun z' H' φ' s' rs' rz=>h1 _ H' φ' s' rs' ((re1.step s').set i rz)⟩
end
end L2
namespace L2
open PySem PySem.Spec PyProof.Rows IC
section
variable (S:Se) (X:Cx)
structure Drw (B:Addr -> Prop) (φ0:Ph) (H0:Hp) (xs:List PV) (J:It):Prop where
  stop:∀ φ H,Step φ0 H0 φ H -> J.stop xs.length H
  go:∀ (i:Nat) φ H,Step φ0 H0 φ H -> i < xs.length -> J.go i H
  yld:∀ (i:Nat) φ H st x H' (B':Addr -> Prop),(∀ y,B' y -> B y \/ H0 y = none) -> Step φ0 H0 φ H -> RepS X.K S.cl B' φ H st -> i < xs.length -> J.yld i H x H' -> ∃ v,xs[i]? = some v /\ RepV X.K S.cl B' φ H' v x /\ ∀ b o,H b = some o -> H' b = some o
noncomputable abbrev RD (B:Addr -> Prop):Ph -> Hp -> List PV -> It -> Prop:=fun φ H=>Drw S X B φ H
noncomputable def tI (c:Cit):TI:=fun σ H R=>∃ B φ st ρ,RepS X.K S.cl B φ H st /\ RepE X.K S.cl B φ H ρ σ /\ Run S X σ B φ H (RD S X B) (evi S.call ρ st c) R
end
section
variable {S:Se} {X:Cx} {σ:St} {B:Addr -> Prop} {φ φ1:Ph} {H H1:Hp} {st:Store} {ρ:IC.Env} {D:Ends} {pos p p2 px:Pos} {a b c o tg l:Expr} {ca cb cc:Ce} {es:List Expr} {ces:Ces} {ss:List Stmt} {cs:Css} {ci:Cit} {ct:Tg}
theorem zN {s1:Stmt}:PS X s1 (tS S X .nope):=fun pins s σ H D I ⟨B,φ,st,ρ,rs,re,h⟩=>by
  simp only [ex] at h
  exact h.elim
theorem PI.imp {t t':TI} (h:PI X tg l t') (k:∀ σ H R,t σ H R -> t' σ H R):PI X tg l t:=fun pins s σ H R I q=>h pins s σ H R I (k σ H R q)
theorem zrd {tl:TE} (hl:PE X l tl):PI X tg l (fun σ H R=>tl σ H fun x H1=>∃ a,x = .ref a /\ (((∃ xs,SqL X.K H1 a xs) /\ R (Itl X.K a) H1) \/ ((∃ xs,SqT X.K H1 a xs) /\ R (Itt X.K a) H1))):=by
  intro pins s σ H R I h
  refine thn (hl pins s σ H _ I h) fun v s1 ⟨x,H1,I1,r1,q1⟩=>?_
  obtain ⟨a,e,q1⟩:=q1
  subst e
  cases r1
  rcases q1 with ⟨⟨xs,hq⟩,q⟩ | ⟨⟨xs,hq⟩,q⟩
  · obtain ⟨its,rv,p,hz⟩:=I1.list hq
    refine wpAny_pyIter_list p.isList ?_
    refine ⟨s1.heap.objs.size,[s1.heap.objs.size],_,_,H1,rfl,I1.kept (t':=s1.toks) fun b o e=>Heap.get?_push_of_some _ e,zl8 a _,⟨_,Heap.get?_push_size _ rfl,rfl,rfl⟩,fun b hb=>?_,q⟩
    have e:b = s1.heap.objs.size:=by simpa using hb
    subst e
    exact I1.fpOk (Nat.le_refl _) (I1.hok.fresh (Nat.le_refl _))
  · obtain ⟨its,rv,p,hz⟩:=I1.tuple hq
    refine wpAny_pyIter_tuple (show s1.heap.IsTuple a its.toArray from p) ?_
    refine ⟨s1.heap.objs.size,[s1.heap.objs.size],_,_,H1,rfl,I1.kept (t':=s1.toks) fun b o e=>Heap.get?_push_of_some _ e,zlr a _,⟨_,Heap.get?_push_size _ rfl,rfl,rfl⟩,fun b hb=>?_,q⟩
    have e:b = s1.heap.objs.size:=by simpa using hb
    subst e
    exact I1.fpOk (Nat.le_refl _) (I1.hok.fresh (Nat.le_refl _))
theorem zpy {k:Bool} {vs:List PV} {xs:List V} {y:Addr} (rt:RTup X.K B φ H k y xs) (l:RepL X.K S.cl B φ H vs xs):Drw S X B φ H vs (Itt X.K y):=by
  have hl:=l.length
  refine ⟨fun φ' H' s=>⟨xs,(rt.step s).sq,by omega⟩,fun i φ' H' s hi=>⟨xs,xs[i]'(by omega),(rt.step s).sq,by simp [show i < xs.length by omega]⟩,fun i φ' H' st x H2 B' hB s rs hi q=>?_⟩
  obtain ⟨rfl,q⟩:=q
  obtain ⟨v,hv⟩:∃ v,vs[i]? = some v:=⟨vs[i],by simp [hi]⟩
  obtain ⟨x',hx',rv⟩:=l.get i hv
  have:=q xs (rt.step s).sq
  rw [this] at hx'
  cases hx'
  exact ⟨v,hv,(rv.moreB hB).step s,fun _ _ e=>e⟩
theorem zpo {vs:List PV} {xs:List V} {y:Addr} (rt:RLst B φ H y xs) (l:RepL X.K S.cl B φ H vs xs):Drw S X B φ H vs (Itl X.K y):=by
  have hl:=l.length
  refine ⟨fun φ' H' s=>⟨xs,(rt.step s).sq,by omega⟩,fun i φ' H' s hi=>⟨xs,xs[i]'(by omega),(rt.step s).sq,by simp [show i < xs.length by omega]⟩,fun i φ' H' st x H2 B' hB s rs hi q=>?_⟩
  obtain ⟨rfl,q⟩:=q
  obtain ⟨v,hv⟩:∃ v,vs[i]? = some v:=⟨vs[i],by simp [hi]⟩
  obtain ⟨x',hx',rv⟩:=l.get i hv
  have:=q xs (rt.step s).sq
  rw [this] at hx'
  cases hx'
  exact ⟨v,hv,(rv.moreB hB).step s,fun _ _ e=>e⟩
theorem zcg (hl:PE X l (tE S X ca)):PI X tg l (tI S X (.seq ca)) :=
  (zrd hl).imp fun σ H R ⟨B,φ,st,ρ,rs,re,h⟩=>by
    simp only [evi] at h
    refine tE.bind rs re h fun x H1 v st1 φ1 s1 rs1 re1 rv h1=>?_
    cases v with
    | tp k vs =>
      simp only [RepV] at rv
      obtain ⟨y,xs,rfl,rt,l⟩:=rv
      exact ⟨y,rfl,.inr ⟨⟨xs,rt.sq⟩,h1.ok rs1 (zpy rt l)⟩⟩
    | lst vs =>
      simp only [RepV] at rv
      obtain ⟨y,xs,rfl,rt,l⟩:=rv
      exact ⟨y,rfl,.inl ⟨⟨xs,rt.sq⟩,h1.ok rs1 (zpo rt l)⟩⟩
    | _=>exact h1.elim
theorem zbz:∀ (n:Nat) (lo d:Int) (i:Nat),(rangeL n lo d)[i]? = if i < n then some (.int (lo + i * d)) else none
  | 0,lo,d,i=>by simp [rangeL]
  | n + 1,lo,d,0=>by simp [rangeL]
  | n + 1,lo,d,i + 1=>by
    simp only [rangeL,List.getElem?_cons_succ]
    rw [zbz n (lo + d) d i]
    by_cases h:i < n
    · rw [if_pos h,if_pos (by omega),Int.natCast_succ,Int.add_mul,Int.one_mul,Int.add_assoc,Int.add_comm d]
    · rw [if_neg h,if_neg (by omega)]
theorem zay:∀ (n:Nat) (lo d:Int),(rangeL n lo d).length = n
  | 0,lo,d=>rfl
  | n + 1,lo,d=>by simp [rangeL,zay n]
theorem zmc {lo:Int} {n:Nat}:Drw S X B φ H (rangeL n lo 1) (Itr lo n):=by
  refine ⟨fun φ' H' s=>by rw [zay]; exact Nat.le_refl _,fun i φ' H' s hi=>by rw [zay] at hi; exact hi,fun i φ' H' st x H2 B' hB s rs hi q=>?_⟩
  rw [zay] at hi
  obtain ⟨rfl,rfl⟩:=q
  refine ⟨.int (lo + i),?_,by simp only [RepV],fun _ _ e=>e⟩
  rw [zbz,if_pos hi,Int.mul_one]
theorem znr {o:Option (List PV)} {st:Store} {Q:It -> Hp -> Prop} (h:Run S X σ B φ H (RD S X B) (toL o st) Q):∃ xs,o = some xs /\ Run S X σ B φ H (RD S X B) (.ok xs st) Q:=by
  cases o with
  | none=>exact h.elim
  | some z=>exact ⟨z,rfl,h⟩
theorem za3 (hg:Gl X "range") (hm:X.mg "range" = none) (ha:PE X a (tE S X ca)) (hs:starEach [a] X.env = [(false,eval a X.env)]:=by rfl):PI X tg (.Call (.Name "range" p) [a] [] pos) (tI S X (.range1 ca)) :=
  (zl3 hg hm (zde ha pa_nil hs) hs).imp fun σ H R ⟨B,φ,st,ρ,rs,re,h⟩=>by
    simp only [evi] at h
    refine tE.bind rs re h fun x H1 v st1 φ1 s1 rs1 re1 rv h1=>?_
    obtain ⟨xs,e,h1⟩:=znr h1
    cases v with
    | int j =>
      simp only [rng1] at e
      split at e
      · cases e
        simp only [RepV] at rv
        subst rv
        exact ⟨j,rfl,by omega,by omega,h1.ok rs1 zmc⟩
      · cases e
    | _=>cases e
theorem zor {x y:PV} {xs:List PV} (h:rngD x y = some xs):∃ i j,x = .int i /\ y = .int j /\ i.natAbs < 1000000000 /\ j.natAbs < 1000000000 /\ xs = rangeL (i - j).toNat i (-1):=by
  unfold rngD at h
  split at h
  · split at h
    · rename_i c
      exact ⟨_,_,rfl,rfl,c.1,c.2,(Option.some.inj h).symm⟩
    · cases h
  · cases h
theorem zgx:∀ (xs:List PV) (k i:Nat),(pairsUp k xs)[i]? = (xs[i]?).map fun x=>.tup [.int ((k + i:Nat):Int),x]
  | [],k,i=>by simp [pairsUp]
  | x :: xs,k,0=>by simp [pairsUp]
  | x :: xs,k,i + 1=>by
    simp only [pairsUp,List.getElem?_cons_succ]
    rw [zgx xs (k + 1) i]
    have:k + 1 + i = k + (i + 1):=by omega
    rw [this]
theorem zf1:∀ (xs:List PV) (k:Nat),(pairsUp k xs).length = xs.length
  | [],k=>rfl
  | x :: xs,k=>by simp [pairsUp,zf1 xs]
theorem znA {k:Bool} {vs:List PV} {xs:List V} {y:Addr} (rt:RTup X.K B φ H k y xs) (l:RepL X.K S.cl B φ H vs xs):Drw S X B φ H (pairsUp 0 vs) (Ite X.K y):=by
  have hl:=l.length
  have hp:=zf1 vs 0
  refine ⟨fun φ' H' s=>⟨xs,(rt.step s).sq,by omega⟩,fun i φ' H' s hi=>⟨xs,xs[i]'(by omega),(rt.step s).sq,by simp [show i < xs.length by omega]⟩,fun i φ' H' st x H2 B' hB s rs hi q=>?_⟩
  obtain ⟨T,hT,rfl,q⟩:=q
  obtain ⟨v,hv⟩:∃ v,vs[i]? = some v:=⟨vs[i]'(by omega),by simp [show i < vs.length by omega]⟩
  obtain ⟨x',hx',rv⟩:=l.get i hv
  have e:=q xs x' (rt.step s).sq hx'
  subst e
  refine ⟨.tup [.int i,v],?_,.tup_new hT rs ?_,fun b o e=>by rw [zJ (zR e hT)]; exact e⟩
  · rw [zgx,hv]
    simp
  · simp only [RepL,RepV]
    exact ⟨_,_,rfl,rfl,x',[],rfl,(rv.moreB hB).step s,rfl⟩
theorem zjI {es:List Expr} {kk:Nat} {tp:Pos} (hg:Gl X "enumerate") (hm:X.mg "enumerate" = none) (ha:PE X a (tE S X ca)) (hs:starEach [a] X.env = [(false,eval a X.env)]:=by rfl) :
    PI X (.Tuple es kk tp) (.Call (.Name "enumerate" p) [a] [] pos) (tI S X (.enum ca)) :=
  (znN hg hm (zde ha pa_nil hs) hs).imp fun σ H R ⟨B,φ,st,ρ,rs,re,h⟩=>by
    simp only [evi] at h
    refine tE.bind rs re h fun x H1 v st1 φ1 s1 rs1 re1 rv h1=>?_
    cases v with
    | tp k vs =>
      simp only [RepV] at rv
      obtain ⟨y,xs,rfl,rt,l⟩:=rv
      exact ⟨y,rfl,⟨xs,rt.sq⟩,h1.ok rs1 (znA rt l)⟩
    | _=>exact h1.elim
noncomputable def tG (S:Se) (X:Cx) (t:Tg):TG:=fun v σ H Q=>∃ B φ st ρ w ρ',RepS X.K S.cl B φ H st /\ RepE X.K S.cl B φ H ρ σ /\ RepV X.K S.cl B φ H w v /\ bindT t w ρ = some ρ' /\ ∀ σ',RepE X.K S.cl B φ H ρ' σ' -> Q σ' H
theorem PG.imp {t t':TG} (h:PG X tg t') (k:∀ v σ H Q,t v σ H Q -> t' v σ H Q):PG X tg t:=fun pins s σ H v u Q I rv q=>h pins s σ H v u Q I rv (k v σ H Q q)
theorem zaa {i:Nat} {x:Str} (hN:X.N.Nodup) (hi:X.N[i]? = some x) (hx:Loc X.env.scope x) (hf:X.fn x = true \/ X.env.scope.names.lookup x = some .local:=by first | exact .inl rfl | exact .inr rfl | assumption):PG X (.Name x pos) (tG S X (.n i)) :=
  (zmj hN hi hx hf).imp fun v σ H Q ⟨B,φ,st,ρ,w,ρ',rs,re,rv,e,q⟩=>by
    cases e
    exact q _ (re.set i rv)
noncomputable def gNs (l:List Nat):TGs:=fun vs σ H Q=>vs.length = l.length /\ Q ((l.zip vs).foldl (fun σ p=>σ.set p.1 (some p.2)) σ) H
theorem PGs.imp {es:List Expr} {t t':TGs} (h:PGs X es t') (k:∀ v σ H Q,t v σ H Q -> t' v σ H Q):PGs X es t:=fun pins s σ H vs us Q I rv q=>h pins s σ H vs us Q I rv (k vs σ H Q q)
theorem zgC:PGs X [] (gNs []):=pgs_nil.imp fun vs σ H Q ⟨h,q⟩=>by
  cases vs with
  | nil=>exact ⟨rfl,q⟩
  | cons _ _=>cases h
theorem zbD {es:List Expr} {l:List Nat} {i:Nat} {x:Str} (hN:X.N.Nodup) (hi:X.N[i]? = some x) (hx:Loc X.env.scope x) (h2:PGs X es (gNs l)) (hf:X.fn x = true \/ X.env.scope.names.lookup x = some .local:=by first | exact .inl rfl | exact .inr rfl | assumption):PGs X (.Name x pos :: es) (gNs (i :: l)) :=
  (znD (zmj hN hi hx hf) h2).imp fun vs σ H Q ⟨h,q⟩=>by
    cases vs with
    | nil=>cases h
    | cons v vs=>exact ⟨v,vs,rfl,by simpa using h,q⟩
theorem RepE.sets {K:PySem.W.Frag} {cl:Nat -> Addr}:∀ (l:List Nat) {vs:List PV} {xs:List V} {ρ:IC.Env} {σ:St},RepE K cl B φ H ρ σ -> RepL K cl B φ H vs xs ->
    RepE K cl B φ H ((l.zip vs).foldl (fun ρ p=>ρ.set p.1 (some p.2)) ρ) ((l.zip xs).foldl (fun σ p=>σ.set p.1 (some p.2)) σ)
  | [],vs,xs,ρ,σ,re,l=>by simpa using re
  | i :: is,[],xs,ρ,σ,re,l=>by
    simp only [RepL] at l
    subst l
    simpa using re
  | i :: is,v :: vs,xs,ρ,σ,re,l=>by
    simp only [RepL] at l
    obtain ⟨y,ys,rfl,r,l⟩:=l
    simp only [List.zip_cons_cons,List.foldl_cons]
    exact RepE.sets is (re.set i r) l
theorem zig {es:List Expr} {l:List Nat} {k:Nat} (hc:X.calm = true) (h:PGs X es (gNs l)) (hn:(assignEach es X.env).length = l.length:=by rfl) (hst:(assignEach es X.env).findIdx? (·.1) = none:=by rfl):PG X (.Tuple es k pos) (tG S X (.t l)) :=
  (zqv hc h hn hst).imp fun v σ H Q ⟨B,φ,st,ρ,w,ρ',rs,re,rv,e,q⟩=>by
    cases w with
    | tp kk vs =>
      simp only [bindT] at e
      split at e
      · rename_i c
        cases e
        simp only [RepV] at rv
        obtain ⟨y,xs,rfl,rt,lr⟩:=rv
        have hl:=lr.length
        exact ⟨y,xs,rfl,rt.sq,by omega,by omega,q _ (RepE.sets l re lr)⟩
      · cases e
    | _=>cases e
theorem zmz {es:List Expr} {l:List Nat} {k:Nat} (he:PE X a (tE S X ca)) (hg:PG X (.Tuple es k p2) (tG S X (.t l))) (hs:swapsWithSole [.Tuple es k p2] a pos.line X.env = pure false:=by rfl) (hw:swappedStores [.Tuple es k p2] a X.env = pure none:=by rfl) :
    PS X (.Assign [.Tuple es k p2] a pos) (tS S X (.asg (.t l) ca)) :=
  (zoW he hg hs hw).imp fun D σ H ⟨B,φ,st,ρ,rs,re,h⟩=>by
    simp only [ex] at h
    refine tE.fl rs re h fun x H1 v st1 φ1 s rs1 re1 rv h1=>?_
    cases e:bindT (.t l) v ρ with
    | none=>rw [e] at h1; exact h1.elim
    | some ρ' =>
      rw [e] at h1
      exact ⟨B,φ1,st1,ρ,v,ρ',rs1,re1,rv,e,fun σ' re'=>h1 σ' H1 φ1 .rfl rs1 re'⟩
theorem tI.fl {k:List PV -> Store -> Fl} {P:It -> Hp -> Prop} (rs:RepS X.K S.cl B φ H st) (re:RepE X.K S.cl B φ H ρ σ) (h:RunF S X B φ H ((evi S.call ρ st ci).fl ρ k) D)
    (n:∀ x H1 v st1 φ1,Step φ H φ1 H1 -> RepS X.K S.cl B φ1 H1 st1 -> RepE X.K S.cl B φ1 H1 ρ σ -> Drw S X B φ1 H1 v x -> RunF S X B φ1 H1 (k v st1) D -> P x H1):tI S X ci σ H P:=by
  refine ⟨B,φ,st,ρ,rs,re,?_⟩
  cases e:evi S.call ρ st ci with
  | ok v st' =>
    rw [e] at h
    exact fun x H' φ' s rs' rv=>n x H' v st' φ' s rs' (re.step s) rv (h.on s)
  | exc k st' =>
    rw [e] at h
    exact fun e s' x=>h σ φ H e s' .rfl re x
  | bad=>rw [e] at h; exact h
theorem zbf (hp:PassesOwn (model X.prog X.w) X.A X.env X.xe) (hc:X.calm = true) (hi:PI X tg l (tI S X ci)) (hg:PG X tg (tG S X ct)) (hb:PSs X ss (tSs S X cs)) (hs:∀ x,foldedSetIterable l X.env x = pure x:=by intro _; rfl) :
    PS X (.For tg l ss [] pos) (tS S X (.for ct ci cs)) :=
  (zqH hp hc hi hg hb hs).imp fun D σ H ⟨B,φ,st,ρ,rs,re,h⟩=>by
    simp only [ex] at h
    refine tI.fl rs re h fun J H1 xs st1 φ1 s1 rs1 re1 dr h1=>?_
    refine ⟨fun i m σ H=>∃ φ st ρ,i + m = xs.length /\ Step φ1 H1 φ H /\ RepS X.K S.cl B φ H st /\ RepE X.K S.cl B φ H ρ σ /\ RunF S X B φ H (forL ct (fun ρ2 st2=>exs S.call ρ2 st2 cs) (xs.drop i) ρ st) D,
      ⟨xs.length,φ1,st1,ρ,by omega,.rfl,rs1,re1,by simpa using h1⟩,?_⟩
    rintro i m σ2 H2 ⟨φ2,st2,ρ2,hm,s2,rs2,re2,h2⟩
    by_cases hi:i < xs.length
    · refine .inr ⟨dr.go i φ2 H2 s2 hi,fun σ' H'=>∃ φ st ρ,Step φ1 H1 φ H' /\ RepS X.K S.cl B φ H' st /\ RepE X.K S.cl B φ H' ρ σ' /\ RunF S X B φ H' (forL ct (fun ρ2 st2=>exs S.call ρ2 st2 cs) (xs.drop (i + 1)) ρ st) D,
        fun σ' H' ⟨φ,st,ρ,s,q⟩=>⟨m - 1,by omega,φ,st,ρ,by omega,s,q⟩,fun x H3 hy=>?_⟩
      obtain ⟨v,hv,rv,kk⟩:=dr.yld i φ2 H2 st2 x H3 B (fun _ z=>.inl z) s2 rs2 hi hy
      have e:xs.drop i = v :: xs.drop (i + 1):=by
        rw [List.drop_eq_getElem_cons hi]
        rw [List.getElem?_eq_getElem hi] at hv
        rw [Option.some.inj hv]
      have s3:Step φ2 H2 φ2 H3:=⟨fun b o _ e=>kk b o e,Nat.le_refl _,fun _ _ _ e=>e,fun _ h=>.inl h⟩
      have rs3:RepS X.K S.cl B φ2 H3 st2:=rs2.same kk
      rw [e,forL] at h2
      cases eb:bindT ct v ρ2 with
      | none=>rw [eb] at h2; exact h2.elim
      | some ρ3 =>
        rw [eb] at h2
        refine ⟨B,φ2,st2,ρ2,v,ρ3,rs3,re2.step s3,rv,eb,fun σ' re'=>⟨B,φ2,st2,ρ3,rs3,re',?_⟩⟩
        have h3:=RunF.on s3 h2
        dsimp only at h3
        cases ee:exs S.call ρ3 st2 cs with
        | nx ρ4 st4 =>
          rw [ee] at h3
          exact fun σ4 H4 φ4 s4 rs4 re4=>⟨φ4,st4,ρ4,s2.trans (s3.trans s4),rs4,re4,RunF.on s4 h3⟩
        | ct ρ4 st4 =>
          rw [ee] at h3
          exact fun σ4 H4 φ4 s4 rs4 re4=>⟨φ4,st4,ρ4,s2.trans (s3.trans s4),rs4,re4,RunF.on s4 h3⟩
        | bk ρ4 st4=>rw [ee] at h3; exact h3
        | rt v4 st4=>rw [ee] at h3; exact h3
        | exc k ρ4 st4=>rw [ee] at h3; exact h3
        | bad=>rw [ee] at h3; exact h3
    · have e:i = xs.length:=by omega
      subst e
      rw [List.drop_length,forL] at h2
      exact .inl ⟨dr.stop φ2 H2 s2,h2 σ2 H2 φ2 .rfl rs2 re2⟩
theorem znS (hp:PassesOwn (model X.prog X.w) X.A X.env X.xe) (hc:PT X c (tTs S X cc)) (hb:PSs X ss (tSs S X cs)):PS X (.While c ss [] pos) (tS S X (.while cc cs)) :=
  (znx hp hc hb).imp fun D σ H ⟨B,φ,st,ρ,rs,re,h⟩=>by
    simp only [ex] at h
    refine ⟨fun m σ H=>∃ φ st ρ,RepS X.K S.cl B φ H st /\ RepE X.K S.cl B φ H ρ σ /\ RunF S X B φ H (whileL (fun ρ2 st2=>ev S.call ρ2 st2 cc) (fun ρ2 st2=>exs S.call ρ2 st2 cs) m ρ st) D,⟨100000,φ,st,ρ,rs,re,h⟩,?_⟩
    rintro m σ2 H2 ⟨φ2,st2,ρ2,rs2,re2,h2⟩
    cases m with
    | zero=>exact h2.elim
    | succ m =>
      rw [whileL] at h2
      rw [flT _ fun k st1=>cond k (againF (exs S.call ρ2 st1 cs) fun ρ2 st2=>whileL (fun ρ2 st2=>ev S.call ρ2 st2 cc) (fun ρ2 st2=>exs S.call ρ2 st2 cs) m ρ2 st2) (.nx ρ2 st1)] at h2
      refine tTs.fl rs2 re2 h2 fun k H3 st3 φ3 s3 rs3 re3 h3=>?_
      cases k with
      | false=>exact h3 σ2 H3 φ3 .rfl rs3 re3
      | true =>
        refine ⟨fun σ' H'=>∃ φ st ρ,RepS X.K S.cl B φ H' st /\ RepE X.K S.cl B φ H' ρ σ' /\ RunF S X B φ H' (whileL (fun ρ2 st2=>ev S.call ρ2 st2 cc) (fun ρ2 st2=>exs S.call ρ2 st2 cs) m ρ st) D,
          fun σ' H' q=>⟨m,by omega,q⟩,B,φ3,st3,ρ2,rs3,re3,?_⟩
        simp only [cond_true] at h3
        cases ee:exs S.call ρ2 st3 cs with
        | nx ρ4 st4 =>
          rw [ee] at h3
          exact fun σ4 H4 φ4 s4 rs4 re4=>⟨φ4,st4,ρ4,rs4,re4,RunF.on s4 h3⟩
        | ct ρ4 st4 =>
          rw [ee] at h3
          exact fun σ4 H4 φ4 s4 rs4 re4=>⟨φ4,st4,ρ4,rs4,re4,RunF.on s4 h3⟩
        | bk ρ4 st4=>rw [ee] at h3; exact h3
        | rt v4 st4=>rw [ee] at h3; exact h3
        | exc k ρ4 st4=>rw [ee] at h3; exact h3
        | bad=>rw [ee] at h3; exact h3
end
end L2
namespace L2
open PySem PySem.Spec PyProof.Rows IC
section
variable (S:Se) (K:PySem.W.Frag)
def Run0 {α β:Type} (B:Addr -> Prop) (φ:Ph) (H:Hp) (Rel:Ph -> Hp -> α -> β -> Prop) (r:R α) (Q:β -> Hp -> Prop):Prop :=
  match r with
  | .ok v st'=>∀ x H' φ',Step φ H φ' H' -> RepS K S.cl B φ' H' st' -> Rel φ' H' v x -> Q x H'
  | _=>False
noncomputable def tE0 (c:Ce):TE:=fun σ H Q=>∃ B φ st ρ,RepS K S.cl B φ H st /\ RepE K S.cl B φ H ρ σ /\ Run0 S K B φ H (fun φ H=>RepV K S.cl B φ H) (ev S.call ρ st c) Q
noncomputable def tT0 (c:Ce):TT:=fun σ H Q=>∃ B φ st ρ,RepS K S.cl B φ H st /\ RepE K S.cl B φ H ρ σ /\ Run0 S K B φ H RB (truR (ev S.call ρ st c)) Q
noncomputable def tG0 (t:Tg):TG:=fun v σ H Q=>∃ B φ st ρ w ρ',RepS K S.cl B φ H st /\ RepE K S.cl B φ H ρ σ /\ RepV K S.cl B φ H w v /\ bindT t w ρ = some ρ' /\ ∀ σ',RepE K S.cl B φ H ρ' σ' -> Q σ' H
end
section
variable {S:Se} {X:Cx} {K:PySem.W.Frag} {cl:Nat -> Addr} {σ:St} {B:Addr -> Prop} {φ φ1:Ph} {H H1:Hp} {st:Store} {ρ:IC.Env} {pos p p2 px:Pos} {a b c o tg l elt iter:Expr} {ca cb cc ce:Ce} {ci:Cit} {ct:Tg}
theorem zdr (hK:X.K = K) (h:PE X a (tE S X ca)):PE X a (tE0 S K ca):=by
  subst hK
  refine h.imp fun σ H Q ⟨B,φ,st,ρ,rs,re,q⟩=>⟨B,φ,st,ρ,rs,re,?_⟩
  cases e:ev S.call ρ st ca with
  | ok v st'=>rw [e] at q; exact q
  | exc k st'=>rw [e] at q; exact q.elim
  | bad=>rw [e] at q; exact q
theorem zcp:PTs X [] (tT0 S K (.cst (.bl true))):=fun pins s σ H Q I ⟨B,φ,st,ρ,rs,re,q⟩=>by
  refine zpM pins s σ H Q I ?_
  simp only [ev,truR,R.bind,truV,onO] at q
  exact q true H φ .rfl rs rfl
theorem zdb (hK:X.K = K) (h:PG X tg (tG S X ct)):PG X tg (tG0 S K ct):=by
  subst hK
  exact h
theorem RTup.skip {k:Bool} {D y:Addr} {u:HO} {xs:List V} (hD:B D) (r:RTup K B φ H k y xs):RTup K B φ (L2.upd H D u) k y xs:=by
  rcases r with ⟨r,b,n⟩ | r
  · exact .inl ⟨by rw [zJ (show y ≠ D from fun z=>b (z ▸ hD))]; exact r,b,n⟩
  · exact .inr r
mutual
theorem RepV.skip {D:Addr} {u:HO} (hD:B D):∀ (v:PV) (x:V),RepV K cl B φ H v x -> RepV K cl B φ (L2.upd H D u) v x
  | .non,x,h=>by simp only [RepV] at h ⊢; exact h
  | .bl b,x,h=>by simp only [RepV] at h ⊢; exact h
  | .int i,x,h=>by simp only [RepV] at h ⊢; exact h
  | .str y,x,h=>by simp only [RepV] at h ⊢; exact h
  | .tp k vs,x,h=>by
    simp only [RepV] at h ⊢
    obtain ⟨y,xs,e,r,l⟩:=h
    exact ⟨y,xs,e,r.skip hD,RepL.skip hD vs xs l⟩
  | .lst vs,x,h=>by
    simp only [RepV] at h ⊢
    obtain ⟨y,xs,e,⟨r,b,n⟩,l⟩:=h
    exact ⟨y,xs,e,⟨by rw [zJ (show y ≠ D from fun z=>b (z ▸ hD))]; exact r,b,n⟩,RepL.skip hD vs xs l⟩
  | .loc n,x,h=>by simp only [RepV] at h ⊢; exact h
  | .exn c,x,h=>by
    simp only [RepV] at h ⊢
    obtain ⟨y,e,r,b,n⟩:=h
    exact ⟨y,e,by rw [zJ (show y ≠ D from fun z=>b (z ▸ hD))]; exact r,b,n⟩
  | .scr vs,x,h=>by
    simp only [RepV] at h ⊢
    obtain ⟨y,xs,e,r,l⟩:=h
    refine ⟨y,xs,e,?_,RepL.skip hD vs xs l⟩
    rcases r with ⟨r,b,n⟩ | r
    · refine .inl ⟨?_,b,n⟩
      have ne:y ≠ D:=fun z=>b (z ▸ hD)
      rcases r with r | ⟨o,r⟩
      · exact .inl (by rw [zJ ne]; exact r)
      · exact .inr ⟨o,by rw [zJ ne]; exact r⟩
    · exact .inr r
theorem RepL.skip {D:Addr} {u:HO} (hD:B D):∀ (v:List PV) (x:List V),RepL K cl B φ H v x -> RepL K cl B φ (L2.upd H D u) v x
  | [],x,h=>by simp only [RepL] at h ⊢; exact h
  | v :: vs,x,h=>by
    simp only [RepL] at h ⊢
    obtain ⟨y,ys,e,r,l⟩:=h
    exact ⟨y,ys,e,RepV.skip hD v y r,RepL.skip hD vs ys l⟩
end
theorem DK.skip {D:Addr} {u:HO} (hD:B D):∀ {kvs:List (PV × PV)} {ks:List (Key × V)},DK K cl B φ H kvs ks -> DK K cl B φ (L2.upd H D u) kvs ks
  | [],ks,h=>h
  | (k,v) :: r,ks,h=>by
    obtain ⟨q,x,t,e,m,rv,l⟩:=h
    exact ⟨q,x,t,e,m,rv.skip hD,DK.skip hD l⟩
theorem DT.skip {D:Addr} {u:HO} (hD:B D):∀ {kvs:List (PV × PV)} {ks:List (List Key × V)},DT K cl B φ H kvs ks -> DT K cl B φ (L2.upd H D u) kvs ks
  | [],ks,h=>h
  | (k,v) :: r,ks,h=>by
    obtain ⟨q,x,t,e,m,rv,l⟩:=h
    exact ⟨q,x,t,e,m,rv.skip hD,DT.skip hD l⟩
theorem RepS.skip {D:Addr} {u:HO} (hD:B D) (rs:RepS K cl B φ H st):RepS K cl B φ (L2.upd H D u) st:=by
  refine ⟨rs.len,rs.inj,fun n y e=>?_,rs.liv,rs.nb,fun y h=>?_⟩
  · obtain ⟨o,q,r⟩:=rs.obj n y e
    have ne:y ≠ D:=fun z=>rs.nb y (List.mem_of_getElem? e) (z ▸ hD)
    refine ⟨o,q,?_⟩
    cases o with
    | lst vs =>
      obtain ⟨xs,hx,l⟩:=r
      exact ⟨xs,by rw [zJ ne]; exact hx,l.skip hD⟩
    | dct t kvs =>
      cases t with
      | false =>
        obtain ⟨xs,hx,l⟩:=r
        exact ⟨xs,by rw [zJ ne]; exact hx,l.skip hD⟩
      | true =>
        obtain ⟨xs,hx,l⟩:=r
        exact ⟨xs,by rw [zJ ne]; exact hx,l.skip hD⟩
    | dead=>exact r.elim
  · by_cases z:y = D
    · subst z; exact ⟨u,zab⟩
    · obtain ⟨w,e⟩:=rs.dom y h
      exact ⟨w,by rw [zJ z]; exact e⟩
theorem RepE.skip {D:Addr} {u:HO} (hD:B D) (re:RepE K cl B φ H ρ σ):RepE K cl B φ (L2.upd H D u) ρ σ:=⟨re.len,fun i v e=>by
  obtain ⟨x,h,q⟩:=re.get i v e
  exact ⟨x,h,q.skip hD⟩⟩
noncomputable def Bx (B:Addr -> Prop) (D:Addr):Addr -> Prop:=fun y=>B y \/ y = D
theorem zmn {D:Addr} (hn:H D = none):∀ y,Bx B D y -> B y \/ H y = none:=fun y z=>z.elim .inl fun q=>.inr (q ▸ hn)
theorem RepV.more {D:Addr} (hn:H D = none) {v:PV} {x:V} (h:RepV K cl B φ H v x):RepV K cl (Bx B D) φ H v x:=h.moreB (zmn hn)
theorem RepL.more {D:Addr} (hn:H D = none) {v:List PV} {x:List V} (h:RepL K cl B φ H v x):RepL K cl (Bx B D) φ H v x:=h.moreB (zmn hn)
mutual
theorem RepV.less {D:Addr}:∀ (v:PV) (x:V),RepV K cl (Bx B D) φ H v x -> RepV K cl B φ H v x
  | .non,x,h=>by simp only [RepV] at h ⊢; exact h
  | .bl b,x,h=>by simp only [RepV] at h ⊢; exact h
  | .int i,x,h=>by simp only [RepV] at h ⊢; exact h
  | .str y,x,h=>by simp only [RepV] at h ⊢; exact h
  | .tp k vs,x,h=>by
    simp only [RepV] at h ⊢
    obtain ⟨y,xs,e,r,l⟩:=h
    refine ⟨y,xs,e,?_,RepL.less vs xs l⟩
    rcases r with ⟨r,b,n⟩ | r
    · exact .inl ⟨r,fun z=>b (.inl z),n⟩
    · exact .inr r
  | .lst vs,x,h=>by
    simp only [RepV] at h ⊢
    obtain ⟨y,xs,e,⟨r,b,n⟩,l⟩:=h
    exact ⟨y,xs,e,⟨r,fun z=>b (.inl z),n⟩,RepL.less vs xs l⟩
  | .loc n,x,h=>by simp only [RepV] at h ⊢; exact h
  | .exn c,x,h=>by
    simp only [RepV] at h ⊢
    obtain ⟨y,e,r,b,n⟩:=h
    exact ⟨y,e,r,fun z=>b (.inl z),n⟩
  | .scr vs,x,h=>by
    simp only [RepV] at h ⊢
    obtain ⟨y,xs,e,r,l⟩:=h
    refine ⟨y,xs,e,?_,RepL.less vs xs l⟩
    rcases r with ⟨r,b,n⟩ | r
    · exact .inl ⟨r,fun z=>b (.inl z),n⟩
    · exact .inr r
theorem RepL.less {D:Addr}:∀ (v:List PV) (x:List V),RepL K cl (Bx B D) φ H v x -> RepL K cl B φ H v x
  | [],x,h=>by simp only [RepL] at h ⊢; exact h
  | v :: vs,x,h=>by
    simp only [RepL] at h ⊢
    obtain ⟨y,ys,e,r,l⟩:=h
    exact ⟨y,ys,e,RepV.less v y r,RepL.less vs ys l⟩
end
theorem DK.more {D:Addr} (hn:H D = none):∀ {kvs:List (PV × PV)} {ks:List (Key × V)},DK K cl B φ H kvs ks -> DK K cl (Bx B D) φ H kvs ks
  | [],ks,h=>h
  | (k,v) :: r,ks,h=>by
    obtain ⟨q,x,t,e,m,rv,l⟩:=h
    exact ⟨q,x,t,e,m,rv.more hn,DK.more hn l⟩
theorem DT.more {D:Addr} (hn:H D = none):∀ {kvs:List (PV × PV)} {ks:List (List Key × V)},DT K cl B φ H kvs ks -> DT K cl (Bx B D) φ H kvs ks
  | [],ks,h=>h
  | (k,v) :: r,ks,h=>by
    obtain ⟨q,x,t,e,m,rv,l⟩:=h
    exact ⟨q,x,t,e,m,rv.more hn,DT.more hn l⟩
theorem DK.less {D:Addr}:∀ {kvs:List (PV × PV)} {ks:List (Key × V)},DK K cl (Bx B D) φ H kvs ks -> DK K cl B φ H kvs ks
  | [],ks,h=>h
  | (k,v) :: r,ks,h=>by
    obtain ⟨q,x,t,e,m,rv,l⟩:=h
    exact ⟨q,x,t,e,m,rv.less,DK.less l⟩
theorem DT.less {D:Addr}:∀ {kvs:List (PV × PV)} {ks:List (List Key × V)},DT K cl (Bx B D) φ H kvs ks -> DT K cl B φ H kvs ks
  | [],ks,h=>h
  | (k,v) :: r,ks,h=>by
    obtain ⟨q,x,t,e,m,rv,l⟩:=h
    exact ⟨q,x,t,e,m,rv.less,DT.less l⟩
theorem RepS.less {D:Addr} (rs:RepS K cl (Bx B D) φ H st):RepS K cl B φ H st:=by
  refine ⟨rs.len,rs.inj,fun n y e=>?_,rs.liv,fun y h z=>rs.nb y h (.inl z),fun y h=>rs.dom y (.inl h)⟩
  obtain ⟨o,q,r⟩:=rs.obj n y e
  refine ⟨o,q,?_⟩
  cases o with
  | lst vs=>obtain ⟨xs,hx,l⟩:=r; exact ⟨xs,hx,l.less⟩
  | dct t kvs=>cases t <;> (obtain ⟨xs,hx,l⟩:=r; exact ⟨xs,hx,l.less⟩)
  | dead=>exact r.elim
theorem RepS.more {D:Addr} {u:HO} (hn:H D = none) (rs:RepS K cl B φ H st):RepS K cl (Bx B D) φ (L2.upd H D u) st:=by
  have nD:some D ∉ φ:=fun z=>by
    obtain ⟨w,e⟩:=rs.there z
    rw [hn] at e; cases e
  have s:Step φ H φ (L2.upd H D u):=.upd hn
  have rs':=rs.upd (o:=u) hn
  refine ⟨rs.len,rs.inj,fun n y e=>?_,rs.liv,fun y h z=>z.elim (rs.nb y h) fun q=>nD (q ▸ h),fun y h=>?_⟩
  · obtain ⟨o,q,r⟩:=rs.obj n y e
    have ne:y ≠ D:=fun z=>nD (z ▸ List.mem_of_getElem? e)
    have hD:Bx B D D:=.inr rfl
    refine ⟨o,q,?_⟩
    cases o with
    | lst vs=>obtain ⟨xs,hx,l⟩:=r; exact ⟨xs,by rw [zJ ne]; exact hx,(l.more hn).skip hD⟩
    | dct t kvs =>
      cases t with
      | false=>obtain ⟨xs,hx,l⟩:=r; exact ⟨xs,by rw [zJ ne]; exact hx,(l.more hn).skip hD⟩
      | true=>obtain ⟨xs,hx,l⟩:=r; exact ⟨xs,by rw [zJ ne]; exact hx,(l.more hn).skip hD⟩
    | dead=>exact r.elim
  · rcases h with h | h
    · exact rs'.dom y h
    · subst h; exact ⟨u,zab⟩
theorem RepE.more {D:Addr} {u:HO} (hn:H D = none) (re:RepE K cl B φ H ρ σ):RepE K cl (Bx B D) φ (L2.upd H D u) ρ σ:=⟨re.len,fun i v e=>by
  obtain ⟨x,h,q⟩:=re.get i v e
  exact ⟨x,h,(q.more hn).skip (.inr rfl)⟩⟩
noncomputable def tgtFree:Tg -> List (Option Nat) -> Bool
  | .n i,sl=>decide (sl[i]? = some none)
  | .t l,sl=>l.all fun i=>decide (sl[i]? = some none)
theorem zkz:∀ (l:List Nat) (vs:List PV) (ρ:IC.Env) (j:Nat),j ∉ l -> ((l.zip vs).foldl (fun ρ p=>ρ.set p.1 (some p.2)) ρ)[j]? = ρ[j]?
  | [],vs,ρ,j,h=>by simp
  | i :: is,[],ρ,j,h=>by simp
  | i :: is,v :: vs,ρ,j,h=>by
    simp only [List.zip_cons_cons,List.foldl_cons]
    rw [zkz is vs _ j fun z=>h (List.mem_cons_of_mem _ z),List.getElem?_set_ne]
    rintro rfl
    exact h List.mem_cons_self
theorem zkJ:∀ (l:List Nat) (vs:List PV) (ρ:IC.Env),((l.zip vs).foldl (fun ρ p=>ρ.set p.1 (some p.2)) ρ).length = ρ.length
  | [],vs,ρ=>by simp
  | i :: is,[],ρ=>by simp
  | i :: is,v :: vs,ρ=>by
    simp only [List.zip_cons_cons,List.foldl_cons]
    rw [zkJ is vs,List.length_set]
theorem RepE.untgt {sl:List (Option Nat)} {ρ0 ρ1:IC.Env} {v:PV} (hf:tgtFree ct sl = true) (h0:∀ (i:Nat),sl[i]? = some none -> ρ0[i]? = some none) (hb:bindT ct v ρ0 = some ρ1) (re:RepE K cl B φ H ρ1 σ):RepE K cl B φ H ρ0 σ:=by
  cases ct with
  | n i =>
    cases hb
    simp only [tgtFree,decide_eq_true_eq] at hf
    refine ⟨by rw [<- re.len,List.length_set],fun j w e=>re.get j w ?_⟩
    rw [List.getElem?_set_ne]
    · exact e
    · rintro rfl
      rw [h0 _ hf] at e; cases e
  | t l =>
    cases v with
    | tp k vs =>
      simp only [bindT] at hb
      split at hb
      · cases hb
        simp only [tgtFree,List.all_eq_true,decide_eq_true_eq] at hf
        refine ⟨by rw [<- re.len,zkJ],fun j w e=>re.get j w ?_⟩
        rw [zkz]
        · exact e
        · intro z
          rw [h0 _ (hf j z)] at e; cases e
      · cases hb
    | _=>cases hb
theorem RepE.inn {sl:List (Option Nat)} (re:RepE K cl B φ H ρ σ):RepE K cl B φ H (sl.map fun o=>o.bind fun j=>(ρ[j]?).join) (L2.inn sl σ):=by
  unfold L2.inn
  refine ⟨by simp,fun i v e=>?_⟩
  rw [List.getElem?_map] at e ⊢
  cases q:sl[i]? with
  | none=>rw [q] at e; cases e
  | some o =>
    rw [q] at e
    cases o with
    | none=>cases e
    | some j =>
      simp only [Option.map_some,Option.bind_some,Option.some.injEq] at e ⊢
      cases q2:ρ[j]? with
      | none=>rw [q2] at e; cases e
      | some w =>
        rw [q2] at e
        simp only [Option.join_some] at e
        subst e
        obtain ⟨x,hx,rv⟩:=re.get j v q2
        exact ⟨x,by rw [hx]; rfl,rv⟩
theorem million1:1000000 < sizeLine:=by rw [sizeLine_eq]; decide
theorem zrB {α:Type} {o:Option Bool} {k:Bool -> R α} {z:α} {s:Store} (h:onO o k = .ok z s):∃ b,o = some b /\ k b = .ok z s:=by
  cases o with
  | none=>cases h
  | some b=>exact ⟨b,rfl,h⟩
theorem zc4 {α β:Type} {r:R α} {k:α -> Store -> R β} {z:β} {s:Store} (h:r.bind k = .ok z s):∃ a s1,r = .ok a s1 /\ k a s1 = .ok z s:=by
  cases r with
  | ok a s1=>exact ⟨a,s1,rfl,h⟩
  | exc c s=>cases h
  | bad=>cases h
theorem zl9 {sl:List (Option Nat)} (hf:tgtFree ct sl = true) {H:Hp} {Q:VK} (h:tE S X (.comp sl ct ci cc ce) σ H Q):tComp sl (tI S X ci) (tG0 S X.K ct) (tT0 S X.K cc) (tE0 S X.K ce) σ H Q:=by
    obtain ⟨B,φ,st,ρ,rs,re,h⟩:=h
    simp only [ev] at h
    refine ⟨B,φ,st,ρ,rs,re,(Run.bind h).mono fun J H1 ⟨xs,st1,φ1,s1,rs1,dr,h1⟩=>fun D hD=>?_⟩
    generalize hone:(fun (x:PV) (st2:Store)=>match bindT ct x (sl.map fun o=>o.bind fun j=>(ρ[j]?).join) with
      | none=>(R.bad:R (Option PV))
      | some ρ1=>(ev S.call ρ1 st2 cc).bind fun b st3=>onO (truV st3 b) fun k=>cond k ((ev S.call ρ1 st3 ce).bind fun y st4=>.ok (some y) st4) (.ok none st3)) = one at h1
    cases e:compL one xs st1 with
    | exc k s=>rw [e] at h1; exact h1.elim
    | bad=>rw [e] at h1; exact h1.elim
    | ok zs st5 =>
      rw [e] at h1
      simp only [lstR] at h1
      split at h1
      case isFalse=>exact h1.elim
      rename_i hz
      have nB:¬ B D:=rs1.nB hD
      have nD:some D ∉ φ1:=fun z=>by
        obtain ⟨w,e⟩:=rs1.there z
        rw [hD] at e; cases e
      refine ⟨fun i m σc ys H2=>∃ φ2 st2 vs rest,i + m = xs.length /\ Step φ1 H1 φ2 H2 /\ H2 D = some (.lst ys) /\ some D ∉ φ2 /\ RepS X.K S.cl (Bx B D) φ2 H2 st2 /\ RepE X.K S.cl (Bx B D) φ2 H2 (sl.map fun o=>o.bind fun j=>(ρ[j]?).join) σc /\
          RepL X.K S.cl (Bx B D) φ2 H2 vs ys /\ compL one (xs.drop i) st2 = .ok rest st5 /\ vs ++ rest = zs,
        ⟨xs.length,φ1,st1,[],zs,by omega,.upd hD,zab,nD,rs1.more hD,(RepE.inn (re.step s1)).more hD,by simp only [RepL],by simpa using e,rfl⟩,?_⟩
      rintro i m σc ys H2 ⟨φ2,st2,vs,rest,hm,s2,hD2,nD2,rs2,re2,l2,ec,ez⟩
      refine ⟨hD2,?_⟩
      by_cases hi:i < xs.length
      · have hl2:=l2.length
        have hml:=million1
        have hzl:=congrArg List.length ez
        rw [List.length_append] at hzl
        refine .inr ⟨dr.go i φ2 H2 s2 hi,by omega,fun σ' ys' H'=>∃ φ2 st2 vs rest,Step φ1 H1 φ2 H' /\ H' D = some (.lst ys') /\ some D ∉ φ2 /\ RepS X.K S.cl (Bx B D) φ2 H' st2 /\ RepE X.K S.cl (Bx B D) φ2 H' (sl.map fun o=>o.bind fun j=>(ρ[j]?).join) σ' /\
          RepL X.K S.cl (Bx B D) φ2 H' vs ys' /\ compL one (xs.drop (i + 1)) st2 = .ok rest st5 /\ vs ++ rest = zs,fun σ' ys' H' ⟨φ2,st2,vs,rest,q⟩=>⟨m - 1,by omega,φ2,st2,vs,rest,by omega,q⟩,fun x H3 hy=>?_⟩
        obtain ⟨v,hv,rv,kk⟩:=dr.yld i φ2 H2 st2 x H3 (Bx B D) (fun y z=>z.elim .inl fun q=>.inr (q ▸ hD)) s2 rs2 hi hy
        have s3:Step φ2 H2 φ2 H3:=⟨fun b o _ e=>kk b o e,Nat.le_refl _,fun _ _ _ e=>e,fun _ h=>.inl h⟩
        have rs3:RepS X.K S.cl (Bx B D) φ2 H3 st2:=rs2.same kk
        have ed:xs.drop i = v :: xs.drop (i + 1):=by
          rw [List.drop_eq_getElem_cons hi]
          rw [List.getElem?_eq_getElem hi] at hv
          rw [Option.some.inj hv]
        rw [ed,compL] at ec
        obtain ⟨o,st3,e1,ec⟩:=zc4 ec
        obtain ⟨rest',st4,e2,ec⟩:=zc4 ec
        rw [<- hone] at e1
        dsimp only at e1
        cases eb:bindT ct v (sl.map fun o=>o.bind fun j=>(ρ[j]?).join) with
        | none=>rw [eb] at e1; cases e1
        | some ρ1 =>
          rw [eb] at e1
          dsimp only at e1
          obtain ⟨bv,st6,e3,e1⟩:=zc4 e1
          obtain ⟨k,e4,e1⟩:=zrB e1
          have er:st4 = st5 /\ consO o rest' = rest:=by
            injection ec with q1 q2
            exact ⟨q2,q1⟩
          obtain ⟨rfl,rfl⟩:=er
          refine ⟨Bx B D,φ2,st2,_,v,ρ1,rs3,re2.step s3,rv,eb,fun σ4 re4=>⟨Bx B D,φ2,st2,ρ1,rs3,re4,?_⟩⟩
          have et:truR (ev S.call ρ1 st2 cc) = .ok k st6:=by
            rw [e3]
            simp only [truR,R.bind,e4,onO]
          rw [et]
          rintro k' H5 φ5 s5 rs5 rfl
          have nD5:some D ∉ φ5:=fun z=>by
            rcases s5.new D z with q | q
            · exact nD2 q
            · rw [kk D _ hD2] at q; cases q
          have hD5:H5 D = some (.lst ys):=s5.keep D _ nD2 (kk D _ hD2)
          have s25:Step φ1 H1 φ5 H5:=s2.trans (s3.trans s5)
          have l5:=(l2.step s3).step s5
          have re5:RepE X.K S.cl (Bx B D) φ5 H5 ρ1 σ4:=re4.step s5
          have h0:∀ (i:Nat),sl[i]? = some none -> (sl.map fun o=>o.bind fun j=>(ρ[j]?).join)[i]? = some none:=fun i q=>by
            rw [List.getElem?_map,q]; rfl
          cases k with
          | false =>
            simp only [cond_false] at e1
            cases e1
            exact ⟨φ5,_,vs,rest',s25,hD5,nD5,rs5,RepE.untgt hf h0 eb re5,l5,e2,ez⟩
          | true =>
            simp only [cond_true] at e1
            obtain ⟨y,st7,e5,e1⟩:=zc4 e1
            cases e1
            refine ⟨Bx B D,φ5,st6,ρ1,rs5,re5,?_⟩
            rw [e5]
            intro y' H6 φ6 s6 rs6 ry
            have nD6:some D ∉ φ6:=fun z=>by
              rcases s6.new D z with q | q
              · exact nD5 q
              · rw [hD5] at q; cases q
            have hD6:H6 D = some (.lst ys):=s6.keep D _ nD5 hD5
            have hBD:Bx B D D:=.inr rfl
            refine ⟨hD6,φ6,_,vs ++ [y],rest',?_,zab,nD6,rs6.skip hBD,(RepE.untgt hf h0 eb (re5.step s6)).skip hBD,((l5.step s6).append (by simp only [RepL]; exact ⟨y',[],rfl,ry,rfl⟩)).skip hBD,e2,?_⟩
            · have s16:=s25.trans s6
              exact ⟨fun b o n q=>by rw [zJ (zR q hD)]; exact s16.keep b o n q,s16.len,s16.pre,s16.new⟩
            · simpa [consO] using ez
      · have ei:i = xs.length:=by omega
        subst ei
        rw [List.drop_length,compL] at ec
        cases ec
        refine .inl ⟨dr.stop φ2 H2 s2,h1 (.ref D) H2 φ2 s2 rs2.less ?_⟩
        simp only [RepV]
        exact ⟨D,ys,rfl,⟨hD2,nB,nD2⟩,by rw [<- ez,List.append_nil]; exact l2.less⟩
theorem zc6 {sc:Scope} {NC:List Str} {sl:List (Option Nat)} {ifs:List Expr} (hc:X.calm = true) (O:CompOk X sc NC sl) (hf:tgtFree ct sl = true) (hi:PI X tg iter (tI S X ci)) (hg:∀ j,PG (cxC X sc NC j) tg (tG0 S X.K ct))
    (ht:∀ j,PTs (cxC X sc NC j) ifs (tT0 S X.K cc)) (he:∀ j,PE (cxC X sc NC j) elt (tE0 S X.K ce)) (hs:∀ x,foldedSetIterable iter X.env x = pure x:=by intro _; rfl) :
    PE X (.ListComp elt [⟨tg,iter,ifs,0⟩] sc pos) (tE S X (.comp sl ct ci cc ce)) :=
  (zpT hc O hi hg ht he hs).imp fun σ H Q h=>zl9 hf h
end
end L2
namespace L2
open PySem PySem.Spec PyProof.Rows IC
noncomputable def spI (K:PySem.W.Frag) (cl:Nat -> Addr) (call:Nat -> List PV -> Store -> R PV) (f:Nat):Sp:=fun vs H Q E=>∃ B φ st args,RepS K cl B φ H st /\ RepL K cl B φ H args vs /\ match call f args st with
  | .ok v st'=>∀ x H' φ',Step φ H φ' H' -> RepS K cl B φ' H' st' -> RepV K cl B φ' H' v x -> Q x H'
  | .exc c st'=>∀ H' φ',Step φ H φ' H' -> RepS K cl B φ' H' st' -> E (.ref (cl c)) none H'
  | .bad=>False
section
variable {S:Se} {X:Cx} {k:Nat} {f:Addr} {fd:FuncData} {ps ks:List Str} {sp:Sp} {dvs:List V} {ds:List Value} {x:Str} {p pos:Pos} {e:Expr} {es:List Expr} {t tk:TA} {CX:CXT} {σ:St} {H:Hp}
theorem zmM {pins:List (Addr × Obj)} {s:Shared} {Q:VK} {us:List Value} {vs:List V} {E:XK} (F:FnOk X.prog X.w X.K X.mg X.base CX k f fd ps sp) (hr:Room k X.A) (hb:Binds X.K fd ps ds) (hd:Vals dvs ds)
    (I:Inv X pins σ H s) (r:Vals vs us) (h:sp (vs ++ dvs) H Q E) (hx:∀ e s',CX X.stack H s E e s' -> X.xe e s'):wpAny (model X.prog X.w) X.A (call (.ref f) us) (EP X pins σ Q) X.xe s:=by
  have r2:Vals (vs ++ dvs) (us ++ ds):=r.append hd
  have hl:(us ++ ds).length = ps.length:=by rw [<- r2.length]; exact F.len _ _ _ _ h
  refine wpAny_call (codeAny_mono (F.run X.A X.stack s H ⟨us,[]⟩ (us ++ ds) (vs ++ dvs) Q E hr I.env0 (hb s us I.kIn hl) r2 h) fun r s' hq=>?_)
  cases r with
  | error e=>exact hx e s' hq
  | ok fl =>
    cases fl with
    | ret u=>exact I.after hq
    | next=>exact False.elim hq
    | brk=>exact False.elim hq
    | cont=>exact False.elim hq
noncomputable def tCallS (CX:CXT) (X:Cx) (sp:Sp) (dvs:List V) (t:TA):TE:=fun σ H Q=>t σ H fun vs H1=>∃ E:XK,sp (vs ++ dvs) H1 Q E /\ ∀ pins s e s',Inv X pins σ H1 s -> CX X.stack H1 s E e s' -> X.xe e s'
theorem zoa (F:FnOk X.prog X.w X.K X.mg X.base CX k f fd ps sp) (hr:Room k X.A) (hg:Gl X x) (hm:X.mg x = some (.ref f)) (hk:PySem.W.keepIn X.K (.ref f) = true) (hb:Binds X.K fd ps ds) (hd:Vals dvs ds)
    (ha:PA X (e :: es) t) (hdb:(x == ("__debug__":Str)) = false:=by decide) (he:starEach (e :: es) X.env = (false,eval e X.env) :: starEach es X.env:=by rfl) (hpl:(backTo pos (starEach es X.env)).any (·.1) = false:=by rfl) :
    PE X (.Call (.Name x p) (e :: es) [] pos) (tCallS CX X sp dvs t):=by
  intro pins s σ H Q I h
  refine wpAny_Call_Name_kw (zhw I hg hm ?_ hdb)
  refine PySem.W.callWith_K (h₀:=X.base) I.ok.mod.kin hk (thn (ha pos pins s σ H _ I h) fun us s1 ⟨vs,H1,I1,r,E,q,hx⟩=>⟨I1.kIn,?_⟩) he hpl
  exact zmM F hr hb hd I1 r q fun e s' c=>hx pins s1 e s' I1 c
theorem zl4 (F:FnOk X.prog X.w X.K X.mg X.base CX k f fd ps sp) (hr:Room k X.A) (hg:Gl X x) (hm:X.mg x = some (.ref f)) (hk:PySem.W.keepIn X.K (.ref f) = true) (hb:Binds X.K fd ps ds) (hd:Vals dvs ds)
    (hdb:(x == ("__debug__":Str)) = false:=by decide):PE X (.Call (.Name x p) [] [] pos) (tCallS CX X sp dvs tNil):=by
  intro pins s σ H Q I h
  obtain ⟨E,q,hx⟩:=h
  refine wpAny_Call_Name_kw (zhw I hg hm ?_ hdb)
  exact PySem.W.callWith_K0 I.kIn hk (zmM F hr hb hd I .nil q fun e s' c=>hx pins s e s' I c)
variable {B:Addr -> Prop} {φ:Ph} {st:Store} {ces:Ces} {fi:Nat}
theorem zgD {vs:List PV} {xs:List V} {Q:VK} (rs:RepS X.K S.cl B φ H st) (l:RepL X.K S.cl B φ H vs xs) (h:Run S X σ B φ H (RV S X B) (S.call fi vs st) Q) :
    ∃ E:XK,spI X.K S.cl S.call fi xs H Q E /\ ∀ pins s e s',Inv X pins σ H s -> CX1 X.prog X.w X.stack H s E e s' -> X.xe e s':=by
  cases c:S.call fi vs st with
  | ok v st' =>
    rw [c] at h
    refine ⟨fun _ _ _=>False,⟨B,φ,st,vs,rs,l,by rw [c]; exact h⟩,fun pins s e s' _ z=>?_⟩
    obtain ⟨_,_,_,_,_,_,_,_,_,_,_,_,_,_,z⟩:=z
    exact z.elim
  | exc k st' =>
    rw [c] at h
    refine ⟨fun cls _ H'=>cls = .ref (S.cl k) /\ ∃ φ',Step φ H φ' H' /\ RepS X.K S.cl B φ' H' st',⟨B,φ,st,vs,rs,l,by rw [c]; exact fun H' φ' s r=>⟨rfl,φ',s,r⟩⟩,fun pins s e s' I z=>h e s' (.inl ⟨pins,H,s,φ,I,.rfl,z⟩)⟩
  | bad=>rw [c] at h; exact h.elim
theorem zg (F:FnOk X.prog X.w X.K X.mg X.base (CX1 X.prog X.w) k f fd ps (spI X.K S.cl S.call fi)) (hr:Room k X.A) (hg:Gl X x) (hm:X.mg x = some (.ref f)) (hk:PySem.W.keepIn X.K (.ref f) = true) (hb:Binds X.K fd ps [])
    (ha:PA X (e :: es) (tAs S X ces)) (hdb:(x == ("__debug__":Str)) = false:=by decide) (he:starEach (e :: es) X.env = (false,eval e X.env) :: starEach es X.env:=by rfl) (hpl:(backTo pos (starEach es X.env)).any (·.1) = false:=by rfl) :
    PE X (.Call (.Name x p) (e :: es) [] pos) (tE S X (.call fi ces)) :=
  (zoa F hr hg hm hk hb .nil ha hdb he hpl).imp fun σ H Q ⟨B,φ,st,ρ,rs,re,h⟩=>by
    simp only [ev] at h
    refine tAs.bind rs re h fun xs H1 vs st1 φ1 s1 rs1 re1 rv h1=>?_
    rw [List.append_nil]
    exact zgD rs1 rv h1
theorem zkD (F:FnOk X.prog X.w X.K X.mg X.base (CX1 X.prog X.w) k f fd ps (spI X.K S.cl S.call fi)) (hr:Room k X.A) (hg:Gl X x) (hm:X.mg x = some (.ref f)) (hk:PySem.W.keepIn X.K (.ref f) = true) (hb:Binds X.K fd ps [])
    (hdb:(x == ("__debug__":Str)) = false:=by decide):PE X (.Call (.Name x p) [] [] pos) (tE S X (.call fi .nil)) :=
  (zl4 F hr hg hm hk hb .nil hdb).imp fun σ H Q ⟨B,φ,st,ρ,rs,re,h⟩=>by
    simp only [ev,evs,R.bind] at h
    exact zgD rs (by simp only [RepL]; rfl) h
end
section
variable {P:Program} {w:World} {K:PySem.W.Frag} {mg:Str -> Option Value} {base:Heap} {cl:Nat -> Addr} {T:Nat -> Option Fn} {fi:Nat} {fn:IC.Fn} {x qual:Str} {stm:Stmt} {f:Addr} {fd:FuncData} {N ps:List Str} {k:Nat}
theorem CX1.mono {outer:List PySem.Env} {H:Hp} {s:Shared} {E E':XK} {e:Value} {s':Shared} (h:CX1 P w outer H s E e s') (n:∀ cls H',E cls none H' -> E' cls none H'):CX1 P w outer H s E' e s':=by
  obtain ⟨a,cls,a0,H',Bh,r1,r2,r3,r4,r5,r6,r7,r8,r9,r10⟩:=h
  exact ⟨a,cls,a0,H',Bh,r1,r2,r3,r4,r5,r6,r7,r8,r9,n _ _ r10⟩
theorem RepE.start {B:Addr -> Prop} {φ:Ph} {H:Hp} {args:List PV} {vs:List V} (l:RepL K cl B φ H args vs) (n:Nat) (hn:N.length - vs.length = n):RepE K cl B φ H (args.map some ++ List.replicate n none) (L2.start N vs):=by
  have hl:=l.length
  unfold L2.start
  refine ⟨by simp [hl,hn],fun i v e=>?_⟩
  by_cases hi:i < args.length
  · rw [List.getElem?_append_left (by simpa using hi),List.getElem?_map] at e
    cases q:args[i]? with
    | none=>rw [q] at e; cases e
    | some v' =>
      rw [q] at e
      cases e
      obtain ⟨y,hy,rv⟩:=l.get i q
      exact ⟨y,by rw [List.getElem?_append_left (by simp; omega),List.getElem?_map,hy]; rfl,rv⟩
  · rw [List.getElem?_append_right (by simp; omega),List.getElem?_replicate] at e
    split at e <;> cases e
theorem leave {N:List Str} {scope:Scope} {cd:Value} {A:Around} {outer:List PySem.Env} {s₀:Shared} {H₀:Hp} {E:XK} {call:Nat -> List PV -> Store -> R PV} {σ:St} {B:Addr -> Prop} {φ:Ph} {H:Hp} {c:Nat} {st':Store} {e:Value} {s':Shared}
    (h:ExcAt ⟨cl,call,true⟩ (cxOf (CX1 P w) P w K mg base N qual scope f cd A outer s₀ H₀ E) σ B φ H c st' e s') (n:∀ φ' H',Step φ H φ' H' -> RepS K cl B φ' H' st' -> E (.ref (cl c)) none H') :
    (cxOf (CX1 P w) P w K mg base N qual scope f cd A outer s₀ H₀ E).xe e s':=by
  rcases h with ⟨pins,H1,s,φ1,I,s1,q⟩ | ⟨_,pins,H1,s,φ1,h',e0,vs,I,s1,rs,mk,rfl,rfl⟩
  · exact pass1 pins σ H1 s e s' I (q.mono fun cls H' ⟨e1,φ',s2,r⟩=>by subst e1; exact n φ' H' (s1.trans s2) r)
  · exact zmb I mk (n φ1 H1 s1 rs)
theorem zo1 (hT:T fi = some fn):∀ (args:List PV) (st:Store),callT T (k + 1) fi args st ≠ .bad -> args.length = fn.np:=fun args st hne=>by
  apply Classical.byContradiction
  intro c
  apply hne
  rw [callT,hT]
  exact if_neg c
theorem zoK (hT:T fi = some fn) (hnp:ps.length = fn.np) {vs:List V} {H:Hp} {Q:VK} {E:XK} (h:spI K cl (callT T (k + 1)) fi vs H Q E):vs.length = ps.length:=by
  obtain ⟨B,φ,st,args,rs,l,h⟩:=h
  rw [hnp,<- l.length]
  refine zo1 (k:=k) hT args st fun z=>?_
  rw [z] at h
  exact h
theorem zme (hT:T fi = some fn) (hns:N.length = fn.ns) {scope:Scope} {cdv:Value} {A:Around} {outer:List PySem.Env} {s:Shared} {vs:List V} {H:Hp} {Q:VK} {E:XK} (h:spI K cl (callT T (k + 1)) fi vs H Q E) :
    tSs ⟨cl,callT T k,true⟩ (cxOf (CX1 P w) P w K mg base N qual scope f cdv A outer s H E) fn.body { nx:=fun _ H'=>Q .non H',rt:=Q } (L2.start N vs) H:=by
  obtain ⟨B,φ,st,args,rs,l,h⟩:=h
  have hl:args.length = fn.np:=zo1 (k:=k) hT args st fun z=>by rw [z] at h; exact h
  have hlen:=l.length
  rw [callT,hT] at h
  dsimp only at h
  rw [if_pos hl] at h
  by_cases hp:fn.pure = true
  · rw [if_pos hp] at h
    by_cases hz:noLocs args = true
    · rw [if_pos hz] at h
      have rs0:RepS K cl (fun a=>B a \/ some a ∈ φ) [] H []:=⟨rfl,fun m n a e=>by simp at e,fun n a e=>by simp at e,fun n o e=>by simp at e,fun a z=>by simp at z,fun a z=>z.elim (rs.dom a) rs.there⟩
      have back:∀ {φ':Ph} {H':Hp},Step [] H φ' H' -> Step φ H φ H' /\ RepS K cl B φ H' st:=fun {φ' H'} s' =>
        have kk:∀ b o,H b = some o -> H' b = some o:=fun b o e=>s'.keep b o (by simp) e
        ⟨⟨fun b o _ e=>kk b o e,Nat.le_refl _,fun _ _ _ e=>e,fun _ h=>.inl h⟩,rs.same kk⟩
      refine ⟨_,[],[],_,rs0,RepE.start (RepL.inn rs.nb args vs hz l) (fn.ns - fn.np) (by omega),?_⟩
      show RunF _ _ _ _ _ (exs (callT T k) (args.map some ++ List.replicate (fn.ns - fn.np) none) [] fn.body) _
      cases e:exs (callT T k) (args.map some ++ List.replicate (fn.ns - fn.np) none) [] fn.body with
      | nx ρ' st' =>
        rw [e] at h
        intro σ' H' φ' s' rs' re'
        obtain ⟨s2,r2⟩:=back s'
        exact h .non H' φ s2 r2 (by simp only [RepV])
      | rt v st' =>
        rw [e] at h
        dsimp only at h
        by_cases hv:noLoc v = true
        · rw [if_pos hv] at h
          intro y H' φ' s' rs' rv
          obtain ⟨s2,r2⟩:=back s'
          exact h y H' φ s2 r2 (RepV.out v y hv rv)
        · rw [if_neg hv] at h
          exact h.elim
      | exc c ρ' st' =>
        rw [e] at h
        intro σ' φ1 H1 ev s' s1 _ ex
        refine leave ex fun φ2 H2 s2 _=>?_
        obtain ⟨s3,r3⟩:=back (s1.trans s2)
        exact h H2 φ s3 r3
      | bk ρ' st'=>rw [e] at h; exact h.elim
      | ct ρ' st'=>rw [e] at h; exact h.elim
      | bad=>rw [e] at h; exact h.elim
    · rw [if_neg hz] at h
      exact h.elim
  · rw [if_neg hp] at h
    refine ⟨B,φ,st,_,rs,RepE.start l (fn.ns - fn.np) (by omega),?_⟩
    show RunF _ _ _ _ _ (exs (callT T k) (args.map some ++ List.replicate (fn.ns - fn.np) none) st fn.body) _
    cases e:exs (callT T k) (args.map some ++ List.replicate (fn.ns - fn.np) none) st fn.body with
    | nx ρ' st' =>
      rw [e] at h
      intro σ' H' φ' s' rs' re'
      exact h .non H' φ' s' rs' (by simp only [RepV])
    | rt v st' =>
      rw [e] at h
      intro y H' φ' s' rs' rv
      exact h y H' φ' s' rs' rv
    | exc c ρ' st' =>
      rw [e] at h
      intro σ' φ1 H1 ev s' s1 _ ex
      exact leave ex fun φ2 H2 s2 r2=>h H2 φ2 (s1.trans s2) r2
    | bk ρ' st'=>rw [e] at h; exact h.elim
    | ct ρ' st'=>rw [e] at h; exact h.elim
    | bad=>rw [e] at h; exact h.elim
theorem zad (hT:T fi = some fn) (F:Fun K x qual stm f fd) (Sc:FnScope N ps (defScope stm)) (hnp:ps.length = fn.np) (hns:N.length = fn.ns)
    (body:∀ (cdv:Value) (A:Around) (outer:List PySem.Env) (s:Shared) (H:Hp) (E:XK),Room k (A.deeper (envOfC qual (defScope stm) s.heap.objs.size f cdv)) ->
      PSs (cxOf (CX1 P w) P w K mg base N qual (defScope stm) f cdv A outer s H E) (defBody stm) (tSs ⟨cl,callT T k,true⟩ (cxOf (CX1 P w) P w K mg base N qual (defScope stm) f cdv A outer s H E) fn.body)) :
    FnOk P w K mg base (CX1 P w) (k + 1) f fd ps (spI K cl (callT T (k + 1)) fi) :=
  F.okX Sc (fun vs H Q E h=>zoK hT hnp h) fun cdv A outer s H vs Q E hr h=>⟨_,body cdv A outer s H E hr,zme hT hns h⟩
theorem zph (hps:ps = ps):FnOk P w K mg base (CX1 P w) 0 f fd ps (spI K cl (callT T 0) fi) :=
  ⟨fun vs H Q E ⟨_,_,_,_,_,_,h⟩=>by rw [callT] at h; exact h.elim,fun A outer s H args us vs Q E _ _ _ _ ⟨_,_,_,_,_,_,h⟩=>by rw [callT] at h; exact h.elim⟩
end
end L2
namespace L2
open PySem PySem.Spec PyProof.Rows IC
noncomputable def tyN:Ty -> String
  | .int=>"int" | .bool=>"bool" | .str=>"str" | .tuple=>"tuple" | .list=>"list" | _=>""
structure KitT (K:PySem.W.Frag) (t:Ty):Prop where
  n:PySem.W.kitOne K (.type "NoneType") (.type (tyN t)) = some (isTy .non t)
  b:PySem.W.kitOne K (.type "bool") (.type (tyN t)) = some (isTy (.bl true) t)
  i:PySem.W.kitOne K (.type "int") (.type (tyN t)) = some (isTy (.int 0) t)
  s:PySem.W.kitOne K (.type "str") (.type (tyN t)) = some (isTy (.str Str.empty) t)
  p:PySem.W.kitOne K (.type "tuple") (.type (tyN t)) = some (isTy (.tp true []) t)
  l:PySem.W.kitOne K (.type "list") (.type (tyN t)) = some (isTy (.lst []) t)
section
variable {S:Se} {X:Cx} {σ:St} {B:Addr -> Prop} {φ:Ph} {H:Hp} {st:Store} {p pos p2 px:Pos} {a b c d o:Expr} {ca cb cc:Ce} {t:Ty}
noncomputable def rIsi (S:Se) (X:Cx) (t:Ty):List V -> Hp -> VK -> Prop:=fun xs H Q=>∃ B φ st v x z,xs = [x,.ty (tyN t)] /\ RepS X.K S.cl B φ H st /\ RepV X.K S.cl B φ H v x /\ isiV v [t] = some z /\ isBl t = true /\
  ∀ z' H' φ',Step φ H φ' H' -> RepS X.K S.cl B φ' H' st -> RepV X.K S.cl B φ' H' z z' -> Q z' H'
theorem zqy (Z:KitT X.K t):CallR X (.builtin "isinstance") (rIsi S X t):=by
  rintro pins s σ H xs us Q I r ⟨B,φ,st,v,x,z,rfl,rs,rv,e,hb,q⟩
  obtain ⟨u,c',rfl,ru,rc⟩:=vals2 r
  cases (show c' = Value.type (tyN t) from rc)
  have fin:∀ (k:Bool) (tk:Nat),z = .bl k -> EP X pins σ Q (.bool k) { s with toks:=tk }:=fun k tk ez=>⟨.bl k,H,I.tok tk,rfl,q _ H φ .rfl rs (by subst ez; simp only [RepV])⟩
  cases v with
  | non =>
    simp only [RepV] at rv; subst rv
    cases (show u = Value.none from ru)
    simp only [isiV,hb,if_true] at e
    exact PySem.W.kia_one PySem.W.kitx_none I.kIn True.intro Z.n (fun z=>nomatch z) fun tk=>fin _ tk (by cases e; cases t <;> rfl)
  | bl k =>
    simp only [RepV] at rv; subst rv
    cases (show u = Value.bool k from ru)
    simp only [isiV,hb,if_true] at e
    exact PySem.W.kia_one PySem.W.kitx_bool I.kIn True.intro Z.b (fun z=>nomatch z) fun tk=>fin _ tk (by cases e; cases t <;> rfl)
  | int k =>
    simp only [RepV] at rv; subst rv
    obtain ⟨tk,rfl⟩:=ru
    simp only [isiV,hb,if_true] at e
    exact PySem.W.kia_one PySem.W.kitx_int I.kIn True.intro Z.i (fun z=>nomatch z) fun tk=>fin _ tk (by cases e; cases t <;> rfl)
  | str k =>
    simp only [RepV] at rv; subst rv
    obtain ⟨tk,rfl⟩:=ru
    simp only [isiV,hb,if_true] at e
    exact PySem.W.kia_one PySem.W.kitx_str I.kIn True.intro Z.s (fun z=>nomatch z) fun tk=>fin _ tk (by cases e; cases t <;> rfl)
  | tp k vs =>
    simp only [RepV] at rv
    obtain ⟨y,ys,rfl,rt,l⟩:=rv
    cases (show u = Value.ref y from ru)
    simp only [isiV,hb,if_true] at e
    obtain ⟨its,_,⟨o,g,c,_,_⟩,_⟩:=I.tuple rt.sq
    exact PySem.W.kia_one PySem.W.kitx_tuple I.kIn ⟨o,g,c⟩ Z.p (fun z=>nomatch z) fun tk=>fin _ tk (by cases e; cases t <;> rfl)
  | lst vs =>
    simp only [RepV] at rv
    obtain ⟨y,ys,rfl,rt,l⟩:=rv
    cases (show u = Value.ref y from ru)
    simp only [isiV,hb,if_true] at e
    obtain ⟨_,_,n,_,h1⟩:=(show ObjOk X.prog X.w H s.heap y (.lst ys) from I.hok y _ rt.1)
    exact PySem.W.kia_one PySem.W.kitx_list I.kIn ⟨_,h1,rfl⟩ Z.l (fun z=>nomatch z) fun tk=>fin _ tk (by cases e; cases t <;> rfl)
  | loc n=>cases e
  | scr n=>cases e
  | exn n=>simp only [isiV,List.all_cons,List.all_nil,hb,Bool.and_self,if_true] at e; cases e
theorem zbL {T:Str} (Z:KitT X.K t) (ht:isBl t = true) (hg:Gl X "isinstance") (hm:X.mg "isinstance" = none) (hgT:Gl X T) (hmT:X.mg T = none) (hT:bootBuiltins T = some (.type (tyN t))) (ha:PE X a (tE S X ca)) (hnT:T ≠ "__name__":=by decide) (hdT:(T == ("__debug__":Str)) = false:=by decide)
    (he:starEach [a,.Name T p2] X.env = (false,eval a X.env) :: starEach [.Name T p2] X.env:=by rfl) (hpl:(backTo pos (starEach [.Name T p2] X.env)).any (·.1) = false:=by rfl) :
    PE X (.Call (.Name "isinstance" p) [a,.Name T p2] [] pos) (tE S X (.isi ca [t])) :=
  (zkj (zqy Z) hg hm PyProof.Rows.boot_isinstance (zde ha (zde (zqa (v:=.ty (tyN t)) hgT hmT hT rfl hnT hdT) pa_nil) he) (by decide) (by decide) he hpl).imp fun σ H Q ⟨B,φ,st,ρ,rs,re,h⟩=>by
    simp only [ev] at h
    refine tE.bind rs re h fun x H1 v st1 φ1 s1 rs1 re1 rv h1=>?_
    obtain ⟨z,e,q⟩:=zdh h1 rs1
    exact ⟨B,φ1,st1,v,x,z,rfl,rs1,rv,e,ht,q⟩
theorem znV {st4:Store} {x y v:PV} (h:sixV st x y v = some st4):∃ n xs k j,x = .loc n /\ st[n]? = some (.lst xs) /\ y = .int k /\ ixI xs.length k = some j /\ st4 = st.set n (.lst (xs.set j v)):=by
  cases x with
  | loc n =>
    simp only [sixV] at h
    cases q:st[n]? with
    | none=>rw [q] at h; cases h
    | some o =>
      rw [q] at h
      cases o with
      | lst xs =>
        cases y with
        | int k =>
          dsimp only at h
          cases q2:ixI xs.length k with
          | none=>rw [q2] at h; cases h
          | some j=>rw [q2] at h; exact ⟨n,xs,k,j,rfl,q,rfl,q2,(Option.some.inj h).symm⟩
        | _=>cases h
      | _=>cases h
  | _=>cases h
theorem RepL.put {K:PySem.W.Frag} {cl:Nat -> Addr}:∀ {vs:List PV} {xs:List V} (j:Nat) {v:PV} {x:V},RepL K cl B φ H vs xs -> RepV K cl B φ H v x -> RepL K cl B φ H (vs.set j v) (xs.set j x)
  | [],xs,j,v,x,l,r=>by simp only [RepL] at l; subst l; simp [RepL]
  | w :: vs,xs,0,v,x,l,r=>by
    simp only [RepL] at l
    obtain ⟨y,ys,rfl,_,l⟩:=l
    simp only [List.set_cons_zero,RepL]
    exact ⟨x,ys,rfl,r,l⟩
  | w :: vs,xs,j + 1,v,x,l,r=>by
    simp only [RepL] at l
    obtain ⟨y,ys,rfl,ry,l⟩:=l
    simp only [List.set_cons_succ,RepL]
    exact ⟨y,ys.set j x,rfl,ry,RepL.put j l r⟩
theorem zhg (he:PE X a (tE S X ca)) (ho:PE X b (tE S X cb)) (hi:PE X c (tE S X cc)) (hs:swapsWithSole [.Subscript b c px] a pos.line X.env = pure false:=by rfl) (hw:swappedStores [.Subscript b c px] a X.env = pure none:=by rfl)
    (hg:PG X (.Subscript b c px) (gSub (tE S X cb) (tE S X cc) rSetL):=by exact zga ‹_› ‹_› zcK):PS X (.Assign [.Subscript b c px] a pos) (tS S X (.six cb cc ca)) :=
  (zoW he hg hs hw).imp fun D σ H ⟨B,φ,st,ρ,rs,re,h⟩=>by
    simp only [ex] at h
    refine tE.fl rs re h fun v' H1 v st1 φ1 s1 rs1 re1 rv h1=>tE.fl rs1 re1 h1 fun x' H2 x st2 φ2 s2 rs2 re2 rx h2=>tE.fl rs2 re2 h2 fun y' H3 y st3 φ3 s3 rs3 re3 ry h3=>?_
    cases e:sixV st3 x y v with
    | none=>rw [e] at h3; exact h3.elim
    | some st4 =>
      rw [e] at h3
      obtain ⟨n,xs,k,j,rfl,hn,rfl,hj,rfl⟩:=znV e
      simp only [RepV] at ry
      subst ry
      obtain ⟨l,ys,rfl,hp,hx,lr⟩:=rs3.list (rx.step s3) hn
      refine ⟨l,ys,k,j,rfl,rfl,hx,by rw [<- lr.length]; exact hj,?_⟩
      have s4:Step φ3 H3 φ3 (L2.upd H3 l (.lst (ys.set j v'))):=.put (List.mem_of_getElem? hp)
      exact h3 σ _ φ3 s4 (rs3.put hp ⟨_,zab,(lr.put j ((rv.step s2).step s3)).step s4⟩) (re3.step s4)
end
end L2
namespace L2
open PySem PySem.Spec PyProof.Rows IC
section
variable {S:Se} {X:Cx} {σ:St} {B:Addr -> Prop} {φ:Ph} {H:Hp} {st:Store} {p pos p2 px py pt pt2 apos:Pos} {a b c d o:Expr} {ca cb cc:Ce} {kt k2:Nat}
theorem zq4 {i j:Nat} {x y:Str} (hc:X.calm = true) (hN:X.N.Nodup) (hi:X.N[i]? = some x) (hj:X.N[j]? = some y) (hij:i ≠ j) (h:PS X (.Assign [.Tuple [.Name x px,.Name y py] kt pt] (.Tuple [a,b] k2 pt2) pos) (tPar i j (tAs S X (.cons ca (.cons cb .nil))))) :
    PS X (.Assign [.Tuple [.Name x px,.Name y py] kt pt] (.Tuple [a,b] k2 pt2) pos) (tS S X (.asg (.t [i,j]) (.tup (.cons ca (.cons cb .nil))))) :=
  h.imp fun D σ H ⟨B,φ,st,ρ,rs,re,h⟩=>by
    simp only [ex,ev] at h
    refine ⟨B,φ,st,ρ,rs,re,?_⟩
    cases e:evs S.call ρ st (.cons ca (.cons cb .nil)) with
    | bad=>rw [e] at h; exact h
    | exc k st'=>rw [e] at h; exact fun e s' x=>h σ φ H e s' .rfl re x
    | ok vs st' =>
      rw [e] at h
      intro xs H' φ' s rs' l
      simp only [R.bind] at h
      split at h
      · rcases vs with _ | ⟨v,_ | ⟨w,_ | ⟨u,t⟩⟩⟩
        · exact h.elim
        · exact h.elim
        · obtain ⟨v',w',rfl,rv,rw⟩:=l.two
          refine ⟨v',w',rfl,?_⟩
          exact h _ H' φ' s rs' (((re.step s).set i rv).set j rw)
        · exact h.elim
      · exact h.elim
theorem zpF {bo:BOp} {v w z:PV} (h:augV bo v w = some z):∃ i j,v = .int i /\ w = .int j /\ IC.binI bo i j = some z:=by
  unfold augV at h
  split at h
  · exact ⟨_,_,rfl,rfl,h⟩
  · cases h
theorem zjq:PIp X .Add (rT2 S X (augV .add)):=by
  rintro pins s σ H x y v u Q I rx ry ⟨B,φ,st,a,b,z,rs,ra,rb,e,q⟩
  obtain ⟨i,j,rfl,rfl,e⟩:=zpF e
  cases e
  simp only [RepV] at ra rb
  subst ra rb
  exact zqY pins s σ H _ _ v u Q I rx ry ⟨i,j,rfl,rfl,q _ H φ .rfl rs (by simp only [RepV])⟩
end
end L2
namespace WK
open PySem L2 IC
structure Fn (K:PySem.W.Frag) (mg:Str -> Option Value) (x:Str) (st:Stmt) (ps:List Str) (f:Addr) (fd:FuncData):Prop where
  F:Fun K x x st f fd
  b:Binds K fd ps []
  m:mg x = some (.ref f)
def GC (K:PySem.W.Frag) (mg:Str -> Option Value) (cl:Nat -> Addr) (x:Str) (v:PV):Prop:=∃ y:Addr,mg x = some (.ref y) /\ ∀ B φ H,RepV K cl B φ H v (.ref y)
theorem zaY {S:Se} {X:Cx} {x:Str} {v:PV} {pos:Pos} (hg:Gl X x) (h:GC X.K X.mg S.cl x v) (hd:(x == ("__debug__":Str)) = false:=by decide):PE X (.Name x pos) (tE S X (.cst v)):=by
  obtain ⟨y,hm,hk⟩:=h
  exact zqb hg hm hk hd
theorem ziq:bootBuiltins "int" = some (.type "int"):=by decide +kernel
theorem zpH:bootBuiltins "bool" = some (.type "bool"):=by decide +kernel
theorem zoR:bootBuiltins "str" = some (.type "str"):=by decide +kernel
theorem zar:bootBuiltins "tuple" = some (.type "tuple"):=by decide +kernel
theorem zaA:bootBuiltins "len" = some (.builtin "len"):=by decide +kernel
theorem zrw:bootBuiltins "abs" = some (.builtin "abs"):=by decide +kernel
theorem zkb:bootBuiltins "min" = some (.builtin "min"):=by decide +kernel
theorem zmh:bootBuiltins "max" = some (.builtin "max"):=by decide +kernel
theorem ziD:bootBuiltins "all" = some (.builtin "all"):=by decide +kernel
theorem z8 {k:Nat} {A:Around} (r:Room k A):A.units + 1 < cLine:=by have:=r.units; omega
def VisAll (N:List Str) (sc:Scope):Prop:=(N.all fun x=>decide (sc.names.lookup x = some .local) || decide (sc.names.lookup x = some .cell)) = true
theorem lcF {N:List Str} {sc:Scope} {i:Nat} {x:Str} (V:VisAll N sc) (h:N[i]? = some x):Loc sc x:=by
  have:=List.all_eq_true.mp V x (List.mem_of_getElem? h)
  rw [Bool.or_eq_true,decide_eq_true_eq,decide_eq_true_eq] at this
  exact this
theorem svF {S:Se} {X:Cx} {x:Str} {pos:Pos} (V:VisAll X.N X.env.scope) (i:Nat) (hN:X.N[i]? = some x:=by rfl) (hd:(x == ("__debug__":Str)) = false:=by decide) (hcd:(x == ("__classdict__":Str)) = false:=by decide):PE X (.Name x pos) (tE S X (.var i)) :=
  zoN hN (by rcases lcF V hN with h | h; exact .inl h; exact .inr (.inl h)) hd hcd
theorem sv {S:Se} {X:Cx} (i:Nat) {x:Str} {pos:Pos} (hN:X.N[i]? = some x:=by rfl) (hv:Vis X.env.scope x:=by first | exact Or.inl rfl | exact Or.inr (Or.inl rfl) | exact Or.inr (Or.inr rfl)) (hd:(x == ("__debug__":Str)) = false:=by decide)
    (hcd:(x == ("__classdict__":Str)) = false:=by decide):PE X (.Name x pos) (tE S X (.var i)):=zoN hN hv hd hcd
end WK
namespace L2
open PySem PySem.Spec PyProof.Rows IC
noncomputable def shC:Sum Ce Int -> Option Int
  | .inl _=>none
  | .inr i=>some i
noncomputable def mergeV:List (Option Int) -> List V -> List V
  | [],_=>[]
  | some i :: r,zs=>.int i :: mergeV r zs
  | none :: r,z :: zs=>z :: mergeV r zs
  | none :: _,[]=>[]
noncomputable def pick:List (Option Int) -> List V -> List V
  | none :: r,v :: vs=>v :: pick r vs
  | some _ :: r,_ :: vs=>pick r vs
  | _,_=>[]
noncomputable def nKw:List (Option Int) -> Nat
  | []=>0
  | none :: r=>nKw r + 1
  | some _ :: r=>nKw r
noncomputable def lenC:Ces -> Nat
  | .nil=>0
  | .cons _ r=>lenC r + 1
noncomputable def gK (np:Nat) (sh:List (Option Int)) (vs zs:List V):List V:=if vs.length = np /\ zs.length = nKw sh then vs ++ mergeV sh zs else []
theorem zlX {call:Nat -> List PV -> Store -> R PV} {ρ:IC.Env}:∀ (a:Ces) {st st':Store} {vs:List PV},evs call ρ st a = .ok vs st' -> vs.length = lenC a
  | .nil,st,st',vs,h=>by simp only [evs] at h; cases h; rfl
  | .cons e r,st,st',vs,h=>by
    simp only [evs] at h
    cases q:ev call ρ st e with
    | ok v s1 =>
      rw [q] at h
      simp only [R.bind] at h
      cases q2:evs call ρ s1 r with
      | ok ws s2 =>
        rw [q2] at h
        cases h
        simp [lenC,zlX r q2]
      | exc c s=>rw [q2] at h; cases h
      | bad=>rw [q2] at h; cases h
    | exc c s=>rw [q] at h; cases h
    | bad=>rw [q] at h; cases h
theorem znb {call:Nat -> List PV -> Store -> R PV} {ρ:IC.Env}:∀ (a b:Ces) (st:Store),evs call ρ st (appC a b) = (evs call ρ st a).bind fun vs st1=>(evs call ρ st1 b).bind fun ws st2=>.ok (vs ++ ws) st2
  | .nil,b,st=>by
    simp only [appC,evs,R.bind,List.nil_append]
    cases evs call ρ st b <;> rfl
  | .cons e r,b,st=>by
    simp only [appC,evs]
    cases ev call ρ st e with
    | ok v st1 =>
      simp only [R.bind]
      rw [znb r b st1]
      cases evs call ρ st1 r with
      | ok vs st2 =>
        simp only [R.bind]
        cases evs call ρ st2 b <;> rfl
      | exc c s=>rfl
      | bad=>rfl
    | exc c s=>rfl
    | bad=>rfl
section
variable {S:Se} {X:Cx} {k:Nat} {f:Addr} {fd:FuncData} {ps ks:List Str} {sp:Sp} {x:Str} {p pos kpos:Pos} {e:Expr} {es:List Expr} {kws:List Keyword} {nm:Option Str} {t tk:TA} {CX:CXT} {ca:Ce} {ces:Ces} {items:List (Sum Ce Int)} {g:List Value -> List Value -> List Value} {gV:List V -> List V -> List V}
theorem zeX {K:PySem.W.Frag} {cl:Nat -> Addr} {B:Addr -> Prop} {φ:Ph} {H:Hp} {call:Nat -> List PV -> Store -> R PV} {ρ:IC.Env}:∀ (items:List (Sum Ce Int)) {st st':Store} {vs:List PV} {xs:List V},evs call ρ st (tailC items) = .ok vs st' -> RepL K cl B φ H vs xs -> mergeV (items.map shC) (pick (items.map shC) xs) = xs /\ (pick (items.map shC) xs).length = nKw (items.map shC)
  | [],st,st',vs,xs,h,l=>by
    simp only [tailC,evs] at h
    cases h
    simp only [RepL] at l
    subst l
    exact ⟨rfl,rfl⟩
  | .inl c :: r,st,st',vs,xs,h,l=>by
    simp only [tailC,evs] at h
    obtain ⟨v,s1,e1,h⟩:=zc4 h
    obtain ⟨ws,s2,e2,h⟩:=zc4 h
    cases h
    simp only [RepL] at l
    obtain ⟨y,ys,rfl,_,l⟩:=l
    obtain ⟨q1,q2⟩:=zeX r e2 l
    simp only [List.map_cons,shC,pick,mergeV,nKw,List.length_cons,q1,q2]
    exact ⟨trivial,trivial⟩
  | .inr i :: r,st,st',vs,xs,h,l=>by
    simp only [tailC,evs,ev] at h
    obtain ⟨v,s1,e1,h⟩:=zc4 h
    obtain ⟨ws,s2,e2,h⟩:=zc4 h
    cases h
    cases e1
    simp only [RepL,RepV] at l
    obtain ⟨y,ys,rfl,rfl,l⟩:=l
    obtain ⟨q1,q2⟩:=zeX r e2 l
    simp only [List.map_cons,shC,pick,mergeV,nKw,q1,q2]
    exact ⟨trivial,trivial⟩
noncomputable def tK (S:Se) (X:Cx) (items:List (Sum Ce Int)):TA:=fun σ H Q=>∃ B φ st ρ,RepS X.K S.cl B φ H st /\ RepE X.K S.cl B φ H ρ σ /\ Run S X σ B φ H (RL S X B) (evs S.call ρ st (tailC items)) fun xs H'=>Q (pick (items.map shC) xs) H'
theorem PK.imp {t t':TA} (h:PK X kws t') (k:∀ σ H Q,t σ H Q -> t' σ H Q):PK X kws t:=fun pos pins s σ H Q I q=>h pos pins s σ H Q I (k σ H Q q)
theorem zau:PK X [] (tK S X []):=pk_nil.imp fun σ H Q ⟨B,φ,st,ρ,rs,re,h⟩=>by
  simp only [tailC,evs] at h
  exact h.ok rs (x:=[]) (by simp only [RepL])
theorem zx {i:Int} (h:PK X kws (tK S X items)):PK X kws (tK S X (.inr i :: items)):=h.imp fun σ H Q ⟨B,φ,st,ρ,rs,re,h⟩=>by
  simp only [tailC,evs,ev,R.bind] at h
  refine ⟨B,φ,st,ρ,rs,re,?_⟩
  cases e:evs S.call ρ st (tailC items) with
  | ok vs st' =>
    rw [e] at h
    intro xs H' φ' s rs' l
    exact h (.int i :: xs) H' φ' s rs' (by simp only [RepL,RepV]; exact ⟨_,_,rfl,rfl,l⟩)
  | exc c s=>rw [e] at h; exact h
  | bad=>rw [e] at h; exact h
theorem zbP (ha:PE X e (tE S X ca)) (h:PK X kws (tK S X items)):PK X (⟨nm,e,kpos⟩ :: kws) (tK S X (.inl ca :: items)):=(zp0 ha h).imp fun σ H Q ⟨B,φ,st,ρ,rs,re,h⟩=>by
  simp only [tailC,evs] at h
  refine tE.bind rs re h fun x H1 v st1 φ1 s1 rs1 re1 rv h1=>⟨B,φ1,st1,ρ,rs1,re1,?_⟩
  refine (Run.bind (Rel:=RL S X B) h1).mono fun xs H2 ⟨ws,st2,φ2,s2,rs2,l,h2⟩=>?_
  exact h2.ok rs2 (x:=x :: xs) (by simp only [RepL]; exact ⟨x,xs,rfl,rv.step s2,l⟩)
theorem zE {fi:Nat} (F:FnOk X.prog X.w X.K X.mg X.base (CX1 X.prog X.w) k f fd ps (spI X.K S.cl S.call fi)) (hr:Room k X.A) (hg:Gl X x) (hm:X.mg x = some (.ref f)) (hk:PySem.W.keepIn X.K (.ref f) = true) {np:Nat} (hb:∃ g,KBinds X.K fd ps ks g (gK np (items.map shC))) (hnp:lenC ces = np)
    (ha:PA X (e :: es) (tAs S X ces)) (hkw:PK X kws (tK S X items)) (hall:(backToKw pos (keywordEach kws X.env)).all (·.1.isSome) = true:=by rfl) (hks:(backToKw pos (keywordEach kws X.env)).filterMap (·.1) = ks:=by rfl)
    (hdb:(x == ("__debug__":Str)) = false:=by decide) (he:starEach (e :: es) X.env = (false,eval e X.env) :: starEach es X.env:=by rfl)
    (hpl:((backTo pos (starEach (e :: es) X.env)).any (·.1) || (backToKw pos (keywordEach kws X.env)).any (·.1.isNone)) = false:=by rfl) :
    PE X (.Call (.Name x p) (e :: es) kws pos) (tE S X (.call fi (appC ces (tailC items)))):=by
  intro pins s σ H Q I ⟨B,φ,st,ρ,rs,re,h⟩
  simp only [ev] at h
  rw [znb,R.bind_assoc] at h
  refine wpAny_Call_Name_kw (zhw I hg hm ?_ hdb)
  have h0:tAs S X ces σ H fun vs H1=>tK S X items σ H1 fun zs H2=>∃ E:XK,spI X.K S.cl S.call fi (gK np (items.map shC) vs zs) H2 Q E /\ ∀ pins s e s',Inv X pins σ H2 s -> CX1 X.prog X.w X.stack H2 s E e s' -> X.xe e s':=by
    have hlen:∀ vs st',evs S.call ρ st ces = .ok vs st' -> vs.length = np:=fun vs st' q=>(zlX ces q).trans hnp
    refine ⟨B,φ,st,ρ,rs,re,?_⟩
    cases q:evs S.call ρ st ces with
    | exc c s=>rw [q] at h; exact h
    | bad=>rw [q] at h; exact h
    | ok vs st1 =>
    rw [q] at h
    intro xs H1 φ1 s1 rs1 rv
    have h1:=Run.on s1 h
    have re1:=re.step s1
    have hv:=hlen vs st1 q
    refine ⟨B,φ1,st1,ρ,rs1,re1,?_⟩
    have h1:Run S X σ B φ1 H1 (RV S X B) (((evs S.call ρ st1 (tailC items)).bind fun a st=>(R.ok (vs ++ a) st:R (List PV))).bind fun vs st1=>S.call fi vs st1) Q:=h1
    rw [R.bind_assoc] at h1
    cases e:evs S.call ρ st1 (tailC items) with
    | ok ws st2 =>
      rw [e] at h1
      intro ys H2 φ2 s2 rs2 l2
      obtain ⟨m1,m2⟩:=zeX items e l2
      have eg:gK np (items.map shC) xs (pick (items.map shC) ys) = xs ++ ys:=by
        unfold gK
        rw [if_pos ⟨by rw [<- rv.length]; exact hv,m2⟩,m1]
      show ∃ E:XK,spI X.K S.cl S.call fi (gK np (items.map shC) xs (pick (items.map shC) ys)) H2 Q E /\ _
      rw [eg]
      exact zgD rs2 ((rv.step s2).append l2) (Run.on s2 h1)
    | exc c s=>rw [e] at h1; exact h1
    | bad=>rw [e] at h1; exact h1
  refine PySem.W.callWith_KW (h₀:=X.base) I.ok.mod.kin hk hall (thn (ha pos pins s σ H _ I h0) fun us s1 ⟨vs,H1,I1,r,q⟩=>?_) hpl he
  refine thn (hkw pos pins s1 σ H1 _ I1 q) fun ws s2 ⟨zs,H2,I2,rz,E,q2,hx⟩=>⟨I2.kIn,?_⟩
  rw [hks]
  obtain ⟨g,hb⟩:=hb
  have r2:=hb.rel r rz
  have hl:(g us ws).length = ps.length:=by rw [<- r2.length]; exact F.len _ _ _ _ q2
  refine wpAny_call (codeAny_mono (F.run X.A X.stack s2 H2 ⟨us,ks.zip ws⟩ (g us ws) (gK np (items.map shC) vs zs) Q E hr I2.env0 (hb.to s2 us ws I2.kIn hl) r2 q2) fun r s' hq=>?_)
  cases r with
  | error e=>exact hx pins s2 e s' I2 hq
  | ok fl =>
    cases fl with
    | ret u=>exact I2.after hq
    | next=>exact False.elim hq
    | brk=>exact False.elim hq
    | cont=>exact False.elim hq
end
noncomputable def mergeU:List (Option Int) -> List Value -> List Value -> List Value
  | [],_,_=>[]
  | some _ :: r,ws,d :: ds=>d :: mergeU r ws ds
  | none :: r,w :: ws,_ :: ds=>w :: mergeU r ws ds
  | _,_,_=>[]
theorem zf7:∀ (sh:List (Option Int)) (ds:List Int) {zs:List V} {ws us:List Value},Vals (ds.map V.int) us -> Vals zs ws -> sh.length = ds.length -> (∀ p ∈ sh.zip ds,∀ i,p.1 = some i -> i = p.2) -> Vals (mergeV sh zs) (mergeU sh ws us)
  | [],ds,zs,ws,us,r,q,hl,h=>.nil
  | some i :: r,[],zs,ws,us,rr,q,hl,h=>by simp at hl
  | some i :: r,d :: ds,zs,ws,_,.cons a b,q,hl,h=>by
    have:i = d:=h (some i,d) (by simp) i rfl
    subst this
    exact .cons a (zf7 r ds b q (by simpa using hl) fun p hp=>h p (by simp [hp]))
  | none :: r,[],zs,ws,us,rr,q,hl,h=>by simp at hl
  | none :: r,d :: ds,_,_,_,.cons a b,.nil,hl,h=>.nil
  | none :: r,d :: ds,_,_,_,.cons a b,.cons c q,hl,h=>.cons c (zf7 r ds b q (by simpa using hl) fun p hp=>h p (by simp [hp]))
structure FnD (K:PySem.W.Frag) (mg:Str -> Option Value) (x:Str) (st:Stmt) (ps:List Str) (ds:List Int) (f:Addr) (fd:FuncData):Prop where
  ex:∃ (oc:Value) (od:Option Addr) (dT:Addr) (kV doc pm:Value) (an:Option Addr) (cdv ct:Value) (osl:Array (Option Value)) (o:Obj) (its:Array Value) (n:Nat),
    fd = PySem.W.fnOf x x (defArgs st) (defBody st) (defScope st) (.ref dT) kV doc pm an cdv ct /\ K.lookup f = some ⟨oc,od,.func fd,osl⟩ /\ PySem.W.codeIn K cdv x = true /\ K.lookup dT = some o /\ o.data = .seq its n /\ Vals (ds.map V.int) its.toList
  kp:PySem.W.keepIn K (.ref f) = true
  m:mg x = some (.ref f)
theorem kbD {K:PySem.W.Frag} {mg:Str -> Option Value} {x:Str} {st:Stmt} {ps ks:List Str} {ds:List Int} {f:Addr} {fd:FuncData} {np off:Nat} {sh:List (Option Int)} (D:FnD K mg x st ps ds f fd) (hnk:ks.length = nKw sh) (hsh:sh.length = (ds.drop off).length) (hd':((sh.zip (ds.drop off)).all fun p=>p.1.all fun i=>decide (i = p.2)) = true)
    (h:∀ (dT:Addr) (kV doc pm:Value) (an:Option Addr) (cdv ct:Value) (us ws its:List Value),us.length = np -> ws.length = ks.length -> its.length = ds.length ->
      ∃ k,bindArgs (PySem.W.fnOf x x (defArgs st) (defBody st) (defScope st) (.ref dT) kV doc pm an cdv ct) ⟨us,ks.zip ws⟩ = seqItems? (.ref dT) >>= k /\ k (some its.toArray) = pure (ps.zip (us ++ mergeU sh ws (its.drop off)))) (hps:0 < ps.length) :
    ∃ g,KBinds K fd ps ks g (gK np sh):=by
  have hd:∀ p ∈ sh.zip (ds.drop off),∀ i,p.1 = some i -> i = p.2:=fun p hp i hi=>by
    have:=List.all_eq_true.mp hd' p hp
    rw [hi] at this
    simpa using this
  obtain ⟨oc,od,dT,kV,doc,pm,an,cdv,ct,osl,o,its,n,rfl,lk,hcd,lo,hs,r⟩:=D.ex
  refine ⟨fun us ws=>if us.length = np /\ ws.length = nKw sh then us ++ mergeU sh ws (its.toList.drop off) else [],⟨fun s us ws KX hl=>?_,fun {vs us zs ws} rv rz=>?_⟩⟩
  · by_cases c:us.length = np /\ ws.length = nKw sh
    · rw [if_pos c] at hl ⊢
      obtain ⟨k,h1,h2⟩:=h dT kV doc pm an cdv ct us ws its.toList c.1 (by rw [hnk]; exact c.2) (by rw [<- r.length,List.length_map])
      exact BindsTo.of_defaults rfl (KX _ _ lo) hs h1 (by simpa using h2)
    · rw [if_neg c] at hl
      simp at hl
      omega
  · unfold gK
    have e1:=rv.length
    have e2:=rz.length
    by_cases c:us.length = np /\ ws.length = nKw sh
    · rw [if_pos c,if_pos (by omega)]
      refine rv.append (zf7 sh (ds.drop off) ?_ rz hsh hd)
      rw [List.map_drop]
      exact r.drop off
    · rw [if_neg c,if_neg (by omega)]
      exact .nil
section
variable {P:Program} {w:World} {K:PySem.W.Frag} {mg:Str -> Option Value} {base:Heap} {cl:Nat -> Addr} {T:Nat -> Option IC.Fn} {fi:Nat} {fn:IC.Fn} {x:Str} {stm:Stmt} {f:Addr} {fd:FuncData} {N ps:List Str} {ds:List Int} {k:Nat}
theorem Fun.okXD {sp:Sp} (F:FnD K mg x stm ps ds f fd) (S:FnScope N ps (defScope stm)) (len:∀ vs H Q E,sp vs H Q E -> vs.length = ps.length)
    (body:∀ (cdv:Value) (A:Around) (outer:List PySem.Env) (s:Shared) (H:Hp) (vs:List V) (Q:VK) (E:XK),Room k (A.deeper (envOfC x (defScope stm) s.heap.objs.size f cdv)) -> sp vs H Q E ->
      ∃ t,PSs (cxOf (CX1 P w) P w K mg base N x (defScope stm) f cdv A outer s H E) (defBody stm) t /\ t { nx:=fun _ H'=>Q .non H',rt:=Q } (start N vs) H):FnOk P w K mg base (CX1 P w) (k + 1) f fd ps sp:=by
  obtain ⟨oc,od,dT,kV,doc,pm,an,cdv,ct,osl,o,its,n,rfl,lk,hcd,_⟩:=F.ex
  exact zrJ lk hcd S len fun A outer s H vs Q E hr hsp=>body cdv A outer s H vs Q E hr hsp
theorem zka (hT:T fi = some fn) (F:FnD K mg x stm ps ds f fd) (Sc:FnScope N ps (defScope stm)) (hnp:ps.length = fn.np) (hns:N.length = fn.ns)
    (body:∀ (cdv:Value) (A:Around) (outer:List PySem.Env) (s:Shared) (H:Hp) (E:XK),Room k (A.deeper (envOfC x (defScope stm) s.heap.objs.size f cdv)) ->
      PSs (cxOf (CX1 P w) P w K mg base N x (defScope stm) f cdv A outer s H E) (defBody stm) (tSs ⟨cl,callT T k,true⟩ (cxOf (CX1 P w) P w K mg base N x (defScope stm) f cdv A outer s H E) fn.body)) :
    FnOk P w K mg base (CX1 P w) (k + 1) f fd ps (spI K cl (callT T (k + 1)) fi) :=
  Fun.okXD F Sc (fun vs H Q E h=>zoK hT hnp h) fun cdv A outer s H vs Q E hr h=>⟨_,body cdv A outer s H E hr,zme hT hns h⟩
end
end L2
namespace L2
open PySem PySem.Spec PyProof.Rows IC
theorem zhk (a b:Key):peq (keyP a) (keyP b) = decide (a = b):=by
  rw [Bool.eq_iff_iff]
  cases a <;> cases b <;> simp [keyP,peq]
theorem zkw:∀ (a b:List Key),peqs (a.map keyP) (b.map keyP) = decide (a = b)
  | [],[]=>by simp [peqs]
  | [],y :: ys=>by simp [peqs]
  | x :: xs,[]=>by simp [peqs]
  | x :: xs,y :: ys=>by
    simp only [List.map_cons,peqs,zhk,zkw xs ys]
    rw [Bool.eq_iff_iff]
    simp
theorem zhF (a b:List Key):peq (.tup (a.map keyP)) (.tup (b.map keyP)) = decide (a = b):=by
  simp only [peq,zkw]
theorem zlZ {k:PV} (h:isKey0 k = true):∃ q,k = keyP q:=by
  cases k with
  | int i=>exact ⟨.inl i,rfl⟩
  | str i=>exact ⟨.inr i,rfl⟩
  | _=>cases h
theorem zmt:∀ {ks:List PV},ks.all isKey0 = true -> ∃ qs:List Key,ks = qs.map keyP
  | [],_=>⟨[],rfl⟩
  | k :: ks,h=>by
    rw [List.all_cons,Bool.and_eq_true] at h
    obtain ⟨q,rfl⟩:=zlZ h.1
    obtain ⟨qs,rfl⟩:=zmt h.2
    exact ⟨q :: qs,rfl⟩
section
variable {S:Se} {X:Cx} {K:PySem.W.Frag} {cl:Nat -> Addr} {σ:St} {B:Addr -> Prop} {φ:Ph} {H:Hp} {st:Store} {p pos p2 px apos:Pos} {a b c d o:Expr} {ca cb cc:Ce}
theorem repV_key {q:Key} {x:V}:RepV K cl B φ H (keyP q) x ↔ x = kV q:=by
  cases q <;> simp [keyP,RepV,kV]
theorem zh7:∀ {qs:List Key} {xs:List V},RepL K cl B φ H (qs.map keyP) xs -> xs = qs.map kV
  | [],xs,l=>by simpa only [List.map_nil,RepL] using l
  | q :: qs,xs,l=>by
    simp only [List.map_cons,RepL] at l
    obtain ⟨y,ys,rfl,r,l⟩:=l
    rw [repV_key.mp r,zh7 l]
    rfl
theorem DK.look {q:Key}:∀ {kvs:List (PV × PV)} {ks:List (Key × V)},DK K cl B φ H kvs ks -> ∀ {v:PV} {x:V},RepV K cl B φ H v x -> RepV K cl B φ H ((IC.look (keyP q) kvs).getD v) ((valV ks q).getD x)
  | [],ks,h,v,x,r=>by cases h; exact r
  | (k,w) :: t,ks,h,v,x,r=>by
    obtain ⟨q',y,s,rfl,rfl,rv,l⟩:=h
    simp only [IC.look,zhk]
    by_cases e:q' = q
    · rw [zeO (p:=(q',y)) e]
      simp [e,rv]
    · rw [zex (p:=(q',y)) e]
      simp only [decide_eq_true_eq,e,if_false]
      exact DK.look l r
theorem DT.look {q:List Key}:∀ {kvs:List (PV × PV)} {ks:List (List Key × V)},DT K cl B φ H kvs ks -> ∀ {v:PV} {x:V},RepV K cl B φ H v x -> RepV K cl B φ H ((IC.look (.tup (q.map keyP)) kvs).getD v) ((valV ks q).getD x)
  | [],ks,h,v,x,r=>by cases h; exact r
  | (k,w) :: t,ks,h,v,x,r=>by
    obtain ⟨q',y,s,rfl,rfl,rv,l⟩:=h
    simp only [IC.look,zhF]
    by_cases e:q' = q
    · rw [zeO (p:=(q',y)) e]
      simp [e,rv]
    · rw [zex (p:=(q',y)) e]
      simp only [decide_eq_true_eq,e,if_false]
      exact DT.look l r
theorem DK.any {q:Key}:∀ {kvs:List (PV × PV)} {ks:List (Key × V)},DK K cl B φ H kvs ks -> (kvs.any fun p=>peq p.1 (keyP q)) = ks.any fun kv=>decide (kv.1 = q)
  | [],ks,h=>by cases h; rfl
  | (k,w) :: t,ks,h=>by
    obtain ⟨q',y,s,rfl,rfl,rv,l⟩:=h
    simp only [List.any_cons,zhk,DK.any l]
theorem DT.any {q:List Key}:∀ {kvs:List (PV × PV)} {ks:List (List Key × V)},DT K cl B φ H kvs ks -> (kvs.any fun p=>peq p.1 (.tup (q.map keyP))) = ks.any fun kv=>decide (kv.1 = q)
  | [],ks,h=>by cases h; rfl
  | (k,w) :: t,ks,h=>by
    obtain ⟨q',y,s,rfl,rfl,rv,l⟩:=h
    simp only [List.any_cons,zhF,DT.any l]
theorem DK.map {q:Key} {v:PV} {x:V} (r:RepV K cl B φ H v x):∀ {kvs:List (PV × PV)} {ks:List (Key × V)},DK K cl B φ H kvs ks -> DK K cl B φ H (kvs.map fun p=>if peq p.1 (keyP q) = true then (p.1,v) else p) (ks.map fun kv=>if kv.1 = q then (kv.1,x) else kv)
  | [],ks,h=>by cases h; exact rfl
  | (k,w) :: t,ks,h=>by
    obtain ⟨q',y,s,rfl,rfl,rv,l⟩:=h
    simp only [List.map_cons,zhk,decide_eq_true_eq]
    by_cases e:q' = q
    · simp only [e,if_true]
      exact ⟨q,x,_,rfl,rfl,r,DK.map r l⟩
    · simp only [e,if_false]
      exact ⟨q',y,_,rfl,rfl,rv,DK.map r l⟩
theorem DT.map {q:List Key} {v:PV} {x:V} (r:RepV K cl B φ H v x):∀ {kvs:List (PV × PV)} {ks:List (List Key × V)},DT K cl B φ H kvs ks -> DT K cl B φ H (kvs.map fun p=>if peq p.1 (.tup (q.map keyP)) = true then (p.1,v) else p) (ks.map fun kv=>if kv.1 = q then (kv.1,x) else kv)
  | [],ks,h=>by cases h; exact rfl
  | (k,w) :: t,ks,h=>by
    obtain ⟨q',y,s,rfl,rfl,rv,l⟩:=h
    simp only [List.map_cons,zhF,decide_eq_true_eq]
    by_cases e:q' = q
    · simp only [e,if_true]
      exact ⟨q,x,_,rfl,rfl,r,DT.map r l⟩
    · simp only [e,if_false]
      exact ⟨q',y,_,rfl,rfl,rv,DT.map r l⟩
theorem DK.snoc {q:Key} {v:PV} {x:V} (r:RepV K cl B φ H v x):∀ {kvs:List (PV × PV)} {ks:List (Key × V)},DK K cl B φ H kvs ks -> DK K cl B φ H (kvs ++ [(keyP q,v)]) (ks ++ [(q,x)])
  | [],ks,h=>by cases h; exact ⟨q,x,[],rfl,rfl,r,rfl⟩
  | (k,w) :: t,ks,h=>by
    obtain ⟨q',y,s,rfl,rfl,rv,l⟩:=h
    exact ⟨q',y,_,rfl,rfl,rv,DK.snoc r l⟩
theorem DT.snoc {q:List Key} {v:PV} {x:V} (r:RepV K cl B φ H v x):∀ {kvs:List (PV × PV)} {ks:List (List Key × V)},DT K cl B φ H kvs ks -> DT K cl B φ H (kvs ++ [(.tup (q.map keyP),v)]) (ks ++ [(q,x)])
  | [],ks,h=>by cases h; exact ⟨q,x,[],rfl,rfl,r,rfl⟩
  | (k,w) :: t,ks,h=>by
    obtain ⟨q',y,s,rfl,rfl,rv,l⟩:=h
    exact ⟨q',y,_,rfl,rfl,rv,DT.snoc r l⟩
theorem DK.put {q:Key} {v:PV} {x:V} {kvs:List (PV × PV)} {ks:List (Key × V)} (l:DK K cl B φ H kvs ks) (r:RepV K cl B φ H v x):DK K cl B φ H (IC.put (keyP q) v kvs) (putK ks q x):=by
  unfold IC.put putK
  rw [DK.any l]
  split
  · exact DK.map r l
  · exact DK.snoc r l
theorem DT.put {q:List Key} {v:PV} {x:V} {kvs:List (PV × PV)} {ks:List (List Key × V)} (l:DT K cl B φ H kvs ks) (r:RepV K cl B φ H v x):DT K cl B φ H (IC.put (.tup (q.map keyP)) v kvs) (putK ks q x):=by
  unfold IC.put putK
  rw [DT.any l]
  split
  · exact DT.map r l
  · exact DT.snoc r l
theorem DK.len:∀ {kvs:List (PV × PV)} {ks:List (Key × V)},DK K cl B φ H kvs ks -> kvs.length = ks.length
  | [],ks,h=>by cases h; rfl
  | (k,w) :: t,ks,h=>by
    obtain ⟨q',y,s,rfl,rfl,rv,l⟩:=h
    simp [DK.len l]
theorem DT.len:∀ {kvs:List (PV × PV)} {ks:List (List Key × V)},DT K cl B φ H kvs ks -> kvs.length = ks.length
  | [],ks,h=>by cases h; rfl
  | (k,w) :: t,ks,h=>by
    obtain ⟨q',y,s,rfl,rfl,rv,l⟩:=h
    simp [DT.len l]
theorem RepS.dct {n:Nat} {t:Bool} {kvs:List (PV × PV)} {x:V} (rs:RepS K cl B φ H st) (r:RepV K cl B φ H (.loc n) x) (h:st[n]? = some (.dct t kvs)):∃ y,x = .ref y /\ φ[n]? = some (some y) /\ RepO K cl B φ H (.dct t kvs) y:=by
  simp only [RepV] at r
  obtain ⟨hn,y,rfl,ha⟩:=r
  obtain ⟨z,hz⟩:=rs.liv n _ h (by intro z; cases z)
  obtain rfl:=ha z hz
  obtain ⟨o,ho,ro⟩:=rs.obj n z hz
  rw [h] at ho; cases ho
  exact ⟨z,rfl,hz,ro⟩
theorem zh3 {v:PV} {t:Bool} {kvs:List (PV × PV)} (h:dctOf st v = some (t,kvs)):∃ n,v = .loc n /\ st[n]? = some (.dct t kvs):=by
  cases v with
  | loc n =>
    simp only [dctOf] at h
    split at h
    · rename_i t' xs q
      cases h
      exact ⟨n,rfl,q⟩
    · cases h
  | _=>cases h
theorem zm1 {k:PV} (h:isKey false k = true):∃ q,k = keyP q:=zlZ h
theorem zl0 {k:PV} (h:isKey true k = true):∃ q:List Key,k = .tup (q.map keyP):=by
  cases k with
  | tp b xs =>
    cases b with
    | false =>
      obtain ⟨qs,rfl⟩:=zmt h
      exact ⟨qs,rfl⟩
    | true=>cases h
  | _=>cases h
theorem zna {q:List Key} {x:V} (r:RepV K cl B φ H (.tup (q.map keyP)) x):∃ y,x = .ref y /\ H y = some (.tup (q.map kV)):=by
  simp only [RepV] at r
  obtain ⟨y,xs,rfl,rt,l⟩:=r
  rcases rt with ⟨rt,_⟩ | ⟨z,_⟩
  · exact ⟨y,rfl,by rw [rt,zh7 l]⟩
  · cases z
theorem zl2:PE X (.Dict [] [] pos) (tE S X (.dict0 true)):=pe_dnewT.imp fun σ H Q ⟨B,φ,st,ρ,rs,re,h⟩=>by
  simp only [ev] at h
  exact fun p hp=>h _ _ (φ ++ [some p]) (.push hp) (rs.push hp (rs.nB hp) ⟨[],zab,rfl⟩) (.loc_new rs)
theorem zet (hu:X.A.units + 1 < cLine) (ha:PE X a (tE S X ca)) (hb:PE X b (tE S X cb)) (hc:PE X c (tE S X cc)) (m:M2 X a "get" apos b c pos:=by exact ⟨rfl,rfl,rfl,rfl⟩):PE X (.Call (.Attribute a "get" apos) [b,c] [] pos) (tE S X (.mth .get ca (.cons cb (.cons cc .nil)))) :=
  (zoq hu ha hb hc m).imp fun σ H Q ⟨B,φ,st,ρ,rs,re,h⟩=>by
    simp only [ev] at h
    refine tE.bind rs re h fun x H1 v st1 φ1 s1 rs1 re1 rv h1=>?_
    obtain ⟨_,e1,h1⟩:=zjz h1
    simp only [mthOk] at e1
    cases q:dctOf st1 v with
    | none=>rw [q] at e1; cases e1
    | some tk =>
      obtain ⟨t,kvs⟩:=tk
      obtain ⟨n,rfl,hn⟩:=zh3 q
      obtain ⟨y,rfl,hy,ro⟩:=rs1.dct rv hn
      refine ⟨y,rfl,?_,?_⟩
      · cases t with
        | false=>obtain ⟨ks,hk,_⟩:=ro; exact .inl ⟨ks,.inl hk⟩
        | true=>obtain ⟨ks,hk,_⟩:=ro; exact .inr ⟨ks,.inl hk⟩
      · simp only [evs,R.bind_assoc] at h1
        refine tE.bind rs1 re1 h1 fun kx H2 kv st2 φ2 s2 rs2 re2 rk h2=>tE.bind rs2 re2 h2 fun dx H3 dv st3 φ3 s3 rs3 re3 rd h3=>?_
        simp only [R.bind,mthV,getV] at h3
        cases q3:dctOf st3 (.loc n) with
        | none=>rw [q3] at h3; exact h3.elim
        | some tk3 =>
          obtain ⟨t3,kvs3⟩:=tk3
          rw [q3] at h3
          dsimp only at h3
          split at h3
          · rename_i hk
            obtain ⟨n',e',hn3⟩:=zh3 q3
            cases e'
            obtain ⟨y3,ey,hy3,ro3⟩:=rs3.dct ((rv.step s2).step s3) hn3
            cases ey
            have rk3:=rk.step s3
            cases t3 with
            | false =>
              obtain ⟨q,rfl⟩:=zm1 hk
              obtain ⟨ks,hks,l⟩:=ro3
              refine ⟨valV ks q,.inl ⟨ks,q,.inl hks,repV_key.mp rk3,rfl⟩,h3.ok rs3 (DK.look l rd)⟩
            | true =>
              obtain ⟨q,rfl⟩:=zl0 hk
              obtain ⟨ks,hks,l⟩:=ro3
              obtain ⟨b',rfl,hb'⟩:=zna rk3
              exact ⟨valV ks q,.inr ⟨ks,q,b',.inl hks,rfl,hb',rfl⟩,h3.ok rs3 (DT.look l rd)⟩
          · exact h3.elim
theorem zlJ {st4:Store} {x y v:PV} (h:dputV st x y v = some st4):∃ n t kvs,x = .loc n /\ st[n]? = some (.dct t kvs) /\ isKey t y = true /\ kvs.length < 1000000 /\ st4 = st.set n (.dct t (IC.put y v kvs)):=by
  cases x with
  | loc n =>
    simp only [dputV] at h
    split at h
    · rename_i t kvs q
      split at h
      · rename_i c
        exact ⟨n,t,kvs,rfl,q,c.1,c.2,(Option.some.inj h).symm⟩
      · cases h
    · cases h
  | _=>cases h
theorem za8 (hu:X.A.units + 1 < cLine) (ho:PE X b (tE S X cb)) (hi:PE X c (tE S X cc)) (hv:PE X a (tE S X ca)) (hs:swapsWith a (some (.Subscript b c px)) pos.line X.env = pure false:=by rfl):PS X (.Assign [.Subscript b c px] a pos) (tS S X (.dput cb cc ca)) :=
  (zp9 hu ho hi hv hs).imp fun D σ H ⟨B,φ,st,ρ,rs,re,h⟩=>by
    simp only [ex] at h
    refine tE.fl rs re h fun v' H1 v st1 φ1 s1 rs1 re1 rv h1=>tE.fl rs1 re1 h1 fun x' H2 x st2 φ2 s2 rs2 re2 rx h2=>tE.fl rs2 re2 h2 fun y' H3 y st3 φ3 s3 rs3 re3 ry h3=>?_
    cases e:dputV st3 x y v with
    | none=>rw [e] at h3; exact h3.elim
    | some st4 =>
      rw [e] at h3
      obtain ⟨n,t,kvs,rfl,hn,hk,hl,rfl⟩:=zlJ e
      obtain ⟨l,rfl,hp,ro⟩:=rs3.dct (rx.step s3) hn
      have rv3:=(rv.step s2).step s3
      have hm:=million
      cases t with
      | false =>
        obtain ⟨q,rfl⟩:=zm1 hk
        obtain ⟨ks,hks,ld⟩:=ro
        have s4:Step φ3 H3 φ3 (L2.upd H3 l (.dK (putK ks q v'))):=.put (List.mem_of_getElem? hp)
        refine ⟨l,_,rfl,.inl ⟨ks,q,hks,repV_key.mp ry,by have:=ld.len; omega,rfl⟩,h3 σ _ φ3 s4 (rs3.put hp ⟨_,zab,(ld.put rv3).step s4⟩) (re3.step s4)⟩
      | true =>
        obtain ⟨q,rfl⟩:=zl0 hk
        obtain ⟨ks,hks,ld⟩:=ro
        obtain ⟨b',rfl,hb'⟩:=zna ry
        have s4:Step φ3 H3 φ3 (L2.upd H3 l (.dT (putK ks q v'))):=.put (List.mem_of_getElem? hp)
        refine ⟨l,_,rfl,.inr ⟨ks,q,b',hks,rfl,hb',by have:=ld.len; omega,rfl⟩,h3 σ _ φ3 s4 (rs3.put hp ⟨_,zab,(ld.put rv3).step s4⟩) (re3.step s4)⟩
noncomputable def trC (kvs:List (Str × Int)):List (TE × TE):=kvs.map fun kv=>(tC (.str kv.1),tC (.int kv.2))
theorem zqe:PPs X pos [] [] (trC []):=zpm
theorem zpx {ks:List (Option Expr)} {vs:List Expr} {kvs:List (Str × Int)} {x:Str} {i:Int} {j1 j2:Nat} {p1 p2:Pos} (h:PPs X pos ks vs (trC kvs)):PPs X pos (some (.Constant (.str x) j1 p1) :: ks) (.Constant (.int i) j2 p2 :: vs) (trC ((x,i) :: kvs)):=znE pe_str pe_int h
theorem zhe:∀ (kvs:List (Str × Int)) {σ:St} {H:Hp} {Q:List (V × V) -> Hp -> Prop},Q (kvs.map fun kv=>(.str kv.1,.int kv.2)) H -> tPairs (trC kvs) σ H Q
  | [],σ,H,Q,h=>h
  | kv :: r,σ,H,Q,h=>zhe r (Q:=fun ps H3=>Q ((.str kv.1,.int kv.2) :: ps) H3) h
theorem DK.fold:∀ (kvs:List (Str × Int)) {acc:List (PV × PV)} {ks:List (Key × V)},DK K cl B φ H acc ks -> DK K cl B φ H (kvs.foldl (fun acc kv=>IC.put (.str kv.1) (.int kv.2) acc) acc) (mergeK ks (kvs.map fun kv=>(Sum.inr kv.1,.int kv.2)))
  | [],acc,ks,l=>l
  | kv :: r,acc,ks,l=>by
    unfold mergeK
    simp only [List.foldl_cons,List.map_cons]
    exact DK.fold r (l.put (q:=Sum.inr kv.1) (x:=.int kv.2) (by simp only [RepV]))
theorem zp2 {ks:List (Option Expr)} {vs:List Expr} {kvs:List (Str × Int)} (h:PPs X pos ks vs (trC kvs)) (hall:ks.all (·.isSome) = true:=by rfl) (hl:ks.length = vs.length:=by rfl) (h0:ks ≠ []:=by simp) (h15:ks.length <= 15:=by decide):PE X (.Dict ks vs pos) (tE S X (.newd kvs)) :=
  (zpb h hall hl h0 h15).imp fun σ H Q ⟨B,φ,st,ρ,rs,re,h⟩=>by
    simp only [ev] at h
    split at h
    · rename_i c
      intro p hp
      refine zhe kvs ⟨zab,kvs.map fun kv=>(Sum.inr kv.1,.int kv.2),by simp [kV],by simpa using c,?_⟩
      rw [zpd]
      exact h _ _ (φ ++ [some p]) (.push hp) (rs.push hp (rs.nB hp) ⟨_,zab,DK.fold kvs rfl⟩) (.loc_new rs)
    · exact h.elim
end
end L2
namespace L2
open PySem PySem.Spec PyProof.Rows IC
noncomputable def Itd (lo:Int) (n:Nat):It:=⟨fun i _=>i < n,fun i H x H'=>H' = H /\ x = .int (lo + i * (-1)),fun i _=>n <= i⟩
theorem zjW {P:Program} {w:World} {K:PySem.W.Frag} {tg:Expr} (it:Addr) (lo:Int) (n:Nat):Turn P w K tg (Itd lo n) [it] it (fun i h=>IsRangeIter h it (lo + (i:Nat) * (-1)) ((n:Int) - (i:Nat)) (-1)) where
  mem:=by simp
  obj:=fun i h st b hb=>by
    have e:b = it:=by simpa using hb
    subst e
    exact ⟨_,st,fun v z=>by
      have z':Data.fields _ = Data.cell v:=z
      cases z'⟩
  keep:=fun i h h' st k=>k it (by simp) _ st
  item:=by
    intro X hP hw hK hc i pins s σ H E I hf st hg
    subst hP hw hK
    obtain ⟨f0,f1,f2,f3,f4,f5⟩:=hf it (by simp)
    have W:=Walks.range (prog:=X.prog) (w:=X.w) (I.ok.hd hc) it lo (-1) n
    refine W.item i s _ _ hg st fun v h' tk hv st' kk=>?_
    obtain ⟨t,rfl⟩:=hv
    have I1:Inv X pins σ H { s with heap:=h',toks:=tk }:=I.turned (fun b o hb e=>kk b o (by simpa using hb) e) f0 f1 f3 f4 f5
    exact ⟨_,rfl,znL (s:={ s with heap:=h',toks:=tk }) (n:="range_iterator") st' rfl rfl (by decide) ⟨.int (lo + i * (-1)),H,I1,⟨t,rfl⟩,⟨rfl,rfl⟩,st',fun b hb=>(hf b hb).1⟩⟩
  done:=by
    intro X hP hw hK hc i pins s σ H E I hf st hg
    subst hP hw hK
    obtain ⟨f0,f1,f2,f3,f4,f5⟩:=hf it (by simp)
    exact wpAny_pyNext_range_end (I.ok.hd hc) st (by have:n <= i:=hg; omega) fun h' eb=>⟨rfl,I.turned (t':=s.toks) (fun b o hb e=>eb b o hb e) f0 f1 f3 f4 f5⟩
  self:=fun _ _ _ _ _ st h=>wpAny_pyIter_rangeiter st h
section
variable {S:Se} {X:Cx} {σ:St} {B:Addr -> Prop} {φ:Ph} {H:Hp} {p pos p3 p4:Pos} {a b tg:Expr} {ca cb:Ce}
theorem znk {pins:List (Addr × Obj)} {σ:St} {H:Hp} {s:Shared} {R:It -> Hp -> Prop} {E:Value -> Shared -> Prop} {lo hi:Int} {t u v:Tok} {tk:Nat} (I:Inv X pins σ H s) (h1:lo.natAbs < 1000000000) (h2:hi.natAbs < 1000000000)
    (q:R (Itd lo (lo - hi).toNat) H):wpAny (model X.prog X.w) X.A (pyIter (.ref s.heap.objs.size)) (PIE X pins σ tg R) E { s with heap:=s.heap.push { cls:=.type "range",data:=.fields #[.int lo t,.int hi u,.int (-1) v] },toks:=tk }:=by
  refine wpAny_pyIter_range (IsRange.new ..) ?_ ?_
  · unfold Builtin.Range.small
    have e2:Builtin.Range.rangeSize lo hi (-1) = ((lo - hi).toNat:Int):=by
      unfold Builtin.Range.rangeSize
      rw [if_neg (by decide)]
      split
      · rw [show -(-1:Int) = 1 by decide,Int.ediv_one]; omega
      · omega
    rw [e2]
    simp only [Builtin.Range.rangeFitsLong,Bool.and_eq_true,Bool.or_eq_true,decide_eq_true_eq,beq_iff_eq,show ¬ (-1:Int) > 0 by decide,if_false]
    omega
  have I1:Inv X pins σ H { s with heap:=s.heap.push { cls:=.type "range",data:=.fields #[.int lo t,.int hi u,.int (-1) v] },toks:=tk }:=I.kept fun b o e=>Heap.get?_push_of_some _ e
  refine ⟨(s.heap.push { cls:=.type "range",data:=.fields #[.int lo t,.int hi u,.int (-1) v] }).objs.size,[(s.heap.push { cls:=.type "range",data:=.fields #[.int lo t,.int hi u,.int (-1) v] }).objs.size],_,_,H,rfl,
    I1.kept (t':=tk) fun b o e=>Heap.get?_push_of_some _ e,zjW _ lo (lo - hi).toNat,?_,fun b hb=>?_,q⟩
  · have e1:lo + ((0:Nat):Int) * (-1) = lo:=by simp
    have e2:(((lo - hi).toNat:Nat):Int) - ((0:Nat):Int) = Builtin.Range.rangeSize lo hi (-1):=by
      unfold Builtin.Range.rangeSize
      rw [if_neg (by decide)]
      split
      · rw [show -(-1:Int) = 1 by decide,Int.ediv_one]; omega
      · omega
    show IsRangeIter _ _ (lo + ((0:Nat):Int) * (-1)) ((((lo - hi).toNat:Nat):Int) - ((0:Nat):Int)) (-1)
    rw [e1,e2]
    exact Heap.get?_push_size _ rfl
  · have e:b = (s.heap.push { cls:=.type "range",data:=.fields #[.int lo t,.int hi u,.int (-1) v] }).objs.size:=by simpa using hb
    subst e
    exact I1.fpOk (Nat.le_refl _) (I1.hok.fresh (Nat.le_refl _))
theorem zlj {lo:Int} {n:Nat}:Drw S X B φ H (rangeL n lo (-1)) (Itd lo n):=by
  refine ⟨fun φ' H' s=>by rw [zay]; exact Nat.le_refl _,fun i φ' H' s hi=>by rw [zay] at hi; exact hi,fun i φ' H' st x H2 B' hB s rs hi q=>?_⟩
  rw [zay] at hi
  obtain ⟨rfl,rfl⟩:=q
  refine ⟨.int (lo + i * (-1)),?_,by simp only [RepV],fun _ _ e=>e⟩
  rw [zbz,if_pos hi]
theorem zm8 {j:Nat} (hg:Gl X "range") (hm:X.mg "range" = none) (ha:PE X a (tE S X ca)) (hb:PE X b (tE S X cb)) (hs:starEach [a,b,.UnaryOp .USub (.Constant (.int 1) j p3) p4] X.env = [(false,eval a X.env),(false,eval b X.env),(false,eval (.UnaryOp .USub (.Constant (.int 1) j p3) p4) X.env)]:=by rfl)
    (hs1:starEach [b,.UnaryOp .USub (.Constant (.int 1) j p3) p4] X.env = [(false,eval b X.env),(false,eval (.UnaryOp .USub (.Constant (.int 1) j p3) p4) X.env)]:=by rfl) (hs2:starEach [.UnaryOp .USub (.Constant (.int 1) j p3) p4] X.env = [(false,eval (.UnaryOp .USub (.Constant (.int 1) j p3) p4) X.env)]:=by rfl) :
    PI X tg (.Call (.Name "range" p) [a,b,.UnaryOp .USub (.Constant (.int 1) j p3) p4] [] pos) (tI S X (.rangeD ca cb)):=by
  intro pins s σ H R I ⟨B,φ,st,ρ,rs,re,h⟩
  simp only [evi] at h
  have h0:(tCons (tE S X ca) (tCons (tE S X cb) (tCons (tUn (rU fun i=>.int (-i)) (tC (.int 1))) tNil))) σ H fun vs H1=>∃ i j:Int,vs = [.int i,.int j,.int (-1)] /\ i.natAbs < 1000000000 /\ j.natAbs < 1000000000 /\ R (Itd i (i - j).toNat) H1:=by
    refine tE.bind rs re h fun x H1 v st1 φ1 s1 rs1 re1 rv h1=>tE.bind rs1 re1 h1 fun y H2 w st2 φ2 s2 rs2 re2 rw h2=>?_
    obtain ⟨xs,e,h2⟩:=znr h2
    obtain ⟨i,j,rfl,rfl,hi,hj,rfl⟩:=zor e
    simp only [RepV] at rv rw
    subst rv rw
    exact ⟨1,rfl,i,j,rfl,hi,hj,h2.ok rs2 zlj⟩
  refine Call_ (zg5 I hg hm boot_range (PyProof.Rows.callWith_type1 (thn (zde ha (zde hb (zde (zrG zoE pe_int) pa_nil hs2) (by rw [hs1,hs2])) (by rw [hs,hs1]) pos pins s σ H _ I h0) fun us s1 ⟨vs,H1,I1,r1,q1⟩=>?_) (by rw [hs,hs1]) (by rw [hs1]; rfl)))
  obtain ⟨i,j,e,hi,hj,q⟩:=q1
  subst e
  cases r1 with
  | cons r rr =>
    cases rr with
    | cons r' rr =>
      cases rr with
      | cons r'' rr =>
        cases rr
        obtain ⟨t,rfl⟩:=r
        obtain ⟨t',rfl⟩:=r'
        obtain ⟨t'',rfl⟩:=r''
        exact call_range_3 (by decide) (znk I1 hi hj q) (.inl (PyProof.noPylong_small (by decide)))
end
end L2
namespace WK
open PySem L2 IC
theorem zae {K:PySem.W.Frag} {h:Heap} {mg:Str -> Option Value} {x:Str} {st:Stmt} {ps:List Str} {f:Addr} {oc:Value} {od an:Option Addr} {osl:Array (Option Value)} {kV doc pm cdv ct:Value} (X:K.In h) (G:h.Ns mainGlobals mg)
    (a:PySem.W.nsIn K mainGlobals x = some (some (.ref f))) (l:K.lookup f = some ⟨oc,od,.func (PySem.W.fnOf x x (defArgs st) (defBody st) (defScope st) .none kV doc pm an cdv ct),osl⟩) (c:PySem.W.codeIn K cdv x = true) (k:PySem.W.keepIn K (.ref f) = true)
    (hb:∀ (kV doc pm:Value) (an:Option Addr) (cdv ct:Value) (us:List Value),us.length = ps.length -> bindArgs (PySem.W.fnOf x x (defArgs st) (defBody st) (defScope st) .none kV doc pm an cdv ct) ⟨us,[]⟩ = pure (ps.zip us)) :
    Fn K mg x st ps f (PySem.W.fnOf x x (defArgs st) (defBody st) (defScope st) .none kV doc pm an cdv ct):=⟨zoI l c k,(zoI l c k).binds hb,PySem.W.mg_of X G a⟩
noncomputable def clx:Nat -> Addr:=fun _=>0
section
variable {K:PySem.W.Frag} {cl:Nat -> Addr} {B:Addr -> Prop} {φ:Ph} {H:Hp}
theorem zaH:RepL K cl B φ H [] []:=by simp only [RepL]
theorem zl {v:PV} {x:V} {vs:List PV} {xs:List V} (h:RepV K cl B φ H v x) (l:RepL K cl B φ H vs xs):RepL K cl B φ H (v :: vs) (x :: xs):=by
  simp only [RepL]
  exact ⟨x,xs,rfl,h,l⟩
theorem zaN {y:Addr} {d:Option Addr} {its:Array Value} {n:Nat} {sl:Array (Option Value)} {xs:List V} {vs:List PV} (h:K.lookup y = some ⟨.type "tuple",d,.seq its n,sl⟩) (hz:its.size <= 1000) (r:Vals xs its.toList) (l:RepL K cl B φ H vs xs):RepV K cl B φ H (.tp true vs) (.ref y):=by
  simp only [RepV]
  exact ⟨y,xs,rfl,.inr ⟨rfl,_,its,n,h,rfl,rfl,by rw [sizeLine_eq]; omega,r⟩,l⟩
end
theorem zqP {P:Program} {w:World} {outer:List PySem.Env} {H:Hp} {s:Shared} {e:Value} {s':Shared} (h:CX1 P w outer H s (fun _ _ _=>False) e s'):False:=by
  obtain ⟨_,_,_,_,_,_,_,_,_,_,_,_,_,_,z⟩:=h
  exact z
theorem zlS {K:PySem.W.Frag} {cl:Nat -> Addr} {B:Addr -> Prop} {φ:Ph} {H:Hp}:∀ ns:List Int,RepL K cl B φ H (ns.map .int) (ns.map V.int)
  | []=>zaH
  | n :: ns=>zl (by simp only [RepV]) (zlS ns)
theorem zmY {K:PySem.W.Frag} {call:Nat -> List PV -> Store -> R PV} {fi:Nat} {H:Hp} {a:Addr} {ns:List Int} (ht:∀ ns:List Int,ns.length <= 63 -> call fi [.scr (ns.map .int)] [] = .ok (.bl true) []) (hl:ns.length <= 63) (hS:SqL K H a (ns.map V.int)) :
    spI K clx call fi [.ref a] H (fun v _=>v = .bl true) fun _ _ _=>False:=by
  refine ⟨fun _=>False,[],[],[.scr (ns.map .int)],⟨rfl,fun m n a e=>by simp at e,fun n a e=>by simp at e,fun n o e=>by simp at e,fun a z=>by simp at z,fun a z=>z.elim⟩,zl ?_ zaH,?_⟩
  · simp only [RepV]
    refine ⟨a,_,rfl,?_,zlS ns⟩
    rcases hS with hS | hS
    · exact .inl ⟨hS,fun z=>z,by simp⟩
    · exact .inr hS
  · rw [ht ns hl]
    intro x H' φ' _ _ r
    simpa only [RepV] using r
end WK
namespace IC
open PySem
noncomputable def zg6:PV:=(.tp true [(.str (Str.ofString "f")),(.tp true [(.int 0),(.int 0),(.int 0),(.int 0)])])
noncomputable def zfq:PV:=(.tp true [(.int 0),(.int 0),(.int 1)])
noncomputable def zby:PV:=(.tp true [(.int 0),(.int 1),(.int 0)])
noncomputable def zoO:PV:=(.tp true [(.str (Str.ofString "turned")),(.str (Str.ofString "bare"))])
noncomputable def zhJ:PV:=(.tp true [(.tp true [(.str (Str.ofString "m")),(.tp true [(.int 0),(.int 0),(.int 0),(.int 0)])]),(.tp true [(.str (Str.ofString "m")),(.tp true [(.int 1),(.int 0),(.int 0),(.int 0)])]),(.tp true [(.str (Str.ofString "m")),(.tp true [(.int 2),(.int 0),(.int 0),(.int 0)])]),(.tp true [(.str (Str.ofString "m")),(.tp true [(.int 3),(.int 0),(.int 0),(.int 0)])])])
noncomputable def zh4:PV:=(.tp true [(.str (Str.ofString "z")),(.tp true [(.int 0),(.int 0),(.int 0),(.int 0)])])
noncomputable def zke:PV:=(.tp true [(.str (Str.ofString "sum")),(.str (Str.ofString "difference")),(.str (Str.ofString "compare")),(.str (Str.ofString "both")),(.str (Str.ofString "any")),(.str (Str.ofString "odd")),(.str (Str.ofString "product")),(.str (Str.ofString "signed product")),(.str (Str.ofString "quotient")),(.str (Str.ofString "signed quotient"))])
noncomputable def zg1:PV:=(.tp true [(.str (Str.ofString "both")),(.str (Str.ofString "any")),(.str (Str.ofString "odd"))])
noncomputable def zil:PV:=(.tp true [(.str (Str.ofString "s")),(.tp true [(.int 0),(.int 0),(.int 0),(.int 0)])])
noncomputable def zhm:PV:=(.tp true [(.str (Str.ofString "left")),(.str (Str.ofString "right")),(.str (Str.ofString "down")),(.str (Str.ofString "roll"))])
noncomputable def zhq:PV:=(.tp true [(.str (Str.ofString "t")),(.tp true [(.int 0),(.int 0),(.int 0),(.int 0)])])
noncomputable def zoM:Fn:=⟨5,5,true,(.cons (.ret (.tup (.cons (.var 0) (.cons (.tup (.cons (.var 1) (.cons (.var 2) (.cons (.var 3) (.cons (.var 4) .nil))))) .nil)))) .nil)⟩
noncomputable def zoX:Fn:=⟨1,1,true,(.cons (.ret (.blt .tuple (.cons (.comp [none] (.n 0) (.seq (.var 0)) (.cst (.bl true)) (.tup (.cons (.cst (.str (Str.ofString "row"))) (.cons (.var 0) .nil)))) .nil))) .nil)⟩
noncomputable def zj8:Fn:=⟨3,3,true,(.cons (.ret (.tup (.cons (.tup (.cons (.cst (.str (Str.ofString "rounds"))) (.cons (.var 0) (.cons (.var 1) (.cons (.var 2) .nil))))) .nil))) .nil)⟩
noncomputable def zkB:Fn:=⟨5,5,true,(.cons (.ret (.tup (.cons (.cst (.str (Str.ofString "slice"))) (.cons (.var 0) (.cons (.tup (.cons (.cst (.int 0)) (.cons (.cst (.int 0)) (.cons (.cst (.int 0)) (.cons (.cst (.int 0)) .nil))))) (.cons (.tup (.cons (.var 1) (.cons (.var 2) (.cons (.var 3) (.cons (.var 4) .nil))))) .nil)))))) .nil)⟩
noncomputable def zoC:Fn:=⟨6,6,true,(.cons (.ret (.tup (.cons (.var 0) (.cons (.tup (.cons (.cst (.int 0)) (.cons (.var 2) (.cons (.cst (.int 0)) (.cons (.var 3) (.cons (.var 4) (.cons (.var 5) .nil))))))) (.cons (.var 1) .nil))))) .nil)⟩
noncomputable def zlH:Fn:=⟨3,4,true,(.cons (.asg (.n 3) (.tup (.cons (.call 4 (appC (.cons (.cst (.int 1)) (.cons (.tup (.cons (.call 3 (appC (.cons (.var 1) .nil) (tailC [.inr 0,.inl (.cst (.int 1)),.inr 0,.inr 0]))) .nil)) .nil)) (tailC [.inr 0,.inr 0,.inr 0,.inr 0]))) (.cons (.call 4 (appC (.cons (.neg (.cst (.int 1))) (.cons (.tup (.cons (.call 3 (appC (.cons (.var 0) .nil) (tailC [.inr 0,.inl (.cst (.int 1)),.inr 0,.inr 0]))) .nil)) .nil)) (tailC [.inr 0,.inr 0,.inr 0,.inr 0]))) .nil)))) (.cons (.ret (.call 2 (.cons (.tup (.cons (.var 2) (.cons (.cst (.int 1)) (.cons (.cst (.int 0)) .nil)))) (.cons (.var 3) (.cons (.call 1 (.cons (.lst (.cons (.tup (.cons (.cst (.str (Str.ofString "move"))) (.cons (.call 0 (appC (.cons (.var 0) .nil) (tailC [.inr 0,.inl (.cst (.int 1)),.inr 0,.inr 0]))) (.cons (.call 0 (appC (.cons (.var 1) .nil) (tailC [.inr 0,.inl (.cst (.int 1)),.inr 0,.inr 0]))) .nil)))) .nil)) .nil)) .nil))))) .nil))⟩
noncomputable def zih:Fn:=⟨2,2,true,(.cons (.ret (.call 2 (.cons (.var 1) (.cons (.tup .nil) (.cons (.call 1 (.cons (.lst (.cons (.tup (.cons (.cst (.str (Str.ofString "twice"))) (.cons (.call 0 (appC (.cons (.var 0) .nil) (tailC [.inr 0,.inr 0,.inl (.cst (.int 1)),.inr 0]))) (.cons (.call 0 (appC (.cons (.var 0) .nil) (tailC [.inr 0,.inr 0,.inl (.cst (.int 1)),.inr 0]))) .nil)))) .nil)) .nil)) .nil))))) .nil)⟩
noncomputable def zgi:Fn:=⟨1,1,true,(.cons (.ret (.tup (.cons (.cst (.str (Str.ofString "sum"))) (.cons (.var 0) (.cons (.cst zh4) (.cons (.cst zh4) .nil)))))) .nil)⟩
noncomputable def zdc:Fn:=⟨1,1,true,(.cons (.ret (.lst (.cons (.tup (.cons (.cst (.str (Str.ofString "set"))) (.cons (.var 0) (.cons (.cst (.int 1)) .nil)))) (.cons (.tup (.cons (.cst (.str (Str.ofString "less"))) (.cons (.var 0) (.cons (.var 0) (.cons (.cst zh4) .nil))))) .nil)))) .nil)⟩
noncomputable def zeu:Fn:=⟨3,4,true,(.cons (.asg (.n 3) (.tup (.cons (.cst (.str (Str.ofString "any"))) (.cons (.cst zil) (.cons (.cst zil) (.cons (.call 0 (appC (.cons (.var 0) .nil) (tailC [.inr 0,.inl (.cst (.int 1)),.inr 0,.inl (.var 1)]))) .nil)))))) (.cons (.ret (.bin .add (.bin .add (.call 1 (.cons (.lst (.cons (.tup (.cons (.cst (.str (Str.ofString "set"))) (.cons (.cst zil) (.cons (.cst (.int 0)) .nil)))) .nil)) .nil)) (.call 2 (.cons (.var 2) (.cons (.tup .nil) (.cons (.call 1 (.cons (.lst (.cons (.var 3) .nil)) .nil)) .nil))))) (.call 1 (.cons (.lst (.cons (.tup (.cons (.cst (.str (Str.ofString "ask"))) (.cons (.cst zil) .nil))) .nil)) .nil)))) .nil))⟩
noncomputable def zdQ:Fn:=⟨2,3,true,(.cons (.asg (.n 2) (.lst (.cons (.tup (.cons (.cst (.str (Str.ofString "twice"))) (.cons (.cst zhq) (.cons (.call 0 (appC (.cons (.cst (.str (Str.ofString "c"))) (.cons (.bin .sub (.var 0) (.cst (.int 1))) .nil)) (tailC [.inr 0,.inr 0,.inl (.var 1)]))) .nil)))) (.cons (.call 7 (.cons (.idx (.cst zhJ) (.cst (.int 3))) .nil)) .nil)))) (.cons (.ret (.bin .add (.call 9 (.cons (.cst (.str (Str.ofString "c"))) (.cons (.cst (.int 0)) (.cons (.tup (.cons (.var 0) (.cons (.var 1) (.cons (.cst (.int 0)) .nil)))) .nil)))) (.call 1 (.cons (.bin .add (.call 8 (.cons (.idx (.cst zhJ) (.cst (.int 2))) .nil)) (.var 2)) .nil)))) .nil))⟩
noncomputable def zci:Fn:=⟨0,0,true,(.cons (.ret (.bin .add (.bin .add (.call 13 (.cons (.cst (.str (Str.ofString "a"))) (.cons (.cst (.str (Str.ofString "b"))) (.cons (.cst (.str (Str.ofString "c"))) (.cons (.cst (.str (Str.ofString "d"))) .nil))))) (.call 12 .nil)) (.call 10 (.cons (.cst (.int 0)) (.cons (.cst (.int 1)) .nil))))) .nil)⟩
noncomputable def zgB:Fn:=⟨0,0,true,(.cons (.ret (.bin .add (.call 9 (.cons (.cst (.str (Str.ofString "b"))) (.cons (.cst (.int 0)) (.cons (.cst zby) .nil)))) (.call 1 (.cons (.call 8 (.cons (.idx (.cst zhJ) (.cst (.int 0))) .nil)) .nil)))) .nil)⟩
noncomputable def zh8:Fn:=⟨4,6,true,(.cons (.asg (.n 4) (.tup (.cons (.call 4 (appC (.cons (.cst (.int 1)) (.cons (.tup (.cons (.call 3 (appC (.cons (.var 0) .nil) (tailC [.inr 0,.inr 0,.inr 0,.inl (.cst (.int 1))]))) .nil)) .nil)) (tailC [.inl (.cst (.int 1)),.inr 0,.inr 0,.inr 0]))) (.cons (.call 4 (appC (.cons (.neg (.cst (.int 1))) (.cons (.tup (.cons (.call 3 (appC (.cons (.var 2) .nil) (tailC [.inr 0,.inr 0,.inr 0,.inl (.cst (.int 1))]))) (.cons (.call 3 (appC (.cons (.var 1) .nil) (tailC [.inr 0,.inr 0,.inr 0,.inl (.cst (.int 1))]))) .nil))) .nil)) (tailC [.inr 0,.inr 0,.inr 0,.inl (.cst (.int 1))]))) (.cons (.call 4 (appC (.cons (.neg (.cst (.int 1))) (.cons (.tup (.cons (.call 3 (appC (.cons (.var 3) (.cons (.cst (.int 1)) .nil)) (tailC [.inr 0,.inr 0,.inl (.cst (.int 1))]))) .nil)) .nil)) (tailC [.inr 0,.inr 0,.inr 0,.inl (.cst (.int 1))]))) (.cons (.call 4 (appC (.cons (.neg (.cst (.int 1))) (.cons (.tup (.cons (.call 3 (appC (.cons (.cst (.str (Str.ofString "e"))) .nil) (tailC [.inr 0,.inr 0,.inr 0,.inl (.cst (.int 1))]))) .nil)) .nil)) (tailC [.inr 0,.inr 0,.inr 0,.inr 0]))) .nil)))))) (.cons (.asg (.n 5) (.bin .add (.bin .add (.bin .add (.call 14 (.cons (.var 3) .nil)) (.call 15 (.cons (.var 3) (.cons (.var 1) .nil)))) (.call 16 (.cons (.var 3) (.cons (.var 1) .nil)))) (.call 17 (.cons (.var 2) .nil)))) (.cons (.ret (.bin .add (.call 5 (appC (.cons (.cst (.str (Str.ofString "e"))) (.cons (.var 0) .nil)) (tailC [.inr 0]))) (.call 2 (.cons (.cst zfq) (.cons (.var 4) (.cons (.var 5) .nil)))))) .nil)))⟩
noncomputable def ze9:Fn:=⟨1,1,true,(.cons (.ret (.bin .add (.bin .add (.call 1 (.cons (.lst (.cons (.tup (.cons (.cst (.str (Str.ofString "mark"))) (.cons (.cst (.int 0)) .nil))) .nil)) .nil)) (.call 6 (.cons (.cst (.str (Str.ofString "e"))) (.cons (.cst zby) .nil)))) (.call 6 (.cons (.var 0) (.cons (.tup (.cons (.cst (.int 1)) (.cons (.cst (.int 1)) (.cons (.cst (.int 0)) .nil)))) .nil))))) .nil)⟩
noncomputable def zdS:Fn:=⟨2,4,true,(.cons (.asg (.n 2) (.tup (.cons (.cst (.str (Str.ofString "less"))) (.cons (.call 0 (appC (.cons (.var 0) .nil) (tailC [.inr 0,.inr 0,.inl (.cst (.int 1)),.inr 0]))) (.cons (.call 0 (appC (.cons (.var 0) .nil) (tailC [.inr 0,.inr 0,.inl (.cst (.int 1)),.inr 0]))) (.cons (.call 0 (appC (.cons (.var 1) .nil) (tailC [.inr 0,.inr 0,.inl (.cst (.int 1)),.inr 0]))) .nil)))))) (.cons (.asg (.n 3) (.call 0 (appC (.cons (.var 0) .nil) (tailC [.inr 0,.inr 0,.inr 0,.inl (.cst (.int 1))])))) (.cons (.ret (.bin .add (.call 2 (.cons (.cst zby) (.cons (.tup .nil) (.cons (.call 1 (.cons (.lst (.cons (.var 2) .nil)) .nil)) .nil)))) (.call 1 (.cons (.lst (.cons (.tup (.cons (.cst (.str (Str.ofString "less"))) (.cons (.var 3) (.cons (.var 3) (.cons (.cst zh4) .nil))))) .nil)) .nil)))) .nil)))⟩
noncomputable def zg7:Fn:=⟨2,5,true,(.cons (.asg (.n 2) (.lst (.cons (.tup (.cons (.cst (.str (Str.ofString "both"))) (.cons (.cst zhq) (.cons (.call 0 (appC (.cons (.var 1) .nil) (tailC [.inr 0,.inr 0,.inl (.cst (.int 1)),.inr 0]))) (.cons (.cst zg6) .nil))))) (.cons (.tup (.cons (.cst (.str (Str.ofString "sum"))) (.cons (.call 0 (appC (.cons (.var 0) .nil) (tailC [.inr 0,.inr 0,.inl (.cst (.int 1)),.inr 0]))) (.cons (.call 0 (appC (.cons (.var 0) .nil) (tailC [.inr 0,.inr 0,.inl (.cst (.int 1)),.inr 0]))) (.cons (.cst zhq) .nil))))) .nil)))) (.cons (.asg (.n 3) (.call 0 (appC (.cons (.var 0) .nil) (tailC [.inr 0,.inr 0,.inr 0,.inl (.cst (.int 1))])))) (.cons (.asg (.n 4) (.call 1 (.cons (.lst (.cons (.tup (.cons (.cst (.str (Str.ofString "less"))) (.cons (.cst zg6) (.cons (.cst zh4) (.cons (.cst zh4) .nil))))) (.cons (.tup (.cons (.cst (.str (Str.ofString "mark"))) (.cons (.cst (.int 0)) .nil))) .nil))) .nil))) (.cons (.ret (.bin .add (.bin .add (.var 4) (.call 2 (.cons (.cst zby) (.cons (.tup .nil) (.cons (.call 1 (.cons (.var 2) .nil)) .nil))))) (.call 1 (.cons (.lst (.cons (.tup (.cons (.cst (.str (Str.ofString "sum"))) (.cons (.var 3) (.cons (.var 3) (.cons (.cst zh4) .nil))))) .nil)) .nil)))) .nil))))⟩
noncomputable def zey:Fn:=⟨1,1,true,(.cons (.ret (.bin .add (.call 1 (.cons (.lst (.cons (.tup (.cons (.cst (.str (Str.ofString "bare"))) (.cons (.cst zg6) (.cons (.cst zg6) .nil)))) (.cons (.tup (.cons (.cst (.str (Str.ofString "ask"))) (.cons (.cst zg6) .nil))) .nil))) .nil)) (.call 6 (.cons (.var 0) (.cons (.cst zby) .nil))))) .nil)⟩
noncomputable def zi9:Fn:=⟨1,1,true,(.cons (.ite (.not (.call 19 (.cons (.var 0) .nil))) (.cons .nope .nil) .nil) (.cons (.ite (.cmp .eq (.idx (.var 0) (.cst (.int 0))) (.cst (.str (Str.ofString "led")))) (.cons .nope .nil) .nil) (.cons (.ite (.cmp .isin (.idx (.var 0) (.cst (.int 0))) (.cst zhm)) (.cons .nope .nil) .nil) (.cons (.ite (.cmp .isin (.idx (.var 0) (.cst (.int 0))) (.cst zg1)) (.cons .nope .nil) .nil) (.cons (.ret (.call 20 (.cons (.idx (.var 0) (.cst (.int 0))) .nil))) .nil)))))⟩
noncomputable def zix:Fn:=⟨1,1,true,(.cons (.ite (.or (.not (.isi (.var 0) [.tuple])) (.cmp .eq (.blt .len (.cons (.var 0) .nil)) (.cst (.int 0)))) (.cons .nope .nil) .nil) (.cons (.ite (.cmp .eq (.idx (.var 0) (.cst (.int 0))) (.cst (.str (Str.ofString "led")))) (.cons .nope .nil) .nil) (.cons (.ite (.cmp .isin (.idx (.var 0) (.cst (.int 0))) (.cst zhm)) (.cons .nope .nil) .nil) (.cons (.ret (.and (.cmp .eq (.blt .len (.cons (.var 0) .nil)) (.cst (.int 1))) (.or (.cmp .isin (.idx (.var 0) (.cst (.int 0))) (.cst zke)) (.cmp .isin (.idx (.var 0) (.cst (.int 0))) (.cst zoO))))) .nil))))⟩
noncomputable def zda:Fn:=⟨1,1,true,(.cons (.ite (.cmp .eq (.var 0) (.cst (.str (Str.ofString "sum")))) (.cons .nope .nil) .nil) (.cons (.ite (.cmp .eq (.var 0) (.cst (.str (Str.ofString "difference")))) (.cons .nope .nil) .nil) (.cons (.ite (.cmp .eq (.var 0) (.cst (.str (Str.ofString "turned")))) (.cons .nope .nil) .nil) (.cons (.ite (.cmp .eq (.var 0) (.cst (.str (Str.ofString "compare")))) (.cons .nope .nil) .nil) (.cons (.ite (.cmp .eq (.var 0) (.cst (.str (Str.ofString "bare")))) (.cons .nope .nil) .nil) (.cons (.ite (.cmp .eq (.var 0) (.cst (.str (Str.ofString "product")))) (.cons .nope .nil) .nil) (.cons (.ite (.cmp .eq (.var 0) (.cst (.str (Str.ofString "signed product")))) (.cons .nope .nil) .nil) (.cons (.ite (.cmp .eq (.var 0) (.cst (.str (Str.ofString "quotient")))) (.cons (.ret (.call 11 .nil)) .nil) .nil) (.cons .nope .nil)))))))))⟩
noncomputable def zfL:Fn:=⟨1,1,false,(.cons (.ret (.newl (.cons (.slc (.var 0) (.cst .non) (.cst (.int 63))) (.cons (.cst (.int 0)) (.cons (.cst (.int 0)) (.cons (.cst (.bl false)) .nil)))))) .nil)⟩
noncomputable def f_qmixed:Fn:=⟨1,8,true,(.cons (.asg (.n 1) (.tup (.cons (.cst (.int 2147483647)) (.cons (.cst (.int 2147483629)) (.cons (.cst (.int 2147483587)) (.cons (.cst (.int 2147483579)) (.cons (.cst (.int 2147483563)) .nil))))))) (.cons (.asg (.n 2) (.cst (.int 0))) (.cons (.for (.t [3,4]) (.enum (.var 1)) (.cons (.asg (.n 5) (.bin .add (.var 0) (.idx (.tup (.cons (.cst (.int 11)) (.cons (.cst (.int 101)) (.cons (.cst (.int 1009)) (.cons (.cst (.int 10007)) (.cons (.cst (.int 100003)) .nil)))))) (.var 3)))) (.cons (.asg (.n 5) (.bin .mod (.bin .mul (.var 5) (.bin .add (.cst (.int 48271)) (.bin .mul (.cst (.int 2)) (.var 3)))) (.var 4))) (.cons (.asg (.n 6) (.bin .mod (.bin .mul (.var 5) (.var 5)) (.var 4))) (.cons (.asg (.n 7) (.bin .mod (.bin .mul (.bin .mod (.bin .mul (.var 6) (.var 6)) (.var 4)) (.var 5)) (.var 4))) (.cons (.asg (.n 2) (.bin .add (.bin .mul (.var 2) (.var 4)) (.var 7))) .nil)))))) (.cons (.ret (.var 2)) .nil))))⟩
noncomputable def zec:Fn:=⟨1,4,false,(.cons (.asg (.t [1,2]) (.tup (.cons (.idx (.var 0) (.cst (.int 0))) (.cons (.idx (.var 0) (.cst (.int 1))) .nil)))) (.cons (.asg (.n 3) (.bin .add (.bin .mul (.cst (.int 31)) (.var 2)) (.cst (.int 7)))) (.cons (.ite (.cmp .gt (.blt .len (.cons (.var 1) .nil)) (.cst (.int 0))) (.cons (.asg (.n 3) (.bin .mul (.cst (.int 104729)) (.bin .fdiv (.var 2) (.blt .len (.cons (.var 1) .nil))))) (.cons (.asg (.n 3) (.bin .add (.var 3) (.idx (.var 1) (.bin .mod (.var 2) (.blt .len (.cons (.var 1) .nil)))))) .nil)) .nil) (.cons (.six (.var 0) (.cst (.int 1)) (.bin .add (.var 2) (.cst (.int 1)))) (.cons (.six (.var 0) (.cst (.int 3)) (.or (.cmp .ge (.var 2) (.blt .len (.cons (.var 1) .nil))) (.cmp .lt (.var 3) (.bin .pow (.cst (.int 10)) (.cst (.int 18)))))) (.cons (.ite (.idx (.var 0) (.cst (.int 3))) (.cons (.six (.var 0) (.cst (.int 2)) (.call 22 (.cons (.var 3) .nil))) .nil) (.cons (.six (.var 0) (.cst (.int 2)) (.bin .sub (.var 3) (.bin .pow (.cst (.int 10)) (.cst (.int 18))))) .nil)) .nil))))))⟩
noncomputable def f_qtake:Fn:=⟨2,4,false,(.cons (.asg (.n 2) (.cst (.int 0))) (.cons (.while (.and (.cmp .lt (.var 2) (.cst (.int 64))) (.or (.cmp .eq (.idx (.var 0) (.cst (.int 2))) (.cst (.int 0))) (.and (.idx (.var 0) (.cst (.int 3))) (.cmp .lt (.idx (.var 0) (.cst (.int 2))) (.bin .mul (.var 1) (.cst (.int 4096))))))) (.cons (.expr (.call 23 (.cons (.var 0) .nil))) (.cons (.aug 2 .add (.cst (.int 1))) (.cons (.ite (.and (.idx (.var 0) (.cst (.int 3))) (.cmp .lt (.idx (.var 0) (.cst (.int 2))) (.bin .mul (.var 1) (.cst (.int 4096))))) (.cons (.six (.var 0) (.cst (.int 2)) (.bin .add (.idx (.var 0) (.cst (.int 2))) (.bin .mul (.bin .mul (.var 1) (.cst (.int 4096))) (.bin .add (.cst (.int 1)) (.bin .mod (.idx (.var 0) (.cst (.int 2))) (.cst (.int 4093))))))) .nil) .nil) .nil)))) (.cons (.asg (.n 3) (.bin .mod (.idx (.var 0) (.cst (.int 2))) (.var 1))) (.cons (.six (.var 0) (.cst (.int 2)) (.bin .fdiv (.idx (.var 0) (.cst (.int 2))) (.var 1))) (.cons (.ret (.var 3)) .nil)))))⟩
noncomputable def f_qworth:Fn:=⟨3,13,false,(.cons (.asg (.n 3) (.call 24 (.cons (.var 0) (.cons (.cst (.int 12)) .nil)))) (.cons (.asg (.n 4) (.cst (.int 1))) (.cons (.for (.n 5) (.range1 (.bin .mul (.var 1) (.var 2))) (.cons (.asg (.n 4) (.bin .mul (.cst (.int 2)) (.var 4))) .nil)) (.cons (.asg (.n 6) (.tup (.cons (.cst (.int 0)) (.cons (.cst (.int 1)) (.cons (.bin .sub (.var 4) (.cst (.int 1))) (.cons (.bin .fdiv (.var 4) (.cst (.int 2))) (.cons (.bin .sub (.bin .fdiv (.var 4) (.cst (.int 2))) (.cst (.int 1))) (.cons (.bin .sub (.var 4) (.cst (.int 2))) .nil)))))))) (.cons (.ite (.cmp .lt (.var 3) (.cst (.int 6))) (.cons (.ret (.idx (.var 6) (.var 3))) .nil) .nil) (.cons (.asg (.n 7) (.call 24 (.cons (.var 0) (.cons (.var 4) .nil)))) (.cons (.ite (.cmp .eq (.var 3) (.cst (.int 6))) (.cons (.asg (.n 8) (.cst (.int 1))) (.cons (.for (.n 5) (.range1 (.call 24 (.cons (.var 0) (.cons (.bin .mul (.var 1) (.var 2)) .nil)))) (.cons (.asg (.n 8) (.bin .mul (.cst (.int 2)) (.var 8))) .nil)) (.cons (.ret (.bin .mul (.bin .fdiv (.var 7) (.var 8)) (.var 8))) .nil))) .nil) (.cons (.ite (.cmp .eq (.var 3) (.cst (.int 7))) (.cons (.asg (.n 8) (.cst (.int 1))) (.cons (.for (.n 5) (.range1 (.call 24 (.cons (.var 0) (.cons (.bin .mul (.var 1) (.var 2)) .nil)))) (.cons (.asg (.n 8) (.bin .mul (.cst (.int 2)) (.var 8))) .nil)) (.cons (.ret (.bin .sub (.var 4) (.var 8))) .nil))) .nil) (.cons (.ite (.cmp .gt (.var 3) (.cst (.int 9))) (.cons (.ret (.var 7)) .nil) .nil) (.cons (.asg (.n 9) (.cst (.int 1))) (.cons (.for (.n 5) (.range1 (.var 1)) (.cons (.asg (.n 9) (.bin .mul (.cst (.int 2)) (.var 9))) .nil)) (.cons (.asg (.n 10) (.cst (.int 0))) (.cons (.for (.n 5) (.range1 (.var 2)) (.cons (.asg (.n 11) (.bin .mod (.bin .fdiv (.var 7) (.bin .add (.var 5) (.cst (.int 1)))) (.var 9))) (.cons (.asg (.n 12) (.tup (.cons (.cst (.int 0)) (.cons (.cst (.int 1)) (.cons (.bin .sub (.var 9) (.cst (.int 1))) (.cons (.bin .fdiv (.var 9) (.cst (.int 2))) (.cons (.var 11) .nil))))))) (.cons (.asg (.n 10) (.bin .add (.bin .mul (.var 10) (.var 9)) (.idx (.var 12) (.call 24 (.cons (.var 0) (.cons (.cst (.int 5)) .nil)))))) .nil)))) (.cons (.ret (.var 10)) .nil))))))))))))))⟩
noncomputable def zem:Fn:=⟨1,3,true,(.cons (.asg (.n 1) (.cst (.int 1))) (.cons (.for (.n 2) (.range1 (.var 0)) (.cons (.asg (.n 1) (.bin .mul (.cst (.int 2)) (.var 1))) .nil)) (.cons (.ret (.var 1)) .nil)))⟩
noncomputable def zfK:Fn:=⟨3,6,true,(.cons (.asg (.n 3) (.call 26 (.cons (.var 1) .nil))) (.cons (.asg (.n 4) (.newl .nil)) (.cons (.for (.n 5) (.range1 (.var 2)) (.cons (.expr (.mth .append (.var 4) (.cons (.bin .mod (.var 0) (.var 3)) .nil))) (.cons (.asg (.n 0) (.bin .fdiv (.var 0) (.var 3))) .nil))) (.cons (.ret (.blt .tuple (.cons (.var 4) .nil))) .nil))))⟩
noncomputable def zj6:Fn:=⟨1,1,true,(.cons (.ret (.and (.isi (.var 0) [.int]) (.not (.isi (.var 0) [.bool])))) .nil)⟩
noncomputable def ziP:Fn:=⟨3,3,true,(.cons (.ite (.or (.not (.isi (.var 0) [.tuple])) (.cmp .ne (.blt .len (.cons (.var 0) .nil)) (.var 1))) (.cons .nope .nil) .nil) (.cons (.ret (.blt .all (.cons (.comp [none,some 2] (.n 0) (.seq (.var 0)) (.cst (.bl true)) (.and (.call 28 (.cons (.var 0) .nil)) (.chain .le .le (.bin .sub (.cst (.int 0)) (.var 1)) (.var 0) (.var 1)))) .nil))) .nil))⟩
noncomputable def ziU:Fn:=⟨1,1,true,(.cons (.ret (.and (.isi (.var 0) [.str]) (.and (.cmp .eq (.blt .len (.cons (.var 0) .nil)) (.cst (.int 1))) (.cmp .isin (.var 0) (.cst (.str (Str.ofString "abcdefghijklmnopqrstuvwxyz"))))))) .nil)⟩
noncomputable def zeI:Fn:=⟨1,1,true,(.cons (.ret (.and (.isi (.var 0) [.tuple]) (.and (.cmp .eq (.blt .len (.cons (.var 0) .nil)) (.cst (.int 2))) (.and (.call 30 (.cons (.idx (.var 0) (.cst (.int 0))) .nil)) (.call 29 (.cons (.idx (.var 0) (.cst (.int 1))) (.cons (.cst (.int 4)) (.cons (.cst (.int 200)) .nil)))))))) .nil)⟩
noncomputable def zdW:Fn:=⟨1,2,true,(.cons (.ite (.or (.not (.isi (.var 0) [.tuple])) (.or (.cmp .lt (.blt .len (.cons (.var 0) .nil)) (.cst (.int 2))) (.not (.isi (.idx (.var 0) (.cst (.int 0))) [.str])))) (.cons .nope .nil) .nil) (.cons (.ite (.cmp .eq (.idx (.var 0) (.cst (.int 0))) (.cst (.str (Str.ofString "mark")))) (.cons (.ret (.and (.cmp .eq (.blt .len (.cons (.var 0) .nil)) (.cst (.int 2))) (.and (.call 28 (.cons (.idx (.var 0) (.cst (.int 1))) .nil)) (.cmp .isin (.idx (.var 0) (.cst (.int 1))) (.tup (.cons (.cst (.int 0)) (.cons (.cst (.int 1)) .nil))))))) .nil) .nil) (.cons (.ite (.cmp .eq (.idx (.var 0) (.cst (.int 0))) (.cst (.str (Str.ofString "ask")))) (.cons (.ret (.and (.cmp .eq (.blt .len (.cons (.var 0) .nil)) (.cst (.int 2))) (.call 31 (.cons (.idx (.var 0) (.cst (.int 1))) .nil)))) .nil) .nil) (.cons (.ite (.cmp .eq (.idx (.var 0) (.cst (.int 0))) (.cst (.str (Str.ofString "set")))) (.cons (.ret (.and (.cmp .eq (.blt .len (.cons (.var 0) .nil)) (.cst (.int 3))) (.and (.call 31 (.cons (.idx (.var 0) (.cst (.int 1))) .nil)) (.and (.call 28 (.cons (.idx (.var 0) (.cst (.int 2))) .nil)) (.cmp .isin (.idx (.var 0) (.cst (.int 2))) (.tup (.cons (.cst (.int 0)) (.cons (.cst (.int 1)) .nil)))))))) .nil) .nil) (.cons (.asg (.n 1) (.newd [((Str.ofString "move"),3),((Str.ofString "bare"),3),((Str.ofString "twice"),3),((Str.ofString "half"),3),((Str.ofString "sum"),4),((Str.ofString "less"),4),((Str.ofString "both"),4),((Str.ofString "any"),4),((Str.ofString "odd"),4)])) (.cons (.dput (.var 1) (.cst (.str (Str.ofString "times"))) (.cst (.int 5))) (.cons (.ite (.or (.cmp .ne (.mth .get (.var 1) (.cons (.idx (.var 0) (.cst (.int 0))) (.cons (.cst (.int 0)) .nil))) (.blt .len (.cons (.var 0) .nil))) (.not (.blt .all (.cons (.comp [none] (.n 0) (.seq (.slc (.var 0) (.cst (.int 1)) (.cst .non))) (.cst (.bl true)) (.call 31 (.cons (.var 0) .nil))) .nil)))) (.cons .nope .nil) .nil) (.cons (.ret (.or (.cmp .ne (.idx (.var 0) (.cst (.int 0))) (.cst (.str (Str.ofString "times")))) (.cmp .ne (.idx (.var 0) (.cst (.int 1))) (.idx (.var 0) (.cst (.int 2)))))) .nil))))))))⟩
noncomputable def zkq:Fn:=⟨1,1,true,(.cons (.ite (.cmp .eq (.var 0) (.tup (.cons (.cst (.str (Str.ofString "mark"))) .nil))) (.cons .nope .nil) .nil) (.cons (.ite (.or (.not (.isi (.var 0) [.tuple])) (.or (.cmp .ne (.blt .len (.cons (.var 0) .nil)) (.cst (.int 4))) (.or (.cmp .ne (.idx (.var 0) (.cst (.int 0))) (.cst (.str (Str.ofString "slice")))) (.not (.call 30 (.cons (.idx (.var 0) (.cst (.int 1))) .nil)))))) (.cons .nope .nil) .nil) (.cons (.ret (.and (.call 29 (.cons (.idx (.var 0) (.cst (.int 2))) (.cons (.cst (.int 4)) (.cons (.cst (.int 200)) .nil)))) (.call 29 (.cons (.idx (.var 0) (.cst (.int 3))) (.cons (.cst (.int 4)) (.cons (.cst (.int 200)) .nil)))))) .nil)))⟩
noncomputable def zdP:Fn:=⟨1,2,true,(.cons (.ite (.or (.not (.isi (.var 0) [.tuple])) (.cmp .gt (.blt .len (.cons (.var 0) .nil)) (.cst (.int 20)))) (.cons .nope .nil) .nil) (.cons (.for (.n 1) (.seq (.var 0)) (.cons (.ite (.or (.not (.isi (.var 1) [.tuple])) (.or (.cmp .ne (.blt .len (.cons (.var 1) .nil)) (.cst (.int 3))) (.not (.call 29 (.cons (.idx (.var 1) (.cst (.int 1))) (.cons (.cst (.int 6)) (.cons (.cst (.int 200)) .nil))))))) (.cons .nope .nil) .nil) (.cons (.ite (.or (.not (.call 28 (.cons (.idx (.var 1) (.cst (.int 0))) .nil))) (.or (.cmp .ge (.blt .abs (.cons (.idx (.var 1) (.cst (.int 0))) .nil)) (.bin .pow (.cst (.int 10)) (.cst (.int 40)))) (.not (.isi (.idx (.var 1) (.cst (.int 2))) [.tuple])))) (.cons .nope .nil) .nil) (.cons (.ite (.or (.cmp .gt (.blt .len (.cons (.idx (.var 1) (.cst (.int 2))) .nil)) (.cst (.int 2))) (.not (.blt .all (.cons (.comp [none] (.n 0) (.seq (.idx (.var 1) (.cst (.int 2)))) (.cst (.bl true)) (.call 33 (.cons (.var 0) .nil))) .nil)))) (.cons .nope .nil) .nil) .nil)))) (.cons (.ret (.cst (.bl true))) .nil)))⟩
noncomputable def znj:Fn:=⟨2,2,true,(.cons (.ite (.or (.not (.isi (.var 0) [.tuple])) (.cmp .lt (.blt .len (.cons (.var 0) .nil)) (.cst (.int 2)))) (.cons .nope .nil) .nil) (.cons (.ite (.cmp .eq (.idx (.var 0) (.cst (.int 0))) (.cst (.str (Str.ofString "row")))) (.cons (.ret (.and (.cmp .eq (.blt .len (.cons (.var 0) .nil)) (.cst (.int 2))) (.call 32 (.cons (.idx (.var 0) (.cst (.int 1))) .nil)))) .nil) .nil) (.cons (.ite (.or (.cmp .ne (.idx (.var 0) (.cst (.int 0))) (.cst (.str (Str.ofString "rounds")))) (.or (.cmp .ne (.blt .len (.cons (.var 0) .nil)) (.cst (.int 4))) (.or (.cmp .gt (.var 1) (.cst (.int 1))) (.not (.call 29 (.cons (.idx (.var 0) (.cst (.int 1))) (.cons (.cst (.int 3)) (.cons (.cst (.int 200)) .nil)))))))) (.cons .nope .nil) .nil) (.cons (.ite (.or (.not (.call 34 (.cons (.idx (.var 0) (.cst (.int 2))) .nil))) (.not (.isi (.idx (.var 0) (.cst (.int 3))) [.tuple]))) (.cons .nope .nil) .nil) (.cons (.ret (.blt .all (.cons (.comp [none,some 1] (.n 0) (.seq (.idx (.var 0) (.cst (.int 3)))) (.cst (.bl true)) (.call 35 (.cons (.var 0) (.cons (.bin .add (.var 1) (.cst (.int 1))) .nil)))) .nil))) .nil)))))⟩
noncomputable def zez:Fn:=⟨1,1,true,(.cons (.ret (.and (.isi (.var 0) [.tuple]) (.blt .all (.cons (.comp [none] (.n 0) (.seq (.var 0)) (.cst (.bl true)) (.call 35 (.cons (.var 0) (.cons (.cst (.int 0)) .nil)))) .nil)))) .nil)⟩
noncomputable def znX:Fn:=⟨4,4,true,(.cons (.ret (.bin .add (.bin .add (.bin .add (.idx (.var 0) (.cst (.int 0))) (.bin .mul (.idx (.var 0) (.cst (.int 1))) (.var 1))) (.bin .mul (.idx (.var 0) (.cst (.int 2))) (.var 2))) (.bin .mul (.idx (.var 0) (.cst (.int 3))) (.var 3)))) .nil)⟩
noncomputable def f_qplain_row:Fn:=⟨4,6,true,(.cons (.asg (.n 4) (.newl (.cons (.idx (.var 0) (.cst (.int 0))) .nil))) (.cons (.for (.n 5) (.seq (.slc (.var 0) (.cst (.int 1)) (.cst .non))) (.cons (.ite (.isi (.var 5) [.tuple]) (.cons (.expr (.mth .append (.var 4) (.cons (.tup (.cons (.idx (.var 5) (.cst (.int 0))) (.cons (.call 37 (.cons (.idx (.var 5) (.cst (.int 1))) (.cons (.var 1) (.cons (.var 2) (.cons (.var 3) .nil))))) .nil))) .nil))) .nil) (.cons (.expr (.mth .append (.var 4) (.cons (.var 5) .nil))) .nil)) .nil)) (.cons (.ret (.blt .tuple (.cons (.var 4) .nil))) .nil)))⟩
noncomputable def zbc:Fn:=⟨4,5,false,(.cons (.asg (.n 4) (.mth .get (.var 0) (.cons (.idx (.var 2) (.cst (.int 2))) (.cons (.cst (.int 0)) .nil)))) (.cons (.ite (.cmp .eq (.idx (.var 2) (.cst (.int 0))) (.cst (.str (Str.ofString "move")))) (.cons (.dput (.var 0) (.idx (.var 2) (.cst (.int 1))) (.var 4)) .nil) .nil) (.cons (.ite (.cmp .eq (.idx (.var 2) (.cst (.int 0))) (.cst (.str (Str.ofString "bare")))) (.cons (.dput (.var 0) (.idx (.var 2) (.cst (.int 1))) (.bin .sub (.bin .sub (.var 3) (.cst (.int 1))) (.var 4))) .nil) .nil) (.cons (.ite (.cmp .eq (.idx (.var 2) (.cst (.int 0))) (.cst (.str (Str.ofString "twice")))) (.cons (.dput (.var 0) (.idx (.var 2) (.cst (.int 1))) (.bin .mod (.bin .add (.bin .mul (.cst (.int 2)) (.var 4)) (.var 1)) (.var 3))) (.cons (.ret (.bin .fdiv (.bin .add (.bin .mul (.cst (.int 2)) (.var 4)) (.var 1)) (.var 3))) .nil)) .nil) (.cons (.ite (.cmp .eq (.idx (.var 2) (.cst (.int 0))) (.cst (.str (Str.ofString "half")))) (.cons (.dput (.var 0) (.idx (.var 2) (.cst (.int 1))) (.bin .add (.bin .fdiv (.var 4) (.cst (.int 2))) (.bin .mul (.var 1) (.bin .fdiv (.var 3) (.cst (.int 2)))))) (.cons (.ret (.bin .mod (.var 4) (.cst (.int 2)))) .nil)) .nil) (.cons (.ret (.var 1)) .nil))))))⟩
noncomputable def zbd:Fn:=⟨4,7,false,(.cons (.ite (.cmp .eq (.idx (.var 2) (.cst (.int 0))) (.cst (.str (Str.ofString "mark")))) (.cons (.ret (.idx (.var 2) (.cst (.int 1)))) .nil) .nil) (.cons (.ite (.cmp .eq (.idx (.var 2) (.cst (.int 0))) (.cst (.str (Str.ofString "ask")))) (.cons (.ret (.blt .int (.cons (.cmp .ne (.mth .get (.var 0) (.cons (.idx (.var 2) (.cst (.int 1))) (.cons (.cst (.int 0)) .nil))) (.cst (.int 0))) .nil))) .nil) .nil) (.cons (.ite (.cmp .eq (.idx (.var 2) (.cst (.int 0))) (.cst (.str (Str.ofString "set")))) (.cons (.dput (.var 0) (.idx (.var 2) (.cst (.int 1))) (.idx (.var 2) (.cst (.int 2)))) (.cons (.ret (.var 1)) .nil)) .nil) (.cons (.ite (.cmp .eq (.blt .len (.cons (.var 2) .nil)) (.cst (.int 3))) (.cons (.ret (.call 39 (.cons (.var 0) (.cons (.var 1) (.cons (.var 2) (.cons (.var 3) .nil)))))) .nil) .nil) (.cons (.ite (.cmp .eq (.idx (.var 2) (.cst (.int 0))) (.cst (.str (Str.ofString "times")))) (.cons (.asg (.n 4) (.bin .mul (.mth .get (.var 0) (.cons (.idx (.var 2) (.cst (.int 3))) (.cons (.cst (.int 0)) .nil))) (.mth .get (.var 0) (.cons (.idx (.var 2) (.cst (.int 4))) (.cons (.cst (.int 0)) .nil))))) (.cons (.dput (.var 0) (.idx (.var 2) (.cst (.int 1))) (.bin .mod (.var 4) (.var 3))) (.cons (.dput (.var 0) (.idx (.var 2) (.cst (.int 2))) (.bin .fdiv (.var 4) (.var 3))) (.cons (.ret (.var 1)) .nil)))) .nil) (.cons (.asg (.n 5) (.mth .get (.var 0) (.cons (.idx (.var 2) (.cst (.int 2))) (.cons (.cst (.int 0)) .nil)))) (.cons (.asg (.n 6) (.mth .get (.var 0) (.cons (.idx (.var 2) (.cst (.int 3))) (.cons (.cst (.int 0)) .nil)))) (.cons (.ite (.cmp .eq (.idx (.var 2) (.cst (.int 0))) (.cst (.str (Str.ofString "sum")))) (.cons (.dput (.var 0) (.idx (.var 2) (.cst (.int 1))) (.bin .mod (.bin .add (.bin .add (.var 5) (.var 6)) (.var 1)) (.var 3))) (.cons (.ret (.bin .fdiv (.bin .add (.bin .add (.var 5) (.var 6)) (.var 1)) (.var 3))) .nil)) .nil) (.cons (.ite (.cmp .eq (.idx (.var 2) (.cst (.int 0))) (.cst (.str (Str.ofString "less")))) (.cons (.dput (.var 0) (.idx (.var 2) (.cst (.int 1))) (.bin .mod (.bin .sub (.bin .sub (.var 5) (.var 6)) (.var 1)) (.var 3))) (.cons (.ret (.blt .int (.cons (.cmp .lt (.bin .sub (.bin .sub (.var 5) (.var 6)) (.var 1)) (.cst (.int 0))) .nil))) .nil)) .nil) (.cons (.ite (.cmp .eq (.idx (.var 2) (.cst (.int 0))) (.cst (.str (Str.ofString "both")))) (.cons (.dput (.var 0) (.idx (.var 2) (.cst (.int 1))) (.bin .band (.var 5) (.var 6))) .nil) .nil) (.cons (.ite (.cmp .eq (.idx (.var 2) (.cst (.int 0))) (.cst (.str (Str.ofString "any")))) (.cons (.dput (.var 0) (.idx (.var 2) (.cst (.int 1))) (.bin .bor (.var 5) (.var 6))) .nil) .nil) (.cons (.ite (.cmp .eq (.idx (.var 2) (.cst (.int 0))) (.cst (.str (Str.ofString "odd")))) (.cons (.dput (.var 0) (.idx (.var 2) (.cst (.int 1))) (.bin .bxor (.var 5) (.var 6))) .nil) .nil) (.cons (.ret (.var 1)) .nil)))))))))))))⟩
noncomputable def zfM:Fn:=⟨3,3,true,(.cons (.ret (.bin .add (.bin .add (.idx (.var 0) (.cst (.int 0))) (.bin .mul (.idx (.var 0) (.cst (.int 1))) (.var 2))) (.bin .mul (.bin .mul (.idx (.var 0) (.cst (.int 2))) (.var 1)) (.var 2)))) .nil)⟩
noncomputable def f_qunrolled:Fn:=⟨4,11,true,(.cons (.asg (.n 4) (.newl .nil)) (.cons (.asg (.n 5) (.cst (.int 0))) (.cons (.for (.n 6) (.seq (.var 0)) (.cons (.ite (.cmp .eq (.idx (.var 6) (.cst (.int 0))) (.cst (.str (Str.ofString "row")))) (.cons (.expr (.mth .append (.var 4) (.cons (.call 38 (.cons (.idx (.var 6) (.cst (.int 1))) (.cons (.cst (.int 0)) (.cons (.cst (.int 0)) (.cons (.var 2) .nil))))) .nil))) .nil) (.cons (.for (.n 7) (.range1 (.blt .min (.cons (.call 41 (.cons (.idx (.var 6) (.cst (.int 1))) (.cons (.var 1) (.cons (.var 2) .nil)))) (.cons (.cst (.int 4001)) .nil)))) (.cons (.aug 5 .add (.cst (.int 1))) (.cons (.for (.n 8) (.seq (.idx (.var 6) (.cst (.int 3)))) (.cons (.ite (.cmp .eq (.idx (.var 8) (.cst (.int 0))) (.cst (.str (Str.ofString "row")))) (.cons (.expr (.mth .append (.var 4) (.cons (.call 38 (.cons (.idx (.var 8) (.cst (.int 1))) (.cons (.var 7) (.cons (.cst (.int 0)) (.cons (.var 2) .nil))))) .nil))) .nil) (.cons (.ite (.and (.cmp .le (.var 5) (.cst (.int 4000))) (.cmp .le (.blt .len (.cons (.var 4) .nil)) (.var 3))) (.cons (.asg (.n 9) (.blt .min (.cons (.blt .max (.cons (.cst (.int 0)) (.cons (.call 41 (.cons (.idx (.var 8) (.cst (.int 1))) (.cons (.var 1) (.cons (.var 2) .nil)))) .nil))) (.cons (.cst (.int 4001)) .nil)))) (.cons (.aug 5 .add (.var 9)) (.cons (.for (.n 10) (.range1 (.var 9)) (.cons (.ite (.and (.cmp .le (.var 5) (.cst (.int 4000))) (.cmp .le (.blt .len (.cons (.var 4) .nil)) (.var 3))) (.cons (.expr (.mth .extend (.var 4) (.cons (.comp [none,some 7,some 10,some 2] (.n 0) (.seq (.idx (.var 8) (.cst (.int 3)))) (.cst (.bl true)) (.call 38 (.cons (.idx (.var 0) (.cst (.int 1))) (.cons (.var 1) (.cons (.var 2) (.cons (.var 3) .nil)))))) .nil))) .nil) .nil) .nil)) .nil))) .nil) .nil)) .nil)) (.cons (.ite (.or (.cmp .gt (.var 5) (.cst (.int 4000))) (.cmp .gt (.blt .len (.cons (.var 4) .nil)) (.var 3))) (.cons (.ret (.cst .non)) .nil) .nil) .nil)))) .nil)) .nil)) (.cons (.ite (.cmp .gt (.blt .len (.cons (.var 4) .nil)) (.var 3)) (.cons (.ret (.cst .non)) .nil) .nil) (.cons (.ret (.frz (.var 4))) .nil)))))⟩
noncomputable def f_qrows_right:Fn:=⟨1,3,true,(.cons (.for (.n 1) (.seq (.var 0)) (.cons (.for (.n 2) (.seq (.slc (.var 1) (.cst (.int 1)) (.cst .non))) (.cons (.ite (.and (.isi (.var 2) [.tuple]) (.not (.chain .le .le (.cst (.int 0)) (.idx (.var 2) (.cst (.int 1))) (.cst (.int 99))))) (.cons (.ret (.cst (.bl false))) .nil) .nil) .nil)) (.cons (.ite (.and (.cmp .eq (.idx (.var 1) (.cst (.int 0))) (.cst (.str (Str.ofString "times")))) (.or (.cmp .eq (.idx (.var 1) (.cst (.int 1))) (.idx (.var 1) (.cst (.int 2)))) (.cmp .isin (.idx (.idx (.var 1) (.cst (.int 2))) (.cst (.int 0))) (.cst (.str (Str.ofString "ab")))))) (.cons (.ret (.cst (.bl false))) .nil) .nil) (.cons (.ite (.and (.cmp .notin (.idx (.var 1) (.cst (.int 0))) (.tup (.cons (.cst (.str (Str.ofString "mark"))) (.cons (.cst (.str (Str.ofString "ask"))) .nil)))) (.cmp .isin (.idx (.idx (.var 1) (.cst (.int 1))) (.cst (.int 0))) (.cst (.str (Str.ofString "ab"))))) (.cons (.ret (.cst (.bl false))) .nil) .nil) .nil)))) (.cons (.ret (.cst (.bl true))) .nil))⟩
noncomputable def zfI:Fn:=⟨4,7,false,(.cons (.asg (.n 4) (.dict0 true)) (.cons (.for (.t [5,6]) (.enum (.call 27 (.cons (.var 2) (.cons (.var 0) (.cons (.var 1) .nil))))) (.cons (.dput (.var 4) (.tup (.cons (.cst (.str (Str.ofString "a"))) (.cons (.var 5) .nil))) (.var 6)) .nil)) (.cons (.for (.t [5,6]) (.enum (.call 27 (.cons (.var 3) (.cons (.var 0) (.cons (.var 1) .nil))))) (.cons (.dput (.var 4) (.tup (.cons (.cst (.str (Str.ofString "b"))) (.cons (.var 5) .nil))) (.var 6)) .nil)) (.cons (.ret (.var 4)) .nil))))⟩
noncomputable def f_qrun:Fn:=⟨5,10,false,(.cons (.ite (.not (.call 36 (.cons (.var 0) .nil))) (.cons .nope .nil) .nil) (.cons (.asg (.n 5) (.call 42 (.cons (.var 0) (.cons (.var 1) (.cons (.var 2) (.cons (.cst (.int 4000)) .nil)))))) (.cons (.ite (.or (.cmp .is (.var 5) (.cst .non)) (.not (.call 43 (.cons (.var 5) .nil)))) (.cons .nope .nil) .nil) (.cons (.asg (.n 6) (.call 44 (.cons (.var 1) (.cons (.var 2) (.cons (.var 3) (.cons (.var 4) .nil)))))) (.cons (.asg (.n 7) (.call 26 (.cons (.var 1) .nil))) (.cons (.asg (.n 8) (.cst (.int 0))) (.cons (.for (.n 9) (.seq (.var 5)) (.cons (.asg (.n 8) (.call 40 (.cons (.var 6) (.cons (.var 8) (.cons (.var 9) (.cons (.var 7) .nil)))))) .nil)) (.cons (.ret (.var 6)) .nil))))))))⟩
noncomputable def zhU:Fn:=⟨4,7,false,(.cons (.asg (.n 4) (.call 26 (.cons (.var 3) .nil))) (.cons (.asg (.n 5) (.cst (.int 0))) (.cons (.for (.n 6) (.rangeD (.bin .sub (.var 2) (.cst (.int 1))) (.neg (.cst (.int 1)))) (.cons (.asg (.n 5) (.bin .add (.bin .mul (.var 5) (.var 4)) (.mth .get (.var 0) (.cons (.tup (.cons (.var 1) (.cons (.var 6) .nil))) (.cons (.cst (.int 0)) .nil))))) .nil)) (.cons (.ret (.var 5)) .nil))))⟩
noncomputable def zfH:Fn:=⟨1,1,false,(.cons (.ret (.blt .tuple (.cons (.comp [none,some 0] (.n 0) (.range1 (.cst (.int 4))) (.cst (.bl true)) (.mth .get (.var 1) (.cons (.tup (.cons (.cst (.str (Str.ofString "m"))) (.cons (.var 0) .nil))) (.cons (.cst (.int 0)) .nil)))) .nil))) .nil)⟩
noncomputable def zhA:Fn:=⟨2,2,true,(.cons (.ret (.tup (.cons (.blt .int (.cons (.cmp .eq (.var 0) (.cst (.int 0))) .nil)) (.cons (.blt .int (.cons (.cmp .ge (.bin .mul (.cst (.int 2)) (.var 0)) (.call 26 (.cons (.var 1) .nil))) .nil)) .nil)))) .nil)⟩
noncomputable def ziF:Fn:=⟨1,3,false,(.cons (.asg (.n 1) (.bin .add (.cst (.int 1)) (.call 24 (.cons (.var 0) (.cons (.cst (.int 4)) .nil))))) (.cons (.asg (.n 2) (.bin .add (.cst (.int 4)) (.call 24 (.cons (.var 0) (.cons (.blt .min (.cons (.cst (.int 13)) (.cons (.bin .sub (.bin .fdiv (.cst (.int 40)) (.var 1)) (.cst (.int 3))) .nil))) .nil))))) (.cons (.ite (.cmp .eq (.call 24 (.cons (.var 0) (.cons (.cst (.int 32)) .nil))) (.cst (.int 5))) (.cons (.ret (.tup (.cons (.bin .sub (.cst (.int 16)) (.bin .mod (.var 2) (.cst (.int 3)))) (.cons (.cst (.int 4)) .nil)))) .nil) .nil) (.cons (.ret (.tup (.cons (.var 2) (.cons (.var 1) .nil)))) .nil))))⟩
noncomputable def zcO:Fn:=⟨3,7,false,(.cons (.asg (.n 3) (.call 25 (.cons (.var 0) (.cons (.var 1) (.cons (.var 2) .nil))))) (.cons (.asg (.n 4) (.call 25 (.cons (.var 0) (.cons (.var 1) (.cons (.var 2) .nil))))) (.cons (.asg (.n 5) (.call 24 (.cons (.var 0) (.cons (.cst (.int 7)) .nil)))) (.cons (.asg (.n 6) (.call 26 (.cons (.call 24 (.cons (.var 0) (.cons (.bin .mul (.var 1) (.var 2)) .nil))) .nil))) (.cons (.ite (.or (.cmp .eq (.var 5) (.cst (.int 0))) (.cmp .eq (.var 5) (.cst (.int 5)))) (.cons (.asg (.n 4) (.bin .fdiv (.var 4) (.var 6))) .nil) .nil) (.cons (.ite (.cmp .eq (.var 5) (.cst (.int 1))) (.cons (.asg (.n 4) (.bin .add (.cst (.int 1)) (.call 24 (.cons (.var 0) (.cons (.cst (.int 9)) .nil))))) .nil) .nil) (.cons (.ite (.cmp .eq (.var 5) (.cst (.int 2))) (.cons (.asg (.n 4) (.var 6)) .nil) .nil) (.cons (.ite (.and (.or (.cmp .eq (.var 5) (.cst (.int 4))) (.cmp .eq (.var 5) (.cst (.int 5)))) (.cmp .gt (.var 4) (.cst (.int 0)))) (.cons (.asg (.n 3) (.blt .max (.cons (.cst (.int 0)) (.cons (.blt .min (.cons (.bin .sub (.call 26 (.cons (.bin .mul (.var 1) (.var 2)) .nil)) (.cst (.int 1))) (.cons (.bin .sub (.bin .add (.bin .mul (.bin .fdiv (.var 3) (.var 4)) (.var 4)) (.call 24 (.cons (.var 0) (.cons (.cst (.int 3)) .nil)))) (.cst (.int 1))) .nil))) .nil)))) .nil) .nil) (.cons (.ite (.cmp .eq (.var 5) (.cst (.int 6))) (.cons (.asg (.n 4) (.var 3)) .nil) .nil) (.cons (.ret (.tup (.cons (.var 3) (.cons (.var 4) .nil)))) .nil))))))))))⟩
noncomputable def zod:Fn:=⟨1,8,true,(.cons (.asg (.n 1) (.call 21 (.cons (.var 0) .nil))) (.cons (.asg (.n 2) (.call 18 (.cons (.tup (.cons (.cst (.str (Str.ofString "quotient"))) .nil)) .nil))) (.cons (.asg (.t [3,4]) (.call 49 (.cons (.var 1) .nil))) (.cons (.asg (.t [5,6]) (.call 50 (.cons (.var 1) (.cons (.var 3) (.cons (.var 4) .nil))))) (.cons (.asg (.n 6) (.blt .max (.cons (.cst (.int 1)) (.cons (.var 6) .nil)))) (.cons (.asg (.n 7) (.call 45 (.cons (.var 2) (.cons (.var 3) (.cons (.var 4) (.cons (.var 5) (.cons (.var 6) .nil))))))) (.cons (.ite (.or (.cmp .is (.var 7) (.cst .non)) (.or (.cmp .ne (.call 46 (.cons (.var 7) (.cons (.cst (.str (Str.ofString "c"))) (.cons (.var 4) (.cons (.var 3) .nil))))) (.bin .fdiv (.var 5) (.var 6))) (.cmp .ne (.call 46 (.cons (.var 7) (.cons (.cst (.str (Str.ofString "d"))) (.cons (.var 4) (.cons (.var 3) .nil))))) (.bin .mod (.var 5) (.var 6))))) (.cons .nope .nil) .nil) (.cons (.ret (.and (.cmp .eq (.call 47 (.cons (.var 7) .nil)) (.bin .add (.tup (.cons (.cst (.int 0)) (.cons (.cst (.int 0)) .nil))) (.call 48 (.cons (.bin .fdiv (.var 5) (.var 6)) (.cons (.bin .mul (.var 3) (.var 4)) .nil))))) (.cmp .eq (.call 18 (.cons (.tup (.cons (.cst (.str (Str.ofString "quotient"))) .nil)) .nil)) (.var 2)))) .nil))))))))⟩
noncomputable def T:Nat -> Option Fn
  | 0=>some zoM
  | 1=>some zoX
  | 2=>some zj8
  | 3=>some zkB
  | 4=>some zoC
  | 5=>some zlH
  | 6=>some zih
  | 7=>some zgi
  | 8=>some zdc
  | 9=>some zeu
  | 10=>some zdQ
  | 11=>some zci
  | 12=>some zgB
  | 13=>some zh8
  | 14=>some ze9
  | 15=>some zdS
  | 16=>some zg7
  | 17=>some zey
  | 18=>some zi9
  | 19=>some zix
  | 20=>some zda
  | 21=>some zfL
  | 22=>some f_qmixed
  | 23=>some zec
  | 24=>some f_qtake
  | 25=>some f_qworth
  | 26=>some zem
  | 27=>some zfK
  | 28=>some zj6
  | 29=>some ziP
  | 30=>some ziU
  | 31=>some zeI
  | 32=>some zdW
  | 33=>some zkq
  | 34=>some zdP
  | 35=>some znj
  | 36=>some zez
  | 37=>some znX
  | 38=>some f_qplain_row
  | 39=>some zbc
  | 40=>some zbd
  | 41=>some zfM
  | 42=>some f_qunrolled
  | 43=>some f_qrows_right
  | 44=>some zfI
  | 45=>some f_qrun
  | 46=>some zhU
  | 47=>some zfH
  | 48=>some zhA
  | 49=>some ziF
  | 50=>some zcO
  | 51=>some zod
  | _=>none
noncomputable abbrev zf4:Nat:=18
noncomputable abbrev zhh:Nat:=21
noncomputable abbrev zku:Nat:=22
noncomputable abbrev zlR:Nat:=23
noncomputable abbrev zhi:Nat:=24
noncomputable abbrev zj7:Nat:=25
noncomputable abbrev zf5:Nat:=26
noncomputable abbrev zky:Nat:=27
noncomputable abbrev zbt:Nat:=36
noncomputable abbrev zrr:Nat:=37
noncomputable abbrev zc9:Nat:=38
noncomputable abbrev zjr:Nat:=39
noncomputable abbrev zmJ:Nat:=40
noncomputable abbrev zkH:Nat:=41
noncomputable abbrev zcI:Nat:=42
noncomputable abbrev zbY:Nat:=43
noncomputable abbrev zkt:Nat:=44
noncomputable abbrev zgX:Nat:=45
noncomputable abbrev zhr:Nat:=46
noncomputable abbrev zhT:Nat:=47
noncomputable abbrev zjP:Nat:=48
noncomputable abbrev zmP:Nat:=49
noncomputable abbrev zmg:Nat:=50
noncomputable abbrev zmp:Nat:=51
end IC
namespace WK
open PySem L2 IC
noncomputable def top (i:Nat):Stmt:=PySem.Challenge.pw_widewords_k41_quotients_run.main.body.getD i (.Pass ⟨0,0,0,0⟩)
noncomputable abbrev zdU:Stmt:=top 9
theorem sc_word:FnScope ["letter","c","i","j","m"] ["letter","c","i","j","m"] (defScope zdU):=⟨rfl,rfl,rfl,by decide +kernel,rfl,by decide +kernel,by decide +kernel⟩
noncomputable abbrev zff:Stmt:=top 11
theorem sc_rows:FnScope ["told"] ["told"] (defScope zff):=⟨rfl,rfl,rfl,by decide +kernel,rfl,by decide +kernel,by decide +kernel⟩
noncomputable abbrev zdB:Stmt:=top 12
theorem sc_rounds:FnScope ["count","sentence","inner"] ["count","sentence","inner"] (defScope zdB):=⟨rfl,rfl,rfl,by decide +kernel,rfl,by decide +kernel,by decide +kernel⟩
noncomputable abbrev zcl:Stmt:=top 13
theorem sc_lowest:FnScope ["letter","c","i","j","m"] ["letter","c","i","j","m"] (defScope zcl):=⟨rfl,rfl,rfl,by decide +kernel,rfl,by decide +kernel,by decide +kernel⟩
noncomputable abbrev zfr:Stmt:=top 14
theorem sc_term:FnScope ["f","things","i","p","q","r"] ["f","things","i","p","q","r"] (defScope zfr):=⟨rfl,rfl,rfl,by decide +kernel,rfl,by decide +kernel,by decide +kernel⟩
noncomputable abbrev zca:Stmt:=top 15
theorem sc_moved:FnScope ["to","source","c","sentence"] ["to","source","c"] (defScope zca):=⟨rfl,rfl,rfl,by decide +kernel,rfl,by decide +kernel,by decide +kernel⟩
noncomputable abbrev zbq:Stmt:=top 16
theorem sc_doubled:FnScope ["letter","count"] ["letter","count"] (defScope zbq):=⟨rfl,rfl,rfl,by decide +kernel,rfl,by decide +kernel,by decide +kernel⟩
noncomputable abbrev za9:Stmt:=top 17
theorem sc_kept_mark:FnScope ["to"] ["to"] (defScope za9):=⟨rfl,rfl,rfl,by decide +kernel,rfl,by decide +kernel,by decide +kernel⟩
noncomputable abbrev zag:Stmt:=top 18
theorem sc_kept_contrary:FnScope ["to"] ["to"] (defScope zag):=⟨rfl,rfl,rfl,by decide +kernel,rfl,by decide +kernel,by decide +kernel⟩
noncomputable abbrev z5:Stmt:=top 21
theorem sc_asked_words:FnScope ["letter","m","count","gathered"] ["letter","m","count"] (defScope z5):=⟨rfl,rfl,rfl,by decide +kernel,rfl,by decide +kernel,by decide +kernel⟩
noncomputable abbrev zC:Stmt:=top 22
theorem sc_answer_marks:FnScope ["c","m","sign"] ["c","m"] (defScope zC):=⟨rfl,rfl,rfl,by decide +kernel,rfl,by decide +kernel,by decide +kernel⟩
noncomputable abbrev zK:Stmt:=top 41
theorem sc_quotient_telling:FnScope [] [] (defScope zK):=⟨rfl,rfl,rfl,by decide +kernel,rfl,by decide +kernel,by decide +kernel⟩
noncomputable abbrev zat:Stmt:=top 42
theorem sc_by_nought:FnScope [] [] (defScope zat):=⟨rfl,rfl,rfl,by decide +kernel,rfl,by decide +kernel,by decide +kernel⟩
noncomputable abbrev zaj:Stmt:=top 43
theorem sc_divided:FnScope ["x","y","answer","rest","sentence","one_place"] ["x","y","answer","rest"] (defScope zaj):=⟨rfl,rfl,rfl,by decide +kernel,rfl,by decide +kernel,by decide +kernel⟩
noncomputable abbrev zas:Stmt:=top 44
theorem sc_next_place:FnScope ["rest"] ["rest"] (defScope zas):=⟨rfl,rfl,rfl,by decide +kernel,rfl,by decide +kernel,by decide +kernel⟩
noncomputable abbrev zL:Stmt:=top 45
theorem sc_less_divisor:FnScope ["rest","y","taken","top"] ["rest","y"] (defScope zL):=⟨rfl,rfl,rfl,by decide +kernel,rfl,by decide +kernel,by decide +kernel⟩
noncomputable abbrev zaf:Stmt:=top 46
theorem sc_put_back:FnScope ["rest","y","added","top","begun"] ["rest","y"] (defScope zaf):=⟨rfl,rfl,rfl,by decide +kernel,rfl,by decide +kernel,by decide +kernel⟩
noncomputable abbrev z7:Stmt:=top 47
theorem sc_next_figure:FnScope ["answer"] ["answer"] (defScope z7):=⟨rfl,rfl,rfl,by decide +kernel,rfl,by decide +kernel,by decide +kernel⟩
noncomputable abbrev za1:Stmt:=top 93
theorem sc_telling:FnScope ["deed"] ["deed"] (defScope za1):=⟨rfl,rfl,rfl,by decide +kernel,rfl,by decide +kernel,by decide +kernel⟩
noncomputable abbrev zaG:Stmt:=top 94
theorem sc_is_deed:FnScope ["thing"] ["thing"] (defScope zaG):=⟨rfl,rfl,rfl,by decide +kernel,rfl,by decide +kernel,by decide +kernel⟩
noncomputable abbrev zal:Stmt:=top 96
theorem sc_named_telling:FnScope ["name"] ["name"] (defScope zal):=⟨rfl,rfl,rfl,by decide +kernel,rfl,by decide +kernel,by decide +kernel⟩
noncomputable abbrev zdz:Stmt:=top 98
theorem sc_qfresh:FnScope ["_law_script"] ["_law_script"] (defScope zdz):=⟨rfl,rfl,rfl,by decide +kernel,rfl,by decide +kernel,by decide +kernel⟩
noncomputable abbrev zcE:Stmt:=top 99
theorem sc_qmixed:FnScope ["_law_seed","_law_primes","_law_number","_law_k","_law_prime","_law_far","_law_square","_law_power"] ["_law_seed"] (defScope zcE):=⟨rfl,rfl,rfl,by decide +kernel,rfl,by decide +kernel,by decide +kernel⟩
noncomputable abbrev zdd:Stmt:=top 100
theorem sc_qfill:FnScope ["_law_state","_law_cells","_law_at_here","_law_seed"] ["_law_state"] (defScope zdd):=⟨rfl,rfl,rfl,by decide +kernel,rfl,by decide +kernel,by decide +kernel⟩
noncomputable abbrev zd2:Stmt:=top 101
theorem sc_qtake:FnScope ["_law_state","_law_many","_law_turns","_law_digit"] ["_law_state","_law_many"] (defScope zd2):=⟨rfl,rfl,rfl,by decide +kernel,rfl,by decide +kernel,by decide +kernel⟩
noncomputable abbrev zcm:Stmt:=top 102
theorem sc_qworth:FnScope ["_law_state","_law_w","_law_n","_law_way","_law_top","_law_k","_law_edges","_law_any_one","_law_low","_law_wide","_law_worth_here","_law_some","_law_words_here"] ["_law_state","_law_w","_law_n"] (defScope zcm):=⟨rfl,rfl,rfl,by decide +kernel,rfl,by decide +kernel,by decide +kernel⟩
noncomputable abbrev zb6:Stmt:=top 103
theorem sc_qtwo_to:FnScope ["_law_many","_law_found","_law_k"] ["_law_many"] (defScope zb6):=⟨rfl,rfl,rfl,by decide +kernel,rfl,by decide +kernel,by decide +kernel⟩
noncomputable abbrev zb0:Stmt:=top 104
theorem sc_qwords:FnScope ["_law_worth_here","_law_w","_law_n","_law_wide","_law_words_here","_law_k"] ["_law_worth_here","_law_w","_law_n"] (defScope zb0):=⟨rfl,rfl,rfl,by decide +kernel,rfl,by decide +kernel,by decide +kernel⟩
noncomputable abbrev zbZ:Stmt:=top 105
theorem sc_qwhole:FnScope ["_law_thing_here"] ["_law_thing_here"] (defScope zbZ):=⟨rfl,rfl,rfl,by decide +kernel,rfl,by decide +kernel,by decide +kernel⟩
noncomputable abbrev zaQ:Stmt:=top 106
theorem sc_qwholes:FnScope ["_law_thing_here","_law_many","_law_most"] ["_law_thing_here","_law_many","_law_most"] (defScope zaQ):=⟨rfl,rfl,rfl,by decide +kernel,rfl,by decide +kernel,by decide +kernel⟩
noncomputable abbrev zbp:Stmt:=top 107
theorem sc_qletter:FnScope ["_law_thing_here"] ["_law_thing_here"] (defScope zbp):=⟨rfl,rfl,rfl,by decide +kernel,rfl,by decide +kernel,by decide +kernel⟩
noncomputable abbrev zQ:Stmt:=top 108
theorem sc_qindex_cell:FnScope ["_law_thing_here"] ["_law_thing_here"] (defScope zQ):=⟨rfl,rfl,rfl,by decide +kernel,rfl,by decide +kernel,by decide +kernel⟩
noncomputable abbrev zz:Stmt:=top 109
theorem sc_qtelling_row:FnScope ["_law_row","_law_lengths"] ["_law_row"] (defScope zz):=⟨rfl,rfl,rfl,by decide +kernel,rfl,by decide +kernel,by decide +kernel⟩
noncomputable abbrev zbl:Stmt:=top 110
theorem sc_qthing:FnScope ["_law_thing_here"] ["_law_thing_here"] (defScope zbl):=⟨rfl,rfl,rfl,by decide +kernel,rfl,by decide +kernel,by decide +kernel⟩
noncomputable abbrev zy:Stmt:=top 111
theorem sc_qis_sentence:FnScope ["_law_told","_law_term"] ["_law_told"] (defScope zy):=⟨rfl,rfl,rfl,by decide +kernel,rfl,by decide +kernel,by decide +kernel⟩
noncomputable abbrev zbk:Stmt:=top 112
theorem sc_qpart:FnScope ["_law_part_here","_law_deep"] ["_law_part_here","_law_deep"] (defScope zbk):=⟨rfl,rfl,rfl,by decide +kernel,rfl,by decide +kernel,by decide +kernel⟩
noncomputable abbrev zZ:Stmt:=top 113
theorem sc_qis_telling:FnScope ["_law_told"] ["_law_told"] (defScope zZ):=⟨rfl,rfl,rfl,by decide +kernel,rfl,by decide +kernel,by decide +kernel⟩
noncomputable abbrev zkR:Stmt:=top 114
theorem sc_qat:FnScope ["_law_index","_law_i","_law_j","_law_n"] ["_law_index","_law_i","_law_j","_law_n"] (defScope zkR):=⟨rfl,rfl,rfl,by decide +kernel,rfl,by decide +kernel,by decide +kernel⟩
noncomputable abbrev zap:Stmt:=top 115
theorem sc_qplain_row:FnScope ["_law_row","_law_i","_law_j","_law_n","_law_told","_law_part_here"] ["_law_row","_law_i","_law_j","_law_n"] (defScope zap):=⟨rfl,rfl,rfl,by decide +kernel,rfl,by decide +kernel,by decide +kernel⟩
noncomputable abbrev zbC:Stmt:=top 116
theorem sc_qone_done:FnScope ["_law_cells","_law_mark","_law_row","_law_wide","_law_x"] ["_law_cells","_law_mark","_law_row","_law_wide"] (defScope zbC):=⟨rfl,rfl,rfl,by decide +kernel,rfl,by decide +kernel,by decide +kernel⟩
noncomputable abbrev zcD:Stmt:=top 117
theorem sc_qdone:FnScope ["_law_cells","_law_mark","_law_row","_law_wide","_law_both","_law_x","_law_y"] ["_law_cells","_law_mark","_law_row","_law_wide"] (defScope zcD):=⟨rfl,rfl,rfl,by decide +kernel,rfl,by decide +kernel,by decide +kernel⟩
noncomputable abbrev zdC:Stmt:=top 118
theorem sc_qcount:FnScope ["_law_count_here","_law_w","_law_n"] ["_law_count_here","_law_w","_law_n"] (defScope zdC):=⟨rfl,rfl,rfl,by decide +kernel,rfl,by decide +kernel,by decide +kernel⟩
noncomputable abbrev zW:Stmt:=top 119
theorem sc_qunrolled:FnScope ["_law_told","_law_w","_law_n","_law_most","_law_rows","_law_rounds","_law_part_here","_law_i","_law_inner","_law_many","_law_j"] ["_law_told","_law_w","_law_n","_law_most"] (defScope zW):=⟨rfl,rfl,rfl,by decide +kernel,rfl,by decide +kernel,by decide +kernel⟩
noncomputable abbrev zaq:Stmt:=top 120
theorem sc_qrows_right:FnScope ["_law_rows","_law_row","_law_part_here"] ["_law_rows"] (defScope zaq):=⟨rfl,rfl,rfl,by decide +kernel,rfl,by decide +kernel,by decide +kernel⟩
noncomputable abbrev zco:Stmt:=top 121
theorem sc_qbegun:FnScope ["_law_w","_law_n","_law_x","_law_y","_law_cells","_law_k","_law_word"] ["_law_w","_law_n","_law_x","_law_y"] (defScope zco):=⟨rfl,rfl,rfl,by decide +kernel,rfl,by decide +kernel,by decide +kernel⟩
noncomputable abbrev zcR:Stmt:=top 122
theorem sc_qrun:FnScope ["_law_told","_law_w","_law_n","_law_x","_law_y","_law_rows","_law_cells","_law_wide","_law_mark","_law_row"] ["_law_told","_law_w","_law_n","_law_x","_law_y"] (defScope zcR):=⟨rfl,rfl,rfl,by decide +kernel,rfl,by decide +kernel,by decide +kernel⟩
noncomputable abbrev zdu:Stmt:=top 123
theorem sc_qread:FnScope ["_law_cells","_law_letter_here","_law_many","_law_w","_law_wide","_law_worth_here","_law_k"] ["_law_cells","_law_letter_here","_law_many","_law_w"] (defScope zdu):=⟨rfl,rfl,rfl,by decide +kernel,rfl,by decide +kernel,by decide +kernel⟩
noncomputable abbrev zck:Stmt:=top 124
theorem sc_qmarks:FnScope ["_law_cells"] ["_law_cells"] (defScope zck):=⟨rfl,rfl,rfl,by decide +kernel,rfl,by decide +kernel,by decide +kernel⟩
noncomputable abbrev zdl:Stmt:=top 125
theorem sc_qends:FnScope ["_law_worth_here","_law_many"] ["_law_worth_here","_law_many"] (defScope zdl):=⟨rfl,rfl,rfl,by decide +kernel,rfl,by decide +kernel,by decide +kernel⟩
noncomputable abbrev zfg:Stmt:=top 126
theorem sc_qfew:FnScope ["_law_state","_law_n","_law_w"] ["_law_state"] (defScope zfg):=⟨rfl,rfl,rfl,by decide +kernel,rfl,by decide +kernel,by decide +kernel⟩
noncomputable abbrev zdk:Stmt:=top 127
theorem sc_qtwo:FnScope ["_law_state","_law_w","_law_n","_law_x","_law_y","_law_way","_law_low"] ["_law_state","_law_w","_law_n"] (defScope zdk):=⟨rfl,rfl,rfl,by decide +kernel,rfl,by decide +kernel,by decide +kernel⟩
noncomputable abbrev zdE:Stmt:=top 128
theorem sc_law:FnScope ["_law_script","_law_state","_law_told","_law_w","_law_n","_law_x","_law_y","_law_cells"] ["_law_script"] (defScope zdE):=⟨rfl,rfl,rfl,by decide +kernel,rfl,by decide +kernel,by decide +kernel⟩
theorem zgm:VisAll ["letter","c","i","j","m"] (defScope zdU):=by unfold VisAll; decide +kernel
theorem zpt:VisAll ["told"] (defScope zff):=by unfold VisAll; decide +kernel
abbrev GI (s:Stmt) (x:String):Prop:=(defScope s).names.lookup (Str.ofString x) = some .globalImplicit
theorem zhZ:GI zff "tuple":=by decide +kernel
theorem zge:VisAll ["count","sentence","inner"] (defScope zdB):=by unfold VisAll; decide +kernel
theorem zdj:VisAll ["letter","c","i","j","m"] (defScope zcl):=by unfold VisAll; decide +kernel
theorem ze0:VisAll ["f","things","i","p","q","r"] (defScope zfr):=by unfold VisAll; decide +kernel
theorem zcH:VisAll ["to","source","c","sentence"] (defScope zca):=by unfold VisAll; decide +kernel
theorem zc1:GI zca "lowest":=by decide +kernel
theorem zfR:GI zca "rounds":=by decide +kernel
theorem zhL:GI zca "rows":=by decide +kernel
theorem zeF:GI zca "term":=by decide +kernel
theorem zeD:GI zca "word":=by decide +kernel
theorem zeS:VisAll ["letter","count"] (defScope zbq):=by unfold VisAll; decide +kernel
theorem zeW:GI zbq "rounds":=by decide +kernel
theorem zfX:GI zbq "rows":=by decide +kernel
theorem zdo:GI zbq "word":=by decide +kernel
theorem ziw:VisAll ["to"] (defScope za9):=by unfold VisAll; decide +kernel
theorem zcT:GI za9 "NIL":=by decide +kernel
theorem zbO:VisAll ["to"] (defScope zag):=by unfold VisAll; decide +kernel
theorem zdM:GI zag "NIL":=by decide +kernel
theorem zaZ:VisAll ["letter","m","count","gathered"] (defScope z5):=by unfold VisAll; decide +kernel
theorem zaD:GI z5 "SEEN":=by decide +kernel
theorem zdm:GI z5 "rounds":=by decide +kernel
theorem zbb:GI z5 "rows":=by decide +kernel
theorem zd8:GI z5 "word":=by decide +kernel
theorem zaz:VisAll ["c","m","sign"] (defScope zC):=by unfold VisAll; decide +kernel
theorem zbF:GI zC "MARKS":=by decide +kernel
theorem zdg:GI zC "SPARE":=by decide +kernel
theorem zb4:GI zC "asked_words":=by decide +kernel
theorem zbQ:GI zC "kept_contrary":=by decide +kernel
theorem zcq:GI zC "kept_mark":=by decide +kernel
theorem zdN:GI zC "rows":=by decide +kernel
theorem zdK:GI zC "word":=by decide +kernel
theorem zbv:GI zK "answer_marks":=by decide +kernel
theorem zbR:GI zK "by_nought":=by decide +kernel
theorem zcc:GI zK "divided":=by decide +kernel
theorem zcX:GI zat "EACH_WORD":=by decide +kernel
theorem zeG:GI zat "MARKS":=by decide +kernel
theorem zcB:GI zat "asked_words":=by decide +kernel
theorem zce:GI zat "kept_contrary":=by decide +kernel
theorem ze4:GI zat "rows":=by decide +kernel
theorem zX:VisAll ["x","y","answer","rest","sentence","one_place"] (defScope zaj):=by unfold VisAll; decide +kernel
theorem zc7:GI zaj "EACH_PLACE":=by decide +kernel
theorem zcN:GI zaj "less_divisor":=by decide +kernel
theorem zax:GI zaj "lowest":=by decide +kernel
theorem zfF:GI zaj "moved":=by decide +kernel
theorem zc0:GI zaj "next_figure":=by decide +kernel
theorem zdw:GI zaj "next_place":=by decide +kernel
theorem zee:GI zaj "put_back":=by decide +kernel
theorem zeU:GI zaj "rounds":=by decide +kernel
theorem zbo:GI zaj "term":=by decide +kernel
theorem zh0:VisAll ["rest"] (defScope zas):=by unfold VisAll; decide +kernel
theorem zcF:GI zas "EACH_WORD":=by decide +kernel
theorem zbI:GI zas "doubled":=by decide +kernel
theorem zeB:GI zas "rows":=by decide +kernel
theorem zO:VisAll ["rest","y","taken","top"] (defScope zL):=by unfold VisAll; decide +kernel
theorem zcs:GI zL "EACH_WORD":=by decide +kernel
theorem zd5:GI zL "NIL":=by decide +kernel
theorem zcV:GI zL "rounds":=by decide +kernel
theorem zbU:GI zL "rows":=by decide +kernel
theorem zav:GI zL "word":=by decide +kernel
theorem zah:VisAll ["rest","y","added","top","begun"] (defScope zaf):=by unfold VisAll; decide +kernel
theorem zcS:GI zaf "BACK":=by decide +kernel
theorem zdi:GI zaf "EACH_WORD":=by decide +kernel
theorem zb8:GI zaf "NIL":=by decide +kernel
theorem zcA:GI zaf "SPARE":=by decide +kernel
theorem zeK:GI zaf "rounds":=by decide +kernel
theorem zbN:GI zaf "rows":=by decide +kernel
theorem za4:GI zaf "word":=by decide +kernel
theorem zgO:VisAll ["answer"] (defScope z7):=by unfold VisAll; decide +kernel
theorem zba:GI z7 "BACK":=by decide +kernel
theorem zcC:GI z7 "EACH_WORD":=by decide +kernel
theorem zcW:GI z7 "doubled":=by decide +kernel
theorem zd0:GI z7 "rows":=by decide +kernel
theorem zcv:VisAll ["deed"] (defScope za1):=by unfold VisAll; decide +kernel
theorem zd6:GI za1 "PAIRWISE":=by decide +kernel
theorem ze5:GI za1 "SHIFTS":=by decide +kernel
theorem zev:GI za1 "is_deed":=by decide +kernel
theorem zcx:GI za1 "named_telling":=by decide +kernel
theorem zbA:VisAll ["thing"] (defScope zaG):=by unfold VisAll; decide +kernel
theorem zfT:GI zaG "LONE":=by decide +kernel
theorem zeT:GI zaG "PAIRED":=by decide +kernel
theorem zeV:GI zaG "SHIFTS":=by decide +kernel
theorem zdv:GI zaG "isinstance":=by decide +kernel
theorem zdO:GI zaG "len":=by decide +kernel
theorem zfA:GI zaG "tuple":=by decide +kernel
theorem zT:VisAll ["name"] (defScope zal):=by unfold VisAll; decide +kernel
theorem zbn:GI zal "quotient_telling":=by decide +kernel
theorem zmG:VisAll ["_law_script"] (defScope zdz):=by unfold VisAll; decide +kernel
theorem zw:VisAll ["_law_seed","_law_primes","_law_number","_law_k","_law_prime","_law_far","_law_square","_law_power"] (defScope zcE):=by unfold VisAll; decide +kernel
theorem zdZ:GI zcE "enumerate":=by decide +kernel
theorem zF:VisAll ["_law_state","_law_cells","_law_at_here","_law_seed"] (defScope zdd):=by unfold VisAll; decide +kernel
theorem zfV:GI zdd "_law_mixed":=by decide +kernel
theorem zcj:GI zdd "len":=by decide +kernel
theorem zM:VisAll ["_law_state","_law_many","_law_turns","_law_digit"] (defScope zd2):=by unfold VisAll; decide +kernel
theorem zgT:GI zd2 "_law_fill":=by decide +kernel
theorem zh:VisAll ["_law_state","_law_w","_law_n","_law_way","_law_top","_law_k","_law_edges","_law_any_one","_law_low","_law_wide","_law_worth_here","_law_some","_law_words_here"] (defScope zcm):=by unfold VisAll; decide +kernel
theorem zaO:GI zcm "_law_take":=by decide +kernel
theorem zaP:GI zcm "range":=by decide +kernel
theorem zb2:VisAll ["_law_many","_law_found","_law_k"] (defScope zb6):=by unfold VisAll; decide +kernel
theorem zfG:GI zb6 "range":=by decide +kernel
theorem zaE:VisAll ["_law_worth_here","_law_w","_law_n","_law_wide","_law_words_here","_law_k"] (defScope zb0):=by unfold VisAll; decide +kernel
theorem ze3:GI zb0 "_law_two_to":=by decide +kernel
theorem zgt:GI zb0 "range":=by decide +kernel
theorem zf6:GI zb0 "tuple":=by decide +kernel
theorem ziC:VisAll ["_law_thing_here"] (defScope zbZ):=by unfold VisAll; decide +kernel
theorem zgI:GI zbZ "bool":=by decide +kernel
theorem zhR:GI zbZ "int":=by decide +kernel
theorem zbW:GI zbZ "isinstance":=by decide +kernel
theorem zdD:VisAll ["_law_thing_here","_law_many","_law_most"] (defScope zaQ):=by unfold VisAll; decide +kernel
theorem zgJ:GI zaQ "all":=by decide +kernel
theorem zc2:GI zaQ "isinstance":=by decide +kernel
theorem zgK:GI zaQ "len":=by decide +kernel
theorem zfE:GI zaQ "tuple":=by decide +kernel
theorem ze6:VisAll ["_law_thing_here"] (defScope zbp):=by unfold VisAll; decide +kernel
theorem zc8:GI zbp "isinstance":=by decide +kernel
theorem zgP:GI zbp "len":=by decide +kernel
theorem zgV:GI zbp "str":=by decide +kernel
theorem zbE:VisAll ["_law_thing_here"] (defScope zQ):=by unfold VisAll; decide +kernel
theorem zcU:GI zQ "_law_letter":=by decide +kernel
theorem zcZ:GI zQ "_law_wholes":=by decide +kernel
theorem zcr:GI zQ "isinstance":=by decide +kernel
theorem zeh:GI zQ "len":=by decide +kernel
theorem zdG:GI zQ "tuple":=by decide +kernel
theorem zm:VisAll ["_law_row","_law_lengths"] (defScope zz):=by unfold VisAll; decide +kernel
theorem zaR:GI zz "_law_index_cell":=by decide +kernel
theorem zbw:GI zz "_law_whole":=by decide +kernel
theorem zef:GI zz "all":=by decide +kernel
theorem zaV:GI zz "isinstance":=by decide +kernel
theorem zai:GI zz "len":=by decide +kernel
theorem zd9:GI zz "str":=by decide +kernel
theorem zdf:GI zz "tuple":=by decide +kernel
theorem zb3:VisAll ["_law_thing_here"] (defScope zbl):=by unfold VisAll; decide +kernel
theorem ze1:GI zbl "_law_letter":=by decide +kernel
theorem zcz:GI zbl "_law_wholes":=by decide +kernel
theorem zdF:GI zbl "isinstance":=by decide +kernel
theorem zht:GI zbl "len":=by decide +kernel
theorem zgp:GI zbl "tuple":=by decide +kernel
theorem zB:VisAll ["_law_told","_law_term"] (defScope zy):=by unfold VisAll; decide +kernel
theorem zcY:GI zy "_law_whole":=by decide +kernel
theorem zcJ:GI zy "_law_wholes":=by decide +kernel
theorem zd7:GI zy "abs":=by decide +kernel
theorem zd1:GI zy "all":=by decide +kernel
theorem zam:GI zy "isinstance":=by decide +kernel
theorem zbe:GI zy "len":=by decide +kernel
theorem zaS:GI zy "tuple":=by decide +kernel
theorem za7:VisAll ["_law_part_here","_law_deep"] (defScope zbk):=by unfold VisAll; decide +kernel
theorem zdt:GI zbk "_law_is_sentence":=by decide +kernel
theorem zdp:GI zbk "_law_telling_row":=by decide +kernel
theorem zfC:GI zbk "_law_wholes":=by decide +kernel
theorem zi7:GI zbk "all":=by decide +kernel
theorem zcb:GI zbk "isinstance":=by decide +kernel
theorem zc5:GI zbk "len":=by decide +kernel
theorem zdX:GI zbk "tuple":=by decide +kernel
theorem zdR:VisAll ["_law_told"] (defScope zZ):=by unfold VisAll; decide +kernel
theorem zeM:GI zZ "all":=by decide +kernel
theorem zcu:GI zZ "isinstance":=by decide +kernel
theorem zdL:GI zZ "tuple":=by decide +kernel
theorem zgE:VisAll ["_law_index","_law_i","_law_j","_law_n"] (defScope zkR):=by unfold VisAll; decide +kernel
theorem zD:VisAll ["_law_row","_law_i","_law_j","_law_n","_law_told","_law_part_here"] (defScope zap):=by unfold VisAll; decide +kernel
theorem zeY:GI zap "_law_at":=by decide +kernel
theorem zcw:GI zap "isinstance":=by decide +kernel
theorem zb7:GI zap "tuple":=by decide +kernel
theorem zn:VisAll ["_law_cells","_law_mark","_law_row","_law_wide","_law_x"] (defScope zbC):=by unfold VisAll; decide +kernel
theorem zj:VisAll ["_law_cells","_law_mark","_law_row","_law_wide","_law_both","_law_x","_law_y"] (defScope zcD):=by unfold VisAll; decide +kernel
theorem zeH:GI zcD "_law_one_done":=by decide +kernel
theorem zfl:GI zcD "int":=by decide +kernel
theorem ziK:GI zcD "len":=by decide +kernel
theorem zcy:VisAll ["_law_count_here","_law_w","_law_n"] (defScope zdC):=by unfold VisAll; decide +kernel
theorem zi:VisAll ["_law_told","_law_w","_law_n","_law_most","_law_rows","_law_rounds","_law_part_here","_law_i","_law_inner","_law_many","_law_j"] (defScope zW):=by unfold VisAll; decide +kernel
theorem zb5:GI zW "_law_count":=by decide +kernel
theorem zbm:GI zW "_law_plain_row":=by decide +kernel
theorem za6:GI zW "len":=by decide +kernel
theorem zfx:GI zW "max":=by decide +kernel
theorem zcP:GI zW "min":=by decide +kernel
theorem zcn:GI zW "range":=by decide +kernel
theorem zH:VisAll ["_law_rows","_law_row","_law_part_here"] (defScope zaq):=by unfold VisAll; decide +kernel
theorem zct:GI zaq "isinstance":=by decide +kernel
theorem zdJ:GI zaq "tuple":=by decide +kernel
theorem zU:VisAll ["_law_w","_law_n","_law_x","_law_y","_law_cells","_law_k","_law_word"] (defScope zco):=by unfold VisAll; decide +kernel
theorem zcQ:GI zco "_law_words":=by decide +kernel
theorem zb9:GI zco "enumerate":=by decide +kernel
theorem zak:VisAll ["_law_told","_law_w","_law_n","_law_x","_law_y","_law_rows","_law_cells","_law_wide","_law_mark","_law_row"] (defScope zcR):=by unfold VisAll; decide +kernel
theorem zgW:GI zcR "_law_begun":=by decide +kernel
theorem zho:GI zcR "_law_done":=by decide +kernel
theorem zea:GI zcR "_law_is_telling":=by decide +kernel
theorem zd3:GI zcR "_law_rows_right":=by decide +kernel
theorem zf0:GI zcR "_law_two_to":=by decide +kernel
theorem zeR:GI zcR "_law_unrolled":=by decide +kernel
theorem za5:VisAll ["_law_cells","_law_letter_here","_law_many","_law_w","_law_wide","_law_worth_here","_law_k"] (defScope zdu):=by unfold VisAll; decide +kernel
theorem zfz:GI zdu "_law_two_to":=by decide +kernel
theorem zgL:GI zdu "range":=by decide +kernel
theorem zgq:GI zck "range":=by decide +kernel
theorem zfU:GI zck "tuple":=by decide +kernel
theorem zhV:VisAll ["_law_worth_here","_law_many"] (defScope zdl):=by unfold VisAll; decide +kernel
theorem zfD:GI zdl "_law_two_to":=by decide +kernel
theorem zfj:GI zdl "int":=by decide +kernel
theorem zcG:VisAll ["_law_state","_law_n","_law_w"] (defScope zfg):=by unfold VisAll; decide +kernel
theorem zcM:GI zfg "_law_take":=by decide +kernel
theorem zjn:GI zfg "min":=by decide +kernel
theorem zA:VisAll ["_law_state","_law_w","_law_n","_law_x","_law_y","_law_way","_law_low"] (defScope zdk):=by unfold VisAll; decide +kernel
theorem zb1:GI zdk "_law_take":=by decide +kernel
theorem zds:GI zdk "_law_two_to":=by decide +kernel
theorem zdT:GI zdk "_law_worth":=by decide +kernel
theorem zjl:GI zdk "max":=by decide +kernel
theorem zjB:GI zdk "min":=by decide +kernel
theorem zY:VisAll ["_law_script","_law_state","_law_told","_law_w","_law_n","_law_x","_law_y","_law_cells"] (defScope zdE):=by unfold VisAll; decide +kernel
theorem zim:GI zdE "_law_ends":=by decide +kernel
theorem zjs:GI zdE "_law_few":=by decide +kernel
theorem zhv:GI zdE "_law_fresh":=by decide +kernel
theorem zhI:GI zdE "_law_marks":=by decide +kernel
theorem zfa:GI zdE "_law_read":=by decide +kernel
theorem zj2:GI zdE "_law_run":=by decide +kernel
theorem zjH:GI zdE "_law_two":=by decide +kernel
theorem zlE:GI zdE "max":=by decide +kernel
theorem zdV:GI zdE "telling":=by decide +kernel
noncomputable def pss:Nat -> Option (List Str)
  | 0=>some ["letter","c","i","j","m"]
  | 1=>some ["told"]
  | 2=>some ["count","sentence","inner"]
  | 3=>some ["letter","c","i","j","m"]
  | 4=>some ["f","things","i","p","q","r"]
  | 5=>some ["to","source","c"]
  | 6=>some ["letter","count"]
  | 7=>some ["to"]
  | 8=>some ["to"]
  | 9=>some ["letter","m","count"]
  | 10=>some ["c","m"]
  | 11=>some []
  | 12=>some []
  | 13=>some ["x","y","answer","rest"]
  | 14=>some ["rest"]
  | 15=>some ["rest","y"]
  | 16=>some ["rest","y"]
  | 17=>some ["answer"]
  | 18=>some ["deed"]
  | 19=>some ["thing"]
  | 20=>some ["name"]
  | 21=>some ["_law_script"]
  | 22=>some ["_law_seed"]
  | 23=>some ["_law_state"]
  | 24=>some ["_law_state","_law_many"]
  | 25=>some ["_law_state","_law_w","_law_n"]
  | 26=>some ["_law_many"]
  | 27=>some ["_law_worth_here","_law_w","_law_n"]
  | 28=>some ["_law_thing_here"]
  | 29=>some ["_law_thing_here","_law_many","_law_most"]
  | 30=>some ["_law_thing_here"]
  | 31=>some ["_law_thing_here"]
  | 32=>some ["_law_row"]
  | 33=>some ["_law_thing_here"]
  | 34=>some ["_law_told"]
  | 35=>some ["_law_part_here","_law_deep"]
  | 36=>some ["_law_told"]
  | 37=>some ["_law_index","_law_i","_law_j","_law_n"]
  | 38=>some ["_law_row","_law_i","_law_j","_law_n"]
  | 39=>some ["_law_cells","_law_mark","_law_row","_law_wide"]
  | 40=>some ["_law_cells","_law_mark","_law_row","_law_wide"]
  | 41=>some ["_law_count_here","_law_w","_law_n"]
  | 42=>some ["_law_told","_law_w","_law_n","_law_most"]
  | 43=>some ["_law_rows"]
  | 44=>some ["_law_w","_law_n","_law_x","_law_y"]
  | 45=>some ["_law_told","_law_w","_law_n","_law_x","_law_y"]
  | 46=>some ["_law_cells","_law_letter_here","_law_many","_law_w"]
  | 47=>some ["_law_cells"]
  | 48=>some ["_law_worth_here","_law_many"]
  | 49=>some ["_law_state"]
  | 50=>some ["_law_state","_law_w","_law_n"]
  | 51=>some ["_law_script"]
  | _=>none
structure Facts (K:PySem.W.Frag) (mg:Str -> Option Value) (cl:Nat -> Addr) (fa:Nat -> Addr) (fdd:Nat -> FuncData):Prop where
  F0:FnD K mg "word" zdU ["letter","c","i","j","m"] [0,0,0,0] (fa 0) (fdd 0)
  F1:Fn K mg "rows" zff ["told"] (fa 1) (fdd 1)
  F2:Fn K mg "rounds" zdB ["count","sentence","inner"] (fa 2) (fdd 2)
  F3:FnD K mg "lowest" zcl ["letter","c","i","j","m"] [0,0,0,0] (fa 3) (fdd 3)
  F4:FnD K mg "term" zfr ["f","things","i","p","q","r"] [0,0,0,0] (fa 4) (fdd 4)
  F5:FnD K mg "moved" zca ["to","source","c"] [0] (fa 5) (fdd 5)
  F6:Fn K mg "doubled" zbq ["letter","count"] (fa 6) (fdd 6)
  F7:Fn K mg "kept_mark" za9 ["to"] (fa 7) (fdd 7)
  F8:Fn K mg "kept_contrary" zag ["to"] (fa 8) (fdd 8)
  F9:Fn K mg "asked_words" z5 ["letter","m","count"] (fa 9) (fdd 9)
  F10:Fn K mg "answer_marks" zC ["c","m"] (fa 10) (fdd 10)
  F11:Fn K mg "quotient_telling" zK [] (fa 11) (fdd 11)
  F12:Fn K mg "by_nought" zat [] (fa 12) (fdd 12)
  F13:Fn K mg "divided" zaj ["x","y","answer","rest"] (fa 13) (fdd 13)
  F14:Fn K mg "next_place" zas ["rest"] (fa 14) (fdd 14)
  F15:Fn K mg "less_divisor" zL ["rest","y"] (fa 15) (fdd 15)
  F16:Fn K mg "put_back" zaf ["rest","y"] (fa 16) (fdd 16)
  F17:Fn K mg "next_figure" z7 ["answer"] (fa 17) (fdd 17)
  F18:Fn K mg "telling" za1 ["deed"] (fa 18) (fdd 18)
  F19:Fn K mg "is_deed" zaG ["thing"] (fa 19) (fdd 19)
  F20:Fn K mg "named_telling" zal ["name"] (fa 20) (fdd 20)
  F21:Fn K mg "_law_fresh" zdz ["_law_script"] (fa 21) (fdd 21)
  F22:Fn K mg "_law_mixed" zcE ["_law_seed"] (fa 22) (fdd 22)
  F23:Fn K mg "_law_fill" zdd ["_law_state"] (fa 23) (fdd 23)
  F24:Fn K mg "_law_take" zd2 ["_law_state","_law_many"] (fa 24) (fdd 24)
  F25:Fn K mg "_law_worth" zcm ["_law_state","_law_w","_law_n"] (fa 25) (fdd 25)
  F26:Fn K mg "_law_two_to" zb6 ["_law_many"] (fa 26) (fdd 26)
  F27:Fn K mg "_law_words" zb0 ["_law_worth_here","_law_w","_law_n"] (fa 27) (fdd 27)
  F28:Fn K mg "_law_whole" zbZ ["_law_thing_here"] (fa 28) (fdd 28)
  F29:Fn K mg "_law_wholes" zaQ ["_law_thing_here","_law_many","_law_most"] (fa 29) (fdd 29)
  F30:Fn K mg "_law_letter" zbp ["_law_thing_here"] (fa 30) (fdd 30)
  F31:Fn K mg "_law_index_cell" zQ ["_law_thing_here"] (fa 31) (fdd 31)
  F32:Fn K mg "_law_telling_row" zz ["_law_row"] (fa 32) (fdd 32)
  F33:Fn K mg "_law_thing" zbl ["_law_thing_here"] (fa 33) (fdd 33)
  F34:Fn K mg "_law_is_sentence" zy ["_law_told"] (fa 34) (fdd 34)
  F35:Fn K mg "_law_part" zbk ["_law_part_here","_law_deep"] (fa 35) (fdd 35)
  F36:Fn K mg "_law_is_telling" zZ ["_law_told"] (fa 36) (fdd 36)
  F37:Fn K mg "_law_at" zkR ["_law_index","_law_i","_law_j","_law_n"] (fa 37) (fdd 37)
  F38:Fn K mg "_law_plain_row" zap ["_law_row","_law_i","_law_j","_law_n"] (fa 38) (fdd 38)
  F39:Fn K mg "_law_one_done" zbC ["_law_cells","_law_mark","_law_row","_law_wide"] (fa 39) (fdd 39)
  F40:Fn K mg "_law_done" zcD ["_law_cells","_law_mark","_law_row","_law_wide"] (fa 40) (fdd 40)
  F41:Fn K mg "_law_count" zdC ["_law_count_here","_law_w","_law_n"] (fa 41) (fdd 41)
  F42:Fn K mg "_law_unrolled" zW ["_law_told","_law_w","_law_n","_law_most"] (fa 42) (fdd 42)
  F43:Fn K mg "_law_rows_right" zaq ["_law_rows"] (fa 43) (fdd 43)
  F44:Fn K mg "_law_begun" zco ["_law_w","_law_n","_law_x","_law_y"] (fa 44) (fdd 44)
  F45:Fn K mg "_law_run" zcR ["_law_told","_law_w","_law_n","_law_x","_law_y"] (fa 45) (fdd 45)
  F46:Fn K mg "_law_read" zdu ["_law_cells","_law_letter_here","_law_many","_law_w"] (fa 46) (fdd 46)
  F47:Fn K mg "_law_marks" zck ["_law_cells"] (fa 47) (fdd 47)
  F48:Fn K mg "_law_ends" zdl ["_law_worth_here","_law_many"] (fa 48) (fdd 48)
  F49:Fn K mg "_law_few" zfg ["_law_state"] (fa 49) (fdd 49)
  F50:Fn K mg "_law_two" zdk ["_law_state","_law_w","_law_n"] (fa 50) (fdd 50)
  F51:Fn K mg "law" zdE ["_law_script"] (fa 51) (fdd 51)
  z_abs:mg "abs" = none
  z_all:mg "all" = none
  z_bool:mg "bool" = none
  z_enumerate:mg "enumerate" = none
  z_int:mg "int" = none
  z_isinstance:mg "isinstance" = none
  z_len:mg "len" = none
  z_max:mg "max" = none
  z_min:mg "min" = none
  z_range:mg "range" = none
  z_str:mg "str" = none
  z_tuple:mg "tuple" = none
  k_bool:KitT K .bool
  k_int:KitT K .int
  k_str:KitT K .str
  k_tuple:KitT K .tuple
  c_BACK:GC K mg cl "BACK" zg6
  c_EACH_PLACE:GC K mg cl "EACH_PLACE" zfq
  c_EACH_WORD:GC K mg cl "EACH_WORD" zby
  c_LONE:GC K mg cl "LONE" zoO
  c_MARKS:GC K mg cl "MARKS" zhJ
  c_NIL:GC K mg cl "NIL" zh4
  c_PAIRED:GC K mg cl "PAIRED" zke
  c_PAIRWISE:GC K mg cl "PAIRWISE" zg1
  c_SEEN:GC K mg cl "SEEN" zil
  c_SHIFTS:GC K mg cl "SHIFTS" zhm
  c_SPARE:GC K mg cl "SPARE" zhq
def Fns (P:Program) (w:World) (K:PySem.W.Frag) (mg:Str -> Option Value) (base:Heap) (cl:Nat -> Addr) (fa:Nat -> Addr) (fdd:Nat -> FuncData) (k:Nat):Prop:=∀ i ps,pss i = some ps -> FnOk P w K mg base (CX1 P w) k (fa i) (fdd i) ps (spI K cl (callT T k) i)
section
variable {P:Program} {w:World} {K:PySem.W.Frag} {mg:Str -> Option Value} {base:Heap} {cl:Nat -> Addr} {fa:Nat -> Addr} {fdd:Nat -> FuncData} {k:Nat}
theorem kl0 {α:Type} (l:List α) (h:l.length = 0):l = [] := List.eq_nil_of_length_eq_zero h
theorem kl1 {α:Type} (l:List α) (h:l.length = 1):∃ a,l = [a] := match l,h with | [a],_ => ⟨a,rfl⟩
theorem kl2 {α:Type} (l:List α) (h:l.length = 2):∃ a b,l = [a,b] := match l,h with | [a,b],_ => ⟨a,b,rfl⟩
theorem kl3 {α:Type} (l:List α) (h:l.length = 3):∃ a b c,l = [a,b,c] := match l,h with | [a,b,c],_ => ⟨a,b,c,rfl⟩
theorem kl5 {α:Type} (l:List α) (h:l.length = 5):∃ a b c d e,l = [a,b,c,d,e] := match l,h with | [a,b,c,d,e],_ => ⟨a,b,c,d,e,rfl⟩
theorem kl6 {α:Type} (l:List α) (h:l.length = 6):∃ a b c d e f,l = [a,b,c,d,e,f] := match l,h with | [a,b,c,d,e,f],_ => ⟨a,b,c,d,e,f,rfl⟩
theorem kl7 {α:Type} (l:List α) (h:l.length = 7):∃ a b c d e f g,l = [a,b,c,d,e,f,g] := match l,h with | [a,b,c,d,e,f,g],_ => ⟨a,b,c,d,e,f,g,rfl⟩
theorem kl8 {α:Type} (l:List α) (h:l.length = 8):∃ a b c d e f g k,l = [a,b,c,d,e,f,g,k] := match l,h with | [a,b,c,d,e,f,g,k],_ => ⟨a,b,c,d,e,f,g,k,rfl⟩
theorem kl4 {α:Type} (l:List α) (h:l.length = 4):∃ a b c d,l = [a,b,c,d] := match l,h with | [a,b,c,d],_ => ⟨a,b,c,d,rfl⟩
theorem zkk {K:PySem.W.Frag} {mg:Str -> Option Value} {f:Addr} {fd:FuncData} (D:FnD K mg "lowest" zcl ["letter","c","i","j","m"] [0,0,0,0] f fd):∃ g,KBinds K fd ["letter","c","i","j","m"] ["i"] g (gK 1 [some 0,none,some 0,some 0]) :=
  kbD (off:=0) D rfl rfl rfl (fun dT kV doc pm an cdv ct us ws its h1 h2 h3=>by obtain ⟨a,rfl⟩ := kl1 us h1; obtain ⟨d,rfl⟩ := kl1 ws h2; obtain ⟨m,n,p,q,rfl⟩ := kl4 its h3; exact ⟨_,rfl,rfl⟩) (by decide)
theorem zjm {K:PySem.W.Frag} {mg:Str -> Option Value} {f:Addr} {fd:FuncData} (D:FnD K mg "term" zfr ["f","things","i","p","q","r"] [0,0,0,0] f fd):∃ g,KBinds K fd ["f","things","i","p","q","r"] [] g (gK 2 [some 0,some 0,some 0,some 0]) :=
  kbD (off:=0) D rfl rfl rfl (fun dT kV doc pm an cdv ct us ws its h1 h2 h3=>by obtain ⟨a,b,rfl⟩ := kl2 us h1; obtain rfl := kl0 ws h2; obtain ⟨m,n,p,q,rfl⟩ := kl4 its h3; exact ⟨_,rfl,rfl⟩) (by decide)
theorem zkg {K:PySem.W.Frag} {mg:Str -> Option Value} {f:Addr} {fd:FuncData} (D:FnD K mg "word" zdU ["letter","c","i","j","m"] [0,0,0,0] f fd):∃ g,KBinds K fd ["letter","c","i","j","m"] ["i"] g (gK 1 [some 0,none,some 0,some 0]) :=
  kbD (off:=0) D rfl rfl rfl (fun dT kV doc pm an cdv ct us ws its h1 h2 h3=>by obtain ⟨a,rfl⟩ := kl1 us h1; obtain ⟨d,rfl⟩ := kl1 ws h2; obtain ⟨m,n,p,q,rfl⟩ := kl4 its h3; exact ⟨_,rfl,rfl⟩) (by decide)
theorem zch {K:PySem.W.Frag} {mg:Str -> Option Value} {f:Addr} {fd:FuncData} (D:FnD K mg "word" zdU ["letter","c","i","j","m"] [0,0,0,0] f fd):∃ g,KBinds K fd ["letter","c","i","j","m"] ["j"] g (gK 1 [some 0,some 0,none,some 0]) :=
  kbD (off:=0) D rfl rfl rfl (fun dT kV doc pm an cdv ct us ws its h1 h2 h3=>by obtain ⟨a,rfl⟩ := kl1 us h1; obtain ⟨d,rfl⟩ := kl1 ws h2; obtain ⟨m,n,p,q,rfl⟩ := kl4 its h3; exact ⟨_,rfl,rfl⟩) (by decide)
theorem zlB {K:PySem.W.Frag} {mg:Str -> Option Value} {f:Addr} {fd:FuncData} (D:FnD K mg "word" zdU ["letter","c","i","j","m"] [0,0,0,0] f fd):∃ g,KBinds K fd ["letter","c","i","j","m"] ["i","m"] g (gK 1 [some 0,none,some 0,none]) :=
  kbD (off:=0) D rfl rfl rfl (fun dT kV doc pm an cdv ct us ws its h1 h2 h3=>by obtain ⟨a,rfl⟩ := kl1 us h1; obtain ⟨d,e,rfl⟩ := kl2 ws h2; obtain ⟨m,n,p,q,rfl⟩ := kl4 its h3; exact ⟨_,rfl,rfl⟩) (by decide)
theorem zon {K:PySem.W.Frag} {mg:Str -> Option Value} {f:Addr} {fd:FuncData} (D:FnD K mg "word" zdU ["letter","c","i","j","m"] [0,0,0,0] f fd):∃ g,KBinds K fd ["letter","c","i","j","m"] ["m"] g (gK 2 [some 0,some 0,none]) :=
  kbD (off:=1) D rfl rfl rfl (fun dT kV doc pm an cdv ct us ws its h1 h2 h3=>by obtain ⟨a,b,rfl⟩ := kl2 us h1; obtain ⟨d,rfl⟩ := kl1 ws h2; obtain ⟨m,n,p,q,rfl⟩ := kl4 its h3; exact ⟨_,rfl,rfl⟩) (by decide)
theorem zfP {K:PySem.W.Frag} {mg:Str -> Option Value} {f:Addr} {fd:FuncData} (D:FnD K mg "lowest" zcl ["letter","c","i","j","m"] [0,0,0,0] f fd):∃ g,KBinds K fd ["letter","c","i","j","m"] ["m"] g (gK 1 [some 0,some 0,some 0,none]) :=
  kbD (off:=0) D rfl rfl rfl (fun dT kV doc pm an cdv ct us ws its h1 h2 h3=>by obtain ⟨a,rfl⟩ := kl1 us h1; obtain ⟨d,rfl⟩ := kl1 ws h2; obtain ⟨m,n,p,q,rfl⟩ := kl4 its h3; exact ⟨_,rfl,rfl⟩) (by decide)
theorem zn4 {K:PySem.W.Frag} {mg:Str -> Option Value} {f:Addr} {fd:FuncData} (D:FnD K mg "term" zfr ["f","things","i","p","q","r"] [0,0,0,0] f fd):∃ g,KBinds K fd ["f","things","i","p","q","r"] ["i"] g (gK 2 [none,some 0,some 0,some 0]) :=
  kbD (off:=0) D rfl rfl rfl (fun dT kV doc pm an cdv ct us ws its h1 h2 h3=>by obtain ⟨a,b,rfl⟩ := kl2 us h1; obtain ⟨d,rfl⟩ := kl1 ws h2; obtain ⟨m,n,p,q,rfl⟩ := kl4 its h3; exact ⟨_,rfl,rfl⟩) (by decide)
theorem zko {K:PySem.W.Frag} {mg:Str -> Option Value} {f:Addr} {fd:FuncData} (D:FnD K mg "term" zfr ["f","things","i","p","q","r"] [0,0,0,0] f fd):∃ g,KBinds K fd ["f","things","i","p","q","r"] ["r"] g (gK 2 [some 0,some 0,some 0,none]) :=
  kbD (off:=0) D rfl rfl rfl (fun dT kV doc pm an cdv ct us ws its h1 h2 h3=>by obtain ⟨a,b,rfl⟩ := kl2 us h1; obtain ⟨d,rfl⟩ := kl1 ws h2; obtain ⟨m,n,p,q,rfl⟩ := kl4 its h3; exact ⟨_,rfl,rfl⟩) (by decide)
theorem zos {K:PySem.W.Frag} {mg:Str -> Option Value} {f:Addr} {fd:FuncData} (D:FnD K mg "lowest" zcl ["letter","c","i","j","m"] [0,0,0,0] f fd):∃ g,KBinds K fd ["letter","c","i","j","m"] ["m"] g (gK 2 [some 0,some 0,none]) :=
  kbD (off:=1) D rfl rfl rfl (fun dT kV doc pm an cdv ct us ws its h1 h2 h3=>by obtain ⟨a,b,rfl⟩ := kl2 us h1; obtain ⟨d,rfl⟩ := kl1 ws h2; obtain ⟨m,n,p,q,rfl⟩ := kl4 its h3; exact ⟨_,rfl,rfl⟩) (by decide)
theorem zps {K:PySem.W.Frag} {mg:Str -> Option Value} {f:Addr} {fd:FuncData} (D:FnD K mg "moved" zca ["to","source","c"] [0] f fd):∃ g,KBinds K fd ["to","source","c"] [] g (gK 2 [some 0]) :=
  kbD (off:=0) D rfl rfl rfl (fun dT kV doc pm an cdv ct us ws its h1 h2 h3=>by obtain ⟨a,b,rfl⟩ := kl2 us h1; obtain rfl := kl0 ws h2; obtain ⟨m,rfl⟩ := kl1 its h3; exact ⟨_,rfl,rfl⟩) (by decide)
theorem zkf {K:PySem.W.Frag} {mg:Str -> Option Value} {f:Addr} {fd:FuncData} (D:FnD K mg "word" zdU ["letter","c","i","j","m"] [0,0,0,0] f fd):∃ g,KBinds K fd ["letter","c","i","j","m"] ["m"] g (gK 1 [some 0,some 0,some 0,none]) :=
  kbD (off:=0) D rfl rfl rfl (fun dT kV doc pm an cdv ct us ws its h1 h2 h3=>by obtain ⟨a,rfl⟩ := kl1 us h1; obtain ⟨d,rfl⟩ := kl1 ws h2; obtain ⟨m,n,p,q,rfl⟩ := kl4 its h3; exact ⟨_,rfl,rfl⟩) (by decide)
theorem zpf (Z:Facts K mg cl fa fdd) (C:Fns P w K mg base cl fa fdd k):FnOk P w K mg base (CX1 P w) (k + 1) (fa 0) (fdd 0) ["letter","c","i","j","m"] (spI K cl (callT T (k + 1)) 0) :=
  zka (fn:=zoM) rfl Z.F0 sc_word rfl rfl fun cdv A outer s H E hr=>have nd:=sc_word.nd; have hu1:=z8 hr; (zb (zr (zu (za (svF zgm 0) (za (zu (za (svF zgm 1) (za (svF zgm 2) (za (svF zgm 3) (za (svF zgm 4) zd))))) zd)))) ze)
theorem zp8 (Z:Facts K mg cl fa fdd) (C:Fns P w K mg base cl fa fdd k):FnOk P w K mg base (CX1 P w) (k + 1) (fa 1) (fdd 1) ["told"] (spI K cl (callT T (k + 1)) 1) :=
  zad (fn:=zoX) rfl Z.F1.F sc_rows rfl rfl fun cdv A outer s H E hr=>have nd:=sc_rows.nd; have hu1:=z8 hr; (zb (zr (zc3 zfO zhZ Z.z_tuple zar (za (zc6 rfl (compOk (NC:=["row"]) (slots:=[none]) ["told"] (defScope zff) rfl rfl rfl (by decide +kernel) (by decide +kernel) (by decide +kernel) (by decide +kernel) rfl) (by decide) (zcg (svF zpt 0)) (fun j=>zdb rfl (zaa (i:=0) (show (["row"]:List Str).Nodup by decide +kernel) rfl (by first | exact Or.inl rfl | exact Or.inr rfl))) (fun j=>zcp) (fun j=>zdr rfl (zu (za zp (za (sv 0) zd))))) zd))) ze)
theorem zl1 (Z:Facts K mg cl fa fdd) (C:Fns P w K mg base cl fa fdd k):FnOk P w K mg base (CX1 P w) (k + 1) (fa 2) (fdd 2) ["count","sentence","inner"] (spI K cl (callT T (k + 1)) 2) :=
  zad (fn:=zj8) rfl Z.F2.F sc_rounds rfl rfl fun cdv A outer s H E hr=>have nd:=sc_rounds.nd; have hu1:=z8 hr; (zb (zr (zu (za (zu (za zp (za (svF zge 0) (za (svF zge 1) (za (svF zge 2) zd))))) zd))) ze)
theorem znm (Z:Facts K mg cl fa fdd) (C:Fns P w K mg base cl fa fdd k):FnOk P w K mg base (CX1 P w) (k + 1) (fa 3) (fdd 3) ["letter","c","i","j","m"] (spI K cl (callT T (k + 1)) 3) :=
  zka (fn:=zkB) rfl Z.F3 sc_lowest rfl rfl fun cdv A outer s H E hr=>have nd:=sc_lowest.nd; have hu1:=z8 hr; (zb (zr (zu (za zp (za (svF zdj 0) (za (zu (za zc (za zc (za zc (za zc zd))))) (za (zu (za (svF zdj 1) (za (svF zdj 2) (za (svF zdj 3) (za (svF zdj 4) zd))))) zd)))))) ze)
theorem zpk (Z:Facts K mg cl fa fdd) (C:Fns P w K mg base cl fa fdd k):FnOk P w K mg base (CX1 P w) (k + 1) (fa 4) (fdd 4) ["f","things","i","p","q","r"] (spI K cl (callT T (k + 1)) 4) :=
  zka (fn:=zoC) rfl Z.F4 sc_term rfl rfl fun cdv A outer s H E hr=>have nd:=sc_term.nd; have hu1:=z8 hr; (zb (zr (zu (za (svF ze0 0) (za (zu (za zc (za (svF ze0 2) (za zc (za (svF ze0 3) (za (svF ze0 4) (za (svF ze0 5) zd))))))) (za (svF ze0 1) zd))))) ze)
theorem zow (Z:Facts K mg cl fa fdd) (C:Fns P w K mg base cl fa fdd k):FnOk P w K mg base (CX1 P w) (k + 1) (fa 5) (fdd 5) ["to","source","c"] (spI K cl (callT T (k + 1)) 5) :=
  zka (fn:=zlH) rfl Z.F5 sc_moved rfl rfl fun cdv A outer s H E hr=>have nd:=sc_moved.nd; have hu1:=z8 hr; (zb (zq (i:=3) nd rfl (lcF (i:=3) zcH rfl) (zu (za (zE (C 4 _ rfl) hr zeF Z.F4.m Z.F4.kp (zjm Z.F4) rfl (za zc (za (zu (za (zE (C 3 _ rfl) hr zc1 Z.F3.m Z.F3.kp (zkk Z.F3) rfl (za (svF zcH 1) zd) (zx (zbP zc (zx (zx zau))))) zd)) zd)) (zx (zx (zx (zx zau))))) (za (zE (C 4 _ rfl) hr zeF Z.F4.m Z.F4.kp (zjm Z.F4) rfl (za (ziE zc) (za (zu (za (zE (C 3 _ rfl) hr zc1 Z.F3.m Z.F3.kp (zkk Z.F3) rfl (za (svF zcH 0) zd) (zx (zbP zc (zx (zx zau))))) zd)) zd)) (zx (zx (zx (zx zau))))) zd)))) (zb (zr (zg (C 2 _ rfl) hr zfR Z.F2.m Z.F2.F.kp Z.F2.b (za (zu (za (svF zcH 2) (za zc (za zc zd)))) (za (svF zcH 3) (za (zg (C 1 _ rfl) hr zhL Z.F1.m Z.F1.F.kp Z.F1.b (za (zcf (za (zu (za zp (za (zE (C 0 _ rfl) hr zeD Z.F0.m Z.F0.kp (zkg Z.F0) rfl (za (svF zcH 0) zd) (zx (zbP zc (zx (zx zau))))) (za (zE (C 0 _ rfl) hr zeD Z.F0.m Z.F0.kp (zkg Z.F0) rfl (za (svF zcH 1) zd) (zx (zbP zc (zx (zx zau))))) zd)))) zd)) zd)) zd))))) ze))
theorem zlq (Z:Facts K mg cl fa fdd) (C:Fns P w K mg base cl fa fdd k):FnOk P w K mg base (CX1 P w) (k + 1) (fa 6) (fdd 6) ["letter","count"] (spI K cl (callT T (k + 1)) 6) :=
  zad (fn:=zih) rfl Z.F6.F sc_doubled rfl rfl fun cdv A outer s H E hr=>have nd:=sc_doubled.nd; have hu1:=z8 hr; (zb (zr (zg (C 2 _ rfl) hr zeW Z.F2.m Z.F2.F.kp Z.F2.b (za (svF zeS 1) (za (zu zd) (za (zg (C 1 _ rfl) hr zfX Z.F1.m Z.F1.F.kp Z.F1.b (za (zcf (za (zu (za zp (za (zE (C 0 _ rfl) hr zdo Z.F0.m Z.F0.kp (zch Z.F0) rfl (za (svF zeS 0) zd) (zx (zx (zbP zc (zx zau))))) (za (zE (C 0 _ rfl) hr zdo Z.F0.m Z.F0.kp (zch Z.F0) rfl (za (svF zeS 0) zd) (zx (zx (zbP zc (zx zau))))) zd)))) zd)) zd)) zd))))) ze)
theorem zid (Z:Facts K mg cl fa fdd) (C:Fns P w K mg base cl fa fdd k):FnOk P w K mg base (CX1 P w) (k + 1) (fa 7) (fdd 7) ["to"] (spI K cl (callT T (k + 1)) 7) :=
  zad (fn:=zgi) rfl Z.F7.F sc_kept_mark rfl rfl fun cdv A outer s H E hr=>have nd:=sc_kept_mark.nd; have hu1:=z8 hr; (zb (zr (zu (za zp (za (svF ziw 0) (za (zaY zcT Z.c_NIL) (za (zaY zcT Z.c_NIL) zd)))))) ze)
theorem zfB (Z:Facts K mg cl fa fdd) (C:Fns P w K mg base cl fa fdd k):FnOk P w K mg base (CX1 P w) (k + 1) (fa 8) (fdd 8) ["to"] (spI K cl (callT T (k + 1)) 8) :=
  zad (fn:=zdc) rfl Z.F8.F sc_kept_contrary rfl rfl fun cdv A outer s H E hr=>have nd:=sc_kept_contrary.nd; have hu1:=z8 hr; (zb (zr (zcf (za (zu (za zp (za (svF zbO 0) (za zc zd)))) (za (zu (za zp (za (svF zbO 0) (za (svF zbO 0) (za (zaY zdM Z.c_NIL) zd))))) zd)))) ze)
theorem zgR (Z:Facts K mg cl fa fdd) (C:Fns P w K mg base cl fa fdd k):FnOk P w K mg base (CX1 P w) (k + 1) (fa 9) (fdd 9) ["letter","m","count"] (spI K cl (callT T (k + 1)) 9) :=
  zad (fn:=zeu) rfl Z.F9.F sc_asked_words rfl rfl fun cdv A outer s H E hr=>have nd:=sc_asked_words.nd; have hu1:=z8 hr; (zb (zq (i:=3) nd rfl (lcF (i:=3) zaZ rfl) (zu (za zp (za (zaY zaD Z.c_SEEN) (za (zaY zaD Z.c_SEEN) (za (zE (C 0 _ rfl) hr zd8 Z.F0.m Z.F0.kp (zlB Z.F0) rfl (za (svF zaZ 0) zd) (zx (zbP zc (zx (zbP (svF zaZ 1) zau))))) zd)))))) (zb (zr (zf zI (zf zI (zg (C 1 _ rfl) hr zbb Z.F1.m Z.F1.F.kp Z.F1.b (za (zcf (za (zu (za zp (za (zaY zaD Z.c_SEEN) (za zc zd)))) zd)) zd)) (zg (C 2 _ rfl) hr zdm Z.F2.m Z.F2.F.kp Z.F2.b (za (svF zaZ 2) (za (zu zd) (za (zg (C 1 _ rfl) hr zbb Z.F1.m Z.F1.F.kp Z.F1.b (za (zcf (za (svF zaZ 3) zd)) zd)) zd))))) (zg (C 1 _ rfl) hr zbb Z.F1.m Z.F1.F.kp Z.F1.b (za (zcf (za (zu (za zp (za (zaY zaD Z.c_SEEN) zd))) zd)) zd)))) ze))
theorem zgz (Z:Facts K mg cl fa fdd) (C:Fns P w K mg base cl fa fdd k):FnOk P w K mg base (CX1 P w) (k + 1) (fa 10) (fdd 10) ["c","m"] (spI K cl (callT T (k + 1)) 10) :=
  zad (fn:=zdQ) rfl Z.F10.F sc_answer_marks rfl rfl fun cdv A outer s H E hr=>have nd:=sc_answer_marks.nd; have hu1:=z8 hr; (zb (zq (i:=2) nd rfl (lcF (i:=2) zaz rfl) (zcf (za (zu (za zp (za (zaY zdg Z.c_SPARE) (za (zE (C 0 _ rfl) hr zdK Z.F0.m Z.F0.kp (zon Z.F0) rfl (za zp (za (zf zbr (svF zaz 0) zc) zd)) (zx (zx (zbP (svF zaz 1) zau)))) zd)))) (za (zg (C 7 _ rfl) hr zcq Z.F7.m Z.F7.F.kp Z.F7.b (za (zk (zaY zbF Z.c_MARKS) zc) zd)) zd)))) (zb (zr (zf zI (zg (C 9 _ rfl) hr zb4 Z.F9.m Z.F9.F.kp Z.F9.b (za zp (za zc (za (zu (za (svF zaz 0) (za (svF zaz 1) (za zc zd)))) zd)))) (zg (C 1 _ rfl) hr zdN Z.F1.m Z.F1.F.kp Z.F1.b (za (zf zI (zg (C 8 _ rfl) hr zbQ Z.F8.m Z.F8.F.kp Z.F8.b (za (zk (zaY zbF Z.c_MARKS) zc) zd)) (svF zaz 2)) zd)))) ze))
theorem zeg (Z:Facts K mg cl fa fdd) (C:Fns P w K mg base cl fa fdd k):FnOk P w K mg base (CX1 P w) (k + 1) (fa 11) (fdd 11) [] (spI K cl (callT T (k + 1)) 11) :=
  zad (fn:=zci) rfl Z.F11.F sc_quotient_telling rfl rfl fun cdv A outer s H E hr=>have nd:=sc_quotient_telling.nd; have hu1:=z8 hr; (zb (zr (zf zI (zf zI (zg (C 13 _ rfl) hr zcc Z.F13.m Z.F13.F.kp Z.F13.b (za zp (za zp (za zp (za zp zd))))) (zkD (C 12 _ rfl) hr zbR Z.F12.m Z.F12.F.kp Z.F12.b)) (zg (C 10 _ rfl) hr zbv Z.F10.m Z.F10.F.kp Z.F10.b (za zc (za zc zd))))) ze)
theorem zi6 (Z:Facts K mg cl fa fdd) (C:Fns P w K mg base cl fa fdd k):FnOk P w K mg base (CX1 P w) (k + 1) (fa 12) (fdd 12) [] (spI K cl (callT T (k + 1)) 12) :=
  zad (fn:=zgB) rfl Z.F12.F sc_by_nought rfl rfl fun cdv A outer s H E hr=>have nd:=sc_by_nought.nd; have hu1:=z8 hr; (zb (zr (zf zI (zg (C 9 _ rfl) hr zcB Z.F9.m Z.F9.F.kp Z.F9.b (za zp (za zc (za (zaY zcX Z.c_EACH_WORD) zd)))) (zg (C 1 _ rfl) hr ze4 Z.F1.m Z.F1.F.kp Z.F1.b (za (zg (C 8 _ rfl) hr zce Z.F8.m Z.F8.F.kp Z.F8.b (za (zk (zaY zeG Z.c_MARKS) zc) zd)) zd)))) ze)
theorem zlf (Z:Facts K mg cl fa fdd) (C:Fns P w K mg base cl fa fdd k):FnOk P w K mg base (CX1 P w) (k + 1) (fa 13) (fdd 13) ["x","y","answer","rest"] (spI K cl (callT T (k + 1)) 13) :=
  zad (fn:=zh8) rfl Z.F13.F sc_divided rfl rfl fun cdv A outer s H E hr=>have nd:=sc_divided.nd; have hu1:=z8 hr; (zb (zq (i:=4) nd rfl (lcF (i:=4) zX rfl) (zu (za (zE (C 4 _ rfl) hr zbo Z.F4.m Z.F4.kp (zn4 Z.F4) rfl (za zc (za (zu (za (zE (C 3 _ rfl) hr zax Z.F3.m Z.F3.kp (zfP Z.F3) rfl (za (svF zX 0) zd) (zx (zx (zx (zbP zc zau))))) zd)) zd)) (zbP zc (zx (zx (zx zau))))) (za (zE (C 4 _ rfl) hr zbo Z.F4.m Z.F4.kp (zko Z.F4) rfl (za (ziE zc) (za (zu (za (zE (C 3 _ rfl) hr zax Z.F3.m Z.F3.kp (zfP Z.F3) rfl (za (svF zX 2) zd) (zx (zx (zx (zbP zc zau))))) (za (zE (C 3 _ rfl) hr zax Z.F3.m Z.F3.kp (zfP Z.F3) rfl (za (svF zX 1) zd) (zx (zx (zx (zbP zc zau))))) zd))) zd)) (zx (zx (zx (zbP zc zau))))) (za (zE (C 4 _ rfl) hr zbo Z.F4.m Z.F4.kp (zko Z.F4) rfl (za (ziE zc) (za (zu (za (zE (C 3 _ rfl) hr zax Z.F3.m Z.F3.kp (zos Z.F3) rfl (za (svF zX 3) (za zc zd)) (zx (zx (zbP zc zau)))) zd)) zd)) (zx (zx (zx (zbP zc zau))))) (za (zE (C 4 _ rfl) hr zbo Z.F4.m Z.F4.kp (zjm Z.F4) rfl (za (ziE zc) (za (zu (za (zE (C 3 _ rfl) hr zax Z.F3.m Z.F3.kp (zfP Z.F3) rfl (za zp zd) (zx (zx (zx (zbP zc zau))))) zd)) zd)) (zx (zx (zx (zx zau))))) zd)))))) (zb (zq (i:=5) nd rfl (lcF (i:=5) zX rfl) (zf zI (zf zI (zf zI (zg (C 14 _ rfl) hr zdw Z.F14.m Z.F14.F.kp Z.F14.b (za (svF zX 3) zd)) (zg (C 15 _ rfl) hr zcN Z.F15.m Z.F15.F.kp Z.F15.b (za (svF zX 3) (za (svF zX 1) zd)))) (zg (C 16 _ rfl) hr zee Z.F16.m Z.F16.F.kp Z.F16.b (za (svF zX 3) (za (svF zX 1) zd)))) (zg (C 17 _ rfl) hr zc0 Z.F17.m Z.F17.F.kp Z.F17.b (za (svF zX 2) zd)))) (zb (zr (zf zI (zE (C 5 _ rfl) hr zfF Z.F5.m Z.F5.kp (zps Z.F5) rfl (za zp (za (svF zX 0) zd)) (zx zau)) (zg (C 2 _ rfl) hr zeU Z.F2.m Z.F2.F.kp Z.F2.b (za (zaY zc7 Z.c_EACH_PLACE) (za (svF zX 4) (za (svF zX 5) zd)))))) ze)))
theorem zhB (Z:Facts K mg cl fa fdd) (C:Fns P w K mg base cl fa fdd k):FnOk P w K mg base (CX1 P w) (k + 1) (fa 14) (fdd 14) ["rest"] (spI K cl (callT T (k + 1)) 14) :=
  zad (fn:=ze9) rfl Z.F14.F sc_next_place rfl rfl fun cdv A outer s H E hr=>have nd:=sc_next_place.nd; have hu1:=z8 hr; (zb (zr (zf zI (zf zI (zg (C 1 _ rfl) hr zeB Z.F1.m Z.F1.F.kp Z.F1.b (za (zcf (za (zu (za zp (za zc zd))) zd)) zd)) (zg (C 6 _ rfl) hr zbI Z.F6.m Z.F6.F.kp Z.F6.b (za zp (za (zaY zcF Z.c_EACH_WORD) zd)))) (zg (C 6 _ rfl) hr zbI Z.F6.m Z.F6.F.kp Z.F6.b (za (svF zh0 0) (za (zu (za zc (za zc (za zc zd)))) zd))))) ze)
theorem zgc (Z:Facts K mg cl fa fdd) (C:Fns P w K mg base cl fa fdd k):FnOk P w K mg base (CX1 P w) (k + 1) (fa 15) (fdd 15) ["rest","y"] (spI K cl (callT T (k + 1)) 15) :=
  zad (fn:=zdS) rfl Z.F15.F sc_less_divisor rfl rfl fun cdv A outer s H E hr=>have nd:=sc_less_divisor.nd; have hu1:=z8 hr; (zb (zq (i:=2) nd rfl (lcF (i:=2) zO rfl) (zu (za zp (za (zE (C 0 _ rfl) hr zav Z.F0.m Z.F0.kp (zch Z.F0) rfl (za (svF zO 0) zd) (zx (zx (zbP zc (zx zau))))) (za (zE (C 0 _ rfl) hr zav Z.F0.m Z.F0.kp (zch Z.F0) rfl (za (svF zO 0) zd) (zx (zx (zbP zc (zx zau))))) (za (zE (C 0 _ rfl) hr zav Z.F0.m Z.F0.kp (zch Z.F0) rfl (za (svF zO 1) zd) (zx (zx (zbP zc (zx zau))))) zd)))))) (zb (zq (i:=3) nd rfl (lcF (i:=3) zO rfl) (zE (C 0 _ rfl) hr zav Z.F0.m Z.F0.kp (zkf Z.F0) rfl (za (svF zO 0) zd) (zx (zx (zx (zbP zc zau)))))) (zb (zr (zf zI (zg (C 2 _ rfl) hr zcV Z.F2.m Z.F2.F.kp Z.F2.b (za (zaY zcs Z.c_EACH_WORD) (za (zu zd) (za (zg (C 1 _ rfl) hr zbU Z.F1.m Z.F1.F.kp Z.F1.b (za (zcf (za (svF zO 2) zd)) zd)) zd)))) (zg (C 1 _ rfl) hr zbU Z.F1.m Z.F1.F.kp Z.F1.b (za (zcf (za (zu (za zp (za (svF zO 3) (za (svF zO 3) (za (zaY zd5 Z.c_NIL) zd))))) zd)) zd)))) ze)))
theorem zj4 (Z:Facts K mg cl fa fdd) (C:Fns P w K mg base cl fa fdd k):FnOk P w K mg base (CX1 P w) (k + 1) (fa 16) (fdd 16) ["rest","y"] (spI K cl (callT T (k + 1)) 16) :=
  zad (fn:=zg7) rfl Z.F16.F sc_put_back rfl rfl fun cdv A outer s H E hr=>have nd:=sc_put_back.nd; have hu1:=z8 hr; (zb (zq (i:=2) nd rfl (lcF (i:=2) zah rfl) (zcf (za (zu (za zp (za (zaY zcA Z.c_SPARE) (za (zE (C 0 _ rfl) hr za4 Z.F0.m Z.F0.kp (zch Z.F0) rfl (za (svF zah 1) zd) (zx (zx (zbP zc (zx zau))))) (za (zaY zcS Z.c_BACK) zd))))) (za (zu (za zp (za (zE (C 0 _ rfl) hr za4 Z.F0.m Z.F0.kp (zch Z.F0) rfl (za (svF zah 0) zd) (zx (zx (zbP zc (zx zau))))) (za (zE (C 0 _ rfl) hr za4 Z.F0.m Z.F0.kp (zch Z.F0) rfl (za (svF zah 0) zd) (zx (zx (zbP zc (zx zau))))) (za (zaY zcA Z.c_SPARE) zd))))) zd)))) (zb (zq (i:=3) nd rfl (lcF (i:=3) zah rfl) (zE (C 0 _ rfl) hr za4 Z.F0.m Z.F0.kp (zkf Z.F0) rfl (za (svF zah 0) zd) (zx (zx (zx (zbP zc zau)))))) (zb (zq (i:=4) nd rfl (lcF (i:=4) zah rfl) (zg (C 1 _ rfl) hr zbN Z.F1.m Z.F1.F.kp Z.F1.b (za (zcf (za (zu (za zp (za (zaY zcS Z.c_BACK) (za (zaY zb8 Z.c_NIL) (za (zaY zb8 Z.c_NIL) zd))))) (za (zu (za zp (za zc zd))) zd))) zd))) (zb (zr (zf zI (zf zI (svF zah 4) (zg (C 2 _ rfl) hr zeK Z.F2.m Z.F2.F.kp Z.F2.b (za (zaY zdi Z.c_EACH_WORD) (za (zu zd) (za (zg (C 1 _ rfl) hr zbN Z.F1.m Z.F1.F.kp Z.F1.b (za (svF zah 2) zd)) zd))))) (zg (C 1 _ rfl) hr zbN Z.F1.m Z.F1.F.kp Z.F1.b (za (zcf (za (zu (za zp (za (svF zah 3) (za (svF zah 3) (za (zaY zb8 Z.c_NIL) zd))))) zd)) zd)))) ze))))
theorem zgN (Z:Facts K mg cl fa fdd) (C:Fns P w K mg base cl fa fdd k):FnOk P w K mg base (CX1 P w) (k + 1) (fa 17) (fdd 17) ["answer"] (spI K cl (callT T (k + 1)) 17) :=
  zad (fn:=zey) rfl Z.F17.F sc_next_figure rfl rfl fun cdv A outer s H E hr=>have nd:=sc_next_figure.nd; have hu1:=z8 hr; (zb (zr (zf zI (zg (C 1 _ rfl) hr zd0 Z.F1.m Z.F1.F.kp Z.F1.b (za (zcf (za (zu (za zp (za (zaY zba Z.c_BACK) (za (zaY zba Z.c_BACK) zd)))) (za (zu (za zp (za (zaY zba Z.c_BACK) zd))) zd))) zd)) (zg (C 6 _ rfl) hr zcW Z.F6.m Z.F6.F.kp Z.F6.b (za (svF zgO 0) (za (zaY zcC Z.c_EACH_WORD) zd))))) ze)
theorem zlA (Z:Facts K mg cl fa fdd) (C:Fns P w K mg base cl fa fdd k):FnOk P w K mg base (CX1 P w) (k + 1) (fa 18) (fdd 18) ["deed"] (spI K cl (callT T (k + 1)) 18) :=
  zad (fn:=zi9) rfl Z.F18.F sc_telling rfl rfl fun cdv A outer s H E hr=>have nd:=sc_telling.nd; have hu1:=z8 hr; (zb (zG (za2 (zaI (zg (C 19 _ rfl) hr zev Z.F19.m Z.F19.F.kp Z.F19.b (za (svF zcv 0) zd)))) (zb zN ze) ze) (zb (zG (zo (zV hr.units) (zk (svF zcv 0) zc) zp (nomark _)) (zb zN ze) ze) (zb (zG (zo zgQ (zk (svF zcv 0) zc) (zaY ze5 Z.c_SHIFTS) (by with_unfolding_all rfl)) (zb zN ze) ze) (zb (zG (zo zgQ (zk (svF zcv 0) zc) (zaY zd6 Z.c_PAIRWISE) (by with_unfolding_all rfl)) (zb zN ze) ze) (zb (zr (zg (C 20 _ rfl) hr zcx Z.F20.m Z.F20.F.kp Z.F20.b (za (zk (svF zcv 0) zc) zd))) ze)))))
theorem zkO (Z:Facts K mg cl fa fdd) (C:Fns P w K mg base cl fa fdd k):FnOk P w K mg base (CX1 P w) (k + 1) (fa 19) (fdd 19) ["thing"] (spI K cl (callT T (k + 1)) 19) :=
  zad (fn:=zix) rfl Z.F19.F sc_is_deed rfl rfl fun cdv A outer s H E hr=>have nd:=sc_is_deed.nd; have hu1:=z8 hr; (zb (zG (PW.pt (zbB (za2 (zaI (zbL (t:=.tuple) Z.k_tuple rfl zdv Z.z_isinstance zfA Z.z_tuple zar (svF zbA 0)))) (zbi (zo (zV hr.units) (zP zaB zdO Z.z_len zaA (za (svF zbA 0) zd)) zc (nomark _))))) (zb zN ze) ze) (zb (zG (zo (zV hr.units) (zk (svF zbA 0) zc) zp (nomark _)) (zb zN ze) ze) (zb (zG (zo zgQ (zk (svF zbA 0) zc) (zaY zeV Z.c_SHIFTS) (by with_unfolding_all rfl)) (zb zN ze) ze) (zb (zr (zbx (zaW (zV hr.units) (zP zaB zdO Z.z_len zaA (za (svF zbA 0) zd)) zc (nomark _)) (zcd (zpO (zaW zgQ (zk (svF zbA 0) zc) (zaY zeT Z.c_PAIRED) (by with_unfolding_all rfl)) (zcd (zaW zgQ (zk (svF zbA 0) zc) (zaY zfT Z.c_LONE) (by with_unfolding_all rfl))))))) ze))))
theorem zfw (Z:Facts K mg cl fa fdd) (C:Fns P w K mg base cl fa fdd k):FnOk P w K mg base (CX1 P w) (k + 1) (fa 20) (fdd 20) ["name"] (spI K cl (callT T (k + 1)) 20) :=
  zad (fn:=zda) rfl Z.F20.F sc_named_telling rfl rfl fun cdv A outer s H E hr=>have nd:=sc_named_telling.nd; have hu1:=z8 hr; (zb (zG (zo (zV hr.units) (svF zT 0) zp (nomark _)) (zb zN ze) ze) (zb (zG (zo (zV hr.units) (svF zT 0) zp (nomark _)) (zb zN ze) ze) (zb (zG (zo (zV hr.units) (svF zT 0) zp (nomark _)) (zb zN ze) ze) (zb (zG (zo (zV hr.units) (svF zT 0) zp (nomark _)) (zb zN ze) ze) (zb (zG (zo (zV hr.units) (svF zT 0) zp (nomark _)) (zb zN ze) ze) (zb (zG (zo (zV hr.units) (svF zT 0) zp (nomark _)) (zb zN ze) ze) (zb (zG (zo (zV hr.units) (svF zT 0) zp (nomark _)) (zb zN ze) ze) (zb (zG (zo (zV hr.units) (svF zT 0) zp (nomark _)) (zb (zr (zkD (C 11 _ rfl) hr zbn Z.F11.m Z.F11.F.kp Z.F11.b)) ze) ze) (zb zN ze)))))))))
theorem zl5 (Z:Facts K mg cl fa fdd) (C:Fns P w K mg base cl fa fdd k):FnOk P w K mg base (CX1 P w) (k + 1) (fa 21) (fdd 21) ["_law_script"] (spI K cl (callT T (k + 1)) 21) :=
  zad (fn:=zfL) rfl Z.F21.F sc_qfresh rfl rfl fun cdv A outer s H E hr=>have nd:=sc_qfresh.nd; have hu1:=z8 hr; (zb (zr (zh1 (za (zkl (svF zmG 0) zhl (zhN zc)) (za zc (za zc (za zk2 zd)))))) ze)
theorem zmi (Z:Facts K mg cl fa fdd) (C:Fns P w K mg base cl fa fdd k):FnOk P w K mg base (CX1 P w) (k + 1) (fa 22) (fdd 22) ["_law_seed"] (spI K cl (callT T (k + 1)) 22) :=
  zad (fn:=f_qmixed) rfl Z.F22.F sc_qmixed rfl rfl fun cdv A outer s H E hr=>have nd:=sc_qmixed.nd; have hu1:=z8 hr; (zb (zq (i:=1) nd rfl (lcF (i:=1) zw rfl) (zu (za zc (za zc (za zc (za zc (za zc zd))))))) (zb (zq (i:=2) nd rfl (lcF (i:=2) zw rfl) zc) (zb (zbf own1 rfl (zjI zdZ Z.z_enumerate (svF zw 1)) (zig rfl (zbD (i:=3) nd rfl (lcF (i:=3) zw rfl) (zbD (i:=4) nd rfl (lcF (i:=4) zw rfl) zgC))) (zb (zq (i:=5) nd rfl (lcF (i:=5) zw rfl) (zf zI (svF zw 0) (zk (zu (za zc (za zc (za zc (za zc (za zc zd)))))) (svF zw 3)))) (zb (zq (i:=5) nd rfl (lcF (i:=5) zw rfl) (zf zbS (zf zS (svF zw 5) (zf zI zc (zf zS zc (svF zw 3)))) (svF zw 4))) (zb (zq (i:=6) nd rfl (lcF (i:=6) zw rfl) (zf zbS (zf zS (svF zw 5) (svF zw 5)) (svF zw 4))) (zb (zq (i:=7) nd rfl (lcF (i:=7) zw rfl) (zf zbS (zf zS (zf zbS (zf zS (svF zw 6) (svF zw 6)) (svF zw 4)) (svF zw 5)) (svF zw 4))) (zb (zq (i:=2) nd rfl (lcF (i:=2) zw rfl) (zf zI (zf zS (svF zw 2) (svF zw 4)) (svF zw 7))) ze)))))) (zb (zr (svF zw 2)) ze))))
theorem znt (Z:Facts K mg cl fa fdd) (C:Fns P w K mg base cl fa fdd k):FnOk P w K mg base (CX1 P w) (k + 1) (fa 23) (fdd 23) ["_law_state"] (spI K cl (callT T (k + 1)) 23) :=
  zad (fn:=zec) rfl Z.F23.F sc_qfill rfl rfl fun cdv A outer s H E hr=>have nd:=sc_qfill.nd; have hu1:=z8 hr; (zb (zq4 rfl nd rfl rfl (by decide) (zqK rfl nd rfl rfl (by decide) rfl rfl (za (zk (svF zF 0) zc) (za (zk (svF zF 0) zc) zd)) rfl)) (zb (zq (i:=3) nd rfl (lcF (i:=3) zF rfl) (zf zI (zf zS zc (svF zF 2)) zc)) (zb (zG (zo zhQ (zP zaB zcj Z.z_len zaA (za (svF zF 1) zd)) zc (nomark _)) (zb (zq (i:=3) nd rfl (lcF (i:=3) zF rfl) (zf zS zc (zf zaJ (svF zF 2) (zP zaB zcj Z.z_len zaA (za (svF zF 1) zd))))) (zb (zq (i:=3) nd rfl (lcF (i:=3) zF rfl) (zf zI (svF zF 3) (zk (svF zF 1) (zf zbS (svF zF 2) (zP zaB zcj Z.z_len zaA (za (svF zF 1) zd)))))) ze)) ze) (zb (zhg (zf zI (svF zF 2) zc) (svF zF 0) zc (hg:=zga (svF zF 0) zc zcK)) (zb (zhg (zpO (zaW zpl (svF zF 2) (zP zaB zcj Z.z_len zaA (za (svF zF 1) zd)) (nomark _)) (zcd (zaW ziI (svF zF 3) (zf zmS zc zc) (nomark _)))) (svF zF 0) zc (hg:=zga (svF zF 0) zc zcK)) (zb (zG (zaI (zk (svF zF 0) zc)) (zb (zhg (zg (C 22 _ rfl) hr zfV Z.F22.m Z.F22.F.kp Z.F22.b (za (svF zF 3) zd)) (svF zF 0) zc (hg:=zga (svF zF 0) zc zcK)) ze) (zb (zhg (zf zbr (svF zF 3) (zf zmS zc zc)) (svF zF 0) zc (hg:=zga (svF zF 0) zc zcK)) ze)) ze))))))
theorem zn7 (Z:Facts K mg cl fa fdd) (C:Fns P w K mg base cl fa fdd k):FnOk P w K mg base (CX1 P w) (k + 1) (fa 24) (fdd 24) ["_law_state","_law_many"] (spI K cl (callT T (k + 1)) 24) :=
  zad (fn:=f_qtake) rfl Z.F24.F sc_qtake rfl rfl fun cdv A outer s H E hr=>have nd:=sc_qtake.nd; have hu1:=z8 hr; (zb (zq (i:=2) nd rfl (lcF (i:=2) zM rfl) zc) (zb (znS own1 (PW.pt (zes (zo ziI (svF zM 2) zc (nomark _)) (zcL (PW.pt (zbB (zo (zV hr.units) (zk (svF zM 0) zc) zc (nomark _)) (zbi (PW.pt (zes (zaI (zk (svF zM 0) zc)) (zcL (zo ziI (zk (svF zM 0) zc) (zf zS (svF zM 1) zc) (nomark _))))))))))) (zb (zed (zg (C 23 _ rfl) hr zgT Z.F23.m Z.F23.F.kp Z.F23.b (za (svF zM 0) zd))) (zb (zmO (i:=2) nd rfl (lcF (i:=2) zM rfl) zc zjq) (zb (zG (PW.pt (zes (zaI (zk (svF zM 0) zc)) (zcL (zo ziI (zk (svF zM 0) zc) (zf zS (svF zM 1) zc) (nomark _))))) (zb (zhg (zf zI (zk (svF zM 0) zc) (zf zS (zf zS (svF zM 1) zc) (zf zI zc (zf zbS (zk (svF zM 0) zc) zc)))) (svF zM 0) zc (hg:=zga (svF zM 0) zc zcK)) ze) ze) ze)))) (zb (zq (i:=3) nd rfl (lcF (i:=3) zM rfl) (zf zbS (zk (svF zM 0) zc) (svF zM 1))) (zb (zhg (zf zaJ (zk (svF zM 0) zc) (svF zM 1)) (svF zM 0) zc (hg:=zga (svF zM 0) zc zcK)) (zb (zr (svF zM 3)) ze)))))
theorem znl (Z:Facts K mg cl fa fdd) (C:Fns P w K mg base cl fa fdd k):FnOk P w K mg base (CX1 P w) (k + 1) (fa 25) (fdd 25) ["_law_state","_law_w","_law_n"] (spI K cl (callT T (k + 1)) 25) :=
  zad (fn:=f_qworth) rfl Z.F25.F sc_qworth rfl rfl fun cdv A outer s H E hr=>have nd:=sc_qworth.nd; have hu1:=z8 hr; (zb (zq (i:=3) nd rfl (lcF (i:=3) zh rfl) (zg (C 24 _ rfl) hr zaO Z.F24.m Z.F24.F.kp Z.F24.b (za (svF zh 0) (za zc zd)))) (zb (zq (i:=4) nd rfl (lcF (i:=4) zh rfl) zc) (zb (zbf own1 rfl (za3 zaP Z.z_range (zf zS (svF zh 1) (svF zh 2))) (zaa (i:=5) nd rfl (lcF (i:=5) zh rfl)) (zb (zq (i:=4) nd rfl (lcF (i:=4) zh rfl) (zf zS zc (svF zh 4))) ze)) (zb (zq (i:=6) nd rfl (lcF (i:=6) zh rfl) (zu (za zc (za zc (za (zf zbr (svF zh 4) zc) (za (zf zaJ (svF zh 4) zc) (za (zf zbr (zf zaJ (svF zh 4) zc) zc) (za (zf zbr (svF zh 4) zc) zd)))))))) (zb (zG (zo ziI (svF zh 3) zc (nomark _)) (zb (zr (zk (svF zh 6) (svF zh 3))) ze) ze) (zb (zq (i:=7) nd rfl (lcF (i:=7) zh rfl) (zg (C 24 _ rfl) hr zaO Z.F24.m Z.F24.F.kp Z.F24.b (za (svF zh 0) (za (svF zh 4) zd)))) (zb (zG (zo (zV hr.units) (svF zh 3) zc (nomark _)) (zb (zq (i:=8) nd rfl (lcF (i:=8) zh rfl) zc) (zb (zbf own1 rfl (za3 zaP Z.z_range (zg (C 24 _ rfl) hr zaO Z.F24.m Z.F24.F.kp Z.F24.b (za (svF zh 0) (za (zf zS (svF zh 1) (svF zh 2)) zd)))) (zaa (i:=5) nd rfl (lcF (i:=5) zh rfl)) (zb (zq (i:=8) nd rfl (lcF (i:=8) zh rfl) (zf zS zc (svF zh 8))) ze)) (zb (zr (zf zS (zf zaJ (svF zh 7) (svF zh 8)) (svF zh 8))) ze))) ze) (zb (zG (zo (zV hr.units) (svF zh 3) zc (nomark _)) (zb (zq (i:=8) nd rfl (lcF (i:=8) zh rfl) zc) (zb (zbf own1 rfl (za3 zaP Z.z_range (zg (C 24 _ rfl) hr zaO Z.F24.m Z.F24.F.kp Z.F24.b (za (svF zh 0) (za (zf zS (svF zh 1) (svF zh 2)) zd)))) (zaa (i:=5) nd rfl (lcF (i:=5) zh rfl)) (zb (zq (i:=8) nd rfl (lcF (i:=8) zh rfl) (zf zS zc (svF zh 8))) ze)) (zb (zr (zf zbr (svF zh 4) (svF zh 8))) ze))) ze) (zb (zG (zo zhQ (svF zh 3) zc (nomark _)) (zb (zr (svF zh 7)) ze) ze) (zb (zq (i:=9) nd rfl (lcF (i:=9) zh rfl) zc) (zb (zbf own1 rfl (za3 zaP Z.z_range (svF zh 1)) (zaa (i:=5) nd rfl (lcF (i:=5) zh rfl)) (zb (zq (i:=9) nd rfl (lcF (i:=9) zh rfl) (zf zS zc (svF zh 9))) ze)) (zb (zq (i:=10) nd rfl (lcF (i:=10) zh rfl) zc) (zb (zbf own1 rfl (za3 zaP Z.z_range (svF zh 2)) (zaa (i:=5) nd rfl (lcF (i:=5) zh rfl)) (zb (zq (i:=11) nd rfl (lcF (i:=11) zh rfl) (zf zbS (zf zaJ (svF zh 7) (zf zI (svF zh 5) zc)) (svF zh 9))) (zb (zq (i:=12) nd rfl (lcF (i:=12) zh rfl) (zu (za zc (za zc (za (zf zbr (svF zh 9) zc) (za (zf zaJ (svF zh 9) zc) (za (svF zh 11) zd))))))) (zb (zq (i:=10) nd rfl (lcF (i:=10) zh rfl) (zf zI (zf zS (svF zh 10) (svF zh 9)) (zk (svF zh 12) (zg (C 24 _ rfl) hr zaO Z.F24.m Z.F24.F.kp Z.F24.b (za (svF zh 0) (za zc zd)))))) ze)))) (zb (zr (svF zh 10)) ze))))))))))))))
theorem zld (Z:Facts K mg cl fa fdd) (C:Fns P w K mg base cl fa fdd k):FnOk P w K mg base (CX1 P w) (k + 1) (fa 26) (fdd 26) ["_law_many"] (spI K cl (callT T (k + 1)) 26) :=
  zad (fn:=zem) rfl Z.F26.F sc_qtwo_to rfl rfl fun cdv A outer s H E hr=>have nd:=sc_qtwo_to.nd; have hu1:=z8 hr; (zb (zq (i:=1) nd rfl (lcF (i:=1) zb2 rfl) zc) (zb (zbf own1 rfl (za3 zfG Z.z_range (svF zb2 0)) (zaa (i:=2) nd rfl (lcF (i:=2) zb2 rfl)) (zb (zq (i:=1) nd rfl (lcF (i:=1) zb2 rfl) (zf zS zc (svF zb2 1))) ze)) (zb (zr (svF zb2 1)) ze)))
theorem zmE (Z:Facts K mg cl fa fdd) (C:Fns P w K mg base cl fa fdd k):FnOk P w K mg base (CX1 P w) (k + 1) (fa 27) (fdd 27) ["_law_worth_here","_law_w","_law_n"] (spI K cl (callT T (k + 1)) 27) :=
  zad (fn:=zfK) rfl Z.F27.F sc_qwords rfl rfl fun cdv A outer s H E hr=>have nd:=sc_qwords.nd; have hu1:=z8 hr; (zb (zq (i:=3) nd rfl (lcF (i:=3) zaE rfl) (zg (C 26 _ rfl) hr ze3 Z.F26.m Z.F26.F.kp Z.F26.b (za (svF zaE 1) zd))) (zb (zq (i:=4) nd rfl (lcF (i:=4) zaE rfl) (zh1 zd)) (zb (zbf own1 rfl (za3 zgt Z.z_range (svF zaE 2)) (zaa (i:=5) nd rfl (lcF (i:=5) zaE rfl)) (zb (zed (zdq (svF zaE 4) (zf zbS (svF zaE 0) (svF zaE 3)))) (zb (zq (i:=0) nd rfl (lcF (i:=0) zaE rfl) (zf zaJ (svF zaE 0) (svF zaE 3))) ze))) (zb (zr (zc3 zfO zf6 Z.z_tuple zar (za (svF zaE 4) zd))) ze))))
theorem zmR (Z:Facts K mg cl fa fdd) (C:Fns P w K mg base cl fa fdd k):FnOk P w K mg base (CX1 P w) (k + 1) (fa 28) (fdd 28) ["_law_thing_here"] (spI K cl (callT T (k + 1)) 28) :=
  zad (fn:=zj6) rfl Z.F28.F sc_qwhole rfl rfl fun cdv A outer s H E hr=>have nd:=sc_qwhole.nd; have hu1:=z8 hr; (zb (zr (zbx (zbL (t:=.int) Z.k_int rfl zbW Z.z_isinstance zhR Z.z_int ziq (svF ziC 0)) (zcd (zqA (zbL (t:=.bool) Z.k_bool rfl zbW Z.z_isinstance zgI Z.z_bool zpH (svF ziC 0)))))) ze)
theorem zkT (Z:Facts K mg cl fa fdd) (C:Fns P w K mg base cl fa fdd k):FnOk P w K mg base (CX1 P w) (k + 1) (fa 29) (fdd 29) ["_law_thing_here","_law_many","_law_most"] (spI K cl (callT T (k + 1)) 29) :=
  zad (fn:=ziP) rfl Z.F29.F sc_qwholes rfl rfl fun cdv A outer s H E hr=>have nd:=sc_qwholes.nd; have hu1:=z8 hr; (zb (zG (PW.pt (zbB (za2 (zaI (zbL (t:=.tuple) Z.k_tuple rfl zc2 Z.z_isinstance zfE Z.z_tuple zar (svF zdD 0)))) (zbi (zo (zfv hr.units) (zP zaB zgK Z.z_len zaA (za (svF zdD 0) zd)) (svF zdD 1) (nomark _))))) (zb zN ze) ze) (zb (zr (zP (zik rfl) zgJ Z.z_all ziD (za (zc6 rfl (compOk (NC:=["_law_part_here","_law_most"]) (slots:=[none,some 2]) ["_law_thing_here","_law_many","_law_most"] (defScope zaQ) rfl rfl rfl (by decide +kernel) (by decide +kernel) (by decide +kernel) (by decide +kernel) rfl) (by decide) (zcg (svF zdD 0)) (fun j=>zdb rfl (zaa (i:=0) (show (["_law_part_here","_law_most"]:List Str).Nodup by decide +kernel) rfl (by first | exact Or.inl rfl | exact Or.inr rfl))) (fun j=>zcp) (fun j=>zdr rfl (zbx (zg (C 28 _ rfl) hr rfl Z.F28.m Z.F28.F.kp Z.F28.b (za (sv 0) zd)) (zcd (zoe zic zic (zf zbr zc (sv 1)) (sv 0) (sv 1)))))) zd))) ze))
theorem zll (Z:Facts K mg cl fa fdd) (C:Fns P w K mg base cl fa fdd k):FnOk P w K mg base (CX1 P w) (k + 1) (fa 30) (fdd 30) ["_law_thing_here"] (spI K cl (callT T (k + 1)) 30) :=
  zad (fn:=ziU) rfl Z.F30.F sc_qletter rfl rfl fun cdv A outer s H E hr=>have nd:=sc_qletter.nd; have hu1:=z8 hr; (zb (zr (zbx (zbL (t:=.str) Z.k_str rfl zc8 Z.z_isinstance zgV Z.z_str zoR (svF ze6 0)) (zbx (zaW (zV hr.units) (zP zaB zgP Z.z_len zaA (za (svF ze6 0) zd)) zc (nomark _)) (zcd (zaW zgQ (svF ze6 0) zp (by with_unfolding_all rfl)))))) ze)
theorem zgU (Z:Facts K mg cl fa fdd) (C:Fns P w K mg base cl fa fdd k):FnOk P w K mg base (CX1 P w) (k + 1) (fa 31) (fdd 31) ["_law_thing_here"] (spI K cl (callT T (k + 1)) 31) :=
  zad (fn:=zeI) rfl Z.F31.F sc_qindex_cell rfl rfl fun cdv A outer s H E hr=>have nd:=sc_qindex_cell.nd; have hu1:=z8 hr; (zb (zr (zbx (zbL (t:=.tuple) Z.k_tuple rfl zcr Z.z_isinstance zdG Z.z_tuple zar (svF zbE 0)) (zbx (zaW (zV hr.units) (zP zaB zeh Z.z_len zaA (za (svF zbE 0) zd)) zc (nomark _)) (zbx (zg (C 30 _ rfl) hr zcU Z.F30.m Z.F30.F.kp Z.F30.b (za (zk (svF zbE 0) zc) zd)) (zcd (zg (C 29 _ rfl) hr zcZ Z.F29.m Z.F29.F.kp Z.F29.b (za (zk (svF zbE 0) zc) (za zc (za zc zd))))))))) ze)
inductive OkD:List (Option Expr) -> List Expr -> List (Str × Int) -> Prop
  | nil:OkD [] [] []
  | cons {x:Str} {i:Int} {j1 j2:Nat} {p1 p2:Pos} {ks:List (Option Expr)} {vs:List Expr} {kvs:List (Str × Int)} (h:OkD ks vs kvs):OkD (some (.Constant (.str x) j1 p1) :: ks) (.Constant (.int i) j2 p2 :: vs) ((x,i) :: kvs)
theorem zqX {X:L2.Cx} {pos:Pos}:∀ {ks:List (Option Expr)} {vs:List Expr} {kvs:List (Str × Int)},OkD ks vs kvs -> PPs X pos ks vs (trC kvs)
  | _,_,_,.nil => zqe
  | _,_,_,.cons h => zpx (zqX h)
@[irreducible] def PEi (X:L2.Cx) (a:Expr) (t:L2.TE):Prop:=L2.PE X a t
theorem zqd {X:L2.Cx} {a:Expr} {t:L2.TE} (h:L2.PE X a t):PEi X a t:=by unfold PEi; exact h
theorem zrt {X:L2.Cx} {a:Expr} {t:L2.TE} (h:PEi X a t):L2.PE X a t:=by unfold PEi at h; exact h
theorem znW {S:Se} {X:L2.Cx} {pos:Pos} {ks:List (Option Expr)} {vs:List Expr} {kvs:List (Str × Int)} (h:OkD ks vs kvs) (hall:ks.all (·.isSome) = true) (hl:ks.length = vs.length) (h0:ks ≠ []) (h15:ks.length <= 15):PEi X (.Dict ks vs pos) (tE S X (.newd kvs)):=zqd (zp2 (zqX h) hall hl h0 h15)
theorem zpu {S:Se} {X:L2.Cx} {a:Expr} {ca:Ce} {px pos:Pos} {i:Nat} {x:Str} (hN:X.N.Nodup) (hi:X.N[i]? = some x) (hx:Loc X.env.scope x) (he:PEi X a (tE S X ca)) (hs:swapsWith a (some (.Name x px)) pos.line X.env = pure false)
    (hf:X.fn x = true \/ X.env.scope.names.lookup x = some .local):PS X (.Assign [.Name x px] a pos) (tS S X (.asg (.n i) ca)):=zq hN hi hx (zrt he) hs hf
@[irreducible] def PSI (X:L2.Cx) (s:Stmt) (t:L2.TS):Prop:=L2.PS X s t
@[irreducible] def PSsI (X:L2.Cx) (s:List Stmt) (t:L2.TS):Prop:=L2.PSs X s t
theorem zqw {X:L2.Cx} {a:Stmt} {t:L2.TS} (h:L2.PS X a t):PSI X a t:=by unfold PSI; exact h
theorem zqR {X:L2.Cx} {a:Stmt} {t:L2.TS} (h:PSI X a t):L2.PS X a t:=by unfold PSI at h; exact h
theorem zmU {X:L2.Cx} {a:List Stmt} {t:L2.TS} (h:L2.PSs X a t):PSsI X a t:=by unfold PSsI; exact h
theorem zmC {X:L2.Cx} {a:List Stmt} {t:L2.TS} (h:PSsI X a t):L2.PSs X a t:=by unfold PSsI at h; exact h
theorem zn0 {S:Se} {X:L2.Cx} {s1:Stmt} {ss:List Stmt} {c1:Cs} {cs:Css} (h1:PSI X s1 (tS S X c1)) (h2:PSsI X ss (tSs S X cs)):PSsI X (s1 :: ss) (tSs S X (.cons c1 cs)):=zmU (zb (zqR h1) (zmC h2))
theorem zpP {S:Se} {X:L2.Cx} {a:Expr} {ca:Ce} {px pos:Pos} {i:Nat} {x:Str} (hN:X.N.Nodup) (hi:X.N[i]? = some x) (hx:Loc X.env.scope x) (he:PEi X a (tE S X ca)) (hs:swapsWith a (some (.Name x px)) pos.line X.env = pure false)
    (hf:X.fn x = true \/ X.env.scope.names.lookup x = some .local):PSI X (.Assign [.Name x px] a pos) (tS S X (.asg (.n i) ca)):=zqw (zpu hN hi hx he hs hf)
theorem znP {S:Se} {X:L2.Cx} {s1:Stmt} {ss:List Stmt} {c1:Cs} {cs:Css} (h1:L2.PS X s1 (tS S X c1)) (h2:PSsI X ss (tSs S X cs)):L2.PSs X (s1 :: ss) (tSs S X (.cons c1 cs)):=zb h1 (zmC h2)
theorem zgs (Z:Facts K mg cl fa fdd) (C:Fns P w K mg base cl fa fdd k):FnOk P w K mg base (CX1 P w) (k + 1) (fa 32) (fdd 32) ["_law_row"] (spI K cl (callT T (k + 1)) 32) :=
  zad (fn:=zdW) rfl Z.F32.F sc_qtelling_row rfl rfl fun cdv A outer s H E hr=>have nd:=sc_qtelling_row.nd; have hu1:=z8 hr; (zb (zG (PW.pt (zbB (za2 (zaI (zbL (t:=.tuple) Z.k_tuple rfl zaV Z.z_isinstance zdf Z.z_tuple zar (svF zm 0)))) (zbB (zo ziI (zP zaB zai Z.z_len zaA (za (svF zm 0) zd)) zc (nomark _)) (zbi (za2 (zaI (zbL (t:=.str) Z.k_str rfl zaV Z.z_isinstance zd9 Z.z_str zoR (zk (svF zm 0) zc)))))))) (zb zN ze) ze) (zb (zG (zo (zV hr.units) (zk (svF zm 0) zc) zp (nomark _)) (zb (zr (zbx (zaW (zV hr.units) (zP zaB zai Z.z_len zaA (za (svF zm 0) zd)) zc (nomark _)) (zbx (zg (C 28 _ rfl) hr zbw Z.F28.m Z.F28.F.kp Z.F28.b (za (zk (svF zm 0) zc) zd)) (zcd (zaW zgQ (zk (svF zm 0) zc) (zu (za zc (za zc zd))) (by with_unfolding_all rfl)))))) ze) ze) (zb (zG (zo (zV hr.units) (zk (svF zm 0) zc) zp (nomark _)) (zb (zr (zbx (zaW (zV hr.units) (zP zaB zai Z.z_len zaA (za (svF zm 0) zd)) zc (nomark _)) (zcd (zg (C 31 _ rfl) hr zaR Z.F31.m Z.F31.F.kp Z.F31.b (za (zk (svF zm 0) zc) zd))))) ze) ze) (znP (zG (zo (zV hr.units) (zk (svF zm 0) zc) zp (nomark _)) (zb (zr (zbx (zaW (zV hr.units) (zP zaB zai Z.z_len zaA (za (svF zm 0) zd)) zc (nomark _)) (zbx (zg (C 31 _ rfl) hr zaR Z.F31.m Z.F31.F.kp Z.F31.b (za (zk (svF zm 0) zc) zd)) (zbx (zg (C 28 _ rfl) hr zbw Z.F28.m Z.F28.F.kp Z.F28.b (za (zk (svF zm 0) zc) zd)) (zcd (zaW zgQ (zk (svF zm 0) zc) (zu (za zc (za zc zd))) (by with_unfolding_all rfl))))))) ze) ze) (zn0 (zpP (i:=1) nd rfl (lcF (i:=1) zm rfl) (znW (by repeat constructor) rfl rfl (by simp) (by decide)) rfl (by first | exact .inl rfl | exact .inr rfl | assumption)) (zmU (zb (za8 hu1 (svF zm 1) zp zc) (zb (zG (PW.pt (zbB (zo (zfv hr.units) (zet hu1 (svF zm 1) (zk (svF zm 0) zc) zc) (zP zaB zai Z.z_len zaA (za (svF zm 0) zd)) (nomark _)) (zbi (za2 (zaI (zP (zik rfl) zef Z.z_all ziD (za (zc6 rfl (compOk (NC:=["_law_part_here"]) (slots:=[none]) ["_law_row","_law_lengths"] (defScope zz) rfl rfl rfl (by decide +kernel) (by decide +kernel) (by decide +kernel) (by decide +kernel) rfl) (by decide) (zcg (zkl (svF zm 0) (zhN zc) zhl)) (fun j=>zdb rfl (zaa (i:=0) (show (["_law_part_here"]:List Str).Nodup by decide +kernel) rfl (by first | exact Or.inl rfl | exact Or.inr rfl))) (fun j=>zcp) (fun j=>zdr rfl (zg (C 31 _ rfl) hr rfl Z.F31.m Z.F31.F.kp Z.F31.b (za (sv 0) zd)))) zd))))))) (zb zN ze) ze) (zb (zr (zpO (zaW (zfv hr.units) (zk (svF zm 0) zc) zp (nomark _)) (zcd (zaW (zfv hr.units) (zk (svF zm 0) zc) (zk (svF zm 0) zc) (nomark _))))) ze)))))))))
theorem znq (Z:Facts K mg cl fa fdd) (C:Fns P w K mg base cl fa fdd k):FnOk P w K mg base (CX1 P w) (k + 1) (fa 33) (fdd 33) ["_law_thing_here"] (spI K cl (callT T (k + 1)) 33) :=
  zad (fn:=zkq) rfl Z.F33.F sc_qthing rfl rfl fun cdv A outer s H E hr=>have nd:=sc_qthing.nd; have hu1:=z8 hr; (zb (zG (zo (zV hr.units) (svF zb3 0) (zu (za zp zd)) (nomark _)) (zb zN ze) ze) (zb (zG (PW.pt (zbB (za2 (zaI (zbL (t:=.tuple) Z.k_tuple rfl zdF Z.z_isinstance zgp Z.z_tuple zar (svF zb3 0)))) (zbB (zo (zfv hr.units) (zP zaB zht Z.z_len zaA (za (svF zb3 0) zd)) zc (nomark _)) (zbB (zo (zfv hr.units) (zk (svF zb3 0) zc) zp (nomark _)) (zbi (za2 (zaI (zg (C 30 _ rfl) hr ze1 Z.F30.m Z.F30.F.kp Z.F30.b (za (zk (svF zb3 0) zc) zd))))))))) (zb zN ze) ze) (zb (zr (zbx (zg (C 29 _ rfl) hr zcz Z.F29.m Z.F29.F.kp Z.F29.b (za (zk (svF zb3 0) zc) (za zc (za zc zd)))) (zcd (zg (C 29 _ rfl) hr zcz Z.F29.m Z.F29.F.kp Z.F29.b (za (zk (svF zb3 0) zc) (za zc (za zc zd))))))) ze)))
theorem zgl (Z:Facts K mg cl fa fdd) (C:Fns P w K mg base cl fa fdd k):FnOk P w K mg base (CX1 P w) (k + 1) (fa 34) (fdd 34) ["_law_told"] (spI K cl (callT T (k + 1)) 34) :=
  zad (fn:=zdP) rfl Z.F34.F sc_qis_sentence rfl rfl fun cdv A outer s H E hr=>have nd:=sc_qis_sentence.nd; have hu1:=z8 hr; (zb (zG (PW.pt (zbB (za2 (zaI (zbL (t:=.tuple) Z.k_tuple rfl zam Z.z_isinstance zaS Z.z_tuple zar (svF zB 0)))) (zbi (zo zhQ (zP zaB zbe Z.z_len zaA (za (svF zB 0) zd)) zc (nomark _))))) (zb zN ze) ze) (zb (zbf own1 rfl (zcg (svF zB 0)) (zaa (i:=1) nd rfl (lcF (i:=1) zB rfl)) (zb (zG (PW.pt (zbB (za2 (zaI (zbL (t:=.tuple) Z.k_tuple rfl zam Z.z_isinstance zaS Z.z_tuple zar (svF zB 1)))) (zbB (zo (zfv hr.units) (zP zaB zbe Z.z_len zaA (za (svF zB 1) zd)) zc (nomark _)) (zbi (za2 (zaI (zg (C 29 _ rfl) hr zcJ Z.F29.m Z.F29.F.kp Z.F29.b (za (zk (svF zB 1) zc) (za zc (za zc zd)))))))))) (zb zN ze) ze) (zb (zG (PW.pt (zbB (za2 (zaI (zg (C 28 _ rfl) hr zcY Z.F28.m Z.F28.F.kp Z.F28.b (za (zk (svF zB 1) zc) zd)))) (zbB (zo zpl (zP zrs zd7 Z.z_abs zrw (za (zk (svF zB 1) zc) zd)) (zf zmS zc zc) (nomark _)) (zbi (za2 (zaI (zbL (t:=.tuple) Z.k_tuple rfl zam Z.z_isinstance zaS Z.z_tuple zar (zk (svF zB 1) zc)))))))) (zb zN ze) ze) (zb (zG (PW.pt (zbB (zo zhQ (zP zaB zbe Z.z_len zaA (za (zk (svF zB 1) zc) zd)) zc (nomark _)) (zbi (za2 (zaI (zP (zik rfl) zd1 Z.z_all ziD (za (zc6 rfl (compOk (NC:=["_law_thing_here"]) (slots:=[none]) ["_law_told","_law_term"] (defScope zy) rfl rfl rfl (by decide +kernel) (by decide +kernel) (by decide +kernel) (by decide +kernel) rfl) (by decide) (zcg (zk (svF zB 1) zc)) (fun j=>zdb rfl (zaa (i:=0) (show (["_law_thing_here"]:List Str).Nodup by decide +kernel) rfl (by first | exact Or.inl rfl | exact Or.inr rfl))) (fun j=>zcp) (fun j=>zdr rfl (zg (C 33 _ rfl) hr rfl Z.F33.m Z.F33.F.kp Z.F33.b (za (sv 0) zd)))) zd))))))) (zb zN ze) ze) ze)))) (zb (zr zk2) ze)))
theorem znJ (Z:Facts K mg cl fa fdd) (C:Fns P w K mg base cl fa fdd k):FnOk P w K mg base (CX1 P w) (k + 1) (fa 35) (fdd 35) ["_law_part_here","_law_deep"] (spI K cl (callT T (k + 1)) 35) :=
  zad (fn:=znj) rfl Z.F35.F sc_qpart rfl rfl fun cdv A outer s H E hr=>have nd:=sc_qpart.nd; have hu1:=z8 hr; (zb (zG (PW.pt (zbB (za2 (zaI (zbL (t:=.tuple) Z.k_tuple rfl zcb Z.z_isinstance zdX Z.z_tuple zar (svF za7 0)))) (zbi (zo ziI (zP zaB zc5 Z.z_len zaA (za (svF za7 0) zd)) zc (nomark _))))) (zb zN ze) ze) (zb (zG (zo (zV hr.units) (zk (svF za7 0) zc) zp (nomark _)) (zb (zr (zbx (zaW (zV hr.units) (zP zaB zc5 Z.z_len zaA (za (svF za7 0) zd)) zc (nomark _)) (zcd (zg (C 32 _ rfl) hr zdp Z.F32.m Z.F32.F.kp Z.F32.b (za (zk (svF za7 0) zc) zd))))) ze) ze) (zb (zG (PW.pt (zbB (zo (zfv hr.units) (zk (svF za7 0) zc) zp (nomark _)) (zbB (zo (zfv hr.units) (zP zaB zc5 Z.z_len zaA (za (svF za7 0) zd)) zc (nomark _)) (zbB (zo zhQ (svF za7 1) zc (nomark _)) (zbi (za2 (zaI (zg (C 29 _ rfl) hr zfC Z.F29.m Z.F29.F.kp Z.F29.b (za (zk (svF za7 0) zc) (za zc (za zc zd))))))))))) (zb zN ze) ze) (zb (zG (PW.pt (zbB (za2 (zaI (zg (C 34 _ rfl) hr zdt Z.F34.m Z.F34.F.kp Z.F34.b (za (zk (svF za7 0) zc) zd)))) (zbi (za2 (zaI (zbL (t:=.tuple) Z.k_tuple rfl zcb Z.z_isinstance zdX Z.z_tuple zar (zk (svF za7 0) zc))))))) (zb zN ze) ze) (zb (zr (zP (zik rfl) zi7 Z.z_all ziD (za (zc6 rfl (compOk (NC:=["_law_inner","_law_deep"]) (slots:=[none,some 1]) ["_law_part_here","_law_deep"] (defScope zbk) rfl rfl rfl (by decide +kernel) (by decide +kernel) (by decide +kernel) (by decide +kernel) rfl) (by decide) (zcg (zk (svF za7 0) zc)) (fun j=>zdb rfl (zaa (i:=0) (show (["_law_inner","_law_deep"]:List Str).Nodup by decide +kernel) rfl (by first | exact Or.inl rfl | exact Or.inr rfl))) (fun j=>zcp) (fun j=>zdr rfl (zg (C 35 _ rfl) hr rfl Z.F35.m Z.F35.F.kp Z.F35.b (za (sv 0) (za (zf zI (sv 1) zc) zd))))) zd))) ze)))))
theorem zgM (Z:Facts K mg cl fa fdd) (C:Fns P w K mg base cl fa fdd k):FnOk P w K mg base (CX1 P w) (k + 1) (fa 36) (fdd 36) ["_law_told"] (spI K cl (callT T (k + 1)) 36) :=
  zad (fn:=zez) rfl Z.F36.F sc_qis_telling rfl rfl fun cdv A outer s H E hr=>have nd:=sc_qis_telling.nd; have hu1:=z8 hr; (zb (zr (zbx (zbL (t:=.tuple) Z.k_tuple rfl zcu Z.z_isinstance zdL Z.z_tuple zar (svF zdR 0)) (zcd (zP (zik rfl) zeM Z.z_all ziD (za (zc6 rfl (compOk (NC:=["_law_part_here"]) (slots:=[none]) ["_law_told"] (defScope zZ) rfl rfl rfl (by decide +kernel) (by decide +kernel) (by decide +kernel) (by decide +kernel) rfl) (by decide) (zcg (svF zdR 0)) (fun j=>zdb rfl (zaa (i:=0) (show (["_law_part_here"]:List Str).Nodup by decide +kernel) rfl (by first | exact Or.inl rfl | exact Or.inr rfl))) (fun j=>zcp) (fun j=>zdr rfl (zg (C 35 _ rfl) hr rfl Z.F35.m Z.F35.F.kp Z.F35.b (za (sv 0) (za zc zd))))) zd))))) ze)
theorem zre (Z:Facts K mg cl fa fdd) (C:Fns P w K mg base cl fa fdd k):FnOk P w K mg base (CX1 P w) (k + 1) (fa 37) (fdd 37) ["_law_index","_law_i","_law_j","_law_n"] (spI K cl (callT T (k + 1)) 37) :=
  zad (fn:=znX) rfl Z.F37.F sc_qat rfl rfl fun cdv A outer s H E hr=>have nd:=sc_qat.nd; have hu1:=z8 hr; (zb (zr (zf zI (zf zI (zf zI (zk (svF zgE 0) zc) (zf zS (zk (svF zgE 0) zc) (svF zgE 1))) (zf zS (zk (svF zgE 0) zc) (svF zgE 2))) (zf zS (zk (svF zgE 0) zc) (svF zgE 3)))) ze)
theorem zhj (Z:Facts K mg cl fa fdd) (C:Fns P w K mg base cl fa fdd k):FnOk P w K mg base (CX1 P w) (k + 1) (fa 38) (fdd 38) ["_law_row","_law_i","_law_j","_law_n"] (spI K cl (callT T (k + 1)) 38) :=
  zad (fn:=f_qplain_row) rfl Z.F38.F sc_qplain_row rfl rfl fun cdv A outer s H E hr=>have nd:=sc_qplain_row.nd; have hu1:=z8 hr; (zb (zq (i:=4) nd rfl (lcF (i:=4) zD rfl) (zh1 (za (zk (svF zD 0) zc) zd))) (zb (zbf own1 rfl (zcg (zkl (svF zD 0) (zhN zc) zhl)) (zaa (i:=5) nd rfl (lcF (i:=5) zD rfl)) (zb (zG (zaI (zbL (t:=.tuple) Z.k_tuple rfl zcw Z.z_isinstance zb7 Z.z_tuple zar (svF zD 5))) (zb (zed (zdq (svF zD 4) (zu (za (zk (svF zD 5) zc) (za (zg (C 37 _ rfl) hr zeY Z.F37.m Z.F37.F.kp Z.F37.b (za (zk (svF zD 5) zc) (za (svF zD 1) (za (svF zD 2) (za (svF zD 3) zd))))) zd))))) ze) (zb (zed (zdq (svF zD 4) (svF zD 5))) ze)) ze)) (zb (zr (zc3 zfO zb7 Z.z_tuple zar (za (svF zD 4) zd))) ze)))
theorem zh5 (Z:Facts K mg cl fa fdd) (C:Fns P w K mg base cl fa fdd k):FnOk P w K mg base (CX1 P w) (k + 1) (fa 39) (fdd 39) ["_law_cells","_law_mark","_law_row","_law_wide"] (spI K cl (callT T (k + 1)) 39) :=
  zad (fn:=zbc) rfl Z.F39.F sc_qone_done rfl rfl fun cdv A outer s H E hr=>have nd:=sc_qone_done.nd; have hu1:=z8 hr; (zb (zq (i:=4) nd rfl (lcF (i:=4) zn rfl) (zet hu1 (svF zn 0) (zk (svF zn 2) zc) zc)) (zb (zG (zo (zV hr.units) (zk (svF zn 2) zc) zp (nomark _)) (zb (za8 hu1 (svF zn 0) (zk (svF zn 2) zc) (svF zn 4)) ze) ze) (zb (zG (zo (zV hr.units) (zk (svF zn 2) zc) zp (nomark _)) (zb (za8 hu1 (svF zn 0) (zk (svF zn 2) zc) (zf zbr (zf zbr (svF zn 3) zc) (svF zn 4))) ze) ze) (zb (zG (zo (zV hr.units) (zk (svF zn 2) zc) zp (nomark _)) (zb (za8 hu1 (svF zn 0) (zk (svF zn 2) zc) (zf zbS (zf zI (zf zS zc (svF zn 4)) (svF zn 1)) (svF zn 3))) (zb (zr (zf zaJ (zf zI (zf zS zc (svF zn 4)) (svF zn 1)) (svF zn 3))) ze)) ze) (zb (zG (zo (zV hr.units) (zk (svF zn 2) zc) zp (nomark _)) (zb (za8 hu1 (svF zn 0) (zk (svF zn 2) zc) (zf zI (zf zaJ (svF zn 4) zc) (zf zS (svF zn 1) (zf zaJ (svF zn 3) zc)))) (zb (zr (zf zbS (svF zn 4) zc)) ze)) ze) (zb (zr (svF zn 1)) ze))))))
theorem zn8 (Z:Facts K mg cl fa fdd) (C:Fns P w K mg base cl fa fdd k):FnOk P w K mg base (CX1 P w) (k + 1) (fa 40) (fdd 40) ["_law_cells","_law_mark","_law_row","_law_wide"] (spI K cl (callT T (k + 1)) 40) :=
  zad (fn:=zbd) rfl Z.F40.F sc_qdone rfl rfl fun cdv A outer s H E hr=>have nd:=sc_qdone.nd; have hu1:=z8 hr; (zb (zG (zo (zV hr.units) (zk (svF zj 2) zc) zp (nomark _)) (zb (zr (zk (svF zj 2) zc)) ze) ze) (zb (zG (zo (zV hr.units) (zk (svF zj 2) zc) zp (nomark _)) (zb (zr (zc3 zkp zfl Z.z_int ziq (za (zaW (zfv hr.units) (zet hu1 (svF zj 0) (zk (svF zj 2) zc) zc) zc (nomark _)) zd))) ze) ze) (zb (zG (zo (zV hr.units) (zk (svF zj 2) zc) zp (nomark _)) (zb (za8 hu1 (svF zj 0) (zk (svF zj 2) zc) (zk (svF zj 2) zc)) (zb (zr (svF zj 1)) ze)) ze) (zb (zG (zo (zV hr.units) (zP zaB ziK Z.z_len zaA (za (svF zj 2) zd)) zc (nomark _)) (zb (zr (zg (C 39 _ rfl) hr zeH Z.F39.m Z.F39.F.kp Z.F39.b (za (svF zj 0) (za (svF zj 1) (za (svF zj 2) (za (svF zj 3) zd)))))) ze) ze) (zb (zG (zo (zV hr.units) (zk (svF zj 2) zc) zp (nomark _)) (zb (zq (i:=4) nd rfl (lcF (i:=4) zj rfl) (zf zS (zet hu1 (svF zj 0) (zk (svF zj 2) zc) zc) (zet hu1 (svF zj 0) (zk (svF zj 2) zc) zc))) (zb (za8 hu1 (svF zj 0) (zk (svF zj 2) zc) (zf zbS (svF zj 4) (svF zj 3))) (zb (za8 hu1 (svF zj 0) (zk (svF zj 2) zc) (zf zaJ (svF zj 4) (svF zj 3))) (zb (zr (svF zj 1)) ze)))) ze) (zb (zq (i:=5) nd rfl (lcF (i:=5) zj rfl) (zet hu1 (svF zj 0) (zk (svF zj 2) zc) zc)) (zb (zq (i:=6) nd rfl (lcF (i:=6) zj rfl) (zet hu1 (svF zj 0) (zk (svF zj 2) zc) zc)) (zb (zG (zo (zV hr.units) (zk (svF zj 2) zc) zp (nomark _)) (zb (za8 hu1 (svF zj 0) (zk (svF zj 2) zc) (zf zbS (zf zI (zf zI (svF zj 5) (svF zj 6)) (svF zj 1)) (svF zj 3))) (zb (zr (zf zaJ (zf zI (zf zI (svF zj 5) (svF zj 6)) (svF zj 1)) (svF zj 3))) ze)) ze) (zb (zG (zo (zV hr.units) (zk (svF zj 2) zc) zp (nomark _)) (zb (za8 hu1 (svF zj 0) (zk (svF zj 2) zc) (zf zbS (zf zbr (zf zbr (svF zj 5) (svF zj 6)) (svF zj 1)) (svF zj 3))) (zb (zr (zc3 zkp zfl Z.z_int ziq (za (zaW ziI (zf zbr (zf zbr (svF zj 5) (svF zj 6)) (svF zj 1)) zc (nomark _)) zd))) ze)) ze) (zb (zG (zo (zV hr.units) (zk (svF zj 2) zc) zp (nomark _)) (zb (za8 hu1 (svF zj 0) (zk (svF zj 2) zc) (zf zpS (svF zj 5) (svF zj 6))) ze) ze) (zb (zG (zo (zV hr.units) (zk (svF zj 2) zc) zp (nomark _)) (zb (za8 hu1 (svF zj 0) (zk (svF zj 2) zc) (zf zqC (svF zj 5) (svF zj 6))) ze) ze) (zb (zG (zo (zV hr.units) (zk (svF zj 2) zc) zp (nomark _)) (zb (za8 hu1 (svF zj 0) (zk (svF zj 2) zc) (zf zp7 (svF zj 5) (svF zj 6))) ze) ze) (zb (zr (svF zj 1)) ze)))))))))))))
theorem zm7 (Z:Facts K mg cl fa fdd) (C:Fns P w K mg base cl fa fdd k):FnOk P w K mg base (CX1 P w) (k + 1) (fa 41) (fdd 41) ["_law_count_here","_law_w","_law_n"] (spI K cl (callT T (k + 1)) 41) :=
  zad (fn:=zfM) rfl Z.F41.F sc_qcount rfl rfl fun cdv A outer s H E hr=>have nd:=sc_qcount.nd; have hu1:=z8 hr; (zb (zr (zf zI (zf zI (zk (svF zcy 0) zc) (zf zS (zk (svF zcy 0) zc) (svF zcy 2))) (zf zS (zf zS (zk (svF zcy 0) zc) (svF zcy 1)) (svF zcy 2)))) ze)
theorem ziJ (Z:Facts K mg cl fa fdd) (C:Fns P w K mg base cl fa fdd k):FnOk P w K mg base (CX1 P w) (k + 1) (fa 42) (fdd 42) ["_law_told","_law_w","_law_n","_law_most"] (spI K cl (callT T (k + 1)) 42) :=
  zad (fn:=f_qunrolled) rfl Z.F42.F sc_qunrolled rfl rfl fun cdv A outer s H E hr=>have nd:=sc_qunrolled.nd; have hu1:=z8 hr; (zb (zq (i:=4) nd rfl (lcF (i:=4) zi rfl) (zh1 zd)) (zb (zq (i:=5) nd rfl (lcF (i:=5) zi rfl) zc) (zb (zbf own1 rfl (zcg (svF zi 0)) (zaa (i:=6) nd rfl (lcF (i:=6) zi rfl)) (zb (zG (zo (zV hr.units) (zk (svF zi 6) zc) zp (nomark _)) (zb (zed (zdq (svF zi 4) (zg (C 38 _ rfl) hr zbm Z.F38.m Z.F38.F.kp Z.F38.b (za (zk (svF zi 6) zc) (za zc (za zc (za (svF zi 2) zd))))))) ze) (zb (zbf own1 rfl (za3 zcn Z.z_range (zP (zkv rfl) zcP Z.z_min zkb (za (zg (C 41 _ rfl) hr zb5 Z.F41.m Z.F41.F.kp Z.F41.b (za (zk (svF zi 6) zc) (za (svF zi 1) (za (svF zi 2) zd)))) (za zc zd)))) (zaa (i:=7) nd rfl (lcF (i:=7) zi rfl)) (zb (zmO (i:=5) nd rfl (lcF (i:=5) zi rfl) zc zjq) (zb (zbf own1 rfl (zcg (zk (svF zi 6) zc)) (zaa (i:=8) nd rfl (lcF (i:=8) zi rfl)) (zb (zG (zo (zV hr.units) (zk (svF zi 8) zc) zp (nomark _)) (zb (zed (zdq (svF zi 4) (zg (C 38 _ rfl) hr zbm Z.F38.m Z.F38.F.kp Z.F38.b (za (zk (svF zi 8) zc) (za (svF zi 7) (za zc (za (svF zi 2) zd))))))) ze) (zb (zG (PW.pt (zes (zo zic (svF zi 5) zc (nomark _)) (zcL (zo zic (zP zaB za6 Z.z_len zaA (za (svF zi 4) zd)) (svF zi 3) (nomark _))))) (zb (zq (i:=9) nd rfl (lcF (i:=9) zi rfl) (zP (zkv rfl) zcP Z.z_min zkb (za (zP (zmm rfl) zfx Z.z_max zmh (za zc (za (zg (C 41 _ rfl) hr zb5 Z.F41.m Z.F41.F.kp Z.F41.b (za (zk (svF zi 8) zc) (za (svF zi 1) (za (svF zi 2) zd)))) zd))) (za zc zd)))) (zb (zmO (i:=5) nd rfl (lcF (i:=5) zi rfl) (svF zi 9) zjq) (zb (zbf own1 rfl (za3 zcn Z.z_range (svF zi 9)) (zaa (i:=10) nd rfl (lcF (i:=10) zi rfl)) (zb (zG (PW.pt (zes (zo zic (svF zi 5) zc (nomark _)) (zcL (zo zic (zP zaB za6 Z.z_len zaA (za (svF zi 4) zd)) (svF zi 3) (nomark _))))) (zb (zed (zlW (svF zi 4) (zc6 rfl (compOk (NC:=["_law_deep","_law_i","_law_j","_law_n"]) (slots:=[none,some 7,some 10,some 2]) ["_law_told","_law_w","_law_n","_law_most","_law_rows","_law_rounds","_law_part_here","_law_i","_law_inner","_law_many","_law_j"] (defScope zW) rfl rfl rfl (by decide +kernel) (by decide +kernel) (by decide +kernel) (by decide +kernel) rfl) (by decide) (zcg (zk (svF zi 8) zc)) (fun j=>zdb rfl (zaa (i:=0) (show (["_law_deep","_law_i","_law_j","_law_n"]:List Str).Nodup by decide +kernel) rfl (by first | exact Or.inl rfl | exact Or.inr rfl))) (fun j=>zcp) (fun j=>zdr rfl (zg (C 38 _ rfl) hr rfl Z.F38.m Z.F38.F.kp Z.F38.b (za (zk (sv 0) zc) (za (sv 1) (za (sv 2) (za (sv 3) zd))))))))) ze) ze) ze)) ze))) ze) ze)) ze)) (zb (zG (PW.pt (zbB (zo zhQ (svF zi 5) zc (nomark _)) (zbi (zo zhQ (zP zaB za6 Z.z_len zaA (za (svF zi 4) zd)) (svF zi 3) (nomark _))))) (zb (zr zkI) ze) ze) ze)))) ze)) ze)) (zb (zG (zo zhQ (zP zaB za6 Z.z_len zaA (za (svF zi 4) zd)) (svF zi 3) (nomark _)) (zb (zr zkI) ze) ze) (zb (zr (zqk (svF zi 4))) ze)))))
theorem zgS (Z:Facts K mg cl fa fdd) (C:Fns P w K mg base cl fa fdd k):FnOk P w K mg base (CX1 P w) (k + 1) (fa 43) (fdd 43) ["_law_rows"] (spI K cl (callT T (k + 1)) 43) :=
  zad (fn:=f_qrows_right) rfl Z.F43.F sc_qrows_right rfl rfl fun cdv A outer s H E hr=>have nd:=sc_qrows_right.nd; have hu1:=z8 hr; (zb (zbf own1 rfl (zcg (svF zH 0)) (zaa (i:=1) nd rfl (lcF (i:=1) zH rfl)) (zb (zbf own1 rfl (zcg (zkl (svF zH 1) (zhN zc) zhl)) (zaa (i:=2) nd rfl (lcF (i:=2) zH rfl)) (zb (zG (PW.pt (zes (zaI (zbL (t:=.tuple) Z.k_tuple rfl zct Z.z_isinstance zdJ Z.z_tuple zar (svF zH 2))) (zcL (za2 (zot zic zic zc (zk (svF zH 2) zc) zc))))) (zb (zr zk2) ze) ze) ze)) (zb (zG (PW.pt (zes (zo (zV hr.units) (zk (svF zH 1) zc) zp (nomark _)) (zcL (PW.pt (zbB (zo (zV hr.units) (zk (svF zH 1) zc) (zk (svF zH 1) zc) (nomark _)) (zbi (zo zgQ (zk (zk (svF zH 1) zc) zc) zp (by with_unfolding_all rfl)))))))) (zb (zr zk2) ze) ze) (zb (zG (PW.pt (zes (zo zn6 (zk (svF zH 1) zc) (zu (za zp (za zp zd))) (by with_unfolding_all rfl)) (zcL (zo zgQ (zk (zk (svF zH 1) zc) zc) zp (by with_unfolding_all rfl))))) (zb (zr zk2) ze) ze) ze)))) (zb (zr zk2) ze))
theorem zlI (Z:Facts K mg cl fa fdd) (C:Fns P w K mg base cl fa fdd k):FnOk P w K mg base (CX1 P w) (k + 1) (fa 44) (fdd 44) ["_law_w","_law_n","_law_x","_law_y"] (spI K cl (callT T (k + 1)) 44) :=
  zad (fn:=zfI) rfl Z.F44.F sc_qbegun rfl rfl fun cdv A outer s H E hr=>have nd:=sc_qbegun.nd; have hu1:=z8 hr; (zb (zq (i:=4) nd rfl (lcF (i:=4) zU rfl) zl2) (zb (zbf own1 rfl (zjI zb9 Z.z_enumerate (zg (C 27 _ rfl) hr zcQ Z.F27.m Z.F27.F.kp Z.F27.b (za (svF zU 2) (za (svF zU 0) (za (svF zU 1) zd))))) (zig rfl (zbD (i:=5) nd rfl (lcF (i:=5) zU rfl) (zbD (i:=6) nd rfl (lcF (i:=6) zU rfl) zgC))) (zb (za8 hu1 (svF zU 4) (zu (za zp (za (svF zU 5) zd))) (svF zU 6)) ze)) (zb (zbf own1 rfl (zjI zb9 Z.z_enumerate (zg (C 27 _ rfl) hr zcQ Z.F27.m Z.F27.F.kp Z.F27.b (za (svF zU 3) (za (svF zU 0) (za (svF zU 1) zd))))) (zig rfl (zbD (i:=5) nd rfl (lcF (i:=5) zU rfl) (zbD (i:=6) nd rfl (lcF (i:=6) zU rfl) zgC))) (zb (za8 hu1 (svF zU 4) (zu (za zp (za (svF zU 5) zd))) (svF zU 6)) ze)) (zb (zr (svF zU 4)) ze))))
theorem zpE (Z:Facts K mg cl fa fdd) (C:Fns P w K mg base cl fa fdd k):FnOk P w K mg base (CX1 P w) (k + 1) (fa 45) (fdd 45) ["_law_told","_law_w","_law_n","_law_x","_law_y"] (spI K cl (callT T (k + 1)) 45) :=
  zad (fn:=f_qrun) rfl Z.F45.F sc_qrun rfl rfl fun cdv A outer s H E hr=>have nd:=sc_qrun.nd; have hu1:=z8 hr; (zb (zG (za2 (zaI (zg (C 36 _ rfl) hr zea Z.F36.m Z.F36.F.kp Z.F36.b (za (svF zak 0) zd)))) (zb zN ze) ze) (zb (zq (i:=5) nd rfl (lcF (i:=5) zak rfl) (zg (C 42 _ rfl) hr zeR Z.F42.m Z.F42.F.kp Z.F42.b (za (svF zak 0) (za (svF zak 1) (za (svF zak 2) (za zc zd)))))) (zb (zG (PW.pt (zbB (zo zq6 (svF zak 5) zkI (nomark _)) (zbi (za2 (zaI (zg (C 43 _ rfl) hr zd3 Z.F43.m Z.F43.F.kp Z.F43.b (za (svF zak 5) zd))))))) (zb zN ze) ze) (zb (zq (i:=6) nd rfl (lcF (i:=6) zak rfl) (zg (C 44 _ rfl) hr zgW Z.F44.m Z.F44.F.kp Z.F44.b (za (svF zak 1) (za (svF zak 2) (za (svF zak 3) (za (svF zak 4) zd)))))) (zb (zq (i:=7) nd rfl (lcF (i:=7) zak rfl) (zg (C 26 _ rfl) hr zf0 Z.F26.m Z.F26.F.kp Z.F26.b (za (svF zak 1) zd))) (zb (zq (i:=8) nd rfl (lcF (i:=8) zak rfl) zc) (zb (zbf own1 rfl (zcg (svF zak 5)) (zaa (i:=9) nd rfl (lcF (i:=9) zak rfl)) (zb (zq (i:=8) nd rfl (lcF (i:=8) zak rfl) (zg (C 40 _ rfl) hr zho Z.F40.m Z.F40.F.kp Z.F40.b (za (svF zak 6) (za (svF zak 8) (za (svF zak 9) (za (svF zak 7) zd)))))) ze)) (zb (zr (svF zak 6)) ze))))))))
theorem znF (Z:Facts K mg cl fa fdd) (C:Fns P w K mg base cl fa fdd k):FnOk P w K mg base (CX1 P w) (k + 1) (fa 46) (fdd 46) ["_law_cells","_law_letter_here","_law_many","_law_w"] (spI K cl (callT T (k + 1)) 46) :=
  zad (fn:=zhU) rfl Z.F46.F sc_qread rfl rfl fun cdv A outer s H E hr=>have nd:=sc_qread.nd; have hu1:=z8 hr; (zb (zq (i:=4) nd rfl (lcF (i:=4) za5 rfl) (zg (C 26 _ rfl) hr zfz Z.F26.m Z.F26.F.kp Z.F26.b (za (svF za5 3) zd))) (zb (zq (i:=5) nd rfl (lcF (i:=5) za5 rfl) zc) (zb (zbf own1 rfl (zm8 zgL Z.z_range (zf zbr (svF za5 2) zc) (ziE zc)) (zaa (i:=6) nd rfl (lcF (i:=6) za5 rfl)) (zb (zq (i:=5) nd rfl (lcF (i:=5) za5 rfl) (zf zI (zf zS (svF za5 5) (svF za5 4)) (zet hu1 (svF za5 0) (zu (za (svF za5 1) (za (svF za5 6) zd))) zc))) ze)) (zb (zr (svF za5 5)) ze))))
theorem zni (Z:Facts K mg cl fa fdd) (C:Fns P w K mg base cl fa fdd k):FnOk P w K mg base (CX1 P w) (k + 1) (fa 47) (fdd 47) ["_law_cells"] (spI K cl (callT T (k + 1)) 47) :=
  zad (fn:=zfH) rfl Z.F47.F sc_qmarks rfl rfl fun cdv A outer s H E hr=>have nd:=sc_qmarks.nd; have hu1:=z8 hr; (zb (zr (zc3 zfO zfU Z.z_tuple zar (za (zc6 rfl (compOk (NC:=["_law_k","_law_cells"]) (slots:=[none,some 0]) ["_law_cells"] (defScope zck) rfl rfl rfl (by decide +kernel) (by decide +kernel) (by decide +kernel) (by decide +kernel) rfl) (by decide) (za3 zgq Z.z_range zc) (fun j=>zdb rfl (zaa (i:=0) (show (["_law_k","_law_cells"]:List Str).Nodup by decide +kernel) rfl (by first | exact Or.inl rfl | exact Or.inr rfl))) (fun j=>zcp) (fun j=>zdr rfl (zet hu1 (sv 1) (zu (za zp (za (sv 0) zd))) zc))) zd))) ze)
theorem znU (Z:Facts K mg cl fa fdd) (C:Fns P w K mg base cl fa fdd k):FnOk P w K mg base (CX1 P w) (k + 1) (fa 48) (fdd 48) ["_law_worth_here","_law_many"] (spI K cl (callT T (k + 1)) 48) :=
  zad (fn:=zhA) rfl Z.F48.F sc_qends rfl rfl fun cdv A outer s H E hr=>have nd:=sc_qends.nd; have hu1:=z8 hr; (zb (zr (zu (za (zc3 zkp zfj Z.z_int ziq (za (zaW (zV hr.units) (svF zhV 0) zc (nomark _)) zd)) (za (zc3 zkp zfj Z.z_int ziq (za (zaW zpl (zf zS zc (svF zhV 0)) (zg (C 26 _ rfl) hr zfD Z.F26.m Z.F26.F.kp Z.F26.b (za (svF zhV 1) zd)) (nomark _)) zd)) zd)))) ze)
theorem zpr (Z:Facts K mg cl fa fdd) (C:Fns P w K mg base cl fa fdd k):FnOk P w K mg base (CX1 P w) (k + 1) (fa 49) (fdd 49) ["_law_state"] (spI K cl (callT T (k + 1)) 49) :=
  zad (fn:=ziF) rfl Z.F49.F sc_qfew rfl rfl fun cdv A outer s H E hr=>have nd:=sc_qfew.nd; have hu1:=z8 hr; (zb (zq (i:=1) nd rfl (lcF (i:=1) zcG rfl) (zf zI zc (zg (C 24 _ rfl) hr zcM Z.F24.m Z.F24.F.kp Z.F24.b (za (svF zcG 0) (za zc zd))))) (zb (zq (i:=2) nd rfl (lcF (i:=2) zcG rfl) (zf zI zc (zg (C 24 _ rfl) hr zcM Z.F24.m Z.F24.F.kp Z.F24.b (za (svF zcG 0) (za (zP (zkv rfl) zjn Z.z_min zkb (za zc (za (zf zbr (zf zaJ zc (svF zcG 1)) zc) zd))) zd))))) (zb (zG (zo (zV hr.units) (zg (C 24 _ rfl) hr zcM Z.F24.m Z.F24.F.kp Z.F24.b (za (svF zcG 0) (za zc zd))) zc (nomark _)) (zb (zr (zu (za (zf zbr zc (zf zbS (svF zcG 2) zc)) (za zc zd)))) ze) ze) (zb (zr (zu (za (svF zcG 2) (za (svF zcG 1) zd)))) ze))))
theorem zpR (Z:Facts K mg cl fa fdd) (C:Fns P w K mg base cl fa fdd k):FnOk P w K mg base (CX1 P w) (k + 1) (fa 50) (fdd 50) ["_law_state","_law_w","_law_n"] (spI K cl (callT T (k + 1)) 50) :=
  zad (fn:=zcO) rfl Z.F50.F sc_qtwo rfl rfl fun cdv A outer s H E hr=>have nd:=sc_qtwo.nd; have hu1:=z8 hr; (zb (zq (i:=3) nd rfl (lcF (i:=3) zA rfl) (zg (C 25 _ rfl) hr zdT Z.F25.m Z.F25.F.kp Z.F25.b (za (svF zA 0) (za (svF zA 1) (za (svF zA 2) zd))))) (zb (zq (i:=4) nd rfl (lcF (i:=4) zA rfl) (zg (C 25 _ rfl) hr zdT Z.F25.m Z.F25.F.kp Z.F25.b (za (svF zA 0) (za (svF zA 1) (za (svF zA 2) zd))))) (zb (zq (i:=5) nd rfl (lcF (i:=5) zA rfl) (zg (C 24 _ rfl) hr zb1 Z.F24.m Z.F24.F.kp Z.F24.b (za (svF zA 0) (za zc zd)))) (zb (zq (i:=6) nd rfl (lcF (i:=6) zA rfl) (zg (C 26 _ rfl) hr zds Z.F26.m Z.F26.F.kp Z.F26.b (za (zg (C 24 _ rfl) hr zb1 Z.F24.m Z.F24.F.kp Z.F24.b (za (svF zA 0) (za (zf zS (svF zA 1) (svF zA 2)) zd))) zd))) (zb (zG (PW.pt (zbB (zo (zV hr.units) (svF zA 5) zc (nomark _)) (zbi (zo (zV hr.units) (svF zA 5) zc (nomark _))))) (zb (zq (i:=4) nd rfl (lcF (i:=4) zA rfl) (zf zaJ (svF zA 4) (svF zA 6))) ze) ze) (zb (zG (zo (zV hr.units) (svF zA 5) zc (nomark _)) (zb (zq (i:=4) nd rfl (lcF (i:=4) zA rfl) (zf zI zc (zg (C 24 _ rfl) hr zb1 Z.F24.m Z.F24.F.kp Z.F24.b (za (svF zA 0) (za zc zd))))) ze) ze) (zb (zG (zo (zV hr.units) (svF zA 5) zc (nomark _)) (zb (zq (i:=4) nd rfl (lcF (i:=4) zA rfl) (svF zA 6)) ze) ze) (zb (zG (PW.pt (zes (PW.pt (zbB (zo (zV hr.units) (svF zA 5) zc (nomark _)) (zbi (zo (zV hr.units) (svF zA 5) zc (nomark _))))) (zcL (zo zhQ (svF zA 4) zc (nomark _))))) (zb (zq (i:=3) nd rfl (lcF (i:=3) zA rfl) (zP (zmm rfl) zjl Z.z_max zmh (za zc (za (zP (zkv rfl) zjB Z.z_min zkb (za (zf zbr (zg (C 26 _ rfl) hr zds Z.F26.m Z.F26.F.kp Z.F26.b (za (zf zS (svF zA 1) (svF zA 2)) zd)) zc) (za (zf zbr (zf zI (zf zS (zf zaJ (svF zA 3) (svF zA 4)) (svF zA 4)) (zg (C 24 _ rfl) hr zb1 Z.F24.m Z.F24.F.kp Z.F24.b (za (svF zA 0) (za zc zd)))) zc) zd))) zd)))) ze) ze) (zb (zG (zo (zV hr.units) (svF zA 5) zc (nomark _)) (zb (zq (i:=4) nd rfl (lcF (i:=4) zA rfl) (svF zA 3)) ze) ze) (zb (zr (zu (za (svF zA 3) (za (svF zA 4) zd)))) ze))))))))))
theorem zqf (Z:Facts K mg cl fa fdd) (C:Fns P w K mg base cl fa fdd k):FnOk P w K mg base (CX1 P w) (k + 1) (fa 51) (fdd 51) ["_law_script"] (spI K cl (callT T (k + 1)) 51) :=
  zad (fn:=zod) rfl Z.F51.F sc_law rfl rfl fun cdv A outer s H E hr=>have nd:=sc_law.nd; have hu1:=z8 hr; (zb (zq (i:=1) nd rfl (lcF (i:=1) zY rfl) (zg (C 21 _ rfl) hr zhv Z.F21.m Z.F21.F.kp Z.F21.b (za (svF zY 0) zd))) (zb (zq (i:=2) nd rfl (lcF (i:=2) zY rfl) (zg (C 18 _ rfl) hr zdV Z.F18.m Z.F18.F.kp Z.F18.b (za (zu (za zp zd)) zd))) (zb (zmz (zg (C 49 _ rfl) hr zjs Z.F49.m Z.F49.F.kp Z.F49.b (za (svF zY 1) zd)) (zig rfl (zbD (i:=3) nd rfl (lcF (i:=3) zY rfl) (zbD (i:=4) nd rfl (lcF (i:=4) zY rfl) zgC)))) (zb (zmz (zg (C 50 _ rfl) hr zjH Z.F50.m Z.F50.F.kp Z.F50.b (za (svF zY 1) (za (svF zY 3) (za (svF zY 4) zd)))) (zig rfl (zbD (i:=5) nd rfl (lcF (i:=5) zY rfl) (zbD (i:=6) nd rfl (lcF (i:=6) zY rfl) zgC)))) (zb (zq (i:=6) nd rfl (lcF (i:=6) zY rfl) (zP (zmm rfl) zlE Z.z_max zmh (za zc (za (svF zY 6) zd)))) (zb (zq (i:=7) nd rfl (lcF (i:=7) zY rfl) (zg (C 45 _ rfl) hr zj2 Z.F45.m Z.F45.F.kp Z.F45.b (za (svF zY 2) (za (svF zY 3) (za (svF zY 4) (za (svF zY 5) (za (svF zY 6) zd))))))) (zb (zG (PW.pt (zbB (zo zq6 (svF zY 7) zkI (nomark _)) (zbB (zo (zfv hr.units) (zg (C 46 _ rfl) hr zfa Z.F46.m Z.F46.F.kp Z.F46.b (za (svF zY 7) (za zp (za (svF zY 4) (za (svF zY 3) zd))))) (zf zaJ (svF zY 5) (svF zY 6)) (nomark _)) (zbi (zo (zfv hr.units) (zg (C 46 _ rfl) hr zfa Z.F46.m Z.F46.F.kp Z.F46.b (za (svF zY 7) (za zp (za (svF zY 4) (za (svF zY 3) zd))))) (zf zbS (svF zY 5) (svF zY 6)) (nomark _)))))) (zb zN ze) ze) (zb (zr (zbx (zaW (zV hr.units) (zg (C 47 _ rfl) hr zhI Z.F47.m Z.F47.F.kp Z.F47.b (za (svF zY 7) zd)) (zf zI (zu (za zc (za zc zd))) (zg (C 48 _ rfl) hr zim Z.F48.m Z.F48.F.kp Z.F48.b (za (zf zaJ (svF zY 5) (svF zY 6)) (za (zf zS (svF zY 3) (svF zY 4)) zd)))) (nomark _)) (zcd (zaW (zV hr.units) (zg (C 18 _ rfl) hr zdV Z.F18.m Z.F18.F.kp Z.F18.b (za (zu (za zp zd)) zd)) (svF zY 2) (nomark _))))) ze))))))))
end
end WK
namespace IC
open PySem
noncomputable def forB (call:Cl) (t:Tg) (b:Css) (xs:List PV) (ρ:Env) (st:Store):Fl:=forL t (fun ρ2 st2=>exs call ρ2 st2 b) xs ρ st
noncomputable def whileB (call:Cl) (c:Ce) (b:Css) (n:Nat) (ρ:Env) (st:Store):Fl:=whileL (fun ρ2 st2=>ev call ρ2 st2 c) (fun ρ2 st2=>exs call ρ2 st2 b) n ρ st
noncomputable def oneB (call:Cl) (ρ0:Env) (t:Tg) (c e:Ce) (x:PV) (st2:Store):R (Option PV):=match bindT t x ρ0 with
  | none=>.bad
  | some ρ1=>(ev call ρ1 st2 c).bind fun b st3=>onO (truV st3 b) fun k=>cond k ((ev call ρ1 st3 e).bind fun y st4=>.ok (some y) st4) (.ok none st3)
noncomputable def compB (call:Cl) (ρ0:Env) (t:Tg) (c e:Ce) (xs:List PV) (st:Store):R (List PV):=compL (oneB call ρ0 t c e) xs st
noncomputable def thenF (f:Fl) (k:Env -> Store -> Fl):Fl :=
  match f with
  | .nx ρ st=>k ρ st
  | f=>f
noncomputable def nxO (o:Option Env) (st:Store):Fl :=
  match o with
  | some ρ=>.nx ρ st
  | none=>.bad
noncomputable def stO (ρ:Env) (o:Option Store):Fl :=
  match o with
  | some st=>.nx ρ st
  | none=>.bad
section
variable {call:Cl} {ρ:Env} {st:Store}
theorem zbh {t:Tg} {it:Cit} {b:Css}:ex call ρ st (.for t it b) = (evi call ρ st it).fl ρ fun xs st1=>forB call t b xs ρ st1:=by rw [ex]; rfl
theorem zp3 {c:Ce} {b:Css}:ex call ρ st (.while c b) = whileB call c b 100000 ρ st:=by rw [ex]; rfl
theorem zoG {sl:List (Option Nat)} {t:Tg} {it:Cit} {c e:Ce}:ev call ρ st (.comp sl t it c e) = (evi call ρ st it).bind fun xs st1=>lstR (compB call (sl.map fun o=>o.bind fun j=>(ρ[j]?).join) t c e xs st1):=by rw [ev]; rfl
theorem zaU {t:Tg} {b:Css}:forB call t b [] ρ st = .nx ρ st:=by rw [forB,forL]
theorem zaF {t:Tg} {b:Css} {x:PV} {xs:List PV} {ρ1:Env} (h:bindT t x ρ = some ρ1):forB call t b (x :: xs) ρ st = againF (exs call ρ1 st b) fun ρ2 st2=>forB call t b xs ρ2 st2:=by
  rw [forB,forL,h]; rfl
theorem zeL {t:Tg} {b:Css} (P:Nat -> Env -> Store -> Prop):∀ (xs:List PV) (i:Nat) (ρ:Env) (st:Store),P i ρ st ->
    (∀ (j:Nat) (x:PV) (ρ:Env) (st:Store),xs[j]? = some x -> P (i + j) ρ st -> ∃ ρ1 ρ2 st2,bindT t x ρ = some ρ1 /\ exs call ρ1 st b = .nx ρ2 st2 /\ P (i + j + 1) ρ2 st2) ->
    ∃ ρ' st',forB call t b xs ρ st = .nx ρ' st' /\ P (i + xs.length) ρ' st'
  | [],i,ρ,st,h,_=>⟨ρ,st,zaU,h⟩
  | x :: xs,i,ρ,st,h,k=>by
    obtain ⟨ρ1,ρ2,st2,e1,e2,h2⟩:=k 0 x ρ st rfl h
    obtain ⟨ρ',st',e3,h3⟩:=zeL P xs (i + 1) ρ2 st2 h2 fun j y ρ st hy hp=>by
      have:=k (j + 1) y ρ st (by simpa using hy) (by rw [show i + (j + 1) = i + 1 + j by omega]; exact hp)
      rw [show i + (j + 1) + 1 = i + 1 + j + 1 by omega] at this
      exact this
    refine ⟨ρ',st',?_,by rw [List.length_cons,show i + (xs.length + 1) = i + 1 + xs.length by omega]; exact h3⟩
    rw [zaF e1,e2]
    exact e3
theorem znd {c:Ce} {b:Css} {n:Nat} {x:PV} {st1 st2:Store} {ρ2:Env} (h:ev call ρ st c = .ok x st1) (ht:truV st1 x = some true) (hb:exs call ρ st1 b = .nx ρ2 st2):whileB call c b (n + 1) ρ st = whileB call c b n ρ2 st2:=by
  rw [whileB,whileL,h]
  simp only [R.fl,ht,onF,cond_true,hb,againF]
  rfl
theorem zjJ {c:Ce} {b:Css} {n:Nat} {x:PV} {st1:Store} (h:ev call ρ st c = .ok x st1) (ht:truV st1 x = some false):whileB call c b (n + 1) ρ st = .nx ρ st1:=by
  rw [whileB,whileL,h]
  simp only [R.fl,ht,onF,cond_false]
theorem ziz {ρ0:Env} {t:Tg} {c e:Ce}:compB call ρ0 t c e [] st = .ok [] st:=by rw [compB,compL]
theorem zhc {ρ0:Env} {t:Tg} {c e:Ce} {x:PV} {xs:List PV}:compB call ρ0 t c e (x :: xs) st = (oneB call ρ0 t c e x st).bind fun o st1=>(compB call ρ0 t c e xs st1).bind fun ys st2=>.ok (consO o ys) st2:=by
  rw [compB,compL]; rfl
theorem zit {ρ0:Env} {t:Tg} {c e:Ce} {f:PV -> PV}:∀ (xs:List PV),(∀ x ∈ xs,oneB call ρ0 t c e x st = .ok (some (f x)) st) -> compB call ρ0 t c e xs st = .ok (xs.map f) st
  | [],_=>ziz
  | x :: xs,h=>by
    rw [zhc,h x List.mem_cons_self]
    simp only [R.bind]
    rw [zit xs fun y hy=>h y (List.mem_cons_of_mem _ hy)]
    rfl
theorem xs_nil:exs call ρ st .nil = .nx ρ st:=by rw [exs]
theorem xs_cons {s:Cs} {ss:Css}:exs call ρ st (.cons s ss) = thenF (ex call ρ st s) fun ρ1 st1=>exs call ρ1 st1 ss:=by
  rw [exs]
  cases ex call ρ st s <;> rfl
theorem x_asg {t:Tg} {e:Ce}:ex call ρ st (.asg t e) = (ev call ρ st e).fl ρ fun v st1=>nxO (bindT t v ρ) st1:=by
  rw [ex]
  refine congrArg _ (funext fun v=>funext fun st1=>?_)
  cases bindT t v ρ <;> rfl
theorem zeE {e:Ce}:ex call ρ st (.expr e) = (ev call ρ st e).fl ρ fun _ st1=>.nx ρ st1:=by rw [ex]
theorem x_ret {e:Ce}:ex call ρ st (.ret e) = (ev call ρ st e).fl ρ fun v st1=>.rt v st1:=by rw [ex]
theorem x_ite {c:Ce} {a b:Css}:ex call ρ st (.ite c a b) = (ev call ρ st c).fl ρ fun x st1=>onF (truV st1 x) fun k=>cond k (exs call ρ st1 a) (exs call ρ st1 b):=by rw [ex]
theorem zh6 {o i e:Ce}:ex call ρ st (.six o i e) = (ev call ρ st e).fl ρ fun v st1=>(ev call ρ st1 o).fl ρ fun x st2=>(ev call ρ st2 i).fl ρ fun y st3=>stO ρ (sixV st3 x y v):=by
  rw [ex]
  refine congrArg _ (funext fun v=>funext fun st1=>congrArg _ (funext fun x=>funext fun st2=>congrArg _ (funext fun y=>funext fun st3=>?_)))
  cases sixV st3 x y v <;> rfl
theorem zbK {o i e:Ce}:ex call ρ st (.dput o i e) = (ev call ρ st e).fl ρ fun v st1=>(ev call ρ st1 o).fl ρ fun x st2=>(ev call ρ st2 i).fl ρ fun y st3=>stO ρ (dputV st3 x y v):=by
  rw [ex]
  refine congrArg _ (funext fun v=>funext fun st1=>congrArg _ (funext fun x=>funext fun st2=>congrArg _ (funext fun y=>funext fun st3=>?_)))
  cases dputV st3 x y v <;> rfl
theorem zqi {i:Nat} {o:BOp} {e:Ce} {x:PV} (h:ρ[i]? = some (some x)):ex call ρ st (.aug i o e) = (ev call ρ st e).fl ρ fun y st1=>nxO ((augV o x y).map fun z=>ρ.set i (some z)) st1:=by
  rw [ex,h]
  show (ev call ρ st e).fl ρ _ = _
  refine congrArg _ (funext fun y=>funext fun st1=>?_)
  cases augV o x y <;> rfl
end
end IC
namespace WK
open IC PySem
mutual
noncomputable def pvq:PV -> PV -> Bool
  | .non,.non=>true
  | .bl a,.bl b=>a == b
  | .int i,.int j=>decide (i = j)
  | .str x,.str y=>decide (x = y)
  | .tp k xs,.tp l ys=>(k == l) && pvqs xs ys
  | .lst xs,.lst ys=>pvqs xs ys
  | _,_=>false
noncomputable def pvqs:List PV -> List PV -> Bool
  | [],[]=>true
  | x :: xs,y :: ys=>pvq x y && pvqs xs ys
  | _,_=>false
end
mutual
theorem zoZ:∀ (a b:PV),pvq a b = true -> a = b
  | .non,b,h=>by cases b <;> simp [pvq] at h ⊢
  | .bl a,b,h=>by cases b <;> simp [pvq] at h ⊢; exact h
  | .int a,b,h=>by cases b <;> simp [pvq] at h ⊢; exact h
  | .str a,b,h=>by cases b <;> simp [pvq] at h ⊢; exact h
  | .tp k xs,b,h=>by
    cases b <;> simp [pvq] at h ⊢
    exact ⟨h.1,zjy _ _ h.2⟩
  | .lst xs,b,h=>by
    cases b <;> simp [pvq] at h ⊢
    exact zjy _ _ h
  | .loc _,b,h=>by cases b <;> simp [pvq] at h
  | .exn _,b,h=>by cases b <;> simp [pvq] at h
  | .scr _,b,h=>by cases b <;> simp [pvq] at h
theorem zjy:∀ (a b:List PV),pvqs a b = true -> a = b
  | [],b,h=>by cases b <;> simp [pvqs] at h ⊢
  | x :: xs,b,h=>by
    cases b with
    | nil=>simp [pvqs] at h
    | cons y ys =>
      simp [pvqs] at h
      rw [zoZ x y h.1,zjy xs ys h.2]
end
noncomputable def isOk (r:R PV) (v:PV):Bool:=match r with
  | .ok w []=>pvq w v
  | _=>false
theorem zpA {r:R PV} {v:PV} (h:isOk r v = true):r = .ok v []:=by
  match r with
  | .ok w []=>rw [zoZ w v h]
  | .ok w (_ :: _)=>simp [isOk] at h
  | .exc _ _=>simp [isOk] at h
  | .bad=>simp [isOk] at h
noncomputable def chS (c:Nat):Str:=⟨#[c]⟩
noncomputable def cellV (c:Nat) (i:Int):PV:=.tup [.str (chS c),.int i]
theorem zpJ {c d:Nat} (h:chS c = chS d):c = d:=by
  have:=congrArg (fun x=>x.cps) h
  simpa [chS] using this
theorem zdA (c d:Nat) (i j:Int):peq (cellV c i) (cellV d j) = decide (c = d /\ i = j):=by
  have h:(chS c == chS d) = decide (c = d):=by
    rw [Bool.eq_iff_iff]
    simp
    exact ⟨zpJ,fun e=>by rw [e]⟩
  simp [cellV,peq,peqs,h,Bool.decide_and]
  try rfl
noncomputable abbrev Mem:=Nat -> Int -> Int
noncomputable def upd (M:Mem) (c:Nat) (i v:Int):Mem:=fun d j=>if d = c /\ j = i then v else M d j
def AllC (kvs:List (PV × PV)):Prop:=∀ p ∈ kvs,∃ c i,p.1 = cellV c i
def Rel (kvs:List (PV × PV)) (M:Mem):Prop:=∀ c i,(look (cellV c i) kvs).getD (.int 0) = .int (M c i)
theorem zkG (c:Nat) (i:Int) (v:PV) (d:Nat) (j:Int):∀ kvs,AllC kvs -> look (cellV d j) (kvs.map fun p=>if peq p.1 (cellV c i) = true then (p.1,v) else p) = if d = c /\ j = i then (if (kvs.any fun p=>peq p.1 (cellV c i)) = true then some v else none) else look (cellV d j) kvs
  | [],_=>by simp [look]
  | p :: kvs,h=>by
    obtain ⟨e,g,hp⟩:=h p List.mem_cons_self
    obtain ⟨p1,p2⟩:=p
    simp only at hp
    subst hp
    have ih:=zkG c i v d j kvs fun q hq=>h q (List.mem_cons_of_mem _ hq)
    rw [List.map_cons,List.any_cons]
    simp only [zdA]
    by_cases h1:e = c /\ g = i
    · obtain ⟨rfl,rfl⟩:=h1
      simp only [and_self,decide_true,if_true,look,zdA,Bool.true_or]
      by_cases h2:e = d /\ g = j
      · obtain ⟨rfl,rfl⟩:=h2
        simp
      · have h3:¬ (d = e /\ j = g):=fun z=>h2 ⟨z.1.symm,z.2.symm⟩
        simp only [h2,h3,decide_false,if_false,Bool.false_eq_true]
        rw [ih,if_neg h3]
    · simp only [h1,decide_false,Bool.false_or,Bool.false_eq_true,if_false]
      rw [look,look]
      simp only [zdA]
      by_cases h2:e = d /\ g = j
      · obtain ⟨rfl,rfl⟩:=h2
        simp [h1]
      · simp only [h2,decide_false,Bool.false_eq_true,if_false]
        exact ih
theorem zkh (c:Nat) (i:Int) (v:PV) (d:Nat) (j:Int):∀ kvs,AllC kvs -> (kvs.any fun p=>peq p.1 (cellV c i)) = false -> look (cellV d j) (kvs ++ [(cellV c i,v)]) = if d = c /\ j = i then some v else look (cellV d j) kvs
  | [],_,_=>by
    simp only [List.nil_append,look,zdA]
    by_cases h2:c = d /\ i = j
    · obtain ⟨rfl,rfl⟩:=h2; simp
    · have h3:¬ (d = c /\ j = i):=fun z=>h2 ⟨z.1.symm,z.2.symm⟩
      simp [h2,h3]
  | p :: kvs,h,hn=>by
    obtain ⟨e,g,hp⟩:=h p List.mem_cons_self
    obtain ⟨p1,p2⟩:=p
    simp only at hp
    subst hp
    rw [List.any_cons,Bool.or_eq_false_iff] at hn
    have ih:=zkh c i v d j kvs (fun q hq=>h q (List.mem_cons_of_mem _ hq)) hn.2
    have h1:¬ (e = c /\ g = i):=by simpa [zdA] using hn.1
    rw [List.cons_append,look,look]
    simp only [zdA]
    by_cases h2:e = d /\ g = j
    · obtain ⟨rfl,rfl⟩:=h2
      simp [h1]
    · simp only [h2,decide_false,Bool.false_eq_true,if_false]
      exact ih
theorem zog (c:Nat) (i:Int) (v:PV) (d:Nat) (j:Int) (kvs:List (PV × PV)) (h:AllC kvs):look (cellV d j) (put (cellV c i) v kvs) = if d = c /\ j = i then some v else look (cellV d j) kvs:=by
  unfold put
  split
  · rename_i z
    rw [zkG _ _ _ _ _ _ h,z,if_pos rfl]
  · rename_i z
    exact zkh _ _ _ _ _ _ h (by simpa using z)
theorem zn9 {c:Nat} {i:Int} {v:PV} {kvs:List (PV × PV)} (h:AllC kvs):AllC (put (cellV c i) v kvs):=by
  unfold put
  split
  · intro p hp
    obtain ⟨q,hq,rfl⟩:=List.mem_map.1 hp
    obtain ⟨e,g,he⟩:=h q hq
    refine ⟨e,g,?_⟩
    split
    · exact he
    · exact he
  · intro p hp
    rcases List.mem_append.1 hp with hp | hp
    · exact h p hp
    · simp at hp
      exact ⟨c,i,by rw [hp]⟩
theorem zo5 {c:Nat} {i v:Int} {kvs:List (PV × PV)} {M:Mem} (h:AllC kvs) (r:Rel kvs M):Rel (put (cellV c i) (.int v) kvs) (upd M c i v):=by
  intro d j
  rw [zog _ _ _ _ _ _ h]
  unfold upd
  split
  · rfl
  · exact r d j
theorem zpQ {k v:PV} {kvs:List (PV × PV)}:(put k v kvs).length <= kvs.length + 1:=by
  unfold put
  split
  · simp
  · simp
theorem zkd (c:Nat) (i:Int):isKey true (cellV c i) = true:=rfl
structure Dc (st:Store) (n:Nat) (M:Mem) (L:Nat):Prop where
  ex:∃ kvs,st[n]? = some (.dct true kvs) /\ AllC kvs /\ Rel kvs M /\ kvs.length <= L
theorem zaw {st:Store} {n L:Nat} {M:Mem} (h:Dc st n M L) (c:Nat) (i:Int):getV st (.loc n) (cellV c i) (.int 0) = .ok (.int (M c i)) st:=by
  obtain ⟨kvs,h1,h2,h3,h4⟩:=h
  simp only [getV,dctOf,h1,zkd,if_true,h3 c i]
theorem zbj {st:Store} {n L:Nat} {M:Mem} (h:Dc st n M L) (hL:L < 999999) (c:Nat) (i v:Int):∃ kvs,dputV st (.loc n) (cellV c i) (.int v) = some (st.set n (.dct true kvs)) /\ Dc (st.set n (.dct true kvs)) n (upd M c i v) (L + 1):=by
  obtain ⟨kvs,h1,h2,h3,h4⟩:=h
  have hn:n < st.length:=by
    rcases Nat.lt_or_ge n st.length with z | z
    · exact z
    · rw [List.getElem?_eq_none z] at h1; cases h1
  refine ⟨put (cellV c i) (.int v) kvs,?_,⟨_,List.getElem?_set_self hn,zn9 h2,zo5 h2 h3,Nat.le_trans zpQ (by omega)⟩⟩
  have h5:kvs.length < 1000000:=by omega
  simp only [dputV,h1,zkd,h5,and_self,if_true]
noncomputable abbrev Cel:=Nat × Int
noncomputable def celV (x:Cel):PV:=cellV x.1 x.2
inductive Rw where
  | mark (d:Int) | ask (x:Cel) | set (t:Cel) (d:Int) | move (t x:Cel) | bare (t x:Cel) | twice (t x:Cel) | half (t x:Cel)
  | sum (t x y:Cel) | less (t x y:Cel) | both (t x y:Cel) | any (t x y:Cel) | odd (t x y:Cel)
noncomputable def rowV:Rw -> PV
  | .mark d=>.tup [.str (Str.ofString "mark"),.int d]
  | .ask x=>.tup [.str (Str.ofString "ask"),celV x]
  | .set t d=>.tup [.str (Str.ofString "set"),celV t,.int d]
  | .move t x=>.tup [.str (Str.ofString "move"),celV t,celV x]
  | .bare t x=>.tup [.str (Str.ofString "bare"),celV t,celV x]
  | .twice t x=>.tup [.str (Str.ofString "twice"),celV t,celV x]
  | .half t x=>.tup [.str (Str.ofString "half"),celV t,celV x]
  | .sum t x y=>.tup [.str (Str.ofString "sum"),celV t,celV x,celV y]
  | .less t x y=>.tup [.str (Str.ofString "less"),celV t,celV x,celV y]
  | .both t x y=>.tup [.str (Str.ofString "both"),celV t,celV x,celV y]
  | .any t x y=>.tup [.str (Str.ofString "any"),celV t,celV x,celV y]
  | .odd t x y=>.tup [.str (Str.ofString "odd"),celV t,celV x,celV y]
noncomputable def rd (M:Mem) (x:Cel):Int:=M x.1 x.2
noncomputable def wr (M:Mem) (x:Cel) (v:Int):Mem:=upd M x.1 x.2 v
noncomputable def stepM (W:Int) (M:Mem) (k:Int):Rw -> Mem × Int
  | .mark d=>(M,d)
  | .ask x=>(M,bi (!(rd M x == 0)))
  | .set t d=>(wr M t d,k)
  | .move t x=>(wr M t (rd M x),k)
  | .bare t x=>(wr M t (W - 1 - rd M x),k)
  | .twice t x=>(wr M t ((2 * rd M x + k) % W),(2 * rd M x + k) / W)
  | .half t x=>(wr M t (rd M x / 2 + k * (W / 2)),rd M x % 2)
  | .sum t x y=>(wr M t ((rd M x + rd M y + k) % W),(rd M x + rd M y + k) / W)
  | .less t x y=>(wr M t ((rd M x - rd M y - k) % W),bi (decide (rd M x - rd M y - k < 0)))
  | .both t x y=>(wr M t (Builtin.bitAnd (rd M x) (rd M y)),k)
  | .any t x y=>(wr M t (Builtin.bitOr (rd M x) (rd M y)),k)
  | .odd t x y=>(wr M t (Builtin.bitXor (rd M x) (rd M y)),k)
noncomputable def runM (W:Int):List Rw -> Mem -> Int -> Mem × Int
  | [],M,k=>(M,k)
  | r :: rs,M,k=>runM W rs (stepM W M k r).1 (stepM W M k r).2
theorem zan (W:Int):∀ (a b:List Rw) (M:Mem) (k:Int),runM W (a ++ b) M k = runM W b (runM W a M k).1 (runM W a M k).2
  | [],b,M,k=>rfl
  | r :: a,b,M,k=>by rw [List.cons_append,runM,zan W a b,runM]
theorem zki {st:Store} {n:Nat} {o:Ob} (h:st[n]? = some o):st = st.set n o:=by
  refine List.ext_getElem? fun i=>?_
  rw [List.getElem?_set]
  split
  · rename_i e
    subst e
    split
    · exact h
    · rename_i z
      rw [List.getElem?_eq_none (by omega)] at h
      cases h
  · rfl
end WK
namespace WK
open IC PySem
theorem zdn (i:Int):shp (.int i) = true:=rfl
section
variable {st:Store} {k:Bool} {a b c d e:PV} {r:List PV} {i j:Int}
theorem ix0:idxV st (.tp k (a :: r)) (.int 0) = some a:=by simp [idxV,idxI,at?,ixI]
theorem ix1:idxV st (.tp k (a :: b :: r)) (.int 1) = some b:=by
  have:(1:Int) < (r.length:Int) + 1 + 1:=by omega
  simp [idxV,idxI,at?,ixI,this]
theorem ix2:idxV st (.tp k (a :: b :: c :: r)) (.int 2) = some c:=by
  have:(2:Int) < (r.length:Int) + 1 + 1 + 1:=by omega
  simp [idxV,idxI,at?,ixI,this]
theorem ix3:idxV st (.tp k (a :: b :: c :: d :: r)) (.int 3) = some d:=by
  have:(3:Int) < (r.length:Int) + 1 + 1 + 1 + 1:=by omega
  simp [idxV,idxI,at?,ixI,this]
theorem ix4:idxV st (.tp k (a :: b :: c :: d :: e :: r)) (.int 4) = some e:=by
  have:(4:Int) < (r.length:Int) + 1 + 1 + 1 + 1 + 1:=by omega
  simp [idxV,idxI,at?,ixI,this]
theorem zbs:binV .add (.int i) (.int j) = some (.int (i + j)):=rfl
theorem zbu:binV .sub (.int i) (.int j) = some (.int (i - j)):=rfl
theorem zo3 (h:i.natAbs < 18446744073709551616 \/ j.natAbs < 18446744073709551616):binV .mul (.int i) (.int j) = some (.int (i * j)):=by
  have:CMulB i j = true:=by simpa [CMulB] using h
  simp [binV,binI,this]
theorem zbV (h:i.natAbs < 18446744073709551616):binV .mul (.int i) (.int j) = some (.int (i * j)):=zo3 (.inl h)
theorem zaK (h:j.natAbs < 18446744073709551616):binV .mul (.int i) (.int j) = some (.int (i * j)):=zo3 (.inr h)
theorem zbG:binV .mul (.int 2) (.int j) = some (.int (2 * j)):=zo3 (.inl (by decide))
theorem zbH (h:0 < j) (h2:j < 18446744073709551616 * 18446744073709551616):binV .fdiv (.int i) (.int j) = some (.int (i / j)):=by
  have h3:j < 10000000000000000000000000000000000000000000000000000000000000000000000:=by omega
  simp [binV,binI,h,h3]
theorem zaX:binV .fdiv (.int i) (.int 2) = some (.int (i / 2)):=rfl
theorem zbX (h:0 < j):binV .mod (.int i) (.int j) = some (.int (i % j)):=by simp [binV,binI,h]
theorem zbT:binV .mod (.int i) (.int 2) = some (.int (i % 2)):=rfl
theorem zdI:binV .band (.int i) (.int j) = some (.int (Builtin.bitAnd i j)):=rfl
theorem b_or:binV .bor (.int i) (.int j) = some (.int (Builtin.bitOr i j)):=rfl
theorem zdH:binV .bxor (.int i) (.int j) = some (.int (Builtin.bitXor i j)):=rfl
theorem toR_some {v:PV}:toR (some v) st = .ok v st:=rfl
theorem c_ne:cmpV .ne (.int i) (.int j) = some (.bl (!(i == j))):=by simp [cmpV,zdn,peq]
theorem c_eq:cmpV .eq (.int i) (.int j) = some (.bl (i == j)):=by simp [cmpV,zdn,peq]
theorem c_lt:cmpV .lt (.int i) (.int j) = some (.bl (decide (i < j))):=rfl
theorem c_le:cmpV .le (.int i) (.int j) = some (.bl (decide (i <= j))):=rfl
theorem c_gt:cmpV .gt (.int i) (.int j) = some (.bl (decide (j < i))):=rfl
theorem c_ge:cmpV .ge (.int i) (.int j) = some (.bl (decide (j <= i))):=rfl
theorem t_bl {b:Bool}:truV st (.bl b) = some b:=rfl
theorem on_t {f:Bool -> Fl} {b:Bool}:onF (some b) f = f b:=rfl
theorem ono {α:Type} {f:Bool -> R α} {b:Bool}:onO (some b) f = f b:=rfl
theorem zao {ρ:IC.Env}:stO ρ (some st) = .nx ρ st:=rfl
theorem nxO_some {ρ:IC.Env}:nxO (some ρ) st = .nx ρ st:=rfl
theorem fl_ok {α:Type} {a:α} {ρ:IC.Env} {k:α -> Store -> Fl}:(R.ok a st).fl ρ k = k a st:=rfl
theorem bd_ok {α β:Type} {a:α} {k:α -> Store -> R β}:(R.ok a st).bind k = k a st:=rfl
theorem th_nx {ρ:IC.Env} {k:IC.Env -> Store -> Fl}:thenF (.nx ρ st) k = k ρ st:=rfl
theorem th_rt {v:PV} {k:IC.Env -> Store -> Fl}:thenF (.rt v st) k = .rt v st:=rfl
theorem zaM {x:PV}:bltV .int st [x] = intV x:=rfl
theorem zbJ {b:Bool}:intV (.bl b) = some (.int (bi b)):=rfl
theorem bT_n {i:Nat} {v:PV} {ρ:IC.Env}:bindT (.n i) v ρ = some (ρ.set i (some v)):=rfl
theorem mget {o k d:PV}:mthV .get st o [k,d] = getV st o k d:=rfl
end
end WK
local macro_rules | `(tactic| simp! [$xs,*])=>`(tactic| simp only [Bool.false_eq_true,IC.ev.eq_1,IC.ev.eq_18,IC.ev.eq_2,IC.ev.eq_8,IC.evs,IC.x_asg,IC.x_ite,IC.x_ret,IC.xs_cons,IC.xs_nil,List.cons_append,List.getElem?_cons_succ,List.getElem?_cons_zero,List.length_cons,List.length_nil,List.map_cons,List.map_nil,List.nil_append,List.replicate,List.set_cons_succ,List.set_cons_zero,Nat.reduceAdd,Nat.reduceSub,Nat.zero_add,WK.bT_n,WK.bd_ok,WK.fl_ok,WK.nxO_some,WK.on_t,WK.t_bl,WK.th_nx,WK.th_rt,WK.toR_some,if_false,if_true,$xs,*])
local macro_rules | `(tactic| dsimp! [$xs,*])=>`(tactic| simp only [IC.ev.eq_1,IC.ev.eq_11,IC.ev.eq_16,IC.ev.eq_2,IC.evs,IC.sizeMax,IC.xs_cons,IC.xs_nil,List.getElem?_cons_succ,List.getElem?_cons_zero,List.length_cons,List.length_nil,Nat.reduceAdd,Nat.reduceLeDiff,Nat.zero_add,WK.bd_ok,WK.fl_ok,WK.ix0,WK.ix1,WK.th_nx,WK.toR_some,if_true,$xs,*])
local macro_rules | `(tactic| simp_all! [$xs,*])=>`(tactic| simp only [IC.R.bind,IC.R.fl,IC.at?,IC.binI,IC.binV,IC.cmpI,IC.cmpV,IC.ev.eq_1,IC.ev.eq_16,IC.ev.eq_2,IC.ev.eq_3,IC.ev.eq_8,IC.evs,IC.idxI,IC.idxV,IC.ixI,IC.nxO,IC.onF,IC.thenF,IC.toR,IC.truV,IC.x_ite,IC.xs_cons,List.getElem?_cons_succ,List.getElem?_cons_zero,List.set_cons_succ,List.set_cons_zero,$xs,*])
namespace WK
open IC PySem
noncomputable abbrev cZ:Cel:=(122,0)
noncomputable abbrev cS:Cel:=(115,0)
noncomputable abbrev cT:Cel:=(116,0)
noncomputable def upRows (f:Int -> Rw):Nat -> List Rw
  | 0=>[]
  | n + 1=>upRows f n ++ [f n]
noncomputable def endRows (n:Nat):List Rw:=[.set cS 0] ++ upRows (fun i=>Rw.any cS cS (99,i)) n ++ [.ask cS,.set (109,2) 1,.less (109,2) (109,2) cZ,.twice cT (99,(n:Int) - 1),.sum (109,3) cZ cZ]
noncomputable def wordsL (W:Int):Nat -> Int -> List Int
  | 0,_=>[]
  | n + 1,x=>x % W :: wordsL W n (x / W)
theorem zbg (W:Int):∀ n x,(wordsL W n x).length = n
  | 0,_=>rfl
  | n + 1,x=>by rw [wordsL,List.length_cons,zbg]
noncomputable def fillM (c:Nat):Nat -> List Int -> Mem -> Mem
  | _,[],M=>M
  | i,v :: vs,M=>fillM c (i + 1) vs (upd M c i v)
noncomputable def M0:Mem:=fun _ _=>0
noncomputable def begM (W:Int) (n:Nat) (x y:Int):Mem:=fillM 98 0 (wordsL W n y) (fillM 97 0 (wordsL W n x) M0)
noncomputable def valM (W:Int) (M:Mem) (c:Nat):Nat -> Int
  | 0=>0
  | n + 1=>valM W M c n + M c n * W ^ n
end WK
namespace WK
open IC PySem
theorem zoV (x y:Nat):Builtin.bitAnd (x:Int) (y:Int) = ((x &&& y:Nat):Int):=by
  simp [Builtin.bitAnd]
theorem zmQ (x y:Nat):Builtin.bitOr (x:Int) (y:Int) = ((x ||| y:Nat):Int):=by
  have h1:¬ (0:Int) <= -(x:Int) - 1:=by omega
  have h2:¬ (0:Int) <= -(y:Int) - 1:=by omega
  have h3:(-(-(x:Int) - 1) - 1).toNat = x:=by omega
  have h4:(-(-(y:Int) - 1) - 1).toNat = y:=by omega
  simp only [Builtin.bitOr,Builtin.bitAnd,Builtin.bitNot,h1,h2,decide_false,h3,h4]
  omega
theorem pw (w:Nat):((2 ^ w:Nat):Int) = 2 ^ w:=by simp
theorem zmN {a b:Int} (a0:0 <= a) (b0:0 <= b):Builtin.bitOr a b = 0 ↔ a = 0 /\ b = 0:=by
  obtain ⟨x,rfl⟩:∃ n:Nat,a = n:=⟨a.toNat,by omega⟩
  obtain ⟨y,rfl⟩:∃ n:Nat,b = n:=⟨b.toNat,by omega⟩
  rw [zmQ]
  have:=Nat.or_eq_zero_iff (n:=x) (m:=y)
  omega
noncomputable def tb (w:Nat) (a:Int):Int:=(2 * a) / 2 ^ w
theorem zrx {w:Nat} (hw:0 < w) {a:Int} (a0:0 <= a) (a1:a < 2 ^ w):tb w a = if 2 ^ w <= 2 * a then 1 else 0:=by
  have h1:(0:Int) < 2 ^ w:=Int.pow_pos (by omega)
  unfold tb
  split
  · rename_i h
    exact Int.le_antisymm (Int.le_of_lt_add_one (Int.ediv_lt_of_lt_mul h1 (by omega))) (Int.le_ediv_of_mul_le h1 (by omega))
  · exact Int.ediv_eq_zero_of_lt (by omega) (by omega)
end WK
namespace WK
open IC PySem
def Dg (W:Int) (M:Mem) (c n:Nat):Prop:=∀ i:Nat,i < n -> 0 <= M c i /\ M c i < W
theorem Dg.mono {W:Int} {M:Mem} {c n:Nat} (h:Dg W M c (n + 1)):Dg W M c n:=fun i hi=>h i (by omega)
theorem z9 {W:Int} {M M':Mem} {c c':Nat}:∀ n,(∀ i:Nat,i < n -> M c i = M' c' i) -> valM W M c n = valM W M' c' n
  | 0,_=>rfl
  | n + 1,h=>by rw [valM,valM,z9 n fun i hi=>h i (by omega),h n (by omega)]
theorem zaL {W:Int} (hW:0 < W) {M:Mem} {c:Nat}:∀ n,Dg W M c n -> 0 <= valM W M c n /\ valM W M c n < W ^ n
  | 0,_=>by simp [valM]
  | n + 1,h=>by
    obtain ⟨a,b⟩:=zaL hW n h.mono
    obtain ⟨c0,c1⟩:=h n (by omega)
    have hp:0 < W ^ n:=Int.pow_pos hW
    have h1:0 <= M c n * W ^ n:=Int.mul_nonneg c0 (by omega)
    have h2:M c n * W ^ n <= (W - 1) * W ^ n:=Int.mul_le_mul_of_nonneg_right (by omega) (by omega)
    rw [Int.sub_mul,Int.one_mul] at h2
    rw [valM,Int.pow_succ,Int.mul_comm (W ^ n) W]
    omega
theorem zeC {W:Int} (hW:0 < W) {M:Mem} {c:Nat}:∀ n,Dg W M c n -> (valM W M c n = 0 ↔ ∀ i:Nat,i < n -> M c i = 0)
  | 0,_=>by simp [valM]
  | n + 1,h=>by
    have ih:=zeC hW n h.mono
    obtain ⟨a,b⟩:=zaL hW n h.mono
    obtain ⟨c0,c1⟩:=h n (by omega)
    have hp:0 < W ^ n:=Int.pow_pos hW
    have h1:0 <= M c n * W ^ n:=Int.mul_nonneg c0 (by omega)
    rw [valM]
    constructor
    · intro h2 i hi
      have h3:M c n * W ^ n = 0:=by omega
      rcases Nat.lt_or_ge i n with z | z
      · exact ih.1 (by omega) i z
      · rw [show i = n by omega]
        rcases Int.mul_eq_zero.1 h3 with e | e
        · exact e
        · omega
    · intro h2
      rw [h2 n (by omega),ih.2 fun i hi=>h2 i (by omega)]
      simp
theorem zpC {w:Nat} (hw:0 < w) {M:Mem} {c n:Nat} (h:Dg (2 ^ w) M c (n + 1)):tb w (M c n) = if (2 ^ w:Int) ^ (n + 1) <= 2 * valM (2 ^ w) M c (n + 1) then 1 else 0:=by
  obtain ⟨c0,c1⟩:=h n (by omega)
  obtain ⟨a,b⟩:=zaL (Int.pow_pos (by omega)) n h.mono
  rw [zrx hw c0 c1,valM]
  obtain ⟨v,rfl⟩:∃ v,w = v + 1:=⟨w - 1,by omega⟩
  have hp:0 < ((2:Int) ^ (v + 1)) ^ n:=Int.pow_pos (Int.pow_pos (by omega))
  rw [Int.pow_succ ((2:Int) ^ (v + 1)) n]
  generalize ((2:Int) ^ (v + 1)) ^ n = P at *
  generalize hV:valM (2 ^ (v + 1)) M c n = V at *
  rw [Int.pow_succ] at *
  generalize (2:Int) ^ v = H at *
  generalize M c (n:Int) = d at *
  by_cases hd:H <= d
  · have h1:=Int.mul_le_mul_of_nonneg_right hd (show 0 <= P by omega)
    have h2:P * (H * 2) = 2 * (H * P):=by rw [Int.mul_comm P,Int.mul_assoc,Int.mul_comm 2 P,<- Int.mul_assoc,Int.mul_comm 2]
    rw [if_pos (by omega),if_pos (by rw [h2]; omega)]
  · have h1:=Int.mul_le_mul_of_nonneg_right (show d <= H - 1 by omega) (show 0 <= P by omega)
    rw [Int.sub_mul,Int.one_mul] at h1
    have h2:P * (H * 2) = 2 * (H * P):=by rw [Int.mul_comm P,Int.mul_assoc,Int.mul_comm 2 P,<- Int.mul_assoc,Int.mul_comm 2]
    rw [if_neg (by omega),if_neg (by rw [h2]; omega)]
theorem zks {W:Int} (M:Mem) (k:Int) (hS:0 <= M 115 0):∀ n,(∀ i:Nat,i < n -> 0 <= M 99 i) ->
    (runM W (upRows (fun i=>Rw.any cS cS (99,i)) n) M k).2 = k /\ (∀ d j,d ≠ 115 -> (runM W (upRows (fun i=>Rw.any cS cS (99,i)) n) M k).1 d j = M d j) /\ 0 <= (runM W (upRows (fun i=>Rw.any cS cS (99,i)) n) M k).1 115 0 /\ ((runM W (upRows (fun i=>Rw.any cS cS (99,i)) n) M k).1 115 0 = 0 ↔ M 115 0 = 0 /\ ∀ i:Nat,i < n -> M 99 i = 0)
  | 0,_=>⟨rfl,fun _ _ _=>rfl,hS,by simp [upRows,runM]⟩
  | n + 1,h=>by
    obtain ⟨h1,h2,h3,h4⟩:=zks (W:=W) M k hS n fun i hi=>h i (by omega)
    rw [upRows,zan]
    generalize runM W (upRows (fun i=>Rw.any cS cS (99,i)) n) M k = R at *
    obtain ⟨M1,k'⟩:=R
    simp only at *
    have hb:=h n (by omega)
    simp only [runM,stepM,rd,wr,cS,h2 99 n (by decide)]
    have hz:=zmN h3 hb
    refine ⟨h1,fun d j hd=>?_,?_,?_⟩
    · unfold upd
      rw [if_neg (by omega),h2 d j hd]
    · unfold upd
      rw [if_pos ⟨rfl,rfl⟩]
      obtain ⟨x,hx⟩:∃ x:Nat,M1 115 0 = x:=⟨(M1 115 0).toNat,by omega⟩
      obtain ⟨y,hy⟩:∃ y:Nat,M 99 n = y:=⟨(M 99 n).toNat,by omega⟩
      rw [hx,hy,zmQ]
      omega
    · unfold upd
      rw [if_pos ⟨rfl,rfl⟩,hz,h4]
      constructor
      · rintro ⟨⟨a,b⟩,c⟩
        refine ⟨a,fun i hi=>?_⟩
        rcases Nat.lt_or_ge i n with z | z
        · exact b i z
        · rw [show i = n by omega]; exact c
      · rintro ⟨a,b⟩
        exact ⟨⟨a,fun i hi=>b i (by omega)⟩,b n (by omega)⟩
end WK
namespace WK
open IC PySem
theorem za0 {W:Int} {r:Rw} {rs:List Rw} {M:Mem} {k:Int}:runM W (r :: rs) M k = runM W rs (stepM W M k r).1 (stepM W M k r).2:=rfl
theorem zkK (b:Bool):0 <= bi b /\ bi b <= 1:=by cases b <;> decide
theorem znC {w:Nat} (hw:1 < w) {n:Nat} (M:Mem) (k:Int) (hc:Dg (2 ^ w) M 99 (n + 1)) (hz:M 122 0 = 0) :
    (∀ j,(runM (2 ^ w) (endRows (n + 1)) M k).1 99 j = M 99 j) /\ (runM (2 ^ w) (endRows (n + 1)) M k).1 109 0 = M 109 0 /\ (runM (2 ^ w) (endRows (n + 1)) M k).1 109 1 = M 109 1 /\
    (runM (2 ^ w) (endRows (n + 1)) M k).1 109 2 = bi (valM (2 ^ w) M 99 (n + 1) == 0) /\ (runM (2 ^ w) (endRows (n + 1)) M k).1 109 3 = bi (decide ((2 ^ w:Int) ^ (n + 1) <= 2 * valM (2 ^ w) M 99 (n + 1))):=by
  have hW:(0:Int) < 2 ^ w:=Int.pow_pos (by omega)
  have hW4:(4:Int) <= 2 ^ w:=by
    have h:(2:Nat) ^ 2 <= 2 ^ w:=Nat.pow_le_pow_right (by omega) (by omega)
    have h2:=pw w
    omega
  obtain ⟨h1,h2,h3,h4⟩:=zks (W:=2 ^ w) (wr M cS 0) k (by simp [wr,upd]) (n + 1) (fun i hi=>by simp [wr,upd]; exact (hc i hi).1)
  have e:endRows (n + 1) = .set cS 0 :: (upRows (fun i=>Rw.any cS cS (99,i)) (n + 1) ++ [.ask cS,.set (109,2) 1,.less (109,2) (109,2) cZ,.twice cT (99,((n + 1:Nat):Int) - 1),.sum (109,3) cZ cZ]):=rfl
  have hst:stepM (2 ^ w) M k (.set cS 0) = (wr M cS 0,k):=rfl
  rw [e,za0,hst,zan]
  generalize runM (2 ^ w) (upRows (fun i=>Rw.any cS cS (99,i)) (n + 1)) (wr M cS 0) k = R at *
  obtain ⟨M1,k'⟩:=R
  simp only at *
  subst h1
  have g:∀ d j,d ≠ 115 -> M1 d j = M d j:=fun d j hd=>by
    rw [h2 d j hd]
    simp only [wr,upd,cS]
    rw [if_neg (by omega)]
  have hn:((n + 1:Nat):Int) - 1 = n:=by omega
  have h5:M1 115 0 = 0 ↔ valM (2 ^ w) M 99 (n + 1) = 0:=by
    rw [h4,zeC hW (n + 1) hc]
    constructor
    · rintro ⟨_,b⟩ i hi
      have:=b i hi
      simpa [wr,upd] using this
    · intro b
      exact ⟨by simp [wr,upd],fun i hi=>by simpa [wr,upd] using b i hi⟩
  have ht:=zpC (by omega) hc
  have hb:bi (!(M1 115 0 == 0)) = 1 - bi (valM (2 ^ w) M 99 (n + 1) == 0):=by
    by_cases hv:valM (2 ^ w) M 99 (n + 1) = 0
    · rw [h5.2 hv,hv]; rfl
    · have:¬ M1 115 0 = 0:=fun z=>hv (h5.1 z)
      rw [beq_eq_false_iff_ne.2 this,beq_eq_false_iff_ne.2 hv]; rfl
  have hbr:=zkK (valM (2 ^ w) M 99 (n + 1) == 0)
  rw [hn]
  simp only [runM,stepM,rd,wr,upd,cS,cT,cZ]
  rw [hb]
  generalize bi (valM (2 ^ w) M 99 (n + 1) == 0) = v at *
  have hm:bi (decide ((1:Int) - 0 - (1 - v) < 0)) = 0:=by
    rw [decide_eq_false (by omega)]; rfl
  have hm2:(1 - 0 - (1 - v)) % (2:Int) ^ w = v:=by
    rw [show 1 - 0 - (1 - v) = v by omega]
    exact Int.emod_eq_of_lt (by omega) (by omega)
  have hT:(2 * M 99 n + 0) / 2 ^ w = bi (decide ((2 ^ w:Int) ^ (n + 1) <= 2 * valM (2 ^ w) M 99 (n + 1))):=by
    rw [Int.add_zero]
    show tb w (M 99 n) = _
    rw [ht]
    by_cases q:(2 ^ w:Int) ^ (n + 1) <= 2 * valM (2 ^ w) M 99 (n + 1)
    · rw [if_pos q,decide_eq_true q]; rfl
    · rw [if_neg q,decide_eq_false q]; rfl
  have hTr:=zkK (decide ((2 ^ w:Int) ^ (n + 1) <= 2 * valM (2 ^ w) M 99 (n + 1)))
  simp only [Nat.reduceEqDiff,false_and,if_false,Int.reduceEq,and_false,and_self,if_true,g _ _ (show (99:Nat) ≠ 115 by decide),g _ _ (show (109:Nat) ≠ 115 by decide),g _ _ (show (122:Nat) ≠ 115 by decide),hz,hm,hm2,hT]
  refine ⟨fun j=>trivial,trivial,trivial,trivial,?_⟩
  rw [show (0:Int) + 0 + bi (decide ((2 ^ w:Int) ^ (n + 1) <= 2 * valM (2 ^ w) M 99 (n + 1))) = bi (decide ((2 ^ w:Int) ^ (n + 1) <= 2 * valM (2 ^ w) M 99 (n + 1))) by omega]
  exact Int.emod_eq_of_lt (by omega) (by omega)
end WK
namespace WK
open IC PySem
theorem zep {c d:Nat} (h:d ≠ c) (j:Int):∀ (vs:List Int) (i:Nat) (M:Mem),fillM c i vs M d j = M d j
  | [],_,_=>rfl
  | v :: vs,i,M=>by
    rw [fillM,zep h j vs,upd,if_neg (by omega)]
theorem zgb {c:Nat} (j:Int):∀ (vs:List Int) (i:Nat) (M:Mem),j < i -> fillM c i vs M c j = M c j
  | [],_,_,_=>rfl
  | v :: vs,i,M,h=>by
    rw [fillM,zgb j vs (i + 1) _ (by omega),upd,if_neg (by omega)]
theorem zhn {c:Nat}:∀ (vs:List Int) (i:Nat) (M:Mem) (k:Nat),k < vs.length -> fillM c i vs M c ((i + k:Nat):Int) = vs.getD k 0
  | [],_,_,_,h=>by simp at h
  | v :: vs,i,M,0,h=>by
    rw [fillM,zgb _ vs (i + 1) _ (by omega),upd,if_pos ⟨rfl,by simp⟩]
    rfl
  | v :: vs,i,M,k + 1,h=>by
    rw [fillM,show i + (k + 1) = i + 1 + k by omega,zhn vs (i + 1) _ k (by simpa using h)]
    rfl
theorem zgg {W:Int} (hW:0 < W):∀ (n:Nat) (x:Int) (k:Nat),k < n -> (wordsL W n x).getD k 0 = x / W ^ k % W
  | 0,_,_,h=>by omega
  | n + 1,x,0,h=>by simp [wordsL]
  | n + 1,x,k + 1,h=>by
    rw [wordsL]
    show (wordsL W n (x / W)).getD k 0 = _
    rw [zgg hW n (x / W) k (by omega),Int.pow_succ,Int.mul_comm (W ^ k),Int.ediv_ediv_of_nonneg (by omega)]
theorem zhK {W x:Int} (hW:0 < W) (n:Nat):x % W ^ (n + 1) = x % W ^ n + x / W ^ n % W * W ^ n:=by
  have hp:0 < W ^ n:=Int.pow_pos hW
  rw [Int.pow_succ]
  generalize W ^ n = P at *
  have e1:=Int.emod_add_mul_ediv x P
  have e2:=Int.emod_add_mul_ediv (x / P) W
  have a0:=Int.emod_nonneg x (show P ≠ 0 by omega)
  have a1:=Int.emod_lt_of_pos x hp
  have b0:=Int.emod_nonneg (x / P) (show W ≠ 0 by omega)
  have b1:=Int.emod_lt_of_pos (x / P) hW
  generalize x % P = r at *
  generalize x / P = q at *
  generalize q % W = s at *
  generalize q / W = t at *
  subst e2
  have e3:x = r + s * P + P * W * t:=by
    rw [<- e1,Int.mul_add,Int.mul_comm P s,Int.mul_assoc P W t]; omega
  have c1:s * P <= (W - 1) * P:=Int.mul_le_mul_of_nonneg_right (by omega) (by omega)
  have c0:0 <= s * P:=Int.mul_nonneg b0 (by omega)
  rw [Int.sub_mul,Int.one_mul] at c1
  rw [e3,Int.add_mul_emod_self_left,Int.emod_eq_of_lt (by omega) (by rw [Int.mul_comm P W]; omega)]
theorem zhS {W:Int} (hW:0 < W) {M:Mem} {c:Nat} {x:Int}:∀ n,(∀ i:Nat,i < n -> M c i = x / W ^ i % W) -> valM W M c n = x % W ^ n
  | 0,_=>by simp [valM,Int.emod_one]
  | n + 1,h=>by rw [valM,zhS hW n fun i hi=>h i (by omega),h n (by omega),zhK hW]
section
variable {W:Int} (n:Nat) (x y:Int)
theorem zrV {d:Nat} (h1:d ≠ 97) (h2:d ≠ 98) (j:Int):begM W n x y d j = 0:=by
  rw [begM,zep h2,zep h1]; rfl
variable (hW:0 < W)
include hW
theorem zqD {i:Nat} (h:i < n):begM W n x y 97 i = x / W ^ i % W:=by
  rw [begM,zep (by decide)]
  have:=zhn (c:=97) (wordsL W n x) 0 M0 i (by rw [zbg]; exact h)
  rw [Nat.zero_add] at this
  rw [this,zgg hW n x i h]
theorem zqo {i:Nat} (h:i < n):begM W n x y 98 i = y / W ^ i % W:=by
  rw [begM]
  have:=zhn (c:=98) (wordsL W n y) 0 (fillM 97 0 (wordsL W n x) M0) i (by rw [zbg]; exact h)
  rw [Nat.zero_add] at this
  rw [this,zgg hW n y i h]
theorem zqm:Dg W (begM W n x y) 97 n:=fun i hi=>by
  rw [zqD n x y hW hi]
  exact ⟨Int.emod_nonneg _ (by omega),Int.emod_lt_of_pos _ hW⟩
theorem zrk:Dg W (begM W n x y) 98 n:=fun i hi=>by
  rw [zqo n x y hW hi]
  exact ⟨Int.emod_nonneg _ (by omega),Int.emod_lt_of_pos _ hW⟩
theorem zqL (h0:0 <= x) (h1:x < W ^ n):valM W (begM W n x y) 97 n = x:=by
  rw [zhS hW n fun i hi=>zqD n x y hW hi,Int.emod_eq_of_lt h0 h1]
theorem zqW (h0:0 <= y) (h1:y < W ^ n):valM W (begM W n x y) 98 n = y:=by
  rw [zhS hW n fun i hi=>zqo n x y hW hi,Int.emod_eq_of_lt h0 h1]
end
end WK
namespace WK
open IC
theorem dbl {call:Cl} {i j:Nat} (hij:i ≠ j):∀ (N:Nat) (a:Int) (ρ:IC.Env) (v:Int) (st:Store),ρ[i]? = some (some (.int v)) ->
    ∃ u,forB call (.n j) (.cons (.asg (.n i) (.bin .mul (.cst (.int 2)) (.var i))) .nil) (rangeL N a 1) ρ st = .nx ((ρ.set i (some (.int (2 ^ N * v)))).set j u) st /\ (N = 0 -> ρ[j]? = some u \/ ρ.length <= j)
  | 0,a,ρ,v,st,h=>by
    have hi:ρ.set i (some (.int v)) = ρ:=by
      refine List.ext_getElem? fun z=>?_
      rw [List.getElem?_set]
      split
      · rename_i e
        subst e
        split
        · exact h.symm
        · rw [List.getElem?_eq_none (by omega)] at h
          cases h
      · rfl
    rcases Nat.lt_or_ge j ρ.length with hj | hj
    · refine ⟨ρ[j],?_,fun _=>.inl (List.getElem?_eq_getElem hj)⟩
      rw [rangeL,zaU,Int.pow_zero,Int.one_mul,hi,List.set_getElem_self]
    · refine ⟨none,?_,fun _=>.inr hj⟩
      rw [rangeL,zaU,Int.pow_zero,Int.one_mul,hi,List.set_eq_of_length_le hj]
  | N + 1,a,ρ,v,st,h=>by
    have h1:(ρ.set j (some (.int a)))[i]? = some (some (.int v)):=by
      rw [List.getElem?_set_ne (Ne.symm hij)]; exact h
    have hil:i < ρ.length:=by
      rcases Nat.lt_or_ge i ρ.length with z | z
      · exact z
      · rw [List.getElem?_eq_none z] at h; cases h
    have h2:exs call (ρ.set j (some (.int a))) st (.cons (.asg (.n i) (.bin .mul (.cst (.int 2)) (.var i))) .nil) = .nx ((ρ.set j (some (.int a))).set i (some (.int (2 * v)))) st:=by
      simp only [xs_nil,xs_cons,x_asg,thenF,nxO,ev.eq_1,ev.eq_2,ev.eq_3,R.bind,R.fl,h1,bindT,binV,binI,CMulB,toR]
      simp
    obtain ⟨u,h3,_⟩:=dbl (call:=call) hij N (a + 1) ((ρ.set j (some (.int a))).set i (some (.int (2 * v)))) (2 * v) st (by rw [List.getElem?_set_self (by rw [List.length_set]; exact hil)])
    refine ⟨u,?_,fun z=>by cases z⟩
    rw [rangeL,zaF (ρ1:=ρ.set j (some (.int a))) rfl,h2]
    show forB call _ _ _ _ _ = _
    rw [h3,List.set_set,List.set_comm _ _ (Ne.symm hij),List.set_set,Int.pow_succ,Int.mul_assoc]
end WK
namespace WK
open IC PySem
structure Cx where
  l:Nat
  c:Int
  i:Int
  j:Int
  m:Int
deriving DecidableEq
inductive Op where
  | fig (d:Int) | cel (x:Cx)
deriving DecidableEq
structure Rs where
  nm:Str
  ops:List Op
deriving DecidableEq
inductive T2 where
  | row (r:Rs) | rounds (c m t:Int) (rs:List Rs)
deriving DecidableEq
inductive T1 where
  | row (r:Rs) | rounds (c m t:Int) (ps:List T2)
deriving DecidableEq
noncomputable def Cx.at (x:Cx) (I J n:Int):Int:=x.c + x.i * I + x.j * J + x.m * n
noncomputable def Op.pv (I J n:Int):Op -> PV
  | .fig d=>.int d
  | .cel x=>cellV x.l (x.at I J n)
noncomputable def Rs.pv (r:Rs) (I J n:Int):PV:=.tup (.str r.nm :: r.ops.map (Op.pv I J n))
noncomputable def cnt (c m t w n:Int):Nat:=(c + m * n + t * w * n).toNat
noncomputable def upTo {α:Type} (f:Nat -> List α):Nat -> List α
  | 0=>[]
  | n + 1=>upTo f n ++ f n
noncomputable def T2.rows (w n:Int) (I:Nat):T2 -> List PV
  | .row r=>[r.pv I 0 n]
  | .rounds c m t rs=>upTo (fun J=>rs.map fun r=>r.pv I J n) (cnt c m t w n)
noncomputable def T2.rnd (w n:Int):T2 -> Nat
  | .row _=>0
  | .rounds c m t _=>cnt c m t w n
noncomputable def rows2 (w n:Int) (I:Nat) (ps:List T2):List PV:=ps.flatMap (T2.rows w n I)
noncomputable def rnd2 (w n:Int) (ps:List T2):Nat:=(ps.map (T2.rnd w n)).sum
noncomputable def T1.rows (w n:Int):T1 -> List PV
  | .row r=>[r.pv 0 0 n]
  | .rounds c m t ps=>upTo (fun I=>rows2 w n I ps) (cnt c m t w n)
noncomputable def T1.rnd (w n:Int):T1 -> Nat
  | .row _=>0
  | .rounds c m t ps=>cnt c m t w n * (1 + rnd2 w n ps)
noncomputable def rows1 (w n:Int) (ps:List T1):List PV:=ps.flatMap (T1.rows w n)
noncomputable def rnd1 (w n:Int) (ps:List T1):Nat:=(ps.map (T1.rnd w n)).sum
noncomputable def sm (i:Int):Bool:=decide (i.natAbs <= 200)
noncomputable def opOf:PV -> Option Op
  | .int d=>some (.fig d)
  | .tp _ [.str s,.tp _ [.int c,.int i,.int j,.int m]]=>if s = chS (s.cps.getD 0 0) /\ (sm c && sm i && sm j && sm m) = true then some (.cel ⟨s.cps.getD 0 0,c,i,j,m⟩) else none
  | _=>none
noncomputable def opsOf:List PV -> Option (List Op)
  | []=>some []
  | v :: vs=>match opOf v,opsOf vs with
    | some a,some b=>some (a :: b)
    | _,_=>none
noncomputable def rowOf:PV -> Option Rs
  | .tp _ (.str nm :: vs)=>match opsOf vs with
    | some ops=>if vs.length < 100 then some ⟨nm,ops⟩ else none
    | none=>none
  | _=>none
noncomputable def isRow (s:Str):Bool:=decide (s = Str.ofString "row")
noncomputable def rowP:PV -> Option Rs
  | .tp _ [.str s,v]=>if isRow s then rowOf v else none
  | _=>none
noncomputable def deepOf:List PV -> Option (List Rs)
  | []=>some []
  | v :: vs=>match rowP v,deepOf vs with
    | some a,some b=>some (a :: b)
    | _,_=>none
noncomputable def isRnd (s:Str):Bool:=decide (s = Str.ofString "rounds")
noncomputable def part2 (v:PV):Option T2 :=
  match v with
  | .tp _ [.str s,.tp _ [.int c,.int m,.int t],_,.tp _ vs]=>if isRnd s && (sm c && sm m && sm t) then (deepOf vs).map (.rounds c m t) else none
  | v=>(rowP v).map .row
noncomputable def parts2:List PV -> Option (List T2)
  | []=>some []
  | v :: vs=>match part2 v,parts2 vs with
    | some a,some b=>some (a :: b)
    | _,_=>none
noncomputable def part1 (v:PV):Option T1 :=
  match v with
  | .tp _ [.str s,.tp _ [.int c,.int m,.int t],_,.tp _ vs]=>if isRnd s && (sm c && sm m && sm t) then (parts2 vs).map (.rounds c m t) else none
  | v=>(rowP v).map .row
noncomputable def parts1:List PV -> Option (List T1)
  | []=>some []
  | v :: vs=>match part1 v,parts1 vs with
    | some a,some b=>some (a :: b)
    | _,_=>none
theorem zm6 {v:PV} {o:Op} (h:opOf v = some o):(∃ d,o = .fig d /\ v = .int d) \/ ∃ a b x,o = .cel x /\ v = .tp a [.str (chS x.l),.tp b [.int x.c,.int x.i,.int x.j,.int x.m]] /\ x.i.natAbs <= 200 /\ x.j.natAbs <= 200 /\ x.m.natAbs <= 200:=by
  unfold opOf at h
  split at h
  · left; cases h; exact ⟨_,rfl,rfl⟩
  · right
    rename_i a s b c i j m
    split at h
    · rename_i q
      cases h
      have q2:=q.2
      simp only [sm,Bool.and_eq_true,decide_eq_true_eq] at q2
      refine ⟨a,b,_,rfl,?_,q2.1.1.2,q2.1.2,q2.2⟩
      simp only
      rw [<- q.1]
    · cases h
  · cases h
theorem zkE {v:PV} {r:Rs} (h:rowOf v = some r):∃ a vs,v = .tp a (.str r.nm :: vs) /\ opsOf vs = some r.ops /\ vs.length < 100:=by
  unfold rowOf at h
  split at h
  · rename_i a nm vs
    split at h
    · rename_i ops q
      split at h
      · rename_i z
        cases h; exact ⟨a,vs,rfl,q,z⟩
      · cases h
    · cases h
  · cases h
theorem zjS {v:PV} {r:Rs} (h:rowP v = some r):∃ a v1,v = .tp a [.str (Str.ofString "row"),v1] /\ rowOf v1 = some r:=by
  unfold rowP at h
  split at h
  · rename_i a s v1
    split at h
    · rename_i q
      have q:s = Str.ofString "row":=by simpa [isRow] using q
      exact ⟨a,v1,by rw [q],h⟩
    · cases h
  · cases h
theorem zoh {v:PV} {p:T2} (h:part2 v = some p):(∃ r,p = .row r /\ rowP v = some r) \/ ∃ a b sn d vs c m t rs,p = .rounds c m t rs /\ v = .tp a [.str (Str.ofString "rounds"),.tp b [.int c,.int m,.int t],sn,.tp d vs] /\ deepOf vs = some rs /\ c.natAbs <= 200 /\ m.natAbs <= 200 /\ t.natAbs <= 200:=by
  unfold part2 at h
  split at h
  · right
    rename_i a s b c m t sn d vs
    split at h
    · rename_i q
      simp only [isRnd,sm,Bool.and_eq_true,decide_eq_true_eq] at q
      cases e:deepOf vs with
      | none=>rw [e] at h; cases h
      | some rs =>
        rw [e] at h
        cases h
        exact ⟨a,b,sn,d,vs,c,m,t,rs,rfl,by rw [q.1],e,q.2.1.1,q.2.1.2,q.2.2⟩
    · cases h
  · left
    cases e:rowP v with
    | none=>rw [e] at h; cases h
    | some r=>rw [e] at h; cases h; exact ⟨r,rfl,rfl⟩
theorem zn3 {v:PV} {p:T1} (h:part1 v = some p):(∃ r,p = .row r /\ rowP v = some r) \/ ∃ a b sn d vs c m t ps,p = .rounds c m t ps /\ v = .tp a [.str (Str.ofString "rounds"),.tp b [.int c,.int m,.int t],sn,.tp d vs] /\ parts2 vs = some ps /\ c.natAbs <= 200 /\ m.natAbs <= 200 /\ t.natAbs <= 200:=by
  unfold part1 at h
  split at h
  · right
    rename_i a s b c m t sn d vs
    split at h
    · rename_i q
      simp only [isRnd,sm,Bool.and_eq_true,decide_eq_true_eq] at q
      cases e:parts2 vs with
      | none=>rw [e] at h; cases h
      | some rs =>
        rw [e] at h
        cases h
        exact ⟨a,b,sn,d,vs,c,m,t,rs,rfl,by rw [q.1],e,q.2.1.1,q.2.1.2,q.2.2⟩
    · cases h
  · left
    cases e:rowP v with
    | none=>rw [e] at h; cases h
    | some r=>rw [e] at h; cases h; exact ⟨r,rfl,rfl⟩
end WK
namespace WK
open IC PySem
inductive Rt where
  | mark (d:Int) | ask (x:Cx) | set (t:Cx) (d:Int) | move (t x:Cx) | bare (t x:Cx) | twice (t x:Cx) | half (t x:Cx)
  | sum (t x y:Cx) | less (t x y:Cx) | both (t x y:Cx) | any (t x y:Cx) | odd (t x y:Cx)
noncomputable def Rt.rs:Rt -> Rs
  | .mark d=>⟨Str.ofString "mark",[.fig d]⟩
  | .ask x=>⟨Str.ofString "ask",[.cel x]⟩
  | .set t d=>⟨Str.ofString "set",[.cel t,.fig d]⟩
  | .move t x=>⟨Str.ofString "move",[.cel t,.cel x]⟩
  | .bare t x=>⟨Str.ofString "bare",[.cel t,.cel x]⟩
  | .twice t x=>⟨Str.ofString "twice",[.cel t,.cel x]⟩
  | .half t x=>⟨Str.ofString "half",[.cel t,.cel x]⟩
  | .sum t x y=>⟨Str.ofString "sum",[.cel t,.cel x,.cel y]⟩
  | .less t x y=>⟨Str.ofString "less",[.cel t,.cel x,.cel y]⟩
  | .both t x y=>⟨Str.ofString "both",[.cel t,.cel x,.cel y]⟩
  | .any t x y=>⟨Str.ofString "any",[.cel t,.cel x,.cel y]⟩
  | .odd t x y=>⟨Str.ofString "odd",[.cel t,.cel x,.cel y]⟩
noncomputable def Cx.cl (x:Cx) (I J n:Int):Cel:=(x.l,x.at I J n)
noncomputable def Rt.rw (I J n:Int):Rt -> Rw
  | .mark d=>.mark d
  | .ask x=>.ask (x.cl I J n)
  | .set t d=>.set (t.cl I J n) d
  | .move t x=>.move (t.cl I J n) (x.cl I J n)
  | .bare t x=>.bare (t.cl I J n) (x.cl I J n)
  | .twice t x=>.twice (t.cl I J n) (x.cl I J n)
  | .half t x=>.half (t.cl I J n) (x.cl I J n)
  | .sum t x y=>.sum (t.cl I J n) (x.cl I J n) (y.cl I J n)
  | .less t x y=>.less (t.cl I J n) (x.cl I J n) (y.cl I J n)
  | .both t x y=>.both (t.cl I J n) (x.cl I J n) (y.cl I J n)
  | .any t x y=>.any (t.cl I J n) (x.cl I J n) (y.cl I J n)
  | .odd t x y=>.odd (t.cl I J n) (x.cl I J n) (y.cl I J n)
theorem zpz (r:Rt) (I J n:Int):r.rs.pv I J n = rowV (r.rw I J n):=by cases r <;> rfl
inductive P2 where
  | row (r:Rt) | rounds (c m t:Int) (rs:List Rt)
inductive P1 where
  | row (r:Rt) | rounds (c m t:Int) (ps:List P2)
noncomputable def P2.t2:P2 -> T2
  | .row r=>.row r.rs
  | .rounds c m t rs=>.rounds c m t (rs.map Rt.rs)
noncomputable def P1.t1:P1 -> T1
  | .row r=>.row r.rs
  | .rounds c m t ps=>.rounds c m t (ps.map P2.t2)
noncomputable def P2.rw (w n:Int) (I:Nat):P2 -> List Rw
  | .row r=>[r.rw I 0 n]
  | .rounds c m t rs=>upTo (fun J=>rs.map fun r=>r.rw I J n) (cnt c m t w n)
noncomputable def P1.rw (w n:Int):P1 -> List Rw
  | .row r=>[r.rw 0 0 n]
  | .rounds c m t ps=>upTo (fun I=>ps.flatMap (P2.rw w n I)) (cnt c m t w n)
noncomputable def rwP (w n:Int) (ps:List P1):List Rw:=ps.flatMap (P1.rw w n)
theorem zhD {α β:Type} (f:Nat -> List α) (g:α -> β):∀ n,upTo (fun i=>(f i).map g) n = (upTo f n).map g
  | 0=>rfl
  | n + 1=>by rw [upTo,upTo,List.map_append,zhD f g n]
theorem zr5 (w n:Int) (I:Nat) (p:P2):T2.rows w n I p.t2 = (p.rw w n I).map rowV:=by
  cases p with
  | row r=>simp only [P2.t2,T2.rows,P2.rw,List.map_cons,List.map_nil,zpz]
  | rounds c m t rs =>
    simp only [P2.t2,T2.rows,P2.rw]
    rw [<- zhD]
    congr 1
    funext J
    simp only [List.map_map]
    congr 1
    funext r
    exact zpz r _ _ _
theorem zoY (w n:Int) (I:Nat):∀ ps:List P2,rows2 w n I (ps.map P2.t2) = (ps.flatMap (P2.rw w n I)).map rowV
  | []=>rfl
  | p :: ps=>by
    have ih:=zoY w n I ps
    unfold rows2 at ih ⊢
    rw [List.map_cons,List.flatMap_cons,List.flatMap_cons,List.map_append,ih,zr5]
theorem zrR (w n:Int) (p:P1):T1.rows w n p.t1 = (p.rw w n).map rowV:=by
  cases p with
  | row r=>simp only [P1.t1,T1.rows,P1.rw,List.map_cons,List.map_nil,zpz]
  | rounds c m t ps =>
    simp only [P1.t1,T1.rows,P1.rw]
    rw [<- zhD]
    congr 1
    funext I
    exact zoY w n I ps
theorem zmy (w n:Int):∀ ps:List P1,rows1 w n (ps.map P1.t1) = (rwP w n ps).map rowV
  | []=>rfl
  | p :: ps=>by
    have ih:=zmy w n ps
    unfold rows1 rwP at ih ⊢
    rw [List.map_cons,List.flatMap_cons,List.flatMap_cons,List.map_append,ih,zrR]
theorem zm2 (w n:Int) (a b:List P1):rwP w n (a ++ b) = rwP w n a ++ rwP w n b:=by
  unfold rwP; rw [List.flatMap_append]
noncomputable def P2.len (w n:Int):P2 -> Nat
  | .row _=>1
  | .rounds c m t rs=>cnt c m t w n * rs.length
noncomputable def P1.len (w n:Int):P1 -> Nat
  | .row _=>1
  | .rounds c m t ps=>cnt c m t w n * (ps.map (P2.len w n)).sum
theorem zhY {α:Type} (f:Nat -> List α) (L:Nat) (h:∀ i,(f i).length = L):∀ n,(upTo f n).length = n * L
  | 0=>by simp [upTo]
  | n + 1=>by rw [upTo,List.length_append,zhY f L h n,h,Nat.succ_mul]
theorem zrh (w n:Int) (I:Nat) (p:P2):(p.rw w n I).length = p.len w n:=by
  cases p with
  | row r=>rfl
  | rounds c m t rs=>exact zhY _ _ (fun J=>by rw [List.length_map]) _
theorem zmd (w n:Int) (I:Nat):∀ ps:List P2,(ps.flatMap (P2.rw w n I)).length = (ps.map (P2.len w n)).sum
  | []=>rfl
  | p :: ps=>by rw [List.flatMap_cons,List.length_append,zmd w n I ps,zrh,List.map_cons,List.sum_cons]
theorem zrC (w n:Int) (p:P1):(p.rw w n).length = p.len w n:=by
  cases p with
  | row r=>rfl
  | rounds c m t ps=>exact zhY _ _ (fun I=>zmd w n I ps) _
theorem zms (w n:Int):∀ ps:List P1,(rwP w n ps).length = (ps.map (P1.len w n)).sum
  | []=>rfl
  | p :: ps=>by
    have ih:=zms w n ps
    unfold rwP at ih ⊢
    rw [List.flatMap_cons,List.length_append,ih,zrC,List.map_cons,List.sum_cons]
noncomputable def okX (x:Cx):Bool:=decide (x.c <= 5) && (decide (0 <= x.c) && (decide (x.i = 0) && decide (x.j = 0) && decide (x.m = 0) || decide (x.i = 1) && decide (x.j = 0) && decide (x.m = 0) || decide (x.i = 0) && decide (x.j = 1) && decide (x.m = 0)) || decide (-1 <= x.c) && decide (x.i = 0) && decide (x.j = 0) && decide (x.m = 1))
theorem zqs {x:Cx} (h:okX x = true) {I J n:Int} (i0:0 <= I) (i1:I < 90) (j0:0 <= J) (j1:J < 90) (n0:1 <= n) (n1:n <= 8):0 <= x.at I J n /\ x.at I J n <= 99:=by
  obtain ⟨l,c,i,j,m⟩:=x
  simp only [okX,Bool.and_eq_true,Bool.or_eq_true,decide_eq_true_eq] at h
  unfold Cx.at
  obtain ⟨hc,⟨h0,(⟨⟨h1,h2⟩,h3⟩ | ⟨⟨h1,h2⟩,h3⟩) | ⟨⟨h1,h2⟩,h3⟩⟩ | ⟨⟨⟨h0,h1⟩,h2⟩,h3⟩⟩:=h <;> (simp only at *; subst h1; subst h2; subst h3; omega)
noncomputable def okTg (t:Cx):Bool:=okX t && (!decide (t.l = 97) && !decide (t.l = 98) && !decide (t.l = 122) && (!decide (t.l = 109) || decide (1 <= t.c) && decide (t.i = 0) && decide (t.j = 0) && decide (t.m = 0)))
noncomputable def Rt.ok:Rt -> Bool
  | .mark _=>true
  | .ask x=>okX x
  | .set t _=>okTg t
  | .move t x=>okTg t && okX x
  | .bare t x=>okTg t && okX x
  | .twice t x=>okTg t && okX x
  | .half t x=>okTg t && okX x
  | .sum t x y=>okTg t && okX x && okX y
  | .less t x y=>okTg t && okX x && okX y
  | .both t x y=>okTg t && okX x && okX y
  | .any t x y=>okTg t && okX x && okX y
  | .odd t x y=>okTg t && okX x && okX y
noncomputable def okN (c m t:Int):Bool:=decide (0 <= c) && decide (c <= 1) && decide (0 <= m) && decide (m <= 1) && decide (0 <= t) && decide (t <= 1)
theorem zmv {c m t:Int} (h:okN c m t = true) {w n:Nat} (hn:n <= 8) (hw:w * n <= 64):cnt c m t w n <= 73:=by
  simp only [okN,Bool.and_eq_true,decide_eq_true_eq] at h
  obtain ⟨⟨⟨⟨⟨a,b⟩,c1⟩,d⟩,e⟩,f⟩:=h
  have hw2:(w:Int) * n <= 64:=by exact_mod_cast hw
  unfold cnt
  rcases (by omega:m = 0 \/ m = 1) with z | z <;> rcases (by omega:t = 0 \/ t = 1) with y | y <;> subst z <;> subst y <;> simp only [Int.zero_mul,Int.one_mul] <;> omega
noncomputable def P2.ok:P2 -> Bool
  | .row r=>r.ok
  | .rounds c m t rs=>okN c m t && rs.all Rt.ok
noncomputable def P1.ok:P1 -> Bool
  | .row r=>r.ok
  | .rounds c m t ps=>okN c m t && ps.all P2.ok
theorem zgu {α:Type} {f:Nat -> List α} {r:α}:∀ {n:Nat},r ∈ upTo f n -> ∃ i:Nat,i < n /\ r ∈ f i
  | 0,h=>by simp [upTo] at h
  | n + 1,h=>by
    rw [upTo,List.mem_append] at h
    rcases h with h | h
    · obtain ⟨i,hi,e⟩:=zgu h
      exact ⟨i,by omega,e⟩
    · exact ⟨n,by omega,h⟩
theorem zrK {w n I:Nat} (hn:n <= 8) (hw:w * n <= 64) {p:P2} (h:p.ok = true) {q:Rw} (hq:q ∈ p.rw w n I):∃ (r:Rt) (J:Nat),J < 90 /\ r.ok = true /\ q = r.rw I J n:=by
  cases p with
  | row r =>
    simp only [P2.rw,List.mem_cons,List.not_mem_nil,or_false] at hq
    exact ⟨r,0,by omega,h,hq⟩
  | rounds c m t rs =>
    simp only [P2.ok,Bool.and_eq_true,List.all_eq_true] at h
    obtain ⟨J,hJ,hq⟩:=zgu hq
    obtain ⟨r,hr,rfl⟩:=List.mem_map.1 hq
    have:=zmv h.1 hn hw
    exact ⟨r,J,by omega,h.2 r hr,rfl⟩
theorem zr3 {w n:Nat} (hn:n <= 8) (hw:w * n <= 64) {p:P1} (h:p.ok = true) {q:Rw} (hq:q ∈ p.rw w n):∃ (r:Rt) (I J:Nat),I < 90 /\ J < 90 /\ r.ok = true /\ q = r.rw I J n:=by
  cases p with
  | row r =>
    simp only [P1.rw,List.mem_cons,List.not_mem_nil,or_false] at hq
    exact ⟨r,0,0,by omega,by omega,h,hq⟩
  | rounds c m t ps =>
    simp only [P1.ok,Bool.and_eq_true,List.all_eq_true] at h
    obtain ⟨I,hI,hq⟩:=zgu hq
    obtain ⟨p,hp,hq⟩:=List.mem_flatMap.1 hq
    obtain ⟨r,J,hJ,hr,e⟩:=zrK hn hw (h.2 p hp) hq
    have:=zmv h.1 hn hw
    exact ⟨r,I,J,by omega,hJ,hr,e⟩
theorem zoJ {w n:Nat} (hn:n <= 8) (hw:w * n <= 64) {ps:List P1} (h:ps.all P1.ok = true) {q:Rw} (hq:q ∈ rwP w n ps):∃ (r:Rt) (I J:Nat),I < 90 /\ J < 90 /\ r.ok = true /\ q = r.rw I J n:=by
  obtain ⟨p,hp,hq⟩:=List.mem_flatMap.1 hq
  exact zr3 hn hw (List.all_eq_true.1 h p hp) hq
noncomputable def tg:Rw -> Option Cel
  | .mark _=>none
  | .ask _=>none
  | .set t _=>some t
  | .move t _=>some t
  | .bare t _=>some t
  | .twice t _=>some t
  | .half t _=>some t
  | .sum t _ _=>some t
  | .less t _ _=>some t
  | .both t _ _=>some t
  | .any t _ _=>some t
  | .odd t _ _=>some t
theorem zq2 {M:Mem} {t:Cel} {v:Int} {d:Nat} {j:Int} (h:some t ≠ some (d,j)):wr M t v d j = M d j:=by
  obtain ⟨a,b⟩:=t
  simp only [wr,upd]
  rw [if_neg]
  rintro ⟨rfl,rfl⟩
  exact h rfl
theorem zox (W:Int) (M:Mem) (k:Int) {r:Rw} {d:Nat} {j:Int} (h:tg r ≠ some (d,j)):(stepM W M k r).1 d j = M d j:=by
  cases r <;> first | rfl | exact zq2 h
theorem zjN (W:Int) {d:Nat} {j:Int}:∀ (rs:List Rw) (M:Mem) (k:Int),(∀ r ∈ rs,tg r ≠ some (d,j)) -> (runM W rs M k).1 d j = M d j
  | [],_,_,_=>rfl
  | r :: rs,M,k,h=>by
    rw [za0,zjN W rs _ _ fun q hq=>h q (List.mem_cons_of_mem _ hq),zox W M k (h r List.mem_cons_self)]
theorem zqz {W:Int} (M:Mem) (k:Int) (hS:0 <= M 115 0):∀ n,(∀ i:Nat,i < n -> 0 <= M 98 i) ->
    (runM W (upTo (fun i=>[Rw.any cS cS (98,i)]) n) M k).2 = k /\ (∀ d j,d ≠ 115 -> (runM W (upTo (fun i=>[Rw.any cS cS (98,i)]) n) M k).1 d j = M d j) /\ 0 <= (runM W (upTo (fun i=>[Rw.any cS cS (98,i)]) n) M k).1 115 0 /\ ((runM W (upTo (fun i=>[Rw.any cS cS (98,i)]) n) M k).1 115 0 = 0 ↔ M 115 0 = 0 /\ ∀ i:Nat,i < n -> M 98 i = 0)
  | 0,_=>⟨rfl,fun _ _ _=>rfl,hS,by simp [upTo,runM]⟩
  | n + 1,h=>by
    obtain ⟨h1,h2,h3,h4⟩:=zqz (W:=W) M k hS n fun i hi=>h i (by omega)
    rw [upTo,zan]
    generalize runM W (upTo (fun i=>[Rw.any cS cS (98,i)]) n) M k = R at *
    obtain ⟨M1,k'⟩:=R
    simp only at *
    have hb:=h n (by omega)
    simp only [runM,stepM,rd,wr,cS,h2 98 n (by decide)]
    have hz:=zmN h3 hb
    refine ⟨h1,fun d j hd=>?_,?_,?_⟩
    · unfold upd
      rw [if_neg (by omega),h2 d j hd]
    · unfold upd
      rw [if_pos ⟨rfl,rfl⟩]
      obtain ⟨x,hx⟩:∃ x:Nat,M1 115 0 = x:=⟨(M1 115 0).toNat,by omega⟩
      obtain ⟨y,hy⟩:∃ y:Nat,M 98 n = y:=⟨(M 98 n).toNat,by omega⟩
      rw [hx,hy,zmQ]
      omega
    · unfold upd
      rw [if_pos ⟨rfl,rfl⟩,hz,h4]
      constructor
      · rintro ⟨⟨a,b⟩,c⟩
        refine ⟨a,fun i hi=>?_⟩
        rcases Nat.lt_or_ge i n with z | z
        · exact b i z
        · rw [show i = n by omega]; exact c
      · rintro ⟨a,b⟩
        exact ⟨⟨a,fun i hi=>b i (by omega)⟩,b n (by omega)⟩
noncomputable def nR (n:Nat):List Rw:=[.set cS 0] ++ upTo (fun i=>[Rw.any cS cS (98,i)]) n ++ [.ask cS,.set (109,0) 1,.less (109,0) (109,0) cZ]
theorem zqU {w:Nat} (hw:1 < w) (n:Nat) (M:Mem) (k:Int) (hz:M 122 0 = 0) (hb:∀ i:Nat,i < n -> 0 <= M 98 i) :
    ((∀ i:Nat,i < n -> M 98 i = 0) -> (runM (2 ^ w) (nR n) M k).1 109 0 = 1) /\ ((¬ ∀ i:Nat,i < n -> M 98 i = 0) -> (runM (2 ^ w) (nR n) M k).1 109 0 = 0):=by
  have hW4:(4:Int) <= 2 ^ w:=by
    have h:(2:Nat) ^ 2 <= 2 ^ w:=Nat.pow_le_pow_right (by omega) (by omega)
    have h2:=pw w
    omega
  have hst:stepM (2 ^ w) M k (.set cS 0) = (wr M cS 0,k):=rfl
  have e:nR n = .set cS 0 :: (upTo (fun i=>[Rw.any cS cS (98,i)]) n ++ [.ask cS,.set (109,0) 1,.less (109,0) (109,0) cZ]):=by simp [nR]
  have u1:wr M cS 0 115 0 = 0:=by simp [wr,upd]
  have u2:∀ (d:Nat) (j:Int),d ≠ 115 -> wr M cS 0 d j = M d j:=fun d j hd=>by
    simp only [wr,upd]; rw [if_neg (fun z=>hd z.1)]
  obtain ⟨h1,h2,h3,h4⟩:=zqz (W:=2 ^ w) (wr M cS 0) k (by rw [u1]; omega) n (fun i hi=>by rw [u2 _ _ (by decide)]; exact hb i hi)
  rw [e,za0,hst,zan]
  simp only at h1 h2 h3 h4 ⊢
  generalize runM (2 ^ w) (upTo (fun i=>[Rw.any cS cS (98,i)]) n) (wr M cS 0) k = R at *
  obtain ⟨M1,k'⟩:=R
  simp only at *
  have hz1:M1 122 0 = 0:=by rw [h2 _ _ (by decide),u2 _ _ (by decide),hz]
  have h5:M1 115 0 = 0 ↔ ∀ i:Nat,i < n -> M 98 i = 0:=by
    rw [h4,u1]
    constructor
    · rintro ⟨_,a⟩ i hi
      rw [<- u2 98 i (by decide)]; exact a i hi
    · intro a
      exact ⟨rfl,fun i hi=>by rw [u2 _ _ (by decide)]; exact a i hi⟩
  rw [<- h5]
  simp only [runM,stepM,rd,wr,upd,cS,cZ,Nat.reduceEqDiff,false_and,if_false,and_self,if_true,hz1]
  constructor
  · intro a
    rw [a]
    show (1 - 0 - 0) % (2 ^ w:Int) = 1
    exact Int.emod_eq_of_lt (by omega) (by omega)
  · intro a
    have:(M1 115 0 == 0) = false:=by simpa using a
    rw [this]
    show (1 - 0 - 1) % (2 ^ w:Int) = 0
    rfl
end WK
namespace WK
open IC PySem
theorem zeZ {W:Int} (hW:0 < W) {s:Int} (s0:0 <= s) (s1:s < 2 * W):0 <= s % W /\ s % W < W /\ 0 <= s / W /\ s / W <= 1 /\ s % W + s / W * W = s:=by
  have d1:=Int.emod_nonneg s (show W ≠ 0 by omega)
  have d2:=Int.emod_lt_of_pos s hW
  have d3:=Int.emod_add_mul_ediv s W
  have d4:0 <= s / W:=Int.ediv_nonneg s0 (by omega)
  have d5:s / W < 2:=Int.ediv_lt_of_lt_mul hW (by omega)
  rw [Int.mul_comm] at d3
  exact ⟨d1,d2,d4,by omega,d3⟩
theorem zgr {W:Int} {M:Mem} {c n:Nat} {v:Int}:valM W (upd M c n v) c (n + 1) = valM W M c n + v * W ^ n:=by
  rw [valM,z9 (M':=M) (c':=c) n fun i hi=>by unfold upd; rw [if_neg (by omega)]]
  unfold upd
  rw [if_pos ⟨rfl,rfl⟩]
theorem zi3 {W:Int} {M:Mem} {c n:Nat} {v:Int} (h:Dg W M c n) (v0:0 <= v) (v1:v < W):Dg W (upd M c n v) c (n + 1):=fun i hi=>by
  unfold upd
  by_cases hin:i = n
  · subst hin; rw [if_pos ⟨rfl,rfl⟩]; exact ⟨v0,v1⟩
  · rw [if_neg (by omega)]; exact h i (by omega)
noncomputable def twR (c n:Nat):List Rw:=upTo (fun J=>[Rw.twice (c,(J:Int)) (c,(J:Int))]) n
theorem zhs {W:Int} (hW:2 <= W) (c:Nat) (M:Mem) (k:Int) (k0:0 <= k) (k1:k <= 1):∀ n,Dg W M c n -> ∃ M' k',runM W (twR c n) M k = (M',k') /\ (∀ d j,(d ≠ c \/ (n:Int) <= j) -> M' d j = M d j) /\ Dg W M' c n /\ 0 <= k' /\ k' <= 1 /\ valM W M' c n + k' * W ^ n = 2 * valM W M c n + k
  | 0,_=>⟨M,k,rfl,fun _ _ _=>rfl,fun i hi=>by omega,k0,k1,by simp [valM]⟩
  | n + 1,ha=>by
    obtain ⟨M1,k',e1,h1,h2,h3,h4,h5⟩:=zhs hW c M k k0 k1 n ha.mono
    obtain ⟨a0,a1⟩:=ha n (by omega)
    obtain ⟨d1,d2,d3,d4,d5⟩:=zeZ (W:=W) (by omega) (s:=2 * M c n + k') (by omega) (by omega)
    refine ⟨upd M1 c n ((2 * M c n + k') % W),(2 * M c n + k') / W,?_,fun d j hd=>?_,zi3 h2 d1 d2,d3,d4,?_⟩
    · rw [twR,upTo,zan]
      show runM W [Rw.twice (c,(n:Int)) (c,(n:Int))] (runM W (twR c n) M k).1 (runM W (twR c n) M k).2 = _
      rw [e1]
      simp only [runM,stepM,rd,wr,h1 c n (.inr (by omega))]
    · unfold upd; rw [if_neg (by omega),h1 d j (by omega)]
    · rw [zgr,valM,Int.pow_succ]
      generalize W ^ n = P at *
      generalize (2 * M c n + k') % W = u at *
      generalize (2 * M c n + k') / W = t at *
      generalize M c (n:Int) = A at *
      have e3:(u + t * W) * P = (2 * A + k') * P:=by rw [d5]
      rw [Int.add_mul,Int.add_mul,Int.mul_assoc t W P,Int.mul_comm W P,Int.mul_assoc 2 A P] at e3
      generalize u * P = x1 at *
      generalize t * (P * W) = x2 at *
      generalize A * P = x3 at *
      generalize k' * P = x4 at *
      omega
noncomputable def lsR (r y n:Nat):List Rw:=upTo (fun J=>[Rw.less (r,(J:Int)) (r,(J:Int)) (y,(J:Int))]) n
theorem zgv {W:Int} (hW:0 < W) {s:Int} (s0:-W <= s) (s1:s < W):0 <= s % W /\ s % W < W /\ 0 <= bi (decide (s < 0)) /\ bi (decide (s < 0)) <= 1 /\ s % W - bi (decide (s < 0)) * W = s:=by
  have d1:=Int.emod_nonneg s (show W ≠ 0 by omega)
  have d2:=Int.emod_lt_of_pos s hW
  refine ⟨d1,d2,(zkK _).1,(zkK _).2,?_⟩
  by_cases hl:s < 0
  · rw [decide_eq_true hl,<- Int.add_emod_right]
    rw [Int.emod_eq_of_lt (by omega) (by omega)]
    show s + W - 1 * W = s
    omega
  · rw [decide_eq_false hl,Int.emod_eq_of_lt (by omega) (by omega)]
    show s - 0 * W = s
    omega
theorem zmx {W:Int} (hW:0 < W) {r y:Nat} (hry:y ≠ r) (M:Mem) (k:Int) (k0:0 <= k) (k1:k <= 1):∀ n,Dg W M r n -> Dg W M y n -> ∃ M' k',runM W (lsR r y n) M k = (M',k') /\ (∀ d j,(d ≠ r \/ (n:Int) <= j) -> M' d j = M d j) /\ Dg W M' r n /\ 0 <= k' /\ k' <= 1 /\ valM W M' r n - k' * W ^ n = valM W M r n - valM W M y n - k
  | 0,_,_=>⟨M,k,rfl,fun _ _ _=>rfl,fun i hi=>by omega,k0,k1,by simp [valM]⟩
  | n + 1,ha,hb=>by
    obtain ⟨M1,k',e1,h1,h2,h3,h4,h5⟩:=zmx hW hry M k k0 k1 n ha.mono hb.mono
    obtain ⟨a0,a1⟩:=ha n (by omega)
    obtain ⟨b0,b1⟩:=hb n (by omega)
    obtain ⟨d1,d2,d3,d4,d5⟩:=zgv (W:=W) hW (s:=M r n - M y n - k') (by omega) (by omega)
    refine ⟨upd M1 r n ((M r n - M y n - k') % W),bi (decide (M r n - M y n - k' < 0)),?_,fun d j hd=>?_,zi3 h2 d1 d2,d3,d4,?_⟩
    · rw [lsR,upTo,zan]
      show runM W [Rw.less (r,(n:Int)) (r,(n:Int)) (y,(n:Int))] (runM W (lsR r y n) M k).1 (runM W (lsR r y n) M k).2 = _
      rw [e1]
      simp only [runM,stepM,rd,wr,h1 r n (.inr (by omega)),h1 y n (.inl hry)]
    · unfold upd; rw [if_neg (by omega),h1 d j (by omega)]
    · rw [zgr,valM,valM,Int.pow_succ]
      generalize W ^ n = P at *
      generalize (M r n - M y n - k') % W = u at *
      generalize bi (decide (M r n - M y n - k' < 0)) = t at *
      generalize M r (n:Int) = A at *
      generalize M y (n:Int) = B at *
      have e3:(u - t * W) * P = (A - B - k') * P:=by rw [d5]
      rw [Int.sub_mul,Int.sub_mul,Int.sub_mul,Int.mul_assoc t W P,Int.mul_comm W P] at e3
      generalize u * P = x1 at *
      generalize t * (P * W) = x2 at *
      generalize A * P = x3 at *
      generalize B * P = x5 at *
      generalize k' * P = x4 at *
      omega
noncomputable abbrev cF:Cel:=(102,0)
noncomputable def adR (r y n:Nat):List Rw:=upTo (fun J=>[Rw.both cT (y,(J:Int)) cF,Rw.sum (r,(J:Int)) (r,(J:Int)) cT]) n
theorem zl6 {w:Nat} {A b:Int} (a0:0 <= A) (a1:A < 2 ^ w) (hb:b = 0 \/ b = 1):Builtin.bitAnd A (b * (2 ^ w - 1)) = b * A:=by
  obtain ⟨x,rfl⟩:∃ n:Nat,A = n:=⟨A.toNat,by omega⟩
  rcases hb with rfl | rfl
  · rw [Int.zero_mul,Int.zero_mul]
    have:=zoV x 0
    simpa using this
  · rw [Int.one_mul,Int.one_mul]
    have hp:=pw w
    have h1:(0:Nat) < 2 ^ w:=Nat.pow_pos (by omega)
    have h2:((2:Int) ^ w - 1) = ((2 ^ w - 1:Nat):Int):=by omega
    rw [h2,zoV,Nat.and_two_pow_sub_one_eq_mod,Nat.mod_eq_of_lt (by omega)]
theorem zng {w:Nat} (hw:1 <= w) {r y:Nat} (hry:y ≠ r) (hr:r ≠ 116 /\ r ≠ 102) (hy:y ≠ 116) (M:Mem) (k b:Int) (k0:0 <= k) (k1:k <= 1) (hb:b = 0 \/ b = 1) (hf:M 102 0 = b * (2 ^ w - 1)):∀ n,Dg (2 ^ w) M r n -> Dg (2 ^ w) M y n -> ∃ M' k',runM (2 ^ w) (adR r y n) M k = (M',k') /\ (∀ d j,d ≠ 116 -> (d ≠ r \/ (n:Int) <= j) -> M' d j = M d j) /\ Dg (2 ^ w) M' r n /\ 0 <= k' /\ k' <= 1 /\ valM (2 ^ w) M' r n + k' * (2 ^ w) ^ n = valM (2 ^ w) M r n + b * valM (2 ^ w) M y n + k
  | 0,_,_=>⟨M,k,rfl,fun _ _ _ _=>rfl,fun i hi=>by omega,k0,k1,by simp [valM]⟩
  | n + 1,ha,hd=>by
    have hW:(0:Int) < 2 ^ w:=Int.pow_pos (by omega)
    obtain ⟨M1,k',e1,h1,h2,h3,h4,h5⟩:=zng hw hry hr hy M k b k0 k1 hb hf n ha.mono hd.mono
    obtain ⟨a0,a1⟩:=ha n (by omega)
    obtain ⟨b0,b1⟩:=hd n (by omega)
    have bB:0 <= b * M y n /\ b * M y n < 2 ^ w:=by rcases hb with rfl | rfl <;> omega
    obtain ⟨d1,d2,d3,d4,d5⟩:=zeZ (W:=2 ^ w) hW (s:=M r n + b * M y n + k') (by omega) (by omega)
    have hT:∀ d j,d ≠ 116 -> upd M1 116 0 (b * M y n) d j = M1 d j:=fun d j h=>by unfold upd; rw [if_neg (by omega)]
    have hv:∀ i:Nat,i < n -> upd M1 116 0 (b * M y n) r i = M1 r i:=fun i _=>hT r i hr.1
    refine ⟨upd (upd M1 116 0 (b * M y n)) r n ((M r n + b * M y n + k') % 2 ^ w),(M r n + b * M y n + k') / 2 ^ w,?_,fun d j h6 h7=>?_,zi3 (fun i hi=>by rw [hv i hi]; exact h2 i hi) d1 d2,d3,d4,?_⟩
    · rw [adR,upTo,zan]
      show runM (2 ^ w) [Rw.both cT (y,(n:Int)) cF,Rw.sum (r,(n:Int)) (r,(n:Int)) cT] (runM (2 ^ w) (adR r y n) M k).1 (runM (2 ^ w) (adR r y n) M k).2 = _
      rw [e1]
      have hff:M1 102 0 = b * (2 ^ w - 1):=by rw [h1 102 0 (by decide) (.inl (fun z=>hr.2 z.symm)),hf]
      have hyy:M1 y n = M y n:=h1 y n hy (.inl hry)
      have hrr:upd M1 116 0 (b * M y n) r n = M r n:=by rw [hT r n hr.1,h1 r n hr.1 (.inr (by omega))]
      have htt:upd M1 116 0 (b * M y n) 116 0 = b * M y n:=by unfold upd; rw [if_pos ⟨rfl,rfl⟩]
      simp only [runM,stepM,rd,wr,cT,cF,hff,hyy,zl6 b0 b1 hb,hrr,htt]
    · unfold upd; rw [if_neg (by omega),if_neg (by omega),h1 d j h6 (by omega)]
    · rw [zgr,z9 (M':=M1) (c':=r) n hv,valM,valM,Int.pow_succ]
      generalize ((2:Int) ^ w) ^ n = P at *
      generalize (M r n + b * M y n + k') % 2 ^ w = u at *
      generalize (M r n + b * M y n + k') / 2 ^ w = t at *
      generalize M r (n:Int) = A at *
      generalize M y (n:Int) = B at *
      generalize (2:Int) ^ w = W at *
      have e3:(u + t * W) * P = (A + b * B + k') * P:=by rw [d5]
      rw [Int.add_mul,Int.add_mul,Int.add_mul,Int.mul_assoc t W P,Int.mul_comm W P,Int.mul_assoc b B P] at e3
      rw [Int.mul_add]
      generalize u * P = x1 at *
      generalize t * (P * W) = x2 at *
      generalize A * P = x3 at *
      generalize b * (B * P) = x5 at *
      generalize k' * P = x4 at *
      generalize b * valM W M y n = x6 at *
      omega
noncomputable def divRnd (y q r n:Nat):List Rw:=.mark 0 :: (twR 101 n ++ (twR r (n + 1) ++ (lsR r y n ++ (.less (r,(n:Int)) (r,(n:Int)) cZ :: .less cF cZ cZ :: .mark 0 :: (adR r y n ++ (.sum (r,(n:Int)) (r,(n:Int)) cZ :: .bare cF cF :: .ask cF :: twR q n))))))
structure Dv (w n y q r:Nat) (M0 M:Mem) (x Y:Int) (I:Nat):Prop where
  de:Dg (2 ^ w) M 101 n
  dr:Dg (2 ^ w) M r (n + 1)
  dq:Dg (2 ^ w) M q n
  keep:∀ d j,d ≠ 101 -> d ≠ r -> d ≠ q -> d ≠ 116 -> d ≠ 102 -> M d j = M0 d j
  rest:valM (2 ^ w) M r (n + 1) < Y
  sent:valM (2 ^ w) M q n * Y * (2 ^ w) ^ n + valM (2 ^ w) M r (n + 1) * (2 ^ w) ^ n + valM (2 ^ w) M 101 n = x * 2 ^ I
end WK
namespace WK
open IC PySem
theorem zq9 {w n:Nat}:((2:Int) ^ w) ^ n = 2 ^ (w * n):=by rw [Int.pow_mul]
structure Lt (y q r:Nat):Prop where
  yr:y ≠ r
  yq:y ≠ q
  qr:q ≠ r
  hy:y ≠ 101 /\ y ≠ 116 /\ y ≠ 102 /\ y ≠ 122
  hq:q ≠ 101 /\ q ≠ 116 /\ q ≠ 102 /\ q ≠ 122
  hr:r ≠ 101 /\ r ≠ 116 /\ r ≠ 102 /\ r ≠ 122
theorem zle {W R Y P:Int} (hW:2 <= W) (hP:0 < P) (hR:R < Y) (hY:Y <= P):2 * R + 1 < P * W:=by
  have:=Int.mul_le_mul_of_nonneg_left hW (show 0 <= P by omega)
  omega
theorem zm5 {w n y q r:Nat} (hw:1 < w) (L:Lt y q r) {M0 M:Mem} {x Y k:Int} {I:Nat} (hz:M0 122 0 = 0) (hD:Dg (2 ^ w) M0 y n) (hY:valM (2 ^ w) M0 y n = Y) (x1:x < (2 ^ w:Int) ^ n) (hI:I < w * n) (h:Dv w n y q r M0 M x Y I) :
    ∃ M' k',runM (2 ^ w) (divRnd y q r n) M k = (M',k') /\ Dv w n y q r M0 M' x Y (I + 1):=by
  have hW4:(4:Int) <= 2 ^ w:=by
    have h:(2:Nat) ^ 2 <= 2 ^ w:=Nat.pow_le_pow_right (by omega) (by omega)
    have h2:=pw w
    omega
  have hW:(0:Int) < 2 ^ w:=by omega
  have hP:(0:Int) < (2 ^ w) ^ n:=Int.pow_pos hW
  obtain ⟨y0,y1⟩:=zaL hW n hD
  rw [hY] at y0 y1
  obtain ⟨r0,r1⟩:=zaL hW (n + 1) h.dr
  have hzM:M 122 0 = 0:=by rw [h.keep 122 0 (by decide) (fun e=>L.hr.2.2.2 e.symm) (fun e=>L.hq.2.2.2 e.symm) (by decide) (by decide),hz]
  have hyM:∀ j,M y j = M0 y j:=fun j=>h.keep y j L.hy.1 L.yr L.yq L.hy.2.1 L.hy.2.2.1
  -- e doubled
  obtain ⟨M1,k1,e1,o1,g1,p1,p1',v1⟩:=zhs (W:=2 ^ w) (by omega) 101 M 0 (by omega) (by omega) n h.de
  -- the rest doubled
  have q1:∀ j,M1 r j = M r j:=fun j=>o1 r j (.inl L.hr.1)
  obtain ⟨M2,k2,e2,o2,g2,p2,p2',v2⟩:=zhs (W:=2 ^ w) (by omega) r M1 k1 p1 p1' (n + 1) (fun i hi=>by rw [q1]; exact h.dr i hi)
  rw [z9 (M:=M1) (M':=M) (c:=r) (c':=r) (n + 1) fun i _=>q1 i] at v2
  obtain ⟨r20,r21⟩:=zaL hW (n + 1) g2
  have hlt:=zle (W:=2 ^ w) (by omega) hP h.rest (Int.le_of_lt y1)
  have hk2:k2 = 0:=by
    rcases (by omega:k2 = 0 \/ k2 = 1) with z | z
    · exact z
    · subst z
      rw [Int.pow_succ] at v2 r21
      omega
  subst hk2
  rw [Int.zero_mul,Int.add_zero] at v2
  -- y taken away
  have q2:∀ j,M2 y j = M0 y j:=fun j=>by rw [o2 y j (.inl L.yr),o1 y j (.inl L.hy.1),hyM]
  have z2:M2 122 0 = 0:=by rw [o2 122 0 (.inl (fun e=>L.hr.2.2.2 e.symm)),o1 122 0 (.inl (by decide)),hzM]
  obtain ⟨M3,k3,e3,o3,g3,p3,p3',v3⟩:=zmx (W:=2 ^ w) hW L.yr M2 0 (by omega) (by omega) n g2.mono (fun i hi=>by rw [q2]; exact hD i hi)
  rw [z9 (M:=M2) (M':=M0) (c:=y) (c':=y) n fun i _=>q2 i,hY] at v3
  have t3:M3 r n = M2 r n:=o3 r n (.inr (by omega))
  obtain ⟨t0,t1⟩:=g2 n (by omega)
  obtain ⟨d1,d2,d3,d4,d5⟩:=zgv (W:=2 ^ w) hW (s:=M2 r n - 0 - k3) (by omega) (by omega)
  have z3:M3 122 0 = 0:=by rw [o3 122 0 (.inl (fun e=>L.hr.2.2.2 e.symm)),z2]
  have e4:stepM (2 ^ w) M3 k3 (.less (r,(n:Int)) (r,(n:Int)) cZ) = (upd M3 r n ((M2 r n - 0 - k3) % 2 ^ w),bi (decide (M2 r n - 0 - k3 < 0))):=by
    simp only [stepM,rd,wr,cZ,t3,z3]
  generalize hb:bi (decide (M2 r n - 0 - k3 < 0)) = b at *
  generalize hu:(M2 r n - 0 - k3) % 2 ^ w = u at *
  have g4:Dg (2 ^ w) (upd M3 r n u) r (n + 1):=zi3 g3 d1 d2
  have v4:valM (2 ^ w) (upd M3 r n u) r (n + 1) - b * (2 ^ w) ^ (n + 1) = valM (2 ^ w) M2 r (n + 1) - Y:=by
    rw [zgr,valM,Int.pow_succ]
    generalize ((2:Int) ^ w) ^ n = P at *
    have e9:(u - b * 2 ^ w) * P = (M2 r n - 0 - k3) * P:=by rw [d5]
    rw [Int.sub_mul,Int.sub_mul,Int.sub_mul,Int.zero_mul,Int.mul_assoc b (2 ^ w) P,Int.mul_comm (2 ^ w) P] at e9
    generalize u * P = a1 at *
    generalize b * (P * 2 ^ w) = a2 at *
    generalize M2 r n * P = a3 at *
    generalize k3 * P = a4 at *
    omega
  have o4:∀ d j,d ≠ r -> upd M3 r n u d j = M2 d j:=fun d j hd=>by unfold upd; rw [if_neg (by omega),o3 d j (.inl hd)]
  generalize upd M3 r n u = M4 at *
  obtain ⟨r40,r41⟩:=zaL hW (n + 1) g4
  have hb01:b = 0 \/ b = 1:=by omega
  -- the mask
  have z4:M4 122 0 = 0:=by rw [o4 122 0 (fun e=>L.hr.2.2.2 e.symm),z2]
  have e5:stepM (2 ^ w) M4 b (.less cF cZ cZ) = (upd M4 102 0 (b * (2 ^ w - 1)),b):=by
    simp only [stepM,rd,wr,cF,cZ,z4]
    rcases hb01 with rfl | rfl
    · simp [bi]
    · have:((0:Int) - 0 - 1) % 2 ^ w = 1 * (2 ^ w - 1):=by
        rw [<- Int.add_emod_right,Int.emod_eq_of_lt (by omega) (by omega)]; omega
      rw [this]; rfl
  have o5:∀ d j,d ≠ 102 -> upd M4 102 0 (b * (2 ^ w - 1)) d j = M4 d j:=fun d j hd=>by unfold upd; rw [if_neg (by omega)]
  have f5:upd M4 102 0 (b * (2 ^ w - 1)) 102 0 = b * (2 ^ w - 1):=by unfold upd; rw [if_pos ⟨rfl,rfl⟩]
  generalize upd M4 102 0 (b * (2 ^ w - 1)) = M5 at *
  have q5:∀ j,M5 r j = M4 r j:=fun j=>o5 r j L.hr.2.2.1
  have y5:∀ j,M5 y j = M0 y j:=fun j=>by rw [o5 y j L.hy.2.2.1,o4 y j L.yr,q2]
  -- y put back
  obtain ⟨M6,k6,e6,o6,g6,p6,p6',v6⟩:=zng (w:=w) (by omega) L.yr ⟨L.hr.2.1,L.hr.2.2.1⟩ L.hy.2.1 M5 0 b (by omega) (by omega) hb01 f5 n (fun i hi=>by rw [q5]; exact g4 i (by omega)) (fun i hi=>by rw [y5]; exact hD i hi)
  rw [z9 (M:=M5) (M':=M4) (c:=r) (c':=r) n fun i _=>q5 i,z9 (M:=M5) (M':=M0) (c:=y) (c':=y) n fun i _=>y5 i,hY] at v6
  have t6:M6 r n = M4 r n:=by rw [o6 r n L.hr.2.1 (.inr (by omega)),q5]
  obtain ⟨s0,s1⟩:=g4 n (by omega)
  obtain ⟨c1,c2,c3,c4,c5⟩:=zeZ (W:=2 ^ w) hW (s:=M4 r n + 0 + k6) (by omega) (by omega)
  have z6:M6 122 0 = 0:=by rw [o6 122 0 (by decide) (.inl (fun e=>L.hr.2.2.2 e.symm)),o5 122 0 (by decide),z4]
  have e7:stepM (2 ^ w) M6 k6 (.sum (r,(n:Int)) (r,(n:Int)) cZ) = (upd M6 r n ((M4 r n + 0 + k6) % 2 ^ w),(M4 r n + 0 + k6) / 2 ^ w):=by
    simp only [stepM,rd,wr,cZ,t6,z6]
  generalize (M4 r n + 0 + k6) / 2 ^ w = c at *
  generalize (M4 r n + 0 + k6) % 2 ^ w = u7 at *
  have g7:Dg (2 ^ w) (upd M6 r n u7) r (n + 1):=zi3 g6 c1 c2
  have v7:valM (2 ^ w) (upd M6 r n u7) r (n + 1) + c * (2 ^ w) ^ (n + 1) = valM (2 ^ w) M4 r (n + 1) + b * Y:=by
    rw [zgr,valM,Int.pow_succ]
    generalize ((2:Int) ^ w) ^ n = P at *
    have e9:(u7 + c * 2 ^ w) * P = (M4 r n + 0 + k6) * P:=by rw [c5]
    rw [Int.add_mul,Int.add_mul,Int.add_mul,Int.zero_mul,Int.mul_assoc c (2 ^ w) P,Int.mul_comm (2 ^ w) P] at e9
    generalize u7 * P = a1 at *
    generalize c * (P * 2 ^ w) = a2 at *
    generalize M4 r n * P = a3 at *
    generalize k6 * P = a4 at *
    generalize b * Y = a5 at *
    omega
  have o7:∀ d j,d ≠ r -> d ≠ 116 -> d ≠ 102 -> upd M6 r n u7 d j = M2 d j:=fun d j hd h1 h2=>by
    unfold upd; rw [if_neg (by omega),o6 d j h1 (.inl hd),o5 d j h2,o4 d j hd]
  have f7:upd M6 r n u7 102 0 = b * (2 ^ w - 1):=by
    unfold upd; rw [if_neg (fun z=>L.hr.2.2.1 z.1.symm),o6 102 0 (by decide) (.inl (fun e=>L.hr.2.2.1 e.symm)),f5]
  generalize upd M6 r n u7 = M7 at *
  obtain ⟨r70,r71⟩:=zaL hW (n + 1) g7
  -- the rest behind
  have hv2:valM (2 ^ w) M2 r (n + 1) = 2 * valM (2 ^ w) M r (n + 1) + k1:=v2
  have hPW:(2 ^ w:Int) ^ n <= (2 ^ w) ^ (n + 1):=by
    rw [Int.pow_succ]
    have:=Int.mul_le_mul_of_nonneg_left (show (1:Int) <= 2 ^ w by omega) (show (0:Int) <= (2 ^ w) ^ n by omega)
    omega
  have hrest:valM (2 ^ w) M7 r (n + 1) = 2 * valM (2 ^ w) M r (n + 1) + k1 - (1 - b) * Y /\ valM (2 ^ w) M7 r (n + 1) < Y:=by
    have hrl:=h.rest
    generalize ((2:Int) ^ w) ^ (n + 1) = Q at *
    rcases hb01 with rfl | rfl
    · rcases (by omega:c = 0 \/ c = 1) with rfl | rfl <;> omega
    · rcases (by omega:c = 0 \/ c = 1) with rfl | rfl <;> omega
  -- the mask bared and asked
  have e8:stepM (2 ^ w) M7 c (.bare cF cF) = (upd M7 102 0 ((1 - b) * (2 ^ w - 1)),c):=by
    simp only [stepM,rd,wr,cF,f7]
    congr 2
    rcases hb01 with rfl | rfl <;> omega
  have o8:∀ d j,d ≠ 102 -> upd M7 102 0 ((1 - b) * (2 ^ w - 1)) d j = M7 d j:=fun d j hd=>by unfold upd; rw [if_neg (by omega)]
  have f8:upd M7 102 0 ((1 - b) * (2 ^ w - 1)) 102 0 = (1 - b) * (2 ^ w - 1):=by unfold upd; rw [if_pos ⟨rfl,rfl⟩]
  generalize upd M7 102 0 ((1 - b) * (2 ^ w - 1)) = M8 at *
  have e9:stepM (2 ^ w) M8 c (.ask cF) = (M8,1 - b):=by
    simp only [stepM,rd,cF,f8]
    rcases hb01 with rfl | rfl
    · have:¬ ((1 - 0) * ((2:Int) ^ w - 1) = 0):=by omega
      rw [beq_eq_false_iff_ne.2 this]; rfl
    · simp [bi]
  have q8:∀ j,M8 q j = M q j:=fun j=>by
    rw [o8 q j L.hq.2.2.1,o7 q j L.qr L.hq.2.1 L.hq.2.2.1,o2 q j (.inl L.qr),o1 q j (.inl L.hq.1)]
  obtain ⟨M9,k9,ea,o9,g9,p9,p9',v9⟩:=zhs (W:=2 ^ w) (by omega) q M8 (1 - b) (by omega) (by omega) n (fun i hi=>by rw [q8]; exact h.dq i hi)
  rw [z9 (M:=M8) (M':=M) (c:=q) (c':=q) n fun i _=>q8 i] at v9
  obtain ⟨u0,u1⟩:=zaL hW n g9
  obtain ⟨w0,w1⟩:=zaL hW n h.dq
  obtain ⟨ee0,ee1⟩:=zaL hW n g1
  have hs:=h.sent
  have ve:valM (2 ^ w) M9 101 n = valM (2 ^ w) M1 101 n:=z9 n fun i _=>by
    rw [o9 101 i (.inl (fun e=>L.hq.1 e.symm)),o8 101 i (by decide),o7 101 i (fun e=>L.hr.1 e.symm) (by decide) (by decide),o2 101 i (.inl (fun e=>L.hr.1 e.symm))]
  have vr:valM (2 ^ w) M9 r (n + 1) = valM (2 ^ w) M7 r (n + 1):=z9 (n + 1) fun i _=>by
    rw [o9 r i (.inl (fun e=>L.qr e.symm)),o8 r i L.hr.2.2.1]
  -- the sentence
  have key:(2 * valM (2 ^ w) M q n + (1 - b)) * Y * (2 ^ w) ^ n + valM (2 ^ w) M7 r (n + 1) * (2 ^ w) ^ n + valM (2 ^ w) M1 101 n = x * 2 ^ (I + 1):=by
    rw [hrest.1,Int.pow_succ,<- Int.mul_assoc,<- hs]
    generalize ((2:Int) ^ w) ^ n = P at *
    generalize valM (2 ^ w) M q n = A at *
    generalize valM (2 ^ w) M r (n + 1) = B at *
    have f1:(2 * A + (1 - b)) * Y * P = 2 * (A * Y * P) + (1 - b) * Y * P:=by
      rw [Int.add_mul,Int.add_mul,Int.mul_assoc 2 A Y,Int.mul_assoc 2 (A * Y) P]
    have f2:(2 * B + k1 - (1 - b) * Y) * P = 2 * (B * P) + k1 * P - (1 - b) * Y * P:=by
      rw [Int.sub_mul,Int.add_mul,Int.mul_assoc 2 B P]
    rw [f1,f2]
    generalize A * Y * P = a1 at *
    generalize B * P = a2 at *
    generalize (1 - b) * Y * P = a3 at *
    generalize k1 * P = a4 at *
    omega
  -- no two goes out of the quotient
  have hk9:k9 = 0:=by
    rcases (by omega:k9 = 0 \/ k9 = 1) with z | z
    · exact z
    · exfalso
      subst z
      have hle:(2:Int) ^ (I + 1) <= (2 ^ w) ^ n:=by
        rw [zq9]
        exact_mod_cast Nat.pow_le_pow_right (n:=2) (by omega) (show I + 1 <= w * n by omega)
      have h20:(0:Int) < 2 ^ (I + 1):=Int.pow_pos (by omega)
      have hYp:1 <= Y:=by have:=h.rest; omega
      generalize ((2:Int) ^ w) ^ n = P at *
      rw [<- v9] at key
      generalize valM (2 ^ w) M9 q n = A at *
      have a1:P * P <= (A + 1 * P) * Y * P:=by
        have b1:P <= (A + 1 * P) * Y:=by
          have:=Int.mul_le_mul_of_nonneg_left hYp (show 0 <= A + 1 * P by omega)
          omega
        exact Int.mul_le_mul_of_nonneg_right b1 (by omega)
      have a2:0 <= valM (2 ^ w) M7 r (n + 1) * P:=Int.mul_nonneg r70 (by omega)
      have a3:x * 2 ^ (I + 1) <= (P - 1) * 2 ^ (I + 1):=Int.mul_le_mul_of_nonneg_right (by omega) (by omega)
      have a4:(P - 1) * 2 ^ (I + 1) <= (P - 1) * P:=Int.mul_le_mul_of_nonneg_left hle (by omega)
      have a5:(P - 1) * P = P * P - P:=by rw [Int.sub_mul,Int.one_mul]
      omega
  subst hk9
  rw [Int.zero_mul,Int.add_zero] at v9
  rw [<- v9] at key
  refine ⟨M9,0,?_,⟨fun i hi=>?_,fun i hi=>?_,g9,fun d j h1 h2 h3 h4 h5=>?_,?_,?_⟩⟩
  · have em:stepM (2 ^ w) M k (.mark 0) = (M,0):=rfl
    have em2:stepM (2 ^ w) M5 b (.mark 0) = (M5,0):=rfl
    rw [divRnd,za0,em]
    simp only
    rw [zan,e1,zan]
    simp only
    rw [e2,zan]
    simp only
    rw [e3,za0,e4,za0]
    simp only
    rw [e5,za0,em2,zan]
    simp only
    rw [e6,za0,e7,za0]
    simp only
    rw [e8,za0,e9]
    simp only
    rw [ea]
  · rw [o9 101 i (.inl (fun e=>L.hq.1 e.symm)),o8 101 i (by decide),o7 101 i (fun e=>L.hr.1 e.symm) (by decide) (by decide),o2 101 i (.inl (fun e=>L.hr.1 e.symm))]
    exact g1 i hi
  · rw [o9 r i (.inl (fun e=>L.qr e.symm)),o8 r i L.hr.2.2.1]
    exact g7 i hi
  · rw [o9 d j (.inl h3),o8 d j h5,o7 d j h2 h4 h5,o2 d j (.inl h2),o1 d j (.inl h1)]
    exact h.keep d j h1 h2 h3 h4 h5
  · rw [vr]; exact hrest.2
  · rw [ve,vr]; exact key
theorem zhd {w n y q r:Nat} (hw:1 < w) (L:Lt y q r) {M0 M:Mem} {x Y k:Int} (hz:M0 122 0 = 0) (hD:Dg (2 ^ w) M0 y n) (hY:valM (2 ^ w) M0 y n = Y) (x1:x < (2 ^ w:Int) ^ n) (h:Dv w n y q r M0 M x Y 0) :
    ∀ I:Nat,I <= w * n -> ∃ M' k',runM (2 ^ w) (upTo (fun _=>divRnd y q r n) I) M k = (M',k') /\ Dv w n y q r M0 M' x Y I
  | 0,_=>⟨M,k,rfl,h⟩
  | I + 1,hI=>by
    obtain ⟨M1,k1,e1,h1⟩:=zhd hw L hz hD hY x1 h I (by omega)
    obtain ⟨M2,k2,e2,h2⟩:=zm5 hw L (k:=k1) hz hD hY x1 (by omega) h1
    refine ⟨M2,k2,?_,h2⟩
    rw [upTo,zan,e1]
    exact e2
theorem znM {w n y q r:Nat} (hw:1 < w) {M0 M:Mem} {x Y:Int} (x0:0 <= x) (h:Dv w n y q r M0 M x Y (w * n)) (hYP:Y <= (2 ^ w:Int) ^ n):valM (2 ^ w) M q n = x / Y /\ valM (2 ^ w) M r n = x % Y /\ M r n = 0:=by
  have hW:(0:Int) < 2 ^ w:=Int.pow_pos (by omega)
  have hP:(0:Int) < (2 ^ w) ^ n:=Int.pow_pos hW
  obtain ⟨r0,r1⟩:=zaL hW (n + 1) h.dr
  obtain ⟨a0,a1⟩:=zaL hW n h.de
  obtain ⟨b0,b1⟩:=zaL hW n h.dr.mono
  obtain ⟨t0,t1⟩:=h.dr n (by omega)
  have hs:=h.sent
  have hr:=h.rest
  rw [<- zq9] at hs
  have htop:M r n = 0:=by
    rw [valM] at hr
    rcases (by omega:M r n = 0 \/ 1 <= M r n) with z | z
    · exact z
    · have:=Int.mul_le_mul_of_nonneg_right z (show (0:Int) <= (2 ^ w) ^ n by omega)
      omega
  have hv:valM (2 ^ w) M r (n + 1) = valM (2 ^ w) M r n:=by rw [valM,htop]; omega
  rw [hv] at hs hr
  generalize ((2:Int) ^ w) ^ n = P at *
  generalize valM (2 ^ w) M q n = A at *
  generalize valM (2 ^ w) M r n = B at *
  generalize valM (2 ^ w) M 101 n = E at *
  have e0:E = 0:=by
    have h1:E = (x - A * Y - B) * P:=by
      rw [Int.sub_mul,Int.sub_mul]; omega
    have h2:E % P = E:=Int.emod_eq_of_lt a0 a1
    rw [<- h2,h1,Int.mul_emod_left]
  subst e0
  have hx:A * Y + B = x:=by
    have h1:(A * Y + B) * P = x * P:=by rw [Int.add_mul]; omega
    exact Int.eq_of_mul_eq_mul_right (by omega) h1
  have hYp:0 < Y:=by omega
  refine ⟨?_,?_,htop⟩
  · rw [<- hx,Int.add_comm,Int.add_mul_ediv_right _ _ (by omega),Int.ediv_eq_zero_of_lt b0 hr,Int.zero_add]
  · rw [<- hx,Int.add_comm,Int.add_mul_emod_self_right,Int.emod_eq_of_lt b0 hr]
end WK
namespace WK
open IC PySem
theorem zop {c:Cl} {N acc lo:Int} {st:Store}:exs c [some (.int N),some (.int acc),some (.int lo)] st (.cons (.asg (.n 1) (.bin .mul (.cst (.int 2)) (.var 1))) .nil) = .nx [some (.int N),some (.int (2 * acc)),some (.int lo)] st:=by
  simp only [xs_nil,xs_cons,x_asg,thenF,nxO,ev.eq_1,ev.eq_2,ev.eq_3,R.bind,R.fl,bindT,binV,binI,CMulB,toR,List.set_cons_zero,List.set_cons_succ,List.getElem?_cons_zero,List.getElem?_cons_succ]
  simp
theorem zgd (k n:Nat) (hn:n < 1000) (st:Store):callT T (k + 1) zf5 [.int n] st = .ok (.int (2 ^ n)) st:=by
  obtain ⟨ρ',st',h,u,e1,e2⟩:=zeL (call:=callT T k) (t:=.n 2) (b:=.cons (.asg (.n 1) (.bin .mul (.cst (.int 2)) (.var 1))) .nil) (fun i ρ st=>∃ u,ρ = [some (.int n),some (.int (2 ^ i)),u] /\ st = []) (rangeL n 0 1) 0 [some (.int n),some (.int 1),none] [] ⟨_,rfl,rfl⟩ (by
    rintro j x ρ st hx ⟨u,rfl,rfl⟩
    have hx:∃ i,x = .int i:=by
      have:∀ (n:Nat) (a d:Int) (j:Nat) x,(rangeL n a d)[j]? = some x -> ∃ i,x = .int i:=by
        intro n
        induction n with
        | zero=>intro a d j x h; simp [rangeL] at h
        | succ n ih =>
          intro a d j x h
          cases j with
          | zero=>simp [rangeL] at h; exact ⟨a,h.symm⟩
          | succ j=>simp [rangeL] at h; exact ih _ _ _ _ h
      exact this _ _ _ _ _ hx
    obtain ⟨i,rfl⟩:=hx
    exact ⟨_,_,_,rfl,zop,_,by rw [Int.pow_succ,Int.mul_comm],rfl⟩)
  have hl:(rangeL n 0 1).length = n:=by
    have:∀ (n:Nat) (a d:Int),(rangeL n a d).length = n:=by
      intro n
      induction n with
      | zero=>intro a d; rfl
      | succ n ih=>intro a d; simp [rangeL,ih]
    exact this _ _ _
  rw [hl,Nat.zero_add] at e1
  subst e1 e2
  rw [callT,show T zf5 = some zem from rfl]
  simp only [zem,List.length_cons,List.length_nil,if_true,noLocs,noLoc,Bool.and_self,List.map_cons,List.map_nil,Nat.reduceSub,List.replicate,List.cons_append,List.nil_append,xs_cons,xs_nil,x_asg,zbh,x_ret,thenF,nxO,ev.eq_1,ev.eq_2,R.fl,bindT,List.set_cons_zero,List.set_cons_succ,evi,R.bind,List.getElem?_cons_zero,rng1,toL]
  simp only [show (n:Int).natAbs < 1000000000 by omega,if_true,Int.toNat_natCast,h]
  simp [noLoc]
end WK
namespace WK
open IC PySem
theorem mb1 (x:Int):(x % 2147483647).natAbs < 18446744073709551616:=by omega
theorem mb2 (x:Int):(x % 2147483629).natAbs < 18446744073709551616:=by omega
theorem mb3 (x:Int):(x % 2147483587).natAbs < 18446744073709551616:=by omega
theorem mb4 (x:Int):(x % 2147483579).natAbs < 18446744073709551616:=by omega
theorem mb5 (x:Int):(x % 2147483563).natAbs < 18446744073709551616:=by omega
noncomputable def primes:PV:=.tup [.int 2147483647,.int 2147483629,.int 2147483587,.int 2147483579,.int 2147483563]
noncomputable def mixB:Css:=match f_qmixed.body with
  | .cons _ (.cons _ (.cons (.for _ _ b) _))=>b
  | _=>.nil
theorem zn1 {c:Cl} {s num:Int} {u5 u6 u7:Option PV} (i:Nat) (p:Int) (h:(i,p) ∈ [(0,(2147483647:Int)),(1,2147483629),(2,2147483587),(3,2147483579),(4,2147483563)]) :
    ∃ num' v5 v6 v7,exs c [some (.int s),some primes,some (.int num),some (.int i),some (.int p),u5,u6,u7] [] mixB = .nx [some (.int s),some primes,some (.int num'),some (.int i),some (.int p),v5,v6,v7] []:=by
  simp only [List.mem_cons,Prod.mk.injEq,List.not_mem_nil,or_false] at h
  rcases h with ⟨rfl,rfl⟩ | ⟨rfl,rfl⟩ | ⟨rfl,rfl⟩ | ⟨rfl,rfl⟩ | ⟨rfl,rfl⟩
  all_goals
    simp only [mixB,f_qmixed,xs_nil,xs_cons,x_asg,thenF,nxO,ev.eq_1,ev.eq_2,ev.eq_3,ev.eq_11,ev.eq_16,evs,R.bind,R.fl,bindT,binV,binI,CMulB,toR,List.set_cons_zero,List.set_cons_succ,List.getElem?_cons_zero,List.getElem?_cons_succ,idxV,idxI,at?,ixI,mb1,mb2,mb3,mb4,mb5,sizeMax]
    simp [mb1,mb2,mb3,mb4,mb5]
end WK
namespace WK
open IC PySem
noncomputable def mixL:List PV:=[.tup [.int 0,.int 2147483647],.tup [.int 1,.int 2147483629],.tup [.int 2,.int 2147483587],.tup [.int 3,.int 2147483579],.tup [.int 4,.int 2147483563]]
theorem mixed (k:Nat) (s:Int) (st:Store):∃ num,callT T (k + 1) zku [.int s] st = .ok (.int num) st:=by
  obtain ⟨ρ',st',h,num,a,b,c,d,e,e1,e2⟩:=zeL (call:=callT T k) (t:=.t [3,4]) (b:=mixB) (fun _ ρ st=>∃ num a b c d e,ρ = [some (.int s),some primes,some (.int num),a,b,c,d,e] /\ st = []) mixL 0 [some (.int s),some primes,some (.int 0),none,none,none,none,none] [] ⟨_,_,_,_,_,_,rfl,rfl⟩ (by
    rintro j x ρ st hx ⟨num,a,b,c,d,e,rfl,rfl⟩
    have hx:=List.mem_of_getElem? hx
    have hx:∃ i p,x = .tup [.int ((i:Nat):Int),.int p] /\ (i,p) ∈ [(0,(2147483647:Int)),(1,2147483629),(2,2147483587),(3,2147483579),(4,2147483563)]:=by
      simp only [mixL,List.mem_cons,List.not_mem_nil,or_false] at hx
      rcases hx with rfl | rfl | rfl | rfl | rfl
      · exact ⟨0,_,rfl,by simp⟩
      · exact ⟨1,_,rfl,by simp⟩
      · exact ⟨2,_,rfl,by simp⟩
      · exact ⟨3,_,rfl,by simp⟩
      · exact ⟨4,_,rfl,by simp⟩
    obtain ⟨i,p,rfl,hm⟩:=hx
    obtain ⟨num',v5,v6,v7,hh⟩:=zn1 (c:=callT T k) (s:=s) (num:=num) (u5:=c) (u6:=d) (u7:=e) i p hm
    exact ⟨_,_,_,rfl,hh,_,_,_,_,_,_,rfl,rfl⟩)
  subst e1 e2
  refine ⟨num,?_⟩
  rw [callT]
  have hb:f_qmixed.body = .cons (.asg (.n 1) (.tup (.cons (.cst (.int 2147483647)) (.cons (.cst (.int 2147483629)) (.cons (.cst (.int 2147483587)) (.cons (.cst (.int 2147483579)) (.cons (.cst (.int 2147483563)) .nil))))))) (.cons (.asg (.n 2) (.cst (.int 0))) (.cons (.for (.t [3,4]) (.enum (.var 1)) mixB) (.cons (.ret (.var 2)) .nil))):=rfl
  have hT:T zku = some ⟨1,8,true,f_qmixed.body⟩:=rfl
  have hp:PV.tup [.int 2147483647,.int 2147483629,.int 2147483587,.int 2147483579,.int 2147483563] = primes:=rfl
  rw [hT,hb]
  have h5:ev (callT T k) [some (.int s),none,none,none,none,none,none,none] [] (.tup (.cons (.cst (.int 2147483647)) (.cons (.cst (.int 2147483629)) (.cons (.cst (.int 2147483587)) (.cons (.cst (.int 2147483579)) (.cons (.cst (.int 2147483563)) .nil)))))) = .ok primes []:=by
    simp [ev.eq_1,ev.eq_11,evs,R.bind,sizeMax,primes]
  have he:evi (callT T k) [some (.int s),some primes,some (.int 0),none,none,none,none,none] [] (.enum (.var 1)) = .ok mixL []:=by
    simp [evi,ev.eq_2,R.bind,primes,pairsUp,mixL]
  simp only [List.length_cons,List.length_nil,if_true,noLocs,noLoc,Bool.and_self,List.map_cons,List.map_nil,Nat.reduceSub,List.replicate,List.cons_append,List.nil_append,xs_cons,xs_nil,x_asg,zbh,x_ret,h5,R.fl,bindT,nxO,thenF,List.set_cons_zero,List.set_cons_succ,ev.eq_1,he,h,ev.eq_2,List.getElem?_cons_zero,List.getElem?_cons_succ]
end WK
namespace WK
open IC PySem
theorem rdS {st:Store} {n:Nat} {o x:Ob} (h:st[n]? = some o):(st.set n x)[n]? = some x:=by
  have:n < st.length:=by
    rcases Nat.lt_or_ge n st.length with h1 | h1
    · exact h1
    · rw [List.getElem?_eq_none h1] at h; cases h
  rw [List.getElem?_set_self this]
theorem fill (k n:Nat) (ns:List Int) (hns:ns.length <= 1000) (a p:Int) (ha:0 <= a) (f:Bool) (st:Store) (h:st[n]? = some (.lst [.lst (ns.map .int),.int a,.int p,.bl f])) :
    ∃ p' f',callT T (k + 2) zlR [.loc n] st = .ok .non (st.set n (.lst [.lst (ns.map .int),.int (a + 1),.int p',.bl f'])):=by
  rw [callT,show T zlR = some zec from rfl]
  by_cases hn:ns = []
  · subst hn
    obtain ⟨q,hq⟩:=mixed k (31 * a + 7) (st.set n (.lst [.lst [],.int (a + 1),.int p,.bl true]))
    have h':st[n]? = some (.lst [.lst [],.int a,.int p,.bl f]):=h
    refine ⟨q,true,?_⟩
    simp_all! [zec,List.length_cons,List.length_nil,if_true,List.map_cons,List.map_nil,Nat.reduceSub,List.replicate,List.cons_append,List.nil_append,xs_nil,x_asg,zh6,stO,ev.eq_7,ev.eq_11,ev.eq_18,ev.eq_19,bindT,h,rdS h,sizeMax,CMulB,sixV,bltV,lenV,seqOf,onBl,ha,decide_true,cond_true]
    simp [ha,h',rdS h',hq]
  · have h0:0 < ns.length:=List.length_pos_iff.2 hn
    have h1:=Int.emod_nonneg a (show (ns.length:Int) ≠ 0 by omega)
    have h2:=Int.emod_lt_of_pos a (show (0:Int) < ns.length by omega)
    have h3:(a % (ns.length:Int)).toNat < ns.length:=by omega
    obtain ⟨v,hv⟩:∃ v,ns[(a % (ns.length:Int)).toNat]? = some v:=⟨_,List.getElem?_eq_getElem h3⟩
    have hw:ns[(a % (ns.length:Int)).toNat]'h3 = v:=by rw [List.getElem?_eq_getElem h3] at hv; exact Option.some.inj hv
    have h4:(ns.length:Int) < 10000000000000000000000000000000000000000000000000000000000000000000000:=by omega
    have h5:(0:Int) < ns.length:=by omega
    by_cases hf:(ns.length:Int) <= a \/ 104729 * (a / (ns.length:Int)) + v < 1000000000000000000
    · obtain ⟨q,hq⟩:=mixed k (104729 * (a / (ns.length:Int)) + v) (st.set n (.lst [.lst (ns.map .int),.int (a + 1),.int p,.bl true]))
      refine ⟨q,true,?_⟩
      rcases Classical.em ((ns.length:Int) <= a) with hg | hg
      · simp_all! [zec,List.length_cons,List.length_nil,if_true,List.map_cons,List.map_nil,Nat.reduceSub,List.replicate,List.cons_append,List.nil_append,xs_nil,x_asg,zh6,stO,ev.eq_7,ev.eq_11,ev.eq_18,ev.eq_19,bindT,h,rdS h,sizeMax,CMulB,sixV,bltV,lenV,seqOf,onBl,List.length_map,h5,h1,h2,h4,hg,and_self,decide_true,cond_true,List.getElem?_map,hv,Option.bind_some,Option.map_some]
        simp [h,rdS h,hq,h0,h1,h2,h4,hv,hw,hg]
      · have hf:=hf.resolve_left hg
        simp_all! [zec,List.length_cons,List.length_nil,if_true,List.map_cons,List.map_nil,Nat.reduceSub,List.replicate,List.cons_append,List.nil_append,xs_nil,x_asg,zh6,stO,ev.eq_7,ev.eq_11,ev.eq_18,ev.eq_19,bindT,h,rdS h,sizeMax,CMulB,sixV,bltV,lenV,seqOf,onBl,List.length_map,h5,h1,h2,h4,hg,hf,and_self,decide_true,cond_true,List.getElem?_map,hv,Option.bind_some,Option.map_some]
        simp [h,rdS h,hq,h0,h1,h2,h4,hv,hw,hg,hf]
    · have hg:¬ (ns.length:Int) <= a:=fun z=>hf (.inl z)
      have hf:¬ 104729 * (a / (ns.length:Int)) + v < 1000000000000000000:=fun z=>hf (.inr z)
      refine ⟨104729 * (a / (ns.length:Int)) + v - 1000000000000000000,false,?_⟩
      simp_all! [zec,List.length_cons,List.length_nil,if_true,List.map_cons,List.map_nil,Nat.reduceSub,List.replicate,List.cons_append,List.nil_append,xs_nil,x_asg,zh6,stO,ev.eq_7,ev.eq_11,ev.eq_18,ev.eq_19,bindT,h,rdS h,sizeMax,CMulB,sixV,bltV,lenV,seqOf,onBl,List.length_map,h5,h1,h2,h4,hg,hf,and_self,decide_true,cond_true,List.getElem?_map,hv,Option.bind_some,Option.map_some]
      simp [h,rdS h,h0,h1,h2,h4,hv,hw,hg,hf]
end WK
namespace WK
open IC PySem
noncomputable def takeC:Ce:=match f_qtake.body with
  | .cons _ (.cons (.while c _) _)=>c
  | _=>.nope
noncomputable def takeB:Css:=match f_qtake.body with
  | .cons _ (.cons (.while _ b) _)=>b
  | _=>.nil
theorem zma {c:Cl} {n:Nat} {ns:List Int} {a p m t:Int} {f:Bool} {u:Option PV} {st:Store} (h:st[n]? = some (.lst [.lst (ns.map .int),.int a,.int p,.bl f])) :
    ∃ B,ev c [some (.loc n),some (.int m),some (.int t),u] st takeC = .ok (.bl B) st /\ (B = true -> t < 64):=by
  by_cases h1:t < 64
  · by_cases h2:p = 0
    · refine ⟨true,?_,fun _=>h1⟩
      simp only [takeC,f_qtake,ev.eq_1,ev.eq_2,ev.eq_3,ev.eq_6,ev.eq_7,ev.eq_8,ev.eq_16,R.bind,List.getElem?_cons_zero,List.getElem?_cons_succ,h,idxV,idxI,at?,ixI,binV,binI,CMulB,toR,cmpV,cmpI,onBl]
      simp [h1,h2,zdn,peq]
    · have h2:(p == 0) = false:=by simp [h2]
      cases f
      · refine ⟨false,?_,fun _=>h1⟩
        simp only [takeC,f_qtake,ev.eq_1,ev.eq_2,ev.eq_3,ev.eq_6,ev.eq_7,ev.eq_8,ev.eq_16,R.bind,List.getElem?_cons_zero,List.getElem?_cons_succ,h,idxV,idxI,at?,ixI,binV,binI,CMulB,toR,cmpV,cmpI,onBl]
        simp [h,h1,h2,zdn,peq]
      · refine ⟨decide (p < m * 4096),?_,fun _=>h1⟩
        simp only [takeC,f_qtake,ev.eq_1,ev.eq_2,ev.eq_3,ev.eq_6,ev.eq_7,ev.eq_8,ev.eq_16,R.bind,List.getElem?_cons_zero,List.getElem?_cons_succ,h,idxV,idxI,at?,ixI,binV,binI,CMulB,toR,cmpV,cmpI,onBl]
        simp [h,h1,h2,zdn,peq]
  · refine ⟨false,?_,fun z=>by cases z⟩
    simp only [takeC,f_qtake,ev.eq_1,ev.eq_2,ev.eq_3,ev.eq_6,ev.eq_7,ev.eq_8,ev.eq_16,R.bind,List.getElem?_cons_zero,List.getElem?_cons_succ,h,idxV,idxI,at?,ixI,binV,binI,CMulB,toR,cmpV,cmpI,onBl]
    simp [h1]
theorem zlP (k:Nat) {n:Nat} {ns:List Int} (hns:ns.length <= 1000) {a p m t:Int} (ha:0 <= a) {f:Bool} {u:Option PV} {st:Store} (h:st[n]? = some (.lst [.lst (ns.map .int),.int a,.int p,.bl f])) :
    ∃ p' f',exs (callT T (k + 2)) [some (.loc n),some (.int m),some (.int t),u] st takeB = .nx [some (.loc n),some (.int m),some (.int (t + 1)),u] (st.set n (.lst [.lst (ns.map .int),.int (a + 1),.int p',.bl f'])):=by
  obtain ⟨q,g,hq⟩:=fill k n ns hns a p ha f st h
  have hm:(1 + q % 4093).natAbs < 18446744073709551616:=by omega
  have hau:∀ st,ex (callT T (k + 2)) [some (.loc n),some (.int m),some (.int t),u] st (.aug 2 .add (.cst (.int 1))) = .nx [some (.loc n),some (.int m),some (.int (t + 1)),u] st:=fun st=>by
    rw [zqi (x:=.int t) rfl]
    simp [ev.eq_1,R.fl,augV,binV,binI,nxO]
  cases g
  · refine ⟨q,false,?_⟩
    simp_all! [takeB,f_qtake,xs_nil,zeE,zh6,hau,ev.eq_6,ev.eq_18,hq,augV,Option.map_some,rdS h,CMulB,onBl]
    simp [rdS h]
  · by_cases hl:q < m * 4096
    · refine ⟨q + m * 4096 * (1 + q % 4093),true,?_⟩
      simp_all! [takeB,f_qtake,xs_nil,zeE,zh6,hau,ev.eq_6,ev.eq_18,hq,augV,Option.map_some,rdS h,CMulB,onBl,stO,sixV]
      simp [rdS h,hl,hm]
    · refine ⟨q,true,?_⟩
      simp_all! [takeB,f_qtake,xs_nil,zeE,zh6,hau,ev.eq_6,ev.eq_18,hq,augV,Option.map_some,rdS h,CMulB,onBl]
      simp [rdS h,hl]
theorem ziZ (k:Nat) {n:Nat} {ns:List Int} (hns:ns.length <= 1000) {m:Int} {u:Option PV}:∀ (r N:Nat) (t a p:Int) (f:Bool) (st:Store),r <= N -> 64 - t <= r -> 0 <= a -> st[n]? = some (.lst [.lst (ns.map .int),.int a,.int p,.bl f]) ->
    ∃ t' a' p' f',0 <= a' /\ whileB (callT T (k + 2)) takeC takeB (N + 1) [some (.loc n),some (.int m),some (.int t),u] st = .nx [some (.loc n),some (.int m),some (.int t'),u] (st.set n (.lst [.lst (ns.map .int),.int a',.int p',.bl f']))
  | r,N,t,a,p,f,st,hN,ht,ha,h=>by
    obtain ⟨B,hB,hb⟩:=zma (c:=callT T (k + 2)) (m:=m) (t:=t) (u:=u) h
    have hs:st.set n (.lst [.lst (ns.map .int),.int a,.int p,.bl f]) = st:=by
      refine List.ext_getElem? fun i=>?_
      rw [List.getElem?_set]
      split
      · rename_i e
        subst e
        split
        · exact h.symm
        · rename_i z
          rw [List.getElem?_eq_none (by omega)] at h
          cases h
      · rfl
    cases B with
    | false=>exact ⟨t,a,p,f,ha,by rw [zjJ hB rfl,hs]⟩
    | true =>
      have h64:=hb rfl
      match r,N with
      | 0,_=>exact absurd ht (by omega)
      | r + 1,N + 1 =>
        obtain ⟨p1,f1,hx⟩:=zlP k hns (m:=m) (t:=t) ha (u:=u) h
        obtain ⟨t',a',p',f',h0,h2⟩:=ziZ k hns (m:=m) (u:=u) r N (t + 1) (a + 1) p1 f1 _ (by omega) (by omega) (by omega) (rdS h)
        refine ⟨t',a',p',f',h0,?_⟩
        rw [znd hB rfl hx,h2,List.set_set]
theorem take (k n:Nat) (ns:List Int) (hns:ns.length <= 1000) (a p m:Int) (ha:0 <= a) (hm:0 < m) (hm2:m < 10000000000000000000000000000000000000000000000000000000000000000000000) (f:Bool) (st:Store) (h:st[n]? = some (.lst [.lst (ns.map .int),.int a,.int p,.bl f])) :
    ∃ d a' p' f',0 <= d /\ d < m /\ 0 <= a' /\ callT T (k + 3) zhi [.loc n,.int m] st = .ok (.int d) (st.set n (.lst [.lst (ns.map .int),.int a',.int p',.bl f'])):=by
  obtain ⟨t',a',p',f',h0,h2⟩:=ziZ k hns (m:=m) (u:=none) 64 99999 0 a p f st (by omega) (by omega) ha h
  refine ⟨p' % m,a',p' / m,f',Int.emod_nonneg _ (by omega),Int.emod_lt_of_pos _ hm,h0,?_⟩
  have hb:f_qtake.body = .cons (.asg (.n 2) (.cst (.int 0))) (.cons (.while takeC takeB) (.cons (.asg (.n 3) (.bin .mod (.idx (.var 0) (.cst (.int 2))) (.var 1))) (.cons (.six (.var 0) (.cst (.int 2)) (.bin .fdiv (.idx (.var 0) (.cst (.int 2))) (.var 1))) (.cons (.ret (.var 3)) .nil)))):=rfl
  have hT:T zhi = some ⟨2,4,false,f_qtake.body⟩:=rfl
  rw [callT,hT,hb]
  simp only [List.length_cons,List.length_nil,if_true,List.map_cons,List.map_nil,Nat.reduceSub,List.replicate,List.cons_append,List.nil_append,xs_cons,xs_nil,x_asg,zp3,zh6,x_ret,thenF,nxO,stO,ev.eq_1,ev.eq_2,ev.eq_3,ev.eq_16,R.fl,R.bind,bindT,List.set_cons_zero,List.set_cons_succ,List.getElem?_cons_zero,List.getElem?_cons_succ,h2,rdS h,idxV,idxI,at?,ixI,binV,binI,hm,hm2,and_self,toR,sixV]
  simp [rdS h,hm,hm2]
end WK
namespace WK
open IC PySem
def Drw (ns:List Int) (n:Nat) (st:Store):Prop:=∃ a p f,0 <= a /\ st[n]? = some (.lst [.lst (ns.map .int),.int a,.int p,.bl f])
def Onl (ns:List Int) (n:Nat) (st st':Store):Prop:=∃ a p f,0 <= a /\ st' = st.set n (.lst [.lst (ns.map .int),.int a,.int p,.bl f])
theorem Onl.drw {ns:List Int} {n:Nat} {st st':Store} (h:Drw ns n st) (o:Onl ns n st st'):Drw ns n st':=by
  obtain ⟨a,p,f,ha,h⟩:=h
  obtain ⟨b,q,g,hb,rfl⟩:=o
  exact ⟨b,q,g,hb,rdS h⟩
theorem Onl.trans {ns:List Int} {n:Nat} {st st1 st2:Store} (o:Onl ns n st st1) (o2:Onl ns n st1 st2):Onl ns n st st2:=by
  obtain ⟨b,q,g,hb,rfl⟩:=o
  obtain ⟨c,r,j,hc,rfl⟩:=o2
  exact ⟨c,r,j,hc,by rw [List.set_set]⟩
theorem takeD (k:Nat) {n:Nat} {ns:List Int} (hns:ns.length <= 1000) {m:Int} (hm:0 < m) (hm2:m < 10000000000000000000000000000000000000000000000000000000000000000000000) {st:Store} (h:Drw ns n st) :
    ∃ d st',0 <= d /\ d < m /\ Onl ns n st st' /\ callT T (k + 3) zhi [.loc n,.int m] st = .ok (.int d) st':=by
  obtain ⟨a,p,f,ha,h⟩:=h
  obtain ⟨d,a',p',f',h1,h2,h3,h4⟩:=take k n ns hns a p m ha hm hm2 f st h
  exact ⟨d,_,h1,h2,⟨_,_,_,h3,rfl⟩,h4⟩
theorem fresh (k:Nat) (ns:List Int) (h:ns.length <= 63) (st:Store):∃ v,callT T (k + 1) zhh [.scr (ns.map .int)] st = .ok (.loc st.length) (st ++ [v]) /\ v = .lst [.lst (ns.map .int),.int 0,.int 0,.bl false]:=by
  have hT:T zhh = some zfL:=rfl
  refine ⟨_,?_,rfl⟩
  rw [callT,hT]
  simp only [zfL,List.length_cons,List.length_nil,if_true,List.map_cons,List.map_nil,Nat.reduceSub,List.replicate,List.cons_append,List.nil_append,xs_cons,xs_nil,x_ret,thenF,ev,evs,R.fl,R.bind,List.getElem?_cons_zero,toR]
  have hc:slcV (.scr (ns.map PV.int)) none (.int 63) = some (.lst (ns.map .int)):=by
    have hk:clampI ns.length 63 = ns.length:=by
      show min 63 ns.length = ns.length
      omega
    simp [slcV,optI,slcO,cut,loOf,hiOf,hk]
    try rw [<- List.length_map (f:=PV.int),List.take_length]
  simp [optI,onP,hc,sizeMax]
end WK
namespace WK
open IC
theorem zhO (K:Nat):(0:Int) < 2 ^ K:=Int.pow_pos (by omega)
noncomputable def worthR:Css:=match f_qworth.body with
  | .cons _ (.cons _ (.cons _ r))=>r
  | _=>.nil
theorem zk5 {c:Cl} {n:Nat} {w z kd m:Int} {u5 u6 u7 u8 u9 u10 u11 u12:Option PV} {st:Store} (h0:0 <= kd) (h6:kd < 6) (hm:16 <= m) :
    ∃ x,0 <= x /\ x < m /\ exs c [some (.loc n),some (.int w),some (.int z),some (.int kd),some (.int m),u5,u6,u7,u8,u9,u10,u11,u12] st worthR = .rt (.int x) st:=by
  have hk:kd = 0 \/ kd = 1 \/ kd = 2 \/ kd = 3 \/ kd = 4 \/ kd = 5:=by omega
  rcases hk with rfl | rfl | rfl | rfl | rfl | rfl
  · refine ⟨0,by omega,by omega,?_⟩
    simp_all! [worthR,f_qworth,x_asg,x_ret,ev.eq_11,bindT]
    simp [sizeMax]
  · refine ⟨1,by omega,by omega,?_⟩
    simp_all! [worthR,f_qworth,x_asg,x_ret,ev.eq_11,bindT]
    simp [sizeMax]
  · refine ⟨m - 1,by omega,by omega,?_⟩
    simp_all! [worthR,f_qworth,x_asg,x_ret,ev.eq_11,bindT]
    simp [sizeMax]
  · refine ⟨m / 2,by omega,by omega,?_⟩
    simp_all! [worthR,f_qworth,x_asg,x_ret,ev.eq_11,bindT]
    simp [sizeMax]
  · refine ⟨m / 2 - 1,by omega,by omega,?_⟩
    simp_all! [worthR,f_qworth,x_asg,x_ret,ev.eq_11,bindT]
    simp [sizeMax]
  · refine ⟨m - 2,by omega,by omega,?_⟩
    simp_all! [worthR,f_qworth,x_asg,x_ret,ev.eq_11,bindT]
    simp [sizeMax]
theorem zm0 (k:Nat) {n:Nat} {ns:List Int} (hns:ns.length <= 1000) {w z kd m:Int} {u5 u6 u7 u8 u9 u10 u11 u12:Option PV} {st:Store} (h:Drw ns n st) (h9:9 < kd) (hm:16 <= m) (hm2:m <= 18446744073709551616) :
    ∃ x st',0 <= x /\ x < m /\ Onl ns n st st' /\ exs (callT T (k + 3)) [some (.loc n),some (.int w),some (.int z),some (.int kd),some (.int m),u5,u6,u7,u8,u9,u10,u11,u12] st worthR = .rt (.int x) st':=by
  obtain ⟨d,s1,d1,d2,o1,e1⟩:=takeD k hns (m:=m) (by omega) (by omega) h
  refine ⟨d,s1,d1,d2,o1,?_⟩
  have k1:¬ kd < 6:=by omega
  have k2:(kd == 6) = false:=by simp; omega
  have k3:(kd == 7) = false:=by simp; omega
  simp_all! [worthR,f_qworth,xs_nil,x_asg,x_ret,zbh,evi,rng1,toL,ev.eq_11,ev.eq_18,bindT,CMulB,e1,h9,k1]
  simp [sizeMax,e1,h9,k1,k2,k3,zdn,peq]
theorem zkN (k:Nat) {n:Nat} {ns:List Int} (hns:ns.length <= 1000) {w z kd m:Int} {u5 u6 u7 u8 u9 u10 u11 u12:Option PV} {st:Store} (h:Drw ns n st) (hk:kd = 6 \/ kd = 7) (hw:4 <= w) (hw2:w <= 16) (hz:1 <= z) (hz2:z <= 4) (hm:m = 2 ^ (w * z).toNat) :
    ∃ x st',0 <= x /\ x < m /\ Onl ns n st st' /\ exs (callT T (k + 3)) [some (.loc n),some (.int w),some (.int z),some (.int kd),some (.int m),u5,u6,u7,u8,u9,u10,u11,u12] st worthR = .rt (.int x) st':=by
  have hwz:4 <= w * z:=by
    have:=Int.mul_le_mul hw hz (by omega) (by omega); omega
  have hwz2:w * z <= 64:=by
    have:=Int.mul_le_mul hw2 hz2 (by omega) (by omega); omega
  have hm1:0 < m:=hm ▸ zhO _
  have hm2:m <= 18446744073709551616:=by
    have h64:(2:Nat) ^ (w * z).toNat <= 2 ^ 64:=Nat.pow_le_pow_right (by omega) (by omega)
    have h65:((2 ^ (w * z).toNat:Nat):Int) = 2 ^ (w * z).toNat:=by simp
    rw [hm,<- h65]
    omega
  obtain ⟨d,s1,d1,d2,o1,e1⟩:=takeD k hns (m:=m) (by omega) (by omega) h
  obtain ⟨e,s2,d3,d4,o2,e2⟩:=takeD k hns (m:=w * z) (by omega) (by omega) (o1.drw h)
  have hj:(2:Int) ^ e.toNat < m:=by
    rw [hm]; exact Int.pow_lt_pow_of_lt (by omega) (by omega)
  have hj1:=zhO e.toNat
  have hj2:(2:Int) ^ e.toNat < 10000000000000000000000000000000000000000000000000000000000000000000000:=by omega
  have hj3:((2:Int) ^ e.toNat).natAbs < 18446744073709551616:=by omega
  have hj4:(2:Nat) ^ e.toNat < 18446744073709551616:=by
    have h65:((2 ^ e.toNat:Nat):Int) = 2 ^ e.toNat:=by simp
    omega
  have hwa:w.natAbs < 18446744073709551616:=by omega
  have hea:e.natAbs < 1000000000:=by omega
  rcases hk with rfl | rfl
  · obtain ⟨u,hd,_⟩:=dbl (call:=callT T (k + 3)) (i:=8) (j:=5) (by omega) e.toNat 0 [some (.loc n),some (.int w),some (.int z),some (.int 6),some (.int m),u5,some (.tup [.int 0,.int 1,.int (m - 1),.int (m / 2),.int (m / 2 - 1),.int (m - 2)]),some (.int d),some (.int 1),u9,u10,u11,u12] 1 s2 rfl
    refine ⟨d / 2 ^ e.toNat * 2 ^ e.toNat,s2,Int.mul_nonneg (Int.ediv_nonneg d1 (by omega)) (by omega),Int.lt_of_le_of_lt (Int.ediv_mul_le d (by omega)) d2,o1.trans o2,?_⟩
    simp_all! [worthR,f_qworth,xs_nil,x_asg,x_ret,zbh,evi,rng1,toL,ev.eq_11,ev.eq_18,bindT,CMulB,e1,e2]
    simp [sizeMax,zdn,peq,e1,e2,hwa,hea,hd,hj1,hj2,hj3,hj4]
  · obtain ⟨u,hd,_⟩:=dbl (call:=callT T (k + 3)) (i:=8) (j:=5) (by omega) e.toNat 0 [some (.loc n),some (.int w),some (.int z),some (.int 7),some (.int m),u5,some (.tup [.int 0,.int 1,.int (m - 1),.int (m / 2),.int (m / 2 - 1),.int (m - 2)]),some (.int d),some (.int 1),u9,u10,u11,u12] 1 s2 rfl
    refine ⟨m - 2 ^ e.toNat,s2,by omega,by omega,o1.trans o2,?_⟩
    simp_all! [worthR,f_qworth,xs_nil,x_asg,x_ret,zbh,evi,rng1,toL,ev.eq_11,ev.eq_18,bindT,CMulB,e1,e2]
    simp [sizeMax,zdn,peq,e1,e2,hwa,hea,hd,hj1,hj2,hj3,hj4]
end WK
namespace WK
open IC PySem
theorem zi2:cmpV .eq (.str (Str.ofString "mark")) (.str (Str.ofString "mark")) = some (.bl true):=by with_unfolding_all rfl
theorem zjE:cmpV .eq (.str (Str.ofString "mark")) (.str (Str.ofString "ask")) = some (.bl false):=by with_unfolding_all rfl
theorem zjQ:cmpV .eq (.str (Str.ofString "mark")) (.str (Str.ofString "set")) = some (.bl false):=by with_unfolding_all rfl
theorem zhE:cmpV .eq (.str (Str.ofString "mark")) (.str (Str.ofString "times")) = some (.bl false):=by with_unfolding_all rfl
theorem zjo:cmpV .eq (.str (Str.ofString "mark")) (.str (Str.ofString "sum")) = some (.bl false):=by with_unfolding_all rfl
theorem ziu:cmpV .eq (.str (Str.ofString "mark")) (.str (Str.ofString "less")) = some (.bl false):=by with_unfolding_all rfl
theorem ziM:cmpV .eq (.str (Str.ofString "mark")) (.str (Str.ofString "both")) = some (.bl false):=by with_unfolding_all rfl
theorem zjg:cmpV .eq (.str (Str.ofString "mark")) (.str (Str.ofString "any")) = some (.bl false):=by with_unfolding_all rfl
theorem zjK:cmpV .eq (.str (Str.ofString "mark")) (.str (Str.ofString "odd")) = some (.bl false):=by with_unfolding_all rfl
theorem zjj:cmpV .eq (.str (Str.ofString "ask")) (.str (Str.ofString "mark")) = some (.bl false):=by with_unfolding_all rfl
theorem zkY:cmpV .eq (.str (Str.ofString "ask")) (.str (Str.ofString "ask")) = some (.bl true):=by with_unfolding_all rfl
theorem zlC:cmpV .eq (.str (Str.ofString "ask")) (.str (Str.ofString "set")) = some (.bl false):=by with_unfolding_all rfl
theorem ziQ:cmpV .eq (.str (Str.ofString "ask")) (.str (Str.ofString "times")) = some (.bl false):=by with_unfolding_all rfl
theorem zlo:cmpV .eq (.str (Str.ofString "ask")) (.str (Str.ofString "sum")) = some (.bl false):=by with_unfolding_all rfl
theorem zja:cmpV .eq (.str (Str.ofString "ask")) (.str (Str.ofString "less")) = some (.bl false):=by with_unfolding_all rfl
theorem zjd:cmpV .eq (.str (Str.ofString "ask")) (.str (Str.ofString "both")) = some (.bl false):=by with_unfolding_all rfl
theorem zlv:cmpV .eq (.str (Str.ofString "ask")) (.str (Str.ofString "any")) = some (.bl false):=by with_unfolding_all rfl
theorem zk6:cmpV .eq (.str (Str.ofString "ask")) (.str (Str.ofString "odd")) = some (.bl false):=by with_unfolding_all rfl
theorem zjL:cmpV .eq (.str (Str.ofString "set")) (.str (Str.ofString "mark")) = some (.bl false):=by with_unfolding_all rfl
theorem zlh:cmpV .eq (.str (Str.ofString "set")) (.str (Str.ofString "ask")) = some (.bl false):=by with_unfolding_all rfl
theorem zlz:cmpV .eq (.str (Str.ofString "set")) (.str (Str.ofString "set")) = some (.bl true):=by with_unfolding_all rfl
theorem zib:cmpV .eq (.str (Str.ofString "set")) (.str (Str.ofString "times")) = some (.bl false):=by with_unfolding_all rfl
theorem zla:cmpV .eq (.str (Str.ofString "set")) (.str (Str.ofString "sum")) = some (.bl false):=by with_unfolding_all rfl
theorem zj1:cmpV .eq (.str (Str.ofString "set")) (.str (Str.ofString "less")) = some (.bl false):=by with_unfolding_all rfl
theorem zje:cmpV .eq (.str (Str.ofString "set")) (.str (Str.ofString "both")) = some (.bl false):=by with_unfolding_all rfl
theorem zlu:cmpV .eq (.str (Str.ofString "set")) (.str (Str.ofString "any")) = some (.bl false):=by with_unfolding_all rfl
theorem zli:cmpV .eq (.str (Str.ofString "set")) (.str (Str.ofString "odd")) = some (.bl false):=by with_unfolding_all rfl
theorem zfh:cmpV .eq (.str (Str.ofString "move")) (.str (Str.ofString "mark")) = some (.bl false):=by with_unfolding_all rfl
theorem zgk:cmpV .eq (.str (Str.ofString "move")) (.str (Str.ofString "ask")) = some (.bl false):=by with_unfolding_all rfl
theorem zgh:cmpV .eq (.str (Str.ofString "move")) (.str (Str.ofString "set")) = some (.bl false):=by with_unfolding_all rfl
theorem zfc:cmpV .eq (.str (Str.ofString "move")) (.str (Str.ofString "move")) = some (.bl true):=by with_unfolding_all rfl
theorem ze8:cmpV .eq (.str (Str.ofString "move")) (.str (Str.ofString "bare")) = some (.bl false):=by with_unfolding_all rfl
theorem zel:cmpV .eq (.str (Str.ofString "move")) (.str (Str.ofString "twice")) = some (.bl false):=by with_unfolding_all rfl
theorem zfm:cmpV .eq (.str (Str.ofString "move")) (.str (Str.ofString "half")) = some (.bl false):=by with_unfolding_all rfl
theorem zfp:cmpV .eq (.str (Str.ofString "bare")) (.str (Str.ofString "mark")) = some (.bl false):=by with_unfolding_all rfl
theorem zgj:cmpV .eq (.str (Str.ofString "bare")) (.str (Str.ofString "ask")) = some (.bl false):=by with_unfolding_all rfl
theorem zgf:cmpV .eq (.str (Str.ofString "bare")) (.str (Str.ofString "set")) = some (.bl false):=by with_unfolding_all rfl
theorem zfi:cmpV .eq (.str (Str.ofString "bare")) (.str (Str.ofString "move")) = some (.bl false):=by with_unfolding_all rfl
theorem zfs:cmpV .eq (.str (Str.ofString "bare")) (.str (Str.ofString "bare")) = some (.bl true):=by with_unfolding_all rfl
theorem zeq:cmpV .eq (.str (Str.ofString "bare")) (.str (Str.ofString "twice")) = some (.bl false):=by with_unfolding_all rfl
theorem zfd:cmpV .eq (.str (Str.ofString "bare")) (.str (Str.ofString "half")) = some (.bl false):=by with_unfolding_all rfl
theorem zeA:cmpV .eq (.str (Str.ofString "twice")) (.str (Str.ofString "mark")) = some (.bl false):=by with_unfolding_all rfl
theorem zfu:cmpV .eq (.str (Str.ofString "twice")) (.str (Str.ofString "ask")) = some (.bl false):=by with_unfolding_all rfl
theorem zft:cmpV .eq (.str (Str.ofString "twice")) (.str (Str.ofString "set")) = some (.bl false):=by with_unfolding_all rfl
theorem zen:cmpV .eq (.str (Str.ofString "twice")) (.str (Str.ofString "move")) = some (.bl false):=by with_unfolding_all rfl
theorem zei:cmpV .eq (.str (Str.ofString "twice")) (.str (Str.ofString "bare")) = some (.bl false):=by with_unfolding_all rfl
theorem zdY:cmpV .eq (.str (Str.ofString "twice")) (.str (Str.ofString "twice")) = some (.bl true):=by with_unfolding_all rfl
theorem zer:cmpV .eq (.str (Str.ofString "twice")) (.str (Str.ofString "half")) = some (.bl false):=by with_unfolding_all rfl
theorem zfb:cmpV .eq (.str (Str.ofString "half")) (.str (Str.ofString "mark")) = some (.bl false):=by with_unfolding_all rfl
theorem zfZ:cmpV .eq (.str (Str.ofString "half")) (.str (Str.ofString "ask")) = some (.bl false):=by with_unfolding_all rfl
theorem zgy:cmpV .eq (.str (Str.ofString "half")) (.str (Str.ofString "set")) = some (.bl false):=by with_unfolding_all rfl
theorem ze7:cmpV .eq (.str (Str.ofString "half")) (.str (Str.ofString "move")) = some (.bl false):=by with_unfolding_all rfl
theorem zfo:cmpV .eq (.str (Str.ofString "half")) (.str (Str.ofString "bare")) = some (.bl false):=by with_unfolding_all rfl
theorem zej:cmpV .eq (.str (Str.ofString "half")) (.str (Str.ofString "twice")) = some (.bl false):=by with_unfolding_all rfl
theorem zfe:cmpV .eq (.str (Str.ofString "half")) (.str (Str.ofString "half")) = some (.bl true):=by with_unfolding_all rfl
theorem zjO:cmpV .eq (.str (Str.ofString "sum")) (.str (Str.ofString "mark")) = some (.bl false):=by with_unfolding_all rfl
theorem zkS:cmpV .eq (.str (Str.ofString "sum")) (.str (Str.ofString "ask")) = some (.bl false):=by with_unfolding_all rfl
theorem zlc:cmpV .eq (.str (Str.ofString "sum")) (.str (Str.ofString "set")) = some (.bl false):=by with_unfolding_all rfl
theorem zie:cmpV .eq (.str (Str.ofString "sum")) (.str (Str.ofString "times")) = some (.bl false):=by with_unfolding_all rfl
theorem zlG:cmpV .eq (.str (Str.ofString "sum")) (.str (Str.ofString "sum")) = some (.bl true):=by with_unfolding_all rfl
theorem zjk:cmpV .eq (.str (Str.ofString "sum")) (.str (Str.ofString "less")) = some (.bl false):=by with_unfolding_all rfl
theorem zjb:cmpV .eq (.str (Str.ofString "sum")) (.str (Str.ofString "both")) = some (.bl false):=by with_unfolding_all rfl
theorem zlw:cmpV .eq (.str (Str.ofString "sum")) (.str (Str.ofString "any")) = some (.bl false):=by with_unfolding_all rfl
theorem zk7:cmpV .eq (.str (Str.ofString "sum")) (.str (Str.ofString "odd")) = some (.bl false):=by with_unfolding_all rfl
theorem ziG:cmpV .eq (.str (Str.ofString "less")) (.str (Str.ofString "mark")) = some (.bl false):=by with_unfolding_all rfl
theorem zjT:cmpV .eq (.str (Str.ofString "less")) (.str (Str.ofString "ask")) = some (.bl false):=by with_unfolding_all rfl
theorem zj0:cmpV .eq (.str (Str.ofString "less")) (.str (Str.ofString "set")) = some (.bl false):=by with_unfolding_all rfl
theorem zhX:cmpV .eq (.str (Str.ofString "less")) (.str (Str.ofString "times")) = some (.bl false):=by with_unfolding_all rfl
theorem zjp:cmpV .eq (.str (Str.ofString "less")) (.str (Str.ofString "sum")) = some (.bl false):=by with_unfolding_all rfl
theorem ziy:cmpV .eq (.str (Str.ofString "less")) (.str (Str.ofString "less")) = some (.bl true):=by with_unfolding_all rfl
theorem zis:cmpV .eq (.str (Str.ofString "less")) (.str (Str.ofString "both")) = some (.bl false):=by with_unfolding_all rfl
theorem zjc:cmpV .eq (.str (Str.ofString "less")) (.str (Str.ofString "any")) = some (.bl false):=by with_unfolding_all rfl
theorem zjt:cmpV .eq (.str (Str.ofString "less")) (.str (Str.ofString "odd")) = some (.bl false):=by with_unfolding_all rfl
theorem ziL:cmpV .eq (.str (Str.ofString "both")) (.str (Str.ofString "mark")) = some (.bl false):=by with_unfolding_all rfl
theorem zjh:cmpV .eq (.str (Str.ofString "both")) (.str (Str.ofString "ask")) = some (.bl false):=by with_unfolding_all rfl
theorem zjU:cmpV .eq (.str (Str.ofString "both")) (.str (Str.ofString "set")) = some (.bl false):=by with_unfolding_all rfl
theorem zhx:cmpV .eq (.str (Str.ofString "both")) (.str (Str.ofString "times")) = some (.bl false):=by with_unfolding_all rfl
theorem zji:cmpV .eq (.str (Str.ofString "both")) (.str (Str.ofString "sum")) = some (.bl false):=by with_unfolding_all rfl
theorem ziN:cmpV .eq (.str (Str.ofString "both")) (.str (Str.ofString "less")) = some (.bl false):=by with_unfolding_all rfl
theorem ziS:cmpV .eq (.str (Str.ofString "both")) (.str (Str.ofString "both")) = some (.bl true):=by with_unfolding_all rfl
theorem zjA:cmpV .eq (.str (Str.ofString "both")) (.str (Str.ofString "any")) = some (.bl false):=by with_unfolding_all rfl
theorem zjw:cmpV .eq (.str (Str.ofString "both")) (.str (Str.ofString "odd")) = some (.bl false):=by with_unfolding_all rfl
theorem zjG:cmpV .eq (.str (Str.ofString "any")) (.str (Str.ofString "mark")) = some (.bl false):=by with_unfolding_all rfl
theorem zkQ:cmpV .eq (.str (Str.ofString "any")) (.str (Str.ofString "ask")) = some (.bl false):=by with_unfolding_all rfl
theorem zlg:cmpV .eq (.str (Str.ofString "any")) (.str (Str.ofString "set")) = some (.bl false):=by with_unfolding_all rfl
theorem ziY:cmpV .eq (.str (Str.ofString "any")) (.str (Str.ofString "times")) = some (.bl false):=by with_unfolding_all rfl
theorem zlt:cmpV .eq (.str (Str.ofString "any")) (.str (Str.ofString "sum")) = some (.bl false):=by with_unfolding_all rfl
theorem zjZ:cmpV .eq (.str (Str.ofString "any")) (.str (Str.ofString "less")) = some (.bl false):=by with_unfolding_all rfl
theorem zj5:cmpV .eq (.str (Str.ofString "any")) (.str (Str.ofString "both")) = some (.bl false):=by with_unfolding_all rfl
theorem zk0:cmpV .eq (.str (Str.ofString "any")) (.str (Str.ofString "any")) = some (.bl true):=by with_unfolding_all rfl
theorem zly:cmpV .eq (.str (Str.ofString "any")) (.str (Str.ofString "odd")) = some (.bl false):=by with_unfolding_all rfl
theorem zjY:cmpV .eq (.str (Str.ofString "odd")) (.str (Str.ofString "mark")) = some (.bl false):=by with_unfolding_all rfl
theorem zlk:cmpV .eq (.str (Str.ofString "odd")) (.str (Str.ofString "ask")) = some (.bl false):=by with_unfolding_all rfl
theorem zkU:cmpV .eq (.str (Str.ofString "odd")) (.str (Str.ofString "set")) = some (.bl false):=by with_unfolding_all rfl
theorem zij:cmpV .eq (.str (Str.ofString "odd")) (.str (Str.ofString "times")) = some (.bl false):=by with_unfolding_all rfl
theorem zk3:cmpV .eq (.str (Str.ofString "odd")) (.str (Str.ofString "sum")) = some (.bl false):=by with_unfolding_all rfl
theorem zj3:cmpV .eq (.str (Str.ofString "odd")) (.str (Str.ofString "less")) = some (.bl false):=by with_unfolding_all rfl
theorem zjR:cmpV .eq (.str (Str.ofString "odd")) (.str (Str.ofString "both")) = some (.bl false):=by with_unfolding_all rfl
theorem zk1:cmpV .eq (.str (Str.ofString "odd")) (.str (Str.ofString "any")) = some (.bl false):=by with_unfolding_all rfl
theorem zlp:cmpV .eq (.str (Str.ofString "odd")) (.str (Str.ofString "odd")) = some (.bl true):=by with_unfolding_all rfl
theorem mok {st:Store} {n L:Nat} {M:Mem} (h:Dc st n M L):mthOk .get st (.loc n) = some true:=by
  obtain ⟨kvs,h1,h2,h3,h4⟩:=h
  simp [mthOk,dctOf,h1]
theorem zbM:T zmJ = some zbd:=rfl
theorem zkx:T zjr = some zbc:=rfl
theorem len3 {a b c:PV} {st:Store} {k:Bool}:bltV .len st [.tp k [a,b,c]] = some (.int 3):=rfl
theorem len4 {a b c d:PV} {st:Store} {k:Bool}:bltV .len st [.tp k [a,b,c,d]] = some (.int 4):=rfl
theorem c33:cmpV .eq (.int 3) (.int 3) = some (.bl true):=rfl
theorem c43:cmpV .eq (.int 4) (.int 3) = some (.bl false):=rfl
def Done (k n:Nat) (st:Store) (M:Mem) (L:Nat) (W m:Int) (r:Rw):Prop:=∃ st',callT T (k + 2) zmJ [.loc n,.int m,rowV r,.int W] st = .ok (.int (stepM W M m r).2) st' /\ (∃ o,st' = st.set n o) /\ Dc st' n (stepM W M m r).1 (L + 1)
theorem zhW {st:Store} {n L:Nat} {M:Mem} (h:Dc st n M L):∃ o,st = st.set n o:=by
  obtain ⟨kvs,h1,_⟩:=h
  exact ⟨_,zki h1⟩
theorem zmW {st:Store} {n L:Nat} {M:Mem} (h:Dc st n M L):Dc st n M (L + 1):=by
  obtain ⟨kvs,h1,h2,h3,h4⟩:=h
  exact ⟨kvs,h1,h2,h3,by omega⟩
theorem zlO (k:Nat) {n:Nat} {st:Store} {M:Mem} {L:Nat} {W m:Int} (h:Dc st n M L) (hL:L < 999999) (hW:0 < W) (hW2:W < 18446744073709551616) (d:Int):Done k n st M L W m (.mark d):=by
  have hW3:W < 18446744073709551616 * 18446744073709551616:=by omega
  have hW4:(W / 2).natAbs < 18446744073709551616:=by omega
  refine ⟨st,?_,zhW h,zmW h⟩
  rw [callT,zbM]
  simp! [zbd,rowV,celV,zbK,zao,ev.eq_3,ev.eq_16,ev.eq_19,ev.eq_20,ix0,ix1,ix2,ix3,ono,mget,zbs,zbu,zbG,zaX,zbT,zdI,b_or,zdH,c_ne,c_lt,zaM,zbJ,cond_true,cond_false,zi2,zjE,zjQ,zhE,zjo,ziu,ziM,zjg,zjK,mok h,zbX hW,zbH hW hW3,zaK hW4,c33,c43,len3,len4]
  first | rfl | (simp only [stepM,rd]; done)
theorem znu (k:Nat) {n:Nat} {st:Store} {M:Mem} {L:Nat} {W m:Int} (h:Dc st n M L) (hL:L < 999999) (hW:0 < W) (hW2:W < 18446744073709551616) (x:Cel):Done k n st M L W m (.ask x):=by
  have hW3:W < 18446744073709551616 * 18446744073709551616:=by omega
  have hW4:(W / 2).natAbs < 18446744073709551616:=by omega
  refine ⟨st,?_,zhW h,zmW h⟩
  have gx:=zaw h x.1 x.2
  rw [callT,zbM]
  simp! [zbd,rowV,celV,zbK,zao,ev.eq_3,ev.eq_16,ev.eq_19,ev.eq_20,ix0,ix1,ix2,ix3,ono,mget,zbs,zbu,zbG,zaX,zbT,zdI,b_or,zdH,c_ne,c_lt,zaM,zbJ,cond_true,cond_false,zjj,zkY,zlC,ziQ,zlo,zja,zjd,zlv,zk6,gx,mok h,zbX hW,zbH hW hW3,zaK hW4,c33,c43,len3,len4]
  first | rfl | (simp only [stepM,rd]; done)
theorem zny (k:Nat) {n:Nat} {st:Store} {M:Mem} {L:Nat} {W m:Int} (h:Dc st n M L) (hL:L < 999999) (hW:0 < W) (hW2:W < 18446744073709551616) (t:Cel) (d:Int):Done k n st M L W m (.set t d):=by
  have hW3:W < 18446744073709551616 * 18446744073709551616:=by omega
  have hW4:(W / 2).natAbs < 18446744073709551616:=by omega
  obtain ⟨kvs,hp,hd⟩:=zbj h hL t.1 t.2 (d)
  refine ⟨_,?_,⟨_,rfl⟩,hd⟩
  rw [callT,zbM]
  simp! [zbd,rowV,celV,zbK,zao,ev.eq_3,ev.eq_16,ev.eq_19,ev.eq_20,ix0,ix1,ix2,ix3,ono,mget,zbs,zbu,zbG,zaX,zbT,zdI,b_or,zdH,c_ne,c_lt,zaM,zbJ,cond_true,cond_false,zjL,zlh,zlz,zib,zla,zj1,zje,zlu,zli,hp,mok h,zbX hW,zbH hW hW3,zaK hW4,c33,c43,len3,len4]
  first | rfl | (simp only [stepM,rd]; done)
theorem zlT (k:Nat) {n:Nat} {st:Store} {M:Mem} {L:Nat} {W m:Int} (h:Dc st n M L) (hL:L < 999999) (hW:0 < W) (hW2:W < 18446744073709551616) (t x:Cel):Done k n st M L W m (.move t x):=by
  have hW3:W < 18446744073709551616 * 18446744073709551616:=by omega
  have hW4:(W / 2).natAbs < 18446744073709551616:=by omega
  obtain ⟨kvs,hp,hd⟩:=zbj h hL t.1 t.2 (M x.1 x.2)
  refine ⟨_,?_,⟨_,rfl⟩,hd⟩
  have gx:=zaw h x.1 x.2
  rw [callT,zbM]
  simp! [zbd,rowV,celV,zbK,zao,ev.eq_3,ev.eq_16,ev.eq_19,ev.eq_20,ix0,ix1,ix2,ix3,ono,mget,zbs,zbu,zbG,zaX,zbT,zdI,b_or,zdH,c_ne,c_lt,zaM,zbJ,cond_true,cond_false,zfh,zgk,zgh,zfc,ze8,zel,zfm,gx,hp,mok h,zbX hW,zbH hW hW3,zaK hW4,c33,c43,len3,len4]
  rw [callT,zkx]
  simp! [zbc,zbK,zao,ev.eq_3,ev.eq_16,ev.eq_19,ev.eq_20,ix0,ix1,ix2,ix3,ono,mget,zbs,zbu,zbG,zaX,zbT,zdI,b_or,zdH,c_ne,c_lt,zaM,zbJ,cond_true,cond_false,zfh,zgk,zgh,zfc,ze8,zel,zfm,gx,hp,mok h,zbX hW,zbH hW hW3,zaK hW4,c33,c43,len3,len4]
  first | rfl | (simp only [stepM,rd]; done)
theorem zlQ (k:Nat) {n:Nat} {st:Store} {M:Mem} {L:Nat} {W m:Int} (h:Dc st n M L) (hL:L < 999999) (hW:0 < W) (hW2:W < 18446744073709551616) (t x:Cel):Done k n st M L W m (.bare t x):=by
  have hW3:W < 18446744073709551616 * 18446744073709551616:=by omega
  have hW4:(W / 2).natAbs < 18446744073709551616:=by omega
  obtain ⟨kvs,hp,hd⟩:=zbj h hL t.1 t.2 (W - 1 - M x.1 x.2)
  refine ⟨_,?_,⟨_,rfl⟩,hd⟩
  have gx:=zaw h x.1 x.2
  rw [callT,zbM]
  simp! [zbd,rowV,celV,zbK,zao,ev.eq_3,ev.eq_16,ev.eq_19,ev.eq_20,ix0,ix1,ix2,ix3,ono,mget,zbs,zbu,zbG,zaX,zbT,zdI,b_or,zdH,c_ne,c_lt,zaM,zbJ,cond_true,cond_false,zfp,zgj,zgf,zfi,zfs,zeq,zfd,gx,hp,mok h,zbX hW,zbH hW hW3,zaK hW4,c33,c43,len3,len4]
  rw [callT,zkx]
  simp! [zbc,zbK,zao,ev.eq_3,ev.eq_16,ev.eq_19,ev.eq_20,ix0,ix1,ix2,ix3,ono,mget,zbs,zbu,zbG,zaX,zbT,zdI,b_or,zdH,c_ne,c_lt,zaM,zbJ,cond_true,cond_false,zfp,zgj,zgf,zfi,zfs,zeq,zfd,gx,hp,mok h,zbX hW,zbH hW hW3,zaK hW4,c33,c43,len3,len4]
  first | rfl | (simp only [stepM,rd]; done)
theorem zlx (k:Nat) {n:Nat} {st:Store} {M:Mem} {L:Nat} {W m:Int} (h:Dc st n M L) (hL:L < 999999) (hW:0 < W) (hW2:W < 18446744073709551616) (t x:Cel):Done k n st M L W m (.twice t x):=by
  have hW3:W < 18446744073709551616 * 18446744073709551616:=by omega
  have hW4:(W / 2).natAbs < 18446744073709551616:=by omega
  obtain ⟨kvs,hp,hd⟩:=zbj h hL t.1 t.2 ((2 * M x.1 x.2 + m) % W)
  refine ⟨_,?_,⟨_,rfl⟩,hd⟩
  have gx:=zaw h x.1 x.2
  rw [callT,zbM]
  simp! [zbd,rowV,celV,zbK,zao,ev.eq_3,ev.eq_16,ev.eq_19,ev.eq_20,ix0,ix1,ix2,ix3,ono,mget,zbs,zbu,zbG,zaX,zbT,zdI,b_or,zdH,c_ne,c_lt,zaM,zbJ,cond_true,cond_false,zeA,zfu,zft,zen,zei,zdY,zer,gx,hp,mok h,zbX hW,zbH hW hW3,zaK hW4,c33,c43,len3,len4]
  rw [callT,zkx]
  simp! [zbc,zbK,zao,ev.eq_3,ev.eq_16,ev.eq_19,ev.eq_20,ix0,ix1,ix2,ix3,ono,mget,zbs,zbu,zbG,zaX,zbT,zdI,b_or,zdH,c_ne,c_lt,zaM,zbJ,cond_true,cond_false,zeA,zfu,zft,zen,zei,zdY,zer,gx,hp,mok h,zbX hW,zbH hW hW3,zaK hW4,c33,c43,len3,len4]
  first | rfl | (simp only [stepM,rd]; done)
theorem zno (k:Nat) {n:Nat} {st:Store} {M:Mem} {L:Nat} {W m:Int} (h:Dc st n M L) (hL:L < 999999) (hW:0 < W) (hW2:W < 18446744073709551616) (t x:Cel):Done k n st M L W m (.half t x):=by
  have hW3:W < 18446744073709551616 * 18446744073709551616:=by omega
  have hW4:(W / 2).natAbs < 18446744073709551616:=by omega
  obtain ⟨kvs,hp,hd⟩:=zbj h hL t.1 t.2 (M x.1 x.2 / 2 + m * (W / 2))
  refine ⟨_,?_,⟨_,rfl⟩,hd⟩
  have gx:=zaw h x.1 x.2
  rw [callT,zbM]
  simp! [zbd,rowV,celV,zbK,zao,ev.eq_3,ev.eq_16,ev.eq_19,ev.eq_20,ix0,ix1,ix2,ix3,ono,mget,zbs,zbu,zbG,zaX,zbT,zdI,b_or,zdH,c_ne,c_lt,zaM,zbJ,cond_true,cond_false,zfb,zfZ,zgy,ze7,zfo,zej,zfe,gx,hp,mok h,zbX hW,zbH hW hW3,zaK hW4,c33,c43,len3,len4]
  rw [callT,zkx]
  simp! [zbc,zbK,zao,ev.eq_3,ev.eq_16,ev.eq_19,ev.eq_20,ix0,ix1,ix2,ix3,ono,mget,zbs,zbu,zbG,zaX,zbT,zdI,b_or,zdH,c_ne,c_lt,zaM,zbJ,cond_true,cond_false,zfb,zfZ,zgy,ze7,zfo,zej,zfe,gx,hp,mok h,zbX hW,zbH hW hW3,zaK hW4,c33,c43,len3,len4]
  first | rfl | (simp only [stepM,rd]; done)
theorem zof (k:Nat) {n:Nat} {st:Store} {M:Mem} {L:Nat} {W m:Int} (h:Dc st n M L) (hL:L < 999999) (hW:0 < W) (hW2:W < 18446744073709551616) (t x y:Cel):Done k n st M L W m (.sum t x y):=by
  have hW3:W < 18446744073709551616 * 18446744073709551616:=by omega
  have hW4:(W / 2).natAbs < 18446744073709551616:=by omega
  obtain ⟨kvs,hp,hd⟩:=zbj h hL t.1 t.2 ((M x.1 x.2 + M y.1 y.2 + m) % W)
  refine ⟨_,?_,⟨_,rfl⟩,hd⟩
  have gx:=zaw h x.1 x.2
  have gy:=zaw h y.1 y.2
  rw [callT,zbM]
  simp! [zbd,rowV,celV,zbK,zao,ev.eq_3,ev.eq_16,ev.eq_19,ev.eq_20,ix0,ix1,ix2,ix3,ono,mget,zbs,zbu,zbG,zaX,zbT,zdI,b_or,zdH,c_ne,c_lt,zaM,zbJ,cond_true,cond_false,zjO,zkS,zlc,zie,zlG,zjk,zjb,zlw,zk7,gx,gy,hp,mok h,zbX hW,zbH hW hW3,zaK hW4,c33,c43,len3,len4]
  first | rfl | (simp only [stepM,rd]; done)
theorem zlL (k:Nat) {n:Nat} {st:Store} {M:Mem} {L:Nat} {W m:Int} (h:Dc st n M L) (hL:L < 999999) (hW:0 < W) (hW2:W < 18446744073709551616) (t x y:Cel):Done k n st M L W m (.less t x y):=by
  have hW3:W < 18446744073709551616 * 18446744073709551616:=by omega
  have hW4:(W / 2).natAbs < 18446744073709551616:=by omega
  obtain ⟨kvs,hp,hd⟩:=zbj h hL t.1 t.2 ((M x.1 x.2 - M y.1 y.2 - m) % W)
  refine ⟨_,?_,⟨_,rfl⟩,hd⟩
  have gx:=zaw h x.1 x.2
  have gy:=zaw h y.1 y.2
  rw [callT,zbM]
  simp! [zbd,rowV,celV,zbK,zao,ev.eq_3,ev.eq_16,ev.eq_19,ev.eq_20,ix0,ix1,ix2,ix3,ono,mget,zbs,zbu,zbG,zaX,zbT,zdI,b_or,zdH,c_ne,c_lt,zaM,zbJ,cond_true,cond_false,ziG,zjT,zj0,zhX,zjp,ziy,zis,zjc,zjt,gx,gy,hp,mok h,zbX hW,zbH hW hW3,zaK hW4,c33,c43,len3,len4]
  first | rfl | (simp only [stepM,rd]; done)
theorem zlM (k:Nat) {n:Nat} {st:Store} {M:Mem} {L:Nat} {W m:Int} (h:Dc st n M L) (hL:L < 999999) (hW:0 < W) (hW2:W < 18446744073709551616) (t x y:Cel):Done k n st M L W m (.both t x y):=by
  have hW3:W < 18446744073709551616 * 18446744073709551616:=by omega
  have hW4:(W / 2).natAbs < 18446744073709551616:=by omega
  obtain ⟨kvs,hp,hd⟩:=zbj h hL t.1 t.2 (Builtin.bitAnd (M x.1 x.2) (M y.1 y.2))
  refine ⟨_,?_,⟨_,rfl⟩,hd⟩
  have gx:=zaw h x.1 x.2
  have gy:=zaw h y.1 y.2
  rw [callT,zbM]
  simp! [zbd,rowV,celV,zbK,zao,ev.eq_3,ev.eq_16,ev.eq_19,ev.eq_20,ix0,ix1,ix2,ix3,ono,mget,zbs,zbu,zbG,zaX,zbT,zdI,b_or,zdH,c_ne,c_lt,zaM,zbJ,cond_true,cond_false,ziL,zjh,zjU,zhx,zji,ziN,ziS,zjA,zjw,gx,gy,hp,mok h,zbX hW,zbH hW hW3,zaK hW4,c33,c43,len3,len4]
  first | rfl | (simp only [stepM,rd]; done)
theorem zns (k:Nat) {n:Nat} {st:Store} {M:Mem} {L:Nat} {W m:Int} (h:Dc st n M L) (hL:L < 999999) (hW:0 < W) (hW2:W < 18446744073709551616) (t x y:Cel):Done k n st M L W m (.any t x y):=by
  have hW3:W < 18446744073709551616 * 18446744073709551616:=by omega
  have hW4:(W / 2).natAbs < 18446744073709551616:=by omega
  obtain ⟨kvs,hp,hd⟩:=zbj h hL t.1 t.2 (Builtin.bitOr (M x.1 x.2) (M y.1 y.2))
  refine ⟨_,?_,⟨_,rfl⟩,hd⟩
  have gx:=zaw h x.1 x.2
  have gy:=zaw h y.1 y.2
  rw [callT,zbM]
  simp! [zbd,rowV,celV,zbK,zao,ev.eq_3,ev.eq_16,ev.eq_19,ev.eq_20,ix0,ix1,ix2,ix3,ono,mget,zbs,zbu,zbG,zaX,zbT,zdI,b_or,zdH,c_ne,c_lt,zaM,zbJ,cond_true,cond_false,zjG,zkQ,zlg,ziY,zlt,zjZ,zj5,zk0,zly,gx,gy,hp,mok h,zbX hW,zbH hW hW3,zaK hW4,c33,c43,len3,len4]
  first | rfl | (simp only [stepM,rd]; done)
theorem znO (k:Nat) {n:Nat} {st:Store} {M:Mem} {L:Nat} {W m:Int} (h:Dc st n M L) (hL:L < 999999) (hW:0 < W) (hW2:W < 18446744073709551616) (t x y:Cel):Done k n st M L W m (.odd t x y):=by
  have hW3:W < 18446744073709551616 * 18446744073709551616:=by omega
  have hW4:(W / 2).natAbs < 18446744073709551616:=by omega
  obtain ⟨kvs,hp,hd⟩:=zbj h hL t.1 t.2 (Builtin.bitXor (M x.1 x.2) (M y.1 y.2))
  refine ⟨_,?_,⟨_,rfl⟩,hd⟩
  have gx:=zaw h x.1 x.2
  have gy:=zaw h y.1 y.2
  rw [callT,zbM]
  simp! [zbd,rowV,celV,zbK,zao,ev.eq_3,ev.eq_16,ev.eq_19,ev.eq_20,ix0,ix1,ix2,ix3,ono,mget,zbs,zbu,zbG,zaX,zbT,zdI,b_or,zdH,c_ne,c_lt,zaM,zbJ,cond_true,cond_false,zjY,zlk,zkU,zij,zk3,zj3,zjR,zk1,zlp,gx,gy,hp,mok h,zbX hW,zbH hW hW3,zaK hW4,c33,c43,len3,len4]
  first | rfl | (simp only [stepM,rd]; done)
theorem zp6 (k:Nat) {n:Nat} {st:Store} {M:Mem} {L:Nat} {W m:Int} (h:Dc st n M L) (hL:L < 999999) (hW:0 < W) (hW2:W < 18446744073709551616) (r:Rw):Done k n st M L W m r:=by
  cases r
  · exact zlO k h hL hW hW2 _
  · exact znu k h hL hW hW2 _
  · exact zny k h hL hW hW2 _ _
  · exact zlT k h hL hW hW2 _ _
  · exact zlQ k h hL hW hW2 _ _
  · exact zlx k h hL hW hW2 _ _
  · exact zno k h hL hW hW2 _ _
  · exact zof k h hL hW hW2 _ _ _
  · exact zlL k h hL hW hW2 _ _ _
  · exact zlM k h hL hW hW2 _ _ _
  · exact zns k h hL hW hW2 _ _ _
  · exact znO k h hL hW hW2 _ _ _
end WK
namespace WK
open IC PySem
noncomputable def runB:Css:=match f_qrun.body with
  | .cons _ (.cons _ (.cons _ (.cons _ (.cons _ (.cons _ (.cons (.for _ _ b) _))))))=>b
  | _=>.nil
theorem zhC (k:Nat) {n:Nat} {W:Int} (hW:0 < W) (hW2:W < 18446744073709551616) {p0 p1 p2 p3 p4 p5:Option PV}:∀ (rs:List Rw) (M:Mem) (m:Int) (st:Store) (u:Option PV) (L:Nat),Dc st n M L -> L + rs.length < 999999 ->
    ∃ st' u',forB (callT T (k + 2)) (.n 9) runB (rs.map rowV) [p0,p1,p2,p3,p4,p5,some (.loc n),some (.int W),some (.int m),u] st = .nx [p0,p1,p2,p3,p4,p5,some (.loc n),some (.int W),some (.int (runM W rs M m).2),u'] st' /\ (∃ o,st' = st.set n o) /\ Dc st' n (runM W rs M m).1 (L + rs.length)
  | [],M,m,st,u,L,h,_=>⟨st,u,by rw [List.map_nil,zaU]; rfl,zhW h,h⟩
  | r :: rs,M,m,st,u,L,h,hl=>by
    rw [List.length_cons] at hl
    obtain ⟨s1,h1,⟨o1,h2⟩,h3⟩:=zp6 k (m:=m) h (by omega) hW hW2 r
    obtain ⟨s2,u2,e1,⟨o2,e2⟩,e3⟩:=zhC k hW hW2 (p0:=p0) (p1:=p1) (p2:=p2) (p3:=p3) (p4:=p4) (p5:=p5) rs _ (stepM W M m r).2 s1 (some (rowV r)) (L + 1) h3 (by omega)
    refine ⟨s2,u2,?_,⟨o2,by rw [e2,h2,List.set_set]⟩,by rw [List.length_cons,show L + (rs.length + 1) = L + 1 + rs.length by omega]; exact e3⟩
    rw [List.map_cons,zaF (ρ1:=[p0,p1,p2,p3,p4,p5,some (.loc n),some (.int W),some (.int m),some (rowV r)]) rfl]
    have hb:exs (callT T (k + 2)) [p0,p1,p2,p3,p4,p5,some (.loc n),some (.int W),some (.int m),some (rowV r)] st runB = .nx [p0,p1,p2,p3,p4,p5,some (.loc n),some (.int W),some (.int (stepM W M m r).2),some (rowV r)] s1:=by
      simp only [runB,f_qrun,xs_cons,xs_nil,x_asg,ev.eq_18,ev.eq_2,evs,List.getElem?_cons_zero,List.getElem?_cons_succ,bd_ok,fl_ok,h1,bT_n,nxO_some,th_nx,List.set_cons_zero,List.set_cons_succ]
    rw [hb]
    exact e1
theorem zhf {call:Cl} {W:Int} (hW:0 < W) (hW2:W < 18446744073709551616) {p1 p2:Option PV}:∀ (n:Nat) (a x:Int) (acc:List PV) (u:Option PV),acc.length + n < 1000000 ->
    ∃ x' u',forB call (.n 5) (.cons (.expr (.mth .append (.var 4) (.cons (.bin .mod (.var 0) (.var 3)) .nil))) (.cons (.asg (.n 0) (.bin .fdiv (.var 0) (.var 3))) .nil)) (rangeL n a 1) [some (.int x),p1,p2,some (.int W),some (.loc 0),u] [.lst acc] = .nx [some (.int x'),p1,p2,some (.int W),some (.loc 0),u'] [.lst (acc ++ (wordsL W n x).map .int)]
  | 0,a,x,acc,u,_=>⟨x,u,by rw [rangeL,zaU]; simp [wordsL]⟩
  | n + 1,a,x,acc,u,h=>by
    obtain ⟨x',u',e⟩:=zhf (call:=call) hW hW2 (p1:=p1) (p2:=p2) n (a + 1) (x / W) (acc ++ [.int (x % W)]) (some (.int a)) (by simp; omega)
    refine ⟨x',u',?_⟩
    have hW3:W < 18446744073709551616 * 18446744073709551616:=by omega
    have hl:acc.length < 1000000:=by omega
    rw [rangeL,zaF (ρ1:=[some (.int x),p1,p2,some (.int W),some (.loc 0),some (.int a)]) rfl]
    have hm:mthOk .append [Ob.lst acc] (.loc 0) = some true:=rfl
    have hap:mthV .append [Ob.lst acc] (.loc 0) [.int (x % W)] = .ok .non [.lst (acc ++ [.int (x % W)])]:=by
      simp [mthV,appV,hl]
    simp only [xs_cons,xs_nil,x_asg,zeE,ev.eq_20,ev.eq_2,ev.eq_3,evs,List.getElem?_cons_zero,List.getElem?_cons_succ,bd_ok,fl_ok,hm,ono,zbX hW,zbH hW hW3,toR_some,hap,bT_n,nxO_some,th_nx,List.set_cons_zero,List.set_cons_succ,againF]
    rw [e]
    simp [wordsL]
theorem zjX {z:Int} (h:0 <= z):∃ n:Nat,z = n:=⟨z.toNat,by omega⟩
theorem zd4:∀ (l:List Int),noLocs (l.map PV.int) = true
  | []=>rfl
  | x :: l=>by simp [noLocs,noLoc,zd4 l]
theorem zfQ (n:Nat) (h:n < 1000):rng1 (.int (n:Int)) = some (rangeL n 0 1):=by
  simp only [rng1]
  rw [if_pos (by omega),Int.toNat_natCast]
theorem words (k:Nat) (x:Int) (w n:Nat) (hw:w <= 16) (hn:n < 1000) (st:Store):callT T (k + 2) zky [.int x,.int w,.int n] st = .ok (.tup ((wordsL (2 ^ w) n x).map .int)) st:=by
  have hW:(0:Int) < 2 ^ w:=Int.pow_pos (by omega)
  have hW2:(2:Int) ^ w < 18446744073709551616:=by
    have h:(2:Nat) ^ w <= 2 ^ 16:=Nat.pow_le_pow_right (by omega) hw
    have h2:((2 ^ w:Nat):Int) = 2 ^ w:=by simp
    omega
  obtain ⟨x',u',e⟩:=zhf (call:=callT T (k + 1)) hW hW2 (p1:=some (.int w)) (p2:=some (.int n)) n 0 x [] none (by simp; omega)
  have ht:=zgd k w (by omega) []
  have hT:T zky = some zfK:=rfl
  rw [callT,hT]
  simp only [zfK,List.length_cons,List.length_nil,Nat.zero_add,Nat.reduceAdd,if_true,noLocs,noLoc,Bool.and_self,List.map_cons,List.map_nil,Nat.reduceSub,List.replicate,List.cons_append,List.nil_append,xs_cons,xs_nil,x_asg,zbh,x_ret,ev.eq_18,ev.eq_2,ev.eq_13,ev.eq_19,evs,evi,List.getElem?_cons_zero,List.getElem?_cons_succ,bd_ok,fl_ok,ht,bT_n,nxO_some,th_nx,List.set_cons_zero,List.set_cons_succ,zfQ n hn,toL,Nat.zero_le,sizeMax,e]
  simp [bltV,tupV,lstOf,toR,fl_ok,noLoc,zd4,R.fl,thenF]
end WK
namespace WK
open IC PySem
theorem chA:Str.ofString "a" = chS 97:=by with_unfolding_all rfl
theorem chB:Str.ofString "b" = chS 98:=by with_unfolding_all rfl
theorem chC:Str.ofString "c" = chS 99:=by with_unfolding_all rfl
theorem chD:Str.ofString "d" = chS 100:=by with_unfolding_all rfl
theorem chM:Str.ofString "m" = chS 109:=by with_unfolding_all rfl
theorem zm4 {st:Store} {n L:Nat} {M:Mem} {call:Cl} (h:Dc st n M L) (hL:L < 999999) {ρ:IC.Env} {o i e:Ce} {c:Nat} {j v:Int} (he:ev call ρ st e = .ok (.int v) st) (ho:ev call ρ st o = .ok (.loc n) st) (hi:ev call ρ st i = .ok (cellV c j) st) :
    ∃ kvs,ex call ρ st (.dput o i e) = .nx ρ (st.set n (.dct true kvs)) /\ Dc (st.set n (.dct true kvs)) n (upd M c j v) (L + 1):=by
  obtain ⟨kvs,h1,h2⟩:=zbj h hL c j v
  exact ⟨kvs,by simp only [zbK,he,ho,hi,fl_ok,h1,zao],h2⟩
theorem zf3 {call:Cl} {n:Nat} {s:Str} {c:Nat} (hs:s = chS c) {p0 p1 p2 p3:Option PV}:∀ (vs:List Int) (i:Nat) (M:Mem) (st:Store) (L:Nat) (u v:Option PV),Dc st n M L -> L + vs.length < 999999 ->
    ∃ st' u' v',forB call (.t [5,6]) (.cons (.dput (.var 4) (.tup (.cons (.cst (.str s)) (.cons (.var 5) .nil))) (.var 6)) .nil) (pairsUp i (vs.map .int)) [p0,p1,p2,p3,some (.loc n),u,v] st = .nx [p0,p1,p2,p3,some (.loc n),u',v'] st' /\ (∃ o,st' = st.set n o) /\ Dc st' n (fillM c i vs M) (L + vs.length)
  | [],i,M,st,L,u,v,h,_=>⟨st,u,v,by rw [List.map_nil,pairsUp,zaU],zhW h,h⟩
  | x :: vs,i,M,st,L,u,v,h,hl=>by
    rw [List.length_cons] at hl
    obtain ⟨kvs,e1,h1⟩:=zm4 (call:=call) (ρ:=[p0,p1,p2,p3,some (.loc n),some (.int i),some (.int x)]) (o:=.var 4) (i:=.tup (.cons (.cst (.str s)) (.cons (.var 5) .nil))) (e:=.var 6) (c:=c) (j:=i) (v:=x) h (by omega) (by simp only [ev.eq_2,List.getElem?_cons_zero,List.getElem?_cons_succ]) (by simp only [ev.eq_2,List.getElem?_cons_zero,List.getElem?_cons_succ]) (by
      subst hs
      simp only [ev.eq_2,ev.eq_1,ev.eq_11,evs,List.getElem?_cons_zero,List.getElem?_cons_succ,bd_ok,List.length_cons,List.length_nil]
      rw [if_pos (by decide)]
      rfl)
    obtain ⟨s2,u2,v2,e2,⟨o2,e3⟩,h2⟩:=zf3 (call:=call) hs (p0:=p0) (p1:=p1) (p2:=p2) (p3:=p3) vs (i + 1) _ _ (L + 1) (some (.int i)) (some (.int x)) h1 (by omega)
    refine ⟨s2,u2,v2,?_,⟨o2,by rw [e3,List.set_set]⟩,by rw [List.length_cons,show L + (vs.length + 1) = L + 1 + vs.length by omega]; exact h2⟩
    rw [List.map_cons,pairsUp,zaF (ρ1:=[p0,p1,p2,p3,some (.loc n),some (.int i),some (.int x)]) rfl,xs_cons,e1,th_nx,xs_nil]
    exact e2
theorem begun (k:Nat) (w n:Nat) (hw:w <= 16) (hn:n < 1000) (x y:Int) (st:Store):∃ o,callT T (k + 3) zkt [.int w,.int n,.int x,.int y] st = .ok (.loc st.length) (st ++ [o]) /\ Dc (st ++ [o]) st.length (begM (2 ^ w) n x y) (2 * n):=by
  have h0:Dc (st ++ [.dct true []]) st.length M0 0:=⟨[],by simp,by simp [AllC],fun c i=>rfl,by simp⟩
  have w1:=words k x w n hw hn
  have w2:=words k y w n hw hn
  obtain ⟨s1,u1,v1,e1,⟨o1,f1⟩,h1⟩:=zf3 (call:=callT T (k + 2)) chA (p0:=some (.int w)) (p1:=some (.int n)) (p2:=some (.int x)) (p3:=some (.int y)) (wordsL (2 ^ w) n x) 0 M0 _ 0 none none h0 (by rw [zbg]; omega)
  obtain ⟨s2,u2,v2,e2,⟨o2,f2⟩,h2⟩:=zf3 (call:=callT T (k + 2)) chB (p0:=some (.int w)) (p1:=some (.int n)) (p2:=some (.int x)) (p3:=some (.int y)) (wordsL (2 ^ w) n y) 0 _ _ _ u1 v1 h1 (by rw [zbg,zbg]; omega)
  have f3:s2 = st ++ [o2]:=by rw [f2,f1,List.set_set]; simp
  rw [zbg,zbg,show 0 + n + n = 2 * n by omega] at h2
  refine ⟨o2,?_,by rw [<- f3]; exact h2⟩
  have hT:T zkt = some zfI:=rfl
  rw [callT,hT,<- f3]
  simp only [zfI,List.length_cons,List.length_nil,Nat.zero_add,Nat.reduceAdd,if_true,Bool.false_eq_true,if_false,List.map_cons,List.map_nil,Nat.reduceSub,List.replicate,List.cons_append,List.nil_append,xs_cons,xs_nil,x_asg,zbh,x_ret,ev.eq_18,ev.eq_2,ev.eq_15,evs,evi,List.getElem?_cons_zero,List.getElem?_cons_succ,bd_ok,fl_ok,bT_n,nxO_some,th_nx,th_rt,List.set_cons_zero,List.set_cons_succ,w1,w2,e1,e2]
theorem zoD {call:Cl} {st:Store} {n L:Nat} {M:Mem} (h:Dc st n M L) {ρ:IC.Env} {o i d:Ce} {c:Nat} {j:Int} (ho:ev call ρ st o = .ok (.loc n) st) (hi:ev call ρ st i = .ok (cellV c j) st) (hd:ev call ρ st d = .ok (.int 0) st):ev call ρ st (.mth .get o (.cons i (.cons d .nil))) = .ok (.int (M c j)) st:=by
  simp only [ev.eq_20,ho,hi,hd,evs,bd_ok,mok h,ono,mget,zaw h]
end WK
namespace WK
open IC PySem
theorem ziT {call:Cl} {st:Store} {n L:Nat} {M:Mem} (h:Dc st n M L) {c:Nat} {W:Int} (hW:0 < W) (hW2:W < 18446744073709551616) {p2 p3:Option PV}:∀ (z:Nat) (acc:Int) (u:Option PV),
    ∃ u',forB call (.n 6) (.cons (.asg (.n 5) (.bin .add (.bin .mul (.var 5) (.var 4)) (.mth .get (.var 0) (.cons (.tup (.cons (.var 1) (.cons (.var 6) .nil))) (.cons (.cst (.int 0)) .nil))))) .nil) (rangeL z ((z:Int) - 1) (-1)) [some (.loc n),some (.str (chS c)),p2,p3,some (.int W),some (.int acc),u] st = .nx [some (.loc n),some (.str (chS c)),p2,p3,some (.int W),some (.int (acc * W ^ z + valM W M c z)),u'] st
  | 0,acc,u=>⟨u,by rw [rangeL,zaU]; simp [valM]⟩
  | z + 1,acc,u=>by
    obtain ⟨u',e⟩:=ziT (call:=call) h (c:=c) hW hW2 (p2:=p2) (p3:=p3) z (acc * W + M c z) (some (.int z))
    refine ⟨u',?_⟩
    have hz:((z + 1:Nat):Int) - 1 = z:=by omega
    rw [rangeL,hz,zaF (ρ1:=[some (.loc n),some (.str (chS c)),p2,p3,some (.int W),some (.int acc),some (.int z)]) rfl]
    have hg:=zoD (call:=call) h (ρ:=[some (.loc n),some (.str (chS c)),p2,p3,some (.int W),some (.int acc),some (.int z)]) (o:=.var 0) (i:=.tup (.cons (.var 1) (.cons (.var 6) .nil))) (d:=.cst (.int 0)) (c:=c) (j:=z) (by simp only [ev.eq_2,List.getElem?_cons_zero,List.getElem?_cons_succ]) (by
      simp only [ev.eq_2,ev.eq_1,ev.eq_11,evs,List.getElem?_cons_zero,List.getElem?_cons_succ,bd_ok,List.length_cons,List.length_nil]
      rw [if_pos (by decide)]
      rfl) (by simp only [ev.eq_1])
    have hm:(W).natAbs < 18446744073709551616:=by omega
    simp only [xs_cons,xs_nil,x_asg,ev.eq_3,ev.eq_2,hg,List.getElem?_cons_zero,List.getElem?_cons_succ,bd_ok,fl_ok,zaK hm,zbs,toR_some,bT_n,nxO_some,th_nx,List.set_cons_zero,List.set_cons_succ,againF]
    rw [show (z:Int) + -1 = (z:Int) - 1 by omega,e]
    have hf:(acc * W + M c z) * W ^ z + valM W M c z = acc * W ^ (z + 1) + valM W M c (z + 1):=by
      rw [valM,Int.pow_succ,Int.add_mul,Int.mul_assoc,Int.mul_comm W]
      omega
    rw [hf]
theorem neg1 {call:Cl} {ρ:IC.Env} {st:Store}:ev call ρ st (.neg (.cst (.int 1))) = .ok (.int (-1)) st:=by
  with_unfolding_all rfl
theorem read (k:Nat) {st:Store} {n L:Nat} {M:Mem} (h:Dc st n M L) (s:Str) (c:Nat) (hs:s = chS c) (w z:Nat) (hw:w <= 16) (hz:z < 1000):callT T (k + 2) zhr [.loc n,.str s,.int z,.int w] st = .ok (.int (valM (2 ^ w) M c z)) st:=by
  subst hs
  have hW:(0:Int) < 2 ^ w:=Int.pow_pos (by omega)
  have hW2:(2:Int) ^ w < 18446744073709551616:=by
    have h:(2:Nat) ^ w <= 2 ^ 16:=Nat.pow_le_pow_right (by omega) hw
    have h2:((2 ^ w:Nat):Int) = 2 ^ w:=by simp
    omega
  obtain ⟨u',e⟩:=ziT (call:=callT T (k + 1)) h (c:=c) hW hW2 (p2:=some (.int z)) (p3:=some (.int w)) z 0 none
  have ht:=zgd k w (by omega) st
  have hT:T zhr = some zhU:=rfl
  have hr:rngD (.int ((z:Int) - 1)) (.int (-1)) = some (rangeL z ((z:Int) - 1) (-1)):=by
    simp only [rngD]
    rw [if_pos ⟨by omega,by decide⟩,show ((z:Int) - 1 - -1).toNat = z by omega]
  rw [callT,hT]
  simp only [zhU,List.length_cons,List.length_nil,Nat.zero_add,Nat.reduceAdd,if_true,Bool.false_eq_true,if_false,List.map_cons,List.map_nil,Nat.reduceSub,List.replicate,List.cons_append,List.nil_append,xs_cons,xs_nil,x_asg,zbh,x_ret,ev.eq_18,ev.eq_1,ev.eq_2,ev.eq_3,neg1,evs,evi,List.getElem?_cons_zero,List.getElem?_cons_succ,bd_ok,fl_ok,ht,zbu,toR_some,bT_n,nxO_some,th_nx,th_rt,List.set_cons_zero,List.set_cons_succ,hr,toL,e]
  simp
end WK
namespace WK
open IC PySem
theorem marks (k:Nat) {st:Store} {n L:Nat} {M:Mem} (h:Dc st n M L):callT T (k + 1) zhT [.loc n] st = .ok (.tup [.int (M 109 0),.int (M 109 1),.int (M 109 2),.int (M 109 3)]) st:=by
  have hT:T zhT = some zfH:=rfl
  have hc:=zit (call:=callT T k) (st:=st) (ρ0:=[none,some (.loc n)]) (t:=.n 0) (c:=.cst (.bl true)) (e:=.mth .get (.var 1) (.cons (.tup (.cons (.cst (.str (Str.ofString "m"))) (.cons (.var 0) .nil))) (.cons (.cst (.int 0)) .nil))) (f:=fun x=>match x with | .int i=>.int (M 109 i) | _=>.non) [.int 0,.int 1,.int 2,.int 3] (by
    have:∀ i:Int,oneB (callT T k) [none,some (.loc n)] (.n 0) (.cst (.bl true)) (.mth .get (.var 1) (.cons (.tup (.cons (.cst (.str (Str.ofString "m"))) (.cons (.var 0) .nil))) (.cons (.cst (.int 0)) .nil))) (.int i) st = .ok (some (.int (M 109 i))) st:=by
      intro i
      have hg:=zoD (call:=callT T k) h (ρ:=[some (.int i),some (.loc n)]) (o:=.var 1) (i:=.tup (.cons (.cst (.str (Str.ofString "m"))) (.cons (.var 0) .nil))) (d:=.cst (.int 0)) (c:=109) (j:=i) (by simp only [ev.eq_2,List.getElem?_cons_zero,List.getElem?_cons_succ]) (by
        rw [chM]
        simp only [ev.eq_2,ev.eq_1,ev.eq_11,evs,List.getElem?_cons_zero,List.getElem?_cons_succ,bd_ok,List.length_cons,List.length_nil]
        rw [if_pos (by decide)]
        rfl) (by simp only [ev.eq_1])
      simp only [oneB,bT_n,List.set_cons_zero,hg,ev.eq_1,bd_ok,t_bl,ono,cond_true]
    intro x hx
    simp only [List.mem_cons,List.not_mem_nil,or_false] at hx
    rcases hx with rfl | rfl | rfl | rfl <;> exact this _)
  rw [callT,hT]
  have hr:rng1 (.int 4) = some [.int 0,.int 1,.int 2,.int 3]:=rfl
  simp only [zfH,List.length_cons,List.length_nil,Nat.zero_add,Nat.reduceAdd,if_true,Bool.false_eq_true,if_false,List.map_cons,List.map_nil,Nat.reduceSub,List.replicate,List.cons_append,List.append_nil,List.nil_append,xs_cons,xs_nil,x_ret,zoG,ev.eq_1,ev.eq_19,evs,evi,hr,toL,bd_ok,fl_ok,Option.bind_none,Option.bind_some,List.getElem?_cons_zero,Option.join_some,Option.bind_fun_some]
  rw [hc]
  simp [lstR,bd_ok,bltV,tupV,lstOf,toR,R.fl,R.bind,thenF,sizeMax]
end WK
namespace WK
open IC PySem
theorem ends (k:Nat) (v:Int) (K:Nat) (hK:K < 1000) (st:Store):callT T (k + 2) zjP [.int v,.int K] st = .ok (.tup [.int (bi (v == 0)),.int (bi (decide (2 ^ K <= 2 * v)))]) st:=by
  have ht:=zgd k K hK []
  have hT:T zjP = some zhA:=rfl
  rw [callT,hT]
  simp only [zhA,List.length_cons,List.length_nil,Nat.zero_add,Nat.reduceAdd,if_true,noLocs,noLoc,Bool.and_self,List.map_cons,List.map_nil,Nat.reduceSub,List.replicate,List.cons_append,List.append_nil,List.nil_append,xs_cons,xs_nil,x_asg,x_ret,ev.eq_18,ev.eq_1,ev.eq_2,ev.eq_3,ev.eq_8,ev.eq_11,ev.eq_19,evs,List.getElem?_cons_zero,List.getElem?_cons_succ,bd_ok,fl_ok,ht,zbu,zbG,toR_some,c_eq,c_ge,zaM,zbJ]
  simp [R.fl,thenF,noLoc,noLocs,sizeMax]
end WK
namespace WK
open IC PySem
theorem lift8 {f:Nat} {a:List PV} {s s':Store} {v:PV} (h:callT T 8 f a s = .ok v s') (j:Nat):callT T (8 + j) f a s = .ok v s':=zkr h j
theorem zrz (w:Nat):(0:Int) < 2 ^ w:=Int.pow_pos (by omega)
theorem w_lt {w:Nat} (hw:w <= 16):(2:Int) ^ w < 18446744073709551616:=by
  have h:(2:Nat) ^ w <= 2 ^ 16:=Nat.pow_le_pow_right (by omega) hw
  have h2:((2 ^ w:Nat):Int) = 2 ^ w:=by simp
  omega
theorem run (j:Nat) {v:PV} {rs:List Rw} (w n:Nat) (hw:w <= 16) (hn:n < 1000) (hl:rs.length < 5000) (x y:Int) (hv:noLoc v = true)
    (h1:callT T 8 zbt [v] [] = .ok (.bl true) []) (h2:callT T 8 zcI [v,.int w,.int n,.int 4000] [] = .ok (.lst (rs.map rowV)) []) (h3:callT T 8 zbY [.lst (rs.map rowV)] [] = .ok (.bl true) []) :
    ∃ o,callT T (8 + j + 1) zgX [v,.int w,.int n,.int x,.int y] [] = .ok (.loc 0) [o] /\ ∃ L,Dc [o] 0 (runM (2 ^ w) rs (begM (2 ^ w) n x y) 0).1 L:=by
  have g1:=lift8 h1 j
  have g2:=lift8 h2 j
  have g3:=lift8 h3 j
  obtain ⟨o,b1,b2⟩:=begun (5 + j) w n hw hn x y []
  rw [show 5 + j + 3 = 8 + j by omega] at b1
  have ht:=zgd (7 + j) w (by omega) [o]
  rw [show 7 + j + 1 = 8 + j by omega] at ht
  obtain ⟨s2,u2,e1,⟨o2,e2⟩,e3⟩:=zhC (6 + j) (zrz w) (w_lt hw) (p0:=some v) (p1:=some (.int w)) (p2:=some (.int n)) (p3:=some (.int x)) (p4:=some (.int y)) (p5:=some (.lst (rs.map rowV))) rs _ 0 _ none _ b2 (by omega)
  rw [show 6 + j + 2 = 8 + j by omega] at e1
  have e4:s2 = [o2]:=by rw [e2]; rfl
  rw [e4] at e1 e3
  simp only [List.nil_append,List.length_nil] at b1 e1 e3
  refine ⟨o2,?_,_,e3⟩
  have hT:T zgX = some ⟨5,10,false,f_qrun.body⟩:=rfl
  have hb:f_qrun.body = (.cons (.ite (.not (.call 36 (.cons (.var 0) .nil))) (.cons .nope .nil) .nil) (.cons (.asg (.n 5) (.call 42 (.cons (.var 0) (.cons (.var 1) (.cons (.var 2) (.cons (.cst (.int 4000)) .nil)))))) (.cons (.ite (.or (.cmp .is (.var 5) (.cst .non)) (.not (.call 43 (.cons (.var 5) .nil)))) (.cons .nope .nil) .nil) (.cons (.asg (.n 6) (.call 44 (.cons (.var 1) (.cons (.var 2) (.cons (.var 3) (.cons (.var 4) .nil)))))) (.cons (.asg (.n 7) (.call 26 (.cons (.var 1) .nil))) (.cons (.asg (.n 8) (.cst (.int 0))) (.cons (.for (.n 9) (.seq (.var 5)) runB) (.cons (.ret (.var 6)) .nil)))))))):=rfl
  have ci:cmpV .is (.lst (rs.map rowV)) .non = some (.bl false):=rfl
  rw [callT,hT,hb]
  simp! [zbh,ev.eq_5,ev.eq_7,evi,g1,g2,g3,ci,b1,ht,ono,Bool.not_true,cond_false,onBl,e1]
end WK
namespace WK
open IC PySem
theorem pure0 {f k:Nat} {a:List PV} {v:PV} {fn:IC.Fn} (hT:T f = some fn) (hp:fn.pure = true) (h:callT T k f a [] = .ok v []) (st:Store):callT T k f a st = .ok v st:=by
  cases k with
  | zero=>cases h
  | succ k =>
    rw [callT,hT] at h ⊢
    simp only [hp,if_true] at h ⊢
    by_cases h1:a.length = fn.np
    · rw [if_pos h1] at h ⊢
      by_cases h2:noLocs a = true
      · rw [if_pos h2] at h ⊢
        generalize exs (callT T k) (a.map some ++ List.replicate (fn.ns - fn.np) none) [] fn.body = r at h
        cases r with
        | rt v' s' =>
          simp only at h ⊢
          by_cases h3:noLoc v' = true
          · rw [if_pos h3] at h ⊢; cases h; rfl
          · rw [if_neg h3] at h; cases h
        | nx _ _=>cases h; rfl
        | exc _ _ _=>cases h
        | _=>cases h
      · rw [if_neg h2] at h; cases h
    · rw [if_neg h1] at h; cases h
theorem runS (j:Nat) {v:PV} {rs:List Rw} (w n:Nat) (hw:w <= 16) (hn:n < 1000) (hl:rs.length < 5000) (x y:Int) (st:Store)
    (h1:callT T 8 zbt [v] [] = .ok (.bl true) []) (h2:callT T 8 zcI [v,.int w,.int n,.int 4000] [] = .ok (.lst (rs.map rowV)) []) (h3:callT T 8 zbY [.lst (rs.map rowV)] [] = .ok (.bl true) []) :
    ∃ o,callT T (8 + j + 1) zgX [v,.int w,.int n,.int x,.int y] st = .ok (.loc st.length) (st ++ [o]) /\ ∃ L,Dc (st ++ [o]) st.length (runM (2 ^ w) rs (begM (2 ^ w) n x y) 0).1 L:=by
  have g1:=pure0 rfl rfl (lift8 h1 j) st
  have g2:=pure0 rfl rfl (lift8 h2 j) st
  have g3:=pure0 rfl rfl (lift8 h3 j) st
  obtain ⟨o,b1,b2⟩:=begun (5 + j) w n hw hn x y st
  rw [show 5 + j + 3 = 8 + j by omega] at b1
  have ht:=zgd (7 + j) w (by omega) (st ++ [o])
  rw [show 7 + j + 1 = 8 + j by omega] at ht
  obtain ⟨s2,u2,e1,⟨o2,e2⟩,e3⟩:=zhC (6 + j) (zrz w) (w_lt hw) (p0:=some v) (p1:=some (.int w)) (p2:=some (.int n)) (p3:=some (.int x)) (p4:=some (.int y)) (p5:=some (.lst (rs.map rowV))) rs _ 0 _ none _ b2 (by omega)
  rw [show 6 + j + 2 = 8 + j by omega] at e1
  have e4:s2 = st ++ [o2]:=by rw [e2]; simp
  rw [e4] at e1 e3
  refine ⟨o2,?_,_,e3⟩
  have hT:T zgX = some ⟨5,10,false,f_qrun.body⟩:=rfl
  have hb:f_qrun.body = (.cons (.ite (.not (.call 36 (.cons (.var 0) .nil))) (.cons .nope .nil) .nil) (.cons (.asg (.n 5) (.call 42 (.cons (.var 0) (.cons (.var 1) (.cons (.var 2) (.cons (.cst (.int 4000)) .nil)))))) (.cons (.ite (.or (.cmp .is (.var 5) (.cst .non)) (.not (.call 43 (.cons (.var 5) .nil)))) (.cons .nope .nil) .nil) (.cons (.asg (.n 6) (.call 44 (.cons (.var 1) (.cons (.var 2) (.cons (.var 3) (.cons (.var 4) .nil)))))) (.cons (.asg (.n 7) (.call 26 (.cons (.var 1) .nil))) (.cons (.asg (.n 8) (.cst (.int 0))) (.cons (.for (.n 9) (.seq (.var 5)) runB) (.cons (.ret (.var 6)) .nil)))))))):=rfl
  have ci:cmpV .is (.lst (rs.map rowV)) .non = some (.bl false):=rfl
  rw [callT,hT,hb]
  simp! [zbh,ev.eq_5,ev.eq_7,evi,g1,g2,g3,ci,b1,ht,ono,Bool.not_true,cond_false,onBl,e1]
end WK
namespace WK
open IC PySem
theorem Drw.refl {ns:List Int} {n:Nat} {st:Store} (h:Drw ns n st):Onl ns n st st:=by
  obtain ⟨a,p,f,ha,h⟩:=h
  exact ⟨a,p,f,ha,zki h⟩
noncomputable def worthB:Css:=match worthR with
  | .cons _ (.cons _ (.cons _ (.cons _ (.cons _ (.cons _ (.cons _ (.cons _ (.cons _ (.cons (.for _ _ b) _)))))))))=>b
  | _=>.nil
theorem zlD (k:Nat) {n:Nat} {ns:List Int} (hns:ns.length <= 1000) {p1 p2 p3 p4 p6 p8 u11 u12:Option PV} {d W acc a:Int} {st:Store} (h:Drw ns n st) (ha:0 <= a) (ha2:a < 1000) (hW:4 <= W) (hW2:W < 18446744073709551616) :
    ∃ e st' v11 v12,0 <= e /\ e < W /\ Onl ns n st st' /\ exs (callT T (k + 3)) [some (.loc n),p1,p2,p3,p4,some (.int a),p6,some (.int d),p8,some (.int W),some (.int acc),u11,u12] st worthB = .nx [some (.loc n),p1,p2,p3,p4,some (.int a),p6,some (.int d),p8,some (.int W),some (.int (acc * W + e)),v11,v12] st':=by
  obtain ⟨t,s1,d1,d2,o1,e1⟩:=takeD k hns (m:=5) (by omega) (by omega) h
  have hW0:0 < W:=by omega
  have hWm:W.natAbs < 18446744073709551616:=by omega
  have ha3:0 < a + 1:=by omega
  have ha4:a + 1 < 18446744073709551616 * 18446744073709551616:=by omega
  have q0:=Int.emod_nonneg (d / (a + 1)) (show W ≠ 0 by omega)
  have q1:=Int.emod_lt_of_pos (d / (a + 1)) hW0
  have ht:t = 0 \/ t = 1 \/ t = 2 \/ t = 3 \/ t = 4:=by omega
  rcases ht with rfl | rfl | rfl | rfl | rfl
  · refine ⟨0,s1,some (.int (d / (a + 1) % W)),some (.tup [.int 0,.int 1,.int (W - 1),.int (W / 2),.int (d / (a + 1) % W)]),by omega,by omega,o1,?_⟩
    dsimp! [worthB,worthR,f_qworth,x_asg,ev.eq_3,ev.eq_18,bT_n,nxO_some,List.set_cons_zero,List.set_cons_succ,zbs,zbu,zbH ha3 ha4,zbX hW0,zaX,zaK hWm,e1,ix2,ix3,ix4]
  · refine ⟨1,s1,some (.int (d / (a + 1) % W)),some (.tup [.int 0,.int 1,.int (W - 1),.int (W / 2),.int (d / (a + 1) % W)]),by omega,by omega,o1,?_⟩
    dsimp! [worthB,worthR,f_qworth,x_asg,ev.eq_3,ev.eq_18,bT_n,nxO_some,List.set_cons_zero,List.set_cons_succ,zbs,zbu,zbH ha3 ha4,zbX hW0,zaX,zaK hWm,e1,ix2,ix3,ix4]
  · refine ⟨W - 1,s1,some (.int (d / (a + 1) % W)),some (.tup [.int 0,.int 1,.int (W - 1),.int (W / 2),.int (d / (a + 1) % W)]),by omega,by omega,o1,?_⟩
    dsimp! [worthB,worthR,f_qworth,x_asg,ev.eq_3,ev.eq_18,bT_n,nxO_some,List.set_cons_zero,List.set_cons_succ,zbs,zbu,zbH ha3 ha4,zbX hW0,zaX,zaK hWm,e1,ix2,ix3,ix4]
  · refine ⟨W / 2,s1,some (.int (d / (a + 1) % W)),some (.tup [.int 0,.int 1,.int (W - 1),.int (W / 2),.int (d / (a + 1) % W)]),by omega,by omega,o1,?_⟩
    dsimp! [worthB,worthR,f_qworth,x_asg,ev.eq_3,ev.eq_18,bT_n,nxO_some,List.set_cons_zero,List.set_cons_succ,zbs,zbu,zbH ha3 ha4,zbX hW0,zaX,zaK hWm,e1,ix2,ix3,ix4]
  · refine ⟨d / (a + 1) % W,s1,some (.int (d / (a + 1) % W)),some (.tup [.int 0,.int 1,.int (W - 1),.int (W / 2),.int (d / (a + 1) % W)]),q0,q1,o1,?_⟩
    dsimp! [worthB,worthR,f_qworth,x_asg,ev.eq_3,ev.eq_18,bT_n,nxO_some,List.set_cons_zero,List.set_cons_succ,zbs,zbu,zbH ha3 ha4,zbX hW0,zaX,zaK hWm,e1,ix2,ix3,ix4]
theorem zg3 (k:Nat) {n:Nat} {ns:List Int} (hns:ns.length <= 1000) {p1 p2 p3 p4 p6 p8:Option PV} {d W:Int} (hW:4 <= W) (hW2:W < 18446744073709551616):∀ (r i:Nat) (a acc:Int) (u5 u11 u12:Option PV) (st:Store),0 <= a -> a + r < 1000 -> 0 <= acc -> acc < W ^ i -> Drw ns n st ->
    ∃ acc' st' v5 v11 v12,0 <= acc' /\ acc' < W ^ (i + r) /\ Onl ns n st st' /\ forB (callT T (k + 3)) (.n 5) worthB (rangeL r a 1) [some (.loc n),p1,p2,p3,p4,u5,p6,some (.int d),p8,some (.int W),some (.int acc),u11,u12] st = .nx [some (.loc n),p1,p2,p3,p4,v5,p6,some (.int d),p8,some (.int W),some (.int acc'),v11,v12] st'
  | 0,i,a,acc,u5,u11,u12,st,_,_,h0,h1,h=>⟨acc,st,u5,u11,u12,h0,h1,h.refl,by rw [rangeL,zaU]⟩
  | r + 1,i,a,acc,u5,u11,u12,st,ha,hr,h0,h1,h=>by
    obtain ⟨e,s1,v11,v12,e0,e1,o1,hs⟩:=zlD k hns (p1:=p1) (p2:=p2) (p3:=p3) (p4:=p4) (p6:=p6) (p8:=p8) (u11:=u11) (u12:=u12) (d:=d) (acc:=acc) h ha (by omega) hW hW2
    have hb:acc * W + e < W ^ (i + 1):=by
      have:=Int.mul_le_mul_of_nonneg_right (show acc <= W ^ i - 1 by omega) (show 0 <= W by omega)
      rw [Int.sub_mul,Int.one_mul] at this
      rw [Int.pow_succ]
      omega
    have hb0:0 <= acc * W:=Int.mul_nonneg h0 (by omega)
    obtain ⟨acc',s2,w5,w11,w12,f0,f1,o2,hf⟩:=zg3 k hns (p1:=p1) (p2:=p2) (p3:=p3) (p4:=p4) (p6:=p6) (p8:=p8) (d:=d) hW hW2 r (i + 1) (a + 1) (acc * W + e) (some (.int a)) v11 v12 s1 (by omega) (by omega) (by omega) hb (o1.drw h)
    refine ⟨acc',s2,w5,w11,w12,f0,by rw [show i + (r + 1) = i + 1 + r by omega]; exact f1,o1.trans o2,?_⟩
    rw [rangeL,zaF (ρ1:=[some (.loc n),p1,p2,p3,p4,some (.int a),p6,some (.int d),p8,some (.int W),some (.int acc),u11,u12]) rfl,hs]
    exact hf
theorem zjf (k:Nat) {n:Nat} {ns:List Int} (hns:ns.length <= 1000) {w z:Nat} {kd m:Int} {u5 u6 u7 u8 u9 u10 u11 u12:Option PV} {st:Store} (h:Drw ns n st) (hk:kd = 8 \/ kd = 9) (hw:4 <= w) (hw2:w <= 16) (hz:1 <= z) (hz2:z <= 4) (hm:m = 2 ^ (w * z)) :
    ∃ x st',0 <= x /\ x < m /\ Onl ns n st st' /\ exs (callT T (k + 3)) [some (.loc n),some (.int w),some (.int z),some (.int kd),some (.int m),u5,u6,u7,u8,u9,u10,u11,u12] st worthR = .rt (.int x) st':=by
  have hwz2:w * z <= 64:=Nat.mul_le_mul hw2 hz2
  have hm1:0 < m:=hm ▸ zhO _
  have hm2:m <= 18446744073709551616:=by
    have h64:(2:Nat) ^ (w * z) <= 2 ^ 64:=Nat.pow_le_pow_right (by omega) hwz2
    rw [hm,<- pw]
    omega
  obtain ⟨d,s1,d1,d2,o1,e1⟩:=takeD k hns (m:=m) (by omega) (by omega) h
  have hW4:(4:Int) <= 2 ^ w:=by
    have h:(2:Nat) ^ 2 <= 2 ^ w:=Nat.pow_le_pow_right (by omega) (by omega)
    have h2:=pw w
    omega
  have hWl:(2:Int) ^ w < 18446744073709551616:=by
    have h:(2:Nat) ^ w <= 2 ^ 16:=Nat.pow_le_pow_right (by omega) hw2
    have h2:=pw w
    omega
  have r1:rng1 (.int (w:Int)) = some (rangeL w 0 1):=zfQ w (by omega)
  have r2:rng1 (.int (z:Int)) = some (rangeL z 0 1):=zfQ z (by omega)
  have k1:¬ kd < 6:=by omega
  have k2:(kd == 6) = false:=by simp; omega
  have k3:(kd == 7) = false:=by simp; omega
  have k4:¬ 9 < kd:=by omega
  obtain ⟨u,hd,_⟩:=dbl (call:=callT T (k + 3)) (i:=9) (j:=5) (by omega) w 0 [some (.loc n),some (.int w),some (.int z),some (.int kd),some (.int m),u5,some (.tup [.int 0,.int 1,.int (m - 1),.int (m / 2),.int (m / 2 - 1),.int (m - 2)]),some (.int d),u8,some (.int 1),u10,u11,u12] 1 s1 rfl
  simp only [List.set_cons_zero,List.set_cons_succ,Int.mul_one] at hd
  obtain ⟨acc',s2,w5,w11,w12,f0,f1,o2,hf⟩:=zg3 k hns (p1:=some (.int w)) (p2:=some (.int z)) (p3:=some (.int kd)) (p4:=some (.int m)) (p6:=some (.tup [.int 0,.int 1,.int (m - 1),.int (m / 2),.int (m / 2 - 1),.int (m - 2)])) (p8:=u8) (d:=d) (W:=2 ^ w) hW4 hWl z 0 0 0 u u11 u12 s1 (by omega) (by omega) (by omega) (by simp) (o1.drw h)
  rw [Nat.zero_add,<- Int.pow_mul,<- hm] at f1
  refine ⟨acc',s2,f0,f1,o1.trans o2,?_⟩
  have hR:worthR = .cons (.asg (.n 6) (.tup (.cons (.cst (.int 0)) (.cons (.cst (.int 1)) (.cons (.bin .sub (.var 4) (.cst (.int 1))) (.cons (.bin .fdiv (.var 4) (.cst (.int 2))) (.cons (.bin .sub (.bin .fdiv (.var 4) (.cst (.int 2))) (.cst (.int 1))) (.cons (.bin .sub (.var 4) (.cst (.int 2))) .nil)))))))) (match worthR with
    | .cons _ (.cons a (.cons b (.cons c (.cons d (.cons e (.cons f (.cons g (.cons h (.cons (.for t i _) r)))))))))=>.cons a (.cons b (.cons c (.cons d (.cons e (.cons f (.cons g (.cons h (.cons (.for t i worthB) r))))))))
    | _=>.nil):=rfl
  rw [hR]
  simp only [worthR,f_qworth,xs_cons,xs_nil,x_asg,x_ite,x_ret,zbh,evi,r1,r2,toL,ev.eq_1,ev.eq_2,ev.eq_3,ev.eq_8,ev.eq_11,ev.eq_16,ev.eq_18,evs,bd_ok,fl_ok,toR_some,bT_n,nxO_some,th_nx,th_rt,List.set_cons_zero,List.set_cons_succ,List.getElem?_cons_zero,List.getElem?_cons_succ,zbu,zaX,c_lt,c_eq,c_gt,on_t,t_bl,k1,k2,k3,k4,decide_false,cond_false,e1,hd,hf,List.length_cons,List.length_nil,Nat.zero_add,Nat.reduceAdd,sizeMax,Nat.reduceLeDiff,if_true]
end WK
namespace WK
open IC PySem
theorem worth (k:Nat) {n:Nat} {ns:List Int} (hns:ns.length <= 1000) (w z:Nat) (hw:4 <= w) (hw2:w <= 16) (hz:1 <= z) (hz2:z <= 4) {st:Store} (h:Drw ns n st) :
    ∃ x st',0 <= x /\ x < 2 ^ (w * z) /\ Onl ns n st st' /\ callT T (k + 4) zj7 [.loc n,.int w,.int z] st = .ok (.int x) st':=by
  obtain ⟨kd,s1,d1,d2,o1,e1⟩:=takeD k hns (m:=12) (by omega) (by omega) h
  have h1:=o1.drw h
  have hwz2:w * z <= 64:=Nat.mul_le_mul hw2 hz2
  have hwz:4 <= w * z:=Nat.mul_le_mul hw hz
  have hm:(16:Int) <= 2 ^ (w * z):=by
    have h:(2:Nat) ^ 4 <= 2 ^ (w * z):=Nat.pow_le_pow_right (by omega) hwz
    have h2:=pw (w * z)
    omega
  have hm2:(2:Int) ^ (w * z) <= 18446744073709551616:=by
    have h:(2:Nat) ^ (w * z) <= 2 ^ 64:=Nat.pow_le_pow_right (by omega) hwz2
    have h2:=pw (w * z)
    omega
  have hwa:(w:Int).natAbs < 18446744073709551616:=by omega
  have hwm:(w:Int) * (z:Int) = ((w * z:Nat):Int):=by simp
  have r1:rng1 (.int ((w * z:Nat):Int)) = some (rangeL (w * z) 0 1):=zfQ _ (by omega)
  obtain ⟨u,hd,_⟩:=dbl (call:=callT T (k + 3)) (i:=4) (j:=5) (by omega) (w * z) 0 [some (.loc n),some (.int w),some (.int z),some (.int kd),some (.int 1),none,none,none,none,none,none,none,none] 1 s1 rfl
  simp only [List.set_cons_zero,List.set_cons_succ,Int.mul_one] at hd
  have key:∃ x st',0 <= x /\ x < 2 ^ (w * z) /\ Onl ns n s1 st' /\ exs (callT T (k + 3)) [some (.loc n),some (.int w),some (.int z),some (.int kd),some (.int (2 ^ (w * z))),u,none,none,none,none,none,none,none] s1 worthR = .rt (.int x) st':=by
    rcases (by omega:kd < 6 \/ (kd = 6 \/ kd = 7) \/ (kd = 8 \/ kd = 9) \/ 9 < kd) with q | q | q | q
    · obtain ⟨x,a,b,e⟩:=zk5 (c:=callT T (k + 3)) (n:=n) (w:=w) (z:=z) (st:=s1) (u5:=u) (u6:=none) (u7:=none) (u8:=none) (u9:=none) (u10:=none) (u11:=none) (u12:=none) d1 q hm
      exact ⟨x,s1,a,b,h1.refl,e⟩
    · exact zkN k hns h1 q (by omega) (by omega) (by omega) (by omega) (by rw [hwm,Int.toNat_natCast])
    · exact zjf k hns h1 q hw hw2 hz hz2 rfl
    · exact zm0 k hns h1 q hm hm2
  obtain ⟨x,s2,a,b,o2,e2⟩:=key
  refine ⟨x,s2,a,b,o1.trans o2,?_⟩
  have hT:T zj7 = some ⟨3,13,false,f_qworth.body⟩:=rfl
  have hb:f_qworth.body = .cons (.asg (.n 3) (.call 24 (.cons (.var 0) (.cons (.cst (.int 12)) .nil)))) (.cons (.asg (.n 4) (.cst (.int 1))) (.cons (.for (.n 5) (.range1 (.bin .mul (.var 1) (.var 2))) (.cons (.asg (.n 4) (.bin .mul (.cst (.int 2)) (.var 4))) .nil)) worthR)):=rfl
  rw [callT,hT,hb]
  simp only [List.length_cons,List.length_nil,Nat.zero_add,Nat.reduceAdd,if_true,Bool.false_eq_true,if_false,List.map_cons,List.map_nil,Nat.reduceSub,List.replicate,List.cons_append,List.nil_append]
  rw [xs_cons,x_asg]
  simp only [ev.eq_18,ev.eq_1,ev.eq_2,evs,List.getElem?_cons_zero,List.getElem?_cons_succ,bd_ok,fl_ok,e1,bT_n,nxO_some,th_nx,List.set_cons_zero,List.set_cons_succ]
  rw [xs_cons,x_asg]
  simp only [ev.eq_1,bd_ok,fl_ok,bT_n,nxO_some,th_nx,List.set_cons_zero,List.set_cons_succ]
  rw [xs_cons,zbh]
  simp only [evi,ev.eq_2,ev.eq_3,List.getElem?_cons_zero,List.getElem?_cons_succ,bd_ok,fl_ok,zbV hwa,hwm,r1,toL,toR_some,hd,th_nx,e2]
end WK
namespace WK
open IC PySem
theorem zq5 (k:Nat) {b:Bool} {c i j m I J n:Int} (hi:i.natAbs <= 200) (hj:j.natAbs <= 200) (hm:m.natAbs <= 200) (st:Store):callT T (k + 1) zrr [.tp b [.int c,.int i,.int j,.int m],.int I,.int J,.int n] st = .ok (.int (c + i * I + j * J + m * n)) st:=by
  have hT:T zrr = some znX:=rfl
  have h1:i.natAbs < 18446744073709551616:=by omega
  have h2:j.natAbs < 18446744073709551616:=by omega
  have h3:m.natAbs < 18446744073709551616:=by omega
  rw [callT,hT]
  simp only [znX,List.length_cons,List.length_nil,Nat.zero_add,Nat.reduceAdd,if_true,noLocs,noLoc,Bool.and_self,List.map_cons,List.map_nil,Nat.reduceSub,List.replicate,List.append_nil,List.cons_append,List.nil_append,xs_cons,xs_nil,x_ret,ev.eq_1,ev.eq_2,ev.eq_3,ev.eq_16,List.getElem?_cons_zero,List.getElem?_cons_succ,bd_ok,fl_ok,toR_some,ix0,ix1,ix2,ix3,zbV h1,zbV h2,zbV h3,zbs,th_rt]
noncomputable def plB:Css:=match f_qplain_row.body with
  | .cons _ (.cons (.for _ _ b) _)=>b
  | _=>.nil
theorem zg8 (k:Nat) {p0:Option PV} {I J n:Int}:∀ (vs:List PV) (ops:List Op) (acc:List PV) (u:Option PV),opsOf vs = some ops -> acc.length + vs.length < 1000000 ->
    ∃ u',forB (callT T (k + 1)) (.n 5) plB vs [p0,some (.int I),some (.int J),some (.int n),some (.loc 0),u] [.lst acc] = .nx [p0,some (.int I),some (.int J),some (.int n),some (.loc 0),u'] [.lst (acc ++ ops.map (Op.pv I J n))]
  | [],ops,acc,u,h,_=>by
    cases h
    exact ⟨u,by rw [zaU]; simp⟩
  | v :: vs,ops,acc,u,h,hl=>by
    rw [List.length_cons] at hl
    unfold opsOf at h
    split at h
    · rename_i a b ha hb
      cases h
      obtain ⟨u',e⟩:=zg8 k (p0:=p0) (I:=I) (J:=J) (n:=n) vs b (acc ++ [Op.pv I J n a]) (some v) hb (by simp; omega)
      refine ⟨u',?_⟩
      have hal:acc.length < 1000000:=by omega
      have hm:mthOk .append [Ob.lst acc] (.loc 0) = some true:=rfl
      have hap:∀ x:PV,mthV .append [Ob.lst acc] (.loc 0) [x] = .ok .non [.lst (acc ++ [x])]:=fun x=>by simp [mthV,appV,hal]
      have hs:exs (callT T (k + 1)) [p0,some (.int I),some (.int J),some (.int n),some (.loc 0),some v] [.lst acc] plB = .nx [p0,some (.int I),some (.int J),some (.int n),some (.loc 0),some v] [.lst (acc ++ [Op.pv I J n a])]:=by
        rcases zm6 ha with ⟨d,rfl,rfl⟩ | ⟨f1,f2,x,rfl,rfl,q1,q2,q3⟩
        · have hi:isiV (.int d) [.tuple] = some (.bl false):=rfl
          simp only [plB,f_qplain_row,xs_cons,xs_nil,x_ite,zeE,ev.eq_2,ev.eq_20,ev.eq_21,evs,List.getElem?_cons_zero,List.getElem?_cons_succ,bd_ok,fl_ok,toR_some,hi,t_bl,on_t,cond_false,hm,ono,hap,th_nx,Op.pv]
        · have hi:isiV (.tp f1 [.str (chS x.l),.tp f2 [.int x.c,.int x.i,.int x.j,.int x.m]]) [.tuple] = some (.bl true):=rfl
          have hat:=zq5 k (b:=f2) (c:=x.c) (I:=I) (J:=J) (n:=n) q1 q2 q3 [.lst acc]
          dsimp! [plB,f_qplain_row,x_ite,zeE,ev.eq_18,ev.eq_20,ev.eq_21,hi,t_bl,on_t,cond_true,hm,ono,hap,Op.pv,hat,cellV,Cx.at]
      rw [zaF (ρ1:=[p0,some (.int I),some (.int J),some (.int n),some (.loc 0),some v]) rfl,hs]
      show forB _ _ _ _ _ _ = _
      rw [e]
      simp
    · cases h
theorem zoi (I J n:Int) (o:Op):noLoc (o.pv I J n) = true:=by cases o <;> rfl
theorem zin (I J n:Int):∀ ops:List Op,noLocs (ops.map (Op.pv I J n)) = true
  | []=>rfl
  | o :: ops=>by simp [noLocs,zoi,zin I J n ops]
theorem zoc {v:PV} {o:Op} (h:opOf v = some o):noLoc v = true:=by
  rcases zm6 h with ⟨d,rfl,rfl⟩ | ⟨f1,f2,x,rfl,rfl,_⟩ <;> rfl
theorem ziV:∀ {vs:List PV} {ops:List Op},opsOf vs = some ops -> noLocs vs = true
  | [],_,_=>rfl
  | v :: vs,ops,h=>by
    unfold opsOf at h
    split at h
    · rename_i a b ha hb
      simp [noLocs,zoc ha,ziV hb]
    · cases h
theorem zlK {v:PV} {r:Rs} (h:rowOf v = some r):noLoc v = true:=by
  obtain ⟨a,vs,rfl,h2,_⟩:=zkE h
  simp [noLoc,noLocs,ziV h2]
theorem zgG (k:Nat) {v:PV} {r:Rs} (h:rowOf v = some r) (I J n:Int) (st:Store):callT T (k + 2) zc9 [v,.int I,.int J,.int n] st = .ok (r.pv I J n) st:=by
  have hnv:=zlK h
  obtain ⟨a,vs,rfl,h2,h3⟩:=zkE h
  obtain ⟨u',e⟩:=zg8 k (p0:=some (.tp a (.str r.nm :: vs))) (I:=I) (J:=J) (n:=n) vs r.ops [.str r.nm] none h2 (by simp; omega)
  have hT:T zc9 = some ⟨4,6,true,f_qplain_row.body⟩:=rfl
  have hb:f_qplain_row.body = .cons (.asg (.n 4) (.newl (.cons (.idx (.var 0) (.cst (.int 0))) .nil))) (.cons (.for (.n 5) (.seq (.slc (.var 0) (.cst (.int 1)) (.cst .non))) plB) (.cons (.ret (.blt .tuple (.cons (.var 4) .nil))) .nil)):=rfl
  have hsl:slcV (.tp a (.str r.nm :: vs)) (some 1) .non = some (.tup vs):=by
    have h1:clampI (vs.length + 1) 1 = 1:=by simp [clampI]
    simp [slcV,optI,slcO,loOf,hiOf,cut,h1]
  have hnl:noLocs [.tp a (.str r.nm :: vs),.int I,.int J,.int n] = true:=by simp [noLocs,noLoc] at hnv ⊢; exact hnv
  rw [callT,hT,hb]
  simp only [List.length_cons,List.length_nil,Nat.zero_add,Nat.reduceAdd,if_true,hnl,List.map_cons,List.map_nil,Nat.reduceSub,List.replicate,List.cons_append,List.nil_append]
  rw [xs_cons,x_asg]
  simp only [ev.eq_1,ev.eq_2,ev.eq_13,ev.eq_16,evs,List.getElem?_cons_zero,List.getElem?_cons_succ,bd_ok,fl_ok,toR_some,ix0,List.length_cons,List.length_nil,Nat.zero_add,sizeMax,Nat.reduceLeDiff,if_true,bT_n,nxO_some,th_nx,List.set_cons_zero,List.set_cons_succ,List.nil_append]
  rw [xs_cons,zbh]
  simp only [evi,ev.eq_1,ev.eq_2,ev.eq_17,List.getElem?_cons_zero,List.getElem?_cons_succ,bd_ok,fl_ok,optI,onP,hsl,toR_some,e,th_nx]
  simp [xs_cons,xs_nil,x_ret,ev.eq_2,ev.eq_19,evs,bltV,tupV,lstOf,toR,R.fl,R.bind,thenF,noLoc,noLocs,zin,Rs.pv]
end WK
namespace WK
open IC PySem
theorem zjM {α:Type} (f:Nat -> List α) {i:Nat}:∀ n,i <= n -> (upTo f i).length <= (upTo f n).length
  | 0,h=>by rw [show i = 0 by omega]; exact Nat.le_refl _
  | n + 1,h=>by
    by_cases e:i = n + 1
    · rw [e]; exact Nat.le_refl _
    · have:=zjM f n (show i <= n by omega)
      simp [upTo]; omega
theorem zbz:∀ (N:Nat) (a:Int) (j:Nat) (x:PV),(rangeL N a 1)[j]? = some x -> x = .int (a + j) /\ j < N
  | 0,a,j,x,h=>by simp [rangeL] at h
  | N + 1,a,0,x,h=>by simp [rangeL] at h; exact ⟨by simp [h],by omega⟩
  | N + 1,a,j + 1,x,h=>by
    simp [rangeL] at h
    obtain ⟨h1,h2⟩:=zbz N (a + 1) j x h
    exact ⟨by rw [h1]; congr 1; omega,by omega⟩
theorem zay:∀ (N:Nat) (a:Int),(rangeL N a 1).length = N
  | 0,_=>rfl
  | N + 1,a=>by simp [rangeL,zay N]
theorem zia {c m t w n:Int} (hc:c.natAbs <= 200) (hm:m.natAbs <= 200) (ht:t.natAbs <= 200) (w0:0 <= w) (w1:w <= 16) (n0:0 <= n) (n1:n <= 8):(c + m * n + t * w * n).natAbs < 1000000:=by
  have h1:(m * n).natAbs <= 200 * 8:=by rw [Int.natAbs_mul]; exact Nat.mul_le_mul hm (by omega)
  have h2:(t * w * n).natAbs <= 200 * 16 * 8:=by rw [Int.natAbs_mul,Int.natAbs_mul]; exact Nat.mul_le_mul (Nat.mul_le_mul ht (by omega)) (by omega)
  generalize m * n = A at *
  generalize t * w * n = B at *
  omega
theorem zi1 (k:Nat) {b:Bool} {c m t w n:Int} (hm:m.natAbs <= 200) (ht:t.natAbs <= 200) (n0:0 <= n) (n1:n <= 8) (st:Store):callT T (k + 1) zkH [.tp b [.int c,.int m,.int t],.int w,.int n] st = .ok (.int (c + m * n + t * w * n)) st:=by
  have hT:T zkH = some zfM:=rfl
  have h1:m.natAbs < 18446744073709551616:=by omega
  have h2:t.natAbs < 18446744073709551616:=by omega
  have h3:n.natAbs < 18446744073709551616:=by omega
  rw [callT,hT]
  simp only [zfM,List.length_cons,List.length_nil,Nat.zero_add,Nat.reduceAdd,if_true,noLocs,noLoc,Bool.and_self,List.map_cons,List.map_nil,Nat.reduceSub,List.replicate,List.append_nil,List.cons_append,List.nil_append,xs_cons,xs_nil,x_ret,ev.eq_1,ev.eq_2,ev.eq_3,ev.eq_16,List.getElem?_cons_zero,List.getElem?_cons_succ,bd_ok,fl_ok,toR_some,ix0,ix1,ix2,zbV h1,zbV h2,zaK h3,zbs,th_rt]
theorem zoB {call:Cl} {ρ:IC.Env} {st:Store} {e:Ce} {R v:Int} (h:ρ[5]? = some (some (.int R))) (he:ev call ρ st e = .ok (.int v) st):ex call ρ st (.aug 5 .add e) = .nx (ρ.set 5 (some (.int (R + v)))) st:=by
  rw [zqi h,he]
  rfl
noncomputable def unB6:Css:=match f_qunrolled.body with
  | .cons _ (.cons _ (.cons (.for _ _ b) _))=>b
  | _=>.nil
noncomputable def unB7:Css:=match unB6 with
  | .cons (.ite _ _ (.cons (.for _ _ b) _)) _=>b
  | _=>.nil
noncomputable def unB8:Css:=match unB7 with
  | .cons _ (.cons (.for _ _ b) _)=>b
  | _=>.nil
noncomputable def unB10:Css:=match unB8 with
  | .cons (.ite _ _ (.cons (.ite _ (.cons _ (.cons _ (.cons (.for _ _ b) _))) _) _)) _=>b
  | _=>.nil
noncomputable def unC:Ce:=.call zc9 (.cons (.idx (.var 0) (.cst (.int 1))) (.cons (.var 1) (.cons (.var 2) (.cons (.var 3) .nil))))
theorem zi4 (k:Nat) {I J n:Int} {st:Store}:∀ (vs:List PV) (rs:List Rs),deepOf vs = some rs -> compB (callT T (k + 2)) [none,some (.int I),some (.int J),some (.int n)] (.n 0) (.cst (.bl true)) unC vs st = .ok (rs.map fun r=>r.pv I J n) st
  | [],rs,h=>by cases h; exact ziz
  | v :: vs,rs,h=>by
    unfold deepOf at h
    split at h
    · rename_i a b ha hb
      cases h
      obtain ⟨f,v1,rfl,h1⟩:=zjS ha
      have hp:=zgG k h1 I J n st
      have ih:=zi4 k (I:=I) (J:=J) (n:=n) (st:=st) vs b hb
      have h1:oneB (callT T (k + 2)) [none,some (.int I),some (.int J),some (.int n)] (.n 0) (.cst (.bl true)) unC (.tp f [.str (Str.ofString "row"),v1]) st = .ok (some (a.pv I J n)) st:=by
        simp only [oneB,unC,bT_n,List.set_cons_zero,ev.eq_1,ev.eq_2,ev.eq_16,ev.eq_18,evs,List.getElem?_cons_zero,List.getElem?_cons_succ,bd_ok,t_bl,ono,cond_true,toR_some,ix1,hp]
      rw [zhc,h1,bd_ok,ih,bd_ok]
      rfl
    · cases h
theorem zro {acc:List PV}:mthOk .extend [Ob.lst acc] (.loc 0) = some true:=rfl
theorem zoL {acc:List PV}:mthOk .append [Ob.lst acc] (.loc 0) = some true:=rfl
theorem len0 {acc:List PV}:bltV .len [Ob.lst acc] [.loc 0] = some (.int acc.length):=rfl
theorem zmF (k:Nat) {p0 p6 p9:Option PV} {w n I J R:Int} {f:Bool} {s c sn:PV} {d:Bool} {vs:List PV} {rs:List Rs} (hd:deepOf vs = some rs) {acc:List PV} (hR:R <= 4000) (hl:acc.length + rs.length <= 4000) :
    exs (callT T (k + 2)) [p0,some (.int w),some (.int n),some (.int 4000),some (.loc 0),some (.int R),p6,some (.int I),some (.tp f [s,c,sn,.tp d vs]),p9,some (.int J)] [.lst acc] unB10 = .nx [p0,some (.int w),some (.int n),some (.int 4000),some (.loc 0),some (.int R),p6,some (.int I),some (.tp f [s,c,sn,.tp d vs]),p9,some (.int J)] [.lst (acc ++ rs.map fun r=>r.pv I J n)]:=by
  have hc:=zi4 k (I:=I) (J:=J) (n:=n) (st:=[.lst acc]) vs rs hd
  have h1:(acc.length:Int) <= 4000:=by omega
  have h2:rs.length <= 1000000:=by omega
  have h3:acc.length + rs.length <= 1000000:=by omega
  have hls:lstR (.ok (rs.map fun r=>r.pv I J n) [.lst acc]) = .ok (.lst (rs.map fun r=>r.pv I J n)) [.lst acc]:=by simp [lstR,h2]
  have hex:mthV .extend [Ob.lst acc] (.loc 0) [.lst (rs.map fun r=>r.pv I J n)] = .ok .non [.lst (acc ++ rs.map fun r=>r.pv I J n)]:=by simp [mthV,extV,h3]
  have hb:unB10 = .cons (.ite (.and (.cmp .le (.var 5) (.cst (.int 4000))) (.cmp .le (.blt .len (.cons (.var 4) .nil)) (.var 3))) (.cons (.expr (.mth .extend (.var 4) (.cons (.comp [none,some 7,some 10,some 2] (.n 0) (.seq (.idx (.var 8) (.cst (.int 3)))) (.cst (.bl true)) unC) .nil))) .nil) .nil) .nil:=rfl
  rw [hb]
  simp only [xs_cons,xs_nil,x_ite,zeE,zoG,evi,ev.eq_1,ev.eq_2,ev.eq_6,ev.eq_8,ev.eq_16,ev.eq_19,ev.eq_20,evs,List.getElem?_cons_zero,List.getElem?_cons_succ,bd_ok,fl_ok,toR_some,len0,c_le,hR,h1,decide_true,onBl,cond_true,t_bl,on_t,ono,zro,List.map_cons,List.map_nil,Option.bind_none,Option.bind_some,Option.join_some,ix3,hc,hls,hex,th_nx]
theorem un10 (k:Nat) {p0 p6 p9:Option PV} {w n R:Int} {I:Nat} {f:Bool} {s c sn:PV} {d:Bool} {vs:List PV} {rs:List Rs} (hd:deepOf vs = some rs) {acc:List PV} {N:Nat} {u:Option PV} (hR:R <= 4000) (hl:acc.length + (upTo (fun J=>rs.map fun r=>r.pv I J n) N).length <= 4000) :
    ∃ u',forB (callT T (k + 2)) (.n 10) unB10 (rangeL N 0 1) [p0,some (.int w),some (.int n),some (.int 4000),some (.loc 0),some (.int R),p6,some (.int I),some (.tp f [s,c,sn,.tp d vs]),p9,u] [.lst acc] = .nx [p0,some (.int w),some (.int n),some (.int 4000),some (.loc 0),some (.int R),p6,some (.int I),some (.tp f [s,c,sn,.tp d vs]),p9,u'] [.lst (acc ++ upTo (fun J=>rs.map fun r=>r.pv I J n) N)]:=by
  obtain ⟨ρ',st',h1,u',rfl,rfl⟩:=zeL (call:=callT T (k + 2)) (t:=.n 10) (b:=unB10) (fun i ρ st=>∃ u,ρ = [p0,some (.int w),some (.int n),some (.int 4000),some (.loc 0),some (.int R),p6,some (.int I),some (.tp f [s,c,sn,.tp d vs]),p9,u] /\ st = [.lst (acc ++ upTo (fun J=>rs.map fun r=>r.pv I J n) i)]) (rangeL N 0 1) 0 [p0,some (.int w),some (.int n),some (.int 4000),some (.loc 0),some (.int R),p6,some (.int I),some (.tp f [s,c,sn,.tp d vs]),p9,u] [.lst acc] ⟨u,rfl,by simp [upTo]⟩ (by
    rintro j x ρ st hx ⟨u,rfl,rfl⟩
    obtain ⟨rfl,hj⟩:=zbz N 0 j x hx
    rw [Nat.zero_add,Int.zero_add]
    have hle:=zjM (fun J=>rs.map fun r=>r.pv I J n) (i:=j + 1) N (by omega)
    simp only [upTo,List.length_append,List.length_map] at hle hl
    refine ⟨_,_,_,rfl,zmF k hd hR (by simp; omega),_,rfl,?_⟩
    rw [upTo,List.append_assoc])
  rw [zay,Nat.zero_add] at h1
  exact ⟨u',h1⟩
theorem zg0:cmpV .eq (.str (Str.ofString "row")) (.str (Str.ofString "row")) = some (.bl true):=by with_unfolding_all rfl
theorem zha:cmpV .eq (.str (Str.ofString "rounds")) (.str (Str.ofString "row")) = some (.bl false):=by with_unfolding_all rfl
theorem app0 {acc:List PV} {x:PV} (h:acc.length < 1000000):mthV .append [Ob.lst acc] (.loc 0) [x] = .ok .non [.lst (acc ++ [x])]:=by simp [mthV,appV,h]
theorem zmK {z:Int} (h:z.natAbs < 1000000):rng1 (.int z) = some (rangeL z.toNat 0 1):=by
  simp only [rng1]
  rw [if_pos (by omega)]
theorem zoj (k:Nat) {p0 p6 u9 u10:Option PV} {w n R:Int} {I:Nat} {v:PV} {p:T2} (hp:part2 v = some p) {acc:List PV} (w0:0 <= w) (w1:w <= 16) (n0:0 <= n) (n1:n <= 8) (hR0:0 <= R) (hR:R + p.rnd w n <= 4000) (hl:acc.length + (p.rows w n I).length <= 4000) :
    ∃ v9 v10,exs (callT T (k + 2)) [p0,some (.int w),some (.int n),some (.int 4000),some (.loc 0),some (.int R),p6,some (.int I),some v,u9,u10] [.lst acc] unB8 = .nx [p0,some (.int w),some (.int n),some (.int 4000),some (.loc 0),some (.int (R + p.rnd w n)),p6,some (.int I),some v,v9,v10] [.lst (acc ++ p.rows w n I)]:=by
  rcases zoh hp with ⟨r,rfl,hr⟩ | ⟨a,b,sn,d,vs,c,m,t,rs,rfl,rfl,hd,hc,hm,ht⟩
  · obtain ⟨f,v1,rfl,h1⟩:=zjS hr
    have hpl:=zgG k h1 I 0 n [.lst acc]
    have hal:acc.length < 1000000:=by omega
    refine ⟨u9,u10,?_⟩
    simp only [unB8,unB7,unB6,f_qunrolled,xs_cons,xs_nil,x_ite,zeE,ev.eq_1,ev.eq_2,ev.eq_8,ev.eq_16,ev.eq_18,ev.eq_20,evs,List.getElem?_cons_zero,List.getElem?_cons_succ,bd_ok,fl_ok,toR_some,ix0,ix1,zg0,t_bl,on_t,cond_true,ono,zoL,hpl,app0 hal,th_nx,T2.rnd,T2.rows]
    simp
  · have hcn:=zi1 (k + 1) (b:=b) (c:=c) (w:=w) hm ht n0 n1 [.lst acc]
    have hcb:=zia hc hm ht w0 w1 n0 n1
    simp only [T2.rnd,T2.rows] at hR hl ⊢
    have hN:((cnt c m t w n:Nat):Int) = if 0 < (c + m * n + t * w * n) then (c + m * n + t * w * n) else 0:=by
      unfold cnt; split <;> omega
    have h40:R <= 4000:=by omega
    have hal:(acc.length:Int) <= 4000:=by omega
    have hmax:bltV .max [Ob.lst acc] [.int 0,.int (c + m * n + t * w * n)] = some (.int ((cnt c m t w n:Nat):Int)):=by
      simp only [bltV,maxV]; rw [hN]
    have hmin:bltV .min [Ob.lst acc] [.int ((cnt c m t w n:Nat):Int),.int 4001] = some (.int ((cnt c m t w n:Nat):Int)):=by
      simp only [bltV,minV]; rw [if_neg (by omega)]
    have hrg:rng1 (.int ((cnt c m t w n:Nat):Int)) = some (rangeL (cnt c m t w n) 0 1):=by
      rw [zmK (by omega),Int.toNat_natCast]
    obtain ⟨u',e⟩:=un10 k (p0:=p0) (p6:=p6) (p9:=some (.int ((cnt c m t w n:Nat):Int))) (w:=w) (n:=n) (R:=R + (cnt c m t w n:Nat)) (I:=I) (f:=a) (s:=.str (Str.ofString "rounds")) (c:=.tp b [.int c,.int m,.int t]) (sn:=sn) (d:=d) hd (acc:=acc) (N:=cnt c m t w n) (u:=u10) hR hl
    refine ⟨some (.int ((cnt c m t w n:Nat):Int)),u',?_⟩
    have hau:∀ st,ex (callT T (k + 2)) [p0,some (.int w),some (.int n),some (.int 4000),some (.loc 0),some (.int R),p6,some (.int I),some (.tp a [.str (Str.ofString "rounds"),.tp b [.int c,.int m,.int t],sn,.tp d vs]),some (.int ((cnt c m t w n:Nat):Int)),u10] st (.aug 5 .add (.var 9)) = .nx [p0,some (.int w),some (.int n),some (.int 4000),some (.loc 0),some (.int (R + (cnt c m t w n:Nat))),p6,some (.int I),some (.tp a [.str (Str.ofString "rounds"),.tp b [.int c,.int m,.int t],sn,.tp d vs]),some (.int ((cnt c m t w n:Nat):Int)),u10] st:=fun st=>zoB rfl (by simp only [ev.eq_2,List.getElem?_cons_zero,List.getElem?_cons_succ])
    have hb:unB8 = (match unB8 with
      | .cons (.ite q1 q2 (.cons (.ite q3 (.cons q4 (.cons q5 (.cons (.for q6 q7 _) q8))) q9) q10)) q11=>.cons (.ite q1 q2 (.cons (.ite q3 (.cons q4 (.cons q5 (.cons (.for q6 q7 unB10) q8))) q9) q10)) q11
      | _=>.nil):=rfl
    rw [hb]
    simp only [unB8,unB7,unB6,f_qunrolled,xs_cons,xs_nil,x_ite,x_asg,zbh,evi,ev.eq_1,ev.eq_2,ev.eq_6,ev.eq_8,ev.eq_16,ev.eq_18,ev.eq_19,evs,List.getElem?_cons_zero,List.getElem?_cons_succ,bd_ok,fl_ok,toR_some,ix0,ix1,ix3,zha,t_bl,on_t,onBl,cond_true,cond_false,c_le,len0,h40,hal,decide_true,hcn,hmax,hmin,bT_n,nxO_some,th_nx,List.set_cons_zero,List.set_cons_succ,hau,hrg,toL,e]
theorem un8 (k:Nat) {p0 p6:Option PV} {w n:Int} {I:Nat} (w0:0 <= w) (w1:w <= 16) (n0:0 <= n) (n1:n <= 8):∀ (vs:List PV) (ps:List T2) (R:Int) (acc:List PV) (u8 u9 u10:Option PV),parts2 vs = some ps -> 0 <= R -> R + rnd2 w n ps <= 4000 -> acc.length + (rows2 w n I ps).length <= 4000 ->
    ∃ v8 v9 v10,forB (callT T (k + 2)) (.n 8) unB8 vs [p0,some (.int w),some (.int n),some (.int 4000),some (.loc 0),some (.int R),p6,some (.int I),u8,u9,u10] [.lst acc] = .nx [p0,some (.int w),some (.int n),some (.int 4000),some (.loc 0),some (.int (R + rnd2 w n ps)),p6,some (.int I),v8,v9,v10] [.lst (acc ++ rows2 w n I ps)]
  | [],ps,R,acc,u8,u9,u10,h,_,_,_=>by
    cases h
    exact ⟨u8,u9,u10,by rw [zaU]; simp [rnd2,rows2]⟩
  | v :: vs,ps,R,acc,u8,u9,u10,h,hR0,hR,hl=>by
    unfold parts2 at h
    split at h
    · rename_i a b ha hb
      cases h
      have q1:rnd2 w n (a :: b) = a.rnd w n + rnd2 w n b:=by simp [rnd2]
      have q2:rows2 w n I (a :: b) = a.rows w n I ++ rows2 w n I b:=by simp [rows2]
      rw [q1] at hR
      rw [q2,List.length_append] at hl
      obtain ⟨v9,v10,e1⟩:=zoj k (p0:=p0) (p6:=p6) (u9:=u9) (u10:=u10) (R:=R) (I:=I) ha (acc:=acc) w0 w1 n0 n1 hR0 (by omega) (by omega)
      obtain ⟨x8,x9,x10,e2⟩:=un8 k (p0:=p0) (p6:=p6) (I:=I) w0 w1 n0 n1 vs b (R + a.rnd w n) (acc ++ a.rows w n I) (some v) v9 v10 hb (by omega) (by omega) (by rw [List.length_append]; omega)
      refine ⟨x8,x9,x10,?_⟩
      rw [zaF (ρ1:=[p0,some (.int w),some (.int n),some (.int 4000),some (.loc 0),some (.int R),p6,some (.int I),some v,u9,u10]) rfl,e1,q1,q2]
      show forB _ _ _ _ _ _ = _
      rw [e2,List.append_assoc,Int.natCast_add,Int.add_assoc]
    · cases h
theorem znI (k:Nat) {p0 u8 u9 u10:Option PV} {w n R:Int} {I:Nat} {a b d:Bool} {sn:PV} {vs:List PV} {c m t:Int} {ps:List T2} (hp:parts2 vs = some ps) {acc:List PV} (w0:0 <= w) (w1:w <= 16) (n0:0 <= n) (n1:n <= 8) (hR0:0 <= R) (hR:R + 1 + rnd2 w n ps <= 4000) (hl:acc.length + (rows2 w n I ps).length <= 4000) :
    ∃ v8 v9 v10,exs (callT T (k + 2)) [p0,some (.int w),some (.int n),some (.int 4000),some (.loc 0),some (.int R),some (.tp a [.str (Str.ofString "rounds"),.tp b [.int c,.int m,.int t],sn,.tp d vs]),some (.int I),u8,u9,u10] [.lst acc] unB7 = .nx [p0,some (.int w),some (.int n),some (.int 4000),some (.loc 0),some (.int (R + 1 + rnd2 w n ps)),some (.tp a [.str (Str.ofString "rounds"),.tp b [.int c,.int m,.int t],sn,.tp d vs]),some (.int I),v8,v9,v10] [.lst (acc ++ rows2 w n I ps)]:=by
  obtain ⟨v8,v9,v10,e⟩:=un8 k (p0:=p0) (p6:=some (.tp a [.str (Str.ofString "rounds"),.tp b [.int c,.int m,.int t],sn,.tp d vs])) (I:=I) w0 w1 n0 n1 vs ps (R + 1) acc u8 u9 u10 hp (by omega) hR hl
  refine ⟨v8,v9,v10,?_⟩
  have hau:∀ st,ex (callT T (k + 2)) [p0,some (.int w),some (.int n),some (.int 4000),some (.loc 0),some (.int R),some (.tp a [.str (Str.ofString "rounds"),.tp b [.int c,.int m,.int t],sn,.tp d vs]),some (.int I),u8,u9,u10] st (.aug 5 .add (.cst (.int 1))) = .nx [p0,some (.int w),some (.int n),some (.int 4000),some (.loc 0),some (.int (R + 1)),some (.tp a [.str (Str.ofString "rounds"),.tp b [.int c,.int m,.int t],sn,.tp d vs]),some (.int I),u8,u9,u10] st:=fun st=>zoB rfl (by simp only [ev.eq_1])
  have hb:unB7 = .cons (.aug 5 .add (.cst (.int 1))) (.cons (.for (.n 8) (.seq (.idx (.var 6) (.cst (.int 3)))) unB8) (.cons (.ite (.or (.cmp .gt (.var 5) (.cst (.int 4000))) (.cmp .gt (.blt .len (.cons (.var 4) .nil)) (.var 3))) (.cons (.ret (.cst .non)) .nil) .nil) .nil)):=rfl
  have g1:¬ (4000:Int) < R + 1 + rnd2 w n ps:=by omega
  have g2:¬ (4000:Int) < ((acc ++ rows2 w n I ps).length:Nat):=by rw [List.length_append]; omega
  rw [hb]
  simp only [xs_cons,xs_nil,x_ite,zbh,evi,hau,ev.eq_1,ev.eq_2,ev.eq_7,ev.eq_8,ev.eq_16,ev.eq_19,evs,List.getElem?_cons_zero,List.getElem?_cons_succ,bd_ok,fl_ok,toR_some,ix3,th_nx,e,c_gt,len0,g1,g2,decide_false,onBl,cond_false,t_bl,on_t]
theorem un7 (k:Nat) {p0:Option PV} {w n R:Int} {a b d:Bool} {sn:PV} {vs:List PV} {c m t:Int} {ps:List T2} (hp:parts2 vs = some ps) {acc:List PV} {N:Nat} {u7 u8 u9 u10:Option PV} (w0:0 <= w) (w1:w <= 16) (n0:0 <= n) (n1:n <= 8) (hR0:0 <= R) (hR:R + (N * (1 + rnd2 w n ps):Nat) <= 4000) (hl:acc.length + (upTo (fun I=>rows2 w n I ps) N).length <= 4000) :
    ∃ v7 v8 v9 v10,forB (callT T (k + 2)) (.n 7) unB7 (rangeL N 0 1) [p0,some (.int w),some (.int n),some (.int 4000),some (.loc 0),some (.int R),some (.tp a [.str (Str.ofString "rounds"),.tp b [.int c,.int m,.int t],sn,.tp d vs]),u7,u8,u9,u10] [.lst acc] = .nx [p0,some (.int w),some (.int n),some (.int 4000),some (.loc 0),some (.int (R + (N * (1 + rnd2 w n ps):Nat))),some (.tp a [.str (Str.ofString "rounds"),.tp b [.int c,.int m,.int t],sn,.tp d vs]),v7,v8,v9,v10] [.lst (acc ++ upTo (fun I=>rows2 w n I ps) N)]:=by
  obtain ⟨ρ',st',h1,v7,v8,v9,v10,rfl,rfl⟩:=zeL (call:=callT T (k + 2)) (t:=.n 7) (b:=unB7) (fun i ρ st=>∃ v7 v8 v9 v10,ρ = [p0,some (.int w),some (.int n),some (.int 4000),some (.loc 0),some (.int (R + (i * (1 + rnd2 w n ps):Nat))),some (.tp a [.str (Str.ofString "rounds"),.tp b [.int c,.int m,.int t],sn,.tp d vs]),v7,v8,v9,v10] /\ st = [.lst (acc ++ upTo (fun I=>rows2 w n I ps) i)]) (rangeL N 0 1) 0 [p0,some (.int w),some (.int n),some (.int 4000),some (.loc 0),some (.int R),some (.tp a [.str (Str.ofString "rounds"),.tp b [.int c,.int m,.int t],sn,.tp d vs]),u7,u8,u9,u10] [.lst acc] ⟨u7,u8,u9,u10,by simp,by simp [upTo]⟩ (by
    rintro j x ρ st hx ⟨v7,v8,v9,v10,rfl,rfl⟩
    obtain ⟨rfl,hj⟩:=zbz N 0 j x hx
    rw [Nat.zero_add,Int.zero_add]
    have hle:=zjM (fun I=>rows2 w n I ps) (i:=j + 1) N (by omega)
    have hmu:(j + 1) * (1 + rnd2 w n ps) <= N * (1 + rnd2 w n ps):=Nat.mul_le_mul_right _ (by omega)
    have hms:(j + 1) * (1 + rnd2 w n ps) = j * (1 + rnd2 w n ps) + (1 + rnd2 w n ps):=Nat.succ_mul _ _
    simp only [upTo,List.length_append] at hle hl
    obtain ⟨x8,x9,x10,e⟩:=znI k (p0:=p0) (u8:=v8) (u9:=v9) (u10:=v10) (R:=R + (j * (1 + rnd2 w n ps):Nat)) (I:=j) (a:=a) (b:=b) (d:=d) (sn:=sn) (c:=c) (m:=m) (t:=t) hp (acc:=acc ++ upTo (fun I=>rows2 w n I ps) j) w0 w1 n0 n1 (by omega) (by omega) (by simp only [List.length_append]; omega)
    refine ⟨_,_,_,rfl,e,some (.int j),x8,x9,x10,?_,?_⟩
    · rw [hms]
      simp only [List.cons.injEq,and_true,true_and,Option.some.injEq,PV.int.injEq]
      omega
    · rw [upTo,List.append_assoc])
  rw [zay,Nat.zero_add] at h1
  exact ⟨v7,v8,v9,v10,h1⟩
theorem zov (k:Nat) {p0 u7 u8 u9 u10:Option PV} {w n R:Int} {v:PV} {p:T1} (hp:part1 v = some p) {acc:List PV} (w0:0 <= w) (w1:w <= 16) (n0:0 <= n) (n1:n <= 8) (hR0:0 <= R) (hR:R + p.rnd w n <= 4000) (hl:acc.length + (p.rows w n).length <= 4000) :
    ∃ v7 v8 v9 v10,exs (callT T (k + 2)) [p0,some (.int w),some (.int n),some (.int 4000),some (.loc 0),some (.int R),some v,u7,u8,u9,u10] [.lst acc] unB6 = .nx [p0,some (.int w),some (.int n),some (.int 4000),some (.loc 0),some (.int (R + p.rnd w n)),some v,v7,v8,v9,v10] [.lst (acc ++ p.rows w n)]:=by
  rcases zn3 hp with ⟨r,rfl,hr⟩ | ⟨a,b,sn,d,vs,c,m,t,ps,rfl,rfl,hd,hc,hm,ht⟩
  · obtain ⟨f,v1,rfl,h1⟩:=zjS hr
    have hpl:=zgG k h1 0 0 n [.lst acc]
    have hal:acc.length < 1000000:=by omega
    refine ⟨u7,u8,u9,u10,?_⟩
    simp only [unB6,f_qunrolled,xs_cons,xs_nil,x_ite,zeE,ev.eq_1,ev.eq_2,ev.eq_8,ev.eq_16,ev.eq_18,ev.eq_20,evs,List.getElem?_cons_zero,List.getElem?_cons_succ,bd_ok,fl_ok,toR_some,ix0,ix1,zg0,t_bl,on_t,cond_true,ono,zoL,hpl,app0 hal,th_nx,T1.rnd,T1.rows]
    simp
  · have hcn:=zi1 (k + 1) (b:=b) (c:=c) (w:=w) hm ht n0 n1 [.lst acc]
    have hcb:=zia hc hm ht w0 w1 n0 n1
    simp only [T1.rnd,T1.rows] at hR hl ⊢
    obtain ⟨v7,v8,v9,v10,e⟩:=un7 k (p0:=p0) (R:=R) (a:=a) (b:=b) (d:=d) (sn:=sn) (c:=c) (m:=m) (t:=t) hd (acc:=acc) (N:=cnt c m t w n) (u7:=u7) (u8:=u8) (u9:=u9) (u10:=u10) w0 w1 n0 n1 hR0 hR hl
    have hN1:cnt c m t w n <= cnt c m t w n * (1 + rnd2 w n ps):=Nat.le_mul_of_pos_right _ (by omega)
    have hmin:bltV .min [Ob.lst acc] [.int (c + m * n + t * w * n),.int 4001] = some (.int (c + m * n + t * w * n)):=by
      simp only [bltV,minV]; rw [if_neg (by unfold cnt at *; omega)]
    have hrg:rng1 (.int (c + m * n + t * w * n)) = some (rangeL (cnt c m t w n) 0 1):=zmK hcb
    refine ⟨v7,v8,v9,v10,?_⟩
    have hb:unB6 = (match unB6 with
      | .cons (.ite q1 q2 (.cons (.for q6 q7 _) q8)) q11=>.cons (.ite q1 q2 (.cons (.for q6 q7 unB7) q8)) q11
      | _=>.nil):=rfl
    rw [hb]
    simp only [unB6,f_qunrolled,xs_cons,xs_nil,x_ite,zbh,evi,ev.eq_1,ev.eq_2,ev.eq_8,ev.eq_16,ev.eq_18,ev.eq_19,evs,List.getElem?_cons_zero,List.getElem?_cons_succ,bd_ok,fl_ok,toR_some,ix0,ix1,zha,t_bl,on_t,cond_false,hcn,hmin,hrg,toL,e,th_nx]
theorem un6 (k:Nat) {p0:Option PV} {w n:Int} (w0:0 <= w) (w1:w <= 16) (n0:0 <= n) (n1:n <= 8):∀ (vs:List PV) (ps:List T1) (R:Int) (acc:List PV) (u6 u7 u8 u9 u10:Option PV),parts1 vs = some ps -> 0 <= R -> R + rnd1 w n ps <= 4000 -> acc.length + (rows1 w n ps).length <= 4000 ->
    ∃ v6 v7 v8 v9 v10,forB (callT T (k + 2)) (.n 6) unB6 vs [p0,some (.int w),some (.int n),some (.int 4000),some (.loc 0),some (.int R),u6,u7,u8,u9,u10] [.lst acc] = .nx [p0,some (.int w),some (.int n),some (.int 4000),some (.loc 0),some (.int (R + rnd1 w n ps)),v6,v7,v8,v9,v10] [.lst (acc ++ rows1 w n ps)]
  | [],ps,R,acc,u6,u7,u8,u9,u10,h,_,_,_=>by
    cases h
    exact ⟨u6,u7,u8,u9,u10,by rw [zaU]; simp [rnd1,rows1]⟩
  | v :: vs,ps,R,acc,u6,u7,u8,u9,u10,h,hR0,hR,hl=>by
    unfold parts1 at h
    split at h
    · rename_i a b ha hb
      cases h
      have q1:rnd1 w n (a :: b) = a.rnd w n + rnd1 w n b:=by simp [rnd1]
      have q2:rows1 w n (a :: b) = a.rows w n ++ rows1 w n b:=by simp [rows1]
      rw [q1] at hR
      rw [q2,List.length_append] at hl
      obtain ⟨v7,v8,v9,v10,e1⟩:=zov k (p0:=p0) (u7:=u7) (u8:=u8) (u9:=u9) (u10:=u10) (R:=R) ha (acc:=acc) w0 w1 n0 n1 hR0 (by omega) (by omega)
      obtain ⟨x6,x7,x8,x9,x10,e2⟩:=un6 k (p0:=p0) w0 w1 n0 n1 vs b (R + a.rnd w n) (acc ++ a.rows w n) (some v) v7 v8 v9 v10 hb (by omega) (by omega) (by rw [List.length_append]; omega)
      refine ⟨x6,x7,x8,x9,x10,?_⟩
      rw [zaF (ρ1:=[p0,some (.int w),some (.int n),some (.int 4000),some (.loc 0),some (.int R),some v,u7,u8,u9,u10]) rfl,e1,q1,q2]
      show forB _ _ _ _ _ _ = _
      rw [e2,List.append_assoc,Int.natCast_add,Int.add_assoc]
    · cases h
theorem unrolled (k:Nat) {b:Bool} {vs:List PV} {ps:List T1} {w n:Int} (hv:noLocs vs = true) (hp:parts1 vs = some ps) (w0:0 <= w) (w1:w <= 16) (n0:0 <= n) (n1:n <= 8) (hR:rnd1 w n ps <= 4000) (hl:(rows1 w n ps).length <= 4000) (hno:noLocs (rows1 w n ps) = true) (st:Store) :
    callT T (k + 3) zcI [.tp b vs,.int w,.int n,.int 4000] st = .ok (.lst (rows1 w n ps)) st:=by
  obtain ⟨v6,v7,v8,v9,v10,e⟩:=un6 k (p0:=some (.tp b vs)) w0 w1 n0 n1 vs ps 0 [] none none none none none hp (by omega) (by omega) (by simpa using hl)
  rw [List.nil_append] at e
  have hT:T zcI = some ⟨4,11,true,f_qunrolled.body⟩:=rfl
  have hb:f_qunrolled.body = .cons (.asg (.n 4) (.newl .nil)) (.cons (.asg (.n 5) (.cst (.int 0))) (.cons (.for (.n 6) (.seq (.var 0)) unB6) (.cons (.ite (.cmp .gt (.blt .len (.cons (.var 4) .nil)) (.var 3)) (.cons (.ret (.cst .non)) .nil) .nil) (.cons (.ret (.frz (.var 4))) .nil)))):=rfl
  have hnl:noLocs [.tp b vs,.int w,.int n,.int 4000] = true:=by simp [noLocs,noLoc,hv]
  have g:¬ (4000:Int) < ((rows1 w n ps).length:Nat):=by omega
  have hf:frzV (.loc 0) [.lst (rows1 w n ps)] = .ok (.lst (rows1 w n ps)) [.dead]:=rfl
  rw [callT,hT,hb]
  simp only [List.length_cons,List.length_nil,Nat.zero_add,Nat.reduceAdd,if_true,hnl,List.map_cons,List.map_nil,Nat.reduceSub,List.replicate,List.cons_append,List.nil_append,xs_cons,xs_nil,x_asg,zbh,x_ite,x_ret,evi,ev.eq_1,ev.eq_2,ev.eq_8,ev.eq_13,ev.eq_19,ev.eq_24,evs,List.getElem?_cons_zero,List.getElem?_cons_succ,bd_ok,fl_ok,toR_some,sizeMax,Nat.zero_le,bT_n,nxO_some,th_nx,th_rt,List.set_cons_zero,List.set_cons_succ,e,len0,c_gt,g,decide_false,t_bl,on_t,cond_false,hf,noLoc,hno]
end WK
namespace WK
open IC PySem
theorem zpG:cmpV .eq (.str (Str.ofString "mark")) (.str (Str.ofString "times")) = some (.bl false):=by with_unfolding_all rfl
theorem zpI:cmpV .notin (.str (Str.ofString "mark")) (.tup [.str (Str.ofString "mark"),.str (Str.ofString "ask")]) = some (.bl false):=by with_unfolding_all rfl
theorem zqr:cmpV .eq (.str (Str.ofString "ask")) (.str (Str.ofString "times")) = some (.bl false):=by with_unfolding_all rfl
theorem zqt:cmpV .notin (.str (Str.ofString "ask")) (.tup [.str (Str.ofString "mark"),.str (Str.ofString "ask")]) = some (.bl false):=by with_unfolding_all rfl
theorem zqV:cmpV .eq (.str (Str.ofString "set")) (.str (Str.ofString "times")) = some (.bl false):=by with_unfolding_all rfl
theorem zqN:cmpV .notin (.str (Str.ofString "set")) (.tup [.str (Str.ofString "mark"),.str (Str.ofString "ask")]) = some (.bl true):=by with_unfolding_all rfl
theorem zpB:cmpV .eq (.str (Str.ofString "move")) (.str (Str.ofString "times")) = some (.bl false):=by with_unfolding_all rfl
theorem zpZ:cmpV .notin (.str (Str.ofString "move")) (.tup [.str (Str.ofString "mark"),.str (Str.ofString "ask")]) = some (.bl true):=by with_unfolding_all rfl
theorem zpq:cmpV .eq (.str (Str.ofString "bare")) (.str (Str.ofString "times")) = some (.bl false):=by with_unfolding_all rfl
theorem zp4:cmpV .notin (.str (Str.ofString "bare")) (.tup [.str (Str.ofString "mark"),.str (Str.ofString "ask")]) = some (.bl true):=by with_unfolding_all rfl
theorem zoz:cmpV .eq (.str (Str.ofString "twice")) (.str (Str.ofString "times")) = some (.bl false):=by with_unfolding_all rfl
theorem znR:cmpV .notin (.str (Str.ofString "twice")) (.tup [.str (Str.ofString "mark"),.str (Str.ofString "ask")]) = some (.bl true):=by with_unfolding_all rfl
theorem zpw:cmpV .eq (.str (Str.ofString "half")) (.str (Str.ofString "times")) = some (.bl false):=by with_unfolding_all rfl
theorem zo4:cmpV .notin (.str (Str.ofString "half")) (.tup [.str (Str.ofString "mark"),.str (Str.ofString "ask")]) = some (.bl true):=by with_unfolding_all rfl
theorem zrv:cmpV .eq (.str (Str.ofString "sum")) (.str (Str.ofString "times")) = some (.bl false):=by with_unfolding_all rfl
theorem zru:cmpV .notin (.str (Str.ofString "sum")) (.tup [.str (Str.ofString "mark"),.str (Str.ofString "ask")]) = some (.bl true):=by with_unfolding_all rfl
theorem zpV:cmpV .eq (.str (Str.ofString "less")) (.str (Str.ofString "times")) = some (.bl false):=by with_unfolding_all rfl
theorem zpK:cmpV .notin (.str (Str.ofString "less")) (.tup [.str (Str.ofString "mark"),.str (Str.ofString "ask")]) = some (.bl true):=by with_unfolding_all rfl
theorem zpU:cmpV .eq (.str (Str.ofString "both")) (.str (Str.ofString "times")) = some (.bl false):=by with_unfolding_all rfl
theorem zpN:cmpV .notin (.str (Str.ofString "both")) (.tup [.str (Str.ofString "mark"),.str (Str.ofString "ask")]) = some (.bl true):=by with_unfolding_all rfl
theorem zrF:cmpV .eq (.str (Str.ofString "any")) (.str (Str.ofString "times")) = some (.bl false):=by with_unfolding_all rfl
theorem zqQ:cmpV .notin (.str (Str.ofString "any")) (.tup [.str (Str.ofString "mark"),.str (Str.ofString "ask")]) = some (.bl true):=by with_unfolding_all rfl
theorem zq0:cmpV .eq (.str (Str.ofString "odd")) (.str (Str.ofString "times")) = some (.bl false):=by with_unfolding_all rfl
theorem zrj:cmpV .notin (.str (Str.ofString "odd")) (.tup [.str (Str.ofString "mark"),.str (Str.ofString "ask")]) = some (.bl true):=by with_unfolding_all rfl
theorem abS:Str.ofString "ab" = ⟨#[97,98]⟩:=by with_unfolding_all rfl
theorem zgH {l:Nat} (h1:l ≠ 97) (h2:l ≠ 98):cmpV .isin (.str (chS l)) (.str (Str.ofString "ab")) = some (.bl false):=by
  have e0:(#[97,98]:Array Nat).extract 0 1 = #[97]:=rfl
  have e1:(#[97,98]:Array Nat).extract 1 2 = #[98]:=rfl
  have n1:¬ (97 = l):=fun z=>h1 z.symm
  have n2:¬ (98 = l):=fun z=>h2 z.symm
  rw [abS]
  simp [cmpV,inS,chS,Str.length,List.range,List.range.loop,e0,e1,n1,n2]
def okC (x:Cel):Prop:=0 <= x.2 /\ x.2 <= 99
def okP (x:Cel):Prop:=okC x /\ x.1 ≠ 97 /\ x.1 ≠ 98
noncomputable def okR:Rw -> Prop
  | .mark _=>True
  | .ask x=>okC x
  | .set t _=>okP t
  | .move t x=>okP t /\ okC x
  | .bare t x=>okP t /\ okC x
  | .twice t x=>okP t /\ okC x
  | .half t x=>okP t /\ okC x
  | .sum t x y=>okP t /\ okC x /\ okC y
  | .less t x y=>okP t /\ okC x /\ okC y
  | .both t x y=>okP t /\ okC x /\ okC y
  | .any t x y=>okP t /\ okC x /\ okC y
  | .odd t x y=>okP t /\ okC x /\ okC y
noncomputable def rrB1:Css:=match f_qrows_right.body with
  | .cons (.for _ _ b) _=>b
  | _=>.nil
noncomputable def rrB2:Css:=match rrB1 with
  | .cons (.for _ _ b) _=>b
  | _=>.nil
theorem zeQ {call:Cl} {p0 p1:Option PV} {st:Store}:∀ (vs:List PV) (u:Option PV),(∀ v ∈ vs,(∃ d,v = .int d) \/ ∃ x,v = celV x /\ okC x) -> ∃ u',forB call (.n 2) rrB2 vs [p0,p1,u] st = .nx [p0,p1,u'] st
  | [],u,_=>⟨u,zaU⟩
  | v :: vs,u,h=>by
    obtain ⟨u',e⟩:=zeQ (call:=call) (p0:=p0) (p1:=p1) (st:=st) vs (some v) fun x hx=>h x (List.mem_cons_of_mem _ hx)
    refine ⟨u',?_⟩
    have hb:exs call [p0,p1,some v] st rrB2 = .nx [p0,p1,some v] st:=by
      rcases h v List.mem_cons_self with ⟨d,rfl⟩ | ⟨x,rfl,h1,h2⟩
      · have hi:isiV (.int d) [.tuple] = some (.bl false):=rfl
        simp only [rrB2,rrB1,f_qrows_right,xs_cons,xs_nil,x_ite,ev.eq_2,ev.eq_6,ev.eq_21,List.getElem?_cons_zero,List.getElem?_cons_succ,bd_ok,fl_ok,toR_some,hi,onBl,cond_false,t_bl,on_t,th_nx]
      · have hi:isiV (celV x) [.tuple] = some (.bl true):=rfl
        have hx:∀ st,idxV st (celV x) (.int 1) = some (.int x.2):=fun st=>ix1
        simp only [rrB2,rrB1,f_qrows_right,xs_cons,xs_nil,x_ite,ev.eq_1,ev.eq_2,ev.eq_5,ev.eq_6,ev.eq_9,ev.eq_16,ev.eq_21,List.getElem?_cons_zero,List.getElem?_cons_succ,bd_ok,fl_ok,toR_some,hi,hx,c_le,h1,h2,decide_true,blO,onO,onBl,cond_true,cond_false,t_bl,on_t,Bool.not_true,th_nx]
    rw [zaF (ρ1:=[p0,p1,some v]) rfl,hb]
    exact e
theorem slc1 {a:Bool} {x:PV} {vs:List PV}:slcV (.tp a (x :: vs)) (some 1) .non = some (.tup vs):=by
  have h1:clampI (vs.length + 1) 1 = 1:=by simp [clampI]
  simp [slcV,optI,slcO,loOf,hiOf,cut,h1]
theorem zri {call:Cl} {p0 u:Option PV} {st:Store} (r:Rw) (h:okR r):∃ u',exs call [p0,some (rowV r),u] st rrB1 = .nx [p0,some (rowV r),u'] st:=by
  have hb:rrB1 = (match rrB1 with
    | .cons (.for t i _) q=>.cons (.for t i rrB2) q
    | _=>.nil):=rfl
  rw [hb]
  cases r
  · rename_i d
    obtain ⟨u',e⟩:=zeQ (call:=call) (p0:=p0) (p1:=some (rowV (.mark d))) (st:=st) [.int d] u (fun v hv=>by simp at hv; exact .inl ⟨d,hv⟩)
    refine ⟨u',?_⟩
    simp only [rowV] at e
    dsimp! [f_qrows_right,rrB1,rowV,zbh,x_ite,evi,ev.eq_6,ev.eq_7,ev.eq_8,ev.eq_17,optI,onP,slc1,onBl,cond_true,cond_false,t_bl,on_t,e,zpG,zpI]
  · rename_i x
    obtain ⟨u',e⟩:=zeQ (call:=call) (p0:=p0) (p1:=some (rowV (.ask x))) (st:=st) [celV x] u (fun v hv=>by simp at hv; exact .inr ⟨x,hv,h⟩)
    refine ⟨u',?_⟩
    simp only [rowV] at e
    dsimp! [f_qrows_right,rrB1,rowV,zbh,x_ite,evi,ev.eq_6,ev.eq_7,ev.eq_8,ev.eq_17,optI,onP,slc1,onBl,cond_true,cond_false,t_bl,on_t,e,zqr,zqt]
  · rename_i t d
    obtain ⟨u',e⟩:=zeQ (call:=call) (p0:=p0) (p1:=some (rowV (.set t d))) (st:=st) [celV t,.int d] u (fun v hv=>by
      simp at hv
      rcases hv with rfl | rfl
      · exact .inr ⟨t,rfl,h.1⟩
      · exact .inl ⟨d,rfl⟩)
    have hl:∀ st,idxV st (celV t) (.int 0) = some (.str (chS t.1)):=fun st=>ix0
    refine ⟨u',?_⟩
    simp only [rowV] at e
    dsimp! [f_qrows_right,rrB1,rowV,zbh,x_ite,evi,ev.eq_6,ev.eq_7,ev.eq_8,ev.eq_17,optI,onP,slc1,onBl,cond_true,cond_false,t_bl,on_t,e,zqV,zqN,hl,zgH h.2.1 h.2.2]
  · rename_i t x
    obtain ⟨u',e⟩:=zeQ (call:=call) (p0:=p0) (p1:=some (rowV (.move t x))) (st:=st) [celV t,celV x] u (fun v hv=>by
      simp at hv
      rcases hv with rfl | rfl
      · exact .inr ⟨t,rfl,h.1.1⟩
      · exact .inr ⟨x,rfl,h.2⟩)
    have hl:∀ st,idxV st (celV t) (.int 0) = some (.str (chS t.1)):=fun st=>ix0
    refine ⟨u',?_⟩
    simp only [rowV] at e
    dsimp! [f_qrows_right,rrB1,rowV,zbh,x_ite,evi,ev.eq_6,ev.eq_7,ev.eq_8,ev.eq_17,optI,onP,slc1,onBl,cond_true,cond_false,t_bl,on_t,e,zpB,zpZ,hl,zgH h.1.2.1 h.1.2.2]
  · rename_i t x
    obtain ⟨u',e⟩:=zeQ (call:=call) (p0:=p0) (p1:=some (rowV (.bare t x))) (st:=st) [celV t,celV x] u (fun v hv=>by
      simp at hv
      rcases hv with rfl | rfl
      · exact .inr ⟨t,rfl,h.1.1⟩
      · exact .inr ⟨x,rfl,h.2⟩)
    have hl:∀ st,idxV st (celV t) (.int 0) = some (.str (chS t.1)):=fun st=>ix0
    refine ⟨u',?_⟩
    simp only [rowV] at e
    dsimp! [f_qrows_right,rrB1,rowV,zbh,x_ite,evi,ev.eq_6,ev.eq_7,ev.eq_8,ev.eq_17,optI,onP,slc1,onBl,cond_true,cond_false,t_bl,on_t,e,zpq,zp4,hl,zgH h.1.2.1 h.1.2.2]
  · rename_i t x
    obtain ⟨u',e⟩:=zeQ (call:=call) (p0:=p0) (p1:=some (rowV (.twice t x))) (st:=st) [celV t,celV x] u (fun v hv=>by
      simp at hv
      rcases hv with rfl | rfl
      · exact .inr ⟨t,rfl,h.1.1⟩
      · exact .inr ⟨x,rfl,h.2⟩)
    have hl:∀ st,idxV st (celV t) (.int 0) = some (.str (chS t.1)):=fun st=>ix0
    refine ⟨u',?_⟩
    simp only [rowV] at e
    dsimp! [f_qrows_right,rrB1,rowV,zbh,x_ite,evi,ev.eq_6,ev.eq_7,ev.eq_8,ev.eq_17,optI,onP,slc1,onBl,cond_true,cond_false,t_bl,on_t,e,zoz,znR,hl,zgH h.1.2.1 h.1.2.2]
  · rename_i t x
    obtain ⟨u',e⟩:=zeQ (call:=call) (p0:=p0) (p1:=some (rowV (.half t x))) (st:=st) [celV t,celV x] u (fun v hv=>by
      simp at hv
      rcases hv with rfl | rfl
      · exact .inr ⟨t,rfl,h.1.1⟩
      · exact .inr ⟨x,rfl,h.2⟩)
    have hl:∀ st,idxV st (celV t) (.int 0) = some (.str (chS t.1)):=fun st=>ix0
    refine ⟨u',?_⟩
    simp only [rowV] at e
    dsimp! [f_qrows_right,rrB1,rowV,zbh,x_ite,evi,ev.eq_6,ev.eq_7,ev.eq_8,ev.eq_17,optI,onP,slc1,onBl,cond_true,cond_false,t_bl,on_t,e,zpw,zo4,hl,zgH h.1.2.1 h.1.2.2]
  · rename_i t x y
    obtain ⟨u',e⟩:=zeQ (call:=call) (p0:=p0) (p1:=some (rowV (.sum t x y))) (st:=st) [celV t,celV x,celV y] u (fun v hv=>by
      simp at hv
      rcases hv with rfl | rfl | rfl
      · exact .inr ⟨t,rfl,h.1.1⟩
      · exact .inr ⟨x,rfl,h.2.1⟩
      · exact .inr ⟨y,rfl,h.2.2⟩)
    have hl:∀ st,idxV st (celV t) (.int 0) = some (.str (chS t.1)):=fun st=>ix0
    refine ⟨u',?_⟩
    simp only [rowV] at e
    dsimp! [f_qrows_right,rrB1,rowV,zbh,x_ite,evi,ev.eq_6,ev.eq_7,ev.eq_8,ev.eq_17,optI,onP,slc1,onBl,cond_true,cond_false,t_bl,on_t,e,zrv,zru,hl,zgH h.1.2.1 h.1.2.2]
  · rename_i t x y
    obtain ⟨u',e⟩:=zeQ (call:=call) (p0:=p0) (p1:=some (rowV (.less t x y))) (st:=st) [celV t,celV x,celV y] u (fun v hv=>by
      simp at hv
      rcases hv with rfl | rfl | rfl
      · exact .inr ⟨t,rfl,h.1.1⟩
      · exact .inr ⟨x,rfl,h.2.1⟩
      · exact .inr ⟨y,rfl,h.2.2⟩)
    have hl:∀ st,idxV st (celV t) (.int 0) = some (.str (chS t.1)):=fun st=>ix0
    refine ⟨u',?_⟩
    simp only [rowV] at e
    dsimp! [f_qrows_right,rrB1,rowV,zbh,x_ite,evi,ev.eq_6,ev.eq_7,ev.eq_8,ev.eq_17,optI,onP,slc1,onBl,cond_true,cond_false,t_bl,on_t,e,zpV,zpK,hl,zgH h.1.2.1 h.1.2.2]
  · rename_i t x y
    obtain ⟨u',e⟩:=zeQ (call:=call) (p0:=p0) (p1:=some (rowV (.both t x y))) (st:=st) [celV t,celV x,celV y] u (fun v hv=>by
      simp at hv
      rcases hv with rfl | rfl | rfl
      · exact .inr ⟨t,rfl,h.1.1⟩
      · exact .inr ⟨x,rfl,h.2.1⟩
      · exact .inr ⟨y,rfl,h.2.2⟩)
    have hl:∀ st,idxV st (celV t) (.int 0) = some (.str (chS t.1)):=fun st=>ix0
    refine ⟨u',?_⟩
    simp only [rowV] at e
    dsimp! [f_qrows_right,rrB1,rowV,zbh,x_ite,evi,ev.eq_6,ev.eq_7,ev.eq_8,ev.eq_17,optI,onP,slc1,onBl,cond_true,cond_false,t_bl,on_t,e,zpU,zpN,hl,zgH h.1.2.1 h.1.2.2]
  · rename_i t x y
    obtain ⟨u',e⟩:=zeQ (call:=call) (p0:=p0) (p1:=some (rowV (.any t x y))) (st:=st) [celV t,celV x,celV y] u (fun v hv=>by
      simp at hv
      rcases hv with rfl | rfl | rfl
      · exact .inr ⟨t,rfl,h.1.1⟩
      · exact .inr ⟨x,rfl,h.2.1⟩
      · exact .inr ⟨y,rfl,h.2.2⟩)
    have hl:∀ st,idxV st (celV t) (.int 0) = some (.str (chS t.1)):=fun st=>ix0
    refine ⟨u',?_⟩
    simp only [rowV] at e
    dsimp! [f_qrows_right,rrB1,rowV,zbh,x_ite,evi,ev.eq_6,ev.eq_7,ev.eq_8,ev.eq_17,optI,onP,slc1,onBl,cond_true,cond_false,t_bl,on_t,e,zrF,zqQ,hl,zgH h.1.2.1 h.1.2.2]
  · rename_i t x y
    obtain ⟨u',e⟩:=zeQ (call:=call) (p0:=p0) (p1:=some (rowV (.odd t x y))) (st:=st) [celV t,celV x,celV y] u (fun v hv=>by
      simp at hv
      rcases hv with rfl | rfl | rfl
      · exact .inr ⟨t,rfl,h.1.1⟩
      · exact .inr ⟨x,rfl,h.2.1⟩
      · exact .inr ⟨y,rfl,h.2.2⟩)
    have hl:∀ st,idxV st (celV t) (.int 0) = some (.str (chS t.1)):=fun st=>ix0
    refine ⟨u',?_⟩
    simp only [rowV] at e
    dsimp! [f_qrows_right,rrB1,rowV,zbh,x_ite,evi,ev.eq_6,ev.eq_7,ev.eq_8,ev.eq_17,optI,onP,slc1,onBl,cond_true,cond_false,t_bl,on_t,e,zq0,zrj,hl,zgH h.1.2.1 h.1.2.2]
theorem zm9 {call:Cl} {p0:Option PV} {st:Store}:∀ (rs:List Rw) (u1 u2:Option PV),(∀ r ∈ rs,okR r) -> ∃ v1 v2,forB call (.n 1) rrB1 (rs.map rowV) [p0,u1,u2] st = .nx [p0,v1,v2] st
  | [],u1,u2,_=>⟨u1,u2,by rw [List.map_nil,zaU]⟩
  | r :: rs,u1,u2,h=>by
    obtain ⟨u',e1⟩:=zri (call:=call) (p0:=p0) (u:=u2) (st:=st) r (h r List.mem_cons_self)
    obtain ⟨v1,v2,e2⟩:=zm9 (call:=call) (p0:=p0) (st:=st) rs (some (rowV r)) u' fun x hx=>h x (List.mem_cons_of_mem _ hx)
    refine ⟨v1,v2,?_⟩
    rw [List.map_cons,zaF (ρ1:=[p0,some (rowV r),u2]) rfl,e1]
    exact e2
theorem znv (r:Rw):noLoc (rowV r) = true:=by cases r <;> rfl
theorem zf9:∀ rs:List Rw,noLocs (rs.map rowV) = true
  | []=>rfl
  | r :: rs=>by simp [noLocs,znv,zf9 rs]
theorem zlF (k:Nat) {rs:List Rw} (h:∀ r ∈ rs,okR r) (st:Store):callT T (k + 1) zbY [.lst (rs.map rowV)] st = .ok (.bl true) st:=by
  obtain ⟨v1,v2,e⟩:=zm9 (call:=callT T k) (p0:=some (.lst (rs.map rowV))) (st:=[]) rs none none h
  have hT:T zbY = some ⟨1,3,true,f_qrows_right.body⟩:=rfl
  have hb:f_qrows_right.body = .cons (.for (.n 1) (.seq (.var 0)) rrB1) (.cons (.ret (.cst (.bl true))) .nil):=rfl
  have hnl:noLocs [.lst (rs.map rowV)] = true:=by simp [noLocs,noLoc,zf9]
  rw [callT,hT,hb]
  simp only [List.length_cons,List.length_nil,Nat.zero_add,Nat.reduceAdd,if_true,hnl,List.map_cons,List.map_nil,Nat.reduceSub,List.replicate,List.cons_append,List.nil_append,xs_cons,xs_nil,zbh,x_ret,evi,ev.eq_1,ev.eq_2,List.getElem?_cons_zero,bd_ok,fl_ok,e,th_nx,th_rt,noLoc]
end WK
namespace WK
open IC PySem
noncomputable def qA:List P1:=[.rounds 0 1 0 [.row (.move ⟨101,0,1,0,0⟩ ⟨97,0,1,0,0⟩)],
  .rounds 0 0 1 [.row (.mark 0),.rounds 0 1 0 [.twice ⟨101,0,0,1,0⟩ ⟨101,0,0,1,0⟩],.rounds 1 1 0 [.twice ⟨100,0,0,1,0⟩ ⟨100,0,0,1,0⟩],.rounds 0 1 0 [.less ⟨100,0,0,1,0⟩ ⟨100,0,0,1,0⟩ ⟨98,0,0,1,0⟩],.row (.less ⟨100,0,0,0,1⟩ ⟨100,0,0,0,1⟩ ⟨122,0,0,0,0⟩),.row (.less ⟨102,0,0,0,0⟩ ⟨122,0,0,0,0⟩ ⟨122,0,0,0,0⟩),.row (.mark 0),.rounds 0 1 0 [.both ⟨116,0,0,0,0⟩ ⟨98,0,0,1,0⟩ ⟨102,0,0,0,0⟩,.sum ⟨100,0,0,1,0⟩ ⟨100,0,0,1,0⟩ ⟨116,0,0,0,0⟩],.row (.sum ⟨100,0,0,0,1⟩ ⟨100,0,0,0,1⟩ ⟨122,0,0,0,0⟩),.row (.bare ⟨102,0,0,0,0⟩ ⟨102,0,0,0,0⟩),.row (.ask ⟨102,0,0,0,0⟩),.rounds 0 1 0 [.twice ⟨99,0,0,1,0⟩ ⟨99,0,0,1,0⟩]]]
noncomputable def qB:List P1:=[.row (.set ⟨115,0,0,0,0⟩ 0),
  .rounds 0 1 0 [.row (.any ⟨115,0,0,0,0⟩ ⟨115,0,0,0,0⟩ ⟨99,0,1,0,0⟩)],
  .row (.ask ⟨115,0,0,0,0⟩),
  .row (.set ⟨109,2,0,0,0⟩ 1),
  .row (.less ⟨109,2,0,0,0⟩ ⟨109,2,0,0,0⟩ ⟨122,0,0,0,0⟩),
  .row (.twice ⟨116,0,0,0,0⟩ ⟨99,(-1),0,0,1⟩),
  .row (.sum ⟨109,3,0,0,0⟩ ⟨122,0,0,0,0⟩ ⟨122,0,0,0,0⟩)]
noncomputable def nT:List P1:=[.row (.set ⟨115,0,0,0,0⟩ 0),.rounds 0 1 0 [.row (.any ⟨115,0,0,0,0⟩ ⟨115,0,0,0,0⟩ ⟨98,0,1,0,0⟩)],.row (.ask ⟨115,0,0,0,0⟩),.row (.set ⟨109,0,0,0,0⟩ 1),.row (.less ⟨109,0,0,0,0⟩ ⟨109,0,0,0,0⟩ ⟨122,0,0,0,0⟩)]
noncomputable def tQ:List P1:=qA ++ nT ++ qB
noncomputable def deedQ:PV:=.tup [.str (Str.ofString "quotient")]
noncomputable def chkQ:Bool:=match callT T 8 zf4 [deedQ] [] with
  | .ok (.tp b vs) []=>decide (parts1 vs = some (tQ.map P1.t1)) && noLocs vs && isOk (callT T 8 zbt [.tp b vs] []) (.bl true) && (match cmpV .eq (.tp b vs) (.tp b vs) with
    | some (.bl t)=>t
    | _=>false)
  | _=>false
theorem allQ:chkQ = true:=by decide +kernel
theorem tellQ:∃ b vs,callT T 8 zf4 [deedQ] [] = .ok (.tp b vs) [] /\ parts1 vs = some (tQ.map P1.t1) /\ noLocs vs = true /\ callT T 8 zbt [.tp b vs] [] = .ok (.bl true) [] /\ cmpV .eq (.tp b vs) (.tp b vs) = some (.bl true):=by
  have h:=allQ
  unfold chkQ at h
  split at h
  · rename_i b vs e
    simp only [Bool.and_eq_true,decide_eq_true_eq] at h
    refine ⟨b,vs,e,h.1.1.1,h.1.1.2,zpA h.1.2,?_⟩
    have h2:=h.2
    split at h2
    · rename_i t e2
      rw [e2,h2]
    · cases h2
  · cases h
noncomputable def szQ (n w:Nat):Bool:=Nat.ble (rnd1 w n (tQ.map P1.t1)) 4000 && Nat.ble (tQ.map (P1.len w n)).sum 4000
theorem allS:([1,2,3,4].all fun n=>(List.range 17).all (szQ n)) = true:=by decide +kernel
theorem sizeQ {n w:Nat} (hn:1 <= n) (hn2:n <= 4) (hw:w <= 16):rnd1 w n (tQ.map P1.t1) <= 4000 /\ (rwP w n tQ).length <= 4000:=by
  have h:=List.all_eq_true.1 allS n (by simp; omega)
  have h:=List.all_eq_true.1 h w (by simp; omega)
  simp only [szQ,Bool.and_eq_true] at h
  exact ⟨Nat.le_of_ble_eq_true h.1,by rw [zms]; exact Nat.le_of_ble_eq_true h.2⟩
theorem okA:qA.all P1.ok = true:=by decide +kernel
theorem okB:qB.all P1.ok = true:=by decide +kernel
theorem zqJ {x:Cx} (h:okX x = true) {I J n:Nat} (hI:I < 90) (hJ:J < 90) (hn:1 <= n) (hn2:n <= 8):okC (x.cl I J n) :=
  zqs h (by omega) (by omega) (by omega) (by omega) (by omega) (by omega)
theorem zql {x:Cx} (h:okTg x = true) {I J n:Nat} (hI:I < 90) (hJ:J < 90) (hn:1 <= n) (hn2:n <= 8):okP (x.cl I J n):=by
  have h':=h
  simp only [okTg,Bool.and_eq_true,Bool.not_eq_true',decide_eq_false_iff_not] at h
  exact ⟨zqJ h.1 hI hJ hn hn2,h.2.1.1.1,h.2.1.1.2⟩
theorem zo2 {r:Rt} (h:r.ok = true) {I J n:Nat} (hI:I < 90) (hJ:J < 90) (hn:1 <= n) (hn2:n <= 8):okR (r.rw I J n):=by
  have c:=fun {x:Cx} (h:okX x = true)=>zqJ h hI hJ hn hn2
  have p:=fun {x:Cx} (h:okTg x = true)=>zql h hI hJ hn hn2
  cases r <;> simp only [Rt.ok,Bool.and_eq_true] at h <;> simp only [Rt.rw,okR] <;> first | exact c h | exact p h | exact ⟨p h.1,c h.2⟩ | exact ⟨p h.1.1,c h.1.2,c h.2⟩
theorem zrU (w n:Nat):rwP w n nT = nR n:=by
  have hc:cnt 0 1 0 w n = n:=by unfold cnt; simp
  simp only [rwP,nT,List.flatMap_cons,List.flatMap_nil,P1.rw,P2.rw,Rt.rw,hc,Cx.cl,Cx.at,nR]
  simp
theorem zrX {n:Nat} (hn:n <= 8):∀ r ∈ nR n,okR r:=by
  intro r hr
  simp only [nR,List.mem_append,List.mem_cons,List.not_mem_nil,or_false] at hr
  rcases hr with (rfl | hr) | rfl | rfl | rfl
  · simp only [okR,okP,okC]; omega
  · obtain ⟨i,hi,hr⟩:=zgu hr
    simp only [List.mem_cons,List.not_mem_nil,or_false] at hr
    subst hr
    simp only [okR,okP,okC]; omega
  all_goals simp only [okR,okP,okC]; omega
noncomputable def rwQ (w n:Nat):List Rw:=rwP w n qA ++ nR n ++ rwP w n qB
theorem zo0 (w n:Nat):rwP w n tQ = rwQ w n:=by
  rw [tQ,zm2,zm2,zrU]; rfl
theorem zqM {w n:Nat} (hn:1 <= n) (hn2:n <= 8) (hw:w * n <= 64):∀ r ∈ rwQ w n,okR r:=by
  intro q hq
  simp only [rwQ,List.mem_append] at hq
  rcases hq with (hq | hq) | hq
  · obtain ⟨r,I,J,hI,hJ,hr,rfl⟩:=zoJ hn2 hw okA hq
    exact zo2 hr hI hJ hn hn2
  · exact zrX hn2 q hq
  · obtain ⟨r,I,J,hI,hJ,hr,rfl⟩:=zoJ hn2 hw okB hq
    exact zo2 hr hI hJ hn hn2
theorem runQ (j w n:Nat) {b:Bool} {vs:List PV} (e1:parts1 vs = some (tQ.map P1.t1)) (e2:noLocs vs = true) (e3:callT T 8 zbt [.tp b vs] [] = .ok (.bl true) []) (hw2:w <= 16) (hn:1 <= n) (hn2:n <= 4) (x y:Int) (st:Store) :
    ∃ o,callT T (8 + j + 1) zgX [.tp b vs,.int w,.int n,.int x,.int y] st = .ok (.loc st.length) (st ++ [o]) /\ ∃ L,Dc (st ++ [o]) st.length (runM (2 ^ w) (rwQ w n) (begM (2 ^ w) n x y) 0).1 L:=by
  obtain ⟨z1,z2⟩:=sizeQ hn hn2 hw2
  have hwn:w * n <= 64:=Nat.mul_le_mul hw2 hn2
  have er:rows1 w n (tQ.map P1.t1) = (rwQ w n).map rowV:=by rw [zmy,zo0]
  rw [zo0] at z2
  have hu:=unrolled 5 (b:=b) (w:=w) (n:=n) e2 e1 (by omega) (by omega) (by omega) (by omega) z1 (by rw [er,List.length_map]; exact z2) (by rw [er]; exact zf9 _) []
  rw [er] at hu
  exact runS j w n hw2 (by omega) (rs:=rwQ w n) (by omega) x y st e3 hu (zlF 7 (zqM hn (by omega) hwn) [])
theorem zr1 (w n:Nat):rwP w n qA = upTo (fun i=>[Rw.move (101,(i:Int)) (97,(i:Int))]) n ++ upTo (fun _=>divRnd 98 99 100 n) (w * n):=by
  have hc:cnt 0 1 0 w n = n:=by unfold cnt; simp
  have hc1:cnt 1 1 0 w n = n + 1:=by unfold cnt; simp; omega
  have hc2:cnt 0 0 1 w n = w * n:=by unfold cnt; rw [show (0:Int) + 0 * n + 1 * w * n = ((w * n:Nat):Int) by simp]; rfl
  simp only [rwP,qA,List.flatMap_cons,List.flatMap_nil,P1.rw,P2.rw,Rt.rw,hc,hc1,hc2,Cx.cl,Cx.at,List.map_cons,List.map_nil,List.append_nil]
  simp [divRnd,twR,lsR,adR]
theorem zrP (w n:Nat):rwP w n qB = endRows n:=by
  have hc:cnt 0 1 0 w n = n:=by unfold cnt; simp
  have hu:∀ (f:Int -> Rw) (m:Nat),upTo (fun i=>[f (i:Int)]) m = upRows f m:=by
    intro f m
    induction m with
    | zero=>rfl
    | succ m ih=>rw [upTo,upRows,ih]
  simp only [rwP,qB,List.flatMap_cons,List.flatMap_nil,P1.rw,P2.rw,Rt.rw,hc,Cx.cl,Cx.at,endRows]
  simp only [<- hu]
  simp
  omega
theorem zne {W:Int} {t x:Nat} (ht:x ≠ t) (M:Mem) (k:Int):∀ n:Nat,∃ M',runM W (upTo (fun i=>[Rw.move (t,(i:Int)) (x,(i:Int))]) n) M k = (M',k) /\ (∀ d j,(d ≠ t \/ (n:Int) <= j) -> M' d j = M d j) /\ ∀ i:Nat,i < n -> M' t i = M x i
  | 0=>⟨M,rfl,fun _ _ _=>rfl,fun i hi=>by omega⟩
  | n + 1=>by
    obtain ⟨M1,e1,h1,h2⟩:=zne (W:=W) ht M k n
    refine ⟨upd M1 t n (M x n),?_,fun d j hd=>?_,fun i hi=>?_⟩
    · rw [upTo,zan,e1]
      simp only [runM,stepM,rd,wr,h1 x n (.inl ht)]
    · unfold upd; rw [if_neg (by omega),h1 d j (by omega)]
    · unfold upd
      by_cases hin:i = n
      · subst hin; rw [if_pos ⟨rfl,rfl⟩]
      · rw [if_neg (by omega)]; exact h2 i (by omega)
theorem zr2 {n:Nat} {d:Nat} {j:Int} (h1:d ≠ 115) (h2:d ≠ 109 \/ j ≠ 0):∀ r ∈ nR n,tg r ≠ some (d,j):=by
  intro r hr e
  simp only [nR,List.mem_append,List.mem_cons,List.not_mem_nil,or_false] at hr
  rcases hr with (rfl | hr) | rfl | rfl | rfl
  · simp only [tg,cS,Option.some.injEq,Prod.mk.injEq] at e; omega
  · obtain ⟨i,hi,hr⟩:=zgu hr
    simp only [List.mem_cons,List.not_mem_nil,or_false] at hr
    subst hr
    simp only [tg,cS,Option.some.injEq,Prod.mk.injEq] at e; omega
  · cases e
  · simp only [tg,Option.some.injEq,Prod.mk.injEq] at e; omega
  · simp only [tg,Option.some.injEq,Prod.mk.injEq] at e; omega
theorem zir {f:Int -> Rw} {r:Rw}:∀ {n:Nat},r ∈ upRows f n -> ∃ i:Nat,i < n /\ r = f i
  | 0,h=>by simp [upRows] at h
  | n + 1,h=>by
    rw [upRows,List.mem_append] at h
    rcases h with h | h
    · obtain ⟨i,hi,e⟩:=zir h
      exact ⟨i,by omega,e⟩
    · simp at h
      exact ⟨n,by omega,h⟩
theorem zrI {n:Nat} {d:Nat} {j:Int} (h1:d ≠ 115) (h2:d ≠ 109) (h3:d ≠ 116):∀ r ∈ endRows n,tg r ≠ some (d,j):=by
  intro r hr e
  simp only [endRows,List.mem_append,List.mem_cons,List.not_mem_nil,or_false] at hr
  rcases hr with (rfl | hr) | rfl | rfl | rfl | rfl | rfl
  · simp only [tg,cS,Option.some.injEq,Prod.mk.injEq] at e; omega
  · obtain ⟨i,hi,rfl⟩:=zir hr
    simp only [tg,cS,Option.some.injEq,Prod.mk.injEq] at e; omega
  · cases e
  all_goals simp only [tg,cT,Option.some.injEq,Prod.mk.injEq] at e; omega
theorem lt_q:Lt 98 99 100:=⟨by decide,by decide,by decide,by decide,by decide,by decide⟩
theorem zmu {w:Nat} (hw:1 < w) {n:Nat} {x y:Int} (x0:0 <= x) (x1:x < (2 ^ w:Int) ^ (n + 1)) (y0:0 < y) (y1:y < (2 ^ w:Int) ^ (n + 1)) :
    valM (2 ^ w) (runM (2 ^ w) (rwQ w (n + 1)) (begM (2 ^ w) (n + 1) x y) 0).1 99 (n + 1) = x / y /\ valM (2 ^ w) (runM (2 ^ w) (rwQ w (n + 1)) (begM (2 ^ w) (n + 1) x y) 0).1 100 (n + 1) = x % y /\
    (runM (2 ^ w) (rwQ w (n + 1)) (begM (2 ^ w) (n + 1) x y) 0).1 109 0 = 0 /\ (runM (2 ^ w) (rwQ w (n + 1)) (begM (2 ^ w) (n + 1) x y) 0).1 109 1 = 0 /\
    (runM (2 ^ w) (rwQ w (n + 1)) (begM (2 ^ w) (n + 1) x y) 0).1 109 2 = bi (x / y == 0) /\ (runM (2 ^ w) (rwQ w (n + 1)) (begM (2 ^ w) (n + 1) x y) 0).1 109 3 = bi (decide ((2 ^ w:Int) ^ (n + 1) <= 2 * (x / y))):=by
  have hW:(0:Int) < 2 ^ w:=Int.pow_pos (by omega)
  have hb0:∀ d j,d ≠ 97 -> d ≠ 98 -> begM (2 ^ w) (n + 1) x y d j = 0:=fun d j h1 h2=>zrV _ _ _ h1 h2 _
  have da:=zqm (n + 1) x y hW
  have db:=zrk (n + 1) x y hW
  have va:=zqL (n + 1) x y hW x0 x1
  have vb:=zqW (n + 1) x y hW (by omega) y1
  rw [rwQ,zr1,zrP]
  generalize begM (2 ^ w) (n + 1) x y = A at *
  obtain ⟨M1,e1,o1,v1⟩:=zne (W:=2 ^ w) (t:=101) (x:=97) (by decide) A 0 (n + 1)
  have z0:∀ (d m:Nat),d ≠ 97 -> d ≠ 98 -> d ≠ 101 -> valM (2 ^ w) M1 d m = 0 /\ Dg (2 ^ w) M1 d m:=fun d m h1 h2 h3=>by
    have hz:∀ i:Nat,M1 d i = 0:=fun i=>by rw [o1 d i (.inl h3),hb0 d i h1 h2]
    have hd:Dg (2 ^ w) M1 d m:=fun i _=>by rw [hz]; omega
    exact ⟨(zeC hW m hd).2 fun i _=>hz i,hd⟩
  have D0:Dv w (n + 1) 98 99 100 A M1 x y 0:={
    de:=fun i hi=>by rw [v1 i hi]; exact da i hi
    dr:=(z0 100 _ (by decide) (by decide) (by decide)).2
    dq:=(z0 99 _ (by decide) (by decide) (by decide)).2
    keep:=fun d j h1 _ _ _ _=>o1 d j (.inl h1)
    rest:=by rw [(z0 100 _ (by decide) (by decide) (by decide)).1]; exact y0
    sent:=by
      rw [(z0 100 _ (by decide) (by decide) (by decide)).1,(z0 99 _ (by decide) (by decide) (by decide)).1,z9 (M':=A) (c':=97) (n + 1) v1,va]
      simp }
  obtain ⟨M2,k2,e2,D2⟩:=zhd hw lt_q (k:=0) (hb0 122 0 (by decide) (by decide)) db vb x1 D0 (w * (n + 1)) (Nat.le_refl _)
  obtain ⟨q1,q2,q3⟩:=znM hw x0 D2 (by omega)
  rw [zan,zan,zan,e1]
  simp only
  rw [e2]
  simp only
  have kz:M2 122 0 = 0:=by rw [D2.keep 122 0 (by decide) (by decide) (by decide) (by decide) (by decide),hb0 122 0 (by decide) (by decide)]
  have kb:∀ j,M2 98 j = A 98 j:=fun j=>D2.keep 98 j (by decide) (by decide) (by decide) (by decide) (by decide)
  have nn:=zqU hw (n + 1) M2 k2 kz (fun i hi=>by rw [kb]; exact (db i hi).1)
  have hnz:¬ ∀ i:Nat,i < n + 1 -> M2 98 i = 0:=fun z=>by
    have:valM (2 ^ w) A 98 (n + 1) = 0:=(zeC hW (n + 1) db).2 fun i hi=>by rw [<- kb]; exact z i hi
    omega
  have n0:=nn.2 hnz
  have no:∀ d j,d ≠ 115 -> (d ≠ 109 \/ j ≠ 0) -> (runM (2 ^ w) (nR (n + 1)) M2 k2).1 d j = M2 d j:=fun d j h1 h2=>zjN _ _ _ _ (zr2 h1 h2)
  generalize runM (2 ^ w) (nR (n + 1)) M2 k2 = R at *
  obtain ⟨M3,k3⟩:=R
  simp only at *
  have dc:Dg (2 ^ w) M3 99 (n + 1):=fun i hi=>by rw [no 99 i (by decide) (.inl (by decide))]; exact D2.dq i hi
  have vc:valM (2 ^ w) M3 99 (n + 1) = x / y:=by rw [<- q1]; exact z9 _ fun i _=>no 99 i (by decide) (.inl (by decide))
  obtain ⟨f1,f2,f3,f4,f5⟩:=znC hw M3 k3 dc (by rw [no 122 0 (by decide) (.inl (by decide)),kz])
  have f6:∀ j,(runM (2 ^ w) (endRows (n + 1)) M3 k3).1 100 j = M3 100 j:=fun j=>zjN _ _ _ _ (zrI (by decide) (by decide) (by decide))
  rw [vc] at f4 f5
  refine ⟨?_,?_,?_,?_,f4,f5⟩
  · rw [<- vc]; exact z9 _ fun i _=>f1 i
  · rw [<- q2]; exact z9 _ fun i _=>by rw [f6,no 100 i (by decide) (.inl (by decide))]
  · rw [f2,n0]
  · rw [f3,no 109 1 (by decide) (.inr (by decide)),D2.keep 109 1 (by decide) (by decide) (by decide) (by decide) (by decide),hb0 109 1 (by decide) (by decide)]
end WK
namespace WK
open IC PySem
theorem max1 {a b:Int} (st:Store):bltV .max st [.int a,.int b] = some (.int (if a < b then b else a)):=by
  simp only [bltV,maxV]
theorem min1 {a b:Int} (st:Store):bltV .min st [.int a,.int b] = some (.int (if b < a then b else a)):=by
  simp only [bltV,minV]
theorem few (k:Nat) {n0:Nat} {ns:List Int} (hns:ns.length <= 1000) {st:Store} (h:Drw ns n0 st) :
    ∃ (w n:Nat) (st':Store),4 <= w /\ w <= 16 /\ 1 <= n /\ n <= 4 /\ Onl ns n0 st st' /\ callT T (k + 4) zmP [.loc n0] st = .ok (.tup [.int w,.int n]) st':=by
  obtain ⟨d,s1,d0,d1,o1,f1⟩:=takeD k hns (m:=4) (by omega) (by omega) h
  have h1:=o1.drw h
  obtain ⟨N,hN⟩:=zjX (show 0 <= 1 + d by omega)
  have hN1:1 <= N /\ N <= 4:=by omega
  have hq:=zbH (i:=40) (j:=(N:Int)) (by omega) (by omega)
  obtain ⟨q,hqq⟩:∃ q:Int,(40:Int) / N = q:=⟨_,rfl⟩
  have hq1:N = 1 /\ q = 40 \/ N = 2 /\ q = 20 \/ N = 3 /\ q = 13 \/ N = 4 /\ q = 10:=by
    rcases (by omega:N = 1 \/ N = 2 \/ N = 3 \/ N = 4) with z | z | z | z <;> subst z <;> simp at hqq <;> omega
  rw [hqq] at hq
  have hm:=min1 (a:=13) (b:=q - 3) s1
  obtain ⟨m,hmm⟩:∃ m:Int,(if q - 3 < 13 then q - 3 else 13) = m:=⟨_,rfl⟩
  rw [hmm] at hm
  have hm1:0 < m /\ m <= 13:=by split at hmm <;> omega
  obtain ⟨e,s2,e0,e2,o2,f2⟩:=takeD k hns (m:=m) (by omega) (by omega) h1
  have h2:=o2.drw h1
  obtain ⟨w,hw⟩:=zjX (show 0 <= 4 + e by omega)
  have hw1:4 <= w /\ w <= 16:=by omega
  obtain ⟨t,s3,t0,t1,o3,f3⟩:=takeD k hns (m:=32) (by omega) (by omega) h2
  have hT:T zmP = some ziF:=rfl
  have hmod:binV .mod (.int (w:Int)) (.int 3) = some (.int ((w:Int) % 3)):=zbX (by omega)
  by_cases ht:t = 5
  · refine ⟨16 - w % 3,4,s3,by omega,by omega,by omega,by omega,(o1.trans o2).trans o3,?_⟩
    have hr:(16:Int) - (w:Int) % 3 = ((16 - w % 3:Nat):Int):=by omega
    subst ht
    rw [callT,hT]
    simp! [ziF,ev.eq_3,ev.eq_11,ev.eq_19,f1,zbs,hN,hq,zbu,hm,f2,hw,f3,c_eq,beq_self_eq_true,cond_true,hmod,hr,sizeMax,Nat.reduceLeDiff]
    rfl
  · refine ⟨w,N,s3,by omega,by omega,by omega,by omega,(o1.trans o2).trans o3,?_⟩
    have hb:(t == 5) = false:=by simpa using ht
    rw [callT,hT]
    simp! [ziF,ev.eq_3,ev.eq_11,ev.eq_19,f1,zbs,hN,hq,zbu,hm,f2,hw,f3,c_eq,hb,cond_false,sizeMax,Nat.reduceLeDiff]
theorem two (k:Nat) {n0:Nat} {ns:List Int} (hns:ns.length <= 1000) (w n:Nat) (hw:4 <= w) (hw2:w <= 16) (hn:1 <= n) (hn2:n <= 4) {st:Store} (h:Drw ns n0 st) :
    ∃ x y st',0 <= x /\ x < 2 ^ (w * n) /\ 0 <= y /\ y < 2 ^ (w * n) /\ Onl ns n0 st st' /\ callT T (k + 5) zmg [.loc n0,.int w,.int n] st = .ok (.tup [.int x,.int y]) st':=by
  obtain ⟨x,s1,x0,x1,o1,f1⟩:=worth k hns w n hw hw2 hn hn2 h
  have h1:=o1.drw h
  obtain ⟨y,s2,y0,y1,o2,f2⟩:=worth k hns w n hw hw2 hn hn2 h1
  have h2:=o2.drw h1
  obtain ⟨t,s3,t0,t1,o3,f3⟩:=takeD (k + 1) hns (m:=7) (by omega) (by omega) h2
  have h3:=o3.drw h2
  have hwm:(w:Int) * (n:Int) = ((w * n:Nat):Int):=by simp
  have hwa:(w:Int).natAbs < 18446744073709551616:=by omega
  have hK:4 <= w * n:=Nat.mul_le_mul hw hn
  have hK64:w * n <= 64:=Nat.mul_le_mul hw2 hn2
  obtain ⟨p,s4,p0,p1,o4,f4⟩:=takeD (k + 1) hns (m:=((w * n:Nat):Int)) (by omega) (by omega) h3
  have h4:=o4.drw h3
  obtain ⟨p,rfl⟩:=zjX p0
  have ht:=zgd (k + 3) p (by omega) s4
  have hpK:(2:Int) ^ p < 2 ^ (w * n):=by exact_mod_cast Nat.pow_lt_pow_right (a:=2) (by omega) (show p < w * n by omega)
  have hp0:(0:Int) < 2 ^ p:=Int.pow_pos (by omega)
  have hpow:(2:Int) ^ (w * n) <= 18446744073709551616:=by
    have h:(2:Nat) ^ (w * n) <= 2 ^ 64:=Nat.pow_le_pow_right (by omega) hK64
    have h2:=pw (w * n)
    omega
  have h16:(16:Int) <= 2 ^ (w * n):=by
    have h:(2:Nat) ^ 4 <= 2 ^ (w * n):=Nat.pow_le_pow_right (by omega) hK
    have h2:=pw (w * n)
    omega
  have hdv:binV .fdiv (.int y) (.int (2 ^ p)) = some (.int (y / 2 ^ p)):=zbH hp0 (by omega)
  have hdr:0 <= y / 2 ^ p /\ y / 2 ^ p < 2 ^ (w * n):=⟨Int.ediv_nonneg y0 (by omega),Int.lt_of_le_of_lt (Int.ediv_le_self _ y0) y1⟩
  have hT:T zmg = some zcO:=rfl
  have o04:=((o1.trans o2).trans o3).trans o4
  have near:∀ Y:Int,0 < Y -> Y < 2 ^ (w * n) -> ∃ X s5,0 <= X /\ X < 2 ^ (w * n) /\ Onl ns n0 s4 s5 /\ ∃ d,callT T (k + 4) zhi [.loc n0,.int 3] s4 = .ok (.int d) s5 /\ (∀ st,callT T (k + 4) zf5 [.int ((w * n:Nat):Int)] st = .ok (.int (2 ^ (w * n))) st) /\ binV .fdiv (.int x) (.int Y) = some (.int (x / Y)) /\ binV .mul (.int (x / Y)) (.int Y) = some (.int (x / Y * Y)) /\ ∀ st,bltV .max st [.int 0,.int (if x / Y * Y + d - 1 < 2 ^ (w * n) - 1 then x / Y * Y + d - 1 else 2 ^ (w * n) - 1)] = some (.int X):=by
    intro Y Y0 Y1
    obtain ⟨d,s5,d0,d1,o5,f5⟩:=takeD (k + 1) hns (m:=3) (by omega) (by omega) h4
    refine ⟨if 0 < (if x / Y * Y + d - 1 < 2 ^ (w * n) - 1 then x / Y * Y + d - 1 else 2 ^ (w * n) - 1) then (if x / Y * Y + d - 1 < 2 ^ (w * n) - 1 then x / Y * Y + d - 1 else 2 ^ (w * n) - 1) else 0,s5,?_,?_,o5,d,f5,fun st=>zgd (k + 3) (w * n) (by omega) st,zbH Y0 (by omega),zaK (by omega),fun st=>max1 st⟩
    · split <;> omega
    · split <;> split <;> omega
  rcases (by omega:t = 0 \/ t = 1 \/ t = 2 \/ t = 3 \/ t = 4 \/ t = 5 \/ t = 6) with q | q | q | q | q | q | q
  · subst q
    refine ⟨x,y / 2 ^ p,s4,x0,x1,hdr.1,hdr.2,o04,?_⟩
    rw [callT,hT]
    simp! [zcO,ev.eq_3,ev.eq_6,ev.eq_7,ev.eq_11,ev.eq_19,f1,f2,f3,zbV hwa,hwm,f4,ht,c_eq,c_gt,onBl,Int.reduceBEq,cond_true,cond_false,hdv,sizeMax,Nat.reduceLeDiff]
  · subst q
    obtain ⟨d,s5,d0,d1,o5,f5⟩:=takeD (k + 1) hns (m:=9) (by omega) (by omega) h4
    refine ⟨x,1 + d,s5,x0,x1,by omega,by omega,o04.trans o5,?_⟩
    rw [callT,hT]
    simp! [zcO,ev.eq_3,ev.eq_6,ev.eq_7,ev.eq_11,ev.eq_19,f1,f2,f3,zbV hwa,hwm,f4,ht,f5,zbs,c_eq,c_gt,onBl,Int.reduceBEq,cond_true,cond_false,hdv,sizeMax,Nat.reduceLeDiff]
  · subst q
    refine ⟨x,2 ^ p,s4,x0,x1,by omega,hpK,o04,?_⟩
    rw [callT,hT]
    simp! [zcO,ev.eq_3,ev.eq_6,ev.eq_7,ev.eq_11,ev.eq_19,f1,f2,f3,zbV hwa,hwm,f4,ht,c_eq,c_gt,onBl,Int.reduceBEq,cond_true,cond_false,hdv,sizeMax,Nat.reduceLeDiff]
  · subst q
    refine ⟨x,y,s4,x0,x1,y0,y1,o04,?_⟩
    rw [callT,hT]
    simp! [zcO,ev.eq_3,ev.eq_6,ev.eq_7,ev.eq_11,ev.eq_19,f1,f2,f3,zbV hwa,hwm,f4,ht,c_eq,c_gt,onBl,Int.reduceBEq,cond_true,cond_false,hdv,sizeMax,Nat.reduceLeDiff]
  · subst q
    by_cases hy:0 < y
    · obtain ⟨X,s5,X0,X1,o5,d,g1,g2,g3,g4,g5⟩:=near y hy y1
      refine ⟨X,y,s5,X0,X1,y0,y1,o04.trans o5,?_⟩
      have hmn:=fun st=>min1 (a:=(2:Int) ^ (w * n) - 1) (b:=x / y * y + d - 1) st
      rw [callT,hT]
      simp! [zcO,ev.eq_3,ev.eq_6,ev.eq_7,ev.eq_11,ev.eq_19,f1,f2,f3,zbV hwa,hwm,f4,ht,c_eq,c_gt,onBl,Int.reduceBEq,hy,decide_true,cond_true,cond_false,hdv,g1,g2,g3,g4,zbu,zbs,hmn,g5,sizeMax,Nat.reduceLeDiff]
    · refine ⟨x,y,s4,x0,x1,y0,y1,o04,?_⟩
      rw [callT,hT]
      simp! [zcO,ev.eq_3,ev.eq_6,ev.eq_7,ev.eq_11,ev.eq_19,f1,f2,f3,zbV hwa,hwm,f4,ht,c_eq,c_gt,onBl,Int.reduceBEq,hy,decide_false,cond_true,cond_false,hdv,sizeMax,Nat.reduceLeDiff]
  · subst q
    by_cases hy:0 < y / 2 ^ p
    · obtain ⟨X,s5,X0,X1,o5,d,g1,g2,g3,g4,g5⟩:=near (y / 2 ^ p) hy hdr.2
      refine ⟨X,y / 2 ^ p,s5,X0,X1,hdr.1,hdr.2,o04.trans o5,?_⟩
      have hmn:=fun st=>min1 (a:=(2:Int) ^ (w * n) - 1) (b:=x / (y / 2 ^ p) * (y / 2 ^ p) + d - 1) st
      rw [callT,hT]
      simp! [zcO,ev.eq_3,ev.eq_6,ev.eq_7,ev.eq_11,ev.eq_19,f1,f2,f3,zbV hwa,hwm,f4,ht,c_eq,c_gt,onBl,Int.reduceBEq,hdv,hy,decide_true,cond_true,cond_false,g1,g2,g3,g4,zbu,zbs,hmn,g5,sizeMax,Nat.reduceLeDiff]
    · refine ⟨x,y / 2 ^ p,s4,x0,x1,hdr.1,hdr.2,o04,?_⟩
      rw [callT,hT]
      simp! [zcO,ev.eq_3,ev.eq_6,ev.eq_7,ev.eq_11,ev.eq_19,f1,f2,f3,zbV hwa,hwm,f4,ht,c_eq,c_gt,onBl,Int.reduceBEq,hdv,hy,decide_false,cond_true,cond_false,sizeMax,Nat.reduceLeDiff]
  · subst q
    refine ⟨x,x,s4,x0,x1,x0,x1,o04,?_⟩
    rw [callT,hT]
    simp! [zcO,ev.eq_3,ev.eq_6,ev.eq_7,ev.eq_11,ev.eq_19,f1,f2,f3,zbV hwa,hwm,f4,ht,c_eq,c_gt,onBl,Int.reduceBEq,cond_true,cond_false,hdv,sizeMax,Nat.reduceLeDiff]
theorem zln (l:List Int):noLocs [PV.scr (l.map .int)] = true:=by simp [noLocs,noLoc,zd4]
theorem zn5 (ns:List Int) (hn:ns.length <= 63):callT T 12 zmp [.scr (ns.map .int)] [] = .ok (.bl true) []:=by
  obtain ⟨o,e1,ho⟩:=fresh 10 ns hn []
  have h0:Drw ns 0 [o]:=⟨0,0,false,by omega,by rw [ho]; rfl⟩
  have hns:ns.length <= 1000:=by omega
  obtain ⟨b,vs,t0,t1,t2,t3,t4⟩:=tellQ
  have g0:=fun st=>pure0 rfl rfl (lift8 t0 3) st
  obtain ⟨w,n,s1,a1,a2,a3,a4,o1,f1⟩:=few 7 hns h0
  have h1:=o1.drw h0
  obtain ⟨x,y,s2,x0,x1,y0,y1,o2,f2⟩:=two 6 hns w n a1 a2 a3 a4 h1
  have hx:=max1 (a:=1) (b:=y) s2
  obtain ⟨Y,hY⟩:∃ Y:Int,(if 1 < y then y else 1) = Y:=⟨_,rfl⟩
  rw [hY] at hx
  have hpw:(4:Int) <= 2 ^ (w * n):=by
    have hle:4 <= w * n:=Nat.le_trans a1 (Nat.le_mul_of_pos_right w (by omega))
    have h:(2:Nat) ^ 2 <= 2 ^ (w * n):=Nat.pow_le_pow_right (by omega) (by omega)
    have h2:=pw (w * n)
    omega
  have hK64:w * n <= 64:=Nat.mul_le_mul a2 a4
  have hpow:(2:Int) ^ (w * n) <= 18446744073709551616:=by
    have h:(2:Nat) ^ (w * n) <= 2 ^ 64:=Nat.pow_le_pow_right (by omega) hK64
    have h2:=pw (w * n)
    omega
  have hY1:0 < Y /\ Y < 2 ^ (w * n):=by split at hY <;> omega
  obtain ⟨ob,r1,L,r2⟩:=runQ 2 w n t1 t2 t3 a2 a3 a4 x Y s2
  have hn1:n - 1 + 1 = n:=by omega
  have hp:(2:Int) ^ (w * n) = (2 ^ w:Int) ^ n:=Int.pow_mul
  have mm:=zmu (w:=w) (by omega) (n:=n - 1) x0 (by rw [hn1,<- hp]; exact x1) hY1.1 (by rw [hn1,<- hp]; exact hY1.2)
  rw [hn1,<- hp] at mm
  obtain ⟨m1,m2,m3,m4,m5,m6⟩:=mm
  have hrc:=read 9 r2 (Str.ofString "c") 99 chC w n (by omega) (by omega)
  have hrd:=read 9 r2 (Str.ofString "d") 100 chD w n (by omega) (by omega)
  have hmk:=marks 10 r2
  have hen:=ends 9 (x / Y) (w * n) (by omega) (s2 ++ [ob])
  rw [m1] at hrc
  rw [m2] at hrd
  rw [m3,m4,m5,m6] at hmk
  have hwm:(w:Int) * (n:Int) = ((w * n:Nat):Int):=by simp
  have hwa:(w:Int).natAbs < 18446744073709551616:=by omega
  have hdv:binV .fdiv (.int x) (.int Y) = some (.int (x / Y)):=zbH hY1.1 (by omega)
  have hmd:binV .mod (.int x) (.int Y) = some (.int (x % Y)):=zbX hY1.1
  have hT:T zmp = some zod:=rfl
  have e1:callT T 11 zhh [.scr (ns.map .int)] [] = .ok (.loc 0) [o]:=e1
  have g0:∀ st,callT T 11 zf4 [.tup [.str (Str.ofString "quotient")]] st = .ok (.tp b vs) st:=g0
  have f1:callT T 11 zmP [.loc 0] [o] = _:=f1
  have f2:callT T 11 zmg [.loc 0,.int w,.int n] s1 = _:=f2
  have r1:callT T 11 zgX [.tp b vs,.int w,.int n,.int x,.int Y] s2 = .ok (.loc s2.length) (s2 ++ [ob]):=r1
  have hrc:callT T 11 zhr [.loc s2.length,.str (Str.ofString "c"),.int n,.int w] (s2 ++ [ob]) = _:=hrc
  have hrd:callT T 11 zhr [.loc s2.length,.str (Str.ofString "d"),.int n,.int w] (s2 ++ [ob]) = _:=hrd
  have hmk:callT T 11 zhT [.loc s2.length] (s2 ++ [ob]) = _:=hmk
  have hen:callT T 11 zjP [.int (x / Y),.int ((w * n:Nat):Int)] (s2 ++ [ob]) = _:=hen
  have ci:cmpV .is (.loc s2.length) .non = some (.bl false):=rfl
  have hadd:∀ a b c e:PV,binV .add (.tup [a,b]) (.tup [c,e]) = some (.tup [a,b,c,e]):=fun a b c e=>by simp [binV,sizeMax]
  have heq4:∀ a b c e:Int,cmpV .eq (.tup [.int a,.int b,.int c,.int e]) (.tup [.int a,.int b,.int c,.int e]) = some (.bl true):=fun a b c e=>by simp [cmpV,shd,shds,peq,peqs]
  have hne:∀ a:Int,cmpV .ne (.int a) (.int a) = some (.bl false):=fun a=>by rw [c_ne]; simp
  have hbt:∀ a c p q r s t u v z:Option PV,∀ g j:PV,bindT (.t [3,4]) (.tup [g,j]) [a,c,p,q,r,s,t,u] = some [a,c,p,some g,some j,s,t,u]:=fun _ _ _ _ _ _ _ _ _ _ _ _=>rfl
  have hbt2:∀ a c p q r s t u v z:Option PV,∀ g j:PV,bindT (.t [5,6]) (.tup [g,j]) [a,c,p,q,r,s,t,u] = some [a,c,p,q,r,some g,some j,u]:=fun _ _ _ _ _ _ _ _ _ _ _ _=>rfl
  have hbt:=fun a c p q r s t u=>hbt a c p q r s t u none none
  have hbt2:=fun a c p q r s t u=>hbt2 a c p q r s t u none none
  rw [callT,hT]
  simp! [zod,zln,ev.eq_3,ev.eq_6,ev.eq_7,ev.eq_11,ev.eq_19,e1,g0,f1,f2,hbt,hbt2,hx,r1,ci,hrc,hrd,hdv,hmd,hne,onBl,cond_true,cond_false,hmk,zbV hwa,hwm,hen,hadd,heq4,t4,noLoc,sizeMax,Nat.reduceLeDiff]
end WK
namespace WK
open PySem L2 IC
section
variable {P:Program} {w:World} {K:PySem.W.Frag} {mg:Str -> Option Value} {base:Heap} {cl:Nat -> Addr} {fa:Nat -> Addr} {fdd:Nat -> FuncData}
theorem zt (Z:Facts K mg cl fa fdd):∀ k,Fns P w K mg base cl fa fdd k
  | 0=>fun i ps _=>zph rfl
  | k + 1=>fun i ps h=>match i,h with
    | 0,h=>by cases h; exact zpf Z (zt Z k)
    | 1,h=>by cases h; exact zp8 Z (zt Z k)
    | 2,h=>by cases h; exact zl1 Z (zt Z k)
    | 3,h=>by cases h; exact znm Z (zt Z k)
    | 4,h=>by cases h; exact zpk Z (zt Z k)
    | 5,h=>by cases h; exact zow Z (zt Z k)
    | 6,h=>by cases h; exact zlq Z (zt Z k)
    | 7,h=>by cases h; exact zid Z (zt Z k)
    | 8,h=>by cases h; exact zfB Z (zt Z k)
    | 9,h=>by cases h; exact zgR Z (zt Z k)
    | 10,h=>by cases h; exact zgz Z (zt Z k)
    | 11,h=>by cases h; exact zeg Z (zt Z k)
    | 12,h=>by cases h; exact zi6 Z (zt Z k)
    | 13,h=>by cases h; exact zlf Z (zt Z k)
    | 14,h=>by cases h; exact zhB Z (zt Z k)
    | 15,h=>by cases h; exact zgc Z (zt Z k)
    | 16,h=>by cases h; exact zj4 Z (zt Z k)
    | 17,h=>by cases h; exact zgN Z (zt Z k)
    | 18,h=>by cases h; exact zlA Z (zt Z k)
    | 19,h=>by cases h; exact zkO Z (zt Z k)
    | 20,h=>by cases h; exact zfw Z (zt Z k)
    | 21,h=>by cases h; exact zl5 Z (zt Z k)
    | 22,h=>by cases h; exact zmi Z (zt Z k)
    | 23,h=>by cases h; exact znt Z (zt Z k)
    | 24,h=>by cases h; exact zn7 Z (zt Z k)
    | 25,h=>by cases h; exact znl Z (zt Z k)
    | 26,h=>by cases h; exact zld Z (zt Z k)
    | 27,h=>by cases h; exact zmE Z (zt Z k)
    | 28,h=>by cases h; exact zmR Z (zt Z k)
    | 29,h=>by cases h; exact zkT Z (zt Z k)
    | 30,h=>by cases h; exact zll Z (zt Z k)
    | 31,h=>by cases h; exact zgU Z (zt Z k)
    | 32,h=>by cases h; exact zgs Z (zt Z k)
    | 33,h=>by cases h; exact znq Z (zt Z k)
    | 34,h=>by cases h; exact zgl Z (zt Z k)
    | 35,h=>by cases h; exact znJ Z (zt Z k)
    | 36,h=>by cases h; exact zgM Z (zt Z k)
    | 37,h=>by cases h; exact zre Z (zt Z k)
    | 38,h=>by cases h; exact zhj Z (zt Z k)
    | 39,h=>by cases h; exact zh5 Z (zt Z k)
    | 40,h=>by cases h; exact zn8 Z (zt Z k)
    | 41,h=>by cases h; exact zm7 Z (zt Z k)
    | 42,h=>by cases h; exact ziJ Z (zt Z k)
    | 43,h=>by cases h; exact zgS Z (zt Z k)
    | 44,h=>by cases h; exact zlI Z (zt Z k)
    | 45,h=>by cases h; exact zpE Z (zt Z k)
    | 46,h=>by cases h; exact znF Z (zt Z k)
    | 47,h=>by cases h; exact zni Z (zt Z k)
    | 48,h=>by cases h; exact znU Z (zt Z k)
    | 49,h=>by cases h; exact zpr Z (zt Z k)
    | 50,h=>by cases h; exact zpR Z (zt Z k)
    | 51,h=>by cases h; exact zqf Z (zt Z k)
    | i + 52,h=>by cases h
end
set_option maxHeartbeats 0 in
noncomputable abbrev FN (x:Str) (s:Stmt) (d kV dc pm:Value) (an:Option Addr) (cd ct:Value):=PySem.W.fnOf x x (defArgs s) (defBody s) (defScope s) d kV dc pm an cd ct
noncomputable abbrev aN (K:PySem.W.Frag) (x:Str) (f:Addr):=PySem.W.nsIn K mainGlobals x = some (some (.ref f))
noncomputable abbrev cN (K:PySem.W.Frag) (c:Value) (x:Str):=PySem.W.codeIn K c x = true
noncomputable abbrev pN (K:PySem.W.Frag) (f:Addr):=PySem.W.keepIn K (.ref f) = true
theorem all_mk {l:PySem.W.OpenLaw} {w:World} {K:PySem.W.Frag} {h:Heap} {mg:Str -> Option Value} {fx:Addr} (X:K.In h) (G:h.Ns mainGlobals mg) (hfa:mg "law" = some (.ref fx)) (a0:aN K "word" f0) (l0:K.lookup f0 = some ⟨oc0,od0,.func (FN "word" zdU (.ref dT0) kV0 dc0 pm0 an0 cd0 ct0),sl0⟩) (c0:cN K cd0 "word") (p0:pN K f0) (d0:K.lookup dT0 = some ⟨.type "tuple",dd0,.seq #[.int 0 dk0_0,.int 0 dk0_1,.int 0 dk0_2,.int 0 dk0_3] dn0,ds0⟩) (a1:aN K "rows" f1) (l1:K.lookup f1 = some ⟨oc1,od1,.func (FN "rows" zff .none kV1 dc1 pm1 an1 cd1 ct1),sl1⟩) (c1:cN K cd1 "rows") (p1:pN K f1) (a2:aN K "rounds" f2) (l2:K.lookup f2 = some ⟨oc2,od2,.func (FN "rounds" zdB .none kV2 dc2 pm2 an2 cd2 ct2),sl2⟩) (c2:cN K cd2 "rounds") (p2:pN K f2) (a3:aN K "lowest" f3) (l3:K.lookup f3 = some ⟨oc3,od3,.func (FN "lowest" zcl (.ref dT3) kV3 dc3 pm3 an3 cd3 ct3),sl3⟩) (c3:cN K cd3 "lowest") (p3:pN K f3) (d3:K.lookup dT3 = some ⟨.type "tuple",dd3,.seq #[.int 0 dk3_0,.int 0 dk3_1,.int 0 dk3_2,.int 0 dk3_3] dn3,ds3⟩) (a4:aN K "term" f4) (l4:K.lookup f4 = some ⟨oc4,od4,.func (FN "term" zfr (.ref dT4) kV4 dc4 pm4 an4 cd4 ct4),sl4⟩) (c4:cN K cd4 "term") (p4:pN K f4) (d4:K.lookup dT4 = some ⟨.type "tuple",dd4,.seq #[.int 0 dk4_0,.int 0 dk4_1,.int 0 dk4_2,.int 0 dk4_3] dn4,ds4⟩) (a5:aN K "moved" f5) (l5:K.lookup f5 = some ⟨oc5,od5,.func (FN "moved" zca (.ref dT5) kV5 dc5 pm5 an5 cd5 ct5),sl5⟩) (c5:cN K cd5 "moved") (p5:pN K f5) (d5:K.lookup dT5 = some ⟨.type "tuple",dd5,.seq #[.int 0 dk5_0] dn5,ds5⟩) (a6:aN K "doubled" f6) (l6:K.lookup f6 = some ⟨oc6,od6,.func (FN "doubled" zbq .none kV6 dc6 pm6 an6 cd6 ct6),sl6⟩) (c6:cN K cd6 "doubled") (p6:pN K f6) (a7:aN K "kept_mark" f7) (l7:K.lookup f7 = some ⟨oc7,od7,.func (FN "kept_mark" za9 .none kV7 dc7 pm7 an7 cd7 ct7),sl7⟩) (c7:cN K cd7 "kept_mark") (p7:pN K f7) (a8:aN K "kept_contrary" f8) (l8:K.lookup f8 = some ⟨oc8,od8,.func (FN "kept_contrary" zag .none kV8 dc8 pm8 an8 cd8 ct8),sl8⟩) (c8:cN K cd8 "kept_contrary") (p8:pN K f8) (a9:aN K "asked_words" f9) (l9:K.lookup f9 = some ⟨oc9,od9,.func (FN "asked_words" z5 .none kV9 dc9 pm9 an9 cd9 ct9),sl9⟩) (c9:cN K cd9 "asked_words") (p9:pN K f9) (a10:aN K "answer_marks" f10) (l10:K.lookup f10 = some ⟨oc10,od10,.func (FN "answer_marks" zC .none kV10 dc10 pm10 an10 cd10 ct10),sl10⟩) (c10:cN K cd10 "answer_marks") (p10:pN K f10) (a11:aN K "quotient_telling" f11) (l11:K.lookup f11 = some ⟨oc11,od11,.func (FN "quotient_telling" zK .none kV11 dc11 pm11 an11 cd11 ct11),sl11⟩) (c11:cN K cd11 "quotient_telling") (p11:pN K f11) (a12:aN K "by_nought" f12) (l12:K.lookup f12 = some ⟨oc12,od12,.func (FN "by_nought" zat .none kV12 dc12 pm12 an12 cd12 ct12),sl12⟩) (c12:cN K cd12 "by_nought") (p12:pN K f12) (a13:aN K "divided" f13) (l13:K.lookup f13 = some ⟨oc13,od13,.func (FN "divided" zaj .none kV13 dc13 pm13 an13 cd13 ct13),sl13⟩) (c13:cN K cd13 "divided") (p13:pN K f13) (a14:aN K "next_place" f14) (l14:K.lookup f14 = some ⟨oc14,od14,.func (FN "next_place" zas .none kV14 dc14 pm14 an14 cd14 ct14),sl14⟩) (c14:cN K cd14 "next_place") (p14:pN K f14) (a15:aN K "less_divisor" f15) (l15:K.lookup f15 = some ⟨oc15,od15,.func (FN "less_divisor" zL .none kV15 dc15 pm15 an15 cd15 ct15),sl15⟩) (c15:cN K cd15 "less_divisor") (p15:pN K f15) (a16:aN K "put_back" f16) (l16:K.lookup f16 = some ⟨oc16,od16,.func (FN "put_back" zaf .none kV16 dc16 pm16 an16 cd16 ct16),sl16⟩) (c16:cN K cd16 "put_back") (p16:pN K f16) (a17:aN K "next_figure" f17) (l17:K.lookup f17 = some ⟨oc17,od17,.func (FN "next_figure" z7 .none kV17 dc17 pm17 an17 cd17 ct17),sl17⟩) (c17:cN K cd17 "next_figure") (p17:pN K f17) (a18:aN K "telling" f18) (l18:K.lookup f18 = some ⟨oc18,od18,.func (FN "telling" za1 .none kV18 dc18 pm18 an18 cd18 ct18),sl18⟩) (c18:cN K cd18 "telling") (p18:pN K f18) (a19:aN K "is_deed" f19) (l19:K.lookup f19 = some ⟨oc19,od19,.func (FN "is_deed" zaG .none kV19 dc19 pm19 an19 cd19 ct19),sl19⟩) (c19:cN K cd19 "is_deed") (p19:pN K f19) (a20:aN K "named_telling" f20) (l20:K.lookup f20 = some ⟨oc20,od20,.func (FN "named_telling" zal .none kV20 dc20 pm20 an20 cd20 ct20),sl20⟩) (c20:cN K cd20 "named_telling") (p20:pN K f20) (a21:aN K "_law_fresh" f21) (l21:K.lookup f21 = some ⟨oc21,od21,.func (FN "_law_fresh" zdz .none kV21 dc21 pm21 an21 cd21 ct21),sl21⟩) (c21:cN K cd21 "_law_fresh") (p21:pN K f21) (a22:aN K "_law_mixed" f22) (l22:K.lookup f22 = some ⟨oc22,od22,.func (FN "_law_mixed" zcE .none kV22 dc22 pm22 an22 cd22 ct22),sl22⟩) (c22:cN K cd22 "_law_mixed") (p22:pN K f22) (a23:aN K "_law_fill" f23) (l23:K.lookup f23 = some ⟨oc23,od23,.func (FN "_law_fill" zdd .none kV23 dc23 pm23 an23 cd23 ct23),sl23⟩) (c23:cN K cd23 "_law_fill") (p23:pN K f23) (a24:aN K "_law_take" f24) (l24:K.lookup f24 = some ⟨oc24,od24,.func (FN "_law_take" zd2 .none kV24 dc24 pm24 an24 cd24 ct24),sl24⟩) (c24:cN K cd24 "_law_take") (p24:pN K f24) (a25:aN K "_law_worth" f25) (l25:K.lookup f25 = some ⟨oc25,od25,.func (FN "_law_worth" zcm .none kV25 dc25 pm25 an25 cd25 ct25),sl25⟩) (c25:cN K cd25 "_law_worth") (p25:pN K f25) (a26:aN K "_law_two_to" f26) (l26:K.lookup f26 = some ⟨oc26,od26,.func (FN "_law_two_to" zb6 .none kV26 dc26 pm26 an26 cd26 ct26),sl26⟩) (c26:cN K cd26 "_law_two_to") (p26:pN K f26) (a27:aN K "_law_words" f27) (l27:K.lookup f27 = some ⟨oc27,od27,.func (FN "_law_words" zb0 .none kV27 dc27 pm27 an27 cd27 ct27),sl27⟩) (c27:cN K cd27 "_law_words") (p27:pN K f27) (a28:aN K "_law_whole" f28) (l28:K.lookup f28 = some ⟨oc28,od28,.func (FN "_law_whole" zbZ .none kV28 dc28 pm28 an28 cd28 ct28),sl28⟩) (c28:cN K cd28 "_law_whole") (p28:pN K f28) (a29:aN K "_law_wholes" f29) (l29:K.lookup f29 = some ⟨oc29,od29,.func (FN "_law_wholes" zaQ .none kV29 dc29 pm29 an29 cd29 ct29),sl29⟩) (c29:cN K cd29 "_law_wholes") (p29:pN K f29) (a30:aN K "_law_letter" f30) (l30:K.lookup f30 = some ⟨oc30,od30,.func (FN "_law_letter" zbp .none kV30 dc30 pm30 an30 cd30 ct30),sl30⟩) (c30:cN K cd30 "_law_letter") (p30:pN K f30) (a31:aN K "_law_index_cell" f31) (l31:K.lookup f31 = some ⟨oc31,od31,.func (FN "_law_index_cell" zQ .none kV31 dc31 pm31 an31 cd31 ct31),sl31⟩) (c31:cN K cd31 "_law_index_cell") (p31:pN K f31) (a32:aN K "_law_telling_row" f32) (l32:K.lookup f32 = some ⟨oc32,od32,.func (FN "_law_telling_row" zz .none kV32 dc32 pm32 an32 cd32 ct32),sl32⟩) (c32:cN K cd32 "_law_telling_row") (p32:pN K f32) (a33:aN K "_law_thing" f33) (l33:K.lookup f33 = some ⟨oc33,od33,.func (FN "_law_thing" zbl .none kV33 dc33 pm33 an33 cd33 ct33),sl33⟩) (c33:cN K cd33 "_law_thing") (p33:pN K f33) (a34:aN K "_law_is_sentence" f34) (l34:K.lookup f34 = some ⟨oc34,od34,.func (FN "_law_is_sentence" zy .none kV34 dc34 pm34 an34 cd34 ct34),sl34⟩) (c34:cN K cd34 "_law_is_sentence") (p34:pN K f34) (a35:aN K "_law_part" f35) (l35:K.lookup f35 = some ⟨oc35,od35,.func (FN "_law_part" zbk .none kV35 dc35 pm35 an35 cd35 ct35),sl35⟩) (c35:cN K cd35 "_law_part") (p35:pN K f35) (a36:aN K "_law_is_telling" f36) (l36:K.lookup f36 = some ⟨oc36,od36,.func (FN "_law_is_telling" zZ .none kV36 dc36 pm36 an36 cd36 ct36),sl36⟩) (c36:cN K cd36 "_law_is_telling") (p36:pN K f36) (a37:aN K "_law_at" f37) (l37:K.lookup f37 = some ⟨oc37,od37,.func (FN "_law_at" zkR .none kV37 dc37 pm37 an37 cd37 ct37),sl37⟩) (c37:cN K cd37 "_law_at") (p37:pN K f37) (a38:aN K "_law_plain_row" f38) (l38:K.lookup f38 = some ⟨oc38,od38,.func (FN "_law_plain_row" zap .none kV38 dc38 pm38 an38 cd38 ct38),sl38⟩) (c38:cN K cd38 "_law_plain_row") (p38:pN K f38) (a39:aN K "_law_one_done" f39) (l39:K.lookup f39 = some ⟨oc39,od39,.func (FN "_law_one_done" zbC .none kV39 dc39 pm39 an39 cd39 ct39),sl39⟩) (c39:cN K cd39 "_law_one_done") (p39:pN K f39) (a40:aN K "_law_done" f40) (l40:K.lookup f40 = some ⟨oc40,od40,.func (FN "_law_done" zcD .none kV40 dc40 pm40 an40 cd40 ct40),sl40⟩) (c40:cN K cd40 "_law_done") (p40:pN K f40) (a41:aN K "_law_count" f41) (l41:K.lookup f41 = some ⟨oc41,od41,.func (FN "_law_count" zdC .none kV41 dc41 pm41 an41 cd41 ct41),sl41⟩) (c41:cN K cd41 "_law_count") (p41:pN K f41) (a42:aN K "_law_unrolled" f42) (l42:K.lookup f42 = some ⟨oc42,od42,.func (FN "_law_unrolled" zW .none kV42 dc42 pm42 an42 cd42 ct42),sl42⟩) (c42:cN K cd42 "_law_unrolled") (p42:pN K f42) (a43:aN K "_law_rows_right" f43) (l43:K.lookup f43 = some ⟨oc43,od43,.func (FN "_law_rows_right" zaq .none kV43 dc43 pm43 an43 cd43 ct43),sl43⟩) (c43:cN K cd43 "_law_rows_right") (p43:pN K f43) (a44:aN K "_law_begun" f44) (l44:K.lookup f44 = some ⟨oc44,od44,.func (FN "_law_begun" zco .none kV44 dc44 pm44 an44 cd44 ct44),sl44⟩) (c44:cN K cd44 "_law_begun") (p44:pN K f44) (a45:aN K "_law_run" f45) (l45:K.lookup f45 = some ⟨oc45,od45,.func (FN "_law_run" zcR .none kV45 dc45 pm45 an45 cd45 ct45),sl45⟩) (c45:cN K cd45 "_law_run") (p45:pN K f45) (a46:aN K "_law_read" f46) (l46:K.lookup f46 = some ⟨oc46,od46,.func (FN "_law_read" zdu .none kV46 dc46 pm46 an46 cd46 ct46),sl46⟩) (c46:cN K cd46 "_law_read") (p46:pN K f46) (a47:aN K "_law_marks" f47) (l47:K.lookup f47 = some ⟨oc47,od47,.func (FN "_law_marks" zck .none kV47 dc47 pm47 an47 cd47 ct47),sl47⟩) (c47:cN K cd47 "_law_marks") (p47:pN K f47) (a48:aN K "_law_ends" f48) (l48:K.lookup f48 = some ⟨oc48,od48,.func (FN "_law_ends" zdl .none kV48 dc48 pm48 an48 cd48 ct48),sl48⟩) (c48:cN K cd48 "_law_ends") (p48:pN K f48) (a49:aN K "_law_few" f49) (l49:K.lookup f49 = some ⟨oc49,od49,.func (FN "_law_few" zfg .none kV49 dc49 pm49 an49 cd49 ct49),sl49⟩) (c49:cN K cd49 "_law_few") (p49:pN K f49) (a50:aN K "_law_two" f50) (l50:K.lookup f50 = some ⟨oc50,od50,.func (FN "_law_two" zdk .none kV50 dc50 pm50 an50 cd50 ct50),sl50⟩) (c50:cN K cd50 "_law_two") (p50:pN K f50) (a51:aN K "law" f51) (l51:K.lookup f51 = some ⟨oc51,od51,.func (FN "law" zdE .none kV51 dc51 pm51 an51 cd51 ct51),sl51⟩) (c51:cN K cd51 "law") (p51:pN K f51) (z_abs:PySem.W.nsIn K mainGlobals "abs" = some none) (z_all:PySem.W.nsIn K mainGlobals "all" = some none) (z_bool:PySem.W.nsIn K mainGlobals "bool" = some none) (z_enumerate:PySem.W.nsIn K mainGlobals "enumerate" = some none) (z_int:PySem.W.nsIn K mainGlobals "int" = some none) (z_isinstance:PySem.W.nsIn K mainGlobals "isinstance" = some none) (z_len:PySem.W.nsIn K mainGlobals "len" = some none) (z_max:PySem.W.nsIn K mainGlobals "max" = some none) (z_min:PySem.W.nsIn K mainGlobals "min" = some none) (z_range:PySem.W.nsIn K mainGlobals "range" = some none) (z_str:PySem.W.nsIn K mainGlobals "str" = some none) (z_tuple:PySem.W.nsIn K mainGlobals "tuple" = some none) (k_bool_n:PySem.W.kitOne K (.type "NoneType") (.type "bool") = some false) (k_bool_b:PySem.W.kitOne K (.type "bool") (.type "bool") = some true) (k_bool_i:PySem.W.kitOne K (.type "int") (.type "bool") = some false) (k_bool_s:PySem.W.kitOne K (.type "str") (.type "bool") = some false) (k_bool_p:PySem.W.kitOne K (.type "tuple") (.type "bool") = some false) (k_bool_l:PySem.W.kitOne K (.type "list") (.type "bool") = some false) (k_int_n:PySem.W.kitOne K (.type "NoneType") (.type "int") = some false) (k_int_b:PySem.W.kitOne K (.type "bool") (.type "int") = some true) (k_int_i:PySem.W.kitOne K (.type "int") (.type "int") = some true) (k_int_s:PySem.W.kitOne K (.type "str") (.type "int") = some false) (k_int_p:PySem.W.kitOne K (.type "tuple") (.type "int") = some false) (k_int_l:PySem.W.kitOne K (.type "list") (.type "int") = some false) (k_str_n:PySem.W.kitOne K (.type "NoneType") (.type "str") = some false) (k_str_b:PySem.W.kitOne K (.type "bool") (.type "str") = some false) (k_str_i:PySem.W.kitOne K (.type "int") (.type "str") = some false) (k_str_s:PySem.W.kitOne K (.type "str") (.type "str") = some true) (k_str_p:PySem.W.kitOne K (.type "tuple") (.type "str") = some false) (k_str_l:PySem.W.kitOne K (.type "list") (.type "str") = some false) (k_tuple_n:PySem.W.kitOne K (.type "NoneType") (.type "tuple") = some false) (k_tuple_b:PySem.W.kitOne K (.type "bool") (.type "tuple") = some false) (k_tuple_i:PySem.W.kitOne K (.type "int") (.type "tuple") = some false) (k_tuple_s:PySem.W.kitOne K (.type "str") (.type "tuple") = some false) (k_tuple_p:PySem.W.kitOne K (.type "tuple") (.type "tuple") = some true) (k_tuple_l:PySem.W.kitOne K (.type "list") (.type "tuple") = some false) (g_BACK_a:aN K "BACK" g_BACK_y0) (g_BACK_l0:K.lookup g_BACK_y0 = some ⟨.type "tuple",g_BACK_d0,.seq #[.str "f" g_BACK_t0_0,.ref g_BACK_y1] g_BACK_n0,g_BACK_s0⟩) (g_BACK_l1:K.lookup g_BACK_y1 = some ⟨.type "tuple",g_BACK_d1,.seq #[.int 0 g_BACK_t1_0,.int 0 g_BACK_t1_1,.int 0 g_BACK_t1_2,.int 0 g_BACK_t1_3] g_BACK_n1,g_BACK_s1⟩) (g_EACH_PLACE_a:aN K "EACH_PLACE" g_EACH_PLACE_y0) (g_EACH_PLACE_l0:K.lookup g_EACH_PLACE_y0 = some ⟨.type "tuple",g_EACH_PLACE_d0,.seq #[.int 0 g_EACH_PLACE_t0_0,.int 0 g_EACH_PLACE_t0_1,.int 1 g_EACH_PLACE_t0_2] g_EACH_PLACE_n0,g_EACH_PLACE_s0⟩) (g_EACH_WORD_a:aN K "EACH_WORD" g_EACH_WORD_y0) (g_EACH_WORD_l0:K.lookup g_EACH_WORD_y0 = some ⟨.type "tuple",g_EACH_WORD_d0,.seq #[.int 0 g_EACH_WORD_t0_0,.int 1 g_EACH_WORD_t0_1,.int 0 g_EACH_WORD_t0_2] g_EACH_WORD_n0,g_EACH_WORD_s0⟩) (g_LONE_a:aN K "LONE" g_LONE_y0) (g_LONE_l0:K.lookup g_LONE_y0 = some ⟨.type "tuple",g_LONE_d0,.seq #[.str "turned" g_LONE_t0_0,.str "bare" g_LONE_t0_1] g_LONE_n0,g_LONE_s0⟩) (g_MARKS_a:aN K "MARKS" g_MARKS_y0) (g_MARKS_l0:K.lookup g_MARKS_y0 = some ⟨.type "tuple",g_MARKS_d0,.seq #[.ref g_MARKS_y1,.ref g_MARKS_y3,.ref g_MARKS_y5,.ref g_MARKS_y7] g_MARKS_n0,g_MARKS_s0⟩) (g_MARKS_l1:K.lookup g_MARKS_y1 = some ⟨.type "tuple",g_MARKS_d1,.seq #[.str "m" g_MARKS_t1_0,.ref g_MARKS_y2] g_MARKS_n1,g_MARKS_s1⟩) (g_MARKS_l2:K.lookup g_MARKS_y2 = some ⟨.type "tuple",g_MARKS_d2,.seq #[.int 0 g_MARKS_t2_0,.int 0 g_MARKS_t2_1,.int 0 g_MARKS_t2_2,.int 0 g_MARKS_t2_3] g_MARKS_n2,g_MARKS_s2⟩) (g_MARKS_l3:K.lookup g_MARKS_y3 = some ⟨.type "tuple",g_MARKS_d3,.seq #[.str "m" g_MARKS_t3_0,.ref g_MARKS_y4] g_MARKS_n3,g_MARKS_s3⟩) (g_MARKS_l4:K.lookup g_MARKS_y4 = some ⟨.type "tuple",g_MARKS_d4,.seq #[.int 1 g_MARKS_t4_0,.int 0 g_MARKS_t4_1,.int 0 g_MARKS_t4_2,.int 0 g_MARKS_t4_3] g_MARKS_n4,g_MARKS_s4⟩) (g_MARKS_l5:K.lookup g_MARKS_y5 = some ⟨.type "tuple",g_MARKS_d5,.seq #[.str "m" g_MARKS_t5_0,.ref g_MARKS_y6] g_MARKS_n5,g_MARKS_s5⟩) (g_MARKS_l6:K.lookup g_MARKS_y6 = some ⟨.type "tuple",g_MARKS_d6,.seq #[.int 2 g_MARKS_t6_0,.int 0 g_MARKS_t6_1,.int 0 g_MARKS_t6_2,.int 0 g_MARKS_t6_3] g_MARKS_n6,g_MARKS_s6⟩) (g_MARKS_l7:K.lookup g_MARKS_y7 = some ⟨.type "tuple",g_MARKS_d7,.seq #[.str "m" g_MARKS_t7_0,.ref g_MARKS_y8] g_MARKS_n7,g_MARKS_s7⟩) (g_MARKS_l8:K.lookup g_MARKS_y8 = some ⟨.type "tuple",g_MARKS_d8,.seq #[.int 3 g_MARKS_t8_0,.int 0 g_MARKS_t8_1,.int 0 g_MARKS_t8_2,.int 0 g_MARKS_t8_3] g_MARKS_n8,g_MARKS_s8⟩) (g_NIL_a:aN K "NIL" g_NIL_y0) (g_NIL_l0:K.lookup g_NIL_y0 = some ⟨.type "tuple",g_NIL_d0,.seq #[.str "z" g_NIL_t0_0,.ref g_NIL_y1] g_NIL_n0,g_NIL_s0⟩) (g_NIL_l1:K.lookup g_NIL_y1 = some ⟨.type "tuple",g_NIL_d1,.seq #[.int 0 g_NIL_t1_0,.int 0 g_NIL_t1_1,.int 0 g_NIL_t1_2,.int 0 g_NIL_t1_3] g_NIL_n1,g_NIL_s1⟩) (g_PAIRED_a:aN K "PAIRED" g_PAIRED_y0) (g_PAIRED_l0:K.lookup g_PAIRED_y0 = some ⟨.type "tuple",g_PAIRED_d0,.seq #[.str "sum" g_PAIRED_t0_0,.str "difference" g_PAIRED_t0_1,.str "compare" g_PAIRED_t0_2,.str "both" g_PAIRED_t0_3,.str "any" g_PAIRED_t0_4,.str "odd" g_PAIRED_t0_5,.str "product" g_PAIRED_t0_6,.str "signed product" g_PAIRED_t0_7,.str "quotient" g_PAIRED_t0_8,.str "signed quotient" g_PAIRED_t0_9] g_PAIRED_n0,g_PAIRED_s0⟩) (g_PAIRWISE_a:aN K "PAIRWISE" g_PAIRWISE_y0) (g_PAIRWISE_l0:K.lookup g_PAIRWISE_y0 = some ⟨.type "tuple",g_PAIRWISE_d0,.seq #[.str "both" g_PAIRWISE_t0_0,.str "any" g_PAIRWISE_t0_1,.str "odd" g_PAIRWISE_t0_2] g_PAIRWISE_n0,g_PAIRWISE_s0⟩) (g_SEEN_a:aN K "SEEN" g_SEEN_y0) (g_SEEN_l0:K.lookup g_SEEN_y0 = some ⟨.type "tuple",g_SEEN_d0,.seq #[.str "s" g_SEEN_t0_0,.ref g_SEEN_y1] g_SEEN_n0,g_SEEN_s0⟩) (g_SEEN_l1:K.lookup g_SEEN_y1 = some ⟨.type "tuple",g_SEEN_d1,.seq #[.int 0 g_SEEN_t1_0,.int 0 g_SEEN_t1_1,.int 0 g_SEEN_t1_2,.int 0 g_SEEN_t1_3] g_SEEN_n1,g_SEEN_s1⟩) (g_SHIFTS_a:aN K "SHIFTS" g_SHIFTS_y0) (g_SHIFTS_l0:K.lookup g_SHIFTS_y0 = some ⟨.type "tuple",g_SHIFTS_d0,.seq #[.str "left" g_SHIFTS_t0_0,.str "right" g_SHIFTS_t0_1,.str "down" g_SHIFTS_t0_2,.str "roll" g_SHIFTS_t0_3] g_SHIFTS_n0,g_SHIFTS_s0⟩) (g_SPARE_a:aN K "SPARE" g_SPARE_y0) (g_SPARE_l0:K.lookup g_SPARE_y0 = some ⟨.type "tuple",g_SPARE_d0,.seq #[.str "t" g_SPARE_t0_0,.ref g_SPARE_y1] g_SPARE_n0,g_SPARE_s0⟩) (g_SPARE_l1:K.lookup g_SPARE_y1 = some ⟨.type "tuple",g_SPARE_d1,.seq #[.int 0 g_SPARE_t1_0,.int 0 g_SPARE_t1_1,.int 0 g_SPARE_t1_2,.int 0 g_SPARE_t1_3] g_SPARE_n1,g_SPARE_s1⟩)
   :∃ fd:FuncData,(∀ (s:Shared) (v:Value),BindsTo s fd ⟨[v],[]⟩ [("_law_script",v)]) /\ ∀ base:Heap,K.In base -> base.Ns mainGlobals mg -> FnOk l.prog w K mg base (CX1 l.prog w) 12 fx fd ["_law_script"] (spI K clx (callT T 12) zmp):=by
  have e:=Value.ref.inj (Option.some.inj (hfa.symm.trans (PySem.W.mg_of X G a51)))
  subst e
  have Z:Facts K mg clx (fun i=>([f0,f1,f2,f3,f4,f5,f6,f7,f8,f9,f10,f11,f12,f13,f14,f15,f16,f17,f18,f19,f20,f21,f22,f23,f24,f25,f26,f27,f28,f29,f30,f31,f32,f33,f34,f35,f36,f37,f38,f39,f40,f41,f42,f43,f44,f45,f46,f47,f48,f49,f50,fx]:List Addr).getD i 0) (fun i=>match i with
    | 0=>(FN "word" zdU (.ref dT0) kV0 dc0 pm0 an0 cd0 ct0)
    | 1=>(FN "rows" zff .none kV1 dc1 pm1 an1 cd1 ct1)
    | 2=>(FN "rounds" zdB .none kV2 dc2 pm2 an2 cd2 ct2)
    | 3=>(FN "lowest" zcl (.ref dT3) kV3 dc3 pm3 an3 cd3 ct3)
    | 4=>(FN "term" zfr (.ref dT4) kV4 dc4 pm4 an4 cd4 ct4)
    | 5=>(FN "moved" zca (.ref dT5) kV5 dc5 pm5 an5 cd5 ct5)
    | 6=>(FN "doubled" zbq .none kV6 dc6 pm6 an6 cd6 ct6)
    | 7=>(FN "kept_mark" za9 .none kV7 dc7 pm7 an7 cd7 ct7)
    | 8=>(FN "kept_contrary" zag .none kV8 dc8 pm8 an8 cd8 ct8)
    | 9=>(FN "asked_words" z5 .none kV9 dc9 pm9 an9 cd9 ct9)
    | 10=>(FN "answer_marks" zC .none kV10 dc10 pm10 an10 cd10 ct10)
    | 11=>(FN "quotient_telling" zK .none kV11 dc11 pm11 an11 cd11 ct11)
    | 12=>(FN "by_nought" zat .none kV12 dc12 pm12 an12 cd12 ct12)
    | 13=>(FN "divided" zaj .none kV13 dc13 pm13 an13 cd13 ct13)
    | 14=>(FN "next_place" zas .none kV14 dc14 pm14 an14 cd14 ct14)
    | 15=>(FN "less_divisor" zL .none kV15 dc15 pm15 an15 cd15 ct15)
    | 16=>(FN "put_back" zaf .none kV16 dc16 pm16 an16 cd16 ct16)
    | 17=>(FN "next_figure" z7 .none kV17 dc17 pm17 an17 cd17 ct17)
    | 18=>(FN "telling" za1 .none kV18 dc18 pm18 an18 cd18 ct18)
    | 19=>(FN "is_deed" zaG .none kV19 dc19 pm19 an19 cd19 ct19)
    | 20=>(FN "named_telling" zal .none kV20 dc20 pm20 an20 cd20 ct20)
    | 21=>(FN "_law_fresh" zdz .none kV21 dc21 pm21 an21 cd21 ct21)
    | 22=>(FN "_law_mixed" zcE .none kV22 dc22 pm22 an22 cd22 ct22)
    | 23=>(FN "_law_fill" zdd .none kV23 dc23 pm23 an23 cd23 ct23)
    | 24=>(FN "_law_take" zd2 .none kV24 dc24 pm24 an24 cd24 ct24)
    | 25=>(FN "_law_worth" zcm .none kV25 dc25 pm25 an25 cd25 ct25)
    | 26=>(FN "_law_two_to" zb6 .none kV26 dc26 pm26 an26 cd26 ct26)
    | 27=>(FN "_law_words" zb0 .none kV27 dc27 pm27 an27 cd27 ct27)
    | 28=>(FN "_law_whole" zbZ .none kV28 dc28 pm28 an28 cd28 ct28)
    | 29=>(FN "_law_wholes" zaQ .none kV29 dc29 pm29 an29 cd29 ct29)
    | 30=>(FN "_law_letter" zbp .none kV30 dc30 pm30 an30 cd30 ct30)
    | 31=>(FN "_law_index_cell" zQ .none kV31 dc31 pm31 an31 cd31 ct31)
    | 32=>(FN "_law_telling_row" zz .none kV32 dc32 pm32 an32 cd32 ct32)
    | 33=>(FN "_law_thing" zbl .none kV33 dc33 pm33 an33 cd33 ct33)
    | 34=>(FN "_law_is_sentence" zy .none kV34 dc34 pm34 an34 cd34 ct34)
    | 35=>(FN "_law_part" zbk .none kV35 dc35 pm35 an35 cd35 ct35)
    | 36=>(FN "_law_is_telling" zZ .none kV36 dc36 pm36 an36 cd36 ct36)
    | 37=>(FN "_law_at" zkR .none kV37 dc37 pm37 an37 cd37 ct37)
    | 38=>(FN "_law_plain_row" zap .none kV38 dc38 pm38 an38 cd38 ct38)
    | 39=>(FN "_law_one_done" zbC .none kV39 dc39 pm39 an39 cd39 ct39)
    | 40=>(FN "_law_done" zcD .none kV40 dc40 pm40 an40 cd40 ct40)
    | 41=>(FN "_law_count" zdC .none kV41 dc41 pm41 an41 cd41 ct41)
    | 42=>(FN "_law_unrolled" zW .none kV42 dc42 pm42 an42 cd42 ct42)
    | 43=>(FN "_law_rows_right" zaq .none kV43 dc43 pm43 an43 cd43 ct43)
    | 44=>(FN "_law_begun" zco .none kV44 dc44 pm44 an44 cd44 ct44)
    | 45=>(FN "_law_run" zcR .none kV45 dc45 pm45 an45 cd45 ct45)
    | 46=>(FN "_law_read" zdu .none kV46 dc46 pm46 an46 cd46 ct46)
    | 47=>(FN "_law_marks" zck .none kV47 dc47 pm47 an47 cd47 ct47)
    | 48=>(FN "_law_ends" zdl .none kV48 dc48 pm48 an48 cd48 ct48)
    | 49=>(FN "_law_few" zfg .none kV49 dc49 pm49 an49 cd49 ct49)
    | 50=>(FN "_law_two" zdk .none kV50 dc50 pm50 an50 cd50 ct50)
    | 51=>(FN "law" zdE .none kV51 dc51 pm51 an51 cd51 ct51)
    | _=>(FN "law" zdE .none kV51 dc51 pm51 an51 cd51 ct51)):={
    F0:=⟨⟨_,_,dT0,_,_,_,_,_,_,_,_,_,_,rfl,l0,c0,d0,rfl,.cons ⟨_,rfl⟩ (.cons ⟨_,rfl⟩ (.cons ⟨_,rfl⟩ (.cons ⟨_,rfl⟩ (.nil))))⟩,p0,PySem.W.mg_of X G a0⟩
    F1:=zae (st:=zff) (ps:=["told"]) X G a1 l1 c1 p1 fun _ _ _ _ _ _ us hl=>by obtain ⟨a,rfl⟩ := kl1 us hl; exact rfl
    F2:=zae (st:=zdB) (ps:=["count","sentence","inner"]) X G a2 l2 c2 p2 fun _ _ _ _ _ _ us hl=>by obtain ⟨a,b,c,rfl⟩ := kl3 us hl; exact rfl
    F3:=⟨⟨_,_,dT3,_,_,_,_,_,_,_,_,_,_,rfl,l3,c3,d3,rfl,.cons ⟨_,rfl⟩ (.cons ⟨_,rfl⟩ (.cons ⟨_,rfl⟩ (.cons ⟨_,rfl⟩ (.nil))))⟩,p3,PySem.W.mg_of X G a3⟩
    F4:=⟨⟨_,_,dT4,_,_,_,_,_,_,_,_,_,_,rfl,l4,c4,d4,rfl,.cons ⟨_,rfl⟩ (.cons ⟨_,rfl⟩ (.cons ⟨_,rfl⟩ (.cons ⟨_,rfl⟩ (.nil))))⟩,p4,PySem.W.mg_of X G a4⟩
    F5:=⟨⟨_,_,dT5,_,_,_,_,_,_,_,_,_,_,rfl,l5,c5,d5,rfl,.cons ⟨_,rfl⟩ (.nil)⟩,p5,PySem.W.mg_of X G a5⟩
    F6:=zae (st:=zbq) (ps:=["letter","count"]) X G a6 l6 c6 p6 fun _ _ _ _ _ _ us hl=>by obtain ⟨a,b,rfl⟩ := kl2 us hl; exact rfl
    F7:=zae (st:=za9) (ps:=["to"]) X G a7 l7 c7 p7 fun _ _ _ _ _ _ us hl=>by obtain ⟨a,rfl⟩ := kl1 us hl; exact rfl
    F8:=zae (st:=zag) (ps:=["to"]) X G a8 l8 c8 p8 fun _ _ _ _ _ _ us hl=>by obtain ⟨a,rfl⟩ := kl1 us hl; exact rfl
    F9:=zae (st:=z5) (ps:=["letter","m","count"]) X G a9 l9 c9 p9 fun _ _ _ _ _ _ us hl=>by obtain ⟨a,b,c,rfl⟩ := kl3 us hl; exact rfl
    F10:=zae (st:=zC) (ps:=["c","m"]) X G a10 l10 c10 p10 fun _ _ _ _ _ _ us hl=>by obtain ⟨a,b,rfl⟩ := kl2 us hl; exact rfl
    F11:=zae (st:=zK) (ps:=[]) X G a11 l11 c11 p11 fun _ _ _ _ _ _ us hl=>by obtain rfl := kl0 us hl; exact rfl
    F12:=zae (st:=zat) (ps:=[]) X G a12 l12 c12 p12 fun _ _ _ _ _ _ us hl=>by obtain rfl := kl0 us hl; exact rfl
    F13:=zae (st:=zaj) (ps:=["x","y","answer","rest"]) X G a13 l13 c13 p13 fun _ _ _ _ _ _ us hl=>by obtain ⟨a,b,c,d,rfl⟩ := kl4 us hl; exact rfl
    F14:=zae (st:=zas) (ps:=["rest"]) X G a14 l14 c14 p14 fun _ _ _ _ _ _ us hl=>by obtain ⟨a,rfl⟩ := kl1 us hl; exact rfl
    F15:=zae (st:=zL) (ps:=["rest","y"]) X G a15 l15 c15 p15 fun _ _ _ _ _ _ us hl=>by obtain ⟨a,b,rfl⟩ := kl2 us hl; exact rfl
    F16:=zae (st:=zaf) (ps:=["rest","y"]) X G a16 l16 c16 p16 fun _ _ _ _ _ _ us hl=>by obtain ⟨a,b,rfl⟩ := kl2 us hl; exact rfl
    F17:=zae (st:=z7) (ps:=["answer"]) X G a17 l17 c17 p17 fun _ _ _ _ _ _ us hl=>by obtain ⟨a,rfl⟩ := kl1 us hl; exact rfl
    F18:=zae (st:=za1) (ps:=["deed"]) X G a18 l18 c18 p18 fun _ _ _ _ _ _ us hl=>by obtain ⟨a,rfl⟩ := kl1 us hl; exact rfl
    F19:=zae (st:=zaG) (ps:=["thing"]) X G a19 l19 c19 p19 fun _ _ _ _ _ _ us hl=>by obtain ⟨a,rfl⟩ := kl1 us hl; exact rfl
    F20:=zae (st:=zal) (ps:=["name"]) X G a20 l20 c20 p20 fun _ _ _ _ _ _ us hl=>by obtain ⟨a,rfl⟩ := kl1 us hl; exact rfl
    F21:=zae (st:=zdz) (ps:=["_law_script"]) X G a21 l21 c21 p21 fun _ _ _ _ _ _ us hl=>by obtain ⟨a,rfl⟩ := kl1 us hl; exact rfl
    F22:=zae (st:=zcE) (ps:=["_law_seed"]) X G a22 l22 c22 p22 fun _ _ _ _ _ _ us hl=>by obtain ⟨a,rfl⟩ := kl1 us hl; exact rfl
    F23:=zae (st:=zdd) (ps:=["_law_state"]) X G a23 l23 c23 p23 fun _ _ _ _ _ _ us hl=>by obtain ⟨a,rfl⟩ := kl1 us hl; exact rfl
    F24:=zae (st:=zd2) (ps:=["_law_state","_law_many"]) X G a24 l24 c24 p24 fun _ _ _ _ _ _ us hl=>by obtain ⟨a,b,rfl⟩ := kl2 us hl; exact rfl
    F25:=zae (st:=zcm) (ps:=["_law_state","_law_w","_law_n"]) X G a25 l25 c25 p25 fun _ _ _ _ _ _ us hl=>by obtain ⟨a,b,c,rfl⟩ := kl3 us hl; exact rfl
    F26:=zae (st:=zb6) (ps:=["_law_many"]) X G a26 l26 c26 p26 fun _ _ _ _ _ _ us hl=>by obtain ⟨a,rfl⟩ := kl1 us hl; exact rfl
    F27:=zae (st:=zb0) (ps:=["_law_worth_here","_law_w","_law_n"]) X G a27 l27 c27 p27 fun _ _ _ _ _ _ us hl=>by obtain ⟨a,b,c,rfl⟩ := kl3 us hl; exact rfl
    F28:=zae (st:=zbZ) (ps:=["_law_thing_here"]) X G a28 l28 c28 p28 fun _ _ _ _ _ _ us hl=>by obtain ⟨a,rfl⟩ := kl1 us hl; exact rfl
    F29:=zae (st:=zaQ) (ps:=["_law_thing_here","_law_many","_law_most"]) X G a29 l29 c29 p29 fun _ _ _ _ _ _ us hl=>by obtain ⟨a,b,c,rfl⟩ := kl3 us hl; exact rfl
    F30:=zae (st:=zbp) (ps:=["_law_thing_here"]) X G a30 l30 c30 p30 fun _ _ _ _ _ _ us hl=>by obtain ⟨a,rfl⟩ := kl1 us hl; exact rfl
    F31:=zae (st:=zQ) (ps:=["_law_thing_here"]) X G a31 l31 c31 p31 fun _ _ _ _ _ _ us hl=>by obtain ⟨a,rfl⟩ := kl1 us hl; exact rfl
    F32:=zae (st:=zz) (ps:=["_law_row"]) X G a32 l32 c32 p32 fun _ _ _ _ _ _ us hl=>by obtain ⟨a,rfl⟩ := kl1 us hl; exact rfl
    F33:=zae (st:=zbl) (ps:=["_law_thing_here"]) X G a33 l33 c33 p33 fun _ _ _ _ _ _ us hl=>by obtain ⟨a,rfl⟩ := kl1 us hl; exact rfl
    F34:=zae (st:=zy) (ps:=["_law_told"]) X G a34 l34 c34 p34 fun _ _ _ _ _ _ us hl=>by obtain ⟨a,rfl⟩ := kl1 us hl; exact rfl
    F35:=zae (st:=zbk) (ps:=["_law_part_here","_law_deep"]) X G a35 l35 c35 p35 fun _ _ _ _ _ _ us hl=>by obtain ⟨a,b,rfl⟩ := kl2 us hl; exact rfl
    F36:=zae (st:=zZ) (ps:=["_law_told"]) X G a36 l36 c36 p36 fun _ _ _ _ _ _ us hl=>by obtain ⟨a,rfl⟩ := kl1 us hl; exact rfl
    F37:=zae (st:=zkR) (ps:=["_law_index","_law_i","_law_j","_law_n"]) X G a37 l37 c37 p37 fun _ _ _ _ _ _ us hl=>by obtain ⟨a,b,c,d,rfl⟩ := kl4 us hl; exact rfl
    F38:=zae (st:=zap) (ps:=["_law_row","_law_i","_law_j","_law_n"]) X G a38 l38 c38 p38 fun _ _ _ _ _ _ us hl=>by obtain ⟨a,b,c,d,rfl⟩ := kl4 us hl; exact rfl
    F39:=zae (st:=zbC) (ps:=["_law_cells","_law_mark","_law_row","_law_wide"]) X G a39 l39 c39 p39 fun _ _ _ _ _ _ us hl=>by obtain ⟨a,b,c,d,rfl⟩ := kl4 us hl; exact rfl
    F40:=zae (st:=zcD) (ps:=["_law_cells","_law_mark","_law_row","_law_wide"]) X G a40 l40 c40 p40 fun _ _ _ _ _ _ us hl=>by obtain ⟨a,b,c,d,rfl⟩ := kl4 us hl; exact rfl
    F41:=zae (st:=zdC) (ps:=["_law_count_here","_law_w","_law_n"]) X G a41 l41 c41 p41 fun _ _ _ _ _ _ us hl=>by obtain ⟨a,b,c,rfl⟩ := kl3 us hl; exact rfl
    F42:=zae (st:=zW) (ps:=["_law_told","_law_w","_law_n","_law_most"]) X G a42 l42 c42 p42 fun _ _ _ _ _ _ us hl=>by obtain ⟨a,b,c,d,rfl⟩ := kl4 us hl; exact rfl
    F43:=zae (st:=zaq) (ps:=["_law_rows"]) X G a43 l43 c43 p43 fun _ _ _ _ _ _ us hl=>by obtain ⟨a,rfl⟩ := kl1 us hl; exact rfl
    F44:=zae (st:=zco) (ps:=["_law_w","_law_n","_law_x","_law_y"]) X G a44 l44 c44 p44 fun _ _ _ _ _ _ us hl=>by obtain ⟨a,b,c,d,rfl⟩ := kl4 us hl; exact rfl
    F45:=zae (st:=zcR) (ps:=["_law_told","_law_w","_law_n","_law_x","_law_y"]) X G a45 l45 c45 p45 fun _ _ _ _ _ _ us hl=>by obtain ⟨a,b,c,d,e,rfl⟩ := kl5 us hl; exact rfl
    F46:=zae (st:=zdu) (ps:=["_law_cells","_law_letter_here","_law_many","_law_w"]) X G a46 l46 c46 p46 fun _ _ _ _ _ _ us hl=>by obtain ⟨a,b,c,d,rfl⟩ := kl4 us hl; exact rfl
    F47:=zae (st:=zck) (ps:=["_law_cells"]) X G a47 l47 c47 p47 fun _ _ _ _ _ _ us hl=>by obtain ⟨a,rfl⟩ := kl1 us hl; exact rfl
    F48:=zae (st:=zdl) (ps:=["_law_worth_here","_law_many"]) X G a48 l48 c48 p48 fun _ _ _ _ _ _ us hl=>by obtain ⟨a,b,rfl⟩ := kl2 us hl; exact rfl
    F49:=zae (st:=zfg) (ps:=["_law_state"]) X G a49 l49 c49 p49 fun _ _ _ _ _ _ us hl=>by obtain ⟨a,rfl⟩ := kl1 us hl; exact rfl
    F50:=zae (st:=zdk) (ps:=["_law_state","_law_w","_law_n"]) X G a50 l50 c50 p50 fun _ _ _ _ _ _ us hl=>by obtain ⟨a,b,c,rfl⟩ := kl3 us hl; exact rfl
    F51:=zae (st:=zdE) (ps:=["_law_script"]) X G a51 l51 c51 p51 fun _ _ _ _ _ _ us hl=>by obtain ⟨a,rfl⟩ := kl1 us hl; exact rfl
    z_abs:=PySem.W.mg_none_of X G z_abs
    z_all:=PySem.W.mg_none_of X G z_all
    z_bool:=PySem.W.mg_none_of X G z_bool
    z_enumerate:=PySem.W.mg_none_of X G z_enumerate
    z_int:=PySem.W.mg_none_of X G z_int
    z_isinstance:=PySem.W.mg_none_of X G z_isinstance
    z_len:=PySem.W.mg_none_of X G z_len
    z_max:=PySem.W.mg_none_of X G z_max
    z_min:=PySem.W.mg_none_of X G z_min
    z_range:=PySem.W.mg_none_of X G z_range
    z_str:=PySem.W.mg_none_of X G z_str
    z_tuple:=PySem.W.mg_none_of X G z_tuple
    k_bool:=⟨k_bool_n,k_bool_b,k_bool_i,k_bool_s,k_bool_p,k_bool_l⟩
    k_int:=⟨k_int_n,k_int_b,k_int_i,k_int_s,k_int_p,k_int_l⟩
    k_str:=⟨k_str_n,k_str_b,k_str_i,k_str_s,k_str_p,k_str_l⟩
    k_tuple:=⟨k_tuple_n,k_tuple_b,k_tuple_i,k_tuple_s,k_tuple_p,k_tuple_l⟩
    c_BACK:=⟨g_BACK_y0,PySem.W.mg_of X G g_BACK_a,fun B φ H=>zaN (xs:=[.str "f",.ref g_BACK_y1]) g_BACK_l0 (Nat.le_of_ble_eq_true rfl) (.cons ⟨_,rfl⟩ (.cons rfl .nil)) (zl (by simp only [RepV]) (zl (zaN (xs:=[.int 0,.int 0,.int 0,.int 0]) g_BACK_l1 (Nat.le_of_ble_eq_true rfl) (.cons ⟨_,rfl⟩ (.cons ⟨_,rfl⟩ (.cons ⟨_,rfl⟩ (.cons ⟨_,rfl⟩ .nil)))) (zl (by simp only [RepV]) (zl (by simp only [RepV]) (zl (by simp only [RepV]) (zl (by simp only [RepV]) zaH))))) zaH))⟩
    c_EACH_PLACE:=⟨g_EACH_PLACE_y0,PySem.W.mg_of X G g_EACH_PLACE_a,fun B φ H=>zaN (xs:=[.int 0,.int 0,.int 1]) g_EACH_PLACE_l0 (Nat.le_of_ble_eq_true rfl) (.cons ⟨_,rfl⟩ (.cons ⟨_,rfl⟩ (.cons ⟨_,rfl⟩ .nil))) (zl (by simp only [RepV]) (zl (by simp only [RepV]) (zl (by simp only [RepV]) zaH)))⟩
    c_EACH_WORD:=⟨g_EACH_WORD_y0,PySem.W.mg_of X G g_EACH_WORD_a,fun B φ H=>zaN (xs:=[.int 0,.int 1,.int 0]) g_EACH_WORD_l0 (Nat.le_of_ble_eq_true rfl) (.cons ⟨_,rfl⟩ (.cons ⟨_,rfl⟩ (.cons ⟨_,rfl⟩ .nil))) (zl (by simp only [RepV]) (zl (by simp only [RepV]) (zl (by simp only [RepV]) zaH)))⟩
    c_LONE:=⟨g_LONE_y0,PySem.W.mg_of X G g_LONE_a,fun B φ H=>zaN (xs:=[.str "turned",.str "bare"]) g_LONE_l0 (Nat.le_of_ble_eq_true rfl) (.cons ⟨_,rfl⟩ (.cons ⟨_,rfl⟩ .nil)) (zl (by simp only [RepV]) (zl (by simp only [RepV]) zaH))⟩
    c_MARKS:=⟨g_MARKS_y0,PySem.W.mg_of X G g_MARKS_a,fun B φ H=>zaN (xs:=[.ref g_MARKS_y1,.ref g_MARKS_y3,.ref g_MARKS_y5,.ref g_MARKS_y7]) g_MARKS_l0 (Nat.le_of_ble_eq_true rfl) (.cons rfl (.cons rfl (.cons rfl (.cons rfl .nil)))) (zl (zaN (xs:=[.str "m",.ref g_MARKS_y2]) g_MARKS_l1 (Nat.le_of_ble_eq_true rfl) (.cons ⟨_,rfl⟩ (.cons rfl .nil)) (zl (by simp only [RepV]) (zl (zaN (xs:=[.int 0,.int 0,.int 0,.int 0]) g_MARKS_l2 (Nat.le_of_ble_eq_true rfl) (.cons ⟨_,rfl⟩ (.cons ⟨_,rfl⟩ (.cons ⟨_,rfl⟩ (.cons ⟨_,rfl⟩ .nil)))) (zl (by simp only [RepV]) (zl (by simp only [RepV]) (zl (by simp only [RepV]) (zl (by simp only [RepV]) zaH))))) zaH))) (zl (zaN (xs:=[.str "m",.ref g_MARKS_y4]) g_MARKS_l3 (Nat.le_of_ble_eq_true rfl) (.cons ⟨_,rfl⟩ (.cons rfl .nil)) (zl (by simp only [RepV]) (zl (zaN (xs:=[.int 1,.int 0,.int 0,.int 0]) g_MARKS_l4 (Nat.le_of_ble_eq_true rfl) (.cons ⟨_,rfl⟩ (.cons ⟨_,rfl⟩ (.cons ⟨_,rfl⟩ (.cons ⟨_,rfl⟩ .nil)))) (zl (by simp only [RepV]) (zl (by simp only [RepV]) (zl (by simp only [RepV]) (zl (by simp only [RepV]) zaH))))) zaH))) (zl (zaN (xs:=[.str "m",.ref g_MARKS_y6]) g_MARKS_l5 (Nat.le_of_ble_eq_true rfl) (.cons ⟨_,rfl⟩ (.cons rfl .nil)) (zl (by simp only [RepV]) (zl (zaN (xs:=[.int 2,.int 0,.int 0,.int 0]) g_MARKS_l6 (Nat.le_of_ble_eq_true rfl) (.cons ⟨_,rfl⟩ (.cons ⟨_,rfl⟩ (.cons ⟨_,rfl⟩ (.cons ⟨_,rfl⟩ .nil)))) (zl (by simp only [RepV]) (zl (by simp only [RepV]) (zl (by simp only [RepV]) (zl (by simp only [RepV]) zaH))))) zaH))) (zl (zaN (xs:=[.str "m",.ref g_MARKS_y8]) g_MARKS_l7 (Nat.le_of_ble_eq_true rfl) (.cons ⟨_,rfl⟩ (.cons rfl .nil)) (zl (by simp only [RepV]) (zl (zaN (xs:=[.int 3,.int 0,.int 0,.int 0]) g_MARKS_l8 (Nat.le_of_ble_eq_true rfl) (.cons ⟨_,rfl⟩ (.cons ⟨_,rfl⟩ (.cons ⟨_,rfl⟩ (.cons ⟨_,rfl⟩ .nil)))) (zl (by simp only [RepV]) (zl (by simp only [RepV]) (zl (by simp only [RepV]) (zl (by simp only [RepV]) zaH))))) zaH))) zaH))))⟩
    c_NIL:=⟨g_NIL_y0,PySem.W.mg_of X G g_NIL_a,fun B φ H=>zaN (xs:=[.str "z",.ref g_NIL_y1]) g_NIL_l0 (Nat.le_of_ble_eq_true rfl) (.cons ⟨_,rfl⟩ (.cons rfl .nil)) (zl (by simp only [RepV]) (zl (zaN (xs:=[.int 0,.int 0,.int 0,.int 0]) g_NIL_l1 (Nat.le_of_ble_eq_true rfl) (.cons ⟨_,rfl⟩ (.cons ⟨_,rfl⟩ (.cons ⟨_,rfl⟩ (.cons ⟨_,rfl⟩ .nil)))) (zl (by simp only [RepV]) (zl (by simp only [RepV]) (zl (by simp only [RepV]) (zl (by simp only [RepV]) zaH))))) zaH))⟩
    c_PAIRED:=⟨g_PAIRED_y0,PySem.W.mg_of X G g_PAIRED_a,fun B φ H=>zaN (xs:=[.str "sum",.str "difference",.str "compare",.str "both",.str "any",.str "odd",.str "product",.str "signed product",.str "quotient",.str "signed quotient"]) g_PAIRED_l0 (Nat.le_of_ble_eq_true rfl) (.cons ⟨_,rfl⟩ (.cons ⟨_,rfl⟩ (.cons ⟨_,rfl⟩ (.cons ⟨_,rfl⟩ (.cons ⟨_,rfl⟩ (.cons ⟨_,rfl⟩ (.cons ⟨_,rfl⟩ (.cons ⟨_,rfl⟩ (.cons ⟨_,rfl⟩ (.cons ⟨_,rfl⟩ .nil)))))))))) (zl (by simp only [RepV]) (zl (by simp only [RepV]) (zl (by simp only [RepV]) (zl (by simp only [RepV]) (zl (by simp only [RepV]) (zl (by simp only [RepV]) (zl (by simp only [RepV]) (zl (by simp only [RepV]) (zl (by simp only [RepV]) (zl (by simp only [RepV]) zaH))))))))))⟩
    c_PAIRWISE:=⟨g_PAIRWISE_y0,PySem.W.mg_of X G g_PAIRWISE_a,fun B φ H=>zaN (xs:=[.str "both",.str "any",.str "odd"]) g_PAIRWISE_l0 (Nat.le_of_ble_eq_true rfl) (.cons ⟨_,rfl⟩ (.cons ⟨_,rfl⟩ (.cons ⟨_,rfl⟩ .nil))) (zl (by simp only [RepV]) (zl (by simp only [RepV]) (zl (by simp only [RepV]) zaH)))⟩
    c_SEEN:=⟨g_SEEN_y0,PySem.W.mg_of X G g_SEEN_a,fun B φ H=>zaN (xs:=[.str "s",.ref g_SEEN_y1]) g_SEEN_l0 (Nat.le_of_ble_eq_true rfl) (.cons ⟨_,rfl⟩ (.cons rfl .nil)) (zl (by simp only [RepV]) (zl (zaN (xs:=[.int 0,.int 0,.int 0,.int 0]) g_SEEN_l1 (Nat.le_of_ble_eq_true rfl) (.cons ⟨_,rfl⟩ (.cons ⟨_,rfl⟩ (.cons ⟨_,rfl⟩ (.cons ⟨_,rfl⟩ .nil)))) (zl (by simp only [RepV]) (zl (by simp only [RepV]) (zl (by simp only [RepV]) (zl (by simp only [RepV]) zaH))))) zaH))⟩
    c_SHIFTS:=⟨g_SHIFTS_y0,PySem.W.mg_of X G g_SHIFTS_a,fun B φ H=>zaN (xs:=[.str "left",.str "right",.str "down",.str "roll"]) g_SHIFTS_l0 (Nat.le_of_ble_eq_true rfl) (.cons ⟨_,rfl⟩ (.cons ⟨_,rfl⟩ (.cons ⟨_,rfl⟩ (.cons ⟨_,rfl⟩ .nil)))) (zl (by simp only [RepV]) (zl (by simp only [RepV]) (zl (by simp only [RepV]) (zl (by simp only [RepV]) zaH))))⟩
    c_SPARE:=⟨g_SPARE_y0,PySem.W.mg_of X G g_SPARE_a,fun B φ H=>zaN (xs:=[.str "t",.ref g_SPARE_y1]) g_SPARE_l0 (Nat.le_of_ble_eq_true rfl) (.cons ⟨_,rfl⟩ (.cons rfl .nil)) (zl (by simp only [RepV]) (zl (zaN (xs:=[.int 0,.int 0,.int 0,.int 0]) g_SPARE_l1 (Nat.le_of_ble_eq_true rfl) (.cons ⟨_,rfl⟩ (.cons ⟨_,rfl⟩ (.cons ⟨_,rfl⟩ (.cons ⟨_,rfl⟩ .nil)))) (zl (by simp only [RepV]) (zl (by simp only [RepV]) (zl (by simp only [RepV]) (zl (by simp only [RepV]) zaH))))) zaH))⟩
  }
  exact ⟨_,fun s v=>.of_eq rfl,fun base XB _=>zt Z 12 51 _ rfl⟩
theorem walk {l:PySem.W.OpenLaw} {q:Program} {loose:List Str} {XP:(Str -> Option Value) -> Heap -> Prop} {YP:World -> Heap -> Prop} {d:DefRec} {K:Params -> PySem.W.Frag} (hn:l.most = some 63) (hdf:d.params.defaults = [])
    (hY:∀ (w:World) (h:Heap),YP w h -> (K w.params).In h)
    (F:∀ (w:World) (mg:Str -> Option Value) (fa:Addr) (h:Heap),(K w.params).In h -> h.Ns mainGlobals mg -> mg d.name = some (.ref fa) ->
      ∃ fd:FuncData,(∀ (s:Shared) (u:Value),BindsTo s fd ⟨[u],[]⟩ [("_law_script",u)]) /\ ∀ base:Heap,(K w.params).In base -> base.Ns mainGlobals mg -> FnOk l.prog w (K w.params) mg base (CX1 l.prog w) 12 fa fd ["_law_script"] (spI (K w.params) clx (callT T 12) zmp)) :
    PySem.W.WalkO q loose XP YP l.row.toRowW d [] (fun f vs=>PySem.call f vs) :=
  L2.walk_of (n:=63) (k:=12) (x:="_law_script") (CX:=fun w=>CX1 l.prog w) (sp:=fun w=>spI (K w.params) clx (callT T 12) zmp) hn (by decide) hdf ⟨rfl,by decide,by decide⟩ hY F (fun w H a ns hl _ hS=>zmY zn5 hl hS) fun _ _ _ _ _ z=>zqP z
end WK
open PySem PySem.W PyProof.Rows
namespace PySem.W.Fast
def tw14588618420908790503:=Nat
def tw8514791837641826302:=Nat
def tw8382512831190571047:=Nat
def tw10121277769345225739:=Nat
def tw16186642389025412255:=Nat
def tw10492079832123669924:=Nat
def tw11058469167472619122:=Nat
def tw12289628386106248989:=Nat
def tw5697597964734720898:=Nat
def tw18049878426733675873:=Nat
def tw424037009876713306:=Nat
def tw5462041211389698401:=Nat
def tw8019051897319482812:=Nat
def tw493839966454098603:=Nat
def tw6177188853291093983:=Nat
def tw7253963312439784806:=Nat
def tw8428687266258920953:=Nat
def tw18015825503641479013:=Nat
def tw17581072935582702437:=Nat
def tw11047930812083632504:=Nat
def tw6342091560481881595:=Nat
def tw15152044325046502548:=Nat
def tw11157887939419817327:=Nat
def tw9503206467443213353:=Nat
def tw6690290277718290950:=Nat
def tw11090530058005692988:=Nat
def tw16251593288452994783:=Nat
def tw15002490613722529495:=Nat
def tw10276886275905117653:=Nat
def tw1926894189003269074:=Nat
def tw4782906254148111227:=Nat
def tw9360601883747097079:=Nat
def tw9781885510933501516:=Nat
def tw13307102668559031736:=Nat
def tw7280404068765847456:=Nat
def tw11632442044292769950:=Nat
def tw139871572102542111:=Nat
def tw5588093455722835624:=Nat
def tw15908112139411212679:=Nat
def tw13570370971890697684:=Nat
def tw2513687579070402888:=Nat
def tw1272592695765885099:=Nat
def tw15981884277838799635:=Nat
def tw8585543906056943117:=Nat
def tw15028479177630127666:=Nat
def tw17665218642698145937:=Nat
def tw3676858678866419368:=Nat
def tw11479979402299820151:=Nat
def tw8147511511951210239:=Nat
def tw5528263647408443957:=Nat
def tw18369638478926773434:=Nat
def tw8002729175137226106:=Nat
def tw3838486237867485467:=Nat
def tw9484668610761016884:=Nat
def tw10640588703522219862:=Nat
def tw8055162983094422634:=Nat
def tw7628738722138195947:=Nat
def tw2315857749758908158:=Nat
def tw4622730999657907721:=Nat
def tw3996440366297858367:=Nat
def tw16633401907621892194:=Nat
def tw10108949051706172299:=Nat
def tw16255405057522772618:=Nat
def tw6600540331630784318:=Nat
def tw13280093094031787044:=Nat
def tw14251414584524389463:=Nat
def tw10839057002131228425:=Nat
def tw8240488988465630348:=Nat
def tw12887560280479103241:=Nat
def tw13462110218473434876:=Nat
def tw14929283168326555268:=Nat
def tw2426855083936023749:=Nat
def tw7766035041303260983:=Nat
def tw13797895948180345035:=Nat
def tw9178453371733548997:=Nat
def tw8120544918633086108:=Nat
def tw5406187398789264579:=Nat
def tw11857981802077516888:=Nat
def tw13444690728527673821:=Nat
def tw13894485394680914490:=Nat
def tw6615257288853265546:=Nat
def tw11873173952497510835:=Nat
def tw18062744629283973704:=Nat
def tw18388535176656238638:=Nat
def tw17367095084557655487:=Nat
def tw6422748530319656094:=Nat
def tw4898839187858599595:=Nat
def tw16785246352699951486:=Nat
def tw16544659672369946831:=Nat
def tw3902045611683207552:=Nat
def tw7026506797781526634:=Nat
def tw18074444276022753101:=Nat
def tw6489008218868017152:=Nat
def tw14748700853154181124:=Nat
def tw3732614789400923788:=Nat
def tw14298536327288270974:=Nat
def tw13855723192640869032:=Nat
def tw3201354956817452700:=Nat
def tw7405606975966643821:=Nat
def tw3544913599974804687:=Nat
def tw8000897740064019672:=Nat
def tw3313300164443194398:=Nat
def tw641148869372529833:=Nat
def tw10335996885651188689:=Nat
def tw16870934979569878436:=Nat
def tw15658956287576629002:=Nat
def tw11419106287967222859:=Nat
def tw665732193422761572:=Nat
def tw10417368656671672652:=Nat
def tw16263751663038866926:=Nat
def tw16881910477905499514:=Nat
def tw17453153153600041360:=Nat
def tw6042490905660115130:=Nat
def tw7258623841885730637:=Nat
def tw18056595836308839206:=Nat
def tw15955916881824366027:=Nat
def tw1646732107879129580:=Nat
def tw7932092918369542696:=Nat
def tw7298543065346667432:=Nat
def tw12783395128389435543:=Nat
def tw7153884865872300264:=Nat
def tw16901364106884023855:=Nat
def tw14948302043550225400:=Nat
def tw16758852865284801345:=Nat
def tw6427004923098485148:=Nat
def tw16705646920396936252:=Nat
def tw2845792493655948592:=Nat
def tw5797816449437763194:=Nat
def tw5549952041486219565:=Nat
def tw66540503049944393:=Nat
def tw8240653118420405133:=Nat
def tw3302679381527015978:=Nat
def tw6989096484584027360:=Nat
def tw4414014779481608926:=Nat
def tw3609867781611014902:=Nat
def tw214043705650642073:=Nat
def tw5508743982617210236:=Nat
def tw12453683973619013855:=Nat
def tw14801813045806304673:=Nat
def tw3371529934715503765:=Nat
def tw13161397596208867488:=Nat
def tw5719179877939872447:=Nat
def tw6536301517642797829:=Nat
def tw14795300117060734327:=Nat
def tw14579840680697146535:=Nat
def tw10433631580644222778:=Nat
def tw2654932849758081232:=Nat
def tw6516487103454983237:=Nat
def tw3128170632235841194:=Nat
def tw12838259174863155451:=Nat
def tw266273130103663264:=Nat
def tw2274529335918725668:=Nat
def tw11759659383163982707:=Nat
def tw5861717387216809845:=Nat
def tw14587431430427171124:=Nat
def tw4201162283855384307:=Nat
def tw15243848750956514037:=Nat
def tw6986329446331671309:=Nat
def tw7474819611734134065:=Nat
def tw3406694392323428714:=Nat
def tw4405128208821431259:=Nat
def tw9687396174332080049:=Nat
def tw17757981195625852287:=Nat
def tw3757748288367639402:=Nat
def tw16006441431409660529:=Nat
def tw13201767286548070790:=Nat
def tw15645374149045648805:=Nat
def tw3275460483619355670:=Nat
def tw8032011239268634064:=Nat
def tw3293334419315194551:=Nat
def tw1648303670013113653:=Nat
def tw10251589749906650508:=Nat
def tw14285266931464585389:=Nat
def tw16071568780436687435:=Nat
def tw2102681519517489450:=Nat
def tw11784793320215837494:=Nat
def tw11865397838948874754:=Nat
def tw8152590469042561498:=Nat
def tw10550018125675741533:=Nat
def tw12264148688113814093:=Nat
def tw7617691993169105535:=Nat
def tw17704884595172881398:=Nat
def tw3178034008168469746:=Nat
def tw233604787092804205:=Nat
def tw4419872273786818198:=Nat
def tw2649755375289840488:=Nat
def tw12915262709847401452:=Nat
def tw11211617082018424987:=Nat
def tw3407147937207978464:=Nat
def tw7133329813289278245:=Nat
def tw8761288109207541644:=Nat
def tw2140391577505558427:=Nat
def tw9903748595199194806:=Nat
def tw13878300116817774625:=Nat
def tw2394429010191643694:=Nat
def tw6976487156832897688:=Nat
def tw2401647505127205144:=Nat
def tw5922387764119598951:=Nat
def tw14176982699353157137:=Nat
def tw16635021468980622912:=Nat
def tw5080140364318465189:=Nat
def tw14831466152739244381:=Nat
def tw10658651460138008850:=Nat
def tw6271436530733349762:=Nat
def tw8916786085499135231:=Nat
def tw13648719317939710515:=Nat
def tw8046540860324498468:=Nat
def tw10112704829407767218:=Nat
def tw12853820396107598718:=Nat
def tw7551543334698207339:=Nat
def tw5559220561488319029:=Nat
def tw14925527649827683412:=Nat
def tw9134804623557066144:=Nat
def tw18186635687402654264:=Nat
def tw16029110194068277841:=Nat
def tw10971312872430188631:=Nat
def tw11102528688046460005:=Nat
def tw4373589700597860825:=Nat
def tw2954111536391071407:=Nat
def tw523078853849127720:=Nat
def tw446319444499320197:=Nat
def tw13940250923945096015:=Nat
def tw16093424223907071622:=Nat
def tw15825273202523854349:=Nat
def tw11453005506168924617:=Nat
def tw2302170887057015911:=Nat
def tw3473145787302331380:=Nat
def tw6381879557036115436:=Nat
def tw12041412427431940311:=Nat
def tw10474455916770547378:=Nat
def tw14507091815327136244:=Nat
def tw12667414314213901231:=Nat
def tw8472523846735916737:=Nat
def tw13347320093959769556:=Nat
def tw4889026680645505040:=Nat
def tw5488533326062709373:=Nat
def tw1974220199260407425:=Nat
def tw1885097332418729248:=Nat
def tw7768717741975288302:=Nat
def tw11175973440414835009:=Nat
def tw10517387212445686056:=Nat
def tw17398181914044956664:=Nat
def tw15690270983047101150:=Nat
def tw3539909478940549076:=Nat
def tw15230502765119725757:=Nat
def tw7557044692936632701:=Nat
def tw1500686812791902470:=Nat
def tw2201811794203680213:=Nat
def tw12006170272986897763:=Nat
def tw157154852986727041:=Nat
def tw1602687037449784362:=Nat
def tw17575965052500717526:=Nat
def tw12126838920284644380:=Nat
def tw12934230984278117851:=Nat
def tw14780885675601618591:=Nat
def tw206497829487575041:=Nat
def tw13108673950428404392:=Nat
def tw4931676418069697523:=Nat
def tw7020053227458143354:=Nat
def tw7259440465395724520:=Nat
def tw12441598581653429635:=Nat
def tw10629908059715053500:=Nat
def tw10960484092981280254:=Nat
def tw1338549433426297611:=Nat
def tw12478757788476864271:=Nat
def tw13211727209276547148:=Nat
def tw11667017288120747875:=Nat
def tw139948339588297336:=Nat
def tw10886250463145419122:=Nat
def tw18247825123554021421:=Nat
def tw8271729576212948310:=Nat
def tw2327473771574144957:=Nat
def tw10186295239559296309:=Nat
def tw11725138811268922162:=Nat
def tw16505791975914778823:=Nat
def tw4869517886768712561:=Nat
def tw6509247021489907267:=Nat
def tw15070301631397909145:=Nat
def tw6918328325594647009:=Nat
def tw9874738716024933045:=Nat
def tw13793777478596376984:=Nat
def tw3681785709910060267:=Nat
def tw15280036252383727715:=Nat
def tw9995564820411398563:=Nat
def tw8654012652706705628:=Nat
def tw9864288266106527837:=Nat
def tw16926277198336984767:=Nat
def tw2680729451040920119:=Nat
def tw1511958750419987235:=Nat
def tw510784827602190407:=Nat
def tw9035187216427212493:=Nat
def tw13373176993254824922:=Nat
def tw18236041265367118903:=Nat
def tw8609834446978842319:=Nat
def tw3775481445279351586:=Nat
def tw6510431413054197828:=Nat
def tw12593907005090892342:=Nat
def tw18357450866372282953:=Nat
def tw17508994329809065235:=Nat
def tw8880381646645478110:=Nat
def tw17880965431403318005:=Nat
def tw5696009316170309229:=Nat
def tw9023503512673210881:=Nat
def tw10163854303282036006:=Nat
def tw18360502266285617951:=Nat
def tw10373253906339364285:=Nat
def tw9132422382652992317:=Nat
def tw17083105530595217347:=Nat
def tw9006130878791271636:=Nat
def tw12013577881985727094:=Nat
def tw7131069027584618525:=Nat
def tw15848495829901340613:=Nat
def tw232637351604203856:=Nat
def tw17302496359363045644:=Nat
def tw16756195058400915026:=Nat
def tw16048358604296131541:=Nat
def tw10839139611722042011:=Nat
def tw4397935246123387904:=Nat
def tw3463111824828174932:=Nat
def tw16085214308250149468:=Nat
def tw4702953191630430954:=Nat
def tw8886023520190274397:=Nat
def tw9632437428786867410:=Nat
def tw6119866889934358445:=Nat
def tw969194911005689301:=Nat
def tw8944310737020896743:=Nat
def tw7643461252206676556:=Nat
def tw14759059784895398496:=Nat
def tw14379085415793069549:=Nat
def tw12242391723670218835:=Nat
def tw11520719026622610638:=Nat
def tw9940904687320961583:=Nat
def tw15918529400067693446:=Nat
def tw174675022639828332:=Nat
def tw6773116982111503237:=Nat
def tw17771493688411231168:=Nat
def tw10697239511937989590:=Nat
def tw4084383803760193047:=Nat
def tw13964398755487576184:=Nat
def tw12428666898050295473:=Nat
def tw17909430355561489594:=Nat
def tw13018589384781490767:=Nat
def tw13653440669427048406:=Nat
def tw8880911607233541048:=Nat
def tw11882574924045336904:=Nat
def tw1925795807927802908:=Nat
def tw4157173972012430906:=Nat
def tw16529189551653642017:=Nat
def tw8669054999581294676:=Nat
def tw17178292427185753484:=Nat
def tw4319876867637834099:=Nat
def tw14558813073864639556:=Nat
def tw4272947731095526317:=Nat
def tw11658172281640149167:=Nat
def tw3712700866871444360:=Nat
def tw16906278184260591255:=Nat
def tw7685034128138012519:=Nat
def tw629622467102269876:=Nat
def tw13344180188416484665:=Nat
def tw9748198673943492082:=Nat
def tw3483607770734887754:=Nat
def tw15659918322362272691:=Nat
def tw16316143135849103202:=Nat
def tw14439112308806334514:=Nat
def tw3584187424838662028:=Nat
def tw18427894359758004122:=Nat
def tw9728141557912848626:=Nat
def tw10426221721378684764:=Nat
def tw14533428852378140042:=Nat
def tw11608311653757826292:=Nat
def tw16817465440890182438:=Nat
def tw15418472943096894900:=Nat
def tw16511840835158835001:=Nat
def tw1183420691034612543:=Nat
def tw13218244980356642743:=Nat
def tw11510259867913025518:=Nat
def tw1568319364319904860:=Nat
def tw1609256577816031490:=Nat
def tw3877879318611788177:=Nat
def tw11683250750493925537:=Nat
def tw8444860143903293121:=Nat
def tw16388890845800903683:=Nat
def tw13899471786640001234:=Nat
def tw1604486859974140206:=Nat
end PySem.W.Fast
set_option maxRecDepth 100000 in
set_option maxHeartbeats 0 in
theorem PySem.Challenge.cw_widewords_k41_quotients_run_holds : PySem.Challenge.rw_widewords_k41_quotients_run.Holds := by
  w_on; o_law; k_head; (case hw=>w_witness2)
  k_fill
  refine WK.walk (l:=PySem.Challenge.rw_widewords_k41_quotients_run) rfl rfl (fun w h Y=>PySem.W.kIn_of Y) ?F
  case F =>
    intro w mg fa h KX G hmg
    refine' WK.all_mk KX G hmg ?a0 ?l0 ?c0 ?p0 ?d0 ?a1 ?l1 ?c1 ?p1 ?a2 ?l2 ?c2 ?p2 ?a3 ?l3 ?c3 ?p3 ?d3 ?a4 ?l4 ?c4 ?p4 ?d4 ?a5 ?l5 ?c5 ?p5 ?d5 ?a6 ?l6 ?c6 ?p6 ?a7 ?l7 ?c7 ?p7 ?a8 ?l8 ?c8 ?p8 ?a9 ?l9 ?c9 ?p9 ?a10 ?l10 ?c10 ?p10 ?a11 ?l11 ?c11 ?p11 ?a12 ?l12 ?c12 ?p12 ?a13 ?l13 ?c13 ?p13 ?a14 ?l14 ?c14 ?p14 ?a15 ?l15 ?c15 ?p15 ?a16 ?l16 ?c16 ?p16 ?a17 ?l17 ?c17 ?p17 ?a18 ?l18 ?c18 ?p18 ?a19 ?l19 ?c19 ?p19 ?a20 ?l20 ?c20 ?p20 ?a21 ?l21 ?c21 ?p21 ?a22 ?l22 ?c22 ?p22 ?a23 ?l23 ?c23 ?p23 ?a24 ?l24 ?c24 ?p24 ?a25 ?l25 ?c25 ?p25 ?a26 ?l26 ?c26 ?p26 ?a27 ?l27 ?c27 ?p27 ?a28 ?l28 ?c28 ?p28 ?a29 ?l29 ?c29 ?p29 ?a30 ?l30 ?c30 ?p30 ?a31 ?l31 ?c31 ?p31 ?a32 ?l32 ?c32 ?p32 ?a33 ?l33 ?c33 ?p33 ?a34 ?l34 ?c34 ?p34 ?a35 ?l35 ?c35 ?p35 ?a36 ?l36 ?c36 ?p36 ?a37 ?l37 ?c37 ?p37 ?a38 ?l38 ?c38 ?p38 ?a39 ?l39 ?c39 ?p39 ?a40 ?l40 ?c40 ?p40 ?a41 ?l41 ?c41 ?p41 ?a42 ?l42 ?c42 ?p42 ?a43 ?l43 ?c43 ?p43 ?a44 ?l44 ?c44 ?p44 ?a45 ?l45 ?c45 ?p45 ?a46 ?l46 ?c46 ?p46 ?a47 ?l47 ?c47 ?p47 ?a48 ?l48 ?c48 ?p48 ?a49 ?l49 ?c49 ?p49 ?a50 ?l50 ?c50 ?p50 ?a51 ?l51 ?c51 ?p51 ?z_abs ?z_all ?z_bool ?z_enumerate ?z_int ?z_isinstance ?z_len ?z_max ?z_min ?z_range ?z_str ?z_tuple ?k_bool_n ?k_bool_b ?k_bool_i ?k_bool_s ?k_bool_p ?k_bool_l ?k_int_n ?k_int_b ?k_int_i ?k_int_s ?k_int_p ?k_int_l ?k_str_n ?k_str_b ?k_str_i ?k_str_s ?k_str_p ?k_str_l ?k_tuple_n ?k_tuple_b ?k_tuple_i ?k_tuple_s ?k_tuple_p ?k_tuple_l ?g_BACK_a ?g_BACK_l0 ?g_BACK_l1 ?g_EACH_PLACE_a ?g_EACH_PLACE_l0 ?g_EACH_WORD_a ?g_EACH_WORD_l0 ?g_LONE_a ?g_LONE_l0 ?g_MARKS_a ?g_MARKS_l0 ?g_MARKS_l1 ?g_MARKS_l2 ?g_MARKS_l3 ?g_MARKS_l4 ?g_MARKS_l5 ?g_MARKS_l6 ?g_MARKS_l7 ?g_MARKS_l8 ?g_NIL_a ?g_NIL_l0 ?g_NIL_l1 ?g_PAIRED_a ?g_PAIRED_l0 ?g_PAIRWISE_a ?g_PAIRWISE_l0 ?g_SEEN_a ?g_SEEN_l0 ?g_SEEN_l1 ?g_SHIFTS_a ?g_SHIFTS_l0 ?g_SPARE_a ?g_SPARE_l0 ?g_SPARE_l1
    all_goals try delta WK.aN WK.cN WK.pN
    (case a0=>k_is); (case l0=>k_is); (case c0=>k_is); (case p0=>k_is); (case d0=>k_is); (case a1=>k_is); (case l1=>k_is); (case c1=>k_is)
    (case p1=>k_is); (case a2=>k_is); (case l2=>k_is); (case c2=>k_is); (case p2=>k_is); (case a3=>k_is); (case l3=>k_is); (case c3=>k_is)
    (case p3=>k_is); (case d3=>k_is); (case a4=>k_is); (case l4=>k_is); (case c4=>k_is); (case p4=>k_is); (case d4=>k_is); (case a5=>k_is)
    (case l5=>k_is); (case c5=>k_is); (case p5=>k_is); (case d5=>k_is); (case a6=>k_is); (case l6=>k_is); (case c6=>k_is); (case p6=>k_is)
    (case a7=>k_is); (case l7=>k_is); (case c7=>k_is); (case p7=>k_is); (case a8=>k_is); (case l8=>k_is); (case c8=>k_is); (case p8=>k_is)
    (case a9=>k_is); (case l9=>k_is); (case c9=>k_is); (case p9=>k_is); (case a10=>k_is); (case l10=>k_is); (case c10=>k_is); (case p10=>k_is)
    (case a11=>k_is); (case l11=>k_is); (case c11=>k_is); (case p11=>k_is); (case a12=>k_is); (case l12=>k_is); (case c12=>k_is); (case p12=>k_is)
    (case a13=>k_is); (case l13=>k_is); (case c13=>k_is); (case p13=>k_is); (case a14=>k_is); (case l14=>k_is); (case c14=>k_is); (case p14=>k_is)
    (case a15=>k_is); (case l15=>k_is); (case c15=>k_is); (case p15=>k_is); (case a16=>k_is); (case l16=>k_is); (case c16=>k_is); (case p16=>k_is)
    (case a17=>k_is); (case l17=>k_is); (case c17=>k_is); (case p17=>k_is); (case a18=>k_is); (case l18=>k_is); (case c18=>k_is); (case p18=>k_is)
    (case a19=>k_is); (case l19=>k_is); (case c19=>k_is); (case p19=>k_is); (case a20=>k_is); (case l20=>k_is); (case c20=>k_is); (case p20=>k_is)
    (case a21=>k_is); (case l21=>k_is); (case c21=>k_is); (case p21=>k_is); (case a22=>k_is); (case l22=>k_is); (case c22=>k_is); (case p22=>k_is)
    (case a23=>k_is); (case l23=>k_is); (case c23=>k_is); (case p23=>k_is); (case a24=>k_is); (case l24=>k_is); (case c24=>k_is); (case p24=>k_is)
    (case a25=>k_is); (case l25=>k_is); (case c25=>k_is); (case p25=>k_is); (case a26=>k_is); (case l26=>k_is); (case c26=>k_is); (case p26=>k_is)
    (case a27=>k_is); (case l27=>k_is); (case c27=>k_is); (case p27=>k_is); (case a28=>k_is); (case l28=>k_is); (case c28=>k_is); (case p28=>k_is)
    (case a29=>k_is); (case l29=>k_is); (case c29=>k_is); (case p29=>k_is); (case a30=>k_is); (case l30=>k_is); (case c30=>k_is); (case p30=>k_is)
    (case a31=>k_is); (case l31=>k_is); (case c31=>k_is); (case p31=>k_is); (case a32=>k_is); (case l32=>k_is); (case c32=>k_is); (case p32=>k_is)
    (case a33=>k_is); (case l33=>k_is); (case c33=>k_is); (case p33=>k_is); (case a34=>k_is); (case l34=>k_is); (case c34=>k_is); (case p34=>k_is)
    (case a35=>k_is); (case l35=>k_is); (case c35=>k_is); (case p35=>k_is); (case a36=>k_is); (case l36=>k_is); (case c36=>k_is); (case p36=>k_is)
    (case a37=>k_is); (case l37=>k_is); (case c37=>k_is); (case p37=>k_is); (case a38=>k_is); (case l38=>k_is); (case c38=>k_is); (case p38=>k_is)
    (case a39=>k_is); (case l39=>k_is); (case c39=>k_is); (case p39=>k_is); (case a40=>k_is); (case l40=>k_is); (case c40=>k_is); (case p40=>k_is)
    (case a41=>k_is); (case l41=>k_is); (case c41=>k_is); (case p41=>k_is); (case a42=>k_is); (case l42=>k_is); (case c42=>k_is); (case p42=>k_is)
    (case a43=>k_is); (case l43=>k_is); (case c43=>k_is); (case p43=>k_is); (case a44=>k_is); (case l44=>k_is); (case c44=>k_is); (case p44=>k_is)
    (case a45=>k_is); (case l45=>k_is); (case c45=>k_is); (case p45=>k_is); (case a46=>k_is); (case l46=>k_is); (case c46=>k_is); (case p46=>k_is)
    (case a47=>k_is); (case l47=>k_is); (case c47=>k_is); (case p47=>k_is); (case a48=>k_is); (case l48=>k_is); (case c48=>k_is); (case p48=>k_is)
    (case a49=>k_is); (case l49=>k_is); (case c49=>k_is); (case p49=>k_is); (case a50=>k_is); (case l50=>k_is); (case c50=>k_is); (case p50=>k_is)
    (case a51=>k_is); (case l51=>k_is); (case c51=>k_is); (case p51=>k_is); (case z_abs=>k_is); (case z_all=>k_is); (case z_bool=>k_is); (case z_enumerate=>k_is)
    (case z_int=>k_is); (case z_isinstance=>k_is); (case z_len=>k_is); (case z_max=>k_is); (case z_min=>k_is); (case z_range=>k_is); (case z_str=>k_is); (case z_tuple=>k_is)
    (case k_bool_n=>kit_is); (case k_bool_b=>kit_is); (case k_bool_i=>kit_is); (case k_bool_s=>kit_is); (case k_bool_p=>kit_is); (case k_bool_l=>kit_is); (case k_int_n=>kit_is); (case k_int_b=>kit_is)
    (case k_int_i=>kit_is); (case k_int_s=>kit_is); (case k_int_p=>kit_is); (case k_int_l=>kit_is); (case k_str_n=>kit_is); (case k_str_b=>kit_is); (case k_str_i=>kit_is); (case k_str_s=>kit_is)
    (case k_str_p=>kit_is); (case k_str_l=>kit_is); (case k_tuple_n=>kit_is); (case k_tuple_b=>kit_is); (case k_tuple_i=>kit_is); (case k_tuple_s=>kit_is); (case k_tuple_p=>kit_is); (case k_tuple_l=>kit_is)
    (case g_BACK_a=>k_is); (case g_BACK_l0=>k_is); (case g_BACK_l1=>k_is); (case g_EACH_PLACE_a=>k_is); (case g_EACH_PLACE_l0=>k_is); (case g_EACH_WORD_a=>k_is); (case g_EACH_WORD_l0=>k_is); (case g_LONE_a=>k_is)
    (case g_LONE_l0=>k_is); (case g_MARKS_a=>k_is); (case g_MARKS_l0=>k_is); (case g_MARKS_l1=>k_is); (case g_MARKS_l2=>k_is); (case g_MARKS_l3=>k_is); (case g_MARKS_l4=>k_is); (case g_MARKS_l5=>k_is)
    (case g_MARKS_l6=>k_is); (case g_MARKS_l7=>k_is); (case g_MARKS_l8=>k_is); (case g_NIL_a=>k_is); (case g_NIL_l0=>k_is); (case g_NIL_l1=>k_is); (case g_PAIRED_a=>k_is); (case g_PAIRED_l0=>k_is)
    (case g_PAIRWISE_a=>k_is); (case g_PAIRWISE_l0=>k_is); (case g_SEEN_a=>k_is); (case g_SEEN_l0=>k_is); (case g_SEEN_l1=>k_is); (case g_SHIFTS_a=>k_is); (case g_SHIFTS_l0=>k_is); (case g_SPARE_a=>k_is)
    (case g_SPARE_l0=>k_is); (case g_SPARE_l1=>k_is)
