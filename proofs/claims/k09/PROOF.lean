import PyProof.Rows.All
import Wide.All
import OpenK.AllK
import Wide.FinOn
import Lean
import PyProof.EqAt
import PyProof.EqKinds
import PyProof.TupleCall
import KE.LcSums
import PyProof.ZipIter
import KE.KTryMore
import PyProof.Rows.CountFlat
import PyProof.Rows.SeqMore2
import PySem.Builtin.Int.W1All
import PyProof.FString5
import PyProof.StrLawsIn
import PyProof.StrBlockI
import PyProof.Rows.Range3
import KE.KEqDict
import PyProof.Rows.RowBridgeK
import KE.KxWritten
import PyProof.ListMulRoad
import PyProof.Rows.ListMulCarried
import PySem.Challenge.RW_widewords_k09_rows_looked_at
set_option Elab.async false
set_option linter.all false
set_option maxRecDepth 100000
set_option maxHeartbeats 0
namespace L2
open PySem PySem.Spec PyProof.Rows
abbrev Key := Sum Int Str
def keyIs : Key -> Value -> Bool
  | .inl k, v => Value.isInt k v
  | .inr x, v => Value.isStrOf x v
def keyH (w : World) : Key -> Int
  | .inl k => hashInt k
  | .inr x => hashStr w x
theorem keyIs_shape : ∀ {k : Key} {v : Value}, keyIs k v = true -> (∃ i t, k = Sum.inl i /\ v = Value.int i t) \/ (∃ x t, k = Sum.inr x /\ v = Value.str x t)
  | .inl i, v, h => by
    obtain ⟨t, e⟩ := Value.isInt_shape (k := i) (v := v) h
    exact .inl ⟨i, t, rfl, e⟩
  | .inr x, v, h => by
    obtain ⟨t, e⟩ := Value.isStrOf_shape (x := x) (v := v) h
    exact .inr ⟨x, t, rfl, e⟩
theorem keyIs_int (i : Int) (t : Tok) : keyIs (.inl i) (.int i t) = true := by simp [keyIs, Value.isInt]
theorem keyIs_str (x : Str) (t : Tok) : keyIs (.inr x) (.str x t) = true := by simp [keyIs, Value.isStrOf]
theorem key_ll (a b : Int) : decide ((Sum.inl a : Key) = Sum.inl b) = (a == b) := by
  by_cases e : a = b
  · subst e; simp
  · have h : ¬ (Sum.inl a : Key) = Sum.inl b := fun q => e (Sum.inl.inj q)
    rw [decide_eq_false h]
    exact (beq_eq_false_iff_ne.mpr e).symm
theorem key_rr (a b : Str) : decide ((Sum.inr a : Key) = Sum.inr b) = decide (a = b) := by
  by_cases e : a = b
  · subst e; simp
  · have h : ¬ (Sum.inr a : Key) = Sum.inr b := fun q => e (Sum.inr.inj q)
    rw [decide_eq_false h, decide_eq_false e]
theorem key_lr (a : Int) (b : Str) : decide ((Sum.inl a : Key) = Sum.inr b) = false := decide_eq_false (fun q => nomatch q)
theorem key_rl (a : Str) (b : Int) : decide ((Sum.inr a : Key) = Sum.inl b) = false := decide_eq_false (fun q => nomatch q)
def mixKind (prog : Program) (w : World) : PySem.KeyKind prog w Key where
  is := keyIs
  hash := keyH w
  inj := fun v a b ha hb => by
    rcases keyIs_shape ha with ⟨i, t, rfl, rfl⟩ | ⟨x, t, rfl, rfl⟩
    · rcases keyIs_shape hb with ⟨j, u, rfl, e⟩ | ⟨y, u, rfl, e⟩
      · injection e with e1 _; rw [e1]
      · exact nomatch e
    · rcases keyIs_shape hb with ⟨j, u, rfl, e⟩ | ⟨y, u, rfl, e⟩
      · exact nomatch e
      · injection e with e1 _; rw [e1]
  byValue := fun k v h => by
    rcases keyIs_shape h with ⟨i, t, rfl, rfl⟩ | ⟨x, t, rfl, rfl⟩ <;> rfl
  pyHash := fun hv h => by
    rcases keyIs_shape hv with ⟨i, t, rfl, rfl⟩ | ⟨x, t, rfl, rfl⟩
    · exact wpAny_pyHash_int h
    · exact wpAny_pyHash_str h
  eqBool := fun hu hv h => by
    rcases keyIs_shape hu with ⟨i, t, rfl, rfl⟩ | ⟨x, t, rfl, rfl⟩
    · rcases keyIs_shape hv with ⟨j, u, rfl, rfl⟩ | ⟨y, u, rfl, rfl⟩
      · rw [key_ll] at h; exact wpAny_eqBool_int h
      · rw [key_lr] at h; exact SeqAt.EqAt.int_str i t y u _ _ _ _ h
    · rcases keyIs_shape hv with ⟨j, u, rfl, rfl⟩ | ⟨y, u, rfl, rfl⟩
      · rw [key_rl] at h; exact SeqAt.EqAt.str_int x t j u _ _ _ _ h
      · rw [key_rr] at h; exact wpAny_eqBool_str h
  «strs» := fun k x t v h => by
    rcases keyIs_shape h with ⟨i, u, rfl, e⟩ | ⟨y, u, rfl, e⟩
    · exact nomatch e
    · injection e with e1 _
      subst e1
      cases v <;> rfl
theorem mixKind_int (prog : Program) (w : World) (i : Int) (t : Tok) : (mixKind prog w).is (.inl i) (.int i t) = true := keyIs_int i t
theorem mixKind_str (prog : Program) (w : World) (x : Str) (t : Tok) : (mixKind prog w).is (.inr x) (.str x t) = true := keyIs_str x t
end L2
namespace L2
open PySem PySem.Spec PyProof.Rows
inductive V where
  | non | bl (b : Bool) | int (i : Int) | str (x : Str) | byt (b : Array UInt8) | flt (b : UInt64) | ref (a : Addr) | ty (n : String)
  deriving DecidableEq
def RelV : V -> Value -> Prop
  | .non, u => u = Value.none
  | .bl b, u => u = Value.bool b
  | .int i, u => ∃ t, u = Value.int i t
  | .str x, u => ∃ t, u = Value.str x t
  | .byt b, u => ∃ t, u = Value.bytes b t
  | .flt b, u => ∃ t, u = Value.float b t
  | .ref a, u => u = Value.ref a
  | .ty n, u => u = Value.type n
abbrev Vals : List V -> List Value -> Prop := Paired RelV
theorem Vals.length {xs : List V} {us : List Value} (r : Vals xs us) : xs.length = us.length := Paired.length r
theorem Vals.get : ∀ {xs : List V} {us : List Value} {i : Nat} {x : V}, Vals xs us -> xs[i]? = some x -> ∃ u, us[i]? = some u /\ RelV x u
  | _, _, _, _, .nil, e => by simp at e
  | _, _, 0, _, .cons r _, e => by simp at e; subst e; exact ⟨_, rfl, r⟩
  | _, _, i + 1, x, .cons _ t, e => by
    obtain ⟨u, h1, h2⟩ := Vals.get (i := i) (x := x) t (by simpa using e)
    exact ⟨u, by simpa using h1, h2⟩
theorem Vals.set {x : V} {u : Value} (r : RelV x u) : ∀ {xs : List V} {us : List Value} (i : Nat), Vals xs us -> Vals (xs.set i x) (us.set i u)
  | _, _, _, .nil => .nil
  | _, _, 0, .cons _ t => .cons r t
  | _, _, i + 1, .cons q t => .cons q (Vals.set r i t)
theorem Vals.append : ∀ {xs ys : List V} {us ws : List Value}, Vals xs us -> Vals ys ws -> Vals (xs ++ ys) (us ++ ws)
  | _, _, _, _, .nil, s => s
  | _, _, _, _, .cons r t, s => .cons r (Vals.append t s)
theorem Vals.take : ∀ {xs : List V} {us : List Value} (n : Nat), Vals xs us -> Vals (xs.take n) (us.take n)
  | _, _, 0, _ => .nil
  | _, _, _ + 1, .nil => .nil
  | _, _, n + 1, .cons r t => .cons r (Vals.take n t)
theorem Vals.drop : ∀ {xs : List V} {us : List Value} (n : Nat), Vals xs us -> Vals (xs.drop n) (us.drop n)
  | _, _, 0, r => r
  | _, _, _ + 1, .nil => .nil
  | _, _, n + 1, .cons _ t => Vals.drop n t
def RelO : Option V -> Option Value -> Prop
  | some v, some u => RelV v u
  | none, none => True
  | _, _ => False
def KV {κ : Type} : List (κ × V) -> List (κ × Value) -> Prop := Paired fun (p : κ × V) (q : κ × Value) => p.1 = q.1 /\ RelV p.2 q.2
def kV : Key -> V
  | .inl i => .int i
  | .inr x => .str x
inductive HO where
  | lst (xs : List V)
  | tup (xs : List V)
  | dK (kvs : List (Key × V)) | dT (kvs : List (List Key × V))
  | set (S : Int -> Bool) (n : Nat)
  | ins (C dx : Addr) (fs : List (Str × V))
  | own (x : Addr)
  | xd (fs : List (Str × V))
  | met (f x : Addr)
  | rng (lo hi : Int)
  | frz (o : Obj) (u : HO)
  | tbl (ps : Array Value)
  | ext (φ : Heap -> Prop)
abbrev Hp := Addr -> Option HO
def upd (H : Hp) (a : Addr) (o : HO) : Hp := fun b => if b = a then some o else H b
theorem upd_same {H : Hp} {a : Addr} {o : HO} : upd H a o a = some o := by unfold upd; rw [if_pos rfl]
theorem upd_ne {H : Hp} {a b : Addr} {o : HO} (h : b ≠ a) : upd H a o b = H b := by unfold upd; rw [if_neg h]
theorem upd_upd {H : Hp} {a : Addr} {o u : HO} : upd (upd H a o) a u = upd H a u := by
  funext b; unfold upd; split <;> rfl
theorem ne_of {H : Hp} {a b : Addr} {o u : HO} (h : H a = some o) (h' : H b = some u) (d : o ≠ u) : a ≠ b := by
  intro e; subst e; rw [h] at h'; exact d (Option.some.inj h')
theorem ne_of_none {H : Hp} {a b : Addr} {o : HO} (h : H a = some o) (h' : H b = none) : a ≠ b := by
  intro e; subst e; rw [h] at h'; cases h'
section
variable (P : Program) (w : World)
def ObjOk (H : Hp) (h : Heap) (a : Addr) : HO -> Prop
  | .lst xs => xs.length <= sizeLine /\ ∃ (its : List Value) (n : Nat), Vals xs its /\ h.get? a = some { cls := .type "list", data := .seq its.toArray n }
  | .tup xs => xs.length <= sizeLine /\ ∃ its : List Value, Vals xs its /\ IsTup h a its.toArray
  | .dK kvs => kvs.length <= sizeLine /\ (a == sysModules) = false /\ ∃ vs, KV kvs vs /\ h.DictOf (mixKind P w) a vs
  | .dT kvs => kvs.length <= sizeLine /\ (a == sysModules) = false /\ ∃ xs : List (List Key × Addr × Value),
      Paired (fun (p : List Key × V) (q : List Key × Addr × Value) => p.1 = q.1 /\ H q.2.1 = some (.tup (p.1.map kV)) /\ RelV p.2 q.2.2) kvs xs /\
      ∃ o es ep, h.get? a = some o /\ o.ExactDict /\ o.data = .dict es ep /\ es.toList = xs.map (entryOfKey (tupleKind (mixKind P w))) /\ (xs.map (·.1)).Nodup
  | .set S n => h.SetOf (intKind P w) a S n
  | .ins C dx fs => H dx = some (.own a) /\ fs.length <= 1000 /\ dx ≠ a /\ h.get? a = some (PySem.W.instObj C dx) /\
      ∃ mA, h.Ns1 dx mA /\ (∀ f, RelO (fs.lookup f) (mA f)) /\ PySem.Within mA (fs.map (·.1))
  | .own _ => ∃ o, h.get? a = some o
  | .xd fs => ∃ mA, h.Ns1 a mA /\ ∀ f, RelO (fs.lookup f) (mA f)
  | .rng lo hi => ∃ t u v, h.get? a = some { cls := .type "range", data := .fields #[.int lo t, .int hi u, .int 1 v] }
  | .frz o u => h.get? a = some o /\ ObjOk H h a u
  | .tbl ps => h.get? a = some { cls := .none, data := .fields ps }
  | .met f x => h.get? a = some (PySem.W.methodObj (.ref f) (.ref x))
  | .ext φ => φ h /\ (∃ o, h.get? a = some o) /\ ∀ h1 h2 : Heap, φ h1 -> (∀ o, h1.get? a = some o -> h2.get? a = some o) -> φ h2
def HOk (H : Hp) (h : Heap) : Prop := ∀ a o, H a = some o -> ObjOk P w H h a o
end
section
variable {P : Program} {w : World} {H H' : Hp} {h h' : Heap} {a : Addr} {o : HO}
theorem ObjOk.lt (x : ObjOk P w H h a o) : a < h.objs.size := by
  cases o with
  | lst xs => obtain ⟨_, _, _, _, e⟩ := x; exact Heap.lt_size e
  | tup xs => obtain ⟨_, _, _, p⟩ := x; exact p.lt
  | dK kvs => obtain ⟨_, _, _, _, o, _, _, e, _⟩ := x; exact Heap.lt_size e
  | dT kvs => obtain ⟨_, _, _, _, o, _, _, e, _⟩ := x; exact Heap.lt_size e
  | set S n => obtain ⟨o, _, _, _, e, _⟩ := x; exact Heap.lt_size e
  | ins C dx fs => obtain ⟨_, _, _, e, _⟩ := x; exact Heap.lt_size e
  | own y => obtain ⟨_, e⟩ := x; exact Heap.lt_size e
  | xd fs => obtain ⟨_, ⟨_, _, _, e, _⟩, _⟩ := x; exact Heap.lt_size e
  | rng lo hi => obtain ⟨_, _, _, e⟩ := x; exact Heap.lt_size e
  | frz ob u => obtain ⟨e, _⟩ := x; exact Heap.lt_size e
  | tbl ps => exact Heap.lt_size (show h.get? a = some _ from x)
  | met f y => exact Heap.lt_size (show h.get? a = some _ from x)
  | ext φ => obtain ⟨_, ⟨_, e⟩, _⟩ := x; exact Heap.lt_size e
theorem Paired.mapP {α β : Type} {F G : α -> β -> Prop} : ∀ {l₁ : List α} {l₂ : List β}, Paired F l₁ l₂ -> (∀ a b, F a b -> G a b) -> Paired G l₁ l₂
  | _, _, .nil, _ => .nil
  | _, _, .cons r t, f => .cons (f _ _ r) (Paired.mapP t f)
theorem ObjOk.stay (x : ObjOk P w H h a o) (k : ∀ b u, (b = a \/ H b = some (.own a)) -> h.get? b = some u -> h'.get? b = some u)
    (ho : ∀ b, H b = some (.own a) -> H' b = some (.own a)) (ht : ∀ b xs, H b = some (.tup xs) -> H' b = some (.tup xs)) : ObjOk P w H' h' a o := by
  induction o with
  | lst xs => obtain ⟨z, its, n, r, e⟩ := x; exact ⟨z, its, n, r, k _ _ (.inl rfl) e⟩
  | tup xs => obtain ⟨z, its, r, ob, e, c⟩ := x; exact ⟨z, its, r, ob, k _ _ (.inl rfl) e, c⟩
  | dK kvs => obtain ⟨z, y, vs, r, ob, es, ep, e, c⟩ := x; exact ⟨z, y, vs, r, ob, es, ep, k _ _ (.inl rfl) e, c⟩
  | dT kvs =>
    obtain ⟨z, y, xs, r, ob, es, ep, e, c⟩ := x
    exact ⟨z, y, xs, Paired.mapP r fun p q z => ⟨z.1, ht _ _ z.2.1, z.2.2⟩, ob, es, ep, k _ _ (.inl rfl) e, c⟩
  | set S n => obtain ⟨ob, es, ep, t, e, c⟩ := x; exact ⟨ob, es, ep, t, k _ _ (.inl rfl) e, c⟩
  | ins C dx fs =>
    obtain ⟨d, z, ne, e, mA, ⟨od, es, ep, e2, c⟩, r⟩ := x
    exact ⟨ho _ d, z, ne, k _ _ (.inl rfl) e, mA, ⟨od, es, ep, k _ _ (.inr d) e2, c⟩, r⟩
  | own y => obtain ⟨ob, e⟩ := x; exact ⟨ob, k _ _ (.inl rfl) e⟩
  | xd fs => obtain ⟨mA, ⟨od, es, ep, e, c⟩, r⟩ := x; exact ⟨mA, ⟨od, es, ep, k _ _ (.inl rfl) e, c⟩, r⟩
  | rng lo hi => obtain ⟨t, u, v, e⟩ := x; exact ⟨t, u, v, k _ _ (.inl rfl) e⟩
  | frz ob u ih => obtain ⟨e, q⟩ := x; exact ⟨k _ _ (.inl rfl) e, ih q⟩
  | tbl ps =>
    have e : h.get? a = some { cls := .none, data := .fields ps } := x
    show h'.get? a = some { cls := .none, data := .fields ps }
    exact k a _ (.inl rfl) e
  | met f y =>
    have e : h.get? a = some (PySem.W.methodObj (.ref f) (.ref y)) := x
    show h'.get? a = some (PySem.W.methodObj (.ref f) (.ref y))
    exact k a _ (.inl rfl) e
  | ext φ => obtain ⟨p, ⟨o, e⟩, st⟩ := x; exact ⟨st _ _ p fun o q => k _ _ (.inl rfl) q, ⟨o, k _ _ (.inl rfl) e⟩, st⟩
theorem HOk.lt (x : HOk P w H h) (e : H a = some o) : a < h.objs.size := (x a o e).lt
theorem HOk.fresh (x : HOk P w H h) (e : h.objs.size <= a) : H a = none := by
  cases q : H a with
  | none => rfl
  | some u => exact absurd (Nat.lt_of_lt_of_le (x.lt q) e) (Nat.lt_irrefl _)
theorem HOk.kept (x : HOk P w H h) (k : ∀ b u, h.get? b = some u -> h'.get? b = some u) : HOk P w H h' := fun a o e =>
  (x a o e).stay (fun b u _ q => k b u q) (fun _ q => q) fun _ _ q => q
theorem HOk.laid (x : HOk P w H h) (k : ∀ b u, h.get? b = some u -> h'.get? b = some u) (hp : h.objs.size <= a) (new : ObjOk P w (upd H a o) h' a o) : HOk P w (upd H a o) h' := fun b u e => by
  have hn := x.fresh hp
  by_cases hb : b = a
  · subst hb; rw [upd_same] at e; cases e; exact new
  · rw [upd_ne hb] at e
    exact (x b u e).stay (fun c v _ q => k c v q) (fun c q => by rw [upd_ne (ne_of_none q hn)]; exact q) fun c xs q => by rw [upd_ne (ne_of_none q hn)]; exact q
end
def Rd (H : Hp) (a : Addr) (u : HO) : Prop := H a = some u \/ ∃ o, H a = some (.frz o u)
theorem Rd.of {H : Hp} {a : Addr} {u : HO} (h : H a = some u) : Rd H a u := .inl h
theorem Rd.ok {P : Program} {w : World} {H : Hp} {h : Heap} {a : Addr} {u : HO} (r : Rd H a u) (x : HOk P w H h) : ObjOk P w H h a u := by
  rcases r with r | ⟨o, r⟩
  · exact x a u r
  · obtain ⟨_, q⟩ := x a _ r
    exact q
def Mut : Option HO -> Prop
  | some (.lst _) => True
  | some (.dK _) => True
  | some (.dT _) => True
  | some (.set _ _) => True
  | some (.ins _ _ _) => True
  | some (.ext _) => True
  | _ => False
section
variable {P : Program} {w : World} {H : Hp} {h h' : Heap} {x e : Addr} {o' : HO}
theorem HOk.write (ok : HOk P w H h) (mu : Mut (H x)) (he : e = x \/ H e = some (.own x)) (k : ∀ b u, b ≠ e -> h.get? b = some u -> h'.get? b = some u) (heo : ∃ u, h'.get? e = some u)
    (new : ObjOk P w (upd H x o') h' x o') : HOk P w (upd H x o') h' := fun b u q => by
  have nown : ∀ c y, H c = some (.own y) -> c ≠ x := fun c y r z => by subst z; rw [r] at mu; exact mu
  have ntup : ∀ c xs, H c = some (.tup xs) -> c ≠ x := fun c xs r z => by subst z; rw [r] at mu; exact mu
  by_cases hb : b = x
  · subst hb; rw [upd_same] at q; cases q; exact new
  · rw [upd_ne hb] at q
    by_cases hbe : b = e
    · have q' : H b = some (.own x) := by
        rcases he with z | z
        · exact absurd (hbe.trans z) hb
        · rw [hbe]; exact z
      rw [q] at q'; cases q'
      obtain ⟨v, hv⟩ := heo
      exact ⟨v, by rw [hbe]; exact hv⟩
    · refine (ok b u q).stay (fun c v hc r => k c v ?_ r) (fun c r => by rw [upd_ne (nown c b r)]; exact r) fun c xs r => by rw [upd_ne (ntup c xs r)]; exact r
      rcases hc with rfl | hc
      · exact hbe
      · rintro rfl
        rcases he with z | z
        · exact nown c b hc z
        · rw [hc] at z; cases z; exact hb rfl
end
structure Un (fs ex : List Addr) (H H' : Hp) (h h' : Heap) : Prop where
  keep : ∀ b o, h.get? b = some o -> H b = none -> b ∉ fs -> b ∉ ex -> h'.get? b = some o
  slot : ∀ b o, h.get? b = some o -> H b = none -> b ∈ fs -> b ∉ ex -> ∃ sl, h'.get? b = some { o with slots := sl }
  free : ∀ b o, h.get? b = some o -> H b = none -> b ∉ ex -> H' b = none
  there : ∀ b o, h.get? b = some o -> b ∉ ex -> ∃ o', h'.get? b = some o'
  tups : ∀ b xs, H b = some (.tup xs) -> H' b = some (.tup xs)
  frzs : ∀ b o u, H b = some (.frz o u) -> H' b = some (.frz o u)
  tbls : ∀ b ps, H b = some (.tbl ps) -> ∃ more, H' b = some (.tbl (ps ++ more))
section
variable {fs fs' ex ex' : List Addr} {H H1 H2 : Hp} {h h1 h2 h' : Heap} {a x e : Addr} {o : HO}
theorem Un.any (u : Un fs ex H H1 h h1) {b : Addr} {ob : Obj} (q : h.get? b = some ob) (n : H b = none) (hx : b ∉ ex) : ∃ sl, h1.get? b = some { ob with slots := sl } := by
  by_cases hb : b ∈ fs
  · exact u.slot b ob q n hb hx
  · exact ⟨ob.slots, u.keep b ob q n hb hx⟩
theorem Un.kept (k : ∀ b u, h.get? b = some u -> h'.get? b = some u) : Un fs ex H H h h' :=
  ⟨fun b ob q _ _ _ => k b ob q, fun b ob q _ _ _ => ⟨ob.slots, k b ob q⟩, fun _ _ _ n _ => n, fun b ob q _ => ⟨ob, k b ob q⟩, fun _ _ q => q, fun _ _ _ q => q, fun _ ps q => ⟨#[], by rw [q]; simp⟩⟩
theorem Un.refl : Un fs ex H H h h := Un.kept fun _ _ q => q
theorem Un.laid (k : ∀ b u, h.get? b = some u -> h'.get? b = some u) (hp : h.objs.size <= a) (hn : H a = none) : Un fs ex H (upd H a o) h h' where
  keep := fun b u q _ _ _ => k b u q
  slot := fun b u q _ _ _ => ⟨u.slots, k b u q⟩
  free := fun b u q n _ => by rw [upd_ne (Nat.ne_of_lt (Nat.lt_of_lt_of_le (Heap.lt_size q) hp))]; exact n
  there := fun b u q _ => ⟨u, k b u q⟩
  tups := fun b xs q => by rw [upd_ne (ne_of_none q hn)]; exact q
  frzs := fun b u xs q => by rw [upd_ne (ne_of_none q hn)]; exact q
  tbls := fun b ps q => ⟨#[], by rw [upd_ne (ne_of_none q hn), q]; simp⟩
theorem Un.write (mu : Mut (H x)) (he : e = x \/ H e = some (.own x)) (k : ∀ b u, b ≠ e -> h.get? b = some u -> h'.get? b = some u) (heo : ∃ u, h'.get? e = some u) : Un fs ex H (upd H x o) h h' := by
  have hx : ∀ b, H b = none -> b ≠ x := fun b n z => by subst z; rw [n] at mu; exact mu
  have hb : ∀ b, H b = none -> b ≠ e := fun b n z => by
    subst z
    rcases he with r | r
    · exact hx b n r
    · rw [n] at r; cases r
  have hm : ∀ b u, H b = some u -> ¬ Mut (some u) -> b ≠ x := fun b u q nm z => by subst z; rw [q] at mu; exact nm mu
  refine ⟨fun b u q n _ _ => k b u (hb b n) q, fun b u q n _ _ => ⟨u.slots, k b u (hb b n) q⟩, fun b u q n _ => by rw [upd_ne (hx b n)]; exact n, fun b u q _ => ?_,
    fun b xs q => by rw [upd_ne (hm b _ q fun z => z)]; exact q, fun b u xs q => by rw [upd_ne (hm b _ q fun z => z)]; exact q, fun b ps q => ⟨#[], by rw [upd_ne (hm b _ q fun z => z), q]; simp⟩⟩
  by_cases hbe : b = e
  · subst hbe; exact heo
  · exact ⟨u, k b u hbe q⟩
end
def trk (h : Heap) (H : Hp) : List Addr := (List.range h.objs.size).filter fun a => (H a).isSome
def hidT (h : Heap) (H : Hp) : Heap := PySem.W.hideAll h (trk h H)
theorem hidT_size (h : Heap) (H : Hp) : (hidT h H).objs.size = h.objs.size := PySem.W.hideAll_size _ _
theorem hidT_get {h : Heap} {H : Hp} {b : Addr} {o : Obj} (e : h.get? b = some o) (n : H b = none) : (hidT h H).get? b = some o :=
  PySem.W.hideAll_get _ e fun hm => by
    have q : (H b).isSome = true := (List.mem_filter.mp hm).2
    rw [n] at q; simp at q
theorem of_hidT {h : Heap} {H : Hp} {b : Addr} {o : Obj} (e : (hidT h H).get? b = some o) : h.get? b = some o /\ H b = none := by
  have e' : h.get? b = some o := PySem.W.of_hideAll (trk h H) e
  refine ⟨e', ?_⟩
  cases q : H b with
  | none => rfl
  | some x =>
    have hm : b ∈ trk h H := List.mem_filter.mpr ⟨List.mem_range.mpr (Heap.lt_size e'), by simp [q]⟩
    have z : (hidT h H).get? b = none := PySem.W.hideAll_none (trk h H) hm
    rw [z] at e; cases e
end L2
namespace L2
open PySem PySem.Spec PyProof.Rows
structure Mod (K : PySem.W.Frag) (mg : Str -> Option Value) (base : Heap) : Prop where
  kin : K.In base
  glob : base.Ns mainGlobals mg
  blt : ∃ mb, base.Ns builtinsNs mb /\ ∀ x : Str, x ≠ "__name__" -> mb x = bootBuiltins x
  nolimit : base.NoLimit
structure Cx where
  prog : Program
  w : World
  K : PySem.W.Frag
  mg : Str -> Option Value
  base : Heap
  A : Around
  N : List Str
  s₀ : Shared
  H₀ : Hp
  env : Env
  outer : List Env
  stack : List Env
  ex : List Addr
  fn : Str -> Bool
  calm : Bool
  pn : List (Addr × Obj)
  xe : Value -> Shared -> Prop
def frs (l : List Env) : List Addr := l.filterMap (·.frame)
abbrev Cx.fs (X : Cx) : List Addr := frs X.outer
def Vis (sc : Scope) (x : Str) : Prop := sc.names.lookup x = some .local \/ sc.names.lookup x = some .cell \/ sc.names.lookup x = some .free
def Loc (sc : Scope) (x : Str) : Prop := sc.names.lookup x = some .local \/ sc.names.lookup x = some .cell
def Look (env : Env) (h : Heap) (m : Str -> Option Value) (x : Str) (u : Value) : Prop :=
  (env.kindOf x = some .local /\ m x = some u) \/ ((env.kindOf x = some .cell \/ env.kindOf x = some .free) /\ ∃ c, env.cells.lookup x = some c /\ h.IsCell c (some u))
structure Cx.Ok (X : Cx) : Prop where
  mod : Mod X.K X.mg X.base
  kind : X.env.scope.kind = .function
  glob : X.env.globals = mainGlobals
  blt : X.env.builtins = builtinsNs
  above : X.s₀.heap.objs.size <= X.env.locals
  inj : ∀ x y c, X.env.cells.lookup x = some c -> X.env.cells.lookup y = some c -> x = y
  has : ∀ x, (X.env.kindOf x = some .cell \/ X.env.kindOf x = some .free) -> ∃ c, X.env.cells.lookup x = some c
  cab : ∀ x c, X.fn x = true -> X.env.cells.lookup x = some c -> X.s₀.heap.objs.size <= c
  hd : X.calm = true -> X.A.handled = none
  frames : X.A.frames = some X.stack
  stk : X.stack = X.outer \/ (X.stack = X.env :: X.outer /\ X.env.frame = some X.env.locals)
  exf : ∀ b ∈ X.ex, b ≠ X.env.locals /\ ∀ x c, X.env.cells.lookup x = some c -> c ≠ b
  bs : ∀ b o, X.base.get? b = some o -> X.s₀.heap.get? b = some o /\ X.H₀ b = none
  bsz : X.base.objs.size <= X.s₀.heap.objs.size
  noex : ∀ b o, X.base.get? b = some o -> b ∉ X.ex
  exfs : ∀ b ∈ X.ex, b ∉ X.fs
  funs : X.s₀.heap.FunFrames X.base X.outer
  frf : ∀ b ∈ X.fs, X.H₀ b = none
structure Inv (X : Cx) (pins : List (Addr × Obj)) (σ : List (Option V)) (H : Hp) (s : Shared) : Prop where
  ok : X.Ok
  os : s.os = X.s₀.os
  bare : AllBare s.gens
  base : Un X.fs X.ex X.H₀ H X.s₀.heap s.heap
  loc : ∃ m, s.heap.Ns X.env.locals m /\ ∀ (i : Nat) (x : Str) (v : V), X.N[i]? = some x -> σ[i]? = some (some v) -> Vis X.env.scope x -> ∃ u, RelV v u /\ Look X.env s.heap m x u
  cell : ∀ x c, X.env.cells.lookup x = some c -> ∃ v, s.heap.IsCell c v
  free : H X.env.locals = none
  freeC : ∀ x c, X.env.cells.lookup x = some c -> H c = none
  pin : ∀ p ∈ X.pn ++ pins, s.heap.get? p.1 = some p.2 /\ H p.1 = none /\ p.1 ≠ X.env.locals /\ p.1 ∉ X.fs /\ ∀ v, p.2.data ≠ .cell v
  hok : HOk X.prog X.w H s.heap
  len : σ.length = X.N.length
section
variable {X : Cx} {pins : List (Addr × Obj)} {σ : List (Option V)} {H H' : Hp} {s : Shared} {h' : Heap}
theorem Cx.Ok.nofr (ok : X.Ok) {b : Addr} {o : Obj} (e : X.base.get? b = some o) : b ∉ X.fs := fun hb => by
  have := (ok.funs.mem hb).1
  rw [e] at this; cases this
theorem Inv.bs (I : Inv X pins σ H s) : ∀ b o, X.base.get? b = some o -> s.heap.get? b = some o /\ H b = none := fun b o e =>
  ⟨I.base.keep b o (I.ok.bs b o e).1 (I.ok.bs b o e).2 (I.ok.nofr e) (I.ok.noex b o e), I.base.free b o (I.ok.bs b o e).1 (I.ok.bs b o e).2 (I.ok.noex b o e)⟩
theorem Inv.bk (I : Inv X pins σ H s) : ∀ b o, X.base.get? b = some o -> s.heap.get? b = some o := fun b o e => (I.bs b o e).1
theorem Inv.mod (I : Inv X pins σ H s) : Mod X.K X.mg X.base := I.ok.mod
theorem Inv.kIn (I : Inv X pins σ H s) : X.K.In s.heap := I.ok.mod.kin.keeps I.bk
theorem Inv.lt (I : Inv X pins σ H s) : X.env.locals < s.heap.objs.size := let ⟨_, hn, _⟩ := I.loc; hn.lt
theorem Inv.sz (I : Inv X pins σ H s) : X.s₀.heap.objs.size <= s.heap.objs.size := Nat.le_trans I.ok.above (Nat.le_of_lt I.lt)
theorem Inv.nofs (I : Inv X pins σ H s) {a : Addr} (h : s.heap.objs.size <= a) : a ∉ X.fs := fun hb => by
  obtain ⟨_, o, ho, _⟩ := I.ok.funs.mem hb
  exact absurd (Nat.lt_of_lt_of_le (Heap.lt_size ho) (Nat.le_trans I.sz h)) (Nat.lt_irrefl _)
theorem Inv.cne (I : Inv X pins σ H s) : ∀ x c, X.env.cells.lookup x = some c -> c ≠ X.env.locals := fun x c e z => by
  obtain ⟨v, o, ho, hd⟩ := I.cell x c e
  obtain ⟨m, ⟨o', es, ep, ho', hd', _⟩, _⟩ := I.loc
  rw [z, ho'] at ho; cases ho; rw [hd'] at hd; cases hd
theorem Inv.funs (I : Inv X pins σ H s) : s.heap.FunFrames X.base X.outer := by
  have all : ∀ (l : List Env), (∀ b ∈ frs l, b ∈ X.fs) -> X.s₀.heap.FunFrames X.base l -> s.heap.FunFrames X.base l := by
    intro l
    induction l with
    | nil => intro _ _; trivial
    | cons env r ih =>
      intro hs hl
      obtain ⟨hk, ⟨L, o, hf, hn, ho, hd⟩, hr⟩ := hl
      have hL : L ∈ X.fs := hs L (by unfold frs; rw [List.filterMap_cons, hf]; exact List.mem_cons_self)
      obtain ⟨sl, e⟩ := I.base.slot L o ho (I.ok.frf L hL) hL fun z => I.ok.exfs L z hL
      exact ⟨hk, ⟨L, _, hf, hn, e, hd⟩, ih (fun b hb => hs b (by unfold frs; rw [List.filterMap_cons, hf]; exact List.mem_cons_of_mem _ hb)) hr⟩
  exact all X.outer (fun _ hb => hb) I.ok.funs
theorem Inv.stack (I : Inv X pins σ H s) : s.heap.FunFrames X.base X.stack := by
  rcases I.ok.stk with e | ⟨e, hf⟩
  · rw [e]; exact I.funs
  · rw [e]
    obtain ⟨m, hn, _⟩ := I.loc
    refine .cons (by rw [I.ok.kind]; decide) hf hn ?_ I.funs
    exact Heap.get?_none_of_le (Nat.le_trans I.ok.bsz I.ok.above)
theorem Inv.stkSub (I : Inv X pins σ H s) : ∀ b ∈ frs X.stack, b ∈ X.env.locals :: X.fs := fun b hb => by
  rcases I.ok.stk with e | ⟨e, hf⟩
  · rw [e] at hb; exact List.mem_cons_of_mem _ hb
  · rw [e] at hb
    unfold frs at hb
    rw [List.filterMap_cons, hf] at hb
    exact hb
theorem Inv.stkFree (I : Inv X pins σ H s) : ∀ b ∈ frs X.stack, H b = none := fun b hb => by
  rcases List.mem_cons.mp (I.stkSub b hb) with e | hb
  · rw [e]; exact I.free
  · obtain ⟨_, o, ho, _⟩ := I.ok.funs.mem hb
    exact I.base.free b o ho (I.ok.frf b hb) fun z => I.ok.exfs b z hb
theorem Inv.step {g' : Array GenState} {t' : Nat} {d' : Drawn} {ch : List Addr} (I : Inv X pins σ H s)
    (hch : ∀ b ∈ ch, (b ∈ X.ex \/ X.s₀.heap.objs.size <= b) /\ b ≠ X.env.locals /\ (∀ x c, X.env.cells.lookup x = some c -> c ≠ b) /\ ∀ p ∈ X.pn ++ pins, p.1 ≠ b)
    (keep : ∀ b o, b ≠ X.env.locals -> b ∉ X.fs -> b ∉ ch -> s.heap.get? b = some o -> H b = none -> h'.get? b = some o)
    (slot : ∀ b o, b ≠ X.env.locals -> b ∈ X.fs -> b ∉ ch -> s.heap.get? b = some o -> H b = none -> ∃ sl, h'.get? b = some { o with slots := sl }) (free : ∀ b o, b ∉ ch -> s.heap.get? b = some o -> H b = none -> H' b = none)
    (there : ∀ b o, b ∉ ch -> s.heap.get? b = some o -> ∃ o', h'.get? b = some o')
    (tups : ∀ b xs, H b = some (.tup xs) -> H' b = some (.tup xs)) (frzs : ∀ b o u, H b = some (.frz o u) -> H' b = some (.frz o u)) (tbls : ∀ b ps, H b = some (.tbl ps) -> ∃ more, H' b = some (.tbl (ps ++ more)))
    (ns : ∀ m, s.heap.Ns X.env.locals m -> h'.Ns X.env.locals m) (hok : HOk X.prog X.w H' h') (hg : AllBare g') :
    Inv X pins σ H' { s with heap := h', gens := g', drawn := d', toks := t' } := by
  have neL : ∀ b o, X.s₀.heap.get? b = some o -> b ≠ X.env.locals := fun b o e => Nat.ne_of_lt (Nat.lt_of_lt_of_le (Heap.lt_size e) I.ok.above)
  have neC : ∀ b o, X.s₀.heap.get? b = some o -> b ∉ X.ex -> b ∉ ch := fun b o e hx hb => by
    rcases (hch b hb).1 with z | z
    · exact hx z
    · exact absurd (Nat.lt_of_lt_of_le (Heap.lt_size e) z) (Nat.lt_irrefl _)
  have cellK : ∀ x c, X.env.cells.lookup x = some c -> ∀ v, s.heap.IsCell c v -> h'.IsCell c v := fun x c e v ⟨o, ho, hd⟩ => by
    have nch : c ∉ ch := fun z => (hch c z).2.2.1 x c e rfl
    by_cases hc : c ∈ X.fs
    · obtain ⟨sl, q⟩ := slot c o (I.cne x c e) hc nch ho (I.freeC x c e)
      exact ⟨_, q, hd⟩
    · exact ⟨o, keep c o (I.cne x c e) hc nch ho (I.freeC x c e), hd⟩
  refine ⟨I.ok, I.os, hg, ⟨fun b o e n hb hx => ?_, fun b o e n hb hx => ?_, fun b o e n hx => ?_, fun b o e hx => ?_, fun b xs e => tups b xs (I.base.tups b xs e), fun b o xs e => frzs b o xs (I.base.frzs b o xs e), fun b ps e => ?_⟩, ?_, fun x c e => ?_, ?_, fun x c e => ?_, fun p hp => ?_, hok, I.len⟩
  · exact keep b o (neL b o e) hb (neC b o e hx) (I.base.keep b o e n hb hx) (I.base.free b o e n hx)
  · obtain ⟨sl, e1⟩ := I.base.slot b o e n hb hx
    obtain ⟨sl', e2⟩ := slot b _ (neL b o e) hb (neC b o e hx) e1 (I.base.free b o e n hx)
    exact ⟨sl', e2⟩
  · obtain ⟨o', e1⟩ := I.base.there b o e hx
    exact free b o' (neC b o e hx) e1 (I.base.free b o e n hx)
  · obtain ⟨o', e1⟩ := I.base.there b o e hx
    exact there b o' (neC b o e hx) e1
  · obtain ⟨m1, e1⟩ := I.base.tbls b ps e
    obtain ⟨m2, e2⟩ := tbls b _ e1
    exact ⟨m1 ++ m2, by rw [e2, Array.append_assoc]⟩
  · obtain ⟨m, hn, hl⟩ := I.loc
    refine ⟨m, ns m hn, fun i x v e1 e2 e3 => ?_⟩
    obtain ⟨u, r, l⟩ := hl i x v e1 e2 e3
    refine ⟨u, r, ?_⟩
    rcases l with l | ⟨k, c, e, z⟩
    · exact .inl l
    · exact .inr ⟨k, c, e, cellK x c e _ z⟩
  · obtain ⟨v, z⟩ := I.cell x c e
    exact ⟨v, cellK x c e v z⟩
  · obtain ⟨m, ⟨o, _, _, ho, _⟩, _⟩ := I.loc
    exact free _ o (fun z => (hch _ z).2.1 rfl) ho I.free
  · obtain ⟨v, o, ho, hd⟩ := I.cell x c e
    exact free c o (fun z => (hch c z).2.2.1 x c e rfl) ho (I.freeC x c e)
  · obtain ⟨e, n, ne, nf, d⟩ := I.pin p hp
    have nch : p.1 ∉ ch := fun z => (hch p.1 z).2.2.2 p hp rfl
    exact ⟨keep p.1 p.2 ne nf nch e n, free p.1 p.2 nch e n, ne, nf, d⟩
theorem Inv.un {t' : Nat} (I : Inv X pins σ H s) (u : Un X.fs [] H H' s.heap h') (hok : HOk X.prog X.w H' h') : Inv X pins σ H' { s with heap := h', toks := t' } := by
  obtain ⟨m, ⟨o, es, ep, ho, r⟩, _⟩ := id I.loc
  obtain ⟨sl, hL⟩ := u.any ho I.free (by simp)
  exact I.step (g' := s.gens) (d' := s.drawn) (ch := []) (fun _ z => nomatch z) (fun b o _ hb _ e n => u.keep b o e n hb (by simp)) (fun b o _ hb _ e n => u.slot b o e n hb (by simp)) (fun b o _ e n => u.free b o e n (by simp)) (fun b o _ e => u.there b o e (by simp)) u.tups u.frzs u.tbls (fun m' hm => by
    obtain ⟨o', es', ep', ho', r'⟩ := hm
    rw [ho] at ho'; cases ho'
    exact ⟨_, es', ep', hL, r'⟩) hok I.bare
theorem Inv.call {g' : Array GenState} {t' : Nat} {d' : Drawn} {ch : List Addr} (I : Inv X pins σ H s) (u : Un (frs X.stack) ch H H' s.heap h') (hok : HOk X.prog X.w H' h') (hg : AllBare g')
    (hch : ∀ b ∈ ch, (b ∈ X.ex \/ X.s₀.heap.objs.size <= b) /\ b ≠ X.env.locals /\ (∀ x c, X.env.cells.lookup x = some c -> c ≠ b) /\ ∀ p ∈ X.pn ++ pins, p.1 ≠ b) :
    Inv X pins σ H' { s with heap := h', gens := g', drawn := d', toks := t' } := by
  obtain ⟨m, ⟨o, es, ep, ho, r⟩, _⟩ := id I.loc
  obtain ⟨sl, hL⟩ := u.any ho I.free fun z => (hch _ z).2.1 rfl
  exact I.step (ch := ch) hch (fun b o hL hb hc e n => u.keep b o e n (fun z => (List.mem_cons.mp (I.stkSub b z)).elim hL hb) hc) (fun b o _ _ hc e n => u.any e n hc) (fun b o hc e n => u.free b o e n hc) (fun b o hc e => u.there b o e hc) u.tups u.frzs u.tbls (fun m' hm => by
    obtain ⟨o', es', ep', ho', r'⟩ := hm
    rw [ho] at ho'; cases ho'
    exact ⟨_, es', ep', hL, r'⟩) hok hg
theorem Inv.turned {t' : Nat} {it : Addr} (I : Inv X pins σ H s) (k : ∀ b o, b ≠ it -> s.heap.get? b = some o -> h'.get? b = some o) (hn : H it = none) (hL : it ≠ X.env.locals)
    (h1 : it ∈ X.ex \/ X.s₀.heap.objs.size <= it) (h2 : ∀ x c, X.env.cells.lookup x = some c -> c ≠ it) (h3 : ∀ p ∈ X.pn ++ pins, p.1 ≠ it) : Inv X pins σ H { s with heap := h', toks := t' } := by
  have nit : ∀ b u, H b = some u -> b ≠ it := fun b u e z => by rw [z, hn] at e; cases e
  refine I.step (g' := s.gens) (d' := s.drawn) (ch := [it]) (fun b hb => ?_) (fun b o _ _ hc e _ => k b o (fun z => hc (by simp [z])) e) (fun b o _ _ hc e _ => ⟨o.slots, k b o (fun z => hc (by simp [z])) e⟩) (fun _ _ _ _ n => n)
    (fun b o hc e => ⟨o, k b o (fun z => hc (by simp [z])) e⟩) (fun _ _ e => e) (fun _ _ _ e => e) (fun b ps e => ⟨#[], by rw [e]; simp⟩) (fun m hm => ?_) (fun b u e => ?_) I.bare
  · have e : b = it := by simpa using hb
    subst e
    exact ⟨h1, hL, h2, h3⟩
  · obtain ⟨o, es, ep, ho, r⟩ := hm
    exact ⟨o, es, ep, k _ o (Ne.symm hL) ho, r⟩
  · refine (I.hok b u e).stay (fun c v hc q => k c v ?_ q) (fun _ q => q) fun _ _ q => q
    rcases hc with z | z
    · rw [z]; exact nit b u e
    · exact nit c _ z
theorem Inv.tok (I : Inv X pins σ H s) (t : Nat) : Inv X pins σ H { s with toks := t } := I.un (h' := s.heap) (t' := t) Un.refl I.hok
theorem Inv.kept {t' : Nat} (I : Inv X pins σ H s) (k : ∀ b u, s.heap.get? b = some u -> h'.get? b = some u) : Inv X pins σ H { s with heap := h', toks := t' } := I.un (Un.kept k) (I.hok.kept k)
theorem Inv.laid {a : Addr} {o : HO} {t' : Nat} (I : Inv X pins σ H s) (k : ∀ b u, s.heap.get? b = some u -> h'.get? b = some u) (hp : s.heap.objs.size <= a) (new : ObjOk X.prog X.w (upd H a o) h' a o) :
    Inv X pins σ (upd H a o) { s with heap := h', toks := t' } := I.un (Un.laid k hp (I.hok.fresh hp)) (I.hok.laid k hp new)
theorem Inv.write {x e : Addr} {o : HO} {t' : Nat} (I : Inv X pins σ H s) (mu : Mut (H x)) (he : e = x \/ H e = some (.own x)) (k : ∀ b u, b ≠ e -> s.heap.get? b = some u -> h'.get? b = some u) (heo : ∃ u, h'.get? e = some u)
    (new : ObjOk X.prog X.w (upd H x o) h' x o) : Inv X pins σ (upd H x o) { s with heap := h', toks := t' } := I.un (Un.write mu he k heo) (I.hok.write mu he k heo new)
theorem Inv.pins_of {pins' : List (Addr × Obj)} (I : Inv X pins σ H s) (h : ∀ p ∈ pins', s.heap.get? p.1 = some p.2 /\ H p.1 = none /\ p.1 ≠ X.env.locals /\ p.1 ∉ X.fs /\ ∀ v, p.2.data ≠ .cell v) : Inv X pins' σ H s :=
  ⟨I.ok, I.os, I.bare, I.base, I.loc, I.cell, I.free, I.freeC, fun p hp => (List.mem_append.mp hp).elim (fun z => I.pin p (List.mem_append_left _ z)) (h p), I.hok, I.len⟩
theorem nodup_ix {N : List Str} (hN : N.Nodup) {i j : Nat} {x : Str} (a : N[i]? = some x) (b : N[j]? = some x) : i = j := by
  obtain ⟨h1, e1⟩ := List.getElem?_eq_some_iff.mp a
  obtain ⟨h2, e2⟩ := List.getElem?_eq_some_iff.mp b
  exact (List.getElem_inj hN).mp (e1.trans e2.symm)
theorem store_ok2 {M : Model} {A : Around} {E : Value -> Shared -> Prop} {i : Nat} {x : Str} {v : V} {u : Value} {Q : Unit -> Shared -> Prop} (I : Inv X pins σ H s) (hN : X.N.Nodup) (hi : X.N[i]? = some x) (hx : Loc X.env.scope x) (r : RelV v u)
    (h : ∀ s', Inv X pins (σ.set i (some v)) H s' -> (∃ a, Heap.SameBut a s.heap s'.heap /\ (a = X.env.locals \/ X.env.cells.lookup x = some a)) -> Q () s') (hf : X.fn x = true \/ X.env.scope.names.lookup x = some .local := by first | exact .inl rfl | exact .inr rfl | assumption) : wpAny M A (storeName X.env x u) Q E s := by
  obtain ⟨m, hn, hl⟩ := id I.loc
  have hcls : (X.env.scope.kind == .class || (X.env.scope.kind == .module && X.env.locals != X.env.globals)) = false := by rw [I.ok.kind]; rfl
  have hiσ : i < σ.length := by rw [I.len]; exact (List.getElem?_eq_some_iff.mp hi).1
  have cne := I.cne
  have tracked : ∀ {a : Addr} {h' : Heap}, (∃ o, s.heap.get? a = some o /\ H a = none) -> Heap.SameBut a s.heap h' -> HOk X.prog X.w H h' := fun {a h'} ha hs b ob e => by
    obtain ⟨_, _, hfree⟩ := ha
    refine (I.hok b ob e).stay (fun c w' hc q => (hs.2 c ?_).trans q) (fun _ q => q) fun _ _ q => q
    rintro rfl
    rcases hc with rfl | hc
    · rw [hfree] at e; cases e
    · rw [hfree] at hc; cases hc
  rcases hx with hk | hk
  · refine wpAny_storeName_local hk hn (fun h' hn' hs => ?_) hcls
    obtain ⟨oL, _, _, hoL, _⟩ := id hn
    refine h _ ⟨I.ok, I.os, I.bare, ⟨fun b o e n hb hx => ?_, fun b o e n hb hx => ?_, I.base.free, fun b o e hx => ?_, I.base.tups, I.base.frzs, I.base.tbls⟩, ⟨_, hn', fun j y v' e1 e2 e3 => ?_⟩, fun y c e => ?_, I.free, I.freeC, fun p hp => ?_, tracked ⟨oL, hoL, I.free⟩ hs, by simpa using I.len⟩ ⟨_, hs, .inl rfl⟩
    · exact (hs.2 b (Nat.ne_of_lt (Nat.lt_of_lt_of_le (Heap.lt_size e) I.ok.above))).trans (I.base.keep b o e n hb hx)
    · obtain ⟨sl, e1⟩ := I.base.slot b o e n hb hx
      exact ⟨sl, (hs.2 b (Nat.ne_of_lt (Nat.lt_of_lt_of_le (Heap.lt_size e) I.ok.above))).trans e1⟩
    · obtain ⟨o', e1⟩ := I.base.there b o e hx
      exact ⟨o', (hs.2 b (Nat.ne_of_lt (Nat.lt_of_lt_of_le (Heap.lt_size e) I.ok.above))).trans e1⟩
    · by_cases hj : j = i
      · subst hj
        rw [hi] at e1; cases e1
        rw [List.getElem?_set_self hiσ] at e2
        cases e2
        exact ⟨u, r, .inl ⟨hk, by simp⟩⟩
      · rw [List.getElem?_set_ne (Ne.symm hj)] at e2
        obtain ⟨u', r', q⟩ := hl j y v' e1 e2 e3
        refine ⟨u', r', ?_⟩
        rcases q with ⟨k, e⟩ | ⟨k, c, e, z⟩
        · refine .inl ⟨k, ?_⟩
          have : y ≠ x := fun e => hj (nodup_ix hN e1 (e ▸ hi))
          simp [this, e]
        · exact .inr ⟨k, c, e, z.sameBut hs (cne y c e)⟩
    · obtain ⟨w', z⟩ := I.cell y c e
      exact ⟨w', z.sameBut hs (cne y c e)⟩
    · obtain ⟨e, n, ne, nf, d⟩ := I.pin p hp
      exact ⟨(hs.2 p.1 ne).trans e, n, ne, nf, d⟩
  · have hfn : X.fn x = true := by
      rcases hf with z | z
      · exact z
      · rw [z] at hk; cases hk
    obtain ⟨c, hc⟩ := I.ok.has x (.inl hk)
    obtain ⟨w', z⟩ := I.cell x c hc
    refine wpAny_storeName_cell I.ok.kind hk hc z (fun h' hc' hs => ?_)
    obtain ⟨oc, hoc, hocd⟩ := id z
    refine h { s with heap := h' } ⟨I.ok, I.os, I.bare, ⟨fun b o e n hb hx => ?_, fun b o e n hb hx => ?_, I.base.free, fun b o e hx => ?_, I.base.tups, I.base.frzs, I.base.tbls⟩, ⟨m, hn.sameBut hs (Ne.symm (cne x c hc)), fun j y v' e1 e2 e3 => ?_⟩, fun y c' e => ?_, I.free, I.freeC, fun p hp => ?_, tracked ⟨oc, hoc, I.freeC x c hc⟩ hs, by simpa using I.len⟩ ⟨c, hs, .inr hc⟩
    · exact (hs.2 b (Nat.ne_of_lt (Nat.lt_of_lt_of_le (Heap.lt_size e) (I.ok.cab x c hfn hc)))).trans (I.base.keep b o e n hb hx)
    · obtain ⟨sl, e1⟩ := I.base.slot b o e n hb hx
      exact ⟨sl, (hs.2 b (Nat.ne_of_lt (Nat.lt_of_lt_of_le (Heap.lt_size e) (I.ok.cab x c hfn hc)))).trans e1⟩
    · obtain ⟨o', e1⟩ := I.base.there b o e hx
      exact ⟨o', (hs.2 b (Nat.ne_of_lt (Nat.lt_of_lt_of_le (Heap.lt_size e) (I.ok.cab x c hfn hc)))).trans e1⟩
    · by_cases hj : j = i
      · subst hj
        rw [hi] at e1; cases e1
        rw [List.getElem?_set_self hiσ] at e2
        cases e2
        exact ⟨u, r, .inr ⟨.inl hk, c, hc, hc'⟩⟩
      · rw [List.getElem?_set_ne (Ne.symm hj)] at e2
        obtain ⟨u', r', q⟩ := hl j y v' e1 e2 e3
        refine ⟨u', r', ?_⟩
        rcases q with q | ⟨k, c', e, z'⟩
        · exact .inl q
        · refine .inr ⟨k, c', e, z'.sameBut hs ?_⟩
          rintro rfl
          exact hj (nodup_ix hN e1 (I.ok.inj _ _ _ e hc ▸ hi))
    · by_cases hcc : c' = c
      · subst hcc; exact ⟨_, hc'⟩
      · obtain ⟨w2, z2⟩ := I.cell y c' e
        exact ⟨w2, z2.sameBut hs hcc⟩
    · obtain ⟨e, n, ne, nf, d⟩ := I.pin p hp
      refine ⟨(hs.2 p.1 ?_).trans e, n, ne, nf, d⟩
      intro q
      rw [q, hoc] at e
      have q' : oc = p.2 := Option.some.inj e
      exact d w' (by rw [<- q']; exact hocd)
theorem store_ok {M : Model} {A : Around} {E : Value -> Shared -> Prop} {i : Nat} {x : Str} {v : V} {u : Value} {Q : Unit -> Shared -> Prop} (I : Inv X pins σ H s) (hN : X.N.Nodup) (hi : X.N[i]? = some x) (hx : Loc X.env.scope x) (r : RelV v u)
    (h : ∀ s', Inv X pins (σ.set i (some v)) H s' -> Q () s') (hf : X.fn x = true \/ X.env.scope.names.lookup x = some .local := by first | exact .inl rfl | exact .inr rfl | assumption) : wpAny M A (storeName X.env x u) Q E s :=
  store_ok2 I hN hi hx r (fun s' I' _ => h s' I') hf
theorem Inv.call' {s' : Shared} {ch : List Addr} (I : Inv X pins σ H s) (ho : s'.os = s.os) (u : Un (frs X.stack) ch H H' s.heap s'.heap) (hok : HOk X.prog X.w H' s'.heap) (hg : AllBare s'.gens)
    (hch : ∀ b ∈ ch, (b ∈ X.ex \/ X.s₀.heap.objs.size <= b) /\ b ≠ X.env.locals /\ (∀ x c, X.env.cells.lookup x = some c -> c ≠ b) /\ ∀ p ∈ X.pn ++ pins, p.1 ≠ b) : Inv X pins σ H' s' := by
  obtain ⟨h', g', d', t', o'⟩ := s'
  have e : o' = s.os := ho
  subst e
  exact I.call (g' := g') (t' := t') (d' := d') u hok hg hch
end
abbrev XK := Value -> Option Addr -> Hp -> Prop
abbrev St := List (Option V)
abbrev VK := V -> Hp -> Prop
abbrev TE := St -> Hp -> VK -> Prop
abbrev TT := St -> Hp -> (Bool -> Hp -> Prop) -> Prop
abbrev TA := St -> Hp -> (List V -> Hp -> Prop) -> Prop
structure Ends where
  nx : St -> Hp -> Prop
  rt : VK
  bk : St -> Hp -> Prop := fun _ _ => False
  ct : St -> Hp -> Prop := fun _ _ => False
abbrev TS := Ends -> St -> Hp -> Prop
def EP (X : Cx) (pins : List (Addr × Obj)) (σ : St) (Q : VK) (u : Value) (s' : Shared) : Prop := ∃ v H', Inv X pins σ H' s' /\ RelV v u /\ Q v H'
def TP (X : Cx) (pins : List (Addr × Obj)) (σ : St) (Q : Bool -> Hp -> Prop) (b : Bool) (s' : Shared) : Prop := ∃ H', Inv X pins σ H' s' /\ Q b H'
def AP (X : Cx) (pins : List (Addr × Obj)) (σ : St) (Q : List V -> Hp -> Prop) (us : List Value) (s' : Shared) : Prop := ∃ vs H', Inv X pins σ H' s' /\ Vals vs us /\ Q vs H'
def SP (X : Cx) (pins : List (Addr × Obj)) (D : Ends) (f : Flow) (s' : Shared) : Prop :=
  match f with
  | .next => ∃ σ' H', Inv X pins σ' H' s' /\ D.nx σ' H'
  | .brk => ∃ σ' H', Inv X pins σ' H' s' /\ D.bk σ' H'
  | .cont => ∃ σ' H', Inv X pins σ' H' s' /\ D.ct σ' H'
  | .ret u => ∃ v σ' H', Inv X pins σ' H' s' /\ RelV v u /\ D.rt v H'
def PE (X : Cx) (e : Expr) (t : TE) : Prop :=
  ∀ (pins : List (Addr × Obj)) (s : Shared) (σ : St) (H : Hp) (Q : VK), Inv X pins σ H s -> t σ H Q -> wpAny (model X.prog X.w) X.A (eval e X.env) (EP X pins σ Q) X.xe s
def PT (X : Cx) (e : Expr) (t : TT) : Prop :=
  ∀ (pins : List (Addr × Obj)) (s : Shared) (σ : St) (H : Hp) (Q : Bool -> Hp -> Prop), Inv X pins σ H s -> t σ H Q -> wpAny (model X.prog X.w) X.A (isTrue e X.env (eval e X.env)) (TP X pins σ Q) X.xe s
def PW (X : Cx) (e : Expr) (t : TT) : Prop :=
  ∀ (whole : Sem Value) (pins : List (Addr × Obj)) (s : Shared) (σ : St) (H : Hp) (Q : Bool -> Hp -> Prop), Inv X pins σ H s -> t σ H Q -> wpAny (model X.prog X.w) X.A (isTrue e X.env whole) (TP X pins σ Q) X.xe s
theorem PW.pt {X : Cx} {e : Expr} {t : TT} (h : PW X e t) : PT X e t := h _
def PA (X : Cx) (es : List Expr) (t : TA) : Prop :=
  ∀ (pos : Pos) (pins : List (Addr × Obj)) (s : Shared) (σ : St) (H : Hp) (Q : List V -> Hp -> Prop), Inv X pins σ H s -> t σ H Q -> wpAny (model X.prog X.w) X.A (spliced (backTo pos (starEach es X.env))) (AP X pins σ Q) X.xe s
def PS (X : Cx) (st : Stmt) (t : TS) : Prop :=
  ∀ (pins : List (Addr × Obj)) (s : Shared) (σ : St) (H : Hp) (D : Ends), Inv X pins σ H s -> t D σ H -> wpAny (model X.prog X.w) X.A (exec st X.env) (SP X pins D) X.xe s
def PSs (X : Cx) (st : List Stmt) (t : TS) : Prop :=
  ∀ (pins : List (Addr × Obj)) (s : Shared) (σ : St) (H : Hp) (D : Ends), Inv X pins σ H s -> t D σ H -> wpAny (model X.prog X.w) X.A (execs st X.env) (SP X pins D) X.xe s
theorem thn {α : Type} {t : Sem α} {Q Q' : α -> Shared -> Prop} {M : Model} {A : Around} {E : Value -> Shared -> Prop} {s : Shared} (h : wpAny M A t Q E s) (hQ : ∀ a s, Q a s -> Q' a s) : wpAny M A t Q' E s := wpAny_mono h hQ fun _ _ x => x
end L2
namespace L2
open PySem PySem.Spec PyProof.Rows
section
variable {X : Cx}
theorem bin {a b : Expr} {ta tb : TE} (ha : PE X a ta) (hb : PE X b tb) {pins : List (Addr × Obj)} {s : Shared} {σ : St} {H : Hp} {R : V -> V -> Hp -> Prop} (I : Inv X pins σ H s) (h : ta σ H fun x H1 => tb σ H1 fun y H2 => R x y H2)
    {α : Type} {Q : α -> Shared -> Prop} {f : Value -> Value -> Sem α}
    (hf : ∀ v u s2 x y H2, Inv X pins σ H2 s2 -> RelV x v -> RelV y u -> R x y H2 -> wpAny (model X.prog X.w) X.A (f v u) Q X.xe s2) :
    wpAny (model X.prog X.w) X.A (eval a X.env) (fun v s₁ => wpAny (model X.prog X.w) X.A (eval b X.env) (fun u s₂ => wpAny (model X.prog X.w) X.A (f v u) Q X.xe s₂) X.xe s₁) X.xe s := by
  refine thn (ha pins s σ H _ I h) fun v s1 ⟨x, H1, I1, r1, q1⟩ => ?_
  refine thn (hb pins s1 σ H1 _ I1 q1) fun u s2 ⟨y, H2, I2, r2, q2⟩ => ?_
  exact hf v u s2 x y H2 I2 r1 r2 q2
def tVar (i : Nat) : TE := fun σ H Q => ∃ v, σ[i]? = some (some v) /\ Q v H
def tC (v : V) : TE := fun _ H Q => Q v H
theorem pe_var {i : Nat} {x : Str} {pos : Pos} (hN : X.N[i]? = some x) (hv : Vis X.env.scope x) (hd : (x == ("__debug__" : Str)) = false := by decide) (hcd : (x == ("__classdict__" : Str)) = false := by decide) : PE X (.Name x pos) (tVar i) := by
  intro pins s σ H Q I h
  obtain ⟨v, e, h⟩ := h
  obtain ⟨m, hn, hl⟩ := I.loc
  obtain ⟨u, r, l⟩ := hl i x v hN e hv
  have fin : EP X pins σ Q u s := ⟨v, H, I, r, h⟩
  rcases l with ⟨hk, hm⟩ | ⟨hk, c, hc, hcell⟩
  · exact wpAny_Name (wpAny_loadName_local I.ok.kind hk hn hm fin) hd
  · rcases hk with hk | hk
    · exact wpAny_Name (wpAny_loadName_cell I.ok.kind hk hc hcell fin) hd
    · exact wpAny_Name (wpAny_loadName_free I.ok.kind hk hc hcell fin hcd) hd
theorem pe_int {i j pos} : PE X (.Constant (.int i) j pos) (tC (.int i)) := fun _ _ _ H _ I h => wpAny_Constant_int ⟨.int i, H, I.tok _, ⟨_, rfl⟩, h⟩
theorem pe_bl {b j pos} : PE X (.Constant (.bool b) j pos) (tC (.bl b)) := fun _ _ _ H _ I h => Constant_bool ⟨.bl b, H, I, rfl, h⟩
theorem pe_non {j pos} : PE X (.Constant .none j pos) (tC .non) := fun _ _ _ H _ I h => Constant_none ⟨.non, H, I, rfl, h⟩
theorem pe_str {x j pos} : PE X (.Constant (.str x) j pos) (tC (.str x)) := fun _ _ _ H _ I h => Calls.Constant_str ⟨.str x, H, I.tok _, ⟨_, rfl⟩, h⟩
def Gl (X : Cx) (x : Str) : Prop := X.env.kindOf x = some .globalImplicit
theorem ld_glob {E : Value -> Shared -> Prop} {pins : List (Addr × Obj)} {s : Shared} {σ : St} {H : Hp} {x : Str} {u : Value} {pos : Pos} {Q : Value -> Shared -> Prop} (I : Inv X pins σ H s) (hg : Gl X x) (hm : X.mg x = some u) (h : Q u s)
    (hd : (x == ("__debug__" : Str)) = false := by decide) : wpAny (model X.prog X.w) X.A (eval (.Name x pos) X.env) Q E s :=
  Calls.Name_function_global I.ok.kind hg (Calls.loadGlobal_global (by rw [I.ok.glob]; exact I.mod.glob.keeps I.bk) hm h) hd
theorem ld_blt {E : Value -> Shared -> Prop} {pins : List (Addr × Obj)} {s : Shared} {σ : St} {H : Hp} {x : Str} {u : Value} {pos : Pos} {Q : Value -> Shared -> Prop} (I : Inv X pins σ H s) (hg : Gl X x) (hm : X.mg x = none) (hv : bootBuiltins x = some u) (h : Q u s)
    (hn : x ≠ "__name__" := by decide) (hd : (x == ("__debug__" : Str)) = false := by decide) : wpAny (model X.prog X.w) X.A (eval (.Name x pos) X.env) Q E s := by
  obtain ⟨mb, h1, h2⟩ := I.mod.blt
  exact Calls.Name_function_global I.ok.kind hg (Calls.loadGlobal_builtin (by rw [I.ok.glob]; exact I.mod.glob.keeps I.bk) hm (by rw [I.ok.blt]; exact h1.keeps I.bk) ((h2 x hn).trans hv) h) hd
theorem pe_glob {x : Str} {v : V} {u : Value} {pos : Pos} (hg : Gl X x) (hm : X.mg x = some u) (r : RelV v u) (hd : (x == ("__debug__" : Str)) = false := by decide) : PE X (.Name x pos) (tC v) :=
  fun _ _ _ H _ I h => ld_glob I hg hm ⟨v, H, I, r, h⟩ hd
theorem pe_bltn {x : Str} {v : V} {u : Value} {pos : Pos} (hg : Gl X x) (hm : X.mg x = none) (hv : bootBuiltins x = some u) (r : RelV v u) (hn : x ≠ "__name__" := by decide) (hd : (x == ("__debug__" : Str)) = false := by decide) : PE X (.Name x pos) (tC v) :=
  fun _ _ _ H _ I h => ld_blt I hg hm hv ⟨v, H, I, r, h⟩ hn hd
variable {a b : Expr} {ta tb : TE} {pos : Pos}
variable {tA tB' : TT} {rest : List Expr}
def tAnd (t u : TT) : TT := fun σ H Q => t σ H fun c H1 => if c = true then u σ H1 Q else Q false H1
def tOr (t u : TT) : TT := fun σ H Q => t σ H fun c H1 => if c = true then Q true H1 else u σ H1 Q
def tNot (t : TT) : TT := fun σ H Q => t σ H fun c H1 => Q (!c) H1
theorem pw_and1 (ha : PT X a tA) : PW X (.BoolOp .And [a] pos) tA := by
  intro wh pins s σ H Q I h
  refine isTrue_and (thn (ha pins s σ H Q I h) fun c s1 e => ?_)
  cases c with
  | true => exact isTrue_and_nil e
  | false => exact e
theorem pw_or1 (ha : PT X a tA) : PW X (.BoolOp .Or [a] pos) tA := by
  intro wh pins s σ H Q I h
  refine isTrue_or (thn (ha pins s σ H Q I h) fun c s1 e => ?_)
  cases c with
  | false => exact isTrue_or_nil e
  | true => exact e
theorem pw_and (ha : PT X a tA) (hb : PW X (.BoolOp .And (b :: rest) pos) tB') : PW X (.BoolOp .And (a :: b :: rest) pos) (tAnd tA tB') := by
  intro wh pins s σ H Q I h
  refine isTrue_and (thn (ha pins s σ H _ I h) fun c s1 ⟨H1, I1, q1⟩ => ?_)
  cases c with
  | true => exact hb wh pins s1 σ H1 Q I1 q1
  | false => exact ⟨H1, I1, q1⟩
theorem pw_or (ha : PT X a tA) (hb : PW X (.BoolOp .Or (b :: rest) pos) tB') : PW X (.BoolOp .Or (a :: b :: rest) pos) (tOr tA tB') := by
  intro wh pins s σ H Q I h
  refine isTrue_or (thn (ha pins s σ H _ I h) fun c s1 ⟨H1, I1, q1⟩ => ?_)
  cases c with
  | true => exact ⟨H1, I1, q1⟩
  | false => exact hb wh pins s1 σ H1 Q I1 q1
theorem pt_not (ha : PT X a tA) : PT X (.UnaryOp .Not a pos) (tNot tA) := by
  intro pins s σ H Q I h
  exact isTrue_not (ha pins s σ H (fun c H1 => Q (!c) H1) I h)
def tAndV (ta tb : TE) : TE := fun σ H Q => ta σ H fun x H1 => ∃ c, x = .bl c /\ if c = true then tb σ H1 Q else Q (.bl false) H1
def tOrV (ta tb : TE) : TE := fun σ H Q => ta σ H fun x H1 => ∃ c, x = .bl c /\ if c = true then Q (.bl true) H1 else tb σ H1 Q
def tNotV (ta : TE) : TE := fun σ H Q => ta σ H fun x H1 => ∃ c, x = .bl c /\ Q (.bl (!c)) H1
theorem pe_one {op} {t : TE} (h : PE X a t) : PE X (.BoolOp op [a] pos) t := fun pins s σ H Q I hw => BoolOp_one (h pins s σ H Q I hw)
theorem pe_and (ha : PE X a ta) (hb : PE X (.BoolOp .And (b :: rest) pos) tb) : PE X (.BoolOp .And (a :: b :: rest) pos) (tAndV ta tb) := by
  intro pins s σ H Q I h
  refine BoolOp_and (thn (ha pins s σ H _ I h) fun v s1 ⟨x, H1, I1, r1, q1⟩ => ?_)
  obtain ⟨c, rfl, q1⟩ := q1
  cases r1
  refine wpAny_truthy_bool ?_
  cases c with
  | true => exact hb pins s1 σ H1 Q I1 q1
  | false => exact ⟨.bl false, H1, I1, rfl, q1⟩
theorem pe_or (ha : PE X a ta) (hb : PE X (.BoolOp .Or (b :: rest) pos) tb) : PE X (.BoolOp .Or (a :: b :: rest) pos) (tOrV ta tb) := by
  intro pins s σ H Q I h
  refine BoolOp_or (thn (ha pins s σ H _ I h) fun v s1 ⟨x, H1, I1, r1, q1⟩ => ?_)
  obtain ⟨c, rfl, q1⟩ := q1
  cases r1
  refine wpAny_truthy_bool ?_
  cases c with
  | false => exact hb pins s1 σ H1 Q I1 q1
  | true => exact ⟨.bl true, H1, I1, rfl, q1⟩
theorem pe_not (ha : PE X a ta) : PE X (.UnaryOp .Not a pos) (tNotV ta) := by
  intro pins s σ H Q I h
  refine UnaryOp_ (thn (ha pins s σ H _ I h) fun v s1 ⟨x, H1, I1, r1, q1⟩ => ?_)
  obtain ⟨c, rfl, q1⟩ := q1
  cases r1
  exact not_of (wpAny_truthy_bool ⟨.bl (!c), H1, I1, rfl, q1⟩)
def tIf (t : TT) (ta tb : TE) : TE := fun σ H Q => t σ H fun c H1 => if c = true then ta σ H1 Q else tb σ H1 Q
theorem pe_ifExp {c : Expr} (hc : PT X c tA) (ha : PE X a ta) (hb : PE X b tb) : PE X (.IfExp c a b pos) (tIf tA ta tb) := by
  intro pins s σ H Q I h
  refine wpAny_IfExp (thn (hc pins s σ H _ I h) fun d s1 ⟨H1, I1, q1⟩ => ?_)
  cases d with
  | true => exact ha pins s1 σ H1 Q I1 q1
  | false => exact hb pins s1 σ H1 Q I1 q1
end
end L2
namespace L2
open PySem PySem.Spec PyProof.Rows
def SqL (K : PySem.W.Frag) (H : Hp) (a : Addr) (xs : List V) : Prop :=
  Rd H a (.lst xs) \/
    ∃ (o : Obj) (its : Array Value) (n : Nat), K.lookup a = some o /\ o.cls = .type "list" /\ o.dict = none /\ o.data = .seq its n /\ its.size <= sizeLine /\ Vals xs its.toList
def SqT (K : PySem.W.Frag) (H : Hp) (a : Addr) (xs : List V) : Prop :=
  Rd H a (.tup xs) \/
    ∃ (o : Obj) (its : Array Value) (n : Nat), K.lookup a = some o /\ o.cls = .type "tuple" /\ o.data = .seq its n /\ its.size <= sizeLine /\ Vals xs its.toList
def absV : Value -> Option V
  | .none => some .non
  | .bool b => some (.bl b)
  | .int i _ => some (.int i)
  | .str x _ => some (.str x)
  | .bytes b _ => some (.byt b)
  | .float b _ => some (.flt b)
  | .ref a => some (.ref a)
  | .type n => some (.ty n)
  | _ => none
theorem RelV.abs {x : V} {u : Value} (r : RelV x u) : absV u = some x := by
  cases x with
  | non => cases r; rfl
  | bl _ => cases r; rfl
  | int _ => obtain ⟨t, rfl⟩ := r; rfl
  | str _ => obtain ⟨t, rfl⟩ := r; rfl
  | byt _ => obtain ⟨t, rfl⟩ := r; rfl
  | flt _ => obtain ⟨t, rfl⟩ := r; rfl
  | ref _ => cases r; rfl
  | ty _ => cases r; rfl
theorem RelV.inj {x y : V} {u : Value} (r : RelV x u) (q : RelV y u) : x = y := Option.some.inj (r.abs.symm.trans q.abs)
theorem Vals.inj : ∀ {xs ys : List V} {us : List Value}, Vals xs us -> Vals ys us -> xs = ys
  | _, _, _, .nil, .nil => rfl
  | _, _, _, .cons r t, .cons r' t' => by rw [r.inj r', Vals.inj t t']
section
variable {X : Cx} {pins : List (Addr × Obj)} {σ : St} {H : Hp} {s : Shared} {a : Addr} {xs ys : List V}
theorem SqL.of {K : PySem.W.Frag} (h : H a = some (.lst xs)) : SqL K H a xs := .inl (.inl h)
theorem Inv.list (I : Inv X pins σ H s) (h : SqL X.K H a xs) : ∃ its : List Value, Vals xs its /\ PlainL s.heap a its.toArray /\ xs.length <= sizeLine := by
  rcases h with h | ⟨o, its, n, hk, hc, hd, hs, hz, r⟩
  · obtain ⟨z, its, n, r, e⟩ := h.ok I.hok
    exact ⟨its, r, ⟨_, n, e, rfl, rfl, rfl⟩, z⟩
  · refine ⟨its.toList, r, ⟨o, n, I.kIn a o hk, hc, hd, by simpa using hs⟩, ?_⟩
    have e := r.length
    simp only [Array.length_toList] at e
    omega
theorem Inv.tuple (I : Inv X pins σ H s) (h : SqT X.K H a xs) : ∃ its : List Value, Vals xs its /\ IsTup s.heap a its.toArray /\ xs.length <= sizeLine := by
  rcases h with h | ⟨o, its, n, hk, hc, hs, hz, r⟩
  · obtain ⟨z, its, r, p⟩ := h.ok I.hok
    exact ⟨its, r, p, z⟩
  · refine ⟨its.toList, r, ⟨o, I.kIn a o hk, hc, n, by simpa using hs⟩, ?_⟩
    have e := r.length
    simp only [Array.length_toList] at e
    omega
theorem Inv.list_inj (I : Inv X pins σ H s) (h : SqL X.K H a xs) (h' : SqL X.K H a ys) : xs = ys := by
  obtain ⟨its, r, ⟨o, n, e, _, _, d⟩, _⟩ := I.list h
  obtain ⟨its', r', ⟨o', n', e', _, _, d'⟩, _⟩ := I.list h'
  rw [e] at e'; cases e'
  rw [d] at d'
  injection d' with d1 _
  have : its = its' := by simpa using congrArg Array.toList d1
  subst this
  exact r.inj r'
theorem Inv.tuple_inj (I : Inv X pins σ H s) (h : SqT X.K H a xs) (h' : SqT X.K H a ys) : xs = ys := by
  obtain ⟨its, r, ⟨o, e, _, n, d⟩, _⟩ := I.tuple h
  obtain ⟨its', r', ⟨o', e', _, n', d'⟩, _⟩ := I.tuple h'
  rw [e] at e'; cases e'
  rw [d] at d'
  injection d' with d1 _
  have : its = its' := by simpa using congrArg Array.toList d1
  subst this
  exact r.inj r'
end
section
variable {X : Cx} {pins : List (Addr × Obj)} {σ : St} {H : Hp} {s : Shared} {E : Value -> Shared -> Prop}
end
section
variable {X : Cx} {st : Stmt} {rest : List Stmt} {t u : TS} {e : Expr} {te : TE} {pos : Pos}
def tNext : TS := fun D σ H => D.nx σ H
def tSeq (t u : TS) : TS := fun D σ H => t { D with nx := u D } σ H
theorem pss_nil : PSs X [] tNext := fun _ _ σ H _ I h => wpAny_execs_nil ⟨σ, H, I, h⟩
theorem pss_cons (h1 : PS X st t) (h2 : PSs X rest u) : PSs X (st :: rest) (tSeq t u) := by
  intro pins s σ H D I h
  refine wpAny_execs_cons (thn (h1 pins s σ H { D with nx := u D } I h) fun f s1 q => ?_)
  cases f with
  | next =>
    obtain ⟨σ', H', I', q⟩ := q
    exact h2 pins s1 σ' H' D I' q
  | ret v => exact q
  | brk => exact q
  | cont => exact q
theorem Inv.quiet {pins : List (Addr × Obj)} {σ : St} {H : Hp} {s : Shared} (I : Inv X pins σ H s) : interactive X.env = false := by simp [interactive, I.ok.kind]
def tDrop (te : TE) : TS := fun D σ H => te σ H fun _ H1 => D.nx σ H1
theorem ps_expr (he : PE X e te) (hs : swapsWith e none pos.line X.env = pure false := by rfl) : PS X (.Expr e pos) (tDrop te) := by
  intro pins s σ H D I h
  exact wpAny_Expr_any (thn (he pins s σ H _ I h) fun v s1 ⟨x, H1, I1, r1, q1⟩ => ⟨σ, H1, I1, q1⟩) I.quiet hs
def tRet (te : TE) : TS := fun D σ H => te σ H D.rt
theorem ps_ret (he : PE X e te) : PS X (.Return (some e) pos) (tRet te) := by
  intro pins s σ H D I h
  exact wpAny_Return_some (thn (he pins s σ H _ I h) fun v s1 ⟨x, H1, I1, r1, q1⟩ => ⟨x, σ, H1, I1, r1, q1⟩)
def tIfS (c : TT) (t u : TS) : TS := fun D σ H => c σ H fun b H1 => if b = true then t D σ H1 else u D σ H1
theorem ps_if {c : Expr} {a b : List Stmt} {tc : TT} (hc : PT X c tc) (ha : PSs X a t) (hb : PSs X b u) : PS X (.If c a b pos) (tIfS tc t u) := by
  intro pins s σ H D I h
  refine wpAny_If (thn (hc pins s σ H _ I h) fun d s1 ⟨H1, I1, q1⟩ => ?_)
  cases d with
  | true => exact ha pins s1 σ H1 D I1 q1
  | false => exact hb pins s1 σ H1 D I1 q1
end
abbrev TG := V -> St -> Hp -> (St -> Hp -> Prop) -> Prop
abbrev TGs := List V -> St -> Hp -> (St -> Hp -> Prop) -> Prop
def PG (X : Cx) (target : Expr) (t : TG) : Prop :=
  ∀ (pins : List (Addr × Obj)) (s : Shared) (σ : St) (H : Hp) (v : V) (u : Value) (Q : St -> Hp -> Prop), Inv X pins σ H s -> RelV v u -> t v σ H Q ->
    wpAny (model X.prog X.w) X.A (assign target X.env u) (fun _ s' => ∃ σ' H', Inv X pins σ' H' s' /\ Q σ' H') X.xe s
def PGs (X : Cx) (ts : List Expr) (t : TGs) : Prop :=
  ∀ (pins : List (Addr × Obj)) (s : Shared) (σ : St) (H : Hp) (vs : List V) (us : List Value) (Q : St -> Hp -> Prop), Inv X pins σ H s -> Vals vs us -> t vs σ H Q ->
    wpAny (model X.prog X.w) X.A (assignInOrder ((assignEach ts X.env).map (·.2)) us) (fun _ s' => ∃ σ' H', Inv X pins σ' H' s' /\ Q σ' H') X.xe s
abbrev TSet := V -> V -> V -> Hp -> (Hp -> Prop) -> Prop
def PSet (X : Cx) (t : TSet) : Prop :=
  ∀ (pins : List (Addr × Obj)) (s : Shared) (σ : St) (H : Hp) (o i v : V) (ov iv u : Value) (Q : Hp -> Prop), Inv X pins σ H s -> RelV o ov -> RelV i iv -> RelV v u -> t o i v H Q ->
    wpAny (model X.prog X.w) X.A (setItem ov iv u) (fun _ s' => ∃ H', Inv X pins σ H' s' /\ Q H') X.xe s
abbrev TIp := V -> V -> Hp -> VK -> Prop
def PIp (X : Cx) (op : Operator) (t : TIp) : Prop :=
  ∀ (pins : List (Addr × Obj)) (s : Shared) (σ : St) (H : Hp) (x y : V) (v u : Value) (Q : VK), Inv X pins σ H s -> RelV x v -> RelV y u -> t x y H Q ->
    wpAny (model X.prog X.w) X.A (inplaceOp op v u) (EP X pins σ Q) X.xe s
section
variable {X : Cx} {pos : Pos}
def gName (i : Nat) : TG := fun v σ H Q => Q (σ.set i (some v)) H
theorem pg_name {i : Nat} {x : Str} (hN : X.N.Nodup) (hi : X.N[i]? = some x) (hx : Loc X.env.scope x) (hf : X.fn x = true \/ X.env.scope.names.lookup x = some .local := by first | exact .inl rfl | exact .inr rfl | assumption) : PG X (.Name x pos) (gName i) := by
  intro pins s σ H v u Q I r h
  exact wpAny_assign_Name (store_ok I hN hi hx r (fun s' I' => ⟨_, H, I', h⟩) hf)
def gNil : TGs := fun vs σ H Q => vs = [] /\ Q σ H
def gCons (t : TG) (u : TGs) : TGs := fun vs σ H Q => ∃ v r, vs = v :: r /\ t v σ H fun σ' H' => u r σ' H' Q
theorem pgs_nil : PGs X [] gNil := by
  intro pins s σ H vs us Q I r h
  obtain ⟨e, h⟩ := h
  subst e
  cases r
  exact assignInOrder_nil ⟨σ, H, I, h⟩
theorem pgs_cons {e : Expr} {es : List Expr} {t : TG} {u : TGs} (h1 : PG X e t) (h2 : PGs X es u)
    (hs : (assignEach (e :: es) X.env).map (·.2) = assign e X.env :: (assignEach es X.env).map (·.2) := by rfl) : PGs X (e :: es) (gCons t u) := by
  intro pins s σ H vs us Q I r h
  obtain ⟨v, vr, e1, h⟩ := h
  subst e1
  cases r with
  | cons r rr =>
    rw [hs]
    refine assignInOrder_cons (thn (h1 pins s σ H _ _ _ I r h) fun _ s1 ⟨σ1, H1, I1, q1⟩ => ?_)
    exact h2 pins s1 σ1 H1 _ _ Q I1 rr q1
def gTup (K : PySem.W.Frag) (n : Nat) (t : TGs) : TG := fun v σ H Q => ∃ a xs, v = .ref a /\ SqT K H a xs /\ xs.length = n /\ t xs σ H Q
theorem pg_tup {es : List Expr} {k : Nat} {t : TGs} {n : Nat} (hc : X.calm = true) (h : PGs X es t)
    (hn : (assignEach es X.env).length = n := by rfl) (hst : (assignEach es X.env).findIdx? (·.1) = none := by rfl) : PG X (.Tuple es k pos) (gTup X.K n t) := by
  intro pins s σ H v u Q I r hw
  obtain ⟨a, xs, e1, hq, hl, hw⟩ := hw
  subst e1
  cases r
  obtain ⟨its, rv, ht, hz⟩ := I.tuple hq
  refine assign_Tuple_tuple (I.ok.hd hc) ht (by simp [hn, <- hl, rv.length]) hst fun h' hx => ?_
  have I1 : Inv X pins σ H { s with heap := h' } := I.kept (t' := s.toks) fun b o e => hx b o (Nat.ne_of_lt (Heap.lt_size e)) e
  exact h pins _ σ H xs _ Q I1 (by simpa using rv) hw
def gSub (to ti : TE) (t : TSet) : TG := fun v σ H Q => to σ H fun o H1 => ti σ H1 fun i H2 => t o i v H2 fun H3 => Q σ H3
theorem pg_sub {o i : Expr} {to ti : TE} {t : TSet} (ho : PE X o to) (hi : PE X i ti) (hs : PSet X t)
    (ha : ∀ v, assign (.Subscript o i pos) X.env v = (do
      let ov <- holding [v] (eval o X.env)
      let iv <- holding [v, ov] (eval i X.env)
      standAt pos
      holding [v, ov, iv] (setItem ov iv v)
      release [v, ov, iv] []) := by intro _; rfl) : PG X (.Subscript o i pos) (gSub to ti t) := by
  intro pins s σ H v u Q I r h
  rw [ha]
  refine wpAny_bind (wpAny_holding (thn (ho pins s σ H _ I h) fun ov s1 ⟨x, H1, I1, r1, q1⟩ => ?_))
  refine wpAny_bind (wpAny_holding (thn (hi pins s1 σ H1 _ I1 q1) fun iv s2 ⟨y, H2, I2, r2, q2⟩ => ?_))
  refine wpAny_bind (wpAny_standAt (wpAny_bind (wpAny_holding (thn (hs pins s2 σ H2 x y v ov iv u _ I2 r1 r2 r q2) fun _ s3 ⟨H3, I3, q3⟩ => ?_))))
  exact wpAny_release ⟨σ, H3, I3, q3⟩
def tAsg (te : TE) (g : TG) : TS := fun D σ H => te σ H fun x H1 => g x σ H1 D.nx
theorem ps_asg {tg e : Expr} {te : TE} {g : TG} (he : PE X e te) (hg : PG X tg g) (hs : swapsWithSole [tg] e pos.line X.env = pure false := by rfl) (hw : swappedStores [tg] e X.env = pure none := by rfl)
    (h1 : (assignEach [tg] X.env).map (·.2) = [assign tg X.env] := by rfl) : PS X (.Assign [tg] e pos) (tAsg te g) := by
  intro pins s σ H D I h
  refine wpAny_Assign_stores (thn (he pins s σ H _ I h) fun v s1 ⟨x, H1, I1, r1, q1⟩ => ?_) hs hw
  rw [h1]
  exact thn (hg pins s1 σ H1 x v _ I1 r1 q1) fun _ s2 q => q
theorem ps_set {i : Nat} {x : Str} {e : Expr} {te : TE} {pos' : Pos} (hN : X.N.Nodup) (hi : X.N[i]? = some x) (hx : Loc X.env.scope x) (he : PE X e te) (hs : swapsWith e (some (.Name x pos')) pos.line X.env = pure false := by rfl) (hf : X.fn x = true \/ X.env.scope.names.lookup x = some .local := by first | exact .inl rfl | exact .inr rfl | assumption) :
    PS X (.Assign [.Name x pos'] e pos) (tAsg te (gName i)) := by
  intro pins s σ H D I h
  refine wpAny_Assign_Name (thn (he pins s σ H _ I h) fun v s1 ⟨y, H1, I1, r1, q1⟩ => ?_) hs
  exact store_ok I1 hN hi hx r1 (fun s2 I2 => ⟨_, H1, I2, q1⟩) hf
def tPar (i j : Nat) (ta : TA) : TS := fun D σ H => ta σ H fun vs H1 => ∃ v w, vs = [v, w] /\ D.nx ((σ.set i (some v)).set j (some w)) H1
theorem ps_par {i j : Nat} {x y : Str} {a b : Expr} {ta : TA} {px py pt : Pos} {kt k2 pt2} (hc : X.calm = true) (hN : X.N.Nodup) (hi : X.N[i]? = some x) (hj : X.N[j]? = some y) (hij : i ≠ j)
    (hx : X.env.scope.names.lookup x = some .local) (hy : X.env.scope.names.lookup y = some .local) (ha : PA X [a, b] ta)
    (hw : swappedStores [.Tuple [.Name x px, .Name y py] kt pt] (.Tuple [a, b] k2 pt2) X.env = pure (some [x, y]))
    (hs : swapsWithSole [.Tuple [.Name x px, .Name y py] kt pt] (.Tuple [a, b] k2 pt2) pos.line X.env = pure false := by rfl) :
    PS X (.Assign [.Tuple [.Name x px, .Name y py] kt pt] (.Tuple [a, b] k2 pt2) pos) (tPar i j ta) := by
  intro pins s σ H D I h
  rw [exec_Assign_arm]
  refine wpAny_bind (wpAny_standAt ?_)
  rw [hs]
  refine wpAny_bind (wpAny_pure ?_)
  rw [if_neg (by decide)]
  refine wpAny_bind (Tuple_ (thn (ha _ pins s σ H _ I h) fun us s1 ⟨vs, H1, I1, r1, q1⟩ => ?_))
  obtain ⟨v, w, e1, q1⟩ := q1
  subst e1
  obtain ⟨u1, u2, rfl, rv, rw'⟩ : ∃ u1 u2, us = [u1, u2] /\ RelV v u1 /\ RelV w u2 := by
    cases r1 with
    | cons p q =>
      cases q with
      | cons p' q' =>
        cases q'
        exact ⟨_, _, rfl, p, p'⟩
  refine wpAny_newObj_type ?_ (by show 2 <= sizeLine; decide)
  have I2 : Inv X pins σ H1 { s1 with heap := s1.heap.push { cls := .type "tuple", data := .seq [u1, u2].toArray } } := I1.kept (t' := s1.toks) fun b o e => Heap.get?_push_of_some _ e
  rw [hw]
  refine wpAny_bind (wpAny_pure ?_)
  show wpAny (model X.prog X.w) X.A (do rule "assign.swapped-stores"; let items <- unpackItems (.ref s1.heap.objs.size) 2 none; assignInOrder [fun v => bindName X.env y v, fun v => bindName X.env x v] items.reverse; pure Flow.next) _ _ _
  refine wpAny_bind (wpAny_rule (wpAny_bind (unpackItems_tuple (items := #[u1, u2]) (I.ok.hd hc) (IsTup.new s1.heap _) fun h' hx' => ?_)))
  have I3 := I2.kept (h' := h') (t' := s1.toks) fun b o e => hx' b o (Nat.ne_of_lt (Heap.lt_size e)) e
  show wpAny _ _ (assignInOrder [fun v => bindName X.env y v, fun v => bindName X.env x v] [u2, u1] >>= fun _ => pure Flow.next) _ _ _
  refine wpAny_bind (assignInOrder_cons (wpAny_bindName (store_ok I3 hN hj (.inl hy) rw' (fun s2 I4 => ?_) (.inr hy))))
  refine assignInOrder_cons (wpAny_bindName (store_ok I4 hN hi (.inl hx) rv (fun s3 I5 => assignInOrder_nil (wpAny_pure ?_)) (.inr hx)))
  rw [List.set_comm _ _ (Ne.symm hij)] at I5
  exact ⟨_, H1, I5, q1⟩
def tAug (i : Nat) (te : TE) (ti : TIp) : TS := fun D σ H => ∃ x, σ[i]? = some (some x) /\ te σ H fun y H1 => ti x y H1 fun z H2 => D.nx (σ.set i (some z)) H2
theorem ps_aug {i : Nat} {x : Str} {e : Expr} {te : TE} {op : Operator} {ti : TIp} {pos' : Pos} (hN : X.N.Nodup) (hi : X.N[i]? = some x) (hx : Loc X.env.scope x) (he : PE X e te) (ho : PIp X op ti) (hf : X.fn x = true \/ X.env.scope.names.lookup x = some .local := by first | exact .inl rfl | exact .inr rfl | assumption) :
    PS X (.AugAssign (.Name x pos') op e pos) (tAug i te ti) := by
  intro pins s σ H D I h
  obtain ⟨v, e1, h⟩ := h
  obtain ⟨m, hn, hl⟩ := I.loc
  have vis : Vis X.env.scope x := by rcases hx with k | k; exact .inl k; exact .inr (.inl k)
  obtain ⟨u, r, l⟩ := hl i x v hi e1 vis
  refine wpAny_AugAssign_Name ?_
  have go : wpAny (model X.prog X.w) X.A (eval e X.env) (fun w s₂ => wpAny (model X.prog X.w) X.A (inplaceOp op u w) (fun r s₃ => wpAny (model X.prog X.w) X.A (storeName X.env x r) (fun _ => SP X pins D .next) X.xe s₃) X.xe s₂) X.xe s := by
    refine thn (he pins s σ H _ I h) fun w s1 ⟨y, H1, I1, r1, q1⟩ => ?_
    refine thn (ho pins s1 σ H1 v y u w _ I1 r r1 q1) fun z s2 ⟨zv, H2, I2, r2, q2⟩ => ?_
    exact store_ok I2 hN hi hx r2 (fun s3 I3 => ⟨_, H2, I3, q2⟩) hf
  rcases l with ⟨hk, hm⟩ | ⟨hk, c, hc, hcell⟩
  · exact wpAny_loadName_local I.ok.kind hk hn hm go
  · rcases hk with hk | hk
    · exact wpAny_loadName_cell I.ok.kind hk hc hcell go
    · rcases hx with k | k
      · have : X.env.scope.names.lookup x = some .free := hk
        rw [k] at this; cases this
      · have : X.env.scope.names.lookup x = some .free := hk
        rw [k] at this; cases this
def ipI (f : Int -> Int -> Int) : TIp := fun x y H Q => ∃ i j, x = .int i /\ y = .int j /\ Q (.int (f i j)) H
theorem ip_add : PIp X .Add (ipI fun i j => i + j) := by
  intro pins s σ H x y v u Q I r1 r2 h
  obtain ⟨i, j, e1, e2, q⟩ := h
  subst e1; subst e2
  obtain ⟨t, rfl⟩ := r1
  obtain ⟨t', rfl⟩ := r2
  exact iadd_int ⟨.int _, H, I.tok _, ⟨_, rfl⟩, q⟩
end
section
variable {X : Cx} {pos : Pos}
def tWhile (c : TT) (tb : TS) : TS := fun D σ H => ∃ W : Nat -> St -> Hp -> Prop, (∃ m, W m σ H) /\ ∀ m σ H, W m σ H ->
  c σ H fun b H1 => if b = true then ∃ N : St -> Hp -> Prop, (∀ σ' H', N σ' H' -> ∃ m', m' < m /\ W m' σ' H') /\ tb { D with nx := N, ct := N, bk := D.nx } σ H1 else D.nx σ H1
theorem ps_while {c : Expr} {body : List Stmt} {tc : TT} {tb : TS} (hp : PassesOwn (model X.prog X.w) X.A X.env X.xe) (hc : PT X c tc) (hb : PSs X body tb) : PS X (.While c body [] pos) (tWhile tc tb) := by
  intro pins s σ H D I h
  obtain ⟨W, ⟨m0, w0⟩, turn⟩ := h
  refine wpAny_While (codeAny_whileLoop (fun n s' => ∃ σ' H', Inv X pins σ' H' s' /\ W n σ' H') ?_ m0 ⟨σ, H, I, w0⟩)
  rintro n s1 ⟨σ1, H1, I1, w1⟩
  refine wpAny_passesOwn hp (thn (hc pins s1 σ1 H1 _ I1 (turn n σ1 H1 w1)) fun b s2 ⟨H2, I2, q2⟩ => ?_)
  cases b with
  | true =>
    obtain ⟨N, hN, q2⟩ := q2
    rw [if_pos rfl]
    refine wpAny_passesOwn hp (thn (hb pins s2 σ1 H2 _ I2 q2) fun f s3 q3 => ?_)
    cases f with
    | next =>
      obtain ⟨σ3, H3, I3, n3⟩ := q3
      obtain ⟨m', hm, w3⟩ := hN σ3 H3 n3
      exact ⟨m', hm, σ3, H3, I3, w3⟩
    | cont =>
      obtain ⟨σ3, H3, I3, n3⟩ := q3
      obtain ⟨m', hm, w3⟩ := hN σ3 H3 n3
      exact ⟨m', hm, σ3, H3, I3, w3⟩
    | brk => exact q3
    | ret v => exact q3
  | false =>
    rw [if_neg Bool.false_ne_true]
    exact wpAny_execs_nil ⟨σ1, H2, I2, q2⟩
end
structure It where
  go : Nat -> Hp -> Prop
  yld : Nat -> Hp -> V -> Hp -> Prop
  stop : Nat -> Hp -> Prop
def FpOk (X : Cx) (pins : List (Addr × Obj)) (H : Hp) (b : Addr) : Prop :=
  H b = none /\ b ≠ X.env.locals /\ b ∉ X.fs /\ (b ∈ X.ex \/ X.s₀.heap.objs.size <= b) /\ (∀ x c, X.env.cells.lookup x = some c -> c ≠ b) /\ ∀ p ∈ X.pn ++ pins, p.1 ≠ b
theorem Inv.fpOk {X : Cx} {pins : List (Addr × Obj)} {σ : St} {H H' : Hp} {s : Shared} {b : Addr} (I : Inv X pins σ H s) (hb : s.heap.objs.size <= b) (hn : H' b = none) : FpOk X pins H' b := by
  refine ⟨hn, Nat.ne_of_gt (Nat.lt_of_lt_of_le I.lt hb), I.nofs hb, .inr (Nat.le_trans I.sz hb), fun x c e z => ?_, fun p hp z => ?_⟩
  · obtain ⟨v, q⟩ := I.cell x c e
    exact absurd (Nat.lt_of_lt_of_le q.lt (by rw [z]; exact hb)) (Nat.lt_irrefl _)
  · exact absurd (Nat.lt_of_lt_of_le (Heap.lt_size (I.pin p hp).1) (by rw [z]; exact hb)) (Nat.lt_irrefl _)
structure Turn (P : Program) (w : World) (K : PySem.W.Frag) (tg : Expr) (J : It) (fp : List Addr) (it : Addr) (tn : Nat -> Heap -> Prop) : Prop where
  mem : it ∈ fp
  obj : ∀ i h, tn i h -> ∀ b ∈ fp, ∃ o, h.get? b = some o /\ ∀ v, o.data ≠ .cell v
  keep : ∀ i h h', tn i h -> (∀ b ∈ fp, ∀ o, h.get? b = some o -> h'.get? b = some o) -> tn i h'
  item : ∀ (X : Cx), X.prog = P -> X.w = w -> X.K = K -> X.calm = true -> ∀ (i : Nat) (pins : List (Addr × Obj)) (s : Shared) (σ : St) (H : Hp) (E : Value -> Shared -> Prop), Inv X pins σ H s -> (∀ b ∈ fp, FpOk X pins H b) -> tn i s.heap -> J.go i H ->
    wpAny (model P w) X.A (pyNext (.ref it)) (fun r s1 => ∃ u, r = some u /\
      wpAny (model P w) X.A (letOwnedTupleGo tg (.ref it) u) (fun _ s2 => ∃ x H', Inv X pins σ H' s2 /\ RelV x u /\ J.yld i H x H' /\ tn (i + 1) s2.heap /\ ∀ b ∈ fp, H' b = none) E s1) E s
  done : ∀ (X : Cx), X.prog = P -> X.w = w -> X.K = K -> X.calm = true -> ∀ (i : Nat) (pins : List (Addr × Obj)) (s : Shared) (σ : St) (H : Hp) (E : Value -> Shared -> Prop), Inv X pins σ H s -> (∀ b ∈ fp, FpOk X pins H b) -> tn i s.heap -> J.stop i H ->
    wpAny (model P w) X.A (pyNext (.ref it)) (fun r s1 => r = none /\ Inv X pins σ H s1) E s
  self : ∀ (A : Around) (i : Nat) (s : Shared) (Q : Value -> Shared -> Prop) (E : Value -> Shared -> Prop), tn i s.heap -> Q (.ref it) s -> wpAny (model P w) A (pyIter (.ref it)) Q E s
abbrev TI := St -> Hp -> (It -> Hp -> Prop) -> Prop
def PIE (X : Cx) (pins : List (Addr × Obj)) (σ : St) (tg : Expr) (R : It -> Hp -> Prop) (itv : Value) (s2 : Shared) : Prop :=
  ∃ (it : Addr) (fp : List Addr) (tn : Nat -> Heap -> Prop) (J : It) (H' : Hp), itv = .ref it /\ Inv X pins σ H' s2 /\ Turn X.prog X.w X.K tg J fp it tn /\ tn 0 s2.heap /\ (∀ b ∈ fp, FpOk X pins H' b) /\ R J H'
def PI (X : Cx) (tg iter : Expr) (wi : TI) : Prop :=
  ∀ (pins : List (Addr × Obj)) (s : Shared) (σ : St) (H : Hp) (R : It -> Hp -> Prop), Inv X pins σ H s -> wi σ H R ->
    wpAny (model X.prog X.w) X.A (eval iter X.env) (fun v s1 => wpAny (model X.prog X.w) X.A (pyIter v) (PIE X pins σ tg R) X.xe s1) X.xe s
theorem go_of {M : Model} {A : Around} {E : Value -> Shared -> Prop} {s : Shared} {tg : Expr} {it : Addr} {u : Value} {o : Obj} {n : String} {vs : Array Value} {Q : Unit -> Shared -> Prop} (ho : s.heap.get? it = some o) (hc : o.cls = .type n) (hd : o.data = .fields vs)
    (hn : ["enumerate", "zip", "dict_itemiterator", "dict_reverseitemiterator", "odict_iterator", "itertools.zip_longest", "itertools.pairwise"].contains n = false) (hQ : Q () s) : wpAny M A (letOwnedTupleGo tg (.ref it) u) Q E s := by
  unfold letOwnedTupleGo
  cases tg <;> first
    | exact wpAny_pure hQ
    | (cases u <;> first
        | exact wpAny_pure hQ
        | (refine wpAny_bind (wpAny_load ho ?_)
           rw [hc, hd]
           show wpAny M A (if (["enumerate", "zip", "dict_itemiterator", "dict_reverseitemiterator", "odict_iterator", "itertools.zip_longest", "itertools.pairwise"].contains n && vs[0]? == some (rawInt _)) = true then _ else _) Q E s
           rw [if_neg (by intro h; rw [hn, Bool.false_and] at h; cases h)]
           exact wpAny_pure hQ))
def Itl (K : PySem.W.Frag) (a : Addr) : It :=
  ⟨fun i H => ∃ xs x, SqL K H a xs /\ xs[i]? = some x, fun i H x H' => H' = H /\ ∀ xs, SqL K H a xs -> xs[i]? = some x, fun i H => ∃ xs, SqL K H a xs /\ xs.length <= i⟩
def Itt (K : PySem.W.Frag) (a : Addr) : It :=
  ⟨fun i H => ∃ xs x, SqT K H a xs /\ xs[i]? = some x, fun i H x H' => H' = H /\ ∀ xs, SqT K H a xs -> xs[i]? = some x, fun i H => ∃ xs, SqT K H a xs /\ xs.length <= i⟩
def Itr (lo : Int) (n : Nat) : It := ⟨fun i _ => i < n, fun i H x H' => H' = H /\ x = .int (lo + i), fun i _ => n <= i⟩
theorem turn_list {P : Program} {w : World} {K : PySem.W.Frag} {tg : Expr} (a it : Addr) : Turn P w K tg (Itl K a) [it] it (fun i h => h.IsListIter it a i) where
  mem := by simp
  obj := fun i h st b hb => by
    have e : b = it := by simpa using hb
    subst e
    obtain ⟨o, e, c, d⟩ := st
    exact ⟨o, e, fun v z => by rw [d] at z; cases z⟩
  keep := fun i h h' st k => st.at fun o e => k it (by simp) o e
  item := by
    intro X hP hw hK hc i pins s σ H E I hf st hg
    subst hP hw hK
    obtain ⟨xs, x, hq, hx⟩ := hg
    obtain ⟨its, rv, p, hz⟩ := I.list hq
    obtain ⟨u, hu, ru⟩ := rv.get hx
    obtain ⟨f0, f1, f2, f3, f4, f5⟩ := hf it (by simp)
    refine wpAny_pyNext_list_item st p.isList (x := u) (by simpa using hu) fun h' st' sb => ?_
    have I1 : Inv X pins σ H { s with heap := h' } := I.turned (t' := s.toks) (fun b o hb e => (sb.2 b hb).trans e) f0 f1 f3 f4 f5
    obtain ⟨o, e, c, d⟩ := id st'
    exact ⟨u, rfl, go_of (s := { s with heap := h' }) e c d (by decide) ⟨x, H, I1, ru, ⟨rfl, fun ys hy => by rw [I.list_inj hy hq]; exact hx⟩, st', fun b hb => (hf b hb).1⟩⟩
  done := by
    intro X hP hw hK hc i pins s σ H E I hf st hg
    subst hP hw hK
    obtain ⟨xs, hq, hx⟩ := hg
    obtain ⟨its, rv, p, hz⟩ := I.list hq
    obtain ⟨f0, f1, f2, f3, f4, f5⟩ := hf it (by simp)
    have hl := rv.length
    exact wpAny_pyNext_list_end (I.ok.hd hc) st p.isList (by simp; omega) fun h' eb => ⟨rfl, I.turned (t' := s.toks) (fun b o hb e => eb b o hb e) f0 f1 f3 f4 f5⟩
  self := fun _ _ _ _ _ st h => wpAny_pyIter_listiter st h
theorem turn_tuple {P : Program} {w : World} {K : PySem.W.Frag} {tg : Expr} (a it : Addr) : Turn P w K tg (Itt K a) [it] it (fun i h => h.IsTupleIter it a i) where
  mem := by simp
  obj := fun i h st b hb => by
    have e : b = it := by simpa using hb
    subst e
    obtain ⟨o, e, c, d⟩ := st
    exact ⟨o, e, fun v z => by rw [d] at z; cases z⟩
  keep := fun i h h' st k => st.at fun o e => k it (by simp) o e
  item := by
    intro X hP hw hK hc i pins s σ H E I hf st hg
    subst hP hw hK
    obtain ⟨xs, x, hq, hx⟩ := hg
    obtain ⟨its, rv, p, hz⟩ := I.tuple hq
    obtain ⟨u, hu, ru⟩ := rv.get hx
    obtain ⟨f0, f1, f2, f3, f4, f5⟩ := hf it (by simp)
    refine wpAny_pyNext_tuple_item st (show s.heap.IsTuple a its.toArray from p) (x := u) (by simpa using hu) fun h' st' sb => ?_
    have I1 : Inv X pins σ H { s with heap := h' } := I.turned (t' := s.toks) (fun b o hb e => (sb.2 b hb).trans e) f0 f1 f3 f4 f5
    obtain ⟨o, e, c, d⟩ := id st'
    exact ⟨u, rfl, go_of (s := { s with heap := h' }) e c d (by decide) ⟨x, H, I1, ru, ⟨rfl, fun ys hy => by rw [I.tuple_inj hy hq]; exact hx⟩, st', fun b hb => (hf b hb).1⟩⟩
  done := by
    intro X hP hw hK hc i pins s σ H E I hf st hg
    subst hP hw hK
    obtain ⟨xs, hq, hx⟩ := hg
    obtain ⟨its, rv, p, hz⟩ := I.tuple hq
    obtain ⟨f0, f1, f2, f3, f4, f5⟩ := hf it (by simp)
    have hl := rv.length
    exact wpAny_pyNext_tuple_end (I.ok.hd hc) st (show s.heap.IsTuple a its.toArray from p) (by simp; omega) fun h' eb => ⟨rfl, I.turned (t' := s.toks) (fun b o hb e => eb b o hb e) f0 f1 f3 f4 f5⟩
  self := fun _ _ _ _ _ st h => wpAny_pyIter_tupleiter st h
theorem turn_range {P : Program} {w : World} {K : PySem.W.Frag} {tg : Expr} (it : Addr) (lo : Int) (n : Nat) : Turn P w K tg (Itr lo n) [it] it (fun i h => IsRangeIter h it (lo + (i : Nat) * 1) ((n : Int) - (i : Nat)) 1) where
  mem := by simp
  obj := fun i h st b hb => by
    have e : b = it := by simpa using hb
    subst e
    exact ⟨_, st, fun v z => by
      have z' : Data.fields _ = Data.cell v := z
      cases z'⟩
  keep := fun i h h' st k => k it (by simp) _ st
  item := by
    intro X hP hw hK hc i pins s σ H E I hf st hg
    subst hP hw hK
    obtain ⟨f0, f1, f2, f3, f4, f5⟩ := hf it (by simp)
    have W := Walks.range (prog := X.prog) (w := X.w) (I.ok.hd hc) it lo 1 n
    refine W.item i s _ _ hg st fun v h' tk hv st' kk => ?_
    obtain ⟨t, rfl⟩ := hv
    have I1 : Inv X pins σ H { s with heap := h', toks := tk } := I.turned (fun b o hb e => kk b o (by simpa using hb) e) f0 f1 f3 f4 f5
    refine ⟨_, rfl, go_of (s := { s with heap := h', toks := tk }) (n := "range_iterator") st' rfl rfl (by decide) ⟨.int (lo + i), H, I1, ⟨t, ?_⟩, ⟨rfl, rfl⟩, st', fun b hb => (hf b hb).1⟩⟩
    rw [Int.mul_one]
  done := by
    intro X hP hw hK hc i pins s σ H E I hf st hg
    subst hP hw hK
    obtain ⟨f0, f1, f2, f3, f4, f5⟩ := hf it (by simp)
    exact wpAny_pyNext_range_end (I.ok.hd hc) st (by have : n <= i := hg; omega) fun h' eb => ⟨rfl, I.turned (t' := s.toks) (fun b o hb e => eb b o hb e) f0 f1 f3 f4 f5⟩
  self := fun _ _ _ _ _ st h => wpAny_pyIter_rangeiter st h
end L2
namespace L2
open PySem PySem.Spec PyProof.Rows
section
variable {X : Cx} {tg : Expr}
theorem range_it {pins : List (Addr × Obj)} {σ : St} {H : Hp} {s : Shared} {R : It -> Hp -> Prop} {E : Value -> Shared -> Prop} {lo hi : Int} {t u v : Tok} {tk : Nat} (I : Inv X pins σ H s) (h1 : -(2 ^ 62) <= lo) (h2 : lo < 2 ^ 62) (h3 : -(2 ^ 62) <= hi) (h4 : hi < 2 ^ 62)
    (q : R (Itr lo (hi - lo).toNat) H) : wpAny (model X.prog X.w) X.A (pyIter (.ref s.heap.objs.size)) (PIE X pins σ tg R) E { s with heap := s.heap.push { cls := .type "range", data := .fields #[.int lo t, .int hi u, .int 1 v] }, toks := tk } := by
  refine wpAny_pyIter_range (IsRange.new ..) (small_one h1 h2 h3 h4) ?_
  have I1 : Inv X pins σ H { s with heap := s.heap.push { cls := .type "range", data := .fields #[.int lo t, .int hi u, .int 1 v] }, toks := tk } := I.kept fun b o e => Heap.get?_push_of_some _ e
  refine ⟨(s.heap.push { cls := .type "range", data := .fields #[.int lo t, .int hi u, .int 1 v] }).objs.size, [(s.heap.push { cls := .type "range", data := .fields #[.int lo t, .int hi u, .int 1 v] }).objs.size], _, _, H, rfl,
    I1.kept (t' := tk) fun b o e => Heap.get?_push_of_some _ e, turn_range _ lo (hi - lo).toNat, ?_, fun b hb => ?_, q⟩
  · have e1 : lo + ((0 : Nat) : Int) * 1 = lo := by simp
    have e2 : (((hi - lo).toNat : Nat) : Int) - ((0 : Nat) : Int) = Builtin.Range.rangeSize lo hi 1 := by rw [rangeSize_one]; split <;> omega
    show IsRangeIter _ _ (lo + ((0 : Nat) : Int) * 1) ((((hi - lo).toNat : Nat) : Int) - ((0 : Nat) : Int)) 1
    rw [e1, e2]
    exact Heap.get?_push_size _ rfl
  · have e : b = (s.heap.push { cls := .type "range", data := .fields #[.int lo t, .int hi u, .int 1 v] }).objs.size := by simpa using hb
    subst e
    exact I1.fpOk (Nat.le_refl _) (I1.hok.fresh (Nat.le_refl _))
def iRng1 (ta : TA) : TI := fun σ H R => ta σ H fun vs H1 => ∃ j : Int, vs = [.int j] /\ -(2 ^ 62) <= j /\ j < 2 ^ 62 /\ R (Itr 0 j.toNat) H1
theorem pi_range1 {a : Expr} {ta : TA} {p pos : Pos} (hg : Gl X "range") (hm : X.mg "range" = none) (ha : PA X [a] ta) (hs : starEach [a] X.env = [(false, eval a X.env)] := by rfl) : PI X tg (.Call (.Name "range" p) [a] [] pos) (iRng1 ta) := by
  intro pins s σ H R I h
  refine Call_ (ld_blt I hg hm boot_range (PyProof.Rows.callWith_type1 (thn (ha pos pins s σ H _ I h) fun us s1 ⟨vs, H1, I1, r1, q1⟩ => ?_) hs rfl))
  obtain ⟨j, e, q1, q2, q⟩ := q1
  subst e
  cases r1 with
  | cons r rr =>
    cases rr
    obtain ⟨t, rfl⟩ := r
    exact call_range_1 (range_it I1 (by omega) (by omega) q1 q2 (by simpa using q))
def tFor (wi : TI) (g : TG) (tb : TS) : TS := fun D σ H => wi σ H fun J H1 => ∃ W : Nat -> Nat -> St -> Hp -> Prop, (∃ m, W 0 m σ H1) /\ ∀ i m σ H, W i m σ H ->
  (J.stop i H /\ D.nx σ H) \/ (J.go i H /\ ∃ N : St -> Hp -> Prop, (∀ σ' H', N σ' H' -> ∃ m', m' < m /\ W (i + 1) m' σ' H') /\ ∀ x H', J.yld i H x H' -> g x σ H' fun σ2 H2 => tb { D with nx := N, ct := N, bk := D.nx } σ2 H2)
def pinsAt (fp : List Addr) (h : Heap) : List (Addr × Obj) := fp.filterMap fun b => (h.get? b).map fun o => (b, o)
theorem mem_pinsAt {fp : List Addr} {h : Heap} {b : Addr} {o : Obj} (hb : b ∈ fp) (e : h.get? b = some o) : (b, o) ∈ pinsAt fp h := List.mem_filterMap.mpr ⟨b, hb, by rw [e]; rfl⟩
theorem of_pinsAt {fp : List Addr} {h : Heap} {p : Addr × Obj} (hp : p ∈ pinsAt fp h) : p.1 ∈ fp /\ h.get? p.1 = some p.2 := by
  obtain ⟨b, hb, e⟩ := List.mem_filterMap.mp hp
  cases q : h.get? b with
  | none => rw [q] at e; cases e
  | some o =>
    rw [q] at e
    have e' : (b, o) = p := Option.some.inj e
    subst e'
    exact ⟨hb, q⟩
theorem Inv.pinned {pins : List (Addr × Obj)} {σ : St} {H : Hp} {s : Shared} {fp : List Addr} (I : Inv X pins σ H s) (hf : ∀ b ∈ fp, FpOk X pins H b) (ho : ∀ b ∈ fp, ∃ o, s.heap.get? b = some o /\ ∀ v, o.data ≠ .cell v) : Inv X (pins ++ pinsAt fp s.heap) σ H s :=
  I.pins_of fun p hp => (List.mem_append.mp hp).elim (fun z => I.pin p (List.mem_append_right _ z)) fun z => by
    obtain ⟨hb, e⟩ := of_pinsAt z
    obtain ⟨f0, f1, f2, _⟩ := hf p.1 hb
    obtain ⟨o, e', d⟩ := ho p.1 hb
    rw [e] at e'; cases e'
    exact ⟨e, f0, f1, f2, d⟩
theorem Inv.unpinned {pins pl : List (Addr × Obj)} {σ : St} {H : Hp} {s : Shared} (I : Inv X (pins ++ pl) σ H s) : Inv X pins σ H s := I.pins_of fun p hp => I.pin p (List.mem_append_right _ (List.mem_append_left _ hp))
theorem ps_for {iter : Expr} {body : List Stmt} {wi : TI} {g : TG} {tb : TS} {pos : Pos} (hp : PassesOwn (model X.prog X.w) X.A X.env X.xe) (hc : X.calm = true) (hi : PI X tg iter wi) (hg : PG X tg g) (hb : PSs X body tb)
    (hs : ∀ x, foldedSetIterable iter X.env x = pure x := by intro _; rfl) : PS X (.For tg iter body [] pos) (tFor wi g tb) := by
  intro pins s σ H D I h
  refine wpAny_For (thn (hi pins s σ H _ I h) fun v s1 h1 => thn h1 fun itv s2 h2 => ?_) hs
  obtain ⟨it, fp, tn, J, H2, e, I2, T, st2, f2, W, ⟨m0, w0⟩, turn⟩ := h2
  subst e
  -- what stays true of the iterator's objects through the loop
  have stat : ∀ {H' : Hp}, (∀ b ∈ fp, H' b = none) -> ∀ b ∈ fp, FpOk X pins H' b := fun hn b hb => ⟨hn b hb, (f2 b hb).2⟩
  refine codeAny_forLoop_any (fun n s' => ∃ i σ' H', Inv X pins σ' H' s' /\ tn i s'.heap /\ (∀ b ∈ fp, H' b = none) /\ W i n σ' H') ?_ m0 ⟨0, σ, H2, I2, st2, fun b hb => (f2 b hb).1, w0⟩
  rintro n s3 ⟨i, σ3, H3, I3, st3, fr3, w3⟩
  rcases turn i n σ3 H3 w3 with ⟨stop, qn⟩ | ⟨go, N, hN, step⟩
  · refine wpAny_passesOwn hp (thn (T.done X rfl rfl rfl hc i pins s3 σ3 H3 X.xe I3 (stat fr3) st3 stop) fun r s4 ⟨hr, I4⟩ => ?_)
    subst hr
    exact wpAny_execs_nil ⟨σ3, H3, I4, qn⟩
  · refine wpAny_passesOwn hp (thn (T.item X rfl rfl rfl hc i pins s3 σ3 H3 X.xe I3 (stat fr3) st3 go) fun r s4 ⟨u, hr, h4⟩ => ?_)
    subst hr
    refine wpAny_passesOwn hp (thn h4 fun _ s5 ⟨x, H5, I5, r5, y5, st5, fr5⟩ => ?_)
    have I5' := I5.pinned (stat fr5) (T.obj _ _ st5)
    refine wpAny_passesOwn hp (thn (hg _ s5 σ3 H5 x u _ I5' r5 (step x H5 y5)) fun _ s6 ⟨σ6, H6, I6, q6⟩ => ?_)
    refine wpAny_passesOwn hp (thn (hb _ s6 σ6 H6 _ I6 q6) fun f s7 q7 => ?_)
    have again : ∀ {σ7 : St} {H7 : Hp}, Inv X (pins ++ pinsAt fp s5.heap) σ7 H7 s7 -> N σ7 H7 -> ∃ m, m < n /\ ∃ i σ' H', Inv X pins σ' H' s7 /\ tn i s7.heap /\ (∀ b ∈ fp, H' b = none) /\ W i m σ' H' := fun {σ7 H7} I7 n7 => by
      obtain ⟨m', hm, w7⟩ := hN σ7 H7 n7
      refine ⟨m', hm, i + 1, σ7, H7, I7.unpinned, T.keep _ _ _ st5 fun b hb o e => (I7.pin (b, o) (List.mem_append_right _ (List.mem_append_right _ (mem_pinsAt hb e)))).1, fun b hb => ?_, w7⟩
      obtain ⟨o, e, d⟩ := T.obj _ _ st5 b hb
      exact (I7.pin (b, o) (List.mem_append_right _ (List.mem_append_right _ (mem_pinsAt hb e)))).2.1
    cases f with
    | next => obtain ⟨σ7, H7, I7, n7⟩ := q7; exact again I7 n7
    | cont => obtain ⟨σ7, H7, I7, n7⟩ := q7; exact again I7 n7
    | brk => obtain ⟨σ7, H7, I7, q7⟩ := q7; exact ⟨σ7, H7, I7.unpinned, q7⟩
    | ret v => obtain ⟨x7, σ7, H7, I7, r7, q7⟩ := q7; exact ⟨x7, σ7, H7, I7.unpinned, r7, q7⟩
end
end L2
namespace L2
open PySem PySem.Spec PyProof.Rows
abbrev R2 := V -> V -> Hp -> VK -> Prop
def OpR (X : Cx) (f : Value -> Value -> Sem Value) (r : R2) : Prop :=
  ∀ (pins : List (Addr × Obj)) (s : Shared) (σ : St) (H : Hp) (x y : V) (v u : Value) (Q : VK), Inv X pins σ H s -> RelV x v -> RelV y u -> r x y H Q ->
    wpAny (model X.prog X.w) X.A (f v u) (EP X pins σ Q) X.xe s
def UnR (X : Cx) (f : Value -> Sem Value) (r : V -> Hp -> VK -> Prop) : Prop :=
  ∀ (pins : List (Addr × Obj)) (s : Shared) (σ : St) (H : Hp) (x : V) (v : Value) (Q : VK), Inv X pins σ H s -> RelV x v -> r x H Q ->
    wpAny (model X.prog X.w) X.A (f v) (EP X pins σ Q) X.xe s
def CallR (X : Cx) (f : Value) (r : List V -> Hp -> VK -> Prop) : Prop :=
  ∀ (pins : List (Addr × Obj)) (s : Shared) (σ : St) (H : Hp) (xs : List V) (us : List Value) (Q : VK), Inv X pins σ H s -> Vals xs us -> r xs H Q ->
    wpAny (model X.prog X.w) X.A (call f us) (EP X pins σ Q) X.xe s
def TruR (X : Cx) (r : V -> Hp -> (Bool -> Hp -> Prop) -> Prop) : Prop :=
  ∀ (pins : List (Addr × Obj)) (s : Shared) (σ : St) (H : Hp) (x : V) (v : Value) (Q : Bool -> Hp -> Prop), Inv X pins σ H s -> RelV x v -> r x H Q ->
    wpAny (model X.prog X.w) X.A (truthy v) (TP X pins σ Q) X.xe s
def tOp (r : R2) (ta tb : TE) : TE := fun σ H Q => ta σ H fun x H1 => tb σ H1 fun y H2 => r x y H2 Q
def tUn (r : V -> Hp -> VK -> Prop) (ta : TE) : TE := fun σ H Q => ta σ H fun x H1 => r x H1 Q
def rI (C : Int -> Int -> Prop) (g : Int -> Int -> V) : R2 := fun x y H Q => ∃ i j, x = .int i /\ y = .int j /\ C i j /\ Q (g i j) H
def rI0 (g : Int -> Int -> V) : R2 := fun x y H Q => ∃ i j, x = .int i /\ y = .int j /\ Q (g i j) H
def rU (g : Int -> V) : V -> Hp -> VK -> Prop := fun x H Q => ∃ i, x = .int i /\ Q (g i) H
section
variable {X : Cx} {a b c : Expr} {ta tb tc : TE} {pos : Pos}
theorem binT (ha : PE X a ta) (hb : PE X b tb) {pins : List (Addr × Obj)} {s : Shared} {σ : St} {H : Hp} {R : V -> V -> Hp -> Prop} (I : Inv X pins σ H s)
    (h : ta σ H fun x H1 => tb σ H1 fun y H2 => R x y H2) {Q : Value -> Shared -> Prop} {f : Value -> Value -> Sem Value}
    (hf : ∀ v u s2 x y H2, Inv X pins σ H2 s2 -> RelV x v -> RelV y u -> R x y H2 -> wpAny (model X.prog X.w) X.A (f v u) Q X.xe s2) :
    wpAny (model X.prog X.w) X.A (eval a X.env) (fun v s₁ => wpAny (model X.prog X.w) X.A (eval b X.env) (fun u s₂ => wpAny (model X.prog X.w) X.A (f v u) Q X.xe s₂) X.xe s₁) X.xe s := by
  refine thn (ha pins s σ H _ I h) fun v s1 ⟨x, H1, I1, r1, q1⟩ => ?_
  refine thn (hb pins s1 σ H1 _ I1 q1) fun u s2 ⟨y, H2, I2, r2, q2⟩ => ?_
  exact hf v u s2 x y H2 I2 r1 r2 q2
theorem pe_op {op : Operator} {r : R2} (ho : OpR X (binaryOp op) r) (ha : PE X a ta) (hb : PE X b tb) : PE X (.BinOp a op b pos) (tOp r ta tb) := by
  intro pins s σ H Q I h
  exact wpAny_BinOp (binT ha hb I h fun v u s2 x y H2 I2 rx ry q => ho pins s2 σ H2 x y v u Q I2 rx ry q)
theorem pe_un {op : UnaryOp} {r : V -> Hp -> VK -> Prop} (ho : UnR X (unaryOp op) r) (ha : PE X a ta) : PE X (.UnaryOp op a pos) (tUn r ta) := by
  intro pins s σ H Q I h
  exact UnaryOp_ (thn (ha pins s σ H _ I h) fun v s1 ⟨x, H1, I1, r1, q1⟩ => ho pins s1 σ H1 x v Q I1 r1 q1)
theorem opI {f : Value -> Value -> Sem Value} {C : Int -> Int -> Prop} {g : Int -> Int -> Int}
    (rule : ∀ (i j : Int) (t u : Tok) (s : Shared) (Q : Value -> Shared -> Prop) (E : Value -> Shared -> Prop), C i j -> Q (.int (g i j) s.toks) { s with toks := s.toks + 1 } -> wpAny (model X.prog X.w) X.A (f (.int i t) (.int j u)) Q E s) :
    OpR X f (rI C fun i j => .int (g i j)) := by
  intro pins s σ H x y v u Q I rx ry h
  obtain ⟨i, j, rfl, rfl, hc, q⟩ := h
  obtain ⟨t, rfl⟩ := rx
  obtain ⟨t', rfl⟩ := ry
  exact rule i j t t' s _ _ hc ⟨.int (g i j), H, I.tok _, ⟨_, rfl⟩, q⟩
theorem opI0 {f : Value -> Value -> Sem Value} {g : Int -> Int -> Int}
    (rule : ∀ (i j : Int) (t u : Tok) (s : Shared) (Q : Value -> Shared -> Prop) (E : Value -> Shared -> Prop), Q (.int (g i j) s.toks) { s with toks := s.toks + 1 } -> wpAny (model X.prog X.w) X.A (f (.int i t) (.int j u)) Q E s) :
    OpR X f (rI0 fun i j => .int (g i j)) := by
  intro pins s σ H x y v u Q I rx ry h
  obtain ⟨i, j, rfl, rfl, q⟩ := h
  obtain ⟨t, rfl⟩ := rx
  obtain ⟨t', rfl⟩ := ry
  exact rule i j t t' s _ _ ⟨.int (g i j), H, I.tok _, ⟨_, rfl⟩, q⟩
theorem opB0 {f : Value -> Value -> Sem Value} {g : Int -> Int -> Bool}
    (rule : ∀ (i j : Int) (t u : Tok) (s : Shared) (Q : Value -> Shared -> Prop) (E : Value -> Shared -> Prop), Q (.bool (g i j)) s -> wpAny (model X.prog X.w) X.A (f (.int i t) (.int j u)) Q E s) :
    OpR X f (rI0 fun i j => .bl (g i j)) := by
  intro pins s σ H x y v u Q I rx ry h
  obtain ⟨i, j, rfl, rfl, q⟩ := h
  obtain ⟨t, rfl⟩ := rx
  obtain ⟨t', rfl⟩ := ry
  exact rule i j t t' s _ _ ⟨.bl (g i j), H, I, rfl, q⟩
def CPow (i j : Int) : Prop := 0 <= j /\ j <= 1000000 /\ i.natAbs < 2 ^ 64
def CMul (i j : Int) : Prop := (-(2 ^ 64) < i /\ i < 2 ^ 64) \/ (-(2 ^ 64) < j /\ j < 2 ^ 64)
theorem CMul.ok {i j : Int} (h : CMul i j) : IntMulOk i j := by
  rcases h with ⟨h1, h2⟩ | ⟨h1, h2⟩
  · exact .of_left (intBits_le_64 h1 h2)
  · exact .of_right (intBits_le_64 h1 h2)
theorem op_add : OpR X (binaryOp .Add) (rI0 fun i j => .int (i + j)) := opI0 fun _ _ _ _ _ _ _ q => add_int q
theorem op_sub : OpR X (binaryOp .Sub) (rI0 fun i j => .int (i - j)) := opI0 fun _ _ _ _ _ _ _ q => sub_int q
theorem op_mul : OpR X (binaryOp .Mult) (rI CMul fun i j => .int (i * j)) := opI fun _ _ _ _ _ _ _ hc q => mul_int q hc.ok
theorem op_mod : OpR X (binaryOp .Mod) (rI (fun _ j => 0 < j) fun i j => .int (i % j)) := opI fun i j _ _ _ _ _ hc q => by
  have h1 : (0 : Int) < j := hc
  exact mod_int' (by omega) (by rw [Int.fmod_eq_emod_of_nonneg i (by omega)]; exact q)
theorem op_pow : OpR X (binaryOp .Pow) (rI CPow fun i j => .int (i ^ j.toNat)) := opI fun _ _ _ _ _ _ _ hc q => pow_int_small hc.1 hc.2.1 hc.2.2 q
theorem unI {f : Value -> Sem Value} {g : Int -> Int}
    (rule : ∀ (i : Int) (t : Tok) (s : Shared) (Q : Value -> Shared -> Prop) (E : Value -> Shared -> Prop), Q (.int (g i) s.toks) { s with toks := s.toks + 1 } -> wpAny (model X.prog X.w) X.A (f (.int i t)) Q E s) :
    UnR X f (rU fun i => .int (g i)) := by
  intro pins s σ H x v Q I rx h
  obtain ⟨i, rfl, q⟩ := h
  obtain ⟨t, rfl⟩ := rx
  exact rule i t s _ _ ⟨.int (g i), H, I.tok _, ⟨_, rfl⟩, q⟩
theorem un_neg : UnR X (unaryOp .USub) (rU fun i => .int (-i)) := unI fun _ _ _ _ _ q => neg_int q
theorem op_add_ib : OpR X (binaryOp .Add) (fun x y H Q => ∃ i k, x = .int i /\ y = .bl k /\ Q (.int (i + b2i k)) H) := by
  intro pins s σ H x y v u Q I rx ry h
  obtain ⟨i, k, rfl, rfl, q⟩ := h
  obtain ⟨t, rfl⟩ := rx
  cases ry
  exact add_int_bool ⟨.int (i + b2i k), H, I.tok _, ⟨_, rfl⟩, q⟩
end
section
variable {X : Cx} {a b c : Expr} {ta tb tc : TE} {pos : Pos}
theorem fin_bl {pins : List (Addr × Obj)} {σ : St} {H : Hp} {s : Shared} {Q : VK} {k k' : Bool} (I : Inv X pins σ H s) (q : Q (.bl k) H) (e : k = k') : EP X pins σ Q (.bool k') s := by
  subst e
  exact ⟨.bl k, H, I, rfl, q⟩
theorem op_lt : OpR X (compareOp .Lt) (rI0 fun i j => .bl (decide (i < j))) := opB0 fun _ _ _ _ _ _ _ q => lt_int q
theorem op_le : OpR X (compareOp .LtE) (rI0 fun i j => .bl (decide (i <= j))) := opB0 fun _ _ _ _ _ _ _ q => le_int q
theorem op_gt : OpR X (compareOp .Gt) (rI0 fun i j => .bl (decide (j < i))) := opB0 fun _ _ _ _ _ _ _ q => gt_int q
theorem op_ge : OpR X (compareOp .GtE) (rI0 fun i j => .bl (decide (j <= i))) := opB0 fun _ _ _ _ _ _ _ q => ge_int q
theorem op_lt_str : OpR X (compareOp .Lt) (fun x y H Q => ∃ i j, x = .str i /\ y = .str j /\ Q (.bl (decide (i.cps.toList < j.cps.toList))) H) := by
  intro pins s σ H x y v u Q I rx ry h
  obtain ⟨i, j, rfl, rfl, q⟩ := h
  obtain ⟨t, rfl⟩ := rx
  obtain ⟨t', rfl⟩ := ry
  exact lt_str (fin_bl I q rfl)
theorem op_in_str : OpR X (compareOp .In) (fun x y H Q => ∃ i j, x = .str i /\ y = .str j /\ Q (.bl (!(Builtin.Str.occurrences j i 0 j.length 1).isEmpty)) H) := by
  intro pins s σ H x y v u Q I rx ry h
  obtain ⟨i, j, rfl, rfl, q⟩ := h
  obtain ⟨t, rfl⟩ := rx
  obtain ⟨t', rfl⟩ := ry
  exact in_str (fin_bl I q rfl)
theorem op_isN : OpR X (compareOp .Is) (fun x y H Q => y = .non /\ Q (.bl (decide (x = .non))) H) := by
  intro pins s σ H x y v u Q I rx ry h
  obtain ⟨rfl, q⟩ := h
  cases ry
  refine is_none_gen (fin_bl I q ?_)
  cases x <;> first
    | (cases rx; rfl)
    | (obtain ⟨t, rfl⟩ := rx; rfl)
theorem op_notN : OpR X (compareOp .IsNot) (fun x y H Q => y = .non /\ Q (.bl (!decide (x = .non))) H) := by
  intro pins s σ H x y v u Q I rx ry h
  obtain ⟨rfl, q⟩ := h
  cases ry
  refine isnot_none_gen (fin_bl I q ?_)
  cases x <;> first
    | (cases rx; rfl)
    | (obtain ⟨t, rfl⟩ := rx; rfl)
theorem nomark (b : Expr) {op : CmpOp} (h : op ≠ .In := by decide) (h2 : op ≠ .NotIn := by decide) : behindInMarks op b = false := by
  have e1 : (op == CmpOp.In) = false := by cases op <;> first | rfl | exact absurd rfl h
  have e2 : (op == CmpOp.NotIn) = false := by cases op <;> first | rfl | exact absurd rfl h2
  cases b <;> simp [behindInMarks, e1, e2]
theorem pe_cmpR {op : CmpOp} {r : R2} (ho : OpR X (compareOp op) r) (ha : PE X a ta) (hb : PE X b tb) (hm : behindInMarks op b = false) : PE X (.Compare a [op] [b] pos) (tOp r ta tb) := by
  intro pins s σ H Q I h
  exact wpAny_Compare1 (binT ha hb I h fun v u s2 x y H2 I2 rx ry q => ho pins s2 σ H2 x y v u Q I2 rx ry q) hm
def tTest (t : TE) : TT := fun σ H Q => t σ H fun x H' => ∃ k, x = .bl k /\ Q k H'
theorem pt_cmpR {op : CmpOp} {r : R2} (ho : OpR X (compareOp op) r) (ha : PE X a ta) (hb : PE X b tb) (hm : behindInMarks op b = false) : PT X (.Compare a [op] [b] pos) (tTest (tOp r ta tb)) := by
  intro pins s σ H Q I h
  refine wpAny_isTrue_Compare1 (thn (ha pins s σ H _ I h) fun v s1 ⟨x, H1, I1, r1, q1⟩ => thn (hb pins s1 σ H1 _ I1 q1) fun u s2 ⟨y, H2, I2, r2, q2⟩ =>
    thn (ho pins s2 σ H2 x y v u _ I2 r1 r2 q2) fun c s3 ⟨z, H3, I3, r3, k, e, q3⟩ => ?_) hm
  subst e
  cases r3
  exact wpAny_truthy_bool ⟨H3, I3, q3⟩
def tChain (r r' : R2) (ta tb tc : TE) : TE := fun σ H Q => ta σ H fun x H1 => tb σ H1 fun y H2 => r x y H2 fun z H3 => ∃ k, z = .bl k /\
  (if k = true then tc σ H3 fun w' H4 => r' y w' H4 Q else Q (.bl false) H3)
theorem pe_chain {op op' : CmpOp} {r r' : R2} (ho : OpR X (compareOp op) r) (ho' : OpR X (compareOp op') r') (ha : PE X a ta) (hb : PE X b tb) (hc : PE X c tc)
    (hm : lastMarks [op, op'] [b, c] = false := by with_unfolding_all rfl) : PE X (.Compare a [op, op'] [b, c] pos) (tChain r r' ta tb tc) := by
  intro pins s σ H Q I h
  refine Compare_chain (thn (ha pins s σ H _ I h) fun v s1 ⟨x, H1, I1, r1, q1⟩ => chain_link (thn (hb pins s1 σ H1 _ I1 q1) fun u s2 ⟨y, H2, I2, r2, q2⟩ =>
    thn (ho pins s2 σ H2 x y v u _ I2 r1 r2 q2) fun d s3 ⟨z, H3, I3, r3, k, e, q3⟩ => ?_)) hm
  subst e
  cases r3
  refine wpAny_truthy_bool ?_
  cases k with
  | false => exact ite_ff ⟨.bl false, H3, I3, rfl, q3⟩
  | true => exact ite_tt (chain_last (thn (hc pins s3 σ H3 _ I3 q3) fun w' s4 ⟨z', H4, I4, r4, q4⟩ => ho' pins s4 σ H4 y z' u w' Q I4 r2 r4 q4))
def TruV (K : PySem.W.Frag) (x : V) (H : Hp) (k : Bool) : Prop :=
  match x with
  | .non => k = false
  | .bl b => k = b
  | .int i => k = (i != 0)
  | .str y => y.length <= sizeLine /\ k = ((y.length : Int) != 0)
  | .byt y => y.size <= sizeLine /\ k = ((y.size : Int) != 0)
  | .ref p => (∃ xs, SqL K H p xs /\ k = !xs.isEmpty) \/ (∃ xs, SqT K H p xs /\ k = !xs.isEmpty) \/ ∃ kvs, H p = some (.dK kvs) /\ k = !kvs.isEmpty
  | _ => False
theorem isEmpty_kv {κ : Type} {kvs : List (κ × V)} {vs : List (κ × Value)} (r : KV kvs vs) : (!vs.isEmpty) = !kvs.isEmpty := by
  cases r <;> rfl
theorem isEmpty_of {xs : List V} {its : List Value} (r : Vals xs its) : (!its.toArray.isEmpty) = !xs.isEmpty := by
  cases r <;> simp
theorem line63 : (sizeLine : Nat) < 2 ^ 63 := by rw [sizeLine_eq]; decide
theorem tru_ok : TruR X (fun x H Q => ∃ k, TruV X.K x H k /\ Q k H) := by
  intro pins s σ H x v Q I rx h
  obtain ⟨k, e, q⟩ := h
  have hl := line63
  have hs : sizeLine = 16777216 := sizeLine_eq
  cases x with
  | non =>
    cases rx
    have e' : k = false := e
    subst e'
    exact truthy_none ⟨H, I, q⟩
  | bl b =>
    cases rx
    have e' : k = b := e
    subst e'
    exact wpAny_truthy_bool ⟨H, I, q⟩
  | int i =>
    obtain ⟨t, rfl⟩ := rx
    have e' : k = (i != 0) := e
    subst e'
    exact PySem.P.truthy_int ⟨H, I, q⟩
  | str y =>
    obtain ⟨t, rfl⟩ := rx
    obtain ⟨hy, e'⟩ : y.length <= sizeLine /\ k = ((y.length : Int) != 0) := e
    subst e'
    exact PySem.P.truthy_str (by omega) ⟨H, I.tok _, q⟩
  | byt y =>
    obtain ⟨t, rfl⟩ := rx
    obtain ⟨hy, e'⟩ : y.size <= sizeLine /\ k = ((y.size : Int) != 0) := e
    subst e'
    exact PySem.W.truthy_bytes (by omega) ⟨H, I.tok _, q⟩
  | ref p =>
    cases rx
    have e' : (∃ xs, SqL X.K H p xs /\ k = !xs.isEmpty) \/ (∃ xs, SqT X.K H p xs /\ k = !xs.isEmpty) \/ ∃ kvs, H p = some (.dK kvs) /\ k = !kvs.isEmpty := e
    rcases e' with ⟨xs, hx, e'⟩ | ⟨xs, hx, e'⟩ | ⟨kvs, hx, e'⟩
    · subst e'
      obtain ⟨its, r, pl, hz⟩ := I.list hx
      have hlen := r.length
      exact wpAny_truthy_list pl.isList (by simp only [List.size_toArray]; omega) ⟨H, I.tok _, by rw [isEmpty_of r]; exact q⟩
    · subst e'
      obtain ⟨its, r, pl, hz⟩ := I.tuple hx
      have hlen := r.length
      exact truthy_tuple pl (by simp only [List.size_toArray]; omega) ⟨H, I.tok _, by rw [isEmpty_of r]; exact q⟩
    · subst e'
      obtain ⟨hz, hS, vs, r, m⟩ : kvs.length <= sizeLine /\ (p == sysModules) = false /\ ∃ vs, KV kvs vs /\ s.heap.DictOf (mixKind X.prog X.w) p vs := I.hok p _ hx
      have hlen : kvs.length = vs.length := Paired.length r
      exact wpAny_truthy_dict hS m (by omega) ⟨H, I.tok _, by rw [isEmpty_kv r]; exact q⟩
  | _ => exact (show False from e).elim
theorem pt_truth (ha : PE X a ta) (he : ∀ whole, isTrue a X.env whole = (do let v <- whole; standAt a.pos; holding [v] (truthy v))) :
    PT X a (fun σ H Q => ta σ H fun x H' => ∃ k, TruV X.K x H' k /\ Q k H') := by
  intro pins s σ H Q I h
  exact isTrue_plain (thn (ha pins s σ H _ I h) fun v s1 ⟨x, H1, I1, r1, q1⟩ => tru_ok pins s1 σ H1 x v Q I1 r1 q1) (he _)
theorem op_add_str : OpR X (binaryOp .Add) (fun x y H Q => ∃ i j, x = .str i /\ y = .str j /\ i.length + j.length <= sizeLine /\ Q (.str (i ++ j)) H) := by
  intro pins s σ H x y v u Q I rx ry h
  obtain ⟨i, j, rfl, rfl, hz, q⟩ := h
  obtain ⟨t, rfl⟩ := rx
  obtain ⟨t', rfl⟩ := ry
  exact add_str (fun t' tk => ⟨.str (i ++ j), H, I.tok _, ⟨_, rfl⟩, q⟩) hz
theorem vals1 {x : V} {us : List Value} (r : Vals [x] us) : ∃ u, us = [u] /\ RelV x u := by
  cases r with
  | cons r1 r2 => cases r2; exact ⟨_, rfl, r1⟩
theorem vals2 {x y : V} {us : List Value} (r : Vals [x, y] us) : ∃ u w', us = [u, w'] /\ RelV x u /\ RelV y w' := by
  cases r with
  | cons r1 r2 =>
    cases r2 with
    | cons r3 r4 => cases r4; exact ⟨_, _, rfl, r1, r3⟩
theorem call_min2 (hc : X.calm = true) : CallR X (.builtin "min") (fun xs H Q => ∃ i j, xs = [.int i, .int j] /\ Q (.int (if j < i then j else i)) H) := by
  intro pins s σ H xs us Q I r h
  obtain ⟨i, j, rfl, q⟩ := h
  obtain ⟨u, w', rfl, ⟨t, rfl⟩, ⟨t', rfl⟩⟩ := vals2 r
  refine min_two_ints (I.ok.hd hc) fun h' tk k => ⟨_, H, I.kept k, ?_, q⟩
  by_cases hj : j < i
  · rw [if_pos hj, if_pos hj]; exact ⟨_, rfl⟩
  · rw [if_neg hj, if_neg hj]; exact ⟨_, rfl⟩
end
end L2
namespace L2
open PySem PySem.Spec PyProof.Rows
section
variable {prog : Program} {w : World} {A : Around} {E : Value -> Shared -> Prop} {s : Shared} {K : PySem.W.Frag} {x dx C f : Addr} {mA : Str -> Option Value} {name : Str} {v : Value}
end
section
variable {P : Program} {w : World} {H H' : Hp} {h h' : Heap} {a C dx : Addr} {fs fs' : List (Str × V)}
end
section
variable {X : Cx} {pins : List (Addr × Obj)} {σ : St} {H : Hp} {s : Shared} {a C dx : Addr} {fs : List (Str × V)} {f : Str} {v : V} {A : Around} {E : Value -> Shared -> Prop}
end
section
variable {X : Cx} {o e value : Expr} {f : Str} {pos pos' tpos : Pos} {ta tv : TE}
end
section
variable {X : Cx} {pins : List (Addr × Obj)} {σ : St} {H : Hp} {s : Shared} {A : Around} {E : Value -> Shared -> Prop} {Q : Value -> Shared -> Prop} {c : Value} {b : Bool}
end
end L2
namespace L2
open PySem PySem.Spec PyProof.Rows
structure Room (k : Nat) (A : Around) : Prop where
  hd : A.handled = none
  dp : A.depth + 3 * k + 5 < recursionLimit
  un : A.units + 16 * k + 200 < cLine
theorem Room.deeper {k : Nat} {A : Around} (r : Room (k + 1) A) (env : Env) : Room k (A.deeper env) :=
  ⟨r.hd, by have := r.dp; show A.depth + 1 + 3 * k + 5 < _; omega, by have := r.un; show A.units + 3 + 16 * k + 200 < _; omega⟩
theorem Room.depth {k : Nat} {A : Around} (r : Room k A) : A.depth < recursionLimit := by have := r.dp; omega
theorem Room.units {k : Nat} {A : Around} (r : Room k A) : A.units + 64 < cLine := by have := r.un; omega
def tNil : TA := fun _ H Q => Q [] H
def tCons (ta : TE) (tr : TA) : TA := fun σ H Q => ta σ H fun x H1 => tr σ H1 fun xs H2 => Q (x :: xs) H2
section
variable {X : Cx} {e : Expr} {es : List Expr} {te : TE} {t : TA} {pos : Pos}
theorem pa_nil : PA X [] tNil := fun _ _ _ _ H Q I h => Calls.spliced_nil ⟨[], H, I, .nil, h⟩
theorem pa_cons (ha : PE X e te) (hr : PA X es t) (hs : starEach (e :: es) X.env = (false, eval e X.env) :: starEach es X.env := by rfl) : PA X (e :: es) (tCons te t) := by
  intro pos pins s σ H Q I h
  rw [hs]
  show wpAny _ _ (spliced ((false, eval e X.env) :: backTo pos (starEach es X.env))) _ _ s
  refine Calls.spliced_cons (thn (ha pins s σ H _ I h) fun u s1 ⟨x, H1, I1, r1, q1⟩ => ?_)
  exact thn (hr pos pins s1 σ H1 _ I1 q1) fun us s2 ⟨xs, H2, I2, r2, q2⟩ => ⟨x :: xs, H2, I2, .cons r1 r2, q2⟩
def tTup (t : TA) : TE := fun σ H Q => t σ H fun xs H1 => xs.length <= sizeLine /\ ∀ p, H1 p = none -> Q (.ref p) (upd H1 p (.tup xs))
def tLst (t : TA) : TE := fun σ H Q => t σ H fun xs H1 => xs.length <= sizeLine /\ ∀ p, H1 p = none -> Q (.ref p) (upd H1 p (.lst xs))
theorem pe_tup {x1} (h : PA X es t) : PE X (.Tuple es x1 pos) (tTup t) := by
  intro pins s σ H Q I hq
  refine wpAny_Tuple_spliced (thn (h pos pins s σ H _ I hq) fun us s1 ⟨xs, H1, I1, r, z, q⟩ => ⟨by rw [<- r.length]; exact z, ?_⟩)
  have hf : H1 s1.heap.objs.size = none := I1.hok.fresh (Nat.le_refl _)
  refine ⟨.ref s1.heap.objs.size, upd H1 s1.heap.objs.size (.tup xs), I1.laid (t' := s1.toks) (fun b u e => Heap.get?_push_of_some _ e) (Nat.le_refl _) ?_, rfl, q _ hf⟩
  exact ⟨z, us, r, ⟨_, Heap.get?_push_size _ rfl, rfl, _, rfl⟩⟩
theorem pe_lst (h : PA X es t) : PE X (.List es pos) (tLst t) := by
  intro pins s σ H Q I hq
  refine wpAny_List_spliced (thn (h pos pins s σ H _ I hq) fun us s1 ⟨xs, H1, I1, r, z, q⟩ => ⟨by rw [<- r.length]; exact z, ?_⟩)
  have hf : H1 s1.heap.objs.size = none := I1.hok.fresh (Nat.le_refl _)
  refine ⟨.ref s1.heap.objs.size, upd H1 s1.heap.objs.size (.lst xs), I1.laid (t' := s1.toks) (fun b u e => Heap.get?_push_of_some _ e) (Nat.le_refl _) ?_, rfl, q _ hf⟩
  exact ⟨z, us, 0, r, Heap.get?_push_size _ rfl⟩
end
abbrev Sp := List V -> Hp -> VK -> XK -> Prop
abbrev CXT := List Env -> Hp -> Shared -> XK -> Value -> Shared -> Prop
structure Env0 (P : Program) (w : World) (K : PySem.W.Frag) (mg : Str -> Option Value) (base : Heap) (A : Around) (outer : List Env) (s : Shared) (H : Hp) : Prop where
  frames : A.frames = some outer
  mod : Mod K mg base
  bs : ∀ b o, base.get? b = some o -> s.heap.get? b = some o /\ H b = none
  bsz : base.objs.size <= s.heap.objs.size
  funs : s.heap.FunFrames base outer
  frf : ∀ b ∈ frs outer, H b = none
  hok : HOk P w H s.heap
  bare : AllBare s.gens
def CE (outer : List Env) (P : Program) (w : World) (H : Hp) (s : Shared) (Q : VK) (u : Value) (s' : Shared) : Prop :=
  ∃ v H', s'.os = s.os /\ AllBare s'.gens /\ Un (frs outer) [] H H' s.heap s'.heap /\ HOk P w H' s'.heap /\ RelV v u /\ Q v H'
def CR (CX : CXT) (outer : List Env) (P : Program) (w : World) (H : Hp) (s : Shared) (Q : VK) (E : XK) (r : Result) (s' : Shared) : Prop :=
  match r with
  | .ok (.ret u) => CE outer P w H s Q u s'
  | .ok _ => False
  | .error e => CX outer H s E e s'
structure FnOk (P : Program) (w : World) (K : PySem.W.Frag) (mg : Str -> Option Value) (base : Heap) (CX : CXT) (k : Nat) (f : Addr) (fd : FuncData) (ps : List Str) (sp : Sp) : Prop where
  len : ∀ vs H Q E, sp vs H Q E -> vs.length = ps.length
  run : ∀ (A : Around) (outer : List Env) (s : Shared) (H : Hp) (args : Args) (us : List Value) (vs : List V) (Q : VK) (E : XK), Room k A -> Env0 P w K mg base A outer s H -> BindsTo s fd args (ps.zip us) -> Vals vs us -> sp vs H Q E ->
    codeAny (model P w) A (.call (.ref f) args) (CR CX outer P w H s Q E) s
theorem FnOk.imp {P : Program} {w : World} {K : PySem.W.Frag} {mg : Str -> Option Value} {base : Heap} {CX : CXT} {k : Nat} {f : Addr} {fd : FuncData} {ps : List Str} {sp sp' : Sp} (F : FnOk P w K mg base CX k f fd ps sp)
    (h : ∀ vs H Q E, sp' vs H Q E -> sp vs H Q E) : FnOk P w K mg base CX k f fd ps sp' :=
  ⟨fun vs H Q E q => F.len vs H Q E (h _ _ _ _ q), fun A outer s H args us vs Q E hr he hb hv hs => F.run A outer s H args us vs Q E hr he hb hv (h _ _ _ _ hs)⟩
section
variable {X : Cx} {pins : List (Addr × Obj)} {σ : St} {H : Hp} {s s' : Shared}
theorem Inv.env0 (I : Inv X pins σ H s) : Env0 X.prog X.w X.K X.mg X.base X.A X.stack s H :=
  ⟨I.ok.frames, I.ok.mod, I.bs, Nat.le_trans I.ok.bsz I.sz, I.stack, I.stkFree, I.hok, I.bare⟩
theorem Inv.after {Q : VK} {u : Value} (I : Inv X pins σ H s) (h : CE X.stack X.prog X.w H s Q u s') : EP X pins σ Q u s' := by
  obtain ⟨v, H', os, bare, un, hok, r, q⟩ := h
  obtain ⟨hh, g, d, t, os'⟩ := s'
  obtain rfl : os' = s.os := os
  exact ⟨v, H', I.call (h' := hh) (g' := g) (d' := d) (t' := t) (ch := []) un hok bare (fun b z => absurd z (by simp)), r, q⟩
end
def Binds (K : PySem.W.Frag) (fd : FuncData) (ps : List Str) (ds : List Value) : Prop :=
  ∀ (s : Shared) (us : List Value), K.In s.heap -> (us ++ ds).length = ps.length -> BindsTo s fd ⟨us, []⟩ (ps.zip (us ++ ds))
theorem Binds.all {K : PySem.W.Frag} {fd : FuncData} {ps : List Str} (h : ∀ us : List Value, us.length = ps.length -> bindArgs fd ⟨us, []⟩ = pure (ps.zip us)) : Binds K fd ps [] := fun s us _ hl => by
  rw [List.append_nil] at hl ⊢
  exact .of_eq (h us hl)
def Passes (CX : CXT) (X : Cx) (E : XK) : Prop := ∀ (pins : List (Addr × Obj)) (σ : St) (H : Hp) (s : Shared) (e : Value) (s' : Shared), Inv X pins σ H s -> CX X.stack H s E e s' -> X.xe e s'
section
variable {X : Cx} {CX : CXT} {k : Nat} {f C : Addr} {fd : FuncData} {ps : List Str} {sp : Sp} {dvs : List V} {ds : List Value} {E : XK} {x m : Str} {p pos apos : Pos} {e o : Expr} {es : List Expr} {ta : TE} {t : TA}
end
def PK (X : Cx) (kws : List Keyword) (t : TA) : Prop :=
  ∀ (pos : Pos) (pins : List (Addr × Obj)) (s : Shared) (σ : St) (H : Hp) (Q : List V -> Hp -> Prop), Inv X pins σ H s -> t σ H Q -> wpAny (model X.prog X.w) X.A (evalAll ((backToKw pos (keywordEach kws X.env)).map (·.2))) (AP X pins σ Q) X.xe s
section
variable {X : Cx} {CX : CXT} {k : Nat} {f C : Addr} {fd : FuncData} {ps ks : List Str} {sp : Sp} {E : XK} {x m : Str} {p pos apos kpos : Pos} {e o : Expr} {es : List Expr} {kws : List Keyword} {te ta : TE} {t tk : TA} {nm : Option Str}
variable {g : List Value -> List Value -> List Value} {gV : List V -> List V -> List V}
end
structure FnScope (N P : List Str) (sc : Scope) : Prop where
  kind : sc.kind = .function
  co : sc.isCoroutine = false
  gen : sc.isGenerator = false
  nd : N.Nodup
  pre : N.take P.length = P
  par : ∀ x ∈ P, sc.names.lookup x = some .local \/ sc.names.lookup x = some .cell
  nofree : ∀ y ∈ sc.names, y.2 ≠ .free
theorem bindL_out {kindOf : Str -> Option NameKind} {x : Str} : ∀ {binds : List (Str × Value)} {m : Str -> Option Value}, (∀ v, (x, v) ∉ binds) -> bindL kindOf binds m x = m x
  | [], _, _ => rfl
  | (n, v) :: r, m, h => by
    unfold bindL
    rw [bindL_out fun w hw => h w (List.mem_cons_of_mem _ hw)]
    split
    · have : x ≠ n := by rintro rfl; exact h v List.mem_cons_self
      simp [this]
    · rfl
theorem bindC_out {kindOf : Str -> Option NameKind} {x : Str} : ∀ {binds : List (Str × Value)} {m : Str -> Option Value}, (∀ v, (x, v) ∉ binds) -> bindC kindOf binds m x = m x
  | [], _, _ => rfl
  | (n, v) :: r, m, h => by
    unfold bindC
    rw [bindC_out fun w hw => h w (List.mem_cons_of_mem _ hw)]
    split
    · rfl
    · have : x ≠ n := by rintro rfl; exact h v List.mem_cons_self
      simp [this]
theorem bindL_get {kindOf : Str -> Option NameKind} {x : Str} {v : Value} : ∀ {P : List Str} {vs : List Value} {i : Nat} {m : Str -> Option Value}, P.Nodup -> P[i]? = some x -> vs[i]? = some v -> kindOf x = some .local ->
    bindL kindOf (P.zip vs) m x = some v
  | [], _, _, _, _, h, _, _ => by simp at h
  | _ :: _, [], _, _, _, _, h, _ => by simp at h
  | p :: P, w :: vs, 0, m, nd, h1, h2, hk => by
    simp at h1 h2; subst h1; subst h2
    show bindL kindOf ((p, w) :: P.zip vs) m p = _
    unfold bindL
    rw [bindL_out fun v hv => (List.nodup_cons.mp nd).1 (List.of_mem_zip hv).1, if_pos hk]
    simp
  | p :: P, w :: vs, i + 1, m, nd, h1, h2, hk => by
    show bindL kindOf ((p, w) :: P.zip vs) m x = _
    unfold bindL
    exact bindL_get (i := i) (List.nodup_cons.mp nd).2 (by simpa using h1) (by simpa using h2) hk
theorem bindC_get {kindOf : Str -> Option NameKind} {x : Str} {v : Value} : ∀ {P : List Str} {vs : List Value} {i : Nat} {m : Str -> Option Value}, P.Nodup -> P[i]? = some x -> vs[i]? = some v -> kindOf x ≠ some .local ->
    bindC kindOf (P.zip vs) m x = some v
  | [], _, _, _, _, h, _, _ => by simp at h
  | _ :: _, [], _, _, _, _, h, _ => by simp at h
  | p :: P, w :: vs, 0, m, nd, h1, h2, hk => by
    simp at h1 h2; subst h1; subst h2
    show bindC kindOf ((p, w) :: P.zip vs) m p = _
    unfold bindC
    rw [bindC_out fun v hv => (List.nodup_cons.mp nd).1 (List.of_mem_zip hv).1, if_neg hk]
    simp
  | p :: P, w :: vs, i + 1, m, nd, h1, h2, hk => by
    show bindC kindOf ((p, w) :: P.zip vs) m x = _
    unfold bindC
    exact bindC_get (i := i) (List.nodup_cons.mp nd).2 (by simpa using h1) (by simpa using h2) hk
def start (N : List Str) (vs : List V) : St := vs.map some ++ List.replicate (N.length - vs.length) none
def cxOf (CX : CXT) (P : Program) (w : World) (K : PySem.W.Frag) (mg : Str -> Option Value) (base : Heap) (N : List Str) (qual : Str) (scope : Scope) (f : Addr) (cd : Value) (A : Around) (outer : List Env) (s : Shared) (H : Hp) (E : XK) : Cx where
  prog := P
  w := w
  K := K
  mg := mg
  base := base
  A := A.deeper (envOfC qual scope s.heap.objs.size f cd)
  N := N
  s₀ := s
  H₀ := H
  env := envOfC qual scope s.heap.objs.size f cd
  outer := outer
  stack := envOfC qual scope s.heap.objs.size f cd :: outer
  ex := []
  calm := true
  fn := fun _ => true
  pn := []
  xe := fun e s' => wpAny (model P w) (A.deeper (envOfC qual scope s.heap.objs.size f cd)) (leaving (envOfC qual scope s.heap.objs.size f cd) e) (fun _ s'' => CX outer H s E e s'') (fun e' s'' => CX outer H s E e' s'') s'
theorem cell_has {sc : Scope} {n : Nat} {x : Str} (h : sc.names.lookup x = some .cell) : ∃ c, (cellsFrom n sc.names []).lookup x = some c := by
  have q := PySem.W.cellsFrom_some sc.names n [] (.inl h)
  exact Option.isSome_iff_exists.mp q
theorem inv_start {CX : CXT} {P : Program} {w : World} {K : PySem.W.Frag} {mg : Str -> Option Value} {base : Heap} {N ps : List Str} {qual : Str} {scope : Scope} {f : Addr} {cd : Value} {A : Around} {outer : List Env} {s s1 : Shared} {H : Hp} {E : XK} {us : List Value} {vs : List V}
    (S : FnScope N ps scope) (hd : A.handled = none) (e0 : Env0 P w K mg base A outer s H) (hl : vs.length = ps.length) (r : Vals vs us)
    (x : InCallC s s.heap.objs.size (bindL (envOfC qual scope s.heap.objs.size f cd).kindOf (ps.zip us) fun _ => none) (cellsFrom (s.heap.objs.size + 1) scope.names []) (bindC (envOfC qual scope s.heap.objs.size f cd).kindOf (ps.zip us) fun _ => none) s1) :
    Inv (cxOf CX P w K mg base N qual scope f cd A outer s H E) [] (start N vs) H s1 := by
  have hpl : ps.length <= N.length := by have := congrArg List.length S.pre; rw [List.length_take] at this; omega
  obtain ⟨h1, tk, rfl, hk⟩ := x.done
  have noA : ∀ b : Addr, b ∉ (cxOf CX P w K mg base N qual scope f cd A outer s H E).ex := fun b z => absurd (show b ∈ ([] : List Addr) from z) (by simp)
  refine ⟨⟨e0.mod, S.kind, rfl, rfl, Nat.le_refl _, fun y z c h1 h2 => ?_, fun y hy => ?_, fun y c _ h => ?_, fun _ => hd, Around.frames_deeper e0.frames, .inr ⟨rfl, rfl⟩, fun b z => absurd z (noA b), e0.bs, e0.bsz, fun b _ _ => noA b, fun b z => absurd z (noA b), e0.funs, e0.frf⟩,
    rfl, e0.bare, Un.kept hk, ⟨_, x.toInCall.ns, fun i y v h1 h2 h3 => ?_⟩, fun y c h => ⟨_, x.cell y c h⟩, e0.hok.fresh (Nat.le_refl _), fun y c h => ?_, fun p hp => absurd (show p ∈ ([] : List (Addr × Obj)) from hp) (by simp), e0.hok.kept hk, ?_⟩
  · exact name_of_addr x.apart (PySem.mem_of_lookup h1) (PySem.mem_of_lookup h2)
  · have hy : scope.names.lookup y = some .cell \/ scope.names.lookup y = some .free := hy
    rcases hy with hy | hy
    · exact cell_has hy
    · exact absurd rfl (S.nofree _ (PySem.mem_of_lookup hy))
  · exact Nat.le_of_lt (x.above y c (PySem.mem_of_lookup h))
  · have hi : i < vs.length := by
      unfold start at h2
      by_cases hi : i < vs.length
      · exact hi
      · rw [List.getElem?_append_right (by simpa using hi)] at h2
        rw [List.getElem?_replicate] at h2
        split at h2 <;> cases h2
    have ha : vs[i]? = some v := by
      unfold start at h2
      rw [List.getElem?_append_left (by simpa using hi), List.getElem?_map] at h2
      cases e : vs[i]? with
      | none => rw [e] at h2; cases h2
      | some a => rw [e] at h2; cases h2; rfl
    obtain ⟨u, hu, rv⟩ := r.get ha
    have hp : ps[i]? = some y := by
      rw [<- S.pre, List.getElem?_take_of_lt (by omega)]; exact h1
    have ndP : ps.Nodup := by rw [<- S.pre]; exact S.nd.sublist (List.take_sublist _ _)
    refine ⟨u, rv, ?_⟩
    rcases S.par y (List.mem_of_getElem? hp) with k | k
    · exact .inl ⟨k, bindL_get ndP hp hu k⟩
    · obtain ⟨c, e⟩ := cell_has (n := s.heap.objs.size + 1) k
      refine .inr ⟨.inl k, c, e, ?_⟩
      have q := x.cell y c e
      rw [bindC_get ndP hp hu (by show scope.names.lookup y ≠ _; rw [k]; decide)] at q
      exact q
  · exact e0.hok.fresh (Nat.le_of_lt (x.above y c (PySem.mem_of_lookup h)))
  · unfold start
    show _ = N.length
    rw [List.length_append, List.length_map, List.length_replicate]
    omega
theorem fn_of {CX : CXT} {P : Program} {w : World} {K : PySem.W.Frag} {mg : Str -> Option Value} {base : Heap} {k : Nat} {f : Addr} {name qual : Str} {params : Arguments} {body : List Stmt} {scope : Scope} {dV kV doc pm cdv ct oc : Value} {an od : Option Addr}
    {osl : Array (Option Value)} {N ps : List Str} {sp : Sp} (lk : K.lookup f = some ⟨oc, od, .func (PySem.W.fnOf name qual params body scope dV kV doc pm an cdv ct), osl⟩) (hcd : PySem.W.codeIn K cdv qual = true) (S : FnScope N ps scope)
    (len : ∀ vs H Q E, sp vs H Q E -> vs.length = ps.length)
    (hbody : ∀ (A : Around) (outer : List Env) (s : Shared) (H : Hp) (vs : List V) (Q : VK) (E : XK), Room k (A.deeper (envOfC qual scope s.heap.objs.size f cdv)) -> sp vs H Q E ->
      ∃ t, PSs (cxOf CX P w K mg base N qual scope f cdv A outer s H E) body t /\ t { nx := fun _ H' => Q .non H', rt := Q } (start N vs) H) :
    FnOk P w K mg base CX (k + 1) f (PySem.W.fnOf name qual params body scope dV kV doc pm an cdv ct) ps sp := by
  refine ⟨len, fun A outer s H args us vs Q E hr e0 hb r hsp => ?_⟩
  have hl := len _ _ _ _ hsp
  have KX : K.In s.heap := e0.mod.kin.keeps fun b o e => (e0.bs b o e).1
  have lim : s.heap.NoLimit := e0.mod.nolimit.keeps fun b o e => (e0.bs b o e).1
  have hkind : ∀ y ∈ ps.zip us, scope.names.lookup y.1 = some .local \/ (scope.names.lookup y.1 = some .cell /\ ((cellsFrom (s.heap.objs.size + 1) scope.names []).lookup y.1).isSome = true) := fun ⟨n, v⟩ hy => by
    rcases S.par n (List.of_mem_zip hy).1 with q | q
    · exact .inl q
    · exact .inr ⟨q, PySem.W.cellsFrom_some _ _ _ (.inl q)⟩
  refine codeAny_call_function hr.depth (KX _ _ lk) rfl S.co S.gen rfl (PySem.W.codeRec_of KX hcd) (hb _ _ _ _ ?_)
  refine wpAny_newFunctionEnv_cells S.kind hkind fun env he s1 x => ?_
  subst he
  refine ⟨lim.keeps x.toInCall.keep, codeAny_func ?_⟩
  obtain ⟨t, ht, hq⟩ := hbody A outer s H vs Q E (hr.deeper _) hsp
  have I : Inv (cxOf CX P w K mg base N qual scope f cdv A outer s H E) [] (start N vs) H s1 := inv_start S hr.hd e0 hl r x
  refine wpAny_mono (ht [] s1 (start N vs) H _ I hq) (fun fl s' hs => ?_) fun e s' hs => hs
  have fin : ∀ {σ' : St} {H' : Hp} {v : V} {u : Value}, Inv (cxOf CX P w K mg base N qual scope f cdv A outer s H E) [] σ' H' s' -> RelV v u -> Q v H' -> CE outer P w H s Q u s' :=
    fun {σ' H' v u} J rv q => ⟨v, H', J.os, J.bare, J.base, J.hok, rv, q⟩
  cases fl with
  | ret u =>
    obtain ⟨v, σ', H', J, rv, q⟩ := hs
    exact fin J rv q
  | next =>
    obtain ⟨σ', H', J, q⟩ := hs
    exact fin (v := V.non) (u := Value.none) J rfl q
  | brk =>
    obtain ⟨_, _, _, q⟩ := hs
    exact False.elim q
  | cont =>
    obtain ⟨_, _, _, q⟩ := hs
    exact False.elim q
end L2
namespace L2
open PySem PySem.Spec PyProof.Rows
section
variable {X : Cx} {x : Str} {p pos : Pos} {e : Expr} {es : List Expr} {t : TA} {id T : String} {r : List V -> Hp -> VK -> Prop}
def tCB (r : List V -> Hp -> VK -> Prop) (t : TA) : TE := fun σ H Q => t σ H fun vs H1 => r vs H1 Q
theorem pe_callB (hc : CallR X (.builtin id) r) (hg : Gl X x) (hm : X.mg x = none) (hv : bootBuiltins x = some (.builtin id)) (ha : PA X (e :: es) t) (hn : x ≠ "__name__" := by decide) (hdb : (x == ("__debug__" : Str)) = false := by decide)
    (he : starEach (e :: es) X.env = (false, eval e X.env) :: starEach es X.env := by rfl) (hpl : (backTo pos (starEach es X.env)).any (·.1) = false := by rfl) : PE X (.Call (.Name x p) (e :: es) [] pos) (tCB r t) := by
  intro pins s σ H Q I h
  refine wpAny_Call_Name_kw (ld_blt I hg hm hv ?_ hn hdb)
  exact PyProof.Rows.callWith_builtin1 (thn (ha pos pins s σ H _ I h) fun us s1 ⟨vs, H1, I1, r1, q1⟩ => hc pins s1 σ H1 vs us Q I1 r1 q1) he hpl
theorem pe_callTy (hc : CallR X (.type T) r) (hg : Gl X x) (hm : X.mg x = none) (hv : bootBuiltins x = some (.type T)) (ha : PA X (e :: es) t) (hn : x ≠ "__name__" := by decide) (hdb : (x == ("__debug__" : Str)) = false := by decide)
    (he : starEach (e :: es) X.env = (false, eval e X.env) :: starEach es X.env := by rfl) (hpl : (backTo pos (starEach es X.env)).any (·.1) = false := by rfl) : PE X (.Call (.Name x p) (e :: es) [] pos) (tCB r t) := by
  intro pins s σ H Q I h
  refine wpAny_Call_Name_kw (ld_blt I hg hm hv ?_ hn hdb)
  exact PyProof.Rows.callWith_type1 (thn (ha pos pins s σ H _ I h) fun us s1 ⟨vs, H1, I1, r1, q1⟩ => hc pins s1 σ H1 vs us Q I1 r1 q1) he hpl
end
end L2
namespace HT
open PySem PyProof.Rows
section
open PySem.SeqAt
open PySem.AutoSeq1 (wpAny_loadPart')
open PySem.MeetsSeq PySem.MeetsSeq2 PySem.MeetsSeq3
end
section
variable {prog : Program} {w : World} {A : Around} {E : Value -> Shared -> Prop} {s : Shared}
theorem cat_tup {t b : Addr} {vs ws : List Value} {Q : Value -> Shared -> Prop} (ht : IsTup s.heap t vs.toArray) (hb : IsTup s.heap b ws.toArray) (hv : vs ≠ [])
    (h1 : ws = [] -> Q (.ref t) s) (h2 : ws ≠ [] -> Q (.ref s.heap.objs.size) { s with heap := s.heap.push { cls := .type "tuple", data := .seq (vs ++ ws).toArray } })
    (hsz : vs.length + ws.length <= sizeLine) : wpAny (model prog w) A (binaryOp .Add (.ref t) (.ref b)) Q E s := by
  obtain ⟨⟨cls, dd, data, sl⟩, ho, hc, n, hd⟩ := id ht
  obtain ⟨⟨cls2, dd2, data2, sl2⟩, ho2, hc2, n2, hd2⟩ := id hb
  simp only at hc hd hc2 hd2
  subst hc hd hc2 hd2
  have e : vs.toArray ++ ws.toArray = (vs ++ ws).toArray := by simp
  by_cases hw : ws = []
  · exact concat_meets ⟨_, ho, rfl⟩ ⟨_, ho2, rfl⟩ noFill_tuple_add seq_tuple_add PySem.F.slot_tuple_add PySem.F.entry_tuple_add (PySem.F.args_tuple_add_2 _ _)
      (tuple_addW1 t b vs.toArray ws.toArray n n2 dd dd2 sl sl2 (by simpa using hv) (by simp [hw])) ⟨ho, ho2, h1 hw⟩
  · refine concat_meets ⟨_, ho, rfl⟩ ⟨_, ho2, rfl⟩ noFill_tuple_add seq_tuple_add PySem.F.slot_tuple_add PySem.F.entry_tuple_add (PySem.F.args_tuple_add_2 _ _)
      (tuple_addW2 t b vs.toArray ws.toArray n n2 dd dd2 sl sl2 (by simpa using hv) (by simpa using hw) (by rw [List.size_toArray, List.size_toArray]; exact hsz)) ⟨ho, ho2, ?_⟩
    rw [e]
    exact h2 hw
def sIx (n d : Nat) : Option Int -> Nat
  | none => d
  | some v => if v < 0 then (v + (n : Int)).toNat else min v.toNat n
theorem sIx_le (n d : Nat) (hd : d <= n) (o : Option Int) : sIx n d o <= n := by
  cases o with
  | none => exact hd
  | some v =>
    show (if v < 0 then (v + (n : Int)).toNat else min v.toNat n) <= n
    by_cases hv : v < 0
    · rw [if_pos hv]; omega
    · rw [if_neg hv]; exact Nat.min_le_right _ _
theorem clip_eq (v : Int) (n d : Nat) : (if v < 0 then max (v + (n : Int)) 0 else min v (n : Int)) = ((sIx n d (some v) : Nat) : Int) := by
  show (if v < 0 then max (v + (n : Int)) 0 else min v (n : Int)) = (((if v < 0 then (v + (n : Int)).toNat else min v.toNat n) : Nat) : Int)
  by_cases hv : v < 0
  · simp only [if_pos hv]; omega
  · simp only [if_neg hv]; omega
theorem adjust_gen (lo hi : Option Int) (n : Nat) : Builtin.Slice.sliceAdjust lo hi 1 (n : Int) = (((sIx n 0 lo : Nat) : Int), ((sIx n n hi : Nat) : Int)) := by
  have h1 : ¬ ((1 : Int) < 0) := by omega
  unfold Builtin.Slice.sliceAdjust
  simp only [h1, if_false]
  refine Prod.ext ?_ ?_
  · cases lo with
    | none => rfl
    | some v => exact clip_eq v n 0
  · cases hi with
    | none => rfl
    | some v => exact clip_eq v n n
theorem places_gen (i j : Nat) : Builtin.Slice.slicePlaces (i : Int) (j : Int) 1 = j - i := by
  unfold Builtin.Slice.slicePlaces
  have h1 : (1 : Int) > 0 := by omega
  simp only [h1, if_true, Int.ediv_one]
  split <;> omega
theorem slicePart_ {v : Value} {o : Option Int} {Q : Option Int -> Shared -> Prop} (p : IsPart v o) (h : Q o s) : wpAny (model prog w) A (Builtin.Slice.slicePartIndex v) Q E s := by
  cases p with
  | none => exact slicePart_none h
  | int i t => exact slicePart_int h
theorem sliceApplied_gen {sl : Addr} {vl vu : Value} {lo hi : Option Int} {n : Nat} {Q : Int × Int × Nat -> Shared -> Prop} (hs : s.heap.IsSliceOf sl vl vu .none) (pl : IsPart vl lo) (pu : IsPart vu hi)
    (h : Q (((sIx n 0 lo : Nat) : Int), 1, sIx n n hi - sIx n 0 lo) s) : wpAny (model prog w) A (Builtin.Slice.sliceApplied (.ref sl) (pure (n : Int))) Q E s := by
  obtain ⟨os, hos, hcs, hds⟩ := id hs
  unfold Builtin.Slice.sliceApplied Builtin.Slice.sliceFields
  refine wpAny_bind (wpAny_bind (wpAny_field hos hds (x := vl) rfl (wpAny_bind (wpAny_field hos hds (x := vu) rfl (wpAny_bind (wpAny_field hos hds (x := .none) rfl (wpAny_pure ?_)))))))
  refine wpAny_bind (slicePart_none ?_)
  show wpAny _ _ (if ((1 : Int) == 0) = true then _ else _) _ _ s
  rw [if_neg (by decide)]
  refine wpAny_bind (slicePart_ pl (wpAny_bind (slicePart_ pu (wpAny_bind (wpAny_pure ?_)))))
  show wpAny _ _ (match Builtin.Slice.sliceAdjust lo hi 1 (n : Int) with | (lo, hi) => pure (lo, (1 : Int), Builtin.Slice.slicePlaces lo hi 1)) _ _ s
  rw [adjust_gen lo hi n]
  show wpAny _ _ (pure (((sIx n 0 lo : Nat) : Int), (1 : Int), Builtin.Slice.slicePlaces ((sIx n 0 lo : Nat) : Int) ((sIx n n hi : Nat) : Int) 1)) _ _ s
  rw [places_gen]
  exact wpAny_pure h
theorem pick_gen (xs : Array Value) (i k : Nat) : ((List.range k).filterMap fun (m : Nat) => xs[((i : Int) + (m : Int) * 1).toNat]?).toArray = ((xs.toList.drop i).take k).toArray := by
  have e : (fun (m : Nat) => xs[((i : Int) + (m : Int) * 1).toNat]?) = fun m => xs[i + m]? := by
    funext m
    have : ((i : Int) + (m : Int) * 1).toNat = i + m := by omega
    rw [this]
  rw [e]
  have := pick_run xs i k
  rw [List.filterMap_map] at this
  have e2 : ((fun x => xs[x]?) ∘ fun x => i + x) = fun m => xs[i + m]? := rfl
  rw [e2] at this
  rw [this]
theorem getItem_tuple_cut {t sl : Addr} {items : Array Value} {vl vu : Value} {lo hi : Option Int} {Q : Value -> Shared -> Prop} (ht : IsTup s.heap t items) (hs : s.heap.IsSliceOf sl vl vu .none) (pl : IsPart vl lo) (pu : IsPart vu hi)
    (hw : ¬ (sIx items.size 0 lo = 0 /\ sIx items.size items.size hi = items.size))
    (h : Q (.ref s.heap.objs.size) { s with heap := s.heap.push { cls := .type "tuple", data := .seq ((items.toList.drop (sIx items.size 0 lo)).take (sIx items.size items.size hi - sIx items.size 0 lo)).toArray } })
    (hsz : items.size <= sizeLine) : wpAny (model prog w) A (getItem (.ref t) (.ref sl)) Q E s := by
  have htake : sizeOk (.seq ((items.toList.drop (sIx items.size 0 lo)).take (sIx items.size items.size hi - sIx items.size 0 lo)).toArray) := by
    show ((items.toList.drop (sIx items.size 0 lo)).take (sIx items.size items.size hi - sIx items.size 0 lo)).toArray.size <= sizeLine
    rw [List.size_toArray, List.length_take, List.length_drop, Array.length_toList]
    omega
  have hj : sIx items.size items.size hi <= items.size := sIx_le _ _ (Nat.le_refl _) hi
  obtain ⟨os, hos, hcs, hds⟩ := id hs
  have hTs : s.TypeIs (.ref sl) "slice" := ⟨os, hos, hcs⟩
  unfold getItem
  try with_reducible refine wpAny_holding ?_
  first | refine wpAny_bind (wpAny_pure ?_) | skip
  refine wpAny_bind (wpAny_sequenceKey ht.typeIs (by decide) ?_)
  refine wpAny_bind (wpAny_callSpecial?_slot (name := Str.ofString "__getitem__") ht.typeIs PyProof.Rows.slot_tuple_getitem
    (wpAny_call_entry PyProof.Rows.slot_tuple_getitem ht.typeIs entry_tuple_getitem ?_ (args_tuple_getitem _ _)))
  show wpAny _ _ (Builtin.Tuple.tupleItemsOf (.ref t) >>= _) _ _ s
  refine wpAny_bind (tupleItemsOf_ ht ?_)
  refine wpAny_bind (wpAny_typeOf hTs ?_)
  rw [if_pos (by decide)]
  refine wpAny_bind (sliceApplied_gen hs pl pu ?_)
  have hno : ¬ ((((sIx items.size 0 lo : Nat) : Int) == 0 && (1 : Int) == 1 && (sIx items.size items.size hi - sIx items.size 0 lo) == items.size) = true) := by
    intro q
    rw [Bool.and_eq_true, Bool.and_eq_true] at q
    have q1 : ((sIx items.size 0 lo : Nat) : Int) = 0 := eq_of_beq q.1.1
    have q2 : sIx items.size items.size hi - sIx items.size 0 lo = items.size := eq_of_beq q.2
    exact hw ⟨by omega, by omega⟩
  show wpAny _ _ (if (((sIx items.size 0 lo : Nat) : Int) == 0 && (1 : Int) == 1 && (sIx items.size items.size hi - sIx items.size 0 lo) == items.size) = true then _ else _) _ _ s
  rw [if_neg hno, pick_gen]
  first
    | exact wpAny_bind (m := Builtin.Tuple.tupleExact _) (wpAny_newObj_type (wpAny_pure ⟨_, rfl, wpAny_pure h⟩) htake)
    | exact wpAny_bind (m := Builtin.Tuple.tupleExact _) (wpAny_newObj_type (wpAny_bind (wpAny_pure (wpAny_pure ⟨_, rfl, wpAny_pure h⟩))) htake)
    | exact wpAny_bind (wpAny_bind (m := Builtin.Tuple.tupleExact _) (wpAny_newObj_type (wpAny_pure (wpAny_pure ⟨_, rfl, wpAny_pure h⟩)) htake))
    | exact wpAny_bind (wpAny_bind (m := Builtin.Tuple.tupleExact _) (wpAny_newObj_type (wpAny_pure ⟨_, rfl, wpAny_pure h⟩) htake))
end
end HT
namespace L2
open PySem PySem.Spec PyProof.Rows
abbrev TO := St -> Hp -> (Option Int -> Hp -> Prop) -> Prop
def PO (X : Cx) (e : Option Expr) (t : TO) : Prop :=
  ∀ (pins : List (Addr × Obj)) (s : Shared) (σ : St) (H : Hp) (Q : Option Int -> Hp -> Prop), Inv X pins σ H s -> t σ H Q ->
    wpAny (model X.prog X.w) X.A (evalPart e X.env) (fun u s' => ∃ o H', Inv X pins σ H' s' /\ IsPart u o /\ Q o H') X.xe s
def tNoPart : TO := fun _ H Q => Q none H
section
variable {X : Cx} {e : Expr} {te : TE} {lo hi : Option Expr} {tl th : TO} {pos p2 : Pos}
theorem po_none : PO X none tNoPart := by
  intro pins s σ H Q I h
  rw [evalPart_none]
  exact wpAny_pure ⟨none, H, I, .none, h⟩
def SlR (X : Cx) (r : V -> Option Int -> Option Int -> Hp -> VK -> Prop) : Prop :=
  ∀ (pins : List (Addr × Obj)) (s : Shared) (σ : St) (H : Hp) (x : V) (v vl vu : Value) (lo hi : Option Int) (sl : Addr) (Q : VK), Inv X pins σ H s -> RelV x v -> s.heap.IsSliceOf sl vl vu .none -> IsPart vl lo -> IsPart vu hi -> r x lo hi H Q ->
    ∃ T id, typeLookup (.type T) "__getitem__" = pure (some (.builtin id)) /\ s.TypeIs v T /\ wpAny (model X.prog X.w) X.A (getItem v (.ref sl)) (EP X pins σ Q) X.xe s
def tSl (r : V -> Option Int -> Option Int -> Hp -> VK -> Prop) (te : TE) (tl th : TO) : TE := fun σ H Q => te σ H fun x H1 => tl σ H1 fun l H2 => th σ H2 fun u H3 => r x l u H3 Q
theorem pe_slice {r : V -> Option Int -> Option Int -> Hp -> VK -> Prop} (hr : SlR X r) (he : PE X e te) (hl : PO X lo tl) (hu : PO X hi th) : PE X (.Subscript e (.Slice lo hi none p2) pos) (tSl r te tl th) := by
  intro pins s σ H Q I h
  refine Subscript_ (thn (he pins s σ H _ I h) fun v s1 ⟨x, H1, I1, r1, q1⟩ => ?_)
  refine wpAny_Slice (thn (hl pins s1 σ H1 _ I1 q1) fun vl s2 ⟨l, H2, I2, pl, q2⟩ => thn (hu pins s2 σ H2 _ I2 q2) fun vu s3 ⟨u, H3, I3, pu, q3⟩ => ?_)
  rw [evalPart_none]
  refine wpAny_pure ?_
  have I4 : Inv X pins σ H3 { s3 with heap := s3.heap.push { cls := .type "slice", data := .fields #[vl, vu, .none] } } := I3.kept (t' := s3.toks) fun b ob q => Heap.get?_push_of_some _ q
  obtain ⟨T, id, hT, ht, hg⟩ := hr pins { s3 with heap := s3.heap.push { cls := .type "slice", data := .fields #[vl, vu, .none] } } σ H3 x v vl vu l u s3.heap.objs.size Q I4 r1 (Heap.IsSliceOf.new ..) pl pu q3
  show wpAny (model X.prog X.w) X.A (subscriptTail e (.Slice lo hi none p2) v (.ref s3.heap.objs.size)) (EP X pins σ Q) X.xe { s3 with heap := s3.heap.push { cls := .type "slice", data := .fields #[vl, vu, .none] } }
  exact tail_any (ops := [.ref s3.heap.objs.size, v]) ht hT hg (by with_unfolding_all rfl)
def cutV (xs : List V) (lo hi : Option Int) : List V := (xs.drop (HT.sIx xs.length 0 lo)).take (HT.sIx xs.length xs.length hi - HT.sIx xs.length 0 lo)
theorem cutV_length (xs : List V) (lo hi : Option Int) : (cutV xs lo hi).length <= xs.length := by
  unfold cutV
  rw [List.length_take, List.length_drop]
  omega
def rSlT (K : PySem.W.Frag) : V -> Option Int -> Option Int -> Hp -> VK -> Prop := fun x lo hi H Q => ∃ a xs, x = .ref a /\ SqT K H a xs /\
  ¬ (HT.sIx xs.length 0 lo = 0 /\ HT.sIx xs.length xs.length hi = xs.length) /\ ∀ p, H p = none -> Q (.ref p) (upd H p (.tup (cutV xs lo hi)))
theorem sl_tup : SlR X (rSlT X.K) := by
  intro pins s σ H x v vl vu lo hi sl Q I rx hs pl pu h
  obtain ⟨a, xs, rfl, hx, hw, q⟩ := h
  cases rx
  obtain ⟨its, r, ht, hz⟩ := I.tuple hx
  have hlen : its.toArray.size = xs.length := by rw [List.size_toArray]; exact r.length.symm
  refine ⟨"tuple", _, PyProof.Rows.slot_tuple_getitem.lookup, ht.typeIs, ?_⟩
  refine HT.getItem_tuple_cut ht hs pl pu (by rw [hlen]; exact hw) ?_ (by rw [hlen]; exact hz)
  rw [hlen]
  refine ⟨.ref s.heap.objs.size, _, I.laid (t' := s.toks) (o := .tup (cutV xs lo hi)) (fun b ob q => Heap.get?_push_of_some _ q) (Nat.le_refl _) ?_, rfl, q _ (I.hok.fresh (Nat.le_refl _))⟩
  exact ⟨Nat.le_trans (cutV_length xs lo hi) hz, _, (r.drop (HT.sIx xs.length 0 lo)).take (HT.sIx xs.length xs.length hi - HT.sIx xs.length 0 lo), IsTup.new _ _⟩
def rCatT (K : PySem.W.Frag) : R2 := fun x y H Q => ∃ a b xs ys, x = .ref a /\ y = .ref b /\ SqT K H a xs /\ SqT K H b ys /\ xs ≠ [] /\ xs.length + ys.length <= sizeLine /\
  (ys = [] -> Q (.ref a) H) /\ (ys ≠ [] -> ∀ p, H p = none -> Q (.ref p) (upd H p (.tup (xs ++ ys))))
theorem Vals.nil_iff {xs : List V} {us : List Value} (r : Vals xs us) : us = [] ↔ xs = [] := by
  cases r with
  | nil => simp
  | cons _ _ => simp
theorem op_catT : OpR X (binaryOp .Add) (rCatT X.K) := by
  intro pins s σ H x y v u Q I rx ry h
  obtain ⟨a, b, xs, ys, rfl, rfl, ha, hb, hx, hz, q1, q2⟩ := h
  cases rx
  cases ry
  obtain ⟨its, r1, p1, _⟩ := I.tuple ha
  obtain ⟨its2, r2, p2, _⟩ := I.tuple hb
  refine HT.cat_tup p1 p2 (fun z => hx (r1.nil_iff.mp z)) (fun z => ⟨.ref a, H, I, rfl, q1 (r2.nil_iff.mp z)⟩) (fun z => ?_) (by rw [<- r1.length, <- r2.length]; exact hz)
  refine ⟨.ref s.heap.objs.size, _, I.laid (t' := s.toks) (o := .tup (xs ++ ys)) (fun b ob q => Heap.get?_push_of_some _ q) (Nat.le_refl _) ?_, rfl, q2 (fun w => z (r2.nil_iff.mpr w)) _ (I.hok.fresh (Nat.le_refl _))⟩
  exact ⟨by rw [List.length_append]; exact hz, _, r1.append r2, IsTup.new _ _⟩
end
end L2
namespace L2
open PySem PySem.Spec PyProof.Rows
def ixN (n : Nat) (i : Int) : Option Nat := if 0 <= i then (if i < n then some i.toNat else none) else if -(n : Int) <= i then some (i + n).toNat else none
def atI {α : Type} (xs : List α) (i : Int) : Option α := (ixN xs.length i).bind fun j => xs[j]?
theorem ixN_seq {n : Nat} {i : Int} {j : Nat} (h : ixN n i = some j) : seqIndex? i n = some j /\ j < n /\ -(n : Int) <= i /\ i < n := by
  unfold ixN at h
  by_cases h0 : 0 <= i
  · rw [if_pos h0] at h
    by_cases h1 : i < n
    · rw [if_pos h1] at h
      have e : i.toNat = j := Option.some.inj h
      exact ⟨by rw [seqIndex_of h0 h1, e], by omega, by omega, h1⟩
    · rw [if_neg h1] at h; cases h
  · rw [if_neg h0] at h
    by_cases h1 : -(n : Int) <= i
    · rw [if_pos h1] at h
      have e : (i + n).toNat = j := Option.some.inj h
      exact ⟨by rw [seqIndex_neg (by omega) h1, e], by omega, h1, by omega⟩
    · rw [if_neg h1] at h; cases h
theorem atI_get {α : Type} {xs : List α} {i : Int} {v : α} (h : atI xs i = some v) : ∃ j, seqIndex? i xs.length = some j /\ xs[j]? = some v /\ j < xs.length /\ -(xs.length : Int) <= i /\ i < xs.length := by
  unfold atI at h
  cases e : ixN xs.length i with
  | none => rw [e] at h; cases h
  | some j =>
    rw [e] at h
    obtain ⟨h1, h2, h3, h4⟩ := ixN_seq e
    exact ⟨j, h1, h, h2, h3, h4⟩
def PlainIx (b : Expr) : Prop := ∀ o i, subscripted b false o i = operate [o, i] (getItem o i)
def IxR (X : Cx) (r : R2) : Prop :=
  ∀ (value slice : Expr) (pins : List (Addr × Obj)) (s : Shared) (σ : St) (H : Hp) (x y : V) (v u : Value) (Q : VK), Inv X pins σ H s -> RelV x v -> RelV y u -> r x y H Q ->
    subscripted slice false v u = operate [v, u] (getItem v u) -> wpAny (model X.prog X.w) X.A (subscriptTail value slice v u) (EP X pins σ Q) X.xe s
def MtR (X : Cx) (id : String) (r : V -> List V -> Hp -> VK -> Prop) : Prop :=
  ∀ (pins : List (Addr × Obj)) (s : Shared) (σ : St) (H : Hp) (x : V) (xs : List V) (v : Value) (us : List Value) (Q : VK), Inv X pins σ H s -> RelV x v -> Vals xs us -> r x xs H Q ->
    wpAny (model X.prog X.w) X.A (call (.builtin id) (v :: us)) (EP X pins σ Q) X.xe s
section
variable {X : Cx} {a b : Expr} {ta tb : TE} {pos : Pos}
theorem IxR.or {r r' : R2} (h : IxR X r) (h' : IxR X r') : IxR X (fun x y H Q => r x y H Q \/ r' x y H Q) := by
  intro value slice pins s σ H x y v u Q I rx ry q hs
  rcases q with q | q
  · exact h value slice pins s σ H x y v u Q I rx ry q hs
  · exact h' value slice pins s σ H x y v u Q I rx ry q hs
theorem pe_ix {r : R2} (hr : IxR X r) (ha : PE X a ta) (hb : PE X b tb) (hs : PlainIx b) : PE X (.Subscript a b pos) (tOp r ta tb) := by
  intro pins s σ H Q I h
  exact Subscript_ (binT ha hb I h fun v u s2 x y H2 I2 rx ry q => hr a b pins s2 σ H2 x y v u Q I2 rx ry q (hs _ _))
def rIxL (K : PySem.W.Frag) : R2 := fun x y H Q => ∃ p xs i v, x = .ref p /\ y = .int i /\ SqL K H p xs /\ atI xs i = some v /\ Q v H
def rIxT (K : PySem.W.Frag) : R2 := fun x y H Q => ∃ p xs i v, x = .ref p /\ y = .int i /\ SqT K H p xs /\ atI xs i = some v /\ Q v H
def rIxS : R2 := fun x y H Q => ∃ z i c, x = .str z /\ y = .int i /\ z.length <= sizeLine /\ atI z.cps.toList i = some c /\ Q (.str ⟨#[c]⟩) H
theorem ix_list : IxR X (rIxL X.K) := by
  intro value slice pins s σ H x y v u Q I rx ry h hs
  obtain ⟨p, xs, i, z, rfl, rfl, hq, he, q⟩ := h
  cases rx
  obtain ⟨t, rfl⟩ := ry
  obtain ⟨its, r, pl, hz⟩ := I.list hq
  obtain ⟨j, h1, h2, h3, h4, h5⟩ := atI_get he
  obtain ⟨w, ew, rw'⟩ := r.get h2
  have hl := r.length
  have hn := line63
  have fin : EP X pins σ Q w s := ⟨z, H, I, rw', q⟩
  by_cases h0 : 0 <= i
  · have hj : i.toNat = j := by
      rw [seqIndex_of h0 h5] at h1
      exact Option.some.inj h1
    exact item_listR pl.isList h0 (by omega) (by rw [hj]; simpa using ew) fin hs
  · have hj : (i + (its.toArray.size : Int)).toNat = j := by
      rw [seqIndex_neg (by omega) h4] at h1
      rw [List.size_toArray, <- hl]
      exact Option.some.inj h1
    exact subscriptTail_builtinR (x := w) pl.isList.typeIs slot_list_getitem.lookup
      (wpAny_getItem_list_neg (Q := fun r s' => r = w /\ EP X pins σ Q r s') pl.isList (by omega) (by rw [List.size_toArray] <;> omega) (by omega) (by rw [hj]; simpa using ew) ⟨rfl, fin⟩) hs
theorem ix_tup : IxR X (rIxT X.K) := by
  intro value slice pins s σ H x y v u Q I rx ry h hs
  obtain ⟨p, xs, i, z, rfl, rfl, hq, he, q⟩ := h
  cases rx
  obtain ⟨t, rfl⟩ := ry
  obtain ⟨its, r, pl, hz⟩ := I.tuple hq
  obtain ⟨j, h1, h2, h3, h4, h5⟩ := atI_get he
  obtain ⟨w, ew, rw'⟩ := r.get h2
  have hl := r.length
  have hn := line63
  have fin : EP X pins σ Q w s := ⟨z, H, I, rw', q⟩
  exact subscriptTail_builtinR (x := w) pl.typeIs slot_tuple_getitem.lookup
    (getItem_tuple (j := j) (Q := fun r s' => r = w /\ EP X pins σ Q r s') pl (by omega) (by omega) (by rw [List.size_toArray, <- hl]; exact h1) (by simpa using ew) ⟨rfl, fin⟩) hs
theorem ix_str : IxR X rIxS := by
  intro value slice pins s σ H x y v u Q I rx ry h hs
  obtain ⟨z, i, c, rfl, rfl, hz, he, q⟩ := h
  obtain ⟨t, rfl⟩ := rx
  obtain ⟨t', rfl⟩ := ry
  obtain ⟨j, h1, h2, h3, h4, h5⟩ := atI_get he
  have hl : z.cps.toList.length = z.length := by simp [Str.length]
  rw [hl] at h1 h4 h5
  have hn := line63
  exact tail_any (typeIs_str s z t) slot_str_getitem.lookup (getItem_str (c := c) (by
    have e1 : decide (i < -(2 ^ 63 : Int)) = false := decide_eq_false (by omega)
    have e2 : decide (i ≥ 2 ^ 63) = false := decide_eq_false (by omega)
    rw [e1, e2, Bool.or_false]) (by rw [h1]; simpa using h2) ⟨.str ⟨#[c]⟩, H, I.tok _, ⟨_, rfl⟩, q⟩) hs
def rIx (K : PySem.W.Frag) : R2 := fun x y H Q => rIxL K x y H Q \/ rIxT K x y H Q \/ rIxS x y H Q
theorem ix_seq : IxR X (rIx X.K) := ix_list.or (ix_tup.or ix_str)
theorem mapSeq_set (its : List Value) (n j : Nat) (u : Value) : Obj.mapSeq (·.setIfInBounds j u) { cls := .type "list", data := .seq its.toArray n } = { cls := .type "list", data := .seq (its.set j u).toArray n } := by
  simp [Obj.mapSeq]
theorem Inv.lst {pins : List (Addr × Obj)} {σ : St} {H : Hp} {s : Shared} {p : Addr} {xs : List V} (I : Inv X pins σ H s) (h : H p = some (.lst xs)) :
    ∃ (its : List Value) (n : Nat), Vals xs its /\ s.heap.get? p = some { cls := .type "list", data := .seq its.toArray n } /\ xs.length <= sizeLine := by
  obtain ⟨z, its, n, r, e⟩ := I.hok p _ h
  exact ⟨its, n, r, e, z⟩
theorem Inv.lstUpd {pins : List (Addr × Obj)} {σ : St} {H : Hp} {s : Shared} {p : Addr} {xs ys : List V} {its its' : List Value} {n n' : Nat} {f : Obj -> Obj} (I : Inv X pins σ H s) (h : H p = some (.lst xs))
    (ho : s.heap.get? p = some { cls := .type "list", data := .seq its.toArray n }) (hf : f { cls := .type "list", data := .seq its.toArray n } = { cls := .type "list", data := .seq its'.toArray n' }) (r : Vals ys its') (hz : ys.length <= sizeLine) (t : Nat) :
    Inv X pins σ (upd H p (.lst ys)) { s with heap := s.heap.update p f, toks := t } := by
  have e : (s.heap.update p f).get? p = some { cls := .type "list", data := .seq its'.toArray n' } := by
    rw [Heap.get?_update_self f ho (by rw [hf] <;> rfl), hf]
  refine I.write (x := p) (e := p) (by rw [h]; trivial) (.inl rfl) (fun b u hb q => (Heap.get?_update_other _ _ (Ne.symm hb)).trans q) ⟨_, e⟩ ?_
  exact ⟨hz, its', n', r, e⟩
def rSetL : V -> V -> V -> Hp -> (Hp -> Prop) -> Prop := fun o i v H Q => ∃ p xs k j, o = .ref p /\ i = .int k /\ H p = some (.lst xs) /\ ixN xs.length k = some j /\ Q (upd H p (.lst (xs.set j v)))
theorem set_list : PSet X rSetL := by
  intro pins s σ H o i v ov iv u Q I ro ri rv h
  obtain ⟨p, xs, k, j, rfl, rfl, hp, hj, q⟩ := h
  cases ro
  obtain ⟨t, rfl⟩ := ri
  obtain ⟨its, n, r, ho, hz⟩ := I.lst hp
  obtain ⟨h1, h2, h3, h4⟩ := ixN_seq hj
  have hl := r.length
  have hn := line63
  have I' : Inv X pins σ (upd H p (.lst (xs.set j v))) { s with heap := s.heap.update p (Obj.mapSeq (·.setIfInBounds j u)) } :=
    I.lstUpd hp ho (mapSeq_set its n j u) (r.set rv j) (by rw [List.length_set]; exact hz) s.toks
  by_cases h0 : 0 <= k
  · have hk : k.toNat = j := by
      rw [seqIndex_of h0 h4] at h1
      exact Option.some.inj h1
    exact PySem.W.ki_setAt ho h0 (by omega) (by rw [List.size_toArray, <- hl]; exact h4) (by rw [hk]; exact ⟨_, I', q⟩)
  · have hk : (k + (its.toArray.size : Int)).toNat = j := by
      rw [seqIndex_neg (by omega) h3] at h1
      rw [List.size_toArray, <- hl]
      exact Option.some.inj h1
    exact PySem.W.ki_setBack ho (by omega) (by rw [List.size_toArray, <- hl]; exact h3) (by omega) (by rw [hk]; exact ⟨_, I', q⟩)
theorem slice_bounds (lo hi : Option Int) (n : Nat) : (sliceBounds lo hi none n).1 = ((HT.sIx n 0 lo : Nat) : Int) /\ (sliceBounds lo hi none n).2.1 = ((HT.sIx n n hi : Nat) : Int) /\ (sliceBounds lo hi none n).2.2 = 1 := by
  refine ⟨?_, ?_, rfl⟩
  · cases lo with
    | none => simp [sliceBounds, HT.sIx]
    | some i =>
      simp only [sliceBounds, HT.sIx, Option.getD_none, show (1 : Int) > 0 by decide, if_true]
      by_cases h : i < 0
      · simp only [h, if_true] <;> omega
      · simp only [h, if_false] <;> omega
  · cases hi with
    | none => simp [sliceBounds, HT.sIx]
    | some i =>
      simp only [sliceBounds, HT.sIx, Option.getD_none, show (1 : Int) > 0 by decide, if_true]
      by_cases h : i < 0
      · simp only [h, if_true] <;> omega
      · simp only [h, if_false] <;> omega
theorem slicePick_cut (its : List Value) (lo hi : Option Int) : slicePick its.toArray lo hi none = ((its.drop (HT.sIx its.length 0 lo)).take (HT.sIx its.length its.length hi - HT.sIx its.length 0 lo)).toArray := by
  obtain ⟨h1, h2, h3⟩ := slice_bounds lo hi its.toArray.size
  unfold slicePick
  rw [h1, h2, h3]
  simp only [sliceRange_one, pick_run, List.size_toArray] <;> rfl
def rSlL (K : PySem.W.Frag) : V -> Option Int -> Option Int -> Hp -> VK -> Prop := fun x lo hi H Q => ∃ a xs, x = .ref a /\ SqL K H a xs /\ ∀ p, H p = none -> Q (.ref p) (upd H p (.lst (cutV xs lo hi)))
theorem sl_list : SlR X (rSlL X.K) := by
  intro pins s σ H x v vl vu lo hi sl Q I rx hs pl pu h
  obtain ⟨a, xs, rfl, hx, q⟩ := h
  cases rx
  obtain ⟨its, r, ht, hz⟩ := I.list hx
  have hlen := r.length
  refine ⟨"list", _, slot_list_getitem.lookup, ht.isList.typeIs, ?_⟩
  refine wpAny_getItem_list_slice ht.isList hs pl pu .none (by simp) ?_ (by rw [List.size_toArray] <;> omega)
  rw [slicePick_cut, <- hlen]
  refine ⟨.ref s.heap.objs.size, _, I.laid (t' := s.toks) (o := .lst (cutV xs lo hi)) (fun b ob q => Heap.get?_push_of_some _ q) (Nat.le_refl _) ?_, rfl, q _ (I.hok.fresh (Nat.le_refl _))⟩
  exact ⟨Nat.le_trans (cutV_length xs lo hi) hz, _, 0, (r.drop (HT.sIx xs.length 0 lo)).take (HT.sIx xs.length xs.length hi - HT.sIx xs.length 0 lo), Heap.get?_push_size _ rfl⟩
def flatV : V -> Bool
  | .non => true
  | .bl _ => true
  | .int _ => true
  | .str _ => true
  | _ => false
def eqV : V -> V -> Bool
  | .non, .non => true
  | .bl a, .bl b => a == b
  | .bl a, .int b => (if a then 1 else 0) == b
  | .int a, .bl b => a == (if b then 1 else 0)
  | .int a, .int b => a == b
  | .str a, .str b => a == b
  | _, _ => false
theorem eqAt_V {A : Around} {s : Shared} {y x : V} {u v : Value} (ry : RelV y u) (rx : RelV x v) (fy : flatV y = true) (fx : flatV x = true) : SeqAt.EqAt A s u v (eqV y x) := by
  cases y with
  | non =>
    cases ry
    cases x with
    | non => cases rx; exact SeqAt.EqAt.same _
    | bl b => cases rx; exact SeqAt.EqAt.none_bool b
    | int b => obtain ⟨t, rfl⟩ := rx; exact SeqAt.EqAt.none_int b t
    | str b => obtain ⟨t, rfl⟩ := rx; exact SeqAt.EqAt.none_str b t
    | _ => exact absurd (show false = true from fx) Bool.false_ne_true
  | bl a =>
    cases ry
    cases x with
    | non => cases rx; exact SeqAt.EqAt.bool_none a
    | bl b => cases rx; exact SeqAt.EqAt.bool_bool a b
    | int b => obtain ⟨t, rfl⟩ := rx; exact SeqAt.EqAt.bool_int a b t
    | str b => obtain ⟨t, rfl⟩ := rx; exact SeqAt.EqAt.bool_str a b t
    | _ => exact absurd (show false = true from fx) Bool.false_ne_true
  | int a =>
    obtain ⟨t', rfl⟩ := ry
    cases x with
    | non => cases rx; exact SeqAt.EqAt.int_none a t'
    | bl b => cases rx; exact SeqAt.EqAt.int_bool a t' b
    | int b => obtain ⟨t, rfl⟩ := rx; exact SeqAt.EqAt.int_int a t' b t
    | str b => obtain ⟨t, rfl⟩ := rx; exact SeqAt.EqAt.int_str a t' b t
    | _ => exact absurd (show false = true from fx) Bool.false_ne_true
  | str a =>
    obtain ⟨t', rfl⟩ := ry
    cases x with
    | non => cases rx; exact SeqAt.EqAt.str_none a t'
    | bl b => cases rx; exact SeqAt.EqAt.str_bool a t' b
    | int b => obtain ⟨t, rfl⟩ := rx; exact SeqAt.EqAt.str_int a t' b t
    | str b => obtain ⟨t, rfl⟩ := rx; exact SeqAt.EqAt.str_str a t' b t
    | _ => exact absurd (show false = true from fx) Bool.false_ne_true
  | _ => exact absurd (show false = true from fy) Bool.false_ne_true
def eqU (x : V) (u : Value) : Bool := match u with
  | .none => eqV .non x
  | .bool b => eqV (.bl b) x
  | .int i _ => eqV (.int i) x
  | .str z _ => eqV (.str z) x
  | _ => false
theorem eqU_of {x y : V} {u : Value} (r : RelV y u) (f : flatV y = true) : eqU x u = eqV y x := by
  cases y with
  | non => cases r; rfl
  | bl b => cases r; rfl
  | int i => obtain ⟨t, rfl⟩ := r; rfl
  | str z => obtain ⟨t, rfl⟩ := r; rfl
  | _ => exact absurd (show false = true from f) Bool.false_ne_true
theorem any_eqU {x : V} : ∀ {xs : List V} {us : List Value}, Vals xs us -> xs.all flatV = true -> us.any (eqU x) = xs.any fun y => eqV y x
  | _, _, .nil, _ => rfl
  | y :: xs, u :: us, .cons r t, f => by
    rw [List.all_cons, Bool.and_eq_true] at f
    rw [List.any_cons, List.any_cons, eqU_of r f.1, any_eqU t f.2]
theorem mem_eqAt {A : Around} {s : Shared} {x : V} {v : Value} (rx : RelV x v) (fx : flatV x = true) : ∀ {xs : List V} {us : List Value}, Vals xs us -> xs.all flatV = true -> ∀ u ∈ us, SeqAt.EqAt A s u v (eqU x u)
  | _, _, .nil, _ => fun u hu => by cases hu
  | y :: xs, u :: us, .cons r t, f => fun u' hu => by
    rw [List.all_cons, Bool.and_eq_true] at f
    rcases List.mem_cons.mp hu with rfl | hu
    · rw [eqU_of r f.1]; exact eqAt_V r rx f.1 fx
    · exact mem_eqAt rx fx t f.2 u' hu
def inV (x : V) (xs : List V) : Bool := xs.any fun y => eqV y x
def rIn (K : PySem.W.Frag) (neg : Bool) : R2 := fun x y H Q => ∃ p xs, y = .ref p /\ (SqL K H p xs \/ SqT K H p xs) /\ flatV x = true /\ xs.all flatV = true /\ Q (.bl (if neg then !inV x xs else inV x xs)) H
theorem op_in_seq : OpR X (compareOp .In) (rIn X.K false) := by
  intro pins s σ H x y v u Q I rx ry h
  obtain ⟨p, xs, rfl, hq, fx, fs, q⟩ := h
  cases ry
  rcases hq with hq | hq
  · obtain ⟨its, r, pl, hz⟩ := I.list hq
    refine SeqAt.in_listAt (eqU x) pl.isList (fun w hw => mem_eqAt rx fx r fs w (by simpa using hw)) ⟨.bl _, H, I, rfl, ?_⟩
    rw [show its.toArray.any (eqU x) = its.any (eqU x) by simp, any_eqU r fs]
    exact q
  · obtain ⟨its, r, pl, hz⟩ := I.tuple hq
    refine SeqAt.in_tupleAt (eqU x) pl (fun w hw => mem_eqAt rx fx r fs w (by simpa using hw)) ⟨.bl _, H, I, rfl, ?_⟩
    rw [show its.toArray.any (eqU x) = its.any (eqU x) by simp, any_eqU r fs]
    exact q
theorem call_len_seq : CallR X (.builtin "len") (fun xs H Q => ∃ p ys, xs = [.ref p] /\ (SqL X.K H p ys \/ SqT X.K H p ys) /\ Q (.int ys.length) H) := by
  intro pins s σ H xs us Q I r h
  obtain ⟨p, ys, rfl, hq, q⟩ := h
  obtain ⟨u, rfl, rx⟩ := vals1 r
  cases rx
  have hn := line63
  rcases hq with hq | hq
  · obtain ⟨its, r', pl, hz⟩ := I.list hq
    have hlen := r'.length
    exact Calls.call_len_list pl.isList (by simp only [List.size_toArray] <;> omega) ⟨.int ys.length, H, I.tok _, ⟨s.toks + 1, by rw [List.size_toArray, hlen]⟩, q⟩
  · obtain ⟨its, r', pl, hz⟩ := I.tuple hq
    have hlen := r'.length
    exact len_tuple pl (by simp only [List.size_toArray] <;> omega) ⟨.int ys.length, H, I.tok _, ⟨s.toks + 1, by rw [List.size_toArray, hlen]⟩, q⟩
theorem call_len_str : CallR X (.builtin "len") (fun xs H Q => ∃ z, xs = [.str z] /\ z.length <= sizeLine /\ Q (.int z.length) H) := by
  intro pins s σ H xs us Q I r h
  obtain ⟨z, rfl, hz, q⟩ := h
  obtain ⟨u, rfl, t, rfl⟩ := vals1 r
  have hn := line63
  exact len_str (by omega) ⟨.int z.length, H, I.tok _, ⟨_, rfl⟩, q⟩
theorem call_list_of : CallR X (.type "list") (fun xs H Q => ∃ p ys, xs = [.ref p] /\ (SqL X.K H p ys \/ SqT X.K H p ys) /\ ∀ l, H l = none -> Q (.ref l) (upd H l (.lst ys))) := by
  intro pins s σ H xs us Q I r h
  obtain ⟨p, ys, rfl, hq, q⟩ := h
  obtain ⟨u, rfl, rx⟩ := vals1 r
  cases rx
  have fin : ∀ (its : List Value), Vals ys its -> ys.length <= sizeLine -> ∀ (h' : Heap) (c' : Nat), (∀ b o', s.heap.get? b = some o' -> h'.get? b = some o') ->
      h'.get? s.heap.objs.size = some { cls := .type "list", dict := none, data := .seq its.toArray c', slots := #[] } -> EP X pins σ Q (.ref s.heap.objs.size) { s with heap := h' } := fun its r' hz h' c' kp e =>
    ⟨.ref s.heap.objs.size, _, I.laid (t' := s.toks) kp (Nat.le_refl _) (show ObjOk X.prog X.w _ h' _ (.lst ys) from ⟨hz, its, c', r', e⟩), rfl, q _ (I.hok.fresh (Nat.le_refl _))⟩
  rcases hq with hq | hq
  · obtain ⟨its, r', pl, hz⟩ := I.list hq
    have hlen := r'.length
    obtain ⟨o, ho, hc, n, hd⟩ := pl.isList
    exact call_list_seq p (.inl rfl) ho hc hd (fun h' c' kp e => fin its r' hz h' c' kp e) (by simp only [List.size_toArray] <;> omega)
  · obtain ⟨its, r', pl, hz⟩ := I.tuple hq
    have hlen := r'.length
    obtain ⟨o, ho, hc, n, hd⟩ := pl
    exact call_list_seq p (.inr rfl) ho hc hd (fun h' c' kp e => fin its r' hz h' c' kp e) (by simp only [List.size_toArray] <;> omega)
theorem call_tuple_of : CallR X (.type "tuple") (fun xs H Q => ∃ p ys, xs = [.ref p] /\ ((SqL X.K H p ys /\ ∀ l, H l = none -> Q (.ref l) (upd H l (.tup ys))) \/ (SqT X.K H p ys /\ Q (.ref p) H))) := by
  intro pins s σ H xs us Q I r h
  obtain ⟨p, ys, rfl, h⟩ := h
  obtain ⟨u, rfl, rx⟩ := vals1 r
  cases rx
  rcases h with ⟨hq, q⟩ | ⟨hq, q⟩
  · obtain ⟨its, r', pl, hz⟩ := I.list hq
    have hlen := r'.length
    refine call_tuple_list pl.isList (fun h' kp => ?_) (by simp only [List.size_toArray] <;> omega)
    have I1 : Inv X pins σ H { s with heap := h' } := I.kept (t' := s.toks) kp
    have I2 : Inv X pins σ (upd H h'.objs.size (.tup ys)) { s with heap := h'.push { cls := .type "tuple", data := .seq its.toArray } } :=
      I1.laid (t' := s.toks) (fun b o e => Heap.get?_push_of_some _ e) (Nat.le_refl _) (show ObjOk X.prog X.w _ _ _ (.tup ys) from ⟨hz, its, r', IsTup.new _ _⟩)
    exact ⟨.ref h'.objs.size, _, I2, rfl, q _ (I1.hok.fresh (Nat.le_refl _))⟩
  · obtain ⟨its, r', pl, hz⟩ := I.tuple hq
    exact call_tuple_same pl ⟨.ref p, H, I, rfl, q⟩
def tyV (K : PySem.W.Frag) (T : String) (x : V) (H : Hp) : Prop := match x with
  | .str _ => T = "str"
  | .int _ => T = "int"
  | .ref p => (T = "list" /\ ∃ xs, SqL K H p xs) \/ (T = "tuple" /\ ∃ o, K.lookup p = some o /\ o.cls = .type "tuple" /\ o.dict = none) \/
      (T = "dict" /\ ((∃ kvs, H p = some (.dK kvs)) \/ ∃ kvs, H p = some (.dT kvs))) \/ (T = "set" /\ ∃ S n, H p = some (.set S n))
  | _ => False
theorem tyV_is {pins : List (Addr × Obj)} {σ : St} {H : Hp} {s : Shared} {T : String} {x : V} {v : Value} (I : Inv X pins σ H s) (r : RelV x v) (ty : tyV X.K T x H) :
    s.TypeIs v T /\ ∀ a, v = .ref a -> ∃ ob, s.heap.get? a = some ob /\ ob.dict = none := by
  cases x with
  | str z =>
    obtain ⟨t, rfl⟩ := r
    cases (show T = "str" from ty)
    exact ⟨typeIs_str s z t, fun _ e => nomatch e⟩
  | int i =>
    obtain ⟨t, rfl⟩ := r
    cases (show T = "int" from ty)
    exact ⟨typeIs_int s i t, fun _ e => nomatch e⟩
  | ref p =>
    cases r
    rcases ty with ⟨rfl, xs, hq⟩ | ⟨rfl, o, hk, hc, hd⟩ | ⟨rfl, hk⟩ | ⟨rfl, S, n, hk⟩
    · obtain ⟨its, _, pl, _⟩ := I.list hq
      refine ⟨pl.isList.typeIs, fun a e => ?_⟩
      cases e
      obtain ⟨o, n, e, c, hd, _⟩ := pl
      exact ⟨o, e, hd⟩
    · refine ⟨⟨o, I.kIn p o hk, hc⟩, fun a e => ?_⟩
      cases e
      exact ⟨o, I.kIn _ o hk, hd⟩
    · have z : ∃ o, s.heap.get? p = some o /\ o.ExactDict := by
        rcases hk with ⟨kvs, hk⟩ | ⟨kvs, hk⟩
        · obtain ⟨_, _, _, _, o, _, _, e, ex, _⟩ := I.hok p _ hk
          exact ⟨o, e, ex⟩
        · obtain ⟨_, _, _, _, o, _, _, e, ex, _⟩ := I.hok p _ hk
          exact ⟨o, e, ex⟩
      obtain ⟨o, e, ex⟩ := z
      refine ⟨⟨o, e, ex.1⟩, fun a e2 => ?_⟩
      cases e2
      exact ⟨o, e, ex.2.1⟩
    · obtain ⟨o, _, _, _, e, ex, _⟩ := I.hok p _ hk
      refine ⟨⟨o, e, ex.1⟩, fun a e2 => ?_⟩
      cases e2
      exact ⟨o, e, ex.2.1⟩
  | _ => exact False.elim ty
def tBM (K : PySem.W.Frag) (T : String) (r : V -> List V -> Hp -> VK -> Prop) (to : TE) (t : TA) : TE := fun σ H Q => to σ H fun x H1 => tyV K T x H1 /\ t σ H1 fun xs H2 => r x xs H2 Q
variable {o e : Expr} {es : List Expr} {to : TE} {t : TA} {name : Str} {apos cpos : Pos} {T id : String} {r : V -> List V -> Hp -> VK -> Prop}
theorem pe_bm (pa : PlainAttrs T) (slot : Slot T name id) (hty : typeOf (.builtin id) = pure (.type "method_descriptor")) (hm : MtR X id r) (ho : PE X o to) (ha : PA X (e :: es) t)
    (hbase : attributeBase o name X.env (eval o X.env) = eval o X.env := by rfl)
    (hfew : ((backTo cpos (starEach (e :: es) X.env)).all (fun x => !x.1) && (backToKw cpos (keywordEach [] X.env)).all (fun x => x.1.isSome)
      && decide ((e :: es).length + ([] : List Keyword).length + (if ([] : List Keyword).isEmpty then 0 else 1) < 30)) = true := by rfl)
    (hline : (apos.endLine == cpos.line) = true := by rfl) (hs : starEach (e :: es) X.env = (false, eval e X.env) :: starEach es X.env := by rfl) (hplain : (backTo cpos (starEach es X.env)).any (·.1) = false := by rfl) :
    PE X (.Call (.Attribute o name apos) (e :: es) [] cpos) (tBM X.K T r to t) := by
  intro pins s σ H Q I h
  refine wpAny_Call_method_late hbase hfew hline rfl (thn (ho pins s σ H _ I h) fun v s1 ⟨x, H1, I1, r1, ty, q1⟩ => ?_)
  obtain ⟨h1, h2⟩ := tyV_is I1 r1 ty
  refine ⟨T, id, pa, slot, hty, h1, h2, ?_⟩
  have hA := ha cpos pins s1 σ H1 _ I1 q1
  rw [hs] at hA ⊢
  refine Calls.callWith_builtin (by show (false || (backTo cpos (starEach es X.env)).any (·.1)) = false; rw [hplain] <;> rfl) (Calls.evalArgs_plain ?_)
  exact thn hA fun us s2 ⟨vs, H2, I2, r2, q2⟩ => hm pins s2 σ H2 x vs v us Q I2 r1 r2 q2
/- xs.append(e), list.index on a module's tuple .. are MtR facts of 06m -/
end
end L2
namespace L2
open PySem PySem.Spec PyProof.Rows
def MtM (X : Cx) (id : String) (r : V -> List V -> Hp -> VK -> Prop) : Prop :=
  ∀ (pins : List (Addr × Obj)) (s : Shared) (σ : St) (H : Hp) (x : V) (xs : List V) (v : Value) (us : List Value) (Q : VK), Inv X pins σ H s -> RelV x v -> Vals xs us -> r x xs H Q ->
    wpAny (model X.prog X.w) X.A (call (.builtin id) (v :: us)) (EP X pins σ Q) X.xe s
theorem Vals.one : ∀ {x : V} {us : List Value}, Vals [x] us -> ∃ u, us = [u] /\ RelV x u
  | _, _, .cons r .nil => ⟨_, rfl, r⟩
section
variable {X : Cx} {pins : List (Addr × Obj)} {σ : St} {H : Hp} {s : Shared} {l b : Addr} {xs ys zs : List V}
theorem Inv.lset {its its' : List Value} {n : Nat} {f : Array Value -> Array Value} {t' : Nat} (I : Inv X pins σ H s) (hH : H l = some (.lst xs))
    (e : s.heap.get? l = some { cls := .type "list", data := .seq its.toArray n }) (hf : f its.toArray = its'.toArray) (hv : Vals ys its') (hz : ys.length <= sizeLine) :
    Inv X pins σ (upd H l (.lst ys)) { s with heap := s.heap.update l (Obj.mapSeq f), toks := t' } := by
  have q := PySem.IsL.update e f
  rw [hf] at q
  refine I.write (x := l) (e := l) (by rw [hH]; exact trivial) (.inl rfl) (fun b' u hb hu => (Heap.get?_update_other s.heap (Obj.mapSeq f) (Ne.symm hb)).trans hu) ⟨_, q⟩ ?_
  exact ⟨hz, its', _, hv, q⟩
theorem Inv.lnew {its : List Value} {t' : Nat} (I : Inv X pins σ H s) (hv : Vals ys its) (hz : ys.length <= sizeLine) :
    Inv X pins σ (upd H s.heap.objs.size (.lst ys)) { s with heap := s.heap.push { cls := .type "list", data := .seq its.toArray }, toks := t' } :=
  I.laid (fun _ _ q => Heap.get?_push_of_some _ q) (Nat.le_refl _) ⟨hz, its, 0, hv, Heap.get?_push_size _ rfl⟩
theorem Inv.fresh (I : Inv X pins σ H s) : H s.heap.objs.size = none := I.hok.fresh (Nat.le_refl _)
theorem Inv.lstM (I : Inv X pins σ H s) (hH : H l = some (.lst xs)) : xs.length <= sizeLine /\ ∃ (its : List Value) (n : Nat), Vals xs its /\ xs.length = its.length /\ s.heap.get? l = some { cls := .type "list", data := .seq its.toArray n } := by
  obtain ⟨z, its, n, r, e⟩ := I.hok l _ hH
  exact ⟨z, its, n, r, r.length, e⟩
theorem notLongL {n : Nat} (h : n <= sizeLine) : Builtin.List.listTooLong n = false := by
  unfold Builtin.List.listTooLong
  exact decide_eq_false (by omega)
end
section
variable {X : Cx}
def rAppend : V -> List V -> Hp -> VK -> Prop := fun x vs H Q => ∃ l xs y, x = .ref l /\ vs = [y] /\ H l = some (.lst xs) /\ xs.length < sizeLine /\ Q .non (upd H l (.lst (xs ++ [y])))
theorem mt_append : MtM X "list.append" rAppend := by
  intro pins s σ H x vs v us Q I rx rv h
  obtain ⟨l, xs, y, rfl, rfl, hH, hz, q⟩ := h
  cases rx
  obtain ⟨u, rfl, ru⟩ := rv.one
  obtain ⟨z, its, n, r, hl, e⟩ := I.lstM hH
  refine call_meets F.slot_list_append ⟨_, e, rfl⟩ F.entry_list_append (F.args_list_append_2 _ _) (PySem.list_append l its.toArray n u (by rw [List.size_toArray]; omega)) ⟨e, ?_⟩
  refine ⟨.non, _, I.lset (its' := its ++ [u]) hH e (by simp) (r.append (.cons ru .nil)) ?_, rfl, q⟩
  rw [List.length_append, List.length_singleton]
  omega
def rExtend : V -> List V -> Hp -> VK -> Prop := fun x vs H Q => ∃ l b xs zs, x = .ref l /\ vs = [.ref b] /\ H l = some (.lst xs) /\ H b = some (.lst zs) /\ xs.length + zs.length <= sizeLine /\ Q .non (upd H l (.lst (xs ++ zs)))
theorem mt_extend : MtM X "list.extend" rExtend := by
  intro pins s σ H x vs v us Q I rx rv h
  obtain ⟨l, b, xs, zs, rfl, rfl, hH, hB, hz, q⟩ := h
  cases rx
  obtain ⟨u, rfl, ru⟩ := rv.one
  cases ru
  obtain ⟨z, its, n, r, hl, e⟩ := I.lstM hH
  obtain ⟨z2, its2, n2, r2, hl2, e2⟩ := I.lstM hB
  have hsz : its.toArray.size + its2.toArray.size <= sizeLine := by rw [List.size_toArray, List.size_toArray]; omega
  have hlong : ¬ (!its.toArray.isEmpty && Builtin.List.listTooLong (its.toArray.size + its2.toArray.size)) = true := by
    rw [notLongL hsz, Bool.and_false]
    exact Bool.false_ne_true
  refine call_meets F.slot_list_extend ⟨_, e, rfl⟩ F.entry_list_extend (F.args_list_extend_2 _ _)
    (AutoSeq1.list_extend_list_list_0 l its.toArray n b its2.toArray n2 hlong (by rw [List.size_toArray]; omega) (by omega)) ⟨e, e2, ?_⟩
  refine ⟨.non, _, I.lset (its' := its ++ its2) hH e (by simp) (r.append r2) ?_, rfl, q⟩
  rw [List.length_append]
  omega
def rCat : R2 := fun x y H Q => ∃ l b xs zs, x = .ref l /\ y = .ref b /\ H l = some (.lst xs) /\ H b = some (.lst zs) /\ xs.length + zs.length <= sizeLine /\ ∀ p, H p = none -> Q (.ref p) (upd H p (.lst (xs ++ zs)))
theorem op_cat : OpR X (binaryOp .Add) rCat := by
  intro pins s σ H x y v u Q I rx ry h
  obtain ⟨l, b, xs, zs, rfl, rfl, hH, hB, hz, q⟩ := h
  cases rx
  cases ry
  obtain ⟨z, its, n, r, hl, e⟩ := I.lstM hH
  obtain ⟨z2, its2, n2, r2, hl2, e2⟩ := I.lstM hB
  refine PySem.P.add_list e e2 ?_ (by rw [List.size_toArray, List.size_toArray]; omega)
  have ea : its.toArray ++ its2.toArray = (its ++ its2).toArray := by simp
  rw [ea]
  exact ⟨.ref _, _, I.lnew (t' := s.toks) (r.append r2) (by rw [List.length_append]; omega), rfl, q _ I.fresh⟩
end
section
variable {prog : Program} {w : World} {A : Around} {E : Value -> Shared -> Prop} {s : Shared}
end
section
variable {X : Cx}
end
end L2
namespace Att
open PySem PySem.W PySem.Calls PyProof.Rows
theorem ints_of_wellAll {P : Params} {h : Heap} : ∀ (ns : List Int) (vs : List Value), WellAll P h vs (ns.map WData.int) -> IntsAre vs ns := by
  intro ns
  induction ns with
  | nil =>
    intro vs w
    rw [List.map_nil] at w
    cases w
    exact .nil
  | cons n ns ih =>
    intro vs w
    rw [List.map_cons] at w
    cases w with
    | cons a b =>
      cases a
      exact .cons _ _ (ih _ b)
theorem script_of {l : OpenLaw} {n : Nat} (hn : l.most = some n) {P : Params} {h : Heap} {args : List WData} {vals : List Value}
    (hpre : l.row.toRowW.claim.pre args = true) (hwl : WellAll P h vals args) :
    ∃ a vs ns, vals = [Value.ref a] /\ args = [WData.list (ns.map WData.int)] /\ h.get? a = some { cls := .type "list", data := .seq vs.toArray } /\ IntsAre vs ns /\ ns.length <= n := by
  have hsh : WShape.hasAll [] args [.list .int] = true := (pre_splitW hpre).1
  have hc : l.pre.holds [] { args := args } = true := (pre_splitW hpre).2
  obtain ⟨d, r, rfl, h1, h2⟩ := hasAllW_cons hsh
  obtain rfl := hasAllW_nil h2
  obtain ⟨xs, rfl, h3⟩ := hasW_list h1
  obtain ⟨ns, rfl⟩ := items_int h3
  have hlen : ns.length <= n := by
    unfold OpenLaw.pre at hc
    have h4 : (WTm.not (.lt (.lit (.int (n : Int))) (.len (.arg 0)))).holds [] { args := [.list (ns.map .int)] } = true := by
      have h4 := (holds_andW hc).1
      rw [hn] at h4
      exact h4
    have h5 := condW_of h4 (w_not (w_lt w_lit (w_len_list (w_arg rfl))))
    rw [List.length_map] at h5
    refine Nat.le_of_not_lt fun q => ?_
    have q' : (n : Int) < ((ns.length : Nat) : Int) := by omega
    first
      | (rw [decide_eq_true q'] at h5; exact absurd h5 (by decide))
      | (simp at h5; omega)
  cases hwl with
  | cons w1 w2 =>
    cases w2
    cases w1 with
    | list ho hall => exact ⟨_, _, ns, rfl, rfl, ho, ints_of_wellAll ns _ hall, hlen⟩
theorem post_true (l : OpenLaw) (args : List WData) : l.row.toRowW.claim.post args (.bool true) args = true :=
  postW_of (r := l.row.toRowW) (X := (true == true))
    (show WShape.has [] (.bool true) .bool = true by first | rfl | decide | simp [WShape.has, WShape.arms, WShape.armsAll])
    (show (WTm.eq .res (.lit (.bool true))).value [] { args := args, res := some (.bool true), after := args } = some (.bool (true == true)) from w_eq_bool (w_res rfl) w_lit) rfl
theorem attach_call {l : OpenLaw} {n : Nat} {q : Program} {loose : List Str} {XP : (Str -> Option Value) -> Heap -> Prop} {YP : World -> Heap -> Prop} {d : DefRec}
    (hn : l.most = some n) (hdf : d.params.defaults = [])
    (call : ∀ (w : World) (s₀ s₁ : Shared) (mg mb : Str -> Option Value) (fa : Addr) (o : Obj) (pm cd doc : Value) (a : Addr) (vs : List Value) (ns : List Int),
      Ground q loose [] XP w s₀ mg mb s₁.heap -> YP w s₁.heap ->
      s₁.heap.get? fa = some o -> o.data = .func (docDef d.name d.params d.body d.scope pm cd doc) -> s₁.heap.CodeRec cd d.name -> mg d.name = some (.ref fa) ->
      s₁.heap.get? a = some { cls := .type "list", data := .seq vs.toArray } -> IntsAre vs ns -> ns.length <= n -> s₁.gens = #[] ->
      codeAny (model l.prog w) callerA (.call (.ref fa) ⟨[.ref a], []⟩) (fun r s' => r = .ok (.ret (.bool true)) /\ OldK s₁.heap s'.heap /\ s'.os = s₁.os /\ AllBare s'.gens) s₁) :
    WalkO q loose XP YP l.row.toRowW d [] (fun f vs => PySem.call f vs) := by
  intro w s₀ s₁ mg mb G Y fa o pm cd doc dV kV ho hd hcd hD hmg hg args vals as hpre hlay hrd hwl hlo
  obtain rfl : dV = .none := Dflts.none hD hdf
  obtain rfl : kV = .none := Dflts.noKw hD
  obtain ⟨a, vs, ns, rfl, rfl, hobj, hints, hlen⟩ := script_of hn hpre hwl
  refine enter_call (codeAny_mono (call w s₀ s₁ mg mb fa o pm cd doc a vs ns G Y ho (fd_plain hd) hcd hmg hobj hints hlen hg) fun r s' hq => ?_)
  obtain ⟨rfl, h2, h3, h4⟩ := hq
  exact ⟨.inl ⟨.bool true, .bool true, [], rfl, fun _ => rfl, .bool true, post_true l _, fun _ => ⟨List.Pairwise.nil, fun _ hm => (nomatch hm)⟩⟩, h2, h3, h4⟩
section
variable {prog : Program} {w : World} {A : Around} {E : Value -> Shared -> Prop} {s : Shared} {K : Frag}
end
end Att
namespace L2
open PySem PySem.Spec PyProof.Rows
theorem vals_ints : ∀ {vs : List Value} {ns : List Int}, IntsAre vs ns -> Vals (ns.map V.int) vs
  | _, _, .nil => .nil
  | _, _, .cons n t h => .cons ⟨t, rfl⟩ (vals_ints h)
def Only (H : Hp) : Prop := ∀ b, H b = none \/ ∃ o xs, H b = some (.frz o (.lst xs))
theorem law_call {P : Program} {w : World} {K : PySem.W.Frag} {mg mb : Str -> Option Value} {CX : CXT} {k : Nat} {fa a : Addr} {fd : FuncData} {x : Str} {sp : Sp} {s₁ : Shared} {vs : List Value} {ns : List Int}
    (KX : K.In s₁.heap) (hns : s₁.heap.Ns mainGlobals mg) (hb : s₁.heap.Ns builtinsNs mb) (hbb : ∀ x : Str, x ≠ "__name__" -> mb x = bootBuiltins x) (hlim : s₁.heap.NoLimit) (hg : s₁.gens = #[])
    (ha : s₁.heap.get? a = some { cls := .type "list", data := .seq vs.toArray }) (hi : IntsAre vs ns) (hl : ns.length <= sizeLine) (hr : Room k callerA)
    (F : ∀ base : Heap, K.In base -> base.Ns mainGlobals mg -> FnOk P w K mg base CX k fa fd [x] sp) (hbind : ∀ (s : Shared) (u : Value), BindsTo s fd ⟨[u], []⟩ [(x, u)])
    (hsp : ∀ H : Hp, Only H -> SqL K H a (ns.map V.int) -> sp [.ref a] H (fun v _ => v = .bl true) fun _ _ _ => False)
    (hCX : ∀ H e s', CX [] H s₁ (fun _ _ _ => False) e s' -> False) :
    codeAny (model P w) callerA (.call (.ref fa) ⟨[.ref a], []⟩) (fun r s' => r = .ok (.ret (.bool true)) /\ OldK s₁.heap s'.heap /\ s'.os = s₁.os /\ AllBare s'.gens) s₁ := by
  have rv := vals_ints hi
  have lenV := hi.length
  -- from an abstract heap in which nothing but the script may be tracked
  have core : ∀ H : Hp, Only H -> SqL K H a (ns.map V.int) -> HOk P w H s₁.heap -> (∀ b, H b ≠ none -> b = a) -> (H a ≠ none -> K.lookup a = none) ->
      codeAny (model P w) callerA (.call (.ref fa) ⟨[.ref a], []⟩) (fun r s' => r = .ok (.ret (.bool true)) /\ OldK s₁.heap s'.heap /\ s'.os = s₁.os /\ AllBare s'.gens) s₁ := by
    intro H hO hS hok hA hK
    have base_of : ∀ {b : Addr} {o : Obj}, s₁.heap.get? b = some o -> H b = none -> (hidT s₁.heap H).get? b = some o := fun e n => hidT_get e n
    have noA : ∀ {b : Addr} {o : Obj} {es : Array DictEntry} {ep : Nat}, s₁.heap.get? b = some o -> o.data = .dict es ep -> H b = none := fun {b o es ep} e d => by
      cases q : H b with
      | none => rfl
      | some u =>
        have e' : b = a := hA b (by rw [q]; simp)
        subst e'
        rw [ha] at e; cases e
        have d' : Data.seq vs.toArray _ = Data.dict es ep := d
        cases d'
    have nsK : ∀ {b : Addr} {m : Str -> Option Value}, s₁.heap.Ns b m -> (hidT s₁.heap H).Ns b m := fun {b m} ⟨o, es, ep, e, d, r⟩ => ⟨o, es, ep, base_of e (noA e d), d, r⟩
    have hKb : K.In (hidT s₁.heap H) := fun b o e => base_of (KX b o e) (by
      cases q : H b with
      | none => rfl
      | some u =>
        have e' : b = a := hA b (by rw [q]; simp)
        subst e'
        rw [hK (by rw [q]; simp)] at e; cases e)
    have hM : Mod K mg (hidT s₁.heap H) := ⟨hKb, nsK hns, ⟨mb, nsK hb, hbb⟩, let ⟨mc, h1, h2⟩ := hlim; ⟨mc, nsK h1, h2⟩⟩
    have e0 : Env0 P w K mg (hidT s₁.heap H) callerA [] s₁ H := ⟨rfl, hM, fun b o e => of_hidT e, Nat.le_of_eq (hidT_size _ _), trivial, fun b hb => absurd (show b ∈ ([] : List Addr) from hb) (by simp), hok, .of_eq hg⟩
    refine codeAny_mono ((F _ hKb (nsK hns)).run callerA [] s₁ H ⟨[.ref a], []⟩ [.ref a] [.ref a] _ _ hr e0 (hbind s₁ (.ref a)) (.cons rfl .nil) (hsp H hO hS)) fun r s' h => ?_
    cases r with
    | error e => exact (hCX H e s' h).elim
    | ok fl =>
      cases fl with
      | next => exact False.elim h
      | brk => exact False.elim h
      | cont => exact False.elim h
      | ret u =>
        obtain ⟨v, H', os, bare, un, hok', r', q⟩ := h
        have q' : v = .bl true := q
        subst q'
        obtain rfl : u = Value.bool true := r'
        refine ⟨rfl, OldK.of_keep fun b o e => ?_, os, bare⟩
        cases q : H b with
        | none => exact un.keep b o e q (by intro z; exact absurd (show b ∈ ([] : List Addr) from z) (by simp)) (by simp)
        | some u =>
          rcases hO b with z | ⟨ob, xs, z⟩
          · rw [q] at z; cases z
          · have z2 := un.frzs b ob _ z
            obtain ⟨e1, _⟩ := hok b _ z
            obtain ⟨e2, _⟩ := hok' b _ z2
            rw [e] at e1; cases e1
            exact e2
  cases hk : K.lookup a with
  | some o =>
    -- the script is one of the module's own objects
    have e := KX a o hk
    rw [ha] at e
    cases e
    refine core (fun _ => none) (fun _ => .inl rfl) (.inr ⟨_, vs.toArray, _, hk, rfl, rfl, rfl, by rw [List.size_toArray, lenV]; exact hl, by simpa using rv⟩) (fun b u z => by have z' : (none : Option HO) = some u := z; cases z') (fun b z => absurd rfl z) fun z => absurd rfl z
  | none =>
    refine core (fun b => if b = a then some (.frz { cls := .type "list", data := .seq vs.toArray } (.lst (ns.map V.int))) else none) (fun b => ?_) (.inl (.inr ⟨{ cls := .type "list", data := .seq vs.toArray }, if_pos rfl⟩)) (fun b u z => ?_) (fun b z => ?_) fun _ => hk
    · by_cases hb : b = a
      · exact .inr ⟨_, _, if_pos hb⟩
      · exact .inl (if_neg hb)
    · by_cases hb : b = a
      · have z' := (if_pos hb).symm.trans z
        cases z'
        subst hb
        exact ⟨ha, by rw [List.length_map]; exact hl, vs, _, rv, ha⟩
      · have z' := (if_neg hb).symm.trans z
        cases z'
    · by_cases hb : b = a
      · exact hb
      · exact absurd (if_neg hb) z
end L2
namespace L2
open PySem PySem.Spec PyProof.Rows
theorem walk_of {l : PySem.W.OpenLaw} {n k : Nat} {q : Program} {loose : List Str} {XP : (Str -> Option Value) -> Heap -> Prop} {YP : World -> Heap -> Prop} {d : DefRec} {K : Params -> PySem.W.Frag} {CX : World -> CXT} {sp : World -> Sp} {x : Str}
    (hn : l.most = some n) (hn2 : n <= sizeLine) (hdf : d.params.defaults = []) (hr : Room k callerA)
    (hY : ∀ (w : World) (h : Heap), YP w h -> (K w.params).In h)
    (F : ∀ (w : World) (mg : Str -> Option Value) (fa : Addr) (h : Heap), (K w.params).In h -> h.Ns mainGlobals mg -> mg d.name = some (.ref fa) ->
      ∃ fd : FuncData, (∀ (s : Shared) (u : Value), BindsTo s fd ⟨[u], []⟩ [(x, u)]) /\
        ∀ base : Heap, (K w.params).In base -> base.Ns mainGlobals mg -> FnOk l.prog w (K w.params) mg base (CX w) k fa fd [x] (sp w))
    (hsp : ∀ (w : World) (H : Hp) (a : Addr) (ns : List Int), ns.length <= n -> Only H -> SqL (K w.params) H a (ns.map V.int) -> sp w [.ref a] H (fun v _ => v = .bl true) fun _ _ _ => False)
    (hCX : ∀ (w : World) (H : Hp) (s : Shared) (e : Value) (s' : Shared), CX w [] H s (fun _ _ _ => False) e s' -> False) :
    PySem.W.WalkO q loose XP YP l.row.toRowW d [] (fun f vs => PySem.call f vs) := by
  refine Att.attach_call hn hdf fun w s₀ s₁ mg mb fa o pm cd doc a vs ns G Y ho hd hcd hmg hobj hints hlen hg => ?_
  have KX := hY w _ Y
  obtain ⟨fd, hb, hF⟩ := F w mg fa _ KX G.T.g hmg
  exact law_call KX G.T.g G.T.b G.T.builtins G.T.nolimit hg hobj hints (Nat.le_trans hlen hn2) hr hF hb (fun H hO hS => hsp w H a ns hlen hO hS) fun H e s' => hCX w H s₁ e s'
end L2
namespace L2
open PySem PySem.Spec PyProof.Rows
def defArgs (s : Stmt) : Arguments := match s with
  | .FunctionDef _ a _ _ _ _ _ _ _ _ => a
  | _ => { posonlyargs := [], args := [], vararg := none, kwonlyargs := [], kw_defaults := [], kwarg := none, defaults := [] }
def defBody (s : Stmt) : List Stmt := match s with
  | .FunctionDef _ _ b _ _ _ _ _ _ _ => b
  | _ => []
def defScope (s : Stmt) : Scope := match s with
  | .FunctionDef _ _ _ _ _ _ sc _ _ _ => sc
  | _ => { kind := .function, names := [], isGenerator := false, isCoroutine := false }
structure Fun (K : PySem.W.Frag) (x qual : Str) (st : Stmt) (f : Addr) (fd : FuncData) : Prop where
  ex : ∃ (oc : Value) (od : Option Addr) (kV doc pm : Value) (an : Option Addr) (cdv ct : Value) (osl : Array (Option Value)),
    fd = PySem.W.fnOf x qual (defArgs st) (defBody st) (defScope st) .none kV doc pm an cdv ct /\ K.lookup f = some ⟨oc, od, .func fd, osl⟩ /\ PySem.W.codeIn K cdv qual = true
  kp : PySem.W.keepIn K (.ref f) = true
section
variable {P : Program} {w : World} {K : PySem.W.Frag} {mg : Str -> Option Value} {base : Heap}
theorem Fun.binds {x qual : Str} {st : Stmt} {f : Addr} {fd : FuncData} {ps : List Str} (F : Fun K x qual st f fd)
    (h : ∀ (kV doc pm : Value) (an : Option Addr) (cdv ct : Value) (us : List Value), us.length = ps.length -> bindArgs (PySem.W.fnOf x qual (defArgs st) (defBody st) (defScope st) .none kV doc pm an cdv ct) ⟨us, []⟩ = pure (ps.zip us)) : Binds K fd ps [] := by
  obtain ⟨oc, od, kV, doc, pm, an, cdv, ct, osl, rfl, lk, hcd⟩ := F.ex
  exact .all (h kV doc pm an cdv ct)
theorem fun_mk {x qual : Str} {st : Stmt} {f : Addr} {oc : Value} {od an : Option Addr} {osl : Array (Option Value)} {kV doc pm cdv ct : Value} (l : K.lookup f = some ⟨oc, od, .func (PySem.W.fnOf x qual (defArgs st) (defBody st) (defScope st) .none kV doc pm an cdv ct), osl⟩)
    (c : PySem.W.codeIn K cdv qual = true) (k : PySem.W.keepIn K (.ref f) = true) : Fun K x qual st f (PySem.W.fnOf x qual (defArgs st) (defBody st) (defScope st) .none kV doc pm an cdv ct) := ⟨⟨oc, od, kV, doc, pm, an, cdv, ct, osl, rfl, l, c⟩, k⟩
end
theorem hu_of {A : Around} {k : Nat} (hr : Room k A) : A.units + 1 < cLine := Nat.lt_of_le_of_lt (Nat.add_le_add_left (by decide : 1 <= 64) _) hr.units
section
variable {X : Cx}
end
end L2
namespace L2
open PySem PySem.Spec PyProof.Rows
section
variable {κ : Type} [DecidableEq κ]
def valV (kvs : List (κ × V)) (k : κ) : Option V := (kvs.find? fun kv => decide (kv.1 = k)).map (·.2)
def putK (kvs : List (κ × V)) (k : κ) (v : V) : List (κ × V) :=
  if (kvs.any fun kv => decide (kv.1 = k)) = true then kvs.map (fun kv => if kv.1 = k then (kv.1, v) else kv) else kvs ++ [(k, v)]
theorem valV_pos {p : κ × V} {r : List (κ × V)} {k : κ} (e : p.1 = k) : valV (p :: r) k = some p.2 := by simp [valV, List.find?_cons, e]
theorem valV_neg {p : κ × V} {r : List (κ × V)} {k : κ} (e : ¬ p.1 = k) : valV (p :: r) k = valV r k := by simp [valV, List.find?_cons, e]
theorem valV_any (k : κ) : ∀ kvs : List (κ × V), (kvs.any fun kv => decide (kv.1 = k)) = (valV kvs k).isSome
  | [] => rfl
  | p :: r => by
    rw [List.any_cons]
    by_cases e : p.1 = k
    · simp only [valV_pos e, decide_eq_true e, Bool.true_or, Option.isSome_some]
    · rw [valV_neg e, decide_eq_false e, Bool.false_or]; exact valV_any k r
theorem length_putK (kvs : List (κ × V)) (k : κ) (v : V) : (putK kvs k v).length <= kvs.length + 1 := by
  unfold putK
  split
  · rw [List.length_map]; omega
  · rw [List.length_append, List.length_cons, List.length_nil]; omega
theorem RelO.isSome_eq {o : Option V} {u : Option Value} (r : RelO o u) : o.isSome = u.isSome := by
  cases o with
  | none => cases u with
    | none => rfl
    | some _ => exact (show False from r).elim
  | some _ => cases u with
    | none => exact (show False from r).elim
    | some _ => rfl
theorem RelO.getD {o : Option V} {u : Option Value} {d : V} {d' : Value} (r : RelO o u) (rd : RelV d d') : RelV (o.getD d) (u.getD d') := by
  cases o with
  | none => cases u with
    | none => exact rd
    | some _ => exact (show False from r).elim
  | some _ => cases u with
    | none => exact (show False from r).elim
    | some _ => exact r
theorem KV.val {kvs : List (κ × V)} {vs : List (κ × Value)} (r : KV kvs vs) (k : κ) : RelO (valV kvs k) (valueAt vs k) := by
  unfold KV at r
  induction r with
  | nil => exact True.intro
  | @cons p q ps qs h t ih =>
    obtain ⟨h1, h2⟩ := h
    by_cases e : p.1 = k
    · have e' : q.1 = k := h1.symm.trans e
      have b : valueAt (q :: qs) k = some q.2 := by simp [valueAt, List.find?_cons, e']
      rw [valV_pos e, b]; exact h2
    · have e' : ¬ q.1 = k := fun z => e (h1.trans z)
      have b : valueAt (q :: qs) k = valueAt qs k := by simp [valueAt, List.find?_cons, e']
      rw [valV_neg e, b]; exact ih
theorem KV.any {kvs : List (κ × V)} {vs : List (κ × Value)} (r : KV kvs vs) (k : κ) : (kvs.any fun kv => decide (kv.1 = k)) = vs.any fun kv => decide (kv.1 = k) := by
  unfold KV at r
  induction r with
  | nil => rfl
  | cons h t ih => rw [List.any_cons, List.any_cons, ih, h.1]
theorem KV.repl {kvs : List (κ × V)} {vs : List (κ × Value)} (r : KV kvs vs) (k : κ) {y : V} {u : Value} (ry : RelV y u) :
    KV (kvs.map fun kv => if kv.1 = k then (kv.1, y) else kv) (vs.map fun kv => if kv.1 = k then (kv.1, u) else kv) := by
  unfold KV at r ⊢
  induction r with
  | nil => exact .nil
  | @cons p q ps qs h t ih =>
    rw [List.map_cons, List.map_cons]
    refine .cons ?_ ih
    obtain ⟨h1, h2⟩ := h
    by_cases e : p.1 = k
    · rw [if_pos e, if_pos (h1.symm.trans e)]; exact ⟨h1, ry⟩
    · rw [if_neg e, if_neg (fun z => e (h1.trans z))]; exact ⟨h1, h2⟩
theorem KV.put {kvs : List (κ × V)} {vs : List (κ × Value)} (r : KV kvs vs) (k : κ) {y : V} {u : Value} (ry : RelV y u) : KV (putK kvs k y) (stored vs k u) := by
  unfold putK stored
  rw [r.any k]
  by_cases e : (vs.any fun kv => decide (kv.1 = k)) = true
  · rw [if_pos e, if_pos e]; exact r.repl k ry
  · rw [if_neg e, if_neg e]; exact Paired.snoc r ⟨rfl, ry⟩
theorem KV.length {kvs : List (κ × V)} {vs : List (κ × Value)} (r : KV kvs vs) : kvs.length = vs.length := Paired.length r
end
theorem kV_is {P : Program} {w : World} {k : Key} {u : Value} (r : RelV (kV k) u) : (mixKind P w).is k u = true := by
  cases k with
  | inl i => obtain ⟨t, e⟩ := (show ∃ t, u = Value.int i t from r); subst e; exact mixKind_int P w i t
  | inr x => obtain ⟨t, e⟩ := (show ∃ t, u = Value.str x t from r); subst e; exact mixKind_str P w x t
theorem items_are {P : Program} {w : World} : ∀ {ks : List Key} {us : List Value}, Vals (ks.map kV) us -> ItemsAre (mixKind P w) ks us
  | [], _, r => by rw [List.map_nil] at r; cases r; exact .nil
  | k :: ks, _, r => by
    rw [List.map_cons] at r
    cases r with
    | cons h t => exact .cons (kV_is h) (items_are t)
abbrev KT (H : Hp) : List (List Key × V) -> List (List Key × Addr × Value) -> Prop := Paired fun p q => p.1 = q.1 /\ H q.2.1 = some (.tup (p.1.map kV)) /\ RelV p.2 q.2.2
theorem KT.val {H : Hp} {kvs : List (List Key × V)} {xs : List (List Key × Addr × Value)} (r : KT H kvs xs) (k : List Key) : RelO (valV kvs k) ((atKey xs k).map (·.2)) := by
  induction r with
  | nil => exact True.intro
  | @cons p q ps qs h t ih =>
    obtain ⟨h1, _, h2⟩ := h
    by_cases e : p.1 = k
    · have e' : q.1 = k := h1.symm.trans e
      have b : atKey (q :: qs) k = some q.2 := by simp [atKey, List.find?_cons, e']
      rw [valV_pos e, b]; exact h2
    · have e' : ¬ q.1 = k := fun z => e (h1.trans z)
      have b : atKey (q :: qs) k = atKey qs k := by simp [atKey, List.find?_cons, e']
      rw [valV_neg e, b]; exact ih
theorem KT.repl {H : Hp} {kvs : List (List Key × V)} {xs : List (List Key × Addr × Value)} (r : KT H kvs xs) (k : List Key) {y : V} {u : Value} (ry : RelV y u) :
    KT H (kvs.map fun kv => if kv.1 = k then (kv.1, y) else kv) (xs.map (putAt k u)) := by
  induction r with
  | nil => exact .nil
  | @cons p q ps qs h t ih =>
    rw [List.map_cons, List.map_cons]
    refine .cons ?_ ih
    obtain ⟨h1, h2, h3⟩ := h
    unfold putAt
    by_cases e : p.1 = k
    · rw [if_pos e, if_pos (h1.symm.trans e)]; exact ⟨h1, h2, ry⟩
    · rw [if_neg e, if_neg (fun z => e (h1.trans z))]; exact ⟨h1, h2, h3⟩
theorem KT.put {H : Hp} {kvs : List (List Key × V)} {xs : List (List Key × Addr × Value)} (r : KT H kvs xs) (k : List Key) {b : Addr} {y : V} {u : Value} (hb : H b = some (.tup (k.map kV))) (ry : RelV y u) :
    KT H (putK kvs k y) (storedH xs k b u) := by
  have e : (kvs.any fun kv => decide (kv.1 = k)) = (atKey xs k).isSome := by
    rw [valV_any, (r.val k).isSome_eq, Option.isSome_map]
  unfold putK storedH
  rw [e]
  by_cases q : (atKey xs k).isSome = true
  · rw [if_pos q, if_pos q]; exact r.repl k ry
  · rw [if_neg q, if_neg q]; exact Paired.snoc r ⟨rfl, hb, ry⟩
theorem KT.keeps {H H' : Hp} {kvs : List (List Key × V)} {xs : List (List Key × Addr × Value)} (r : KT H kvs xs) (ht : ∀ b ys, H b = some (.tup ys) -> H' b = some (.tup ys)) : KT H' kvs xs :=
  Paired.mapP r fun _ _ z => ⟨z.1, ht _ _ z.2.1, z.2.2⟩
section
variable {P : Program} {w : World} {H : Hp} {h : Heap} {a : Addr}
theorem rd_of {u : HO} (ok : HOk P w H h) (e : Rd H a u) : ObjOk P w H h a u := e.ok ok
theorem dk_rd {kvs : List (Key × V)} (ok : HOk P w H h) (e : Rd H a (.dK kvs)) : kvs.length <= sizeLine /\ (a == sysModules) = false /\ ∃ vs, KV kvs vs /\ h.DictOf (mixKind P w) a vs :=
  show ObjOk P w H h a (.dK kvs) from rd_of ok e
theorem dk_of {kvs : List (Key × V)} (ok : HOk P w H h) (e : H a = some (.dK kvs)) : kvs.length <= sizeLine /\ (a == sysModules) = false /\ ∃ vs, KV kvs vs /\ h.DictOf (mixKind P w) a vs := dk_rd ok (.inl e)
theorem key_of {ks : List Key} (ok : HOk P w H h) (e : H a = some (.tup (ks.map kV))) : (tupleKind (mixKind P w)).is h ks a := by
  obtain ⟨_, its, r, o, h1, h2, n, h3⟩ := (show ObjOk P w H h a (.tup (ks.map kV)) from ok a _ e)
  exact ⟨o, its.toArray, n, h1, h2, h3, by simpa using items_are r⟩
theorem dt_rd {kvs : List (List Key × V)} (ok : HOk P w H h) (e : Rd H a (.dT kvs)) : kvs.length <= sizeLine /\ (a == sysModules) = false /\
    ∃ xs, KT H kvs xs /\ h.DictOfH (tupleKind (mixKind P w)) a xs := by
  obtain ⟨z, y, xs, r, o, es, ep, h1, h2, h3, h4, h5⟩ := (show ObjOk P w H h a (.dT kvs) from rd_of ok e)
  refine ⟨z, y, xs, r, o, es, ep, h1, h2, h3, h4, fun x hx => ?_, h5⟩
  have all : ∀ {l : List (List Key × V)} {m : List (List Key × Addr × Value)}, KT H l m -> ∀ x ∈ m, (tupleKind (mixKind P w)).is h x.1 x.2.1 := by
    intro l m q
    induction q with
    | nil => intro x hx; exact nomatch hx
    | @cons p q ps qs hq t ih =>
      intro x hx
      rcases List.mem_cons.mp hx with e | hx
      · subst e
        exact key_of ok (by rw [<- hq.1]; exact hq.2.1)
      · exact ih x hx
  exact all r x hx
theorem dt_of {kvs : List (List Key × V)} (ok : HOk P w H h) (e : H a = some (.dT kvs)) : kvs.length <= sizeLine /\ (a == sysModules) = false /\
    ∃ xs, KT H kvs xs /\ h.DictOfH (tupleKind (mixKind P w)) a xs := dt_rd ok (.inl e)
end
def DGet (H : Hp) (a : Addr) (y : V) (r : Option V) : Prop :=
  (∃ kvs k, Rd H a (.dK kvs) /\ y = kV k /\ r = valV kvs k) \/ ∃ kvs k b, Rd H a (.dT kvs) /\ y = .ref b /\ H b = some (.tup (k.map kV)) /\ r = valV kvs k
def DPut (H : Hp) (a : Addr) (y v : V) (H' : Hp) : Prop :=
  (∃ kvs k, H a = some (.dK kvs) /\ y = kV k /\ kvs.length < sizeLine /\ H' = upd H a (.dK (putK kvs k v))) \/
  ∃ kvs k b, H a = some (.dT kvs) /\ y = .ref b /\ H b = some (.tup (k.map kV)) /\ kvs.length < sizeLine /\ H' = upd H a (.dT (putK kvs k v))
section
variable {X : Cx} {pins : List (Addr × Obj)} {σ : St} {H : Hp} {s : Shared} {a : Addr} {y v : V} {u r : Value} {o : Option V} {A : Around} {E : Value -> Shared -> Prop}
theorem Inv.big (I : Inv X pins σ H s) : sysModules < s.heap.objs.size := by
  have h : mainGlobals < s.heap.objs.size := (I.mod.glob.keeps I.bk).lt
  exact Nat.lt_trans (by decide) h
theorem d_write {h' : Heap} {t' : Nat} {ob : HO} (I : Inv X pins σ H s) (mu : Mut (H a)) (hs : Heap.SameBut a s.heap h') (he : ∃ q, h'.get? a = some q) (new : ObjOk X.prog X.w (upd H a ob) h' a ob) :
    Inv X pins σ (upd H a ob) { s with heap := h', toks := t' } :=
  I.write (x := a) (e := a) mu (.inl rfl) (fun b q hb z => (hs.2 b hb).trans z) he new
theorem dk_new {P : Program} {w : World} {H' : Hp} {h' : Heap} {kvs : List (Key × V)} {vs : List (Key × Value)} (z : kvs.length <= sizeLine) (hd : (a == sysModules) = false) (rel : KV kvs vs) (dd : h'.DictOf (mixKind P w) a vs) :
    ObjOk P w H' h' a (.dK kvs) := ⟨z, hd, vs, rel, dd⟩
theorem d_setItem {H' : Hp} {Q : Unit -> Shared -> Prop} (hu : A.units + 1 < cLine) (I : Inv X pins σ H s) (g : DPut H a y v H') (ry : RelV y u) (rv : RelV v r) (h : ∀ s', Inv X pins σ H' s' -> Q () s') :
    wpAny (model X.prog X.w) A (setItem (.ref a) u r) Q E s := by
  rcases g with ⟨kvs, k, e, ey, l, eH⟩ | ⟨kvs, k, b, e, ey, eb, l, eH⟩
  · subst ey eH
    obtain ⟨z, hd, vs, rel, dd⟩ := dk_of I.hok e
    have hz : vs.length <= sizeLine := by rw [<- rel.length]; exact z
    have hl : (putK kvs k v).length <= sizeLine := by have := length_putK kvs k v; omega
    refine wpAny_setItem_pairs (hsz := hz) (kV_is ry) dd fun h' dd' hs => h _ ?_
    have he : ∃ q, h'.get? a = some q := let ⟨q, _, _, hq, _⟩ := dd'; ⟨q, hq⟩
    exact d_write I (by rw [e]; exact True.intro) hs he (dk_new hl hd (rel.put k rv) dd')
  · subst ey eH
    cases (show u = Value.ref b from ry)
    obtain ⟨z, hd, xs, rel, dd⟩ := dt_of I.hok e
    have hz : xs.length <= sizeLine := by rw [<- Paired.length rel]; exact z
    have hl : (putK kvs k v).length <= sizeLine := by have := length_putK kvs k v; omega
    refine wpAny_setItem_heap (hsz := hz) (tupleKind_room_in1 hu) (key_of I.hok eb) dd fun h' dd' hs => h _ ?_
    obtain ⟨q, es, ep, hq, h2, h3, h4, _, h5⟩ := dd'
    refine d_write I (by rw [e]; exact True.intro) hs ⟨q, hq⟩ ⟨hl, hd, _, (rel.put k eb rv).keeps fun c ys ec => ?_, q, es, ep, hq, h2, h3, h4, h5⟩
    rw [upd_ne (ne_of ec e (fun z => nomatch z))]
    exact ec
end
section
variable {X : Cx} {pins : List (Addr × Obj)} {σ : St} {H : Hp} {s : Shared} {a : Addr} {kvs : List (Key × V)} {k : Key} {u : Value} {A : Around} {E : Value -> Shared -> Prop}
end
def NoSl (i : Expr) : Prop := ∀ ov iv, subscripted i false ov iv = operate [ov, iv] (getItem ov iv)
theorem subD_of {prog : Program} {w : World} {A : Around} {E : Value -> Shared -> Prop} {s : Shared} {env : Env} {value slice : Expr} {pos : Pos} {T id : String} {Q : Value -> Shared -> Prop}
    (hl : typeLookup (.type T) "__getitem__" = pure (some (.builtin id))) (hs : NoSl slice)
    (h : wpAny (model prog w) A (eval value env) (fun o s₁ => wpAny (model prog w) A (eval slice env) (fun i s₂ => s₂.TypeIs o T /\ wpAny (model prog w) A (getItem o i) Q E s₂) E s₁) E s) :
    wpAny (model prog w) A (eval (.Subscript value slice pos) env) Q E s := by
  refine Subscript_ (wpAny_mono h (fun o s₁ h₁ => wpAny_mono h₁ (fun i s₂ h₂ => ?_) fun _ _ x => x) fun _ _ x => x)
  obtain ⟨hT, h₂⟩ := h₂
  unfold subscriptTail
  refine wpAny_bind ?_
  rw [getitemInPython_of_ne hT.not_modules]
  refine wpAny_bind (wpAny_specialOf hT hl ?_)
  have fin : wpAny (model prog w) A (subscripted slice false o i) (fun r s₃ => wpAny (model prog w) A (letTemporaryGo value o r >>= fun _ => pure r) Q E s₃) E s₂ := by
    rw [hs o i]
    exact wpAny_operating (wpAny_mono h₂ (fun r s₃ h₃ => wpAny_bind (wpAny_letTemporaryGo (wpAny_pure h₃))) fun _ _ x => x)
  first
    | exact wpAny_pure (wpAny_bind fin)
    | exact wpAny_bind (wpAny_pure (wpAny_bind fin))
    | exact wpAny_bind fin
def sDPut (td ty tv : TE) : TS := fun D σ H => tv σ H fun v H1 => td σ H1 fun x H2 => ty σ H2 fun y H3 => ∃ a H4, x = .ref a /\ DPut H3 a y v H4 /\ D.nx σ H4
section
variable {X : Cx} {o i e value : Expr} {pos pos' tpos : Pos} {td ty tv : TE}
theorem ps_dput (hu : X.A.units + 1 < cLine) (ho : PE X o td) (hi : PE X i ty) (hv : PE X value tv) (hs : swapsWith value (some (.Subscript o i pos')) pos.line X.env = pure false) :
    PS X (.Assign [.Subscript o i pos'] value pos) (sDPut td ty tv) := by
  intro pins s σ H D I h
  refine wpAny_Assign_Subscript (thn (hv pins s σ H _ I h) fun r s1 ⟨v, H1, I1, rv, q1⟩ => thn (ho pins s1 σ H1 _ I1 q1) fun u s2 ⟨x, H2, I2, rx, q2⟩ => thn (hi pins s2 σ H2 _ I2 q2) fun iv s3 ⟨y, H3, I3, ry, a, H4, ex, g, q3⟩ => ?_) hs
  subst ex
  obtain rfl : u = Value.ref a := rx
  exact d_setItem hu I3 g ry rv fun s4 I4 => ⟨σ, H4, I4, q3⟩
end
theorem dk_empty {P : Program} {w : World} {H : Hp} (h : Heap) (hb : sysModules < h.objs.size) : ObjOk P w H (h.push { cls := .type "dict", data := .dict #[] }) h.objs.size (.dK []) :=
  ⟨Nat.zero_le _, beq_eq_false_iff_ne.mpr (Ne.symm (Nat.ne_of_lt hb)), [], .nil, Heap.DictOf.new h⟩
section
variable {X : Cx} {pos : Pos}
end
def tPairs : List (TE × TE) -> St -> Hp -> (List (V × V) -> Hp -> Prop) -> Prop
  | [], _, H, Q => Q [] H
  | (tk, tv) :: r, σ, H, Q => tk σ H fun x H1 => tv σ H1 fun y H2 => tPairs r σ H2 fun ps H3 => Q ((x, y) :: ps) H3
abbrev VV : List (V × V) -> List (Value × Value) -> Prop := Paired fun p q => RelV p.1 q.1 /\ RelV p.2 q.2
def PPs (X : Cx) (pos : Pos) (keys : List (Option Expr)) (values : List Expr) (trs : List (TE × TE)) : Prop :=
  ∀ (pins : List (Addr × Obj)) (s : Shared) (σ : St) (H : Hp) (Q : List (V × V) -> Hp -> Prop), Inv X pins σ H s -> tPairs trs σ H Q ->
    wpAny (model X.prog X.w) X.A (evalPairs (pairTrees keys values X.env pos)) (fun vs s' => ∃ ps H', Inv X pins σ H' s' /\ VV ps vs /\ Q ps H') X.xe s
theorem pps_nil {X : Cx} {pos : Pos} : PPs X pos [] [] [] := fun pins s σ H Q I h => pairTrees_nil_walk ⟨[], H, I, .nil, h⟩
theorem pps_cons {X : Cx} {pos : Pos} {k v : Expr} {ks : List (Option Expr)} {vs : List Expr} {tk tv : TE} {trs : List (TE × TE)} (hk : PE X k tk) (hv : PE X v tv) (hr : PPs X pos ks vs trs) :
    PPs X pos (some k :: ks) (v :: vs) ((tk, tv) :: trs) := fun pins s σ H Q I h =>
  pairTrees_cons_walk (thn (hk pins s σ H _ I h) fun u s1 ⟨x, H1, I1, rx, q1⟩ => thn (hv pins s1 σ H1 _ I1 q1) fun w2 s2 ⟨y, H2, I2, ry, q2⟩ =>
    thn (hr pins s2 σ H2 _ I2 q2) fun ws s3 ⟨ps, H3, I3, rel, q3⟩ => ⟨(x, y) :: ps, H3, I3, .cons ⟨rx, ry⟩ rel, q3⟩)
def mergeK (kvs more : List (Key × V)) : List (Key × V) := more.foldl (fun acc kv => putK acc kv.1 kv.2) kvs
theorem KV.merge : ∀ {more : List (Key × V)} {rs : List (Key × Value)} {kvs : List (Key × V)} {vs : List (Key × Value)}, KV more rs -> KV kvs vs -> KV (mergeK kvs more) (merged vs rs) := by
  intro more rs kvs vs r
  unfold KV at r
  induction r generalizing kvs vs with
  | nil => intro q; exact q
  | @cons p q ps qs h t ih =>
    intro r0
    have e : KV (putK kvs p.1 p.2) (stored vs q.1 q.2) := by
      have := r0.put p.1 h.2
      rw [<- h.1]; exact this
    exact ih e
theorem length_mergeK : ∀ (more kvs : List (Key × V)), (mergeK kvs more).length <= kvs.length + more.length
  | [], kvs => by show kvs.length <= kvs.length + 0; omega
  | p :: r, kvs => by
    have h1 := length_mergeK r (putK kvs p.1 p.2)
    have h2 := length_putK kvs p.1 p.2
    show (mergeK (putK kvs p.1 p.2) r).length <= _
    rw [List.length_cons]; omega
theorem carries_of {P : Program} {w : World} : ∀ {kvs : List (Key × V)} {ws : List (Value × Value)}, VV (kvs.map fun kv => (kV kv.1, kv.2)) ws -> ∃ rs, Carries (mixKind P w) ws rs /\ KV kvs rs
  | [], _, r => by rw [List.map_nil] at r; cases r; exact ⟨[], True.intro, .nil⟩
  | p :: kvs, _, r => by
    rw [List.map_cons] at r
    cases r with
    | @cons a b as bs h t =>
      obtain ⟨rs, c, q⟩ := carries_of (P := P) (w := w) t
      obtain ⟨b1, b2⟩ := b
      exact ⟨(p.1, b2) :: rs, ⟨kV_is h.1, rfl, c⟩, .cons ⟨rfl, h.2⟩ q⟩
def tDisp (trs : List (TE × TE)) : TE := fun σ H Q => ∀ p, H p = none -> tPairs trs σ (upd H p (.dK [])) fun ps H2 => H2 p = some (.dK []) /\ ∃ kvs : List (Key × V), ps = kvs.map (fun kv => (kV kv.1, kv.2)) /\ kvs.length <= 15 /\ Q (.ref p) (upd H2 p (.dK (mergeK [] kvs)))
theorem pe_disp {X : Cx} {pos : Pos} {keys : List (Option Expr)} {values : List Expr} {trs : List (TE × TE)} (h : PPs X pos keys values trs) (hall : keys.all (·.isSome) = true) (hl : keys.length = values.length) (h0 : keys ≠ [])
    (h15 : keys.length <= 15) : PE X (.Dict keys values pos) (tDisp trs) := by
  intro pins s σ H Q I q
  have hn := I.hok.fresh (Nat.le_refl s.heap.objs.size)
  have I1 := I.laid (a := s.heap.objs.size) (o := .dK []) (h' := s.heap.push { cls := .type "dict", data := .dict #[] }) (t' := s.toks) (fun _ _ q => Heap.get?_push_of_some _ q) (Nat.le_refl _) (dk_empty s.heap I.big)
  refine wpAny_Dict_walk (knd := mixKind X.prog X.w) hall hl h0 h15 (thn (h pins _ σ _ _ I1 (q _ hn)) fun ws s2 ⟨ps, H2, I2, rel, e, kvs, ep, lk, q2⟩ => ?_)
  subst ep
  obtain ⟨rs, c, rk⟩ := carries_of (P := X.prog) (w := X.w) rel
  obtain ⟨z, hd, vs0, r0, dd⟩ := dk_of I2.hok e
  cases r0
  refine ⟨rs, c, dd, fun h' dd' hs => ⟨.ref s.heap.objs.size, _, ?_, rfl, q2⟩⟩
  have hz : (mergeK [] kvs).length <= sizeLine := by
    have h1 := length_mergeK kvs []
    rw [List.length_nil] at h1
    rw [sizeLine_eq]; omega
  have he : ∃ q, h'.get? s.heap.objs.size = some q := let ⟨q, _, _, hq, _⟩ := dd'; ⟨q, hq⟩
  exact d_write I2 (by rw [e]; exact True.intro) hs he (dk_new hz hd (rk.merge .nil) dd')
structure M2 (X : Cx) (o : Expr) (m : Str) (apos : Pos) (e f : Expr) (cpos : Pos) : Prop where
  base : attributeBase o m X.env (eval o X.env) = eval o X.env
  few : ((backTo cpos (starEach [e, f] X.env)).all (fun x => !x.1) && (backToKw cpos (keywordEach [] X.env)).all (fun x => x.1.isSome)
    && decide (([e, f] : List Expr).length + ([] : List Keyword).length + (if ([] : List Keyword).isEmpty then 0 else 1) < 30)) = true
  line : (apos.endLine == cpos.line) = true
  trees : backTo cpos (starEach [e, f] X.env) = [(false, eval e X.env), (false, eval f X.env)]
def IsD (H : Hp) (a : Addr) : Prop := (∃ kvs, Rd H a (.dK kvs)) \/ ∃ kvs, Rd H a (.dT kvs)
theorem isD_at {X : Cx} {pins : List (Addr × Obj)} {σ : St} {H : Hp} {s : Shared} {a : Addr} (I : Inv X pins σ H s) (d : IsD H a) :
    s.TypeIs (.ref a) "dict" /\ (∀ b, Value.ref a = .ref b -> ∃ ob, s.heap.get? b = some ob /\ ob.dict = none) /\ (a == sysModules) = false := by
  rcases d with ⟨kvs, e⟩ | ⟨kvs, e⟩
  · obtain ⟨_, hd, vs, _, dd⟩ := dk_rd I.hok e
    refine ⟨dd.typeIs, fun b q => ?_, hd⟩
    cases q
    obtain ⟨ob, _, _, h1, h2, _⟩ := dd
    exact ⟨ob, h1, h2.2.1⟩
  · obtain ⟨_, hd, xs, _, dd⟩ := dt_rd I.hok e
    refine ⟨dd.typeIs, fun b q => ?_, hd⟩
    cases q
    obtain ⟨ob, _, _, h1, h2, _⟩ := dd
    exact ⟨ob, h1, h2.2.1⟩
section
variable {X : Cx} {pins : List (Addr × Obj)} {σ : St} {H : Hp} {s : Shared} {a : Addr} {y d : V} {u r : Value} {o : Option V} {A : Around} {E : Value -> Shared -> Prop}
theorem d_get2 {Q : Value -> Shared -> Prop} (hu : A.units + 1 < cLine) (I : Inv X pins σ H s) (g : DGet H a y o) (ry : RelV y u) (rd : RelV d r) (h : ∀ w' s', Inv X pins σ H s' -> RelV (o.getD d) w' -> Q w' s') :
    wpAny (model X.prog X.w) A (call (.builtin "dict.get") [.ref a, u, r]) Q E s := by
  rcases g with ⟨kvs, k, e, ey, l⟩ | ⟨kvs, k, b, e, ey, eb, l⟩
  · subst ey
    obtain ⟨z, hd, vs, rel, dd⟩ := dk_rd I.hok e
    refine call_meetsIn PySem.F.slot_dict_get dd.typeIs PySem.F.entry_dict_get (PySem.F.args_dict_get_3 _ _ _) (meets_dict_get_default (mixKind X.prog X.w) a (kV_is ry) hd r) ⟨_, dd.mapOf, h _ _ (I.tok _) ?_⟩
    rw [l]
    exact (rel.val k).getD rd
  · subst ey
    cases (show u = Value.ref b from ry)
    obtain ⟨z, hd, xs, rel, dd⟩ := dt_rd I.hok e
    refine call_meetsIn PySem.F.slot_dict_get dd.typeIs PySem.F.entry_dict_get (PySem.F.args_dict_get_3 _ _ _) (meetsH_dict_get_default (tupleKind (mixKind X.prog X.w)) a b hd r) ⟨tupleKind_room_in1 hu, k, xs, key_of I.hok eb, dd, h _ _ (I.tok _) ?_⟩
    rw [l]
    exact (rel.val k).getD rd
end
def tDGet2 (td ty tx : TE) : TE := fun σ H Q => td σ H fun x H1 => ∃ a, x = .ref a /\ IsD H1 a /\ ty σ H1 fun y H2 => tx σ H2 fun z H3 => ∃ o, DGet H3 a y o /\ Q (o.getD z) H3
section
variable {X : Cx} {o e f : Expr} {apos cpos : Pos} {td ty tx : TE}
theorem pe_dget2 (hu : X.A.units + 1 < cLine) (ho : PE X o td) (he : PE X e ty) (hf : PE X f tx) (m : M2 X o "get" apos e f cpos) : PE X (.Call (.Attribute o "get" apos) [e, f] [] cpos) (tDGet2 td ty tx) := by
  intro pins s σ H Q I h
  refine wpAny_Call_method m.base m.few m.line PySem.F.plainAttrs_dict PySem.F.slot_dict_get PySem.F.type_dict_get (thn (ho pins s σ H _ I h) fun u s1 ⟨x, H1, I1, rx, a, ex, d, q1⟩ => ?_)
  subst ex
  obtain rfl : u = Value.ref a := rx
  obtain ⟨t1, t2, _⟩ := isD_at I1 d
  refine ⟨t1, t2, ?_⟩
  rw [m.trees]
  refine Calls.callWith_builtin rfl (Calls.evalArgs_plain (Calls.spliced_cons (thn (he pins s1 σ H1 _ I1 q1) fun iv s2 ⟨y, H2, I2, ry, q2⟩ =>
    Calls.spliced_cons (thn (hf pins s2 σ H2 _ I2 q2) fun fv s3 ⟨z, H3, I3, rz, ov, g, q3⟩ => Calls.spliced_nil ?_))))
  exact d_get2 hu I3 g ry rz fun w' s4 I4 rw' => ⟨_, H3, I4, rw', q3⟩
end
section
variable {X : Cx} {pins : List (Addr × Obj)} {σ : St} {H : Hp} {s : Shared} {a : Addr} {kvs : List (Key × V)} {A : Around} {E : Value -> Shared -> Prop}
end
section
variable {X : Cx} {pins : List (Addr × Obj)} {σ : St} {H : Hp} {s : Shared} {a : Addr} {y : V} {u : Value} {A : Around} {E : Value -> Shared -> Prop}
end
end L2
namespace WE
open PySem PySem.Spec PyProof.Rows
open AutoSeq1 (wpAny_loadPart')
section
variable {pg : Program} {wd : World} {A : Around} {Er : Value -> Shared -> Prop} {s : Shared}
theorem nextT_item {it t : Addr} {i : Nat} {xs : Array Value} {x : Value} {Q : Value -> Shared -> Prop} (hi : s.heap.IsTupleIter it t i) (ht : s.heap.IsTuple t xs) (hx : xs[i]? = some x)
    (k : ∀ h', h'.IsTupleIter it t (i + 1) -> Heap.SameBut it s.heap h' -> Q x { s with heap := h' }) : wpAny (model pg wd) A (Builtin.SmallTypes.nextOf (.ref it)) Q Er s := by
  obtain ⟨oi, gi, ci, di⟩ := id hi
  obtain ⟨ot, gt, _, nt, dt⟩ := ht
  unfold Builtin.SmallTypes.nextOf
  refine wpAny_bind (wpAny_callSpecial?_slot (name := Str.ofString "__next__") hi.typeIs F.slot_tuple_iterator_next (wpAny_call_entry F.slot_tuple_iterator_next hi.typeIs F.entry_tuple_iterator_next ?_ (F.args_tuple_iterator_next_1 _)))
  show wpAny _ _ (field (.ref it) 0 >>= _) _ _ _
  refine wpAny_bind (wpAny_field gi di (x := .ref t) rfl ?_); show wpAny _ _ (if (Value.ref t == Value.none) = true then _ else _) _ _ _
  rw [if_neg (show ¬ ((Value.ref t == Value.none) = true) from fun z => Bool.false_ne_true z)]; show wpAny _ _ (field (.ref it) 1 >>= _) _ _ _
  refine wpAny_bind (wpAny_field gi di (x := .int i 0) rfl ?_); show wpAny _ _ (seqItems? (.ref t) >>= _) _ _ _
  refine wpAny_bind (wpAny_seqItems gt dt ?_)
  simp only [Int.toNat_natCast, hx]
  refine wpAny_bind (wpAny_setField gi di (by simp) (wpAny_pure ⟨x, rfl, wpAny_pure (k _ ?_ (Heap.SameBut.update ..))⟩))
  refine ⟨_, Heap.get?_update_self _ gi (Obj.isFreed_of_fields (Obj.data_mapFields di _)), (Obj.cls_mapFields ..).trans ci, ?_⟩
  rw [Obj.data_mapFields di]; simp [rawInt]
theorem nextT_end {it t : Addr} {i : Nat} {xs : Array Value} {Q : Value -> Shared -> Prop} (hh : A.handled = none) (hi : s.heap.IsTupleIter it t i) (ht : s.heap.IsTuple t xs) (hx : xs[i]? = none)
    (k : ∀ h' e, Heap.ExtBut it s.heap h' -> (∃ o, h'.get? e = some o /\ o.cls = .type "StopIteration") -> Er (.ref e) { s with heap := h' }) : wpAny (model pg wd) A (Builtin.SmallTypes.nextOf (.ref it)) Q Er s := by
  obtain ⟨oi, gi, ci, di⟩ := id hi
  obtain ⟨ot, gt, _, nt, dt⟩ := ht
  unfold Builtin.SmallTypes.nextOf
  refine wpAny_bind (wpAny_callSpecial?_slot (name := Str.ofString "__next__") hi.typeIs F.slot_tuple_iterator_next (wpAny_call_entry F.slot_tuple_iterator_next hi.typeIs F.entry_tuple_iterator_next ?_ (F.args_tuple_iterator_next_1 _)))
  show wpAny _ _ (field (.ref it) 0 >>= _) _ _ _
  refine wpAny_bind (wpAny_field gi di (x := .ref t) rfl ?_); show wpAny _ _ (if (Value.ref t == Value.none) = true then _ else _) _ _ _
  rw [if_neg (show ¬ ((Value.ref t == Value.none) = true) from fun z => Bool.false_ne_true z)]; show wpAny _ _ (field (.ref it) 1 >>= _) _ _ _
  refine wpAny_bind (wpAny_field gi di (x := .int i 0) rfl ?_); show wpAny _ _ (seqItems? (.ref t) >>= _) _ _ _
  refine wpAny_bind (wpAny_seqItems gt dt ?_)
  simp only [Int.toNat_natCast, hx]
  refine wpAny_bind (wpAny_rule (wpAny_bind (wpAny_setField gi di (by simp) ?_))); show wpAny _ _ (newExc (.type "StopIteration") [] >>= _) _ _ _
  refine wpAny_bind ?_; simp only [newExc, newTuple]
  refine wpAny_bind (wpAny_newObj_type ?_ (by size_fits)); refine wpAny_bind (m := firstArgMember _ _) (wpAny_of_eq (a := Value.none) (by first | rfl | (simp only [firstArgMember]; rfl)) ?_)
  refine wpAny_newObj_type ?_ (by size_fits); simp only [raiseNew]
  refine wpAny_bind (wpAny_handled ?_); first | rw [show A.in1.handled = none from hh] | rw [hh]
  refine wpAny_bind (wpAny_pure (wpAny_throw ?_))
  exact k _ _ (((Heap.SameBut.update ..).extBut.push _).push _) ⟨_, Heap.get?_push_size _ rfl, rfl⟩
end
theorem draws_tuple {pg : Program} {wd : World} {A : Around} (hh : A.handled = none) (it t : Addr) (hne : t ≠ it) (xs : Array Value) :
    Draws pg wd A it [it, t] xs.size (fun i v => xs[i]? = some v) (fun i h => h.IsTupleIter it t i /\ h.IsTuple t xs) where
  live := fun _ _ st => let ⟨o, g, _⟩ := st.1; ⟨o, g⟩
  frame := fun _ _ _ st kp => ⟨let ⟨o, g, r⟩ := st.1; ⟨o, kp it (by simp) o g, r⟩, let ⟨o, g, r⟩ := st.2; ⟨o, kp t (by simp) o g, r⟩⟩
  item := fun i s Q E hi st hQ => nextT_item st.1 st.2 (x := xs[i]) (by simp [hi]) fun h' hit' hs' => hQ _ h' s.toks (by simp [hi]) ⟨hit', st.2.extBut hs'.extBut hne⟩ hs'
  done := fun s Q E st hE => nextT_end hh st.1 st.2 (by simp) hE
theorem meets_enumT (l : Addr) (xs : Array Value) (n : Nat) (dc : Option Addr) (sl : Array (Option Value)) :
    Meets (Builtin.«enumerate.__new__» ⟨[.type "enumerate", .ref l], []⟩) (fun _ R s => s.heap.get? l = some { cls := .type "tuple", dict := dc, data := .seq xs n, slots := sl } /\
      R (.ok (.ret (.ref (s.heap.push { cls := .type "tuple_iterator", data := .fields #[.ref l, .int 0 0] }).objs.size)))
        { s with heap := (s.heap.push { cls := .type "tuple_iterator", data := .fields #[.ref l, .int 0 0] }).push { cls := .type "enumerate", data := .fields #[.none, .bool false, .ref s.heap.objs.size, rawInt 0, .none, .none] } }) :=
  .of_wp fun prog w A R s h => by
    obtain ⟨hp, g, d, tk, os⟩ := s; obtain ⟨gl, h⟩ := h
    have hsub := sub_enumerate
    have hT : Heap.IsTuple (Shared.heap ⟨hp, g, d, tk, os⟩) l xs := ⟨_, gl, rfl, n, rfl⟩
    wp_walk using wpAny_loadPart' gl
    refine wpAny_stack_any fun st => wpAny_pure ?_
    split
    · rename_i c _ _ _ _ _
      cases (c == Value.type "enumerate")
      · wp_walk using wpAny_loadPart' gl, wpAny_pyIter_tuple hT
        exact ⟨_, rfl, h⟩
      · wp_walk using wpAny_loadPart' gl, wpAny_pyIter_tuple hT
        exact ⟨_, rfl, h⟩
    · wp_walk using wpAny_loadPart' gl, wpAny_pyIter_tuple hT
      exact ⟨_, rfl, h⟩
theorem call_enumT {pg : Program} {wd : World} {A : Around} {Er : Value -> Shared -> Prop} {s : Shared} {l : Addr} {xs : Array Value} {Q : Value -> Shared -> Prop} (hT : s.heap.IsTuple l xs)
    (k : ∀ h', IsEnum h' (s.heap.objs.size + 1) s.heap.objs.size 0 .none -> h'.IsTupleIter s.heap.objs.size l 0 -> h'.objs.size = s.heap.objs.size + 2 ->
      (∀ b o, s.heap.get? b = some o -> h'.get? b = some o) -> Q (.ref (s.heap.objs.size + 1)) { s with heap := h' }) : wpAny (model pg wd) A (call (.type "enumerate") [.ref l]) Q Er s := by
  obtain ⟨⟨c, dct, dt, sl⟩, gl, hc, n, hd⟩ := hT
  cases (show c = .type "tuple" from hc)
  cases (show dt = .seq xs n from hd)
  refine callType_new F.called_enumerate (by decide) (F.typeCall_enumerate_1 _) (F.newCall_enumerate_1 _) (fun obj => F.args_object_init_2 obj _) F.entry_enumerate_new (meets_enumT l xs n dct sl) ⟨gl, ?_⟩
  have hz : (s.heap.push { cls := .type "tuple_iterator", data := .fields #[.ref l, .int 0 0] }).objs.size = s.heap.objs.size + 1 := Heap.size_push ..
  show _ /\ _
  rw [hz]
  have he : IsEnum ((s.heap.push { cls := .type "tuple_iterator", data := .fields #[.ref l, .int 0 0] }).push { cls := .type "enumerate", data := .fields #[.none, .bool false, .ref s.heap.objs.size, rawInt 0, .none, .none] }) (s.heap.objs.size + 1) s.heap.objs.size 0 .none := by
    have q := Heap.get?_push_size (s.heap.push { cls := .type "tuple_iterator", data := .fields #[.ref l, .int 0 0] }) (o := { cls := .type "enumerate", data := .fields #[.none, .bool false, .ref s.heap.objs.size, rawInt 0, .none, .none] }) rfl
    rw [hz] at q; exact q
  exact ⟨⟨_, he, rfl⟩, k _ he ⟨_, Heap.get?_push_of_some _ (Heap.get?_push_size _ rfl), rfl, rfl⟩ (by rw [Heap.size_push, hz]) fun b o y => Heap.get?_push_of_some _ (Heap.get?_push_of_some _ y)⟩
end WE
namespace L2
open PySem PySem.Spec PyProof.Rows
section
variable {X : Cx}
def CDivB (i j : Int) : Prop := 0 < j /\ j < 10000000000000000000000000000000000000000000000000000000000000000000000
theorem op_fdivB : OpR X (binaryOp .FloorDiv) (rI CDivB fun i j => .int (i / j)) := opI fun i j _ _ _ _ _ hc q => by
  obtain ⟨h1, h2⟩ := hc
  refine floordiv_int (by omega) (by rw [Int.fdiv_eq_ediv_of_nonneg i (by omega)]; exact q) (.inl (PyProof.noPylong_of_log2 ?_))
  have h0 : j.natAbs ≠ 0 := by omega
  refine Nat.lt_of_lt_of_le ((Nat.log2_lt h0).mpr (?_ : j.natAbs < 2 ^ 250)) (by decide)
  have e : (10000000000000000000000000000000000000000000000000000000000000000000000 : Nat) < 2 ^ 250 := by decide
  omega
end
section
variable {X : Cx} {pins : List (Addr × Obj)} {σ : St} {H : Hp} {s : Shared} {h' : Heap}
theorem Inv.turnLaid {t' : Nat} {ch : List Addr} {T : Addr} {o : HO} (I : Inv X pins σ H s) (hf : ∀ b ∈ ch, FpOk X pins H b) (k : ∀ b u, b ∉ ch -> s.heap.get? b = some u -> h'.get? b = some u)
    (hp : s.heap.objs.size <= T) (new : ObjOk X.prog X.w (upd H T o) h' T o) : Inv X pins σ (upd H T o) { s with heap := h', toks := t' } := by
  have hn : H T = none := I.hok.fresh hp
  have nch : ∀ b u, H b = some u -> b ∉ ch := fun b u e z => by
    have q := (hf b z).1
    rw [e] at q
    cases q
  refine I.step (g' := s.gens) (d' := s.drawn) (ch := ch) (fun b hb => ?_) (fun b u _ _ hc e _ => k b u hc e) (fun b u _ _ hc e _ => ⟨u.slots, k b u hc e⟩) (fun b u _ e n => ?_) (fun b u hc e => ⟨u, k b u hc e⟩) (fun b xs e => ?_) (fun b u v e => ?_) (fun b ps e => ⟨#[], ?_⟩) (fun m hm => ?_) (fun b u e => ?_) I.bare
  · obtain ⟨f0, f1, f2, f3, f4, f5⟩ := hf b hb
    exact ⟨f3, f1, f4, f5⟩
  · rw [upd_ne (Nat.ne_of_lt (Nat.lt_of_lt_of_le (Heap.lt_size e) hp))]
    exact n
  · rw [upd_ne (ne_of_none e hn)]
    exact e
  · rw [upd_ne (ne_of_none e hn)]
    exact e
  · rw [upd_ne (ne_of_none e hn), e]
    simp
  · obtain ⟨ob, es, ep, ho, r⟩ := hm
    exact ⟨ob, es, ep, k _ ob (fun z => (hf _ z).2.1 rfl) ho, r⟩
  · by_cases hb : b = T
    · subst hb
      rw [upd_same] at e
      cases e
      exact new
    · rw [upd_ne hb] at e
      refine (I.hok b u e).stay (fun c v hc q => k c v ?_ q) (fun c q => by rw [upd_ne (ne_of_none q hn)]; exact q) fun c xs q => by rw [upd_ne (ne_of_none q hn)]; exact q
      rcases hc with z | z
      · rw [z]
        exact nch b u e
      · exact nch c _ z
theorem Inv.turnedL {t' : Nat} {ch : List Addr} (I : Inv X pins σ H s) (hf : ∀ b ∈ ch, FpOk X pins H b) (k : ∀ b u, b ∉ ch -> s.heap.get? b = some u -> h'.get? b = some u) : Inv X pins σ H { s with heap := h', toks := t' } := by
  have nch : ∀ b u, H b = some u -> b ∉ ch := fun b u e z => by
    have q := (hf b z).1
    rw [e] at q
    cases q
  refine I.step (g' := s.gens) (d' := s.drawn) (ch := ch) (fun b hb => ?_) (fun b u _ _ hc e _ => k b u hc e) (fun b u _ _ hc e _ => ⟨u.slots, k b u hc e⟩) (fun _ _ _ _ n => n) (fun b u hc e => ⟨u, k b u hc e⟩) (fun _ _ e => e) (fun _ _ _ e => e) (fun b ps e => ⟨#[], by rw [e]; simp⟩) (fun m hm => ?_) (fun b u e => ?_) I.bare
  · obtain ⟨f0, f1, f2, f3, f4, f5⟩ := hf b hb
    exact ⟨f3, f1, f4, f5⟩
  · obtain ⟨ob, es, ep, ho, r⟩ := hm
    exact ⟨ob, es, ep, k _ ob (fun z => (hf _ z).2.1 rfl) ho, r⟩
  · refine (I.hok b u e).stay (fun c v hc q => k c v ?_ q) (fun _ q => q) fun _ _ q => q
    rcases hc with z | z
    · rw [z]
      exact nch b u e
    · exact nch c _ z
end
def Ite (K : PySem.W.Frag) (a : Addr) : It :=
  ⟨fun i H => ∃ xs x, SqT K H a xs /\ xs[i]? = some x, fun i H x H' => ∃ T, H T = none /\ x = .ref T /\ ∀ xs y, SqT K H a xs -> xs[i]? = some y -> H' = upd H T (.tup [.int i, y]), fun i H => ∃ xs, SqT K H a xs /\ xs.length = i⟩
theorem cls_ne {h : Heap} {a b : Addr} {o u : Obj} (x : h.get? a = some o) (y : h.get? b = some u) (z : o.cls ≠ u.cls) : a ≠ b := fun e => by
  subst e
  rw [x] at y
  cases y
  exact z rfl
theorem turn_enumT {P : Program} {w : World} {K : PySem.W.Frag} {es : List Expr} {kk : Nat} {pos : Pos} (a e it : Addr) :
    Turn P w K (.Tuple es kk pos) (Ite K a) [e, it] e (fun i h => (∃ old, IsEnum h e it i old) /\ h.IsTupleIter it a i) where
  mem := by simp
  obj := fun i h st b hb => by
    obtain ⟨⟨old, he⟩, oi, gi, ci, di⟩ := st
    rcases List.mem_cons.mp hb with z | z
    · subst z
      exact ⟨_, he, fun v y => nomatch y⟩
    · have z : b = it := by simpa using z
      subst z
      exact ⟨oi, gi, fun v y => by rw [di] at y; cases y⟩
  keep := fun i h h' st k => by
    obtain ⟨⟨old, he⟩, oi, gi, r⟩ := st
    exact ⟨⟨old, k e (by simp) _ he⟩, oi, k it (by simp) _ gi, r⟩
  item := by
    intro X hP hw hK hc i pins s σ H E I hf st hg
    subst hP hw hK
    obtain ⟨xs, x, hq, hx⟩ := hg
    obtain ⟨its, rv, p, hz⟩ := I.tuple hq
    obtain ⟨⟨old, he⟩, hi⟩ := st
    obtain ⟨oi, gi, ci, di⟩ := id hi
    obtain ⟨oa, ga, ca, na, da⟩ := id p
    have nai : a ≠ it := cls_ne ga gi (by rw [ca, ci]; exact fun z => absurd (Value.type.inj z) (by decide))
    have nei : e ≠ it := cls_ne he gi (by rw [ci]; exact fun z => absurd (Value.type.inj z) (by decide))
    have nea : e ≠ a := cls_ne he ga (by rw [ca]; exact fun z => absurd (Value.type.inj z) (by decide))
    have hl := rv.length
    have hil : i < its.toArray.size := by
      have := (List.getElem?_eq_some_iff.mp hx).1
      simpa using (by omega : i < its.length)
    have W := WalksT.enumerateD (prog := X.prog) (w := X.w) (A := X.A) (WE.draws_tuple (pg := X.prog) (wd := X.w) (A := X.A.in1) (I.ok.hd hc) it a nai its.toArray) e nei (by simp [nei, nea]) (by simp)
    refine W.item i s _ E hil ⟨⟨old, he⟩, hi, p⟩ fun T vals h1 tk hP hsz hT mid kp => ⟨.ref T, rfl, ?_⟩
    refine W.go es kk pos i T _ _ E mid fun h2 st2 kp2 => ?_
    obtain ⟨t, y, hy, rfl⟩ := hP
    obtain ⟨u, hu, ru⟩ := rv.get hx
    have ey : y = u := Option.some.inj (hy.symm.trans (by simpa using hu))
    subst ey
    have hch : ∀ b o, b ∉ [e, it] -> s.heap.get? b = some o -> h2.get? b = some o := fun b o hb q => kp2 b o hb (kp b o hb q)
    have hTw := W.apart i T h1 mid
    have new : ObjOk X.prog X.w (upd H T (.tup [.int i, x])) h2 T (.tup [.int i, x]) := by
      obtain ⟨o, g, r⟩ := hT
      exact ⟨by show 2 <= sizeLine; decide, [.int i t, y], .cons ⟨t, rfl⟩ (.cons ru .nil), o, kp2 T o hTw g, r⟩
    have I2 := I.turnLaid (t' := tk) hf hch hsz new
    refine ⟨.ref T, _, I2, rfl, ⟨T, I.hok.fresh hsz, rfl, fun ys z hy' hz' => ?_⟩, ⟨st2.1, st2.2.1⟩, fun b hb => ?_⟩
    · rw [I.tuple_inj hy' hq] at hz'
      rw [hx] at hz'
      cases hz'
      rfl
    · rw [upd_ne (fun z : b = T => hTw (z ▸ hb))]
      exact (hf b hb).1
  done := by
    intro X hP hw hK hc i pins s σ H E I hf st hg
    subst hP hw hK
    obtain ⟨xs, hq, hx⟩ := hg
    obtain ⟨its, rv, p, hz⟩ := I.tuple hq
    obtain ⟨⟨old, he⟩, hi⟩ := st
    obtain ⟨oi, gi, ci, di⟩ := id hi
    obtain ⟨oa, ga, ca, na, da⟩ := id p
    have nai : a ≠ it := cls_ne ga gi (by rw [ca, ci]; exact fun z => absurd (Value.type.inj z) (by decide))
    have nei : e ≠ it := cls_ne he gi (by rw [ci]; exact fun z => absurd (Value.type.inj z) (by decide))
    have nea : e ≠ a := cls_ne he ga (by rw [ca]; exact fun z => absurd (Value.type.inj z) (by decide))
    have hl := rv.length
    have W := WalksT.enumerateD (prog := X.prog) (w := X.w) (A := X.A) (WE.draws_tuple (pg := X.prog) (wd := X.w) (A := X.A.in1) (I.ok.hd hc) it a nai its.toArray) e nei (by simp [nei, nea]) (by simp)
    have en : its.toArray.size = i := by simp; omega
    refine W.done s _ E (by rw [en]; exact ⟨⟨old, he⟩, hi, p⟩) fun h2 tk kp => ⟨rfl, I.turnedL (t' := tk) hf kp⟩
  self := fun _ _ _ _ _ st q => by
    obtain ⟨⟨old, he⟩, _⟩ := st
    exact wpAny_pyIter_enum he q
def iEnT (K : PySem.W.Frag) (ta : TA) : TI := fun σ H R => ta σ H fun vs H1 => ∃ a, vs = [.ref a] /\ (∃ xs, SqT K H1 a xs) /\ R (Ite K a) H1
theorem pi_enumT {X : Cx} {a : Expr} {es : List Expr} {kk : Nat} {tp : Pos} {ta : TA} {p pos : Pos} (hg : Gl X "enumerate") (hm : X.mg "enumerate" = none) (ha : PA X [a] ta) (hs : starEach [a] X.env = [(false, eval a X.env)] := by rfl) :
    PI X (.Tuple es kk tp) (.Call (.Name "enumerate" p) [a] [] pos) (iEnT X.K ta) := by
  intro pins s σ H R I h
  refine wpAny_Call_Name_kw (ld_blt I hg hm boot_enumerate ?_)
  refine PyProof.Rows.callWith_type1 (thn (ha pos pins s σ H _ I h) fun us s1 ⟨vs, H1, I1, r1, q1⟩ => ?_) hs rfl
  obtain ⟨l, rfl, ⟨xs, hq⟩, q⟩ := q1
  obtain ⟨u, rfl, ru⟩ := Vals.one r1
  cases (show u = Value.ref l from ru)
  obtain ⟨its, rv, pt, hz⟩ := I1.tuple hq
  refine WE.call_enumT (show s1.heap.IsTuple l its.toArray from pt) fun h1 he hi hsz kp => ?_
  refine wpAny_pyIter_enum he ?_
  refine ⟨_, [s1.heap.objs.size + 1, s1.heap.objs.size], _, _, H1, rfl, I1.kept (t' := s1.toks) kp, turn_enumT l _ s1.heap.objs.size, ⟨⟨_, he⟩, hi⟩, fun b hb => ?_, q⟩
  have hb2 : s1.heap.objs.size <= b := by
    rcases List.mem_cons.mp hb with z | z
    · subst z
      exact Nat.le_succ _
    · have z : b = s1.heap.objs.size := by simpa using z
      subst z
      exact Nat.le_refl _
  exact I1.fpOk hb2 (I1.hok.fresh hb2)
end L2
namespace L2
open PySem PySem.Spec PyProof.Rows
abbrev No : Value -> Shared -> Prop := fun _ _ => False
abbrev ifsOf (ifs : List Expr) (env : Env) : Sem Bool := forIn ifs true fun c r => if r = true then do let ok <- isTrue c env (eval c env); pure (ForInStep.yield ok) else pure (ForInStep.yield r)
section
variable {pg : Program} {wd : World} {A : Around} {R : Result -> Shared -> Prop} {s : Shared}
theorem comp_loop {elt tg iter : Expr} {ifs : List Expr} {sc : Scope} {pos : Pos} {it acc : Value} {env : Env} (I : Nat -> Shared -> Prop)
    (turn : ∀ n s, I n s -> wpAny (model pg wd) A (pyNext it) (fun r s1 => match r with
      | none => R (.ok .next) s1
      | some v => wpAny (model pg wd) A (letOwnedTupleGo tg it v) (fun _ s2 => wpAny (model pg wd) A (assign tg env v) (fun _ s3 => wpAny (model pg wd) A (ifsOf ifs env) (fun ok s4 =>
          if ok = true then wpAny (model pg wd) A (eval elt env) (fun x s5 => wpAny (model pg wd) A (call (.builtin "list.append") [acc, x]) (fun _ s6 => ∃ m, m < n /\ I m s6) No s5) No s4
          else ∃ m, m < n /\ I m s4) No s3) No s2) No s1) No s)
    (n : Nat) (h : I n s) : codeAny (model pg wd) A (.compLoop (.ListComp elt [⟨tg, iter, ifs, 0⟩] sc pos) 0 it acc env) R s := by
  refine codeAny_loop rfl I (fun n s hI => ?_) n h
  show wpAny _ A ((compTurn (.ListComp elt [⟨tg, iter, ifs, 0⟩] sc pos) 0 it acc env).onRaise (fun x => do noteFrame x env; theTreesLotGoes x)) _ _ s
  refine wpAny_noted ?_
  rw [compTurn_list]
  refine wpAny_bind (wpAny_standAt (wpAny_bind (wpAny_mono (turn n s hI) (fun r s1 h1 => ?_) fun _ _ f => f.elim)))
  cases r with
  | none => exact wpAny_pure h1
  | some v =>
    refine wpAny_bind (wpAny_mono h1 (fun _ s2 h2 => wpAny_bind (wpAny_mono h2 (fun _ s3 h3 => wpAny_bind (wpAny_mono h3 (fun ok s4 h4 => ?_) fun _ _ f => f.elim)) fun _ _ f => f.elim)) fun _ _ f => f.elim)
    cases ok with
    | false => exact wpAny_pure ⟨rfl, h4⟩
    | true => exact wpAny_bind (wpAny_bind (wpAny_mono h4 (fun x s5 h5 => wpAny_bind (wpAny_mono h5 (fun _ s6 h6 => wpAny_pure (wpAny_pure ⟨rfl, h6⟩)) fun _ _ f => f.elim)) fun _ _ f => f.elim))
end
def clStep (env : Env) (r : List (Str × Addr)) (x : Str × NameKind) : List (Str × Addr) := if x.2 = .free then (x.1, (env.cells.lookup x.1).getD 0) :: r else r
def clOf (sc : Scope) (env : Env) : List (Str × Addr) := sc.names.foldl (clStep env) []
theorem forIn_pure {α β : Type} {l : List α} {f : α -> β -> Sem (ForInStep β)} {g : β -> α -> β} (h : ∀ x ∈ l, ∀ c, f x c = pure (.yield (g c x))) : ∀ c : β, forIn l c f = pure (l.foldl g c) := by
  induction l with
  | nil => exact fun _ => rfl
  | cons x l ih =>
    intro c
    rw [List.forIn_cons, h x List.mem_cons_self, pure_bind, List.foldl_cons]
    exact ih (fun y hy => h y (List.mem_cons_of_mem _ hy)) (g c x)
theorem closureFor_clOf {sc : Scope} {env : Env} (hf : ∀ y ∈ sc.names, y.2 = .free -> ∃ c, env.cells.lookup y.1 = some c) : closureFor sc env = pure (clOf sc env) := by
  simp only [closureFor]
  rw [forIn_pure (g := clStep env) (fun x hx c => ?_)]
  · rfl
  · obtain ⟨n, k⟩ := x
    by_cases hk : k = .free
    · subst hk
      obtain ⟨a, ha⟩ := hf _ hx rfl
      have ha' : env.cells.lookup n = some a := ha
      simp [clStep, cellOf, ha']
    · have hb : (k == NameKind.free) = false := by simpa using hk
      simp [clStep, hk, hb]
theorem clFold_sub {env : Env} : ∀ (l : List (Str × NameKind)) (r : List (Str × Addr)), (∀ y ∈ l, y.2 = .free -> ∃ c, env.cells.lookup y.1 = some c) -> (∀ x c, r.lookup x = some c -> env.cells.lookup x = some c) ->
    ∀ x c, (l.foldl (clStep env) r).lookup x = some c -> env.cells.lookup x = some c
  | [], r, _, h => h
  | y :: l, r, hf, h => by
    refine clFold_sub l (clStep env r y) (fun z hz => hf z (List.mem_cons_of_mem _ hz)) fun x c e => ?_
    unfold clStep at e
    by_cases hk : y.2 = .free
    · obtain ⟨a, ha⟩ := hf y List.mem_cons_self hk
      rw [if_pos hk, List.lookup_cons] at e
      cases hx : x == y.1 with
      | true =>
        rw [hx, ha] at e
        rw [eq_of_beq hx, ha]
        exact e
      | false =>
        rw [hx] at e
        exact h x c e
    · rw [if_neg hk] at e
      exact h x c e
theorem clFold_keep {env : Env} {x : Str} : ∀ (l : List (Str × NameKind)) (r : List (Str × Addr)), (∃ c, r.lookup x = some c) -> ∃ c, (l.foldl (clStep env) r).lookup x = some c
  | [], r, h => h
  | y :: l, r, h => by
    refine clFold_keep l (clStep env r y) ?_
    unfold clStep
    by_cases hk : y.2 = .free
    · rw [if_pos hk, List.lookup_cons]
      cases hx : x == y.1 with
      | true => exact ⟨_, rfl⟩
      | false => exact h
    · rw [if_neg hk]
      exact h
theorem clFold_has {env : Env} : ∀ (l : List (Str × NameKind)) (r : List (Str × Addr)), ∀ y ∈ l, y.2 = .free -> ∃ c, (l.foldl (clStep env) r).lookup y.1 = some c
  | [], _, y, hy, _ => nomatch hy
  | z :: l, r, y, hy, hk => by
    rcases List.mem_cons.mp hy with e | e
    · subst e
      refine clFold_keep l (clStep env r y) ?_
      unfold clStep
      rw [if_pos hk, List.lookup_cons, beq_self_eq_true]
      exact ⟨_, rfl⟩
    · exact clFold_has l (clStep env r z) y e hk
theorem mem_of_lookup {β : Type} {x : Str} {k : β} : ∀ {l : List (Str × β)}, l.lookup x = some k -> (x, k) ∈ l
  | [], h => nomatch h
  | y :: l, h => by
    rw [List.lookup_cons] at h
    cases hx : x == y.1 with
    | true =>
      rw [hx] at h
      cases h
      rw [eq_of_beq hx]
      exact List.mem_cons_self
    | false =>
      rw [hx] at h
      exact List.mem_cons_of_mem _ (mem_of_lookup h)
def relK (env : Env) (x : Str) (k : NameKind) : NameKind := if (k == .free && env.scope.kind == .function && env.kindOf x == some .cell) = true then .cell else k
theorem lk_relabel {sc : Scope} {env : Env} (x : Str) : (relabel sc env).names.lookup x = (sc.names.lookup x).map (relK env x) := by
  unfold relabel
  show (sc.names.map fun (n, k) => if (k == NameKind.free && env.scope.kind == .function && env.kindOf n == some .cell) then (n, NameKind.cell) else (n, k)).lookup x = _
  induction sc.names with
  | nil => rfl
  | cons y l ih =>
    obtain ⟨n, k⟩ := y
    rw [List.map_cons]
    show List.lookup x ((if (k == NameKind.free && env.scope.kind == .function && env.kindOf n == some .cell) = true then (n, NameKind.cell) else (n, k)) :: _) = _
    cases hx : x == n with
    | true =>
      have e := eq_of_beq hx
      subst e
      by_cases hc : (k == NameKind.free && env.scope.kind == .function && env.kindOf x == some .cell) = true
      · rw [if_pos hc, List.lookup_cons, beq_self_eq_true]
        simp [relK, hc]
      · rw [if_neg hc, List.lookup_cons, beq_self_eq_true]
        simp [relK, hc]
    | false =>
      by_cases hc : (k == NameKind.free && env.scope.kind == .function && env.kindOf n == some .cell) = true
      · rw [if_pos hc]
        simp only [List.lookup_cons, hx]
        exact ih
      · rw [if_neg hc]
        simp only [List.lookup_cons, hx]
        exact ih
structure CI where
  C : Addr
  s : Shared
  H : Hp
  fp : List Addr
def cxC (X : Cx) (sc : Scope) (NC : List Str) (j : CI) : Cx where
  prog := X.prog
  w := X.w
  K := X.K
  mg := X.mg
  base := X.base
  A := X.A
  N := NC
  s₀ := j.s
  H₀ := j.H
  env := compEnvC sc (clOf sc X.env) j.C X.env
  outer := X.stack
  stack := X.stack
  ex := j.fp
  fn := fun _ => false
  calm := X.calm
  pn := []
  xe := No
def inn (slots : List (Option Nat)) (σ : St) : St := slots.map fun o => o.bind fun j => (σ[j]?).join
structure CompOk (X : Cx) (sc : Scope) (NC : List Str) (slots : List (Option Nat)) : Prop where
  kind : sc.kind = .function
  names : ∀ y ∈ sc.names, y.2 = .local -> sc.names.lookup y.1 = some .local
  nocell : ∀ y ∈ sc.names, y.2 ≠ .cell
  free : ∀ y ∈ sc.names, y.2 = .free -> X.env.scope.names.lookup y.1 = some .cell
  slot : ∀ (i : Nat) (x : Str) (j : Nat), NC[i]? = some x -> slots[i]? = some (some j) -> X.N[j]? = some x /\ sc.names.lookup x = some .free
  len : slots.length = NC.length
theorem compOk {X : Cx} {sc : Scope} {NC : List Str} {slots : List (Option Nat)} (N : List Str) (so : Scope) (hN : X.N = N) (hs : X.env.scope = so) (kind : sc.kind = .function)
    (names : ∀ y ∈ sc.names, y.2 = .local -> sc.names.lookup y.1 = some .local) (nocell : ∀ y ∈ sc.names, y.2 ≠ .cell) (free : ∀ y ∈ sc.names, y.2 = .free -> so.names.lookup y.1 = some .cell)
    (slot : ∀ p ∈ NC.zip slots, (p.2.all fun j => decide (N[j]? = some p.1 /\ sc.names.lookup p.1 = some .free)) = true) (len : slots.length = NC.length) : CompOk X sc NC slots := by
  subst hN hs
  refine ⟨kind, names, nocell, free, fun i x j e1 e2 => ?_, len⟩
  have hm : (x, some j) ∈ NC.zip slots := List.mem_of_getElem? (i := i) (by rw [List.getElem?_zip_eq_some]; exact ⟨e1, e2⟩)
  have := slot _ hm
  simpa using this
section
variable {X : Cx} {sc : Scope} {NC : List Str} {slots : List (Option Nat)} {pins : List (Addr × Obj)} {σ : St} {H : Hp} {s : Shared}
theorem CompOk.cells (O : CompOk X sc NC slots) (ok : X.Ok) : ∀ y ∈ sc.names, y.2 = .free -> ∃ c, X.env.cells.lookup y.1 = some c := fun y hy hk => ok.has y.1 (.inl (O.free y hy hk))
theorem CompOk.sub (O : CompOk X sc NC slots) (ok : X.Ok) : ∀ x c, (clOf sc X.env).lookup x = some c -> X.env.cells.lookup x = some c := clFold_sub sc.names [] (O.cells ok) fun _ _ e => nomatch e
theorem CompOk.rel (O : CompOk X sc NC slots) (ok : X.Ok) {x : Str} (h : sc.names.lookup x = some .free) : (relabel sc X.env).names.lookup x = some .cell := by
  rw [lk_relabel, h]
  have e : X.env.kindOf x = some .cell := O.free _ (mem_of_lookup h) rfl
  simp [relK, ok.kind, e]
theorem comp_enter (I : Inv X pins σ H s) (O : CompOk X sc NC slots) {fp : List Addr} (hf : ∀ b ∈ fp, FpOk X pins H b) (hob : ∀ b ∈ fp, ∃ o, s.heap.get? b = some o) {h1 : Heap} {t' : Nat} {m : Str -> Option Value} (hns : h1.Ns s.heap.objs.size m)
    (hk : ∀ b o, s.heap.get? b = some o -> h1.get? b = some o) : Inv (cxC X sc NC ⟨s.heap.objs.size, s, H, fp⟩) [] (inn slots σ) H { s with heap := h1, toks := t' } := by
  have sub := O.sub I.ok
  have fss : ∀ b, b ≠ X.env.locals -> b ∉ X.fs -> b ∉ frs X.stack := fun b h1 h2 hb => (List.mem_cons.mp (I.stkSub b hb)).elim h1 h2
  have ltC : ∀ x c, (clOf sc X.env).lookup x = some c -> c < s.heap.objs.size := fun x c e => by
    obtain ⟨v, q⟩ := I.cell x c (sub x c e)
    exact q.lt
  refine ⟨⟨I.ok.mod, O.kind, I.ok.glob, I.ok.blt, Nat.le_refl _, fun x y c e1 e2 => I.ok.inj x y c (sub x c e1) (sub y c e2), fun x hx => ?_, fun _ _ z => (nomatch z), I.ok.hd, I.ok.frames, .inl rfl, fun b hb => ⟨?_, fun x c e => (hf b hb).2.2.2.2.1 x c (sub x c e)⟩, I.bs, Nat.le_trans I.ok.bsz I.sz, fun b o e hb => ?_, fun b hb => fss b (hf b hb).2.1 (hf b hb).2.2.1, I.stack, I.stkFree⟩,
    rfl, I.bare, Un.kept hk, ⟨m, hns, fun i x v e1 e2 e3 => ?_⟩, fun x c e => ?_, I.hok.fresh (Nat.le_refl _), fun x c e => I.freeC x c (sub x c e), fun p hp => (nomatch hp), I.hok.kept hk, ?_⟩
  · have hx' : (relabel sc X.env).names.lookup x = some .cell \/ (relabel sc X.env).names.lookup x = some .free := hx
    rw [lk_relabel] at hx'
    cases q : sc.names.lookup x with
    | none =>
      rw [q] at hx'
      rcases hx' with z | z <;> cases z
    | some k =>
      have hm := mem_of_lookup q
      have hkf : k = .free := by
        rw [q] at hx'
        have nc := O.nocell _ hm
        by_cases hk : k = .free
        · exact hk
        · exfalso
          have hb : (k == NameKind.free) = false := by simpa using hk
          rcases hx' with z | z
          · simp [relK, hb] at z
            exact nc z
          · simp [relK, hb] at z
            exact hk z
      subst hkf
      exact clFold_has sc.names [] _ hm rfl
  · obtain ⟨o, e⟩ := hob b hb
    exact Nat.ne_of_lt (Heap.lt_size e)
  · rcases (hf b hb).2.2.2.1 with z | z
    · exact I.ok.noex b o e z
    · exact absurd (Nat.lt_of_lt_of_le (Heap.lt_size e) (Nat.le_trans I.ok.bsz z)) (Nat.lt_irrefl _)
  · obtain ⟨j, e4, e5⟩ : ∃ j, slots[i]? = some (some j) /\ σ[j]? = some (some v) := by
      have e2' : (slots.map fun o => o.bind fun j => (σ[j]?).join)[i]? = some (some v) := e2
      rw [List.getElem?_map] at e2'
      cases q : slots[i]? with
      | none =>
        rw [q] at e2'
        cases e2'
      | some o =>
        rw [q] at e2'
        cases o with
        | none => cases e2'
        | some j =>
          refine ⟨j, rfl, ?_⟩
          have e6 : (σ[j]?).join = some v := Option.some.inj e2'
          cases q2 : σ[j]? with
          | none =>
            rw [q2] at e6
            cases e6
          | some w =>
            rw [q2] at e6
            have e7 : w = some v := e6
            rw [e7]
    obtain ⟨e6, e7⟩ := O.slot i x j e1 e4
    have kc : X.env.scope.names.lookup x = some .cell := O.free _ (mem_of_lookup e7) rfl
    obtain ⟨m0, hn0, hl⟩ := I.loc
    obtain ⟨u, r, lk⟩ := hl j x v e6 e5 (.inr (.inl kc))
    refine ⟨u, r, .inr ⟨.inl (O.rel I.ok e7), ?_⟩⟩
    rcases lk with ⟨z, _⟩ | ⟨_, c, hc, o, ho, hd⟩
    · rw [show X.env.kindOf x = some .cell from kc] at z
      cases z
    · obtain ⟨c', hc'⟩ := clFold_has (env := X.env) sc.names [] _ (mem_of_lookup e7) rfl
      have e8 : c' = c := Option.some.inj ((sub x c' hc').symm.trans hc)
      subst e8
      exact ⟨c', hc', o, hk _ _ ho, hd⟩
  · obtain ⟨v, o, ho, hd⟩ := I.cell x c (sub x c e)
    exact ⟨v, o, hk _ _ ho, hd⟩
  · show (slots.map fun o => o.bind fun j => (σ[j]?).join).length = NC.length
    rw [List.length_map, O.len]
theorem comp_leave (I : Inv X pins σ H s) {fp : List Addr} (hf : ∀ b ∈ fp, FpOk X pins H b) {C : Addr} (hC : s.heap.objs.size <= C) {pl : List (Addr × Obj)} {σ' : St} {H' : Hp} {s' : Shared} (J : Inv (cxC X sc NC ⟨C, s, H, fp⟩) pl σ' H' s')
    {h2 : Heap} (hb : Heap.SameBut C s'.heap h2) : Inv X pins σ H' { s' with heap := h2 } := by
  have nC : ∀ b o, s.heap.get? b = some o -> b ≠ C := fun b o e => Nat.ne_of_lt (Nat.lt_of_lt_of_le (Heap.lt_size e) hC)
  have B : Un (frs X.stack) fp H H' s.heap s'.heap := J.base
  have fC : H' C = none := J.free
  refine I.call' (ch := fp) J.os ⟨fun b o e n h3 h4 => (hb.2 b (nC b o e)).trans (B.keep b o e n h3 h4), fun b o e n h3 h4 => ?_, B.free, fun b o e h4 => ?_, B.tups, B.frzs, B.tbls⟩ (fun b u e => ?_) J.bare fun b h3 => ⟨(hf b h3).2.2.2.1, (hf b h3).2.1, (hf b h3).2.2.2.2.1, (hf b h3).2.2.2.2.2⟩
  · obtain ⟨sl, q⟩ := B.slot b o e n h3 h4
    exact ⟨sl, (hb.2 b (nC b o e)).trans q⟩
  · obtain ⟨o', q⟩ := B.there b o e h4
    exact ⟨o', (hb.2 b (nC b o e)).trans q⟩
  · refine (J.hok b u e).stay (fun c v hc q => (hb.2 c fun z => ?_).trans q) (fun _ q => q) fun _ _ q => q
    subst z
    rcases hc with z | z
    · rw [z, e] at fC
      cases fC
    · rw [z] at fC
      cases fC
end
def PTs (X : Cx) (ifs : List Expr) (t : TT) : Prop :=
  ∀ (pins : List (Addr × Obj)) (s : Shared) (σ : St) (H : Hp) (Q : Bool -> Hp -> Prop), Inv X pins σ H s -> t σ H Q -> wpAny (model X.prog X.w) X.A (ifsOf ifs X.env) (TP X pins σ Q) X.xe s
def tYes : TT := fun _ H Q => Q true H
theorem pts_nil {X : Cx} : PTs X [] tYes := fun _ _ _ H _ I h => wpAny_tests_nil ⟨H, I, h⟩
def CompR (J : It) (D : Addr) (g : TG) (ti : TT) (te : TE) (W : Nat -> Nat -> St -> List V -> Hp -> Prop) (Q : Hp -> Prop) : Prop :=
  ∀ i m σc ys H2, W i m σc ys H2 -> H2 D = some (.lst ys) /\ ((J.stop i H2 /\ Q H2) \/ (J.go i H2 /\ ys.length < sizeLine /\ ∃ N : St -> List V -> Hp -> Prop, (∀ σ' ys' H', N σ' ys' H' -> ∃ m', m' < m /\ W (i + 1) m' σ' ys' H') /\
    ∀ x H3, J.yld i H2 x H3 -> g x σc H3 fun σ4 H4 => ti σ4 H4 fun b H5 => if b = true then te σ4 H5 fun y H6 => H6 D = some (.lst ys) /\ N σ4 (ys ++ [y]) (upd H6 D (.lst (ys ++ [y]))) else N σ4 ys H5))
def tComp (slots : List (Option Nat)) (wi : TI) (g : TG) (ti : TT) (te : TE) : TE := fun σ H Q => wi σ H fun J H1 => ∀ D, H1 D = none -> ∃ W : Nat -> Nat -> St -> List V -> Hp -> Prop, (∃ m, W 0 m (inn slots σ) [] (upd H1 D (.lst []))) /\ CompR J D g ti te W (Q (.ref D))
section
variable {X : Cx} {sc : Scope} {NC : List Str} {slots : List (Option Nat)} {elt tg iter : Expr} {ifs : List Expr} {pos : Pos} {g : TG} {ti : TT} {te : TE}
theorem comp_run (hc : X.calm = true) (hg : ∀ j, PG (cxC X sc NC j) tg g) (ht : ∀ j, PTs (cxC X sc NC j) ifs ti) (he : ∀ j, PE (cxC X sc NC j) elt te) {cj : CI} {it D : Addr} {tn : Nat -> Heap -> Prop} {J : It}
    {W : Nat -> Nat -> St -> List V -> Hp -> Prop} {Q : Hp -> Prop} {R : Result -> Shared -> Prop} {s : Shared} {σc : St} {ys : List V} {H : Hp} (T : Turn X.prog X.w X.K tg J cj.fp it tn)
    (I : Inv (cxC X sc NC cj) [] σc H s) (hf : ∀ b ∈ cj.fp, FpOk (cxC X sc NC cj) [] H b) (st : tn 0 s.heap) {m : Nat} (w0 : W 0 m σc ys H) (step : CompR J D g ti te W Q)
    (fin : ∀ σ' H' s', Inv (cxC X sc NC cj) [] σ' H' s' -> Q H' -> R (.ok .next) s') :
    codeAny (model X.prog X.w) X.A (.compLoop (.ListComp elt [⟨tg, iter, ifs, 0⟩] sc pos) 0 (.ref it) (.ref D) (cxC X sc NC cj).env) R s := by
  have stat : ∀ {H' : Hp}, (∀ b ∈ cj.fp, H' b = none) -> ∀ b ∈ cj.fp, FpOk (cxC X sc NC cj) [] H' b := fun hn b hb => ⟨hn b hb, (hf b hb).2⟩
  refine comp_loop (fun n s' => ∃ i σ' ys' H', Inv (cxC X sc NC cj) [] σ' H' s' /\ tn i s'.heap /\ (∀ b ∈ cj.fp, H' b = none) /\ W i n σ' ys' H') ?_ m ⟨0, σc, ys, H, I, st, fun b hb => (hf b hb).1, w0⟩
  rintro n s3 ⟨i, σ3, ys3, H3, I3, st3, fr3, w3⟩
  obtain ⟨hD, q⟩ := step i n σ3 ys3 H3 w3
  rcases q with ⟨stop, qn⟩ | ⟨go, hz, N, hN, turn⟩
  · refine thn (T.done (cxC X sc NC cj) rfl rfl rfl hc i [] s3 σ3 H3 No I3 (stat fr3) st3 stop) fun r s4 ⟨hr, I4⟩ => ?_
    subst hr
    exact fin σ3 H3 s4 I4 qn
  · refine thn (T.item (cxC X sc NC cj) rfl rfl rfl hc i [] s3 σ3 H3 No I3 (stat fr3) st3 go) fun r s4 ⟨u, hr, h4⟩ => ?_
    subst hr
    refine thn h4 fun _ s5 ⟨x, H5, I5, r5, y5, st5, fr5⟩ => ?_
    have I5' := I5.pinned (stat fr5) (T.obj _ _ st5)
    refine thn (hg cj _ s5 σ3 H5 x u _ I5' r5 (turn x H5 y5)) fun _ s6 ⟨σ6, H6, I6, q6⟩ => ?_
    refine thn (ht cj _ s6 σ6 H6 _ I6 q6) fun ok s7 ⟨H7, I7, q7⟩ => ?_
    have again : ∀ {σ8 : St} {ys8 : List V} {H8 : Hp} {s8 : Shared}, Inv (cxC X sc NC cj) ([] ++ pinsAt cj.fp s5.heap) σ8 H8 s8 -> N σ8 ys8 H8 -> ∃ m, m < n /\ ∃ i σ' ys' H', Inv (cxC X sc NC cj) [] σ' H' s8 /\ tn i s8.heap /\ (∀ b ∈ cj.fp, H' b = none) /\ W i m σ' ys' H' := fun {σ8 ys8 H8 s8} I8 n8 => by
      obtain ⟨m', hm, w8⟩ := hN σ8 ys8 H8 n8
      refine ⟨m', hm, i + 1, σ8, ys8, H8, I8.unpinned, T.keep _ _ _ st5 fun b hb o e => (I8.pin (b, o) (List.mem_append_right _ (List.mem_append_right _ (mem_pinsAt hb e)))).1, fun b hb => ?_, w8⟩
      obtain ⟨o, e, d⟩ := T.obj _ _ st5 b hb
      exact (I8.pin (b, o) (List.mem_append_right _ (List.mem_append_right _ (mem_pinsAt hb e)))).2.1
    cases ok with
    | false =>
      rw [if_neg Bool.false_ne_true] at q7 ⊢
      exact again I7 q7
    | true =>
      rw [if_pos rfl] at q7 ⊢
      refine thn (he cj _ s7 σ6 H7 _ I7 q7) fun y s8 ⟨v, H8, I8, r8, hD8, q8⟩ => ?_
      refine thn (mt_append (X := cxC X sc NC cj) _ s8 σ6 H8 (.ref D) [v] (.ref D) [y] (fun z H' => z = .non /\ H' = upd H8 D (.lst (ys3 ++ [v]))) I8 rfl (.cons r8 .nil) ⟨D, ys3, v, rfl, rfl, hD8, hz, rfl, rfl⟩) fun z s9 ⟨zv, H9, I9, r9, e1, e2⟩ => ?_
      subst e2
      exact again I9 q8
theorem comp_block (hc : X.calm = true) (O : CompOk X sc NC slots) (hg : ∀ j, PG (cxC X sc NC j) tg g) (ht : ∀ j, PTs (cxC X sc NC j) ifs ti) (he : ∀ j, PE (cxC X sc NC j) elt te) {pins : List (Addr × Obj)} {s : Shared} {σ : St} {H : Hp} (I : Inv X pins σ H s)
    {it : Addr} {fp : List Addr} {tn : Nat -> Heap -> Prop} {J : It} (T : Turn X.prog X.w X.K tg J fp it tn) (st : tn 0 s.heap) (hf : ∀ b ∈ fp, FpOk X pins H b) {Q : VK}
    (h : ∀ D, H D = none -> ∃ W : Nat -> Nat -> St -> List V -> Hp -> Prop, (∃ m, W 0 m (inn slots σ) [] (upd H D (.lst []))) /\ CompR J D g ti te W (Q (.ref D))) {RR : Value -> Addr -> Result -> Shared -> Prop}
    (fin : ∀ D C s' H', Q (.ref D) H' -> (∃ o m, s'.heap.get? C = some o /\ s'.heap.Ns C m /\ ∀ v, o.data ≠ .cell v) -> FpOk X pins H' C -> (∀ h2, Heap.SameBut C s'.heap h2 -> Inv X pins σ H' { s' with heap := h2 }) -> RR (.ref D) C (.ok .next) s') :
    wpAny (model X.prog X.w) X.A (newList []) (fun acc s3 => wpAny (model X.prog X.w) X.A (newFunctionEnv sc X.env.globals (clOf sc X.env) [] X.env.qual none .none (some X.env)) (fun cenv s4 =>
      codeAny (model X.prog X.w) X.A (.compStart (.ListComp elt [⟨tg, iter, ifs, 0⟩] sc pos) 0 (.ref it) acc { cenv with scope := relabel sc X.env }) (RR acc cenv.locals) s4) X.xe s3) X.xe s := by
  refine wpAny_newObj_type (wpAny_newFunctionEnv O.nocell (by intro y hy; simp at hy) (fun h1 hns1 hsb1 => ?_) O.kind)
  dsimp only at hns1 hsb1 ⊢
  have hDn : H s.heap.objs.size = none := I.hok.fresh (Nat.le_refl _)
  obtain ⟨W, ⟨m, w0⟩, step⟩ := h s.heap.objs.size hDn
  obtain ⟨s3, hs3⟩ : ∃ x : Shared, x = ({ s with heap := s.heap.push { cls := .type "list", dict := none, data := .seq ([] : List Value).toArray } } : Shared) := ⟨_, rfl⟩
  have e3 : s3.heap = s.heap.push { cls := .type "list", dict := none, data := .seq ([] : List Value).toArray } := by rw [hs3]
  rw [<- e3] at hns1 hsb1
  have hp3 : ∀ b o, s.heap.get? b = some o -> s3.heap.get? b = some o := fun b o e => by
    rw [e3]
    exact Heap.get?_push_of_some _ e
  have I3 : Inv X pins σ (upd H s.heap.objs.size (.lst [])) s3 := by
    have q := I.laid (a := s.heap.objs.size) (o := .lst []) (h' := s3.heap) (t' := s.toks) hp3 (Nat.le_refl _) ⟨Nat.zero_le _, [], _, .nil, by rw [e3]; exact Heap.get?_push_size _ rfl⟩
    rw [hs3] at q ⊢
    exact q
  have hf3 : ∀ b ∈ fp, FpOk X pins (upd H s.heap.objs.size (.lst [])) b := fun b hb => by
    obtain ⟨o, e, _⟩ := T.obj _ _ st b hb
    refine ⟨?_, (hf b hb).2⟩
    rw [upd_ne (Nat.ne_of_lt (Heap.lt_size e))]
    exact (hf b hb).1
  have st3 : tn 0 s3.heap := T.keep _ _ _ st fun b _ o e => hp3 b o e
  have hob : ∀ b ∈ fp, ∃ o, s3.heap.get? b = some o := fun b hb => by
    obtain ⟨o, e, _⟩ := T.obj _ _ st3 b hb
    exact ⟨o, e⟩
  have hk1 : ∀ b o, s3.heap.get? b = some o -> h1.get? b = some o := fun b o e => hsb1.extBut b o (Nat.ne_of_lt (Heap.lt_size e)) (Heap.get?_push_of_some _ e)
  have J1 := comp_enter (t' := s3.toks + ([] : List (Str × Value)).length) I3 O hf3 hob hns1 hk1
  have hfc : ∀ b ∈ fp, FpOk (cxC X sc NC ⟨s3.heap.objs.size, s3, upd H s.heap.objs.size (.lst []), fp⟩) [] (upd H s.heap.objs.size (.lst [])) b := fun b hb =>
    ⟨(hf3 b hb).1, (J1.ok.exf b hb).1, J1.ok.exfs b hb, .inl hb, (J1.ok.exf b hb).2, fun p hp => nomatch hp⟩
  have loop : codeAny (model X.prog X.w) X.A (.compLoop (.ListComp elt [⟨tg, iter, ifs, 0⟩] sc pos) 0 (.ref it) (.ref s.heap.objs.size) (cxC X sc NC ⟨s3.heap.objs.size, s3, upd H s.heap.objs.size (.lst []), fp⟩).env) (RR (.ref s.heap.objs.size) s3.heap.objs.size)
      { s3 with heap := h1, toks := s3.toks + ([] : List (Str × Value)).length } := by
    refine comp_run (D := s.heap.objs.size) (Q := Q (.ref s.heap.objs.size)) hc hg ht he T J1 hfc (T.keep _ _ _ st3 fun b _ o e => hk1 b o e) w0 step fun σ' H' s' J' q' => ?_
    have fC : H' s3.heap.objs.size = none := J'.free
    refine fin _ _ s' H' q' ?_ (I3.fpOk (Nat.le_refl _) fC) fun h2 hb => comp_leave I3 hf3 (Nat.le_refl _) J' hb
    obtain ⟨m', hn', _⟩ := J'.loc
    obtain ⟨o, es, ep, ho, hd, r⟩ := id hn'
    exact ⟨o, m', ho, hn', fun v z => by rw [hd] at z; cases z⟩
  have self := fun (RQ : Value -> Shared -> Prop) (EE : Value -> Shared -> Prop) => T.self X.A 0 { s3 with heap := h1, toks := s3.toks + ([] : List (Str × Value)).length } RQ EE (T.keep _ _ _ st3 fun b _ o e => hk1 b o e)
  subst hs3
  exact codeAny_compStart_list loop (self _ _ loop)
variable {wi : TI}
theorem pe_comp (hc : X.calm = true) (O : CompOk X sc NC slots) (hi : PI X tg iter wi) (hg : ∀ j, PG (cxC X sc NC j) tg g) (ht : ∀ j, PTs (cxC X sc NC j) ifs ti) (he : ∀ j, PE (cxC X sc NC j) elt te)
    (hs : ∀ x, foldedSetIterable iter X.env x = pure x := by intro _; rfl) : PE X (.ListComp elt [⟨tg, iter, ifs, 0⟩] sc pos) (tComp slots wi g ti te) := by
  intro pins s σ H Q I h
  rw [eval_ListComp]
  refine wpAny_comprehension_free (use := none) rfl hs (closureFor_clOf (O.cells I.ok)) O.kind O.names (thn (hi pins s σ H _ I h) fun v s1 h1 => thn h1 fun itv s2 h2 => ?_)
  obtain ⟨it, fp, tn, J, H2, rfl, I2, T, st2, f2, q2⟩ := h2
  refine comp_block hc O hg ht he I2 T st2 f2 q2 fun D C s' H' q' ⟨o, m, ho, hn, _⟩ _ out => ⟨m, hn, fun h2 hb => ⟨.ref D, H', out h2 hb, rfl, q'⟩⟩
theorem ps_comp {i : Nat} {x : Str} {px spos : Pos} (hN : X.N.Nodup) (hix : X.N[i]? = some x) (hx : Loc X.env.scope x) (hc : X.calm = true) (O : CompOk X sc NC slots) (hi : PI X tg iter wi) (hg : ∀ j, PG (cxC X sc NC j) tg g) (ht : ∀ j, PTs (cxC X sc NC j) ifs ti) (he : ∀ j, PE (cxC X sc NC j) elt te)
    (hsw : swapsWith (.ListComp elt [⟨tg, iter, ifs, 0⟩] sc pos) (some (.Name x px)) spos.line X.env = pure true := by rfl) (hs : ∀ x, foldedSetIterable iter X.env x = pure x := by intro _; rfl)
    (hf : X.fn x = true \/ X.env.scope.names.lookup x = some .local := by first | exact .inl rfl | exact .inr rfl | assumption) : PS X (.Assign [.Name x px] (.ListComp elt [⟨tg, iter, ifs, 0⟩] sc pos) spos) (tAsg (tComp slots wi g ti te) (gName i)) := by
  intro pins s σ H Dd I h
  rw [exec_Assign_Name_used _ _ _ _ hsw, arm_evalThenUse_ListComp]
  refine wpAny_bind (wpAny_standAt (wpAny_bind (wpAny_bind ?_)))
  refine wpAny_comprehension_free (Q := fun _ s' => wpAny (model X.prog X.w) X.A (pure ()) (fun _ s'' => wpAny (model X.prog X.w) X.A (pure Flow.next) (SP X pins Dd) X.xe s'') X.xe s') rfl hs (closureFor_clOf (O.cells I.ok)) O.kind O.names (thn (hi pins s σ H _ I h) fun v s1 h1 => thn h1 fun itv s2 h2 => ?_)
  obtain ⟨it, fp, tn, J, H2, rfl, I2, T, st2, f2, q2⟩ := h2
  refine comp_block (Q := fun x H1 => gName i x σ H1 Dd.nx) hc O hg ht he I2 T st2 f2 q2 fun D C s' H' q' ⟨o, m, ho, hn, hd⟩ FC out => ?_
  have I' : Inv X pins σ H' s' := out s'.heap (Heap.SameBut.refl ..)
  have Ip : Inv X (pins ++ [(C, o)]) σ H' s' := I'.pins_of fun p hp => (List.mem_append.mp hp).elim (fun z => I'.pin p (List.mem_append_right _ z)) fun z => by
    have e : p = (C, o) := by simpa using z
    subst e
    exact ⟨ho, FC.1, FC.2.1, FC.2.2.1, hd⟩
  show wpAny (model X.prog X.w) X.A (assign (.Name x px) X.env (.ref D)) _ _ s'
  refine wpAny_assign_Name (store_ok Ip hN hix hx (show RelV (.ref D) (.ref D) from rfl) (fun s6 I6 => ?_) hf)
  have g6 := (I6.pin (C, o) (List.mem_append_right _ (List.mem_append_right _ List.mem_cons_self))).1
  obtain ⟨o', es, ep, ho', r⟩ := hn
  rw [ho] at ho'
  cases ho'
  refine ⟨m, ⟨o, es, ep, g6, r⟩, fun h2 hb => wpAny_pure (wpAny_pure ?_)⟩
  exact ⟨_, H', I6.unpinned.turned (t' := s6.toks) (fun b u hb' e => (hb.2 b hb').trans e) FC.1 FC.2.1 FC.2.2.2.1 FC.2.2.2.2.1 FC.2.2.2.2.2, q'⟩
end
end L2
namespace L2
open PySem PySem.Spec PyProof.Rows
theorem bools_of : ∀ {bs : List Bool} {us : List Value}, Vals (bs.map V.bl) us -> LSm.BoolsAre us bs
  | [], _, .nil => .nil
  | b :: bs, _, .cons r q => by
    cases (show _ = Value.bool b from r)
    exact .cons b (bools_of q)
section
variable {X : Cx}
def rAll (K : PySem.W.Frag) : List V -> Hp -> VK -> Prop := fun xs H Q => ∃ (l : Addr) (bs : List Bool), xs = [.ref l] /\ SqL K H l (bs.map V.bl) /\ Q (.bl (bs.all id)) H
theorem call_all (hc : X.calm = true) : CallR X (.builtin "all") (rAll X.K) := by
  intro pins s σ H xs us Q I r h
  obtain ⟨l, bs, rfl, hq, q⟩ := h
  obtain ⟨u, rfl, ru⟩ := Vals.one r
  cases (show u = Value.ref l from ru)
  obtain ⟨its, rv, pl, hz⟩ := I.list hq
  have hb := bools_of rv
  have hl := pl.isList
  have hlt : l < s.heap.objs.size := by
    obtain ⟨_, e, _⟩ := hl
    exact Heap.lt_size e
  refine call_all_walk (wpAny_pyIter_list hl ?_)
  refine ⟨s.heap.objs.size, [s.heap.objs.size, l], [s.heap.objs.size], its.toArray.size, _, _, fun i => (bs[i]?).getD true, rfl, Walks.list (A := X.A.in1) (I.ok.hd hc) _ l (Nat.ne_of_lt hlt) its.toArray, ⟨⟨_, Heap.get?_push_size _ rfl, rfl, rfl⟩, hl.push _⟩, fun i v s' Q' E' hP hQ => ?_, fun h' tk hk => ?_⟩
  · obtain ⟨b, e, rfl⟩ := hb.get i v (by simpa using hP)
    simp only [e, Option.getD_some] at hQ
    exact wpAny_truthy_bool hQ
  · have e : ((List.range its.toArray.size).all fun i => (bs[i]?).getD true) = bs.all id := by
      rw [List.size_toArray, hb.length]
      exact LSm.range_all bs
    rw [e]
    exact ⟨.bl _, H, I.kept (t' := tk) (LSm.kept_iter hk), rfl, q⟩
end
section
variable {X : Cx} {pins : List (Addr × Obj)} {σ : St} {H : Hp} {s : Shared}
end
end L2
namespace L2
open PySem PySem.Spec PyProof.Rows
end L2
namespace L2
open PySem PySem.Spec PyProof.Rows
section
variable {X : Cx} {a : Expr} {ta : TE} {K : PySem.W.Frag}
end
end L2
namespace L2
end L2
namespace L2
open PySem PySem.Spec PyProof.Rows
section
variable {X : Cx}
end
end L2
namespace WE
open PySem PySem.Spec PyProof.Rows
section
variable {pg : Program} {wd : World} {A : Around} {Er : Value -> Shared -> Prop} {s : Shared}
theorem tit_keep {h h' : Heap} {i t : Addr} {j : Nat} (u : h.IsTupleIter i t j) (k : ∀ o, h.get? i = some o -> h'.get? i = some o) : h'.IsTupleIter i t j := let ⟨o, g, r⟩ := u; ⟨o, k o g, r⟩
theorem tup_keep {h h' : Heap} {t : Addr} {xs : Array Value} (u : h.IsTuple t xs) (k : ∀ o, h.get? t = some o -> h'.get? t = some o) : h'.IsTuple t xs := let ⟨o, g, r⟩ := u; ⟨o, k o g, r⟩
def Kz (z TO i1 i2 : Addr) (h h' : Heap) : Prop := ∀ c o, c ≠ z -> c ≠ TO -> c ≠ i1 -> c ≠ i2 -> h.get? c = some o -> h'.get? c = some o
theorem zipT_item {z TI TO i1 i2 l1 l2 : Addr} {j : Nat} {xs ys : Array Value} {x y a b : Value} {Q : Value -> Shared -> Prop} (D : ZipApart z TI TO i1 i2 l1 l2)
    (gz : IsZip s.heap z TI TO .none) (gI : IsPair s.heap TI (.ref i1) (.ref i2)) (gO : IsPair s.heap TO a b) (u1 : s.heap.IsTupleIter i1 l1 j) (u2 : s.heap.IsTupleIter i2 l2 j) (t1 : s.heap.IsTuple l1 xs) (t2 : s.heap.IsTuple l2 ys) (ex : xs[j]? = some x) (ey : ys[j]? = some y)
    (k : ∀ h', IsZip h' z TI TO (rawInt s.heap.objs.size) -> IsPair h' TO x y -> h'.IsTupleIter i1 l1 (j + 1) -> h'.IsTupleIter i2 l2 (j + 1) -> IsPair h' s.heap.objs.size x y -> h'.objs.size = s.heap.objs.size + 1 -> Kz z TO i1 i2 s.heap h' -> Q (.ref s.heap.objs.size) { s with heap := h' }) :
    wpAny (model pg wd) A (Builtin.«zip.__next__» ⟨[.ref z], []⟩) (fun f s' => ∃ v, f = .done (.ret v) /\ Q v s') Er s := by
  show wpAny _ _ (field (.ref z) 2 >>= _) _ _ _; refine wpAny_bind (wpAny_field gz rfl (x := .bool false) rfl ?_)
  show wpAny _ _ (field (.ref z) 3 >>= _) _ _ _; refine wpAny_bind (wpAny_field gz rfl (x := .ref TI) rfl ?_); refine wpAny_bind (wpAny_seqItems gI rfl ?_)
  show wpAny _ _ (Builtin.SmallTypes.ownedTupleIsFree (.ref z) >>= _) _ _ _; refine wpAny_bind ?_; unfold Builtin.SmallTypes.ownedTupleIsFree
  refine wpAny_bind (wpAny_field gz rfl (x := .none) rfl (wpAny_pure ?_)); simp only [if_true]
  refine wpAny_bind (wpAny_rule ?_); refine wpAny_bind (wpAny_field gz rfl (x := .ref TO) rfl ?_); refine wpAny_bind (wpAny_setField_rec gz (by simp) fun ha za sa => ?_)
  replace za : IsZip ha z TI TO .ellipsis := za
  refine wpAny_bind ?_; simp only [List.zipIdx_cons, List.zipIdx_nil, List.forIn_cons, List.forIn_nil]; refine wpAny_bind (wpAny_bind (wpAny_onRaise ?_))
  show wpAny _ _ (Builtin.SmallTypes.nextOf (.ref i1) >>= _) _ _ _
  refine wpAny_bind (nextT_item (tit_keep u1 fun o e => sa.extBut _ _ D.i1z e) (tup_keep t1 fun o e => sa.extBut _ _ D.l1z e) ex fun hb ub sb => wpAny_pure ?_)
  have ob : IsPair hb TO a b := sb.extBut _ _ D.TOi1 (sa.extBut _ _ D.TOz gO)
  refine wpAny_bind (wpAny_seqItems ob rfl ?_); refine wpAny_bind (wpAny_updateSeq_pair ob fun hc oc sc => ?_)
  replace oc : IsPair hc TO x b := oc
  refine wpAny_bind (wpAny_letGo (wpAny_pure ?_)); refine wpAny_bind (wpAny_bind (wpAny_onRaise ?_))
  show wpAny _ _ (Builtin.SmallTypes.nextOf (.ref i2) >>= _) _ _ _
  refine wpAny_bind (nextT_item (tit_keep u2 fun o e => sc.extBut _ _ D.TOi2.symm (sb.extBut _ _ D.i12.symm (sa.extBut _ _ D.i2z e))) (tup_keep t2 fun o e => sc.extBut _ _ D.l2TO (sb.extBut _ _ D.l2i1 (sa.extBut _ _ D.l2z e))) ey fun hd ud sd => wpAny_pure ?_)
  have od : IsPair hd TO x b := sd.extBut _ _ D.TOi2 oc
  refine wpAny_bind (wpAny_seqItems od rfl ?_); refine wpAny_bind (wpAny_updateSeq_pair od fun he oe se => ?_)
  replace oe : IsPair he TO x y := oe
  refine wpAny_bind (wpAny_letGo (wpAny_pure (wpAny_pure ?_))); refine wpAny_bind (wpAny_seqItems oe rfl ?_); refine wpAny_bind (wpAny_newTuple ?_)
  have sz : he.objs.size = s.heap.objs.size := by rw [se.1, sd.1, sc.1, sb.1, sa.1]
  have ze : IsZip he z TI TO .ellipsis := se.extBut _ _ D.TOz.symm (sd.extBut _ _ D.i2z.symm (sc.extBut _ _ D.TOz.symm (sb.extBut _ _ D.i1z.symm za)))
  have ke : Kz z TO i1 i2 s.heap he := fun c o p1 p2 p3 p4 e => se.extBut _ _ p2 (sd.extBut _ _ p4 (sc.extBut _ _ p2 (sb.extBut _ _ p3 (sa.extBut _ _ p1 e))))
  have v1 : he.IsTupleIter i1 l1 (j + 1) := tit_keep ub fun o e => se.extBut _ _ D.TOi1.symm (sd.extBut _ _ D.i12 (sc.extBut _ _ D.TOi1.symm e))
  have v2 : he.IsTupleIter i2 l2 (j + 1) := tit_keep ud fun o e => se.extBut _ _ D.TOi2.symm e
  have lz : z < he.objs.size := Heap.lt_size ze
  show wpAny _ _ (Builtin.SmallTypes.ownedTupleHandOut (.ref z) (.ref he.objs.size) >>= _) _ _ _; refine wpAny_bind ?_; unfold Builtin.SmallTypes.ownedTupleHandOut
  have zf : IsZip (he.push { cls := .type "tuple", data := .seq #[x, y] }) z TI TO .ellipsis := Heap.get?_push_of_some _ ze
  refine wpAny_bind (wpAny_setField_rec zf (by simp) fun hg zg sg => ?_)
  replace zg : IsZip hg z TI TO (rawInt he.objs.size) := zg
  refine wpAny_setField_rec zg (by simp) fun hi zi si => ?_
  replace zi : IsZip hi z TI TO (rawInt he.objs.size) := zi
  have up : ∀ c o, c ≠ z -> he.get? c = some o -> hi.get? c = some o := fun c o p e => si.extBut _ _ p (sg.extBut _ _ p (Heap.get?_push_of_some _ e))
  have pn : IsPair hi he.objs.size x y := si.extBut _ _ (Nat.ne_of_gt lz) (sg.extBut _ _ (Nat.ne_of_gt lz) (Heap.get?_push_size _ rfl))
  have si8 : hi.objs.size = he.objs.size + 1 := by rw [si.1, sg.1, Heap.size_push]
  rw [sz] at zi pn si8
  refine wpAny_pure ⟨_, rfl, ?_⟩; show Q (.ref he.objs.size) _; rw [sz]
  exact k hi zi (up _ _ D.TOz oe) (tit_keep v1 fun o e => up _ o D.i1z e) (tit_keep v2 fun o e => up _ o D.i2z e) pn si8 fun c o p1 p2 p3 p4 e => up c o p1 (ke c o p1 p2 p3 p4 e)
theorem zipT_end {z TI TO i1 i2 l1 l2 : Addr} {j : Nat} {xs : Array Value} {a b : Value} {Q : Fin -> Shared -> Prop} (hh : A.handled = none) (D : ZipApart z TI TO i1 i2 l1 l2)
    (gz : IsZip s.heap z TI TO .none) (gI : IsPair s.heap TI (.ref i1) (.ref i2)) (gO : IsPair s.heap TO a b) (u1 : s.heap.IsTupleIter i1 l1 j) (t1 : s.heap.IsTuple l1 xs) (ex : xs[j]? = none)
    (k : ∀ h' e, Kz z TO i1 i2 s.heap h' -> (∃ o, h'.get? e = some o /\ o.cls = .type "StopIteration") -> Er (.ref e) { s with heap := h' }) :
    wpAny (model pg wd) A (Builtin.«zip.__next__» ⟨[.ref z], []⟩) Q Er s := by
  show wpAny _ _ (field (.ref z) 2 >>= _) _ _ _; refine wpAny_bind (wpAny_field gz rfl (x := .bool false) rfl ?_)
  show wpAny _ _ (field (.ref z) 3 >>= _) _ _ _; refine wpAny_bind (wpAny_field gz rfl (x := .ref TI) rfl ?_); refine wpAny_bind (wpAny_seqItems gI rfl ?_)
  show wpAny _ _ (Builtin.SmallTypes.ownedTupleIsFree (.ref z) >>= _) _ _ _; refine wpAny_bind ?_; unfold Builtin.SmallTypes.ownedTupleIsFree
  refine wpAny_bind (wpAny_field gz rfl (x := .none) rfl (wpAny_pure ?_)); simp only [if_true]
  refine wpAny_bind (wpAny_rule ?_); refine wpAny_bind (wpAny_field gz rfl (x := .ref TO) rfl ?_); refine wpAny_bind (wpAny_setField_rec gz (by simp) fun ha za sa => ?_)
  replace za : IsZip ha z TI TO .ellipsis := za
  refine wpAny_bind ?_; simp only [List.zipIdx_cons, List.zipIdx_nil, List.forIn_cons, List.forIn_nil]; refine wpAny_bind (wpAny_bind (wpAny_onRaise ?_))
  show wpAny _ _ (Builtin.SmallTypes.nextOf (.ref i1) >>= _) _ _ _
  refine wpAny_bind (nextT_end hh (tit_keep u1 fun o e => sa.extBut _ _ D.i1z e) (tup_keep t1 fun o e => sa.extBut _ _ D.l1z e) ex fun hb e sb he => ?_)
  obtain ⟨oe, ge, ce⟩ := he
  have zb : IsZip hb z TI TO .ellipsis := sb _ _ D.i1z.symm za
  have ne : e ≠ z := fun q => by subst q; rw [zb] at ge; cases ge; simp at ce
  exact wpAny_setField_rec zb (by simp) fun hc _ sc => k hc e (fun c o p1 _ p3 _ q => sc.extBut _ _ p1 (sb _ _ p3 (sa.extBut _ _ p1 q))) ⟨oe, sc.extBut _ _ ne ge, ce⟩
theorem pyNext_zipT {z TI TO i1 i2 l1 l2 : Addr} {j : Nat} {xs ys : Array Value} {x y a b : Value} {Q : Option Value -> Shared -> Prop} (D : ZipApart z TI TO i1 i2 l1 l2)
    (gz : IsZip s.heap z TI TO .none) (gI : IsPair s.heap TI (.ref i1) (.ref i2)) (gO : IsPair s.heap TO a b) (u1 : s.heap.IsTupleIter i1 l1 j) (u2 : s.heap.IsTupleIter i2 l2 j) (t1 : s.heap.IsTuple l1 xs) (t2 : s.heap.IsTuple l2 ys) (ex : xs[j]? = some x) (ey : ys[j]? = some y)
    (k : ∀ h', IsZip h' z TI TO (rawInt s.heap.objs.size) -> IsPair h' TO x y -> h'.IsTupleIter i1 l1 (j + 1) -> h'.IsTupleIter i2 l2 (j + 1) -> IsPair h' s.heap.objs.size x y -> h'.objs.size = s.heap.objs.size + 1 -> Kz z TO i1 i2 s.heap h' -> Q (some (.ref s.heap.objs.size)) { s with heap := h' }) :
    wpAny (model pg wd) A (pyNext (.ref z)) Q Er s := by
  have ty : s.TypeIs (.ref z) "zip" := ⟨_, gz, rfl⟩
  unfold pyNext
  exact wpAny_bind (wpAny_attempt (wpAny_callSpecial?_slot (name := Str.ofString "__next__") ty F.slot_zip_next (wpAny_call_entry F.slot_zip_next ty F.entry_zip_next (zipT_item D gz gI gO u1 u2 t1 t2 ex ey fun h' a1 a2 a3 a4 a5 a6 a7 => wpAny_pure (k h' a1 a2 a3 a4 a5 a6 a7)) (F.args_zip_next_1 _))))
theorem pyNext_zipE {z TI TO i1 i2 l1 l2 : Addr} {j : Nat} {xs : Array Value} {a b : Value} {Q : Option Value -> Shared -> Prop} (hh : A.handled = none) (D : ZipApart z TI TO i1 i2 l1 l2)
    (gz : IsZip s.heap z TI TO .none) (gI : IsPair s.heap TI (.ref i1) (.ref i2)) (gO : IsPair s.heap TO a b) (u1 : s.heap.IsTupleIter i1 l1 j) (t1 : s.heap.IsTuple l1 xs) (ex : xs[j]? = none)
    (k : ∀ h', Kz z TO i1 i2 s.heap h' -> Q none { s with heap := h' }) : wpAny (model pg wd) A (pyNext (.ref z)) Q Er s := by
  have ty : s.TypeIs (.ref z) "zip" := ⟨_, gz, rfl⟩
  unfold pyNext
  refine wpAny_bind (wpAny_attempt (wpAny_callSpecial?_slot (name := Str.ofString "__next__") ty F.slot_zip_next (wpAny_call_entry F.slot_zip_next ty F.entry_zip_next (zipT_end hh D gz gI gO u1 t1 ex fun h' e kk he => ?_) (F.args_zip_next_1 _))))
  obtain ⟨o, ho, hc⟩ := he
  exact wpAny_bind (wpAny_isInstance (T := "StopIteration") (b := true) ⟨o, ho, hc⟩ isSubtype_stop (wpAny_pure (k _ kk)))
end
abbrev ti (l : Addr) : Obj := { cls := .type "tuple_iterator", data := .fields #[.ref l, .int 0 0] }
abbrev zh1 (h : Heap) (l1 : Addr) : Heap := h.push (ti l1)
abbrev zh2 (h : Heap) (l1 l2 : Addr) : Heap := (zh1 h l1).push (ti l2)
abbrev zh3 (h : Heap) (l1 l2 : Addr) : Heap := (zh2 h l1 l2).push { cls := .type "tuple", data := .seq #[.ref h.objs.size, .ref (zh1 h l1).objs.size] }
abbrev zh4 (h : Heap) (l1 l2 : Addr) : Heap := (zh3 h l1 l2).push { cls := .type "tuple", data := .seq #[.none, .none] }
abbrev zh5 (h : Heap) (l1 l2 : Addr) : Heap := (zh4 h l1 l2).push { cls := .type "zip", data := .fields #[.none, .bool false, .bool false, .ref (zh2 h l1 l2).objs.size, .ref (zh3 h l1 l2).objs.size] }
theorem meets_zipT (l1 l2 : Addr) (xs ys : Array Value) :
    Meets (Builtin.«zip.__new__» ⟨[.type "zip", .ref l1, .ref l2], []⟩) (fun _ R s => s.heap.IsTuple l1 xs /\ s.heap.IsTuple l2 ys /\ R (.ok (.ret (.ref (zh4 s.heap l1 l2).objs.size))) { s with heap := zh5 s.heap l1 l2 }) :=
  .of_wp fun prog w A R s h => by
    obtain ⟨hp, g, d, tk, os⟩ := s
    obtain ⟨q1, q2, h⟩ := h
    have hsub := sub_zip
    have T1 : Heap.IsTuple (Shared.heap ⟨hp, g, d, tk, os⟩) l1 xs := q1
    have T2 : Heap.IsTuple (Shared.heap ⟨hp.push (ti l1), g, d, tk, os⟩) l2 ys := tup_keep q2 fun o e => Heap.get?_push_of_some _ e
    wp_walk using wpAny_pyIter_tuple T1, wpAny_pyIter_tuple T2
    exact ⟨_, rfl, h⟩
theorem call_zipT {pg : Program} {wd : World} {A : Around} {Er : Value -> Shared -> Prop} {s : Shared} {l1 l2 : Addr} {xs ys : Array Value} {Q : Value -> Shared -> Prop} (t1 : s.heap.IsTuple l1 xs) (t2 : s.heap.IsTuple l2 ys)
    (k : ∀ h', IsZip h' (s.heap.objs.size + 4) (s.heap.objs.size + 2) (s.heap.objs.size + 3) .none -> IsPair h' (s.heap.objs.size + 2) (.ref s.heap.objs.size) (.ref (s.heap.objs.size + 1)) -> IsPair h' (s.heap.objs.size + 3) .none .none -> h'.IsTupleIter s.heap.objs.size l1 0 -> h'.IsTupleIter (s.heap.objs.size + 1) l2 0 ->
      (∀ b o, s.heap.get? b = some o -> h'.get? b = some o) -> Q (.ref (s.heap.objs.size + 4)) { s with heap := h' }) : wpAny (model pg wd) A (call (.type "zip") [.ref l1, .ref l2]) Q Er s := by
  refine callType_new F.called_zip (by decide) (F.typeCall_zip_2 _ _) (F.newCall_zip_2 _ _) (fun obj => F.args_object_init_3 obj _ _) F.entry_zip_new (meets_zipT l1 l2 xs ys) ⟨t1, t2, ?_⟩
  have n1 : (zh1 s.heap l1).objs.size = s.heap.objs.size + 1 := Heap.size_push ..
  have n2 : (zh2 s.heap l1 l2).objs.size = s.heap.objs.size + 2 := by rw [Heap.size_push, n1]
  have n3 : (zh3 s.heap l1 l2).objs.size = s.heap.objs.size + 3 := by rw [Heap.size_push, n2]
  have n4 : (zh4 s.heap l1 l2).objs.size = s.heap.objs.size + 4 := by rw [Heap.size_push, n3]
  have kp : ∀ {h : Heap} {o : Obj} {b : Addr} {u : Obj}, h.get? b = some u -> (h.push o).get? b = some u := fun e => Heap.get?_push_of_some _ e
  have m5 : (zh5 s.heap l1 l2).get? (zh4 s.heap l1 l2).objs.size = some _ := Heap.get?_push_size _ rfl
  have m4 : (zh5 s.heap l1 l2).get? (zh3 s.heap l1 l2).objs.size = some _ := kp (Heap.get?_push_size _ rfl)
  have m3 : (zh5 s.heap l1 l2).get? (zh2 s.heap l1 l2).objs.size = some _ := kp (kp (Heap.get?_push_size _ rfl))
  have m2 : (zh5 s.heap l1 l2).get? (zh1 s.heap l1).objs.size = some _ := kp (kp (kp (Heap.get?_push_size _ rfl)))
  have m1 : (zh5 s.heap l1 l2).get? s.heap.objs.size = some _ := kp (kp (kp (kp (Heap.get?_push_size _ rfl))))
  rw [n2, n3, n4] at m5
  rw [n1, n2] at m3
  rw [n3] at m4
  rw [n1] at m2
  show _ /\ _
  rw [n4]
  exact ⟨⟨_, m5, rfl⟩, k _ m5 m3 m4 ⟨_, m1, rfl, rfl⟩ ⟨_, m2, rfl, rfl⟩ fun b o e => kp (kp (kp (kp (kp e))))⟩
end WE
namespace L2
open PySem PySem.Spec PyProof.Rows
def Itz (K : PySem.W.Frag) (a b : Addr) : It :=
  ⟨fun i H => ∃ xs ys x y, SqT K H a xs /\ SqT K H b ys /\ xs[i]? = some x /\ ys[i]? = some y, fun i H v H' => ∃ T, H T = none /\ v = .ref T /\ ∀ xs ys x y, SqT K H a xs -> SqT K H b ys -> xs[i]? = some x -> ys[i]? = some y -> H' = upd H T (.tup [x, y]), fun i H => ∃ xs, SqT K H a xs /\ xs.length = i⟩
theorem turn_zipT {P : Program} {w : World} {K : PySem.W.Frag} {es : List Expr} {kk : Nat} {pos : Pos} (z TI TO i1 i2 a b : Addr) (D : ZipApart z TI TO i1 i2 a b) :
    Turn P w K (.Tuple es kk pos) (Itz K a b) [z, TI, TO, i1, i2] z (fun i h => IsZip h z TI TO .none /\ IsPair h TI (.ref i1) (.ref i2) /\ (∃ p q, IsPair h TO p q) /\ h.IsTupleIter i1 a i /\ h.IsTupleIter i2 b i) where
  mem := by simp
  obj := fun i h st c hc => by
    obtain ⟨g0, g1, ⟨p, q, g2⟩, ⟨o3, g3, _, d3⟩, ⟨o4, g4, _, d4⟩⟩ := st
    simp only [List.mem_cons, List.not_mem_nil, or_false] at hc
    rcases hc with rfl | rfl | rfl | rfl | rfl
    · exact ⟨_, g0, fun v y => nomatch y⟩
    · exact ⟨_, g1, fun v y => nomatch y⟩
    · exact ⟨_, g2, fun v y => nomatch y⟩
    · exact ⟨o3, g3, fun v y => by rw [d3] at y; cases y⟩
    · exact ⟨o4, g4, fun v y => by rw [d4] at y; cases y⟩
  keep := fun i h h' st k => by
    obtain ⟨g0, g1, ⟨p, q, g2⟩, g3, g4⟩ := st
    exact ⟨k z (by simp) _ g0, k TI (by simp) _ g1, ⟨p, q, k TO (by simp) _ g2⟩, WE.tit_keep g3 fun o e => k i1 (by simp) o e, WE.tit_keep g4 fun o e => k i2 (by simp) o e⟩
  item := by
    intro X hP hw hK hc i pins s σ H E I hf st hg
    subst hP hw hK
    obtain ⟨xs, ys, x, y, hq1, hq2, hx, hy⟩ := hg
    obtain ⟨its, rv, p1, _⟩ := I.tuple hq1
    obtain ⟨jts, rw', p2, _⟩ := I.tuple hq2
    obtain ⟨g0, g1, ⟨p, q, g2⟩, g3, g4⟩ := st
    obtain ⟨u, hu, ru⟩ := rv.get hx
    obtain ⟨v, hv, rv2⟩ := rw'.get hy
    refine WE.pyNext_zipT D g0 g1 g2 g3 g4 p1 p2 (by simpa using hu) (by simpa using hv) fun h1 a1 a2 a3 a4 a5 a6 a7 => ⟨_, rfl, ?_⟩
    refine wpAny_letOwnedTupleGo_zip a1 fun h2 b1 b2 => ?_
    have lt : ∀ {c o}, s.heap.get? c = some o -> s.heap.objs.size ≠ c := fun e => Nat.ne_of_gt (Heap.lt_size e)
    have hTz : s.heap.objs.size ≠ z := lt g0
    have hch : ∀ c o, c ∉ [z, TI, TO, i1, i2] -> s.heap.get? c = some o -> h2.get? c = some o := fun c o hn e => b2.extBut _ _ (fun z' => hn (by simp [z'])) (a7 c o (fun z' => hn (by simp [z'])) (fun z' => hn (by simp [z'])) (fun z' => hn (by simp [z'])) (fun z' => hn (by simp [z'])) e)
    have new : ObjOk X.prog X.w (upd H s.heap.objs.size (.tup [x, y])) h2 s.heap.objs.size (.tup [x, y]) := ⟨by show 2 <= sizeLine; decide, [u, v], .cons ru (.cons rv2 .nil), _, b2.extBut _ _ hTz a5, rfl, _, rfl⟩
    have I2 := I.turnLaid (t' := s.toks) hf hch (Nat.le_refl _) new
    have gI : IsPair h1 TI (.ref i1) (.ref i2) := a7 _ _ D.TIz D.TITO D.TIi1 D.TIi2 g1
    refine ⟨.ref s.heap.objs.size, _, I2, rfl, ⟨s.heap.objs.size, I.hok.fresh (Nat.le_refl _), rfl, fun xs' ys' x' y' hx1 hy1 hx2 hy2 => ?_⟩, ⟨b1, b2.extBut _ _ D.TIz gI, ⟨_, _, b2.extBut _ _ D.TOz a2⟩, WE.tit_keep a3 fun o e => b2.extBut _ _ D.i1z e, WE.tit_keep a4 fun o e => b2.extBut _ _ D.i2z e⟩, fun c hc => ?_⟩
    · rw [I.tuple_inj hx1 hq1, hx] at hx2
      rw [I.tuple_inj hy1 hq2, hy] at hy2
      cases hx2
      cases hy2
      rfl
    · have hne : c ≠ s.heap.objs.size := fun z' => by
        subst z'
        obtain ⟨o3, e3, _⟩ := g3
        obtain ⟨o4, e4, _⟩ := g4
        simp only [List.mem_cons, List.not_mem_nil, or_false] at hc
        rcases hc with z' | z' | z' | z' | z'
        · exact lt g0 z'
        · exact lt g1 z'
        · exact lt g2 z'
        · exact lt e3 z'
        · exact lt e4 z'
      rw [upd_ne hne]
      exact (hf c hc).1
  done := by
    intro X hP hw hK hc i pins s σ H E I hf st hg
    subst hP hw hK
    obtain ⟨xs, hq1, hx⟩ := hg
    obtain ⟨its, rv, p1, _⟩ := I.tuple hq1
    obtain ⟨g0, g1, ⟨p, q, g2⟩, g3, g4⟩ := st
    have hl := rv.length
    refine WE.pyNext_zipE (I.ok.hd hc) D g0 g1 g2 g3 p1 (by simp; omega) fun h' kz => ⟨rfl, I.turnedL (t' := s.toks) hf fun c o hn e => kz c o (fun z' => hn (by simp [z'])) (fun z' => hn (by simp [z'])) (fun z' => hn (by simp [z'])) (fun z' => hn (by simp [z'])) e⟩
  self := fun _ _ _ _ _ st q => wpAny_pyIter_zip st.1 q
def iZpT (K : PySem.W.Frag) (ta : TA) : TI := fun σ H R => ta σ H fun vs H1 => ∃ a b, vs = [.ref a, .ref b] /\ (∃ xs, SqT K H1 a xs) /\ (∃ ys, SqT K H1 b ys) /\ R (Itz K a b) H1
theorem pi_zipT {X : Cx} {a b : Expr} {es : List Expr} {kk : Nat} {tp : Pos} {ta : TA} {p pos : Pos} (hg : Gl X "zip") (hm : X.mg "zip" = none) (ha : PA X [a, b] ta) (hs : starEach [a, b] X.env = [(false, eval a X.env), (false, eval b X.env)] := by rfl) (hs2 : starEach [b] X.env = [(false, eval b X.env)] := by rfl) :
    PI X (.Tuple es kk tp) (.Call (.Name "zip" p) [a, b] [] pos) (iZpT X.K ta) := by
  intro pins s σ H R I h
  refine wpAny_Call_Name_kw (ld_blt I hg hm boot_zip ?_)
  refine PyProof.Rows.callWith_type1 (thn (ha pos pins s σ H _ I h) fun us s1 ⟨vs, H1, I1, r1, q1⟩ => ?_) (by rw [hs, hs2]) (by rw [hs2]; rfl)
  obtain ⟨l1, l2, rfl, ⟨xs, hq1⟩, ⟨ys, hq2⟩, q⟩ := q1
  cases r1 with
  | cons r rr =>
    cases rr with
    | cons r2 r3 =>
      cases r3
      cases (show _ = Value.ref l1 from r)
      cases (show _ = Value.ref l2 from r2)
      obtain ⟨its, rv, pt1, _⟩ := I1.tuple hq1
      obtain ⟨jts, rv2, pt2, _⟩ := I1.tuple hq2
      have b1 : l1 < s1.heap.objs.size := by obtain ⟨_, e, _⟩ := pt1; exact Heap.lt_size e
      have b2 : l2 < s1.heap.objs.size := by obtain ⟨_, e, _⟩ := pt2; exact Heap.lt_size e
      refine WE.call_zipT pt1 pt2 fun h1 g0 g1 g2 g3 g4 kp => ?_
      refine wpAny_pyIter_zip g0 ?_
      refine ⟨_, [s1.heap.objs.size + 4, s1.heap.objs.size + 2, s1.heap.objs.size + 3, s1.heap.objs.size, s1.heap.objs.size + 1], _, _, H1, rfl, I1.kept (t' := s1.toks) kp, turn_zipT _ _ _ _ _ l1 l2 (zipApart_new b1 b2), ⟨g0, g1, ⟨_, _, g2⟩, g3, g4⟩, fun c hc => ?_, q⟩
      have hb2 : s1.heap.objs.size <= c := by
        simp only [List.mem_cons, List.not_mem_nil, or_false] at hc
        rcases hc with z' | z' | z' | z' | z' <;> subst z'
        · exact Nat.le_add_right _ 4
        · exact Nat.le_add_right _ 2
        · exact Nat.le_add_right _ 3
        · exact Nat.le_refl _
        · exact Nat.le_add_right _ 1
      exact I1.fpOk hb2 (I1.hok.fresh hb2)
end L2
namespace L2
open PySem PySem.Spec PyProof.Rows
def CX1 (P : Program) (w : World) : CXT := fun outer H s E e s' => ∃ (a : Addr) (cls a0 : Value) (H' : Hp) (B : Heap), e = .ref a /\ s'.os = s.os /\ AllBare s'.gens /\ Heap.FlyingW B outer a cls a0 s'.heap /\ HOk P w H' s'.heap /\ Un (frs outer) [] H H' s.heap s'.heap /\
  (∀ b o, s.heap.get? b = some o -> H b = none -> b ∉ frs outer -> B.get? b = some o) /\ (∀ b u, H' b = some u -> ∃ o, B.get? b = some o) /\ (∀ b o, s.heap.get? b = some o -> b ∉ frs outer -> ∃ o', B.get? b = some o') /\ E cls none H'
theorem ObjOk.there {P : Program} {w : World} {H : Hp} {h : Heap} {a : Addr} {o : HO} (x : ObjOk P w H h a o) : ∃ ob, h.get? a = some ob := by
  induction o with
  | lst xs => obtain ⟨_, _, _, _, e⟩ := x; exact ⟨_, e⟩
  | tup xs => obtain ⟨_, _, _, ob, e, _⟩ := x; exact ⟨ob, e⟩
  | dK kvs => obtain ⟨_, _, _, _, ob, _, _, e, _⟩ := x; exact ⟨ob, e⟩
  | dT kvs => obtain ⟨_, _, _, _, ob, _, _, e, _⟩ := x; exact ⟨ob, e⟩
  | set S n => obtain ⟨ob, _, _, _, e, _⟩ := x; exact ⟨ob, e⟩
  | ins C dx fs => obtain ⟨_, _, _, e, _⟩ := x; exact ⟨_, e⟩
  | own y => exact x
  | xd fs => obtain ⟨_, ⟨ob, _, _, e, _⟩, _⟩ := x; exact ⟨ob, e⟩
  | rng lo hi => obtain ⟨_, _, _, e⟩ := x; exact ⟨_, e⟩
  | frz ob u ih => exact ⟨ob, x.1⟩
  | tbl ps => exact ⟨_, x⟩
  | met f y => exact ⟨_, x⟩
  | ext φ => exact x.2.1
theorem HOk.inB {P : Program} {w : World} {H : Hp} {h h' B : Heap} (ok : HOk P w H h) (hB : B.StaysIn h) (hB' : B.StaysIn h') (tr : ∀ b u, H b = some u -> ∃ o, B.get? b = some o) : HOk P w H h' := fun a o e =>
  (ok a o e).stay (fun b u hb q => by
    have hb' : ∃ o, B.get? b = some o := by
      rcases hb with z | z
      · rw [z]
        exact tr a o e
      · exact tr b _ z
    obtain ⟨o', q'⟩ := hb'
    have := hB b o' q'
    rw [q] at this
    cases this
    exact hB' b u q') (fun _ q => q) fun _ _ q => q
section
variable {P : Program} {w : World} {K : PySem.W.Frag} {mg : Str -> Option Value} {base : Heap} {N : List Str} {qual : Str} {scope : Scope} {f : Addr} {cd : Value} {A : Around} {outer : List Env} {s₀ : Shared} {H₀ : Hp} {E : XK}
  {pins : List (Addr × Obj)} {σ : St} {H : Hp} {s : Shared}
theorem throw_new {h' : Heap} {e : Addr} {cls : Value} {vs : List Value} (I : Inv (cxOf (CX1 P w) P w K mg base N qual scope f cd A outer s₀ H₀ E) pins σ H s) (hx : Heap.MadeExcOf s.heap h' e cls vs) (hE : E cls none H) :
    (cxOf (CX1 P w) P w K mg base N qual scope f cd A outer s₀ H₀ E).xe (.ref e) { s with heap := h' } := by
  have stk : s.heap.FunFrames base (envOfC qual scope s₀.heap.objs.size f cd :: outer) := I.stack
  have hst : ∀ b, b ∈ frs (envOfC qual scope s₀.heap.objs.size f cd :: outer) -> b = s₀.heap.objs.size \/ b ∈ frs outer := fun b hb => by
    have hb' : b ∈ s₀.heap.objs.size :: frs outer := hb
    exact List.mem_cons.mp hb'
  have inB : ∀ b o, s.heap.get? b = some o -> b ∉ frs (envOfC qual scope s₀.heap.objs.size f cd :: outer) -> (PySem.W.hideAll s.heap (frs (envOfC qual scope s₀.heap.objs.size f cd :: outer))).get? b = some o := fun b o q n => PySem.W.hideAll_get _ q n
  have hB : (PySem.W.hideAll s.heap (frs (envOfC qual scope s₀.heap.objs.size f cd :: outer))).StaysIn s.heap := fun b o q => PySem.W.of_hideAll _ q
  have bse : Un (frs outer) [] H₀ H s₀.heap s.heap := I.base
  have lt : ∀ b o, s₀.heap.get? b = some o -> b ≠ s₀.heap.objs.size := fun b o q => Nat.ne_of_lt (Heap.lt_size q)
  have tr : ∀ b u, H b = some u -> ∃ o, (PySem.W.hideAll s.heap (frs (envOfC qual scope s₀.heap.objs.size f cd :: outer))).get? b = some o := fun b u q => by
    obtain ⟨o, ho⟩ := ObjOk.there (I.hok b u q)
    exact ⟨o, inB b o ho fun hb => by
      have := I.stkFree b hb
      rw [q] at this
      cases this⟩
  refine wpAny_leaves_madeW (base := PySem.W.hideAll s.heap (frs (envOfC qual scope s₀.heap.objs.size f cd :: outer))) (h := s.heap) I.ok.frames rfl hB (PySem.W.funFrames_hide stk fun env he a ha => List.mem_filterMap.mpr ⟨env, he, ha⟩) hx fun h'' t fl tu tn up => ?_
  have up' : s.heap.UpToSlots h'' := (Heap.UpToSlots.of_keeps hx.keeps).trans up
  refine ⟨e, cls, _, H, _, rfl, I.os, I.bare, fl, HOk.inB I.hok hB fl.1 tr, ⟨fun b o q n hb _ => ?_, fun b o q n hb _ => ?_, bse.free, fun b o q _ => ?_, bse.tups, bse.frzs, bse.tbls⟩, fun b o q n hb => ?_, tr, fun b o q hb => ?_, hE⟩
  · refine fl.1 b o (inB b o (bse.keep b o q n hb (by simp)) fun z => ?_)
    rcases hst b z with z | z
    · exact lt b o q z
    · exact hb z
  · obtain ⟨sl, q1⟩ := bse.slot b o q n hb (by simp)
    obtain ⟨_, o', ho', hd⟩ := Heap.FunFrames.mem stk (show b ∈ List.filterMap (fun (z : Env) => z.frame) _ from List.mem_cons_of_mem _ hb)
    obtain ⟨sl', q2⟩ := up' b _ q1 (by rw [ho'] at q1; cases q1; exact hd)
    exact ⟨sl', q2⟩
  · obtain ⟨o', q1⟩ := bse.there b o q (by simp)
    by_cases hb : b ∈ frs (envOfC qual scope s₀.heap.objs.size f cd :: outer)
    · obtain ⟨_, o2, ho', hd⟩ := Heap.FunFrames.mem stk hb
      obtain ⟨sl', q2⟩ := up' b _ ho' hd
      exact ⟨_, q2⟩
    · exact ⟨o', fl.1 b o' (inB b o' q1 hb)⟩
  · refine inB b o (bse.keep b o q n hb (by simp)) fun z => ?_
    rcases hst b z with z | z
    · exact lt b o q z
    · exact hb z
  · obtain ⟨o', q1⟩ := bse.there b o q (by simp)
    refine ⟨o', inB b o' q1 fun z => ?_⟩
    rcases hst b z with z | z
    · exact lt b o q z
    · exact hb z
theorem pass1 : Passes (CX1 P w) (cxOf (CX1 P w) P w K mg base N qual scope f cd A outer s₀ H₀ E) E := by
  intro pins σ H s e s' I h
  obtain ⟨a, cls, a0, H', B, rfl, os, bare, fl, hok, un, hB, tr, hT, hE⟩ := h
  have bse : Un (frs outer) [] H₀ H s₀.heap s.heap := I.base
  have lt : ∀ b o, s₀.heap.get? b = some o -> b ≠ s₀.heap.objs.size := fun b o q => Nat.ne_of_lt (Heap.lt_size q)
  have hst : ∀ b, b ∈ frs (envOfC qual scope s₀.heap.objs.size f cd :: outer) -> b = s₀.heap.objs.size \/ b ∈ frs outer := fun b hb => by
    have hb' : b ∈ s₀.heap.objs.size :: frs outer := hb
    exact List.mem_cons.mp hb'
  have un' : Un (frs (envOfC qual scope s₀.heap.objs.size f cd :: outer)) [] H H' s.heap s'.heap := un
  have kB : ∀ b o, s₀.heap.get? b = some o -> H₀ b = none -> b ∉ frs outer -> B.get? b = some o := fun b o q n hb => hB b o (bse.keep b o q n hb (by simp)) (bse.free b o q n (by simp)) fun z => by
    rcases hst b z with z | z
    · exact lt b o q z
    · exact hb z
  have kT : ∀ b o, s₀.heap.get? b = some o -> b ∉ frs outer -> ∃ o', B.get? b = some o' := fun b o q hb => by
    obtain ⟨o', q1⟩ := bse.there b o q (by simp)
    refine hT b o' q1 fun z => ?_
    rcases hst b z with z | z
    · exact lt b o q z
    · exact hb z
  refine wpAny_leaves_onW I.ok.frames rfl fl fun h'' fl' up => ?_
  refine ⟨a, cls, a0, H', B, rfl, os.trans I.os, bare, fl', HOk.inB hok fl.1 fl'.1 tr, ⟨fun b o q n hb _ => fl'.1 b o (kB b o q n hb), fun b o q n hb _ => ?_, fun b o q n _ => ?_, fun b o q _ => ?_, fun b xs q => un'.tups b xs (bse.tups b xs q), fun b o u q => un'.frzs b o u (bse.frzs b o u q), fun b ps q => ?_⟩, kB, tr, kT, hE⟩
  · obtain ⟨sl, q1⟩ := bse.slot b o q n hb (by simp)
    have n1 := bse.free b o q n (by simp)
    obtain ⟨sl1, q2⟩ := un'.slot b _ q1 n1 (List.mem_cons_of_mem _ hb) (by simp)
    obtain ⟨_, o', ho', hd⟩ := Heap.FunFrames.mem fl.2.2.1 (show b ∈ List.filterMap (fun (z : Env) => z.frame) _ from List.mem_cons_of_mem _ hb)
    obtain ⟨sl', q3⟩ := up b _ q2 (by rw [ho'] at q2; cases q2; exact hd)
    exact ⟨sl', q3⟩
  · obtain ⟨o', q1⟩ := bse.there b o q (by simp)
    exact un'.free b o' q1 (bse.free b o q n (by simp)) (by simp)
  · obtain ⟨o', q1⟩ := bse.there b o q (by simp)
    obtain ⟨o2, q2⟩ := un'.there b o' q1 (by simp)
    by_cases hb : b ∈ frs outer
    · obtain ⟨_, o3, ho3, hd⟩ := Heap.FunFrames.mem fl.2.2.1 (show b ∈ List.filterMap (fun (z : Env) => z.frame) _ from List.mem_cons_of_mem _ hb)
      obtain ⟨sl', q3⟩ := up b _ ho3 hd
      exact ⟨_, q3⟩
    · obtain ⟨o4, q4⟩ := kT b o q hb
      exact ⟨o4, fl'.1 b o4 q4⟩
  · obtain ⟨m1, e1⟩ := bse.tbls b ps q
    obtain ⟨m2, e2⟩ := un'.tbls b _ e1
    exact ⟨m1 ++ m2, by rw [e2, Array.append_assoc]⟩
end
end L2
namespace L2
open PySem PySem.Spec PyProof.Rows
section
variable {X : Cx} {e : Expr} {es : List Expr} {te : TE}
end
section
variable {X : Cx} {e : Expr} {es : List Expr} {t : TA} {E : XK}
end
end L2
namespace L2
open PySem PySem.Spec PyProof.Rows
section
variable {pg : Program} {wd : World} {A : Around} {E : Value -> Shared -> Prop} {h : Heap} {g : Array GenState} {d : Drawn} {t : Nat} {os : OsState} {a C : Addr} {o : Obj} {K : PySem.W.Frag}
end
end L2
namespace L2
open PySem PySem.Spec PyProof.Rows
def ExcO (a C : Addr) : Heap -> Prop := fun h => ∃ o, h.get? a = some o /\ o.cls = .ref C
section
variable {X : Cx}
end
end L2
namespace L2
open PySem PySem.Spec PyProof.Rows
section
variable {X : Cx} {pins : List (Addr × Obj)} {σ : St} {H : Hp} {s : Shared}
end
section
variable {X : Cx} {pins : List (Addr × Obj)} {σ : St} {H : Hp} {s : Shared}
end
section
variable {X : Cx} {body suite : List Stmt} {b₀ : Stmt} {x n : Str} {np hpos pos : Pos} {tb : XK -> TS} {ts : TS} {W : Addr} {i : Nat}
end
end L2
namespace L2
open PySem PySem.Spec PyProof.Rows
section
variable {P : Program} {w : World} {K : PySem.W.Frag} {mg : Str -> Option Value} {base : Heap}
end
section
variable {X : Cx} {k : Nat} {f : Addr} {fd : FuncData} {ps : List Str} {sp : Sp} {x : Str} {p pos : Pos} {e : Expr} {es : List Expr} {t : TA}
end
end L2
namespace L2
open PySem PySem.Spec PyProof.Rows
section
variable {P : Program} {w : World} {K : PySem.W.Frag} {mg : Str -> Option Value} {base : Heap}
theorem Fun.okX {x qual : Str} {st : Stmt} {f : Addr} {fd : FuncData} {N ps : List Str} {k : Nat} {sp : Sp} (F : Fun K x qual st f fd) (S : FnScope N ps (defScope st)) (len : ∀ vs H Q E, sp vs H Q E -> vs.length = ps.length)
    (body : ∀ (cdv : Value) (A : Around) (outer : List Env) (s : Shared) (H : Hp) (vs : List V) (Q : VK) (E : XK), Room k (A.deeper (envOfC qual (defScope st) s.heap.objs.size f cdv)) -> sp vs H Q E ->
      ∃ t, PSs (cxOf (CX1 P w) P w K mg base N qual (defScope st) f cdv A outer s H E) (defBody st) t /\ t { nx := fun _ H' => Q .non H', rt := Q } (start N vs) H) : FnOk P w K mg base (CX1 P w) (k + 1) f fd ps sp := by
  obtain ⟨oc, od, kV, doc, pm, an, cdv, ct, osl, rfl, lk, hcd⟩ := F.ex
  exact fn_of lk hcd S len fun A outer s H vs Q E hr hsp => body cdv A outer s H vs Q E hr hsp
theorem own1 {N : List Str} {qual : Str} {scope : Scope} {f : Addr} {cd : Value} {A : Around} {outer : List Env} {s : Shared} {H : Hp} {E : XK} {CX : CXT} :
    PassesOwn (model (cxOf CX P w K mg base N qual scope f cd A outer s H E).prog (cxOf CX P w K mg base N qual scope f cd A outer s H E).w) (cxOf CX P w K mg base N qual scope f cd A outer s H E).A (cxOf CX P w K mg base N qual scope f cd A outer s H E).env (cxOf CX P w K mg base N qual scope f cd A outer s H E).xe :=
  PassesOwn.leaving
end
end L2
namespace L2
open PySem PySem.Spec PyProof.Rows
section
variable {X : Cx}
end
end L2
namespace L2
open PySem
@[irreducible] def KqSs (X : Cx) (st : List Stmt) (t : TS) : Prop := PSs X st t
@[irreducible] def KqS (X : Cx) (st : Stmt) (t : TS) : Prop := PS X st t
@[irreducible] def KqE (X : Cx) (e : Expr) (t : TE) : Prop := PE X e t
@[irreducible] def KqT (X : Cx) (e : Expr) (t : TT) : Prop := PT X e t
@[irreducible] def KqW (X : Cx) (e : Expr) (t : TT) : Prop := PW X e t
@[irreducible] def KqA (X : Cx) (es : List Expr) (t : TA) : Prop := PA X es t
@[irreducible] def KqG (X : Cx) (target : Expr) (t : TG) : Prop := PG X target t
@[irreducible] def KqGs (X : Cx) (ts : List Expr) (t : TGs) : Prop := PGs X ts t
@[irreducible] def KqI (X : Cx) (tg iter : Expr) (wi : TI) : Prop := PI X tg iter wi
@[irreducible] def KqO (X : Cx) (e : Option Expr) (t : TO) : Prop := PO X e t
@[irreducible] def KqTs (X : Cx) (ifs : List Expr) (t : TT) : Prop := PTs X ifs t
@[irreducible] def KqPs (X : Cx) (pos : Pos) (keys : List (Option Expr)) (values : List Expr) (trs : List (TE × TE)) : Prop := PPs X pos keys values trs
section
variable {X : Cx} {pos : Pos}
theorem pw_pt_k {X : Cx} {e : Expr} {t : TT} (h : KqW X e t) : KqT X e t := by with_unfolding_all exact PW.pt h
theorem pg_sub_k {o i : Expr} {to ti : TE} {t : TSet} (ho : KqE X o to) (hi : KqE X i ti) (hs : PSet X t)
    (ha : ∀ v, assign (.Subscript o i pos) X.env v = (do
      let ov <- holding [v] (eval o X.env)
      let iv <- holding [v, ov] (eval i X.env)
      standAt pos
      holding [v, ov, iv] (setItem ov iv v)
      release [v, ov, iv] []) := by intro _; rfl) : KqG X (.Subscript o i pos) (gSub to ti t) := by with_unfolding_all exact pg_sub ho hi hs ha
theorem ps_par_k {i j : Nat} {x y : Str} {a b : Expr} {ta : TA} {px py pt : Pos} {kt k2 pt2} (hc : X.calm = true) (hN : X.N.Nodup) (hi : X.N[i]? = some x) (hj : X.N[j]? = some y) (hij : i ≠ j)
    (hx : X.env.scope.names.lookup x = some .local) (hy : X.env.scope.names.lookup y = some .local) (ha : KqA X [a, b] ta)
    (hw : swappedStores [.Tuple [.Name x px, .Name y py] kt pt] (.Tuple [a, b] k2 pt2) X.env = pure (some [x, y]))
    (hs : swapsWithSole [.Tuple [.Name x px, .Name y py] kt pt] (.Tuple [a, b] k2 pt2) pos.line X.env = pure false := by rfl) :
    KqS X (.Assign [.Tuple [.Name x px, .Name y py] kt pt] (.Tuple [a, b] k2 pt2) pos) (tPar i j ta) := by with_unfolding_all exact ps_par hc hN hi hj hij hx hy ha hw hs
end
end L2
namespace IC
open PySem
inductive PV where
  | non | bl (b : Bool) | int (i : Int) | str (x : Str) | tp (k : Bool) (xs : List PV) | lst (xs : List PV) | loc (n : Nat) | exn (c : Nat) | scr (xs : List PV)
deriving Inhabited
noncomputable abbrev PV.tup (xs : List PV) : PV := .tp false xs
mutual
noncomputable def noLoc : PV -> Bool
  | .loc _ => false
  | .exn _ => false
  | .tp _ xs => noLocs xs
  | .lst xs => noLocs xs
  | .scr xs => noLocs xs
  | _ => true
noncomputable def noLocs : List PV -> Bool
  | [] => true
  | x :: xs => noLoc x && noLocs xs
end
mutual
noncomputable def shd (n : Nat) : PV -> Bool
  | .non => true
  | .bl _ => true
  | .int _ => true
  | .str x => x.cps.all (· < 0x110000)
  | .tp _ xs => decide (0 < n) && shds (n - 1) xs
  | .lst xs => decide (0 < n) && shds (n - 1) xs
  | _ => false
noncomputable def shds (n : Nat) : List PV -> Bool
  | [] => true
  | x :: xs => shd n x && shds n xs
end
noncomputable abbrev shp (v : PV) : Bool := shd 60 v
noncomputable def flat : PV -> Bool
  | .non => true
  | .bl _ => true
  | .int _ => true
  | .str _ => true
  | _ => false
noncomputable def bi (b : Bool) : Int := if b then 1 else 0
mutual
noncomputable def peq : PV -> PV -> Bool
  | .non, .non => true
  | .bl a, .bl b => a == b
  | .bl a, .int j => bi a == j
  | .int i, .bl b => i == bi b
  | .int i, .int j => i == j
  | .str x, .str y => x == y
  | .tp _ xs, .tp _ ys => peqs xs ys
  | .lst xs, .lst ys => peqs xs ys
  | _, _ => false
noncomputable def peqs : List PV -> List PV -> Bool
  | [], [] => true
  | x :: xs, y :: ys => peq x y && peqs xs ys
  | _, _ => false
end
inductive Ob where
  | lst (xs : List PV) | dct (t : Bool) (kvs : List (PV × PV)) | dead
noncomputable abbrev Env := List (Option PV)
noncomputable abbrev Store := List Ob
inductive R (α : Type) where
  | ok (a : α) (st : Store) | exc (c : Nat) (st : Store) | bad
noncomputable def R.bind {α β : Type} (r : R α) (k : α -> Store -> R β) : R β :=
  match r with
  | .ok a st => k a st
  | .exc c st => .exc c st
  | .bad => .bad
inductive BOp where
  | add | sub | mul | fdiv | mod | pow | shl | shr | band | bor | bxor
inductive COp where
  | eq | ne | lt | le | gt | ge | is | isnot | isin | notin
inductive Ty where
  | int | bool | str | tuple | list | cls (c : Nat) | val
inductive Blt where
  | len | int | abs | min | max | tuple | list | all | sum | dict | rev
inductive Mth where
  | append | extend | get | bits | upper | insert
inductive Tg where
  | n (i : Nat) | t (l : List Nat)
mutual
inductive Ce where
  | cst (v : PV)
  | var (i : Nat)
  | bin (o : BOp) (a b : Ce)
  | neg (a : Ce)
  | not (a : Ce)
  | and (a b : Ce)
  | or (a b : Ce)
  | cmp (o : COp) (a b : Ce)
  | chain (o p : COp) (a b c : Ce)
  | ite (c a b : Ce)
  | tup (es : Ces)
  | lst (es : Ces)
  | newl (es : Ces)
  | newd (kvs : List (Str × Int))
  | dict0 (t : Bool)
  | idx (a i : Ce)
  | slc (a : Ce) (lo hi : Ce)
  | call (f : Nat) (args : Ces)
  | blt (b : Blt) (args : Ces)
  | mth (m : Mth) (o : Ce) (args : Ces)
  | isi (a : Ce) (t : List Ty)
  | isx (a : Ce) (cs : List Nat) (t : List Ty)
  | comp (sl : List (Option Nat)) (tg : Tg) (it : Cit) (c : Ce) (e : Ce)
  | frz (a : Ce)
  | nope
  | fst (e : Ces)
  | rep (a b : Ce)
  | dix (D : List (Str × PV)) (a : Ce)
  | din (a : Ce) (D : List (Str × PV))
  | thw (a : Ce)
  | nin (a b : Ce)
inductive Ces where
  | nil
  | cons (e : Ce) (es : Ces)
inductive Cit where
  | seq (e : Ce)
  | range1 (a : Ce)
  | range2 (a b : Ce)
  | rangeD (a b : Ce)
  | enum (e : Ce)
  | zip (a b : Ce)
end
mutual
inductive Cs where
  | expr (e : Ce)
  | asg (t : Tg) (e : Ce)
  | six (o i e : Ce)
  | dput (o i e : Ce)
  | aug (i : Nat) (o : BOp) (e : Ce)
  | ret (e : Ce)
  | ite (c : Ce) (a b : Css)
  | for (t : Tg) (it : Cit) (b : Css)
  | while (c : Ce) (b : Css)
  | nope
  | brk
  | cnt
  | pass
  | raise (c : Nat) (e : Ce)
  | try (b : Css) (cs : List Nat) (i : Nat) (h : Css)
  | six2 (o i p j e f : Ce)
inductive Css where
  | nil
  | cons (s : Cs) (ss : Css)
end
noncomputable def CMulB (i j : Int) : Bool := (decide (i.natAbs < 18446744073709551616)) || (decide (j.natAbs < 18446744073709551616))
noncomputable def binI (o : BOp) (i j : Int) : Option PV :=
  match o with
  | .add => some (.int (i + j))
  | .sub => some (.int (i - j))
  | .mul => if CMulB i j then some (.int (i * j)) else none
  | .fdiv => if 0 < j /\ j < 10000000000000000000000000000000000000000000000000000000000000000000000 then some (.int (i / j)) else none
  | .mod => if 0 < j then some (.int (i % j)) else none
  | .pow => if 0 <= j /\ j <= 1000000 /\ i.natAbs < 18446744073709551616 then some (.int (i ^ j.toNat)) else none
  | .shl => if 0 <= j /\ j <= 1000000 /\ i.natAbs < 18446744073709551616 then some (.int (i * 2 ^ j.toNat)) else none
  | .shr => if 0 <= j then some (.int (i / 2 ^ j.toNat)) else none
  | .band => some (.int (Builtin.bitAnd i j))
  | .bor => some (.int (Builtin.bitOr i j))
  | .bxor => some (.int (Builtin.bitXor i j))
noncomputable def sizeMax : Nat := 16777216
noncomputable def catT (k : Bool) (a : List PV) (j : Bool) (b : List PV) : PV := if a.isEmpty then .tp j b else if b.isEmpty then .tp k a else .tup (a ++ b)
noncomputable def repV (x y : PV) : Option PV :=
  match x, y with
  | .tp _ a, .int n => if 2 <= n /\ n <= 1000 /\ a.isEmpty = false /\ a.length <= 1000 then some (.tup (List.replicate n.toNat a).flatten) else none
  | _, _ => none
noncomputable def binV (o : BOp) (x y : PV) : Option PV :=
  match x, y with
  | .int i, .int j => binI o i j
  | .int i, .bl b => match o with
    | .add => some (.int (i + bi b))
    | _ => none
  | .str a, .str b => match o with
    | .add => if a.length + b.length <= sizeMax then some (.str (a ++ b)) else none
    | _ => none
  | .tp k a, .tp j b => match o with
    | .add => if a.length + b.length <= sizeMax then some (catT k a j b) else none
    | _ => none
  | .lst a, .lst b => match o with
    | .add => if a.length + b.length <= sizeMax then some (.lst (a ++ b)) else none
    | _ => none
  | _, _ => none
noncomputable def augV (o : BOp) (x y : PV) : Option PV :=
  match x, y with
  | .int i, .int j => binI o i j
  | _, _ => none
noncomputable def isNon : PV -> Bool
  | .non => true
  | _ => false
noncomputable def inL (x : PV) : List PV -> Bool
  | [] => false
  | y :: ys => peq y x || inL x ys
noncomputable def inS (a b : Str) : Bool := (List.range (b.length + 1)).any fun i => decide (i + a.length <= b.length) && (b.cps.extract i (i + a.length) == a.cps)
noncomputable def cmpI (o : COp) (i j : Int) : Option PV :=
  match o with
  | .lt => some (.bl (decide (i < j)))
  | .le => some (.bl (decide (i <= j)))
  | .gt => some (.bl (decide (j < i)))
  | .ge => some (.bl (decide (j <= i)))
  | _ => none
noncomputable def cmpS (o : COp) (a b : Str) : Option PV :=
  match o with
  | .lt => some (.bl (decide (a.cps.toList < b.cps.toList)))
  | .le => some (.bl (!decide (b.cps.toList < a.cps.toList)))
  | _ => none
noncomputable def cmpV (o : COp) (x y : PV) : Option PV :=
  match o with
  | .eq => if shp x && shp y then some (.bl (peq x y)) else none
  | .ne => if shp x && shp y then some (.bl (!peq x y)) else none
  | .is => match y with
    | .non => some (.bl (isNon x))
    | .bl b => match x with
      | .bl a => some (.bl (a == b))
      | _ => none
    | _ => none
  | .isnot => match y with
    | .non => some (.bl (!isNon x))
    | .bl b => match x with
      | .bl a => some (.bl (!(a == b)))
      | _ => none
    | _ => none
  | .isin => match x, y with
    | .str a, .str b => some (.bl (inS a b))
    | x, .tp _ l => if flat x && l.all flat then some (.bl (inL x l)) else none
    | x, .lst l => if flat x && l.all flat then some (.bl (inL x l)) else none
    | _, _ => none
  | .notin => match x, y with
    | .str a, .str b => some (.bl (!inS a b))
    | x, .tp _ l => if flat x && l.all flat then some (.bl (!inL x l)) else none
    | x, .lst l => if flat x && l.all flat then some (.bl (!inL x l)) else none
    | _, _ => none
  | o => match x, y with
    | .int i, .int j => cmpI o i j
    | .str a, .str b => cmpS o a b
    | _, _ => none
noncomputable def truV (st : Store) (x : PV) : Option Bool :=
  match x with
  | .non => some false
  | .bl b => some b
  | .int i => some (i != 0)
  | .str y => if y.length <= sizeMax then some ((y.length : Int) != 0) else none
  | .tp _ xs => some (!xs.isEmpty)
  | .lst xs => some (!xs.isEmpty)
  | .loc n => match st[n]? with
    | some (.lst xs) => some (!xs.isEmpty)
    | _ => none
  | _ => none
noncomputable def ixI (n : Nat) (i : Int) : Option Nat := if 0 <= i then (if i < n then some i.toNat else none) else if -(n : Int) <= i then some (i + n).toNat else none
noncomputable def at? {α : Type} (xs : List α) (i : Int) : Option α := (ixI xs.length i).bind fun j => xs[j]?
noncomputable def look (k : PV) : List (PV × PV) -> Option PV
  | [] => none
  | (a, b) :: r => if peq a k then some b else look k r
noncomputable def put (k v : PV) (kvs : List (PV × PV)) : List (PV × PV) :=
  if (kvs.any fun p => peq p.1 k) = true then kvs.map (fun p => if peq p.1 k = true then (p.1, v) else p) else kvs ++ [(k, v)]
noncomputable def isKey0 : PV -> Bool
  | .int _ => true
  | .str _ => true
  | _ => false
noncomputable def isKey (t : Bool) (k : PV) : Bool :=
  match t with
  | false => isKey0 k
  | true => match k with
    | .tp false xs => xs.all isKey0
    | _ => false
noncomputable def idxI {α : Type} (xs : List α) (i : PV) : Option α :=
  match i with
  | .int k => at? xs k
  | _ => none
noncomputable def idxV (st : Store) (x i : PV) : Option PV :=
  match x with
  | .tp _ xs => idxI xs i
  | .lst xs => idxI xs i
  | .str s => if s.length <= sizeMax then (idxI s.cps.toList i).map fun c => .str ⟨#[c]⟩ else none
  | .loc n => match st[n]? with
    | some (.lst xs) => idxI xs i
    | _ => none
  | _ => none
noncomputable def clampI (n : Nat) (v : Int) : Nat := if v < 0 then (v + (n : Int)).toNat else min v.toNat n
noncomputable def loOf (n : Nat) (lo : Option Int) : Nat :=
  match lo with
  | none => 0
  | some i => clampI n i
noncomputable def hiOf (n : Nat) (hi : Option Int) : Nat :=
  match hi with
  | none => n
  | some i => clampI n i
noncomputable def cut {α : Type} (xs : List α) (lo hi : Option Int) : List α := (xs.drop (loOf xs.length lo)).take (hiOf xs.length hi - loOf xs.length lo)
noncomputable def optI : PV -> Option (Option Int)
  | .non => some none
  | .int i => some (some i)
  | _ => none
noncomputable def slcO (x : PV) (a b : Option Int) : Option PV :=
  match x with
  | .tp k xs => if loOf xs.length a = 0 /\ hiOf xs.length b = xs.length then some (.tp k xs) else some (.tup (cut xs a b))
  | .str s => if s.length <= sizeMax then some (.str ⟨(cut s.cps.toList a b).toArray⟩) else none
  | .lst xs => some (.lst (cut xs a b))
  | .scr xs => some (.lst (cut xs a b))
  | _ => none
noncomputable def slcV (x : PV) (a : Option Int) (hi : PV) : Option PV :=
  match optI hi with
  | some b => slcO x a b
  | none => none
noncomputable def isTy (x : PV) (t : Ty) : Bool :=
  match x, t with
  | .int _, .int => true
  | .bl _, .int => true
  | .bl _, .bool => true
  | .str _, .str => true
  | .tp _ _, .tuple => true
  | .lst _, .list => true
  | .exn c, .cls d => c == d
  | .exn _, .val => true
  | _, _ => false
noncomputable def isBl : Ty -> Bool
  | .cls _ => false
  | .val => false
  | _ => true
noncomputable def isiV (x : PV) (ts : List Ty) : Option PV :=
  match x with
  | .loc _ => none
  | .scr _ => none
  | .exn c => if ts.all isBl then none else some (.bl (ts.any (isTy (.exn c))))
  | x => match ts with
    | [t] => if isBl t then some (.bl (isTy x t)) else none
    | _ => none
noncomputable def isxV (cs : List Nat) (x : PV) (ts : List Ty) : Option PV :=
  match x with
  | .exn c => if cs.contains c then some (.bl (ts.any (isTy (.exn c)))) else none
  | _ => none
noncomputable def fstS : PV -> Option Str
  | .int i => if i.natAbs.log2 < 1920 then some (Str.ofString (toString i)) else none
  | .str s => if s.length <= 16777216 then some s else none
  | _ => none
noncomputable def fstJ : Str -> List PV -> Option Str
  | out, [] => if out.length <= 16777216 then some out else none
  | out, v :: vs => match fstS v with
    | some y => if (out ++ y).length <= 16777216 then fstJ (out ++ y) vs else none
    | none => none
noncomputable def fstR (r : R (List PV)) : R PV :=
  match r with
  | .ok vs st => match fstJ Str.empty vs with
    | some z => .ok (.str z) st
    | none => .bad
  | _ => .bad
noncomputable def allB : List PV -> Option Bool
  | [] => some true
  | .bl b :: r => match allB r with
    | some c => some (b && c)
    | none => none
  | _ :: _ => none
noncomputable def sumI : List PV -> Option Int
  | [] => some 0
  | .int i :: r => match sumI r with
    | some c => some (i + c)
    | none => none
  | _ :: _ => none
noncomputable def maxI : List PV -> Option Int
  | [] => none
  | [.int i] => some i
  | .int i :: r => match maxI r with
    | some c => some (if i < c then c else i)
    | none => none
  | _ :: _ => none
noncomputable def seqOf (st : Store) : PV -> Option (List PV)
  | .tp _ xs => some xs
  | .lst xs => some xs
  | .loc n => match st[n]? with
    | some (.lst xs) => some xs
    | _ => none
  | _ => none
noncomputable def lstOf (st : Store) : PV -> Option (List PV)
  | .lst xs => some xs
  | .loc n => match st[n]? with
    | some (.lst xs) => some xs
    | _ => none
  | _ => none
noncomputable def lenV (st : Store) (x : PV) : Option PV :=
  match x with
  | .str s => if s.length <= sizeMax then some (.int s.length) else none
  | x => (seqOf st x).map fun xs => .int xs.length
noncomputable def intV (x : PV) : Option PV :=
  match x with
  | .int i => some (.int i)
  | .bl k => some (.int (bi k))
  | _ => none
noncomputable def absV1 (x : PV) : Option PV :=
  match x with
  | .int i => some (.int (if i < 0 then -i else i))
  | _ => none
noncomputable def minV (x y : PV) : Option PV :=
  match x, y with
  | .int i, .int j => some (.int (if j < i then j else i))
  | _, _ => none
noncomputable def maxV (x y : PV) : Option PV :=
  match x, y with
  | .int i, .int j => some (.int (if i < j then j else i))
  | _, _ => none
noncomputable def tupV (st : Store) (x : PV) : Option PV :=
  match x with
  | .tp k xs => some (.tp k xs)
  | x => (lstOf st x).map .tup
noncomputable def revV : PV -> Option PV
  | .tp _ xs => if xs.isEmpty then none else some (.tup xs.reverse)
  | _ => none
noncomputable def bltV (b : Blt) (st : Store) (vs : List PV) : Option PV :=
  match vs with
  | [x] => match b with
    | .len => lenV st x
    | .int => intV x
    | .abs => absV1 x
    | .max => (lstOf st x).bind fun xs => (maxI xs).map .int
    | .tuple => tupV st x
    | .list => (seqOf st x).map .lst
    | .all => (lstOf st x).bind fun xs => (allB xs).map .bl
    | .sum => (lstOf st x).bind fun xs => (sumI xs).map .int
    | .rev => revV x
    | _ => none
  | [x, y] => match b with
    | .min => minV x y
    | .max => maxV x y
    | _ => none
  | _ => none
noncomputable def dctOf (st : Store) : PV -> Option (Bool × List (PV × PV))
  | .loc n => match st[n]? with
    | some (.dct t xs) => some (t, xs)
    | _ => none
  | _ => none
noncomputable def mthOk (m : Mth) (st : Store) (x : PV) : Option Bool :=
  match m with
  | .append => (lstOf st x).map fun _ => true
  | .extend => (lstOf st x).map fun _ => true
  | .insert => (lstOf st x).map fun _ => true
  | .get => (dctOf st x).map fun _ => true
  | .bits => match x with
    | .int _ => some true
    | _ => none
  | .upper => match x with
    | .str _ => some true
    | _ => none
noncomputable def appV (st : Store) (o v : PV) : R PV :=
  match o with
  | .loc n => match st[n]? with
    | some (.lst xs) => if xs.length < 1000000 then .ok .non (st.set n (.lst (xs ++ [v]))) else .bad
    | _ => .bad
  | _ => .bad
noncomputable def extV (st : Store) (o v : PV) : R PV :=
  match o with
  | .loc n => match st[n]? with
    | some (.lst xs) => match v with
      | .lst ys => if xs.length + ys.length <= 1000000 then .ok .non (st.set n (.lst (xs ++ ys))) else .bad
      | _ => .bad
    | _ => .bad
  | _ => .bad
noncomputable def insV (st : Store) (o i v : PV) : R PV :=
  match o with
  | .loc n => match st[n]? with
    | some (.lst xs) => match i with
      | .int k => if 0 <= k /\ k <= xs.length /\ xs.length < 1000000 then .ok .non (st.set n (.lst (xs.take k.toNat ++ v :: xs.drop k.toNat))) else .bad
      | _ => .bad
    | _ => .bad
  | _ => .bad
noncomputable def getV (st : Store) (o k d : PV) : R PV :=
  match dctOf st o with
  | some (t, kvs) => if isKey t k then .ok ((look k kvs).getD d) st else .bad
  | none => .bad
noncomputable def upC (c : Nat) : Nat := if 97 <= c /\ c <= 122 then c - 32 else c
noncomputable def upS (s : Str) : Str := ⟨(s.cps.toList.map upC).toArray⟩
noncomputable def mthV (m : Mth) (st : Store) (o : PV) (vs : List PV) : R PV :=
  match m, vs with
  | .append, [v] => appV st o v
  | .extend, [v] => extV st o v
  | .insert, [i, v] => insV st o i v
  | .get, [k, d] => getV st o k d
  | .bits, [] => match o with
    | .int i => .ok (.int (Builtin.Int.intBits i)) st
    | _ => .bad
  | .upper, [] => match o with
    | .str s => if s.cps.toList.all (· < 128) /\ s.length <= 1000000 then .ok (.str (upS s)) st else .bad
    | _ => .bad
  | _, _ => .bad
noncomputable def toR (o : Option PV) (st : Store) : R PV :=
  match o with
  | some v => .ok v st
  | none => .bad
noncomputable def bindT (t : Tg) (v : PV) (ρ : Env) : Option Env :=
  match t, v with
  | .n i, v => some (ρ.set i (some v))
  | .t l, .tp _ xs => if l.length = xs.length then some ((l.zip xs).foldl (fun ρ p => ρ.set p.1 (some p.2)) ρ) else none
  | _, _ => none
noncomputable def pairsUp : Nat -> List PV -> List PV
  | _, [] => []
  | k, x :: xs => .tup [.int k, x] :: pairsUp (k + 1) xs
noncomputable def zipUp : List PV -> List PV -> List PV
  | x :: xs, y :: ys => .tup [x, y] :: zipUp xs ys
  | _, _ => []
noncomputable def zipV (x y : PV) : Option (List PV) :=
  match x, y with
  | .tp _ xs, .tp _ ys => if xs.length <= ys.length then some (zipUp xs ys) else none
  | _, _ => none
noncomputable def dlook (s : Str) : List (Str × PV) -> Option PV
  | [] => none
  | (a, b) :: r => if decide (a = s) then some b else dlook s r
noncomputable def dixV (D : List (Str × PV)) (x : PV) : Option PV :=
  match x with
  | .str s => dlook s D
  | _ => none
noncomputable def dinV (D : List (Str × PV)) (x : PV) : Option PV :=
  match x with
  | .str s => some (.bl (dlook s D).isSome)
  | _ => none
noncomputable def rangeL : Nat -> Int -> Int -> List PV
  | 0, _, _ => []
  | n + 1, a, d => .int a :: rangeL n (a + d) d
noncomputable def rng1 (x : PV) : Option (List PV) :=
  match x with
  | .int j => if j.natAbs < 1000000000 then some (rangeL j.toNat 0 1) else none
  | _ => none
noncomputable def rng2 (x y : PV) : Option (List PV) :=
  match x, y with
  | .int i, .int j => if i.natAbs < 1000000000 /\ j.natAbs < 1000000000 then some (rangeL (j - i).toNat i 1) else none
  | _, _ => none
noncomputable def rngD (x y : PV) : Option (List PV) :=
  match x, y with
  | .int i, .int j => if i.natAbs < 1000000000 /\ j.natAbs < 1000000000 then some (rangeL (i - j).toNat i (-1)) else none
  | _, _ => none
noncomputable def toL (o : Option (List PV)) (st : Store) : R (List PV) :=
  match o with
  | some v => .ok v st
  | none => .bad
noncomputable def frzV (v : PV) (st : Store) : R PV :=
  match v with
  | .loc n => match st[n]? with
    | some (.lst xs) => .ok (.lst xs) (st.set n .dead)
    | _ => .bad
  | v => .ok v st
noncomputable def thwV (v : PV) (st : Store) : R PV :=
  match v with
  | .lst xs => .ok (.loc st.length) (st ++ [.lst xs])
  | _ => .bad
noncomputable def ninV (st : Store) (x y : PV) : Option PV :=
  match y with
  | .loc n => match st[n]? with
    | some (.lst xs) => if shp x && shds 60 xs then some (.bl (!inL x xs)) else none
    | _ => none
  | _ => none
inductive Fl where
  | nx (ρ : Env) (st : Store) | rt (v : PV) (st : Store) | bk (ρ : Env) (st : Store) | ct (ρ : Env) (st : Store) | exc (c : Nat) (ρ : Env) (st : Store) | bad
noncomputable def onBl {α : Type} (x : PV) (k : Bool -> R α) : R α :=
  match x with
  | .bl b => k b
  | _ => .bad
noncomputable def onO {α : Type} (o : Option Bool) (k : Bool -> R α) : R α :=
  match o with
  | some b => k b
  | none => .bad
noncomputable def onF (o : Option Bool) (k : Bool -> Fl) : Fl :=
  match o with
  | some b => k b
  | none => .bad
noncomputable def onP {α : Type} (o : Option (Option Int)) (k : Option Int -> R α) : R α :=
  match o with
  | some b => k b
  | none => .bad
noncomputable def blO (o : Option PV) : Option Bool :=
  match o with
  | some (.bl b) => some b
  | _ => none
noncomputable def consO (o : Option PV) (ys : List PV) : List PV :=
  match o with
  | some y => y :: ys
  | none => ys
noncomputable def compL (one : PV -> Store -> R (Option PV)) : List PV -> Store -> R (List PV)
  | [], st => .ok [] st
  | x :: xs, st => (one x st).bind fun o st1 => (compL one xs st1).bind fun ys st2 => .ok (consO o ys) st2
noncomputable def lstR (r : R (List PV)) : R PV :=
  match r with
  | .ok ys st => if ys.length <= 1000000 then .ok (.lst ys) st else .bad
  | _ => .bad
mutual
noncomputable def ev (call : Nat -> List PV -> Store -> R PV) (ρ : Env) (st : Store) : Ce -> R PV
  | .cst v => .ok v st
  | .var i => match ρ[i]? with
    | some (some v) => .ok v st
    | _ => .bad
  | .bin o a b => (ev call ρ st a).bind fun x st1 => (ev call ρ st1 b).bind fun y st2 => toR (binV o x y) st2
  | .neg a => (ev call ρ st a).bind fun x st1 => match x with
    | .int i => .ok (.int (-i)) st1
    | _ => .bad
  | .not a => (ev call ρ st a).bind fun x st1 => onBl x fun k => .ok (.bl (!k)) st1
  | .and a b => (ev call ρ st a).bind fun x st1 => onBl x fun k => cond k (ev call ρ st1 b) (.ok (.bl false) st1)
  | .or a b => (ev call ρ st a).bind fun x st1 => onBl x fun k => cond k (.ok (.bl true) st1) (ev call ρ st1 b)
  | .cmp o a b => (ev call ρ st a).bind fun x st1 => (ev call ρ st1 b).bind fun y st2 => toR (cmpV o x y) st2
  | .chain o p a b c => (ev call ρ st a).bind fun x st1 => (ev call ρ st1 b).bind fun y st2 => onO (blO (cmpV o x y)) fun k => cond k ((ev call ρ st2 c).bind fun z st3 => toR (cmpV p y z) st3) (.ok (.bl false) st2)
  | .ite c a b => (ev call ρ st c).bind fun x st1 => onO (truV st1 x) fun k => cond k (ev call ρ st1 a) (ev call ρ st1 b)
  | .tup es => (evs call ρ st es).bind fun vs st1 => if vs.length <= sizeMax then .ok (.tup vs) st1 else .bad
  | .lst es => (evs call ρ st es).bind fun vs st1 => if vs.length <= sizeMax then .ok (.lst vs) st1 else .bad
  | .newl es => (evs call ρ st es).bind fun vs st1 => if vs.length <= sizeMax then .ok (.loc st1.length) (st1 ++ [.lst vs]) else .bad
  | .newd kvs => if kvs.length <= 15 then .ok (.loc st.length) (st ++ [.dct false (kvs.foldl (fun acc kv => put (.str kv.1) (.int kv.2) acc) [])]) else .bad
  | .dict0 t => .ok (.loc st.length) (st ++ [.dct t []])
  | .idx a i => (ev call ρ st a).bind fun x st1 => (ev call ρ st1 i).bind fun y st2 => toR (idxV st2 x y) st2
  | .slc a l h => (ev call ρ st a).bind fun x st1 => (ev call ρ st1 l).bind fun y st2 => onP (optI y) fun o => (ev call ρ st2 h).bind fun z st3 => toR (slcV x o z) st3
  | .call f es => (evs call ρ st es).bind fun vs st1 => call f vs st1
  | .blt b es => (evs call ρ st es).bind fun vs st1 => toR (bltV b st1 vs) st1
  | .mth m o es => (ev call ρ st o).bind fun x st1 => onO (mthOk m st1 x) fun _ => (evs call ρ st1 es).bind fun vs st2 => mthV m st2 x vs
  | .isi a ts => (ev call ρ st a).bind fun x st1 => toR (isiV x ts) st1
  | .isx a cs ts => (ev call ρ st a).bind fun x st1 => toR (isxV cs x ts) st1
  | .comp sl tg it c e => (evi call ρ st it).bind fun xs st1 =>
    let ρ0 : Env := sl.map fun o => o.bind fun j => (ρ[j]?).join
    lstR (compL (fun x st2 => match bindT tg x ρ0 with
      | none => .bad
      | some ρ1 => (ev call ρ1 st2 c).bind fun b st3 => onO (truV st3 b) fun k => cond k ((ev call ρ1 st3 e).bind fun y st4 => .ok (some y) st4) (.ok none st3)) xs st1)
  | .nope => .bad
  | .frz a => (ev call ρ st a).bind fun x st1 => frzV x st1
  | .fst es => fstR (evs call ρ st es)
  | .rep a b => (ev call ρ st a).bind fun x st1 => (ev call ρ st1 b).bind fun y st2 => toR (repV x y) st2
  | .dix D a => (ev call ρ st a).bind fun x st1 => toR (dixV D x) st1
  | .din a D => (ev call ρ st a).bind fun x st1 => toR (dinV D x) st1
  | .thw a => (ev call ρ st a).bind fun x st1 => thwV x st1
  | .nin a b => (ev call ρ st a).bind fun x st1 => (ev call ρ st1 b).bind fun y st2 => toR (ninV st2 x y) st2
noncomputable def evs (call : Nat -> List PV -> Store -> R PV) (ρ : Env) (st : Store) : Ces -> R (List PV)
  | .nil => .ok [] st
  | .cons e es => (ev call ρ st e).bind fun v st1 => (evs call ρ st1 es).bind fun vs st2 => .ok (v :: vs) st2
noncomputable def evi (call : Nat -> List PV -> Store -> R PV) (ρ : Env) (st : Store) : Cit -> R (List PV)
  | .seq e => (ev call ρ st e).bind fun v st1 => match v with
    | .tp _ xs => .ok xs st1
    | .lst xs => .ok xs st1
    | _ => .bad
  | .range1 a => (ev call ρ st a).bind fun x st1 => toL (rng1 x) st1
  | .range2 a b => (ev call ρ st a).bind fun x st1 => (ev call ρ st1 b).bind fun y st2 => toL (rng2 x y) st2
  | .rangeD a b => (ev call ρ st a).bind fun x st1 => (ev call ρ st1 b).bind fun y st2 => toL (rngD x y) st2
  | .enum e => (ev call ρ st e).bind fun v st1 => match v with
    | .tp _ xs => .ok (pairsUp 0 xs) st1
    | _ => .bad
  | .zip a b => (ev call ρ st a).bind fun x st1 => (ev call ρ st1 b).bind fun y st2 => toL (zipV x y) st2
end
noncomputable def R.fl {α : Type} (r : R α) (ρ : Env) (k : α -> Store -> Fl) : Fl :=
  match r with
  | .ok a st => k a st
  | .exc c st => .exc c ρ st
  | .bad => .bad
noncomputable def againF (f : Fl) (k : Env -> Store -> Fl) : Fl :=
  match f with
  | .nx ρ st => k ρ st
  | .ct ρ st => k ρ st
  | .bk ρ st => .nx ρ st
  | f => f
noncomputable def forL (t : Tg) (body : Env -> Store -> Fl) : List PV -> Env -> Store -> Fl
  | [], ρ, st => .nx ρ st
  | x :: xs, ρ, st => match bindT t x ρ with
    | none => .bad
    | some ρ1 => againF (body ρ1 st) fun ρ2 st2 => forL t body xs ρ2 st2
noncomputable def whileL (test : Env -> Store -> R PV) (body : Env -> Store -> Fl) : Nat -> Env -> Store -> Fl
  | 0, _, _ => .bad
  | n + 1, ρ, st => (test ρ st).fl ρ fun x st1 => onF (truV st1 x) fun k => cond k (againF (body ρ st1) fun ρ2 st2 => whileL test body n ρ2 st2) (.nx ρ st1)
noncomputable def sixV (st : Store) (o i v : PV) : Option Store :=
  match o with
  | .loc n => match st[n]? with
    | some (.lst xs) => match i with
      | .int k => match ixI xs.length k with
        | some j => some (st.set n (.lst (xs.set j v)))
        | none => none
      | _ => none
    | _ => none
  | _ => none
noncomputable def dputV (st : Store) (o i v : PV) : Option Store :=
  match o with
  | .loc n => match st[n]? with
    | some (.dct t kvs) => if isKey t i /\ kvs.length < 1000000 then some (st.set n (.dct t (put i v kvs))) else none
    | _ => none
  | _ => none
mutual
noncomputable def ex (call : Nat -> List PV -> Store -> R PV) (ρ : Env) (st : Store) : Cs -> Fl
  | .expr e => (ev call ρ st e).fl ρ fun _ st1 => .nx ρ st1
  | .asg t e => (ev call ρ st e).fl ρ fun v st1 => match bindT t v ρ with
    | some ρ1 => .nx ρ1 st1
    | none => .bad
  | .six o i e => (ev call ρ st e).fl ρ fun v st1 => (ev call ρ st1 o).fl ρ fun x st2 => (ev call ρ st2 i).fl ρ fun y st3 => match sixV st3 x y v with
    | some st4 => .nx ρ st4
    | none => .bad
  | .dput o i e => (ev call ρ st e).fl ρ fun v st1 => (ev call ρ st1 o).fl ρ fun x st2 => (ev call ρ st2 i).fl ρ fun y st3 => match dputV st3 x y v with
    | some st4 => .nx ρ st4
    | none => .bad
  | .aug i o e => match ρ[i]? with
    | some (some x) => (ev call ρ st e).fl ρ fun y st1 => match augV o x y with
      | some z => .nx (ρ.set i (some z)) st1
      | none => .bad
    | _ => .bad
  | .ret e => (ev call ρ st e).fl ρ fun v st1 => .rt v st1
  | .ite c a b => (ev call ρ st c).fl ρ fun x st1 => onF (truV st1 x) fun k => cond k (exs call ρ st1 a) (exs call ρ st1 b)
  | .for t it b => (evi call ρ st it).fl ρ fun xs st1 => forL t (fun ρ2 st2 => exs call ρ2 st2 b) xs ρ st1
  | .while c b => whileL (fun ρ2 st2 => ev call ρ2 st2 c) (fun ρ2 st2 => exs call ρ2 st2 b) 100000 ρ st
  | .nope => .bad
  | .brk => .bk ρ st
  | .cnt => .ct ρ st
  | .pass => .nx ρ st
  | .raise c e => (ev call ρ st e).fl ρ fun _ st1 => .exc c ρ st1
  | .try b cs i h => match exs call ρ st b with
    | .exc d ρ1 st1 => if cs.contains d then (match exs call (ρ1.set i (some (.exn d))) st1 h with
      | .nx ρ2 st2 => .nx (ρ2.set i none) st2
      | .rt v st2 => .rt v st2
      | _ => .bad) else .bad
    | f => f
  | .six2 o i p j e f => (ev call ρ st e).fl ρ fun v st1 => (ev call ρ st1 f).fl ρ fun w st2 => (ev call ρ st2 o).fl ρ fun x st3 => (ev call ρ st3 i).fl ρ fun y st4 => match sixV st4 x y v with
    | none => .bad
    | some st5 => (ev call ρ st5 p).fl ρ fun x2 st6 => (ev call ρ st6 j).fl ρ fun y2 st7 => match sixV st7 x2 y2 w with
      | some st8 => .nx ρ st8
      | none => .bad
noncomputable def exs (call : Nat -> List PV -> Store -> R PV) (ρ : Env) (st : Store) : Css -> Fl
  | .nil => .nx ρ st
  | .cons s ss => match ex call ρ st s with
    | .nx ρ1 st1 => exs call ρ1 st1 ss
    | f => f
end
structure Fn where
  np : Nat
  ns : Nat
  pure : Bool
  body : Css
noncomputable def callT (T : Nat -> Option Fn) : Nat -> Nat -> List PV -> Store -> R PV
  | 0, _, _, _ => .bad
  | k + 1, f, args, st => match T f with
    | none => .bad
    | some fn => if args.length = fn.np then
        if fn.pure then
          if noLocs args then match exs (callT T k) (args.map some ++ List.replicate (fn.ns - fn.np) none) [] fn.body with
            | .rt v _ => if noLoc v then .ok v st else .bad
            | .nx _ _ => .ok .non st
            | .exc c _ _ => .exc c st
            | _ => .bad
          else .bad
        else match exs (callT T k) (args.map some ++ List.replicate (fn.ns - fn.np) none) st fn.body with
          | .rt v st1 => .ok v st1
          | .nx _ st1 => .ok .non st1
          | .exc c _ st1 => .exc c st1
          | _ => .bad
      else .bad
end IC
namespace IC
open PySem
def RLe {α : Type} (r q : R α) : Prop := r = .bad \/ r = q
def FLe (f g : Fl) : Prop := f = .bad \/ f = g
noncomputable abbrev Cl := Nat -> List PV -> Store -> R PV
theorem RLe.rfl {α : Type} {r : R α} : RLe r r := .inr (Eq.refl _)
theorem FLe.rfl {f : Fl} : FLe f f := .inr (Eq.refl _)
theorem RLe.bind {α β : Type} {r q : R α} {k l : α -> Store -> R β} (h : RLe r q) (hk : ∀ a s, RLe (k a s) (l a s)) : RLe (r.bind k) (q.bind l) := by
  rcases h with h | h
  · subst h; exact .inl (Eq.refl _)
  · subst h
    cases r with
    | ok a s => exact hk a s
    | exc c s => exact .rfl
    | bad => exact .rfl
theorem RLe.comp {r q : R (List PV)} (h : RLe r q) : RLe (lstR r) (lstR q) := by
  rcases h with h | h
  · subst h; exact .inl (Eq.refl _)
  · subst h; exact .rfl
end IC
namespace L2
open PySem PySem.Spec PyProof.Rows IC
noncomputable abbrev Ph := List (Option Addr)
section
variable (K : PySem.W.Frag) (cl : Nat -> Addr) (B : Addr -> Prop) (φ : Ph) (H : Hp)
def RTup (k : Bool) (a : Addr) (xs : List V) : Prop := (H a = some (.tup xs) /\ ¬ B a /\ some a ∉ φ) \/
  k = true /\ ∃ (o : Obj) (its : Array Value) (n : Nat), K.lookup a = some o /\ o.cls = .type "tuple" /\ o.data = .seq its n /\ its.size <= sizeLine /\ Vals xs its.toList
def RLst (a : Addr) (xs : List V) : Prop := H a = some (.lst xs) /\ ¬ B a /\ some a ∉ φ
def RScr (a : Addr) (xs : List V) : Prop := (Rd H a (.lst xs) /\ ¬ B a /\ some a ∉ φ) \/
  ∃ (o : Obj) (its : Array Value) (n : Nat), K.lookup a = some o /\ o.cls = .type "list" /\ o.dict = none /\ o.data = .seq its n /\ its.size <= sizeLine /\ Vals xs its.toList
mutual
noncomputable def RepV : PV -> V -> Prop
  | .non, x => x = .non
  | .bl b, x => x = .bl b
  | .int i, x => x = .int i
  | .str s, x => x = .str s
  | .tp k vs, x => ∃ a xs, x = .ref a /\ RTup K B φ H k a xs /\ RepL vs xs
  | .lst vs, x => ∃ a xs, x = .ref a /\ RLst B φ H a xs /\ RepL vs xs
  | .loc n, x => n < φ.length /\ ∃ a, x = .ref a /\ ∀ b, φ[n]? = some (some b) -> b = a
  | .exn c, x => ∃ a, x = .ref a /\ H a = some (.ext (ExcO a (cl c))) /\ ¬ B a /\ some a ∉ φ
  | .scr vs, x => ∃ a xs, x = .ref a /\ RScr K B φ H a xs /\ RepL vs xs
noncomputable def RepL : List PV -> List V -> Prop
  | [], xs => xs = []
  | v :: vs, xs => ∃ y ys, xs = y :: ys /\ RepV v y /\ RepL vs ys
end
noncomputable def keyP : Key -> PV
  | .inl i => .int i
  | .inr y => .str y
noncomputable def DK : List (PV × PV) -> List (Key × V) -> Prop
  | [], ks => ks = []
  | (k, v) :: r, ks => ∃ q x s, ks = (q, x) :: s /\ k = keyP q /\ RepV K cl B φ H v x /\ DK r s
noncomputable def DT : List (PV × PV) -> List (List Key × V) -> Prop
  | [], ks => ks = []
  | (k, v) :: r, ks => ∃ q x s, ks = (q, x) :: s /\ k = .tup (q.map keyP) /\ RepV K cl B φ H v x /\ DT r s
noncomputable def RepO : Ob -> Addr -> Prop
  | .lst vs, a => ∃ xs, H a = some (.lst xs) /\ RepL K cl B φ H vs xs
  | .dct false kvs, a => ∃ ks, H a = some (.dK ks) /\ DK K cl B φ H kvs ks
  | .dct true kvs, a => ∃ ks, H a = some (.dT ks) /\ DT K cl B φ H kvs ks
  | .dead, _ => False
structure RepS (st : Store) : Prop where
  len : φ.length = st.length
  inj : ∀ (m n : Nat) (a : Addr), φ[m]? = some (some a) -> φ[n]? = some (some a) -> m = n
  obj : ∀ (n : Nat) (a : Addr), φ[n]? = some (some a) -> ∃ o, st[n]? = some o /\ RepO K cl B φ H o a
  liv : ∀ (n : Nat) (o : Ob), st[n]? = some o -> o ≠ .dead -> ∃ a, φ[n]? = some (some a)
  nb : ∀ a, some a ∈ φ -> ¬ B a
  dom : ∀ a, B a -> ∃ o, H a = some o
structure RepE (ρ : IC.Env) (σ : St) : Prop where
  len : ρ.length = σ.length
  get : ∀ (i : Nat) (v : PV), ρ[i]? = some (some v) -> ∃ x, σ[i]? = some (some x) /\ RepV K cl B φ H v x
end
structure Step (φ : Ph) (H : Hp) (φ' : Ph) (H' : Hp) : Prop where
  keep : ∀ b o, some b ∉ φ -> H b = some o -> H' b = some o
  len : φ.length <= φ'.length
  pre : ∀ (n : Nat) (a : Addr), n < φ.length -> φ'[n]? = some (some a) -> φ[n]? = some (some a)
  new : ∀ b, some b ∈ φ' -> some b ∈ φ \/ H b = none
theorem Step.rfl {φ : Ph} {H : Hp} : Step φ H φ H := ⟨fun _ _ _ e => e, Nat.le_refl _, fun _ _ _ e => e, fun _ h => .inl h⟩
theorem Step.trans {φ φ1 φ2 : Ph} {H H1 H2 : Hp} (s : Step φ H φ1 H1) (t : Step φ1 H1 φ2 H2) : Step φ H φ2 H2 := by
  refine ⟨fun b o n e => ?_, Nat.le_trans s.len t.len, fun n a hn e => s.pre n a hn (t.pre n a (Nat.lt_of_lt_of_le hn s.len) e), fun b hb => ?_⟩
  · refine t.keep b o (fun h => ?_) (s.keep b o n e)
    rcases s.new b h with q | q
    · exact n q
    · rw [e] at q; cases q
  · rcases t.new b hb with q | q
    · exact s.new b q
    · by_cases h : some b ∈ φ
      · exact .inl h
      · refine .inr ?_
        cases e : H b with
        | none => exact Eq.refl _
        | some o => rw [s.keep b o h e] at q; cases q
section
variable {K : PySem.W.Frag} {cl : Nat -> Addr} {B : Addr -> Prop} {φ φ' : Ph} {H H' : Hp} {st : Store} {ρ : IC.Env} {σ : St}
theorem Rd.step (s : Step φ H φ' H') {a : Addr} {u : HO} (n : some a ∉ φ) (r : Rd H a u) : Rd H' a u /\ some a ∉ φ' := by
  have h : ∃ o, H a = some o := by
    rcases r with r | ⟨o, r⟩ <;> exact ⟨_, r⟩
  refine ⟨?_, fun z => ?_⟩
  · rcases r with r | ⟨o, r⟩
    · exact .inl (s.keep _ _ n r)
    · exact .inr ⟨o, s.keep _ _ n r⟩
  · obtain ⟨o, e⟩ := h
    rcases s.new a z with q | q
    · exact n q
    · rw [e] at q; cases q
theorem RTup.step (s : Step φ H φ' H') {k : Bool} {a : Addr} {xs : List V} (r : RTup K B φ H k a xs) : RTup K B φ' H' k a xs := by
  rcases r with ⟨r, b, n⟩ | r
  · obtain ⟨_, n'⟩ := (Rd.of r).step s n
    exact .inl ⟨s.keep _ _ n r, b, n'⟩
  · exact .inr r
theorem RLst.step (s : Step φ H φ' H') {a : Addr} {xs : List V} (r : RLst B φ H a xs) : RLst B φ' H' a xs := by
  obtain ⟨r, b, n⟩ := r
  obtain ⟨_, n'⟩ := (Rd.of r).step s n
  exact ⟨s.keep _ _ n r, b, n'⟩
theorem RScr.step (s : Step φ H φ' H') {a : Addr} {xs : List V} (r : RScr K B φ H a xs) : RScr K B φ' H' a xs := by
  rcases r with ⟨r, b, n⟩ | r
  · obtain ⟨r', n'⟩ := r.step s n
    exact .inl ⟨r', b, n'⟩
  · exact .inr r
mutual
theorem RepV.step (s : Step φ H φ' H') : ∀ (v : PV) (x : V), RepV K cl B φ H v x -> RepV K cl B φ' H' v x
  | .non, x, h => by simp only [RepV] at h ⊢; exact h
  | .bl b, x, h => by simp only [RepV] at h ⊢; exact h
  | .int i, x, h => by simp only [RepV] at h ⊢; exact h
  | .str y, x, h => by simp only [RepV] at h ⊢; exact h
  | .tp k vs, x, h => by
    simp only [RepV] at h ⊢
    obtain ⟨a, xs, e, r, l⟩ := h
    exact ⟨a, xs, e, r.step s, RepL.step s vs xs l⟩
  | .lst vs, x, h => by
    simp only [RepV] at h ⊢
    obtain ⟨a, xs, e, r, l⟩ := h
    exact ⟨a, xs, e, r.step s, RepL.step s vs xs l⟩
  | .loc n, x, h => by
    simp only [RepV] at h ⊢
    obtain ⟨h1, a, e, h2⟩ := h
    exact ⟨Nat.lt_of_lt_of_le h1 s.len, a, e, fun b q => h2 b (s.pre n b h1 q)⟩
  | .exn c, x, h => by
    simp only [RepV] at h ⊢
    obtain ⟨a, e, r, b, n⟩ := h
    obtain ⟨_, n'⟩ := (Rd.of r).step s n
    exact ⟨a, e, s.keep _ _ n r, b, n'⟩
  | .scr vs, x, h => by
    simp only [RepV] at h ⊢
    obtain ⟨a, xs, e, r, l⟩ := h
    exact ⟨a, xs, e, r.step s, RepL.step s vs xs l⟩
theorem RepL.step (s : Step φ H φ' H') : ∀ (v : List PV) (x : List V), RepL K cl B φ H v x -> RepL K cl B φ' H' v x
  | [], x, h => by simp only [RepL] at h ⊢; exact h
  | v :: vs, x, h => by
    simp only [RepL] at h ⊢
    obtain ⟨y, ys, e, r, l⟩ := h
    exact ⟨y, ys, e, RepV.step s v y r, RepL.step s vs ys l⟩
end
theorem RepE.step (s : Step φ H φ' H') (r : RepE K cl B φ H ρ σ) : RepE K cl B φ' H' ρ σ := ⟨r.len, fun i v e => by
  obtain ⟨x, h, q⟩ := r.get i v e
  exact ⟨x, h, q.step s⟩⟩
mutual
theorem RepV.inn (hn : ∀ a, some a ∈ φ -> ¬ B a) : ∀ (v : PV) (x : V), noLoc v = true -> RepV K cl B φ H v x -> RepV K cl (fun a => B a \/ some a ∈ φ) [] H v x
  | .non, x, _, h => by simp only [RepV] at h ⊢; exact h
  | .bl b, x, _, h => by simp only [RepV] at h ⊢; exact h
  | .int i, x, _, h => by simp only [RepV] at h ⊢; exact h
  | .str y, x, _, h => by simp only [RepV] at h ⊢; exact h
  | .tp k vs, x, q, h => by
    simp only [RepV] at h ⊢
    obtain ⟨a, xs, e, r, l⟩ := h
    refine ⟨a, xs, e, ?_, RepL.inn hn vs xs (by simpa only [noLoc] using q) l⟩
    rcases r with ⟨r, b, n⟩ | r
    · exact .inl ⟨r, fun z => z.elim b n, by simp⟩
    · exact .inr r
  | .lst vs, x, q, h => by
    simp only [RepV] at h ⊢
    obtain ⟨a, xs, e, ⟨r, b, n⟩, l⟩ := h
    exact ⟨a, xs, e, ⟨r, fun z => z.elim b n, by simp⟩, RepL.inn hn vs xs (by simpa only [noLoc] using q) l⟩
  | .loc n, x, q, h => by simp [noLoc] at q
  | .exn c, x, q, h => by simp [noLoc] at q
  | .scr vs, x, q, h => by
    simp only [RepV] at h ⊢
    obtain ⟨a, xs, e, r, l⟩ := h
    refine ⟨a, xs, e, ?_, RepL.inn hn vs xs (by simpa only [noLoc] using q) l⟩
    rcases r with ⟨r, b, n⟩ | r
    · exact .inl ⟨r, fun z => z.elim b n, by simp⟩
    · exact .inr r
theorem RepL.inn (hn : ∀ a, some a ∈ φ -> ¬ B a) : ∀ (v : List PV) (x : List V), noLocs v = true -> RepL K cl B φ H v x -> RepL K cl (fun a => B a \/ some a ∈ φ) [] H v x
  | [], x, _, h => by simp only [RepL] at h ⊢; exact h
  | v :: vs, x, q, h => by
    simp only [RepL] at h ⊢
    simp only [noLocs, Bool.and_eq_true] at q
    obtain ⟨y, ys, e, r, l⟩ := h
    exact ⟨y, ys, e, RepV.inn hn v y q.1 r, RepL.inn hn vs ys q.2 l⟩
end
mutual
theorem RepV.out {ψ : Ph} : ∀ (v : PV) (x : V), noLoc v = true -> RepV K cl (fun a => B a \/ some a ∈ φ) ψ H v x -> RepV K cl B φ H v x
  | .non, x, _, h => by simp only [RepV] at h ⊢; exact h
  | .bl b, x, _, h => by simp only [RepV] at h ⊢; exact h
  | .int i, x, _, h => by simp only [RepV] at h ⊢; exact h
  | .str y, x, _, h => by simp only [RepV] at h ⊢; exact h
  | .tp k vs, x, q, h => by
    simp only [RepV] at h ⊢
    obtain ⟨a, xs, e, r, l⟩ := h
    refine ⟨a, xs, e, ?_, RepL.out vs xs (by simpa only [noLoc] using q) l⟩
    rcases r with ⟨r, b, n⟩ | r
    · exact .inl ⟨r, fun z => b (.inl z), fun z => b (.inr z)⟩
    · exact .inr r
  | .lst vs, x, q, h => by
    simp only [RepV] at h ⊢
    obtain ⟨a, xs, e, ⟨r, b, n⟩, l⟩ := h
    exact ⟨a, xs, e, ⟨r, fun z => b (.inl z), fun z => b (.inr z)⟩, RepL.out vs xs (by simpa only [noLoc] using q) l⟩
  | .loc n, x, q, h => by simp [noLoc] at q
  | .exn c, x, q, h => by simp [noLoc] at q
  | .scr vs, x, q, h => by
    simp only [RepV] at h ⊢
    obtain ⟨a, xs, e, r, l⟩ := h
    refine ⟨a, xs, e, ?_, RepL.out vs xs (by simpa only [noLoc] using q) l⟩
    rcases r with ⟨r, b, n⟩ | r
    · exact .inl ⟨r, fun z => b (.inl z), fun z => b (.inr z)⟩
    · exact .inr r
theorem RepL.out {ψ : Ph} : ∀ (v : List PV) (x : List V), noLocs v = true -> RepL K cl (fun a => B a \/ some a ∈ φ) ψ H v x -> RepL K cl B φ H v x
  | [], x, _, h => by simp only [RepL] at h ⊢; exact h
  | v :: vs, x, q, h => by
    simp only [RepL] at h ⊢
    simp only [noLocs, Bool.and_eq_true] at q
    obtain ⟨y, ys, e, r, l⟩ := h
    exact ⟨y, ys, e, RepV.out v y q.1 r, RepL.out vs ys q.2 l⟩
end
theorem RepL.length : ∀ {v : List PV} {x : List V}, RepL K cl B φ H v x -> v.length = x.length
  | [], x, h => by simp only [RepL] at h; subst h; rfl
  | v :: vs, x, h => by
    simp only [RepL] at h
    obtain ⟨y, ys, rfl, _, l⟩ := h
    simp [RepL.length l]
theorem DK.step (s : Step φ H φ' H') : ∀ {kvs : List (PV × PV)} {ks : List (Key × V)}, DK K cl B φ H kvs ks -> DK K cl B φ' H' kvs ks
  | [], ks, h => h
  | (k, v) :: r, ks, h => by
    obtain ⟨q, x, t, e, m, rv, l⟩ := h
    exact ⟨q, x, t, e, m, rv.step s, DK.step s l⟩
theorem DT.step (s : Step φ H φ' H') : ∀ {kvs : List (PV × PV)} {ks : List (List Key × V)}, DT K cl B φ H kvs ks -> DT K cl B φ' H' kvs ks
  | [], ks, h => h
  | (k, v) :: r, ks, h => by
    obtain ⟨q, x, t, e, m, rv, l⟩ := h
    exact ⟨q, x, t, e, m, rv.step s, DT.step s l⟩
theorem RepO.step (s : Step φ H φ' H') {o : Ob} {a : Addr} (e : H' a = H a) (r : RepO K cl B φ H o a) : RepO K cl B φ' H' o a := by
  cases o with
  | lst vs =>
    obtain ⟨xs, q, l⟩ := r
    exact ⟨xs, e.trans q, l.step s⟩
  | dct t kvs =>
    cases t with
    | false => obtain ⟨ks, q, l⟩ := r; exact ⟨ks, e.trans q, l.step s⟩
    | true => obtain ⟨ks, q, l⟩ := r; exact ⟨ks, e.trans q, l.step s⟩
  | dead => exact r
theorem RepO.there {o : Ob} {a : Addr} (r : RepO K cl B φ H o a) : ∃ u, H a = some u := by
  cases o with
  | lst vs => obtain ⟨xs, q, l⟩ := r; exact ⟨_, q⟩
  | dct t kvs => cases t <;> (obtain ⟨ks, q, l⟩ := r; exact ⟨_, q⟩)
  | dead => exact r.elim
theorem RepS.there (S : RepS K cl B φ H st) {a : Addr} (h : some a ∈ φ) : ∃ u, H a = some u := by
  obtain ⟨n, e⟩ := List.mem_iff_getElem?.mp h
  obtain ⟨o, _, r⟩ := S.obj n a e
  exact r.there
theorem Step.upd {p : Addr} {o : HO} (hp : H p = none) : Step φ H φ (upd H p o) :=
  ⟨fun b u n e => by rw [upd_ne (ne_of_none e hp)]; exact e, Nat.le_refl _, fun _ _ _ e => e, fun _ h => .inl h⟩
theorem RepS.same (S : RepS K cl B φ H st) (k : ∀ b o, H b = some o -> H' b = some o) : RepS K cl B φ H' st := by
  have s : Step φ H φ H' := ⟨fun b o _ e => k b o e, Nat.le_refl _, fun _ _ _ e => e, fun _ h => .inl h⟩
  refine ⟨S.len, S.inj, fun n a e => ?_, S.liv, S.nb, fun a h => ?_⟩
  · obtain ⟨o, q, r⟩ := S.obj n a e
    obtain ⟨u, z⟩ := r.there
    exact ⟨o, q, r.step s ((k a u z).trans z.symm)⟩
  · obtain ⟨o, q⟩ := S.dom a h
    exact ⟨o, k a o q⟩
theorem RepS.upd {p : Addr} {o : HO} (S : RepS K cl B φ H st) (hp : H p = none) : RepS K cl B φ (upd H p o) st := S.same fun b u e => by rw [upd_ne (ne_of_none e hp)]; exact e
mutual
theorem RepV.moreB {B' : Addr -> Prop} (hn : ∀ y, B' y -> B y \/ H y = none) : ∀ (v : PV) (x : V), RepV K cl B φ H v x -> RepV K cl B' φ H v x
  | .non, x, h => by simp only [RepV] at h ⊢; exact h
  | .bl b, x, h => by simp only [RepV] at h ⊢; exact h
  | .int i, x, h => by simp only [RepV] at h ⊢; exact h
  | .str y, x, h => by simp only [RepV] at h ⊢; exact h
  | .tp k vs, x, h => by
    simp only [RepV] at h ⊢
    obtain ⟨y, xs, e, r, l⟩ := h
    refine ⟨y, xs, e, ?_, RepL.moreB hn vs xs l⟩
    rcases r with ⟨r, b, n⟩ | r
    · exact .inl ⟨r, fun z => (hn y z).elim b fun q => (by rw [q] at r; cases r), n⟩
    · exact .inr r
  | .lst vs, x, h => by
    simp only [RepV] at h ⊢
    obtain ⟨y, xs, e, ⟨r, b, n⟩, l⟩ := h
    exact ⟨y, xs, e, ⟨r, fun z => (hn y z).elim b fun q => (by rw [q] at r; cases r), n⟩, RepL.moreB hn vs xs l⟩
  | .loc n, x, h => by simp only [RepV] at h ⊢; exact h
  | .exn c, x, h => by
    simp only [RepV] at h ⊢
    obtain ⟨y, e, r, b, n⟩ := h
    exact ⟨y, e, r, fun z => (hn y z).elim b fun q => (by rw [q] at r; cases r), n⟩
  | .scr vs, x, h => by
    simp only [RepV] at h ⊢
    obtain ⟨y, xs, e, r, l⟩ := h
    refine ⟨y, xs, e, ?_, RepL.moreB hn vs xs l⟩
    rcases r with ⟨r, b, n⟩ | r
    · refine .inl ⟨r, fun z => (hn y z).elim b fun q => ?_, n⟩
      rcases r with r | ⟨o, r⟩ <;> (rw [q] at r; cases r)
    · exact .inr r
theorem RepL.moreB {B' : Addr -> Prop} (hn : ∀ y, B' y -> B y \/ H y = none) : ∀ (v : List PV) (x : List V), RepL K cl B φ H v x -> RepL K cl B' φ H v x
  | [], x, h => by simp only [RepL] at h ⊢; exact h
  | v :: vs, x, h => by
    simp only [RepL] at h ⊢
    obtain ⟨y, ys, e, r, l⟩ := h
    exact ⟨y, ys, e, RepV.moreB hn v y r, RepL.moreB hn vs ys l⟩
end
end
end L2
namespace L2
open PySem PySem.Spec PyProof.Rows IC
structure Se where
  cl : Nat -> Addr
  call : Nat -> List PV -> Store -> R PV
  may : Bool
section
variable (S : Se) (X : Cx)
def ExcAt (σ : St) (B : Addr -> Prop) (φ : Ph) (H : Hp) (k : Nat) (st' : Store) (e : Value) (s' : Shared) : Prop :=
  (∃ pins H1 s φ1, Inv X pins σ H1 s /\ Step φ H φ1 H1 /\ CX1 X.prog X.w X.stack H1 s (fun cls _ H' => cls = .ref (S.cl k) /\ ∃ φ', Step φ1 H1 φ' H' /\ RepS X.K S.cl B φ' H' st') e s') \/
  (S.may = true /\ ∃ pins H1 s φ1 h' e0 vs, Inv X pins σ H1 s /\ Step φ H φ1 H1 /\ RepS X.K S.cl B φ1 H1 st' /\ Heap.MadeExcOf s.heap h' e0 (.ref (S.cl k)) vs /\ e = .ref e0 /\ s' = { s with heap := h' })
def Run {α β : Type} (σ : St) (B : Addr -> Prop) (φ : Ph) (H : Hp) (Rel : Ph -> Hp -> α -> β -> Prop) (r : R α) (Q : β -> Hp -> Prop) : Prop :=
  match r with
  | .ok v st' => ∀ x H' φ', Step φ H φ' H' -> RepS X.K S.cl B φ' H' st' -> Rel φ' H' v x -> Q x H'
  | .exc k st' => ∀ e s', ExcAt S X σ B φ H k st' e s' -> X.xe e s'
  | .bad => False
noncomputable abbrev RV (B : Addr -> Prop) : Ph -> Hp -> PV -> V -> Prop := fun φ H => RepV X.K S.cl B φ H
noncomputable abbrev RL (B : Addr -> Prop) : Ph -> Hp -> List PV -> List V -> Prop := fun φ H => RepL X.K S.cl B φ H
noncomputable abbrev RB : Ph -> Hp -> Bool -> Bool -> Prop := fun _ _ b c => b = c
noncomputable def tE (c : Ce) : TE := fun σ H Q => ∃ B φ st ρ, RepS X.K S.cl B φ H st /\ RepE X.K S.cl B φ H ρ σ /\ Run S X σ B φ H (RV S X B) (ev S.call ρ st c) Q
noncomputable def tAs (c : Ces) : TA := fun σ H Q => ∃ B φ st ρ, RepS X.K S.cl B φ H st /\ RepE X.K S.cl B φ H ρ σ /\ Run S X σ B φ H (RL S X B) (evs S.call ρ st c) Q
noncomputable def truR (r : R PV) : R Bool := r.bind fun x st => onO (truV st x) fun b => .ok b st
noncomputable def tTs (c : Ce) : TT := fun σ H Q => ∃ B φ st ρ, RepS X.K S.cl B φ H st /\ RepE X.K S.cl B φ H ρ σ /\ Run S X σ B φ H RB (truR (ev S.call ρ st c)) Q
end
section
variable {S : Se} {X : Cx} {σ : St} {B : Addr -> Prop} {φ φ1 : Ph} {H H1 : Hp}
theorem ExcAt.back {k : Nat} {st' : Store} {e : Value} {s' : Shared} (s : Step φ H φ1 H1) (h : ExcAt S X σ B φ1 H1 k st' e s') : ExcAt S X σ B φ H k st' e s' := by
  rcases h with ⟨pins, H2, t, φ2, I, q, c⟩ | ⟨m, pins, H2, t, φ2, h', e0, vs, I, q, c⟩
  · exact .inl ⟨pins, H2, t, φ2, I, s.trans q, c⟩
  · exact .inr ⟨m, pins, H2, t, φ2, h', e0, vs, I, s.trans q, c⟩
variable {α β γ δ : Type} {Rel : Ph -> Hp -> α -> β -> Prop} {Rel2 : Ph -> Hp -> γ -> δ -> Prop}
theorem Run.on {r : R α} {Q : β -> Hp -> Prop} (s : Step φ H φ1 H1) (h : Run S X σ B φ H Rel r Q) : Run S X σ B φ1 H1 Rel r Q := by
  cases r with
  | ok v st' => exact fun x H' φ' t => h x H' φ' (s.trans t)
  | exc k st' => exact fun e s' x => h e s' (x.back s)
  | bad => exact h
theorem Run.mono {r : R α} {Q Q' : β -> Hp -> Prop} (h : Run S X σ B φ H Rel r Q) (k : ∀ x H', Q x H' -> Q' x H') : Run S X σ B φ H Rel r Q' := by
  cases r with
  | ok v st' => exact fun x H' φ' t rs rv => k x H' (h x H' φ' t rs rv)
  | exc c st' => exact h
  | bad => exact h
theorem Run.bind {r : R α} {k : α -> Store -> R γ} {Q : δ -> Hp -> Prop} (h : Run S X σ B φ H Rel2 (r.bind k) Q) :
    Run S X σ B φ H Rel r fun x H1 => ∃ v st1 φ1, Step φ H φ1 H1 /\ RepS X.K S.cl B φ1 H1 st1 /\ Rel φ1 H1 v x /\ Run S X σ B φ1 H1 Rel2 (k v st1) Q := by
  cases r with
  | ok v st' => exact fun x H' φ' t rs rv => ⟨v, st', φ', t, rs, rv, Run.on t h⟩
  | exc c st' => exact h
  | bad => exact h
theorem Run.ok {v : α} {st : Store} {Q : β -> Hp -> Prop} (h : Run S X σ B φ H Rel (.ok v st) Q) (rs : RepS X.K S.cl B φ H st) {x : β} (rv : Rel φ H v x) : Q x H := h x H φ .rfl rs rv
theorem PE.imp {e : Expr} {t t' : TE} (h : PE X e t') (k : ∀ σ H Q, t σ H Q -> t' σ H Q) : PE X e t := fun pins s σ H Q I q => h pins s σ H Q I (k σ H Q q)
theorem PT.imp {e : Expr} {t t' : TT} (h : PT X e t') (k : ∀ σ H Q, t σ H Q -> t' σ H Q) : PT X e t := fun pins s σ H Q I q => h pins s σ H Q I (k σ H Q q)
theorem PW.imp {e : Expr} {t t' : TT} (h : PW X e t') (k : ∀ σ H Q, t σ H Q -> t' σ H Q) : PW X e t := fun wh pins s σ H Q I q => h wh pins s σ H Q I (k σ H Q q)
theorem PA.imp {e : List Expr} {t t' : TA} (h : PA X e t') (k : ∀ σ H Q, t σ H Q -> t' σ H Q) : PA X e t := fun pos pins s σ H Q I q => h pos pins s σ H Q I (k σ H Q q)
theorem tE.bind {c : Ce} {ρ : IC.Env} {st : Store} {k : PV -> Store -> R γ} {Q : δ -> Hp -> Prop} {P : V -> Hp -> Prop} (rs : RepS X.K S.cl B φ H st) (re : RepE X.K S.cl B φ H ρ σ) (h : Run S X σ B φ H Rel2 ((ev S.call ρ st c).bind k) Q)
    (n : ∀ x H1 v st1 φ1, Step φ H φ1 H1 -> RepS X.K S.cl B φ1 H1 st1 -> RepE X.K S.cl B φ1 H1 ρ σ -> RepV X.K S.cl B φ1 H1 v x -> Run S X σ B φ1 H1 Rel2 (k v st1) Q -> P x H1) : tE S X c σ H P :=
  ⟨B, φ, st, ρ, rs, re, (Run.bind h).mono fun x H1 ⟨v, st1, φ1, s, rs1, rv, h1⟩ => n x H1 v st1 φ1 s rs1 (re.step s) rv h1⟩
theorem tAs.bind {c : Ces} {ρ : IC.Env} {st : Store} {k : List PV -> Store -> R γ} {Q : δ -> Hp -> Prop} {P : List V -> Hp -> Prop} (rs : RepS X.K S.cl B φ H st) (re : RepE X.K S.cl B φ H ρ σ) (h : Run S X σ B φ H Rel2 ((evs S.call ρ st c).bind k) Q)
    (n : ∀ x H1 v st1 φ1, Step φ H φ1 H1 -> RepS X.K S.cl B φ1 H1 st1 -> RepE X.K S.cl B φ1 H1 ρ σ -> RepL X.K S.cl B φ1 H1 v x -> Run S X σ B φ1 H1 Rel2 (k v st1) Q -> P x H1) : tAs S X c σ H P :=
  ⟨B, φ, st, ρ, rs, re, (Run.bind h).mono fun x H1 ⟨v, st1, φ1, s, rs1, rv, h1⟩ => n x H1 v st1 φ1 s rs1 (re.step s) rv h1⟩
variable {i : Int} {b : Bool} {x : Str} {j : Nat} {pos : Pos} {e a a' : Expr} {c ca cb cc : Ce}
theorem se_int : PE X (.Constant (.int i) j pos) (tE S X (.cst (.int i))) := pe_int.imp fun σ H Q ⟨B, φ, st, ρ, rs, re, h⟩ => by
  simp only [ev] at h
  exact h.ok rs (by simp only [RepV])
theorem se_int_k : KqE X (.Constant (.int i) j pos) (tE S X (.cst (.int i))) := by with_unfolding_all exact se_int
theorem se_bl : PE X (.Constant (.bool b) j pos) (tE S X (.cst (.bl b))) := pe_bl.imp fun σ H Q ⟨B, φ, st, ρ, rs, re, h⟩ => by
  simp only [ev] at h
  exact h.ok rs (by simp only [RepV])
theorem se_bl_k : KqE X (.Constant (.bool b) j pos) (tE S X (.cst (.bl b))) := by with_unfolding_all exact se_bl
theorem se_non : PE X (.Constant .none j pos) (tE S X (.cst .non)) := pe_non.imp fun σ H Q ⟨B, φ, st, ρ, rs, re, h⟩ => by
  simp only [ev] at h
  exact h.ok rs (by simp only [RepV])
theorem se_non_k : KqE X (.Constant .none j pos) (tE S X (.cst .non)) := by with_unfolding_all exact se_non
theorem se_str : PE X (.Constant (.str x) j pos) (tE S X (.cst (.str x))) := pe_str.imp fun σ H Q ⟨B, φ, st, ρ, rs, re, h⟩ => by
  simp only [ev] at h
  exact h.ok rs (by simp only [RepV])
theorem se_str_k : KqE X (.Constant (.str x) j pos) (tE S X (.cst (.str x))) := by with_unfolding_all exact se_str
theorem se_var {i : Nat} (hN : X.N[i]? = some x) (hv : Vis X.env.scope x) (hd : (x == ("__debug__" : Str)) = false := by decide) (hcd : (x == ("__classdict__" : Str)) = false := by decide) : PE X (.Name x pos) (tE S X (.var i)) :=
  (pe_var hN hv hd hcd).imp fun σ H Q ⟨B, φ, st, ρ, rs, re, h⟩ => by
    simp only [ev] at h
    cases q : ρ[i]? with
    | none => rw [q] at h; exact h.elim
    | some o =>
      cases o with
      | none => rw [q] at h; exact h.elim
      | some v =>
        rw [q] at h
        obtain ⟨y, hy, rv⟩ := re.get i v q
        exact ⟨y, hy, h.ok rs rv⟩
theorem toR_run {o : Option PV} {st : Store} {Q : VK} (h : Run S X σ B φ H (RV S X B) (toR o st) Q) (rs : RepS X.K S.cl B φ H st) : ∃ z, o = some z /\ ∀ z' H' φ', Step φ H φ' H' -> RepS X.K S.cl B φ' H' st -> RepV X.K S.cl B φ' H' z z' -> Q z' H' := by
  cases o with
  | none => exact h.elim
  | some z => exact ⟨z, rfl, h⟩
noncomputable def rT2 (S : Se) (X : Cx) (f : PV -> PV -> Option PV) : R2 := fun x y H Q => ∃ B φ st v w z, RepS X.K S.cl B φ H st /\ RepV X.K S.cl B φ H v x /\ RepV X.K S.cl B φ H w y /\ f v w = some z /\
  ∀ z' H' φ', Step φ H φ' H' -> RepS X.K S.cl B φ' H' st -> RepV X.K S.cl B φ' H' z z' -> Q z' H'
theorem se_bin {op : Operator} {o : BOp} (ho : OpR X (binaryOp op) (rT2 S X (binV o))) (ha : PE X a (tE S X ca)) (hb : PE X a' (tE S X cb)) : PE X (.BinOp a op a' pos) (tE S X (.bin o ca cb)) :=
  (pe_op ho ha hb).imp fun σ H Q ⟨B, φ, st, ρ, rs, re, h⟩ => by
    simp only [ev] at h
    refine tE.bind rs re h fun x H1 v st1 φ1 s1 rs1 re1 rv h1 => tE.bind rs1 re1 h1 fun y H2 w st2 φ2 s2 rs2 re2 rw h2 => ?_
    obtain ⟨z, e, q⟩ := toR_run h2 rs2
    exact ⟨B, φ2, st2, v, w, z, rs2, rv.step s2, rw, e, q⟩
theorem se_bin_k {op : Operator} {o : BOp} (ho : OpR X (binaryOp op) (rT2 S X (binV o))) (ha : KqE X a (tE S X ca)) (hb : KqE X a' (tE S X cb)) : KqE X (.BinOp a op a' pos) (tE S X (.bin o ca cb)) := by with_unfolding_all exact se_bin ho ha hb
theorem se_cmp {op : CmpOp} {o : COp} (ho : OpR X (compareOp op) (rT2 S X (cmpV o))) (ha : PE X a (tE S X ca)) (hb : PE X a' (tE S X cb)) (hm : behindInMarks op a' = false) : PE X (.Compare a [op] [a'] pos) (tE S X (.cmp o ca cb)) :=
  (pe_cmpR ho ha hb hm).imp fun σ H Q ⟨B, φ, st, ρ, rs, re, h⟩ => by
    simp only [ev] at h
    refine tE.bind rs re h fun x H1 v st1 φ1 s1 rs1 re1 rv h1 => tE.bind rs1 re1 h1 fun y H2 w st2 φ2 s2 rs2 re2 rw h2 => ?_
    obtain ⟨z, e, q⟩ := toR_run h2 rs2
    exact ⟨B, φ2, st2, v, w, z, rs2, rv.step s2, rw, e, q⟩
theorem se_cmp_k {op : CmpOp} {o : COp} (ho : OpR X (compareOp op) (rT2 S X (cmpV o))) (ha : KqE X a (tE S X ca)) (hb : KqE X a' (tE S X cb)) (hm : behindInMarks op a' = false) : KqE X (.Compare a [op] [a'] pos) (tE S X (.cmp o ca cb)) := by with_unfolding_all exact se_cmp ho ha hb hm
end
end L2
namespace L2
open PySem PySem.Spec PyProof.Rows IC
section
variable {S : Se} {X : Cx} {σ : St} {B : Addr -> Prop} {φ φ1 : Ph} {H H1 : Hp} {K : PySem.W.Frag} {cl : Nat -> Addr} {st : Store}
theorem RTup.sq {k : Bool} {a : Addr} {xs : List V} (r : RTup K B φ H k a xs) : SqT K H a xs := by
  rcases r with ⟨r, _⟩ | r
  · exact .inl (.inl r)
  · exact .inr r.2
theorem RLst.sq {a : Addr} {xs : List V} (r : RLst B φ H a xs) : SqL K H a xs := .inl (.inl r.1)
theorem RepV.tup_new {vs : List PV} {xs : List V} {p : Addr} (hp : H p = none) (rs : RepS K cl B φ H st) (r : RepL K cl B φ H vs xs) : RepV K cl B φ (upd H p (.tup xs)) (.tup vs) (.ref p) := by
  simp only [RepV]
  refine ⟨p, xs, rfl, .inl ⟨upd_same, fun z => ?_, fun z => ?_⟩, r.step (.upd hp)⟩
  · obtain ⟨o, e⟩ := rs.dom p z
    rw [hp] at e; cases e
  · obtain ⟨o, e⟩ := rs.there z
    rw [hp] at e; cases e
theorem RepV.lst_new {vs : List PV} {xs : List V} {p : Addr} (hp : H p = none) (rs : RepS K cl B φ H st) (r : RepL K cl B φ H vs xs) : RepV K cl B φ (upd H p (.lst xs)) (.lst vs) (.ref p) := by
  simp only [RepV]
  refine ⟨p, xs, rfl, ⟨upd_same, fun z => ?_, fun z => ?_⟩, r.step (.upd hp)⟩
  · obtain ⟨o, e⟩ := rs.dom p z
    rw [hp] at e; cases e
  · obtain ⟨o, e⟩ := rs.there z
    rw [hp] at e; cases e
theorem RepL.append : ∀ {vs ws : List PV} {xs ys : List V}, RepL K cl B φ H vs xs -> RepL K cl B φ H ws ys -> RepL K cl B φ H (vs ++ ws) (xs ++ ys)
  | [], ws, xs, ys, h, q => by simp only [RepL] at h; subst h; exact q
  | v :: vs, ws, xs, ys, h, q => by
    simp only [RepL] at h
    obtain ⟨y, zs, rfl, r, l⟩ := h
    show RepL K cl B φ H (v :: (vs ++ ws)) (y :: (zs ++ ys))
    simp only [RepL]
    exact ⟨y, zs ++ ys, rfl, r, RepL.append l q⟩
theorem RepL.get : ∀ {vs : List PV} {xs : List V} (j : Nat) {v : PV}, RepL K cl B φ H vs xs -> vs[j]? = some v -> ∃ x, xs[j]? = some x /\ RepV K cl B φ H v x
  | [], xs, j, v, h, e => by simp at e
  | w :: vs, xs, 0, v, h, e => by
    simp only [RepL] at h
    obtain ⟨y, zs, rfl, r, l⟩ := h
    simp at e; subst e
    exact ⟨y, rfl, r⟩
  | w :: vs, xs, j + 1, v, h, e => by
    simp only [RepL] at h
    obtain ⟨y, zs, rfl, r, l⟩ := h
    obtain ⟨x, q1, q2⟩ := RepL.get j l (by simpa using e)
    exact ⟨x, by simpa using q1, q2⟩
theorem RepL.drop : ∀ {vs : List PV} {xs : List V} (n : Nat), RepL K cl B φ H vs xs -> RepL K cl B φ H (vs.drop n) (xs.drop n)
  | vs, xs, 0, h => by simpa using h
  | [], xs, n + 1, h => by simp only [RepL] at h; subst h; simp [RepL]
  | v :: vs, xs, n + 1, h => by
    simp only [RepL] at h
    obtain ⟨y, ys, rfl, _, l⟩ := h
    simpa using RepL.drop n l
theorem RepL.take : ∀ {vs : List PV} {xs : List V} (n : Nat), RepL K cl B φ H vs xs -> RepL K cl B φ H (vs.take n) (xs.take n)
  | vs, xs, 0, h => by simp [RepL]
  | [], xs, n + 1, h => by simp only [RepL] at h; subst h; simp [RepL]
  | v :: vs, xs, n + 1, h => by
    simp only [RepL] at h
    obtain ⟨y, ys, rfl, r, l⟩ := h
    simp only [List.take_succ_cons, RepL]
    exact ⟨y, ys.take n, rfl, r, RepL.take n l⟩
theorem opr_int {f : Value -> Value -> Sem Value} {o : BOp} {C : Int -> Int -> Prop} {g : Int -> Int -> Int} (h : OpR X f (rI C fun i j => .int (g i j)))
    (hb : ∀ v w z, binV o v w = some z -> ∃ i j, v = .int i /\ w = .int j /\ C i j /\ z = .int (g i j)) : OpR X f (rT2 S X (binV o)) := by
  rintro pins s σ H x y v u Q I rx ry ⟨B, φ, st, a, b, z, rs, ra, rb, e, q⟩
  obtain ⟨i, j, rfl, rfl, hc, rfl⟩ := hb a b z e
  simp only [RepV] at ra rb
  subst ra rb
  exact h pins s σ H _ _ v u Q I rx ry ⟨i, j, rfl, rfl, hc, q _ H φ .rfl rs (by simp only [RepV])⟩
theorem opr_int0 {f : Value -> Value -> Sem Value} {o : BOp} {g : Int -> Int -> Int} (h : OpR X f (rI0 fun i j => .int (g i j)))
    (hb : ∀ v w z, binV o v w = some z -> ∃ i j, v = .int i /\ w = .int j /\ z = .int (g i j)) : OpR X f (rT2 S X (binV o)) := by
  rintro pins s σ H x y v u Q I rx ry ⟨B, φ, st, a, b, z, rs, ra, rb, e, q⟩
  obtain ⟨i, j, rfl, rfl, rfl⟩ := hb a b z e
  simp only [RepV] at ra rb
  subst ra rb
  exact h pins s σ H _ _ v u Q I rx ry ⟨i, j, rfl, rfl, q _ H φ .rfl rs (by simp only [RepV])⟩
theorem bin_sub (v w z : PV) (h : binV .sub v w = some z) : ∃ i j, v = .int i /\ w = .int j /\ z = .int (i - j) := by
  unfold binV at h
  split at h <;> first | (cases h; done) | skip
  exact ⟨_, _, rfl, rfl, (Option.some.inj h).symm⟩
theorem bin_mul (v w z : PV) (h : binV .mul v w = some z) : ∃ i j, v = .int i /\ w = .int j /\ CMul i j /\ z = .int (i * j) := by
  unfold binV at h
  split at h <;> first | (cases h; done) | skip
  rename_i i j
  simp only [IC.binI] at h
  split at h
  · rename_i c
    refine ⟨i, j, rfl, rfl, ?_, (Option.some.inj h).symm⟩
    simp only [CMulB, Bool.or_eq_true, decide_eq_true_eq] at c
    unfold CMul
    rcases c with c | c
    · left; constructor <;> omega
    · right; constructor <;> omega
  · cases h
theorem bin_fdiv (v w z : PV) (h : binV .fdiv v w = some z) : ∃ i j, v = .int i /\ w = .int j /\ CDivB i j /\ z = .int (i / j) := by
  unfold binV at h
  split at h <;> first | (cases h; done) | skip
  rename_i i j
  simp only [IC.binI] at h
  split at h
  · rename_i c
    exact ⟨i, j, rfl, rfl, c, (Option.some.inj h).symm⟩
  · cases h
theorem bin_mod (v w z : PV) (h : binV .mod v w = some z) : ∃ i j, v = .int i /\ w = .int j /\ 0 < j /\ z = .int (i % j) := by
  unfold binV at h
  split at h <;> first | (cases h; done) | skip
  rename_i i j
  simp only [IC.binI] at h
  split at h
  · rename_i c
    exact ⟨i, j, rfl, rfl, c, (Option.some.inj h).symm⟩
  · cases h
theorem bin_pow (v w z : PV) (h : binV .pow v w = some z) : ∃ i j, v = .int i /\ w = .int j /\ CPow i j /\ z = .int (i ^ j.toNat) := by
  unfold binV at h
  split at h <;> first | (cases h; done) | skip
  rename_i i j
  simp only [IC.binI] at h
  split at h
  · rename_i c
    exact ⟨i, j, rfl, rfl, ⟨c.1, c.2.1, by have := c.2.2; omega⟩, (Option.some.inj h).symm⟩
  · cases h
theorem oe_sub : OpR X (binaryOp .Sub) (rT2 S X (binV .sub)) := opr_int0 op_sub bin_sub
theorem oe_mul : OpR X (binaryOp .Mult) (rT2 S X (binV .mul)) := opr_int op_mul bin_mul
theorem oe_fdiv : OpR X (binaryOp .FloorDiv) (rT2 S X (binV .fdiv)) := opr_int op_fdivB bin_fdiv
theorem oe_mod : OpR X (binaryOp .Mod) (rT2 S X (binV .mod)) := opr_int op_mod bin_mod
theorem oe_pow : OpR X (binaryOp .Pow) (rT2 S X (binV .pow)) := opr_int op_pow bin_pow
theorem sizeMax_eq : sizeMax = sizeLine := by rw [sizeLine_eq]; rfl
theorem op_catE : OpR X (binaryOp .Add) (fun x y H Q => ∃ a b ys, x = .ref a /\ y = .ref b /\ SqT X.K H a [] /\ SqT X.K H b ys /\ Q (.ref b) H) := by
  intro pins s σ H x y v u Q I rx ry h
  obtain ⟨a, b, ys, rfl, rfl, ha, hb, q⟩ := h
  cases rx
  cases ry
  obtain ⟨its, r1, p1, _⟩ := I.tuple ha
  obtain ⟨its2, r2, p2, _⟩ := I.tuple hb
  have : its = [] := r1.nil_iff.mpr rfl
  subst this
  obtain ⟨⟨cls, dd, data, sl⟩, ho, hc, n, hd⟩ := id p1
  obtain ⟨⟨cls2, dd2, data2, sl2⟩, ho2, hc2, n2, hd2⟩ := id p2
  simp only at hc hd hc2 hd2
  subst hc hd hc2 hd2
  exact concat_meets ⟨_, ho, rfl⟩ ⟨_, ho2, rfl⟩ noFill_tuple_add seq_tuple_add PySem.F.slot_tuple_add PySem.F.entry_tuple_add (PySem.F.args_tuple_add_2 _ _)
      (tuple_addW0 a b [].toArray its2.toArray n n2 dd dd2 sl sl2 (by simp)) ⟨ho, ho2, ⟨.ref b, H, I, rfl, q⟩⟩
theorem oe_add : OpR X (binaryOp .Add) (rT2 S X (binV .add)) := by
  rintro pins s σ H x y v u Q I rx ry ⟨B, φ, st, a, b, z, rs, ra, rb, e, q⟩
  unfold binV at e
  split at e
  · rename_i i j
    simp only [RepV] at ra rb
    subst ra rb
    cases e
    exact op_add pins s σ H _ _ v u Q I rx ry ⟨i, j, rfl, rfl, q _ H φ .rfl rs (by simp only [RepV])⟩
  · rename_i i k
    simp only [RepV] at ra rb
    subst ra rb
    cases e
    exact op_add_ib pins s σ H _ _ v u Q I rx ry ⟨i, k, rfl, rfl, q _ H φ .rfl rs (by simp only [RepV]; cases k <;> rfl)⟩
  · rename_i i j
    simp only [RepV] at ra rb
    subst ra rb
    dsimp only at e
    split at e
    · rename_i c
      cases e
      exact op_add_str pins s σ H _ _ v u Q I rx ry ⟨i, j, rfl, rfl, by rw [<- sizeMax_eq]; exact c, q _ H φ .rfl rs (by simp only [RepV])⟩
    · cases e
  · rename_i k1 vs k2 ws
    simp only [RepV] at ra rb
    obtain ⟨p, xs, rfl, r1, l1⟩ := ra
    obtain ⟨p', ys, rfl, r2, l2⟩ := rb
    dsimp only at e
    split at e
    · rename_i c
      cases e
      have n1 := l1.length
      have n2 := l2.length
      unfold catT at q
      cases vs with
      | nil =>
        have : xs = [] := by cases xs with | nil => rfl | cons _ _ => simp at n1
        subst this
        refine op_catE pins s σ H _ _ v u Q I rx ry ⟨p, p', ys, rfl, rfl, r1.sq, r2.sq, q _ H φ .rfl rs ?_⟩
        simp only [List.isEmpty_nil, if_true, RepV]
        exact ⟨p', ys, rfl, r2, l2⟩
      | cons v1 vr =>
        simp only [List.isEmpty_cons, Bool.false_eq_true, if_false] at q
        refine op_catT pins s σ H _ _ v u Q I rx ry ⟨p, p', xs, ys, rfl, rfl, r1.sq, r2.sq, ?_, by rw [<- sizeMax_eq]; omega, fun z => ?_, fun z t ht => ?_⟩
        · rintro rfl
          simp at n1
        · subst z
          have : ws = [] := by cases ws with | nil => rfl | cons _ _ => simp at n2
          subst this
          simp only [List.isEmpty_nil, if_true] at q
          refine q _ H φ .rfl rs ?_
          simp only [RepV]
          exact ⟨p, xs, rfl, r1, l1⟩
        · cases ws with
          | nil => exact absurd (List.length_eq_zero_iff.mp n2.symm) z
          | cons w1 wr =>
            simp only [List.isEmpty_cons, Bool.false_eq_true, if_false] at q
            exact q _ _ φ (.upd ht) (rs.upd ht) (.tup_new ht rs (l1.append l2))
    · cases e
  · rename_i vs ws
    simp only [RepV] at ra rb
    obtain ⟨p, xs, rfl, r1, l1⟩ := ra
    obtain ⟨p', ys, rfl, r2, l2⟩ := rb
    dsimp only at e
    split at e
    · rename_i c
      cases e
      have n1 := l1.length
      have n2 := l2.length
      exact op_cat pins s σ H _ _ v u Q I rx ry ⟨p, p', xs, ys, rfl, rfl, r1.1, r2.1, by rw [<- sizeMax_eq]; omega, fun t ht => q _ _ φ (.upd ht) (rs.upd ht) (.lst_new ht rs (l1.append l2))⟩
    · cases e
  · cases e
end
end L2
namespace L2
open PySem PySem.Spec PyProof.Rows IC
mutual
noncomputable def toD : PV -> PyData
  | .non => .none
  | .bl b => .bool b
  | .int i => .int i
  | .str x => .str x
  | .tp _ xs => .tuple (toDs xs)
  | .lst xs => .list (toDs xs)
  | _ => .none
noncomputable def toDs : List PV -> List PyData
  | [] => []
  | x :: xs => toD x :: toDs xs
end
mutual
theorem shd_lay : ∀ (v : PV) (n : Nat), shd n v = true -> (toD v).canLay0 = true /\ (toD v).depth <= n
  | .non, n, h => by simp [toD, PyData.canLay0, PyData.depth]
  | .bl b, n, h => by simp [toD, PyData.canLay0, PyData.depth]
  | .int i, n, h => by simp [toD, PyData.canLay0, PyData.depth]
  | .str x, n, h => by
    simp only [shd] at h
    simp only [toD, PyData.canLay0, PyData.depth, Nat.zero_le, and_true]
    exact h
  | .tp _ xs, n, h => by
    simp only [shd, Bool.and_eq_true, decide_eq_true_eq] at h
    obtain ⟨q1, q2⟩ := shds_lay xs (n - 1) h.2
    simp only [toD, PyData.canLay0, PyData.depth]
    exact ⟨q1, by omega⟩
  | .lst xs, n, h => by
    simp only [shd, Bool.and_eq_true, decide_eq_true_eq] at h
    obtain ⟨q1, q2⟩ := shds_lay xs (n - 1) h.2
    simp only [toD, PyData.canLay0, PyData.depth]
    exact ⟨q1, by omega⟩
  | .loc k, n, h => by simp [shd] at h
  | .exn k, n, h => by simp [shd] at h
  | .scr xs, n, h => by simp [shd] at h
theorem shds_lay : ∀ (v : List PV) (n : Nat), shds n v = true -> PyData.canLayAll0 (toDs v) = true /\ PyData.depthAll (toDs v) <= n
  | [], n, h => by simp [toDs, PyData.canLayAll0, PyData.depthAll]
  | v :: vs, n, h => by
    simp only [shds, Bool.and_eq_true] at h
    obtain ⟨q1, q2⟩ := shd_lay v n h.1
    obtain ⟨q3, q4⟩ := shds_lay vs n h.2
    simp only [toDs, PyData.canLayAll0, PyData.depthAll, Bool.and_eq_true]
    exact ⟨⟨q1, q3⟩, by omega⟩
end
theorem shp_shaped {v : PV} (h : shp v = true) : SeqAt.shaped (toD v) = true := by
  obtain ⟨q1, q2⟩ := shd_lay v 60 h
  unfold SeqAt.shaped
  rw [q1, Bool.true_and, decide_eq_true_eq]
  omega
mutual
theorem peq_eqv : ∀ (v w : PV) (n m : Nat), shd n v = true -> shd m w = true -> PyData.eqv (toD v) (toD w) = peq v w
  | .non, w, n, m, h, q => by cases w <;> simp_all [toD, PyData.eqv, peq, shd]
  | .bl b, w, n, m, h, q => by cases w <;> simp_all [toD, PyData.eqv, peq, shd, bi]
  | .int i, w, n, m, h, q => by cases w <;> simp_all [toD, PyData.eqv, peq, shd, bi]
  | .str x, w, n, m, h, q => by cases w <;> simp_all [toD, PyData.eqv, peq, shd]
  | .tp _ xs, .tp _ ys, n, m, h, q => by
    simp only [shd, Bool.and_eq_true] at h q
    simp only [toD, PyData.eqv, peq]
    exact peqs_eqv xs ys (n - 1) (m - 1) h.2 q.2
  | .lst xs, .lst ys, n, m, h, q => by
    simp only [shd, Bool.and_eq_true] at h q
    simp only [toD, PyData.eqv, peq]
    exact peqs_eqv xs ys (n - 1) (m - 1) h.2 q.2
  | .tp _ xs, .non, n, m, h, q => by simp [toD, PyData.eqv, peq]
  | .tp _ xs, .bl _, n, m, h, q => by simp [toD, PyData.eqv, peq]
  | .tp _ xs, .int _, n, m, h, q => by simp [toD, PyData.eqv, peq]
  | .tp _ xs, .str _, n, m, h, q => by simp [toD, PyData.eqv, peq]
  | .tp _ xs, .lst _, n, m, h, q => by simp [toD, PyData.eqv, peq]
  | .lst xs, .non, n, m, h, q => by simp [toD, PyData.eqv, peq]
  | .lst xs, .bl _, n, m, h, q => by simp [toD, PyData.eqv, peq]
  | .lst xs, .int _, n, m, h, q => by simp [toD, PyData.eqv, peq]
  | .lst xs, .str _, n, m, h, q => by simp [toD, PyData.eqv, peq]
  | .lst xs, .tp _ _, n, m, h, q => by simp [toD, PyData.eqv, peq]
  | .loc k, w, n, m, h, q => by simp [shd] at h
  | .exn k, w, n, m, h, q => by simp [shd] at h
  | .scr k, w, n, m, h, q => by simp [shd] at h
  | v, .loc k, n, m, h, q => by simp [shd] at q
  | v, .exn k, n, m, h, q => by simp [shd] at q
  | v, .scr k, n, m, h, q => by simp [shd] at q
theorem peqs_eqv : ∀ (v w : List PV) (n m : Nat), shds n v = true -> shds m w = true -> PyData.eqvAll (toDs v) (toDs w) = peqs v w
  | [], [], n, m, h, q => by simp [toDs, PyData.eqvAll, peqs]
  | [], y :: ys, n, m, h, q => by simp [toDs, PyData.eqvAll, peqs]
  | x :: xs, [], n, m, h, q => by simp [toDs, PyData.eqvAll, peqs]
  | x :: xs, y :: ys, n, m, h, q => by
    simp only [shds, Bool.and_eq_true] at h q
    simp only [toDs, PyData.eqvAll, peqs]
    rw [peq_eqv x y n m h.1 q.1, peqs_eqv xs ys n m h.2 q.2]
end
section
variable {S : Se} {X : Cx} {σ : St} {B : Addr -> Prop} {φ φ1 : Ph} {H H1 : Hp} {st : Store} {pins : List (Addr × Obj)} {s : Shared}
mutual
theorem reads_of (I : Inv X pins σ H s) : ∀ (v : PV) (n : Nat) (x : V) (u : Value), shd n v = true -> RepV X.K S.cl B φ H v x -> RelV x u -> ∃ as, Reads s.heap u (toD v) as
  | .non, n, x, u, h, r, q => by
    simp only [RepV] at r; subst r; cases (show u = Value.none from q); exact ⟨_, .none⟩
  | .bl b, n, x, u, h, r, q => by
    simp only [RepV] at r; subst r; cases (show u = Value.bool b from q); exact ⟨_, .bool b⟩
  | .int i, n, x, u, h, r, q => by
    simp only [RepV] at r; subst r; obtain ⟨t, rfl⟩ := q; exact ⟨_, .int i t⟩
  | .str y, n, x, u, h, r, q => by
    simp only [RepV] at r; subst r; obtain ⟨t, rfl⟩ := q; exact ⟨_, .str y t⟩
  | .tp _ vs, n, x, u, h, r, q => by
    simp only [RepV] at r
    obtain ⟨a, xs, rfl, rt, l⟩ := r
    cases (show u = Value.ref a from q)
    simp only [shd, Bool.and_eq_true] at h
    obtain ⟨its, rv, ⟨o, g, c, k, d⟩, _⟩ := I.tuple rt.sq
    obtain ⟨as, z⟩ := readss_of I vs (n - 1) xs its h.2 l rv
    exact ⟨as, .tuple g c d (by simpa using z)⟩
  | .lst vs, n, x, u, h, r, q => by
    simp only [RepV] at r
    obtain ⟨a, xs, rfl, rt, l⟩ := r
    cases (show u = Value.ref a from q)
    simp only [shd, Bool.and_eq_true] at h
    obtain ⟨its, rv, ⟨o, k, g, c, _, d⟩, _⟩ := I.list (rt.sq (K := X.K))
    obtain ⟨as, z⟩ := readss_of I vs (n - 1) xs its h.2 l rv
    exact ⟨_, .list g c d (by simpa using z)⟩
  | .loc k, n, x, u, h, r, q => by simp [shd] at h
  | .exn k, n, x, u, h, r, q => by simp [shd] at h
  | .scr k, n, x, u, h, r, q => by simp [shd] at h
theorem readss_of (I : Inv X pins σ H s) : ∀ (v : List PV) (n : Nat) (x : List V) (u : List Value), shds n v = true -> RepL X.K S.cl B φ H v x -> Vals x u -> ∃ as, ReadsAll s.heap u (toDs v) as
  | [], n, x, u, h, r, q => by
    simp only [RepL] at r; subst r; cases q; exact ⟨_, .nil⟩
  | v :: vs, n, x, u, h, r, q => by
    simp only [RepL] at r
    obtain ⟨y, ys, rfl, rv, l⟩ := r
    simp only [shds, Bool.and_eq_true] at h
    cases q with
    | cons q1 q2 =>
      obtain ⟨as, z1⟩ := reads_of I v n y _ h.1 rv q1
      obtain ⟨bs, z2⟩ := readss_of I vs n ys _ h.2 l q2
      exact ⟨_, .cons z1 z2⟩
end
theorem oe_eq (hu : X.A.units + 64 < cLine) : OpR X (compareOp .Eq) (rT2 S X (cmpV .eq)) := by
  rintro pins s σ H x y v u Q I rx ry ⟨B, φ, st, a, b, z, rs, ra, rb, e, q⟩
  simp only [cmpV] at e
  split at e
  · rename_i c
    rw [Bool.and_eq_true] at c
    cases e
    obtain ⟨as, z1⟩ := reads_of (S := S) I a 60 x v c.1 ra rx
    obtain ⟨bs, z2⟩ := reads_of (S := S) I b 60 y u c.2 rb ry
    refine eq_dataH z1 z2 (shp_shaped c.1) (shp_shaped c.2) hu ⟨.bl _, H, I, rfl, ?_⟩
    rw [peq_eqv a b 60 60 c.1 c.2]
    exact q _ H φ .rfl rs (by simp only [RepV])
  · cases e
theorem oe_ne (hu : X.A.units + 64 < cLine) : OpR X (compareOp .NotEq) (rT2 S X (cmpV .ne)) := by
  rintro pins s σ H x y v u Q I rx ry ⟨B, φ, st, a, b, z, rs, ra, rb, e, q⟩
  simp only [cmpV] at e
  split at e
  · rename_i c
    rw [Bool.and_eq_true] at c
    cases e
    obtain ⟨as, z1⟩ := reads_of (S := S) I a 60 x v c.1 ra rx
    obtain ⟨bs, z2⟩ := reads_of (S := S) I b 60 y u c.2 rb ry
    refine ne_dataH z1 z2 (shp_shaped c.1) (shp_shaped c.2) hu ⟨.bl _, H, I, rfl, ?_⟩
    rw [peq_eqv a b 60 60 c.1 c.2]
    exact q _ H φ .rfl rs (by simp only [RepV])
  · cases e
theorem opr_cmp {f : Value -> Value -> Sem Value} {o : COp} {g : Int -> Int -> Bool} (h : OpR X f (rI0 fun i j => .bl (g i j)))
    (hb : ∀ v w z, cmpV o v w = some z -> ∃ i j, v = .int i /\ w = .int j /\ z = .bl (g i j)) : OpR X f (rT2 S X (cmpV o)) := by
  rintro pins s σ H x y v u Q I rx ry ⟨B, φ, st, a, b, z, rs, ra, rb, e, q⟩
  obtain ⟨i, j, rfl, rfl, rfl⟩ := hb a b z e
  simp only [RepV] at ra rb
  subst ra rb
  exact h pins s σ H _ _ v u Q I rx ry ⟨i, j, rfl, rfl, q _ H φ .rfl rs (by simp only [RepV])⟩
theorem cmp_int {o : COp} {g : Int -> Int -> Bool} (ho : ∀ v w, cmpV o v w = match v, w with
      | .int i, .int j => cmpI o i j
      | _, _ => none) (hg : ∀ i j, cmpI o i j = some (.bl (g i j))) (v w z : PV) (h : cmpV o v w = some z) : ∃ i j, v = .int i /\ w = .int j /\ z = .bl (g i j) := by
  rw [ho] at h
  split at h
  · rename_i i j
    rw [hg] at h
    exact ⟨i, j, rfl, rfl, (Option.some.inj h).symm⟩
  · cases h
theorem op_le_str : OpR X (compareOp .LtE) (fun x y H Q => ∃ i j, x = .str i /\ y = .str j /\ Q (.bl (!decide (j.cps.toList < i.cps.toList))) H) := by
  intro pins s σ H x y v u Q I rx ry h
  obtain ⟨i, j, rfl, rfl, q⟩ := h
  obtain ⟨t, rfl⟩ := rx
  obtain ⟨t', rfl⟩ := ry
  exact PySem.P.le_str (fin_bl I q rfl)
theorem oe_lt : OpR X (compareOp .Lt) (rT2 S X (cmpV .lt)) := by
  rintro pins s σ H x y v u Q I rx ry ⟨B, φ, st, a, b, z, rs, ra, rb, e, q⟩
  simp only [cmpV] at e
  split at e
  · rename_i i j
    simp only [RepV] at ra rb
    subst ra rb
    cases e
    exact op_lt pins s σ H _ _ v u Q I rx ry ⟨i, j, rfl, rfl, q _ H φ .rfl rs (by simp only [RepV])⟩
  · rename_i i j
    simp only [RepV] at ra rb
    subst ra rb
    cases e
    exact op_lt_str pins s σ H _ _ v u Q I rx ry ⟨i, j, rfl, rfl, q _ H φ .rfl rs (by simp only [RepV])⟩
  · cases e
theorem oe_le : OpR X (compareOp .LtE) (rT2 S X (cmpV .le)) := by
  rintro pins s σ H x y v u Q I rx ry ⟨B, φ, st, a, b, z, rs, ra, rb, e, q⟩
  simp only [cmpV] at e
  split at e
  · rename_i i j
    simp only [RepV] at ra rb
    subst ra rb
    cases e
    exact op_le pins s σ H _ _ v u Q I rx ry ⟨i, j, rfl, rfl, q _ H φ .rfl rs (by simp only [RepV])⟩
  · rename_i i j
    simp only [RepV] at ra rb
    subst ra rb
    cases e
    exact op_le_str pins s σ H _ _ v u Q I rx ry ⟨i, j, rfl, rfl, q _ H φ .rfl rs (by simp only [RepV])⟩
  · cases e
theorem cmp_int2 {o : COp} {g : Int -> Int -> Bool} (ho : ∀ v w, cmpV o v w = match v, w with
      | .int i, .int j => cmpI o i j
      | .str a, .str b => cmpS o a b
      | _, _ => none) (hs : ∀ a b, cmpS o a b = none) (hg : ∀ i j, cmpI o i j = some (.bl (g i j))) (v w z : PV) (h : cmpV o v w = some z) : ∃ i j, v = .int i /\ w = .int j /\ z = .bl (g i j) := by
  rw [ho] at h
  split at h
  · rename_i i j
    rw [hg] at h
    exact ⟨i, j, rfl, rfl, (Option.some.inj h).symm⟩
  · rw [hs] at h; cases h
  · cases h
theorem oe_gt : OpR X (compareOp .Gt) (rT2 S X (cmpV .gt)) := opr_cmp op_gt (cmp_int2 (fun _ _ => rfl) (fun _ _ => rfl) fun _ _ => rfl)
theorem oe_ge : OpR X (compareOp .GtE) (rT2 S X (cmpV .ge)) := opr_cmp op_ge (cmp_int2 (fun _ _ => rfl) (fun _ _ => rfl) fun _ _ => rfl)
theorem RepV.isNon {K : PySem.W.Frag} {cl : Nat -> Addr} {v : PV} {x : V} (r : RepV K cl B φ H v x) : decide (x = .non) = IC.isNon v := by
  cases v with
  | loc n => simp only [RepV] at r; obtain ⟨_, a, rfl, _⟩ := r; rfl
  | non => simp only [RepV] at r; subst r; rfl
  | bl b => simp only [RepV] at r; subst r; rfl
  | int b => simp only [RepV] at r; subst r; rfl
  | str b => simp only [RepV] at r; subst r; rfl
  | tp k vs => simp only [RepV] at r; obtain ⟨a, xs, rfl, _⟩ := r; rfl
  | lst vs => simp only [RepV] at r; obtain ⟨a, xs, rfl, _⟩ := r; rfl
  | exn vs => simp only [RepV] at r; obtain ⟨a, rfl, _⟩ := r; rfl
  | scr vs => simp only [RepV] at r; obtain ⟨a, xs, rfl, _⟩ := r; rfl
theorem is_bools {M : Model} {A : Around} {E : Value -> Shared -> Prop} {s : Shared} {a b : Bool} {Q : Value -> Shared -> Prop} (h : Q (.bool (a == b)) s) : wpAny M A (compareOp .Is (.bool a) (.bool b)) Q E s := by
  have e : (Value.bool a == Value.bool b) = (a == b) := by cases a <;> cases b <;> rfl
  rw [<- e] at h
  exact wpAny_pure h
theorem isnot_bools {M : Model} {A : Around} {E : Value -> Shared -> Prop} {s : Shared} {a b : Bool} {Q : Value -> Shared -> Prop} (h : Q (.bool (!(a == b))) s) : wpAny M A (compareOp .IsNot (.bool a) (.bool b)) Q E s := by
  have e : (Value.bool a == Value.bool b) = (a == b) := by cases a <;> cases b <;> rfl
  rw [<- e] at h
  exact wpAny_pure h
theorem oe_is : OpR X (compareOp .Is) (rT2 S X (cmpV .is)) := by
  rintro pins s σ H x y v u Q I rx ry ⟨B, φ, st, a, b, z, rs, ra, rb, e, q⟩
  simp only [cmpV] at e
  split at e
  · cases e
    simp only [RepV] at rb
    exact op_isN pins s σ H _ _ v u Q I rx ry ⟨rb, q _ H φ .rfl rs (by simp only [RepV]; rw [ra.isNon])⟩
  · rename_i k
    split at e
    · rename_i j
      cases e
      simp only [RepV] at ra rb
      subst ra rb
      cases (show v = Value.bool j from rx)
      cases (show u = Value.bool k from ry)
      exact is_bools (fin_bl I (q _ H φ .rfl rs (by simp only [RepV])) rfl)
    · cases e
  · cases e
theorem oe_isnot : OpR X (compareOp .IsNot) (rT2 S X (cmpV .isnot)) := by
  rintro pins s σ H x y v u Q I rx ry ⟨B, φ, st, a, b, z, rs, ra, rb, e, q⟩
  simp only [cmpV] at e
  split at e
  · cases e
    simp only [RepV] at rb
    exact op_notN pins s σ H _ _ v u Q I rx ry ⟨rb, q _ H φ .rfl rs (by simp only [RepV]; rw [ra.isNon])⟩
  · rename_i k
    split at e
    · rename_i j
      cases e
      simp only [RepV] at ra rb
      subst ra rb
      cases (show v = Value.bool j from rx)
      cases (show u = Value.bool k from ry)
      exact isnot_bools (fin_bl I (q _ H φ .rfl rs (by simp only [RepV])) rfl)
    · cases e
  · cases e
theorem RepV.flat {K : PySem.W.Frag} {cl : Nat -> Addr} {v : PV} {x : V} (r : RepV K cl B φ H v x) (h : IC.flat v = true) : flatV x = true /\ ∀ (w : PV) (y : V), IC.flat w = true -> RepV K cl B φ H w y -> eqV x y = peq v w := by
  cases v with
  | non =>
    simp only [RepV] at r; subst r
    refine ⟨rfl, fun w y hw rw => ?_⟩
    cases w <;> first | (simp [IC.flat] at hw; done) | (simp only [RepV] at rw; subst rw; simp [eqV, peq, bi])
  | bl b =>
    simp only [RepV] at r; subst r
    refine ⟨rfl, fun w y hw rw => ?_⟩
    cases w <;> first | (simp [IC.flat] at hw; done) | (simp only [RepV] at rw; subst rw; simp [eqV, peq, bi])
  | int b =>
    simp only [RepV] at r; subst r
    refine ⟨rfl, fun w y hw rw => ?_⟩
    cases w <;> first | (simp [IC.flat] at hw; done) | (simp only [RepV] at rw; subst rw; simp [eqV, peq, bi])
  | str b =>
    simp only [RepV] at r; subst r
    refine ⟨rfl, fun w y hw rw => ?_⟩
    cases w <;> first | (simp [IC.flat] at hw; done) | (simp only [RepV] at rw; subst rw; simp [eqV, peq, bi])
  | _ => simp [IC.flat] at h
theorem inV_inL {K : PySem.W.Frag} {cl : Nat -> Addr} {v : PV} {x : V} (r : RepV K cl B φ H v x) (h : IC.flat v = true) : ∀ {vs : List PV} {xs : List V}, RepL K cl B φ H vs xs -> vs.all IC.flat = true -> xs.all flatV = true /\ inV x xs = inL v vs
  | [], xs, l, _ => by simp only [RepL] at l; subst l; exact ⟨rfl, rfl⟩
  | w :: vs, xs, l, f => by
    simp only [RepL] at l
    obtain ⟨y, ys, rfl, rw, l⟩ := l
    rw [List.all_cons, Bool.and_eq_true] at f
    obtain ⟨q1, q2⟩ := inV_inL r h l f.2
    obtain ⟨q3, q4⟩ := rw.flat f.1
    refine ⟨by rw [List.all_cons, q3, q1]; rfl, ?_⟩
    unfold inV at q2 ⊢
    rw [List.any_cons, q2, q4 v x h r]
    rfl
end
end L2
namespace L2
open PySem PySem.Spec PyProof.Rows IC
theorem inS_occ (a b : Str) : (!(Builtin.Str.occurrences b a 0 b.length 1).isEmpty) = inS a b := by
  rw [Bool.eq_iff_iff, StrLaws.found_iff]
  unfold inS
  rw [List.any_eq_true]
  constructor
  · rintro ⟨i, h1, h2⟩
    exact ⟨i, by rw [List.mem_range]; omega, by rw [Bool.and_eq_true, decide_eq_true_eq]; exact ⟨h1, h2⟩⟩
  · rintro ⟨i, _, h⟩
    rw [Bool.and_eq_true, decide_eq_true_eq] at h
    exact ⟨i, h.1, h.2⟩
section
variable {S : Se} {X : Cx} {σ : St} {B : Addr -> Prop} {φ φ1 : Ph} {H H1 : Hp} {st : Store}
theorem oe_in : OpR X (compareOp .In) (rT2 S X (cmpV .isin)) := by
  rintro pins s σ H x y v u Q I rx ry ⟨B, φ, st, a, b, z, rs, ra, rb, e, q⟩
  simp only [cmpV] at e
  split at e
  · rename_i i j
    simp only [RepV] at ra rb
    subst ra rb
    cases e
    exact op_in_str pins s σ H _ _ v u Q I rx ry ⟨i, j, rfl, rfl, by rw [inS_occ]; exact q _ H φ .rfl rs (by simp only [RepV])⟩
  · rename_i l
    split at e
    · rename_i c
      rw [Bool.and_eq_true] at c
      cases e
      simp only [RepV] at rb
      obtain ⟨p, xs, rfl, r, l'⟩ := rb
      obtain ⟨q1, q2⟩ := inV_inL ra c.1 l' c.2
      exact op_in_seq pins s σ H _ _ v u Q I rx ry ⟨p, xs, rfl, .inr r.sq, (ra.flat c.1).1, q1, q _ H φ .rfl rs (by simp only [RepV]; rw [<- q2]; rfl)⟩
    · cases e
  · rename_i l
    split at e
    · rename_i c
      rw [Bool.and_eq_true] at c
      cases e
      simp only [RepV] at rb
      obtain ⟨p, xs, rfl, r, l'⟩ := rb
      obtain ⟨q1, q2⟩ := inV_inL ra c.1 l' c.2
      exact op_in_seq pins s σ H _ _ v u Q I rx ry ⟨p, xs, rfl, .inl r.sq, (ra.flat c.1).1, q1, q _ H φ .rfl rs (by simp only [RepV]; rw [<- q2]; rfl)⟩
    · cases e
  · cases e
theorem RepL.empty {K : PySem.W.Frag} {cl : Nat -> Addr} {vs : List PV} {xs : List V} (l : RepL K cl B φ H vs xs) : vs.isEmpty = xs.isEmpty := by
  have := l.length
  cases vs <;> cases xs <;> simp_all
theorem truV_ok {K : PySem.W.Frag} {cl : Nat -> Addr} {v : PV} {x : V} {k : Bool} (rs : RepS K cl B φ H st) (r : RepV K cl B φ H v x) (h : truV st v = some k) : TruV K x H k := by
  cases v with
  | non => simp only [RepV] at r; subst r; cases h; rfl
  | bl b => simp only [RepV] at r; subst r; cases h; rfl
  | int b => simp only [RepV] at r; subst r; cases h; rfl
  | str b =>
    simp only [RepV] at r; subst r
    simp only [truV] at h
    split at h
    · rename_i c
      cases h
      exact ⟨by rw [<- sizeMax_eq]; exact c, rfl⟩
    · cases h
  | tp k vs =>
    simp only [RepV] at r
    obtain ⟨a, xs, rfl, rt, l⟩ := r
    cases h
    exact .inr (.inl ⟨xs, rt.sq, by rw [l.empty]⟩)
  | lst vs =>
    simp only [RepV] at r
    obtain ⟨a, xs, rfl, rt, l⟩ := r
    cases h
    exact .inl ⟨xs, rt.sq, by rw [l.empty]⟩
  | loc n =>
    simp only [RepV] at r
    obtain ⟨hn, a, rfl, ha⟩ := r
    simp only [truV] at h
    split at h
    · rename_i vs hv
      cases h
      obtain ⟨b, hb⟩ := rs.liv n _ hv (by intro z; cases z)
      obtain rfl := ha b hb
      obtain ⟨o, ho, ro⟩ := rs.obj n b hb
      rw [hv] at ho; cases ho
      obtain ⟨xs, hx, l⟩ := ro
      exact .inl ⟨xs, .of hx, by rw [l.empty]⟩
    · cases h
  | exn c => cases h
  | scr c => cases h
end
end L2
namespace L2
open PySem PySem.Spec PyProof.Rows IC
theorem R.bind_assoc {α β γ : Type} {r : R α} {k : α -> Store -> R β} {l : β -> Store -> R γ} : (r.bind k).bind l = r.bind fun a s => (k a s).bind l := by
  cases r <;> rfl
section
variable {S : Se} {X : Cx} {σ : St} {B : Addr -> Prop} {φ φ1 : Ph} {H H1 : Hp} {st : Store} {ρ : IC.Env} {pos : Pos} {a b c d : Expr} {ca cb cc : Ce} {es : List Expr} {ces : Ces}
theorem cmpV_bl {o : COp} {v w z : PV} (h : cmpV o v w = some z) : ∃ k, z = .bl k := by
  cases o <;> simp only [cmpV] at h
  all_goals (repeat' split at h) <;> first | (cases h; done) | (cases h; exact ⟨_, rfl⟩) | skip
  all_goals (simp only [cmpI] at h; cases h; exact ⟨_, rfl⟩)
theorem st_cmp {op : CmpOp} {o : COp} (ho : OpR X (compareOp op) (rT2 S X (cmpV o))) (ha : PE X a (tE S X ca)) (hb : PE X b (tE S X cb)) (hm : behindInMarks op b = false) : PT X (.Compare a [op] [b] pos) (tTs S X (.cmp o ca cb)) :=
  (pt_cmpR ho ha hb hm).imp fun σ H Q ⟨B, φ, st, ρ, rs, re, h⟩ => by
    simp only [ev, truR, R.bind_assoc] at h
    refine tE.bind rs re h fun x H1 v st1 φ1 s1 rs1 re1 rv h1 => tE.bind rs1 re1 h1 fun y H2 w st2 φ2 s2 rs2 re2 rw h2 => ?_
    cases e : cmpV o v w with
    | none => rw [e] at h2; exact h2.elim
    | some z =>
      obtain ⟨k, rfl⟩ := cmpV_bl e
      rw [e] at h2
      refine ⟨B, φ2, st2, v, w, .bl k, rs2, rv.step s2, rw, e, fun z' H' φ' s' rs' rz => ?_⟩
      simp only [RepV] at rz
      exact ⟨k, rz, h2 k H' φ' s' rs' rfl⟩
theorem st_cmp_k {op : CmpOp} {o : COp} (ho : OpR X (compareOp op) (rT2 S X (cmpV o))) (ha : KqE X a (tE S X ca)) (hb : KqE X b (tE S X cb)) (hm : behindInMarks op b = false) : KqT X (.Compare a [op] [b] pos) (tTs S X (.cmp o ca cb)) := by with_unfolding_all exact st_cmp ho ha hb hm
theorem st_val (ha : PE X a (tE S X ca)) (he : ∀ whole, isTrue a X.env whole = (do let v <- whole; standAt a.pos; holding [v] (truthy v)) := by intro _; rfl) : PT X a (tTs S X ca) :=
  (pt_truth ha he).imp fun σ H Q ⟨B, φ, st, ρ, rs, re, h⟩ => by
    simp only [truR] at h
    refine tE.bind rs re h fun x H1 v st1 φ1 s1 rs1 re1 rv h1 => ?_
    cases e : truV st1 v with
    | none => rw [e] at h1; exact h1.elim
    | some k =>
      rw [e] at h1
      exact ⟨k, truV_ok rs1 rv e, h1.ok rs1 rfl⟩
theorem st_val_k (ha : KqE X a (tE S X ca)) (he : ∀ whole, isTrue a X.env whole = (do let v <- whole; standAt a.pos; holding [v] (truthy v)) := by intro _; rfl) : KqT X a (tTs S X ca) := by with_unfolding_all exact st_val ha he
theorem tTs.bind {γ δ : Type} {Rel2 : Ph -> Hp -> γ -> δ -> Prop} {k : Bool -> Store -> R γ} {Q : δ -> Hp -> Prop} {P : Bool -> Hp -> Prop} (rs : RepS X.K S.cl B φ H st) (re : RepE X.K S.cl B φ H ρ σ) (h : Run S X σ B φ H Rel2 ((truR (ev S.call ρ st ca)).bind k) Q)
    (n : ∀ b H1 st1 φ1, Step φ H φ1 H1 -> RepS X.K S.cl B φ1 H1 st1 -> RepE X.K S.cl B φ1 H1 ρ σ -> Run S X σ B φ1 H1 Rel2 (k b st1) Q -> P b H1) : tTs S X ca σ H P :=
  ⟨B, φ, st, ρ, rs, re, (Run.bind h).mono fun x H1 ⟨v, st1, φ1, s, rs1, rv, h1⟩ => by
    subst rv
    exact n v H1 st1 φ1 s rs1 (re.step s) h1⟩
theorem truR_on (r : R PV) (f : Bool -> Store -> R PV) : truR (r.bind fun x st1 => onBl x fun b => f b st1) = r.bind fun x st1 => onBl x fun b => truR (f b st1) := by
  unfold truR
  rw [R.bind_assoc]
  congr 1
  funext x st1
  cases x <;> rfl
theorem Run.bl_tru {r : R PV} {k : Bool -> Store -> R Bool} {Q : Bool -> Hp -> Prop} (h : Run S X σ B φ H RB (r.bind fun x st1 => onBl x fun b => k b st1) Q) : Run S X σ B φ H RB ((truR r).bind k) Q := by
  cases r with
  | bad => exact h
  | exc c s => exact h
  | ok v s =>
    cases v with
    | bl b => exact h
    | _ => exact h.elim
theorem st_not (ha : PT X a (tTs S X ca)) : PT X (.UnaryOp .Not a pos) (tTs S X (.not ca)) :=
  (pt_not ha).imp fun σ H Q ⟨B, φ, st, ρ, rs, re, h⟩ => by
    simp only [ev] at h
    rw [truR_on _ fun k st1 => .ok (.bl (!k)) st1] at h
    exact tTs.bind rs re (Run.bl_tru (k := fun b st1 => .ok (!b) st1) h) fun b H1 st1 φ1 s1 rs1 re1 h1 => h1.ok rs1 rfl
theorem st_not_k (ha : KqT X a (tTs S X ca)) : KqT X (.UnaryOp .Not a pos) (tTs S X (.not ca)) := by with_unfolding_all exact st_not ha
variable {rest : List Expr}
theorem sw_and1 (ha : PT X a (tTs S X ca)) : PW X (.BoolOp .And [a] pos) (tTs S X ca) := pw_and1 ha
theorem sw_and1_k (ha : KqT X a (tTs S X ca)) : KqW X (.BoolOp .And [a] pos) (tTs S X ca) := by with_unfolding_all exact sw_and1 ha
theorem sw_or1 (ha : PT X a (tTs S X ca)) : PW X (.BoolOp .Or [a] pos) (tTs S X ca) := pw_or1 ha
theorem sw_or1_k (ha : KqT X a (tTs S X ca)) : KqW X (.BoolOp .Or [a] pos) (tTs S X ca) := by with_unfolding_all exact sw_or1 ha
theorem sw_and (ha : PT X a (tTs S X ca)) (hb : PW X (.BoolOp .And (b :: rest) pos) (tTs S X cb)) : PW X (.BoolOp .And (a :: b :: rest) pos) (tTs S X (.and ca cb)) :=
  (pw_and ha hb).imp fun σ H Q ⟨B, φ, st, ρ, rs, re, h⟩ => by
    simp only [ev] at h
    rw [truR_on _ fun k st1 => cond k (ev S.call ρ st1 cb) (.ok (.bl false) st1)] at h
    refine tTs.bind rs re (Run.bl_tru h) fun k H1 st1 φ1 s1 rs1 re1 h1 => ?_
    cases k with
    | false => exact h1.ok rs1 rfl
    | true => exact ⟨B, φ1, st1, ρ, rs1, re1, h1⟩
theorem sw_and_k (ha : KqT X a (tTs S X ca)) (hb : KqW X (.BoolOp .And (b :: rest) pos) (tTs S X cb)) : KqW X (.BoolOp .And (a :: b :: rest) pos) (tTs S X (.and ca cb)) := by with_unfolding_all exact sw_and ha hb
theorem sw_or (ha : PT X a (tTs S X ca)) (hb : PW X (.BoolOp .Or (b :: rest) pos) (tTs S X cb)) : PW X (.BoolOp .Or (a :: b :: rest) pos) (tTs S X (.or ca cb)) :=
  (pw_or ha hb).imp fun σ H Q ⟨B, φ, st, ρ, rs, re, h⟩ => by
    simp only [ev] at h
    rw [truR_on _ fun k st1 => cond k (.ok (.bl true) st1) (ev S.call ρ st1 cb)] at h
    refine tTs.bind rs re (Run.bl_tru h) fun k H1 st1 φ1 s1 rs1 re1 h1 => ?_
    cases k with
    | true => exact h1.ok rs1 rfl
    | false => exact ⟨B, φ1, st1, ρ, rs1, re1, h1⟩
theorem sw_or_k (ha : KqT X a (tTs S X ca)) (hb : KqW X (.BoolOp .Or (b :: rest) pos) (tTs S X cb)) : KqW X (.BoolOp .Or (a :: b :: rest) pos) (tTs S X (.or ca cb)) := by with_unfolding_all exact sw_or ha hb
theorem se_one {op : BoolOp} (h : PE X a (tE S X ca)) : PE X (.BoolOp op [a] pos) (tE S X ca) := pe_one h
theorem se_one_k {op : BoolOp} (h : KqE X a (tE S X ca)) : KqE X (.BoolOp op [a] pos) (tE S X ca) := by with_unfolding_all exact se_one h
theorem se_and (ha : PE X a (tE S X ca)) (hb : PE X (.BoolOp .And (b :: rest) pos) (tE S X cb)) : PE X (.BoolOp .And (a :: b :: rest) pos) (tE S X (.and ca cb)) :=
  (pe_and ha hb).imp fun σ H Q ⟨B, φ, st, ρ, rs, re, h⟩ => by
    simp only [ev] at h
    refine tE.bind rs re h fun x H1 v st1 φ1 s1 rs1 re1 rv h1 => ?_
    cases v with
    | bl k =>
      simp only [RepV] at rv
      refine ⟨k, rv, ?_⟩
      cases k with
      | true => exact ⟨B, φ1, st1, ρ, rs1, re1, h1⟩
      | false => exact h1.ok rs1 (by simp only [RepV])
    | _ => exact h1.elim
theorem se_and_k (ha : KqE X a (tE S X ca)) (hb : KqE X (.BoolOp .And (b :: rest) pos) (tE S X cb)) : KqE X (.BoolOp .And (a :: b :: rest) pos) (tE S X (.and ca cb)) := by with_unfolding_all exact se_and ha hb
theorem se_or (ha : PE X a (tE S X ca)) (hb : PE X (.BoolOp .Or (b :: rest) pos) (tE S X cb)) : PE X (.BoolOp .Or (a :: b :: rest) pos) (tE S X (.or ca cb)) :=
  (pe_or ha hb).imp fun σ H Q ⟨B, φ, st, ρ, rs, re, h⟩ => by
    simp only [ev] at h
    refine tE.bind rs re h fun x H1 v st1 φ1 s1 rs1 re1 rv h1 => ?_
    cases v with
    | bl k =>
      simp only [RepV] at rv
      refine ⟨k, rv, ?_⟩
      cases k with
      | false => exact ⟨B, φ1, st1, ρ, rs1, re1, h1⟩
      | true => exact h1.ok rs1 (by simp only [RepV])
    | _ => exact h1.elim
theorem se_or_k (ha : KqE X a (tE S X ca)) (hb : KqE X (.BoolOp .Or (b :: rest) pos) (tE S X cb)) : KqE X (.BoolOp .Or (a :: b :: rest) pos) (tE S X (.or ca cb)) := by with_unfolding_all exact se_or ha hb
theorem se_not (ha : PE X a (tE S X ca)) : PE X (.UnaryOp .Not a pos) (tE S X (.not ca)) :=
  (pe_not ha).imp fun σ H Q ⟨B, φ, st, ρ, rs, re, h⟩ => by
    simp only [ev] at h
    refine tE.bind rs re h fun x H1 v st1 φ1 s1 rs1 re1 rv h1 => ?_
    cases v with
    | bl k =>
      simp only [RepV] at rv
      exact ⟨k, rv, h1.ok rs1 (by simp only [RepV])⟩
    | _ => exact h1.elim
theorem se_not_k (ha : KqE X a (tE S X ca)) : KqE X (.UnaryOp .Not a pos) (tE S X (.not ca)) := by with_unfolding_all exact se_not ha
theorem se_neg (ha : PE X a (tE S X ca)) : PE X (.UnaryOp .USub a pos) (tE S X (.neg ca)) :=
  (pe_un un_neg ha).imp fun σ H Q ⟨B, φ, st, ρ, rs, re, h⟩ => by
    simp only [ev] at h
    refine tE.bind rs re h fun x H1 v st1 φ1 s1 rs1 re1 rv h1 => ?_
    split at h1
    · simp only [RepV] at rv
      exact ⟨_, rv, h1.ok rs1 (by simp only [RepV])⟩
    · exact h1.elim
theorem se_neg_k (ha : KqE X a (tE S X ca)) : KqE X (.UnaryOp .USub a pos) (tE S X (.neg ca)) := by with_unfolding_all exact se_neg ha
theorem se_ite (hc : PT X c (tTs S X cc)) (ha : PE X a (tE S X ca)) (hb : PE X b (tE S X cb)) : PE X (.IfExp c a b pos) (tE S X (.ite cc ca cb)) :=
  (pe_ifExp hc ha hb).imp fun σ H Q ⟨B, φ, st, ρ, rs, re, h⟩ => by
    simp only [ev] at h
    have e : ((ev S.call ρ st cc).bind fun x st1 => onO (truV st1 x) fun k => cond k (ev S.call ρ st1 ca) (ev S.call ρ st1 cb)) = (truR (ev S.call ρ st cc)).bind fun k st1 => cond k (ev S.call ρ st1 ca) (ev S.call ρ st1 cb) := by
      unfold truR
      rw [R.bind_assoc]
      congr 1
      funext x st1
      cases truV st1 x <;> rfl
    rw [e] at h
    refine tTs.bind rs re h fun k H1 st1 φ1 s1 rs1 re1 h1 => ?_
    cases k with
    | true => exact ⟨B, φ1, st1, ρ, rs1, re1, h1⟩
    | false => exact ⟨B, φ1, st1, ρ, rs1, re1, h1⟩
theorem se_ite_k (hc : KqT X c (tTs S X cc)) (ha : KqE X a (tE S X ca)) (hb : KqE X b (tE S X cb)) : KqE X (.IfExp c a b pos) (tE S X (.ite cc ca cb)) := by with_unfolding_all exact se_ite hc ha hb
theorem sa_nil : PA X [] (tAs S X .nil) := pa_nil.imp fun σ H Q ⟨B, φ, st, ρ, rs, re, h⟩ => by
  simp only [evs] at h
  exact h.ok rs (by simp only [RepL])
theorem sa_nil_k : KqA X [] (tAs S X .nil) := by with_unfolding_all exact sa_nil
theorem sa_cons (ha : PE X a (tE S X ca)) (hr : PA X es (tAs S X ces)) (hs : starEach (a :: es) X.env = (false, eval a X.env) :: starEach es X.env := by rfl) : PA X (a :: es) (tAs S X (.cons ca ces)) :=
  (pa_cons ha hr hs).imp fun σ H Q ⟨B, φ, st, ρ, rs, re, h⟩ => by
    simp only [evs] at h
    refine tE.bind rs re h fun x H1 v st1 φ1 s1 rs1 re1 rv h1 => tAs.bind rs1 re1 h1 fun xs H2 vs st2 φ2 s2 rs2 re2 rvs h2 => ?_
    refine h2.ok rs2 ?_
    simp only [RepL]
    exact ⟨x, xs, rfl, rv.step s2, rvs⟩
theorem sa_cons_k (ha : KqE X a (tE S X ca)) (hr : KqA X es (tAs S X ces)) (hs : starEach (a :: es) X.env = (false, eval a X.env) :: starEach es X.env := by rfl) : KqA X (a :: es) (tAs S X (.cons ca ces)) := by with_unfolding_all exact sa_cons ha hr hs
theorem se_tup {k : Nat} (h : PA X es (tAs S X ces)) : PE X (.Tuple es k pos) (tE S X (.tup ces)) :=
  (pe_tup h).imp fun σ H Q ⟨B, φ, st, ρ, rs, re, h⟩ => by
    simp only [ev] at h
    refine tAs.bind rs re h fun xs H1 vs st1 φ1 s1 rs1 re1 rv h1 => ?_
    split at h1
    · rename_i c
      refine ⟨by rw [<- sizeMax_eq, <- rv.length]; exact c, fun p hp => h1 _ _ φ1 (.upd hp) (rs1.upd hp) (.tup_new hp rs1 rv)⟩
    · exact h1.elim
theorem se_tup_k {k : Nat} (h : KqA X es (tAs S X ces)) : KqE X (.Tuple es k pos) (tE S X (.tup ces)) := by with_unfolding_all exact se_tup h
theorem se_lst (h : PA X es (tAs S X ces)) : PE X (.List es pos) (tE S X (.lst ces)) :=
  (pe_lst h).imp fun σ H Q ⟨B, φ, st, ρ, rs, re, h⟩ => by
    simp only [ev] at h
    refine tAs.bind rs re h fun xs H1 vs st1 φ1 s1 rs1 re1 rv h1 => ?_
    split at h1
    · rename_i c
      refine ⟨by rw [<- sizeMax_eq, <- rv.length]; exact c, fun p hp => h1 _ _ φ1 (.upd hp) (rs1.upd hp) (.lst_new hp rs1 rv)⟩
    · exact h1.elim
theorem se_lst_k (h : KqA X es (tAs S X ces)) : KqE X (.List es pos) (tE S X (.lst ces)) := by with_unfolding_all exact se_lst h
theorem Step.push {p : Addr} {o : HO} (hp : H p = none) : Step φ H (φ ++ [some p]) (L2.upd H p o) := by
  refine ⟨fun b u n e => by rw [upd_ne (ne_of_none e hp)]; exact e, by simp, fun n a hn e => ?_, fun b h => ?_⟩
  · rw [List.getElem?_append_left hn] at e
    exact e
  · rw [List.mem_append] at h
    rcases h with h | h
    · exact .inl h
    · have : b = p := by simpa using h
      subst this
      exact .inr hp
theorem RepS.push {K : PySem.W.Frag} {cl : Nat -> Addr} {p : Addr} {u : HO} {o : Ob} (rs : RepS K cl B φ H st) (hp : H p = none) (hb : ¬ B p) (ho : RepO K cl B (φ ++ [some p]) (L2.upd H p u) o p) : RepS K cl B (φ ++ [some p]) (L2.upd H p u) (st ++ [o]) := by
  have s : Step φ H (φ ++ [some p]) (L2.upd H p u) := .push hp
  have np : some p ∉ φ := fun z => by
    obtain ⟨w, e⟩ := rs.there z
    rw [hp] at e; cases e
  have hl : φ.length = st.length := rs.len
  refine ⟨by simp [hl], fun m n a e1 e2 => ?_, fun n a e => ?_, fun n o' e ho' => ?_, fun a h => ?_, fun a h => ?_⟩
  · by_cases hm : m < φ.length
    · rw [List.getElem?_append_left hm] at e1
      by_cases hn : n < φ.length
      · rw [List.getElem?_append_left hn] at e2
        exact rs.inj m n a e1 e2
      · rw [List.getElem?_append_right (by omega)] at e2
        have : a = p := by
          cases q : n - φ.length with
          | zero => rw [q] at e2; simpa using e2.symm
          | succ k => rw [q] at e2; simp at e2
        subst this
        exact absurd (List.mem_of_getElem? e1) np
    · rw [List.getElem?_append_right (by omega)] at e1
      have : m - φ.length = 0 /\ a = p := by
        cases q : m - φ.length with
        | zero => rw [q] at e1; exact ⟨rfl, by simpa using e1.symm⟩
        | succ k => rw [q] at e1; simp at e1
      obtain ⟨q1, rfl⟩ := this
      by_cases hn : n < φ.length
      · rw [List.getElem?_append_left hn] at e2
        exact absurd (List.mem_of_getElem? e2) np
      · rw [List.getElem?_append_right (by omega)] at e2
        have : n - φ.length = 0 := by
          cases q : n - φ.length with
          | zero => rfl
          | succ k => rw [q] at e2; simp at e2
        omega
  · by_cases hn : n < φ.length
    · rw [List.getElem?_append_left hn] at e
      obtain ⟨o', q, r⟩ := rs.obj n a e
      refine ⟨o', by rw [List.getElem?_append_left (by omega)]; exact q, r.step s ?_⟩
      rw [upd_ne]
      rintro rfl
      exact np (List.mem_of_getElem? e)
    · rw [List.getElem?_append_right (by omega)] at e
      have : n - φ.length = 0 /\ a = p := by
        cases q : n - φ.length with
        | zero => rw [q] at e; exact ⟨rfl, by simpa using e.symm⟩
        | succ k => rw [q] at e; simp at e
      obtain ⟨q1, rfl⟩ := this
      refine ⟨o, ?_, ho⟩
      rw [List.getElem?_append_right (by omega)]
      have : n - st.length = 0 := by omega
      rw [this]; rfl
  · by_cases hn : n < φ.length
    · rw [List.getElem?_append_left (by omega)] at e
      obtain ⟨a, q⟩ := rs.liv n o' e ho'
      exact ⟨a, by rw [List.getElem?_append_left hn]; exact q⟩
    · rw [List.getElem?_append_right (by omega)] at e
      have : n - st.length = 0 := by
        cases q : n - st.length with
        | zero => rfl
        | succ k => rw [q] at e; simp at e
      refine ⟨p, ?_⟩
      rw [List.getElem?_append_right (by omega)]
      have : n - φ.length = 0 := by omega
      rw [this]; rfl
  · rw [List.mem_append] at h
    rcases h with h | h
    · exact rs.nb a h
    · have : a = p := by simpa using h
      subst this
      exact hb
  · obtain ⟨w, e⟩ := rs.dom a h
    exact ⟨w, by rw [upd_ne (ne_of_none e hp)]; exact e⟩
theorem RepS.nB {K : PySem.W.Frag} {cl : Nat -> Addr} {p : Addr} (rs : RepS K cl B φ H st) (hp : H p = none) : ¬ B p := fun z => by
  obtain ⟨o, e⟩ := rs.dom p z
  rw [hp] at e; cases e
theorem RepV.loc_new {K : PySem.W.Frag} {cl : Nat -> Addr} {p : Addr} (rs : RepS K cl B φ H st) : RepV K cl B (φ ++ [some p]) H1 (.loc st.length) (.ref p) := by
  simp only [RepV]
  have hl := rs.len
  refine ⟨by simp [hl], p, rfl, fun b e => ?_⟩
  rw [List.getElem?_append_right (by omega)] at e
  have : st.length - φ.length = 0 := by omega
  rw [this] at e
  simpa using e.symm
theorem se_newl (h : PA X es (tAs S X ces)) : PE X (.List es pos) (tE S X (.newl ces)) :=
  (pe_lst h).imp fun σ H Q ⟨B, φ, st, ρ, rs, re, h⟩ => by
    simp only [ev] at h
    refine tAs.bind rs re h fun xs H1 vs st1 φ1 s1 rs1 re1 rv h1 => ?_
    split at h1
    · rename_i c
      refine ⟨by rw [<- sizeMax_eq, <- rv.length]; exact c, fun p hp => h1 _ _ (φ1 ++ [some p]) (.push hp) (rs1.push hp (rs1.nB hp) ⟨xs, upd_same, rv.step (.push hp)⟩) (.loc_new rs1)⟩
    · exact h1.elim
theorem se_newl_k (h : KqA X es (tAs S X ces)) : KqE X (.List es pos) (tE S X (.newl ces)) := by with_unfolding_all exact se_newl h
end
end L2
namespace L2
open PySem PySem.Spec PyProof.Rows IC
section
variable {S : Se} {X : Cx} {σ : St} {B : Addr -> Prop} {φ φ1 : Ph} {H H1 : Hp} {st : Store} {ρ : IC.Env} {pos p2 : Pos} {a b c d : Expr} {ca cb cc : Ce} {es : List Expr} {ces : Ces} {K : PySem.W.Frag} {cl : Nat -> Addr}
theorem cmp_run {o : COp} {v w : PV} {α β : Type} {Rel : Ph -> Hp -> α -> β -> Prop} {k : Bool -> R α} {Q : β -> Hp -> Prop} (h : Run S X σ B φ H Rel (onO (blO (cmpV o v w)) k) Q) : ∃ b, cmpV o v w = some (.bl b) /\ Run S X σ B φ H Rel (k b) Q := by
  cases e : cmpV o v w with
  | none => rw [e] at h; exact h.elim
  | some z =>
    obtain ⟨b, rfl⟩ := cmpV_bl e
    rw [e] at h
    exact ⟨b, rfl, h⟩
theorem se_chain {op op' : CmpOp} {o p : COp} (ho : OpR X (compareOp op) (rT2 S X (cmpV o))) (ho' : OpR X (compareOp op') (rT2 S X (cmpV p))) (ha : PE X a (tE S X ca)) (hb : PE X b (tE S X cb)) (hc : PE X c (tE S X cc))
    (hm : lastMarks [op, op'] [b, c] = false := by with_unfolding_all rfl) : PE X (.Compare a [op, op'] [b, c] pos) (tE S X (.chain o p ca cb cc)) :=
  (pe_chain ho ho' ha hb hc hm).imp fun σ H Q ⟨B, φ, st, ρ, rs, re, h⟩ => by
    simp only [ev] at h
    refine tE.bind rs re h fun x H1 v st1 φ1 s1 rs1 re1 rv h1 => tE.bind rs1 re1 h1 fun y H2 w st2 φ2 s2 rs2 re2 rw h2 => ?_
    obtain ⟨k, e, h2⟩ := cmp_run h2
    refine ⟨B, φ2, st2, v, w, .bl k, rs2, rv.step s2, rw, e, fun z' H' φ' s' rs' rz => ?_⟩
    simp only [RepV] at rz
    refine ⟨k, rz, ?_⟩
    cases k with
    | false => exact h2 _ H' φ' s' rs' (by simp only [RepV])
    | true =>
      refine tE.bind rs' (re2.step s') (Run.on s' h2) fun z H3 v3 st3 φ3 s3 rs3 re3 rv3 h3 => ?_
      obtain ⟨q, eq, hq⟩ := toR_run h3 rs3
      exact ⟨B, φ3, st3, w, v3, q, rs3, (rw.step s').step s3, rv3, eq, hq⟩
theorem se_chain_k {op op' : CmpOp} {o p : COp} (ho : OpR X (compareOp op) (rT2 S X (cmpV o))) (ho' : OpR X (compareOp op') (rT2 S X (cmpV p))) (ha : KqE X a (tE S X ca)) (hb : KqE X b (tE S X cb)) (hc : KqE X c (tE S X cc))
    (hm : lastMarks [op, op'] [b, c] = false := by with_unfolding_all rfl) : KqE X (.Compare a [op, op'] [b, c] pos) (tE S X (.chain o p ca cb cc)) := by with_unfolding_all exact se_chain ho ho' ha hb hc hm
theorem RepL.at {vs : List PV} {xs : List V} {i : Int} {v : PV} (l : RepL K cl B φ H vs xs) (h : at? vs i = some v) : ∃ x, atI xs i = some x /\ RepV K cl B φ H v x := by
  unfold at? at h
  rw [l.length] at h
  unfold atI
  cases e : ixI xs.length i with
  | none => rw [e] at h; cases h
  | some j =>
    rw [e] at h
    have e' : ixN xs.length i = some j := e
    rw [e']
    exact l.get j h
theorem RepS.list {n : Nat} {vs : List PV} {x : V} (rs : RepS K cl B φ H st) (r : RepV K cl B φ H (.loc n) x) (h : st[n]? = some (.lst vs)) : ∃ a xs, x = .ref a /\ φ[n]? = some (some a) /\ H a = some (.lst xs) /\ RepL K cl B φ H vs xs := by
  simp only [RepV] at r
  obtain ⟨hn, a, rfl, ha⟩ := r
  obtain ⟨b, hb⟩ := rs.liv n _ h (by intro z; cases z)
  obtain rfl := ha b hb
  obtain ⟨o, ho, ro⟩ := rs.obj n b hb
  rw [h] at ho; cases ho
  obtain ⟨xs, hx, l⟩ := ro
  exact ⟨b, xs, rfl, hb, hx, l⟩
noncomputable def rTS (S : Se) (X : Cx) (f : Store -> PV -> PV -> Option PV) : R2 := fun x y H Q => ∃ B φ st v w z, RepS X.K S.cl B φ H st /\ RepV X.K S.cl B φ H v x /\ RepV X.K S.cl B φ H w y /\ f st v w = some z /\
  ∀ z' H' φ', Step φ H φ' H' -> RepS X.K S.cl B φ' H' st -> RepV X.K S.cl B φ' H' z z' -> Q z' H'
theorem idxI_int {α : Type} {xs : List α} {i : PV} {z : α} (h : idxI xs i = some z) : ∃ k, i = .int k /\ at? xs k = some z := by
  cases i with
  | int k => exact ⟨k, rfl, h⟩
  | _ => cases h
theorem ix_core : IxR X (rTS S X idxV) := by
  rintro value slice pins s σ H x y v u Q I rx ry ⟨B, φ, st, a, i, z, rs, ra, ri, e, q⟩ hs
  cases a with
  | tp k vs =>
    obtain ⟨k, rfl, e⟩ := idxI_int e
    simp only [RepV] at ra ri
    subst ri
    obtain ⟨p, xs, rfl, rt, l⟩ := ra
    obtain ⟨w, e1, rw⟩ := l.at e
    exact ix_seq value slice pins s σ H _ _ v u Q I rx ry (.inr (.inl ⟨p, xs, k, w, rfl, rfl, rt.sq, e1, q w H φ .rfl rs rw⟩)) hs
  | lst vs =>
    obtain ⟨k, rfl, e⟩ := idxI_int e
    simp only [RepV] at ra ri
    subst ri
    obtain ⟨p, xs, rfl, rt, l⟩ := ra
    obtain ⟨w, e1, rw⟩ := l.at e
    exact ix_seq value slice pins s σ H _ _ v u Q I rx ry (.inl ⟨p, xs, k, w, rfl, rfl, rt.sq, e1, q w H φ .rfl rs rw⟩) hs
  | loc n =>
    simp only [idxV] at e
    split at e
    · rename_i vs h1
      obtain ⟨k, rfl, e⟩ := idxI_int e
      simp only [RepV] at ri
      subst ri
      obtain ⟨p, xs, rfl, _, hx, l⟩ := rs.list ra h1
      obtain ⟨w, e1, rw⟩ := l.at e
      exact ix_seq value slice pins s σ H _ _ v u Q I rx ry (.inl ⟨p, xs, k, w, rfl, rfl, .of hx, e1, q w H φ .rfl rs rw⟩) hs
    · cases e
  | str t =>
    simp only [idxV] at e
    split at e
    · rename_i hl
      cases e1 : idxI t.cps.toList i with
      | none => rw [e1] at e; cases e
      | some c =>
        rw [e1] at e
        cases e
        obtain ⟨k, rfl, e1⟩ := idxI_int e1
        simp only [RepV] at ra ri
        subst ra ri
        exact ix_seq value slice pins s σ H _ _ v u Q I rx ry (.inr (.inr ⟨t, k, c, rfl, rfl, by rw [<- sizeMax_eq]; exact hl, e1, q _ H φ .rfl rs (by simp only [RepV])⟩)) hs
    · cases e
  | _ => cases e
theorem se_idx (ha : PE X a (tE S X ca)) (hb : PE X b (tE S X cb)) (hs : PlainIx b := by exact fun _ _ => rfl) : PE X (.Subscript a b pos) (tE S X (.idx ca cb)) :=
  (pe_ix ix_core ha hb hs).imp fun σ H Q ⟨B, φ, st, ρ, rs, re, h⟩ => by
    simp only [ev] at h
    refine tE.bind rs re h fun x H1 v st1 φ1 s1 rs1 re1 rv h1 => tE.bind rs1 re1 h1 fun y H2 w st2 φ2 s2 rs2 re2 rw h2 => ?_
    obtain ⟨z, e, q⟩ := toR_run h2 rs2
    exact ⟨B, φ2, st2, v, w, z, rs2, rv.step s2, rw, e, q⟩
theorem se_idx_k (ha : KqE X a (tE S X ca)) (hb : KqE X b (tE S X cb)) (hs : PlainIx b := by exact fun _ _ => rfl) : KqE X (.Subscript a b pos) (tE S X (.idx ca cb)) := by with_unfolding_all exact se_idx ha hb hs
theorem RepL.cut {vs : List PV} {xs : List V} (lo hi : Option Int) (l : RepL K cl B φ H vs xs) : RepL K cl B φ H (IC.cut vs lo hi) (cutV xs lo hi) := by
  have e1 : ∀ n o, loOf n o = HT.sIx n 0 o := fun n o => by cases o <;> rfl
  have e2 : ∀ n o, hiOf n o = HT.sIx n n o := fun n o => by cases o <;> rfl
  unfold IC.cut cutV
  rw [l.length, e1, e2]
  exact (l.drop _).take _
noncomputable def tO (S : Se) (X : Cx) (c : Ce) : TO := fun σ H Q => tE S X c σ H fun x H1 => (x = .non /\ Q none H1) \/ ∃ i, x = .int i /\ Q (some i) H1
theorem so_none : PO X none (tO S X (.cst .non)) := fun pins s σ H Q I h => by
  refine po_none pins s σ H Q I ?_
  obtain ⟨B, φ, st, ρ, rs, re, h⟩ := h
  simp only [ev] at h
  rcases h.ok rs (x := V.non) (by simp only [RepV]) with q | ⟨i, z, _⟩
  · exact q.2
  · cases z
theorem so_none_k : KqO X none (tO S X (.cst .non)) := by with_unfolding_all exact so_none
theorem so_some (ha : PE X a (tE S X ca)) : PO X (some a) (tO S X ca) := by
  intro pins s σ H Q I hw
  rw [evalPart_some]
  refine thn (ha pins s σ H _ I hw) fun u s1 ⟨x, H1, I1, r1, q1⟩ => ?_
  rcases q1 with ⟨rfl, q⟩ | ⟨i, rfl, q⟩
  · cases r1
    exact ⟨none, H1, I1, .none, q⟩
  · obtain ⟨t, rfl⟩ := r1
    exact ⟨some i, H1, I1, .int i t, q⟩
theorem so_some_k (ha : KqE X a (tE S X ca)) : KqO X (some a) (tO S X ca) := by with_unfolding_all exact so_some ha
noncomputable def rSl (S : Se) (X : Cx) : V -> Option Int -> Option Int -> Hp -> VK -> Prop := fun x lo hi H Q => ∃ B φ st v z, RepS X.K S.cl B φ H st /\ RepV X.K S.cl B φ H v x /\ slcO v lo hi = some z /\
  ∀ z' H' φ', Step φ H φ' H' -> RepS X.K S.cl B φ' H' st -> RepV X.K S.cl B φ' H' z z' -> Q z' H'
theorem getItem_tuple_whole {prog : Program} {w : World} {A : Around} {E : Value -> Shared -> Prop} {s : Shared} {t sl : Addr} {items : Array Value} {vl vu : Value} {lo hi : Option Int} {Q : Value -> Shared -> Prop} (ht : IsTup s.heap t items) (hs : s.heap.IsSliceOf sl vl vu .none) (pl : IsPart vl lo) (pu : IsPart vu hi)
    (hw : HT.sIx items.size 0 lo = 0 /\ HT.sIx items.size items.size hi = items.size)
    (h : Q (.ref t) s) : wpAny (model prog w) A (getItem (.ref t) (.ref sl)) Q E s := by
  obtain ⟨os, hos, hcs, hds⟩ := id hs
  have hTs : s.TypeIs (.ref sl) "slice" := ⟨os, hos, hcs⟩
  unfold getItem
  try with_reducible refine wpAny_holding ?_
  first | refine wpAny_bind (wpAny_pure ?_) | skip
  refine wpAny_bind (wpAny_sequenceKey ht.typeIs (by decide) ?_)
  refine wpAny_bind (wpAny_callSpecial?_slot (name := Str.ofString "__getitem__") ht.typeIs PyProof.Rows.slot_tuple_getitem
    (wpAny_call_entry PyProof.Rows.slot_tuple_getitem ht.typeIs entry_tuple_getitem ?_ (args_tuple_getitem _ _)))
  show wpAny _ _ (Builtin.Tuple.tupleItemsOf (.ref t) >>= _) _ _ s
  refine wpAny_bind (PyProof.Rows.tupleItemsOf_ ht ?_)
  refine wpAny_bind (wpAny_typeOf hTs ?_)
  rw [if_pos (by decide)]
  refine wpAny_bind (HT.sliceApplied_gen hs pl pu ?_)
  have hyes : (((HT.sIx items.size 0 lo : Nat) : Int) == 0 && (1 : Int) == 1 && (HT.sIx items.size items.size hi - HT.sIx items.size 0 lo) == items.size) = true := by
    rw [hw.1, hw.2]
    simp
  show wpAny _ _ (if (((HT.sIx items.size 0 lo : Nat) : Int) == 0 && (1 : Int) == 1 && (HT.sIx items.size items.size hi - HT.sIx items.size 0 lo) == items.size) = true then _ else _) _ _ s
  rw [if_pos hyes]
  refine wpAny_bind (wpAny_bind (wpAny_typeOf ht.typeIs (wpAny_pure ?_)))
  rw [if_pos (by decide)]
  first
    | exact wpAny_bind (wpAny_pure (wpAny_pure ⟨_, rfl, wpAny_pure h⟩))
    | exact wpAny_bind (wpAny_rule (wpAny_pure ⟨_, rfl, wpAny_pure h⟩))
    | (wp_step; wp_step; exact ⟨_, rfl, wpAny_pure h⟩)
noncomputable def rSlW (K : PySem.W.Frag) : V -> Option Int -> Option Int -> Hp -> VK -> Prop := fun x lo hi H Q => ∃ a xs, x = .ref a /\ SqT K H a xs /\
  (HT.sIx xs.length 0 lo = 0 /\ HT.sIx xs.length xs.length hi = xs.length) /\ Q (.ref a) H
theorem sl_whole : SlR X (rSlW X.K) := by
  intro pins s σ H x v vl vu lo hi sl Q I rx hs pl pu h
  obtain ⟨a, xs, rfl, hx, hw, q⟩ := h
  cases rx
  obtain ⟨its, r, ht, hz⟩ := I.tuple hx
  have hlen : its.toArray.size = xs.length := by rw [List.size_toArray]; exact r.length.symm
  refine ⟨"tuple", _, PyProof.Rows.slot_tuple_getitem.lookup, ht.typeIs, ?_⟩
  exact getItem_tuple_whole ht hs pl pu (by rw [hlen]; exact hw) ⟨.ref a, H, I, rfl, q⟩
noncomputable def rSlS : V -> Option Int -> Option Int -> Hp -> VK -> Prop := fun x lo hi H Q => ∃ y : Str, x = .str y /\ y.length <= sizeLine /\ Q (.str ⟨((y.cps.toList.drop (HT.sIx y.cps.toList.length 0 lo)).take (HT.sIx y.cps.toList.length y.cps.toList.length hi - HT.sIx y.cps.toList.length 0 lo)).toArray⟩) H
theorem sIdx (lo hi : Option Int) (n : Nat) : Builtin.Str.strSliceIndices lo hi 1 n = sliceRange ((HT.sIx n 0 lo : Nat) : Int) ((HT.sIx n n hi : Nat) : Int) 1 := by
  unfold Builtin.Str.strSliceIndices
  simp only [show (1 : Int) > 0 by decide, if_true]
  congr 1
  · cases lo with
    | none => simp [HT.sIx]
    | some i =>
      simp only [HT.sIx]
      by_cases h : i < 0
      · simp only [h, if_true] <;> omega
      · simp only [h, if_false] <;> omega
  · cases hi with
    | none => simp [HT.sIx]
    | some i =>
      simp only [HT.sIx]
      by_cases h : i < 0
      · simp only [h, if_true] <;> omega
      · simp only [h, if_false] <;> omega
theorem slice_cut (y : Str) (lo hi : Option Int) : Txt.slice y lo hi = ⟨((y.cps.toList.drop (HT.sIx y.cps.toList.length 0 lo)).take (HT.sIx y.cps.toList.length y.cps.toList.length hi - HT.sIx y.cps.toList.length 0 lo)).toArray⟩ := by
  have hn : y.length = y.cps.toList.length := by simp [Str.length]
  unfold Txt.slice
  rw [sIdx, hn, sliceRange_one]
  have ha := HT.sIx_le y.cps.toList.length 0 (Nat.zero_le _) lo
  have hb := HT.sIx_le y.cps.toList.length y.cps.toList.length (Nat.le_refl _) hi
  generalize HT.sIx y.cps.toList.length 0 lo = a at *
  generalize HT.sIx y.cps.toList.length y.cps.toList.length hi = b at *
  split
  · rename_i c
    simp only [List.length_map, List.length_range, Bool.and_eq_true, beq_iff_eq] at c
    obtain ⟨rfl, rfl⟩ : a = 0 /\ b = y.cps.toList.length := by omega
    rw [List.drop_zero, Nat.sub_zero, List.take_length]
  · rw [pick_run]
theorem sl_strC : SlR X rSlS := by
  intro pins s σ H x v vl vu lo hi sl Q I rx hs pl pu h
  obtain ⟨y, rfl, hz, q⟩ := h
  obtain ⟨t, rfl⟩ := rx
  rw [<- slice_cut] at q
  refine ⟨"str", _, PySem.F.slot_str_getitem.lookup, typeIs_str _ _ _, ?_⟩
  have go : ∀ l u : Option (Int × Tok), vl = partValue l -> vu = partValue u -> lo = l.map (·.1) -> hi = u.map (·.1) -> wpAny (model X.prog X.w) X.A (getItem (.str y t) (.ref sl)) (EP X pins σ Q) X.xe s := by
    rintro l u rfl rfl rfl rfl
    refine wpAny_getItem_str_slice (l := l) (u := u) (st := none) hs rfl ?_
    exact post_val_or_str ⟨Nat.le_trans (Txt.slice_le y _ _) hz, fun t' k => ⟨.str _, H, I.tok k, ⟨_, rfl⟩, q⟩⟩
  cases pl with
  | none =>
    cases pu with
    | none => exact go none none rfl rfl rfl rfl
    | int j u => exact go none (some (j, u)) rfl rfl rfl rfl
  | int i t1 =>
    cases pu with
    | none => exact go (some (i, t1)) none rfl rfl rfl rfl
    | int j u => exact go (some (i, t1)) (some (j, u)) rfl rfl rfl rfl
theorem sl_core : SlR X (rSl S X) := by
  rintro pins s σ H x v vl vu lo hi sl Q I rx hs pl pu ⟨B, φ, st, w, z, rs, rw, e, q⟩
  have e1 : ∀ n o, loOf n o = HT.sIx n 0 o := fun n o => by cases o <;> rfl
  have e2 : ∀ n o, hiOf n o = HT.sIx n n o := fun n o => by cases o <;> rfl
  cases w with
  | tp k vs =>
    simp only [slcO] at e
    split at e
    · rename_i c
      cases e
      have rw' := rw
      simp only [RepV] at rw
      obtain ⟨p, xs, rfl, rt, l⟩ := rw
      refine sl_whole pins s σ H _ v vl vu lo hi sl Q I rx hs pl pu ⟨p, xs, rfl, rt.sq, ?_, q _ H φ .rfl rs rw'⟩
      rw [l.length, e1, e2] at c
      exact c
    · rename_i c
      cases e
      simp only [RepV] at rw
      obtain ⟨p, xs, rfl, rt, l⟩ := rw
      refine sl_tup pins s σ H _ v vl vu lo hi sl Q I rx hs pl pu ⟨p, xs, rfl, rt.sq, ?_, fun t ht => q _ _ φ (.upd ht) (rs.upd ht) (.tup_new ht rs (l.cut lo hi))⟩
      rw [l.length, e1, e2] at c
      exact c
  | str y =>
    simp only [slcO] at e
    split at e
    · rename_i c
      cases e
      simp only [RepV] at rw
      subst rw
      refine sl_strC pins s σ H _ v vl vu lo hi sl Q I rx hs pl pu ⟨y, rfl, by rw [<- sizeMax_eq]; exact c, ?_⟩
      have := q (.str ⟨(cut y.cps.toList lo hi).toArray⟩) H φ .rfl rs (by simp only [RepV])
      rw [cut, e1, e2] at this
      exact this
    · cases e
  | lst vs =>
    simp only [slcO] at e
    cases e
    simp only [RepV] at rw
    obtain ⟨p, xs, rfl, rt, l⟩ := rw
    exact sl_list pins s σ H _ v vl vu lo hi sl Q I rx hs pl pu ⟨p, xs, rfl, rt.sq, fun t ht => q _ _ φ (.upd ht) (rs.upd ht) (.lst_new ht rs (l.cut lo hi))⟩
  | scr vs =>
    simp only [slcO] at e
    cases e
    simp only [RepV] at rw
    obtain ⟨p, xs, rfl, rt, l⟩ := rw
    exact sl_list pins s σ H _ v vl vu lo hi sl Q I rx hs pl pu ⟨p, xs, rfl, (by rcases rt with rt | rt; exact .inl rt.1; exact .inr rt), fun t ht => q _ _ φ (.upd ht) (rs.upd ht) (.lst_new ht rs (l.cut lo hi))⟩
  | _ => cases e
theorem se_slc {lo hi : Option Expr} (ha : PE X a (tE S X ca)) (hl : PO X lo (tO S X cb)) (hh : PO X hi (tO S X cc)) : PE X (.Subscript a (.Slice lo hi none p2) pos) (tE S X (.slc ca cb cc)) :=
  (pe_slice sl_core ha hl hh).imp fun σ H Q ⟨B, φ, st, ρ, rs, re, h⟩ => by
    simp only [ev] at h
    have oi : ∀ {v : PV} {x : V} {o : Option Int} {B φ H}, RepV X.K S.cl B φ H v x -> optI v = some o -> (x = .non /\ o = none) \/ ∃ i, x = .int i /\ o = some i := fun {v x o B φ H} r e => by
      cases v with
      | non => simp only [RepV] at r; cases e; exact .inl ⟨r, rfl⟩
      | int i => simp only [RepV] at r; cases e; exact .inr ⟨i, r, rfl⟩
      | _ => cases e
    refine tE.bind rs re h fun x H1 v st1 φ1 s1 rs1 re1 rv h1 => tE.bind rs1 re1 h1 fun y H2 w st2 φ2 s2 rs2 re2 rw h2 => ?_
    cases eo : optI w with
    | none => rw [eo] at h2; exact h2.elim
    | some o1 =>
      rw [eo] at h2
      have key : tO S X cc σ H2 fun u H3 => rSl S X x o1 u H3 Q := by
        refine tE.bind rs2 re2 h2 fun y' H3 w' st3 φ3 s3 rs3 re3 rw' h3 => ?_
        obtain ⟨z, e, q⟩ := toR_run h3 rs3
        unfold slcV at e
        cases eo' : optI w' with
        | none => rw [eo'] at e; cases e
        | some o2 =>
          rw [eo'] at e
          have fin : rSl S X x o1 o2 H3 Q := ⟨B, φ3, st3, v, z, rs3, (rv.step s2).step s3, e, q⟩
          rcases oi rw' eo' with ⟨rfl, rfl⟩ | ⟨i, rfl, rfl⟩
          · exact .inl ⟨rfl, fin⟩
          · exact .inr ⟨i, rfl, fin⟩
      rcases oi rw eo with ⟨rfl, rfl⟩ | ⟨i, rfl, rfl⟩
      · exact .inl ⟨rfl, key⟩
      · exact .inr ⟨i, rfl, key⟩
theorem se_slc_k {lo hi : Option Expr} (ha : KqE X a (tE S X ca)) (hl : KqO X lo (tO S X cb)) (hh : KqO X hi (tO S X cc)) : KqE X (.Subscript a (.Slice lo hi none p2) pos) (tE S X (.slc ca cb cc)) := by with_unfolding_all exact se_slc ha hl hh
end
end L2
namespace L2
open PySem PySem.Spec PyProof.Rows IC
section
variable {S : Se} {X : Cx} {σ : St} {B : Addr -> Prop} {φ φ1 : Ph} {H H1 : Hp} {st : Store} {ρ : IC.Env} {p pos p2 : Pos} {a b c d : Expr} {ca cb cc : Ce} {es : List Expr} {ces : Ces} {K : PySem.W.Frag} {cl : Nat -> Addr}
noncomputable def rB (S : Se) (X : Cx) (k : Blt) : List V -> Hp -> VK -> Prop := fun xs H Q => ∃ B φ st vs z, RepS X.K S.cl B φ H st /\ RepL X.K S.cl B φ H vs xs /\ bltV k st vs = some z /\
  ∀ z' H' φ', Step φ H φ' H' -> RepS X.K S.cl B φ' H' st -> RepV X.K S.cl B φ' H' z z' -> Q z' H'
theorem RepL.one {v : PV} {xs : List V} (l : RepL K cl B φ H [v] xs) : ∃ x, xs = [x] /\ RepV K cl B φ H v x := by
  simp only [RepL] at l
  obtain ⟨y, ys, rfl, r, rfl⟩ := l
  exact ⟨y, rfl, r⟩
theorem RepL.two {v w : PV} {xs : List V} (l : RepL K cl B φ H [v, w] xs) : ∃ x y, xs = [x, y] /\ RepV K cl B φ H v x /\ RepV K cl B φ H w y := by
  simp only [RepL] at l
  obtain ⟨y, ys, rfl, r, z, zs, rfl, r2, rfl⟩ := l
  exact ⟨y, z, rfl, r, r2⟩
theorem blt_one {k : Blt} {st : Store} {vs : List PV} {z : PV} (h : bltV k st vs = some z) (h2 : ∀ x y, bltV k st [x, y] = none) : ∃ x, vs = [x] := by
  match vs, h with
  | [x], _ => exact ⟨x, rfl⟩
  | [x, y], h => rw [h2] at h; cases h
theorem lst_of {v : PV} {x : V} {vs : List PV} (rs : RepS K cl B φ H st) (r : RepV K cl B φ H v x) (h : lstOf st v = some vs) : ∃ a xs, x = .ref a /\ SqL K H a xs /\ RepL K cl B φ H vs xs := by
  cases v with
  | lst ws =>
    cases h
    simp only [RepV] at r
    obtain ⟨a, xs, rfl, rt, l⟩ := r
    exact ⟨a, xs, rfl, rt.sq, l⟩
  | loc n =>
    simp only [lstOf] at h
    split at h
    · rename_i ws hw
      cases h
      obtain ⟨a, xs, rfl, _, hx, l⟩ := rs.list r hw
      exact ⟨a, xs, rfl, .of hx, l⟩
    · cases h
  | _ => cases h
theorem seq_of {v : PV} {x : V} {vs : List PV} (rs : RepS K cl B φ H st) (r : RepV K cl B φ H v x) (h : seqOf st v = some vs) : ∃ a xs, x = .ref a /\ (SqL K H a xs \/ SqT K H a xs) /\ RepL K cl B φ H vs xs := by
  cases v with
  | tp k ws =>
    cases h
    simp only [RepV] at r
    obtain ⟨a, xs, rfl, rt, l⟩ := r
    exact ⟨a, xs, rfl, .inr rt.sq, l⟩
  | lst ws =>
    obtain ⟨a, xs, e, q, l⟩ := lst_of rs r (vs := vs) h
    exact ⟨a, xs, e, .inl q, l⟩
  | loc n =>
    obtain ⟨a, xs, e, q, l⟩ := lst_of rs r (vs := vs) h
    exact ⟨a, xs, e, .inl q, l⟩
  | _ => cases h
theorem cb_len : CallR X (.builtin "len") (rB S X .len) := by
  rintro pins s σ H xs us Q I r ⟨B, φ, st, vs, z, rs, l, e, q⟩
  obtain ⟨v, rfl⟩ := blt_one e fun _ _ => rfl
  obtain ⟨x, rfl, rv⟩ := l.one
  simp only [bltV, lenV] at e
  split at e
  · rename_i t
    split at e
    · rename_i c
      cases e
      simp only [RepV] at rv
      subst rv
      exact call_len_str pins s σ H _ us Q I r ⟨t, rfl, by rw [<- sizeMax_eq]; exact c, q _ H φ .rfl rs (by simp only [RepV])⟩
    · cases e
  · cases e1 : seqOf st v with
    | none => rw [e1] at e; cases e
    | some ws =>
      rw [e1] at e
      cases e
      obtain ⟨a, ys, rfl, h, l⟩ := seq_of rs rv e1
      refine call_len_seq pins s σ H _ us Q I r ⟨a, ys, rfl, ?_, q _ H φ .rfl rs (by simp only [RepV]; rw [l.length])⟩
      exact h
theorem blt_two {k : Blt} {st : Store} {vs : List PV} {z : PV} (h : bltV k st vs = some z) (h2 : ∀ x, bltV k st [x] = none) : ∃ x y, vs = [x, y] := by
  match vs, h with
  | [x, y], _ => exact ⟨x, y, rfl⟩
  | [x], h => rw [h2] at h; cases h
theorem cb_min (hc : X.calm = true) : CallR X (.builtin "min") (rB S X .min) := by
  rintro pins s σ H xs us Q I r ⟨B, φ, st, vs, z, rs, l, e, q⟩
  obtain ⟨v, w, rfl⟩ := blt_two e fun _ => rfl
  obtain ⟨x, y, rfl, rv, rw⟩ := l.two
  simp only [bltV, minV] at e
  split at e
  · cases e
    simp only [RepV] at rv rw
    subst rv rw
    exact call_min2 hc pins s σ H _ us Q I r ⟨_, _, rfl, q _ H φ .rfl rs (by simp only [RepV])⟩
  · cases e
theorem RepL.ints : ∀ {ns : List Int} {xs : List V}, RepL K cl B φ H (ns.map .int) xs -> xs = ns.map V.int
  | [], xs, h => by simpa only [List.map_nil, RepL] using h
  | n :: ns, xs, h => by
    simp only [List.map_cons, RepL] at h
    obtain ⟨y, ys, rfl, r, l⟩ := h
    simp only [RepV] at r
    rw [r, RepL.ints l]
    rfl
theorem RepL.bls : ∀ {ns : List Bool} {xs : List V}, RepL K cl B φ H (ns.map .bl) xs -> xs = ns.map V.bl
  | [], xs, h => by simpa only [List.map_nil, RepL] using h
  | n :: ns, xs, h => by
    simp only [List.map_cons, RepL] at h
    obtain ⟨y, ys, rfl, r, l⟩ := h
    simp only [RepV] at r
    rw [r, RepL.bls l]
    rfl
theorem cb_tuple : CallR X (.type "tuple") (rB S X .tuple) := by
  rintro pins s σ H xs us Q I r ⟨B, φ, st, vs, z, rs, l, e, q⟩
  obtain ⟨v, rfl⟩ := blt_one e fun _ _ => rfl
  obtain ⟨x, rfl, rv⟩ := l.one
  simp only [bltV, tupV] at e
  split at e
  · cases e
    simp only [RepV] at rv
    obtain ⟨a, ys, rfl, rt, l⟩ := rv
    exact call_tuple_of pins s σ H _ us Q I r ⟨a, ys, rfl, .inr ⟨rt.sq, q _ H φ .rfl rs (by simp only [RepV]; exact ⟨a, ys, rfl, rt, l⟩)⟩⟩
  · cases e1 : lstOf st v with
    | none => rw [e1] at e; cases e
    | some ws =>
      rw [e1] at e
      cases e
      obtain ⟨a, ys, rfl, h, l⟩ := lst_of rs rv e1
      exact call_tuple_of pins s σ H _ us Q I r ⟨a, ys, rfl, .inl ⟨h, fun t ht => q _ _ φ (.upd ht) (rs.upd ht) (.tup_new ht rs l)⟩⟩
theorem cb_list : CallR X (.type "list") (rB S X .list) := by
  rintro pins s σ H xs us Q I r ⟨B, φ, st, vs, z, rs, l, e, q⟩
  obtain ⟨v, rfl⟩ := blt_one e fun _ _ => rfl
  obtain ⟨x, rfl, rv⟩ := l.one
  simp only [bltV] at e
  cases e1 : seqOf st v with
  | none => rw [e1] at e; cases e
  | some ws =>
    rw [e1] at e
    cases e
    obtain ⟨a, ys, rfl, h, l⟩ := seq_of rs rv e1
    refine call_list_of pins s σ H _ us Q I r ⟨a, ys, rfl, ?_, fun t ht => q _ _ φ (.upd ht) (rs.upd ht) (.lst_new ht rs l)⟩
    exact h
theorem all_ok : ∀ {vs : List PV} {m : Bool}, IC.allB vs = some m -> ∃ ns : List Bool, vs = ns.map .bl /\ m = ns.all id
  | [], m, h => by cases h; exact ⟨[], rfl, rfl⟩
  | .bl i :: r, m, h => by
    simp only [IC.allB] at h
    split at h
    · rename_i c e
      cases h
      obtain ⟨ns, e1, e2⟩ := all_ok e
      exact ⟨i :: ns, by rw [e1]; rfl, by rw [e2]; rfl⟩
    · cases h
  | .non :: r, m, h => by cases h
  | .int _ :: r, m, h => by cases h
  | .str _ :: r, m, h => by cases h
  | .tp _ _ :: r, m, h => by cases h
  | .lst _ :: r, m, h => by cases h
  | .loc _ :: r, m, h => by cases h
  | .exn _ :: r, m, h => by cases h
  | .scr _ :: r, m, h => by cases h
theorem cb_all (hc : X.calm = true) : CallR X (.builtin "all") (rB S X .all) := by
  rintro pins s σ H xs us Q I r ⟨B, φ, st, vs, z, rs, l, e, q⟩
  obtain ⟨v, rfl⟩ := blt_one e fun _ _ => rfl
  obtain ⟨x, rfl, rv⟩ := l.one
  simp only [bltV] at e
  cases e1 : lstOf st v with
  | none => rw [e1] at e; cases e
  | some ws =>
    rw [e1] at e
    simp only [Option.bind_some] at e
    cases e2 : IC.allB ws with
    | none => rw [e2] at e; cases e
    | some m =>
      rw [e2] at e
      cases e
      obtain ⟨ns, rfl, rfl⟩ := all_ok e2
      obtain ⟨a, ys, rfl, h, l⟩ := lst_of rs rv e1
      rw [l.bls] at h
      exact call_all hc pins s σ H _ us Q I r ⟨a, ns, rfl, h, q _ H φ .rfl rs (by simp only [RepV])⟩
variable {x : Str} {id T : String} {k : Blt}
theorem se_blt (hc : CallR X (.builtin id) (rB S X k)) (hg : Gl X x) (hm : X.mg x = none) (hv : bootBuiltins x = some (.builtin id)) (ha : PA X (a :: es) (tAs S X ces)) (hn : x ≠ "__name__" := by decide) (hdb : (x == ("__debug__" : Str)) = false := by decide)
    (he : starEach (a :: es) X.env = (false, eval a X.env) :: starEach es X.env := by rfl) (hpl : (backTo pos (starEach es X.env)).any (·.1) = false := by rfl) : PE X (.Call (.Name x p) (a :: es) [] pos) (tE S X (.blt k ces)) :=
  (pe_callB hc hg hm hv ha hn hdb he hpl).imp fun σ H Q ⟨B, φ, st, ρ, rs, re, h⟩ => by
    simp only [ev] at h
    refine tAs.bind rs re h fun xs H1 vs st1 φ1 s1 rs1 re1 rv h1 => ?_
    obtain ⟨z, e, q⟩ := toR_run h1 rs1
    exact ⟨B, φ1, st1, vs, z, rs1, rv, e, q⟩
theorem se_blt_k (hc : CallR X (.builtin id) (rB S X k)) (hg : Gl X x) (hm : X.mg x = none) (hv : bootBuiltins x = some (.builtin id)) (ha : KqA X (a :: es) (tAs S X ces)) (hn : x ≠ "__name__" := by decide) (hdb : (x == ("__debug__" : Str)) = false := by decide)
    (he : starEach (a :: es) X.env = (false, eval a X.env) :: starEach es X.env := by rfl) (hpl : (backTo pos (starEach es X.env)).any (·.1) = false := by rfl) : KqE X (.Call (.Name x p) (a :: es) [] pos) (tE S X (.blt k ces)) := by with_unfolding_all exact se_blt hc hg hm hv ha hn hdb he hpl
theorem se_bltT (hc : CallR X (.type T) (rB S X k)) (hg : Gl X x) (hm : X.mg x = none) (hv : bootBuiltins x = some (.type T)) (ha : PA X (a :: es) (tAs S X ces)) (hn : x ≠ "__name__" := by decide) (hdb : (x == ("__debug__" : Str)) = false := by decide)
    (he : starEach (a :: es) X.env = (false, eval a X.env) :: starEach es X.env := by rfl) (hpl : (backTo pos (starEach es X.env)).any (·.1) = false := by rfl) : PE X (.Call (.Name x p) (a :: es) [] pos) (tE S X (.blt k ces)) :=
  (pe_callTy hc hg hm hv ha hn hdb he hpl).imp fun σ H Q ⟨B, φ, st, ρ, rs, re, h⟩ => by
    simp only [ev] at h
    refine tAs.bind rs re h fun xs H1 vs st1 φ1 s1 rs1 re1 rv h1 => ?_
    obtain ⟨z, e, q⟩ := toR_run h1 rs1
    exact ⟨B, φ1, st1, vs, z, rs1, rv, e, q⟩
theorem se_bltT_k (hc : CallR X (.type T) (rB S X k)) (hg : Gl X x) (hm : X.mg x = none) (hv : bootBuiltins x = some (.type T)) (ha : KqA X (a :: es) (tAs S X ces)) (hn : x ≠ "__name__" := by decide) (hdb : (x == ("__debug__" : Str)) = false := by decide)
    (he : starEach (a :: es) X.env = (false, eval a X.env) :: starEach es X.env := by rfl) (hpl : (backTo pos (starEach es X.env)).any (·.1) = false := by rfl) : KqE X (.Call (.Name x p) (a :: es) [] pos) (tE S X (.blt k ces)) := by with_unfolding_all exact se_bltT hc hg hm hv ha hn hdb he hpl
end
end L2
namespace L2
open PySem PySem.Spec PyProof.Rows IC
section
variable {S : Se} {X : Cx} {σ : St} {B : Addr -> Prop} {φ φ1 : Ph} {H H1 : Hp} {st : Store} {ρ : IC.Env} {p pos p2 apos : Pos} {a b c d : Expr} {ca cb cc : Ce} {es : List Expr} {ces : Ces} {K : PySem.W.Frag} {cl : Nat -> Addr}
theorem Step.put {l : Addr} {u : HO} (hl : some l ∈ φ) : Step φ H φ (L2.upd H l u) :=
  ⟨fun b o n e => by rw [upd_ne (show b ≠ l from fun z => n (by rw [z]; exact hl))]; exact e, Nat.le_refl _, fun _ _ _ e => e, fun _ h => .inl h⟩
theorem RepS.put {n : Nat} {l : Addr} {u : HO} {o : Ob} (rs : RepS K cl B φ H st) (hn : φ[n]? = some (some l)) (ho : RepO K cl B φ (L2.upd H l u) o l) : RepS K cl B φ (L2.upd H l u) (st.set n o) := by
  have hm : some l ∈ φ := List.mem_of_getElem? hn
  have s : Step φ H φ (L2.upd H l u) := .put hm
  have hlt : n < st.length := by rw [<- rs.len]; exact (List.getElem?_eq_some_iff.mp hn).1
  refine ⟨by rw [List.length_set]; exact rs.len, rs.inj, fun m a e => ?_, fun m o' e ho' => ?_, rs.nb, fun a h => ?_⟩
  · by_cases hmn : m = n
    · subst hmn
      rw [hn] at e; cases e
      exact ⟨o, by rw [List.getElem?_set_self hlt], ho⟩
    · obtain ⟨o', q, r⟩ := rs.obj m a e
      refine ⟨o', by rw [List.getElem?_set_ne (Ne.symm hmn)]; exact q, r.step s ?_⟩
      rw [upd_ne]
      rintro rfl
      exact hmn (rs.inj m n a e hn)
  · by_cases hmn : m = n
    · subst hmn
      exact ⟨l, hn⟩
    · rw [List.getElem?_set_ne (Ne.symm hmn)] at e
      exact rs.liv m o' e ho'
  · obtain ⟨w, e⟩ := rs.dom a h
    by_cases z : a = l
    · subst z; exact ⟨u, upd_same⟩
    · exact ⟨w, by rw [upd_ne z]; exact e⟩
theorem million : 1000000 <= sizeLine := by rw [sizeLine_eq]; decide
theorem mth_run {m : Mth} {v : PV} {st : Store} {α β : Type} {Rel : Ph -> Hp -> α -> β -> Prop} {k : Bool -> R α} {Q : β -> Hp -> Prop} (h : Run S X σ B φ H Rel (onO (mthOk m st v) k) Q) : ∃ b, mthOk m st v = some b /\ Run S X σ B φ H Rel (k b) Q := by
  cases e : mthOk m st v with
  | none => rw [e] at h; exact h.elim
  | some z => rw [e] at h; exact ⟨z, rfl, h⟩
theorem se_append (ha : PE X a (tE S X ca)) (hb : PE X b (tE S X cb)) (hs : starEach [b] X.env = [(false, eval b X.env)] := by rfl) (hbase : attributeBase a "append" X.env (eval a X.env) = eval a X.env := by rfl) (hline : (apos.endLine == pos.line) = true := by rfl)
    (hfew : ((backTo pos (starEach [b] X.env)).all (fun x => !x.1) && (backToKw pos (keywordEach [] X.env)).all (fun x => x.1.isSome) && decide (([b] : List Expr).length + ([] : List Keyword).length + (if ([] : List Keyword).isEmpty then 0 else 1) < 30)) = true := by rfl) :
    PE X (.Call (.Attribute a "append" apos) [b] [] pos) (tE S X (.mth .append ca (.cons cb .nil))) :=
  (pe_bm PySem.F.plainAttrs_list PySem.F.slot_list_append PySem.F.type_list_append mt_append ha (sa_cons (S := S) hb sa_nil hs) hbase hfew hline hs rfl).imp fun σ H Q ⟨B, φ, st, ρ, rs, re, h⟩ => by
    simp only [ev] at h
    refine tE.bind rs re h fun x H1 v st1 φ1 s1 rs1 re1 rv h1 => ?_
    obtain ⟨_, e1, h1⟩ := mth_run h1
    have t1 : ∃ ws, lstOf st1 v = some ws := by
      simp only [mthOk] at e1
      cases q : lstOf st1 v with
      | none => rw [q] at e1; cases e1
      | some ws => exact ⟨ws, rfl⟩
    obtain ⟨ws, t1⟩ := t1
    obtain ⟨l, xs, rfl, hl, _⟩ := lst_of rs1 rv t1
    refine ⟨.inl ⟨rfl, xs, hl⟩, tAs.bind rs1 re1 h1 fun ys H2 vs st2 φ2 s2 rs2 re2 rvs h2 => ?_⟩
    have rv2 := rv.step s2
    rcases vs with _ | ⟨w, _ | ⟨w', t⟩⟩
    · exact h2.elim
    · obtain ⟨y, rfl, rw⟩ := rvs.one
      simp only [mthV, appV] at h2
      split at h2
      · rename_i n
        split at h2
        · rename_i zs hz
          split at h2
          · rename_i c
            obtain ⟨l', xs', e, hn, hx, lr⟩ := rs2.list rv2 hz
            cases e
            refine ⟨l, xs', y, rfl, rfl, hx, by have := million; have := lr.length; omega, ?_⟩
            exact h2 _ _ φ2 (.put (List.mem_of_getElem? hn)) (rs2.put hn ⟨_, upd_same, (lr.append (by simp only [RepL]; exact ⟨y, [], rfl, rw, rfl⟩)).step (.put (List.mem_of_getElem? hn))⟩) (by simp only [RepV])
          · exact h2.elim
        · exact h2.elim
      · exact h2.elim
    · exact h2.elim
theorem se_append_k (ha : KqE X a (tE S X ca)) (hb : KqE X b (tE S X cb)) (hs : starEach [b] X.env = [(false, eval b X.env)] := by rfl) (hbase : attributeBase a "append" X.env (eval a X.env) = eval a X.env := by rfl) (hline : (apos.endLine == pos.line) = true := by rfl)
    (hfew : ((backTo pos (starEach [b] X.env)).all (fun x => !x.1) && (backToKw pos (keywordEach [] X.env)).all (fun x => x.1.isSome) && decide (([b] : List Expr).length + ([] : List Keyword).length + (if ([] : List Keyword).isEmpty then 0 else 1) < 30)) = true := by rfl) :
    KqE X (.Call (.Attribute a "append" apos) [b] [] pos) (tE S X (.mth .append ca (.cons cb .nil))) := by with_unfolding_all exact se_append ha hb hs hbase hline hfew
theorem se_extend (ha : PE X a (tE S X ca)) (hb : PE X b (tE S X cb)) (hs : starEach [b] X.env = [(false, eval b X.env)] := by rfl) (hbase : attributeBase a "extend" X.env (eval a X.env) = eval a X.env := by rfl) (hline : (apos.endLine == pos.line) = true := by rfl)
    (hfew : ((backTo pos (starEach [b] X.env)).all (fun x => !x.1) && (backToKw pos (keywordEach [] X.env)).all (fun x => x.1.isSome) && decide (([b] : List Expr).length + ([] : List Keyword).length + (if ([] : List Keyword).isEmpty then 0 else 1) < 30)) = true := by rfl) :
    PE X (.Call (.Attribute a "extend" apos) [b] [] pos) (tE S X (.mth .extend ca (.cons cb .nil))) :=
  (pe_bm PySem.F.plainAttrs_list PySem.F.slot_list_extend PySem.F.type_list_extend mt_extend ha (sa_cons (S := S) hb sa_nil hs) hbase hfew hline hs rfl).imp fun σ H Q ⟨B, φ, st, ρ, rs, re, h⟩ => by
    simp only [ev] at h
    refine tE.bind rs re h fun x H1 v st1 φ1 s1 rs1 re1 rv h1 => ?_
    obtain ⟨_, e1, h1⟩ := mth_run h1
    have t1 : ∃ ws, lstOf st1 v = some ws := by
      simp only [mthOk] at e1
      cases q : lstOf st1 v with
      | none => rw [q] at e1; cases e1
      | some ws => exact ⟨ws, rfl⟩
    obtain ⟨ws, t1⟩ := t1
    obtain ⟨l, xs, rfl, hl, _⟩ := lst_of rs1 rv t1
    refine ⟨.inl ⟨rfl, xs, hl⟩, tAs.bind rs1 re1 h1 fun ys H2 vs st2 φ2 s2 rs2 re2 rvs h2 => ?_⟩
    have rv2 := rv.step s2
    rcases vs with _ | ⟨w, _ | ⟨w', t⟩⟩
    · exact h2.elim
    · obtain ⟨y, rfl, rw⟩ := rvs.one
      simp only [mthV, extV] at h2
      split at h2
      · rename_i n
        split at h2
        · rename_i zs hz
          split at h2
          · rename_i ks
            split at h2
            · rename_i c
              obtain ⟨l', xs', e, hn, hx, lr⟩ := rs2.list rv2 hz
              cases e
              simp only [RepV] at rw
              obtain ⟨b', ys', rfl, rl, lr2⟩ := rw
              refine ⟨l, b', xs', ys', rfl, rfl, hx, rl.1, by have := million; have := lr.length; have := lr2.length; omega, ?_⟩
              exact h2 _ _ φ2 (.put (List.mem_of_getElem? hn)) (rs2.put hn ⟨_, upd_same, (lr.append lr2).step (.put (List.mem_of_getElem? hn))⟩) (by simp only [RepV])
            · exact h2.elim
          · exact h2.elim
        · exact h2.elim
      · exact h2.elim
    · exact h2.elim
theorem se_extend_k (ha : KqE X a (tE S X ca)) (hb : KqE X b (tE S X cb)) (hs : starEach [b] X.env = [(false, eval b X.env)] := by rfl) (hbase : attributeBase a "extend" X.env (eval a X.env) = eval a X.env := by rfl) (hline : (apos.endLine == pos.line) = true := by rfl)
    (hfew : ((backTo pos (starEach [b] X.env)).all (fun x => !x.1) && (backToKw pos (keywordEach [] X.env)).all (fun x => x.1.isSome) && decide (([b] : List Expr).length + ([] : List Keyword).length + (if ([] : List Keyword).isEmpty then 0 else 1) < 30)) = true := by rfl) :
    KqE X (.Call (.Attribute a "extend" apos) [b] [] pos) (tE S X (.mth .extend ca (.cons cb .nil))) := by with_unfolding_all exact se_extend ha hb hs hbase hline hfew
theorem se_frz (ha : PE X a (tE S X ca)) : PE X a (tE S X (.frz ca)) :=
  ha.imp fun σ H Q ⟨B, φ, st, ρ, rs, re, h⟩ => by
    simp only [ev] at h
    refine tE.bind rs re h fun x H1 v st1 φ1 s1 rs1 re1 rv h1 => ?_
    unfold frzV at h1
    split at h1
    · rename_i n
      split at h1
      · rename_i vs hv
        obtain ⟨l, xs, rfl, hn, hx, lr⟩ := rs1.list rv hv
        have hm : some l ∈ φ1 := List.mem_of_getElem? hn
        have hlt : n < φ1.length := (List.getElem?_eq_some_iff.mp hn).1
        have nl : some l ∉ φ1.set n none := fun z => by
          obtain ⟨m, e⟩ := List.mem_iff_getElem?.mp z
          by_cases hmn : m = n
          · subst hmn
            rw [List.getElem?_set_self hlt] at e; cases e
          · rw [List.getElem?_set_ne (Ne.symm hmn)] at e
            exact hmn (rs1.inj m n l e hn)
        have sb : ∀ b, some b ∈ φ1.set n none -> some b ∈ φ1 := fun b z => by
          obtain ⟨m, e⟩ := List.mem_iff_getElem?.mp z
          by_cases hmn : m = n
          · subst hmn
            rw [List.getElem?_set_self hlt] at e; cases e
          · rw [List.getElem?_set_ne (Ne.symm hmn)] at e
            exact List.mem_of_getElem? e
        have s : Step φ1 H1 (φ1.set n none) H1 := ⟨fun _ _ _ e => e, by simp, fun m a hm' e => by
          by_cases hmn : m = n
          · subst hmn
            rw [List.getElem?_set_self hlt] at e; cases e
          · rw [List.getElem?_set_ne (Ne.symm hmn)] at e
            exact e, fun b z => .inl (sb b z)⟩
        refine h1 _ H1 (φ1.set n none) s ⟨by simp [rs1.len], fun m k a e1 e2 => ?_, fun m a e => ?_, fun m o e ho => ?_, fun a z => rs1.nb a (sb a z), rs1.dom⟩ ?_
        · by_cases h1' : m = n
          · subst h1'; rw [List.getElem?_set_self hlt] at e1; cases e1
          · by_cases h2' : k = n
            · subst h2'; rw [List.getElem?_set_self hlt] at e2; cases e2
            · rw [List.getElem?_set_ne (Ne.symm h1')] at e1
              rw [List.getElem?_set_ne (Ne.symm h2')] at e2
              exact rs1.inj m k a e1 e2
        · by_cases hmn : m = n
          · subst hmn; rw [List.getElem?_set_self hlt] at e; cases e
          · rw [List.getElem?_set_ne (Ne.symm hmn)] at e
            obtain ⟨o, q, r⟩ := rs1.obj m a e
            exact ⟨o, by rw [List.getElem?_set_ne (Ne.symm hmn)]; exact q, r.step s rfl⟩
        · by_cases hmn : m = n
          · subst hmn
            rw [List.getElem?_set_self (by rw [<- rs1.len]; exact hlt)] at e; cases e
            exact absurd rfl ho
          · rw [List.getElem?_set_ne (Ne.symm hmn)] at e ⊢
            exact rs1.liv m o e ho
        · simp only [RepV]
          exact ⟨l, xs, rfl, ⟨hx, rs1.nb l hm, nl⟩, lr.step s⟩
      · exact h1.elim
    · exact h1.ok rs1 rv
theorem se_frz_k (ha : KqE X a (tE S X ca)) : KqE X a (tE S X (.frz ca)) := by with_unfolding_all exact se_frz ha
end
end L2
namespace L2
open PySem PySem.Spec PyProof.Rows IC
section
variable (S : Se) (X : Cx)
def RunF (B : Addr -> Prop) (φ : Ph) (H : Hp) (f : Fl) (D : Ends) : Prop :=
  match f with
  | .nx ρ' st' => ∀ σ' H' φ', Step φ H φ' H' -> RepS X.K S.cl B φ' H' st' -> RepE X.K S.cl B φ' H' ρ' σ' -> D.nx σ' H'
  | .rt v st' => ∀ x H' φ', Step φ H φ' H' -> RepS X.K S.cl B φ' H' st' -> RepV X.K S.cl B φ' H' v x -> D.rt x H'
  | .bk ρ' st' => ∀ σ' H' φ', Step φ H φ' H' -> RepS X.K S.cl B φ' H' st' -> RepE X.K S.cl B φ' H' ρ' σ' -> D.bk σ' H'
  | .ct ρ' st' => ∀ σ' H' φ', Step φ H φ' H' -> RepS X.K S.cl B φ' H' st' -> RepE X.K S.cl B φ' H' ρ' σ' -> D.ct σ' H'
  | .exc k ρ' st' => ∀ σ' φ1 H1 e s', Step φ H φ1 H1 -> RepE X.K S.cl B φ1 H1 ρ' σ' -> ExcAt S X σ' B φ1 H1 k st' e s' -> X.xe e s'
  | .bad => False
noncomputable def tS (c : Cs) : TS := fun D σ H => ∃ B φ st ρ, RepS X.K S.cl B φ H st /\ RepE X.K S.cl B φ H ρ σ /\ RunF S X B φ H (ex S.call ρ st c) D
noncomputable def tSs (c : Css) : TS := fun D σ H => ∃ B φ st ρ, RepS X.K S.cl B φ H st /\ RepE X.K S.cl B φ H ρ σ /\ RunF S X B φ H (exs S.call ρ st c) D
end
section
variable {S : Se} {X : Cx} {σ : St} {B : Addr -> Prop} {φ φ1 : Ph} {H H1 : Hp} {st : Store} {ρ : IC.Env} {D : Ends} {pos p2 px : Pos} {a b c o : Expr} {ca cb cc : Ce} {s1 : Stmt} {ss ss' : List Stmt} {c1 : Cs} {cs cs' : Css}
theorem RunF.on {f : Fl} (s : Step φ H φ1 H1) (h : RunF S X B φ H f D) : RunF S X B φ1 H1 f D := by
  cases f with
  | nx ρ st => exact fun σ' H' φ' t => h σ' H' φ' (s.trans t)
  | rt ρ st => exact fun σ' H' φ' t => h σ' H' φ' (s.trans t)
  | bk ρ st => exact fun σ' H' φ' t => h σ' H' φ' (s.trans t)
  | ct ρ st => exact fun σ' H' φ' t => h σ' H' φ' (s.trans t)
  | exc k ρ st => exact fun σ' φ2 H2 e s' t => h σ' φ2 H2 e s' (s.trans t)
  | bad => exact h
theorem tE.fl {k : PV -> Store -> Fl} {P : V -> Hp -> Prop} (rs : RepS X.K S.cl B φ H st) (re : RepE X.K S.cl B φ H ρ σ) (h : RunF S X B φ H ((ev S.call ρ st ca).fl ρ k) D)
    (n : ∀ x H1 v st1 φ1, Step φ H φ1 H1 -> RepS X.K S.cl B φ1 H1 st1 -> RepE X.K S.cl B φ1 H1 ρ σ -> RepV X.K S.cl B φ1 H1 v x -> RunF S X B φ1 H1 (k v st1) D -> P x H1) : tE S X ca σ H P := by
  refine ⟨B, φ, st, ρ, rs, re, ?_⟩
  cases e : ev S.call ρ st ca with
  | ok v st' =>
    rw [e] at h
    exact fun x H' φ' s rs' rv => n x H' v st' φ' s rs' (re.step s) rv (h.on s)
  | exc k st' =>
    rw [e] at h
    exact fun e s' x => h σ φ H e s' .rfl re x
  | bad => rw [e] at h; exact h
theorem PS.imp {t t' : TS} (h : PS X s1 t') (k : ∀ D σ H, t D σ H -> t' D σ H) : PS X s1 t := fun pins s σ H D I q => h pins s σ H D I (k D σ H q)
theorem PSs.imp {t t' : TS} (h : PSs X ss t') (k : ∀ D σ H, t D σ H -> t' D σ H) : PSs X ss t := fun pins s σ H D I q => h pins s σ H D I (k D σ H q)
theorem RepE.set {K : PySem.W.Frag} {cl : Nat -> Addr} (r : RepE K cl B φ H ρ σ) (i : Nat) {v : PV} {x : V} (rv : RepV K cl B φ H v x) : RepE K cl B φ H (ρ.set i (some v)) (σ.set i (some x)) := by
  refine ⟨by rw [List.length_set, List.length_set]; exact r.len, fun j w e => ?_⟩
  by_cases h : j = i
  · subst h
    by_cases hl : j < ρ.length
    · rw [List.getElem?_set_self hl] at e
      cases e
      exact ⟨x, by rw [List.getElem?_set_self (by rw [<- r.len]; exact hl)], rv⟩
    · rw [List.getElem?_eq_none (by rw [List.length_set]; omega)] at e
      cases e
  · rw [List.getElem?_set_ne (Ne.symm h)] at e ⊢
    exact r.get j w e
theorem ss_nil : PSs X [] (tSs S X .nil) := pss_nil.imp fun D σ H ⟨B, φ, st, ρ, rs, re, h⟩ => by
  simp only [exs] at h
  exact h σ H φ .rfl rs re
theorem ss_nil_k : KqSs X [] (tSs S X .nil) := by with_unfolding_all exact ss_nil
theorem ss_cons (h1 : PS X s1 (tS S X c1)) (h2 : PSs X ss (tSs S X cs)) : PSs X (s1 :: ss) (tSs S X (.cons c1 cs)) :=
  (pss_cons h1 h2).imp fun D σ H ⟨B, φ, st, ρ, rs, re, h⟩ => by
    simp only [exs] at h
    refine ⟨B, φ, st, ρ, rs, re, ?_⟩
    cases e : ex S.call ρ st c1 with
    | nx ρ1 st1 =>
      rw [e] at h
      exact fun σ' H' φ' s rs' re' => ⟨B, φ', st1, ρ1, rs', re', h.on s⟩
    | rt v st1 => rw [e] at h; exact h
    | bk ρ1 st1 => rw [e] at h; exact h
    | ct ρ1 st1 => rw [e] at h; exact h
    | exc k ρ1 st1 => rw [e] at h; exact h
    | bad => rw [e] at h; exact h
theorem ss_cons_k (h1 : KqS X s1 (tS S X c1)) (h2 : KqSs X ss (tSs S X cs)) : KqSs X (s1 :: ss) (tSs S X (.cons c1 cs)) := by with_unfolding_all exact ss_cons h1 h2
theorem ss_expr (he : PE X a (tE S X ca)) (hs : swapsWith a none pos.line X.env = pure false := by rfl) : PS X (.Expr a pos) (tS S X (.expr ca)) :=
  (ps_expr he hs).imp fun D σ H ⟨B, φ, st, ρ, rs, re, h⟩ => by
    simp only [ex] at h
    exact tE.fl rs re h fun x H1 v st1 φ1 s rs1 re1 rv h1 => h1 σ H1 φ1 .rfl rs1 re1
theorem ss_expr_k (he : KqE X a (tE S X ca)) (hs : swapsWith a none pos.line X.env = pure false := by rfl) : KqS X (.Expr a pos) (tS S X (.expr ca)) := by with_unfolding_all exact ss_expr he hs
theorem ss_ret (he : PE X a (tE S X ca)) : PS X (.Return (some a) pos) (tS S X (.ret ca)) :=
  (ps_ret he).imp fun D σ H ⟨B, φ, st, ρ, rs, re, h⟩ => by
    simp only [ex] at h
    exact tE.fl rs re h fun x H1 v st1 φ1 s rs1 re1 rv h1 => h1 x H1 φ1 .rfl rs1 rv
theorem ss_ret_k (he : KqE X a (tE S X ca)) : KqS X (.Return (some a) pos) (tS S X (.ret ca)) := by with_unfolding_all exact ss_ret he
theorem ss_set {i : Nat} {x : Str} (hN : X.N.Nodup) (hi : X.N[i]? = some x) (hx : Loc X.env.scope x) (he : PE X a (tE S X ca)) (hs : swapsWith a (some (.Name x px)) pos.line X.env = pure false := by rfl)
    (hf : X.fn x = true \/ X.env.scope.names.lookup x = some .local := by first | exact .inl rfl | exact .inr rfl | assumption) : PS X (.Assign [.Name x px] a pos) (tS S X (.asg (.n i) ca)) :=
  (ps_set hN hi hx he hs hf).imp fun D σ H ⟨B, φ, st, ρ, rs, re, h⟩ => by
    simp only [ex] at h
    exact tE.fl rs re h fun x H1 v st1 φ1 s rs1 re1 rv h1 => h1 _ H1 φ1 .rfl rs1 (re1.set i rv)
theorem ss_set_k {i : Nat} {x : Str} (hN : X.N.Nodup) (hi : X.N[i]? = some x) (hx : Loc X.env.scope x) (he : KqE X a (tE S X ca)) (hs : swapsWith a (some (.Name x px)) pos.line X.env = pure false := by rfl)
    (hf : X.fn x = true \/ X.env.scope.names.lookup x = some .local := by first | exact .inl rfl | exact .inr rfl | assumption) : KqS X (.Assign [.Name x px] a pos) (tS S X (.asg (.n i) ca)) := by with_unfolding_all exact ss_set hN hi hx he hs hf
theorem flT (r : R PV) (f : Bool -> Store -> Fl) : (r.fl ρ fun x st1 => onF (truV st1 x) fun k => f k st1) = (truR r).fl ρ f := by
  cases r with
  | ok v s =>
    simp only [R.fl, truR, R.bind]
    cases truV s v <;> rfl
  | exc c s => rfl
  | bad => rfl
theorem tTs.fl {k : Bool -> Store -> Fl} {P : Bool -> Hp -> Prop} (rs : RepS X.K S.cl B φ H st) (re : RepE X.K S.cl B φ H ρ σ) (h : RunF S X B φ H ((truR (ev S.call ρ st ca)).fl ρ k) D)
    (n : ∀ b H1 st1 φ1, Step φ H φ1 H1 -> RepS X.K S.cl B φ1 H1 st1 -> RepE X.K S.cl B φ1 H1 ρ σ -> RunF S X B φ1 H1 (k b st1) D -> P b H1) : tTs S X ca σ H P := by
  refine ⟨B, φ, st, ρ, rs, re, ?_⟩
  cases e : truR (ev S.call ρ st ca) with
  | ok v st' =>
    rw [e] at h
    exact fun x H' φ' s rs' rv => by
      subst rv
      exact n v H' st' φ' s rs' (re.step s) (h.on s)
  | exc k st' =>
    rw [e] at h
    exact fun e s' x => h σ φ H e s' .rfl re x
  | bad => rw [e] at h; exact h
theorem ss_if (hc : PT X c (tTs S X cc)) (ha : PSs X ss (tSs S X cs)) (hb : PSs X ss' (tSs S X cs')) : PS X (.If c ss ss' pos) (tS S X (.ite cc cs cs')) :=
  (ps_if hc ha hb).imp fun D σ H ⟨B, φ, st, ρ, rs, re, h⟩ => by
    simp only [ex] at h
    rw [flT _ fun k st1 => cond k (exs S.call ρ st1 cs) (exs S.call ρ st1 cs')] at h
    refine tTs.fl rs re h fun k H1 st1 φ1 s rs1 re1 h1 => ?_
    cases k with
    | true => exact ⟨B, φ1, st1, ρ, rs1, re1, h1⟩
    | false => exact ⟨B, φ1, st1, ρ, rs1, re1, h1⟩
theorem ss_if_k (hc : KqT X c (tTs S X cc)) (ha : KqSs X ss (tSs S X cs)) (hb : KqSs X ss' (tSs S X cs')) : KqS X (.If c ss ss' pos) (tS S X (.ite cc cs cs')) := by with_unfolding_all exact ss_if hc ha hb
theorem ss_aug {i : Nat} {x : Str} {op : Operator} {bo : BOp} (hN : X.N.Nodup) (hi : X.N[i]? = some x) (hx : Loc X.env.scope x) (he : PE X a (tE S X ca)) (ho : PIp X op (rT2 S X (augV bo)))
    (hf : X.fn x = true \/ X.env.scope.names.lookup x = some .local := by first | exact .inl rfl | exact .inr rfl | assumption) (hd : (x == ("__debug__" : Str)) = false := by decide) (hcd : (x == ("__classdict__" : Str)) = false := by decide) : PS X (.AugAssign (.Name x px) op a pos) (tS S X (.aug i bo ca)) :=
  (ps_aug hN hi hx he ho hf).imp fun D σ H ⟨B, φ, st, ρ, rs, re, h⟩ => by
    simp only [ex] at h
    cases q : ρ[i]? with
    | none => rw [q] at h; exact h.elim
    | some w =>
      cases w with
      | none => rw [q] at h; exact h.elim
      | some w =>
        rw [q] at h
        obtain ⟨y, hy, rw⟩ := re.get i w q
        refine ⟨y, hy, tE.fl rs re h fun z H1 v st1 φ1 s rs1 re1 rv h1 => ?_⟩
        cases e : augV bo w v with
        | none => rw [e] at h1; exact h1.elim
        | some u =>
          rw [e] at h1
          exact ⟨B, φ1, st1, w, v, u, rs1, rw.step s, rv, e, fun z' H' φ' s' rs' rz => h1 _ H' φ' s' rs' ((re1.step s').set i rz)⟩
theorem ss_aug_k {i : Nat} {x : Str} {op : Operator} {bo : BOp} (hN : X.N.Nodup) (hi : X.N[i]? = some x) (hx : Loc X.env.scope x) (he : KqE X a (tE S X ca)) (ho : PIp X op (rT2 S X (augV bo)))
    (hf : X.fn x = true \/ X.env.scope.names.lookup x = some .local := by first | exact .inl rfl | exact .inr rfl | assumption) (hd : (x == ("__debug__" : Str)) = false := by decide) (hcd : (x == ("__classdict__" : Str)) = false := by decide) : KqS X (.AugAssign (.Name x px) op a pos) (tS S X (.aug i bo ca)) := by with_unfolding_all exact ss_aug hN hi hx he ho hf hd hcd
end
end L2
namespace L2
open PySem PySem.Spec PyProof.Rows IC
section
variable (S : Se) (X : Cx)
structure Drw (B : Addr -> Prop) (φ0 : Ph) (H0 : Hp) (xs : List PV) (J : It) : Prop where
  stop : ∀ φ H, Step φ0 H0 φ H -> J.stop xs.length H
  go : ∀ (i : Nat) φ H, Step φ0 H0 φ H -> i < xs.length -> J.go i H
  yld : ∀ (i : Nat) φ H st x H' (B' : Addr -> Prop), (∀ y, B' y -> B y \/ H0 y = none) -> Step φ0 H0 φ H -> RepS X.K S.cl B' φ H st -> i < xs.length -> J.yld i H x H' -> ∃ v, xs[i]? = some v /\ RepV X.K S.cl B' φ H' v x /\ ∀ b o, H b = some o -> H' b = some o
noncomputable abbrev RD (B : Addr -> Prop) : Ph -> Hp -> List PV -> It -> Prop := fun φ H => Drw S X B φ H
noncomputable def tI (c : Cit) : TI := fun σ H R => ∃ B φ st ρ, RepS X.K S.cl B φ H st /\ RepE X.K S.cl B φ H ρ σ /\ Run S X σ B φ H (RD S X B) (evi S.call ρ st c) R
end
section
variable {S : Se} {X : Cx} {σ : St} {B : Addr -> Prop} {φ φ1 : Ph} {H H1 : Hp} {st : Store} {ρ : IC.Env} {D : Ends} {pos p p2 px : Pos} {a b c o tg l : Expr} {ca cb cc : Ce} {es : List Expr} {ces : Ces} {ss : List Stmt} {cs : Css} {ci : Cit} {ct : Tg}
theorem se_nope : PE X a (tE S X .nope) := fun pins s σ H Q I ⟨B, φ, st, ρ, rs, re, h⟩ => by
  simp only [ev] at h
  exact h.elim
theorem se_nope_k : KqE X a (tE S X .nope) := by with_unfolding_all exact se_nope
theorem ss_nope {s1 : Stmt} : PS X s1 (tS S X .nope) := fun pins s σ H D I ⟨B, φ, st, ρ, rs, re, h⟩ => by
  simp only [ex] at h
  exact h.elim
theorem ss_nope_k {s1 : Stmt} : KqS X s1 (tS S X .nope) := by with_unfolding_all exact ss_nope
theorem PI.imp {t t' : TI} (h : PI X tg l t') (k : ∀ σ H R, t σ H R -> t' σ H R) : PI X tg l t := fun pins s σ H R I q => h pins s σ H R I (k σ H R q)
theorem pi_seq {tl : TE} (hl : PE X l tl) : PI X tg l (fun σ H R => tl σ H fun x H1 => ∃ a, x = .ref a /\ (((∃ xs, SqL X.K H1 a xs) /\ R (Itl X.K a) H1) \/ ((∃ xs, SqT X.K H1 a xs) /\ R (Itt X.K a) H1))) := by
  intro pins s σ H R I h
  refine thn (hl pins s σ H _ I h) fun v s1 ⟨x, H1, I1, r1, q1⟩ => ?_
  obtain ⟨a, e, q1⟩ := q1
  subst e
  cases r1
  rcases q1 with ⟨⟨xs, hq⟩, q⟩ | ⟨⟨xs, hq⟩, q⟩
  · obtain ⟨its, rv, p, hz⟩ := I1.list hq
    refine wpAny_pyIter_list p.isList ?_
    refine ⟨s1.heap.objs.size, [s1.heap.objs.size], _, _, H1, rfl, I1.kept (t' := s1.toks) fun b o e => Heap.get?_push_of_some _ e, turn_list a _, ⟨_, Heap.get?_push_size _ rfl, rfl, rfl⟩, fun b hb => ?_, q⟩
    have e : b = s1.heap.objs.size := by simpa using hb
    subst e
    exact I1.fpOk (Nat.le_refl _) (I1.hok.fresh (Nat.le_refl _))
  · obtain ⟨its, rv, p, hz⟩ := I1.tuple hq
    refine wpAny_pyIter_tuple (show s1.heap.IsTuple a its.toArray from p) ?_
    refine ⟨s1.heap.objs.size, [s1.heap.objs.size], _, _, H1, rfl, I1.kept (t' := s1.toks) fun b o e => Heap.get?_push_of_some _ e, turn_tuple a _, ⟨_, Heap.get?_push_size _ rfl, rfl, rfl⟩, fun b hb => ?_, q⟩
    have e : b = s1.heap.objs.size := by simpa using hb
    subst e
    exact I1.fpOk (Nat.le_refl _) (I1.hok.fresh (Nat.le_refl _))
theorem drw_tup {k : Bool} {vs : List PV} {xs : List V} {y : Addr} (rt : RTup X.K B φ H k y xs) (l : RepL X.K S.cl B φ H vs xs) : Drw S X B φ H vs (Itt X.K y) := by
  have hl := l.length
  refine ⟨fun φ' H' s => ⟨xs, (rt.step s).sq, by omega⟩, fun i φ' H' s hi => ⟨xs, xs[i]'(by omega), (rt.step s).sq, by simp [show i < xs.length by omega]⟩, fun i φ' H' st x H2 B' hB s rs hi q => ?_⟩
  obtain ⟨rfl, q⟩ := q
  obtain ⟨v, hv⟩ : ∃ v, vs[i]? = some v := ⟨vs[i], by simp [hi]⟩
  obtain ⟨x', hx', rv⟩ := l.get i hv
  have := q xs (rt.step s).sq
  rw [this] at hx'
  cases hx'
  exact ⟨v, hv, (rv.moreB hB).step s, fun _ _ e => e⟩
theorem drw_lst {vs : List PV} {xs : List V} {y : Addr} (rt : RLst B φ H y xs) (l : RepL X.K S.cl B φ H vs xs) : Drw S X B φ H vs (Itl X.K y) := by
  have hl := l.length
  refine ⟨fun φ' H' s => ⟨xs, (rt.step s).sq, by omega⟩, fun i φ' H' s hi => ⟨xs, xs[i]'(by omega), (rt.step s).sq, by simp [show i < xs.length by omega]⟩, fun i φ' H' st x H2 B' hB s rs hi q => ?_⟩
  obtain ⟨rfl, q⟩ := q
  obtain ⟨v, hv⟩ : ∃ v, vs[i]? = some v := ⟨vs[i], by simp [hi]⟩
  obtain ⟨x', hx', rv⟩ := l.get i hv
  have := q xs (rt.step s).sq
  rw [this] at hx'
  cases hx'
  exact ⟨v, hv, (rv.moreB hB).step s, fun _ _ e => e⟩
theorem si_seq (hl : PE X l (tE S X ca)) : PI X tg l (tI S X (.seq ca)) :=
  (pi_seq hl).imp fun σ H R ⟨B, φ, st, ρ, rs, re, h⟩ => by
    simp only [evi] at h
    refine tE.bind rs re h fun x H1 v st1 φ1 s1 rs1 re1 rv h1 => ?_
    cases v with
    | tp k vs =>
      simp only [RepV] at rv
      obtain ⟨y, xs, rfl, rt, l⟩ := rv
      exact ⟨y, rfl, .inr ⟨⟨xs, rt.sq⟩, h1.ok rs1 (drw_tup rt l)⟩⟩
    | lst vs =>
      simp only [RepV] at rv
      obtain ⟨y, xs, rfl, rt, l⟩ := rv
      exact ⟨y, rfl, .inl ⟨⟨xs, rt.sq⟩, h1.ok rs1 (drw_lst rt l)⟩⟩
    | _ => exact h1.elim
theorem si_seq_k (hl : KqE X l (tE S X ca)) : KqI X tg l (tI S X (.seq ca)) := by with_unfolding_all exact si_seq hl
theorem rangeL_get : ∀ (n : Nat) (lo d : Int) (i : Nat), (rangeL n lo d)[i]? = if i < n then some (.int (lo + i * d)) else none
  | 0, lo, d, i => by simp [rangeL]
  | n + 1, lo, d, 0 => by simp [rangeL]
  | n + 1, lo, d, i + 1 => by
    simp only [rangeL, List.getElem?_cons_succ]
    rw [rangeL_get n (lo + d) d i]
    by_cases h : i < n
    · rw [if_pos h, if_pos (by omega), Int.natCast_succ, Int.add_mul, Int.one_mul, Int.add_assoc, Int.add_comm d]
    · rw [if_neg h, if_neg (by omega)]
theorem rangeL_len : ∀ (n : Nat) (lo d : Int), (rangeL n lo d).length = n
  | 0, lo, d => rfl
  | n + 1, lo, d => by simp [rangeL, rangeL_len n]
theorem drw_range {lo : Int} {n : Nat} : Drw S X B φ H (rangeL n lo 1) (Itr lo n) := by
  refine ⟨fun φ' H' s => by rw [rangeL_len]; exact Nat.le_refl _, fun i φ' H' s hi => by rw [rangeL_len] at hi; exact hi, fun i φ' H' st x H2 B' hB s rs hi q => ?_⟩
  rw [rangeL_len] at hi
  obtain ⟨rfl, rfl⟩ := q
  refine ⟨.int (lo + i), ?_, by simp only [RepV], fun _ _ e => e⟩
  rw [rangeL_get, if_pos hi, Int.mul_one]
theorem rng_run {o : Option (List PV)} {st : Store} {Q : It -> Hp -> Prop} (h : Run S X σ B φ H (RD S X B) (toL o st) Q) : ∃ xs, o = some xs /\ Run S X σ B φ H (RD S X B) (.ok xs st) Q := by
  cases o with
  | none => exact h.elim
  | some z => exact ⟨z, rfl, h⟩
theorem si_range1 (hg : Gl X "range") (hm : X.mg "range" = none) (ha : PE X a (tE S X ca)) (hs : starEach [a] X.env = [(false, eval a X.env)] := by rfl) : PI X tg (.Call (.Name "range" p) [a] [] pos) (tI S X (.range1 ca)) :=
  (pi_range1 hg hm (pa_cons ha pa_nil hs) hs).imp fun σ H R ⟨B, φ, st, ρ, rs, re, h⟩ => by
    simp only [evi] at h
    refine tE.bind rs re h fun x H1 v st1 φ1 s1 rs1 re1 rv h1 => ?_
    obtain ⟨xs, e, h1⟩ := rng_run h1
    cases v with
    | int j =>
      simp only [rng1] at e
      split at e
      · cases e
        simp only [RepV] at rv
        subst rv
        exact ⟨j, rfl, by omega, by omega, h1.ok rs1 drw_range⟩
      · cases e
    | _ => cases e
theorem si_range1_k (hg : Gl X "range") (hm : X.mg "range" = none) (ha : KqE X a (tE S X ca)) (hs : starEach [a] X.env = [(false, eval a X.env)] := by rfl) : KqI X tg (.Call (.Name "range" p) [a] [] pos) (tI S X (.range1 ca)) := by with_unfolding_all exact si_range1 hg hm ha hs
theorem pairsUp_get : ∀ (xs : List PV) (k i : Nat), (pairsUp k xs)[i]? = (xs[i]?).map fun x => .tup [.int ((k + i : Nat) : Int), x]
  | [], k, i => by simp [pairsUp]
  | x :: xs, k, 0 => by simp [pairsUp]
  | x :: xs, k, i + 1 => by
    simp only [pairsUp, List.getElem?_cons_succ]
    rw [pairsUp_get xs (k + 1) i]
    have : k + 1 + i = k + (i + 1) := by omega
    rw [this]
theorem pairsUp_len : ∀ (xs : List PV) (k : Nat), (pairsUp k xs).length = xs.length
  | [], k => rfl
  | x :: xs, k => by simp [pairsUp, pairsUp_len xs]
theorem drw_enum {k : Bool} {vs : List PV} {xs : List V} {y : Addr} (rt : RTup X.K B φ H k y xs) (l : RepL X.K S.cl B φ H vs xs) : Drw S X B φ H (pairsUp 0 vs) (Ite X.K y) := by
  have hl := l.length
  have hp := pairsUp_len vs 0
  refine ⟨fun φ' H' s => ⟨xs, (rt.step s).sq, by omega⟩, fun i φ' H' s hi => ⟨xs, xs[i]'(by omega), (rt.step s).sq, by simp [show i < xs.length by omega]⟩, fun i φ' H' st x H2 B' hB s rs hi q => ?_⟩
  obtain ⟨T, hT, rfl, q⟩ := q
  obtain ⟨v, hv⟩ : ∃ v, vs[i]? = some v := ⟨vs[i]'(by omega), by simp [show i < vs.length by omega]⟩
  obtain ⟨x', hx', rv⟩ := l.get i hv
  have e := q xs x' (rt.step s).sq hx'
  subst e
  refine ⟨.tup [.int i, v], ?_, .tup_new hT rs ?_, fun b o e => by rw [upd_ne (ne_of_none e hT)]; exact e⟩
  · rw [pairsUp_get, hv]
    simp
  · simp only [RepL, RepV]
    exact ⟨_, _, rfl, rfl, x', [], rfl, (rv.moreB hB).step s, rfl⟩
theorem si_enum {es : List Expr} {kk : Nat} {tp : Pos} (hg : Gl X "enumerate") (hm : X.mg "enumerate" = none) (ha : PE X a (tE S X ca)) (hs : starEach [a] X.env = [(false, eval a X.env)] := by rfl) :
    PI X (.Tuple es kk tp) (.Call (.Name "enumerate" p) [a] [] pos) (tI S X (.enum ca)) :=
  (pi_enumT hg hm (pa_cons ha pa_nil hs) hs).imp fun σ H R ⟨B, φ, st, ρ, rs, re, h⟩ => by
    simp only [evi] at h
    refine tE.bind rs re h fun x H1 v st1 φ1 s1 rs1 re1 rv h1 => ?_
    cases v with
    | tp k vs =>
      simp only [RepV] at rv
      obtain ⟨y, xs, rfl, rt, l⟩ := rv
      exact ⟨y, rfl, ⟨xs, rt.sq⟩, h1.ok rs1 (drw_enum rt l)⟩
    | _ => exact h1.elim
theorem si_enum_k {es : List Expr} {kk : Nat} {tp : Pos} (hg : Gl X "enumerate") (hm : X.mg "enumerate" = none) (ha : KqE X a (tE S X ca)) (hs : starEach [a] X.env = [(false, eval a X.env)] := by rfl) :
    KqI X (.Tuple es kk tp) (.Call (.Name "enumerate" p) [a] [] pos) (tI S X (.enum ca)) := by with_unfolding_all exact si_enum hg hm ha hs
noncomputable def tG (S : Se) (X : Cx) (t : Tg) : TG := fun v σ H Q => ∃ B φ st ρ w ρ', RepS X.K S.cl B φ H st /\ RepE X.K S.cl B φ H ρ σ /\ RepV X.K S.cl B φ H w v /\ bindT t w ρ = some ρ' /\ ∀ σ', RepE X.K S.cl B φ H ρ' σ' -> Q σ' H
theorem PG.imp {t t' : TG} (h : PG X tg t') (k : ∀ v σ H Q, t v σ H Q -> t' v σ H Q) : PG X tg t := fun pins s σ H v u Q I rv q => h pins s σ H v u Q I rv (k v σ H Q q)
theorem sg_name {i : Nat} {x : Str} (hN : X.N.Nodup) (hi : X.N[i]? = some x) (hx : Loc X.env.scope x) (hf : X.fn x = true \/ X.env.scope.names.lookup x = some .local := by first | exact .inl rfl | exact .inr rfl | assumption) : PG X (.Name x pos) (tG S X (.n i)) :=
  (pg_name hN hi hx hf).imp fun v σ H Q ⟨B, φ, st, ρ, w, ρ', rs, re, rv, e, q⟩ => by
    cases e
    exact q _ (re.set i rv)
theorem sg_name_k {i : Nat} {x : Str} (hN : X.N.Nodup) (hi : X.N[i]? = some x) (hx : Loc X.env.scope x) (hf : X.fn x = true \/ X.env.scope.names.lookup x = some .local := by first | exact .inl rfl | exact .inr rfl | assumption) : KqG X (.Name x pos) (tG S X (.n i)) := by with_unfolding_all exact sg_name hN hi hx hf
noncomputable def gNs (l : List Nat) : TGs := fun vs σ H Q => vs.length = l.length /\ Q ((l.zip vs).foldl (fun σ p => σ.set p.1 (some p.2)) σ) H
theorem PGs.imp {es : List Expr} {t t' : TGs} (h : PGs X es t') (k : ∀ v σ H Q, t v σ H Q -> t' v σ H Q) : PGs X es t := fun pins s σ H vs us Q I rv q => h pins s σ H vs us Q I rv (k vs σ H Q q)
theorem sgs_nil : PGs X [] (gNs []) := pgs_nil.imp fun vs σ H Q ⟨h, q⟩ => by
  cases vs with
  | nil => exact ⟨rfl, q⟩
  | cons _ _ => cases h
theorem sgs_nil_k : KqGs X [] (gNs []) := by with_unfolding_all exact sgs_nil
theorem sgs_cons {es : List Expr} {l : List Nat} {i : Nat} {x : Str} (hN : X.N.Nodup) (hi : X.N[i]? = some x) (hx : Loc X.env.scope x) (h2 : PGs X es (gNs l)) (hf : X.fn x = true \/ X.env.scope.names.lookup x = some .local := by first | exact .inl rfl | exact .inr rfl | assumption) : PGs X (.Name x pos :: es) (gNs (i :: l)) :=
  (pgs_cons (pg_name hN hi hx hf) h2).imp fun vs σ H Q ⟨h, q⟩ => by
    cases vs with
    | nil => cases h
    | cons v vs => exact ⟨v, vs, rfl, by simpa using h, q⟩
theorem sgs_cons_k {es : List Expr} {l : List Nat} {i : Nat} {x : Str} (hN : X.N.Nodup) (hi : X.N[i]? = some x) (hx : Loc X.env.scope x) (h2 : KqGs X es (gNs l)) (hf : X.fn x = true \/ X.env.scope.names.lookup x = some .local := by first | exact .inl rfl | exact .inr rfl | assumption) : KqGs X (.Name x pos :: es) (gNs (i :: l)) := by with_unfolding_all exact sgs_cons hN hi hx h2 hf
theorem RepE.sets {K : PySem.W.Frag} {cl : Nat -> Addr} : ∀ (l : List Nat) {vs : List PV} {xs : List V} {ρ : IC.Env} {σ : St}, RepE K cl B φ H ρ σ -> RepL K cl B φ H vs xs ->
    RepE K cl B φ H ((l.zip vs).foldl (fun ρ p => ρ.set p.1 (some p.2)) ρ) ((l.zip xs).foldl (fun σ p => σ.set p.1 (some p.2)) σ)
  | [], vs, xs, ρ, σ, re, l => by simpa using re
  | i :: is, [], xs, ρ, σ, re, l => by
    simp only [RepL] at l
    subst l
    simpa using re
  | i :: is, v :: vs, xs, ρ, σ, re, l => by
    simp only [RepL] at l
    obtain ⟨y, ys, rfl, r, l⟩ := l
    simp only [List.zip_cons_cons, List.foldl_cons]
    exact RepE.sets is (re.set i r) l
theorem sg_tup {es : List Expr} {l : List Nat} {k : Nat} (hc : X.calm = true) (h : PGs X es (gNs l)) (hn : (assignEach es X.env).length = l.length := by rfl) (hst : (assignEach es X.env).findIdx? (·.1) = none := by rfl) : PG X (.Tuple es k pos) (tG S X (.t l)) :=
  (pg_tup hc h hn hst).imp fun v σ H Q ⟨B, φ, st, ρ, w, ρ', rs, re, rv, e, q⟩ => by
    cases w with
    | tp kk vs =>
      simp only [bindT] at e
      split at e
      · rename_i c
        cases e
        simp only [RepV] at rv
        obtain ⟨y, xs, rfl, rt, lr⟩ := rv
        have hl := lr.length
        exact ⟨y, xs, rfl, rt.sq, by omega, by omega, q _ (RepE.sets l re lr)⟩
      · cases e
    | _ => cases e
theorem sg_tup_k {es : List Expr} {l : List Nat} {k : Nat} (hc : X.calm = true) (h : KqGs X es (gNs l)) (hn : (assignEach es X.env).length = l.length := by rfl) (hst : (assignEach es X.env).findIdx? (·.1) = none := by rfl) : KqG X (.Tuple es k pos) (tG S X (.t l)) := by with_unfolding_all exact sg_tup hc h hn hst
theorem tI.fl {k : List PV -> Store -> Fl} {P : It -> Hp -> Prop} (rs : RepS X.K S.cl B φ H st) (re : RepE X.K S.cl B φ H ρ σ) (h : RunF S X B φ H ((evi S.call ρ st ci).fl ρ k) D)
    (n : ∀ x H1 v st1 φ1, Step φ H φ1 H1 -> RepS X.K S.cl B φ1 H1 st1 -> RepE X.K S.cl B φ1 H1 ρ σ -> Drw S X B φ1 H1 v x -> RunF S X B φ1 H1 (k v st1) D -> P x H1) : tI S X ci σ H P := by
  refine ⟨B, φ, st, ρ, rs, re, ?_⟩
  cases e : evi S.call ρ st ci with
  | ok v st' =>
    rw [e] at h
    exact fun x H' φ' s rs' rv => n x H' v st' φ' s rs' (re.step s) rv (h.on s)
  | exc k st' =>
    rw [e] at h
    exact fun e s' x => h σ φ H e s' .rfl re x
  | bad => rw [e] at h; exact h
theorem ss_for (hp : PassesOwn (model X.prog X.w) X.A X.env X.xe) (hc : X.calm = true) (hi : PI X tg l (tI S X ci)) (hg : PG X tg (tG S X ct)) (hb : PSs X ss (tSs S X cs)) (hs : ∀ x, foldedSetIterable l X.env x = pure x := by intro _; rfl) :
    PS X (.For tg l ss [] pos) (tS S X (.for ct ci cs)) :=
  (ps_for hp hc hi hg hb hs).imp fun D σ H ⟨B, φ, st, ρ, rs, re, h⟩ => by
    simp only [ex] at h
    refine tI.fl rs re h fun J H1 xs st1 φ1 s1 rs1 re1 dr h1 => ?_
    refine ⟨fun i m σ H => ∃ φ st ρ, i + m = xs.length /\ Step φ1 H1 φ H /\ RepS X.K S.cl B φ H st /\ RepE X.K S.cl B φ H ρ σ /\ RunF S X B φ H (forL ct (fun ρ2 st2 => exs S.call ρ2 st2 cs) (xs.drop i) ρ st) D,
      ⟨xs.length, φ1, st1, ρ, by omega, .rfl, rs1, re1, by simpa using h1⟩, ?_⟩
    rintro i m σ2 H2 ⟨φ2, st2, ρ2, hm, s2, rs2, re2, h2⟩
    by_cases hi : i < xs.length
    · refine .inr ⟨dr.go i φ2 H2 s2 hi, fun σ' H' => ∃ φ st ρ, Step φ1 H1 φ H' /\ RepS X.K S.cl B φ H' st /\ RepE X.K S.cl B φ H' ρ σ' /\ RunF S X B φ H' (forL ct (fun ρ2 st2 => exs S.call ρ2 st2 cs) (xs.drop (i + 1)) ρ st) D,
        fun σ' H' ⟨φ, st, ρ, s, q⟩ => ⟨m - 1, by omega, φ, st, ρ, by omega, s, q⟩, fun x H3 hy => ?_⟩
      obtain ⟨v, hv, rv, kk⟩ := dr.yld i φ2 H2 st2 x H3 B (fun _ z => .inl z) s2 rs2 hi hy
      have e : xs.drop i = v :: xs.drop (i + 1) := by
        rw [List.drop_eq_getElem_cons hi]
        rw [List.getElem?_eq_getElem hi] at hv
        rw [Option.some.inj hv]
      have s3 : Step φ2 H2 φ2 H3 := ⟨fun b o _ e => kk b o e, Nat.le_refl _, fun _ _ _ e => e, fun _ h => .inl h⟩
      have rs3 : RepS X.K S.cl B φ2 H3 st2 := rs2.same kk
      rw [e, forL] at h2
      cases eb : bindT ct v ρ2 with
      | none => rw [eb] at h2; exact h2.elim
      | some ρ3 =>
        rw [eb] at h2
        refine ⟨B, φ2, st2, ρ2, v, ρ3, rs3, re2.step s3, rv, eb, fun σ' re' => ⟨B, φ2, st2, ρ3, rs3, re', ?_⟩⟩
        have h3 := RunF.on s3 h2
        dsimp only at h3
        cases ee : exs S.call ρ3 st2 cs with
        | nx ρ4 st4 =>
          rw [ee] at h3
          exact fun σ4 H4 φ4 s4 rs4 re4 => ⟨φ4, st4, ρ4, s2.trans (s3.trans s4), rs4, re4, RunF.on s4 h3⟩
        | ct ρ4 st4 =>
          rw [ee] at h3
          exact fun σ4 H4 φ4 s4 rs4 re4 => ⟨φ4, st4, ρ4, s2.trans (s3.trans s4), rs4, re4, RunF.on s4 h3⟩
        | bk ρ4 st4 => rw [ee] at h3; exact h3
        | rt v4 st4 => rw [ee] at h3; exact h3
        | exc k ρ4 st4 => rw [ee] at h3; exact h3
        | bad => rw [ee] at h3; exact h3
    · have e : i = xs.length := by omega
      subst e
      rw [List.drop_length, forL] at h2
      exact .inl ⟨dr.stop φ2 H2 s2, h2 σ2 H2 φ2 .rfl rs2 re2⟩
theorem ss_for_k (hp : PassesOwn (model X.prog X.w) X.A X.env X.xe) (hc : X.calm = true) (hi : KqI X tg l (tI S X ci)) (hg : KqG X tg (tG S X ct)) (hb : KqSs X ss (tSs S X cs)) (hs : ∀ x, foldedSetIterable l X.env x = pure x := by intro _; rfl) :
    KqS X (.For tg l ss [] pos) (tS S X (.for ct ci cs)) := by with_unfolding_all exact ss_for hp hc hi hg hb hs
theorem ss_while (hp : PassesOwn (model X.prog X.w) X.A X.env X.xe) (hc : PT X c (tTs S X cc)) (hb : PSs X ss (tSs S X cs)) : PS X (.While c ss [] pos) (tS S X (.while cc cs)) :=
  (ps_while hp hc hb).imp fun D σ H ⟨B, φ, st, ρ, rs, re, h⟩ => by
    simp only [ex] at h
    refine ⟨fun m σ H => ∃ φ st ρ, RepS X.K S.cl B φ H st /\ RepE X.K S.cl B φ H ρ σ /\ RunF S X B φ H (whileL (fun ρ2 st2 => ev S.call ρ2 st2 cc) (fun ρ2 st2 => exs S.call ρ2 st2 cs) m ρ st) D, ⟨100000, φ, st, ρ, rs, re, h⟩, ?_⟩
    rintro m σ2 H2 ⟨φ2, st2, ρ2, rs2, re2, h2⟩
    cases m with
    | zero => exact h2.elim
    | succ m =>
      rw [whileL] at h2
      rw [flT _ fun k st1 => cond k (againF (exs S.call ρ2 st1 cs) fun ρ2 st2 => whileL (fun ρ2 st2 => ev S.call ρ2 st2 cc) (fun ρ2 st2 => exs S.call ρ2 st2 cs) m ρ2 st2) (.nx ρ2 st1)] at h2
      refine tTs.fl rs2 re2 h2 fun k H3 st3 φ3 s3 rs3 re3 h3 => ?_
      cases k with
      | false => exact h3 σ2 H3 φ3 .rfl rs3 re3
      | true =>
        refine ⟨fun σ' H' => ∃ φ st ρ, RepS X.K S.cl B φ H' st /\ RepE X.K S.cl B φ H' ρ σ' /\ RunF S X B φ H' (whileL (fun ρ2 st2 => ev S.call ρ2 st2 cc) (fun ρ2 st2 => exs S.call ρ2 st2 cs) m ρ st) D,
          fun σ' H' q => ⟨m, by omega, q⟩, B, φ3, st3, ρ2, rs3, re3, ?_⟩
        simp only [cond_true] at h3
        cases ee : exs S.call ρ2 st3 cs with
        | nx ρ4 st4 =>
          rw [ee] at h3
          exact fun σ4 H4 φ4 s4 rs4 re4 => ⟨φ4, st4, ρ4, rs4, re4, RunF.on s4 h3⟩
        | ct ρ4 st4 =>
          rw [ee] at h3
          exact fun σ4 H4 φ4 s4 rs4 re4 => ⟨φ4, st4, ρ4, rs4, re4, RunF.on s4 h3⟩
        | bk ρ4 st4 => rw [ee] at h3; exact h3
        | rt v4 st4 => rw [ee] at h3; exact h3
        | exc k ρ4 st4 => rw [ee] at h3; exact h3
        | bad => rw [ee] at h3; exact h3
theorem ss_while_k (hp : PassesOwn (model X.prog X.w) X.A X.env X.xe) (hc : KqT X c (tTs S X cc)) (hb : KqSs X ss (tSs S X cs)) : KqS X (.While c ss [] pos) (tS S X (.while cc cs)) := by with_unfolding_all exact ss_while hp hc hb
end
end L2
namespace L2
open PySem PySem.Spec PyProof.Rows IC
section
variable (S : Se) (K : PySem.W.Frag)
def Run0 {α β : Type} (B : Addr -> Prop) (φ : Ph) (H : Hp) (Rel : Ph -> Hp -> α -> β -> Prop) (r : R α) (Q : β -> Hp -> Prop) : Prop :=
  match r with
  | .ok v st' => ∀ x H' φ', Step φ H φ' H' -> RepS K S.cl B φ' H' st' -> Rel φ' H' v x -> Q x H'
  | _ => False
noncomputable def tE0 (c : Ce) : TE := fun σ H Q => ∃ B φ st ρ, RepS K S.cl B φ H st /\ RepE K S.cl B φ H ρ σ /\ Run0 S K B φ H (fun φ H => RepV K S.cl B φ H) (ev S.call ρ st c) Q
noncomputable def tT0 (c : Ce) : TT := fun σ H Q => ∃ B φ st ρ, RepS K S.cl B φ H st /\ RepE K S.cl B φ H ρ σ /\ Run0 S K B φ H RB (truR (ev S.call ρ st c)) Q
noncomputable def tG0 (t : Tg) : TG := fun v σ H Q => ∃ B φ st ρ w ρ', RepS K S.cl B φ H st /\ RepE K S.cl B φ H ρ σ /\ RepV K S.cl B φ H w v /\ bindT t w ρ = some ρ' /\ ∀ σ', RepE K S.cl B φ H ρ' σ' -> Q σ' H
end
section
variable {S : Se} {X : Cx} {K : PySem.W.Frag} {cl : Nat -> Addr} {σ : St} {B : Addr -> Prop} {φ φ1 : Ph} {H H1 : Hp} {st : Store} {ρ : IC.Env} {pos p p2 px : Pos} {a b c o tg l elt iter : Expr} {ca cb cc ce : Ce} {ci : Cit} {ct : Tg}
theorem se_zero (hK : X.K = K) (h : PE X a (tE S X ca)) : PE X a (tE0 S K ca) := by
  subst hK
  refine h.imp fun σ H Q ⟨B, φ, st, ρ, rs, re, q⟩ => ⟨B, φ, st, ρ, rs, re, ?_⟩
  cases e : ev S.call ρ st ca with
  | ok v st' => rw [e] at q; exact q
  | exc k st' => rw [e] at q; exact q.elim
  | bad => rw [e] at q; exact q
theorem se_zero_k (hK : X.K = K) (h : KqE X a (tE S X ca)) : KqE X a (tE0 S K ca) := by with_unfolding_all exact se_zero hK h
theorem st_zero0 : PTs X [] (tT0 S K (.cst (.bl true))) := fun pins s σ H Q I ⟨B, φ, st, ρ, rs, re, q⟩ => by
  refine pts_nil pins s σ H Q I ?_
  simp only [ev, truR, R.bind, truV, onO] at q
  exact q true H φ .rfl rs rfl
theorem st_zero0_k : KqTs X [] (tT0 S K (.cst (.bl true))) := by with_unfolding_all exact st_zero0
theorem sg_zero (hK : X.K = K) (h : PG X tg (tG S X ct)) : PG X tg (tG0 S K ct) := by
  subst hK
  exact h
theorem sg_zero_k (hK : X.K = K) (h : KqG X tg (tG S X ct)) : KqG X tg (tG0 S K ct) := by with_unfolding_all exact sg_zero hK h
theorem RTup.skip {k : Bool} {D y : Addr} {u : HO} {xs : List V} (hD : B D) (r : RTup K B φ H k y xs) : RTup K B φ (L2.upd H D u) k y xs := by
  rcases r with ⟨r, b, n⟩ | r
  · exact .inl ⟨by rw [upd_ne (show y ≠ D from fun z => b (z ▸ hD))]; exact r, b, n⟩
  · exact .inr r
mutual
theorem RepV.skip {D : Addr} {u : HO} (hD : B D) : ∀ (v : PV) (x : V), RepV K cl B φ H v x -> RepV K cl B φ (L2.upd H D u) v x
  | .non, x, h => by simp only [RepV] at h ⊢; exact h
  | .bl b, x, h => by simp only [RepV] at h ⊢; exact h
  | .int i, x, h => by simp only [RepV] at h ⊢; exact h
  | .str y, x, h => by simp only [RepV] at h ⊢; exact h
  | .tp k vs, x, h => by
    simp only [RepV] at h ⊢
    obtain ⟨y, xs, e, r, l⟩ := h
    exact ⟨y, xs, e, r.skip hD, RepL.skip hD vs xs l⟩
  | .lst vs, x, h => by
    simp only [RepV] at h ⊢
    obtain ⟨y, xs, e, ⟨r, b, n⟩, l⟩ := h
    exact ⟨y, xs, e, ⟨by rw [upd_ne (show y ≠ D from fun z => b (z ▸ hD))]; exact r, b, n⟩, RepL.skip hD vs xs l⟩
  | .loc n, x, h => by simp only [RepV] at h ⊢; exact h
  | .exn c, x, h => by
    simp only [RepV] at h ⊢
    obtain ⟨y, e, r, b, n⟩ := h
    exact ⟨y, e, by rw [upd_ne (show y ≠ D from fun z => b (z ▸ hD))]; exact r, b, n⟩
  | .scr vs, x, h => by
    simp only [RepV] at h ⊢
    obtain ⟨y, xs, e, r, l⟩ := h
    refine ⟨y, xs, e, ?_, RepL.skip hD vs xs l⟩
    rcases r with ⟨r, b, n⟩ | r
    · refine .inl ⟨?_, b, n⟩
      have ne : y ≠ D := fun z => b (z ▸ hD)
      rcases r with r | ⟨o, r⟩
      · exact .inl (by rw [upd_ne ne]; exact r)
      · exact .inr ⟨o, by rw [upd_ne ne]; exact r⟩
    · exact .inr r
theorem RepL.skip {D : Addr} {u : HO} (hD : B D) : ∀ (v : List PV) (x : List V), RepL K cl B φ H v x -> RepL K cl B φ (L2.upd H D u) v x
  | [], x, h => by simp only [RepL] at h ⊢; exact h
  | v :: vs, x, h => by
    simp only [RepL] at h ⊢
    obtain ⟨y, ys, e, r, l⟩ := h
    exact ⟨y, ys, e, RepV.skip hD v y r, RepL.skip hD vs ys l⟩
end
theorem DK.skip {D : Addr} {u : HO} (hD : B D) : ∀ {kvs : List (PV × PV)} {ks : List (Key × V)}, DK K cl B φ H kvs ks -> DK K cl B φ (L2.upd H D u) kvs ks
  | [], ks, h => h
  | (k, v) :: r, ks, h => by
    obtain ⟨q, x, t, e, m, rv, l⟩ := h
    exact ⟨q, x, t, e, m, rv.skip hD, DK.skip hD l⟩
theorem DT.skip {D : Addr} {u : HO} (hD : B D) : ∀ {kvs : List (PV × PV)} {ks : List (List Key × V)}, DT K cl B φ H kvs ks -> DT K cl B φ (L2.upd H D u) kvs ks
  | [], ks, h => h
  | (k, v) :: r, ks, h => by
    obtain ⟨q, x, t, e, m, rv, l⟩ := h
    exact ⟨q, x, t, e, m, rv.skip hD, DT.skip hD l⟩
theorem RepS.skip {D : Addr} {u : HO} (hD : B D) (rs : RepS K cl B φ H st) : RepS K cl B φ (L2.upd H D u) st := by
  refine ⟨rs.len, rs.inj, fun n y e => ?_, rs.liv, rs.nb, fun y h => ?_⟩
  · obtain ⟨o, q, r⟩ := rs.obj n y e
    have ne : y ≠ D := fun z => rs.nb y (List.mem_of_getElem? e) (z ▸ hD)
    refine ⟨o, q, ?_⟩
    cases o with
    | lst vs =>
      obtain ⟨xs, hx, l⟩ := r
      exact ⟨xs, by rw [upd_ne ne]; exact hx, l.skip hD⟩
    | dct t kvs =>
      cases t with
      | false =>
        obtain ⟨xs, hx, l⟩ := r
        exact ⟨xs, by rw [upd_ne ne]; exact hx, l.skip hD⟩
      | true =>
        obtain ⟨xs, hx, l⟩ := r
        exact ⟨xs, by rw [upd_ne ne]; exact hx, l.skip hD⟩
    | dead => exact r.elim
  · by_cases z : y = D
    · subst z; exact ⟨u, upd_same⟩
    · obtain ⟨w, e⟩ := rs.dom y h
      exact ⟨w, by rw [upd_ne z]; exact e⟩
theorem RepE.skip {D : Addr} {u : HO} (hD : B D) (re : RepE K cl B φ H ρ σ) : RepE K cl B φ (L2.upd H D u) ρ σ := ⟨re.len, fun i v e => by
  obtain ⟨x, h, q⟩ := re.get i v e
  exact ⟨x, h, q.skip hD⟩⟩
noncomputable def Bx (B : Addr -> Prop) (D : Addr) : Addr -> Prop := fun y => B y \/ y = D
theorem Bx_more {D : Addr} (hn : H D = none) : ∀ y, Bx B D y -> B y \/ H y = none := fun y z => z.elim .inl fun q => .inr (q ▸ hn)
theorem RepV.more {D : Addr} (hn : H D = none) {v : PV} {x : V} (h : RepV K cl B φ H v x) : RepV K cl (Bx B D) φ H v x := h.moreB (Bx_more hn)
theorem RepL.more {D : Addr} (hn : H D = none) {v : List PV} {x : List V} (h : RepL K cl B φ H v x) : RepL K cl (Bx B D) φ H v x := h.moreB (Bx_more hn)
mutual
theorem RepV.less {D : Addr} : ∀ (v : PV) (x : V), RepV K cl (Bx B D) φ H v x -> RepV K cl B φ H v x
  | .non, x, h => by simp only [RepV] at h ⊢; exact h
  | .bl b, x, h => by simp only [RepV] at h ⊢; exact h
  | .int i, x, h => by simp only [RepV] at h ⊢; exact h
  | .str y, x, h => by simp only [RepV] at h ⊢; exact h
  | .tp k vs, x, h => by
    simp only [RepV] at h ⊢
    obtain ⟨y, xs, e, r, l⟩ := h
    refine ⟨y, xs, e, ?_, RepL.less vs xs l⟩
    rcases r with ⟨r, b, n⟩ | r
    · exact .inl ⟨r, fun z => b (.inl z), n⟩
    · exact .inr r
  | .lst vs, x, h => by
    simp only [RepV] at h ⊢
    obtain ⟨y, xs, e, ⟨r, b, n⟩, l⟩ := h
    exact ⟨y, xs, e, ⟨r, fun z => b (.inl z), n⟩, RepL.less vs xs l⟩
  | .loc n, x, h => by simp only [RepV] at h ⊢; exact h
  | .exn c, x, h => by
    simp only [RepV] at h ⊢
    obtain ⟨y, e, r, b, n⟩ := h
    exact ⟨y, e, r, fun z => b (.inl z), n⟩
  | .scr vs, x, h => by
    simp only [RepV] at h ⊢
    obtain ⟨y, xs, e, r, l⟩ := h
    refine ⟨y, xs, e, ?_, RepL.less vs xs l⟩
    rcases r with ⟨r, b, n⟩ | r
    · exact .inl ⟨r, fun z => b (.inl z), n⟩
    · exact .inr r
theorem RepL.less {D : Addr} : ∀ (v : List PV) (x : List V), RepL K cl (Bx B D) φ H v x -> RepL K cl B φ H v x
  | [], x, h => by simp only [RepL] at h ⊢; exact h
  | v :: vs, x, h => by
    simp only [RepL] at h ⊢
    obtain ⟨y, ys, e, r, l⟩ := h
    exact ⟨y, ys, e, RepV.less v y r, RepL.less vs ys l⟩
end
theorem DK.more {D : Addr} (hn : H D = none) : ∀ {kvs : List (PV × PV)} {ks : List (Key × V)}, DK K cl B φ H kvs ks -> DK K cl (Bx B D) φ H kvs ks
  | [], ks, h => h
  | (k, v) :: r, ks, h => by
    obtain ⟨q, x, t, e, m, rv, l⟩ := h
    exact ⟨q, x, t, e, m, rv.more hn, DK.more hn l⟩
theorem DT.more {D : Addr} (hn : H D = none) : ∀ {kvs : List (PV × PV)} {ks : List (List Key × V)}, DT K cl B φ H kvs ks -> DT K cl (Bx B D) φ H kvs ks
  | [], ks, h => h
  | (k, v) :: r, ks, h => by
    obtain ⟨q, x, t, e, m, rv, l⟩ := h
    exact ⟨q, x, t, e, m, rv.more hn, DT.more hn l⟩
theorem DK.less {D : Addr} : ∀ {kvs : List (PV × PV)} {ks : List (Key × V)}, DK K cl (Bx B D) φ H kvs ks -> DK K cl B φ H kvs ks
  | [], ks, h => h
  | (k, v) :: r, ks, h => by
    obtain ⟨q, x, t, e, m, rv, l⟩ := h
    exact ⟨q, x, t, e, m, rv.less, DK.less l⟩
theorem DT.less {D : Addr} : ∀ {kvs : List (PV × PV)} {ks : List (List Key × V)}, DT K cl (Bx B D) φ H kvs ks -> DT K cl B φ H kvs ks
  | [], ks, h => h
  | (k, v) :: r, ks, h => by
    obtain ⟨q, x, t, e, m, rv, l⟩ := h
    exact ⟨q, x, t, e, m, rv.less, DT.less l⟩
theorem RepS.less {D : Addr} (rs : RepS K cl (Bx B D) φ H st) : RepS K cl B φ H st := by
  refine ⟨rs.len, rs.inj, fun n y e => ?_, rs.liv, fun y h z => rs.nb y h (.inl z), fun y h => rs.dom y (.inl h)⟩
  obtain ⟨o, q, r⟩ := rs.obj n y e
  refine ⟨o, q, ?_⟩
  cases o with
  | lst vs => obtain ⟨xs, hx, l⟩ := r; exact ⟨xs, hx, l.less⟩
  | dct t kvs => cases t <;> (obtain ⟨xs, hx, l⟩ := r; exact ⟨xs, hx, l.less⟩)
  | dead => exact r.elim
theorem RepS.more {D : Addr} {u : HO} (hn : H D = none) (rs : RepS K cl B φ H st) : RepS K cl (Bx B D) φ (L2.upd H D u) st := by
  have nD : some D ∉ φ := fun z => by
    obtain ⟨w, e⟩ := rs.there z
    rw [hn] at e; cases e
  have s : Step φ H φ (L2.upd H D u) := .upd hn
  have rs' := rs.upd (o := u) hn
  refine ⟨rs.len, rs.inj, fun n y e => ?_, rs.liv, fun y h z => z.elim (rs.nb y h) fun q => nD (q ▸ h), fun y h => ?_⟩
  · obtain ⟨o, q, r⟩ := rs.obj n y e
    have ne : y ≠ D := fun z => nD (z ▸ List.mem_of_getElem? e)
    have hD : Bx B D D := .inr rfl
    refine ⟨o, q, ?_⟩
    cases o with
    | lst vs => obtain ⟨xs, hx, l⟩ := r; exact ⟨xs, by rw [upd_ne ne]; exact hx, (l.more hn).skip hD⟩
    | dct t kvs =>
      cases t with
      | false => obtain ⟨xs, hx, l⟩ := r; exact ⟨xs, by rw [upd_ne ne]; exact hx, (l.more hn).skip hD⟩
      | true => obtain ⟨xs, hx, l⟩ := r; exact ⟨xs, by rw [upd_ne ne]; exact hx, (l.more hn).skip hD⟩
    | dead => exact r.elim
  · rcases h with h | h
    · exact rs'.dom y h
    · subst h; exact ⟨u, upd_same⟩
theorem RepE.more {D : Addr} {u : HO} (hn : H D = none) (re : RepE K cl B φ H ρ σ) : RepE K cl (Bx B D) φ (L2.upd H D u) ρ σ := ⟨re.len, fun i v e => by
  obtain ⟨x, h, q⟩ := re.get i v e
  exact ⟨x, h, (q.more hn).skip (.inr rfl)⟩⟩
noncomputable def tgtFree : Tg -> List (Option Nat) -> Bool
  | .n i, sl => decide (sl[i]? = some none)
  | .t l, sl => l.all fun i => decide (sl[i]? = some none)
theorem sets_out : ∀ (l : List Nat) (vs : List PV) (ρ : IC.Env) (j : Nat), j ∉ l -> ((l.zip vs).foldl (fun ρ p => ρ.set p.1 (some p.2)) ρ)[j]? = ρ[j]?
  | [], vs, ρ, j, h => by simp
  | i :: is, [], ρ, j, h => by simp
  | i :: is, v :: vs, ρ, j, h => by
    simp only [List.zip_cons_cons, List.foldl_cons]
    rw [sets_out is vs _ j fun z => h (List.mem_cons_of_mem _ z), List.getElem?_set_ne]
    rintro rfl
    exact h List.mem_cons_self
theorem sets_len : ∀ (l : List Nat) (vs : List PV) (ρ : IC.Env), ((l.zip vs).foldl (fun ρ p => ρ.set p.1 (some p.2)) ρ).length = ρ.length
  | [], vs, ρ => by simp
  | i :: is, [], ρ => by simp
  | i :: is, v :: vs, ρ => by
    simp only [List.zip_cons_cons, List.foldl_cons]
    rw [sets_len is vs, List.length_set]
theorem RepE.untgt {sl : List (Option Nat)} {ρ0 ρ1 : IC.Env} {v : PV} (hf : tgtFree ct sl = true) (h0 : ∀ (i : Nat), sl[i]? = some none -> ρ0[i]? = some none) (hb : bindT ct v ρ0 = some ρ1) (re : RepE K cl B φ H ρ1 σ) : RepE K cl B φ H ρ0 σ := by
  cases ct with
  | n i =>
    cases hb
    simp only [tgtFree, decide_eq_true_eq] at hf
    refine ⟨by rw [<- re.len, List.length_set], fun j w e => re.get j w ?_⟩
    rw [List.getElem?_set_ne]
    · exact e
    · rintro rfl
      rw [h0 _ hf] at e; cases e
  | t l =>
    cases v with
    | tp k vs =>
      simp only [bindT] at hb
      split at hb
      · cases hb
        simp only [tgtFree, List.all_eq_true, decide_eq_true_eq] at hf
        refine ⟨by rw [<- re.len, sets_len], fun j w e => re.get j w ?_⟩
        rw [sets_out]
        · exact e
        · intro z
          rw [h0 _ (hf j z)] at e; cases e
      · cases hb
    | _ => cases hb
theorem RepE.inn {sl : List (Option Nat)} (re : RepE K cl B φ H ρ σ) : RepE K cl B φ H (sl.map fun o => o.bind fun j => (ρ[j]?).join) (L2.inn sl σ) := by
  unfold L2.inn
  refine ⟨by simp, fun i v e => ?_⟩
  rw [List.getElem?_map] at e ⊢
  cases q : sl[i]? with
  | none => rw [q] at e; cases e
  | some o =>
    rw [q] at e
    cases o with
    | none => cases e
    | some j =>
      simp only [Option.map_some, Option.bind_some, Option.some.injEq] at e ⊢
      cases q2 : ρ[j]? with
      | none => rw [q2] at e; cases e
      | some w =>
        rw [q2] at e
        simp only [Option.join_some] at e
        subst e
        obtain ⟨x, hx, rv⟩ := re.get j v q2
        exact ⟨x, by rw [hx]; rfl, rv⟩
theorem million1 : 1000000 < sizeLine := by rw [sizeLine_eq]; decide
theorem onO_ok {α : Type} {o : Option Bool} {k : Bool -> R α} {z : α} {s : Store} (h : onO o k = .ok z s) : ∃ b, o = some b /\ k b = .ok z s := by
  cases o with
  | none => cases h
  | some b => exact ⟨b, rfl, h⟩
theorem bind_ok {α β : Type} {r : R α} {k : α -> Store -> R β} {z : β} {s : Store} (h : r.bind k = .ok z s) : ∃ a s1, r = .ok a s1 /\ k a s1 = .ok z s := by
  cases r with
  | ok a s1 => exact ⟨a, s1, rfl, h⟩
  | exc c s => cases h
  | bad => cases h
theorem comp_read {sl : List (Option Nat)} (hf : tgtFree ct sl = true) {H : Hp} {Q : VK} (h : tE S X (.comp sl ct ci cc ce) σ H Q) : tComp sl (tI S X ci) (tG0 S X.K ct) (tT0 S X.K cc) (tE0 S X.K ce) σ H Q := by
    obtain ⟨B, φ, st, ρ, rs, re, h⟩ := h
    simp only [ev] at h
    refine ⟨B, φ, st, ρ, rs, re, (Run.bind h).mono fun J H1 ⟨xs, st1, φ1, s1, rs1, dr, h1⟩ => fun D hD => ?_⟩
    generalize hone : (fun (x : PV) (st2 : Store) => match bindT ct x (sl.map fun o => o.bind fun j => (ρ[j]?).join) with
      | none => (R.bad : R (Option PV))
      | some ρ1 => (ev S.call ρ1 st2 cc).bind fun b st3 => onO (truV st3 b) fun k => cond k ((ev S.call ρ1 st3 ce).bind fun y st4 => .ok (some y) st4) (.ok none st3)) = one at h1
    cases e : compL one xs st1 with
    | exc k s => rw [e] at h1; exact h1.elim
    | bad => rw [e] at h1; exact h1.elim
    | ok zs st5 =>
      rw [e] at h1
      simp only [lstR] at h1
      split at h1
      case isFalse => exact h1.elim
      rename_i hz
      have nB : ¬ B D := rs1.nB hD
      have nD : some D ∉ φ1 := fun z => by
        obtain ⟨w, e⟩ := rs1.there z
        rw [hD] at e; cases e
      refine ⟨fun i m σc ys H2 => ∃ φ2 st2 vs rest, i + m = xs.length /\ Step φ1 H1 φ2 H2 /\ H2 D = some (.lst ys) /\ some D ∉ φ2 /\ RepS X.K S.cl (Bx B D) φ2 H2 st2 /\ RepE X.K S.cl (Bx B D) φ2 H2 (sl.map fun o => o.bind fun j => (ρ[j]?).join) σc /\
          RepL X.K S.cl (Bx B D) φ2 H2 vs ys /\ compL one (xs.drop i) st2 = .ok rest st5 /\ vs ++ rest = zs,
        ⟨xs.length, φ1, st1, [], zs, by omega, .upd hD, upd_same, nD, rs1.more hD, (RepE.inn (re.step s1)).more hD, by simp only [RepL], by simpa using e, rfl⟩, ?_⟩
      rintro i m σc ys H2 ⟨φ2, st2, vs, rest, hm, s2, hD2, nD2, rs2, re2, l2, ec, ez⟩
      refine ⟨hD2, ?_⟩
      by_cases hi : i < xs.length
      · have hl2 := l2.length
        have hml := million1
        have hzl := congrArg List.length ez
        rw [List.length_append] at hzl
        refine .inr ⟨dr.go i φ2 H2 s2 hi, by omega, fun σ' ys' H' => ∃ φ2 st2 vs rest, Step φ1 H1 φ2 H' /\ H' D = some (.lst ys') /\ some D ∉ φ2 /\ RepS X.K S.cl (Bx B D) φ2 H' st2 /\ RepE X.K S.cl (Bx B D) φ2 H' (sl.map fun o => o.bind fun j => (ρ[j]?).join) σ' /\
          RepL X.K S.cl (Bx B D) φ2 H' vs ys' /\ compL one (xs.drop (i + 1)) st2 = .ok rest st5 /\ vs ++ rest = zs, fun σ' ys' H' ⟨φ2, st2, vs, rest, q⟩ => ⟨m - 1, by omega, φ2, st2, vs, rest, by omega, q⟩, fun x H3 hy => ?_⟩
        obtain ⟨v, hv, rv, kk⟩ := dr.yld i φ2 H2 st2 x H3 (Bx B D) (fun y z => z.elim .inl fun q => .inr (q ▸ hD)) s2 rs2 hi hy
        have s3 : Step φ2 H2 φ2 H3 := ⟨fun b o _ e => kk b o e, Nat.le_refl _, fun _ _ _ e => e, fun _ h => .inl h⟩
        have rs3 : RepS X.K S.cl (Bx B D) φ2 H3 st2 := rs2.same kk
        have ed : xs.drop i = v :: xs.drop (i + 1) := by
          rw [List.drop_eq_getElem_cons hi]
          rw [List.getElem?_eq_getElem hi] at hv
          rw [Option.some.inj hv]
        rw [ed, compL] at ec
        obtain ⟨o, st3, e1, ec⟩ := bind_ok ec
        obtain ⟨rest', st4, e2, ec⟩ := bind_ok ec
        rw [<- hone] at e1
        dsimp only at e1
        cases eb : bindT ct v (sl.map fun o => o.bind fun j => (ρ[j]?).join) with
        | none => rw [eb] at e1; cases e1
        | some ρ1 =>
          rw [eb] at e1
          dsimp only at e1
          obtain ⟨bv, st6, e3, e1⟩ := bind_ok e1
          obtain ⟨k, e4, e1⟩ := onO_ok e1
          have er : st4 = st5 /\ consO o rest' = rest := by
            injection ec with q1 q2
            exact ⟨q2, q1⟩
          obtain ⟨rfl, rfl⟩ := er
          refine ⟨Bx B D, φ2, st2, _, v, ρ1, rs3, re2.step s3, rv, eb, fun σ4 re4 => ⟨Bx B D, φ2, st2, ρ1, rs3, re4, ?_⟩⟩
          have et : truR (ev S.call ρ1 st2 cc) = .ok k st6 := by
            rw [e3]
            simp only [truR, R.bind, e4, onO]
          rw [et]
          rintro k' H5 φ5 s5 rs5 rfl
          have nD5 : some D ∉ φ5 := fun z => by
            rcases s5.new D z with q | q
            · exact nD2 q
            · rw [kk D _ hD2] at q; cases q
          have hD5 : H5 D = some (.lst ys) := s5.keep D _ nD2 (kk D _ hD2)
          have s25 : Step φ1 H1 φ5 H5 := s2.trans (s3.trans s5)
          have l5 := (l2.step s3).step s5
          have re5 : RepE X.K S.cl (Bx B D) φ5 H5 ρ1 σ4 := re4.step s5
          have h0 : ∀ (i : Nat), sl[i]? = some none -> (sl.map fun o => o.bind fun j => (ρ[j]?).join)[i]? = some none := fun i q => by
            rw [List.getElem?_map, q]; rfl
          cases k with
          | false =>
            simp only [cond_false] at e1
            cases e1
            exact ⟨φ5, _, vs, rest', s25, hD5, nD5, rs5, RepE.untgt hf h0 eb re5, l5, e2, ez⟩
          | true =>
            simp only [cond_true] at e1
            obtain ⟨y, st7, e5, e1⟩ := bind_ok e1
            cases e1
            refine ⟨Bx B D, φ5, st6, ρ1, rs5, re5, ?_⟩
            rw [e5]
            intro y' H6 φ6 s6 rs6 ry
            have nD6 : some D ∉ φ6 := fun z => by
              rcases s6.new D z with q | q
              · exact nD5 q
              · rw [hD5] at q; cases q
            have hD6 : H6 D = some (.lst ys) := s6.keep D _ nD5 hD5
            have hBD : Bx B D D := .inr rfl
            refine ⟨hD6, φ6, _, vs ++ [y], rest', ?_, upd_same, nD6, rs6.skip hBD, (RepE.untgt hf h0 eb (re5.step s6)).skip hBD, ((l5.step s6).append (by simp only [RepL]; exact ⟨y', [], rfl, ry, rfl⟩)).skip hBD, e2, ?_⟩
            · have s16 := s25.trans s6
              exact ⟨fun b o n q => by rw [upd_ne (ne_of_none q hD)]; exact s16.keep b o n q, s16.len, s16.pre, s16.new⟩
            · simpa [consO] using ez
      · have ei : i = xs.length := by omega
        subst ei
        rw [List.drop_length, compL] at ec
        cases ec
        refine .inl ⟨dr.stop φ2 H2 s2, h1 (.ref D) H2 φ2 s2 rs2.less ?_⟩
        simp only [RepV]
        exact ⟨D, ys, rfl, ⟨hD2, nB, nD2⟩, by rw [<- ez, List.append_nil]; exact l2.less⟩
theorem se_comp {sc : Scope} {NC : List Str} {sl : List (Option Nat)} {ifs : List Expr} (hc : X.calm = true) (O : CompOk X sc NC sl) (hf : tgtFree ct sl = true) (hi : PI X tg iter (tI S X ci)) (hg : ∀ j, PG (cxC X sc NC j) tg (tG0 S X.K ct))
    (ht : ∀ j, PTs (cxC X sc NC j) ifs (tT0 S X.K cc)) (he : ∀ j, PE (cxC X sc NC j) elt (tE0 S X.K ce)) (hs : ∀ x, foldedSetIterable iter X.env x = pure x := by intro _; rfl) :
    PE X (.ListComp elt [⟨tg, iter, ifs, 0⟩] sc pos) (tE S X (.comp sl ct ci cc ce)) :=
  (pe_comp hc O hi hg ht he hs).imp fun σ H Q h => comp_read hf h
theorem se_comp_k {sc : Scope} {NC : List Str} {sl : List (Option Nat)} {ifs : List Expr} (hc : X.calm = true) (O : CompOk X sc NC sl) (hf : tgtFree ct sl = true) (hi : KqI X tg iter (tI S X ci)) (hg : ∀ j, KqG (cxC X sc NC j) tg (tG0 S X.K ct))
    (ht : ∀ j, KqTs (cxC X sc NC j) ifs (tT0 S X.K cc)) (he : ∀ j, KqE (cxC X sc NC j) elt (tE0 S X.K ce)) (hs : ∀ x, foldedSetIterable iter X.env x = pure x := by intro _; rfl) :
    KqE X (.ListComp elt [⟨tg, iter, ifs, 0⟩] sc pos) (tE S X (.comp sl ct ci cc ce)) := by with_unfolding_all exact se_comp hc O hf hi hg ht he hs
end
end L2
namespace L2
open PySem PySem.Spec PyProof.Rows IC
noncomputable def spI (K : PySem.W.Frag) (cl : Nat -> Addr) (call : Nat -> List PV -> Store -> R PV) (f : Nat) : Sp := fun vs H Q E => ∃ B φ st args, RepS K cl B φ H st /\ RepL K cl B φ H args vs /\ match call f args st with
  | .ok v st' => ∀ x H' φ', Step φ H φ' H' -> RepS K cl B φ' H' st' -> RepV K cl B φ' H' v x -> Q x H'
  | .exc c st' => ∀ H' φ', Step φ H φ' H' -> RepS K cl B φ' H' st' -> E (.ref (cl c)) none H'
  | .bad => False
section
variable {S : Se} {X : Cx} {k : Nat} {f : Addr} {fd : FuncData} {ps ks : List Str} {sp : Sp} {dvs : List V} {ds : List Value} {x : Str} {p pos : Pos} {e : Expr} {es : List Expr} {t tk : TA} {CX : CXT} {σ : St} {H : Hp}
theorem run_fnS {pins : List (Addr × Obj)} {s : Shared} {Q : VK} {us : List Value} {vs : List V} {E : XK} (F : FnOk X.prog X.w X.K X.mg X.base CX k f fd ps sp) (hr : Room k X.A) (hb : Binds X.K fd ps ds) (hd : Vals dvs ds)
    (I : Inv X pins σ H s) (r : Vals vs us) (h : sp (vs ++ dvs) H Q E) (hx : ∀ e s', CX X.stack H s E e s' -> X.xe e s') : wpAny (model X.prog X.w) X.A (call (.ref f) us) (EP X pins σ Q) X.xe s := by
  have r2 : Vals (vs ++ dvs) (us ++ ds) := r.append hd
  have hl : (us ++ ds).length = ps.length := by rw [<- r2.length]; exact F.len _ _ _ _ h
  refine wpAny_call (codeAny_mono (F.run X.A X.stack s H ⟨us, []⟩ (us ++ ds) (vs ++ dvs) Q E hr I.env0 (hb s us I.kIn hl) r2 h) fun r s' hq => ?_)
  cases r with
  | error e => exact hx e s' hq
  | ok fl =>
    cases fl with
    | ret u => exact I.after hq
    | next => exact False.elim hq
    | brk => exact False.elim hq
    | cont => exact False.elim hq
noncomputable def tCallS (CX : CXT) (X : Cx) (sp : Sp) (dvs : List V) (t : TA) : TE := fun σ H Q => t σ H fun vs H1 => ∃ E : XK, sp (vs ++ dvs) H1 Q E /\ ∀ pins s e s', Inv X pins σ H1 s -> CX X.stack H1 s E e s' -> X.xe e s'
theorem pe_callS (F : FnOk X.prog X.w X.K X.mg X.base CX k f fd ps sp) (hr : Room k X.A) (hg : Gl X x) (hm : X.mg x = some (.ref f)) (hk : PySem.W.keepIn X.K (.ref f) = true) (hb : Binds X.K fd ps ds) (hd : Vals dvs ds)
    (ha : PA X (e :: es) t) (hdb : (x == ("__debug__" : Str)) = false := by decide) (he : starEach (e :: es) X.env = (false, eval e X.env) :: starEach es X.env := by rfl) (hpl : (backTo pos (starEach es X.env)).any (·.1) = false := by rfl) :
    PE X (.Call (.Name x p) (e :: es) [] pos) (tCallS CX X sp dvs t) := by
  intro pins s σ H Q I h
  refine wpAny_Call_Name_kw (ld_glob I hg hm ?_ hdb)
  refine PySem.W.callWith_K (h₀ := X.base) I.ok.mod.kin hk (thn (ha pos pins s σ H _ I h) fun us s1 ⟨vs, H1, I1, r, E, q, hx⟩ => ⟨I1.kIn, ?_⟩) he hpl
  exact run_fnS F hr hb hd I1 r q fun e s' c => hx pins s1 e s' I1 c
variable {B : Addr -> Prop} {φ : Ph} {st : Store} {ces : Ces} {fi : Nat}
theorem call_read {vs : List PV} {xs : List V} {Q : VK} (rs : RepS X.K S.cl B φ H st) (l : RepL X.K S.cl B φ H vs xs) (h : Run S X σ B φ H (RV S X B) (S.call fi vs st) Q) :
    ∃ E : XK, spI X.K S.cl S.call fi xs H Q E /\ ∀ pins s e s', Inv X pins σ H s -> CX1 X.prog X.w X.stack H s E e s' -> X.xe e s' := by
  cases c : S.call fi vs st with
  | ok v st' =>
    rw [c] at h
    refine ⟨fun _ _ _ => False, ⟨B, φ, st, vs, rs, l, by rw [c]; exact h⟩, fun pins s e s' _ z => ?_⟩
    obtain ⟨_, _, _, _, _, _, _, _, _, _, _, _, _, _, z⟩ := z
    exact z.elim
  | exc k st' =>
    rw [c] at h
    refine ⟨fun cls _ H' => cls = .ref (S.cl k) /\ ∃ φ', Step φ H φ' H' /\ RepS X.K S.cl B φ' H' st', ⟨B, φ, st, vs, rs, l, by rw [c]; exact fun H' φ' s r => ⟨rfl, φ', s, r⟩⟩, fun pins s e s' I z => h e s' (.inl ⟨pins, H, s, φ, I, .rfl, z⟩)⟩
  | bad => rw [c] at h; exact h.elim
theorem se_call (F : FnOk X.prog X.w X.K X.mg X.base (CX1 X.prog X.w) k f fd ps (spI X.K S.cl S.call fi)) (hr : Room k X.A) (hg : Gl X x) (hm : X.mg x = some (.ref f)) (hk : PySem.W.keepIn X.K (.ref f) = true) (hb : Binds X.K fd ps [])
    (ha : PA X (e :: es) (tAs S X ces)) (hdb : (x == ("__debug__" : Str)) = false := by decide) (he : starEach (e :: es) X.env = (false, eval e X.env) :: starEach es X.env := by rfl) (hpl : (backTo pos (starEach es X.env)).any (·.1) = false := by rfl) :
    PE X (.Call (.Name x p) (e :: es) [] pos) (tE S X (.call fi ces)) :=
  (pe_callS F hr hg hm hk hb .nil ha hdb he hpl).imp fun σ H Q ⟨B, φ, st, ρ, rs, re, h⟩ => by
    simp only [ev] at h
    refine tAs.bind rs re h fun xs H1 vs st1 φ1 s1 rs1 re1 rv h1 => ?_
    rw [List.append_nil]
    exact call_read rs1 rv h1
theorem se_call_k (F : FnOk X.prog X.w X.K X.mg X.base (CX1 X.prog X.w) k f fd ps (spI X.K S.cl S.call fi)) (hr : Room k X.A) (hg : Gl X x) (hm : X.mg x = some (.ref f)) (hk : PySem.W.keepIn X.K (.ref f) = true) (hb : Binds X.K fd ps [])
    (ha : KqA X (e :: es) (tAs S X ces)) (hdb : (x == ("__debug__" : Str)) = false := by decide) (he : starEach (e :: es) X.env = (false, eval e X.env) :: starEach es X.env := by rfl) (hpl : (backTo pos (starEach es X.env)).any (·.1) = false := by rfl) :
    KqE X (.Call (.Name x p) (e :: es) [] pos) (tE S X (.call fi ces)) := by with_unfolding_all exact se_call F hr hg hm hk hb ha hdb he hpl
end
section
variable {P : Program} {w : World} {K : PySem.W.Frag} {mg : Str -> Option Value} {base : Heap} {cl : Nat -> Addr} {T : Nat -> Option IC.Fn} {fi : Nat} {fn : IC.Fn} {x qual : Str} {stm : Stmt} {f : Addr} {fd : FuncData} {N ps : List Str} {k : Nat}
theorem CX1.mono {outer : List PySem.Env} {H : Hp} {s : Shared} {E E' : XK} {e : Value} {s' : Shared} (h : CX1 P w outer H s E e s') (n : ∀ cls H', E cls none H' -> E' cls none H') : CX1 P w outer H s E' e s' := by
  obtain ⟨a, cls, a0, H', Bh, r1, r2, r3, r4, r5, r6, r7, r8, r9, r10⟩ := h
  exact ⟨a, cls, a0, H', Bh, r1, r2, r3, r4, r5, r6, r7, r8, r9, n _ _ r10⟩
theorem RepE.start {B : Addr -> Prop} {φ : Ph} {H : Hp} {args : List PV} {vs : List V} (l : RepL K cl B φ H args vs) (n : Nat) (hn : N.length - vs.length = n) : RepE K cl B φ H (args.map some ++ List.replicate n none) (L2.start N vs) := by
  have hl := l.length
  unfold L2.start
  refine ⟨by simp [hl, hn], fun i v e => ?_⟩
  by_cases hi : i < args.length
  · rw [List.getElem?_append_left (by simpa using hi), List.getElem?_map] at e
    cases q : args[i]? with
    | none => rw [q] at e; cases e
    | some v' =>
      rw [q] at e
      cases e
      obtain ⟨y, hy, rv⟩ := l.get i q
      exact ⟨y, by rw [List.getElem?_append_left (by simp; omega), List.getElem?_map, hy]; rfl, rv⟩
  · rw [List.getElem?_append_right (by simp; omega), List.getElem?_replicate] at e
    split at e <;> cases e
theorem leave {N : List Str} {scope : Scope} {cd : Value} {A : Around} {outer : List PySem.Env} {s₀ : Shared} {H₀ : Hp} {E : XK} {call : Nat -> List PV -> Store -> R PV} {σ : St} {B : Addr -> Prop} {φ : Ph} {H : Hp} {c : Nat} {st' : Store} {e : Value} {s' : Shared}
    (h : ExcAt ⟨cl, call, true⟩ (cxOf (CX1 P w) P w K mg base N qual scope f cd A outer s₀ H₀ E) σ B φ H c st' e s') (n : ∀ φ' H', Step φ H φ' H' -> RepS K cl B φ' H' st' -> E (.ref (cl c)) none H') :
    (cxOf (CX1 P w) P w K mg base N qual scope f cd A outer s₀ H₀ E).xe e s' := by
  rcases h with ⟨pins, H1, s, φ1, I, s1, q⟩ | ⟨_, pins, H1, s, φ1, h', e0, vs, I, s1, rs, mk, rfl, rfl⟩
  · exact pass1 pins σ H1 s e s' I (q.mono fun cls H' ⟨e1, φ', s2, r⟩ => by subst e1; exact n φ' H' (s1.trans s2) r)
  · exact throw_new I mk (n φ1 H1 s1 rs)
theorem fn_key (hT : T fi = some fn) : ∀ (args : List PV) (st : Store), callT T (k + 1) fi args st ≠ .bad -> args.length = fn.np := fun args st hne => by
  apply Classical.byContradiction
  intro c
  apply hne
  rw [callT, hT]
  exact if_neg c
theorem fn_len (hT : T fi = some fn) (hnp : ps.length = fn.np) {vs : List V} {H : Hp} {Q : VK} {E : XK} (h : spI K cl (callT T (k + 1)) fi vs H Q E) : vs.length = ps.length := by
  obtain ⟨B, φ, st, args, rs, l, h⟩ := h
  rw [hnp, <- l.length]
  refine fn_key (k := k) hT args st fun z => ?_
  rw [z] at h
  exact h
theorem fn_read (hT : T fi = some fn) (hns : N.length = fn.ns) {scope : Scope} {cdv : Value} {A : Around} {outer : List PySem.Env} {s : Shared} {vs : List V} {H : Hp} {Q : VK} {E : XK} (h : spI K cl (callT T (k + 1)) fi vs H Q E) :
    tSs ⟨cl, callT T k, true⟩ (cxOf (CX1 P w) P w K mg base N qual scope f cdv A outer s H E) fn.body { nx := fun _ H' => Q .non H', rt := Q } (L2.start N vs) H := by
  obtain ⟨B, φ, st, args, rs, l, h⟩ := h
  have hl : args.length = fn.np := fn_key (k := k) hT args st fun z => by rw [z] at h; exact h
  have hlen := l.length
  rw [callT, hT] at h
  dsimp only at h
  rw [if_pos hl] at h
  by_cases hp : fn.pure = true
  · rw [if_pos hp] at h
    by_cases hz : noLocs args = true
    · rw [if_pos hz] at h
      have rs0 : RepS K cl (fun a => B a \/ some a ∈ φ) [] H [] := ⟨rfl, fun m n a e => by simp at e, fun n a e => by simp at e, fun n o e => by simp at e, fun a z => by simp at z, fun a z => z.elim (rs.dom a) rs.there⟩
      have back : ∀ {φ' : Ph} {H' : Hp}, Step [] H φ' H' -> Step φ H φ H' /\ RepS K cl B φ H' st := fun {φ' H'} s' =>
        have kk : ∀ b o, H b = some o -> H' b = some o := fun b o e => s'.keep b o (by simp) e
        ⟨⟨fun b o _ e => kk b o e, Nat.le_refl _, fun _ _ _ e => e, fun _ h => .inl h⟩, rs.same kk⟩
      refine ⟨_, [], [], _, rs0, RepE.start (RepL.inn rs.nb args vs hz l) (fn.ns - fn.np) (by omega), ?_⟩
      show RunF _ _ _ _ _ (exs (callT T k) (args.map some ++ List.replicate (fn.ns - fn.np) none) [] fn.body) _
      cases e : exs (callT T k) (args.map some ++ List.replicate (fn.ns - fn.np) none) [] fn.body with
      | nx ρ' st' =>
        rw [e] at h
        intro σ' H' φ' s' rs' re'
        obtain ⟨s2, r2⟩ := back s'
        exact h .non H' φ s2 r2 (by simp only [RepV])
      | rt v st' =>
        rw [e] at h
        dsimp only at h
        by_cases hv : noLoc v = true
        · rw [if_pos hv] at h
          intro y H' φ' s' rs' rv
          obtain ⟨s2, r2⟩ := back s'
          exact h y H' φ s2 r2 (RepV.out v y hv rv)
        · rw [if_neg hv] at h
          exact h.elim
      | exc c ρ' st' =>
        rw [e] at h
        intro σ' φ1 H1 ev s' s1 _ ex
        refine leave ex fun φ2 H2 s2 _ => ?_
        obtain ⟨s3, r3⟩ := back (s1.trans s2)
        exact h H2 φ s3 r3
      | bk ρ' st' => rw [e] at h; exact h.elim
      | ct ρ' st' => rw [e] at h; exact h.elim
      | bad => rw [e] at h; exact h.elim
    · rw [if_neg hz] at h
      exact h.elim
  · rw [if_neg hp] at h
    refine ⟨B, φ, st, _, rs, RepE.start l (fn.ns - fn.np) (by omega), ?_⟩
    show RunF _ _ _ _ _ (exs (callT T k) (args.map some ++ List.replicate (fn.ns - fn.np) none) st fn.body) _
    cases e : exs (callT T k) (args.map some ++ List.replicate (fn.ns - fn.np) none) st fn.body with
    | nx ρ' st' =>
      rw [e] at h
      intro σ' H' φ' s' rs' re'
      exact h .non H' φ' s' rs' (by simp only [RepV])
    | rt v st' =>
      rw [e] at h
      intro y H' φ' s' rs' rv
      exact h y H' φ' s' rs' rv
    | exc c ρ' st' =>
      rw [e] at h
      intro σ' φ1 H1 ev s' s1 _ ex
      exact leave ex fun φ2 H2 s2 r2 => h H2 φ2 (s1.trans s2) r2
    | bk ρ' st' => rw [e] at h; exact h.elim
    | ct ρ' st' => rw [e] at h; exact h.elim
    | bad => rw [e] at h; exact h.elim
theorem fn_ok (hT : T fi = some fn) (F : Fun K x qual stm f fd) (Sc : FnScope N ps (defScope stm)) (hnp : ps.length = fn.np) (hns : N.length = fn.ns)
    (body : ∀ (cdv : Value) (A : Around) (outer : List PySem.Env) (s : Shared) (H : Hp) (E : XK), Room k (A.deeper (envOfC qual (defScope stm) s.heap.objs.size f cdv)) ->
      PSs (cxOf (CX1 P w) P w K mg base N qual (defScope stm) f cdv A outer s H E) (defBody stm) (tSs ⟨cl, callT T k, true⟩ (cxOf (CX1 P w) P w K mg base N qual (defScope stm) f cdv A outer s H E) fn.body)) :
    FnOk P w K mg base (CX1 P w) (k + 1) f fd ps (spI K cl (callT T (k + 1)) fi) :=
  F.okX Sc (fun vs H Q E h => fn_len hT hnp h) fun cdv A outer s H vs Q E hr h => ⟨_, body cdv A outer s H E hr, fn_read hT hns h⟩
theorem fn_ok_k (hT : T fi = some fn) (F : Fun K x qual stm f fd) (Sc : FnScope N ps (defScope stm)) (hnp : ps.length = fn.np) (hns : N.length = fn.ns)
    (body : ∀ (cdv : Value) (A : Around) (outer : List PySem.Env) (s : Shared) (H : Hp) (E : XK), Room k (A.deeper (envOfC qual (defScope stm) s.heap.objs.size f cdv)) ->
      KqSs (cxOf (CX1 P w) P w K mg base N qual (defScope stm) f cdv A outer s H E) (defBody stm) (tSs ⟨cl, callT T k, true⟩ (cxOf (CX1 P w) P w K mg base N qual (defScope stm) f cdv A outer s H E) fn.body)) :
    FnOk P w K mg base (CX1 P w) (k + 1) f fd ps (spI K cl (callT T (k + 1)) fi) := by with_unfolding_all exact fn_ok hT F Sc hnp hns body
theorem fn_zero (hps : ps = ps) : FnOk P w K mg base (CX1 P w) 0 f fd ps (spI K cl (callT T 0) fi) :=
  ⟨fun vs H Q E ⟨_, _, _, _, _, _, h⟩ => by rw [callT] at h; exact h.elim, fun A outer s H args us vs Q E _ _ _ _ ⟨_, _, _, _, _, _, h⟩ => by rw [callT] at h; exact h.elim⟩
end
end L2
namespace L2
open PySem PySem.Spec PyProof.Rows IC
noncomputable def tyN : Ty -> String
  | .int => "int" | .bool => "bool" | .str => "str" | .tuple => "tuple" | .list => "list" | _ => ""
structure KitT (K : PySem.W.Frag) (t : Ty) : Prop where
  n : PySem.W.kitOne K (.type "NoneType") (.type (tyN t)) = some (isTy .non t)
  b : PySem.W.kitOne K (.type "bool") (.type (tyN t)) = some (isTy (.bl true) t)
  i : PySem.W.kitOne K (.type "int") (.type (tyN t)) = some (isTy (.int 0) t)
  s : PySem.W.kitOne K (.type "str") (.type (tyN t)) = some (isTy (.str Str.empty) t)
  p : PySem.W.kitOne K (.type "tuple") (.type (tyN t)) = some (isTy (.tp true []) t)
  l : PySem.W.kitOne K (.type "list") (.type (tyN t)) = some (isTy (.lst []) t)
section
variable {S : Se} {X : Cx} {σ : St} {B : Addr -> Prop} {φ : Ph} {H : Hp} {st : Store} {p pos p2 px : Pos} {a b c d o : Expr} {ca cb cc : Ce} {t : Ty}
noncomputable def rIsi (S : Se) (X : Cx) (t : Ty) : List V -> Hp -> VK -> Prop := fun xs H Q => ∃ B φ st v x z, xs = [x, .ty (tyN t)] /\ RepS X.K S.cl B φ H st /\ RepV X.K S.cl B φ H v x /\ isiV v [t] = some z /\ isBl t = true /\
  ∀ z' H' φ', Step φ H φ' H' -> RepS X.K S.cl B φ' H' st -> RepV X.K S.cl B φ' H' z z' -> Q z' H'
theorem cb_isi (Z : KitT X.K t) : CallR X (.builtin "isinstance") (rIsi S X t) := by
  rintro pins s σ H xs us Q I r ⟨B, φ, st, v, x, z, rfl, rs, rv, e, hb, q⟩
  obtain ⟨u, c', rfl, ru, rc⟩ := vals2 r
  cases (show c' = Value.type (tyN t) from rc)
  have fin : ∀ (k : Bool) (tk : Nat), z = .bl k -> EP X pins σ Q (.bool k) { s with toks := tk } := fun k tk ez => ⟨.bl k, H, I.tok tk, rfl, q _ H φ .rfl rs (by subst ez; simp only [RepV])⟩
  cases v with
  | non =>
    simp only [RepV] at rv; subst rv
    cases (show u = Value.none from ru)
    simp only [isiV, hb, if_true] at e
    exact PySem.W.kia_one PySem.W.kitx_none I.kIn True.intro Z.n (fun z => nomatch z) fun tk => fin _ tk (by cases e; cases t <;> rfl)
  | bl k =>
    simp only [RepV] at rv; subst rv
    cases (show u = Value.bool k from ru)
    simp only [isiV, hb, if_true] at e
    exact PySem.W.kia_one PySem.W.kitx_bool I.kIn True.intro Z.b (fun z => nomatch z) fun tk => fin _ tk (by cases e; cases t <;> rfl)
  | int k =>
    simp only [RepV] at rv; subst rv
    obtain ⟨tk, rfl⟩ := ru
    simp only [isiV, hb, if_true] at e
    exact PySem.W.kia_one PySem.W.kitx_int I.kIn True.intro Z.i (fun z => nomatch z) fun tk => fin _ tk (by cases e; cases t <;> rfl)
  | str k =>
    simp only [RepV] at rv; subst rv
    obtain ⟨tk, rfl⟩ := ru
    simp only [isiV, hb, if_true] at e
    exact PySem.W.kia_one PySem.W.kitx_str I.kIn True.intro Z.s (fun z => nomatch z) fun tk => fin _ tk (by cases e; cases t <;> rfl)
  | tp k vs =>
    simp only [RepV] at rv
    obtain ⟨y, ys, rfl, rt, l⟩ := rv
    cases (show u = Value.ref y from ru)
    simp only [isiV, hb, if_true] at e
    obtain ⟨its, _, ⟨o, g, c, _, _⟩, _⟩ := I.tuple rt.sq
    exact PySem.W.kia_one PySem.W.kitx_tuple I.kIn ⟨o, g, c⟩ Z.p (fun z => nomatch z) fun tk => fin _ tk (by cases e; cases t <;> rfl)
  | lst vs =>
    simp only [RepV] at rv
    obtain ⟨y, ys, rfl, rt, l⟩ := rv
    cases (show u = Value.ref y from ru)
    simp only [isiV, hb, if_true] at e
    obtain ⟨_, _, n, _, h1⟩ := (show ObjOk X.prog X.w H s.heap y (.lst ys) from I.hok y _ rt.1)
    exact PySem.W.kia_one PySem.W.kitx_list I.kIn ⟨_, h1, rfl⟩ Z.l (fun z => nomatch z) fun tk => fin _ tk (by cases e; cases t <;> rfl)
  | loc n => cases e
  | scr n => cases e
  | exn n => simp only [isiV, List.all_cons, List.all_nil, hb, Bool.and_self, if_true] at e; cases e
theorem se_isi {T : Str} (Z : KitT X.K t) (ht : isBl t = true) (hg : Gl X "isinstance") (hm : X.mg "isinstance" = none) (hgT : Gl X T) (hmT : X.mg T = none) (hT : bootBuiltins T = some (.type (tyN t))) (ha : PE X a (tE S X ca)) (hnT : T ≠ "__name__" := by decide) (hdT : (T == ("__debug__" : Str)) = false := by decide)
    (he : starEach [a, .Name T p2] X.env = (false, eval a X.env) :: starEach [.Name T p2] X.env := by rfl) (hpl : (backTo pos (starEach [.Name T p2] X.env)).any (·.1) = false := by rfl) :
    PE X (.Call (.Name "isinstance" p) [a, .Name T p2] [] pos) (tE S X (.isi ca [t])) :=
  (pe_callB (cb_isi Z) hg hm PyProof.Rows.boot_isinstance (pa_cons ha (pa_cons (pe_bltn (v := .ty (tyN t)) hgT hmT hT rfl hnT hdT) pa_nil) he) (by decide) (by decide) he hpl).imp fun σ H Q ⟨B, φ, st, ρ, rs, re, h⟩ => by
    simp only [ev] at h
    refine tE.bind rs re h fun x H1 v st1 φ1 s1 rs1 re1 rv h1 => ?_
    obtain ⟨z, e, q⟩ := toR_run h1 rs1
    exact ⟨B, φ1, st1, v, x, z, rfl, rs1, rv, e, ht, q⟩
theorem se_isi_k {T : Str} (Z : KitT X.K t) (ht : isBl t = true) (hg : Gl X "isinstance") (hm : X.mg "isinstance" = none) (hgT : Gl X T) (hmT : X.mg T = none) (hT : bootBuiltins T = some (.type (tyN t))) (ha : KqE X a (tE S X ca)) (hnT : T ≠ "__name__" := by decide) (hdT : (T == ("__debug__" : Str)) = false := by decide)
    (he : starEach [a, .Name T p2] X.env = (false, eval a X.env) :: starEach [.Name T p2] X.env := by rfl) (hpl : (backTo pos (starEach [.Name T p2] X.env)).any (·.1) = false := by rfl) :
    KqE X (.Call (.Name "isinstance" p) [a, .Name T p2] [] pos) (tE S X (.isi ca [t])) := by with_unfolding_all exact se_isi Z ht hg hm hgT hmT hT ha hnT hdT he hpl
theorem sixV_loc {st4 : Store} {x y v : PV} (h : sixV st x y v = some st4) : ∃ n xs k j, x = .loc n /\ st[n]? = some (.lst xs) /\ y = .int k /\ ixI xs.length k = some j /\ st4 = st.set n (.lst (xs.set j v)) := by
  cases x with
  | loc n =>
    simp only [sixV] at h
    cases q : st[n]? with
    | none => rw [q] at h; cases h
    | some o =>
      rw [q] at h
      cases o with
      | lst xs =>
        cases y with
        | int k =>
          dsimp only at h
          cases q2 : ixI xs.length k with
          | none => rw [q2] at h; cases h
          | some j => rw [q2] at h; exact ⟨n, xs, k, j, rfl, q, rfl, q2, (Option.some.inj h).symm⟩
        | _ => cases h
      | _ => cases h
  | _ => cases h
theorem RepL.put {K : PySem.W.Frag} {cl : Nat -> Addr} : ∀ {vs : List PV} {xs : List V} (j : Nat) {v : PV} {x : V}, RepL K cl B φ H vs xs -> RepV K cl B φ H v x -> RepL K cl B φ H (vs.set j v) (xs.set j x)
  | [], xs, j, v, x, l, r => by simp only [RepL] at l; subst l; simp [RepL]
  | w :: vs, xs, 0, v, x, l, r => by
    simp only [RepL] at l
    obtain ⟨y, ys, rfl, _, l⟩ := l
    simp only [List.set_cons_zero, RepL]
    exact ⟨x, ys, rfl, r, l⟩
  | w :: vs, xs, j + 1, v, x, l, r => by
    simp only [RepL] at l
    obtain ⟨y, ys, rfl, ry, l⟩ := l
    simp only [List.set_cons_succ, RepL]
    exact ⟨y, ys.set j x, rfl, ry, RepL.put j l r⟩
theorem ss_six (he : PE X a (tE S X ca)) (ho : PE X b (tE S X cb)) (hi : PE X c (tE S X cc)) (hs : swapsWithSole [.Subscript b c px] a pos.line X.env = pure false := by rfl) (hw : swappedStores [.Subscript b c px] a X.env = pure none := by rfl)
    (hg : PG X (.Subscript b c px) (gSub (tE S X cb) (tE S X cc) rSetL) := by exact pg_sub ‹_› ‹_› set_list) : PS X (.Assign [.Subscript b c px] a pos) (tS S X (.six cb cc ca)) :=
  (ps_asg he hg hs hw).imp fun D σ H ⟨B, φ, st, ρ, rs, re, h⟩ => by
    simp only [ex] at h
    refine tE.fl rs re h fun v' H1 v st1 φ1 s1 rs1 re1 rv h1 => tE.fl rs1 re1 h1 fun x' H2 x st2 φ2 s2 rs2 re2 rx h2 => tE.fl rs2 re2 h2 fun y' H3 y st3 φ3 s3 rs3 re3 ry h3 => ?_
    cases e : sixV st3 x y v with
    | none => rw [e] at h3; exact h3.elim
    | some st4 =>
      rw [e] at h3
      obtain ⟨n, xs, k, j, rfl, hn, rfl, hj, rfl⟩ := sixV_loc e
      simp only [RepV] at ry
      subst ry
      obtain ⟨l, ys, rfl, hp, hx, lr⟩ := rs3.list (rx.step s3) hn
      refine ⟨l, ys, k, j, rfl, rfl, hx, by rw [<- lr.length]; exact hj, ?_⟩
      have s4 : Step φ3 H3 φ3 (L2.upd H3 l (.lst (ys.set j v'))) := .put (List.mem_of_getElem? hp)
      exact h3 σ _ φ3 s4 (rs3.put hp ⟨_, upd_same, (lr.put j ((rv.step s2).step s3)).step s4⟩) (re3.step s4)
theorem ss_six_k (he : KqE X a (tE S X ca)) (ho : KqE X b (tE S X cb)) (hi : KqE X c (tE S X cc)) (hs : swapsWithSole [.Subscript b c px] a pos.line X.env = pure false := by rfl) (hw : swappedStores [.Subscript b c px] a X.env = pure none := by rfl)
    (hg : KqG X (.Subscript b c px) (gSub (tE S X cb) (tE S X cc) rSetL) := by exact pg_sub ‹_› ‹_› set_list) : KqS X (.Assign [.Subscript b c px] a pos) (tS S X (.six cb cc ca)) := by with_unfolding_all exact ss_six he ho hi hs hw hg
end
end L2
namespace L2
open PySem PySem.Spec PyProof.Rows IC
section
variable {S : Se} {X : Cx} {σ : St} {B : Addr -> Prop} {φ : Ph} {H : Hp} {st : Store} {p pos p2 px py pt pt2 apos : Pos} {a b c d o : Expr} {ca cb cc : Ce} {kt k2 : Nat}
theorem ss_par {i j : Nat} {x y : Str} (hc : X.calm = true) (hN : X.N.Nodup) (hi : X.N[i]? = some x) (hj : X.N[j]? = some y) (hij : i ≠ j) (h : PS X (.Assign [.Tuple [.Name x px, .Name y py] kt pt] (.Tuple [a, b] k2 pt2) pos) (tPar i j (tAs S X (.cons ca (.cons cb .nil))))) :
    PS X (.Assign [.Tuple [.Name x px, .Name y py] kt pt] (.Tuple [a, b] k2 pt2) pos) (tS S X (.asg (.t [i, j]) (.tup (.cons ca (.cons cb .nil))))) :=
  h.imp fun D σ H ⟨B, φ, st, ρ, rs, re, h⟩ => by
    simp only [ex, ev] at h
    refine ⟨B, φ, st, ρ, rs, re, ?_⟩
    cases e : evs S.call ρ st (.cons ca (.cons cb .nil)) with
    | bad => rw [e] at h; exact h
    | exc k st' => rw [e] at h; exact fun e s' x => h σ φ H e s' .rfl re x
    | ok vs st' =>
      rw [e] at h
      intro xs H' φ' s rs' l
      simp only [R.bind] at h
      split at h
      · rcases vs with _ | ⟨v, _ | ⟨w, _ | ⟨u, t⟩⟩⟩
        · exact h.elim
        · exact h.elim
        · obtain ⟨v', w', rfl, rv, rw⟩ := l.two
          refine ⟨v', w', rfl, ?_⟩
          exact h _ H' φ' s rs' (((re.step s).set i rv).set j rw)
        · exact h.elim
      · exact h.elim
theorem ss_par_k {i j : Nat} {x y : Str} (hc : X.calm = true) (hN : X.N.Nodup) (hi : X.N[i]? = some x) (hj : X.N[j]? = some y) (hij : i ≠ j) (h : KqS X (.Assign [.Tuple [.Name x px, .Name y py] kt pt] (.Tuple [a, b] k2 pt2) pos) (tPar i j (tAs S X (.cons ca (.cons cb .nil))))) :
    KqS X (.Assign [.Tuple [.Name x px, .Name y py] kt pt] (.Tuple [a, b] k2 pt2) pos) (tS S X (.asg (.t [i, j]) (.tup (.cons ca (.cons cb .nil))))) := by with_unfolding_all exact ss_par hc hN hi hj hij h
theorem aug_int {bo : BOp} {v w z : PV} (h : augV bo v w = some z) : ∃ i j, v = .int i /\ w = .int j /\ IC.binI bo i j = some z := by
  unfold augV at h
  split at h
  · exact ⟨_, _, rfl, rfl, h⟩
  · cases h
theorem ip_addT : PIp X .Add (rT2 S X (augV .add)) := by
  rintro pins s σ H x y v u Q I rx ry ⟨B, φ, st, a, b, z, rs, ra, rb, e, q⟩
  obtain ⟨i, j, rfl, rfl, e⟩ := aug_int e
  cases e
  simp only [RepV] at ra rb
  subst ra rb
  exact ip_add pins s σ H _ _ v u Q I rx ry ⟨i, j, rfl, rfl, q _ H φ .rfl rs (by simp only [RepV])⟩
end
end L2
namespace L2
open PySem PySem.Spec PyProof.Rows IC
open Classical in
noncomputable def eqR (h : Heap) (dw : PyData) (u : Value) : Bool := decide (∃ d as, Reads h u d as /\ PyData.eqv d dw = true)
theorem eqR_of {h : Heap} {u : Value} {d dw : PyData} {as : List Addr} (r : Reads h u d as) : eqR h dw u = PyData.eqv d dw := by
  unfold eqR
  classical
  cases c : PyData.eqv d dw with
  | true => exact decide_eq_true (p := ∃ d as, Reads h u d as /\ PyData.eqv d dw = true) ⟨d, as, r, c⟩
  | false =>
    refine decide_eq_false ?_
    rintro ⟨d', as', r', q⟩
    have := (reads_det (fun b o e _ => e) r r').1
    subst this
    rw [c] at q
    cases q
section
variable {S : Se} {X : Cx} {σ : St} {B : Addr -> Prop} {φ φ1 : Ph} {H H1 : Hp} {st : Store} {ρ : IC.Env} {p pos p2 px py pt pt2 : Pos} {a b c d o a' b' c' d' : Expr} {ca cb cc cd ce cf : Ce} {pins : List (Addr × Obj)} {s : Shared} {kt k2 : Nat} {es : List Expr} {ces : Ces} {x : Str}
theorem any_eqR (I : Inv X pins σ H s) (w : PV) (hw : shd 60 w = true) : ∀ (vs : List PV) (xs : List V) (us : List Value), shds 60 vs = true -> RepL X.K S.cl B φ H vs xs -> Vals xs us -> us.any (eqR s.heap (toD w)) = inL w vs
  | [], xs, us, h, r, q => by
    simp only [RepL] at r; subst r; cases q; rfl
  | v :: vs, xs, us, h, r, q => by
    simp only [RepL] at r
    obtain ⟨y, ys, rfl, rv, l⟩ := r
    simp only [shds, Bool.and_eq_true] at h
    cases q with
    | cons q1 q2 =>
      obtain ⟨as, z1⟩ := reads_of (S := S) I v 60 y _ h.1 rv q1
      rw [List.any_cons, any_eqR I w hw vs ys _ h.2 l q2, eqR_of z1, peq_eqv v w 60 60 h.1 hw]
      rfl
theorem mem_eqR (I : Inv X pins σ H s) (w : PV) (hw : shd 60 w = true) {wv : Value} {bs : List Addr} (zw : Reads s.heap wv (toD w) bs) (hu : X.A.units + 64 < cLine) : ∀ (vs : List PV) (xs : List V) (us : List Value), shds 60 vs = true -> RepL X.K S.cl B φ H vs xs -> Vals xs us -> ∀ u ∈ us, SeqAt.EqAt X.A.in1 s u wv (eqR s.heap (toD w) u)
  | [], xs, us, h, r, q => by
    simp only [RepL] at r; subst r; cases q; intro u hu; cases hu
  | v :: vs, xs, us, h, r, q => by
    simp only [RepL] at r
    obtain ⟨y, ys, rfl, rv, l⟩ := r
    simp only [shds, Bool.and_eq_true] at h
    cases q with
    | cons q1 q2 =>
      obtain ⟨as, z1⟩ := reads_of (S := S) I v 60 y _ h.1 rv q1
      intro u hm
      rcases List.mem_cons.mp hm with rfl | hm
      · rw [eqR_of z1]
        obtain ⟨l1, d1⟩ := shd_lay v 60 h.1
        obtain ⟨l2, d2⟩ := shd_lay w 60 hw
        refine SeqAt.eqAt_reads _ _ X.A.in1 s _ _ as bs z1 zw l1 l2 ?_
        show X.A.units + 1 + _ < _
        omega
      · exact mem_eqR I w hw zw hu vs ys _ h.2 l q2 u hm
noncomputable def rTs (S : Se) (X : Cx) (f : Store -> PV -> PV -> Option PV) : R2 := fun x y H Q => ∃ B φ st v w z, RepS X.K S.cl B φ H st /\ RepV X.K S.cl B φ H v x /\ RepV X.K S.cl B φ H w y /\ f st v w = some z /\
  ∀ z' H' φ', Step φ H φ' H' -> RepS X.K S.cl B φ' H' st -> RepV X.K S.cl B φ' H' z z' -> Q z' H'
theorem oe_nin (hu : X.A.units + 64 < cLine) : OpR X (compareOp .NotIn) (rTs S X ninV) := by
  rintro pins s σ H x y v u Q I rx ry ⟨B, φ, st, a, b, z, rs, ra, rb, e, q⟩
  cases b with
  | loc n =>
    simp only [ninV] at e
    split at e
    · rename_i ws hz
      split at e
      · rename_i c
        rw [Bool.and_eq_true] at c
        cases e
        obtain ⟨l, ys, rfl, hn, hx, lr⟩ := rs.list rb hz
        cases (show u = Value.ref l from ry)
        obtain ⟨_, its, k, r, hl, e2⟩ := I.lstM hx
        obtain ⟨bs, z1⟩ := reads_of (S := S) I a 60 x v c.1 ra rx
        refine SeqAt.notIn_listAt (eqR s.heap (toD a)) (items := its.toArray) ⟨_, e2, rfl, _, rfl⟩ (fun w hw => mem_eqR (S := S) I a c.1 z1 hu ws ys its c.2 lr r w (by simpa using hw)) ⟨.bl _, H, I, rfl, ?_⟩
        rw [show its.toArray.any (eqR s.heap (toD a)) = its.any (eqR s.heap (toD a)) by simp, any_eqR (S := S) I a c.1 ws ys its c.2 lr r]
        exact q _ H φ .rfl rs (by simp only [RepV])
      · cases e
    · cases e
  | _ => cases e
theorem ninV_bl {st : Store} {x y z : PV} (h : ninV st x y = some z) : ∃ k, z = .bl k := by
  unfold ninV at h
  split at h
  · split at h
    · split at h
      · cases h; exact ⟨_, rfl⟩
      · cases h
    · cases h
  · cases h
theorem st_nin (hu : X.A.units + 64 < cLine) (ha : PE X a (tE S X ca)) (hb : PE X b (tE S X cb)) (hm : behindInMarks .NotIn b = false) : PT X (.Compare a [.NotIn] [b] pos) (tTs S X (.nin ca cb)) :=
  (pt_cmpR (oe_nin hu) ha hb hm).imp fun σ H Q ⟨B, φ, st, ρ, rs, re, h⟩ => by
    simp only [ev, truR, R.bind_assoc] at h
    refine tE.bind rs re h fun x H1 v st1 φ1 s1 rs1 re1 rv h1 => tE.bind rs1 re1 h1 fun y H2 w st2 φ2 s2 rs2 re2 rw h2 => ?_
    cases e : ninV st2 v w with
    | none => rw [e] at h2; exact h2.elim
    | some z =>
      obtain ⟨k, rfl⟩ := ninV_bl e
      rw [e] at h2
      refine ⟨B, φ2, st2, v, w, .bl k, rs2, rv.step s2, rw, e, fun z' H' φ' s' rs' rz => ?_⟩
      simp only [RepV] at rz
      exact ⟨k, rz, h2 k H' φ' s' rs' rfl⟩
theorem st_nin_k (hu : X.A.units + 64 < cLine) (ha : KqE X a (tE S X ca)) (hb : KqE X b (tE S X cb)) (hm : behindInMarks .NotIn b = false) : KqT X (.Compare a [.NotIn] [b] pos) (tTs S X (.nin ca cb)) := by with_unfolding_all exact st_nin hu ha hb hm
theorem se_listT (hg : Gl X "list") (hm : X.mg "list" = none) (hv : bootBuiltins "list" = some (.type "list")) (ha : PA X [a] (tAs S X (.cons ca .nil)))
    (he : starEach [a] X.env = (false, eval a X.env) :: starEach [] X.env := by rfl) (hpl : (backTo pos (starEach [] X.env)).any (·.1) = false := by rfl) : PE X (.Call (.Name "list" p) [a] [] pos) (tE S X (.thw (.blt .list (.cons ca .nil)))) :=
  (pe_callTy call_list_of hg hm hv ha (by decide) (by decide) he hpl).imp fun σ H Q ⟨B, φ, st, ρ, rs, re, h⟩ => by
    simp only [ev, R.bind_assoc] at h
    refine tAs.bind rs re h fun xs H1 vs st1 φ1 s1 rs1 re1 rv h1 => ?_
    cases e : bltV .list st1 vs with
    | none => rw [e] at h1; exact h1.elim
    | some z =>
      rw [e] at h1
      obtain ⟨v, rfl⟩ := blt_one e fun _ _ => rfl
      obtain ⟨x, rfl, rv1⟩ := rv.one
      simp only [bltV] at e
      cases e1 : seqOf st1 v with
      | none => rw [e1] at e; cases e
      | some ws =>
        rw [e1] at e
        cases e
        obtain ⟨y, ys, rfl, hq, l⟩ := seq_of rs1 rv1 e1
        refine ⟨y, ys, rfl, hq, fun D hD => ?_⟩
        simp only [toR, R.bind, thwV] at h1
        exact h1 _ _ (φ1 ++ [some D]) (.push hD) (rs1.push hD (rs1.nB hD) ⟨ys, upd_same, l.step (.push hD)⟩) (.loc_new rs1)
theorem se_listT_k (hg : Gl X "list") (hm : X.mg "list" = none) (hv : bootBuiltins "list" = some (.type "list")) (ha : KqA X [a] (tAs S X (.cons ca .nil)))
    (he : starEach [a] X.env = (false, eval a X.env) :: starEach [] X.env := by rfl) (hpl : (backTo pos (starEach [] X.env)).any (·.1) = false := by rfl) : KqE X (.Call (.Name "list" p) [a] [] pos) (tE S X (.thw (.blt .list (.cons ca .nil)))) := by with_unfolding_all exact se_listT hg hm hv ha he hpl
theorem tAs.fl {D : Ends} {k : List PV -> Store -> Fl} {P : List V -> Hp -> Prop} (rs : RepS X.K S.cl B φ H st) (re : RepE X.K S.cl B φ H ρ σ) (h : RunF S X B φ H ((evs S.call ρ st ces).fl ρ k) D)
    (n : ∀ x H1 v st1 φ1, Step φ H φ1 H1 -> RepS X.K S.cl B φ1 H1 st1 -> RepE X.K S.cl B φ1 H1 ρ σ -> RepL X.K S.cl B φ1 H1 v x -> RunF S X B φ1 H1 (k v st1) D -> P x H1) : tAs S X ces σ H P := by
  refine ⟨B, φ, st, ρ, rs, re, ?_⟩
  cases e : evs S.call ρ st ces with
  | ok v st' =>
    rw [e] at h
    exact fun x H' φ' s rs' rv => n x H' v st' φ' s rs' (re.step s) rv (h.on s)
  | exc k st' =>
    rw [e] at h
    exact fun e s' x => h σ φ H e s' .rfl re x
  | bad => rw [e] at h; exact h
theorem six_run {D : Ends} {k : Store -> Fl} {P : Hp -> Prop} {x y v : PV} {x' y' v' : V} (rs : RepS X.K S.cl B φ H st) (re : RepE X.K S.cl B φ H ρ σ) (rx : RepV X.K S.cl B φ H x x') (ry : RepV X.K S.cl B φ H y y') (rv : RepV X.K S.cl B φ H v v')
    (h : RunF S X B φ H (match sixV st x y v with
      | none => .bad
      | some st5 => k st5) D)
    (n : ∀ H1 st1, Step φ H φ H1 -> RepS X.K S.cl B φ H1 st1 -> RepE X.K S.cl B φ H1 ρ σ -> RunF S X B φ H1 (k st1) D -> P H1) : rSetL x' y' v' H P := by
  cases e : sixV st x y v with
  | none => rw [e] at h; exact h.elim
  | some st4 =>
    rw [e] at h
    obtain ⟨n', xs, k', j, rfl, hn, rfl, hj, rfl⟩ := sixV_loc e
    simp only [RepV] at ry
    subst ry
    obtain ⟨l, ys, rfl, hp, hx, lr⟩ := rs.list rx hn
    refine ⟨l, ys, k', j, rfl, rfl, hx, by rw [<- lr.length]; exact hj, ?_⟩
    have s4 : Step φ H φ (L2.upd H l (.lst (ys.set j v'))) := .put (List.mem_of_getElem? hp)
    exact n _ _ s4 (rs.put (o := .lst (xs.set j v)) hp ⟨_, upd_same, (lr.put j rv).step s4⟩) (re.step s4) (h.on s4)
theorem ss_six2 (hc : X.calm = true) (he : PA X [a, b] (tAs S X (.cons ca (.cons cb .nil)))) (ho : PE X c (tE S X cc)) (hi : PE X d (tE S X cd)) (ho2 : PE X c' (tE S X ce)) (hi2 : PE X d' (tE S X cf))
    (hg1 : PG X (.Subscript c d px) (gSub (tE S X cc) (tE S X cd) rSetL)) (hg2 : PG X (.Subscript c' d' py) (gSub (tE S X ce) (tE S X cf) rSetL))
    (hs : swapsWithSole [.Tuple [.Subscript c d px, .Subscript c' d' py] kt pt] (.Tuple [a, b] k2 pt2) pos.line X.env = pure false := by rfl) (hw : swappedStores [.Tuple [.Subscript c d px, .Subscript c' d' py] kt pt] (.Tuple [a, b] k2 pt2) X.env = pure none := by rfl) :
    PS X (.Assign [.Tuple [.Subscript c d px, .Subscript c' d' py] kt pt] (.Tuple [a, b] k2 pt2) pos) (tS S X (.six2 cc cd ce cf ca cb)) :=
  (ps_asg (pe_tup he) (pg_tup hc (pgs_cons hg1 (pgs_cons hg2 pgs_nil))) hs hw).imp fun D σ H ⟨B, φ, st, ρ, rs, re, h⟩ => by
    simp only [ex] at h
    have h' : RunF S X B φ H ((evs S.call ρ st (.cons ca (.cons cb .nil))).fl ρ fun vs st2 => match vs with
      | [v, w] => (ev S.call ρ st2 cc).fl ρ fun x st3 => (ev S.call ρ st3 cd).fl ρ fun y st4 => match sixV st4 x y v with
        | none => .bad
        | some st5 => (ev S.call ρ st5 ce).fl ρ fun x2 st6 => (ev S.call ρ st6 cf).fl ρ fun y2 st7 => match sixV st7 x2 y2 w with
          | some st8 => .nx ρ st8
          | none => .bad
      | _ => .bad) D := by
      simp only [evs]
      cases e : ev S.call ρ st ca with
      | ok v st1 =>
        rw [e] at h
        simp only [R.bind, R.fl] at h ⊢
        cases e2 : ev S.call ρ st1 cb with
        | ok w st2 => rw [e2] at h; exact h
        | exc k s => rw [e2] at h; exact h
        | bad => rw [e2] at h; exact h
      | exc k s => rw [e] at h; exact h
      | bad => rw [e] at h; exact h
    refine tAs.fl rs re h' fun xs H1 vs st1 φ1 s1 rs1 re1 rl h1 => ?_
    rcases vs with _ | ⟨v, _ | ⟨w, _ | ⟨u, t⟩⟩⟩
    · exact h1.elim
    · exact h1.elim
    · obtain ⟨v', w', rfl, rv, rw⟩ := rl.two
      refine ⟨by show 2 <= sizeLine; decide, fun p hp => ⟨p, [v', w'], rfl, .inl (.inl upd_same), rfl, v', [w'], rfl, ?_⟩⟩
      have s2 : Step φ1 H1 φ1 (L2.upd H1 p (.tup [v', w'])) := .upd hp
      refine tE.fl (rs1.upd hp) (re1.step s2) (h1.on s2) fun x' H3 x st3 φ3 s3 rs3 re3 rx h3 => tE.fl rs3 re3 h3 fun y' H4 y st4 φ4 s4 rs4 re4 ry h4 => ?_
      refine six_run rs4 re4 (rx.step s4) ry (((rv.step s2).step s3).step s4) h4 fun H5 st5 s5 rs5 re5 h5 => ⟨w', [], rfl, ?_⟩
      refine tE.fl rs5 re5 h5 fun x2' H6 x2 st6 φ6 s6 rs6 re6 rx2 h6 => tE.fl rs6 re6 h6 fun y2' H7 y2 st7 φ7 s7 rs7 re7 ry2 h7 => ?_
      have h7' : RunF S X B φ7 H7 (match sixV st7 x2 y2 w with
        | none => .bad
        | some st8 => .nx ρ st8) D := by
        cases e : sixV st7 x2 y2 w with
        | none => rw [e] at h7; exact h7
        | some st8 => rw [e] at h7; exact h7
      refine six_run rs7 re7 (rx2.step s7) ry2 ((((((rw.step s2).step s3).step s4).step s5).step s6).step s7) h7' fun H8 st8 s8 rs8 re8 h8 => ⟨rfl, ?_⟩
      exact h8 σ _ φ7 .rfl rs8 re8
    · exact h1.elim
theorem ss_six2_k (hc : X.calm = true) (he : KqA X [a, b] (tAs S X (.cons ca (.cons cb .nil)))) (ho : KqE X c (tE S X cc)) (hi : KqE X d (tE S X cd)) (ho2 : KqE X c' (tE S X ce)) (hi2 : KqE X d' (tE S X cf))
    (hg1 : KqG X (.Subscript c d px) (gSub (tE S X cc) (tE S X cd) rSetL)) (hg2 : KqG X (.Subscript c' d' py) (gSub (tE S X ce) (tE S X cf) rSetL))
    (hs : swapsWithSole [.Tuple [.Subscript c d px, .Subscript c' d' py] kt pt] (.Tuple [a, b] k2 pt2) pos.line X.env = pure false := by rfl) (hw : swappedStores [.Tuple [.Subscript c d px, .Subscript c' d' py] kt pt] (.Tuple [a, b] k2 pt2) X.env = pure none := by rfl) :
    KqS X (.Assign [.Tuple [.Subscript c d px, .Subscript c' d' py] kt pt] (.Tuple [a, b] k2 pt2) pos) (tS S X (.six2 cc cd ce cf ca cb)) := by with_unfolding_all exact ss_six2 hc he ho hi ho2 hi2 hg1 hg2 hs hw
end
end L2
namespace WK
open PySem L2 IC
structure Fn (K : PySem.W.Frag) (mg : Str -> Option Value) (x : Str) (st : Stmt) (ps : List Str) (f : Addr) (fd : FuncData) : Prop where
  F : Fun K x x st f fd
  b : Binds K fd ps []
  m : mg x = some (.ref f)
theorem bt_int : bootBuiltins "int" = some (.type "int") := by decide +kernel
theorem bt_bool : bootBuiltins "bool" = some (.type "bool") := by decide +kernel
theorem bt_str : bootBuiltins "str" = some (.type "str") := by decide +kernel
theorem bt_tuple : bootBuiltins "tuple" = some (.type "tuple") := by decide +kernel
theorem bt_list : bootBuiltins "list" = some (.type "list") := by decide +kernel
theorem bt_len : bootBuiltins "len" = some (.builtin "len") := by decide +kernel
theorem bt_min : bootBuiltins "min" = some (.builtin "min") := by decide +kernel
theorem bt_all : bootBuiltins "all" = some (.builtin "all") := by decide +kernel
theorem hu_of {k : Nat} {A : Around} (r : Room k A) : A.units + 1 < cLine := by have := r.units; omega
def VisAll (N : List Str) (sc : Scope) : Prop := (N.all fun x => decide (sc.names.lookup x = some .local) || decide (sc.names.lookup x = some .cell)) = true
theorem lcF {N : List Str} {sc : Scope} {i : Nat} {x : Str} (V : VisAll N sc) (h : N[i]? = some x) : Loc sc x := by
  have := List.all_eq_true.mp V x (List.mem_of_getElem? h)
  rw [Bool.or_eq_true, decide_eq_true_eq, decide_eq_true_eq] at this
  exact this
theorem svF {S : Se} {X : Cx} {x : Str} {pos : Pos} (V : VisAll X.N X.env.scope) (i : Nat) (hN : X.N[i]? = some x := by rfl) (hd : (x == ("__debug__" : Str)) = false := by decide) (hcd : (x == ("__classdict__" : Str)) = false := by decide) : PE X (.Name x pos) (tE S X (.var i)) :=
  se_var hN (by rcases lcF V hN with h | h; exact .inl h; exact .inr (.inl h)) hd hcd
theorem svF_k {S : Se} {X : Cx} {x : Str} {pos : Pos} (V : VisAll X.N X.env.scope) (i : Nat) (hN : X.N[i]? = some x := by rfl) (hd : (x == ("__debug__" : Str)) = false := by decide) (hcd : (x == ("__classdict__" : Str)) = false := by decide) : KqE X (.Name x pos) (tE S X (.var i)) := by with_unfolding_all exact svF V i hN hd hcd
theorem sv {S : Se} {X : Cx} (i : Nat) {x : Str} {pos : Pos} (hN : X.N[i]? = some x := by rfl) (hv : Vis X.env.scope x := by first | exact Or.inl rfl | exact Or.inr (Or.inl rfl) | exact Or.inr (Or.inr rfl)) (hd : (x == ("__debug__" : Str)) = false := by decide)
    (hcd : (x == ("__classdict__" : Str)) = false := by decide) : PE X (.Name x pos) (tE S X (.var i)) := se_var hN hv hd hcd
theorem sv_k {S : Se} {X : Cx} (i : Nat) {x : Str} {pos : Pos} (hN : X.N[i]? = some x := by rfl) (hv : Vis X.env.scope x := by first | exact Or.inl rfl | exact Or.inr (Or.inl rfl) | exact Or.inr (Or.inr rfl)) (hd : (x == ("__debug__" : Str)) = false := by decide)
    (hcd : (x == ("__classdict__" : Str)) = false := by decide) : KqE X (.Name x pos) (tE S X (.var i)) := by with_unfolding_all exact sv i hN hv hd hcd
end WK
namespace L2
open PySem PySem.Spec PyProof.Rows IC
section
variable {S : Se} {X : Cx} {k : Nat} {f : Addr} {fd : FuncData} {ps ks : List Str} {sp : Sp} {x : Str} {p pos kpos : Pos} {e : Expr} {es : List Expr} {kws : List Keyword} {nm : Option Str} {t tk : TA} {CX : CXT} {ca : Ce} {ces : Ces} {items : List (Sum Ce Int)} {g : List Value -> List Value -> List Value} {gV : List V -> List V -> List V}
theorem PK.imp {t t' : TA} (h : PK X kws t') (k : ∀ σ H Q, t σ H Q -> t' σ H Q) : PK X kws t := fun pos pins s σ H Q I q => h pos pins s σ H Q I (k σ H Q q)
end
section
variable {P : Program} {w : World} {K : PySem.W.Frag} {mg : Str -> Option Value} {base : Heap} {cl : Nat -> Addr} {T : Nat -> Option IC.Fn} {fi : Nat} {fn : IC.Fn} {x : Str} {stm : Stmt} {f : Addr} {fd : FuncData} {N ps : List Str} {ds : List Int} {k : Nat}
end
end L2
namespace L2
open PySem PySem.Spec PyProof.Rows IC
theorem peq_key (a b : Key) : peq (keyP a) (keyP b) = decide (a = b) := by
  rw [Bool.eq_iff_iff]
  cases a <;> cases b <;> simp [keyP, peq]
theorem peqs_key : ∀ (a b : List Key), peqs (a.map keyP) (b.map keyP) = decide (a = b)
  | [], [] => by simp [peqs]
  | [], y :: ys => by simp [peqs]
  | x :: xs, [] => by simp [peqs]
  | x :: xs, y :: ys => by
    simp only [List.map_cons, peqs, peq_key, peqs_key xs ys]
    rw [Bool.eq_iff_iff]
    simp
theorem peq_keys (a b : List Key) : peq (.tup (a.map keyP)) (.tup (b.map keyP)) = decide (a = b) := by
  simp only [peq, peqs_key]
theorem key0_of {k : PV} (h : isKey0 k = true) : ∃ q, k = keyP q := by
  cases k with
  | int i => exact ⟨.inl i, rfl⟩
  | str i => exact ⟨.inr i, rfl⟩
  | _ => cases h
theorem keys_of : ∀ {ks : List PV}, ks.all isKey0 = true -> ∃ qs : List Key, ks = qs.map keyP
  | [], _ => ⟨[], rfl⟩
  | k :: ks, h => by
    rw [List.all_cons, Bool.and_eq_true] at h
    obtain ⟨q, rfl⟩ := key0_of h.1
    obtain ⟨qs, rfl⟩ := keys_of h.2
    exact ⟨q :: qs, rfl⟩
section
variable {S : Se} {X : Cx} {K : PySem.W.Frag} {cl : Nat -> Addr} {σ : St} {B : Addr -> Prop} {φ : Ph} {H : Hp} {st : Store} {p pos p2 px apos : Pos} {a b c d o : Expr} {ca cb cc : Ce}
theorem repV_key {q : Key} {x : V} : RepV K cl B φ H (keyP q) x ↔ x = kV q := by
  cases q <;> simp [keyP, RepV, kV]
theorem repL_keys : ∀ {qs : List Key} {xs : List V}, RepL K cl B φ H (qs.map keyP) xs -> xs = qs.map kV
  | [], xs, l => by simpa only [List.map_nil, RepL] using l
  | q :: qs, xs, l => by
    simp only [List.map_cons, RepL] at l
    obtain ⟨y, ys, rfl, r, l⟩ := l
    rw [repV_key.mp r, repL_keys l]
    rfl
theorem DK.look {q : Key} : ∀ {kvs : List (PV × PV)} {ks : List (Key × V)}, DK K cl B φ H kvs ks -> ∀ {v : PV} {x : V}, RepV K cl B φ H v x -> RepV K cl B φ H ((IC.look (keyP q) kvs).getD v) ((valV ks q).getD x)
  | [], ks, h, v, x, r => by cases h; exact r
  | (k, w) :: t, ks, h, v, x, r => by
    obtain ⟨q', y, s, rfl, rfl, rv, l⟩ := h
    simp only [IC.look, peq_key]
    by_cases e : q' = q
    · rw [valV_pos (p := (q', y)) e]
      simp [e, rv]
    · rw [valV_neg (p := (q', y)) e]
      simp only [decide_eq_true_eq, e, if_false]
      exact DK.look l r
theorem DT.look {q : List Key} : ∀ {kvs : List (PV × PV)} {ks : List (List Key × V)}, DT K cl B φ H kvs ks -> ∀ {v : PV} {x : V}, RepV K cl B φ H v x -> RepV K cl B φ H ((IC.look (.tup (q.map keyP)) kvs).getD v) ((valV ks q).getD x)
  | [], ks, h, v, x, r => by cases h; exact r
  | (k, w) :: t, ks, h, v, x, r => by
    obtain ⟨q', y, s, rfl, rfl, rv, l⟩ := h
    simp only [IC.look, peq_keys]
    by_cases e : q' = q
    · rw [valV_pos (p := (q', y)) e]
      simp [e, rv]
    · rw [valV_neg (p := (q', y)) e]
      simp only [decide_eq_true_eq, e, if_false]
      exact DT.look l r
theorem DK.any {q : Key} : ∀ {kvs : List (PV × PV)} {ks : List (Key × V)}, DK K cl B φ H kvs ks -> (kvs.any fun p => peq p.1 (keyP q)) = ks.any fun kv => decide (kv.1 = q)
  | [], ks, h => by cases h; rfl
  | (k, w) :: t, ks, h => by
    obtain ⟨q', y, s, rfl, rfl, rv, l⟩ := h
    simp only [List.any_cons, peq_key, DK.any l]
theorem DT.any {q : List Key} : ∀ {kvs : List (PV × PV)} {ks : List (List Key × V)}, DT K cl B φ H kvs ks -> (kvs.any fun p => peq p.1 (.tup (q.map keyP))) = ks.any fun kv => decide (kv.1 = q)
  | [], ks, h => by cases h; rfl
  | (k, w) :: t, ks, h => by
    obtain ⟨q', y, s, rfl, rfl, rv, l⟩ := h
    simp only [List.any_cons, peq_keys, DT.any l]
theorem DK.map {q : Key} {v : PV} {x : V} (r : RepV K cl B φ H v x) : ∀ {kvs : List (PV × PV)} {ks : List (Key × V)}, DK K cl B φ H kvs ks -> DK K cl B φ H (kvs.map fun p => if peq p.1 (keyP q) = true then (p.1, v) else p) (ks.map fun kv => if kv.1 = q then (kv.1, x) else kv)
  | [], ks, h => by cases h; exact rfl
  | (k, w) :: t, ks, h => by
    obtain ⟨q', y, s, rfl, rfl, rv, l⟩ := h
    simp only [List.map_cons, peq_key, decide_eq_true_eq]
    by_cases e : q' = q
    · simp only [e, if_true]
      exact ⟨q, x, _, rfl, rfl, r, DK.map r l⟩
    · simp only [e, if_false]
      exact ⟨q', y, _, rfl, rfl, rv, DK.map r l⟩
theorem DT.map {q : List Key} {v : PV} {x : V} (r : RepV K cl B φ H v x) : ∀ {kvs : List (PV × PV)} {ks : List (List Key × V)}, DT K cl B φ H kvs ks -> DT K cl B φ H (kvs.map fun p => if peq p.1 (.tup (q.map keyP)) = true then (p.1, v) else p) (ks.map fun kv => if kv.1 = q then (kv.1, x) else kv)
  | [], ks, h => by cases h; exact rfl
  | (k, w) :: t, ks, h => by
    obtain ⟨q', y, s, rfl, rfl, rv, l⟩ := h
    simp only [List.map_cons, peq_keys, decide_eq_true_eq]
    by_cases e : q' = q
    · simp only [e, if_true]
      exact ⟨q, x, _, rfl, rfl, r, DT.map r l⟩
    · simp only [e, if_false]
      exact ⟨q', y, _, rfl, rfl, rv, DT.map r l⟩
theorem DK.snoc {q : Key} {v : PV} {x : V} (r : RepV K cl B φ H v x) : ∀ {kvs : List (PV × PV)} {ks : List (Key × V)}, DK K cl B φ H kvs ks -> DK K cl B φ H (kvs ++ [(keyP q, v)]) (ks ++ [(q, x)])
  | [], ks, h => by cases h; exact ⟨q, x, [], rfl, rfl, r, rfl⟩
  | (k, w) :: t, ks, h => by
    obtain ⟨q', y, s, rfl, rfl, rv, l⟩ := h
    exact ⟨q', y, _, rfl, rfl, rv, DK.snoc r l⟩
theorem DT.snoc {q : List Key} {v : PV} {x : V} (r : RepV K cl B φ H v x) : ∀ {kvs : List (PV × PV)} {ks : List (List Key × V)}, DT K cl B φ H kvs ks -> DT K cl B φ H (kvs ++ [(.tup (q.map keyP), v)]) (ks ++ [(q, x)])
  | [], ks, h => by cases h; exact ⟨q, x, [], rfl, rfl, r, rfl⟩
  | (k, w) :: t, ks, h => by
    obtain ⟨q', y, s, rfl, rfl, rv, l⟩ := h
    exact ⟨q', y, _, rfl, rfl, rv, DT.snoc r l⟩
theorem DK.put {q : Key} {v : PV} {x : V} {kvs : List (PV × PV)} {ks : List (Key × V)} (l : DK K cl B φ H kvs ks) (r : RepV K cl B φ H v x) : DK K cl B φ H (IC.put (keyP q) v kvs) (putK ks q x) := by
  unfold IC.put putK
  rw [DK.any l]
  split
  · exact DK.map r l
  · exact DK.snoc r l
theorem DT.put {q : List Key} {v : PV} {x : V} {kvs : List (PV × PV)} {ks : List (List Key × V)} (l : DT K cl B φ H kvs ks) (r : RepV K cl B φ H v x) : DT K cl B φ H (IC.put (.tup (q.map keyP)) v kvs) (putK ks q x) := by
  unfold IC.put putK
  rw [DT.any l]
  split
  · exact DT.map r l
  · exact DT.snoc r l
theorem DK.len : ∀ {kvs : List (PV × PV)} {ks : List (Key × V)}, DK K cl B φ H kvs ks -> kvs.length = ks.length
  | [], ks, h => by cases h; rfl
  | (k, w) :: t, ks, h => by
    obtain ⟨q', y, s, rfl, rfl, rv, l⟩ := h
    simp [DK.len l]
theorem DT.len : ∀ {kvs : List (PV × PV)} {ks : List (List Key × V)}, DT K cl B φ H kvs ks -> kvs.length = ks.length
  | [], ks, h => by cases h; rfl
  | (k, w) :: t, ks, h => by
    obtain ⟨q', y, s, rfl, rfl, rv, l⟩ := h
    simp [DT.len l]
theorem RepS.dct {n : Nat} {t : Bool} {kvs : List (PV × PV)} {x : V} (rs : RepS K cl B φ H st) (r : RepV K cl B φ H (.loc n) x) (h : st[n]? = some (.dct t kvs)) : ∃ y, x = .ref y /\ φ[n]? = some (some y) /\ RepO K cl B φ H (.dct t kvs) y := by
  simp only [RepV] at r
  obtain ⟨hn, y, rfl, ha⟩ := r
  obtain ⟨z, hz⟩ := rs.liv n _ h (by intro z; cases z)
  obtain rfl := ha z hz
  obtain ⟨o, ho, ro⟩ := rs.obj n z hz
  rw [h] at ho; cases ho
  exact ⟨z, rfl, hz, ro⟩
theorem dctOf_loc {v : PV} {t : Bool} {kvs : List (PV × PV)} (h : dctOf st v = some (t, kvs)) : ∃ n, v = .loc n /\ st[n]? = some (.dct t kvs) := by
  cases v with
  | loc n =>
    simp only [dctOf] at h
    split at h
    · rename_i t' xs q
      cases h
      exact ⟨n, rfl, q⟩
    · cases h
  | _ => cases h
theorem isKey_f {k : PV} (h : isKey false k = true) : ∃ q, k = keyP q := key0_of h
theorem isKey_t {k : PV} (h : isKey true k = true) : ∃ q : List Key, k = .tup (q.map keyP) := by
  cases k with
  | tp b xs =>
    cases b with
    | false =>
      obtain ⟨qs, rfl⟩ := keys_of h
      exact ⟨qs, rfl⟩
    | true => cases h
  | _ => cases h
theorem tup_key {q : List Key} {x : V} (r : RepV K cl B φ H (.tup (q.map keyP)) x) : ∃ y, x = .ref y /\ H y = some (.tup (q.map kV)) := by
  simp only [RepV] at r
  obtain ⟨y, xs, rfl, rt, l⟩ := r
  rcases rt with ⟨rt, _⟩ | ⟨z, _⟩
  · exact ⟨y, rfl, by rw [rt, repL_keys l]⟩
  · cases z
theorem se_get (hu : X.A.units + 1 < cLine) (ha : PE X a (tE S X ca)) (hb : PE X b (tE S X cb)) (hc : PE X c (tE S X cc)) (m : M2 X a "get" apos b c pos := by exact ⟨rfl, rfl, rfl, rfl⟩) : PE X (.Call (.Attribute a "get" apos) [b, c] [] pos) (tE S X (.mth .get ca (.cons cb (.cons cc .nil)))) :=
  (pe_dget2 hu ha hb hc m).imp fun σ H Q ⟨B, φ, st, ρ, rs, re, h⟩ => by
    simp only [ev] at h
    refine tE.bind rs re h fun x H1 v st1 φ1 s1 rs1 re1 rv h1 => ?_
    obtain ⟨_, e1, h1⟩ := mth_run h1
    simp only [mthOk] at e1
    cases q : dctOf st1 v with
    | none => rw [q] at e1; cases e1
    | some tk =>
      obtain ⟨t, kvs⟩ := tk
      obtain ⟨n, rfl, hn⟩ := dctOf_loc q
      obtain ⟨y, rfl, hy, ro⟩ := rs1.dct rv hn
      refine ⟨y, rfl, ?_, ?_⟩
      · cases t with
        | false => obtain ⟨ks, hk, _⟩ := ro; exact .inl ⟨ks, .inl hk⟩
        | true => obtain ⟨ks, hk, _⟩ := ro; exact .inr ⟨ks, .inl hk⟩
      · simp only [evs, R.bind_assoc] at h1
        refine tE.bind rs1 re1 h1 fun kx H2 kv st2 φ2 s2 rs2 re2 rk h2 => tE.bind rs2 re2 h2 fun dx H3 dv st3 φ3 s3 rs3 re3 rd h3 => ?_
        simp only [R.bind, mthV, getV] at h3
        cases q3 : dctOf st3 (.loc n) with
        | none => rw [q3] at h3; exact h3.elim
        | some tk3 =>
          obtain ⟨t3, kvs3⟩ := tk3
          rw [q3] at h3
          dsimp only at h3
          split at h3
          · rename_i hk
            obtain ⟨n', e', hn3⟩ := dctOf_loc q3
            cases e'
            obtain ⟨y3, ey, hy3, ro3⟩ := rs3.dct ((rv.step s2).step s3) hn3
            cases ey
            have rk3 := rk.step s3
            cases t3 with
            | false =>
              obtain ⟨q, rfl⟩ := isKey_f hk
              obtain ⟨ks, hks, l⟩ := ro3
              refine ⟨valV ks q, .inl ⟨ks, q, .inl hks, repV_key.mp rk3, rfl⟩, h3.ok rs3 (DK.look l rd)⟩
            | true =>
              obtain ⟨q, rfl⟩ := isKey_t hk
              obtain ⟨ks, hks, l⟩ := ro3
              obtain ⟨b', rfl, hb'⟩ := tup_key rk3
              exact ⟨valV ks q, .inr ⟨ks, q, b', .inl hks, rfl, hb', rfl⟩, h3.ok rs3 (DT.look l rd)⟩
          · exact h3.elim
theorem se_get_k (hu : X.A.units + 1 < cLine) (ha : KqE X a (tE S X ca)) (hb : KqE X b (tE S X cb)) (hc : KqE X c (tE S X cc)) (m : M2 X a "get" apos b c pos := by exact ⟨rfl, rfl, rfl, rfl⟩) : KqE X (.Call (.Attribute a "get" apos) [b, c] [] pos) (tE S X (.mth .get ca (.cons cb (.cons cc .nil)))) := by with_unfolding_all exact se_get hu ha hb hc m
theorem dputV_loc {st4 : Store} {x y v : PV} (h : dputV st x y v = some st4) : ∃ n t kvs, x = .loc n /\ st[n]? = some (.dct t kvs) /\ isKey t y = true /\ kvs.length < 1000000 /\ st4 = st.set n (.dct t (IC.put y v kvs)) := by
  cases x with
  | loc n =>
    simp only [dputV] at h
    split at h
    · rename_i t kvs q
      split at h
      · rename_i c
        exact ⟨n, t, kvs, rfl, q, c.1, c.2, (Option.some.inj h).symm⟩
      · cases h
    · cases h
  | _ => cases h
theorem ss_dput (hu : X.A.units + 1 < cLine) (ho : PE X b (tE S X cb)) (hi : PE X c (tE S X cc)) (hv : PE X a (tE S X ca)) (hs : swapsWith a (some (.Subscript b c px)) pos.line X.env = pure false := by rfl) : PS X (.Assign [.Subscript b c px] a pos) (tS S X (.dput cb cc ca)) :=
  (ps_dput hu ho hi hv hs).imp fun D σ H ⟨B, φ, st, ρ, rs, re, h⟩ => by
    simp only [ex] at h
    refine tE.fl rs re h fun v' H1 v st1 φ1 s1 rs1 re1 rv h1 => tE.fl rs1 re1 h1 fun x' H2 x st2 φ2 s2 rs2 re2 rx h2 => tE.fl rs2 re2 h2 fun y' H3 y st3 φ3 s3 rs3 re3 ry h3 => ?_
    cases e : dputV st3 x y v with
    | none => rw [e] at h3; exact h3.elim
    | some st4 =>
      rw [e] at h3
      obtain ⟨n, t, kvs, rfl, hn, hk, hl, rfl⟩ := dputV_loc e
      obtain ⟨l, rfl, hp, ro⟩ := rs3.dct (rx.step s3) hn
      have rv3 := (rv.step s2).step s3
      have hm := million
      cases t with
      | false =>
        obtain ⟨q, rfl⟩ := isKey_f hk
        obtain ⟨ks, hks, ld⟩ := ro
        have s4 : Step φ3 H3 φ3 (L2.upd H3 l (.dK (putK ks q v'))) := .put (List.mem_of_getElem? hp)
        refine ⟨l, _, rfl, .inl ⟨ks, q, hks, repV_key.mp ry, by have := ld.len; omega, rfl⟩, h3 σ _ φ3 s4 (rs3.put hp ⟨_, upd_same, (ld.put rv3).step s4⟩) (re3.step s4)⟩
      | true =>
        obtain ⟨q, rfl⟩ := isKey_t hk
        obtain ⟨ks, hks, ld⟩ := ro
        obtain ⟨b', rfl, hb'⟩ := tup_key ry
        have s4 : Step φ3 H3 φ3 (L2.upd H3 l (.dT (putK ks q v'))) := .put (List.mem_of_getElem? hp)
        refine ⟨l, _, rfl, .inr ⟨ks, q, b', hks, rfl, hb', by have := ld.len; omega, rfl⟩, h3 σ _ φ3 s4 (rs3.put hp ⟨_, upd_same, (ld.put rv3).step s4⟩) (re3.step s4)⟩
theorem ss_dput_k (hu : X.A.units + 1 < cLine) (ho : KqE X b (tE S X cb)) (hi : KqE X c (tE S X cc)) (hv : KqE X a (tE S X ca)) (hs : swapsWith a (some (.Subscript b c px)) pos.line X.env = pure false := by rfl) : KqS X (.Assign [.Subscript b c px] a pos) (tS S X (.dput cb cc ca)) := by with_unfolding_all exact ss_dput hu ho hi hv hs
noncomputable def trC (kvs : List (Str × Int)) : List (TE × TE) := kvs.map fun kv => (tC (.str kv.1), tC (.int kv.2))
theorem sp_nil : PPs X pos [] [] (trC []) := pps_nil
theorem sp_nil_k : KqPs X pos [] [] (trC []) := by with_unfolding_all exact sp_nil
theorem sp_cons {ks : List (Option Expr)} {vs : List Expr} {kvs : List (Str × Int)} {x : Str} {i : Int} {j1 j2 : Nat} {p1 p2 : Pos} (h : PPs X pos ks vs (trC kvs)) : PPs X pos (some (.Constant (.str x) j1 p1) :: ks) (.Constant (.int i) j2 p2 :: vs) (trC ((x, i) :: kvs)) := pps_cons pe_str pe_int h
theorem sp_cons_k {ks : List (Option Expr)} {vs : List Expr} {kvs : List (Str × Int)} {x : Str} {i : Int} {j1 j2 : Nat} {p1 p2 : Pos} (h : KqPs X pos ks vs (trC kvs)) : KqPs X pos (some (.Constant (.str x) j1 p1) :: ks) (.Constant (.int i) j2 p2 :: vs) (trC ((x, i) :: kvs)) := by with_unfolding_all exact sp_cons h
theorem pairs_read : ∀ (kvs : List (Str × Int)) {σ : St} {H : Hp} {Q : List (V × V) -> Hp -> Prop}, Q (kvs.map fun kv => (.str kv.1, .int kv.2)) H -> tPairs (trC kvs) σ H Q
  | [], σ, H, Q, h => h
  | kv :: r, σ, H, Q, h => pairs_read r (Q := fun ps H3 => Q ((.str kv.1, .int kv.2) :: ps) H3) h
theorem DK.fold : ∀ (kvs : List (Str × Int)) {acc : List (PV × PV)} {ks : List (Key × V)}, DK K cl B φ H acc ks -> DK K cl B φ H (kvs.foldl (fun acc kv => IC.put (.str kv.1) (.int kv.2) acc) acc) (mergeK ks (kvs.map fun kv => (Sum.inr kv.1, .int kv.2)))
  | [], acc, ks, l => l
  | kv :: r, acc, ks, l => by
    unfold mergeK
    simp only [List.foldl_cons, List.map_cons]
    exact DK.fold r (l.put (q := Sum.inr kv.1) (x := .int kv.2) (by simp only [RepV]))
theorem se_newd {ks : List (Option Expr)} {vs : List Expr} {kvs : List (Str × Int)} (h : PPs X pos ks vs (trC kvs)) (hall : ks.all (·.isSome) = true := by rfl) (hl : ks.length = vs.length := by rfl) (h0 : ks ≠ [] := by simp) (h15 : ks.length <= 15 := by decide) : PE X (.Dict ks vs pos) (tE S X (.newd kvs)) :=
  (pe_disp h hall hl h0 h15).imp fun σ H Q ⟨B, φ, st, ρ, rs, re, h⟩ => by
    simp only [ev] at h
    split at h
    · rename_i c
      intro p hp
      refine pairs_read kvs ⟨upd_same, kvs.map fun kv => (Sum.inr kv.1, .int kv.2), by simp [kV], by simpa using c, ?_⟩
      rw [upd_upd]
      exact h _ _ (φ ++ [some p]) (.push hp) (rs.push hp (rs.nB hp) ⟨_, upd_same, DK.fold kvs rfl⟩) (.loc_new rs)
    · exact h.elim
theorem se_newd_k {ks : List (Option Expr)} {vs : List Expr} {kvs : List (Str × Int)} (h : KqPs X pos ks vs (trC kvs)) (hall : ks.all (·.isSome) = true := by rfl) (hl : ks.length = vs.length := by rfl) (h0 : ks ≠ [] := by simp) (h15 : ks.length <= 15 := by decide) : KqE X (.Dict ks vs pos) (tE S X (.newd kvs)) := by with_unfolding_all exact se_newd h hall hl h0 h15
end
end L2
namespace L2
open PySem PySem.Spec PyProof.Rows IC
section
variable {S : Se} {X : Cx} {σ : St} {B : Addr -> Prop} {φ : Ph} {H : Hp} {p pos p3 p4 : Pos} {a b tg : Expr} {ca cb : Ce}
end
end L2
namespace WK
open PySem L2 IC
theorem fn_mk {K : PySem.W.Frag} {h : Heap} {mg : Str -> Option Value} {x : Str} {st : Stmt} {ps : List Str} {f : Addr} {oc : Value} {od an : Option Addr} {osl : Array (Option Value)} {kV doc pm cdv ct : Value} (X : K.In h) (G : h.Ns mainGlobals mg)
    (a : PySem.W.nsIn K mainGlobals x = some (some (.ref f))) (l : K.lookup f = some ⟨oc, od, .func (PySem.W.fnOf x x (defArgs st) (defBody st) (defScope st) .none kV doc pm an cdv ct), osl⟩) (c : PySem.W.codeIn K cdv x = true) (k : PySem.W.keepIn K (.ref f) = true)
    (hb : ∀ (kV doc pm : Value) (an : Option Addr) (cdv ct : Value) (us : List Value), us.length = ps.length -> bindArgs (PySem.W.fnOf x x (defArgs st) (defBody st) (defScope st) .none kV doc pm an cdv ct) ⟨us, []⟩ = pure (ps.zip us)) :
    Fn K mg x st ps f (PySem.W.fnOf x x (defArgs st) (defBody st) (defScope st) .none kV doc pm an cdv ct) := ⟨fun_mk l c k, (fun_mk l c k).binds hb, PySem.W.mg_of X G a⟩
section
variable {K : PySem.W.Frag} {cl : Nat -> Addr} {B : Addr -> Prop} {φ : Ph} {H : Hp}
theorem rl_nil : RepL K cl B φ H [] [] := by simp only [RepL]
theorem rl_cons {v : PV} {x : V} {vs : List PV} {xs : List V} (h : RepV K cl B φ H v x) (l : RepL K cl B φ H vs xs) : RepL K cl B φ H (v :: vs) (x :: xs) := by
  simp only [RepL]
  exact ⟨x, xs, rfl, h, l⟩
theorem rv_con {y : Addr} {d : Option Addr} {its : Array Value} {n : Nat} {sl : Array (Option Value)} {xs : List V} {vs : List PV} (h : K.lookup y = some ⟨.type "tuple", d, .seq its n, sl⟩) (hz : its.size <= 1000) (r : Vals xs its.toList) (l : RepL K cl B φ H vs xs) : RepV K cl B φ H (.tp true vs) (.ref y) := by
  simp only [RepV]
  exact ⟨y, xs, rfl, .inr ⟨rfl, _, its, n, h, rfl, rfl, by rw [sizeLine_eq]; omega, r⟩, l⟩
end
theorem cx1_no {P : Program} {w : World} {outer : List PySem.Env} {H : Hp} {s : Shared} {e : Value} {s' : Shared} (h : CX1 P w outer H s (fun _ _ _ => False) e s') : False := by
  obtain ⟨_, _, _, _, _, _, _, _, _, _, _, _, _, _, z⟩ := h
  exact z
theorem rl_ints {K : PySem.W.Frag} {cl : Nat -> Addr} {B : Addr -> Prop} {φ : Ph} {H : Hp} : ∀ ns : List Int, RepL K cl B φ H (ns.map .int) (ns.map V.int)
  | [] => rl_nil
  | n :: ns => rl_cons (by simp only [RepV]) (rl_ints ns)
noncomputable def spX (K : PySem.W.Frag) (call : Nat -> List PV -> Store -> R PV) (fi : Nat) : Sp := fun vs H Q E => ∀ cl, spI K cl call fi vs H Q E
theorem sp_script {K : PySem.W.Frag} {call : Nat -> List PV -> Store -> R PV} {fi : Nat} {H : Hp} {a : Addr} {ns : List Int} (ht : ∀ ns : List Int, ns.length <= 63 -> call fi [.scr (ns.map .int)] [] = .ok (.bl true) []) (hl : ns.length <= 63) (hS : SqL K H a (ns.map V.int)) :
    spX K call fi [.ref a] H (fun v _ => v = .bl true) fun _ _ _ => False := by
  intro cl
  refine ⟨fun _ => False, [], [], [.scr (ns.map .int)], ⟨rfl, fun m n a e => by simp at e, fun n a e => by simp at e, fun n o e => by simp at e, fun a z => by simp at z, fun a z => z.elim⟩, rl_cons ?_ rl_nil, ?_⟩
  · simp only [RepV]
    refine ⟨a, _, rfl, ?_, rl_ints ns⟩
    rcases hS with hS | hS
    · exact .inl ⟨hS, fun z => z, by simp⟩
    · exact .inr hS
  · rw [ht ns hl]
    intro x H' φ' _ _ r
    simpa only [RepV] using r
end WK
namespace L2
open PySem PySem.Spec PyProof.Rows IC
theorem nodup_inj {l : List Str} (h : l.Nodup) {i j : Nat} (hi : i < l.length) (hj : j < l.length) (e : l[i] = l[j]) : i = j := by
  rcases Nat.lt_trichotomy i j with q | q | q
  · exact absurd e (List.pairwise_iff_getElem.mp h i j hi hj q)
  · exact q
  · exact absurd e.symm (List.pairwise_iff_getElem.mp h j i hj hi q)
section
variable {X : Cx} {pins : List (Addr × Obj)} {σ : St} {H : Hp} {s : Shared}
theorem Inv.drop {h' : Heap} {m : Str -> Option Value} {v : Option Value} {i : Nat} {n : Str} (I : Inv X pins σ H s) (hN : X.N.Nodup) (hi : X.N[i]? = some n) (hm : s.heap.Ns X.env.locals m) (look : ∀ (i : Nat) (x : Str) (v : V), X.N[i]? = some x -> σ[i]? = some (some v) -> Vis X.env.scope x -> ∃ u, RelV v u /\ Look X.env s.heap m x u) (hs : Heap.SameBut X.env.locals s.heap h') (hn : h'.Ns X.env.locals (fun x => if x = n then v else m x)) : Inv X pins (σ.set i none) H { s with heap := h' } := by
  have k : ∀ b u, b ≠ X.env.locals -> s.heap.get? b = some u -> h'.get? b = some u := fun b u hb q => (hs.2 b hb).trans q
  have nl : ∀ b o, X.s₀.heap.get? b = some o -> b ≠ X.env.locals := fun b o e => Nat.ne_of_lt (Nat.lt_of_lt_of_le (Heap.lt_size e) I.ok.above)
  refine ⟨I.ok, I.os, I.bare, ⟨fun b o q n hb hx => k b o (nl b o q) (I.base.keep b o q n hb hx), fun b o q n hb hx => ?_, I.base.free, fun b o q hx => ?_, I.base.tups, I.base.frzs, I.base.tbls⟩, ⟨_, hn, fun j x v e1 e2 hv => ?_⟩, fun x c e => ?_, I.free, I.freeC, fun p hp => ?_, fun b u e => ?_, ?_⟩
  · obtain ⟨sl, q1⟩ := I.base.slot b o q n hb hx
    exact ⟨sl, k b _ (nl b o q) q1⟩
  · obtain ⟨o', q1⟩ := I.base.there b o q hx
    exact ⟨o', k b o' (nl b o q) q1⟩
  · have hj : j ≠ i := fun z => by
      subst z
      rw [List.getElem?_set] at e2
      simp only [if_true] at e2
      split at e2 <;> cases e2
    rw [List.getElem?_set_ne (Ne.symm hj)] at e2
    have hx : x ≠ n := fun z => by
      subst z
      obtain ⟨l1, g1⟩ := List.getElem?_eq_some_iff.mp e1
      obtain ⟨l2, g2⟩ := List.getElem?_eq_some_iff.mp hi
      exact hj (nodup_inj hN l1 l2 (g1.trans g2.symm))
    obtain ⟨u, r, lk⟩ := look j x v e1 e2 hv
    refine ⟨u, r, ?_⟩
    rcases lk with ⟨q1, q2⟩ | ⟨q1, c, q2, o, q3, q4⟩
    · exact .inl ⟨q1, by dsimp only; rw [if_neg hx]; exact q2⟩
    · exact .inr ⟨q1, c, q2, o, k c o (I.cne x c q2) q3, q4⟩
  · obtain ⟨v, o, ho, hd⟩ := I.cell x c e
    exact ⟨v, o, k c o (I.cne x c e) ho, hd⟩
  · obtain ⟨q1, q2, q3, q4⟩ := I.pin p hp
    exact ⟨k _ _ q3 q1, q2, q3, q4⟩
  · refine (I.hok b u e).stay (fun c v hc q => k c v (fun z => ?_) q) (fun _ q => q) fun _ _ q => q
    have fr := I.free
    subst z
    rcases hc with z | z
    · rw [z, e] at fr
      cases fr
    · rw [z] at fr
      cases fr
  · rw [List.length_set]
    exact I.len
end
section
variable {X : Cx} {body suite : List Stmt} {b₀ : Stmt} {x n : Str} {np hpos pos : Pos} {W : Addr} {i : Nat}
end
section
variable {S : Se} {X : Cx} {σ : St} {B : Addr -> Prop} {φ φ1 : Ph} {H H1 : Hp} {st : Store} {ρ : IC.Env} {D : Ends} {body suite : List Stmt} {b₀ : Stmt} {x n : Str} {p p2 np hpos pos cpos : Pos} {W : Addr} {i : Nat} {cb ch : Css} {a e : Expr} {es : List Expr} {ca ce : Ce} {ces : Ces}
theorem RepE.drop {K : PySem.W.Frag} {cl : Nat -> Addr} (r : RepE K cl B φ H ρ σ) (i : Nat) : RepE K cl B φ H (ρ.set i none) (σ.set i none) := by
  refine ⟨by rw [List.length_set, List.length_set]; exact r.len, fun j w e => ?_⟩
  by_cases h : j = i
  · subst h
    rw [List.getElem?_set] at e
    simp only [if_true] at e
    split at e <;> cases e
  · rw [List.getElem?_set_ne (Ne.symm h)] at e ⊢
    exact r.get j w e
noncomputable abbrev Se.quiet (S : Se) : Se := { S with may := false }
theorem all_nil {P : Nat -> Prop} : ∀ c ∈ ([] : List Nat), P c := fun _ h => by cases h
theorem all_cons {P : Nat -> Prop} {c : Nat} {cs : List Nat} (h : P c) (t : ∀ d ∈ cs, P d) : ∀ d ∈ c :: cs, P d := fun d hd => by
  rcases List.mem_cons.mp hd with e | e
  · exact e ▸ h
  · exact t d e
end
end L2
namespace L2
open PySem PySem.Spec PyProof.Rows IC
theorem Vals.repN {xs : List V} {us : List Value} (r : Vals xs us) : ∀ k : Nat, Vals (List.replicate k xs).flatten (List.replicate k us).flatten
  | 0 => .nil
  | k + 1 => by
    rw [List.replicate_succ, List.replicate_succ, List.flatten_cons, List.flatten_cons]
    exact r.append (Vals.repN r k)
section
variable {S : Se} {X : Cx} {p pos p2 px apos : Pos} {a b : Expr} {ca cb : Ce}
theorem RepL.rep {K : PySem.W.Frag} {cl : Nat -> Addr} {B : Addr -> Prop} {φ : Ph} {H : Hp} {vs : List PV} {xs : List V} (l : RepL K cl B φ H vs xs) : ∀ k : Nat, RepL K cl B φ H (List.replicate k vs).flatten (List.replicate k xs).flatten
  | 0 => by simp [RepL]
  | k + 1 => by
    rw [List.replicate_succ, List.replicate_succ, List.flatten_cons, List.flatten_cons]
    exact l.append (RepL.rep l k)
end
end L2
namespace L2
open PySem PySem.Spec PyProof.Rows IC
inductive DRow (K : PySem.W.Frag) (cl : Nat -> Addr) (w : World) : List (Str × PV) -> List DictEntry -> Prop
  | nil : DRow K cl w [] []
  | cons {k : Str} {v : PV} {t : Tok} {u : Value} {x : V} {D : List (Str × PV)} {es : List DictEntry} (hr : RelV x u) (hv : ∀ B φ H, RepV K cl B φ H v x) (h : DRow K cl w D es) : DRow K cl w ((k, v) :: D) (⟨PyData.keyHash w.params k, .str k t, u⟩ :: es)
def GD (K : PySem.W.Frag) (w : World) (mg : Str -> Option Value) (cl : Nat -> Addr) (x : Str) (D : List (Str × PV)) : Prop :=
  ∃ (y : Addr) (es : Array DictEntry) (ep : Nat), mg x = some (.ref y) /\ K.lookup y = some ⟨.type "dict", none, .dict es ep, #[]⟩ /\ (y == sysModules) = false /\ DRow K cl w D es.toList /\ (D.map (·.1)).Nodup
theorem DRow.pairs {K : PySem.W.Frag} {cl : Nat -> Addr} {P : Program} {w : World} {D : List (Str × PV)} {es : List DictEntry} (h : DRow K cl w D es) :
    ∃ vs : List (Str × Value), Pairs (strKind P w) es vs /\ (∀ e ∈ es, ∃ k, (strKind P w).is k e.key = true /\ e.hash = (strKind P w).hash k) /\ vs.map (·.1) = D.map (·.1) /\
      (∀ s, (valueAt vs s).isSome = (dlook s D).isSome) /\ ∀ s v, dlook s D = some v -> ∃ u x, valueAt vs s = some u /\ RelV x u /\ ∀ B φ H, RepV K cl B φ H v x := by
  induction h with
  | nil => exact ⟨[], .nil, fun e he => (by cases he), rfl, fun s => rfl, fun s v e => by cases e⟩
  | @cons k v t u x D es hr hv h ih =>
    obtain ⟨vs, h1, h2, h3, h4, h5⟩ := ih
    have hat : ∀ s, valueAt ((k, u) :: vs) s = if k = s then some u else valueAt vs s := fun s => by
      unfold valueAt
      rw [List.find?_cons]
      by_cases e : k = s
      · simp [e]
      · simp [e]
    refine ⟨(k, u) :: vs, .cons (strKind_is P w k t) rfl h1, fun e he => ?_, by rw [List.map_cons, List.map_cons, h3], fun s => ?_, fun s v' e => ?_⟩
    · rcases List.mem_cons.1 he with rfl | he
      · exact ⟨k, strKind_is P w k t, rfl⟩
      · exact h2 e he
    · rw [hat, dlook]
      by_cases e : k = s
      · rw [if_pos e, if_pos (by simpa using e)]; rfl
      · rw [if_neg e, if_neg (by simpa using e), h4]
    · rw [dlook] at e
      rw [hat]
      by_cases q : k = s
      · rw [if_pos (by simpa using q)] at e
        cases e
        exact ⟨u, x, by rw [if_pos q], hr, hv⟩
      · rw [if_neg (by simpa using q)] at e
        obtain ⟨u', x', e1, e2, e3⟩ := h5 s v' e
        exact ⟨u', x', by rw [if_neg q]; exact e1, e2, e3⟩
section
variable {S : Se} {X : Cx} {σ : St} {B : Addr -> Prop} {φ : Ph} {H : Hp} {st : Store} {pos p : Pos} {a b i : Expr} {ca cb : Ce} {x : Str} {D : List (Str × PV)} {ty : TE}
theorem dcon_at {y : Addr} {es : Array DictEntry} {ep : Nat} {pins : List (Addr × Obj)} {s : Shared} (I : Inv X pins σ H s) (hk : X.K.lookup y = some ⟨.type "dict", none, .dict es ep, #[]⟩) (hn : (D.map (·.1)).Nodup) {vs : List (Str × Value)} (h1 : Pairs (strKind X.prog X.w) es.toList vs)
    (h2 : ∀ e ∈ es.toList, ∃ k, (strKind X.prog X.w).is k e.key = true /\ e.hash = (strKind X.prog X.w).hash k) (h3 : vs.map (·.1) = D.map (·.1)) : s.heap.DictOf (strKind X.prog X.w) y vs :=
  ⟨_, es, ep, I.kIn y _ hk, ⟨rfl, rfl, rfl⟩, rfl, fun e he => h2 e (by simpa using he), h1, by rw [h3]; exact hn⟩
noncomputable def tKGet (S : Se) (X : Cx) (D : List (Str × PV)) (ty : TE) : TE := fun σ H Q => ty σ H fun z H2 => ∃ s v, z = .str s /\ dlook s D = some v /\ ∀ x', (∀ B φ H, RepV X.K S.cl B φ H v x') -> Q x' H2
theorem pe_kget (hg : Gl X x) (h : GD X.K X.w X.mg S.cl x D) (hi : PE X i ty) (hs : NoSl i) (hd : (x == ("__debug__" : Str)) = false := by decide) : PE X (.Subscript (.Name x p) i pos) (tKGet S X D ty) := by
  obtain ⟨y, es, ep, hm, hk, hsy, hr, hn⟩ := h
  obtain ⟨vs, h1, h2, h3, h4, h5⟩ := hr.pairs (P := X.prog)
  intro pins s σ H Q I q0
  refine subD_of PySem.F.slot_dict_getitem.lookup hs (thn (pe_glob (v := .ref y) hg hm rfl hd pins s σ H (fun z H1 => z = .ref y /\ ty σ H1 fun z H2 => ∃ s v, z = .str s /\ dlook s D = some v /\ ∀ x', (∀ B φ H, RepV X.K S.cl B φ H v x') -> Q x' H2) I ⟨rfl, q0⟩) fun u s1 ⟨z, H1, I1, rz, ez, q1⟩ => thn (hi pins s1 σ H1 _ I1 q1) fun iv s2 ⟨z2, H2, I2, rz2, sx, v, ez2, e, q2⟩ => ?_)
  subst ez
  subst ez2
  obtain rfl : u = Value.ref y := rz
  obtain ⟨t, rfl⟩ := rz2
  have dd := dcon_at I2 hk hn h1 h2 h3
  obtain ⟨u', x', e1, e2, e3⟩ := h5 sx v e
  exact ⟨dd.typeIs, wpAny_getItem_of (strKind_is X.prog X.w sx t) dd.mapOf e1 ⟨x', H2, I2.tok _, e2, q2 x' e3⟩⟩
theorem se_dix (hg : Gl X x) (h : GD X.K X.w X.mg S.cl x D) (hb : PE X b (tE S X cb)) (hs : NoSl b := by exact fun _ _ => rfl) (hd : (x == ("__debug__" : Str)) = false := by decide) : PE X (.Subscript (.Name x p) b pos) (tE S X (.dix D cb)) :=
  (pe_kget hg h hb hs hd).imp fun σ H Q ⟨B, φ, st, ρ, rs, re, h⟩ => by
    simp only [ev] at h
    refine tE.bind rs re h fun z H1 v st1 φ1 s1 rs1 re1 rv h1 => ?_
    obtain ⟨w, e, q⟩ := toR_run h1 rs1
    cases v with
    | str sx =>
      simp only [RepV] at rv
      exact ⟨sx, w, rv, e, fun x' hx => q x' H1 φ1 .rfl rs1 (hx _ _ _)⟩
    | _ => cases e
theorem se_dix_k (hg : Gl X x) (h : GD X.K X.w X.mg S.cl x D) (hb : KqE X b (tE S X cb)) (hs : NoSl b := by exact fun _ _ => rfl) (hd : (x == ("__debug__" : Str)) = false := by decide) : KqE X (.Subscript (.Name x p) b pos) (tE S X (.dix D cb)) := by with_unfolding_all exact se_dix hg h hb hs hd
noncomputable def rDin (y : Addr) (D : List (Str × PV)) : R2 := fun x z H Q => z = .ref y /\ ∃ s, x = .str s /\ Q (.bl (dlook s D).isSome) H
theorem se_din (hg : Gl X x) (h : GD X.K X.w X.mg S.cl x D) (ha : PE X a (tE S X ca)) (hm : behindInMarks .In (.Name x p) = false := by with_unfolding_all rfl) (hd : (x == ("__debug__" : Str)) = false := by decide) : PE X (.Compare a [.In] [.Name x p] pos) (tE S X (.din ca D)) := by
  obtain ⟨y, es, ep, hmg, hk, hsy, hr, hn⟩ := h
  obtain ⟨vs, h1, h2, h3, h4, h5⟩ := hr.pairs (P := X.prog)
  have op : OpR X (compareOp .In) (rDin y D) := by
    intro pins s σ H z1 z2 v u Q I r1 r2 ⟨ez, sx, ex, q⟩
    subst ez
    subst ex
    obtain rfl : u = Value.ref y := r2
    obtain ⟨t, rfl⟩ := r1
    have dd := dcon_at I hk hn h1 h2 h3
    refine wpAny_in_of (strKind_is X.prog X.w sx t) hsy dd.mapOf ⟨.bl (dlook sx D).isSome, H, I.tok _, ?_, q⟩
    rw [h4]; rfl
  refine (pe_cmpR op ha (pe_glob (v := .ref y) hg hmg rfl hd) hm).imp fun σ H Q ⟨B, φ, st, ρ, rs, re, h⟩ => ?_
  simp only [ev] at h
  refine tE.bind rs re h fun z H1 v st1 φ1 s1 rs1 re1 rv h1 => ?_
  obtain ⟨w, e, q⟩ := toR_run h1 rs1
  cases v with
  | str sx =>
    simp only [RepV] at rv
    cases e
    exact ⟨rfl, sx, rv, q _ H1 φ1 .rfl rs1 (by simp only [RepV])⟩
  | _ => cases e
theorem se_din_k (hg : Gl X x) (h : GD X.K X.w X.mg S.cl x D) (ha : KqE X a (tE S X ca)) (hm : behindInMarks .In (.Name x p) = false := by with_unfolding_all rfl) (hd : (x == ("__debug__" : Str)) = false := by decide) : KqE X (.Compare a [.In] [.Name x p] pos) (tE S X (.din ca D)) := by with_unfolding_all exact se_din hg h ha hm hd
theorem zipUp_get : ∀ (xs ys : List PV) (i : Nat) {x y : PV}, xs[i]? = some x -> ys[i]? = some y -> (zipUp xs ys)[i]? = some (.tup [x, y])
  | [], _, i, _, _, h, _ => by simp at h
  | _ :: _, [], i, _, _, _, h => by simp at h
  | x :: xs, y :: ys, 0, _, _, h1, h2 => by simp at h1 h2; simp [zipUp, h1, h2]
  | x :: xs, y :: ys, i + 1, _, _, h1, h2 => by
    simp only [List.getElem?_cons_succ] at h1 h2
    simp only [zipUp, List.getElem?_cons_succ]
    exact zipUp_get xs ys i h1 h2
theorem zipUp_len : ∀ (xs ys : List PV), xs.length <= ys.length -> (zipUp xs ys).length = xs.length
  | [], _, _ => by simp [zipUp]
  | _ :: _, [], h => by simp at h
  | x :: xs, y :: ys, h => by simp only [zipUp, List.length_cons, zipUp_len xs ys (by simpa using h)]
theorem drw_zip {k j : Bool} {vs ws : List PV} {xs ys : List V} {y z : Addr} (rt : RTup X.K B φ H k y xs) (l : RepL X.K S.cl B φ H vs xs) (rt2 : RTup X.K B φ H j z ys) (l2 : RepL X.K S.cl B φ H ws ys) (hle : vs.length <= ws.length) : Drw S X B φ H (zipUp vs ws) (Itz X.K y z) := by
  have hl := l.length
  have hl2 := l2.length
  have hp := zipUp_len vs ws hle
  refine ⟨fun φ' H' s => ⟨xs, (rt.step s).sq, by omega⟩, fun i φ' H' s hi => ⟨xs, ys, xs[i]'(by omega), ys[i]'(by omega), (rt.step s).sq, (rt2.step s).sq, by simp [show i < xs.length by omega], by simp [show i < ys.length by omega]⟩, fun i φ' H' st x H2 B' hB s rs hi q => ?_⟩
  obtain ⟨T, hT, rfl, q⟩ := q
  obtain ⟨v, hv⟩ : ∃ v, vs[i]? = some v := ⟨vs[i]'(by omega), by simp [show i < vs.length by omega]⟩
  obtain ⟨w, hw⟩ : ∃ w, ws[i]? = some w := ⟨ws[i]'(by omega), by simp [show i < ws.length by omega]⟩
  obtain ⟨x', hx', rv⟩ := l.get i hv
  obtain ⟨y', hy', rw'⟩ := l2.get i hw
  have e := q xs ys x' y' (rt.step s).sq (rt2.step s).sq hx' hy'
  subst e
  refine ⟨.tup [v, w], zipUp_get vs ws i hv hw, .tup_new hT rs ?_, fun b o e => by rw [upd_ne (ne_of_none e hT)]; exact e⟩
  simp only [RepL]
  exact ⟨x', [y'], rfl, (rv.moreB hB).step s, y', [], rfl, (rw'.moreB hB).step s, rfl⟩
theorem si_zip {es : List Expr} {kk : Nat} {tp : Pos} (hg : Gl X "zip") (hm : X.mg "zip" = none) (ha : PE X a (tE S X ca)) (hb : PE X b (tE S X cb)) (hs : starEach [a, b] X.env = [(false, eval a X.env), (false, eval b X.env)] := by rfl) (hs2 : starEach [b] X.env = [(false, eval b X.env)] := by rfl) :
    PI X (.Tuple es kk tp) (.Call (.Name "zip" p) [a, b] [] pos) (tI S X (.zip ca cb)) :=
  (pi_zipT hg hm (pa_cons ha (pa_cons hb pa_nil hs2) (by rw [hs, hs2])) hs hs2).imp fun σ H R ⟨B, φ, st, ρ, rs, re, h⟩ => by
    simp only [evi] at h
    refine tE.bind rs re h fun x H1 v st1 φ1 s1 rs1 re1 rv h1 => tE.bind rs1 re1 h1 fun y H2 w st2 φ2 s2 rs2 re2 rw h2 => ?_
    obtain ⟨zs, e, h2⟩ := rng_run h2
    cases v with
    | tp k vs =>
      cases w with
      | tp j ws =>
        simp only [zipV] at e
        by_cases hle : vs.length <= ws.length
        · rw [if_pos hle] at e
          cases e
          simp only [RepV] at rv rw
          obtain ⟨a1, xs, rfl, rt, l⟩ := rv
          obtain ⟨a2, ys, rfl, rt2, l2⟩ := rw
          exact ⟨a1, a2, rfl, ⟨xs, (rt.step s2).sq⟩, ⟨ys, rt2.sq⟩, h2.ok rs2 (drw_zip (rt.step s2) (l.step s2) rt2 l2 hle)⟩
        · rw [if_neg hle] at e
          cases e
      | _ => cases e
    | _ => cases e
theorem si_zip_k {es : List Expr} {kk : Nat} {tp : Pos} (hg : Gl X "zip") (hm : X.mg "zip" = none) (ha : KqE X a (tE S X ca)) (hb : KqE X b (tE S X cb)) (hs : starEach [a, b] X.env = [(false, eval a X.env), (false, eval b X.env)] := by rfl) (hs2 : starEach [b] X.env = [(false, eval b X.env)] := by rfl) :
    KqI X (.Tuple es kk tp) (.Call (.Name "zip" p) [a, b] [] pos) (tI S X (.zip ca cb)) := by with_unfolding_all exact si_zip hg hm ha hb hs hs2
end
end L2
namespace L2
open PySem PySem.Spec PyProof.Rows IC
section
variable {K : PySem.W.Frag} {cl : Nat -> Addr} {B : Addr -> Prop} {φ : Ph} {H : Hp} {st : Store}
theorem nth {D y : Addr} (b : ¬ Bx B D y) (n : some y ∉ φ) : ¬ B y /\ some y ∉ φ ++ [some D] := ⟨fun z => b (.inl z), fun z => by
  rcases List.mem_append.1 z with z | z
  · exact n z
  · simp only [List.mem_cons, List.not_mem_nil, or_false, Option.some.injEq] at z
    exact b (.inr z)⟩
mutual
theorem RepV.thaw {D : Addr} : ∀ (v : PV) (x : V), RepV K cl (Bx B D) φ H v x -> RepV K cl B (φ ++ [some D]) H v x
  | .non, x, h => by simp only [RepV] at h ⊢; exact h
  | .bl b, x, h => by simp only [RepV] at h ⊢; exact h
  | .int i, x, h => by simp only [RepV] at h ⊢; exact h
  | .str y, x, h => by simp only [RepV] at h ⊢; exact h
  | .tp k vs, x, h => by
    simp only [RepV] at h ⊢
    obtain ⟨y, xs, e, r, l⟩ := h
    refine ⟨y, xs, e, ?_, RepL.thaw vs xs l⟩
    rcases r with ⟨r, b, n⟩ | r
    · exact .inl ⟨r, nth b n⟩
    · exact .inr r
  | .lst vs, x, h => by
    simp only [RepV] at h ⊢
    obtain ⟨y, xs, e, ⟨r, b, n⟩, l⟩ := h
    exact ⟨y, xs, e, ⟨r, nth b n⟩, RepL.thaw vs xs l⟩
  | .loc n, x, h => by
    simp only [RepV] at h ⊢
    obtain ⟨hn, y, e, q⟩ := h
    exact ⟨by simp; omega, y, e, fun b z => q b (by rw [List.getElem?_append_left hn] at z; exact z)⟩
  | .exn c, x, h => by
    simp only [RepV] at h ⊢
    obtain ⟨y, e, r, b, n⟩ := h
    exact ⟨y, e, r, nth b n⟩
  | .scr vs, x, h => by
    simp only [RepV] at h ⊢
    obtain ⟨y, xs, e, r, l⟩ := h
    refine ⟨y, xs, e, ?_, RepL.thaw vs xs l⟩
    rcases r with ⟨r, b, n⟩ | r
    · exact .inl ⟨r, nth b n⟩
    · exact .inr r
theorem RepL.thaw {D : Addr} : ∀ (v : List PV) (x : List V), RepL K cl (Bx B D) φ H v x -> RepL K cl B (φ ++ [some D]) H v x
  | [], x, h => by simp only [RepL] at h ⊢; exact h
  | v :: vs, x, h => by
    simp only [RepL] at h ⊢
    obtain ⟨y, ys, e, r, l⟩ := h
    exact ⟨y, ys, e, RepV.thaw v y r, RepL.thaw vs ys l⟩
end
theorem DK.thaw {D : Addr} : ∀ {kvs : List (PV × PV)} {ks : List (Key × V)}, DK K cl (Bx B D) φ H kvs ks -> DK K cl B (φ ++ [some D]) H kvs ks
  | [], ks, h => h
  | (k, v) :: r, ks, h => by
    obtain ⟨q, x, t, e, m, rv, l⟩ := h
    exact ⟨q, x, t, e, m, rv.thaw, DK.thaw l⟩
theorem DT.thaw {D : Addr} : ∀ {kvs : List (PV × PV)} {ks : List (List Key × V)}, DT K cl (Bx B D) φ H kvs ks -> DT K cl B (φ ++ [some D]) H kvs ks
  | [], ks, h => h
  | (k, v) :: r, ks, h => by
    obtain ⟨q, x, t, e, m, rv, l⟩ := h
    exact ⟨q, x, t, e, m, rv.thaw, DT.thaw l⟩
theorem RepS.thaw {D : Addr} {zs : List PV} {ys : List V} (rs : RepS K cl (Bx B D) φ H st) (nB : ¬ B D) (hD : H D = some (.lst ys)) (nD : some D ∉ φ) (l : RepL K cl (Bx B D) φ H zs ys) : RepS K cl B (φ ++ [some D]) H (st ++ [.lst zs]) := by
  have hl : φ.length = st.length := rs.len
  have spl : ∀ {n : Nat} {a : Addr}, (φ ++ [some D])[n]? = some (some a) -> (n < φ.length /\ φ[n]? = some (some a)) \/ (n = φ.length /\ a = D) := fun {n a} e => by
    by_cases hn : n < φ.length
    · rw [List.getElem?_append_left hn] at e; exact .inl ⟨hn, e⟩
    · rw [List.getElem?_append_right (by omega)] at e
      rcases (by omega : n - φ.length = 0 \/ 0 < n - φ.length) with q | q
      · rw [q] at e
        simp at e
        exact .inr ⟨by omega, e.symm⟩
      · rw [List.getElem?_eq_none (by simp; omega)] at e; cases e
  have ne : ∀ {n : Nat} {a : Addr}, φ[n]? = some (some a) -> a ≠ D := fun e z => nD (z ▸ List.mem_of_getElem? e)
  refine ⟨by simp [hl], fun m n a e1 e2 => ?_, fun n a e => ?_, fun n o e ho => ?_, fun a h => ?_, fun a h => rs.dom a (.inl h)⟩
  · rcases spl e1 with ⟨h1, e1⟩ | ⟨h1, q1⟩ <;> rcases spl e2 with ⟨h2, e2⟩ | ⟨h2, q2⟩
    · exact rs.inj m n a e1 e2
    · exact absurd q2 (ne e1)
    · exact absurd q1 (ne e2)
    · omega
  · rcases spl e with ⟨h1, e1⟩ | ⟨h1, q1⟩
    · obtain ⟨o, q, r⟩ := rs.obj n a e1
      refine ⟨o, by rw [List.getElem?_append_left (by omega)]; exact q, ?_⟩
      cases o with
      | lst vs => obtain ⟨xs, hx, l⟩ := r; exact ⟨xs, hx, l.thaw⟩
      | dct t kvs => cases t <;> (obtain ⟨xs, hx, l⟩ := r; exact ⟨xs, hx, l.thaw⟩)
      | dead => exact r.elim
    · subst q1
      exact ⟨.lst zs, by rw [h1, hl, List.getElem?_append_right (Nat.le_refl _)]; simp, ys, hD, l.thaw⟩
  · by_cases hn : n < st.length
    · rw [List.getElem?_append_left hn] at e
      obtain ⟨a, q⟩ := rs.liv n o e ho
      exact ⟨a, by rw [List.getElem?_append_left (by omega)]; exact q⟩
    · have hn2 : n = st.length := by
        rcases (by omega : n = st.length \/ st.length < n) with q | q
        · exact q
        · rw [List.getElem?_eq_none (by simp; omega)] at e; cases e
      exact ⟨D, by rw [hn2, <- hl, List.getElem?_append_right (Nat.le_refl _)]; simp⟩
  · rcases List.mem_append.1 h with h | h
    · exact fun z => rs.nb a h (.inl z)
    · simp only [List.mem_cons, List.not_mem_nil, or_false, Option.some.injEq] at h
      subst h
      exact nB
end
section
variable {S : Se} {X : Cx} {K : PySem.W.Frag} {cl : Nat -> Addr} {σ : St} {B : Addr -> Prop} {φ φ1 : Ph} {H H1 : Hp} {st : Store} {ρ : IC.Env} {pos p p2 px : Pos} {a b c o tg l elt iter : Expr} {ca cb cc ce : Ce} {ci : Cit} {ct : Tg}
theorem comp_readT {sl : List (Option Nat)} (hf : tgtFree ct sl = true) {H : Hp} {Q : VK} (h : tE S X (.thw (.comp sl ct ci cc ce)) σ H Q) : tComp sl (tI S X ci) (tG0 S X.K ct) (tT0 S X.K cc) (tE0 S X.K ce) σ H Q := by
    obtain ⟨B, φ, st, ρ, rs, re, h⟩ := h
    simp only [ev, R.bind_assoc] at h
    refine ⟨B, φ, st, ρ, rs, re, (Run.bind h).mono fun J H1 ⟨xs, st1, φ1, s1, rs1, dr, h1⟩ => fun D hD => ?_⟩
    generalize hone : (fun (x : PV) (st2 : Store) => match bindT ct x (sl.map fun o => o.bind fun j => (ρ[j]?).join) with
      | none => (R.bad : R (Option PV))
      | some ρ1 => (ev S.call ρ1 st2 cc).bind fun b st3 => onO (truV st3 b) fun k => cond k ((ev S.call ρ1 st3 ce).bind fun y st4 => .ok (some y) st4) (.ok none st3)) = one at h1
    cases e : compL one xs st1 with
    | exc k s => rw [e] at h1; simp only [lstR, R.bind] at h1; exact h1.elim
    | bad => rw [e] at h1; simp only [lstR, R.bind] at h1; exact h1.elim
    | ok zs st5 =>
      rw [e] at h1
      simp only [lstR] at h1
      by_cases hz : zs.length <= 1000000
      case neg => rw [if_neg hz] at h1; simp only [R.bind] at h1; exact h1.elim
      rw [if_pos hz] at h1
      simp only [R.bind, thwV] at h1
      have nB : ¬ B D := rs1.nB hD
      have nD : some D ∉ φ1 := fun z => by
        obtain ⟨w, e⟩ := rs1.there z
        rw [hD] at e; cases e
      refine ⟨fun i m σc ys H2 => ∃ φ2 st2 vs rest, i + m = xs.length /\ Step φ1 H1 φ2 H2 /\ H2 D = some (.lst ys) /\ some D ∉ φ2 /\ RepS X.K S.cl (Bx B D) φ2 H2 st2 /\ RepE X.K S.cl (Bx B D) φ2 H2 (sl.map fun o => o.bind fun j => (ρ[j]?).join) σc /\
          RepL X.K S.cl (Bx B D) φ2 H2 vs ys /\ compL one (xs.drop i) st2 = .ok rest st5 /\ vs ++ rest = zs,
        ⟨xs.length, φ1, st1, [], zs, by omega, .upd hD, upd_same, nD, rs1.more hD, (RepE.inn (re.step s1)).more hD, by simp only [RepL], by simpa using e, rfl⟩, ?_⟩
      rintro i m σc ys H2 ⟨φ2, st2, vs, rest, hm, s2, hD2, nD2, rs2, re2, l2, ec, ez⟩
      refine ⟨hD2, ?_⟩
      by_cases hi : i < xs.length
      · have hl2 := l2.length
        have hml := million1
        have hzl := congrArg List.length ez
        rw [List.length_append] at hzl
        refine .inr ⟨dr.go i φ2 H2 s2 hi, by omega, fun σ' ys' H' => ∃ φ2 st2 vs rest, Step φ1 H1 φ2 H' /\ H' D = some (.lst ys') /\ some D ∉ φ2 /\ RepS X.K S.cl (Bx B D) φ2 H' st2 /\ RepE X.K S.cl (Bx B D) φ2 H' (sl.map fun o => o.bind fun j => (ρ[j]?).join) σ' /\
          RepL X.K S.cl (Bx B D) φ2 H' vs ys' /\ compL one (xs.drop (i + 1)) st2 = .ok rest st5 /\ vs ++ rest = zs, fun σ' ys' H' ⟨φ2, st2, vs, rest, q⟩ => ⟨m - 1, by omega, φ2, st2, vs, rest, by omega, q⟩, fun x H3 hy => ?_⟩
        obtain ⟨v, hv, rv, kk⟩ := dr.yld i φ2 H2 st2 x H3 (Bx B D) (fun y z => z.elim .inl fun q => .inr (q ▸ hD)) s2 rs2 hi hy
        have s3 : Step φ2 H2 φ2 H3 := ⟨fun b o _ e => kk b o e, Nat.le_refl _, fun _ _ _ e => e, fun _ h => .inl h⟩
        have rs3 : RepS X.K S.cl (Bx B D) φ2 H3 st2 := rs2.same kk
        have ed : xs.drop i = v :: xs.drop (i + 1) := by
          rw [List.drop_eq_getElem_cons hi]
          rw [List.getElem?_eq_getElem hi] at hv
          rw [Option.some.inj hv]
        rw [ed, compL] at ec
        obtain ⟨o, st3, e1, ec⟩ := bind_ok ec
        obtain ⟨rest', st4, e2, ec⟩ := bind_ok ec
        rw [<- hone] at e1
        dsimp only at e1
        cases eb : bindT ct v (sl.map fun o => o.bind fun j => (ρ[j]?).join) with
        | none => rw [eb] at e1; cases e1
        | some ρ1 =>
          rw [eb] at e1
          dsimp only at e1
          obtain ⟨bv, st6, e3, e1⟩ := bind_ok e1
          obtain ⟨k, e4, e1⟩ := onO_ok e1
          have er : st4 = st5 /\ consO o rest' = rest := by
            injection ec with q1 q2
            exact ⟨q2, q1⟩
          obtain ⟨rfl, rfl⟩ := er
          refine ⟨Bx B D, φ2, st2, _, v, ρ1, rs3, re2.step s3, rv, eb, fun σ4 re4 => ⟨Bx B D, φ2, st2, ρ1, rs3, re4, ?_⟩⟩
          have et : truR (ev S.call ρ1 st2 cc) = .ok k st6 := by
            rw [e3]
            simp only [truR, R.bind, e4, onO]
          rw [et]
          rintro k' H5 φ5 s5 rs5 rfl
          have nD5 : some D ∉ φ5 := fun z => by
            rcases s5.new D z with q | q
            · exact nD2 q
            · rw [kk D _ hD2] at q; cases q
          have hD5 : H5 D = some (.lst ys) := s5.keep D _ nD2 (kk D _ hD2)
          have s25 : Step φ1 H1 φ5 H5 := s2.trans (s3.trans s5)
          have l5 := (l2.step s3).step s5
          have re5 : RepE X.K S.cl (Bx B D) φ5 H5 ρ1 σ4 := re4.step s5
          have h0 : ∀ (i : Nat), sl[i]? = some none -> (sl.map fun o => o.bind fun j => (ρ[j]?).join)[i]? = some none := fun i q => by
            rw [List.getElem?_map, q]; rfl
          cases k with
          | false =>
            simp only [cond_false] at e1
            cases e1
            exact ⟨φ5, _, vs, rest', s25, hD5, nD5, rs5, RepE.untgt hf h0 eb re5, l5, e2, ez⟩
          | true =>
            simp only [cond_true] at e1
            obtain ⟨y, st7, e5, e1⟩ := bind_ok e1
            cases e1
            refine ⟨Bx B D, φ5, st6, ρ1, rs5, re5, ?_⟩
            rw [e5]
            intro y' H6 φ6 s6 rs6 ry
            have nD6 : some D ∉ φ6 := fun z => by
              rcases s6.new D z with q | q
              · exact nD5 q
              · rw [hD5] at q; cases q
            have hD6 : H6 D = some (.lst ys) := s6.keep D _ nD5 hD5
            have hBD : Bx B D D := .inr rfl
            refine ⟨hD6, φ6, _, vs ++ [y], rest', ?_, upd_same, nD6, rs6.skip hBD, (RepE.untgt hf h0 eb (re5.step s6)).skip hBD, ((l5.step s6).append (by simp only [RepL]; exact ⟨y', [], rfl, ry, rfl⟩)).skip hBD, e2, ?_⟩
            · have s16 := s25.trans s6
              exact ⟨fun b o n q => by rw [upd_ne (ne_of_none q hD)]; exact s16.keep b o n q, s16.len, s16.pre, s16.new⟩
            · simpa [consO] using ez
      · have ei : i = xs.length := by omega
        subst ei
        rw [List.drop_length, compL] at ec
        cases ec
        have s3 : Step φ1 H1 (φ2 ++ [some D]) H2 := ⟨fun b o n q => s2.keep b o n q, Nat.le_trans s2.len (by simp), fun n b h e => by rw [List.getElem?_append_left (Nat.lt_of_lt_of_le h s2.len)] at e; exact s2.pre n b h e, fun b h => by
          rcases List.mem_append.1 h with h | h
          · exact s2.new b h
          · simp only [List.mem_cons, List.not_mem_nil, or_false, Option.some.injEq] at h
            subst h
            exact .inr hD⟩
        refine .inl ⟨dr.stop φ2 H2 s2, h1 (.ref D) H2 (φ2 ++ [some D]) s3 (RepS.thaw rs2 nB hD2 nD2 (by rw [<- ez, List.append_nil]; exact l2)) ?_⟩
        simp only [RepV]
        refine ⟨by simp [rs2.len], D, rfl, fun b e => ?_⟩
        rw [<- rs2.len, List.getElem?_append_right (Nat.le_refl _)] at e
        simpa using e.symm
theorem ss_compT {sc : Scope} {NC : List Str} {sl : List (Option Nat)} {ifs : List Expr} {i : Nat} {x : Str} {spos : Pos} (hN : X.N.Nodup) (hix : X.N[i]? = some x) (hx : Loc X.env.scope x) (hc : X.calm = true) (O : CompOk X sc NC sl) (hf : tgtFree ct sl = true) (hi : PI X tg iter (tI S X ci)) (hg : ∀ j, PG (cxC X sc NC j) tg (tG0 S X.K ct))
    (ht : ∀ j, PTs (cxC X sc NC j) ifs (tT0 S X.K cc)) (he : ∀ j, PE (cxC X sc NC j) elt (tE0 S X.K ce))
    (hsw : swapsWith (.ListComp elt [⟨tg, iter, ifs, 0⟩] sc pos) (some (.Name x px)) spos.line X.env = pure true := by rfl) (hs : ∀ x, foldedSetIterable iter X.env x = pure x := by intro _; rfl)
    (hfn : X.fn x = true \/ X.env.scope.names.lookup x = some .local := by first | exact .inl rfl | exact .inr rfl | assumption) : PS X (.Assign [.Name x px] (.ListComp elt [⟨tg, iter, ifs, 0⟩] sc pos) spos) (tS S X (.asg (.n i) (.thw (.comp sl ct ci cc ce)))) :=
  (ps_comp hN hix hx hc O hi hg ht he hsw hs hfn).imp fun D σ H ⟨B, φ, st, ρ, rs, re, h⟩ => by
    refine comp_readT hf ?_
    simp only [ex] at h
    exact tE.fl rs re h fun x H1 v st1 φ1 s rs1 re1 rv h1 => h1 _ H1 φ1 .rfl rs1 (re1.set i rv)
theorem ss_compT_k {sc : Scope} {NC : List Str} {sl : List (Option Nat)} {ifs : List Expr} {i : Nat} {x : Str} {spos : Pos} (hN : X.N.Nodup) (hix : X.N[i]? = some x) (hx : Loc X.env.scope x) (hc : X.calm = true) (O : CompOk X sc NC sl) (hf : tgtFree ct sl = true) (hi : KqI X tg iter (tI S X ci)) (hg : ∀ j, KqG (cxC X sc NC j) tg (tG0 S X.K ct))
    (ht : ∀ j, KqTs (cxC X sc NC j) ifs (tT0 S X.K cc)) (he : ∀ j, KqE (cxC X sc NC j) elt (tE0 S X.K ce))
    (hsw : swapsWith (.ListComp elt [⟨tg, iter, ifs, 0⟩] sc pos) (some (.Name x px)) spos.line X.env = pure true := by rfl) (hs : ∀ x, foldedSetIterable iter X.env x = pure x := by intro _; rfl)
    (hfn : X.fn x = true \/ X.env.scope.names.lookup x = some .local := by first | exact .inl rfl | exact .inr rfl | assumption) : KqS X (.Assign [.Name x px] (.ListComp elt [⟨tg, iter, ifs, 0⟩] sc pos) spos) (tS S X (.asg (.n i) (.thw (.comp sl ct ci cc ce)))) := by with_unfolding_all exact ss_compT hN hix hx hc O hf hi hg ht he hsw hs hfn
end
end L2
namespace IC
open PySem
noncomputable def d_ROWS : List (Str × PV) := [(Str.ofString "set", (.tp true [(.str (Str.ofString "cell")), (.str (Str.ofString "figure"))])), (Str.ofString "move", (.tp true [(.str (Str.ofString "cell")), (.str (Str.ofString "cell"))])), (Str.ofString "bare", (.tp true [(.str (Str.ofString "cell")), (.str (Str.ofString "cell"))])), (Str.ofString "sum", (.tp true [(.str (Str.ofString "cell")), (.str (Str.ofString "cell")), (.str (Str.ofString "cell"))])), (Str.ofString "less", (.tp true [(.str (Str.ofString "cell")), (.str (Str.ofString "cell")), (.str (Str.ofString "cell"))])), (Str.ofString "both", (.tp true [(.str (Str.ofString "cell")), (.str (Str.ofString "cell")), (.str (Str.ofString "cell"))])), (Str.ofString "any", (.tp true [(.str (Str.ofString "cell")), (.str (Str.ofString "cell")), (.str (Str.ofString "cell"))])), (Str.ofString "odd", (.tp true [(.str (Str.ofString "cell")), (.str (Str.ofString "cell")), (.str (Str.ofString "cell"))])), (Str.ofString "twice", (.tp true [(.str (Str.ofString "cell")), (.str (Str.ofString "cell"))])), (Str.ofString "half", (.tp true [(.str (Str.ofString "cell")), (.str (Str.ofString "cell"))])), (Str.ofString "times", (.tp true [(.str (Str.ofString "cell")), (.str (Str.ofString "cell")), (.str (Str.ofString "cell")), (.str (Str.ofString "cell"))])), (Str.ofString "mark", (.tp true [(.str (Str.ofString "figure"))])), (Str.ofString "ask", (.tp true [(.str (Str.ofString "cell"))]))]
noncomputable def f_is_whole : Fn := ⟨3, 3, true, (.cons (.ret (.and (.isi (.var 0) [.int]) (.and (.not (.isi (.var 0) [.bool])) (.chain .le .le (.var 1) (.var 0) (.var 2))))) .nil)⟩
noncomputable def f_is_letter : Fn := ⟨1, 1, true, (.cons (.ret (.and (.isi (.var 0) [.str]) (.and (.cmp .eq (.blt .len (.cons (.var 0) .nil)) (.cst (.int 1))) (.chain .le .le (.cst (.str (Str.ofString "a"))) (.var 0) (.cst (.str (Str.ofString "z"))))))) .nil)⟩
noncomputable def f_is_row : Fn := ⟨1, 1, true, (.cons (.ret (.call 3 (.cons (.var 0) (.cons (.cst (.bl false)) .nil)))) .nil)⟩
noncomputable def f_has_form : Fn := ⟨2, 4, true, (.cons (.ite (.or (.not (.call 4 (.cons (.var 0) .nil))) (.cmp .ne (.blt .len (.cons (.var 0) .nil)) (.bin .add (.blt .len (.cons (.dix d_ROWS (.idx (.var 0) (.cst (.int 0)))) .nil)) (.cst (.int 1))))) (.cons (.ret (.cst (.bl false))) .nil) .nil) (.cons (.for (.t [2, 3]) (.zip (.dix d_ROWS (.idx (.var 0) (.cst (.int 0)))) (.slc (.var 0) (.cst (.int 1)) (.cst .non))) (.cons (.ite (.not (.call 5 (.cons (.var 2) (.cons (.var 3) (.cons (.var 1) .nil))))) (.cons (.ret (.cst (.bl false))) .nil) .nil) .nil)) (.cons (.ret (.or (.cmp .ne (.idx (.var 0) (.cst (.int 0))) (.cst (.str (Str.ofString "times")))) (.cmp .ne (.idx (.var 0) (.cst (.int 1))) (.idx (.var 0) (.cst (.int 2)))))) .nil)))⟩
noncomputable def f_is_named : Fn := ⟨1, 1, true, (.cons (.ret (.and (.isi (.var 0) [.tuple]) (.and (.cmp .gt (.blt .len (.cons (.var 0) .nil)) (.cst (.int 0))) (.and (.isi (.idx (.var 0) (.cst (.int 0))) [.str]) (.din (.idx (.var 0) (.cst (.int 0))) d_ROWS))))) .nil)⟩
noncomputable def f_is_operand : Fn := ⟨3, 3, true, (.cons (.ite (.cmp .eq (.var 0) (.cst (.str (Str.ofString "figure")))) (.cons (.ret (.call 0 (.cons (.var 1) (.cons (.cst (.int 0)) (.cons (.cst (.int 1)) .nil))))) .nil) .nil) (.cons (.ret (.ite (.var 2) .nope (.call 6 (.cons (.var 1) .nil)))) .nil))⟩
noncomputable def f_is_cell : Fn := ⟨1, 1, true, (.cons (.ret (.and (.call 7 (.cons (.var 0) .nil)) (.call 0 (.cons (.idx (.var 0) (.cst (.int 1))) (.cons (.cst (.int 0)) (.cons (.cst (.int 99)) .nil)))))) .nil)⟩
noncomputable def f_is_lettered : Fn := ⟨1, 1, true, (.cons (.ret (.and (.isi (.var 0) [.tuple]) (.and (.cmp .eq (.blt .len (.cons (.var 0) .nil)) (.cst (.int 2))) (.call 1 (.cons (.idx (.var 0) (.cst (.int 0))) .nil))))) .nil)⟩
noncomputable def f_qfresh : Fn := ⟨1, 1, false, (.cons (.ret (.newl (.cons (.slc (.var 0) (.cst .non) (.cst (.int 63))) (.cons (.cst (.int 0)) (.cons (.cst (.int 0)) (.cons (.cst (.bl false)) .nil)))))) .nil)⟩
noncomputable def f_qmixed : Fn := ⟨1, 8, true, (.cons (.asg (.n 1) (.tup (.cons (.cst (.int 2147483647)) (.cons (.cst (.int 2147483629)) (.cons (.cst (.int 2147483587)) (.cons (.cst (.int 2147483579)) (.cons (.cst (.int 2147483563)) .nil))))))) (.cons (.asg (.n 2) (.cst (.int 0))) (.cons (.for (.t [3, 4]) (.enum (.var 1)) (.cons (.asg (.n 5) (.bin .add (.var 0) (.idx (.tup (.cons (.cst (.int 11)) (.cons (.cst (.int 101)) (.cons (.cst (.int 1009)) (.cons (.cst (.int 10007)) (.cons (.cst (.int 100003)) .nil)))))) (.var 3)))) (.cons (.asg (.n 5) (.bin .mod (.bin .mul (.var 5) (.bin .add (.cst (.int 48271)) (.bin .mul (.cst (.int 2)) (.var 3)))) (.var 4))) (.cons (.asg (.n 6) (.bin .mod (.bin .mul (.var 5) (.var 5)) (.var 4))) (.cons (.asg (.n 7) (.bin .mod (.bin .mul (.bin .mod (.bin .mul (.var 6) (.var 6)) (.var 4)) (.var 5)) (.var 4))) (.cons (.asg (.n 2) (.bin .add (.bin .mul (.var 2) (.var 4)) (.var 7))) .nil)))))) (.cons (.ret (.var 2)) .nil))))⟩
noncomputable def f_qfill : Fn := ⟨1, 4, false, (.cons (.asg (.t [1, 2]) (.tup (.cons (.idx (.var 0) (.cst (.int 0))) (.cons (.idx (.var 0) (.cst (.int 1))) .nil)))) (.cons (.asg (.n 3) (.bin .add (.bin .mul (.cst (.int 31)) (.var 2)) (.cst (.int 7)))) (.cons (.ite (.cmp .gt (.blt .len (.cons (.var 1) .nil)) (.cst (.int 0))) (.cons (.asg (.n 3) (.bin .mul (.cst (.int 104729)) (.bin .fdiv (.var 2) (.blt .len (.cons (.var 1) .nil))))) (.cons (.asg (.n 3) (.bin .add (.var 3) (.idx (.var 1) (.bin .mod (.var 2) (.blt .len (.cons (.var 1) .nil)))))) .nil)) .nil) (.cons (.six (.var 0) (.cst (.int 1)) (.bin .add (.var 2) (.cst (.int 1)))) (.cons (.six (.var 0) (.cst (.int 3)) (.or (.cmp .ge (.var 2) (.blt .len (.cons (.var 1) .nil))) (.cmp .lt (.var 3) (.bin .pow (.cst (.int 10)) (.cst (.int 18)))))) (.cons (.ite (.idx (.var 0) (.cst (.int 3))) (.cons (.six (.var 0) (.cst (.int 2)) (.call 9 (.cons (.var 3) .nil))) .nil) (.cons (.six (.var 0) (.cst (.int 2)) (.bin .sub (.var 3) (.bin .pow (.cst (.int 10)) (.cst (.int 18))))) .nil)) .nil))))))⟩
noncomputable def f_qtake : Fn := ⟨2, 4, false, (.cons (.asg (.n 2) (.cst (.int 0))) (.cons (.while (.and (.cmp .lt (.var 2) (.cst (.int 64))) (.or (.cmp .eq (.idx (.var 0) (.cst (.int 2))) (.cst (.int 0))) (.and (.idx (.var 0) (.cst (.int 3))) (.cmp .lt (.idx (.var 0) (.cst (.int 2))) (.bin .mul (.var 1) (.cst (.int 4096))))))) (.cons (.expr (.call 10 (.cons (.var 0) .nil))) (.cons (.aug 2 .add (.cst (.int 1))) (.cons (.ite (.and (.idx (.var 0) (.cst (.int 3))) (.cmp .lt (.idx (.var 0) (.cst (.int 2))) (.bin .mul (.var 1) (.cst (.int 4096))))) (.cons (.six (.var 0) (.cst (.int 2)) (.bin .add (.idx (.var 0) (.cst (.int 2))) (.bin .mul (.bin .mul (.var 1) (.cst (.int 4096))) (.bin .add (.cst (.int 1)) (.bin .mod (.idx (.var 0) (.cst (.int 2))) (.cst (.int 4093))))))) .nil) .nil) .nil)))) (.cons (.asg (.n 3) (.bin .mod (.idx (.var 0) (.cst (.int 2))) (.var 1))) (.cons (.six (.var 0) (.cst (.int 2)) (.bin .fdiv (.idx (.var 0) (.cst (.int 2))) (.var 1))) (.cons (.ret (.var 3)) .nil)))))⟩
noncomputable def f_qwhole : Fn := ⟨1, 1, true, (.cons (.ret (.and (.isi (.var 0) [.int]) (.not (.isi (.var 0) [.bool])))) .nil)⟩
noncomputable def f_qletter : Fn := ⟨1, 1, true, (.cons (.ret (.and (.isi (.var 0) [.str]) (.and (.cmp .eq (.blt .len (.cons (.var 0) .nil)) (.cst (.int 1))) (.cmp .isin (.var 0) (.cst (.str (Str.ofString "abcdefghijklmnopqrstuvwxyz"))))))) .nil)⟩
noncomputable def f_qsome_letter : Fn := ⟨1, 1, false, (.cons (.ret (.idx (.cst (.str (Str.ofString "abcdefghijklmnopqrstuvwxyz"))) (.call 11 (.cons (.var 0) (.cons (.cst (.int 26)) .nil))))) .nil)⟩
noncomputable def f_qsome_cell : Fn := ⟨1, 1, false, (.cons (.ret (.tup (.cons (.call 14 (.cons (.var 0) .nil)) (.cons (.idx (.tup (.cons (.cst (.int 0)) (.cons (.cst (.int 99)) (.cons (.call 11 (.cons (.var 0) (.cons (.cst (.int 100)) .nil))) (.cons (.call 11 (.cons (.var 0) (.cons (.cst (.int 100)) .nil))) .nil))))) (.call 11 (.cons (.var 0) (.cons (.cst (.int 4)) .nil)))) .nil)))) .nil)⟩
noncomputable def f_qsome_row : Fn := ⟨2, 6, false, (.cons (.asg (.n 2) (.tup (.cons (.cst (.str (Str.ofString "set"))) (.cons (.cst (.str (Str.ofString "move"))) (.cons (.cst (.str (Str.ofString "bare"))) (.cons (.cst (.str (Str.ofString "sum"))) (.cons (.cst (.str (Str.ofString "less"))) (.cons (.cst (.str (Str.ofString "both"))) (.cons (.cst (.str (Str.ofString "any"))) (.cons (.cst (.str (Str.ofString "odd"))) (.cons (.cst (.str (Str.ofString "twice"))) (.cons (.cst (.str (Str.ofString "half"))) (.cons (.cst (.str (Str.ofString "times"))) (.cons (.cst (.str (Str.ofString "mark"))) (.cons (.cst (.str (Str.ofString "ask"))) .nil))))))))))))))) (.cons (.asg (.n 3) (.idx (.var 2) (.call 11 (.cons (.var 0) (.cons (.cst (.int 13)) .nil))))) (.cons (.asg (.n 4) (.call 11 (.cons (.var 0) (.cons (.cst (.int 2)) .nil)))) (.cons (.asg (.n 5) (.thw (.comp [none, some 1, some 0] (.n 0) (.range1 (.cst (.int 4))) (.cst (.bl true)) (.idx (.var 1) (.call 11 (.cons (.var 2) (.cons (.blt .len (.cons (.var 1) .nil)) .nil))))))) (.cons (.ite (.cmp .eq (.var 3) (.cst (.str (Str.ofString "mark")))) (.cons (.ret (.tup (.cons (.var 3) (.cons (.var 4) .nil)))) .nil) .nil) (.cons (.ite (.cmp .eq (.var 3) (.cst (.str (Str.ofString "ask")))) (.cons (.ret (.tup (.cons (.var 3) (.cons (.idx (.var 5) (.cst (.int 0))) .nil)))) .nil) .nil) (.cons (.ite (.cmp .eq (.var 3) (.cst (.str (Str.ofString "set")))) (.cons (.ret (.tup (.cons (.var 3) (.cons (.idx (.var 5) (.cst (.int 0))) (.cons (.var 4) .nil))))) .nil) .nil) (.cons (.ite (.cmp .eq (.var 3) (.cst (.str (Str.ofString "times")))) (.cons (.ite (.cmp .eq (.idx (.var 5) (.cst (.int 0))) (.idx (.var 5) (.cst (.int 1)))) (.cons (.six2 (.var 5) (.cst (.int 0)) (.var 5) (.cst (.int 1)) (.idx (.var 1) (.cst (.int 0))) (.idx (.var 1) (.cst (.int 1)))) .nil) .nil) (.cons (.ret (.tup (.cons (.var 3) (.cons (.idx (.var 5) (.cst (.int 0))) (.cons (.idx (.var 5) (.cst (.int 1))) (.cons (.idx (.var 5) (.cst (.int 2))) (.cons (.idx (.var 5) (.cst (.int 3))) .nil))))))) .nil)) .nil) (.cons (.ite (.cmp .isin (.var 3) (.tup (.cons (.cst (.str (Str.ofString "move"))) (.cons (.cst (.str (Str.ofString "bare"))) (.cons (.cst (.str (Str.ofString "twice"))) (.cons (.cst (.str (Str.ofString "half"))) .nil)))))) (.cons (.ret (.tup (.cons (.var 3) (.cons (.idx (.var 5) (.cst (.int 0))) (.cons (.idx (.var 5) (.cst (.int 1))) .nil))))) .nil) .nil) (.cons (.ret (.tup (.cons (.var 3) (.cons (.idx (.var 5) (.cst (.int 0))) (.cons (.idx (.var 5) (.cst (.int 1))) (.cons (.idx (.var 5) (.cst (.int 2))) .nil)))))) .nil))))))))))⟩
noncomputable def f_qsome_cells : Fn := ⟨2, 5, false, (.cons (.asg (.n 2) (.newl .nil)) (.cons (.for (.n 3) (.range1 (.bin .add (.cst (.int 2)) (.var 1))) (.cons (.asg (.n 4) (.call 15 (.cons (.var 0) .nil))) (.cons (.ite (.nin (.var 4) (.var 2)) (.cons (.expr (.mth .append (.var 2) (.cons (.var 4) .nil))) .nil) .nil) .nil))) (.cons (.ite (.cmp .eq (.blt .len (.cons (.var 2) .nil)) (.cst (.int 1))) (.cons (.expr (.mth .append (.var 2) (.cons (.tup (.cons (.idx (.idx (.var 2) (.cst (.int 0))) (.cst (.int 0))) (.cons (.bin .mod (.bin .add (.idx (.idx (.var 2) (.cst (.int 0))) (.cst (.int 1))) (.cst (.int 1))) (.cst (.int 100))) .nil))) .nil))) .nil) .nil) (.cons (.ret (.frz (.var 2))) .nil))))⟩
noncomputable def f_qis_cell : Fn := ⟨1, 1, true, (.cons (.ite (.or (.not (.isi (.var 0) [.tuple])) (.or (.cmp .ne (.blt .len (.cons (.var 0) .nil)) (.cst (.int 2))) (.not (.call 13 (.cons (.idx (.var 0) (.cst (.int 0))) .nil))))) (.cons (.ret (.cst (.bl false))) .nil) .nil) (.cons (.ret (.and (.call 12 (.cons (.idx (.var 0) (.cst (.int 1))) .nil)) (.chain .le .le (.cst (.int 0)) (.idx (.var 0) (.cst (.int 1))) (.cst (.int 99))))) .nil))⟩
noncomputable def f_qis_row : Fn := ⟨1, 2, true, (.cons (.ite (.or (.not (.isi (.var 0) [.tuple])) (.or (.cmp .lt (.blt .len (.cons (.var 0) .nil)) (.cst (.int 2))) (.not (.isi (.idx (.var 0) (.cst (.int 0))) [.str])))) (.cons (.ret (.cst (.bl false))) .nil) .nil) (.cons (.ite (.cmp .eq (.idx (.var 0) (.cst (.int 0))) (.cst (.str (Str.ofString "mark")))) (.cons (.ret (.and (.cmp .eq (.blt .len (.cons (.var 0) .nil)) (.cst (.int 2))) (.and (.call 12 (.cons (.idx (.var 0) (.cst (.int 1))) .nil)) (.cmp .isin (.idx (.var 0) (.cst (.int 1))) (.tup (.cons (.cst (.int 0)) (.cons (.cst (.int 1)) .nil))))))) .nil) .nil) (.cons (.ite (.cmp .eq (.idx (.var 0) (.cst (.int 0))) (.cst (.str (Str.ofString "ask")))) (.cons (.ret (.and (.cmp .eq (.blt .len (.cons (.var 0) .nil)) (.cst (.int 2))) (.call 18 (.cons (.idx (.var 0) (.cst (.int 1))) .nil)))) .nil) .nil) (.cons (.ite (.cmp .eq (.idx (.var 0) (.cst (.int 0))) (.cst (.str (Str.ofString "set")))) (.cons (.ret (.and (.cmp .eq (.blt .len (.cons (.var 0) .nil)) (.cst (.int 3))) (.and (.call 18 (.cons (.idx (.var 0) (.cst (.int 1))) .nil)) (.and (.call 12 (.cons (.idx (.var 0) (.cst (.int 2))) .nil)) (.cmp .isin (.idx (.var 0) (.cst (.int 2))) (.tup (.cons (.cst (.int 0)) (.cons (.cst (.int 1)) .nil)))))))) .nil) .nil) (.cons (.asg (.n 1) (.newd [((Str.ofString "move"), 3), ((Str.ofString "bare"), 3), ((Str.ofString "twice"), 3), ((Str.ofString "half"), 3), ((Str.ofString "sum"), 4), ((Str.ofString "less"), 4), ((Str.ofString "both"), 4), ((Str.ofString "any"), 4), ((Str.ofString "odd"), 4)])) (.cons (.dput (.var 1) (.cst (.str (Str.ofString "times"))) (.cst (.int 5))) (.cons (.ite (.or (.cmp .ne (.mth .get (.var 1) (.cons (.idx (.var 0) (.cst (.int 0))) (.cons (.cst (.int 0)) .nil))) (.blt .len (.cons (.var 0) .nil))) (.not (.blt .all (.cons (.comp [none] (.n 0) (.seq (.slc (.var 0) (.cst (.int 1)) (.cst .non))) (.cst (.bl true)) (.call 18 (.cons (.var 0) .nil))) .nil)))) (.cons (.ret (.cst (.bl false))) .nil) .nil) (.cons (.ret (.or (.cmp .ne (.idx (.var 0) (.cst (.int 0))) (.cst (.str (Str.ofString "times")))) (.cmp .ne (.idx (.var 0) (.cst (.int 1))) (.idx (.var 0) (.cst (.int 2)))))) .nil))))))))⟩
noncomputable def f_qstrange : Fn := ⟨1, 4, false, (.cons (.asg (.n 1) (.call 14 (.cons (.var 0) .nil))) (.cons (.asg (.n 2) (.bin .add (.cst (.int 100)) (.bin .mul (.call 11 (.cons (.var 0) (.cons (.cst (.int 3)) .nil))) (.call 11 (.cons (.var 0) (.cons (.bin .pow (.cst (.int 10)) (.cst (.int 9))) .nil)))))) (.cons (.asg (.n 3) (.newl (.cons (.cst .non) (.cons (.cst (.bl true)) (.cons (.cst (.bl false)) (.cons (.neg (.cst (.int 1))) (.cons (.var 2) (.cons (.cst (.str (Str.ofString ""))) (.cons (.var 1) (.cons (.bin .add (.var 1) (.var 1)) (.cons (.cst (.str (Str.ofString "A"))) (.cons (.cst (.str (Str.ofString "?"))) (.cons (.tup .nil) (.cons (.tup (.cons (.var 1) .nil)) .nil)))))))))))))) (.cons (.expr (.mth .extend (.var 3) (.cons (.lst (.cons (.tup (.cons (.var 1) (.cons (.cst (.int 0)) (.cons (.cst (.int 0)) .nil)))) (.cons (.tup (.cons (.var 1) (.cons (.neg (.cst (.int 1))) .nil))) (.cons (.tup (.cons (.var 1) (.cons (.var 2) .nil))) (.cons (.tup (.cons (.cst (.str (Str.ofString "A"))) (.cons (.cst (.int 0)) .nil))) (.cons (.tup (.cons (.bin .add (.var 1) (.cst (.str (Str.ofString "b")))) (.cons (.cst (.int 0)) .nil))) .nil)))))) .nil))) (.cons (.expr (.mth .extend (.var 3) (.cons (.lst (.cons (.tup (.cons (.cst (.str (Str.ofString ""))) (.cons (.cst (.int 0)) .nil))) (.cons (.tup (.cons (.var 1) (.cons (.cst (.bl true)) .nil))) (.cons (.tup (.cons (.var 1) (.cons (.cst (.str (Str.ofString "0"))) .nil))) (.cons (.lst (.cons (.var 1) (.cons (.cst (.int 0)) .nil))) (.cons (.tup (.cons (.var 1) (.cons (.tup (.cons (.cst (.int 0)) (.cons (.cst (.int 0)) (.cons (.cst (.int 0)) (.cons (.cst (.int 0)) .nil))))) .nil))) .nil)))))) .nil))) (.cons (.expr (.mth .extend (.var 3) (.cons (.lst (.cons (.cst (.int 0)) (.cons (.cst (.int 1)) (.cons (.cst (.int 2)) (.cons (.tup (.cons (.var 1) (.cons (.cst (.int 0)) .nil))) (.cons (.cst (.str (Str.ofString "sum"))) (.cons (.cst (.str (Str.ofString "marks"))) (.cons (.tup (.cons (.cst (.str (Str.ofString "mark"))) (.cons (.cst (.int 0)) .nil))) (.cons (.tup (.cons (.tup (.cons (.var 1) (.cons (.cst (.int 0)) .nil))) (.cons (.cst (.int 1)) .nil))) .nil))))))))) .nil))) (.cons (.ret (.idx (.var 3) (.call 11 (.cons (.var 0) (.cons (.blt .len (.cons (.var 3) .nil)) .nil))))) .nil)))))))⟩
noncomputable def f_qspoilt_tuple : Fn := ⟨2, 8, false, (.cons (.asg (.n 2) (.call 11 (.cons (.var 0) (.cons (.cst (.int 6)) .nil)))) (.cons (.asg (.n 3) (.call 11 (.cons (.var 0) (.cons (.bin .add (.blt .len (.cons (.var 1) .nil)) (.cst (.int 1))) .nil)))) (.cons (.asg (.n 4) (.call 20 (.cons (.var 0) .nil))) (.cons (.asg (.n 5) (.blt .min (.cons (.var 3) (.cons (.bin .sub (.blt .len (.cons (.var 1) .nil)) (.cst (.int 1))) .nil)))) (.cons (.ite (.or (.cmp .eq (.blt .len (.cons (.var 1) .nil)) (.cst (.int 0))) (.cmp .eq (.var 2) (.cst (.int 0)))) (.cons (.ret (.bin .add (.bin .add (.slc (.var 1) (.cst .non) (.var 3)) (.tup (.cons (.var 4) .nil))) (.slc (.var 1) (.var 3) (.cst .non)))) .nil) .nil) (.cons (.ite (.cmp .eq (.var 2) (.cst (.int 1))) (.cons (.ret (.bin .add (.slc (.var 1) (.cst .non) (.var 5)) (.slc (.var 1) (.bin .add (.var 5) (.cst (.int 1))) (.cst .non)))) .nil) .nil) (.cons (.ite (.cmp .eq (.var 2) (.cst (.int 2))) (.cons (.ret (.bin .add (.bin .add (.slc (.var 1) (.cst .non) (.var 5)) (.tup (.cons (.idx (.var 1) (.var 5)) .nil))) (.slc (.var 1) (.var 5) (.cst .non)))) .nil) .nil) (.cons (.ite (.cmp .eq (.var 2) (.cst (.int 3))) (.cons (.asg (.n 6) (.call 11 (.cons (.var 0) (.cons (.blt .len (.cons (.var 1) .nil)) .nil)))) (.cons (.asg (.n 7) (.thw (.blt .list (.cons (.var 1) .nil)))) (.cons (.six2 (.var 7) (.var 5) (.var 7) (.var 6) (.idx (.var 7) (.var 6)) (.idx (.var 7) (.var 5))) (.cons (.ret (.blt .tuple (.cons (.var 7) .nil))) .nil)))) .nil) (.cons (.ret (.bin .add (.bin .add (.slc (.var 1) (.cst .non) (.var 5)) (.tup (.cons (.var 4) .nil))) (.slc (.var 1) (.bin .add (.var 5) (.cst (.int 1))) (.cst .non)))) .nil)))))))))⟩
noncomputable def f_qspoilt_row : Fn := ⟨2, 6, false, (.cons (.asg (.n 2) (.call 11 (.cons (.var 0) (.cons (.cst (.int 4)) .nil)))) (.cons (.asg (.n 3) (.call 11 (.cons (.var 0) (.cons (.blt .len (.cons (.var 1) .nil)) .nil)))) (.cons (.ite (.cmp .eq (.var 2) (.cst (.int 0))) (.cons (.asg (.n 4) (.idx (.var 1) (.cst (.int 0)))) (.cons (.asg (.n 5) (.call 11 (.cons (.var 0) (.cons (.blt .len (.cons (.var 4) .nil)) .nil)))) (.cons (.ret (.bin .add (.tup (.cons (.bin .add (.bin .add (.slc (.var 4) (.cst .non) (.var 5)) (.call 14 (.cons (.var 0) .nil))) (.slc (.var 4) (.bin .add (.var 5) (.idx (.tup (.cons (.cst (.int 1)) (.cons (.cst (.int 0)) .nil))) (.call 11 (.cons (.var 0) (.cons (.cst (.int 2)) .nil))))) (.cst .non))) .nil)) (.slc (.var 1) (.cst (.int 1)) (.cst .non)))) .nil))) .nil) (.cons (.ite (.and (.cmp .eq (.var 2) (.cst (.int 1))) (.isi (.idx (.var 1) (.var 3)) [.tuple])) (.cons (.ret (.bin .add (.bin .add (.slc (.var 1) (.cst .non) (.var 3)) (.tup (.cons (.call 21 (.cons (.var 0) (.cons (.idx (.var 1) (.var 3)) .nil))) .nil))) (.slc (.var 1) (.bin .add (.var 3) (.cst (.int 1))) (.cst .non)))) .nil) .nil) (.cons (.ite (.and (.cmp .eq (.var 2) (.cst (.int 2))) (.cmp .eq (.idx (.var 1) (.cst (.int 0))) (.cst (.str (Str.ofString "times"))))) (.cons (.ret (.bin .add (.bin .add (.slc (.var 1) (.cst .non) (.cst (.int 1))) (.tup (.cons (.idx (.var 1) (.cst (.int 2))) .nil))) (.slc (.var 1) (.cst (.int 2)) (.cst .non)))) .nil) .nil) (.cons (.ret (.call 21 (.cons (.var 0) (.cons (.var 1) .nil)))) .nil))))))⟩
noncomputable def f_law : Fn := ⟨1, 8, true, (.cons (.asg (.n 1) (.call 8 (.cons (.var 0) .nil))) (.cons (.asg (.n 2) (.call 17 (.cons (.var 1) (.cons (.call 11 (.cons (.var 1) (.cons (.cst (.int 5)) .nil))) .nil)))) (.cons (.asg (.n 3) (.call 16 (.cons (.var 1) (.cons (.var 2) .nil)))) (.cons (.ite (.cmp .isnot (.call 2 (.cons (.var 3) .nil)) (.cst (.bl true))) (.cons .nope .nil) .nil) (.cons (.for (.n 4) (.range1 (.cst (.int 4))) (.cons (.asg (.n 5) (.call 22 (.cons (.var 1) (.cons (.var 3) .nil)))) (.cons (.ite (.cmp .eq (.call 11 (.cons (.var 1) (.cons (.cst (.int 6)) .nil))) (.cst (.int 0))) (.cons (.asg (.n 5) (.call 20 (.cons (.var 1) .nil))) .nil) .nil) (.cons (.for (.n 6) (.range1 (.cst (.int 2))) (.cons (.asg (.n 7) (.call 2 (.cons (.var 5) .nil))) (.cons (.ite (.or (.not (.isi (.var 7) [.bool])) (.cmp .ne (.var 7) (.call 19 (.cons (.var 5) .nil)))) (.cons .nope .nil) .nil) .nil))) .nil)))) (.cons (.ret (.and (.cmp .is (.call 2 (.cons (.blt .list (.cons (.var 3) .nil)) .nil)) (.cst (.bl false))) (.cmp .is (.call 2 (.cons (.var 3) .nil)) (.cst (.bl true))))) .nil))))))⟩
noncomputable def T : Nat -> Option Fn
  | 0 => some f_is_whole
  | 1 => some f_is_letter
  | 2 => some f_is_row
  | 3 => some f_has_form
  | 4 => some f_is_named
  | 5 => some f_is_operand
  | 6 => some f_is_cell
  | 7 => some f_is_lettered
  | 8 => some f_qfresh
  | 9 => some f_qmixed
  | 10 => some f_qfill
  | 11 => some f_qtake
  | 12 => some f_qwhole
  | 13 => some f_qletter
  | 14 => some f_qsome_letter
  | 15 => some f_qsome_cell
  | 16 => some f_qsome_row
  | 17 => some f_qsome_cells
  | 18 => some f_qis_cell
  | 19 => some f_qis_row
  | 20 => some f_qstrange
  | 21 => some f_qspoilt_tuple
  | 22 => some f_qspoilt_row
  | 23 => some f_law
  | _ => none
noncomputable abbrev i_is_whole : Nat := 0
noncomputable abbrev i_is_letter : Nat := 1
noncomputable abbrev i_is_row : Nat := 2
noncomputable abbrev i_has_form : Nat := 3
noncomputable abbrev i_is_named : Nat := 4
noncomputable abbrev i_is_operand : Nat := 5
noncomputable abbrev i_is_cell : Nat := 6
noncomputable abbrev i_is_lettered : Nat := 7
noncomputable abbrev i_qfresh : Nat := 8
noncomputable abbrev i_qmixed : Nat := 9
noncomputable abbrev i_qfill : Nat := 10
noncomputable abbrev i_qtake : Nat := 11
noncomputable abbrev i_qwhole : Nat := 12
noncomputable abbrev i_qletter : Nat := 13
noncomputable abbrev i_qsome_letter : Nat := 14
noncomputable abbrev i_qsome_cell : Nat := 15
noncomputable abbrev i_qsome_row : Nat := 16
noncomputable abbrev i_qsome_cells : Nat := 17
noncomputable abbrev i_qis_cell : Nat := 18
noncomputable abbrev i_qis_row : Nat := 19
noncomputable abbrev i_qstrange : Nat := 20
noncomputable abbrev i_qspoilt_tuple : Nat := 21
noncomputable abbrev i_qspoilt_row : Nat := 22
noncomputable abbrev i_law : Nat := 23
end IC
namespace WK
open PySem L2 IC
noncomputable def top (i : Nat) : Stmt := PySem.Challenge.pw_widewords_k09_rows_looked_at.main.body.getD i (.Pass ⟨0, 0, 0, 0⟩)
noncomputable abbrev s_is_whole : Stmt := top 2
theorem sc_is_whole : FnScope ["thing", "low", "high"] ["thing", "low", "high"] (defScope s_is_whole) := ⟨rfl, rfl, rfl, by decide +kernel, rfl, by decide +kernel, by decide +kernel⟩
noncomputable abbrev s_is_letter : Stmt := top 3
theorem sc_is_letter : FnScope ["thing"] ["thing"] (defScope s_is_letter) := ⟨rfl, rfl, rfl, by decide +kernel, rfl, by decide +kernel, by decide +kernel⟩
noncomputable abbrev s_is_row : Stmt := top 7
theorem sc_is_row : FnScope ["thing"] ["thing"] (defScope s_is_row) := ⟨rfl, rfl, rfl, by decide +kernel, rfl, by decide +kernel, by decide +kernel⟩
noncomputable abbrev s_has_form : Stmt := top 8
theorem sc_has_form : FnScope ["thing", "told", "kind", "operand"] ["thing", "told"] (defScope s_has_form) := ⟨rfl, rfl, rfl, by decide +kernel, rfl, by decide +kernel, by decide +kernel⟩
noncomputable abbrev s_is_named : Stmt := top 9
theorem sc_is_named : FnScope ["thing"] ["thing"] (defScope s_is_named) := ⟨rfl, rfl, rfl, by decide +kernel, rfl, by decide +kernel, by decide +kernel⟩
noncomputable abbrev s_is_operand : Stmt := top 10
theorem sc_is_operand : FnScope ["kind", "thing", "told"] ["kind", "thing", "told"] (defScope s_is_operand) := ⟨rfl, rfl, rfl, by decide +kernel, rfl, by decide +kernel, by decide +kernel⟩
noncomputable abbrev s_is_cell : Stmt := top 11
theorem sc_is_cell : FnScope ["thing"] ["thing"] (defScope s_is_cell) := ⟨rfl, rfl, rfl, by decide +kernel, rfl, by decide +kernel, by decide +kernel⟩
noncomputable abbrev s_is_lettered : Stmt := top 13
theorem sc_is_lettered : FnScope ["thing"] ["thing"] (defScope s_is_lettered) := ⟨rfl, rfl, rfl, by decide +kernel, rfl, by decide +kernel, by decide +kernel⟩
noncomputable abbrev s_qfresh : Stmt := top 15
theorem sc_qfresh : FnScope ["_law_script"] ["_law_script"] (defScope s_qfresh) := ⟨rfl, rfl, rfl, by decide +kernel, rfl, by decide +kernel, by decide +kernel⟩
noncomputable abbrev s_qmixed : Stmt := top 16
theorem sc_qmixed : FnScope ["_law_seed", "_law_primes", "_law_number", "_law_k", "_law_prime", "_law_far", "_law_square", "_law_power"] ["_law_seed"] (defScope s_qmixed) := ⟨rfl, rfl, rfl, by decide +kernel, rfl, by decide +kernel, by decide +kernel⟩
noncomputable abbrev s_qfill : Stmt := top 17
theorem sc_qfill : FnScope ["_law_state", "_law_cells", "_law_at", "_law_seed"] ["_law_state"] (defScope s_qfill) := ⟨rfl, rfl, rfl, by decide +kernel, rfl, by decide +kernel, by decide +kernel⟩
noncomputable abbrev s_qtake : Stmt := top 18
theorem sc_qtake : FnScope ["_law_state", "_law_many", "_law_turns", "_law_digit"] ["_law_state", "_law_many"] (defScope s_qtake) := ⟨rfl, rfl, rfl, by decide +kernel, rfl, by decide +kernel, by decide +kernel⟩
noncomputable abbrev s_qwhole : Stmt := top 19
theorem sc_qwhole : FnScope ["_law_thing"] ["_law_thing"] (defScope s_qwhole) := ⟨rfl, rfl, rfl, by decide +kernel, rfl, by decide +kernel, by decide +kernel⟩
noncomputable abbrev s_qletter : Stmt := top 20
theorem sc_qletter : FnScope ["_law_thing"] ["_law_thing"] (defScope s_qletter) := ⟨rfl, rfl, rfl, by decide +kernel, rfl, by decide +kernel, by decide +kernel⟩
noncomputable abbrev s_qsome_letter : Stmt := top 21
theorem sc_qsome_letter : FnScope ["_law_state"] ["_law_state"] (defScope s_qsome_letter) := ⟨rfl, rfl, rfl, by decide +kernel, rfl, by decide +kernel, by decide +kernel⟩
noncomputable abbrev s_qsome_cell : Stmt := top 22
theorem sc_qsome_cell : FnScope ["_law_state"] ["_law_state"] (defScope s_qsome_cell) := ⟨rfl, rfl, rfl, by decide +kernel, rfl, by decide +kernel, by decide +kernel⟩
noncomputable abbrev s_qsome_row : Stmt := top 23
theorem sc_qsome_row : FnScope ["_law_state", "_law_cells", "_law_kinds", "_law_kind", "_law_digit", "_law_some"] ["_law_state", "_law_cells"] (defScope s_qsome_row) := ⟨rfl, rfl, rfl, by decide +kernel, rfl, by decide +kernel, by decide +kernel⟩
noncomputable abbrev s_qsome_cells : Stmt := top 24
theorem sc_qsome_cells : FnScope ["_law_state", "_law_many", "_law_cells", "_law_k", "_law_spot"] ["_law_state", "_law_many"] (defScope s_qsome_cells) := ⟨rfl, rfl, rfl, by decide +kernel, rfl, by decide +kernel, by decide +kernel⟩
noncomputable abbrev s_qis_cell : Stmt := top 25
theorem sc_qis_cell : FnScope ["_law_thing"] ["_law_thing"] (defScope s_qis_cell) := ⟨rfl, rfl, rfl, by decide +kernel, rfl, by decide +kernel, by decide +kernel⟩
noncomputable abbrev s_qis_row : Stmt := top 26
theorem sc_qis_row : FnScope ["_law_row", "_law_lengths"] ["_law_row"] (defScope s_qis_row) := ⟨rfl, rfl, rfl, by decide +kernel, rfl, by decide +kernel, by decide +kernel⟩
noncomputable abbrev s_qstrange : Stmt := top 27
theorem sc_qstrange : FnScope ["_law_state", "_law_letter_here", "_law_great", "_law_some"] ["_law_state"] (defScope s_qstrange) := ⟨rfl, rfl, rfl, by decide +kernel, rfl, by decide +kernel, by decide +kernel⟩
noncomputable abbrev s_qspoilt_tuple : Stmt := top 28
theorem sc_qspoilt_tuple : FnScope ["_law_state", "_law_told", "_law_way", "_law_at", "_law_strange_here", "_law_here", "_law_other", "_law_row"] ["_law_state", "_law_told"] (defScope s_qspoilt_tuple) := ⟨rfl, rfl, rfl, by decide +kernel, rfl, by decide +kernel, by decide +kernel⟩
noncomputable abbrev s_qspoilt_row : Stmt := top 29
theorem sc_qspoilt_row : FnScope ["_law_state", "_law_row", "_law_way", "_law_at", "_law_word", "_law_place"] ["_law_state", "_law_row"] (defScope s_qspoilt_row) := ⟨rfl, rfl, rfl, by decide +kernel, rfl, by decide +kernel, by decide +kernel⟩
noncomputable abbrev s_law : Stmt := top 30
theorem sc_law : FnScope ["_law_script", "_law_state", "_law_cells", "_law_row", "_law_k", "_law_spoilt", "_law_turn", "_law_told"] ["_law_script"] (defScope s_law) := ⟨rfl, rfl, rfl, by decide +kernel, rfl, by decide +kernel, by decide +kernel⟩
theorem va_is_whole : VisAll ["thing", "low", "high"] (defScope s_is_whole) := by unfold VisAll; decide +kernel
abbrev GI (s : Stmt) (x : String) : Prop := (defScope s).names.lookup (Str.ofString x) = some .globalImplicit
theorem gl_is_whole_bool : GI s_is_whole "bool" := by decide +kernel
theorem gl_is_whole_int : GI s_is_whole "int" := by decide +kernel
theorem gl_is_whole_isinstance : GI s_is_whole "isinstance" := by decide +kernel
theorem va_is_letter : VisAll ["thing"] (defScope s_is_letter) := by unfold VisAll; decide +kernel
theorem gl_is_letter_isinstance : GI s_is_letter "isinstance" := by decide +kernel
theorem gl_is_letter_len : GI s_is_letter "len" := by decide +kernel
theorem gl_is_letter_str : GI s_is_letter "str" := by decide +kernel
theorem va_is_row : VisAll ["thing"] (defScope s_is_row) := by unfold VisAll; decide +kernel
theorem gl_is_row_has_form : GI s_is_row "has_form" := by decide +kernel
theorem va_has_form : VisAll ["thing", "told", "kind", "operand"] (defScope s_has_form) := by unfold VisAll; decide +kernel
theorem gl_has_form_ROWS : GI s_has_form "ROWS" := by decide +kernel
theorem gl_has_form_is_named : GI s_has_form "is_named" := by decide +kernel
theorem gl_has_form_is_operand : GI s_has_form "is_operand" := by decide +kernel
theorem gl_has_form_len : GI s_has_form "len" := by decide +kernel
theorem gl_has_form_zip : GI s_has_form "zip" := by decide +kernel
theorem va_is_named : VisAll ["thing"] (defScope s_is_named) := by unfold VisAll; decide +kernel
theorem gl_is_named_ROWS : GI s_is_named "ROWS" := by decide +kernel
theorem gl_is_named_isinstance : GI s_is_named "isinstance" := by decide +kernel
theorem gl_is_named_len : GI s_is_named "len" := by decide +kernel
theorem gl_is_named_str : GI s_is_named "str" := by decide +kernel
theorem gl_is_named_tuple : GI s_is_named "tuple" := by decide +kernel
theorem va_is_operand : VisAll ["kind", "thing", "told"] (defScope s_is_operand) := by unfold VisAll; decide +kernel
theorem gl_is_operand_is_cell : GI s_is_operand "is_cell" := by decide +kernel
theorem gl_is_operand_is_whole : GI s_is_operand "is_whole" := by decide +kernel
theorem va_is_cell : VisAll ["thing"] (defScope s_is_cell) := by unfold VisAll; decide +kernel
theorem gl_is_cell_is_lettered : GI s_is_cell "is_lettered" := by decide +kernel
theorem gl_is_cell_is_whole : GI s_is_cell "is_whole" := by decide +kernel
theorem va_is_lettered : VisAll ["thing"] (defScope s_is_lettered) := by unfold VisAll; decide +kernel
theorem gl_is_lettered_is_letter : GI s_is_lettered "is_letter" := by decide +kernel
theorem gl_is_lettered_isinstance : GI s_is_lettered "isinstance" := by decide +kernel
theorem gl_is_lettered_len : GI s_is_lettered "len" := by decide +kernel
theorem gl_is_lettered_tuple : GI s_is_lettered "tuple" := by decide +kernel
theorem va_qfresh : VisAll ["_law_script"] (defScope s_qfresh) := by unfold VisAll; decide +kernel
theorem va_qmixed : VisAll ["_law_seed", "_law_primes", "_law_number", "_law_k", "_law_prime", "_law_far", "_law_square", "_law_power"] (defScope s_qmixed) := by unfold VisAll; decide +kernel
theorem gl_qmixed_enumerate : GI s_qmixed "enumerate" := by decide +kernel
theorem va_qfill : VisAll ["_law_state", "_law_cells", "_law_at", "_law_seed"] (defScope s_qfill) := by unfold VisAll; decide +kernel
theorem gl_qfill_qmixed : GI s_qfill "_law_mixed" := by decide +kernel
theorem gl_qfill_len : GI s_qfill "len" := by decide +kernel
theorem va_qtake : VisAll ["_law_state", "_law_many", "_law_turns", "_law_digit"] (defScope s_qtake) := by unfold VisAll; decide +kernel
theorem gl_qtake_qfill : GI s_qtake "_law_fill" := by decide +kernel
theorem va_qwhole : VisAll ["_law_thing"] (defScope s_qwhole) := by unfold VisAll; decide +kernel
theorem gl_qwhole_bool : GI s_qwhole "bool" := by decide +kernel
theorem gl_qwhole_int : GI s_qwhole "int" := by decide +kernel
theorem gl_qwhole_isinstance : GI s_qwhole "isinstance" := by decide +kernel
theorem va_qletter : VisAll ["_law_thing"] (defScope s_qletter) := by unfold VisAll; decide +kernel
theorem gl_qletter_isinstance : GI s_qletter "isinstance" := by decide +kernel
theorem gl_qletter_len : GI s_qletter "len" := by decide +kernel
theorem gl_qletter_str : GI s_qletter "str" := by decide +kernel
theorem va_qsome_letter : VisAll ["_law_state"] (defScope s_qsome_letter) := by unfold VisAll; decide +kernel
theorem gl_qsome_letter_qtake : GI s_qsome_letter "_law_take" := by decide +kernel
theorem va_qsome_cell : VisAll ["_law_state"] (defScope s_qsome_cell) := by unfold VisAll; decide +kernel
theorem gl_qsome_cell_qsome_letter : GI s_qsome_cell "_law_some_letter" := by decide +kernel
theorem gl_qsome_cell_qtake : GI s_qsome_cell "_law_take" := by decide +kernel
theorem va_qsome_row : VisAll ["_law_state", "_law_cells", "_law_kinds", "_law_kind", "_law_digit", "_law_some"] (defScope s_qsome_row) := by unfold VisAll; decide +kernel
theorem gl_qsome_row_qtake : GI s_qsome_row "_law_take" := by decide +kernel
theorem gl_qsome_row_range : GI s_qsome_row "range" := by decide +kernel
theorem va_qsome_cells : VisAll ["_law_state", "_law_many", "_law_cells", "_law_k", "_law_spot"] (defScope s_qsome_cells) := by unfold VisAll; decide +kernel
theorem gl_qsome_cells_qsome_cell : GI s_qsome_cells "_law_some_cell" := by decide +kernel
theorem gl_qsome_cells_len : GI s_qsome_cells "len" := by decide +kernel
theorem gl_qsome_cells_range : GI s_qsome_cells "range" := by decide +kernel
theorem va_qis_cell : VisAll ["_law_thing"] (defScope s_qis_cell) := by unfold VisAll; decide +kernel
theorem gl_qis_cell_qletter : GI s_qis_cell "_law_letter" := by decide +kernel
theorem gl_qis_cell_qwhole : GI s_qis_cell "_law_whole" := by decide +kernel
theorem gl_qis_cell_isinstance : GI s_qis_cell "isinstance" := by decide +kernel
theorem gl_qis_cell_len : GI s_qis_cell "len" := by decide +kernel
theorem gl_qis_cell_tuple : GI s_qis_cell "tuple" := by decide +kernel
theorem va_qis_row : VisAll ["_law_row", "_law_lengths"] (defScope s_qis_row) := by unfold VisAll; decide +kernel
theorem gl_qis_row_qis_cell : GI s_qis_row "_law_is_cell" := by decide +kernel
theorem gl_qis_row_qwhole : GI s_qis_row "_law_whole" := by decide +kernel
theorem gl_qis_row_all : GI s_qis_row "all" := by decide +kernel
theorem gl_qis_row_isinstance : GI s_qis_row "isinstance" := by decide +kernel
theorem gl_qis_row_len : GI s_qis_row "len" := by decide +kernel
theorem gl_qis_row_str : GI s_qis_row "str" := by decide +kernel
theorem gl_qis_row_tuple : GI s_qis_row "tuple" := by decide +kernel
theorem va_qstrange : VisAll ["_law_state", "_law_letter_here", "_law_great", "_law_some"] (defScope s_qstrange) := by unfold VisAll; decide +kernel
theorem gl_qstrange_qsome_letter : GI s_qstrange "_law_some_letter" := by decide +kernel
theorem gl_qstrange_qtake : GI s_qstrange "_law_take" := by decide +kernel
theorem gl_qstrange_len : GI s_qstrange "len" := by decide +kernel
theorem va_qspoilt_tuple : VisAll ["_law_state", "_law_told", "_law_way", "_law_at", "_law_strange_here", "_law_here", "_law_other", "_law_row"] (defScope s_qspoilt_tuple) := by unfold VisAll; decide +kernel
theorem gl_qspoilt_tuple_qstrange : GI s_qspoilt_tuple "_law_strange" := by decide +kernel
theorem gl_qspoilt_tuple_qtake : GI s_qspoilt_tuple "_law_take" := by decide +kernel
theorem gl_qspoilt_tuple_len : GI s_qspoilt_tuple "len" := by decide +kernel
theorem gl_qspoilt_tuple_list : GI s_qspoilt_tuple "list" := by decide +kernel
theorem gl_qspoilt_tuple_min : GI s_qspoilt_tuple "min" := by decide +kernel
theorem gl_qspoilt_tuple_tuple : GI s_qspoilt_tuple "tuple" := by decide +kernel
theorem va_qspoilt_row : VisAll ["_law_state", "_law_row", "_law_way", "_law_at", "_law_word", "_law_place"] (defScope s_qspoilt_row) := by unfold VisAll; decide +kernel
theorem gl_qspoilt_row_qsome_letter : GI s_qspoilt_row "_law_some_letter" := by decide +kernel
theorem gl_qspoilt_row_qspoilt_tuple : GI s_qspoilt_row "_law_spoilt_tuple" := by decide +kernel
theorem gl_qspoilt_row_qtake : GI s_qspoilt_row "_law_take" := by decide +kernel
theorem gl_qspoilt_row_isinstance : GI s_qspoilt_row "isinstance" := by decide +kernel
theorem gl_qspoilt_row_len : GI s_qspoilt_row "len" := by decide +kernel
theorem gl_qspoilt_row_tuple : GI s_qspoilt_row "tuple" := by decide +kernel
theorem va_law : VisAll ["_law_script", "_law_state", "_law_cells", "_law_row", "_law_k", "_law_spoilt", "_law_turn", "_law_told"] (defScope s_law) := by unfold VisAll; decide +kernel
theorem gl_law_qfresh : GI s_law "_law_fresh" := by decide +kernel
theorem gl_law_qis_row : GI s_law "_law_is_row" := by decide +kernel
theorem gl_law_qsome_cells : GI s_law "_law_some_cells" := by decide +kernel
theorem gl_law_qsome_row : GI s_law "_law_some_row" := by decide +kernel
theorem gl_law_qspoilt_row : GI s_law "_law_spoilt_row" := by decide +kernel
theorem gl_law_qstrange : GI s_law "_law_strange" := by decide +kernel
theorem gl_law_qtake : GI s_law "_law_take" := by decide +kernel
theorem gl_law_bool : GI s_law "bool" := by decide +kernel
theorem gl_law_is_row : GI s_law "is_row" := by decide +kernel
theorem gl_law_isinstance : GI s_law "isinstance" := by decide +kernel
theorem gl_law_list : GI s_law "list" := by decide +kernel
theorem gl_law_range : GI s_law "range" := by decide +kernel
noncomputable def pss : Nat -> Option (List Str)
  | 0 => some ["thing", "low", "high"]
  | 1 => some ["thing"]
  | 2 => some ["thing"]
  | 3 => some ["thing", "told"]
  | 4 => some ["thing"]
  | 5 => some ["kind", "thing", "told"]
  | 6 => some ["thing"]
  | 7 => some ["thing"]
  | 8 => some ["_law_script"]
  | 9 => some ["_law_seed"]
  | 10 => some ["_law_state"]
  | 11 => some ["_law_state", "_law_many"]
  | 12 => some ["_law_thing"]
  | 13 => some ["_law_thing"]
  | 14 => some ["_law_state"]
  | 15 => some ["_law_state"]
  | 16 => some ["_law_state", "_law_cells"]
  | 17 => some ["_law_state", "_law_many"]
  | 18 => some ["_law_thing"]
  | 19 => some ["_law_row"]
  | 20 => some ["_law_state"]
  | 21 => some ["_law_state", "_law_told"]
  | 22 => some ["_law_state", "_law_row"]
  | 23 => some ["_law_script"]
  | _ => none
structure Facts (w : World) (K : PySem.W.Frag) (mg : Str -> Option Value) (cl : Nat -> Addr) (fa : Nat -> Addr) (fdd : Nat -> FuncData) : Prop where
  F0 : Fn K mg "is_whole" s_is_whole ["thing", "low", "high"] (fa 0) (fdd 0)
  F1 : Fn K mg "is_letter" s_is_letter ["thing"] (fa 1) (fdd 1)
  F2 : Fn K mg "is_row" s_is_row ["thing"] (fa 2) (fdd 2)
  F3 : Fn K mg "has_form" s_has_form ["thing", "told"] (fa 3) (fdd 3)
  F4 : Fn K mg "is_named" s_is_named ["thing"] (fa 4) (fdd 4)
  F5 : Fn K mg "is_operand" s_is_operand ["kind", "thing", "told"] (fa 5) (fdd 5)
  F6 : Fn K mg "is_cell" s_is_cell ["thing"] (fa 6) (fdd 6)
  F7 : Fn K mg "is_lettered" s_is_lettered ["thing"] (fa 7) (fdd 7)
  F8 : Fn K mg "_law_fresh" s_qfresh ["_law_script"] (fa 8) (fdd 8)
  F9 : Fn K mg "_law_mixed" s_qmixed ["_law_seed"] (fa 9) (fdd 9)
  F10 : Fn K mg "_law_fill" s_qfill ["_law_state"] (fa 10) (fdd 10)
  F11 : Fn K mg "_law_take" s_qtake ["_law_state", "_law_many"] (fa 11) (fdd 11)
  F12 : Fn K mg "_law_whole" s_qwhole ["_law_thing"] (fa 12) (fdd 12)
  F13 : Fn K mg "_law_letter" s_qletter ["_law_thing"] (fa 13) (fdd 13)
  F14 : Fn K mg "_law_some_letter" s_qsome_letter ["_law_state"] (fa 14) (fdd 14)
  F15 : Fn K mg "_law_some_cell" s_qsome_cell ["_law_state"] (fa 15) (fdd 15)
  F16 : Fn K mg "_law_some_row" s_qsome_row ["_law_state", "_law_cells"] (fa 16) (fdd 16)
  F17 : Fn K mg "_law_some_cells" s_qsome_cells ["_law_state", "_law_many"] (fa 17) (fdd 17)
  F18 : Fn K mg "_law_is_cell" s_qis_cell ["_law_thing"] (fa 18) (fdd 18)
  F19 : Fn K mg "_law_is_row" s_qis_row ["_law_row"] (fa 19) (fdd 19)
  F20 : Fn K mg "_law_strange" s_qstrange ["_law_state"] (fa 20) (fdd 20)
  F21 : Fn K mg "_law_spoilt_tuple" s_qspoilt_tuple ["_law_state", "_law_told"] (fa 21) (fdd 21)
  F22 : Fn K mg "_law_spoilt_row" s_qspoilt_row ["_law_state", "_law_row"] (fa 22) (fdd 22)
  F23 : Fn K mg "law" s_law ["_law_script"] (fa 23) (fdd 23)
  z_all : mg "all" = none
  z_bool : mg "bool" = none
  z_enumerate : mg "enumerate" = none
  z_int : mg "int" = none
  z_isinstance : mg "isinstance" = none
  z_len : mg "len" = none
  z_list : mg "list" = none
  z_min : mg "min" = none
  z_range : mg "range" = none
  z_str : mg "str" = none
  z_tuple : mg "tuple" = none
  z_zip : mg "zip" = none
  k_bool : KitT K .bool
  k_int : KitT K .int
  k_str : KitT K .str
  k_tuple : KitT K .tuple
  d_ROWS : GD K w mg cl "ROWS" d_ROWS
def Fns (P : Program) (w : World) (K : PySem.W.Frag) (mg : Str -> Option Value) (base : Heap) (cl : Nat -> Addr) (fa : Nat -> Addr) (fdd : Nat -> FuncData) (k : Nat) : Prop := ∀ i ps, pss i = some ps -> FnOk P w K mg base (CX1 P w) k (fa i) (fdd i) ps (spI K cl (callT T k) i)
section
variable {P : Program} {w : World} {K : PySem.W.Frag} {mg : Str -> Option Value} {base : Heap} {cl : Nat -> Addr} {fa : Nat -> Addr} {fdd : Nat -> FuncData} {k : Nat}
theorem bd_is_whole (Z : Facts w K mg cl fa fdd) (C : Fns P w K mg base cl fa fdd k) : FnOk P w K mg base (CX1 P w) (k + 1) (fa 0) (fdd 0) ["thing", "low", "high"] (spI K cl (callT T (k + 1)) 0) :=
  fn_ok_k (fn := f_is_whole) rfl Z.F0.F sc_is_whole rfl rfl fun cdv A outer s H E hr => have nd := sc_is_whole.nd; have hu1 := hu_of hr; (ss_cons_k (ss_ret_k (se_and_k (se_isi_k (t := .int) Z.k_int rfl gl_is_whole_isinstance Z.z_isinstance gl_is_whole_int Z.z_int bt_int (svF_k va_is_whole 0)) (se_and_k (se_not_k (se_isi_k (t := .bool) Z.k_bool rfl gl_is_whole_isinstance Z.z_isinstance gl_is_whole_bool Z.z_bool bt_bool (svF_k va_is_whole 0))) (se_one_k (se_chain_k oe_le oe_le (svF_k va_is_whole 1) (svF_k va_is_whole 0) (svF_k va_is_whole 2)))))) ss_nil_k)
theorem bd_is_letter (Z : Facts w K mg cl fa fdd) (C : Fns P w K mg base cl fa fdd k) : FnOk P w K mg base (CX1 P w) (k + 1) (fa 1) (fdd 1) ["thing"] (spI K cl (callT T (k + 1)) 1) :=
  fn_ok_k (fn := f_is_letter) rfl Z.F1.F sc_is_letter rfl rfl fun cdv A outer s H E hr => have nd := sc_is_letter.nd; have hu1 := hu_of hr; (ss_cons_k (ss_ret_k (se_and_k (se_isi_k (t := .str) Z.k_str rfl gl_is_letter_isinstance Z.z_isinstance gl_is_letter_str Z.z_str bt_str (svF_k va_is_letter 0)) (se_and_k (se_cmp_k (oe_eq hr.units) (se_blt_k cb_len gl_is_letter_len Z.z_len bt_len (sa_cons_k (svF_k va_is_letter 0) sa_nil_k)) se_int_k (nomark _)) (se_one_k (se_chain_k oe_le oe_le se_str_k (svF_k va_is_letter 0) se_str_k))))) ss_nil_k)
theorem bd_is_row (Z : Facts w K mg cl fa fdd) (C : Fns P w K mg base cl fa fdd k) : FnOk P w K mg base (CX1 P w) (k + 1) (fa 2) (fdd 2) ["thing"] (spI K cl (callT T (k + 1)) 2) :=
  fn_ok_k (fn := f_is_row) rfl Z.F2.F sc_is_row rfl rfl fun cdv A outer s H E hr => have nd := sc_is_row.nd; have hu1 := hu_of hr; (ss_cons_k (ss_ret_k (se_call_k (C 3 _ rfl) hr gl_is_row_has_form Z.F3.m Z.F3.F.kp Z.F3.b (sa_cons_k (svF_k va_is_row 0) (sa_cons_k se_bl_k sa_nil_k)))) ss_nil_k)
theorem bd_has_form (Z : Facts w K mg cl fa fdd) (C : Fns P w K mg base cl fa fdd k) : FnOk P w K mg base (CX1 P w) (k + 1) (fa 3) (fdd 3) ["thing", "told"] (spI K cl (callT T (k + 1)) 3) :=
  fn_ok_k (fn := f_has_form) rfl Z.F3.F sc_has_form rfl rfl fun cdv A outer s H E hr => have nd := sc_has_form.nd; have hu1 := hu_of hr; (ss_cons_k (ss_if_k (pw_pt_k (sw_or_k (st_not_k (st_val_k (se_call_k (C 4 _ rfl) hr gl_has_form_is_named Z.F4.m Z.F4.F.kp Z.F4.b (sa_cons_k (svF_k va_has_form 0) sa_nil_k)))) (sw_or1_k (st_cmp_k (oe_ne hr.units) (se_blt_k cb_len gl_has_form_len Z.z_len bt_len (sa_cons_k (svF_k va_has_form 0) sa_nil_k)) (se_bin_k oe_add (se_blt_k cb_len gl_has_form_len Z.z_len bt_len (sa_cons_k (se_dix_k gl_has_form_ROWS Z.d_ROWS (se_idx_k (svF_k va_has_form 0) se_int_k)) sa_nil_k)) se_int_k) (nomark _))))) (ss_cons_k (ss_ret_k se_bl_k) ss_nil_k) ss_nil_k) (ss_cons_k (ss_for_k own1 rfl (si_zip_k gl_has_form_zip Z.z_zip (se_dix_k gl_has_form_ROWS Z.d_ROWS (se_idx_k (svF_k va_has_form 0) se_int_k)) (se_slc_k (svF_k va_has_form 0) (so_some_k se_int_k) so_none_k)) (sg_tup_k rfl (sgs_cons_k (i := 2) nd rfl (lcF (i := 2) va_has_form rfl) (sgs_cons_k (i := 3) nd rfl (lcF (i := 3) va_has_form rfl) sgs_nil_k))) (ss_cons_k (ss_if_k (st_not_k (st_val_k (se_call_k (C 5 _ rfl) hr gl_has_form_is_operand Z.F5.m Z.F5.F.kp Z.F5.b (sa_cons_k (svF_k va_has_form 2) (sa_cons_k (svF_k va_has_form 3) (sa_cons_k (svF_k va_has_form 1) sa_nil_k)))))) (ss_cons_k (ss_ret_k se_bl_k) ss_nil_k) ss_nil_k) ss_nil_k)) (ss_cons_k (ss_ret_k (se_or_k (se_cmp_k (oe_ne hr.units) (se_idx_k (svF_k va_has_form 0) se_int_k) se_str_k (nomark _)) (se_one_k (se_cmp_k (oe_ne hr.units) (se_idx_k (svF_k va_has_form 0) se_int_k) (se_idx_k (svF_k va_has_form 0) se_int_k) (nomark _))))) ss_nil_k)))
theorem bd_is_named (Z : Facts w K mg cl fa fdd) (C : Fns P w K mg base cl fa fdd k) : FnOk P w K mg base (CX1 P w) (k + 1) (fa 4) (fdd 4) ["thing"] (spI K cl (callT T (k + 1)) 4) :=
  fn_ok_k (fn := f_is_named) rfl Z.F4.F sc_is_named rfl rfl fun cdv A outer s H E hr => have nd := sc_is_named.nd; have hu1 := hu_of hr; (ss_cons_k (ss_ret_k (se_and_k (se_isi_k (t := .tuple) Z.k_tuple rfl gl_is_named_isinstance Z.z_isinstance gl_is_named_tuple Z.z_tuple bt_tuple (svF_k va_is_named 0)) (se_and_k (se_cmp_k oe_gt (se_blt_k cb_len gl_is_named_len Z.z_len bt_len (sa_cons_k (svF_k va_is_named 0) sa_nil_k)) se_int_k (nomark _)) (se_and_k (se_isi_k (t := .str) Z.k_str rfl gl_is_named_isinstance Z.z_isinstance gl_is_named_str Z.z_str bt_str (se_idx_k (svF_k va_is_named 0) se_int_k)) (se_one_k (se_din_k gl_is_named_ROWS Z.d_ROWS (se_idx_k (svF_k va_is_named 0) se_int_k))))))) ss_nil_k)
theorem bd_is_operand (Z : Facts w K mg cl fa fdd) (C : Fns P w K mg base cl fa fdd k) : FnOk P w K mg base (CX1 P w) (k + 1) (fa 5) (fdd 5) ["kind", "thing", "told"] (spI K cl (callT T (k + 1)) 5) :=
  fn_ok_k (fn := f_is_operand) rfl Z.F5.F sc_is_operand rfl rfl fun cdv A outer s H E hr => have nd := sc_is_operand.nd; have hu1 := hu_of hr; (ss_cons_k (ss_if_k (st_cmp_k (oe_eq hr.units) (svF_k va_is_operand 0) se_str_k (nomark _)) (ss_cons_k (ss_ret_k (se_call_k (C 0 _ rfl) hr gl_is_operand_is_whole Z.F0.m Z.F0.F.kp Z.F0.b (sa_cons_k (svF_k va_is_operand 1) (sa_cons_k se_int_k (sa_cons_k se_int_k sa_nil_k))))) ss_nil_k) ss_nil_k) (ss_cons_k (ss_ret_k (se_ite_k (st_val_k (svF_k va_is_operand 2)) se_nope_k (se_call_k (C 6 _ rfl) hr gl_is_operand_is_cell Z.F6.m Z.F6.F.kp Z.F6.b (sa_cons_k (svF_k va_is_operand 1) sa_nil_k)))) ss_nil_k))
theorem bd_is_cell (Z : Facts w K mg cl fa fdd) (C : Fns P w K mg base cl fa fdd k) : FnOk P w K mg base (CX1 P w) (k + 1) (fa 6) (fdd 6) ["thing"] (spI K cl (callT T (k + 1)) 6) :=
  fn_ok_k (fn := f_is_cell) rfl Z.F6.F sc_is_cell rfl rfl fun cdv A outer s H E hr => have nd := sc_is_cell.nd; have hu1 := hu_of hr; (ss_cons_k (ss_ret_k (se_and_k (se_call_k (C 7 _ rfl) hr gl_is_cell_is_lettered Z.F7.m Z.F7.F.kp Z.F7.b (sa_cons_k (svF_k va_is_cell 0) sa_nil_k)) (se_one_k (se_call_k (C 0 _ rfl) hr gl_is_cell_is_whole Z.F0.m Z.F0.F.kp Z.F0.b (sa_cons_k (se_idx_k (svF_k va_is_cell 0) se_int_k) (sa_cons_k se_int_k (sa_cons_k se_int_k sa_nil_k))))))) ss_nil_k)
theorem bd_is_lettered (Z : Facts w K mg cl fa fdd) (C : Fns P w K mg base cl fa fdd k) : FnOk P w K mg base (CX1 P w) (k + 1) (fa 7) (fdd 7) ["thing"] (spI K cl (callT T (k + 1)) 7) :=
  fn_ok_k (fn := f_is_lettered) rfl Z.F7.F sc_is_lettered rfl rfl fun cdv A outer s H E hr => have nd := sc_is_lettered.nd; have hu1 := hu_of hr; (ss_cons_k (ss_ret_k (se_and_k (se_isi_k (t := .tuple) Z.k_tuple rfl gl_is_lettered_isinstance Z.z_isinstance gl_is_lettered_tuple Z.z_tuple bt_tuple (svF_k va_is_lettered 0)) (se_and_k (se_cmp_k (oe_eq hr.units) (se_blt_k cb_len gl_is_lettered_len Z.z_len bt_len (sa_cons_k (svF_k va_is_lettered 0) sa_nil_k)) se_int_k (nomark _)) (se_one_k (se_call_k (C 1 _ rfl) hr gl_is_lettered_is_letter Z.F1.m Z.F1.F.kp Z.F1.b (sa_cons_k (se_idx_k (svF_k va_is_lettered 0) se_int_k) sa_nil_k)))))) ss_nil_k)
theorem bd_qfresh (Z : Facts w K mg cl fa fdd) (C : Fns P w K mg base cl fa fdd k) : FnOk P w K mg base (CX1 P w) (k + 1) (fa 8) (fdd 8) ["_law_script"] (spI K cl (callT T (k + 1)) 8) :=
  fn_ok_k (fn := f_qfresh) rfl Z.F8.F sc_qfresh rfl rfl fun cdv A outer s H E hr => have nd := sc_qfresh.nd; have hu1 := hu_of hr; (ss_cons_k (ss_ret_k (se_newl_k (sa_cons_k (se_slc_k (svF_k va_qfresh 0) so_none_k (so_some_k se_int_k)) (sa_cons_k se_int_k (sa_cons_k se_int_k (sa_cons_k se_bl_k sa_nil_k)))))) ss_nil_k)
theorem bd_qmixed (Z : Facts w K mg cl fa fdd) (C : Fns P w K mg base cl fa fdd k) : FnOk P w K mg base (CX1 P w) (k + 1) (fa 9) (fdd 9) ["_law_seed"] (spI K cl (callT T (k + 1)) 9) :=
  fn_ok_k (fn := f_qmixed) rfl Z.F9.F sc_qmixed rfl rfl fun cdv A outer s H E hr => have nd := sc_qmixed.nd; have hu1 := hu_of hr; (ss_cons_k (ss_set_k (i := 1) nd rfl (lcF (i := 1) va_qmixed rfl) (se_tup_k (sa_cons_k se_int_k (sa_cons_k se_int_k (sa_cons_k se_int_k (sa_cons_k se_int_k (sa_cons_k se_int_k sa_nil_k))))))) (ss_cons_k (ss_set_k (i := 2) nd rfl (lcF (i := 2) va_qmixed rfl) se_int_k) (ss_cons_k (ss_for_k own1 rfl (si_enum_k gl_qmixed_enumerate Z.z_enumerate (svF_k va_qmixed 1)) (sg_tup_k rfl (sgs_cons_k (i := 3) nd rfl (lcF (i := 3) va_qmixed rfl) (sgs_cons_k (i := 4) nd rfl (lcF (i := 4) va_qmixed rfl) sgs_nil_k))) (ss_cons_k (ss_set_k (i := 5) nd rfl (lcF (i := 5) va_qmixed rfl) (se_bin_k oe_add (svF_k va_qmixed 0) (se_idx_k (se_tup_k (sa_cons_k se_int_k (sa_cons_k se_int_k (sa_cons_k se_int_k (sa_cons_k se_int_k (sa_cons_k se_int_k sa_nil_k)))))) (svF_k va_qmixed 3)))) (ss_cons_k (ss_set_k (i := 5) nd rfl (lcF (i := 5) va_qmixed rfl) (se_bin_k oe_mod (se_bin_k oe_mul (svF_k va_qmixed 5) (se_bin_k oe_add se_int_k (se_bin_k oe_mul se_int_k (svF_k va_qmixed 3)))) (svF_k va_qmixed 4))) (ss_cons_k (ss_set_k (i := 6) nd rfl (lcF (i := 6) va_qmixed rfl) (se_bin_k oe_mod (se_bin_k oe_mul (svF_k va_qmixed 5) (svF_k va_qmixed 5)) (svF_k va_qmixed 4))) (ss_cons_k (ss_set_k (i := 7) nd rfl (lcF (i := 7) va_qmixed rfl) (se_bin_k oe_mod (se_bin_k oe_mul (se_bin_k oe_mod (se_bin_k oe_mul (svF_k va_qmixed 6) (svF_k va_qmixed 6)) (svF_k va_qmixed 4)) (svF_k va_qmixed 5)) (svF_k va_qmixed 4))) (ss_cons_k (ss_set_k (i := 2) nd rfl (lcF (i := 2) va_qmixed rfl) (se_bin_k oe_add (se_bin_k oe_mul (svF_k va_qmixed 2) (svF_k va_qmixed 4)) (svF_k va_qmixed 7))) ss_nil_k)))))) (ss_cons_k (ss_ret_k (svF_k va_qmixed 2)) ss_nil_k))))
theorem bd_qfill (Z : Facts w K mg cl fa fdd) (C : Fns P w K mg base cl fa fdd k) : FnOk P w K mg base (CX1 P w) (k + 1) (fa 10) (fdd 10) ["_law_state"] (spI K cl (callT T (k + 1)) 10) :=
  fn_ok_k (fn := f_qfill) rfl Z.F10.F sc_qfill rfl rfl fun cdv A outer s H E hr => have nd := sc_qfill.nd; have hu1 := hu_of hr; (ss_cons_k (ss_par_k rfl nd rfl rfl (by decide) (ps_par_k rfl nd rfl rfl (by decide) rfl rfl (sa_cons_k (se_idx_k (svF_k va_qfill 0) se_int_k) (sa_cons_k (se_idx_k (svF_k va_qfill 0) se_int_k) sa_nil_k)) rfl)) (ss_cons_k (ss_set_k (i := 3) nd rfl (lcF (i := 3) va_qfill rfl) (se_bin_k oe_add (se_bin_k oe_mul se_int_k (svF_k va_qfill 2)) se_int_k)) (ss_cons_k (ss_if_k (st_cmp_k oe_gt (se_blt_k cb_len gl_qfill_len Z.z_len bt_len (sa_cons_k (svF_k va_qfill 1) sa_nil_k)) se_int_k (nomark _)) (ss_cons_k (ss_set_k (i := 3) nd rfl (lcF (i := 3) va_qfill rfl) (se_bin_k oe_mul se_int_k (se_bin_k oe_fdiv (svF_k va_qfill 2) (se_blt_k cb_len gl_qfill_len Z.z_len bt_len (sa_cons_k (svF_k va_qfill 1) sa_nil_k))))) (ss_cons_k (ss_set_k (i := 3) nd rfl (lcF (i := 3) va_qfill rfl) (se_bin_k oe_add (svF_k va_qfill 3) (se_idx_k (svF_k va_qfill 1) (se_bin_k oe_mod (svF_k va_qfill 2) (se_blt_k cb_len gl_qfill_len Z.z_len bt_len (sa_cons_k (svF_k va_qfill 1) sa_nil_k)))))) ss_nil_k)) ss_nil_k) (ss_cons_k (ss_six_k (se_bin_k oe_add (svF_k va_qfill 2) se_int_k) (svF_k va_qfill 0) se_int_k (hg := pg_sub_k (svF_k va_qfill 0) se_int_k set_list)) (ss_cons_k (ss_six_k (se_or_k (se_cmp_k oe_ge (svF_k va_qfill 2) (se_blt_k cb_len gl_qfill_len Z.z_len bt_len (sa_cons_k (svF_k va_qfill 1) sa_nil_k)) (nomark _)) (se_one_k (se_cmp_k oe_lt (svF_k va_qfill 3) (se_bin_k oe_pow se_int_k se_int_k) (nomark _)))) (svF_k va_qfill 0) se_int_k (hg := pg_sub_k (svF_k va_qfill 0) se_int_k set_list)) (ss_cons_k (ss_if_k (st_val_k (se_idx_k (svF_k va_qfill 0) se_int_k)) (ss_cons_k (ss_six_k (se_call_k (C 9 _ rfl) hr gl_qfill_qmixed Z.F9.m Z.F9.F.kp Z.F9.b (sa_cons_k (svF_k va_qfill 3) sa_nil_k)) (svF_k va_qfill 0) se_int_k (hg := pg_sub_k (svF_k va_qfill 0) se_int_k set_list)) ss_nil_k) (ss_cons_k (ss_six_k (se_bin_k oe_sub (svF_k va_qfill 3) (se_bin_k oe_pow se_int_k se_int_k)) (svF_k va_qfill 0) se_int_k (hg := pg_sub_k (svF_k va_qfill 0) se_int_k set_list)) ss_nil_k)) ss_nil_k))))))
theorem bd_qtake (Z : Facts w K mg cl fa fdd) (C : Fns P w K mg base cl fa fdd k) : FnOk P w K mg base (CX1 P w) (k + 1) (fa 11) (fdd 11) ["_law_state", "_law_many"] (spI K cl (callT T (k + 1)) 11) :=
  fn_ok_k (fn := f_qtake) rfl Z.F11.F sc_qtake rfl rfl fun cdv A outer s H E hr => have nd := sc_qtake.nd; have hu1 := hu_of hr; (ss_cons_k (ss_set_k (i := 2) nd rfl (lcF (i := 2) va_qtake rfl) se_int_k) (ss_cons_k (ss_while_k own1 (pw_pt_k (sw_and_k (st_cmp_k oe_lt (svF_k va_qtake 2) se_int_k (nomark _)) (sw_and1_k (pw_pt_k (sw_or_k (st_cmp_k (oe_eq hr.units) (se_idx_k (svF_k va_qtake 0) se_int_k) se_int_k (nomark _)) (sw_or1_k (pw_pt_k (sw_and_k (st_val_k (se_idx_k (svF_k va_qtake 0) se_int_k)) (sw_and1_k (st_cmp_k oe_lt (se_idx_k (svF_k va_qtake 0) se_int_k) (se_bin_k oe_mul (svF_k va_qtake 1) se_int_k) (nomark _))))))))))) (ss_cons_k (ss_expr_k (se_call_k (C 10 _ rfl) hr gl_qtake_qfill Z.F10.m Z.F10.F.kp Z.F10.b (sa_cons_k (svF_k va_qtake 0) sa_nil_k))) (ss_cons_k (ss_aug_k (i := 2) nd rfl (lcF (i := 2) va_qtake rfl) se_int_k ip_addT) (ss_cons_k (ss_if_k (pw_pt_k (sw_and_k (st_val_k (se_idx_k (svF_k va_qtake 0) se_int_k)) (sw_and1_k (st_cmp_k oe_lt (se_idx_k (svF_k va_qtake 0) se_int_k) (se_bin_k oe_mul (svF_k va_qtake 1) se_int_k) (nomark _))))) (ss_cons_k (ss_six_k (se_bin_k oe_add (se_idx_k (svF_k va_qtake 0) se_int_k) (se_bin_k oe_mul (se_bin_k oe_mul (svF_k va_qtake 1) se_int_k) (se_bin_k oe_add se_int_k (se_bin_k oe_mod (se_idx_k (svF_k va_qtake 0) se_int_k) se_int_k)))) (svF_k va_qtake 0) se_int_k (hg := pg_sub_k (svF_k va_qtake 0) se_int_k set_list)) ss_nil_k) ss_nil_k) ss_nil_k)))) (ss_cons_k (ss_set_k (i := 3) nd rfl (lcF (i := 3) va_qtake rfl) (se_bin_k oe_mod (se_idx_k (svF_k va_qtake 0) se_int_k) (svF_k va_qtake 1))) (ss_cons_k (ss_six_k (se_bin_k oe_fdiv (se_idx_k (svF_k va_qtake 0) se_int_k) (svF_k va_qtake 1)) (svF_k va_qtake 0) se_int_k (hg := pg_sub_k (svF_k va_qtake 0) se_int_k set_list)) (ss_cons_k (ss_ret_k (svF_k va_qtake 3)) ss_nil_k)))))
theorem bd_qwhole (Z : Facts w K mg cl fa fdd) (C : Fns P w K mg base cl fa fdd k) : FnOk P w K mg base (CX1 P w) (k + 1) (fa 12) (fdd 12) ["_law_thing"] (spI K cl (callT T (k + 1)) 12) :=
  fn_ok_k (fn := f_qwhole) rfl Z.F12.F sc_qwhole rfl rfl fun cdv A outer s H E hr => have nd := sc_qwhole.nd; have hu1 := hu_of hr; (ss_cons_k (ss_ret_k (se_and_k (se_isi_k (t := .int) Z.k_int rfl gl_qwhole_isinstance Z.z_isinstance gl_qwhole_int Z.z_int bt_int (svF_k va_qwhole 0)) (se_one_k (se_not_k (se_isi_k (t := .bool) Z.k_bool rfl gl_qwhole_isinstance Z.z_isinstance gl_qwhole_bool Z.z_bool bt_bool (svF_k va_qwhole 0)))))) ss_nil_k)
theorem bd_qletter (Z : Facts w K mg cl fa fdd) (C : Fns P w K mg base cl fa fdd k) : FnOk P w K mg base (CX1 P w) (k + 1) (fa 13) (fdd 13) ["_law_thing"] (spI K cl (callT T (k + 1)) 13) :=
  fn_ok_k (fn := f_qletter) rfl Z.F13.F sc_qletter rfl rfl fun cdv A outer s H E hr => have nd := sc_qletter.nd; have hu1 := hu_of hr; (ss_cons_k (ss_ret_k (se_and_k (se_isi_k (t := .str) Z.k_str rfl gl_qletter_isinstance Z.z_isinstance gl_qletter_str Z.z_str bt_str (svF_k va_qletter 0)) (se_and_k (se_cmp_k (oe_eq hr.units) (se_blt_k cb_len gl_qletter_len Z.z_len bt_len (sa_cons_k (svF_k va_qletter 0) sa_nil_k)) se_int_k (nomark _)) (se_one_k (se_cmp_k oe_in (svF_k va_qletter 0) se_str_k (by with_unfolding_all rfl)))))) ss_nil_k)
theorem bd_qsome_letter (Z : Facts w K mg cl fa fdd) (C : Fns P w K mg base cl fa fdd k) : FnOk P w K mg base (CX1 P w) (k + 1) (fa 14) (fdd 14) ["_law_state"] (spI K cl (callT T (k + 1)) 14) :=
  fn_ok_k (fn := f_qsome_letter) rfl Z.F14.F sc_qsome_letter rfl rfl fun cdv A outer s H E hr => have nd := sc_qsome_letter.nd; have hu1 := hu_of hr; (ss_cons_k (ss_ret_k (se_idx_k se_str_k (se_call_k (C 11 _ rfl) hr gl_qsome_letter_qtake Z.F11.m Z.F11.F.kp Z.F11.b (sa_cons_k (svF_k va_qsome_letter 0) (sa_cons_k se_int_k sa_nil_k))))) ss_nil_k)
theorem bd_qsome_cell (Z : Facts w K mg cl fa fdd) (C : Fns P w K mg base cl fa fdd k) : FnOk P w K mg base (CX1 P w) (k + 1) (fa 15) (fdd 15) ["_law_state"] (spI K cl (callT T (k + 1)) 15) :=
  fn_ok_k (fn := f_qsome_cell) rfl Z.F15.F sc_qsome_cell rfl rfl fun cdv A outer s H E hr => have nd := sc_qsome_cell.nd; have hu1 := hu_of hr; (ss_cons_k (ss_ret_k (se_tup_k (sa_cons_k (se_call_k (C 14 _ rfl) hr gl_qsome_cell_qsome_letter Z.F14.m Z.F14.F.kp Z.F14.b (sa_cons_k (svF_k va_qsome_cell 0) sa_nil_k)) (sa_cons_k (se_idx_k (se_tup_k (sa_cons_k se_int_k (sa_cons_k se_int_k (sa_cons_k (se_call_k (C 11 _ rfl) hr gl_qsome_cell_qtake Z.F11.m Z.F11.F.kp Z.F11.b (sa_cons_k (svF_k va_qsome_cell 0) (sa_cons_k se_int_k sa_nil_k))) (sa_cons_k (se_call_k (C 11 _ rfl) hr gl_qsome_cell_qtake Z.F11.m Z.F11.F.kp Z.F11.b (sa_cons_k (svF_k va_qsome_cell 0) (sa_cons_k se_int_k sa_nil_k))) sa_nil_k))))) (se_call_k (C 11 _ rfl) hr gl_qsome_cell_qtake Z.F11.m Z.F11.F.kp Z.F11.b (sa_cons_k (svF_k va_qsome_cell 0) (sa_cons_k se_int_k sa_nil_k)))) sa_nil_k)))) ss_nil_k)
theorem bd_qsome_row (Z : Facts w K mg cl fa fdd) (C : Fns P w K mg base cl fa fdd k) : FnOk P w K mg base (CX1 P w) (k + 1) (fa 16) (fdd 16) ["_law_state", "_law_cells"] (spI K cl (callT T (k + 1)) 16) :=
  fn_ok_k (fn := f_qsome_row) rfl Z.F16.F sc_qsome_row rfl rfl fun cdv A outer s H E hr => have nd := sc_qsome_row.nd; have hu1 := hu_of hr; (ss_cons_k (ss_set_k (i := 2) nd rfl (lcF (i := 2) va_qsome_row rfl) (se_tup_k (sa_cons_k se_str_k (sa_cons_k se_str_k (sa_cons_k se_str_k (sa_cons_k se_str_k (sa_cons_k se_str_k (sa_cons_k se_str_k (sa_cons_k se_str_k (sa_cons_k se_str_k (sa_cons_k se_str_k (sa_cons_k se_str_k (sa_cons_k se_str_k (sa_cons_k se_str_k (sa_cons_k se_str_k sa_nil_k))))))))))))))) (ss_cons_k (ss_set_k (i := 3) nd rfl (lcF (i := 3) va_qsome_row rfl) (se_idx_k (svF_k va_qsome_row 2) (se_call_k (C 11 _ rfl) hr gl_qsome_row_qtake Z.F11.m Z.F11.F.kp Z.F11.b (sa_cons_k (svF_k va_qsome_row 0) (sa_cons_k se_int_k sa_nil_k))))) (ss_cons_k (ss_set_k (i := 4) nd rfl (lcF (i := 4) va_qsome_row rfl) (se_call_k (C 11 _ rfl) hr gl_qsome_row_qtake Z.F11.m Z.F11.F.kp Z.F11.b (sa_cons_k (svF_k va_qsome_row 0) (sa_cons_k se_int_k sa_nil_k)))) (ss_cons_k (ss_compT_k (i := 5) nd rfl (lcF (i := 5) va_qsome_row rfl) rfl (compOk (NC := ["_law_k", "_law_cells", "_law_state"]) (slots := [none, some 1, some 0]) ["_law_state", "_law_cells", "_law_kinds", "_law_kind", "_law_digit", "_law_some"] (defScope s_qsome_row) rfl rfl rfl (by decide +kernel) (by decide +kernel) (by decide +kernel) (by decide +kernel) rfl) (by decide) (si_range1_k gl_qsome_row_range Z.z_range se_int_k) (fun j => sg_zero_k rfl (sg_name_k (i := 0) (show (["_law_k", "_law_cells", "_law_state"] : List Str).Nodup by decide +kernel) rfl (by first | exact Or.inl rfl | exact Or.inr rfl))) (fun j => st_zero0_k) (fun j => se_zero_k rfl (se_idx_k (sv_k 1) (se_call_k (C 11 _ rfl) hr rfl Z.F11.m Z.F11.F.kp Z.F11.b (sa_cons_k (sv_k 2) (sa_cons_k (se_blt_k cb_len rfl Z.z_len bt_len (sa_cons_k (sv_k 1) sa_nil_k)) sa_nil_k)))))) (ss_cons_k (ss_if_k (st_cmp_k (oe_eq hr.units) (svF_k va_qsome_row 3) se_str_k (nomark _)) (ss_cons_k (ss_ret_k (se_tup_k (sa_cons_k (svF_k va_qsome_row 3) (sa_cons_k (svF_k va_qsome_row 4) sa_nil_k)))) ss_nil_k) ss_nil_k) (ss_cons_k (ss_if_k (st_cmp_k (oe_eq hr.units) (svF_k va_qsome_row 3) se_str_k (nomark _)) (ss_cons_k (ss_ret_k (se_tup_k (sa_cons_k (svF_k va_qsome_row 3) (sa_cons_k (se_idx_k (svF_k va_qsome_row 5) se_int_k) sa_nil_k)))) ss_nil_k) ss_nil_k) (ss_cons_k (ss_if_k (st_cmp_k (oe_eq hr.units) (svF_k va_qsome_row 3) se_str_k (nomark _)) (ss_cons_k (ss_ret_k (se_tup_k (sa_cons_k (svF_k va_qsome_row 3) (sa_cons_k (se_idx_k (svF_k va_qsome_row 5) se_int_k) (sa_cons_k (svF_k va_qsome_row 4) sa_nil_k))))) ss_nil_k) ss_nil_k) (ss_cons_k (ss_if_k (st_cmp_k (oe_eq hr.units) (svF_k va_qsome_row 3) se_str_k (nomark _)) (ss_cons_k (ss_if_k (st_cmp_k (oe_eq hr.units) (se_idx_k (svF_k va_qsome_row 5) se_int_k) (se_idx_k (svF_k va_qsome_row 5) se_int_k) (nomark _)) (ss_cons_k (ss_six2_k rfl (sa_cons_k (se_idx_k (svF_k va_qsome_row 1) se_int_k) (sa_cons_k (se_idx_k (svF_k va_qsome_row 1) se_int_k) sa_nil_k)) (svF_k va_qsome_row 5) se_int_k (svF_k va_qsome_row 5) se_int_k (pg_sub_k (svF_k va_qsome_row 5) se_int_k set_list) (pg_sub_k (svF_k va_qsome_row 5) se_int_k set_list)) ss_nil_k) ss_nil_k) (ss_cons_k (ss_ret_k (se_tup_k (sa_cons_k (svF_k va_qsome_row 3) (sa_cons_k (se_idx_k (svF_k va_qsome_row 5) se_int_k) (sa_cons_k (se_idx_k (svF_k va_qsome_row 5) se_int_k) (sa_cons_k (se_idx_k (svF_k va_qsome_row 5) se_int_k) (sa_cons_k (se_idx_k (svF_k va_qsome_row 5) se_int_k) sa_nil_k))))))) ss_nil_k)) ss_nil_k) (ss_cons_k (ss_if_k (st_cmp_k oe_in (svF_k va_qsome_row 3) (se_tup_k (sa_cons_k se_str_k (sa_cons_k se_str_k (sa_cons_k se_str_k (sa_cons_k se_str_k sa_nil_k))))) (by with_unfolding_all rfl)) (ss_cons_k (ss_ret_k (se_tup_k (sa_cons_k (svF_k va_qsome_row 3) (sa_cons_k (se_idx_k (svF_k va_qsome_row 5) se_int_k) (sa_cons_k (se_idx_k (svF_k va_qsome_row 5) se_int_k) sa_nil_k))))) ss_nil_k) ss_nil_k) (ss_cons_k (ss_ret_k (se_tup_k (sa_cons_k (svF_k va_qsome_row 3) (sa_cons_k (se_idx_k (svF_k va_qsome_row 5) se_int_k) (sa_cons_k (se_idx_k (svF_k va_qsome_row 5) se_int_k) (sa_cons_k (se_idx_k (svF_k va_qsome_row 5) se_int_k) sa_nil_k)))))) ss_nil_k))))))))))
theorem bd_qsome_cells (Z : Facts w K mg cl fa fdd) (C : Fns P w K mg base cl fa fdd k) : FnOk P w K mg base (CX1 P w) (k + 1) (fa 17) (fdd 17) ["_law_state", "_law_many"] (spI K cl (callT T (k + 1)) 17) :=
  fn_ok_k (fn := f_qsome_cells) rfl Z.F17.F sc_qsome_cells rfl rfl fun cdv A outer s H E hr => have nd := sc_qsome_cells.nd; have hu1 := hu_of hr; (ss_cons_k (ss_set_k (i := 2) nd rfl (lcF (i := 2) va_qsome_cells rfl) (se_newl_k sa_nil_k)) (ss_cons_k (ss_for_k own1 rfl (si_range1_k gl_qsome_cells_range Z.z_range (se_bin_k oe_add se_int_k (svF_k va_qsome_cells 1))) (sg_name_k (i := 3) nd rfl (lcF (i := 3) va_qsome_cells rfl)) (ss_cons_k (ss_set_k (i := 4) nd rfl (lcF (i := 4) va_qsome_cells rfl) (se_call_k (C 15 _ rfl) hr gl_qsome_cells_qsome_cell Z.F15.m Z.F15.F.kp Z.F15.b (sa_cons_k (svF_k va_qsome_cells 0) sa_nil_k))) (ss_cons_k (ss_if_k (st_nin_k hr.units (svF_k va_qsome_cells 4) (svF_k va_qsome_cells 2) (by with_unfolding_all rfl)) (ss_cons_k (ss_expr_k (se_append_k (svF_k va_qsome_cells 2) (svF_k va_qsome_cells 4))) ss_nil_k) ss_nil_k) ss_nil_k))) (ss_cons_k (ss_if_k (st_cmp_k (oe_eq hr.units) (se_blt_k cb_len gl_qsome_cells_len Z.z_len bt_len (sa_cons_k (svF_k va_qsome_cells 2) sa_nil_k)) se_int_k (nomark _)) (ss_cons_k (ss_expr_k (se_append_k (svF_k va_qsome_cells 2) (se_tup_k (sa_cons_k (se_idx_k (se_idx_k (svF_k va_qsome_cells 2) se_int_k) se_int_k) (sa_cons_k (se_bin_k oe_mod (se_bin_k oe_add (se_idx_k (se_idx_k (svF_k va_qsome_cells 2) se_int_k) se_int_k) se_int_k) se_int_k) sa_nil_k))))) ss_nil_k) ss_nil_k) (ss_cons_k (ss_ret_k (se_frz_k (svF_k va_qsome_cells 2))) ss_nil_k))))
theorem bd_qis_cell (Z : Facts w K mg cl fa fdd) (C : Fns P w K mg base cl fa fdd k) : FnOk P w K mg base (CX1 P w) (k + 1) (fa 18) (fdd 18) ["_law_thing"] (spI K cl (callT T (k + 1)) 18) :=
  fn_ok_k (fn := f_qis_cell) rfl Z.F18.F sc_qis_cell rfl rfl fun cdv A outer s H E hr => have nd := sc_qis_cell.nd; have hu1 := hu_of hr; (ss_cons_k (ss_if_k (pw_pt_k (sw_or_k (st_not_k (st_val_k (se_isi_k (t := .tuple) Z.k_tuple rfl gl_qis_cell_isinstance Z.z_isinstance gl_qis_cell_tuple Z.z_tuple bt_tuple (svF_k va_qis_cell 0)))) (sw_or_k (st_cmp_k (oe_ne hr.units) (se_blt_k cb_len gl_qis_cell_len Z.z_len bt_len (sa_cons_k (svF_k va_qis_cell 0) sa_nil_k)) se_int_k (nomark _)) (sw_or1_k (st_not_k (st_val_k (se_call_k (C 13 _ rfl) hr gl_qis_cell_qletter Z.F13.m Z.F13.F.kp Z.F13.b (sa_cons_k (se_idx_k (svF_k va_qis_cell 0) se_int_k) sa_nil_k)))))))) (ss_cons_k (ss_ret_k se_bl_k) ss_nil_k) ss_nil_k) (ss_cons_k (ss_ret_k (se_and_k (se_call_k (C 12 _ rfl) hr gl_qis_cell_qwhole Z.F12.m Z.F12.F.kp Z.F12.b (sa_cons_k (se_idx_k (svF_k va_qis_cell 0) se_int_k) sa_nil_k)) (se_one_k (se_chain_k oe_le oe_le se_int_k (se_idx_k (svF_k va_qis_cell 0) se_int_k) se_int_k)))) ss_nil_k))
theorem bd_qis_row (Z : Facts w K mg cl fa fdd) (C : Fns P w K mg base cl fa fdd k) : FnOk P w K mg base (CX1 P w) (k + 1) (fa 19) (fdd 19) ["_law_row"] (spI K cl (callT T (k + 1)) 19) :=
  fn_ok_k (fn := f_qis_row) rfl Z.F19.F sc_qis_row rfl rfl fun cdv A outer s H E hr => have nd := sc_qis_row.nd; have hu1 := hu_of hr; (ss_cons_k (ss_if_k (pw_pt_k (sw_or_k (st_not_k (st_val_k (se_isi_k (t := .tuple) Z.k_tuple rfl gl_qis_row_isinstance Z.z_isinstance gl_qis_row_tuple Z.z_tuple bt_tuple (svF_k va_qis_row 0)))) (sw_or_k (st_cmp_k oe_lt (se_blt_k cb_len gl_qis_row_len Z.z_len bt_len (sa_cons_k (svF_k va_qis_row 0) sa_nil_k)) se_int_k (nomark _)) (sw_or1_k (st_not_k (st_val_k (se_isi_k (t := .str) Z.k_str rfl gl_qis_row_isinstance Z.z_isinstance gl_qis_row_str Z.z_str bt_str (se_idx_k (svF_k va_qis_row 0) se_int_k)))))))) (ss_cons_k (ss_ret_k se_bl_k) ss_nil_k) ss_nil_k) (ss_cons_k (ss_if_k (st_cmp_k (oe_eq hr.units) (se_idx_k (svF_k va_qis_row 0) se_int_k) se_str_k (nomark _)) (ss_cons_k (ss_ret_k (se_and_k (se_cmp_k (oe_eq hr.units) (se_blt_k cb_len gl_qis_row_len Z.z_len bt_len (sa_cons_k (svF_k va_qis_row 0) sa_nil_k)) se_int_k (nomark _)) (se_and_k (se_call_k (C 12 _ rfl) hr gl_qis_row_qwhole Z.F12.m Z.F12.F.kp Z.F12.b (sa_cons_k (se_idx_k (svF_k va_qis_row 0) se_int_k) sa_nil_k)) (se_one_k (se_cmp_k oe_in (se_idx_k (svF_k va_qis_row 0) se_int_k) (se_tup_k (sa_cons_k se_int_k (sa_cons_k se_int_k sa_nil_k))) (by with_unfolding_all rfl)))))) ss_nil_k) ss_nil_k) (ss_cons_k (ss_if_k (st_cmp_k (oe_eq hr.units) (se_idx_k (svF_k va_qis_row 0) se_int_k) se_str_k (nomark _)) (ss_cons_k (ss_ret_k (se_and_k (se_cmp_k (oe_eq hr.units) (se_blt_k cb_len gl_qis_row_len Z.z_len bt_len (sa_cons_k (svF_k va_qis_row 0) sa_nil_k)) se_int_k (nomark _)) (se_one_k (se_call_k (C 18 _ rfl) hr gl_qis_row_qis_cell Z.F18.m Z.F18.F.kp Z.F18.b (sa_cons_k (se_idx_k (svF_k va_qis_row 0) se_int_k) sa_nil_k))))) ss_nil_k) ss_nil_k) (ss_cons_k (ss_if_k (st_cmp_k (oe_eq hr.units) (se_idx_k (svF_k va_qis_row 0) se_int_k) se_str_k (nomark _)) (ss_cons_k (ss_ret_k (se_and_k (se_cmp_k (oe_eq hr.units) (se_blt_k cb_len gl_qis_row_len Z.z_len bt_len (sa_cons_k (svF_k va_qis_row 0) sa_nil_k)) se_int_k (nomark _)) (se_and_k (se_call_k (C 18 _ rfl) hr gl_qis_row_qis_cell Z.F18.m Z.F18.F.kp Z.F18.b (sa_cons_k (se_idx_k (svF_k va_qis_row 0) se_int_k) sa_nil_k)) (se_and_k (se_call_k (C 12 _ rfl) hr gl_qis_row_qwhole Z.F12.m Z.F12.F.kp Z.F12.b (sa_cons_k (se_idx_k (svF_k va_qis_row 0) se_int_k) sa_nil_k)) (se_one_k (se_cmp_k oe_in (se_idx_k (svF_k va_qis_row 0) se_int_k) (se_tup_k (sa_cons_k se_int_k (sa_cons_k se_int_k sa_nil_k))) (by with_unfolding_all rfl))))))) ss_nil_k) ss_nil_k) (ss_cons_k (ss_set_k (i := 1) nd rfl (lcF (i := 1) va_qis_row rfl) (se_newd_k (sp_cons_k (sp_cons_k (sp_cons_k (sp_cons_k (sp_cons_k (sp_cons_k (sp_cons_k (sp_cons_k (sp_cons_k sp_nil_k))))))))))) (ss_cons_k (ss_dput_k hu1 (svF_k va_qis_row 1) se_str_k se_int_k) (ss_cons_k (ss_if_k (pw_pt_k (sw_or_k (st_cmp_k (oe_ne hr.units) (se_get_k hu1 (svF_k va_qis_row 1) (se_idx_k (svF_k va_qis_row 0) se_int_k) se_int_k) (se_blt_k cb_len gl_qis_row_len Z.z_len bt_len (sa_cons_k (svF_k va_qis_row 0) sa_nil_k)) (nomark _)) (sw_or1_k (st_not_k (st_val_k (se_blt_k (cb_all rfl) gl_qis_row_all Z.z_all bt_all (sa_cons_k (se_comp_k rfl (compOk (NC := ["_law_part"]) (slots := [none]) ["_law_row", "_law_lengths"] (defScope s_qis_row) rfl rfl rfl (by decide +kernel) (by decide +kernel) (by decide +kernel) (by decide +kernel) rfl) (by decide) (si_seq_k (se_slc_k (svF_k va_qis_row 0) (so_some_k se_int_k) so_none_k)) (fun j => sg_zero_k rfl (sg_name_k (i := 0) (show (["_law_part"] : List Str).Nodup by decide +kernel) rfl (by first | exact Or.inl rfl | exact Or.inr rfl))) (fun j => st_zero0_k) (fun j => se_zero_k rfl (se_call_k (C 18 _ rfl) hr rfl Z.F18.m Z.F18.F.kp Z.F18.b (sa_cons_k (sv_k 0) sa_nil_k)))) sa_nil_k))))))) (ss_cons_k (ss_ret_k se_bl_k) ss_nil_k) ss_nil_k) (ss_cons_k (ss_ret_k (se_or_k (se_cmp_k (oe_ne hr.units) (se_idx_k (svF_k va_qis_row 0) se_int_k) se_str_k (nomark _)) (se_one_k (se_cmp_k (oe_ne hr.units) (se_idx_k (svF_k va_qis_row 0) se_int_k) (se_idx_k (svF_k va_qis_row 0) se_int_k) (nomark _))))) ss_nil_k))))))))
theorem bd_qstrange (Z : Facts w K mg cl fa fdd) (C : Fns P w K mg base cl fa fdd k) : FnOk P w K mg base (CX1 P w) (k + 1) (fa 20) (fdd 20) ["_law_state"] (spI K cl (callT T (k + 1)) 20) :=
  fn_ok_k (fn := f_qstrange) rfl Z.F20.F sc_qstrange rfl rfl fun cdv A outer s H E hr => have nd := sc_qstrange.nd; have hu1 := hu_of hr; (ss_cons_k (ss_set_k (i := 1) nd rfl (lcF (i := 1) va_qstrange rfl) (se_call_k (C 14 _ rfl) hr gl_qstrange_qsome_letter Z.F14.m Z.F14.F.kp Z.F14.b (sa_cons_k (svF_k va_qstrange 0) sa_nil_k))) (ss_cons_k (ss_set_k (i := 2) nd rfl (lcF (i := 2) va_qstrange rfl) (se_bin_k oe_add se_int_k (se_bin_k oe_mul (se_call_k (C 11 _ rfl) hr gl_qstrange_qtake Z.F11.m Z.F11.F.kp Z.F11.b (sa_cons_k (svF_k va_qstrange 0) (sa_cons_k se_int_k sa_nil_k))) (se_call_k (C 11 _ rfl) hr gl_qstrange_qtake Z.F11.m Z.F11.F.kp Z.F11.b (sa_cons_k (svF_k va_qstrange 0) (sa_cons_k (se_bin_k oe_pow se_int_k se_int_k) sa_nil_k)))))) (ss_cons_k (ss_set_k (i := 3) nd rfl (lcF (i := 3) va_qstrange rfl) (se_newl_k (sa_cons_k se_non_k (sa_cons_k se_bl_k (sa_cons_k se_bl_k (sa_cons_k (se_neg_k se_int_k) (sa_cons_k (svF_k va_qstrange 2) (sa_cons_k se_str_k (sa_cons_k (svF_k va_qstrange 1) (sa_cons_k (se_bin_k oe_add (svF_k va_qstrange 1) (svF_k va_qstrange 1)) (sa_cons_k se_str_k (sa_cons_k se_str_k (sa_cons_k (se_tup_k sa_nil_k) (sa_cons_k (se_tup_k (sa_cons_k (svF_k va_qstrange 1) sa_nil_k)) sa_nil_k)))))))))))))) (ss_cons_k (ss_expr_k (se_extend_k (svF_k va_qstrange 3) (se_lst_k (sa_cons_k (se_tup_k (sa_cons_k (svF_k va_qstrange 1) (sa_cons_k se_int_k (sa_cons_k se_int_k sa_nil_k)))) (sa_cons_k (se_tup_k (sa_cons_k (svF_k va_qstrange 1) (sa_cons_k (se_neg_k se_int_k) sa_nil_k))) (sa_cons_k (se_tup_k (sa_cons_k (svF_k va_qstrange 1) (sa_cons_k (svF_k va_qstrange 2) sa_nil_k))) (sa_cons_k (se_tup_k (sa_cons_k se_str_k (sa_cons_k se_int_k sa_nil_k))) (sa_cons_k (se_tup_k (sa_cons_k (se_bin_k oe_add (svF_k va_qstrange 1) se_str_k) (sa_cons_k se_int_k sa_nil_k))) sa_nil_k)))))))) (ss_cons_k (ss_expr_k (se_extend_k (svF_k va_qstrange 3) (se_lst_k (sa_cons_k (se_tup_k (sa_cons_k se_str_k (sa_cons_k se_int_k sa_nil_k))) (sa_cons_k (se_tup_k (sa_cons_k (svF_k va_qstrange 1) (sa_cons_k se_bl_k sa_nil_k))) (sa_cons_k (se_tup_k (sa_cons_k (svF_k va_qstrange 1) (sa_cons_k se_str_k sa_nil_k))) (sa_cons_k (se_lst_k (sa_cons_k (svF_k va_qstrange 1) (sa_cons_k se_int_k sa_nil_k))) (sa_cons_k (se_tup_k (sa_cons_k (svF_k va_qstrange 1) (sa_cons_k (se_tup_k (sa_cons_k se_int_k (sa_cons_k se_int_k (sa_cons_k se_int_k (sa_cons_k se_int_k sa_nil_k))))) sa_nil_k))) sa_nil_k)))))))) (ss_cons_k (ss_expr_k (se_extend_k (svF_k va_qstrange 3) (se_lst_k (sa_cons_k se_int_k (sa_cons_k se_int_k (sa_cons_k se_int_k (sa_cons_k (se_tup_k (sa_cons_k (svF_k va_qstrange 1) (sa_cons_k se_int_k sa_nil_k))) (sa_cons_k se_str_k (sa_cons_k se_str_k (sa_cons_k (se_tup_k (sa_cons_k se_str_k (sa_cons_k se_int_k sa_nil_k))) (sa_cons_k (se_tup_k (sa_cons_k (se_tup_k (sa_cons_k (svF_k va_qstrange 1) (sa_cons_k se_int_k sa_nil_k))) (sa_cons_k se_int_k sa_nil_k))) sa_nil_k))))))))))) (ss_cons_k (ss_ret_k (se_idx_k (svF_k va_qstrange 3) (se_call_k (C 11 _ rfl) hr gl_qstrange_qtake Z.F11.m Z.F11.F.kp Z.F11.b (sa_cons_k (svF_k va_qstrange 0) (sa_cons_k (se_blt_k cb_len gl_qstrange_len Z.z_len bt_len (sa_cons_k (svF_k va_qstrange 3) sa_nil_k)) sa_nil_k))))) ss_nil_k)))))))
theorem bd_qspoilt_tuple (Z : Facts w K mg cl fa fdd) (C : Fns P w K mg base cl fa fdd k) : FnOk P w K mg base (CX1 P w) (k + 1) (fa 21) (fdd 21) ["_law_state", "_law_told"] (spI K cl (callT T (k + 1)) 21) :=
  fn_ok_k (fn := f_qspoilt_tuple) rfl Z.F21.F sc_qspoilt_tuple rfl rfl fun cdv A outer s H E hr => have nd := sc_qspoilt_tuple.nd; have hu1 := hu_of hr; (ss_cons_k (ss_set_k (i := 2) nd rfl (lcF (i := 2) va_qspoilt_tuple rfl) (se_call_k (C 11 _ rfl) hr gl_qspoilt_tuple_qtake Z.F11.m Z.F11.F.kp Z.F11.b (sa_cons_k (svF_k va_qspoilt_tuple 0) (sa_cons_k se_int_k sa_nil_k)))) (ss_cons_k (ss_set_k (i := 3) nd rfl (lcF (i := 3) va_qspoilt_tuple rfl) (se_call_k (C 11 _ rfl) hr gl_qspoilt_tuple_qtake Z.F11.m Z.F11.F.kp Z.F11.b (sa_cons_k (svF_k va_qspoilt_tuple 0) (sa_cons_k (se_bin_k oe_add (se_blt_k cb_len gl_qspoilt_tuple_len Z.z_len bt_len (sa_cons_k (svF_k va_qspoilt_tuple 1) sa_nil_k)) se_int_k) sa_nil_k)))) (ss_cons_k (ss_set_k (i := 4) nd rfl (lcF (i := 4) va_qspoilt_tuple rfl) (se_call_k (C 20 _ rfl) hr gl_qspoilt_tuple_qstrange Z.F20.m Z.F20.F.kp Z.F20.b (sa_cons_k (svF_k va_qspoilt_tuple 0) sa_nil_k))) (ss_cons_k (ss_set_k (i := 5) nd rfl (lcF (i := 5) va_qspoilt_tuple rfl) (se_blt_k (cb_min rfl) gl_qspoilt_tuple_min Z.z_min bt_min (sa_cons_k (svF_k va_qspoilt_tuple 3) (sa_cons_k (se_bin_k oe_sub (se_blt_k cb_len gl_qspoilt_tuple_len Z.z_len bt_len (sa_cons_k (svF_k va_qspoilt_tuple 1) sa_nil_k)) se_int_k) sa_nil_k)))) (ss_cons_k (ss_if_k (pw_pt_k (sw_or_k (st_cmp_k (oe_eq hr.units) (se_blt_k cb_len gl_qspoilt_tuple_len Z.z_len bt_len (sa_cons_k (svF_k va_qspoilt_tuple 1) sa_nil_k)) se_int_k (nomark _)) (sw_or1_k (st_cmp_k (oe_eq hr.units) (svF_k va_qspoilt_tuple 2) se_int_k (nomark _))))) (ss_cons_k (ss_ret_k (se_bin_k oe_add (se_bin_k oe_add (se_slc_k (svF_k va_qspoilt_tuple 1) so_none_k (so_some_k (svF_k va_qspoilt_tuple 3))) (se_tup_k (sa_cons_k (svF_k va_qspoilt_tuple 4) sa_nil_k))) (se_slc_k (svF_k va_qspoilt_tuple 1) (so_some_k (svF_k va_qspoilt_tuple 3)) so_none_k))) ss_nil_k) ss_nil_k) (ss_cons_k (ss_if_k (st_cmp_k (oe_eq hr.units) (svF_k va_qspoilt_tuple 2) se_int_k (nomark _)) (ss_cons_k (ss_ret_k (se_bin_k oe_add (se_slc_k (svF_k va_qspoilt_tuple 1) so_none_k (so_some_k (svF_k va_qspoilt_tuple 5))) (se_slc_k (svF_k va_qspoilt_tuple 1) (so_some_k (se_bin_k oe_add (svF_k va_qspoilt_tuple 5) se_int_k)) so_none_k))) ss_nil_k) ss_nil_k) (ss_cons_k (ss_if_k (st_cmp_k (oe_eq hr.units) (svF_k va_qspoilt_tuple 2) se_int_k (nomark _)) (ss_cons_k (ss_ret_k (se_bin_k oe_add (se_bin_k oe_add (se_slc_k (svF_k va_qspoilt_tuple 1) so_none_k (so_some_k (svF_k va_qspoilt_tuple 5))) (se_tup_k (sa_cons_k (se_idx_k (svF_k va_qspoilt_tuple 1) (svF_k va_qspoilt_tuple 5)) sa_nil_k))) (se_slc_k (svF_k va_qspoilt_tuple 1) (so_some_k (svF_k va_qspoilt_tuple 5)) so_none_k))) ss_nil_k) ss_nil_k) (ss_cons_k (ss_if_k (st_cmp_k (oe_eq hr.units) (svF_k va_qspoilt_tuple 2) se_int_k (nomark _)) (ss_cons_k (ss_set_k (i := 6) nd rfl (lcF (i := 6) va_qspoilt_tuple rfl) (se_call_k (C 11 _ rfl) hr gl_qspoilt_tuple_qtake Z.F11.m Z.F11.F.kp Z.F11.b (sa_cons_k (svF_k va_qspoilt_tuple 0) (sa_cons_k (se_blt_k cb_len gl_qspoilt_tuple_len Z.z_len bt_len (sa_cons_k (svF_k va_qspoilt_tuple 1) sa_nil_k)) sa_nil_k)))) (ss_cons_k (ss_set_k (i := 7) nd rfl (lcF (i := 7) va_qspoilt_tuple rfl) (se_listT_k gl_qspoilt_tuple_list Z.z_list bt_list (sa_cons_k (svF_k va_qspoilt_tuple 1) sa_nil_k))) (ss_cons_k (ss_six2_k rfl (sa_cons_k (se_idx_k (svF_k va_qspoilt_tuple 7) (svF_k va_qspoilt_tuple 6)) (sa_cons_k (se_idx_k (svF_k va_qspoilt_tuple 7) (svF_k va_qspoilt_tuple 5)) sa_nil_k)) (svF_k va_qspoilt_tuple 7) (svF_k va_qspoilt_tuple 5) (svF_k va_qspoilt_tuple 7) (svF_k va_qspoilt_tuple 6) (pg_sub_k (svF_k va_qspoilt_tuple 7) (svF_k va_qspoilt_tuple 5) set_list) (pg_sub_k (svF_k va_qspoilt_tuple 7) (svF_k va_qspoilt_tuple 6) set_list)) (ss_cons_k (ss_ret_k (se_bltT_k cb_tuple gl_qspoilt_tuple_tuple Z.z_tuple bt_tuple (sa_cons_k (svF_k va_qspoilt_tuple 7) sa_nil_k))) ss_nil_k)))) ss_nil_k) (ss_cons_k (ss_ret_k (se_bin_k oe_add (se_bin_k oe_add (se_slc_k (svF_k va_qspoilt_tuple 1) so_none_k (so_some_k (svF_k va_qspoilt_tuple 5))) (se_tup_k (sa_cons_k (svF_k va_qspoilt_tuple 4) sa_nil_k))) (se_slc_k (svF_k va_qspoilt_tuple 1) (so_some_k (se_bin_k oe_add (svF_k va_qspoilt_tuple 5) se_int_k)) so_none_k))) ss_nil_k)))))))))
theorem bd_qspoilt_row (Z : Facts w K mg cl fa fdd) (C : Fns P w K mg base cl fa fdd k) : FnOk P w K mg base (CX1 P w) (k + 1) (fa 22) (fdd 22) ["_law_state", "_law_row"] (spI K cl (callT T (k + 1)) 22) :=
  fn_ok_k (fn := f_qspoilt_row) rfl Z.F22.F sc_qspoilt_row rfl rfl fun cdv A outer s H E hr => have nd := sc_qspoilt_row.nd; have hu1 := hu_of hr; (ss_cons_k (ss_set_k (i := 2) nd rfl (lcF (i := 2) va_qspoilt_row rfl) (se_call_k (C 11 _ rfl) hr gl_qspoilt_row_qtake Z.F11.m Z.F11.F.kp Z.F11.b (sa_cons_k (svF_k va_qspoilt_row 0) (sa_cons_k se_int_k sa_nil_k)))) (ss_cons_k (ss_set_k (i := 3) nd rfl (lcF (i := 3) va_qspoilt_row rfl) (se_call_k (C 11 _ rfl) hr gl_qspoilt_row_qtake Z.F11.m Z.F11.F.kp Z.F11.b (sa_cons_k (svF_k va_qspoilt_row 0) (sa_cons_k (se_blt_k cb_len gl_qspoilt_row_len Z.z_len bt_len (sa_cons_k (svF_k va_qspoilt_row 1) sa_nil_k)) sa_nil_k)))) (ss_cons_k (ss_if_k (st_cmp_k (oe_eq hr.units) (svF_k va_qspoilt_row 2) se_int_k (nomark _)) (ss_cons_k (ss_set_k (i := 4) nd rfl (lcF (i := 4) va_qspoilt_row rfl) (se_idx_k (svF_k va_qspoilt_row 1) se_int_k)) (ss_cons_k (ss_set_k (i := 5) nd rfl (lcF (i := 5) va_qspoilt_row rfl) (se_call_k (C 11 _ rfl) hr gl_qspoilt_row_qtake Z.F11.m Z.F11.F.kp Z.F11.b (sa_cons_k (svF_k va_qspoilt_row 0) (sa_cons_k (se_blt_k cb_len gl_qspoilt_row_len Z.z_len bt_len (sa_cons_k (svF_k va_qspoilt_row 4) sa_nil_k)) sa_nil_k)))) (ss_cons_k (ss_ret_k (se_bin_k oe_add (se_tup_k (sa_cons_k (se_bin_k oe_add (se_bin_k oe_add (se_slc_k (svF_k va_qspoilt_row 4) so_none_k (so_some_k (svF_k va_qspoilt_row 5))) (se_call_k (C 14 _ rfl) hr gl_qspoilt_row_qsome_letter Z.F14.m Z.F14.F.kp Z.F14.b (sa_cons_k (svF_k va_qspoilt_row 0) sa_nil_k))) (se_slc_k (svF_k va_qspoilt_row 4) (so_some_k (se_bin_k oe_add (svF_k va_qspoilt_row 5) (se_idx_k (se_tup_k (sa_cons_k se_int_k (sa_cons_k se_int_k sa_nil_k))) (se_call_k (C 11 _ rfl) hr gl_qspoilt_row_qtake Z.F11.m Z.F11.F.kp Z.F11.b (sa_cons_k (svF_k va_qspoilt_row 0) (sa_cons_k se_int_k sa_nil_k)))))) so_none_k)) sa_nil_k)) (se_slc_k (svF_k va_qspoilt_row 1) (so_some_k se_int_k) so_none_k))) ss_nil_k))) ss_nil_k) (ss_cons_k (ss_if_k (pw_pt_k (sw_and_k (st_cmp_k (oe_eq hr.units) (svF_k va_qspoilt_row 2) se_int_k (nomark _)) (sw_and1_k (st_val_k (se_isi_k (t := .tuple) Z.k_tuple rfl gl_qspoilt_row_isinstance Z.z_isinstance gl_qspoilt_row_tuple Z.z_tuple bt_tuple (se_idx_k (svF_k va_qspoilt_row 1) (svF_k va_qspoilt_row 3))))))) (ss_cons_k (ss_ret_k (se_bin_k oe_add (se_bin_k oe_add (se_slc_k (svF_k va_qspoilt_row 1) so_none_k (so_some_k (svF_k va_qspoilt_row 3))) (se_tup_k (sa_cons_k (se_call_k (C 21 _ rfl) hr gl_qspoilt_row_qspoilt_tuple Z.F21.m Z.F21.F.kp Z.F21.b (sa_cons_k (svF_k va_qspoilt_row 0) (sa_cons_k (se_idx_k (svF_k va_qspoilt_row 1) (svF_k va_qspoilt_row 3)) sa_nil_k))) sa_nil_k))) (se_slc_k (svF_k va_qspoilt_row 1) (so_some_k (se_bin_k oe_add (svF_k va_qspoilt_row 3) se_int_k)) so_none_k))) ss_nil_k) ss_nil_k) (ss_cons_k (ss_if_k (pw_pt_k (sw_and_k (st_cmp_k (oe_eq hr.units) (svF_k va_qspoilt_row 2) se_int_k (nomark _)) (sw_and1_k (st_cmp_k (oe_eq hr.units) (se_idx_k (svF_k va_qspoilt_row 1) se_int_k) se_str_k (nomark _))))) (ss_cons_k (ss_ret_k (se_bin_k oe_add (se_bin_k oe_add (se_slc_k (svF_k va_qspoilt_row 1) so_none_k (so_some_k se_int_k)) (se_tup_k (sa_cons_k (se_idx_k (svF_k va_qspoilt_row 1) se_int_k) sa_nil_k))) (se_slc_k (svF_k va_qspoilt_row 1) (so_some_k se_int_k) so_none_k))) ss_nil_k) ss_nil_k) (ss_cons_k (ss_ret_k (se_call_k (C 21 _ rfl) hr gl_qspoilt_row_qspoilt_tuple Z.F21.m Z.F21.F.kp Z.F21.b (sa_cons_k (svF_k va_qspoilt_row 0) (sa_cons_k (svF_k va_qspoilt_row 1) sa_nil_k)))) ss_nil_k))))))
theorem bd_law (Z : Facts w K mg cl fa fdd) (C : Fns P w K mg base cl fa fdd k) : FnOk P w K mg base (CX1 P w) (k + 1) (fa 23) (fdd 23) ["_law_script"] (spI K cl (callT T (k + 1)) 23) :=
  fn_ok_k (fn := f_law) rfl Z.F23.F sc_law rfl rfl fun cdv A outer s H E hr => have nd := sc_law.nd; have hu1 := hu_of hr; (ss_cons_k (ss_set_k (i := 1) nd rfl (lcF (i := 1) va_law rfl) (se_call_k (C 8 _ rfl) hr gl_law_qfresh Z.F8.m Z.F8.F.kp Z.F8.b (sa_cons_k (svF_k va_law 0) sa_nil_k))) (ss_cons_k (ss_set_k (i := 2) nd rfl (lcF (i := 2) va_law rfl) (se_call_k (C 17 _ rfl) hr gl_law_qsome_cells Z.F17.m Z.F17.F.kp Z.F17.b (sa_cons_k (svF_k va_law 1) (sa_cons_k (se_call_k (C 11 _ rfl) hr gl_law_qtake Z.F11.m Z.F11.F.kp Z.F11.b (sa_cons_k (svF_k va_law 1) (sa_cons_k se_int_k sa_nil_k))) sa_nil_k)))) (ss_cons_k (ss_set_k (i := 3) nd rfl (lcF (i := 3) va_law rfl) (se_call_k (C 16 _ rfl) hr gl_law_qsome_row Z.F16.m Z.F16.F.kp Z.F16.b (sa_cons_k (svF_k va_law 1) (sa_cons_k (svF_k va_law 2) sa_nil_k)))) (ss_cons_k (ss_if_k (st_cmp_k oe_isnot (se_call_k (C 2 _ rfl) hr gl_law_is_row Z.F2.m Z.F2.F.kp Z.F2.b (sa_cons_k (svF_k va_law 3) sa_nil_k)) se_bl_k (nomark _)) (ss_cons_k ss_nope_k ss_nil_k) ss_nil_k) (ss_cons_k (ss_for_k own1 rfl (si_range1_k gl_law_range Z.z_range se_int_k) (sg_name_k (i := 4) nd rfl (lcF (i := 4) va_law rfl)) (ss_cons_k (ss_set_k (i := 5) nd rfl (lcF (i := 5) va_law rfl) (se_call_k (C 22 _ rfl) hr gl_law_qspoilt_row Z.F22.m Z.F22.F.kp Z.F22.b (sa_cons_k (svF_k va_law 1) (sa_cons_k (svF_k va_law 3) sa_nil_k)))) (ss_cons_k (ss_if_k (st_cmp_k (oe_eq hr.units) (se_call_k (C 11 _ rfl) hr gl_law_qtake Z.F11.m Z.F11.F.kp Z.F11.b (sa_cons_k (svF_k va_law 1) (sa_cons_k se_int_k sa_nil_k))) se_int_k (nomark _)) (ss_cons_k (ss_set_k (i := 5) nd rfl (lcF (i := 5) va_law rfl) (se_call_k (C 20 _ rfl) hr gl_law_qstrange Z.F20.m Z.F20.F.kp Z.F20.b (sa_cons_k (svF_k va_law 1) sa_nil_k))) ss_nil_k) ss_nil_k) (ss_cons_k (ss_for_k own1 rfl (si_range1_k gl_law_range Z.z_range se_int_k) (sg_name_k (i := 6) nd rfl (lcF (i := 6) va_law rfl)) (ss_cons_k (ss_set_k (i := 7) nd rfl (lcF (i := 7) va_law rfl) (se_call_k (C 2 _ rfl) hr gl_law_is_row Z.F2.m Z.F2.F.kp Z.F2.b (sa_cons_k (svF_k va_law 5) sa_nil_k))) (ss_cons_k (ss_if_k (pw_pt_k (sw_or_k (st_not_k (st_val_k (se_isi_k (t := .bool) Z.k_bool rfl gl_law_isinstance Z.z_isinstance gl_law_bool Z.z_bool bt_bool (svF_k va_law 7)))) (sw_or1_k (st_cmp_k (oe_ne hr.units) (svF_k va_law 7) (se_call_k (C 19 _ rfl) hr gl_law_qis_row Z.F19.m Z.F19.F.kp Z.F19.b (sa_cons_k (svF_k va_law 5) sa_nil_k)) (nomark _))))) (ss_cons_k ss_nope_k ss_nil_k) ss_nil_k) ss_nil_k))) ss_nil_k)))) (ss_cons_k (ss_ret_k (se_and_k (se_cmp_k oe_is (se_call_k (C 2 _ rfl) hr gl_law_is_row Z.F2.m Z.F2.F.kp Z.F2.b (sa_cons_k (se_bltT_k cb_list gl_law_list Z.z_list bt_list (sa_cons_k (svF_k va_law 3) sa_nil_k)) sa_nil_k)) se_bl_k (nomark _)) (se_one_k (se_cmp_k oe_is (se_call_k (C 2 _ rfl) hr gl_law_is_row Z.F2.m Z.F2.F.kp Z.F2.b (sa_cons_k (svF_k va_law 3) sa_nil_k)) se_bl_k (nomark _))))) ss_nil_k))))))
end
end WK
namespace IC
open PySem
noncomputable def forB (call : Cl) (t : Tg) (b : Css) (xs : List PV) (ρ : Env) (st : Store) : Fl := forL t (fun ρ2 st2 => exs call ρ2 st2 b) xs ρ st
noncomputable def whileB (call : Cl) (c : Ce) (b : Css) (n : Nat) (ρ : Env) (st : Store) : Fl := whileL (fun ρ2 st2 => ev call ρ2 st2 c) (fun ρ2 st2 => exs call ρ2 st2 b) n ρ st
noncomputable def oneB (call : Cl) (ρ0 : Env) (t : Tg) (c e : Ce) (x : PV) (st2 : Store) : R (Option PV) := match bindT t x ρ0 with
  | none => .bad
  | some ρ1 => (ev call ρ1 st2 c).bind fun b st3 => onO (truV st3 b) fun k => cond k ((ev call ρ1 st3 e).bind fun y st4 => .ok (some y) st4) (.ok none st3)
noncomputable def compB (call : Cl) (ρ0 : Env) (t : Tg) (c e : Ce) (xs : List PV) (st : Store) : R (List PV) := compL (oneB call ρ0 t c e) xs st
noncomputable def thenF (f : Fl) (k : Env -> Store -> Fl) : Fl :=
  match f with
  | .nx ρ st => k ρ st
  | f => f
noncomputable def nxO (o : Option Env) (st : Store) : Fl :=
  match o with
  | some ρ => .nx ρ st
  | none => .bad
noncomputable def stO (ρ : Env) (o : Option Store) : Fl :=
  match o with
  | some st => .nx ρ st
  | none => .bad
section
variable {call : Cl} {ρ : Env} {st : Store}
theorem x_for {t : Tg} {it : Cit} {b : Css} : ex call ρ st (.for t it b) = (evi call ρ st it).fl ρ fun xs st1 => forB call t b xs ρ st1 := by rw [ex]; rfl
theorem x_while {c : Ce} {b : Css} : ex call ρ st (.while c b) = whileB call c b 100000 ρ st := by rw [ex]; rfl
theorem v_comp {sl : List (Option Nat)} {t : Tg} {it : Cit} {c e : Ce} : ev call ρ st (.comp sl t it c e) = (evi call ρ st it).bind fun xs st1 => lstR (compB call (sl.map fun o => o.bind fun j => (ρ[j]?).join) t c e xs st1) := by rw [ev]; rfl
theorem forB_nil {t : Tg} {b : Css} : forB call t b [] ρ st = .nx ρ st := by rw [forB, forL]
theorem forB_cons {t : Tg} {b : Css} {x : PV} {xs : List PV} {ρ1 : Env} (h : bindT t x ρ = some ρ1) : forB call t b (x :: xs) ρ st = againF (exs call ρ1 st b) fun ρ2 st2 => forB call t b xs ρ2 st2 := by
  rw [forB, forL, h]; rfl
theorem forB_inv {t : Tg} {b : Css} (P : Nat -> Env -> Store -> Prop) : ∀ (xs : List PV) (i : Nat) (ρ : Env) (st : Store), P i ρ st ->
    (∀ (j : Nat) (x : PV) (ρ : Env) (st : Store), xs[j]? = some x -> P (i + j) ρ st -> ∃ ρ1 ρ2 st2, bindT t x ρ = some ρ1 /\ exs call ρ1 st b = .nx ρ2 st2 /\ P (i + j + 1) ρ2 st2) ->
    ∃ ρ' st', forB call t b xs ρ st = .nx ρ' st' /\ P (i + xs.length) ρ' st'
  | [], i, ρ, st, h, _ => ⟨ρ, st, forB_nil, h⟩
  | x :: xs, i, ρ, st, h, k => by
    obtain ⟨ρ1, ρ2, st2, e1, e2, h2⟩ := k 0 x ρ st rfl h
    obtain ⟨ρ', st', e3, h3⟩ := forB_inv P xs (i + 1) ρ2 st2 h2 fun j y ρ st hy hp => by
      have := k (j + 1) y ρ st (by simpa using hy) (by rw [show i + (j + 1) = i + 1 + j by omega]; exact hp)
      rw [show i + (j + 1) + 1 = i + 1 + j + 1 by omega] at this
      exact this
    refine ⟨ρ', st', ?_, by rw [List.length_cons, show i + (xs.length + 1) = i + 1 + xs.length by omega]; exact h3⟩
    rw [forB_cons e1, e2]
    exact e3
theorem whileB_go {c : Ce} {b : Css} {n : Nat} {x : PV} {st1 st2 : Store} {ρ2 : Env} (h : ev call ρ st c = .ok x st1) (ht : truV st1 x = some true) (hb : exs call ρ st1 b = .nx ρ2 st2) : whileB call c b (n + 1) ρ st = whileB call c b n ρ2 st2 := by
  rw [whileB, whileL, h]
  simp only [R.fl, ht, onF, cond_true, hb, againF]
  rfl
theorem whileB_stop {c : Ce} {b : Css} {n : Nat} {x : PV} {st1 : Store} (h : ev call ρ st c = .ok x st1) (ht : truV st1 x = some false) : whileB call c b (n + 1) ρ st = .nx ρ st1 := by
  rw [whileB, whileL, h]
  simp only [R.fl, ht, onF, cond_false]
theorem compB_nil {ρ0 : Env} {t : Tg} {c e : Ce} : compB call ρ0 t c e [] st = .ok [] st := by rw [compB, compL]
theorem compB_cons {ρ0 : Env} {t : Tg} {c e : Ce} {x : PV} {xs : List PV} : compB call ρ0 t c e (x :: xs) st = (oneB call ρ0 t c e x st).bind fun o st1 => (compB call ρ0 t c e xs st1).bind fun ys st2 => .ok (consO o ys) st2 := by
  rw [compB, compL]; rfl
theorem compB_map {ρ0 : Env} {t : Tg} {c e : Ce} {f : PV -> PV} : ∀ (xs : List PV), (∀ x ∈ xs, oneB call ρ0 t c e x st = .ok (some (f x)) st) -> compB call ρ0 t c e xs st = .ok (xs.map f) st
  | [], _ => compB_nil
  | x :: xs, h => by
    rw [compB_cons, h x List.mem_cons_self]
    simp only [R.bind]
    rw [compB_map xs fun y hy => h y (List.mem_cons_of_mem _ hy)]
    rfl
theorem xs_nil : exs call ρ st .nil = .nx ρ st := by rw [exs]
theorem xs_cons {s : Cs} {ss : Css} : exs call ρ st (.cons s ss) = thenF (ex call ρ st s) fun ρ1 st1 => exs call ρ1 st1 ss := by
  rw [exs]
  cases ex call ρ st s <;> rfl
theorem x_asg {t : Tg} {e : Ce} : ex call ρ st (.asg t e) = (ev call ρ st e).fl ρ fun v st1 => nxO (bindT t v ρ) st1 := by
  rw [ex]
  refine congrArg _ (funext fun v => funext fun st1 => ?_)
  cases bindT t v ρ <;> rfl
theorem x_expr {e : Ce} : ex call ρ st (.expr e) = (ev call ρ st e).fl ρ fun _ st1 => .nx ρ st1 := by rw [ex]
theorem x_ret {e : Ce} : ex call ρ st (.ret e) = (ev call ρ st e).fl ρ fun v st1 => .rt v st1 := by rw [ex]
theorem x_ite {c : Ce} {a b : Css} : ex call ρ st (.ite c a b) = (ev call ρ st c).fl ρ fun x st1 => onF (truV st1 x) fun k => cond k (exs call ρ st1 a) (exs call ρ st1 b) := by rw [ex]
theorem x_raise {c : Nat} {e : Ce} : ex call ρ st (.raise c e) = (ev call ρ st e).fl ρ fun _ st1 => .exc c ρ st1 := by rw [ex]
noncomputable def endF (i : Nat) (f : Fl) : Fl :=
  match f with
  | .nx ρ2 st2 => .nx (ρ2.set i none) st2
  | .rt v st2 => .rt v st2
  | _ => .bad
noncomputable def tryF (cs : List Nat) (i : Nat) (f : Fl) (k : Env -> Store -> Nat -> Fl) : Fl :=
  match f with
  | .exc d ρ1 st1 => if cs.contains d then endF i (k ρ1 st1 d) else .bad
  | f => f
theorem x_try {b h : Css} {cs : List Nat} {i : Nat} : ex call ρ st (.try b cs i h) = tryF cs i (exs call ρ st b) fun ρ1 st1 d => exs call (ρ1.set i (some (.exn d))) st1 h := by
  rw [ex]
  cases exs call ρ st b <;> rfl
theorem x_six {o i e : Ce} : ex call ρ st (.six o i e) = (ev call ρ st e).fl ρ fun v st1 => (ev call ρ st1 o).fl ρ fun x st2 => (ev call ρ st2 i).fl ρ fun y st3 => stO ρ (sixV st3 x y v) := by
  rw [ex]
  refine congrArg _ (funext fun v => funext fun st1 => congrArg _ (funext fun x => funext fun st2 => congrArg _ (funext fun y => funext fun st3 => ?_)))
  cases sixV st3 x y v <;> rfl
theorem x_dput {o i e : Ce} : ex call ρ st (.dput o i e) = (ev call ρ st e).fl ρ fun v st1 => (ev call ρ st1 o).fl ρ fun x st2 => (ev call ρ st2 i).fl ρ fun y st3 => stO ρ (dputV st3 x y v) := by
  rw [ex]
  refine congrArg _ (funext fun v => funext fun st1 => congrArg _ (funext fun x => funext fun st2 => congrArg _ (funext fun y => funext fun st3 => ?_)))
  cases dputV st3 x y v <;> rfl
theorem x_aug {i : Nat} {o : BOp} {e : Ce} {x : PV} (h : ρ[i]? = some (some x)) : ex call ρ st (.aug i o e) = (ev call ρ st e).fl ρ fun y st1 => nxO ((augV o x y).map fun z => ρ.set i (some z)) st1 := by
  rw [ex, h]
  show (ev call ρ st e).fl ρ _ = _
  refine congrArg _ (funext fun y => funext fun st1 => ?_)
  cases augV o x y <;> rfl
end
end IC
namespace WK
open IC PySem
noncomputable def chS (c : Nat) : Str := ⟨#[c]⟩
noncomputable def cellV (c : Nat) (i : Int) : PV := .tup [.str (chS c), .int i]
noncomputable abbrev Mem := Nat -> Int -> Int
noncomputable def upd (M : Mem) (c : Nat) (i v : Int) : Mem := fun d j => if d = c /\ j = i then v else M d j
def Rel (kvs : List (PV × PV)) (M : Mem) : Prop := ∀ c i, (look (cellV c i) kvs).getD (.int 0) = .int (M c i)
noncomputable abbrev Cel := Nat × Int
inductive Rw where
  | mark (d : Int) | ask (x : Cel) | set (t : Cel) (d : Int) | move (t x : Cel) | bare (t x : Cel) | twice (t x : Cel) | half (t x : Cel)
  | sum (t x y : Cel) | less (t x y : Cel) | both (t x y : Cel) | any (t x y : Cel) | odd (t x y : Cel)
theorem set_same {st : Store} {n : Nat} {o : Ob} (h : st[n]? = some o) : st = st.set n o := by
  refine List.ext_getElem? fun i => ?_
  rw [List.getElem?_set]
  split
  · rename_i e
    subst e
    split
    · exact h
    · rename_i z
      rw [List.getElem?_eq_none (by omega)] at h
      cases h
  · rfl
end WK
namespace WK
open IC PySem
theorem shp_int (i : Int) : shp (.int i) = true := rfl
section
variable {st : Store} {k : Bool} {a b c d e : PV} {r : List PV} {i j : Int}
theorem ix0 : idxV st (.tp k (a :: r)) (.int 0) = some a := by simp [idxV, idxI, at?, ixI]
theorem ix1 : idxV st (.tp k (a :: b :: r)) (.int 1) = some b := by
  have : (1 : Int) < (r.length : Int) + 1 + 1 := by omega
  simp [idxV, idxI, at?, ixI, this]
theorem ix2 : idxV st (.tp k (a :: b :: c :: r)) (.int 2) = some c := by
  have : (2 : Int) < (r.length : Int) + 1 + 1 + 1 := by omega
  simp [idxV, idxI, at?, ixI, this]
theorem b_add : binV .add (.int i) (.int j) = some (.int (i + j)) := rfl
theorem b_sub : binV .sub (.int i) (.int j) = some (.int (i - j)) := rfl
theorem b_mul (h : i.natAbs < 18446744073709551616 \/ j.natAbs < 18446744073709551616) : binV .mul (.int i) (.int j) = some (.int (i * j)) := by
  have : CMulB i j = true := by simpa [CMulB] using h
  simp [binV, binI, this]
theorem b_mulL (h : i.natAbs < 18446744073709551616) : binV .mul (.int i) (.int j) = some (.int (i * j)) := b_mul (.inl h)
theorem b_mulR (h : j.natAbs < 18446744073709551616) : binV .mul (.int i) (.int j) = some (.int (i * j)) := b_mul (.inr h)
theorem b_mul2 : binV .mul (.int 2) (.int j) = some (.int (2 * j)) := b_mul (.inl (by decide))
theorem b_div2 : binV .fdiv (.int i) (.int 2) = some (.int (i / 2)) := rfl
theorem b_mod (h : 0 < j) : binV .mod (.int i) (.int j) = some (.int (i % j)) := by simp [binV, binI, h]
theorem toR_some {v : PV} : toR (some v) st = .ok v st := rfl
theorem c_ne : cmpV .ne (.int i) (.int j) = some (.bl (!(i == j))) := by simp [cmpV, shp_int, peq]
theorem c_eq : cmpV .eq (.int i) (.int j) = some (.bl (i == j)) := by simp [cmpV, shp_int, peq]
theorem c_lt : cmpV .lt (.int i) (.int j) = some (.bl (decide (i < j))) := rfl
theorem c_le : cmpV .le (.int i) (.int j) = some (.bl (decide (i <= j))) := rfl
theorem c_gt : cmpV .gt (.int i) (.int j) = some (.bl (decide (j < i))) := rfl
theorem c_ge : cmpV .ge (.int i) (.int j) = some (.bl (decide (j <= i))) := rfl
theorem t_bl {b : Bool} : truV st (.bl b) = some b := rfl
theorem on_t {f : Bool -> Fl} {b : Bool} : onF (some b) f = f b := rfl
theorem ono {α : Type} {f : Bool -> R α} {b : Bool} : onO (some b) f = f b := rfl
theorem stO_some {ρ : IC.Env} : stO ρ (some st) = .nx ρ st := rfl
theorem nxO_some {ρ : IC.Env} : nxO (some ρ) st = .nx ρ st := rfl
theorem fl_ok {α : Type} {a : α} {ρ : IC.Env} {k : α -> Store -> Fl} : (R.ok a st).fl ρ k = k a st := rfl
theorem bd_ok {α β : Type} {a : α} {k : α -> Store -> R β} : (R.ok a st).bind k = k a st := rfl
theorem th_nx {ρ : IC.Env} {k : IC.Env -> Store -> Fl} : thenF (.nx ρ st) k = k ρ st := rfl
theorem th_rt {v : PV} {k : IC.Env -> Store -> Fl} : thenF (.rt v st) k = .rt v st := rfl
theorem fl_exc {α : Type} {c : Nat} {ρ : IC.Env} {k : α -> Store -> Fl} : (R.exc c st : R α).fl ρ k = .exc c ρ st := rfl
theorem bd_exc {α β : Type} {c : Nat} {k : α -> Store -> R β} : (R.exc c st : R α).bind k = .exc c st := rfl
theorem th_exc {c : Nat} {ρ : IC.Env} {k : IC.Env -> Store -> Fl} : thenF (.exc c ρ st) k = .exc c ρ st := rfl
theorem noLocs_ints : ∀ (l : List Int), noLocs (l.map PV.int) = true
  | [] => rfl
  | _ :: l => by simp [noLocs, noLoc, noLocs_ints l]
theorem bT_n {i : Nat} {v : PV} {ρ : IC.Env} : bindT (.n i) v ρ = some (ρ.set i (some v)) := rfl
theorem mget {o k d : PV} : mthV .get st o [k, d] = getV st o k d := rfl
end
end WK
namespace WK
open IC PySem
mutual
noncomputable def tam (d m : Nat) : PV -> Bool
  | .non => true
  | .bl _ => true
  | .int _ => true
  | .str s => s.cps.toList.all (· < 128) && decide (s.cps.toList.length <= m)
  | .tp _ xs => decide (0 < d) && (decide (xs.length <= m) && tams (d - 1) m xs)
  | .lst xs => decide (0 < d) && (decide (xs.length <= m) && tams (d - 1) m xs)
  | _ => false
noncomputable def tams (d m : Nat) : List PV -> Bool
  | [] => true
  | x :: xs => tam d m x && tams d m xs
end
theorem tams_all (d m : Nat) : ∀ xs : List PV, tams d m xs = true ↔ ∀ x ∈ xs, tam d m x = true
  | [] => by simp [tams]
  | x :: xs => by simp [tams, tams_all d m xs]
mutual
theorem tam_noLoc (d m : Nat) : ∀ v : PV, tam d m v = true -> noLoc v = true
  | .non, _ => rfl
  | .bl _, _ => rfl
  | .int _, _ => rfl
  | .str _, _ => rfl
  | .tp _ xs, h => by simp only [tam, Bool.and_eq_true] at h; simp only [noLoc]; exact tams_noLoc (d - 1) m xs h.2.2
  | .lst xs, h => by simp only [tam, Bool.and_eq_true] at h; simp only [noLoc]; exact tams_noLoc (d - 1) m xs h.2.2
  | .loc _, h => by simp [tam] at h
  | .exn _, h => by simp [tam] at h
  | .scr _, h => by simp [tam] at h
theorem tams_noLoc (d m : Nat) : ∀ v : List PV, tams d m v = true -> noLocs v = true
  | [], _ => rfl
  | x :: xs, h => by
    simp only [tams, Bool.and_eq_true] at h
    simp only [noLocs, Bool.and_eq_true]
    exact ⟨tam_noLoc d m x h.1, tams_noLoc d m xs h.2⟩
end
theorem lt128 {s : Str} (h : s.cps.toList.all (· < 128) = true) : s.cps.all (· < 0x110000) = true := by
  rw [<- Array.all_toList]
  rw [List.all_eq_true] at h ⊢
  intro x hx
  have := h x hx
  simp only [decide_eq_true_eq] at this ⊢
  omega
mutual
theorem tam_shd (d m : Nat) : ∀ (v : PV) (n : Nat), tam d m v = true -> d <= n -> shd n v = true
  | .non, n, _, _ => rfl
  | .bl _, n, _, _ => rfl
  | .int _, n, _, _ => rfl
  | .str s, n, h, _ => by simp only [tam, Bool.and_eq_true] at h; exact lt128 h.1
  | .tp _ xs, n, h, l => by
    simp only [tam, Bool.and_eq_true, decide_eq_true_eq] at h
    simp only [shd, Bool.and_eq_true, decide_eq_true_eq]
    exact ⟨by omega, tams_shd (d - 1) m xs (n - 1) h.2.2 (by omega)⟩
  | .lst xs, n, h, l => by
    simp only [tam, Bool.and_eq_true, decide_eq_true_eq] at h
    simp only [shd, Bool.and_eq_true, decide_eq_true_eq]
    exact ⟨by omega, tams_shd (d - 1) m xs (n - 1) h.2.2 (by omega)⟩
  | .loc _, n, h, _ => by simp [tam] at h
  | .exn _, n, h, _ => by simp [tam] at h
  | .scr _, n, h, _ => by simp [tam] at h
theorem tams_shd (d m : Nat) : ∀ (v : List PV) (n : Nat), tams d m v = true -> d <= n -> shds n v = true
  | [], n, _, _ => rfl
  | x :: xs, n, h, l => by
    simp only [tams, Bool.and_eq_true] at h
    simp only [shds, Bool.and_eq_true]
    exact ⟨tam_shd d m x n h.1 l, tams_shd d m xs n h.2 l⟩
end
mutual
theorem tam_le {d m d' m' : Nat} (hd : d <= d') (hm : m <= m') : ∀ v : PV, tam d m v = true -> tam d' m' v = true
  | .non, _ => rfl
  | .bl _, _ => rfl
  | .int _, _ => rfl
  | .str s, h => by simp only [tam, Bool.and_eq_true, decide_eq_true_eq] at h ⊢; exact ⟨h.1, by omega⟩
  | .tp _ xs, h => by
    simp only [tam, Bool.and_eq_true, decide_eq_true_eq] at h ⊢
    exact ⟨by omega, by omega, tams_le (by omega) hm xs h.2.2⟩
  | .lst xs, h => by
    simp only [tam, Bool.and_eq_true, decide_eq_true_eq] at h ⊢
    exact ⟨by omega, by omega, tams_le (by omega) hm xs h.2.2⟩
  | .loc _, h => by simp [tam] at h
  | .exn _, h => by simp [tam] at h
  | .scr _, h => by simp [tam] at h
theorem tams_le {d m d' m' : Nat} (hd : d <= d') (hm : m <= m') : ∀ v : List PV, tams d m v = true -> tams d' m' v = true
  | [], _ => rfl
  | x :: xs, h => by
    simp only [tams, Bool.and_eq_true] at h ⊢
    exact ⟨tam_le hd hm x h.1, tams_le hd hm xs h.2⟩
end
theorem tam_tp {d m : Nat} {k : Bool} {xs : List PV} : tam d m (.tp k xs) = true ↔ 0 < d /\ xs.length <= m /\ ∀ x ∈ xs, tam (d - 1) m x = true := by
  simp only [tam, Bool.and_eq_true, decide_eq_true_eq, tams_all]
theorem tam_lst {d m : Nat} {xs : List PV} : tam d m (.lst xs) = true ↔ 0 < d /\ xs.length <= m /\ ∀ x ∈ xs, tam (d - 1) m x = true := by
  simp only [tam, Bool.and_eq_true, decide_eq_true_eq, tams_all]
theorem tam_shp {d m : Nat} {v : PV} (h : tam d m v = true) (hd : d <= 60) : shp v = true := tam_shd d m v 60 h hd
theorem allB_map (f : PV -> Bool) : ∀ xs : List PV, allB (xs.map fun x => .bl (f x)) = some (xs.all f)
  | [] => rfl
  | x :: xs => by simp [allB, allB_map f xs]
theorem lstR_le (ys : List PV) (h : ys.length <= 1000000) (st : Store) : lstR (.ok ys st) = .ok (.lst ys) st := by simp [lstR, h]
theorem all_lst (f : PV -> Bool) (xs : List PV) (st : Store) : bltV .all st [.lst (xs.map fun x => .bl (f x))] = some (.bl (xs.all f)) := by
  simp [bltV, lstOf, allB_map]
theorem rng1_nat (n : Nat) (h : n < 1000) : rng1 (.int (n : Int)) = some (rangeL n 0 1) := by
  simp [rng1]; omega
theorem nat_int {z : Int} (h : 0 <= z) : ∃ n : Nat, z = n := ⟨z.toNat, by omega⟩
noncomputable def outP (st : Store) (f : Fl) : R PV :=
  match f with
  | .rt v _ => if noLoc v then .ok v st else .bad
  | .nx _ _ => .ok .non st
  | .exc c _ _ => .exc c st
  | _ => .bad
theorem call_pure {T : Nat -> Option IC.Fn} {k f : Nat} {fn : IC.Fn} {args : List PV} {st : Store} (hT : T f = some fn) (hp : fn.pure = true) (hl : args.length = fn.np) (hn : noLocs args = true) :
    callT T (k + 1) f args st = outP st (exs (callT T k) (args.map some ++ List.replicate (fn.ns - fn.np) none) [] fn.body) := by
  rw [callT, hT]
  dsimp only
  rw [if_pos hl, if_pos hp, if_pos hn]
  rfl
noncomputable def outI (f : Fl) : R PV :=
  match f with
  | .rt v st1 => .ok v st1
  | .nx _ st1 => .ok .non st1
  | .exc c _ st1 => .exc c st1
  | _ => .bad
theorem call_imp {T : Nat -> Option IC.Fn} {k f : Nat} {fn : IC.Fn} {args : List PV} {st : Store} (hT : T f = some fn) (hp : fn.pure = false) (hl : args.length = fn.np) :
    callT T (k + 1) f args st = outI (exs (callT T k) (args.map some ++ List.replicate (fn.ns - fn.np) none) st fn.body) := by
  rw [callT, hT]
  dsimp only
  rw [if_pos hl, hp, if_neg (by simp)]
  rfl
theorem out_rt {st : Store} {v : PV} : outI (.rt v st) = .ok v st := rfl
theorem out_bl {st s : Store} {b : Bool} : outP st (.rt (.bl b) s) = .ok (.bl b) st := rfl
theorem cut_mem {α : Type} {xs : List α} {lo hi : Option Int} {x : α} (h : x ∈ cut xs lo hi) : x ∈ xs := List.mem_of_mem_drop (List.mem_of_mem_take h)
theorem cut_len {α : Type} (xs : List α) (lo hi : Option Int) : (cut xs lo hi).length <= xs.length := by
  unfold cut
  rw [List.length_take, List.length_drop]
  omega
theorem slc_tp {k : Bool} {xs : List PV} (a b : Option Int) : ∃ j ys, slcO (.tp k xs) a b = some (.tp j ys) /\ ys.length <= xs.length /\ ∀ y ∈ ys, y ∈ xs := by
  simp only [slcO]
  split
  · exact ⟨k, xs, rfl, Nat.le_refl _, fun _ h => h⟩
  · exact ⟨false, _, rfl, cut_len xs a b, fun _ h => cut_mem h⟩
theorem cat_tp {k j : Bool} {a b : List PV} (h : a.length + b.length <= sizeMax) : ∃ i ys, binV .add (.tp k a) (.tp j b) = some (.tp i ys) /\ ys.length = a.length + b.length /\ ∀ y ∈ ys, y ∈ a \/ y ∈ b := by
  simp only [binV, if_pos h, catT]
  cases a with
  | nil => exact ⟨j, b, rfl, by simp, fun y h => .inr h⟩
  | cons x a =>
    cases b with
    | nil => exact ⟨k, x :: a, rfl, by simp, fun y h => .inl h⟩
    | cons z b => exact ⟨false, _, rfl, by rw [List.length_append], fun y h => List.mem_append.1 h⟩
end WK
namespace WK
open IC PySem
noncomputable def primes : PV := .tup [.int 2147483647, .int 2147483629, .int 2147483587, .int 2147483579, .int 2147483563]
noncomputable def mixB : Css := match f_qmixed.body with
  | .cons _ (.cons _ (.cons (.for _ _ b) _)) => b
  | _ => .nil
theorem mix_one {c : Cl} {s num g p : Int} {i : Nat} {u5 u6 u7 : Option PV} (hg : ∀ st, idxV st (.tup [.int 11, .int 101, .int 1009, .int 10007, .int 100003]) (.int i) = some (.int g)) (hi : i < 5) (hp : 0 < p) (hp2 : p < 18446744073709551616) :
    ∃ num' v5 v6 v7, exs c [some (.int s), some primes, some (.int num), some (.int i), some (.int p), u5, u6, u7] [] mixB = .nx [some (.int s), some primes, some (.int num'), some (.int i), some (.int p), v5, v6, v7] [] := by
  have h1 : ∀ z : Int, binV .mul (.int z) (.int (48271 + 2 * (i : Int))) = some (.int (z * (48271 + 2 * (i : Int)))) := fun z => b_mulR (by omega)
  have h2 : ∀ z y : Int, binV .mul (.int z) (.int (y % p)) = some (.int (z * (y % p))) := fun z y => b_mulR (by
    have a := Int.emod_nonneg y (show p ≠ 0 by omega)
    have b := Int.emod_lt_of_pos y hp
    omega)
  have h3 : ∀ z : Int, binV .mul (.int z) (.int p) = some (.int (z * p)) := fun z => b_mulR (by omega)
  simp only [mixB, f_qmixed, List.length_cons, List.length_nil, Nat.zero_add, Nat.reduceAdd, if_true, xs_cons, xs_nil, x_asg, ev.eq_1, ev.eq_2, ev.eq_3, ev.eq_11, ev.eq_16, evs, List.getElem?_cons_zero, List.getElem?_cons_succ, bd_ok, fl_ok, toR_some, bT_n, nxO_some, th_nx, List.set_cons_zero, List.set_cons_succ, sizeMax, Nat.reduceLeDiff, b_add, b_mul2, hg, h1, h2, h3, b_mod hp]
  exact ⟨_, _, _, _, rfl⟩
theorem mix_step {c : Cl} {s num : Int} {u5 u6 u7 : Option PV} (i : Nat) (p : Int) (h : (i, p) ∈ [(0, (2147483647 : Int)), (1, 2147483629), (2, 2147483587), (3, 2147483579), (4, 2147483563)]) :
    ∃ num' v5 v6 v7, exs c [some (.int s), some primes, some (.int num), some (.int i), some (.int p), u5, u6, u7] [] mixB = .nx [some (.int s), some primes, some (.int num'), some (.int i), some (.int p), v5, v6, v7] [] := by
  simp only [List.mem_cons, Prod.mk.injEq, List.not_mem_nil, or_false] at h
  rcases h with ⟨rfl, rfl⟩ | ⟨rfl, rfl⟩ | ⟨rfl, rfl⟩ | ⟨rfl, rfl⟩ | ⟨rfl, rfl⟩
  · exact mix_one (fun _ => rfl) (by decide) (by decide) (by decide)
  · exact mix_one (fun _ => rfl) (by decide) (by decide) (by decide)
  · exact mix_one (fun _ => rfl) (by decide) (by decide) (by decide)
  · exact mix_one (fun _ => rfl) (by decide) (by decide) (by decide)
  · exact mix_one (fun _ => rfl) (by decide) (by decide) (by decide)
end WK
namespace WK
open IC PySem
noncomputable def mixL : List PV := [.tup [.int 0, .int 2147483647], .tup [.int 1, .int 2147483629], .tup [.int 2, .int 2147483587], .tup [.int 3, .int 2147483579], .tup [.int 4, .int 2147483563]]
theorem mixed (k : Nat) (s : Int) (st : Store) : ∃ num, callT T (k + 1) i_qmixed [.int s] st = .ok (.int num) st := by
  obtain ⟨ρ', st', h, num, a, b, c, d, e, e1, e2⟩ := forB_inv (call := callT T k) (t := .t [3, 4]) (b := mixB) (fun _ ρ st => ∃ num a b c d e, ρ = [some (.int s), some primes, some (.int num), a, b, c, d, e] /\ st = []) mixL 0 [some (.int s), some primes, some (.int 0), none, none, none, none, none] [] ⟨_, _, _, _, _, _, rfl, rfl⟩ (by
    rintro j x ρ st hx ⟨num, a, b, c, d, e, rfl, rfl⟩
    have hx := List.mem_of_getElem? hx
    have hx : ∃ i p, x = .tup [.int ((i : Nat) : Int), .int p] /\ (i, p) ∈ [(0, (2147483647 : Int)), (1, 2147483629), (2, 2147483587), (3, 2147483579), (4, 2147483563)] := by
      simp only [mixL, List.mem_cons, List.not_mem_nil, or_false] at hx
      rcases hx with rfl | rfl | rfl | rfl | rfl
      · exact ⟨0, _, rfl, by simp⟩
      · exact ⟨1, _, rfl, by simp⟩
      · exact ⟨2, _, rfl, by simp⟩
      · exact ⟨3, _, rfl, by simp⟩
      · exact ⟨4, _, rfl, by simp⟩
    obtain ⟨i, p, rfl, hm⟩ := hx
    obtain ⟨num', v5, v6, v7, hh⟩ := mix_step (c := callT T k) (s := s) (num := num) (u5 := c) (u6 := d) (u7 := e) i p hm
    exact ⟨_, _, _, rfl, hh, _, _, _, _, _, _, rfl, rfl⟩)
  subst e1 e2
  refine ⟨num, ?_⟩
  rw [callT]
  have hb : f_qmixed.body = .cons (.asg (.n 1) (.tup (.cons (.cst (.int 2147483647)) (.cons (.cst (.int 2147483629)) (.cons (.cst (.int 2147483587)) (.cons (.cst (.int 2147483579)) (.cons (.cst (.int 2147483563)) .nil))))))) (.cons (.asg (.n 2) (.cst (.int 0))) (.cons (.for (.t [3, 4]) (.enum (.var 1)) mixB) (.cons (.ret (.var 2)) .nil))) := rfl
  have hT : T i_qmixed = some ⟨1, 8, true, f_qmixed.body⟩ := rfl
  have hp : PV.tup [.int 2147483647, .int 2147483629, .int 2147483587, .int 2147483579, .int 2147483563] = primes := rfl
  rw [hT, hb]
  have h5 : ev (callT T k) [some (.int s), none, none, none, none, none, none, none] [] (.tup (.cons (.cst (.int 2147483647)) (.cons (.cst (.int 2147483629)) (.cons (.cst (.int 2147483587)) (.cons (.cst (.int 2147483579)) (.cons (.cst (.int 2147483563)) .nil)))))) = .ok primes [] := by
    simp [ev.eq_1, ev.eq_11, evs, R.bind, sizeMax, primes]
  have he : evi (callT T k) [some (.int s), some primes, some (.int 0), none, none, none, none, none] [] (.enum (.var 1)) = .ok mixL [] := by
    simp [evi, ev.eq_2, R.bind, primes, pairsUp, mixL]
  simp only [List.length_cons, List.length_nil, if_true, noLocs, noLoc, Bool.and_self, List.map_cons, List.map_nil, Nat.reduceSub, List.replicate, List.cons_append, List.nil_append, xs_cons, xs_nil, x_asg, x_for, x_ret, h5, R.fl, bindT, nxO, thenF, List.set_cons_zero, List.set_cons_succ, ev.eq_1, he, h, ev.eq_2, List.getElem?_cons_zero, List.getElem?_cons_succ]
end WK
namespace WK
open IC PySem
theorem rdS {st : Store} {n : Nat} {o x : Ob} (h : st[n]? = some o) : (st.set n x)[n]? = some x := by
  have : n < st.length := by
    rcases Nat.lt_or_ge n st.length with h1 | h1
    · exact h1
    · rw [List.getElem?_eq_none h1] at h; cases h
  rw [List.getElem?_set_self this]
theorem fill (k n : Nat) (ns : List Int) (hns : ns.length <= 1000) (a p : Int) (ha : 0 <= a) (f : Bool) (st : Store) (h : st[n]? = some (.lst [.lst (ns.map .int), .int a, .int p, .bl f])) :
    ∃ p' f', callT T (k + 2) i_qfill [.loc n] st = .ok .non (st.set n (.lst [.lst (ns.map .int), .int (a + 1), .int p', .bl f'])) := by
  rw [callT, show T i_qfill = some f_qfill from rfl]
  by_cases hn : ns = []
  · subst hn
    obtain ⟨q, hq⟩ := mixed k (31 * a + 7) (st.set n (.lst [.lst [], .int (a + 1), .int p, .bl true]))
    have h' : st[n]? = some (.lst [.lst [], .int a, .int p, .bl f]) := h
    refine ⟨q, true, ?_⟩
    simp only [f_qfill, List.length_cons, List.length_nil, if_true, List.map_cons, List.map_nil, Nat.reduceSub, List.replicate, List.cons_append, List.nil_append, xs_cons, xs_nil, x_asg, x_six, x_ite, thenF, nxO, stO, ev.eq_1, ev.eq_2, ev.eq_3, ev.eq_7, ev.eq_8, ev.eq_11, ev.eq_16, ev.eq_18, ev.eq_19, evs, R.fl, R.bind, bindT, List.set_cons_zero, List.set_cons_succ, List.getElem?_cons_zero, List.getElem?_cons_succ, h, rdS h, idxV, idxI, at?, ixI, sizeMax, binV, binI, CMulB, toR, sixV, bltV, lenV, seqOf, cmpV, cmpI, onF, onBl, truV, ha, decide_true, cond_true]
    simp [ha, h', rdS h', hq]
  · have h0 : 0 < ns.length := List.length_pos_iff.2 hn
    have h1 := Int.emod_nonneg a (show (ns.length : Int) ≠ 0 by omega)
    have h2 := Int.emod_lt_of_pos a (show (0 : Int) < ns.length by omega)
    have h3 : (a % (ns.length : Int)).toNat < ns.length := by omega
    obtain ⟨v, hv⟩ : ∃ v, ns[(a % (ns.length : Int)).toNat]? = some v := ⟨_, List.getElem?_eq_getElem h3⟩
    have hw : ns[(a % (ns.length : Int)).toNat]'h3 = v := by rw [List.getElem?_eq_getElem h3] at hv; exact Option.some.inj hv
    have h4 : (ns.length : Int) < 10000000000000000000000000000000000000000000000000000000000000000000000 := by omega
    have h5 : (0 : Int) < ns.length := by omega
    by_cases hf : (ns.length : Int) <= a \/ 104729 * (a / (ns.length : Int)) + v < 1000000000000000000
    · obtain ⟨q, hq⟩ := mixed k (104729 * (a / (ns.length : Int)) + v) (st.set n (.lst [.lst (ns.map .int), .int (a + 1), .int p, .bl true]))
      refine ⟨q, true, ?_⟩
      rcases Classical.em ((ns.length : Int) <= a) with hg | hg
      · simp only [f_qfill, List.length_cons, List.length_nil, if_true, List.map_cons, List.map_nil, Nat.reduceSub, List.replicate, List.cons_append, List.nil_append, xs_cons, xs_nil, x_asg, x_six, x_ite, thenF, nxO, stO, ev.eq_1, ev.eq_2, ev.eq_3, ev.eq_7, ev.eq_8, ev.eq_11, ev.eq_16, ev.eq_18, ev.eq_19, evs, R.fl, R.bind, bindT, List.set_cons_zero, List.set_cons_succ, List.getElem?_cons_zero, List.getElem?_cons_succ, h, rdS h, idxV, idxI, at?, ixI, sizeMax, binV, binI, CMulB, toR, sixV, bltV, lenV, seqOf, cmpV, cmpI, onF, onBl, truV, List.length_map, h5, h1, h2, h4, hg, and_self, decide_true, cond_true, List.getElem?_map, hv, Option.bind_some, Option.map_some]
        simp [h, rdS h, hq, h0, h1, h2, h4, hv, hw, hg]
      · have hf := hf.resolve_left hg
        simp only [f_qfill, List.length_cons, List.length_nil, if_true, List.map_cons, List.map_nil, Nat.reduceSub, List.replicate, List.cons_append, List.nil_append, xs_cons, xs_nil, x_asg, x_six, x_ite, thenF, nxO, stO, ev.eq_1, ev.eq_2, ev.eq_3, ev.eq_7, ev.eq_8, ev.eq_11, ev.eq_16, ev.eq_18, ev.eq_19, evs, R.fl, R.bind, bindT, List.set_cons_zero, List.set_cons_succ, List.getElem?_cons_zero, List.getElem?_cons_succ, h, rdS h, idxV, idxI, at?, ixI, sizeMax, binV, binI, CMulB, toR, sixV, bltV, lenV, seqOf, cmpV, cmpI, onF, onBl, truV, List.length_map, h5, h1, h2, h4, hg, hf, and_self, decide_true, cond_true, List.getElem?_map, hv, Option.bind_some, Option.map_some]
        simp [h, rdS h, hq, h0, h1, h2, h4, hv, hw, hg, hf]
    · have hg : ¬ (ns.length : Int) <= a := fun z => hf (.inl z)
      have hf : ¬ 104729 * (a / (ns.length : Int)) + v < 1000000000000000000 := fun z => hf (.inr z)
      refine ⟨104729 * (a / (ns.length : Int)) + v - 1000000000000000000, false, ?_⟩
      simp only [f_qfill, List.length_cons, List.length_nil, if_true, List.map_cons, List.map_nil, Nat.reduceSub, List.replicate, List.cons_append, List.nil_append, xs_cons, xs_nil, x_asg, x_six, x_ite, thenF, nxO, stO, ev.eq_1, ev.eq_2, ev.eq_3, ev.eq_7, ev.eq_8, ev.eq_11, ev.eq_16, ev.eq_18, ev.eq_19, evs, R.fl, R.bind, bindT, List.set_cons_zero, List.set_cons_succ, List.getElem?_cons_zero, List.getElem?_cons_succ, h, rdS h, idxV, idxI, at?, ixI, sizeMax, binV, binI, CMulB, toR, sixV, bltV, lenV, seqOf, cmpV, cmpI, onF, onBl, truV, List.length_map, h5, h1, h2, h4, hg, hf, and_self, decide_true, cond_true, List.getElem?_map, hv, Option.bind_some, Option.map_some]
      simp [h, rdS h, h0, h1, h2, h4, hv, hw, hg, hf]
end WK
namespace WK
open IC PySem
noncomputable def takeC : Ce := match f_qtake.body with
  | .cons _ (.cons (.while c _) _) => c
  | _ => .nope
noncomputable def takeB : Css := match f_qtake.body with
  | .cons _ (.cons (.while _ b) _) => b
  | _ => .nil
theorem take_cond {c : Cl} {n : Nat} {ns : List Int} {a p m t : Int} {f : Bool} {u : Option PV} {st : Store} (h : st[n]? = some (.lst [.lst (ns.map .int), .int a, .int p, .bl f])) :
    ∃ B, ev c [some (.loc n), some (.int m), some (.int t), u] st takeC = .ok (.bl B) st /\ (B = true -> t < 64) := by
  by_cases h1 : t < 64
  · by_cases h2 : p = 0
    · refine ⟨true, ?_, fun _ => h1⟩
      simp only [takeC, f_qtake, ev.eq_1, ev.eq_2, ev.eq_3, ev.eq_6, ev.eq_7, ev.eq_8, ev.eq_16, R.bind, List.getElem?_cons_zero, List.getElem?_cons_succ, h, idxV, idxI, at?, ixI, binV, binI, CMulB, toR, cmpV, cmpI, onBl]
      simp [h1, h2, shp_int, peq]
    · have h2 : (p == 0) = false := by simp [h2]
      cases f
      · refine ⟨false, ?_, fun _ => h1⟩
        simp only [takeC, f_qtake, ev.eq_1, ev.eq_2, ev.eq_3, ev.eq_6, ev.eq_7, ev.eq_8, ev.eq_16, R.bind, List.getElem?_cons_zero, List.getElem?_cons_succ, h, idxV, idxI, at?, ixI, binV, binI, CMulB, toR, cmpV, cmpI, onBl]
        simp [h, h1, h2, shp_int, peq]
      · refine ⟨decide (p < m * 4096), ?_, fun _ => h1⟩
        simp only [takeC, f_qtake, ev.eq_1, ev.eq_2, ev.eq_3, ev.eq_6, ev.eq_7, ev.eq_8, ev.eq_16, R.bind, List.getElem?_cons_zero, List.getElem?_cons_succ, h, idxV, idxI, at?, ixI, binV, binI, CMulB, toR, cmpV, cmpI, onBl]
        simp [h, h1, h2, shp_int, peq]
  · refine ⟨false, ?_, fun z => by cases z⟩
    simp only [takeC, f_qtake, ev.eq_1, ev.eq_2, ev.eq_3, ev.eq_6, ev.eq_7, ev.eq_8, ev.eq_16, R.bind, List.getElem?_cons_zero, List.getElem?_cons_succ, h, idxV, idxI, at?, ixI, binV, binI, CMulB, toR, cmpV, cmpI, onBl]
    simp [h1]
theorem take_body (k : Nat) {n : Nat} {ns : List Int} (hns : ns.length <= 1000) {a p m t : Int} (ha : 0 <= a) {f : Bool} {u : Option PV} {st : Store} (h : st[n]? = some (.lst [.lst (ns.map .int), .int a, .int p, .bl f])) :
    ∃ p' f', exs (callT T (k + 2)) [some (.loc n), some (.int m), some (.int t), u] st takeB = .nx [some (.loc n), some (.int m), some (.int (t + 1)), u] (st.set n (.lst [.lst (ns.map .int), .int (a + 1), .int p', .bl f'])) := by
  obtain ⟨q, g, hq⟩ := fill k n ns hns a p ha f st h
  have hm : (1 + q % 4093).natAbs < 18446744073709551616 := by omega
  have hau : ∀ st, ex (callT T (k + 2)) [some (.loc n), some (.int m), some (.int t), u] st (.aug 2 .add (.cst (.int 1))) = .nx [some (.loc n), some (.int m), some (.int (t + 1)), u] st := fun st => by
    rw [x_aug (x := .int t) rfl]
    simp [ev.eq_1, R.fl, augV, binV, binI, nxO]
  cases g
  · refine ⟨q, false, ?_⟩
    simp only [takeB, f_qtake, xs_cons, xs_nil, x_expr, x_ite, x_six, hau, thenF, nxO, ev.eq_1, ev.eq_2, ev.eq_3, ev.eq_6, ev.eq_8, ev.eq_16, ev.eq_18, evs, R.fl, R.bind, hq, augV, binV, binI, Option.map_some, List.set_cons_zero, List.set_cons_succ, List.getElem?_cons_zero, List.getElem?_cons_succ, rdS h, idxV, idxI, at?, ixI, CMulB, toR, cmpV, cmpI, onBl, onF, truV]
    simp [rdS h]
  · by_cases hl : q < m * 4096
    · refine ⟨q + m * 4096 * (1 + q % 4093), true, ?_⟩
      simp only [takeB, f_qtake, xs_cons, xs_nil, x_expr, x_ite, x_six, hau, thenF, nxO, ev.eq_1, ev.eq_2, ev.eq_3, ev.eq_6, ev.eq_8, ev.eq_16, ev.eq_18, evs, R.fl, R.bind, hq, augV, binV, binI, Option.map_some, List.set_cons_zero, List.set_cons_succ, List.getElem?_cons_zero, List.getElem?_cons_succ, rdS h, idxV, idxI, at?, ixI, CMulB, toR, cmpV, cmpI, onBl, onF, truV, stO, sixV]
      simp [rdS h, hl, hm]
    · refine ⟨q, true, ?_⟩
      simp only [takeB, f_qtake, xs_cons, xs_nil, x_expr, x_ite, x_six, hau, thenF, nxO, ev.eq_1, ev.eq_2, ev.eq_3, ev.eq_6, ev.eq_8, ev.eq_16, ev.eq_18, evs, R.fl, R.bind, hq, augV, binV, binI, Option.map_some, List.set_cons_zero, List.set_cons_succ, List.getElem?_cons_zero, List.getElem?_cons_succ, rdS h, idxV, idxI, at?, ixI, CMulB, toR, cmpV, cmpI, onBl, onF, truV]
      simp [rdS h, hl]
theorem take_loop (k : Nat) {n : Nat} {ns : List Int} (hns : ns.length <= 1000) {m : Int} {u : Option PV} : ∀ (r N : Nat) (t a p : Int) (f : Bool) (st : Store), r <= N -> 64 - t <= r -> 0 <= a -> st[n]? = some (.lst [.lst (ns.map .int), .int a, .int p, .bl f]) ->
    ∃ t' a' p' f', 0 <= a' /\ whileB (callT T (k + 2)) takeC takeB (N + 1) [some (.loc n), some (.int m), some (.int t), u] st = .nx [some (.loc n), some (.int m), some (.int t'), u] (st.set n (.lst [.lst (ns.map .int), .int a', .int p', .bl f']))
  | r, N, t, a, p, f, st, hN, ht, ha, h => by
    obtain ⟨B, hB, hb⟩ := take_cond (c := callT T (k + 2)) (m := m) (t := t) (u := u) h
    have hs : st.set n (.lst [.lst (ns.map .int), .int a, .int p, .bl f]) = st := by
      refine List.ext_getElem? fun i => ?_
      rw [List.getElem?_set]
      split
      · rename_i e
        subst e
        split
        · exact h.symm
        · rename_i z
          rw [List.getElem?_eq_none (by omega)] at h
          cases h
      · rfl
    cases B with
    | false => exact ⟨t, a, p, f, ha, by rw [whileB_stop hB rfl, hs]⟩
    | true =>
      have h64 := hb rfl
      match r, N with
      | 0, _ => exact absurd ht (by omega)
      | r + 1, N + 1 =>
        obtain ⟨p1, f1, hx⟩ := take_body k hns (m := m) (t := t) ha (u := u) h
        obtain ⟨t', a', p', f', h0, h2⟩ := take_loop k hns (m := m) (u := u) r N (t + 1) (a + 1) p1 f1 _ (by omega) (by omega) (by omega) (rdS h)
        refine ⟨t', a', p', f', h0, ?_⟩
        rw [whileB_go hB rfl hx, h2, List.set_set]
theorem take (k n : Nat) (ns : List Int) (hns : ns.length <= 1000) (a p m : Int) (ha : 0 <= a) (hm : 0 < m) (hm2 : m < 10000000000000000000000000000000000000000000000000000000000000000000000) (f : Bool) (st : Store) (h : st[n]? = some (.lst [.lst (ns.map .int), .int a, .int p, .bl f])) :
    ∃ d a' p' f', 0 <= d /\ d < m /\ 0 <= a' /\ callT T (k + 3) i_qtake [.loc n, .int m] st = .ok (.int d) (st.set n (.lst [.lst (ns.map .int), .int a', .int p', .bl f'])) := by
  obtain ⟨t', a', p', f', h0, h2⟩ := take_loop k hns (m := m) (u := none) 64 99999 0 a p f st (by omega) (by omega) ha h
  refine ⟨p' % m, a', p' / m, f', Int.emod_nonneg _ (by omega), Int.emod_lt_of_pos _ hm, h0, ?_⟩
  have hb : f_qtake.body = .cons (.asg (.n 2) (.cst (.int 0))) (.cons (.while takeC takeB) (.cons (.asg (.n 3) (.bin .mod (.idx (.var 0) (.cst (.int 2))) (.var 1))) (.cons (.six (.var 0) (.cst (.int 2)) (.bin .fdiv (.idx (.var 0) (.cst (.int 2))) (.var 1))) (.cons (.ret (.var 3)) .nil)))) := rfl
  have hT : T i_qtake = some ⟨2, 4, false, f_qtake.body⟩ := rfl
  rw [callT, hT, hb]
  simp only [List.length_cons, List.length_nil, if_true, List.map_cons, List.map_nil, Nat.reduceSub, List.replicate, List.cons_append, List.nil_append, xs_cons, xs_nil, x_asg, x_while, x_six, x_ret, thenF, nxO, stO, ev.eq_1, ev.eq_2, ev.eq_3, ev.eq_16, R.fl, R.bind, bindT, List.set_cons_zero, List.set_cons_succ, List.getElem?_cons_zero, List.getElem?_cons_succ, h2, rdS h, idxV, idxI, at?, ixI, binV, binI, hm, hm2, and_self, toR, sixV]
  simp [rdS h, hm, hm2]
end WK
namespace WK
open IC PySem
def Drw (ns : List Int) (n : Nat) (st : Store) : Prop := ∃ a p f, 0 <= a /\ st[n]? = some (.lst [.lst (ns.map .int), .int a, .int p, .bl f])
def Onl (ns : List Int) (n : Nat) (st st' : Store) : Prop := ∃ a p f, 0 <= a /\ st' = st.set n (.lst [.lst (ns.map .int), .int a, .int p, .bl f])
theorem Onl.drw {ns : List Int} {n : Nat} {st st' : Store} (h : Drw ns n st) (o : Onl ns n st st') : Drw ns n st' := by
  obtain ⟨a, p, f, ha, h⟩ := h
  obtain ⟨b, q, g, hb, rfl⟩ := o
  exact ⟨b, q, g, hb, rdS h⟩
theorem Onl.trans {ns : List Int} {n : Nat} {st st1 st2 : Store} (o : Onl ns n st st1) (o2 : Onl ns n st1 st2) : Onl ns n st st2 := by
  obtain ⟨b, q, g, hb, rfl⟩ := o
  obtain ⟨c, r, j, hc, rfl⟩ := o2
  exact ⟨c, r, j, hc, by rw [List.set_set]⟩
theorem takeD (k : Nat) {n : Nat} {ns : List Int} (hns : ns.length <= 1000) {m : Int} (hm : 0 < m) (hm2 : m < 10000000000000000000000000000000000000000000000000000000000000000000000) {st : Store} (h : Drw ns n st) :
    ∃ d st', 0 <= d /\ d < m /\ Onl ns n st st' /\ callT T (k + 3) i_qtake [.loc n, .int m] st = .ok (.int d) st' := by
  obtain ⟨a, p, f, ha, h⟩ := h
  obtain ⟨d, a', p', f', h1, h2, h3, h4⟩ := take k n ns hns a p m ha hm hm2 f st h
  exact ⟨d, _, h1, h2, ⟨_, _, _, h3, rfl⟩, h4⟩
theorem fresh (k : Nat) (ns : List Int) (h : ns.length <= 63) (st : Store) : ∃ v, callT T (k + 1) i_qfresh [.scr (ns.map .int)] st = .ok (.loc st.length) (st ++ [v]) /\ v = .lst [.lst (ns.map .int), .int 0, .int 0, .bl false] := by
  have hT : T i_qfresh = some f_qfresh := rfl
  refine ⟨_, ?_, rfl⟩
  rw [callT, hT]
  simp only [f_qfresh, List.length_cons, List.length_nil, if_true, List.map_cons, List.map_nil, Nat.reduceSub, List.replicate, List.cons_append, List.nil_append, xs_cons, xs_nil, x_ret, thenF, ev, evs, R.fl, R.bind, List.getElem?_cons_zero, toR]
  have hc : slcV (.scr (ns.map PV.int)) none (.int 63) = some (.lst (ns.map .int)) := by
    have hk : clampI ns.length 63 = ns.length := by
      show min 63 ns.length = ns.length
      omega
    simp [slcV, optI, slcO, cut, loOf, hiOf, hk]
    try rw [<- List.length_map (f := PV.int), List.take_length]
  simp [optI, onP, hc, sizeMax]
theorem Drw.refl {ns : List Int} {n : Nat} {st : Store} (h : Drw ns n st) : Onl ns n st st := by
  obtain ⟨a, p, f, ha, h⟩ := h
  exact ⟨a, p, f, ha, set_same h⟩
theorem Drw.pos {ns : List Int} {st : Store} (h : Drw ns 0 st) : 0 < st.length := by
  obtain ⟨a, p, f, ha, h⟩ := h
  rcases Nat.lt_or_ge 0 st.length with z | z
  · exact z
  · rw [List.getElem?_eq_none z] at h; cases h
theorem Drw.app {ns : List Int} {st : Store} (h : Drw ns 0 st) (o : Ob) : Drw ns 0 (st ++ [o]) := by
  have hl := h.pos
  obtain ⟨a, p, f, ha, h⟩ := h
  exact ⟨a, p, f, ha, by rw [List.getElem?_append_left hl]; exact h⟩
theorem Drw.put {ns : List Int} {st : Store} (h : Drw ns 0 st) {L : Nat} (hL : L ≠ 0) (o : Ob) : Drw ns 0 (st.set L o) := by
  obtain ⟨a, p, f, ha, h⟩ := h
  exact ⟨a, p, f, ha, by rw [List.getElem?_set_ne hL]; exact h⟩
theorem Onl.get {ns : List Int} {st st' : Store} (o : Onl ns 0 st st') {L : Nat} (hL : L ≠ 0) : st'[L]? = st[L]? := by
  obtain ⟨a, p, f, ha, rfl⟩ := o
  rw [List.getElem?_set_ne (Ne.symm hL)]
theorem noLocs_scr (l : List Int) : noLocs [PV.scr (l.map .int)] = true := by simp [noLocs, noLoc, noLocs_ints]
theorem Onl.len {ns : List Int} {n : Nat} {st st' : Store} (o : Onl ns n st st') : st'.length = st.length := by
  obtain ⟨a, p, f, ha, rfl⟩ := o
  rw [List.length_set]
end WK
namespace WK
open IC PySem
local macro_rules | `(tactic| simp! [$xs,*]) => `(tactic| simp only [IC.xs_cons, IC.xs_nil, IC.x_asg, IC.x_ite, IC.x_ret, IC.x_expr, IC.x_for, IC.x_six, IC.x_try, IC.x_raise, IC.evs, IC.evi, IC.ev.eq_1, IC.ev.eq_2, IC.ev.eq_3, IC.ev.eq_4, IC.ev.eq_5, IC.ev.eq_6, IC.ev.eq_7, IC.ev.eq_8, IC.ev.eq_9, IC.ev.eq_10, IC.ev.eq_11, IC.ev.eq_12, IC.ev.eq_13, IC.ev.eq_14, IC.ev.eq_15, IC.ev.eq_16, IC.ev.eq_17, IC.ev.eq_18, IC.ev.eq_19, IC.ev.eq_20, IC.ev.eq_21, IC.ev.eq_22, IC.ev.eq_24, IC.ev.eq_25, IC.ev.eq_26, IC.v_comp, List.getElem?_cons_zero, List.getElem?_cons_succ, WK.bd_ok, WK.fl_ok, WK.bd_exc, WK.fl_exc, WK.toR_some, IC.toL, WK.bT_n, WK.nxO_some, WK.th_nx, WK.th_rt, WK.th_exc, List.set_cons_zero, List.set_cons_succ, WK.on_t, WK.t_bl, WK.ono, IC.onBl, cond_true, cond_false, List.length_cons, List.length_nil, Nat.zero_add, Nat.reduceAdd, Nat.reduceSub, Nat.reduceLeDiff, if_true, IC.noLoc, IC.noLocs, WK.noLocs_ints, Bool.and_self, Bool.not_true, Bool.not_false, List.map_cons, List.map_nil, List.replicate, List.cons_append, List.nil_append, List.append_nil, Option.bind_none, Option.bind_some, Option.join_some, WK.b_add, WK.b_sub, WK.b_mul2, WK.b_div2, WK.c_lt, WK.c_le, WK.c_gt, WK.c_ge, WK.c_eq, WK.c_ne, IC.PV.tup, IC.sizeMax, $xs,*])
noncomputable def wh (lo hi : Int) : PV -> Bool
  | .int i => decide (lo <= i) && decide (i <= hi)
  | _ => false
noncomputable def ltr : PV -> Bool
  | .str s => match s.cps.toList with
    | [c] => decide (97 <= c) && decide (c <= 122)
    | _ => false
  | _ => false
noncomputable def told (n : Nat) : PV -> Bool
  | .tp _ xs => decide (xs.length = n) && xs.all (wh (-200) 200)
  | _ => false
theorem is_whole_ok (k : Nat) {d m : Nat} {v : PV} (hv : tam d m v = true) (lo hi : Int) (st : Store) : callT T (k + 1) i_is_whole [v, .int lo, .int hi] st = .ok (.bl (wh lo hi v)) st := by
  have hT : T i_is_whole = some f_is_whole := rfl
  have hn := tam_noLoc d m v hv
  rw [call_pure hT rfl rfl (by simp [noLocs, noLoc, hn])]
  cases v with
  | int i =>
    by_cases h : lo <= i
    · simp! [f_is_whole, out_bl, isiV, isTy, isBl, blO, decide_eq_true h, wh, Bool.true_and]
    · simp! [f_is_whole, out_bl, isiV, isTy, isBl, blO, decide_eq_false h, wh, Bool.false_and]
  | bl b => simp! [f_is_whole, out_bl, isiV, isTy, isBl, wh]
  | non => simp! [f_is_whole, out_bl, isiV, isTy, isBl, wh]
  | str s => simp! [f_is_whole, out_bl, isiV, isTy, isBl, wh]
  | tp b xs => simp! [f_is_whole, out_bl, isiV, isTy, isBl, wh]
  | lst xs => simp! [f_is_whole, out_bl, isiV, isTy, isBl, wh]
  | loc _ => simp [tam] at hv
  | exn _ => simp [tam] at hv
  | scr _ => simp [tam] at hv
theorem lt_one (c d : Nat) : decide ([c] < [d]) = decide (c < d) := by
  have : [c] < [d] ↔ c < d := by
    rw [List.cons_lt_cons_iff]
    simp
  exact decide_eq_decide.mpr this
theorem sa_cps : (Str.ofString "a").cps.toList = [97] := by decide +kernel
theorem sz_cps : (Str.ofString "z").cps.toList = [122] := by decide +kernel
theorem len_sQ {s : Str} {st : Store} (h : s.cps.toList.length <= 1000000) : bltV .len st [.str s] = some (.int s.cps.toList.length) := by
  have : s.length = s.cps.toList.length := by simp [Str.length]
  simp only [bltV, lenV, this]
  rw [if_pos (by simp only [sizeMax]; omega)]
theorem is_letter_ok (k : Nat) {d m : Nat} {v : PV} (hv : tam d m v = true) (hm : m <= 1000) (st : Store) : callT T (k + 1) i_is_letter [v] st = .ok (.bl (ltr v)) st := by
  have hT : T i_is_letter = some f_is_letter := rfl
  have hn := tam_noLoc d m v hv
  rw [call_pure hT rfl rfl (by simp [noLocs, noLoc, hn])]
  cases v with
  | str s =>
    simp only [tam, Bool.and_eq_true, decide_eq_true_eq] at hv
    have hl := len_sQ (s := s) (st := []) (by omega)
    cases hs : s.cps.toList with
    | nil =>
      rw [hs] at hl
      simp! [f_is_letter, out_bl, isiV, isTy, isBl, hl, ltr, hs]
      rfl
    | cons c r =>
      cases r with
      | nil =>
        rw [hs] at hl
        have h1 : cmpV .le (.str (Str.ofString "a")) (.str s) = some (.bl (decide (97 <= c))) := by
          simp only [cmpV, cmpS, hs, sa_cps, lt_one]
          by_cases q : c < 97
          · rw [decide_eq_true q, decide_eq_false (by omega)]; rfl
          · rw [decide_eq_false q, decide_eq_true (by omega)]; rfl
        have h2 : cmpV .le (.str s) (.str (Str.ofString "z")) = some (.bl (decide (c <= 122))) := by
          simp only [cmpV, cmpS, hs, sz_cps, lt_one]
          by_cases q : 122 < c
          · rw [decide_eq_true q, decide_eq_false (by omega)]; rfl
          · rw [decide_eq_false q, decide_eq_true (by omega)]; rfl
        have h0 : (((1 : Nat) : Int) == 1) = true := rfl
        by_cases q : 97 <= c
        · simp! [f_is_letter, out_bl, isiV, isTy, isBl, hl, h0, ltr, hs, h1, h2, blO, decide_eq_true q, Bool.true_and]
        · simp! [f_is_letter, out_bl, isiV, isTy, isBl, hl, h0, ltr, hs, h1, h2, blO, decide_eq_false q, Bool.false_and]
      | cons e r =>
        rw [hs] at hl
        have h0 : ((((c :: e :: r : List Nat).length : Nat) : Int) == 1) = false := by
          rw [beq_eq_false_iff_ne]
          simp only [List.length_cons]
          omega
        simp only [List.length_cons] at hl h0
        simp! [f_is_letter, out_bl, isiV, isTy, isBl, hl, h0, ltr, hs]
  | int i => simp! [f_is_letter, out_bl, isiV, isTy, isBl, ltr]
  | bl b => simp! [f_is_letter, out_bl, isiV, isTy, isBl, ltr]
  | non => simp! [f_is_letter, out_bl, isiV, isTy, isBl, ltr]
  | tp b xs => simp! [f_is_letter, out_bl, isiV, isTy, isBl, ltr]
  | lst xs => simp! [f_is_letter, out_bl, isiV, isTy, isBl, ltr]
  | loc _ => simp [tam] at hv
  | exn _ => simp [tam] at hv
  | scr _ => simp [tam] at hv
theorem ne_nat (a b : Nat) : cmpV .ne (.int a) (.int b) = some (.bl (!decide (a = b))) := by
  rw [c_ne]
  by_cases h : a = b
  · subst h; simp
  · rw [decide_eq_false h, show ((a : Int) == b) = false by rw [beq_eq_false_iff_ne]; omega]
theorem len_tp2 {k : Bool} {xs : List PV} {st : Store} : bltV .len st [.tp k xs] = some (.int xs.length) := rfl
theorem eq_s {d m : Nat} {v : PV} (hv : tam d m v = true) (hd : d <= 60) (s : Str) (hs : s.cps.all (· < 0x110000) = true) : cmpV .eq v (.str s) = some (.bl (peq v (.str s))) := by
  have h1 : shp v = true := tam_shp hv hd
  have h2 : shp (.str s) = true := hs
  simp only [cmpV]
  rw [if_pos (by rw [h1, h2]; rfl)]
theorem ne_s {d m : Nat} {v : PV} (hv : tam d m v = true) (hd : d <= 60) (s : Str) (hs : s.cps.all (· < 0x110000) = true) : cmpV .ne v (.str s) = some (.bl (!peq v (.str s))) := by
  have h1 : shp v = true := tam_shp hv hd
  have h2 : shp (.str s) = true := hs
  simp only [cmpV]
  rw [if_pos (by rw [h1, h2]; rfl)]
theorem eq_nat (a b : Nat) : cmpV .eq (.int a) (.int b) = some (.bl (decide (a = b))) := by
  rw [c_eq]
  by_cases h : a = b
  · subst h; simp
  · rw [decide_eq_false h, show ((a : Int) == b) = false by rw [beq_eq_false_iff_ne]; omega]
noncomputable def isI : PV -> Bool
  | .int _ => true
  | _ => false
theorem law_whole_ok (k : Nat) {d m : Nat} {v : PV} (hv : tam d m v = true) (st : Store) : callT T (k + 1) i_qwhole [v] st = .ok (.bl (isI v)) st := by
  have hT : T i_qwhole = some f_qwhole := rfl
  have hn := tam_noLoc d m v hv
  rw [call_pure hT rfl rfl (by simp [noLocs, noLoc, hn])]
  cases v with
  | loc _ => simp [tam] at hv
  | exn _ => simp [tam] at hv
  | scr _ => simp [tam] at hv
  | _ => simp! [f_qwhole, out_bl, isiV, isTy, isBl, isI]
noncomputable abbrev sAbc : Str := Str.ofString "abcdefghijklmnopqrstuvwxyz"
theorem abc_all : (List.range 128).all (fun c => inS ⟨#[c]⟩ sAbc == (decide (97 <= c) && decide (c <= 122))) = true := by decide +kernel
theorem abc_one {c : Nat} (h : c < 128) : inS ⟨#[c]⟩ sAbc = (decide (97 <= c) && decide (c <= 122)) := by
  have := List.all_eq_true.mp abc_all c (by simpa using h)
  exact eq_of_beq this
theorem str_eta (s : Str) {l : List Nat} (h : s.cps.toList = l) : s = ⟨l.toArray⟩ := by
  obtain ⟨⟨c⟩⟩ := s
  simp at h
  rw [h]
theorem law_letter_ok (k : Nat) {d m : Nat} {v : PV} (hv : tam d m v = true) (hm : m <= 1000) (st : Store) : callT T (k + 1) i_qletter [v] st = .ok (.bl (ltr v)) st := by
  have hT : T i_qletter = some f_qletter := rfl
  have hn := tam_noLoc d m v hv
  rw [call_pure hT rfl rfl (by simp [noLocs, noLoc, hn])]
  cases v with
  | str s =>
    simp only [tam, Bool.and_eq_true, decide_eq_true_eq] at hv
    have hl := len_sQ (s := s) (st := []) (by omega)
    by_cases h1 : s.cps.toList.length = 1
    · obtain ⟨c, hs⟩ : ∃ c, s.cps.toList = [c] := by
        match h : s.cps.toList, h1 with
        | [c], _ => exact ⟨c, rfl⟩
      have hc : c < 128 := by
        have := List.all_eq_true.1 hv.1 c (by rw [hs]; simp)
        simpa using this
      have hin : cmpV .isin (.str s) (.str sAbc) = some (.bl (decide (97 <= c) && decide (c <= 122))) := by
        rw [str_eta s hs]
        exact congrArg (fun b => some (PV.bl b)) (abc_one hc)
      rw [hs] at hl
      have h0 : (((1 : Nat) : Int) == 1) = true := rfl
      simp! [f_qletter, out_bl, isiV, isTy, isBl, hl, h0, hin, ltr, hs]
    · have h0 : (((s.cps.toList.length : Nat) : Int) == 1) = false := by
        rw [beq_eq_false_iff_ne]
        omega
      have ht : ltr (.str s) = false := by
        unfold ltr
        dsimp only
        split
        · rename_i e; rw [e] at h1; simp at h1
        · rfl
      rw [ht]
      simp! [f_qletter, out_bl, isiV, isTy, isBl, hl, h0]
  | loc _ => simp [tam] at hv
  | exn _ => simp [tam] at hv
  | scr _ => simp [tam] at hv
  | _ => simp! [f_qletter, out_bl, isiV, isTy, isBl, ltr]
end WK
namespace WK
open IC PySem
local macro_rules | `(tactic| simp! [$xs,*]) => `(tactic| simp only [IC.xs_cons, IC.xs_nil, IC.x_asg, IC.x_ite, IC.x_ret, IC.x_expr, IC.x_for, IC.x_six, IC.x_try, IC.x_raise, IC.evs, IC.evi, IC.ev.eq_1, IC.ev.eq_2, IC.ev.eq_3, IC.ev.eq_4, IC.ev.eq_5, IC.ev.eq_6, IC.ev.eq_7, IC.ev.eq_8, IC.ev.eq_9, IC.ev.eq_10, IC.ev.eq_11, IC.ev.eq_12, IC.ev.eq_13, IC.ev.eq_14, IC.ev.eq_15, IC.ev.eq_16, IC.ev.eq_17, IC.ev.eq_18, IC.ev.eq_19, IC.ev.eq_20, IC.ev.eq_21, IC.ev.eq_22, IC.ev.eq_24, IC.ev.eq_25, IC.ev.eq_26, IC.v_comp, List.getElem?_cons_zero, List.getElem?_cons_succ, WK.bd_ok, WK.fl_ok, WK.bd_exc, WK.fl_exc, WK.toR_some, IC.toL, WK.bT_n, WK.nxO_some, WK.th_nx, WK.th_rt, WK.th_exc, List.set_cons_zero, List.set_cons_succ, WK.on_t, WK.t_bl, WK.ono, IC.onBl, cond_true, cond_false, List.length_cons, List.length_nil, Nat.zero_add, Nat.reduceAdd, Nat.reduceSub, Nat.reduceLeDiff, if_true, IC.noLoc, IC.noLocs, WK.noLocs_ints, Bool.and_self, Bool.not_true, Bool.not_false, List.map_cons, List.map_nil, List.replicate, List.cons_append, List.nil_append, List.append_nil, Option.bind_none, Option.bind_some, Option.join_some, WK.b_add, WK.b_sub, WK.b_mul2, WK.b_div2, WK.c_lt, WK.c_le, WK.c_gt, WK.c_ge, WK.c_eq, WK.c_ne, IC.PV.tup, IC.sizeMax, $xs,*])
theorem onP_int {α : Type} {i : Int} {k : Option Int -> R α} : onP (optI (.int i)) k = k (some i) := rfl
theorem onP_non {α : Type} {k : Option Int -> R α} : onP (optI .non) k = k none := rfl
theorem ixI_ok {n : Nat} {i : Int} (h0 : 0 <= i) (h1 : i < n) : ixI n i = some i.toNat := by simp [ixI, h0, h1]
theorem idx_lst {st : Store} {xs : List PV} {i : Int} (h0 : 0 <= i) (h1 : i < xs.length) : ∃ x, x ∈ xs /\ idxV st (.lst xs) (.int i) = some x := by
  have hi : i.toNat < xs.length := by omega
  refine ⟨xs[i.toNat], List.getElem_mem hi, ?_⟩
  simp only [idxV, idxI, at?, ixI_ok h0 h1, Option.bind_some]
  exact List.getElem?_eq_getElem hi
theorem idx_tp {k : Bool} {xs : List PV} {i : Int} (h0 : 0 <= i) (h1 : i < xs.length) : ∃ x, x ∈ xs /\ ∀ st, idxV st (.tp k xs) (.int i) = some x := by
  have hi : i.toNat < xs.length := by omega
  refine ⟨xs[i.toNat], List.getElem_mem hi, fun st => ?_⟩
  simp only [idxV, idxI, at?, ixI_ok h0 h1, Option.bind_some]
  exact List.getElem?_eq_getElem hi
theorem tam_ch {c d m : Nat} (h : c < 128) (hm : 1 <= m) : tam d m (.str ⟨#[c]⟩) = true := by
  simp [tam, h]; omega
theorem abc_len : sAbc.cps.toList.length = 26 := by decide +kernel
theorem slcV_i {x : PV} {o : Option Int} {i : Int} : slcV x o (.int i) = slcO x o (some i) := rfl
theorem slcV_n {x : PV} {o : Option Int} : slcV x o .non = slcO x o none := rfl
theorem tam_cut {d m : Nat} {s : Str} {a b : Option Int} (h : tam d m (.str s) = true) : tam d m (.str ⟨(cut s.cps.toList a b).toArray⟩) = true := by
  simp only [tam, Bool.and_eq_true, decide_eq_true_eq, List.all_eq_true] at h ⊢
  exact ⟨fun x hx => h.1 x (cut_mem hx), Nat.le_trans (cut_len _ _ _) h.2⟩
end WK
namespace WK
open IC PySem
local macro_rules | `(tactic| simp! [$xs,*]) => `(tactic| simp only [IC.xs_cons, IC.xs_nil, IC.x_asg, IC.x_ite, IC.x_ret, IC.x_expr, IC.x_for, IC.x_six, IC.x_try, IC.x_raise, IC.evs, IC.evi, IC.ev.eq_1, IC.ev.eq_2, IC.ev.eq_3, IC.ev.eq_4, IC.ev.eq_5, IC.ev.eq_6, IC.ev.eq_7, IC.ev.eq_8, IC.ev.eq_9, IC.ev.eq_10, IC.ev.eq_11, IC.ev.eq_12, IC.ev.eq_13, IC.ev.eq_14, IC.ev.eq_15, IC.ev.eq_16, IC.ev.eq_17, IC.ev.eq_18, IC.ev.eq_19, IC.ev.eq_20, IC.ev.eq_21, IC.ev.eq_22, IC.ev.eq_24, IC.ev.eq_25, IC.ev.eq_26, IC.ev.eq_28,  IC.v_comp, List.getElem?_cons_zero, List.getElem?_cons_succ, WK.bd_ok, WK.fl_ok, WK.bd_exc, WK.fl_exc, WK.toR_some, IC.toL, WK.bT_n, WK.nxO_some, WK.th_nx, WK.th_rt, WK.th_exc, List.set_cons_zero, List.set_cons_succ, WK.on_t, WK.t_bl, WK.ono, IC.onBl, cond_true, cond_false, List.length_cons, List.length_nil, Nat.zero_add, Nat.reduceAdd, Nat.reduceSub, Nat.reduceLeDiff, if_true, IC.noLoc, IC.noLocs, WK.noLocs_ints, Bool.and_self, Bool.not_true, Bool.not_false, List.map_cons, List.map_nil, List.replicate, List.cons_append, List.nil_append, List.append_nil, Option.bind_none, Option.bind_some, Option.join_some, WK.b_add, WK.b_sub, WK.b_mul2, WK.b_div2, WK.c_lt, WK.c_le, WK.c_gt, WK.c_ge, WK.c_eq, WK.c_ne, IC.PV.tup, IC.sizeMax, $xs,*])
noncomputable abbrev sFig : Str := Str.ofString "figure"
noncomputable abbrev sTimes : Str := Str.ofString "times"
noncomputable def celS : PV -> Bool
  | .tp _ [l, a] => ltr l && wh 0 99 a
  | _ => false
noncomputable def letS : PV -> Bool
  | .tp _ [l, _] => ltr l
  | _ => false
noncomputable def namS : PV -> Bool
  | .tp _ (.str s :: _) => (dlook s d_ROWS).isSome
  | _ => false
noncomputable def opS (k x : PV) : Bool := if peq k (.str sFig) then wh 0 1 x else celS x
noncomputable def prS : PV -> Bool
  | .tp _ [k, x] => opS k x
  | _ => false
noncomputable def unl : List PV -> Bool
  | a :: b :: _ => !peq a b
  | _ => true
noncomputable def rowS : PV -> Bool
  | .tp _ (.str s :: r) => match dlook s d_ROWS with
    | some (.tp _ ks) => decide (r.length = ks.length) && ((zipUp ks r).all prS && (!decide (s = sTimes) || unl r))
    | _ => false
  | _ => false
theorem lettered_ok (k : Nat) {d m : Nat} {v : PV} (hv : tam d m v = true) (hm : m <= 1000) (st : Store) : callT T (k + 2) i_is_lettered [v] st = .ok (.bl (letS v)) st := by
  have hT : T i_is_lettered = some f_is_lettered := rfl
  have hn := tam_noLoc d m v hv
  rw [call_pure hT rfl rfl (by simp [noLocs, noLoc, hn])]
  cases v with
  | tp b xs =>
    obtain ⟨h0, h1, h2⟩ := tam_tp.1 hv
    by_cases h : xs.length = 2
    · obtain ⟨l, a, rfl⟩ : ∃ l a, xs = [l, a] := by
        match xs, h with
        | [l, a], _ => exact ⟨l, a, rfl⟩
      have hl : cmpV .eq (.int ((2 : Nat) : Int)) (.int 2) = some (.bl true) := rfl
      have hL := is_letter_ok k (h2 l (by simp)) hm []
      simp! [f_is_lettered, out_bl, isiV, isTy, isBl, len_tp2, hl, ix0, hL, letS]
    · have hl : cmpV .eq (.int (xs.length : Int)) (.int 2) = some (.bl false) := by
        have := eq_nat xs.length 2
        rw [decide_eq_false h] at this
        exact this
      have ht : letS (.tp b xs) = false := by
        unfold letS
        split
        · rename_i e; cases e; simp at h
        · rfl
      rw [ht]
      simp! [f_is_lettered, out_bl, isiV, isTy, isBl, len_tp2, hl]
  | loc _ => simp [tam] at hv
  | exn _ => simp [tam] at hv
  | scr _ => simp [tam] at hv
  | _ => simp! [f_is_lettered, out_bl, isiV, isTy, isBl, letS]
theorem is_cell_ok (k : Nat) {d m : Nat} {v : PV} (hv : tam d m v = true) (hm : m <= 1000) (st : Store) : callT T (k + 3) i_is_cell [v] st = .ok (.bl (celS v)) st := by
  have hT : T i_is_cell = some f_is_cell := rfl
  have hn := tam_noLoc d m v hv
  have hL := lettered_ok k hv hm []
  rw [call_pure hT rfl rfl (by simp [noLocs, noLoc, hn])]
  by_cases hx : ∃ b l a, v = .tp b [l, a]
  · obtain ⟨b, l, a, rfl⟩ := hx
    obtain ⟨h0, h1, h2⟩ := tam_tp.1 hv
    have hW := is_whole_ok (k + 1) (h2 a (by simp)) 0 99 []
    have hc : celS (.tp b [l, a]) = (ltr l && wh 0 99 a) := rfl
    rw [hc]
    have hl0 : letS (.tp b [l, a]) = ltr l := rfl
    rw [hl0] at hL
    cases e : ltr l with
    | false =>
      rw [e] at hL
      simp! [f_is_cell, out_bl, hL, Bool.false_and]
    | true =>
      rw [e] at hL
      simp! [f_is_cell, out_bl, hL, ix1, hW, Bool.true_and]
  · have h1 : letS v = false := by
      unfold letS
      split
      · rename_i b l a; exact absurd ⟨b, l, a, rfl⟩ hx
      · rfl
    have h2 : celS v = false := by
      unfold celS
      split
      · rename_i b l a; exact absurd ⟨b, l, a, rfl⟩ hx
      · rfl
    rw [h1] at hL
    rw [h2]
    simp! [f_is_cell, out_bl, hL]
theorem fig_ok : sFig.cps.all (· < 0x110000) = true := by decide +kernel
theorem times_ok : sTimes.cps.all (· < 0x110000) = true := by decide +kernel
theorem is_operand_ok (k : Nat) {d m d' m' : Nat} {v kd : PV} (hv : tam d m v = true) (hm : m <= 1000) (hk : tam d' m' kd = true) (hd : d' <= 60) (st : Store) : callT T (k + 4) i_is_operand [kd, v, .bl false] st = .ok (.bl (opS kd v)) st := by
  have hT : T i_is_operand = some f_is_operand := rfl
  have hn := tam_noLoc d m v hv
  have hn2 := tam_noLoc d' m' kd hk
  have he := eq_s hk hd sFig fig_ok
  have hW := is_whole_ok (k + 2) hv 0 1 []
  have hC := is_cell_ok k hv hm []
  rw [call_pure hT rfl rfl (by simp [noLocs, noLoc, hn, hn2])]
  unfold opS
  cases e : peq kd (.str sFig) with
  | true =>
    rw [e] at he
    simp! [f_is_operand, out_bl, he, hW]
  | false =>
    rw [e] at he
    simp! [f_is_operand, out_bl, he, hC, Bool.false_eq_true, if_false]
theorem rows_tam : ∀ p ∈ d_ROWS, ∃ ks, p.2 = .tp true ks /\ ks.length <= 4 /\ 1 <= ks.length /\ ∀ x ∈ ks, tam 1 10 x = true := by
  intro p hp
  simp only [d_ROWS, List.mem_cons, List.not_mem_nil, or_false] at hp
  rcases hp with rfl | rfl | rfl | rfl | rfl | rfl | rfl | rfl | rfl | rfl | rfl | rfl | rfl <;> refine ⟨_, rfl, by simp, by simp, fun x hx => ?_⟩ <;> simp only [List.mem_cons, List.not_mem_nil, or_false] at hx <;> (repeat' rcases hx with rfl | hx) <;> first | (subst hx; decide +kernel) | decide +kernel
theorem dlook_mem {s : Str} {v : PV} : ∀ {D : List (Str × PV)}, dlook s D = some v -> (s, v) ∈ D
  | [], h => by cases h
  | (a, b) :: r, h => by
    rw [dlook] at h
    by_cases e : a = s
    · rw [if_pos (by simpa using e)] at h
      cases h
      rw [e]
      exact List.mem_cons_self
    · rw [if_neg (by simpa using e)] at h
      exact List.mem_cons_of_mem _ (dlook_mem h)
theorem look_row {s : Str} {v : PV} (h : dlook s d_ROWS = some v) : ∃ ks, v = .tp true ks /\ ks.length <= 4 /\ 1 <= ks.length /\ ∀ x ∈ ks, tam 1 10 x = true := rows_tam _ (dlook_mem h)
theorem is_named_ok (k : Nat) {d m : Nat} {v : PV} (hv : tam d m v = true) (st : Store) : callT T (k + 1) i_is_named [v] st = .ok (.bl (namS v)) st := by
  have hT : T i_is_named = some f_is_named := rfl
  have hn := tam_noLoc d m v hv
  rw [call_pure hT rfl rfl (by simp [noLocs, noLoc, hn])]
  cases v with
  | tp b xs =>
    cases xs with
    | nil =>
      have h0 : cmpV .gt (.int (([] : List PV).length : Int)) (.int 0) = some (.bl false) := rfl
      simp! [f_is_named, out_bl, isiV, isTy, isBl, len_tp2, h0, namS]
      rfl
    | cons x r =>
      obtain ⟨_, _, h2⟩ := tam_tp.1 hv
      have hx := h2 x (by simp)
      have h0 : decide ((0 : Int) < ((r.length + 1 : Nat) : Int)) = true := decide_eq_true (by omega)
      cases x with
      | str s => simp! [f_is_named, out_bl, isiV, isTy, isBl, len_tp2, h0, ix0, ev.eq_29, dinV, namS]
      | loc _ => simp [tam] at hx
      | exn _ => simp [tam] at hx
      | scr _ => simp [tam] at hx
      | _ => simp! [f_is_named, out_bl, isiV, isTy, isBl, len_tp2, h0, ix0, namS]
  | loc _ => simp [tam] at hv
  | exn _ => simp [tam] at hv
  | scr _ => simp [tam] at hv
  | _ => simp! [f_is_named, out_bl, isiV, isTy, isBl, namS]
end WK
namespace WK
open IC PySem
local macro_rules | `(tactic| simp! [$xs,*]) => `(tactic| simp only [IC.xs_cons, IC.xs_nil, IC.x_asg, IC.x_ite, IC.x_ret, IC.x_expr, IC.x_for, IC.x_six, IC.x_try, IC.x_raise, IC.evs, IC.evi, IC.ev.eq_1, IC.ev.eq_2, IC.ev.eq_3, IC.ev.eq_4, IC.ev.eq_5, IC.ev.eq_6, IC.ev.eq_7, IC.ev.eq_8, IC.ev.eq_9, IC.ev.eq_10, IC.ev.eq_11, IC.ev.eq_12, IC.ev.eq_13, IC.ev.eq_14, IC.ev.eq_15, IC.ev.eq_16, IC.ev.eq_17, IC.ev.eq_18, IC.ev.eq_19, IC.ev.eq_20, IC.ev.eq_21, IC.ev.eq_22, IC.ev.eq_24, IC.ev.eq_25, IC.ev.eq_26, IC.ev.eq_28,  IC.v_comp, List.getElem?_cons_zero, List.getElem?_cons_succ, WK.bd_ok, WK.fl_ok, WK.bd_exc, WK.fl_exc, WK.toR_some, IC.toL, WK.bT_n, WK.nxO_some, WK.th_nx, WK.th_rt, WK.th_exc, List.set_cons_zero, List.set_cons_succ, WK.on_t, WK.t_bl, WK.ono, IC.onBl, cond_true, cond_false, List.length_cons, List.length_nil, Nat.zero_add, Nat.reduceAdd, Nat.reduceSub, Nat.reduceLeDiff, if_true, IC.noLoc, IC.noLocs, WK.noLocs_ints, Bool.and_self, Bool.not_true, Bool.not_false, List.map_cons, List.map_nil, List.replicate, List.cons_append, List.nil_append, List.append_nil, Option.bind_none, Option.bind_some, Option.join_some, WK.b_add, WK.b_sub, WK.b_mul2, WK.b_div2, WK.c_lt, WK.c_le, WK.c_gt, WK.c_ge, WK.c_eq, WK.c_ne, IC.PV.tup, IC.sizeMax, $xs,*])
noncomputable def frmB : Css := match f_has_form.body with
  | .cons _ (.cons (.for _ _ b) _) => b
  | _ => .nil
theorem frm_loop (k : Nat) {d m : Nat} {p0 : Option PV} (hm : m <= 1000) : ∀ (ks r : List PV) (u w : Option PV), (∀ x ∈ ks, tam 1 10 x = true) -> (∀ x ∈ r, tam d m x = true) ->
    ∃ u' w', forB (callT T (k + 4)) (.t [2, 3]) frmB (zipUp ks r) [p0, some (.bl false), u, w] [] = if (zipUp ks r).all prS then .nx [p0, some (.bl false), u', w'] [] else .rt (.bl false) []
  | [], r, u, w, _, _ => ⟨u, w, by simp only [zipUp, List.all_nil, if_true]; rw [forB_nil]⟩
  | k0 :: ks, [], u, w, _, _ => ⟨u, w, by simp only [zipUp, List.all_nil, if_true]; rw [forB_nil]⟩
  | k0 :: ks, x :: r, u, w, hk, hr => by
    obtain ⟨u', w', e⟩ := frm_loop k (p0 := p0) hm ks r (some k0) (some x) (fun y hy => hk y (List.mem_cons_of_mem _ hy)) fun y hy => hr y (List.mem_cons_of_mem _ hy)
    refine ⟨u', w', ?_⟩
    have ho := is_operand_ok k (hr x List.mem_cons_self) hm (hk k0 List.mem_cons_self) (by omega) []
    have hp : prS (.tup [k0, x]) = opS k0 x := rfl
    have hst : exs (callT T (k + 4)) [p0, some (.bl false), some k0, some x] [] frmB = if opS k0 x then .nx [p0, some (.bl false), some k0, some x] [] else .rt (.bl false) [] := by
      cases q : opS k0 x with
      | true => rw [q] at ho; simp! [frmB, f_has_form, ho]
      | false => rw [q] at ho; simp! [frmB, f_has_form, ho, Bool.false_eq_true, if_false]
    rw [zipUp, forB_cons (ρ1 := [p0, some (.bl false), some k0, some x]) rfl, hst, List.all_cons, hp]
    cases q : opS k0 x with
    | true => simp only [if_true, againF, Bool.true_and]; exact e
    | false => simp only [Bool.false_eq_true, if_false, againF, Bool.false_and]
theorem cut1 {b : Bool} {x : PV} {r : List PV} : slcV (.tp b (x :: r)) (some 1) .non = some (.tp false r) := by
  have h : clampI (r.length + 1) 1 = 1 := by
    show min 1 (r.length + 1) = 1
    omega
  simp only [slcV, optI, slcO, loOf, hiOf, List.length_cons, h]
  rw [if_neg (by omega)]
  simp [cut, loOf, hiOf, h]
theorem ne_sh {d m d' m' : Nat} {v w : PV} (hv : tam d m v = true) (hd : d <= 60) (hw : tam d' m' w = true) (hd' : d' <= 60) : cmpV .ne v w = some (.bl (!peq v w)) := by
  have h1 : shp v = true := tam_shp hv hd
  have h2 : shp w = true := tam_shp hw hd'
  simp only [cmpV]
  rw [if_pos (by rw [h1, h2]; rfl)]
theorem peq_str (a b : Str) : peq (.str a) (.str b) = decide (a = b) := by
  simp only [peq]
  rw [Bool.eq_iff_iff]
  simp
theorem times_row : dlook sTimes d_ROWS = some (.tp true [.str (Str.ofString "cell"), .str (Str.ofString "cell"), .str (Str.ofString "cell"), .str (Str.ofString "cell")]) := by with_unfolding_all rfl
theorem has_form_ok (k : Nat) {d m : Nat} {v : PV} (hv : tam d m v = true) (hd : d <= 60) (hm : m <= 1000) (st : Store) : callT T (k + 5) i_has_form [v, .bl false] st = .ok (.bl (rowS v)) st := by
  have hT : T i_has_form = some ⟨2, 4, true, f_has_form.body⟩ := rfl
  have hn := tam_noLoc d m v hv
  have hN := is_named_ok (k + 3) hv []
  have hb : f_has_form.body = (match f_has_form.body with
    | .cons a (.cons (.for t i _) r) => .cons a (.cons (.for t i frmB) r)
    | _ => .nil) := rfl
  rw [call_pure hT rfl rfl (by simp [noLocs, noLoc, hn])]
  dsimp only
  rw [hb]
  by_cases hx : ∃ b s r, v = .tp b (.str s :: r) /\ (dlook s d_ROWS).isSome = true
  · obtain ⟨b, s, r, rfl, hs⟩ := hx
    obtain ⟨h0, h1, h2⟩ := tam_tp.1 hv
    obtain ⟨kv, hkv⟩ := Option.isSome_iff_exists.1 hs
    obtain ⟨ks, rfl, hk4, hk1, hkt⟩ := look_row hkv
    have hN : callT T (k + 4) i_is_named [.tp b (.str s :: r)] [] = .ok (.bl true) [] := by
      rw [hN]
      simp only [namS, hs]
    have hrow : rowS (.tp b (.str s :: r)) = (decide (r.length = ks.length) && ((zipUp ks r).all prS && (!decide (s = sTimes) || unl r))) := by
      simp only [rowS, hkv]
    rw [hrow]
    have hdx : ∀ st, toR (dixV d_ROWS (.str s)) st = .ok (.tp true ks) st := fun st => by simp only [dixV, hkv, toR]
    have hne : cmpV .ne (.int ((r.length + 1 : Nat) : Int)) (.int ((ks.length : Int) + 1)) = some (.bl (!decide (r.length = ks.length))) := by
      have := ne_nat (r.length + 1) (ks.length + 1)
      rw [show decide (r.length + 1 = ks.length + 1) = decide (r.length = ks.length) from decide_eq_decide.mpr (by omega)] at this
      exact this
    by_cases hl : r.length = ks.length
    · rw [decide_eq_true hl] at hne ⊢
      obtain ⟨u', w', e⟩ := frm_loop k (p0 := some (.tp b (.str s :: r))) (d := d - 1) hm ks r none none hkt (fun x hx => h2 x (List.mem_cons_of_mem _ hx))
      have hz : zipV (.tp true ks) (.tp false r) = some (zipUp ks r) := by simp only [zipV]; rw [if_pos (by omega)]
      have ht := ne_s (h2 (.str s) List.mem_cons_self) (by omega) sTimes times_ok
      rw [peq_str] at ht
      cases hall : (zipUp ks r).all prS with
      | false =>
        rw [hall] at e
        simp! [f_has_form, hN, len_tp2, ix0, ev.eq_28, hdx, hne, onP_int, cut1, hz, e, Bool.false_eq_true, if_false, Bool.true_and, Bool.false_and, out_bl]
      | true =>
        rw [hall] at e
        by_cases hst : s = sTimes
        · subst hst
          have hk : ks.length = 4 := by rw [times_row] at hkv; cases hkv; rfl
          obtain ⟨a, c, hi1, hi2, hu, ha, hc⟩ : ∃ a c, (∀ st, idxV st (.tp b (.str sTimes :: r)) (.int 1) = some a) /\ (∀ st, idxV st (.tp b (.str sTimes :: r)) (.int 2) = some c) /\ unl r = !peq a c /\ a ∈ r /\ c ∈ r := by
            rw [hk] at hl
            match r, hl with
            | a :: c :: r', _ => exact ⟨a, c, fun st => ix1, fun st => ix2, rfl, by simp, by simp⟩
          have hac := ne_sh (h2 a (List.mem_cons_of_mem _ ha)) (by omega) (h2 c (List.mem_cons_of_mem _ hc)) (by omega)
          rw [decide_eq_true rfl] at ht
          simp! [f_has_form, hN, len_tp2, ix0, hi1, hi2, ev.eq_28, hdx, hne, onP_int, cut1, hz, e, Bool.true_and, out_bl, ht, hac, hu, decide_true, Bool.false_or]
        · rw [decide_eq_false hst] at ht
          simp! [f_has_form, hN, len_tp2, ix0, ev.eq_28, hdx, hne, onP_int, cut1, hz, e, Bool.true_and, out_bl, ht, decide_eq_false hst, Bool.true_or]
    · rw [decide_eq_false hl] at hne ⊢
      simp! [f_has_form, hN, len_tp2, ix0, ev.eq_28, hdx, hne, Bool.false_and, out_bl]
  · have h1 : namS v = false := by
      unfold namS
      split
      · rename_i b s r
        cases q : (dlook s d_ROWS).isSome with
        | false => rfl
        | true => exact absurd ⟨b, s, r, rfl, q⟩ hx
      · rfl
    have h2 : rowS v = false := by
      unfold rowS
      split
      · rename_i b s r
        split
        · rename_i ks q
          exact absurd ⟨b, s, r, rfl, by rw [q]; rfl⟩ hx
        · rfl
      · rfl
    have hN : callT T (k + 4) i_is_named [v] [] = .ok (.bl false) [] := by rw [hN, h1]
    rw [h2]
    simp! [f_has_form, hN, out_bl]
theorem is_row_ok (k : Nat) {d m : Nat} {v : PV} (hv : tam d m v = true) (hd : d <= 60) (hm : m <= 1000) (st : Store) : callT T (k + 6) i_is_row [v] st = .ok (.bl (rowS v)) st := by
  have hT : T i_is_row = some f_is_row := rfl
  have hn := tam_noLoc d m v hv
  have hF := has_form_ok k hv hd hm []
  rw [call_pure hT rfl rfl (by simp [noLocs, noLoc, hn])]
  simp! [f_is_row, hF, out_bl]
end WK
namespace WK
open IC PySem
local macro_rules | `(tactic| simp! [$xs,*]) => `(tactic| simp only [IC.xs_cons, IC.xs_nil, IC.x_asg, IC.x_ite, IC.x_ret, IC.x_expr, IC.x_for, IC.x_six, IC.x_try, IC.x_raise, IC.evs, IC.evi, IC.ev.eq_1, IC.ev.eq_2, IC.ev.eq_3, IC.ev.eq_4, IC.ev.eq_5, IC.ev.eq_6, IC.ev.eq_7, IC.ev.eq_8, IC.ev.eq_9, IC.ev.eq_10, IC.ev.eq_11, IC.ev.eq_12, IC.ev.eq_13, IC.ev.eq_14, IC.ev.eq_15, IC.ev.eq_16, IC.ev.eq_17, IC.ev.eq_18, IC.ev.eq_19, IC.ev.eq_20, IC.ev.eq_21, IC.ev.eq_22, IC.ev.eq_24, IC.ev.eq_25, IC.ev.eq_26, IC.ev.eq_28,  IC.v_comp, List.getElem?_cons_zero, List.getElem?_cons_succ, WK.bd_ok, WK.fl_ok, WK.bd_exc, WK.fl_exc, WK.toR_some, IC.toL, WK.bT_n, WK.nxO_some, WK.th_nx, WK.th_rt, WK.th_exc, List.set_cons_zero, List.set_cons_succ, WK.on_t, WK.t_bl, WK.ono, IC.onBl, cond_true, cond_false, List.length_cons, List.length_nil, Nat.zero_add, Nat.reduceAdd, Nat.reduceSub, Nat.reduceLeDiff, if_true, IC.noLoc, IC.noLocs, WK.noLocs_ints, Bool.and_self, Bool.not_true, Bool.not_false, List.map_cons, List.map_nil, List.replicate, List.cons_append, List.nil_append, List.append_nil, Option.bind_none, Option.bind_some, Option.join_some, WK.b_add, WK.b_sub, WK.b_mul2, WK.b_div2, WK.c_lt, WK.c_le, WK.c_gt, WK.c_ge, WK.c_eq, WK.c_ne, IC.PV.tup, IC.sizeMax, $xs,*])
theorem law_cell_ok (k : Nat) {d m : Nat} {v : PV} (hv : tam d m v = true) (hm : m <= 1000) (st : Store) : callT T (k + 2) i_qis_cell [v] st = .ok (.bl (celS v)) st := by
  have hT : T i_qis_cell = some f_qis_cell := rfl
  have hn := tam_noLoc d m v hv
  rw [call_pure hT rfl rfl (by simp [noLocs, noLoc, hn])]
  cases v with
  | tp b xs =>
    obtain ⟨h0, h1, h2⟩ := tam_tp.1 hv
    by_cases h : xs.length = 2
    · obtain ⟨l, a, rfl⟩ : ∃ l a, xs = [l, a] := by
        match xs, h with
        | [l, a], _ => exact ⟨l, a, rfl⟩
      have hl : cmpV .ne (.int ((2 : Nat) : Int)) (.int 2) = some (.bl false) := rfl
      have hL := law_letter_ok k (h2 l (by simp)) hm []
      have hW := law_whole_ok k (h2 a (by simp)) []
      have hc : celS (.tp b [l, a]) = (ltr l && wh 0 99 a) := rfl
      rw [hc]
      cases e : ltr l with
      | false =>
        rw [e] at hL
        simp! [f_qis_cell, out_bl, isiV, isTy, isBl, len_tp2, hl, ix0, hL, Bool.false_and]
      | true =>
        rw [e] at hL
        have ha := h2 a (by simp)
        cases a with
        | int i =>
          have hI : isI (.int i) = true := rfl
          rw [hI] at hW
          by_cases q : 0 <= i
          · simp! [f_qis_cell, out_bl, isiV, isTy, isBl, len_tp2, hl, ix0, ix1, hL, hW, blO, decide_eq_true q, wh, Bool.true_and]
          · simp! [f_qis_cell, out_bl, isiV, isTy, isBl, len_tp2, hl, ix0, ix1, hL, hW, blO, decide_eq_false q, wh, Bool.true_and, Bool.false_and]
        | loc _ => simp [tam] at ha
        | exn _ => simp [tam] at ha
        | scr _ => simp [tam] at ha
        | _ =>
          simp only [isI] at hW
          simp! [f_qis_cell, out_bl, isiV, isTy, isBl, len_tp2, hl, ix0, ix1, hL, hW, wh, Bool.true_and]
    · have hl : cmpV .ne (.int (xs.length : Int)) (.int 2) = some (.bl true) := by
        have := ne_nat xs.length 2
        rw [decide_eq_false h] at this
        exact this
      have ht : celS (.tp b xs) = false := by
        unfold celS
        split
        · rename_i e; cases e; simp at h
        · rfl
      rw [ht]
      simp! [f_qis_cell, out_bl, isiV, isTy, isBl, len_tp2, hl]
  | loc _ => simp [tam] at hv
  | exn _ => simp [tam] at hv
  | scr _ => simp [tam] at hv
  | _ => simp! [f_qis_cell, out_bl, isiV, isTy, isBl, celS]
noncomputable def lawD0 : List (PV × PV) := [(.str (Str.ofString "move"), .int 3), (.str (Str.ofString "bare"), .int 3), (.str (Str.ofString "twice"), .int 3), (.str (Str.ofString "half"), .int 3), (.str (Str.ofString "sum"), .int 4), (.str (Str.ofString "less"), .int 4), (.str (Str.ofString "both"), .int 4), (.str (Str.ofString "any"), .int 4), (.str (Str.ofString "odd"), .int 4)]
noncomputable def lawD : List (PV × PV) := lawD0 ++ [(.str (Str.ofString "times"), .int 5)]
noncomputable def newE : Ce := match f_qis_row.body with
  | .cons _ (.cons _ (.cons _ (.cons _ (.cons (.asg _ e) _)))) => e
  | _ => .nope
theorem new_ok {call : Cl} {ρ : IC.Env} : ev call ρ [] newE = .ok (.loc 0) [.dct false lawD0] := by with_unfolding_all rfl
theorem put_ok : dputV [.dct false lawD0] (.loc 0) (.str (Str.ofString "times")) (.int 5) = some [.dct false lawD] := by with_unfolding_all rfl
noncomputable def lenD (s : Str) : Int := match look (.str s) lawD with
  | some (.int i) => i
  | _ => 0
theorem lawD_int : ∀ p ∈ lawD, ∃ i, p.2 = .int i := by
  intro p hp
  simp only [lawD, lawD0, List.cons_append, List.nil_append, List.mem_cons, List.not_mem_nil, or_false] at hp
  rcases hp with rfl | rfl | rfl | rfl | rfl | rfl | rfl | rfl | rfl | rfl <;> exact ⟨_, rfl⟩
theorem look_mem {k v : PV} : ∀ {D : List (PV × PV)}, look k D = some v -> ∃ p ∈ D, p.2 = v
  | [], h => by cases h
  | (a, b) :: r, h => by
    rw [look] at h
    by_cases e : peq a k = true
    · rw [if_pos e] at h
      exact ⟨(a, b), List.mem_cons_self, Option.some.inj h⟩
    · rw [if_neg e] at h
      obtain ⟨p, hp, q⟩ := look_mem h
      exact ⟨p, List.mem_cons_of_mem _ hp, q⟩
theorem get_ok (s : Str) : getV [.dct false lawD] (.loc 0) (.str s) (.int 0) = .ok (.int (lenD s)) [.dct false lawD] := by
  have hk : isKey false (.str s) = true := rfl
  have hd : dctOf [.dct false lawD] (.loc 0) = some (false, lawD) := rfl
  simp only [getV, hd, hk, if_true, lenD]
  cases q : look (.str s) lawD with
  | none => rfl
  | some v =>
    obtain ⟨p, hp, e⟩ := look_mem q
    obtain ⟨i, hi⟩ := lawD_int p hp
    rw [hi] at e
    subst e
    rfl
noncomputable abbrev pCell : PV := .str (Str.ofString "cell")
theorem cls (s : Str) (h1 : s ≠ Str.ofString "mark") (h2 : s ≠ Str.ofString "ask") (h3 : s ≠ Str.ofString "set") :
    (dlook s d_ROWS = none /\ lenD s = 0) \/ ∃ n, 2 <= n /\ n <= 4 /\ dlook s d_ROWS = some (.tp true (List.replicate n pCell)) /\ lenD s = ((n + 1 : Nat) : Int) := by
  by_cases a1 : s = Str.ofString "move"
  · subst a1; exact .inr ⟨2, by omega, by omega, by with_unfolding_all rfl, by with_unfolding_all rfl⟩
  by_cases a2 : s = Str.ofString "bare"
  · subst a2; exact .inr ⟨2, by omega, by omega, by with_unfolding_all rfl, by with_unfolding_all rfl⟩
  by_cases a3 : s = Str.ofString "twice"
  · subst a3; exact .inr ⟨2, by omega, by omega, by with_unfolding_all rfl, by with_unfolding_all rfl⟩
  by_cases a4 : s = Str.ofString "half"
  · subst a4; exact .inr ⟨2, by omega, by omega, by with_unfolding_all rfl, by with_unfolding_all rfl⟩
  by_cases a5 : s = Str.ofString "times"
  · subst a5; exact .inr ⟨4, by omega, by omega, by with_unfolding_all rfl, by with_unfolding_all rfl⟩
  by_cases a6 : s = Str.ofString "sum"
  · subst a6; exact .inr ⟨3, by omega, by omega, by with_unfolding_all rfl, by with_unfolding_all rfl⟩
  by_cases a7 : s = Str.ofString "less"
  · subst a7; exact .inr ⟨3, by omega, by omega, by with_unfolding_all rfl, by with_unfolding_all rfl⟩
  by_cases a8 : s = Str.ofString "both"
  · subst a8; exact .inr ⟨3, by omega, by omega, by with_unfolding_all rfl, by with_unfolding_all rfl⟩
  by_cases a9 : s = Str.ofString "any"
  · subst a9; exact .inr ⟨3, by omega, by omega, by with_unfolding_all rfl, by with_unfolding_all rfl⟩
  by_cases a0 : s = Str.ofString "odd"
  · subst a0; exact .inr ⟨3, by omega, by omega, by with_unfolding_all rfl, by with_unfolding_all rfl⟩
  have c : ∀ {x : Str}, ¬ s = x -> ¬ x = s := fun h e => h e.symm
  refine .inl ⟨?_, ?_⟩
  · simp only [d_ROWS, dlook, decide_eq_true_eq, c h1, c h2, c h3, c a1, c a2, c a3, c a4, c a5, c a6, c a7, c a8, c a9, c a0, if_false]
  · simp only [lenD, lawD, lawD0, List.cons_append, List.nil_append, look, peq_str, decide_eq_true_eq, c a1, c a2, c a3, c a4, c a5, c a6, c a7, c a8, c a9, c a0, if_false]
theorem zip_cells : ∀ (n : Nat) (r : List PV), r.length = n -> (zipUp (List.replicate n pCell) r).all prS = r.all celS
  | 0, [], _ => rfl
  | n + 1, x :: r, h => by
    have hp : prS (.tup [pCell, x]) = celS x := by
      have : peq pCell (.str sFig) = false := by rw [peq_str]; decide +kernel
      simp only [prS, opS, this, Bool.false_eq_true, if_false]
    rw [List.replicate_succ, zipUp, List.all_cons, List.all_cons, hp, zip_cells n r (by simpa using h)]
  | 0, _ :: _, h => by simp at h
  | n + 1, [], h => by simp at h
theorem in01 {d m : Nat} {v : PV} (hv : tam d m v = true) : (isI v = true -> cmpV .isin v (.tp false [.int 0, .int 1]) = some (.bl (wh 0 1 v))) /\ (isI v = false -> wh 0 1 v = false) := by
  cases v with
  | int i =>
    refine ⟨fun _ => ?_, fun z => (by cases z)⟩
    show some (PV.bl (inL (.int i) [.int 0, .int 1])) = _
    congr 2
    simp only [inL, peq, wh, Bool.or_false]
    rw [Bool.eq_iff_iff]
    simp
    omega
  | _ => exact ⟨fun z => (by cases z), fun _ => rfl⟩
theorem lt_nat (a b : Nat) : cmpV .lt (.int a) (.int b) = some (.bl (decide (a < b))) := by
  rw [c_lt]
  by_cases h : a < b
  · rw [decide_eq_true h, decide_eq_true (by omega)]
  · rw [decide_eq_false h, decide_eq_false (by omega)]
noncomputable def rwT1 : Css := match f_qis_row.body with | .cons _ r => r | x => x
noncomputable def rwT2 : Css := match rwT1 with | .cons _ r => r | x => x
noncomputable def rwT3 : Css := match rwT2 with | .cons _ r => r | x => x
noncomputable def rwT4 : Css := match rwT3 with | .cons _ r => r | x => x
noncomputable def rwT5 : Css := match rwT4 with | .cons _ (.cons _ r) => r | x => x
noncomputable def rwT6 : Css := match rwT5 with | .cons _ r => r | x => x
theorem rwS0 : f_qis_row.body = (match f_qis_row.body with | .cons a _ => .cons a rwT1 | x => x) := rfl
theorem rwS1 : rwT1 = (match f_qis_row.body with | .cons _ (.cons a _) => .cons a rwT2 | x => x) := rfl
theorem rwS2 : rwT2 = (match f_qis_row.body with | .cons _ (.cons _ (.cons a _)) => .cons a rwT3 | x => x) := rfl
theorem rwS3 : rwT3 = (match f_qis_row.body with | .cons _ (.cons _ (.cons _ (.cons a _))) => .cons a rwT4 | x => x) := rfl
theorem rwS4 : rwT4 = (match f_qis_row.body with | .cons _ (.cons _ (.cons _ (.cons _ (.cons (.asg t _) (.cons b _))))) => .cons (.asg t newE) (.cons b rwT5) | x => x) := rfl
theorem rwS5 : rwT5 = (match f_qis_row.body with | .cons _ (.cons _ (.cons _ (.cons _ (.cons _ (.cons _ (.cons a _)))))) => .cons a rwT6 | x => x) := rfl
theorem rwS6 : rwT6 = (match f_qis_row.body with | .cons _ (.cons _ (.cons _ (.cons _ (.cons _ (.cons _ (.cons _ a)))))) => a | x => x) := rfl
theorem law_row_ok (k : Nat) {d m : Nat} {v : PV} (hv : tam d m v = true) (hd : d <= 60) (hm : m <= 1000) (st : Store) : callT T (k + 3) i_qis_row [v] st = .ok (.bl (rowS v)) st := by
  have hT : T i_qis_row = some ⟨1, 2, true, f_qis_row.body⟩ := rfl
  have hn := tam_noLoc d m v hv
  rw [call_pure hT rfl rfl (by simp [noLocs, noLoc, hn])]
  dsimp only
  have hE : List.map some [v] ++ List.replicate (2 - 1) none = [some v, none] := rfl
  rw [hE]
  by_cases hx : ∃ b s x r, v = .tp b (.str s :: x :: r)
  · obtain ⟨b, s, x, r, rfl⟩ := hx
    obtain ⟨h0, h1, h2⟩ := tam_tp.1 hv
    have hlt : cmpV .lt (.int ((r.length + 1 + 1 : Nat) : Int)) (.int 2) = some (.bl false) := by
      have := lt_nat (r.length + 1 + 1) 2
      rw [decide_eq_false (by omega)] at this
      exact this
    have em := eq_s (h2 (.str s) List.mem_cons_self) (by omega) (Str.ofString "mark") (by decide +kernel)
    have ea := eq_s (h2 (.str s) List.mem_cons_self) (by omega) (Str.ofString "ask") (by decide +kernel)
    have es := eq_s (h2 (.str s) List.mem_cons_self) (by omega) (Str.ofString "set") (by decide +kernel)
    rw [peq_str] at em ea es
    have hx1 := h2 x (by simp)
    have hC := law_cell_ok k hx1 hm []
    have hW := law_whole_ok (k + 1) hx1 []
    have g0 : exs (callT T (k + 2)) [some (.tp b (.str s :: x :: r)), none] [] f_qis_row.body = exs (callT T (k + 2)) [some (.tp b (.str s :: x :: r)), none] [] rwT1 := by
      rw [rwS0]
      simp! [f_qis_row, isiV, isTy, isBl, len_tp2, hlt, ix0]
    rw [g0, rwS1]
    by_cases c1 : s = Str.ofString "mark"
    · have hrow : rowS (.tp b (.str s :: x :: r)) = (decide (r.length = 0) && wh 0 1 x) := by
        subst c1
        have hk : dlook (Str.ofString "mark") d_ROWS = some (.tp true [.str sFig]) := by with_unfolding_all rfl
        have ht : decide (Str.ofString "mark" = sTimes) = false := by decide +kernel
        have hp : prS (.tup [.str sFig, x]) = wh 0 1 x := by
          have : peq (.str sFig) (.str sFig) = true := by rw [peq_str]; simp
          simp only [prS, opS, this, if_true]
        cases r with
        | nil => simp [rowS, hk, zipUp, hp, ht]
        | cons y r => simp [rowS, hk]
      rw [hrow]
      rw [decide_eq_true c1] at em
      have hl := eq_nat (r.length + 1 + 1) 2
      rw [show decide (r.length + 1 + 1 = 2) = decide (r.length = 0) from decide_eq_decide.mpr (by omega)] at hl
      have hl : cmpV .eq (.int ((r.length + 1 + 1 : Nat) : Int)) (.int 2) = some (.bl (decide (r.length = 0))) := hl
      obtain ⟨i1, i2⟩ := in01 hx1
      cases q : decide (r.length = 0) with
      | false =>
        rw [q] at hl
        simp! [f_qis_row, out_bl, len_tp2, ix0, em, hl, Bool.false_and]
      | true =>
        rw [q] at hl
        cases w : isI x with
        | false =>
          rw [w] at hW
          rw [i2 w]
          simp! [f_qis_row, out_bl, len_tp2, ix0, ix1, em, hl, hW, Bool.true_and]
        | true =>
          rw [w] at hW
          have i1 := i1 w
          simp! [f_qis_row, out_bl, len_tp2, ix0, ix1, em, hl, hW, i1, Bool.true_and]
    · rw [decide_eq_false c1] at em
      have g1 : exs (callT T (k + 2)) [some (.tp b (.str s :: x :: r)), none] [] (match f_qis_row.body with | .cons _ (.cons a _) => .cons a rwT2 | x => x) = exs (callT T (k + 2)) [some (.tp b (.str s :: x :: r)), none] [] rwT2 := by
        simp! [f_qis_row, ix0, em]
      rw [g1, rwS2]
      by_cases c2 : s = Str.ofString "ask"
      · have hrow : rowS (.tp b (.str s :: x :: r)) = (decide (r.length = 0) && celS x) := by
          subst c2
          have hk : dlook (Str.ofString "ask") d_ROWS = some (.tp true [pCell]) := by with_unfolding_all rfl
          have ht : decide (Str.ofString "ask" = sTimes) = false := by decide +kernel
          have hp : prS (.tup [pCell, x]) = celS x := by
            have : peq pCell (.str sFig) = false := by rw [peq_str]; decide +kernel
            simp only [prS, opS, this, Bool.false_eq_true, if_false]
          cases r with
          | nil => simp [rowS, hk, zipUp, hp, ht]
          | cons y r => simp [rowS, hk]
        rw [hrow]
        rw [decide_eq_true c2] at ea
        have hl := eq_nat (r.length + 1 + 1) 2
        rw [show decide (r.length + 1 + 1 = 2) = decide (r.length = 0) from decide_eq_decide.mpr (by omega)] at hl
        have hl : cmpV .eq (.int ((r.length + 1 + 1 : Nat) : Int)) (.int 2) = some (.bl (decide (r.length = 0))) := hl
        cases q : decide (r.length = 0) with
        | false =>
          rw [q] at hl
          simp! [f_qis_row, out_bl, len_tp2, ix0, ea, hl, Bool.false_and]
        | true =>
          rw [q] at hl
          simp! [f_qis_row, out_bl, len_tp2, ix0, ix1, ea, hl, hC, Bool.true_and]
      · rw [decide_eq_false c2] at ea
        have g2 : exs (callT T (k + 2)) [some (.tp b (.str s :: x :: r)), none] [] (match f_qis_row.body with | .cons _ (.cons _ (.cons a _)) => .cons a rwT3 | x => x) = exs (callT T (k + 2)) [some (.tp b (.str s :: x :: r)), none] [] rwT3 := by
          simp! [f_qis_row, ix0, ea]
        rw [g2, rwS3]
        by_cases c3 : s = Str.ofString "set"
        · have hp : prS (.tup [pCell, x]) = celS x := by
            have : peq pCell (.str sFig) = false := by rw [peq_str]; decide +kernel
            simp only [prS, opS, this, Bool.false_eq_true, if_false]
          have hk : dlook s d_ROWS = some (.tp true [pCell, .str sFig]) := by subst c3; with_unfolding_all rfl
          have ht : decide (s = sTimes) = false := by subst c3; decide +kernel
          rw [decide_eq_true c3] at es
          have hl := eq_nat (r.length + 1 + 1) 3
          rw [show decide (r.length + 1 + 1 = 3) = decide (r.length = 1) from decide_eq_decide.mpr (by omega)] at hl
          have hl : cmpV .eq (.int ((r.length + 1 + 1 : Nat) : Int)) (.int 3) = some (.bl (decide (r.length = 1))) := hl
          by_cases q : r.length = 1
          · obtain ⟨y, rfl⟩ : ∃ y, r = [y] := by
              match r, q with
              | [y], _ => exact ⟨y, rfl⟩
            have hy := h2 y (by simp)
            have hW2 := law_whole_ok (k + 1) hy []
            obtain ⟨i1, i2⟩ := in01 hy
            have hp2 : prS (.tup [.str sFig, y]) = wh 0 1 y := by
              have : peq (.str sFig) (.str sFig) = true := by rw [peq_str]; simp
              simp only [prS, opS, this, if_true]
            have hrow : rowS (.tp b (.str s :: x :: [y])) = (celS x && wh 0 1 y) := by simp [rowS, hk, zipUp, hp, hp2, ht]
            rw [hrow]
            have hl : cmpV .eq (.int ((3 : Nat) : Int)) (.int 3) = some (.bl true) := rfl
            have hlt : cmpV .lt (.int ((3 : Nat) : Int)) (.int 2) = some (.bl false) := rfl
            cases z : celS x with
            | false =>
              rw [z] at hC
              simp! [f_qis_row, out_bl, len_tp2, ix0, ix1, es, hl, hC, Bool.false_and]
            | true =>
              rw [z] at hC
              cases w : isI y with
              | false =>
                rw [w] at hW2
                rw [i2 w]
                simp! [f_qis_row, out_bl, len_tp2, ix0, ix1, ix2, es, hl, hC, hW2, Bool.true_and]
              | true =>
                rw [w] at hW2
                have i1 := i1 w
                simp! [f_qis_row, out_bl, len_tp2, ix0, ix1, ix2, es, hl, hC, hW2, i1, Bool.true_and]
          · rw [decide_eq_false q] at hl
            have hrow : rowS (.tp b (.str s :: x :: r)) = false := by
              simp only [rowS, hk]
              rw [decide_eq_false (by simp; exact q)]
              rfl
            rw [hrow]
            simp! [f_qis_row, out_bl, len_tp2, ix0, es, hl]
        · rw [decide_eq_false c3] at es
          have g3 : exs (callT T (k + 2)) [some (.tp b (.str s :: x :: r)), none] [] (match f_qis_row.body with | .cons _ (.cons _ (.cons _ (.cons a _))) => .cons a rwT4 | x => x) = exs (callT T (k + 2)) [some (.tp b (.str s :: x :: r)), none] [] rwT4 := by
            simp! [f_qis_row, ix0, es]
          have g4 : exs (callT T (k + 2)) [some (.tp b (.str s :: x :: r)), none] [] rwT4 = exs (callT T (k + 2)) [some (.tp b (.str s :: x :: r)), some (.loc 0)] [.dct false lawD] rwT5 := by
            rw [rwS4]
            simp! [f_qis_row, new_ok, x_dput, put_ok, stO_some]
          rw [g3, g4, rwS5]
          have hmg : ∀ (o : PV), mthOk .get [.dct false lawD] (.loc 0) = some true := fun _ => rfl
          have hmg := hmg .non
          have hcut := cut1 (b := b) (x := .str s) (r := x :: r)
          have hcmp : compB (callT T (k + 2)) [none] (.n 0) (.cst (.bl true)) (.call i_qis_cell (.cons (.var 0) .nil)) (x :: r) [.dct false lawD] = .ok ((x :: r).map fun y => .bl (celS y)) [.dct false lawD] := by
            refine compB_map _ fun p hp => ?_
            have := law_cell_ok k (h2 p (List.mem_cons_of_mem _ hp)) hm [.dct false lawD]
            simp! [oneB, this]
          have hlr : lstR (.ok ((x :: r).map fun y => PV.bl (celS y)) [.dct false lawD]) = .ok (.lst ((x :: r).map fun y => .bl (celS y))) [.dct false lawD] := lstR_le _ (by rw [List.length_map]; simp only [List.length_cons] at h1 ⊢; omega) _
          have ht := ne_s (h2 (.str s) List.mem_cons_self) (by omega) sTimes times_ok
          rw [peq_str] at ht
          rcases cls s c1 c2 c3 with ⟨k0, l0⟩ | ⟨n, n2, n4, k0, l0⟩
          · have hrow : rowS (.tp b (.str s :: x :: r)) = false := by simp only [rowS, k0]
            rw [hrow]
            have hne : cmpV .ne (.int (lenD s)) (.int ((r.length + 1 + 1 : Nat) : Int)) = some (.bl true) := by
              have := ne_nat 0 (r.length + 1 + 1)
              rw [decide_eq_false (by omega)] at this
              rw [l0]; exact this
            simp! [f_qis_row, out_bl, len_tp2, ix0, hmg, mget, get_ok, hne]
          · have hne : cmpV .ne (.int (lenD s)) (.int ((r.length + 1 + 1 : Nat) : Int)) = some (.bl (!decide (r.length + 1 = n))) := by
              have := ne_nat (n + 1) (r.length + 1 + 1)
              rw [show decide (n + 1 = r.length + 1 + 1) = decide (r.length + 1 = n) from decide_eq_decide.mpr (by omega)] at this
              rw [l0]; exact this
            by_cases hl : r.length + 1 = n
            · have hrow : rowS (.tp b (.str s :: x :: r)) = ((x :: r).all celS && (!decide (s = sTimes) || unl (x :: r))) := by
                simp only [rowS, k0, List.length_replicate]
                rw [decide_eq_true (by simpa using hl), zip_cells n (x :: r) (by simpa using hl), Bool.true_and]
              rw [hrow]
              rw [decide_eq_true hl] at hne
              have hall := fun st => all_lst celS (x :: r) st
              simp only [List.map_cons] at hlr hall hcmp
              cases z : (x :: r).all celS with
              | false =>
                rw [z] at hall
                simp! [f_qis_row, out_bl, len_tp2, ix0, hmg, mget, get_ok, hne, onP_int, hcut, hcmp, hlr, hall, Bool.false_and]
              | true =>
                rw [z] at hall
                have g5 : exs (callT T (k + 2)) [some (.tp b (.str s :: x :: r)), some (.loc 0)] [.dct false lawD] (match f_qis_row.body with | .cons _ (.cons _ (.cons _ (.cons _ (.cons _ (.cons _ (.cons a _)))))) => .cons a rwT6 | x => x) = exs (callT T (k + 2)) [some (.tp b (.str s :: x :: r)), some (.loc 0)] [.dct false lawD] rwT6 := by
                  simp! [f_qis_row, len_tp2, ix0, hmg, mget, get_ok, hne, onP_int, hcut, hcmp, hlr, hall]
                rw [g5, rwS6]
                by_cases hst : s = sTimes
                · obtain ⟨y, r', rfl⟩ : ∃ y r', r = y :: r' := by
                    cases r with
                    | nil => simp at hl; omega
                    | cons y r' => exact ⟨y, r', rfl⟩
                  have hac := ne_sh hx1 (by omega) (h2 y (by simp)) (by omega)
                  rw [decide_eq_true hst] at ht ⊢
                  have hu : unl (x :: y :: r') = !peq x y := rfl
                  rw [hu]
                  skip
                  simp! [f_qis_row, out_bl, ix0, ix1, ix2, ht, hac, Bool.true_and, Bool.false_or]
                · rw [decide_eq_false hst] at ht ⊢
                  simp! [f_qis_row, out_bl, ix0, ht, Bool.true_and, Bool.true_or]
            · have hrow : rowS (.tp b (.str s :: x :: r)) = false := by
                simp only [rowS, k0, List.length_replicate]
                rw [decide_eq_false (by simpa using hl)]
                rfl
              rw [hrow]
              rw [decide_eq_false hl] at hne
              simp! [f_qis_row, out_bl, len_tp2, ix0, hmg, mget, get_ok, hne]
  · have hrow : rowS v = false := by
      unfold rowS
      split
      · rename_i b s r
        split
        · rename_i k1 ks q
          obtain ⟨ks', e, _, h1, _⟩ := look_row q
          cases e
          cases r with
          | nil => rw [decide_eq_false (by simp; omega)]; rfl
          | cons x r => exact absurd ⟨b, s, x, r, rfl⟩ hx
        · rfl
      · rfl
    rw [hrow, rwS0]
    cases v with
    | tp b xs =>
      obtain ⟨h0, h1, h2⟩ := tam_tp.1 hv
      cases xs with
      | nil =>
        have hlt : cmpV .lt (.int (([] : List PV).length : Int)) (.int 2) = some (.bl true) := rfl
        simp! [f_qis_row, out_bl, isiV, isTy, isBl, len_tp2, hlt]
        rfl
      | cons y r =>
        cases r with
        | nil =>
          have hlt : cmpV .lt (.int ((1 : Nat) : Int)) (.int 2) = some (.bl true) := rfl
          simp! [f_qis_row, out_bl, isiV, isTy, isBl, len_tp2, hlt]
        | cons x r =>
          have hlt : cmpV .lt (.int ((r.length + 1 + 1 : Nat) : Int)) (.int 2) = some (.bl false) := by
            have := lt_nat (r.length + 1 + 1) 2
            rw [decide_eq_false (by omega)] at this
            exact this
          have hy := h2 y (by simp)
          cases y with
          | str s => exact absurd ⟨b, s, x, r, rfl⟩ hx
          | loc _ => simp [tam] at hy
          | exn _ => simp [tam] at hy
          | scr _ => simp [tam] at hy
          | _ => simp! [f_qis_row, out_bl, isiV, isTy, isBl, len_tp2, hlt, ix0]
    | loc _ => simp [tam] at hv
    | exn _ => simp [tam] at hv
    | scr _ => simp [tam] at hv
    | _ => simp! [f_qis_row, out_bl, isiV, isTy, isBl]
end WK
namespace WK
open IC PySem
local macro_rules | `(tactic| simp! [$xs,*]) => `(tactic| simp only [IC.xs_cons, IC.xs_nil, IC.x_asg, IC.x_ite, IC.x_ret, IC.x_expr, IC.x_for, IC.x_six, IC.x_try, IC.x_raise, IC.evs, IC.evi, IC.ev.eq_1, IC.ev.eq_2, IC.ev.eq_3, IC.ev.eq_4, IC.ev.eq_5, IC.ev.eq_6, IC.ev.eq_7, IC.ev.eq_8, IC.ev.eq_9, IC.ev.eq_10, IC.ev.eq_11, IC.ev.eq_12, IC.ev.eq_13, IC.ev.eq_14, IC.ev.eq_15, IC.ev.eq_16, IC.ev.eq_17, IC.ev.eq_18, IC.ev.eq_19, IC.ev.eq_20, IC.ev.eq_21, IC.ev.eq_22, IC.ev.eq_24, IC.ev.eq_25, IC.ev.eq_26, IC.ev.eq_28,  IC.v_comp, List.getElem?_cons_zero, List.getElem?_cons_succ, WK.bd_ok, WK.fl_ok, WK.bd_exc, WK.fl_exc, WK.toR_some, IC.toL, WK.bT_n, WK.nxO_some, WK.th_nx, WK.th_rt, WK.th_exc, List.set_cons_zero, List.set_cons_succ, WK.on_t, WK.t_bl, WK.ono, IC.onBl, cond_true, cond_false, List.length_cons, List.length_nil, Nat.zero_add, Nat.reduceAdd, Nat.reduceSub, Nat.reduceLeDiff, if_true, IC.noLoc, IC.noLocs, WK.noLocs_ints, Bool.and_self, Bool.not_true, Bool.not_false, List.map_cons, List.map_nil, List.replicate, List.cons_append, List.nil_append, List.append_nil, Option.bind_none, Option.bind_some, Option.join_some, WK.b_add, WK.b_sub, WK.b_mul2, WK.b_div2, WK.c_lt, WK.c_le, WK.c_gt, WK.c_ge, WK.c_eq, WK.c_ne, IC.PV.tup, IC.sizeMax, $xs,*])
def isC2 (v : PV) : Prop := ∃ c a, 97 <= c /\ c <= 122 /\ 0 <= a /\ a <= 99 /\ v = .tp false [.str ⟨#[c]⟩, .int a]
theorem C2_cel {v : PV} (h : isC2 v) : celS v = true := by
  obtain ⟨c, a, h1, h2, h3, h4, rfl⟩ := h
  simp [celS, ltr, wh, h1, h2, h3, h4]
theorem C2_tam {v : PV} (h : isC2 v) : tam 2 10 v = true := by
  obtain ⟨c, a, h1, h2, h3, h4, rfl⟩ := h
  simp [tam, tams]; omega
theorem abc_at : ∀ n : Fin 26, sAbc.cps.toList[n.val]? = some (97 + n.val) := by decide +kernel
theorem idx_abc {i : Int} (h0 : 0 <= i) (h1 : i < 26) : ∃ c, 97 <= c /\ c <= 122 /\ ∀ st, idxV st (.str sAbc) (.int i) = some (.str ⟨#[c]⟩) := by
  obtain ⟨n, rfl⟩ := nat_int h0
  have hn : n < 26 := by omega
  have hl : sAbc.length <= sizeMax := by decide +kernel
  refine ⟨97 + n, by omega, by omega, fun st => ?_⟩
  have e := abc_at ⟨n, hn⟩
  have hx : ixI sAbc.cps.toList.length (n : Int) = some n := by
    rw [abc_len]
    simp [ixI]; omega
  simp only [idxV, if_pos hl, idxI, at?, hx, Option.bind_some, e, Option.map_some]
theorem some_letter {ns : List Int} (hns : ns.length <= 1000) (k : Nat) {st : Store} (h : Drw ns 0 st) : ∃ c st', 97 <= c /\ c <= 122 /\ Onl ns 0 st st' /\ callT T (k + 4) i_qsome_letter [.loc 0] st = .ok (.str ⟨#[c]⟩) st' := by
  have hT : T i_qsome_letter = some f_qsome_letter := rfl
  obtain ⟨w, s1, w0, w1, o1, e1⟩ := takeD k hns (m := 26) (by omega) (by omega) h
  obtain ⟨c, c0, c1, hc⟩ := idx_abc w0 w1
  refine ⟨c, s1, c0, c1, o1, ?_⟩
  rw [call_imp hT rfl rfl]
  simp! [f_qsome_letter, out_rt, e1, hc]
theorem some_cell {ns : List Int} (hns : ns.length <= 1000) (k : Nat) {st : Store} (h : Drw ns 0 st) : ∃ v st', isC2 v /\ Onl ns 0 st st' /\ callT T (k + 5) i_qsome_cell [.loc 0] st = .ok v st' := by
  have hT : T i_qsome_cell = some f_qsome_cell := rfl
  obtain ⟨c, s1, c0, c1, o1, e1⟩ := some_letter hns k h
  obtain ⟨a, s2, a0, a1, o2, e2⟩ := takeD (k + 1) hns (m := 100) (by omega) (by omega) (o1.drw h)
  obtain ⟨b, s3, b0, b1, o3, e3⟩ := takeD (k + 1) hns (m := 100) (by omega) (by omega) (o2.drw (o1.drw h))
  obtain ⟨w, s4, w0, w1, o4, e4⟩ := takeD (k + 1) hns (m := 4) (by omega) (by omega) (o3.drw (o2.drw (o1.drw h)))
  have e2 : callT T (k + 4) i_qtake [.loc 0, .int 100] s1 = _ := e2
  have e3 : callT T (k + 4) i_qtake [.loc 0, .int 100] s2 = _ := e3
  have e4 : callT T (k + 4) i_qtake [.loc 0, .int 4] s3 = _ := e4
  obtain ⟨x, hx, hi⟩ := idx_tp (k := false) (xs := [.int 0, .int 99, .int a, .int b]) w0 (show w < ((4 : Nat) : Int) from w1)
  have hx' : ∃ q, 0 <= q /\ q <= 99 /\ x = .int q := by
    simp only [List.mem_cons, List.not_mem_nil, or_false] at hx
    rcases hx with rfl | rfl | rfl | rfl
    · exact ⟨0, by omega, by omega, rfl⟩
    · exact ⟨99, by omega, by omega, rfl⟩
    · exact ⟨a, by omega, by omega, rfl⟩
    · exact ⟨b, by omega, by omega, rfl⟩
  obtain ⟨q, q0, q1, rfl⟩ := hx'
  refine ⟨_, s4, ⟨c, q, c0, c1, q0, q1, rfl⟩, ((o1.trans o2).trans o3).trans o4, ?_⟩
  rw [call_imp hT rfl rfl]
  simp! [f_qsome_cell, out_rt, e1, e2, e3, e4, hi]
noncomputable def two : List PV -> Prop
  | a :: b :: _ => peq a b = false
  | _ => True
noncomputable def scB : Css := match f_qsome_cells.body with
  | .cons _ (.cons (.for _ _ b) _) => b
  | _ => .nil
noncomputable def scT : Css := match f_qsome_cells.body with
  | .cons _ (.cons _ r) => r
  | _ => .nil
theorem app_at {st : Store} {L : Nat} {xs : List PV} {v : PV} (h : st[L]? = some (.lst xs)) (hl : xs.length < 1000) : mthOk .append st (.loc L) = some true /\ mthV .append st (.loc L) [v] = .ok .non (st.set L (.lst (xs ++ [v]))) := by
  constructor
  · simp [mthOk, lstOf, h]
  · simp only [mthV, appV, h]
    rw [if_pos (by omega)]
theorem C2_shds {xs : List PV} (h : ∀ y ∈ xs, isC2 y) : shds 60 xs = true := tams_shd 2 10 xs 60 ((tams_all 2 10 xs).2 fun x hx => C2_tam (h x hx)) (by omega)
theorem two_app {xs : List PV} {v : PV} (h : two xs) (hv : inL v xs = false) : two (xs ++ [v]) := by
  match xs, h with
  | [], _ => trivial
  | [a], _ =>
    simp only [inL, Bool.or_false] at hv
    exact hv
  | a :: b :: r, h => exact h
theorem cells_loop {ns : List Int} (hns : ns.length <= 1000) (k : Nat) {p1 : Option PV} {L : Nat} (hL : L ≠ 0) : ∀ (N : Nat) (a : Int) (acc : List PV) (p3 p4 : Option PV) (st : Store), (∀ y ∈ acc, isC2 y) -> two acc -> acc.length + N <= 900 -> Drw ns 0 st -> st[L]? = some (.lst acc) ->
    ∃ acc' q3 q4 st', (∀ y ∈ acc', isC2 y) /\ two acc' /\ acc'.length <= acc.length + N /\ (0 < acc.length + N -> 0 < acc'.length) /\ Drw ns 0 st' /\ st'[L]? = some (.lst acc') /\
      forB (callT T (k + 5)) (.n 3) scB (rangeL N a 1) [some (.loc 0), p1, some (.loc L), p3, p4] st = .nx [some (.loc 0), p1, some (.loc L), q3, q4] st'
  | 0, a, acc, p3, p4, st, h1, h2, h3, h, hs => ⟨acc, p3, p4, st, h1, h2, by omega, by omega, h, hs, by rw [rangeL, forB_nil]⟩
  | N + 1, a, acc, p3, p4, st, h1, h2, h3, h, hs => by
    obtain ⟨v, s1, hv, o1, e1⟩ := some_cell hns k h
    have g1 := o1.drw h
    have hs1 : s1[L]? = some (.lst acc) := by rw [o1.get hL]; exact hs
    have hn : ninV s1 v (.loc L) = some (.bl (!inL v acc)) := by
      simp only [ninV, hs1]
      rw [if_pos (by rw [tam_shp (C2_tam hv) (by omega), C2_shds h1]; rfl)]
    cases q : inL v acc with
    | true =>
      rw [q] at hn
      obtain ⟨acc', q3, q4, st', r1, r2, r3, r4, r5, r6, r7⟩ := cells_loop hns k (p1 := p1) hL N (a + 1) acc (some (.int a)) (some v) s1 h1 h2 (by omega) g1 hs1
      have : 0 < acc.length := by
        cases acc with
        | nil => simp [inL] at q
        | cons x r => simp
      refine ⟨acc', q3, q4, st', r1, r2, by omega, fun _ => r4 (by omega), r5, r6, ?_⟩
      have hb : exs (callT T (k + 5)) [some (.loc 0), p1, some (.loc L), some (.int a), p4] st scB = .nx [some (.loc 0), p1, some (.loc L), some (.int a), some v] s1 := by
        simp! [scB, f_qsome_cells, e1, IC.ev.eq_31, hn]
      rw [rangeL, forB_cons (ρ1 := [some (.loc 0), p1, some (.loc L), some (.int a), p4]) rfl, hb]
      exact r7
    | false =>
      rw [q] at hn
      obtain ⟨m1, m2⟩ := app_at (v := v) hs1 (by omega)
      obtain ⟨acc', q3, q4, st', r1, r2, r3, r4, r5, r6, r7⟩ := cells_loop hns k (p1 := p1) hL N (a + 1) (acc ++ [v]) (some (.int a)) (some v) (s1.set L (.lst (acc ++ [v]))) (fun y hy => by
        rcases List.mem_append.1 hy with hy | hy
        · exact h1 y hy
        · simp at hy; rw [hy]; exact hv) (two_app h2 q) (by simp; omega) (g1.put hL _) (rdS hs1)
      rw [List.length_append, List.length_singleton] at r3 r4
      refine ⟨acc', q3, q4, st', r1, r2, by omega, fun _ => r4 (by omega), r5, r6, ?_⟩
      have hb : exs (callT T (k + 5)) [some (.loc 0), p1, some (.loc L), some (.int a), p4] st scB = .nx [some (.loc 0), p1, some (.loc L), some (.int a), some v] (s1.set L (.lst (acc ++ [v]))) := by
        simp! [scB, f_qsome_cells, e1, IC.ev.eq_31, hn, m1, m2]
      rw [rangeL, forB_cons (ρ1 := [some (.loc 0), p1, some (.loc L), some (.int a), p4]) rfl, hb]
      exact r7
theorem some_cells {ns : List Int} (hns : ns.length <= 1000) (k : Nat) {st : Store} (h : Drw ns 0 st) (many : Nat) (hm : many <= 20) : ∃ xs st', (∀ y ∈ xs, isC2 y) /\ two xs /\ 2 <= xs.length /\ xs.length <= 30 /\ Drw ns 0 st' /\ callT T (k + 6) i_qsome_cells [.loc 0, .int many] st = .ok (.lst xs) st' := by
  have hT : T i_qsome_cells = some ⟨2, 5, false, f_qsome_cells.body⟩ := rfl
  have hL : st.length ≠ 0 := by have := h.pos; omega
  have h1 := h.app (.lst [])
  have hs1 : (st ++ [Ob.lst []])[st.length]? = some (.lst []) := by simp
  obtain ⟨xs, q3, q4, s2, r1, r2, r3, r4, r5, r6, r7⟩ := cells_loop hns k (p1 := some (.int many)) hL (2 + many) 0 [] none none (st ++ [.lst []]) (by simp) trivial (by simp; omega) h1 hs1
  have r4 := r4 (by omega)
  have hr : rng1 (.int (2 + (many : Int))) = some (rangeL (2 + many) 0 1) := by
    have := rng1_nat (2 + many) (by omega)
    rw [<- this]; congr 2
  have hb : f_qsome_cells.body = (match f_qsome_cells.body with
    | .cons a (.cons (.for t i _) _) => .cons a (.cons (.for t i scB) scT)
    | _ => .nil) := rfl
  simp only [List.length_nil, Nat.zero_add] at r3
  have hlen : bltV .len s2 [.loc st.length] = some (.int xs.length) := by simp [bltV, lenV, seqOf, r6]
  have hq := eq_nat xs.length 1
  by_cases cz : xs.length = 1
  · obtain ⟨x, rfl⟩ : ∃ x, xs = [x] := by
      match xs, cz with
      | [x], _ => exact ⟨x, rfl⟩
    obtain ⟨c, a, c0, c1, a0, a1, rfl⟩ := r1 x (by simp)
    have i0 : idxV s2 (.loc st.length) (.int 0) = some (.tp false [.str ⟨#[c]⟩, .int a]) := by simp only [idxV, r6]; rfl
    have hmod : binV .mod (.int (a + 1)) (.int 100) = some (.int ((a + 1) % 100)) := b_mod (by omega)
    obtain ⟨m1, m2⟩ := app_at (v := .tp false [.str ⟨#[c]⟩, .int ((a + 1) % 100)]) r6 (by simp)
    obtain ⟨s3, hs3⟩ : ∃ s3, s3 = s2.set st.length (.lst ([.tp false [.str ⟨#[c]⟩, .int a]] ++ [.tp false [.str ⟨#[c]⟩, .int ((a + 1) % 100)]])) := ⟨_, rfl⟩
    have g3 : Drw ns 0 s3 := by rw [hs3]; exact r5.put hL _
    have hf : frzV (.loc st.length) s3 = .ok (.lst [.tp false [.str ⟨#[c]⟩, .int a], .tp false [.str ⟨#[c]⟩, .int ((a + 1) % 100)]]) (s3.set st.length .dead) := by
      have : s3[st.length]? = some (.lst [.tp false [.str ⟨#[c]⟩, .int a], .tp false [.str ⟨#[c]⟩, .int ((a + 1) % 100)]]) := by rw [hs3]; exact rdS r6
      simp only [frzV, this]
    rw [<- hs3] at m2
    refine ⟨[.tp false [.str ⟨#[c]⟩, .int a], .tp false [.str ⟨#[c]⟩, .int ((a + 1) % 100)]], s3.set st.length .dead, fun y hy => ?_, ?_, by simp, by simp, g3.put hL _, ?_⟩
    · simp only [List.mem_cons, List.not_mem_nil, or_false] at hy
      rcases hy with rfl | rfl
      · exact ⟨c, a, c0, c1, a0, a1, rfl⟩
      · exact ⟨c, (a + 1) % 100, c0, c1, by omega, by omega, rfl⟩
    · show peq _ _ = false
      simp [peq, peqs]
      omega
    · rw [call_imp hT rfl rfl]
      dsimp only
      rw [hb]
      have hlen : bltV .len s2 [.loc st.length] = some (.int 1) := hlen
      simp! [f_qsome_cells, out_rt, Nat.zero_le, hr, r7]
      simp! [scT, f_qsome_cells, out_rt, hlen, c_eq, beq_self_eq_true, m1, i0, ix0, ix1, hmod, m2, ev.eq_24, hf]
  · rw [decide_eq_false cz] at hq
    have hf : frzV (.loc st.length) s2 = .ok (.lst xs) (s2.set st.length .dead) := by simp only [frzV, r6]
    refine ⟨xs, s2.set st.length .dead, r1, r2, by omega, by omega, r5.put hL _, ?_⟩
    rw [call_imp hT rfl rfl]
    dsimp only
    rw [hb]
    simp! [f_qsome_cells, out_rt, Nat.zero_le, hr, r7]
    have hq2 : ((xs.length : Int) == 1) = false := by simp; omega
    simp! [scT, f_qsome_cells, out_rt, hlen, hq2, ev.eq_24, hf]
end WK
namespace WK
open IC PySem
local macro_rules | `(tactic| simp! [$xs,*]) => `(tactic| simp only [IC.xs_cons, IC.xs_nil, IC.x_asg, IC.x_ite, IC.x_ret, IC.x_expr, IC.x_for, IC.x_six, IC.x_try, IC.x_raise, IC.evs, IC.evi, IC.ev.eq_1, IC.ev.eq_2, IC.ev.eq_3, IC.ev.eq_4, IC.ev.eq_5, IC.ev.eq_6, IC.ev.eq_7, IC.ev.eq_8, IC.ev.eq_9, IC.ev.eq_10, IC.ev.eq_11, IC.ev.eq_12, IC.ev.eq_13, IC.ev.eq_14, IC.ev.eq_15, IC.ev.eq_16, IC.ev.eq_17, IC.ev.eq_18, IC.ev.eq_19, IC.ev.eq_20, IC.ev.eq_21, IC.ev.eq_22, IC.ev.eq_24, IC.ev.eq_25, IC.ev.eq_26, IC.ev.eq_28,  IC.v_comp, List.getElem?_cons_zero, List.getElem?_cons_succ, WK.bd_ok, WK.fl_ok, WK.bd_exc, WK.fl_exc, WK.toR_some, IC.toL, WK.bT_n, WK.nxO_some, WK.th_nx, WK.th_rt, WK.th_exc, List.set_cons_zero, List.set_cons_succ, WK.on_t, WK.t_bl, WK.ono, IC.onBl, cond_true, cond_false, List.length_cons, List.length_nil, Nat.zero_add, Nat.reduceAdd, Nat.reduceSub, Nat.reduceLeDiff, if_true, IC.noLoc, IC.noLocs, WK.noLocs_ints, Bool.and_self, Bool.not_true, Bool.not_false, List.map_cons, List.map_nil, List.replicate, List.cons_append, List.nil_append, List.append_nil, Option.bind_none, Option.bind_some, Option.join_some, WK.b_add, WK.b_sub, WK.b_mul2, WK.b_div2, WK.c_lt, WK.c_le, WK.c_gt, WK.c_ge, WK.c_eq, WK.c_ne, IC.PV.tup, IC.sizeMax, $xs,*])
noncomputable def someE : Ce := .idx (.var 1) (.call i_qtake (.cons (.var 2) (.cons (.blt .len (.cons (.var 1) .nil)) .nil)))
theorem len_lst {xs : List PV} {st : Store} : bltV .len st [.lst xs] = some (.int xs.length) := rfl
theorem somes {ns : List Int} (hns : ns.length <= 1000) (k : Nat) {xs : List PV} (hx : 0 < xs.length) (hx2 : xs.length <= 1000) : ∀ (N : Nat) (a : Int) (st : Store), Drw ns 0 st -> ∃ ys st', ys.length = N /\ (∀ y ∈ ys, y ∈ xs) /\ Onl ns 0 st st' /\
    compB (callT T (k + 3)) [none, some (.lst xs), some (.loc 0)] (.n 0) (.cst (.bl true)) someE (rangeL N a 1) st = .ok ys st'
  | 0, a, st, h => ⟨[], st, rfl, by simp, h.refl, by rw [rangeL, compB_nil]⟩
  | N + 1, a, st, h => by
    obtain ⟨w, s1, w0, w1, o1, e1⟩ := takeD k hns (m := (xs.length : Int)) (by omega) (by omega) h
    obtain ⟨x, hx', hi⟩ := idx_lst (st := s1) w0 w1
    obtain ⟨ys, s3, l, t, o3, e3⟩ := somes hns k hx hx2 N (a + 1) s1 (o1.drw h)
    refine ⟨x :: ys, s3, by simp [l], fun y hy => ?_, o1.trans o3, ?_⟩
    · rcases List.mem_cons.1 hy with rfl | hy
      · exact hx'
      · exact t y hy
    · have one : oneB (callT T (k + 3)) [none, some (.lst xs), some (.loc 0)] (.n 0) (.cst (.bl true)) someE (.int a) st = .ok (some x) s1 := by
        simp! [oneB, someE, len_lst, e1, hi]
      rw [rangeL, compB_cons, one, bd_ok, e3, bd_ok]
      rfl
noncomputable def names13 : List PV := [.str (Str.ofString "set"), .str (Str.ofString "move"), .str (Str.ofString "bare"), .str (Str.ofString "sum"), .str (Str.ofString "less"), .str (Str.ofString "both"), .str (Str.ofString "any"), .str (Str.ofString "odd"), .str (Str.ofString "twice"), .str (Str.ofString "half"), .str (Str.ofString "times"), .str (Str.ofString "mark"), .str (Str.ofString "ask")]
noncomputable def four : List PV := [.str (Str.ofString "move"), .str (Str.ofString "bare"), .str (Str.ofString "twice"), .str (Str.ofString "half")]
theorem names_kind : ∀ x ∈ names13, ∃ s, x = .str s /\ tam 1 10 (.str s) = true /\ 0 < s.cps.toList.length /\ (s = Str.ofString "mark" \/ s = Str.ofString "ask" \/ s = Str.ofString "set" \/ s = sTimes \/
    ((s ≠ Str.ofString "mark" /\ s ≠ Str.ofString "ask" /\ s ≠ Str.ofString "set" /\ s ≠ sTimes) /\ (dlook s d_ROWS = some (.tp true (List.replicate 2 pCell)) /\ inL (.str s) four = true \/ dlook s d_ROWS = some (.tp true (List.replicate 3 pCell)) /\ inL (.str s) four = false))) := by
  intro x hx
  simp only [names13, List.mem_cons, List.not_mem_nil, or_false] at hx
  rcases hx with rfl | rfl | rfl | rfl | rfl | rfl | rfl | rfl | rfl | rfl | rfl | rfl | rfl <;> refine ⟨_, rfl, by decide +kernel, by decide +kernel, ?_⟩
  case inl => exact .inr (.inr (.inl rfl))
  case inr.inr.inr.inr.inr.inr.inr.inr.inr.inr.inl => exact .inr (.inr (.inr (.inl rfl)))
  case inr.inr.inr.inr.inr.inr.inr.inr.inr.inr.inr.inl => exact .inl rfl
  case inr.inr.inr.inr.inr.inr.inr.inr.inr.inr.inr.inr => exact .inr (.inl rfl)
  all_goals refine .inr (.inr (.inr (.inr ⟨⟨by decide +kernel, by decide +kernel, by decide +kernel, by decide +kernel⟩, ?_⟩)))
  all_goals first | exact .inl ⟨by with_unfolding_all rfl, by decide +kernel⟩ | exact .inr ⟨by with_unfolding_all rfl, by decide +kernel⟩
structure RowOk (s : Str) (ps : List PV) : Prop where
  row : rowS (.tp false (.str s :: ps)) = true
  ts : tam 1 10 (.str s) = true
  pos : 0 < s.cps.toList.length
  few : ps.length <= 4
  one : 1 <= ps.length
  tim : s = sTimes -> 2 <= ps.length
  tp : ∀ p ∈ ps, tam 2 10 p = true
theorem rowCells {s : Str} {n : Nat} {ps : List PV} (hk : dlook s d_ROWS = some (.tp true (List.replicate n pCell))) (hl : ps.length = n) (hc : ∀ p ∈ ps, isC2 p) (ht : s = sTimes -> unl ps = true) : rowS (.tp false (.str s :: ps)) = true := by
  simp only [rowS, hk, List.length_replicate]
  rw [decide_eq_true hl, zip_cells n ps hl, List.all_eq_true.2 fun p hp => C2_cel (hc p hp)]
  by_cases c : s = sTimes
  · rw [ht c]; simp
  · rw [decide_eq_false c]; simp
noncomputable def srT : Css := match f_qsome_row.body with
  | .cons _ (.cons _ (.cons _ (.cons _ r))) => r
  | _ => .nil
noncomputable def srT1 : Css := match srT with | .cons _ r => r | x => x
noncomputable def srT2 : Css := match srT1 with | .cons _ r => r | x => x
noncomputable def srT3 : Css := match srT2 with | .cons _ r => r | x => x
noncomputable def srT4 : Css := match srT3 with | .cons _ r => r | x => x
theorem sS0 : srT = (match f_qsome_row.body with | .cons _ (.cons _ (.cons _ (.cons _ (.cons a _)))) => .cons a srT1 | x => x) := rfl
theorem sS1 : srT1 = (match f_qsome_row.body with | .cons _ (.cons _ (.cons _ (.cons _ (.cons _ (.cons a _))))) => .cons a srT2 | x => x) := rfl
theorem sS2 : srT2 = (match f_qsome_row.body with | .cons _ (.cons _ (.cons _ (.cons _ (.cons _ (.cons _ (.cons a _)))))) => .cons a srT3 | x => x) := rfl
theorem sS3 : srT3 = (match f_qsome_row.body with | .cons _ (.cons _ (.cons _ (.cons _ (.cons _ (.cons _ (.cons _ (.cons a _))))))) => .cons a srT4 | x => x) := rfl
theorem sS4 : srT4 = (match f_qsome_row.body with | .cons _ (.cons _ (.cons _ (.cons _ (.cons _ (.cons _ (.cons _ (.cons _ a))))))) => a | x => x) := rfl
noncomputable def aftO (o : Option Store) (k : Store -> Fl) : Fl := match o with
  | none => .bad
  | some st => k st
theorem aft_some {st : Store} {k : Store -> Fl} : aftO (some st) k = k st := rfl
theorem x_six2 {call : Cl} {ρ : IC.Env} {st : Store} {o i p j e f : Ce} : ex call ρ st (.six2 o i p j e f) = (ev call ρ st e).fl ρ fun v st1 => (ev call ρ st1 f).fl ρ fun w st2 => (ev call ρ st2 o).fl ρ fun x st3 => (ev call ρ st3 i).fl ρ fun y st4 => aftO (sixV st4 x y v) fun st5 => (ev call ρ st5 p).fl ρ fun x2 st6 => (ev call ρ st6 j).fl ρ fun y2 st7 => stO ρ (sixV st7 x2 y2 w) := by
  rw [ex]
  refine congrArg _ (funext fun v => funext fun st1 => congrArg _ (funext fun w => funext fun st2 => congrArg _ (funext fun x => funext fun st3 => congrArg _ (funext fun y => funext fun st4 => ?_))))
  cases sixV st4 x y v with
  | none => rfl
  | some st5 =>
    dsimp only [aftO]
    refine congrArg _ (funext fun x2 => funext fun st6 => congrArg _ (funext fun y2 => funext fun st7 => ?_))
    cases sixV st7 x2 y2 w <;> rfl
theorem rest_row {ns : List Int} (k : Nat) {s : Str} {x0 x1 : PV} {xs : List PV} {q : Int} {p2 : Option PV} {y0 y1 y2 y3 : PV} {st : Store} (h : Drw ns 0 st) (hx : ∀ x ∈ x0 :: x1 :: xs, isC2 x) (hx2 : two (x0 :: x1 :: xs)) (hy : ∀ y ∈ [y0, y1, y2, y3], isC2 y) (q0 : 0 <= q) (q1 : q < 2)
    (ts : tam 1 10 (.str s) = true) (tl : 0 < s.cps.toList.length) (hk : s = Str.ofString "mark" \/ s = Str.ofString "ask" \/ s = Str.ofString "set" \/ s = sTimes \/
    ((s ≠ Str.ofString "mark" /\ s ≠ Str.ofString "ask" /\ s ≠ Str.ofString "set" /\ s ≠ sTimes) /\ (dlook s d_ROWS = some (.tp true (List.replicate 2 pCell)) /\ inL (.str s) four = true \/ dlook s d_ROWS = some (.tp true (List.replicate 3 pCell)) /\ inL (.str s) four = false))) :
    ∃ ps st', RowOk s ps /\ Drw ns 0 st' /\ exs (callT T (k + 3)) [some (.loc 0), some (.lst (x0 :: x1 :: xs)), p2, some (.str s), some (.int q), some (.loc st.length)] (st ++ [.lst [y0, y1, y2, y3]]) srT = .rt (.tp false (.str s :: ps)) st' := by
  have hg : ∀ z0 z1, (st ++ [Ob.lst [z0, z1, y2, y3]])[st.length]? = some (.lst [z0, z1, y2, y3]) := fun z0 z1 => by simp
  have i0 : ∀ z0 z1, idxV (st ++ [Ob.lst [z0, z1, y2, y3]]) (.loc st.length) (.int 0) = some z0 := fun z0 z1 => by simp only [idxV, hg]; rfl
  have i1 : ∀ z0 z1, idxV (st ++ [Ob.lst [z0, z1, y2, y3]]) (.loc st.length) (.int 1) = some z1 := fun z0 z1 => by simp only [idxV, hg]; rfl
  have i2 : ∀ z0 z1, idxV (st ++ [Ob.lst [z0, z1, y2, y3]]) (.loc st.length) (.int 2) = some y2 := fun z0 z1 => by simp only [idxV, hg]; rfl
  have i3 : ∀ z0 z1, idxV (st ++ [Ob.lst [z0, z1, y2, y3]]) (.loc st.length) (.int 3) = some y3 := fun z0 z1 => by simp only [idxV, hg]; rfl
  have j0 : ∀ s, idxV s (.lst (x0 :: x1 :: xs)) (.int 0) = some x0 := fun s => by
    have : ixI (x0 :: x1 :: xs).length 0 = some 0 := by simp [ixI]; omega
    simp only [idxV, idxI, at?, this]; rfl
  have j1 : ∀ s, idxV s (.lst (x0 :: x1 :: xs)) (.int 1) = some x1 := fun s => by
    have : ixI (x0 :: x1 :: xs).length 1 = some 1 := by simp [ixI]; omega
    simp only [idxV, idxI, at?, this]; rfl
  have em := eq_s ts (by omega) (Str.ofString "mark") (by decide +kernel)
  have ea := eq_s ts (by omega) (Str.ofString "ask") (by decide +kernel)
  have es := eq_s ts (by omega) (Str.ofString "set") (by decide +kernel)
  have et := eq_s ts (by omega) (Str.ofString "times") (by decide +kernel)
  rw [peq_str] at em ea es et
  have c0 := hy y0 (by simp)
  have c1 := hy y1 (by simp)
  have c2 := hy y2 (by simp)
  have c3 := hy y3 (by simp)
  have ti : ∀ i, tam 2 10 (.int i) = true := fun _ => rfl
  have g := h.app (.lst [y0, y1, y2, y3])
  by_cases k1 : s = Str.ofString "mark"
  · refine ⟨[.int q], _, ⟨?_, ts, tl, by simp, by simp, fun e => absurd (k1.symm.trans e) (by decide +kernel), fun p hp => by simp at hp; rw [hp]; exact ti q⟩, g, ?_⟩
    · subst k1
      have hk : dlook (Str.ofString "mark") d_ROWS = some (.tp true [.str sFig]) := by with_unfolding_all rfl
      have ht : decide (Str.ofString "mark" = sTimes) = false := by decide +kernel
      have hp : prS (.tup [.str sFig, .int q]) = true := by
        have : peq (.str sFig) (.str sFig) = true := by rw [peq_str]; simp
        simp only [prS, opS, this, if_true, wh]
        rw [decide_eq_true q0, decide_eq_true (by omega)]; rfl
      simp [rowS, hk, zipUp, hp, ht]
    · rw [decide_eq_true k1] at em
      rw [sS0]
      simp! [f_qsome_row, em]
  rw [decide_eq_false k1] at em
  have r0 : exs (callT T (k + 3)) [some (.loc 0), some (.lst (x0 :: x1 :: xs)), p2, some (.str s), some (.int q), some (.loc st.length)] (st ++ [.lst [y0, y1, y2, y3]]) srT = exs (callT T (k + 3)) [some (.loc 0), some (.lst (x0 :: x1 :: xs)), p2, some (.str s), some (.int q), some (.loc st.length)] (st ++ [.lst [y0, y1, y2, y3]]) srT1 := by
    rw [sS0]
    simp! [f_qsome_row, em]
  rw [r0]
  by_cases k2 : s = Str.ofString "ask"
  · refine ⟨[y0], _, ⟨?_, ts, tl, by simp, by simp, fun e => absurd (k2.symm.trans e) (by decide +kernel), fun p hp => by simp at hp; rw [hp]; exact C2_tam c0⟩, g, ?_⟩
    · exact rowCells (n := 1) (by subst k2; with_unfolding_all rfl) rfl (fun p hp => by simp at hp; rw [hp]; exact c0) (fun e => absurd (k2.symm.trans e) (by decide +kernel))
    · rw [decide_eq_true k2] at ea
      rw [sS1]
      simp! [f_qsome_row, ea, i0]
  rw [decide_eq_false k2] at ea
  have r1 : exs (callT T (k + 3)) [some (.loc 0), some (.lst (x0 :: x1 :: xs)), p2, some (.str s), some (.int q), some (.loc st.length)] (st ++ [.lst [y0, y1, y2, y3]]) srT1 = exs (callT T (k + 3)) [some (.loc 0), some (.lst (x0 :: x1 :: xs)), p2, some (.str s), some (.int q), some (.loc st.length)] (st ++ [.lst [y0, y1, y2, y3]]) srT2 := by
    rw [sS1]
    simp! [f_qsome_row, ea]
  rw [r1]
  by_cases k3 : s = Str.ofString "set"
  · refine ⟨[y0, .int q], _, ⟨?_, ts, tl, by simp, by simp, fun e => absurd (k3.symm.trans e) (by decide +kernel), fun p hp => by
      simp only [List.mem_cons, List.not_mem_nil, or_false] at hp
      rcases hp with rfl | rfl
      · exact C2_tam c0
      · exact ti q⟩, g, ?_⟩
    · have hk : dlook s d_ROWS = some (.tp true [pCell, .str sFig]) := by subst k3; with_unfolding_all rfl
      have ht : decide (s = sTimes) = false := by subst k3; decide +kernel
      have hp : prS (.tup [pCell, y0]) = true := by
        have : peq pCell (.str sFig) = false := by rw [peq_str]; decide +kernel
        simp only [prS, opS, this, Bool.false_eq_true, if_false]
        exact C2_cel c0
      have hp2 : prS (.tup [.str sFig, .int q]) = true := by
        have : peq (.str sFig) (.str sFig) = true := by rw [peq_str]; simp
        simp only [prS, opS, this, if_true, wh]
        rw [decide_eq_true q0, decide_eq_true (by omega)]; rfl
      simp [rowS, hk, zipUp, hp, hp2, ht]
    · rw [decide_eq_true k3] at es
      rw [sS2]
      simp! [f_qsome_row, es, i0]
  rw [decide_eq_false k3] at es
  have r2 : exs (callT T (k + 3)) [some (.loc 0), some (.lst (x0 :: x1 :: xs)), p2, some (.str s), some (.int q), some (.loc st.length)] (st ++ [.lst [y0, y1, y2, y3]]) srT2 = exs (callT T (k + 3)) [some (.loc 0), some (.lst (x0 :: x1 :: xs)), p2, some (.str s), some (.int q), some (.loc st.length)] (st ++ [.lst [y0, y1, y2, y3]]) srT3 := by
    rw [sS2]
    simp! [f_qsome_row, es]
  rw [r2]
  by_cases k4 : s = sTimes
  · rw [decide_eq_true k4] at et
    have four' : ∀ {z0 z1 : PV}, isC2 z0 -> isC2 z1 -> peq z0 z1 = false -> RowOk s [z0, z1, y2, y3] := fun {z0 z1} a b e => ⟨rowCells (n := 4) (by subst k4; with_unfolding_all rfl) rfl (fun p hp => by
        simp only [List.mem_cons, List.not_mem_nil, or_false] at hp
        rcases hp with rfl | rfl | rfl | rfl
        · exact a
        · exact b
        · exact c2
        · exact c3) (fun _ => by show (!peq z0 z1) = true; rw [e]; rfl), ts, tl, by simp, by simp, fun _ => by simp, fun p hp => by
        simp only [List.mem_cons, List.not_mem_nil, or_false] at hp
        rcases hp with rfl | rfl | rfl | rfl
        · exact C2_tam a
        · exact C2_tam b
        · exact C2_tam c2
        · exact C2_tam c3⟩
    have hq : cmpV .eq y0 y1 = some (.bl (peq y0 y1)) := by
      simp only [cmpV]
      rw [if_pos (by rw [tam_shp (C2_tam c0) (by omega), tam_shp (C2_tam c1) (by omega)]; rfl)]
    cases e : peq y0 y1 with
    | false =>
      rw [e] at hq
      refine ⟨[y0, y1, y2, y3], _, four' c0 c1 e, g, ?_⟩
      rw [sS3]
      simp! [f_qsome_row, et, i0, i1, i2, i3, hq]
    | true =>
      rw [e] at hq
      refine ⟨[x0, x1, y2, y3], _, four' (hx x0 (by simp)) (hx x1 (by simp)) hx2, h.app (.lst [x0, x1, y2, y3]), ?_⟩
      have s0 : sixV (st ++ [Ob.lst [y0, y1, y2, y3]]) (.loc st.length) (.int 0) x0 = some (st ++ [.lst [x0, y1, y2, y3]]) := by
        simp only [sixV, hg]
        rw [show ixI ([y0, y1, y2, y3] : List PV).length 0 = some 0 from rfl]
        simp
      have s1 : sixV (st ++ [Ob.lst [x0, y1, y2, y3]]) (.loc st.length) (.int 1) x1 = some (st ++ [.lst [x0, x1, y2, y3]]) := by
        simp only [sixV, hg]
        rw [show ixI ([x0, y1, y2, y3] : List PV).length 1 = some 1 from rfl]
        simp
      rw [sS3]
      simp! [f_qsome_row, et, i0, i1, i2, i3, hq, x_six2, j0, j1, s0, aft_some, s1, stO_some]
  rw [decide_eq_false k4] at et
  have r3 : exs (callT T (k + 3)) [some (.loc 0), some (.lst (x0 :: x1 :: xs)), p2, some (.str s), some (.int q), some (.loc st.length)] (st ++ [.lst [y0, y1, y2, y3]]) srT3 = exs (callT T (k + 3)) [some (.loc 0), some (.lst (x0 :: x1 :: xs)), p2, some (.str s), some (.int q), some (.loc st.length)] (st ++ [.lst [y0, y1, y2, y3]]) srT4 := by
    rw [sS3]
    simp! [f_qsome_row, et]
  rw [r3, sS4]
  rcases hk with hk | hk | hk | hk | ⟨_, hk⟩
  · exact absurd hk k1
  · exact absurd hk k2
  · exact absurd hk k3
  · exact absurd hk k4
  have hi : cmpV .isin (.str s) (.tp false four) = some (.bl (inL (.str s) four)) := rfl
  rcases hk with ⟨hk, e⟩ | ⟨hk, e⟩
  · rw [e] at hi
    simp only [four] at hi
    refine ⟨[y0, y1], _, ⟨rowCells hk rfl (fun p hp => by
      simp only [List.mem_cons, List.not_mem_nil, or_false] at hp
      rcases hp with rfl | rfl
      · exact c0
      · exact c1) (fun e => absurd e k4), ts, tl, by simp, by simp, fun e => absurd e k4, fun p hp => by
      simp only [List.mem_cons, List.not_mem_nil, or_false] at hp
      rcases hp with rfl | rfl
      · exact C2_tam c0
      · exact C2_tam c1⟩, g, ?_⟩
    simp! [f_qsome_row, hi, i0, i1]
  · rw [e] at hi
    simp only [four] at hi
    refine ⟨[y0, y1, y2], _, ⟨rowCells hk rfl (fun p hp => by
      simp only [List.mem_cons, List.not_mem_nil, or_false] at hp
      rcases hp with rfl | rfl | rfl
      · exact c0
      · exact c1
      · exact c2) (fun e => absurd e k4), ts, tl, by simp, by simp, fun e => absurd e k4, fun p hp => by
      simp only [List.mem_cons, List.not_mem_nil, or_false] at hp
      rcases hp with rfl | rfl | rfl
      · exact C2_tam c0
      · exact C2_tam c1
      · exact C2_tam c2⟩, g, ?_⟩
    simp! [f_qsome_row, hi, i0, i1, i2]
theorem some_row {ns : List Int} (hns : ns.length <= 1000) (k : Nat) {st : Store} (h : Drw ns 0 st) {xs : List PV} (hx : ∀ x ∈ xs, isC2 x) (hx2 : two xs) (hl : 2 <= xs.length) (hl2 : xs.length <= 30) :
    ∃ s ps st', RowOk s ps /\ Drw ns 0 st' /\ callT T (k + 4) i_qsome_row [.loc 0, .lst xs] st = .ok (.tp false (.str s :: ps)) st' := by
  have hT : T i_qsome_row = some ⟨2, 6, false, f_qsome_row.body⟩ := rfl
  obtain ⟨w, s1, w0, w1, o1, e1⟩ := takeD k hns (m := 13) (by omega) (by omega) h
  obtain ⟨x, hx', hi⟩ := idx_tp (k := false) (xs := names13) w0 (show w < ((13 : Nat) : Int) from w1)
  obtain ⟨s, rfl, ts, tl, hk⟩ := names_kind x hx'
  obtain ⟨q, s2, q0, q1, o2, e2⟩ := takeD k hns (m := 2) (by omega) (by omega) (o1.drw h)
  obtain ⟨ys, s3, l3, t3, o3, e3⟩ := somes hns k (xs := xs) (by omega) (by omega) 4 0 s2 (o2.drw (o1.drw h))
  have g3 := o3.drw (o2.drw (o1.drw h))
  obtain ⟨x0, x1, xr, rfl⟩ : ∃ x0 x1 xr, xs = x0 :: x1 :: xr := by
    match xs, hl with
    | x0 :: x1 :: xr, _ => exact ⟨x0, x1, xr, rfl⟩
  obtain ⟨y0, y1, y2, y3, rfl⟩ : ∃ y0 y1 y2 y3, ys = [y0, y1, y2, y3] := by
    match ys, l3 with
    | [y0, y1, y2, y3], _ => exact ⟨y0, y1, y2, y3, rfl⟩
  obtain ⟨ps, s4, r4, g4, e4⟩ := rest_row k (p2 := some (.tp false names13)) g3 hx hx2 (fun y hy => hx y (t3 y hy)) q0 q1 ts tl hk
  refine ⟨s, ps, s4, r4, g4, ?_⟩
  have hr : rng1 (.int 4) = some (rangeL 4 0 1) := rfl
  have hlr : lstR (.ok [y0, y1, y2, y3] s3) = .ok (.lst [y0, y1, y2, y3]) s3 := lstR_le _ (by simp) _
  have hth : thwV (.lst [y0, y1, y2, y3]) s3 = .ok (.loc s3.length) (s3 ++ [.lst [y0, y1, y2, y3]]) := rfl
  have hb : f_qsome_row.body = (match f_qsome_row.body with
    | .cons a (.cons b (.cons c (.cons (.asg t (.thw (.comp sl tg it c2 _))) _))) => .cons a (.cons b (.cons c (.cons (.asg t (.thw (.comp sl tg it c2 someE))) srT)))
    | _ => .nil) := rfl
  rw [call_imp hT rfl rfl]
  dsimp only
  rw [hb]
  simp only [names13] at hi e4
  simp! [f_qsome_row, out_rt, Nat.zero_le, e1, hi, e2, ev.eq_30, hr, e3, hlr, hth, e4]
end WK
namespace WK
open IC PySem
local macro_rules | `(tactic| simp! [$xs,*]) => `(tactic| simp only [IC.xs_cons, IC.xs_nil, IC.x_asg, IC.x_ite, IC.x_ret, IC.x_expr, IC.x_for, IC.x_six, IC.x_try, IC.x_raise, IC.evs, IC.evi, IC.ev.eq_1, IC.ev.eq_2, IC.ev.eq_3, IC.ev.eq_4, IC.ev.eq_5, IC.ev.eq_6, IC.ev.eq_7, IC.ev.eq_8, IC.ev.eq_9, IC.ev.eq_10, IC.ev.eq_11, IC.ev.eq_12, IC.ev.eq_13, IC.ev.eq_14, IC.ev.eq_15, IC.ev.eq_16, IC.ev.eq_17, IC.ev.eq_18, IC.ev.eq_19, IC.ev.eq_20, IC.ev.eq_21, IC.ev.eq_22, IC.ev.eq_24, IC.ev.eq_25, IC.ev.eq_26, IC.ev.eq_28,  IC.v_comp, List.getElem?_cons_zero, List.getElem?_cons_succ, WK.bd_ok, WK.fl_ok, WK.bd_exc, WK.fl_exc, WK.toR_some, IC.toL, WK.bT_n, WK.nxO_some, WK.th_nx, WK.th_rt, WK.th_exc, List.set_cons_zero, List.set_cons_succ, WK.on_t, WK.t_bl, WK.ono, IC.onBl, cond_true, cond_false, List.length_cons, List.length_nil, Nat.zero_add, Nat.reduceAdd, Nat.reduceSub, Nat.reduceLeDiff, if_true, IC.noLoc, IC.noLocs, WK.noLocs_ints, Bool.and_self, Bool.not_true, Bool.not_false, List.map_cons, List.map_nil, List.replicate, List.cons_append, List.nil_append, List.append_nil, Option.bind_none, Option.bind_some, Option.join_some, WK.b_add, WK.b_sub, WK.b_mul2, WK.b_div2, WK.c_lt, WK.c_le, WK.c_gt, WK.c_ge, WK.c_eq, WK.c_ne, IC.PV.tup, IC.sizeMax, $xs,*])
noncomputable def str0 (c : Nat) (g : Int) : List PV := [.non, .bl true, .bl false, .int (-1), .int g, .str (Str.ofString ""), .str ⟨#[c]⟩, .str ((⟨#[c]⟩ : Str) ++ (⟨#[c]⟩ : Str)), .str (Str.ofString "A"), .str (Str.ofString "?"), .tp false [], .tp false [.str ⟨#[c]⟩]]
noncomputable def str1 (c : Nat) (g : Int) : List PV := [.tp false [.str ⟨#[c]⟩, .int 0, .int 0], .tp false [.str ⟨#[c]⟩, .int (-1)], .tp false [.str ⟨#[c]⟩, .int g], .tp false [.str (Str.ofString "A"), .int 0], .tp false [.str ((⟨#[c]⟩ : Str) ++ Str.ofString "b"), .int 0]]
noncomputable def str2 (c : Nat) : List PV := [.tp false [.str (Str.ofString ""), .int 0], .tp false [.str ⟨#[c]⟩, .bl true], .tp false [.str ⟨#[c]⟩, .str (Str.ofString "0")], .lst [.str ⟨#[c]⟩, .int 0], .tp false [.str ⟨#[c]⟩, .tp false [.int 0, .int 0, .int 0, .int 0]]]
noncomputable def str3 (c : Nat) : List PV := [.int 0, .int 1, .int 2, .tp false [.str ⟨#[c]⟩, .int 0], .str (Str.ofString "sum"), .str (Str.ofString "marks"), .tp false [.str (Str.ofString "mark"), .int 0], .tp false [.tp false [.str ⟨#[c]⟩, .int 0], .int 1]]
theorem str_app (a b : Str) : (a ++ b).cps.toList = a.cps.toList ++ b.cps.toList := by
  show (a.cps ++ b.cps).toList = _
  simp
theorem str_tam {c : Nat} (h : c < 128) (g : Int) : ∀ x ∈ str0 c g ++ str1 c g ++ str2 c ++ str3 c, tam 3 10 x = true := by
  have hc : ∀ d m, 1 <= m -> tam d m (.str ⟨#[c]⟩) = true := fun d m hm => tam_ch h hm
  have h2 : ∀ d, tam d 10 (.str ((⟨#[c]⟩ : Str) ++ (⟨#[c]⟩ : Str))) = true := fun d => by simp [tam, str_app, h]
  have h3 : ∀ d, tam d 10 (.str ((⟨#[c]⟩ : Str) ++ Str.ofString "b")) = true := fun d => by
    simp only [tam, str_app]
    rw [show (Str.ofString "b").cps.toList = [98] by decide +kernel]
    simp [h]
  have hs : ∀ d, tam d 10 (.str (Str.ofString "")) = true /\ tam d 10 (.str (Str.ofString "A")) = true /\ tam d 10 (.str (Str.ofString "?")) = true /\ tam d 10 (.str (Str.ofString "0")) = true /\ tam d 10 (.str (Str.ofString "sum")) = true /\ tam d 10 (.str (Str.ofString "marks")) = true /\ tam d 10 (.str (Str.ofString "mark")) = true := fun d => by
    simp only [tam]
    exact ⟨by decide +kernel, by decide +kernel, by decide +kernel, by decide +kernel, by decide +kernel, by decide +kernel, by decide +kernel⟩
  have hi : ∀ d m i, tam d m (.int i) = true := fun _ _ _ => rfl
  have hb : ∀ d m i, tam d m (.bl i) = true := fun _ _ _ => rfl
  have hn : ∀ d m, tam d m .non = true := fun _ _ => rfl
  have ht : ∀ d m k xs, tam (d + 1) m (.tp k xs) = (decide (xs.length <= m) && tams d m xs) := fun d m k xs => by simp [tam]
  have hl : ∀ d m xs, tam (d + 1) m (.lst xs) = (decide (xs.length <= m) && tams d m xs) := fun d m xs => by simp [tam]
  rw [<- tams_all]
  simp only [str0, str1, str2, str3, List.cons_append, List.nil_append, tams, ht 2 10, hl 2 10, ht 1 10, hi, hb, hn, hc _ 10 (by omega), h2, h3, (hs _).1, (hs _).2.1, (hs _).2.2.1, (hs _).2.2.2.1, (hs _).2.2.2.2.1, (hs _).2.2.2.2.2.1, (hs _).2.2.2.2.2.2, Bool.and_true, Bool.true_and, List.length_cons, List.length_nil]
  rfl
theorem ext_at {st : Store} {L : Nat} {xs ys : List PV} (h : st[L]? = some (.lst xs)) (hl : xs.length + ys.length <= 1000) : mthOk .extend st (.loc L) = some true /\ mthV .extend st (.loc L) [.lst ys] = .ok .non (st.set L (.lst (xs ++ ys))) := by
  constructor
  · simp [mthOk, lstOf, h]
  · simp only [mthV, extV, h]
    rw [if_pos (by omega)]
theorem app_str {a b : Nat} : binV .add (.str ⟨#[a]⟩) (.str ⟨#[b]⟩) = some (.str ((⟨#[a]⟩ : Str) ++ (⟨#[b]⟩ : Str))) := rfl
theorem app_b {a : Nat} : binV .add (.str ⟨#[a]⟩) (.str (Str.ofString "b")) = some (.str ((⟨#[a]⟩ : Str) ++ Str.ofString "b")) := by
  simp only [binV]
  rw [if_pos]
  show _ <= 16777216
  have : (Str.ofString "b").length = 1 := by decide +kernel
  rw [this]
  show 1 + 1 <= _
  omega
theorem neg1 {call : Cl} {ρ : IC.Env} {st : Store} : ev call ρ st (.neg (.cst (.int 1))) = .ok (.int (-1)) st := by simp only [ev, R.bind]
noncomputable def tgS : Css := match f_qstrange.body with
  | .cons _ (.cons _ r) => r
  | _ => .nil
noncomputable def tgS1 : Css := match tgS with | .cons _ r => r | x => x
noncomputable def tgS2 : Css := match tgS1 with | .cons _ r => r | x => x
noncomputable def tgS3 : Css := match tgS2 with | .cons _ r => r | x => x
noncomputable def tgS4 : Css := match tgS3 with | .cons _ r => r | x => x
theorem gS0 : tgS = (match f_qstrange.body with | .cons _ (.cons _ (.cons a _)) => .cons a tgS1 | x => x) := rfl
theorem gS1 : tgS1 = (match f_qstrange.body with | .cons _ (.cons _ (.cons _ (.cons a _))) => .cons a tgS2 | x => x) := rfl
theorem gS2 : tgS2 = (match f_qstrange.body with | .cons _ (.cons _ (.cons _ (.cons _ (.cons a _)))) => .cons a tgS3 | x => x) := rfl
theorem gS3 : tgS3 = (match f_qstrange.body with | .cons _ (.cons _ (.cons _ (.cons _ (.cons _ (.cons a _))))) => .cons a tgS4 | x => x) := rfl
theorem gS4 : tgS4 = (match f_qstrange.body with | .cons _ (.cons _ (.cons _ (.cons _ (.cons _ (.cons _ r))))) => r | x => x) := rfl
theorem strange {ns : List Int} (hns : ns.length <= 1000) (k : Nat) {st : Store} (h : Drw ns 0 st) : ∃ v st', tam 3 10 v = true /\ Drw ns 0 st' /\ callT T (k + 5) i_qstrange [.loc 0] st = .ok v st' := by
  have hT : T i_qstrange = some ⟨1, 4, false, f_qstrange.body⟩ := rfl
  obtain ⟨c, s1, c0, c1, o1, e1⟩ := some_letter hns k h
  obtain ⟨a, s2, a0, a1, o2, e2⟩ := takeD (k + 1) hns (m := 3) (by omega) (by omega) (o1.drw h)
  obtain ⟨b, s3, b0, b1, o3, e3⟩ := takeD (k + 1) hns (m := 1000000000) (by omega) (by omega) (o2.drw (o1.drw h))
  have e2 : callT T (k + 4) i_qtake [.loc 0, .int 3] s1 = _ := e2
  have e3 : callT T (k + 4) i_qtake [.loc 0, .int 1000000000] s2 = _ := e3
  have g3 := o3.drw (o2.drw (o1.drw h))
  have hL : s3.length ≠ 0 := by have := g3.pos; omega
  have hpw : binV .pow (.int 10) (.int 9) = some (.int 1000000000) := by with_unfolding_all rfl
  have hml : binV .mul (.int a) (.int b) = some (.int (a * b)) := b_mulL (by omega)
  generalize hg : 100 + a * b = g
  have hb : f_qstrange.body = (match f_qstrange.body with
    | .cons a (.cons b _) => .cons a (.cons b tgS)
    | _ => .nil) := rfl
  have q0 : (s3 ++ [Ob.lst (str0 c g)])[s3.length]? = some (.lst (str0 c g)) := by simp
  obtain ⟨m1, n1⟩ := ext_at (ys := str1 c g) q0 (by simp [str0, str1])
  obtain ⟨t1, ht1⟩ : ∃ t, t = (s3 ++ [Ob.lst (str0 c g)]).set s3.length (.lst (str0 c g ++ str1 c g)) := ⟨_, rfl⟩
  have q1 : t1[s3.length]? = some (.lst (str0 c g ++ str1 c g)) := by rw [ht1]; exact rdS q0
  have d1 : Drw ns 0 t1 := by rw [ht1]; exact (g3.app _).put hL _
  rw [<- ht1] at n1
  obtain ⟨m2, n2⟩ := ext_at (ys := str2 c) q1 (by simp [str0, str1, str2])
  obtain ⟨t2, ht2⟩ : ∃ t, t = t1.set s3.length (.lst (str0 c g ++ str1 c g ++ str2 c)) := ⟨_, rfl⟩
  have q2 : t2[s3.length]? = some (.lst (str0 c g ++ str1 c g ++ str2 c)) := by rw [ht2]; exact rdS q1
  have d2 : Drw ns 0 t2 := by rw [ht2]; exact d1.put hL _
  rw [<- ht2] at n2
  obtain ⟨m3, n3⟩ := ext_at (ys := str3 c) q2 (by simp [str0, str1, str2, str3])
  obtain ⟨t3, ht3⟩ : ∃ t, t = t2.set s3.length (.lst (str0 c g ++ str1 c g ++ str2 c ++ str3 c)) := ⟨_, rfl⟩
  have q3 : t3[s3.length]? = some (.lst (str0 c g ++ str1 c g ++ str2 c ++ str3 c)) := by rw [ht3]; exact rdS q2
  have d3 : Drw ns 0 t3 := by rw [ht3]; exact d2.put hL _
  rw [<- ht3] at n3
  have hlen : bltV .len t3 [.loc s3.length] = some (.int 30) := by simp [bltV, lenV, seqOf, q3, str0, str1, str2, str3]
  obtain ⟨w, s4, w0, w1, o4, e4⟩ := takeD (k + 1) hns (m := 30) (by omega) (by omega) d3
  have e4 : callT T (k + 4) i_qtake [.loc 0, .int 30] t3 = _ := e4
  have q4 : s4[s3.length]? = some (.lst (str0 c g ++ str1 c g ++ str2 c ++ str3 c)) := by rw [o4.get hL]; exact q3
  obtain ⟨x, hx, hi⟩ := idx_lst (st := s4) (xs := str0 c g ++ str1 c g ++ str2 c ++ str3 c) w0 (by simp [str0, str1, str2, str3]; omega)
  have hi' : idxV s4 (.loc s3.length) (.int w) = some x := by
    simp only [idxV, q4]
    simp only [idxV] at hi
    exact hi
  refine ⟨x, s4, str_tam (by omega) g x hx, o4.drw d3, ?_⟩
  rw [call_imp hT rfl rfl]
  dsimp only
  rw [hb]
  have f0 : exs (callT T (k + 4)) [some (.loc 0), some (.str ⟨#[c]⟩), some (.int g), none] s3 tgS = exs (callT T (k + 4)) [some (.loc 0), some (.str ⟨#[c]⟩), some (.int g), some (.loc s3.length)] (s3 ++ [.lst (str0 c g)]) tgS1 := by
    rw [gS0]
    simp! [f_qstrange, neg1, app_str, Nat.zero_le, str0]
  have f1 : exs (callT T (k + 4)) [some (.loc 0), some (.str ⟨#[c]⟩), some (.int g), some (.loc s3.length)] (s3 ++ [.lst (str0 c g)]) tgS1 = exs (callT T (k + 4)) [some (.loc 0), some (.str ⟨#[c]⟩), some (.int g), some (.loc s3.length)] t1 tgS2 := by
    rw [gS1]
    simp only [str1] at n1
    simp! [f_qstrange, neg1, app_b, m1, n1]
  have f2 : exs (callT T (k + 4)) [some (.loc 0), some (.str ⟨#[c]⟩), some (.int g), some (.loc s3.length)] t1 tgS2 = exs (callT T (k + 4)) [some (.loc 0), some (.str ⟨#[c]⟩), some (.int g), some (.loc s3.length)] t2 tgS3 := by
    rw [gS2]
    simp only [str2] at n2
    simp! [f_qstrange, m2, n2]
  have f3 : exs (callT T (k + 4)) [some (.loc 0), some (.str ⟨#[c]⟩), some (.int g), some (.loc s3.length)] t2 tgS3 = exs (callT T (k + 4)) [some (.loc 0), some (.str ⟨#[c]⟩), some (.int g), some (.loc s3.length)] t3 tgS4 := by
    rw [gS3]
    simp only [str3] at n3
    simp! [f_qstrange, m3, n3]
  have f4 : exs (callT T (k + 4)) [some (.loc 0), some (.str ⟨#[c]⟩), some (.int g), some (.loc s3.length)] t3 tgS4 = .rt x s4 := by
    rw [gS4]
    simp! [f_qstrange, hlen, e4, hi']
  simp! [f_qstrange, e1, e2, hpw, e3, hml, hg]
  rw [f0, f1, f2, f3, f4]
  rfl
end WK
namespace WK
open IC PySem
local macro_rules | `(tactic| simp! [$xs,*]) => `(tactic| simp only [IC.xs_cons, IC.xs_nil, IC.x_asg, IC.x_ite, IC.x_ret, IC.x_expr, IC.x_for, IC.x_six, IC.x_try, IC.x_raise, IC.evs, IC.evi, IC.ev.eq_1, IC.ev.eq_2, IC.ev.eq_3, IC.ev.eq_4, IC.ev.eq_5, IC.ev.eq_6, IC.ev.eq_7, IC.ev.eq_8, IC.ev.eq_9, IC.ev.eq_10, IC.ev.eq_11, IC.ev.eq_12, IC.ev.eq_13, IC.ev.eq_14, IC.ev.eq_15, IC.ev.eq_16, IC.ev.eq_17, IC.ev.eq_18, IC.ev.eq_19, IC.ev.eq_20, IC.ev.eq_21, IC.ev.eq_22, IC.ev.eq_24, IC.ev.eq_25, IC.ev.eq_26, IC.ev.eq_28,  IC.v_comp, List.getElem?_cons_zero, List.getElem?_cons_succ, WK.bd_ok, WK.fl_ok, WK.bd_exc, WK.fl_exc, WK.toR_some, IC.toL, WK.bT_n, WK.nxO_some, WK.th_nx, WK.th_rt, WK.th_exc, List.set_cons_zero, List.set_cons_succ, WK.on_t, WK.t_bl, WK.ono, IC.onBl, cond_true, cond_false, List.length_cons, List.length_nil, Nat.zero_add, Nat.reduceAdd, Nat.reduceSub, Nat.reduceLeDiff, if_true, IC.noLoc, IC.noLocs, WK.noLocs_ints, Bool.and_self, Bool.not_true, Bool.not_false, List.map_cons, List.map_nil, List.replicate, List.cons_append, List.nil_append, List.append_nil, Option.bind_none, Option.bind_some, Option.join_some, WK.b_add, WK.b_sub, WK.b_mul2, WK.b_div2, WK.c_lt, WK.c_le, WK.c_gt, WK.c_ge, WK.c_eq, WK.c_ne, IC.PV.tup, IC.sizeMax, $xs,*])
theorem cat3 {b : Bool} {xs : List PV} {v : PV} {o1 o2 p1 p2 : Option Int} (hl : xs.length <= 400) : ∃ a c u j ys, slcO (.tp b xs) o1 o2 = some a /\ slcO (.tp b xs) p1 p2 = some c /\ binV .add a (.tp false [v]) = some u /\ binV .add u c = some (.tp j ys) /\ ys.length <= 2 * xs.length + 1 /\ ∀ y ∈ ys, y ∈ xs \/ y = v := by
  obtain ⟨j1, y1, e1, l1, m1⟩ := slc_tp (k := b) (xs := xs) o1 o2
  obtain ⟨j2, y2, e2, l2, m2⟩ := slc_tp (k := b) (xs := xs) p1 p2
  obtain ⟨j3, y3, e3, l3, m3⟩ := cat_tp (k := j1) (j := false) (a := y1) (b := [v]) (by simp [sizeMax]; omega)
  obtain ⟨j4, y4, e4, l4, m4⟩ := cat_tp (k := j3) (j := j2) (a := y3) (b := y2) (by simp [sizeMax, l3]; omega)
  refine ⟨_, _, _, j4, y4, e1, e2, e3, e4, by simp only [List.length_singleton] at l3; omega, fun y hy => ?_⟩
  rcases m4 y hy with h | h
  · rcases m3 y h with h | h
    · exact .inl (m1 y h)
    · exact .inr (by simpa using h)
  · exact .inl (m2 y h)
theorem cat2 {b : Bool} {xs : List PV} {o1 o2 p1 p2 : Option Int} (hl : xs.length <= 400) : ∃ a c j ys, slcO (.tp b xs) o1 o2 = some a /\ slcO (.tp b xs) p1 p2 = some c /\ binV .add a c = some (.tp j ys) /\ ys.length <= 2 * xs.length + 1 /\ ∀ y ∈ ys, y ∈ xs := by
  obtain ⟨j1, y1, e1, l1, m1⟩ := slc_tp (k := b) (xs := xs) o1 o2
  obtain ⟨j2, y2, e2, l2, m2⟩ := slc_tp (k := b) (xs := xs) p1 p2
  obtain ⟨j4, y4, e4, l4, m4⟩ := cat_tp (k := j1) (j := j2) (a := y1) (b := y2) (by simp [sizeMax]; omega)
  refine ⟨_, _, j4, y4, e1, e2, e4, by omega, fun y hy => ?_⟩
  rcases m4 y hy with h | h
  · exact m1 y h
  · exact m2 y h
noncomputable def tpS : Css := match f_qspoilt_tuple.body with
  | .cons _ (.cons _ (.cons _ (.cons _ r))) => r
  | _ => .nil
noncomputable def tpS1 : Css := match tpS with | .cons _ r => r | x => x
noncomputable def tpS2 : Css := match tpS1 with | .cons _ r => r | x => x
noncomputable def tpS3 : Css := match tpS2 with | .cons _ r => r | x => x
noncomputable def tpS4 : Css := match tpS3 with | .cons _ r => r | x => x
theorem pS0 : tpS = (match f_qspoilt_tuple.body with | .cons _ (.cons _ (.cons _ (.cons _ (.cons a _)))) => .cons a tpS1 | x => x) := rfl
theorem pS1 : tpS1 = (match f_qspoilt_tuple.body with | .cons _ (.cons _ (.cons _ (.cons _ (.cons _ (.cons a _))))) => .cons a tpS2 | x => x) := rfl
theorem pS2 : tpS2 = (match f_qspoilt_tuple.body with | .cons _ (.cons _ (.cons _ (.cons _ (.cons _ (.cons _ (.cons a _)))))) => .cons a tpS3 | x => x) := rfl
theorem pS3 : tpS3 = (match f_qspoilt_tuple.body with | .cons _ (.cons _ (.cons _ (.cons _ (.cons _ (.cons _ (.cons _ (.cons a _))))))) => .cons a tpS4 | x => x) := rfl
theorem pS4 : tpS4 = (match f_qspoilt_tuple.body with | .cons _ (.cons _ (.cons _ (.cons _ (.cons _ (.cons _ (.cons _ (.cons _ r))))))) => r | x => x) := rfl
theorem six_at {st : Store} {L : Nat} {xs : List PV} {i : Int} {v : PV} (h : st[L]? = some (.lst xs)) (i0 : 0 <= i) (i1 : i < xs.length) : sixV st (.loc L) (.int i) v = some (st.set L (.lst (xs.set i.toNat v))) := by
  simp only [sixV, h, ixI_ok i0 i1]
theorem get_at {st : Store} {L : Nat} {xs : List PV} {i : Int} (h : st[L]? = some (.lst xs)) (i0 : 0 <= i) (i1 : i < xs.length) : ∃ x, x ∈ xs /\ idxV st (.loc L) (.int i) = some x := by
  obtain ⟨x, hx, e⟩ := idx_lst (st := st) i0 i1
  refine ⟨x, hx, ?_⟩
  simp only [idxV, h]
  simp only [idxV] at e
  exact e
theorem mem_set {xs : List PV} {i : Nat} {v y : PV} (h : y ∈ xs.set i v) : y ∈ xs \/ y = v := List.mem_or_eq_of_mem_set h
theorem spoilt_tuple {ns : List Int} (hns : ns.length <= 1000) (k : Nat) {b : Bool} {xs : List PV} {D M : Nat} (hx : ∀ x ∈ xs, tam D M x = true) (hD : 3 <= D) (hM : 10 <= M) (hl : xs.length <= 400) {st : Store} (h : Drw ns 0 st) :
    ∃ j ys st', (∀ y ∈ ys, tam D M y = true) /\ ys.length <= 2 * xs.length + 1 /\ Drw ns 0 st' /\ callT T (k + 6) i_qspoilt_tuple [.loc 0, .tp b xs] st = .ok (.tp j ys) st' := by
  have hT : T i_qspoilt_tuple = some ⟨2, 8, false, f_qspoilt_tuple.body⟩ := rfl
  obtain ⟨a, s1, a0, a1, o1, e1⟩ := takeD (k + 2) hns (m := 6) (by omega) (by omega) h
  have g1 := o1.drw h
  obtain ⟨w, s2, w0, w1, o2, e2⟩ := takeD (k + 2) hns (m := (xs.length : Int) + 1) (by omega) (by omega) g1
  have g2 := o2.drw g1
  obtain ⟨v, s3, tv, g3, e3⟩ := strange hns k g2
  have tv : tam D M v = true := tam_le hD hM v tv
  have e1 : callT T (k + 5) i_qtake [.loc 0, .int 6] st = _ := e1
  have e2 : callT T (k + 5) i_qtake [.loc 0, .int ((xs.length : Int) + 1)] s1 = _ := e2
  obtain ⟨hr, hr1, hmin⟩ : ∃ hr : Int, (0 < xs.length -> 0 <= hr /\ hr < xs.length) /\ ∀ s, bltV .min s [.int w, .int ((xs.length : Int) - 1)] = some (.int hr) := by
    refine ⟨if (xs.length : Int) - 1 < w then (xs.length : Int) - 1 else w, fun hp => ?_, fun s => rfl⟩
    split <;> omega
  have hb : f_qspoilt_tuple.body = (match f_qspoilt_tuple.body with
    | .cons a (.cons b (.cons c (.cons d _))) => .cons a (.cons b (.cons c (.cons d tpS)))
    | _ => .nil) := rfl
  have key : ∃ j ys st', (∀ y ∈ ys, tam D M y = true) /\ ys.length <= 2 * xs.length + 1 /\ Drw ns 0 st' /\ exs (callT T (k + 5)) [some (.loc 0), some (.tp b xs), some (.int a), some (.int w), some v, some (.int hr), none, none] s3 tpS = .rt (.tp j ys) st' := by
    by_cases c0 : xs.length = 0 \/ a = 0
    · obtain ⟨u1, u2, u3, j, ys, q1, q2, q3, q4, l, m⟩ := cat3 (b := b) (xs := xs) (v := v) (o1 := none) (o2 := some w) (p1 := some w) (p2 := none) hl
      refine ⟨j, ys, s3, fun y hy => (m y hy).elim (hx y) (fun e => e ▸ tv), l, g3, ?_⟩
      rw [pS0]
      by_cases c1 : xs.length = 0
      · have hz : ((xs.length : Int) == 0) = true := by simp [c1]
        simp! [f_qspoilt_tuple, len_tp2, hz, onP_int, onP_non, slcV_i, slcV_n, q1, q2, q3, q4]
      · have hz : ((xs.length : Int) == 0) = false := beq_eq_false_iff_ne.2 (by omega)
        have ha : (a == 0) = true := by simp; omega
        simp! [f_qspoilt_tuple, len_tp2, hz, ha, onP_int, onP_non, slcV_i, slcV_n, q1, q2, q3, q4]
    have c1 : xs.length ≠ 0 := fun e => c0 (.inl e)
    have ca : a ≠ 0 := fun e => c0 (.inr e)
    have hz : ((xs.length : Int) == 0) = false := beq_eq_false_iff_ne.2 (by omega)
    have ha : (a == 0) = false := by simp; omega
    obtain ⟨h0, h1⟩ := hr1 (by omega)
    have r0 : exs (callT T (k + 5)) [some (.loc 0), some (.tp b xs), some (.int a), some (.int w), some v, some (.int hr), none, none] s3 tpS = exs (callT T (k + 5)) [some (.loc 0), some (.tp b xs), some (.int a), some (.int w), some v, some (.int hr), none, none] s3 tpS1 := by
      rw [pS0]
      simp! [f_qspoilt_tuple, len_tp2, hz, ha]
    rw [r0]
    by_cases k1 : a = 1
    · obtain ⟨u1, u2, j, ys, q1, q2, q3, l, m⟩ := cat2 (b := b) (xs := xs) (o1 := none) (o2 := some hr) (p1 := some (hr + 1)) (p2 := none) hl
      refine ⟨j, ys, s3, fun y hy => hx y (m y hy), l, g3, ?_⟩
      have hb1 : (a == 1) = true := by simp [k1]
      rw [pS1]
      simp! [f_qspoilt_tuple, hb1, onP_int, onP_non, slcV_i, slcV_n, q1, q2, q3]
    have hb1 : (a == 1) = false := by simp; omega
    have r1 : exs (callT T (k + 5)) [some (.loc 0), some (.tp b xs), some (.int a), some (.int w), some v, some (.int hr), none, none] s3 tpS1 = exs (callT T (k + 5)) [some (.loc 0), some (.tp b xs), some (.int a), some (.int w), some v, some (.int hr), none, none] s3 tpS2 := by
      rw [pS1]
      simp! [f_qspoilt_tuple, hb1]
    rw [r1]
    by_cases k2 : a = 2
    · obtain ⟨x, xm, xi⟩ := idx_tp (k := b) (xs := xs) h0 h1
      obtain ⟨u1, u2, u3, j, ys, q1, q2, q3, q4, l, m⟩ := cat3 (b := b) (xs := xs) (v := x) (o1 := none) (o2 := some hr) (p1 := some hr) (p2 := none) hl
      refine ⟨j, ys, s3, fun y hy => (m y hy).elim (hx y) (fun e => e ▸ hx x xm), l, g3, ?_⟩
      have hb2 : (a == 2) = true := by simp [k2]
      rw [pS2]
      simp! [f_qspoilt_tuple, hb2, onP_int, onP_non, slcV_i, slcV_n, xi, q1, q2, q3, q4]
    have hb2 : (a == 2) = false := by simp; omega
    have r2 : exs (callT T (k + 5)) [some (.loc 0), some (.tp b xs), some (.int a), some (.int w), some v, some (.int hr), none, none] s3 tpS2 = exs (callT T (k + 5)) [some (.loc 0), some (.tp b xs), some (.int a), some (.int w), some v, some (.int hr), none, none] s3 tpS3 := by
      rw [pS2]
      simp! [f_qspoilt_tuple, hb2]
    rw [r2]
    by_cases k3 : a = 3
    · obtain ⟨o, s4, p0, p1, o4, e4⟩ := takeD (k + 2) hns (m := (xs.length : Int)) (by omega) (by omega) g3
      have e4 : callT T (k + 5) i_qtake [.loc 0, .int (xs.length : Int)] s3 = _ := e4
      have g4 := o4.drw g3
      have hL : s4.length ≠ 0 := by have := g4.pos; omega
      have t0 : (s4 ++ [Ob.lst xs])[s4.length]? = some (.lst xs) := by simp
      obtain ⟨x, xm, xi⟩ := get_at t0 p0 p1
      obtain ⟨y, ym, yi⟩ := get_at t0 h0 h1
      have z1 := six_at (v := x) t0 h0 h1
      obtain ⟨s5, hs5⟩ : ∃ s5, s5 = (s4 ++ [Ob.lst xs]).set s4.length (.lst (xs.set hr.toNat x)) := ⟨_, rfl⟩
      have t5 : s5[s4.length]? = some (.lst (xs.set hr.toNat x)) := by rw [hs5]; exact rdS t0
      have z2 := six_at (v := y) t5 p0 (by rw [List.length_set]; exact p1)
      obtain ⟨s6, hs6⟩ : ∃ s6, s6 = s5.set s4.length (.lst ((xs.set hr.toNat x).set o.toNat y)) := ⟨_, rfl⟩
      have t6 : s6[s4.length]? = some (.lst ((xs.set hr.toNat x).set o.toNat y)) := by rw [hs6]; exact rdS t5
      rw [<- hs5] at z1
      rw [<- hs6] at z2
      have g6 : Drw ns 0 s6 := by rw [hs6, hs5]; exact ((g4.app _).put hL _).put hL _
      have htu : bltV .tuple s6 [.loc s4.length] = some (.tp false ((xs.set hr.toNat x).set o.toNat y)) := by simp [bltV, tupV, lstOf, t6]
      have hli : ∀ s, bltV .list s [.tp b xs] = some (.lst xs) := fun s => rfl
      have hth : thwV (.lst xs) s4 = .ok (.loc s4.length) (s4 ++ [.lst xs]) := rfl
      refine ⟨false, (xs.set hr.toNat x).set o.toNat y, s6, fun u hu => ?_, by rw [List.length_set, List.length_set]; omega, g6, ?_⟩
      · rcases mem_set hu with hu | rfl
        · rcases mem_set hu with hu | rfl
          · exact hx u hu
          · exact hx _ xm
        · exact hx _ ym
      · have hb3 : (a == 3) = true := by simp [k3]
        rw [pS3]
        simp! [f_qspoilt_tuple, hb3, len_tp2, e4, ev.eq_30, hli, hth, x_six2, xi, yi, z1, aft_some, z2, stO_some, htu]
    have hb3 : (a == 3) = false := by simp; omega
    have r3 : exs (callT T (k + 5)) [some (.loc 0), some (.tp b xs), some (.int a), some (.int w), some v, some (.int hr), none, none] s3 tpS3 = exs (callT T (k + 5)) [some (.loc 0), some (.tp b xs), some (.int a), some (.int w), some v, some (.int hr), none, none] s3 tpS4 := by
      rw [pS3]
      simp! [f_qspoilt_tuple, hb3]
    rw [r3]
    obtain ⟨u1, u2, u3, j, ys, q1, q2, q3, q4, l, m⟩ := cat3 (b := b) (xs := xs) (v := v) (o1 := none) (o2 := some hr) (p1 := some (hr + 1)) (p2 := none) hl
    refine ⟨j, ys, s3, fun y hy => (m y hy).elim (hx y) (fun e => e ▸ tv), l, g3, ?_⟩
    rw [pS4]
    simp! [f_qspoilt_tuple, onP_int, onP_non, slcV_i, slcV_n, q1, q2, q3, q4]
  obtain ⟨j, ys, s4, m, l, g4, e4⟩ := key
  refine ⟨j, ys, s4, m, l, g4, ?_⟩
  rw [call_imp hT rfl rfl]
  dsimp only
  rw [hb]
  simp! [f_qspoilt_tuple, len_tp2, e1, e2, e3, hmin]
  rw [e4]
  rfl
end WK
namespace WK
open IC PySem
local macro_rules | `(tactic| simp! [$xs,*]) => `(tactic| simp only [IC.xs_cons, IC.xs_nil, IC.x_asg, IC.x_ite, IC.x_ret, IC.x_expr, IC.x_for, IC.x_six, IC.x_try, IC.x_raise, IC.evs, IC.evi, IC.ev.eq_1, IC.ev.eq_2, IC.ev.eq_3, IC.ev.eq_4, IC.ev.eq_5, IC.ev.eq_6, IC.ev.eq_7, IC.ev.eq_8, IC.ev.eq_9, IC.ev.eq_10, IC.ev.eq_11, IC.ev.eq_12, IC.ev.eq_13, IC.ev.eq_14, IC.ev.eq_15, IC.ev.eq_16, IC.ev.eq_17, IC.ev.eq_18, IC.ev.eq_19, IC.ev.eq_20, IC.ev.eq_21, IC.ev.eq_22, IC.ev.eq_24, IC.ev.eq_25, IC.ev.eq_26, IC.ev.eq_28,  IC.v_comp, List.getElem?_cons_zero, List.getElem?_cons_succ, WK.bd_ok, WK.fl_ok, WK.bd_exc, WK.fl_exc, WK.toR_some, IC.toL, WK.bT_n, WK.nxO_some, WK.th_nx, WK.th_rt, WK.th_exc, List.set_cons_zero, List.set_cons_succ, WK.on_t, WK.t_bl, WK.ono, IC.onBl, cond_true, cond_false, List.length_cons, List.length_nil, Nat.zero_add, Nat.reduceAdd, Nat.reduceSub, Nat.reduceLeDiff, if_true, IC.noLoc, IC.noLocs, WK.noLocs_ints, Bool.and_self, Bool.not_true, Bool.not_false, List.map_cons, List.map_nil, List.replicate, List.cons_append, List.nil_append, List.append_nil, Option.bind_none, Option.bind_some, Option.join_some, WK.b_add, WK.b_sub, WK.b_mul2, WK.b_div2, WK.c_lt, WK.c_le, WK.c_gt, WK.c_ge, WK.c_eq, WK.c_ne, IC.PV.tup, IC.sizeMax, $xs,*])
theorem tam_cat {d m n : Nat} {a b : Str} (ha : tam d m (.str a) = true) (hb : tam d n (.str b) = true) : tam d (m + n) (.str (a ++ b)) = true := by
  simp only [tam, Bool.and_eq_true, decide_eq_true_eq] at ha hb ⊢
  rw [str_app, List.all_append, ha.1, hb.1, List.length_append]
  exact ⟨rfl, by omega⟩
theorem add_str {d m n : Nat} {a b : Str} (ha : tam d m (.str a) = true) (hb : tam d n (.str b) = true) (hm : m + n <= 1000) : binV .add (.str a) (.str b) = some (.str (a ++ b)) := by
  simp only [tam, Bool.and_eq_true, decide_eq_true_eq] at ha hb
  simp only [binV]
  rw [if_pos]
  show a.cps.size + b.cps.size <= 16777216
  have h1 : a.cps.size = a.cps.toList.length := by simp
  have h2 : b.cps.size = b.cps.toList.length := by simp
  omega
theorem cut_str {d m : Nat} {s : Str} {o p : Option Int} (h : tam d m (.str s) = true) (hm : m <= 1000) : ∃ r, slcO (.str s) o p = some (.str r) /\ tam d m (.str r) = true := by
  refine ⟨⟨(cut s.cps.toList o p).toArray⟩, ?_, tam_cut h⟩
  simp only [tam, Bool.and_eq_true, decide_eq_true_eq] at h
  simp only [slcO]
  rw [if_pos]
  show s.cps.size <= 16777216
  have h1 : s.cps.size = s.cps.toList.length := by simp
  omega
noncomputable def spT : Css := match f_qspoilt_row.body with
  | .cons _ (.cons _ r) => r
  | _ => .nil
noncomputable def spT1 : Css := match spT with | .cons _ r => r | x => x
noncomputable def spT2 : Css := match spT1 with | .cons _ r => r | x => x
noncomputable def spT3 : Css := match spT2 with | .cons _ r => r | x => x
theorem rS0 : spT = (match f_qspoilt_row.body with | .cons _ (.cons _ (.cons a _)) => .cons a spT1 | x => x) := rfl
theorem rS1 : spT1 = (match f_qspoilt_row.body with | .cons _ (.cons _ (.cons _ (.cons a _))) => .cons a spT2 | x => x) := rfl
theorem rS2 : spT2 = (match f_qspoilt_row.body with | .cons _ (.cons _ (.cons _ (.cons _ (.cons a _)))) => .cons a spT3 | x => x) := rfl
theorem rS3 : spT3 = (match f_qspoilt_row.body with | .cons _ (.cons _ (.cons _ (.cons _ (.cons _ r)))) => r | x => x) := rfl
theorem isi_tam {d m : Nat} {v : PV} (h : tam d m v = true) : (∃ b xs, v = .tp b xs /\ isiV v [.tuple] = some (.bl true)) \/ isiV v [.tuple] = some (.bl false) := by
  cases v with
  | tp b xs => exact .inl ⟨b, xs, rfl, rfl⟩
  | loc _ => simp [tam] at h
  | exn _ => simp [tam] at h
  | scr _ => simp [tam] at h
  | _ => exact .inr rfl
theorem spoilt_row {ns : List Int} (hns : ns.length <= 1000) (k : Nat) {s : Str} {ps : List PV} (H : RowOk s ps) {st : Store} (h : Drw ns 0 st) :
    ∃ v st', tam 6 50 v = true /\ Drw ns 0 st' /\ callT T (k + 7) i_qspoilt_row [.loc 0, .tp false (.str s :: ps)] st = .ok v st' := by
  have hT : T i_qspoilt_row = some ⟨2, 6, false, f_qspoilt_row.body⟩ := rfl
  have hx : ∀ x ∈ PV.str s :: ps, tam 3 10 x = true := fun x hx => by
    rcases List.mem_cons.1 hx with rfl | hx
    · exact tam_le (by omega) (by omega) _ H.ts
    · exact tam_le (by omega) (by omega) _ (H.tp x hx)
  have few := H.few
  have one := H.one
  have hlen : (PV.str s :: ps).length = ps.length + 1 := rfl
  obtain ⟨a, s1, a0, a1, o1, e1⟩ := takeD (k + 3) hns (m := 4) (by omega) (by omega) h
  have g1 := o1.drw h
  obtain ⟨w, s2, w0, w1, o2, e2⟩ := takeD (k + 3) hns (m := ((ps.length + 1 : Nat) : Int)) (by omega) (by omega) g1
  have g2 := o2.drw g1
  have e1 : callT T (k + 6) i_qtake [.loc 0, .int 4] st = _ := e1
  have e2 : callT T (k + 6) i_qtake [.loc 0, .int ((ps.length + 1 : Nat) : Int)] s1 = _ := e2
  have big : ∀ {j ys}, (∀ y ∈ ys, tam 5 50 y = true) -> ys.length <= 50 -> tam 6 50 (.tp j ys) = true := fun {j ys} m l => tam_tp.2 ⟨by omega, l, m⟩
  have up : ∀ {v : PV} {d m : Nat}, d <= 5 -> m <= 50 -> tam d m v = true -> tam 5 50 v = true := fun {v d m} hd hm e => tam_le hd hm v e
  have hb : f_qspoilt_row.body = (match f_qspoilt_row.body with
    | .cons a (.cons b _) => .cons a (.cons b spT)
    | _ => .nil) := rfl
  have key : ∃ v st', tam 6 50 v = true /\ Drw ns 0 st' /\ exs (callT T (k + 6)) [some (.loc 0), some (.tp false (.str s :: ps)), some (.int a), some (.int w), none, none] s2 spT = .rt v st' := by
    by_cases k0 : a = 0
    · have sl : (s.cps.toList.length : Int) < 1000 /\ s.cps.toList.length <= 10 := by
        have := H.ts
        simp only [tam, Bool.and_eq_true, decide_eq_true_eq] at this
        omega
      have pos := H.pos
      obtain ⟨p, s3, p0, p1, o3, e3⟩ := takeD (k + 3) hns (m := (s.cps.toList.length : Int)) (by omega) (by omega) g2
      have g3 := o3.drw g2
      obtain ⟨c, s4, c0, c1, o4, e4⟩ := some_letter hns (k + 2) g3
      have g4 := o4.drw g3
      obtain ⟨q, s5, q0, q1, o5, e5⟩ := takeD (k + 3) hns (m := 2) (by omega) (by omega) g4
      have e3 : callT T (k + 6) i_qtake [.loc 0, .int (s.cps.toList.length : Int)] s2 = _ := e3
      have e4 : callT T (k + 6) i_qsome_letter [.loc 0] s3 = _ := e4
      have e5 : callT T (k + 6) i_qtake [.loc 0, .int 2] s4 = _ := e5
      obtain ⟨x, xm, xi⟩ := idx_tp (k := false) (xs := [.int 1, .int 0]) q0 (show q < ((2 : Nat) : Int) from q1)
      obtain ⟨i, rfl⟩ : ∃ i, x = .int i := by
        simp only [List.mem_cons, List.not_mem_nil, or_false] at xm
        rcases xm with rfl | rfl
        · exact ⟨1, rfl⟩
        · exact ⟨0, rfl⟩
      obtain ⟨r1, f1, t1⟩ := cut_str (o := none) (p := some p) H.ts (by omega)
      obtain ⟨r2, f2, t2⟩ := cut_str (o := some (p + i)) (p := none) H.ts (by omega)
      have tc : tam 1 1 (.str ⟨#[c]⟩) = true := tam_ch (by omega) (by omega)
      have b1 := add_str t1 tc (by omega)
      have t3 := tam_cat t1 tc
      have b2 := add_str t3 t2 (by omega)
      have t4 := tam_cat t3 t2
      obtain ⟨j1, y1, z1, l1, m1⟩ := slc_tp (k := false) (xs := .str s :: ps) (some 1) none
      obtain ⟨j2, y2, z2, l2, m2⟩ := cat_tp (k := false) (j := j1) (a := [.str (r1 ++ (⟨#[c]⟩ : Str) ++ r2)]) (b := y1) (by simp [sizeMax]; rw [hlen] at l1; omega)
      refine ⟨.tp j2 y2, s5, big (fun y hy => ?_) (by rw [l2]; simp only [List.length_singleton]; rw [hlen] at l1; omega), o5.drw g4, ?_⟩
      · rcases m2 y hy with hy | hy
        · simp only [List.mem_cons, List.not_mem_nil, or_false] at hy
          rw [hy]
          exact up (by omega) (by omega) t4
        · exact up (by omega) (by omega) (hx y (m1 y hy))
      · have hb1 : (a == 0) = true := by simp [k0]
        have hls := len_sQ (s := s) (st := s2) (by omega)
        rw [rS0]
        simp! [f_qspoilt_row, hb1, ix0, hls, e3, e4, e5, xi, onP_int, onP_non, slcV_i, slcV_n, f1, f2, b1, b2, z1, z2]
    have hb0 : (a == 0) = false := beq_eq_false_iff_ne.2 k0
    have r0 : exs (callT T (k + 6)) [some (.loc 0), some (.tp false (.str s :: ps)), some (.int a), some (.int w), none, none] s2 spT = exs (callT T (k + 6)) [some (.loc 0), some (.tp false (.str s :: ps)), some (.int a), some (.int w), none, none] s2 spT1 := by
      rw [rS0]
      simp! [f_qspoilt_row, hb0]
    rw [r0]
    -- the last way
    have last : ∃ v st', tam 6 50 v = true /\ Drw ns 0 st' /\ exs (callT T (k + 6)) [some (.loc 0), some (.tp false (.str s :: ps)), some (.int a), some (.int w), none, none] s2 spT3 = .rt v st' := by
      obtain ⟨j, ys, s3, m, l, g3, e3⟩ := spoilt_tuple hns k (b := false) (xs := .str s :: ps) hx (by omega) (by omega) (by rw [hlen]; omega) g2
      rw [hlen] at l
      refine ⟨.tp j ys, s3, big (fun y hy => up (by omega) (by omega) (m y hy)) (by omega), g3, ?_⟩
      rw [rS3]
      simp! [f_qspoilt_row, e3]
    -- the second last one
    have sec : ∃ v st', tam 6 50 v = true /\ Drw ns 0 st' /\ exs (callT T (k + 6)) [some (.loc 0), some (.tp false (.str s :: ps)), some (.int a), some (.int w), none, none] s2 spT2 = .rt v st' := by
      have et := eq_s H.ts (by omega) sTimes times_ok
      rw [peq_str] at et
      by_cases k2 : a = 2
      · have hb2 : (a == 2) = true := by simp [k2]
        by_cases k3 : s = sTimes
        · rw [decide_eq_true k3] at et
          have tim := H.tim k3
          obtain ⟨p0, p1, pr, rfl⟩ : ∃ p0 p1 pr, ps = p0 :: p1 :: pr := by
            match ps, tim with
            | p0 :: p1 :: pr, _ => exact ⟨p0, p1, pr, rfl⟩
          obtain ⟨u1, u2, u3, j, ys, q1, q2, q3, q4, l, m⟩ := cat3 (b := false) (xs := .str s :: p0 :: p1 :: pr) (v := p1) (o1 := none) (o2 := some 1) (p1 := some 2) (p2 := none) (by rw [hlen]; omega)
          rw [hlen] at l
          refine ⟨.tp j ys, s2, big (fun y hy => up (by omega) (by omega) ((m y hy).elim (hx y) fun e => e ▸ hx p1 (by simp))) (by omega), g2, ?_⟩
          rw [rS2]
          simp! [f_qspoilt_row, hb2, ix0, ix2, et, onP_int, onP_non, slcV_i, slcV_n, q1, q2, q3, q4]
        · rw [decide_eq_false k3] at et
          obtain ⟨v, st', t, g, e⟩ := last
          refine ⟨v, st', t, g, ?_⟩
          rw [rS2]
          simp! [f_qspoilt_row, hb2, ix0, et]
          exact e
      · have hb2 : (a == 2) = false := beq_eq_false_iff_ne.2 k2
        obtain ⟨v, st', t, g, e⟩ := last
        refine ⟨v, st', t, g, ?_⟩
        rw [rS2]
        simp! [f_qspoilt_row, hb2]
        exact e
    obtain ⟨x, xm, xi⟩ := idx_tp (k := false) (xs := .str s :: ps) w0 w1
    by_cases k1 : a = 1
    · have hb1 : (a == 1) = true := by simp [k1]
      rcases isi_tam (hx x xm) with ⟨b, xs, rfl, hi⟩ | hi
      · obtain ⟨d0, d1, d2⟩ := tam_tp.1 (hx _ xm)
        obtain ⟨j3, y3, s3, m3, l3, g3, e3⟩ := spoilt_tuple hns k (b := b) (xs := xs) (D := 3) (M := 10) (fun y hy => tam_le (by omega) (by omega) _ (d2 y hy)) (by omega) (by omega) (by omega) g2
        obtain ⟨u1, u2, u3, j, ys, q1, q2, q3, q4, l, m⟩ := cat3 (b := false) (xs := .str s :: ps) (v := .tp j3 y3) (o1 := none) (o2 := some w) (p1 := some (w + 1)) (p2 := none) (by rw [hlen]; omega)
        rw [hlen] at l
        refine ⟨.tp j ys, s3, big (fun y hy => (m y hy).elim (fun e => up (by omega) (by omega) (hx y e)) fun e => e ▸ tam_tp.2 ⟨by omega, by omega, fun z hz => tam_le (by omega) (by omega) _ (m3 z hz)⟩) (by omega), g3, ?_⟩
        rw [rS1]
        simp! [f_qspoilt_row, hb1, xi, hi, e3, onP_int, onP_non, slcV_i, slcV_n, q1, q2, q3, q4]
      · obtain ⟨v, st', t, g, e⟩ := sec
        refine ⟨v, st', t, g, ?_⟩
        rw [rS1]
        simp! [f_qspoilt_row, hb1, xi, hi]
        exact e
    · have hb1 : (a == 1) = false := beq_eq_false_iff_ne.2 k1
      obtain ⟨v, st', t, g, e⟩ := sec
      refine ⟨v, st', t, g, ?_⟩
      rw [rS1]
      simp! [f_qspoilt_row, hb1]
      exact e
  obtain ⟨v, s3, t, g3, e3⟩ := key
  refine ⟨v, s3, t, g3, ?_⟩
  rw [call_imp hT rfl rfl]
  dsimp only
  rw [hb]
  simp! [f_qspoilt_row, len_tp2, e1]
  rw [e2]
  simp! [e3]
  rfl
end WK
namespace WK
open IC PySem
local macro_rules | `(tactic| simp! [$xs,*]) => `(tactic| simp only [IC.xs_cons, IC.xs_nil, IC.x_asg, IC.x_ite, IC.x_ret, IC.x_expr, IC.x_for, IC.x_six, IC.x_try, IC.x_raise, IC.evs, IC.evi, IC.ev.eq_1, IC.ev.eq_2, IC.ev.eq_3, IC.ev.eq_4, IC.ev.eq_5, IC.ev.eq_6, IC.ev.eq_7, IC.ev.eq_8, IC.ev.eq_9, IC.ev.eq_10, IC.ev.eq_11, IC.ev.eq_12, IC.ev.eq_13, IC.ev.eq_14, IC.ev.eq_15, IC.ev.eq_16, IC.ev.eq_17, IC.ev.eq_18, IC.ev.eq_19, IC.ev.eq_20, IC.ev.eq_21, IC.ev.eq_22, IC.ev.eq_24, IC.ev.eq_25, IC.ev.eq_26, IC.ev.eq_28,  IC.v_comp, List.getElem?_cons_zero, List.getElem?_cons_succ, WK.bd_ok, WK.fl_ok, WK.bd_exc, WK.fl_exc, WK.toR_some, IC.toL, WK.bT_n, WK.nxO_some, WK.th_nx, WK.th_rt, WK.th_exc, List.set_cons_zero, List.set_cons_succ, WK.on_t, WK.t_bl, WK.ono, IC.onBl, cond_true, cond_false, List.length_cons, List.length_nil, Nat.zero_add, Nat.reduceAdd, Nat.reduceSub, Nat.reduceLeDiff, if_true, IC.noLoc, IC.noLocs, WK.noLocs_ints, Bool.and_self, Bool.not_true, Bool.not_false, List.map_cons, List.map_nil, List.replicate, List.cons_append, List.nil_append, List.append_nil, Option.bind_none, Option.bind_some, Option.join_some, WK.b_add, WK.b_sub, WK.b_mul2, WK.b_div2, WK.c_lt, WK.c_le, WK.c_gt, WK.c_ge, WK.c_eq, WK.c_ne, IC.PV.tup, IC.sizeMax, $xs,*])
noncomputable def lawB : Css := match f_law.body with
  | .cons _ (.cons _ (.cons _ (.cons _ (.cons (.for _ _ b) _)))) => b
  | _ => .nil
noncomputable def inB : Css := match lawB with
  | .cons _ (.cons _ (.cons (.for _ _ b) _)) => b
  | _ => .nil
theorem ins {v : PV} (tv : tam 6 50 v = true) {p0 p2 p3 p4 : Option PV} : ∀ (N : Nat) (a : Int) (p6 p7 : Option PV) (st : Store), ∃ q6 q7, forB (callT T 11) (.n 6) inB (rangeL N a 1) [p0, some (.loc 0), p2, p3, p4, some v, p6, p7] st = .nx [p0, some (.loc 0), p2, p3, p4, some v, q6, q7] st
  | 0, a, p6, p7, st => ⟨p6, p7, by rw [rangeL, forB_nil]⟩
  | N + 1, a, p6, p7, st => by
    obtain ⟨q6, q7, e⟩ := ins tv (p0 := p0) (p2 := p2) (p3 := p3) (p4 := p4) N (a + 1) (some (.int a)) (some (.bl (rowS v))) st
    refine ⟨q6, q7, ?_⟩
    have hA : callT T 11 i_is_row [v] st = .ok (.bl (rowS v)) st := is_row_ok 5 tv (by omega) (by omega) st
    have hB : callT T 11 i_qis_row [v] st = .ok (.bl (rowS v)) st := law_row_ok 8 tv (by omega) (by omega) st
    have hne : cmpV .ne (.bl (rowS v)) (.bl (rowS v)) = some (.bl false) := by simp [cmpV, shd, peq]
    have hb : exs (callT T 11) [p0, some (.loc 0), p2, p3, p4, some v, some (.int a), p7] st inB = .nx [p0, some (.loc 0), p2, p3, p4, some v, some (.int a), some (.bl (rowS v))] st := by
      simp! [inB, lawB, f_law, hA, isiV, isTy, isBl, hB, hne]
    rw [rangeL, forB_cons (ρ1 := [p0, some (.loc 0), p2, p3, p4, some v, some (.int a), p7]) rfl, hb]
    exact e
theorem turn {ns : List Int} (hns : ns.length <= 1000) {s : Str} {ps : List PV} (H : RowOk s ps) {p0 p2 p4 p5 p6 p7 : Option PV} {st : Store} (h : Drw ns 0 st) :
    ∃ st' q5 q6 q7, Drw ns 0 st' /\ exs (callT T 11) [p0, some (.loc 0), p2, some (.tp false (.str s :: ps)), p4, p5, p6, p7] st lawB = .nx [p0, some (.loc 0), p2, some (.tp false (.str s :: ps)), p4, q5, q6, q7] st' := by
  obtain ⟨v, s1, tv, g1, e1⟩ := spoilt_row hns 4 H h
  obtain ⟨w, s2, w0, w1, o2, e2⟩ := takeD 8 hns (m := 6) (by omega) (by omega) g1
  have g2 := o2.drw g1
  have e1 : callT T 11 i_qspoilt_row [.loc 0, .tp false (.str s :: ps)] st = _ := e1
  have e2 : callT T 11 i_qtake [.loc 0, .int 6] s1 = _ := e2
  have hr : rng1 (.int 2) = some (rangeL 2 0 1) := rfl
  have hb : lawB = (match lawB with
    | .cons a (.cons b (.cons (.for t i _) r)) => .cons a (.cons b (.cons (.for t i inB) r))
    | _ => .nil) := rfl
  by_cases c : w = 0
  · obtain ⟨u, s3, tu, g3, e3⟩ := strange hns 6 g2
    have e3 : callT T 11 i_qstrange [.loc 0] s2 = _ := e3
    obtain ⟨q6, q7, e4⟩ := ins (tam_le (by omega) (by omega) u tu) (p0 := p0) (p2 := p2) (p3 := some (.tp false (.str s :: ps))) (p4 := p4) 2 0 p6 p7 s3
    refine ⟨s3, some u, q6, q7, g3, ?_⟩
    have hc : (w == 0) = true := by simp [c]
    rw [hb]
    simp! [lawB, f_law, e1, e2, hc, e3, hr, e4]
  · obtain ⟨q6, q7, e4⟩ := ins tv (p0 := p0) (p2 := p2) (p3 := some (.tp false (.str s :: ps))) (p4 := p4) 2 0 p6 p7 s2
    refine ⟨s2, some v, q6, q7, g2, ?_⟩
    have hc : (w == 0) = false := beq_eq_false_iff_ne.2 c
    rw [hb]
    simp! [lawB, f_law, e1, e2, hc, hr, e4]
theorem turns {ns : List Int} (hns : ns.length <= 1000) {s : Str} {ps : List PV} (H : RowOk s ps) {p0 p2 : Option PV} : ∀ (N : Nat) (a : Int) (p4 p5 p6 p7 : Option PV) (st : Store), Drw ns 0 st ->
    ∃ st' q4 q5 q6 q7, Drw ns 0 st' /\ forB (callT T 11) (.n 4) lawB (rangeL N a 1) [p0, some (.loc 0), p2, some (.tp false (.str s :: ps)), p4, p5, p6, p7] st = .nx [p0, some (.loc 0), p2, some (.tp false (.str s :: ps)), q4, q5, q6, q7] st'
  | 0, a, p4, p5, p6, p7, st, h => ⟨st, p4, p5, p6, p7, h, by rw [rangeL, forB_nil]⟩
  | N + 1, a, p4, p5, p6, p7, st, h => by
    obtain ⟨s1, v5, v6, v7, g1, e1⟩ := turn hns H (p0 := p0) (p2 := p2) (p4 := some (.int a)) (p5 := p5) (p6 := p6) (p7 := p7) h
    obtain ⟨s2, w4, w5, w6, w7, g2, e2⟩ := turns hns H (p0 := p0) (p2 := p2) N (a + 1) (some (.int a)) v5 v6 v7 s1 g1
    refine ⟨s2, w4, w5, w6, w7, g2, ?_⟩
    rw [rangeL, forB_cons (ρ1 := [p0, some (.loc 0), p2, some (.tp false (.str s :: ps)), some (.int a), p5, p6, p7]) rfl, e1]
    exact e2
theorem law_true (ns : List Int) (hn : ns.length <= 63) : callT T 12 i_law [.scr (ns.map .int)] [] = .ok (.bl true) [] := by
  obtain ⟨o, e1, ho⟩ := fresh 10 ns hn []
  have h0 : Drw ns 0 [o] := ⟨0, 0, false, by omega, by rw [ho]; rfl⟩
  have hns : ns.length <= 1000 := by omega
  have hT : T i_law = some ⟨1, 8, true, f_law.body⟩ := rfl
  have e1 : callT T 11 i_qfresh [.scr (ns.map .int)] [] = .ok (.loc 0) [o] := e1
  obtain ⟨w, s2, w0, w1, o2, e2⟩ := takeD 8 hns (m := 5) (by omega) (by omega) h0
  have e2 : callT T 11 i_qtake [.loc 0, .int 5] [o] = _ := e2
  obtain ⟨many, rfl⟩ := nat_int w0
  obtain ⟨xs, s3, hx, hx2, l1, l2, g3, e3⟩ := some_cells hns 5 (o2.drw h0) many (by omega)
  have e3 : callT T 11 i_qsome_cells [.loc 0, .int many] s2 = _ := e3
  obtain ⟨s, ps, s4, H, g4, e4⟩ := some_row hns 7 g3 hx hx2 l1 l2
  have e4 : callT T 11 i_qsome_row [.loc 0, .lst xs] s3 = _ := e4
  have tr : tam 4 10 (.tp false (.str s :: ps)) = true := tam_tp.2 ⟨by omega, by have := H.few; simp; omega, fun x hx => by
    rcases List.mem_cons.1 hx with rfl | hx
    · exact tam_le (by omega) (by omega) _ H.ts
    · exact tam_le (by omega) (by omega) _ (H.tp x hx)⟩
  have hA : ∀ st, callT T 11 i_is_row [.tp false (.str s :: ps)] st = .ok (.bl true) st := fun st => by
    have := is_row_ok 5 tr (by omega) (by omega) st
    rw [H.row] at this
    exact this
  have tl : tam 4 10 (.lst (.str s :: ps)) = true := tam_lst.2 (tam_tp.1 tr)
  have hB : ∀ st, callT T 11 i_is_row [.lst (.str s :: ps)] st = .ok (.bl false) st := fun st => is_row_ok 5 tl (by omega) (by omega) st
  obtain ⟨s5, v4, v5, v6, v7, g5, e5⟩ := turns hns H (p0 := some (.scr (ns.map .int))) (p2 := some (.lst xs)) 4 0 none none none none s4 g4
  have hb : f_law.body = (match f_law.body with
    | .cons a (.cons b (.cons c (.cons d (.cons (.for t i _) r)))) => .cons a (.cons b (.cons c (.cons d (.cons (.for t i lawB) r))))
    | _ => .nil) := rfl
  have hr : rng1 (.int 4) = some (rangeL 4 0 1) := rfl
  have his : ∀ b, cmpV .is (.bl b) (.bl b) = some (.bl true) := fun b => by simp [cmpV]
  have hnot : cmpV .isnot (.bl true) (.bl true) = some (.bl false) := rfl
  have hli : ∀ st, bltV .list st [.tp false (.str s :: ps)] = some (.lst (.str s :: ps)) := fun st => rfl
  rw [call_pure hT rfl rfl (noLocs_scr ns)]
  dsimp only
  rw [hb]
  simp! [f_law, out_bl, Nat.zero_le, e1, e2, e3, e4, hA, hnot, hr, e5, hli, hB, his]
end WK
namespace WK
open PySem L2 IC
section
variable {P : Program} {w : World} {K : PySem.W.Frag} {mg : Str -> Option Value} {base : Heap} {cl : Nat -> Addr} {fa : Nat -> Addr} {fdd : Nat -> FuncData}
theorem fns_all (Z : Facts w K mg cl fa fdd) : ∀ k, Fns P w K mg base cl fa fdd k
  | 0 => fun i ps _ => fn_zero rfl
  | k + 1 => fun i ps h => match i, h with
    | 0, h => by cases h; exact bd_is_whole Z (fns_all Z k)
    | 1, h => by cases h; exact bd_is_letter Z (fns_all Z k)
    | 2, h => by cases h; exact bd_is_row Z (fns_all Z k)
    | 3, h => by cases h; exact bd_has_form Z (fns_all Z k)
    | 4, h => by cases h; exact bd_is_named Z (fns_all Z k)
    | 5, h => by cases h; exact bd_is_operand Z (fns_all Z k)
    | 6, h => by cases h; exact bd_is_cell Z (fns_all Z k)
    | 7, h => by cases h; exact bd_is_lettered Z (fns_all Z k)
    | 8, h => by cases h; exact bd_qfresh Z (fns_all Z k)
    | 9, h => by cases h; exact bd_qmixed Z (fns_all Z k)
    | 10, h => by cases h; exact bd_qfill Z (fns_all Z k)
    | 11, h => by cases h; exact bd_qtake Z (fns_all Z k)
    | 12, h => by cases h; exact bd_qwhole Z (fns_all Z k)
    | 13, h => by cases h; exact bd_qletter Z (fns_all Z k)
    | 14, h => by cases h; exact bd_qsome_letter Z (fns_all Z k)
    | 15, h => by cases h; exact bd_qsome_cell Z (fns_all Z k)
    | 16, h => by cases h; exact bd_qsome_row Z (fns_all Z k)
    | 17, h => by cases h; exact bd_qsome_cells Z (fns_all Z k)
    | 18, h => by cases h; exact bd_qis_cell Z (fns_all Z k)
    | 19, h => by cases h; exact bd_qis_row Z (fns_all Z k)
    | 20, h => by cases h; exact bd_qstrange Z (fns_all Z k)
    | 21, h => by cases h; exact bd_qspoilt_tuple Z (fns_all Z k)
    | 22, h => by cases h; exact bd_qspoilt_row Z (fns_all Z k)
    | 23, h => by cases h; exact bd_law Z (fns_all Z k)
    | i + 24, h => by cases h
end
set_option maxHeartbeats 0 in
theorem all_mk {l : PySem.W.OpenLaw} {w : World} {K : PySem.W.Frag} {h : Heap} {mg : Str -> Option Value} {fx : Addr} (X : K.In h) (G : h.Ns mainGlobals mg) (hfa : mg "law" = some (.ref fx))
    {f0 : Addr}
    {od0 an0 : Option Addr}
    {sl0 : Array (Option Value)}
    {oc0 kV0 dc0 pm0 cd0 ct0 : Value}
    {f1 : Addr}
    {od1 an1 : Option Addr}
    {sl1 : Array (Option Value)}
    {oc1 kV1 dc1 pm1 cd1 ct1 : Value}
    {f2 : Addr}
    {od2 an2 : Option Addr}
    {sl2 : Array (Option Value)}
    {oc2 kV2 dc2 pm2 cd2 ct2 : Value}
    {f3 : Addr}
    {od3 an3 : Option Addr}
    {sl3 : Array (Option Value)}
    {oc3 kV3 dc3 pm3 cd3 ct3 : Value}
    {f4 : Addr}
    {od4 an4 : Option Addr}
    {sl4 : Array (Option Value)}
    {oc4 kV4 dc4 pm4 cd4 ct4 : Value}
    {f5 : Addr}
    {od5 an5 : Option Addr}
    {sl5 : Array (Option Value)}
    {oc5 kV5 dc5 pm5 cd5 ct5 : Value}
    {f6 : Addr}
    {od6 an6 : Option Addr}
    {sl6 : Array (Option Value)}
    {oc6 kV6 dc6 pm6 cd6 ct6 : Value}
    {f7 : Addr}
    {od7 an7 : Option Addr}
    {sl7 : Array (Option Value)}
    {oc7 kV7 dc7 pm7 cd7 ct7 : Value}
    {f8 : Addr}
    {od8 an8 : Option Addr}
    {sl8 : Array (Option Value)}
    {oc8 kV8 dc8 pm8 cd8 ct8 : Value}
    {f9 : Addr}
    {od9 an9 : Option Addr}
    {sl9 : Array (Option Value)}
    {oc9 kV9 dc9 pm9 cd9 ct9 : Value}
    {f10 : Addr}
    {od10 an10 : Option Addr}
    {sl10 : Array (Option Value)}
    {oc10 kV10 dc10 pm10 cd10 ct10 : Value}
    {f11 : Addr}
    {od11 an11 : Option Addr}
    {sl11 : Array (Option Value)}
    {oc11 kV11 dc11 pm11 cd11 ct11 : Value}
    {f12 : Addr}
    {od12 an12 : Option Addr}
    {sl12 : Array (Option Value)}
    {oc12 kV12 dc12 pm12 cd12 ct12 : Value}
    {f13 : Addr}
    {od13 an13 : Option Addr}
    {sl13 : Array (Option Value)}
    {oc13 kV13 dc13 pm13 cd13 ct13 : Value}
    {f14 : Addr}
    {od14 an14 : Option Addr}
    {sl14 : Array (Option Value)}
    {oc14 kV14 dc14 pm14 cd14 ct14 : Value}
    {f15 : Addr}
    {od15 an15 : Option Addr}
    {sl15 : Array (Option Value)}
    {oc15 kV15 dc15 pm15 cd15 ct15 : Value}
    {f16 : Addr}
    {od16 an16 : Option Addr}
    {sl16 : Array (Option Value)}
    {oc16 kV16 dc16 pm16 cd16 ct16 : Value}
    {f17 : Addr}
    {od17 an17 : Option Addr}
    {sl17 : Array (Option Value)}
    {oc17 kV17 dc17 pm17 cd17 ct17 : Value}
    {f18 : Addr}
    {od18 an18 : Option Addr}
    {sl18 : Array (Option Value)}
    {oc18 kV18 dc18 pm18 cd18 ct18 : Value}
    {f19 : Addr}
    {od19 an19 : Option Addr}
    {sl19 : Array (Option Value)}
    {oc19 kV19 dc19 pm19 cd19 ct19 : Value}
    {f20 : Addr}
    {od20 an20 : Option Addr}
    {sl20 : Array (Option Value)}
    {oc20 kV20 dc20 pm20 cd20 ct20 : Value}
    {f21 : Addr}
    {od21 an21 : Option Addr}
    {sl21 : Array (Option Value)}
    {oc21 kV21 dc21 pm21 cd21 ct21 : Value}
    {f22 : Addr}
    {od22 an22 : Option Addr}
    {sl22 : Array (Option Value)}
    {oc22 kV22 dc22 pm22 cd22 ct22 : Value}
    {f23 : Addr}
    {od23 an23 : Option Addr}
    {sl23 : Array (Option Value)}
    {oc23 kV23 dc23 pm23 cd23 ct23 : Value}
    {gd_ROWS_y : Addr}
    {gd_ROWS_n : Nat}
    {gd_ROWS_0_y0 : Addr}
    {gd_ROWS_0_t0_0 : Tok}
    {gd_ROWS_0_t0_1 : Tok}
    {gd_ROWS_0_d0 : Option Addr}
    {gd_ROWS_0_n0 : Nat}
    {gd_ROWS_0_s0 : Array (Option Value)}
    {gd_ROWS_t0 : Tok}
    {gd_ROWS_1_y0 : Addr}
    {gd_ROWS_1_t0_0 : Tok}
    {gd_ROWS_1_t0_1 : Tok}
    {gd_ROWS_1_d0 : Option Addr}
    {gd_ROWS_1_n0 : Nat}
    {gd_ROWS_1_s0 : Array (Option Value)}
    {gd_ROWS_t1 : Tok}
    {gd_ROWS_2_y0 : Addr}
    {gd_ROWS_2_t0_0 : Tok}
    {gd_ROWS_2_t0_1 : Tok}
    {gd_ROWS_2_d0 : Option Addr}
    {gd_ROWS_2_n0 : Nat}
    {gd_ROWS_2_s0 : Array (Option Value)}
    {gd_ROWS_t2 : Tok}
    {gd_ROWS_3_y0 : Addr}
    {gd_ROWS_3_t0_0 : Tok}
    {gd_ROWS_3_t0_1 : Tok}
    {gd_ROWS_3_t0_2 : Tok}
    {gd_ROWS_3_d0 : Option Addr}
    {gd_ROWS_3_n0 : Nat}
    {gd_ROWS_3_s0 : Array (Option Value)}
    {gd_ROWS_t3 : Tok}
    {gd_ROWS_4_y0 : Addr}
    {gd_ROWS_4_t0_0 : Tok}
    {gd_ROWS_4_t0_1 : Tok}
    {gd_ROWS_4_t0_2 : Tok}
    {gd_ROWS_4_d0 : Option Addr}
    {gd_ROWS_4_n0 : Nat}
    {gd_ROWS_4_s0 : Array (Option Value)}
    {gd_ROWS_t4 : Tok}
    {gd_ROWS_5_y0 : Addr}
    {gd_ROWS_5_t0_0 : Tok}
    {gd_ROWS_5_t0_1 : Tok}
    {gd_ROWS_5_t0_2 : Tok}
    {gd_ROWS_5_d0 : Option Addr}
    {gd_ROWS_5_n0 : Nat}
    {gd_ROWS_5_s0 : Array (Option Value)}
    {gd_ROWS_t5 : Tok}
    {gd_ROWS_6_y0 : Addr}
    {gd_ROWS_6_t0_0 : Tok}
    {gd_ROWS_6_t0_1 : Tok}
    {gd_ROWS_6_t0_2 : Tok}
    {gd_ROWS_6_d0 : Option Addr}
    {gd_ROWS_6_n0 : Nat}
    {gd_ROWS_6_s0 : Array (Option Value)}
    {gd_ROWS_t6 : Tok}
    {gd_ROWS_7_y0 : Addr}
    {gd_ROWS_7_t0_0 : Tok}
    {gd_ROWS_7_t0_1 : Tok}
    {gd_ROWS_7_t0_2 : Tok}
    {gd_ROWS_7_d0 : Option Addr}
    {gd_ROWS_7_n0 : Nat}
    {gd_ROWS_7_s0 : Array (Option Value)}
    {gd_ROWS_t7 : Tok}
    {gd_ROWS_8_y0 : Addr}
    {gd_ROWS_8_t0_0 : Tok}
    {gd_ROWS_8_t0_1 : Tok}
    {gd_ROWS_8_d0 : Option Addr}
    {gd_ROWS_8_n0 : Nat}
    {gd_ROWS_8_s0 : Array (Option Value)}
    {gd_ROWS_t8 : Tok}
    {gd_ROWS_9_y0 : Addr}
    {gd_ROWS_9_t0_0 : Tok}
    {gd_ROWS_9_t0_1 : Tok}
    {gd_ROWS_9_d0 : Option Addr}
    {gd_ROWS_9_n0 : Nat}
    {gd_ROWS_9_s0 : Array (Option Value)}
    {gd_ROWS_t9 : Tok}
    {gd_ROWS_10_y0 : Addr}
    {gd_ROWS_10_t0_0 : Tok}
    {gd_ROWS_10_t0_1 : Tok}
    {gd_ROWS_10_t0_2 : Tok}
    {gd_ROWS_10_t0_3 : Tok}
    {gd_ROWS_10_d0 : Option Addr}
    {gd_ROWS_10_n0 : Nat}
    {gd_ROWS_10_s0 : Array (Option Value)}
    {gd_ROWS_t10 : Tok}
    {gd_ROWS_11_y0 : Addr}
    {gd_ROWS_11_t0_0 : Tok}
    {gd_ROWS_11_d0 : Option Addr}
    {gd_ROWS_11_n0 : Nat}
    {gd_ROWS_11_s0 : Array (Option Value)}
    {gd_ROWS_t11 : Tok}
    {gd_ROWS_12_y0 : Addr}
    {gd_ROWS_12_t0_0 : Tok}
    {gd_ROWS_12_d0 : Option Addr}
    {gd_ROWS_12_n0 : Nat}
    {gd_ROWS_12_s0 : Array (Option Value)}
    {gd_ROWS_t12 : Tok}
    (a0 : PySem.W.nsIn K mainGlobals "is_whole" = some (some (.ref f0)))
    (l0 : K.lookup f0 = some ⟨oc0, od0, .func (PySem.W.fnOf "is_whole" "is_whole" (defArgs s_is_whole) (defBody s_is_whole) (defScope s_is_whole) .none kV0 dc0 pm0 an0 cd0 ct0), sl0⟩)
    (c0 : PySem.W.codeIn K cd0 "is_whole" = true)
    (p0 : PySem.W.keepIn K (.ref f0) = true)
    (a1 : PySem.W.nsIn K mainGlobals "is_letter" = some (some (.ref f1)))
    (l1 : K.lookup f1 = some ⟨oc1, od1, .func (PySem.W.fnOf "is_letter" "is_letter" (defArgs s_is_letter) (defBody s_is_letter) (defScope s_is_letter) .none kV1 dc1 pm1 an1 cd1 ct1), sl1⟩)
    (c1 : PySem.W.codeIn K cd1 "is_letter" = true)
    (p1 : PySem.W.keepIn K (.ref f1) = true)
    (a2 : PySem.W.nsIn K mainGlobals "is_row" = some (some (.ref f2)))
    (l2 : K.lookup f2 = some ⟨oc2, od2, .func (PySem.W.fnOf "is_row" "is_row" (defArgs s_is_row) (defBody s_is_row) (defScope s_is_row) .none kV2 dc2 pm2 an2 cd2 ct2), sl2⟩)
    (c2 : PySem.W.codeIn K cd2 "is_row" = true)
    (p2 : PySem.W.keepIn K (.ref f2) = true)
    (a3 : PySem.W.nsIn K mainGlobals "has_form" = some (some (.ref f3)))
    (l3 : K.lookup f3 = some ⟨oc3, od3, .func (PySem.W.fnOf "has_form" "has_form" (defArgs s_has_form) (defBody s_has_form) (defScope s_has_form) .none kV3 dc3 pm3 an3 cd3 ct3), sl3⟩)
    (c3 : PySem.W.codeIn K cd3 "has_form" = true)
    (p3 : PySem.W.keepIn K (.ref f3) = true)
    (a4 : PySem.W.nsIn K mainGlobals "is_named" = some (some (.ref f4)))
    (l4 : K.lookup f4 = some ⟨oc4, od4, .func (PySem.W.fnOf "is_named" "is_named" (defArgs s_is_named) (defBody s_is_named) (defScope s_is_named) .none kV4 dc4 pm4 an4 cd4 ct4), sl4⟩)
    (c4 : PySem.W.codeIn K cd4 "is_named" = true)
    (p4 : PySem.W.keepIn K (.ref f4) = true)
    (a5 : PySem.W.nsIn K mainGlobals "is_operand" = some (some (.ref f5)))
    (l5 : K.lookup f5 = some ⟨oc5, od5, .func (PySem.W.fnOf "is_operand" "is_operand" (defArgs s_is_operand) (defBody s_is_operand) (defScope s_is_operand) .none kV5 dc5 pm5 an5 cd5 ct5), sl5⟩)
    (c5 : PySem.W.codeIn K cd5 "is_operand" = true)
    (p5 : PySem.W.keepIn K (.ref f5) = true)
    (a6 : PySem.W.nsIn K mainGlobals "is_cell" = some (some (.ref f6)))
    (l6 : K.lookup f6 = some ⟨oc6, od6, .func (PySem.W.fnOf "is_cell" "is_cell" (defArgs s_is_cell) (defBody s_is_cell) (defScope s_is_cell) .none kV6 dc6 pm6 an6 cd6 ct6), sl6⟩)
    (c6 : PySem.W.codeIn K cd6 "is_cell" = true)
    (p6 : PySem.W.keepIn K (.ref f6) = true)
    (a7 : PySem.W.nsIn K mainGlobals "is_lettered" = some (some (.ref f7)))
    (l7 : K.lookup f7 = some ⟨oc7, od7, .func (PySem.W.fnOf "is_lettered" "is_lettered" (defArgs s_is_lettered) (defBody s_is_lettered) (defScope s_is_lettered) .none kV7 dc7 pm7 an7 cd7 ct7), sl7⟩)
    (c7 : PySem.W.codeIn K cd7 "is_lettered" = true)
    (p7 : PySem.W.keepIn K (.ref f7) = true)
    (a8 : PySem.W.nsIn K mainGlobals "_law_fresh" = some (some (.ref f8)))
    (l8 : K.lookup f8 = some ⟨oc8, od8, .func (PySem.W.fnOf "_law_fresh" "_law_fresh" (defArgs s_qfresh) (defBody s_qfresh) (defScope s_qfresh) .none kV8 dc8 pm8 an8 cd8 ct8), sl8⟩)
    (c8 : PySem.W.codeIn K cd8 "_law_fresh" = true)
    (p8 : PySem.W.keepIn K (.ref f8) = true)
    (a9 : PySem.W.nsIn K mainGlobals "_law_mixed" = some (some (.ref f9)))
    (l9 : K.lookup f9 = some ⟨oc9, od9, .func (PySem.W.fnOf "_law_mixed" "_law_mixed" (defArgs s_qmixed) (defBody s_qmixed) (defScope s_qmixed) .none kV9 dc9 pm9 an9 cd9 ct9), sl9⟩)
    (c9 : PySem.W.codeIn K cd9 "_law_mixed" = true)
    (p9 : PySem.W.keepIn K (.ref f9) = true)
    (a10 : PySem.W.nsIn K mainGlobals "_law_fill" = some (some (.ref f10)))
    (l10 : K.lookup f10 = some ⟨oc10, od10, .func (PySem.W.fnOf "_law_fill" "_law_fill" (defArgs s_qfill) (defBody s_qfill) (defScope s_qfill) .none kV10 dc10 pm10 an10 cd10 ct10), sl10⟩)
    (c10 : PySem.W.codeIn K cd10 "_law_fill" = true)
    (p10 : PySem.W.keepIn K (.ref f10) = true)
    (a11 : PySem.W.nsIn K mainGlobals "_law_take" = some (some (.ref f11)))
    (l11 : K.lookup f11 = some ⟨oc11, od11, .func (PySem.W.fnOf "_law_take" "_law_take" (defArgs s_qtake) (defBody s_qtake) (defScope s_qtake) .none kV11 dc11 pm11 an11 cd11 ct11), sl11⟩)
    (c11 : PySem.W.codeIn K cd11 "_law_take" = true)
    (p11 : PySem.W.keepIn K (.ref f11) = true)
    (a12 : PySem.W.nsIn K mainGlobals "_law_whole" = some (some (.ref f12)))
    (l12 : K.lookup f12 = some ⟨oc12, od12, .func (PySem.W.fnOf "_law_whole" "_law_whole" (defArgs s_qwhole) (defBody s_qwhole) (defScope s_qwhole) .none kV12 dc12 pm12 an12 cd12 ct12), sl12⟩)
    (c12 : PySem.W.codeIn K cd12 "_law_whole" = true)
    (p12 : PySem.W.keepIn K (.ref f12) = true)
    (a13 : PySem.W.nsIn K mainGlobals "_law_letter" = some (some (.ref f13)))
    (l13 : K.lookup f13 = some ⟨oc13, od13, .func (PySem.W.fnOf "_law_letter" "_law_letter" (defArgs s_qletter) (defBody s_qletter) (defScope s_qletter) .none kV13 dc13 pm13 an13 cd13 ct13), sl13⟩)
    (c13 : PySem.W.codeIn K cd13 "_law_letter" = true)
    (p13 : PySem.W.keepIn K (.ref f13) = true)
    (a14 : PySem.W.nsIn K mainGlobals "_law_some_letter" = some (some (.ref f14)))
    (l14 : K.lookup f14 = some ⟨oc14, od14, .func (PySem.W.fnOf "_law_some_letter" "_law_some_letter" (defArgs s_qsome_letter) (defBody s_qsome_letter) (defScope s_qsome_letter) .none kV14 dc14 pm14 an14 cd14 ct14), sl14⟩)
    (c14 : PySem.W.codeIn K cd14 "_law_some_letter" = true)
    (p14 : PySem.W.keepIn K (.ref f14) = true)
    (a15 : PySem.W.nsIn K mainGlobals "_law_some_cell" = some (some (.ref f15)))
    (l15 : K.lookup f15 = some ⟨oc15, od15, .func (PySem.W.fnOf "_law_some_cell" "_law_some_cell" (defArgs s_qsome_cell) (defBody s_qsome_cell) (defScope s_qsome_cell) .none kV15 dc15 pm15 an15 cd15 ct15), sl15⟩)
    (c15 : PySem.W.codeIn K cd15 "_law_some_cell" = true)
    (p15 : PySem.W.keepIn K (.ref f15) = true)
    (a16 : PySem.W.nsIn K mainGlobals "_law_some_row" = some (some (.ref f16)))
    (l16 : K.lookup f16 = some ⟨oc16, od16, .func (PySem.W.fnOf "_law_some_row" "_law_some_row" (defArgs s_qsome_row) (defBody s_qsome_row) (defScope s_qsome_row) .none kV16 dc16 pm16 an16 cd16 ct16), sl16⟩)
    (c16 : PySem.W.codeIn K cd16 "_law_some_row" = true)
    (p16 : PySem.W.keepIn K (.ref f16) = true)
    (a17 : PySem.W.nsIn K mainGlobals "_law_some_cells" = some (some (.ref f17)))
    (l17 : K.lookup f17 = some ⟨oc17, od17, .func (PySem.W.fnOf "_law_some_cells" "_law_some_cells" (defArgs s_qsome_cells) (defBody s_qsome_cells) (defScope s_qsome_cells) .none kV17 dc17 pm17 an17 cd17 ct17), sl17⟩)
    (c17 : PySem.W.codeIn K cd17 "_law_some_cells" = true)
    (p17 : PySem.W.keepIn K (.ref f17) = true)
    (a18 : PySem.W.nsIn K mainGlobals "_law_is_cell" = some (some (.ref f18)))
    (l18 : K.lookup f18 = some ⟨oc18, od18, .func (PySem.W.fnOf "_law_is_cell" "_law_is_cell" (defArgs s_qis_cell) (defBody s_qis_cell) (defScope s_qis_cell) .none kV18 dc18 pm18 an18 cd18 ct18), sl18⟩)
    (c18 : PySem.W.codeIn K cd18 "_law_is_cell" = true)
    (p18 : PySem.W.keepIn K (.ref f18) = true)
    (a19 : PySem.W.nsIn K mainGlobals "_law_is_row" = some (some (.ref f19)))
    (l19 : K.lookup f19 = some ⟨oc19, od19, .func (PySem.W.fnOf "_law_is_row" "_law_is_row" (defArgs s_qis_row) (defBody s_qis_row) (defScope s_qis_row) .none kV19 dc19 pm19 an19 cd19 ct19), sl19⟩)
    (c19 : PySem.W.codeIn K cd19 "_law_is_row" = true)
    (p19 : PySem.W.keepIn K (.ref f19) = true)
    (a20 : PySem.W.nsIn K mainGlobals "_law_strange" = some (some (.ref f20)))
    (l20 : K.lookup f20 = some ⟨oc20, od20, .func (PySem.W.fnOf "_law_strange" "_law_strange" (defArgs s_qstrange) (defBody s_qstrange) (defScope s_qstrange) .none kV20 dc20 pm20 an20 cd20 ct20), sl20⟩)
    (c20 : PySem.W.codeIn K cd20 "_law_strange" = true)
    (p20 : PySem.W.keepIn K (.ref f20) = true)
    (a21 : PySem.W.nsIn K mainGlobals "_law_spoilt_tuple" = some (some (.ref f21)))
    (l21 : K.lookup f21 = some ⟨oc21, od21, .func (PySem.W.fnOf "_law_spoilt_tuple" "_law_spoilt_tuple" (defArgs s_qspoilt_tuple) (defBody s_qspoilt_tuple) (defScope s_qspoilt_tuple) .none kV21 dc21 pm21 an21 cd21 ct21), sl21⟩)
    (c21 : PySem.W.codeIn K cd21 "_law_spoilt_tuple" = true)
    (p21 : PySem.W.keepIn K (.ref f21) = true)
    (a22 : PySem.W.nsIn K mainGlobals "_law_spoilt_row" = some (some (.ref f22)))
    (l22 : K.lookup f22 = some ⟨oc22, od22, .func (PySem.W.fnOf "_law_spoilt_row" "_law_spoilt_row" (defArgs s_qspoilt_row) (defBody s_qspoilt_row) (defScope s_qspoilt_row) .none kV22 dc22 pm22 an22 cd22 ct22), sl22⟩)
    (c22 : PySem.W.codeIn K cd22 "_law_spoilt_row" = true)
    (p22 : PySem.W.keepIn K (.ref f22) = true)
    (a23 : PySem.W.nsIn K mainGlobals "law" = some (some (.ref f23)))
    (l23 : K.lookup f23 = some ⟨oc23, od23, .func (PySem.W.fnOf "law" "law" (defArgs s_law) (defBody s_law) (defScope s_law) .none kV23 dc23 pm23 an23 cd23 ct23), sl23⟩)
    (c23 : PySem.W.codeIn K cd23 "law" = true)
    (p23 : PySem.W.keepIn K (.ref f23) = true)
    (z_all : PySem.W.nsIn K mainGlobals "all" = some none)
    (z_bool : PySem.W.nsIn K mainGlobals "bool" = some none)
    (z_enumerate : PySem.W.nsIn K mainGlobals "enumerate" = some none)
    (z_int : PySem.W.nsIn K mainGlobals "int" = some none)
    (z_isinstance : PySem.W.nsIn K mainGlobals "isinstance" = some none)
    (z_len : PySem.W.nsIn K mainGlobals "len" = some none)
    (z_list : PySem.W.nsIn K mainGlobals "list" = some none)
    (z_min : PySem.W.nsIn K mainGlobals "min" = some none)
    (z_range : PySem.W.nsIn K mainGlobals "range" = some none)
    (z_str : PySem.W.nsIn K mainGlobals "str" = some none)
    (z_tuple : PySem.W.nsIn K mainGlobals "tuple" = some none)
    (z_zip : PySem.W.nsIn K mainGlobals "zip" = some none)
    (k_bool_n : PySem.W.kitOne K (.type "NoneType") (.type "bool") = some false)
    (k_bool_b : PySem.W.kitOne K (.type "bool") (.type "bool") = some true)
    (k_bool_i : PySem.W.kitOne K (.type "int") (.type "bool") = some false)
    (k_bool_s : PySem.W.kitOne K (.type "str") (.type "bool") = some false)
    (k_bool_p : PySem.W.kitOne K (.type "tuple") (.type "bool") = some false)
    (k_bool_l : PySem.W.kitOne K (.type "list") (.type "bool") = some false)
    (k_int_n : PySem.W.kitOne K (.type "NoneType") (.type "int") = some false)
    (k_int_b : PySem.W.kitOne K (.type "bool") (.type "int") = some true)
    (k_int_i : PySem.W.kitOne K (.type "int") (.type "int") = some true)
    (k_int_s : PySem.W.kitOne K (.type "str") (.type "int") = some false)
    (k_int_p : PySem.W.kitOne K (.type "tuple") (.type "int") = some false)
    (k_int_l : PySem.W.kitOne K (.type "list") (.type "int") = some false)
    (k_str_n : PySem.W.kitOne K (.type "NoneType") (.type "str") = some false)
    (k_str_b : PySem.W.kitOne K (.type "bool") (.type "str") = some false)
    (k_str_i : PySem.W.kitOne K (.type "int") (.type "str") = some false)
    (k_str_s : PySem.W.kitOne K (.type "str") (.type "str") = some true)
    (k_str_p : PySem.W.kitOne K (.type "tuple") (.type "str") = some false)
    (k_str_l : PySem.W.kitOne K (.type "list") (.type "str") = some false)
    (k_tuple_n : PySem.W.kitOne K (.type "NoneType") (.type "tuple") = some false)
    (k_tuple_b : PySem.W.kitOne K (.type "bool") (.type "tuple") = some false)
    (k_tuple_i : PySem.W.kitOne K (.type "int") (.type "tuple") = some false)
    (k_tuple_s : PySem.W.kitOne K (.type "str") (.type "tuple") = some false)
    (k_tuple_p : PySem.W.kitOne K (.type "tuple") (.type "tuple") = some true)
    (k_tuple_l : PySem.W.kitOne K (.type "list") (.type "tuple") = some false)
    (gd_ROWS_a : PySem.W.nsIn K mainGlobals "ROWS" = some (some (.ref gd_ROWS_y)))
    (gd_ROWS_l : K.lookup gd_ROWS_y = some ⟨.type "dict", none, .dict #[⟨PyData.keyHash w.params "set", .str "set" gd_ROWS_t0, .ref gd_ROWS_0_y0⟩, ⟨PyData.keyHash w.params "move", .str "move" gd_ROWS_t1, .ref gd_ROWS_1_y0⟩, ⟨PyData.keyHash w.params "bare", .str "bare" gd_ROWS_t2, .ref gd_ROWS_2_y0⟩, ⟨PyData.keyHash w.params "sum", .str "sum" gd_ROWS_t3, .ref gd_ROWS_3_y0⟩, ⟨PyData.keyHash w.params "less", .str "less" gd_ROWS_t4, .ref gd_ROWS_4_y0⟩, ⟨PyData.keyHash w.params "both", .str "both" gd_ROWS_t5, .ref gd_ROWS_5_y0⟩, ⟨PyData.keyHash w.params "any", .str "any" gd_ROWS_t6, .ref gd_ROWS_6_y0⟩, ⟨PyData.keyHash w.params "odd", .str "odd" gd_ROWS_t7, .ref gd_ROWS_7_y0⟩, ⟨PyData.keyHash w.params "twice", .str "twice" gd_ROWS_t8, .ref gd_ROWS_8_y0⟩, ⟨PyData.keyHash w.params "half", .str "half" gd_ROWS_t9, .ref gd_ROWS_9_y0⟩, ⟨PyData.keyHash w.params "times", .str "times" gd_ROWS_t10, .ref gd_ROWS_10_y0⟩, ⟨PyData.keyHash w.params "mark", .str "mark" gd_ROWS_t11, .ref gd_ROWS_11_y0⟩, ⟨PyData.keyHash w.params "ask", .str "ask" gd_ROWS_t12, .ref gd_ROWS_12_y0⟩] gd_ROWS_n, #[]⟩)
    (gd_ROWS_s : (gd_ROWS_y == sysModules) = false)
    (gd_ROWS_0_l0 : K.lookup gd_ROWS_0_y0 = some ⟨.type "tuple", gd_ROWS_0_d0, .seq #[.str "cell" gd_ROWS_0_t0_0, .str "figure" gd_ROWS_0_t0_1] gd_ROWS_0_n0, gd_ROWS_0_s0⟩)
    (gd_ROWS_1_l0 : K.lookup gd_ROWS_1_y0 = some ⟨.type "tuple", gd_ROWS_1_d0, .seq #[.str "cell" gd_ROWS_1_t0_0, .str "cell" gd_ROWS_1_t0_1] gd_ROWS_1_n0, gd_ROWS_1_s0⟩)
    (gd_ROWS_2_l0 : K.lookup gd_ROWS_2_y0 = some ⟨.type "tuple", gd_ROWS_2_d0, .seq #[.str "cell" gd_ROWS_2_t0_0, .str "cell" gd_ROWS_2_t0_1] gd_ROWS_2_n0, gd_ROWS_2_s0⟩)
    (gd_ROWS_3_l0 : K.lookup gd_ROWS_3_y0 = some ⟨.type "tuple", gd_ROWS_3_d0, .seq #[.str "cell" gd_ROWS_3_t0_0, .str "cell" gd_ROWS_3_t0_1, .str "cell" gd_ROWS_3_t0_2] gd_ROWS_3_n0, gd_ROWS_3_s0⟩)
    (gd_ROWS_4_l0 : K.lookup gd_ROWS_4_y0 = some ⟨.type "tuple", gd_ROWS_4_d0, .seq #[.str "cell" gd_ROWS_4_t0_0, .str "cell" gd_ROWS_4_t0_1, .str "cell" gd_ROWS_4_t0_2] gd_ROWS_4_n0, gd_ROWS_4_s0⟩)
    (gd_ROWS_5_l0 : K.lookup gd_ROWS_5_y0 = some ⟨.type "tuple", gd_ROWS_5_d0, .seq #[.str "cell" gd_ROWS_5_t0_0, .str "cell" gd_ROWS_5_t0_1, .str "cell" gd_ROWS_5_t0_2] gd_ROWS_5_n0, gd_ROWS_5_s0⟩)
    (gd_ROWS_6_l0 : K.lookup gd_ROWS_6_y0 = some ⟨.type "tuple", gd_ROWS_6_d0, .seq #[.str "cell" gd_ROWS_6_t0_0, .str "cell" gd_ROWS_6_t0_1, .str "cell" gd_ROWS_6_t0_2] gd_ROWS_6_n0, gd_ROWS_6_s0⟩)
    (gd_ROWS_7_l0 : K.lookup gd_ROWS_7_y0 = some ⟨.type "tuple", gd_ROWS_7_d0, .seq #[.str "cell" gd_ROWS_7_t0_0, .str "cell" gd_ROWS_7_t0_1, .str "cell" gd_ROWS_7_t0_2] gd_ROWS_7_n0, gd_ROWS_7_s0⟩)
    (gd_ROWS_8_l0 : K.lookup gd_ROWS_8_y0 = some ⟨.type "tuple", gd_ROWS_8_d0, .seq #[.str "cell" gd_ROWS_8_t0_0, .str "cell" gd_ROWS_8_t0_1] gd_ROWS_8_n0, gd_ROWS_8_s0⟩)
    (gd_ROWS_9_l0 : K.lookup gd_ROWS_9_y0 = some ⟨.type "tuple", gd_ROWS_9_d0, .seq #[.str "cell" gd_ROWS_9_t0_0, .str "cell" gd_ROWS_9_t0_1] gd_ROWS_9_n0, gd_ROWS_9_s0⟩)
    (gd_ROWS_10_l0 : K.lookup gd_ROWS_10_y0 = some ⟨.type "tuple", gd_ROWS_10_d0, .seq #[.str "cell" gd_ROWS_10_t0_0, .str "cell" gd_ROWS_10_t0_1, .str "cell" gd_ROWS_10_t0_2, .str "cell" gd_ROWS_10_t0_3] gd_ROWS_10_n0, gd_ROWS_10_s0⟩)
    (gd_ROWS_11_l0 : K.lookup gd_ROWS_11_y0 = some ⟨.type "tuple", gd_ROWS_11_d0, .seq #[.str "figure" gd_ROWS_11_t0_0] gd_ROWS_11_n0, gd_ROWS_11_s0⟩)
    (gd_ROWS_12_l0 : K.lookup gd_ROWS_12_y0 = some ⟨.type "tuple", gd_ROWS_12_d0, .seq #[.str "cell" gd_ROWS_12_t0_0] gd_ROWS_12_n0, gd_ROWS_12_s0⟩)
    : ∃ fd : FuncData, (∀ (s : Shared) (v : Value), BindsTo s fd ⟨[v], []⟩ [("_law_script", v)]) /\ ∀ base : Heap, K.In base -> base.Ns mainGlobals mg -> FnOk l.prog w K mg base (CX1 l.prog w) 12 fx fd ["_law_script"] (spX K (callT T 12) i_law) := by
  have e := Value.ref.inj (Option.some.inj (hfa.symm.trans (PySem.W.mg_of X G a23)))
  subst e
  have Z : Facts w K mg (fun i => ([0, 0, 0, 0, 0, 0, 0, 0, 0, 0, 0, 0, 0, 0, 0] : List Addr).getD i 0) (fun i => ([f0, f1, f2, f3, f4, f5, f6, f7, f8, f9, f10, f11, f12, f13, f14, f15, f16, f17, f18, f19, f20, f21, f22, fx] : List Addr).getD i 0) (fun i => match i with
    | 0 => (PySem.W.fnOf "is_whole" "is_whole" (defArgs s_is_whole) (defBody s_is_whole) (defScope s_is_whole) .none kV0 dc0 pm0 an0 cd0 ct0)
    | 1 => (PySem.W.fnOf "is_letter" "is_letter" (defArgs s_is_letter) (defBody s_is_letter) (defScope s_is_letter) .none kV1 dc1 pm1 an1 cd1 ct1)
    | 2 => (PySem.W.fnOf "is_row" "is_row" (defArgs s_is_row) (defBody s_is_row) (defScope s_is_row) .none kV2 dc2 pm2 an2 cd2 ct2)
    | 3 => (PySem.W.fnOf "has_form" "has_form" (defArgs s_has_form) (defBody s_has_form) (defScope s_has_form) .none kV3 dc3 pm3 an3 cd3 ct3)
    | 4 => (PySem.W.fnOf "is_named" "is_named" (defArgs s_is_named) (defBody s_is_named) (defScope s_is_named) .none kV4 dc4 pm4 an4 cd4 ct4)
    | 5 => (PySem.W.fnOf "is_operand" "is_operand" (defArgs s_is_operand) (defBody s_is_operand) (defScope s_is_operand) .none kV5 dc5 pm5 an5 cd5 ct5)
    | 6 => (PySem.W.fnOf "is_cell" "is_cell" (defArgs s_is_cell) (defBody s_is_cell) (defScope s_is_cell) .none kV6 dc6 pm6 an6 cd6 ct6)
    | 7 => (PySem.W.fnOf "is_lettered" "is_lettered" (defArgs s_is_lettered) (defBody s_is_lettered) (defScope s_is_lettered) .none kV7 dc7 pm7 an7 cd7 ct7)
    | 8 => (PySem.W.fnOf "_law_fresh" "_law_fresh" (defArgs s_qfresh) (defBody s_qfresh) (defScope s_qfresh) .none kV8 dc8 pm8 an8 cd8 ct8)
    | 9 => (PySem.W.fnOf "_law_mixed" "_law_mixed" (defArgs s_qmixed) (defBody s_qmixed) (defScope s_qmixed) .none kV9 dc9 pm9 an9 cd9 ct9)
    | 10 => (PySem.W.fnOf "_law_fill" "_law_fill" (defArgs s_qfill) (defBody s_qfill) (defScope s_qfill) .none kV10 dc10 pm10 an10 cd10 ct10)
    | 11 => (PySem.W.fnOf "_law_take" "_law_take" (defArgs s_qtake) (defBody s_qtake) (defScope s_qtake) .none kV11 dc11 pm11 an11 cd11 ct11)
    | 12 => (PySem.W.fnOf "_law_whole" "_law_whole" (defArgs s_qwhole) (defBody s_qwhole) (defScope s_qwhole) .none kV12 dc12 pm12 an12 cd12 ct12)
    | 13 => (PySem.W.fnOf "_law_letter" "_law_letter" (defArgs s_qletter) (defBody s_qletter) (defScope s_qletter) .none kV13 dc13 pm13 an13 cd13 ct13)
    | 14 => (PySem.W.fnOf "_law_some_letter" "_law_some_letter" (defArgs s_qsome_letter) (defBody s_qsome_letter) (defScope s_qsome_letter) .none kV14 dc14 pm14 an14 cd14 ct14)
    | 15 => (PySem.W.fnOf "_law_some_cell" "_law_some_cell" (defArgs s_qsome_cell) (defBody s_qsome_cell) (defScope s_qsome_cell) .none kV15 dc15 pm15 an15 cd15 ct15)
    | 16 => (PySem.W.fnOf "_law_some_row" "_law_some_row" (defArgs s_qsome_row) (defBody s_qsome_row) (defScope s_qsome_row) .none kV16 dc16 pm16 an16 cd16 ct16)
    | 17 => (PySem.W.fnOf "_law_some_cells" "_law_some_cells" (defArgs s_qsome_cells) (defBody s_qsome_cells) (defScope s_qsome_cells) .none kV17 dc17 pm17 an17 cd17 ct17)
    | 18 => (PySem.W.fnOf "_law_is_cell" "_law_is_cell" (defArgs s_qis_cell) (defBody s_qis_cell) (defScope s_qis_cell) .none kV18 dc18 pm18 an18 cd18 ct18)
    | 19 => (PySem.W.fnOf "_law_is_row" "_law_is_row" (defArgs s_qis_row) (defBody s_qis_row) (defScope s_qis_row) .none kV19 dc19 pm19 an19 cd19 ct19)
    | 20 => (PySem.W.fnOf "_law_strange" "_law_strange" (defArgs s_qstrange) (defBody s_qstrange) (defScope s_qstrange) .none kV20 dc20 pm20 an20 cd20 ct20)
    | 21 => (PySem.W.fnOf "_law_spoilt_tuple" "_law_spoilt_tuple" (defArgs s_qspoilt_tuple) (defBody s_qspoilt_tuple) (defScope s_qspoilt_tuple) .none kV21 dc21 pm21 an21 cd21 ct21)
    | 22 => (PySem.W.fnOf "_law_spoilt_row" "_law_spoilt_row" (defArgs s_qspoilt_row) (defBody s_qspoilt_row) (defScope s_qspoilt_row) .none kV22 dc22 pm22 an22 cd22 ct22)
    | 23 => (PySem.W.fnOf "law" "law" (defArgs s_law) (defBody s_law) (defScope s_law) .none kV23 dc23 pm23 an23 cd23 ct23)
    | _ => (PySem.W.fnOf "law" "law" (defArgs s_law) (defBody s_law) (defScope s_law) .none kV23 dc23 pm23 an23 cd23 ct23)) := {
    F0 := fn_mk (st := s_is_whole) (ps := ["thing", "low", "high"]) X G a0 l0 c0 p0 fun _ _ _ _ _ _ us hl => match us, hl with | [_, _, _], _ => rfl
    F1 := fn_mk (st := s_is_letter) (ps := ["thing"]) X G a1 l1 c1 p1 fun _ _ _ _ _ _ us hl => match us, hl with | [_], _ => rfl
    F2 := fn_mk (st := s_is_row) (ps := ["thing"]) X G a2 l2 c2 p2 fun _ _ _ _ _ _ us hl => match us, hl with | [_], _ => rfl
    F3 := fn_mk (st := s_has_form) (ps := ["thing", "told"]) X G a3 l3 c3 p3 fun _ _ _ _ _ _ us hl => match us, hl with | [_, _], _ => rfl
    F4 := fn_mk (st := s_is_named) (ps := ["thing"]) X G a4 l4 c4 p4 fun _ _ _ _ _ _ us hl => match us, hl with | [_], _ => rfl
    F5 := fn_mk (st := s_is_operand) (ps := ["kind", "thing", "told"]) X G a5 l5 c5 p5 fun _ _ _ _ _ _ us hl => match us, hl with | [_, _, _], _ => rfl
    F6 := fn_mk (st := s_is_cell) (ps := ["thing"]) X G a6 l6 c6 p6 fun _ _ _ _ _ _ us hl => match us, hl with | [_], _ => rfl
    F7 := fn_mk (st := s_is_lettered) (ps := ["thing"]) X G a7 l7 c7 p7 fun _ _ _ _ _ _ us hl => match us, hl with | [_], _ => rfl
    F8 := fn_mk (st := s_qfresh) (ps := ["_law_script"]) X G a8 l8 c8 p8 fun _ _ _ _ _ _ us hl => match us, hl with | [_], _ => rfl
    F9 := fn_mk (st := s_qmixed) (ps := ["_law_seed"]) X G a9 l9 c9 p9 fun _ _ _ _ _ _ us hl => match us, hl with | [_], _ => rfl
    F10 := fn_mk (st := s_qfill) (ps := ["_law_state"]) X G a10 l10 c10 p10 fun _ _ _ _ _ _ us hl => match us, hl with | [_], _ => rfl
    F11 := fn_mk (st := s_qtake) (ps := ["_law_state", "_law_many"]) X G a11 l11 c11 p11 fun _ _ _ _ _ _ us hl => match us, hl with | [_, _], _ => rfl
    F12 := fn_mk (st := s_qwhole) (ps := ["_law_thing"]) X G a12 l12 c12 p12 fun _ _ _ _ _ _ us hl => match us, hl with | [_], _ => rfl
    F13 := fn_mk (st := s_qletter) (ps := ["_law_thing"]) X G a13 l13 c13 p13 fun _ _ _ _ _ _ us hl => match us, hl with | [_], _ => rfl
    F14 := fn_mk (st := s_qsome_letter) (ps := ["_law_state"]) X G a14 l14 c14 p14 fun _ _ _ _ _ _ us hl => match us, hl with | [_], _ => rfl
    F15 := fn_mk (st := s_qsome_cell) (ps := ["_law_state"]) X G a15 l15 c15 p15 fun _ _ _ _ _ _ us hl => match us, hl with | [_], _ => rfl
    F16 := fn_mk (st := s_qsome_row) (ps := ["_law_state", "_law_cells"]) X G a16 l16 c16 p16 fun _ _ _ _ _ _ us hl => match us, hl with | [_, _], _ => rfl
    F17 := fn_mk (st := s_qsome_cells) (ps := ["_law_state", "_law_many"]) X G a17 l17 c17 p17 fun _ _ _ _ _ _ us hl => match us, hl with | [_, _], _ => rfl
    F18 := fn_mk (st := s_qis_cell) (ps := ["_law_thing"]) X G a18 l18 c18 p18 fun _ _ _ _ _ _ us hl => match us, hl with | [_], _ => rfl
    F19 := fn_mk (st := s_qis_row) (ps := ["_law_row"]) X G a19 l19 c19 p19 fun _ _ _ _ _ _ us hl => match us, hl with | [_], _ => rfl
    F20 := fn_mk (st := s_qstrange) (ps := ["_law_state"]) X G a20 l20 c20 p20 fun _ _ _ _ _ _ us hl => match us, hl with | [_], _ => rfl
    F21 := fn_mk (st := s_qspoilt_tuple) (ps := ["_law_state", "_law_told"]) X G a21 l21 c21 p21 fun _ _ _ _ _ _ us hl => match us, hl with | [_, _], _ => rfl
    F22 := fn_mk (st := s_qspoilt_row) (ps := ["_law_state", "_law_row"]) X G a22 l22 c22 p22 fun _ _ _ _ _ _ us hl => match us, hl with | [_, _], _ => rfl
    F23 := fn_mk (st := s_law) (ps := ["_law_script"]) X G a23 l23 c23 p23 fun _ _ _ _ _ _ us hl => match us, hl with | [_], _ => rfl
    z_all := PySem.W.mg_none_of X G z_all
    z_bool := PySem.W.mg_none_of X G z_bool
    z_enumerate := PySem.W.mg_none_of X G z_enumerate
    z_int := PySem.W.mg_none_of X G z_int
    z_isinstance := PySem.W.mg_none_of X G z_isinstance
    z_len := PySem.W.mg_none_of X G z_len
    z_list := PySem.W.mg_none_of X G z_list
    z_min := PySem.W.mg_none_of X G z_min
    z_range := PySem.W.mg_none_of X G z_range
    z_str := PySem.W.mg_none_of X G z_str
    z_tuple := PySem.W.mg_none_of X G z_tuple
    z_zip := PySem.W.mg_none_of X G z_zip
    k_bool := ⟨k_bool_n, k_bool_b, k_bool_i, k_bool_s, k_bool_p, k_bool_l⟩
    k_int := ⟨k_int_n, k_int_b, k_int_i, k_int_s, k_int_p, k_int_l⟩
    k_str := ⟨k_str_n, k_str_b, k_str_i, k_str_s, k_str_p, k_str_l⟩
    k_tuple := ⟨k_tuple_n, k_tuple_b, k_tuple_i, k_tuple_s, k_tuple_p, k_tuple_l⟩
    d_ROWS := ⟨gd_ROWS_y, _, _, PySem.W.mg_of X G gd_ROWS_a, gd_ROWS_l, gd_ROWS_s, .cons (x := .ref gd_ROWS_0_y0) rfl (fun B φ H => rv_con (xs := [.str "cell", .str "figure"]) gd_ROWS_0_l0 (Nat.le_of_ble_eq_true rfl) (.cons ⟨_, rfl⟩ (.cons ⟨_, rfl⟩ .nil)) (rl_cons (by simp only [RepV]) (rl_cons (by simp only [RepV]) rl_nil))) (.cons (x := .ref gd_ROWS_1_y0) rfl (fun B φ H => rv_con (xs := [.str "cell", .str "cell"]) gd_ROWS_1_l0 (Nat.le_of_ble_eq_true rfl) (.cons ⟨_, rfl⟩ (.cons ⟨_, rfl⟩ .nil)) (rl_cons (by simp only [RepV]) (rl_cons (by simp only [RepV]) rl_nil))) (.cons (x := .ref gd_ROWS_2_y0) rfl (fun B φ H => rv_con (xs := [.str "cell", .str "cell"]) gd_ROWS_2_l0 (Nat.le_of_ble_eq_true rfl) (.cons ⟨_, rfl⟩ (.cons ⟨_, rfl⟩ .nil)) (rl_cons (by simp only [RepV]) (rl_cons (by simp only [RepV]) rl_nil))) (.cons (x := .ref gd_ROWS_3_y0) rfl (fun B φ H => rv_con (xs := [.str "cell", .str "cell", .str "cell"]) gd_ROWS_3_l0 (Nat.le_of_ble_eq_true rfl) (.cons ⟨_, rfl⟩ (.cons ⟨_, rfl⟩ (.cons ⟨_, rfl⟩ .nil))) (rl_cons (by simp only [RepV]) (rl_cons (by simp only [RepV]) (rl_cons (by simp only [RepV]) rl_nil)))) (.cons (x := .ref gd_ROWS_4_y0) rfl (fun B φ H => rv_con (xs := [.str "cell", .str "cell", .str "cell"]) gd_ROWS_4_l0 (Nat.le_of_ble_eq_true rfl) (.cons ⟨_, rfl⟩ (.cons ⟨_, rfl⟩ (.cons ⟨_, rfl⟩ .nil))) (rl_cons (by simp only [RepV]) (rl_cons (by simp only [RepV]) (rl_cons (by simp only [RepV]) rl_nil)))) (.cons (x := .ref gd_ROWS_5_y0) rfl (fun B φ H => rv_con (xs := [.str "cell", .str "cell", .str "cell"]) gd_ROWS_5_l0 (Nat.le_of_ble_eq_true rfl) (.cons ⟨_, rfl⟩ (.cons ⟨_, rfl⟩ (.cons ⟨_, rfl⟩ .nil))) (rl_cons (by simp only [RepV]) (rl_cons (by simp only [RepV]) (rl_cons (by simp only [RepV]) rl_nil)))) (.cons (x := .ref gd_ROWS_6_y0) rfl (fun B φ H => rv_con (xs := [.str "cell", .str "cell", .str "cell"]) gd_ROWS_6_l0 (Nat.le_of_ble_eq_true rfl) (.cons ⟨_, rfl⟩ (.cons ⟨_, rfl⟩ (.cons ⟨_, rfl⟩ .nil))) (rl_cons (by simp only [RepV]) (rl_cons (by simp only [RepV]) (rl_cons (by simp only [RepV]) rl_nil)))) (.cons (x := .ref gd_ROWS_7_y0) rfl (fun B φ H => rv_con (xs := [.str "cell", .str "cell", .str "cell"]) gd_ROWS_7_l0 (Nat.le_of_ble_eq_true rfl) (.cons ⟨_, rfl⟩ (.cons ⟨_, rfl⟩ (.cons ⟨_, rfl⟩ .nil))) (rl_cons (by simp only [RepV]) (rl_cons (by simp only [RepV]) (rl_cons (by simp only [RepV]) rl_nil)))) (.cons (x := .ref gd_ROWS_8_y0) rfl (fun B φ H => rv_con (xs := [.str "cell", .str "cell"]) gd_ROWS_8_l0 (Nat.le_of_ble_eq_true rfl) (.cons ⟨_, rfl⟩ (.cons ⟨_, rfl⟩ .nil)) (rl_cons (by simp only [RepV]) (rl_cons (by simp only [RepV]) rl_nil))) (.cons (x := .ref gd_ROWS_9_y0) rfl (fun B φ H => rv_con (xs := [.str "cell", .str "cell"]) gd_ROWS_9_l0 (Nat.le_of_ble_eq_true rfl) (.cons ⟨_, rfl⟩ (.cons ⟨_, rfl⟩ .nil)) (rl_cons (by simp only [RepV]) (rl_cons (by simp only [RepV]) rl_nil))) (.cons (x := .ref gd_ROWS_10_y0) rfl (fun B φ H => rv_con (xs := [.str "cell", .str "cell", .str "cell", .str "cell"]) gd_ROWS_10_l0 (Nat.le_of_ble_eq_true rfl) (.cons ⟨_, rfl⟩ (.cons ⟨_, rfl⟩ (.cons ⟨_, rfl⟩ (.cons ⟨_, rfl⟩ .nil)))) (rl_cons (by simp only [RepV]) (rl_cons (by simp only [RepV]) (rl_cons (by simp only [RepV]) (rl_cons (by simp only [RepV]) rl_nil))))) (.cons (x := .ref gd_ROWS_11_y0) rfl (fun B φ H => rv_con (xs := [.str "figure"]) gd_ROWS_11_l0 (Nat.le_of_ble_eq_true rfl) (.cons ⟨_, rfl⟩ .nil) (rl_cons (by simp only [RepV]) rl_nil)) (.cons (x := .ref gd_ROWS_12_y0) rfl (fun B φ H => rv_con (xs := [.str "cell"]) gd_ROWS_12_l0 (Nat.le_of_ble_eq_true rfl) (.cons ⟨_, rfl⟩ .nil) (rl_cons (by simp only [RepV]) rl_nil)) (.nil))))))))))))), by decide +kernel⟩
  }
  exact ⟨_, fun s v => .of_eq rfl, fun base XB _ => (fns_all Z 12 23 _ rfl).imp fun _ _ _ _ h => h _⟩
theorem walk {l : PySem.W.OpenLaw} {q : Program} {loose : List Str} {XP : (Str -> Option Value) -> Heap -> Prop} {YP : World -> Heap -> Prop} {d : DefRec} {K : Params -> PySem.W.Frag} (hn : l.most = some 63) (hdf : d.params.defaults = [])
    (hY : ∀ (w : World) (h : Heap), YP w h -> (K w.params).In h)
    (F : ∀ (w : World) (mg : Str -> Option Value) (fa : Addr) (h : Heap), (K w.params).In h -> h.Ns mainGlobals mg -> mg d.name = some (.ref fa) ->
      ∃ fd : FuncData, (∀ (s : Shared) (u : Value), BindsTo s fd ⟨[u], []⟩ [("_law_script", u)]) /\ ∀ base : Heap, (K w.params).In base -> base.Ns mainGlobals mg -> FnOk l.prog w (K w.params) mg base (CX1 l.prog w) 12 fa fd ["_law_script"] (spX (K w.params) (callT T 12) i_law)) :
    PySem.W.WalkO q loose XP YP l.row.toRowW d [] (fun f vs => PySem.call f vs) :=
  L2.walk_of (n := 63) (k := 12) (x := "_law_script") (CX := fun w => CX1 l.prog w) (sp := fun w => spX (K w.params) (callT T 12) i_law) hn (by decide) hdf ⟨rfl, by decide, by decide⟩ hY F (fun w H a ns hl _ hS => sp_script law_true hl hS) fun _ _ _ _ _ z => cx1_no z
end WK
open PySem PySem.W PyProof.Rows
namespace PySem.W.Fast
def tw13353833665933091095:=Nat
def tw6362515724903009485:=Nat
def tw5525122983507054527:=Nat
def tw7651084296084098139:=Nat
def tw1517347961338542038:=Nat
def tw50382305737037314:=Nat
def tw6101780146163756577:=Nat
def tw1189041142149386211:=Nat
def tw5471946484158195222:=Nat
def tw18335061168667445965:=Nat
def tw3481327558211708174:=Nat
def tw2316728545195741147:=Nat
def tw16643523848532434327:=Nat
def tw5898200894777045457:=Nat
def tw8336360222364804776:=Nat
def tw7491759896415601713:=Nat
def tw12713970972487994686:=Nat
def tw4096824041659528869:=Nat
def tw5583025162889812609:=Nat
def tw17959844096829074560:=Nat
def tw7586082714315421457:=Nat
def tw5730538415354283539:=Nat
def tw16863119534568540254:=Nat
def tw11722649470249084180:=Nat
def tw3258626886238733610:=Nat
def tw971234644542749266:=Nat
def tw1753985723684573654:=Nat
def tw11937091111360814312:=Nat
def tw14023656112095870245:=Nat
def tw16843726162442100776:=Nat
def tw15216506329135768980:=Nat
def tw11569919203696084197:=Nat
def tw14881918511970088126:=Nat
def tw16987246301634981840:=Nat
def tw17908761232424396885:=Nat
def tw1845641834327783527:=Nat
def tw3812926236898590744:=Nat
def tw14355145784410650079:=Nat
def tw18234250242334944578:=Nat
def tw347786988257474292:=Nat
def tw4371907117077196159:=Nat
def tw12633294200618309624:=Nat
def tw11984131463611928726:=Nat
def tw18438953060733626147:=Nat
def tw14776792000734090989:=Nat
def tw6577655951262730905:=Nat
def tw1866671339326587254:=Nat
def tw12404453446635550007:=Nat
def tw12253578304913030747:=Nat
def tw9001056189050758479:=Nat
def tw7344797494667267355:=Nat
def tw16923566026073061163:=Nat
def tw11414066875794822671:=Nat
def tw2597147037723675475:=Nat
def tw18095961294347967427:=Nat
def tw11893680223739970799:=Nat
def tw11845878653455481230:=Nat
def tw12447428014864565485:=Nat
def tw15617392464022975327:=Nat
def tw1703739172279889595:=Nat
def tw50072901573171291:=Nat
def tw13437534487724913628:=Nat
def tw8723209302045208503:=Nat
def tw2126039692124496673:=Nat
def tw7978737735880499706:=Nat
def tw3220005279643155079:=Nat
def tw7293747069823468156:=Nat
def tw10582815199748791454:=Nat
def tw8817437717952603799:=Nat
def tw8727149383801304329:=Nat
def tw8732592103605373200:=Nat
def tw193861372692103894:=Nat
def tw6667883762418271083:=Nat
def tw17918728420196581412:=Nat
def tw14235431803151736875:=Nat
def tw11251649126757603810:=Nat
def tw13155332175059625556:=Nat
def tw15957821868886136902:=Nat
def tw17314279897791894990:=Nat
def tw1794164541247512834:=Nat
def tw1482242725036734906:=Nat
def tw286271682295765645:=Nat
def tw11795961626773218825:=Nat
def tw14168201521936834183:=Nat
def tw3859744738379156212:=Nat
def tw1725841071518615798:=Nat
def tw4814404074367970483:=Nat
def tw4889762169844226879:=Nat
def tw17835246757842095661:=Nat
def tw14660962276213676704:=Nat
def tw12407906255780999563:=Nat
def tw4042673788559448679:=Nat
def tw8310065551332641917:=Nat
def tw7648622526781223132:=Nat
def tw18016047540558726703:=Nat
def tw6430592281853646086:=Nat
def tw7359254937818245529:=Nat
def tw6976588193044605380:=Nat
def tw4281069435206110083:=Nat
def tw15861022026419379971:=Nat
def tw16707263611771175053:=Nat
def tw15002340503635331746:=Nat
def tw9113952362651478070:=Nat
def tw10739040431697812179:=Nat
def tw4157395971486989143:=Nat
def tw7408719871040446610:=Nat
end PySem.W.Fast
set_option maxRecDepth 100000 in
set_option maxHeartbeats 0 in
theorem PySem.Challenge.cw_widewords_k09_rows_looked_at_holds : PySem.Challenge.rw_widewords_k09_rows_looked_at.Holds := by
  w_on; o_law; k_head; (case hw => w_witness2)
  k_fill
  refine WK.walk (l := PySem.Challenge.rw_widewords_k09_rows_looked_at) rfl rfl (fun w h Y => PySem.W.kIn_of Y) ?F
  case F =>
    intro w mg fa h KX G hmg
    refine' WK.all_mk KX G hmg ?a0 ?l0 ?c0 ?p0 ?a1 ?l1 ?c1 ?p1 ?a2 ?l2 ?c2 ?p2 ?a3 ?l3 ?c3 ?p3 ?a4 ?l4 ?c4 ?p4 ?a5 ?l5 ?c5 ?p5 ?a6 ?l6 ?c6 ?p6 ?a7 ?l7 ?c7 ?p7 ?a8 ?l8 ?c8 ?p8 ?a9 ?l9 ?c9 ?p9 ?a10 ?l10 ?c10 ?p10 ?a11 ?l11 ?c11 ?p11 ?a12 ?l12 ?c12 ?p12 ?a13 ?l13 ?c13 ?p13 ?a14 ?l14 ?c14 ?p14 ?a15 ?l15 ?c15 ?p15 ?a16 ?l16 ?c16 ?p16 ?a17 ?l17 ?c17 ?p17 ?a18 ?l18 ?c18 ?p18 ?a19 ?l19 ?c19 ?p19 ?a20 ?l20 ?c20 ?p20 ?a21 ?l21 ?c21 ?p21 ?a22 ?l22 ?c22 ?p22 ?a23 ?l23 ?c23 ?p23 ?z_all ?z_bool ?z_enumerate ?z_int ?z_isinstance ?z_len ?z_list ?z_min ?z_range ?z_str ?z_tuple ?z_zip ?k_bool_n ?k_bool_b ?k_bool_i ?k_bool_s ?k_bool_p ?k_bool_l ?k_int_n ?k_int_b ?k_int_i ?k_int_s ?k_int_p ?k_int_l ?k_str_n ?k_str_b ?k_str_i ?k_str_s ?k_str_p ?k_str_l ?k_tuple_n ?k_tuple_b ?k_tuple_i ?k_tuple_s ?k_tuple_p ?k_tuple_l ?gd_ROWS_a ?gd_ROWS_l ?gd_ROWS_s ?gd_ROWS_0_l0 ?gd_ROWS_1_l0 ?gd_ROWS_2_l0 ?gd_ROWS_3_l0 ?gd_ROWS_4_l0 ?gd_ROWS_5_l0 ?gd_ROWS_6_l0 ?gd_ROWS_7_l0 ?gd_ROWS_8_l0 ?gd_ROWS_9_l0 ?gd_ROWS_10_l0 ?gd_ROWS_11_l0 ?gd_ROWS_12_l0
    all_goals try delta WK.aN WK.cN WK.pN
    (case a0 => k_is); (case l0 => k_is); (case c0 => k_is); (case p0 => k_is); (case a1 => k_is); (case l1 => k_is); (case c1 => k_is); (case p1 => k_is)
    (case a2 => k_is); (case l2 => k_is); (case c2 => k_is); (case p2 => k_is); (case a3 => k_is); (case l3 => k_is); (case c3 => k_is); (case p3 => k_is)
    (case a4 => k_is); (case l4 => k_is); (case c4 => k_is); (case p4 => k_is); (case a5 => k_is); (case l5 => k_is); (case c5 => k_is); (case p5 => k_is)
    (case a6 => k_is); (case l6 => k_is); (case c6 => k_is); (case p6 => k_is); (case a7 => k_is); (case l7 => k_is); (case c7 => k_is); (case p7 => k_is)
    (case a8 => k_is); (case l8 => k_is); (case c8 => k_is); (case p8 => k_is); (case a9 => k_is); (case l9 => k_is); (case c9 => k_is); (case p9 => k_is)
    (case a10 => k_is); (case l10 => k_is); (case c10 => k_is); (case p10 => k_is); (case a11 => k_is); (case l11 => k_is); (case c11 => k_is); (case p11 => k_is)
    (case a12 => k_is); (case l12 => k_is); (case c12 => k_is); (case p12 => k_is); (case a13 => k_is); (case l13 => k_is); (case c13 => k_is); (case p13 => k_is)
    (case a14 => k_is); (case l14 => k_is); (case c14 => k_is); (case p14 => k_is); (case a15 => k_is); (case l15 => k_is); (case c15 => k_is); (case p15 => k_is)
    (case a16 => k_is); (case l16 => k_is); (case c16 => k_is); (case p16 => k_is); (case a17 => k_is); (case l17 => k_is); (case c17 => k_is); (case p17 => k_is)
    (case a18 => k_is); (case l18 => k_is); (case c18 => k_is); (case p18 => k_is); (case a19 => k_is); (case l19 => k_is); (case c19 => k_is); (case p19 => k_is)
    (case a20 => k_is); (case l20 => k_is); (case c20 => k_is); (case p20 => k_is); (case a21 => k_is); (case l21 => k_is); (case c21 => k_is); (case p21 => k_is)
    (case a22 => k_is); (case l22 => k_is); (case c22 => k_is); (case p22 => k_is); (case a23 => k_is); (case l23 => k_is); (case c23 => k_is); (case p23 => k_is)
    (case z_all => k_is); (case z_bool => k_is); (case z_enumerate => k_is); (case z_int => k_is); (case z_isinstance => k_is); (case z_len => k_is); (case z_list => k_is); (case z_min => k_is)
    (case z_range => k_is); (case z_str => k_is); (case z_tuple => k_is); (case z_zip => k_is); (case k_bool_n => kit_is); (case k_bool_b => kit_is); (case k_bool_i => kit_is); (case k_bool_s => kit_is)
    (case k_bool_p => kit_is); (case k_bool_l => kit_is); (case k_int_n => kit_is); (case k_int_b => kit_is); (case k_int_i => kit_is); (case k_int_s => kit_is); (case k_int_p => kit_is); (case k_int_l => kit_is)
    (case k_str_n => kit_is); (case k_str_b => kit_is); (case k_str_i => kit_is); (case k_str_s => kit_is); (case k_str_p => kit_is); (case k_str_l => kit_is); (case k_tuple_n => kit_is); (case k_tuple_b => kit_is)
    (case k_tuple_i => kit_is); (case k_tuple_s => kit_is); (case k_tuple_p => kit_is); (case k_tuple_l => kit_is); (case gd_ROWS_a => k_is); (case gd_ROWS_l => k_is); (case gd_ROWS_s => rfl); (case gd_ROWS_0_l0 => k_is)
    (case gd_ROWS_1_l0 => k_is); (case gd_ROWS_2_l0 => k_is); (case gd_ROWS_3_l0 => k_is); (case gd_ROWS_4_l0 => k_is); (case gd_ROWS_5_l0 => k_is); (case gd_ROWS_6_l0 => k_is); (case gd_ROWS_7_l0 => k_is); (case gd_ROWS_8_l0 => k_is)
    (case gd_ROWS_9_l0 => k_is); (case gd_ROWS_10_l0 => k_is); (case gd_ROWS_11_l0 => k_is); (case gd_ROWS_12_l0 => k_is)
